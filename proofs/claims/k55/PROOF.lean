import PyProof.Rows.All
import KE.KDictOf
import PyProof.DictWalks
import Wide.All
import OpenK.AllK
import Wide.FinOn
import Lean
import PyProof.EqAt
import PyProof.EqKinds
import PyProof.TupleCall
import KE.LcSums
import PySem.Challenge.RW_fewways_k55_most_pairs_and_marks
open Array renaming length_toList->zA4,getElem?_eq_getElem->zAe,getElem?_toList->zAi,getD_eq_getD_getElem?->zBS,getElem?_eq_some_iff->zBa,getD->zCH,getElem?_eq_none->zCZ,replicate->zDd,toList_setIfInBounds->zDj,forIn_toList->zEq,toList_push->zFE,getElem_mem_toList->zGI,toList_filterMap->zGZ,toList_replicate->zG0,toArray_toList->zGg,toList_filter->zGo,foldl_toList->zHF,toList->zI5
open Array.Perm renaming refl->zGf
open Bool renaming false_eq_true->zAZ,false_ne_true->zA0,and_eq_true->zA5,not_true->zCS,not_false->zDF,and_true->zEO,eq_iff_iff->zE6,eq_false_iff->zFJ,not_eq_true'->zFK,or_eq_true->zFm,and_assoc->zGJ,and_false->zGK,false_and->zIV
open False renaming elim->zAI
open ForInStep renaming yield->zBf
open Function renaming comp_def->zCu,comp->zHa
open Int renaming toNat_natCast->zCP,toNat_of_nonneg->zCV,emod_lt_of_pos->zCz,emod_nonneg->zDk,zero_add->zFZ,lt_irrefl->zIi
open LawfulBEq renaming eq_of_beq->zIH
open List renaming map_cons->zAD,length_map->zAE,getElem?_eq_getElem->zAH,mem_cons_self->zAK,mem_cons_of_mem->zAL,mem_singleton->zAM,map_map->zAN,getElem?_map->zAO,getElem?_eq_some_iff->zAP,mem_cons->zAT,size_toArray->zAX,mem_map->zAY,replicate->zA2,mem_append->zA3,lookup_cons->zA6,map_append->zA7,getD_eq_getElem?_getD->zA8,length_append->zA9,nodup_append->zAa,mem_append_left->zAb,mem_append_right->zAd,length_cons->zAk,range->zAm,mem_filter->zAq,mem_of_getElem?->zAt,zip_cons_cons->zAu,all_eq_true->zAv,nodup_cons->zAw,pairwise_cons->zAx,foldl_cons->zBN,append_assoc->zBO,append_nil->zB0,getElem?_append_left->zB1,not_mem_nil->zB2,filterMap_cons->zB3,length_set->zB7,getElem?_set_ne->zB8,map_congr_left->zBg,replicate_succ->zBh,mem_range->zBj,find?_cons->zBk,mem_filterMap->zBp,getElem?_replicate->zBt,nodup_nil->zBu,length_nil->zCA,getElem?_set_self->zCB,any_eq_true->zCI,length->zC5,length_replicate->zC6,any_cons->zCa,flatten_cons->zCb,getElem?_inj->zCc,getElem?_append_right->zCd,drop_eq_getElem_cons->zCg,getElem?_zip_eq_some->zCh,getElem_map->zCj,of_mem_zip->zCw,map_nil->zDR,mem_iff_getElem?->zDS,take_append_drop->zDT,length_take->zDZ,getElem?_range->zDi,nodup_iff_pairwise_ne->zDr,lookup_append->zDu,pairwise_iff_getElem->zDz,length_range->zEJ,getElem?_cons_succ->zEP,getElem?_cons_zero->zEQ,drop_length->zEW,map_snd_zip->zEX,filter_eq_nil_iff->zEZ,getElem?_eq_none->zE8,length_singleton->zE9,nil_append->zEa,filter_sublist->zEm,all_cons->zFB,foldl_append->zFM,all_map->zFP,ext_getElem->zF0,filter_cons->zF1,getElem_mem->zF2,map_fst_zip->zF3,mem_flatMap->zF4,take_length->zF5,length_zip->zFq,perm_ext_iff_of_nodup->zFy,mem_of_find?_eq_some->zGL,take_succ->zGM,length_filter_le->zGi,map_id'->zGj,max?_eq_some_iff->zGk,getElem_toArray->zGr,mem_of_mem_take->zGs,range_eq_range'->zGt,filter_eq_self->zHJ,range'->zHK,contains_cons->zHV,find?_eq_none->zHW,getElem_range->zHX,map->zHY,zip_nil_right->zHZ,foldl->zHc,getElem?_set->zHd,pairwise_map->zHe,zip_map_left->zHf,zip_nil_left->zHg,mem_reverse->zHx,nodup_range->zHy,perm_middle->zHz,range'_succ->zIA,forIn_cons->zIN,zip_append->zIO,map_drop->zI6,map_take->zI7,any_map->zIl
open List.Pairwise renaming nil->zFx,filter->zIj,of_map->zIk
open List.Perm renaming refl->zBK,swap->zCG,cons->zHI
open List.Sublist renaming map->zEf
open Nat renaming le_refl->zAS,lt_of_lt_of_le->zAW,ne_of_lt->zA1,zero_le->zAf,le_trans->zAn,lt_irrefl->zBQ,le_of_lt->zBZ,ne_of_gt->zB4,lt_succ_self->zBb,lt_succ_of_lt->zBi,le_of_lt_succ->zBv,le_of_ble_eq_true->zC7,le_succ->zCm,succ_pos->zCq,mod_lt->zDG,lt_trans->zDX,lt_trichotomy->zFQ,min_self->zF6,zero_add->zF7,le_add_right->zFc,not_lt_zero->zFz,not_lt->zG1,lt_of_le_of_lt->zHh,le_max_right->zIP,le_of_not_lt->zIQ,le_max_left->zIW
open Ne renaming symm->zDV
open Option renaming map_eq_some_iff->zCY,map_some->zCr,isSome_some->zEn,isSome_map->zFC,isSome_none->zGv,bind_some->zH0,map_none->zHi,none->zI8
open Option.some renaming inj->zAs
open Or renaming inr->zBR,inl->zBq
open Prod renaming fst->zFd,ext->zH1,snd->zH2
open PyProof.Rows renaming IntsAre->zBH,seqObj->zB9,step_dedup->zBx,KeyOrd->zCN,callWith_type1->zDE,SortKind->zDH,get?_update_seq->zDI,SortSt->zD3,kindOf->zD4,firstMet->zEU,envOfC->zE1,AllBare->zEo,listUpdate_at->zFh,lt_int->zFr,sortedHeap->zGG,failedOf->zG3,pendingOf->zGa,subscriptTail_builtinR->zHq,listItems_at->zIK,seqEpoch_at->zI0
open PyProof.Rows.F renaming plain_set_update_loop->zC1,entry_set_update_loop->zEC
open PyProof.Rows.IntsAre renaming int_at->zHN,length->zHb
open PyProof.Rows.KeyOrd renaming kle_refl->zCp,kle_trans->zEL,kle_of_klt->zFA,kle_antisymm->zGh
open PySem renaming wpAny_bind->zAB,Shared->zAF,wpAny_pure->zAG,sizeLine->zAQ,starEach->zAU,Program->zAV,Around->zAc,FuncData->zAg,mainGlobals->zAj,mem_of_lookup->zAy,bootBuiltins->zAz,compareOp->zBA,wpAny_newObj_type->zBC,sysModules->zBE,wpAny_holding->zBT,wpAny_call_entry->zBV,wpAny_mono->zBX,wpAny_setState_of->zBY,attributeBase->zBd,sizeLine_eq->zBe,foldedSetIterable->zBl,wpAny_dictEntries->zBm,wpAny_callSpecial?_slot->zCD,wpAny_fieldsOf->zCF,codeAny_builtin->zCJ,SetTable->zCK,behindInMarks->zCM,codeAny->zCR,binaryOp->zCU,backTo->zCW,wpAny_truthy_bool->zCX,wpAny_typeNameOfWhole_itemiter->zC2,swapsWith->zC3,wpAny_typeNameOfWhole_valiter->zC4,holding->zC8,Keyword->zCe,wpAny_passesOwn->zCf,assignEach->zCk,intKind->zCo,wpAny_typeNameOf_itemiter->zCs,GenState->zCv,wpAny_forIn_list->zCx,Builtin->zCy,wpAny_typeNameOf_valiter->zDC,letOwnedTupleGo->zDJ,tupleKind->zDK,tupleKind_room_in1->zDL,wpAny_Call_method0_late->zDM,wpAny_dictEpoch->zDN,wpAny_setField_rec->zDO,wpAny_isOneOf_itemiter->zD5,IsItemIter->zD6,wpAny_loadPart_at->zD9,firstArgMember->zDb,wpAny_setField->zDc,DictEntry->zDe,evalArgs_none->zDf,pyNext->zDg,wpAny_isOneOf_valiter->zDh,wpAny_askSetting->zDn,wpAny_isInstance->zDo,NameKind->zDv,wpAny_attempt->zDx,wpAny_standAt->zDy,cellsFrom->zEG,keywordEach->zEH,wpAny_specialOf->zEI,Result->zER,codeAny_mono->zET,ofAClassStatement->zE2,wpAny_comprehension_free->zE3,wpAny_pyIter_list->zE4,wpAny_pyIter_slot->zE5,assign->zEh,Arguments->zEp,call_meetsIn->zEv,wpAny_execs_nil->zEw,wpAny_loadPart'->zEx,wpAny_notOrdered_dict->zEy,codeAny_call_builtin->zFI,newFunctionEnv->zFN,callerA->zFT,newList->zFU,standAt->zFV,wpAny_field->zFW,wpAny_of_eq->zFX,backToKw->zFg,rawInt->zFi,wpAny_Call_Name_kw->zFj,wpAny_newList->zFk,wpAny_pyIter_tuple->zFl,BindsTo->zFw,closureFor->zGE,relabel->zGF,typeLookup->zGH,pyIter->zGO,wpAny_typeOf->zGP,checkBuiltinCall->zGX,noFill_tuple_add->zGY,setField->zG4,excClassObj->zG8,hashByValue->zG9,richCompare->zGb,subscripted->zGc,valueAt->zGd,wpAny_letOwnedTupleGo_items->zGe,isSubtype_stop->zHB,isSubtype_type->zHC,recursionLimit->zHD,wpAny_runValue->zHE,Paired->zHM,call_meets->zHR,IsItemIterOut->zHU,call->zH3,plainId_quiet->zH6,seq_tuple_add->zH7,wpAny_handled->zH8,richCompare_meets_room->zHp,PassesOwn->zIC,builtinLookup_eq_fast->zIF,concat_meets->zIG,isSubtype->zII,lastMarks->zIJ,setSearch->zIL,wpAny_eqIsQuiet_tuple->zIM,boot_len->zIS,wpAny_loadName_local->zIT,wpAny_pyIter_valiter->zIU,collect->zIY,getItem->zIZ,unsupported->zI1,wpAny_isSubtype_exc->zI2,wpAny_loadName_cell->zI3,wpAny_throw->zI4,Within->zIb,newExc->zIc,wpAny_setItem_heap->zId,builtinsNs->zIq,searchCouldBeSeen->zIr,setsByText->zIs,typeIs_int->zIt,wpAny_Name->zIu,wpAny_assign_Name->zIv,wpAny_load->zIw
open PySem.Around renaming under_plainId->zC9
open PySem.AutoSeq1 renaming sub_tuple_tuple->zF9,list_insert_list_int_val_1->zIa
open PySem.Builtin.Dict renaming showsAll->zCT,entriesForEmpty->zEi,updateFrom->zFL,mergeDict->zFO,noArgs->zFn
open PySem.Builtin.Dict_items renaming ownsTuple->zBU,ownedTupleFields->zDp,ownedTupleIsFree->zDq,pairFromOwner->zEB,newIterator->zEK,dictOf->zE7
open PySem.Builtin.Frozenset renaming addrOf->zHr,newClass->zHs,sizeOf->zHt,slot0->zHu,updateFrom->zHv
open PySem.Builtin.List renaming listExtendWith->zDD,listFitsIndex->zDP,listTooLong->zDa,listLengthHint->zEl
open PySem.Builtin.Range renaming rangeSize->zIe
open PySem.Builtin.Tuple renaming tupleCompareSizes->zE0,tupleHashOf->zIf
open PySem.Calls renaming callWith_builtin->zBy,evalArgs_plain->zEe,spliced_cons->zEr,Name_function_global->zFo,spliced_nil->zHS
open PySem.Code renaming quiet_builtin->zEz
open PySem.F renaming slot_dict_valueiterator_next->zBo,slot_dict_itemiterator_next->zBs,plainAttrs_dict->zCQ,slot_dict_values->zCi,slot_dict_items->zCn,called_set->zCt,args_tuple_add_2->zDw,entry_tuple_add->zED,plainAttrs_list->zEE,slot_tuple_add->zEM,slot_list_append->zEV,typeOf_object_class->zEj,args_dict_valueiterator_next_1->zFY,args_dict_values_1->zF8,args_dict_itemiterator_next_1->zFa,entry_dict_valueiterator_next->zFb,args_dict_items_1->zFe,entry_dict_values->zFf,entry_dict_itemiterator_next->zFp,entry_dict_items->zFs,slot_list_insert->zFt,type_dict_values->zFu,type_list_append->zFv,plain_list_iadd->zGA,type_dict_items->zGB,plain_set_new->zGQ,slot_dict_get->zGR,slot_set_iter->zGS,slot_dict_values_iter->zGp,slot_gs_get->zGq,slot_dict_items_iter->zHG,sub_tuple_frozenset->zHT,sub_list_frozenset->zH9,slot_int_rmul->zIg,sub_tuple_set->zIh
open PySem.Heap renaming get?_push_of_some->zAC,get?_push_size->zAJ,lt_size->zAR,size_push->zBD,SameBut->zBW,get?_update_ne->zBz,get?_update_self->zDQ,ExtBut->zHH,size_update->zHw
open PySem.Heap.DictOf renaming new->zEs
open PySem.Heap.SameBut renaming update->zBP
open PySem.NameKind renaming free->zCE,cell->zDU
open PySem.Obj renaming mapSeq->zBw,data_mapFields->zFF,mapFields->zFG,isFreed_of_fields->zGu,data_mapDictKeys->zHL,putSet->zIB
open PySem.Paired renaming length->zD0,snoc->zI9
open PySem.SeqAt renaming EqAt->zCl
open PySem.SeqAt.EqAt renaming of_refs->zEc,same->zFD,int_int->zGU,int_str->zGV,str_int->zGW
open PySem.SeqAt.RcAt renaming lists_lengths->zFS,tuples->zG2,lists->zG6
open PySem.SetTable renaming runEnd->zAh,below->zAl,leap->zAp,bits->zAr,turns->zBF,insertAt->zBM,Probe->zBr,grown->zDA,layClean->zDs,toList_insertAt->zDt,has->zES,sizeAbove->zEg,insertAt_perm->zGC,advance->zGy,gaveWay->zGz,relaid->zHQ,fresh->zH4,fill->zHl,fits->zHm,laid->zHn,slot->zHo
open PySem.SetTable.below renaming go->zD1
open PySem.SetTable.layClean renaming free->zBJ
open PySem.SetTable.probe renaming go->zB6
open PySem.Shared renaming TypeIs->zD2
open PySem.Str renaming ofString->zEA
open PySem.Value renaming ref->zAo,none->zBB,type->zBn,int->zEF,builtin->zEN,bool->zEd,str->zG7,notImplemented->zGn,isInt->zHA,isStrOf->zIX,float->zIo
open PySem.W renaming Frag->zAA,mg_none_of->zBG,nsIn->zBI,kia_one->zBL,findIn->zB5,emptyDict->zBc,instObj->zCL,fnOf->zCO,keepIn->zDB,looks_findIn->zDW,mg_of->zDY,hideAll->zD7,hideAll_get->zD8,codeIn->zDl,kitOne->zDm,kas_rev->zEY,lookIn->zEb,Looks->zEk,kitx_dict->zEt,methodObj->zEu,plainGet->zFH,OpenLaw->zFR,cellsFrom_some->zGN,KasT->zGT,plainGet_of->zG5,kitx_tuple->zGl,of_hideAll->zGm,kas_place->zGw,kitx_list->zGx,kcp_self->zHO,ksm_same->zHP,InstAt->zHj,KdlSrc->zHk,WalkO->zID,excIn->zIE,isFn->zIR
open PySem.W.Looks renaming ld->zIm,now->zIn
open PySem.Walks renaming list->zH5,tuple->zIp
open Sum renaming inl->zCC,inr->zGD
open True renaming intro->zC0
noncomputable section
namespace PySem.W.Fast
def tw14096444393535663876:=0
def tw11732601727465009668:=0
def tw17903434533588779460:=0
def tw18303851247783387460:=0
def tw2319701730426532772:=0
def tw11489069733785338052:=0
def tw7045638172658859204:=0
def tw17477488030955231076:=0
def tw8009547068470951588:=0
def tw1668826003277384253:=0
def tw8926951790754487133:=0
def tw11625488120315458333:=0
def tw8227824212617052509:=0
def tw2655045598032163101:=0
def tw11596692674213488733:=0
def tw3795659842172068605:=0
def tw16993080799049347558:=0
def tw11980248029222389030:=0
def tw12348396134478593958:=0
def tw3687515316582104351:=0
def tw13739442225037962047:=0
def tw3974859221404620895:=0
def tw3680263763172945599:=0
def tw8740216366777012191:=0
def tw10733492749369221503:=0
def tw4936841463925825183:=0
def tw7234714127610562143:=0
def tw17153568777235493471:=0
def tw10104115094451431744:=0
def tw9135331088530650080:=0
def tw14345533651370623616:=0
def tw16315829810214897961:=0
def tw15832826408555580393:=0
def tw451641801649801417:=0
def tw11424856721931067593:=0
def tw16038593377382921161:=0
def tw17989585972569242242:=0
def tw9427278164183087618:=0
def tw3320466004218187010:=0
def tw13073669409168633634:=0
def tw14102431767741349954:=0
def tw16943662249646834402:=0
def tw6669400469659287138:=0
def tw6347329508837879394:=0
def tw17230136489969648843:=0
def tw10603167220002748491:=0
def tw12665529262093489995:=0
def tw17657060381589562891:=0
def tw4881420921968171755:=0
def tw4413963672724158123:=0
def tw11715607732762834251:=0
def tw16571187671209254956:=0
def tw12610170730405242252:=0
def tw14811119735938865420:=0
def tw4266686605096171532:=0
def tw12256996854161371084:=0
def tw12450991357837114661:=0
def tw5669021154622566853:=0
def tw15347666009897972869:=0
def tw14022473737080368677:=0
def tw5786061062814083566:=0
def tw5341712291419605966:=0
def tw4145784002943572142:=0
def tw3169232748268259150:=0
def tw6759355728419001998:=0
def tw14040846039638909582:=0
def tw16235019897668081582:=0
def tw7535476798196425390:=0
def tw5342710856205246983:=0
def tw271036047921177767:=0
def tw6579755799370939655:=0
def tw7177297409747359399:=0
def tw433261685189463591:=0
def tw7062129204553368712:=0
def tw837332960162701096:=0
def tw11275974709993252872:=0
def tw14513530218292285032:=0
def tw6805803090893749832:=0
def tw8744826894748858952:=0
def tw6521026347285653736:=0
def tw4354029306510020177:=0
def tw4043738300291934737:=0
def tw2156782279094298794:=0
def tw17331600731811240010:=0
def tw3792683840542735434:=0
def tw6358921152201600554:=0
def tw9334843262941277706:=0
def tw15278709331711465235:=0
def tw2352495553600193811:=0
def tw14372469255874675731:=0
def tw3829828935812367667:=0
def tw17323504463499949652:=0
def tw4091169295377062292:=0
def tw7089728289407671636:=0
def tw17611066423276659988:=0
def tw10288410912337343028:=0
def tw5819090924055148564:=0
def tw12074645657500753204:=0
def tw18405232575433931732:=0
def tw17390216655055025044:=0
def tw1660792531578371860:=0
def tw11395901390325785581:=0
def tw5476797553731083597:=0
def tw8732712325452524781:=0
def tw14238129190690335981:=0
def tw3059731384120219469:=0
def tw9852614702122483318:=0
def tw3744032209142979471:=0
def tw3912304269939177231:=0
def tw3822883427076990767:=0
def tw7785057213642544527:=0
def tw13596855176365989199:=0
def tw5912222925518477327:=0
def tw8114289235891996176:=0
def tw6529490223410854288:=0
def tw14505352502913562032:=0
def tw14636469045655938768:=0
def tw1101060213966598521:=0
def tw10007364366401961145:=0
def tw17878038205414539737:=0
def tw3258522976331174297:=0
def tw7717411588825483257:=0
def tw17145830394023894297:=0
def tw155429763976197337:=0
def tw7736917545331553145:=0
def tw4859594059358288761:=0
def tw17930423476284970809:=0
def tw12454566353872974585:=0
def tw15389020309710922649:=0
def tw14228135054678899026:=0
def tw4968013706001535122:=0
def tw17733209687725511090:=0
def tw3488932416380719538:=0
def tw4405169228804778002:=0
def tw12127011232765239346:=0
def tw10845887728733671410:=0
def tw9543037538768074203:=0
def tw2013038814761047387:=0
def tw14344891010925474139:=0
def tw14697118652433102715:=0
def tw3166827546714637179:=0
def tw12697810759191079739:=0
def tw16020229600777913179:=0
def tw13537958468510348731:=0
def tw8684165169059143292:=0
def tw17564338122352188060:=0
def tw3306213967710443036:=0
def tw1782696740743494780:=0
def tw14718806048503999612:=0
def tw3875819170427810133:=0
def tw11945181908390042581:=0
def tw10455394055368412277:=0
def tw13509595790247822389:=0
def tw2683277116467989429:=0
def tw9036458548052171774:=0
def tw7633001615662787486:=0
def tw5493949266867756350:=0
def tw5042908824378972414:=0
def tw7397635925945069822:=0
def tw8684702956155396695:=0
def tw3271131783795614999:=0
def tw6321947255603675351:=0
def tw1872674081567711447:=0
def tw6013190693653806711:=0
def tw6936106234606527991:=0
def tw6135337921578974935:=0
def tw4813040865523607863:=0
def tw6231390769666716440:=0
def tw5960744278328666840:=0
def tw12842904400198765153:=0
def tw6362984507433258753:=0
def tw2901144783344190689:=0
def tw14940814776764665953:=0
def tw9160008647412671265:=0
def tw11776957057454366785:=0
def tw8092808362616377818:=0
def tw3514736741551269946:=0
def tw15530622812172608346:=0
def tw6827397811875820250:=0
def tw18218723780723800730:=0
def tw11442809181599324826:=0
def tw4797692699349094650:=0
def tw17448149198209152675:=0
def tw2464981908370311107:=0
def tw10013591883514861251:=0
def tw15337466606327867011:=0
def tw5515473315225938499:=0
def tw13680637901291168259:=0
def tw4724613807470603363:=0
def tw18341087654174281027:=0
def tw5045549140935646179:=0
def tw9223353566257692609:=0
def tw15259627340430296911:=0
end PySem.W.Fast
abbrev gX:=List (Int×Int)
abbrev gV:=List (List Int)
abbrev hZ:=List (PySem.Addr×PySem.Obj)
abbrev hV:=Array (Int×PySem.Value)
abbrev iX:=List (PySem.Value×List Int)
abbrev kQ:=List (Option Nat)
set_option bootstrap.genMatcherCode false
set_option compiler.extract_closed false
set_option Elab.async false
set_option linter.all false
set_option maxRecDepth 100000
namespace L2
open PySem PySem.Spec PyProof.Rows
abbrev Key:=Sum Int Str
def yN:Key->Value->Bool
 | .inl k,v=>zHA k v
 | .inr x,v=>zIX x v
def aNY(w:World):Key->Int
 | .inl k=>hashInt k
 | .inr x=>hashStr w x
def bV:∀{k:Key} {v:Value},yN k v=true->(∃i t,k=zCC i/\v=zEF i t)\/(∃x t,k=zGD x/\v=zG7 x t)
 | .inl i,v,h=>by
  obtain⟨t,e⟩:=Value.isInt_shape (k:=i) (v:=v) h;exact .inl ⟨i,t,rfl,e⟩
 | .inr x,v,h=>by
  obtain⟨t,e⟩:=Value.isStrOf_shape (x:=x) (v:=v) h;exact .inr ⟨x,t,rfl,e⟩
def aE9(i:Int)(t:Tok):yN (.inl i) (.int i t)=true:=by simp[yN,zHA]
def aE8(x:Str)(t:Tok):yN (.inr x) (.str x t)=true:=by simp[yN,zIX]
def aL0(a b:Int):decide ((zCC a:Key)=zCC b)=(a==b):=by
 by_cases e:a=b
 .subst e;simp
 .have h:¬(zCC a:Key)=zCC b:=λ q=>e (Sum.inl.inj q)
  rw[decide_eq_false h];exact(beq_eq_false_iff_ne.mpr e).symm
def aLX(a b:Str):decide ((zGD a:Key)=zGD b)=decide (a=b):=by
 by_cases e:a=b
 .subst e;simp
 .have h:¬(zGD a:Key)=zGD b:=λ q=>e (Sum.inr.inj q)
  rw[decide_eq_false h,decide_eq_false e]
def aLZ(a:Int)(b:Str):decide ((zCC a:Key)=zGD b)=false:=decide_eq_false (λ q=>nomatch q)
def aLY(a:Str)(b:Int):decide ((zGD a:Key)=zCC b)=false:=decide_eq_false (λ q=>nomatch q)
def bZ(prog:zAV)(w:World):PySem.KeyKind prog w Key where
 is:=yN
 hash:=aNY w
 inj:=λ v a b ha hb=>by
  rcases bV ha with ⟨i,t,rfl,rfl⟩|⟨x,t,rfl,rfl⟩
  .rcases bV hb with ⟨j,u,rfl,e⟩|⟨y,u,rfl,e⟩
   .injection e with e1 _;rw[e1]
   .exact nomatch e
  .rcases bV hb with ⟨j,u,rfl,e⟩|⟨y,u,rfl,e⟩
   .exact nomatch e
   .injection e with e1 _;rw[e1]
 byValue:=λ k v h=>by
  rcases bV h with ⟨i,t,rfl,rfl⟩|⟨x,t,rfl,rfl⟩<;>rfl
 pyHash:=λ hv h=>by
  rcases bV hv with ⟨i,t,rfl,rfl⟩|⟨x,t,rfl,rfl⟩
  .exact wpAny_pyHash_int h
  .exact wpAny_pyHash_str h
 eqBool:=λ hu hv h=>by
  rcases bV hu with ⟨i,t,rfl,rfl⟩|⟨x,t,rfl,rfl⟩
  .rcases bV hv with ⟨j,u,rfl,rfl⟩|⟨y,u,rfl,rfl⟩
   .rw[aL0]at h;exact wpAny_eqBool_int h
   .rw[aLZ]at h;exact zGV i t y u _ _ _ _ h
  .rcases bV hv with ⟨j,u,rfl,rfl⟩|⟨y,u,rfl,rfl⟩
   .rw[aLY]at h;exact zGW x t j u _ _ _ _ h
   .rw[aLX]at h;exact wpAny_eqBool_str h
 «strs»:=λ k x t v h=>by
  rcases bV h with ⟨i,u,rfl,e⟩|⟨y,u,rfl,e⟩
  .exact nomatch e
  .injection e with e1 _
   subst e1;cases v<;>rfl
def aBE(prog:zAV)(w:World)(i:Int)(t:Tok):(bZ prog w).is (.inl i) (.int i t)=true:=aE9 i t
def aBD(prog:zAV)(w:World)(x:Str)(t:Tok):(bZ prog w).is (.inr x) (.str x t)=true:=aE8 x t
inductive V where
 |non|bl (b:Bool)|int (i:Int)|str (x:Str)|byt (b:Array UInt8)|flt (b:UInt64)|ref (a:Addr)|ty (n:String)
 deriving DecidableEq
def RelV:V->Value->Prop
 | .non,u=>u=zBB
 | .bl b,u=>u=zEd b
 | .int i,u=>∃t,u=zEF i t
 | .str x,u=>∃t,u=zG7 x t
 | .byt b,u=>∃t,u=Value.bytes b t
 | .flt b,u=>∃t,u=zIo b t
 | .ref a,u=>u=zAo a
 | .ty n,u=>u=zBn n
abbrev Vals:List V->List Value->Prop:=zHM RelV
theorem Vals.length(r:Vals xs us):xs.length=us.length:=zD0 r
theorem Vals.get:∀{xs:List V} {us:List Value} {i:Nat} {x:V},Vals xs us->xs[i]? =some x->∃u,us[i]? =some u/\RelV x u
 |_,_,_,_,.nil,e=>by simp at e
 |_,_,0,_,.cons r _,e=>by simp at e;subst e;exact⟨_,rfl,r⟩
 |_,_,i+1,x,.cons _ t,e=>by
  obtain⟨u,h1,h2⟩:=Vals.get (i:=i) (x:=x) t (by simpa using e);exact⟨u,by simpa using h1,h2⟩
theorem Vals.append:∀{xs ys:List V} {us ws:List Value},Vals xs us->Vals ys ws->Vals (xs++ys) (us++ws)
 |_,_,_,_,.nil,s=>s
 |_,_,_,_,.cons r t,s=>.cons r (Vals.append t s)
theorem Vals.take:∀{xs:List V} {us:List Value} (n:Nat),Vals xs us->Vals (xs.take n) (us.take n)
 |_,_,0,_=>.nil
 |_,_,_+1,.nil=>.nil
 |_,_,n+1,.cons r t=>.cons r (Vals.take n t)
theorem Vals.drop:∀{xs:List V} {us:List Value} (n:Nat),Vals xs us->Vals (xs.drop n) (us.drop n)
 |_,_,0,r=>r
 |_,_,_+1,.nil=>.nil
 |_,_,n+1,.cons _ t=>Vals.drop n t
def qw:Option V->Option Value->Prop
 |some v,some u=>RelV v u
 |none,none=>True
 |_,_=>False
def KV{κ:Type}:List (κ×V)->List (κ×Value)->Prop:=zHM λ(p:κ×V) (q:κ×Value)=>p.1=q.1/\RelV p.2 q.2
def kV:Key->V
 | .inl i=>.int i
 | .inr x=>.str x
inductive HO where
 |lst (xs:List V)
 |tup (xs:List V)
 |dK (kvs:List (Key×V))|dT (kvs:List (List Key×V))
 |set (S:Int->Bool) (n:Nat)
 |ins (C dx:Addr) (fs:List (Str×V))
 |own (x:Addr)
 |xd (fs:List (Str×V))
 |met (f x:Addr)
 |rng (lo hi:Int)
 |frz (o:Obj) (u:HO)
 |tbl (q:Str)
 |ext (φ:Heap->Prop)
abbrev Hp:=Addr->Option HO
def upd(H:Hp)(a:Addr)(o:HO):Hp:=λ b=>if b=a then some o else H b
def aV:upd H a o a=some o:=by unfold upd;rw[if_pos rfl]
def aQ(h:b≠a):upd H a o b=H b:=by unfold upd;rw[if_neg h]
def aMd{H:Hp}{a b:Addr}{o u:HO}(h:H a=some o)(h':H b=some u)(d:o≠u):a≠b:=by
 intro e;subst e;rw[h]at h';exact d (zAs h')
def bN{H:Hp}{a b:Addr}{o:HO}(h:H a=some o)(h':H b=none):a≠b:=by
 intro e;subst e;rw[h]at h';cases h'
def NoD(h:Heap)(a:Addr):Prop:=∀o,h.get? a=some o->o.dict=none
theorem NoD.push(h:Heap){o:Obj}(hl:o.isFreed=false:=by rfl)(hd:o.dict=none:=by rfl):NoD (h.push o) h.objs.size:=λ u e=>by rw[zAJ _ hl]at e;cases e;exact hd
def NoD.keep{h h':Heap}{a:Addr}{o:Obj}(n:NoD h a)(e:h.get? a=some o)(e':h'.get? a=some o):NoD h' a:=λ u q=>by rw[e']at q;cases q;exact n o e
section
variable{H H':Hp}
def aNJ(q:Str)(oc:Obj):Prop:=∃vs t,oc.data= .fields vs/\vs[1]? =some (.str q t)
def TabOk(q:Str)(H:Hp)(ps:Array Value):Prop:=TriplesOk ps.toList/\∀pos cv,codeAmong pos ps.toList=some cv->∃c' oc,cv= .ref c'/\H c'=some (.frz oc (.own c'))/\aNJ q oc
def TabOk.mono(t:TabOk q H ps)(f:∀b o u,H b=some (.frz o u)->H' b=some (.frz o u)):TabOk q H' ps:=⟨t.1,λ pos cv hc=>let⟨c',oc,z,a,b⟩:=t.2 pos cv hc;⟨c',oc,z,f _ _ _ a,b⟩⟩
end
section
variable(P:zAV)(w:World)
def bM(H:Hp)(h:Heap)(a:Addr):HO->Prop
 | .lst xs=>xs.length<=zAQ/\∃(its:List Value) (n:Nat),Vals xs its/\h.get? a=some {cls:=.type "list",data:=.seq its.toArray n}
 | .tup xs=>(xs.length<=zAQ/\NoD h a)/\∃its:List Value,Vals xs its/\IsTup h a its.toArray
 | .dK kvs=>kvs.length<=zAQ/\(a==zBE)=false/\∃vs,KV kvs vs/\h.DictOf (bZ P w) a vs
 | .dT kvs=>kvs.length<=zAQ/\(a==zBE)=false/\∃xs:List (List Key×Addr×Value),
   zHM (λ(p:List Key×V) (q:List Key×Addr×Value)=>p.1=q.1/\H q.2.1=some (.tup (p.1.map kV))/\RelV p.2 q.2.2) kvs xs/\
   ∃o es ep,h.get? a=some o/\o.ExactDict/\o.data= .dict es ep/\es.toList=xs.map (entryOfKey (zDK (bZ P w)))/\(xs.map (·.1)).Nodup
 | .set S n=>h.SetOf (zCo P w) a S n
 | .ins C dx fs=>H dx=some (.own a)/\fs.length<=1000/\dx≠a/\h.get? a=some (zCL C dx)/\
   ∃mA,h.Ns1 dx mA/\(∀f,qw (fs.lookup f) (mA f))/\zIb mA (fs.map (·.1))
 | .own _=>∃o,h.get? a=some o
 | .xd fs=>∃mA,h.Ns1 a mA/\∀f,qw (fs.lookup f) (mA f)
 | .rng lo hi=>∃t u v,h.get? a=some {cls:=.type "range",data:=.fields #[.int lo t,.int hi u,.int 1 v]}
 | .frz o u=>h.get? a=some o/\bM H h a u
 | .tbl q=>∃ps,h.get? a=some {cls:=.none,data:=.fields ps}/\TabOk q H ps
 | .met f x=>h.get? a=some (zEu (.ref f) (.ref x))
 | .ext φ=>φ h/\(∃o,h.get? a=some o)/\∀h1 h2:Heap,φ h1->(∀o,h1.get? a=some o->h2.get? a=some o)->φ h2
def HOk(H:Hp)(h:Heap):Prop:=∀a o,H a=some o->bM P w H h a o
end
section
variable{P:zAV}{w:World}{H H':Hp}{h h':Heap}{a:Addr}{o:HO}
theorem bM.lt(x:bM P w H h a o):a<h.objs.size:=by
 cases o with
 |lst xs=>obtain⟨_,_,_,_,e⟩:=x;exact zAR e
 |tup xs=>obtain⟨_,_,_,p⟩:=x;exact p.lt
 |dK kvs=>obtain⟨_,_,_,_,o,_,_,e,_⟩:=x;exact zAR e
 |dT kvs=>obtain⟨_,_,_,_,o,_,_,e,_⟩:=x;exact zAR e
 |set S n=>obtain⟨o,_,_,_,e,_⟩:=x;exact zAR e
 |ins C dx fs=>obtain⟨_,_,_,e,_⟩:=x;exact zAR e
 |own y=>obtain⟨_,e⟩:=x;exact zAR e
 |xd fs=>obtain⟨_,⟨_,_,_,e,_⟩,_⟩:=x;exact zAR e
 |rng lo hi=>obtain⟨_,_,_,e⟩:=x;exact zAR e
 |frz ob u=>obtain⟨e,_⟩:=x;exact zAR e
 |tbl q=>obtain⟨ps,e,_⟩:=x;exact zAR e
 |met f y=>exact zAR (show h.get? a=some _ from x)
 |ext φ=>obtain⟨_,⟨_,e⟩,_⟩:=x;exact zAR e
theorem Paired.mapP:∀{l₁:List α} {l₂:List β},zHM F l₁ l₂->(∀a b,F a b->G a b)->zHM G l₁ l₂
 |_,_,.nil,_=>.nil
 |_,_,.cons r t,f=>.cons (f _ _ r) (Paired.mapP t f)
def bM.stay(x:bM P w H h a o)(k:∀b u,(b=a\/H b=some (.own a))->h.get? b=some u->h'.get? b=some u)
  (ho:∀b,H b=some (.own a)->H' b=some (.own a))(ht:∀b xs,H b=some (.tup xs)->H' b=some (.tup xs))(hz:∀b o u,H b=some (.frz o u)->H' b=some (.frz o u):=by exact λ _ _ _ q=>q):bM P w H' h' a o:=by
 induction o with
 |lst xs=>obtain⟨z,its,n,r,e⟩:=x;exact⟨z,its,n,r,k _ _ (.inl rfl) e⟩
 |tup xs=>obtain⟨z,its,r,ob,e,c⟩:=x;exact⟨⟨z.1,z.2.keep e (k _ _ (.inl rfl) e)⟩,its,r,ob,k _ _ (.inl rfl) e,c⟩
 |dK kvs=>obtain⟨z,y,vs,r,ob,es,ep,e,c⟩:=x;exact⟨z,y,vs,r,ob,es,ep,k _ _ (.inl rfl) e,c⟩
 |dT kvs=>
  obtain⟨z,y,xs,r,ob,es,ep,e,c⟩:=x;exact⟨z,y,xs,Paired.mapP r λ p q z=>⟨z.1,ht _ _ z.2.1,z.2.2⟩,ob,es,ep,k _ _ (.inl rfl) e,c⟩
 |set S n=>obtain⟨ob,es,ep,t,e,c⟩:=x;exact⟨ob,es,ep,t,k _ _ (.inl rfl) e,c⟩
 |ins C dx fs=>
  obtain⟨d,z,ne,e,mA,⟨od,es,ep,e2,c⟩,r⟩:=x;exact⟨ho _ d,z,ne,k _ _ (.inl rfl) e,mA,⟨od,es,ep,k _ _ (.inr d) e2,c⟩,r⟩
 |own y=>obtain⟨ob,e⟩:=x;exact⟨ob,k _ _ (.inl rfl) e⟩
 |xd fs=>obtain⟨mA,⟨od,es,ep,e,c⟩,r⟩:=x;exact⟨mA,⟨od,es,ep,k _ _ (.inl rfl) e,c⟩,r⟩
 |rng lo hi=>obtain⟨t,u,v,e⟩:=x;exact⟨t,u,v,k _ _ (.inl rfl) e⟩
 |frz ob u ih=>obtain⟨e,q⟩:=x;exact⟨k _ _ (.inl rfl) e,ih q⟩
 |tbl q=>
  obtain⟨ps,e,t⟩:=x;exact⟨ps,k _ _ (.inl rfl) e,t.mono hz⟩
 |met f y=>
  have e:h.get? a=some (zEu (.ref f) (.ref y)):=x;show h'.get? a=some (zEu (.ref f) (.ref y));exact k a _ (.inl rfl) e
 |ext φ=>obtain⟨p,⟨o,e⟩,st⟩:=x;exact⟨st _ _ p λ o q=>k _ _ (.inl rfl) q,⟨o,k _ _ (.inl rfl) e⟩,st⟩
theorem HOk.lt(x:HOk P w H h)(e:H a=some o):a<h.objs.size:=(x a o e).lt
def HOk.fresh(x:HOk P w H h)(e:h.objs.size<=a):H a=none:=by
 cases q:H a with
 |none=>rfl
 |some u=>exact absurd (zAW (x.lt q) e) (zBQ _)
def HOk.kept(x:HOk P w H h)(k:∀b u,h.get? b=some u->h'.get? b=some u):HOk P w H h':=λ a o e=>
 (x a o e).stay (λ b u _ q=>k b u q) (λ _ q=>q) λ _ _ q=>q
def HOk.laid(x:HOk P w H h)(k:∀b u,h.get? b=some u->h'.get? b=some u)(hp:h.objs.size<=a)(new:bM P w (upd H a o) h' a o):HOk P w (upd H a o) h':=λ b u e=>by
 have hn:=x.fresh hp;by_cases hb:b=a
 .subst hb;rw[aV]at e;cases e;exact new
 .rw[aQ hb]at e
  exact(x b u e).stay (λ c v _ q=>k c v q) (λ c q=>by rw[aQ (bN q hn)];exact q) (λ c xs q=>by rw[aQ (bN q hn)];exact q) λ c o' u' q=>by rw[aQ (bN q hn)];exact q
end
def Rd(H:Hp)(a:Addr)(u:HO):Prop:=H a=some u\/∃o,H a=some (.frz o u)
def Rd.ok(r:Rd H a u)(x:HOk P w H h):bM P w H h a u:=by
 rcases r with r|⟨o,r⟩
 .exact x a u r
 .obtain⟨_,q⟩:=x a _ r
  exact q
def Mut:Option HO->Prop
 |some (.lst _)=>True
 |some (.dK _)=>True
 |some (.dT _)=>True
 |some (.set _ _)=>True
 |some (.ins _ _ _)=>True
 |some (.ext _)=>True
 |_=>False
section
variable{P:zAV}{w:World}{H:Hp}{h h':Heap}{x e:Addr}{o':HO}
def HOk.write(ok:HOk P w H h)(mu:Mut (H x))(he:e=x\/H e=some (.own x))(k:∀b u,b≠e->h.get? b=some u->h'.get? b=some u)(heo:∃u,h'.get? e=some u)
  (new:bM P w (upd H x o') h' x o'):HOk P w (upd H x o') h':=λ b u q=>by
 have nown:∀c y,H c=some (.own y)->c≠x:=λ c y r z=>by subst z;rw[r]at mu;exact mu
 have ntup:∀c xs,H c=some (.tup xs)->c≠x:=λ c xs r z=>by subst z;rw[r]at mu;exact mu
 by_cases hb:b=x
 .subst hb;rw[aV]at q;cases q;exact new
 .rw[aQ hb]at q
  by_cases hbe:b=e
  .have q':H b=some (.own x):=by
    rcases he with z|z
    .exact absurd (hbe.trans z) hb
    .rw[hbe];exact z
   rw[q]at q';cases q';obtain⟨v,hv⟩:=heo;exact⟨v,by rw[hbe];exact hv⟩
  .refine(ok b u q).stay (λ c v hc r=>k c v ?_ r) (λ c r=>by rw[aQ (nown c b r)];exact r) (λ c xs r=>by rw[aQ (ntup c xs r)];exact r) λ c o2 u2 r=>by rw[aQ λ z=>by subst z;rw[r]at mu;exact mu];exact r
   rcases hc with rfl|hc
   .exact hbe
   .rintro rfl
    rcases he with z|z
    .exact nown c b hc z
    .rw[hc]at z;cases z;exact hb rfl
end
structure Un(fs ex:List Addr)(H H':Hp)(h h':Heap):Prop where
 keep:∀b o,h.get? b=some o->H b=none->b∉fs->b∉ex->h'.get? b=some o
 slot:∀b o,h.get? b=some o->H b=none->b∈fs->b∉ex->∃sl,h'.get? b=some {o with slots:=sl}
 free:∀b o,h.get? b=some o->H b=none->b∉ex->H' b=none
 there:∀b o,h.get? b=some o->b∉ex->∃o',h'.get? b=some o'
 tups:∀b xs,H b=some (.tup xs)->H' b=some (.tup xs)
 frzs:∀b o u,H b=some (.frz o u)->H' b=some (.frz o u)
 tbls:∀b q,H b=some (.tbl q)->H' b=some (.tbl q)
section
variable{fs ex:List Addr}{H H1:Hp}{h h1 h':Heap}{a x e:Addr}{o:HO}
def Un.any(u:Un fs ex H H1 h h1)(q:h.get? b=some ob)(n:H b=none)(hx:b∉ex):∃sl,h1.get? b=some {ob with slots:=sl}:=by
 by_cases hb:b∈fs
 .exact u.slot b ob q n hb hx
 .exact⟨ob.slots,u.keep b ob q n hb hx⟩
def Un.kept(k:∀b u,h.get? b=some u->h'.get? b=some u):Un fs ex H H h h':=
 ⟨λ b ob q _ _ _=>k b ob q,λ b ob q _ _ _=>⟨ob.slots,k b ob q⟩,λ _ _ _ n _=>n,λ b ob q _=>⟨ob,k b ob q⟩,λ _ _ q=>q,λ _ _ _ q=>q,λ _ _ q=>q⟩
def Un.refl:Un fs ex H H h h:=Un.kept λ _ _ q=>q
def Un.laid(k:∀b u,h.get? b=some u->h'.get? b=some u)(hp:h.objs.size<=a)(hn:H a=none):Un fs ex H (upd H a o) h h' where
 keep:=λ b u q _ _ _=>k b u q
 slot:=λ b u q _ _ _=>⟨u.slots,k b u q⟩
 free:=λ b u q n _=>by rw[aQ (zA1 (zAW (zAR q) hp))];exact n
 there:=λ b u q _=>⟨u,k b u q⟩
 tups:=λ b xs q=>by rw[aQ (bN q hn)];exact q
 frzs:=λ b u xs q=>by rw[aQ (bN q hn)];exact q
 tbls:=λ b r q=>by rw[aQ (bN q hn)];exact q
def Un.write(mu:Mut (H x))(he:e=x\/H e=some (.own x))(k:∀b u,b≠e->h.get? b=some u->h'.get? b=some u)(heo:∃u,h'.get? e=some u):Un fs ex H (upd H x o) h h':=by
 have hx:∀b,H b=none->b≠x:=λ b n z=>by subst z;rw[n]at mu;exact mu
 have hb:∀b,H b=none->b≠e:=λ b n z=>by
  subst z;rcases he with r|r
  .exact hx b n r
  .rw[n]at r;cases r
 have hm:∀b u,H b=some u->¬Mut (some u)->b≠x:=λ b u q nm z=>by subst z;rw[q]at mu;exact nm mu
 refine⟨λ b u q n _ _=>k b u (hb b n) q,λ b u q n _ _=>⟨u.slots,k b u (hb b n) q⟩,λ b u q n _=>by rw[aQ (hx b n)];exact n,λ b u q _=>?_,
  λ b xs q=>by rw[aQ (hm b _ q λ z=>z)];exact q,λ b u xs q=>by rw[aQ (hm b _ q λ z=>z)];exact q,λ b r q=>by rw[aQ (hm b _ q λ z=>z)];exact q⟩
 by_cases hbe:b=e
 .subst hbe;exact heo
 .exact⟨u,k b u hbe q⟩
end
def trk(h:Heap)(H:Hp):List Addr:=(zAm h.objs.size).filter λ a=>(H a).isSome
def aAD(h:Heap)(H:Hp):Heap:=zD7 h (trk h H)
def aEe(h:Heap)(H:Hp):(aAD h H).objs.size=h.objs.size:=PySem.W.hideAll_size _ _
def aGv(e:h.get? b=some o)(n:H b=none):(aAD h H).get? b=some o:=
 zD8 _ e λ hm=>by
  have q:(H b).isSome=true:=(zAq.mp hm).2;rw[n]at q;simp at q
def aIc(e:(aAD h H).get? b=some o):h.get? b=some o/\H b=none:=by
 have e':h.get? b=some o:=zGm (trk h H) e;refine⟨e',?_⟩;cases q:H b with
 |none=>rfl
 |some x=>
  have hm:b∈trk h H:=zAq.mpr ⟨zBj.mpr (zAR e'),by simp[q]⟩;have z:(aAD h H).get? b=none:=PySem.W.hideAll_none (trk h H) hm;rw[z]at e;cases e
def aJY(g h:Heap)(L:Addr):hZ:=(zAm h.objs.size).filterMap λ a=>if a=L\/(g.get? a).isSome=true then none else(h.get? a).map λ o=>(a,o)
def rest(g h:Heap)(L d:Addr):hZ:=(aJY g h L).filter λ p=>decide (p.1≠d)
structure Mod(K:zAA)(mg:Str->Option Value)(base:Heap):Prop where
 kin:K.In base
 glob:base.Ns zAj mg
 blt:∃mb,base.Ns zIq mb/\∀x:Str,x≠"__name__"->mb x=zAz x
 nolimit:base.NoLimit
structure Cx where
 prog:zAV
 w:World
 K:zAA
 mg:Str->Option Value
 base:Heap
 A:zAc
 N:List Str
 z4:zAF
 zS:Hp
 env:Env
 outer:List Env
 stack:List Env
 ex:List Addr
 fn:Str->Bool
 calm:Bool
 pn:hZ
 xe:Value->zAF->Prop
 ta:hZ:=[]
 tq:Str:=""
def frs(l:List Env):List Addr:=l.filterMap (·.frame)
abbrev Cx.fs(X:Cx):List Addr:=frs X.outer
def Vis(sc:Scope)(x:Str):Prop:=sc.names.lookup x=some .local\/sc.names.lookup x=some .cell\/sc.names.lookup x=some .free
def Loc(sc:Scope)(x:Str):Prop:=sc.names.lookup x=some .local\/sc.names.lookup x=some .cell
def Look(env:Env)(h:Heap)(m:Str->Option Value)(x:Str)(u:Value):Prop:=
 (env.kindOf x=some .local/\m x=some u)\/((env.kindOf x=some .cell\/env.kindOf x=some .free)/\∃c,env.cells.lookup x=some c/\h.IsCell c (some u))
structure Cx.Ok(X:Cx):Prop where
 mod:Mod X.K X.mg X.base
 kind:X.env.scope.kind= .function
 glob:X.env.globals=zAj
 blt:X.env.builtins=zIq
 above:X.z4.heap.objs.size<=X.env.locals
 inj:∀x y c,X.env.cells.lookup x=some c->X.env.cells.lookup y=some c->x=y
 has:∀x,(X.env.kindOf x=some .cell\/X.env.kindOf x=some .free)->∃c,X.env.cells.lookup x=some c
 cab:∀x c,X.fn x=true->X.env.cells.lookup x=some c->X.z4.heap.objs.size<=c
 hd:X.calm=true->X.A.handled=none
 frames:X.A.frames=some X.stack
 stk:X.stack=X.outer\/(X.stack=X.env::X.outer/\X.env.frame=some X.env.locals)
 exf:∀b∈X.ex,b≠X.env.locals/\∀x c,X.env.cells.lookup x=some c->c≠b
 bs:∀b o,X.base.get? b=some o->X.z4.heap.get? b=some o/\X.zS b=none
 bsz:X.base.objs.size<=X.z4.heap.objs.size
 noex:∀b o,X.base.get? b=some o->b∉X.ex
 exfs:∀b∈X.ex,b∉X.fs
 funs:X.z4.heap.FunFrames X.base X.outer
 frf:∀b∈X.fs,X.zS b=none
structure Inv(X:Cx)(kX:hZ)(Z:List (Option V))(H:Hp)(s:zAF):Prop where
 ok:X.Ok
 os:s.os=X.z4.os
 bare:zEo s.gens
 base:Un X.fs X.ex X.zS H X.z4.heap s.heap
 loc:∃m,s.heap.Ns X.env.locals m/\∀(i:Nat) (x:Str) (v:V),X.N[i]? =some x->Z[i]? =some (some v)->Vis X.env.scope x->∃u,RelV v u/\Look X.env s.heap m x u
 cell:∀x c,X.env.cells.lookup x=some c->∃v,s.heap.IsCell c v
 free:H X.env.locals=none
 freeC:∀x c,X.env.cells.lookup x=some c->H c=none
 pin:∀p∈X.pn++kX,s.heap.get? p.1=some p.2/\H p.1=none/\p.1≠X.env.locals/\p.1∉X.fs/\∀v,p.2.data≠.cell v
 hok:HOk X.prog X.w H s.heap
 len:Z.length=X.N.length
 tab:∀p∈X.ta,H p.1=none/\p.1≠X.env.locals/\p.1∉X.fs/\(∀q∈X.pn++kX,q.1≠p.1)/\∃ps,s.heap.get? p.1=some {cls:=.none,data:=.fields ps}/\TabOk X.tq H ps
section
variable{X:Cx}{kX:hZ}{Z:List (Option V)}{H H':Hp}{s:zAF}{h':Heap}
def Cx.Ok.nofr(ok:X.Ok)(e:X.base.get? b=some o):b∉X.fs:=λ hb=>by
 have:=(ok.funs.mem hb).1
 rw[e]at this;cases this
theorem Inv.bs(I:Inv X kX Z H s):∀b o,X.base.get? b=some o->s.heap.get? b=some o/\H b=none:=λ b o e=>
 ⟨I.base.keep b o (I.ok.bs b o e).1 (I.ok.bs b o e).2 (I.ok.nofr e) (I.ok.noex b o e),I.base.free b o (I.ok.bs b o e).1 (I.ok.bs b o e).2 (I.ok.noex b o e)⟩
def Inv.bk(I:Inv X kX Z H s):∀b o,X.base.get? b=some o->s.heap.get? b=some o:=λ b o e=>(I.bs b o e).1
theorem Inv.mod(I:Inv X kX Z H s):Mod X.K X.mg X.base:=I.ok.mod
def Inv.kIn(I:Inv X kX Z H s):X.K.In s.heap:=I.ok.mod.kin.keeps I.bk
def Inv.fr(I:Inv X kX Z H s):∃m,Fr X.base X.env.locals s.heap m:=
 let⟨m,hn,_⟩:=I.loc
 ⟨m,hn,I.bk,zAn I.ok.bsz I.ok.above⟩
theorem Inv.lt(I:Inv X kX Z H s):X.env.locals<s.heap.objs.size:=let⟨_,hn,_⟩:=I.loc;hn.lt
def Inv.sz(I:Inv X kX Z H s):X.z4.heap.objs.size<=s.heap.objs.size:=zAn I.ok.above (zBZ I.lt)
def Inv.nofs(I:Inv X kX Z H s)(h:s.heap.objs.size<=a):a∉X.fs:=λ hb=>by
 obtain⟨_,o,ho,_⟩:=I.ok.funs.mem hb;exact absurd (zAW (zAR ho) (zAn I.sz h)) (zBQ _)
def Inv.cne(I:Inv X kX Z H s):∀x c,X.env.cells.lookup x=some c->c≠X.env.locals:=λ x c e z=>by
 obtain⟨v,o,ho,hd⟩:=I.cell x c e;obtain⟨m,⟨o',es,ep,ho',hd',_⟩,_⟩:=I.loc;rw[z,ho']at ho;cases ho;rw[hd']at hd;cases hd
theorem Inv.funs(I:Inv X kX Z H s):s.heap.FunFrames X.base X.outer:=by
 have all:∀(l:List Env),(∀b∈frs l,b∈X.fs)->X.z4.heap.FunFrames X.base l->s.heap.FunFrames X.base l:=by
  intro l;induction l with
  |nil=>intro _ _;trivial
  |cons env r ih=>
   intro hs hl;obtain⟨hk,⟨L,o,hf,hn,ho,hd⟩,hr⟩:=hl;have hL:L∈X.fs:=hs L (by unfold frs;rw[zB3,hf];exact zAK);obtain⟨sl,e⟩:=I.base.slot L o ho (I.ok.frf L hL) hL λ z=>I.ok.exfs L z hL
   exact⟨hk,⟨L,_,hf,hn,e,hd⟩,ih (λ b hb=>hs b (by unfold frs;rw[zB3,hf];exact zAL _ hb)) hr⟩
 exact all X.outer (λ _ hb=>hb) I.ok.funs
theorem Inv.stack(I:Inv X kX Z H s):s.heap.FunFrames X.base X.stack:=by
 rcases I.ok.stk with e|⟨e,hf⟩
 .rw[e];exact I.funs
 .rw[e]
  obtain⟨m,hn,_⟩:=I.loc;refine .cons (by rw[I.ok.kind];decide) hf hn ?_ I.funs;exact Heap.get?_none_of_le (zAn I.ok.bsz I.ok.above)
def Inv.stkSub(I:Inv X kX Z H s):∀b∈frs X.stack,b∈X.env.locals::X.fs:=λ b hb=>by
 rcases I.ok.stk with e|⟨e,hf⟩
 .rw[e]at hb;exact zAL _ hb
 .rw[e]at hb
  unfold frs at hb;rw[zB3,hf]at hb;exact hb
def Inv.stkFree(I:Inv X kX Z H s):∀b∈frs X.stack,H b=none:=λ b hb=>by
 rcases zAT.mp (I.stkSub b hb)with e|hb
 .rw[e];exact I.free
 .obtain⟨_,o,ho,_⟩:=I.ok.funs.mem hb
  exact I.base.free b o ho (I.ok.frf b hb) λ z=>I.ok.exfs b z hb
def Inv.step{g':Array zCv}{t':Nat}{d':Drawn}{ch:List Addr}(I:Inv X kX Z H s)
  (hch:∀b∈ch,(b∈X.ex\/X.z4.heap.objs.size<=b)/\b≠X.env.locals/\(∀x c,X.env.cells.lookup x=some c->c≠b)/\∀p∈X.ta++(X.pn++kX),p.1≠b)
  (keep:∀b o,b≠X.env.locals->b∉X.fs->b∉ch->s.heap.get? b=some o->H b=none->h'.get? b=some o)
  (slot:∀b o,b≠X.env.locals->b∈X.fs->b∉ch->s.heap.get? b=some o->H b=none->∃sl,h'.get? b=some {o with slots:=sl})(free:∀b o,b∉ch->s.heap.get? b=some o->H b=none->H' b=none)
  (there:∀b o,b∉ch->s.heap.get? b=some o->∃o',h'.get? b=some o')
  (tups:∀b xs,H b=some (.tup xs)->H' b=some (.tup xs))(frzs:∀b o u,H b=some (.frz o u)->H' b=some (.frz o u))(tbls:∀b q,H b=some (.tbl q)->H' b=some (.tbl q))
  (ns:∀m,s.heap.Ns X.env.locals m->h'.Ns X.env.locals m)(hok:HOk X.prog X.w H' h')(hg:zEo g'):
  Inv X kX Z H' {s with heap:=h',gens:=g',drawn:=d',toks:=t'}:=by
 have neL:∀b o,X.z4.heap.get? b=some o->b≠X.env.locals:=λ b o e=>zA1 (zAW (zAR e) I.ok.above)
 have neC:∀b o,X.z4.heap.get? b=some o->b∉X.ex->b∉ch:=λ b o e hx hb=>by
  rcases(hch b hb).1 with z|z
  .exact hx z
  .exact absurd (zAW (zAR e) z) (zBQ _)
 have dL:∀x c,X.env.cells.lookup x=some c->∀v,s.heap.IsCell c v->h'.IsCell c v:=λ x c e v ⟨o,ho,hd⟩=>by
  have nch:c∉ch:=λ z=>(hch c z).2.2.1 x c e rfl
  by_cases hc:c∈X.fs
  .obtain⟨sl,q⟩:=slot c o (I.cne x c e) hc nch ho (I.freeC x c e)
   exact⟨_,q,hd⟩
  .exact⟨o,keep c o (I.cne x c e) hc nch ho (I.freeC x c e),hd⟩
 refine⟨I.ok,I.os,hg,⟨λ b o e n hb hx=>?_,λ b o e n hb hx=>?_,λ b o e n hx=>?_,λ b o e hx=>?_,λ b xs e=>tups b xs (I.base.tups b xs e),λ b o xs e=>frzs b o xs (I.base.frzs b o xs e),λ b q e=>tbls b q (I.base.tbls b q e)⟩,?_,λ x c e=>?_,?_,λ x c e=>?_,λ p hp=>?_,hok,I.len,λ p hp=>?_⟩
 .exact keep b o (neL b o e) hb (neC b o e hx) (I.base.keep b o e n hb hx) (I.base.free b o e n hx)
 .obtain⟨sl,e1⟩:=I.base.slot b o e n hb hx
  obtain⟨sl',e2⟩:=slot b _ (neL b o e) hb (neC b o e hx) e1 (I.base.free b o e n hx);exact⟨sl',e2⟩
 .obtain⟨o',e1⟩:=I.base.there b o e hx
  exact free b o' (neC b o e hx) e1 (I.base.free b o e n hx)
 .obtain⟨o',e1⟩:=I.base.there b o e hx
  exact there b o' (neC b o e hx) e1
 .obtain⟨m,hn,hl⟩:=I.loc
  refine⟨m,ns m hn,λ i x v e1 e2 e3=>?_⟩;obtain⟨u,r,l⟩:=hl i x v e1 e2 e3;refine⟨u,r,?_⟩;rcases l with l|⟨k,c,e,z⟩
  .exact .inl l
  .exact .inr ⟨k,c,e,dL x c e _ z⟩
 .obtain⟨v,z⟩:=I.cell x c e
  exact⟨v,dL x c e v z⟩
 .obtain⟨m,⟨o,_,_,ho,_⟩,_⟩:=I.loc
  exact free _ o (λ z=>(hch _ z).2.1 rfl) ho I.free
 .obtain⟨v,o,ho,hd⟩:=I.cell x c e
  exact free c o (λ z=>(hch c z).2.2.1 x c e rfl) ho (I.freeC x c e)
 .obtain⟨e,n,ne,nf,d⟩:=I.pin p hp
  have nch:p.1∉ch:=λ z=>(hch p.1 z).2.2.2 p (zAd _ hp) rfl
  exact⟨keep p.1 p.2 ne nf nch e n,free p.1 p.2 nch e n,ne,nf,d⟩
 .obtain⟨n,ne,nf,np,ps,e,t⟩:=I.tab p hp
  have nch:p.1∉ch:=λ z=>(hch p.1 z).2.2.2 p (zAb _ hp) rfl
  exact⟨free p.1 _ nch e n,ne,nf,np,ps,keep p.1 _ ne nf nch e n,t.mono frzs⟩
def Inv.pinL(I:Inv X kX Z H s)(hp:p∈X.ta++(X.pn++kX)):p.1<s.heap.objs.size:=by
 rcases zA3.mp hp with z|z
 .obtain⟨_,_,_,_,_,e,_⟩:=I.tab p z
  exact zAR e
 .exact zAR (I.pin p z).1
def Inv.un{t':Nat}(I:Inv X kX Z H s)(u:Un X.fs [] H H' s.heap h')(hok:HOk X.prog X.w H' h'):Inv X kX Z H' {s with heap:=h',toks:=t'}:=by
 obtain⟨m,⟨o,es,ep,ho,r⟩,_⟩:=id I.loc;obtain⟨sl,hL⟩:=u.any ho I.free (by simp);exact I.step (g':=s.gens) (d':=s.drawn) (ch:=[]) (λ _ z=>nomatch z) (λ b o _ hb _ e n=>u.keep b o e n hb (by simp)) (λ b o _ hb _ e n=>u.slot b o e n hb (by simp)) (λ b o _ e n=>u.free b o e n (by simp)) (λ b o _ e=>u.there b o e (by simp)) u.tups u.frzs u.tbls (λ m' hm=>by
  obtain⟨o',es',ep',ho',r'⟩:=hm;rw[ho]at ho';cases ho';exact⟨_,es',ep',hL,r'⟩) hok I.bare
def Inv.call{g':Array zCv}{t':Nat}{d':Drawn}{ch:List Addr}(I:Inv X kX Z H s)(u:Un (frs X.stack) ch H H' s.heap h')(hok:HOk X.prog X.w H' h')(hg:zEo g')
  (hch:∀b∈ch,(b∈X.ex\/X.z4.heap.objs.size<=b)/\b≠X.env.locals/\(∀x c,X.env.cells.lookup x=some c->c≠b)/\∀p∈X.ta++(X.pn++kX),p.1≠b):
  Inv X kX Z H' {s with heap:=h',gens:=g',drawn:=d',toks:=t'}:=by
 obtain⟨m,⟨o,es,ep,ho,r⟩,_⟩:=id I.loc;obtain⟨sl,hL⟩:=u.any ho I.free λ z=>(hch _ z).2.1 rfl
 exact I.step (ch:=ch) hch (λ b o hL hb hc e n=>u.keep b o e n (λ z=>(zAT.mp (I.stkSub b z)).elim hL hb) hc) (λ b o _ _ hc e n=>u.any e n hc) (λ b o hc e n=>u.free b o e n hc) (λ b o hc e=>u.there b o e hc) u.tups u.frzs u.tbls (λ m' hm=>by
  obtain⟨o',es',ep',ho',r'⟩:=hm;rw[ho]at ho';cases ho';exact⟨_,es',ep',hL,r'⟩) hok hg
def Inv.turned{t':Nat}{it:Addr}(I:Inv X kX Z H s)(k:∀b o,b≠it->s.heap.get? b=some o->h'.get? b=some o)(hn:H it=none)(hL:it≠X.env.locals)
  (h1:it∈X.ex\/X.z4.heap.objs.size<=it)(h2:∀x c,X.env.cells.lookup x=some c->c≠it)(h3:∀p∈X.ta++(X.pn++kX),p.1≠it):Inv X kX Z H {s with heap:=h',toks:=t'}:=by
 have nit:∀b u,H b=some u->b≠it:=λ b u e z=>by rw[z,hn]at e;cases e
 refine I.step (g':=s.gens) (d':=s.drawn) (ch:=[it]) (λ b hb=>?_) (λ b o _ _ hc e _=>k b o (λ z=>hc (by simp[z])) e) (λ b o _ _ hc e _=>⟨o.slots,k b o (λ z=>hc (by simp[z])) e⟩) (λ _ _ _ _ n=>n)
  (λ b o hc e=>⟨o,k b o (λ z=>hc (by simp[z])) e⟩) (λ _ _ e=>e) (λ _ _ _ e=>e) (λ _ _ e=>e) (λ m hm=>?_) (λ b u e=>?_) I.bare
 .have e:b=it:=by simpa using hb
  subst e;exact⟨h1,hL,h2,h3⟩
 .obtain⟨o,es,ep,ho,r⟩:=hm
  exact⟨o,es,ep,k _ o (zDV hL) ho,r⟩
 .refine(I.hok b u e).stay (λ c v hc q=>k c v ?_ q) (λ _ q=>q) λ _ _ q=>q
  rcases hc with z|z
  .rw[z];exact nit b u e
  .exact nit c _ z
def Inv.tok(I:Inv X kX Z H s)(t:Nat):Inv X kX Z H {s with toks:=t}:=I.un (h':=s.heap) (t':=t) Un.refl I.hok
theorem Inv.kept(I:Inv X kX Z H s)(k:∀b u,s.heap.get? b=some u->h'.get? b=some u):Inv X kX Z H {s with heap:=h',toks:=t'}:=I.un (Un.kept k) (I.hok.kept k)
theorem Inv.laid(I:Inv X kX Z H s)(k:∀b u,s.heap.get? b=some u->h'.get? b=some u)(hp:s.heap.objs.size<=a)(new:bM X.prog X.w (upd H a o) h' a o):
  Inv X kX Z (upd H a o) {s with heap:=h',toks:=t'}:=I.un (Un.laid k hp (I.hok.fresh hp)) (I.hok.laid k hp new)
theorem Inv.write(I:Inv X kX Z H s)(mu:Mut (H x))(he:e=x\/H e=some (.own x))(k:∀b u,b≠e->s.heap.get? b=some u->h'.get? b=some u)(heo:∃u,h'.get? e=some u)
  (new:bM X.prog X.w (upd H x o) h' x o):Inv X kX Z (upd H x o) {s with heap:=h',toks:=t'}:=I.un (Un.write mu he k heo) (I.hok.write mu he k heo new)
def Inv.weak(I:Inv X kX Z H s)(hl:Z'.length=Z.length)(w:∀(i:Nat) v,Z'[i]? =some (some v)->Z[i]? =some (some v)):Inv X kX Z' H s:=
 ⟨I.ok,I.os,I.bare,I.base,let⟨m,hn,hl'⟩:=I.loc;⟨m,hn,λ i x v e1 e2 e3=>hl' i x v e1 (w i v e2) e3⟩,I.cell,I.free,I.freeC,I.pin,I.hok,hl.trans I.len,I.tab⟩
def Inv.pins_of(I:Inv X kX Z H s)(h:∀p∈pins',s.heap.get? p.1=some p.2/\H p.1=none/\p.1≠X.env.locals/\p.1∉X.fs/\∀v,p.2.data≠.cell v)(h2:∀q∈pins',∀p∈X.ta,q.1≠p.1):Inv X pins' Z H s:=
 ⟨I.ok,I.os,I.bare,I.base,I.loc,I.cell,I.free,I.freeC,λ p hp=>(zA3.mp hp).elim (λ z=>I.pin p (zAb _ z)) (h p),I.hok,I.len,λ p hp=>let⟨a,b,c,d,e⟩:=I.tab p hp;⟨a,b,c,λ q hq=>(zA3.mp hq).elim (λ z=>d q (zAb _ z)) (λ z=>h2 q z p hp),e⟩⟩
def aBB{N:List Str}(hN:N.Nodup){i j:Nat}{x:Str}(a:N[i]? =some x)(b:N[j]? =some x):i=j:=by
 obtain⟨h1,e1⟩:=zAP.mp a;obtain⟨h2,e2⟩:=zAP.mp b;exact(List.getElem_inj hN).mp (e1.trans e2.symm)
def xr{M:Model}{A:zAc}{E:Value->zAF->Prop}{i:Nat}{x:Str}{v:V}{u:Value}{Q:Unit->zAF->Prop}(I:Inv X kX Z H s)(hN:X.N.Nodup)(hi:X.N[i]? =some x)(hx:Loc X.env.scope x)(r:RelV v u)
  (h:∀s',Inv X kX (Z.set i (some v)) H s'->(∃a,zBW a s.heap s'.heap/\(a=X.env.locals\/X.env.cells.lookup x=some a))->Q () s')(hf:X.fn x=true\/X.env.scope.names.lookup x=some .local:=by first|exact .inl rfl|exact .inr rfl|assumption):wpAny M A (storeName X.env x u) Q E s:=by
 obtain⟨m,hn,hl⟩:=id I.loc;have hcls:(X.env.scope.kind== .class||(X.env.scope.kind== .module&&X.env.locals !=X.env.globals))=false:=by rw[I.ok.kind];rfl
 have hiZ:i<Z.length:=by rw[I.len];exact(zAP.mp hi).1
 have cne:=I.cne;have bP:∀{a:Addr} {h':Heap},(∃o,s.heap.get? a=some o/\H a=none)->zBW a s.heap h'->HOk X.prog X.w H h':=λ{a h'} ha hs b ob e=>by
  obtain⟨_,_,hfree⟩:=ha;refine(I.hok b ob e).stay (λ c w' hc q=>(hs.2 c ?_).trans q) (λ _ q=>q) λ _ _ q=>q
  rintro rfl;rcases hc with rfl|hc
  .rw[hfree]at e;cases e
  .rw[hfree]at hc;cases hc
 rcases hx with hk|hk
 .refine wpAny_storeName_local hk hn (λ h' hn' hs=>?_) hcls
  obtain⟨oL,_,_,hoL,_⟩:=id hn;refine h _ ⟨I.ok,I.os,I.bare,⟨λ b o e n hb hx=>?_,λ b o e n hb hx=>?_,I.base.free,λ b o e hx=>?_,I.base.tups,I.base.frzs,I.base.tbls⟩,⟨_,hn',λ j y v' e1 e2 e3=>?_⟩,λ y c e=>?_,I.free,I.freeC,λ p hp=>?_,bP ⟨oL,hoL,I.free⟩ hs,by simpa using I.len,λ p hp=>?_⟩ ⟨_,hs,.inl rfl⟩
  .exact(hs.2 b (zA1 (zAW (zAR e) I.ok.above))).trans (I.base.keep b o e n hb hx)
  .obtain⟨sl,e1⟩:=I.base.slot b o e n hb hx
   exact⟨sl,(hs.2 b (zA1 (zAW (zAR e) I.ok.above))).trans e1⟩
  .obtain⟨o',e1⟩:=I.base.there b o e hx
   exact⟨o',(hs.2 b (zA1 (zAW (zAR e) I.ok.above))).trans e1⟩
  .by_cases hj:j=i
   .subst hj
    rw[hi]at e1;cases e1;rw[zCB hiZ]at e2;cases e2;exact⟨u,r,.inl ⟨hk,by simp⟩⟩
   .rw[zB8 (zDV hj)]at e2
    obtain⟨u',r',q⟩:=hl j y v' e1 e2 e3;refine⟨u',r',?_⟩;rcases q with ⟨k,e⟩|⟨k,c,e,z⟩
    .refine .inl ⟨k,?_⟩
     have:y≠x:=λ e=>hj (aBB hN e1 (e▸hi))
     simp[this,e]
    .exact .inr ⟨k,c,e,z.sameBut hs (cne y c e)⟩
  .obtain⟨w',z⟩:=I.cell y c e
   exact⟨w',z.sameBut hs (cne y c e)⟩
  .obtain⟨e,n,ne,nf,d⟩:=I.pin p hp
   exact⟨(hs.2 p.1 ne).trans e,n,ne,nf,d⟩
  .obtain⟨n,ne,nf,np,ps,e,t⟩:=I.tab p hp
   exact⟨n,ne,nf,np,ps,(hs.2 p.1 ne).trans e,t⟩
 .have hfn:X.fn x=true:=by
   rcases hf with z|z
   .exact z
   .rw[z]at hk;cases hk
  obtain⟨c,hc⟩:=I.ok.has x (.inl hk);obtain⟨w',z⟩:=I.cell x c hc;refine wpAny_storeName_cell I.ok.kind hk hc z (λ h' hc' hs=>?_);obtain⟨oc,hoc,hocd⟩:=id z;refine h {s with heap:=h'} ⟨I.ok,I.os,I.bare,⟨λ b o e n hb hx=>?_,λ b o e n hb hx=>?_,I.base.free,λ b o e hx=>?_,I.base.tups,I.base.frzs,I.base.tbls⟩,⟨m,hn.sameBut hs (zDV (cne x c hc)),λ j y v' e1 e2 e3=>?_⟩,λ y c' e=>?_,I.free,I.freeC,λ p hp=>?_,bP ⟨oc,hoc,I.freeC x c hc⟩ hs,by simpa using I.len,λ p hp=>?_⟩ ⟨c,hs,.inr hc⟩
  .exact(hs.2 b (zA1 (zAW (zAR e) (I.ok.cab x c hfn hc)))).trans (I.base.keep b o e n hb hx)
  .obtain⟨sl,e1⟩:=I.base.slot b o e n hb hx
   exact⟨sl,(hs.2 b (zA1 (zAW (zAR e) (I.ok.cab x c hfn hc)))).trans e1⟩
  .obtain⟨o',e1⟩:=I.base.there b o e hx
   exact⟨o',(hs.2 b (zA1 (zAW (zAR e) (I.ok.cab x c hfn hc)))).trans e1⟩
  .by_cases hj:j=i
   .subst hj
    rw[hi]at e1;cases e1;rw[zCB hiZ]at e2;cases e2;exact⟨u,r,.inr ⟨.inl hk,c,hc,hc'⟩⟩
   .rw[zB8 (zDV hj)]at e2
    obtain⟨u',r',q⟩:=hl j y v' e1 e2 e3;refine⟨u',r',?_⟩;rcases q with q|⟨k,c',e,z'⟩
    .exact .inl q
    .refine .inr ⟨k,c',e,z'.sameBut hs ?_⟩
     rintro rfl;exact hj (aBB hN e1 (I.ok.inj _ _ _ e hc▸hi))
  .by_cases hcc:c'=c
   .subst hcc;exact⟨_,hc'⟩
   .obtain⟨w2,z2⟩:=I.cell y c' e
    exact⟨w2,z2.sameBut hs hcc⟩
  .obtain⟨e,n,ne,nf,d⟩:=I.pin p hp
   refine⟨(hs.2 p.1 ?_).trans e,n,ne,nf,d⟩;intro q;rw[q,hoc]at e;have q':oc=p.2:=zAs e;exact d w' (by rw[<-q'];exact hocd)
  .obtain⟨n,ne,nf,np,ps,e,t⟩:=I.tab p hp
   refine⟨n,ne,nf,np,ps,(hs.2 p.1 ?_).trans e,t⟩;intro q;rw[q,hoc]at e;rw[zAs e]at hocd;cases hocd
def uw(I:Inv X kX Z H s)(hN:X.N.Nodup)(hi:X.N[i]? =some x)(hx:Loc X.env.scope x)(r:RelV v u)
  (h:∀s',Inv X kX (Z.set i (some v)) H s'->Q () s')(hf:X.fn x=true\/X.env.scope.names.lookup x=some .local:=by first|exact .inl rfl|exact .inr rfl|assumption):wpAny M A (storeName X.env x u) Q E s:=
 xr I hN hi hx r (λ s' I' _=>h s' I') hf
def Inv.call'(I:Inv X kX Z H s)(ho:s'.os=s.os)(u:Un (frs X.stack) ch H H' s.heap s'.heap)(hok:HOk X.prog X.w H' s'.heap)(hg:zEo s'.gens)
  (hch:∀b∈ch,(b∈X.ex\/X.z4.heap.objs.size<=b)/\b≠X.env.locals/\(∀x c,X.env.cells.lookup x=some c->c≠b)/\∀p∈X.ta++(X.pn++kX),p.1≠b):Inv X kX Z H' s':=by
 obtain⟨h',g',d',t',o'⟩:=s';have e:o'=s.os:=ho;subst e;exact I.call (g':=g') (t':=t') (d':=d') u hok hg hch
end
abbrev XK:=Value->Option Addr->Hp->Prop
abbrev St:=List (Option V)
abbrev VK:=V->Hp->Prop
abbrev TE:=St->Hp->VK->Prop
abbrev TT:=St->Hp->(Bool->Hp->Prop)->Prop
abbrev TA:=St->Hp->(List V->Hp->Prop)->Prop
structure Ends where
 nx:St->Hp->Prop
 rt:VK
 bk:St->Hp->Prop:=λ _ _=>False
 ct:St->Hp->Prop:=λ _ _=>False
abbrev TS:=Ends->St->Hp->Prop
def EP(X:Cx)(kX:hZ)(Z:St)(Q:VK)(u:Value)(s':zAF):Prop:=∃v H',Inv X kX Z H' s'/\RelV v u/\Q v H'
def TP(X:Cx)(kX:hZ)(Z:St)(Q:Bool->Hp->Prop)(b:Bool)(s':zAF):Prop:=∃H',Inv X kX Z H' s'/\Q b H'
def AP(X:Cx)(kX:hZ)(Z:St)(Q:List V->Hp->Prop)(us:List Value)(s':zAF):Prop:=∃vs H',Inv X kX Z H' s'/\Vals vs us/\Q vs H'
def SP(X:Cx)(kX:hZ)(D:Ends)(f:Flow)(s':zAF):Prop:=
 match f with
 | .next=>∃Z' H',Inv X kX Z' H' s'/\D.nx Z' H'
 | .brk=>∃Z' H',Inv X kX Z' H' s'/\D.bk Z' H'
 | .cont=>∃Z' H',Inv X kX Z' H' s'/\D.ct Z' H'
 | .ret u=>∃v Z' H',Inv X kX Z' H' s'/\RelV v u/\D.rt v H'
def PE(X:Cx)(e:Expr)(t:TE):Prop:=
 ∀(kX:hZ) (s:zAF) (Z:St) (H:Hp) (Q:VK),Inv X kX Z H s->t Z H Q->wpAny (model X.prog X.w) X.A (eval e X.env) (EP X kX Z Q) X.xe s
def PT(X:Cx)(e:Expr)(t:TT):Prop:=
 ∀(kX:hZ) (s:zAF) (Z:St) (H:Hp) (Q:Bool->Hp->Prop),Inv X kX Z H s->t Z H Q->wpAny (model X.prog X.w) X.A (isTrue e X.env (eval e X.env)) (TP X kX Z Q) X.xe s
def PW(X:Cx)(e:Expr)(t:TT):Prop:=
 ∀(whole:Sem Value) (kX:hZ) (s:zAF) (Z:St) (H:Hp) (Q:Bool->Hp->Prop),Inv X kX Z H s->t Z H Q->wpAny (model X.prog X.w) X.A (isTrue e X.env whole) (TP X kX Z Q) X.xe s
def PW.pt(h:PW X e t):PT X e t:=h _
def PA(X:Cx)(es:List Expr)(t:TA):Prop:=
 ∀(pos:Pos) (kX:hZ) (s:zAF) (Z:St) (H:Hp) (Q:List V->Hp->Prop),Inv X kX Z H s->t Z H Q->wpAny (model X.prog X.w) X.A (spliced (zCW pos (zAU es X.env))) (AP X kX Z Q) X.xe s
def PS(X:Cx)(st:Stmt)(t:TS):Prop:=
 ∀(kX:hZ) (s:zAF) (Z:St) (H:Hp) (D:Ends),Inv X kX Z H s->t D Z H->wpAny (model X.prog X.w) X.A (exec st X.env) (SP X kX D) X.xe s
def PSs(X:Cx)(st:List Stmt)(t:TS):Prop:=
 ∀(kX:hZ) (s:zAF) (Z:St) (H:Hp) (D:Ends),Inv X kX Z H s->t D Z H->wpAny (model X.prog X.w) X.A (execs st X.env) (SP X kX D) X.xe s
def thn(h:wpAny M A t Q E s)(hQ:∀a s,Q a s->Q' a s):wpAny M A t Q' E s:=zBX h hQ λ _ _ x=>x
section
variable{X:Cx}
def jg(i:Nat):TE:=λ Z H Q=>∃v,Z[i]? =some (some v)/\Q v H
def tC(v:V):TE:=λ _ H Q=>Q v H
abbrev _root_.Nd(x:PySem.Str):Prop:=(x==("__debug__":PySem.Str))=false
def eU(hN:X.N[i]? =some x)(hv:Vis X.env.scope x)(hd:Nd x:=by decide)(hcd:(x==("__classdict__":Str))=false:=by decide):PE X (.Name x pos) (jg i):=by
 intro kX s Z H Q I h;obtain⟨v,e,h⟩:=h;obtain⟨m,hn,hl⟩:=I.loc;obtain⟨u,r,l⟩:=hl i x v hN e hv;have fin:EP X kX Z Q u s:=⟨v,H,I,r,h⟩;rcases l with ⟨hk,hm⟩|⟨hk,c,hc,hcell⟩
 .exact zIu (zIT I.ok.kind hk hn hm fin) hd
 .rcases hk with hk|hk
  .exact zIu (zI3 I.ok.kind hk hc hcell fin) hd
  .exact zIu (wpAny_loadName_free I.ok.kind hk hc hcell fin hcd) hd
def aKx{i j pos}:PE X (.Constant (.int i) j pos) (tC (.int i)):=λ _ _ _ H _ I h=>wpAny_Constant_int ⟨.int i,H,I.tok _,⟨_,rfl⟩,h⟩
def aM4{b j pos}:PE X (.Constant (.bool b) j pos) (tC (.bl b)):=λ _ _ _ H _ I h=>Constant_bool ⟨.bl b,H,I,rfl,h⟩
def aKt{x j pos}:PE X (.Constant (.str x) j pos) (tC (.str x)):=λ _ _ _ H _ I h=>Calls.Constant_str ⟨.str x,H,I.tok _,⟨_,rfl⟩,h⟩
def Gl(X:Cx)(x:Str):Prop:=X.env.kindOf x=some .globalImplicit
def zp(I:Inv X kX Z H s)(hg:Gl X x)(hm:X.mg x=some u)(h:Q u s)
  (hd:Nd x:=by decide):wpAny (model X.prog X.w) X.A (eval (.Name x pos) X.env) Q E s:=
 zFo I.ok.kind hg (Calls.loadGlobal_global (by rw[I.ok.glob];exact I.mod.glob.keeps I.bk) hm h) hd
def vq(I:Inv X kX Z H s)(hg:Gl X x)(hm:X.mg x=none)(hv:zAz x=some u)(h:Q u s)
  (hn:x≠"__name__":=by decide)(hd:Nd x:=by decide):wpAny (model X.prog X.w) X.A (eval (.Name x pos) X.env) Q E s:=by
 obtain⟨mb,h1,h2⟩:=I.mod.blt;exact zFo I.ok.kind hg (Calls.loadGlobal_builtin (by rw[I.ok.glob];exact I.mod.glob.keeps I.bk) hm (by rw[I.ok.blt];exact h1.keeps I.bk) ((h2 x hn).trans hv) h) hd
def aIU(hg:Gl X x)(hm:X.mg x=some u)(r:RelV v u)(hd:Nd x:=by decide):PE X (.Name x pos) (tC v):=
 λ _ _ _ H _ I h=>zp I hg hm ⟨v,H,I,r,h⟩ hd
def aIX(hg:Gl X x)(hm:X.mg x=none)(hv:zAz x=some u)(r:RelV v u)(hn:x≠"__name__":=by decide)(hd:Nd x:=by decide):PE X (.Name x pos) (tC v):=
 λ _ _ _ H _ I h=>vq I hg hm hv ⟨v,H,I,r,h⟩ hn hd
variable{a b:Expr}{ta tb:TE}{pos:Pos}
def tB(t:TE):TT:=λ Z H Q=>t Z H λ x H1=>∃c,x= .bl c/\Q c H1
def aKi(h:PE X e t)(he:∀whole,isTrue e X.env whole=(do let v <-whole;zFV e.pos;zC8 [v] (truthy v)):=by intro _;rfl):PT X e (tB t):=by
 intro kX s Z H Q I hw;refine isTrue_plain (thn (h kX s Z H _ I hw) λ v s1 ⟨x,H1,I1,r1,q1⟩=>?_) (he _);obtain⟨d,rfl,q⟩:=q1;cases r1;exact zCX ⟨H1,I1,q⟩
variable{tA tB':TT}{rest:List Expr}
def aNV(t u:TT):TT:=λ Z H Q=>t Z H λ c H1=>if c=true then u Z H1 Q else Q false H1
def tOr(t u:TT):TT:=λ Z H Q=>t Z H λ c H1=>if c=true then Q true H1 else u Z H1 Q
def aNQ(t:TT):TT:=λ Z H Q=>t Z H λ c H1=>Q (!c) H1
def aII(ha:PT X a tA):PW X (.BoolOp .And [a] pos) tA:=by
 intro wh kX s Z H Q I h;refine isTrue_and (thn (ha kX s Z H Q I h) λ c s1 e=>?_);cases c with
 |true=>exact isTrue_and_nil e
 |false=>exact e
def aFq(ha:PT X a tA):PW X (.BoolOp .Or [a] pos) tA:=by
 intro wh kX s Z H Q I h;refine isTrue_or (thn (ha kX s Z H Q I h) λ c s1 e=>?_);cases c with
 |false=>exact isTrue_or_nil e
 |true=>exact e
def aKf(ha:PT X a tA)(hb:PW X (.BoolOp .And (b::rest) pos) tB'):PW X (.BoolOp .And (a::b::rest) pos) (aNV tA tB'):=by
 intro wh kX s Z H Q I h;refine isTrue_and (thn (ha kX s Z H _ I h) λ c s1 ⟨H1,I1,q1⟩=>?_);cases c with
 |true=>exact hb wh kX s1 Z H1 Q I1 q1
 |false=>exact⟨H1,I1,q1⟩
def aJq(ha:PT X a tA)(hb:PW X (.BoolOp .Or (b::rest) pos) tB'):PW X (.BoolOp .Or (a::b::rest) pos) (tOr tA tB'):=by
 intro wh kX s Z H Q I h;refine isTrue_or (thn (ha kX s Z H _ I h) λ c s1 ⟨H1,I1,q1⟩=>?_);cases c with
 |true=>exact⟨H1,I1,q1⟩
 |false=>exact hb wh kX s1 Z H1 Q I1 q1
def aKj(ha:PT X a tA):PT X (.UnaryOp .Not a pos) (aNQ tA):=by
 intro kX s Z H Q I h;exact isTrue_not (ha kX s Z H (λ c H1=>Q (!c) H1) I h)
def aMM(ta tb:TE):TE:=λ Z H Q=>ta Z H λ x H1=>∃c,x= .bl c/\if c=true then tb Z H1 Q else Q (.bl false) H1
def aMG(ta:TE):TE:=λ Z H Q=>ta Z H λ x H1=>∃c,x= .bl c/\Q (.bl (!c)) H1
def aKu{op}(h:PE X a t):PE X (.BoolOp op [a] pos) t:=λ kX s Z H Q I hw=>BoolOp_one (h kX s Z H Q I hw)
def aKz(ha:PE X a ta)(hb:PE X (.BoolOp .And (b::rest) pos) tb):PE X (.BoolOp .And (a::b::rest) pos) (aMM ta tb):=by
 intro kX s Z H Q I h;refine BoolOp_and (thn (ha kX s Z H _ I h) λ v s1 ⟨x,H1,I1,r1,q1⟩=>?_);obtain⟨c,rfl,q1⟩:=q1;cases r1;refine zCX ?_;cases c with
 |true=>exact hb kX s1 Z H1 Q I1 q1
 |false=>exact⟨.bl false,H1,I1,rfl,q1⟩
def aKv(ha:PE X a ta):PE X (.UnaryOp .Not a pos) (aMG ta):=by
 intro kX s Z H Q I h;refine UnaryOp_ (thn (ha kX s Z H _ I h) λ v s1 ⟨x,H1,I1,r1,q1⟩=>?_);obtain⟨c,rfl,q1⟩:=q1;cases r1;exact not_of (zCX ⟨.bl (!c),H1,I1,rfl,q1⟩)
end
def SqL(K:zAA)(H:Hp)(a:Addr)(xs:List V):Prop:=
 Rd H a (.lst xs)\/
  ∃(o:Obj) (its:Array Value) (n:Nat),K.lookup a=some o/\o.cls= .type "list"/\o.dict=none/\o.data= .seq its n/\its.size<=zAQ/\Vals xs its.toList
def SqT(K:zAA)(H:Hp)(a:Addr)(xs:List V):Prop:=
 Rd H a (.tup xs)\/
  ∃(o:Obj) (its:Array Value) (n:Nat),K.lookup a=some o/\o.cls= .type "tuple"/\o.dict=none/\o.data= .seq its n/\its.size<=zAQ/\Vals xs its.toList
def aN1:Value->Option V
 | .none=>some .non
 | .bool b=>some (.bl b)
 | .int i _=>some (.int i)
 | .str x _=>some (.str x)
 | .bytes b _=>some (.byt b)
 | .float b _=>some (.flt b)
 | .ref a=>some (.ref a)
 | .type n=>some (.ty n)
 |_=>none
def RelV.abs(r:RelV x u):aN1 u=some x:=by
 cases x with
 |non=>cases r;rfl
 |bl _=>cases r;rfl
 |int _=>obtain⟨t,rfl⟩:=r;rfl
 |str _=>obtain⟨t,rfl⟩:=r;rfl
 |byt _=>obtain⟨t,rfl⟩:=r;rfl
 |flt _=>obtain⟨t,rfl⟩:=r;rfl
 |ref _=>cases r;rfl
 |ty _=>cases r;rfl
def RelV.inj(r:RelV x u)(q:RelV y u):x=y:=zAs (r.abs.symm.trans q.abs)
theorem Vals.inj:∀{xs ys:List V} {us:List Value},Vals xs us->Vals ys us->xs=ys
 |_,_,_,.nil,.nil=>rfl
 |_,_,_,.cons r t,.cons r' t'=>by rw[r.inj r',Vals.inj t t']
section
variable{X:Cx}{kX:hZ}{Z:St}{H:Hp}{s:zAF}{a:Addr}{xs ys:List V}
def SqL.of{K:zAA}(h:H a=some (.lst xs)):SqL K H a xs:=.inl (.inl h)
def SqT.of{K:zAA}(h:H a=some (.tup xs)):SqT K H a xs:=.inl (.inl h)
def Inv.list(I:Inv X kX Z H s)(h:SqL X.K H a xs):∃its:List Value,Vals xs its/\PlainL s.heap a its.toArray/\xs.length<=zAQ:=by
 rcases h with h|⟨o,its,n,hk,hc,hd,hs,hz,r⟩
 .obtain⟨z,its,n,r,e⟩:=h.ok I.hok
  exact⟨its,r,⟨_,n,e,rfl,rfl,rfl⟩,z⟩
 .refine⟨its.toList,r,⟨o,n,I.kIn a o hk,hc,hd,by simpa using hs⟩,?_⟩
  have e:=r.length;simp only[zA4]at e;lia
def Inv.tuple(I:Inv X kX Z H s)(h:SqT X.K H a xs):∃its:List Value,Vals xs its/\IsTup s.heap a its.toArray/\xs.length<=zAQ:=by
 rcases h with h|⟨o,its,n,hk,hc,hd,hs,hz,r⟩
 .obtain⟨z,its,r,p⟩:=h.ok I.hok
  exact⟨its,r,p,z.1⟩
 .refine⟨its.toList,r,⟨o,I.kIn a o hk,hc,n,by simpa using hs⟩,?_⟩
  have e:=r.length;simp only[zA4]at e;lia
def Inv.list_inj(I:Inv X kX Z H s)(h:SqL X.K H a xs)(h':SqL X.K H a ys):xs=ys:=by
 obtain⟨its,r,⟨o,n,e,_,_,d⟩,_⟩:=I.list h;obtain⟨its',r',⟨o',n',e',_,_,d'⟩,_⟩:=I.list h';rw[e]at e';cases e';rw[d]at d';injection d' with d1 _
 have:its=its':=by simpa using congrArg zI5 d1
 subst this;exact r.inj r'
def Inv.tuple_inj(I:Inv X kX Z H s)(h:SqT X.K H a xs)(h':SqT X.K H a ys):xs=ys:=by
 obtain⟨its,r,⟨o,e,_,n,d⟩,_⟩:=I.tuple h;obtain⟨its',r',⟨o',e',_,n',d'⟩,_⟩:=I.tuple h';rw[e]at e';cases e';rw[d]at d';injection d' with d1 _
 have:its=its':=by simpa using congrArg zI5 d1
 subst this;exact r.inj r'
end
section
variable{X:Cx}{st:Stmt}{rest:List Stmt}{t u:TS}{e:Expr}{te:TE}{pos:Pos}
def aJd:TS:=λ D Z H=>D.nx Z H
def aNO(t u:TS):TS:=λ D Z H=>t {D with nx:=u D} Z H
def zZ:PSs X [] aJd:=λ _ _ Z H _ I h=>zEw ⟨Z,H,I,h⟩
def aAu(h1:PS X st t)(h2:PSs X rest u):PSs X (st::rest) (aNO t u):=by
 intro kX s Z H D I h;refine wpAny_execs_cons (thn (h1 kX s Z H {D with nx:=u D} I h) λ f s1 q=>?_);cases f with
 |next=>
  obtain⟨Z',H',I',q⟩:=q;exact h2 kX s1 Z' H' D I' q
 |ret v=>exact q
 |brk=>exact q
 |cont=>exact q
def aDP(h1:PS X st t):PSs X [st] t:=by
 intro kX s Z H D I h;refine wpAny_execs_cons (thn (h1 kX s Z H D I h) λ f s1 q=>?_);cases f with
 |next=>exact zEw q
 |ret v=>exact q
 |brk=>exact q
 |cont=>exact q
def Inv.quiet(I:Inv X kX Z H s):interactive X.env=false:=by simp[interactive,I.ok.kind]
def aA5(te:TE):TS:=λ D Z H=>te Z H λ _ H1=>D.nx Z H1
def ph(he:PE X e te)(hs:zC3 e none pos.line X.env=pure false:=by rfl):PS X (.Expr e pos) (aA5 te):=by
 intro kX s Z H D I h;exact wpAny_Expr_any (thn (he kX s Z H _ I h) λ v s1 ⟨x,H1,I1,r1,q1⟩=>⟨Z,H1,I1,q1⟩) I.quiet hs
def aNP(te:TE):TS:=λ D Z H=>te Z H D.rt
def aFx(he:PE X e te):PS X (.Return (some e) pos) (aNP te):=by
 intro kX s Z H D I h;exact wpAny_Return_some (thn (he kX s Z H _ I h) λ v s1 ⟨x,H1,I1,r1,q1⟩=>⟨x,Z,H1,I1,r1,q1⟩)
def aMH(c:TT)(t u:TS):TS:=λ D Z H=>c Z H λ b H1=>if b=true then t D Z H1 else u D Z H1
def aFz(hc:PT X c tc)(ha:PSs X a t)(hb:PSs X b u):PS X (.If c a b pos) (aMH tc t u):=by
 intro kX s Z H D I h;refine wpAny_If (thn (hc kX s Z H _ I h) λ d s1 ⟨H1,I1,q1⟩=>?_);cases d with
 |true=>exact ha kX s1 Z H1 D I1 q1
 |false=>exact hb kX s1 Z H1 D I1 q1
end
abbrev TG:=V->St->Hp->(St->Hp->Prop)->Prop
abbrev TGs:=List V->St->Hp->(St->Hp->Prop)->Prop
def PG(X:Cx)(target:Expr)(t:TG):Prop:=
 ∀(kX:hZ) (s:zAF) (Z:St) (H:Hp) (v:V) (u:Value) (Q:St->Hp->Prop),Inv X kX Z H s->RelV v u->t v Z H Q->
  wpAny (model X.prog X.w) X.A (zEh target X.env u) (λ _ s'=>∃Z' H',Inv X kX Z' H' s'/\Q Z' H') X.xe s
def PGs(X:Cx)(ts:List Expr)(t:TGs):Prop:=
 ∀(kX:hZ) (s:zAF) (Z:St) (H:Hp) (vs:List V) (us:List Value) (Q:St->Hp->Prop),Inv X kX Z H s->Vals vs us->t vs Z H Q->
  wpAny (model X.prog X.w) X.A (assignInOrder ((zCk ts X.env).map (·.2)) us) (λ _ s'=>∃Z' H',Inv X kX Z' H' s'/\Q Z' H') X.xe s
abbrev aMz:=V->V->V->Hp->(Hp->Prop)->Prop
def aNE(X:Cx)(t:aMz):Prop:=
 ∀(kX:hZ) (s:zAF) (Z:St) (H:Hp) (o i v:V) (ov iv u:Value) (Q:Hp->Prop),Inv X kX Z H s->RelV o ov->RelV i iv->RelV v u->t o i v H Q->
  wpAny (model X.prog X.w) X.A (setItem ov iv u) (λ _ s'=>∃H',Inv X kX Z H' s'/\Q H') X.xe s
abbrev TIp:=V->V->Hp->VK->Prop
def PIp(X:Cx)(op:Operator)(t:TIp):Prop:=
 ∀(kX:hZ) (s:zAF) (Z:St) (H:Hp) (x y:V) (v u:Value) (Q:VK),Inv X kX Z H s->RelV x v->RelV y u->t x y H Q->
  wpAny (model X.prog X.w) X.A (inplaceOp op v u) (EP X kX Z Q) X.xe s
section
variable{X:Cx}{pos:Pos}
def tU(i:Nat):TG:=λ v Z H Q=>Q (Z.set i (some v)) H
def aIR(hN:X.N.Nodup)(hi:X.N[i]? =some x)(hx:Loc X.env.scope x)(hf:X.fn x=true\/X.env.scope.names.lookup x=some .local:=by first|exact .inl rfl|exact .inr rfl|assumption):PG X (.Name x pos) (tU i):=by
 intro kX s Z H v u Q I r h;exact zIv (uw I hN hi hx r (λ s' I'=>⟨_,H,I',h⟩) hf)
def aLe:TGs:=λ vs Z H Q=>vs=[]/\Q Z H
def aHB(t:TG)(u:TGs):TGs:=λ vs Z H Q=>∃v r,vs=v::r/\t v Z H λ Z' H'=>u r Z' H' Q
def aIQ:PGs X [] aLe:=by
 intro kX s Z H vs us Q I r h;obtain⟨e,h⟩:=h;subst e;cases r;exact assignInOrder_nil ⟨Z,H,I,h⟩
def aGE(h1:PG X e t)(h2:PGs X es u)
  (hs:(zCk (e::es) X.env).map (·.2)=zEh e X.env::(zCk es X.env).map (·.2):=by rfl):PGs X (e::es) (aHB t u):=by
 intro kX s Z H vs us Q I r h;obtain⟨v,vr,e1,h⟩:=h;subst e1;cases r with
 |cons r rr=>
  rw[hs];refine assignInOrder_cons (thn (h1 kX s Z H _ _ _ I r h) λ _ s1 ⟨Z1,H1,I1,q1⟩=>?_);exact h2 kX s1 Z1 H1 _ _ Q I1 rr q1
def aJG(K:zAA)(n:Nat)(t:TGs):TG:=λ v Z H Q=>∃a xs,v= .ref a/\SqT K H a xs/\xs.length=n/\t xs Z H Q
def aKo(hc:X.calm=true)(h:PGs X es t)
  (hn:(zCk es X.env).length=n:=by rfl)(hst:(zCk es X.env).findIdx? (·.1)=none:=by rfl):PG X (.Tuple es k pos) (aJG X.K n t):=by
 intro kX s Z H v u Q I r hw;obtain⟨a,xs,e1,hq,hl,hw⟩:=hw;subst e1;cases r;obtain⟨its,rv,ht,hz⟩:=I.tuple hq;refine assign_Tuple_tuple (I.ok.hd hc) ht (by simp[hn,<-hl,rv.length]) hst λ h' hx=>?_
 have I1:Inv X kX Z H {s with heap:=h'}:=I.kept (t':=s.toks) λ b o e=>hx b o (zA1 (zAR e)) e
 exact h kX _ Z H xs _ Q I1 (by simpa using rv) hw
def aMq(to ti:TE)(t:aMz):TG:=λ v Z H Q=>to Z H λ o H1=>ti Z H1 λ i H2=>t o i v H2 λ H3=>Q Z H3
def aKp(ho:PE X o to)(hi:PE X i ti)(hs:aNE X t)
  (ha:∀v,zEh (.Subscript o i pos) X.env v=(do
   let ov <-zC8 [v] (eval o X.env);let iv <-zC8 [v,ov] (eval i X.env)
   zFV pos
   zC8 [v,ov,iv] (setItem ov iv v)
   release [v,ov,iv] []):=by intro _;rfl):PG X (.Subscript o i pos) (aMq to ti t):=by
 intro kX s Z H v u Q I r h;rw[ha];refine zAB (zBT (thn (ho kX s Z H _ I h) λ ov s1 ⟨x,H1,I1,r1,q1⟩=>?_));refine zAB (zBT (thn (hi kX s1 Z H1 _ I1 q1) λ iv s2 ⟨y,H2,I2,r2,q2⟩=>?_));refine zAB (zDy (zAB (zBT (thn (hs kX s2 Z H2 x y v ov iv u _ I2 r1 r2 r q2) λ _ s3 ⟨H3,I3,q3⟩=>?_))));exact wpAny_release ⟨Z,H3,I3,q3⟩
def aEA(te:TE)(g:TG):TS:=λ D Z H=>te Z H λ x H1=>g x Z H1 D.nx
def aKl(he:PE X e te)(hg:PG X tg g)(hs:swapsWithSole [tg] e pos.line X.env=pure false:=by rfl)(hw:swappedStores [tg] e X.env=pure none:=by rfl)
  (h1:(zCk [tg] X.env).map (·.2)=[zEh tg X.env]:=by rfl):PS X (.Assign [tg] e pos) (aEA te g):=by
 intro kX s Z H D I h;refine wpAny_Assign_stores (thn (he kX s Z H _ I h) λ v s1 ⟨x,H1,I1,r1,q1⟩=>?_) hs hw;rw[h1];exact thn (hg kX s1 Z H1 x v _ I1 r1 q1) λ _ s2 q=>q
def aFw(hN:X.N.Nodup)(hi:X.N[i]? =some x)(hx:Loc X.env.scope x)(he:PE X e te)(hs:zC3 e (some (.Name x pos')) pos.line X.env=pure false:=by rfl)(hf:X.fn x=true\/X.env.scope.names.lookup x=some .local:=by first|exact .inl rfl|exact .inr rfl|assumption):
  PS X (.Assign [.Name x pos'] e pos) (aEA te (tU i)):=by
 intro kX s Z H D I h;refine wpAny_Assign_Name (thn (he kX s Z H _ I h) λ v s1 ⟨y,H1,I1,r1,q1⟩=>?_) hs;exact uw I1 hN hi hx r1 (λ s2 I2=>⟨_,H1,I2,q1⟩) hf
def aNU(i:Nat)(te:TE)(ti:TIp):TS:=λ D Z H=>∃x,Z[i]? =some (some x)/\te Z H λ y H1=>ti x y H1 λ z H2=>D.nx (Z.set i (some z)) H2
def aKk(hN:X.N.Nodup)(hi:X.N[i]? =some x)(hx:Loc X.env.scope x)(he:PE X e te)(ho:PIp X op ti)(hf:X.fn x=true\/X.env.scope.names.lookup x=some .local:=by first|exact .inl rfl|exact .inr rfl|assumption):
  PS X (.AugAssign (.Name x pos') op e pos) (aNU i te ti):=by
 intro kX s Z H D I h;obtain⟨v,e1,h⟩:=h;obtain⟨m,hn,hl⟩:=I.loc;have vis:Vis X.env.scope x:=by rcases hx with k|k;exact .inl k;exact .inr (.inl k)
 obtain⟨u,r,l⟩:=hl i x v hi e1 vis;refine wpAny_AugAssign_Name ?_;have go:wpAny (model X.prog X.w) X.A (eval e X.env) (λ w z5=>wpAny (model X.prog X.w) X.A (inplaceOp op u w) (λ r zC=>wpAny (model X.prog X.w) X.A (storeName X.env x r) (λ _=>SP X kX D .next) X.xe zC) X.xe z5) X.xe s:=by
  refine thn (he kX s Z H _ I h) λ w s1 ⟨y,H1,I1,r1,q1⟩=>?_
  refine thn (ho kX s1 Z H1 v y u w _ I1 r r1 q1) λ z s2 ⟨zv,H2,I2,r2,q2⟩=>?_
  exact uw I2 hN hi hx r2 (λ s3 I3=>⟨_,H2,I3,q2⟩) hf
 rcases l with ⟨hk,hm⟩|⟨hk,c,hc,hcell⟩
 .exact zIT I.ok.kind hk hn hm go
 .rcases hk with hk|hk
  .exact zI3 I.ok.kind hk hc hcell go
  .rcases hx with k|k
   .have:X.env.scope.names.lookup x=some .free:=hk
    rw[k]at this;cases this
   .have:X.env.scope.names.lookup x=some .free:=hk
    rw[k]at this;cases this
def ipI(f:Int->Int->Int):TIp:=λ x y H Q=>∃i j,x= .int i/\y= .int j/\Q (.int (f i j)) H
def aL8:PIp X .Add (ipI λ i j=>i+j):=by
 intro kX s Z H x y v u Q I r1 r2 h;obtain⟨i,j,e1,e2,q⟩:=h;subst e1;subst e2;obtain⟨t,rfl⟩:=r1;obtain⟨t',rfl⟩:=r2;exact iadd_int ⟨.int _,H,I.tok _,⟨_,rfl⟩,q⟩
end
section
variable{X:Cx}{pos:Pos}
def aKN(c:TT)(tb:TS):TS:=λ D Z H=>∃W:Nat->St->Hp->Prop,(∃m,W m Z H)/\∀m Z H,W m Z H->
 c Z H λ b H1=>if b=true then∃N:St->Hp->Prop,(∀Z' H',N Z' H'->∃m',m'<m/\W m' Z' H')/\tb {D with nx:=N,ct:=N,bk:=D.nx} Z H1 else D.nx Z H1
def aFu(hp:zIC (model X.prog X.w) X.A X.env X.xe)(hc:PT X c tc)(hb:PSs X body tb):PS X (.While c body [] pos) (aKN tc tb):=by
 intro kX s Z H D I h;obtain⟨W,⟨m0,w0⟩,turn⟩:=h;refine wpAny_While (codeAny_whileLoop (λ n s'=>∃Z' H',Inv X kX Z' H' s'/\W n Z' H') ?_ m0 ⟨Z,H,I,w0⟩);rintro n s1 ⟨Z1,H1,I1,w1⟩;refine zCf hp (thn (hc kX s1 Z1 H1 _ I1 (turn n Z1 H1 w1)) λ b s2 ⟨H2,I2,q2⟩=>?_);cases b with
 |true=>
  obtain⟨N,hN,q2⟩:=q2;rw[if_pos rfl];refine zCf hp (thn (hb kX s2 Z1 H2 _ I2 q2) λ f s3 q3=>?_);cases f with
  |next=>
   obtain⟨Z3,H3,I3,n3⟩:=q3;obtain⟨m',hm,w3⟩:=hN Z3 H3 n3;exact⟨m',hm,Z3,H3,I3,w3⟩
  |cont=>
   obtain⟨Z3,H3,I3,n3⟩:=q3;obtain⟨m',hm,w3⟩:=hN Z3 H3 n3;exact⟨m',hm,Z3,H3,I3,w3⟩
  |brk=>exact q3
  |ret v=>exact q3
 |false=>
  rw[if_neg zA0];exact zEw ⟨Z1,H2,I2,q2⟩
end
structure It where
 go:Nat->Hp->Prop
 yld:Nat->Hp->V->Hp->Prop
 stop:Nat->Hp->Prop
def qz(X:Cx)(kX:hZ)(H:Hp)(b:Addr):Prop:=
 H b=none/\b≠X.env.locals/\b∉X.fs/\(b∈X.ex\/X.z4.heap.objs.size<=b)/\(∀x c,X.env.cells.lookup x=some c->c≠b)/\∀p∈X.ta++(X.pn++kX),p.1≠b
def Inv.fpOk(I:Inv X kX Z H s)(hb:s.heap.objs.size<=b)(hn:H' b=none):qz X kX H' b:=by
 refine⟨hn,zB4 (zAW I.lt hb),I.nofs hb,.inr (zAn I.sz hb),λ x c e z=>?_,λ p hp z=>?_⟩
 .obtain⟨v,q⟩:=I.cell x c e
  exact absurd (zAW q.lt (by rw[z];exact hb)) (zBQ _)
 .exact absurd (zAW (I.pinL hp) (by rw[z];exact hb)) (zBQ _)
structure Turn(P:zAV)(w:World)(K:zAA)(tg:Expr)(J:It)(fp:List Addr)(it:Addr)(tn:Nat->Heap->Prop):Prop where
 mem:it∈fp
 obj:∀i h,tn i h->∀b∈fp,∃o,h.get? b=some o/\∀v,o.data≠.cell v
 keep:∀i h h',tn i h->(∀b∈fp,∀o,h.get? b=some o->h'.get? b=some o)->tn i h'
 item:∀(X:Cx),X.prog=P->X.w=w->X.K=K->X.calm=true->∀(i:Nat) (kX:hZ) (s:zAF) (Z:St) (H:Hp) (E:Value->zAF->Prop),Inv X kX Z H s->(∀b∈fp,qz X kX H b)->tn i s.heap->J.go i H->
  wpAny (model P w) X.A (zDg (.ref it)) (λ r s1=>∃u,r=some u/\
   wpAny (model P w) X.A (zDJ tg (.ref it) u) (λ _ s2=>∃x H',Inv X kX Z H' s2/\RelV x u/\J.yld i H x H'/\tn (i+1) s2.heap/\∀b∈fp,H' b=none) E s1) E s
 done:∀(X:Cx),X.prog=P->X.w=w->X.K=K->X.calm=true->∀(i:Nat) (kX:hZ) (s:zAF) (Z:St) (H:Hp) (E:Value->zAF->Prop),Inv X kX Z H s->(∀b∈fp,qz X kX H b)->tn i s.heap->J.stop i H->
  wpAny (model P w) X.A (zDg (.ref it)) (λ r s1=>r=none/\Inv X kX Z H s1) E s
 self:∀(A:zAc) (i:Nat) (s:zAF) (Q:Value->zAF->Prop) (E:Value->zAF->Prop),tn i s.heap->Q (.ref it) s->wpAny (model P w) A (zGO (.ref it)) Q E s
abbrev TI:=St->Hp->(It->Hp->Prop)->Prop
def PIE(X:Cx)(kX:hZ)(Z:St)(tg:Expr)(R:It->Hp->Prop)(itv:Value)(s2:zAF):Prop:=
 ∃(it:Addr) (fp:List Addr) (tn:Nat->Heap->Prop) (J:It) (H':Hp),itv= .ref it/\Inv X kX Z H' s2/\Turn X.prog X.w X.K tg J fp it tn/\tn 0 s2.heap/\(∀b∈fp,qz X kX H' b)/\R J H'
def PI(X:Cx)(tg iter:Expr)(wi:TI):Prop:=
 ∀(kX:hZ) (s:zAF) (Z:St) (H:Hp) (R:It->Hp->Prop),Inv X kX Z H s->wi Z H R->
  wpAny (model X.prog X.w) X.A (eval iter X.env) (λ v s1=>wpAny (model X.prog X.w) X.A (zGO v) (PIE X kX Z tg R) X.xe s1) X.xe s
def aDe(ho:s.heap.get? it=some o)(hc:o.cls= .type n)(hd:o.data= .fields vs)
    (hn:["enumerate","zip","dict_itemiterator","dict_reverseitemiterator","odict_iterator","itertools.zip_longest","itertools.pairwise"].contains n=false)(hQ:Q () s):wpAny M A (zDJ tg (.ref it) u) Q E s:=by
  unfold zDJ;cases tg<;>first
    |exact zAG hQ
    | (cases u <;> first
        |exact zAG hQ
        | (refine zAB (zIw ho ?_)
           rw[hc,hd];show wpAny M A (if (["enumerate","zip","dict_itemiterator","dict_reverseitemiterator","odict_iterator","itertools.zip_longest","itertools.pairwise"].contains n&&vs[0]? ==some (zFi _))=true then _ else _) Q E s;rw[if_neg (by intro h;rw[hn,zIV]at h;cases h)];exact zAG hQ))
def Itl(K:zAA)(a:Addr):It:=
 ⟨λ i H=>∃xs x,SqL K H a xs/\xs[i]? =some x,λ i H x H'=>H'=H/\∀xs,SqL K H a xs->xs[i]? =some x,λ i H=>∃xs,SqL K H a xs/\xs.length<=i⟩
def Itt(K:zAA)(a:Addr):It:=
 ⟨λ i H=>∃xs x,SqT K H a xs/\xs[i]? =some x,λ i H x H'=>H'=H/\∀xs,SqT K H a xs->xs[i]? =some x,λ i H=>∃xs,SqT K H a xs/\xs.length<=i⟩
def Itr(lo:Int)(n:Nat):It:=⟨λ i _=>i<n,λ i H x H'=>H'=H/\x= .int (lo+i),λ i _=>n<=i⟩
def aDy{P:zAV}{w:World}{K:zAA}{tg:Expr}(a it:Addr):Turn P w K tg (Itl K a) [it] it (λ i h=>h.IsListIter it a i) where
 mem:=by simp
 obj:=λ i h st b hb=>by
  have e:b=it:=by simpa using hb
  subst e;obtain⟨o,e,c,d⟩:=st;exact⟨o,e,λ v z=>by rw[d]at z;cases z⟩
 keep:=λ i h h' st k=>st.at λ o e=>k it (by simp) o e
 item:=by
  intro X hP hw hK hc i kX s Z H E I hf st hg;subst hP hw hK;obtain⟨xs,x,hq,hx⟩:=hg;obtain⟨its,rv,p,hz⟩:=I.list hq;obtain⟨u,hu,ru⟩:=rv.get hx;obtain⟨f0,f1,f2,f3,f4,f5⟩:=hf it (by simp);refine wpAny_pyNext_list_item st p.isList (x:=u) (by simpa using hu) λ h' st' sb=>?_
  have I1:Inv X kX Z H {s with heap:=h'}:=I.turned (t':=s.toks) (λ b o hb e=>(sb.2 b hb).trans e) f0 f1 f3 f4 f5;obtain⟨o,e,c,d⟩:=id st';exact⟨u,rfl,aDe (s:={s with heap:=h'}) e c d (by decide) ⟨x,H,I1,ru,⟨rfl,λ ys hy=>by rw[I.list_inj hy hq];exact hx⟩,st',λ b hb=>(hf b hb).1⟩⟩
 done:=by
  intro X hP hw hK hc i kX s Z H E I hf st hg;subst hP hw hK;obtain⟨xs,hq,hx⟩:=hg;obtain⟨its,rv,p,hz⟩:=I.list hq;obtain⟨f0,f1,f2,f3,f4,f5⟩:=hf it (by simp);have hl:=rv.length;exact wpAny_pyNext_list_end (I.ok.hd hc) st p.isList (by simp;lia) λ h' eb=>⟨rfl,I.turned (t':=s.toks) (λ b o hb e=>eb b o hb e) f0 f1 f3 f4 f5⟩
 self:=λ _ _ _ _ _ st h=>wpAny_pyIter_listiter st h
def aBq{P:zAV}{w:World}{K:zAA}{tg:Expr}(a it:Addr):Turn P w K tg (Itt K a) [it] it (λ i h=>h.IsTupleIter it a i) where
 mem:=by simp
 obj:=λ i h st b hb=>by
  have e:b=it:=by simpa using hb
  subst e;obtain⟨o,e,c,d⟩:=st;exact⟨o,e,λ v z=>by rw[d]at z;cases z⟩
 keep:=λ i h h' st k=>st.at λ o e=>k it (by simp) o e
 item:=by
  intro X hP hw hK hc i kX s Z H E I hf st hg;subst hP hw hK;obtain⟨xs,x,hq,hx⟩:=hg;obtain⟨its,rv,p,hz⟩:=I.tuple hq;obtain⟨u,hu,ru⟩:=rv.get hx;obtain⟨f0,f1,f2,f3,f4,f5⟩:=hf it (by simp);refine wpAny_pyNext_tuple_item st (show s.heap.IsTuple a its.toArray from p) (x:=u) (by simpa using hu) λ h' st' sb=>?_
  have I1:Inv X kX Z H {s with heap:=h'}:=I.turned (t':=s.toks) (λ b o hb e=>(sb.2 b hb).trans e) f0 f1 f3 f4 f5;obtain⟨o,e,c,d⟩:=id st';exact⟨u,rfl,aDe (s:={s with heap:=h'}) e c d (by decide) ⟨x,H,I1,ru,⟨rfl,λ ys hy=>by rw[I.tuple_inj hy hq];exact hx⟩,st',λ b hb=>(hf b hb).1⟩⟩
 done:=by
  intro X hP hw hK hc i kX s Z H E I hf st hg;subst hP hw hK;obtain⟨xs,hq,hx⟩:=hg;obtain⟨its,rv,p,hz⟩:=I.tuple hq;obtain⟨f0,f1,f2,f3,f4,f5⟩:=hf it (by simp);have hl:=rv.length;exact wpAny_pyNext_tuple_end (I.ok.hd hc) st (show s.heap.IsTuple a its.toArray from p) (by simp;lia) λ h' eb=>⟨rfl,I.turned (t':=s.toks) (λ b o hb e=>eb b o hb e) f0 f1 f3 f4 f5⟩
 self:=λ _ _ _ _ _ st h=>wpAny_pyIter_tupleiter st h
def aBr{P:zAV}{w:World}{K:zAA}{tg:Expr}(it:Addr)(lo:Int)(n:Nat):Turn P w K tg (Itr lo n) [it] it (λ i h=>IsRangeIter h it (lo+(i:Nat)*1) ((n:Int)-(i:Nat)) 1) where
 mem:=by simp
 obj:=λ i h st b hb=>by
  have e:b=it:=by simpa using hb
  subst e;exact⟨_,st,λ v z=>by
   have z':Data.fields _=Data.cell v:=z;cases z'⟩
 keep:=λ i h h' st k=>k it (by simp) _ st
 item:=by
  intro X hP hw hK hc i kX s Z H E I hf st hg;subst hP hw hK;obtain⟨f0,f1,f2,f3,f4,f5⟩:=hf it (by simp);have W:=Walks.range (prog:=X.prog) (w:=X.w) (I.ok.hd hc) it lo 1 n;refine W.item i s _ _ hg st λ v h' tk hv st' kk=>?_
  obtain⟨t,rfl⟩:=hv;have I1:Inv X kX Z H {s with heap:=h',toks:=tk}:=I.turned (λ b o hb e=>kk b o (by simpa using hb) e) f0 f1 f3 f4 f5;refine⟨_,rfl,aDe (s:={s with heap:=h',toks:=tk}) (n:="range_iterator") st' rfl rfl (by decide) ⟨.int (lo+i),H,I1,⟨t,?_⟩,⟨rfl,rfl⟩,st',λ b hb=>(hf b hb).1⟩⟩;rw[Int.mul_one]
 done:=by
  intro X hP hw hK hc i kX s Z H E I hf st hg;subst hP hw hK;obtain⟨f0,f1,f2,f3,f4,f5⟩:=hf it (by simp);exact wpAny_pyNext_range_end (I.ok.hd hc) st (by have:n<=i:=hg;lia) λ h' eb=>⟨rfl,I.turned (t':=s.toks) (λ b o hb e=>eb b o hb e) f0 f1 f3 f4 f5⟩
 self:=λ _ _ _ _ _ st h=>wpAny_pyIter_rangeiter st h
section
variable{X:Cx}{tg:Expr}
def aAr{kX:hZ}{Z:St}{H:Hp}{s:zAF}{R:It->Hp->Prop}{E:Value->zAF->Prop}{lo hi:Int}{t u v:Tok}{tk:Nat}(I:Inv X kX Z H s)(h1: -(2^62)<=lo)(h2:lo<2^62)(h3: -(2^62)<=hi)(h4:hi<2^62)
  (q:R (Itr lo (hi-lo).toNat) H):wpAny (model X.prog X.w) X.A (zGO (.ref s.heap.objs.size)) (PIE X kX Z tg R) E {s with heap:=s.heap.push {cls:=.type "range",data:=.fields #[.int lo t,.int hi u,.int 1 v]},toks:=tk}:=by
 refine wpAny_pyIter_range (IsRange.new ..) (small_one h1 h2 h3 h4) ?_;have I1:Inv X kX Z H {s with heap:=s.heap.push {cls:=.type "range",data:=.fields #[.int lo t,.int hi u,.int 1 v]},toks:=tk}:=I.kept λ b o e=>zAC _ e
 refine⟨(s.heap.push {cls:=.type "range",data:=.fields #[.int lo t,.int hi u,.int 1 v]}).objs.size,[(s.heap.push {cls:=.type "range",data:=.fields #[.int lo t,.int hi u,.int 1 v]}).objs.size],_,_,H,rfl,
  I1.kept (t':=tk) λ b o e=>zAC _ e,aBr _ lo (hi-lo).toNat,?_,λ b hb=>?_,q⟩
 .have e1:lo+((0:Nat):Int)*1=lo:=by simp
  have e2:(((hi-lo).toNat:Nat):Int)-((0:Nat):Int)=zIe lo hi 1:=by rw[rangeSize_one];split<;>lia
  show IsRangeIter _ _ (lo+((0:Nat):Int)*1) ((((hi-lo).toNat:Nat):Int)-((0:Nat):Int)) 1;rw[e1,e2];exact zAJ _ rfl
 .have e:b=(s.heap.push {cls:=.type "range",data:=.fields #[.int lo t,.int hi u,.int 1 v]}).objs.size:=by simpa using hb
  subst e;exact I1.fpOk (zAS _) (I1.hok.fresh (zAS _))
def aMn(ta:TA):TI:=λ Z H R=>ta Z H λ vs H1=>∃j:Int,vs=[.int j]/\-(2^62)<=j/\j<2^62/\R (Itr 0 j.toNat) H1
def aMm(ta:TA):TI:=λ Z H R=>ta Z H λ vs H1=>∃i j:Int,vs=[.int i,.int j]/\(-(2^62)<=i/\i<2^62/\-(2^62)<=j/\j<2^62)/\R (Itr i (j-i).toNat) H1
def aEW{a:Expr}{ta:TA}{p pos:Pos}(hg:Gl X "range")(hm:X.mg "range"=none)(ha:PA X [a] ta)(hs:zAU [a] X.env=[(false,eval a X.env)]:=by rfl):PI X tg (.Call (.Name "range" p) [a] [] pos) (aMn ta):=by
 intro kX s Z H R I h;refine Call_ (vq I hg hm boot_range (zDE (thn (ha pos kX s Z H _ I h) λ us s1 ⟨vs,H1,I1,r1,q1⟩=>?_) hs rfl));obtain⟨j,e,q1,q2,q⟩:=q1;subst e;cases r1 with
 |cons r rr=>
  cases rr;obtain⟨t,rfl⟩:=r;exact call_range_1 (aAr I1 (by lia) (by lia) q1 q2 (by simpa using q))
def aEV(hg:Gl X "range")(hm:X.mg "range"=none)(ha:PA X [a,b] ta)(hs:zAU [a,b] X.env=[(false,eval a X.env),(false,eval b X.env)]:=by rfl)(hs2:zAU [b] X.env=[(false,eval b X.env)]:=by rfl):
  PI X tg (.Call (.Name "range" p) [a,b] [] pos) (aMm ta):=by
 intro kX s Z H R I h;refine Call_ (vq I hg hm boot_range (zDE (thn (ha pos kX s Z H _ I h) λ us s1 ⟨vs,H1,I1,r1,q1⟩=>?_) (by rw[hs,hs2]) (by rw[hs2];rfl)));obtain⟨i,j,e,⟨q1,q2,q3,q4⟩,q⟩:=q1;subst e;cases r1 with
 |cons r rr=>
  cases rr with
  |cons r' rr=>
   cases rr;obtain⟨t,rfl⟩:=r;obtain⟨t',rfl⟩:=r';exact call_range_2 (aAr I1 q1 q2 q3 q4 q)
def aNT(wi:TI)(g:TG)(tb:TS):TS:=λ D Z H=>wi Z H λ J H1=>∃W:Nat->Nat->St->Hp->Prop,(∃m,W 0 m Z H1)/\∀i m Z H,W i m Z H->
 (J.stop i H/\D.nx Z H)\/(J.go i H/\∃N:St->Hp->Prop,(∀Z' H',N Z' H'->∃m',m'<m/\W (i+1) m' Z' H')/\∀x H',J.yld i H x H'->g x Z H' λ Z2 H2=>tb {D with nx:=N,ct:=N,bk:=D.nx} Z2 H2)
def rP(fp:List Addr)(h:Heap):hZ:=fp.filterMap λ b=>(h.get? b).map λ o=>(b,o)
def lL(hb:b∈fp)(e:h.get? b=some o):(b,o)∈rP fp h:=zBp.mpr ⟨b,hb,by rw[e];rfl⟩
def yK(hp:p∈rP fp h):p.1∈fp/\h.get? p.1=some p.2:=by
 obtain⟨b,hb,e⟩:=zBp.mp hp;cases q:h.get? b with
 |none=>rw[q]at e;cases e
 |some o=>
  rw[q]at e;have e':(b,o)=p:=zAs e;subst e';exact⟨hb,q⟩
def Inv.pinned(I:Inv X kX Z H s)(hf:∀b∈fp,qz X kX H b)(ho:∀b∈fp,∃o,s.heap.get? b=some o/\∀v,o.data≠.cell v):Inv X (kX++rP fp s.heap) Z H s:=
 I.pins_of (λ p hp=>(zA3.mp hp).elim (λ z=>I.pin p (zAd _ z)) λ z=>by
  obtain⟨hb,e⟩:=yK z;obtain⟨f0,f1,f2,_⟩:=hf p.1 hb;obtain⟨o,e',d⟩:=ho p.1 hb;rw[e]at e';cases e';exact⟨e,f0,f1,f2,d⟩) λ q hq p hp=>(zA3.mp hq).elim (λ z=>(I.tab p hp).2.2.2.1 q (zAd _ z)) λ z=>((hf q.1 (yK z).1).2.2.2.2.2 p (zAb _ hp)).symm
def Inv.unpinned(I:Inv X (kX++pl) Z H s):Inv X kX Z H s:=I.pins_of (λ p hp=>I.pin p (zAd _ (zAb _ hp))) λ q hq p hp=>(I.tab p hp).2.2.2.1 q (zAd _ (zAb _ hq))
def aGA(hp:zIC (model X.prog X.w) X.A X.env X.xe)(hc:X.calm=true)(hi:PI X tg iter wi)(hg:PG X tg g)(hb:PSs X body tb)
  (hs:∀x,zBl iter X.env x=pure x:=by intro _;rfl):PS X (.For tg iter body [] pos) (aNT wi g tb):=by
 intro kX s Z H D I h;refine wpAny_For (thn (hi kX s Z H _ I h) λ v s1 h1=>thn h1 λ itv s2 h2=>?_) hs;obtain⟨it,fp,tn,J,H2,e,I2,T,st2,f2,W,⟨m0,w0⟩,turn⟩:=h2;subst e;have aI:∀{H':Hp},(∀b∈fp,H' b=none)->∀b∈fp,qz X kX H' b:=λ hn b hb=>⟨hn b hb,(f2 b hb).2⟩
 refine codeAny_forLoop_any (λ n s'=>∃i Z' H',Inv X kX Z' H' s'/\tn i s'.heap/\(∀b∈fp,H' b=none)/\W i n Z' H') ?_ m0 ⟨0,Z,H2,I2,st2,λ b hb=>(f2 b hb).1,w0⟩;rintro n s3 ⟨i,Z3,H3,I3,st3,fr3,w3⟩;rcases turn i n Z3 H3 w3 with ⟨stop,qn⟩|⟨go,N,hN,step⟩
 .refine zCf hp (thn (T.done X rfl rfl rfl hc i kX s3 Z3 H3 X.xe I3 (aI fr3) st3 stop) λ r s4 ⟨hr,I4⟩=>?_)
  subst hr;exact zEw ⟨Z3,H3,I4,qn⟩
 .refine zCf hp (thn (T.item X rfl rfl rfl hc i kX s3 Z3 H3 X.xe I3 (aI fr3) st3 go) λ r s4 ⟨u,hr,h4⟩=>?_)
  subst hr;refine zCf hp (thn h4 λ _ s5 ⟨x,H5,I5,r5,y5,st5,fr5⟩=>?_);have I5':=I5.pinned (aI fr5) (T.obj _ _ st5);refine zCf hp (thn (hg _ s5 Z3 H5 x u _ I5' r5 (step x H5 y5)) λ _ s6 ⟨Z6,H6,I6,q6⟩=>?_);refine zCf hp (thn (hb _ s6 Z6 H6 _ I6 q6) λ f s7 q7=>?_);have again:∀{Z7:St} {H7:Hp},Inv X (kX++rP fp s5.heap) Z7 H7 s7->N Z7 H7->∃m,m<n/\∃i Z' H',Inv X kX Z' H' s7/\tn i s7.heap/\(∀b∈fp,H' b=none)/\W i m Z' H':=λ{Z7 H7} I7 n7=>by
   obtain⟨m',hm,w7⟩:=hN Z7 H7 n7;refine⟨m',hm,i+1,Z7,H7,I7.unpinned,T.keep _ _ _ st5 λ b hb o e=>(I7.pin (b,o) (zAd _ (zAd _ (lL hb e)))).1,λ b hb=>?_,w7⟩;obtain⟨o,e,d⟩:=T.obj _ _ st5 b hb;exact(I7.pin (b,o) (zAd _ (zAd _ (lL hb e)))).2.1
  cases f with
  |next=>obtain⟨Z7,H7,I7,n7⟩:=q7;exact again I7 n7
  |cont=>obtain⟨Z7,H7,I7,n7⟩:=q7;exact again I7 n7
  |brk=>obtain⟨Z7,H7,I7,q7⟩:=q7;exact⟨Z7,H7,I7.unpinned,q7⟩
  |ret v=>obtain⟨x7,Z7,H7,I7,r7,q7⟩:=q7;exact⟨x7,Z7,H7,I7.unpinned,r7,q7⟩
end
abbrev R2:=V->V->Hp->VK->Prop
def OpR(X:Cx)(f:Value->Value->Sem Value)(r:R2):Prop:=
 ∀(kX:hZ) (s:zAF) (Z:St) (H:Hp) (x y:V) (v u:Value) (Q:VK),Inv X kX Z H s->RelV x v->RelV y u->r x y H Q->
  wpAny (model X.prog X.w) X.A (f v u) (EP X kX Z Q) X.xe s
def cX(X:Cx)(f:Value)(r:List V->Hp->VK->Prop):Prop:=
 ∀(kX:hZ) (s:zAF) (Z:St) (H:Hp) (xs:List V) (us:List Value) (Q:VK),Inv X kX Z H s->Vals xs us->r xs H Q->
  wpAny (model X.prog X.w) X.A (call f us) (EP X kX Z Q) X.xe s
def aN2(X:Cx)(r:V->Hp->(Bool->Hp->Prop)->Prop):Prop:=
 ∀(kX:hZ) (s:zAF) (Z:St) (H:Hp) (x:V) (v:Value) (Q:Bool->Hp->Prop),Inv X kX Z H s->RelV x v->r x H Q->
  wpAny (model X.prog X.w) X.A (truthy v) (TP X kX Z Q) X.xe s
def tOp(r:R2)(ta tb:TE):TE:=λ Z H Q=>ta Z H λ x H1=>tb Z H1 λ y H2=>r x y H2 Q
def rI(C:Int->Int->Prop)(g:Int->Int->V):R2:=λ x y H Q=>∃i j,x= .int i/\y= .int j/\C i j/\Q (g i j) H
def rI0(g:Int->Int->V):R2:=λ x y H Q=>∃i j,x= .int i/\y= .int j/\Q (g i j) H
section
variable{X:Cx}{a b:Expr}{ta tb:TE}{pos:Pos}
def aLq(ha:PE X a ta)(hb:PE X b tb){kX:hZ}{s:zAF}{Z:St}{H:Hp}{R:V->V->Hp->Prop}(I:Inv X kX Z H s)
  (h:ta Z H λ x H1=>tb Z H1 λ y H2=>R x y H2){Q:Value->zAF->Prop}{f:Value->Value->Sem Value}
  (hf:∀v u s2 x y H2,Inv X kX Z H2 s2->RelV x v->RelV y u->R x y H2->wpAny (model X.prog X.w) X.A (f v u) Q X.xe s2):
  wpAny (model X.prog X.w) X.A (eval a X.env) (λ v zI=>wpAny (model X.prog X.w) X.A (eval b X.env) (λ u z5=>wpAny (model X.prog X.w) X.A (f v u) Q X.xe z5) X.xe zI) X.xe s:=by
 refine thn (ha kX s Z H _ I h) λ v s1 ⟨x,H1,I1,r1,q1⟩=>?_
 refine thn (hb kX s1 Z H1 _ I1 q1) λ u s2 ⟨y,H2,I2,r2,q2⟩=>?_
 exact hf v u s2 x y H2 I2 r1 r2 q2
def aM1{op:Operator}{r:R2}(ho:OpR X (zCU op) r)(ha:PE X a ta)(hb:PE X b tb):PE X (.BinOp a op b pos) (tOp r ta tb):=by
 intro kX s Z H Q I h;exact wpAny_BinOp (aLq ha hb I h λ v u s2 x y H2 I2 rx ry q=>ho kX s2 Z H2 x y v u Q I2 rx ry q)
def opI{f:Value->Value->Sem Value}{C:Int->Int->Prop}{g:Int->Int->Int}
  (rule:∀(i j:Int) (t u:Tok) (s:zAF) (Q:Value->zAF->Prop) (E:Value->zAF->Prop),C i j->Q (.int (g i j) s.toks) {s with toks:=s.toks+1}->wpAny (model X.prog X.w) X.A (f (.int i t) (.int j u)) Q E s):
  OpR X f (rI C λ i j=>.int (g i j)):=by
 intro kX s Z H x y v u Q I rx ry h;obtain⟨i,j,rfl,rfl,hc,q⟩:=h;obtain⟨t,rfl⟩:=rx;obtain⟨t',rfl⟩:=ry;exact rule i j t t' s _ _ hc ⟨.int (g i j),H,I.tok _,⟨_,rfl⟩,q⟩
def aMb{f:Value->Value->Sem Value}{g:Int->Int->Int}
  (rule:∀(i j:Int) (t u:Tok) (s:zAF) (Q:Value->zAF->Prop) (E:Value->zAF->Prop),Q (.int (g i j) s.toks) {s with toks:=s.toks+1}->wpAny (model X.prog X.w) X.A (f (.int i t) (.int j u)) Q E s):
  OpR X f (rI0 λ i j=>.int (g i j)):=by
 intro kX s Z H x y v u Q I rx ry h;obtain⟨i,j,rfl,rfl,q⟩:=h;obtain⟨t,rfl⟩:=rx;obtain⟨t',rfl⟩:=ry;exact rule i j t t' s _ _ ⟨.int (g i j),H,I.tok _,⟨_,rfl⟩,q⟩
def aIb{f:Value->Value->Sem Value}{g:Int->Int->Bool}
  (rule:∀(i j:Int) (t u:Tok) (s:zAF) (Q:Value->zAF->Prop) (E:Value->zAF->Prop),Q (.bool (g i j)) s->wpAny (model X.prog X.w) X.A (f (.int i t) (.int j u)) Q E s):
  OpR X f (rI0 λ i j=>.bl (g i j)):=by
 intro kX s Z H x y v u Q I rx ry h;obtain⟨i,j,rfl,rfl,q⟩:=h;obtain⟨t,rfl⟩:=rx;obtain⟨t',rfl⟩:=ry;exact rule i j t t' s _ _ ⟨.bl (g i j),H,I,rfl,q⟩
def aNK(i j:Int):Prop:=0<j/\j<1073741824
def aN8(i j:Int):Prop:=0<=j/\j<=1000000/\i.natAbs<2^64
def aJ8(i j:Int):Prop:=(-(2^64)<i/\i<2^64)\/(-(2^64)<j/\j<2^64)
def aJ8.ok(h:aJ8 i j):IntMulOk i j:=by
 rcases h with ⟨h1,h2⟩|⟨h1,h2⟩
 .exact .of_left (intBits_le_64 h1 h2)
 .exact .of_right (intBits_le_64 h1 h2)
def aLQ:OpR X (zCU .Add) (rI0 λ i j=>.int (i+j)):=aMb λ _ _ _ _ _ _ _ q=>add_int q
def aLD:OpR X (zCU .Sub) (rI0 λ i j=>.int (i-j)):=aMb λ _ _ _ _ _ _ _ q=>sub_int q
def aLH:OpR X (zCU .Mult) (rI aJ8 λ i j=>.int (i*j)):=opI λ _ _ _ _ _ _ _ hc q=>mul_int q hc.ok
def aI5:OpR X (zCU .FloorDiv) (rI aNK λ i j=>.int (i / j)):=opI λ i j _ _ _ _ _ hc q=>by
 have h1:(0:Int)<j:=hc.1;have h2:j<1073741824:=hc.2;exact floordiv_int (by lia) (by rw[Int.fdiv_eq_ediv_of_nonneg i (by lia)];exact q) (.inl (PyProof.noPylong_small (by lia)))
def aLI:OpR X (zCU .Mod) (rI (λ _ j=>0<j) λ i j=>.int (i%j)):=opI λ i j _ _ _ _ _ hc q=>by
 have h1:(0:Int)<j:=hc;exact mod_int' (by lia) (by rw[Int.fmod_eq_emod_of_nonneg i (by lia)];exact q)
def aLF:OpR X (zCU .Pow) (rI aN8 λ i j=>.int (i^j.toNat)):=opI λ _ _ _ _ _ _ _ hc q=>pow_int_small hc.1 hc.2.1 hc.2.2 q
end
section
variable{X:Cx}{a b c:Expr}{ta tb tc:TE}{pos:Pos}
def aM7:OpR X (zBA .Lt) (rI0 λ i j=>.bl (decide (i<j))):=aIb λ _ _ _ _ _ _ _ q=>lt_int q
def aM8:OpR X (zBA .LtE) (rI0 λ i j=>.bl (decide (i<=j))):=aIb λ _ _ _ _ _ _ _ q=>le_int q
def aM9:OpR X (zBA .Gt) (rI0 λ i j=>.bl (decide (j<i))):=aIb λ _ _ _ _ _ _ _ q=>gt_int q
def aMa:OpR X (zBA .GtE) (rI0 λ i j=>.bl (decide (j<=i))):=aIb λ _ _ _ _ _ _ _ q=>ge_int q
def isObj:HO->Bool
 | .lst _=>true
 | .ins _ _ _=>true
 |_=>false
def aGW(b:Expr)(h:op≠.In:=by decide)(h2:op≠.NotIn:=by decide):zCM op b=false:=by
 have e1:(op==CmpOp.In)=false:=by cases op<;>first|rfl|exact absurd rfl h
 have e2:(op==CmpOp.NotIn)=false:=by cases op<;>first|rfl|exact absurd rfl h2
 cases b<;>simp[zCM,e1,e2]
def aIW{op:CmpOp}{r:R2}(ho:OpR X (zBA op) r)(ha:PE X a ta)(hb:PE X b tb)(hm:zCM op b=false):PE X (.Compare a [op] [b] pos) (tOp r ta tb):=by
 intro kX s Z H Q I h;exact wpAny_Compare1 (aLq ha hb I h λ v u s2 x y H2 I2 rx ry q=>ho kX s2 Z H2 x y v u Q I2 rx ry q) hm
def aJc(t:TE):TT:=λ Z H Q=>t Z H λ x H'=>∃k,x= .bl k/\Q k H'
def aIN(ho:OpR X (zBA op) r)(ha:PE X a ta)(hb:PE X b tb)(hm:zCM op b=false):PT X (.Compare a [op] [b] pos) (aJc (tOp r ta tb)):=by
 intro kX s Z H Q I h;refine wpAny_isTrue_Compare1 (thn (ha kX s Z H _ I h) λ v s1 ⟨x,H1,I1,r1,q1⟩=>thn (hb kX s1 Z H1 _ I1 q1) λ u s2 ⟨y,H2,I2,r2,q2⟩=>
  thn (ho kX s2 Z H2 x y v u _ I2 r1 r2 q2) λ c s3 ⟨z,H3,I3,r3,k,e,q3⟩=>?_) hm
 subst e;cases r3;exact zCX ⟨H3,I3,q3⟩
def aFI(r r':R2)(ta tb tc:TE):TE:=λ Z H Q=>ta Z H λ x H1=>tb Z H1 λ y H2=>r x y H2 λ z H3=>∃k,z= .bl k/\
 (if k=true then tc Z H3 λ w' H4=>r' y w' H4 Q else Q (.bl false) H3)
def aGI(ho:OpR X (zBA op) r)(ho':OpR X (zBA op') r')(ha:PE X a ta)(hb:PE X b tb)(hc:PE X c tc)
  (hm:zIJ [op,op'] [b,c]=false:=by with_unfolding_all rfl):PE X (.Compare a [op,op'] [b,c] pos) (aFI r r' ta tb tc):=by
 intro kX s Z H Q I h;refine Compare_chain (thn (ha kX s Z H _ I h) λ v s1 ⟨x,H1,I1,r1,q1⟩=>chain_link (thn (hb kX s1 Z H1 _ I1 q1) λ u s2 ⟨y,H2,I2,r2,q2⟩=>
  thn (ho kX s2 Z H2 x y v u _ I2 r1 r2 q2) λ d s3 ⟨z,H3,I3,r3,k,e,q3⟩=>?_)) hm
 subst e;cases r3;refine zCX ?_;cases k with
 |false=>exact ite_ff ⟨.bl false,H3,I3,rfl,q3⟩
 |true=>exact ite_tt (chain_last (thn (hc kX s3 Z H3 _ I3 q3) λ w' s4 ⟨z',H4,I4,r4,q4⟩=>ho' kX s4 Z H4 y z' u w' Q I4 r2 r4 q4))
def aLv(K:zAA)(x:V)(H:Hp)(k:Bool):Prop:=
 match x with
 | .non=>k=false
 | .bl b=>k=b
 | .int i=>k=(i !=0)
 | .str y=>y.length<=zAQ/\k=((y.length:Int)!=0)
 | .byt y=>y.size<=zAQ/\k=((y.size:Int)!=0)
 | .ref p=>(∃xs,SqL K H p xs/\k= !xs.isEmpty)\/(∃xs,SqT K H p xs/\k= !xs.isEmpty)\/∃kvs,H p=some (.dK kvs)/\k= !kvs.isEmpty
 |_=>False
def aC9(r:KV kvs vs):(!vs.isEmpty)= !kvs.isEmpty:=by
 cases r<;>rfl
def wF(r:Vals xs its):(!its.toArray.isEmpty)= !xs.isEmpty:=by
 cases r<;>simp
def vh:(zAQ:Nat)<2^63:=by rw[zBe];decide
def aKI:aN2 X (λ x H Q=>∃k,aLv X.K x H k/\Q k H):=by
 intro kX s Z H x v Q I rx h;obtain⟨k,e,q⟩:=h;have hl:=vh;have hs:zAQ=16777216:=zBe;cases x with
 |non=>
  cases rx;have e':k=false:=e;subst e';exact truthy_none ⟨H,I,q⟩
 |bl b=>
  cases rx;have e':k=b:=e;subst e';exact zCX ⟨H,I,q⟩
 |int i=>
  obtain⟨t,rfl⟩:=rx;have e':k=(i !=0):=e;subst e';exact PySem.P.truthy_int ⟨H,I,q⟩
 |str y=>
  obtain⟨t,rfl⟩:=rx;obtain⟨hy,e'⟩:y.length<=zAQ/\k=((y.length:Int)!=0):=e;subst e';exact PySem.P.truthy_str (by lia) ⟨H,I.tok _,q⟩
 |byt y=>
  obtain⟨t,rfl⟩:=rx;obtain⟨hy,e'⟩:y.size<=zAQ/\k=((y.size:Int)!=0):=e;subst e';exact PySem.W.truthy_bytes (by lia) ⟨H,I.tok _,q⟩
 |ref p=>
  cases rx;have e':(∃xs,SqL X.K H p xs/\k= !xs.isEmpty)\/(∃xs,SqT X.K H p xs/\k= !xs.isEmpty)\/∃kvs,H p=some (.dK kvs)/\k= !kvs.isEmpty:=e
  rcases e' with ⟨xs,hx,e'⟩|⟨xs,hx,e'⟩|⟨kvs,hx,e'⟩
  .subst e'
   obtain⟨its,r,pl,hz⟩:=I.list hx;have kK:=r.length;exact wpAny_truthy_list pl.isList (by simp only[zAX];lia) ⟨H,I.tok _,by rw[wF r];exact q⟩
  .subst e'
   obtain⟨its,r,pl,hz⟩:=I.tuple hx;have kK:=r.length;exact truthy_tuple pl (by simp only[zAX];lia) ⟨H,I.tok _,by rw[wF r];exact q⟩
  .subst e'
   obtain⟨hz,hS,vs,r,m⟩:kvs.length<=zAQ/\(p==zBE)=false/\∃vs,KV kvs vs/\s.heap.DictOf (bZ X.prog X.w) p vs:=I.hok p _ hx
   have kK:kvs.length=vs.length:=zD0 r;exact wpAny_truthy_dict hS m (by lia) ⟨H,I.tok _,by rw[aC9 r];exact q⟩
 |_=>exact(show False from e).elim
def aFs(ha:PE X a ta)(he:∀whole,isTrue a X.env whole=(do let v <-whole;zFV a.pos;zC8 [v] (truthy v))):
  PT X a (λ Z H Q=>ta Z H λ x H'=>∃k,aLv X.K x H' k/\Q k H'):=by
 intro kX s Z H Q I h;exact isTrue_plain (thn (ha kX s Z H _ I h) λ v s1 ⟨x,H1,I1,r1,q1⟩=>aKI kX s1 Z H1 x v Q I1 r1 q1) (he _)
def vals1(r:Vals [x] us):∃u,us=[u]/\RelV x u:=by
 cases r with
 |cons r1 r2=>cases r2;exact⟨_,rfl,r1⟩
def vals2(r:Vals [x,y] us):∃u w',us=[u,w']/\RelV x u/\RelV y w':=by
 cases r with
 |cons r1 r2=>
  cases r2 with
  |cons r3 r4=>cases r4;exact⟨_,_,rfl,r1,r3⟩
def aEq(hc:X.calm=true):cX X (.builtin "max") (λ xs H Q=>∃i j,xs=[.int i,.int j]/\Q (.int (if j>i then j else i)) H):=by
 intro kX s Z H xs us Q I r h;obtain⟨i,j,rfl,q⟩:=h;obtain⟨u,w',rfl,⟨t,rfl⟩,⟨t',rfl⟩⟩:=vals2 r;refine max_two_ints (I.ok.hd hc) λ h' tk k=>⟨_,H,I.kept k,?_,q⟩
 by_cases hj:j>i
 .rw[if_pos hj,if_pos hj];exact⟨_,rfl⟩
 .rw[if_neg hj,if_neg hj];exact⟨_,rfl⟩
def aEp(hc:X.calm=true):cX X (.builtin "min") (λ xs H Q=>∃i j,xs=[.int i,.int j]/\Q (.int (if j<i then j else i)) H):=by
 intro kX s Z H xs us Q I r h;obtain⟨i,j,rfl,q⟩:=h;obtain⟨u,w',rfl,⟨t,rfl⟩,⟨t',rfl⟩⟩:=vals2 r;refine min_two_ints (I.ok.hd hc) λ h' tk k=>⟨_,H,I.kept k,?_,q⟩
 by_cases hj:j<i
 .rw[if_pos hj,if_pos hj];exact⟨_,rfl⟩
 .rw[if_neg hj,if_neg hj];exact⟨_,rfl⟩
end
structure aJ5(h:Heap)(x dx C:Addr)(mA:Str->Option Value):Prop where
 obj:h.get? x=some (zCL C dx)
 ns:h.Ns1 dx mA
 ne:dx≠x
def aE5{h:Heap}{dx:Addr}{mA:Str->Option Value}(n:h.Ns1 dx mA):∃od,h.get? dx=some od/\∀name,zEb name od=some (mA name):=by
 obtain⟨o,es,ep,ho,hd,hk,_,hm⟩:=n;refine⟨o,ho,λ name=>?_⟩;have e:=hm name;unfold nsFind findBy at e;rw[<-Array.find?_toList]at e;unfold zEb;rw[hd];dsimp only;split
 .rename_i y q
  rw[q]at e;exact congrArg some e
 .rename_i q
  rw[q]at e;have a:es.toList.any (·.refKey)=false:=by
   rw[List.any_eq_false];intro y hy;obtain⟨z,t,hkey⟩:=hk y (Array.mem_toList_iff.mp hy);simp[DictEntry.refKey,hkey]
  have a':¬es.toList.any (·.refKey)=true:=by rw[a];exact zA0
  rw[if_neg a'];exact congrArg some e
def aJ5.look(I:aJ5 h x dx C mA):∃od,zHj h x (zCL C dx) C (some od)/\∀name,zEb name od=some (mA name):=
 let⟨od,ho,hl⟩:=aE5 I.ns
 ⟨od,⟨I.obj,rfl,rfl,ho⟩,hl⟩
section
variable{prog:zAV}{w:World}{A:zAc}{E:Value->zAF->Prop}{s:zAF}{K:zAA}{x dx C f:Addr}{mA:Str->Option Value}{name:Str}
def aHA(X:K.In s.heap)(I:aJ5 s.heap x dx C mA)(hg:zFH K C name=true)
  (hf:zB5 K (.ref C) name=some (some (.ref f)))(ht:zIR K (.ref f)=true)(hv:mA name=none)(h:Q (.ref f,[.ref x]) s):
  wpAny (model prog w) A (getMethod (.ref x) name pl) Q E s:=by
 obtain⟨od,J,hl⟩:=I.look;exact PySem.W.method_fn X J (zG5 hg).1 (zG5 hg).2 hf (beq_iff_eq.mp ht) (by show(zEb name od).map (·.isSome)=some false;rw[hl,hv];rfl) h
def make_map(X:K.In s.heap)(hm:PySem.W.makesIn K C=true)
  (hi:zB5 K (.ref C) "__init__"=some (some (.ref f)))(hf:PySem.W.typeIn K (.ref f)=some (.type "function"))
  (h:zCR (model prog w) (A.under (.builtin "type.__call__" ⟨.ref C::vs,kw⟩)) (.call (.ref f) ⟨.ref (s.heap.objs.size+1)::vs,kw⟩) (PySem.W.InitBack (s.heap.objs.size+1) R)
   {s with heap:=(s.heap.push zBc).push (zCL C s.heap.objs.size)}):
  zCR (model prog w) A (.call (.ref C) ⟨vs,kw⟩) R s:=by
 obtain⟨hh,g,d,t,os⟩:=s;exact PySem.W.make_core (PySem.W.makes_of X hm) (zDW X hi) (λ self=>PySem.W.bind_fn X self hf) (.inl rfl) h
end
def qw.some_of(r:qw (some v) o):∃u,o=some u/\RelV v u:=by
 cases o with
 |none=>exact(show False from r).elim
 |some u=>exact⟨u,rfl,r⟩
def qw.none_of(r:qw none o):o=none:=by
 cases o with
 |none=>rfl
 |some u=>exact(show False from r).elim
section
variable{P:zAV}{w:World}{H:Hp}{h:Heap}{a C dx:Addr}{fs:List (Str×V)}
def u9(hok:HOk P w H h)(e:H a=some (.ins C dx fs)):∃mA,aJ5 h a dx C mA/\(∀f,qw (fs.lookup f) (mA f))/\zIb mA (fs.map (·.1))/\fs.length<=1000/\H dx=some (.own a):=by
 obtain⟨d,z,ne,ob,mA,n,r,q⟩:=(show bM P w H h a (.ins C dx fs)from hok a _ e);exact⟨mA,⟨ob,n,ne⟩,r,q,z,d⟩
end
structure Cls(K:zAA)(C:Addr):Prop where
 pg:zFH K C Str.empty=true
 hd:PySem.W.hasDictIn K C=true
 po:PySem.W.plainOver K C=true
 sa:zB5 K (.ref C) "__setattr__"=some (some (.builtin "object.__setattr__"))
def Cls.get{K:zAA}{C:Addr}(c:Cls K C)(f:Str):zFH K C f=true:=c.pg
def aLx(K:zAA)(C:Addr)(f:Str):Prop:=zB5 K (.ref C) f=some none
structure Meth(K:zAA)(C:Addr)(m:Str)(f:Addr):Prop where
 at_:zB5 K (.ref C) m=some (some (.ref f))
 fn:zIR K (.ref f)=true
 kp:zDB K (.ref f)=true
section
variable{X:Cx}{kX:hZ}{Z:St}{H:Hp}{s:zAF}{a C dx:Addr}{fs:List (Str×V)}{A:zAc}{E:Value->zAF->Prop}
def aCc(I:Inv X kX Z H s)(e:H a=some (.ins C dx fs))(c:Cls X.K C)(k:Meth X.K C m g)(l:fs.lookup m=none)
  (h:Q (.ref g,[.ref a]) s):wpAny (model X.prog X.w) A (getMethod (.ref a) m pl) Q E s:=by
 obtain⟨mA,O,r,_,_,_⟩:=u9 I.hok e;have hn:mA m=none:=qw.none_of (by rw[<-l];exact r m);exact aHA I.kIn O (c.get m) k.at_ k.fn hn h
def Inv.made(I:Inv X kX Z H s):Inv X kX Z (upd (upd H s.heap.objs.size (.own (s.heap.objs.size+1))) (s.heap.objs.size+1) (.ins C s.heap.objs.size []))
  {s with heap:=(s.heap.push zBc).push (zCL C s.heap.objs.size)}:=by
 have e1:(s.heap.push zBc).get? s.heap.objs.size=some zBc:=zAJ s.heap rfl;have e2:((s.heap.push zBc).push (zCL C s.heap.objs.size)).get? (s.heap.objs.size+1)=some (zCL C s.heap.objs.size):=by
  have:=zAJ (s.heap.push zBc) (o:=zCL C s.heap.objs.size) rfl
  rwa [zBD]at this
 have e3:(s.heap.push zBc).Ns s.heap.objs.size (λ _=>none):=⟨zBc,#[],_,e1,rfl,(λ e he=>absurd he (by simp)),λ _=>rfl⟩;have I1:=I.laid (a:=s.heap.objs.size) (o:=.own (s.heap.objs.size+1)) (h':=s.heap.push zBc) (t':=s.toks) (λ b u q=>zAC _ q) (zAS _) ⟨_,e1⟩;refine I1.laid (a:=s.heap.objs.size+1) (o:=.ins C s.heap.objs.size []) (t':=s.toks) (λ b u q=>zAC _ q) (Nat.le_of_eq (zBD _ _)) ?_;have ne:s.heap.objs.size≠s.heap.objs.size+1:=zA1 (zBb _);refine⟨by rw[aQ ne,aV],zAf _,ne,e2,λ _=>none,(Heap.Ns1.of_empty e3).at λ o q=>zAC _ q,λ _=>zC0,λ y hy=>absurd rfl hy⟩
end
def tFld(K:zAA)(ta:TE)(f:Str):TE:=λ Z H Q=>ta Z H λ x H1=>∃a C dx fs v,x= .ref a/\H1 a=some (.ins C dx fs)/\Cls K C/\aLx K C f/\fs.lookup f=some v/\Q v H1
section
variable{X:Cx}{e:Expr}{f:Str}{pos:Pos}
def methcall_of(he:PE X e te)(I:Inv X kX Z H s)
  (h:te Z H λ x H1=>∃a C dx fs g,x= .ref a/\H1 a=some (.ins C dx fs)/\Cls X.K C/\Meth X.K C m g/\fs.lookup m=none/\
   ∀s1,Inv X kX Z H1 s1->wpAny (model X.prog X.w) X.A (callWith pos (.ref g) [.ref a] (zCW pos (zAU args X.env)) (zFg pos (zEH [] X.env))) Q X.xe s1)
  (ht:eval (.Call (.Attribute e m apos) args [] pos) X.env=(do
   let ov <-eval e X.env
   zFV apos.atName
   let(f,first) <-zC8 [ov] (getMethod ov m pl)
   callWith pos f first (zCW pos (zAU args X.env)) (zFg pos (zEH [] X.env)))):
  wpAny (model X.prog X.w) X.A (eval (.Call (.Attribute e m apos) args [] pos) X.env) Q X.xe s:=by
 refine PySem.W.methodCall_KW (pl:=pl) (thn (he kX s Z H _ I h) λ u s1 ⟨x,H1,I1,rx,a,C,dx,fs,g,ex,ea,c,k,l,q⟩=>?_) ht;subst ex;obtain rfl:u=zAo a:=rx;exact aCc I1 ea c k l (q s1 I1)
end
section
variable{X:Cx}{kX:hZ}{Z:St}{H:Hp}{s:zAF}{A:zAc}{E:Value->zAF->Prop}{Q:Value->zAF->Prop}{c:Value}{b:Bool}
inductive sZ(K:zAA)(H:Hp):V->Value->Prop where
 |non:sZ K H .non (.type "NoneType")
 |bl (x:Bool):sZ K H (.bl x) (.type "bool")
 |int (i:Int):sZ K H (.int i) (.type "int")
 |str (x:Str):sZ K H (.str x) (.type "str")
 |flt (x:UInt64):sZ K H (.flt x) (.type "float")
 |lst {a:Addr} {xs:List V} (e:H a=some (.lst xs)):sZ K H (.ref a) (.type "list")
 |frz {a:Addr} {o:Obj} {xs:List V} (e:H a=some (.frz o (.lst xs))):sZ K H (.ref a) (.type "list")
 |tup {a:Addr} {xs:List V} (e:H a=some (.tup xs)):sZ K H (.ref a) (.type "tuple")
 |dK {a:Addr} {kvs:List (Key×V)} (e:H a=some (.dK kvs)):sZ K H (.ref a) (.type "dict")
 |dT {a:Addr} {kvs:List (List Key×V)} (e:H a=some (.dT kvs)):sZ K H (.ref a) (.type "dict")
 |ins {a C dx:Addr} {fs:List (Str×V)} (e:H a=some (.ins C dx fs)) (cl:Cls K C) (ha:zB5 K (.ref C) "__class__"=some (some (.builtin "object.__class__")))
   (hn:PySem.W.specialIn K (.builtin "object.__class__") "__get__"=some (some (.builtin "getset_descriptor.__get__"))) (htk:PySem.W.takesIn K (.builtin "object.__class__")=some true)
   (hm:PySem.W.mroIn K C (.type "object")=some true):sZ K H (.ref a) (.ref C)
def aEa(I:Inv X kX Z H s)(rx:RelV x u)(ty:sZ X.K H x t)(e:zDm X.K t c=some b)(h:∀tk,Q (.bool b) {s with toks:=tk}):
  wpAny (model X.prog X.w) A (call (.builtin "isinstance") [u,c]) Q E s:=by
 cases ty with
 |non=>cases (show u=zBB from rx);exact zBL PySem.W.kitx_none I.kIn zC0 e (λ z=>nomatch z) h
 |bl y=>cases (show u=zEd y from rx);exact zBL PySem.W.kitx_bool I.kIn zC0 e (λ z=>nomatch z) h
 |int i=>obtain⟨t,q⟩:=(show∃t,u=zEF i t from rx);cases q;exact zBL PySem.W.kitx_int I.kIn zC0 e (λ z=>nomatch z) h
 |str y=>obtain⟨t,q⟩:=(show∃t,u=zG7 y t from rx);cases q;exact zBL PySem.W.kitx_str I.kIn zC0 e (λ z=>nomatch z) h
 |flt y=>obtain⟨t,q⟩:=(show∃t,u=zIo y t from rx);cases q;exact zBL PySem.W.kitx_float I.kIn zC0 e (λ z=>nomatch z) h
 |@lst a xs ea=>
  cases (show u=zAo a from rx);obtain⟨_,_,n,_,h1⟩:=(show bM X.prog X.w H s.heap a (.lst xs)from I.hok a _ ea);exact zBL zGx I.kIn ⟨_,h1,rfl⟩ e (λ z=>nomatch z) h
 |@frz a ob xs ea=>
  cases (show u=zAo a from rx);obtain⟨_,_,_,n,_,h1⟩:=(show bM X.prog X.w H s.heap a (.frz ob (.lst xs))from I.hok a _ ea);exact zBL zGx I.kIn ⟨_,h1,rfl⟩ e (λ z=>nomatch z) h
 |@tup a xs ea=>
  cases (show u=zAo a from rx);obtain⟨_,_,_,p⟩:=(show bM X.prog X.w H s.heap a (.tup xs)from I.hok a _ ea);obtain⟨o,h1,h2,_⟩:=p;exact zBL zGl I.kIn ⟨o,h1,h2⟩ e (λ z=>nomatch z) h
 |@dK a kvs ea=>
  cases (show u=zAo a from rx);obtain⟨_,_,vs,_,p⟩:=(show bM X.prog X.w H s.heap a (.dK kvs)from I.hok a _ ea);obtain⟨o,es,ep,h1,h2,_⟩:=p;exact zBL zEt I.kIn ⟨o,h1,h2.1⟩ e (λ z=>nomatch z) h
 |@dT a kvs ea=>
  cases (show u=zAo a from rx);obtain⟨_,_,xs,_,o,es,ep,h1,h2,_⟩:=(show bM X.prog X.w H s.heap a (.dT kvs)from I.hok a _ ea);exact zBL zEt I.kIn ⟨o,h1,h2.1⟩ e (λ z=>nomatch z) h
 |@ins a C dx fs ea cl ha hn htk hm=>
  cases (show u=zAo a from rx);obtain⟨mA,O,_⟩:=u9 I.hok ea;obtain⟨od,J,_⟩:=O.look;exact zBL (PySem.W.kitx_own (cl.get _) cl.hd ha hn htk hm) I.kIn J e (λ z=>nomatch z) h
end
structure jN(k:Nat)(A:zAc):Prop where
 hd:A.handled=none
 dp:A.depth+3*k+5<zHD
 un:A.units+16*k+200<cLine
def jN.mono(r:jN k A)(h:j<=k):jN j A:=⟨r.hd,by have:=r.dp;lia,by have:=r.un;lia⟩
theorem jN.deeper(r:jN (k+1) A)(env:Env):jN k (A.deeper env):=
 ⟨r.hd,by have:=r.dp;show A.depth+1+3*k+5<_;lia,by have:=r.un;show A.units+3+16*k+200<_;lia⟩
theorem jN.depth(r:jN k A):A.depth<zHD:=by have:=r.dp;lia
theorem jN.units(r:jN k A):A.units+64<cLine:=by have:=r.un;lia
def jN.units0(r:jN k A):A.units<cLine:=by have:=r.un;lia
def uF:TA:=λ _ H Q=>Q [] H
def dR(ta:TE)(tr:TA):TA:=λ Z H Q=>ta Z H λ x H1=>tr Z H1 λ xs H2=>Q (x::xs) H2
section
variable{X:Cx}{e:Expr}{es:List Expr}{te:TE}{t:TA}{pos:Pos}
def jF:PA X [] uF:=λ _ _ _ _ H Q I h=>zHS ⟨[],H,I,.nil,h⟩
def bz(ha:PE X e te)(hr:PA X es t)(hs:zAU (e::es) X.env=(false,eval e X.env)::zAU es X.env:=by rfl):PA X (e::es) (dR te t):=by
 intro pos kX s Z H Q I h;rw[hs];show wpAny _ _ (spliced ((false,eval e X.env)::zCW pos (zAU es X.env))) _ _ s;refine zEr (thn (ha kX s Z H _ I h) λ u s1 ⟨x,H1,I1,r1,q1⟩=>?_);exact thn (hr pos kX s1 Z H1 _ I1 q1) λ us s2 ⟨xs,H2,I2,r2,q2⟩=>⟨x::xs,H2,I2,.cons r1 r2,q2⟩
def aNN(t:TA):TE:=λ Z H Q=>t Z H λ xs H1=>xs.length<=zAQ/\∀p,H1 p=none->Q (.ref p) (upd H1 p (.tup xs))
def aNR(t:TA):TE:=λ Z H Q=>t Z H λ xs H1=>xs.length<=zAQ/\∀p,H1 p=none->Q (.ref p) (upd H1 p (.lst xs))
def aKs{x1}(h:PA X es t):PE X (.Tuple es x1 pos) (aNN t):=by
 intro kX s Z H Q I hq;refine wpAny_Tuple_spliced (thn (h pos kX s Z H _ I hq) λ us s1 ⟨xs,H1,I1,r,z,q⟩=>⟨by rw[<-r.length];exact z,?_⟩);have hf:H1 s1.heap.objs.size=none:=I1.hok.fresh (zAS _);refine⟨.ref s1.heap.objs.size,upd H1 s1.heap.objs.size (.tup xs),I1.laid (t':=s1.toks) (λ b u e=>zAC _ e) (zAS _) ?_,rfl,q _ hf⟩;exact⟨⟨z,NoD.push _⟩,us,r,⟨_,zAJ _ rfl,rfl,_,rfl⟩⟩
def aKw(h:PA X es t):PE X (.List es pos) (aNR t):=by
 intro kX s Z H Q I hq;refine wpAny_List_spliced (thn (h pos kX s Z H _ I hq) λ us s1 ⟨xs,H1,I1,r,z,q⟩=>⟨by rw[<-r.length];exact z,?_⟩);have hf:H1 s1.heap.objs.size=none:=I1.hok.fresh (zAS _);refine⟨.ref s1.heap.objs.size,upd H1 s1.heap.objs.size (.lst xs),I1.laid (t':=s1.toks) (λ b u e=>zAC _ e) (zAS _) ?_,rfl,q _ hf⟩;exact⟨z,us,0,r,zAJ _ rfl⟩
end
abbrev Sp:=List V->Hp->VK->XK->Prop
abbrev CXT:=List Env->Hp->zAF->XK->Value->zAF->Prop
structure aHc(P:zAV)(w:World)(K:zAA)(mg:Str->Option Value)(base:Heap)(A:zAc)(outer:List Env)(s:zAF)(H:Hp):Prop where
 frames:A.frames=some outer
 mod:Mod K mg base
 bs:∀b o,base.get? b=some o->s.heap.get? b=some o/\H b=none
 bsz:base.objs.size<=s.heap.objs.size
 funs:s.heap.FunFrames base outer
 frf:∀b∈frs outer,H b=none
 hok:HOk P w H s.heap
 bare:zEo s.gens
def CE(outer:List Env)(P:zAV)(w:World)(H:Hp)(s:zAF)(Q:VK)(u:Value)(s':zAF):Prop:=
 ∃v H',s'.os=s.os/\zEo s'.gens/\Un (frs outer) [] H H' s.heap s'.heap/\HOk P w H' s'.heap/\RelV v u/\Q v H'
def CR(CX:CXT)(outer:List Env)(P:zAV)(w:World)(H:Hp)(s:zAF)(Q:VK)(E:XK)(r:zER)(s':zAF):Prop:=
 match r with
 | .ok (.ret u)=>CE outer P w H s Q u s'
 | .ok _=>False
 | .error e=>CX outer H s E e s'
structure cA(P:zAV)(w:World)(K:zAA)(mg:Str->Option Value)(base:Heap)(CX:CXT)(k:Nat)(f:Addr)(fd:zAg)(ps:List Str)(sp:Sp):Prop where
 len:∀vs H Q E,sp vs H Q E->vs.length=ps.length
 run:∀(A:zAc) (outer:List Env) (s:zAF) (H:Hp) (args:Args) (us:List Value) (vs:List V) (Q:VK) (E:XK),jN k A->aHc P w K mg base A outer s H->zFw s fd args (ps.zip us)->Vals vs us->sp vs H Q E->
  zCR (model P w) A (.call (.ref f) args) (CR CX outer P w H s Q E) s
def cA.imp{P:zAV}{w:World}{K:zAA}{mg:Str->Option Value}{base:Heap}{CX:CXT}{k:Nat}{f:Addr}{fd:zAg}{ps:List Str}{sp sp':Sp}(F:cA P w K mg base CX k f fd ps sp)
  (h:∀vs H Q E,sp' vs H Q E->sp vs H Q E):cA P w K mg base CX k f fd ps sp':=
 ⟨λ vs H Q E q=>F.len vs H Q E (h _ _ _ _ q),λ A outer s H args us vs Q E hr he hb hv hs=>F.run A outer s H args us vs Q E hr he hb hv (h _ _ _ _ hs)⟩
section
variable{X:Cx}{kX:hZ}{Z:St}{H:Hp}{s s':zAF}
def Inv.env0(I:Inv X kX Z H s):aHc X.prog X.w X.K X.mg X.base X.A X.stack s H:=
 ⟨I.ok.frames,I.ok.mod,I.bs,zAn I.ok.bsz I.sz,I.stack,I.stkFree,I.hok,I.bare⟩
def Inv.after(I:Inv X kX Z H s)(h:CE X.stack X.prog X.w H s Q u s'):EP X kX Z Q u s':=by
 obtain⟨v,H',os,bare,un,hok,r,q⟩:=h;obtain⟨hh,g,d,t,os'⟩:=s';obtain rfl:os'=s.os:=os;exact⟨v,H',I.call (h':=hh) (g':=g) (d':=d) (t':=t) (ch:=[]) un hok bare (λ b z=>absurd z (by simp)),r,q⟩
end
def aA6(sp:Sp)(dvs:List V)(E:XK)(t:TA):TE:=λ Z H Q=>t Z H λ vs H1=>sp (vs++dvs) H1 Q E
def tMeth(C:Addr)(m:Str)(sp:Sp)(dvs:List V)(E:XK)(ta:TE)(t:TA):TE:=λ Z H Q=>ta Z H λ x H1=>∃a dx fs,x= .ref a/\H1 a=some (.ins C dx fs)/\fs.lookup m=none/\
 t Z H1 λ vs H2=>sp (x::(vs++dvs)) H2 Q E
def tMake(C:Addr)(sp:Sp)(dvs:List V)(E:XK)(t:TA):TE:=λ Z H Q=>t Z H λ vs H1=>∀x dx,H1 x=none->H1 dx=none->dx≠x->
 sp (.ref x::(vs++dvs)) (upd (upd H1 dx (.own x)) x (.ins C dx [])) (λ v H2=>v= .non/\Q (.ref x) H2) E
def Binds(K:zAA)(fd:zAg)(ps:List Str)(ds:List Value):Prop:=
 ∀(s:zAF) (us:List Value),K.In s.heap->(us++ds).length=ps.length->zFw s fd ⟨us,[]⟩ (ps.zip (us++ds))
def Binds.all{K:zAA}{fd:zAg}{ps:List Str}(h:∀us:List Value,us.length=ps.length->bindArgs fd ⟨us,[]⟩=pure (ps.zip us)):Binds K fd ps []:=λ s us _ hl=>by
 rw[zB0]at hl ⊢;exact .of_eq (h us hl)
def aAW(CX:CXT)(X:Cx)(E:XK):Prop:=∀(kX:hZ) (Z:St) (H:Hp) (s:zAF) (e:Value) (s':zAF),Inv X kX Z H s->CX X.stack H s E e s'->X.xe e s'
section
variable{X:Cx}{CX:CXT}{k:Nat}{f:Addr}{fd:zAg}{ps:List Str}{sp:Sp}{dvs:List V}{ds:List Value}{E:XK}{x:Str}{p pos:Pos}{e:Expr}{es:List Expr}{t:TA}
def aK9(F:cA X.prog X.w X.K X.mg X.base CX k f fd ps sp)(hr:jN k X.A)(hb:Binds X.K fd ps ds)(hd:Vals dvs ds)(hx:aAW CX X E)
  (I:Inv X kX Z H s)(r:Vals vs us)(h:sp (vs++dvs) H Q E):wpAny (model X.prog X.w) X.A (call (.ref f) us) (EP X kX Z Q) X.xe s:=by
 have r2:Vals (vs++dvs) (us++ds):=r.append hd;have hl:(us++ds).length=ps.length:=by rw[<-r2.length];exact F.len _ _ _ _ h
 refine wpAny_call (zET (F.run X.A X.stack s H ⟨us,[]⟩ (us++ds) (vs++dvs) Q E hr I.env0 (hb s us I.kIn hl) r2 h) λ r s' hq=>?_);cases r with
 |error e=>exact hx kX Z H s e s' I hq
 |ok fl=>
  cases fl with
  |ret u=>exact I.after hq
  |next=>exact zAI hq
  |brk=>exact zAI hq
  |cont=>exact zAI hq
def z8(F:cA X.prog X.w X.K X.mg X.base CX k f fd ps sp)(hr:jN k X.A)(hg:Gl X x)(hm:X.mg x=some (.ref f))(hk:zDB X.K (.ref f)=true)(hb:Binds X.K fd ps ds)(hd:Vals dvs ds)(hx:aAW CX X E)
  (ha:PA X (e::es) t)(hdb:Nd x:=by decide)(he:zAU (e::es) X.env=(false,eval e X.env)::zAU es X.env:=by rfl)(hpl:(zCW pos (zAU es X.env)).any (·.1)=false:=by rfl):
  PE X (.Call (.Name x p) (e::es) [] pos) (aA6 sp dvs E t):=by
 intro kX s Z H Q I h;refine zFj (zp I hg hm ?_ hdb);refine PySem.W.callWith_K (h₀:=X.base) I.ok.mod.kin hk (thn (ha pos kX s Z H _ I h) λ us s1 ⟨vs,H1,I1,r,q⟩=>⟨I1.kIn,?_⟩) he hpl;exact aK9 F hr hb hd hx I1 r q
end
structure aY(N P:List Str)(sc:Scope):Prop where
 kind:sc.kind= .function
 co:sc.isCoroutine=false
 gen:sc.isGenerator=false
 nd:N.Nodup
 pre:N.take P.length=P
 par:∀x∈P,sc.names.lookup x=some .local\/sc.names.lookup x=some .cell
 nofree:∀y∈sc.names,y.2≠.free
theorem yr{zD4:Str->Option zDv}{x:Str}:∀{binds:List (Str×Value)} {m:Str->Option Value},(∀v,(x,v)∉binds)->bindL zD4 binds m x=m x
 |[],_,_=>rfl
 |(n,v)::r,m,h=>by
  unfold bindL;rw[yr λ w hw=>h w (zAL _ hw)];split
  .have:x≠n:=by rintro rfl;exact h v zAK
   simp[this]
  .rfl
theorem yu{zD4:Str->Option zDv}{x:Str}:∀{binds:List (Str×Value)} {m:Str->Option Value},(∀v,(x,v)∉binds)->bindC zD4 binds m x=m x
 |[],_,_=>rfl
 |(n,v)::r,m,h=>by
  unfold bindC;rw[yu λ w hw=>h w (zAL _ hw)];split
  .rfl
  .have:x≠n:=by rintro rfl;exact h v zAK
   simp[this]
theorem yt{zD4:Str->Option zDv}{x:Str}{v:Value}:∀{P:List Str} {vs:List Value} {i:Nat} {m:Str->Option Value},P.Nodup->P[i]? =some x->vs[i]? =some v->zD4 x=some .local->
  bindL zD4 (P.zip vs) m x=some v
 |[],_,_,_,_,h,_,_=>by simp at h
 |_::_,[],_,_,_,_,h,_=>by simp at h
 |p::P,w::vs,0,m,nd,h1,h2,hk=>by
  simp at h1 h2;subst h1;subst h2;show bindL zD4 ((p,w)::P.zip vs) m p=_;unfold bindL;rw[yr λ v hv=>(zAw.mp nd).1 (zCw hv).1,if_pos hk];simp
 |p::P,w::vs,i+1,m,nd,h1,h2,hk=>by
  show bindL zD4 ((p,w)::P.zip vs) m x=_;unfold bindL;exact yt (i:=i) (zAw.mp nd).2 (by simpa using h1) (by simpa using h2) hk
theorem yw{zD4:Str->Option zDv}{x:Str}{v:Value}:∀{P:List Str} {vs:List Value} {i:Nat} {m:Str->Option Value},P.Nodup->P[i]? =some x->vs[i]? =some v->zD4 x≠some .local->
  bindC zD4 (P.zip vs) m x=some v
 |[],_,_,_,_,h,_,_=>by simp at h
 |_::_,[],_,_,_,_,h,_=>by simp at h
 |p::P,w::vs,0,m,nd,h1,h2,hk=>by
  simp at h1 h2;subst h1;subst h2;show bindC zD4 ((p,w)::P.zip vs) m p=_;unfold bindC;rw[yu λ v hv=>(zAw.mp nd).1 (zCw hv).1,if_neg hk];simp
 |p::P,w::vs,i+1,m,nd,h1,h2,hk=>by
  show bindC zD4 ((p,w)::P.zip vs) m x=_;unfold bindC;exact yw (i:=i) (zAw.mp nd).2 (by simpa using h1) (by simpa using h2) hk
def start(N:List Str)(vs:List V):St:=vs.map some++zA2 (N.length-vs.length) none
def aAI(CX:CXT)(P:zAV)(w:World)(K:zAA)(mg:Str->Option Value)(base:Heap)(N:List Str)(qual:Str)(scope:Scope)(f:Addr)(cd:Value)(A:zAc)(outer:List Env)(s:zAF)(H:Hp)(E:XK):Cx where
 prog:=P
 w:=w
 K:=K
 mg:=mg
 base:=base
 A:=A.deeper (zE1 qual scope s.heap.objs.size f cd)
 N:=N
 z4:=s
 zS:=H
 env:=zE1 qual scope s.heap.objs.size f cd
 outer:=outer
 stack:=zE1 qual scope s.heap.objs.size f cd::outer
 ex:=[]
 calm:=true
 fn:=λ _=>true
 pn:=[]
 xe:=λ e s'=>wpAny (model P w) (A.deeper (zE1 qual scope s.heap.objs.size f cd)) (leaving (zE1 qual scope s.heap.objs.size f cd) e) (λ _ s''=>CX outer H s E e s'') (λ e' s''=>CX outer H s E e' s'') s'
def qd{sc:Scope}{n:Nat}{x:Str}(h:sc.names.lookup x=some .cell):∃c,(zEG n sc.names []).lookup x=some c:=by
 have q:=zGN sc.names n [] (.inl h);exact Option.isSome_iff_exists.mp q
def aEb{CX:CXT}{P:zAV}{w:World}{K:zAA}{mg:Str->Option Value}{base:Heap}{N ps:List Str}{qual:Str}{scope:Scope}{f:Addr}{cd:Value}{A:zAc}{outer:List Env}{s s1:zAF}{H:Hp}{E:XK}{us:List Value}{vs:List V}
  (S:aY N ps scope)(hd:A.handled=none)(e0:aHc P w K mg base A outer s H)(hl:vs.length=ps.length)(r:Vals vs us)
  (x:InCallC s s.heap.objs.size (bindL (zE1 qual scope s.heap.objs.size f cd).kindOf (ps.zip us) λ _=>none) (zEG (s.heap.objs.size+1) scope.names []) (bindC (zE1 qual scope s.heap.objs.size f cd).kindOf (ps.zip us) λ _=>none) s1):
  Inv (aAI CX P w K mg base N qual scope f cd A outer s H E) [] (start N vs) H s1:=by
 have hpl:ps.length<=N.length:=by have:=congrArg zC5 S.pre;rw[zDZ]at this;lia
 obtain⟨h1,tk,rfl,hk⟩:=x.done;have noA:∀b:Addr,b∉(aAI CX P w K mg base N qual scope f cd A outer s H E).ex:=λ b z=>absurd (show b∈([]:List Addr)from z) (by simp)
 refine⟨⟨e0.mod,S.kind,rfl,rfl,zAS _,λ y z c h1 h2=>?_,λ y hy=>?_,λ y c _ h=>?_,λ _=>hd,Around.frames_deeper e0.frames,.inr ⟨rfl,rfl⟩,λ b z=>absurd z (noA b),e0.bs,e0.bsz,λ b _ _=>noA b,λ b z=>absurd z (noA b),e0.funs,e0.frf⟩,
  rfl,e0.bare,Un.kept hk,⟨_,x.toInCall.ns,λ i y v h1 h2 h3=>?_⟩,λ y c h=>⟨_,x.cell y c h⟩,e0.hok.fresh (zAS _),λ y c h=>?_,λ p hp=>absurd (show p∈([]:hZ)from hp) (by simp),e0.hok.kept hk,?_,λ p hp=>absurd (show p∈([]:hZ)from hp) (by simp)⟩
 .exact name_of_addr x.apart (zAy h1) (zAy h2)
 .have hy:scope.names.lookup y=some .cell\/scope.names.lookup y=some .free:=hy
  rcases hy with hy|hy
  .exact qd hy
  .exact absurd rfl (S.nofree _ (zAy hy))
 .exact zBZ (x.above y c (zAy h))
 .have hi:i<vs.length:=by
   unfold start at h2;by_cases hi:i<vs.length
   .exact hi
   .rw[zCd (by simpa using hi)]at h2
    rw[zBt]at h2;split at h2<;>cases h2
  have ha:vs[i]? =some v:=by
   unfold start at h2;rw[zB1 (by simpa using hi),zAO]at h2;cases e:vs[i]? with
   |none=>rw[e]at h2;cases h2
   |some a=>rw[e]at h2;cases h2;rfl
  obtain⟨u,hu,rv⟩:=r.get ha;have hp:ps[i]? =some y:=by
   rw[<-S.pre,List.getElem?_take_of_lt (by lia)];exact h1
  have ndP:ps.Nodup:=by rw[<-S.pre];exact S.nd.sublist (List.take_sublist _ _)
  refine⟨u,rv,?_⟩;rcases S.par y (zAt hp)with k|k
  .exact .inl ⟨k,yt ndP hp hu k⟩
  .obtain⟨c,e⟩:=qd (n:=s.heap.objs.size+1) k
   refine .inr ⟨.inl k,c,e,?_⟩;have q:=x.cell y c e;rw[yw ndP hp hu (by show scope.names.lookup y≠_;rw[k];decide)]at q;exact q
 .exact e0.hok.fresh (zBZ (x.above y c (zAy h)))
 .unfold start
  show _=N.length;rw[zA9,zAE,zC6];lia
def aMr{CX:CXT}{P:zAV}{w:World}{K:zAA}{mg:Str->Option Value}{base:Heap}{k:Nat}{f:Addr}{name qual:Str}{params:zEp}{body:List Stmt}{scope:Scope}{dV kV doc pm cdv ct oc:Value}{an od:Option Addr}
  {osl:Array (Option Value)}{N ps:List Str}{sp:Sp}(lk:K.lookup f=some ⟨oc,od,.func (zCO name qual params body scope dV kV doc pm an cdv ct),osl⟩)(hcd:zDl K cdv qual=true)(S:aY N ps scope)
  (len:∀vs H Q E,sp vs H Q E->vs.length=ps.length)
  (hbody:∀(A:zAc) (outer:List Env) (s:zAF) (H:Hp) (vs:List V) (Q:VK) (E:XK),jN k (A.deeper (zE1 qual scope s.heap.objs.size f cdv))->sp vs H Q E->
   ∃t,PSs (aAI CX P w K mg base N qual scope f cdv A outer s H E) body t/\t {nx:=λ _ H'=>Q .non H',rt:=Q} (start N vs) H):
  cA P w K mg base CX (k+1) f (zCO name qual params body scope dV kV doc pm an cdv ct) ps sp:=by
 refine⟨len,λ A outer s H args us vs Q E hr e0 hb r hsp=>?_⟩;have hl:=len _ _ _ _ hsp;have KX:K.In s.heap:=e0.mod.kin.keeps λ b o e=>(e0.bs b o e).1
 have lim:s.heap.NoLimit:=e0.mod.nolimit.keeps λ b o e=>(e0.bs b o e).1
 have hkind:∀y∈ps.zip us,scope.names.lookup y.1=some .local\/(scope.names.lookup y.1=some .cell/\((zEG (s.heap.objs.size+1) scope.names []).lookup y.1).isSome=true):=λ⟨n,v⟩ hy=>by
  rcases S.par n (zCw hy).1 with q|q
  .exact .inl q
  .exact .inr ⟨q,zGN _ _ _ (.inl q)⟩
 refine codeAny_call_function hr.depth (KX _ _ lk) rfl S.co S.gen rfl (PySem.W.codeRec_of KX hcd) (hb _ _ _ _ ?_);refine wpAny_newFunctionEnv_cells S.kind hkind λ env he s1 x=>?_
 subst he;refine⟨lim.keeps x.toInCall.keep,codeAny_func ?_⟩;obtain⟨t,ht,hq⟩:=hbody A outer s H vs Q E (hr.deeper _) hsp;have I:Inv (aAI CX P w K mg base N qual scope f cdv A outer s H E) [] (start N vs) H s1:=aEb S hr.hd e0 hl r x;refine zBX (ht [] s1 (start N vs) H _ I hq) (λ fl s' hs=>?_) λ e s' hs=>hs
 have fin:∀{Z':St} {H':Hp} {v:V} {u:Value},Inv (aAI CX P w K mg base N qual scope f cdv A outer s H E) [] Z' H' s'->RelV v u->Q v H'->CE outer P w H s Q u s':=
  λ{Z' H' v u} J rv q=>⟨v,H',J.os,J.bare,J.base,J.hok,rv,q⟩
 cases fl with
 |ret u=>
  obtain⟨v,Z',H',J,rv,q⟩:=hs;exact fin J rv q
 |next=>
  obtain⟨Z',H',J,q⟩:=hs;exact fin (v:=V.non) (u:=zBB) J rfl q
 |brk=>
  obtain⟨_,_,_,q⟩:=hs;exact zAI q
 |cont=>
  obtain⟨_,_,_,q⟩:=hs;exact zAI q
section
variable{X:Cx}{x:Str}{p pos:Pos}{e:Expr}{es:List Expr}{t:TA}{id T:String}{r:List V->Hp->VK->Prop}
def tCB(r:List V->Hp->VK->Prop)(t:TA):TE:=λ Z H Q=>t Z H λ vs H1=>r vs H1 Q
def gG(hc:cX X (.builtin id) r)(hg:Gl X x)(hm:X.mg x=none)(hv:zAz x=some (.builtin id))(ha:PA X (e::es) t)(hn:x≠"__name__":=by decide)(hdb:Nd x:=by decide)
  (he:zAU (e::es) X.env=(false,eval e X.env)::zAU es X.env:=by rfl)(hpl:(zCW pos (zAU es X.env)).any (·.1)=false:=by rfl):PE X (.Call (.Name x p) (e::es) [] pos) (tCB r t):=by
 intro kX s Z H Q I h;refine zFj (vq I hg hm hv ?_ hn hdb);exact PyProof.Rows.callWith_builtin1 (thn (ha pos kX s Z H _ I h) λ us s1 ⟨vs,H1,I1,r1,q1⟩=>hc kX s1 Z H1 vs us Q I1 r1 q1) he hpl
def nR(hc:cX X (.type T) r)(hg:Gl X x)(hm:X.mg x=none)(hv:zAz x=some (.type T))(ha:PA X (e::es) t)(hn:x≠"__name__":=by decide)(hdb:Nd x:=by decide)
  (he:zAU (e::es) X.env=(false,eval e X.env)::zAU es X.env:=by rfl)(hpl:(zCW pos (zAU es X.env)).any (·.1)=false:=by rfl):PE X (.Call (.Name x p) (e::es) [] pos) (tCB r t):=by
 intro kX s Z H Q I h;refine zFj (vq I hg hm hv ?_ hn hdb);exact zDE (thn (ha pos kX s Z H _ I h) λ us s1 ⟨vs,H1,I1,r1,q1⟩=>hc kX s1 Z H1 vs us Q I1 r1 q1) he hpl
end
end L2
namespace HT
open PySem PyProof.Rows
def lexLt:List Int->List Int->Bool
 |[],[]=>false
 |[],_::_=>true
 |_::_,[]=>false
 |x::xs,y::ys=>if x=y then lexLt xs ys else decide (x<y)
def jG(x y:Int)(xs ys:List Int):lexLt (x::xs) (y::ys)=if x=y then lexLt xs ys else decide (x<y):=rfl
def xU:lexLt [] []=false:=rfl
def vm(y:Int)(ys:List Int):lexLt [] (y::ys)=true:=rfl
def vp(x:Int)(xs:List Int):lexLt (x::xs) []=false:=rfl
def aB6(A:zAc)(s:zAF)(a:Int)(t:Tok)(c:Int)(u:Tok):∃e,zCl A s (.int a t) (.int c u) e/\(e=true↔a=c):=
 ⟨(a==c),zGU a t c u,by simp⟩
def aFf(A:zAc)(s:zAF)(a:Int)(t:Tok)(c:Int)(u:Tok)(prog:zAV)(w:World)(E:Value->zAF->Prop)(Q:Value->zAF->Prop)(h:Q (.bool (decide (a<c))) s):
  wpAny (model prog w) A (zGb .Lt (.int a t) (.int c u)) Q E s:=
 (zFr h:wpAny (model prog w) A (zBA .Lt (.int a t) (.int c u)) Q E s)
section
open PySem.SeqAt
open PySem.AutoSeq1(wpAny_loadPart')
open PySem.MeetsSeq PySem.MeetsSeq2 PySem.MeetsSeq3
def ww(l b:Addr)(items items2:Array Value)(n n2:Nat)(dd dd2:Option Addr)(sl sl2:Array (Option Value))(ns ms:List Int)(hi:zBH items.toList ns)(hj:zBH items2.toList ms):
  Meets (zCy.«tuple.__lt__» ⟨[.ref l,.ref b],[]⟩)
   (λ _ R s=>s.heap.get? l=some {cls:=.type "tuple",dict:=dd,data:=.seq items n,slots:=sl}/\s.heap.get? b=some {cls:=.type "tuple",dict:=dd2,data:=.seq items2 n2,slots:=sl2}/\
    R (.ok (.ret (.bool (lexLt ns ms)))) s):=
 .of_wp λ prog w A R s h=>by
  obtain⟨hp,g,d,tk,os⟩:=s;obtain⟨hl,hb,h⟩:=h;have f2:=zF9;have z1:items.size=ns.length:=by rw[<-hi.length];simp
  have z2:items2.size=ms.length:=by rw[<-hj.length];simp
  wp_walk using zEx hl,zEx hb,zCx _ (λ rest b s'=>b.1=none/\s'=⟨hp,g,d,tk,os⟩/\∃(vs ws:List Value) (ns' ms':List Int),rest=vs.zip ws/\
   zBH vs ns'/\zBH ws ms'/\ns'.length+items2.size=ms'.length+items.size/\R (.ok (.ret (.bool (lexLt ns' ms')))) ⟨hp,g,d,tk,os⟩) _
  case turn=>
   rintro⟨y,x⟩ rest b s' ⟨hb',rfl,vs,ws,ns',ms',hz,hvi,hwi,kK,hR⟩;cases hvi with
   |nil=>rw[zHg]at hz;cases hz
   |cons a t hvi'=>
    cases hwi with
    |nil=>rw[zHZ]at hz;cases hz
    |cons c u hwi'=>
     rw[zAu]at hz;injection hz with hyx aE
     injection hyx with hy hx
     subst hy hx;rw[jG]at hR;simp only[zAk]at kK;obtain⟨e,he,hiff⟩:=aB6 A.in1 ⟨hp,g,d,tk,os⟩ a t c u;refine zAB (he prog w _ _ ?_);cases e with
     |true=>
      rw[if_pos (hiff.mp rfl)]at hR;wp_walk;exact⟨rfl,rfl,_,_,_,_,aE,hvi',hwi',by lia,hR⟩
     |false=>
      rw[if_neg (λ q=>absurd (hiff.mpr q) zA0)]at hR;have hri:=aFf A.in1 ⟨hp,g,d,tk,os⟩ a t c u prog w;wp_walk using hri;exact⟨_,rfl,by simpa using hR⟩
  case fin=>
   rintro⟨b1,b2⟩ s' ⟨hb',rfl,vs,ws,ns',ms',hz,hvi,hwi,kK,hR⟩;simp only at hb';subst hb';have hv:lexLt ns' ms'=decide (items.size<items2.size):=by
    cases hvi with
    |nil=>
     cases hwi with
     |nil=>
      simp only[zCA]at kK;rw[xU];exact(decide_eq_false (by lia)).symm
     |cons c u hw=>
      simp only[zCA,zAk]at kK;rw[vm];exact(decide_eq_true (by lia)).symm
    |cons a t hv=>
     cases hwi with
     |nil=>
      simp only[zCA,zAk]at kK;rw[vp];exact(decide_eq_false (by lia)).symm
     |cons c u hw=>
      rw[zAu]at hz;cases hz
   rw[hv]at hR;wp_walk;exact⟨_,rfl,by simpa[zE0]using hR⟩
  case h=>
   exact⟨rfl,rfl,items.toList,items2.toList,ns,ms,rfl,hi,hj,by lia,h⟩
end
section
variable{prog:zAV}{w:World}{A:zAc}{E:Value->zAF->Prop}{s:zAF}
def aCV(hl:IsTup s.heap l items)(hb:IsTup s.heap b items2)(hi:zBH items.toList ns)(hj:zBH items2.toList ms)
  (hu:A.units<cLine)(h:Q (.bool (lexLt ns ms)) s):wpAny (model prog w) A (zBA .Lt (.ref l) (.ref b)) Q E s:=by
 obtain⟨⟨cls,dd,data,sl⟩,ho,hc,n,hd⟩:=id hl;obtain⟨⟨cls2,dd2,data2,sl2⟩,ho2,hc2,n2,hd2⟩:=id hb;simp only at hc hd hc2 hd2;subst hc hd hc2 hd2;exact zHp (op:=.Lt) ⟨_,ho,rfl⟩ ⟨_,ho2,rfl⟩ PySem.F.slot_tuple_lt PySem.F.entry_tuple_lt (PySem.F.args_tuple_lt_2 _ _) (ww l b items items2 n n2 dd dd2 sl sl2 ns ms hi hj)
  ⟨ho,ho2,show zEd (lexLt ns ms)≠zGn/\Q (.bool (lexLt ns ms)) s from⟨(λ x=>nomatch x),h⟩⟩ hu
def aJV(ht:IsTup s.heap t vs.toArray)(hb:IsTup s.heap b ws.toArray)(hv:vs≠[])
  (h1:ws=[]->Q (.ref t) s)(h2:ws≠[]->Q (.ref s.heap.objs.size) {s with heap:=s.heap.push {cls:=.type "tuple",data:=.seq (vs++ws).toArray}})
  (hsz:vs.length+ws.length<=zAQ):wpAny (model prog w) A (zCU .Add (.ref t) (.ref b)) Q E s:=by
 obtain⟨⟨cls,dd,data,sl⟩,ho,hc,n,hd⟩:=id ht;obtain⟨⟨cls2,dd2,data2,sl2⟩,ho2,hc2,n2,hd2⟩:=id hb;simp only at hc hd hc2 hd2;subst hc hd hc2 hd2;have e:vs.toArray++ws.toArray=(vs++ws).toArray:=by simp
 by_cases hw:ws=[]
 .exact zIG ⟨_,ho,rfl⟩ ⟨_,ho2,rfl⟩ zGY zH7 zEM zED (zDw _ _)
   (tuple_addW1 t b vs.toArray ws.toArray n n2 dd dd2 sl sl2 (by simpa using hv) (by simp[hw])) ⟨ho,ho2,h1 hw⟩
 .refine zIG ⟨_,ho,rfl⟩ ⟨_,ho2,rfl⟩ zGY zH7 zEM zED (zDw _ _)
   (tuple_addW2 t b vs.toArray ws.toArray n n2 dd dd2 sl sl2 (by simpa using hv) (by simpa using hw) (by rw[zAX,zAX];exact hsz)) ⟨ho,ho2,?_⟩
  rw[e];exact h2 hw
end
end HT
namespace L2
open PySem PySem.Spec PyProof.Rows
abbrev TO:=St->Hp->(Option Int->Hp->Prop)->Prop
def intsAre_of:∀{us:List Value},Vals (ns.map V.int) us->zBH us ns:=by
 induction ns with
 |nil=>intro us r;rw[zDR]at r;cases r;exact .nil
 |cons n ns ih=>
  intro us r;rw[zAD]at r;cases r with
  |cons r1 r2=>
   obtain⟨t,e⟩:=r1;subst e;exact .cons n t (ih r2)
section
variable{X:Cx}{p2:Pos}
def aIF(K:zAA):R2:=λ x y H Q=>∃a b ns ms,x= .ref a/\y= .ref b/\SqT K H a (ns.map V.int)/\SqT K H b (ms.map V.int)/\Q (.bl (HT.lexLt ns ms)) H
def aLK(hu:X.A.units<cLine):OpR X (zBA .Lt) (aIF X.K):=by
 intro kX s Z H x y v u Q I rx ry h;obtain⟨a,b,ns,ms,rfl,rfl,ha,hb,q⟩:=h;cases rx;cases ry;obtain⟨its,r1,p1,_⟩:=I.tuple ha;obtain⟨its2,r2,p2,_⟩:=I.tuple hb;have i1:zBH its.toArray.toList ns:=intsAre_of r1;have i2:zBH its2.toArray.toList ms:=intsAre_of r2;exact HT.aCV p1 p2 i1 i2 hu ⟨.bl (HT.lexLt ns ms),H,I,rfl,q⟩
def aM0(K:zAA):R2:=λ x y H Q=>∃a b xs ys,x= .ref a/\y= .ref b/\SqT K H a xs/\SqT K H b ys/\xs≠[]/\xs.length+ys.length<=zAQ/\
 (ys=[]->Q (.ref a) H)/\(ys≠[]->∀p,H p=none->Q (.ref p) (upd H p (.tup (xs++ys))))
def Vals.nil_iff(r:Vals xs us):us=[]↔xs=[]:=by
 cases r with
 |nil=>simp
 |cons _ _=>simp
def aI8:OpR X (zCU .Add) (aM0 X.K):=by
 intro kX s Z H x y v u Q I rx ry h;obtain⟨a,b,xs,ys,rfl,rfl,ha,hb,hx,hz,q1,q2⟩:=h;cases rx;cases ry;obtain⟨its,r1,p1,_⟩:=I.tuple ha;obtain⟨its2,r2,p2,_⟩:=I.tuple hb;refine HT.aJV p1 p2 (λ z=>hx (r1.nil_iff.mp z)) (λ z=>⟨.ref a,H,I,rfl,q1 (r2.nil_iff.mp z)⟩) (λ z=>?_) (by rw[<-r1.length,<-r2.length];exact hz);refine⟨.ref s.heap.objs.size,_,I.laid (t':=s.toks) (o:=.tup (xs++ys)) (λ b ob q=>zAC _ q) (zAS _) ?_,rfl,q2 (λ w=>z (r2.nil_iff.mpr w)) _ (I.hok.fresh (zAS _))⟩;exact⟨⟨by rw[zA9];exact hz,NoD.push _⟩,_,r1.append r2,IsTup.new _ _⟩
end
def ixN(n:Nat)(i:Int):Option Nat:=if 0<=i then(if i<n then some i.toNat else none)else if -(n:Int)<=i then some (i+n).toNat else none
def atI{α:Type}(xs:List α)(i:Int):Option α:=(ixN xs.length i).bind λ j=>xs[j]?
def aIp(h:ixN n i=some j):seqIndex? i n=some j/\j<n/\-(n:Int)<=i/\i<n:=by
 unfold ixN at h;by_cases h0:0<=i
 .rw[if_pos h0]at h
  by_cases h1:i<n
  .rw[if_pos h1]at h
   have e:i.toNat=j:=zAs h;exact⟨by rw[seqIndex_of h0 h1,e],by lia,by lia,h1⟩
  .rw[if_neg h1]at h;cases h
 .rw[if_neg h0]at h
  by_cases h1: -(n:Int)<=i
  .rw[if_pos h1]at h
   have e:(i+n).toNat=j:=zAs h;exact⟨by rw[seqIndex_neg (by lia) h1,e],by lia,h1,by lia⟩
  .rw[if_neg h1]at h;cases h
def aAS(h:atI xs i=some v):∃j,seqIndex? i xs.length=some j/\xs[j]? =some v/\j<xs.length/\-(xs.length:Int)<=i/\i<xs.length:=by
 unfold atI at h;cases e:ixN xs.length i with
 |none=>rw[e]at h;cases h
 |some j=>
  rw[e]at h;obtain⟨h1,h2,h3,h4⟩:=aIp e;exact⟨j,h1,h,h2,h3,h4⟩
def aDr{α:Type}{xs:List α}{j:Nat}{v:α}(h:xs[j]? =some v):atI xs (j:Int)=some v:=by
 have hj:j<xs.length:=(zAP.mp h).1;have e:ixN xs.length (j:Int)=some j:=by
  unfold ixN;rw[if_pos (by lia),if_pos (by lia)];simp
 unfold atI;rw[e];exact h
def qx(b:Expr):Prop:=∀o i,zGc b false o i=operate [o,i] (zIZ o i)
def IxR(X:Cx)(r:R2):Prop:=
 ∀(value slice:Expr) (kX:hZ) (s:zAF) (Z:St) (H:Hp) (x y:V) (v u:Value) (Q:VK),Inv X kX Z H s->RelV x v->RelV y u->r x y H Q->
  zGc slice false v u=operate [v,u] (zIZ v u)->wpAny (model X.prog X.w) X.A (subscriptTail value slice v u) (EP X kX Z Q) X.xe s
def MtR(X:Cx)(id:String)(r:V->List V->Hp->VK->Prop):Prop:=
 ∀(kX:hZ) (s:zAF) (Z:St) (H:Hp) (x:V) (xs:List V) (v:Value) (us:List Value) (Q:VK),Inv X kX Z H s->RelV x v->Vals xs us->r x xs H Q->
  wpAny (model X.prog X.w) X.A (call (.builtin id) (v::us)) (EP X kX Z Q) X.xe s
section
variable{X:Cx}{a b:Expr}{ta tb:TE}{pos:Pos}
def IxR.or(h:IxR X r)(h':IxR X r'):IxR X (λ x y H Q=>r x y H Q\/r' x y H Q):=by
 intro value slice kX s Z H x y v u Q I rx ry q hs;rcases q with q|q
 .exact h value slice kX s Z H x y v u Q I rx ry q hs
 .exact h' value slice kX s Z H x y v u Q I rx ry q hs
def aJs{r:R2}(hr:IxR X r)(ha:PE X a ta)(hb:PE X b tb)(hs:qx b):PE X (.Subscript a b pos) (tOp r ta tb):=by
 intro kX s Z H Q I h;exact Subscript_ (aLq ha hb I h λ v u s2 x y H2 I2 rx ry q=>hr a b kX s2 Z H2 x y v u Q I2 rx ry q (hs _ _))
def aKd(K:zAA):R2:=λ x y H Q=>∃p xs i v,x= .ref p/\y= .int i/\SqL K H p xs/\atI xs i=some v/\Q v H
def aMX(K:zAA):R2:=λ x y H Q=>∃p xs i v,x= .ref p/\y= .int i/\SqT K H p xs/\atI xs i=some v/\Q v H
def aMY:R2:=λ x y H Q=>∃z i c,x= .str z/\y= .int i/\z.length<=zAQ/\atI z.cps.toList i=some c/\Q (.str ⟨#[c]⟩) H
def aD5:IxR X (aKd X.K):=by
 intro value slice kX s Z H x y v u Q I rx ry h hs;obtain⟨p,xs,i,z,rfl,rfl,hq,he,q⟩:=h;cases rx;obtain⟨t,rfl⟩:=ry;obtain⟨its,r,pl,hz⟩:=I.list hq;obtain⟨j,h1,h2,h3,h4,h5⟩:=aAS he;obtain⟨w,ew,rw'⟩:=r.get h2;have hl:=r.length;have hn:=vh;have fin:EP X kX Z Q w s:=⟨z,H,I,rw',q⟩;by_cases h0:0<=i
 .have hj:i.toNat=j:=by
   rw[seqIndex_of h0 h5]at h1;exact zAs h1
  exact item_listR pl.isList h0 (by lia) (by rw[hj];simpa using ew) fin hs
 .have hj:(i+(its.toArray.size:Int)).toNat=j:=by
   rw[seqIndex_neg (by lia) h4]at h1;rw[zAX,<-hl];exact zAs h1
  exact zHq (x:=w) pl.isList.typeIs slot_list_getitem.lookup
   (wpAny_getItem_list_neg (Q:=λ r s'=>r=w/\EP X kX Z Q r s') pl.isList (by lia) (by rw[zAX]<;>lia) (by lia) (by rw[hj];simpa using ew) ⟨rfl,fin⟩) hs
def aL2:IxR X (aMX X.K):=by
 intro value slice kX s Z H x y v u Q I rx ry h hs;obtain⟨p,xs,i,z,rfl,rfl,hq,he,q⟩:=h;cases rx;obtain⟨t,rfl⟩:=ry;obtain⟨its,r,pl,hz⟩:=I.tuple hq;obtain⟨j,h1,h2,h3,h4,h5⟩:=aAS he;obtain⟨w,ew,rw'⟩:=r.get h2;have hl:=r.length;have hn:=vh;have fin:EP X kX Z Q w s:=⟨z,H,I,rw',q⟩;exact zHq (x:=w) pl.typeIs slot_tuple_getitem.lookup
  (getItem_tuple (j:=j) (Q:=λ r s'=>r=w/\EP X kX Z Q r s') pl (by lia) (by lia) (by rw[zAX,<-hl];exact h1) (by simpa using ew) ⟨rfl,fin⟩) hs
def aL3:IxR X aMY:=by
 intro value slice kX s Z H x y v u Q I rx ry h hs;obtain⟨z,i,c,rfl,rfl,hz,he,q⟩:=h;obtain⟨t,rfl⟩:=rx;obtain⟨t',rfl⟩:=ry;obtain⟨j,h1,h2,h3,h4,h5⟩:=aAS he;have hl:z.cps.toList.length=z.length:=by simp[Str.length]
 rw[hl]at h1 h4 h5;have hn:=vh;exact tail_any (typeIs_str s z t) slot_str_getitem.lookup (getItem_str (c:=c) (by
  have e1:decide (i < -(2^63:Int))=false:=decide_eq_false (by lia);have e2:decide (i ≥ 2^63)=false:=decide_eq_false (by lia);rw[e1,e2,Bool.or_false]) (by rw[h1];simpa using h2) ⟨.str ⟨#[c]⟩,H,I.tok _,⟨_,rfl⟩,q⟩) hs
def rIx(K:zAA):R2:=λ x y H Q=>aKd K x y H Q\/aMX K x y H Q\/aMY x y H Q
def aL4:IxR X (rIx X.K):=aD5.or (aL2.or aL3)
def qe:cX X (.builtin "len") (λ xs H Q=>∃p ys,xs=[.ref p]/\(SqL X.K H p ys\/SqT X.K H p ys)/\Q (.int ys.length) H):=by
 intro kX s Z H xs us Q I r h;obtain⟨p,ys,rfl,hq,q⟩:=h;obtain⟨u,rfl,rx⟩:=vals1 r;cases rx;have hn:=vh;rcases hq with hq|hq
 .obtain⟨its,r',pl,hz⟩:=I.list hq
  have kK:=r'.length;exact Calls.call_len_list pl.isList (by simp only[zAX]<;>lia) ⟨.int ys.length,H,I.tok _,⟨s.toks+1,by rw[zAX,kK]⟩,q⟩
 .obtain⟨its,r',pl,hz⟩:=I.tuple hq
  have kK:=r'.length;exact len_tuple pl (by simp only[zAX]<;>lia) ⟨.int ys.length,H,I.tok _,⟨s.toks+1,by rw[zAX,kK]⟩,q⟩
def cX.or(h:cX X f r)(h':cX X f r'):cX X f (λ xs H Q=>r xs H Q\/r' xs H Q):=by
 intro kX s Z H xs us Q I rs q;rcases q with q|q
 .exact h kX s Z H xs us Q I rs q
 .exact h' kX s Z H xs us Q I rs q
def xX:cX X (.type "tuple") (λ xs H Q=>∃p ys,xs=[.ref p]/\((SqL X.K H p ys/\∀l,H l=none->Q (.ref l) (upd H l (.tup ys)))\/(SqT X.K H p ys/\Q (.ref p) H))):=by
 intro kX s Z H xs us Q I r h;obtain⟨p,ys,rfl,h⟩:=h;obtain⟨u,rfl,rx⟩:=vals1 r;cases rx;rcases h with ⟨hq,q⟩|⟨hq,q⟩
 .obtain⟨its,r',pl,hz⟩:=I.list hq
  have kK:=r'.length;refine call_tuple_list pl.isList (λ h' kp=>?_) (by simp only[zAX]<;>lia);have I1:Inv X kX Z H {s with heap:=h'}:=I.kept (t':=s.toks) kp;have I2:Inv X kX Z (upd H h'.objs.size (.tup ys)) {s with heap:=h'.push {cls:=.type "tuple",data:=.seq its.toArray}}:=
   I1.laid (t':=s.toks) (λ b o e=>zAC _ e) (zAS _) (show bM X.prog X.w _ _ _ (.tup ys)from⟨⟨hz,NoD.push _⟩,its,r',IsTup.new _ _⟩)
  exact⟨.ref h'.objs.size,_,I2,rfl,q _ (I1.hok.fresh (zAS _))⟩
 .obtain⟨its,r',pl,hz⟩:=I.tuple hq
  exact call_tuple_same pl ⟨.ref p,H,I,rfl,q⟩
def tyV(K:zAA)(T:String)(x:V)(H:Hp):Prop:=match x with
 | .str _=>T="str"
 | .int _=>T="int"
 | .ref p=>(T="list"/\∃xs,SqL K H p xs)\/(T="tuple"/\∃o,K.lookup p=some o/\o.cls= .type "tuple"/\o.dict=none)\/
   (T="dict"/\((∃kvs,H p=some (.dK kvs))\/∃kvs,H p=some (.dT kvs)))\/(T="set"/\∃S n,H p=some (.set S n))
 |_=>False
def aKF(I:Inv X kX Z H s)(r:RelV x v)(ty:tyV X.K T x H):
  s.TypeIs v T/\∀a,v= .ref a->∃ob,s.heap.get? a=some ob/\ob.dict=none:=by
 cases x with
 |str z=>
  obtain⟨t,rfl⟩:=r;cases (show T="str" from ty);exact⟨typeIs_str s z t,λ _ e=>nomatch e⟩
 |int i=>
  obtain⟨t,rfl⟩:=r;cases (show T="int" from ty);exact⟨zIt s i t,λ _ e=>nomatch e⟩
 |ref p=>
  cases r;rcases ty with ⟨rfl,xs,hq⟩|⟨rfl,o,hk,hc,hd⟩|⟨rfl,hk⟩|⟨rfl,S,n,hk⟩
  .obtain⟨its,_,pl,_⟩:=I.list hq
   refine⟨pl.isList.typeIs,λ a e=>?_⟩;cases e;obtain⟨o,n,e,c,hd,_⟩:=pl;exact⟨o,e,hd⟩
  .refine⟨⟨o,I.kIn p o hk,hc⟩,λ a e=>?_⟩
   cases e;exact⟨o,I.kIn _ o hk,hd⟩
  .have z:∃o,s.heap.get? p=some o/\o.ExactDict:=by
    rcases hk with ⟨kvs,hk⟩|⟨kvs,hk⟩
    .obtain⟨_,_,_,_,o,_,_,e,ex,_⟩:=I.hok p _ hk
     exact⟨o,e,ex⟩
    .obtain⟨_,_,_,_,o,_,_,e,ex,_⟩:=I.hok p _ hk
     exact⟨o,e,ex⟩
   obtain⟨o,e,ex⟩:=z;refine⟨⟨o,e,ex.1⟩,λ a e2=>?_⟩;cases e2;exact⟨o,e,ex.2.1⟩
  .obtain⟨o,_,_,_,e,ex,_⟩:=I.hok p _ hk
   refine⟨⟨o,e,ex.1⟩,λ a e2=>?_⟩;cases e2;exact⟨o,e,ex.2.1⟩
 |_=>exact zAI ty
def tBM(K:zAA)(T:String)(r:V->List V->Hp->VK->Prop)(to:TE)(t:TA):TE:=λ Z H Q=>to Z H λ x H1=>tyV K T x H1/\t Z H1 λ xs H2=>r x xs H2 Q
variable{o e:Expr}{es:List Expr}{to:TE}{t:TA}{name:Str}{apos cpos:Pos}{T id:String}{r:V->List V->Hp->VK->Prop}
def aGJ(pa:PlainAttrs T)(slot:Slot T name id)(hty:typeOf (.builtin id)=pure (.type "method_descriptor"))(hm:MtR X id r)(ho:PE X o to)(ha:PA X (e::es) t)
  (hbase:zBd o name X.env (eval o X.env)=eval o X.env:=by rfl)
  (hfew:((zCW cpos (zAU (e::es) X.env)).all (λ x=>!x.1)&&(zFg cpos (zEH [] X.env)).all (λ x=>x.1.isSome)
   &&decide ((e::es).length+([]:List zCe).length+(if ([]:List zCe).isEmpty then 0 else 1)<30))=true:=by rfl)
  (hline:(apos.endLine==cpos.line)=true:=by rfl)(hs:zAU (e::es) X.env=(false,eval e X.env)::zAU es X.env:=by rfl)(hplain:(zCW cpos (zAU es X.env)).any (·.1)=false:=by rfl):
  PE X (.Call (.Attribute o name apos) (e::es) [] cpos) (tBM X.K T r to t):=by
 intro kX s Z H Q I h;refine wpAny_Call_method_late hbase hfew hline rfl (thn (ho kX s Z H _ I h) λ v s1 ⟨x,H1,I1,r1,ty,q1⟩=>?_);obtain⟨h1,h2⟩:=aKF I1 r1 ty;refine⟨T,id,pa,slot,hty,h1,h2,?_⟩;have hA:=ha cpos kX s1 Z H1 _ I1 q1;rw[hs]at hA ⊢;refine zBy (by show(false||(zCW cpos (zAU es X.env)).any (·.1))=false;rw[hplain]<;>rfl) (zEe ?_);exact thn hA λ us s2 ⟨vs,H2,I2,r2,q2⟩=>hm kX s2 Z H2 x vs v us Q I2 r1 r2 q2
end
def MtM(X:Cx)(id:String)(r:V->List V->Hp->VK->Prop):Prop:=
 ∀(kX:hZ) (s:zAF) (Z:St) (H:Hp) (x:V) (xs:List V) (v:Value) (us:List Value) (Q:VK),Inv X kX Z H s->RelV x v->Vals xs us->r x xs H Q->
  wpAny (model X.prog X.w) X.A (call (.builtin id) (v::us)) (EP X kX Z Q) X.xe s
def Vals.one:∀{x:V} {us:List Value},Vals [x] us->∃u,us=[u]/\RelV x u
 |_,_,.cons r .nil=>⟨_,rfl,r⟩
theorem Vals.rep(h:Vals xs us):∀k:Nat,Vals (zA2 k xs).flatten (zA2 k us).flatten
 |0=>.nil
 |k+1=>by
  rw[zBh,zBh,zCb,zCb];exact Vals.append h (Vals.rep h k)
theorem foldl_rep(its:List Value):∀(k:Nat) (acc:List Value),
  zHc (λ x1 x2=>x1++x2) acc.toArray (zA2 k its.toArray)=(acc++(zA2 k its).flatten).toArray
 |0,acc=>by simp
 |k+1,acc=>by
  have e:acc.toArray++its.toArray=(acc++its).toArray:=by simp
  have e2:(acc++its)++(zA2 k its).flatten=acc++(zA2 (k+1) its).flatten:=by
   rw[zBh,zCb,zBO]
  rw[<-e2,<-foldl_rep its k (acc++its),<-e,zBh,zBN]
section
variable{X:Cx}{kX:hZ}{Z:St}{H:Hp}{s:zAF}{l:Addr}{xs ys:List V}
def Inv.lset{its its':List Value}{n:Nat}{f:Array Value->Array Value}{t':Nat}(I:Inv X kX Z H s)(hH:H l=some (.lst xs))
  (e:s.heap.get? l=some {cls:=.type "list",data:=.seq its.toArray n})(hf:f its.toArray=its'.toArray)(hv:Vals ys its')(hz:ys.length<=zAQ):
  Inv X kX Z (upd H l (.lst ys)) {s with heap:=s.heap.update l (zBw f),toks:=t'}:=by
 have q:=PySem.IsL.update e f;rw[hf]at q;refine I.write (x:=l) (e:=l) (by rw[hH];exact trivial) (.inl rfl) (λ b' u hb hu=>(Heap.get?_update_other s.heap (zBw f) (zDV hb)).trans hu) ⟨_,q⟩ ?_;exact⟨hz,its',_,hv,q⟩
def Inv.lnew(I:Inv X kX Z H s)(hv:Vals ys its)(hz:ys.length<=zAQ):
  Inv X kX Z (upd H s.heap.objs.size (.lst ys)) {s with heap:=s.heap.push {cls:=.type "list",data:=.seq its.toArray},toks:=t'}:=
 I.laid (λ _ _ q=>zAC _ q) (zAS _) ⟨hz,its,0,hv,zAJ _ rfl⟩
theorem Inv.fresh(I:Inv X kX Z H s):H s.heap.objs.size=none:=I.hok.fresh (zAS _)
def Inv.lstM(I:Inv X kX Z H s)(hH:H l=some (.lst xs)):xs.length<=zAQ/\∃(its:List Value) (n:Nat),Vals xs its/\xs.length=its.length/\s.heap.get? l=some {cls:=.type "list",data:=.seq its.toArray n}:=by
 obtain⟨z,its,n,r,e⟩:=I.hok l _ hH;exact⟨z,its,n,r,r.length,e⟩
def aGV(h:n<=zAQ):zDa n=false:=by
 unfold zDa;exact decide_eq_false (by lia)
end
section
variable{X:Cx}
def aIH:V->List V->Hp->VK->Prop:=λ x vs H Q=>∃l xs y,x= .ref l/\vs=[y]/\H l=some (.lst xs)/\xs.length<zAQ/\Q .non (upd H l (.lst (xs++[y])))
def yL:MtM X "list.append" aIH:=by
 intro kX s Z H x vs v us Q I rx rv h;obtain⟨l,xs,y,rfl,rfl,hH,hz,q⟩:=h;cases rx;obtain⟨u,rfl,ru⟩:=rv.one;obtain⟨z,its,n,r,hl,e⟩:=I.lstM hH;refine zHR zEV ⟨_,e,rfl⟩ F.entry_list_append (F.args_list_append_2 _ _) (PySem.list_append l its.toArray n u (by rw[zAX];lia)) ⟨e,?_⟩;refine⟨.non,_,I.lset (its':=its++[u]) hH e (by simp) (r.append (.cons ru .nil)) ?_,rfl,q⟩;rw[zA9,zE9];lia
def aNX:R2:=λ x y H Q=>∃l b xs zs,x= .ref l/\y= .ref b/\H l=some (.lst xs)/\H b=some (.lst zs)/\xs.length+zs.length<=zAQ/\∀p,H p=none->Q (.ref p) (upd H p (.lst (xs++zs)))
def aLP:OpR X (zCU .Add) aNX:=by
 intro kX s Z H x y v u Q I rx ry h;obtain⟨l,b,xs,zs,rfl,rfl,hH,hB,hz,q⟩:=h;cases rx;cases ry;obtain⟨z,its,n,r,hl,e⟩:=I.lstM hH;obtain⟨z2,its2,n2,r2,hl2,e2⟩:=I.lstM hB;refine PySem.P.add_list e e2 ?_ (by rw[zAX,zAX];lia);have ea:its.toArray++its2.toArray=(its++its2).toArray:=by simp
 rw[ea];exact⟨.ref _,_,I.lnew (t':=s.toks) (r.append r2) (by rw[zA9];lia),rfl,q _ I.fresh⟩
def aMU:R2:=λ x y H Q=>∃l k xs,x= .ref l/\y= .int k/\H l=some (.lst xs)/\-(2^63)<=k/\k<2^63/\xs.length*k.toNat<=zAQ/\
 ∀p,H p=none->Q (.ref p) (upd H p (.lst (zA2 k.toNat xs).flatten))
def len_rep(xs:List α)(k:Nat):(zA2 k xs).flatten.length=k*xs.length:=by
 induction k with
 |zero=>simp
 |succ k ih=>rw[zBh,zCb,zA9,ih,Nat.succ_mul,Nat.add_comm]
def aLE:OpR X (zCU .Mult) aMU:=by
 intro kX s Z H x y v u Q I rx ry h;obtain⟨l,k,xs,rfl,rfl,hH,h1,h2,hz,q⟩:=h;cases rx;obtain⟨t,rfl⟩:=ry;obtain⟨z,its,n,r,hl,e⟩:=I.lstM hH;have kK:its.toArray.size*k.toNat<=zAQ:=by rw[zAX,<-hl];exact hz
 have hcap:¬its.toArray.size*k.toNat>(2^63-1) / 8:=by
  have:(zAQ:Nat)<=(2^63-1) / 8:=by decide
  lia
 have hfit:¬(!zDP k)=true:=by
  rw[fitsIndex_both h1 h2];exact zA0
 have hlong:¬zDa (its.toArray.size*k.toNat)=true:=by
  rw[aGV kK];exact zA0
 have hnew:zHc (λ x1 x2=>x1++x2) #[] (zA2 (if its.toArray.isEmpty=true then 0 else k.toNat) its.toArray)=(zA2 k.toNat its).flatten.toArray:=by
  have f0:∀m:Nat,zHc (λ x1 x2=>x1++x2) #[] (zA2 m its.toArray)=(zA2 m its).flatten.toArray:=λ m=>by
   have:=foldl_rep its m []
   rw[zEa]at this;exact this
  rw[f0];cases its with
  |nil=>simp
  |cons a r'=>rw[if_neg (by simp)]
 refine wpAny_binaryOp_repeat_ref (T:="list") (U:="int") (by decide) ⟨_,e,rfl⟩ (λ s'=>zIt s' k t) noFill_list_mul F.fills_int_mul zIg repeat_list F.slot_int_index.lookup
  (zHR zIg (zIt s k t) F.entry_int_rmul (F.args_int_rmul_2 _ _) (int___rmul___int_list k t l its.toArray n)
   ⟨e,rfl,⟨_,e,rfl⟩,zHR F.slot_list_mul ⟨_,e,rfl⟩ F.entry_list_mul (F.args_list_mul_2 _ _) (AutoListH.list___mul___list_int_3 l its.toArray n k t hfit hcap hlong) ⟨e,?_⟩⟩)
 rw[hnew];exact⟨.ref _,_,I.lnew (t':=s.toks) (r.rep k.toNat) (by rw[len_rep,Nat.mul_comm];exact hz),rfl,q _ I.fresh⟩
end
end L2
namespace Att
open PySem PySem.W PySem.Calls PyProof.Rows
def uK:∀(ns:List Int) (vs:List Value),WellAll P h vs (ns.map WData.int)->zBH vs ns:=by
 intro ns;induction ns with
 |nil=>
  intro vs w;rw[zDR]at w;cases w;exact .nil
 |cons n ns ih=>
  intro vs w;rw[zAD]at w;cases w with
  |cons a b=>
   cases a;exact .cons _ _ (ih _ b)
def aEJ{l:OpenLaw}{n:Nat}(hn:l.most=some n){P:Params}{h:Heap}{args:List WData}{vals:List Value}
  (hpre:l.row.toRowW.claim.pre args=true)(hwl:WellAll P h vals args):
  ∃a vs ns,vals=[zAo a]/\args=[WData.list (ns.map WData.int)]/\h.get? a=some {cls:=.type "list",data:=.seq vs.toArray}/\zBH vs ns/\ns.length<=n:=by
 have hsh:WShape.hasAll [] args [.list .int]=true:=(pre_splitW hpre).1;have hc:l.pre.holds [] {args:=args}=true:=(pre_splitW hpre).2;obtain⟨d,r,rfl,h1,h2⟩:=hasAllW_cons hsh;obtain rfl:=hasAllW_nil h2;obtain⟨xs,rfl,h3⟩:=hasW_list h1;obtain⟨ns,rfl⟩:=items_int h3;have kK:ns.length<=n:=by
  unfold OpenLaw.pre at hc;have h4:(WTm.not (.lt (.lit (.int (n:Int))) (.len (.arg 0)))).holds [] {args:=[.list (ns.map .int)]}=true:=by
   have h4:=(holds_andW hc).1;rw[hn]at h4;exact h4
  have h5:=condW_of h4 (w_not (w_lt w_lit (w_len_list (w_arg rfl))));rw[zAE]at h5;refine zIQ λ q=>?_
  have q':(n:Int)<((ns.length:Nat):Int):=by lia
  first
   |(rw[decide_eq_true q']at h5;exact absurd h5 (by decide))
   |(simp at h5;lia)
 cases hwl with
 |cons w1 w2=>
  cases w2;cases w1 with
  |list ho pV=>exact⟨_,_,ns,rfl,rfl,ho,uK ns _ pV,kK⟩
def aET(l:OpenLaw)(args:List WData):l.row.toRowW.claim.post args (.bool true) args=true:=
 postW_of (r:=l.row.toRowW) (X:=(true==true))
  (show WShape.has [] (.bool true) .bool=true by first|rfl|decide|simp[WShape.has,WShape.arms,WShape.armsAll])
  (show(WTm.eq .res (.lit (.bool true))).value [] {args:=args,res:=some (.bool true),after:=args}=some (.bool (true==true))from w_eq_bool (w_res rfl) w_lit) rfl
def aBg{l:OpenLaw}{n:Nat}{q:zAV}{loose:List Str}{XP:(Str->Option Value)->Heap->Prop}{YP:World->Heap->Prop}{d:DefRec}
  (hn:l.most=some n)(hdf:d.params.defaults=[])
  (call:∀(w:World) (z4 zI:zAF) (mg mb:Str->Option Value) (fa:Addr) (o:Obj) (pm cd doc:Value) (a:Addr) (vs:List Value) (ns:List Int),
   Ground q loose [] XP w z4 mg mb zI.heap->YP w zI.heap->
   zI.heap.get? fa=some o->o.data= .func (docDef d.name d.params d.body d.scope pm cd doc)->zI.heap.CodeRec cd d.name->mg d.name=some (.ref fa)->
   zI.heap.get? a=some {cls:=.type "list",data:=.seq vs.toArray}->zBH vs ns->ns.length<=n->zI.gens=#[]->
   zCR (model l.prog w) zFT (.call (.ref fa) ⟨[.ref a],[]⟩) (λ r s'=>r= .ok (.ret (.bool true))/\OldK zI.heap s'.heap/\s'.os=zI.os/\zEo s'.gens) zI):
  WalkO q loose XP YP l.row.toRowW d [] (λ f vs=>zH3 f vs):=by
 intro w z4 zI mg mb G Y fa o pm cd doc dV kV ho hd hcd hD hmg hg args vals as hpre hlay hrd hwl hlo;obtain rfl:dV= .none:=Dflts.none hD hdf;obtain rfl:kV= .none:=Dflts.noKw hD;obtain⟨a,vs,ns,rfl,rfl,hobj,hints,kK⟩:=aEJ hn hpre hwl;refine enter_call (zET (call w z4 zI mg mb fa o pm cd doc a vs ns G Y ho (fd_plain hd) hcd hmg hobj hints kK hg) λ r s' hq=>?_);obtain⟨rfl,h2,h3,h4⟩:=hq;exact⟨.inl ⟨.bool true,.bool true,[],rfl,λ _=>rfl,.bool true,aET l _,λ _=>⟨zFx,λ _ hm=>(nomatch hm)⟩⟩,h2,h3,h4⟩
section
variable{prog:zAV}{w:World}{A:zAc}{E:Value->zAF->Prop}{s:zAF}{K:Frag}
def make_obj(X:K.In s.heap)(hm:makesIn K C=true)(hi:findIn K (.ref C) "__init__"=some (some (.ref fI)))(hf:isFn K (.ref fI)=true)
  (h:zCR (model prog w) (A.under (.builtin "type.__call__" ⟨.ref C::rest,kw⟩)) (.call (.ref fI) ⟨.ref (s.heap.objs.size+1)::rest,kw⟩) (InitBack (s.heap.objs.size+1) R)
   {s with heap:=(s.heap.push emptyDict).push (instObj C s.heap.objs.size)}):zCR (model prog w) A (.call (.ref C) ⟨rest,kw⟩) R s:=by
 obtain⟨hh,g,d,t,os⟩:=s;exact make_core (makes_of X hm) (looks_findIn X hi) (λ self=>bind_fn X self (beq_iff_eq.mp hf)) (.inl rfl) h
def get_field(X:K.In s.heap)(I:zHj s.heap x ox C (some (dictOf es n)))(hg:plainGet K C name=true)(hh:hasDictIn K C=true)(ha:findIn K (.ref C) name=some none)
  (hl:getL name es=some (some v))(hv:handedIn v=true)(h:Q v {s with toks:=s.toks+1}):wpAny (model prog w) A (getAttr (.ref x) name expr) Q E s:=
 get_value X I (plainGet_of hg).1 (findObj_own hh ha rfl hl) hv h
def ledger(h:Heap)(L d:Addr):hZ:=(zAm h.objs.size).filterMap λ a=>if a=L\/a=d then none else(h.get? a).map λ o=>(a,o)
end
end Att
namespace L2
open PySem PySem.Spec PyProof.Rows
theorem xn:∀{vs:List Value} {ns:List Int},zBH vs ns->Vals (ns.map V.int) vs
 |_,_,.nil=>.nil
 |_,_,.cons n t h=>.cons ⟨t,rfl⟩ (xn h)
def Only(H:Hp):Prop:=∀b,H b=none\/∃o xs,H b=some (.frz o (.lst xs))
def aG9{P:zAV}{w:World}{K:zAA}{mg mb:Str->Option Value}{CX:CXT}{k:Nat}{fa a:Addr}{fd:zAg}{x:Str}{sp:Sp}{zI:zAF}{vs:List Value}{ns:List Int}
  (KX:K.In zI.heap)(hns:zI.heap.Ns zAj mg)(hb:zI.heap.Ns zIq mb)(hbb:∀x:Str,x≠"__name__"->mb x=zAz x)(hlim:zI.heap.NoLimit)(hg:zI.gens=#[])
  (ha:zI.heap.get? a=some {cls:=.type "list",data:=.seq vs.toArray})(hi:zBH vs ns)(hl:ns.length<=zAQ)(hr:jN k zFT)
  (F:∀base:Heap,K.In base->base.Ns zAj mg->cA P w K mg base CX k fa fd [x] sp)(hbind:∀(s:zAF) (u:Value),zFw s fd ⟨[u],[]⟩ [(x,u)])
  (hsp:∀H:Hp,Only H->SqL K H a (ns.map V.int)->sp [.ref a] H (λ v _=>v= .bl true) λ _ _ _=>False)
  (hCX:∀H e s',CX [] H zI (λ _ _ _=>False) e s'->False):
  zCR (model P w) zFT (.call (.ref fa) ⟨[.ref a],[]⟩) (λ r s'=>r= .ok (.ret (.bool true))/\OldK zI.heap s'.heap/\s'.os=zI.os/\zEo s'.gens) zI:=by
 have rv:=xn hi;have lenV:=hi.length;have core:∀H:Hp,Only H->SqL K H a (ns.map V.int)->HOk P w H zI.heap->(∀b,H b≠none->b=a)->(H a≠none->K.lookup a=none)->
   zCR (model P w) zFT (.call (.ref fa) ⟨[.ref a],[]⟩) (λ r s'=>r= .ok (.ret (.bool true))/\OldK zI.heap s'.heap/\s'.os=zI.os/\zEo s'.gens) zI:=by
  intro H hO hS hok hA hK;have base_of:∀{b:Addr} {o:Obj},zI.heap.get? b=some o->H b=none->(aAD zI.heap H).get? b=some o:=λ e n=>aGv e n
  have noA:∀{b:Addr} {o:Obj} {es:Array zDe} {ep:Nat},zI.heap.get? b=some o->o.data= .dict es ep->H b=none:=λ{b o es ep} e d=>by
   cases q:H b with
   |none=>rfl
   |some u=>
    have e':b=a:=hA b (by rw[q];simp);subst e';rw[ha]at e;cases e;have d':Data.seq vs.toArray _=Data.dict es ep:=d;cases d'
  have nsK:∀{b:Addr} {m:Str->Option Value},zI.heap.Ns b m->(aAD zI.heap H).Ns b m:=λ{b m} ⟨o,es,ep,e,d,r⟩=>⟨o,es,ep,base_of e (noA e d),d,r⟩
  have hKb:K.In (aAD zI.heap H):=λ b o e=>base_of (KX b o e) (by
   cases q:H b with
   |none=>rfl
   |some u=>
    have e':b=a:=hA b (by rw[q];simp);subst e';rw[hK (by rw[q];simp)]at e;cases e)
  have hM:Mod K mg (aAD zI.heap H):=⟨hKb,nsK hns,⟨mb,nsK hb,hbb⟩,let⟨mc,h1,h2⟩:=hlim;⟨mc,nsK h1,h2⟩⟩;have e0:aHc P w K mg (aAD zI.heap H) zFT [] zI H:=⟨rfl,hM,λ b o e=>aIc e,Nat.le_of_eq (aEe _ _),trivial,λ b hb=>absurd (show b∈([]:List Addr)from hb) (by simp),hok,.of_eq hg⟩;refine zET ((F _ hKb (nsK hns)).run zFT [] zI H ⟨[.ref a],[]⟩ [.ref a] [.ref a] _ _ hr e0 (hbind zI (.ref a)) (.cons rfl .nil) (hsp H hO hS)) λ r s' h=>?_
  cases r with
  |error e=>exact(hCX H e s' h).elim
  |ok fl=>
   cases fl with
   |next=>exact zAI h
   |brk=>exact zAI h
   |cont=>exact zAI h
   |ret u=>
    obtain⟨v,H',os,bare,un,hok',r',q⟩:=h;have q':v= .bl true:=q;subst q';obtain rfl:u=zEd true:=r';refine⟨rfl,OldK.of_keep λ b o e=>?_,os,bare⟩;cases q:H b with
    |none=>exact un.keep b o e q (by intro z;exact absurd (show b∈([]:List Addr)from z) (by simp)) (by simp)
    |some u=>
     rcases hO b with z|⟨ob,xs,z⟩
     .rw[q]at z;cases z
     .have z2:=un.frzs b ob _ z
      obtain⟨e1,_⟩:=hok b _ z;obtain⟨e2,_⟩:=hok' b _ z2;rw[e]at e1;cases e1;exact e2
 cases hk:K.lookup a with
 |some o=>
  have e:=KX a o hk;rw[ha]at e;cases e;refine core (λ _=>none) (λ _=>.inl rfl) (.inr ⟨_,vs.toArray,_,hk,rfl,rfl,rfl,by rw[zAX,lenV];exact hl,by simpa using rv⟩) (λ b u z=>by have z':(none:Option HO)=some u:=z;cases z') (λ b z=>absurd rfl z) λ z=>absurd rfl z
 |none=>
  refine core (λ b=>if b=a then some (.frz {cls:=.type "list",data:=.seq vs.toArray} (.lst (ns.map V.int)))else none) (λ b=>?_) (.inl (.inr ⟨{cls:=.type "list",data:=.seq vs.toArray},if_pos rfl⟩)) (λ b u z=>?_) (λ b z=>?_) λ _=>hk
  .by_cases hb:b=a
   .exact .inr ⟨_,_,if_pos hb⟩
   .exact .inl (if_neg hb)
  .by_cases hb:b=a
   .have z':=(if_pos hb).symm.trans z
    cases z';subst hb;exact⟨ha,by rw[zAE];exact hl,vs,_,rv,ha⟩
   .have z':=(if_neg hb).symm.trans z
    cases z'
  .by_cases hb:b=a
   .exact hb
   .exact absurd (if_neg hb) z
def aHh{l:zFR}{n k:Nat}{q:zAV}{loose:List Str}{XP:(Str->Option Value)->Heap->Prop}{YP:World->Heap->Prop}{d:DefRec}{K:Params->zAA}{CX:World->CXT}{sp:World->Sp}{x:Str}
  (hn:l.most=some n)(hn2:n<=zAQ)(hdf:d.params.defaults=[])(hr:jN k zFT)
  (hY:∀(w:World) (h:Heap),YP w h->(K w.params).In h)
  (F:∀(w:World) (mg:Str->Option Value) (fa:Addr) (h:Heap),(K w.params).In h->h.Ns zAj mg->mg d.name=some (.ref fa)->
   ∃fd:zAg,(∀(s:zAF) (u:Value),zFw s fd ⟨[u],[]⟩ [(x,u)])/\
    ∀base:Heap,(K w.params).In base->base.Ns zAj mg->cA l.prog w (K w.params) mg base (CX w) k fa fd [x] (sp w))
  (hsp:∀(w:World) (H:Hp) (a:Addr) (ns:List Int),ns.length<=n->Only H->SqL (K w.params) H a (ns.map V.int)->sp w [.ref a] H (λ v _=>v= .bl true) λ _ _ _=>False)
  (hCX:∀(w:World) (H:Hp) (s:zAF) (e:Value) (s':zAF),CX w [] H s (λ _ _ _=>False) e s'->False):
  zID q loose XP YP l.row.toRowW d [] (λ f vs=>zH3 f vs):=by
 refine Att.aBg hn hdf λ w z4 zI mg mb fa o pm cd doc a vs ns G Y ho hd hcd hmg hobj hints kK hg=>?_
 have KX:=hY w _ Y;obtain⟨fd,hb,hF⟩:=F w mg fa _ KX G.T.g hmg;exact aG9 KX G.T.g G.T.b G.T.builtins G.T.nolimit hg hobj hints (zAn kK hn2) hr hF hb (λ H hO hS=>hsp w H a ns kK hO hS) λ H e s'=>hCX w H zI e s'
def nZ(s:Stmt):zEp:=match s with
 | .FunctionDef _ a _ _ _ _ _ _ _ _=>a
 |_=>{posonlyargs:=[],args:=[],vararg:=none,kwonlyargs:=[],kw_defaults:=[],kwarg:=none,defaults:=[]}
def fO(s:Stmt):List Stmt:=match s with
 | .FunctionDef _ _ b _ _ _ _ _ _ _=>b
 |_=>[]
def aM(s:Stmt):Scope:=match s with
 | .FunctionDef _ _ _ _ _ _ sc _ _ _=>sc
 |_=>{kind:=.function,names:=[],isGenerator:=false,isCoroutine:=false}
abbrev CX0:CXT:=λ _ _ _ _ _ _=>False
abbrev E0:XK:=λ _ _ _=>False
structure Fun(K:zAA)(x qual:Str)(st:Stmt)(f:Addr)(fd:zAg):Prop where
 ex:∃(oc:Value) (od:Option Addr) (kV doc pm:Value) (an:Option Addr) (cdv ct:Value) (osl:Array (Option Value)),
  fd=zCO x qual (nZ st) (fO st) (aM st) .none kV doc pm an cdv ct/\K.lookup f=some ⟨oc,od,.func fd,osl⟩/\zDl K cdv qual=true
 kp:zDB K (.ref f)=true
section
variable{K:zAA}
def Fun.binds{x qual:Str}{st:Stmt}{f:Addr}{fd:zAg}{ps:List Str}(F:Fun K x qual st f fd)
  (h:∀(kV doc pm:Value) (an:Option Addr) (cdv ct:Value) (us:List Value),us.length=ps.length->bindArgs (zCO x qual (nZ st) (fO st) (aM st) .none kV doc pm an cdv ct) ⟨us,[]⟩=pure (ps.zip us)):Binds K fd ps []:=by
 obtain⟨oc,od,kV,doc,pm,an,cdv,ct,osl,rfl,lk,hcd⟩:=F.ex;exact .all (h kV doc pm an cdv ct)
def aLf{x qual:Str}{st:Stmt}{f:Addr}{oc:Value}{od an:Option Addr}{osl:Array (Option Value)}{kV doc pm cdv ct:Value}(l:K.lookup f=some ⟨oc,od,.func (zCO x qual (nZ st) (fO st) (aM st) .none kV doc pm an cdv ct),osl⟩)
  (c:zDl K cdv qual=true)(k:zDB K (.ref f)=true):Fun K x qual st f (zCO x qual (nZ st) (fO st) (aM st) .none kV doc pm an cdv ct):=⟨⟨oc,od,kV,doc,pm,an,cdv,ct,osl,rfl,l,c⟩,k⟩
end
def aR(H H':Hp):Prop:=∀b o,H b=some o->H' b=some o
def aR.refl(H:Hp):aR H H:=λ _ _ h=>h
def aR.trans(a:aR H H1)(b:aR H1 H2):aR H H2:=λ c o h=>b c o (a c o h)
def aR.free(e:aR H H')(h:H' l=zI8):H l=zI8:=by
 cases q:H l with
 |none=>rfl
 |some o=>
  rw[e l o q]at h;cases h
end L2
set_option maxHeartbeats 4000000
namespace HT
open PySem PyProof.Rows
def lexLe:List Int->List Int->Bool
 |[],_=>true
 |_::_,[]=>false
 |x::xs,y::ys=>if x=y then lexLe xs ys else decide (x<=y)
def aC0(x y:Int)(xs ys:List Int):lexLe (x::xs) (y::ys)=if x=y then lexLe xs ys else decide (x<=y):=rfl
def aFg(A:zAc)(s:zAF)(a:Int)(t:Tok)(c:Int)(u:Tok)(prog:zAV)(w:World)(E:Value->zAF->Prop)(Q:Value->zAF->Prop)(h:Q (.bool (decide (a<=c))) s):
  wpAny (model prog w) A (zGb .LtE (.int a t) (.int c u)) Q E s:=
 (PyProof.Rows.le_int h:wpAny (model prog w) A (zBA .LtE (.int a t) (.int c u)) Q E s)
section
open PySem.SeqAt
open PySem.AutoSeq1(wpAny_loadPart')
open PySem.MeetsSeq PySem.MeetsSeq2 PySem.MeetsSeq3
def wy(l b:Addr)(items items2:Array Value)(n n2:Nat)(dd dd2:Option Addr)(sl sl2:Array (Option Value))(ns ms:List Int)(hi:zBH items.toList ns)(hj:zBH items2.toList ms):
  Meets (zCy.«tuple.__le__» ⟨[.ref l,.ref b],[]⟩)
   (λ _ R s=>s.heap.get? l=some {cls:=.type "tuple",dict:=dd,data:=.seq items n,slots:=sl}/\s.heap.get? b=some {cls:=.type "tuple",dict:=dd2,data:=.seq items2 n2,slots:=sl2}/\
    R (.ok (.ret (.bool (lexLe ns ms)))) s):=
 .of_wp λ prog w A R s h=>by
  obtain⟨hp,g,d,tk,os⟩:=s;obtain⟨hl,hb,h⟩:=h;have f2:=zF9;have z1:items.size=ns.length:=by rw[<-hi.length];simp
  have z2:items2.size=ms.length:=by rw[<-hj.length];simp
  wp_walk using zEx hl,zEx hb,zCx _ (λ rest b s'=>b.1=none/\s'=⟨hp,g,d,tk,os⟩/\∃(vs ws:List Value) (ns' ms':List Int),rest=vs.zip ws/\
   zBH vs ns'/\zBH ws ms'/\ns'.length+items2.size=ms'.length+items.size/\R (.ok (.ret (.bool (lexLe ns' ms')))) ⟨hp,g,d,tk,os⟩) _
  case turn=>
   rintro⟨y,x⟩ rest b s' ⟨hb',rfl,vs,ws,ns',ms',hz,hvi,hwi,kK,hR⟩;cases hvi with
   |nil=>rw[zHg]at hz;cases hz
   |cons a t hvi'=>
    cases hwi with
    |nil=>rw[zHZ]at hz;cases hz
    |cons c u hwi'=>
     rw[zAu]at hz;injection hz with hyx aE
     injection hyx with hy hx
     subst hy hx;rw[aC0]at hR;simp only[zAk]at kK;obtain⟨e,he,hiff⟩:=aB6 A.in1 ⟨hp,g,d,tk,os⟩ a t c u;refine zAB (he prog w _ _ ?_);cases e with
     |true=>
      rw[if_pos (hiff.mp rfl)]at hR;wp_walk;exact⟨rfl,rfl,_,_,_,_,aE,hvi',hwi',by lia,hR⟩
     |false=>
      rw[if_neg (λ q=>absurd (hiff.mpr q) zA0)]at hR;have hri:=aFg A.in1 ⟨hp,g,d,tk,os⟩ a t c u prog w;wp_walk using hri;exact⟨_,rfl,by simpa using hR⟩
  case fin=>
   rintro⟨b1,b2⟩ s' ⟨hb',rfl,vs,ws,ns',ms',hz,hvi,hwi,kK,hR⟩;simp only at hb';subst hb';have hv:lexLe ns' ms'=decide (items.size<=items2.size):=by
    cases hvi with
    |nil=>
     simp only[zCA]at kK;have e:lexLe [] ms'=true:=by cases ms'<;>rfl
     rw[e];exact(decide_eq_true (by lia)).symm
    |cons a t hv=>
     cases hwi with
     |nil=>
      simp only[zCA,zAk]at kK;show false=_;exact(decide_eq_false (by lia)).symm
     |cons c u hw=>
      rw[zAu]at hz;cases hz
   rw[hv]at hR;wp_walk;exact⟨_,rfl,by simpa[zE0]using hR⟩
  case h=>
   exact⟨rfl,rfl,items.toList,items2.toList,ns,ms,rfl,hi,hj,by lia,h⟩
end
section
variable{prog:zAV}{w:World}{A:zAc}{E:Value->zAF->Prop}{s:zAF}
def aC1(hl:IsTup s.heap l items)(hb:IsTup s.heap b items2)(hi:zBH items.toList ns)(hj:zBH items2.toList ms)
  (hu:A.units<cLine)(h:Q (.bool (lexLe ns ms)) s):wpAny (model prog w) A (zBA .LtE (.ref l) (.ref b)) Q E s:=by
 obtain⟨⟨cls,dd,data,sl⟩,ho,hc,n,hd⟩:=id hl;obtain⟨⟨cls2,dd2,data2,sl2⟩,ho2,hc2,n2,hd2⟩:=id hb;simp only at hc hd hc2 hd2;subst hc hd hc2 hd2;exact zHp (op:=.LtE) ⟨_,ho,rfl⟩ ⟨_,ho2,rfl⟩ PySem.F.slot_tuple_le PySem.F.entry_tuple_le (PySem.F.args_tuple_le_2 _ _) (wy l b items items2 n n2 dd dd2 sl sl2 ns ms hi hj)
  ⟨ho,ho2,show zEd (lexLe ns ms)≠zGn/\Q (.bool (lexLe ns ms)) s from⟨(λ x=>nomatch x),h⟩⟩ hu
def aHW{ws:List Value}(ht:IsTup s.heap t #[])(hb:IsTup s.heap b ws.toArray)(h1:Q (.ref b) s):wpAny (model prog w) A (zCU .Add (.ref t) (.ref b)) Q E s:=by
 obtain⟨⟨cls,dd,data,sl⟩,ho,hc,n,hd⟩:=id ht;obtain⟨⟨cls2,dd2,data2,sl2⟩,ho2,hc2,n2,hd2⟩:=id hb;simp only at hc hd hc2 hd2;subst hc hd hc2 hd2;exact zIG ⟨_,ho,rfl⟩ ⟨_,ho2,rfl⟩ zGY zH7 zEM zED (zDw _ _)
   (tuple_addW0 t b #[] ws.toArray n n2 dd dd2 sl sl2 (by simp)) ⟨ho,ho2,h1⟩
end
end HT
namespace L2
open PySem PySem.Spec PyProof.Rows
def aIr(t T:String):Bool:=decide (t=T)||(decide (t="bool")&&decide (T="int"))
def aIn{K:zAA}(ht:t∈["NoneType","bool","int","str","list","tuple","dict"])(hT:T∈["bool","int","str","list","tuple","dict"]):
  zDm K (.type t) (.type T)=some (aIr t T):=by
 simp only[zAT,zB2,or_false]at ht hT;rcases ht with rfl|rfl|rfl|rfl|rfl|rfl|rfl<;>rcases hT with rfl|rfl|rfl|rfl|rfl|rfl<;>kernel_rfl
def lZ(t T:String)(b:Bool):Bool:=decide (t∈["NoneType","bool","int","str","list","tuple","dict"])&&decide (T∈["bool","int","str","list","tuple","dict"])&&(aIr t T==b)
def aC4{K:zAA}(h:lZ t T b=true):zDm K (.type t) (.type T)=some b:=by
 unfold lZ at h;rw[zA5,zA5]at h;rw[aIn (of_decide_eq_true h.1.1) (of_decide_eq_true h.1.2),zIH h.2]
def bF(h:H p=none)(o:HO):aR H (upd H p o):=λ b u q=>by rw[aQ (bN q h)];exact q
section
variable{X:Cx}
def aNW(K:zAA):List V->Hp->VK->Prop:=λ xs H Q=>∃x T t b,xs=[x,.ty T]/\sZ K H x (.type t)/\lZ t T b=true/\Q (.bl b) H
def kJ:cX X (.builtin "isinstance") (aNW X.K):=by
 intro kX s Z H xs us Q I r h;obtain⟨x,T,t,b,rfl,ty,ok,q⟩:=h;obtain⟨u,w',rfl,r1,r2⟩:=vals2 r;obtain rfl:w'=zBn T:=r2;exact aEa I r1 ty (aC4 ok) λ tk=>⟨.bl b,H,I.tok tk,rfl,q⟩
def aIG(K:zAA):R2:=λ x y H Q=>∃a b ns ms,x= .ref a/\y= .ref b/\SqT K H a (ns.map V.int)/\SqT K H b (ms.map V.int)/\Q (.bl (HT.lexLe ns ms)) H
def aLM(hu:X.A.units<cLine):OpR X (zBA .LtE) (aIG X.K):=by
 intro kX s Z H x y v u Q I rx ry h;obtain⟨a,b,ns,ms,rfl,rfl,ha,hb,q⟩:=h;cases rx;cases ry;obtain⟨its,r1,p1,_⟩:=I.tuple ha;obtain⟨its2,r2,p2,_⟩:=I.tuple hb;have i1:zBH its.toArray.toList ns:=intsAre_of r1;have i2:zBH its2.toArray.toList ms:=intsAre_of r2;exact HT.aC1 p1 p2 i1 i2 hu ⟨.bl (HT.lexLe ns ms),H,I,rfl,q⟩
def Inv.big'(I:Inv X kX Z H s):zBE<s.heap.objs.size:=by
 have h:zAj<s.heap.objs.size:=(I.mod.glob.keeps I.bk).lt;exact zDX (by decide) h
def aMJ:TE:=λ _ H Q=>∀p,H p=none->Q (.ref p) (upd H p (.dK []))
def aIV:PE X (.Dict [] [] pos) aMJ:=λ kX s Z H Q I h=>
 wpAny_Dict_empty ⟨.ref s.heap.objs.size,_,I.laid (a:=s.heap.objs.size) (o:=.dK []) (t':=s.toks) (λ _ _ q=>zAC _ q) (zAS _)
  ⟨zAf _,beq_eq_false_iff_ne.mpr (zDV (zA1 I.big')),[],.nil,zEs s.heap⟩,rfl,h _ (I.hok.fresh (zAS _))⟩
end
def iW(l:Addr)(H H':Hp):Prop:=∀b o,b≠l->H b=some o->H' b=some o
def aR.sqt{K:zAA}(e:aR H H')(h:SqT K H a xs):SqT K H' a xs:=by
 rcases h with (h|⟨o,h⟩)|h
 .exact .inl (.inl (e _ _ h))
 .exact .inl (.inr ⟨o,e _ _ h⟩)
 .exact .inr h
inductive D where
 |non|bl (b:Bool)|int (i:Int)|str (x:Str)|tup (l:List D)|lst (l:List D)|dct
mutual
inductive Rep(H:Hp):V->D->Prop where
 |non:Rep H .non .non
 |bl (b:Bool):Rep H (.bl b) (.bl b)
 |int (i:Int):Rep H (.int i) (.int i)
 |str (x:Str):Rep H (.str x) (.str x)
 |tup {a:Addr} {xs:List V} {ds:List D} (h:H a=some (.tup xs)) (r:aH6 H xs ds):Rep H (.ref a) (.tup ds)
 |lst {a:Addr} {xs:List V} {ds:List D} (h:H a=some (.lst xs)) (r:aH6 H xs ds):Rep H (.ref a) (.lst ds)
 |dct {a:Addr} (h:H a=some (.dK [])):Rep H (.ref a) .dct
inductive aH6(H:Hp):List V->List D->Prop where
 |nil:aH6 H [] []
 |cons {x:V} {d:D} {xs:List V} {ds:List D} (h:Rep H x d) (r:aH6 H xs ds):aH6 H (x::xs) (d::ds)
end
def PE.weaken(h:PE X e t)(imp:∀Z H Q,t' Z H Q->t Z H Q):PE X e t':=λ kX s Z H Q I q=>h kX s Z H Q I (imp Z H Q q)
def OpR.weaken(h:OpR X f r)(imp:∀x y H Q,r' x y H Q->r x y H Q):OpR X f r':=λ kX s Z H x y v u Q I rx ry q=>h kX s Z H x y v u Q I rx ry (imp x y H Q q)
def New(H:Hp)(o:HO)(Q:VK):Prop:=∀p H',aR H H'->H' p=some o->H p=none->Q (.ref p) H'
def New.at(n:New H o Q)(hp:H p=none):Q (.ref p) (upd H p o):=n p _ (bF hp o) aV hp
section
variable{X:Cx}{es:List Expr}{t:TA}{pos:Pos}
def aMF(t:TA):TE:=λ Z H Q=>t Z H λ xs H1=>xs.length<=zAQ/\New H1 (.tup xs) Q
def aJe(t:TA):TE:=λ Z H Q=>t Z H λ xs H1=>xs.length<=zAQ/\New H1 (.lst xs) Q
def aIT{x1}(h:PA X es t):PE X (.Tuple es x1 pos) (aMF t):=by
 have h':PA X es (λ Z H Q=>∃R:List V->Hp->Prop,t Z H R/\∀xs H',R xs H'->Q xs H'):=by
  intro pos kX s Z H Q I ⟨R,q,imp⟩;exact thn (h pos kX s Z H R I q) λ us s' ⟨vs,H',I',r,q'⟩=>⟨vs,H',I',r,imp _ _ q'⟩
 exact(aKs h').weaken λ Z H Q q=>⟨_,q,λ xs H' ⟨z,n⟩=>⟨z,λ p hp=>n.at hp⟩⟩
def z7(h:PA X es t):PE X (.List es pos) (aJe t):=by
 have h':PA X es (λ Z H Q=>∃R:List V->Hp->Prop,t Z H R/\∀xs H',R xs H'->Q xs H'):=by
  intro pos kX s Z H Q I ⟨R,q,imp⟩;exact thn (h pos kX s Z H R I q) λ us s' ⟨vs,H',I',r,q'⟩=>⟨vs,H',I',r,imp _ _ q'⟩
 exact(aKw h').weaken λ Z H Q q=>⟨_,q,λ xs H' ⟨z,n⟩=>⟨z,λ p hp=>n.at hp⟩⟩
def aKP:TE:=λ _ H Q=>New H (.dK []) Q
def aGH:PE X (.Dict [] [] pos) aKP:=aIV.weaken λ Z H Q n p hp=>n.at hp
def aJp:R2:=λ x y H Q=>∃l b xs zs,x= .ref l/\y= .ref b/\H l=some (.lst xs)/\H b=some (.lst zs)/\xs.length+zs.length<=zAQ/\New H (.lst (xs++zs)) Q
def aI9:OpR X (zCU .Add) aJp:=aLP.weaken λ x y H Q ⟨l,b,xs,zs,e1,e2,h1,h2,z,n⟩=>⟨l,b,xs,zs,e1,e2,h1,h2,z,λ p hp=>n.at hp⟩
def vO:V->List V->Hp->VK->Prop:=λ x vs H Q=>∃l xs y,x= .ref l/\vs=[y]/\H l=some (.lst xs)/\xs.length<zAQ/\∀H',iW l H H'->H' l=some (.lst (xs++[y]))->Q .non H'
def v9:MtM X "list.append" vO:=λ kX s Z H x xs v us Q I rx rv ⟨l,ys,y,e1,e2,h,z,n⟩=>
 yL kX s Z H x xs v us Q I rx rv ⟨l,ys,y,e1,e2,h,z,n _ (λ b o ne hb=>by rw[aQ ne];exact hb) aV⟩
end
def at0:atI (x::xs) 0=some x:=aDr (j:=0) rfl
def at1:atI (x::y::xs) 1=some y:=aDr (j:=1) rfl
def bT(scope:Scope)(env:Env):List (Str×Addr):=(scope.names.filterMap λ y=>if y.2== .free then(env.cells.lookup y.1).map λ c=>(y.1,c)else none).reverse
theorem w6(env:Env):∀(names:List (Str×zDv)) (acc:List (Str×Addr)),(∀y∈names,y.2= .free->∃c,env.cells.lookup y.1=some c)->
  (forIn names acc λ(x:Str×zDv) r=>if (x.2== .free)=true then do let c <-cellOf env x.1;pure (zBf ((x.1,c)::r))else pure (zBf r):Sem (List (Str×Addr)))=
   pure ((names.filterMap λ y=>if y.2== .free then(env.cells.lookup y.1).map λ c=>(y.1,c)else none).reverse++acc)
 |[],acc,_=>rfl
 |(n,k)::r,acc,h=>by
  rw[zIN];have ih:=λ acc'=>w6 env r acc' λ y hy=>h y (zAL _ hy)
  by_cases hk:k= .free
  .subst hk
   obtain⟨c,hc⟩:=h (n,.free) zAK rfl;have hc':env.cells.lookup n=some c:=hc;simp only[beq_self_eq_true,if_true,cellOf,hc',zB3,zCr,List.reverse_cons,zBO,List.singleton_append];exact ih _
  .have hb:(k==zCE)=false:=by simpa using hk
   simp only[hb,zAZ,if_false,zB3];exact ih _
def jf(h:∀y∈scope.names,y.2= .free->∃c,env.cells.lookup y.1=some c):zGE scope env=pure (bT scope env):=by
 have e:=w6 env scope.names [] h;rw[zB0]at e;have e2:zGE scope env=((forIn scope.names ([]:List (Str×Addr)) λ(x:Str×zDv) r=>if (x.2== .free)=true then do let c <-cellOf env x.1;pure (zBf ((x.1,c)::r))else pure (zBf r):Sem (List (Str×Addr)))>>=λ r=>pure r):=rfl;rw[e2,e];rfl
def uA(h:(bT scope env).lookup x=some c):env.cells.lookup x=some c:=by
 have hm:=zAy h;unfold bT at hm;rw[zHx,zBp]at hm;obtain⟨y,hy,e⟩:=hm;split at e
 .cases q:env.cells.lookup y.1 with
  |none=>rw[q]at e;cases e
  |some c'=>
   rw[q]at e;have e':=zAs e;injection e' with e1 e2
   subst e1 e2;exact q
 .cases e
def aBd(hx:scope.names.lookup x=some .free)(h:env.cells.lookup x=some c):(bT scope env).lookup x=some c:=by
 have hm:(x,zCE)∈scope.names:=zAy hx
 have:(x,c)∈bT scope env:=by
  unfold bT;rw[zHx,zBp];exact⟨_,hm,by simp[h]⟩
 cases q:(bT scope env).lookup x with
 |none=>
  exact absurd this (by
   intro hm'
   have:=List.lookup_eq_none_iff.mp q _ hm'
   simp at this)
 |some c'=>
  have:=uA q
  rw[h]at this;exact this.symm▸rfl
def uI(scope:Scope)(C:Addr):List (Str×Addr):=zEG (C+1) scope.names []
theorem kI:∀(names:List (Str×zDv)) (n:Nat) (acc:List (Str×Addr)),zEG n names acc=zEG n names []++acc
 |[],_,_=>rfl
 |(x,k)::r,n,acc=>by
  unfold zEG;split
  .rw[kI r (n+1) ((x,n)::acc),kI r (n+1) [(x,n)],zBO];rfl
  .exact kI r n acc
theorem pP:∀{names:List (Str×zDv)} {n:Nat} {x:Str} {c:Addr},(x,c)∈zEG n names []->(x,zDU)∈names
 |(y,k)::r,n,x,c,h=>by
  unfold zEG at h;split at h
  .rename_i hk
   rw[kI,zA3]at h;rcases h with h|h
   .exact zAL _ (pP h)
   .have e:=zAM.mp h
    cases e;rw[zIH hk];exact zAK
  .exact zAL _ (pP h)
 |[],_,_,_,h=>by cases h
def jr{l m:List (Str×Addr)}(h:(l++m).lookup x=some c):l.lookup x=some c\/(l.lookup x=none/\m.lookup x=some c):=by
 rw[zDu]at h;cases e:l.lookup x with
 |some c'=>rw[e]at h;exact .inl h
 |none=>rw[e]at h;exact .inr ⟨rfl,h⟩
def aDZ{M:Model}{A:zAc}{E:Value->zAF->Prop}{s:zAF}{scope:Scope}{globals:Addr}{cl:List (Str×Addr)}{qual:Str}{env:Env}{Q:Env->zAF->Prop}
  (h:∀h':Heap,h'.Ns s.heap.objs.size (λ _=>none)->(∀b o,s.heap.get? b=some o->h'.get? b=some o)->CellsOk h' (s.heap.objs.size+1) (uI scope s.heap.objs.size)->
   Q {scope:=scope,locals:=s.heap.objs.size,globals:=globals,cells:=uI scope s.heap.objs.size++cl,qual:=qual,func:=none,code:=env.code,frame:=env.frame,builtins:=env.builtins} {s with heap:=h'}):
  wpAny M A (zFN scope globals cl [] qual none .none (some env)) Q E s:=by
 simp only[zFN,zEn,if_true];refine zAB (wpAny_alloc ?_);refine zAB (wpAny_layCells _ (λ name kind cells=>by cases hkc:kind==zDU<;>simp[hkc]) _ _ _ _ ?_);have ok:=cellsFrom_ok scope.names (s.heap.push {cls:=.type "dict",data:=.dict #[]}) (s.heap.objs.size+1) [] ⟨λ _ _ hm=>(nomatch hm),zFx⟩ (by rw[zBD];exact zAS _);rw[zBD]at ok;rw[show({s with heap:=s.heap.push {cls:=.type "dict",data:=.dict #[]}}:zAF).heap.objs.size=s.heap.objs.size+1 from zBD ..,kI];refine zAG ?_;exact h _ ((Heap.Ns.new s.heap (.type "dict")).keeps (pushCells_keeps _ _)) (λ b o e=>pushCells_keeps _ _ b o (zAC _ e)) ok
def Cx.block(X:Cx)(scope:Scope)(C:Addr)(N:List Str)(fp:List Addr)(z4:zAF)(zS:Hp):Cx:=
  {prog:=X.prog,w:=X.w,K:=X.K,mg:=X.mg,base:=X.base,A:=X.A,N:=N,z4:=z4,zS:=zS,env:=compEnvC scope (uI scope C++bT scope X.env) C X.env,outer:=X.stack,stack:=X.stack,ex:=fp,
    fn:=λ x=>scope.names.lookup x==some .cell,calm:=X.calm,pn:=[],xe:=λ _ _=>False}
structure fJ(X:Cx)(scope:Scope)(N:List Str)(st:St->St)(ks:List Nat):Prop where
 kind:scope.kind= .function
 sep:∀y∈scope.names,y.2= .cell->scope.names.lookup y.1=some .cell
 loc:∀y∈scope.names,y.2= .local->scope.names.lookup y.1=some .local
 free:∀y∈scope.names,y.2= .free->X.env.kindOf y.1=some .cell\/X.env.kindOf y.1=some .free
 len:∀Z,(st Z).length=N.length
 val:∀Z (i:Nat) x v,N[i]? =some x->(st Z)[i]? =some (some v)->scope.names.lookup x=some .free/\i∉ks/\∃j:Nat,X.N[j]? =some x/\Z[j]? =some (some v)
def zU(h:(zGF scope env).names.lookup x=some .cell\/(zGF scope env).names.lookup x=some .free):scope.names.lookup x=some .free\/scope.names.lookup x=some .cell:=by
 have go:∀names:List (Str×zDv),((names.map λ(n,k)=>if (k==zCE&&env.scope.kind== .function&&env.kindOf n==some .cell)then(n,zDU)else(n,k)).lookup x=some .cell\/
   (names.map λ(n,k)=>if (k==zCE&&env.scope.kind== .function&&env.kindOf n==some .cell)then(n,zDU)else(n,k)).lookup x=some .free)->names.lookup x=some .free\/names.lookup x=some .cell:=by
  intro names;induction names with
  |nil=>intro h;simp at h
  |cons y r ih=>
   obtain⟨n,k⟩:=y;intro h;rw[zAD]at h;by_cases hx:x==n
   .rw[zA6,hx]
    show some k=some .free\/some k=some .cell;by_cases hcc:(k==zCE&&env.scope.kind== .function&&env.kindOf n==some .cell)=true
    .rw[zA5,zA5]at hcc
     rw[zIH hcc.1.1];exact .inl rfl
    .simp only[if_neg hcc,zA6,hx]at h
     exact h.elim .inr .inl
   .have hx':(x==n)=false:=by simpa using hx
    rw[zA6,hx'];refine ih ?_;by_cases hcc:(k==zCE&&env.scope.kind== .function&&env.kindOf n==some .cell)=true
    .simp only[if_pos hcc,zA6,hx']at h
     exact h
    .simp only[if_neg hcc,zA6,hx']at h
     exact h
 exact go scope.names h
def zV(h:scope.names.lookup x=some .free):(zGF scope env).names.lookup x=some .cell\/(zGF scope env).names.lookup x=some .free:=by
 have go:∀names:List (Str×zDv),names.lookup x=some .free->((names.map λ(n,k)=>if (k==zCE&&env.scope.kind== .function&&env.kindOf n==some .cell)then(n,zDU)else(n,k)).lookup x=some .cell\/
   (names.map λ(n,k)=>if (k==zCE&&env.scope.kind== .function&&env.kindOf n==some .cell)then(n,zDU)else(n,k)).lookup x=some .free):=by
  intro names;induction names with
  |nil=>intro h;simp at h
  |cons y r ih=>
   obtain⟨n,k⟩:=y;intro h;rw[zAD];by_cases hx:x==n
   .rw[zA6,hx]at h
    have hk:k= .free:=zAs h;by_cases hcc:(k==zCE&&env.scope.kind== .function&&env.kindOf n==some .cell)=true
    .simp only[if_pos hcc,zA6,hx]
     exact .inl trivial
    .simp only[if_neg hcc,zA6,hx]
     exact .inr (by rw[hk])
   .have hx':(x==n)=false:=by simpa using hx
    rw[zA6,hx']at h;by_cases hcc:(k==zCE&&env.scope.kind== .function&&env.kindOf n==some .cell)=true
    .simp only[if_pos hcc,zA6,hx']
     exact ih h
    .simp only[if_neg hcc,zA6,hx']
     exact ih h
 exact go scope.names h
section
variable{X:Cx}{kX:hZ}{Z:St}{H:Hp}{s:zAF}
theorem Inv.block{st:St->St}{D C:Addr}(I:Inv X kX Z H s)(B:fJ X scope N st ks)
  (hfp:∀b∈fp,qz X kX H b)(hob:∀b∈fp,∃ob,s.heap.get? b=some ob)
  (hD:s.heap.objs.size<=D)(hC:s.heap.objs.size<=C)(hDC:D≠C)(keep:∀b u,s.heap.get? b=some u->h'.get? b=some u)(hns:h'.Ns C λ _=>none)(hcs:CellsOk h' (C+1) (uI scope C))(hDo:∀c,C<c->D≠c)(aS:bM X.prog X.w (upd H D o) h' D o):
  Inv (X.block scope C N fp s H) [] (st Z) (upd H D o) {s with heap:=h',toks:=tk}:=by
 have hHD:H D=none:=I.hok.fresh hD;have hcl:∀x c,(bT scope X.env).lookup x=some c->X.env.cells.lookup x=some c:=λ x c e=>uA e
 have hol:∀x c,(uI scope C).lookup x=some c->C<c/\h'.IsCell c none:=λ x c e=>let⟨q1,q2⟩:=hcs.empty x c (zAy e);⟨q2,q1⟩
 have hlt:∀x c,(bT scope X.env).lookup x=some c->c<s.heap.objs.size:=λ x c e=>let⟨v,ic⟩:=I.cell x c (hcl x c e);ic.lt
 have bX:∀b∈fp,b<s.heap.objs.size:=λ b hb=>by
  obtain⟨ob,e⟩:=hob b hb;exact zAR e
 refine⟨⟨I.mod,?_,I.ok.glob,I.ok.blt,hC,λ x y c e1 e2=>?_,λ x hx=>?_,λ x c hf e=>?_,I.ok.hd,I.ok.frames,.inl rfl,λ b hb=>⟨?_,λ x c e z=>?_⟩,
  I.bs,?_,λ b ob e hb=>?_,λ b hb hs=>?_,I.stack,I.stkFree⟩,rfl,I.bare,Un.laid keep hD hHD,⟨_,hns,λ i x v e1 e2 hv=>?_⟩,λ x c e=>?_,?_,λ x c e=>?_,λ p hp=>absurd (show p∈([]:hZ)from hp) (by simp),I.hok.laid keep hD aS,B.len Z,λ p hp=>absurd (show p∈([]:hZ)from hp) (by simp)⟩
 .show(zGF scope X.env).kind= .function
  exact B.kind
 .rcases jr e1 with a1|⟨_,a1⟩<;>rcases jr e2 with a2|⟨_,a2⟩
  .exact PySem.name_of_addr hcs.apart (zAy a1) (zAy a2)
  .exact absurd (hlt y c a2) (zG1.mpr (zAn hC (zBZ (hol x c a1).1)))
  .exact absurd (hlt x c a1) (zG1.mpr (zAn hC (zBZ (hol y c a2).1)))
  .exact I.ok.inj x y c (hcl x c a1) (hcl y c a2)
 .show∃c,(uI scope C++bT scope X.env).lookup x=some c
  rw[zDu];cases e:(uI scope C).lookup x with
  |some c=>exact⟨c,rfl⟩
  |none=>
   rcases zU hx with hfree|hcell
   .obtain⟨c,hc⟩:=I.ok.has x (B.free (x,.free) (zAy hfree) rfl)
    exact⟨c,aBd hfree hc⟩
   .obtain⟨c,hc⟩:=qd (n:=C+1) hcell
    rw[show(uI scope C).lookup x=some c from hc]at e;cases e
 .rcases jr e with a1|⟨a0,_⟩
  .exact zAn hC (zBZ (hol x c a1).1)
  .obtain⟨c',hc'⟩:=qd (n:=C+1) (zIH hf)
   rw[show(uI scope C).lookup x=some c' from hc']at a0;cases a0
 .exact zA1 (zAW (bX b hb) hC)
 .rcases jr e with a1|⟨_,a1⟩
  .exact absurd (bX b hb) (zG1.mpr (by rw[<-z];exact zAn hC (zBZ (hol x c a1).1)))
  .exact(hfp b hb).2.2.2.2.1 x c (hcl x c a1) z
 .exact zAn I.ok.bsz I.sz
 .rcases(hfp b hb).2.2.2.1 with z|z
  .exact I.ok.noex b ob e z
  .exact absurd (zAW (zAR (I.ok.bs b ob e).1) z) (zBQ _)
 .rcases zAT.mp (I.stkSub b hs)with z|z
  .exact(hfp b hb).2.1 z
  .exact(hfp b hb).2.2.1 z
 .obtain⟨hfree,_,j,f1,f2⟩:=B.val Z i x v e1 e2
  obtain⟨m,hn,hl⟩:=I.loc;have hk:=B.free (x,.free) (zAy hfree) rfl;obtain⟨u,ru,hu⟩:=hl j x v f1 f2 (hk.elim (λ z=>.inr (.inl z)) λ z=>.inr (.inr z));rcases hu with ⟨k,_⟩|⟨_,c,ec,ic⟩
  .rcases hk with z|z
   .exact absurd (k.symm.trans z) (by decide)
   .exact absurd (k.symm.trans z) (by decide)
  .have hno:(uI scope C).lookup x=none:=by
    cases e:(uI scope C).lookup x with
    |none=>rfl
    |some c'=>
     have:=B.sep _ (pP (zAy e)) rfl
     rw[hfree]at this;cases this
   refine⟨u,ru,.inr ⟨?_,c,by show(uI scope C++bT scope X.env).lookup x=some c;rw[zDu,hno];exact aBd hfree ec,ic.keeps keep⟩⟩;rcases hv with z|z|z
   .have z':(zGF scope X.env).names.lookup x=some .local:=z
    rcases zV (env:=X.env) hfree with y|y
    .exact absurd (z'.symm.trans y) (by decide)
    .exact absurd (z'.symm.trans y) (by decide)
   .exact .inl z
   .exact .inr z
 .rcases jr e with a1|⟨_,a1⟩
  .exact⟨_,(hol x c a1).2⟩
  .obtain⟨v,ic⟩:=I.cell x c (hcl x c a1)
   exact⟨v,ic.keeps keep⟩
 .show upd H D o C=none
  rw[aQ (zDV hDC)];exact I.hok.fresh hC
 .show upd H D o c=none
  rcases jr e with a1|⟨_,a1⟩
  .rw[aQ (zDV (hDo c (hol x c a1).1))]
   exact I.hok.fresh (zAn hC (zBZ (hol x c a1).1))
  .obtain⟨v,ic⟩:=I.cell x c (hcl x c a1)
   rw[aQ (zA1 (zAW ic.lt hD))];exact I.freeC x c (hcl x c a1)
end
section
variable{prog:zAV}{w:World}{A:zAc}{R:zER->zAF->Prop}{s:zAF}
def aAJ(I:Nat->zAF->Prop)
  (turn:∀n s,I n s->wpAny (model prog w) A (zDg it) (λ r zI=>match r with
   |none=>R (.ok .next) zI
   |some v=>wpAny (model prog w) A (zDJ target it v) (λ _ zI=>wpAny (model prog w) A (zEh target env v) (λ _ z5=>
     wpAny (model prog w) A (forIn ifs true λ c r=>if r=true then do let ok <-isTrue c env (eval c env);pure (zBf ok)else pure (zBf r)) (λ ok zC=>
      if ok=true then wpAny (model prog w) A (eval elt env) (λ x y3=>
       wpAny (model prog w) A (call (.builtin "list.append") [acc,x]) (λ _ s₅=>∃m,m<n/\I m s₅) (λ _ _=>False) y3) (λ _ _=>False) zC
      else∃m,m<n/\I m zC) (λ _ _=>False) z5) (λ _ _=>False) zI) (λ _ _=>False) zI) (λ _ _=>False) s)
  (n:Nat)(h:I n s):zCR (model prog w) A (.compLoop (.ListComp elt [⟨target,iter,ifs,0⟩] scope pos) 0 it acc env) R s:=by
 refine codeAny_loop rfl I (λ n s hI=>?_) n h;show wpAny _ A ((compTurn (.ListComp elt [⟨target,iter,ifs,0⟩] scope pos) 0 it acc env).onRaise (λ x=>do noteFrame x env;theTreesLotGoes x)) _ _ s;refine wpAny_noted ?_;rw[compTurn_list];refine zAB (zDy (zAB (zBX (turn n s hI) (λ r zI zD=>?_) λ _ _ h'=>h'.elim)));cases r with
 |none=>exact zAG zD
 |some v=>
  refine zAB (zBX zD (λ _ zI zD=>?_) λ _ _ h'=>h'.elim);refine zAB (zBX zD (λ _ z5 y8=>zAB (zBX y8 (λ ok zC y0=>?_) λ _ _ h'=>h'.elim)) λ _ _ h'=>h'.elim);cases ok with
  |false=>exact zAG ⟨rfl,y0⟩
  |true=>
   exact zAB (zAB (zBX y0 (λ x y3 h₄=>zAB (zBX h₄ (λ _ s₅ h₅=>zAG (zAG ⟨rfl,h₅⟩)) λ _ _ h'=>h'.elim)) λ _ _ h'=>h'.elim))
end
def qy(g:TG)(ks:List Nat):Prop:=∀v Z H (Q:St->Hp->Prop),g v Z H Q->g v Z H (λ Z' H'=>Q Z' H'/\Z'.length=Z.length/\∀k,k∉ks->Z'[k]? =Z[k]?)
def wu(g:TGs)(ks:List Nat):Prop:=∀vs Z H (Q:St->Hp->Prop),g vs Z H Q->g vs Z H (λ Z' H'=>Q Z' H'/\Z'.length=Z.length/\∀k,k∉ks->Z'[k]? =Z[k]?)
def aJD(h:i∈ks):qy (tU i) ks:=λ v Z H Q q=>⟨q,zB7,λ k hk=>zB8 (λ(e:i=k)=>hk (e▸h))⟩
def aJC:wu aLe ks:=λ vs Z H Q ⟨e,q⟩=>⟨e,q,rfl,λ _ _=>rfl⟩
def aBn(g:TG):Prop:=∀v Z H (Q Q':St->Hp->Prop),(∀Z' H',Q Z' H'->Q' Z' H')->g v Z H Q->g v Z H Q'
def sr(g:TGs):Prop:=∀v Z H (Q Q':St->Hp->Prop),(∀Z' H',Q Z' H'->Q' Z' H')->g v Z H Q->g v Z H Q'
def aJF:aBn (tU i):=λ v Z H Q Q' imp q=>imp _ _ q
def aJE:sr aLe:=λ v Z H Q Q' imp ⟨e,q⟩=>⟨e,imp _ _ q⟩
def aGz(h1:aBn t)(h2:sr u):sr (aHB t u):=λ vs Z H Q Q' imp ⟨v,r,e,q⟩=>⟨v,r,e,h1 _ _ _ _ _ (λ Z' H' q'=>h2 _ _ _ _ _ imp q') q⟩
def aGw(h1:qy t ks)(m1:aBn t)(h2:wu u ks)(m2:sr u):wu (aHB t u) ks:=λ vs Z H Q ⟨v,r,e,q⟩=>
 ⟨v,r,e,m1 _ _ _ _ _ (λ Z' H' ⟨q',l',k'⟩=>m2 _ _ _ _ _ (λ Z2 H2 ⟨q2,l2,k2⟩=>⟨q2,l2.trans l',λ k hk=>(k2 k hk).trans (k' k hk)⟩) (h2 _ _ _ _ q')) (h1 _ _ _ _ q)⟩
def aLc{K:zAA}(h:wu t ks):qy (aJG K n t) ks:=λ v Z H Q ⟨a,xs,e1,e2,e3,q⟩=>⟨a,xs,e1,e2,e3,h _ _ _ _ q⟩
def aLd{K:zAA}(h:sr t):aBn (aJG K n t):=λ v Z H Q Q' imp ⟨a,xs,e1,e2,e3,q⟩=>⟨a,xs,e1,e2,e3,h _ _ _ _ _ imp q⟩
def aBl(X:Cx)(ifs:List Expr)(t:TT):Prop:=
 ∀(kX:hZ) (s:zAF) (Z:St) (H:Hp) (Q:Bool->Hp->Prop),Inv X kX Z H s->t Z H Q->
  wpAny (model X.prog X.w) X.A (forIn ifs true λ c r=>if r=true then do let ok <-isTrue c X.env (eval c X.env);pure (zBf ok)else pure (zBf r)) (TP X kX Z Q) X.xe s
def aNM:TT:=λ _ H Q=>Q true H
def aKr:aBl X [] aNM:=λ _ _ _ H _ I h=>wpAny_tests_nil ⟨H,I,h⟩
def aKq(h:PT X c t):aBl X [c] t:=λ kX s Z H Q I q=>wpAny_tests_one (h kX s Z H Q I q)
def tLC(wi:TI)(st:St->St)(g:TG)(tt:TT)(te:TE):TE:=λ Z H Q=>wi Z H λ J H1=>∀l,H1 l=none->∃W:Nat->Nat->List V->Hp->Prop,(∃m,W 0 m [] (upd H1 l (.lst [])))/\
 ∀i m acc H2,W i m acc H2->H2 l=some (.lst acc)/\acc.length<zAQ/\((J.stop i H2/\Q (.ref l) H2)\/(J.go i H2/\∀x H3,J.yld i H2 x H3->g x (st Z) H3 λ Z4 H4=>tt Z4 H4 λ ok H5=>
  if ok=true then te Z4 H5 λ y H6=>H6 l=some (.lst acc)/\∃m',m'<m/\W (i+1) m' (acc++[y]) (upd H6 l (.lst (acc++[y])))else∃m',m'<m/\W (i+1) m' acc H5))
section
variable{X:Cx}{elt tg iter:Expr}{ifs:List Expr}{scope:Scope}{pos:Pos}{N:List Str}{st:St->St}{ks:List Nat}{wi:TI}{g:TG}{tt:TT}{te:TE}
def aBO(B:fJ X scope N st ks)(hc:X.calm=true)(hg:∀C fp z4 zS,PG (X.block scope C N fp z4 zS) tg g)(hgo:qy g ks)(ht:∀C fp z4 zS,aBl (X.block scope C N fp z4 zS) ifs tt)
  (he:∀C fp z4 zS,PE (X.block scope C N fp z4 zS) elt te){H1:Hp}{Q:VK}{RR:Value->Addr->zER->zAF->Prop}
  (I:Inv X kX Z H1 z5)(T:Turn X.prog X.w X.K tg J fp it tn)(h0:tn 0 z5.heap)(hfp:∀b∈fp,qz X kX H1 b)
  (h:∀l,H1 l=none->∃W:Nat->Nat->List V->Hp->Prop,(∃m,W 0 m [] (upd H1 l (.lst [])))/\
   ∀i m acc H2,W i m acc H2->H2 l=some (.lst acc)/\acc.length<zAQ/\((J.stop i H2/\Q (.ref l) H2)\/(J.go i H2/\∀x H3,J.yld i H2 x H3->g x (st Z) H3 λ Z4 H4=>tt Z4 H4 λ ok H5=>
    if ok=true then te Z4 H5 λ y H6=>H6 l=some (.lst acc)/\∃m',m'<m/\W (i+1) m' (acc++[y]) (upd H6 l (.lst (acc++[y])))else∃m',m'<m/\W (i+1) m' acc H5)))
  (hRR:∀D C H' s',(∃Z',Inv (X.block scope C N fp z5 H1) [] Z' H' s')->z5.heap.objs.size<=C->Q (.ref D) H'->RR (.ref D) C (.ok .next) s'):
  wpAny (model X.prog X.w) X.A (zFU []) (λ acc zC=>wpAny (model X.prog X.w) X.A (zFN scope X.env.globals (bT scope X.env) [] X.env.qual none .none (some X.env)) (λ cenv y3=>
   zCR (model X.prog X.w) X.A (.compStart (.ListComp elt [⟨tg,iter,ifs,0⟩] scope pos) 0 (.ref it) acc {cenv with scope:=zGF scope X.env}) (RR acc cenv.locals) y3) E zC) E z5:=by
 refine zBC (aDZ λ zD y7 y9 y6=>?_);dsimp only at y7 y9 y6 ⊢;generalize hH2:z5.heap.push {cls:=.type "list",dict:=none,data:=.seq ([]:List Value).toArray}=P2 at y7 y9 y6 ⊢;have hC:P2.objs.size=z5.heap.objs.size+1:=by rw[<-hH2,zBD]
 have hDC:z5.heap.objs.size≠P2.objs.size:=by rw[hC];exact zA1 (zBb _)
 have oQ:z5.heap.objs.size<=P2.objs.size:=by rw[hC];exact zCm _
 have old:∀b o,z5.heap.get? b=some o->zD.get? b=some o:=λ b o e=>y9 b o (hH2▸zAC _ e)
 have aS:zD.get? z5.heap.objs.size=some {cls:=.type "list",dict:=none,data:=.seq ([]:List Value).toArray}:=y9 _ _ (hH2▸zAJ _ rfl);generalize hCe:P2.objs.size=C at y7 y9 y6 hDC oQ hC ⊢;have hHD:H1 z5.heap.objs.size=none:=I.hok.fresh (zAS _);have I0:Inv (X.block scope C N fp z5 H1) [] (st Z) (upd H1 z5.heap.objs.size (.lst [])) {z5 with heap:=zD,toks:=z5.toks}:=
  I.block B hfp (λ b hb=>by obtain⟨o,e,_⟩:=T.obj 0 _ h0 b hb;exact⟨o,e⟩) (zAS _) oQ hDC old y7 y6 (λ c hc=>zA1 (zHh oQ hc)) ⟨zAf _,[],0,.nil,aS⟩
 obtain⟨W,⟨m0,w0⟩,step⟩:=h _ hHD;have h01:tn 0 zD:=T.keep 0 _ _ h0 λ b _ o e=>old b o e
 have aI:∀{H':Hp},(∀b∈fp,H' b=none)->∀b∈fp,qz (X.block scope C N fp z5 H1) [] H' b:=λ{H'} hn b hb=>
  ⟨hn b hb,(I0.ok.exf b hb).1,I0.ok.exfs b hb,.inl hb,λ x c e=>(I0.ok.exf b hb).2 x c e,λ p hp=>absurd (show p∈([]:hZ)from hp) (by simp)⟩
 have fr0:∀b∈fp,upd H1 z5.heap.objs.size (.lst []) b=none:=λ b hb=>by
  obtain⟨o,e,_⟩:=T.obj 0 _ h0 b hb;rw[aQ (zA1 (zAR e))];exact(hfp b hb).1
 have loop:∀zC:zAF,zC={z5 with heap:=zD,toks:=z5.toks}->
   zCR (model X.prog X.w) X.A (.compLoop (.ListComp elt [⟨tg,iter,ifs,0⟩] scope pos) 0 (.ref it) (.ref z5.heap.objs.size) (X.block scope C N fp z5 H1).env) (RR (.ref z5.heap.objs.size) C) zC:=by
  rintro zC rfl;refine aAJ (λ n s'=>∃i acc H2,Inv (X.block scope C N fp z5 H1) [] (st Z) H2 s'/\tn i s'.heap/\(∀b∈fp,H2 b=none)/\W i n acc H2) ?_ m0 ⟨0,[],_,I0,h01,fr0,w0⟩;rintro n s3 ⟨i,acc,H2,I2,st2,fr2,w2⟩;obtain⟨hl,hz,alt⟩:=step i n acc H2 w2;rcases alt with ⟨stop,q⟩|⟨go,nxt⟩
  .refine thn (T.done (X.block scope C N fp z5 H1) rfl rfl rfl hc i [] s3 (st Z) H2 _ I2 (aI fr2) st2 stop) λ r s4 ⟨hr,I4⟩=>?_
   subst hr;exact hRR _ C H2 s4 ⟨_,I4⟩ oQ q
  .refine thn (T.item (X.block scope C N fp z5 H1) rfl rfl rfl hc i [] s3 (st Z) H2 _ I2 (aI fr2) st2 go) λ r s4 ⟨u,hr,h4⟩=>?_
   subst hr;refine thn h4 λ _ s5 ⟨x,H5,I5,r5,y5,st5,fr5⟩=>?_
   have I5':=I5.pinned (aI fr5) (T.obj _ _ st5);refine thn (hg C fp z5 H1 _ s5 (st Z) H5 x u _ I5' r5 (hgo _ _ _ _ (nxt x H5 y5))) λ _ s6 ⟨Z6,H6,I6,q6,aIl,ag6⟩=>?_
   refine thn (ht C fp z5 H1 _ s6 Z6 H6 _ I6 q6) λ ok s7 ⟨H7,I7,q7⟩=>?_
   have again:∀{H9:Hp} {s9:zAF} {acc':List V},Inv (X.block scope C N fp z5 H1) ([]++rP fp s5.heap) Z6 H9 s9->(∃m',m'<n/\W (i+1) m' acc' H9)->
     ∃m,m<n/\∃i acc H2,Inv (X.block scope C N fp z5 H1) [] (st Z) H2 s9/\tn i s9.heap/\(∀b∈fp,H2 b=none)/\W i m acc H2:=λ{H9 s9 acc'} I9 ⟨m',hm,w9⟩=>by
    have cE:∀b∈fp,∀o,s5.heap.get? b=some o->s9.heap.get? b=some o/\H9 b=none:=λ b hb o e=>by
     have z:=I9.pin (b,o) (zAd _ (zAd _ (lL hb e)));exact⟨z.1,z.2.1⟩
    refine⟨m',hm,i+1,acc',H9,I9.unpinned.weak (by rw[aIl]) (λ k v e=>?_),T.keep _ _ _ st5 λ b hb o e=>(cE b hb o e).1,λ b hb=>?_,w9⟩
    .have hk:k<(st Z).length:=(zAP.mp e).1
     have hkN:k<N.length:=by rw[<-B.len Z];exact hk
     obtain⟨_,hks,_⟩:=B.val Z k _ v (zAH hkN) e;rw[ag6 k hks];exact e
    .obtain⟨o,e,_⟩:=T.obj _ _ st5 b hb
     exact(cE b hb o e).2
   cases ok with
   |false=>
    rw[if_neg zA0]at q7 ⊢;exact again I7 q7
   |true=>
    rw[if_pos rfl]at q7 ⊢;refine thn (he C fp z5 H1 _ s7 Z6 H7 _ I7 q7) λ u8 s8 ⟨y,H8,I8,r8,hl8,q8⟩=>?_
    refine thn (yL _ s8 Z6 H8 (.ref z5.heap.objs.size) [y] (.ref z5.heap.objs.size) [u8] (λ _ H9=>H9=upd H8 z5.heap.objs.size (.lst (acc++[y]))) I8 rfl (.cons r8 .nil) ⟨_,acc,y,rfl,rfl,hl8,hz,rfl⟩) λ _ s9 ⟨_,H9,I9,_,e9⟩=>?_
    subst e9;exact again I9 q8
 exact codeAny_compStart_list (loop _ rfl) (T.self X.A 0 _ _ _ h01 (loop _ rfl))
def aAR(I:Inv X kX Z H1 z5)(hfp:∀b∈fp,qz X kX H1 b)(h:∃Z',Inv (X.block scope C N fp z5 H1) [] Z' H' s'):Inv X kX Z H' s':=by
 obtain⟨Z',J⟩:=h;exact I.call' (ch:=fp) J.os J.base J.hok J.bare λ b hb=>⟨(hfp b hb).2.2.2.1,(hfp b hb).2.1,(hfp b hb).2.2.2.2.1,(hfp b hb).2.2.2.2.2⟩
def aM2(B:fJ X scope N st ks)(hc:X.calm=true)(hi:PI X tg iter wi)(hg:∀C fp z4 zS,PG (X.block scope C N fp z4 zS) tg g)(hgo:qy g ks)(ht:∀C fp z4 zS,aBl (X.block scope C N fp z4 zS) ifs tt)
  (he:∀C fp z4 zS,PE (X.block scope C N fp z4 zS) elt te)(hs:∀x,zBl iter X.env x=pure x:=by intro _;rfl):PE X (.ListComp elt [⟨tg,iter,ifs,0⟩] scope pos) (tLC wi st g tt te):=by
 intro kX s Z H Q I h;have hcl:zGE scope X.env=pure (bT scope X.env):=jf λ y hy hk=>I.ok.has _ (B.free y hy hk)
 rw[eval_ListComp];refine zE3 (use:=none) rfl hs hcl B.kind B.loc (thn (hi kX s Z H _ I h) λ v s1 h1=>thn h1 λ itv s2 h2=>?_);obtain⟨it,fp,tn,J,H2,e,I2,T,st2,f2,hq⟩:=h2;subst e;refine aBO (RR:=λ acc C=>compPost (model X.prog X.w) X.A X.xe none (EP X kX Z Q) acc C) B hc hg hgo ht he I2 T st2 f2 hq ?_;intro D C H' s' hJ oQ q;have I3:=aAR I2 f2 hJ;obtain⟨Z',J'⟩:=hJ;obtain⟨m,hn,_⟩:=id J'.loc;have hHC:H' C=none:=J'.free;refine⟨m,hn,λ h'' hs''=>⟨.ref D,H',?_,rfl,q⟩⟩;exact I3.turned (t':=s'.toks) (λ b o ne e=>(hs''.2 b ne).trans e) hHC (zB4 (zAW I2.lt oQ)) (.inr (zAn I2.sz oQ))
  (λ x c e z=>by obtain⟨v,ic⟩:=I2.cell x c e;exact absurd (zAW ic.lt (by rw[z];exact oQ)) (zBQ _))
  (λ p hp z=>absurd (zAW (I2.pinL hp) (by rw[z];exact oQ)) (zBQ _))
def aFv(hN:X.N.Nodup)(hx1:X.N[i]? =some x)(hx2:Loc X.env.scope x)(B:fJ X scope N st ks)(hc:X.calm=true)(hi:PI X tg iter wi)(hg:∀C fp z4 zS,PG (X.block scope C N fp z4 zS) tg g)(hgo:qy g ks)
  (ht:∀C fp z4 zS,aBl (X.block scope C N fp z4 zS) ifs tt)(he:∀C fp z4 zS,PE (X.block scope C N fp z4 zS) elt te)(hsw:zC3 (.ListComp elt [⟨tg,iter,ifs,0⟩] scope pos) (some (.Name x pos')) spos.line X.env=pure true)
  (hs:∀x,zBl iter X.env x=pure x:=by intro _;rfl)(hf:X.fn x=true\/X.env.scope.names.lookup x=some .local:=by first|exact .inl rfl|exact .inr rfl|assumption):
  PS X (.Assign [.Name x pos'] (.ListComp elt [⟨tg,iter,ifs,0⟩] scope pos) spos) (aEA (tLC wi st g tt te) (tU i)):=by
 intro kX s Z H D I h;have hcl:zGE scope X.env=pure (bT scope X.env):=jf λ y hy hk=>I.ok.has _ (B.free y hy hk)
 rw[exec_Assign_Name_used _ _ _ _ hsw];refine zAB (zDy (zAB ?_));show wpAny _ _ (do let _ <-comprehension (.ListComp elt [⟨tg,iter,ifs,0⟩] scope pos) scope X.env _ (zFU []) false (eval iter X.env) (some (zEh (.Name x pos') X.env))) _ _ s;refine zAB (zBX (zE3 (use:=some (zEh (.Name x pos') X.env)) (Q:=λ _ s'=>SP X kX D .next s') rfl hs hcl B.kind B.loc (thn (hi kX s Z H _ I h) λ v s1 h1=>thn h1 λ itv s2 h2=>?_)) (λ _ s' hq=>zAG (zAG hq)) λ _ _ e=>e);obtain⟨it,fp,tn,J,H2,e,I2,T,st2,f2,hq⟩:=h2;subst e;refine aBO (Q:=λ x H1=>tU i x Z H1 D.nx) (RR:=λ acc C=>compPost (model X.prog X.w) X.A X.xe (some (zEh (.Name x pos') X.env)) (λ _ s'=>SP X kX D .next s') acc C) B hc hg hgo ht he I2 T st2 f2 hq ?_;intro DD C H' s' hJ oQ q;have I3:=aAR I2 f2 hJ;obtain⟨Z',J'⟩:=hJ;obtain⟨m,hn,_⟩:=id J'.loc;have hHC:H' C=none:=J'.free;have neL:C≠X.env.locals:=zB4 (zAW I2.lt oQ);have neC:∀x c,X.env.cells.lookup x=some c->c≠C:=λ x c e z=>by obtain⟨v,ic⟩:=I2.cell x c e;exact absurd (zAW ic.lt (by rw[z];exact oQ)) (zBQ _)
 show wpAny _ _ (zEh (.Name x pos') X.env (.ref DD)) _ _ _;refine zIv ?_;refine xr I3 hN hx1 hx2 (show RelV (.ref DD) (.ref DD)from rfl) (λ s4 I4 ⟨a,hsa,ha⟩=>?_) hf;have nea:C≠a:=by
  rcases ha with z|z
  .rw[z];exact neL
  .exact zDV (neC _ _ z)
 refine⟨m,hn.sameBut hsa nea,λ h'' hs''=>⟨_,H',?_,q⟩⟩;exact I4.turned (t':=s4.toks) (λ b o ne e=>(hs''.2 b ne).trans e) hHC neL (.inr (zAn I2.sz oQ)) neC
  (λ p hp z=>absurd (zAW (I2.pinL hp) (by rw[z];exact oQ)) (zBQ _))
end
def CX1(P:zAV)(w:World):CXT:=λ outer H s E e s'=>∃(ea:Addr) (cls a0:Value) (B:Heap) (H':Hp),e= .ref ea/\s'.os=s.os/\zEo s'.gens/\Un (frs outer) [] H H' s.heap s'.heap/\HOk P w H' B/\Heap.FlyingW B outer ea cls a0 s'.heap/\
 (∀b o,s.heap.get? b=some o->H b=none->b∉frs outer->B.get? b=some o)/\(∀b o,s.heap.get? b=some o->b∉frs outer->∃o',B.get? b=some o')/\E cls none H'
structure gA(X:Cx)(E:XK):Prop where
 stk:X.stack=X.env::X.outer
 fr:X.env.frame=some X.env.locals
 ex:X.ex=[]
 xe:X.xe=λ e s'=>wpAny (model X.prog X.w) X.A (leaving X.env e) (λ _ s''=>CX1 X.prog X.w X.outer X.zS X.z4 E e s'') (λ e' s''=>CX1 X.prog X.w X.outer X.zS X.z4 E e' s'') s'
def gA.of{K:zAA}:
  gA (aAI (CX1 P w) P w K mg base N qual scope f cd A outer z4 zS E) E:=⟨rfl,rfl,rfl,rfl⟩
section
variable{X:Cx}{E:XK}
def aHE{B h':Heap}(hX:X.ex=[])(I:Inv X kX Z H s)
  (a1:∀b o,s.heap.get? b=some o->H b=none->b∉frs X.stack->B.get? b=some o)(a2:∀b o,s.heap.get? b=some o->b∉frs X.stack->∃o',B.get? b=some o')
  (a3:B.StaysIn h')(a4:∀b o,b∈frs X.outer->s.heap.get? b=some o->H b=none->(∀vs,o.data≠.fields vs)->∃sl,h'.get? b=some {o with slots:=sl})
  (a5:∀b o,s.heap.get? b=some o->H b=none->H' b=none)(a6:∀b xs,H b=some (.tup xs)->H' b=some (.tup xs))(a7:∀b o u,H b=some (.frz o u)->H' b=some (.frz o u))(a8:∀b q,H b=some (.tbl q)->H' b=some (.tbl q)):
  Un (frs X.outer) [] X.zS H' X.z4.heap h'/\(∀b o,X.z4.heap.get? b=some o->X.zS b=none->b∉frs X.outer->B.get? b=some o)/\(∀b o,X.z4.heap.get? b=some o->b∉frs X.outer->∃o',B.get? b=some o'):=by
 have nx:∀b,b∉X.ex:=λ b z=>by rw[hX]at z;cases z
 have noS:∀b o,X.z4.heap.get? b=some o->b∉frs X.outer->b∉frs X.stack:=λ b o e nf hb=>by
  rcases zAT.mp (I.stkSub b hb)with z|z
  .exact absurd z (zA1 (zAW (zAR e) I.ok.above))
  .exact nf z
 have bk:∀b o,X.z4.heap.get? b=some o->X.zS b=none->b∉frs X.outer->B.get? b=some o:=λ b o e n nf=>
  a1 b o (I.base.keep b o e n nf (nx b)) (I.base.free b o e n (nx b)) (noS b o e nf)
 have ba:∀b o,X.z4.heap.get? b=some o->b∉frs X.outer->∃o',B.get? b=some o':=λ b o e nf=>by
  obtain⟨o1,e1⟩:=I.base.there b o e (nx b);exact a2 b o1 e1 (noS b o e nf)
 have sl:∀b o,X.z4.heap.get? b=some o->X.zS b=none->b∈frs X.outer->∃sl,h'.get? b=some {o with slots:=sl}:=λ b o e n hb=>by
  obtain⟨sl1,e1⟩:=I.base.slot b o e n hb (nx b);obtain⟨_,o2,ho2,hnf⟩:=I.ok.funs.mem hb;rw[e]at ho2;cases ho2;obtain⟨sl2,e2⟩:=a4 b _ hb e1 (I.base.free b o e n (nx b)) hnf;exact⟨sl2,e2⟩
 refine⟨⟨λ b o e n nf _=>a3 b o (bk b o e n nf),λ b o e n hb _=>sl b o e n hb,λ b o e n _=>?_,λ b o e _=>?_,λ b xs e=>a6 b xs (I.base.tups b xs e),λ b o u e=>a7 b o u (I.base.frzs b o u e),λ b q e=>a8 b q (I.base.tbls b q e)⟩,bk,ba⟩
 .obtain⟨o1,e1⟩:=I.base.there b o e (nx b)
  exact a5 b o1 e1 (I.base.free b o e n (nx b))
 .by_cases hb:b∈frs X.outer
  .obtain⟨s2,e2⟩:=sl b o e (I.ok.frf b hb) hb
   exact⟨_,e2⟩
  .obtain⟨o',e'⟩:=ba b o e hb
   exact⟨o',a3 b o' e'⟩
def gA.pass(D:gA X E):aAW (CX1 X.prog X.w) X E:=by
 intro kX Z H s e s' I h;obtain⟨ea,cls,a0,B,H',rfl,os,bare,un,hok,fly,bk,ba,hE⟩:=h;rw[D.xe];have fly':=fly;rw[D.stk]at fly';have hfr:=I.ok.frames;rw[D.stk]at hfr;refine wpAny_leaves_onW (L:=X.env.locals) hfr D.fr fly' λ h' fl up=>?_
 have a4:∀b o,b∈frs X.outer->s.heap.get? b=some o->H b=none->(∀vs,o.data≠.fields vs)->∃sl,h'.get? b=some {o with slots:=sl}:=λ b o hb e n nf=>by
  have hb':b∈frs X.stack:=by
   rw[D.stk];unfold frs;rw[zB3,D.fr];exact zAL _ hb
  obtain⟨s1,e1⟩:=un.slot b o e n hb' (λ z=>nomatch z);obtain⟨s2,e2⟩:=up b _ e1 nf;exact⟨s2,e2⟩
 obtain⟨u1,u2,u3⟩:=aHE (B:=B) (h':=h') (H':=H') D.ex I bk ba fl.1 a4 (λ b o e n=>un.free b o e n (λ z=>nomatch z)) un.tups un.frzs un.tbls;exact⟨ea,cls,a0,B,H',rfl,os.trans I.os,bare,u1,hok,fl,u2,u3,hE⟩
def gA.raise(D:gA X E){ea:Addr}(I:Inv X kX Z H s)
  (hx:Heap.MadeExcOf s.heap h1 ea cls vs)(hE:E cls none H):X.xe (.ref ea) {s with heap:=h1}:=by
 rw[D.xe];have stk:s.heap.FunFrames X.base X.stack:=I.stack;have hin:∀env∈X.stack,∀a,env.frame=some a->a∈frs X.stack:=λ env he a ha=>zBp.mpr ⟨env,he,ha⟩
 have stk2:=PySem.W.funFrames_hide stk hin;have hfr:=I.ok.frames;rw[D.stk]at hfr;have stk3:s.heap.FunFrames (zD7 s.heap (frs X.stack)) (X.env::X.outer):=by rw[<-D.stk];exact stk2
 refine wpAny_leaves_madeW (L:=X.env.locals) (base:=zD7 s.heap (frs X.stack)) hfr D.fr (λ b o q=>zGm _ q) stk3 hx λ h' t fl tup bn up=>?_
 have hok:HOk X.prog X.w H (zD7 s.heap (frs X.stack)):=λ a o e=>by
  refine(I.hok a o e).stay (λ b u hb q=>zD8 _ q λ hm=>?_) (λ _ z=>z) λ _ _ z=>z
  have hn:=I.stkFree b hm;rcases hb with z|z
  .rw[z,e]at hn;cases hn
  .rw[z]at hn;cases hn
 obtain⟨u1,u2,u3⟩:=aHE (B:=zD7 s.heap (frs X.stack)) (h':=h') (H':=H) D.ex I (λ b o e n nf=>zD8 _ e nf) (λ b o e nf=>⟨o,zD8 _ e nf⟩) fl.1
  (λ b o hb e n nf=>up b o (hx.keeps b o e) nf) (λ b o e n=>n) (λ _ _ e=>e) (λ _ _ _ e=>e) (λ _ _ e=>e)
 exact⟨ea,cls,.ref t,_,H,rfl,I.os,I.bare,u1,hok,fl,u2,u3,hE⟩
def gA.own(D:gA X E):zIC (model X.prog X.w) X.A X.env X.xe:=λ e s' h=>by
 rw[D.xe]at h ⊢;exact wpAny_leaving_again (SameStack.refl _) h
end
section
variable{P:zAV}{w:World}{K:zAA}{mg:Str->Option Value}{base:Heap}
def Fun.okX{st:Stmt}(F:Fun K x q st f fd)(S:aY N ps (aM st))(len:∀vs H Q E,sp vs H Q E->vs.length=ps.length)
  (hbody:∀(cdv:Value) (A:zAc) (outer:List Env) (s:zAF) (H:Hp) (vs:List V) (Q:VK) (E:XK),jN k (A.deeper (zE1 q (aM st) s.heap.objs.size f cdv))->sp vs H Q E->
   ∃t,PSs (aAI (CX1 P w) P w K mg base N q (aM st) f cdv A outer s H E) (fO st) t/\t {nx:=λ _ H'=>Q .non H',rt:=Q} (start N vs) H):cA P w K mg base (CX1 P w) (k+1) f fd ps sp:=by
 obtain⟨oc,od,kV,doc,pm,an,cdv,ct,osl,rfl,lk,hcd⟩:=F.ex;exact aMr lk hcd S len λ A outer s H vs Q E hr hsp=>hbody cdv A outer s H vs Q E hr hsp
end
def uP(K:zAA)(C:Addr):Prop:=zIE K C [.type "ValueError",.type "Exception",.type "BaseException",.type "object"] "ValueError.__new__"=true
def z9{K:zAA}(X:K.In h)(hm:mg x=some (.ref C))(q:uP K C):OwnCls x C [.type "ValueError",.type "Exception",.type "BaseException",.type "object"] "ValueError.__new__" mg h:=by
 refine⟨hm,?_⟩;unfold uP zIE at q;split at q
 .rename_i dd cd sl ho
  split at q
  .rename_i C' bm k0 k1 k2 k3 n k5 hm' hs
   simp only[zA5,beq_iff_eq,zFK]at q;obtain⟨⟨⟨⟨⟨rfl,rfl⟩,hdel⟩,ht⟩,hok⟩,hni⟩:=q;obtain⟨nm,bs,mro,ns,qn,hd,sn,sub,ab,col,del⟩:=cd;dsimp only at hm' hdel hok hni;subst hm' hdel;have hsl:sl=#[k0,k1,k2,k3,some (.builtin "ValueError.__new__"),k5]:=by
    obtain⟨l⟩:=sl;simp only at hs;rw[hs]
   subst hsl;exact⟨bm,ns,nm,qn,bs,hd,sn,sub,ab,col,dd,k0,k1,k2,k3,k5,_,X _ _ ho,.of_isNs (PySem.W.isNs_of_in X hok),PySem.W.nsMap_none_of_in X hok hni,PySem.W.tail_of_in X ht⟩
  .cases q
 .cases q
def aKO(C:Addr)(E:XK)(ta:TA):TS:=λ _ Z H=>ta Z H λ vs H1=>vs.length<=zAQ/\E (.ref C) none H1
section
variable{X:Cx}{E:XK}
def aFy(D:gA X E)(hc:X.calm=true){rest:List Expr}(hm:X.mg x=some (.ref C))(hC:uP X.K C)(hg:Gl X x)
  (ha:PA X (yY::rest) ta)(he:zAU (yY::rest) X.env=(false,eval yY X.env)::zAU rest X.env:=by rfl)
  (hplain:(zCW cpos (zAU rest X.env)).any (·.1)=false:=by rfl)(hd:Nd x:=by decide):
  PS X (.Raise (some (.Call (.Name x np) (yY::rest) [] cpos)) none pos) (aKO C E ta):=by
 intro kX s Z H DD I h;obtain⟨tl,NN,nm,q,bs,hdct,sn,sub,ab,col,dd,k0,k1,k2,k3,k5,mN,hCo,hN,hni,T⟩:=(z9 (h:=X.base) I.mod.kin hm hC).obj;have FB:=PySem.F.excBase_ValueError;refine wpAny_Raise_call_subU (C:=C) (nm:=nm) (q:=q) (N:=NN) (bs:=bs) (bm:=tl) (hdct:=hdct) (sn:=sn) (sub:=sub) (ab:=ab) (col:=col) (dd:=dd) (k0:=k0) (k1:=k1) (k2:=k2) (k3:=k3) (k5:=k5)
  FB FB.hasB FB (mN:=mN) (T.hasType FB.hasBase) (I.ok.hd hc) (by rw[he];show(false||(zCW cpos (zAU rest X.env)).any (·.1))=false;rw[hplain];rfl) hni
  (zp I hg hm ⟨rfl,?_⟩ hd)
 have harg:=ha cpos kX s Z H _ I h;rw[he]at harg ⊢;refine zEe (zBX harg (λ vs z5 y8=>?_) λ _ _ y=>y);obtain⟨xs,H2,I2,rv,hz,hE⟩:=y8;refine⟨rfl,by show vs.length<=zAQ;rw[<-rv.length];exact hz,I2.bk _ _ hCo,hN.keeps I2.bk,T.keeps I2.bk,λ h' ea hx=>D.raise I2 hx hE⟩
end
section
variable{κ:Type}[DecidableEq κ]
def n8(kvs:List (κ×V))(k:κ):Option V:=(kvs.find? λ kv=>decide (kv.1=k)).map (·.2)
def putK(kvs:List (κ×V))(k:κ)(v:V):List (κ×V):=
 if (kvs.any λ kv=>decide (kv.1=k))=true then kvs.map (λ kv=>if kv.1=k then(kv.1,v)else kv)else kvs++[(k,v)]
def mG{p:κ×V}{r:List (κ×V)}{k:κ}(e:p.1=k):n8 (p::r) k=some p.2:=by simp[n8,zBk,e]
def mH{p:κ×V}{r:List (κ×V)}{k:κ}(e:¬p.1=k):n8 (p::r) k=n8 r k:=by simp[n8,zBk,e]
theorem aA2(k:κ):∀kvs:List (κ×V),(kvs.any λ kv=>decide (kv.1=k))=(n8 kvs k).isSome
 |[]=>rfl
 |p::r=>by
  rw[zCa];by_cases e:p.1=k
  .simp only[mG e,decide_eq_true e,Bool.true_or,zEn]
  .rw[mH e,decide_eq_false e,Bool.false_or];exact aA2 k r
def jV(kvs:List (κ×V))(k:κ)(v:V):(putK kvs k v).length<=kvs.length+1:=by
 unfold putK;split
 .rw[zAE];omega
 .rw[zA9,zAk,zCA];omega
def qw.isSome_eq{o:Option V}{u:Option Value}(r:qw o u):o.isSome=u.isSome:=by
 cases o with
 |none=>cases u with
  |none=>rfl
  |some _=>exact(show False from r).elim
 |some _=>cases u with
  |none=>exact(show False from r).elim
  |some _=>rfl
def KV.val{kvs:List (κ×V)}{vs:List (κ×Value)}(r:KV kvs vs)(k:κ):qw (n8 kvs k) (zGd vs k):=by
 unfold KV at r;induction r with
 |nil=>exact zC0
 |@cons p q ps qs h t ih=>
  obtain⟨h1,h2⟩:=h;by_cases e:p.1=k
  .have e':q.1=k:=h1.symm.trans e
   have b:zGd (q::qs) k=some q.2:=by simp[zGd,zBk,e']
   rw[mG e,b];exact h2
  .have e':¬q.1=k:=λ z=>e (h1.trans z)
   have b:zGd (q::qs) k=zGd qs k:=by simp[zGd,zBk,e']
   rw[mH e,b];exact ih
theorem KV.any{kvs:List (κ×V)}{vs:List (κ×Value)}(r:KV kvs vs)(k:κ):(kvs.any λ kv=>decide (kv.1=k))=vs.any λ kv=>decide (kv.1=k):=by
 unfold KV at r;induction r with
 |nil=>rfl
 |cons h t ih=>rw[zCa,zCa,ih,h.1]
def KV.repl{kvs:List (κ×V)}{vs:List (κ×Value)}(r:KV kvs vs)(k:κ){y:V}{u:Value}(ry:RelV y u):
  KV (kvs.map λ kv=>if kv.1=k then(kv.1,y)else kv) (vs.map λ kv=>if kv.1=k then(kv.1,u)else kv):=by
 unfold KV at r ⊢;induction r with
 |nil=>exact .nil
 |@cons p q ps qs h t ih=>
  rw[zAD,zAD];refine .cons ?_ ih;obtain⟨h1,h2⟩:=h;by_cases e:p.1=k
  .rw[if_pos e,if_pos (h1.symm.trans e)];exact⟨h1,ry⟩
  .rw[if_neg e,if_neg (λ z=>e (h1.trans z))];exact⟨h1,h2⟩
def KV.put{kvs:List (κ×V)}{vs:List (κ×Value)}(r:KV kvs vs)(k:κ){y:V}{u:Value}(ry:RelV y u):KV (putK kvs k y) (stored vs k u):=by
 unfold putK stored;rw[r.any k];by_cases e:(vs.any λ kv=>decide (kv.1=k))=true
 .rw[if_pos e,if_pos e];exact r.repl k ry
 .rw[if_neg e,if_neg e];exact zI9 r ⟨rfl,ry⟩
theorem KV.length{kvs:List (κ×V)}{vs:List (κ×Value)}(r:KV kvs vs):kvs.length=vs.length:=zD0 r
end
def aBU{P:zAV}{w:World}{k:Key}{u:Value}(r:RelV (kV k) u):(bZ P w).is k u=true:=by
 cases k with
 |inl i=>obtain⟨t,e⟩:=(show∃t,u=zEF i t from r);subst e;exact aBE P w i t
 |inr x=>obtain⟨t,e⟩:=(show∃t,u=zG7 x t from r);subst e;exact aBD P w x t
theorem yO{P:zAV}{w:World}:∀{ks:List Key} {us:List Value},Vals (ks.map kV) us->ItemsAre (bZ P w) ks us
 |[],_,r=>by rw[zDR]at r;cases r;exact .nil
 |k::ks,_,r=>by
  rw[zAD]at r;cases r with
  |cons h t=>exact .cons (aBU h) (yO t)
abbrev KT(H:Hp):List (List Key×V)->List (List Key×Addr×Value)->Prop:=zHM λ p q=>p.1=q.1/\H q.2.1=some (.tup (p.1.map kV))/\RelV p.2 q.2.2
def KT.val{H:Hp}{kvs:List (List Key×V)}{xs:List (List Key×Addr×Value)}(r:KT H kvs xs)(k:List Key):qw (n8 kvs k) ((atKey xs k).map (·.2)):=by
 induction r with
 |nil=>exact zC0
 |@cons p q ps qs h t ih=>
  obtain⟨h1,_,h2⟩:=h;by_cases e:p.1=k
  .have e':q.1=k:=h1.symm.trans e
   have b:atKey (q::qs) k=some q.2:=by simp[atKey,zBk,e']
   rw[mG e,b];exact h2
  .have e':¬q.1=k:=λ z=>e (h1.trans z)
   have b:atKey (q::qs) k=atKey qs k:=by simp[atKey,zBk,e']
   rw[mH e,b];exact ih
def KT.repl{H:Hp}{kvs:List (List Key×V)}{xs:List (List Key×Addr×Value)}(r:KT H kvs xs)(k:List Key){y:V}{u:Value}(ry:RelV y u):
  KT H (kvs.map λ kv=>if kv.1=k then(kv.1,y)else kv) (xs.map (putAt k u)):=by
 induction r with
 |nil=>exact .nil
 |@cons p q ps qs h t ih=>
  rw[zAD,zAD];refine .cons ?_ ih;obtain⟨h1,h2,h3⟩:=h;unfold putAt;by_cases e:p.1=k
  .rw[if_pos e,if_pos (h1.symm.trans e)];exact⟨h1,h2,ry⟩
  .rw[if_neg e,if_neg (λ z=>e (h1.trans z))];exact⟨h1,h2,h3⟩
def KT.put{H:Hp}{kvs:List (List Key×V)}{xs:List (List Key×Addr×Value)}(r:KT H kvs xs)(k:List Key){b:Addr}{y:V}{u:Value}(hb:H b=some (.tup (k.map kV)))(ry:RelV y u):
  KT H (putK kvs k y) (storedH xs k b u):=by
 have e:(kvs.any λ kv=>decide (kv.1=k))=(atKey xs k).isSome:=by
  rw[aA2,(r.val k).isSome_eq,zFC]
 unfold putK storedH;rw[e];by_cases q:(atKey xs k).isSome=true
 .rw[if_pos q,if_pos q];exact r.repl k ry
 .rw[if_neg q,if_neg q];exact zI9 r ⟨rfl,hb,ry⟩
def KT.keeps{H H':Hp}{kvs:List (List Key×V)}{xs:List (List Key×Addr×Value)}(r:KT H kvs xs)(ht:∀b ys,H b=some (.tup ys)->H' b=some (.tup ys)):KT H' kvs xs:=
 Paired.mapP r λ _ _ z=>⟨z.1,ht _ _ z.2.1,z.2.2⟩
section
variable{P:zAV}{w:World}{H:Hp}{h:Heap}{a:Addr}
def aJh{u:HO}(ok:HOk P w H h)(e:Rd H a u):bM P w H h a u:=e.ok ok
def yh{kvs:List (Key×V)}(ok:HOk P w H h)(e:Rd H a (.dK kvs)):kvs.length<=zAQ/\(a==zBE)=false/\∃vs,KV kvs vs/\h.DictOf (bZ P w) a vs:=
 show bM P w H h a (.dK kvs)from aJh ok e
def aDq{kvs:List (Key×V)}(ok:HOk P w H h)(e:H a=some (.dK kvs)):kvs.length<=zAQ/\(a==zBE)=false/\∃vs,KV kvs vs/\h.DictOf (bZ P w) a vs:=yh ok (.inl e)
def zy{ks:List Key}(ok:HOk P w H h)(e:H a=some (.tup (ks.map kV))):(zDK (bZ P w)).is h ks a:=by
 obtain⟨_,its,r,o,h1,h2,n,h3⟩:=(show bM P w H h a (.tup (ks.map kV))from ok a _ e);exact⟨o,its.toArray,n,h1,h2,h3,by simpa using yO r⟩
def aB7{kvs:List (List Key×V)}(ok:HOk P w H h)(e:Rd H a (.dT kvs)):kvs.length<=zAQ/\(a==zBE)=false/\
  ∃xs,KT H kvs xs/\h.DictOfH (zDK (bZ P w)) a xs:=by
 obtain⟨z,y,xs,r,o,es,ep,h1,h2,h3,h4,h5⟩:=(show bM P w H h a (.dT kvs)from aJh ok e);refine⟨z,y,xs,r,o,es,ep,h1,h2,h3,h4,λ x hx=>?_,h5⟩;have all:∀{l:List (List Key×V)} {m:List (List Key×Addr×Value)},KT H l m->∀x∈m,(zDK (bZ P w)).is h x.1 x.2.1:=by
  intro l m q;induction q with
  |nil=>intro x hx;exact nomatch hx
  |@cons p q ps qs hq t ih=>
   intro x hx;rcases zAT.mp hx with e|hx
   .subst e
    exact zy ok (by rw[<-hq.1];exact hq.2.1)
   .exact ih x hx
 exact all r x hx
def aMv{kvs:List (List Key×V)}(ok:HOk P w H h)(e:H a=some (.dT kvs)):kvs.length<=zAQ/\(a==zBE)=false/\
  ∃xs,KT H kvs xs/\h.DictOfH (zDK (bZ P w)) a xs:=aB7 ok (.inl e)
end
def uQ(H:Hp)(a:Addr)(y:V)(r:Option V):Prop:=
 (∃kvs k,Rd H a (.dK kvs)/\y=kV k/\r=n8 kvs k)\/∃kvs k b,Rd H a (.dT kvs)/\y= .ref b/\H b=some (.tup (k.map kV))/\r=n8 kvs k
def aEy(H:Hp)(a:Addr)(y v:V)(H':Hp):Prop:=
 (∃kvs k,H a=some (.dK kvs)/\y=kV k/\kvs.length<zAQ/\H'=upd H a (.dK (putK kvs k v)))\/
 ∃kvs k b,H a=some (.dT kvs)/\y= .ref b/\H b=some (.tup (k.map kV))/\kvs.length<zAQ/\H'=upd H a (.dT (putK kvs k v))
theorem uQ.k{H:Hp}{a:Addr}{kvs:List (Key×V)}{k:Key}(e:H a=some (.dK kvs)):uQ H a (kV k) (n8 kvs k):=.inl ⟨kvs,k,.inl e,rfl,rfl⟩
theorem aEy.k{H:Hp}{a:Addr}{kvs:List (Key×V)}{k:Key}{v:V}(e:H a=some (.dK kvs))(hl:kvs.length<zAQ):aEy H a (kV k) v (upd H a (.dK (putK kvs k v))):=.inl ⟨kvs,k,e,rfl,hl,rfl⟩
section
variable{X:Cx}{kX:hZ}{Z:St}{H:Hp}{s:zAF}{a:Addr}{y v:V}{u r:Value}{o:Option V}{A:zAc}{E:Value->zAF->Prop}
def Inv.big(I:Inv X kX Z H s):zBE<s.heap.objs.size:=by
 have h:zAj<s.heap.objs.size:=(I.mod.glob.keeps I.bk).lt;exact zDX (by decide) h
def aEk{Q:Value->zAF->Prop}(hu:A.units+1<cLine)(I:Inv X kX Z H s)(g:uQ H a y (some v))(ry:RelV y u)(h:∀w' s',Inv X kX Z H s'->RelV v w'->Q w' s'):
  wpAny (model X.prog X.w) A (zIZ (.ref a) u) Q E s:=by
 rcases g with ⟨kvs,k,e,ey,l⟩|⟨kvs,k,b,e,ey,eb,l⟩
 .subst ey
  obtain⟨z,hd,vs,rel,dd⟩:=yh I.hok e;obtain⟨w',hw,rw'⟩:=qw.some_of (v:=v) (o:=zGd vs k) (by rw[l];exact rel.val k);exact wpAny_getItem_of (aBU ry) dd.mapOf hw (h w' _ (I.tok _) rw')
 .subst ey
  cases (show u=zAo b from ry);obtain⟨z,hd,xs,rel,dd⟩:=aB7 I.hok e;obtain⟨w',hw,rw'⟩:=qw.some_of (v:=v) (o:=(atKey xs k).map (·.2)) (by rw[l];exact rel.val k);obtain⟨p,hp,hp2⟩:=zCY.mp hw;refine wpAny_getItem_heap (zDL hu) (zy I.hok eb) dd hp ?_;rw[hp2];exact h w' _ (I.tok _) rw'
def aJR{Q:Value->zAF->Prop}(hu:A.units+1<cLine)(I:Inv X kX Z H s)(g:uQ H a y o)(ry:RelV y u)(h:∀s',Inv X kX Z H s'->Q (.bool (!o.isSome)) s'):
  wpAny (model X.prog X.w) A (zBA .NotIn u (.ref a)) Q E s:=by
 rcases g with ⟨kvs,k,e,ey,l⟩|⟨kvs,k,b,e,ey,eb,l⟩
 .subst ey
  obtain⟨z,hd,vs,rel,dd⟩:=yh I.hok e;refine wpAny_notIn_of (aBU ry) hd dd.mapOf ?_;rw[<-(rel.val k).isSome_eq,<-l];exact h _ (I.tok _)
 .subst ey
  cases (show u=zAo b from ry);obtain⟨z,hd,xs,rel,dd⟩:=aB7 I.hok e;refine wpAny_notIn_heap (zDL hu) (zy I.hok eb) hd dd ?_;have q:=(rel.val k).isSome_eq;rw[zFC]at q;rw[<-q,<-l];exact h _ (I.tok _)
def aAH{h':Heap}{t':Nat}{ob:HO}(I:Inv X kX Z H s)(mu:Mut (H a))(hs:zBW a s.heap h')(he:∃q,h'.get? a=some q)(new:bM X.prog X.w (upd H a ob) h' a ob):
  Inv X kX Z (upd H a ob) {s with heap:=h',toks:=t'}:=
 I.write (x:=a) (e:=a) mu (.inl rfl) (λ b q hb z=>(hs.2 b hb).trans z) he new
def aHM{P:zAV}{w:World}{H':Hp}{h':Heap}{kvs:List (Key×V)}{vs:List (Key×Value)}(z:kvs.length<=zAQ)(hd:(a==zBE)=false)(rel:KV kvs vs)(dd:h'.DictOf (bZ P w) a vs):
  bM P w H' h' a (.dK kvs):=⟨z,hd,vs,rel,dd⟩
def aEj{H':Hp}{Q:Unit->zAF->Prop}(hu:A.units+1<cLine)(I:Inv X kX Z H s)(g:aEy H a y v H')(ry:RelV y u)(rv:RelV v r)(h:∀s',Inv X kX Z H' s'->Q () s'):
  wpAny (model X.prog X.w) A (setItem (.ref a) u r) Q E s:=by
 rcases g with ⟨kvs,k,e,ey,l,eH⟩|⟨kvs,k,b,e,ey,eb,l,eH⟩
 .subst ey eH
  obtain⟨z,hd,vs,rel,dd⟩:=aDq I.hok e;have hz:vs.length<=zAQ:=by rw[<-rel.length];exact z
  have hl:(putK kvs k v).length<=zAQ:=by have:=jV kvs k v;omega
  refine wpAny_setItem_pairs (hsz:=hz) (aBU ry) dd λ h' dd' hs=>h _ ?_
  have he:∃q,h'.get? a=some q:=let⟨q,_,_,hq,_⟩:=dd';⟨q,hq⟩
  exact aAH I (by rw[e];exact zC0) hs he (aHM hl hd (rel.put k rv) dd')
 .subst ey eH
  cases (show u=zAo b from ry);obtain⟨z,hd,xs,rel,dd⟩:=aMv I.hok e;have hz:xs.length<=zAQ:=by rw[<-zD0 rel];exact z
  have hl:(putK kvs k v).length<=zAQ:=by have:=jV kvs k v;omega
  refine zId (hsz:=hz) (zDL hu) (zy I.hok eb) dd λ h' dd' hs=>h _ ?_
  obtain⟨q,es,ep,hq,h2,h3,h4,_,h5⟩:=dd';refine aAH I (by rw[e];exact zC0) hs ⟨q,hq⟩ ⟨hl,hd,_,(rel.put k eb rv).keeps λ c ys ec=>?_,q,es,ep,hq,h2,h3,h4,h5⟩;rw[aQ (aMd ec e (λ z=>nomatch z))];exact ec
end
section
variable{X:Cx}{kX:hZ}{Z:St}{H:Hp}{s:zAF}{a:Addr}{kvs:List (Key×V)}{A:zAc}{E:Value->zAF->Prop}
def aMx{Q:Value->zAF->Prop}(I:Inv X kX Z H s)(e:Rd H a (.dK kvs))(h:∀t s',Inv X kX Z H s'->Q (.int kvs.length t) s'):wpAny (model X.prog X.w) A (call (.builtin "len") [.ref a]) Q E s:=by
 obtain⟨z,hd,vs,rel,dd⟩:=yh I.hok e;refine call_len_dict hd dd (by rw[<-rel.length];rw[zBe]at z;omega) ?_;rw[<-rel.length];exact h _ _ (I.tok _)
end
def aNF(i:Expr):Prop:=∀ov iv,zGc i false ov iv=operate [ov,iv] (zIZ ov iv)
def aHi{prog:zAV}{w:World}{A:zAc}{E:Value->zAF->Prop}{s:zAF}{env:Env}{value slice:Expr}{pos:Pos}{T id:String}{Q:Value->zAF->Prop}
  (hl:zGH (.type T) "__getitem__"=pure (some (.builtin id)))(hs:aNF slice)
  (h:wpAny (model prog w) A (eval value env) (λ o zI=>wpAny (model prog w) A (eval slice env) (λ i z5=>z5.TypeIs o T/\wpAny (model prog w) A (zIZ o i) Q E z5) E zI) E s):
  wpAny (model prog w) A (eval (.Subscript value slice pos) env) Q E s:=by
 refine Subscript_ (zBX h (λ o zI zD=>zBX zD (λ i z5 y8=>?_) λ _ _ x=>x) λ _ _ x=>x);obtain⟨hT,y8⟩:=y8;unfold subscriptTail;refine zAB ?_;rw[getitemInPython_of_ne hT.not_modules];refine zAB (zEI hT hl ?_);have fin:wpAny (model prog w) A (zGc slice false o i) (λ r zC=>wpAny (model prog w) A (letTemporaryGo value o r>>=λ _=>pure r) Q E zC) E z5:=by
  rw[hs o i];exact wpAny_operating (zBX y8 (λ r zC y0=>zAB (wpAny_letTemporaryGo (zAG y0))) λ _ _ x=>x)
 first
  |exact zAG (zAB fin)
  |exact zAB (zAG (zAB fin))
  |exact zAB fin
def aB9{X:Cx}{kX:hZ}{Z:St}{H:Hp}{s:zAF}{a:Addr}{y:V}{o:Option V}(I:Inv X kX Z H s)(g:uQ H a y o):s.TypeIs (.ref a) "dict":=by
 rcases g with ⟨kvs,k,e,_,_⟩|⟨kvs,k,b,e,_,_,_⟩
 .obtain⟨_,_,vs,_,dd⟩:=yh I.hok e
  exact dd.typeIs
 .obtain⟨_,_,xs,_,dd⟩:=aB7 I.hok e
  exact dd.typeIs
def aMK(td ty:TE):TE:=λ Z H Q=>td Z H λ x H1=>ty Z H1 λ y H2=>∃a v,x= .ref a/\uQ H2 a y (some v)/\Q v H2
def aF7(td ty tv:TE):TS:=λ D Z H=>tv Z H λ v H1=>td Z H1 λ x H2=>ty Z H2 λ y H3=>∃a H4,x= .ref a/\aEy H3 a y v H4/\D.nx Z H4
section
variable{X:Cx}{o i value:Expr}{pos pos':Pos}{td ty tv:TE}
def aDT(hu:X.A.units+1<cLine)(ho:PE X o td)(hi:PE X i ty)(hs:aNF i):PE X (.Subscript o i pos) (aMK td ty):=by
 intro kX s Z H Q I h;refine aHi PySem.F.slot_dict_getitem.lookup hs (thn (ho kX s Z H _ I h) λ u s1 ⟨x,H1,I1,rx,q1⟩=>thn (hi kX s1 Z H1 _ I1 q1) λ iv s2 ⟨y,H2,I2,ry,a,v,ex,g,q2⟩=>?_);subst ex;obtain rfl:u=zAo a:=rx;exact⟨aB9 I2 g,aEk hu I2 g ry λ w' s3 I3 rw'=>⟨v,H2,I3,rw',q2⟩⟩
def aDQ(hu:X.A.units+1<cLine)(ho:PE X o td)(hi:PE X i ty)(hv:PE X value tv)(hs:zC3 value (some (.Subscript o i pos')) pos.line X.env=pure false):
  PS X (.Assign [.Subscript o i pos'] value pos) (aF7 td ty tv):=by
 intro kX s Z H D I h;refine wpAny_Assign_Subscript (thn (hv kX s Z H _ I h) λ r s1 ⟨v,H1,I1,rv,q1⟩=>thn (ho kX s1 Z H1 _ I1 q1) λ u s2 ⟨x,H2,I2,rx,q2⟩=>thn (hi kX s2 Z H2 _ I2 q2) λ iv s3 ⟨y,H3,I3,ry,a,H4,ex,g,q3⟩=>?_) hs;subst ex;obtain rfl:u=zAo a:=rx;exact aEj hu I3 g ry rv λ s4 I4=>⟨Z,H4,I4,q3⟩
end
def aHN{P:zAV}{w:World}{H:Hp}(h:Heap)(hb:zBE<h.objs.size):bM P w H (h.push {cls:=.type "dict",data:=.dict #[]}) h.objs.size (.dK []):=
 ⟨zAf _,beq_eq_false_iff_ne.mpr (zDV (zA1 hb)),[],.nil,zEs h⟩
def aFH:TE:=λ _ H Q=>∀p,H p=none->Q (.ref p) (upd H p (.dK []))
section
variable{X:Cx}{pos:Pos}
def aGG:PE X (.Dict [] [] pos) aFH:=λ kX s Z H Q I h=>
 wpAny_Dict_empty ⟨.ref s.heap.objs.size,_,I.laid (a:=s.heap.objs.size) (o:=.dK []) (t':=s.toks) (λ _ _ q=>zAC _ q) (zAS _) (aHN s.heap I.big),rfl,h _ (I.hok.fresh (zAS _))⟩
end
end L2
namespace Att
open PySem PySem.W PySem.Calls PyProof.Rows
end Att
namespace L2
open PySem PySem.Spec PyProof.Rows
section
variable{κ:Type}[DecidableEq κ]
end
section
variable{κ:Type}[DecidableEq κ]
end
structure M2(X:Cx)(o:Expr)(m:Str)(apos:Pos)(e f:Expr)(cpos:Pos):Prop where
 base:zBd o m X.env (eval o X.env)=eval o X.env
 few:((zCW cpos (zAU [e,f] X.env)).all (λ x=>!x.1)&&(zFg cpos (zEH [] X.env)).all (λ x=>x.1.isSome)
  &&decide (([e,f]:List Expr).length+([]:List zCe).length+(if ([]:List zCe).isEmpty then 0 else 1)<30))=true
 line:(apos.endLine==cpos.line)=true
 trees:zCW cpos (zAU [e,f] X.env)=[(false,eval e X.env),(false,eval f X.env)]
def IsD(H:Hp)(a:Addr):Prop:=(∃kvs,Rd H a (.dK kvs))\/∃kvs,Rd H a (.dT kvs)
def aL7{X:Cx}{kX:hZ}{Z:St}{H:Hp}{s:zAF}{a:Addr}(I:Inv X kX Z H s)(d:IsD H a):
  s.TypeIs (.ref a) "dict"/\(∀b,zAo a= .ref b->∃ob,s.heap.get? b=some ob/\ob.dict=none)/\(a==zBE)=false:=by
 rcases d with ⟨kvs,e⟩|⟨kvs,e⟩
 .obtain⟨_,hd,vs,_,dd⟩:=yh I.hok e
  refine⟨dd.typeIs,λ b q=>?_,hd⟩;cases q;obtain⟨ob,_,_,h1,h2,_⟩:=dd;exact⟨ob,h1,h2.2.1⟩
 .obtain⟨_,hd,xs,_,dd⟩:=aB7 I.hok e
  refine⟨dd.typeIs,λ b q=>?_,hd⟩;cases q;obtain⟨ob,_,_,h1,h2,_⟩:=dd;exact⟨ob,h1,h2.2.1⟩
end L2
namespace Att
open PySem PySem.W PySem.Calls PyProof.Rows
end Att
namespace L2
open PySem PySem.Spec PyProof.Rows
section
variable{κ:Type}[DecidableEq κ]
end
section
variable{X:Cx}
structure aNG(X:Cx)(P:Addr):Prop where
 ta:∃o,X.ta=[(P,o)]
 ex:P∈X.ex
 tq:X.tq=X.env.qual++"<lambda>"
 code:∃c,X.env.code= .ref c/\PySem.W.CodeHd X.base c P
 blt:X.base.BuiltinsAt X.mg P
 gne:zAj≠P
end
abbrev bmV:List Value:=[.type "ValueError",.type "Exception",.type "BaseException",.type "object"]
section
variable{prog:zAV}{w:World}{A:zAc}{E:Value->zAF->Prop}{h:Heap}{g:Array zCv}{d:Drawn}{t:Nat}{os:OsState}{a:Addr}{o:Obj}
 {nm q:Str}{C N:Addr}{bs bm:List Value}{hdct:Bool}{sn:List Str}{sub:List Value}{ab:Bool}{col:Option Bool}{dd:Option Addr}{k0 k1 k2 k3 k5:Option Value}{newId:String}{K:zAA}
def aBc{R:zER->zAF->Prop}(hC:h.get? C=some (zG8 nm q C N bs bm hdct sn sub ab col dd k0 k1 k2 k3 k5 newId))(T:OwnTail h bmV bm)
  (hx:h.get? a=some o)(hc:o.cls= .ref C)(hq:R (.ok (.ret (.ref C))) ⟨h,g,d,t,os⟩):
  zCR (model prog w) A (.call (.builtin "getset_descriptor.__get__") ⟨[.builtin "object.__class__",.ref a,.ref C],[]⟩) R ⟨h,g,d,t,os⟩:=by
 have hT5:(⟨h,g,d,t,os⟩:zAF).TypeIs (.builtin "object.__class__") "getset_descriptor":=zEj;have hcB:(zAo C::bm).contains (.type (".".intercalate ("object.__class__".cutAt '.').dropLast))=true:=by
  rw[F.owner_object_class,zHV,T.hasType (X:="object") (b:=true) (by decide+kernel)];rfl
 refine zFI zGq.plain F.entry_gs_get (zGq.check _ _ _ _ _ _ _ _ hT5 (F.args_gs_get _ _ _) ?_)
 repeat (any_goals (first|assumption|(with_reducible refine zD9 hx ?_;rw[hc])|(with_reducible refine zI2 hC ?_;rw[hcB])|wp_step))
 refine⟨zEz _ (by decide+kernel),zCJ F.entry_object_class ?_⟩
 repeat (any_goals (first|assumption|(with_reducible refine zD9 hx ?_;rw[hc])|wp_step))
def aAM{M:Model}{nameV:Value}{Q:Unit->zAF->Prop}(hC:h.get? C=some (zG8 nm q C N bs bm hdct sn sub ab col dd k0 k1 k2 k3 k5 newId))(T:OwnTail h bmV bm)
  (hx:h.get? a=some o)(hc:o.cls= .ref C)(hq:Q () ⟨h,g,d,t,os⟩):wpAny M A (zGX "BaseException.__getattribute__" ⟨[.ref a,nameV],[]⟩) Q E ⟨h,g,d,t,os⟩:=by
 have hk:builtinKind "BaseException.__getattribute__"=some .slot:=by decide+kernel
 have dP:splitId "BaseException.__getattribute__"=some ("BaseException","__getattribute__"):=by decide+kernel
 have hcB:(zAo C::bm).contains (.type "BaseException")=true:=by rw[zHV,T.hasType (X:="BaseException") (b:=true) (by decide+kernel)];rfl
 have ha:=F.args_bexc_ga (.ref a) nameV;simp only[zGX,hk,dP];refine zAB ?_
 .unfold isInstance
  repeat (first|(with_reducible refine zD9 hx ?_;rw[hc])|(with_reducible refine zI2 hC ?_;rw[hcB])|wp_step)
  exact hq
def xW{tk:Tok}{Q:Fin->zAF->Prop}(hC:h.get? C=some (zG8 nm q C N bs bm hdct sn sub ab col dd k0 k1 k2 k3 k5 newId))(T:OwnTail h bmV bm)(lk:∀M:Model,zEk M h (zGH (.ref C) "__class__") (some (.builtin "object.__class__")))
  (hx:h.get? a=some o)(hc:o.cls= .ref C)(hq:Q (.done (.ret (.ref C))) ⟨h,g,d,t,os⟩):
  wpAny (model prog w) A (zCy.«object.__getattribute__» ⟨[.ref a,.str "__class__" tk],[]⟩) Q E ⟨h,g,d,t,os⟩:=by
 have hT5:(⟨h,g,d,t,os⟩:zAF).TypeIs (.builtin "object.__class__") "getset_descriptor":=zEj;have f5:=zEj;have f6:=zGq.lookup;have f7:=F.slot_gs_set.lookup
 repeat (any_goals (first|assumption|(with_reducible refine zD9 hx ?_;rw[hc])|with_reducible refine(lk _).here ?_|wp_step))
 refine aBc hC T hx hc ?_
 repeat (any_goals (first|assumption|wp_step))
def aAL{Q:Option Value->zAF->Prop}(hC:h.get? C=some (zG8 nm q C N bs bm hdct sn sub ab col dd k0 k1 k2 k3 k5 newId))(T:OwnTail h bmV bm)(lk:∀M:Model,zEk M h (zGH (.ref C) "__class__") (some (.builtin "object.__class__")))
  (lg:∀M:Model,zEk M h (zGH (.ref C) "__getattribute__") (some (.builtin "BaseException.__getattribute__")))(ln:∀M:Model,zEk M h (zGH (.ref C) "__getattr__") none)
  (hx:h.get? a=some o)(hc:o.cls= .ref C)(hq:Q (some (.ref C)) ⟨h,g,d,t+1,os⟩):wpAny (model prog w) A (getAttr? (.ref a) "__class__") Q E ⟨h,g,d,t,os⟩:=by
 have by_exc:∀{E:Value->zAF->Prop} {t:Nat} {tk:Tok} {Q:Value->zAF->Prop},Q (.ref C) ⟨h,g,d,t,os⟩->wpAny (model prog w) A (getAttrBy (.ref a) (.str "__class__" tk) false) Q E ⟨h,g,d,t,os⟩:=by
  intro E t tk Q hq;have FB:=PySem.F.excAttr_ValueError;have f3:=FB.ga.bind (.ref a);have hx0:(false&&onTheHeap (zEN "BaseException.__getattribute__"))=false:=rfl;have hx2:(zEN "BaseException.__getattribute__"==zEN "object.__getattribute__")=false:=by decide+kernel
  have hx1:(onTheHeap (zAo C)&&zEN "BaseException.__getattribute__"==zEN "object.__getattribute__")=false:=by rw[hx2];rfl
  repeat (any_goals (first|assumption|(with_reducible refine zD9 hx ?_;rw[hc])|with_reducible refine(lg _).here ?_|with_reducible refine(ln _).here ?_|wp_step))
  refine zFI FB.ga.plain F.entry_bexc_ga (aAM hC T hx hc (xW hC T lk hx hc ?_))
  repeat (any_goals (first|assumption|wp_step))
 unfold getAttr? getAttrBy?
 repeat (any_goals (first|assumption|with_reducible apply by_exc|wp_step))
def aGc(hE:uP K C)(ha:zB5 K (.ref C) "__class__"=some (some (.builtin "object.__class__")))(hgt:zB5 K (.ref C) "__getattribute__"=some (some (.builtin "BaseException.__getattribute__")))
  (hga:zB5 K (.ref C) "__getattr__"=some none):PySem.W.KitX K (.ref a) (.ref C) (λ h=>∃o,h.get? a=some o/\o.cls= .ref C) where
 ty:=λ M h _ ⟨o,h1,h2⟩=>h2▸(zIm h1).andThen .now
 it:=λ M h X _=>by
  obtain⟨bm,NN,nm,q,bs,hdct,sn,sub,ab,col,dd,k0,k1,k2,k3,k5,mN,hC,_⟩:=(z9 (h:=h) (mg:=λ _=>some (.ref C)) (x:="x") X rfl hE).obj;intro A' Q' E' s' k q;unfold isType loadHead;exact zAB (wpAny_loadPart (k _ _ hC) (zAG q))
 ne:=λ h tp dd its n sl X htp=>by
  obtain⟨bm,NN,nm,q,bs,hdct,sn,sub,ab,col,dd,k0,k1,k2,k3,k5,mN,hC,_⟩:=(z9 (h:=h) (mg:=λ _=>some (.ref C)) (x:="x") X rfl hE).obj;refine zFJ.mpr λ z=>?_
  have e:C=tp:=Value.ref.inj (beq_iff_eq.mp z);subst e;rw[hC]at htp;exact absurd (congrArg Obj.cls (zAs htp)) (by show zBn "type"≠zBn "tuple";decide+kernel)
 ca:=λ{prog w A E Q s} X ⟨o,h1,h2⟩ k=>by
  obtain⟨h,g,d,t,os⟩:=s;obtain⟨bm,NN,nm,q,bs,hdct,sn,sub,ab,col,dd,k0,k1,k2,k3,k5,mN,hC,hN,hni,T⟩:=(z9 (h:=h) (mg:=λ _=>some (.ref C)) (x:="x") X rfl hE).obj;exact aAL hC T (λ M=>zDW X ha) (λ M=>zDW X hgt) (λ M=>zDW X hga) h1 h2 k
end
def excφ(a C:Addr):Heap->Prop:=λ h=>∃o,h.get? a=some o/\o.cls= .ref C
structure aN5(K:zAA)(C:Addr):Prop where
 ex:uP K C
 ca:zB5 K (.ref C) "__class__"=some (some (.builtin "object.__class__"))
 gt:zB5 K (.ref C) "__getattribute__"=some (some (.builtin "BaseException.__getattribute__"))
 ga:zB5 K (.ref C) "__getattr__"=some none
section
variable{X:Cx}
def aJl(K:zAA):List V->Hp->VK->Prop:=λ xs H Q=>∃a C y c b,xs=[.ref a,y]/\RelV y c/\H a=some (.ext (excφ a C))/\aN5 K C/\zDm K (.ref C) c=some b/\Q (.bl b) H
def aEt:cX X (.builtin "isinstance") (aJl X.K):=by
 intro kX s Z H xs us Q I r h;obtain⟨a,C,y,c,b,rfl,ry,ha,kc,e,q⟩:=h;obtain⟨u,w',rfl,r1,r2⟩:=vals2 r;cases r1;have hc:w'=c:=by
  cases y<;>first
   |(cases r2;cases ry;rfl)
   |(obtain⟨t1,rfl⟩:=r2;obtain⟨t2,rfl⟩:=ry;exact absurd e (by simp[zDm,PySem.W.kitCls]))
 subst hc;obtain⟨p,_⟩:excφ a C s.heap/\_:=I.hok a _ ha;exact zBL (aGc kc.ex kc.ca kc.gt kc.ga) I.kIn p e (λ z=>nomatch z) λ tk=>⟨.bl b,H,I.tok tk,rfl,q⟩
end
structure aND(k:Nat)(A:zAc):Prop where
 dp:A.depth+3*k+5<zHD
 un:A.units+16*k+200<cLine
structure FnH(P:zAV)(w:World)(K:zAA)(mg:Str->Option Value)(base:Heap)(k:Nat)(f:Addr)(fd:zAg)(ps:List Str)(sp:Sp):Prop where
 len:∀vs H Q E,sp vs H Q E->vs.length=ps.length
 run:∀(A:zAc) (outer:List Env) (s:zAF) (H:Hp) (args:Args) (us:List Value) (vs:List V) (Q:VK) (E:XK),aND k A->aHc P w K mg base A outer s H->zFw s fd args (ps.zip us)->Vals vs us->sp vs H Q E->
  zCR (model P w) A (.call (.ref f) args) (CR CX0 outer P w H s Q E) s
def aNS(K:zAA)(c:V):TE:=tCB (aJl K) (dR (jg 0) (dR (tC c) uF))
section
variable{X:Cx}{n0 n1 n2 odd:Str}{c1 c2:V}{k1 k2 k3 k4:List V}{l1 l2:List Str}{a1 a2:Expr}{as1 as2 e1 e2 e3 e4 w1 w2:List Expr}{kw1 kw2:List zCe}{Q:VK}{H:Hp}{vs:List V}
 {p1 p2 p3 p4 p5 p6 p7 p8 p9 p10 p11 p12 p13 p14 p15 p16 p17 p18 p19 p20 p21 p22 p23 p24 p25 p26 p27 p28 p29 p30 p31 p32 p33 p34 p35 p36 p37 p38 p39 p40:Pos}{q1 q2 q3 q4 q5 q6 q7:Pos}{j1 j2 j3 j4 j5:Nat}{E0:XK}{wd:Addr->Option Str}
end
structure aAU(d:Nat)(e tg iter:Expr)(ifs:List Expr)(body:Env->Addr->Sem Unit):Prop where
 under:∀(A:zAc) (it:Value) (D:Addr) (env:Env),A.under (.compLoop e d it (.ref D) env)=A
 den:∀(prog:zAV) (w:World) (it:Value) (D:Addr) (env:Env),(model prog w).den (.compLoop e d it (.ref D) env)=(compTurn e d it (.ref D) env).onRaise (λ x=>do noteFrame x env;theTreesLotGoes x)
 turn:∀(it:Value) (D:Addr) (env:Env),compTurn e d it (.ref D) env=(do
   zFV iter.pos
   match <-zDg it with
   |none=>pure (.done .next)
   |some v=>
    zDJ tg it v
    zEh tg env v
    let mut ok:=true
    for c in ifs do if ok then ok <-isTrue c env (eval c env)
    if ok then
     body env D
    again (.compLoop e d it (.ref D) env))
section
variable{s:zAF}{A:zAc}{prog:zAV}{w:World}{R:zER->zAF->Prop}
def aAK{D:Addr}(hb:aAU d e tg iter ifs body)(I:Nat->zAF->Prop)
  (one:∀n s,I n s->wpAny (model prog w) A (zDg it) (λ r zI=>match r with
   |none=>R (.ok .next) zI
   |some v=>wpAny (model prog w) A (zDJ tg it v) (λ _ zI=>wpAny (model prog w) A (zEh tg env v) (λ _ z5=>
     wpAny (model prog w) A (forIn ifs true λ c r=>if r=true then do let ok <-isTrue c env (eval c env);pure (zBf ok)else pure (zBf r)) (λ ok zC=>if ok=true then wpAny (model prog w) A (body env D) (λ _ s₅=>∃m,m<n/\I m s₅) (λ _ _=>False) zC
      else∃m,m<n/\I m zC) (λ _ _=>False) z5) (λ _ _=>False) zI) (λ _ _=>False) zI) (λ _ _=>False) s)
  (n:Nat)(h:I n s):zCR (model prog w) A (.compLoop e d it (.ref D) env) R s:=by
 refine codeAny_loop rfl I (λ n s hJ=>?_) n h;rw[hb.under,hb.den];refine wpAny_noted ?_;rw[hb.turn];refine zAB (zDy (zAB (zBX (one n s hJ) (λ r zI zD=>?_) λ _ _ h'=>h'.elim)));cases r with
 |none=>exact zAG zD
 |some v=>
  refine zAB (zBX zD (λ _ zI zD=>?_) λ _ _ h'=>h'.elim);refine zAB (zBX zD (λ _ z5 y8=>zAB (zBX y8 (λ ok zC y0=>?_) λ _ _ h'=>h'.elim)) λ _ _ h'=>h'.elim);cases ok with
  |false=>exact zAG (And.intro rfl y0)
  |true=>exact zAB (zBX y0 (λ _ y3 h₄=>zAG ⟨rfl,h₄⟩) λ _ _ h'=>h'.elim)
end
def aAV(d:Nat)(e:Expr):Prop:=∀{prog:zAV} {w:World} {A:zAc} {R:zER->zAF->Prop} {s:zAF} {it acc:Value} {env:Env},
  zCR (model prog w) A (.compLoop e d it acc env) R s->
  wpAny (model prog w) A (zGO it) (λ it' s'=>zCR (model prog w) A (.compLoop e d it' acc env) R s') (notedBy (model prog w) A env λ x s'=>R (.error x) s') s->
  zCR (model prog w) A (.compStart e d it acc env) R s
structure aHd(prog:zAV)(w:World)(mk:Sem Value)(obs:Obj->Prop)(o:Addr->HO):Prop where
 make:∀{A:zAc} {Q:Value->zAF->Prop} {E:Value->zAF->Prop} {s:zAF},(∀ob,obs ob->Q (.ref s.heap.objs.size) {s with heap:=s.heap.push ob})->wpAny (model prog w) A mk Q E s
 live:∀ob,obs ob->ob.isFreed=false
 ok:∀{H:Hp} {h:Heap} {a:Addr} {ob:Obj},obs ob->h.get? a=some ob->zBE<a->bM prog w H h a (o a)
def PB(X:Cx)(body:Env->Addr->Sem Unit)(tb:Addr->St->Hp->(Hp->Prop)->Prop):Prop:=
 ∀(D:Addr) (kX:hZ) (s:zAF) (Z:St) (H:Hp) (Q:Hp->Prop),Inv X kX Z H s->tb D Z H Q->wpAny (model X.prog X.w) X.A (body X.env D) (λ _ s'=>∃H',Inv X kX Z H' s'/\Q H') X.xe s
def aN0(I:Inv X kX Z H s):zBE<s.heap.objs.size:=
 zDX (by decide) (I.mod.glob.keeps I.bk).lt
def aML(o:Addr->HO)(wi:TI)(st:St->St)(g:TG)(tt:TT)(tb:Addr->St->Hp->(Hp->Prop)->Prop):TE:=λ Z H Q=>wi Z H λ J H1=>∀l,H1 l=none->∃W:Nat->Nat->Hp->Prop,(∃m,W 0 m (upd H1 l (o l)))/\
 ∀i m H2,W i m H2->((J.stop i H2/\Q (.ref l) H2)\/(J.go i H2/\∀x H3,J.yld i H2 x H3->g x (st Z) H3 λ Z4 H4=>tt Z4 H4 λ ok H5=>
  if ok=true then tb l Z4 H5 λ H6=>∃m',m'<m/\W (i+1) m' H6 else∃m',m'<m/\W (i+1) m' H5))
section
variable{X:Cx}{e tg iter:Expr}{ifs:List Expr}{scope:Scope}{N:List Str}{st:St->St}{ks:List Nat}{wi:TI}{g:TG}{tt:TT}{body:Env->Addr->Sem Unit}{tb:Addr->St->Hp->(Hp->Prop)->Prop}{pos:Pos}{mk:Sem Value}{obs:Obj->Prop}{o:Addr->HO}
def aHV(B:fJ X scope N st ks)(hc:X.calm=true)(hT:aAU 0 e tg iter ifs body)(hS:aAV 0 e)(hA:aHd X.prog X.w mk obs o)(hg:∀C fp z4 zS,PG (X.block scope C N fp z4 zS) tg g)(hgo:qy g ks)(ht:∀C fp z4 zS,aBl (X.block scope C N fp z4 zS) ifs tt)
  (he:∀C fp z4 zS,PB (X.block scope C N fp z4 zS) body tb){Q:VK}{RR:Value->Addr->zER->zAF->Prop}
  (I:Inv X kX Z H1 z5)(T:Turn X.prog X.w X.K tg J fp it tn)(h0:tn 0 z5.heap)(hfp:∀b∈fp,qz X kX H1 b)
  (h:∀l,H1 l=none->∃W:Nat->Nat->Hp->Prop,(∃m,W 0 m (upd H1 l (o l)))/\
   ∀i m H2,W i m H2->((J.stop i H2/\Q (.ref l) H2)\/(J.go i H2/\∀x H3,J.yld i H2 x H3->g x (st Z) H3 λ Z4 H4=>tt Z4 H4 λ ok H5=>
    if ok=true then tb l Z4 H5 λ H6=>∃m',m'<m/\W (i+1) m' H6 else∃m',m'<m/\W (i+1) m' H5)))
  (hRR:∀D C H' s',(∃Z',Inv (X.block scope C N fp z5 H1) [] Z' H' s')->z5.heap.objs.size<=C->Q (.ref D) H'->RR (.ref D) C (.ok .next) s'):
  wpAny (model X.prog X.w) X.A mk (λ acc zC=>wpAny (model X.prog X.w) X.A (zFN scope X.env.globals (bT scope X.env) [] X.env.qual none .none (some X.env)) (λ cenv y3=>
   zCR (model X.prog X.w) X.A (.compStart e 0 (.ref it) acc {cenv with scope:=zGF scope X.env}) (RR acc cenv.locals) y3) E zC) E z5:=by
 refine hA.make λ ob hob=>aDZ λ zD y7 y9 y6=>?_
 dsimp only at y7 y9 y6 ⊢;generalize hH2:z5.heap.push ob=P2 at y7 y9 y6 ⊢;have hC:P2.objs.size=z5.heap.objs.size+1:=by rw[<-hH2,zBD]
 have hDC:z5.heap.objs.size≠P2.objs.size:=by rw[hC];exact zA1 (zBb _)
 have oQ:z5.heap.objs.size<=P2.objs.size:=by rw[hC];exact zCm _
 have old:∀b o,z5.heap.get? b=some o->zD.get? b=some o:=λ b o e=>y9 b o (hH2▸zAC _ e)
 have aS:zD.get? z5.heap.objs.size=some ob:=y9 _ _ (hH2▸zAJ _ (hA.live ob hob));generalize hCe:P2.objs.size=C at y7 y9 y6 hDC oQ hC ⊢;have hHD:H1 z5.heap.objs.size=none:=I.hok.fresh (zAS _);have I0:Inv (X.block scope C N fp z5 H1) [] (st Z) (upd H1 z5.heap.objs.size (o z5.heap.objs.size)) {z5 with heap:=zD,toks:=z5.toks}:=
  I.block B hfp (λ b hb=>by obtain⟨o,e,_⟩:=T.obj 0 _ h0 b hb;exact⟨o,e⟩) (zAS _) oQ hDC old y7 y6 (λ c hc=>zA1 (zHh oQ hc)) (hA.ok hob aS (aN0 I))
 obtain⟨W,⟨m0,w0⟩,step⟩:=h _ hHD;have h01:tn 0 zD:=T.keep 0 _ _ h0 λ b _ o e=>old b o e
 have aI:∀{H':Hp},(∀b∈fp,H' b=none)->∀b∈fp,qz (X.block scope C N fp z5 H1) [] H' b:=λ{H'} hn b hb=>
  ⟨hn b hb,(I0.ok.exf b hb).1,I0.ok.exfs b hb,.inl hb,λ x c e=>(I0.ok.exf b hb).2 x c e,λ p hp=>absurd (show p∈([]:hZ)from hp) (by simp)⟩
 have fr0:∀b∈fp,upd H1 z5.heap.objs.size (o z5.heap.objs.size) b=none:=λ b hb=>by
  obtain⟨o,e,_⟩:=T.obj 0 _ h0 b hb;rw[aQ (zA1 (zAR e))];exact(hfp b hb).1
 have loop:∀sx:zAF,sx={z5 with heap:=zD,toks:=z5.toks}->
   zCR (model X.prog X.w) X.A (.compLoop e 0 (.ref it) (.ref z5.heap.objs.size) (X.block scope C N fp z5 H1).env) (RR (.ref z5.heap.objs.size) C) sx:=by
  rintro sx rfl;refine aAK hT (λ n s'=>∃i H2,Inv (X.block scope C N fp z5 H1) [] (st Z) H2 s'/\tn i s'.heap/\(∀b∈fp,H2 b=none)/\W i n H2) ?_ m0 ⟨0,_,I0,h01,fr0,w0⟩;rintro n s3 ⟨i,H2,I2,st2,fr2,w2⟩;rcases step i n H2 w2 with ⟨stop,q⟩|⟨go,nxt⟩
  .refine thn (T.done (X.block scope C N fp z5 H1) rfl rfl rfl hc i [] s3 (st Z) H2 _ I2 (aI fr2) st2 stop) λ r s4 ⟨hr,I4⟩=>?_
   subst hr;exact hRR _ C H2 s4 ⟨_,I4⟩ oQ q
  .refine thn (T.item (X.block scope C N fp z5 H1) rfl rfl rfl hc i [] s3 (st Z) H2 _ I2 (aI fr2) st2 go) λ r s4 ⟨u,hr,h4⟩=>?_
   subst hr;refine thn h4 λ _ s5 ⟨x,H5,I5,r5,y5,st5,fr5⟩=>?_
   have I5p:=I5.pinned (aI fr5) (T.obj _ _ st5);refine thn (hg C fp z5 H1 _ s5 (st Z) H5 x u _ I5p r5 (hgo _ _ _ _ (nxt x H5 y5))) λ _ s6 ⟨Z6,H6,I6,q6,aIl,ag6⟩=>?_
   refine thn (ht C fp z5 H1 _ s6 Z6 H6 _ I6 q6) λ ok s7 ⟨H7,I7,q7⟩=>?_
   have again:∀{H9:Hp} {s9:zAF},Inv (X.block scope C N fp z5 H1) ([]++rP fp s5.heap) Z6 H9 s9->(∃m',m'<n/\W (i+1) m' H9)->
     ∃m,m<n/\∃i H2,Inv (X.block scope C N fp z5 H1) [] (st Z) H2 s9/\tn i s9.heap/\(∀b∈fp,H2 b=none)/\W i m H2:=λ{H9 s9} I9 ⟨m',hm,w9⟩=>by
    have cE:∀b∈fp,∀o,s5.heap.get? b=some o->s9.heap.get? b=some o/\H9 b=none:=λ b hb o e=>by
     have z:=I9.pin (b,o) (zAd _ (zAd _ (lL hb e)));exact⟨z.1,z.2.1⟩
    refine⟨m',hm,i+1,H9,I9.unpinned.weak (by rw[aIl]) (λ k v e=>?_),T.keep _ _ _ st5 λ b hb o e=>(cE b hb o e).1,λ b hb=>?_,w9⟩
    .have hk:k<(st Z).length:=(zAP.mp e).1
     have hkN:k<N.length:=by rw[<-B.len Z];exact hk
     obtain⟨_,hks,_⟩:=B.val Z k _ v (zAH hkN) e;rw[ag6 k hks];exact e
    .obtain⟨o,e,_⟩:=T.obj _ _ st5 b hb
     exact(cE b hb o e).2
   cases ok with
   |false=>
    rw[if_neg zA0]at q7 ⊢;exact again I7 q7
   |true=>
    rw[if_pos rfl]at q7 ⊢;exact thn (he C fp z5 H1 _ _ s7 Z6 H7 _ I7 q7) λ _ s8 ⟨H8,I8,q8⟩=>again I8 q8
 exact hS (loop _ rfl) (T.self X.A 0 _ _ _ h01 (loop _ rfl))
def aM3(B:fJ X scope N st ks)(hc:X.calm=true)(hi:PI X tg iter wi)(hg:∀C fp z4 zS,PG (X.block scope C N fp z4 zS) tg g)(hgo:qy g ks)(ht:∀C fp z4 zS,aBl (X.block scope C N fp z4 zS) ifs tt)
  (hT:aAU 0 e tg iter ifs body)(hS:aAV 0 e)(hA:aHd X.prog X.w mk obs o)(he:∀C fp z4 zS,PB (X.block scope C N fp z4 zS) body tb)(hcs:clausesOf e=⟨tg,iter,ifs,0⟩::gs)(hev:eval e X.env=comprehension e scope X.env (firstIterPos (⟨tg,iter,ifs,0⟩::gs) pos) mk false (eval iter X.env))(hs:∀x,zBl iter X.env x=pure x:=by intro _;rfl):PE X e (aML o wi st g tt tb):=by
 intro kX s Z H Q I h;have hcl:zGE scope X.env=pure (bT scope X.env):=jf λ y hy hk=>I.ok.has _ (B.free y hy hk)
 rw[hev];refine zE3 (use:=none) hcs hs hcl B.kind B.loc (thn (hi kX s Z H _ I h) λ v s1 h1=>thn h1 λ itv s2 h2=>?_);obtain⟨it,fp,tn,J,H2,e,I2,T,st2,f2,hq⟩:=h2;subst e;refine aHV (RR:=λ acc C=>compPost (model X.prog X.w) X.A X.xe none (EP X kX Z Q) acc C) B hc hT hS hA hg hgo ht he I2 T st2 f2 hq ?_;intro D C H' s' hJ oQ q;have I3:=aAR I2 f2 hJ;obtain⟨Z',J'⟩:=hJ;obtain⟨m,hn,_⟩:=id J'.loc;have hHC:H' C=none:=J'.free;refine⟨m,hn,λ h'' hs''=>⟨.ref D,H',?_,rfl,q⟩⟩;exact I3.turned (t':=s'.toks) (λ b o ne e=>(hs''.2 b ne).trans e) hHC (zB4 (zAW I2.lt oQ)) (.inr (zAn I2.sz oQ))
  (λ x c e z=>by obtain⟨v,ic⟩:=I2.cell x c e;exact absurd (zAW ic.lt (by rw[z];exact oQ)) (zBQ _))
  (λ p hp z=>absurd (zAW (I2.pinL hp) (by rw[z];exact oQ)) (zBQ _))
end
def w5(kx vx:Expr)(env:Env)(D:Addr):Sem Unit:=do
 let kv <-eval kx env;let vv <-zC8 [kv] (eval vx env);zFV {kx.pos with endLine:=vx.pos.endLine,endCol:=vx.pos.endCol}
 zC8 [kv,vv] (dictSet D kv vv)
def aDz(kx vx tg iter:Expr)(ifs:List Expr)(scope:Scope)(pos:Pos):aAU 0 (.DictComp kx vx [⟨tg,iter,ifs,0⟩] scope pos) tg iter ifs (w5 kx vx):=
 ⟨λ _ _ _ _=>rfl,λ _ _ _ _ _=>rfl,λ _ _ _=>rfl⟩
def aBu(kx vx tg iter:Expr)(ifs:List Expr)(scope:Scope)(pos:Pos):aAV 0 (.DictComp kx vx [⟨tg,iter,ifs,0⟩] scope pos):=λ h0 h=>codeAny_compStart_dict h0 h
end L2
namespace VL
open PySem PySem.Spec PyProof.Rows L2
inductive D where
 |non|bl (b:Bool)|int (i:Int)|str (x:Str)|tup (l:List D)|lst (l:List D)|dct (ks vs:List D)|set (l:List Int)|scr (l:List Int)|fn (x:Str)|itm (o:Option Nat) (l:gX)|itx (o:Option Nat) (l:List (List Int×Int))
instance:Inhabited D:=⟨.non⟩
def kD:Key->D
 | .inl i=>.int i
 | .inr x=>.str x
variable{K:zAA}
def nO(K:zAA)(H:Hp)(a:Addr)(ns:List Int):Prop:=(∃o,H a=some (.frz o (.lst (ns.map V.int))))\/
 ∃(o:Obj) (its:Array Value) (n:Nat),K.lookup a=some o/\o.cls= .type "list"/\o.dict=none/\o.data= .seq its n/\its.size<=zAQ/\Vals (ns.map V.int) its.toList
def nO.sq(h:nO K H a ns):SqL K H a (ns.map V.int):=by
 rcases h with h|h
 .exact .inl (.inr h)
 .exact .inr h
def uC(H:Hp)(a:Addr)(oo:Option Nat)(l:gX):Prop:=∃o es ep,o.data= .dict es ep/\(oo=none\/oo=some ep)/\H a=some (.frz o (.dK (l.map λ p=>(.inl p.1,V.int p.2))))
def hsh(ns:List Int):Int:=reduceHash (zIf (ns.map hashInt))
def dxO(a:Addr)(es:List (List Int×Addr×V)):HO:=.ext λ h=>es.length<=zAQ/\(a==zBE)=false/\∃(xs:List (List Int×Addr×Value)) (o:Obj) (ts:Array zDe) (ep:Nat),zHM (λ e x=>e.1=x.1/\e.2.1=x.2.1/\RelV e.2.2 x.2.2) es xs/\
 h.get? a=some o/\o.ExactDict/\o.data= .dict ts ep/\ts.toList=xs.map λ x=>⟨hsh x.1,.ref x.2.1,x.2.2⟩
structure DxK(K:zAA)(H:Hp)(a:Addr)(es:List (List Int×Addr×V)):Prop where
 at_:H a=some (dxO a es)
 ks:∀e∈es,SqT K H e.2.1 (e.1.map V.int)
 nd:(es.map (·.1)).Nodup
def gM(K:zAA)(H:Hp)(a:Addr)(oo:Option Nat)(l:List (List Int×Int)):Prop:=∃o ts ep es,o.data= .dict ts ep/\(oo=none\/oo=some ep)/\(es.map λ e=>(e.1,e.2.2))=(l.map λ p=>(p.1,V.int p.2))/\(es.map (·.1)).Nodup/\(∀e∈es,SqT K H e.2.1 (e.1.map V.int))/\H a=some (.frz o (dxO a es))
mutual
inductive Rp(K:zAA):(Addr->Prop)->Hp->V->D->Prop where
 |non {A:Addr->Prop} {H:Hp}:Rp K A H .non .non
 |bl {A:Addr->Prop} {H:Hp} (b:Bool):Rp K A H (.bl b) (.bl b)
 |int {A:Addr->Prop} {H:Hp} (i:Int):Rp K A H (.int i) (.int i)
 |str {A:Addr->Prop} {H:Hp} (x:Str):Rp K A H (.str x) (.str x)
 |tup {A:Addr->Prop} {H:Hp} {a:Addr} {xs:List V} {ds:List D} (h:SqT K H a xs) (r:Rps K A H xs ds):Rp K A H (.ref a) (.tup ds)
 |lst {A:Addr->Prop} {H:Hp} {a:Addr} {xs:List V} {ds:List D} (h:H a=some (.lst xs)) (m:A a) (r:Rps K (λ p=>A p/\p≠a) H xs ds):Rp K A H (.ref a) (.lst ds)
 |dK {A:Addr->Prop} {H:Hp} {a:Addr} {kvs:List (Key×V)} {ds:List D} (h:H a=some (.dK kvs)) (m:A a) (r:Rps K (λ p=>A p/\p≠a) H (kvs.map (·.2)) ds):Rp K A H (.ref a) (.dct (kvs.map λ p=>kD p.1) ds)
 |dT {A:Addr->Prop} {H:Hp} {a:Addr} {es:List (List Int×Addr×V)} {ds:List D} (h:DxK K H a es) (m:A a) (r:Rps K (λ p=>A p/\p≠a) H (es.map (·.2.2)) ds):Rp K A H (.ref a) (.dct (.non::es.map λ e=>.tup (e.1.map .int)) ds)
 |set {A:Addr->Prop} {H:Hp} {a:Addr} {S:Int->Bool} {l:List Int} (h:H a=some (.set S l.length)) (m:A a) (hS:∀i,S i=decide (i∈l)) (nd:l.Nodup):Rp K A H (.ref a) (.set l)
 |scr {A:Addr->Prop} {H:Hp} {a:Addr} {ns:List Int} (h:nO K H a ns):Rp K A H (.ref a) (.scr ns)
 |fn {A:Addr->Prop} {H:Hp} {a:Addr} {x:Str} (h:zBI K zAj x=some (some (.ref a))):Rp K A H (.ref a) (.fn x)
 |itm {A:Addr->Prop} {H:Hp} {a:Addr} {oo:Option Nat} {l:gX} (h:uC H a oo l):Rp K A H (.ref a) (.itm oo l)
 |itx {A:Addr->Prop} {H:Hp} {a:Addr} {oo:Option Nat} {l:List (List Int×Int)} (h:gM K H a oo l):Rp K A H (.ref a) (.itx oo l)
inductive Rps(K:zAA):(Addr->Prop)->Hp->List V->List D->Prop where
 |nil {A:Addr->Prop} {H:Hp}:Rps K A H [] []
 |cons {A:Addr->Prop} {H:Hp} {x:V} {d:D} {xs:List V} {ds:List D} (h:Rp K A H x d) (r:Rps K A H xs ds):Rps K A H (x::xs) (d::ds)
end
def nO.mono(s:aR H H')(h:nO K H a ns):nO K H' a ns:=by
 rcases h with ⟨o,h⟩|h
 .exact .inl ⟨o,s _ _ h⟩
 .exact .inr h
def uC.mono(h:uC H a oo l)(s:aR H H'):uC H' a oo l:=let⟨o,es,ep,y,z,e⟩:=h;⟨o,es,ep,y,z,s _ _ e⟩
def gM.mono(h:gM K H a oo l)(s:aR H H'):gM K H' a oo l:=let⟨o,ts,ep,es,y,z,q,n,k,e⟩:=h;⟨o,ts,ep,es,y,z,q,n,λ e he=>s.sqt (k e he),s _ _ e⟩
def DxK.mono(h:DxK K H a es)(s:aR H H'):DxK K H' a es:=⟨s _ _ h.at_,λ e he=>s.sqt (h.ks e he),h.nd⟩
def Rp.mono'(s:aR H H')(r:Rp K A H x d)(hA:∀p o,H p=some o->A p->A' p):Rp K A' H' x d:=
 Rp.rec (motive_1:=λ A H x d _=>∀H',aR H H'->∀A':Addr->Prop,(∀p o,H p=some o->A p->A' p)->Rp K A' H' x d) (motive_2:=λ A H xs ds _=>∀H',aR H H'->∀A':Addr->Prop,(∀p o,H p=some o->A p->A' p)->Rps K A' H' xs ds)
  (λ _ _ _ _=>.non) (λ b _ _ _ _=>.bl b) (λ i _ _ _ _=>.int i) (λ x _ _ _ _=>.str x) (λ h _ ih _ s _ hA=>.tup (s.sqt h) (ih _ s _ hA))
  (λ h m _ ih _ s _ hA=>.lst (s _ _ h) (hA _ _ h m) (ih _ s _ λ p o e z=>⟨hA p o e z.1,z.2⟩)) (λ h m _ ih _ s _ hA=>.dK (s _ _ h) (hA _ _ h m) (ih _ s _ λ p o e z=>⟨hA p o e z.1,z.2⟩))
  (λ h m _ ih _ s _ hA=>.dT (h.mono s) (hA _ _ h.at_ m) (ih _ s _ λ p o e z=>⟨hA p o e z.1,z.2⟩)) (λ h m hS nd _ s _ hA=>.set (s _ _ h) (hA _ _ h m) hS nd) (λ h _ s _ _=>.scr (h.mono s)) (λ h _ _ _ _=>.fn h) (λ h _ s _ _=>.itm (h.mono s)) (λ h _ s _ _=>.itx (h.mono s)) (λ _ _ _ _=>.nil) (λ _ _ ih ir _ s _ hA=>.cons (ih _ s _ hA) (ir _ s _ hA)) r H' s A' hA
def Rps.mono'(s:aR H H')(r:Rps K A H xs ds)(hA:∀p o,H p=some o->A p->A' p):Rps K A' H' xs ds:=
 Rps.rec (motive_1:=λ A H x d _=>∀H',aR H H'->∀A':Addr->Prop,(∀p o,H p=some o->A p->A' p)->Rp K A' H' x d) (motive_2:=λ A H xs ds _=>∀H',aR H H'->∀A':Addr->Prop,(∀p o,H p=some o->A p->A' p)->Rps K A' H' xs ds)
  (λ _ _ _ _=>.non) (λ b _ _ _ _=>.bl b) (λ i _ _ _ _=>.int i) (λ x _ _ _ _=>.str x) (λ h _ ih _ s _ hA=>.tup (s.sqt h) (ih _ s _ hA))
  (λ h m _ ih _ s _ hA=>.lst (s _ _ h) (hA _ _ h m) (ih _ s _ λ p o e z=>⟨hA p o e z.1,z.2⟩)) (λ h m _ ih _ s _ hA=>.dK (s _ _ h) (hA _ _ h m) (ih _ s _ λ p o e z=>⟨hA p o e z.1,z.2⟩))
  (λ h m _ ih _ s _ hA=>.dT (h.mono s) (hA _ _ h.at_ m) (ih _ s _ λ p o e z=>⟨hA p o e z.1,z.2⟩)) (λ h m hS nd _ s _ hA=>.set (s _ _ h) (hA _ _ h m) hS nd) (λ h _ s _ _=>.scr (h.mono s)) (λ h _ _ _ _=>.fn h) (λ h _ s _ _=>.itm (h.mono s)) (λ h _ s _ _=>.itx (h.mono s)) (λ _ _ _ _=>.nil) (λ _ _ ih ir _ s _ hA=>.cons (ih _ s _ hA) (ir _ s _ hA)) r H' s A' hA
def Rp.mono(s:aR H H')(hA:∀p o,H p=some o->A p->A' p)(r:Rp K A H x d):Rp K A' H' x d:=r.mono' s hA
def Rps.mono(s:aR H H')(hA:∀p o,H p=some o->A p->A' p)(r:Rps K A H x d):Rps K A' H' x d:=r.mono' s hA
def Rp.up(s:aR H H')(r:Rp K A H x d):Rp K A H' x d:=r.mono s λ _ _ _ h=>h
def Rp.wk(hA:∀p o,H p=some o->A p->A' p)(r:Rp K A H x d):Rp K A' H x d:=r.mono (aR.refl H) hA
def Rps.up(s:aR H H')(r:Rps K A H x d):Rps K A H' x d:=r.mono s λ _ _ _ h=>h
def Rps.wk(hA:∀p o,H p=some o->A p->A' p)(r:Rps K A H x d):Rps K A' H x d:=r.mono (aR.refl H) hA
def gK:HO->Bool
 | .lst _=>true| .dK _=>true| .dT _=>true| .set _ _=>true| .ext _=>true|_=>false
def lA(s:iW l H H')(hl:H l=some o)(ho:gK o=true)(h:SqT K H a xs):SqT K H' a xs:=by
 rcases h with (h|⟨u,h⟩)|h
 .refine .inl (.inl (s _ _ (λ e=>?_) h))
  subst e;rw[hl]at h;cases h;cases ho
 .refine .inl (.inr ⟨u,s _ _ (λ e=>?_) h⟩)
  subst e;rw[hl]at h;cases h;cases ho
 .exact .inr h
def aDD(s:iW l H H')(hl:H l=some o)(ho:gK o=true)(h:nO K H a ns):nO K H' a ns:=by
 rcases h with ⟨u,h⟩|h
 .exact .inl ⟨u,s _ _ (λ e=>by subst e;rw[hl]at h;cases h;cases ho) h⟩
 .exact .inr h
def uC.but(h:uC H a oo q)(s:iW l H H')(hl:H l=some o)(ho:gK o=true):uC H' a oo q:=let⟨u,es,ep,y,z,e⟩:=h;⟨u,es,ep,y,z,s _ _ (λ z=>by subst z;rw[hl]at e;cases e;cases ho) e⟩
def gM.but(h:gM K H a oo q)(s:iW l H H')(hl:H l=some o)(ho:gK o=true):gM K H' a oo q:=let⟨u,ts,ep,es,y,z,q,n,k,e⟩:=h;⟨u,ts,ep,es,y,z,q,n,λ e he=>lA s hl ho (k e he),s _ _ (λ z=>by subst z;rw[hl]at e;cases e;cases ho) e⟩
def DxK.but(h:DxK K H a es)(s:iW l H H')(hl:H l=some o)(ho:gK o=true)(ne:a≠l):DxK K H' a es:=
 ⟨s _ _ ne h.at_,λ e he=>lA s hl ho (h.ks e he),h.nd⟩
def Rp.but'(s:iW l H H')(hl:H l=some o)(ho:gK o=true)(r:Rp K A H x d)(hA:¬A l):Rp K A H' x d:=
 Rp.rec (motive_1:=λ A H x d _=>∀H',iW l H H'->∀o:HO,H l=some o->gK o=true->¬A l->Rp K A H' x d) (motive_2:=λ A H xs ds _=>∀H',iW l H H'->∀o:HO,H l=some o->gK o=true->¬A l->Rps K A H' xs ds)
  (λ _ _ _ _ _ _=>.non) (λ b _ _ _ _ _ _=>.bl b) (λ i _ _ _ _ _ _=>.int i) (λ x _ _ _ _ _ _=>.str x) (λ h _ ih _ s o hl ho hA=>.tup (lA s hl ho h) (ih _ s o hl ho hA))
  (λ h m _ ih _ s o hl ho hA=>.lst (s _ _ (λ e=>hA (e▸m)) h) m (ih _ s o hl ho λ z=>hA z.1)) (λ h m _ ih _ s o hl ho hA=>.dK (s _ _ (λ e=>hA (e▸m)) h) m (ih _ s o hl ho λ z=>hA z.1))
  (λ h m _ ih _ s o hl ho hA=>.dT (h.but s hl ho λ e=>hA (e▸m)) m (ih _ s o hl ho λ z=>hA z.1)) (λ h m hS nd _ s o hl ho hA=>.set (s _ _ (λ e=>hA (e▸m)) h) m hS nd) (λ h _ s o hl ho _=>.scr (aDD s hl ho h)) (λ h _ _ _ _ _ _=>.fn h) (λ h _ s o hl ho _=>.itm (h.but s hl ho)) (λ h _ s o hl ho _=>.itx (h.but s hl ho)) (λ _ _ _ _ _ _=>.nil) (λ _ _ ih ir _ s o hl ho hA=>.cons (ih _ s o hl ho hA) (ir _ s o hl ho hA)) r H' s o hl ho hA
def Rps.but'(s:iW l H H')(hl:H l=some o)(ho:gK o=true)(r:Rps K A H xs ds)(hA:¬A l):Rps K A H' xs ds:=
 Rps.rec (motive_1:=λ A H x d _=>∀H',iW l H H'->∀o:HO,H l=some o->gK o=true->¬A l->Rp K A H' x d) (motive_2:=λ A H xs ds _=>∀H',iW l H H'->∀o:HO,H l=some o->gK o=true->¬A l->Rps K A H' xs ds)
  (λ _ _ _ _ _ _=>.non) (λ b _ _ _ _ _ _=>.bl b) (λ i _ _ _ _ _ _=>.int i) (λ x _ _ _ _ _ _=>.str x) (λ h _ ih _ s o hl ho hA=>.tup (lA s hl ho h) (ih _ s o hl ho hA))
  (λ h m _ ih _ s o hl ho hA=>.lst (s _ _ (λ e=>hA (e▸m)) h) m (ih _ s o hl ho λ z=>hA z.1)) (λ h m _ ih _ s o hl ho hA=>.dK (s _ _ (λ e=>hA (e▸m)) h) m (ih _ s o hl ho λ z=>hA z.1))
  (λ h m _ ih _ s o hl ho hA=>.dT (h.but s hl ho λ e=>hA (e▸m)) m (ih _ s o hl ho λ z=>hA z.1)) (λ h m hS nd _ s o hl ho hA=>.set (s _ _ (λ e=>hA (e▸m)) h) m hS nd) (λ h _ s o hl ho _=>.scr (aDD s hl ho h)) (λ h _ _ _ _ _ _=>.fn h) (λ h _ s o hl ho _=>.itm (h.but s hl ho)) (λ h _ s o hl ho _=>.itx (h.but s hl ho)) (λ _ _ _ _ _ _=>.nil) (λ _ _ ih ir _ s o hl ho hA=>.cons (ih _ s o hl ho hA) (ir _ s o hl ho hA)) r H' s o hl ho hA
def Rp.but(s:iW l H H')(hl:H l=some o)(ho:gK o=true)(hA:¬A l)(r:Rp K A H x d):Rp K A H' x d:=r.but' s hl ho hA
def Rps.but(s:iW l H H')(hl:H l=some o)(ho:gK o=true)(hA:¬A l)(r:Rps K A H x d):Rps K A H' x d:=r.but' s hl ho hA
mutual
def imm:D->Bool
 | .tup l=>uL l
 | .lst _=>false
 | .dct _ _=>false
 | .set _=>false
 |_=>true
def uL:List D->Bool
 |[]=>true
 |d::r=>imm d&&uL r
end
def yQ(e:uL (d::r)=true):imm d=true/\uL r=true:=by
 simp only[uL,zA5]at e;exact e
def aIw(e:imm (.tup l)=true):uL l=true:=by simpa[imm]using e
def aIy(e:imm (.lst l)=true):False:=by simp[imm]at e
def aDb(e:imm (.dct l k)=true):False:=by simp[imm]at e
def aIx(e:imm (.set l)=true):False:=by simp[imm]at e
def Rp.imm'(r:Rp K A H x d)(e:VL.imm d=true):Rp K A' H x d:=
 Rp.rec (motive_1:=λ _ H x d _=>VL.imm d=true->Rp K A' H x d) (motive_2:=λ _ H xs ds _=>uL ds=true->Rps K A' H xs ds)
  (λ _=>.non) (λ b _=>.bl b) (λ i _=>.int i) (λ x _=>.str x) (λ h _ ih e=>.tup h (ih (aIw e)))
  (λ _ _ _ _ e=>(aIy e).elim) (λ _ _ _ _ e=>(aDb e).elim) (λ _ _ _ _ e=>(aDb e).elim) (λ _ _ _ _ e=>(aIx e).elim) (λ h _=>.scr h) (λ h _=>.fn h) (λ h _=>.itm h) (λ h _=>.itx h) (λ _=>.nil) (λ _ _ ih ir e=>.cons (ih (yQ e).1) (ir (yQ e).2)) r e
theorem Rp.imm(r:Rp K A H x d)(h:VL.imm d=true):Rp K A' H x d:=r.imm' h
def Rp.int_inv(r:Rp K A H v (.int i)):v= .int i:=by cases r;rfl
def Rp.bl_inv(r:Rp K A H v (.bl b)):v= .bl b:=by cases r;rfl
def Rp.tup_inv(r:Rp K A H v (.tup ds)):∃a xs,v= .ref a/\SqT K H a xs/\Rps K A H xs ds:=by cases r with|tup h r=>exact⟨_,_,rfl,h,r⟩
def Rp.lst_inv(r:Rp K A H v (.lst ds)):∃a xs,v= .ref a/\H a=some (.lst xs)/\A a/\Rps K (λ p=>A p/\p≠a) H xs ds:=by cases r with|lst h m r=>exact⟨_,_,rfl,h,m,r⟩
def Rp.scr_inv(r:Rp K A H v (.scr ns)):∃a,v= .ref a/\nO K H a ns:=by cases r with|scr h=>exact⟨_,rfl,h⟩
def Rps.one_inv(r:Rps K A H vs [d]):∃v,vs=[v]/\Rp K A H v d:=by cases r with|cons h r=>cases r;exact⟨_,rfl,h⟩
section
variable{A:Addr->Prop}{H:Hp}
theorem Rps.length:∀{xs:List V} {ds:List D},Rps K A H xs ds->xs.length=ds.length:=by
 intro xs ds h;induction xs generalizing ds with
 |nil=>cases h;rfl
 |cons x xs ih=>cases h with|cons _ r=>exact congrArg (·+1) (ih r)
theorem Rps.get:∀{xs:List V} {ds:List D} {i:Nat} {x:V},Rps K A H xs ds->xs[i]? =some x->∃d,ds[i]? =some d/\Rp K A H x d
 |_,_,_,_,.nil,e=>by simp at e
 |_,_,0,_,.cons h _,e=>by simp at e;subst e;exact⟨_,rfl,h⟩
 |_,_,i+1,x,.cons _ r,e=>by
  obtain⟨d,h1,h2⟩:=Rps.get (i:=i) (x:=x) r (by simpa using e);exact⟨d,by simpa using h1,h2⟩
theorem Rps.getD:∀{xs:List V} {ds:List D} {i:Nat} {d:D},Rps K A H xs ds->ds[i]? =some d->∃x,xs[i]? =some x/\Rp K A H x d
 |_,_,_,_,.nil,e=>by simp at e
 |_,_,0,_,.cons h _,e=>by simp at e;subst e;exact⟨_,rfl,h⟩
 |_,_,i+1,d,.cons _ r,e=>by
  obtain⟨x,h1,h2⟩:=Rps.getD (i:=i) (d:=d) r (by simpa using e);exact⟨x,by simpa using h1,h2⟩
def Rps.append:∀{xs ys:List V} {ds es:List D},Rps K A H xs ds->Rps K A H ys es->Rps K A H (xs++ys) (ds++es):=by
 intro xs ys ds es h s;induction xs generalizing ds with
 |nil=>cases h;exact s
 |cons x xs ih=>cases h with|cons h r=>exact .cons h (ih r)
theorem Rps.take:∀{xs:List V} {ds:List D} (n:Nat),Rps K A H xs ds->Rps K A H (xs.take n) (ds.take n)
 |_,_,0,_=>.nil
 |_,_,_+1,.nil=>.nil
 |_,_,n+1,.cons h r=>.cons h (Rps.take n r)
theorem Rps.drop:∀{xs:List V} {ds:List D} (n:Nat),Rps K A H xs ds->Rps K A H (xs.drop n) (ds.drop n)
 |_,_,0,r=>r
 |_,_,_+1,.nil=>.nil
 |_,_,n+1,.cons _ r=>Rps.drop n r
theorem Rps.ints:∀{ns:List Int},Rps K A H (ns.map V.int) (ns.map D.int)
 |[]=>.nil
 |n::ns=>.cons (.int n) Rps.ints
theorem Rps.ints_of:∀{xs:List V} {ns:List Int},Rps K A H xs (ns.map D.int)->xs=ns.map V.int
 |_,[],.nil=>rfl
 |_,n::ns,.cons h r=>by
  cases h;rw[zAD,Rps.ints_of r]
end
def aO(h:a=b):a=b:=h
inductive Rs(α:Type) where
 |ok (a:α)|ex (c:Str)|st
noncomputable def Rs.bd{α β:Type}:Rs α->(α->Rs β)->Rs β
 | .ok a,f=>f a
 | .ex c,_=>.ex c
 | .st,_=>.st
@[simp] def aU(a:α)(f:α->Rs β):(Rs.ok a).bd f=f a:=aO rfl
def dF{r:Rs α}(h:r.bd f= .ok b):∃a,r= .ok a/\f a= .ok b:=by
 cases r with
 |ok a=>exact⟨a,rfl,h⟩
 |ex c=>cases h
 |st=>cases h
inductive Slot where
 |no|sh (d:D)|nw (d:D)|ow (d:D)|oz (d:D)|o2 (l:List (List D))
abbrev En:=List Slot
abbrev Lab:=Addr->Nat×Nat
abbrev Mode:=Option (List Nat)
def inM(m:Mode)(n:Nat):Prop:=match m with
 |none=>True
 |some L=>n∈L
def jn:Mode->Mode->Mode
 |some a,some b=>some (a++b)
 |_,_=>none
def aMj(h:inM a n):inM (jn a b) n:=by
 cases a with
 |none=>cases b<;>exact trivial
 |some L=>
  cases b with
  |none=>exact trivial
  |some M=>exact zAb _ h
def aMi(h:inM b n):inM (jn a b) n:=by
 cases a with
 |none=>cases b<;>exact trivial
 |some L=>
  cases b with
  |none=>exact trivial
  |some M=>exact zAd _ h
def fpM(m:Mode)(lab:Lab)(H:Hp):Addr->Prop:=λ p=>H p=none\/inM m (lab p).1
def aJx(h:fpM a lab H p):fpM (jn a b) lab H p:=h.imp id aMj
def aJw(h:fpM b lab H p):fpM (jn a b) lab H p:=h.imp id aMi
def wL(s:aR H H')(h:fpM m lab H' p):fpM m lab H p:=h.imp (λ z=>s.free z) id
structure Gx where
 H0:Hp
 E:XK
 cl:Str->Addr
def aE4:D->Bool
 | .lst _=>true
 | .dct _ _=>true
 | .set _=>true
 |_=>false
def gq(K:zAA)(H:Hp)(lab:Lab)(i:Nat)(v:V):Slot->Prop
 | .no=>True
 | .sh d=>Rp K (λ p=>(lab p).1<=1) H v d
 | .nw d=>Rp K (λ p=>(lab p).1=1) H v d
 | .ow d=>Rp K (λ p=>(lab p).1=1\/(lab p).1=i+2) H v d/\(aE4 d=true->∃a,v= .ref a/\(lab a).1=i+2)
 | .oz d=>∃a xs ds,v= .ref a/\d= .lst ds/\H a=some (.lst xs)/\(lab a).1=i+2/\Rps K (λ p=>(lab p).1<=1) H xs ds
 | .o2 l=>∃a xs,v= .ref a/\H a=some (.lst xs)/\lab a=(i+2,0)/\xs.length=l.length/\∀(j:Nat) x ds,xs[j]? =some x->l[j]? =some ds->Rp K (λ p=>lab p=(i+2,j+1)) H x (.lst ds)
structure RR(K:zAA)(G:Gx)(U:List (V×D))(ρ:En)(Z:L2.St)(H:Hp)(lab:Lab):Prop where
 len:Z.length=ρ.length
 sl:∀(i:Nat) (s:Slot),ρ[i]? =some s->s= .no\/∃v,Z[i]? =some (some v)/\gq K H lab i v s
 old:aR G.H0 H
 new:∀p,(lab p).1≠0->G.H0 p=none
 tm:∀q∈U,Rp K (λ p=>(lab p).1<=1) H q.1 q.2
theorem gq.up(s:aR H H')(h:gq K H lab i v x):gq K H' lab i v x:=by
 cases x with
 |no=>exact trivial
 |sh d=>exact Rp.up s h
 |nw d=>exact Rp.up s h
 |ow d=>exact⟨Rp.up s h.1,h.2⟩
 |oz d=>
  obtain⟨a,xs,ds,e1,e2,e3,e4,e5⟩:=h;exact⟨a,xs,ds,e1,e2,s _ _ e3,e4,e5.up s⟩
 |o2 l=>
  obtain⟨a,xs,e1,e2,e3,e4,e5⟩:=h;exact⟨a,xs,e1,s _ _ e2,e3,e4,λ j x ds f1 f2=>(e5 j x ds f1 f2).up s⟩
def aFa(r:Rp K A H (.ref a) d)(hm:aE4 d=true):∃o,H a=some o/\gK o=true/\A a:=by
 cases r with
 |lst h m _=>exact⟨_,h,rfl,m⟩
 |dK h m _=>exact⟨_,h,rfl,m⟩
 |dT h m _=>exact⟨_,h.at_,rfl,m⟩
 |set h m _ _=>exact⟨_,h,rfl,m⟩
 |tup _ _=>cases hm
 |scr _=>cases hm
 |fn _=>cases hm
 |itm _=>cases hm
 |itx _=>cases hm
def aKa(r:Rp K A H v d)(hm:aE4 d=true):∃a,v= .ref a:=by
 cases r with
 |lst h m _=>exact⟨_,rfl⟩
 |dK h m _=>exact⟨_,rfl⟩
 |dT h m _=>exact⟨_,rfl⟩
 |set h m _ _=>exact⟨_,rfl⟩
 |_=>cases hm
theorem gq.lab{lab lab':Lab}(hl:∀p o,H p=some o->lab' p=lab p)(h:gq K H lab i v x):gq K H lab' i v x:=by
 cases x with
 |no=>exact trivial
 |sh d=>exact Rp.wk (λ p o e q=>(hl p o e).symm▸q) h
 |nw d=>exact Rp.wk (λ p o e q=>(hl p o e).symm▸q) h
 |ow d=>
  obtain⟨h,t⟩:=h;refine⟨Rp.wk (λ p o e q=>(hl p o e).symm▸q) h,λ m=>?_⟩;obtain⟨a,rfl,ea⟩:=t m;obtain⟨o,ho,_⟩:=aFa h m;exact⟨a,rfl,(congrArg (·.1) (hl a o ho)).trans ea⟩
 |oz d=>
  obtain⟨a,xs,ds,e1,e2,e3,e4,e5⟩:=h;exact⟨a,xs,ds,e1,e2,e3,(congrArg (·.1) (hl _ _ e3)).trans e4,Rps.wk (λ p o e q=>(hl p o e).symm▸q) e5⟩
 |o2 l=>
  obtain⟨a,xs,e1,e2,e3,e4,e5⟩:=h;exact⟨a,xs,e1,e2,(hl _ _ e2).trans e3,e4,λ j x ds f1 f2=>Rp.wk (λ p o e q=>(hl p o e).symm▸q) (e5 j x ds f1 f2)⟩
section
variable{G:Gx}{U:List (V×D)}{ρ:En}{Z:L2.St}{H H':Hp}{lab lab':Lab}
theorem RR.up(R:RR K G U ρ Z H lab)(s:aR H H'):RR K G U ρ Z H' lab:=
 ⟨R.len,λ i x e=>(R.sl i x e).imp id λ⟨v,e1,e2⟩=>⟨v,e1,e2.up s⟩,R.old.trans s,R.new,λ q hq=>(R.tm q hq).up s⟩
def RR.relab(R:RR K G U ρ Z H lab)(hl:∀p o,H p=some o->lab' p=lab p)(hn:∀p,(lab' p).1≠0->G.H0 p=none):RR K G U ρ Z H lab':=
 ⟨R.len,λ i x e=>(R.sl i x e).imp id λ⟨v,e1,e2⟩=>⟨v,e1,e2.lab hl⟩,R.old,hn,λ q hq=>Rp.wk (λ p o e z=>by rw[hl p o e];exact z) (R.tm q hq)⟩
def RR.drop(R:RR K G (U'++U) ρ Z H lab):RR K G U ρ Z H lab:=⟨R.len,R.sl,R.old,R.new,λ z hz=>R.tm z (zAd _ hz)⟩
def RR.put(R:RR K G U ρ Z H lab)(h:gq K H lab i v s):RR K G U (ρ.set i s) (Z.set i (some v)) H lab:=by
 refine⟨by rw[zB7,zB7,R.len],λ j x e=>?_,R.old,R.new,R.tm⟩;by_cases hj:i=j
 .subst hj
  have hi:i<ρ.length:=by
   have:=(zAP.mp e).1
   rwa [zB7]at this
  rw[zCB hi]at e;cases e;exact .inr ⟨v,by rw[zCB (by rw[R.len];exact hi)],h⟩
 .rw[zB8 hj]at e
  rcases R.sl j x e with z|⟨u,e1,e2⟩
  .exact .inl z
  .exact .inr ⟨u,by rw[zB8 hj];exact e1,e2⟩
def bG(H:Hp)(n:Nat)(lab:Lab):Lab:=λ p=>match H p with
 |none=>(n,0)
 |some _=>lab p
def aj(h:H p=some o):bG H n lab p=lab p:=by unfold bG;rw[h]
def v8(h:H p=none):bG H n lab p=(n,0):=by unfold bG;rw[h]
def RR.fresh{P:Nat->Prop}(h1:P 1)(hm:∀k,inM m k->P k)(R:RR K G U ρ Z H lab)(s:aR H H')(r:Rp K (fpM m lab H) H' v d):
  RR K G U ρ Z H' (bG H 1 lab)/\Rp K (λ p=>P (bG H 1 lab p).1) H' v d:=by
 refine⟨(R.relab (λ p o e=>aj e) λ p hp=>?_).up s,Rp.wk (λ p o e z=>?_) r⟩
 .cases e:H p with
  |none=>exact R.old.free e
  |some o=>rw[aj e]at hp;exact R.new p hp
 .rcases z with z|z
  .rw[v8 z];exact h1
  .cases e:H p with
   |none=>rw[v8 e];exact h1
   |some o=>rw[aj e];exact hm _ z
def RR.freshO(i:Nat)(hm:∀k,inM m k->k=1\/k=i+2)(R:RR K G U ρ Z H lab)(s:aR H H')(r:Rp K (fpM m lab H) H' v d)(ht:aE4 d=true->∃a,v= .ref a/\H a=none):
  ∃lab',RR K G U ρ Z H' lab'/\gq K H' lab' i v (.ow d):=by
 obtain⟨R',r'⟩:=R.fresh (P:=λ k=>k=1\/k=i+2) (.inl rfl) hm s r;cases hd:aE4 d with
 |false=>exact⟨_,R',r',λ z=>absurd z (by simp[hd])⟩
 |true=>
  obtain⟨a,rfl,ha⟩:=ht hd;refine⟨λ p=>if p=a then(i+2,0)else bG H 1 lab p,?_,Rp.wk (λ p o e z=>?_) r',λ _=>⟨a,rfl,by show(if a=a then((i+2,0):Nat×Nat)else bG H 1 lab a).1=i+2;rw[if_pos rfl]⟩⟩
  .refine(R.relab (lab':=λ p=>if p=a then(i+2,0)else bG H 1 lab p) (λ p o e=>?_) λ p hp=>?_).up s
   .rw[if_neg (λ z=>by subst z;rw[ha]at e;cases e),aj e]
   .by_cases z:p=a
    .subst z;exact R.old.free ha
    .rw[if_neg z]at hp;exact R'.new p hp
  .dsimp only
   by_cases q:p=a
   .rw[if_pos q];exact .inr rfl
   .rw[if_neg q];exact z
def aJt(h:gq K H lab i v (.oz d)):Rp K (λ p=>(lab p).1<=1\/(lab p).1=i+2) H v d:=by
 obtain⟨a,xs,ds,rfl,rfl,h1,h2,h3⟩:=h;exact .lst h1 (.inr h2) (h3.wk λ p o e z=>⟨.inl z,λ q=>by subst q;lia⟩)
end
structure Ct where
 ι:Type
 X:ι->Cx
 prog:zAV
 w:World
 K:zAA
 mg:Str->Option Value
 base:Heap
 k:Nat
 G:Gx
 cx:∀i,(X i).prog=prog/\(X i).w=w/\(X i).K=K/\(X i).mg=mg/\(X i).base=base
 calm:∀i,(X i).calm=true
 room:∀i,jN k (X i).A
 own:∀i,zIC (model (X i).prog (X i).w) (X i).A (X i).env (X i).xe
 pass:∀i,aAW (CX1 (X i).prog (X i).w) (X i) G.E
 dOk:Bool
 dcx:dOk=true->∀i,gA (X i) G.E
def Ct.hK(C:Ct)(i:C.ι):(C.X i).K=C.K:=(C.cx i).2.2.1
def WR{α:Type}(G:Gx)(r:Rs α)(P:α->Prop):Prop:=match r with
 | .ok a=>P a
 | .ex c=>∀H',aR G.H0 H'->G.E (.ref (G.cl c)) none H'
 | .st=>False
theorem WR.bd(h:WR G (r.bd k) P):WR G r (λ a=>WR G (k a) P):=by
 cases r with
 |ok a=>exact h
 |ex c=>exact h
 |st=>exact h
def WR.imp(h:WR G r P)(f:∀a,r= .ok a->P a->P' a):WR G r P':=by
 cases r with
 |ok a=>exact f a rfl h
 |ex c=>exact h
 |st=>exact h
abbrev QE(K:zAA)(m:Mode)(lab:Lab)(H:Hp)(Q:VK):D->Prop:=λ d=>∀v H',aR H H'->Rp K (fpM m lab H) H' v d->Q v H'
abbrev QA(K:zAA)(m:Mode)(lab:Lab)(H:Hp)(Q:List V->Hp->Prop):List D->Prop:=λ ds=>∀vs H',aR H H'->Rps K (fpM m lab H) H' vs ds->Q vs H'
abbrev QT(H:Hp)(Q:Bool->Hp->Prop):Bool->Prop:=λ b=>∀H',aR H H'->Q b H'
def iR(K:zAA)(G:Gx)(m:Mode)(t:TE)(f:En->Rs D):Prop:=∀U Z H ρ lab (Q:VK),RR K G U ρ Z H lab->WR G (f ρ) (QE K m lab H Q)->t Z H Q
def aJ2(K:zAA)(G:Gx)(m:Mode)(t:TA)(f:En->Rs (List D)):Prop:=∀U Z H ρ lab (Q:List V->Hp->Prop),RR K G U ρ Z H lab->WR G (f ρ) (QA K m lab H Q)->t Z H Q
def aCm(K:zAA)(G:Gx)(t:TT)(f:En->Rs Bool):Prop:=∀U Z H ρ lab (Q:Bool->Hp->Prop),RR K G U ρ Z H lab->WR G (f ρ) (QT H Q)->t Z H Q
def SE(C:Ct)(m:Mode)(e:Expr)(f:En->Rs D):Prop:=∃t,(∀i,PE (C.X i) e t)/\iR C.K C.G m t f
def SA(C:Ct)(m:Mode)(es:List Expr)(f:En->Rs (List D)):Prop:=∃t,(∀i,PA (C.X i) es t)/\aJ2 C.K C.G m t f
def ST(C:Ct)(e:Expr)(f:En->Rs Bool):Prop:=∃t,(∀i,PT (C.X i) e t)/\aCm C.K C.G t f
def SW(C:Ct)(e:Expr)(f:En->Rs Bool):Prop:=∃t,(∀i,PW (C.X i) e t)/\aCm C.K C.G t f
def SW.st(h:SW C e f):ST C e f:=let⟨t,h1,h2⟩:=h;⟨t,λ i=>(h1 i).pt,h2⟩
def bw(i:Nat):En->Rs D:=λ ρ=>match ρ[i]? with
 |some (.sh d)=>.ok d
 |some (.nw d)=>.ok d
 |some (.ow d)=>.ok d
 |some (.oz d)=>.ok d
 |some (.o2 l)=>.ok (.lst (l.map .lst))
 |_=>.st
def aC(i:Nat):En->Rs D:=λ ρ=>match ρ[i]? with
 |some (.sh d)=>.ok d
 |some (.nw d)=>.ok d
 |_=>.st
def uE(i:Nat):En->Rs D:=λ ρ=>match ρ[i]? with
 |some (.nw d)=>.ok d
 |_=>.st
def aA1(i:Nat):En->Rs D:=λ ρ=>match ρ[i]? with
 |some (.ow d)=>.ok d
 |some (.o2 l)=>.ok (.lst (l.map .lst))
 |_=>.st
def cD(d:D):En->Rs D:=λ _=>.ok d
def aGU{K:zAA}{H:Hp}{lab:Lab}{i:Nat}{v:V}{l:List (List D)}(h:gq K H lab i v (.o2 l)):Rp K (λ p=>(lab p).1=i+2) H v (.lst (l.map .lst)):=by
 obtain⟨a,xs,rfl,ha,hla,kK,hin⟩:=h;refine .lst ha (by rw[hla]) ?_;have go:∀(xs:List V) (l:List (List D)) (n:Nat),xs.length=l.length->0<n->(∀(j:Nat) x ds,xs[j]? =some x->l[j]? =some ds->Rp K (λ p=>lab p=(i+2,n+j)) H x (.lst ds))->Rps K (λ p=>(lab p).1=i+2/\p≠a) H xs (l.map .lst):=by
  intro xs;induction xs with
  |nil=>intro l n hl _ _;cases l with|nil=>exact .nil|cons _ _=>simp at hl
  |cons x xs ih=>
   intro l n hl hn h;cases l with
   |nil=>simp at hl
   |cons ds l=>
    refine .cons (Rp.wk (λ p o e z=>⟨by rw[z],λ e=>by rw[e,hla]at z;have z2:(0:Nat)=n+0:=congrArg zH2 z;lia⟩) (h 0 x ds rfl rfl)) (ih l (n+1) (by simpa using hl) (by lia) λ j y es e1 e2=>?_);have z:=h (j+1) y es (by simpa using e1) (by simpa using e2);rw[show n+1+j=n+(j+1)by lia];exact z
 exact go xs l 1 kK (by lia) λ j x ds e1 e2=>by have z:=hin j x ds e1 e2;rw[show 1+j=j+1 by lia];exact z
section
variable{C:Ct}{pos:Pos}
def aCv(K:zAA)(G:Gx)(i:Nat):iR K G (some [0,1,i+2]) (jg i) (bw i):=by
 intro U Z H ρ lab Q R W;unfold bw at W;cases e:ρ[i]? with
 |none=>rw[e]at W;exact W.elim
 |some s=>
  rw[e]at W;rcases R.sl i s e with rfl|⟨v,ev,hv⟩
  .exact zAI W
  .cases s with
   |no=>exact zAI W
   |sh d=>exact⟨v,ev,W v H (aR.refl H) (Rp.wk (λ p o e z=>.inr (by show(lab p).1∈[0,1,i+2];rcases(show(lab p).1=0\/(lab p).1=1 by lia)with q|q<;>rw[q]<;>simp)) hv)⟩
   |nw d=>exact⟨v,ev,W v H (aR.refl H) (Rp.wk (λ p o e z=>.inr (by show(lab p).1∈[0,1,i+2];rw[z];simp)) hv)⟩
   |ow d=>exact⟨v,ev,W v H (aR.refl H) (Rp.wk (λ p o e z=>.inr (by show(lab p).1∈[0,1,i+2];rcases z with q|q<;>rw[q]<;>simp)) hv.1)⟩
   |oz d=>exact⟨v,ev,W v H (aR.refl H) (Rp.wk (λ p o e z=>.inr (by show(lab p).1∈[0,1,i+2];rcases(show(lab p).1=0\/(lab p).1=1\/(lab p).1=i+2 by lia)with q|q|q<;>rw[q]<;>simp)) (aJt hv))⟩
   |o2 l=>exact⟨v,ev,W v H (aR.refl H) (Rp.wk (λ p o e z=>.inr (by show(lab p).1∈[0,1,i+2];rw[z];simp)) (aGU hv))⟩
def aFT(K:zAA)(G:Gx)(i:Nat):iR K G (some [0,1]) (jg i) (aC i):=by
 intro U Z H ρ lab Q R W;unfold aC at W;cases e:ρ[i]? with
 |none=>rw[e]at W;exact W.elim
 |some s=>
  rw[e]at W;rcases R.sl i s e with rfl|⟨v,ev,hv⟩
  .exact zAI W
  .cases s with
   |sh d=>exact⟨v,ev,W v H (aR.refl H) (Rp.wk (λ p o e z=>.inr (by show(lab p).1∈[0,1];rcases(show(lab p).1=0\/(lab p).1=1 by lia)with q|q<;>rw[q]<;>simp)) hv)⟩
   |nw d=>exact⟨v,ev,W v H (aR.refl H) (Rp.wk (λ p o e z=>.inr (by show(lab p).1∈[0,1];rw[z];simp)) hv)⟩
   |_=>exact zAI W
def aFV(K:zAA)(G:Gx)(i:Nat):iR K G (some [1]) (jg i) (uE i):=by
 intro U Z H ρ lab Q R W;unfold uE at W;cases e:ρ[i]? with
 |none=>rw[e]at W;exact W.elim
 |some s=>
  rw[e]at W;rcases R.sl i s e with rfl|⟨v,ev,hv⟩
  .exact zAI W
  .cases s with
   |nw d=>exact⟨v,ev,W v H (aR.refl H) (Rp.wk (λ p o e z=>.inr (by show(lab p).1∈[1];rw[z];simp)) hv)⟩
   |_=>exact zAI W
def aFU(K:zAA)(G:Gx)(i:Nat):iR K G (some [1,i+2]) (jg i) (aA1 i):=by
 intro U Z H ρ lab Q R W;unfold aA1 at W;cases e:ρ[i]? with
 |none=>rw[e]at W;exact W.elim
 |some s=>
  rw[e]at W;rcases R.sl i s e with rfl|⟨v,ev,hv⟩
  .exact zAI W
  .cases s with
   |ow d=>exact⟨v,ev,W v H (aR.refl H) (Rp.wk (λ p o e z=>.inr (by show(lab p).1∈[1,i+2];rcases z with q|q<;>rw[q]<;>simp)) hv.1)⟩
   |o2 l=>exact⟨v,ev,W v H (aR.refl H) (Rp.wk (λ p o e z=>.inr (by show(lab p).1∈[1,i+2];rw[z];simp)) (aGU hv))⟩
   |_=>exact zAI W
def j7(i:Nat)(hN:∀j,(C.X j).N[i]? =some x:=by intro _;rfl)(hv:∀j,Vis (C.X j).env.scope x:=by intro _;first|exact zBq rfl|exact zBR (zBq rfl)|exact zBR (zBR rfl))(hd:Nd x:=by decide)
  (hcd:(x==("__classdict__":Str))=false:=by decide):SE C (some [0,1,i+2]) (.Name x pos) (bw i):=⟨_,λ j=>eU (hN j) (hv j) hd hcd,aCv _ _ i⟩
def aA(i:Nat)(hN:∀j,(C.X j).N[i]? =some x:=by intro _;rfl)(hv:∀j,Vis (C.X j).env.scope x:=by intro _;first|exact zBq rfl|exact zBR (zBq rfl)|exact zBR (zBR rfl))(hd:Nd x:=by decide)
  (hcd:(x==("__classdict__":Str))=false:=by decide):SE C (some [0,1]) (.Name x pos) (aC i):=⟨_,λ j=>eU (hN j) (hv j) hd hcd,aFT _ _ i⟩
def zH(i:Nat)(hN:∀j,(C.X j).N[i]? =some x:=by intro _;rfl)(hv:∀j,Vis (C.X j).env.scope x:=by intro _;first|exact zBq rfl|exact zBR (zBq rfl)|exact zBR (zBR rfl))(hd:Nd x:=by decide)
  (hcd:(x==("__classdict__":Str))=false:=by decide):SE C (some [1]) (.Name x pos) (uE i):=⟨_,λ j=>eU (hN j) (hv j) hd hcd,aFV _ _ i⟩
def zG(i:Nat)(hN:∀j,(C.X j).N[i]? =some x:=by intro _;rfl)(hv:∀j,Vis (C.X j).env.scope x:=by intro _;first|exact zBq rfl|exact zBR (zBq rfl)|exact zBR (zBR rfl))(hd:Nd x:=by decide)
  (hcd:(x==("__classdict__":Str))=false:=by decide):SE C (some [1,i+2]) (.Name x pos) (aA1 i):=⟨_,λ j=>eU (hN j) (hv j) hd hcd,aFU _ _ i⟩
def aH:SE C (some []) (.Constant (.int i) j pos) (cD (.int i)):=⟨_,λ _=>aKx,λ U Z H ρ lab Q R W=>W _ H (aR.refl H) (.int i)⟩
def gP:SE C (some []) (.Constant (.bool b) j pos) (cD (.bl b)):=⟨_,λ _=>aM4,λ U Z H ρ lab Q R W=>W _ H (aR.refl H) (.bl b)⟩
def aKY:SE C (some []) (.Constant (.str x) j pos) (cD (.str x)):=⟨_,λ _=>aKt,λ U Z H ρ lab Q R W=>W _ H (aR.refl H) (.str x)⟩
def aHu(hm:C.mg x=some u)(r:RelV v u)(hd:∀A H,Rp C.K A H v d)(hdb:Nd x:=by decide)(hg:∀i,Gl (C.X i) x:=by intro _;rfl):SE C (some []) (.Name x pos) (cD d):=
 ⟨_,λ i=>aIU (hg i) (by rw[(C.cx i).2.2.2.1];exact hm) r hdb,λ U Z H ρ lab Q R W=>W _ H (aR.refl H) (hd _ _)⟩
def aJH(d:D):Rs D:=if imm d=true then .ok d else .st
def bJ(f:En->Rs D):En->Rs D:=λ ρ=>(f ρ).bd aJH
def cG(h:SE C m e f):SE C (some []) e (bJ f):=by
 obtain⟨t,h1,h2⟩:=h;refine⟨t,h1,λ U Z H ρ lab Q R W=>h2 U Z H ρ lab Q R (W.bd.imp λ d _ w v H' s r=>?_)⟩;unfold aJH at w;by_cases hd:imm d=true
 .rw[if_pos hd]at w
  exact w v H' s (r.imm hd)
 .rw[if_neg hd]at w
  exact zAI w
def aG:En->Rs (List D):=λ _=>.ok []
def aB(f:En->Rs D)(g:En->Rs (List D)):En->Rs (List D):=λ ρ=>(f ρ).bd λ d=>(g ρ).bd λ ds=>.ok (d::ds)
variable{m m1 m2:Mode}{e a b:Expr}{es:List Expr}{f fa fb:En->Rs D}{g:En->Rs (List D)}
def aF:SA C (some []) [] aG:=⟨_,λ _=>jF,λ U Z H ρ lab Q R W=>W _ H (aR.refl H) .nil⟩
def aD(h:SE C m1 e f)(hr:SA C m2 es g)(hs:∀i,zAU (e::es) (C.X i).env=(false,eval e (C.X i).env)::zAU es (C.X i).env:=by intro _;rfl):SA C (jn m1 m2) (e::es) (aB f g):=by
 obtain⟨t,h1,h2⟩:=h;obtain⟨u,k1,k2⟩:=hr;refine⟨_,λ i=>bz (h1 i) (k1 i) (hs i),λ U Z H ρ lab Q R W=>?_⟩;refine h2 U Z H ρ lab _ R (W.bd.imp λ d _ w x H1 s1 r1=>?_);refine k2 U Z H1 ρ lab _ (R.up s1) (w.bd.imp λ ds _ w xs H2 s2 r2=>?_);exact w (x::xs) H2 (s1.trans s2) (.cons (r1.mono s2 λ p o _ z=>aJx z) (r2.wk λ p o _ z=>aJw (wL s1 z)))
def cF(g:En->Rs (List D)):En->Rs D:=λ ρ=>(g ρ).bd λ ds=>if ds.length<=zAQ then .ok (.tup ds)else .st
def pI(g:En->Rs (List D)):En->Rs D:=λ ρ=>(g ρ).bd λ ds=>if ds.length<=zAQ then .ok (.lst ds)else .st
def cQ{x1}(h:SA C m es g):SE C m (.Tuple es x1 pos) (cF g):=by
 obtain⟨t,h1,h2⟩:=h;refine⟨_,λ i=>aIT (h1 i),λ U Z H ρ lab Q R W=>h2 U Z H ρ lab _ R (W.bd.imp λ ds _ w xs H1 s1 r1=>?_)⟩;by_cases hz:ds.length<=zAQ
 .rw[if_pos hz]at w
  exact⟨by rw[r1.length];exact hz,λ p H' s hp _=>w _ H' (s1.trans s) (.tup (SqT.of hp) (r1.up s))⟩
 .rw[if_neg hz]at w
  exact zAI w
def zL(h:SA C m es g):SE C m (.List es pos) (pI g):=by
 obtain⟨t,h1,h2⟩:=h;refine⟨_,λ i=>z7 (h1 i),λ U Z H ρ lab Q R W=>h2 U Z H ρ lab _ R (W.bd.imp λ ds _ w xs H1 s1 r1=>?_)⟩;by_cases hz:ds.length<=zAQ
 .rw[if_pos hz]at w
  exact⟨by rw[r1.length];exact hz,λ p H' s hp hn=>w _ H' (s1.trans s) (.lst hp (.inl (s1.free hn)) ((r1.wk λ q o e z=>⟨z,λ e'=>by subst e';rw[hn]at e;cases e⟩).up s))⟩
 .rw[if_neg hz]at w
  exact zAI w
def aDC:SE C (some []) (.Dict [] [] pos) (cD (.dct [] [])):=
 ⟨_,λ _=>aGH,λ U Z H ρ lab Q R W p H' s hp hn=>W _ H' s (.dK (kvs:=[]) hp (.inl hn) .nil)⟩
def aNL(H:Hp)(v:V)(d:D):Prop:=aE4 d=true->∃a,v= .ref a/\H a=none
def aLw(K:zAA)(G:Gx)(m:Mode)(t:TE)(f:En->Rs D):Prop:=∀U Z H ρ lab (Q:VK),RR K G U ρ Z H lab->WR G (f ρ) (λ d=>∀v H',aR H H'->Rp K (fpM m lab H) H' v d->aNL H v d->Q v H')->t Z H Q
def SF(C:Ct)(m:Mode)(e:Expr)(f:En->Rs D):Prop:=∃t,(∀i,PE (C.X i) e t)/\aLw C.K C.G m t f
def iR.toF{K:zAA}{G:Gx}{t:TE}{f:En->Rs D}(h:iR K G (some []) t f):aLw K G (some []) t f:=λ U Z H ρ lab Q R W=>
 h U Z H ρ lab Q R (W.imp λ d _ w v H' s r=>w v H' s r λ hm=>by
  obtain⟨a,rfl⟩:=aKa r hm;obtain⟨o,_,_,z⟩:=aFa r hm;rcases z with z|z
  .exact⟨a,rfl,z⟩
  .cases z)
def aHo(h:SE C (some []) e f):SF C (some []) e f:=let⟨t,h1,h2⟩:=h;⟨t,h1,h2.toF⟩
def aBy(h:SA C m es g):SF C m (.List es pos) (pI g):=by
 obtain⟨t,h1,h2⟩:=h;refine⟨_,λ i=>z7 (h1 i),λ U Z H ρ lab Q R W=>h2 U Z H ρ lab _ R (W.bd.imp λ ds _ w xs H1 s1 r1=>?_)⟩;by_cases hz:ds.length<=zAQ
 .rw[if_pos hz]at w
  exact⟨by rw[r1.length];exact hz,λ p H' s hp hn=>w _ H' (s1.trans s) (.lst hp (.inl (s1.free hn)) ((r1.wk λ q o e z=>⟨z,λ e'=>by subst e';rw[hn]at e;cases e⟩).up s)) λ _=>⟨p,rfl,s1.free hn⟩⟩
 .rw[if_neg hz]at w
  exact zAI w
def OpS(K:zAA)(r:R2)(fd:D->D->Rs D):Prop:=∀(A:Addr->Prop) x y d e H (Q:VK) z,Rp K A H x d->Rp K A H y e->fd d e= .ok z->(∀v H',aR H H'->Rp K (λ p=>H p=none\/A p) H' v z->Q v H')->r x y H Q
def uD(K:zAA)(r:List V->Hp->VK->Prop)(fd:List D->Rs D):Prop:=∀(A:Addr->Prop) xs ds H (Q:VK) z,Rps K A H xs ds->fd ds= .ok z->(∀v H',aR H H'->Rp K (λ p=>H p=none\/A p) H' v z->Q v H')->r xs H Q
def okD(r:Rs D):Rs D:=match r with
 | .ok d=>.ok d
 |_=>.st
def op2(fd:D->D->Rs D)(fa fb:En->Rs D):En->Rs D:=λ ρ=>(fa ρ).bd λ x=>(fb ρ).bd λ y=>okD (fd x y)
def op1(fd:D->Rs D)(fa:En->Rs D):En->Rs D:=λ ρ=>(fa ρ).bd λ x=>okD (fd x)
def opA(fd:List D->Rs D)(fa:En->Rs (List D)):En->Rs D:=λ ρ=>(fa ρ).bd λ x=>okD (fd x)
theorem WR.okD(h:WR G (okD r) P):∃z,r= .ok z/\P z:=by
 cases r with
 |ok z=>exact⟨z,rfl,h⟩
 |ex c=>exact zAI h
 |st=>exact zAI h
def zF{K:zAA}{G:Gx}{r:R2}{ta tb:TE}{fd:D->D->Rs D}(hs:OpS K r fd)(h1:iR K G m1 ta fa)(h2:iR K G m2 tb fb):iR K G (jn m1 m2) (tOp r ta tb) (op2 fd fa fb):=by
 intro U Z H ρ lab Q R W;refine h1 U Z H ρ lab _ R (W.bd.imp λ d _ w x H1 s1 r1=>?_);refine h2 U Z H1 ρ lab _ (R.up s1) (w.bd.imp λ e _ w y H2 s2 r2=>?_);obtain⟨z,ez,w⟩:=w.okD;refine hs (fpM (jn m1 m2) lab H) x y d e H2 Q z (r1.mono s2 λ p o _ q=>aJx q) (r2.wk λ p o _ q=>aJw (wL s1 q)) ez λ v H' s r=>w v H' ((s1.trans s2).trans s) (r.wk λ p o _ q=>?_)
 rcases q with q|q
 .exact .inl ((s1.trans s2).free q)
 .exact q
def aCw{K:zAA}{G:Gx}{r:List V->Hp->VK->Prop}{ta:TA}{fd:List D->Rs D}(hs:uD K r fd)(h1:aJ2 K G m ta g):iR K G m (tCB r ta) (opA fd g):=by
 intro U Z H ρ lab Q R W;refine h1 U Z H ρ lab _ R (W.bd.imp λ d _ w x H1 s1 r1=>?_);obtain⟨z,ez,w⟩:=w.okD;refine hs (fpM m lab H) x d H1 Q z r1 ez λ v H' s r=>w v H' (s1.trans s) (r.wk λ p o _ q=>?_)
 rcases q with q|q
 .exact .inl (s1.free q)
 .exact q
def gW(h:SE C m e f)(hi:∀ρ d,f ρ= .ok d->imm d=true):SE C (some []) e f:=by
 obtain⟨t,h1,h2⟩:=h;exact⟨t,h1,λ U Z H ρ lab Q R W=>h2 U Z H ρ lab Q R (W.imp λ d ed w v H' s r=>w v H' s (r.imm (hi ρ d ed)))⟩
def jW(h:∀x y z,fd x y= .ok z->imm z=true)(e:op2 fd fa fb ρ= .ok d):imm d=true:=by
 obtain⟨x,_,e⟩:=dF e;obtain⟨y,_,e⟩:=dF e;unfold okD at e;split at e
 .rename_i z hz
  cases e;exact h x y _ hz
 .cases e
def qN(h:∀x z,fd x= .ok z->imm z=true)(e:opA fd g ρ= .ok d):imm d=true:=by
 obtain⟨x,_,e⟩:=dF e;unfold okD at e;split at e
 .rename_i z hz
  cases e;exact h x _ hz
 .cases e
def yD(ro:∀i,OpR (C.X i) (zCU op) r)(hs:OpS C.K r fd)(ha:SE C m1 a fa)(hb:SE C m2 b fb):SE C (jn m1 m2) (.BinOp a op b pos) (op2 fd fa fb):=by
 obtain⟨t,h1,h2⟩:=ha;obtain⟨u,k1,k2⟩:=hb;exact⟨_,λ i=>aM1 (ro i) (h1 i) (k1 i),zF hs h2 k2⟩
def zN(ro:∀i,OpR (C.X i) (zBA op) r)(hs:OpS C.K r fd)(ha:SE C m1 a fa)(hb:SE C m2 b fb)(hm:zCM op b=false:=by first|exact aGW _|(with_unfolding_all rfl)):
  SE C (jn m1 m2) (.Compare a [op] [b] pos) (op2 fd fa fb):=by
 obtain⟨t,h1,h2⟩:=ha;obtain⟨u,k1,k2⟩:=hb;exact⟨_,λ i=>aIW (ro i) (h1 i) (k1 i) hm,zF hs h2 k2⟩
variable{p:Pos}{x:Str}{id T:String}
def mX(ro:∀i,cX (C.X i) (.builtin id) r)(hs:uD C.K r fd)(hg:∀i,Gl (C.X i) x)(hm:C.mg x=none)(hv:zAz x=some (.builtin id))(ha:SA C m (e::es) g)
  (hn:x≠"__name__":=by decide)(hdb:Nd x:=by decide)(he:∀i,zAU (e::es) (C.X i).env=(false,eval e (C.X i).env)::zAU es (C.X i).env:=by intro _;rfl)
  (hpl:∀i,(zCW pos (zAU es (C.X i).env)).any (·.1)=false:=by intro _;rfl):SE C m (.Call (.Name x p) (e::es) [] pos) (opA fd g):=by
 obtain⟨t,h1,h2⟩:=ha;exact⟨_,λ i=>gG (ro i) (hg i) (by rw[(C.cx i).2.2.2.1];exact hm) hv (h1 i) hn hdb (he i) (hpl i),aCw hs h2⟩
def aF3(ro:∀i,cX (C.X i) (.type T) r)(hs:uD C.K r fd)(hg:∀i,Gl (C.X i) x)(hm:C.mg x=none)(hv:zAz x=some (.type T))(ha:SA C m (e::es) g)
  (hn:x≠"__name__":=by decide)(hdb:Nd x:=by decide)(he:∀i,zAU (e::es) (C.X i).env=(false,eval e (C.X i).env)::zAU es (C.X i).env:=by intro _;rfl)
  (hpl:∀i,(zCW pos (zAU es (C.X i).env)).any (·.1)=false:=by intro _;rfl):SE C m (.Call (.Name x p) (e::es) [] pos) (opA fd g):=by
 obtain⟨t,h1,h2⟩:=ha;exact⟨_,λ i=>nR (ro i) (hg i) (by rw[(C.cx i).2.2.2.1];exact hm) hv (h1 i) hn hdb (he i) (hpl i),aCw hs h2⟩
def kO(f g:En->Rs D):En->Rs D:=λ ρ=>(f ρ).bd λ d=>match d with
 | .bl true=>g ρ
 | .bl false=>.ok (.bl false)
 |_=>.st
def aIe:D->Rs D
 | .bl b=>.ok (.bl (!b))
 |_=>.st
variable{rest:List Expr}
def jA{op}(h:SE C m a fa):SE C m (.BoolOp op [a] pos) fa:=by
 obtain⟨t,h1,h2⟩:=h;exact⟨_,λ i=>aKu (h1 i),h2⟩
def gY(ha:SE C m1 a fa)(hb:SE C m2 (.BoolOp .And (b::rest) pos) fb):SE C m2 (.BoolOp .And (a::b::rest) pos) (kO fa fb):=by
 obtain⟨t,h1,h2⟩:=ha;obtain⟨u,k1,k2⟩:=hb;refine⟨_,λ i=>aKz (h1 i) (k1 i),λ U Z H ρ lab Q R W=>h2 U Z H ρ lab _ R (W.bd.imp λ d _ w x H1 s1 r1=>?_)⟩;cases r1 with
 |bl c=>
  refine⟨c,rfl,?_⟩;cases c with
  |true=>
   rw[if_pos rfl];exact k2 U Z H1 ρ lab Q (R.up s1) (w.imp λ z _ w v H' s r=>w v H' (s1.trans s) (r.wk λ p o _ q=>wL s1 q))
  |false=>
   rw[if_neg zA0];exact w _ H1 s1 (.bl false)
 |_=>exact zAI w
def aF1(ha:SE C m a fa):SE C (some []) (.UnaryOp .Not a pos) (op1 aIe fa):=by
 obtain⟨t,h1,h2⟩:=ha;refine⟨_,λ i=>aKv (h1 i),λ U Z H ρ lab Q R W=>h2 U Z H ρ lab _ R (W.bd.imp λ d _ w x H1 s1 r1=>?_)⟩;obtain⟨z,ez,w⟩:=w.okD;cases r1 with
 |bl c=>cases ez;exact⟨c,rfl,w _ H1 s1 (.bl _)⟩
 |_=>cases ez
def chD(fd fd':D->D->Rs D)(fa fb fc:En->Rs D):En->Rs D:=λ ρ=>(fa ρ).bd λ x=>(fb ρ).bd λ y=>(okD (fd x y)).bd λ z=>match z with
 | .bl true=>(fc ρ).bd λ w=>okD (fd' y w)
 | .bl false=>.ok (.bl false)
 |_=>.st
def aED{K:zAA}{G:Gx}{r r':R2}{ta tb tc:TE}{fd fd':D->D->Rs D}{fc:En->Rs D}{m3:Mode}(hs:OpS K r fd)(hs':OpS K r' fd')(hi:∀x y z,fd' x y= .ok z->imm z=true)(h1:iR K G m1 ta fa)(h2:iR K G m2 tb fb)(h3:iR K G m3 tc fc):
  iR K G (some []) (aFI r r' ta tb tc) (chD fd fd' fa fb fc):=by
 intro U Z H ρ lab Q R W;refine h1 U Z H ρ lab _ R (W.bd.imp λ d _ w x H1 s1 r1=>?_);refine h2 U Z H1 ρ lab _ (R.up s1) (w.bd.imp λ e _ w y H2 s2 r2=>?_);obtain⟨z,ez,w⟩:=w.bd.okD;refine hs (λ _=>True) x y d e H2 _ z (r1.mono s2 λ p o _ q=>trivial) (r2.wk λ p o _ q=>trivial) ez λ v H3 s3 r3=>?_
 cases r3 with
 |bl c=>
  refine⟨c,rfl,?_⟩;cases c with
  |false=>
   rw[if_neg zA0];exact w _ H3 ((s1.trans s2).trans s3) (.bl false)
  |true=>
   rw[if_pos rfl];refine h3 U Z H3 ρ lab _ ((R.up s1).up (s2.trans s3)) (w.bd.imp λ e' _ w y' H4 s4 r4=>?_);obtain⟨z',ez',w⟩:=w.okD;exact hs' (λ _=>True) y y' e e' H4 Q z' (r2.mono (s3.trans s4) λ p o _ q=>trivial) (r4.wk λ p o _ q=>trivial) ez' λ v H5 s5 r5=>w v H5 ((((s1.trans s2).trans s3).trans s4).trans s5) (r5.imm (hi _ _ _ ez'))
 |_=>exact zAI w
def aAi(ro:∀i,OpR (C.X i) (zBA op) r)(hs:OpS C.K r fd)(ro':∀i,OpR (C.X i) (zBA op') r')(hs':OpS C.K r' fd')(hi:∀x y z,fd' x y= .ok z->imm z=true)
  (ha:SE C m1 a fa)(hb:SE C m2 b fb)(hc:SE C m3 c fc)(hm:zIJ [op,op'] [b,c]=false:=by with_unfolding_all rfl):SE C (some []) (.Compare a [op,op'] [b,c] pos) (chD fd fd' fa fb fc):=by
 obtain⟨t,h1,h2⟩:=ha;obtain⟨u,k1,k2⟩:=hb;obtain⟨v,l1,l2⟩:=hc;exact⟨_,λ i=>aGI (ro i) (ro' i) (h1 i) (k1 i) (l1 i) hm,aED hs hs' hi h2 k2 l2⟩
def aKJ:D->Rs Bool
 | .non=>.ok false
 | .bl b=>.ok b
 | .int i=>.ok (i !=0)
 | .tup l=>.ok (!l.isEmpty)
 | .lst l=>.ok (!l.isEmpty)
 |_=>.st
def blD:D->Rs Bool
 | .bl b=>.ok b
 |_=>.st
def tst(f:En->Rs D):En->Rs Bool:=λ ρ=>(f ρ).bd aKJ
def tsb(f:En->Rs D):En->Rs Bool:=λ ρ=>(f ρ).bd blD
def wD{K:zAA}{A:Addr->Prop}{H:Hp}{xs:List V}{ds:List D}(r:Rps K A H xs ds):(!ds.isEmpty)= !xs.isEmpty:=by cases r<;>rfl
def eO(ha:SE C m a fa)(he:∀i whole,isTrue a (C.X i).env whole=(do let v <-whole;zFV a.pos;zC8 [v] (truthy v)):=by intro _ _;rfl):ST C a (tst fa):=by
 obtain⟨t,h1,h2⟩:=ha;refine⟨λ Z H Q=>t Z H λ x H'=>∃k,aLv C.K x H' k/\Q k H',λ i=>by rw[<-C.hK i];exact aFs (h1 i) (he i),λ U Z H ρ lab Q R W=>h2 U Z H ρ lab _ R (W.bd.imp λ d _ w x H1 s1 r1=>?_)⟩;cases r1 with
 |non=>exact⟨false,rfl,w H1 s1⟩
 |bl b=>exact⟨b,rfl,w H1 s1⟩
 |int i=>exact⟨i !=0,rfl,w H1 s1⟩
 |tup h r=>exact⟨_,.inr (.inl ⟨_,h,rfl⟩),by rw[<-wD r];exact w H1 s1⟩
 |lst h m r=>exact⟨_,.inl ⟨_,SqL.of h,rfl⟩,by rw[<-wD r];exact w H1 s1⟩
 |_=>exact zAI w
def aHm{K:zAA}{G:Gx}{t:TE}{f:En->Rs D}(h:iR K G m t f):aCm K G (aJc t) (tsb f):=λ U Z H ρ lab Q R W=>h U Z H ρ lab _ R (W.bd.imp λ d _ w x H1 s1 r1=>by
 cases r1 with
 |bl b=>exact⟨b,rfl,w H1 s1⟩
 |_=>exact zAI w)
def mQ(ro:∀i,OpR (C.X i) (zBA op) r)(hs:OpS C.K r fd)(ha:SE C m1 a fa)(hb:SE C m2 b fb)(hm:zCM op b=false:=by first|exact aGW _|(with_unfolding_all rfl)):
  ST C (.Compare a [op] [b] pos) (tsb (op2 fd fa fb)):=by
 obtain⟨t,h1,h2⟩:=ha;obtain⟨u,k1,k2⟩:=hb;exact⟨_,λ i=>aIN (ro i) (h1 i) (k1 i) hm,aHm (zF hs h2 k2)⟩
variable{ga gb:En->Rs Bool}
def lV(f g:En->Rs Bool):En->Rs Bool:=λ ρ=>(f ρ).bd λ k=>if k=true then g ρ else .ok false
def orT(f g:En->Rs Bool):En->Rs Bool:=λ ρ=>(f ρ).bd λ k=>if k=true then .ok true else g ρ
def jc(f:En->Rs Bool):En->Rs Bool:=λ ρ=>(f ρ).bd λ k=>.ok (!k)
def kj(ha:ST C a ga):SW C (.BoolOp .And [a] pos) ga:=let⟨t,h1,h2⟩:=ha;⟨t,λ i=>aII (h1 i),h2⟩
def iJ(ha:ST C a ga):SW C (.BoolOp .Or [a] pos) ga:=let⟨t,h1,h2⟩:=ha;⟨t,λ i=>aFq (h1 i),h2⟩
def mO(ha:ST C a ga)(hb:SW C (.BoolOp .And (b::rest) pos) gb):SW C (.BoolOp .And (a::b::rest) pos) (lV ga gb):=by
 obtain⟨t,h1,h2⟩:=ha;obtain⟨u,k1,k2⟩:=hb;refine⟨_,λ i=>aKf (h1 i) (k1 i),λ U Z H ρ lab Q R W=>h2 U Z H ρ lab _ R (W.bd.imp λ k _ w H1 s1=>?_)⟩;cases k with
 |true=>
  rw[if_pos rfl]at w ⊢;exact k2 U Z H1 ρ lab Q (R.up s1) (w.imp λ z _ w H' s=>w H' (s1.trans s))
 |false=>
  rw[if_neg zA0]at w ⊢;exact w H1 s1
def iy(ha:ST C a ga)(hb:SW C (.BoolOp .Or (b::rest) pos) gb):SW C (.BoolOp .Or (a::b::rest) pos) (orT ga gb):=by
 obtain⟨t,h1,h2⟩:=ha;obtain⟨u,k1,k2⟩:=hb;refine⟨_,λ i=>aJq (h1 i) (k1 i),λ U Z H ρ lab Q R W=>h2 U Z H ρ lab _ R (W.bd.imp λ k _ w H1 s1=>?_)⟩;cases k with
 |false=>
  rw[if_neg zA0]at w ⊢;exact k2 U Z H1 ρ lab Q (R.up s1) (w.imp λ z _ w H' s=>w H' (s1.trans s))
 |true=>
  rw[if_pos rfl]at w ⊢;exact w H1 s1
def dU(ha:ST C a ga):ST C (.UnaryOp .Not a pos) (jc ga):=by
 obtain⟨t,h1,h2⟩:=ha;exact⟨_,λ i=>aKj (h1 i),λ U Z H ρ lab Q R W=>h2 U Z H ρ lab _ R (W.bd.imp λ k _ w H1 s1=>w H1 s1)⟩
end
inductive Ou where
 |nx (ρ:En)|rt (d:D)|bk (ρ:En)|ct (ρ:En)|ex (c:Str)|st
noncomputable def Rs.bo{α:Type}:Rs α->(α->Ou)->Ou
 | .ok a,f=>f a
 | .ex c,_=>.ex c
 | .st,_=>.st
@[simp] def bL(a:α)(f:α->Ou):(Rs.ok a).bo f=f a:=aO rfl
noncomputable def Ou.sq:Ou->(En->Ou)->Ou
 | .nx ρ,f=>f ρ
 |o,_=>o
@[simp] def bB(ρ:En)(f:En->Ou):(Ou.nx ρ).sq f=f ρ:=aO rfl
@[simp] def sq_rt(d:D)(f:En->Ou):(Ou.rt d).sq f= .rt d:=aO rfl
def WS(K:zAA)(G:Gx)(U:List (V×D))(o:Ou)(De:Ends):Prop:=match o with
 | .nx ρ=>∀Z H lab,RR K G U ρ Z H lab->De.nx Z H
 | .bk ρ=>∀Z H lab,RR K G U ρ Z H lab->De.bk Z H
 | .ct ρ=>∀Z H lab,RR K G U ρ Z H lab->De.ct Z H
 | .rt d=>∀v H,aR G.H0 H->Rp K (λ p=>G.H0 p=none) H v d->De.rt v H
 | .ex c=>∀H',aR G.H0 H'->G.E (.ref (G.cl c)) none H'
 | .st=>False
theorem WS.bo{K:zAA}(h:WS K G U (r.bo k) De):WR G r (λ a=>WS K G U (k a) De):=by
 cases r with
 |ok a=>exact h
 |ex c=>exact h
 |st=>exact h
def aNA(K:zAA)(G:Gx)(t:TS)(f:En->Ou):Prop:=∀U Z H ρ lab (De:Ends),RR K G U ρ Z H lab->WS K G U (f ρ) De->t De Z H
def SS(C:Ct)(s:Stmt)(f:En->Ou):Prop:=∃t,(∀i,PS (C.X i) s t)/\aNA C.K C.G t f
def SSs(C:Ct)(s:List Stmt)(f:En->Ou):Prop:=∃t,(∀i,PSs (C.X i) s t)/\aNA C.K C.G t f
section
variable{C:Ct}{pos:Pos}{s:Stmt}{ss:List Stmt}{f g:En->Ou}{e:Expr}{m:Mode}{fe:En->Rs D}
def bQ:SSs C [] .nx:=⟨_,λ _=>zZ,λ U Z H ρ lab De R W=>W Z H lab R⟩
def ao(f g:En->Ou):En->Ou:=λ ρ=>(f ρ).sq g
def aK(h:SS C s f):SSs C [s] f:=let⟨t,h1,h2⟩:=h;⟨t,λ i=>aDP (h1 i),h2⟩
def aJ(h:SS C s f)(k:SSs C ss g):SSs C (s::ss) (ao f g):=by
 obtain⟨t,h1,h2⟩:=h;obtain⟨u,k1,k2⟩:=k;refine⟨_,λ i=>aAu (h1 i) (k1 i),λ U Z H ρ lab De R W=>h2 U Z H ρ lab _ R ?_⟩;unfold ao at W;cases h:f ρ with
 |nx ρ'=>rw[h]at W;exact λ Z' H' lab' R'=>k2 U Z' H' ρ' lab' De R' W
 |rt d=>rw[h]at W;exact W
 |bk ρ'=>rw[h]at W;exact W
 |ct ρ'=>rw[h]at W;exact W
 |ex c=>rw[h]at W;exact W
 |st=>rw[h]at W;exact W
def frz(i:Nat)(ρ:En):En:=match ρ[i]? with
 |some (.ow d)=>ρ.set i (.nw d)
 |some (.o2 l)=>ρ.set i (.nw (.lst (l.map .lst)))
 |_=>ρ
def aMc:Mode->Bool
 |some L=>L.all (·!=0)
 |none=>false
def retS(fe:En->Rs D):En->Ou:=λ ρ=>(fe ρ).bo .rt
def aZ(he:SE C m e fe)(hm:aMc m=true:=by rfl):SS C (.Return (some e) pos) (retS fe):=by
 obtain⟨t,h1,h2⟩:=he;refine⟨_,λ i=>aFx (h1 i),λ U Z H ρ lab De R W=>h2 U Z H ρ lab _ R (W.bo.imp λ d _ w v H' s r=>w v H' (R.old.trans s) (r.wk λ p o _ z=>?_))⟩;rcases z with z|z
 .exact R.old.free z
 .cases m with
  |none=>cases hm
  |some L=>
   refine R.new p λ e0=>?_
   have:=zAv.mp hm _ z
   rw[e0]at this;simp at this
def yf(fe:En->Rs D):En->Ou:=λ ρ=>(fe ρ).bo λ _=>.nx ρ
def zE(he:SE C m e fe)(hs:∀i,zC3 e none pos.line (C.X i).env=pure false:=by intro _;rfl):SS C (.Expr e pos) (yf fe):=by
 obtain⟨t,h1,h2⟩:=he;exact⟨_,λ i=>ph (h1 i) (hs i),λ U Z H ρ lab De R W=>h2 U Z H ρ lab _ R (W.bo.imp λ d _ w v H' s r=>w Z H' lab (R.up s))⟩
def ifS(c:En->Rs Bool)(f g:En->Ou):En->Ou:=λ ρ=>(c ρ).bo λ k=>if k=true then f ρ else g ρ
def eY{a b:List Stmt}(hc:ST C c fc)(ha:SSs C a f)(hb:SSs C b g):SS C (.If c a b pos) (ifS fc f g):=by
 obtain⟨tc,c1,c2⟩:=hc;obtain⟨t,h1,h2⟩:=ha;obtain⟨u,k1,k2⟩:=hb;refine⟨_,λ i=>aFz (c1 i) (h1 i) (k1 i),λ U Z H ρ lab De R W=>c2 U Z H ρ lab _ R (W.bo.imp λ k _ w H1 s1=>?_)⟩;cases k with
 |true=>rw[if_pos rfl]at w ⊢;exact h2 U Z H1 ρ lab De (R.up s1) w
 |false=>rw[if_neg zA0]at w ⊢;exact k2 U Z H1 ρ lab De (R.up s1) w
def SV(C:Ct)(i:Nat)(s:Stmt)(m:Mode)(f:En->Rs D):Prop:=∃t,(∀j,PS (C.X j) s (aEA t (tU i)))/\iR C.K C.G m t f
def fQ(he:SE C m e fe)(hN:∀j,(C.X j).N[i]? =some x:=by intro _;rfl)(hx:∀j,Loc (C.X j).env.scope x:=by intro _;first|exact zBq rfl|exact zBR rfl)(hs:∀j,zC3 e (some (.Name x pos')) pos.line (C.X j).env=pure false:=by intro _;rfl)(hf:∀j,(C.X j).fn x=true\/(C.X j).env.scope.names.lookup x=some .local:=by intro _;first|exact .inl rfl|exact .inr rfl)(nd:∀j,(C.X j).N.Nodup:=by intro _;assumption):
  SV C i (.Assign [.Name x pos'] e pos) m fe:=by
 obtain⟨t,h1,h2⟩:=he;exact⟨t,λ j=>aFw (nd j) (hN j) (hx j) (h1 j) (hs j) (hf j),h2⟩
def SVF(C:Ct)(i:Nat)(s:Stmt)(m:Mode)(f:En->Rs D):Prop:=∃t,(∀j,PS (C.X j) s (aEA t (tU i)))/\aLw C.K C.G m t f
def ut(he:SF C m e fe)(hN:∀j,(C.X j).N[i]? =some x:=by intro _;rfl)(hx:∀j,Loc (C.X j).env.scope x:=by intro _;first|exact zBq rfl|exact zBR rfl)(hs:∀j,zC3 e (some (.Name x pos')) pos.line (C.X j).env=pure false:=by intro _;rfl)(hf:∀j,(C.X j).fn x=true\/(C.X j).env.scope.names.lookup x=some .local:=by intro _;first|exact .inl rfl|exact .inr rfl)(nd:∀j,(C.X j).N.Nodup:=by intro _;assumption):
  SVF C i (.Assign [.Name x pos'] e pos) m fe:=by
 obtain⟨t,h1,h2⟩:=he;exact⟨t,λ j=>aFw (nd j) (hN j) (hx j) (h1 j) (hs j) (hf j),h2⟩
def aDY(P:Nat->Bool):Mode->Bool
 |some L=>L.all P
 |none=>false
def jT(h:aDY P m=true):∀k,inM m k->P k=true:=by
 intro k hk;cases m with
 |none=>cases h
 |some L=>exact zAv.mp h k hk
abbrev okS:Mode->Bool:=aDY λ k=>decide (k<=1)
abbrev okN:Mode->Bool:=aDY λ k=>k==1
abbrev okO(i:Nat):Mode->Bool:=aDY λ k=>k==1||k==i+2
def bU(i:Nat)(fe:En->Rs D):En->Ou:=λ ρ=>(fe ρ).bo λ d=>.nx (ρ.set i (.sh d))
def aEI(i:Nat)(fe:En->Rs D):En->Ou:=λ ρ=>(fe ρ).bo λ d=>.nx (ρ.set i (.nw d))
def pY(i:Nat)(fe:En->Rs D):En->Ou:=λ ρ=>(fe ρ).bo λ d=>.nx (ρ.set i (.ow d))
def RR.shared{K:zAA}(hm:okS m=true)(R:RR K G U ρ Z H lab)(s:aR H H')(r:Rp K (fpM m lab H) H' v d):
  RR K G U ρ Z H' (bG H 1 lab)/\Rp K (λ p=>(bG H 1 lab p).1<=1) H' v d:=R.fresh (P:=λ k=>k<=1) (by decide) (λ k hk=>of_decide_eq_true (jT hm k hk)) s r
def ak{i:Nat}(h:SV C i s m fe)(hm:okS m=true:=by rfl):SS C s (bU i fe):=by
 obtain⟨t,h1,h2⟩:=h;refine⟨_,h1,λ U Z H ρ lab De R W=>h2 U Z H ρ lab _ R (W.bo.imp λ d _ w v H' s r=>?_)⟩;obtain⟨R',r'⟩:=R.shared hm s r;exact w _ _ _ (R'.put (s:=.sh d) r')
def aCt(h:SV C i s m fe)(hm:okN m=true:=by rfl):SS C s (aEI i fe):=by
 obtain⟨t,h1,h2⟩:=h;refine⟨_,h1,λ U Z H ρ lab De R W=>h2 U Z H ρ lab _ R (W.bo.imp λ d _ w v H' s r=>?_)⟩;obtain⟨R',r'⟩:=R.fresh (P:=λ k=>k=1) rfl (λ k hk=>beq_iff_eq.mp (jT hm k hk)) s r;exact w _ _ _ (R'.put (s:=.nw d) r')
def km(h:SVF C i s m fe)(hm:okO i m=true:=by rfl):SS C s (pY i fe):=by
 obtain⟨t,h1,h2⟩:=h;refine⟨_,h1,λ U Z H ρ lab De R W=>h2 U Z H ρ lab _ R (W.bo.imp λ d _ w v H' s r ht=>?_)⟩;obtain⟨lab',R',r'⟩:=R.freshO i (λ k hk=>by have:=jT hm k hk;simpa using this) s r ht;exact w _ _ _ (R'.put (s:=.ow d) r')
def aJ1(K:zAA)(G:Gx)(g:TG)(fg:D->En->Rs En):Prop:=∀U v d Z H ρ lab (Q:L2.St->Hp->Prop) ρ',RR K G U ρ Z H lab->Rp K (λ p=>(lab p).1<=1) H v d->fg d ρ= .ok ρ'->(∀Z',RR K G U ρ' Z' H lab->Q Z' H)->g v Z H Q
def aNC(K:zAA)(G:Gx)(g:TGs)(fg:List D->En->Rs En):Prop:=∀U vs ds Z H ρ lab (Q:L2.St->Hp->Prop) ρ',RR K G U ρ Z H lab->Rps K (λ p=>(lab p).1<=1) H vs ds->fg ds ρ= .ok ρ'->(∀Z',RR K G U ρ' Z' H lab->Q Z' H)->g vs Z H Q
def SG(C:Ct)(tg:Expr)(ks:List Nat)(fg:D->En->Rs En):Prop:=∃g,(∀i,PG (C.X i) tg g)/\aJ1 C.K C.G g fg/\qy g ks/\aBn g
def SGs(C:Ct)(tg:List Expr)(ks:List Nat)(fg:List D->En->Rs En):Prop:=∃g,(∀i,PGs (C.X i) tg g)/\aNC C.K C.G g fg/\wu g ks/\sr g
def gnm(i:Nat):D->En->Rs En:=λ d ρ=>.ok (ρ.set i (.sh d))
def oA:List D->En->Rs En:=λ ds ρ=>match ds with
 |[]=>.ok ρ
 |_=>.st
def cJ(f:D->En->Rs En)(g:List D->En->Rs En):List D->En->Rs En:=λ ds ρ=>match ds with
 |d::r=>(f d ρ).bd (g r)
 |_=>.st
def nC(n:Nat)(g:List D->En->Rs En):D->En->Rs En:=λ d ρ=>match d with
 | .tup ds=>if ds.length=n then g ds ρ else .st
 |_=>.st
variable{ks:List Nat}{fg:D->En->Rs En}{fgs:List D->En->Rs En}{tg:Expr}{tgs:List Expr}
def bR(hN:∀j,(C.X j).N[i]? =some x:=by intro _;rfl)(hx:∀j,Loc (C.X j).env.scope x:=by intro _;first|exact zBq rfl|exact zBR rfl)(hf:∀j,(C.X j).fn x=true\/(C.X j).env.scope.names.lookup x=some .local:=by intro _;first|exact .inl rfl|exact .inr rfl)(nd:∀j,(C.X j).N.Nodup:=by intro _;assumption)(hk:i∈ks:=by decide):SG C (.Name x pos) ks (gnm i):=
 ⟨_,λ j=>aIR (nd j) (hN j) (hx j) (hf j),λ U v d Z H ρ lab Q ρ' R r e q=>by cases e;exact q _ (R.put (s:=.sh d) r),aJD hk,aJF⟩
def nQ:SGs C [] ks oA:=by
 refine⟨_,λ _=>aIQ,λ U vs ds Z H ρ lab Q ρ' R r e q=>?_,aJC,aJE⟩;cases r with
 |nil=>cases e;exact⟨rfl,q _ R⟩
 |cons _ _=>cases e
def dD(h:SG C tg ks fg)(k:SGs C tgs ks fgs)(hs:∀i,(zCk (tg::tgs) (C.X i).env).map (·.2)=zEh tg (C.X i).env::(zCk tgs (C.X i).env).map (·.2):=by intro _;rfl):SGs C (tg::tgs) ks (cJ fg fgs):=by
 obtain⟨g,h1,h2,h3,h4⟩:=h;obtain⟨u,k1,k2,k3,k4⟩:=k;refine⟨_,λ i=>aGE (h1 i) (k1 i) (hs i),λ U vs ds Z H ρ lab Q ρ' R r e q=>?_,aGw h3 h4 k3 k4,aGz h4 k4⟩;cases r with
 |nil=>cases e
 |cons h r=>
  obtain⟨ρ1,e1,e2⟩:=dF e;exact⟨_,_,rfl,h2 U _ _ Z H ρ lab _ ρ1 R h e1 λ Z1 R1=>k2 U _ _ Z1 H ρ1 lab Q ρ' R1 r e2 q⟩
def rB(h:SGs C tgs ks fgs)(hn:∀i,(zCk tgs (C.X i).env).length=n:=by intro _;rfl)(hst:∀i,(zCk tgs (C.X i).env).findIdx? (·.1)=none:=by intro _;rfl):SG C (.Tuple tgs k pos) ks (nC n fgs):=by
 obtain⟨u,k1,k2,k3,k4⟩:=h;refine⟨aJG C.K n u,λ i=>by rw[<-C.hK i];exact aKo (C.calm i) (k1 i) (hn i) (hst i),λ U v d Z H ρ lab Q ρ' R r e q=>?_,aLc k3,aLd k4⟩;cases r with
 |tup h r=>
  unfold nC at e;dsimp only at e;split at e
  .rename_i hl
   exact⟨_,_,rfl,h,by rw[r.length];exact hl,k2 U _ _ Z H ρ lab Q ρ' R r e q⟩
  .cases e
 |_=>cases e
def JL(K:zAA)(lab:Lab)(J:It)(H:Hp)(ds:List D):Prop:=∀i,(ds.length<=i->J.stop i H)/\(i<ds.length->J.go i H/\∀x H',J.yld i H x H'->aR H H'/\∃d,ds[i]? =some d/\Rp K (λ p=>(lab p).1<=1) H' x d)
def aJ0(K:zAA)(G:Gx)(wi:TI)(f:En->Rs (List D)):Prop:=∀U Z H ρ lab (Rr:It->Hp->Prop),RR K G U ρ Z H lab->
 WR G (f ρ) (λ ds=>∀J H1 lab1 U1,aR H H1->(∀p o,H p=some o->lab1 p=lab p)->RR K G (U1++U) ρ Z H1 lab1->(∀lab' H',(∀q∈U1,Rp K (λ p=>(lab' p).1<=1) H' q.1 q.2)->JL K lab' J H' ds)->Rr J H1)->wi Z H Rr
def SI(C:Ct)(tg iter:Expr)(f:En->Rs (List D)):Prop:=∃wi,(∀i,PI (C.X i) tg iter wi)/\aJ0 C.K C.G wi f
def aMl(K:zAA)(tl:TE):TI:=λ Z H R=>tl Z H λ x H1=>∃a,x= .ref a/\(((∃xs,SqL K H1 a xs)/\R (Itl K a) H1)\/((∃xs,SqT K H1 a xs)/\R (Itt K a) H1))
def aKn(hl:PE X l tl):PI X tg l (aMl X.K tl):=by
 intro kX s Z H R I h;refine thn (hl kX s Z H _ I h) λ v s1 ⟨x,H1,I1,r1,a,e,q1⟩=>?_
 subst e;cases r1;have hp:∀b∈[s1.heap.objs.size],qz X kX H1 b:=λ b hb=>by
  have e:b=s1.heap.objs.size:=by simpa using hb
  rw[e];exact I1.fpOk (zAS _) (I1.hok.fresh (zAS _))
 rcases q1 with ⟨⟨xs,hq⟩,q⟩|⟨⟨xs,hq⟩,q⟩
 .obtain⟨its,rv,p,hz⟩:=I1.list hq
  refine zE4 p.isList ?_;exact⟨_,_,_,_,H1,rfl,I1.kept (t':=s1.toks) λ b o e=>zAC _ e,aDy a _,⟨_,zAJ _ rfl,rfl,rfl⟩,hp,q⟩
 .obtain⟨its,rv,p,hz⟩:=I1.tuple hq
  refine zFl (show s1.heap.IsTuple a its.toArray from p) ?_;exact⟨_,_,_,_,H1,rfl,I1.kept (t':=s1.toks) λ b o e=>zAC _ e,aBq a _,⟨_,zAJ _ rfl,rfl,rfl⟩,hp,q⟩
def itD:D->Rs (List D)
 | .tup l=>.ok l
 | .lst l=>.ok l
 | .scr l=>.ok (l.map .int)
 |_=>.st
def fB(fe:En->Rs D):En->Rs (List D):=λ ρ=>(fe ρ).bd itD
def aD4{K:zAA}(h:SqL K H a xs)(r:Rps K (λ p=>(lab p).1<=1) H xs ds):JL K lab (Itl K a) H ds:=by
 have hl:=r.length;refine λ i=>⟨λ hi=>⟨xs,h,by lia⟩,λ hi=>⟨⟨xs,xs[i]'(by lia),h,by simp[hl,hi]⟩,λ x H' y=>?_⟩⟩
 obtain⟨e,y⟩:=y;subst e;obtain⟨d,h1,h2⟩:=r.get (y xs h);exact⟨aR.refl _,d,h1,h2⟩
def aL1{K:zAA}(h:SqT K H a xs)(r:Rps K (λ p=>(lab p).1<=1) H xs ds):JL K lab (Itt K a) H ds:=by
 have hl:=r.length;refine λ i=>⟨λ hi=>⟨xs,h,by lia⟩,λ hi=>⟨⟨xs,xs[i]'(by lia),h,by simp[hl,hi]⟩,λ x H' y=>?_⟩⟩
 obtain⟨e,y⟩:=y;subst e;obtain⟨d,h1,h2⟩:=r.get (y xs h);exact⟨aR.refl _,d,h1,h2⟩
def gU(he:SE C m e fe)(hm:okS m=true:=by rfl):SI C tg e (fB fe):=by
 obtain⟨t,p1,p2⟩:=he;refine⟨aMl C.K t,λ i=>by rw[<-C.hK i];exact aKn (p1 i),λ U Z H ρ lab Rr R W=>p2 U Z H ρ lab _ R (W.bd.imp λ d _ w v H1 s r=>?_)⟩;obtain⟨R',r'⟩:=R.shared hm s r;cases d with
 |tup l=>
  cases r' with
  |tup h q=>
   rename_i a xs;refine⟨_,rfl,.inr ⟨⟨_,h⟩,w _ H1 _ [(.ref a,.tup l)] s (λ p o e=>aj e) ⟨R'.len,R'.sl,R'.old,R'.new,λ z hz=>?_⟩ λ lab' H' hq=>?_⟩⟩
   .rcases zAT.mp hz with rfl|hz
    .exact .tup h q
    .exact R'.tm z hz
   .have z:=hq _ (zAK ..)
    cases z with
    |tup h' q'=>exact aL1 h' q'
 |lst l=>
  cases r' with
  |lst h mm q=>
   rename_i a xs;refine⟨_,rfl,.inl ⟨⟨_,SqL.of h⟩,w _ H1 _ [(.ref a,.lst l)] s (λ p o e=>aj e) ⟨R'.len,R'.sl,R'.old,R'.new,λ z hz=>?_⟩ λ lab' H' hq=>?_⟩⟩
   .rcases zAT.mp hz with rfl|hz
    .exact .lst h mm q
    .exact R'.tm z hz
   .have z:=hq _ (zAK ..)
    cases z with
    |lst h' _ q'=>exact aD4 (SqL.of h') (q'.wk λ _ _ _ z=>z.1)
 |scr l=>
  cases r' with
  |scr h=>
   rename_i a;refine⟨_,rfl,.inl ⟨⟨_,h.sq⟩,w _ H1 _ [(.ref a,.scr l)] s (λ p o e=>aj e) ⟨R'.len,R'.sl,R'.old,R'.new,λ z hz=>?_⟩ λ lab' H' hq=>?_⟩⟩
   .rcases zAT.mp hz with rfl|hz
    .exact .scr h
    .exact R'.tm z hz
   .have z:=hq _ (zAK ..)
    cases z with
    |scr h'=>exact aD4 h'.sq Rps.ints
 |_=>exact zAI w
end
section
variable{C:Ct}{pos:Pos}{s:Stmt}{ss:List Stmt}{f:En->Ou}{e a b:Expr}{es:List Expr}{m:Mode}{fa:En->Rs D}{ks:List Nat}{fg:D->En->Rs En}{tg:Expr}{fi:En->Rs (List D)}{ga:En->Rs (List D)}
def cT(lo hi:Int):List D:=(zAm (hi-lo).toNat).map λ(k:Nat)=>.int (lo+(k:Int))
def gO:List D->Rs (List D)
 |[.int j]=>if -(2^62)<=j/\j<2^62 then .ok (cT 0 j)else .st
 |_=>.st
def zR:List D->Rs (List D)
 |[.int i,.int j]=>if (-(2^62)<=i/\i<2^62)/\(-(2^62)<=j/\j<2^62)then .ok (cT i j)else .st
 |_=>.st
def eZ(r:List D->Rs (List D))(ga:En->Rs (List D)):En->Rs (List D):=λ ρ=>(ga ρ).bd r
def aGf{K:zAA}{lo hi:Int}:JL K lab (Itr lo (hi-lo).toNat) H (cT lo hi):=by
 have hl:(cT lo hi).length=(hi-lo).toNat:=by unfold cT;simp
 refine λ i=>⟨λ h=>by show(hi-lo).toNat<=i;lia,λ h=>⟨by show i<(hi-lo).toNat;lia,λ x H' y=>?_⟩⟩
 obtain⟨e,rfl⟩:=y;subst e;refine⟨aR.refl _,.int (lo+i),?_,.int _⟩;unfold cT;rw[zAO,zDi (by lia)];rfl
def fK(ha:SA C m [a] ga)(hm:C.mg "range"=none)(hs:∀i,zAU [a] (C.X i).env=[(false,eval a (C.X i).env)]:=by intro _;rfl)(hg:∀i,Gl (C.X i) "range":=by intro _;rfl):SI C tg (.Call (.Name "range" p) [a] [] pos) (eZ gO ga):=by
 obtain⟨t,h1,h2⟩:=ha;refine⟨_,λ i=>aEW (hg i) (by rw[(C.cx i).2.2.2.1];exact hm) (h1 i) (hs i),λ U Z H ρ lab Rr R W=>h2 U Z H ρ lab _ R (W.bd.imp λ ds _ w vs H1 s r=>?_)⟩;unfold gO at w;split at w
 .rename_i j _
  split at w
  .rename_i hj
   cases r with
   |cons h r=>
    cases h;cases r;refine⟨j,rfl,hj.1,hj.2,?_⟩;have z:=w (Itr 0 (j-0).toNat) H1 lab [] s (λ _ _ _=>rfl) (R.up s) λ lab' H' _=>aGf
    rwa [Int.sub_zero]at z
  .exact zAI w
 .exact zAI w
def aCx(ha:SA C m [a,b] ga)(hm:C.mg "range"=none)(hs:∀i,zAU [a,b] (C.X i).env=[(false,eval a (C.X i).env),(false,eval b (C.X i).env)]:=by intro _;rfl)(hs2:∀i,zAU [b] (C.X i).env=[(false,eval b (C.X i).env)]:=by intro _;rfl)(hg:∀i,Gl (C.X i) "range":=by intro _;rfl):SI C tg (.Call (.Name "range" p) [a,b] [] pos) (eZ zR ga):=by
 obtain⟨t,h1,h2⟩:=ha;refine⟨_,λ i=>aEV (hg i) (by rw[(C.cx i).2.2.2.1];exact hm) (h1 i) (hs i) (hs2 i),λ U Z H ρ lab Rr R W=>h2 U Z H ρ lab _ R (W.bd.imp λ ds _ w vs H1 s r=>?_)⟩;unfold zR at w;split at w
 .rename_i i j _
  split at w
  .rename_i hj
   cases r with
   |cons h r=>
    cases h;cases r with
    |cons h r=>
     cases h;cases r;exact⟨i,j,rfl,⟨hj.1.1,hj.1.2,hj.2.1,hj.2.2⟩,w (Itr i (j-i).toNat) H1 lab [] s (λ _ _ _=>rfl) (R.up s) λ lab' H' _=>aGf⟩
  .exact zAI w
 .exact zAI w
def forL(fg:D->En->Rs En)(b:En->Ou):List D->En->Ou
 |[],ρ=>.nx ρ
 |d::ds,ρ=>match fg d ρ with
  | .ok ρ1=>match b ρ1 with
   | .nx ρ2=>forL fg b ds ρ2
   | .ct ρ2=>forL fg b ds ρ2
   | .bk ρ2=>.nx ρ2
   |o=>o
  |_=>.st
def jP(fi:En->Rs (List D))(fg:D->En->Rs En)(b:En->Ou):En->Ou:=λ ρ=>(fi ρ).bo λ ds=>forL fg b ds ρ
def eQ(hi:SI C tg e fi)(hg:SG C tg ks fg)(hb:SSs C ss f)(hs:∀i,∀x,zBl e (C.X i).env x=pure x:=by intro _ _;rfl):SS C (.For tg e ss [] pos) (jP fi fg f):=by
 obtain⟨wi,i1,i2⟩:=hi;obtain⟨gg,g1,g2,_,g4⟩:=hg;obtain⟨tb,b1,b2⟩:=hb;refine⟨_,λ i=>aGA (C.own i) (C.calm i) (i1 i) (g1 i) (b1 i) (hs i),λ U Z H ρ lab De R W=>i2 U Z H ρ lab _ R (W.bo.imp λ ds _ w J H1 lab1 U1 s1 _ R1 jl=>?_)⟩;refine⟨λ i n Z' H'=>∃ρ' lab',RR C.K C.G (U1++U) ρ' Z' H' lab'/\n=ds.length-i/\i<=ds.length/\WS C.K C.G U (forL fg f (ds.drop i) ρ') De,⟨ds.length,ρ,lab1,R1,by lia,by lia,w⟩,?_⟩;rintro i n Z' H' ⟨ρ',lab',R',rfl,hi,w'⟩;have jj:=jl lab' H' λ q hq=>R'.tm q (zAb _ hq)
 by_cases hlt:i<ds.length
 .obtain⟨go,yl⟩:=(jj i).2 hlt
  refine .inr ⟨go,λ Z2 H2=>∃ρ2 lab2,RR C.K C.G (U1++U) ρ2 Z2 H2 lab2/\WS C.K C.G U (forL fg f (ds.drop (i+1)) ρ2) De,λ Z2 H2 ⟨ρ2,lab2,R2,w2⟩=>⟨ds.length-(i+1),by lia,ρ2,lab2,R2,rfl,hlt,w2⟩,λ x H2 hy=>?_⟩;obtain⟨s2,d,ed,rx⟩:=yl x H2 hy;replace R':=R'.up s2;have ed2:ds.drop i=d::ds.drop (i+1):=by
   rw[zCg hlt]
   have:=zAH hlt
   rw[ed]at this;cases this;rfl
  rw[ed2]at w';unfold forL at w';cases eg:fg d ρ' with
  |ex c=>rw[eg]at w';exact zAI w'
  |st=>rw[eg]at w';exact zAI w'
  |ok ρ1=>
   rw[eg]at w';refine g2 (U1++U) x d Z' H2 ρ' lab' _ ρ1 R' rx eg λ Z1 R1'=>b2 (U1++U) Z1 H2 ρ1 lab' _ R1' ?_
   dsimp only at w';cases eb:f ρ1 with
   |nx ρ2=>rw[eb]at w';exact λ Z2 H3 lab2 R2=>⟨ρ2,lab2,R2,w'⟩
   |ct ρ2=>rw[eb]at w';exact λ Z2 H3 lab2 R2=>⟨ρ2,lab2,R2,w'⟩
   |bk ρ2=>rw[eb]at w';exact λ Z2 H3 lab2 R2=>w' Z2 H3 lab2 R2.drop
   |rt d=>rw[eb]at w';exact w'
   |ex c=>rw[eb]at w';exact w'
   |st=>rw[eb]at w';exact w'
 .have e:i=ds.length:=by lia
  subst e;rw[zEW]at w';exact .inl ⟨(jj _).1 (zAS _),w' Z' H' lab' R'.drop⟩
def itW(c:En->Rs Bool)(b:En->Ou):Nat->En->Ou
 |0,_=>.st
 |n+1,ρ=>(c ρ).bo λ k=>if k=true then(match b ρ with
   | .nx ρ2=>itW c b n ρ2
   | .ct ρ2=>itW c b n ρ2
   | .bk ρ2=>.nx ρ2
   |o=>o)else .nx ρ
def fuel:Nat:=1000000
def ul(c:En->Rs Bool)(b:En->Ou):En->Ou:=itW c b fuel
def aFO(hc:ST C c fc)(hb:SSs C ss f):SS C (.While c ss [] pos) (ul fc f):=by
 obtain⟨tc,c1,c2⟩:=hc;obtain⟨tb,b1,b2⟩:=hb;refine⟨_,λ i=>aFu (C.own i) (c1 i) (b1 i),λ U Z H ρ lab De R W=>?_⟩;refine⟨λ n Z' H'=>∃ρ' lab',RR C.K C.G U ρ' Z' H' lab'/\WS C.K C.G U (itW fc f n ρ') De,⟨fuel,ρ,lab,R,W⟩,?_⟩;rintro n Z' H' ⟨ρ',lab',R',w'⟩;cases n with
 |zero=>exact zAI w'
 |succ n=>
  refine c2 U Z' H' ρ' lab' _ R' (WS.bo (show WS C.K C.G U ((fc ρ').bo _) De from w') |>.imp λ k _ w H1 s1=>?_);cases k with
  |false=>
   rw[if_neg zA0]at w ⊢;exact w Z' H1 lab' (R'.up s1)
  |true=>
   rw[if_pos rfl]at w ⊢;refine⟨λ Z2 H2=>∃ρ2 lab2,RR C.K C.G U ρ2 Z2 H2 lab2/\WS C.K C.G U (itW fc f n ρ2) De,λ Z2 H2 ⟨ρ2,lab2,R2,w2⟩=>⟨n,zBb n,ρ2,lab2,R2,w2⟩,?_⟩;refine b2 U Z' H1 ρ' lab' _ (R'.up s1) ?_;cases eb:f ρ' with
   |nx ρ2=>rw[eb]at w;exact λ Z2 H3 lab2 R2=>⟨ρ2,lab2,R2,w⟩
   |ct ρ2=>rw[eb]at w;exact λ Z2 H3 lab2 R2=>⟨ρ2,lab2,R2,w⟩
   |bk ρ2=>rw[eb]at w;exact w
   |rt d=>rw[eb]at w;exact w
   |ex c=>rw[eb]at w;exact w
   |st=>rw[eb]at w;exact w
def zX(x:Str)(ga:En->Rs (List D)):En->Ou:=λ ρ=>(ga ρ).bo λ ds=>if ds.length<=zAQ then .ex x else .st
def aFQ{rest:List Expr}(hd:C.dOk=true)(hm:C.mg x=some (.ref Ca))(hcl:C.G.cl x=Ca)(hC:uP C.K Ca)(ha:SA C m (yY::rest) ga)(he:∀i,zAU (yY::rest) (C.X i).env=(false,eval yY (C.X i).env)::zAU rest (C.X i).env:=by intro _;rfl)(hplain:∀i,(zCW cpos (zAU rest (C.X i).env)).any (·.1)=false:=by intro _;rfl)(hdb:Nd x:=by decide)(hg:∀i,Gl (C.X i) x:=by intro _;rfl):SS C (.Raise (some (.Call (.Name x np) (yY::rest) [] cpos)) none pos) (zX x ga):=by
 obtain⟨t,h1,h2⟩:=ha;refine⟨_,λ i=>aFy (C.dcx hd i) (C.calm i) (by rw[(C.cx i).2.2.2.1];exact hm) (by rw[C.hK i];exact hC) (hg i) (h1 i) (he i) (hplain i) hdb,λ U Z H ρ lab De R W=>h2 U Z H ρ lab _ R (W.bo.imp λ ds _ w vs H1 s r=>?_)⟩;by_cases hz:ds.length<=zAQ
 .rw[if_pos hz]at w
  refine⟨by rw[r.length];exact hz,?_⟩
  have:=w H1 (R.old.trans s)
  rwa [hcl]at this
 .rw[if_neg hz]at w
  exact zAI w
def spF(K:zAA)(cl:Str->Addr)(n:Nat)(F:List D->Rs D):Sp:=λ vs H Q E=>∃ds,vs.length=n/\Rps K (λ _=>True) H vs ds/\WR ⟨H,E,cl⟩ (F ds) (λ d=>∀v H',aR H H'->Rp K (λ p=>H p=none) H' v d->Q v H')
def aP(F:List D->Rs D)(ga:En->Rs (List D)):En->Rs D:=λ ρ=>(ga ρ).bd F
def aFW{K:zAA}(hn:∀ρ ds,ga ρ= .ok ds->ds.length=n)(h:aJ2 K G m t ga):iR K G (some []) (aA6 (spF K G.cl n F) [] G.E t) (aP F ga):=by
 intro U Z H ρ lab Q R W;refine h U Z H ρ lab _ R (W.bd.imp λ ds eds w vs H1 s r=>⟨ds,by rw[zB0,r.length];exact hn ρ ds eds,by rw[zB0];exact r.wk λ _ _ _ _=>trivial,?_⟩);cases hF:F ds with
 |ok d=>
  rw[hF]at w;exact λ v H' s' r'=>w v H' (s.trans s') (r'.wk λ p o _ z=>.inl (s.free z))
 |ex c=>rw[hF]at w;exact λ H' s'=>w H' ((R.old.trans s).trans s')
 |st=>rw[hF]at w;exact w
variable{k:Nat}{fn:Addr}{fd:zAg}{ps:List Str}{x:Str}{p:Pos}{F:List D->Rs D}{n:Nat}
def aHy(hF:cA C.prog C.w C.K C.mg C.base (CX1 C.prog C.w) k fn fd ps (spF C.K C.G.cl n F))(hr:k<=C.k)(hm:C.mg x=some (.ref fn))(hk:zDB C.K (.ref fn)=true)(hb:Binds C.K fd ps [])(ha:SA C m (e::es) ga)(hn:∀ρ ds,ga ρ= .ok ds->ds.length=n)(hdb:Nd x:=by decide)(he:∀i,zAU (e::es) (C.X i).env=(false,eval e (C.X i).env)::zAU es (C.X i).env:=by intro _;rfl)(hpl:∀i,(zCW pos (zAU es (C.X i).env)).any (·.1)=false:=by intro _;rfl)(hg:∀i,Gl (C.X i) x:=by intro _;rfl):SE C (some []) (.Call (.Name x p) (e::es) [] pos) (aP F ga):=by
 obtain⟨t,h1,h2⟩:=ha;refine⟨_,λ i=>?_,aFW hn h2⟩;obtain⟨e1,e2,e3,e4,e5⟩:=C.cx i;refine z8 (CX:=CX1 (C.X i).prog (C.X i).w) (by rw[e1,e2,e3,e4,e5];exact hF) ((C.room i).mono hr) (hg i) (by rw[e4];exact hm) (by rw[e3];exact hk) (by rw[e3];exact hb) .nil (C.pass i) (h1 i) hdb (he i) (hpl i)
def aIk(h:aG ρ= .ok ds):ds.length=0:=by cases h;rfl
def aG7(h:∀ρ ds,ga ρ= .ok ds->ds.length=n):∀ρ ds,aB fa ga ρ= .ok ds->ds.length=n+1:=λ ρ ds e=>by
 obtain⟨d,_,e⟩:=dF e;obtain⟨r,er,e⟩:=dF e;cases e;rw[zAk,h ρ r er]
end
def bT(mg:Str->Option Value):Str->Addr:=λ x=>match mg x with
 |some (.ref a)=>a
 |_=>0
abbrev ctD(P:zAV)(w:World)(K:zAA)(mg:Str->Option Value)(base:Heap)(N:List Str)(q:Str)(sc:Scope)(f:Addr)(cdv:Value)(A:zAc)(outer:List Env)(s:zAF)(H:Hp)(E:XK)(k:Nat)(hr:jN k (A.deeper (zE1 q sc s.heap.objs.size f cdv))):Ct where
 ι:=Unit
 X:=λ _=>aAI (CX1 P w) P w K mg base N q sc f cdv A outer s H E
 prog:=P
 w:=w
 K:=K
 mg:=mg
 base:=base
 k:=k
 G:=⟨H,E,bT mg⟩
 cx:=λ _=>⟨rfl,rfl,rfl,rfl,rfl⟩
 calm:=λ _=>rfl
 room:=λ _=>hr
 own:=λ _=>gA.own gA.of
 pass:=λ _=>gA.pass gA.of
 dOk:=true
 dcx:=λ _ _=>gA.of
def aq(n:Nat)(ds:List D):En:=ds.map .sh++zA2 (n-ds.length) .no
def fV(n:Nat)(f:En->Ou):List D->Rs D:=λ ds=>match f (aq n ds)with
 | .nx _=>.ok .non
 | .rt d=>.ok d
 | .ex c=>.ex c
 |_=>.st
theorem RR.start{K:zAA}(r:Rps K (λ _=>True) H vs ds):RR K ⟨H,E,cl⟩ [] (aq N.length ds) (start N vs) H (λ _=>(0,0)):=by
 have hl:=r.length;refine⟨by unfold aq L2.start;simp[hl],λ i s e=>?_,aR.refl H,λ p hp=>absurd rfl hp,λ q hq=>by cases hq⟩;unfold aq at e;by_cases hi:i<ds.length
 .rw[zB1 (by simpa using hi),zAO]at e
  cases ed:ds[i]? with
  |none=>rw[ed]at e;cases e
  |some d=>
   rw[ed]at e;cases e;obtain⟨x,ex,rx⟩:=r.getD ed;refine .inr ⟨x,?_,rx.wk λ _ _ _ _=>zAf _⟩;unfold L2.start;rw[zB1 (by simpa[hl]using hi),zAO,ex];rfl
 .rw[zCd (by simpa using hi),zBt]at e
  split at e
  .cases e;exact .inl rfl
  .cases e
section
variable{P:zAV}{w:World}{K:zAA}{mg:Str->Option Value}{base:Heap}
def aLh{x q:Str}{st:Stmt}(F:L2.Fun K x q st fn fd)(S:aY N ps (aM st))
  (hb:∀cdv A outer s H E hr,SSs (ctD P w K mg base N q (aM st) fn cdv A outer s H E k hr) (fO st) f):
  cA P w K mg base (CX1 P w) (k+1) fn fd ps (spF K (bT mg) ps.length (fV N.length f)):=by
 refine F.okX S (λ vs H Q E ⟨ds,hl,_⟩=>hl) λ cdv A outer s H vs Q E hr ⟨ds,hl,r,W⟩=>?_
 obtain⟨t,h1,h2⟩:=hb cdv A outer s H E hr;refine⟨t,h1 (),h2 [] _ H _ _ _ (RR.start r) ?_⟩;unfold fV at W;cases e:f (aq N.length ds)with
 |nx ρ=>rw[e]at W;exact λ Z' H' lab R=>W .non H' R.old .non
 |rt d=>rw[e]at W;exact λ v H' s r=>W v H' s r
 |ex c=>rw[e]at W;exact W
 |bk ρ=>rw[e]at W;exact zAI W
 |ct ρ=>rw[e]at W;exact zAI W
 |st=>rw[e]at W;exact zAI W
def aJI{st:Stmt}(F:L2.Fun K x q st fn fd)(S:aY N ps (aM st))
  (hb:∀cdv A outer s H E hr,SSs (ctD P w K mg base N q (aM st) fn cdv A outer s H E k hr) (fO st) f)(hn:ps.length=n)(hF:fV N.length f=FF):
  cA P w K mg base (CX1 P w) (k+1) fn fd ps (spF K (bT mg) n FF):=by
 subst hn hF;exact aLh F S hb
end
def OpR.or(h:OpR X f r)(h':OpR X f r'):OpR X f (λ x y H Q=>r x y H Q\/r' x y H Q):=by
 intro kX s Z H x y v u Q I rx ry q;rcases q with q|q
 .exact h kX s Z H x y v u Q I rx ry q
 .exact h' kX s Z H x y v u Q I rx ry q
def OpS.or{K:zAA}(h:OpS K r fd)(h':OpS K r' fd'):OpS K (λ x y H Q=>r x y H Q\/r' x y H Q) (λ d e=>match fd d e with
  | .ok z=>.ok z
  |_=>fd' d e):=by
 intro A x y d e H Q z rx ry ez q;dsimp only at ez;cases hd:fd d e with
 |ok w=>rw[hd]at ez;cases ez;exact .inl (h A x y d e H Q _ rx ry hd q)
 |ex c=>rw[hd]at ez;exact .inr (h' A x y d e H Q z rx ry ez q)
 |st=>rw[hd]at ez;exact .inr (h' A x y d e H Q z rx ry ez q)
section
variable{K:zAA}
def i2(p:Int->Int->Bool)(g:Int->Int->D):D->D->Rs D
 | .int i,.int j=>if p i j=true then .ok (g i j)else .st
 |_,_=>.st
def aCR{g:Int->Int->Int}(hp:∀i j,p i j=true->c i j):OpS K (rI c λ i j=>.int (g i j)) (i2 p λ i j=>.int (g i j)):=by
 intro A x y d e H Q z rx ry ez q;unfold i2 at ez;split at ez
 .rename_i i j
  split at ez
  .rename_i h
   cases ez;obtain rfl:=rx.int_inv;obtain rfl:=ry.int_inv;exact⟨i,j,rfl,rfl,hp i j h,q _ H (aR.refl H) (.int _)⟩
  .cases ez
 .cases ez
def aI2{g:Int->Int->Int}:OpS K (rI0 λ i j=>.int (g i j)) (i2 (λ _ _=>true) λ i j=>.int (g i j)):=by
 intro A x y d e H Q z rx ry ez q;unfold i2 at ez;split at ez
 .rename_i i j
  cases ez;obtain rfl:=rx.int_inv;obtain rfl:=ry.int_inv;exact⟨i,j,rfl,rfl,q _ H (aR.refl H) (.int _)⟩
 .cases ez
def za{g:Int->Int->Bool}:OpS K (rI0 λ i j=>.bl (g i j)) (i2 (λ _ _=>true) λ i j=>.bl (g i j)):=by
 intro A x y d e H Q z rx ry ez q;unfold i2 at ez;split at ez
 .rename_i i j
  cases ez;obtain rfl:=rx.int_inv;obtain rfl:=ry.int_inv;exact⟨i,j,rfl,rfl,q _ H (aR.refl H) (.bl _)⟩
 .cases ez
def aAC{g:Int->Int->Int}:∀x y z,i2 p (λ i j=>.int (g i j)) x y= .ok z->imm z=true:=by
 intro x y z e;unfold i2 at e;split at e
 .split at e
  .cases e;rfl
  .cases e
 .cases e
def aGt{g:Int->Int->Bool}:∀x y z,i2 p (λ i j=>.bl (g i j)) x y= .ok z->imm z=true:=by
 intro x y z e;unfold i2 at e;split at e
 .split at e
  .cases e;rfl
  .cases e
 .cases e
def cL:D->D->Rs D
 | .int i,.int j=>.ok (.int (i+j))
 | .lst l,.lst m=>if l.length+m.length<=zAQ then .ok (.lst (l++m))else .st
 | .tup l,.tup m=>if l.length+m.length<=zAQ then .ok (.tup (l++m))else .st
 |_,_=>.st
def aJo(K:zAA):R2:=λ x y H Q=>∃a b xs ys,x= .ref a/\y= .ref b/\SqT K H a xs/\SqT K H b ys/\xs.length+ys.length<=zAQ/\
 (xs=[]->Q (.ref b) H)/\(ys=[]->Q (.ref a) H)/\New H (.tup (xs++ys)) Q
def aI7:OpR X (zCU .Add) (aJo X.K):=by
 intro kX s Z H x y v u Q I rx ry h;obtain⟨a,b,xs,ys,rfl,rfl,ha,hb,hz,q0,q1,q2⟩:=h;by_cases hx:xs=[]
 .subst hx
  cases rx;cases ry;obtain⟨its,r1,p1,_⟩:=I.tuple ha;obtain⟨its2,r2,p2,_⟩:=I.tuple hb;cases r1;exact HT.aHW p1 p2 ⟨.ref b,H,I,rfl,q0 rfl⟩
 .exact aI8 kX s Z H _ _ v u Q I rx ry ⟨a,b,xs,ys,rfl,rfl,ha,hb,hx,hz,q1,λ _ p hp=>q2.at hp⟩
def aFp(K:zAA):R2:=λ x y H Q=>rI0 (λ i j=>.int (i+j)) x y H Q\/(aJp x y H Q\/aJo K x y H Q)
def aIa:OpR X (zCU .Add) (aFp X.K):=OpR.or aLQ (OpR.or aI9 aI7)
def aLC:OpS K (aFp K) cL:=by
 intro A x y d e H Q z rx ry ez q;unfold cL at ez;split at ez
 .cases ez;obtain rfl:=rx.int_inv;obtain rfl:=ry.int_inv;exact .inl ⟨_,_,rfl,rfl,q _ H (aR.refl H) (.int _)⟩
 .split at ez
  .rename_i hl
   cases ez;obtain⟨_,_,rfl,h1,m1,r1⟩:=rx.lst_inv;obtain⟨_,_,rfl,h2,m2,r2⟩:=ry.lst_inv;refine .inr (.inl ⟨_,_,_,_,rfl,rfl,h1,h2,by rw[r1.length,r2.length];exact hl,λ p H' s hp hn=>q _ H' s (.lst hp (.inl hn) ?_)⟩);exact(((r1.wk λ _ _ _ z=>z.1).append (r2.wk λ _ _ _ z=>z.1)).wk (A':=λ q=>(H q=none\/A q)/\q≠p) λ q o e z=>⟨.inr z,λ e'=>by subst e';rw[hn]at e;cases e⟩).up s
  .cases ez
 .split at ez
  .rename_i hl
   cases ez;obtain⟨_,_,rfl,h1,r1⟩:=rx.tup_inv;obtain⟨_,_,rfl,h2,r2⟩:=ry.tup_inv;have r1':=r1.wk (A':=λ p=>H p=none\/A p) λ _ _ _ z=>.inr z
   have r2':=r2.wk (A':=λ p=>H p=none\/A p) λ _ _ _ z=>.inr z
   refine .inr (.inr ⟨_,_,_,_,rfl,rfl,h1,h2,by rw[r1.length,r2.length];exact hl,λ e=>?_,λ e=>?_,λ p H' s hp hn=>q _ H' s (.tup (SqT.of hp) ((r1'.append r2').up s))⟩)
   .subst e
    cases r1';exact q _ H (aR.refl H) (.tup h2 r2')
   .subst e
    cases r2';rw[zB0]at q;exact q _ H (aR.refl H) (.tup h1 r1')
  .cases ez
 .cases ez
def iI:D->D->Rs D
 | .int i,.int j=>if (decide (-(2^64)<i)&&decide (i<2^64))||(decide (-(2^64)<j)&&decide (j<2^64))then .ok (.int (i*j))else .st
 | .lst l,.int k=>if decide (-(2^63)<=k)&&decide (k<2^63)&&decide (l.length*k.toNat<=zAQ)&&uL l then .ok (.lst (zA2 k.toNat l).flatten)else .st
 |_,_=>.st
theorem Rps.rep(r:Rps K A H xs ds):∀k:Nat,Rps K A H (zA2 k xs).flatten (zA2 k ds).flatten
 |0=>.nil
 |k+1=>by
  rw[zBh,zBh,zCb,zCb];exact r.append (Rps.rep r k)
def aJj:R2:=λ x y H Q=>rI aJ8 (λ i j=>.int (i*j)) x y H Q\/aMU x y H Q
def aI4:OpR X (zCU .Mult) aJj:=OpR.or aLH aLE
def aLA:OpS K aJj iI:=by
 intro A x y d e H Q z rx ry ez q;unfold iI at ez;split at ez
 .split at ez
  .rename_i hc
   cases ez;obtain rfl:=rx.int_inv;obtain rfl:=ry.int_inv;refine .inl ⟨_,_,rfl,rfl,?_,q _ H (aR.refl H) (.int _)⟩;simp only[zFm,zA5,decide_eq_true_eq]at hc;exact hc
  .cases ez
 .split at ez
  .rename_i hc
   simp only[zA5,decide_eq_true_eq]at hc;cases ez;obtain⟨_,_,rfl,h1,m1,r1⟩:=rx.lst_inv;obtain rfl:=ry.int_inv;refine .inr ⟨_,_,_,rfl,rfl,h1,hc.1.1.1,hc.1.1.2,by rw[r1.length];exact hc.1.2,λ p hp=>q _ _ (bF hp _) (.lst aV (.inl hp) ?_)⟩;exact((r1.rep _).wk (A':=λ q=>(H q=none\/A q)/\q≠p) λ q o e z=>⟨.inr z.1,λ e'=>by subst e';rw[hp]at e;cases e⟩).up (bF hp _)
  .cases ez
 .cases ez
def intsOf:List D->Option (List Int)
 |[]=>some []
 | .int i::r=>(intsOf r).map (i::·)
 |_=>none
theorem bW:∀{l:List D} {ns:List Int},intsOf l=some ns->l=ns.map .int
 |[],ns,h=>by cases h;rfl
 | .int i::r,ns,h=>by
  simp only[intsOf,zCY]at h;obtain⟨ms,h1,rfl⟩:=h;rw[bW h1];rfl
 | .non::_,_,h=>by cases h
 | .bl _::_,_,h=>by cases h
 | .str _::_,_,h=>by cases h
 | .tup _::_,_,h=>by cases h
 | .lst _::_,_,h=>by cases h
 | .dct _ _::_,_,h=>by cases h
 | .set _::_,_,h=>by cases h
 | .scr _::_,_,h=>by cases h
theorem cH:∀ns:List Int,intsOf (ns.map .int)=some ns
 |[]=>rfl
 |n::ns=>by simp only[zAD,intsOf,cH ns,zCr]
def ltT(p:List Int->List Int->Bool):D->D->Rs D
 | .tup l,.tup m=>match intsOf l,intsOf m with
  |some ns,some ms=>.ok (.bl (p ns ms))
  |_,_=>.st
 |_,_=>.st
def aDF(r:Rp K A H x (.tup l))(e:intsOf l=some ns):∃a,x= .ref a/\SqT K H a (ns.map V.int):=by
 have:=bW e
 subst this;cases r with
 |tup h r=>
  have:=r.ints_of
  subst this;exact⟨_,rfl,h⟩
def aDW(hr:∀x y H Q,(∃a b ns ms,x= .ref a/\y= .ref b/\SqT K H a (ns.map V.int)/\SqT K H b (ms.map V.int)/\Q (.bl (p ns ms)) H)->r x y H Q):OpS K r (ltT p):=by
 intro A x y d e H Q z rx ry ez q;unfold ltT at ez;split at ez
 .split at ez
  .rename_i ns ms e1 e2
   cases ez;obtain⟨a,rfl,ha⟩:=aDF rx e1;obtain⟨b,rfl,hb⟩:=aDF ry e2;exact hr _ _ _ _ ⟨a,b,ns,ms,rfl,rfl,ha,hb,q _ H (aR.refl H) (.bl _)⟩
  .cases ez
 .cases ez
def ltD:D->D->Rs D:=λ d e=>match i2 (λ _ _=>true) (λ i j=>.bl (decide (i<j))) d e with
 | .ok z=>.ok z
 |_=>ltT HT.lexLt d e
def leD:D->D->Rs D:=λ d e=>match i2 (λ _ _=>true) (λ i j=>.bl (decide (i<=j))) d e with
 | .ok z=>.ok z
 |_=>ltT HT.lexLe d e
def gtD:D->D->Rs D:=i2 (λ _ _=>true) (λ i j=>.bl (decide (j<i)))
def geD:D->D->Rs D:=i2 (λ _ _=>true) (λ i j=>.bl (decide (j<=i)))
def aLJ(hu:X.A.units<cLine):OpR X (zBA .Lt) (λ x y H Q=>rI0 (λ i j=>.bl (decide (i<j))) x y H Q\/aIF X.K x y H Q):=OpR.or aM7 (aLK hu)
def aLL(hu:X.A.units<cLine):OpR X (zBA .LtE) (λ x y H Q=>rI0 (λ i j=>.bl (decide (i<=j))) x y H Q\/aIG X.K x y H Q):=OpR.or aM8 (aLM hu)
def aGP:OpS K (λ x y H Q=>rI0 (λ i j=>.bl (decide (i<j))) x y H Q\/aIF K x y H Q) ltD:=OpS.or za (aDW λ _ _ _ _ h=>h)
def aGQ:OpS K (λ x y H Q=>rI0 (λ i j=>.bl (decide (i<=j))) x y H Q\/aIG K x y H Q) leD:=OpS.or za (aDW λ _ _ _ _ h=>h)
def aD9(e:ltT p x y= .ok z):imm z=true:=by
 unfold ltT at e;split at e
 .split at e
  .cases e;rfl
  .cases e
 .cases e
def aGq:∀x y z,ltD x y= .ok z->imm z=true:=by
 intro x y z e;unfold ltD at e;split at e
 .rename_i w hw;cases e;exact aGt _ _ _ hw
 .exact aD9 e
def aLa:∀x y z,leD x y= .ok z->imm z=true:=by
 intro x y z e;unfold leD at e;split at e
 .rename_i w hw;cases e;exact aGt _ _ _ hw
 .exact aD9 e
def atD(l:List D)(i:Int):Rs D:=match atI l i with
 |some d=>.ok d
 |none=>.st
def ixD:D->D->Rs D
 | .tup l,.int i=>atD l i
 | .lst l,.int i=>atD l i
 | .scr l,.int i=>atD (l.map .int) i
 |_,_=>.st
theorem Rps.at(r:Rps K A H xs ds)(e:atI ds i=some d):∃x,atI xs i=some x/\Rp K A H x d:=by
 unfold atI at e ⊢;rw[r.length];cases h:ixN ds.length i with
 |none=>rw[h]at e;cases e
 |some j=>
  rw[h]at e;obtain⟨x,e1,e2⟩:=r.getD (i:=j) (d:=d) e;exact⟨x,e1,e2⟩
def aM6:OpS K (rIx K) ixD:=by
 intro A x y d e H Q z rx ry ez q;unfold ixD at ez;split at ez
 .unfold atD at ez
  split at ez
  .rename_i w hw
   cases ez;obtain⟨_,_,rfl,h,r⟩:=rx.tup_inv;obtain rfl:=ry.int_inv;obtain⟨v,e1,e2⟩:=r.at hw;exact .inr (.inl ⟨_,_,_,v,rfl,rfl,h,e1,q v H (aR.refl H) (e2.wk λ _ _ _ z=>.inr z)⟩)
  .cases ez
 .unfold atD at ez
  split at ez
  .rename_i w hw
   cases ez;obtain⟨_,_,rfl,h,m,r⟩:=rx.lst_inv;obtain rfl:=ry.int_inv;obtain⟨v,e1,e2⟩:=r.at hw;exact .inl ⟨_,_,_,v,rfl,rfl,SqL.of h,e1,q v H (aR.refl H) (e2.wk λ _ _ _ z=>.inr z.1)⟩
  .cases ez
 .unfold atD at ez
  split at ez
  .rename_i w hw
   cases ez;obtain⟨_,rfl,h⟩:=rx.scr_inv;obtain rfl:=ry.int_inv;obtain⟨v,e1,e2⟩:=(Rps.ints (K:=K) (A:=A) (H:=H)).at hw;exact .inl ⟨_,_,_,v,rfl,rfl,h.sq,e1,q v H (aR.refl H) (e2.wk λ _ _ _ z=>.inr z)⟩
  .cases ez
 .cases ez
def eV:List D->Rs D
 |[.tup l]=>.ok (.int l.length)
 |[.lst l]=>.ok (.int l.length)
 |[.scr l]=>.ok (.int l.length)
 |_=>.st
def aHU:uD K (λ xs H Q=>∃p ys,xs=[.ref p]/\(SqL K H p ys\/SqT K H p ys)/\Q (.int ys.length) H) eV:=by
 intro A xs ds H Q z r ez q;unfold eV at ez;split at ez
 .cases ez
  obtain⟨_,rfl,h0⟩:=r.one_inv;obtain⟨_,_,rfl,h,r⟩:=h0.tup_inv;exact⟨_,_,rfl,.inr h,by rw[r.length];exact q _ H (aR.refl H) (.int _)⟩
 .cases ez
  obtain⟨_,rfl,h0⟩:=r.one_inv;obtain⟨_,_,rfl,h,m,r⟩:=h0.lst_inv;exact⟨_,_,rfl,.inl (SqL.of h),by rw[r.length];exact q _ H (aR.refl H) (.int _)⟩
 .cases ez
  obtain⟨_,rfl,h0⟩:=r.one_inv;obtain⟨_,rfl,h⟩:=h0.scr_inv;exact⟨_,_,rfl,.inl h.sq,by rw[zAE];exact q _ H (aR.refl H) (.int _)⟩
 .cases ez
def aDa:∀x z,eV x= .ok z->imm z=true:=by
 intro x z e;unfold eV at e;split at e<;>first|(cases e;rfl)|cases e
def tyD:D->String
 | .non=>"NoneType"| .bl _=>"bool"| .int _=>"int"| .str _=>"str"| .tup _=>"tuple"| .lst _=>"list"| .dct _ _=>"dict"| .set _=>"set"| .scr _=>"script"| .fn _=>"function"| .itm _ _=>"items"| .itx _ _=>"items"
def lN(T:String):D->Rs D:=λ d=>if lZ (tyD d) T true=true then .ok (.bl true)else if lZ (tyD d) T false=true then .ok (.bl false)else .st
def aJk(K:zAA)(T:String):List V->Hp->VK->Prop:=λ xs H Q=>∃x d A b,xs=[x,.ty T]/\Rp K A H x d/\lZ (tyD d) T b=true/\Q (.bl b) H
def aEs:cX X (.builtin "isinstance") (aJk X.K T):=by
 intro kX s Z H xs us Q I rv h;obtain⟨x,d,A,b,rfl,rd,ok,q⟩:=h;cases rd with
 |tup h r=>
  obtain⟨u,w',rfl,ru,rw'⟩:=vals2 rv;cases ru;cases rw';obtain⟨its,_,⟨o,h1,h2,_⟩,_⟩:=I.tuple h;exact zBL zGl I.kIn ⟨o,h1,h2⟩ (aC4 ok) (λ z=>nomatch z) λ tk=>⟨.bl b,H,I.tok _,rfl,q⟩
 |set h m hS nd=>cases b<;>simp[lZ,tyD]at ok
 |scr h=>cases b<;>simp[lZ,tyD]at ok
 |fn h=>cases b<;>simp[lZ,tyD]at ok
 |itm h=>cases b<;>simp[lZ,tyD]at ok
 |itx h=>cases b<;>simp[lZ,tyD]at ok
 |non=>exact kJ kX s Z H _ us Q I rv ⟨_,T,_,b,rfl,.non,ok,q⟩
 |bl c=>exact kJ kX s Z H _ us Q I rv ⟨_,T,_,b,rfl,.bl c,ok,q⟩
 |int c=>exact kJ kX s Z H _ us Q I rv ⟨_,T,_,b,rfl,.int c,ok,q⟩
 |str c=>exact kJ kX s Z H _ us Q I rv ⟨_,T,_,b,rfl,.str c,ok,q⟩
 |lst h m r=>exact kJ kX s Z H _ us Q I rv ⟨_,T,_,b,rfl,.lst h,ok,q⟩
 |dK h m r=>exact kJ kX s Z H _ us Q I rv ⟨_,T,_,b,rfl,.dK h,ok,q⟩
 |dT h m r=>
  obtain⟨u,w',rfl,ru,rw'⟩:=vals2 rv;cases ru;cases rw';obtain⟨⟨_,_,_,o,_,_,_,h1,h2,_⟩,_⟩:=(show bM X.prog X.w H s.heap _ (dxO _ _)from I.hok _ _ h.at_);exact zBL zEt I.kIn ⟨o,h1,h2.1⟩ (aC4 ok) (λ z=>nomatch z) λ tk=>⟨.bl b,H,I.tok _,rfl,q⟩
end
section
variable{C:Ct}{pos p p2:Pos}{m:Mode}{a:Expr}{fa:En->Rs D}
def jB(ha:SE C m a fa)(hm:C.mg "isinstance"=none)(hmT:C.mg x=none)(hn:x≠"__name__":=by decide)(hd:Nd x:=by decide)(he:∀i,zAU [a,.Name x p2] (C.X i).env=(false,eval a (C.X i).env)::zAU [.Name x p2] (C.X i).env:=by intro _;rfl)(hpl:∀i,(zCW pos (zAU [.Name x p2] (C.X i).env)).any (·.1)=false:=by intro _;rfl)(hg:∀i,Gl (C.X i) "isinstance":=by intro _;rfl)(hv:zAz "isinstance"=some (.builtin "isinstance"):=by decide+kernel)(hgT:∀i,Gl (C.X i) x:=by intro _;rfl)(hvT:zAz x=some (.type T):=by decide+kernel):
  SE C (some []) (.Call (.Name "isinstance" p) [a,.Name x p2] [] pos) (op1 (lN T) fa):=by
 obtain⟨t,h1,h2⟩:=ha;refine⟨tCB (aJk C.K T) (dR t (dR (tC (.ty T)) uF)),λ i=>?_,λ U Z H ρ lab Q R W=>?_⟩
 .rw[<-C.hK i]
  exact gG aEs (hg i) (by rw[(C.cx i).2.2.2.1];exact hm) hv (bz (h1 i) (bz (aIX (v:=.ty T) (hgT i) (by rw[(C.cx i).2.2.2.1];exact hmT) hvT rfl hn hd) jF) (he i)) (by decide) (by decide) (he i) (hpl i)
 .refine h2 U Z H ρ lab _ R (W.bd.imp λ d _ w x H1 s1 r1=>?_)
  obtain⟨z,ez,w⟩:=w.okD;unfold lN at ez;split at ez
  .rename_i h;cases ez;exact⟨x,d,_,true,rfl,r1,h,w _ H1 s1 (.bl _)⟩
  .split at ez
   .rename_i h;cases ez;exact⟨x,d,_,false,rfl,r1,h,w _ H1 s1 (.bl _)⟩
   .cases ez
end
def aA4:Slot->Slot
 | .ow d=>.sh d
 | .nw d=>.sh d
 | .oz d=>.sh d
 | .o2 l=>.sh (.lst (l.map .lst))
 |s=>s
def shE(ρ:En):En:=ρ.map aA4
def stV(js:kQ)(Z:L2.St):L2.St:=js.map λ o=>o.bind λ j=>(Z[j]?).join
def stE(js:kQ)(ρ:En):En:=js.map λ o=>match o with
 |none=>.no
 |some j=>(ρ[j]?).getD .no
def aIA{K:zAA}(h:gq K H lab i v s):∃d,(s= .no\/aA4 s= .sh d)/\(s= .no\/Rp K (λ _=>True) H v d):=by
 cases s with
 |no=>exact⟨.non,.inl rfl,.inl rfl⟩
 |sh d=>exact⟨d,.inr rfl,.inr (Rp.wk (λ _ _ _ _=>trivial) h)⟩
 |nw d=>exact⟨d,.inr rfl,.inr (Rp.wk (λ _ _ _ _=>trivial) h)⟩
 |ow d=>exact⟨d,.inr rfl,.inr (Rp.wk (λ _ _ _ _=>trivial) h.1)⟩
 |oz d=>exact⟨d,.inr rfl,.inr (Rp.wk (λ _ _ _ _=>trivial) (aJt h))⟩
 |o2 l=>exact⟨_,.inr rfl,.inr (Rp.wk (λ _ _ _ _=>trivial) (aGU h))⟩
theorem RR.shE{K:zAA}(R:RR K G U ρ Z H lab):RR K G U (shE ρ) Z H (λ _=>(0,0)):=by
 refine⟨by unfold VL.shE;rw[zAE];exact R.len,λ i s e=>?_,R.old,λ p hp=>absurd rfl hp,λ q hq=>(R.tm q hq).wk λ _ _ _ _=>zAf _⟩;unfold VL.shE at e;rw[zAO]at e;cases e0:ρ[i]? with
 |none=>rw[e0]at e;cases e
 |some s0=>
  rw[e0]at e;cases e;rcases R.sl i s0 e0 with rfl|⟨v,ev,hv⟩
  .exact .inl rfl
  .obtain⟨d,h1,h2⟩:=aIA hv
   rcases h1 with rfl|h1
   .exact .inl rfl
   .rcases h2 with rfl|h2
    .exact .inl rfl
    .exact .inr ⟨v,ev,by rw[h1];exact h2.wk λ _ _ _ _=>zAf _⟩
def aFN{i:Nat}(e:(stE js ρ)[i]? =some s):s= .no\/∃j,js[i]? =some (some j)/\ρ[j]? =some s:=by
 unfold stE at e;rw[zAO]at e;cases ej:js[i]? with
 |none=>rw[ej]at e;cases e
 |some o=>
  rw[ej]at e;cases o with
  |none=>cases e;exact .inl rfl
  |some j=>
   cases er:ρ[j]? with
   |none=>simp[er]at e;exact .inl e.symm
   |some s'=>simp[er]at e;subst e;exact .inr ⟨j,rfl,er⟩
def RR.block{K:zAA}{U:List (V×D)}(R:RR K G U (VL.shE ρ) Z H lab)(hz:∀p,(lab p).1<=1)(hl:H l=none):
  RR K G U (stE js (VL.shE ρ)) (stV js Z) H (λ p=>if p=l then(2,0)else(0,0)):=by
 have nl:∀p o,H p=some o->p≠l:=λ p o e z=>by subst z;rw[hl]at e;cases e
 refine⟨by unfold stE stV;rw[zAE,zAE],λ i s e=>?_,R.old,λ p hp=>?_,λ q hq=>(R.tm q hq).wk λ p o e _=>by rw[if_neg (nl p o e)];exact zAf _⟩
 .rcases aFN e with rfl|⟨j,ej,es⟩
  .exact .inl rfl
  .rcases R.sl j s es with rfl|⟨v,ev,hv⟩
   .exact .inl rfl
   .refine .inr ⟨v,?_,?_⟩
    .unfold stV
     rw[zAO,ej];simp[ev]
    .unfold VL.shE at es
     rw[zAO]at es;cases e0:ρ[j]? with
     |none=>rw[e0]at es;cases es
     |some s0=>
      rw[e0]at es;cases es;cases s0 with
      |no=>trivial
      |oz d=>exact Rp.wk (λ p o e _=>by show(if p=l then((2,0):Nat×Nat)else(0,0)).1<=1;rw[if_neg (nl p o e)];exact zAf _) hv
      |nw d=>exact Rp.wk (λ p o e _=>by show(if p=l then((2,0):Nat×Nat)else(0,0)).1<=1;rw[if_neg (nl p o e)];exact zAf _) hv
      |sh d=>exact Rp.wk (λ p o e _=>by show(if p=l then((2,0):Nat×Nat)else(0,0)).1<=1;rw[if_neg (nl p o e)];exact zAf _) hv
      |ow d=>exact Rp.wk (λ p o e _=>by show(if p=l then((2,0):Nat×Nat)else(0,0)).1<=1;rw[if_neg (nl p o e)];exact zAf _) hv
      |o2 d=>exact Rp.wk (λ p o e _=>by show(if p=l then((2,0):Nat×Nat)else(0,0)).1<=1;rw[if_neg (nl p o e)];exact zAf _) hv
 .by_cases hp':p=l
  .subst hp';exact R.old.free hl
  .exact absurd (show(if p=l then((2,0):Nat×Nat)else(0,0)).1=0 by rw[if_neg hp']) hp
def aNZ(XN N:List Str)(js:kQ)(ks:List Nat)(sc:Scope):Bool:=(zAm js.length).all λ i=>match js[i]? with
 |some (some j)=>match N[i]?,XN[j]? with
  |some x,some y=>x==y&&sc.names.lookup x==some .free&& !ks.contains i
  |_,_=>false
 |_=>true
def aCh(h1:sc.kind= .function)(h2:(sc.names.all λ y=>y.2 != .cell||sc.names.lookup y.1==some .cell)=true)(h3:(sc.names.all λ y=>y.2 != .local||sc.names.lookup y.1==some .local)=true)
  (h4:(sc.names.all λ y=>y.2 != .free||(X.env.kindOf y.1==some .cell||X.env.kindOf y.1==some .free))=true)(h5:js.length=N.length)(h6:aNZ X.N N js ks sc=true):fJ X sc N (stV js) ks:=by
 refine⟨h1,λ y hy e=>?_,λ y hy e=>?_,λ y hy e=>?_,λ Z=>by unfold stV;rw[zAE];exact h5,λ Z i x v e1 e2=>?_⟩
 .have:=zAv.mp h2 y hy
  rw[e]at this;simpa using this
 .have:=zAv.mp h3 y hy
  rw[e]at this;simpa using this
 .have:=zAv.mp h4 y hy
  rw[e]at this;simpa using this
 .unfold stV at e2
  rw[zAO]at e2;cases ej:js[i]? with
  |none=>rw[ej]at e2;cases e2
  |some o=>
   rw[ej]at e2;cases o with
   |none=>cases e2
   |some j=>
    have hi:i<js.length:=(zAP.mp ej).1
    have:=zAv.mp h6 i (zBj.mpr hi)
    rw[ej,e1]at this;dsimp only at this;cases ey:X.N[j]? with
    |none=>rw[ey]at this;cases this
    |some y=>
     rw[ey]at this;simp only[zA5,beq_iff_eq,zFK]at this;obtain⟨⟨h,h'⟩,h''⟩:=this;subst h;refine⟨h',λ hk=>?_,j,ey,?_⟩
     .rw[List.contains_iff_mem.mpr hk]at h'';cases h''
     .simp only[zCr,zH0,Option.some.injEq]at e2
      cases es:Z[j]? with
      |none=>rw[es]at e2;cases e2
      |some w=>rw[es]at e2;simp at e2;subst e2;rfl
abbrev Ct.blk(C:Ct)(sc:Scope)(N:List Str):Ct where
 ι:=C.ι×Addr×List Addr×zAF×Hp
 X:=λ i=>(C.X i.1).block sc i.2.1 N i.2.2.1 i.2.2.2.1 i.2.2.2.2
 prog:=C.prog
 w:=C.w
 K:=C.K
 mg:=C.mg
 base:=C.base
 k:=C.k
 G:={C.G with E:=λ _ _ _=>False}
 cx:=λ i=>C.cx i.1
 calm:=λ i=>C.calm i.1
 room:=λ i=>C.room i.1
 own:=λ i=>PassesOwn.never
 pass:=λ i kX Z H s e s' I h=>by obtain⟨_,_,_,_,_,_,_,_,_,_,_,_,_,hE⟩:=h;exact hE
 dOk:=false
 dcx:=λ h=>absurd h zA0
def lcL(ρ:En)(fg:D->En->Rs En)(ft:En->Rs Bool)(fe:En->Rs D):List D->Rs (List D)
 |[]=>.ok []
 |d::ds=>(fg d ρ).bd λ ρ1=>(ft ρ1).bd λ k=>if k=true then(fe ρ1).bd λ y=>(lcL ρ fg ft fe ds).bd λ ys=>.ok (y::ys)else lcL ρ fg ft fe ds
def lcD(fi:En->Rs (List D))(js:kQ)(fg:D->En->Rs En)(ft:En->Rs Bool)(fe:En->Rs D):En->Rs D:=λ ρ=>(fi (shE ρ)).bd λ ds=>
 if ds.length<zAQ then(match lcL (stE js (shE ρ)) fg ft fe ds with
  | .ok l=>.ok (.lst l)
  |_=>.st)else .st
def aJ3(C:Ct)(ifs:List Expr)(f:En->Rs Bool):Prop:=∃t,(∀i,aBl (C.X i) ifs t)/\aCm C.K C.G t f
def gR:En->Rs Bool:=λ _=>.ok true
def j6:aJ3 C [] gR:=⟨_,λ _=>aKr,λ U Z H ρ lab Q R W=>W H (aR.refl H)⟩
def aBx(h:ST C c f):aJ3 C [c] f:=let⟨t,h1,h2⟩:=h;⟨t,λ i=>aKq (h1 i),h2⟩
def aBP(h:lcL ρ fg ft fe (d::ds)= .ok l):
  ∃ρ1 k,fg d ρ= .ok ρ1/\ft ρ1= .ok k/\((k=true/\∃y ys,fe ρ1= .ok y/\lcL ρ fg ft fe ds= .ok ys/\l=y::ys)\/(k=false/\lcL ρ fg ft fe ds= .ok l)):=by
 unfold lcL at h;obtain⟨ρ1,e1,h⟩:=dF h;obtain⟨k,e2,h⟩:=dF h;refine⟨ρ1,k,e1,e2,?_⟩;cases k with
 |true=>
  rw[if_pos rfl]at h;obtain⟨y,e3,h⟩:=dF h;obtain⟨ys,e4,h⟩:=dF h;cases h;exact .inl ⟨rfl,y,ys,e3,e4,rfl⟩
 |false=>
  rw[if_neg zA0]at h;exact .inr ⟨rfl,h⟩
def RR.but_blk{K:zAA}{U:List (V×D)}(R:RR K G U (stE js (VL.shE ρ)) Z H (λ p=>if p=l then(2,0)else(0,0)))(B:iW l H H')(hl:H l=some o)(ho:gK o=true)(h0:G.H0 l=none):
  RR K G U (stE js (VL.shE ρ)) Z H' (λ p=>if p=l then(2,0)else(0,0)):=by
 have cS:¬((λ p=>if p=l then((2,0):Nat×Nat)else(0,0)) l).1<=1:=by simp
 refine⟨R.len,λ j s e=>?_,λ b o hb=>?_,R.new,λ q hq=>(R.tm q hq).but B hl ho cS⟩
 .rcases R.sl j s e with z|⟨u,e1,e2⟩
  .exact .inl z
  .refine .inr ⟨u,e1,?_⟩
   rcases aFN e with rfl|⟨jx,ej,es⟩
   .trivial
   .unfold VL.shE at es
    rw[zAO]at es;cases e0:ρ[jx]? with
    |none=>rw[e0]at es;cases es
    |some s0=>rw[e0]at es;cases es;cases s0<;>first|trivial|exact Rp.but B hl ho cS e2
 .exact B b o (λ z=>by subst z;rw[h0]at hb;cases hb) (R.old b o hb)
def RR.blk0{K:zAA}(R:RR K G U (VL.shE ρ) Z H lab)(hG:G'.H0=G.H0):RR K G' U (VL.shE ρ) Z H (λ _=>(0,0)):=by
 refine⟨R.len,λ i s e=>?_,by rw[hG];exact R.old,λ p hp=>absurd rfl hp,λ q hq=>(R.tm q hq).wk λ _ _ _ _=>zAf _⟩;rcases R.sl i s e with rfl|⟨v,ev,hv⟩
 .exact .inl rfl
 .unfold VL.shE at e
  rw[zAO]at e;cases e0:ρ[i]? with
  |none=>rw[e0]at e;cases e
  |some s0=>rw[e0]at e;cases e;cases s0<;>first|exact .inl rfl|exact .inr ⟨v,ev,Rp.wk (λ _ _ _ _=>zAf _) hv⟩
section
variable{K:zAA}{G:Gx}{wi:TI}{fi:En->Rs (List D)}{js:kQ}{g:TG}{fg:D->En->Rs En}{tt:TT}{ft:En->Rs Bool}{te:TE}{fe:En->Rs D}
def aKV(hi:aJ0 K G wi fi)(hg:aJ1 K {G with E:=λ _ _ _=>False} g fg)(ht:aCm K {G with E:=λ _ _ _=>False} tt ft)(he:iR K {G with E:=λ _ _ _=>False} (some []) te fe):
  iR K G (some []) (tLC wi (stV js) g tt te) (lcD fi js fg ft fe):=by
 intro U Z H ρ lab Q R W;refine hi U Z H _ _ _ R.shE (W.bd.imp λ ds _ w J H1 lab1 U1 s1 _ R1 jl=>?_);intro l hl;obtain⟨kK,out,qV,w⟩:ds.length<zAQ/\∃out,lcL (stE js (VL.shE ρ)) fg ft fe ds= .ok out/\QE K (some []) lab H Q (.lst out):=by
  by_cases kK:ds.length<zAQ
  .rw[if_pos kK]at w
   cases qV:lcL (stE js (VL.shE ρ)) fg ft fe ds with
   |ok out=>rw[qV]at w;exact⟨kK,out,rfl,w⟩
   |ex c=>rw[qV]at w;exact zAI w
   |st=>rw[qV]at w;exact zAI w
  .rw[if_neg kK]at w
   exact zAI w
 have R0:RR K {G with E:=λ _ _ _=>False} (U1++U) (VL.shE ρ) Z H1 (λ _=>(0,0)):=R1.blk0 rfl;have RB:=R0.block (js:=js) (λ _=>zAf _) hl;have hHl:H l=none:=s1.free hl;have cS:¬((λ p=>if p=l then((2,0):Nat×Nat)else(0,0)) l).1<=1:=by simp
 refine⟨λ i n acc H2=>∃pre,n=ds.length-i/\i<=ds.length/\H2 l=some (.lst acc)/\RR K {G with E:=λ _ _ _=>False} (U1++U) (stE js (VL.shE ρ)) (stV js Z) H2 (λ p=>if p=l then(2,0)else(0,0))/\aR H H2/\acc.length<=i/\
  Rps K (λ p=>H p=none/\p≠l) H2 acc pre/\∃post,lcL (stE js (VL.shE ρ)) fg ft fe (ds.drop i)= .ok post/\out=pre++post,⟨ds.length,[],by lia,by lia,aV,RB.up (bF hl _),s1.trans (bF hl _),zAS _,.nil,out,qV,rfl⟩,?_⟩
 rintro i n acc H2 ⟨pre,rfl,hi,hH2,R2,s2,aS,rpre,post,hpost,eout⟩;refine⟨hH2,by lia,?_⟩;have jj:=jl _ H2 λ q hq=>R2.tm q (zAb _ hq)
 by_cases hlt:i<ds.length
 .obtain⟨go,yl⟩:=(jj i).2 hlt
  refine .inr ⟨go,λ x H3 hy=>?_⟩;obtain⟨s3,d,ed,rx⟩:=yl x H3 hy;replace R2:=R2.up s3;replace hH2:=s3 _ _ hH2;replace s2:=s2.trans s3;replace rpre:=rpre.up s3;have ed2:ds.drop i=d::ds.drop (i+1):=by
   rw[zCg hlt]
   have:=zAH hlt
   rw[ed]at this;cases this;rfl
  rw[ed2]at hpost;obtain⟨ρ1,k,e1,e2,e3⟩:=aBP hpost;refine hg (U1++U) x d _ H3 _ _ _ ρ1 R2 rx e1 λ Z4 R4=>?_
  refine ht (U1++U) Z4 H3 ρ1 _ _ R4 ?_;rw[e2];intro H5 s5;rcases e3 with ⟨rfl,y,ys,e3,e4,rfl⟩|⟨rfl,e4⟩
  .rw[if_pos rfl]
   refine he (U1++U) Z4 H5 ρ1 _ _ (R4.up s5) ?_;rw[e3];intro v H6 s6 r6;have hl6:H6 l=some (.lst acc):=s6 _ _ (s5 _ _ hH2);have B:iW l H6 (upd H6 l (.lst (acc++[v]))):=λ b o ne hb=>by rw[aQ ne];exact hb
   refine⟨hl6,ds.length-(i+1),by lia,pre++[y],rfl,hlt,aV,?_,?_,by rw[zA9];simp;lia,?_,ys,e4,by rw[eout];simp⟩
   .exact(R2.up (s5.trans s6)).but_blk B hl6 rfl (R1.old.free hl)
   .exact λ b o hb=>B b o (λ z=>by subst z;rw[hHl]at hb;cases hb) (((s2.trans s5).trans s6) b o hb)
   .refine((rpre.up (s5.trans s6)).append (.cons (r6.wk λ p o _ z=>?_) .nil)).but B hl6 rfl λ z=>z.2 rfl
    rcases z with z|z
    .exact⟨(s2.trans s5).free z,λ e=>by subst e;rw[s5 _ _ hH2]at z;cases z⟩
    .cases z
  .rw[if_neg zA0]
   exact⟨ds.length-(i+1),by lia,pre,rfl,hlt,s5 _ _ hH2,R2.up s5,s2.trans s5,by lia,rpre.up s5,post,e4,eout⟩
 .have ei:i=ds.length:=by lia
  subst ei;rw[zEW]at hpost;cases hpost;rw[zB0]at eout;subst eout;exact .inl ⟨(jj _).1 (zAS _),w _ H2 s2 (.lst hH2 (.inl hHl) (rpre.wk λ p o _ z=>⟨.inl z.1,z.2⟩))⟩
end
section
variable{C:Ct}{pos:Pos}{elt tg iter:Expr}{ifs:List Expr}{sc:Scope}{N:List Str}{js:kQ}{ks:List Nat}{fi:En->Rs (List D)}{fg:D->En->Rs En}{ft:En->Rs Bool}{fe:En->Rs D}
def bj{C:Ct}(nd:N.Nodup:=by decide+kernel)(hk:i∈ks:=by decide)(hN:∀j,((C.blk sc N).X j).N[i]? =some x:=by intro _;rfl)(hx:∀j,Loc ((C.blk sc N).X j).env.scope x:=by intro _;first|exact zBq rfl|exact zBR rfl)
  (hf:∀j,((C.blk sc N).X j).fn x=true\/((C.blk sc N).X j).env.scope.names.lookup x=some .local:=by intro _;first|exact .inl rfl|exact .inr rfl):SG (C.blk sc N) (.Name x pos) ks (gnm i):=
 bR hN hx hf (λ _=>nd) hk
def mW(hi:SI C tg iter fi)(hg:SG (C.blk sc N) tg ks fg)(ht:aJ3 (C.blk sc N) ifs ft)(he:SE (C.blk sc N) (some []) elt fe)(hs:∀i x,zBl iter (C.X i).env x=pure x:=by intro _ _;rfl)(hB:∀i,fJ (C.X i) sc N (stV js) ks:=by intro _;exact aCh rfl rfl rfl rfl rfl rfl):SE C (some []) (.ListComp elt [⟨tg,iter,ifs,0⟩] sc pos) (lcD fi js fg ft fe):=by
 obtain⟨wi,i1,i2⟩:=hi;obtain⟨g,g1,g2,g3,g4⟩:=hg;obtain⟨tt,t1,t2⟩:=ht;obtain⟨te,e1,e2⟩:=he;exact⟨_,λ i=>aM2 (hB i) (C.calm i) (i1 i) (λ c fp z4 zS=>g1 (i,c,fp,z4,zS)) g3 (λ c fp z4 zS=>t1 (i,c,fp,z4,zS)) (λ c fp z4 zS=>e1 (i,c,fp,z4,zS)) (hs i),aKV i2 g2 t2 e2⟩
end
def RR.mut{K:zAA}(R:RR K G U ρ Z H lab)(ev:Z[i]? =some (some v))(hl:H l=some o)(ho:gK o=true)(b9:(lab l).1=i+2)
  (B:iW l H H')(h':gq K H' lab i v s'):RR K G U (ρ.set i s') Z H' lab:=by
 refine⟨by rw[zB7];exact R.len,λ j x e=>?_,λ b u hb=>B b u (λ z=>?_) (R.old b u hb),R.new,λ q hq=>(R.tm q hq).but B hl ho λ z=>by lia⟩
 .by_cases hj:i=j
  .subst hj
   have hi:i<ρ.length:=by
    have:=(zAP.mp e).1
    rwa [zB7]at this
   rw[zCB hi]at e;cases e;exact .inr ⟨v,ev,h'⟩
  .rw[zB8 hj]at e
   rcases R.sl j x e with z|⟨u,e1,e2⟩
   .exact .inl z
   .refine .inr ⟨u,e1,?_⟩
    cases x with
    |no=>trivial
    |sh d=>exact Rp.but B hl ho (λ z=>by lia) e2
    |nw d=>exact Rp.but B hl ho (λ z=>by lia) e2
    |ow d=>exact⟨Rp.but B hl ho (λ z=>by lia) e2.1,e2.2⟩
    |oz d=>
     obtain⟨a,xs,ds,q1,q2,q3,q4,q5⟩:=e2;exact⟨a,xs,ds,q1,q2,B a _ (λ z=>by subst z;exact hj (by lia)) q3,q4,Rps.but B hl ho (λ z=>by lia) q5⟩
    |o2 ll=>
     obtain⟨a,xs,q1,q2,q3,q4,q5⟩:=e2;refine⟨a,xs,q1,B a _ (λ z=>?_) q2,q3,q4,λ jj y ds f1 f2=>(q5 jj y ds f1 f2).but B hl ho λ z=>?_⟩
     .rw[z]at q3;rw[q3]at b9;exact hj (by simpa using b9.symm)
     .rw[z]at b9;exact hj (by simpa using b9.symm)
 .subst z
  have:=R.new b (by rw[b9];lia)
  rw[this]at hb;cases hb
section
variable{C:Ct}{pos apos cpos p:Pos}{e a:Expr}{fe fa:En->Rs D}{i:Nat}{x:Str}{m:Mode}
def sY(i:Nat)(fe:En->Rs D):En->Ou:=λ ρ=>match ρ[i]? with
 |some (.ow (.lst ds))=>(fe ρ).bo λ d=>if ds.length<zAQ then .nx (ρ.set i (.ow (.lst (ds++[d]))))else .st
 |_=>.st
def jh(i:Nat)(he:SE C m e fe)(hm:okN m=true:=by rfl)(hN:∀j,(C.X j).N[i]? =some x:=by intro _;rfl)(hv:∀j,Vis (C.X j).env.scope x:=by intro _;first|exact zBq rfl|exact zBR (zBq rfl)|exact zBR (zBR rfl))(hd:Nd x:=by decide)
  (hcd:(x==("__classdict__":Str))=false:=by decide)(hs1:∀j,zAU [e] (C.X j).env=[(false,eval e (C.X j).env)]:=by intro _;rfl)
  (hbase:∀j,zBd (.Name x p) "append" (C.X j).env (eval (.Name x p) (C.X j).env)=eval (.Name x p) (C.X j).env:=by intro _;rfl)
  (hfew:∀j,((zCW cpos (zAU [e] (C.X j).env)).all (λ x=>!x.1)&&(zFg cpos (zEH [] (C.X j).env)).all (λ x=>x.1.isSome)&&decide ([e].length+([]:List zCe).length+(if ([]:List zCe).isEmpty then 0 else 1)<30))=true:=by intro _;rfl)
  (hline:(apos.endLine==cpos.line)=true:=by rfl)
  (hsw:∀j,zC3 (.Call (.Attribute (.Name x p) "append" apos) [e] [] cpos) none pos.line (C.X j).env=pure false:=by intro _;rfl):
  SS C (.Expr (.Call (.Attribute (.Name x p) "append" apos) [e] [] cpos) pos) (sY i fe):=by
 obtain⟨t,h1,h2⟩:=he;refine⟨aA5 (tBM C.K "list" vO (jg i) (dR t uF)),λ j=>ph (by rw[<-C.hK j];exact aGJ zEE zEV zFv v9 (eU (hN j) (hv j) hd hcd) (bz (h1 j) jF (hs1 j)) (hbase j) (hfew j) hline (hs1 j) rfl) (hsw j),λ U Z H ρ lab De R W=>?_⟩;unfold sY at W;cases es:ρ[i]? with
 |none=>rw[es]at W;exact zAI W
 |some s=>
  rw[es]at W;split at W
  .rename_i ds hs
   cases hs;rcases R.sl i _ es with z|⟨v,ev,hv'⟩
   .cases z
   .obtain⟨hv1,htop⟩:=hv'
    obtain⟨a0,ea0,la0⟩:=htop rfl;subst ea0;cases hv1 with
    |lst h mm r=>
     rename_i xs;refine⟨.ref a0,ev,.inl ⟨rfl,xs,SqL.of h⟩,h2 U Z H ρ lab _ R (W.bo.imp λ d _ w y H2 s2 r2=>?_)⟩;by_cases hz:ds.length<zAQ
     .rw[if_pos hz]at w
      refine⟨a0,xs,y,rfl,rfl,s2 _ _ h,by rw[r.length];exact hz,λ H3 B h3=>?_⟩;obtain⟨R',r'⟩:=R.fresh (P:=λ k=>k=1) rfl (λ k hk=>beq_iff_eq.mp (jT hm k hk)) s2 r2;have la:(bG H 1 lab a0).1=i+2:=by rw[aj h];exact la0
      refine w Z H3 _ (R'.mut ev (s2 _ _ h) rfl la B ⟨.lst h3 (.inr la) ?_,λ _=>⟨a0,rfl,la⟩⟩);have ra:Rps C.K (λ p=>((bG H 1 lab p).1=1\/(bG H 1 lab p).1=i+2)/\p≠a0) H2 (xs++[y]) (ds++[d]):=by
       refine(r.mono s2 λ p o e z=>⟨by rw[aj e];exact z.1,z.2⟩).append (.cons (r'.wk λ p o e z=>⟨.inl z,λ q=>?_⟩) .nil);subst q;rw[la]at z;lia
      exact ra.but B (s2 _ _ h) rfl λ z=>z.2 rfl
     .rw[if_neg hz]at w
      exact zAI w
  .exact zAI W
def at2(ll:List (List D)):D->Option (Nat×List D)
 | .int n=>(ixN ll.length n).bind λ j=>(ll[j]?).map λ ds=>(j,ds)
 |_=>none
def nM(i:Nat)(fa fe:En->Rs D):En->Ou:=λ ρ=>match ρ[i]? with
 |some (.o2 ll)=>(fa ρ).bo λ k=>match at2 ll k with
  |some (j,ds)=>(fe ρ).bo λ d=>if ds.length<zAQ then .nx (ρ.set i (.o2 (ll.set j (ds++[d]))))else .st
  |none=>.st
 |_=>.st
def aH0(h:at2 ll k=some (j,ds)):∃n,k= .int n/\ixN ll.length n=some j/\ll[j]? =some ds:=by
 cases k with
 |int n=>
  simp only[at2,Option.bind_eq_some_iff,zCY]at h;obtain⟨j',h1,ds',h2,h3⟩:=h;cases h3;exact⟨n,rfl,h1,h2⟩
 |_=>cases h
def aBv(i:Nat){p2:Pos}(ha:SE C m a fa)(he:SE C (some []) e fe)(hN:∀j,(C.X j).N[i]? =some x:=by intro _;rfl)(hv:∀j,Vis (C.X j).env.scope x:=by intro _;first|exact zBq rfl|exact zBR (zBq rfl)|exact zBR (zBR rfl))(hd:Nd x:=by decide)
  (hcd:(x==("__classdict__":Str))=false:=by decide)(hs1:∀j,zAU [e] (C.X j).env=[(false,eval e (C.X j).env)]:=by intro _;rfl)(hp:qx a:=by exact λ _ _=>rfl)
  (hbase:∀j,zBd (.Subscript (.Name x p) a p2) "append" (C.X j).env (eval (.Subscript (.Name x p) a p2) (C.X j).env)=eval (.Subscript (.Name x p) a p2) (C.X j).env:=by intro _;rfl)
  (hfew:∀j,((zCW cpos (zAU [e] (C.X j).env)).all (λ x=>!x.1)&&(zFg cpos (zEH [] (C.X j).env)).all (λ x=>x.1.isSome)&&decide ([e].length+([]:List zCe).length+(if ([]:List zCe).isEmpty then 0 else 1)<30))=true:=by intro _;rfl)
  (hline:(apos.endLine==cpos.line)=true:=by rfl)
  (hsw:∀j,zC3 (.Call (.Attribute (.Subscript (.Name x p) a p2) "append" apos) [e] [] cpos) none pos.line (C.X j).env=pure false:=by intro _;rfl):
  SS C (.Expr (.Call (.Attribute (.Subscript (.Name x p) a p2) "append" apos) [e] [] cpos) pos) (nM i fa fe):=by
 obtain⟨t,h1,h2⟩:=he;obtain⟨ta,a1,a2⟩:=ha;refine⟨aA5 (tBM C.K "list" vO (tOp (aKd C.K) (jg i) ta) (dR t uF)),λ j=>ph (by rw[<-C.hK j];exact aGJ zEE zEV zFv v9 (aJs aD5 (eU (hN j) (hv j) hd hcd) (a1 j) hp) (bz (h1 j) jF (hs1 j)) (hbase j) (hfew j) hline (hs1 j) rfl) (hsw j),λ U Z H ρ lab De R W=>?_⟩;unfold nM at W;cases es:ρ[i]? with
 |none=>rw[es]at W;exact zAI W
 |some s=>
  rw[es]at W;cases s with
  |o2 ll=>
   dsimp only at W;rcases R.sl i _ es with z|⟨v,ev,top,xs,rfl,ht,hlt,kK,hin⟩
   .cases z
   .refine⟨.ref top,ev,a2 U Z H ρ lab _ R (W.bo.imp λ k _ w kv H1 s1 r1=>?_)⟩
    cases hk:at2 ll k with
    |none=>rw[hk]at w;exact zAI w
    |some q=>
     obtain⟨j,ds⟩:=q;rw[hk]at w;dsimp only at w;obtain⟨n,rfl,hj,hds⟩:=aH0 hk;cases r1;have hjx:∃xj,xs[j]? =some xj:=by
      have:j<xs.length:=by rw[kK];exact(zAP.mp hds).1
      exact⟨_,zAH this⟩
     obtain⟨xj,hxj⟩:=hjx;have hr:=hin j xj ds hxj hds;cases hr with
     |lst hl ml rl=>
      rename_i l ys;refine⟨top,xs,n,.ref l,rfl,rfl,SqL.of (s1 _ _ ht),by unfold atI;rw[kK,hj];exact hxj,.inl ⟨rfl,ys,SqL.of (s1 _ _ hl)⟩,h2 U Z H1 ρ lab _ (R.up s1) (w.bo.imp λ d _ w y H2 s2 r2=>?_)⟩;by_cases hz:ds.length<zAQ
      .rw[if_pos hz]at w
       have s12:=s1.trans s2;refine⟨l,ys,y,rfl,rfl,s12 _ _ hl,by rw[rl.length];exact hz,λ H3 B h3=>?_⟩;have ltop:l≠top:=λ e=>by rw[e,hlt]at ml;cases ml
       let lab':Lab:=λ p=>match H1 p with
        |none=>(i+2,j+1)
        |some _=>lab p
       have lo:∀{p o},H1 p=some o->lab' p=lab p:=λ{p o} e=>by show(match H1 p with|none=>_|some _=>_)=_;rw[e]
       have ln:∀{p},H1 p=none->lab' p=(i+2,j+1):=λ{p} e=>by show(match H1 p with|none=>_|some _=>_)=_;rw[e]
       have R':RR C.K C.G U ρ Z H2 lab':=((R.up s1).relab (λ p o e=>lo e) λ p hp=>by
        cases e:H1 p with
        |none=>exact(R.old.trans s1).free e
        |some o=>rw[lo e]at hp;exact R.new p hp).up s2
       have cK:lab' l=(i+2,j+1):=by rw[lo (s1 _ _ hl)];exact ml
       refine w Z H3 lab' (R'.mut ev (s12 _ _ hl) rfl (by rw[cK]) B ⟨top,xs,rfl,B _ _ (zDV ltop) (s12 _ _ ht),by rw[lo (s1 _ _ ht)];exact hlt,by rw[zB7];exact kK,λ jj z dz f1 f2=>?_⟩);by_cases hjj:j=jj
       .subst hjj
        rw[hxj]at f1;cases f1;rw[zCB (zAP.mp hds).1]at f2;cases f2;refine .lst h3 cK ?_;have ra:Rps C.K (λ p=>lab' p=(i+2,j+1)/\p≠l) H2 (ys++[y]) (ds++[d]):=by
         refine(rl.mono s12 λ p o e z=>⟨by rw[lo (s1 _ _ e)];exact z.1,z.2⟩).append (.cons (r2.wk λ p o e z=>?_) .nil);rcases z with z|z
         .exact⟨ln z,λ q=>by subst q;rw[s1 _ _ hl]at z;cases z⟩
         .cases z
        exact ra.but B (s12 _ _ hl) rfl λ z=>z.2 rfl
       .rw[zB8 hjj]at f2
        refine((hin jj z dz f1 f2).mono s12 (A':=λ p=>lab' p=(i+2,jj+1)) λ p o e q=>by rw[lo (s1 _ _ e)];exact q).but B (s12 _ _ hl) rfl λ q=>?_
        rw[cK]at q;simp only[Prod.mk.injEq]at q;lia
      .rw[if_neg hz]at w
       exact zAI w
  |_=>exact zAI W
end
mutual
def eqD:D->D->Bool
 | .non,.non=>true
 | .bl a,.bl b=>a==b
 | .bl a,.int b=>(if a then 1 else 0)==b
 | .int a,.bl b=>a==(if b then 1 else 0)
 | .int a,.int b=>a==b
 | .str a,.str b=>a==b
 | .tup l,.tup m=>qW l m
 | .lst l,.lst m=>qW l m
 |_,_=>false
def qW:List D->List D->Bool
 |[],[]=>true
 |x::xs,y::ys=>eqD x y&&qW xs ys
 |_,_=>false
end
mutual
def sX:D->Nat
 | .tup l=>dO l+1
 | .lst l=>dO l+1
 |_=>0
def dO:List D->Nat
 |[]=>0
 |d::r=>max (sX d) (dO r)
end
mutual
def aa:D->Bool
 | .tup l=>au l
 | .lst l=>au l
 | .dct _ _=>false
 | .set _=>false
 | .scr _=>false
 | .fn _=>false
 | .itm _ _=>false
 | .itx _ _=>false
 |_=>true
def au:List D->Bool
 |[]=>true
 |d::r=>aa d&&au r
end
mutual
theorem wY:∀d:D,aa d=true->eqD d d=true
 | .non,_=>by simp[eqD]
 | .bl b,_=>by simp[eqD]
 | .int i,_=>by simp[eqD]
 | .str x,_=>by simp[eqD]
 | .tup l,h=>by exact sU l (by simpa[aa]using h)
 | .lst l,h=>by exact sU l (by simpa[aa]using h)
 | .dct _ _,h=>by simp[aa]at h
 | .set _,h=>by simp[aa]at h
 | .scr _,h=>by simp[aa]at h
theorem sU:∀l:List D,au l=true->qW l l=true
 |[],_=>by simp[qW]
 |d::r,h=>by
  simp only[au,zA5]at h;simp only[qW,zA5];exact⟨wY d h.1,sU r h.2⟩
end
structure kW(K:zAA)(H:Hp)(s:zAF):Prop where
 tup:∀{a:Addr} {xs:List V},SqT K H a xs->∃its:List Value,Vals xs its/\s.heap.IsTuple a its.toArray
 lst:∀{a:Addr} {xs:List V},H a=some (.lst xs)->∃its:List Value,Vals xs its/\s.heap.IsList a its.toArray
 inj:∀{a:Addr} {xs ys:List V},SqT K H a xs->SqT K H a ys->xs=ys
 ne:∀{a:Addr} {xs ys:List V},SqT K H a xs->H a=some (.lst ys)->False
def Inv.seqOk(I:L2.Inv X kX Z H s):kW X.K H s where
 tup:=λ h=>let⟨its,r,p,_⟩:=I.tuple h;⟨its,r,p⟩
 lst:=λ h=>let⟨its,r,p,_⟩:=I.list (SqL.of h);⟨its,r,p.isList⟩
 inj:=λ h h'=>I.tuple_inj h h'
 ne:=λ h h'=>by
  obtain⟨its,_,⟨o,e,c,_⟩,_⟩:=I.tuple h;obtain⟨its2,_,⟨o2,n2,e2,c2,_⟩,_⟩:=I.list (SqL.of h');rw[e]at e2;cases e2;rw[c]at c2;injection c2 with c3
  exact absurd c3 (by decide)
section
variable{K:zAA}{H:Hp}{s:zAF}
def ndP:D->Prop
 | .dct _ _=>False
 | .set _=>False
 | .scr _=>False
 | .fn _=>False
 | .itm _ _=>False
 | .itx _ _=>False
 |_=>True
def ndx{d:D}(h:aa d=true):ndP d:=by cases d<;>first|exact zC0|(simp[aa]at h)
def bD(h:aa (.dct a b)=true):False:=by simp[aa]at h
def dh(h:aa (.set a)=true):False:=by simp[aa]at h
def di(h:aa (.scr a)=true):False:=by simp[aa]at h
def gH(h:aa (.fn a)=true):False:=by simp[aa]at h
def dm(h:aa (.itm o a)=true):False:=by simp[aa]at h
def dj(h:aa (.itx o a)=true):False:=by simp[aa]at h
def ie(h:aa (.tup a)=true):au a=true:=by simpa[aa]using h
def ig(h:aa (.lst a)=true):au a=true:=by simpa[aa]using h
def jU(h:au (d::a)=true):aa d=true/\au a=true:=by
 simp only[au,zA5]at h;exact h
def aJ7(K:zAA)(s:zAF)(H:Hp)(x:V)(d:D):Prop:=kW K H s->∀(A':Addr->Prop) (e:D),Rp K A' H x e->aa d=true->aa e=true->d=e
def aBm(K:zAA)(s:zAF)(H:Hp)(xs:List V)(ds:List D):Prop:=kW K H s->∀(A':Addr->Prop) (es:List D),Rps K A' H xs es->au ds=true->au es=true->ds=es
def aIu(ha:SqT K H a xs)(ih:aBm K s H xs ds):aJ7 K s H (.ref a) (.tup ds):=λ ok A' e h n1 n2=>by
 cases h with
 |tup hb r'=>
  have e:=ok.inj ha hb;subst e;rw[ih ok _ _ r' (ie n1) (ie n2)]
 |lst hb _ _=>exact(ok.ne ha hb).elim
 |_=>exact zAI (ndx n2)
def aIv(ha:H a=some (.lst xs))(ih:aBm K s H xs ds):aJ7 K s H (.ref a) (.lst ds):=λ ok A' e h n1 n2=>by
 cases h with
 |tup hb r'=>exact(ok.ne hb ha).elim
 |lst hb _ r'=>
  rw[ha]at hb;cases hb;rw[ih ok _ _ r' (ig n1) (ig n2)]
 |_=>exact zAI (ndx n2)
def aGn(h1:aJ7 K s H x d)(h2:aBm K s H xs ds):aBm K s H (x::xs) (d::ds):=λ ok A' es h n1 n2=>by
 cases h with
 |cons k r'=>rw[h1 ok _ _ k (jU n1).1 (jU n2).1,h2 ok _ _ r' (jU n1).2 (jU n2).2]
def Rp.inj(ok:kW K H s)(r:Rp K A H x d)(h:Rp K A' H x e)(n1:aa d=true)(n2:aa e=true):d=e:=
 Rp.rec (motive_1:=λ _ H x d _=>aJ7 K s H x d) (motive_2:=λ _ H xs ds _=>aBm K s H xs ds)
  (λ _ _ _ h _ _=>by cases h;rfl) (λ _ _ _ _ h _ _=>by cases h;rfl) (λ _ _ _ _ h _ _=>by cases h;rfl) (λ _ _ _ _ h _ _=>by cases h;rfl) (λ ha _ ih=>aIu ha ih) (λ ha _ _ ih=>aIv ha ih)
  (λ _ _ _ _ _ _ _ _ n1 _=>(bD n1).elim) (λ _ _ _ _ _ _ _ _ n1 _=>(bD n1).elim) (λ _ _ _ _ _ _ _ _ n1 _=>(dh n1).elim) (λ _ _ _ _ _ n1 _=>(di n1).elim) (λ _ _ _ _ _ n1 _=>(gH n1).elim) (λ _ _ _ _ _ n1 _=>(dm n1).elim) (λ _ _ _ _ _ n1 _=>(dj n1).elim)
  (λ _ _ _ h _ _=>by cases h;rfl) (λ _ _ h1 h2=>aGn h1 h2) r ok A' e h n1 n2
end
theorem aB5:∀(l m:List D),qW l m=((zAm (min l.length m.length)).all (λ j=>match l[j]?,m[j]? with|some a,some b=>eqD a b|_,_=>true)&&l.length==m.length)
 |[],[]=>by simp[qW]
 |[],y::ys=>by simp[qW]
 |x::xs,[]=>by simp[qW]
 |x::xs,y::ys=>by
  have ih:=aB5 xs ys;simp only[qW,ih,zAk,Nat.succ_min_succ,List.range_succ_eq_map,zFB,zFP,zEQ,zCu,zEP,Nat.succ_eq_add_one,Nat.add_one_inj,zGJ];congr 1;congr 1;simp
theorem ym:∀{l:List D} {d:D},d∈l->sX d<=dO l
 |x::r,d,h=>by
  simp only[dO];rcases zAT.mp h with rfl|h
  .exact zIW _ _
  .exact zAn (ym h) (zIP _ _)
theorem pH:∀{l:List D} {d:D},d∈l->au l=true->aa d=true
 |x::r,d,h,n=>by
  simp only[au,zA5]at n;rcases zAT.mp h with rfl|h
  .exact n.1
  .exact pH h n.2
def jK(hn:n=ds.length)(hm:m=es.length):((zAm (min n m)).all (λ j=>match ds[j]?,es[j]? with|some a,some b=>eqD a b|_,_=>true)&&n==m)=qW ds es:=by
 subst hn hm;exact(aB5 ds es).symm
section
variable{K:zAA}{H:Hp}{s:zAF}
def aHa(K:zAA)(H:Hp)(s:zAF)(n:Nat):Prop:=∀(A1 A2:Addr->Prop) (x y:V) (d e:D) (A:zAc) (u v:Value),Rp K A1 H x d->Rp K A2 H y e->RelV x u->RelV y v->sX d<=n->aa d=true->aa e=true->A.units+n<cLine->zCl A s u v (eqD d e)
def aHb(K:zAA)(H:Hp)(s:zAF)(n:Nat):Prop:=∀(A1 A2:Addr->Prop) (xs ys:List V) (ds es:List D) (A:zAc) (us vs:List Value),Rps K A1 H xs ds->Rps K A2 H ys es->Vals xs us->Vals ys vs->dO ds<=n->au ds=true->au es=true->A.units+n<cLine->
  ∀(j:Nat) (h1:j<us.toArray.size) (h2:j<vs.toArray.size),zCl A s us.toArray[j] vs.toArray[j] (match ds[j]?,es[j]? with|some a,some b=>eqD a b|_,_=>true)
def wX(ok:kW K H s)(n:Nat)(IH:∀k,n=k+1->aHb K H s k):aHa K H s n:=by
 intro A1 A2 x y d e A u v r1 r2 ru rv hd nd ne hu;have hu0:A.units<cLine:=by lia
 cases r1 with
 |tup h1 q1=>
  rename_i a xs ds;cases ru;obtain⟨its,w1,t1⟩:=ok.tup h1;cases r2 with
  |tup h2 q2=>
   rename_i b ys es;cases rv;obtain⟨its2,w2,t2⟩:=ok.tup h2;by_cases hab:a=b
   .subst hab
    have e:=Rp.inj ok (Rp.tup h1 q1) (Rp.tup h2 q2) nd ne;rw[<-e,wY _ nd];exact zFD _
   .simp only[sX]at hd
    obtain⟨k,rfl⟩:∃k,n=k+1:=⟨n-1,by lia⟩
    have z:=zG2 t1 t2 hu0 (IH k rfl _ _ _ _ _ _ _ _ _ q1 q2 w1 w2 (by lia) (ie nd) (ie ne) (by show A.units+1+k<cLine;lia));rw[jK (by rw[zAX,<-w1.length,q1.length]) (by rw[zAX,<-w2.length,q2.length])]at z;simp only[eqD];exact zEc hab z
  |lst h2 mm2 q2=>
   cases rv;obtain⟨its2,w2,t2⟩:=ok.lst h2;simp only[eqD];exact SeqAt.EqAt.tuple_list t1 t2 hu0
  |non=>cases rv;exact SeqAt.EqAt.tuple_none t1 hu0
  |bl b=>cases rv;exact SeqAt.EqAt.tuple_bool b t1 hu0
  |int i=>obtain⟨tk,rfl⟩:=rv;exact SeqAt.EqAt.tuple_int i tk t1 hu0
  |str i=>obtain⟨tk,rfl⟩:=rv;exact SeqAt.EqAt.tuple_str i tk t1 hu0
  |_=>exact zAI (ndx ne)
 |lst h1 mm1 q1=>
  rename_i a xs ds;cases ru;obtain⟨its,w1,t1⟩:=ok.lst h1;cases r2 with
  |lst h2 mm2 q2=>
   rename_i b ys es;cases rv;obtain⟨its2,w2,t2⟩:=ok.lst h2;by_cases hab:a=b
   .subst hab
    have e:=Rp.inj ok (Rp.lst h1 mm1 q1) (Rp.lst h2 mm2 q2) nd ne;rw[<-e,wY _ nd];exact zFD _
   .simp only[sX]at hd
    obtain⟨k,rfl⟩:∃k,n=k+1:=⟨n-1,by lia⟩
    have l1:its.toArray.size=ds.length:=by rw[zAX,<-w1.length,q1.length]
    have l2:its2.toArray.size=es.length:=by rw[zAX,<-w2.length,q2.length]
    by_cases hl:its.toArray.size=its2.toArray.size
    .have z:=zG6 t1 t2 hl hu0 (IH k rfl _ _ _ _ _ _ _ _ _ q1 q2 w1 w2 (by lia) (ig nd) (ig ne) (by show A.units+1+k<cLine;lia))
     have z':=jK (ds:=ds) (es:=es) l1 l2;rw[<-hl,zF6,beq_self_eq_true,zEO]at z';rw[z']at z;simp only[eqD];exact zEc hab z
    .have z:=zFS t1 t2 (by simpa using hl) hu0
     have z':=jK (ds:=ds) (es:=es) l1 l2;rw[beq_eq_false_iff_ne.mpr hl,zGK]at z';simp only[eqD];rw[<-z'];exact zEc hab z
  |tup h2 q2=>
   cases rv;obtain⟨its2,w2,t2⟩:=ok.tup h2;simp only[eqD];exact SeqAt.EqAt.list_tuple t1 t2 hu0
  |non=>cases rv;exact SeqAt.EqAt.list_none t1 hu0
  |bl b=>cases rv;exact SeqAt.EqAt.list_bool b t1 hu0
  |int i=>obtain⟨tk,rfl⟩:=rv;exact SeqAt.EqAt.list_int i tk t1 hu0
  |str i=>obtain⟨tk,rfl⟩:=rv;exact SeqAt.EqAt.list_str i tk t1 hu0
  |_=>exact zAI (ndx ne)
 |non=>
  cases ru;cases r2 with
  |tup h2 q2=>cases rv;obtain⟨_,_,t2⟩:=ok.tup h2;exact SeqAt.EqAt.none_tuple t2 hu0
  |lst h2 mm2 q2=>cases rv;obtain⟨_,_,t2⟩:=ok.lst h2;exact SeqAt.EqAt.none_list t2 hu0
  |dK _ _ _=>exact(bD ne).elim
  |dT _ _ _=>exact(bD ne).elim
  |set _ _ _ _=>exact(dh ne).elim
  |scr _=>exact(di ne).elim
  |fn _=>exact(gH ne).elim
  |itm _=>exact(dm ne).elim
  |itx _=>exact(dj ne).elim
  |non=>cases rv;exact zFD _
  |bl b=>cases rv;exact SeqAt.EqAt.none_bool b
  |int i=>obtain⟨tk,rfl⟩:=rv;exact SeqAt.EqAt.none_int i tk
  |str i=>obtain⟨tk,rfl⟩:=rv;exact SeqAt.EqAt.none_str i tk
 |bl a=>
  cases ru;cases r2 with
  |tup h2 q2=>cases rv;obtain⟨_,_,t2⟩:=ok.tup h2;exact SeqAt.EqAt.bool_tuple a t2 hu0
  |lst h2 mm2 q2=>cases rv;obtain⟨_,_,t2⟩:=ok.lst h2;exact SeqAt.EqAt.bool_list a t2 hu0
  |dK _ _ _=>exact(bD ne).elim
  |dT _ _ _=>exact(bD ne).elim
  |set _ _ _ _=>exact(dh ne).elim
  |scr _=>exact(di ne).elim
  |fn _=>exact(gH ne).elim
  |itm _=>exact(dm ne).elim
  |itx _=>exact(dj ne).elim
  |non=>cases rv;exact SeqAt.EqAt.bool_none a
  |bl b=>cases rv;exact SeqAt.EqAt.bool_bool a b
  |int i=>obtain⟨tk,rfl⟩:=rv;exact SeqAt.EqAt.bool_int a i tk
  |str i=>obtain⟨tk,rfl⟩:=rv;exact SeqAt.EqAt.bool_str a i tk
 |int a=>
  obtain⟨tu,rfl⟩:=ru;cases r2 with
  |tup h2 q2=>cases rv;obtain⟨_,_,t2⟩:=ok.tup h2;exact SeqAt.EqAt.int_tuple a tu t2 hu0
  |lst h2 mm2 q2=>cases rv;obtain⟨_,_,t2⟩:=ok.lst h2;exact SeqAt.EqAt.int_list a tu t2 hu0
  |dK _ _ _=>exact(bD ne).elim
  |dT _ _ _=>exact(bD ne).elim
  |set _ _ _ _=>exact(dh ne).elim
  |scr _=>exact(di ne).elim
  |fn _=>exact(gH ne).elim
  |itm _=>exact(dm ne).elim
  |itx _=>exact(dj ne).elim
  |non=>cases rv;exact SeqAt.EqAt.int_none a tu
  |bl b=>cases rv;exact SeqAt.EqAt.int_bool a tu b
  |int i=>obtain⟨tk,rfl⟩:=rv;exact zGU a tu i tk
  |str i=>obtain⟨tk,rfl⟩:=rv;exact zGV a tu i tk
 |str a=>
  obtain⟨tu,rfl⟩:=ru;cases r2 with
  |tup h2 q2=>cases rv;obtain⟨_,_,t2⟩:=ok.tup h2;exact SeqAt.EqAt.str_tuple a tu t2 hu0
  |lst h2 mm2 q2=>cases rv;obtain⟨_,_,t2⟩:=ok.lst h2;exact SeqAt.EqAt.str_list a tu t2 hu0
  |dK _ _ _=>exact(bD ne).elim
  |dT _ _ _=>exact(bD ne).elim
  |set _ _ _ _=>exact(dh ne).elim
  |scr _=>exact(di ne).elim
  |fn _=>exact(gH ne).elim
  |itm _=>exact(dm ne).elim
  |itx _=>exact(dj ne).elim
  |non=>cases rv;exact SeqAt.EqAt.str_none a tu
  |bl b=>cases rv;exact SeqAt.EqAt.str_bool a tu b
  |int i=>obtain⟨tk,rfl⟩:=rv;exact zGW a tu i tk
  |str i=>obtain⟨tk,rfl⟩:=rv;exact SeqAt.EqAt.str_str a tu i tk
 |_=>exact zAI (ndx nd)
def yc(ok:kW K H s)(n:Nat)(IH:aHa K H s n):aHb K H s n:=by
 intro A1 A2 xs ys ds es A us vs q1 q2 w1 w2 hd nd ne hu j h1 h2;have hj1:j<us.length:=by simpa using h1
 have hj2:j<vs.length:=by simpa using h2
 have hx:j<xs.length:=by rw[w1.length];exact hj1
 have hy:j<ys.length:=by rw[w2.length];exact hj2
 have ex:=zAH hx;have ey:=zAH hy;obtain⟨d,ed,rd⟩:=q1.get ex;obtain⟨e,ee,re⟩:=q2.get ey;obtain⟨u,eu,ru⟩:=w1.get ex;obtain⟨v,ev,rv⟩:=w2.get ey;have e1:us.toArray[j]=u:=by
  rw[zGr];exact zAs ((zAH hj1).symm.trans eu)
 have e2:vs.toArray[j]=v:=by
  rw[zGr];exact zAs ((zAH hj2).symm.trans ev)
 rw[e1,e2,ed,ee];exact IH _ _ _ _ _ _ _ _ _ rd re ru rv (zAn (ym (zAt ed)) hd) (pH (zAt ed) nd) (pH (zAt ee) ne) hu
theorem aHI(ok:kW K H s):∀n,aHa K H s n
 |0=>wX ok 0 λ k h=>absurd h (by simp)
 |n+1=>wX ok (n+1) λ k h=>by
  have h':=Nat.succ.inj h;subst h';exact yc ok n (aHI ok n)
def aLj(ok:kW K H s):∀{A1 A2:Addr->Prop} {x y:V} {d e:D} (n:Nat) {A:zAc} {u v:Value},Rp K A1 H x d->Rp K A2 H y e->RelV x u->RelV y v->sX d<=n->aa d=true->aa e=true->A.units+n<cLine->zCl A s u v (eqD d e)
 |_,_,_,_,_,_,n,A,u,v,r1,r2,ru,rv,hd,nd,ne,hu=>aHI ok n _ _ _ _ _ _ _ _ _ r1 r2 ru rv hd nd ne hu
def aKA(ok:kW K H s):∀{A1 A2:Addr->Prop} {xs ys:List V} {ds es:List D} (n:Nat) {A:zAc} {us vs:List Value},Rps K A1 H xs ds->Rps K A2 H ys es->Vals xs us->Vals ys vs->dO ds<=n->au ds=true->au es=true->A.units+n<cLine->
  ∀(j:Nat) (h1:j<us.toArray.size) (h2:j<vs.toArray.size),zCl A s us.toArray[j] vs.toArray[j] (match ds[j]?,es[j]? with|some a,some b=>eqD a b|_,_=>true)
 |_,_,xs,ys,ds,es,n,A,us,vs,q1,q2,w1,w2,hd,nd,ne,hu,j,h1,h2=>yc ok n (aHI ok n) _ _ _ _ _ _ _ _ _ q1 q2 w1 w2 hd nd ne hu j h1 h2
def aFh(ok:kW K H s)(n:Nat)(r1:Rp K A1 H x d)(r2:Rp K A2 H y e)(ru:RelV x u)(rv:RelV y v)(hd:sX d<=n)(nd:aa d=true)(ne:aa e=true)(hu:A.units+n<cLine):
  SeqAt.RcAt A s u v (eqD d e)/\SeqAt.RcNeAt A s u v (!eqD d e):=by
 have hu0:A.units<cLine:=by lia
 cases r1 with
 |tup h1 q1=>
  rename_i a xs ds;cases ru;obtain⟨its,w1,t1⟩:=ok.tup h1;cases r2 with
  |tup h2 q2=>
   rename_i b ys es;cases rv;obtain⟨its2,w2,t2⟩:=ok.tup h2;simp only[sX]at hd;obtain⟨k,rfl⟩:∃k,n=k+1:=⟨n-1,by lia⟩
   have he:=aKA ok (A:=A.in1) k q1 q2 w1 w2 (by lia) (ie nd) (ie ne) (by show A.units+1+k<cLine;lia);have z:=zG2 t1 t2 hu0 he;have z2:=SeqAt.RcNeAt.tuples t1 t2 hu0 he;rw[jK (by rw[zAX,<-w1.length,q1.length]) (by rw[zAX,<-w2.length,q2.length])]at z z2;simp only[eqD];exact⟨z,z2⟩
  |lst h2 mm2 q2=>
   cases rv;obtain⟨its2,w2,t2⟩:=ok.lst h2;simp only[eqD];exact⟨SeqAt.RcAt.tuple_list t1 t2 hu0,SeqAt.RcNeAt.tuple_list t1 t2 hu0⟩
  |non=>cases rv;exact⟨SeqAt.RcAt.tuple_none t1 hu0,SeqAt.RcNeAt.tuple_none t1 hu0⟩
  |bl b=>cases rv;exact⟨SeqAt.RcAt.tuple_bool b t1 hu0,SeqAt.RcNeAt.tuple_bool b t1 hu0⟩
  |int i=>obtain⟨tk,rfl⟩:=rv;exact⟨SeqAt.RcAt.tuple_int i tk t1 hu0,SeqAt.RcNeAt.tuple_int i tk t1 hu0⟩
  |str i=>obtain⟨tk,rfl⟩:=rv;exact⟨SeqAt.RcAt.tuple_str i tk t1 hu0,SeqAt.RcNeAt.tuple_str i tk t1 hu0⟩
  |_=>exact zAI (ndx ne)
 |lst h1 mm1 q1=>
  rename_i a xs ds;cases ru;obtain⟨its,w1,t1⟩:=ok.lst h1;cases r2 with
  |lst h2 mm2 q2=>
   rename_i b ys es;cases rv;obtain⟨its2,w2,t2⟩:=ok.lst h2;simp only[sX]at hd;obtain⟨k,rfl⟩:∃k,n=k+1:=⟨n-1,by lia⟩
   have l1:its.toArray.size=ds.length:=by rw[zAX,<-w1.length,q1.length]
   have l2:its2.toArray.size=es.length:=by rw[zAX,<-w2.length,q2.length]
   have z':=jK (ds:=ds) (es:=es) l1 l2;by_cases hl:its.toArray.size=its2.toArray.size
   .have he:=aKA ok (A:=A.in1) k q1 q2 w1 w2 (by lia) (ig nd) (ig ne) (by show A.units+1+k<cLine;lia)
    have z:=zG6 t1 t2 hl hu0 he;have z2:=SeqAt.RcNeAt.lists t1 t2 hl hu0 he;rw[<-hl,zF6,beq_self_eq_true,zEO]at z';rw[z']at z z2;simp only[eqD];exact⟨z,z2⟩
   .rw[beq_eq_false_iff_ne.mpr hl,zGK]at z'
    simp only[eqD];rw[<-z'];exact⟨zFS t1 t2 (by simpa using hl) hu0,SeqAt.RcNeAt.lists_lengths t1 t2 (by simpa using hl) hu0⟩
  |tup h2 q2=>
   cases rv;obtain⟨its2,w2,t2⟩:=ok.tup h2;simp only[eqD];exact⟨SeqAt.RcAt.list_tuple t1 t2 hu0,SeqAt.RcNeAt.list_tuple t1 t2 hu0⟩
  |non=>cases rv;exact⟨SeqAt.RcAt.list_none t1 hu0,SeqAt.RcNeAt.list_none t1 hu0⟩
  |bl b=>cases rv;exact⟨SeqAt.RcAt.list_bool b t1 hu0,SeqAt.RcNeAt.list_bool b t1 hu0⟩
  |int i=>obtain⟨tk,rfl⟩:=rv;exact⟨SeqAt.RcAt.list_int i tk t1 hu0,SeqAt.RcNeAt.list_int i tk t1 hu0⟩
  |str i=>obtain⟨tk,rfl⟩:=rv;exact⟨SeqAt.RcAt.list_str i tk t1 hu0,SeqAt.RcNeAt.list_str i tk t1 hu0⟩
  |_=>exact zAI (ndx ne)
 |non=>
  cases ru;cases r2 with
  |tup h2 q2=>cases rv;obtain⟨_,_,t2⟩:=ok.tup h2;exact⟨SeqAt.RcAt.none_tuple t2 hu0,SeqAt.RcNeAt.none_tuple t2 hu0⟩
  |lst h2 mm2 q2=>cases rv;obtain⟨_,_,t2⟩:=ok.lst h2;exact⟨SeqAt.RcAt.none_list t2 hu0,SeqAt.RcNeAt.none_list t2 hu0⟩
  |dK _ _ _=>exact(bD ne).elim
  |dT _ _ _=>exact(bD ne).elim
  |set _ _ _ _=>exact(dh ne).elim
  |scr _=>exact(di ne).elim
  |fn _=>exact(gH ne).elim
  |itm _=>exact(dm ne).elim
  |itx _=>exact(dj ne).elim
  |non=>cases rv;exact⟨SeqAt.RcAt.none_none,SeqAt.RcNeAt.none_none⟩
  |bl b=>cases rv;exact⟨SeqAt.RcAt.none_bool b,SeqAt.RcNeAt.none_bool b⟩
  |int i=>obtain⟨tk,rfl⟩:=rv;exact⟨SeqAt.RcAt.none_int i tk,SeqAt.RcNeAt.none_int i tk⟩
  |str i=>obtain⟨tk,rfl⟩:=rv;exact⟨SeqAt.RcAt.none_str i tk,SeqAt.RcNeAt.none_str i tk⟩
 |bl a=>
  cases ru;cases r2 with
  |tup h2 q2=>cases rv;obtain⟨_,_,t2⟩:=ok.tup h2;exact⟨SeqAt.RcAt.bool_tuple a t2 hu0,SeqAt.RcNeAt.bool_tuple a t2 hu0⟩
  |lst h2 mm2 q2=>cases rv;obtain⟨_,_,t2⟩:=ok.lst h2;exact⟨SeqAt.RcAt.bool_list a t2 hu0,SeqAt.RcNeAt.bool_list a t2 hu0⟩
  |dK _ _ _=>exact(bD ne).elim
  |dT _ _ _=>exact(bD ne).elim
  |set _ _ _ _=>exact(dh ne).elim
  |scr _=>exact(di ne).elim
  |fn _=>exact(gH ne).elim
  |itm _=>exact(dm ne).elim
  |itx _=>exact(dj ne).elim
  |non=>cases rv;exact⟨SeqAt.RcAt.bool_none a,SeqAt.RcNeAt.bool_none a⟩
  |bl b=>cases rv;exact⟨SeqAt.RcAt.bool_bool a b,SeqAt.RcNeAt.bool_bool a b⟩
  |int i=>obtain⟨tk,rfl⟩:=rv;exact⟨SeqAt.RcAt.bool_int a i tk,SeqAt.RcNeAt.bool_int a i tk⟩
  |str i=>obtain⟨tk,rfl⟩:=rv;exact⟨SeqAt.RcAt.bool_str a i tk,SeqAt.RcNeAt.bool_str a i tk⟩
 |int a=>
  obtain⟨tu,rfl⟩:=ru;cases r2 with
  |tup h2 q2=>cases rv;obtain⟨_,_,t2⟩:=ok.tup h2;exact⟨SeqAt.RcAt.int_tuple a tu t2 hu0,SeqAt.RcNeAt.int_tuple a tu t2 hu0⟩
  |lst h2 mm2 q2=>cases rv;obtain⟨_,_,t2⟩:=ok.lst h2;exact⟨SeqAt.RcAt.int_list a tu t2 hu0,SeqAt.RcNeAt.int_list a tu t2 hu0⟩
  |dK _ _ _=>exact(bD ne).elim
  |dT _ _ _=>exact(bD ne).elim
  |set _ _ _ _=>exact(dh ne).elim
  |scr _=>exact(di ne).elim
  |fn _=>exact(gH ne).elim
  |itm _=>exact(dm ne).elim
  |itx _=>exact(dj ne).elim
  |non=>cases rv;exact⟨SeqAt.RcAt.int_none a tu,SeqAt.RcNeAt.int_none a tu⟩
  |bl b=>cases rv;exact⟨SeqAt.RcAt.int_bool a tu b,SeqAt.RcNeAt.int_bool a tu b⟩
  |int i=>obtain⟨tk,rfl⟩:=rv;exact⟨SeqAt.RcAt.int_int a tu i tk,SeqAt.RcNeAt.int_int a tu i tk⟩
  |str i=>obtain⟨tk,rfl⟩:=rv;exact⟨SeqAt.RcAt.int_str a tu i tk,SeqAt.RcNeAt.int_str a tu i tk⟩
 |str a=>
  obtain⟨tu,rfl⟩:=ru;cases r2 with
  |tup h2 q2=>cases rv;obtain⟨_,_,t2⟩:=ok.tup h2;exact⟨SeqAt.RcAt.str_tuple a tu t2 hu0,SeqAt.RcNeAt.str_tuple a tu t2 hu0⟩
  |lst h2 mm2 q2=>cases rv;obtain⟨_,_,t2⟩:=ok.lst h2;exact⟨SeqAt.RcAt.str_list a tu t2 hu0,SeqAt.RcNeAt.str_list a tu t2 hu0⟩
  |dK _ _ _=>exact(bD ne).elim
  |dT _ _ _=>exact(bD ne).elim
  |set _ _ _ _=>exact(dh ne).elim
  |scr _=>exact(di ne).elim
  |fn _=>exact(gH ne).elim
  |itm _=>exact(dm ne).elim
  |itx _=>exact(dj ne).elim
  |non=>cases rv;exact⟨SeqAt.RcAt.str_none a tu,SeqAt.RcNeAt.str_none a tu⟩
  |bl b=>cases rv;exact⟨SeqAt.RcAt.str_bool a tu b,SeqAt.RcNeAt.str_bool a tu b⟩
  |int i=>obtain⟨tk,rfl⟩:=rv;exact⟨SeqAt.RcAt.str_int a tu i tk,SeqAt.RcNeAt.str_int a tu i tk⟩
  |str i=>obtain⟨tk,rfl⟩:=rv;exact⟨SeqAt.RcAt.str_str a tu i tk,SeqAt.RcNeAt.str_str a tu i tk⟩
 |_=>exact zAI (ndx nd)
end
section
variable{K:zAA}{H:Hp}{s:zAF}
open Classical in
def oE(K:zAA)(H:Hp)(d:D)(u:Value):Bool:=if h:∃e,aa e=true/\∃y,RelV y u/\Rp K (λ _=>True) H y e then eqD (choose h) d else false
def aDo(ok:kW K H s)(r:RelV y u)(h:Rp K A H y e)(ne:aa e=true):oE K H d u=eqD e d:=by
 have hx:∃e,aa e=true/\∃y,RelV y u/\Rp K (λ _=>True) H y e:=⟨e,ne,y,r,h.wk λ _ _ _ _=>trivial⟩
 unfold oE;rw[dif_pos hx];obtain⟨n',y',r',h'⟩:=Classical.choose_spec hx;have e1:=RelV.inj r r';subst e1;rw[Rp.inj ok h' h n' ne]
def inD(d:D)(es:List D):Bool:=es.any λ e=>eqD e d
def qm(ok:kW K H s):∀{A:Addr->Prop} {xs:List V} {es:List D} {us:List Value},Rps K A H xs es->Vals xs us->au es=true->us.any (oE K H d)=inD d es:=by
 intro A xs es us h v n;induction v generalizing es with
 |nil=>cases h;rfl
 |cons k t ih=>
  cases h with
  |cons h r=>
   simp only[au,zA5]at n;unfold inD;rw[zCa,zCa,aDo ok k h n.1,ih r n.2];rfl
def ue(ok:kW K H s)(rx:Rp K A0 H x d)(rv:RelV x v)(hu:A.units+n<cLine)(nd:aa d=true):∀{A1:Addr->Prop} {xs:List V} {es:List D} {us:List Value},Rps K A1 H xs es->Vals xs us->dO es<=n->au es=true->∀u∈us,zCl A s u v (oE K H d u):=by
 intro A1 xs es us h v' hd ne u hm;induction v' generalizing es with
 |nil=>cases hm
 |cons k t ih=>
  cases h with
  |cons h r=>
   simp only[dO]at hd;simp only[au,zA5]at ne;rcases zAT.mp hm with z|z
   .subst z
    rw[aDo ok k h ne.1];exact aLj ok n h rx k rv (zAn (zIW _ _) hd) ne.1 nd hu
   .exact ih r (zAn (zIP _ _) hd) ne.2 z
end
section
variable{X:Cx}
def aFo(K:zAA)(neg:Bool):R2:=λ x y H Q=>∃A B d e,Rp K A H x d/\Rp K B H y e/\sX d<=60/\aa d=true/\aa e=true/\Q (.bl (if neg then !eqD d e else eqD d e)) H
def aLO(hu:X.A.units+64<cLine):OpR X (zBA .Eq) (aFo X.K false):=by
 intro kX s Z H x y v u Q I rx ry h;obtain⟨A,B,d,e,r1,r2,hd,nd,ne,q⟩:=h;exact(aFh (Inv.seqOk I) 60 r1 r2 rx ry hd nd ne (by lia)).1 X.prog X.w X.xe _ ⟨.bl (eqD d e),H,I,rfl,q⟩
def aLG(hu:X.A.units+64<cLine):OpR X (zBA .NotEq) (aFo X.K true):=by
 intro kX s Z H x y v u Q I rx ry h;obtain⟨A,B,d,e,r1,r2,hd,nd,ne,q⟩:=h;exact(aFh (Inv.seqOk I) 60 r1 r2 rx ry hd nd ne (by lia)).2 X.prog X.w X.xe _ ⟨.bl (!eqD d e),H,I,rfl,q⟩
def aFn(K:zAA)(neg:Bool):R2:=λ x y H Q=>∃A B d a es,Rp K A H x d/\y= .ref a/\(Rp K B H (.ref a) (.lst es)\/Rp K B H (.ref a) (.tup es))/\dO es<=60/\aa d=true/\au es=true/\Q (.bl (if neg then !inD d es else inD d es)) H
def aLN(hu:X.A.units+64<cLine):OpR X (zBA .In) (aFn X.K false):=by
 intro kX s Z H x y v u Q I rx ry h;obtain⟨A,B,d,a,es,rd,rfl,ra,hd,nd,ne,q⟩:=h;cases ry;have ok:=Inv.seqOk I;have hu1:X.A.in1.units+60<cLine:=by show X.A.units+1+60<cLine;lia
 rcases ra with ra|ra
 .cases ra with
  |lst ha _ r=>
   obtain⟨its,rv,tl⟩:=ok.lst ha;refine SeqAt.in_listAt (oE X.K H d) tl (λ w hw=>ue ok rd rx hu1 nd r rv hd ne w (by simpa using hw)) ⟨.bl _,H,I,rfl,?_⟩;rw[show its.toArray.any (oE X.K H d)=its.any (oE X.K H d)by simp,qm ok r rv ne];exact q
 .cases ra with
  |tup ha r=>
   obtain⟨its,rv,tl⟩:=ok.tup ha;refine SeqAt.in_tupleAt (oE X.K H d) tl (λ w hw=>ue ok rd rx hu1 nd r rv hd ne w (by simpa using hw)) ⟨.bl _,H,I,rfl,?_⟩;rw[show its.toArray.any (oE X.K H d)=its.any (oE X.K H d)by simp,qm ok r rv ne];exact q
def aE3(hu:X.A.units+64<cLine):OpR X (zBA .NotIn) (aFn X.K true):=by
 intro kX s Z H x y v u Q I rx ry h;obtain⟨A,B,d,a,es,rd,rfl,ra,hd,nd,ne,q⟩:=h;cases ry;have ok:=Inv.seqOk I;have hu1:X.A.in1.units+60<cLine:=by show X.A.units+1+60<cLine;lia
 rcases ra with ra|ra
 .cases ra with
  |lst ha _ r=>
   obtain⟨its,rv,tl⟩:=ok.lst ha;refine SeqAt.notIn_listAt (oE X.K H d) tl (λ w hw=>ue ok rd rx hu1 nd r rv hd ne w (by simpa using hw)) ⟨.bl _,H,I,rfl,?_⟩;rw[show its.toArray.any (oE X.K H d)=its.any (oE X.K H d)by simp,qm ok r rv ne];exact q
 .cases ra with
  |tup ha r=>
   obtain⟨its,rv,tl⟩:=ok.tup ha;refine SeqAt.notIn_tupleAt (oE X.K H d) tl (λ w hw=>ue ok rd rx hu1 nd r rv hd ne w (by simpa using hw)) ⟨.bl _,H,I,rfl,?_⟩;rw[show its.toArray.any (oE X.K H d)=its.any (oE X.K H d)by simp,qm ok r rv ne];exact q
end
section
variable{K:zAA}
def eqR(neg:Bool):D->D->Rs D:=λ d e=>if decide (sX d<=60)&&aa d&&aa e then .ok (.bl (if neg then !eqD d e else eqD d e))else .st
def inR(neg:Bool):D->D->Rs D:=λ d e=>match e with
 | .lst es=>if decide (dO es<=60)&&aa d&&au es then .ok (.bl (if neg then !inD d es else inD d es))else .st
 | .tup es=>if decide (dO es<=60)&&aa d&&au es then .ok (.bl (if neg then !inD d es else inD d es))else .st
 |_=>.st
def os_eq:OpS K (aFo K n) (eqR n):=by
 intro A x y d e H Q z rx ry ez q;unfold eqR at ez;split at ez
 .rename_i h
  simp only[zA5,decide_eq_true_eq]at h;cases ez;exact⟨A,A,d,e,rx,ry,h.1.1,h.1.2,h.2,q _ H (aR.refl H) (.bl _)⟩
 .cases ez
def aGR:OpS K (aFn K n) (inR n):=by
 intro A x y d e H Q z rx ry ez q;unfold inR at ez;split at ez
 .split at ez
  .rename_i h
   simp only[zA5,decide_eq_true_eq]at h;cases ez;cases ry with
   |lst ha mm r=>exact⟨A,A,d,_,_,rx,rfl,.inl (.lst ha mm r),h.1.1,h.1.2,h.2,q _ H (aR.refl H) (.bl _)⟩
  .cases ez
 .split at ez
  .rename_i h
   simp only[zA5,decide_eq_true_eq]at h;cases ez;cases ry with
   |tup ha r=>exact⟨A,A,d,_,_,rx,rfl,.inr (.tup ha r),h.1.1,h.1.2,h.2,q _ H (aR.refl H) (.bl _)⟩
  .cases ez
 .cases ez
def aGs:∀x y z,eqR n x y= .ok z->imm z=true:=by
 intro x y z e;unfold eqR at e;split at e
 .cases e;rfl
 .cases e
def aLb:∀x y z,inR n x y= .ok z->imm z=true:=by
 intro x y z e;unfold inR at e;split at e
 .split at e
  .cases e;rfl
  .cases e
 .split at e
  .cases e;rfl
  .cases e
 .cases e
end
section
variable{K:zAA}
def boolsOf:List D->Option (List Bool)
 |[]=>some []
 | .bl i::r=>(boolsOf r).map (i::·)
 |_=>none
theorem qg:∀{l:List D} {ns:List Bool},boolsOf l=some ns->l=ns.map .bl
 |[],ns,h=>by cases h;rfl
 | .bl i::r,ns,h=>by
  simp only[boolsOf,zCY]at h;obtain⟨ms,h1,rfl⟩:=h;rw[qg h1];rfl
 | .non::_,_,h=>by cases h
 | .int _::_,_,h=>by cases h
 | .str _::_,_,h=>by cases h
 | .tup _::_,_,h=>by cases h
 | .lst _::_,_,h=>by cases h
 | .dct _ _::_,_,h=>by cases h
 | .set _::_,_,h=>by cases h
 | .scr _::_,_,h=>by cases h
theorem uB:∀ns:List Bool,boolsOf (ns.map .bl)=some ns
 |[]=>rfl
 |n::ns=>by simp only[zAD,boolsOf,uB ns,zCr]
theorem yq{X:Cx}:∀{bs:List Bool} {us:List Value},Vals (bs.map V.bl) us->LSm.BoolsAre us bs
 |[],_,.nil=>.nil
 |b::bs,_,.cons r t=>by
  have e:_=zEd b:=r;subst e;exact .cons b (yq (X:=X) t)
theorem Rps.bools_of:∀{xs:List V} {bs:List Bool},Rps K A H xs (bs.map D.bl)->xs=bs.map V.bl
 |_,[],.nil=>rfl
 |_,n::ns,.cons h r=>by
  cases h;rw[zAD,Rps.bools_of r]
def pU(f:List Bool->Bool):List D->Rs D
 |[.lst l]=>match boolsOf l with
  |some bs=>.ok (.bl (f bs))
  |none=>.st
 |_=>.st
def aHZ{X:Cx}(hc:X.calm=true):cX X (.builtin "all") (λ xs H Q=>∃(p:Addr) (bs:List Bool),xs=[.ref p]/\H p=some (.lst (bs.map V.bl))/\Q (.bl (bs.all id)) H):=by
 intro kX s Z H xs us Q I r h;obtain⟨p,bs,rfl,hp,q⟩:=h;obtain⟨u,rfl,ru⟩:=vals1 r;cases ru;obtain⟨its,rv,pl,hz⟩:=I.list (SqL.of hp);have hb:=yq (X:=X) rv;have hl:=pl.isList;have hlt:p<s.heap.objs.size:=by obtain⟨_,e,_⟩:=hl;exact zAR e
 refine call_all_walk (zE4 hl ?_);refine⟨s.heap.objs.size,[s.heap.objs.size,p],[s.heap.objs.size],its.toArray.size,_,_,λ i=>(bs[i]?).getD true,rfl,zH5 (A:=X.A.in1) (I.ok.hd hc) _ p (zA1 hlt) its.toArray,
  ⟨⟨_,zAJ _ rfl,rfl,rfl⟩,hl.push _⟩,λ i v s' Q' E' hP hQ=>?_,λ h' tk hk=>?_⟩
 .obtain⟨b,e,rfl⟩:=hb.get i v (by simpa using hP)
  simp only[e,Option.getD_some]at hQ;exact zCX hQ
 .have e:((zAm its.toArray.size).all λ i=>(bs[i]?).getD true)=bs.all id:=by
   rw[zAX,hb.length];exact LSm.range_all bs
  rw[e];exact⟨.bl _,H,I.kept (LSm.kept_iter hk),rfl,q⟩
def aLm:uD K (λ xs H Q=>∃(p:Addr) (bs:List Bool),xs=[.ref p]/\H p=some (.lst (bs.map V.bl))/\Q (.bl (f bs)) H) (pU f):=by
 intro A xs ds H Q z r ez q;unfold pU at ez;split at ez
 .split at ez
  .rename_i l bs e
   cases ez
   have:=qg e
   subst this;cases r with
   |cons h r=>
    cases r;cases h with
    |lst h m r=>
     have:=r.bools_of
     subst this;exact⟨_,bs,rfl,h,q _ H (aR.refl H) (.bl _)⟩
  .cases ez
 .cases ez
def aIz:∀x z,pU f x= .ok z->imm z=true:=by
 intro x z e;unfold pU at e;split at e
 .split at e
  .cases e;rfl
  .cases e
 .cases e
def mmD(f:Int->Int->Int):List D->Rs D
 |[.int i,.int j]=>.ok (.int (f i j))
 |_=>.st
def aKC:uD K (λ xs H Q=>∃i j,xs=[.int i,.int j]/\Q (.int (f i j)) H) (mmD f):=by
 intro A xs ds H Q z r ez q;unfold mmD at ez;split at ez
 .cases ez
  cases r with
  |cons h r=>
   cases h;cases r with
   |cons h r=>
    cases h;cases r;exact⟨_,_,rfl,q _ H (aR.refl H) (.int _)⟩
 .cases ez
def aGp:∀x z,mmD f x= .ok z->imm z=true:=by
 intro x z e;unfold mmD at e;split at e
 .cases e;rfl
 .cases e
def fP:List D->Rs D
 |[.lst l]=>.ok (.tup l)
 |[.tup l]=>.ok (.tup l)
 |_=>.st
def aHT:uD K (λ xs H Q=>∃p ys,xs=[.ref p]/\((SqL K H p ys/\∀l,H l=none->Q (.ref l) (upd H l (.tup ys)))\/(SqT K H p ys/\Q (.ref p) H))) fP:=by
 intro A xs ds H Q z r ez q;unfold fP at ez;split at ez
 .cases ez
  cases r with
  |cons h r=>
   cases r;cases h with
   |lst h m r=>exact⟨_,_,rfl,.inl ⟨SqL.of h,λ l hl=>q _ _ (bF hl _) (.tup (SqT.of aV) ((r.wk λ _ _ _ z=>.inr z.1).up (bF hl _)))⟩⟩
 .cases ez
  cases r with
  |cons h r=>
   cases r;cases h with
   |tup h r=>exact⟨_,_,rfl,.inr ⟨h,q _ H (aR.refl H) (.tup h (r.wk λ _ _ _ z=>.inr z))⟩⟩
 .cases ez
end
section
variable{C:Ct}{pos:Pos}{m:Mode}{a e:Expr}{fe:En->Rs D}
def aJX(fd:D->D->Rs D)(i:Nat)(fe:En->Rs D):En->Ou:=λ ρ=>(op2 fd (bw i) fe ρ).bo λ d=>.nx (ρ.set i (.sh d))
def aKQ(he:SE C m e fe)(ho:∀j,PIp (C.X j) op (ipI f))(hN:∀j,(C.X j).N[i]? =some x:=by intro _;rfl)(hx:∀j,Loc (C.X j).env.scope x:=by intro _;first|exact zBq rfl|exact zBR rfl)(hf:∀j,(C.X j).fn x=true\/(C.X j).env.scope.names.lookup x=some .local:=by intro _;first|exact .inl rfl|exact .inr rfl)(nd:∀j,(C.X j).N.Nodup:=by intro _;assumption):SS C (.AugAssign (.Name x pos') op e pos) (aJX (i2 (λ _ _=>true) λ a b=>.int (f a b)) i fe):=by
 obtain⟨t,h1,h2⟩:=he;refine⟨_,λ j=>aKk (nd j) (hN j) (hx j) (h1 j) (ho j) (hf j),λ U Z H ρ lab De R W=>?_⟩;have w0:=(WS.bo W).bd;refine aCv C.K C.G i U Z H ρ lab (λ v H'=>t Z H' λ y H1=>ipI f v y H1 λ z H2=>De.nx (Z.set i (some z)) H2) R (w0.imp λ d _ w v H' s r=>h2 U Z H' ρ lab _ (R.up s) (w.bd.imp λ e _ w y H1 s1 r1=>?_));obtain⟨z,ez,w⟩:=w.okD;unfold i2 at ez;split at ez
 .cases ez
  cases r;cases r1;exact⟨_,_,rfl,rfl,w _ _ _ (((R.up s).up s1).put (s:=.sh (.int _)) (Rp.int _))⟩
 .cases ez
end
section
variable{C:Ct}{pos p:Pos}{m m1 m2 m3:Mode}{a b c e:Expr}{fa fb fc:En->Rs D}{ga:En->Rs (List D)}
def Ct.u0(C:Ct)(i:C.ι):(C.X i).A.units<cLine:=(C.room i).units0
def Ct.u64(C:Ct)(i:C.ι):(C.X i).A.units+64<cLine:=(C.room i).units
def Ct.ltR(C:Ct)(i:C.ι):OpR (C.X i) (zBA .Lt) (λ x y H Q=>rI0 (λ i j=>.bl (decide (i<j))) x y H Q\/aIF C.K x y H Q):=by have h:=aLJ (X:=C.X i) (C.u0 i);rw[C.hK i]at h;exact h
def Ct.leR(C:Ct)(i:C.ι):OpR (C.X i) (zBA .LtE) (λ x y H Q=>rI0 (λ i j=>.bl (decide (i<=j))) x y H Q\/aIG C.K x y H Q):=by have h:=aLL (X:=C.X i) (C.u0 i);rw[C.hK i]at h;exact h
def Ct.eqRl(C:Ct)(i:C.ι):OpR (C.X i) (zBA .Eq) (aFo C.K false):=by have h:=aLO (X:=C.X i) (C.u64 i);rw[C.hK i]at h;exact h
def Ct.neRl(C:Ct)(i:C.ι):OpR (C.X i) (zBA .NotEq) (aFo C.K true):=by have h:=aLG (X:=C.X i) (C.u64 i);rw[C.hK i]at h;exact h
def Ct.inRl(C:Ct)(i:C.ι):OpR (C.X i) (zBA .In) (aFn C.K false):=by have h:=aLN (X:=C.X i) (C.u64 i);rw[C.hK i]at h;exact h
def Ct.ninRl(C:Ct)(i:C.ι):OpR (C.X i) (zBA .NotIn) (aFn C.K true):=by have h:=aE3 (X:=C.X i) (C.u64 i);rw[C.hK i]at h;exact h
def Ct.aMy(C:Ct)(i:C.ι):OpR (C.X i) (zCU .Add) (aFp C.K):=by have h:=aIa (X:=C.X i);rw[C.hK i]at h;exact h
def xF:D->D->Rs D:=i2 (λ _ _=>true) λ i j=>.int (i-j)
def wO:D->D->Rs D:=i2 (λ _ j=>decide (0<j)&&decide (j<1073741824)) λ i j=>.int (i / j)
def rU:D->D->Rs D:=i2 (λ _ j=>decide (0<j)) λ i j=>.int (i%j)
def aKm:D->D->Rs D:=i2 (λ i j=>decide (0<=j)&&decide (j<=1000000)&&decide (i.natAbs<2^64)) λ i j=>.int (i^j.toNat)
def dW(ha:SE C m1 a fa)(hb:SE C m2 b fb):SE C (jn m1 m2) (.BinOp a .Add b pos) (op2 cL fa fb):=yD C.aMy aLC ha hb
def o8(ha:SE C m1 a fa)(hb:SE C m2 b fb):SE C (jn m1 m2) (.BinOp a .Mult b pos) (op2 iI fa fb):=yD (λ _=>aI4) aLA ha hb
def zJ(ha:SE C m1 a fa)(hb:SE C m2 b fb):SE C (some []) (.BinOp a .Sub b pos) (op2 xF fa fb):=gW (yD (λ _=>aLD) aI2 ha hb) λ _ _ h=>jW aAC h
def aDB(ha:SE C m1 a fa)(hb:SE C m2 b fb):SE C (some []) (.BinOp a .FloorDiv b pos) (op2 wO fa fb):=gW (yD (λ _=>aI5) (aCR λ i j h=>by simpa[aNK]using h) ha hb) λ _ _ h=>jW aAC h
def rC(ha:SE C m1 a fa)(hb:SE C m2 b fb):SE C (some []) (.BinOp a .Mod b pos) (op2 rU fa fb):=gW (yD (λ _=>aLI) (aCR λ i j h=>by simpa using h) ha hb) λ _ _ h=>jW aAC h
def aKZ(ha:SE C m1 a fa)(hb:SE C m2 b fb):SE C (some []) (.BinOp a .Pow b pos) (op2 aKm fa fb):=gW (yD (λ _=>aLF) (aCR λ i j h=>by simp only[zA5,decide_eq_true_eq]at h;exact⟨h.1.1,h.1.2,h.2⟩) ha hb) λ _ _ h=>jW aAC h
def aMQ(ha:SE C m1 a fa)(hb:SE C m2 b fb):SE C (some []) (.Compare a [.Lt] [b] pos) (op2 ltD fa fb):=gW (zN C.ltR aGP ha hb) λ _ _ h=>jW aGq h
def aAh(ha:SE C m1 a fa)(hb:SE C m2 b fb):SE C (some []) (.Compare a [.Eq] [b] pos) (op2 (eqR false) fa fb):=gW (zN C.eqRl os_eq ha hb) λ _ _ h=>jW aGs h
def aJg(ha:SE C m1 a fa)(hb:SE C m2 b fb):SE C (some []) (.Compare a [.NotEq] [b] pos) (op2 (eqR true) fa fb):=gW (zN C.neRl os_eq ha hb) λ _ _ h=>jW aGs h
def aMR(ha:SE C m1 a fa)(hb:SE C m2 b fb)(hm:zCM .In b=false:=by with_unfolding_all rfl):SE C (some []) (.Compare a [.In] [b] pos) (op2 (inR false) fa fb):=gW (zN C.inRl aGR ha hb hm) λ _ _ h=>jW aLb h
def tE(ha:SE C m1 a fa)(hb:SE C m2 b fb):ST C (.Compare a [.Lt] [b] pos) (tsb (op2 ltD fa fb)):=mQ C.ltR aGP ha hb
def aJf(ha:SE C m1 a fa)(hb:SE C m2 b fb):ST C (.Compare a [.Gt] [b] pos) (tsb (op2 gtD fa fb)):=mQ (λ _=>aM9) za ha hb
def aMO(ha:SE C m1 a fa)(hb:SE C m2 b fb):ST C (.Compare a [.GtE] [b] pos) (tsb (op2 geD fa fb)):=mQ (λ _=>aMa) za ha hb
def xu(ha:SE C m1 a fa)(hb:SE C m2 b fb):ST C (.Compare a [.Eq] [b] pos) (tsb (op2 (eqR false) fa fb)):=mQ C.eqRl os_eq ha hb
def tD(ha:SE C m1 a fa)(hb:SE C m2 b fb):ST C (.Compare a [.NotEq] [b] pos) (tsb (op2 (eqR true) fa fb)):=mQ C.neRl os_eq ha hb
def aMN(ha:SE C m1 a fa)(hb:SE C m2 b fb)(hm:zCM .In b=false:=by with_unfolding_all rfl):ST C (.Compare a [.In] [b] pos) (tsb (op2 (inR false) fa fb)):=mQ C.inRl aGR ha hb hm
def zB(ha:SE C m1 a fa)(hb:SE C m2 b fb)(hm:zCM .NotIn b=false:=by with_unfolding_all rfl):ST C (.Compare a [.NotIn] [b] pos) (tsb (op2 (inR true) fa fb)):=mQ C.ninRl aGR ha hb hm
def aHt(ha:SE C m1 a fa)(hb:SE C m2 b fb)(hc:SE C m3 c fc)(hm:zIJ [.LtE,.LtE] [b,c]=false:=by with_unfolding_all rfl):SE C (some []) (.Compare a [.LtE,.LtE] [b,c] pos) (chD leD leD fa fb fc):=aAi C.leR aGQ C.leR aGQ aLa ha hb hc hm
def zM(ha:SE C m1 a fa)(hb:SE C m2 b fb)(hc:SE C m3 c fc)(hm:zIJ [.LtE,.Lt] [b,c]=false:=by with_unfolding_all rfl):SE C (some []) (.Compare a [.LtE,.Lt] [b,c] pos) (chD leD ltD fa fb fc):=aAi C.leR aGQ C.ltR aGP aGq ha hb hc hm
def aL(ha:SE C m1 a fa)(hb:SE C m2 b fb)(hp:qx b:=by exact λ _ _=>rfl):SE C m1 (.Subscript a b pos) (op2 ixD fa fb):=by
 obtain⟨t,h1,h2⟩:=ha;obtain⟨u,k1,k2⟩:=hb;refine⟨tOp (rIx C.K) t u,λ i=>by rw[<-C.hK i];exact aJs aL4 (h1 i) (k1 i) hp,λ U Z H ρ lab Q R W=>?_⟩;refine h2 U Z H ρ lab _ R (W.bd.imp λ d _ w x H1 s1 r1=>?_);refine k2 U Z H1 ρ lab _ (R.up s1) (w.bd.imp λ e _ w y H2 s2 r2=>?_);obtain⟨z,ez,w⟩:=w.okD;have hi:imm e=true:=by
  unfold ixD at ez;split at ez<;>first|rfl|cases ez
 refine aM6 (fpM m1 lab H) x y d e H2 Q z (r1.up s2) (r2.imm hi) ez λ v H' s r=>w v H' ((s1.trans s2).trans s) (r.wk λ p o _ q=>?_)
 rcases q with q|q
 .exact .inl ((s1.trans s2).free q)
 .exact q
def gC(hm:C.mg "len"=none)(ha:SA C m [a] ga)(he:∀i,zAU [a] (C.X i).env=[(false,eval a (C.X i).env)]:=by intro _;rfl)(hg:∀i,Gl (C.X i) "len":=by intro _;rfl):SE C (some []) (.Call (.Name "len" p) [a] [] pos) (opA eV ga):=
 gW (mX (λ i=>by have h:=qe (X:=C.X i);rw[C.hK i]at h;exact h) aHU hg hm zIS ha (by decide) (by decide) he) λ _ _ h=>qN aDa h
def vD(hm:C.mg "all"=none)(ha:SA C m [a] ga)(he:∀i,zAU [a] (C.X i).env=[(false,eval a (C.X i).env)]:=by intro _;rfl)(hg:∀i,Gl (C.X i) "all":=by intro _;rfl)(hv:zAz "all"=some (.builtin "all"):=by decide+kernel):SE C (some []) (.Call (.Name "all" p) [a] [] pos) (opA (pU λ bs=>bs.all id) ga):=
 gW (mX (λ i=>aHZ (C.calm i)) aLm hg hm hv ha (by decide) (by decide) he) λ _ _ h=>qN aIz h
def aHs(hm:C.mg "min"=none)(ha:SA C m [a,b] ga)(he:∀i,zAU [a,b] (C.X i).env=(false,eval a (C.X i).env)::zAU [b] (C.X i).env:=by intro _;rfl)(hpl:∀i,(zCW pos (zAU [b] (C.X i).env)).any (·.1)=false:=by intro _;rfl)(hg:∀i,Gl (C.X i) "min":=by intro _;rfl)(hv:zAz "min"=some (.builtin "min"):=by decide+kernel):SE C (some []) (.Call (.Name "min" p) [a,b] [] pos) (opA (mmD λ i j=>if j<i then j else i) ga):=
 gW (mX (λ i=>aEp (C.calm i)) aKC hg hm hv ha (by decide) (by decide) he hpl) λ _ _ h=>qN aGp h
def aCz(hm:C.mg "max"=none)(ha:SA C m [a,b] ga)(he:∀i,zAU [a,b] (C.X i).env=(false,eval a (C.X i).env)::zAU [b] (C.X i).env:=by intro _;rfl)(hpl:∀i,(zCW pos (zAU [b] (C.X i).env)).any (·.1)=false:=by intro _;rfl)(hg:∀i,Gl (C.X i) "max":=by intro _;rfl)(hv:zAz "max"=some (.builtin "max"):=by decide+kernel):SE C (some []) (.Call (.Name "max" p) [a,b] [] pos) (opA (mmD λ i j=>if j>i then j else i) ga):=
 gW (mX (λ i=>aEq (C.calm i)) aKC hg hm hv ha (by decide) (by decide) he hpl) λ _ _ h=>qN aGp h
def ji(hm:C.mg "tuple"=none)(ha:SA C m [a] ga)(he:∀i,zAU [a] (C.X i).env=[(false,eval a (C.X i).env)]:=by intro _;rfl)(hg:∀i,Gl (C.X i) "tuple":=by intro _;rfl)(hv:zAz "tuple"=some (.type "tuple"):=by decide+kernel):SE C m (.Call (.Name "tuple" p) [a] [] pos) (opA fP ga):=
 aF3 (λ i=>by have h:=xX (X:=C.X i);rw[C.hK i]at h;exact h) aHT hg hm hv ha (by decide) (by decide) he
def aCu(K:zAA):Sp:=λ vs H Q E=>∃a ns,vs=[.ref a]/\nO K H a ns/\ns.length<=63/\∀H',Q (.bl true) H'
def aIm{K:zAA}(h:∀ns:List Int,ns.length<=63->F [.scr ns]= .ok (.bl true)):∀vs H Q E,aCu K vs H Q E->spF K cl 1 F vs H Q E:=by
 rintro vs H Q E ⟨a,ns,rfl,hs,hl,q⟩;refine⟨[.scr ns],rfl,.cons (.scr hs) .nil,?_⟩;rw[h ns hl];intro v H' s r;cases r;exact q H'
def aK5{K:zAA}{a:Addr}(hO:Only H)(h:SqL K H a (ns.map V.int)):nO K H a ns:=by
 rcases h with (h|⟨o,h⟩)|h
 .rcases hO a with z|⟨o,xs,z⟩
  .rw[h]at z;cases z
  .rw[h]at z;cases z
 .exact .inl ⟨o,h⟩
 .exact .inr h
end
end VL
namespace L2
open PySem PySem.Spec PyProof.Rows
def cxW(P:zAV)(w:World)(K:zAA)(mg:Str->Option Value)(base:Heap)(N:List Str)(qual:Str)(scope:Scope)(f:Addr)(cd:Value)(A:zAc)(s:zAF)(H:Hp)(Pt:Addr):Cx where
 prog:=P
 w:=w
 K:=K
 mg:=mg
 base:=base
 A:=A.deeper (zE1 qual scope s.heap.objs.size f cd)
 N:=N
 z4:=s
 zS:=H
 env:=zE1 qual scope s.heap.objs.size f cd
 outer:=[]
 stack:=[zE1 qual scope s.heap.objs.size f cd]
 ex:=[Pt]
 calm:=true
 fn:=λ _=>true
 pn:=[]
 xe:=λ _ _=>False
 ta:=[(Pt,PySem.W.tabObj #[])]
 tq:=qual++".<locals>."++"<lambda>"
end L2
namespace VL
open PySem PySem.Spec PyProof.Rows L2
end VL
namespace L2
open PySem PySem.Spec PyProof.Rows
def pe_isi{X:Cx}{n0:Str}{e:Expr}{c:V}{p p' pos:Pos}(hN:X.N[0]? =some n0)(hv:X.env.scope.names.lookup n0=some .local)(hg:Gl X "isinstance")(hm:X.mg "isinstance"=none)(hc:PE X e (tC c))(hse:zAU [e] X.env=(false,eval e X.env)::zAU [] X.env:=by rfl)
  (hpl:(zCW pos (zAU [e] X.env)).any (·.1)=false:=by rfl)(d:Nd n0:=by decide)(d':(n0==("__classdict__":Str))=false:=by decide):PE X (.Call (.Name "isinstance" p) [.Name n0 p',e] [] pos) (aNS X.K c):=
 gG aEt hg hm rfl (bz (eU hN (.inl hv) d d') (bz hc jF hse)) (hpl:=hpl)
section
variable{P:zAV}{w:World}{K:zAA}{mg:Str->Option Value}{base:Heap}{x q n0 n1 n2 odd:Str}{st:Stmt}{f:Addr}{fd:zAg}{k:Nat}{wd:Addr->Option Str}{c1 c2:V}{k1 k2 k3 k4:List V}{l1 l2:List Str}{a1 a2:Expr}{as1 as2 e1 e2 e3 e4 w1 w2:List Expr}{kw1 kw2:List zCe}
 {p1 p2 p3 p4 p5 p6 p7 p8 p9 p10 p11 p12 p13 p14 p15 p16 p17 p18 p19 p20 p21 p22 p23 p24 p25 p26 p27 p28 p29 p30 p31 p32 p33 p34 p35 p36 p37 p38 p39 p40:Pos}{q1 q2 q3 q4 q5 q6 q7:Pos}{j1 j2 j3 j4 j5:Nat}
end
structure LawOk(P:zAV)(w:World)(K:zAA)(mg:Str->Option Value)(fa Pt:Addr)(k n:Nat):Prop where
 ex:∃(x name qual:Str) (params:zEp) (body:List Stmt) (scope:Scope) (dV kV doc pm ct oc:Value) (an od:Option Addr) (c:Addr) (osl:Array (Option Value)) (N:List Str),
  K.lookup Pt=none/\PySem.W.codeHdIn K c Pt=true/\K.lookup fa=some ⟨oc,od,.func (zCO name qual params body scope dV kV doc pm an (.ref c) ct),osl⟩/\zDl K (.ref c) qual=true/\aY N [x] scope/\
  (∀(s:zAF) (u:Value),zFw s (zCO name qual params body scope dV kV doc pm an (.ref c) ct) ⟨[u],[]⟩ [(x,u)])/\
  ∀(a:Addr) (ns:List Int),ns.length<=n->∀(base:Heap) (s:zAF) (H:Hp),jN k (callerA.deeper (zE1 qual scope s.heap.objs.size fa (.ref c)))->aNG (cxW P w K mg base N qual scope fa (.ref c) zFT s H Pt) Pt->Only H->SqL K H a (ns.map V.int)->
   ∃t,PSs (cxW P w K mg base N qual scope fa (.ref c) zFT s H Pt) body t/\t {nx:=λ _ _=>False,rt:=λ v _=>v= .bl true} (start N [.ref a]) H
end L2
namespace VL
open PySem PySem.Spec PyProof.Rows L2
section
variable{O:zCN}{kz:Nat->O.α}{n:Nat}
def Wr{α:Type}(kz:Nat->O.α)(n:Nat):zGT α->(α->Prop)->Prop
 | .ret a,Q=>Q a
 | .ask i j k,Q=>i<n/\j<n/\Wr kz n (k (O.blt (kz i) (kz j))) Q
theorem Wr.bindI:∀{t:zGT α},Wr kz n t (λ a=>Wr kz n (g a) Q)->Wr kz n (t.bind g) Q
 | .ret _,h=>h
 | .ask _ _ _,⟨h1,h2,h3⟩=>⟨h1,h2,Wr.bindI h3⟩
abbrev Pm(n:Nat)(p:Array Nat):Prop:=p.Perm (zAm n).toArray
def Pm.sz(h:Pm n p):p.size=n:=by
 have:=h.size_eq
 simpa using this
def Pm.in(h:Pm n p)(hi:i<n):p.getD i 0<n:=by
 have hs:i<p.size:=by rw[h.sz];exact hi
 have e:p.getD i 0=p[i]:=by simp[zCH,hs]
 rw[e];have hm:p[i]∈(zAm n).toArray:=h.mem_iff.mp (Array.getElem_mem hs);simpa using hm
def Kp(kz:Nat->O.α)(p:Array Nat)(i:Nat):O.α:=kz (p.getD i 0)
def aBS(h:p[i]? =q[j]?):Kp kz p i=Kp kz q j:=by
 unfold Kp;congr 1;rw[zBS,zBS,h]
def aGb(hs:c<p.size)(hd:d<=c)(k:Nat):
  Kp kz (bubble p c d) k=if k=c-d then Kp kz p c else if c-d<k/\k<=c then Kp kz p (k-1)else Kp kz p k:=by
 have e:=getElem?_bubble hs d hd k;by_cases u1:k=c-d
 .rw[if_pos u1]at e ⊢
  exact aBS e
 .rw[if_neg u1]at e ⊢
  by_cases u2:c-d<k/\k<=c
  .rw[if_pos u2]at e ⊢
   exact aBS e
  .rw[if_neg u2]at e ⊢
   exact aBS e
def aC3(hj:j<=p.size)(k:Nat):Kp kz (zEY p i j) k=if i<=k/\k<j then Kp kz p (i+j-1-k)else Kp kz p k:=by
 unfold zEY;have e:=getElem?_mirror_all (i:=i) hj k;by_cases u1:i<=k/\k<j
 .rw[if_pos u1]at e ⊢
  exact aBS e
 .rw[if_neg u1]at e ⊢
  exact aBS e
def nW(hj:j<=p.size)(he:∀k,i<=k->k<j->Kp kz p k=Kp kz p (j-1))(k:Nat):Kp kz (zEY p i j) k=Kp kz p k:=by
 rw[aC3 hj];split
 .rw[he _ (by lia) (by lia),he k (by lia) (by lia)]
 .rfl
def Up(kz:Nat->O.α)(p:Array Nat)(k:Nat):Prop:=∀i j,i<=j->j<k->O.kle (Kp kz p i) (Kp kz p j)
def Dn(kz:Nat->O.α)(p:Array Nat)(k:Nat):Prop:=∀i j,i<=j->j<k->O.kle (Kp kz p j) (Kp kz p i)
def vM(h:Pm n p)(i j:Nat):Pm n (zEY p i j):=(mirror_perm _ _ _ _).trans h
def Up.succ(h:Up kz p m)(hm:1<=m)(hl:O.kle (Kp kz p (m-1)) (Kp kz p m)):Up kz p (m+1):=by
 intro i j hij hj;by_cases q:j<m
 .exact h i j hij q
 .have q':j=m:=by lia
  subst q';by_cases q2:i=j
  .rw[q2];exact zCp _
  .exact zEL (h i (j-1) (by lia) (by lia)) hl
def Dn.succ(h:Dn kz p m)(hm:1<=m)(hl:O.kle (Kp kz p m) (Kp kz p (m-1))):Dn kz p (m+1):=by
 intro i j hij hj;by_cases q:j<m
 .exact h i j hij q
 .have q':j=m:=by lia
  subst q';by_cases q2:i=j
  .rw[q2];exact zCp _
  .exact zEL hl (h i (j-1) (by lia) (by lia))
theorem aBo(hp:Pm n p)(hr:r<=n):∀(f m:Nat),1<=m->m+f=r->Up kz p m->
  (∀m',1<=m'->m'<=r->Up kz p m'->(m'=r\/O.klt (Kp kz p m') (Kp kz p (m'-1)))->Q m')->Wr kz n (PySem.W.kas_asc p f m) Q
 |0,m,h1,hm,hu,k=>k m h1 (by lia) hu (.inl (by lia))
 |f+1,m,h1,hm,hu,k=>by
  refine⟨hp.in (by lia),hp.in (by lia),?_⟩;have hd:O.blt (kz (p.getD m 0)) (kz (p.getD (m-1) 0))=O.blt (Kp kz p m) (Kp kz p (m-1)):=rfl;rw[hd];cases hb:O.blt (Kp kz p m) (Kp kz p (m-1))with
  |true=>exact k m h1 (by lia) hu (.inr hb)
  |false=>exact aBo hp hr f (m+1) (by lia) (by lia) (hu.succ h1 hb) k
theorem uR(hr:r<=n):∀(f:Nat) (p:Array Nat) (m e:Nat),Pm n p->1<=m->m+f=r->Dn kz p m->e+1<=m->(∀i,m-(e+1)<=i->i<m->Kp kz p i=Kp kz p (m-1))->
  (∀p' m' e',Pm n p'->1<=m'->m'<=r->Dn kz p' m'->e'+1<=m'->(∀i,m'-(e'+1)<=i->i<m'->Kp kz p' i=Kp kz p' (m'-1))->Q (p',m',e'))->Wr kz n (PySem.W.kas_desc f p m e) Q
 |0,p,m,e,hp,h1,hm,hd,he,hq,k=>k p m e hp h1 (by lia) hd he hq
 |f+1,p,m,e,hp,h1,hm,hd,he,hq,k=>by
  have hsz:m<=p.size:=by rw[hp.sz];lia
  refine⟨hp.in (by lia),hp.in (by lia),?_⟩;have hx:O.blt (kz (p.getD m 0)) (kz (p.getD (m-1) 0))=O.blt (Kp kz p m) (Kp kz p (m-1)):=rfl;rw[hx];cases hb:O.blt (Kp kz p m) (Kp kz p (m-1))with
  |true=>
   have hd':Dn kz p (m+1):=hd.succ h1 (zFA hb);dsimp only;rw[if_pos rfl];by_cases hz:e>0
   .rw[if_pos hz]
    refine uR hr f _ (m+1) 0 (vM hp _ _) (by lia) (by lia) (λ i j hij hj=>?_) (by lia) (λ i u v=>by congr 1;lia) k;rw[nW hsz hq,nW hsz hq];exact hd' i j hij hj
   .rw[if_neg hz]
    exact uR hr f p (m+1) 0 hp (by lia) (by lia) hd' (by lia) (λ i u v=>by congr 1;lia) k
  |false=>
   dsimp only;rw[if_neg (by simp)];refine⟨hp.in (by lia),hp.in (by lia),?_⟩;have hy:O.blt (kz (p.getD (m-1) 0)) (kz (p.getD m 0))=O.blt (Kp kz p (m-1)) (Kp kz p m):=rfl;rw[hy];cases hc:O.blt (Kp kz p (m-1)) (Kp kz p m)with
   |true=>exact k p m e hp h1 (by lia) hd he hq
   |false=>
    dsimp only;rw[if_neg (by simp)];have hee:Kp kz p m=Kp kz p (m-1):=zGh hc hb;refine uR hr f p (m+1) (e+1) hp (by lia) (by lia) (hd.succ h1 hc) (by lia) (λ i u v=>?_) k;rw[show m+1-1=m by lia];by_cases hi:i=m
    .rw[hi]
    .rw[hee]
     exact hq i (by lia) (by lia)
def aCo(hr:r<=n)(hp:Pm n p)(h1:1<=m)(hm:m<=r)(hd:Dn kz p m)(k:∀m' p',Pm n p'->1<=m'->m'<=r->Up kz p' m'->Q (m',p')):Wr kz n (PySem.W.kas_tail3 m r p) Q:=by
 have hsz:m<=p.size:=by rw[hp.sz];lia
 refine Wr.bindI (aBo (vM hp 0 m) hr (r-m) m h1 (by lia) (λ i j hij hj=>?_) λ m' a1 a2 a3 _=>k m' _ (vM hp 0 m) a1 a2 a3);rw[aC3 hsz,aC3 hsz,if_pos (by lia),if_pos (by lia)];exact hd _ _ (by lia) (by lia)
def su(hr:r<=n)(hp:Pm n p)(hm:m+1<=r)(hd:Dn kz p (m+1))(k:∀m' p',Pm n p'->1<=m'->m'<=r->Up kz p' m'->Q (m',p')):Wr kz n (PySem.W.kas_descPart m r p) Q:=by
 refine Wr.bindI (uR hr (r-(m+1)) p (m+1) 0 hp (by lia) (by lia) hd (by lia) (λ i u v=>by congr 1;lia) λ p' m' e' a1 a2 a3 a4 a5 a6=>?_);have hsz:m'<=p'.size:=by rw[a1.sz];lia
 dsimp only;by_cases hz:e'>0
 .rw[if_pos hz]
  refine aCo hr (vM a1 _ _) a2 a3 (λ i j hij hj=>?_) k;rw[nW hsz a6,nW hsz a6];exact a4 i j hij hj
 .rw[if_neg hz]
  exact aCo hr a1 a2 a3 a4 k
def aFB(hr:r<=n)(hp:Pm n p)(h1:1<=r)(k:∀m' p',Pm n p'->1<=m'->m'<=r->Up kz p' m'->Q (m',p')):Wr kz n (PySem.W.kas_count r p) Q:=by
 refine Wr.bindI (aBo hp hr (r-1) 1 (zAS 1) (by lia) (λ i j hij hj=>by rw[show i=j by lia];exact zCp _) λ m a1 a2 a3 a4=>?_);by_cases hm:m=r
 .rw[if_pos (by simpa using hm)]
  exact k m p hp a1 a2 a3
 .rw[if_neg (by simpa using hm)]
  have hl:O.klt (Kp kz p m) (Kp kz p (m-1)):=a4.resolve_left hm;by_cases hg:m>1
  .rw[if_pos hg]
   refine⟨hp.in (by lia),hp.in (by lia),?_⟩;have hx:O.blt (kz (p.getD 0 0)) (kz (p.getD (m-1) 0))=O.blt (Kp kz p 0) (Kp kz p (m-1)):=rfl;rw[hx];cases hb:O.blt (Kp kz p 0) (Kp kz p (m-1))with
   |true=>exact k m p hp a1 a2 a3
   |false=>
    dsimp only;rw[if_neg (by simp)];have hsz:m<=p.size:=by rw[hp.sz];lia
    have pV:∀i,0<=i->i<m->Kp kz p i=Kp kz p (m-1):=λ i _ hi=>zGh (a3 i (m-1) (by lia) (by lia)) (zEL hb (a3 0 i (by lia) hi))
    refine su hr (vM hp 0 m) (by lia) (λ i j hij hj=>?_) k;rw[nW hsz pV,nW hsz pV];by_cases hjm:j<m
    .rw[pV i (by lia) (by lia),pV j (by lia) hjm];exact zCp _
    .have hj':j=m:=by lia
     subst hj';by_cases hi:i=j
     .rw[hi];exact zCp _
     .rw[pV i (by lia) (by lia)];exact zFA hl
  .rw[if_neg hg]
   have hm1:m=1:=by lia
   subst hm1;refine su hr hp (by lia) (λ i j hij hj=>?_) k;by_cases hi:i=j
   .rw[hi];exact zCp _
   .have e1:i=0:=by lia
    have e2:j=1:=by lia
    subst e1 e2;exact zFA hl
theorem uh(hp:Pm n p)(hc:c<n)(hu:Up kz p c):∀(f l r:Nat),l<=r->r<=c->r-l<=f->(∀i,i<l->O.kle (Kp kz p i) (Kp kz p c))->(∀i,r<=i->i<c->O.klt (Kp kz p c) (Kp kz p i))->
  (∀l',l'<=c->(∀i,i<l'->O.kle (Kp kz p i) (Kp kz p c))->(∀i,l'<=i->i<c->O.klt (Kp kz p c) (Kp kz p i))->Q l')->Wr kz n (zGw p c f l r) Q
 |0,l,r,a1,a2,a3,a4,a5,k=>by
  have e:l=r:=by lia
  subst e;exact k l a2 a4 a5
 |f+1,l,r,a1,a2,a3,a4,a5,k=>by
  unfold zGw;by_cases hg:l ≥ r
  .rw[if_pos hg]
   have e:l=r:=by lia
   subst e;exact k l a2 a4 a5
  .rw[if_neg hg]
   refine⟨hp.in hc,hp.in (by lia),?_⟩;have hx:O.blt (kz (p.getD c 0)) (kz (p.getD ((l+r) / 2) 0))=O.blt (Kp kz p c) (Kp kz p ((l+r) / 2)):=rfl;rw[hx];cases hb:O.blt (Kp kz p c) (Kp kz p ((l+r) / 2))with
   |true=>exact uh hp hc hu f l ((l+r) / 2) (by lia) (by lia) (by lia) a4 (λ i u v=>KeyOrd.klt_of_klt_of_kle hb (hu _ _ u v)) k
   |false=>exact uh hp hc hu f ((l+r) / 2+1) r (by lia) a2 (by lia) (λ i u=>zEL (hu i ((l+r) / 2) (by lia) (by lia)) hb) a5 k
theorem aFC:∀(f:Nat) (p:Array Nat) (c:Nat),Pm n p->c+f=n->Up kz p c->(∀p',Pm n p'->Up kz p' n->Q p')->Wr kz n (PySem.W.kas_bin f p c) Q
 |0,p,c,hp,hc,hu,k=>k p hp (by rw[show n=c by lia];exact hu)
 |f+1,p,c,hp,hc,hu,k=>by
  refine Wr.bindI (uh hp (by lia) hu c 0 c (by lia) (zAS c) (by lia) (λ i u=>by lia) (λ i u v=>by lia) λ l a1 a2 a3=>?_);refine aFC f _ (c+1) ((bubble_perm _ _ _).trans hp) (by lia) (λ i j hij hj=>?_) k;have hs:c<p.size:=by rw[hp.sz];lia
  rw[aGb hs (by lia),aGb hs (by lia),show c-(c-l)=l by lia]
  repeat' split
  all_goals first
   |(exfalso;lia)
   |exact O.irrefl _
   |exact a2 _ (by lia)
   |exact KeyOrd.klt_asymm (a3 _ (by lia) (by lia))
   |exact hu _ _ (by lia) (by lia)
def aHg(h1:1<=n)(k:∀p,Pm n p->Up kz p n->Q p):Wr kz n (PySem.W.kas_sort n) Q:=by
 refine Wr.bindI (aFB (zAS n) (zGf _) h1 λ m p a1 a2 a3 a4=>?_);dsimp only;by_cases hm:m<n
 .rw[if_pos hm]
  exact aFC _ p _ a1 (by lia) (by rw[show max m 1=m by lia];exact a4) k
 .rw[if_neg hm]
  exact k p a1 (by rw[show n=m by lia];exact a4)
theorem aAZ{I:zAF->Prop}(hc:∀i j (C:Bool->zAF->Prop) s,I s->i<n->j<n->(∀s',I s'->C (O.blt (kz i) (kz j)) s')->cmp i j C s):
  ∀(t:zGT α) (s:zAF),I s->Wr kz n t (λ a=>∀s',I s'->Q a s')->t.kasWp cmp Q s
 | .ret a,s,hI,h=>h s hI
 | .ask i j k,s,hI,⟨h1,h2,h3⟩=>hc i j _ s hI h1 h2 λ s' hI'=>aAZ hc _ s' hI' h3
end
theorem zm:∀a:List Int,HT.lexLt a a=false
 |[]=>rfl
 |x::a=>by rw[HT.jG,if_pos rfl];exact zm a
theorem qH:∀a b c:List Int,HT.lexLt a b=true->HT.lexLt b c=true->HT.lexLt a c=true
 |[],[],c,h,_=>by cases h
 |[],_::_,[],_,h=>by cases h
 |[],_::_,_::_,_,_=>rfl
 |_::_,[],_,h,_=>by cases h
 |_::_,_::_,[],_,h=>by cases h
 |x::a,y::b,z::c,h1,h2=>by
  rw[HT.jG]at h1 h2 ⊢;by_cases e1:x=y
  .subst e1
   rw[if_pos rfl]at h1;by_cases e2:x=z
   .rw[if_pos e2]at h2 ⊢
    exact qH a b c h1 h2
   .rw[if_neg e2]at h2 ⊢
    exact h2
  .rw[if_neg e1]at h1
   simp only[decide_eq_true_eq]at h1;by_cases e2:y=z
   .subst e2
    rw[if_neg e1];simpa using h1
   .rw[if_neg e2]at h2
    simp only[decide_eq_true_eq]at h2;rw[if_neg (by lia)];simp only[decide_eq_true_eq];lia
theorem vf:∀a b:List Int,HT.lexLt a b=false->HT.lexLt b a=false->a=b
 |[],[],_,_=>rfl
 |[],_::_,h,_=>by cases h
 |_::_,[],_,h=>by cases h
 |x::a,y::b,h1,h2=>by
  rw[HT.jG]at h1 h2;by_cases e:x=y
  .subst e
   rw[if_pos rfl]at h1 h2;rw[vf a b h1 h2]
  .rw[if_neg e]at h1
   rw[if_neg λ q=>e q.symm]at h2;simp only[decide_eq_false_iff_not]at h1 h2;lia
def aG2(a b c:List Int)(h:HT.lexLt a c=true):HT.lexLt a b=true\/HT.lexLt b c=true:=by
 cases e1:HT.lexLt a b with
 |true=>exact .inl rfl
 |false=>
  right;cases e2:HT.lexLt b a with
  |true=>exact qH b a c e2 h
  |false=>rw[<-vf a b e1 e2];exact h
def aCZ:zCN:=⟨List Int,HT.lexLt,zm,qH,aG2,vf⟩
inductive bH(h:Heap):List Value->List (List Int)->Prop where
 |nil:bH h [] []
 |cons {x:Addr} {o:Obj} {xs:Array Value} {k:Nat} {ns:List Int} {vs:List Value} {nss:gV} (ho:h.get? x=some o) (hc:o.cls= .type "tuple") (hd:o.data= .seq xs k) (hi:zBH xs.toList ns) (hne:ns≠[]) (r:bH h vs nss):bH h (.ref x::vs) (ns::nss)
theorem bH.mono(k:∀x o,h.get? x=some o->o.cls= .type "tuple"->h'.get? x=some o):∀{vs:List Value} {nss:gV},bH h vs nss->bH h' vs nss
 |_,_,.nil=>.nil
 |_,_,.cons ho hc hd hi hne r=>.cons (k _ _ ho hc) hc hd hi hne (bH.mono k r)
theorem bH.len:∀{vs:List Value} {nss:gV},bH h vs nss->vs.length=nss.length
 |_,_,.nil=>rfl
 |_,_,.cons _ _ _ _ _ r=>by rw[zAk,zAk,r.len]
theorem bH.at:∀{vs:List Value} {nss:gV} {i:Nat},bH h vs nss->i<vs.length->∃x o xs k,vs.getD i zBB= .ref x/\h.get? x=some o/\o.cls= .type "tuple"/\o.data= .seq xs k/\zBH xs.toList (nss.getD i [])/\nss.getD i []≠[]
 |_,_,_,.nil,hi=>by simp at hi
 |_,_,0,.cons ho hc hd hi hne _,_=>⟨_,_,_,_,rfl,ho,hc,hd,hi,hne⟩
 |_,_,i+1,.cons _ _ _ _ _ r,hi=>by
  obtain⟨x,o,xs,k,q⟩:=bH.at (i:=i) r (by simpa using hi);exact⟨x,o,xs,k,by simpa using q⟩
theorem bH.firsts:∀{vs:List Value} {nss:gV},bH h vs nss->∃fs,PySem.W.KatTups h vs fs/\fs.length=vs.length/\∀f∈fs,∃n t,f=zEF n t
 |_,_,.nil=>⟨[],.nil,rfl,λ f hf=>by simp at hf⟩
 |_,_,.cons (xs:=xs) ho hc hd hi hne r=>by
  obtain⟨fs,h1,h2,h3⟩:=bH.firsts r;obtain⟨l,rfl⟩:∃l:List Value,xs=l.toArray:=⟨xs.toList,by simp⟩
  rw[show l.toArray.toList=l by simp]at hi;cases hi with
  |nil=>exact absurd rfl hne
  |cons n t q=>
   rename_i l' ns';refine⟨.int n t::fs,.cons ho hc hd (by simp) h1,by simp[h2],λ f hf=>?_⟩;rcases zAT.mp hf with rfl|hf
   .exact⟨n,t,rfl⟩
   .exact h3 f hf
section
variable{prog:zAV}{w:World}{A:zAc}{E:Value->zAF->Prop}{s:zAF}
def aBT:∀{xs ys:List Value} {ns ms:List Int} (i:Nat),zBH xs ns->zBH ys ms->fin=decide (xs.length<ys.length)->Q (HT.lexLt ns ms) s->PySem.W.KatLex prog w A b fin Q (xs.zip ys) i s:=by
 intro xs ys ns ms i hx;induction hx generalizing ys ms i with
 |nil=>intro hy hf q;cases hy<;>(subst hf;exact q)
 |@cons x t xs ns r ih=>
  intro hy hf q;cases hy with
  |nil=>subst hf;exact q
  |@cons y u ys ms r'=>?_
  rw[zAu];refine PySem.W.kat_cons (wpAny_eqBool_int ?_);rw[HT.jG]at q;by_cases e:x=y
  .rw[if_pos e]at q
   rw[show(x==y)=true by simpa using e];exact PySem.W.kat_yes (ih (i+1) r' (by rw[hf];simp) q)
  .rw[if_neg e]at q
   rw[show(x==y)=false by simpa using e];refine PySem.W.kat_no ?_;cases hb:(b&&i==0)with
   |true=>exact oneLt_int q
   |false=>exact PySem.W.kat_one _ _ (zFr q)
def aC5(hx:s.heap.get? x=some ox)(dx:ox.data= .seq xs n)(hy:s.heap.get? y=some oy)(dy:oy.data= .seq ys k)(hi:zBH xs.toList ns)(hj:zBH ys.toList ms)
  (q:Q (HT.lexLt ns ms) s):wpAny (model prog w) A (keyLt' (tuples' b) (.ref x) (.ref y)) Q E s:=
 PySem.W.kat_lt hx dx hy dy (aBT 0 hi hj (by simp) q)
def nq(vs:List Value)(p:Array Nat):Array Value:=(p.toList.map λ i=>vs.getD i zBB).toArray
def aHe(h:vs.length<2):(vs.toArray.zip vs.toArray).map (·.2)=nq vs (zAm vs.length).toArray:=by
 cases vs with
 |nil=>simp[nq]
 |cons v t=>
  cases t with
  |nil=>simp[nq]
  |cons u t=>exact absurd h (zG1.mpr (Nat.le_add_left 2 t.length))
def aCY(ho:s.heap.get? a=some (zB9 "list" vs.toArray c))(ht:bH s.heap vs nss)(h64:vs.length<64)
  (h:∀p:Array Nat,Pm vs.length p->Up (O:=aCZ) (λ i=>nss.getD i []) p vs.length->P (.done (.ret .none)) {s with heap:=zGG s.heap a vs (nq vs p)}):
  wpAny (model prog w) A (zCy.«list.sort» ⟨[.ref a],[]⟩) P E s:=by
 have hlt:a<s.heap.objs.size:=zAR ho;have hz:vs.length<=zAQ:=by rw[zBe];lia
 obtain⟨e1,ho1⟩:∃e1,(s.heap.update a (zBw λ _=>(#[]:Array Value))).get? a=some (zB9 "list" #[] e1):=⟨_,zDI ho λ _=>#[]⟩
 have keep:∀x o,s.heap.get? x=some o->o.cls= .type "tuple"->(((s.heap.update a (zBw λ _=>(#[]:Array Value))).push (zB9 "tuple" vs.toArray 0)).push (zB9 "list" #[] 0)).get? x=some o:=λ x o e q=>by
  have hxa:x≠a:=λ z=>by
   subst z;rw[ho]at e;cases e;exact absurd q (show¬(zBn "list"=zBn "tuple")by decide)
  refine zAC _ (zAC _ ?_);rw[zBz _ _ _ _ hxa];exact e
 have ho6:(((s.heap.update a (zBw λ _=>(#[]:Array Value))).push (zB9 "tuple" vs.toArray 0)).push (zB9 "list" #[] 0)).get? a=some (zB9 "list" #[] e1):=zAC _ (zAC _ ho1);have ht6:=ht.mono keep;rw[list_sort_plain];refine zAB (zIK ho rfl (zAB (zFh ho rfl ?_ (by rw[zAX];exact hz) (zAf _))));refine zAB (zI0 ho1 rfl (zAB (wpAny_newTuple ?_ (by show vs.length<=_;exact hz))));refine zAB (zFk (zBT ?_) (zAf _));show wpAny (model prog w) A _ P E {s with heap:=((s.heap.update a (zBw λ _=>(#[]:Array Value))).push (zB9 "tuple" vs.toArray 0)).push (zB9 "list" #[] 0)};dsimp only;have hsz:∀p:Array Nat,Pm vs.length p->(nq vs p).size=vs.length:=λ p a1=>by unfold nq;rw[zAX,zAE,zA4,a1.sz]
 by_cases h2:vs.toArray.size<2
 .rw[if_pos h2,if_pos h2]
  refine zAB (zAG ?_);rw[StateT.run_pure];refine zAB (zAG ?_);have h2':vs.length<2:=by simpa using h2
  have a1:Pm vs.length (zAm vs.length).toArray:=zGf _;have a3:=aHe h2';dsimp only;refine zAB (zI0 ho6 rfl ?_);show wpAny (model prog w) A (Builtin.List.listUpdate (.ref a) (λ _=>(vs.toArray.zip vs.toArray).map (·.2))>>=_) P E _;rw[a3];refine zAB (zFh ho6 rfl ?_ (zAf _) (by show(nq vs _).size<=_;rw[hsz _ a1];lia));simp only[bne_self_eq_false,zAZ,if_false];exact zAG (h _ a1 λ i j hij hj=>by rw[show i=j by lia];exact zm _)
 .rw[if_neg h2,if_neg h2]
  have h2':2<=vs.length:=zIQ (show¬vs.length<2 by simpa using h2);obtain⟨fs,f1,f2,f3⟩:=ht6.firsts;refine zAB (PySem.W.kat_kind (T:=.type "int") f1 (by lia) (λ v hv=>?_) (by decide) ?_)
  .obtain⟨n,t,rfl⟩:=f3 v hv
   exact zIn
  rw[show(zBn "int" !=zBn "tuple")=true by decide];refine zAB (zBX (PySem.W.kat_run (κ:=tuples' true) (ks:=vs) (vs:=vs) (Q:=λ st s'=>s'={s with heap:=((s.heap.update a (zBw λ _=>(#[]:Array Value))).push (zB9 "tuple" vs.toArray 0)).push (zB9 "list" #[] 0)}/\∃p:Array Nat,Pm vs.length p/\Up (O:=aCZ) (λ i=>nss.getD i []) p vs.length/\(arrOf st).map (·.2)=nq vs p/\zG3 st=none)
   (G:=λ p s'=>s'={s with heap:=((s.heap.update a (zBw λ _=>(#[]:Array Value))).push (zB9 "tuple" vs.toArray 0)).push (zB9 "list" #[] 0)}/\Pm vs.length p/\Up (O:=aCZ) (λ i=>nss.getD i []) p vs.length)
   rfl h2' h64 (λ p st s' _ b2 b3 b4=>⟨b4.1,p,b4.2.1,b4.2.2,PySem.W.kat_snds rfl b2,b3⟩) ?_) (λ r s' hr=>?_) λ _ _ e=>e)
  .refine aAZ (O:=aCZ) (kz:=λ i=>nss.getD i []) (n:=vs.length) (I:=λ s'=>s'={s with heap:=((s.heap.update a (zBw λ _=>(#[]:Array Value))).push (zB9 "tuple" vs.toArray 0)).push (zB9 "list" #[] 0)}) (λ i j C s' hI hi hj hC=>?_) _ _ rfl (aHg (by lia) λ p a1 a2 s' hs'=>⟨hs',a1,a2⟩)
   subst hI;unfold PySem.W.kas_ask;obtain⟨x,ox,xs,kx,x1,x2,_,x4,x5,_⟩:=ht6.at hi;obtain⟨y,oy,ys,ky,y1,y2,_,y4,y5,_⟩:=ht6.at hj;rw[x1,y1];exact aC5 x2 x4 y2 y4 x5 y5 (hC _ rfl)
  .obtain⟨⟨⟩,st⟩:=r
   obtain⟨e,p,b1,b2,b3,b4⟩:=hr;subst e;refine zAB (zI0 ho6 rfl ?_);rw[b3,b4];refine zAB (zFh ho6 rfl ?_ (zAf _) (by show(nq vs p).size<=_;rw[hsz p b1];lia));simp only[bne_self_eq_false,zAZ,if_false];exact zAG (h p b1 b2)
end
theorem sub_len[BEq α][LawfulBEq α]:∀{l l':List α},l.Nodup->(∀x∈l,x∈l')->l.length<=l'.length
 |[],_,_,_=>zAf _
 |x::l,l',nd,h=>by
  have hx:x∈l':=h x zAK;have ih:=sub_len (l:=l) (l':=l'.erase x) (zAw.mp nd).2 λ y hy=>(List.mem_erase_of_ne λ e=>by subst e;exact(zAw.mp nd).1 hy).mpr (h y (zAL _ hy))
  rw[List.length_erase_of_mem hx]at ih
  have:0<l'.length:=List.length_pos_of_mem hx
  rw[zAk];lia
def Ris(xs:Array Nat):Prop:=∀i j,i<j->j<xs.size->xs.getD i 0<xs.getD j 0
theorem aAQ(hr:Ris xs):∀(f lo hi:Nat),lo<=hi->hi<=xs.size->hi-lo<=f->(∀i,i<lo->xs.getD i 0<j)->(∀i,hi<=i->i<xs.size->j<=xs.getD i 0)->
  zD1 xs j f lo hi<=xs.size/\(∀i,i<zD1 xs j f lo hi->xs.getD i 0<j)/\∀i,zD1 xs j f lo hi<=i->i<xs.size->j<=xs.getD i 0
 |0,lo,hi,h1,h2,h3,h4,h5=>by
  have e:lo=hi:=by lia
  subst e;exact⟨h2,h4,h5⟩
 |f+1,lo,hi,h1,h2,h3,h4,h5=>by
  unfold zD1;by_cases hl:lo<hi
  .rw[if_pos hl]
   dsimp only;have hm:(lo+hi) / 2<xs.size:=by lia
   have e:xs.getD ((lo+hi) / 2) j=xs.getD ((lo+hi) / 2) 0:=by simp[zCH,hm]
   rw[e];by_cases hc:xs.getD ((lo+hi) / 2) 0<j
   .rw[if_pos hc]
    refine aAQ hr f _ hi (by lia) h2 (by lia) (λ i hi'=>?_) h5;by_cases q:i=(lo+hi) / 2
    .rw[q];exact hc
    .exact zDX (hr i ((lo+hi) / 2) (by lia) hm) hc
   .rw[if_neg hc]
    refine aAQ hr f lo _ (by lia) (by lia) (by lia) h4 λ i q1 q2=>?_
    by_cases q:i=(lo+hi) / 2
    .rw[q];lia
    .have:=hr ((lo+hi) / 2) i (by lia) q2
     lia
  .rw[if_neg hl]
   have e:lo=hi:=by lia
   subst e;exact⟨h2,h4,h5⟩
def qi(hr:Ris xs)(j:Nat):zAl xs j<=xs.size/\(∀i,i<zAl xs j->xs.getD i 0<j)/\∀i,zAl xs j<=i->i<xs.size->j<=xs.getD i 0:=
 aAQ hr xs.size 0 xs.size (zAf _) (zAS _) (by lia) (λ i h=>by lia) λ i h1 h2=>by lia
structure dG(t:zCK)(n:Nat):Prop where
 dum:t.dummies=#[]
 siz:t.place.size=n
 ris:Ris t.place
 top:∀i,i<n->t.place.getD i 0<=t.mask
 msk:t.mask=7/\n<5\/t.mask=31/\n<19\/t.mask=127/\n<77
 pla:t.plain=true
def dG.fresh(led:Bool):dG (zH4 0 0 led) 0:=⟨rfl,rfl,λ i j _ h=>by simp[zH4]at h,λ i h=>by lia,.inl ⟨rfl,by lia⟩,rfl⟩
def dG.few(h:dG t n):n<t.mask:=by
 rcases h.msk with ⟨e,l⟩|⟨e,l⟩|⟨e,l⟩<;>lia
theorem dG.fill(h:dG t n):t.fill=n:=by unfold zHl;rw[h.dum,h.siz];rfl
theorem dG.fits(h:dG t n):t.fits n=true:=by
 unfold zHm;rw[h.fill,h.siz]
 have:=h.few
 simp;lia
def pW(h:dG t n)(j:Nat):t.slot j= .empty\/∃i,i<n/\t.slot j= .live i/\t.place.getD i 0=j:=by
 unfold zHo;dsimp only;by_cases e:(t.place[zAl t.place j]? ==some j)=true
 .rw[if_pos e]
  have e':=beq_iff_eq.mp e;obtain⟨h1,h2⟩:=zBa.mp e';exact .inr ⟨_,by rw[<-h.siz];exact h1,rfl,by simp[zCH,h1,h2]⟩
 .rw[if_neg e]
  have:zES t.dummies j=false:=by rw[h.dum];unfold zES;simp
  rw[this];exact .inl (by simp)
def aAb(h:dG t n)(e:t.slot j= .empty):∀i,i<n->t.place.getD i 0≠j:=by
 intro i hi q;obtain⟨b1,b2,b3⟩:=qi h.ris j;have hb:zAl t.place j=i:=by
  rcases zFQ (zAl t.place j) i with z|z|z
  .have z1:=b3 _ (zAS _) (by rw[h.siz];lia)
   have z2:=h.ris _ i z (by rw[h.siz];exact hi);lia
  .exact z
  .have:=b2 i z
   lia
 have hi':i<t.place.size:=by rw[h.siz];exact hi
 have e2:t.place[i]? =some j:=by rw[zBa];exact⟨hi',by rw[<-q];simp[zCH,hi']⟩
 unfold zHo at e;dsimp only at e;rw[hb,e2]at e;simp at e
def mF(mask:Nat):Nat->Nat×Nat->Nat×Nat
 |0,st=>st
 |k+1,st=>mF mask k (zAp mask st.1 st.2)
theorem aBJ(mask:Nat):∀(k:Nat) (st:Nat×Nat),(mF mask k st).2=st.2 / 32^k
 |0,st=>by simp[mF]
 |k+1,st=>by
  show(mF mask k (zAp mask st.1 st.2)).2=_
  rw[aBJ mask k];show st.2 / 32 / 32^k=_;rw[Nat.div_div_eq_div_mul,Nat.pow_succ,Nat.mul_comm]
theorem aBM(mask:Nat):∀(j k:Nat) (st:Nat×Nat),mF mask (j+k) st=mF mask k (mF mask j st)
 |0,k,st=>by rw[zF7];rfl
 |j+1,k,st=>by
  rw[show j+1+k=(j+k)+1 by lia];exact aBM mask j k _
def orb(M:Nat):Nat->Nat->Nat
 |0,i=>i
 |k+1,i=>orb M k ((i*5+1)%M)
theorem uY(M:Nat):∀(j k i:Nat),orb M (j+k) i=orb M k (orb M j i)
 |0,k,i=>by rw[zF7];rfl
 |j+1,k,i=>by
  rw[show j+1+k=(j+k)+1 by lia];exact uY M j k _
theorem aBK(mask:Nat):∀(k i:Nat),mF mask k (i,0)=(orb (mask+1) k i,0)
 |0,i=>rfl
 |k+1,i=>by
  show mF mask k (zAp mask i 0)=_
  have:zAp mask i 0=((i*5+1)%(mask+1),0):=by simp[zAp]
  rw[this];exact aBK mask k _
def aE2:∀M∈[8,32,128],(∀t∈zAm M,∃k∈zAm M,orb M k 0=t)/\orb M M 0=0:=by decide+kernel
def aI3(hm:mask=7\/mask=31\/mask=127)(hi:i<=mask)(ht:t<=mask):∃k,k<=mask/\orb (mask+1) k i=t:=by
 have hM:mask+1∈[8,32,128]:=by rcases hm with e|e|e<;>subst e<;>decide
 obtain⟨h1,h2⟩:=aE2 _ hM;obtain⟨a,ha,ea⟩:=h1 i (by simp;lia);obtain⟨b,hb,eb⟩:=h1 t (by simp;lia);simp only[zBj]at ha hb;by_cases hab:a<=b
 .refine⟨b-a,by lia,?_⟩
  rw[<-ea,<-uY,show a+(b-a)=b by lia,eb]
 .refine⟨mask+1-a+b,by lia,?_⟩
  rw[<-ea,<-uY,show a+(mask+1-a+b)=(mask+1)+b by lia,uY,h2,eb]
def aJW(h:Int):zAr h<2^64:=by
 unfold zAr;have h1:=zDk h (show(2^64:Int)≠0 by decide);have h2:=zCz h (show(0:Int)<2^64 by decide);lia
def aBL(hm:mask=7\/mask=31\/mask=127)(h:Int)(ht:t<=mask)(yT:Nat):∃k,k<mask+15/\(mF mask k (yT,zAr h)).1=t:=by
 have e1:(mF mask 13 (yT,zAr h)).2=0:=by
  rw[aBJ]
  have:=aJW h
  exact Nat.div_eq_of_lt (zDX this (by decide))
 have e2:(mF mask 13 (yT,zAr h)).1<=mask:=by
  show(mF mask 12 (zAp mask yT (zAr h))).1<=mask
  have go:∀k (st:Nat×Nat),st.1<=mask->(mF mask k st).1<=mask:=by
   intro k;induction k with
   |zero=>intro st q;exact q
   |succ k ih=>
    intro st q;refine ih _ ?_
    show(st.1*5+1+st.2 / 32)%(mask+1)<=mask
    exact zBv (zDG _ (zCq _))
  refine go 12 _ ?_
  show(yT*5+1+zAr h / 32)%(mask+1)<=mask
  exact zBv (zDG _ (zCq _))
 obtain⟨k,hk,ek⟩:=aI3 hm e2 ht;refine⟨13+k,by lia,?_⟩;rw[aBM];have e3:mF mask 13 (yT,zAr h)=((mF mask 13 (yT,zAr h)).1,0):=by rw[<-e1]
 rw[e3,aBK];exact ek
def rN(hi:i<=mask):i<=zAh mask i/\zAh mask i<=mask/\zAh mask i<=i+9:=by
 unfold zAh;split<;>lia
section
variable{t:zCK}{n:Nat}{hashAt:Nat->Int}{h:Int}
abbrev aDE(t:zCK)(i pert:Nat):zBr:={j:=i,more:=zAh t.mask i-i,i:=i,perturb:=pert,dummy:=none}
def wK(fuel:Nat)(p:zBr):zB6 t hashAt h (fuel+1) p=(match t.slot p.j with
  | .empty=>some (.empty p.j p.dummy)
  | .dummy=>zB6 t hashAt h fuel (t.advance {p with dummy:=some p.j})
  | .live i=>if hashAt i==h then some (.candidate p.j i (t.advance p))else zB6 t hashAt h fuel (t.advance p)):=rfl
theorem aGy(T:dG t n)(hh:∀i,i<n->hashAt i≠h):∀(m fuel:Nat) (p:zBr),p.more=m->p.dummy=none->
  (∃j,p.j<=j/\j<=p.j+m/\t.slot j= .empty/\zB6 t hashAt h (fuel+m+1) p=some (.empty j none))\/
  (t.slot p.j≠.empty/\zB6 t hashAt h (fuel+m+1) p=zB6 t hashAt h fuel (aDE t (zAp t.mask p.i p.perturb).1 (zAp t.mask p.i p.perturb).2))
 |0,fuel,p,hm,hd=>by
  rw[show fuel+0+1=fuel+1 from rfl,wK];rcases pW T p.j with e|⟨i,hi,e,_⟩
  .rw[e]
   exact .inl ⟨p.j,zAS _,zAS _,e,by rw[hd]⟩
  .rw[e]
   right;refine⟨by simp,?_⟩;dsimp only;rw[if_neg (by simpa using hh i hi)];congr 1;unfold zGy;rw[if_neg (by lia)];simp[aDE,hd]
 |m+1,fuel,p,hm,hd=>by
  rw[wK];rcases pW T p.j with e|⟨i,hi,e,_⟩
  .rw[e]
   exact .inl ⟨p.j,zAS _,by lia,e,by rw[hd]⟩
  .rw[e]
   dsimp only;rw[if_neg (by simpa using hh i hi)];have ha:t.advance p={p with j:=p.j+1,more:=p.more-1}:=by
    unfold zGy;rw[if_pos (by lia)]
   rw[ha];rcases aGy T hh m fuel {p with j:=p.j+1,more:=p.more-1} (by show p.more-1=m;lia) hd with ⟨j,q1,q2,q3,q4⟩|⟨q1,q2⟩
   .exact .inl ⟨j,by show p.j<=j;have:p.j+1<=j:=q1;lia,by have:j<=p.j+1+m:=q2;lia,q3,q4⟩
   .exact .inr ⟨by simp,q2⟩
theorem aDd(T:dG t n)(hh:∀i,i<n->hashAt i≠h):∀(N fuel i pert:Nat),i<=t.mask->10*N<=fuel->
  (∃j,j<=t.mask/\t.slot j= .empty/\zB6 t hashAt h fuel (aDE t i pert)=some (.empty j none))\/∀k,k<N->t.slot (mF t.mask k (i,pert)).1≠.empty
 |0,fuel,i,pert,hi,hf=>.inr λ k hk=>by lia
 |N+1,fuel,i,pert,hi,hf=>by
  obtain⟨r1,r2,r3⟩:=rN hi;obtain⟨f',rfl⟩:∃f',fuel=f'+(zAh t.mask i-i)+1:=⟨fuel-(zAh t.mask i-i)-1,by lia⟩
  rcases aGy T hh (zAh t.mask i-i) f' (aDE t i pert) rfl rfl with ⟨j,q1,q2,q3,q4⟩|⟨q1,q2⟩
  .exact .inl ⟨j,by have:j<=i+(zAh t.mask i-i):=q2;lia,q3,q4⟩
  .have hl:(zAp t.mask i pert).1<=t.mask:=zBv (zDG _ (zCq _))
   rcases aDd T hh N f' _ (zAp t.mask i pert).2 hl (by lia)with ⟨j,s1,s2,s3⟩|s
   .exact .inl ⟨j,s1,s2,q2.trans s3⟩
   .right
    intro k hk;cases k with
    |zero=>exact q1
    |succ k=>exact s k (by lia)
def dG.mask3(T:dG t n):t.mask=7\/t.mask=31\/t.mask=127:=by
 rcases T.msk with ⟨e,_⟩|⟨e,_⟩|⟨e,_⟩
 .exact .inl e
 .exact .inr (.inl e)
 .exact .inr (.inr e)
def aCO(T:dG t n)(hh:∀i,i<n->hashAt i≠h):∃j,j<=t.mask/\t.slot j= .empty/\t.probe hashAt h (t.probeStart h)=some (.empty j none):=by
 have hs:zAr h%(t.mask+1)<=t.mask:=zBv (zDG _ (zCq _));rcases aDd T hh (t.mask+15) (10*zBF t.mask) _ (zAr h) hs (by unfold zBF;lia)with z|z
 .exact z
 .exfalso
  have pV:∀x∈zAm (t.mask+1),x∈t.place.toList:=by
   intro x hx;simp only[zBj]at hx;obtain⟨k,hk,ek⟩:=aBL T.mask3 h (t:=x) (by lia) (zAr h%(t.mask+1))
   have:=z k hk
   rw[ek]at this;rcases pW T x with e|⟨i,hi,_,e⟩
   .exact absurd e this
   .rw[<-e]
    have hi':i<t.place.size:=by rw[T.siz];exact hi
    rw[show t.place.getD i 0=t.place[i]by simp[zCH,hi']];exact zGI hi'
  have:=sub_len zHy pV
  have h2:=T.few;rw[zEJ,zA4,T.siz]at this;lia
end
def u9(xs:Array α)(p:Nat)(x d:α)(hp:p<=xs.size)(i:Nat):(zBM xs p x).getD i d=if i<p then xs.getD i d else if i=p then x else xs.getD (i-1) d:=by
 have e:∀(ys:Array α) i,ys.getD i d=(ys.toList[i]?).getD d:=λ ys i=>by rw[zBS,zAi]
 rw[e,e,e,zDt];have hl:p<=xs.toList.length:=by simpa using hp
 by_cases h1:i<p
 .rw[if_pos h1,zB1 (by rw[zDZ];lia),List.getElem?_take,if_pos h1]
 .rw[if_neg h1,zCd (by rw[zDZ];lia),zDZ,Nat.min_eq_left hl]
  by_cases h2:i=p
  .rw[if_pos h2,h2,Nat.sub_self]
   rfl
  .rw[if_neg h2,show i-p=(i-p-1)+1 by lia,zEP,List.getElem?_drop]
   congr 2;lia
def wG(xs:Array α)(p:Nat)(x:α):(zBM xs p x).size=xs.size+1:=by
 rw[<-zA4,(zGC xs p x).length_eq,zFE];simp
def sy{t:zCK}(hf:t.fill=n):t.tooFull=decide (t.mask*3<=n*5):=by unfold SetTable.tooFull;rw[hf]
structure oZ(t:zCK)(n:Nat):Prop where
 dum:t.dummies=#[]
 siz:t.place.size=n
 ris:Ris t.place
 top:∀i,i<n->t.place.getD i 0<=t.mask
 msk:t.mask=7/\n<=5\/t.mask=31/\n<=19\/t.mask=127/\n<77
 pla:t.plain=true
theorem oZ.fill(h:oZ t n):t.fill=n:=by unfold zHl;rw[h.dum,h.siz];rfl
theorem oZ.fits(h:oZ t n):t.fits n=true:=by
 unfold zHm;rw[h.fill,h.siz]
 have:=h.msk
 simp;lia
def aKg(T:dG t n)(h64:n<76)(hj:j<=t.mask)(he:t.slot j= .empty):oZ (t.put j).1 (n+1)/\(t.put j).2=zAl t.place j/\(t.put j).2<=n/\(t.put j).1.mask=t.mask/\(t.put j).1.led=t.led:=by
 have hno:=aAb T he;obtain⟨b1,b2,b3⟩:=qi T.ris j;have hsz:=T.siz;have hg:=u9 t.place (zAl t.place j) j 0 b1;refine⟨⟨?_,?_,?_,?_,?_,T.pla⟩,rfl,by rw[<-hsz];exact b1,rfl,rfl⟩
 .show(if zES t.dummies j then SetTable.eraseAt t.dummies (zAl t.dummies j)else t.dummies)=#[]
  rw[T.dum]
  have:zES #[] j=false:=by unfold zES;simp
  rw[this];rfl
 .show(zBM t.place _ j).size=n+1
  rw[wG,hsz]
 .intro a b hab hb
  have hb':b<n+1:=by
   have:b<(zBM t.place (zAl t.place j) j).size:=hb
   rw[wG,hsz]at this;exact this
  show(zBM t.place (zAl t.place j) j).getD a 0<(zBM t.place (zAl t.place j) j).getD b 0
  rw[hg,hg];by_cases a1:a<zAl t.place j
  .rw[if_pos a1]
   by_cases c1:b<zAl t.place j
   .rw[if_pos c1];exact T.ris a b hab (by lia)
   .rw[if_neg c1]
    by_cases c2:b=zAl t.place j
    .rw[if_pos c2];exact b2 a a1
    .rw[if_neg c2]
     exact T.ris a (b-1) (by lia) (by lia)
  .rw[if_neg a1,if_neg (show¬b<zAl t.place j by lia),if_neg (show¬b=zAl t.place j by lia)]
   by_cases a2:a=zAl t.place j
   .rw[if_pos a2]
    have q1:=b3 (b-1) (by lia) (by lia);have q2:=hno (b-1) (by lia);lia
   .rw[if_neg a2]
    exact T.ris (a-1) (b-1) (by lia) (by lia)
 .intro i hi
  show(zBM t.place (zAl t.place j) j).getD i 0<=t.mask
  rw[hg];split
  .exact T.top i (by lia)
  .split
   .exact hj
   .exact T.top (i-1) (by lia)
 .have:=T.msk
  show t.mask=7/\n+1<=5\/t.mask=31/\n+1<=19\/t.mask=127/\n+1<77;lia
def oZ.still{t:zCK}(h:oZ t n)(hf:t.tooFull=false):dG t n:=by
 rw[sy h.fill]at hf;simp only[decide_eq_false_iff_not]at hf;refine⟨h.dum,h.siz,h.ris,h.top,?_,h.pla⟩;rcases h.msk with ⟨e,l⟩|⟨e,l⟩|⟨e,l⟩<;>rw[e]at hf
 .exact .inl ⟨e,by lia⟩
 .exact .inr (.inl ⟨e,by lia⟩)
 .exact .inr (.inr ⟨e,by lia⟩)
def oZ.full{t:zCK}(h:oZ t n)(h64:n<=76)(hf:t.tooFull=true):n=5\/n=19:=by
 rw[sy h.fill]at hf;simp only[decide_eq_true_eq]at hf
 have:=h.msk
 lia
def heldBy(owner:Array (Option Nat)):List Nat:=owner.toList.filterMap id
theorem wJ:∀(l:kQ) (j x:Nat),l[j]? =some none->((l.set j (some x)).filterMap id).Perm (x::l.filterMap id)
 |[],j,x,h=>by simp at h
 |a::l,0,x,h=>by
  simp at h;subst h;exact zBK _
 |none::l,j+1,x,h=>by
  have ih:=wJ l j x (by simpa using h);simpa using ih
 |some a::l,j+1,x,h=>by
  have ih:=wJ l j x (by simpa using h)
  have:(((some a::l).set (j+1) (some x)).filterMap id).Perm (a::x::l.filterMap id):=by
   simpa using ih.cons a
  exact this.trans (zCG _ _ _)
theorem yR:∀(l:kQ),(∀j,j<l.length->∃x,l[j]? =some (some x))->(l.filterMap id).length=l.length
 |[],_=>rfl
 |a::l,h=>by
  obtain⟨x,e⟩:=h 0 (by simp);have ex:a=some x:=by simpa using e
  subst ex;have ih:=yR l λ j hj=>by simpa using h (j+1) (by simpa using hj)
  simp[ih]
theorem aDh(ho:owner.size=mask+1):∀(N i pert:Nat),i<=mask->
  (∃j,owner.toList[j]? =some none/\zBJ mask owner N i pert=some j)\/∀k,k<N->∃x,owner.toList[(mF mask k (i,pert)).1]? =some (some x)
 |0,i,pert,hi=>.inr λ k hk=>by lia
 |N+1,i,pert,hi=>by
  obtain⟨r1,r2,r3⟩:=rN hi;have bS:zBJ mask owner (N+1) i pert=(match (zAm (zAh mask i+1-i)).find? λ k=>(owner.getD (i+k) (some 0)).isNone with
   |some k=>some (i+k)
   |none=>zBJ mask owner N (zAp mask i pert).1 (zAp mask i pert).2):=rfl
  rw[bS];cases hf:(zAm (zAh mask i+1-i)).find? λ k=>(owner.getD (i+k) (some 0)).isNone with
  |some k=>
   left;have h1:=zGL hf;have h2:=List.find?_some hf;simp only[zBj]at h1;have hlt:i+k<owner.size:=by lia
   refine⟨i+k,?_,rfl⟩;have e:owner.getD (i+k) (some 0)=owner[i+k]:=by simp[zCH,hlt]
   rw[e]at h2;rw[zAi,zBa];exact⟨hlt,by simpa using h2⟩
  |none=>
   have h0:=zHW.mp hf 0 (by simp;lia);have hlt:i<owner.size:=by lia
   have e:owner.getD (i+0) (some 0)=owner[i]:=by simp[zCH,hlt]
   rw[e]at h0;have hl:(zAp mask i pert).1<=mask:=zBv (zDG _ (zCq _));rcases aDh ho N _ (zAp mask i pert).2 hl with ⟨j,s1,s2⟩|s
   .exact .inl ⟨j,s1,s2⟩
   .right
    intro k hk;cases k with
    |zero=>
     show∃x,owner.toList[i]? =some (some x)
     rw[zAi];cases q:owner[i]with
     |none=>rw[q]at h0;simp at h0
     |some x=>exact⟨x,by rw[zBa];exact⟨hlt,q⟩⟩
    |succ k=>exact s k (by lia)
def aEf(hm:mask=7\/mask=31\/mask=127)(ho:owner.size=mask+1)(hfew:(heldBy owner).length<mask+1)(h:Int):
  ∃j,owner.toList[j]? =some none/\zBJ mask owner (zBF mask) (zAr h%(mask+1)) (zAr h)=some j:=by
 rcases aDh ho (zBF mask) _ (zAr h) (zBv (zDG (zAr h) (zCq mask)))with z|z
 .exact z
 .exfalso
  have:=yR owner.toList λ j hj=>by
   rw[zA4,ho]at hj;obtain⟨k,hk,ek⟩:=aBL hm h (t:=j) (by lia) (zAr h%(mask+1));obtain⟨x,e⟩:=z k (by unfold zBF;lia);rw[ek]at e;exact⟨x,e⟩
  unfold heldBy at hfew;rw[this,zA4]at hfew;lia
def gJ(mask:Nat)(acc:Option (Array (Option Nat)×Nat))(h:Int):Option (Array (Option Nat)×Nat):=do
 let(owner,k) <-acc
 let j <-zBJ mask owner (zBF mask) (zAr h%(mask+1)) (zAr h)
 pure (owner.setIfInBounds j (some k),k+1)
theorem vy(hm:mask=7\/mask=31\/mask=127):∀(hs:List Int) (owner:Array (Option Nat)) (k:Nat),owner.size=mask+1->(heldBy owner).Perm (zAm k)->k+hs.length<=mask->
  ∃owner',hs.foldl (gJ mask) (some (owner,k))=some (owner',k+hs.length)/\owner'.size=mask+1/\(heldBy owner').Perm (zAm (k+hs.length))
 |[],owner,k,ho,hp,hl=>⟨owner,rfl,ho,hp⟩
 |h::hs,owner,k,ho,hp,hl=>by
  rw[zAk]at hl;obtain⟨j,e1,e2⟩:=aEf hm ho (by rw[hp.length_eq,zEJ];lia) h;have hst:gJ mask (some (owner,k)) h=some (owner.setIfInBounds j (some k),k+1):=by
   unfold gJ;simp[e2]
  rw[zBN,hst];obtain⟨o',f1,f2,f3⟩:=vy hm hs (owner.setIfInBounds j (some k)) (k+1) (by simpa using ho) (by
   unfold heldBy;rw[zDj];refine(wJ owner.toList j k e1).trans ?_;rw[List.range_succ];exact(zHI k hp).trans (List.perm_append_singleton k _).symm) (by lia)
  refine⟨o',?_,f2,?_⟩
  .rw[f1,zAk,show k+1+hs.length=k+(hs.length+1)by lia]
  .rw[zAk,show k+(hs.length+1)=k+1+hs.length by lia]
   exact f3
def aB0(m:Nat):heldBy (zDd m none)=[]:=by
 unfold heldBy;rw[zG0];induction m with
 |zero=>rfl
 |succ m ih=>rw[zBh];simpa using ih
def aBQ(hm:mask=7\/mask=31\/mask=127)(hs:Array Int)(hl:hs.size<=mask):∃owner,zDs mask hs=some owner/\owner.size=mask+1/\(heldBy owner).Perm (zAm hs.size):=by
 obtain⟨o',f1,f2,f3⟩:=vy hm hs.toList (zDd (mask+1) none) 0 (by simp) (by rw[aB0];exact zBK _) (by simpa using hl);refine⟨o',?_,f2,by simpa using f3⟩;have e:zDs mask hs=(hs.foldl (gJ mask) (some (zDd (mask+1) none,0))).map (·.1):=rfl;rw[e,<-zHF,f1];rfl
def cZ(owner:Array (Option Nat))(m:Nat):List (Nat×Nat):=(zAm m).filterMap λ j=>(owner.getD j none).map (j,·)
theorem aBG:∀(l:kQ) (b:Nat) (f:Nat->Option Nat),(∀i,i<l.length->f (b+i)=(l[i]?).getD none)->
  ((zHK b l.length).filterMap λ j=>(f j).map (j,·)).map (·.2)=l.filterMap id
 |[],_,_,_=>rfl
 |a::l,b,f,h=>by
  have h0:=h 0 (by simp);simp at h0;have ih:=aBG l (b+1) f λ i hi=>by
   have:=h (i+1) (by simpa using hi)
   rw[show b+(i+1)=b+1+i by lia]at this;simpa using this
  rw[zAk,zIA,zB3,h0];cases a with
  |none=>simpa using ih
  |some x=>simpa using ih
def aCW(owner:Array (Option Nat)):(cZ owner owner.size).map (·.2)=heldBy owner:=by
 have:=aBG owner.toList 0 (λ j=>owner.getD j none) λ i hi=>by
  rw[zF7,zBS,zAi]
 unfold cZ heldBy;rw[zGt,<-this,zA4]
theorem aBH(f:Nat->Option Nat):∀(m b:Nat),(((zHK b m).filterMap λ j=>(f j).map (j,·)).map (·.1)).Pairwise (·< ·)/\∀x∈((zHK b m).filterMap λ j=>(f j).map (j,·)).map (·.1),b<=x/\x<b+m
 |0,b=>⟨.nil,λ x hx=>by simp at hx⟩
 |m+1,b=>by
  obtain⟨ih1,ih2⟩:=aBH f m (b+1);rw[zIA,zB3];cases hf:f b with
  |none=>
   simp only[zHi];exact⟨ih1,λ x hx=>by have:=ih2 x hx;lia⟩
  |some y=>
   simp only[zCr,zAD];refine⟨zAx.mpr ⟨λ x hx=>by have:=ih2 x hx;lia,ih1⟩,λ x hx=>?_⟩;rcases zAT.mp hx with e|hx
   .lia
   .have:=ih2 x hx
    lia
def aKc{l:List Nat}(h:l.Pairwise (·< ·)):Ris l.toArray:=by
 intro i j hij hj;have hj':j<l.length:=by simpa using hj
 have e:∀k,k<l.length->l.toArray.getD k 0=l[k]!:=λ k hk=>by simp[zCH,hk]
 have:=zDz.mp h i j (by lia) hj' hij
 simp[zCH,hj',show i<l.length by lia];exact this
def aFe{t:zCK}(hp:t.plain=true)(hn:n=5\/n=19)(hs:Array Int)(hl:hs.size=n):
  ∃t' order,t.relaid hs (zDA n)=some (t',order)/\dG t' n/\t'.led=t.led/\order.toList.Perm (zAm n):=by
 have hm:∃mask,zEg (zDA n)-1=mask/\(mask=31/\n=5\/mask=127/\n=19):=by
  rcases hn with e|e<;>subst e
  .exact⟨31,by decide,.inl ⟨rfl,rfl⟩⟩
  .exact⟨127,by decide,.inr ⟨rfl,rfl⟩⟩
 obtain⟨mask,em,hmn⟩:=hm;have hm3:mask=7\/mask=31\/mask=127:=by lia
 obtain⟨owner,o1,o2,o3⟩:=aBQ hm3 hs (by lia);have hsnd:=aCW owner;obtain⟨r1,r2⟩:=aBH (λ j=>owner.getD j none) (mask+1) 0;rw[<-zGt]at r1 r2;have kK:((cZ owner (mask+1)).map (·.1)).length=n:=by
  rw[zAE,<-zAE (f:=(·.2)),<-o2,hsnd,o3.length_eq,zEJ,hl]
 refine⟨{mask:=mask,place:=((cZ owner (mask+1)).map (·.1)).toArray,dummies:=#[],finger:=t.finger,led:=t.led,moves:=t.movedTo mask,plain:=t.plain},((cZ owner (mask+1)).map (·.2)).toArray,?_,⟨rfl,?_,aKc r1,?_,?_,hp⟩,rfl,?_⟩
 .unfold zHQ zHn
  rw[em,o1];rfl
 .simpa using kK
 .intro i hi
  have hi':i<((cZ owner (mask+1)).map (·.1)).length:=by rw[kK];exact hi
  show((cZ owner (mask+1)).map (·.1)).toArray.getD i 0<=mask
  have:((cZ owner (mask+1)).map (·.1)).toArray.getD i 0=((cZ owner (mask+1)).map (·.1))[i]:=by
   rw[zBS,List.getElem?_toArray,zAH hi'];rfl
  rw[this]
  have:=r2 _ (zF2 hi')
  lia
 .show mask=7/\n<5\/mask=31/\n<19\/mask=127/\n<77
  lia
 .show((cZ owner (mask+1)).map (·.2)).Perm (zAm n)
  rw[<-o2,hsnd,<-hl];exact o3
def aCk(mask:Nat)(p:zBr):zBr:=
 if p.more>0 then{p with j:=p.j+1,more:=p.more-1}else
 {p with j:=(zAp mask p.i p.perturb).1,more:=zAh mask (zAp mask p.i p.perturb).1-(zAp mask p.i p.perturb).1,i:=(zAp mask p.i p.perturb).1,perturb:=(zAp mask p.i p.perturb).2}
abbrev aEL(mask i pert:Nat):zBr:={j:=i,more:=zAh mask i-i,i:=i,perturb:=pert,dummy:=none}
def pst(mask:Nat)(h:Int):Nat->zBr
 |0=>aEL mask (zAr h%(mask+1)) (zAr h)
 |k+1=>aCk mask (pst mask h k)
def aH4(mask:Nat)(p:zBr):(aCk mask p).dummy=p.dummy:=by unfold aCk;split<;>rfl
theorem aDO(mask:Nat)(h:Int):∀k,(pst mask h k).dummy=none
 |0=>rfl
 |k+1=>(aH4 mask _).trans (aDO mask h k)
def j0(mask:Nat)(L:List (Int×Nat)):Prop:=∀e∈L,∃k,(pst mask e.1 k).j=e.2/\k<10*zBF mask/\∀k',k'<k->∃e'∈L,e'.2=(pst mask e.1 k').j
def j0.perm(h:j0 mask L)(p:L'.Perm L):j0 mask L':=λ e he=>by
 obtain⟨k,a,b,c⟩:=h e (p.mem_iff.mp he);exact⟨k,a,b,λ k' hk=>by obtain⟨e',x,y⟩:=c k' hk;exact⟨e',p.mem_iff.mpr x,y⟩⟩
def j0.cons(h:j0 mask L)(hx:∃k,(pst mask x.1 k).j=x.2/\k<10*zBF mask/\∀k',k'<k->∃e'∈L,e'.2=(pst mask x.1 k').j):j0 mask (x::L):=λ e he=>by
 rcases zAT.mp he with rfl|he
 .obtain⟨k,a,b,c⟩:=hx
  exact⟨k,a,b,λ k' hk=>by obtain⟨e',x,y⟩:=c k' hk;exact⟨e',zAL _ x,y⟩⟩
 .obtain⟨k,a,b,c⟩:=h e he
  exact⟨k,a,b,λ k' hk=>by obtain⟨e',x,y⟩:=c k' hk;exact⟨e',zAL _ x,y⟩⟩
section
variable{t:zCK}{n:Nat}{hashAt:Nat->Int}{h:Int}
def xx(T:dG t n)(hi:i<n):t.slot (t.place.getD i 0)= .live i:=by
 rcases pW T (t.place.getD i 0)with e|⟨i',h1,h2,h3⟩
 .exact absurd rfl (aAb T e i hi)
 .have:i'=i:=by
   rcases zFQ i' i with z|z|z
   .have:=T.ris i' i z (by rw[T.siz];exact hi);lia
   .exact z
   .have:=T.ris i i' z (by rw[T.siz];exact h1);lia
  rw[h2,this]
theorem aB1(T:dG t n)(hi:i<n)(hh:hashAt i=h)(hu:∀i',i'<n->hashAt i'=h->i'=i):∀(d k fuel:Nat),(pst t.mask h (k+d)).j=t.place.getD i 0->d<fuel->(∀k',k'<k+d->∃i',i'<n/\t.place.getD i' 0=(pst t.mask h k').j)->
  ∃j nx,zB6 t hashAt h fuel (pst t.mask h k)=some (.candidate j i nx)
 |d,k,0,_,hf,_=>by lia
 |0,k,fuel+1,hj,hf,hp=>by
  rw[wK];have hj':(pst t.mask h k).j=t.place.getD i 0:=hj;rw[hj',xx T hi];dsimp only;rw[if_pos (by simp[hh])];exact⟨_,_,rfl⟩
 |d+1,k,fuel+1,hj,hf,hp=>by
  rw[wK];obtain⟨i',h1,h2⟩:=hp k (by lia);rw[<-h2,xx T h1];dsimp only;by_cases e:hashAt i'=h
  .rw[if_pos (by simp[e]),hu i' h1 e]
   exact⟨_,_,rfl⟩
  .rw[if_neg (by simpa using e)]
   exact aB1 T hi hh hu d (k+1) fuel (by rw[show k+1+d=k+(d+1)by lia];exact hj) (by lia) (by rw[show k+1+d=k+(d+1)by lia];exact hp)
theorem aGx(T:dG t n):∀(fuel k:Nat),zB6 t hashAt h fuel (pst t.mask h k)=some (.empty j none)->∃K,k<=K/\K<k+fuel/\(pst t.mask h K).j=j/\∀k',k<=k'->k'<K->∃i',i'<n/\t.place.getD i' 0=(pst t.mask h k').j
 |0,k,e=>by cases e
 |fuel+1,k,e=>by
  rw[wK]at e;rcases pW T (pst t.mask h k).j with q|⟨i,hi,q,hp⟩
  .rw[q]at e
   dsimp only at e;rw[aDO]at e;injection e with e
   injection e with e
   exact⟨k,zAS _,by lia,e,λ k' a b=>by lia⟩
  .rw[q]at e
   dsimp only at e;split at e
   .cases e
   .obtain⟨K,a,b,c,d⟩:=aGx T fuel (k+1) e
    refine⟨K,by lia,by lia,c,λ k' a' b'=>?_⟩;by_cases z:k'=k
    .subst z;exact⟨i,hi,hp⟩
    .exact d k' (by lia) b'
end
def tlS(t:zCK)(es:hV):List (Int×Nat):=(es.toList.map (·.1)).zip t.place.toList
def aJa(T:dG t es.size)(hi:i<es.size):(es[i].1,t.place.getD i 0)∈tlS t es:=by
 have h2:i<t.place.size:=by rw[T.siz];exact hi
 refine zDS.mpr ⟨i,?_⟩;unfold tlS;rw[zCh];constructor
 .rw[zAO,zAi,zAe hi];rfl
 .rw[zAi,zAe h2]
  simp[zCH,h2]
def aKL(T:dG t es.size)(he:e∈tlS t es):∃i,i<es.size/\t.place.getD i 0=e.2:=by
 obtain⟨i,hi⟩:=zDS.mp he;unfold tlS at hi;have h:=(zCh.mp hi).2;rw[zAi]at h;obtain⟨h1,h2⟩:=zBa.mp h;exact⟨i,by rw[<-T.siz];exact h1,by simp[zCH,h1,h2]⟩
def aAx(T:dG t es.size)(P:j0 t.mask (tlS t es))(hi:i<es.size)(hu:∀i' (q:i'<es.size),es[i'].1=es[i].1->i'=i):
  ∃j nx,t.probe (λ i=>(es[i]?.map (·.1)).getD 0) es[i].1 (t.probeStart es[i].1)=some (.candidate j i nx):=by
 obtain⟨k,a,b,c⟩:=P _ (aJa T hi);have hat:∀i' (q:i'<es.size),(es[i']?.map (·.1)).getD 0=es[i'].1:=λ i' q=>by rw[zAe q];rfl
 have:=aB1 (hashAt:=λ i=>(es[i]?.map (·.1)).getD 0) T hi (hat i hi) (λ i' q e=>hu i' q ((hat i' q).symm.trans e)) k 0 (10*zBF t.mask) (by rw[zF7];exact a) b λ k' hk=>by
  obtain⟨e',x,y⟩:=c k' (by lia);obtain⟨i',z1,z2⟩:=aKL T x;exact⟨i',z1,z2.trans y⟩
 unfold SetTable.probe;exact this
def aES(T:dG t es.size)(e:t.probe hashAt h (t.probeStart h)=some (.empty j none)):∃k,(pst t.mask h k).j=j/\k<10*zBF t.mask/\∀k',k'<k->∃e'∈tlS t es,e'.2=(pst t.mask h k').j:=by
 obtain⟨K,a,b,c,d⟩:=aGx T (10*zBF t.mask) 0 e;refine⟨K,c,by lia,λ k' hk=>?_⟩;obtain⟨i',h1,h2⟩:=d k' (zAf _) hk;exact⟨_,aJa T h1,h2⟩
def aKK(T:dG t es.size)(hp:p<=es.size):(((zBM es p x).toList.map (·.1)).zip (zBM t.place p j).toList).Perm ((x.1,j)::tlS t es):=by
 rw[zDt,zDt,zA7,zAD];have hs:=T.siz;rw[zIO (by simp[hs]),zAu];refine zHz.trans (zHI _ ?_)
 have:tlS t es=((es.toList.map (·.1)).take p++(es.toList.map (·.1)).drop p).zip (t.place.toList.take p++t.place.toList.drop p):=by rw[zDT,zDT];rfl
 rw[this,zIO (by simp[hs]),zI7,zI6]
theorem uW(e:pst mask h k=aEL mask i pert):∀m,m<=zAh mask i-i->pst mask h (k+m)={aEL mask i pert with j:=i+m,more:=zAh mask i-i-m}
 |0,_=>by rw[Nat.add_zero,e];simp
 |m+1,hm=>by
  show aCk mask (pst mask h (k+m))=_;rw[uW e m (by lia)];unfold aCk;rw[if_pos (show zAh mask i-i-m>0 by lia)];simp;lia
def aFt(e:pst mask h k=aEL mask i pert):pst mask h (k+(zAh mask i-i)+1)=aEL mask (zAp mask i pert).1 (zAp mask i pert).2:=by
 show aCk mask (pst mask h (k+(zAh mask i-i)))=_;rw[uW e _ (zAS _)];unfold aCk;rw[if_neg (by show¬zAh mask i-i-(zAh mask i-i)>0;lia)]
theorem aB2(ho:owner.size=mask+1):∀(N i pert k:Nat),i<=mask->pst mask h k=aEL mask i pert->zBJ mask owner N i pert=some j->
  ∃K,k<=K/\K<k+10*N/\(pst mask h K).j=j/\∀k',k<=k'->k'<K->∃x,owner.toList[(pst mask h k').j]? =some (some x)
 |0,i,pert,k,hi,e,q=>by cases q
 |N+1,i,pert,k,hi,e,q=>by
  obtain⟨r1,r2,r3⟩:=rN hi;have bS:zBJ mask owner (N+1) i pert=(match (zAm (zAh mask i+1-i)).find? λ k=>(owner.getD (i+k) (some 0)).isNone with
   |some k=>some (i+k)
   |none=>zBJ mask owner N (zAp mask i pert).1 (zAp mask i pert).2):=rfl
  rw[bS]at q;have full:∀m,m<=zAh mask i-i->((owner.getD (i+m) (some 0)).isNone)=false->∃x,owner.toList[(pst mask h (k+m)).j]? =some (some x):=λ m hm z=>by
   rw[uW e m hm]
   show∃x,owner.toList[i+m]? =some (some x)
   have hlt:i+m<owner.size:=by lia
   rw[show owner.getD (i+m) (some 0)=owner[i+m]by simp[zCH,hlt]]at z;rw[zAi];cases w:owner[i+m]with
   |none=>rw[w]at z;cases z
   |some x=>exact⟨x,by rw[zBa];exact⟨hlt,w⟩⟩
  cases hf:(zAm (zAh mask i+1-i)).find? λ k=>(owner.getD (i+k) (some 0)).isNone with
  |some m=>
   rw[hf]at q;cases q;have h1:=zGL hf;simp only[zBj]at h1;refine⟨k+m,by lia,by lia,by rw[uW e m (by lia)],λ k' a b=>?_⟩;obtain⟨d,rfl⟩:∃d,k'=k+d:=⟨k'-k,by lia⟩
   refine full d (by lia) ?_
   have:=(List.find?_range_eq_some.mp hf).2.2 d (by lia)
   exact(zFK _).mp this
  |none=>
   rw[hf]at q;have hl:(zAp mask i pert).1<=mask:=zBv (zDG _ (zCq _));obtain⟨K,a,b,c,d⟩:=aB2 ho N _ _ _ hl (aFt e) q;refine⟨K,by lia,by lia,c,λ k' a' b'=>?_⟩;by_cases z:k'<k+(zAh mask i-i)+1
   .obtain⟨m,rfl⟩:∃m,k'=k+m:=⟨k'-k,by lia⟩
    refine full m (by lia) ?_;exact zFJ.mpr (zHW.mp hf m (by simp;lia))
   .exact d k' (by lia) b'
def aH7(mask:Nat)(hs:List Int)(owner:Array (Option Nat)):Prop:=∀j x,owner.toList[j]? =some (some x)->∃h,hs[x]? =some h/\∃K,(pst mask h K).j=j/\K<10*zBF mask/\∀k',k'<K->∃y,owner.toList[(pst mask h k').j]? =some (some y)
def aH7.set{K k j:Nat}(O:aH7 mask hs owner)(hx:hs[k]? =some h)(hK:(pst mask h K).j=j)(hK2:K<10*zBF mask)(hp:∀k',k'<K->∃y,owner.toList[(pst mask h k').j]? =some (some y)):aH7 mask hs (owner.setIfInBounds j (some k)):=by
 have keep:∀(a:Nat),(∃y,owner.toList[a]? =some (some y))->∃y,(owner.setIfInBounds j (some k)).toList[a]? =some (some y):=λ a ⟨y,e⟩=>by
  rw[zDj,zHd];by_cases z:j=a
  .subst z
   rw[if_pos rfl]
   have:=(zAP.mp e).1
   exact⟨k,by rw[if_pos this]⟩
  .rw[if_neg z];exact⟨y,e⟩
 intro a x e;rw[zDj,zHd]at e;by_cases z:j=a
 .subst z
  rw[if_pos rfl]at e;split at e
  .cases e
   exact⟨h,hx,K,hK,hK2,λ k' q=>keep _ (hp k' q)⟩
  .cases e
 .rw[if_neg z]at e
  obtain⟨h',a1,K',a2,a3,a4⟩:=O a x e;exact⟨h',a1,K',a2,a3,λ k' q=>keep _ (a4 k' q)⟩
theorem aD3(all:List Int):∀(hs:List Int) (owner:Array (Option Nat)) (k:Nat),owner.size=mask+1->all.drop k=hs->aH7 mask all owner->∀o' k',hs.foldl (gJ mask) (some (owner,k))=some (o',k')->aH7 mask all o'
 |[],owner,k,ho,hd,O,o',k',e=>by cases e;exact O
 |h::hs,owner,k,ho,hd,O,o',k',e=>by
  rw[zBN]at e;cases q:zBJ mask owner (zBF mask) (zAr h%(mask+1)) (zAr h)with
  |none=>
   have hst:gJ mask (some (owner,k)) h=none:=by unfold gJ;simp[q]
   rw[hst]at e
   have:∀l:List Int,l.foldl (gJ mask) none=none:=λ l=>by induction l with
    |nil=>rfl
    |cons a l ih=>rw[zBN];exact ih
   rw[this]at e;cases e
  |some j=>
   have hst:gJ mask (some (owner,k)) h=some (owner.setIfInBounds j (some k),k+1):=by unfold gJ;simp[q]
   rw[hst]at e;obtain⟨K,a,b,c,d⟩:=aB2 (h:=h) ho (zBF mask) _ _ 0 (zBv (zDG _ (zCq _))) rfl q;have hk:all[k]? =some h:=by
    have:=congrArg (·[0]?) hd
    simpa using this
   refine aD3 all hs _ (k+1) (by simpa using ho) ?_ (O.set hk c (by lia) λ k' q=>d k' (zAf _) q) o' k' e
   have:=congrArg (List.drop 1) hd
   rw[List.drop_drop]at this;simpa using this
def vg(h:p∈cZ owner m):owner.toList[p.1]? =some (some p.2):=by
 unfold cZ at h;obtain⟨j,hj,e⟩:=zBp.mp h;cases q:owner.getD j none with
 |none=>rw[q]at e;cases e
 |some x=>
  rw[q]at e;cases e;rw[zAi];rw[zBS]at q;cases w:owner[j]? with
  |none=>rw[w]at q;cases q
  |some y=>rw[w]at q;rw[show y=some x from q]
def aCX(hj:j<m)(h:owner.toList[j]? =some (some x)):(j,x)∈cZ owner m:=by
 unfold cZ;refine zBp.mpr ⟨j,zBj.mpr hj,?_⟩;rw[zAi]at h;rw[zBS,h];rfl
theorem aDk(es:hV):∀l:List (Nat×Nat),(∀p∈l,∃h,(es.toList.map (·.1))[p.2]? =some h)->((l.map (·.2)).filterMap (es[·]?)).map (·.1)=l.map λ p=>((es.toList.map (·.1))[p.2]?).getD 0
 |[],_=>rfl
 |p::l,h=>by
  obtain⟨x,e⟩:=h p zAK;have ih:=aDk es l λ q hq=>h q (zAL _ hq)
  rw[zAD,zAD,zB3];have e':=e;rw[zAO,zAi]at e';cases w:es[p.2]? with
  |none=>rw[w]at e';cases e'
  |some y=>
   rw[w]at e';dsimp only;rw[zAD,ih,e];rw[show y.1=x from zAs e'];rfl
theorem aAY(f:α->β)(g:α->γ):∀l:List α,(l.map f).zip (l.map g)=l.map λ a=>(f a,g a)
 |[]=>rfl
 |a::l=>by rw[zAD,zAD,zAu,aAY f g l];rfl
def aEM{t:zCK}(hn:n=5\/n=19)(es:hV)(hl:es.size=n)(e:t.relaid (es.map (·.1)) (zDA n)=some (t',order)):j0 t'.mask (tlS t' (order.filterMap (es[·]?))):=by
 have hm:∃mask,zEg (zDA n)-1=mask/\(mask=31/\n=5\/mask=127/\n=19):=by
  rcases hn with e|e<;>subst e
  .exact⟨31,by decide,.inl ⟨rfl,rfl⟩⟩
  .exact⟨127,by decide,.inr ⟨rfl,rfl⟩⟩
 obtain⟨mask,em,hmn⟩:=hm;have hm3:mask=7\/mask=31\/mask=127:=by lia
 obtain⟨owner,f1,f2,f3⟩:=vy hm3 (es.map (·.1)).toList (zDd (mask+1) none) 0 (by simp) (by rw[aB0];exact zBK _) (by simp;lia);have o1:zDs mask (es.map (·.1))=some owner:=by
  have e:zDs mask (es.map (·.1))=((es.map (·.1)).foldl (gJ mask) (some (zDd (mask+1) none,0))).map (·.1):=rfl;rw[e,<-zHF,f1];rfl
 have O:=aD3 (mask:=mask) (es.map (·.1)).toList _ _ 0 (by simp) rfl (λ j x q=>by
  rw[zG0,zBt]at q;split at q<;>cases q) _ _ f1
 unfold zHQ zHn at e;rw[em,o1]at e;cases e;rw[Array.toList_map]at O;show j0 mask _;have et:tlS {mask:=mask,place:=((cZ owner (mask+1)).map (·.1)).toArray,dummies:=#[],finger:=t.finger,led:=t.led,moves:=t.movedTo mask,plain:=t.plain} (((cZ owner (mask+1)).map (·.2)).toArray.filterMap (es[·]?))=(cZ owner (mask+1)).map λ p=>(((es.toList.map (·.1))[p.2]?).getD 0,p.1):=by
  unfold tlS;rw[zGZ,aDk es _ λ p hp=>by
   obtain⟨h,q,_⟩:=O p.1 p.2 (vg hp);exact⟨h,q⟩]
  exact aAY _ _ _
 show j0 mask (tlS {mask:=mask,place:=((cZ owner (mask+1)).map (·.1)).toArray,dummies:=#[],finger:=t.finger,led:=t.led,moves:=t.movedTo mask,plain:=t.plain} (((cZ owner (mask+1)).map (·.2)).toArray.filterMap (es[·]?)));rw[et];intro e he;obtain⟨p,hp,rfl⟩:=zAY.mp he;obtain⟨h,q,K,a,b,c⟩:=O p.1 p.2 (vg hp);dsimp only;rw[q];refine⟨K,a,b,λ k' hk=>?_⟩;obtain⟨y,z⟩:=c k' hk;refine⟨_,zAY.mpr ⟨((pst mask h k').j,y),aCX ?_ z,rfl⟩,rfl⟩
 have:=(zAP.mp z).1
 rw[zA4,f2]at this;exact this
abbrev bI(es:hV)(ep:Nat)(t:zCK):Obj:={cls:=.type "set",dict:=none,data:=.set es ep t}
def SetT(h:Heap)(a:Addr)(es:hV)(t:zCK):Prop:=∃ep,h.get? a=some (bI es ep t)
structure TupAt(h:Heap)(x:Addr)(ns:List Int):Prop where
 ex:∃o xs k,h.get? x=some o/\o.cls= .type "tuple"/\o.data= .seq xs k/\zBH xs.toList ns
theorem je:∀{vs:List Value} {ns:List Int},zBH vs ns->ItemsAre (zCo prog w) ns vs
 |_,_,.nil=>.nil
 |_,_,.cons n t r=>.cons (intKind_is _ _ n t) (je r)
section
variable{prog:zAV}{w:World}{A:zAc}{E:Value->zAF->Prop}{s:zAF}
theorem jt{fuel:Nat}:∀{vs:List Value} {ns:List Int},zBH vs ns->∀v∈vs,zG9 fuel v=pure true
 |_,_,.nil,v,hv=>by simp at hv
 |_,_,.cons n t r,v,hv=>by
  rcases zAT.mp hv with rfl|hv
  .cases fuel<;>rfl
  .exact jt r v hv
def uM{x:Addr}(hx:TupAt s.heap x ns)(h:Q true s):wpAny (model prog w) A (zG9 8 (.ref x)) Q E s:=by
 obtain⟨o,xs,k,ho,hc,hd,hi⟩:=hx.ex;have hT:s.TypeIs (.ref x) "tuple":=⟨o,ho,hc⟩;unfold zG9;refine zAB (zEI hT PySem.F.slot_tuple_hash.lookup ?_);dsimp only;refine zAB (wpAny_seqItems ho hd ?_);refine zAB ?_;show wpAny (model prog w) A (forIn xs _ _) _ _ _;rw[<-zEq];refine zBX (zCx _ (λ rest b s'=>b.1=none/\s'=s/\∀v∈rest,zG9 7 v=pure true) (λ b s'=>b.1=none/\s'=s) ?_ ?_ _ _ ⟨rfl,rfl,jt hi⟩) ?_ λ _ _ e=>e
 .rintro v rest b s' ⟨hb,rfl,hr⟩
  rw[hr v zAK];refine zAB (zAG ?_);simp only[zCS,zAZ,if_false];exact zAG ⟨rfl,rfl,λ u hu=>hr u (zAL _ hu)⟩
 .rintro b s' ⟨hb,rfl,_⟩
  exact⟨hb,rfl⟩
 .rintro⟨b1,b2⟩ s' ⟨hb,rfl⟩
  dsimp only at hb;subst hb;exact zAG h
def aFM(ho:s.heap.get? a=some (bI es ep t))(hz:es'.size<=4000)
  (h:(s.heap.update a (zIB es' t')).get? a=some (bI es' (ep+1) t')->Q () {s with heap:=s.heap.update a (zIB es' t')}):wpAny (model prog w) A (storeSet a es' t') Q E s:=by
 refine wpAny_storeSet_of ho rfl (h ?_) (by rw[zBe];lia)
 have:=zDQ (zIB es' t') ho (by rw[putSet_of es' t' rfl];rfl)
 rw[putSet_of es' t' rfl]at this;exact this
def vB(ho:s.heap.get? a=some (bI es ep t))(T:dG t es.size)(hne:∀e∈es.toList,e.1≠h)
  (q:∀j,j<=t.mask->t.slot j= .empty->(∃k,(pst t.mask h k).j=j/\k<10*zBF t.mask/\∀k',k'<k->∃e'∈tlS t es,e'.2=(pst t.mask h k').j)->Q (.free j false) s):wpAny (model prog w) A (zIL a x h true) Q E s:=by
 unfold zIL;unfold setSearchFrom;refine zAB (zBY ho rfl T.fits ?_);dsimp only;have hg:t.gaveWay=false:=by
  unfold zGz;rcases T.mask3 with e|e|e<;>rw[e]<;>decide
 rw[hg];simp only[zAZ,if_false];obtain⟨j,j1,j2,j3⟩:=aCO (hashAt:=λ i=>(es[i]?.map (·.1)).getD 0) T (h:=h) λ i hi=>by
  have e:es[i]? =some es[i]:=zAe hi;rw[e];exact hne _ (zGI hi)
 have j3':t.probe (λ i=>(es[i]?.map (·.1)).getD 0) h ((none:Option zBr).getD (t.probeStart h))=some (.empty j none):=j3;split
 .rename_i met heq
  have e:some met=some (.empty j none):=heq.symm.trans j3';cases e;exact zAG (q j j1 j2 (aES T j3))
 .rename_i hno
  exact(hno _ j3').elim
def TupAt.key(hx:TupAt h x ns):IsTupleKey (zCo prog w) h ns x:=let⟨o,xs,k,a,b,c,d⟩:=hx.ex;⟨o,xs,k,a,b,c,je d⟩
theorem qF{fuel:Nat}:∀{vs:List Value} {ns:List Int},zBH vs ns->∀v∈vs,zE2 fuel v=pure false
 |_,_,.nil,v,hv=>by simp at hv
 |_,_,.cons n t r,v,hv=>by
  rcases zAT.mp hv with rfl|hv
  .cases fuel<;>rfl
  .exact qF r v hv
def tM(hx:TupAt s.heap x ns)(h:Q false s):wpAny (model prog w) A (zE2 8 (.ref x)) Q E s:=by
 obtain⟨o,xs,k,ho,hc,hd,hi⟩:=hx.ex;unfold zE2;refine zAB (zGP (T:="tuple") ⟨o,ho,hc⟩ ?_);dsimp only;rw[if_pos (by decide)];refine zAB (zAG ?_);simp only[zCS,zAZ,if_false];refine zAB (wpAny_seqItems ho hd ?_);refine zAB ?_;show wpAny _ _ (forIn xs _ _) _ _ s;rw[<-zEq];refine zCx _ (λ rest r s'=>r.1=none/\s'=s/\∀v∈rest,zE2 7 v=pure false) _ ?_ ?_ _ _ ⟨rfl,rfl,qF hi⟩
 .rintro v rest r s' ⟨hr,rfl,pV⟩
  rw[pV v zAK];refine zAB (zAG ?_);simp only[zAZ,if_false];exact zAG ⟨rfl,rfl,λ u hu'=>pV u (zAL _ hu')⟩
 .rintro⟨r1,r2⟩ s' ⟨hr,rfl,_⟩
  simp only at hr;subst hr;exact zAG h
def aJZ(h:Heap)(v:Value):Prop:=∃y ms,v= .ref y/\TupAt h y ms
def aFZ(hx:TupAt s.heap x ns)(l:List Value)(hl:∀v∈l,aJZ s.heap v)(h:Q false s):wpAny (model prog w) A (zIr (.ref x) l) Q E s:=by
 unfold zIr;refine zAB ?_;refine zCx _ (λ rest r s'=>r.1=none/\s'=s/\∀v∈rest,aJZ s.heap v) _ ?_ ?_ _ _ ⟨rfl,rfl,hl⟩
 .rintro v rest r s' ⟨hr,rfl,pV⟩
  obtain⟨y,ms,rfl,hy⟩:=pV v zAK;have aE:=λ u hu'=>pV u (zAL _ hu')
  dsimp only;split
  .exact zAG ⟨rfl,rfl,aE⟩
  .refine zAB (zIM hx.key ?_)
   simp only[zCS,zAZ,if_false];refine zAB (zIM hy.key ?_);simp only[zCS,zAZ,if_false];refine zAB (tM hx ?_);simp only[zAZ,if_false];refine zAB (tM hy ?_);simp only[zAZ,if_false];exact zAG ⟨rfl,rfl,aE⟩
 .rintro⟨r1,r2⟩ s' ⟨hr,rfl,_⟩
  simp only at hr;subst hr;exact zAG h
def uG(hu:A.units<cLine)(ho:s.heap.get? a=some (bI es ep t))(T:dG t es.size)(P:j0 t.mask (tlS t es))(hes:∀e∈es.toList,aJZ s.heap e.2)(hx:TupAt s.heap x ns)(hi:i<es.size)(h1:es[i].1=hsh ns)(h2:es[i].2= .ref y)(hy:TupAt s.heap y ns)
  (hun:∀i' (q:i'<es.size),es[i'].1=es[i].1->i'=i)(q:Q (.there none) s):wpAny (model prog w) A (zIL a (.ref x) (hsh ns) true) Q E s:=by
 unfold zIL;unfold setSearchFrom;refine zAB (zBY ho rfl T.fits ?_);dsimp only;have hg:t.gaveWay=false:=by
  unfold zGz;rcases T.mask3 with e|e|e<;>rw[e]<;>decide
 rw[hg];simp only[zAZ,if_false];obtain⟨j,nx,j3⟩:=aAx T P hi hun;rw[h1]at j3;have j3':t.probe (λ i=>(es[i]?.map (·.1)).getD 0) (hsh ns) ((none:Option zBr).getD (t.probeStart (hsh ns)))=some (.candidate j i nx):=j3;have he:es[i]? =some (hsh ns,.ref y):=by rw[zAe hi,<-h1,<-h2]
 split
 .rename_i met heq
  have e:some met=some (.candidate j i nx):=heq.symm.trans j3';cases e;dsimp only;have fin:∀k:Bool->Array (Int×Value)×Nat×zCK->Sem SetFound,(∀r,k true r=pure (.there none))->wpAny (model prog w) A (zC8 [zAo y] (eqBool (.ref y) (.ref x))>>=λ equal=>setState a>>=λ r=>k equal r) Q E s:=λ k hk=>by
   refine zAB (zBT (wpAny_eqBool_tuple hu hy.key hx.key ?_));rw[show decide (ns=ns)=true by simp];refine zAB (zBY ho rfl T.fits ?_);rw[hk];exact zAG q
  have stored:∀v∈(es.filter (·.1==hsh ns)).toList.map (·.2),aJZ s.heap v:=λ v hv=>by
   obtain⟨e,he,rfl⟩:=zAY.mp hv;rw[zGo]at he;exact hes e (zAq.mp he).1
  cases hl:t.led with
  |true=>
   simp only[zCS,zAZ,if_false];rw[he];exact fin _ λ r=>rfl
  |false=>
   simp only[zDF,if_true];refine zAB (aFZ hx _ stored ?_);simp only[zAZ,if_false];rw[he];exact fin _ λ r=>rfl
 .rename_i hno
  exact(hno _ j3').elim
def aAc(ho:s.heap.get? a=some (bI es ep t))(T:oZ t n)(hn:es.size=n)(h5:n=5\/n=19)
  (q:∀h' es' t',zBW a s.heap h'->SetT h' a es' t'->dG t' n->t'.led=t.led->es'.toList.Perm es.toList->j0 t'.mask (tlS t' es')->Q () {s with heap:=h'}):wpAny (model prog w) A (setRelay a (zDA n)) Q E s:=by
 have hsz:zEg (zDA n)<=zAQ:=by
  rw[zBe];rcases h5 with e|e<;>rw[e]<;>decide
 obtain⟨t',order,r1,r2,r3,r4⟩:=aFe T.pla h5 (es.map (·.1)) (by rw[Array.size_map];exact hn);have aT:(order.filterMap (es[·]?)).toList.Perm es.toList:=by
  rw[zGZ];refine(r4.filterMap _).trans ?_;rw[<-hn,filterMap_getElem?_range]
 have hes:(order.filterMap (es[·]?)).size=es.size:=by rw[<-zA4,aT.length_eq,zA4]
 have dQ:=aEM h5 es hn r1;unfold setRelay;refine zAB (zBY ho rfl (by rw[hn];exact T.fits) ?_);dsimp only;rw[if_neg (by lia),r1];refine zAB ?_;refine zFX (a:=(order.filterMap (es[·]?),t')) ?_ ?_
 .show(if ((order.filterMap (es[·]?)).size !=es.size)=true then _ else pure (order.filterMap (es[·]?),t'))=_
  rw[hes];simp only[bne_self_eq_false,zAZ,if_false]
 .exact aFM ho (by rw[hes,hn];lia) λ e=>q _ _ t' (zBP ..) ⟨_,e⟩ r2 r3 aT dQ
def SetT.keep(S:SetT h a es t)(k:∀o,h.get? a=some o->h'.get? a=some o):SetT h' a es t:=let⟨ep,e⟩:=S;⟨ep,k _ e⟩
def dX(zs:List (α×List Int))(p:α×List Int):List (α×List Int):=if p.2∈zs.map (·.2)then zs else zs++[p]
def ent(p:Value×List Int):Int×Value:=(hsh p.2,p.1)
structure uO(h:Heap)(a:Addr)(led:Bool)(zs:iX)(es:hV)(t:zCK):Prop where
 at_:SetT h a es t
 ok:dG t es.size
 way:j0 t.mask (tlS t es)
 led_:t.led=led
 perm:es.toList.Perm (zs.map ent)
 nd:(zs.map λ p=>hsh p.2).Nodup
def aKE(h:Heap)(zs:iX):Prop:=∀p∈zs,∃y,p.1= .ref y/\TupAt h y p.2
def aCB(hu:A.units<cLine)(S:uO s.heap a led zs es t)(hz:aKE s.heap zs)(hx:TupAt s.heap x ns)(hin:∀p∈zs,hsh p.2=hsh ns->p.2=ns)(h64:(dX zs (.ref x,ns)).length<=76)
  (q:∀b h' tk es' t',zBW a s.heap h'->s.toks<=tk->uO h' a led (dX zs (.ref x,ns)) es' t'->Q b {s with heap:=h',toks:=tk}):wpAny (model prog w) A (setAdd a (.ref x)) Q E s:=by
 obtain⟨⟨ep,ho⟩,T,P,hl,hp,hnd⟩:=S;obtain⟨o,xs,k,xo,xc,xd,xi⟩:=hx.ex;unfold setAdd;refine zBT (zAB ?_);refine wpAny_pyHash_tuple (knd:=zCo prog w) (ks:=ns) hu ⟨o,xs,k,xo,xc,xd,je xi⟩ ?_;have eh:tupleKeyHash (zCo prog w) ns=hsh ns:=rfl;rw[eh];unfold setAddHashed;refine zBT ?_;unfold setAddHashedIn;refine zAB (zBY ho rfl T.fits ?_);dsimp only;have hb:byScan (.ref x) es=false:=rfl;rw[hb];simp only[zAZ,if_false];have hes:∀e∈es.toList,∃p∈zs,e=ent p:=λ e he=>by
  obtain⟨p,hp',e'⟩:=zAY.mp (hp.mem_iff.mp he);exact⟨p,hp',e'.symm⟩
 have hndE:(es.toList.map (·.1)).Nodup:=((hp.map (·.1)).nodup_iff).mpr (by rw[zAN];exact hnd);by_cases hm:ns∈zs.map (·.2)
 .have ed:dX zs (.ref x,ns)=zs:=by unfold dX;rw[if_pos hm]
  obtain⟨p,hp1,hp2⟩:=zAY.mp hm;obtain⟨y,ey,hy⟩:=hz p hp1;have dS:(hsh ns,zAo y)∈es.toList:=by
   refine hp.mem_iff.mpr (zAY.mpr ⟨p,hp1,?_⟩);unfold ent;rw[hp2,ey]
  obtain⟨i,hi,ei⟩:=List.mem_iff_getElem.mp dS;rw[zA4]at hi;rw[Array.getElem_toList]at ei;refine zAB (uG (s:={s with heap:=s.heap,toks:=_}) hu ho T P (λ e he=>?_) (ns:=ns) (i:=i) (y:=y) ⟨o,xs,k,xo,xc,xd,xi⟩ hi (by rw[ei]) (by rw[ei]) (by rw[<-hp2];exact hy) (λ i' q e=>?_) ?_)
  .obtain⟨p',a1,rfl⟩:=hes e he
   obtain⟨y',b1,b2⟩:=hz p' a1;exact⟨y',_,b1,b2⟩
  .have h1:(es.toList.map (·.1))[i']? =some es[i'].1:=by rw[zAO,zAi,zAe q];rfl
   have h2:(es.toList.map (·.1))[i]? =some es[i].1:=by rw[zAO,zAi,zAe hi];rfl
   rw[e]at h1;exact(zCc (by simpa using q) hndE).mp (h1.trans h2.symm)
  .dsimp only
   exact zAG (q _ _ _ _ _ ⟨rfl,λ _ _=>rfl⟩ (zFc _ _) (by rw[ed];exact⟨⟨_,ho⟩,T,P,hl,hp,hnd⟩))
 .have ed:dX zs (.ref x,ns)=zs++[(.ref x,ns)]:=by unfold dX;rw[if_neg hm]
  rw[ed]at h64;have hzl:es.size=zs.length:=by rw[<-zA4,hp.length_eq,zAE]
  rw[zA9,zE9]at h64;have hne:∀e∈es.toList,e.1≠hsh ns:=λ e he z=>by
   obtain⟨p,a1,rfl⟩:=hes e he;exact hm (zAY.mpr ⟨p,a1,hin p a1 z⟩)
  have hnd':((zs++[(zAo x,ns)]).map λ p=>hsh p.2).Nodup:=by
   rw[zA7];refine zAa.mpr ⟨hnd,by simp,λ a ha b hb=>?_⟩;obtain⟨p,a1,rfl⟩:=zAY.mp ha;rw[zAM.mp hb];exact λ z=>hm (zAY.mpr ⟨p,a1,hin p a1 z⟩)
  refine zAB (vB ho T hne λ j j1 j2 j3=>?_);dsimp only;refine zAB (zBY ho rfl T.fits ?_);dsimp only;obtain⟨PP,p1,p2,p3,p4⟩:=aKg T (by lia) j1 j2;have hes:(zBM es (t.put j).2 (hsh ns,zAo x)).size=es.size+1:=wG _ _ _;have aT:(zBM es (t.put j).2 (hsh ns,zAo x)).toList.Perm ((zs++[(zAo x,ns)]).map ent):=by
   have:=zGC es (t.put j).2 (hsh ns,zAo x)
   rw[zFE]at this;rw[zA7];exact this.trans (hp.append_right _)
  have dQ:j0 (t.put j).1.mask (tlS (t.put j).1 (zBM es (t.put j).2 (hsh ns,zAo x))):=by
   rw[p3];exact(P.cons (x:=(hsh ns,j)) j3).perm (aKK T p2)
  rw[PP.pla];simp only[if_true];refine zAB (uM (ns:=ns) ⟨o,xs,k,xo,xc,xd,xi⟩ ?_);simp only[if_true];refine zAB (aFM ho (by rw[hes];lia) λ e1=>?_);simp only[zDF,Bool.true_and];cases hf:(t.put j).1.tooFull with
  |true=>
   simp only[if_true];have h5:=PP.full (by lia) hf;refine zAB (aAc (s:={s with heap:=_,toks:=_}) e1 PP hes h5 λ h' es' t' b1 b2 b3 b4 b5 b6=>?_);have hsz:es'.size=es.size+1:=by rw[<-zA4,b5.length_eq,zA4,hes]
   exact zAG (q _ h' _ es' t' ((zBP s.heap a _).trans b1) (zFc _ _) (by rw[ed];exact⟨b2,by rw[hsz];exact b3,b6,b4.trans (p4.trans hl),b5.trans aT,hnd'⟩))
  |false=>
   simp only[zAZ,if_false];exact zAG (q _ _ _ _ _ (zBP ..) (zFc _ _) (by rw[ed];exact⟨⟨_,e1⟩,by rw[hes];exact PP.still hf,dQ,p4.trans hl,aT,hnd'⟩))
end
def ddV(l:List (α×List Int)):List (α×List Int):=l.foldl dX []
theorem aAG:∀(l:List (α×List Int)) (acc:List (α×List Int)),acc.length<=(l.foldl dX acc).length/\(∀p∈acc,p∈l.foldl dX acc)/\∀p∈l.foldl dX acc,p∈acc\/p∈l
 |[],acc=>⟨zAS _,λ _ h=>h,λ _ h=>.inl h⟩
 |x::l,acc=>by
  obtain⟨a,b,c⟩:=aAG l (dX acc x);have h:dX acc x=acc\/dX acc x=acc++[x]:=by unfold dX;split<;>simp
  refine⟨zAn ?_ a,λ p hp=>b p ?_,λ p hp=>?_⟩
  .rcases h with e|e<;>rw[e]<;>simp
  .rcases h with e|e<;>rw[e]<;>simp[hp]
  .rcases c p hp with z|z
   .rcases h with e|e<;>rw[e]at z
    .exact .inl z
    .rcases zA3.mp z with z|z
     .exact .inl z
     .exact .inr (by rw[zAM.mp z];exact zAK)
   .exact .inr (zAL _ z)
def ud(h:p∈ddV l):p∈l:=by
 rcases(aAG l []).2.2 p h with z|z
 .simp at z
 .exact z
def aHQ(l:List (α×List Int))(x:α×List Int):ddV (l++[x])=dX (ddV l) x:=by unfold ddV;rw[zFM];rfl
def aHP(l:List (α×List Int))(i:Nat):(ddV (l.take i)).length<=(ddV l).length:=by
 conv=>rhs;rw[<-zDT i l]
 unfold ddV;rw[zFM];exact(aAG _ _).1
def aEh(f:α->β)(zs:List (α×List Int))(p:α×List Int):dX (zs.map λ q=>(f q.1,q.2)) (f p.1,p.2)=(dX zs p).map λ q=>(f q.1,q.2):=by
 have e:(zs.map λ q=>(f q.1,q.2)).map (·.2)=zs.map (·.2):=by rw[zAN];rfl
 unfold dX;rw[e];dsimp only;split
 .rfl
 .rw[zA7];rfl
def aJQ(f:α->β)(l:List (α×List Int)):ddV (l.map λ q=>(f q.1,q.2))=(ddV l).map λ q=>(f q.1,q.2):=by
 have go:∀(l:List (α×List Int)) acc,(l.map λ q=>(f q.1,q.2)).foldl dX (acc.map λ q=>(f q.1,q.2))=(l.foldl dX acc).map λ q=>(f q.1,q.2):=by
  intro l;induction l with
  |nil=>intro acc;rfl
  |cons x l ih=>intro acc;rw[zAD,zBN,zBN,aEh];exact ih _
 exact go l []
def ddT(l:gV):gV:=l.foldl (λ acc x=>if x∈acc then acc else acc++[x]) []
def aJP(l:List (α×List Int)):(ddV l).map (·.2)=ddT (l.map (·.2)):=by
 have go:∀(l:List (α×List Int)) (acc:List (α×List Int)),(l.foldl dX acc).map (·.2)=(l.map (·.2)).foldl (λ acc x=>if x∈acc then acc else acc++[x]) (acc.map (·.2)):=by
  intro l;induction l with
  |nil=>intro acc;rfl
  |cons x l ih=>
   intro acc;rw[zBN,zAD,zBN,ih];congr 1;unfold dX;split
   .rfl
   .rw[zA7];rfl
 exact go l []
def bH.tup{i:Nat}(t:bH h vs nss)(hv:vs[i]? =some v):∃x ns,v= .ref x/\nss[i]? =some ns/\TupAt h x ns:=by
 have hi:i<vs.length:=(zAP.mp hv).1;obtain⟨x,o,xs,k,e1,e2,e3,e4,e5,_⟩:=t.at hi;have hi2:i<nss.length:=by rw[<-t.len];exact hi
 refine⟨x,nss.getD i [],?_,by simp[hi2],⟨o,xs,k,e2,e3,e4,e5⟩⟩;rw[<-e1];simp[hv]
section
variable{prog:zAV}{w:World}{A:zAc}{R:zER->zAF->Prop}{I:Addr}{fp wr:List Addr}{G:Array zCv->Array zCv->Prop}{n:Nat}{St:Nat->zAF->Prop}{vs:List Value}{nss:gV}
def aEH(W:WalksS prog w A.in1 I fp wr G n (λ i v=>vs.toArray[i]? =some v) St)(S:Addr)(hSf:S∉fp)(hn:n=vs.length)(hu:A.in1.units<cLine)(h64:(ddV (vs.zip nss)).length<=76)(hin2:∀a∈nss,∀b∈nss,hsh a=hsh b->a=b)(hin:∀x,.ref x∈vs->x∉wr)(led:Bool):
  ∀(k i:Nat) (s:zAF) (es:hV) (t:zCK),n-i=k->i<=n->St i s->bH s.heap vs nss->uO s.heap S led (ddV ((vs.zip nss).take i)) es t->
   (∀s' es' t',Moved (S::wr) G s s'->uO s'.heap S led (ddV (vs.zip nss)) es' t'->R (.ok (.ret .none)) s')->
   zCR (model prog w) A (.builtin "set.update.loop" ⟨[.ref S,.ref I],[]⟩) R s:=by
 have hSw:S∉wr:=λ h=>hSf (W.sub _ h)
 have hsb:∀b∈wr,b∈S::wr:=λ b hb=>zAL _ hb
 intro k;induction k with
 |zero=>
  intro i s es t hk hi hst ht hS hR;have hin':i=n:=by lia
  subst hin';refine zCJ zEC ?_;rw[zC9 zC1 _];show wpAny _ A.in1 (zDg (.ref I)>>=_) _ _ s;refine zAB (W.done s _ _ hst λ s' hm=>zAG (hR s' es t (hm.mono hsb) ?_))
  have:(vs.zip nss).length<=i:=by rw[zFq,hn];exact Nat.min_le_left _ _
  rw[List.take_of_length_le this]at hS
  exact{hS with at_:=hS.at_.keep λ o e=>hm.heap S _ hSw e}
 |succ k ih=>
  intro i s es t hk hi hst ht hS hR;have hlt:i<n:=by lia
  refine zCJ zEC ?_;rw[zC9 zC1 _];show wpAny _ A.in1 (zDg (.ref I)>>=_) _ _ s;refine zAB (W.item i s _ _ hlt hst λ v s' hP' hst' hm=>?_);have hP:vs[i]? =some v:=by simpa using hP'
  obtain⟨x,ns,rfl,hns,hx⟩:=ht.tup hP;have ht':bH s'.heap vs nss:=by
   have go:∀{us:List Value} {ms:gV},(∀y,.ref y∈us->y∉wr)->bH s.heap us ms->bH s'.heap us ms:=by
    intro us ms hy z;induction z with
    |nil=>exact .nil
    |cons ho hc hd hi hne r ih2=>exact .cons (hm.heap _ _ (hy _ zAK) ho) hc hd hi hne (ih2 λ y m=>hy y (zAL _ m))
   exact go hin ht
  have hS':uO s'.heap S led (ddV ((vs.zip nss).take i)) es t:={hS with at_:=hS.at_.keep λ o e=>hm.heap S _ hSw e};have hx':TupAt s'.heap x ns:=by
   obtain⟨y,ms,e1,e2,e3⟩:=ht'.tup hP;cases e1;rw[hns]at e2;cases e2;exact e3
  have pV:aKE s'.heap (ddV ((vs.zip nss).take i)):=λ p hp=>by
   have hp2:=zGs (ud hp);obtain⟨j,hj⟩:=zDS.mp hp2;obtain⟨z1,z2⟩:=zCh.mp hj;obtain⟨y,ms,e1,e2,e3⟩:=ht'.tup z1;rw[z2]at e2;cases e2;exact⟨y,e1,e3⟩
  have dA:ddV ((vs.zip nss).take (i+1))=dX (ddV ((vs.zip nss).take i)) (.ref x,ns):=by
   rw[List.take_add_one,(zCh (z:=(zAo x,ns))).mpr ⟨hP,hns⟩];exact aHQ _ _
  have hmn:ns∈nss:=zAt hns;show wpAny _ A.in1 (zC8 [zAo x] (setAdd S (.ref x))>>=_) _ _ s';refine zAB (zBT (aCB hu hS' pV hx' (λ p hp z=>hin2 _ (zCw (zGs (ud hp))).2 _ hmn z) (by rw[<-dA];exact zAn (aHP _ _) h64) λ b h' tk es' t' c1 c2 c3=>?_));rw[<-dA]at c3;have kp:∀b o,b≠S->s'.heap.get? b=some o->h'.get? b=some o:=λ b o hb e=>by rw[c1.2 b hb];exact e
  have ht2:bH h' vs nss:=ht'.mono λ y o e c=>kp y o (λ z=>by
   subst z;obtain⟨ep,q⟩:=hS'.at_;rw[q]at e;cases e;exact absurd c (show¬(zBn "set"=zBn "tuple")by decide)) e
  refine zAG ⟨zH6 zC1 _,ih (i+1) _ es' t' (by lia) hlt (W.frame _ s' _ _ hst' c2 λ b hb o e=>kp b o (λ z=>hSf (z▸hb)) e) ht2 c3 λ s'' es'' t'' hm'' hS''=>?_⟩;exact hR s'' es'' t'' (Moved.trans W.gtrans ((hm.mono hsb).then_heap c2 λ b o hb e=>kp b o (λ z=>hb (z▸zAK)) e) hm'') hS''
end
end VL
namespace PySem
section
variable{prog:zAV}{w:World}{A:zAc}{E:Value->zAF->Prop}{s:zAF}
def aFY(a:Value)(h:Q₁ (.ref s.heap.objs.size) {s with heap:=s.heap.push (VL.bI #[] 0 (.fresh 0 0 (!w.params.followText "set-order")))}):
  zCR (model prog w) A (.call (.builtin "set.__new__") ⟨[.type "set",a],[]⟩) (wants Q₁ E) s:=by
 refine codeAny_of_tree ?_;show wpAny _ A.in1 (zGX "set.__new__" ⟨[.type "set",a],[]⟩>>=λ _=>again (.builtin "set.__new__" ⟨[.type "set",a],[]⟩)) _ _ s;refine zAB (zFX (F.newCall_set_1 a) (zAG ⟨zH6 zGQ _,zCJ PySem.F.entry_set_new ?_⟩));rw[zC9 zGQ _];unfold zCy.«set.__new__» zHs;have hsub:=sub_set_self;obtain⟨hp,g,d,tk,os⟩:=s;dsimp only;wp_walk;refine zDn (zAG ?_);dsimp only;simp only[newObj];exact zAB (wpAny_alloc (zAG (zAG h)))
set_option maxHeartbeats 3200000 in
def nG{l:Addr}{T:String}{oI:Obj}{Φ:Heap->Prop}{Q:Value->zAF->Prop}(hty:s.TypeIs (.ref l) T)(hsls:zII (.type T) (.type "set")=pure false)(hslf:zII (.type T) (.type "frozenset")=pure false)(hne:(zBn T==zBn "dict")=false)
  (hit:∀(zD:Heap) (yB:zAc) (yA:Value->zAF->Prop) (Q₁:Value->zAF->Prop),(∀b o,s.heap.get? b=some o->zD.get? b=some o)->Q₁ (.ref zD.objs.size) {s with heap:=zD.push oI}->wpAny (model prog w) yB (zGO (.ref l)) Q₁ yA {s with heap:=zD})
  (hrun:∀R:zER->zAF->Prop,(∀h' tk,Φ h'->(∀b o,s.heap.get? b=some o->h'.get? b=some o)->R (.ok (.ret .none)) {s with heap:=h',toks:=tk})->
   zCR (model prog w) A.in1.in1 (.builtin "set.update.loop" ⟨[.ref s.heap.objs.size,.ref (s.heap.push (VL.bI #[] 0 (.fresh 0 0 (!w.params.followText "set-order")))).objs.size],[]⟩) R {s with heap:=(s.heap.push (VL.bI #[] 0 (.fresh 0 0 (!w.params.followText "set-order")))).push oI})
  (h:∀h' tk,Φ h'->(∀b o,s.heap.get? b=some o->h'.get? b=some o)->Q (.ref s.heap.objs.size) {s with heap:=h',toks:=tk}):
  wpAny (model prog w) A (call (.type "set") [.ref l]) Q E s:=by
 obtain⟨c,tl,hmro⟩:=zCt.mro;have hmade:=zCt.made;have hsub:=zCt.sub
 refine wpAny_call (codeAny_of_tree ?_);show wpAny _ _ (callAny (.type "set") _) _ _ _;refine zAG ⟨zEz _ (by decide+kernel),zCJ PySem.F.entry_type_call ?_⟩;rw[Around.under_plain (weight_type_call_type "set" [.ref l] []) rfl];have h1:=zCt.notType;have h2:=zCt.canCreate
 have hct:=F.typeCall_set_1 (.ref l);repeat (any_goals (first|assumption|wp_step))
 generalize hled:(!w.params.followText "set-order")=led at hrun;refine zET (aFY (.ref l) (E:=E) (Q₁:=λ obj zI=>obj= .ref s.heap.objs.size/\zI={s with heap:=s.heap.push (VL.bI #[] 0 (.fresh 0 0 led))}) ⟨rfl,by rw[hled]⟩) λ r zI hr=>?_
 cases r with
 |error e=>exact hr
 |ok fl=>
  cases fl with
  |ret obj=>
   obtain⟨rfl,rfl⟩:=hr;have hS:(s.heap.push (VL.bI #[] 0 (.fresh 0 0 led))).get? s.heap.objs.size=some (VL.bI #[] 0 (.fresh 0 0 led)):=zAJ _ rfl;have hT:zD2 {s with heap:=s.heap.push (VL.bI #[] 0 (.fresh 0 0 led))} (.ref s.heap.objs.size) "set":=⟨_,hS,rfl⟩;have hli:=zCt.init.lookup;have hbi:=zCt.init.bind (.ref s.heap.objs.size)
   repeat (any_goals (first|assumption|wp_step))
   refine zET (zFI (R:=wants (λ r z5=>r= .none/\∃h' tk,z5={s with heap:=h',toks:=tk}/\Φ h'/\(∀b o,s.heap.get? b=some o->h'.get? b=some o)) E) zCt.init.plain F.entry_set_init (check_set_init_1 hT ?_)) λ r₂ z5 hr₂=>?_
   .obtain⟨ol,hol,hcl⟩:=hty
    obtain⟨ocls,odict,odata,oslots⟩:=ol;simp only at hcl;subst hcl;have hol':(s.heap.push (VL.bI #[] 0 (.fresh 0 0 led))).get? l=some {cls:=.type T,dict:=odict,data:=odata,slots:=oslots}:=zAC _ hol;unfold zCy.«set.__init__» noKeywords zHv;generalize hPI:zGO=PI;wp_walk;subst hPI;refine hit _ _ _ _ (λ b o e=>zAC _ e) (zAB (zHE (hrun _ λ h' tk g1 g2=>?_)));show wpAny _ _ _ _ _ _;refine zAG ?_;show wpAny _ _ (ret zBB) _ _ _;exact zAG ⟨rfl,h',tk,rfl,g1,g2⟩
   .cases r₂ with
    |error e=>exact hr₂
    |ok fl₂=>
     cases fl₂ with
     |ret r=>
      obtain⟨rfl,h',tk,rfl,g1,g2⟩:=hr₂
      repeat (any_goals (first|assumption|wp_step))
      exact h _ _ g1 g2
     |_=>exact hr₂.elim
  |_=>exact hr.elim
def yp{l:Addr}{T:String}{oI:Obj}{vs:List Value}{nss:gV}{St:Addr->Nat->Heap->Prop}{Q:Value->zAF->Prop}(hh:A.handled=none)(hu:A.units+8<cLine)(hty:s.TypeIs (.ref l) T)(hsls:zII (.type T) (.type "set")=pure false)(hslf:zII (.type T) (.type "frozenset")=pure false)(hne:(zBn T==zBn "dict")=false)
  (hit:∀(zD:Heap) (yB:zAc) (yA:Value->zAF->Prop) (Q₁:Value->zAF->Prop),(∀b o,s.heap.get? b=some o->zD.get? b=some o)->Q₁ (.ref zD.objs.size) {s with heap:=zD.push oI}->wpAny (model prog w) yB (zGO (.ref l)) Q₁ yA {s with heap:=zD})
  (hW:∀(A':zAc) I,l≠I->A'.handled=none->Walks prog w A' I [I,l] [I] vs.toArray.size (λ i v=>vs.toArray[i]? =some v) (St I))(h0:∀zD:Heap,(∀b o,s.heap.get? b=some o->zD.get? b=some o)->St zD.objs.size 0 (zD.push oI))
  (ht:VL.bH s.heap vs nss)(h64:(VL.ddV (vs.zip nss)).length<=76)(hin:∀a∈nss,∀b∈nss,VL.hsh a=VL.hsh b->a=b)
  (h:∀h' tk es t,VL.uO h' s.heap.objs.size (!w.params.followText "set-order") (VL.ddV (vs.zip nss)) es t->(∀b o,s.heap.get? b=some o->h'.get? b=some o)->Q (.ref s.heap.objs.size) {s with heap:=h',toks:=tk}):
  wpAny (model prog w) A (call (.type "set") [.ref l]) Q E s:=by
 obtain⟨ol,hol,hcl⟩:=hty;have hlS:l<s.heap.objs.size:=zAR hol;refine nG (T:=T) (Φ:=λ h'=>∃es t,VL.uO h' s.heap.objs.size (!w.params.followText "set-order") (VL.ddV (vs.zip nss)) es t) ⟨ol,hol,hcl⟩ hsls hslf hne hit (λ R hR=>?_) λ h' tk ⟨es,t,g1⟩ g5=>h h' tk es t g1 g5
 generalize (!w.params.followText "set-order")=led at hR ⊢;have hS:(s.heap.push (VL.bI #[] 0 (.fresh 0 0 led))).get? s.heap.objs.size=some (VL.bI #[] 0 (.fresh 0 0 led)):=zAJ _ rfl;have hh3:A.in1.in1.in1.handled=none:=by simp[hh]
 have hneI:l≠(s.heap.push (VL.bI #[] 0 (.fresh 0 0 led))).objs.size:=by rw[zBD];exact zA1 (zBi hlS)
 have hSf:s.heap.objs.size∉[(s.heap.push (VL.bI #[] 0 (.fresh 0 0 led))).objs.size,l]:=by
  rw[zBD];simp only[zAT,zB2,or_false,not_or];exact⟨zA1 (zBb _),zB4 hlS⟩
 have hvt:∀{us:List Value} {ms:gV},VL.bH s.heap us ms->∀x,.ref x∈us->x<s.heap.objs.size:=by
  intro us ms z;induction z with
  |nil=>intro x hx;simp at hx
  |cons ho _ _ _ _ _ ih=>
   intro x hx;rcases zAT.mp hx with e|hx
   .cases e;exact zAR ho
   .exact ih x hx
 refine VL.aEH ((hW _ _ hneI hh3).toS) s.heap.objs.size hSf (by simp) (by simp;omega) h64 hin (λ x hx=>?_) led (vs.toArray.size-0) 0 _ #[] (.fresh 0 0 led) (by simp) (zAf _)
  (h0 _ λ b o e=>zAC _ e) (ht.mono λ x o e _=>zAC _ (zAC _ e)) ⟨⟨0,zAC _ hS⟩,VL.dG.fresh led,(λ e he=>by cases he),rfl,zBK _,zBu⟩ ?hR
 case hR=>
  intro s' es t hm hS';obtain⟨h',g',d',tk',os'⟩:=s';have eg:g'=s.gens:=hm.gens;have ed:d'=s.drawn:=hm.drawn;have eo:os'=s.os:=hm.os;subst eg;subst ed;subst eo;refine hR h' tk' ⟨es,t,hS'⟩ λ b o e=>hm.heap b o ?_ (zAC _ (zAC _ e))
  have hb:=zAR e;simp only[zAT,zB2,or_false,not_or];rw[zBD];exact⟨zA1 hb,zA1 (zBi hb)⟩
 have:=hvt ht x hx
 simp only[zAT,zB2,or_false];rw[zBD];exact zA1 (zBi this)
def aEn(hh:A.handled=none)(hu:A.units+8<cLine)(hl:s.heap.IsList l vs.toArray)(ht:VL.bH s.heap vs nss)(h64:(VL.ddV (vs.zip nss)).length<=76)(hin:∀a∈nss,∀b∈nss,VL.hsh a=VL.hsh b->a=b)
  (h:∀h' tk es t,VL.uO h' s.heap.objs.size (!w.params.followText "set-order") (VL.ddV (vs.zip nss)) es t->(∀b o,s.heap.get? b=some o->h'.get? b=some o)->Q (.ref s.heap.objs.size) {s with heap:=h',toks:=tk}):
  wpAny (model prog w) A (call (.type "set") [.ref l]) Q E s:=by
 obtain⟨ol,hol,hcl,nl,hdl⟩:=hl;exact yp hh hu (T:="list") ⟨ol,hol,hcl⟩ F.sub_list_set zH9 (by decide) (λ zD yB yA Q₁ k q=>zE4 (s:={s with heap:=zD}) (items:=vs.toArray) ⟨ol,k _ _ hol,hcl,nl,hdl⟩ q) (λ A' I ne e=>zH5 e I l ne vs.toArray)
  (λ zD k=>⟨⟨_,zAJ _ rfl,rfl,rfl⟩,Heap.IsList.push ⟨ol,k _ _ hol,hcl,nl,hdl⟩ _⟩) ht h64 hin h
def aBe(hh:A.handled=none)(hu:A.units+8<cLine)(hl:s.heap.IsTuple l vs.toArray)(ht:VL.bH s.heap vs nss)(h64:(VL.ddV (vs.zip nss)).length<=76)(hin:∀a∈nss,∀b∈nss,VL.hsh a=VL.hsh b->a=b)
  (h:∀h' tk es t,VL.uO h' s.heap.objs.size (!w.params.followText "set-order") (VL.ddV (vs.zip nss)) es t->(∀b o,s.heap.get? b=some o->h'.get? b=some o)->Q (.ref s.heap.objs.size) {s with heap:=h',toks:=tk}):
  wpAny (model prog w) A (call (.type "set") [.ref l]) Q E s:=by
 obtain⟨ol,hol,hcl,nl,hdl⟩:=hl;exact yp hh hu (T:="tuple") ⟨ol,hol,hcl⟩ zIh zHT (by decide) (λ zD yB yA Q₁ k q=>zFl (s:={s with heap:=zD}) (items:=vs.toArray) ⟨ol,k _ _ hol,hcl,nl,hdl⟩ q) (λ A' I ne e=>zIp e I l ne vs.toArray)
  (λ zD k=>⟨⟨_,zAJ _ rfl,rfl,rfl⟩,⟨ol,zAC _ (k _ _ hol),hcl,nl,hdl⟩⟩) ht h64 hin h
end
end PySem
namespace VL
open PySem PySem.Spec PyProof.Rows L2
theorem aBZ:∀{l:List α} {i:Nat} (h:i<l.length),(l[i]::l.eraseIdx i).Perm l
 |a::l,0,_=>zBK _
 |a::l,i+1,h=>by
  have h':i<l.length:=by simpa using h
  have ih:=aBZ (l:=l) (i:=i) h'
  show(l[i]::a::l.eraseIdx i).Perm (a::l)
  exact(zCG _ _ _).trans (ih.cons a)
theorem aDS(next:Nat->Nat):∀(f k:Nat) (left:List α) (out:Array α),left.length<=f->(pickOrder.go next f k left out).toList.Perm (out.toList++left)
 |0,k,left,out,h=>by
  have:left=[]:=List.length_eq_zero_iff.mp (by omega)
  subst this;rw[zB0];exact zBK _
 |f+1,k,left,out,h=>by
  unfold pickOrder.go;cases left with
  |nil=>simp
  |cons a l=>
   have hlt:next k%(a::l).length<(a::l).length:=zDG _ (by simp)
   rw[zAH hlt];dsimp only;refine(aDS next f (k+1) _ _ (by rw[List.length_eraseIdx];simp only[hlt,if_true];simp at h ⊢;omega)).trans ?_;rw[zFE,zBO];exact List.Perm.append_left _ (aBZ hlt)
def aEU(next:Nat->Nat)(xs:Array α):(pickOrder next xs).toList.Perm xs.toList:=by
 have:=aDS next xs.size 0 xs.toList #[] (by simp)
 unfold pickOrder;simpa using this
def pq(w:World)(d:Addr)(ep:Nat)(es:hV):hV:=if w.params.followText "set-order" then pickOrder (w.params.setOrder d ep) es else es
def nT(w:World)(d:Addr)(ep:Nat)(es:hV):(pq w d ep es).toList.Perm es.toList:=by
 unfold pq;split
 .exact aEU _ _
 .exact zBK _
def slotAt(w:World)(t:zCK):Nat->Nat
 |0=>0
 |i+1=>if w.params.followText "set-order" then 0 else t.place.getD i 0+1
def aCi(T:dG t n)(hf:w.params.followText "set-order"=false):∀i,i<=n->zAl t.place (slotAt w t i)=i
 |0,_=>by
  obtain⟨b1,b2,b3⟩:=qi T.ris 0;show zAl t.place 0=0;cases h:zAl t.place 0 with
  |zero=>rfl
  |succ k=>
   rw[h]at b2
   have:=b2 0 (by omega)
   omega
 |i+1,hi=>by
  unfold slotAt;rw[hf];simp only[zAZ,if_false];obtain⟨b1,b2,b3⟩:=qi T.ris (t.place.getD i 0+1);have hs:=T.siz;rcases zFQ (zAl t.place (t.place.getD i 0+1)) (i+1)with z|z|z
  .have:=b3 i (by omega) (by omega)
   omega
  .exact z
  .have h1:=b2 (i+1) (by omega)
   have h2:=T.ris i (i+1) (by omega) (by omega);omega
section
variable{prog:zAV}{w:World}{A:zAc}{E:Value->zAF->Prop}{s:zAF}{d:Addr}{es:hV}{ep:Nat}{t:zCK}
def vC(ho:s.heap.get? d=some (bI es ep t))(T:dG t es.size)(hled:t.led= !w.params.followText "set-order")(hi:i<=es.size)
  (h:Q (((pq w d ep es)[i]?).map λ e=>(e.2,slotAt w t (i+1))) s):wpAny (model prog w) A (setNext d (slotAt w t i) i ep) Q E s:=by
 unfold setNext;refine zAB (zBY ho rfl T.fits ?_);dsimp only;unfold zIs;refine zAB (zAB (zDn (zAG ?_)));show wpAny _ _ (if w.params.followText "set-order"=true then _ else _) _ _ _;unfold pq at h;cases hf:w.params.followText "set-order" with
 |true=>
  rw[hf]at h;simp only[if_true]at h ⊢;simp only[bne_self_eq_false,zAZ,if_false];unfold setWalk;refine zAB (zAB (zBY ho rfl T.fits ?_));dsimp only;unfold zIs;refine zAB (zAB (zDn (zAG ?_)));show wpAny _ _ (if w.params.followText "set-order"=true then _ else _) _ _ _;rw[hf];simp only[if_true];refine zAB (zDn (zAG (zAG ?_)));have e1:slotAt w t (i+1)=slotAt w t i:=by
   unfold slotAt;cases i with
   |zero=>simp[hf]
   |succ i=>simp[hf]
  rw[e1]at h;exact h
 |false=>
  rw[hf]at h hled;simp only[zAZ,if_false]at h ⊢;have hd:(!t.plain&&decide (es.size>1))=false:=by rw[T.pla];rfl
  show wpAny _ _ (if (!t.plain&&decide (es.size>1))=true then _ else _) _ _ _;rw[hd];simp only[zAZ,if_false];refine zAB ?_;show wpAny _ _ (if (!t.led&& !es.isEmpty)=true then _ else _) _ _ _;rw[hled];simp only[zDF,zCS,zIV,zAZ,if_false];refine zAG ?_;rw[aCi T hf i hi];have hslot:slotAt w t (i+1)=t.place.getD i 0+1:=by unfold slotAt;rw[hf];rfl
  rw[hslot]at h;by_cases hlt:i<es.size
  .have h1:es[i]? =some es[i]:=zAe hlt
   have hlt2:i<t.place.size:=by rw[T.siz];exact hlt
   have h2:t.place[i]? =some (t.place.getD i 0):=by
    rw[zAe hlt2];simp[zCH,hlt2]
   rw[h1,h2];rw[h1]at h;exact zAG h
  .have h1:es[i]? =none:=zCZ (by omega)
   rw[h1];rw[h1]at h;exact zAG h
def bY:PySem.Slot "set_iterator" "__next__" "set_iterator.__next__":=
 .of (owner:="set_iterator") (n:="__next__") (by rw[typeLookup_type,zIF];kernel_rfl) (by decide+kernel) (by decide+kernel) (by decide+kernel) (.inl (by decide+kernel)) (by rw[zHC];kernel_rfl)
def jQ:PySem.Slot "set_iterator" "__iter__" "set_iterator.__iter__":=
 .of (owner:="set_iterator") (n:="__iter__") (by rw[typeLookup_type,zIF];kernel_rfl) (by decide+kernel) (by decide+kernel) (by decide+kernel) (.inl (by decide+kernel)) (by rw[zHC];kernel_rfl)
def jL:entryFor table "set_iterator.__next__"=some zCy.«set_iterator.__next__»:=entryFor_of_fast (by kernel_rfl)
def pK:entryFor table "set_iterator.__iter__"=some zCy.«dict_keyiterator.__iter__»:=entryFor_alias (id':="dict_keyiterator.__iter__") (by kernel_rfl) rfl (by decide+kernel) (by kernel_rfl)
def uN:entryFor table "set.__iter__"=some zCy.«frozenset.__iter__»:=entryFor_alias (id':="frozenset.__iter__") (by kernel_rfl) rfl (by decide+kernel) (by kernel_rfl)
def jZ(a:Value):argsOk "set_iterator.__next__" ⟨[a],[]⟩:=by unfold argsOk;kernel_rfl
def qj(a:Value):argsOk "set_iterator.__iter__" ⟨[a],[]⟩:=by unfold argsOk;kernel_rfl
end
section
variable{prog:zAV}{w:World}{A:zAc}{E:Value->zAF->Prop}{s:zAF}{d I:Addr}{es:hV}{ep:Nat}{t:zCK}{i':Nat}
abbrev aGl(d:Addr)(sl i n ep:Nat):Obj:={cls:=.type "set_iterator",data:=.fields #[.int sl 0,.int i 0,.ref d,.int n 0,.int ep 0]}
def aJ6(h:Heap)(I d:Addr)(sl i n ep:Nat):Prop:=h.get? I=some (aGl d sl i n ep)
def aGj{h:Heap}{sl i n ep k:Nat}(e:h.get? I=some {cls:=.type "set_iterator",data:=.fields vs}):(h.update I (zFG (·.setIfInBounds k x))).get? I=some {cls:=.type "set_iterator",data:=.fields (vs.setIfInBounds k x)}:=by
 have:=zDQ (zFG (·.setIfInBounds k x)) e (zGu (zFF rfl _))
 rw[this];rfl
def aBz(hI:aJ6 s.heap I d (slotAt w t i') i' es.size ep)(ho:s.heap.get? d=some (bI es ep t))(T:dG t es.size)(hled:t.led= !w.params.followText "set-order"){v:Value}(hi:i'<es.size)(hv:((pq w d ep es)[i']?).map (·.2)=some v){Q:Option Value->zAF->Prop}
  (h:∀h',aJ6 h' I d (slotAt w t (i'+1)) (i'+1) es.size ep->zBW I s.heap h'->Q (some v) {s with heap:=h'}):wpAny (model prog w) A (zDg (.ref I)) Q E s:=by
 have hT:s.TypeIs (.ref I) "set_iterator":=⟨_,hI,rfl⟩;unfold zDg;refine zAB (zDx (zCD (name:=zEA "__next__") hT bY (zBV bY hT jL ?_ (jZ _))));show wpAny _ _ (fieldsOf (.ref I)>>=_) _ _ s;refine zAB (zCF hI rfl ?_);dsimp only;refine zAB ?_;unfold setEntries;refine zAB (zBY ho rfl T.fits (zAG ?_));simp only[bne_self_eq_false,zAZ,if_false];refine zAB ?_;simp only[zCP];refine vC ho T hled (zBZ hi) ?_;cases hq:(pq w d ep es)[i']? with
 |none=>rw[hq]at hv;cases hv
 |some e=>
  rw[hq]at hv;cases hv;dsimp only[zCr];refine zAB (zDc hI rfl (by simp) ?_);have e1:=aGj (h:=s.heap) (I:=I) (k:=0) (x:=zFi (slotAt w t (i'+1))) (sl:=0) (i:=0) (n:=0) (ep:=0) hI;refine zAB (zDc e1 rfl (by simp) ?_);have e2:=aGj (k:=1) (x:=zFi (i'+1)) (sl:=0) (i:=0) (n:=0) (ep:=0) e1;exact zAG ⟨_,rfl,zAG (h _ e2 ((zBP ..).trans (zBP ..)))⟩
def aEG(hh:A.handled=none)(hI:aJ6 s.heap I d (slotAt w t es.size) es.size es.size ep)(ho:s.heap.get? d=some (bI es ep t))(T:dG t es.size)(hled:t.led= !w.params.followText "set-order")
  (h:∀h',zHH I s.heap h'->Q none {s with heap:=h'}):wpAny (model prog w) A (zDg (.ref I)) Q E s:=by
 have hT:s.TypeIs (.ref I) "set_iterator":=⟨_,hI,rfl⟩;unfold zDg;refine zAB (zDx (zCD (name:=zEA "__next__") hT bY (zBV bY hT jL ?_ (jZ _))));show wpAny _ _ (fieldsOf (.ref I)>>=_) _ _ s;refine zAB (zCF hI rfl ?_);dsimp only;refine zAB ?_;unfold setEntries;refine zAB (zBY ho rfl T.fits (zAG ?_));simp only[bne_self_eq_false,zAZ,if_false];refine zAB ?_;simp only[zCP];refine vC ho T hled (zAS _) ?_;have hq:(pq w d ep es)[es.size]? =none:=zCZ (by
  have:=(nT w d ep es).length_eq
  rw[zA4,zA4]at this;lia)
 rw[hq];dsimp only[zHi];refine zAB (zDc hI rfl (by simp) ?_);show wpAny _ _ (zIc (.type "StopIteration") []>>=_) _ _ _;refine zAB ?_;simp only[zIc,newTuple];refine zAB (zBC (zAB (m:=zDb _ _) (zFX (a:=zBB) (by first|rfl|(simp only[zDb];rfl)) (zBC ?_ (by size_fits)))) (by size_fits));simp only[raiseNew];refine zAB (zH8 ?_);rw[show A.in1.handled=none from hh];refine zAB (zAG (zI4 ?_));refine zAB (zDo (T:="StopIteration") (b:=true) ⟨_,zAJ _ rfl,rfl⟩ zHB ?_);exact zAG (h _ (((zBP ..).extBut.push _).push _))
def aDu(hh:A.handled=none)(I d:Addr)(hne:d≠I)(es:hV)(ep:Nat)(t:zCK)(T:dG t es.size)(hled:t.led= !w.params.followText "set-order"):
  Walks prog w A I [I,d] [I] es.size (λ i v=>((pq w d ep es)[i]?).map (·.2)=some v) (λ i h=>aJ6 h I d (slotAt w t i) i es.size ep/\h.get? d=some (bI es ep t)) where
 sub:=λ b hb=>by simp at hb;simp[hb]
 frame:=λ _ _ _ st hk=>⟨hk I (by simp) _ st.1,hk d (by simp) _ st.2⟩
 item:=λ i s Q E hi st hQ=>by
  have hl:i<(pq w d ep es).size:=by
   have:=(nT w d ep es).length_eq
   rw[zA4,zA4]at this;lia
  have hv:((pq w d ep es)[i]?).map (·.2)=some (pq w d ep es)[i].2:=by rw[zAe hl];rfl
  refine aBz st.1 st.2 T hled hi hv λ h' hI' hs'=>?_
  exact hQ _ h' s.toks hv ⟨hI',by rw[hs'.2 d hne];exact st.2⟩ λ b o hb e=>hs'.extBut b o (λ h=>hb (by simp[h])) e
 done:=λ s Q E st hQ=>aEG hh st.1 st.2 T hled λ h' he'=>hQ h' s.toks λ b o hb e=>he' b o (λ h=>hb (by simp[h])) e
 self:=λ i s Q E st hQ=>by
  have hT:s.TypeIs (.ref I) "set_iterator":=⟨_,st.1,rfl⟩;refine zE5 hT jQ (zBV jQ hT pK ?_ (qj _));show wpAny _ _ (ret (.ref I)) _ _ s;exact zAG ⟨_,rfl,"set_iterator",_,hT,bY.lookup,hQ⟩
def aCL(ho:s.heap.get? d=some (bI es ep t))(T:dG t es.size)(h:Q (.ref s.heap.objs.size) {s with heap:=s.heap.push (aGl d 0 0 es.size ep)}):wpAny (model prog w) A (zGO (.ref d)) Q E s:=by
 have hT:s.TypeIs (.ref d) "set":=⟨_,ho,rfl⟩;refine zE5 hT zGS (zBV zGS hT uN ?_ (PySem.F.args_set_iter_1 _));unfold zCy.«frozenset.__iter__» zHu slotArgs;simp only[List.isEmpty_nil,zCS,zAZ,↓reduceIte,bind_assoc,zCA,bne_self_eq_false];unfold zHr zHt;refine zAB (zAG (zAB (zAG (zAB (zAB (wpAny_setEntries_of ho rfl T.fits (zAG ?_)))))));unfold setDrawn;refine zAB (zAB (zBY ho rfl T.fits ?_));dsimp only;unfold zIs;refine zAB (zAB (zDn (zAG (zAG ?_))));have hd:(!w.params.followText "set-order"&&(!t.plain&&decide (es.size>1)))=false:=by rw[T.pla];simp
 show wpAny _ _ (if (!w.params.followText "set-order"&&(!t.plain&&decide (es.size>1)))=true then _ else _) _ _ _;rw[hd];simp only[zAZ,if_false];refine zAB (zAG (zAB (wpAny_setEpoch_of ho rfl T.fits ?_)));simp only[newFields];refine zAB (zBC (zAG ⟨_,rfl,"set_iterator",_,⟨_,zAJ _ rfl,rfl⟩,bY.lookup,?_⟩));exact h
def aGu(hT:s.TypeIs (.ref r) "set")(h:Q false s):wpAny (model prog w) A (zEl (.ref r)) Q E s:=by
 unfold zEl;refine zAB (zEI hT PySem.F.slot_set_len.lookup ?_);generalize hid:("set.__len__":String)=id0;wp_delta;rw[show splitId id0=some ("set","__len__")from by subst hid;decide+kernel];subst hid;refine zAB (zDo (T:="set") (b:=true) hT (by rw[zHC];kernel_rfl) ?_);refine wpAny_ite_split (λ hab=>absurd hab (by decide)) λ _=>wpAny_ite_split (λ _=>?_) λ hab=>absurd (by decide+kernel) hab
 exact zAB (zGP hT (zAG h))
def aHl(T:dG t es.size)(hled:t.led= !w.params.followText "set-order"):zHk prog w "set" d d es.size (λ i v=>((pq w d ep es)[i]?).map (·.2)=some v) (λ h=>h.get? d=some (bI es ep t)) where
 type:=λ _ hm=>⟨_,hm,rfl⟩
 there:=λ _ hm=>⟨zAR hm,zAR hm⟩
 keep:=λ _ _ hm hk=>hk d (.inl rfl) _ hm
 notList:=by decide
 notTuple:=by decide
 hint:=λ _ _ _ _ hm hq=>aGu ⟨_,hm,rfl⟩ hq
 iter:=λ A s hh hm=>⟨aGl d 0 0 es.size ep,_,(λ _ _ hq=>aCL hm T hq),aDu hh _ d (zA1 (zAR hm)) es ep t T hled,⟨zAJ _ rfl,zAC _ hm⟩⟩
end
section
variable{prog:zAV}{w:World}{A:zAc}{E:Value->zAF->Prop}{s:zAF}{T:String}{r d:Addr}{n:Nat}{P:Nat->Value->Prop}{OK:Heap->Prop}
def tZ(K:zHk prog w T r d n P OK)(hh:A.handled=none)(hok:OK s.heap)(hn:n<=zAQ)
  (h:∀h' tk vs,s.heap.objs.size<h'.objs.size->(∀b o,s.heap.get? b=some o->h'.get? b=some o)->vs.length=n->(∀(j:Nat) v,vs[j]? =some v->P j v)->Q vs {s with heap:=h',toks:=tk}):wpAny (model prog w) A (zIY (.ref r)) Q E s:=by
 have hlt:=K.there _ hok;unfold zIY;refine zAB (zHE (zCJ PySem.F.entry_proto_collect ?_));rw[zC9 PySem.F.plain_proto_collect _];show wpAny _ A.in1 (zFU []>>=λ l=>again (.builtin "list.__iadd__" ⟨[l,.ref r],[]⟩)) _ _ s;refine zAB (zBC (zAG ⟨zH6 zGA _,zCJ PySem.F.entry_list_iadd ?_⟩));rw[zC9 zGA _];show wpAny _ A.in1 (zDD (.ref s.heap.objs.size) (.ref r) (.ref s.heap.objs.size)) _ _ _;have fin:∀h' tk acc' c',(∀b o,b≠s.heap.objs.size->(s.heap.push (zB9 "list" #[] 0)).get? b=some o->h'.get? b=some o)->h'.get? s.heap.objs.size=some {cls:=.type "list",dict:=none,data:=.seq acc' c',slots:=#[]}->ItemsOf P acc' n->
   wpAny (model prog w) A (do match (zAo s.heap.objs.size)with
    | .ref a=>match (<-load a).data with
     | .seq xs _=>pure xs.toList
     |_=>zI1 "internal:collect"
    |_=>zI1 "internal:collect") Q E {s with heap:=h',toks:=tk}:=λ h' tk acc' c' hk hS' aS=>
  zAB (zIw hS' (zAG (h h' tk acc'.toList (zAR hS') (λ b o e=>hk b o (zA1 (zAR e)) (zAC _ e)) (by rw[zA4];exact aS.1) λ j v e=>aS.2 j v (by rw[<-zAi];exact e))))
 refine zBX (PySem.W.kdl_extend (A:=A) (s:={s with heap:=s.heap.push (zB9 "list" #[] 0)}) (R:=λ r s'=>∃h' tk acc' c',r= .ok (.ret (.ref s.heap.objs.size))/\s'={s with heap:=h',toks:=tk}/\(∀b o,b≠s.heap.objs.size->(s.heap.push (zB9 "list" #[] 0)).get? b=some o->h'.get? b=some o)/\h'.get? s.heap.objs.size=some {cls:=.type "list",dict:=none,data:=.seq acc' c',slots:=#[]}/\ItemsOf P acc' n)
  K hh (K.keep _ _ hok λ b _ o e=>zAC _ e) s.heap.objs.size (zB4 hlt.1) (zB4 hlt.2) (.ref s.heap.objs.size) 0 (zAJ _ rfl) (λ h' tk acc' c' hk hS' aS=>⟨h',tk,acc',c',rfl,rfl,hk,hS',aS⟩) hn) (λ f s' hf=>?_) λ e s' he=>?_
 .cases f with
  |done f=>
   obtain⟨h',tk,acc',c',q1,q2,q3,q4,q5⟩:=hf;cases q1;subst q2;exact fin h' tk acc' c' q3 q4 q5
  |again c=>
   refine⟨hf.1,zET hf.2 λ r s' hr=>?_⟩;obtain⟨h',tk,acc',c',q1,q2,q3,q4,q5⟩:=hr;subst q1 q2;exact fin h' tk acc' c' q3 q4 q5
 .obtain⟨h',tk,acc',c',q1,_⟩:=he
  cases q1
end
def aJ4(h:Heap)(p:Value×List Int):Prop:=∃x o xs k,p.1= .ref x/\h.get? x=some o/\o.cls= .type "tuple"/\o.data= .seq xs k/\zBH xs.toList p.2/\p.2≠[]
theorem bH.all:∀{vs:List Value} {nss:gV},bH h vs nss->∀p∈vs.zip nss,aJ4 h p
 |_,_,.nil,p,hp=>by simp at hp
 |_,_,.cons ho hc hd hi hne r,p,hp=>by
  rw[zAu]at hp;rcases zAT.mp hp with e|hp
  .subst e;exact⟨_,_,_,_,rfl,ho,hc,hd,hi,hne⟩
  .exact r.all p hp
theorem aCr:∀{zs:iX},(∀p∈zs,aJ4 h p)->bH h (zs.map (·.1)) (zs.map (·.2))
 |[],_=>.nil
 |p::zs,hz=>by
  obtain⟨x,o,xs,k,e1,e2,e3,e4,e5,e6⟩:=hz p zAK;rw[zAD,zAD,e1];exact .cons e2 e3 e4 e5 e6 (aCr λ q hq=>hz q (zAL _ hq))
def lJ(h:l.Perm m'):∀{m:List α},m'=m.map f->∃m2:List α,m2.Perm m/\l=m2.map f:=by
 induction h with
 |nil=>intro m e;exact⟨m,zBK _,e⟩
 |cons x p ih=>
  intro m e;cases m with
  |nil=>cases e
  |cons a m=>
   rw[zAD]at e;injection e with e1 e2
   obtain⟨m2,q1,q2⟩:=ih e2;exact⟨a::m2,q1.cons a,by rw[zAD,q2,e1]⟩
 |swap x y l=>
  intro m e;cases m with
  |nil=>cases e
  |cons a m=>
   cases m with
   |nil=>rw[zAD]at e;injection e with _ e2;cases e2
   |cons b m=>
    rw[zAD,zAD]at e;injection e with e1 e2
    injection e2 with e2 e3
    exact⟨b::a::m,zCG _ _ _,by rw[zAD,zAD,e1,e2,e3]⟩
 |trans p q ih1 ih2=>
  intro m e;obtain⟨m2,a1,a2⟩:=ih2 e;obtain⟨m3,b1,b2⟩:=ih1 a2;exact⟨m3,b1.trans a1,b2⟩
def qu(l:gV):Prop:=l.Pairwise λ a b=>HT.lexLt b a=false
section
variable{prog:zAV}{w:World}{A:zAc}{E:Value->zAF->Prop}{s:zAF}
def aA7{Q:Value->zAF->Prop}(hz:∀p∈zs,aJ4 s.heap p)(h64:zs.length<64)
  (h:∀(zs':iX) h' e,zs'.Perm zs->qu (zs'.map (·.2))->(∀b o,s.heap.get? b=some o->h'.get? b=some o)->h'.get? s.heap.objs.size=some (zB9 "list" (zs'.map (·.1)).toArray e)->Q (.ref s.heap.objs.size) {s with heap:=h'}):
  wpAny (model prog w) A (zFU (zs.map (·.1))>>=λ l=>zC8 [l] (call (.builtin "list.sort") [l])>>=λ _=>ret l) (λ fin s'=>∃r,fin= .done (.ret r)/\Q r s') E s:=by
 have kK:(zs.map (·.1)).length=zs.length:=zAE _;refine zAB (zFk ?_ (by rw[zBe];omega));have hoL:(s.heap.push (zB9 "list" (zs.map (·.1)).toArray 0)).get? s.heap.objs.size=some (zB9 "list" (zs.map (·.1)).toArray 0):=zAJ _ rfl;refine zAB (zBT (zBV slot_list_sort ⟨_,hoL,rfl⟩ entry_list_sort ?_ (args_list_sort _)));refine aCY (s:={s with heap:=s.heap.push (zB9 "list" (zs.map (·.1)).toArray 0)}) hoL (aCr λ p hp=>?_) (by omega) λ p a1 a2=>⟨_,rfl,?_⟩
 .obtain⟨x,o,xs,k,e1,e2,e3⟩:=hz p hp
  exact⟨x,o,xs,k,e1,zAC _ e2,e3⟩
 rw[kK]at a1 a2;have eI:p.toList.map (λ i=>(zs.map (·.1)).getD i zBB)=(p.toList.map λ i=>zs.getD i (zBB,[])).map (·.1):=by
  rw[zAN];refine zBg λ i hi=>?_
  show(zs.map (·.1)).getD i zBB=(zs.getD i (zBB,[])).1
  rw[zA8,zA8,zAO];cases zs[i]?<;>rfl
 have aT:(p.toList.map λ i=>zs.getD i (zBB,[])).Perm zs:=by
  have h1:p.toList.Perm (zAm zs.length):=by
   have:=Array.perm_iff_toList_perm.mp a1
   simpa using this
  refine(h1.map _).trans ?_
  have:(zAm zs.length).map (λ i=>zs.getD i (zBB,[]))=zs:=by
   refine zF0 (by simp) λ i h1 h2=>?_
   rw[zCj,zHX,zA8,zAH h2];rfl
  rw[this]
 have hne:∀b o,s.heap.get? b=some o->b≠s.heap.objs.size:=λ b o e=>zA1 (zAR e)
 obtain⟨e1,he1⟩:∃e1,((s.heap.push (zB9 "list" (zs.map (·.1)).toArray 0)).update s.heap.objs.size (zBw λ _=>(#[]:Array Value))).get? s.heap.objs.size=some (zB9 "list" #[] e1):=⟨_,zDI hoL λ _=>#[]⟩
 have g1:=zAC (zB9 "list" #[] 0) (zAC (zB9 "tuple" (zs.map (·.1)).toArray 0) he1);have g2:=zDI g1 (λ _=>nq (zs.map (·.1)) p);generalize (if ((nq (zs.map (·.1)) p).size==(#[]:Array Value).size)=true then e1 else e1+1)=c1 at g2;have hend:(zGG (s.heap.push (zB9 "list" (zs.map (·.1)).toArray 0)) s.heap.objs.size (zs.map (·.1)) (nq (zs.map (·.1)) p)).get? s.heap.objs.size=some (zB9 "list" (nq (zs.map (·.1)) p) c1):=g2;have qV:nq (zs.map (·.1)) p=((p.toList.map λ i=>zs.getD i (zBB,[])).map (·.1)).toArray:=by unfold nq;rw[eI]
 have hris:qu ((p.toList.map λ i=>zs.getD i (zBB,[])).map (·.2)):=by
  unfold qu;rw[zAN];refine zDz.mpr λ i j hi hj hij=>?_
  rw[zAE,zA4,a1.sz]at hi hj;have hk:∀k (hk:k<zs.length),Kp (O:=aCZ) (λ i=>(zs.map (·.2)).getD i []) p k=(zs.getD (p.getD k 0) (zBB,[])).2:=λ k hk=>by
   show(zs.map (·.2)).getD (p.getD k 0) []=_
   rw[zA8,zA8,zAO];cases zs[p.getD k 0]?<;>rfl
  have hg:∀k (hk:k<p.toList.length),p.toList[k]=p.getD k 0:=λ k hk=>by
   have:k<p.size:=by simpa using hk
   simp[zCH,this]
  have this:HT.lexLt (Kp (O:=aCZ) (λ i=>(zs.map (·.2)).getD i []) p j) (Kp (O:=aCZ) (λ i=>(zs.map (·.2)).getD i []) p i)=false:=a2 i j (zBZ hij) hj;rw[hk i hi,hk j hj]at this;rw[zCj,zCj,hg,hg];exact this
 have dE:∀b o,s.heap.get? b=some o->(zGG (s.heap.push (zB9 "list" (zs.map (·.1)).toArray 0)) s.heap.objs.size (zs.map (·.1)) (nq (zs.map (·.1)) p)).get? b=some o:=λ b o e=>by
  unfold zGG;rw[zBz _ _ _ _ (hne b o e)];refine zAC _ (zAC _ ?_);rw[zBz _ _ _ _ (hne b o e)];exact zAC _ e
 rw[qV]at hend dE;have hq:=h (p.toList.map λ i=>zs.getD i (zBB,[])) _ c1 aT hris dE hend;rw[<-qV]at hq;exact zAG ⟨_,rfl,hq⟩
def iT(h:wpAny (model prog w) A.in1 (zIY v) (λ vs s'=>wpAny (model prog w) A.in1 (zFU vs>>=λ l=>zC8 [l] (call (.builtin "list.sort") [l])>>=λ _=>ret l) (λ fin s'=>∃r,fin= .done (.ret r)/\Q r s') E s') E s):
  wpAny (model prog w) A (call (.builtin "sorted") [v]) Q E s:=by
 refine Calls.call_function_entry kind_sorted plain_sorted entry_sorted (args_sorted1 _) ?_;unfold zCy.«sorted»;refine zAB (m:=checkCount "sorted" 1 1 _) (zAG (zAB ?_));exact h
end
inductive b7(K:zAA)(H:Hp):List V->List (List Int)->Prop where
 |nil:b7 K H [] []
 |cons {a:Addr} {ns:List Int} {vs:List V} {nss:gV} (h:SqT K H a (ns.map V.int)) (hne:ns≠[]) (r:b7 K H vs nss):b7 K H (.ref a::vs) (ns::nss)
def lH:V->Value
 | .ref a=>.ref a
 |_=>.none
def b7.vals{K:zAA}:∀{vs:List V} {nss:gV} {us:List Value},b7 K H vs nss->Vals vs us->us=vs.map lH:=by
 intro vs nss us t v;induction v generalizing nss with
 |nil=>rfl
 |cons q s ih=>
  cases t with
  |cons _ _ r=>
   cases q;rw[zAD,ih r];rfl
theorem b7.len{K:zAA}:∀{vs:List V} {nss:gV},b7 K H vs nss->vs.length=nss.length
 |_,_,.nil=>rfl
 |_,_,.cons _ _ r=>by rw[zAk,zAk,r.len]
theorem b7.refs{K:zAA}:∀{vs:List V} {nss:gV},b7 K H vs nss->∀v∈vs,RelV v (lH v)
 |_,_,.nil,v,hv=>by simp at hv
 |_,_,.cons _ _ r,v,hv=>by
  rcases zAT.mp hv with e|hv
  .subst e;exact rfl
  .exact r.refs v hv
theorem b7.up{K:zAA}(s:aR H H'):∀{vs:List V} {nss:gV},b7 K H vs nss->b7 K H' vs nss
 |_,_,.nil=>.nil
 |_,_,.cons h hne r=>.cons (s.sqt h) hne (r.up s)
theorem b7.at(I:Inv X kX Z H s):∀{vs:List V} {nss:gV},b7 X.K H vs nss->bH s.heap (vs.map lH) nss
 |_,_,.nil=>.nil
 |_,_,.cons h hne r=>by
  obtain⟨its,rv,⟨o,ho,hc,n,hd⟩,_⟩:=I.tuple h;exact .cons ho hc hd (by simpa using intsAre_of rv) hne (r.at I)
theorem xm:∀{vs:List V},(∀v∈vs,RelV v (lH v))->Vals vs (vs.map lH)
 |[],_=>.nil
 |v::vs,h=>.cons (h v zAK) (xm λ u hu=>h u (zAL _ hu))
def setφ(w:World)(a:Addr)(zs:iX):Heap->Prop:=λ h=>∃es t,uO h a (!w.params.followText "set-order") zs es t
abbrev aEN(zs:List (V×List Int)):iX:=zs.map λ q=>(lH q.1,q.2)
def aAp(vs:List V)(nss:gV):(vs.map lH).zip nss=aEN (vs.zip nss):=by rw[zHf];rfl
def aJN{w:World}{H:Hp}{h:Heap}{a:Addr}{zs:iX}(S:uO h a (!w.params.followText "set-order") zs es t):bM prog w H h a (.ext (setφ w a zs)):=
 ⟨⟨es,t,S⟩,(let⟨_,e⟩:=S.at_;⟨_,e⟩),λ h1 h2 ⟨es,t,S⟩ k=>⟨es,t,{S with at_:=S.at_.keep k}⟩⟩
section
variable{X:Cx}
def aDK(K:zAA)(w:World):List V->Hp->VK->Prop:=λ xs H Q=>∃p vs nss,xs=[.ref p]/\(SqL K H p vs\/SqT K H p vs)/\b7 K H vs nss/\(ddV (vs.zip nss)).length<=76/\(∀a∈nss,∀b∈nss,hsh a=hsh b->a=b)/\∀a H',aR H H'->H' a=some (.ext (setφ w a (aEN (ddV (vs.zip nss)))))->H a=none->Q (.ref a) H'
def aCg(hc:X.calm=true)(hu:X.A.units+64<cLine):cX X (.type "set") (aDK X.K X.w):=by
 intro kX s Z H xs us Q I r h;obtain⟨p,vs,nss,rfl,hp,ht,h64,hin,q⟩:=h;obtain⟨u,rfl,ru⟩:=vals1 r;cases ru;have ez:ddV ((vs.map lH).zip nss)=aEN (ddV (vs.zip nss)):=by rw[aAp];exact aJQ lH _
 have h64':(ddV ((vs.map lH).zip nss)).length<=76:=by rw[ez,zAE];exact h64
 have hfr:H s.heap.objs.size=none:=I.hok.fresh (zAS _);have fin:∀h' tk es t,uO h' s.heap.objs.size (!X.w.params.followText "set-order") (ddV ((vs.map lH).zip nss)) es t->(∀b o,s.heap.get? b=some o->h'.get? b=some o)->EP X kX Z Q (.ref s.heap.objs.size) {s with heap:=h',toks:=tk}:=λ h' tk es t g1 g5=>by
  rw[ez]at g1;exact⟨.ref s.heap.objs.size,upd H s.heap.objs.size (.ext (setφ X.w s.heap.objs.size (aEN (ddV (vs.zip nss))))),I.laid (t':=tk) g5 (zAS _) (aJN g1),rfl,q _ _ (bF hfr _) aV hfr⟩
 rcases hp with hp|hp
 .obtain⟨its,rv,pl,hz⟩:=I.list hp
  have e:=ht.vals rv;subst e;exact PySem.aEn (I.ok.hd hc) (by lia) pl.isList (ht.at I) h64' hin fin
 .obtain⟨its,rv,pl,hz⟩:=I.tuple hp
  have e:=ht.vals rv;subst e;exact PySem.aBe (I.ok.hd hc) (by lia) pl (ht.at I) h64' hin fin
def aBk(H:Hp)(vs:List V)(nss:gV)(Q:VK):Prop:=∀zs:List (V×List Int),zs.Perm (vs.zip nss)->qu (zs.map (·.2))->New H (.lst (zs.map (·.1))) Q
def ux{kX:hZ}(I:Inv X kX Z H s)(ht:b7 X.K H vs nss)(h64:vs.length<64)(q:aBk H vs nss Q)
  (hs1:∃h1 tk,s1={s with heap:=h1,toks:=tk}/\s.heap.objs.size<=h1.objs.size/\∀b o,s.heap.get? b=some o->h1.get? b=some o){zs:iX}(hz:zs.Perm ((vs.map lH).zip nss))(hus:us=zs.map (·.1)):
  wpAny (model X.prog X.w) X.A.in1 (zFU us>>=λ l=>zC8 [l] (call (.builtin "list.sort") [l])>>=λ _=>ret l) (λ fin s'=>∃r,fin= .done (.ret r)/\EP X kX Z Q r s') X.xe s1:=by
 obtain⟨h1,tk,rfl,hsz,keep⟩:=hs1;subst hus;have pV:∀p∈zs,aJ4 h1 p:=λ p hp=>by
  obtain⟨x,o,xs,k,e1,e2,e3⟩:=(ht.at I).all p (hz.mem_iff.mp hp);exact⟨x,o,xs,k,e1,keep _ _ e2,e3⟩
 have kK:zs.length<64:=by
  rw[hz.length_eq,zFq,zAE,<-ht.len,zF6];exact h64
 refine aA7 (s:={s with heap:=h1,toks:=tk}) pV kK λ zs' h' e a1 a2 a3 a4=>?_
 have eI:(vs.map lH).zip nss=(vs.zip nss).map λ p=>(lH p.1,p.2):=by rw[zHf];rfl
 obtain⟨ws,w1,w2⟩:=lJ (f:=λ p:V×List Int=>(lH p.1,p.2)) (a1.trans hz) eI;have hfr:H h1.objs.size=none:=I.hok.fresh hsz;have dS:∀v∈ws.map (·.1),RelV v (lH v):=λ v hv=>by
  obtain⟨p,hp,rfl⟩:=zAY.mp hv;exact ht.refs p.1 (zCw (w1.mem_iff.mp hp)).1
 have hws:zs'.map (·.1)=(ws.map (·.1)).map lH:=by rw[w2,zAN,zAN];rfl
 have hwl:(ws.map (·.1)).length<=zAQ:=by
  rw[zAE,w1.length_eq,zFq,<-ht.len,zF6,zBe];lia
 refine⟨.ref h1.objs.size,upd H h1.objs.size (.lst (ws.map (·.1))),I.laid (t':=tk) (λ b o e=>a3 b o (keep b o e)) hsz ⟨hwl,(ws.map (·.1)).map lH,e,xm dS,?_⟩,rfl,(q ws w1 ?_).at hfr⟩
 .rw[<-hws];exact a4
 .have:ws.map (·.2)=zs'.map (·.2):=by rw[w2,zAN];rfl
  rw[this];exact a2
def aCI(K:zAA):List V->Hp->VK->Prop:=λ xs H Q=>∃p vs nss,xs=[.ref p]/\SqL K H p vs/\b7 K H vs nss/\vs.length<64/\aBk H vs nss Q
def xY:cX X (.builtin "sorted") (aCI X.K):=by
 intro kX s Z H xs us Q I r h;obtain⟨p,vs,nss,rfl,hp,ht,h64,q⟩:=h;obtain⟨u,rfl,ru⟩:=vals1 r;cases ru;obtain⟨its,rv,pl,hz⟩:=I.list hp;have e:=ht.vals rv;subst e;have hl2:(vs.map lH).length=nss.length:=by rw[zAE];exact ht.len
 refine iT (collect_list pl.isList ?_ (by rw[zAE];exact hz));refine ux I ht h64 q ⟨_,_,rfl,?_,λ b o e=>?_⟩ (zBK _) ?_
 .rw[zHw,size_push']
  exact zCm _
 .rw[zBz _ _ _ _ (zA1 (zAR e))]
  exact zAC _ e
 .exact(zF3 (by lia)).symm
def aBw{kX:hZ}{P:Value->zAF->Prop}(hc:X.calm=true)(I:Inv X kX Z H s){zs:iX}(ha:H a=some (.ext (setφ X.w a zs)))(h64:zs.length<4000)
  (h:∀s1 (zs':iX),(∃h1 tk,s1={s with heap:=h1,toks:=tk}/\s.heap.objs.size<=h1.objs.size/\∀b o,s.heap.get? b=some o->h1.get? b=some o)->zs'.Perm zs->wpAny (model X.prog X.w) X.A.in1 (zFU (zs'.map (·.1))>>=λ l=>zC8 [l] (call (.builtin "list.sort") [l])>>=λ _=>ret l) (λ fin s'=>∃r,fin= .done (.ret r)/\P r s') X.xe s1):
  wpAny (model X.prog X.w) X.A (call (.builtin "sorted") [.ref a]) P X.xe s:=by
 obtain⟨⟨es,t,S⟩,_,_⟩:=I.hok a _ ha;obtain⟨⟨ep,e1⟩,e2,_,e3,e4,_⟩:=S;have hsz:es.size=zs.length:=by rw[<-zA4,e4.length_eq,zAE]
 have hh:X.A.in1.handled=none:=I.ok.hd hc;refine iT (tZ (aHl (ep:=ep) e2 e3) hh e1 (by rw[hsz,zBe];lia) λ h1 tk vs1 k0 k1 k2 k3=>?_);obtain⟨zs',z1,z2⟩:=lJ (f:=ent) ((nT X.w a ep es).trans e4) rfl;have hvs:vs1=zs'.map (·.1):=by
  have e5:(pq X.w a ep es).toList.map (·.2)=zs'.map (·.1):=by rw[z2,zAN];rfl
  rw[<-e5];have kK:(pq X.w a ep es).toList.length=es.size:=by rw[(nT X.w a ep es).length_eq,zA4]
  refine zF0 (by rw[k2,zAE,kK]) λ i g1 g2=>?_
  have:=k3 i _ (zAH g1)
  rw[<-zAi,<-zAO,zAH g2]at this;exact(zAs this).symm
 subst hvs;exact h _ zs' ⟨h1,tk,rfl,zBZ k0,k1⟩ z1
theorem aFA:∀zs:List (α×β),(zs.map (·.1)).zip (zs.map (·.2))=zs
 |[]=>rfl
 |p::zs=>by rw[zAD,zAD,zAu,aFA zs]
def aCJ(K:zAA)(w:World):List V->Hp->VK->Prop:=λ xs H Q=>∃a zs,xs=[.ref a]/\H a=some (.ext (setφ w a (aEN zs)))/\b7 K H (zs.map (·.1)) (zs.map (·.2))/\zs.length<64/\aBk H (zs.map (·.1)) (zs.map (·.2)) Q
def xf(hc:X.calm=true):cX X (.builtin "sorted") (aCJ X.K X.w):=by
 intro kX s Z H xs us Q I r h;obtain⟨a,zs,rfl,ha,ht,h64,q⟩:=h;obtain⟨u,rfl,ru⟩:=vals1 r;cases ru;exact aBw hc I ha (by rw[zAE];lia) λ s1 zs' hs1 hp=>ux I ht (by rw[zAE];exact h64) q hs1 (by rw[aAp,aFA];exact hp) rfl
end
def aEc(a:List Int):gV->List (List Int)
 |[]=>[a]
 |b::l=>if HT.lexLt b a then b::aEc a l else a::b::l
def tG:gV->List (List Int)
 |[]=>[]
 |a::l=>aEc a (tG l)
theorem sJ(a:List Int):∀l,(aEc a l).Perm (a::l)
 |[]=>zBK _
 |b::l=>by
  unfold aEc;split
  .exact((sJ a l).cons b).trans (zCG _ _ _)
  .exact zBK _
theorem o6:∀l,(tG l).Perm l
 |[]=>zBK _
 |a::l=>(sJ a _).trans ((o6 l).cons a)
def aIh(h:HT.lexLt a b=true):HT.lexLt b a=false:=by
 cases e:HT.lexLt b a with
 |false=>rfl
 |true=>have:=qH a b a h e;rw[zm]at this;cases this
def aLT(h1:HT.lexLt b a=false)(h2:HT.lexLt c b=false):HT.lexLt c a=false:=by
 cases e:HT.lexLt c a with
 |false=>rfl
 |true=>
  rcases aG2 c b a e with z|z
  .rw[h2]at z;cases z
  .rw[h1]at z;cases z
theorem wH(a:List Int):∀l,qu l->qu (aEc a l)
 |[],_=>zAx.mpr ⟨λ _ h=>by simp at h,.nil⟩
 |b::l,h=>by
  obtain⟨h1,h2⟩:=zAx.mp h;unfold aEc;cases e:HT.lexLt b a with
  |true=>
   rw[if_pos rfl];refine zAx.mpr ⟨λ x hx=>?_,wH a l h2⟩;rcases zAT.mp ((sJ a l).mem_iff.mp hx)with q|q
   .subst q;exact aIh e
   .exact h1 x q
  |false=>
   rw[if_neg (by simp)];refine zAx.mpr ⟨λ x hx=>?_,h⟩;rcases zAT.mp hx with q|q
   .subst q;exact e
   .exact aLT e (h1 x q)
theorem mR:∀l,qu (tG l)
 |[]=>.nil
 |a::l=>wH a _ (mR l)
theorem yE:∀{a b:gV},a.Perm b->qu a->qu b->a=b
 |[],b,p,_,_=>p.nil_eq
 |x::a,b,p,h1,h2=>by
  cases b with
  |nil=>exact absurd p.length_eq (by simp)
  |cons y b=>
   have hxy:x=y:=by
    obtain⟨q1,_⟩:=zAx.mp h1;obtain⟨q2,_⟩:=zAx.mp h2;have m1:x∈y::b:=p.mem_iff.mp zAK;have m2:y∈x::a:=p.mem_iff.mpr zAK;rcases zAT.mp m1 with e|m1
    .exact e
    .rcases zAT.mp m2 with e|m2
     .exact e.symm
     .exact vf _ _ (q2 x m1) (q1 y m2)
   subst hxy;rw[yE (List.Perm.cons_inv p) (zAx.mp h1).2 (zAx.mp h2).2]
abbrev tupI(ns:List Int):D:=.tup (ns.map .int)
def mL:List D->Option gV
 |[]=>some []
 | .tup l::r=>match intsOf l,mL r with
  |some (n::ns),some nss=>some ((n::ns)::nss)
  |_,_=>none
 |_=>none
theorem mK:∀{l:List D} {nss:gV},mL l=some nss->l=nss.map tupI/\∀ns∈nss,ns≠[]
 |[],nss,h=>by cases h;exact⟨rfl,λ ns h=>by simp at h⟩
 | .tup l::r,nss,h=>by
  unfold mL at h;split at h
  .rename_i n ns nss' e1 e2
   cases h;obtain⟨q1,q2⟩:=mK e2;rw[bW e1,q1];refine⟨rfl,λ ms hm=>?_⟩;rcases zAT.mp hm with e|hm
   .subst e;simp
   .exact q2 ms hm
  .cases h
 | .non::_,_,h=>by cases h
 | .int _::_,_,h=>by cases h
 | .bl _::_,_,h=>by cases h
 | .str _::_,_,h=>by cases h
 | .lst _::_,_,h=>by cases h
 | .dct _ _::_,_,h=>by cases h
 | .set _::_,_,h=>by cases h
 | .scr _::_,_,h=>by cases h
theorem uq:∀{nss:gV},(∀ns∈nss,ns≠[])->mL (nss.map tupI)=some nss
 |[],_=>rfl
 |[]::nss,h=>absurd rfl (h [] zAK)
 |(n::ns)::nss,h=>by
  have ih:=uq λ ms hm=>h ms (zAL _ hm)
  rw[zAD];unfold mL;rw[ih,show intsOf (zHY D.int (n::ns))=some (n::ns)from cH _]
theorem uo{K:zAA}:∀{xs:List V} {nss:gV},Rps K A H xs (nss.map tupI)->(∀ns∈nss,ns≠[])->b7 K H xs nss
 |_,[],.nil,_=>.nil
 |_,ns::nss,.cons h r,hne=>by
  cases h with
  |tup h r'=>
   have e:=r'.ints_of;subst e;exact .cons h (hne ns zAK) (uo r λ ms hm=>hne ms (zAL _ hm))
theorem aF9{K:zAA}:∀{zs:List (V×List Int)},(∀p∈zs,∃a,p.1= .ref a/\SqT K H a (p.2.map V.int))->Rps K A H (zs.map (·.1)) ((zs.map (·.2)).map tupI)
 |[],_=>.nil
 |p::zs,h=>by
  obtain⟨a,e1,e2⟩:=h p zAK;rw[zAD,zAD,zAD,e1];exact .cons (.tup e2 .ints) (aF9 λ q hq=>h q (zAL _ hq))
theorem b7.all{K:zAA}:∀{vs:List V} {nss:gV},b7 K H vs nss->∀p∈vs.zip nss,∃a,p.1= .ref a/\SqT K H a (p.2.map V.int)
 |_,_,.nil,p,hp=>by simp at hp
 |_,_,.cons h _ r,p,hp=>by
  rw[zAu]at hp;rcases zAT.mp hp with e|hp
  .subst e;exact⟨_,rfl,h⟩
  .exact r.all p hp
def aA9{K:zAA}(ht:b7 K H vs nss)(q:∀v H',aR H H'->Rp K (λ p=>H p=none) H' v (.lst ((tG nss).map tupI))->Q v H'):aBk H vs nss Q:=by
 intro zs hz hr p H' s hp hn;have e:zs.map (·.2)=tG nss:=yE (((hz.map (·.2)).trans (by rw[zEX (by rw[ht.len];exact zAS _)])).trans (o6 nss).symm) hr (mR nss);refine q _ H' s (.lst hp hn ?_);rw[<-e];exact aF9 λ p hp=>by
  obtain⟨a,e1,e2⟩:=ht.all p (hz.mem_iff.mp hp);exact⟨a,e1,s.sqt e2⟩
def insI(a:Int):List Int->List Int
 |[]=>[a]
 |b::l=>if b<a then b::insI a l else a::b::l
def sortI:List Int->List Int
 |[]=>[]
 |a::l=>insI a (sortI l)
theorem insI_perm(a:Int):∀l,(insI a l).Perm (a::l)
 |[]=>zBK _
 |b::l=>by
  unfold insI;split
  .exact((insI_perm a l).cons b).trans (zCG _ _ _)
  .exact zBK _
theorem sortI_perm:∀l,(sortI l).Perm l
 |[]=>zBK _
 |a::l=>(insI_perm a _).trans ((sortI_perm l).cons a)
theorem aBY(a:Int):∀l:List Int,l.Pairwise (·<=·)->(insI a l).Pairwise (·<=·)
 |[],_=>zAx.mpr ⟨λ _ h=>by simp at h,.nil⟩
 |b::l,h=>by
  obtain⟨h1,h2⟩:=zAx.mp h;unfold insI;by_cases e:b<a
  .rw[if_pos e]
   refine zAx.mpr ⟨λ x hx=>?_,aBY a l h2⟩;rcases zAT.mp ((insI_perm a l).mem_iff.mp hx)with q|q
   .lia
   .exact h1 x q
  .rw[if_neg e]
   refine zAx.mpr ⟨λ x hx=>?_,h⟩;rcases zAT.mp hx with q|q
   .lia
   .have:=h1 x q;lia
theorem nP:∀l,(sortI l).Pairwise (·<=·)
 |[]=>.nil
 |a::l=>aBY a _ (nP l)
theorem kh:∀{us:List Value} {ns:List Int},zBH us ns->Vals (ns.map V.int) us
 |_,_,.nil=>.nil
 |_,_,.cons n t r=>.cons ⟨t,rfl⟩ (kh r)
section
variable{X:Cx}
def aCK(K:zAA):List V->Hp->VK->Prop:=λ xs H Q=>∃p ns,xs=[.ref p]/\SqL K H p (ns.map V.int)/\ns.length<64/\New H (.lst ((sortI ns).map V.int)) Q
def aAO:cX X (.builtin "sorted") (aCK X.K):=by
 intro kX s Z H xs us Q I r h;obtain⟨p,ns,rfl,hp,h64,q⟩:=h;obtain⟨u,rfl,ru⟩:=vals1 r;cases ru;obtain⟨its,rv,pl,hz⟩:=I.list hp;have hI:zBH its ns:=intsAre_of rv;have kK:its.length<64:=by
  have:=rv.length
  rw[zAE]at this;lia
 refine sorted_ints pl.isList hI kK λ out ns' h1 h2 h3=>?_
 have e:ns'=sortI ns:=zHP (h2.trans (sortI_perm ns).symm) h3 (nP ns);subst e;obtain⟨e,he⟩:=sortedAll_at s.heap its out;have hfr:H (s.heap.objs.size+1)=none:=I.hok.fresh (zCm _);refine⟨.ref (s.heap.objs.size+1),upd H (s.heap.objs.size+1) (.lst ((sortI ns).map V.int)),I.laid (t':=s.toks) (λ b o q=>sortedAll_old q) (zCm _) ?_,rfl,q.at hfr⟩;refine⟨?_,out.toList,e,kh h1,?_⟩
 .rw[zAE,h2.length_eq]
  exact zAn (zBZ h64) (by decide)
 .rw[zGg]
  exact he
end
def yz(K:zAA)(r:List V->Hp->VK->Prop)(fd:List D->Rs D):Prop:=∀(A:Addr->Prop) xs ds H (Q:VK) z,Rps K A H xs ds->fd ds= .ok z->(∀v H',aR H H'->Rp K (λ p=>H p=none) H' v z->Q v H')->r xs H Q
def pX{K:zAA}(hs:yz K r fd)(h1:aJ2 K G m ta g):iR K G (some []) (tCB r ta) (opA fd g):=by
 intro U Z H ρ lab Q R W;refine h1 U Z H ρ lab _ R (W.bd.imp λ d _ w x H1 s1 r1=>?_);obtain⟨z,ez,w⟩:=w.okD;exact hs (fpM m lab H) x d H1 Q z r1 ez λ v H' s r=>w v H' (s1.trans s) (r.wk λ p o _ q=>.inl (s1.free q))
def mU:List D->Rs D
 |[.lst l]=>match mL l with
  |some nss=>if nss.length<64 then .ok (.lst ((tG nss).map tupI))else .st
  |none=>match intsOf l with
   |some ns=>if ns.length<64 then .ok (.lst ((sortI ns).map .int))else .st
   |none=>.st
 |_=>.st
def aEm{K:zAA}:yz K (λ xs H Q=>aCI K xs H Q\/aCK K xs H Q) mU:=by
 intro A xs ds H Q z r ez q;unfold mU at ez;split at ez
 .cases r with
  |cons h r=>
   cases r;cases h with
   |lst h m r=>
    split at ez
    .rename_i nss e
     obtain⟨e1,e2⟩:=mK e;subst e1;split at ez
     .rename_i hl
      cases ez;have ht:=uo r e2;exact .inl ⟨_,_,nss,rfl,SqL.of h,ht,by rw[ht.len];exact hl,aA9 ht q⟩
     .cases ez
    .split at ez
     .rename_i ns e
      have e1:=bW e;subst e1;split at ez
      .rename_i hl
       cases ez;have e2:=r.ints_of;subst e2;exact .inr ⟨_,ns,rfl,SqL.of h,hl,λ p H' s hp hn=>q _ H' s (.lst hp hn .ints)⟩
      .cases ez
     .cases ez
 .cases ez
section
variable{C:Ct}{pos p:Pos}{m:Mode}{a:Expr}{ga:En->Rs (List D)}
def yC(hm:C.mg "sorted"=none)(ha:SA C m [a] ga)(he:∀i,zAU [a] (C.X i).env=[(false,eval a (C.X i).env)]:=by intro _;rfl)(hg:∀i,Gl (C.X i) "sorted":=by intro _;rfl)(hv:zAz "sorted"=some (.builtin "sorted"):=by decide+kernel):SE C (some []) (.Call (.Name "sorted" p) [a] [] pos) (opA mU ga):=by
 obtain⟨t,h1,h2⟩:=ha;refine⟨_,λ i=>gG (r:=λ xs H Q=>aCI C.K xs H Q\/aCK C.K xs H Q) (by rw[<-C.hK i];exact xY.or aAO) (hg i) (by rw[(C.cx i).2.2.2.1];exact hm) hv (h1 i) (by decide) (by decide) (he i) rfl,pX aEm h2⟩
end
def aJB(nss:gV):Bool:=nss.all λ a=>nss.all λ b=>a==b||hsh a !=hsh b
def aJA(h:aJB nss=true):∀a∈nss,∀b∈nss,hsh a=hsh b->a=b:=λ a ha b hb e=>by
 have:=zAv.mp (zAv.mp h a ha) b hb
 simpa[e]using this
theorem b7.one{K:zAA}:∀{zs:List (V×List Int)},(∀p∈zs,∃a,p.1= .ref a/\SqT K H a (p.2.map V.int)/\p.2≠[])->b7 K H (zs.map (·.1)) (zs.map (·.2))
 |[],_=>.nil
 |p::zs,h=>by
  obtain⟨a,e1,e2,e3⟩:=h p zAK;rw[zAD,zAD,e1];exact .cons e2 e3 (b7.one λ q hq=>h q (zAL _ hq))
theorem b7.ne{K:zAA}:∀{vs:List V} {nss:gV},b7 K H vs nss->∀ns∈nss,ns≠[]
 |_,_,.nil,ns,h=>by simp at h
 |_,_,.cons _ hne r,ns,h=>by
  rcases zAT.mp h with e|h
  .subst e;exact hne
  .exact r.ne ns h
def b7.dd{K:zAA}(t:b7 K H vs nss):b7 K H ((ddV (vs.zip nss)).map (·.1)) ((ddV (vs.zip nss)).map (·.2)):=b7.one λ p hp=>by
 obtain⟨a,e1,e2⟩:=t.all p (ud hp);exact⟨a,e1,e2,t.ne _ (zCw (ud hp)).2⟩
theorem b7.ddT{K:zAA}(t:b7 K H vs nss):(ddV (vs.zip nss)).map (·.2)=VL.ddT nss:=by rw[aJP,zEX (by rw[t.len];exact zAS _)]
def iz(n:Nat)(l:List D):Rs D:=match mL l with
 |some nss=>if (ddT nss).length<n/\aJB nss=true then .ok (.lst ((tG (ddT nss)).map tupI))else .st
 |none=>.st
def gB:List D->Rs D
 |[.lst l]=>iz 64 l
 |[.tup l]=>iz 64 l
 |_=>.st
def aHr{K:zAA}{w:World}{Q Q':VK}(hp:SqL K H p vs\/SqT K H p vs)(r:Rps K A H vs l)(ez:iz n l= .ok z)(hn:n<=77)
  (hr:∀a zs H2,aR H H2->H2 a=some (.ext (setφ w a (aEN zs)))->b7 K H2 (zs.map (·.1)) (zs.map (·.2))->zs.length<n->aBk H2 (zs.map (·.1)) (zs.map (·.2)) Q->Q' (.ref a) H2)
  (q:∀v H',aR H H'->Rp K (λ p=>H p=none) H' v z->Q v H'):aDK K w [.ref p] H Q':=by
 unfold iz at ez;split at ez
 .rename_i nss e
  obtain⟨e1,e2⟩:=mK e;subst e1;split at ez
  .rename_i hl
   cases ez;have ht:=uo r e2;have hlv:=hl.1;rw[<-ht.ddT,zAE]at hlv;refine⟨_,_,nss,rfl,hp,ht,by lia,aJA hl.2,λ a H2 s2 ha hn=>hr a _ H2 s2 ha (ht.dd.up s2) hlv ?_⟩;refine aA9 (ht.dd.up s2) ?_;rw[ht.ddT];exact λ v H' s r=>q v H' (s2.trans s) (r.wk λ p o _ q=>s2.free q)
  .cases ez
 .cases ez
section
variable{C:Ct}{pos p p2 pos2:Pos}{m:Mode}{a:Expr}{ga:En->Rs (List D)}
def zK(hm:C.mg "sorted"=none)(hm2:C.mg "set"=none)(ha:SA C m [a] ga)(he:∀i,zAU [a] (C.X i).env=[(false,eval a (C.X i).env)]:=by intro _;rfl)(he2:∀i,zAU [Expr.Call (.Name "set" p2) [a] [] pos2] (C.X i).env=[(false,eval (.Call (.Name "set" p2) [a] [] pos2) (C.X i).env)]:=by intro _;rfl)(hg:∀i,Gl (C.X i) "sorted":=by intro _;rfl)(hv:zAz "sorted"=some (.builtin "sorted"):=by decide+kernel)(hg2:∀i,Gl (C.X i) "set":=by intro _;rfl)(hv2:zAz "set"=some (.type "set"):=by decide+kernel):
  SE C (some []) (.Call (.Name "sorted" p) [.Call (.Name "set" p2) [a] [] pos2] [] pos) (opA gB ga):=by
 obtain⟨t,h1,h2⟩:=ha;have hw:∀i,(C.X i).w=C.w:=λ i=>(C.cx i).2.1
 refine⟨tCB (aCJ C.K C.w) (dR (tCB (aDK C.K C.w) t) uF),λ i=>gG (by rw[<-C.hK i,<-hw i];exact xf (C.calm i)) (hg i) (by rw[(C.cx i).2.2.2.1];exact hm) hv
  (bz (nR (by rw[<-C.hK i,<-hw i];exact aCg (C.calm i) (C.u64 i)) (hg2 i) (by rw[(C.cx i).2.2.2.1];exact hm2) hv2 (h1 i) (by decide) (by decide) (he i) rfl) jF (he2 i)) (by decide) (by decide) (he2 i) rfl,λ U Z H ρ lab Q R W=>?_⟩
 refine h2 U Z H ρ lab _ R (W.bd.imp λ ds _ w xs H1 s1 r1=>?_);obtain⟨z,ez,w⟩:=w.okD;have fin:∀{p vs l},(SqL C.K H1 p vs\/SqT C.K H1 p vs)->∀{A},Rps C.K A H1 vs l->iz 64 l= .ok z->aDK C.K C.w [.ref p] H1 λ x H2=>aCJ C.K C.w [x] H2 Q:=λ hp _ r ez=>aHr hp r ez (by decide) (λ a zs H2 _ h1 h2 h3 h4=>⟨a,zs,rfl,h1,h2,h3,h4⟩) λ v H' s r=>w v H' (s1.trans s) (r.wk λ p o _ q=>.inl (s1.free q))
 unfold gB at ez;split at ez
 .cases r1 with
  |cons h r=>
   cases r;obtain⟨a,xs,rfl,h,m,r⟩:=h.lst_inv;exact fin (.inl (SqL.of h)) r ez
 .cases r1 with
  |cons h r=>
   cases r;obtain⟨a,xs,rfl,h,r⟩:=h.tup_inv;exact fin (.inr h) r ez
 .cases ez
end
structure Mg{β:Type}(r:β->β->Prop)(T out ra rb:List β):Prop where
 pm:(out++(ra++rb)).Perm T
 so:out.Pairwise r
 lo:∀x∈out,∀y∈ra++rb,r x y
 sa:ra.Pairwise r
 sb:rb.Pairwise r
section
variable{β:Type}{r:β->β->Prop}{T:List β}
def Mf(r:β->β->Prop)(T o:List β):Prop:=o.Perm T/\o.Pairwise r
end
structure Cm(prog:zAV)(w:World)(A:zAc)(s:zAF)(κ:zDH)(O:zCN)(kf:Keyed->O.α)(G:Keyed->Prop):Prop where
 lt:∀x y,G x->G y->∀C:Bool->zAF->Prop,C (O.blt (kf x) (kf y)) s->wpAny (model prog w) A (keyLt' κ x.1 y.1) C (λ _ _=>False) s
structure Eg(st st':zD3):Prop where
 k:zD4 st'=zD4 st
 a:arrOf st'=arrOf st
 p:zGa st'=zGa st
 f:zG3 st'=zG3 st
abbrev LS:=Option (Array Keyed)×Array Keyed×Nat×Nat×Nat×Nat×Nat
section
variable{O:zCN}{kf:Keyed->O.α}{T:List Keyed}{a b out:Array Keyed}{ia ib mg ac bc m0:Nat}{st:zD3}{Q:ForInStep LS->zD3->Prop}
abbrev rK(O:zCN)(kf:Keyed->O.α)(x y:Keyed):Prop:=O.kle (kf x) (kf y)
abbrev Ml(O:zCN)(kf:Keyed->O.α)(T:List Keyed)(a b out:Array Keyed)(ia ib:Nat):Prop:=Mg (rK O kf) T out.toList (a.toList.drop ia) (b.toList.drop ib)
structure Tu(O:zCN)(kf:Keyed->O.α)(T:List Keyed)(a b:Array Keyed)(m0:Nat)(st:zD3)(Q:ForInStep LS->zD3->Prop):Prop where
 ret:∀o out ia ib mg ac bc st',Eg st st'->Mf (rK O kf) T o.toList->Q (.done (some o,out,ia,ib,mg,ac,bc)) st'
 on:∀out ia ib mg ac bc st',Eg st st'->Ml O kf T a b out ia ib->ia+1<a.size->ib<b.size->m0<ia+ib->Q (.done (none,out,ia,ib,mg,ac,bc)) st'/\Q (.yield (none,out,ia,ib,mg,ac,bc)) st'
end
abbrev HS:=Option (Array Keyed)×Nat×Nat×Array Keyed×Nat×Nat×Nat
section
variable{O:zCN}{kf:Keyed->O.α}{T:List Keyed}{a b out:Array Keyed}{na nb mg ac bc m0:Nat}{st:zD3}{Q:ForInStep HS->zD3->Prop}
abbrev rH(O:zCN)(kf:Keyed->O.α)(x y:Keyed):Prop:=O.kle (kf y) (kf x)
abbrev Mh(O:zCN)(kf:Keyed->O.α)(T:List Keyed)(a b out:Array Keyed)(na nb:Nat):Prop:=Mg (rH O kf) T out.toList (a.toList.take na).reverse (b.toList.take nb).reverse
structure Th(O:zCN)(kf:Keyed->O.α)(T:List Keyed)(a b:Array Keyed)(m0:Nat)(st:zD3)(Q:ForInStep HS->zD3->Prop):Prop where
 ret:∀o na nb out mg ac bc st',Eg st st'->Mf (rK O kf) T o.toList->Q (.done (some o,na,nb,out,mg,ac,bc)) st'
 on:∀na nb out mg ac bc st',Eg st st'->Mh O kf T a b out na nb->0<na->1<nb->na<=a.size->nb<=b.size->na+nb<m0->Q (.done (none,na,nb,out,mg,ac,bc)) st'/\Q (.yield (none,na,nb,out,mg,ac,bc)) st'
end
structure Ea(st st':zD3):Prop where
 k:zD4 st'=zD4 st
 p:zGa st'=zGa st
 f:zG3 st'=zG3 st
section
variable{κ:zDH}{G:Keyed->Prop}{st:zD3}{P R:List Keyed}{lo:Nat}
structure Sg(κ:zDH)(G:Keyed->Prop)(st:zD3)(lo:Nat)(P R:List Keyed):Prop where
 k:zD4 st=κ
 l:(arrOf st).toList=P++R
 p:P.length=lo
 g:∀x∈R,G x
end
def Pr(O:zCN)(kf:Keyed->O.α):Nat->List (List Keyed)->List (Nat×Nat×Nat)->Prop
 |_,[],[]=>True
 |o,x::segs,p::ps=>p.1=o/\p.2.1=x.length/\0<x.length/\x.Pairwise (rK O kf)/\Pr O kf (o+x.length) segs ps
 |_,_,_=>False
section
variable{κ:zDH}{O:zCN}{kf:Keyed->O.α}{st:zD3}{T R:List Keyed}{segs:List (List Keyed)}
structure Rn(κ:zDH)(O:zCN)(kf:Keyed->O.α)(T:List Keyed)(st:zD3)(segs:List (List Keyed))(R:List Keyed):Prop where
 k:zD4 st=κ
 f:zG3 st=none
 l:(arrOf st).toList=segs.flatten++R
 pm:(arrOf st).toList.Perm T
 pr:Pr O kf 0 segs (zGa st).toList
end
def ddI(ns:List Int):List Int:=ns.foldl zBx []
def aHO(ns:List Int):zEU (λ i=>ns.getD i 0) ns.length=ddI ns:=by
 unfold zEU ddI;congr 1;refine zF0 (by simp) λ i h1 h2=>?_
 rw[zCj,zHX,zA8,zAH h2];rfl
def aJO(hl:l.Nodup)(n:Int):(zBx l n).Nodup/\∀x,x∈zBx l n↔x∈l\/x=n:=by
 unfold zBx;by_cases h:l.any (·==n)=true
 .rw[if_pos h]
  have:n∈l:=by simpa using h
  exact⟨hl,λ x=>⟨.inl,λ q=>q.elim id λ e=>e▸this⟩⟩
 .rw[if_neg h]
  have:n∉l:=by simpa using h
  refine⟨zAa.mpr ⟨hl,by simp,λ x hx y hy e=>?_⟩,λ x=>by simp⟩;rw[zAM]at hy;subst hy;subst e;exact this hx
theorem aKB:∀(ns acc:List Int),acc.Nodup->(ns.foldl zBx acc).Nodup/\∀x,x∈ns.foldl zBx acc↔x∈acc\/x∈ns
 |[],acc,h=>⟨h,λ x=>by simp⟩
 |n::ns,acc,h=>by
  obtain⟨h1,h2⟩:=aJO h n;obtain⟨h3,h4⟩:=aKB ns _ h1;refine⟨h3,λ x=>?_⟩;rw[zBN,h4,h2,zAT];constructor
  .rintro((a|a)|a)
   .exact .inl a
   .exact .inr (.inl a)
   .exact .inr (.inr a)
  .rintro(a|a|a)
   .exact .inl (.inl a)
   .exact .inl (.inr a)
   .exact .inr a
def yo(ns:List Int):(ddI ns).Nodup:=(aKB ns [] (by simp)).1
section
variable{X:Cx}
def aFm(K:zAA):List V->Hp->VK->Prop:=λ xs H Q=>∃p ns,xs=[.ref p]/\(SqL K H p (ns.map V.int)\/SqT K H p (ns.map V.int))/\ns.length<4000/\∀a H',aR H H'->H' a=some (.set (λ k=>(ddI ns).any (·==k)) (ddI ns).length)->H a=none->Q (.ref a) H'
def aAe(I:Inv X kX Z H s)(q:∀a H',aR H H'->H' a=some (.set (λ k=>(ddI ns).any (·==k)) (ddI ns).length)->H a=none->Q (.ref a) H')
  (g1:h'.SetOf (zCo X.prog X.w) s.heap.objs.size (λ k'=>(zEU (λ i=>ns.getD i 0) ns.length).any (·==k')) (zEU (λ i=>ns.getD i 0) ns.length).length)(g2:∀b o,s.heap.get? b=some o->h'.get? b=some o):EP X kX Z Q (.ref s.heap.objs.size) {s with heap:=h',toks:=tk}:=by
 rw[aHO]at g1;have hfr:H s.heap.objs.size=none:=I.hok.fresh (zAS _);exact⟨.ref s.heap.objs.size,upd H s.heap.objs.size (.set (λ k=>(ddI ns).any (·==k)) (ddI ns).length),I.laid (t':=tk) g2 (zAS _) g1,rfl,q _ _ (bF hfr _) aV hfr⟩
def aAd{s:zAF}{St:Nat->zAF->Prop}(hl:l<s.heap.objs.size)(hi:zBH its ns)(hz:ns.length<4000)
  (W:WalksS prog w A.in1 (s.heap.objs.size+1) [s.heap.objs.size+1,l] [s.heap.objs.size+1] (λ a b=>b=a) its.toArray.size (λ i v=>its.toArray[i]? =some v) St)(st:St 0 {s with heap:=(s.heap.push (bI #[] 0 (.fresh 0 0 led))).push oI})
  (R:zER->zAF->Prop)(hR:∀h' tk,h'.SetOf (zCo prog w) s.heap.objs.size (λ k'=>(zEU (λ i=>ns.getD i 0) ns.length).any (·==k')) (zEU (λ i=>ns.getD i 0) ns.length).length->(∀b o,s.heap.get? b=some o->h'.get? b=some o)->R (.ok (.ret .none)) {s with heap:=h',toks:=tk}):
  zCR (model prog w) A (.builtin "set.update.loop" ⟨[.ref s.heap.objs.size,.ref (s.heap.objs.size+1)],[]⟩) R {s with heap:=(s.heap.push (bI #[] 0 (.fresh 0 0 led))).push oI}:=by
 have kK:its.length=ns.length:=zHb hi;have hSf:s.heap.objs.size∉[s.heap.objs.size+1,l]:=by
  simp only[zAT,zB2,or_false,not_or];exact⟨zA1 (zBb _),zB4 hl⟩
 have hsz:its.toArray.size=ns.length:=by rw[zAX];exact kK
 refine PyProof.Rows.codeAny_set_update_loopS W s.heap.objs.size hSf (λ i=>ns.getD i 0) (λ i v hv=>zHN hi i v (by simpa using hv)) (by rw[hsz];unfold scanBound;lia) (its.toArray.size-0) 0 _ (by lia) (zAf _) st ?_ λ s' hm hS'=>?_
 .have hget:((s.heap.push (bI #[] 0 (.fresh 0 0 led))).push oI).get? s.heap.objs.size=some (bI #[] 0 (.fresh 0 0 led)):=zAC _ (zAJ _ rfl)
  exact PyProof.Rows.SetOf_congr ((PyProof.Rows.setObjOf_fresh (knd:=zCo prog w) led).setOf hget (by unfold scanBound;lia)) (λ _=>rfl) rfl
 .obtain⟨h',g',d',tk',os'⟩:=s'
  have eg:g'=s.gens:=hm.gens;have ed:d'=s.drawn:=hm.drawn;have eo:os'=s.os:=hm.os;subst eg;subst ed;subst eo;rw[hsz]at hS';refine hR h' tk' hS' λ b o e=>hm.heap b o ?_ (zAC _ (zAC _ e))
  have hb:=zAR e;simp only[zAT,zB2,or_false,not_or];exact⟨zA1 hb,zA1 (zBi hb)⟩
def aEo(hc:X.calm=true):cX X (.type "set") (aFm X.K):=by
 intro kX s Z H xs us Q I r h;obtain⟨p,ns,rfl,hp,hz,q⟩:=h;obtain⟨u,rfl,ru⟩:=vals1 r;cases ru;have hh:X.A.in1.in1.in1.handled=none:=I.ok.hd hc;have hsz:∀o:Obj,(s.heap.push o).objs.size=s.heap.objs.size+1:=λ o=>zBD _ _
 rcases hp with hp|hp
 .obtain⟨its,rv,pl,_⟩:=I.list hp
  have hI:zBH its ns:=intsAre_of rv;have hl0:=pl.isList;obtain⟨ol,hol,hcl,nl,hdl⟩:=pl.isList;have hlS:p<s.heap.objs.size:=zAR hol;refine PySem.nG (T:="list") (Φ:=λ h'=>h'.SetOf (zCo X.prog X.w) s.heap.objs.size (λ k'=>(zEU (λ i=>ns.getD i 0) ns.length).any (·==k')) (zEU (λ i=>ns.getD i 0) ns.length).length) ⟨ol,hol,hcl⟩ F.sub_list_set zH9 (by decide)
   (λ zD yB yA Q₁ k q=>zE4 (s:={s with heap:=zD}) (items:=its.toArray) ⟨ol,k _ _ hol,hcl,nl,hdl⟩ q) (λ R hR=>?_) λ h' tk g1 g2=>aAe I q g1 g2
  rw[hsz];refine aAd hlS hI hz ((zH5 hh _ p (zA1 (zBi hlS)) its.toArray).toS) ⟨?_,?_⟩ R hR
  .have e:=zAJ (s.heap.push (bI #[] 0 (.fresh 0 0 (!X.w.params.followText "set-order")))) (o:={cls:=.type "list_iterator",data:=.fields #[.ref p,.int 0 0]}) rfl
   rw[hsz]at e;exact⟨_,e,rfl,rfl⟩
  .exact⟨ol,zAC _ (zAC _ hol),hcl,nl,hdl⟩
 .obtain⟨its,rv,pl,_⟩:=I.tuple hp
  have hI:zBH its ns:=intsAre_of rv;obtain⟨ol,hol,hcl,nl,hdl⟩:=id pl;have hlS:p<s.heap.objs.size:=zAR hol;refine PySem.nG (T:="tuple") (Φ:=λ h'=>h'.SetOf (zCo X.prog X.w) s.heap.objs.size (λ k'=>(zEU (λ i=>ns.getD i 0) ns.length).any (·==k')) (zEU (λ i=>ns.getD i 0) ns.length).length) ⟨ol,hol,hcl⟩ zIh zHT (by decide)
   (λ zD yB yA Q₁ k q=>zFl (s:={s with heap:=zD}) (items:=its.toArray) ⟨ol,k _ _ hol,hcl,nl,hdl⟩ q) (λ R hR=>?_) λ h' tk g1 g2=>aAe I q g1 g2
  rw[hsz];refine aAd hlS hI hz ((zIp hh _ p (zA1 (zBi hlS)) its.toArray).toS) ⟨?_,?_⟩ R hR
  .have e:=zAJ (s.heap.push (bI #[] 0 (.fresh 0 0 (!X.w.params.followText "set-order")))) (o:={cls:=.type "tuple_iterator",data:=.fields #[.ref p,.int 0 0]}) rfl
   rw[hsz]at e;exact⟨_,e,rfl,rfl⟩
  .exact⟨ol,zAC _ (zAC _ hol),hcl,nl,hdl⟩
def aEr:cX X (.builtin "len") (λ xs H Q=>∃p S n,xs=[.ref p]/\H p=some (.set S n)/\Q (.int n) H):=by
 intro kX s Z H xs us Q I r h;obtain⟨p,S,n,rfl,hp,q⟩:=h;obtain⟨u,rfl,ru⟩:=vals1 r;cases ru;obtain⟨o,es,ep,t,ho,hex,hd,_,_,hb,hf,hn⟩:=I.hok p _ hp
 have:(es.size:Int)<2^63:=by unfold scanBound at hb;lia
 refine PySem.call_len_set ho hex hd hf this ⟨.int n,H,(I.tok _).tok _,?_,q⟩;exact⟨_,by rw[hn]⟩
end
def aFb{K:zAA}(nd:l.Nodup)(h:H a=some (.set (λ k=>l.any (·==k)) l.length))(m:A a):Rp K A H (.ref a) (.set l):=.set h m (λ i=>by
 rw[zE6];simp) nd
def aCA:List D->Rs D
 |[.lst l]=>match intsOf l with
  |some ns=>if ns.length<4000 then .ok (.set (ddI ns))else .st
  |none=>.st
 |[.tup l]=>match intsOf l with
  |some ns=>if ns.length<4000 then .ok (.set (ddI ns))else .st
  |none=>.st
 |_=>.st
def aLo{K:zAA}:yz K (aFm K) aCA:=by
 intro A xs ds H Q z r ez q;unfold aCA at ez;split at ez
 .cases r with
  |cons h r=>
   cases r;cases h with
   |lst h m r=>
    split at ez
    .rename_i ns e
     have e1:=bW e;subst e1;split at ez
     .rename_i hl
      cases ez;have e2:=r.ints_of;subst e2;exact⟨_,ns,rfl,.inl (SqL.of h),hl,λ a H' s ha hn=>q _ H' s (aFb (yo ns) ha hn)⟩
     .cases ez
    .cases ez
 .cases r with
  |cons h r=>
   cases r;cases h with
   |tup h r=>
    split at ez
    .rename_i ns e
     have e1:=bW e;subst e1;split at ez
     .rename_i hl
      cases ez;have e2:=r.ints_of;subst e2;exact⟨_,ns,rfl,.inr h,hl,λ a H' s ha hn=>q _ H' s (aFb (yo ns) ha hn)⟩
     .cases ez
    .cases ez
 .cases ez
def aBI:List D->Rs D
 |[.set l]=>.ok (.int l.length)
 |ds=>eV ds
def aJS{K:zAA}:uD K (λ xs H Q=>(∃p ys,xs=[.ref p]/\(SqL K H p ys\/SqT K H p ys)/\Q (.int ys.length) H)\/∃p S n,xs=[.ref p]/\H p=some (.set S n)/\Q (.int n) H) aBI:=by
 intro A xs ds H Q z r ez q;unfold aBI at ez;split at ez
 .cases ez
  cases r with
  |cons h r=>
   cases r;cases h with
   |set h m hS nd=>exact .inr ⟨_,_,_,rfl,h,q _ H (aR.refl H) (.int _)⟩
 .exact .inl (aHU A xs _ H Q z r ez q)
def aGr:∀x z,aBI x= .ok z->imm z=true:=by
 intro x z e;unfold aBI at e;split at e
 .cases e;rfl
 .exact aDa _ _ e
section
variable{C:Ct}{pos p:Pos}{m:Mode}{a:Expr}{ga:En->Rs (List D)}
def aF0(hm:C.mg "set"=none)(ha:SA C m [a] ga)(he:∀i,zAU [a] (C.X i).env=[(false,eval a (C.X i).env)]:=by intro _;rfl)(hg:∀i,Gl (C.X i) "set":=by intro _;rfl)(hv:zAz "set"=some (.type "set"):=by decide+kernel):SE C (some []) (.Call (.Name "set" p) [a] [] pos) (opA aCA ga):=by
 obtain⟨t,h1,h2⟩:=ha;refine⟨_,λ i=>nR (r:=aFm C.K) (by rw[<-C.hK i];exact aEo (C.calm i)) (hg i) (by rw[(C.cx i).2.2.2.1];exact hm) hv (h1 i) (by decide) (by decide) (he i) rfl,pX aLo h2⟩
def aDA(hm:C.mg "len"=none)(ha:SA C m [a] ga)(he:∀i,zAU [a] (C.X i).env=[(false,eval a (C.X i).env)]:=by intro _;rfl)(hg:∀i,Gl (C.X i) "len":=by intro _;rfl):SE C (some []) (.Call (.Name "len" p) [a] [] pos) (opA aBI ga):=
 gW (mX (λ i=>by have h:=(qe (X:=C.X i)).or aEr;rw[C.hK i]at h;exact h) aJS hg hm zIS ha (by decide) (by decide) he) λ _ _ h=>qN aGr h
end
section
variable{K:zAA}{G:Gx}{wi:TI}{fi:En->Rs (List D)}{g:TG}{fg:D->En->Rs En}{tt:TT}
def aKU(hi:aJ0 K G wi fi)(hg:aJ1 K {G with E:=λ _ _ _=>False} g fg)(hfg:∀d,∃ρ1,fg d [.no]= .ok ρ1)(ht:aCm K {G with E:=λ _ _ _=>False} tt gR)(R:RR K G U ρ Z H lab)
  (W:WR G (fi (shE ρ)) (λ ds=>ds.length<zAQ/\∀(l:Addr) (as:List Addr) H',aR H H'->H l=none->H' l=some (.lst (as.map V.ref))->(l::as).Nodup->as.length=ds.length->(∀a∈as,H a=none/\H' a=some (.lst []))->Q (.ref l) H')):
  tLC wi (stV [none]) g tt (aJe uF) Z H Q:=by
 refine hi U Z H _ _ _ R.shE (W.imp λ ds _ w J H1 lab1 U1 s1 _ R1 jl=>?_);obtain⟨kK,w⟩:=w;intro l hl;have hHl:H l=none:=s1.free hl;have nl:∀p o,H1 p=some o->p≠l:=λ p o e z=>by subst z;rw[hl]at e;cases e
 have RB:RR K {G with E:=λ _ _ _=>False} (U1++U) [.no] (stV [none] Z) H1 (λ p=>if p=l then(2,0)else(0,0)):=by
  refine⟨rfl,λ i s e=>?_,R1.old,λ p hp=>?_,λ q hq=>(R1.tm q hq).wk λ p o e _=>by rw[if_neg (nl p o e)];exact zAf _⟩
  .match i,e with
   |0,e=>cases e;exact .inl rfl
   |i+1,e=>simp at e
  .by_cases z:p=l
   .subst z;exact R1.old.free hl
   .exact absurd (show(if p=l then((2,0):Nat×Nat)else(0,0)).1=0 by rw[if_neg z]) hp
 have cK:¬((λ p=>if p=l then((2,0):Nat×Nat)else(0,0)) l).1<=1:=by simp
 refine⟨λ i n acc H2=>∃as:List Addr,n=ds.length-i/\i<=ds.length/\acc=as.map V.ref/\H2 l=some (.lst acc)/\RR K {G with E:=λ _ _ _=>False} (U1++U) [.no] (stV [none] Z) H2 (λ p=>if p=l then(2,0)else(0,0))/\aR H H2/\as.length=i/\(l::as).Nodup/\∀a∈as,H a=none/\H2 a=some (.lst []),
  ⟨ds.length,[],by omega,by omega,rfl,aV,RB.up (bF hl _),s1.trans (bF hl _),rfl,by simp,λ a h=>by simp at h⟩,?_⟩
 rintro i n acc H2 ⟨as,rfl,hi',rfl,hH2,R2,s2,hlen2,hnd,hal⟩;refine⟨hH2,by rw[zAE];omega,?_⟩;have jj:=jl _ H2 λ q hq=>R2.tm q (zAb _ hq)
 by_cases hlt:i<ds.length
 .obtain⟨go,yl⟩:=(jj i).2 hlt
  refine .inr ⟨go,λ x H3 hy=>?_⟩;obtain⟨s3,d,ed,rx⟩:=yl x H3 hy;replace R2:=R2.up s3;replace hH2:=s3 _ _ hH2;replace s2:=s2.trans s3;replace hal:=λ a ha=>(⟨(hal a ha).1,s3 _ _ (hal a ha).2⟩:H a=none/\H3 a=some (.lst []))
  obtain⟨ρ1,e1⟩:=hfg d;refine hg (U1++U) x d _ H3 _ _ _ ρ1 R2 rx e1 λ Z4 R4=>?_
  refine ht (U1++U) Z4 H3 ρ1 _ _ R4 λ H5 s5=>?_
  rw[if_pos rfl];refine⟨zAf _,λ p H6 s6 hp hn=>?_⟩;have hl6:H6 l=some (.lst (as.map V.ref)):=s6 _ _ (s5 _ _ hH2);have hpl:p≠l:=λ z=>by subst z;rw[s5 _ _ hH2]at hn;cases hn
  have hpa:p∉as:=λ z=>by
   have:=s5 _ _ (hal p z).2
   rw[hn]at this;cases this
  have hpH:H p=none:=(s2.trans s5).free hn;have B:iW l H6 (upd H6 l (.lst (as.map V.ref++[.ref p]))):=λ b o ne hb=>by rw[aQ ne];exact hb
  refine⟨hl6,ds.length-(i+1),by omega,as++[p],rfl,hlt,by rw[zA7];rfl,aV,?_,?_,by rw[zA9];simp;omega,?_,λ a ha=>?_⟩
  .have R6:=R2.up (s5.trans s6)
   refine⟨R6.len,λ j s e=>?_,λ b o hb=>?_,R6.new,λ q hq=>(R6.tm q hq).but B hl6 rfl cK⟩
   .match j,e with
    |0,e=>cases e;exact .inl rfl
    |j+1,e=>simp at e
   .exact B b o (λ z=>by subst z;rw[R1.old.free hl]at hb;cases hb) (R6.old b o hb)
  .exact λ b o hb=>B b o (λ z=>by subst z;rw[hHl]at hb;cases hb) (((s2.trans s5).trans s6) b o hb)
  .obtain⟨n1,n2⟩:=zAw.mp hnd
   refine zAw.mpr ⟨λ z=>?_,zAa.mpr ⟨n2,by simp,λ x hx y hy e=>?_⟩⟩
   .rcases zA3.mp z with z|z
    .exact n1 z
    .exact hpl (zAM.mp z).symm
   .rw[zAM]at hy
    subst hy;subst e;exact hpa hx
  .rcases zA3.mp ha with z|z
   .refine⟨(hal a z).1,?_⟩
    rw[aQ λ q=>by subst q;exact(zAw.mp hnd).1 z];exact s6 _ _ (s5 _ _ (hal a z).2)
   .rw[zAM]at z
    subst z;exact⟨hpH,by rw[aQ hpl];exact hp⟩
 .have ei:i=ds.length:=by omega
  exact .inl ⟨by rw[ei];exact(jj _).1 (zAS _),w l as H2 s2 hHl hH2 hnd (by omega) hal⟩
end
section
variable{C:Ct}{pos lpos:Pos}{tg iter:Expr}{sc:Scope}{N:List Str}{js:kQ}{ks:List Nat}{fi:En->Rs (List D)}{fg:D->En->Rs En}
def llS(i:Nat)(fi:En->Rs (List D))(js:kQ)(fg:D->En->Rs En):En->Ou:=λ ρ=>(fi (shE ρ)).bo λ ds=>if ds.length<zAQ then .nx (ρ.set i (.o2 (zA2 ds.length [])))else .st
def aMP(hi:SI C tg iter fi)(hg:SG (C.blk sc N) tg ks fg)(hj:js=[none]:=by rfl)(hfg:∀d,∃ρ1,fg d [.no]= .ok ρ1:=by intro _;exact⟨_,rfl⟩)(hN:∀j,(C.X j).N[i]? =some x:=by intro _;rfl)(hx:∀j,Loc (C.X j).env.scope x:=by intro _;first|exact zBq rfl|exact zBR rfl)(hsw:∀j,zC3 (.ListComp (.List [] lpos) [⟨tg,iter,[],0⟩] sc pos) (some (.Name x pos')) spos.line (C.X j).env=pure true:=by intro _;rfl)(hs:∀i x,zBl iter (C.X i).env x=pure x:=by intro _ _;rfl)(hf:∀j,(C.X j).fn x=true\/(C.X j).env.scope.names.lookup x=some .local:=by intro _;first|exact .inl rfl|exact .inr rfl)(nd:∀j,(C.X j).N.Nodup:=by intro _;assumption)(hB:∀i,fJ (C.X i) sc N (stV js) ks:=by intro _;exact aCh rfl rfl rfl rfl rfl rfl):
  SS C (.Assign [.Name x pos'] (.ListComp (.List [] lpos) [⟨tg,iter,[],0⟩] sc pos) spos) (llS i fi js fg):=by
 subst hj;obtain⟨wi,i1,i2⟩:=hi;obtain⟨g,g1,g2,g3,g4⟩:=hg;obtain⟨tt,t1,t2⟩:=j6 (C:=C.blk sc N);refine⟨_,λ j=>aFv (nd j) (hN j) (hx j) (hB j) (C.calm j) (i1 j) (λ c fp z4 zS=>g1 (j,c,fp,z4,zS)) g3 (λ c fp z4 zS=>t1 (j,c,fp,z4,zS)) (λ c fp z4 zS=>z7 jF) (hsw j) (hs j) (hf j),λ U Z H ρ lab De R W=>?_⟩;refine aKU i2 g2 hfg t2 R (W.bo.imp λ ds _ w=>?_);by_cases hl:ds.length<zAQ
 .rw[if_pos hl]at w
  refine⟨hl,λ l as H' s hn hH hnd kK hal=>?_⟩;have b9:∀p o,H p=some o->(λ p=>if p=l then(i+2,0)else if p∈as then(i+2,as.idxOf p+1)else bG H 1 lab p) p=lab p:=λ p o e=>by
   dsimp only;have z1:p≠l:=λ z=>by subst z;rw[hn]at e;cases e
   have z2:p∉as:=λ z=>by rw[(hal p z).1]at e;cases e
   rw[if_neg z1,if_neg z2,aj e]
  have R':RR C.K C.G U ρ Z H' (λ p=>if p=l then(i+2,0)else if p∈as then(i+2,as.idxOf p+1)else bG H 1 lab p):=by
   refine(R.relab b9 λ p hp=>?_).up s;cases e:H p with
   |none=>exact R.old.free e
   |some o=>
    have:=b9 p o e
    dsimp only at this hp;rw[this]at hp;exact R.new p hp
  refine w _ _ _ (R'.put (s:=.o2 (zA2 ds.length [])) ⟨l,as.map V.ref,rfl,hH,by dsimp only;rw[if_pos rfl],by rw[zAE,zC6];exact kK,λ j x es e1 e2=>?_⟩);rw[zAO,zCY]at e1;obtain⟨a,e1,rfl⟩:=e1;have ees:es=[]:=by
   rw[zBt]at e2;split at e2
   .cases e2;rfl
   .cases e2
  subst ees;have ha:a∈as:=zAt e1;have hla:a≠l:=λ z=>by subst z;exact(zAw.mp hnd).1 ha
  have hj2:j<as.length:=(zAP.mp e1).1;refine .lst (hal a ha).2 ?_ .nil
  show(if a=l then(i+2,0)else if a∈as then(i+2,as.idxOf a+1)else bG H 1 lab a)=(i+2,j+1)
  rw[if_neg hla,if_pos ha];have hix:as.idxOf a<as.length:=List.idxOf_lt_length_iff.mpr ha
  have:as[as.idxOf a]? =some a:=by rw[zAH hix];exact congrArg some (List.getElem_idxOf hix)
  have:=(zCc hix (zAw.mp hnd).2).mp (this.trans e1.symm)
  rw[this]
 .rw[if_neg hl]at w
  exact zAI w
end
def fC{α:Type}(l:List α)(i:Int)(y:α):List α:=l.take (if i<0 then(i+(l.length:Int)).toNat else min i.toNat l.length)++y::l.drop (if i<0 then(i+(l.length:Int)).toNat else min i.toNat l.length)
def yP(l:List α)(i:Int)(y:α):(fC l i y).length=l.length+1:=by
 unfold fC;rw[zA9,zAk,zDZ,List.length_drop];omega
def aJm:V->List V->Hp->VK->Prop:=λ x vs H Q=>∃l xs i y,x= .ref l/\vs=[.int i,y]/\H l=some (.lst xs)/\-(2^63)<=i/\i<2^63/\xs.length<zAQ/\∀H',iW l H H'->H' l=some (.lst (fC xs i y))->Q .non H'
def aIf:MtM X "list.insert" aJm:=by
 intro kX s Z H x vs v us Q I rx rv h;obtain⟨l,xs,i,y,rfl,rfl,hH,h1,h2,hz,q⟩:=h;cases rx;obtain⟨u1,u2,rfl,r1,r2⟩:=vals2 rv;obtain⟨t,rfl⟩:=r1;obtain⟨z,its,n,r,hl,e⟩:=I.lstM hH;have hf:zDP i=true:=by unfold zDP;simp;omega
 refine zHR zFt ⟨_,e,rfl⟩ PySem.F.entry_list_insert (PySem.F.args_list_insert_3 _ _ _) (zIa l its.toArray n i t u2 (by simp[hf]) (by rw[zAX];omega)) ⟨e,?_⟩;refine⟨.non,_,I.lset (ys:=fC xs i y) (its':=fC its i u2) hH e ?_ ?_ ?_,rfl,q _ (λ b o ne hb=>by rw[aQ ne];exact hb) aV⟩
 .show(its.toArray.extract 0 (if i<0 then(i+(its.toArray.size:Int)).toNat else min i.toNat its.toArray.size)).push u2++its.toArray.extract (if i<0 then(i+(its.toArray.size:Int)).toNat else min i.toNat its.toArray.size)=(fC its i u2).toArray
  rw[PySem.W.kl_ins_eq,zAX];rfl
 .unfold fC
  rw[hl];exact(r.take _).append (.cons r2 (r.drop _))
 .rw[yP];omega
theorem Rps.fC{K:zAA}(r:Rps K A H xs ds)(h:Rp K A H x d)(i:Int):Rps K A H (VL.fC xs i x) (VL.fC ds i d):=by
 unfold VL.fC;rw[r.length];exact(r.take _).append (.cons h (r.drop _))
section
variable{C:Ct}{pos apos cpos p:Pos}{e e1 e2:Expr}{f1 f2:En->Rs D}{i:Nat}{x:Str}{m m1:Mode}
def aGm(i:Nat)(f1 f2:En->Rs D):En->Ou:=λ ρ=>match ρ[i]? with
 |some (.ow (.lst ds))=>(f1 ρ).bo λ k=>match k with
  | .int n=>(f2 ρ).bo λ d=>if -(2^63)<=n/\n<2^63/\ds.length<zAQ then .nx (ρ.set i (.ow (.lst (fC ds n d))))else .st
  |_=>.st
 |_=>.st
def aEC(i:Nat)(he1:SE C m1 e1 f1)(he2:SE C m e2 f2)(hm:okN m=true:=by rfl)(hN:∀j,(C.X j).N[i]? =some x:=by intro _;rfl)(hv:∀j,Vis (C.X j).env.scope x:=by intro _;first|exact zBq rfl|exact zBR (zBq rfl)|exact zBR (zBR rfl))(hd:Nd x:=by decide)
  (hcd:(x==("__classdict__":Str))=false:=by decide)(hs1:∀j,zAU [e1,e2] (C.X j).env=(false,eval e1 (C.X j).env)::zAU [e2] (C.X j).env:=by intro _;rfl)(hs2:∀j,zAU [e2] (C.X j).env=[(false,eval e2 (C.X j).env)]:=by intro _;rfl)
  (hbase:∀j,zBd (.Name x p) "insert" (C.X j).env (eval (.Name x p) (C.X j).env)=eval (.Name x p) (C.X j).env:=by intro _;rfl)
  (hfew:∀j,((zCW cpos (zAU [e1,e2] (C.X j).env)).all (λ x=>!x.1)&&(zFg cpos (zEH [] (C.X j).env)).all (λ x=>x.1.isSome)&&decide ([e1,e2].length+([]:List zCe).length+(if ([]:List zCe).isEmpty then 0 else 1)<30))=true:=by intro _;rfl)
  (hline:(apos.endLine==cpos.line)=true:=by rfl)(hplain:∀j,(zCW cpos (zAU [e2] (C.X j).env)).any (·.1)=false:=by intro _;rfl)
  (hsw:∀j,zC3 (.Call (.Attribute (.Name x p) "insert" apos) [e1,e2] [] cpos) none pos.line (C.X j).env=pure false:=by intro _;rfl):
  SS C (.Expr (.Call (.Attribute (.Name x p) "insert" apos) [e1,e2] [] cpos) pos) (aGm i f1 f2):=by
 obtain⟨t1,a1,a2⟩:=he1;obtain⟨t2,b1,b2⟩:=he2;refine⟨aA5 (tBM C.K "list" aJm (jg i) (dR t1 (dR t2 uF))),λ j=>ph (by rw[<-C.hK j];exact aGJ zEE zFt PySem.F.type_list_insert aIf (eU (hN j) (hv j) hd hcd) (bz (a1 j) (bz (b1 j) jF (hs2 j)) (hs1 j)) (hbase j) (hfew j) hline (hs1 j) (hplain j)) (hsw j),λ U Z H ρ lab De R W=>?_⟩;unfold aGm at W;cases es:ρ[i]? with
 |none=>rw[es]at W;exact zAI W
 |some s=>
  rw[es]at W;split at W
  .rename_i ds hs
   cases hs;rcases R.sl i _ es with z|⟨v,ev,hv'⟩
   .cases z
   .obtain⟨hv1,htop⟩:=hv'
    obtain⟨a0,ea0,la0⟩:=htop rfl;subst ea0;cases hv1 with
    |lst h mm r=>
     rename_i xs;refine⟨.ref a0,ev,.inl ⟨rfl,xs,SqL.of h⟩,a2 U Z H ρ lab _ R (W.bo.imp λ k _ w y1 H1 s1 r1=>?_)⟩;cases k with
     |int n=>
      cases r1;refine b2 U Z H1 ρ lab _ (R.up s1) (w.bo.imp λ d _ w y H2 s2 r2=>?_);by_cases hz: -(2^63)<=n/\n<2^63/\ds.length<zAQ
      .rw[if_pos hz]at w
       refine⟨a0,xs,n,y,rfl,rfl,(s1.trans s2) _ _ h,hz.1,hz.2.1,by rw[r.length];exact hz.2.2,λ H3 B h3=>?_⟩;obtain⟨R',r'⟩:=(R.up s1).fresh (P:=λ k=>k=1) rfl (λ k hk=>beq_iff_eq.mp (jT hm k hk)) s2 r2;have h1:H1 a0=some (.lst xs):=s1 _ _ h;have la:(bG H1 1 lab a0).1=i+2:=by rw[aj h1];exact la0
       refine w Z H3 _ (R'.mut ev (s2 _ _ h1) rfl la B ⟨.lst h3 (.inr la) ?_,λ _=>⟨a0,rfl,la⟩⟩);have ra:Rps C.K (λ p=>((bG H1 1 lab p).1=1\/(bG H1 1 lab p).1=i+2)/\p≠a0) H2 (fC xs n y) (fC ds n d):=by
        refine(r.mono (s1.trans s2) λ p o e z=>⟨by rw[aj (s1 _ _ e)];exact z.1,z.2⟩).fC (r'.wk λ p o e z=>⟨.inl z,λ q=>?_⟩) n;subst q;rw[la]at z;omega
       exact ra.but B (s2 _ _ h1) rfl λ z=>z.2 rfl
      .rw[if_neg hz]at w
       exact zAI w
     |_=>exact zAI w
  .exact zAI W
end
def aIl:∀{us:List α},us.length=6->∃a0 a1 a2 a3 a4 a5,us=[a0,a1,a2,a3,a4,a5]
 |[a0,a1,a2,a3,a4,a5],_=>⟨a0,a1,a2,a3,a4,a5,rfl⟩
def aMy(ρ:En)(i:Nat)(ds:List Int):D->Ou
 | .int z=>if ds.length<4000 then .nx (ρ.set i (.ow (.set (zBx ds z))))else .st
 |_=>.st
section
theorem NoD.at{h:Heap}{a:Addr}{o:Obj}(e:h.get? a=some o)(hd:o.dict=none:=by rfl):L2.NoD h a:=λ u q=>by rw[e]at q;cases q;exact hd
end
def aBX{X:Cx}{kX:hZ}{Z:List (Option V)}{H:Hp}{s:zAF}{h':Heap}{ch:List Addr}{p t':Nat}{o:HO}(I:Inv X kX Z H s)(hf:∀b∈ch,qz X kX H b)(k:∀b u,b∉ch->s.heap.get? b=some u->h'.get? b=some u)
  (hp:s.heap.objs.size<=p)(new:bM X.prog X.w (upd H p o) h' p o):Inv X kX Z (upd H p o) {s with heap:=h',toks:=t'}:=by
 have hn:=I.hok.fresh hp;have nch:∀b u,H b=some u->b∉ch:=λ b u e z=>by have:=(hf b z).1;rw[e]at this;cases this
 refine I.call (g':=s.gens) (d':=s.drawn) (ch:=ch) ⟨λ b u q _ _ hx=>k b u hx q,λ b u q _ _ hx=>⟨u.slots,k b u hx q⟩,λ b u q n _=>?_,λ b u q hx=>⟨u,k b u hx q⟩,λ b xs q=>?_,λ b u xs q=>?_,λ b ps q=>?_⟩ (λ b u e=>?_) I.bare
  λ b hb=>let⟨_,f1,_,f3,f4,f5⟩:=hf b hb;⟨f3,f1,f4,f5⟩
 .rw[aQ (zA1 (zAW (zAR q) hp))];exact n
 .rw[aQ (bN q hn)];exact q
 .rw[aQ (bN q hn)];exact q
 .rw[aQ (bN q hn)];exact q
 .by_cases hb:b=p
  .subst hb;rw[aV]at e;cases e;exact new
  .rw[aQ hb]at e
   refine(I.hok b u e).stay (λ c v hc q=>k c v ?_ q) (λ c q=>by rw[aQ (bN q hn)];exact q) (λ c xs q=>by rw[aQ (bN q hn)];exact q) λ c o2 u2 q=>by rw[aQ (bN q hn)];exact q
   rcases hc with rfl|hc
   .exact nch _ _ e
   .exact nch _ _ hc
theorem aGi:∀{k:List Int} {us:List Value},Vals (k.map V.int) us->ItemsAre (zCo P w) k us
 |[],_,r=>by cases r;exact .nil
 |i::k,_,r=>by
  cases r with
  |cons h t=>obtain⟨t0,rfl⟩:=h;exact .cons (by simp[zCo,zHA]) (aGi t)
abbrev Ent:=List Int×Addr×V
def DxP(es:List Ent)(xs:List (List Int×Addr×Value)):Prop:=zHM (λ(e:Ent) x=>e.1=x.1/\e.2.1=x.2.1/\RelV e.2.2 x.2.2) es xs
def DxP.mem(p:DxP es xs):∀x∈xs,∃e∈es,e.1=x.1/\e.2.1=x.2.1:=by
 unfold DxP at p;induction p with
 |nil=>intro x hx;cases hx
 |cons h t ih=>
  intro x hx;rcases zAT.mp hx with rfl|hx
  .exact⟨_,zAK ..,h.1,h.2.1⟩
  .obtain⟨e,he,q⟩:=ih x hx;exact⟨e,zAL _ he,q⟩
def DxP.keys(p:DxP es xs):es.map (·.1)=xs.map (·.1):=by
 unfold DxP at p;induction p with
 |nil=>rfl
 |cons h t ih=>rw[zAD,zAD,ih,h.1]
theorem aDs(k:List Int):∀(xs:List (List Int×β)),(xs.find? λ x=>decide (x.1=k)).isSome=(xs.map (·.1)).any (·==k)
 |[]=>rfl
 |x::xs=>by
  rw[zAD,zCa,<-aDs k xs,zBk];by_cases e:x.1=k
  .simp[e]
  .have:(x.1==k)=false:=by simpa using e
   simp[e,this]
def DxP.has(p:DxP es xs)(k:List Int):(atKey xs k).isSome=(es.map (·.1)).any (·==k):=by
 unfold atKey;rw[zFC,aDs,p.keys]
def DxP.snoc(p:DxP es xs)(h:e.1=x.1/\e.2.1=x.2.1/\RelV e.2.2 x.2.2):DxP (es++[e]) (xs++[x]):=by
 unfold DxP at p ⊢;induction p with
 |nil=>exact .cons h .nil
 |cons q t ih=>exact .cons q ih
section
variable{X:Cx}{kX:hZ}{Z:L2.St}{H:Hp}{s:zAF}{a b:Addr}{k:List Int}{es:List Ent}
def aIo(I:Inv X kX Z H s)(h:SqT X.K H b (k.map V.int)):(zDK (zCo X.prog X.w)).is s.heap k b:=by
 obtain⟨its,rv,⟨o,h1,h2,n,h3⟩,hz⟩:=I.tuple h;exact⟨o,its.toArray,n,h1,h2,h3,by simpa using aGi rv⟩
def aMu(I:Inv X kX Z H s)(h:DxK X.K H a es):es.length<=zAQ/\(a==zBE)=false/\∃xs,DxP es xs/\s.heap.DictOfH (zDK (zCo X.prog X.w)) a xs:=by
 obtain⟨⟨hl,hd,xs,o,ts,ep,pr,h1,h2,h3,h4⟩,_⟩:=(show bM X.prog X.w H s.heap a (dxO a es)from I.hok a _ h.at_);refine⟨hl,hd,xs,pr,o,ts,ep,h1,h2,h3,h4,λ x hx=>?_,by rw[<-DxP.keys pr];exact h.nd⟩;obtain⟨e,he,e1,e2⟩:=DxP.mem pr x hx;rw[<-e1,<-e2];exact aIo I (h.ks e he)
def aHL(hl:es.length<=zAQ)(hd:(a==zBE)=false)(pr:DxP es xs)(dd:h'.DictOfH (zDK (zCo X.prog X.w)) a xs):bM X.prog X.w H' h' a (dxO a es):=by
 obtain⟨o,ts,ep,h1,h2,h3,h4,_,_⟩:=dd;exact⟨⟨hl,hd,xs,o,ts,ep,pr,h1,h2,h3,h4⟩,⟨o,h1⟩,λ g1 g2 ⟨hl,hd,xs,o,ts,ep,pr,h1,r⟩ k=>⟨hl,hd,xs,o,ts,ep,pr,k o h1,r⟩⟩
def aDp(I:Inv X kX Z H s)(h:DxK X.K H a es\/(es=[]/\H a=some (.dK []))):(a==zBE)=false/\∃xs,DxP es xs/\s.heap.DictOfH (zDK (zCo X.prog X.w)) a xs:=by
 rcases h with h|⟨rfl,h⟩
 .exact(aMu I h).2
 .obtain⟨_,hd,vs,kv,o,ts,ep,h1,h2,h3,h4⟩:=(show bM X.prog X.w H s.heap a (.dK [])from I.hok a _ h)
  cases kv;exact⟨hd,[],.nil,o,ts,ep,h1,h2,h3,by generalize ts.toList=l at h4;obtain⟨_,h4,_⟩:=h4;cases h4;rfl,λ x hx=>(by cases hx),zBu⟩
end
def wB:D->Option (List Int)
 | .tup l=>intsOf l
 |_=>none
def yM:List D->Option gV
 |[]=>some []
 |d::ds=>match wB d,yM ds with
  |some k,some ks=>some (k::ks)
  |_,_=>none
def aGd:List D->Option gV
 |[]=>some []
 | .non::ks=>yM ks
 |_=>none
def sE(h:wB d=some k):d= .tup (k.map .int):=by
 cases d with
 |tup l=>rw[bW (show intsOf l=some k from h)]
 |_=>cases h
def aGe(k:List Int):wB (.tup (k.map .int))=some k:=cH k
theorem rm:∀(ks:gV),yM (ks.map λ k=>.tup (k.map .int))=some ks
 |[]=>rfl
 |k::ks=>by
  rw[zAD];unfold yM;rw[aGe,rm ks]
def pairE(fk fv:En->Rs D):En->Rs D:=λ ρ=>(fk ρ).bd λ k=>(fv ρ).bd λ v=>.ok (.tup [k,v])
section
variable{fk fv:En->Rs D}
def aGK(h:pairE fk fv ρ= .ok y):∃k v,fk ρ= .ok k/\fv ρ= .ok v/\y= .tup [k,v]:=by
 obtain⟨k,h1,h2⟩:=dF h;obtain⟨v,h3,h4⟩:=dF h2;exact⟨k,v,h1,h3,by cases h4;rfl⟩
end
section
variable{prog:zAV}{w:World}{A:zAc}{E:Value->zAF->Prop}{s:zAF}
def qG{Q:Value->zAF->Prop}(hI:zBH vs ns)(h64:vs.length<64)
  (h:∀(out:List Value) h' e,Vals ((sortI ns).map V.int) out->(∀b o,s.heap.get? b=some o->h'.get? b=some o)->h'.get? s.heap.objs.size=some (zB9 "list" out.toArray e)->Q (.ref s.heap.objs.size) {s with heap:=h'}):
  wpAny (model prog w) A (zFU vs>>=λ l=>zC8 [l] (call (.builtin "list.sort") [l])>>=λ _=>ret l) (λ fin s'=>∃r,fin= .done (.ret r)/\Q r s') E s:=by
 refine zAB (zFk ?_ (by rw[zBe];omega));have hoL:(s.heap.push (zB9 "list" vs.toArray 0)).get? s.heap.objs.size=some (zB9 "list" vs.toArray 0):=zAJ _ rfl;refine zAB (zBT (zBV slot_list_sort ⟨_,hoL,rfl⟩ entry_list_sort (list_sort_tree (s:={s with heap:=s.heap.push (zB9 "list" vs.toArray 0)}) hoL hI h64 λ out ns' a1 a2 a3=>⟨_,rfl,zAG ⟨_,rfl,?_⟩⟩) (args_list_sort _)));have e:ns'=sortI ns:=zHP (a2.trans (sortI_perm ns).symm) a3 (nP ns);subst e;have hne:∀b o,s.heap.get? b=some o->b≠s.heap.objs.size:=λ b o e=>zA1 (zAR e)
 have g0:=zDI hoL λ _=>(#[]:Array Value)
 have g1:=zAC (zB9 "list" #[] 0) (zAC (zB9 "tuple" vs.toArray 0) g0);have g2:=zDI g1 (λ _=>out);refine h out.toList _ _ (kh a1) (λ b o e=>?_) (by rw[zGg];exact g2);unfold zGG;rw[zBz _ _ _ _ (hne b o e)];refine zAC _ (zAC _ ?_);rw[zBz _ _ _ _ (hne b o e)];exact zAC _ e
end
section
theorem ints_of:∀(tks:List (Int×Tok)),zBH (tks.map λ p=>zEF p.1 p.2) (tks.map (·.1))
 |[]=>.nil
 |p::r=>.cons _ _ (ints_of r)
end
abbrev aNI:=List (Str×(List D->Rs D))
def fnOf(tab:aNI):Rs D->Option (List D->Rs D)
 | .ok (.fn x)=>tab.lookup x
 |_=>none
end VL
namespace HT
open PySem PySem.Spec PyProof.Rows
end HT
namespace VL
open PySem PySem.Spec PyProof.Rows L2
end VL
namespace PySem.AutoSeq1
end PySem.AutoSeq1
namespace VL
open PySem PySem.Spec PyProof.Rows L2
def Enr(K:zAA)(x:Str)(st:Stmt)(f:Addr)(fd:zAg):Prop:=L2.Fun K x x st f fd/\zBI K zAj x=some (some (.ref f))
def enr{K:zAA}{st:Stmt}{oc kV dc pm cd ct:Value}(a:zBI K zAj x=some (some (.ref f)))
  (l:K.lookup f=some ⟨oc,od,.func (zCO x x (nZ st) (fO st) (aM st) .none kV dc pm an cd ct),sl⟩)(c:zDl K cd x=true)(k:zDB K (.ref f)=true):∃f fd,Enr K x st f fd:=⟨f,_,aLf (st:=st) l c k,a⟩
structure Dnr(K:zAA)(mg:Str->Option Value)(x:Str)(st:Stmt)(ps:List Str)(f:Addr)(d:zAg):Prop where
 F:L2.Fun K x x st f d
 m:mg x=some (.ref f)
 b:L2.Binds K d ps []
section
variable{C:Ct}
def aX{st:Stmt}(hF:cA C.prog C.w C.K C.mg C.base (CX1 C.prog C.w) k fn fd ps (spF C.K C.G.cl n F))(D:Dnr C.K C.mg x st ps fn fd)(ha:SA C m (e::es) ga)(hr:k<=C.k:=by exact zC7 rfl)(hg:∀i,Gl (C.X i) x:=by intro _;rfl)
  (hn:∀ρ ds,ga ρ= .ok ds->ds.length=n:=by repeat (first|exact λ _ _ h=>aIk h|apply aG7))(hdb:Nd x:=by decide)(he:∀i,zAU (e::es) (C.X i).env=(false,eval e (C.X i).env)::zAU es (C.X i).env:=by intro _;rfl)
  (hpl:∀i,(zCW pos (zAU es (C.X i).env)).any (·.1)=false:=by intro _;rfl):SE C (some []) (.Call (.Name x p) (e::es) [] pos) (aP F ga):=aHy hF hr D.m D.F.kp D.b ha hn hdb he hpl hg
end
def bC{P:zAV}{w:World}{K:zAA}{st:Stmt}(D:Dnr K mg q st ps fn fd)(S:aY N ps (aM st))(hb:N.Nodup->∀cdv A outer s H E hr,SSs (ctD P w K mg base N q (aM st) fn cdv A outer s H E k hr) (fO st) f)(hn:ps.length=n:=by rfl)(hF:fV N.length f=FF:=by rfl):
  cA P w K mg base (CX1 P w) (k+1) fn fd ps (spF K (bT mg) n FF):=aJI D.F S (hb S.nd) hn hF
def aCl(items:Array Value)(nss:Nat->List Int)(h:Heap):Prop:=∀i v,items[i]? =some v->∃x its,v= .ref x/\IsTup h x its/\zBH its.toList (nss i)
def aCH(items:Array Value):List Addr:=items.toList.filterMap λ v=>match v with| .ref x=>some x|_=>none
def aCG{items:Array Value}{i:Nat}(h:items[i]? =some (zAo x)):x∈aCH items:=by
 unfold aCH;rw[zBp];exact⟨.ref x,by have:=zAt (l:=items.toList) (i:=i) (by simpa using h);exact this,rfl⟩
def aCl.keep(T:aCl items nss h)(k:∀b∈aCH items,∀o,h.get? b=some o->h'.get? b=some o):aCl items nss h':=λ i v e=>by
 obtain⟨x,its,rfl,⟨o,h1,h2⟩,h3⟩:=T i v e;exact⟨x,its,rfl,⟨o,k x (aCG e) o h1,h2⟩,h3⟩
def putN(ds:List D):D->Option Nat
 | .int n=>ixN ds.length n
 |_=>none
def gQ(ks vs:List D):Option (List (Int×D)):=match intsOf ks with
 |some is=>if is.length=vs.length then some (is.zip vs)else none
 |none=>none
def az(ps:List (Int×D)):D:=.dct (ps.map λ p=>.int p.1) (ps.map (·.2))
def vW(h:gQ ks vs=some ps):ks=ps.map (λ p=>.int p.1)/\vs=ps.map (·.2):=by
 unfold gQ at h;split at h
 .rename_i is hi
  split at h
  .rename_i hl
   cases h;refine⟨?_,?_⟩
   .rw[bW hi,show(λ p:Int×D=>D.int p.1)=(λ i=>D.int i)∘zFd from rfl,<-zAN,zF3 (by lia)]
   .rw[zEX (by lia)]
  .cases h
 .cases h
theorem aEz:∀ps:List (Int×D),(ps.map (·.1)).zip (ps.map (·.2))=ps
 |[]=>rfl
 |p::ps=>by rw[zAD,zAD,zAu,aEz ps]
def jo(ps:List (Int×D)):gQ (ps.map λ p=>.int p.1) (ps.map (·.2))=some ps:=by
 unfold gQ;have e:intsOf (ps.map λ p=>D.int p.1)=some (ps.map (·.1)):=by
  rw[show(ps.map λ p=>D.int p.1)=(ps.map (·.1)).map D.int by rw[zAN];rfl];exact cH _
 rw[e];dsimp only;rw[if_pos (by rw[zAE,zAE]),aEz]
def Rp.dctI_inv{K:zAA}(r:Rp K A H v (.dct ks vs))(h:gQ ks vs=some ps):
  ∃a kvs,v= .ref a/\H a=some (.dK kvs)/\A a/\Rps K (λ p=>A p/\p≠a) H (kvs.map (·.2)) (ps.map (·.2))/\kvs.map (·.1)=ps.map λ p=>(zCC p.1:Key):=by
 obtain⟨h1,h2⟩:=vW h;generalize hd:D.dct ks vs=d at r;cases r with
 |dK hh m r=>
  rename_i kvs ds;injection hd with q1 q2
  subst q2;refine⟨_,kvs,rfl,hh,m,by rw[<-h2];exact r,?_⟩;rw[h1]at q1;clear r h h1 h2 hh;induction kvs generalizing ps with
  |nil=>cases ps with
   |nil=>rfl
   |cons _ _=>cases q1
  |cons p kvs ih=>cases ps with
   |nil=>cases q1
   |cons q ps=>
    obtain⟨p1,p2⟩:=p;rw[zAD,zAD]at q1;injection q1 with q3 q4
    rw[zAD,zAD,ih q4];cases p1 with
    |inl i=>injection q3 with q3;rw[q3]
    |inr x=>cases q3
 |dT hh m r=>
  injection hd with q1 q2
  rw[h1]at q1;cases ps<;>cases q1
 |_=>cases hd
theorem aBp{K:zAA}:∀{kvs:List (Key×V)} {ps:List (Int×D)},Rps K A H (kvs.map (·.2)) (ps.map (·.2))->(kvs.map (·.1)=ps.map λ p=>(zCC p.1:Key))->∀i:Int,
  (∃d v,ps.lookup i=some d/\n8 kvs (.inl i)=some v/\Rp K A H v d)\/(ps.lookup i=none/\n8 kvs (.inl i)=none)
 |[],[],_,_,_=>.inr ⟨rfl,rfl⟩
 |[],_::_,_,e,_=>by cases e
 |_::_,[],_,e,_=>by cases e
 |p::kvs,q::ps,r,e,i=>by
  obtain⟨p1,p2⟩:=p;obtain⟨q1,q2⟩:=q;rw[zAD,zAD]at e;injection e with e1 e2
  replace e1:p1= .inl q1:=e1;subst e1;rw[zAD,zAD]at r;cases r with
  |cons h r=>
   by_cases c:q1=i
   .subst c
    exact .inl ⟨q2,p2,by simp[zA6],mG rfl,h⟩
   .have c1:(i==q1)=false:=by simpa using λ z=>c z.symm
    rw[mH (p:=(zCC q1,p2)) (by simpa using c),zA6,c1];exact aBp r e2 i
def sW:D->D->Rs D
 | .dct ks vs,.int i=>match gQ ks vs with
  |some ps=>(match ps.lookup i with
   |some d=>.ok d
   |none=>.st)
  |none=>.st
 |_,_=>.st
def jz(neg:Bool):D->D->Rs D
 | .int i,.dct ks vs=>match gQ ks vs with
  |some ps=>.ok (.bl (neg !=(ps.lookup i).isSome))
  |none=>.st
 |_,_=>.st
def aMZ:R2:=λ x y H Q=>∃a v,x= .ref a/\uQ H a y (some v)/\Q v H
def aKe(neg:Bool):R2:=λ y x H Q=>∃a o,x= .ref a/\uQ H a y o/\Q (.bl (neg !=o.isSome)) H
def aI6{X:Cx}(hu:X.A.units+1<cLine):OpR X (zBA .NotIn) (aKe true):=by
 intro kX s Z H y x u v Q I ry rx ⟨a,o,ex,g,q⟩;subst ex;cases rx;exact aJR hu I g ry λ s3 I3=>⟨.bl (!o.isSome),H,I3,rfl,by simpa using q⟩
def aLB{K:zAA}:OpS K (aKe n) (jz n):=by
 intro A x y d e H Q z rx ry ez q;unfold jz at ez;split at ez
 .rename_i i ks vs
  cases hp:gQ ks vs with
  |none=>rw[hp]at ez;cases ez
  |some ps=>
   rw[hp]at ez;cases ez;have ex:=rx.int_inv;subst ex;obtain⟨a,kvs,rfl,h1,m,r,hk⟩:=ry.dctI_inv hp;refine⟨a,_,rfl,uQ.k (k:=.inl i) h1,?_⟩;rcases aBp r hk i with ⟨d,v,e1,e2,_⟩|⟨e1,e2⟩
   .rw[e2];rw[e1]at q;exact q _ H (aR.refl H) (.bl _)
   .rw[e2];rw[e1]at q;exact q _ H (aR.refl H) (.bl _)
 .cases ez
section
variable{C:Ct}{m1 m2:Mode}{a b:Expr}{fa fb:En->Rs D}{pos:Pos}
def Ct.dnin(C:Ct)(i:C.ι):OpR (C.X i) (zBA .NotIn) (aKe true):=aI6 (by have:=(C.room i).un;lia)
def uU(ha:SE C m1 a fa)(hb:SE C m2 b fb)(hm:zCM .NotIn b=false:=by with_unfolding_all rfl):ST C (.Compare a [.NotIn] [b] pos) (tsb (op2 (jz true) fa fb)):=mQ C.dnin aLB ha hb hm
def aK4(ha:SE C m1 a fa)(hb:SE C m2 b fb)(hp:qx b:=by exact λ _ _=>rfl):SE C m1 (.Subscript a b pos) (op2 sW fa fb):=by
 obtain⟨t,h1,h2⟩:=ha;obtain⟨u,k1,k2⟩:=hb;refine⟨tOp aMZ t u,λ i=>aDT (by have:=(C.room i).un;lia) (h1 i) (k1 i) hp,λ U Z H ρ lab Q R W=>?_⟩;refine h2 U Z H ρ lab _ R (W.bd.imp λ d _ w x H1 s1 r1=>?_);refine k2 U Z H1 ρ lab _ (R.up s1) (w.bd.imp λ e _ w y H2 s2 r2=>?_);obtain⟨z,ez,wz⟩:=w.okD;cases d with
 |dct ks vs=>
  cases e with
  |int i=>
   cases hp2:gQ ks vs with
   |none=>unfold sW at ez;dsimp only at ez;rw[hp2]at ez;cases ez
   |some ps=>
    unfold sW at ez;dsimp only at ez;rw[hp2]at ez;dsimp only at ez;have ey:=r2.int_inv;subst ey;obtain⟨a,kvs,rfl,g1,m,r,hk⟩:=(r1.up s2).dctI_inv hp2;rcases aBp r hk i with ⟨d,v,e1,e2,e3⟩|⟨e1,e2⟩
    .rw[e1]at ez
     cases ez;have g2:uQ H2 a (.int i) (some v):=by
      have:=uQ.k (k:=.inl i) g1
      rw[e2]at this;exact this
     exact⟨a,v,rfl,g2,wz v H2 (s1.trans s2) (e3.wk λ p o _ q=>q.1)⟩
    .rw[e1]at ez;cases ez
  |_=>cases ez
 |_=>cases ez
end
def pC(ps:List (Int×D))(i:Int)(d:D):List (Int×D):=if (ps.any λ p=>decide (p.1=i))=true then ps.map (λ p=>if p.1=i then(p.1,d)else p)else ps++[(i,d)]
theorem aH2:∀{kvs:List (Key×V)} {ps:List (Int×D)} {i:Int},(kvs.map (·.1)=ps.map λ p=>(zCC p.1:Key))->(kvs.any λ kv=>decide (kv.1=(.inl i:Key)))=ps.any λ p=>decide (p.1=i)
 |[],[],_,_=>rfl
 |[],_::_,_,e=>by cases e
 |_::_,[],_,e=>by cases e
 |(p1,p2)::kvs,q::ps,i,e=>by
  rw[zAD,zAD]at e;injection e with e1 e2
  replace e1:p1= .inl q.1:=e1;subst e1;rw[zCa,zCa,aH2 e2];simp
theorem aFd{K:zAA}{i:Int}{v:V}{d:D}(h:Rp K A H v d):∀{kvs:List (Key×V)} {ps:List (Int×D)},Rps K A H (kvs.map (·.2)) (ps.map (·.2))->(kvs.map (·.1)=ps.map λ p=>(zCC p.1:Key))->
  Rps K A H ((kvs.map λ kv=>if kv.1= .inl i then(kv.1,v)else kv).map (·.2)) ((ps.map λ p=>if p.1=i then(p.1,d)else p).map (·.2))/\((kvs.map λ kv=>if kv.1= .inl i then(kv.1,v)else kv).map (·.1)=(ps.map λ p=>if p.1=i then(p.1,d)else p).map λ p=>(zCC p.1:Key))
 |[],[],_,_=>⟨.nil,rfl⟩
 |[],_::_,_,e=>by cases e
 |_::_,[],_,e=>by cases e
 |(p1,p2)::kvs,(q1,q2)::ps,r,e=>by
  rw[zAD,zAD]at e;injection e with e1 e2
  replace e1:p1= .inl q1:=e1;subst e1;rw[zAD,zAD]at r;cases r with
  |cons h1 r1=>
   obtain⟨z1,z2⟩:=aFd h r1 e2;rw[zAD,zAD,zAD,zAD,zAD,zAD,z2];by_cases c:q1=i
   .subst c
    rw[if_pos rfl,if_pos rfl];exact⟨.cons h z1,rfl⟩
   .rw[if_neg (show¬((zCC q1:Key),p2).1=zCC i by simpa using c),if_neg (show¬(q1,q2).1=i from c)]
    exact⟨.cons h1 z1,rfl⟩
def aCM{K:zAA}{kvs:List (Key×V)}{ps:List (Int×D)}{i:Int}{v:V}{d:D}(r:Rps K A H (kvs.map (·.2)) (ps.map (·.2)))(e:kvs.map (·.1)=ps.map λ p=>(zCC p.1:Key))(h:Rp K A H v d):
  Rps K A H ((putK kvs (.inl i) v).map (·.2)) ((pC ps i d).map (·.2))/\(putK kvs (.inl i) v).map (·.1)=(pC ps i d).map λ p=>(zCC p.1:Key):=by
 unfold putK pC;rw[aH2 e];split
 .exact aFd h r e
 .rw[zA7,zA7,zA7,zA7,e]
  exact⟨r.append (.cons h .nil),rfl⟩
def qb{K:zAA}{kvs:List (Key×V)}{ps:List (Int×D)}(h:H a=some (.dK kvs))(m:A a)(r:Rps K (λ p=>A p/\p≠a) H (kvs.map (·.2)) (ps.map (·.2)))(e:kvs.map (·.1)=ps.map λ p=>(zCC p.1:Key)):Rp K A H (.ref a) (az ps):=by
 have e1:(kvs.map λ p=>kD p.1)=ps.map λ p=>.int p.1:=by
  rw[show(kvs.map λ p=>kD p.1)=(kvs.map (·.1)).map kD by rw[zAN];rfl,e,zAN];rfl
 have:=Rp.dK h m r
 rw[e1]at this;exact this
def jR:D->D->Option (List (Int×D)×Int)
 | .dct ks vs,.int i=>(gQ ks vs).map λ ps=>(ps,i)
 |_,_=>none
def pdS(i:Nat)(fk fe:En->Rs D):En->Ou:=λ ρ=>match ρ[i]? with
 |some (.ow c)=>(fe ρ).bo λ d=>(fk ρ).bo λ k=>match jR c k with
  |some (ps,j)=>if ps.length<zAQ then .nx (ρ.set i (.ow (az (pC ps j d))))else .st
  |none=>.st
 |_=>.st
def vU(h:jR c k=some (ps,j)):∃ks vs,c= .dct ks vs/\k= .int j/\gQ ks vs=some ps:=by
 unfold jR at h;split at h
 .rename_i ks vs i
  cases hp:gQ ks vs with
  |none=>rw[hp]at h;cases h
  |some ps'=>rw[hp]at h;cases h;exact⟨ks,vs,rfl,rfl,hp⟩
 .cases h
section
variable{C:Ct}{pos tpos p:Pos}{ek e:Expr}{fk fe:En->Rs D}{x:Str}{m m1:Mode}
def aHk(i:Nat)(hk:SE C m1 ek fk)(he:SE C m e fe)(hm:okN m=true:=by rfl)(hN:∀j,(C.X j).N[i]? =some x:=by intro _;rfl)(hv:∀j,Vis (C.X j).env.scope x:=by intro _;first|exact zBq rfl|exact zBR (zBq rfl)|exact zBR (zBR rfl))(hd:Nd x:=by decide)
  (hcd:(x==("__classdict__":Str))=false:=by decide)(hs:∀j,zC3 e (some (.Subscript (.Name x p) ek tpos)) pos.line (C.X j).env=pure false:=by intro _;rfl):
  SS C (.Assign [.Subscript (.Name x p) ek tpos] e pos) (pdS i fk fe):=by
 obtain⟨tk,k1,k2⟩:=hk;obtain⟨te,e1,e2⟩:=he;refine⟨aF7 (jg i) tk te,λ j=>aDQ (by have:=(C.room j).un;lia) (eU (hN j) (hv j) hd hcd) (k1 j) (e1 j) (hs j),λ U Z H ρ lab De R W=>?_⟩;unfold pdS at W;cases es:ρ[i]? with
 |none=>rw[es]at W;exact zAI W
 |some s=>
  rw[es]at W;split at W
  .rename_i c hs
   cases hs;rcases R.sl i _ es with z|⟨v,ev,hv'⟩
   .cases z
   .obtain⟨hv1,htop⟩:=hv'
    refine e2 U Z H ρ lab _ R (W.bo.imp λ d _ w0 y H2 s2 r2=>⟨v,ev,?_⟩);refine k2 U Z H2 ρ lab _ (R.up s2) (w0.bo.imp λ k _ w kv H3 s3 r3=>?_);clear w0;cases hj:jR c k with
    |none=>rw[hj]at w;exact zAI w
    |some q=>
     obtain⟨ps,j⟩:=q;rw[hj]at w;dsimp only at w;obtain⟨ks,vs,rfl,rfl,hp⟩:=vU hj;obtain⟨a0,ea0,la0⟩:=htop rfl;subst ea0;have ey:=r3.int_inv;subst ey;obtain⟨a1,kvs,ea,h,mm,r,hk⟩:=hv1.dctI_inv hp;cases ea;by_cases hz:ps.length<zAQ
     .rw[if_pos hz]at w
      have kK:kvs.length=ps.length:=by have:=congrArg zC5 hk;simpa using this
      have h3:H3 a0=some (.dK kvs):=(s2.trans s3) _ _ h;refine⟨a0,_,rfl,aEy.k (k:=.inl j) (v:=y) h3 (by rw[kK];exact hz),?_⟩;obtain⟨R',r'⟩:=R.fresh (P:=λ k=>k=1) rfl (λ k hk=>beq_iff_eq.mp (jT hm k hk)) s2 r2;have la:(bG H 1 lab a0).1=i+2:=by rw[aj h];exact la0
      have B:iW a0 H3 (upd H3 a0 (.dK (putK kvs (.inl j) y))):=λ b' o ne hb=>by rw[aQ ne];exact hb
      obtain⟨q1,q2⟩:=aCM (i:=j) (A:=λ p=>((bG H 1 lab p).1=1\/(bG H 1 lab p).1=i+2)/\p≠a0) (r.mono (s2.trans s3) λ p o e z=>⟨by rw[aj e];exact z.1,z.2⟩) hk ((r'.up s3).wk λ p o e z=>⟨.inl z,λ q=>by subst q;rw[la]at z;lia⟩);refine w Z _ _ ((R'.up s3).mut ev h3 rfl la B ⟨qb aV (.inr la) (q1.but B h3 rfl λ z=>z.2 rfl) q2,λ _=>⟨a0,rfl,la⟩⟩)
     .rw[if_neg hz]at w
      exact zAI w
  .exact zAI W
end
def prT:D->Option (Int×D)
 | .tup [.int i,v]=>some (i,v)
 |_=>none
def mD:List D->Option (List (Int×D))
 |[]=>some []
 |d::ds=>match prT d,mD ds with
  |some p,some ps=>some (p::ps)
  |_,_=>none
def aGB(h:prT d=some p):d= .tup [.int p.1,p.2]:=by
 unfold prT at h;split at h
 .cases h;rfl
 .cases h
def vV(h:mD (d::ds)=some ps):∃p qs,d= .tup [.int p.1,p.2]/\mD ds=some qs/\ps=p::qs:=by
 unfold mD at h;split at h
 .rename_i p qs h1 h2
  cases h;exact⟨p,qs,aGB h1,h2,rfl⟩
 .cases h
def jX(acc qs:List (Int×D)):List (Int×D):=qs.foldl (λ ps q=>pC ps q.1 q.2) acc
def dcI(fi:En->Rs (List D))(js:kQ)(fg:D->En->Rs En)(ft:En->Rs Bool)(fk fv:En->Rs D):En->Rs D:=λ ρ=>(fi (shE ρ)).bd λ ds=>
 if ds.length<zAQ then(match lcL (stE js (shE ρ)) fg ft (pairE fk fv) ds with
  | .ok l=>(match mD l with
   |some qs=>.ok (az (jX [] qs))
   |none=>.st)
  |_=>.st)else .st
def aME(tk tv:TE):Addr->L2.St->Hp->(Hp->Prop)->Prop:=λ D Z H Q=>tk Z H λ y H1=>tv Z H1 λ v H2=>∃i kvs,y= .int i/\H2 D=some (.dK kvs)/\kvs.length<zAQ/\Q (upd H2 D (.dK (putK kvs (.inl i) v)))
def aM5{X:Cx}{kx vx:Expr}{tk tv:TE}(hk:PE X kx tk)(hv:PE X vx tv):PB X (w5 kx vx) (aME tk tv):=by
 intro D kX s Z H Q I h;unfold w5;refine zAB (thn (hk kX s Z H _ I h) λ u s1 ⟨y,H1,I1,r1,q1⟩=>zAB (zBT (thn (hv kX s1 Z H1 _ I1 q1) λ u2 s2 ⟨v,H2,I2,r2,i,kvs,ey,hD,hl,q⟩=>?_)));subst ey;refine zAB (zDy (zBT ?_));obtain⟨z,hd,vs,rel,dd⟩:=aDq I2.hok hD;have hz:vs.length<=zAQ:=by rw[<-rel.length];exact z
 have hl2:(putK kvs (.inl i) v).length<=zAQ:=by have:=jV kvs (.inl i) v;lia
 refine wpAny_dictSet_pairs (knd:=bZ X.prog X.w) (k:=.inl i) (hsz:=hz) (aBU (k:=.inl i) r1) dd λ h' dd' hs=>⟨_,?_,q⟩
 have he:∃q,h'.get? D=some q:=let⟨q,_,_,hq,_⟩:=dd';⟨q,hq⟩
 exact aAH I2 (t':=s2.toks+1) (by rw[hD];exact zC0) hs he (aHM hl2 hd (rel.put (.inl i) r2) dd')
def aLu:aHd prog w newDict (λ ob=>ob={cls:=.type "dict",data:=.dict #[]}) (λ _=>.dK []) where
 make:=λ h=>zBC (h _ rfl)
 live:=by rintro ob rfl;rfl
 ok:=by
  rintro H h a ob rfl hg hb;exact⟨zAf _,beq_eq_false_iff_ne.mpr (zDV (zA1 hb)),[],.nil,_,#[],0,hg,⟨rfl,rfl,rfl⟩,rfl,λ _ he=>(by simp at he),Pairs.nil,zBu⟩
def wM(acc qs:List (Int×D))(q:Int×D):jX acc (qs++[q])=pC (jX acc qs) q.1 q.2:=by unfold jX;rw[zFM];rfl
theorem aAw:∀{l m:List D} {ps:List (Int×D)},mD (l++m)=some ps->∃p1 p2,mD l=some p1/\mD m=some p2/\ps=p1++p2
 |[],m,ps,h=>⟨[],ps,rfl,h,rfl⟩
 |d::l,m,ps,h=>by
  obtain⟨p,qs,rfl,h2,rfl⟩:=vV h;obtain⟨p1,p2,e1,e2,rfl⟩:=aAw h2;exact⟨p::p1,p2,by unfold mD;rw[e1];rfl,e2,rfl⟩
theorem yH(p:Int×D):∀{l:List D} {ps:List (Int×D)},mD l=some ps->mD (l++[.tup [.int p.1,p.2]])=some (ps++[p])
 |[],ps,h=>by cases h;rfl
 |d::l,ps,h=>by
  obtain⟨q,qs,rfl,h2,rfl⟩:=vV h;rw[List.cons_append];unfold mD;rw[yH p h2];rfl
section
variable{K:zAA}{G:Gx}{wi:TI}{fi:En->Rs (List D)}{g:TG}{fg:D->En->Rs En}{tt:TT}{ft:En->Rs Bool}{tk tv:TE}{fk fv:En->Rs D}{js:kQ}
def aKW(hi:aJ0 K G wi fi)(hg:aJ1 K {G with E:=λ _ _ _=>False} g fg)(ht:aCm K {G with E:=λ _ _ _=>False} tt ft)(hk:iR K {G with E:=λ _ _ _=>False} (some []) tk fk)(hv:iR K {G with E:=λ _ _ _=>False} (some []) tv fv):
  iR K G (some []) (aML (λ _=>.dK []) wi (stV js) g tt (aME tk tv)) (dcI fi js fg ft fk fv):=by
 intro U Z H ρ lab Q R W;refine hi U Z H _ _ _ R.shE (W.bd.imp λ ds _ w J H1 lab1 U1 s1 _ R1 jl=>?_);intro l hl;obtain⟨kK,out,qs,qV,hqs,w⟩:ds.length<zAQ/\∃out qs,lcL (stE js (VL.shE ρ)) fg ft (pairE fk fv) ds= .ok out/\mD out=some qs/\QE K (some []) lab H Q (az (jX [] qs)):=by
  by_cases kK:ds.length<zAQ
  .rw[if_pos kK]at w
   cases qV:lcL (stE js (VL.shE ρ)) fg ft (pairE fk fv) ds with
   |ok out=>
    rw[qV]at w;dsimp only at w;cases hns:mD out with
    |some ns=>rw[hns]at w;exact⟨kK,out,ns,rfl,hns,w⟩
    |none=>rw[hns]at w;exact zAI w
   |ex c=>rw[qV]at w;exact zAI w
   |st=>rw[qV]at w;exact zAI w
  .rw[if_neg kK]at w
   exact zAI w
 have R0:RR K {G with E:=λ _ _ _=>False} (U1++U) (VL.shE ρ) Z H1 (λ _=>(0,0)):=R1.blk0 rfl;have RB:=R0.block (js:=js) (λ _=>zAf _) hl;have hHl:H l=none:=s1.free hl;have h0l:G.H0 l=none:=R1.old.free hl;refine⟨λ i n H2=>∃(kvs:List (Key×V)) (pre:List D) (qp:List (Int×D)),n=ds.length-i/\i<=ds.length/\H2 l=some (.dK kvs)/\kvs.length<=i/\mD pre=some qp/\Rps K (λ p=>H p=none/\p≠l) H2 (kvs.map (·.2)) ((jX [] qp).map (·.2))/\(kvs.map (·.1)=(jX [] qp).map λ p=>(zCC p.1:Key))/\
  RR K {G with E:=λ _ _ _=>False} (U1++U) (stE js (VL.shE ρ)) (stV js Z) H2 (λ p=>if p=l then(2,0)else(0,0))/\aR H H2/\
  ∃post,lcL (stE js (VL.shE ρ)) fg ft (pairE fk fv) (ds.drop i)= .ok post/\out=pre++post,⟨ds.length,[],[],[],by lia,by lia,aV,zAS _,rfl,.nil,rfl,RB.up (bF hl _),s1.trans (bF hl _),out,qV,rfl⟩,?_⟩
 rintro i n H2 ⟨kvs,pre,qp,rfl,hi,hD,hei,hqp,rv,rk,R2,s2,post,hpost,eout⟩;have jj:=jl _ H2 λ q hq=>R2.tm q (zAb _ hq)
 by_cases hlt:i<ds.length
 .obtain⟨go,yl⟩:=(jj i).2 hlt
  refine .inr ⟨go,λ x H3 hy=>?_⟩;obtain⟨s3,d,ed,rx⟩:=yl x H3 hy;replace R2:=R2.up s3;replace hD:=s3 _ _ hD;replace s2:=s2.trans s3;replace rv:=rv.up s3;have ed2:ds.drop i=d::ds.drop (i+1):=by
   rw[zCg hlt]
   have:=zAH hlt
   rw[ed]at this;cases this;rfl
  rw[ed2]at hpost;obtain⟨ρ1,k,e1,e2,e3⟩:=aBP hpost;refine hg (U1++U) x d _ H3 _ _ _ ρ1 R2 rx e1 λ Z4 R4=>?_
  refine ht (U1++U) Z4 H3 ρ1 _ _ R4 ?_;rw[e2];intro H5 s5;rcases e3 with ⟨rfl,y,ys,e3,e4,rfl⟩|⟨rfl,e4⟩
  .rw[if_pos rfl]
   obtain⟨kd,vd,e5,e6,rfl⟩:=aGK e3;obtain⟨p,k3,q3,q4⟩:∃(p:Int×D) (k3:List (Int×D)),D.tup [kd,vd]= .tup [.int p.1,p.2]/\mD ys=some k3:=by
    rw[eout]at hqs;obtain⟨p1,p2,_,q2,_⟩:=aAw hqs;obtain⟨p,k3,a1,a2,_⟩:=vV q2;exact⟨p,k3,a1,a2⟩
   injection q3 with q3
   injection q3 with q5 q6
   injection q6 with q6
   subst q5 q6;refine hk (U1++U) Z4 H5 ρ1 _ _ (R4.up s5) ?_;rw[e5];intro v H6 s6 r6;refine hv (U1++U) Z4 H6 ρ1 _ _ ((R4.up s5).up s6) ?_;rw[e6];intro v2 H7 s7 r7;have ey:=r6.int_inv;subst ey;have hD7:H7 l=some (.dK kvs):=((s5.trans s6).trans s7) _ _ hD;have B:iW l H7 (upd H7 l (.dK (putK kvs (.inl p.1) v2))):=λ b o ne hb=>by rw[aQ ne];exact hb
   obtain⟨z1,z2⟩:=aCM (i:=p.1) (A:=λ q=>H q=none/\q≠l) (rv.up ((s5.trans s6).trans s7)) rk (r7.wk λ q o _ z=>by
    rcases z with z|z
    .exact⟨((s2.trans s5).trans s6).free z,λ e=>by subst e;rw[(s5.trans s6) _ _ hD]at z;cases z⟩
    .cases z)
   refine⟨p.1,kvs,rfl,hD7,by lia,ds.length-(i+1),by lia,putK kvs (.inl p.1) v2,pre++[.tup [.int p.1,p.2]],qp++[p],rfl,hlt,aV,by have:=jV kvs (.inl p.1) v2;lia,yH p hqp,?_,?_,(R2.up ((s5.trans s6).trans s7)).but_blk B hD7 rfl h0l,?_,ys,e4,by rw[eout];simp⟩
   .rw[wM]
    exact z1.but B hD7 rfl λ z=>z.2 rfl
   .rw[wM]
    exact z2
   .exact λ b o hb=>B b o (λ z=>by subst z;rw[hHl]at hb;cases hb) ((((s2.trans s5).trans s6).trans s7) b o hb)
  .rw[if_neg zA0]
   exact⟨ds.length-(i+1),by lia,kvs,pre,qp,rfl,hlt,s5 _ _ hD,by lia,hqp,rv.up s5,rk,R2.up s5,s2.trans s5,post,e4,eout⟩
 .have ei:i=ds.length:=by lia
  subst ei;rw[zEW]at hpost;cases hpost;rw[zB0]at eout;subst eout;rw[hqs]at hqp;cases hqp;exact .inl ⟨(jj _).1 (zAS _),w _ H2 s2 (qb hD (.inl hHl) (rv.wk λ p o _ z=>⟨.inl z.1,z.2⟩) rk)⟩
end
section
variable{C:Ct}{pos:Pos}{kx vx tg iter:Expr}{ifs:List Expr}{sc:Scope}{N:List Str}{js:kQ}{ks:List Nat}{fi:En->Rs (List D)}{fg:D->En->Rs En}{ft:En->Rs Bool}{fk fv:En->Rs D}
def aMS(hi:SI C tg iter fi)(hg:SG (C.blk sc N) tg ks fg)(ht:aJ3 (C.blk sc N) ifs ft)(hk:SE (C.blk sc N) (some []) kx fk)(hv:SE (C.blk sc N) (some []) vx fv)(hs:∀i x,zBl iter (C.X i).env x=pure x:=by intro _ _;rfl)(hB:∀i,fJ (C.X i) sc N (stV js) ks:=by intro _;exact aCh rfl rfl rfl rfl rfl rfl):SE C (some []) (.DictComp kx vx [⟨tg,iter,ifs,0⟩] sc pos) (dcI fi js fg ft fk fv):=by
 obtain⟨wi,i1,i2⟩:=hi;obtain⟨g,g1,g2,g3,g4⟩:=hg;obtain⟨tt,t1,t2⟩:=ht;obtain⟨tk,k1,k2⟩:=hk;obtain⟨tv,v1,v2⟩:=hv;exact⟨_,λ i=>aM3 (pos:=pos) (hB i) (C.calm i) (i1 i) (λ c fp z4 zS=>g1 (i,c,fp,z4,zS)) g3 (λ c fp z4 zS=>t1 (i,c,fp,z4,zS)) (aDz kx vx tg iter ifs sc pos) (aBu kx vx tg iter ifs sc pos) aLu (λ c fp z4 zS=>aM5 (X:=(C.X i).block sc c N fp z4 zS) (k1 (i,c,fp,z4,zS)) (v1 (i,c,fp,z4,zS))) rfl rfl (hs i),aKW i2 g2 t2 k2 v2⟩
end
section
variable{prog:zAV}{w:World}{A:zAc}{E:Value->zAF->Prop}{s:zAF}
def aBb{l:Addr}{vs:List Value}{Q:List Value->zAF->Prop}(hl:IsTup s.heap l vs.toArray)
  (h:Q vs {s with heap:=(s.heap.push (zB9 "list" #[] 0)).update s.heap.objs.size (zBw (·++vs.toArray))})(hsz:vs.length<=zAQ):
  wpAny (model prog w) A (zIY (.ref l)) Q E s:=by
 obtain⟨o,ho,hc,n,hd⟩:=hl;unfold zIY;refine zAB (zHE (zCJ entry_proto_collect' ?_));show wpAny _ _ (do again (.builtin "list.__iadd__" ⟨[<-zFU [],.ref l],[]⟩)) _ _ s;refine zAB (zFk (zAG ⟨zEz _ (by decide+kernel),zCJ entry_list_iadd' ?_⟩));show wpAny _ _ (zDD (.ref s.heap.objs.size) (.ref l) (.ref s.heap.objs.size)) _ _ {s with heap:=s.heap.push (zB9 "list" #[] 0)};unfold zDD;have ho':(s.heap.push (zB9 "list" #[] 0)).get? l=some o:=zAC _ ho;refine zAB (zGP (T:="tuple") ⟨o,ho',hc⟩ ?_);have ht:(zBn "tuple"==zBn "tuple")=true:=by rfl
 rw[if_pos (by rw[ht];simp)];refine zAB (zIK ho' hd ?_);refine zAB (zIK (xs:=#[]) (n:=0) (zAJ _ rfl) rfl ?_);rw[if_neg (by simp)];refine zAB (zFh (xs:=#[]) (n:=0) (zAJ _ rfl) rfl ?_ (zAf _) (by show(#[]++vs.toArray).size<=zAQ+1;simp only[Array.size_append,zAX,zCA];omega));refine zAG ?_;show wpAny (model prog w) A (do
   let o <-load s.heap.objs.size
   match o.data with
   | .seq xs _=>pure xs.toList
   |_=>zI1 "internal:collect") Q E {s with heap:=(s.heap.push (zB9 "list" #[] 0)).update s.heap.objs.size (zBw (·++vs.toArray))}
 refine zAB (zIw (zDI (zAJ _ rfl) _) ?_);show wpAny _ _ (pure ((#[]:Array Value)++vs.toArray).toList) Q E _;rw[show((#[]:Array Value)++vs.toArray).toList=vs by simp];exact zAG h
end
end VL
namespace PySem
open Sem(wp)
section
variable{prog:zAV}{w:World}
inductive aAX{K:Type}[DecidableEq K](knd:KeyKind prog w K)(h:Heap):List Value->List (K×Value)->Prop where
 |nil:aAX knd h [] []
 |cons {x:Addr} {o:Obj} {n:Nat} {kv v:Value} {k:K} {us:List Value} {ps:List (K×Value)} (ho:h.get? x=some o) (hc:o.cls= .type "tuple") (hd:o.data= .seq #[kv,v] n) (hk:knd.is k kv=true) (r:aAX knd h us ps):aAX knd h (.ref x::us) ((k,v)::ps)
end
end PySem
namespace VL
open PySem PySem.Spec PyProof.Rows L2
section
variable{K:Type}[DecidableEq K]
end
def aJ9(l a:Addr):HO:=.ext λ h=>h.IsValuesView l a
end VL
namespace L2
open PySem PySem.Spec PyProof.Rows
section
variable{X:Cx}{n0 n1 n2 odd:Str}{c1 c2:V}{k1 k2 k3 k4:List V}{l1 l2:List Str}{a1 a2:Expr}{as1 as2 e1 e2 e3 e4 w1 w2:List Expr}{kw1 kw2:List zCe}{Q:VK}{H:Hp}{vs:List V}
 {p1 p2 p3 p4 p5 p6 p7 p8 p9 p10 p11 p12 p13 p14 p15 p16 p17 p18 p19 p20 p21 p22 p23 p24 p25 p26 p27 p28 p29 p30 p31 p32 p33 p34 p35 p36 p37 p38 p39 p40:Pos}{q1 q2 q3 q4 q5 q6 q7:Pos}{j1 j2 j3 j4 j5:Nat}{E0:XK}{wd:Addr->Option Str}
end
section
variable{P:zAV}{w:World}{K:zAA}{mg:Str->Option Value}{base:Heap}{x q n0 n1 n2 odd:Str}{st:Stmt}{f:Addr}{fd:zAg}{k:Nat}{wd:Addr->Option Str}{c1 c2:V}{k1 k2 k3 k4:List V}{l1 l2:List Str}{a1 a2:Expr}{as1 as2 e1 e2 e3 e4 w1 w2:List Expr}{kw1 kw2:List zCe}
 {p1 p2 p3 p4 p5 p6 p7 p8 p9 p10 p11 p12 p13 p14 p15 p16 p17 p18 p19 p20 p21 p22 p23 p24 p25 p26 p27 p28 p29 p30 p31 p32 p33 p34 p35 p36 p37 p38 p39 p40:Pos}{q1 q2 q3 q4 q5 q6 q7:Pos}{j1 j2 j3 j4 j5:Nat}
end
section
variable{X:Cx}{n0 n1 n2 odd:Str}{c1 c2:V}{k1 k2 k3 k4:List V}{l1 l2:List Str}{a1 a2:Expr}{as1 as2 e1 e2 e3 e4 w1 w2:List Expr}{kw1 kw2:List zCe}{Q:VK}{H:Hp}{vs:List V}
 {p1 p2 p3 p4 p5 p6 p7 p8 p9 p10 p11 p12 p13 p14 p15 p16 p17 p18 p19 p20 p21 p22 p23 p24 p25 p26 p27 p28 p29 p30 p31 p32 p33 p34 p35 p36 p37 p38 p39 p40:Pos}{q1 q2 q3 q4 q5 q6 q7:Pos}{j1 j2 j3 j4 j5:Nat}{E0:XK}{wd:Addr->Option Str}
end
section
variable{P:zAV}{w:World}{K:zAA}{mg:Str->Option Value}{base:Heap}{x q n0 n1 n2 odd:Str}{st:Stmt}{f:Addr}{fd:zAg}{k:Nat}{wd:Addr->Option Str}{c1 c2:V}{k1 k2 k3 k4:List V}{l1 l2:List Str}{a1 a2:Expr}{as1 as2 e1 e2 e3 e4 w1 w2:List Expr}{kw1 kw2:List zCe}
 {p1 p2 p3 p4 p5 p6 p7 p8 p9 p10 p11 p12 p13 p14 p15 p16 p17 p18 p19 p20 p21 p22 p23 p24 p25 p26 p27 p28 p29 p30 p31 p32 p33 p34 p35 p36 p37 p38 p39 p40:Pos}{q1 q2 q3 q4 q5 q6 q7:Pos}{j1 j2 j3 j4 j5:Nat}
end
end L2
namespace VL
open PySem PySem.Spec PyProof.Rows L2
def dnr{K:zAA}{h:Heap}{mg:Str->Option Value}{x:Str}{st:Stmt}(X:K.In h)(G:h.Ns zAj mg)(e:∃f d,Enr K x st f d)(ps:List Str)
  (hb:∀(kV doc pm:Value) (an:Option Addr) (cdv ct:Value) (us:List Value),us.length=ps.length->bindArgs (zCO x x (nZ st) (fO st) (aM st) .none kV doc pm an cdv ct) ⟨us,[]⟩=pure (ps.zip us):=by
   intro _ _ _ _ _ _ us hl;repeat' first|rfl|(simp at hl;done)|rcases us with _|⟨_,us⟩):∃f d,Dnr K mg x st ps f d/\zBI K zAj x=some (some (.ref f)):=by
 obtain⟨f,d,F,a⟩:=e;exact⟨f,d,⟨F,zDY X G a,F.binds hb⟩,a⟩
section
variable{X:Cx}
def zY(K:zAA):List V->Hp->VK->Prop:=λ xs H Q=>∃p ns,xs=[.ref p]/\SqT K H p (ns.map V.int)/\ns.length<64/\New H (.lst ((sortI ns).map V.int)) Q
def xZ:cX X (.builtin "sorted") (zY X.K):=by
 intro kX s Z H xs us Q I r h;obtain⟨p,ns,rfl,hp,h64,q⟩:=h;obtain⟨u,rfl,ru⟩:=vals1 r;cases ru;obtain⟨its,rv,pl,hz⟩:=I.tuple hp;have hI:zBH its ns:=intsAre_of rv;have kK:its.length=ns.length:=zHb hI;refine iT (aBb pl ?_ (by rw[kK];exact zAn (zBZ h64) (by decide)));have k1:∀b o,s.heap.get? b=some o->((s.heap.push (zB9 "list" #[] 0)).update s.heap.objs.size (zBw (·++its.toArray))).get? b=some o:=λ b o e=>by
  rw[zBz _ _ _ _ (zA1 (zAR e))];exact zAC _ e
 have hle:s.heap.objs.size<=((s.heap.push (zB9 "list" #[] 0)).update s.heap.objs.size (zBw (·++its.toArray))).objs.size:=by
  rw[zHw,size_push'];exact zCm _
 generalize (s.heap.push (zB9 "list" #[] 0)).update s.heap.objs.size (zBw (·++its.toArray))=h1 at k1 hle;refine qG (s:={s with heap:=h1}) hI (by lia) λ out h' e a1 a2 a3=>?_
 have hfr:H h1.objs.size=none:=I.hok.fresh hle;exact⟨.ref h1.objs.size,upd H h1.objs.size (.lst ((sortI ns).map V.int)),I.laid (t':=s.toks) (λ b o e=>a2 b o (k1 b o e)) hle ⟨by rw[zAE,(sortI_perm ns).length_eq];exact zAn (zBZ h64) (by decide),out,e,a1,a3⟩,rfl,q.at hfr⟩
end
def o7:List D->Rs D
 |[.tup l]=>match intsOf l with
  |some ns=>if ns.length<64 then .ok (.lst ((sortI ns).map .int))else .st
  |none=>.st
 |_=>.st
def aCf{K:zAA}:yz K (zY K) o7:=by
 intro A xs ds H Q z r ez q;unfold o7 at ez;split at ez
 .cases r with
  |cons h r=>
   cases r;obtain⟨a,xs,rfl,h,r⟩:=h.tup_inv;split at ez
   .rename_i ns e
    have e1:=bW e;subst e1;split at ez
    .rename_i hl
     cases ez;have e2:=r.ints_of;subst e2;exact⟨_,ns,rfl,h,hl,λ p H' s hp hn=>q _ H' s (.lst hp hn .ints)⟩
    .cases ez
   .cases ez
 .cases ez
section
variable{C:Ct}{pos p:Pos}{m:Mode}{a:Expr}{ga:En->Rs (List D)}
def aAg(hm:C.mg "sorted"=none)(ha:SA C m [a] ga)(he:∀i,zAU [a] (C.X i).env=[(false,eval a (C.X i).env)]:=by intro _;rfl)(hg:∀i,Gl (C.X i) "sorted":=by intro _;rfl)(hv:zAz "sorted"=some (.builtin "sorted"):=by decide+kernel):SE C (some []) (.Call (.Name "sorted" p) [a] [] pos) (opA o7 ga):=by
 obtain⟨t,h1,h2⟩:=ha;refine⟨_,λ i=>gG (r:=zY C.K) (by rw[<-C.hK i];exact xZ) (hg i) (by rw[(C.cx i).2.2.2.1];exact hm) hv (h1 i) (by decide) (by decide) (he i) rfl,pX aCf h2⟩
end
end VL
namespace L2
open PySem PySem.Spec PyProof.Rows
end L2
namespace VL
open PySem PySem.Spec PyProof.Rows L2
theorem KV.at:∀{kvs:List (Key×V)} {vs:List (Key×Value)},KV kvs vs->vs.map (·.1)=kvs.map (·.1)
 |_,_,.nil=>rfl
 |_,_,.cons e r=>by rw[zAD,zAD,KV.at r,e.1]
def aN4(A:zAc)(s:zAF)(v u:Value)(b:Bool):Prop:=∀(prog:zAV) (w:World) (E:Value->zAF->Prop) (Q:Value->zAF->Prop),Q (.bool b) s->wpAny (model prog w) A (zGb .Gt v u) Q E s
inductive aEx(A:zAc)(s:zAF):List Value->List Value->Bool->Prop
 |nn:aEx A s [] [] false
 |nc:aEx A s [] (v::vs) false
 |cn:aEx A s (v::vs) [] true
 |eq:zCl A s v u true->aEx A s vs us b->aEx A s (v::vs) (u::us) b
 |un:zCl A s v u false->aN4 A s v u b->aEx A s (v::vs) (u::us) b
section
open PySem.SeqAt
open PySem.AutoSeq1(wpAny_loadPart')
open PySem.MeetsSeq PySem.MeetsSeq2 PySem.MeetsSeq3
end
section
structure Cmp(f:D->D->Option Bool)(l:List D):Prop where
 n0:0<l.length
 im:uL l=true
 nd:au l=true
 dp:dO l<=40
 cm:∀x∈l,∀y∈l,(f x y).isSome=true
instance:Decidable (Cmp f l):=if h:0<l.length/\uL l=true/\au l=true/\dO l<=40/\∀x∈l,∀y∈l,(f x y).isSome=true then .isTrue ⟨h.1,h.2.1,h.2.2.1,h.2.2.2.1,h.2.2.2.2⟩else .isFalse λ z=>h ⟨z.n0,z.im,z.nd,z.dp,z.cm⟩
end
mutual
def lsD:D->D->Option Bool
 | .int a,.int b=>some (decide (a<b))
 | .tup l,.tup m=>aMf l m
 |_,_=>none
def aMf:List D->List D->Option Bool
 |[],[]=>some false
 |[],_::_=>some true
 |_::_,[]=>some false
 |x::xs,y::ys=>if eqD x y=true then aMf xs ys else lsD x y
end
def aN3(A:zAc)(s:zAF)(v u:Value)(b:Bool):Prop:=∀(prog:zAV) (w:World) (E:Value->zAF->Prop) (Q:Value->zAF->Prop),Q (.bool b) s->wpAny (model prog w) A (zGb .Lt v u) Q E s
inductive aEw(A:zAc)(s:zAF):List Value->List Value->Bool->Prop
 |nn:aEw A s [] [] false
 |nc:aEw A s [] (v::vs) true
 |cn:aEw A s (v::vs) [] false
 |eq:zCl A s v u true->aEw A s vs us b->aEw A s (v::vs) (u::us) b
 |un:zCl A s v u false->aN3 A s v u b->aEw A s (v::vs) (u::us) b
section
open PySem.SeqAt
open PySem.AutoSeq1(wpAny_loadPart')
open PySem.MeetsSeq PySem.MeetsSeq2 PySem.MeetsSeq3
end
theorem intsAre_of:∀{vs:List Value} {ns:List Int},vs.length=ns.length->(∀(i:Nat) v,vs[i]? =some v->∃t,v= .int (ns.getD i 0) t)->zBH vs ns
 |[],[],_,_=>.nil
 |[],_::_,h,_=>by cases h
 |_::_,[],h,_=>by cases h
 |v::vs,n::ns,h,hv=>by
  obtain⟨t,e⟩:=hv 0 v rfl;have e2:v= .int n t:=e;subst e2;exact .cons _ _ (intsAre_of (by simpa using h) λ i v e=>by
   obtain⟨t,e⟩:=hv (i+1) v (by simpa using e);exact⟨t,by simpa using e⟩)
def aFl:List V->Hp->VK->Prop:=λ xs H Q=>∃(p:Addr) (kvs:List (Key×V)) (ns:List Int),xs=[.ref p]/\H p=some (.dK kvs)/\kvs.map (·.1)=ns.map (λ n=>(zCC n:Key))/\ns.length<64/\New H (.lst ((sortI ns).map V.int)) Q
def aAN{X:Cx}(hc:X.calm=true):cX X (.builtin "sorted") aFl:=by
 intro kX s Z H xs us Q I r h;obtain⟨p,kvs,ns,rfl,hp,hk,h64,q⟩:=h;obtain⟨u,rfl,ru⟩:=vals1 r;cases ru;obtain⟨z,hd,vs,rel,dd⟩:=aDq I.hok hp;obtain⟨ep,hda⟩:=dd.dictAt;have hvk:vs.map (·.1)=ns.map (λ n=>(zCC n:Key)):=(KV.at rel).trans hk;have kK:vs.length=ns.length:=by have:=congrArg zC5 hvk;simpa using this
 have hat:∀(i:Nat) v,(∃k x,vs[i]? =some (k,x)/\(bZ X.prog X.w).is k v=true)->∃t,v= .int (ns.getD i 0) t:=λ i v ⟨k,x,e,hv⟩=>by
  have h1:(vs.map (·.1))[i]? =some k:=by rw[zAO,e];rfl
  rw[hvk,zAO]at h1;cases hn:ns[i]? with
  |none=>rw[hn]at h1;cases h1
  |some n=>
   rw[hn]at h1
   have:k=zCC n:=(zAs h1).symm
   subst this;rcases bV (k:=.inl n) (v:=v) hv with ⟨j,t,e1,e2⟩|⟨y,t,e1,e2⟩
   .cases e1;exact⟨t,by rw[e2,zA8,hn];rfl⟩
   .cases e1
 have hh:X.A.in1.handled=none:=I.ok.hd hc;refine iT (tZ (PySem.W.kdl_dict (knd:=bZ X.prog X.w) (ep:=ep) hd) hh hda (by rw[kK,zBe];lia) λ h1 tk vs1 k0 k1 k2 k3=>?_);have hI:zBH vs1 ns:=intsAre_of (by rw[k2,kK]) λ i v e=>hat i v (k3 i v e)
 refine qG (s:={s with heap:=h1,toks:=tk}) hI (by rw[k2];lia) λ out h' e a1 a2 a3=>?_
 have hle:s.heap.objs.size<=h1.objs.size:=zBZ k0;have hfr:H h1.objs.size=none:=I.hok.fresh hle;exact⟨.ref h1.objs.size,upd H h1.objs.size (.lst ((sortI ns).map V.int)),I.laid (t':=tk) (λ b o e=>a2 b o (k1 b o e)) hle ⟨by rw[zAE,(sortI_perm ns).length_eq];exact zAn (zBZ h64) (by decide),out,e,a1,a3⟩,rfl,q.at hfr⟩
def vA:List D->Rs D
 |[.dct ks vs]=>match gQ ks vs with
  |some ps=>if ps.length<64 then .ok (.lst ((sortI (ps.map (·.1))).map .int))else .st
  |none=>.st
 |_=>.st
section
variable{C:Ct}{pos p:Pos}{m:Mode}{a:Expr}{ga:En->Rs (List D)}
def aCC(hm:C.mg "sorted"=none)(ha:SA C m [a] ga)(he:∀i,zAU [a] (C.X i).env=[(false,eval a (C.X i).env)]:=by intro _;rfl)(hg:∀i,Gl (C.X i) "sorted":=by intro _;rfl)(hv:zAz "sorted"=some (.builtin "sorted"):=by decide+kernel):SE C (some []) (.Call (.Name "sorted" p) [a] [] pos) (opA vA ga):=by
 obtain⟨t,h1,h2⟩:=ha;refine⟨tCB aFl t,λ i=>gG (aAN (C.calm i)) (hg i) (by rw[(C.cx i).2.2.2.1];exact hm) hv (h1 i) (by decide) (by decide) (he i) rfl,λ U Z H ρ lab Q R W=>?_⟩;refine h2 U Z H ρ lab _ R (W.bd.imp λ ds _ w xs H1 s1 r1=>?_);obtain⟨z,ez,w⟩:=w.okD;unfold vA at ez;split at ez
 .obtain⟨v,rfl,rd⟩:=r1.one_inv
  split at ez
  .rename_i ps hp
   split at ez
   .rename_i hl
    cases ez;obtain⟨c,kvs,rfl,g,_,_,hk⟩:=rd.dctI_inv hp;exact⟨c,kvs,ps.map (·.1),rfl,g,by rw[hk,zAN];rfl,by rw[zAE];exact hl,λ q H3 s3 hq hn3=>w _ H3 (s1.trans s3) (.lst hq (.inl (s1.free hn3)) Rps.ints)⟩
   .cases ez
  .cases ez
 .cases ez
end
def vY(ks vs:List D):Option (List (List Int×D)):=match aGd ks with
 |some kk=>if kk.length=vs.length then some (kk.zip vs)else none
 |none=>none
def q9(ps:List (List Int×D)):D:=.dct (.non::ps.map λ p=>.tup (p.1.map .int)) (ps.map (·.2))
theorem aCn:∀ps:List (List Int×D),(ps.map (·.1)).zip (ps.map (·.2))=ps
 |[]=>rfl
 |p::ps=>by rw[zAD,zAD,zAu,aCn ps]
def vX(ps:List (List Int×D)):vY (.non::ps.map λ p=>.tup (p.1.map .int)) (ps.map (·.2))=some ps:=by
 have e:aGd (.non::ps.map λ p=>D.tup (p.1.map .int))=some (ps.map (·.1)):=by
  show yM (ps.map λ p=>D.tup (p.1.map .int))=_;rw[show(ps.map λ p=>D.tup (p.1.map .int))=(ps.map (·.1)).map λ k=>D.tup (k.map .int)by rw[zAN];rfl];exact rm _
 unfold vY;rw[e];dsimp only;rw[if_pos (by rw[zAE,zAE]),aCn]
def DxO(K:zAA)(H:Hp)(a:Addr)(es:List Ent):Prop:=DxK K H a es\/(es=[]/\H a=some (.dK []))
def Rp.dctX_inv{K:zAA}(r:Rp K A H v (.dct ks vs))(h:vY ks vs=some ps):
  ∃a es,v= .ref a/\DxO K H a es/\A a/\Rps K (λ p=>A p/\p≠a) H (es.map (·.2.2)) (ps.map (·.2))/\es.map (·.1)=ps.map (·.1):=by
 unfold vY at h;cases hk:aGd ks with
 |none=>rw[hk]at h;cases h
 |some kk=>
  rw[hk]at h;dsimp only at h;split at h
  .rename_i hl
   cases h;have p1:(kk.zip vs).map (·.1)=kk:=zF3 (by lia);have p2:(kk.zip vs).map (·.2)=vs:=zEX (by lia);rw[p1,p2];clear p1 p2 hl;generalize hd:D.dct ks vs=d at r;cases r with
   |dT hh m r=>
    rename_i es ds;injection hd with q1 q2
    subst q1 q2;replace hk:yM (es.map λ e=>D.tup (e.1.map .int))=some kk:=hk;rw[show(es.map λ e=>D.tup (e.1.map .int))=(es.map (·.1)).map λ k=>D.tup (k.map .int)by rw[zAN];rfl,rm]at hk;exact⟨_,es,rfl,.inl hh,m,r,zAs hk⟩
   |dK hh m r=>
    rename_i kvs ds;injection hd with q1 q2
    subst q1 q2;cases kvs with
    |nil=>cases hk;exact⟨_,[],rfl,.inr ⟨rfl,hh⟩,m,r,rfl⟩
    |cons p ps=>
     obtain⟨p1,p2⟩:=p;cases p1<;>cases hk
   |_=>cases hd
  .cases h
def lkE(es:List Ent)(k:List Int):Option V:=(es.find? λ e=>decide (e.1=k)).map (·.2.2)
def DxP.lk{k:List Int}{v:V}(p:DxP es xs)(h:lkE es k=some v):∃q,atKey xs k=some q/\RelV v q.2:=by
 unfold lkE at h;unfold atKey;unfold DxP at p;induction p with
 |nil=>cases h
 |cons q t ih=>
  rename_i e x es xs;rw[zBk]at h ⊢;rw[<-q.1];by_cases c:e.1=k
  .rw[decide_eq_true c]at h ⊢
   cases h;exact⟨_,rfl,q.2.2⟩
  .rw[decide_eq_false c]at h ⊢
   exact ih h
def jm(es:List Ent)(k:List Int)(b:Addr)(v:V):List Ent:=if ((es.map (·.1)).any (·==k))=true then es.map (λ e=>if e.1=k then(e.1,e.2.1,v)else e)else es++[(k,b,v)]
def DxP.rep{k:List Int}{v:V}{u:Value}(r:RelV v u)(p:DxP es xs):DxP (es.map λ e=>if e.1=k then(e.1,e.2.1,v)else e) (xs.map (putAt k u)):=by
 unfold DxP at p ⊢;induction p with
 |nil=>exact .nil
 |cons q t ih=>
  refine .cons ?_ ih;unfold putAt;rename_i e x _ _;dsimp only;by_cases c:e.1=k
  .rw[if_pos c,if_pos (q.1▸c)]
   exact⟨q.1,q.2.1,r⟩
  .rw[if_neg c,if_neg (q.1▸c)]
   exact q
theorem DxP.jm{k:List Int}{v:V}{u:Value}{b:Addr}(p:DxP es xs)(r:RelV v u):DxP (jm es k b v) (storedH xs k b u):=by
 unfold VL.jm storedH;rw[p.has];split
 .exact p.rep r
 .exact p.snoc ⟨rfl,rfl,r⟩
def aG6(es:List Ent)(k:List Int)(b:Addr)(v:V):(jm es k b v).length<=es.length+1:=by
 unfold jm;split
 .rw[zAE];lia
 .rw[zA9];exact zAS _
def aJi(K:zAA):V->V->V->Hp->(Hp->Prop)->Prop:=λ o i v H Q=>∃a b k es,o= .ref a/\i= .ref b/\SqT K H b (k.map V.int)/\DxO K H a es/\es.length<zAQ/\Q (upd H a (dxO a (jm es k b v)))
def DxO.mut{K:zAA}(h:DxO K H a es):∃o,H a=some o/\gK o=true:=by
 rcases h with h|⟨_,h⟩
 .exact⟨_,h.at_,rfl⟩
 .exact⟨_,h,rfl⟩
def aHp{X:Cx}(hu:X.A.units+1<cLine):aNE X (aJi X.K):=by
 intro kX s Z H o i v ov iv u Q I ro ri rv ⟨a,b,k,es,e1,e2,hb,hD,hl,q⟩;subst e1 e2;cases ro;cases ri;obtain⟨hd,xs,pr,dd⟩:=aDp I hD;refine zId (hsz:=by rw[<-zD0 pr];lia) (zDL hu) (aIo I hb) dd λ h' dd' hs=>⟨_,?_,q⟩
 obtain⟨o,ts,ep,h1,r⟩:=id dd';refine I.write (x:=a) (e:=a) ?_ (.inl rfl) (λ b' u hb hu=>(hs.2 b' hb).trans hu) ⟨o,h1⟩ (aHL (zAn (aG6 es k b v) hl) hd (pr.jm rv) dd');rcases hD with h|⟨_,h⟩
 .rw[h.at_];exact trivial
 .rw[h];exact trivial
def aAs(ps:List (List Int×D))(k:List Int)(d:D):List (List Int×D):=if ((ps.map (·.1)).any (·==k))=true then ps.map (λ p=>if p.1=k then(p.1,d)else p)else ps++[(k,d)]
def vP:D->D->Option (List (List Int×D)×List Int)
 | .dct ks vs,e=>match wB e,vY ks vs with
  |some k,some ps=>some (ps,k)
  |_,_=>none
 |_,_=>none
def aCN(h:vP c e=some (ps,k)):∃ks vs,c= .dct ks vs/\e= .tup (k.map .int)/\vY ks vs=some ps:=by
 cases c with
 |dct ks vs=>
  unfold vP at h;dsimp only at h;cases hk:wB e with
  |none=>rw[hk]at h;cases h
  |some k2=>
   cases hp:vY ks vs with
   |none=>rw[hk,hp]at h;cases h
   |some p2=>rw[hk,hp]at h;cases h;exact⟨ks,vs,rfl,sE hk,hp⟩
 |_=>cases h
theorem aDN{K:zAA}{k:List Int}{b:Addr}{v:V}{d:D}(h:Rp K A H v d):∀{es:List Ent} {ps:List (List Int×D)},Rps K A H (es.map (·.2.2)) (ps.map (·.2))->es.map (·.1)=ps.map (·.1)->
  Rps K A H ((es.map λ e=>if e.1=k then(e.1,e.2.1,v)else e).map (·.2.2)) ((ps.map λ p=>if p.1=k then(p.1,d)else p).map (·.2))/\((es.map λ e=>if e.1=k then(e.1,e.2.1,v)else e).map (·.1)=(ps.map λ p=>if p.1=k then(p.1,d)else p).map (·.1))
 |[],[],_,_=>⟨.nil,rfl⟩
 |[],_::_,_,e=>by cases e
 |_::_,[],_,e=>by cases e
 |p::es,q::ps,r,e=>by
  rw[zAD,zAD]at e r;injection e with e1 e2
  cases r with
  |cons h1 r1=>
   obtain⟨z1,z2⟩:=aDN (b:=b) h r1 e2;rw[zAD,zAD,zAD,zAD,zAD,zAD,z2];by_cases c:q.1=k
   .rw[if_pos c,if_pos (e1.trans c)]
    exact⟨.cons h z1,by rw[e1]⟩
   .rw[if_neg c,if_neg λ z=>c (e1.symm.trans z)]
    exact⟨.cons h1 z1,by rw[e1]⟩
def aIJ{K:zAA}{k:List Int}{b:Addr}{v:V}{d:D}{es:List Ent}{ps:List (List Int×D)}(h:Rp K A H v d)(r:Rps K A H (es.map (·.2.2)) (ps.map (·.2)))(e:es.map (·.1)=ps.map (·.1)):
  Rps K A H ((jm es k b v).map (·.2.2)) ((aAs ps k d).map (·.2))/\(jm es k b v).map (·.1)=(aAs ps k d).map (·.1):=by
 unfold jm aAs;rw[e];split
 .exact aDN (b:=b) h r e
 .rw[zA7,zA7,zA7,zA7,e]
  exact⟨r.append (.cons h .nil),rfl⟩
def aIM{es:List Ent}{k:List Int}{b:Addr}{v:V}{e:Ent}(he:e∈jm es k b v):(∃e0∈es,e0.1=e.1/\e0.2.1=e.2.1)\/(e.1=k/\e.2.1=b):=by
 unfold jm at he;split at he
 .obtain⟨e0,h1,h2⟩:=zAY.mp he
  refine .inl ⟨e0,h1,?_⟩;split at h2<;>subst h2<;>exact⟨rfl,rfl⟩
 .rcases zA3.mp he with h|h
  .exact .inl ⟨e,h,rfl,rfl⟩
  .rw[zAM.mp h];exact .inr ⟨rfl,rfl⟩
def aIL{es:List Ent}{k:List Int}{b:Addr}{v:V}(h:(es.map (·.1)).Nodup):((jm es k b v).map (·.1)).Nodup:=by
 unfold jm;split
 .rw[zAN,show((λ e:Ent=>e.1)∘λ e:Ent=>if e.1=k then(e.1,e.2.1,v)else e)=λ e=>e.1 from funext λ e=>by dsimp only[zHa];split<;>rfl]
  exact h
 .rename_i hn
  rw[zA7,zAa];refine⟨h,by simp,λ a ha c hc z=>hn ?_⟩;rw[show c=k by simpa using hc]at z;rw[zCI];exact⟨a,ha,by simpa using z⟩
def ptS(i:Nat)(fk fe:En->Rs D):En->Ou:=λ ρ=>match ρ[i]? with
 |some (.ow c)=>(fe ρ).bo λ d=>(fk ρ).bo λ k=>match vP c k with
  |some (ps,j)=>if ps.length<zAQ then .nx (ρ.set i (.ow (q9 (aAs ps j d))))else .st
  |none=>.st
 |_=>.st
section
variable{C:Ct}{pos tpos p:Pos}{ek e:Expr}{fk fe:En->Rs D}{x:Str}{m m1:Mode}
def aHj(i:Nat)(hk:SE C m1 ek fk)(he:SE C m e fe)(hm:okN m=true:=by rfl)(hN:∀j,(C.X j).N[i]? =some x:=by intro _;rfl)(hv:∀j,Vis (C.X j).env.scope x:=by intro _;first|exact zBq rfl|exact zBR (zBq rfl)|exact zBR (zBR rfl))(hd:Nd x:=by decide)
  (hcd:(x==("__classdict__":Str))=false:=by decide)(ha:∀j v,zEh (.Subscript (.Name x p) ek tpos) (C.X j).env v=(do
   let ov <-zC8 [v] (eval (.Name x p) (C.X j).env);let iv <-zC8 [v,ov] (eval ek (C.X j).env)
   zFV tpos
   zC8 [v,ov,iv] (setItem ov iv v)
   release [v,ov,iv] []):=by intro _ _;rfl)(hs:∀j,swapsWithSole [.Subscript (.Name x p) ek tpos] e pos.line (C.X j).env=pure false:=by intro _;rfl)(hw:∀j,swappedStores [.Subscript (.Name x p) ek tpos] e (C.X j).env=pure none:=by intro _;rfl)
  (h1:∀j,(zCk [.Subscript (.Name x p) ek tpos] (C.X j).env).map (·.2)=[zEh (.Subscript (.Name x p) ek tpos) (C.X j).env]:=by intro _;rfl):
  SS C (.Assign [.Subscript (.Name x p) ek tpos] e pos) (ptS i fk fe):=by
 obtain⟨tk,k1,k2⟩:=hk;obtain⟨te,e1,e2⟩:=he;refine⟨aEA te (aMq (jg i) tk (aJi C.K)),λ j=>aKl (e1 j) (aKp (eU (hN j) (hv j) hd hcd) (k1 j) (by rw[<-C.hK j];exact aHp (by have:=(C.room j).un;lia)) (ha j)) (hs j) (hw j) (h1 j),λ U Z H ρ lab De R W=>?_⟩;unfold ptS at W;cases es:ρ[i]? with
 |none=>rw[es]at W;exact zAI W
 |some s=>
  rw[es]at W;split at W
  .rename_i c hs
   cases hs;rcases R.sl i _ es with z|⟨v,ev,hv'⟩
   .cases z
   .obtain⟨hv1,htop⟩:=hv'
    refine e2 U Z H ρ lab _ R (W.bo.imp λ d _ w0 y H2 s2 r2=>⟨v,ev,?_⟩);refine k2 U Z H2 ρ lab _ (R.up s2) (w0.bo.imp λ k _ w kv H3 s3 r3=>?_);clear w0;cases hj:vP c k with
    |none=>rw[hj]at w;exact zAI w
    |some q=>
     obtain⟨ps,j⟩:=q;rw[hj]at w;dsimp only at w;obtain⟨ks,vs,rfl,rfl,hp⟩:=aCN hj;obtain⟨a0,ea0,la0⟩:=htop rfl;subst ea0;obtain⟨b,xs,rfl,hb1,hb2⟩:=r3.tup_inv;have exs:=hb2.ints_of;subst exs;obtain⟨a1,ee,ea,h,mm,r,hk⟩:=hv1.dctX_inv hp;cases ea;by_cases hz:ps.length<zAQ
     .rw[if_pos hz]at w
      have kK:ee.length=ps.length:=by have:=congrArg zC5 hk;simpa using this
      have h3:DxO C.K H3 a0 ee:=h.elim (λ z=>.inl (z.mono (s2.trans s3))) λ z=>.inr ⟨z.1,(s2.trans s3) _ _ z.2⟩
      obtain⟨om,ho,hmu⟩:=h.mut;have ho3:H3 a0=some om:=(s2.trans s3) _ _ ho;refine⟨a0,b,j,ee,rfl,rfl,hb1,h3,by rw[kK];exact hz,?_⟩;obtain⟨R',r'⟩:=R.fresh (P:=λ k=>k=1) rfl (λ k hk=>beq_iff_eq.mp (jT hm k hk)) s2 r2;have la:(bG H 1 lab a0).1=i+2:=by rw[aj ho];exact la0
      have B:iW a0 H3 (upd H3 a0 (dxO a0 (jm ee j b y))):=λ b' o ne hb=>by rw[aQ ne];exact hb
      obtain⟨q1,q2⟩:=aIJ (k:=j) (b:=b) (A:=λ p=>((bG H 1 lab p).1=1\/(bG H 1 lab p).1=i+2)/\p≠a0) ((r'.up s3).wk λ p o e z=>⟨.inl z,λ q=>by subst q;rw[la]at z;lia⟩) (r.mono (s2.trans s3) λ p o e z=>⟨by rw[aj e];exact z.1,z.2⟩) hk;have hnd:(ee.map (·.1)).Nodup:=h.elim (λ z=>z.nd) λ z=>by rw[z.1];exact zBu
      have hks:∀e∈ee,SqT C.K H3 e.2.1 (e.1.map V.int):=h3.elim (λ z=>z.ks) λ z=>by rw[z.1];intro e he;cases he
      have hD:DxK C.K (upd H3 a0 (dxO a0 (jm ee j b y))) a0 (jm ee j b y):=by
       refine⟨aV,λ e he=>lA B ho3 hmu ?_,aIL hnd⟩;rcases aIM he with ⟨e0,h1,h2,h3⟩|⟨h1,h2⟩
       .rw[<-h2,<-h3];exact hks e0 h1
       .rw[h1,h2];exact hb1
      have rd:=Rp.dT (A:=λ p=>(bG H 1 lab p).1=1\/(bG H 1 lab p).1=i+2) hD (.inr la) (q1.but B ho3 hmu λ z=>z.2 rfl);have ek:((jm ee j b y).map λ e=>D.tup (e.1.map .int))=(aAs ps j d).map λ p=>D.tup (p.1.map .int):=by
       rw[show((jm ee j b y).map λ e=>D.tup (e.1.map .int))=((jm ee j b y).map (·.1)).map λ k=>D.tup (k.map .int)by rw[zAN];rfl,q2,zAN];rfl
      rw[ek]at rd;exact w Z _ _ ((R'.up s3).mut ev ho3 hmu la B ⟨rd,λ _=>⟨a0,rfl,la⟩⟩)
     .rw[if_neg hz]at w
      exact zAI w
  .exact zAI W
end
def qL(l:gX):List (Key×V):=l.map λ p=>(.inl p.1,V.int p.2)
def Inv.froze{X:Cx}{kX:hZ}{Z:L2.St}{H:Hp}{s:zAF}{a:Addr}{u:HO}{o:Obj}(I:Inv X kX Z H s)(hu:gK u=true)(ha:H a=some u)(ho:s.heap.get? a=some o):Inv X kX Z (upd H a (.frz o u)) s:=by
 have nn:∀b,H b=none->upd H a (.frz o u) b=none:=λ b e=>by rw[aQ λ z=>by subst z;rw[ha]at e;cases e<;>cases hu];exact e
 have nt:∀b xs,H b=some (.tup xs)->upd H a (.frz o u) b=some (.tup xs):=λ b xs e=>by rw[aQ λ z=>by subst z;rw[ha]at e;cases e<;>cases hu];exact e
 have nf:∀b q x,H b=some (.frz q x)->upd H a (.frz o u) b=some (.frz q x):=λ b q x e=>by rw[aQ λ z=>by subst z;rw[ha]at e;cases e<;>cases hu];exact e
 have no:∀b x,H b=some (.own x)->upd H a (.frz o u) b=some (.own x):=λ b x e=>by rw[aQ λ z=>by subst z;rw[ha]at e;cases e<;>cases hu];exact e
 have nb:∀b ps,H b=some (.tbl ps)->upd H a (.frz o u) b=some (.tbl ps):=λ b ps e=>by rw[aQ λ z=>by subst z;rw[ha]at e;cases e<;>cases hu];exact e
 refine⟨I.ok,I.os,I.bare,⟨I.base.keep,I.base.slot,λ b q e n hx=>nn b (I.base.free b q e n hx),I.base.there,λ b xs e=>nt b xs (I.base.tups b xs e),λ b q u e=>nf b q u (I.base.frzs b q u e),λ b ps e=>?_⟩,I.loc,I.cell,nn _ I.free,λ x c e=>nn _ (I.freeC x c e),λ p hp=>?_,λ b x e=>?_,I.len,λ p hp=>?_⟩
 .exact nb _ _ (I.base.tbls b ps e)
 .obtain⟨h1,h2,h3⟩:=I.pin p hp
  exact⟨h1,nn _ h2,h3⟩
 .by_cases hb:b=a
  .subst hb
   rw[aV]at e;cases e;exact⟨ho,(I.hok b _ ha).stay (λ c v _ q=>q) (λ c q=>no c b q) nt nf⟩
  .rw[aQ hb]at e
   exact(I.hok b x e).stay (λ c v _ q=>q) (λ c q=>no c b q) nt nf
 .obtain⟨h1,h2,h3,h4,ps,h5,h6⟩:=I.tab p hp
  exact⟨nn _ h1,h2,h3,h4,ps,h5,h6.mono nf⟩
def wC(ks vs:List D):Option gX:=match gQ ks vs with
 |some ps=>(intsOf (ps.map (·.2))).map λ js=>(ps.map (·.1)).zip js
 |none=>none
theorem aD6:∀{kvs:List (Key×V)} {is js:List Int},kvs.map (·.1)=is.map (λ i=>(zCC i:Key))->kvs.map (·.2)=js.map V.int->kvs=qL (is.zip js)
 |[],[],[],_,_=>rfl
 |[],_::_,_,e,_=>by cases e
 |[],[],_::_,_,e=>by cases e
 |_::_,[],_,e,_=>by cases e
 |_::_,_::_,[],_,e=>by cases e
 |(k,v)::kvs,i::is,j::js,e1,e2=>by
  rw[zAD,zAD]at e1 e2;injection e1 with a1 a2
  injection e2 with b1 b2
  replace a1:k= .inl i:=a1;replace b1:v= .int j:=b1;subst a1 b1;rw[aD6 a2 b2];rfl
def Rp.zz{K:zAA}(r:Rp K A H v (.dct ks vs))(h:wC ks vs=some l):∃a,v= .ref a/\H a=some (.dK (qL l))/\A a:=by
 unfold wC at h;cases hp:gQ ks vs with
 |none=>rw[hp]at h;cases h
 |some ps=>
  rw[hp]at h;dsimp only at h;cases hj:intsOf (ps.map (·.2))with
  |none=>rw[hj]at h;cases h
  |some js=>
   rw[hj]at h;cases h;obtain⟨a,kvs,rfl,g,m,q,hk⟩:=r.dctI_inv hp;refine⟨a,rfl,?_,m⟩;rw[bW hj]at q;have e2:=q.ints_of;have e1:kvs.map (·.1)=(ps.map (·.1)).map (λ i=>(zCC i:Key)):=by rw[hk,zAN];rfl
   rw[aD6 e1 e2]at g;exact g
theorem aGa:∀{l:gX} {vs:List (Key×Value)} {i:Nat} {q:Int×Int},KV (qL l) vs->l[i]? =some q->∃t,vs[i]? =some ((.inl q.1:Key),zEF q.2 t)
 |[],_,_,_,_,h=>by simp at h
 |p::l,vs,i,q,r,h=>by
  unfold KV qL at r;rw[zAD]at r;cases r with
  |cons e t=>
   rename_i x vs;obtain⟨x1,x2⟩:=x;obtain⟨e1,tk,e2⟩:=e;dsimp only at e1 e2;subst e1 e2;cases i with
   |zero=>
    have:p=q:=by simpa using h
    subst this;exact⟨tk,rfl⟩
   |succ i=>
    obtain⟨t2,e⟩:=aGa (l:=l) (i:=i) (q:=q) (show KV (qL l) _ from t) (by simpa using h);exact⟨t2,by simpa using e⟩
def Fz(H:Hp)(a:Addr)(ep:Nat)(l:gX):Prop:=∃(o:Obj) (es:Array zDe),o.data= .dict es ep/\H a=some (.frz o (.dK (qL l)))
def aMB(a:Addr)(ep:Nat)(l:gX):It:=
 ⟨λ i H=>i<l.length/\Fz H a ep l,λ i H x H'=>∃p q,x= .ref p/\H p=none/\H'=upd H p (.tup [.int q.1,.int q.2])/\l[i]? =some q,λ i H=>l.length<=i/\Fz H a ep l⟩
def aDf{X:Cx}{kX:hZ}{Z:L2.St}{H:Hp}{s:zAF}{a:Addr}(I:Inv X kX Z H s)(h:Fz H a ep l):∃vs,KV (qL l) vs/\vs.length=l.length/\s.heap.DictAt (bZ X.prog X.w) a vs ep/\(a==zBE)=false:=by
 obtain⟨o,es,hd,ha⟩:=h;obtain⟨ho,_,hsys,vs,rel,o2,es2,ep2,e2,c2,d2,r2⟩:=(show bM X.prog X.w H s.heap a (.frz o (.dK (qL l)))from I.hok a _ ha);rw[ho]at e2;cases e2;rw[hd]at d2;cases d2;exact⟨vs,rel,by have:=rel.length;rw[<-this];simp[qL],⟨o,es,ho,c2,hd,r2⟩,hsys⟩
def aBs{K:zAA}{x1:Nat}{elts:List Expr}{ps:Pos}(a it:Addr)(ep:Nat)(l:gX)(hai:a≠it):Turn P w K (.Tuple elts x1 ps) (aMB a ep l) [it] it (λ i h=>∃ok ov,zD6 h it a i l.length ep ok ov) where
 mem:=by simp
 obj:=λ i h st b hb=>by
  obtain⟨ok,ov,he⟩:=st
  have:b=it:=by simpa using hb
  subst this;exact⟨_,he,λ v z=>by cases z⟩
 keep:=λ i h h' st k=>let⟨ok,ov,he⟩:=st;⟨ok,ov,k it (by simp) _ he⟩
 item:=by
  intro X hP hw hK hc i kX s Z H E I hf st hg;subst hP hw hK;obtain⟨hlt,hz⟩:=hg;obtain⟨vs,rel,kK,dd,_⟩:=aDf I hz;obtain⟨ok,ov,he⟩:=st;obtain⟨q,hq⟩:∃q,l[i]? =some q:=⟨l[i],by simp[hlt]⟩
  obtain⟨t,hv⟩:=aGa rel hq;rw[<-kK]at he;refine wpAny_pyNext_items_item he dd hv λ key h' hkey ho hT hsz hk=>⟨_,rfl,?_⟩
  have ek:∃t',key= .int q.1 t':=by
   rcases bV (k:=.inl q.1) (v:=key) hkey with ⟨j,t,e1,e2⟩|⟨y,t,e1,e2⟩
   .cases e1;exact⟨t,e2⟩
   .cases e1
  obtain⟨t',rfl⟩:=ek;have hel:it<s.heap.objs.size:=zAR he;refine zGe ho λ h2 he2 hs2=>⟨.ref s.heap.objs.size,upd H s.heap.objs.size (.tup [.int q.1,.int q.2]),?_,rfl,⟨_,q,rfl,I.hok.fresh (zAS _),rfl,hq⟩,⟨_,_,by rw[<-kK];exact he2⟩,λ b hb=>?_⟩
  .exact aBX (s:=s) (h':=h2) (t':=s.toks) I hf (λ b u hb q=>(hs2.2 b λ z=>hb (by simp[z])).trans (hk b u (λ z=>hb (by simp[z])) q)) (zAS _) ⟨⟨by simp[zBe],NoD.at ((hs2.2 _ (zB4 hel)).trans hT)⟩,[.int q.1 t',.int q.2 t],.cons ⟨_,rfl⟩ (.cons ⟨_,rfl⟩ .nil),_,(hs2.2 _ (zB4 hel)).trans hT,rfl,_,rfl⟩
  .have:=(hf b hb).1
   rw[aQ]
   .exact this
   .rintro rfl
    have q2:s.heap.objs.size=it:=by simpa using hb
    exact absurd hel (by rw[<-q2];exact zBQ _)
 done:=by
  intro X hP hw hK hc i kX s Z H E I hf st hg;subst hP hw hK;obtain⟨hle,hz⟩:=hg;obtain⟨vs,rel,kK,dd,_⟩:=aDf I hz;obtain⟨ok,ov,he⟩:=st;rw[<-kK]at he;obtain⟨f0,f1,f2,f3,f4,f5⟩:=hf it (by simp);exact wpAny_pyNext_items_end (I.ok.hd hc) he dd (zE8 (by lia)) λ h' he'=>⟨rfl,I.turned (t':=s.toks) (λ b o hb q=>he' b o hb q) f0 f1 f3 f4 f5⟩
 self:=λ _ _ _ _ _ st h=>let⟨_,_,he⟩:=st;zHO he h
def aMp(te:TE):TI:=λ Z H R=>te Z H λ x H1=>∃a ep l,x= .ref a/\Fz H1 a ep l/\R (aMB a ep l) H1
def aGD{X:Cx}{x1:Nat}{elts:List Expr}{ps apos cpos:Pos}{o:Expr}{te:TE}(ho:PE X o te)(hbase:zBd o "items" X.env (eval o X.env)=eval o X.env:=by rfl)(hline:(apos.endLine==cpos.line)=true:=by rfl):
  PI X (.Tuple elts x1 ps) (.Call (.Attribute o "items" apos) [] [] cpos) (aMp te):=by
 intro kX s Z H R I h;refine zDM hbase hline (thn (ho kX s Z H _ I h) λ v s1 ⟨x,H1,I1,r1,a,ep,l,ex,hz,q⟩=>?_);subst ex;cases r1;obtain⟨vs,rel,kK,dd,hsys⟩:=aDf I1 hz;obtain⟨ob,es,hd,ha⟩:=hz;obtain⟨t1,t2,_⟩:=aL7 I1 (.inl ⟨_,.inr ⟨ob,ha⟩⟩);refine⟨"dict","dict.items",zCQ,zCn,zGB,t1,t2,zBy rfl (zDf ?_)⟩;have dof:s1.heap.DictOf (bZ X.prog X.w) a vs:=let⟨o,es,r⟩:=dd;⟨o,es,ep,r⟩
 refine zEv zCn t1 zFs (zFe _) (meets_dict_items (bZ X.prog X.w) a hsys) ⟨⟨vs,dof⟩,?_⟩;have hlt:=dd.lt_size;refine wpAny_pyIter_items (v:=s1.heap.objs.size) (d:=a) ⟨_,zAJ _ rfl,rfl,rfl⟩ (dd.push _) ?_;have hk:∀(o1 o2:Obj) b u,s1.heap.get? b=some u->((s1.heap.push o1).push o2).get? b=some u:=λ o1 o2 b u e=>zAC _ (zAC _ e)
 have hle:∀o1:Obj,s1.heap.objs.size<=(s1.heap.push o1).objs.size:=λ o1=>by rw[zBD];exact zCm _
 refine⟨_,[_],_,aMB a ep l,H1,rfl,I1.kept (t':=s1.toks) (hk _ _),aBs a _ ep l (zA1 (zAW hlt (hle _))),⟨.none,.none,?_⟩,λ b hb=>?_,q⟩
 .show _=_
  rw[<-kK];exact zAJ _ rfl
 .have e:b=_:=zAM.mp hb
  subst e;exact I1.fpOk (hle _) (I1.hok.fresh (hle _))
def aGh(fo:En->Rs D):En->Rs (List D):=λ ρ=>(fo ρ).bd λ d=>match d with
 | .itm _ l=>.ok (l.map λ p=>.tup [.int p.1,.int p.2])
 |_=>.st
def Rp.itm_inv{K:zAA}(r:Rp K A H v (.itm oo l)):∃a,v= .ref a/\uC H a oo l:=by cases r with|itm h=>exact⟨_,rfl,h⟩
section
variable{C:Ct}{m:Mode}{o:Expr}{fo:En->Rs D}{elts:List Expr}{x1:Nat}{ps apos cpos:Pos}
def aFX(ho:SE C m o fo)(hbase:∀j,zBd o "items" (C.X j).env (eval o (C.X j).env)=eval o (C.X j).env:=by intro _;rfl)(hline:(apos.endLine==cpos.line)=true:=by rfl):
  SI C (.Tuple elts x1 ps) (.Call (.Attribute o "items" apos) [] [] cpos) (aGh fo):=by
 obtain⟨t,p1,p2⟩:=ho;refine⟨aMp t,λ i=>aGD (p1 i) (hbase i) hline,λ U Z H ρ lab Rr R W=>p2 U Z H ρ lab _ R (W.bd.imp λ d _ w x H1 s r=>?_)⟩;cases d with
 |itm oo l=>
  obtain⟨a,rfl,ob,es,ep,hd,_,ha⟩:=r.itm_inv;have R1:=R.up s;refine⟨a,ep,l,rfl,⟨ob,es,hd,ha⟩,w _ H1 lab [(.ref a,.itm (some ep) l)] s (λ _ _ _=>rfl) ⟨R1.len,R1.sl,R1.old,R1.new,λ z hz=>?_⟩ λ lab' H' hq=>?_⟩
  .rcases zAT.mp hz with rfl|hz
   .exact .itm ⟨ob,es,ep,hd,.inr rfl,ha⟩
   .exact R1.tm z hz
  .have z:=hq _ (zAK ..)
   obtain⟨a',e',ob',es',ep',hd',hz',ha'⟩:=z.itm_inv;cases e';rcases hz' with hz'|hz'
   .cases hz'
   .cases hz'
    have F:Fz H' a ep l:=⟨ob',es',hd',ha'⟩;refine λ i=>⟨λ hi=>⟨by simpa using hi,F⟩,λ hi=>⟨⟨by simpa using hi,F⟩,λ x H2 y=>?_⟩⟩
    obtain⟨p,q,rfl,hp,rfl,hq2⟩:=y;exact⟨bF hp _,.tup [.int q.1,.int q.2],by rw[zAO,hq2];rfl,.tup (.inl (.inl aV)) (.cons (.int _) (.cons (.int _) .nil))⟩
 |_=>exact zAI w
end
end VL
namespace L2
open PySem PySem.Spec PyProof.Rows
end L2
namespace VL
open PySem PySem.Spec PyProof.Rows L2
structure aN6(ks:List D):Prop where
 nd:au ks=true
 dp:dO ks<=40
 cm:∀x∈ks,∀y∈ks,(lsD x y).isSome=true
instance:Decidable (aN6 ks):=if h:au ks=true/\dO ks<=40/\∀x∈ks,∀y∈ks,(lsD x y).isSome=true then .isTrue ⟨h.1,h.2.1,h.2.2⟩else .isFalse λ z=>h ⟨z.nd,z.dp,z.cm⟩
structure aN7(f:D->D->Option Bool)(l:List D):Prop where
 im:uL l=true
 nd:au l=true
 dp:dO l<=40
 cm:∀x∈l,∀y∈l,(f x y).isSome=true
instance:Decidable (aN7 f l):=if h:uL l=true/\au l=true/\dO l<=40/\∀x∈l,∀y∈l,(f x y).isSome=true then .isTrue ⟨h.1,h.2.1,h.2.2.1,h.2.2.2⟩else .isFalse λ z=>h ⟨z.im,z.nd,z.dp,z.cm⟩
def aAE(f:En->Rs D):En->Rs D:=λ ρ=>(f ρ).bd λ d=>match d with
 | .dct ks vs=>(match wC ks vs with
  |some l=>.ok (.itm none l)
  |none=>.st)
 |_=>.st
section
variable{C:Ct}{e a b:Expr}{f fa fb:En->Rs D}{m1 m2:Mode}{pos p:Pos}
def aF2(h:SE C (some []) e f):SE C (some []) e (aAE f):=by
 obtain⟨t,h1,h2⟩:=h;refine⟨λ Z H Q=>t Z H λ x H1=>∃a kvs,x= .ref a/\H1 a=some (.dK kvs)/\∀o es ep,o.data= .dict es ep->Q x (upd H1 a (.frz o (.dK kvs))),λ j kX s Z H Q I h=>?_,λ U Z H ρ lab Q R W=>?_⟩
 .refine thn (h1 j kX s Z H _ I h) λ v s1 ⟨x,H1,I1,r1,a,kvs,ex,ha,q⟩=>?_
  obtain⟨_,_,vs,_,ob,es,ep,e,_,hdat,_⟩:=aDq I1.hok ha;exact⟨x,_,Inv.froze I1 rfl ha e,r1,q ob es ep hdat⟩
 .refine h2 U Z H ρ lab _ R (W.bd.imp λ d _ w x H1 s1 r1=>?_)
  cases d with
  |dct ks vs=>
   dsimp only at w;cases hl:wC ks vs with
   |none=>rw[hl]at w;exact zAI w
   |some l=>
    rw[hl]at w;obtain⟨a,rfl,g,ma⟩:=r1.zz hl;have hn:H a=none:=by
     rcases ma with z|z
     .exact z
     .cases z
    refine⟨a,qL l,rfl,g,λ o es ep hd=>w _ _ (λ b q hb=>?_) (.itm ⟨o,es,ep,hd,.inl rfl,aV⟩)⟩;rw[aQ λ z=>by rw[z,hn]at hb;cases hb];exact s1 b q hb
  |_=>exact zAI w
def aC6:D->D->Rs D
 | .itm _ l,.int i=>match l.lookup i with
  |some j=>.ok (.int j)
  |none=>.st
 |_,_=>.st
theorem aMC:∀{l:gX} {i j:Int},l.lookup i=some j->n8 (qL l) (.inl i)=some (.int j)
 |[],_,_,h=>by cases h
 |(a,b)::l,i,j,h=>by
  rw[zA6]at h;by_cases c:a=i
  .subst c
   simp at h;subst h;exact mG rfl
  .have c1:(i==a)=false:=by simpa using λ z=>c z.symm
   rw[c1]at h;show n8 ((zCC a,V.int b)::qL l) (.inl i)=_;rw[mH (by simpa using c)];exact aMC h
def aK2(ha:SE C m1 a fa)(hb:SE C m2 b fb)(hp:qx b:=by exact λ _ _=>rfl):SE C (some []) (.Subscript a b pos) (op2 aC6 fa fb):=by
 obtain⟨t,h1,h2⟩:=ha;obtain⟨u,k1,k2⟩:=hb;refine⟨tOp aMZ t u,λ i=>aDT (by have:=(C.room i).un;lia) (h1 i) (k1 i) hp,λ U Z H ρ lab Q R W=>?_⟩;refine h2 U Z H ρ lab _ R (W.bd.imp λ d _ w x H1 s1 r1=>?_);refine k2 U Z H1 ρ lab _ (R.up s1) (w.bd.imp λ e _ w y H2 s2 r2=>?_);obtain⟨z,ez,wz⟩:=w.okD;cases d with
 |itm oo l=>
  cases e with
  |int i=>
   unfold aC6 at ez;dsimp only at ez;cases hl:l.lookup i with
   |none=>rw[hl]at ez;cases ez
   |some j=>
    rw[hl]at ez;cases ez;have ey:=r2.int_inv;subst ey;obtain⟨p,rfl,o,es,ep,hd,_,ha⟩:=(r1.up s2).itm_inv;have g:uQ H2 p (.int i) (n8 (qL l) (.inl i)):=.inl ⟨qL l,.inl i,.inr ⟨o,ha⟩,rfl,rfl⟩;rw[aMC hl]at g;exact⟨p,.int j,rfl,g,wz _ H2 (s1.trans s2) (.int j)⟩
  |_=>cases ez
 |_=>cases ez
end
end VL
namespace L2
open PySem PySem.Spec PyProof.Rows
end L2
namespace VL
open PySem PySem.Spec PyProof.Rows L2
def flat:D->Bool
 | .non=>true
 | .bl _=>true
 | .int _=>true
 |_=>false
def flats(ps:List (Int×D)):Bool:=ps.all λ p=>flat p.2
section
variable{K:zAA}{A A':Addr->Prop}{H H':Hp}{ps:List (Int×D)}{a b:Addr}
theorem Rp.flat{v:V}{d:D}(r:Rp K A H v d)(h:VL.flat d=true):Rp K A' H' v d:=by
 cases d with
 |non=>cases r;exact .non
 |bl b=>cases r;exact .bl b
 |int i=>cases r;exact .int i
 |_=>cases h
theorem Rps.flats:∀{ps:List (Int×D)} {vs:List V},Rps K A H vs (ps.map (·.2))->VL.flats ps=true->Rps K A' H' vs (ps.map (·.2))
 |[],_,r,_=>by cases r;exact .nil
 |p::ps,vs,r,h=>by
  rw[zAD]at r ⊢;simp only[VL.flats,zFB,zA5]at h;cases r with
  |cons h1 r1=>exact .cons (h1.flat h.1) (Rps.flats r1 h.2)
def Bw(K:zAA)(H:Hp)(a:Addr)(ps:List (Int×D)):Prop:=flats ps=true/\Rp K (λ p=>p=a) H (.ref a) (az ps)
def Bw.of(r:Rp K A H (.ref a) (az ps))(hf:flats ps=true)(s:H' a=H a):Bw K H' a ps:=by
 obtain⟨a',kvs,e,h1,m,r,hk⟩:=Rp.dctI_inv r (jo ps);cases e;exact⟨hf,qb (s.trans h1) rfl (Rps.flats r hf) hk⟩
def Bw.rp(h:Bw K H a ps)(hA:A a):Rp K A H (.ref a) (az ps):=h.2.wk λ p o e q=>by subst q;exact hA
def Bw.at(h:Bw K H a ps):∃kvs,H a=some (.dK kvs):=by
 obtain⟨a',kvs,e,h1,_⟩:=Rp.dctI_inv h.2 (jo ps);cases e;exact⟨kvs,h1⟩
end
inductive OB where
 |nx (ρ:En)|rt (d:D) (ρ:En)|st
def Rs.bb{α:Type}:Rs α->(α->OB)->OB
 | .ok a,f=>f a
 |_,_=>.st
@[simp] def aBf(a:α)(f:α->OB):(Rs.ok a).bb f=f a:=aO rfl
def Ou.ob:Ou->OB
 | .nx ρ=>.nx ρ
 |_=>.st
def OB.sq:OB->(En->OB)->OB
 | .nx ρ,f=>f ρ
 |o,_=>o
def Kq(Z:L2.St)(v1 v3:V):Prop:=Z[1]? =some (some v1)/\Z[3]? =some (some v3)
def WB(K:zAA)(G:Gx)(U:List (V×D))(v1 v3:V)(o:OB)(De:Ends):Prop:=match o with
 | .nx ρ=>∀Z H lab,RR K G U ρ Z H lab->Kq Z v1 v3->De.nx Z H
 | .rt d ρ=>∀v Z H lab,RR K G U ρ Z H lab->Kq Z v1 v3->Rp K (λ _=>True) H v d->De.rt v H
 | .st=>False
theorem WB.bb{K:zAA}{G:Gx}{r:Rs α}{g:α->OB}(h:WB K G U v1 v3 (r.bb g) De):WR G r (λ a=>WB K G U v1 v3 (g a) De):=by
 cases r with
 |ok a=>exact h
 |ex c=>exact zAI h
 |st=>exact h
def aNB(K:zAA)(G:Gx)(t:TS)(f:En->OB):Prop:=∀U Z H ρ lab (De:Ends) v1 v3,RR K G U ρ Z H lab->Kq Z v1 v3->WB K G U v1 v3 (f ρ) De->t De Z H
def SB(C:Ct)(s:Stmt)(f:En->OB):Prop:=∃t,(∀i,PS (C.X i) s t)/\aNB C.K C.G t f
def SBs(C:Ct)(s:List Stmt)(f:En->OB):Prop:=∃t,(∀i,PSs (C.X i) s t)/\aNB C.K C.G t f
def mV(f g:En->OB):En->OB:=λ ρ=>(f ρ).sq g
def xP(fe:En->Rs D):En->OB:=λ ρ=>(fe ρ).bb λ d=>.rt d ρ
def ifB(fc:En->Rs Bool)(f g:En->OB):En->OB:=λ ρ=>(fc ρ).bb λ b=>if b=true then f ρ else g ρ
def pF(i:Nat)(fk fe:En->Rs D):En->OB:=λ ρ=>(pdS i fk fe ρ).ob
def ju(fg:D->En->Rs En)(b:En->OB):List D->En->OB
 |[],ρ=>.nx ρ
 |d::ds,ρ=>match fg d ρ with
  | .ok ρ1=>match b ρ1 with
   | .nx ρ2=>ju fg b ds ρ2
   |o=>o
  |_=>.st
def aHD(fi:En->Rs (List D))(fg:D->En->Rs En)(b:En->OB):En->OB:=λ ρ=>(fi ρ).bb λ ds=>ju fg b ds ρ
section
variable{C:Ct}{pos tpos p:Pos}{s:Stmt}{ss:List Stmt}{f g:En->OB}{e ek:Expr}{m m1:Mode}{fe fk:En->Rs D}{x:Str}
def aHz:SBs C [] .nx:=⟨_,λ _=>zZ,λ U Z H ρ lab De v1 v3 R k W=>W Z H lab R k⟩
def uV(h:SB C s f):SBs C [s] f:=let⟨t,h1,h2⟩:=h;⟨t,λ i=>aDP (h1 i),h2⟩
def vK(h:SB C s f)(kk:SBs C ss g):SBs C (s::ss) (mV f g):=by
 obtain⟨t,h1,h2⟩:=h;obtain⟨u,k1,k2⟩:=kk;refine⟨_,λ i=>aAu (h1 i) (k1 i),λ U Z H ρ lab De v1 v3 R k W=>h2 U Z H ρ lab _ v1 v3 R k ?_⟩;unfold mV at W;cases h:f ρ with
 |nx ρ'=>rw[h]at W;exact λ Z' H' lab' R' f'=>k2 U Z' H' ρ' lab' De v1 v3 R' f' W
 |rt d ρ'=>rw[h]at W;exact W
 |st=>rw[h]at W;exact W
def aF4(he:SE C m e fe)(hi:∀ρ d,fe ρ= .ok d->flat d=true):SB C (.Return (some e) pos) (xP fe):=by
 obtain⟨t,h1,h2⟩:=he;refine⟨_,λ i=>aFx (h1 i),λ U Z H ρ lab De v1 v3 R k W=>h2 U Z H ρ lab _ R (WB.bb W |>.imp λ d ed w v H' s r=>?_)⟩;exact w v Z H' lab (R.up s) k (r.flat (hi ρ d ed))
def aMT{a b:List Stmt}{c:Expr}{fc:En->Rs Bool}(hc:ST C c fc)(ha:SBs C a f)(hb:SBs C b g):SB C (.If c a b pos) (ifB fc f g):=by
 obtain⟨tc,c1,c2⟩:=hc;obtain⟨t,h1,h2⟩:=ha;obtain⟨u,k1,k2⟩:=hb;refine⟨_,λ i=>aFz (c1 i) (h1 i) (k1 i),λ U Z H ρ lab De v1 v3 R k W=>c2 U Z H ρ lab _ R (WB.bb W |>.imp λ q _ w H1 s1=>?_)⟩;cases q with
 |true=>rw[if_pos rfl]at w ⊢;exact h2 U Z H1 ρ lab De v1 v3 (R.up s1) k w
 |false=>rw[if_neg zA0]at w ⊢;exact k2 U Z H1 ρ lab De v1 v3 (R.up s1) k w
def aF5(i:Nat)(hk:SE C m1 ek fk)(he:SE C m e fe)(hm:okN m=true:=by rfl)(hN:∀j,(C.X j).N[i]? =some x:=by intro _;rfl)(hv:∀j,Vis (C.X j).env.scope x:=by intro _;first|exact zBq rfl|exact zBR (zBq rfl)|exact zBR (zBR rfl))(hd:Nd x:=by decide)
  (hcd:(x==("__classdict__":Str))=false:=by decide)(hs:∀j,zC3 e (some (.Subscript (.Name x p) ek tpos)) pos.line (C.X j).env=pure false:=by intro _;rfl):
  SB C (.Assign [.Subscript (.Name x p) ek tpos] e pos) (pF i fk fe):=by
 obtain⟨tk,k1,k2⟩:=hk;obtain⟨te,e1,e2⟩:=he;refine⟨aF7 (jg i) tk te,λ j=>aDQ (by have:=(C.room j).un;lia) (eU (hN j) (hv j) hd hcd) (k1 j) (e1 j) (hs j),λ U Z H ρ lab De v1 v3 R kp W=>?_⟩;unfold pF pdS at W;cases es:ρ[i]? with
 |none=>rw[es]at W;exact zAI W
 |some s=>
  rw[es]at W;split at W
  .rename_i c hs
   cases hs;rcases R.sl i _ es with z|⟨v,ev,hv'⟩
   .cases z
   .obtain⟨hv1,htop⟩:=hv'
    cases hfe:fe ρ with
    |ex z=>rw[hfe]at W;exact zAI W
    |st=>rw[hfe]at W;exact zAI W
    |ok d=>
    rw[hfe,bL]at W;refine e2 U Z H ρ lab _ R ?_;rw[hfe];intro y H2 s2 r2;refine⟨v,ev,?_⟩;cases hfk:fk ρ with
    |ex z=>rw[hfk]at W;exact zAI W
    |st=>rw[hfk]at W;exact zAI W
    |ok k=>
    rw[hfk,bL]at W;refine k2 U Z H2 ρ lab _ (R.up s2) ?_;rw[hfk];intro kv H3 s3 r3;cases hj:jR c k with
    |none=>rw[hj]at W;exact zAI W
    |some q=>
     obtain⟨ps,j⟩:=q;rw[hj]at W;dsimp only at W;obtain⟨ks,vs,rfl,rfl,hp⟩:=vU hj;obtain⟨a0,ea0,la0⟩:=htop rfl;subst ea0;have ey:=r3.int_inv;subst ey;obtain⟨a1,kvs,ea,h,mm,r,hk⟩:=hv1.dctI_inv hp;cases ea;by_cases hz:ps.length<zAQ
     .rw[if_pos hz]at W
      have kK:kvs.length=ps.length:=by have:=congrArg zC5 hk;simpa using this
      have h3:H3 a0=some (.dK kvs):=(s2.trans s3) _ _ h;refine⟨a0,_,rfl,aEy.k (k:=.inl j) (v:=y) h3 (by rw[kK];exact hz),?_⟩;obtain⟨R',r'⟩:=R.fresh (P:=λ k=>k=1) rfl (λ k hk=>beq_iff_eq.mp (jT hm k hk)) s2 r2;have la:(bG H 1 lab a0).1=i+2:=by rw[aj h];exact la0
      have B:iW a0 H3 (upd H3 a0 (.dK (putK kvs (.inl j) y))):=λ b' o ne hb=>by rw[aQ ne];exact hb
      obtain⟨q1,q2⟩:=aCM (i:=j) (A:=λ p=>((bG H 1 lab p).1=1\/(bG H 1 lab p).1=i+2)/\p≠a0) (r.mono (s2.trans s3) λ p o e z=>⟨by rw[aj e];exact z.1,z.2⟩) hk ((r'.up s3).wk λ p o e z=>⟨.inl z,λ q=>by subst q;rw[la]at z;lia⟩);exact W Z _ _ ((R'.up s3).mut ev h3 rfl la B ⟨qb aV (.inr la) (q1.but B h3 rfl λ z=>z.2 rfl) q2,λ _=>⟨a0,rfl,la⟩⟩) kp
     .rw[if_neg hz]at W
      exact zAI W
  .exact zAI W
def aK8{tg:Expr}{ks:List Nat}{fi:En->Rs (List D)}{fg:D->En->Rs En}(hi:SI C tg e fi)(hg:SG C tg ks fg)(hb:SBs C ss f)(hk1:1∉ks:=by decide)(hk3:3∉ks:=by decide)(hs:∀i,∀x,zBl e (C.X i).env x=pure x:=by intro _ _;rfl):SB C (.For tg e ss [] pos) (aHD fi fg f):=by
 obtain⟨wi,i1,i2⟩:=hi;obtain⟨gg,g1,g2,g3,g4⟩:=hg;obtain⟨tb,b1,b2⟩:=hb;refine⟨_,λ i=>aGA (C.own i) (C.calm i) (i1 i) (g1 i) (b1 i) (hs i),λ U Z H ρ lab De v1 v3 R kp W=>i2 U Z H ρ lab _ R (WB.bb W |>.imp λ ds _ w J H1 lab1 U1 s1 _ R1 jl=>?_)⟩;refine⟨λ i n Z' H'=>∃ρ' lab',RR C.K C.G (U1++U) ρ' Z' H' lab'/\Kq Z' v1 v3/\n=ds.length-i/\i<=ds.length/\WB C.K C.G U v1 v3 (ju fg f (ds.drop i) ρ') De,⟨ds.length,ρ,lab1,R1,kp,by lia,by lia,w⟩,?_⟩;rintro i n Z' H' ⟨ρ',lab',R',kp',rfl,hi,w'⟩;have jj:=jl lab' H' λ q hq=>R'.tm q (zAb _ hq)
 by_cases hlt:i<ds.length
 .obtain⟨go,yl⟩:=(jj i).2 hlt
  refine .inr ⟨go,λ Z2 H2=>∃ρ2 lab2,RR C.K C.G (U1++U) ρ2 Z2 H2 lab2/\Kq Z2 v1 v3/\WB C.K C.G U v1 v3 (ju fg f (ds.drop (i+1)) ρ2) De,λ Z2 H2 ⟨ρ2,lab2,R2,f2,w2⟩=>⟨ds.length-(i+1),by lia,ρ2,lab2,R2,f2,rfl,hlt,w2⟩,λ x H2 hy=>?_⟩;obtain⟨s2,d,ed,rx⟩:=yl x H2 hy;replace R':=R'.up s2;have ed2:ds.drop i=d::ds.drop (i+1):=by
   rw[zCg hlt]
   have:=zAH hlt
   rw[ed]at this;cases this;rfl
  rw[ed2]at w';unfold ju at w';cases eg:fg d ρ' with
  |ex c=>rw[eg]at w';exact zAI w'
  |st=>rw[eg]at w';exact zAI w'
  |ok ρ1=>
   rw[eg]at w';have G:=g2 (U1++U) x d Z' H2 ρ' lab' (λ Z1 H1=>RR C.K C.G (U1++U) ρ1 Z1 H2 lab'/\H1=H2) ρ1 R' rx eg λ Z1 R1=>⟨R1,rfl⟩
   refine g4 _ _ _ _ _ (λ Z1 H1 z=>?_) (g3 _ _ _ _ G);obtain⟨⟨R1,e⟩,_,fr⟩:=z;subst e;refine b2 (U1++U) Z1 H1 ρ1 lab' _ v1 v3 R1 ⟨(fr 1 hk1).trans kp'.1,(fr 3 hk3).trans kp'.2⟩ ?_;dsimp only at w';cases eb:f ρ1 with
   |nx ρ2=>rw[eb]at w';exact λ Z2 H3 lab2 R2 f2=>⟨ρ2,lab2,R2,f2,w'⟩
   |rt d ρ2=>rw[eb]at w';exact λ v Z2 H3 lab2 R2 f2=>w' v Z2 H3 lab2 R2.drop f2
   |st=>rw[eb]at w';exact w'
 .have e:i=ds.length:=by lia
  subst e;rw[zEW]at w';exact .inl ⟨(jj _).1 (zAS _),w' Z' H' lab' R'.drop kp'⟩
end
abbrev FB:=D->List (Int×D)->D->List (Int×D)->Option (Bool×List (Int×D)×List (Int×D))
def spB(K:zAA)(F:FB):Sp:=λ vs H Q _=>∃(v0 v2:V) (a b:Addr) (d0 d2:D) (c t:List (Int×D)) (r:Bool) (c' t':List (Int×D)),vs=[v0,.ref a,v2,.ref b]/\a≠b/\Rp K (λ p=>p≠a/\p≠b) H v0 d0/\Rp K (λ p=>p≠a/\p≠b) H v2 d2/\Bw K H a c/\Bw K H b t/\F d0 c d2 t=some (r,c',t')/\
 ∀H',(∀p o,p≠a->p≠b->H p=some o->H' p=some o)->Bw K H' a c'->Bw K H' b t'->Q (.bl r) H'
def m7:Option Slot->Option (List (Int×D))
 |some (.ow (.dct ks vs))=>gQ ks vs
 |_=>none
def jq(h:m7 s=some ps):s=some (.ow (az ps)):=by
 unfold m7 at h;split at h
 .rename_i ks vs
  obtain⟨h1,h2⟩:=vW h;subst h1 h2;rfl
 .cases h
def startB(n:Nat)(d0:D)(c:List (Int×D))(d2:D)(t:List (Int×D)):En:=[.sh d0,.ow (az c),.sh d2,.ow (az t)]++zA2 (n-4) .no
def aE1(r:Bool)(ρ:En):Option (Bool×List (Int×D)×List (Int×D)):=match m7 ρ[1]?,m7 ρ[3]? with
 |some c,some t=>if flats c=true/\flats t=true then some (r,c,t)else none
 |_,_=>none
def aE0(h:aE1 r ρ=some (r',c,t)):r=r'/\ρ[1]? =some (.ow (az c))/\ρ[3]? =some (.ow (az t))/\flats c=true/\flats t=true:=by
 unfold aE1 at h;split at h
 .rename_i c1 t1 e1 e2
  split at h
  .rename_i hf
   cases h;exact⟨rfl,jq e1,jq e2,hf⟩
  .cases h
 .cases h
def aF8(n:Nat)(f:En->OB):FB:=λ d0 c d2 t=>match f (startB n d0 c d2 t)with
 | .rt (.bl r) ρ=>aE1 r ρ
 |_=>none
abbrev ctB(P:zAV)(w:World)(K:zAA)(mg:Str->Option Value)(base:Heap)(N:List Str)(q:Str)(sc:Scope)(f:Addr)(cdv:Value)(A:zAc)(outer:List Env)(s:zAF)(H Hb:Hp)(E:XK)(k:Nat)(hr:jN k (A.deeper (zE1 q sc s.heap.objs.size f cdv))):Ct where
 ι:=Unit
 X:=λ _=>aAI (CX1 P w) P w K mg base N q sc f cdv A outer s H E
 prog:=P
 w:=w
 K:=K
 mg:=mg
 base:=base
 k:=k
 G:=⟨Hb,E,bT mg⟩
 cx:=λ _=>⟨rfl,rfl,rfl,rfl,rfl⟩
 calm:=λ _=>rfl
 room:=λ _=>hr
 own:=λ _=>gA.own gA.of
 pass:=λ _=>gA.pass gA.of
 dOk:=true
 dcx:=λ _ _=>gA.of
def aJJ{P:zAV}{w:World}{K:zAA}{st:Stmt}{F:FB}(D:Dnr K mg q st ps fn fd)(S:aY N ps (aM st))(hb:N.Nodup->∀cdv A outer s H Hb E hr,SBs (ctB P w K mg base N q (aM st) fn cdv A outer s H Hb E k hr) (fO st) f)(hn:ps.length=4:=by rfl)(hN:4<=N.length:=by decide)(hF:aF8 N.length f=F:=by rfl):
  cA P w K mg base (CX1 P w) (k+1) fn fd ps (spB K F):=by
 subst hF;refine D.F.okX S (λ vs H Q E ⟨v0,v2,a,b,d0,d2,c,t,r,c',t',e,_⟩=>by rw[e,hn];rfl) λ cdv A outer s H vs Q E hr ⟨v0,v2,a,b,d0,d2,c,t,r,c',t',e,ne,r0,r2,ba,bb,W,q⟩=>?_
 subst e;obtain⟨u,h1,h2⟩:=hb S.nd cdv A outer s H (λ p=>if p=a\/p=b then none else H p) E hr;let lab:Lab:=λ p=>if p=a then(3,0)else if p=b then(5,0)else(0,0)
 have la:lab a=(3,0):=if_pos rfl;have lb:lab b=(5,0):=by show(if b=a then((3,0):Nat×Nat)else if b=b then(5,0)else(0,0))=_;rw[if_neg (zDV ne),if_pos rfl]
 have ln:∀{p},p≠a->p≠b->lab p=(0,0):=λ{p} h1 h2=>by show(if p=a then((3,0):Nat×Nat)else if p=b then(5,0)else(0,0))=_;rw[if_neg h1,if_neg h2]
 have R:RR K ⟨λ p=>if p=a\/p=b then none else H p,E,bT mg⟩ [] (startB N.length d0 c d2 t) (start N [v0,.ref a,v2,.ref b]) H lab:=by
  refine⟨?_,λ i s e=>?_,λ p o hp=>?_,λ p hp=>?_,λ q hq=>by cases hq⟩
  .unfold startB L2.start;simp
  .unfold startB at e
   have st:∀j:Nat,j<4->(start N [v0,.ref a,v2,.ref b])[j]? =([some v0,some (.ref a),some v2,some (.ref b)]:List (Option V))[j]?:=λ j hj=>by
    unfold L2.start;rw[zB1 (by simpa using hj)];rfl
   match i,e with
   |0,e=>cases e;exact .inr ⟨v0,(st 0 (by decide)).trans rfl,r0.wk λ p o _ z=>by rw[ln z.1 z.2];exact zAf _⟩
   |1,e=>cases e;exact .inr ⟨.ref a,(st 1 (by decide)).trans rfl,ba.rp (.inr (by rw[la])),λ _=>⟨a,rfl,by rw[la]⟩⟩
   |2,e=>cases e;exact .inr ⟨v2,(st 2 (by decide)).trans rfl,r2.wk λ p o _ z=>by rw[ln z.1 z.2];exact zAf _⟩
   |3,e=>cases e;exact .inr ⟨.ref b,(st 3 (by decide)).trans rfl,bb.rp (.inr (by rw[lb])),λ _=>⟨b,rfl,by rw[lb]⟩⟩
   |i+4,e=>
    rw[zCd (by simp),zBt]at e;split at e
    .cases e;exact .inl rfl
    .cases e
  .dsimp only at hp
   split at hp
   .cases hp
   .exact hp
  .dsimp only
   by_cases z1:p=a
   .rw[if_pos (.inl z1)]
   .by_cases z2:p=b
    .rw[if_pos (.inr z2)]
    .rw[ln z1 z2]at hp;exact absurd rfl hp
 refine⟨u,h1 (),h2 [] _ H _ lab _ (.ref a) (.ref b) R ⟨rfl,rfl⟩ ?_⟩;unfold aF8 at W;cases e:f (startB N.length d0 c d2 t)with
 |nx ρ=>rw[e]at W;cases W
 |st=>rw[e]at W;cases W
 |rt d ρ=>
  rw[e]at W;cases d with
  |bl r1=>
   dsimp only at W;obtain⟨rfl,e1,e3,f1,f3⟩:=aE0 W;intro v Z H' lab' R' kp rv;have ev:=rv.bl_inv;subst ev;refine q H' (λ p o h1 h2 hp=>R'.old p o (by dsimp only;rw[if_neg (by simp[h1,h2])];exact hp)) ?_ ?_
   .rcases R'.sl 1 _ e1 with z|⟨v,ev,hv⟩
    .cases z
    .rw[kp.1]at ev
     cases ev;exact Bw.of hv.1 f1 rfl
   .rcases R'.sl 3 _ e3 with z|⟨v,ev,hv⟩
    .cases z
    .rw[kp.2]at ev
     cases ev;exact Bw.of hv.1 f3 rfl
  |_=>cases W
def nJ(F:FB)(fx:En->Rs D):En->Option (Bool×En):=λ ρ=>match (ρ[0]? :Option Slot),m7 ρ[1]?,fx ρ,m7 ρ[3]? with
 |some (.sh d0),some c,.ok d2,some t=>if flats c=true/\flats t=true/\flat d2=true then(F d0 c d2 t).map λ q=>(q.1,(ρ.set 1 (.ow (az q.2.1))).set 3 (.ow (az q.2.2)))else none
 |_,_,_,_=>none
def aEE{K:zAA}{G:Gx}{F:FB}{fx:En->Rs D}{tx:TE}(h:iR K G m tx fx):∀U Z H ρ lab (Q:VK),RR K G U ρ Z H lab->(∃r ρ',nJ F fx ρ=some (r,ρ')/\∀H' lab',RR K G U ρ' Z H' lab'->Q (.bl r) H')->aA6 (spB K F) [] G.E (dR (jg 0) (dR (jg 1) (dR tx (dR (jg 3) uF)))) Z H Q:=by
 intro U Z H ρ lab Q R ⟨r,ρ',e,w⟩;unfold nJ at e;split at e
 .rename_i d0 c d2 t e0 e1 e2 e3
  split at e
  .rename_i hf
   cases hF:F d0 c d2 t with
   |none=>rw[hF]at e;cases e
   |some q=>
    obtain⟨r',c',t'⟩:=q;rw[hF]at e;cases e;have es1:=jq e1;have es3:=jq e3;rcases R.sl 0 _ e0 with z|⟨v0,ev0,h0⟩
    .cases z
    rcases R.sl 1 _ es1 with z|⟨v1,ev1,h1,t1⟩
    .cases z
    rcases R.sl 3 _ es3 with z|⟨v3,ev3,h3,t3⟩
    .cases z
    obtain⟨a,rfl,la⟩:=t1 rfl;obtain⟨b,rfl,lb⟩:=t3 rfl;have ne:a≠b:=λ z=>by subst z;lia
    have h0':Rp K (λ p=>(lab p).1<=1) H v0 d0:=h0;refine⟨v0,ev0,.ref a,ev1,h U Z H ρ lab _ R ?_⟩;rw[e2];intro y H1 s1 r1;refine⟨.ref b,ev3,?_⟩;have B1:Bw K H1 a c:=Bw.of (h1.up s1) hf.1 rfl;have B3:Bw K H1 b t:=Bw.of (h3.up s1) hf.2.1 rfl;refine⟨v0,y,a,b,d0,d2,c,t,r',c',t',rfl,ne,(h0'.up s1).wk λ p o _ z=>⟨λ q=>by subst q;lia,λ q=>by subst q;lia⟩,r1.flat hf.2.2,B1,B3,hF,λ H' ch C1 C3=>?_⟩;obtain⟨k1,a1⟩:=B1.at;obtain⟨k3,a3⟩:=B3.at;have R1:=R.up s1;let H2:Hp:=λ p=>if p=b then H1 b else H' p
    have eb:H2 b=H1 b:=if_pos rfl;have en:∀{p},p≠b->H2 p=H' p:=λ{p} z=>if_neg z
    have C1':Bw K H2 a c':=Bw.of C1.2 C1.1 (en ne);have R2:=R1.mut (H':=H2) (s':=.ow (az c')) ev1 a1 rfl la (λ p o z hp=>by
     by_cases zb:p=b
     .rw[zb,eb,<-zb];exact hp
     .rw[en zb];exact ch p o z zb hp) ⟨C1'.rp (.inr la),λ _=>⟨a,rfl,la⟩⟩
    have R3:=R2.mut (H':=H') (s':=.ow (az t')) ev3 (eb.trans a3) rfl lb (λ p o z hp=>by rw[en z]at hp;exact hp) ⟨C3.rp (.inr lb),λ _=>⟨b,rfl,lb⟩⟩;exact w H' lab R3
  .cases e
 .cases e
def ifC(fc:En->Rs Bool)(cb:En->Option (Bool×En))(f:En->OB):En->OB:=λ ρ=>(fc ρ).bb λ q=>if q=true then f ρ else match cb ρ with
 |some (true,ρ')=>f ρ'
 |some (false,ρ')=>.nx ρ'
 |none=>.st
section
variable{C:Ct}{pos p p0 p1 p3:Pos}{ss:List Stmt}{f:En->OB}{e:Expr}{m:Mode}{fx:En->Rs D}{x x0 x1 x3:Str}{F:FB}{fc:En->Rs Bool}{c:Expr}{k:Nat}{fn:Addr}{fd:zAg}{ps:List Str}
def aK7{st:Stmt}{bp cp:Pos}(hF:cA C.prog C.w C.K C.mg C.base (CX1 C.prog C.w) k fn fd ps (spB C.K F))(D:Dnr C.K C.mg x st ps fn fd)(hc:ST C c fc)(hx:SE C m e fx)(hb:SBs C ss f)(hr:k<=C.k:=by exact zC7 rfl)
  (hN0:∀j,(C.X j).N[0]? =some x0:=by intro _;rfl)(hN1:∀j,(C.X j).N[1]? =some x1:=by intro _;rfl)(hN3:∀j,(C.X j).N[3]? =some x3:=by intro _;rfl)
  (hv0:∀j,Vis (C.X j).env.scope x0:=by intro _;first|exact zBq rfl|exact zBR (zBq rfl)|exact zBR (zBR rfl))(hv1:∀j,Vis (C.X j).env.scope x1:=by intro _;first|exact zBq rfl|exact zBR (zBq rfl)|exact zBR (zBR rfl))(hv3:∀j,Vis (C.X j).env.scope x3:=by intro _;first|exact zBq rfl|exact zBR (zBq rfl)|exact zBR (zBR rfl))
  (hd0:Nd x0:=by decide)(hd1:Nd x1:=by decide)(hd3:Nd x3:=by decide)(hc0:(x0==("__classdict__":Str))=false:=by decide)(hc1:(x1==("__classdict__":Str))=false:=by decide)(hc3:(x3==("__classdict__":Str))=false:=by decide)
  (hg:∀i,Gl (C.X i) x:=by intro _;rfl)(hdb:Nd x:=by decide)
  (he0:∀i,zAU [.Name x0 p0,.Name x1 p1,e,.Name x3 p3] (C.X i).env=(false,eval (.Name x0 p0) (C.X i).env)::zAU [.Name x1 p1,e,.Name x3 p3] (C.X i).env:=by intro _;rfl)
  (he1:∀i,zAU [.Name x1 p1,e,.Name x3 p3] (C.X i).env=(false,eval (.Name x1 p1) (C.X i).env)::zAU [e,.Name x3 p3] (C.X i).env:=by intro _;rfl)
  (he2:∀i,zAU [e,.Name x3 p3] (C.X i).env=(false,eval e (C.X i).env)::zAU [.Name x3 p3] (C.X i).env:=by intro _;rfl)
  (he3:∀i,zAU [.Name x3 p3] (C.X i).env=(false,eval (.Name x3 p3) (C.X i).env)::zAU [] (C.X i).env:=by intro _;rfl)
  (hpl:∀i,(zCW cp (zAU [.Name x1 p1,e,.Name x3 p3] (C.X i).env)).any (·.1)=false:=by intro _;rfl)
  (ht:∀i whole,isTrue (.Call (.Name x p) [.Name x0 p0,.Name x1 p1,e,.Name x3 p3] [] cp) (C.X i).env whole=(do let v <-whole;zFV (Expr.Call (.Name x p) [.Name x0 p0,.Name x1 p1,e,.Name x3 p3] [] cp).pos;zC8 [v] (truthy v)):=by intro _ _;rfl):
  SB C (.If (.BoolOp .Or [c,.Call (.Name x p) [.Name x0 p0,.Name x1 p1,e,.Name x3 p3] [] cp] bp) ss [] pos) (ifC fc (nJ F fx) f):=by
 obtain⟨tc,c1,c2⟩:=hc;obtain⟨tx,x1',x2⟩:=hx;obtain⟨t,h1,h2⟩:=hb;refine⟨aMH (tOr tc (tB (aA6 (spB C.K F) [] C.G.E (dR (jg 0) (dR (jg 1) (dR tx (dR (jg 3) uF))))))) t aJd,λ i=>?_,λ U Z H ρ lab De v1 v3 R kp W=>?_⟩
 .obtain⟨e1,e2,e3,e4,e5⟩:=C.cx i
  refine aFz (aJq (c1 i) (aFq (aKi ?_ (ht i)))).pt (h1 i) zZ;exact z8 (CX:=CX1 (C.X i).prog (C.X i).w) (by rw[e1,e2,e3,e4,e5];exact hF) ((C.room i).mono hr) (hg i) (by rw[e4];exact D.m) (by rw[e3];exact D.F.kp) (by rw[e3];exact D.b) .nil (C.pass i) (bz (eU (hN0 i) (hv0 i) hd0 hc0) (bz (eU (hN1 i) (hv1 i) hd1 hc1) (bz (x1' i) (bz (eU (hN3 i) (hv3 i) hd3 hc3) jF (he3 i)) (he2 i)) (he1 i)) (he0 i)) hdb (he0 i) (hpl i)
 .refine c2 U Z H ρ lab _ R (WB.bb W |>.imp λ z _ w H1 s1=>?_)
  cases z with
  |true=>
   rw[if_pos rfl]at w ⊢;show t De Z H1;exact h2 U Z H1 ρ lab De v1 v3 (R.up s1) kp w
  |false=>
   rw[if_neg zA0]at w ⊢;cases hcb:nJ F fx ρ with
   |none=>rw[hcb]at w;exact zAI w
   |some rr=>
    obtain⟨r,ρ'⟩:=rr;rw[hcb]at w;refine aEE x2 U Z H1 ρ lab _ (R.up s1) ⟨r,ρ',hcb,λ H' lab' R'=>⟨r,rfl,?_⟩⟩;cases r with
    |true=>rw[if_pos rfl];exact h2 U Z H' ρ' lab' De v1 v3 R' kp w
    |false=>rw[if_neg zA0];exact w Z H' lab' R' kp
end
def Raw(h:Heap)(d:Addr)(o:Obj)(es:Array zDe)(ep:Nat):Prop:=h.get? d=some o/\o.ExactDict/\o.data= .dict es ep
section
variable{prog:zAV}{w:World}{A:zAc}{E:Value->zAF->Prop}{s:zAF}{d v it:Addr}{o:Obj}{es:Array zDe}{ep i:Nat}{ok ov:Value}
def Raw.ty(r:Raw s.heap d o es ep):s.TypeIs (.ref d) "dict":=⟨o,r.1,r.2.1.1⟩
def aEQ(hd:(d==zBE)=false):MeetsIn prog w (zCy.«dict.items» ⟨[.ref d],[]⟩) (λ _ R s=>(∃o es ep,Raw s.heap d o es ep)/\R (.ok (.ret (.ref s.heap.objs.size))) {s with heap:=s.heap.push {cls:=.type "dict_items",data:=.fields #[.ref d]}}):=by
 refine .of_wp λ A R s ⟨⟨o,es,ep,r⟩,q⟩=>?_
 unfold zCy.«dict.items» zFn;refine zAB (zAB (zEy r.ty ?_));refine zAG (?_:wpAny _ _ (zCT d>>=_) _ _ s);unfold zCT;rw[hd,if_neg zA0];exact zAB (zAG (zAB (zBC (zAG ⟨_,rfl,q⟩))))
def vN(hd:(d==zBE)=false):MeetsIn prog w (zCy.«dict.values» ⟨[.ref d],[]⟩) (λ _ R s=>(∃o es ep,Raw s.heap d o es ep)/\R (.ok (.ret (.ref s.heap.objs.size))) {s with heap:=s.heap.push {cls:=.type "dict_values",data:=.fields #[.ref d]}}):=by
 refine .of_wp λ A R s ⟨⟨o,es,ep,r⟩,q⟩=>?_
 refine zAB ?_;unfold zFn;refine zAB (zEy r.ty ?_);refine zAG (?_:wpAny _ _ (zCT d>>=_) _ _ s);unfold zCT;rw[hd,if_neg zA0];exact zAB (zAG (zAB (zBC (zAG ⟨_,rfl,q⟩))))
def aEP{Q:Value->zAF->Prop}(x:s.heap.IsItemsView v d)(r:Raw s.heap d o es ep)
  (q:Q (.ref s.heap.objs.size) {s with heap:=s.heap.push {cls:=.type "dict_itemiterator",data:=.fields #[.none,.bool false,.ref d,.int 0 0,.int es.size 0,.int ep 0,.none,.none]}}):wpAny (model prog w) A (zGO (.ref v)) Q E s:=by
 obtain⟨vo,x1,x2,x3⟩:=id x;refine zE5 x.typeIs zHG (zBV zHG x.typeIs F.entry_dict_items_iter ?_ (F.args_dict_items_iter_1 _));unfold zCy.«dict_items.__iter__» zE7 zEK;refine zAB (zAG (zAB (zAB (zFW x1 x3 (x:=.ref d) rfl (zAG (zAB (zAB (zBm r.1 r.2.2 (zAB (zDN r.1 r.2.2 ?_))))))))));have w1:zBU "dict_itemiterator"=true:=by decide
 simp only[w1,if_true];refine zBC (zAG ⟨_,rfl,"dict_itemiterator",_,⟨_,zAJ _ rfl,rfl⟩,zBs.lookup,?_⟩) (by simp only[sizeOk,zDp,zAX,zA9,zAk,zCA,zBe];lia);simpa[zFi,zDp]using q
def yF{Q:Value->zAF->Prop}(x:s.heap.IsValuesView v d)(r:Raw s.heap d o es ep)
  (q:Q (.ref s.heap.objs.size) {s with heap:=s.heap.push {cls:=.type "dict_valueiterator",data:=.fields #[.ref d,.int 0 0,.int es.size 0,.int ep 0]}}):wpAny (model prog w) A (zGO (.ref v)) Q E s:=by
 obtain⟨vo,x1,x2,x3⟩:=id x;refine zE5 x.typeIs zGp (zBV zGp x.typeIs F.entry_dict_values_iter ?_ (F.args_dict_values_iter_1 _));unfold zCy.«dict_values.__iter__» zE7 zEK;refine zAB (zAG (zAB (zAB (zFW x1 x3 (x:=.ref d) rfl (zAG (zAB (zAB (zBm r.1 r.2.2 (zAB (zDN r.1 r.2.2 ?_))))))))));have w1:zBU "dict_valueiterator"=false:=by decide
 simp only[w1,zAZ,if_false];refine zBC (zAG ⟨_,rfl,"dict_valueiterator",_,⟨_,zAJ _ rfl,rfl⟩,zBo.lookup,?_⟩);simpa[zFi]using q
def aDJ{Q:Option Value->zAF->Prop}(t:s.heap.IsValIter it d i es.size ep)(r:Raw s.heap d o es ep)(hi:i<es.size)
  (q:∀h',h'.IsValIter it d (i+1) es.size ep->zBW it s.heap h'->Q (some es[i].val) {s with heap:=h'}):wpAny (model prog w) A (zDg (.ref it)) Q E s:=by
 obtain⟨u,t1,t2,t3⟩:=id t;have ty:=t.typeIs;unfold zDg;refine zAB (zDx (zCD (name:=zEA "__next__") ty zBo (zBV zBo ty zFb ?_ (zFY _))));refine zAB (zAG (zAB (zAB ?_)))
 first|refine zAB (zC4 ty (zAG (zAB (zCF t1 t3 ?_))))|refine zAB (zDC ty (zAG (zAB (zCF t1 t3 ?_))))
 have w1:zBU "dict_valueiterator"=false:=by decide
 simp only[w1,zAZ,if_false];show wpAny _ _ (if (zAo d==zBB)=true then _ else _) _ _ s;rw[if_neg (show¬(zAo d==zBB)=true from zA0)];refine zAB (zAG (zAB (zBm r.1 r.2.2 ?_)));rw[if_neg (by simp)];refine zAB (zAG (zAB (zDN r.1 r.2.2 ?_)));rw[if_neg (by simp)];refine zAG ?_;simp only[show¬((i:Int)<0)by lia,if_false,zCP,zAe hi];refine zAB ?_
 first|refine zAB (zC4 ty (zAG (zAB (zDh ty ?_))))|refine zAB (zDC ty (zAG (zAB (zDh ty ?_))))
 show wpAny _ _ (zG4 (.ref it) 1 (zFi ((i:Int)+1))>>=_) _ _ s;refine zAB (zDc t1 t3 (by simp) ?_);have t':(s.heap.update it (zFG (·.setIfInBounds 1 (zFi ((i:Int)+1))))).IsValIter it d (i+1) es.size ep:=
  ⟨_,zDQ _ t1 (zGu (zFF t3 _)),(Obj.cls_mapFields ..).trans t2,by rw[zFF t3];simp[zFi]⟩
 generalize hh:s.heap.update it (zFG (·.setIfInBounds 1 (zFi ((i:Int)+1))))=h' at t';have sb:zBW it s.heap h':=hh▸zBP ..;have ty':zD2 {s with heap:=h'} (.ref it) "dict_valueiterator":=t'.typeIs;refine zAB (zBT (zAB (zDh ty' (zAB (zDh ty' ?_)))));exact zAG (zAG ⟨_,rfl,zAG (q h' t' sb)⟩)
def aAq{Q:Option Value->zAF->Prop}(hh:A.handled=none)(t:s.heap.IsValIter it d i es.size ep)(r:Raw s.heap d o es ep)(hi:es.size<=i)
  (q:∀h',zHH it s.heap h'->Q none {s with heap:=h'}):wpAny (model prog w) A (zDg (.ref it)) Q E s:=by
 obtain⟨u,t1,t2,t3⟩:=id t;have ty:=t.typeIs;unfold zDg;refine zAB (zDx (zCD (name:=zEA "__next__") ty zBo (zBV zBo ty zFb ?_ (zFY _))));refine zAB (zAG (zAB (zAB ?_)))
 first|refine zAB (zC4 ty (zAG (zAB (zCF t1 t3 ?_))))|refine zAB (zDC ty (zAG (zAB (zCF t1 t3 ?_))))
 have w1:zBU "dict_valueiterator"=false:=by decide
 simp only[w1,zAZ,if_false];show wpAny _ _ (if (zAo d==zBB)=true then _ else _) _ _ s;rw[if_neg (show¬(zAo d==zBB)=true from zA0)];refine zAB (zAG (zAB (zBm r.1 r.2.2 ?_)));rw[if_neg (by simp)];refine zAB (zAG (zAB (zDN r.1 r.2.2 ?_)));rw[if_neg (by simp)];refine zAG ?_;simp only[show¬((i:Int)<0)by lia,if_false,zCP,zCZ hi];refine zAB ?_
 first|refine zAB (zC4 ty (zAG (?_:wpAny _ _ (zG4 (.ref it) 0 .none>>=_) _ _ s)))|refine zAB (zDC ty (zAG (?_:wpAny _ _ (zG4 (.ref it) 0 .none>>=_) _ _ s)))
 refine zAB (zDc t1 t3 (by simp) ?_);show wpAny _ _ (zIc (.type "StopIteration") []>>=_) _ _ _;refine zAB ?_;simp only[zIc,newTuple];refine zAB (zBC (zAB (m:=zDb _ _) (zFX (a:=zBB) (by first|rfl|(simp only[zDb];rfl)) (zBC ?_ (by size_fits)))) (by size_fits));simp only[raiseNew];refine zAB (zH8 ?_);rw[show A.in1.handled=none from hh];refine zAB (zAG (zI4 ?_));refine zAB (zDo (T:="StopIteration") (b:=true) ⟨_,zAJ _ rfl,rfl⟩ zHB (zAG (q _ ?_)));exact((zBP ..).extBut.push _).push _
def aID{Q:Option Value->zAF->Prop}(t:zD6 s.heap it d i es.size ep ok ov)(r:Raw s.heap d o es ep)(hi:i<es.size)
  (q:∀h',zHU h' it d (i+1) es.size ep es[i].key es[i].val s.heap.objs.size->h'.get? s.heap.objs.size=some {cls:=.type "tuple",data:=.seq #[es[i].key,es[i].val]}->h'.objs.size=s.heap.objs.size+1->(∀b u,b≠it->s.heap.get? b=some u->h'.get? b=some u)->Q (some (.ref s.heap.objs.size)) {s with heap:=h'}):
  wpAny (model prog w) A (zDg (.ref it)) Q E s:=by
 obtain⟨hp,g,dr,tk,os⟩:=s;have ty:zD2 ⟨hp,g,dr,tk,os⟩ (.ref it) "dict_itemiterator":=⟨_,t,rfl⟩;unfold zDg;refine zAB (zDx (zCD (name:=zEA "__next__") ty zBs (zBV zBs ty zFp ?_ (zFa _))));refine zAB (zAG (zAB (zAB ?_)))
 first|refine zAB (zC2 ty (zAG (zAB (zCF t rfl ?_))))|refine zAB (zCs ty (zAG (zAB (zCF t rfl ?_))))
 have w1:zBU "dict_itemiterator"=true:=by decide
 simp only[w1,if_true];show wpAny _ _ (if (zAo d==zBB)=true then _ else _) _ _ _;rw[if_neg (show¬(zAo d==zBB)=true from zA0)];refine zAB (zAG (zAB (zBm r.1 r.2.2 ?_)));rw[if_neg (by simp)];refine zAB (zAG (zAB (zDN r.1 r.2.2 ?_)));rw[if_neg (by simp)];refine zAG ?_;simp only[show¬((i:Int)<0)by lia,if_false,zCP,zAe hi];refine zAB ?_
 first|refine zAB (zC2 ty (zAG (zAB (zD5 ty ?_))))|refine zAB (zCs ty (zAG (zAB (zD5 ty ?_))))
 show wpAny _ _ (zG4 (.ref it) 3 (zFi ((i:Int)+1))>>=_) _ _ ⟨hp,g,dr,tk,os⟩;refine zAB (zDO t (by simp) λ h1 t1 (s1:zBW it hp h1)=>?_);replace t1:zD6 h1 it d (i+1) es.size ep ok ov:=by
  unfold zD6;rw[show((i+1:Nat):Int)=(i:Int)+1 by lia];simpa[zFi]using t1
 have ty1:zD2 ⟨h1,g,dr,tk,os⟩ (.ref it) "dict_itemiterator":=⟨_,t1,rfl⟩;refine zAB (zBT (zAB (zD5 ty1 (zAB (zD5 ty1 ?_)))));show wpAny _ _ (zEB (.ref it) 6 es[i].key es[i].val) _ _ ⟨h1,g,dr,tk,os⟩;unfold zEB;refine zAB (wpAny_newTuple ?_);have t2:zD6 (h1.push {cls:=.type "tuple",data:=.seq #[es[i].key,es[i].val]}) it d (i+1) es.size ep ok ov:=zAC _ t1;have hl:it<hp.objs.size:=zAR t;obtain⟨h2,e2⟩:∃h2,h2=h1.push {cls:=.type "tuple",data:=.seq #[es[i].key,es[i].val]}:=⟨_,rfl⟩
 rw[<-e2]at t2 ⊢;have g2:h2.get? hp.objs.size=some {cls:=.type "tuple",data:=.seq #[es[i].key,es[i].val]}:=by rw[e2,<-s1.1];exact zAJ _ rfl
 have z2:h2.objs.size=hp.objs.size+1:=by rw[e2,zBD,s1.1]
 have k2:∀b u,b≠it->hp.get? b=some u->h2.get? b=some u:=λ b u hb e=>by rw[e2];exact zAC _ (s1.extBut b u hb e)
 rw[s1.1];show wpAny _ _ (zDq (.ref it)>>=_) _ _ ⟨h2,g,dr,tk,os⟩;clear e2 t1 s1 ty1 h1;unfold zDq;refine zAB (zAB (zFW t2 rfl (x:=.none) rfl (zAG ?_)));simp only[if_true];refine zAB (zFW t2 rfl (x:=ok) rfl (zAB (zFW t2 rfl (x:=ov) rfl (zAB (zDO t2 (by simp) λ h3 t3 (s3:zBW it h2 h3)=>?_)))));replace t3:zD6 h3 it d (i+1) es.size ep es[i].key ov:=t3;refine zAB (zDO t3 (by simp) λ h4 t4 (s4:zBW it h3 h4)=>?_);replace t4:zD6 h4 it d (i+1) es.size ep es[i].key es[i].val:=t4;refine zAB (zDO t4 (by simp) λ h5 t5 (s5:zBW it h4 h5)=>?_);replace t5:zHU h5 it d (i+1) es.size ep es[i].key es[i].val hp.objs.size:=t5;refine zAB (zDO t5 (by simp) λ h6 t6 (s6:zBW it h5 h6)=>?_);replace t6:zHU h6 it d (i+1) es.size ep es[i].key es[i].val hp.objs.size:=t6;have sb:zBW it h2 h6:=((s3.trans s4).trans s5).trans s6;refine zAB (wpAny_letGo (zAG (zAG ⟨_,rfl,zAG (q h6 t6 (sb.extBut _ _ (zB4 hl) g2) (sb.1.trans z2) λ b u hb e=>sb.extBut b u hb (k2 b u hb e))⟩)))
def aFj{Q:Option Value->zAF->Prop}(hh:A.handled=none)(t:zD6 s.heap it d i es.size ep ok ov)(r:Raw s.heap d o es ep)(hi:es.size<=i)
  (q:∀h',zHH it s.heap h'->Q none {s with heap:=h'}):wpAny (model prog w) A (zDg (.ref it)) Q E s:=by
 have ty:s.TypeIs (.ref it) "dict_itemiterator":=⟨_,t,rfl⟩;unfold zDg;refine zAB (zDx (zCD (name:=zEA "__next__") ty zBs (zBV zBs ty zFp ?_ (zFa _))));refine zAB (zAG (zAB (zAB ?_)))
 first|refine zAB (zC2 ty (zAG (zAB (zCF t rfl ?_))))|refine zAB (zCs ty (zAG (zAB (zCF t rfl ?_))))
 have w1:zBU "dict_itemiterator"=true:=by decide
 simp only[w1,if_true];show wpAny _ _ (if (zAo d==zBB)=true then _ else _) _ _ s;rw[if_neg (show¬(zAo d==zBB)=true from zA0)];refine zAB (zAG (zAB (zBm r.1 r.2.2 ?_)));rw[if_neg (by simp)];refine zAB (zAG (zAB (zDN r.1 r.2.2 ?_)));rw[if_neg (by simp)];refine zAG ?_;simp only[show¬((i:Int)<0)by lia,if_false,zCP,zCZ hi];refine zAB ?_
 first|refine zAB (zC2 ty (zAG (?_:wpAny _ _ (zG4 (.ref it) 2 .none>>=_) _ _ s)))|refine zAB (zCs ty (zAG (?_:wpAny _ _ (zG4 (.ref it) 2 .none>>=_) _ _ s)))
 refine zAB (zDc t rfl (by simp) ?_);show wpAny _ _ (zIc (.type "StopIteration") []>>=_) _ _ _;refine zAB ?_;simp only[zIc,newTuple];refine zAB (zBC (zAB (m:=zDb _ _) (zFX (a:=zBB) (by first|rfl|(simp only[zDb];rfl)) (zBC ?_ (by size_fits)))) (by size_fits));simp only[raiseNew];refine zAB (zH8 ?_);rw[show A.in1.handled=none from hh];refine zAB (zAG (zI4 ?_));refine zAB (zDo (T:="StopIteration") (b:=true) ⟨_,zAJ _ rfl,rfl⟩ zHB (zAG (q _ ?_)));exact((zBP ..).extBut.push _).push _
def aIE(h:Heap):Raw (h.push {cls:=.type "dict",data:=.dict #[]}) h.objs.size {cls:=.type "dict",data:=.dict #[]} #[] 0:=⟨zAJ _ rfl,⟨rfl,rfl,rfl⟩,rfl⟩
def aFi{id:String}{Q:Array zDe->zAF->Prop}(r:Raw s.heap d o es ep)(hk:∀e∈es.toList,∃a,e.key= .ref a/\s.TypeIs (.ref a) "tuple")(hn:∀e∈es.toList,(es.filter (·.hash==e.hash)).size<=1)(q:Q es s):wpAny (model prog w) A (zEi id d) Q E s:=by
 unfold zEi;refine zAB (zBm r.1 r.2.2 (zAB ?_));rw[<-zEq];refine zCx _ (λ rest _ s'=>s'=s/\∀e∈rest,e∈es.toList) _ ?_ ?_ _ _ ⟨rfl,λ e he=>he⟩
 .rintro e rest b s' ⟨rfl,hs⟩
  obtain⟨a,e1,e2⟩:=hk e (hs e zAK);rw[e1];unfold Builtin.Dict.quietEq;refine zAB (zAB (zEI e2 F.slot_tuple_eq.lookup (zAG ?_)));rw[if_pos (by decide),if_neg (by have:=hn e (hs e zAK);lia)];exact zAG ⟨rfl,λ e he=>hs e (zAL _ he)⟩
 .rintro b s' ⟨rfl,_⟩
  exact zAG q
def aEO{nm:String}{c:Addr}{oc:Obj}{ec:Nat}{Q:Unit->zAF->Prop}(ne:c≠d)(hS:(d==zBE)=false)(r:Raw s.heap d o es ep)(rc:Raw s.heap c oc #[] ec)(hz:es.size<=zAQ)(h0:0<es.size)
  (hk:∀e∈es.toList,∃a,e.key= .ref a/\s.TypeIs (.ref a) "tuple")(hn:∀e∈es.toList,(es.filter (·.hash==e.hash)).size<=1)(q:∀h' o' ep',Raw h' c o' es ep'->zBW c s.heap h'->Q () {s with heap:=h'}):wpAny (model prog w) A (zFO nm c d) Q E s:=by
 unfold zFO zCT;rw[if_neg (by simpa using ne),hS,if_neg zA0];refine zAB (zAG (zAB (zBm r.1 r.2.2 ?_)));have nf:(decide (es.size<=8)&&es.all λ e=>(keyPart e.key).isSome)=false:=by
  rw[Bool.and_eq_false_iff];right;rw[<-Array.all_toList];cases hl:es.toList with
  |nil=>have:=congrArg zC5 hl;simp at this;rw[this]at h0;exact absurd h0 (by simp)
  |cons e l=>
   obtain⟨a,e1,_⟩:=hk e (by rw[hl];exact zAK);rw[zFB,e1];rfl
 dsimp only;rw[nf,if_pos zDF];refine zAB (zBm rc.1 rc.2.2 ?_);rw[if_pos (by rfl)];refine zAB (aFi r hk hn ?_);rw[if_pos (by rw[Array.isEmpty,decide_eq_false (zB4 h0)];rfl)];refine zAB (wpAny_updateDictKeysTo rc.1 rc.2.2 (zAG (q _ _ (ec+1) ⟨zDQ _ rc.1 (Obj.isFreed_of_dict (zHL rc.2.2 _)),rc.2.1.mapDictKeys _,zHL rc.2.2 _⟩ (zBP ..))) (by lia))
def aFk{Q:Value->zAF->Prop}(hS:(d==zBE)=false)(r:Raw s.heap d o es ep)(hz:es.size<=zAQ)(h0:0<es.size)(hk:∀e∈es.toList,∃a,e.key= .ref a/\s.TypeIs (.ref a) "tuple")(hn:∀e∈es.toList,(es.filter (·.hash==e.hash)).size<=1)
  (q:∀h' o' ep',Raw h' s.heap.objs.size o' es ep'->zBW s.heap.objs.size (s.heap.push {cls:=.type "dict",data:=.dict #[]}) h'->Q (.ref s.heap.objs.size) {s with heap:=h'}):wpAny (model prog w) A (call (.type "dict") [.ref d]) Q E s:=by
 have hp:∀b u,s.heap.get? b=some u->(s.heap.push {cls:=.type "dict",data:=.dict #[]}).get? b=some u:=λ b u e=>zAC _ e
 have r1:Raw (s.heap.push {cls:=.type "dict",data:=.dict #[]}) d o es ep:=⟨hp _ _ r.1,r.2⟩;have rn:=aIE s.heap;refine callType_codes (Q₁:=λ obj zI=>obj= .ref s.heap.objs.size/\zI={s with heap:=s.heap.push {cls:=.type "dict",data:=.dict #[]}}) F.kt_called_dict (F.kt_typeCall_dict_1 _) F.entry_dict_init (kt_code_dict_new _ ⟨rfl,rfl⟩) ?_;rintro _ _ ⟨rfl,rfl⟩;have tn:zD2 {s with heap:=s.heap.push {cls:=.type "dict",data:=.dict #[]}} (.ref s.heap.objs.size) "dict":=⟨_,rn.1,rfl⟩;have td:zD2 {s with heap:=s.heap.push {cls:=.type "dict",data:=.dict #[]}} (.ref d) "dict":=⟨o,r1.1,r.2.1.1⟩;have ne:s.heap.objs.size≠d:=λ e=>absurd (zAR r.1) (by rw[e];exact zBQ _)
 refine⟨tn,F.args_dict_init_2 _ _,?_⟩;unfold zCy.«dict.__init__» Builtin.Dict.selfAndRest;refine zAB (zAB (zEy tn ?_));refine zAG (?_:wpAny _ _ (zFL "dict.__init__" s.heap.objs.size (.ref d) [] .none) _ _ _);unfold zFL;refine zAB (zGP td ?_);rw[if_neg (by decide)];unfold Builtin.Dict.merge Builtin.Dict.readDirectly;refine zAB (zAB (zAB (zDo td isSubtype_dict_dict ?_)));simp only[zCS,zAZ,if_false];refine zAB (zEI td F.slot_dict_iter.lookup (zAG ?_));simp only[beq_self_eq_true,if_true];refine zAB (zAG (aEO ne hS r1 rn hz h0 (λ e he=>?_) hn λ h' o' ep' r' s'=>?_))
 .obtain⟨a,e1,u,e2,e3⟩:=hk e he
  exact⟨a,e1,u,hp _ _ e2,e3⟩
 .show wpAny _ _ (Builtin.Dict.addKeywords s.heap.objs.size []>>=_) _ _ _
  exact zAB (zAG (zAG ⟨rfl,q h' o' ep' r' s'⟩))
end
def qK(ks vs:List D):Option (List (List Int×Int)):=match ks with
 | .non::_=>(match vY ks vs with
  |some ps=>(intsOf (ps.map (·.2))).map λ js=>(ps.map (·.1)).zip js
  |none=>none)
 |_=>none
def xg(K:zAA)(H:Hp)(es:List Ent)(l:List (List Int×Int)):Prop:=(es.map λ e=>(e.1,e.2.2))=(l.map λ p=>(p.1,V.int p.2))/\(es.map (·.1)).Nodup/\∀e∈es,SqT K H e.2.1 (e.1.map V.int)
theorem aHH:∀{es:List Ent} {ks:gV} {js:List Int},es.map (·.1)=ks->es.map (·.2.2)=js.map V.int->(es.map λ e=>(e.1,e.2.2))=((ks.zip js).map λ p=>(p.1,V.int p.2))
 |[],_,[],rfl,_=>rfl
 |[],_,_::_,_,h=>by cases h
 |_::_,_,[],_,h=>by cases h
 |e::es,_,j::js,rfl,h=>by
  rw[zAD,zAD]at h;injection h with h1 h2
  rw[zAD,zAD,zAu,zAD,aHH rfl h2,<-h1]
def Rp.itx_dct{K:zAA}(r:Rp K A H v (.dct ks vs))(h:qK ks vs=some l):∃a es,v= .ref a/\H a=some (dxO a es)/\xg K H es l/\A a:=by
 unfold qK at h;split at h
 .rename_i ks2
  cases hp:vY (.non::ks2) vs with
  |none=>rw[hp]at h;cases h
  |some ps=>
   rw[hp]at h;dsimp only at h;cases hj:intsOf (ps.map (·.2))with
   |none=>rw[hj]at h;cases h
   |some js=>
    rw[hj]at h;cases h;obtain⟨a,es,rfl,g,m,q,hk⟩:=r.dctX_inv hp;rw[bW hj]at q;rcases g with g|⟨_,g⟩
    .exact⟨a,es,rfl,g.at_,⟨aHH hk q.ints_of,g.nd,g.ks⟩,m⟩
    .generalize hd:D.dct (.non::ks2) vs=d at r
     cases r with
     |dT hh m r=>rw[hh.at_]at g;cases g
     |dK hh m r=>
      rename_i kvs ds;injection hd with q1 q2
      cases kvs with
      |nil=>cases q1
      |cons p ps=>
       obtain⟨p1,p2⟩:=p;cases p1<;>cases q1
     |_=>cases hd
 .cases h
def aA0(i:Nat)(u:En->Ou):En->Ou:=λ ρ=>match ρ[i]? with
 |some (.ow (.dct ks vs))=>(match qK ks vs with
  |some l=>u (ρ.set i (.sh (.itx none l)))
  |none=>.st)
 |_=>.st
def aHK{X:Cx}{kX:hZ}{Z:L2.St}{H:Hp}{s:zAF}{a:Addr}{es:List Ent}(I:Inv X kX Z H s)(ha:H a=some (dxO a es)):∃o ts ep,s.heap.get? a=some o/\o.data= .dict ts ep:=by
 obtain⟨⟨hl,hd,xs,o,ts,ep,pr,h1,h2,h3,h4⟩,_⟩:=(show bM X.prog X.w H s.heap a (dxO a es)from I.hok a _ ha);exact⟨o,ts,ep,h1,h3⟩
def xg.frz{K:zAA}{H:Hp}{a:Addr}{es:List Ent}{o u:HO}(h:xg K H es l)(ha:H a=some o)(hm:gK o=true):xg K (upd H a u) es l:=
 ⟨h.1,h.2.1,λ e he=>lA (λ b q ne hb=>by rw[aQ ne];exact hb) ha hm (h.2.2 e he)⟩
def aFP{C:Ct}{sx:Stmt}{u:En->Ou}(i:Nat)(h:SS C sx u):SS C sx (aA0 i u):=by
 obtain⟨ts,p1,p2⟩:=h;refine⟨λ D Z H=>∃a es,H a=some (dxO a es)/\∀o tb ep,o.data= .dict tb ep->ts D Z (upd H a (.frz o (dxO a es))),λ j kX s Z H D I ⟨a,es,ha,q⟩=>?_,λ U Z H ρ lab De R W=>?_⟩
 .obtain⟨o,tb,ep,e1,e2⟩:=aHK I ha
  exact p1 j kX s Z _ D (Inv.froze I rfl ha e1) (q o tb ep e2)
 .unfold aA0 at W
  cases es:ρ[i]? with
  |none=>rw[es]at W;exact zAI W
  |some sl=>
   rw[es]at W;split at W
   .rename_i ks vs hs
    cases hs;rcases R.sl i _ es with z|⟨v,ev,hv1,htop⟩
    .cases z
    .cases hl:qK ks vs with
     |none=>rw[hl]at W;exact zAI W
     |some l=>
      rw[hl]at W;dsimp only at W;obtain⟨a0,ea0,la0⟩:=htop rfl;subst ea0;obtain⟨a1,ee,e1,g,ek,_⟩:=hv1.itx_dct hl;cases e1;refine⟨a0,ee,g,λ o dd ep hd=>?_⟩;have B:iW a0 H (upd H a0 (.frz o (dxO a0 ee))):=λ b' q ne hb=>by rw[aQ ne];exact hb
      obtain⟨k1,k2,k3⟩:=ek.frz (u:=.frz o (dxO a0 ee)) g rfl;exact p2 U Z _ _ lab De (R.mut (s':=.sh (.itx none l)) ev g rfl la0 B (Rp.itx ⟨o,dd,ep,ee,hd,.inl rfl,k1,k2,k3,aV⟩)) W
   .exact zAI W
def aLg(f:En->Rs D):En->Rs D:=λ ρ=>(f ρ).bd λ d=>match d with
 | .dct ks vs=>(match qK ks vs with
  |some l=>.ok (.itx none l)
  |none=>.st)
 |_=>.st
section
variable{C:Ct}{e a b:Expr}{f:En->Rs D}
def aHv(h:SE C (some []) e f):SE C (some []) e (aLg f):=by
 obtain⟨t,h1,h2⟩:=h;refine⟨λ Z H Q=>t Z H λ x H1=>∃a es,x= .ref a/\H1 a=some (dxO a es)/\∀o tb ep,o.data= .dict tb ep->Q x (upd H1 a (.frz o (dxO a es))),λ j kX s Z H Q I h=>?_,λ U Z H ρ lab Q R W=>?_⟩
 .refine thn (h1 j kX s Z H _ I h) λ v s1 ⟨x,H1,I1,r1,a,es,ex,ha,q⟩=>?_
  obtain⟨o,tb,ep,e1,e2⟩:=aHK I1 ha;exact⟨x,_,Inv.froze I1 rfl ha e1,r1,q o tb ep e2⟩
 .refine h2 U Z H ρ lab _ R (W.bd.imp λ d _ w x H1 s1 r1=>?_)
  cases d with
  |dct ks vs=>
   dsimp only at w;cases hl:qK ks vs with
   |none=>rw[hl]at w;exact zAI w
   |some l=>
    rw[hl]at w;obtain⟨a,es,rfl,g,ek,ma⟩:=r1.itx_dct hl;have hn:H a=none:=by
     rcases ma with z|z
     .exact z
     .cases z
    refine⟨a,es,rfl,g,λ o tb ep hd=>w _ _ (λ b q hb=>?_) ?_⟩
    .rw[aQ λ z=>by rw[z,hn]at hb;cases hb]
     exact s1 b q hb
    .obtain⟨k1,k2,k3⟩:=ek.frz (u:=.frz o (dxO a es)) g rfl
     exact .itx ⟨o,tb,ep,es,hd,.inl rfl,k1,k2,k3,aV⟩
  |_=>exact zAI w
end
def Rp.itx_inv{K:zAA}(r:Rp K A H v (.itx oo l)):∃a,v= .ref a/\gM K H a oo l:=by cases r with|itx h=>exact⟨_,rfl,h⟩
theorem gM.ep{K:zAA}(h:gM K H a oo l):∃ep,gM K H a (some ep) l/\(oo=none\/oo=some ep):=let⟨o,ts,ep,es,y,z,q,n,k,e⟩:=h;⟨ep,⟨o,ts,ep,es,y,.inr rfl,q,n,k,e⟩,z⟩
def aGg{K:zAA}{H:Hp}{es:List Ent}{xs:List (List Int×Addr×Value)}(p:DxP es xs):∀{l:List (List Int×Int)},(es.map λ e=>(e.1,e.2.2))=(l.map λ p=>(p.1,V.int p.2))->(∀e∈es,SqT K H e.2.1 (e.1.map V.int))->∀{i:Nat} {q:List Int×Int},l[i]? =some q->∃b t,xs[i]? =some (q.1,b,zEF q.2 t)/\SqT K H b (q.1.map V.int):=by
 unfold DxP at p;induction p with
 |nil=>
  intro l h _ i q hq;cases l with
  |nil=>simp at hq
  |cons x l=>cases h
 |cons r t ih=>
  rename_i e x es xs;intro l h ks i q hq;cases l with
  |nil=>cases h
  |cons y l=>
   rw[zAD,zAD]at h;injection h with h1 h2
   cases i with
   |zero=>
    have:y=q:=by simpa using hq
    subst this;obtain⟨k1,k2,k3⟩:=r;injection h1 with h3 h4
    rw[h4]at k3;obtain⟨tk,e3⟩:=k3;obtain⟨x1,x2,x3⟩:=x;dsimp only at k1 k2 e3;subst e3;refine⟨x2,tk,?_,?_⟩
    .rw[zEQ,<-k1,h3]
    .rw[<-k2,<-h3];exact ks e zAK
   |succ i=>exact ih h2 (λ e he=>ks e (zAL _ he)) (by simpa using hq)
def sG{X:Cx}{kX:hZ}{Z:L2.St}{H:Hp}{s:zAF}{a:Addr}(I:Inv X kX Z H s)(h:gM X.K H a (some ep) l):∃o ts es xs,Raw s.heap a o ts ep/\(a==zBE)=false/\l.length<=zAQ/\ts.size=l.length/\xg X.K H es l/\DxP es xs/\ts.toList=(xs.map λ x=>(⟨hsh x.1,.ref x.2.1,x.2.2⟩:zDe))/\∀(i:Nat) q,l[i]? =some q->∃b t,ts[i]? =some ⟨hsh q.1,.ref b,.int q.2 t⟩/\SqT X.K H b (q.1.map V.int):=by
 obtain⟨o,ts,ep',es,hd,hz,he,nd,ks,ha⟩:=h;rcases hz with hz|hz
 .cases hz
 cases hz;obtain⟨ho,⟨hl,hsys,xs,o2,ts2,ep2,pr,h1,h2,h3,h4⟩,_⟩:=(show bM X.prog X.w H s.heap a (.frz o (dxO a es))from I.hok a _ ha);rw[ho]at h1;cases h1;rw[hd]at h3;cases h3;have hel:es.length=l.length:=by have:=congrArg zC5 he;simpa using this
 have hxl:xs.length=es.length:=(zD0 pr).symm;refine⟨o,ts,es,xs,⟨ho,h2,hd⟩,hsys,by lia,?_,⟨he,nd,ks⟩,pr,h4,λ i q hq=>?_⟩
 .have:=congrArg zC5 h4
  simp at this;lia
 .obtain⟨b,t,e1,e2⟩:=aGg pr he ks hq
  refine⟨b,t,?_,e2⟩;rw[<-zAi,h4,zAO,e1];rfl
def aLz(K:zAA)(a:Addr)(ep:Nat)(l:List (List Int×Int)):It:=
 ⟨λ i H=>i<l.length/\gM K H a (some ep) l,λ i H x H'=>∃p b q,x= .ref p/\H p=none/\H'=upd H p (.tup [.ref b,.int q.2])/\l[i]? =some q/\SqT K H b (q.1.map V.int),λ i H=>l.length<=i/\gM K H a (some ep) l⟩
def aA3{P:zAV}{w:World}{K:zAA}{x1:Nat}{elts:List Expr}{ps:Pos}(a it:Addr)(ep:Nat)(l:List (List Int×Int)):Turn P w K (.Tuple elts x1 ps) (aLz K a ep l) [it] it (λ i h=>∃ok ov,zD6 h it a i l.length ep ok ov) where
 mem:=by simp
 obj:=λ i h st b hb=>by
  obtain⟨ok,ov,he⟩:=st
  have:b=it:=by simpa using hb
  subst this;exact⟨_,he,λ v z=>by cases z⟩
 keep:=λ i h h' st k=>let⟨ok,ov,he⟩:=st;⟨ok,ov,k it (by simp) _ he⟩
 item:=by
  intro X hP hw hK hc i kX s Z H E I hf st hg;subst hP hw hK;obtain⟨hlt,hz⟩:=hg;obtain⟨o,ts,es,xs,r,hsys,_,hsz,_,_,_,rows⟩:=sG I hz;obtain⟨ok,ov,he⟩:=st;obtain⟨q,hq⟩:∃q,l[i]? =some q:=⟨l[i],by simp[hlt]⟩
  obtain⟨b,t,hv,hb⟩:=rows i q hq;have hi:i<ts.size:=by lia
  have ev:ts[i]=⟨hsh q.1,.ref b,.int q.2 t⟩:=by
   rw[zAe hi]at hv;exact zAs hv
  rw[<-hsz]at he;refine aID he r hi λ h' ho hT hs hk=>⟨_,rfl,?_⟩
  rw[ev]at ho hT;dsimp only at ho hT;have hel:it<s.heap.objs.size:=zAR he;refine zGe ho λ h2 he2 hs2=>⟨.ref s.heap.objs.size,upd H s.heap.objs.size (.tup [.ref b,.int q.2]),?_,rfl,⟨_,b,q,rfl,I.hok.fresh (zAS _),rfl,hq,hb⟩,⟨_,_,by rw[<-hsz];exact he2⟩,λ b hb=>?_⟩
  .exact aBX (s:=s) (h':=h2) (t':=s.toks) I hf (λ b u hb q=>(hs2.2 b λ z=>hb (by simp[z])).trans (hk b u (λ z=>hb (by simp[z])) q)) (zAS _) ⟨⟨by simp[zBe],NoD.at ((hs2.2 _ (zB4 hel)).trans hT)⟩,[.ref b,.int q.2 t],.cons rfl (.cons ⟨_,rfl⟩ .nil),_,(hs2.2 _ (zB4 hel)).trans hT,rfl,_,rfl⟩
  .have:=(hf b hb).1
   rw[aQ]
   .exact this
   .rintro rfl
    have q2:s.heap.objs.size=it:=by simpa using hb
    exact absurd hel (by rw[<-q2];exact zBQ _)
 done:=by
  intro X hP hw hK hc i kX s Z H E I hf st hg;subst hP hw hK;obtain⟨hle,hz⟩:=hg;obtain⟨o,ts,es,xs,r,hsys,_,hsz,_⟩:=sG I hz;obtain⟨ok,ov,he⟩:=st;rw[<-hsz]at he;obtain⟨f0,f1,f2,f3,f4,f5⟩:=hf it (by simp);exact aFj (I.ok.hd hc) he r (by lia) λ h' he'=>⟨rfl,I.turned (t':=s.toks) (λ b o hb q=>he' b o hb q) f0 f1 f3 f4 f5⟩
 self:=λ _ _ _ _ _ st h=>let⟨_,_,he⟩:=st;zHO he h
def aMo(K:zAA)(te:TE):TI:=λ Z H R=>te Z H λ x H1=>∃a ep l,x= .ref a/\gM K H1 a (some ep) l/\R (aLz K a ep l) H1
def zW{s:zAF}{a:Addr}{o:Obj}{ts:Array zDe}{ep:Nat}(r:Raw s.heap a o ts ep):∀b,zAo a= .ref b->∃ob,s.heap.get? b=some ob/\ob.dict=none:=λ b e=>by cases e;exact⟨o,r.1,r.2.1.2.1⟩
def aEX{X:Cx}{x1:Nat}{elts:List Expr}{ps apos cpos:Pos}{o:Expr}{te:TE}(ho:PE X o te)(hbase:zBd o "items" X.env (eval o X.env)=eval o X.env:=by rfl)(hline:(apos.endLine==cpos.line)=true:=by rfl):
  PI X (.Tuple elts x1 ps) (.Call (.Attribute o "items" apos) [] [] cpos) (aMo X.K te):=by
 intro kX s Z H R I h;refine zDM hbase hline (thn (ho kX s Z H _ I h) λ v s1 ⟨x,H1,I1,r1,a,ep,l,ex,hz,q⟩=>?_);subst ex;cases r1;obtain⟨ob,ts,es,xs,r,hsys,_,hsz,_⟩:=sG I1 hz;refine⟨"dict","dict.items",zCQ,zCn,zGB,r.ty,zW r,zBy rfl (zDf ?_)⟩;refine zEv zCn r.ty zFs (zFe _) (aEQ hsys) ⟨⟨ob,ts,ep,r⟩,?_⟩;have hlt:=zAR r.1;refine aEP (v:=s1.heap.objs.size) (d:=a) ⟨_,zAJ _ rfl,rfl,rfl⟩ ⟨zAC _ r.1,r.2⟩ ?_;have hk:∀(o1 o2:Obj) b u,s1.heap.get? b=some u->((s1.heap.push o1).push o2).get? b=some u:=λ o1 o2 b u e=>zAC _ (zAC _ e)
 have hle:∀o1:Obj,s1.heap.objs.size<=(s1.heap.push o1).objs.size:=λ o1=>by rw[zBD];exact zCm _
 refine⟨_,[_],_,aLz X.K a ep l,H1,rfl,I1.kept (t':=s1.toks) (hk _ _),aA3 a _ ep l,⟨.none,.none,?_⟩,λ b hb=>?_,q⟩
 .show _=_
  rw[<-hsz];exact zAJ _ rfl
 .have e:b=_:=zAM.mp hb
  subst e;exact I1.fpOk (hle _) (I1.hok.fresh (hle _))
def aIq(fo:En->Rs D):En->Rs (List D):=λ ρ=>(fo ρ).bd λ d=>match d with
 | .itx _ l=>.ok (l.map λ p=>.tup [.tup (p.1.map .int),.int p.2])
 |_=>.st
section
variable{C:Ct}{m:Mode}{o:Expr}{fo:En->Rs D}{elts:List Expr}{x1:Nat}{ps apos cpos:Pos}
def aEF(ho:SE C m o fo)(hbase:∀j,zBd o "items" (C.X j).env (eval o (C.X j).env)=eval o (C.X j).env:=by intro _;rfl)(hline:(apos.endLine==cpos.line)=true:=by rfl):
  SI C (.Tuple elts x1 ps) (.Call (.Attribute o "items" apos) [] [] cpos) (aIq fo):=by
 obtain⟨t,p1,p2⟩:=ho;refine⟨aMo C.K t,λ i=>by rw[<-C.hK i];exact aEX (p1 i) (hbase i) hline,λ U Z H ρ lab Rr R W=>p2 U Z H ρ lab _ R (W.bd.imp λ d _ w x H1 s r=>?_)⟩;cases d with
 |itx oo l=>
  obtain⟨a,rfl,h⟩:=r.itx_inv;obtain⟨ep,h,_⟩:=h.ep;have R1:=R.up s;refine⟨a,ep,l,rfl,h,w _ H1 lab [(.ref a,.itx (some ep) l)] s (λ _ _ _=>rfl) ⟨R1.len,R1.sl,R1.old,R1.new,λ z hz=>?_⟩ λ lab' H' hq=>?_⟩
  .rcases zAT.mp hz with rfl|hz
   .exact .itx h
   .exact R1.tm z hz
  .obtain⟨a',e',F⟩:=(hq _ (zAK ..)).itx_inv
   cases e';refine λ i=>⟨λ hi=>⟨by simpa using hi,F⟩,λ hi=>⟨⟨by simpa using hi,F⟩,λ x H2 y=>?_⟩⟩
   obtain⟨p,b,q,rfl,hp,rfl,hq2,hb⟩:=y;have sm:=bF hp (.tup [.ref b,.int q.2]);exact⟨sm,.tup [.tup (q.1.map .int),.int q.2],by rw[zAO,hq2];rfl,.tup (.inl (.inl aV)) (.cons (.tup (sm.sqt hb) Rps.ints) (.cons (.int _) .nil))⟩
 |_=>exact zAI w
end
def aCe:List D->Rs D
 |[.itx _ l]=>if (l≠[]/\l.length<=zAQ)/\(l.map λ p=>hsh p.1).Nodup then .ok (q9 (l.map λ p=>(p.1,.int p.2)))else .st
 |_=>.st
def aJn(K:zAA):List V->Hp->VK->Prop:=λ xs H Q=>∃a ep l,xs=[.ref a]/\gM K H a (some ep) l/\l≠[]/\(l.map λ p=>hsh p.1).Nodup/\∀c es,H c=none->xg K H es l->Q (.ref c) (upd H c (dxO c es))
theorem aHF{α β:Type}[BEq β][LawfulBEq β]{f:α->β}{b:β}:∀{l:List α},(l.map f).Nodup->(l.filter λ x=>f x==b).length<=1
 |[],_=>zAf _
 |x::l,h=>by
  obtain⟨h1,h2⟩:=zAw.mp h;rw[zF1];split
  .rename_i e
   rw[zAk,zEZ.mpr]
   .exact zAS _
   .intro y hy e2
    have:f x=f y:=(beq_iff_eq.mp e).trans (beq_iff_eq.mp e2).symm
    exact h1 (by rw[this];exact List.mem_map_of_mem hy)
  .exact aHF h2
def aEu{X:Cx}:cX X (.type "dict") (aJn X.K):=by
 intro kX s Z H xs us Q I r h;obtain⟨a,ep,l,rfl,hz,h0,hn,q⟩:=h;obtain⟨u,rfl,ru⟩:=vals1 r;cases ru;obtain⟨o,ts,es,xs,rw',hsys,hl,hsz,ek,pr,hts,_⟩:=sG I hz;have hfr:H s.heap.objs.size=none:=I.hok.fresh (zAS _);have hxs:xs.map (·.1)=l.map (·.1):=by
  rw[<-DxP.keys pr]
  have:=congrArg (zHY zFd) ek.1
  simpa[zAN,zCu]using this
 have hel:es.length=l.length:=by have:=congrArg zC5 ek.1;simpa using this
 refine aFk hsys rw' (by lia) (by rw[hsz];exact List.length_pos_iff.mpr h0) (λ e he=>?_) (λ e _=>?_) λ h' o' ep' r' hs=>⟨.ref s.heap.objs.size,upd H s.heap.objs.size (dxO s.heap.objs.size es),I.laid (t':=s.toks) (h':=h') (λ b u e=>(hs.2 b (zA1 (zAR e))).trans (zAC _ e)) (zAS _) ?_,rfl,q _ es hfr ek⟩
 .rw[hts]at he
  obtain⟨x,hx,rfl⟩:=zAY.mp he;obtain⟨y,hy,e1,e2⟩:=DxP.mem pr x hx;obtain⟨its,_,⟨ob,g1,g2,_⟩,_⟩:=I.tuple (ek.2.2 y hy);exact⟨_,rfl,ob,by rw[<-e2];exact g1,g2⟩
 .rw[<-zA4,zGo]
  refine aHF (f:=λ e:zDe=>e.hash) ?_;rw[hts,zAN]
  have:(l.map λ p=>hsh p.1)=xs.map λ x=>hsh x.1:=by
   have e1:(l.map λ p=>hsh p.1)=(l.map (·.1)).map hsh:=by rw[zAN];rfl
   have e2:(xs.map λ x=>hsh x.1)=(xs.map (·.1)).map hsh:=by rw[zAN];rfl
   rw[e1,e2,hxs]
  exact this▸hn
 .exact⟨⟨by lia,beq_eq_false_iff_ne.mpr (zDV (zA1 I.big)),xs,o',ts,ep',pr,r'.1,r'.2.1,r'.2.2,hts⟩,⟨o',r'.1⟩,λ g1 g2 ⟨hl,hd,xs,o,ts,ep,pr,h1,r⟩ k=>⟨hl,hd,xs,o,ts,ep,pr,k o h1,r⟩⟩
def aDG{K:zAA}{A:Addr->Prop}{H:Hp}{c:Addr}{es:List Ent}{l:List (List Int×Int)}(h:H c=some (dxO c es))(ek:xg K H es l)(m:A c):Rp K A H (.ref c) (q9 (l.map λ p=>(p.1,.int p.2))):=by
 have h1:es.map (·.1)=l.map (·.1):=by
  have:=congrArg (zHY zFd) ek.1
  simpa[zAN,zCu]using this
 have h2:es.map (·.2.2)=(l.map (·.2)).map V.int:=by
  have:=congrArg (zHY zH2) ek.1
  simpa[zAN,zCu]using this
 have r:=Rp.dT (K:=K) (A:=A) (H:=H) (a:=c) (es:=es) (ds:=(l.map (·.2)).map D.int) ⟨h,ek.2.2,ek.2.1⟩ m (by rw[h2];exact Rps.ints);have e1:(es.map λ e=>D.tup (e.1.map .int))=l.map λ p=>D.tup (p.1.map .int):=by
  rw[show(es.map λ e=>D.tup (e.1.map .int))=(es.map (·.1)).map λ k=>D.tup (k.map .int)by rw[zAN];rfl,h1,zAN];rfl
 rw[e1]at r;have e2:q9 (l.map λ p=>(p.1,D.int p.2))= .dct (.non::l.map λ p=>D.tup (p.1.map .int)) ((l.map (·.2)).map D.int):=by
  unfold q9;rw[zAN,zAN,zAN];rfl
 rw[e2];exact r
def xg.mono{K:zAA}(h:xg K H es l)(s:aR H H'):xg K H' es l:=⟨h.1,h.2.1,λ e he=>s.sqt (h.2.2 e he)⟩
def aJT{K:zAA}:yz K (aJn K) aCe:=by
 intro A xs ds H Q z r ez q;unfold aCe at ez;split at ez
 .split at ez
  .rename_i hl
   cases ez;obtain⟨v,rfl,h⟩:=r.one_inv;obtain⟨a,rfl,hi⟩:=h.itx_inv;obtain⟨ep,hj,_⟩:=hi.ep;exact⟨a,ep,_,rfl,hj,hl.1.1,hl.2,λ c es hc ek=>q _ _ (bF hc _) (aDG aV (ek.mono (bF hc _)) hc)⟩
  .cases ez
 .cases ez
theorem aCq{K:zAA}{k:List Int}:∀{es:List Ent} {ps:List (List Int×D)},Rps K A H (es.map (·.2.2)) (ps.map (·.2))->es.map (·.1)=ps.map (·.1)->(∃d v,ps.lookup k=some d/\lkE es k=some v/\Rp K A H v d)\/(ps.lookup k=none/\lkE es k=none)
 |[],[],_,_=>.inr ⟨rfl,rfl⟩
 |[],_::_,_,e=>by cases e
 |_::_,[],_,e=>by cases e
 |p::es,q::ps,r,e=>by
  obtain⟨q1,q2⟩:=q;rw[zAD,zAD]at e r;injection e with e1 e2
  cases r with
  |cons h1 r=>
   unfold lkE;rw[zBk,zA6];by_cases c:p.1=k
   .have c2:(k==q1)=true:=by rw[beq_iff_eq,<-c];exact e1
    rw[c2,decide_eq_true c];exact .inl ⟨_,_,rfl,rfl,h1⟩
   .have c2:(k==q1)=false:=by rw[beq_eq_false_iff_ne];exact λ z=>c (e1.trans z.symm)
    rw[c2,decide_eq_false c];exact aCq r e2
def DxP.lkN{k:List Int}(p:DxP es xs)(h:lkE es k=none):atKey xs k=none:=by
 unfold lkE at h;unfold atKey;unfold DxP at p;induction p with
 |nil=>rfl
 |cons q t ih=>
  rename_i e x es xs;rw[zBk]at h ⊢;rw[<-q.1];by_cases c:e.1=k
  .rw[decide_eq_true c]at h
   cases h
  .rw[decide_eq_false c]at h ⊢
   exact ih h
def aEi(fd fk fz:En->Rs D):En->Rs D:=λ ρ=>(fd ρ).bd λ d=>match d with
 | .dct ks vs=>(match vY ks vs with
  |some ps=>(fk ρ).bd λ k=>(fz ρ).bd λ z=>(match wB k with
   |some i=>if imm z=true then .ok ((ps.lookup i).getD z)else .st
   |_=>.st)
  |none=>.st)
 |_=>.st
def aFG(K:zAA)(td ty tx:TE):TE:=λ Z H Q=>td Z H λ x H1=>∃a es,x= .ref a/\DxO K H1 a es/\ty Z H1 λ y H2=>tx Z H2 λ z H3=>∃b k,y= .ref b/\SqT K H3 b (k.map V.int)/\DxO K H3 a es/\Q ((lkE es k).getD z) H3
def aGF{X:Cx}{o e f:Expr}{apos cpos:Pos}{td ty tx:TE}(hu:X.A.units+1<cLine)(ho:PE X o td)(he:PE X e ty)(hf:PE X f tx)(m:M2 X o "get" apos e f cpos):PE X (.Call (.Attribute o "get" apos) [e,f] [] cpos) (aFG X.K td ty tx):=by
 intro kX s Z H Q I h;refine wpAny_Call_method m.base m.few m.line zCQ zGR PySem.F.type_dict_get (thn (ho kX s Z H _ I h) λ u s1 ⟨x,H1,I1,rx,a,es,ex,hD,q1⟩=>?_);subst ex;obtain rfl:u=zAo a:=rx;obtain⟨hd,xs,pr,dd⟩:=aDp I1 hD;refine⟨dd.typeIs,dictOfH_noDict dd,?_⟩;rw[m.trees];refine zBy rfl (zEe (zEr (thn (he kX s1 Z H1 _ I1 q1) λ iv s2 ⟨y,H2,I2,ry,q2⟩=>
  zEr (thn (hf kX s2 Z H2 _ I2 q2) λ fv s3 ⟨z,H3,I3,rz,b,k,ey,hb,hD3,q3⟩=>zHS ?_))))
 subst ey;obtain rfl:iv=zAo b:=ry;obtain⟨hd,xs,pr,dd⟩:=aDp I3 hD3;refine zEv zGR dd.typeIs PySem.F.entry_dict_get (PySem.F.args_dict_get_3 _ _ _) (meetsH_dict_get_default (zDK (zCo X.prog X.w)) a b hd fv) ⟨zDL hu,k,xs,aIo I3 hb,dd,_,H3,I3.tok _,?_,q3⟩;cases hl:lkE es k with
 |none=>rw[pr.lkN hl];exact rz
 |some v=>
  obtain⟨p,hp,rp⟩:=pr.lk hl;rw[hp];exact rp
section
variable{C:Ct}{m1 m2 m3:Mode}{a b c:Expr}{fa fb fc:En->Rs D}{apos cpos pos p:Pos}{x:Str}
def aHw(ha:SE C m1 a fa)(hb:SE C m2 b fb)(hc:SE C m3 c fc)(hm:∀j,M2 (C.X j) a "get" apos b c cpos:=by intro _;exact⟨rfl,rfl,rfl,rfl⟩):SE C m1 (.Call (.Attribute a "get" apos) [b,c] [] cpos) (aEi fa fb fc):=by
 obtain⟨t,h1,h2⟩:=ha;obtain⟨u,k1,k2⟩:=hb;obtain⟨v,l1,l2⟩:=hc;refine⟨aFG C.K t u v,λ i=>by rw[<-C.hK i];exact aGF (by have:=(C.room i).un;lia) (h1 i) (k1 i) (l1 i) (hm i),λ U Z H ρ lab Q R W=>?_⟩;refine h2 U Z H ρ lab _ R (W.bd.imp λ d _ w x H1 s1 r1=>?_);cases d with
 |dct ks vs=>
  dsimp only at w;cases hp:vY ks vs with
  |none=>rw[hp]at w;exact zAI w
  |some ps=>
   rw[hp]at w;dsimp only at w;obtain⟨a,es,rfl,g1,m,r,hk⟩:=r1.dctX_inv hp;refine⟨a,es,rfl,g1,?_⟩;refine k2 U Z H1 ρ lab _ (R.up s1) (w.bd.imp λ e _ w y H2 s2 r2=>?_);refine l2 U Z H2 ρ lab _ ((R.up s1).up s2) (w.bd.imp λ z _ w zv H3 s3 r3=>?_);cases hke:wB e with
   |none=>rw[hke]at w;exact zAI w
   |some k=>
    rw[hke]at w;dsimp only at w;by_cases hz:imm z=true
    .rw[if_pos hz]at w
     rw[sE hke]at r2;obtain⟨b,xs,rfl,hb1,hb2⟩:=(r2.up s3).tup_inv;have exs:=hb2.ints_of;subst exs;have g3:DxO C.K H3 a es:=g1.elim (λ z=>.inl (z.mono (s2.trans s3))) λ z=>.inr ⟨z.1,(s2.trans s3) _ _ z.2⟩
     refine⟨b,k,rfl,hb1,g3,?_⟩;rcases aCq (k:=k) (r.up (s2.trans s3)) hk with ⟨d,v,e1,e2,e3⟩|⟨e1,e2⟩
     .rw[e1]at w
      rw[e2];exact w v H3 ((s1.trans s2).trans s3) (e3.wk λ p o _ q=>q.1)
     .rw[e1]at w
      rw[e2];exact w zv H3 ((s1.trans s2).trans s3) (r3.imm hz)
    .rw[if_neg hz]at w
     exact zAI w
 |_=>exact zAI w
def aHx{ga:En->Rs (List D)}(hm:C.mg "dict"=none)(ha:SA C m1 [a] ga)(he:∀i,zAU [a] (C.X i).env=[(false,eval a (C.X i).env)]:=by intro _;rfl)(hg:∀i,Gl (C.X i) "dict":=by intro _;rfl)(hv:zAz "dict"=some (.type "dict"):=by decide+kernel):SE C (some []) (.Call (.Name "dict" p) [a] [] pos) (opA aCe ga):=by
 obtain⟨t,h1,h2⟩:=ha;exact⟨_,λ i=>nR (by rw[<-C.hK i];exact aEu) (hg i) (by rw[(C.cx i).2.2.2.1];exact hm) hv (h1 i) (by decide) (by decide) (he i) rfl,pX aJT h2⟩
def aLk(fk fv:En->Rs D):En->Rs D:=λ ρ=>(fk ρ).bd λ k=>(fv ρ).bd λ d=>match wB k,d with
 |some i,.int j=>.ok (q9 [(i,.int j)])
 |_,_=>.st
def aMI(K:zAA)(tk tv:TE):TE:=λ Z H Q=>∀D,H D=none->tk Z (upd H D (.dK [])) λ y H1=>tv Z H1 λ v H2=>∃b k j,y= .ref b/\v= .int j/\SqT K H2 b (k.map V.int)/\H2 D=some (.dK [])/\Q (.ref D) (upd H2 D (dxO D [(k,b,.int j)]))
def aKy{X:Cx}{kx vx:Expr}{pos:Pos}{tk tv:TE}(hu:X.A.units<cLine)(hk:PE X kx tk)(hv:PE X vx tv):PE X (.Dict [some kx] [vx] pos) (aMI X.K tk tv):=by
 intro kX s Z H Q I h;have hfr:H s.heap.objs.size=none:=I.hok.fresh (zAS _);have hd0:(s.heap.objs.size==zBE)=false:=beq_eq_false_iff_ne.mpr (zDV (zA1 I.big));have I0:Inv X kX Z (upd H s.heap.objs.size (.dK [])) {s with heap:=s.heap.push {cls:=.type "dict",data:=.dict #[]}}:=
  I.laid (t':=s.toks) (λ b u e=>zAC _ e) (zAS _) ⟨zAf _,hd0,[],.nil,zEs _⟩
 refine wpAny_Dict_any rfl rfl (by simp) (zC7 rfl) (zAB (thn (hk kX _ Z _ _ I0 (h _ hfr)) λ u s1 ⟨y,H1,I1,r1,q1⟩=>zAB (zBT (zAB (thn (hv kX s1 Z H1 _ I1 q1) λ u2 s2 ⟨v,H2,I2,r2,b,k,j,ey,ev,hb,hD,q⟩=>zAB (zDy (zAG ?_)))))));subst ey ev;cases r1;refine zAB (zBT (zAG (zAG ?_)));unfold storeAll;rw[zIN];obtain⟨hd,xs,pr,dd⟩:=aDp I2 (.inr ⟨rfl,hD⟩);cases pr;refine zAB (zAB (wpAny_dictSet_heap (hsz:=zAf _) (show(zDK (zCo X.prog X.w)).room X.A from hu) (aIo I2 hb) dd λ h' dd' hs=>zAG ?_));dsimp only;rw[List.forIn_nil];refine zAG ⟨.ref s.heap.objs.size,_,?_,rfl,q⟩;obtain⟨o,ts,ep,h1,r⟩:=id dd';exact I2.write (x:=s.heap.objs.size) (e:=s.heap.objs.size) (by rw[hD];exact trivial) (.inl rfl) (λ b' u hb hu=>(hs.2 b' hb).trans hu) ⟨o,h1⟩ (aHL (es:=[(k,b,.int j)]) (by rw[zBe];exact zC7 rfl) hd (.cons ⟨rfl,rfl,r2⟩ .nil) dd')
def aK3{kx vx:Expr}{fk fv:En->Rs D}(hk:SE C m1 kx fk)(hv:SE C m2 vx fv):SE C (some []) (.Dict [some kx] [vx] pos) (aLk fk fv):=by
 obtain⟨t,h1,h2⟩:=hk;obtain⟨u,k1,k2⟩:=hv;refine⟨aMI C.K t u,λ i=>by rw[<-C.hK i];exact aKy (by have:=(C.room i).un;lia) (h1 i) (k1 i),λ U Z H ρ lab Q R W D hD=>?_⟩;have s0:=bF hD (.dK []);refine h2 U Z _ ρ lab _ (R.up s0) (W.bd.imp λ k _ w y H1 s1 r1=>?_);refine k2 U Z H1 ρ lab _ ((R.up s0).up s1) (w.bd.imp λ d _ w v H2 s2 r2=>?_);cases hk:wB k with
 |none=>rw[hk]at w;exact zAI w
 |some kk=>
  rw[hk]at w;cases d with
  |int j=>
   rw[sE hk]at r1;obtain⟨b,xs,rfl,hb1,hb2⟩:=(r1.up s2).tup_inv;have exs:=hb2.ints_of;subst exs;have ev:=r2.int_inv;subst ev;have h2D:H2 D=some (.dK []):=(s1.trans s2) _ _ aV;refine⟨b,kk,j,rfl,rfl,hb1,h2D,w _ _ (λ p o hp=>?_) ?_⟩
   .rw[aQ λ z=>by rw[z,hD]at hp;cases hp]
    exact((s0.trans s1).trans s2) p o hp
   .refine aDG (l:=[(kk,j)]) aV ⟨rfl,by simp,λ e he=>?_⟩ (.inl hD)
    rw[zAM.mp he];exact lA (λ b q ne hb=>by rw[aQ ne];exact hb) h2D rfl hb1
  |_=>exact zAI w
end
def aDv{prog:zAV}{w:World}{A:zAc}{o:Obj}{ts:Array zDe}(hh:A.handled=none)(it d:Addr)(hne:d≠it)(ep:Nat):
  Walks prog w A it [it,d] [it] ts.size (λ i v=>∃e,ts[i]? =some e/\v=e.val) (λ i h=>h.IsValIter it d i ts.size ep/\Raw h d o ts ep) where
 sub:=λ b hb=>by rw[zAM.mp hb];exact zAK
 frame:=λ _ _ _ st hk=>⟨st.1.at (hk it zAK),hk d (by simp) _ st.2.1,st.2.2⟩
 item:=λ i s Q E hi st hQ=>aDJ st.1 st.2 hi λ h' t' sb=>hQ _ h' s.toks ⟨ts[i],by simp[hi],rfl⟩ ⟨t',(sb.2 d hne).trans st.2.1,st.2.2⟩ λ b u hb e=>sb.extBut b u (λ z=>hb (by simp[z])) e
 done:=λ s Q E st hQ=>aAq hh st.1 st.2 (zAS _) λ h' eb=>hQ h' s.toks λ b u hb e=>eb b u (λ z=>hb (by simp[z])) e
 self:=λ _ _ _ _ st hQ=>zIU st.1 hQ
def aJb(K:zAA)(te:TE):TE:=λ Z H Q=>te Z H λ x H1=>∃a l,x= .ref a/\gM K H1 a none l/\∀v,H1 v=none->Q (.ref v) (upd H1 v (aJ9 v a))
def aIS{X:Cx}{apos cpos:Pos}{o:Expr}{te:TE}(ho:PE X o te)(hbase:zBd o "values" X.env (eval o X.env)=eval o X.env:=by rfl)(hline:(apos.endLine==cpos.line)=true:=by rfl):
  PE X (.Call (.Attribute o "values" apos) [] [] cpos) (aJb X.K te):=by
 intro kX s Z H R I h;refine zDM hbase hline (thn (ho kX s Z H _ I h) λ v s1 ⟨x,H1,I1,r1,a,l,ex,hz,q⟩=>?_);subst ex;cases r1;obtain⟨ep,hz,_⟩:=hz.ep;obtain⟨ob,ts,es,xs,r,hsys,_,hsz,_⟩:=sG I1 hz;refine⟨"dict","dict.values",zCQ,zCi,zFu,r.ty,zW r,zBy rfl (zDf ?_)⟩;refine zEv zCi r.ty zFf (zF8 _) (vN hsys) ⟨⟨ob,ts,ep,r⟩,⟨.ref s1.heap.objs.size,_,I1.laid (t':=s1.toks) (λ b o e=>zAC _ e) (zAS _) ?_,rfl,q _ (I1.hok.fresh (zAS _))⟩⟩;exact⟨⟨_,zAJ _ rfl,rfl,rfl⟩,⟨_,zAJ _ rfl⟩,λ h1 h2 ⟨o,e,r⟩ k=>⟨o,k o e,r⟩⟩
def aMV(K:zAA):List V->Hp->VK->Prop:=λ xs H Q=>∃v a ep l m,xs=[.ref v]/\H v=some (aJ9 v a)/\gM K H a (some ep) l/\(l.map (·.2)).max?=some m/\Q (.int m) H
def aHX{X:Cx}(hc:X.calm=true):cX X (.builtin "max") (aMV X.K):=by
 intro kX s Z H xs us Q I r h;obtain⟨v,a,ep,l,m,rfl,hv,hz,hm,q⟩:=h;obtain⟨u,rfl,ru⟩:=vals1 r;cases ru;have hview:s.heap.IsValuesView v a:=(I.hok v _ hv).1;obtain⟨ob,ts,es,xs,r,hsys,_,hsz,_,_,_,rows⟩:=sG I hz;obtain⟨ns,hns⟩:∃ns,ns=l.map (·.2):=⟨_,rfl⟩
 rw[<-hns]at hm;have hlt:=zAR r.1;have kK:ns.length=ts.size:=by rw[hns,zAE,hsz]
 have h0:0<ts.size:=by
  rw[<-kK];cases ns with
  |nil=>cases hm
  |cons a b=>simp
 have hat:∀(i:Nat) v,(∃e,ts[i]? =some e/\v=e.val)->∃t,v= .int (ns.getD i 0) t:=λ i v ⟨e,he,hv⟩=>by
  have hi:i<l.length:=by
   rw[<-hsz];rcases Nat.lt_or_ge i ts.size with z|z
   .exact z
   .rw[zCZ z]at he;cases he
  obtain⟨b,t,e1,_⟩:=rows i l[i] (by simp[hi]);rw[he]at e1;cases e1;exact⟨t,by rw[hv,hns,zA8,zAO,zAH hi];rfl⟩
 refine call_max_walk (yF hview r ?_);refine⟨_,_,_,_,_,_,_,rfl,aDv (ts:=ts) (A:=X.A.in1) (I.ok.hd hc) _ a (zA1 hlt) ep,⟨⟨_,zAJ _ rfl,rfl,rfl⟩,zAC _ r.1,r.2⟩,λ b hb=>?_,h0,CmpOf.ints_gt (λ i=>ns.getD i 0) hat,λ v h' tk hv hk=>?_⟩
 .show b<(s.heap.push _).objs.size
  rw[zBD];simp only[zAT,zB2,or_false]at hb;rcases hb with e|e<;>subst e
  .exact zBb _
  .exact zBi hlt
 obtain⟨t,rfl⟩:=hat _ v hv;obtain⟨h1,h2⟩:=argBest_gt (λ i=>ns.getD i 0) (ts.size-1);have hM:ns.max?=some (ns.getD (argBest (λ i j=>decide (ns.getD i 0>ns.getD j 0)) (ts.size-1)) 0):=by
  rw[zGk];refine⟨getD_mem (by lia),λ a ha=>?_⟩;obtain⟨j,hj,rfl⟩:=mem_getD ha;exact h2 j (by lia)
 rw[hm]at hM;injection hM with hM
 refine⟨.int m,H,I.kept λ b o e=>hk b o (λ z=>?_) (zAC _ e),⟨t,by rw[hM]⟩,q⟩;rw[zAM]at z;exact absurd (z▸zAR e) (zBQ _)
def aG0:D->Rs D
 | .itx _ l=>match (l.map (·.2)).max? with
  |some m=>.ok (.int m)
  |none=>.st
 |_=>.st
section
variable{C:Ct}{pos p apos cpos:Pos}{o:Expr}{fo:En->Rs D}{m:Mode}
def aK0(hmL:C.mg "max"=none)(ho:SE C m o fo)(hs2:∀i,zAU [.Call (.Attribute o "values" apos) [] [] cpos] (C.X i).env=[(false,eval (.Call (.Attribute o "values" apos) [] [] cpos) (C.X i).env)]:=by intro _;rfl)(hgL:∀i,Gl (C.X i) "max":=by intro _;rfl)(hvL:zAz "max"=some (.builtin "max"):=by decide+kernel)
  (hbase:∀j,zBd o "values" (C.X j).env (eval o (C.X j).env)=eval o (C.X j).env:=by intro _;rfl)(hline:(apos.endLine==cpos.line)=true:=by rfl):
  SE C (some []) (.Call (.Name "max" p) [.Call (.Attribute o "values" apos) [] [] cpos] [] pos) (op1 aG0 fo):=by
 obtain⟨t,h1,h2⟩:=ho;refine⟨tCB (aMV C.K) (dR (aJb C.K t) uF),λ i=>gG (by rw[<-C.hK i];exact aHX (C.calm i)) (hgL i) (by rw[(C.cx i).2.2.2.1];exact hmL) hvL (bz (by rw[<-C.hK i];exact aIS (h1 i) (hbase i) hline) jF (hs2 i)) (by decide) (by decide) (hs2 i) rfl,λ U Z H ρ lab Q R W=>?_⟩;refine h2 U Z H ρ lab _ R (W.bd.imp λ d _ w y H1 s1 r1=>?_);obtain⟨z,ez,wz⟩:=w.okD;cases d with
 |itx oo l=>
  unfold aG0 at ez;dsimp only at ez;cases hm:(l.map (·.2)).max? with
  |none=>rw[hm]at ez;cases ez
  |some mm=>
   rw[hm]at ez;cases ez;obtain⟨a,rfl,hi⟩:=r1.itx_inv;obtain⟨ep,hj,_⟩:=hi.ep;have hn:gM C.K H1 a none l:=let⟨o,ts,ep,es,y,z,q,n,k,e⟩:=hj;⟨o,ts,ep,es,y,.inl rfl,q,n,k,e⟩
   refine⟨a,l,rfl,hn,λ v hv=>?_⟩;exact⟨v,a,ep,l,mm,rfl,aV,hj.mono (bF hv _),hm,wz _ _ (s1.trans (bF hv _)) (.int mm)⟩
 |_=>cases ez
end
def aMA(a:Addr)(ep:Nat)(l:gX):It:=
 ⟨λ i H=>i<l.length/\Fz H a ep l,λ i H x H'=>∃q,x= .int q.2/\H'=H/\l[i]? =some q,λ i H=>l.length<=i/\Fz H a ep l⟩
def aCd{X:Cx}{kX:hZ}{Z:L2.St}{H:Hp}{s:zAF}{a:Addr}(I:Inv X kX Z H s)(h:Fz H a ep l):∃o ts,Raw s.heap a o ts ep/\(a==zBE)=false/\ts.size=l.length/\∀(i:Nat) q,l[i]? =some q->∃e t,ts[i]? =some e/\e.val= .int q.2 t:=by
 obtain⟨vs,rel,kK,⟨o,ts,h1,h2,h3,_,h5,_⟩,hsys⟩:=aDf I h;refine⟨o,ts,⟨h1,h2,h3⟩,hsys,?_,λ i q hq=>?_⟩
 .have:=h5.length
  simp at this;lia
 .obtain⟨t,e1⟩:=aGa rel hq
  have hi:i<ts.size:=by
   have e2:=h5.length;have e3:i<vs.length:=by
    rcases Nat.lt_or_ge i vs.length with z|z
    .exact z
    .rw[zE8 z]at e1;cases e1
   simp at e2;lia
  exact⟨ts[i],t,by simp[hi],(h5.get? (e:=ts[i]) (by simp[hi]) e1).2⟩
def aDx{P:zAV}{w:World}{K:zAA}{tg:Expr}(a it:Addr)(ep:Nat)(l:gX)(hai:a≠it):Turn P w K tg (aMA a ep l) [it] it (λ i h=>h.IsValIter it a i l.length ep) where
 mem:=by simp
 obj:=λ i h st b hb=>by
  have e:b=it:=by simpa using hb
  subst e;obtain⟨o,e,c,d⟩:=st;exact⟨o,e,λ v z=>by rw[d]at z;cases z⟩
 keep:=λ i h h' st k=>st.at λ o e=>k it (by simp) o e
 item:=by
  intro X hP hw hK hc i kX s Z H E I hf st hg;subst hP hw hK;obtain⟨hlt,hz⟩:=hg;obtain⟨o,ts,r,_,hsz,rows⟩:=aCd I hz;obtain⟨q,hq⟩:∃q,l[i]? =some q:=⟨l[i],by simp[hlt]⟩
  obtain⟨e,t,e1,e2⟩:=rows i q hq;have hi:i<ts.size:=by lia
  rw[zAe hi]at e1;cases e1;rw[<-hsz]at st;obtain⟨f0,f1,f2,f3,f4,f5⟩:=hf it (by simp);refine aDJ st r hi λ h' st' sb=>?_
  have I1:Inv X kX Z H {s with heap:=h'}:=I.turned (t':=s.toks) (λ b o hb e=>(sb.2 b hb).trans e) f0 f1 f3 f4 f5;obtain⟨o,e,c,d⟩:=id st';rw[hsz]at st';exact⟨_,rfl,aDe (s:={s with heap:=h'}) e c d (by decide) ⟨.int q.2,H,I1,⟨t,e2⟩,⟨q,rfl,rfl,hq⟩,st',λ b hb=>(hf b hb).1⟩⟩
 done:=by
  intro X hP hw hK hc i kX s Z H E I hf st hg;subst hP hw hK;obtain⟨hle,hz⟩:=hg;obtain⟨o,ts,r,_,hsz,rows⟩:=aCd I hz;obtain⟨f0,f1,f2,f3,f4,f5⟩:=hf it (by simp);rw[<-hsz]at st;exact aAq (I.ok.hd hc) st r (by lia) λ h' eb=>⟨rfl,I.turned (t':=s.toks) (λ b o hb e=>eb b o hb e) f0 f1 f3 f4 f5⟩
 self:=λ _ _ _ _ _ st h=>zIU st h
def aMk(te:TE):TI:=λ Z H R=>te Z H λ x H1=>∃a ep l,x= .ref a/\Fz H1 a ep l/\R (aMA a ep l) H1
def aIP{X:Cx}{tg:Expr}{apos cpos:Pos}{o:Expr}{te:TE}(ho:PE X o te)(hbase:zBd o "values" X.env (eval o X.env)=eval o X.env:=by rfl)(hline:(apos.endLine==cpos.line)=true:=by rfl):
  PI X tg (.Call (.Attribute o "values" apos) [] [] cpos) (aMk te):=by
 intro kX s Z H R I h;refine zDM hbase hline (thn (ho kX s Z H _ I h) λ v s1 ⟨x,H1,I1,r1,a,ep,l,ex,hz,q⟩=>?_);subst ex;cases r1;obtain⟨ob,ts,r,hsys,hsz,_⟩:=aCd I1 hz;refine⟨"dict","dict.values",zCQ,zCi,zFu,r.ty,zW r,zBy rfl (zDf ?_)⟩;refine zEv zCi r.ty zFf (zF8 _) (vN hsys) ⟨⟨ob,ts,ep,r⟩,?_⟩;have hlt:=zAR r.1;refine yF (v:=s1.heap.objs.size) (d:=a) ⟨_,zAJ _ rfl,rfl,rfl⟩ ⟨zAC _ r.1,r.2⟩ ?_;have hk:∀(o1 o2:Obj) b u,s1.heap.get? b=some u->((s1.heap.push o1).push o2).get? b=some u:=λ o1 o2 b u e=>zAC _ (zAC _ e)
 have hle:∀o1:Obj,s1.heap.objs.size<=(s1.heap.push o1).objs.size:=λ o1=>by rw[zBD];exact zCm _
 refine⟨_,[_],_,aMA a ep l,H1,rfl,I1.kept (t':=s1.toks) (hk _ _),aDx a _ ep l (zA1 (zAW hlt (hle _))),?_,λ b hb=>?_,q⟩
 .rw[<-hsz]
  exact⟨_,zAJ _ rfl,rfl,rfl⟩
 .have e:b=_:=zAM.mp hb
  subst e;exact I1.fpOk (hle _) (I1.hok.fresh (hle _))
def aCp(fo:En->Rs D):En->Rs (List D):=λ ρ=>(fo ρ).bd λ d=>match d with
 | .itm _ l=>.ok (l.map λ p=>.int p.2)
 |_=>.st
section
variable{C:Ct}{m:Mode}{o tg:Expr}{fo:En->Rs D}{apos cpos:Pos}
def aHn(ho:SE C m o fo)(hbase:∀j,zBd o "values" (C.X j).env (eval o (C.X j).env)=eval o (C.X j).env:=by intro _;rfl)(hline:(apos.endLine==cpos.line)=true:=by rfl):
  SI C tg (.Call (.Attribute o "values" apos) [] [] cpos) (aCp fo):=by
 obtain⟨t,p1,p2⟩:=ho;refine⟨aMk t,λ i=>aIP (p1 i) (hbase i) hline,λ U Z H ρ lab Rr R W=>p2 U Z H ρ lab _ R (W.bd.imp λ d _ w x H1 s r=>?_)⟩;cases d with
 |itm oo l=>
  obtain⟨a,rfl,ob,es,ep,hd,_,ha⟩:=r.itm_inv;have R1:=R.up s;refine⟨a,ep,l,rfl,⟨ob,es,hd,ha⟩,w _ H1 lab [(.ref a,.itm (some ep) l)] s (λ _ _ _=>rfl) ⟨R1.len,R1.sl,R1.old,R1.new,λ z hz=>?_⟩ λ lab' H' hq=>?_⟩
  .rcases zAT.mp hz with rfl|hz
   .exact .itm ⟨ob,es,ep,hd,.inr rfl,ha⟩
   .exact R1.tm z hz
  .have z:=hq _ (zAK ..)
   obtain⟨a',e',ob',es',ep',hd',hz',ha'⟩:=z.itm_inv;cases e';rcases hz' with hz'|hz'
   .cases hz'
   .cases hz'
    have F:Fz H' a ep l:=⟨ob',es',hd',ha'⟩;refine λ i=>⟨λ hi=>⟨by simpa using hi,F⟩,λ hi=>⟨⟨by simpa using hi,F⟩,λ x H2 y=>?_⟩⟩
    obtain⟨q,rfl,rfl,hq2⟩:=y;exact⟨aR.refl _,.int q.2,by rw[zAO,hq2];rfl,.int _⟩
 |_=>exact zAI w
end
def fbS(i0 i1:Nat)(F:FB)(fx:En->Rs D):En->Ou:=λ ρ=>match (ρ[i0]? :Option Slot),m7 ρ[i1]? with
 |some (.sh d0),some c=>(fx ρ).bo λ d2=>if flats c=true/\flat d2=true then(match F d0 c d2 []with
  |some (_,c',_)=>.nx (ρ.set i1 (.ow (az c')))
  |none=>.st)else .st
 |_,_=>.st
section
variable{C:Ct}{pos p p0 p1 pd cp:Pos}{e:Expr}{m:Mode}{fx:En->Rs D}{x x0 x1:Str}{F:FB}{k:Nat}{fn:Addr}{fd:zAg}{ps:List Str}
def aFR{st:Stmt}(i0 i1:Nat)(hF:cA C.prog C.w C.K C.mg C.base (CX1 C.prog C.w) k fn fd ps (spB C.K F))(D:Dnr C.K C.mg x st ps fn fd)(hx:SE C m e fx)(hr:k<=C.k:=by exact zC7 rfl)
  (hN0:∀j,(C.X j).N[i0]? =some x0:=by intro _;rfl)(hN1:∀j,(C.X j).N[i1]? =some x1:=by intro _;rfl)
  (hv0:∀j,Vis (C.X j).env.scope x0:=by intro _;first|exact zBq rfl|exact zBR (zBq rfl)|exact zBR (zBR rfl))(hv1:∀j,Vis (C.X j).env.scope x1:=by intro _;first|exact zBq rfl|exact zBR (zBq rfl)|exact zBR (zBR rfl))
  (hd0:Nd x0:=by decide)(hd1:Nd x1:=by decide)(hc0:(x0==("__classdict__":Str))=false:=by decide)(hc1:(x1==("__classdict__":Str))=false:=by decide)
  (hg:∀i,Gl (C.X i) x:=by intro _;rfl)(hdb:Nd x:=by decide)
  (he0:∀i,zAU [.Name x0 p0,.Name x1 p1,e,.Dict [] [] pd] (C.X i).env=(false,eval (.Name x0 p0) (C.X i).env)::zAU [.Name x1 p1,e,.Dict [] [] pd] (C.X i).env:=by intro _;rfl)
  (he1:∀i,zAU [.Name x1 p1,e,.Dict [] [] pd] (C.X i).env=(false,eval (.Name x1 p1) (C.X i).env)::zAU [e,.Dict [] [] pd] (C.X i).env:=by intro _;rfl)
  (he2:∀i,zAU [e,.Dict [] [] pd] (C.X i).env=(false,eval e (C.X i).env)::zAU [.Dict [] [] pd] (C.X i).env:=by intro _;rfl)
  (he3:∀i,zAU [.Dict [] [] pd] (C.X i).env=(false,eval (.Dict [] [] pd) (C.X i).env)::zAU [] (C.X i).env:=by intro _;rfl)
  (hpl:∀i,(zCW cp (zAU [.Name x1 p1,e,.Dict [] [] pd] (C.X i).env)).any (·.1)=false:=by intro _;rfl)
  (hsw:∀j,zC3 (.Call (.Name x p) [.Name x0 p0,.Name x1 p1,e,.Dict [] [] pd] [] cp) none pos.line (C.X j).env=pure false:=by intro _;rfl):
  SS C (.Expr (.Call (.Name x p) [.Name x0 p0,.Name x1 p1,e,.Dict [] [] pd] [] cp) pos) (fbS i0 i1 F fx):=by
 obtain⟨tx,x1',x2⟩:=hx;refine⟨aA5 (aA6 (spB C.K F) [] C.G.E (dR (jg i0) (dR (jg i1) (dR tx (dR aFH uF))))),λ i=>?_,λ U Z H ρ lab De R W=>?_⟩
 .obtain⟨e1,e2,e3,e4,e5⟩:=C.cx i
  refine ph ?_ (hsw i);exact z8 (CX:=CX1 (C.X i).prog (C.X i).w) (by rw[e1,e2,e3,e4,e5];exact hF) ((C.room i).mono hr) (hg i) (by rw[e4];exact D.m) (by rw[e3];exact D.F.kp) (by rw[e3];exact D.b) .nil (C.pass i) (bz (eU (hN0 i) (hv0 i) hd0 hc0) (bz (eU (hN1 i) (hv1 i) hd1 hc1) (bz (x1' i) (bz aGG jF (he3 i)) (he2 i)) (he1 i)) (he0 i)) hdb (he0 i) (hpl i)
 .unfold fbS at W
  split at W
  .rename_i d0 c e0 e1
   have es1:=jq e1;rcases R.sl i0 _ e0 with z|⟨v0,ev0,h0⟩
   .cases z
   rcases R.sl i1 _ es1 with z|⟨v1,ev1,h1,t1⟩
   .cases z
   obtain⟨a,rfl,la⟩:=t1 rfl;have h0':Rp C.K (λ p=>(lab p).1<=1) H v0 d0:=h0;refine⟨v0,ev0,.ref a,ev1,x2 U Z H ρ lab _ R (W.bo.imp λ d2 _ w y H1 s1 r1=>?_)⟩;by_cases hf:flats c=true/\flat d2=true
   .rw[if_pos hf]at w
    cases hF:F d0 c d2 []with
    |none=>rw[hF]at w;exact zAI w
    |some q=>
     obtain⟨r',c',t'⟩:=q;rw[hF]at w;dsimp only at w;intro b hb;have s2:=bF hb (.dK []);obtain⟨k1,a1⟩:=(Bw.of h1 hf.1 rfl:Bw C.K H a c).at;have ne:a≠b:=λ z=>by subst z;rw[s1 _ _ a1]at hb;cases hb
     have ho:∀p o,H p=some o->p≠b:=λ p o hp z=>by subst z;rw[s1 _ _ hp]at hb;cases hb
     refine⟨v0,y,a,b,d0,d2,c,[],r',c',t',rfl,ne,(h0'.wk λ p o hp z=>⟨λ q=>by subst q;lia,ho p o hp⟩).up (s1.trans s2),r1.flat hf.2,Bw.of (h1.up (s1.trans s2)) hf.1 rfl,⟨rfl,qb (ps:=[]) aV rfl .nil rfl⟩,hF,λ H' ch C1 C3=>?_⟩;let H2:Hp:=λ p=>if p=b then none else H' p
     have eb:H2 b=none:=if_pos rfl;have en:∀{p},p≠b->H2 p=H' p:=λ{p} z=>if_neg z
     have C1':Bw C.K H2 a c':=Bw.of C1.2 C1.1 (en ne);have R2:=R.mut (H':=H2) (s':=.ow (az c')) ev1 a1 rfl la (λ p o z hp=>by
      rw[en (ho p o hp)];exact ch p o z (ho p o hp) ((s1.trans s2) _ _ hp)) ⟨C1'.rp (.inr la),λ _=>⟨a,rfl,la⟩⟩
     exact w Z H' lab (R2.up λ p o hp=>by
      by_cases z:p=b
      .rw[z,eb]at hp;cases hp
      .rw[en z]at hp;exact hp)
   .rw[if_neg hf]at w
    exact zAI w
  .exact zAI W
end
def aE6:List D->Rs D
 |[.dct ks vs]=>match gQ ks vs with
  |some ps=>.ok (.int ps.length)
  |none=>.st
 |_=>.st
def aMW:List V->Hp->VK->Prop:=λ xs H Q=>∃a kvs,xs=[.ref a]/\H a=some (.dK kvs)/\Q (.int kvs.length) H
def aHY{X:Cx}:cX X (.builtin "len") aMW:=by
 intro kX s Z H xs us Q I r h;obtain⟨a,kvs,rfl,ha,q⟩:=h;obtain⟨u,rfl,ru⟩:=vals1 r;cases ru;exact aMx I (.inl ha) λ t s' I'=>⟨.int kvs.length,H,I',⟨t,rfl⟩,q⟩
def aLp{K:zAA}:yz K aMW aE6:=by
 intro A xs ds H Q z r ez q;unfold aE6 at ez;split at ez
 .split at ez
  .rename_i ps hp
   cases ez;obtain⟨v,rfl,h⟩:=r.one_inv;obtain⟨a,kvs,rfl,g,_,_,hk⟩:=h.dctI_inv hp;have hl:kvs.length=ps.length:=by have:=congrArg zC5 hk;simpa using this
   exact⟨a,kvs,rfl,g,q _ H (aR.refl H) (by rw[hl];exact .int _)⟩
  .cases ez
 .cases ez
section
variable{C:Ct}{a:Expr}{m:Mode}{ga:En->Rs (List D)}{pos p:Pos}
def aK1(hm:C.mg "len"=none)(ha:SA C m [a] ga)(he:∀i,zAU [a] (C.X i).env=[(false,eval a (C.X i).env)]:=by intro _;rfl)(hg:∀i,Gl (C.X i) "len":=by intro _;rfl)(hv:zAz "len"=some (.builtin "len"):=by decide+kernel):SE C (some []) (.Call (.Name "len" p) [a] [] pos) (opA aE6 ga):=by
 obtain⟨t,h1,h2⟩:=ha;exact⟨_,λ i=>gG aHY (hg i) (by rw[(C.cx i).2.2.2.1];exact hm) hv (h1 i) (by decide) (by decide) (he i) rfl,pX aLp h2⟩
end
def aEg{P:zAV}{w:World}{K:zAA}{mg:Str->Option Value}{base:Heap}{k:Nat}{fn:Addr}{fd:zAg}{ps:List Str}:cA P w K mg base (CX1 P w) k fn fd ps (spB K λ _ _ _ _=>none):=by
 constructor
 .rintro vs H Q E ⟨_,_,_,_,_,_,_,_,_,_,_,_,_,_,_,_,_,h,_⟩
  cases h
 .intros
  rename_i h;obtain⟨_,_,_,_,_,_,_,_,_,_,_,_,_,_,_,_,_,h,_⟩:=h;cases h
section
variable{ρ:En}{i:Nat}{f g:En->Rs D}{fb gb:En->Rs Bool}{ga:En->Rs (List D)}{u v:En->Ou}{d:D}
@[simp] def varD_ap:bw i ρ=match ρ[i]? with
 |some (.sh d)=>.ok d
 |some (.nw d)=>.ok d
 |some (.ow d)=>.ok d
 |some (.oz d)=>.ok d
 |some (.o2 l)=>.ok (.lst (l.map .lst))
 |_=>.st:=aO rfl
@[simp] def uT:aC i ρ=match ρ[i]? with
 |some (.sh d)=>.ok d
 |some (.nw d)=>.ok d
 |_=>.st:=aO rfl
@[simp] def varO_ap:aA1 i ρ=match ρ[i]? with
 |some (.ow d)=>.ok d
 |some (.o2 l)=>.ok (.lst (l.map .lst))
 |_=>.st:=aO rfl
@[simp] def aKD:cD d ρ= .ok d:=aO rfl
@[simp] def iB:aG ρ= .ok []:=aO rfl
@[simp] def cI:aB f ga ρ=(f ρ).bd λ d=>(ga ρ).bd λ ds=>.ok (d::ds):=aO rfl
@[simp] def szl:zAQ=16777216:=zBe
@[simp] def zA:cF ga ρ=(ga ρ).bd λ ds=>if ds.length<=16777216 then .ok (.tup ds)else .st:=by unfold cF;rw[szl]
@[simp] def lstD_ap:pI ga ρ=(ga ρ).bd λ ds=>if ds.length<=16777216 then .ok (.lst ds)else .st:=by unfold pI;rw[szl]
@[simp] def mj:okD (.ok d)= .ok d:=aO rfl
@[simp] def pG:op2 fd f g ρ=(f ρ).bd λ x=>(g ρ).bd λ y=>okD (fd x y):=aO rfl
@[simp] def op1_ap:op1 fd f ρ=(f ρ).bd λ x=>okD (fd x):=aO rfl
@[simp] def m9:opA fd ga ρ=(ga ρ).bd λ x=>okD (fd x):=aO rfl
@[simp] def nH:aP F ga ρ=(ga ρ).bd F:=aO rfl
def aLs(d:D)(r:Rs D):Rs D:=match d with
 | .bl true=>r
 | .bl false=>.ok (.bl false)
 |_=>.st
@[simp] def aDt:aLs (.bl b) r=if b=true then r else .ok (.bl false):=by cases b<;>rfl
@[simp] def uf:kO f g ρ=(f ρ).bd λ d=>aLs d (g ρ):=aO rfl
@[simp] def notD_bl:aIe (.bl b)= .ok (.bl (!b)):=aO rfl
def chR(d:D)(r:Rs D):Rs D:=match d with
 | .bl true=>r
 | .bl false=>.ok (.bl false)
 |_=>.st
@[simp] def chR_bl:chR (.bl b) r=if b=true then r else .ok (.bl false):=by cases b<;>rfl
@[simp] def chD_ap:chD fd fd' f g h ρ=(f ρ).bd λ x=>(g ρ).bd λ y=>(okD (fd x y)).bd λ z=>chR z ((h ρ).bd λ w=>okD (fd' y w)):=aO rfl
@[simp] def truD_bl:aKJ (.bl b)= .ok b:=aO rfl
@[simp] def blD_bl:blD (.bl b)= .ok b:=aO rfl
@[simp] def rA:tst f ρ=(f ρ).bd aKJ:=aO rfl
@[simp] def aBt:tsb f ρ=(f ρ).bd blD:=aO rfl
@[simp] def qt:lV fb gb ρ=(fb ρ).bd λ k=>if k=true then gb ρ else .ok false:=aO rfl
@[simp] def m8:orT fb gb ρ=(fb ρ).bd λ k=>if k=true then .ok true else gb ρ:=aO rfl
@[simp] def nU:jc fb ρ=(fb ρ).bd λ k=>.ok (!k):=aO rfl
@[simp] def aN:ao u v ρ=(u ρ).sq v:=aO rfl
@[simp] def lG:retS f ρ=(f ρ).bo .rt:=aO rfl
@[simp] def dropS_ap:yf f ρ=(f ρ).bo λ _=>.nx ρ:=aO rfl
@[simp] def fW:ifS fb u v ρ=(fb ρ).bo λ k=>if k=true then u ρ else v ρ:=aO rfl
@[simp] def aCy:bU i f ρ=(f ρ).bo λ d=>.nx (ρ.set i (.sh d)):=aO rfl
@[simp] def setN_ap:aEI i f ρ=(f ρ).bo λ d=>.nx (ρ.set i (.nw d)):=aO rfl
@[simp] def aHq:pY i f ρ=(f ρ).bo λ d=>.nx (ρ.set i (.ow d)):=aO rfl
@[simp] def aCb:gnm i d ρ= .ok (ρ.set i (.sh d)):=aO rfl
@[simp] def gnil_nil:oA [] ρ= .ok ρ:=aO rfl
@[simp] def gcons_cons:cJ a b (d::ds) ρ=(a d ρ).bd (b ds):=aO rfl
@[simp] def gtup_tup:nC n b (.tup ds) ρ=if ds.length=n then b ds ρ else .st:=aO rfl
def nxO(r:Rs En):Ou:=match r with
 | .ok ρ=>.nx ρ
 |_=>.st
@[simp] def itD_tup:itD (.tup l)= .ok l:=aO rfl
@[simp] def itD_lst:itD (.lst l)= .ok l:=aO rfl
@[simp] def itrD_ap:fB f ρ=(f ρ).bd itD:=aO rfl
@[simp] def fL:jP ga a u ρ=(ga ρ).bo λ ds=>forL a u ds ρ:=aO rfl
noncomputable def Ou.tn(o:Ou)(k:En->Ou):Ou:=match o with
 | .nx ρ2=>k ρ2
 | .ct ρ2=>k ρ2
 | .bk ρ2=>.nx ρ2
 |o=>o
@[simp] def aMD:(Ou.nx ρ).tn k=k ρ:=aO rfl
def okE(r:Rs En)(k:En->Ou):Ou:=match r with
 | .ok ρ=>k ρ
 |_=>.st
@[simp] def zf:okE (.ok ρ) k=k ρ:=aO rfl
def nY:forL a u (d::ds) ρ=okE (a d ρ) λ ρ1=>(u ρ1).tn (forL a u ds):=by
 unfold forL;cases a d ρ with
 |ok ρ1=>simp only[zf];cases u ρ1<;>rfl
 |ex c=>rfl
 |st=>rfl
@[simp] def immD_ap:bJ f ρ=(f ρ).bd aJH:=aO rfl
@[simp] def rngA_ap:eZ r ga ρ=(ga ρ).bd r:=aO rfl
@[simp] def raiseS_ap:zX x ga ρ=(ga ρ).bo λ ds=>if ds.length<=16777216 then .ex x else .st:=by unfold zX;rw[szl]
@[simp] def aHf:gR ρ= .ok true:=aO rfl
end
section
variable{d e:D}{i j:Int}{l:List D}
@[simp] def gImm_int:aJH (.int i)= .ok (.int i):=aO rfl
@[simp] def addD_int:cL (.int i) (.int j)= .ok (.int (i+j)):=aO rfl
@[simp] def subD_int:xF (.int i) (.int j)= .ok (.int (i-j)):=aO rfl
def yV(h0:0<j)(h1:j<1073741824):wO (.int i) (.int j)= .ok (.int (i / j)):=by unfold wO i2;dsimp only;rw[if_pos (by simp[h0,h1])]
def my(h0:0<j):rU (.int i) (.int j)= .ok (.int (i%j)):=by unfold rU i2;dsimp only;rw[if_pos (by simp[h0])]
def zg(h0: -(2^64)<i)(h1:i<2^64):iI (.int i) (.int j)= .ok (.int (i*j)):=by unfold iI;dsimp only;rw[if_pos (by simp only[zFm,zA5,decide_eq_true_eq];exact .inl ⟨h0,h1⟩)]
def aG1(h0: -(2^64)<j)(h1:j<2^64):iI (.int i) (.int j)= .ok (.int (i*j)):=by unfold iI;dsimp only;rw[if_pos (by simp only[zFm,zA5,decide_eq_true_eq];exact .inr ⟨h0,h1⟩)]
@[simp] def aIj:ltD (.int i) (.int j)= .ok (.bl (decide (i<j))):=aO rfl
@[simp] def leD_int:leD (.int i) (.int j)= .ok (.bl (decide (i<=j))):=aO rfl
@[simp] def gtD_int:gtD (.int i) (.int j)= .ok (.bl (decide (j<i))):=aO rfl
@[simp] def geD_int:geD (.int i) (.int j)= .ok (.bl (decide (j<=i))):=aO rfl
def aIi(ns ms:List Int):ltD (.tup (ns.map .int)) (.tup (ms.map .int))= .ok (.bl (HT.lexLt ns ms)):=by
 unfold ltD ltT i2;simp only[cH]
@[simp] def lenD_tup:eV [.tup l]= .ok (.int l.length):=aO rfl
@[simp] def lenD_lst:eV [.lst l]= .ok (.int l.length):=aO rfl
@[simp] def lenD_scr:eV [.scr x]= .ok (.int x.length):=aO rfl
@[simp] def ur:fP [.lst l]= .ok (.tup l):=aO rfl
@[simp] def mmD_int:mmD f [.int i,.int j]= .ok (.int (f i j)):=aO rfl
@[simp] def ixD_tup:ixD (.tup l) (.int i)=atD l i:=aO rfl
@[simp] def ixD_lst:ixD (.lst l) (.int i)=atD l i:=aO rfl
@[simp] def ixD_scr:ixD (.scr x) (.int i)=atD (x.map .int) i:=aO rfl
def iD{k:Nat}(h:l[k]? =some d):atD l (k:Int)= .ok d:=by
 have hk:=(zAP.mp h).1;unfold atD atI ixN;rw[if_pos (by omega),if_pos (by omega)];simp[h]
def aLr(h0:0<=i)(h1:i<l.length):∃d,atD l i= .ok d/\d∈l/\l[i.toNat]? =some d:=by
 have hk:i.toNat<l.length:=by omega
 have e:=zAH hk;refine⟨_,?_,zF2 hk,e⟩
 have:=iD e
 rwa [zCV h0]at this
@[simp] def atD_0{r:List D}:atD (d::r) 0= .ok d:=iD (k:=0) rfl
@[simp] def atD_1{r:List D}:atD (d::e::r) 1= .ok e:=iD (k:=1) rfl
@[simp] def eqR_int:eqR n (.int i) (.int j)= .ok (.bl (if n then !(i==j)else i==j)):=aO rfl
def knd:D->Bool
 | .set _=>false
 | .scr _=>false
 | .fn _=>false
 | .itm _ _=>false
 | .itx _ _=>false
 |_=>true
def aAA(hT:T∈["bool","int","str","list","tuple","dict"])(h:knd d=true):lN T d= .ok (.bl (aIr (tyD d) T)):=by
 have ht:tyD d∈["NoneType","bool","int","str","list","tuple","dict"]:=by cases d<;>simp_all [tyD,knd]
 unfold lN lZ;cases e:aIr (tyD d) T<;>simp[ht,hT]
def aL6:D->Bool
 | .int _=>true
 | .bl _=>true
 |_=>false
def aMh:D->Bool
 | .bl _=>true
 |_=>false
def sI:D->Bool
 | .tup _=>true
 |_=>false
def aD7(h:knd d=true):lN "int" d= .ok (.bl (aL6 d)):=by
 rw[aAA (by simp) h];cases d<;>first|rfl|(simp[knd]at h)
def aBV(h:knd d=true):lN "bool" d= .ok (.bl (aMh d)):=by
 rw[aAA (by simp) h];cases d<;>first|rfl|(simp[knd]at h)
def sH(h:knd d=true):lN "tuple" d= .ok (.bl (sI d)):=by
 rw[aAA (by simp) h];cases d<;>first|rfl|(simp[knd]at h)
@[simp] def isi_tuple_tup:lN "tuple" (.tup l)= .ok (.bl true):=sH rfl
end
@[simp] def bx:fV n u ds=match u (aq n ds)with
 | .nx _=>.ok .non
 | .rt d=>.ok d
 | .ex c=>.ex c
 |_=>.st:=aO rfl
def gD(h0: -(2^62)<=j)(h1:j<2^62):gO [.int j]= .ok (cT 0 j):=by unfold gO;dsimp only;rw[if_pos ⟨h0,h1⟩]
def aDH(h0: -(2^62)<=i)(h1:i<2^62)(h2: -(2^62)<=j)(h3:j<2^62):zR [.int i,.int j]= .ok (cT i j):=by unfold zR;dsimp only;rw[if_pos ⟨⟨h0,h1⟩,h2,h3⟩]
def mz{lo hi:Int}:d∈cT lo hi↔∃k:Int,d= .int k/\lo<=k/\k<hi:=by
 unfold cT;rw[zAY];constructor
 .rintro⟨n,hn,rfl⟩
  have:=zBj.mp hn
  exact⟨lo+n,rfl,by omega,by omega⟩
 .rintro⟨k,rfl,h1,h2⟩
  exact⟨(k-lo).toNat,zBj.mpr (by omega),by congr 1;omega⟩
end VL
namespace VL.My
open PySem L2
def gk:En->Ou:=
  (retS (kO (op1 (lN "int") (aC 0)) (op1 aIe (op1 (lN "bool") (aC 0)))))
def jO:List D->Rs D:=fV 1 gk
def dY:En->Ou:=
  (ao (jP (eZ zR (aB (cD (.int 1)) (aB (opA eV (aB (aC 0) aG)) aG))) (gnm 1)
   (ifS (jc (tsb (op2 ltD (op2 ixD (aC 0) (op2 xF (aC 1) (cD (.int 1)))) (op2 ixD (aC 0) (aC 1)))))
    (retS (cD (.bl false)))
    Ou.nx))
  (retS (cD (.bl true))))
def fu:List D->Rs D:=fV 2 dY
def iu:En->Ou:=
  (ao (llS 1 (eZ gO (aB (op2 ixD (aC 0) (cD (.int 0))) aG)) [none] (gnm 0))
  (ao (jP (fB (op2 ixD (aC 0) (cD (.int 1)))) (nC 2 (cJ (gnm 2) (cJ (gnm 3) oA)))
   (nM 1 (aC 2) (bJ (aC 3))))
  (retS (aA1 1))))
def gw:List D->Rs D:=fV 4 iu
def cR:En->Ou:=
  (ao (ifS (tsb (op2 ltD (aC 1) (opA eV (aB (aC 0) aG))))
   (retS (bJ (op2 ixD (aC 0) (aC 1))))
   Ou.nx)
  (retS (cD (.int 0))))
def fH:List D->Rs D:=fV 2 cR
def fX:En->Ou:=
  (ao (ifS (tsb (op2 geD (aC 0) (op2 aKm (cD (.int 10)) (cD (.int 18)))))
   (ao (bU 3 (aC 0))
   (ao (jP (eZ gO (aB (aC 1) aG)) (gnm 4)
    (bU 3 (op2 wO (aC 3) (aC 2))))
   (retS (op2 rU (aC 3) (aC 2)))))
   Ou.nx)
  (ao (bU 5 (op2 rU (op2 iI (op2 cL (op2 cL (op2 rU (aC 0) (cD (.int 1000000007))) (op2 iI (cD (.int 1009)) (aC 1))) (cD (.int 17))) (cD (.int 69621))) (cD (.int 2147483647))))
  (ao (bU 5 (op2 rU (op2 cL (op2 cL (op2 iI (aC 5) (aC 5)) (op2 iI (cD (.int 40503)) (aC 1))) (cD (.int 5))) (cD (.int 2147483629))))
  (retS (op2 rU (op2 wO (op2 rU (op2 iI (aC 5) (cD (.int 48271))) (cD (.int 2147483647))) (cD (.int 32))) (aC 2))))))
def aW:List D->Rs D:=fV 6 fX
def fj:En->Ou:=
  (retS (kO (op1 (lN "int") (aC 0)) (op1 aIe (op1 (lN "bool") (aC 0)))))
def cP:List D->Rs D:=fV 1 fj
def lrE:En->Rs D:=op2 ltD (op2 ixD (aC 1) (op2 xF (aC 0) (cD (.int 1)))) (op2 ixD (aC 1) (aC 0))
def eG:En->Ou:=retS (opA (pU λ bs=>bs.all id) (aB (lcD (eZ zR (aB (cD (.int 1)) (aB (opA eV (aB (aC 0) aG)) aG))) [none,some 0] (gnm 0) gR lrE) aG))
def dC:List D->Rs D:=fV 1 eG
def lmI:En->Ou:=ifS (lV (tsb (op2 (eqR false) (aC 6) (aC 2))) (tsb (op2 (inR true) (aC 7) (aC 4)))) (ao (bU 8 (opA fP (aB (opA o7 (aB (op2 cL (aC 4) (cF (aB (aC 7) aG))) aG)) aG))) (ptS 3 (aC 8) (opA (mmD λ i j=>if j>i then j else i) (aB (aEi (bw 3) (aC 8) (cD (.int 0))) (aB (op2 cL (aC 5) (cD (.int 1))) aG))))) Ou.nx
abbrev g67:D->En->Rs En:=nC 2 (cJ (gnm 6) (cJ (gnm 7) oA))
abbrev g45:D->En->Rs En:=nC 2 (cJ (gnm 4) (cJ (gnm 5) oA))
def lmM:En->Ou:=jP (fB (op2 ixD (aC 0) (cD (.int 1)))) g67 lmI
def lmO:En->Ou:=ao (pY 3 (opA aCe (aB (aC 1) aG))) (ao (jP (aIq (aC 1)) g45 lmM) (aA0 3 (bU 1 (aC 3))))
def gj:En->Ou:=ao (bU 1 (aLg (aLk (cF aG) (cD (.int 0))))) (ao (jP (eZ gO (aB (op2 ixD (aC 0) (cD (.int 0))) aG)) (gnm 2) lmO) (retS (op1 aG0 (aC 1))))
def lW:List D->Rs D:=fV 9 gj
def il:En->Ou:=
  (retS (kO (aP jO (aB (aC 0) aG)) (chD leD leD (cD (.int 0)) (aC 0) (cD (.int 60)))))
def n6:List D->Rs D:=fV 1 il
def gm:En->Ou:=
  (retS (kO (aP jO (aB (aC 1) aG)) (chD leD ltD (cD (.int 0)) (aC 1) (aC 0))))
def fZ:List D->Rs D:=fV 2 gm
def gh:En->Ou:=
  (ao (pY 2 (pI aG))
  (ao (jP (eZ gO (aB (aC 1) aG)) (gnm 3)
   (aGm 2 (aP aW (aB (aC 0) (aB (op2 cL (cD (.int 100)) (aC 3)) (aB (op2 cL (aC 3) (cD (.int 1))) aG)))) (bJ (aC 3))))
  (retS (aA1 2))))
def fY:List D->Rs D:=fV 4 gh
def cB:En->Ou:=
  (ao (ifS (orT (jc (tst (op1 (lN "tuple") (aC 0)))) (jc (tst (opA (pU λ bs=>bs.all id) (aB (lcD (fB (aC 0)) [none,some 1] (gnm 0) gR (kO (aP cP (aB (aC 0) aG)) (chD leD ltD (cD (.int 0)) (aC 0) (aC 1)))) aG)))))
   (retS (cD (.bl false)))
   Ou.nx)
  (retS (aP dC (aB (aC 0) aG))))
def cC:List D->Rs D:=fV 2 cB
def cV:En->Ou:=
  (ao (ifS (orT (jc (tst (op1 (lN "tuple") (aC 0)))) (tsb (op2 (eqR true) (opA eV (aB (aC 0) aG)) (cD (.int 2)))))
   (retS (cD (.bl false)))
   Ou.nx)
  (retS (kO (opA (pU λ bs=>bs.all id) (aB (lcD (fB (aC 0)) [none,some 1] (gnm 0) gR (kO (aP cP (aB (aC 0) aG)) (chD leD ltD (cD (.int 0)) (aC 0) (aC 1)))) aG)) (op2 (eqR true) (op2 ixD (aC 0) (cD (.int 0))) (op2 ixD (aC 0) (cD (.int 1)))))))
def dZ:List D->Rs D:=fV 2 cV
def ipE:En->Ou:=ifS (orT (jc (tst (op1 (lN "tuple") (aC 1)))) (tsb (op2 (eqR true) (opA eV (aB (aC 1) aG)) (cD (.int 2))))) (retS (cD (.bl false))) Ou.nx
def ik:En->Ou:=ao ipE (retS (kO (aP fZ (aB (aC 0) (aB (op2 ixD (aC 1) (cD (.int 0))) aG))) (kO (aP fZ (aB (aC 0) (aB (op2 ixD (aC 1) (cD (.int 1))) aG))) (op2 (eqR true) (op2 ixD (aC 1) (cD (.int 0))) (op2 ixD (aC 1) (cD (.int 1)))))))
def kY:List D->Rs D:=fV 2 ik
def aI1:En->Ou:=ifS (orT (tsb (op2 ltD (aC 10) (uE 4))) (lV (tsb (op2 (eqR false) (aC 3) (cD (.int 6)))) (tsb (op2 (eqR false) (aC 8) (op2 cL (aC 9) (cD (.int 1)))))))
     (sY 6 (cF (aB (bJ (op2 ixD (aC 5) (aC 9))) (aB (bJ (op2 ixD (aC 5) (aC 8))) aG))))
     Ou.nx
def aI0:En->Ou:=ifS (orT (lV (tsb (op2 gtD (aC 3) (cD (.int 2)))) (lV (tsb (op2 (eqR true) (aC 3) (cD (.int 7)))) (tsb (op2 ltD (aP aW (aB (aC 0) (aB (op2 cL (aC 7) (cD (.int 50))) (aB (cD (.int 8)) aG)))) (op2 xF (uE 4) (cD (.int 1))))))) (lV (tsb (op2 (eqR false) (aC 3) (cD (.int 7)))) (tsb (op2 ltD (aC 10) (cD (.int 3))))))
     (sY 6 (cF (aB (bJ (op2 ixD (aC 5) (aC 8))) (aB (bJ (op2 ixD (aC 5) (aC 9))) aG))))
     Ou.nx
def aGO:En->Ou:=ao (bU 7 (op2 cL (aC 7) (cD (.int 1)))) (ao (bU 10 (aP aW (aB (aC 0) (aB (aC 7) (aB (cD (.int 8)) aG))))) (ao aI1 aI0))
def aDU:En->Ou:=jP (eZ gO (aB (aC 8) aG)) (gnm 9) aGO
def aDV:En->Ou:=ifS (lV (tsb (op2 (eqR false) (aC 3) (cD (.int 6)))) (tsb (op2 gtD (aC 2) (cD (.int 1)))))
   (sY 6 (cF (aB (bJ (op2 ixD (aC 5) (op2 xF (aC 2) (cD (.int 1))))) (aB (bJ (op2 ixD (aC 5) (cD (.int 0)))) aG))))
   Ou.nx
def dM:En->Ou:=ao (bU 2 (aP aW (aB (aC 0) (aB (cD (.int 0)) (aB (op2 cL (aC 1) (cD (.int 1))) aG)))))
  (ao (bU 3 (aP aW (aB (aC 0) (aB (cD (.int 1)) (aB (cD (.int 8)) aG)))))
  (ao (aEI 4 (op2 ixD (pI (aB (cD (.int 1)) (aB (cD (.int 2)) (aB (cD (.int 4)) (aB (cD (.int 2)) (aB (cD (.int 3)) (aB (cD (.int 6)) (aB (cD (.int 1)) (aB (cD (.int 3)) aG))))))))) (aC 3)))
  (ao (bU 5 (aP fY (aB (aC 0) (aB (aC 2) aG))))
  (ao (pY 6 (pI aG))
  (ao (bU 7 (cD (.int 2)))
  (ao (jP (eZ gO (aB (aC 2) aG)) (gnm 8) aDU)
  (ao aDV
  (retS (cF (aB (bJ (aC 2)) (aB (opA fP (aB (opA gB (aB (bw 6) aG)) aG)) aG)))))))))))
def fG:List D->Rs D:=fV 11 dM
def orB:En->Ou:=ifS (orT (tsb (op2 ltD (aP aW (aB (aC 0) (aB (aC 7) (aB (cD (.int 8)) aG)))) (uE 4))) (lV (tsb (op2 (eqR false) (aC 3) (cD (.int 5)))) (tsb (op2 (inR false) (aC 8) (cF (aB (op2 cL (op2 iI (cD (.int 2)) (aC 9)) (cD (.int 1))) (aB (op2 cL (op2 iI (cD (.int 2)) (aC 9)) (cD (.int 2))) aG)))))))
     (sY 6 (cF (aB (bJ (op2 ixD (aC 5) (aC 9))) (aB (bJ (op2 ixD (aC 5) (aC 8))) aG))))
     Ou.nx
def aGT:En->Ou:=ao (bU 7 (op2 cL (aC 7) (cD (.int 1)))) orB
def aDX:En->Ou:=jP (eZ gO (aB (aC 8) aG)) (gnm 9) aGT
def dJ:En->Ou:=ao (bU 2 (aP aW (aB (aC 0) (aB (cD (.int 0)) (aB (op2 cL (aC 1) (cD (.int 1))) aG)))))
  (ao (bU 3 (aP aW (aB (aC 0) (aB (cD (.int 1)) (aB (cD (.int 6)) aG)))))
  (ao (aEI 4 (op2 ixD (pI (aB (cD (.int 1)) (aB (cD (.int 2)) (aB (cD (.int 3)) (aB (cD (.int 5)) (aB (cD (.int 8)) (aB (cD (.int 0)) aG))))))) (aC 3)))
  (ao (bU 5 (aP fY (aB (aC 0) (aB (aC 2) aG))))
  (ao (pY 6 (pI aG))
  (ao (bU 7 (cD (.int 2)))
  (ao (jP (eZ gO (aB (aC 2) aG)) (gnm 8) aDX)
  (retS (cF (aB (bJ (aC 2)) (aB (opA fP (aB (opA mU (aB (bw 6) aG)) aG)) aG))))))))))
def fD:List D->Rs D:=fV 10 dJ
def cM:En->Ou:=
  (ao (ifS (orT (jc (tst (op1 (lN "tuple") (aC 1)))) (jc (tst (opA (pU λ bs=>bs.all id) (aB (lcD (fB (aC 1)) [none,some 0] (gnm 0) gR (kO (aP dZ (aB (aC 0) (aB (op2 ixD (aC 1) (cD (.int 0))) aG))) (op2 (inR false) (aC 0) (op2 ixD (aC 1) (cD (.int 1)))))) aG)))))
   (retS (cD (.bl false)))
   Ou.nx)
  (ao (ifS (orT (jc (tst (aP dC (aB (aC 1) aG)))) (tsb (op2 ltD (opA aBI (aB (opA aCA (aB (lcD (fB (aC 1)) [none,none] (nC 2 (cJ (gnm 0) (cJ (gnm 1) oA))) gR (bJ (aC 0))) aG)) aG)) (opA eV (aB (aC 1) aG)))))
   (retS (cD (.bl false)))
   Ou.nx)
  (retS (op2 (eqR false) (opA aBI (aB (opA aCA (aB (lcD (fB (aC 1)) [none,none] (nC 2 (cJ (gnm 0) (cJ (gnm 1) oA))) gR (bJ (aC 1))) aG)) aG)) (opA eV (aB (aC 1) aG))))))
def dH:List D->Rs D:=fV 2 cM
def cN:En->Ou:=
  (ao (ifS (orT (jc (tst (op1 (lN "tuple") (aC 1)))) (orT (tsb (op2 (eqR true) (opA eV (aB (aC 1) aG)) (cD (.int 2)))) (jc (tst (opA (pU λ bs=>bs.all id) (aB (lcD (fB (aC 1)) [none,some 0] (gnm 0) gR (aP cC (aB (aC 0) (aB (op2 ixD (aC 1) (cD (.int 0))) aG)))) aG))))))
   (retS (cD (.bl false)))
   Ou.nx)
  (retS (op2 (eqR false) (lcD (fB (op2 ixD (aC 0) (cD (.int 1)))) [none,some 1] (gnm 0) (lV (tsb (op2 (inR true) (op2 ixD (aC 0) (cD (.int 0))) (op2 ixD (aC 1) (cD (.int 0))))) (tsb (op2 (inR true) (op2 ixD (aC 0) (cD (.int 1))) (op2 ixD (aC 1) (cD (.int 1)))))) (bJ (aC 0))) (pI aG))))
def dI:List D->Rs D:=fV 2 cN
def bA:En->Ou:=
  (ao (ifS (jc (tst (op1 (lN "tuple") (aC 1))))
   (retS (cD (.bl false)))
   Ou.nx)
  (ao (jP (fB (aC 1)) (gnm 2)
   (ifS (jc (tst (aP kY (aB (aC 0) (aB (aC 2) aG)))))
    (retS (cD (.bl false)))
    Ou.nx))
  (retS (aP fu (aB (aC 1) aG)))))
def bO:List D->Rs D:=fV 3 bA
def eN:En->Ou:=
  (ao (ifS (orT (jc (tst (op1 (lN "tuple") (aC 0)))) (tsb (op2 (eqR true) (opA eV (aB (aC 0) aG)) (cD (.int 2)))))
   (retS (cD (.bl false)))
   Ou.nx)
  (retS (kO (aP n6 (aB (op2 ixD (aC 0) (cD (.int 0))) aG)) (aP bO (aB (op2 ixD (aC 0) (cD (.int 0))) (aB (op2 ixD (aC 0) (cD (.int 1))) aG))))))
def iV:List D->Rs D:=fV 1 eN
def cO:En->Ou:=
  (ifS (jc (tst (aP iV (aB (aC 0) aG))))
   (zX "NoOneWay" (aB (cD (.str "this is no one-way web")) aG))
   Ou.nx)
def bh:List D->Rs D:=fV 1 cO
def b8(R:FB):En->OB:=
  (mV (aHD (fB (op2 ixD (aC 0) (aC 2))) (gnm 4) (ifB (tsb (op2 (jz true) (aC 4) (bw 3))) (mV (pF 3 (aC 4) (cD (.bl true))) (ifC (tsb (op2 (jz true) (aC 4) (bw 1))) (nJ R (op2 sW (bw 1) (aC 4))) (mV (pF 1 (aC 4) (bJ (aC 2))) (xP (cD (.bl true)))))) .nx)) (xP (cD (.bl false))))
def bf:Nat->FB
 |0=>λ _ _ _ _=>none
 |n+1=>aF8 5 (b8 (bf n))
def gr:FB:=bf 64
def kE:En->Ou:=
  (ao (bU 1 (aP gw (aB (aC 0) aG)))
  (ao (pY 2 (cD (.dct [] [])))
  (ao (jP (eZ gO (aB (op2 ixD (aC 0) (cD (.int 0))) aG)) (gnm 3)
   (fbS 1 2 gr (aC 3)))
  (retS (aA1 2)))))
def cW:List D->Rs D:=fV 4 kE
def eF:En->Ou:=
  (ao (yf (aP bh (aB (aC 0) aG)))
  (retS (opA aE6 (aB (aP cW (aB (aC 0) aG)) aG))))
def dB:List D->Rs D:=fV 1 eF
def du:En->Ou:=
  (ao (yf (aP bh (aB (aC 0) aG)))
  (retS (opA fP (aB (opA mU (aB (lcD (aGh (aAE (aP cW (aB (aC 0) aG)))) [none,none] (nC 2 (cJ (gnm 0) (cJ (gnm 1) oA))) gR (cF (aB (bJ (aC 1)) (aB (bJ (aC 0)) aG)))) aG)) aG))))
def cj:List D->Rs D:=fV 1 du
def dw:En->Ou:=
  (ao (yf (aP bh (aB (aC 0) aG)))
  (ao (bU 1 (aP gw (aB (aC 0) aG)))
  (ao (bU 2 (aAE (aP cW (aB (aC 0) aG))))
  (ao (bU 3 (dcI (aCp (aC 2)) [none] (gnm 0) gR (bJ (aC 0)) (cD (.bl true))))
  (ao (pY 4 (lcD (eZ gO (aB (op2 ixD (aC 0) (cD (.int 0))) aG)) [none,some 3] (gnm 0) (tsb (op2 (jz true) (aC 0) (aC 1))) (bJ (aC 0))))
  (ao (pY 5 (cD (.dct [] [])))
  (ao (bU 6 (cD (.int 0)))
  (ao (ul (tsb (op2 ltD (aC 6) (opA eV (aB (bw 4) aG))))
   (ao (bU 7 (bJ (op2 ixD (bw 4) (aC 6))))
   (ao (jP (fB (op2 ixD (aC 1) (aC 7))) (gnm 8)
    (ifS (tsb (op2 (jz true) (aC 8) (bw 5)))
     (ao (pdS 5 (aC 8) (cD (.bl true)))
     (sY 4 (op2 aC6 (aC 2) (aC 8))))
     Ou.nx))
   (aJX (i2 (λ _ _=>true) λ a b=>.int (a+b)) 6 (cD (.int 1))))))
  (retS (cF (aB (opA fP (aB (lcD (eZ gO (aB (op2 ixD (aC 0) (cD (.int 0))) aG)) [none,some 4] (gnm 0) (tsb (op2 (inR true) (aC 0) (aC 1))) (bJ (aC 0))) aG)) (aB (opA fP (aB (opA vA (aB (bw 5) aG)) aG)) aG))))))))))))
def cu:List D->Rs D:=fV 9 dw
def lwR:En->Rs (List D):=eZ gO (aB (opA (mmD λ i j=>if j>i then j else i) (aB (cD (.int 1)) (aB (opA (mmD λ i j=>if j<i then j else i) (aB (opA eV (aB (aC 0) aG)) (aB (cD (.int 8)) aG))) aG))) aG)
def lwC:En->Ou:=bU 2 (aP fH (aB (aC 0) (aB (aC 1) aG)))
def lwL:En->Rs D:=pI (aB (aP fG (aB (aC 2) (aB (cD (.int 7)) aG))) (aB (aP fD (aB (aC 2) (aB (cD (.int 6)) aG))) aG))
def lw4:En->Ou:=bU 4 (aP lW (aB (aC 3) aG))
def lw5:En->Ou:=bU 5 (aP dB (aB (aC 3) aG))
def lw6:En->Ou:=bU 6 (aP cj (aB (aC 3) aG))
def lw7:En->Ou:=bU 7 (aP cu (aB (aC 3) aG))
def lw8:En->Ou:=ifS (orT (jc (tst (aP cP (aB (aC 5) aG)))) (orT (tsb (op2 (eqR true) (aC 5) (aC 4))) (orT (jc (tst (aP dH (aB (aC 3) (aB (aC 6) aG))))) (tsb (op2 (eqR true) (opA eV (aB (aC 6) aG)) (aC 4)))))) (retS (cD (.bl false))) Ou.nx
def lw9:En->Ou:=ifS (orT (jc (tst (aP dI (aB (aC 3) (aB (aC 7) aG))))) (tsb (op2 (eqR true) (op2 cL (opA eV (aB (op2 ixD (aC 7) (cD (.int 0))) aG)) (opA eV (aB (op2 ixD (aC 7) (cD (.int 1))) aG))) (aC 4)))) (retS (cD (.bl false))) Ou.nx
def lwB:En->Ou:=ao lw4 (ao lw5 (ao lw6 (ao lw7 (ao lw8 lw9))))
def lwK:En->Ou:=ao lwC (jP (fB lwL) (gnm 3) lwB)
def lwZ:En->Rs D:=kO (op2 (eqR false) (aP dB (aB (cF (aB (cD (.int 0)) (aB (cF aG) aG))) aG)) (cD (.int 0))) (kO (op2 (eqR false) (aP cj (aB (cF (aB (cD (.int 3)) (aB (cF aG) aG))) aG)) (cF aG)) (op2 (eqR false) (aP cu (aB (cF (aB (cD (.int 3)) (aB (cF aG) aG))) aG)) (cF (aB (cF aG) (aB (cF aG) aG)))))
def tY:En->Ou:=ao (jP lwR (gnm 1) lwK) (retS lwZ)
def aH9:List D->Rs D:=fV 8 tY
theorem yg(hb:0<b)(hb2:b<1073741824):∀(ds:List D) (x:Int) (s:Slot),(∀d∈ds,∃n:Int,d= .int n)->
  ∃y s',forL (gnm 4) (bU 3 (op2 wO (aC 3) (aC 2))) ds [.sh (.int c),.sh (.int k),.sh (.int b),.sh (.int x),s,.no]= .nx [.sh (.int c),.sh (.int k),.sh (.int b),.sh (.int y),s',.no]
 |[],x,s,_=>⟨x,s,rfl⟩
 |d::ds,x,s,h=>by
  have ih:=yg hb hb2 (c:=c) (k:=k) ds (x / b) (.sh d) λ e he=>h e (zAL _ he)
  rw[nY];simp[yV hb hb2];exact ih
def qZ(hk0:0<=k)(hk1:k<2^40)(hb:0<b)(hb2:b<1073741824):∃r:Int,aW [.int c,.int k,.int b]= .ok (.int r)/\0<=r/\r<b:=by
 have hp:aKm (.int 10) (.int 18)= .ok (.int 1000000000000000000):=rfl;by_cases hc:(1000000000000000000:Int)<=c
 .have hr:=gD (j:=k) (by lia) (by lia)
  obtain⟨y,s',e⟩:=yg hb hb2 (c:=c) (k:=k) (cT 0 k) c .no λ d hd=>let⟨n,e,_⟩:=mz.mp hd;⟨n,e⟩
  refine⟨y%b,?_,zDk _ (by lia),zCz _ hb⟩;simp[aW,fX,aq,hp,hc,hr,e,my hb]
 .have s1:∀z:Int,0<=z%2147483647/\z%2147483647<2147483647:=λ z=>⟨zDk _ (by decide),zCz _ (by decide)⟩
  have s2:∀z:Int,0<=z%2147483629/\z%2147483629<2147483629:=λ z=>⟨zDk _ (by decide),zCz _ (by decide)⟩
  have m1:∀z,iI (.int 1009) (.int z)= .ok (.int (1009*z)):=λ z=>zg (by decide) (by decide)
  have m2:∀z,iI (.int z) (.int 69621)= .ok (.int (z*69621)):=λ z=>aG1 (by decide) (by decide)
  have m3:∀z,iI (.int 40503) (.int z)= .ok (.int (40503*z)):=λ z=>zg (by decide) (by decide)
  have m4:∀z,iI (.int z) (.int 48271)= .ok (.int (z*48271)):=λ z=>aG1 (by decide) (by decide)
  have m5:∀z:Int,iI (.int (z%2147483647)) (.int (z%2147483647))= .ok (.int (z%2147483647*(z%2147483647))):=λ z=>zg (by have:=s1 z;lia) (by have:=s1 z;lia)
  have d1:∀z,rU (.int z) (.int 1000000007)= .ok (.int (z%1000000007)):=λ z=>my (by decide)
  have d2:∀z,rU (.int z) (.int 2147483647)= .ok (.int (z%2147483647)):=λ z=>my (by decide)
  have d3:∀z,rU (.int z) (.int 2147483629)= .ok (.int (z%2147483629)):=λ z=>my (by decide)
  have d4:∀z,wO (.int z) (.int 32)= .ok (.int (z / 32)):=λ z=>yV (by decide) (by decide)
  have d5:∀z,rU (.int z) (.int b)= .ok (.int (z%b)):=λ z=>my hb
  simp[aW,fX,aq,hp,hc,m1,m2,m3,m4,m5,d1,d2,d3,d4,d5,-Int.emod_emod_of_dvd];exact⟨zDk _ (by lia),zCz _ hb⟩
def uc(hk0:0<=k)(hk1:k<2^40)(hb:0<b)(hb2:b<1073741824):∃r:Nat,aW [.int c,.int k,.int b]= .ok (.int r)/\(r:Int)<b:=by
 obtain⟨r,e,h0,h1⟩:=qZ (c:=c) hk0 hk1 hb hb2;exact⟨r.toNat,by rw[zCV h0];exact e,by lia⟩
def aJU(h:0<=k):∃c:Int,fH [.scr ns,.int k]= .ok (.int c):=by
 by_cases hk:k<ns.length
 .obtain⟨d,e,hm,_⟩:=aLr (l:=ns.map .int) (i:=k) h (by simpa using hk)
  obtain⟨c,_,rfl⟩:=zAY.mp hm;exact⟨c,by simp[fH,cR,aq,hk,e]⟩
 .exact⟨0,by simp[fH,cR,aq,hk]⟩
mutual
def pln:D->Bool
 | .tup l=>z6 l
 | .lst l=>z6 l
 | .set _=>false
 | .scr _=>false
 | .fn _=>false
 | .itm _ _=>false
 | .itx _ _=>false
 |_=>true
def z6:List D->Bool
 |[]=>true
 |d::r=>pln d&&z6 r
end
def uX(h:pln d=true):knd d=true:=by cases d<;>first|rfl|(simp[pln]at h)
theorem aAy:∀{l:List D} {d:D},z6 l=true->d∈l->pln d=true
 |x::r,d,h,hm=>by
  simp only[z6,zA5]at h;rcases zAT.mp hm with rfl|hm
  .exact h.1
  .exact aAy h.2 hm
def o5:D->Bool
 | .int _=>true
 |_=>false
def aD0:D->Bool
 | .int i=>decide (0<=i)&&decide (i<=60)
 |_=>false
def g8(m:Int):D->Bool
 | .int i=>decide (0<=i)&&decide (i<m)
 |_=>false
def tQ(h:knd d=true):jO [d]= .ok (.bl (o5 d)):=by
 simp[jO,gk,aq,aD7 h,aBV h];cases d<;>rfl
def aC8(h:knd d=true):n6 [d]= .ok (.bl (aD0 d)):=by
 simp[n6,il,aq,tQ h];cases d<;>simp[o5,aD0]
 rename_i i;by_cases h0:0<=i<;>simp[h0]
def tR(h:knd d=true):fZ [.int m,d]= .ok (.bl (g8 m d)):=by
 simp[fZ,gm,aq,tQ h];cases d<;>simp[o5,g8]
 rename_i i;by_cases h0:0<=i<;>simp[h0]
def jE(m:Int):D->Bool
 | .tup [.int a,.int b]=>decide (0<=a)&&decide (a<m)&&decide (0<=b)&&decide (b<m)&& !(a==b)
 |_=>false
def yI(h:g8 m d=true):∃i:Int,d= .int i/\0<=i/\i<m:=by
 cases d with
 |int i=>simp[g8]at h;exact⟨i,rfl,h.1,h.2⟩
 |_=>simp[g8]at h
def aFE(h:sI d=true):∃l,d= .tup l:=by cases d<;>first|exact⟨_,rfl⟩|(cases h)
def aKH(h:l.length=2):∃x y,l=[x,y]:=by
 match l,h with
 |[x,y],_=>exact⟨x,y,rfl⟩
def aGM(h:sI d=false):jE m d=false:=by cases d<;>first|rfl|(cases h)
def aEZ(h:l.length≠2):jE m (.tup l)=false:=by
 match l,h with
 |[],_=>rfl
 |[x],_=>cases x<;>rfl
 |[x,y],h=>exact absurd rfl h
 |x::y::z::r,_=>cases x<;>first|rfl|(cases y<;>rfl)
def aIZ(h:g8 m x=false):jE m (.tup [x,y])=false:=by
 cases x with
 |int i=>
  cases y with
  |int j=>
   show((((decide (0<=i)&&decide (i<m))&&decide (0<=j))&&decide (j<m))&& !(i==j))=false
   rw[show(decide (0<=i)&&decide (i<m))=false from h];rfl
  |_=>rfl
 |_=>rfl
def aIY(h:g8 m y=false):jE m (.tup [.int i,y])=false:=by
 cases y with
 |int j=>
  show((((decide (0<=i)&&decide (i<m))&&decide (0<=j))&&decide (j<m))&& !(i==j))=false
  rw[zGJ (decide (0<=i)&&decide (i<m)),show(decide (0<=j)&&decide (j<m))=false from h,zGK];rfl
 |_=>rfl
def aGL(h1:g8 m (.int i)=true)(h2:g8 m (.int j)=true):jE m (.tup [.int i,.int j])= !(i==j):=by
 show((((decide (0<=i)&&decide (i<m))&&decide (0<=j))&&decide (j<m))&& !(i==j))= !(i==j)
 rw[zGJ (decide (0<=i)&&decide (i<m)),show(decide (0<=j)&&decide (j<m))=true from h2,show(decide (0<=i)&&decide (i<m))=true from h1];rfl
def aL9(hk:knd d=true)(h:sI d=false):ipE [s,.sh d]= .rt (.bl false):=by simp[ipE,sH hk,h]
def aIt(h:l.length≠2):ipE [s,.sh (.tup l)]= .rt (.bl false):=by
 have:¬((l.length:Int)=2):=by omega
 simp[ipE,this]
def aIs:ipE [s,.sh (.tup [x,y])]= .nx [s,.sh (.tup [x,y])]:=by simp[ipE]
def aC7(h:pln d=true):kY [.int m,d]= .ok (.bl (jE m d)):=by
 have st:aq 2 [.int m,d]=[.sh (.int m),.sh d]:=rfl;simp only[kY,ik,bx,st];cases ht:sI d with
 |false=>rw[aN,aL9 (uX h) ht,aGM ht];rfl
 |true=>
  obtain⟨l,rfl⟩:=aFE ht;by_cases hl:l.length=2
  .obtain⟨x,y,rfl⟩:=aKH hl
   simp only[pln,z6,zA5]at h;have hx:=tR (m:=m) (uX h.1);have hy:=tR (m:=m) (uX h.2.1);have ex:aP fZ (aB (aC 0) (aB (op2 ixD (aC 1) (cD (.int 0))) aG)) [.sh (.int m),.sh (.tup [x,y])]= .ok (.bl (g8 m x)):=by simp[hx]
   have ey:aP fZ (aB (aC 0) (aB (op2 ixD (aC 1) (cD (.int 1))) aG)) [.sh (.int m),.sh (.tup [x,y])]= .ok (.bl (g8 m y)):=by simp[hy]
   rw[aN,aIs,bB,lG,uf,ex,aU,aDt,uf,ey,aU,aDt];cases c1:g8 m x with
   |false=>rw[aIZ c1];rfl
   |true=>
    obtain⟨i,rfl,_,_⟩:=yI c1;cases c2:g8 m y with
    |false=>rw[aIY c2];rfl
    |true=>
     obtain⟨j,rfl,_,_⟩:=yI c2;rw[aGL c1 c2];rfl
  .rw[aN,aIt hl,aEZ hl];rfl
def pD(p:Int×Int):D:=.tup [.int p.1,.int p.2]
def ltP(p q:Int×Int):Bool:=HT.lexLt [p.1,p.2] [q.1,q.2]
def rO:gX->Bool
 |[]=>true
 |[_]=>true
 |p::q::r=>ltP p q&&rO (q::r)
def aG3(p q:Int×Int):ltD (pD p) (pD q)= .ok (.bl (ltP p q)):=aIi [p.1,p.2] [q.1,q.2]
theorem sO:∀(ds:List D) (ok:Nat->Bool) (I:En->Prop) (ρ:En),I ρ->(∀(i:Nat) d ρ,ds[i]? =some d->I ρ->okE (a d ρ) u= .rt r/\ok i=false\/∃ρ',okE (a d ρ) u= .nx ρ'/\I ρ'/\ok i=true)->
  (forL a u ds ρ= .rt r/\∃i,i<ds.length/\ok i=false)\/(∃ρ',forL a u ds ρ= .nx ρ'/\I ρ'/\∀i,i<ds.length->ok i=true)
 |[],ok,I,ρ,h,_=>.inr ⟨ρ,rfl,h,λ i hi=>absurd hi (zFz _)⟩
 |d::ds,ok,I,ρ,h,hs=>by
  rw[nY];rcases hs 0 d ρ rfl h with ⟨e,o⟩|⟨ρ',e,h',o⟩
  .left
   refine⟨?_,0,by simp,o⟩;cases ea:a d ρ with
   |ok ρ1=>rw[ea]at e;simp at e ⊢;rw[e];rfl
   |ex c=>rw[ea]at e;cases e
   |st=>rw[ea]at e;cases e
  .have ih:=sO ds (λ i=>ok (i+1)) I ρ' h' λ i d2 ρ2 e2 h2=>hs (i+1) d2 ρ2 (by simpa using e2) h2
   have e3:okE (a d ρ) (λ ρ1=>(u ρ1).tn (forL a u ds))=forL a u ds ρ':=by
    cases ea:a d ρ with
    |ok ρ1=>rw[ea]at e;simp at e ⊢;rw[e];rfl
    |ex c=>rw[ea]at e;cases e
    |st=>rw[ea]at e;cases e
   rw[e3];rcases ih with ⟨e4,i,hi,o4⟩|⟨ρ4,e4,h4,o4⟩
   .exact .inl ⟨e4,i+1,by simpa using hi,o4⟩
   .refine .inr ⟨ρ4,e4,h4,λ i hi=>?_⟩
    cases i with
    |zero=>exact o
    |succ i=>exact o4 i (by simpa using hi)
def jk{i:Nat}(h:(cT lo hi)[i]? =some d):d= .int (lo+i)/\lo+i<hi:=by
 unfold cT at h;rw[zAO]at h;by_cases hi2:i<(hi-lo).toNat
 .rw[zDi hi2]at h
  cases h;exact⟨rfl,by omega⟩
 .rw[zE8 (by simpa using hi2)]at h
  cases h
def iG:(cT lo hi).length=(hi-lo).toNat:=by unfold cT;simp
section
variable{α:Type}{f:α->D}{lt:α->α->Bool}
def nj(lt:α->α->Bool):List α->Bool
 |[]=>true
 |[_]=>true
 |p::q::r=>lt p q&&nj lt (q::r)
theorem m6:∀{ps:List α},nj lt ps=true↔∀(i:Nat) (p q:α),ps[i]? =some p->ps[i+1]? =some q->lt p q=true
 |[]=>by simp[nj]
 |[x]=>by
  simp only[nj,true_iff];intro i p q _ h2;simp at h2
 |x::y::r=>by
  have ih:=m6 (ps:=y::r);unfold nj;rw[zA5,ih];constructor
  .rintro⟨h1,h2⟩ i p q e1 e2
   cases i with
   |zero=>simp at e1 e2;subst e1 e2;exact h1
   |succ i=>exact h2 i p q (by simpa using e1) (by simpa using e2)
  .intro h
   exact⟨h 0 x y rfl rfl,λ i p q e1 e2=>h (i+1) p q (by simpa using e1) (by simpa using e2)⟩
def aBW(hlt:∀a b,ltD (f a) (f b)= .ok (.bl (lt a b)))(hl:ps.length<=100000):fu [.tup (ps.map f)]= .ok (.bl (nj lt ps)):=by
 have hr:=aDH (i:=1) (j:=(ps.length:Int)) (by decide) (by decide) (by omega) (by omega);have kK:(cT 1 (ps.length:Int)).length=ps.length-1:=by rw[iG];omega
 have L:=sO (a:=gnm 1) (u:=ifS (jc (tsb (op2 ltD (op2 ixD (aC 0) (op2 xF (aC 1) (cD (.int 1)))) (op2 ixD (aC 0) (aC 1))))) (retS (cD (.bl false))) Ou.nx) (r:=.bl false)
  (cT 1 (ps.length:Int)) (λ i=>match ps[i]?,ps[i+1]? with|some p,some q=>lt p q|_,_=>true) (λ ρ=>∃s,ρ=[.sh (.tup (ps.map f)),s]) [.sh (.tup (ps.map f)),.no] ⟨_,rfl⟩ (by
   rintro i d ρ hd ⟨s,rfl⟩;obtain⟨rfl,h2⟩:=jk hd;have e1:ps[i]? =some ps[i]:=zAH (by omega);have e2:ps[i+1]? =some ps[i+1]:=zAH (by omega);have a1:atD (ps.map f) (1+(i:Int)-1)= .ok (f ps[i]):=by
    rw[show(1+(i:Int)-1)=(i:Int)by omega];exact iD (by rw[zAO,e1];rfl)
   have a2:atD (ps.map f) (1+(i:Int))= .ok (f ps[i+1]):=by
    rw[show(1+(i:Int))=((i+1:Nat):Int)by omega];exact iD (by rw[zAO,e2];rfl)
   simp only[e1,e2];cases c:lt ps[i] ps[i+1]with
   |true=>right;exact⟨_,by simp[a1,a2,hlt,c];rfl,⟨_,rfl⟩,rfl⟩
   |false=>left;exact⟨by simp[a1,a2,hlt,c],rfl⟩)
 have st:aq 2 [.tup (ps.map f)]=[.sh (.tup (ps.map f)),.no]:=rfl;rcases L with ⟨e,i,hi,o⟩|⟨ρ',e,⟨s,rfl⟩,o⟩
 .have:nj lt ps=false:=by
   cases c:nj lt ps with
   |false=>rfl
   |true=>
    rw[kK]at hi;have z:=m6.mp c i ps[i] ps[i+1] (zAH (by omega)) (zAH (by omega));rw[zAH (by omega),zAH (by omega)]at o;simp only at o;rw[z]at o;cases o
  rw[this];simp only[fu,dY,bx,st];simp[hr,e]
 .have:nj lt ps=true:=m6.mpr λ i p q e1 e2=>by
   have h2:=(zAP.mp e2).1
   have:=o i (by rw[kK];omega)
   rw[e1,e2]at this;exact this
  rw[this];simp only[fu,dY,bx,st];simp[hr,e]
end
theorem zT:∀ps:gX,rO ps=nj ltP ps
 |[]=>rfl
 |[_]=>rfl
 |p::q::r=>by unfold rO nj;rw[zT (q::r)]
def aAB(hl:ps.length<=100000):fu [.tup (ps.map pD)]= .ok (.bl (rO ps)):=by
 rw[zT];exact aBW aG3 hl
def ltI(a b:Int):Bool:=decide (a<b)
def aIC:rO ps=true↔∀(i:Nat) (p q:Int×Int),ps[i]? =some p->ps[i+1]? =some q->ltP p q=true:=by rw[zT];exact m6
def aIO:D->Int×Int
 | .tup [.int a,.int b]=>(a,b)
 |_=>(0,0)
def aCP(h:jE m d=true):∃a b:Int,d= .tup [.int a,.int b]/\0<=a/\a<m/\0<=b/\b<m/\a≠b:=by
 unfold jE at h;split at h
 .rename_i a b
  simp at h;exact⟨a,b,rfl,h.1.1.1.1,h.1.1.1.2,h.1.1.2,h.1.2,h.2⟩
 .cases h
theorem aJr:∀{ts:List D},ts.all (jE m)=true->(ts.map aIO).map pD=ts
 |[],_=>rfl
 |t::ts,h=>by
  rw[zFB,zA5]at h;obtain⟨a,b,rfl,_⟩:=aCP h.1;simp only[zAD];rw[aJr h.2];rfl
def rpB(m:Int):D->Bool
 | .tup ts=>ts.all (jE m)&&rO (ts.map aIO)
 |_=>false
def aKX:D->Bool
 | .tup l=>decide (l.length<=100000)
 |_=>true
def oF(h:pln d=true)(hs:aKX d=true):bO [.int m,d]= .ok (.bl (rpB m d)):=by
 cases d with
 |tup ts=>
  have hp:z6 ts=true:=by simpa[pln]using h
  have hl:ts.length<=100000:=by simpa[aKX]using hs
  have L:=sO (a:=gnm 2) (u:=ifS (jc (tst (aP kY (aB (aC 0) (aB (aC 2) aG))))) (retS (cD (.bl false))) Ou.nx) (r:=.bl false)
   ts (λ i=>match ts[i]? with|some t=>jE m t|none=>true) (λ ρ=>∃s,ρ=[.sh (.int m),.sh (.tup ts),s]) [.sh (.int m),.sh (.tup ts),.no] ⟨_,rfl⟩ (by
    rintro i d ρ hd ⟨s,rfl⟩;have e:=aC7 (m:=m) (aAy hp (zAt hd));simp only[hd];cases c:jE m d with
    |true=>right;exact⟨_,by simp[e,c];rfl,⟨_,rfl⟩,rfl⟩
    |false=>left;exact⟨by simp[e,c],rfl⟩)
  have st:aq 3 [.int m,.tup ts]=[.sh (.int m),.sh (.tup ts),.no]:=rfl;rcases L with ⟨e,i,hi,o⟩|⟨ρ',e,⟨s,rfl⟩,o⟩
  .have:ts.all (jE m)=false:=by
    rw[List.all_eq_false];rw[zAH hi]at o;exact⟨ts[i],zF2 hi,by simpa using o⟩
   simp only[bO,bA,bx,st];simp[e,rpB,this]
  .have:ts.all (jE m)=true:=by
    rw[zAv];intro t ht;obtain⟨i,hi,rfl⟩:=List.getElem_of_mem ht
    have:=o i hi
    rw[zAH hi]at this;exact this
   have er:=aAB (ps:=ts.map aIO) (by rw[zAE];exact hl);rw[aJr this]at er;simp only[bO,bA,bx,st];simp[e,rpB,this,er]
 |_=>simp[bO,bA,aq,sH (uX h),sI,rpB]
theorem cU:∀(ds:List D) (P:Nat->En->Prop) (ρ:En),P 0 ρ->(∀(i:Nat) d ρ,ds[i]? =some d->P i ρ->∃ρ',okE (a d ρ) u= .nx ρ'/\P (i+1) ρ')->∃ρ',forL a u ds ρ= .nx ρ'/\P ds.length ρ'
 |[],P,ρ,h,_=>⟨ρ,rfl,h⟩
 |d::ds,P,ρ,h,hs=>by
  obtain⟨ρ1,e,h1⟩:=hs 0 d ρ rfl h;obtain⟨ρ2,e2,h2⟩:=cU (a:=a) (u:=u) ds (λ i=>P (i+1)) ρ1 h1 λ i d2 ρ2 e2 h2=>hs (i+1) d2 ρ2 (by simpa using e2) h2
  refine⟨ρ2,?_,by simpa using h2⟩;rw[nY];cases ea:a d ρ with
  |ok ρ0=>rw[ea]at e;simp at e ⊢;rw[e];exact e2
  |ex c=>rw[ea]at e;cases e
  |st=>rw[ea]at e;cases e
def wI(l:List α)(i:Int)(y:α):(fC l i y).Perm (y::l):=by
 unfold fC;generalize (if i<0 then(i+(l.length:Int)).toNat else min i.toNat l.length)=k
 have:(l.take k++y::l.drop k).Perm (y::(l.take k++l.drop k)):=zHz
 rwa [zDT]at this
def aEd(f:α->β)(l:List α)(i:Int)(y:α):fC (l.map f) i (f y)=(fC l i y).map f:=by
 unfold fC;rw[zAE,zA7,zAD,zI7,zI6]
structure aH8(n:Nat)(os:List Int):Prop where
 len:os.length=n
 nd:os.Nodup
 lo:∀x∈os,0<=x/\x<n
def tO{n:Nat}(h1:n<=60):∃os,fY [.int c,.int n]= .ok (.lst (os.map .int))/\aH8 n os:=by
 have hr:=gD (j:=(n:Int)) (by lia) (by lia);have kK:(cT 0 (n:Int)).length=n:=by rw[iG];lia
 obtain⟨ρ',e,s,os,rfl,ho⟩:=cU (a:=gnm 3) (u:=aGm 2 (aP aW (aB (aC 0) (aB (op2 cL (cD (.int 100)) (aC 3)) (aB (op2 cL (aC 3) (cD (.int 1))) aG)))) (bJ (aC 3))) (cT 0 (n:Int))
  (λ i ρ=>∃s os,ρ=[.sh (.int c),.sh (.int n),.ow (.lst (os.map .int)),s]/\aH8 i os) [.sh (.int c),.sh (.int n),.ow (.lst []),.no] ⟨.no,[],rfl,rfl,by simp,λ x hx=>by simp at hx⟩ (by
   rintro i d ρ hd ⟨s,os,rfl,ho⟩;obtain⟨rfl,h2⟩:=jk hd;obtain⟨r,er,r0,r1⟩:=qZ (c:=c) (k:=100+(i:Int)) (b:=(i:Int)+1) (by lia) (by lia) (by lia) (by lia);have hz: -9223372036854775808<=r/\r<9223372036854775808/\os.length<16777216:=⟨by lia,by lia,by rw[ho.len];lia⟩;refine⟨[.sh (.int c),.sh (.int n),.ow (.lst ((fC os r (0+(i:Int))).map .int)),.sh (.int (0+(i:Int)))],?_,_,_,rfl,?_,?_,λ x hx=>?_⟩
   .rw[<-aEd]
    simp only[aCb,zf,aGm];simp[er,hz]
   .rw[yP,ho.len]
   .refine(wI os r _).nodup_iff.mpr (zAw.mpr ⟨λ hm=>?_,ho.nd⟩)
    have:=ho.lo _ hm
    lia
   .rcases zAT.mp ((wI os r _).mem_iff.mp hx)with q|q
    .lia
    .have:=ho.lo x q
     lia)
 rw[kK]at ho;refine⟨os,?_,ho⟩;simp[fY,gh,aq,hr,e]
def aEv:gX:=(zAm 8).flatMap λ(a:Nat)=>((zAm 8).filter λ b=>b !=a).map λ(b:Nat)=>((a:Int),(b:Int))
def aH3(h0:0<=p.1)(h1:p.1<8)(h2:0<=p.2)(h3:p.2<8)(h4:p.1≠p.2):p∈aEv:=by
 unfold aEv;rw[zF4];refine⟨p.1.toNat,by simp;lia,?_⟩;rw[zAY];refine⟨p.2.toNat,?_,?_⟩
 .rw[zAq]
  refine⟨by simp;lia,?_⟩
  have:p.2.toNat≠p.1.toNat:=by lia
  simpa using this
 .have e1:((p.1.toNat:Nat):Int)=p.1:=zCV h0
  have e2:((p.2.toNat:Nat):Int)=p.2:=zCV h2;rw[e1,e2]
def pl(p:Int×Int):List Int:=[p.1,p.2]
def hp(p:Int×Int):Int:=hsh (pl p)
def aDc:List Int:=[(-1950498447580522560),7204814214171964562,(-4734289103435588629),1773351652666409796,(-3119722376306286570),(-1010439003188656273),(-5903513032161352639),(-5164621852614943976),(-3550055125485641917),(-1440771752368011620),(-6333845781340707986),173794974761290439,(-4719279054211405927),(-2609995681093775630),4685526799349444076,6794810172467074373,8409376899596376432,3516302870623680066,(-8422800446983873125),(-6313517073866242828),7240152970870612422,2248468952609198383,8756109708711196808,3863035679738500442,1079245023883434373,7586885779985432798,(-4352217537622120393),4803095124130366729,(-6348126469135965181),159514286966033244,(-9131917124991031250),(-2624276368889032825),(-1009709641759730766),1099573731357899531,(-3793500297614796835),(-3054609118068388172),3453031638033610253,(-5838399773923454241),669240982178544184,(-4223833046794152182),(-7007623702649218251),(-499982946547219826),(-5491666964808633865),8062003079928221385,(-3877100237679331806),2630540518422666619,(-6660890893534397875),(-153250137432399450),1461316589696902609,4358481687155754187,(-7580621630451799004),5973048414285056246,8082331787402686543,3189257758429990177,(-8749845559177563014),(-2242204803075564589)]
set_option maxRecDepth 1000000 in
def aBi:aEv.map hp=aDc:=by decide+kernel
set_option maxRecDepth 1000000 in
def aCa:aDc.Nodup:=by decide+kernel
def yx:(aEv.map hp).Nodup/\aEv.length=56:=⟨by rw[aBi];exact aCa,by rw[<-zAE (f:=hp),aBi];rfl⟩
theorem iZ:∀{L:List α},(L.map f).Nodup->∀x∈L,∀y∈L,f x=f y->x=y
 |a::L,h,x,hx,y,hy,e=>by
  rw[zAD,zAw]at h;rcases zAT.mp hx with q|q
  .rcases zAT.mp hy with z|z
   .rw[q,z]
   .subst q
    exact absurd (zAY.mpr ⟨y,z,e.symm⟩) h.1
  .rcases zAT.mp hy with z|z
   .subst z
    exact absurd (zAY.mpr ⟨x,q,e⟩) h.1
   .exact iZ h.2 x q y z e
theorem iY:∀{l:List α},l.Nodup->(∀x∈l,∀y∈l,f x=f y->x=y)->(l.map f).Nodup
 |[],_,_=>by simp
 |a::l,h,hi=>by
  rw[zAw]at h;rw[zAD,zAw];refine⟨λ hm=>?_,iY h.2 λ x hx y hy e=>hi x (zAL _ hx) y (zAL _ hy) e⟩;obtain⟨x,hx,e⟩:=zAY.mp hm
  have:=hi x (zAL _ hx) a zAK e
  subst this;exact h.1 hx
structure Ow(n:Int)(ps:gX):Prop where
 n0:0<=n
 n1:n<=60
 len:ps.length<=3600
 pr:∀p∈ps,0<=p.1/\p.1<n/\0<=p.2/\p.2<n/\p.1≠p.2
 ris:rO ps=true
def owD(n:Int)(ps:gX):D:=.tup [.int n,.tup (ps.map pD)]
def aCs(p:Int×Int):tupI (pl p)=pD p:=rfl
def aGC(h:pl p=pl q):p=q:=by
 unfold pl at h;injection h with h1 h2
 injection h2 with h2 _
 exact zH1 h1 h2
def oH(nd:ps.Nodup):∃qs:gX,tG (ps.map pl)=qs.map pl/\qs.Perm ps/\rO qs=true:=by
 obtain⟨qs,q1,q2⟩:=lJ (f:=pl) (o6 (ps.map pl)) rfl;refine⟨qs,q2,q1,aIC.mpr λ i p q e1 e2=>?_⟩;have hr:=mR (ps.map pl);rw[q2]at hr;have hnd:qs.Nodup:=q1.nodup_iff.mpr nd;have h1:=(zAP.mp e1).1;have h2:=(zAP.mp e2).1;have f1:(qs.map pl)[i]'(by simpa using h1)=pl p:=by
  rw[zCj,(zAP.mp e1).2]
 have f2:(qs.map pl)[i+1]'(by simpa using h2)=pl q:=by
  rw[zCj,(zAP.mp e2).2]
 have z:=zDz.mp hr i (i+1) (by simpa using h1) (by simpa using h2) (by lia);rw[f1,f2]at z;have hne:p≠q:=λ e=>by
  subst e
  have:=(zCc h1 hnd).mp (e1.trans e2.symm)
  lia
 show HT.lexLt (pl p) (pl q)=true;cases c:HT.lexLt (pl p) (pl q)with
 |true=>rfl
 |false=>exact absurd (aGC (vf _ _ c z)) hne
def xq(ps:gX):mL (ps.map pD)=some (ps.map pl):=by
 have:=uq (nss:=ps.map pl) λ ns h=>by
  obtain⟨p,_,rfl⟩:=zAY.mp h;simp[pl]
 rw[zAN]at this;exact this
def ar(os:List Int)(q:Nat×Nat):Int×Int:=(os.getD q.1 0,os.getD q.2 0)
def yJ{os:List Int}{k:Nat}(h:k<os.length):atD (os.map D.int) (k:Int)= .ok (.int (os.getD k 0)):=iD (by rw[zAO,zAH h];simp[h])
def ug{n:Nat}(hn:n<=60){ip:List (Nat×Nat)}(nd:ip.Nodup)(h:∀q∈ip,q.1<n/\q.2<n):ip.length<=3600:=by
 have:=sub_len (l':=(zAm 60).flatMap λ a=>(zAm 60).map λ b=>(a,b)) nd λ q hq=>by
  rw[zF4]
  have:=h q hq
  exact⟨q.1,by simp;omega,zAY.mpr ⟨q.2,by simp;omega,rfl⟩⟩
 refine zAn this ?_;rw[List.length_flatMap];simp only[zAE,zEJ];decide
def Ow.rp{n:Int}{ps:gX}(h:Ow n ps):rpB n (.tup (ps.map pD))=true:=by
 have e:(ps.map pD).map aIO=ps:=by rw[zAN];exact(zBg λ p _=>rfl).trans (List.map_id ps)
 unfold rpB;dsimp only;rw[e,h.ris,zEO,zAv];intro d hd;obtain⟨p,hp,rfl⟩:=zAY.mp hd;obtain⟨a,b,c,d,e⟩:=h.pr p hp;simp[pD,jE,a,b,c,d,e]
theorem aDR:∀ps:gX,z6 (ps.map pD)=true
 |[]=>rfl
 |p::ps=>by simp only[zAD,z6,aDR ps,zEO];rfl
def xV{n:Int}{ps:gX}(h:Ow n ps):iV [owD n ps]= .ok (.bl true):=by
 have e1:=aC8 (d:=.int n) rfl;have e2:=oF (m:=n) (d:=.tup (ps.map pD)) (by simpa[pln]using aDR ps) (by have:=h.len;simp[aKX];lia);rw[h.rp]at e2;have e3:aD0 (.int n)=true:=by simp[aD0,h.n0,h.n1]
 rw[e3]at e1;simp[iV,eN,owD,aq,e1,e2]
def gn{n:Int}{ps:gX}(h:Ow n ps):bh [owD n ps]= .ok .non:=by
 have:=xV h
 simp[bh,cO,aq,this]
theorem aBa:∀ns:List Int,dO (ns.map .int)=0/\au (ns.map .int)=true
 |[]=>⟨rfl,rfl⟩
 |n::ns=>by
  obtain⟨h1,h2⟩:=aBa ns;simp[dO,sX,au,aa,h1,h2]
theorem yj:∀ps:gX,dO (ps.map pD)<=1/\au (ps.map pD)=true
 |[]=>⟨by simp[dO],rfl⟩
 |p::ps=>by
  obtain⟨h1,h2⟩:=yj ps;simp[dO,sX,au,aa,h2,pD,h1]
def aD8(neg:Bool)(y:Int)(ns:List Int):inR neg (.int y) (.lst (ns.map .int))= .ok (.bl (if neg then !decide (y∈ns)else decide (y∈ns))):=by
 obtain⟨h1,h2⟩:=aBa ns;have e:inD (.int y) (ns.map .int)=decide (y∈ns):=by
  unfold inD;rw[zE6];simp[zCI,eqD]
 unfold inR;dsimp only;rw[h1,h2,e];rfl
def aGo(neg:Bool)(q:Int×Int)(ps:gX):inR neg (pD q) (.tup (ps.map pD))= .ok (.bl (if neg then !decide (q∈ps)else decide (q∈ps))):=by
 obtain⟨h1,h2⟩:=yj ps;have e:inD (pD q) (ps.map pD)=decide (q∈ps):=by
  unfold inD;rw[zE6];simp only[zIl,zCI,zHa,decide_eq_true_eq];constructor
  .rintro⟨p,hp,h⟩
   simp[pD,eqD,qW]at h
   have:p=q:=zH1 h.1 h.2
   exact this▸hp
  .intro h
   exact⟨q,h,by simp[pD,eqD,qW]⟩
 unfold inR;dsimp only;have h3:decide (dO (ps.map pD)<=60)=true:=by simp;lia
 have h4:aa (pD q)=true:=rfl;rw[h2,e,h3,h4];rfl
theorem aD2{ρ:En}{fg:D->En->Rs En}{fe:En->Rs D}{g:D->D}:∀(ds:List D),(∀d∈ds,∃ρ1,fg d ρ= .ok ρ1/\fe ρ1= .ok (g d))->lcL ρ fg gR fe ds= .ok (ds.map g)
 |[],_=>rfl
 |d::ds,h=>by
  obtain⟨ρ1,e1,e2⟩:=h d zAK;have ih:=aD2 ds λ e he=>h e (zAL _ he)
  unfold lcL;rw[e1,aU,aHf,aU,if_pos rfl,e2,aU,ih,aU];rfl
def lM{d:D}(h:knd d=true):cP [d]= .ok (.bl (o5 d)):=by
 simp[cP,fj,aq,aD7 h,aBV h];cases d<;>rfl
def aAP{α:Type}(f:α->Bool)(l:List α):boolsOf (l.map λ x=>D.bl (f x))=some (l.map f):=by
 have:=uB (l.map f)
 rwa [zAN]at this
def aBh{α:Type}(f:α->Bool)(l:List α):pU (λ bs=>bs.all id) [.lst (l.map λ x=>D.bl (f x))]= .ok (.bl (l.all f)):=by
 unfold pU;dsimp only;rw[aAP];dsimp only;rw[zFP];rfl
theorem qI{α:Type}{ρ:En}{fg:D->En->Rs En}{ft:En->Rs Bool}{fe:En->Rs D}{f g:α->D}{t:α->Bool}:∀(l:List α),(∀x∈l,∃ρ1,fg (f x) ρ= .ok ρ1/\ft ρ1= .ok (t x)/\fe ρ1= .ok (g x))->lcL ρ fg ft fe (l.map f)= .ok ((l.filter t).map g)
 |[],_=>rfl
 |x::l,h=>by
  obtain⟨ρ1,e1,e2,e3⟩:=h x zAK;have ih:=qI l λ y hy=>h y (zAL _ hy)
  rw[zAD];unfold lcL;rw[e1,aU,e2,aU,e3,aU,ih,aU,zF1];cases t x<;>rfl
def intOf:D->Int
 | .int i=>i
 |_=>0
def qJ(z:α){ps:List α}(hlt:∀a b,ltD (f a) (f b)= .ok (.bl (lt a b)))(hl:ps.length<=100000):dC [.tup (ps.map f)]= .ok (.bl (nj lt ps)):=by
 have st:aq 1 [.tup (ps.map f)]=[.sh (.tup (ps.map f))]:=rfl;have hr:=aDH (i:=1) (j:=(ps.length:Int)) (by decide) (by decide) (by lia) (by lia);have hc:lcD (eZ zR (aB (cD (.int 1)) (aB (opA eV (aB (aC 0) aG)) aG))) [none,some 0] (gnm 0) gR lrE [.sh (.tup (ps.map f))]= .ok (.lst ((cT 1 (ps.length:Int)).map λ k=>.bl (lt (ps.getD ((intOf k).toNat-1) z) (ps.getD (intOf k).toNat z)))):=by
  have hi:eZ zR (aB (cD (.int 1)) (aB (opA eV (aB (aC 0) aG)) aG)) (shE [.sh (.tup (ps.map f))])= .ok (cT 1 (ps.length:Int)):=by simp[shE,aA4,hr]
  have hm:=aD2 (ρ:=stE [none,some 0] (shE [.sh (.tup (ps.map f))])) (fg:=gnm 0) (fe:=lrE) (g:=λ k=>.bl (lt (ps.getD ((intOf k).toNat-1) z) (ps.getD (intOf k).toNat z))) (cT 1 (ps.length:Int)) λ d hd=>⟨_,rfl,by
   obtain⟨k,rfl,k0,k1⟩:=mz.mp hd;show lrE [.sh (.int k),.sh (.tup (ps.map f))]= .ok (.bl (lt (ps.getD (k.toNat-1) z) (ps.getD k.toNat z)));have l1:k.toNat-1<ps.length:=by lia
   have l2:k.toNat<ps.length:=by lia
   have e1:atD (ps.map f) (k-1)= .ok (f (ps.getD (k.toNat-1) z)):=by
    rw[show k-1=((k.toNat-1:Nat):Int)by lia];exact iD (by rw[zAO,zAH l1,zA8,zAH l1];rfl)
   have e2:atD (ps.map f) k= .ok (f (ps.getD k.toNat z)):=by
    have:=iD (l:=ps.map f) (k:=k.toNat) (d:=f (ps.getD k.toNat z)) (by rw[zAO,zAH l2,zA8,zAH l2];rfl)
    rwa [zCV (by lia)]at this
   unfold lrE;have v1:op2 ixD (aC 1) (op2 xF (aC 0) (cD (.int 1))) [.sh (.int k),.sh (.tup (ps.map f))]= .ok (f (ps.getD (k.toNat-1) z)):=by
    rw[pG,uT];show okD (atD (ps.map f) (k-1))=_;rw[e1];rfl
   have v2:op2 ixD (aC 1) (aC 0) [.sh (.int k),.sh (.tup (ps.map f))]= .ok (f (ps.getD k.toNat z)):=by
    rw[pG,uT,uT];show okD (atD (ps.map f) k)=_;rw[e2];rfl
   rw[pG,v1,aU,v2,aU,hlt,mj]⟩
  unfold lcD;rw[hi,aU,if_pos (by rw[iG,szl];lia),hm]
 have ha:opA (pU λ bs=>bs.all id) (aB (lcD (eZ zR (aB (cD (.int 1)) (aB (opA eV (aB (aC 0) aG)) aG))) [none,some 0] (gnm 0) gR lrE) aG) [.sh (.tup (ps.map f))]= .ok (.bl (nj lt ps)):=by
  rw[m9,cI,hc,aU,iB,aU,aU,aBh,mj];refine congrArg (λ b=>Rs.ok (D.bl b)) ?_;rw[zE6,m6,zAv];constructor
  .intro h i p q e1 e2
   have k2:=(zAP.mp e2).1
   have:=h (.int ((i+1:Nat):Int)) (mz.mpr ⟨_,rfl,by lia,by lia⟩)
   have z1:lt (ps.getD (((i+1:Nat):Int).toNat-1) z) (ps.getD ((i+1:Nat):Int).toNat z)=true:=this;rw[zCP,Nat.add_sub_cancel,zA8,zA8,e1,e2]at z1;exact z1
  .intro h d hd
   obtain⟨k,rfl,k0,k1⟩:=mz.mp hd;have l1:k.toNat-1<ps.length:=by lia
   have l2:k.toNat-1+1<ps.length:=by lia
   show lt (ps.getD (k.toNat-1) z) (ps.getD k.toNat z)=true;have l3:k.toNat<ps.length:=by lia
   have:=h (k.toNat-1) ps[k.toNat-1] ps[k.toNat] (zAH l1) (by rw[show k.toNat-1+1=k.toNat by lia];exact zAH l3)
   rw[zA8,zA8,zAH l1,zAH l3];exact this
 simp only[dC,eG,bx,st];rw[lG,ha,bL]
def zq(hl:ps.length<=100000):dC [.tup (ps.map .int)]= .ok (.bl (nj ltI ps)):=qJ 0 (λ a b=>by rw[aIj];rfl) hl
def jd(h1:fi (shE ρ)= .ok ds)(h2:ds.length<16777216)(h3:lcL (stE js (shE ρ)) fg ft fe ds= .ok out):lcD fi js fg ft fe ρ= .ok (.lst out):=by
 unfold lcD;rw[h1,aU,if_pos (by rw[szl];exact h2),h3]
def nA{α:Type}{f g:α->D}(l:List α)(h:∀x∈l,∃ρ1,fg (f x) ρ= .ok ρ1/\fe ρ1= .ok (g x)):lcL ρ fg gR fe (l.map f)= .ok (l.map g):=by
 have:=qI (ρ:=ρ) (fg:=fg) (ft:=gR) (fe:=fe) (f:=f) (g:=g) (t:=λ _=>true) l λ x hx=>by
  obtain⟨ρ1,h1,h2⟩:=h x hx;exact⟨ρ1,h1,rfl,h2⟩
 rwa [zHJ.mpr λ _ _=>rfl]at this
def aAT{α:Type}{f:α->Bool}{l:List α}(h:fe ρ= .ok (.lst (l.map λ x=>.bl (f x)))):opA (pU λ bs=>bs.all id) (aB fe aG) ρ= .ok (.bl (l.all f)):=by
 rw[m9,cI,h,aU,iB,aU,aU,aBh,mj]
def qM(neg:Bool)(y:Int)(ns:List Int):inR neg (.int y) (.tup (ns.map .int))= .ok (.bl (if neg then !decide (y∈ns)else decide (y∈ns))):=aD8 neg y ns
theorem aHR:∀(l acc:gV),(acc++l).Nodup->l.foldl (λ acc x=>if x∈acc then acc else acc++[x]) acc=acc++l
 |[],acc,_=>by simp
 |x::l,acc,nd=>by
  rw[zBN,if_neg λ h=>(zAa.mp nd).2.2 x h x zAK rfl,aHR l _ (by rw[zBO];exact nd),zBO];rfl
def aA8{L ps:gX}(hL:(L.map hp).Nodup)(nd:ps.Nodup)(hin:∀p∈ps,p∈L)(kK:ps.length<64):∃qs:gX,gB [.lst (ps.map pD)]= .ok (.lst (qs.map pD))/\qs.Perm ps/\rO qs=true:=by
 obtain⟨qs,q1,q2,q3⟩:=oH nd;have hb:aJB (ps.map pl)=true:=by
  unfold aJB;rw[zAv];intro a ha;rw[zAv];intro b hb;obtain⟨p,hp1,rfl⟩:=zAY.mp ha;obtain⟨q,hq1,rfl⟩:=zAY.mp hb;by_cases e:hsh (pl p)=hsh (pl q)
  .have:=iZ (f:=hp) hL p (hin p hp1) q (hin q hq1) e
   subst this;simp
  .have:(hsh (pl p)!=hsh (pl q))=true:=by simpa using e
   rw[this,Bool.or_true]
 have hdd:ddT (ps.map pl)=ps.map pl:=aHR _ [] (by rw[zEa];exact iY nd λ x _ y _ e=>aGC e);refine⟨qs,?_,q2,q3⟩;show iz 64 (ps.map pD)=_;unfold iz;rw[xq];dsimp only;rw[hdd,if_pos ⟨by rw[zAE];exact kK,hb⟩,q1,zAN];exact congrArg (λ l=>Rs.ok (D.lst l)) (zBg λ p _=>aCs p)
def uz{ps:gX}(nd:ps.Nodup)(h8:∀p∈ps,0<=p.1/\p.1<8/\0<=p.2/\p.2<8/\p.1≠p.2):∃qs:gX,gB [.lst (ps.map pD)]= .ok (.lst (qs.map pD))/\qs.Perm ps/\rO qs=true:=by
 have hin:∀p∈ps,p∈aEv:=λ p hp=>by
  obtain⟨a,b,c,d,e⟩:=h8 p hp;exact aH3 a b c d e
 have kK:=sub_len nd hin;rw[yx.2]at kK;exact aA8 yx.1 nd hin (by lia)
abbrev owE(c most:Int)(n kd:Nat)(t:Int)(os:List Int)(ip:List (Nat×Nat))(sp:Int)(s8 s9 s10:Slot):En:=
 [.sh (.int c),.sh (.int most),.sh (.int n),.sh (.int kd),.nw (.int t),.sh (.lst (os.map .int)),.ow (.lst ((ip.map (ar os)).map pD)),.sh (.int sp),s8,s9,s10]
def aCQ{c most t sp:Int}{n kd a b:Nat}{os:List Int}{ip:List (Nat×Nat)}{s8 s9 s10:Slot}{f g:En->Rs D}(hz:ip.length<16777216)(ha:a<os.length)(hb:b<os.length)
  (h1:f (owE c most n kd t os ip sp s8 s9 s10)= .ok (.int a))(h2:g (owE c most n kd t os ip sp s8 s9 s10)= .ok (.int b)):
  sY 6 (cF (aB (bJ (op2 ixD (aC 5) f)) (aB (bJ (op2 ixD (aC 5) g)) aG))) (owE c most n kd t os ip sp s8 s9 s10)= .nx (owE c most n kd t os (ip++[(a,b)]) sp s8 s9 s10):=by
 simp[sY,h1,h2,yJ ha,yJ hb,hz,ar,pD]
structure Ips(n kd j i:Nat)(ip:List (Nat×Nat)):Prop where
 nd:ip.Nodup
 ok:∀q∈ip,q.1≠q.2/\q.1<n/\q.2<n/\((q.1<j/\q.2<j)\/(q.1=j/\q.2<i)\/(q.2=j/\q.1<i))/\(kd=6->q.1<q.2)
def aGN{c most t:Int}{n kd j:Nat}{os:List Int}(hn:n<=60)(hj:j<n)(ho:aH8 n os)(ht:kd=6->t=1){ip:List (Nat×Nat)}{sp:Int}{s9 s10:Slot}(h0:0<=sp)(h1:sp<=2+60*j)(hip:Ips n kd j 0 ip):
  ∃ip' sp' s9' s10',forL (gnm 9) aGO (cT 0 (j:Int)) (owE c most n kd t os ip sp (.sh (.int j)) s9 s10)= .nx (owE c most n kd t os ip' sp' (.sh (.int j)) s9' s10')/\0<=sp'/\sp'<=2+60*(j+1)/\Ips n kd (j+1) 0 ip':=by
 have kK:(cT 0 (j:Int)).length=j:=by rw[iG];omega
 obtain⟨ρ',e,ip',sp',s9',s10',rfl,q0,q1,q2⟩:=cU (a:=gnm 9) (u:=aGO) (cT 0 (j:Int))
  (λ i ρ=>∃ip sp s9 s10,ρ=owE c most n kd t os ip sp (.sh (.int j)) s9 s10/\0<=sp/\sp<=2+60*j+i/\Ips n kd j i ip) (owE c most n kd t os ip sp (.sh (.int j)) s9 s10) ⟨ip,sp,s9,s10,rfl,h0,by omega,hip⟩ (by
   rintro i d ρ hd ⟨ip,sp,s9,s10,rfl,p0,p1,p2⟩;obtain⟨rfl,hlt⟩:=jk hd;have hij:i<j:=by omega
   obtain⟨h,eh,hh0,hh1⟩:=qZ (c:=c) (k:=sp+1) (b:=8) (by omega) (by omega) (by decide) (by decide);obtain⟨g,eg,hg0,hg1⟩:=qZ (c:=c) (k:=sp+1+50) (b:=8) (by omega) (by omega) (by decide) (by decide);have hzl:=ug hn p2.nd λ q hq=>⟨(p2.ok q hq).2.1,(p2.ok q hq).2.2.1⟩
   have hi':i<os.length:=by rw[ho.len];omega
   have hj':j<os.length:=by rw[ho.len];omega
   have st1:∃ip1,aI1 (owE c most n kd t os ip (sp+1) (.sh (.int j)) (.sh (.int i)) (.sh (.int h)))= .nx (owE c most n kd t os ip1 (sp+1) (.sh (.int j)) (.sh (.int i)) (.sh (.int h)))/\(ip1=ip\/ip1=ip++[(i,j)]):=by
    have hc:(orT (tsb (op2 ltD (aC 10) (uE 4))) (lV (tsb (op2 (eqR false) (aC 3) (cD (.int 6)))) (tsb (op2 (eqR false) (aC 8) (op2 cL (aC 9) (cD (.int 1))))))) (owE c most n kd t os ip (sp+1) (.sh (.int j)) (.sh (.int i)) (.sh (.int h)))= .ok (decide (h<t)||((kd:Int)==6&&(j:Int)==(i:Int)+1)):=by
     have eA:tsb (op2 ltD (aC 10) (uE 4)) (owE c most n kd t os ip (sp+1) (.sh (.int j)) (.sh (.int i)) (.sh (.int h)))= .ok (decide (h<t)):=rfl;have eB:tsb (op2 (eqR false) (aC 3) (cD (.int 6))) (owE c most n kd t os ip (sp+1) (.sh (.int j)) (.sh (.int i)) (.sh (.int h)))= .ok ((kd:Int)==6):=rfl;have eC:tsb (op2 (eqR false) (aC 8) (op2 cL (aC 9) (cD (.int 1)))) (owE c most n kd t os ip (sp+1) (.sh (.int j)) (.sh (.int i)) (.sh (.int h)))= .ok ((j:Int)==(i:Int)+1):=rfl;rw[m8,eA,qt,eB,eC];cases decide (h<t)<;>cases (kd:Int)==6<;>rfl
    cases hb:(decide (h<t)||((kd:Int)==6&&(j:Int)==(i:Int)+1))with
    |true=>
     refine⟨_,?_,.inr rfl⟩;rw[hb]at hc;simp only[aI1,fW,hc,bL,if_pos];exact aCQ (by omega) hi' hj' (by simp) (by simp)
    |false=>
     refine⟨_,?_,.inl rfl⟩;rw[hb]at hc;simp only[aI1,fW,hc,bL];rfl
   obtain⟨ip1,e1,c1⟩:=st1;have st2:∃ip2,aI0 (owE c most n kd t os ip1 (sp+1) (.sh (.int j)) (.sh (.int i)) (.sh (.int h)))= .nx (owE c most n kd t os ip2 (sp+1) (.sh (.int j)) (.sh (.int i)) (.sh (.int h)))/\(ip2=ip1\/(ip2=ip1++[(j,i)]/\kd≠6)):=by
    have hl1:ip1.length<16777216:=by rcases c1 with q|q<;>rw[q]<;>first|omega|(simp;omega)
    have hc:(orT (lV (tsb (op2 gtD (aC 3) (cD (.int 2)))) (lV (tsb (op2 (eqR true) (aC 3) (cD (.int 7)))) (tsb (op2 ltD (aP aW (aB (aC 0) (aB (op2 cL (aC 7) (cD (.int 50))) (aB (cD (.int 8)) aG)))) (op2 xF (uE 4) (cD (.int 1))))))) (lV (tsb (op2 (eqR false) (aC 3) (cD (.int 7)))) (tsb (op2 ltD (aC 10) (cD (.int 3)))))) (owE c most n kd t os ip1 (sp+1) (.sh (.int j)) (.sh (.int i)) (.sh (.int h)))
      = .ok (decide (2<(kd:Int))&& !((kd:Int)==7)&&decide (g<t-1)||((kd:Int)==7&&decide (h<3))):=by
     have eA:tsb (op2 gtD (aC 3) (cD (.int 2))) (owE c most n kd t os ip1 (sp+1) (.sh (.int j)) (.sh (.int i)) (.sh (.int h)))= .ok (decide (2<(kd:Int))):=rfl;have eB:tsb (op2 (eqR true) (aC 3) (cD (.int 7))) (owE c most n kd t os ip1 (sp+1) (.sh (.int j)) (.sh (.int i)) (.sh (.int h)))= .ok (!((kd:Int)==7)):=rfl;have eC:tsb (op2 ltD (aP aW (aB (aC 0) (aB (op2 cL (aC 7) (cD (.int 50))) (aB (cD (.int 8)) aG)))) (op2 xF (uE 4) (cD (.int 1)))) (owE c most n kd t os ip1 (sp+1) (.sh (.int j)) (.sh (.int i)) (.sh (.int h)))= .ok (decide (g<t-1)):=by
      have e0:aB (aC 0) (aB (op2 cL (aC 7) (cD (.int 50))) (aB (cD (.int 8)) aG)) (owE c most n kd t os ip1 (sp+1) (.sh (.int j)) (.sh (.int i)) (.sh (.int h)))= .ok [.int c,.int (sp+1+50),.int 8]:=rfl;rw[aBt,pG,nH,e0,aU,eg];rfl
     have eD:tsb (op2 (eqR false) (aC 3) (cD (.int 7))) (owE c most n kd t os ip1 (sp+1) (.sh (.int j)) (.sh (.int i)) (.sh (.int h)))= .ok ((kd:Int)==7):=rfl;have eE:tsb (op2 ltD (aC 10) (cD (.int 3))) (owE c most n kd t os ip1 (sp+1) (.sh (.int j)) (.sh (.int i)) (.sh (.int h)))= .ok (decide (h<3)):=rfl;rw[m8,qt,eA,qt,eB,eC,qt,eD,eE];cases decide (2<(kd:Int))<;>cases (kd:Int)==7<;>cases decide (g<t-1)<;>rfl
    cases hb:(decide (2<(kd:Int))&& !((kd:Int)==7)&&decide (g<t-1)||((kd:Int)==7&&decide (h<3)))with
    |true=>
     refine⟨_,?_,.inr ⟨rfl,λ k6=>?_⟩⟩
     .rw[hb]at hc
      simp only[aI0,fW,hc,bL,if_pos];exact aCQ hl1 hj' hi' (by simp) (by simp)
     .have:=ht k6
      subst k6;simp at hb;omega
    |false=>
     refine⟨_,?_,.inl rfl⟩;rw[hb]at hc;simp only[aI0,fW,hc,bL];rfl
   obtain⟨ip2,e2,c2⟩:=st2;refine⟨_,?_,ip2,sp+1,.sh (.int i),.sh (.int h),rfl,by omega,by omega,?_⟩
   .have s7:bU 7 (op2 cL (aC 7) (cD (.int 1))) (owE c most n kd t os ip sp (.sh (.int j)) (.sh (.int i)) s10)= .nx (owE c most n kd t os ip (sp+1) (.sh (.int j)) (.sh (.int i)) s10):=by first|rfl|simp
    have s11:bU 10 (aP aW (aB (aC 0) (aB (aC 7) (aB (cD (.int 8)) aG)))) (owE c most n kd t os ip (sp+1) (.sh (.int j)) (.sh (.int i)) s10)= .nx (owE c most n kd t os ip (sp+1) (.sh (.int j)) (.sh (.int i)) (.sh (.int h))):=by simp[eh]
    rw[zFZ];show aGO (owE c most n kd t os ip sp (.sh (.int j)) (.sh (.int i)) s10)=_;unfold aGO;rw[aN,s7,bB,aN,s11,bB,aN,e1,bB,e2]
   .have bE:∀q∈ip,q.1≠q.2/\q.1<n/\q.2<n/\((q.1<j/\q.2<j)\/(q.1=j/\q.2<i+1)\/(q.2=j/\q.1<i+1))/\(kd=6->q.1<q.2):=λ q hq=>by
     obtain⟨a1,a2,a3,a4,a5⟩:=p2.ok q hq;exact⟨a1,a2,a3,a4.imp_right (Or.imp (λ z=>⟨z.1,zBi z.2⟩) λ z=>⟨z.1,zBi z.2⟩),a5⟩
    have n1:(i,j)∉ip:=λ hm=>by
     obtain⟨_,_,_,a4,_⟩:=p2.ok _ hm;simp only at a4;omega
    have n2:(j,i)∉ip:=λ hm=>by
     obtain⟨_,_,_,a4,_⟩:=p2.ok _ hm;simp only at a4;omega
    have bS:∀q:Nat×Nat,q=(i,j)->q.1≠q.2/\q.1<n/\q.2<n/\((q.1<j/\q.2<j)\/(q.1=j/\q.2<i+1)\/(q.2=j/\q.1<i+1))/\(kd=6->q.1<q.2):=λ q hq=>by
     subst hq;exact⟨zA1 hij,zDX hij hj,hj,.inr (.inr ⟨rfl,zBb i⟩),λ _=>hij⟩
    have htwo:kd≠6->∀q:Nat×Nat,q=(j,i)->q.1≠q.2/\q.1<n/\q.2<n/\((q.1<j/\q.2<j)\/(q.1=j/\q.2<i+1)\/(q.2=j/\q.1<i+1))/\(kd=6->q.1<q.2):=λ hk q hq=>by
     subst hq;exact⟨zB4 hij,hj,zDX hij hj,.inr (.inl ⟨rfl,zBb i⟩),λ z=>absurd z hk⟩
    have hij2:((i,j):Nat×Nat)≠(j,i):=λ z=>by injection z with z1 z2;omega
    rcases c1 with rfl|rfl<;>rcases c2 with rfl|⟨rfl,hk⟩
    .exact⟨p2.nd,bE⟩
    .refine⟨zAa.mpr ⟨p2.nd,by simp,λ x hx y hy z=>?_⟩,λ q hq=>?_⟩
     .rw[zAM]at hy;subst hy;subst z;exact n2 hx
     .rcases zA3.mp hq with z|z
      .exact bE q z
      .exact htwo hk q (zAM.mp z)
    .refine⟨zAa.mpr ⟨p2.nd,by simp,λ x hx y hy z=>?_⟩,λ q hq=>?_⟩
     .rw[zAM]at hy;subst hy;subst z;exact n1 hx
     .rcases zA3.mp hq with z|z
      .exact bE q z
      .exact bS q (zAM.mp z)
    .refine⟨zAa.mpr ⟨zAa.mpr ⟨p2.nd,by simp,λ x hx y hy z=>?_⟩,by simp,λ x hx y hy z=>?_⟩,λ q hq=>?_⟩
     .rw[zAM]at hy;subst hy;subst z;exact n1 hx
     .rw[zAM]at hy
      subst hy;subst z;rcases zA3.mp hx with z|z
      .exact n2 z
      .exact hij2 (zAM.mp z).symm
     .rcases zA3.mp hq with z|z
      .rcases zA3.mp z with z|z
       .exact bE q z
       .exact bS q (zAM.mp z)
      .exact htwo hk q (zAM.mp z))
 rw[kK]at q1 q2;refine⟨ip',sp',s9',s10',e,q0,by omega,q2.nd,λ q hq=>?_⟩;obtain⟨a1,a2,a3,a4,a5⟩:=q2.ok q hq;exact⟨a1,a2,a3,.inl (by omega),a5⟩
def aFF{kd:Nat}(h:kd<8):∃t:Int,atD ([1,2,4,2,3,6,1,3].map D.int) (kd:Int)= .ok (.int t)/\(kd=6->t=1):=by
 have:=yJ (os:=[1,2,4,2,3,6,1,3]) (k:=kd) (by simpa using h)
 refine⟨_,this,λ k6=>by subst k6;rfl⟩
def wA{c:Int}{most:Nat}(h1:most<=8):∃n ps,fG [.int c,.int most]= .ok (owD n ps)/\Ow n ps/\n<=(most:Int):=by
 obtain⟨n,en,hn⟩:=uc (c:=c) (k:=0) (b:=(most:Int)+1) (by decide) (by decide) (by omega) (by omega);obtain⟨kd,ek,hk⟩:=uc (c:=c) (k:=1) (b:=8) (by decide) (by decide) (by decide) (by decide);have hn8:n<=8:=by omega
 obtain⟨t,et,ht⟩:=aFF (kd:=kd) (by omega);obtain⟨os,eo,ho⟩:=tO (c:=c) (n:=n) (by omega);have hr1:=gD (j:=(n:Int)) (by omega) (by omega);have kK:(cT 0 (n:Int)).length=n:=by rw[iG];omega
 obtain⟨ρ',e,ip,sp,s8,s9,s10,rfl,_,_,hip⟩:=cU (a:=gnm 8) (u:=aDU) (cT 0 (n:Int))
  (λ j ρ=>∃ip sp s8 s9 s10,ρ=owE c most n kd t os ip sp s8 s9 s10/\0<=sp/\sp<=2+60*j/\Ips n kd j 0 ip) (owE c most n kd t os [] 2 .no .no .no) ⟨[],2,.no,.no,.no,rfl,by omega,by omega,by simp,λ q hq=>by simp at hq⟩ (by
   rintro j d ρ hd ⟨ip,sp,s8,s9,s10,rfl,p0,p1,p2⟩;obtain⟨rfl,hlt⟩:=jk hd;have hr2:=gD (j:=(j:Int)) (by omega) (by omega);obtain⟨ip',sp',s9',s10',e,q0,q1,q2⟩:=aGN (c:=c) (most:=most) (t:=t) (n:=n) (kd:=kd) (j:=j) (os:=os) (by omega) (by omega) ho ht (s9:=s9) (s10:=s10) p0 p1 p2;refine⟨_,?_,ip',sp',.sh (.int j),s9',s10',rfl,q0,by omega,q2⟩;rw[zFZ,aCb,zf,show(owE c most n kd t os ip sp s8 s9 s10).set 8 (.sh (.int j))=owE c most n kd t os ip sp (.sh (.int j)) s9 s10 from rfl];unfold aDU;have hi:(eZ gO (aB (aC 8) aG)) (owE c most n kd t os ip sp (.sh (.int j)) s9 s10)= .ok (cT 0 (j:Int)):=by simp[hr2]
   rw[fL,hi,bL,e])
 rw[kK]at hip;have hzl:=ug (by omega) hip.nd λ q hq=>⟨(hip.ok q hq).2.1,(hip.ok q hq).2.2.1⟩
 obtain⟨ip2,e2,hip2⟩:∃ip2,aDV (owE c most n kd t os ip sp s8 s9 s10)= .nx (owE c most n kd t os ip2 sp s8 s9 s10)/\ip2.Nodup/\∀q∈ip2,q.1≠q.2/\q.1<n/\q.2<n:=by
  have hc:(lV (tsb (op2 (eqR false) (aC 3) (cD (.int 6)))) (tsb (op2 gtD (aC 2) (cD (.int 1))))) (owE c most n kd t os ip sp s8 s9 s10)= .ok ((kd:Int)==6&&decide (1<(n:Int))):=by
   by_cases k1:(kd:Int)=6<;>simp[k1]
  cases hb:((kd:Int)==6&&decide (1<(n:Int)))with
  |true=>
   simp only[zA5,beq_iff_eq,decide_eq_true_eq]at hb;have k6:kd=6:=by omega
   refine⟨ip++[(n-1,0)],?_,zAa.mpr ⟨hip.nd,by simp,λ x hx y hy z=>?_⟩,λ q hq=>?_⟩
   .unfold aDV
    rw[fW,hc,show((kd:Int)==6&&decide (1<(n:Int)))=true by simp[hb],bL,if_pos rfl];exact aCQ (by omega) (by rw[ho.len];omega) (by rw[ho.len];omega) (by simp;omega) (by simp)
   .rw[zAM]at hy
    subst hy;subst z
    have:=(hip.ok _ hx).2.2.2.2 k6
    simp at this
   .rcases zA3.mp hq with z|z
    .exact⟨(hip.ok q z).1,(hip.ok q z).2.1,(hip.ok q z).2.2.1⟩
    .rw[zAM.mp z]
     exact⟨by simp;omega,by simp;omega,by simp;omega⟩
  |false=>
   refine⟨ip,?_,hip.nd,λ q z=>⟨(hip.ok q z).1,(hip.ok q z).2.1,(hip.ok q z).2.2.1⟩⟩;unfold aDV;rw[fW,hc,hb,bL];rfl
 have hin:∀p∈ip2.map (ar os),0<=p.1/\p.1<n/\0<=p.2/\p.2<n/\p.1≠p.2:=λ p hp=>by
  obtain⟨q,hq,rfl⟩:=zAY.mp hp;obtain⟨a1,a2,a3⟩:=hip2.2 q hq;have g:∀k,k<n->os.getD k 0∈os:=λ k hk=>by
   have:k<os.length:=by rw[ho.len];exact hk
   simp[this]
  have l1:=ho.lo _ (g q.1 a2);have l2:=ho.lo _ (g q.2 a3);refine⟨l1.1,l1.2,l2.1,l2.2,λ z=>a1 ?_⟩;have k1:q.1<os.length:=by rw[ho.len];exact a2
  have k2:q.2<os.length:=by rw[ho.len];exact a3
  have z':os.getD q.1 0=os.getD q.2 0:=z
  have:os[q.1]? =os[q.2]?:=by
   rw[zAH k1,zAH k2];simpa[k1,k2]using z'
  exact(zCc k1 ho.nd).mp this
 have hnd:(ip2.map (ar os)).Nodup:=iY hip2.1 λ x hx y hy e=>by
  have gi:∀k l,k<n->l<n->os.getD k 0=os.getD l 0->k=l:=λ k l hk hl z=>by
   have k1:k<os.length:=by rw[ho.len];exact hk
   have k2:l<os.length:=by rw[ho.len];exact hl
   have:os[k]? =os[l]?:=by
    rw[zAH k1,zAH k2];simpa[k1,k2]using z
   exact(zCc k1 ho.nd).mp this
  obtain⟨_,x1,x2⟩:=hip2.2 x hx;obtain⟨_,y1,y2⟩:=hip2.2 y hy;have e1:os.getD x.1 0=os.getD y.1 0:=congrArg zFd e;have e2:os.getD x.2 0=os.getD y.2 0:=congrArg zH2 e;exact zH1 (gi _ _ x1 y1 e1) (gi _ _ x2 y2 e2)
 obtain⟨qs,s1,s2,s3⟩:=uz hnd λ p hp=>by
  obtain⟨a,b,c',d,e⟩:=hin p hp;exact⟨a,by omega,c',by omega,e⟩
 have hl2:qs.length<=3600:=by
  rw[s2.length_eq,zAE];exact ug (n:=n) (by omega) hip2.1 λ q hq=>(hip2.2 q hq).2
 refine⟨n,qs,?_,⟨by omega,by omega,hl2,λ p hp=>hin p (s2.mem_iff.mp hp),s3⟩,by omega⟩;have st:aq 11 [.int c,.int most]=[.sh (.int c),.sh (.int most),.no,.no,.no,.no,.no,.no,.no,.no,.no]:=rfl;have et':atD [D.int 1,D.int 2,D.int 4,D.int 2,D.int 3,D.int 6,D.int 1,D.int 3] (kd:Int)= .ok (.int t):=et;have a1:bU 2 (aP aW (aB (aC 0) (aB (cD (.int 0)) (aB (op2 cL (aC 1) (cD (.int 1))) aG)))) [.sh (.int c),.sh (.int most),.no,.no,.no,.no,.no,.no,.no,.no,.no]= .nx [.sh (.int c),.sh (.int most),.sh (.int n),.no,.no,.no,.no,.no,.no,.no,.no]:=by simp[en]
 have a2:bU 3 (aP aW (aB (aC 0) (aB (cD (.int 1)) (aB (cD (.int 8)) aG)))) [.sh (.int c),.sh (.int most),.sh (.int n),.no,.no,.no,.no,.no,.no,.no,.no]= .nx [.sh (.int c),.sh (.int most),.sh (.int n),.sh (.int kd),.no,.no,.no,.no,.no,.no,.no]:=by simp[ek]
 have a3:aEI 4 (op2 ixD (pI (aB (cD (.int 1)) (aB (cD (.int 2)) (aB (cD (.int 4)) (aB (cD (.int 2)) (aB (cD (.int 3)) (aB (cD (.int 6)) (aB (cD (.int 1)) (aB (cD (.int 3)) aG))))))))) (aC 3)) [.sh (.int c),.sh (.int most),.sh (.int n),.sh (.int kd),.no,.no,.no,.no,.no,.no,.no]= .nx [.sh (.int c),.sh (.int most),.sh (.int n),.sh (.int kd),.nw (.int t),.no,.no,.no,.no,.no,.no]:=by simp[et']
 have a4:bU 5 (aP fY (aB (aC 0) (aB (aC 2) aG))) [.sh (.int c),.sh (.int most),.sh (.int n),.sh (.int kd),.nw (.int t),.no,.no,.no,.no,.no,.no]= .nx [.sh (.int c),.sh (.int most),.sh (.int n),.sh (.int kd),.nw (.int t),.sh (.lst (os.map .int)),.no,.no,.no,.no,.no]:=by simp[eo]
 have a5:pY 6 (pI aG) [.sh (.int c),.sh (.int most),.sh (.int n),.sh (.int kd),.nw (.int t),.sh (.lst (os.map .int)),.no,.no,.no,.no,.no]= .nx [.sh (.int c),.sh (.int most),.sh (.int n),.sh (.int kd),.nw (.int t),.sh (.lst (os.map .int)),.ow (.lst []),.no,.no,.no,.no]:=by first|rfl|simp
 have a6:bU 7 (cD (.int 2)) [.sh (.int c),.sh (.int most),.sh (.int n),.sh (.int kd),.nw (.int t),.sh (.lst (os.map .int)),.ow (.lst []),.no,.no,.no,.no]= .nx (owE c most n kd t os [] 2 .no .no .no):=by first|rfl|simp
 have a7:jP (eZ gO (aB (aC 2) aG)) (gnm 8) aDU (owE c most n kd t os [] 2 .no .no .no)= .nx (owE c most n kd t os ip sp s8 s9 s10):=by
  have hi:(eZ gO (aB (aC 2) aG)) (owE c most n kd t os [] 2 .no .no .no)= .ok (cT 0 (n:Int)):=by simp[hr1]
  rw[fL,hi,bL];exact e
 have a8:opA gB (aB (bw 6) aG) (owE c most n kd t os ip2 sp s8 s9 s10)= .ok (.lst (qs.map pD)):=by
  have hv:(aB (bw 6) aG) (owE c most n kd t os ip2 sp s8 s9 s10)= .ok [.lst ((ip2.map (ar os)).map pD)]:=by first|rfl|simp
  rw[m9,hv,aU,s1,mj]
 have a9:retS (cF (aB (bJ (aC 2)) (aB (opA fP (aB (opA gB (aB (bw 6) aG)) aG)) aG))) (owE c most n kd t os ip2 sp s8 s9 s10)= .rt (owD n qs):=by
  have ha:aB (opA gB (aB (bw 6) aG)) aG (owE c most n kd t os ip2 sp s8 s9 s10)= .ok [.lst (qs.map pD)]:=by rw[cI,a8,aU,iB,aU]
  have hb:opA fP (aB (opA gB (aB (bw 6) aG)) aG) (owE c most n kd t os ip2 sp s8 s9 s10)= .ok (.tup (qs.map pD)):=by rw[m9,ha,aU,ur,mj]
  have hc:bJ (aC 2) (owE c most n kd t os ip2 sp s8 s9 s10)= .ok (.int n):=by first|rfl|simp
  rw[lG,zA,cI,hc,aU,cI,hb,aU,iB,aU,aU,aU,if_pos (by simp),bL];rfl
 simp only[fG,bx,st,dM];rw[aN,a1,bB,aN,a2,bB,aN,a3,bB,aN,a4,bB,aN,a5,bB,aN,a6,bB,aN,a7,bB,aN,e2,bB,a9]
def uy(nd:ps.Nodup)(h:ps.length<64):∃qs:gX,mU [.lst (ps.map pD)]= .ok (.lst (qs.map pD))/\qs.Perm ps/\rO qs=true:=by
 obtain⟨qs,q1,q2,q3⟩:=oH nd;refine⟨qs,?_,q2,q3⟩;unfold mU;dsimp only;rw[xq];dsimp only;rw[if_pos (by rw[zAE];exact h),q1,zAN];exact congrArg (λ l=>Rs.ok (D.lst l)) (zBg λ p _=>aCs p)
abbrev orE(c most:Int)(n kd:Nat)(t:Int)(os:List Int)(ip:List (Nat×Nat))(sp:Int)(s8 s9:Slot):En:=
 [.sh (.int c),.sh (.int most),.sh (.int n),.sh (.int kd),.nw (.int t),.sh (.lst (os.map .int)),.ow (.lst ((ip.map (ar os)).map pD)),.sh (.int sp),s8,s9]
structure Jps(n j i:Nat)(ip:List (Nat×Nat)):Prop where
 nd:ip.Nodup
 ok:∀q∈ip,q.1<q.2/\q.2<n/\(q.2<j\/(q.2=j/\q.1<i))
def aGS{os:List Int}(hn:n<=60)(hj:j<n)(ho:aH8 n os){sp:Int}(h0:0<=sp)(h1:sp<=2+60*j)(hip:Jps n j 0 ip):
  ∃ip' sp' s9',forL (gnm 9) aGT (cT 0 (j:Int)) (orE c most n kd t os ip sp (.sh (.int j)) s9)= .nx (orE c most n kd t os ip' sp' (.sh (.int j)) s9')/\0<=sp'/\sp'<=2+60*(j+1)/\Jps n (j+1) 0 ip':=by
 have kK:(cT 0 (j:Int)).length=j:=by rw[iG];lia
 obtain⟨ρ',e,ip',sp',s9',rfl,q0,q1,q2⟩:=cU (a:=gnm 9) (u:=aGT) (cT 0 (j:Int))
  (λ i ρ=>∃ip sp s9,ρ=orE c most n kd t os ip sp (.sh (.int j)) s9/\0<=sp/\sp<=2+60*j+i/\Jps n j i ip) (orE c most n kd t os ip sp (.sh (.int j)) s9) ⟨ip,sp,s9,rfl,h0,by lia,hip⟩ (by
   rintro i d ρ hd ⟨ip,sp,s9,rfl,p0,p1,p2⟩;obtain⟨rfl,hlt⟩:=jk hd;have hij:i<j:=by lia
   obtain⟨h,eh,hh0,hh1⟩:=qZ (c:=c) (k:=sp+1) (b:=8) (by lia) (by lia) (by decide) (by decide);have hzl:=ug hn p2.nd λ q hq=>⟨by have:=p2.ok q hq;lia,(p2.ok q hq).2.1⟩
   have hi':i<os.length:=by rw[ho.len];lia
   have hj':j<os.length:=by rw[ho.len];lia
   have st1:∃ip1,orB (orE c most n kd t os ip (sp+1) (.sh (.int j)) (.sh (.int i)))= .nx (orE c most n kd t os ip1 (sp+1) (.sh (.int j)) (.sh (.int i)))/\(ip1=ip\/ip1=ip++[(i,j)]):=by
    obtain⟨b,hc⟩:∃b,(orT (tsb (op2 ltD (aP aW (aB (aC 0) (aB (aC 7) (aB (cD (.int 8)) aG)))) (uE 4))) (lV (tsb (op2 (eqR false) (aC 3) (cD (.int 5)))) (tsb (op2 (inR false) (aC 8) (cF (aB (op2 cL (op2 iI (cD (.int 2)) (aC 9)) (cD (.int 1))) (aB (op2 cL (op2 iI (cD (.int 2)) (aC 9)) (cD (.int 2))) aG))))))) (orE c most n kd t os ip (sp+1) (.sh (.int j)) (.sh (.int i)))= .ok b:=by
     have eA:tsb (op2 ltD (aP aW (aB (aC 0) (aB (aC 7) (aB (cD (.int 8)) aG)))) (uE 4)) (orE c most n kd t os ip (sp+1) (.sh (.int j)) (.sh (.int i)))= .ok (decide (h<t)):=by
      have e0:aB (aC 0) (aB (aC 7) (aB (cD (.int 8)) aG)) (orE c most n kd t os ip (sp+1) (.sh (.int j)) (.sh (.int i)))= .ok [.int c,.int (sp+1),.int 8]:=rfl;rw[aBt,pG,nH,e0,aU,eh];rfl
     have eB:tsb (op2 (eqR false) (aC 3) (cD (.int 5))) (orE c most n kd t os ip (sp+1) (.sh (.int j)) (.sh (.int i)))= .ok ((kd:Int)==5):=rfl;have eC:tsb (op2 (inR false) (aC 8) (cF (aB (op2 cL (op2 iI (cD (.int 2)) (aC 9)) (cD (.int 1))) (aB (op2 cL (op2 iI (cD (.int 2)) (aC 9)) (cD (.int 2))) aG)))) (orE c most n kd t os ip (sp+1) (.sh (.int j)) (.sh (.int i)))= .ok (decide ((j:Int)∈[2*(i:Int)+1,2*(i:Int)+2])):=by
      have hm:iI (.int 2) (.int i)= .ok (.int (2*(i:Int))):=zg (by decide) (by decide);have hi:=qM false (j:Int) [2*(i:Int)+1,2*(i:Int)+2];simp only[zAD,zDR]at hi;have ht:cF (aB (op2 cL (op2 iI (cD (.int 2)) (aC 9)) (cD (.int 1))) (aB (op2 cL (op2 iI (cD (.int 2)) (aC 9)) (cD (.int 2))) aG)) (orE c most n kd t os ip (sp+1) (.sh (.int j)) (.sh (.int i)))= .ok (.tup [.int (2*(i:Int)+1),.int (2*(i:Int)+2)]):=by simp[hm]
      rw[aBt,pG,ht]
      show(((Rs.ok (D.int j)).bd λ x=>(Rs.ok (D.tup [.int (2*(i:Int)+1),.int (2*(i:Int)+2)])).bd λ y=>okD (inR false x y)).bd blD)=_
      rw[aU,aU,hi];rfl
     rw[m8,eA,qt,eB,eC];cases decide (h<t)<;>cases (kd:Int)==5<;>exact⟨_,rfl⟩
    cases b with
    |true=>
     refine⟨_,?_,.inr rfl⟩;simp only[orB,fW,hc,bL,if_pos];have hz:ip.length<16777216:=by lia
     simp[sY,yJ hi',yJ hj',hz,ar,pD]
    |false=>
     refine⟨_,?_,.inl rfl⟩;simp only[orB,fW,hc,bL];rfl
   obtain⟨ip1,e1,c1⟩:=st1;refine⟨_,?_,ip1,sp+1,.sh (.int i),rfl,by lia,by lia,?_⟩
   .have s7:bU 7 (op2 cL (aC 7) (cD (.int 1))) (orE c most n kd t os ip sp (.sh (.int j)) (.sh (.int i)))= .nx (orE c most n kd t os ip (sp+1) (.sh (.int j)) (.sh (.int i))):=by first|rfl|simp
    rw[zFZ];show aGT (orE c most n kd t os ip sp (.sh (.int j)) (.sh (.int i)))=_;unfold aGT;rw[aN,s7,bB,e1]
   .have bE:∀q∈ip,q.1<q.2/\q.2<n/\(q.2<j\/(q.2=j/\q.1<i+1)):=λ q hq=>by have:=p2.ok q hq;lia
    have n1:(i,j)∉ip:=λ hm=>by have:=p2.ok _ hm;simp only at this;lia
    rcases c1 with rfl|rfl
    .exact⟨p2.nd,bE⟩
    .refine⟨zAa.mpr ⟨p2.nd,by simp,λ x hx y hy z=>?_⟩,λ q hq=>?_⟩
     .rw[zAM]at hy;subst hy;subst z;exact n1 hx
     .rcases zA3.mp hq with z|z
      .exact bE q z
      .rw[zAM.mp z];exact⟨hij,hj,.inr ⟨rfl,zBb i⟩⟩)
 rw[kK]at q1 q2;refine⟨ip',sp',s9',e,q0,by lia,q2.nd,λ q hq=>?_⟩
 have:=q2.ok q hq
 lia
def Up(n:Nat)(ps:gX):Prop:=∃os:List Int,aH8 n os/\∀p∈ps,∃q:Nat×Nat,q.1<q.2/\q.2<n/\p=ar os q
def aKM{kd:Nat}(h:kd<6):∃t:Int,atD ([1,2,3,5,8,0].map D.int) (kd:Int)= .ok (.int t):=⟨_,yJ (os:=[1,2,3,5,8,0]) (k:=kd) (by simpa using h)⟩
def vz{most:Nat}(h1:most<=9):∃(n:Nat) (ps:gX),fD [.int c,.int most]= .ok (owD n ps)/\Ow n ps/\n<=most/\ps.length<64/\Up n ps:=by
 obtain⟨n,en,hn⟩:=uc (c:=c) (k:=0) (b:=(most:Int)+1) (by decide) (by decide) (by lia) (by lia);obtain⟨kd,ek,hk⟩:=uc (c:=c) (k:=1) (b:=6) (by decide) (by decide) (by decide) (by decide);have hn8:n<=9:=by lia
 obtain⟨t,et⟩:=aKM (kd:=kd) (by lia);obtain⟨os,eo,ho⟩:=tO (c:=c) (n:=n) (by lia);have hr1:=gD (j:=(n:Int)) (by lia) (by lia);have kK:(cT 0 (n:Int)).length=n:=by rw[iG];lia
 obtain⟨ρ',e,ip,sp,s8,s9,rfl,_,_,hip⟩:=cU (a:=gnm 8) (u:=aDX) (cT 0 (n:Int))
  (λ j ρ=>∃ip sp s8 s9,ρ=orE c most n kd t os ip sp s8 s9/\0<=sp/\sp<=2+60*j/\Jps n j 0 ip) (orE c most n kd t os [] 2 .no .no) ⟨[],2,.no,.no,rfl,by lia,by lia,by simp,λ q hq=>by simp at hq⟩ (by
   rintro j d ρ hd ⟨ip,sp,s8,s9,rfl,p0,p1,p2⟩;obtain⟨rfl,hlt⟩:=jk hd;have hr2:=gD (j:=(j:Int)) (by lia) (by lia);obtain⟨ip',sp',s9',e,q0,q1,q2⟩:=aGS (c:=c) (most:=most) (t:=t) (n:=n) (kd:=kd) (j:=j) (os:=os) (by lia) (by lia) ho (s9:=s9) p0 p1 p2;refine⟨_,?_,ip',sp',.sh (.int j),s9',rfl,q0,by lia,q2⟩;rw[zFZ,aCb,zf,show(orE c most n kd t os ip sp s8 s9).set 8 (.sh (.int j))=orE c most n kd t os ip sp (.sh (.int j)) s9 from rfl];unfold aDX;have hi:(eZ gO (aB (aC 8) aG)) (orE c most n kd t os ip sp (.sh (.int j)) s9)= .ok (cT 0 (j:Int)):=by simp[hr2]
   rw[fL,hi,bL,e])
 rw[kK]at hip;have gi:∀k l,k<n->l<n->os.getD k 0=os.getD l 0->k=l:=λ k l hk hl z=>by
  have k1:k<os.length:=by rw[ho.len];exact hk
  have k2:l<os.length:=by rw[ho.len];exact hl
  have:os[k]? =os[l]?:=by
   rw[zAH k1,zAH k2];simpa[k1,k2]using z
  exact(zCc k1 ho.nd).mp this
 have hin:∀p∈ip.map (ar os),0<=p.1/\p.1<n/\0<=p.2/\p.2<n/\p.1≠p.2:=λ p hp=>by
  obtain⟨q,hq,rfl⟩:=zAY.mp hp;obtain⟨a1,a2,_⟩:=hip.ok q hq;have g:∀k,k<n->os.getD k 0∈os:=λ k hk=>by
   have:k<os.length:=by rw[ho.len];exact hk
   simp[this]
  have l1:=ho.lo _ (g q.1 (by lia));have l2:=ho.lo _ (g q.2 a2);refine⟨l1.1,l1.2,l2.1,l2.2,λ z=>?_⟩
  have:=gi _ _ (by lia) a2 z
  lia
 have hnd:(ip.map (ar os)).Nodup:=iY hip.nd λ x hx y hy e=>by
  have x1:=hip.ok x hx;have y1:=hip.ok y hy;have e1:os.getD x.1 0=os.getD y.1 0:=congrArg zFd e;have e2:os.getD x.2 0=os.getD y.2 0:=congrArg zH2 e;exact zH1 (gi _ _ (by lia) (by lia) e1) (gi _ _ (by lia) (by lia) e2)
 have hl:ip.length<64:=by
  have:=sub_len (l':=(zAm 9).flatMap λ b=>(zAm b).map λ a=>(a,b)) hip.nd λ q hq=>by
   rw[zF4]
   have:=hip.ok q hq
   exact⟨q.2,by simp;lia,zAY.mpr ⟨q.1,by simp;lia,rfl⟩⟩
  have h36:((zAm 9).flatMap λ b=>(zAm b).map λ a=>(a,b)).length=36:=by decide
  lia
 obtain⟨qs,s1,s2,s3⟩:=uy hnd (by rw[zAE];exact hl);have hl2:qs.length<64:=by rw[s2.length_eq,zAE];exact hl
 refine⟨n,qs,?_,⟨by lia,by lia,by lia,λ p hp=>hin p (s2.mem_iff.mp hp),s3⟩,by lia,hl2,os,ho,λ p hp=>?_⟩
 .have st:aq 10 [.int c,.int most]=[.sh (.int c),.sh (.int most),.no,.no,.no,.no,.no,.no,.no,.no]:=rfl
  have et':atD [D.int 1,D.int 2,D.int 3,D.int 5,D.int 8,D.int 0] (kd:Int)= .ok (.int t):=et;have a1:bU 2 (aP aW (aB (aC 0) (aB (cD (.int 0)) (aB (op2 cL (aC 1) (cD (.int 1))) aG)))) [.sh (.int c),.sh (.int most),.no,.no,.no,.no,.no,.no,.no,.no]= .nx [.sh (.int c),.sh (.int most),.sh (.int n),.no,.no,.no,.no,.no,.no,.no]:=by simp[en]
  have a2:bU 3 (aP aW (aB (aC 0) (aB (cD (.int 1)) (aB (cD (.int 6)) aG)))) [.sh (.int c),.sh (.int most),.sh (.int n),.no,.no,.no,.no,.no,.no,.no]= .nx [.sh (.int c),.sh (.int most),.sh (.int n),.sh (.int kd),.no,.no,.no,.no,.no,.no]:=by simp[ek]
  have a3:aEI 4 (op2 ixD (pI (aB (cD (.int 1)) (aB (cD (.int 2)) (aB (cD (.int 3)) (aB (cD (.int 5)) (aB (cD (.int 8)) (aB (cD (.int 0)) aG))))))) (aC 3)) [.sh (.int c),.sh (.int most),.sh (.int n),.sh (.int kd),.no,.no,.no,.no,.no,.no]= .nx [.sh (.int c),.sh (.int most),.sh (.int n),.sh (.int kd),.nw (.int t),.no,.no,.no,.no,.no]:=by simp[et']
  have a4:bU 5 (aP fY (aB (aC 0) (aB (aC 2) aG))) [.sh (.int c),.sh (.int most),.sh (.int n),.sh (.int kd),.nw (.int t),.no,.no,.no,.no,.no]= .nx [.sh (.int c),.sh (.int most),.sh (.int n),.sh (.int kd),.nw (.int t),.sh (.lst (os.map .int)),.no,.no,.no,.no]:=by simp[eo]
  have a5:pY 6 (pI aG) [.sh (.int c),.sh (.int most),.sh (.int n),.sh (.int kd),.nw (.int t),.sh (.lst (os.map .int)),.no,.no,.no,.no]= .nx [.sh (.int c),.sh (.int most),.sh (.int n),.sh (.int kd),.nw (.int t),.sh (.lst (os.map .int)),.ow (.lst []),.no,.no,.no]:=by first|rfl|simp
  have a6:bU 7 (cD (.int 2)) [.sh (.int c),.sh (.int most),.sh (.int n),.sh (.int kd),.nw (.int t),.sh (.lst (os.map .int)),.ow (.lst []),.no,.no,.no]= .nx (orE c most n kd t os [] 2 .no .no):=by first|rfl|simp
  have a7:jP (eZ gO (aB (aC 2) aG)) (gnm 8) aDX (orE c most n kd t os [] 2 .no .no)= .nx (orE c most n kd t os ip sp s8 s9):=by
   have hi:(eZ gO (aB (aC 2) aG)) (orE c most n kd t os [] 2 .no .no)= .ok (cT 0 (n:Int)):=by simp[hr1]
   rw[fL,hi,bL];exact e
  have a8:opA mU (aB (bw 6) aG) (orE c most n kd t os ip sp s8 s9)= .ok (.lst (qs.map pD)):=by
   have hv:(aB (bw 6) aG) (orE c most n kd t os ip sp s8 s9)= .ok [.lst ((ip.map (ar os)).map pD)]:=by first|rfl|simp
   rw[m9,hv,aU,s1,mj]
  have a9:retS (cF (aB (bJ (aC 2)) (aB (opA fP (aB (opA mU (aB (bw 6) aG)) aG)) aG))) (orE c most n kd t os ip sp s8 s9)= .rt (owD n qs):=by
   have ha:aB (opA mU (aB (bw 6) aG)) aG (orE c most n kd t os ip sp s8 s9)= .ok [.lst (qs.map pD)]:=by rw[cI,a8,aU,iB,aU]
   have hb:opA fP (aB (opA mU (aB (bw 6) aG)) aG) (orE c most n kd t os ip sp s8 s9)= .ok (.tup (qs.map pD)):=by rw[m9,ha,aU,ur,mj]
   have hc:bJ (aC 2) (orE c most n kd t os ip sp s8 s9)= .ok (.int n):=by first|rfl|simp
   rw[lG,zA,cI,hc,aU,cI,hb,aU,iB,aU,aU,aU,if_pos (by simp),bL];rfl
  simp only[fD,bx,st,dJ];rw[aN,a1,bB,aN,a2,bB,aN,a3,bB,aN,a4,bB,aN,a5,bB,aN,a6,bB,aN,a7,bB,a9]
 .obtain⟨q,hq,rfl⟩:=zAY.mp (s2.mem_iff.mp hp)
  obtain⟨a1,a2,_⟩:=hip.ok q hq;exact⟨q,a1,a2,rfl⟩
def eX(ll:List (List D))(p:Int×Int):List (List D):=ll.set p.1.toNat (ll.getD p.1.toNat []++[.int p.2])
theorem aBN{w:Slot}:∀(ps:gX) (ll:List (List D)) (s2 s3:Slot),(∀p∈ps,0<=p.1/\p.1<ll.length)->(∀l∈ll,l.length+ps.length<=10000)->
  ∃s2' s3',forL (nC 2 (cJ (gnm 2) (cJ (gnm 3) oA))) (nM 1 (aC 2) (bJ (aC 3))) (ps.map pD) [w,.o2 ll,s2,s3]= .nx [w,.o2 (ps.foldl eX ll),s2',s3']
 |[],ll,s2,s3,_,_=>⟨s2,s3,rfl⟩
 |p::ps,ll,s2,s3,h,hl=>by
  obtain⟨h0,h1⟩:=h p zAK;have hk:p.1.toNat<ll.length:=by lia
  have hin:ll.getD p.1.toNat []∈ll:=by simp[hk]
  have hz:=hl _ hin;obtain⟨s2',s3',e⟩:=aBN (w:=w) ps (eX ll p) (.sh (.int p.1)) (.sh (.int p.2)) (λ q hq=>by unfold eX;rw[zB7];exact h q (zAL _ hq)) (λ l hm=>by
   unfold eX at hm;rcases List.mem_or_eq_of_mem_set hm with z|z
   .have:=hl l z
    simp at this;lia
   .subst z
    simp at hz ⊢;lia)
  refine⟨s2',s3',?_⟩;rw[zAD,nY,zBN];have ha:at2 ll (.int p.1)=some (p.1.toNat,ll.getD p.1.toNat []):=by
   have hx:ixN ll.length p.1=some p.1.toNat:=by
    unfold ixN;rw[if_pos (by lia),if_pos (by lia)]
   simp only[at2,hx,zH0];rw[zAH hk];simp[hk]
  have hb:okE (nC 2 (cJ (gnm 2) (cJ (gnm 3) oA)) (pD p) [w,.o2 ll,s2,s3]) (λ ρ1=>(nM 1 (aC 2) (bJ (aC 3)) ρ1).tn (forL (nC 2 (cJ (gnm 2) (cJ (gnm 3) oA))) (nM 1 (aC 2) (bJ (aC 3))) (ps.map pD)))=
    (nM 1 (aC 2) (bJ (aC 3)) [w,.o2 ll,.sh (.int p.1),.sh (.int p.2)]).tn (forL (nC 2 (cJ (gnm 2) (cJ (gnm 3) oA))) (nM 1 (aC 2) (bJ (aC 3))) (ps.map pD)):=by
   simp[pD]
  have hc:nM 1 (aC 2) (bJ (aC 3)) [w,.o2 ll,.sh (.int p.1),.sh (.int p.2)]= .nx [w,.o2 (eX ll p),.sh (.int p.1),.sh (.int p.2)]:=by
   have hz2:(ll.getD p.1.toNat []).length<16777216:=by simp at hz ⊢;lia
   unfold nM;simp only[zEP,zEQ];simp[ha];rw[if_pos (by simpa using hz2)];simp[eX]
  rw[hb,hc,aMD];exact e
theorem sS:∀(ps:gX) (ll:List (List D)),(ps.foldl eX ll).length=ll.length
 |[],_=>rfl
 |p::ps,ll=>by rw[zBN,sS ps];unfold eX;rw[zB7]
def bu(ps:gX)(i:Int):List Int:=(ps.filter λ p=>p.1==i).map (·.2)
theorem yS:∀(ps:gX) (ll:List (List D)) (i:Nat),(∀p∈ps,0<=p.1/\p.1<ll.length)->i<ll.length->(ps.foldl eX ll).getD i []=ll.getD i []++(bu ps i).map .int
 |[],ll,i,_,_=>by simp[bu]
 |p::ps,ll,i,h,hi=>by
  obtain⟨h0,h1⟩:=h p zAK;rw[zBN,yS ps (eX ll p) i (λ q hq=>by unfold eX;rw[zB7];exact h q (zAL _ hq)) (by unfold eX;rw[zB7];exact hi)];unfold eX bu;by_cases c:p.1=i
  .have hk:p.1.toNat=i:=by lia
   rw[hk,List.filter_cons_of_pos (by simpa using c)];simp[hi]
  .have hk:p.1.toNat≠i:=by lia
   rw[List.filter_cons_of_neg (by simpa using c)];simp[zB8 hk]
structure aLy(n:Int)(ps:gX)(ll:List (List D)):Prop where
 len:ll.length=n.toNat
 item:∀i:Int,0<=i->i<n->atD (ll.map .lst) i= .ok (.lst ((bu ps i).map .int))
def wg{n:Int}{ps:gX}(h:Ow n ps):∃ll,gw [owD n ps]= .ok (.lst (ll.map .lst))/\aLy n ps ll:=by
 have hr:=gD (j:=n) (by have:=h.n0;lia) (by have:=h.n1;lia);have kK:(cT 0 n).length=n.toNat:=by rw[iG];lia
 have hn1:=h.n1;have hps:=h.len;have hin:∀p∈ps,0<=p.1/\p.1<(zA2 n.toNat ([]:List D)).length:=λ p hp=>by
  obtain⟨a,b,_⟩:=h.pr p hp;rw[zC6];lia
 obtain⟨s2,s3,e⟩:=aBN (w:=.sh (owD n ps)) ps (zA2 n.toNat []) .no .no hin (λ l hl=>by
  rw[(List.mem_replicate.mp hl).2];simp;lia)
 refine⟨ps.foldl eX (zA2 n.toNat []),?_,by rw[sS,zC6],λ i h0 h1=>?_⟩
 .have hz:n.toNat<16777216:=by lia
  have a1:llS 1 (eZ gO (aB (op2 ixD (aC 0) (cD (.int 0))) aG)) [none] (gnm 0) [.sh (owD n ps),.no,.no,.no]= .nx [.sh (owD n ps),.o2 (zA2 n.toNat []),.no,.no]:=by
   unfold llS;simp[shE,aA4,owD,hr,kK,hz]
  have a2:jP (fB (op2 ixD (aC 0) (cD (.int 1)))) (nC 2 (cJ (gnm 2) (cJ (gnm 3) oA))) (nM 1 (aC 2) (bJ (aC 3))) [.sh (owD n ps),.o2 (zA2 n.toNat []),.no,.no]= .nx [.sh (owD n ps),.o2 (ps.foldl eX (zA2 n.toNat [])),s2,s3]:=by
   have hi:fB (op2 ixD (aC 0) (cD (.int 1))) [.sh (owD n ps),.o2 (zA2 n.toNat []),.no,.no]= .ok (ps.map pD):=by simp[owD]
   rw[fL,hi,bL];exact e
  have a3:retS (aA1 1) [.sh (owD n ps),.o2 (ps.foldl eX (zA2 n.toNat [])),s2,s3]= .rt (.lst ((ps.foldl eX (zA2 n.toNat [])).map .lst)):=by simp
  have st:aq 4 [owD n ps]=[.sh (owD n ps),.no,.no,.no]:=rfl;simp only[gw,iu,bx,st];rw[aN,a1,bB,aN,a2,bB,a3]
 .have hk:i.toNat<(zA2 n.toNat ([]:List D)).length:=by rw[zC6];lia
  have hg:=yS ps (zA2 n.toNat []) i.toNat hin hk;have hk2:i.toNat<(ps.foldl eX (zA2 n.toNat [])).length:=by rw[sS];exact hk
  have hi:((i.toNat:Nat):Int)=i:=zCV h0;rw[hi]at hg;rw[<-hi];refine iD ?_;rw[hi,zAO,zAH hk2]
  have:(ps.foldl eX (zA2 n.toNat []))[i.toNat]=(bu ps i).map .int:=by
   have e1:(ps.foldl eX (zA2 n.toNat [])).getD i.toNat []=(ps.foldl eX (zA2 n.toNat []))[i.toNat]:=by simp[hk2]
   rw[<-e1,hg];have e2:(zA2 n.toNat ([]:List D)).getD i.toNat []=[]:=by
    rw[zA8,zBt];split<;>rfl
   rw[e2,zEa]
  rw[this];rfl
def zj{ps:gX}{a b:Int}:b∈bu ps a↔(a,b)∈ps:=by
 unfold bu;simp only[zAY,zAq];constructor
 .rintro⟨p,⟨h1,h2⟩,rfl⟩
  have:p.1=a:=by simpa using h2
  rw[<-this];exact h1
 .intro h
  exact⟨(a,b),⟨h,by simp⟩,rfl⟩
@[simp] def lenX_set{l:List Int}:aBI [.set l]= .ok (.int l.length):=aO rfl
def upI(n:Int):List Int:=(zAm n.toNat).map λ(k:Nat)=>(k:Int)
def zQ(n:Int):cT 0 n=(upI n).map .int:=by
 unfold cT upI;rw[zAN,show(n-0).toNat=n.toNat by lia];exact zBg λ k _=>by simp
def um(n:Int):(upI n).Nodup:=by
 unfold upI;rw[zDr,zHe];exact zHy.imp λ h e=>h (by lia)
def rW{x n:Int}:x∈upI n↔0<=x/\x<n:=by
 unfold upI;rw[zAY];constructor
 .rintro⟨k,hk,rfl⟩
  have:=zBj.mp hk
  lia
 .rintro⟨h0,h1⟩
  exact⟨x.toNat,zBj.mpr (by lia),by lia⟩
def mJ(n:Int):(upI n).length=n.toNat:=by unfold upI;simp
def vZ{left ws:List Int}(h1:left.Nodup)(h2:ws.Nodup)(h3:∀w∈ws,w∈left):(ws++left.filter λ x=>!decide (x∈ws)).Perm left:=by
 rw[zFy]
 .intro a
  rw[zA3,zAq];constructor
  .rintro(h|h)
   .exact h3 a h
   .exact h.1
  .intro h
   by_cases hw:a∈ws
   .exact .inl hw
   .exact .inr ⟨h,by simp[hw]⟩
 .rw[zAa]
  refine⟨h2,h1.filter _,λ a ha b hb e=>?_⟩;subst e
  have:=(zAq.mp hb).2
  simp[ha]at this
 .exact h1
def pJ{l:List Int}(nd:l.Nodup)(rg:∀x∈l,0<=x/\x<n):l.length<=n.toNat:=by
 have:=nd.length_le_of_subset (l₂:=upI n) λ x hx=>rW.mpr (rg x hx)
 rwa [mJ]at this
theorem aGk{c:En->Rs Bool}{b:En->Ou}{I:Nat->En->Prop}(st:∀m ρ,I m ρ->c ρ= .ok false\/(c ρ= .ok true/\∃ρ' m',b ρ= .nx ρ'/\m'<m/\I m' ρ')):
  ∀(n m:Nat) (ρ:En),m<n->I m ρ->∃ρ' m',itW c b n ρ= .nx ρ'/\I m' ρ'/\c ρ'= .ok false
 |0,_,_,h,_=>absurd h (zFz _)
 |n+1,m,ρ,h,hI=>by
  rcases st m ρ hI with e|⟨e,ρ',m',e2,hm,hI'⟩
  .exact⟨ρ,m,by unfold itW;rw[e];rfl,hI,e⟩
  .obtain⟨ρ2,m2,e3,r⟩:=aGk st n m' ρ' (by lia) hI'
   refine⟨ρ2,m2,?_,r⟩;unfold itW;rw[e,bL,if_pos rfl,e2];exact e3
def aFD{c:En->Rs Bool}{b:En->Ou}(I:Nat->En->Prop)(st:∀m ρ,I m ρ->c ρ= .ok false\/(c ρ= .ok true/\∃ρ' m',b ρ= .nx ρ'/\m'<m/\I m' ρ')){m:Nat}{ρ:En}(hm:m<1000000)(h:I m ρ):
  ∃ρ' m',ul c b ρ= .nx ρ'/\I m' ρ'/\c ρ'= .ok false:=aGk st fuel m ρ hm h
def aB8{ps:List (Int×D)}{i:Int}{neg:Bool}:jz neg (.int i) (az ps)= .ok (.bl (neg !=(ps.lookup i).isSome)):=by
 unfold jz az;dsimp only;rw[jo]
def aMw{ps:List (Int×D)}{i:Int}{d:D}(h:ps.lookup i=some d):sW (az ps) (.int i)= .ok d:=by
 unfold sW az;dsimp only;rw[jo];dsimp only;rw[h]
theorem aAv:∀qs:List (Int×D),mD (qs.map λ q=>.tup [.int q.1,q.2])=some qs
 |[]=>rfl
 |q::qs=>by rw[zAD];unfold mD;rw[aAv qs];rfl
def aLl{fi:En->Rs (List D)}{js:kQ}{fg:D->En->Rs En}{ft:En->Rs Bool}{fk fv:En->Rs D}{ρ:En}{ds:List D}{qs:List (Int×D)}(h1:fi (shE ρ)= .ok ds)(h2:ds.length<16777216)
  (h3:lcL (stE js (shE ρ)) fg ft (pairE fk fv) ds= .ok (qs.map λ q=>.tup [.int q.1,q.2])):dcI fi js fg ft fk fv ρ= .ok (az (jX [] qs)):=by
 unfold dcI;rw[h1,aU,if_pos (by rw[szl];exact h2),h3];dsimp only;rw[aAv]
def aAt{ps:List (Int×D)}{i:Int}{d:D}(h:i∉ps.map (·.1)):pC ps i d=ps++[(i,d)]:=by
 unfold pC;rw[if_neg];rw[zCI];rintro⟨p,hp,e⟩;exact h (zAY.mpr ⟨p,hp,of_decide_eq_true e⟩)
theorem yU:∀{qs acc:List (Int×D)},(acc.map (·.1)++qs.map (·.1)).Nodup->jX acc qs=acc++qs
 |[],acc,_=>by simp[jX]
 |q::qs,acc,h=>by
  have hn:q.1∉acc.map (·.1):=λ hm=>by
   rw[zAa]at h;exact h.2.2 _ hm _ (by simp) rfl
  have e:jX acc (q::qs)=jX (pC acc q.1 q.2) qs:=rfl;rw[e,aAt hn,yU (by simpa using h)];simp
def vI(p:Int×Int):Int×D:=(p.1,.int p.2)
def vT(e:Int):Int×D:=(e,.bl true)
def putN(cm:gX)(i j:Int):gX:=if (cm.any λ p=>decide (p.1=i))=true then cm.map (λ p=>if p.1=i then(p.1,j)else p)else cm++[(i,j)]
def aIK(cm:gX)(i j:Int):pC (cm.map vI) i (.int j)=(putN cm i j).map vI:=by
 unfold pC putN;have e:((cm.map vI).any λ p=>decide (p.1=i))=cm.any λ p=>decide (p.1=i):=by rw[zIl];rfl
 rw[e];split
 .rw[zAN,zAN]
  refine zBg λ p _=>?_
  show(if p.1=i then((p.1,D.int j):Int×D)else vI p)=vI (if p.1=i then(p.1,j)else p)
  split<;>rfl
 .rw[zA7];rfl
theorem aG5(i:Int):∀cm:gX,(cm.map vI).lookup i=(cm.lookup i).map .int
 |[]=>rfl
 |p::cm=>by
  rw[zAD]
  show((p.1,D.int p.2)::cm.map vI).lookup i=(((p.1,p.2)::cm).lookup i).map .int
  rw[zA6,zA6];cases i==p.1
  .exact aG5 i cm
  .rfl
theorem aBF(e:Int):∀tr:List Int,((tr.map vT).lookup e).isSome=decide (e∈tr)
 |[]=>rfl
 |p::tr=>by
  rw[zAD]
  show(((p,D.bl true)::tr.map vT).lookup e).isSome=_
  rw[zA6];by_cases h:e=p
  .subst h;simp
  .have:(e==p)=false:=by simpa using h
   rw[this]
   show((tr.map vT).lookup e).isSome=_
   rw[aBF e tr];simp[h]
def aDL{tr:List Int}{e:Int}(h:e∉tr):pC (tr.map vT) e (.bl true)=(tr++[e]).map vT:=by
 rw[aAt (by rw[zAN];simpa[zCu,vT]using h),zA7];rfl
def wN(cm:gX):flats (cm.map vI)=true:=by
 unfold flats;rw[zFP];exact zAv.mpr λ p _=>rfl
def aB3(tr:List Int):flats (tr.map vT)=true:=by
 unfold flats;rw[zFP];exact zAv.mpr λ p _=>rfl
theorem uZ{i:Int}:∀{cm:gX},cm.lookup i=none↔i∉cm.map (·.1)
 |[]=>by simp
 |p::cm=>by
  obtain⟨a,b⟩:=p;rw[zA6];by_cases h:i=a
  .subst h;simp
  .have:(i==a)=false:=by simpa using h
   rw[this];show cm.lookup i=none↔_;rw[uZ];simp[h]
theorem rY{i j:Int}:∀{cm:gX},cm.lookup i=some j->(i,j)∈cm
 |[],h=>by cases h
 |(a,b)::cm,h=>by
  rw[zA6]at h;by_cases c:i=a
  .subst c
   simp at h;subst h;exact zAK
  .have:(i==a)=false:=by simpa using c
   rw[this]at h;exact zAL _ (rY h)
def aH1(cm:gX)(i:Int):(cm.any λ p=>decide (p.1=i))=(cm.lookup i).isSome:=by
 cases h:cm.lookup i with
 |none=>
  rw[uZ]at h;rw[zGv,zFJ];intro q;obtain⟨p,hp,e⟩:=zCI.mp q;exact h (zAY.mpr ⟨p,hp,of_decide_eq_true e⟩)
 |some j=>exact zCI.mpr ⟨_,rY h,decide_eq_true rfl⟩
def vR{cm:gX}{i j:Int}(h:cm.lookup i=none):putN cm i j=cm++[(i,j)]:=by
 unfold putN;rw[aH1,h];rfl
def vQ{cm:gX}{i j b:Int}(h:cm.lookup i=some b):putN cm i j=cm.map λ p=>if p.1=i then(p.1,j)else p:=by
 unfold putN;rw[aH1,h];rfl
def aER{cm:gX}{i j:Int}(nd:(cm.map (·.1)).Nodup):((putN cm i j).map (·.1)).Nodup:=by
 cases h:cm.lookup i with
 |none=>
  rw[vR h,zA7,zAa];refine⟨nd,by simp,λ a ha b hb e=>?_⟩;rw[uZ]at h
  have:b=i:=by simpa using hb
  exact h (by rw[<-this,<-e];exact ha)
 |some b=>
  rw[vQ h,zAN]
  have:((λ p:Int×Int=>p.1)∘λ p=>if p.1=i then(p.1,j)else p)=λ p=>p.1:=funext λ p=>by
   show(if p.1=i then(p.1,j)else p).1=p.1
   split<;>rfl
  rw[this];exact nd
def aFr{cm:gX}{i j:Int}{p:Int×Int}(h:p∈putN cm i j):p=(i,j)\/p∈cm:=by
 unfold putN at h;split at h
 .obtain⟨q,hq,e⟩:=zAY.mp h
  split at e
  .rename_i c
   rw[<-e,c];exact .inl rfl
  .rw[<-e];exact .inr hq
 .rcases zA3.mp h with h|h
  .exact .inr h
  .exact .inl (by simpa using h)
theorem rZ{i j k:Int}(h:k≠i):∀cm:gX,(cm.map λ p=>if p.1=i then(p.1,j)else p).lookup k=cm.lookup k
 |[]=>rfl
 |(a,b)::cm=>by
  rw[zAD];dsimp only;by_cases c:a=i
  .subst c
   have:(k==a)=false:=by simpa using h
   rw[if_pos rfl,zA6,zA6,this];exact rZ h cm
  .rw[if_neg c,zA6,zA6,rZ h cm]
def aDM{cm:gX}{i j k:Int}(h:k≠i):(putN cm i j).lookup k=cm.lookup k:=by
 cases e:cm.lookup i with
 |some b=>rw[vQ e,rZ h]
 |none=>
  rw[vR e,zDu]
  have:([(i,j)]:gX).lookup k=none:=by
   rw[uZ];simpa using h
  rw[this,Option.or_none]
theorem yG{i j b:Int}:∀{cm:gX},(cm.map (·.1)).Nodup->cm.lookup i=some b->(b::((cm.map λ p=>if p.1=i then(p.1,j)else p).map (·.2))).Perm (j::cm.map (·.2))
 |[],_,h=>by cases h
 |(a,c)::cm,nd,h=>by
  rw[zAD,zAw]at nd;rw[zAD,zAD,zAD];dsimp only;by_cases e:a=i
  .subst e
   rw[zA6]at h;simp at h;subst h;rw[if_pos rfl]
   have:(cm.map λ p=>if p.1=a then(p.1,j)else p)=cm:=by
    conv=>rhs;rw[<-List.map_id cm]
    refine zBg λ p hp=>if_neg λ z=>nd.1 ?_
    rw[<-z];exact zAY.mpr ⟨p,hp,rfl⟩
   rw[this];exact zCG ..
  .rw[if_neg e]
   have e2:(i==a)=false:=by simpa using λ z=>e z.symm
   rw[zA6,e2]at h;exact((zCG ..).trans ((yG nd.2 h).cons c)).trans (zCG ..)
structure Cm(ps:gX)(cm:gX):Prop where
 nd:(cm.map (·.1)).Nodup
 ar:∀p∈cm,(p.2,p.1)∈ps
def Seal(ps cm:gX)(S:List Int):Prop:=∀e∈S,∃b,cm.lookup e=some b/\∀x∈bu ps b,x∈S
structure Tr(n:Int)(tr:List Int):Prop where
 nd:tr.Nodup
 rg:∀e∈tr,0<=e/\e<n
structure FeN(ps cm:gX)(tr tr':List Int):Prop where
 sub:∀e∈tr,e∈tr'
 cl:∀e∈tr',e∉tr->∃b,cm.lookup e=some b/\∀x∈bu ps b,x∈tr'
structure FeY(ps cm:gX)(b:Int)(tr:List Int)(cm':gX):Prop where
 good:Cm ps cm'
 vals:(cm'.map (·.2)).Perm (b::cm.map (·.2))
 keep:∀e∈tr,cm'.lookup e=cm.lookup e
 sl:∀S,Seal ps cm S->(∀e∈S,cm'.lookup e=cm.lookup e)/\∃x∈bu ps b,x∉S
abbrev feE(L:D)(cm:gX)(b:Int)(tr:List Int)(s:Slot):En:=[.sh L,.ow (az (cm.map vI)),.sh (.int b),.ow (az (tr.map vT)),s]
def feB(R:FB):En->OB:=ifB (tsb (op2 (jz true) (aC 4) (bw 3))) (mV (pF 3 (aC 4) (cD (.bl true))) (ifC (tsb (op2 (jz true) (aC 4) (bw 1))) (nJ R (op2 sW (bw 1) (aC 4))) (mV (pF 1 (aC 4) (bJ (aC 2))) (xP (cD (.bl true)))))) .nx
def qO(R:FB):b8 R=mV (aHD (fB (op2 ixD (aC 0) (aC 2))) (gnm 4) (feB R)) (xP (cD (.bl false))):=rfl
def gF(ps:List (Int×D)):gQ (ps.map λ p=>.int p.1) (ps.map (·.2))=some ps:=jo ps
section
variable{L:D}{cm:gX}{b e:Int}{tr:List Int}{R:FB}
def aHG:tsb (op2 (jz true) (aC 4) (bw 3)) (feE L cm b tr (.sh (.int e)))= .ok (!decide (e∈tr)):=by
 simp[aB8,aBF]
def aDn:tsb (op2 (jz true) (aC 4) (bw 1)) (feE L cm b tr (.sh (.int e)))= .ok (!(cm.lookup e).isSome):=by
 simp[aB8,aG5]
def aLi(hn:e∉tr)(hl:tr.length<16777216):pF 3 (aC 4) (cD (.bl true)) (feE L cm b tr (.sh (.int e)))= .nx (feE L cm b (tr++[e]) (.sh (.int e))):=by
 unfold pF pdS;simp only[uT,aKD]
 show(Rs.bo (.ok (D.bl true)) λ d=>Rs.bo (.ok (D.int e)) λ k=>match jR (az (tr.map vT)) k with
  |some (ps,j)=>if ps.length<zAQ then Ou.nx ((feE L cm b tr (.sh (.int e))).set 3 (.ow (az (pC ps j d))))else .st
  |none=>.st).ob=_
 rw[bL,bL];have e1:jR (az (tr.map vT)) (.int e)=some (tr.map vT,e):=by
  unfold jR az;dsimp only;rw[gF];rfl
 rw[e1];dsimp only;rw[if_pos (by rw[szl,zAE];exact hl),aDL hn];rfl
def aDm(hl:cm.length<16777216):mV (pF 1 (aC 4) (bJ (aC 2))) (xP (cD (.bl true))) (feE L cm b tr (.sh (.int e)))= .rt (.bl true) (feE L (putN cm e b) b tr (.sh (.int e))):=by
 have:pF 1 (aC 4) (bJ (aC 2)) (feE L cm b tr (.sh (.int e)))= .nx (feE L (putN cm e b) b tr (.sh (.int e))):=by
  unfold pF pdS
  show(Rs.bo (bJ (aC 2) (feE L cm b tr (.sh (.int e)))) λ d=>Rs.bo (.ok (D.int e)) λ k=>match jR (az (cm.map vI)) k with
   |some (ps,j)=>if ps.length<zAQ then Ou.nx ((feE L cm b tr (.sh (.int e))).set 1 (.ow (az (pC ps j d))))else .st
   |none=>.st).ob=_
  have e0:bJ (aC 2) (feE L cm b tr (.sh (.int e)))= .ok (.int b):=by simp
  have e1:jR (az (cm.map vI)) (.int e)=some (cm.map vI,e):=by
   unfold jR az;dsimp only;rw[gF];rfl
  rw[e0,bL,bL,e1];dsimp only;rw[if_pos (by rw[szl,zAE];exact hl),aIK];rfl
 unfold mV;rw[this];rfl
def aJK(h:e∈tr):feB R (feE L cm b tr (.sh (.int e)))= .nx (feE L cm b tr (.sh (.int e))):=by
 unfold feB ifB;rw[aHG,aBf,decide_eq_true h];rfl
def aMs(h:e∉tr)(hl:tr.length<16777216):feB R (feE L cm b tr (.sh (.int e)))=ifC (tsb (op2 (jz true) (aC 4) (bw 1))) (nJ R (op2 sW (bw 1) (aC 4))) (mV (pF 1 (aC 4) (bJ (aC 2))) (xP (cD (.bl true)))) (feE L cm b (tr++[e]) (.sh (.int e))):=by
 unfold feB ifB;rw[aHG,aBf,decide_eq_false h,zDF,if_pos rfl];unfold mV;rw[aLi h hl];rfl
def aJL(h:cm.lookup e=none)(hl:cm.length<16777216):ifC (tsb (op2 (jz true) (aC 4) (bw 1))) (nJ R (op2 sW (bw 1) (aC 4))) (mV (pF 1 (aC 4) (bJ (aC 2))) (xP (cD (.bl true)))) (feE L cm b tr (.sh (.int e)))= .rt (.bl true) (feE L (putN cm e b) b tr (.sh (.int e))):=by
 unfold ifC;rw[aDn,aBf,h,zGv,zDF,if_pos rfl,aDm hl]
def aJM{b1:Int}(h:cm.lookup e=some b1){r:Bool}{cm1:gX}{tr1:List Int}(hR:R L (cm.map vI) (.int b1) (tr.map vT)=some (r,cm1.map vI,tr1.map vT)):
  ifC (tsb (op2 (jz true) (aC 4) (bw 1))) (nJ R (op2 sW (bw 1) (aC 4))) (mV (pF 1 (aC 4) (bJ (aC 2))) (xP (cD (.bl true)))) (feE L cm b tr (.sh (.int e)))=
   if r=true then mV (pF 1 (aC 4) (bJ (aC 2))) (xP (cD (.bl true))) (feE L cm1 b tr1 (.sh (.int e)))else .nx (feE L cm1 b tr1 (.sh (.int e))):=by
 have c:nJ R (op2 sW (bw 1) (aC 4)) (feE L cm b tr (.sh (.int e)))=some (r,feE L cm1 b tr1 (.sh (.int e))):=by
  have e2:op2 sW (bw 1) (aC 4) (feE L cm b tr (.sh (.int e)))= .ok (.int b1):=by
   have:sW (az (cm.map vI)) (.int e)= .ok (.int b1):=aMw (by rw[aG5,h];rfl)
   simp[this]
  have o1:m7 (some (.ow (az (cm.map vI))))=some (cm.map vI):=gF _;have o3:m7 (some (.ow (az (tr.map vT))))=some (tr.map vT):=gF _;unfold nJ;rw[e2]
  show(match (some (.sh L:Slot)),m7 (some (.ow (az (cm.map vI)))),Rs.ok (D.int b1),m7 (some (.ow (az (tr.map vT))))with
   |some (.sh d0),some c,.ok d2,some t=>if flats c=true/\flats t=true/\flat d2=true then(R d0 c d2 t).map λ q:Bool×List (Int×D)×List (Int×D)=>(q.1,((feE L cm b tr (.sh (.int e))).set 1 (.ow (az q.2.1))).set 3 (.ow (az q.2.2)))else none
   |_,_,_,_=>none)=_
  rw[o1,o3];dsimp only;rw[if_pos ⟨wN _,aB3 _,rfl⟩,hR];rfl
 unfold ifC;rw[aDn,aBf,h,zEn,zCS,if_neg zA0,c];cases r<;>rfl
end
section
variable{L:D}{cm:gX}{b n:Int}{tr:List Int}{R:FB}{ps:gX}
def aDj{f:En->OB}{d:D}{ds:List D}{ρ ρ2:En}(h:f (ρ.set 4 (.sh d))= .nx ρ2):ju (gnm 4) f (d::ds) ρ=ju (gnm 4) f ds ρ2:=by
 show(match f (ρ.set 4 (.sh d))with
  | .nx ρ2=>ju (gnm 4) f ds ρ2
  |o=>o)=_
 rw[h]
def aDi{f:En->OB}{d r:D}{ds:List D}{ρ ρ2:En}(h:f (ρ.set 4 (.sh d))= .rt r ρ2):ju (gnm 4) f (d::ds) ρ= .rt r ρ2:=by
 show(match f (ρ.set 4 (.sh d))with
  | .nx ρ2=>ju (gnm 4) f ds ρ2
  |o=>o)=_
 rw[h]
def Cm.len(C:Cm ps cm)(hW:Ow n ps):cm.length<=n.toNat:=by
 rw[<-zAE (f:=λ p:Int×Int=>p.1)];refine pJ C.nd λ x hx=>?_
 obtain⟨p,hp,rfl⟩:=zAY.mp hx
 have:=hW.pr _ (C.ar p hp)
 exact⟨this.2.2.1,this.2.2.2.1⟩
def Tr.len(T:Tr n tr):tr.length<=n.toNat:=pJ T.nd T.rg
def Tr.snoc{e:Int}(T:Tr n tr)(h:e∉tr)(h1:0<=e/\e<n):Tr n (tr++[e]):=by
 refine⟨zAa.mpr ⟨T.nd,by simp,λ x hx y hy z=>h ?_⟩,λ x hx=>?_⟩
 .have:y=e:=by simpa using hy
  rw[<-this,<-z];exact hx
 .rcases zA3.mp hx with hx|hx
  .exact T.rg x hx
  .rw[zAM.mp hx];exact h1
def aNH(n:Int)(ps:gX)(R:FB)(L:D)(b:Int)(tr:List Int)(cm:gX):Prop:=∃r cm' tr',R L (cm.map vI) (.int b) (tr.map vT)=some (r,cm'.map vI,tr'.map vT)/\Tr n tr'/\
 ((r=false/\cm'=cm/\(∀e∈bu ps b,e∈tr')/\FeN ps cm tr tr')\/(r=true/\FeY ps cm b tr cm'))
def sub_len{l m:List Int}(nd:l.Nodup)(h:∀x∈l,x∈m):l.length<=m.length:=nd.length_le_of_subset h
def aDl{e:Int}{t:List Int}{cm1:gX}(C:Cm ps cm1)(he:(b,e)∈ps)(ht:∀x∈tr,x≠e)(hv:((putN cm1 e b).map (·.2)).Perm (b::cm.map (·.2)))(hk:∀x∈tr,cm1.lookup x=cm.lookup x)(hs:∀S,Seal ps cm S->e∉S/\∀x∈S,cm1.lookup x=cm.lookup x):FeY ps cm b tr (putN cm1 e b):=by
 refine⟨⟨aER C.nd,λ p hp=>?_⟩,hv,λ x hx=>by rw[aDM (ht x hx)];exact hk x hx,λ S hS=>?_⟩
 .rcases aFr hp with rfl|hp
  .exact he
  .exact C.ar p hp
 .obtain⟨h1,h2⟩:=hs S hS
  exact⟨λ x hx=>by rw[aDM (show x≠e from λ z=>h1 (z▸hx))];exact h2 x hx,e,zj.mpr he,h1⟩
theorem aAF{k:Nat}(hW:Ow n ps)(C:Cm ps cm)(IH:∀b1 t1,0<=b1/\b1<n->Tr n t1->n.toNat<k+t1.length->aNH n ps R L b1 t1 cm)(T0:Tr n tr)(hk:n.toNat<k+1+tr.length):
  ∀(es t:List Int) (s:Slot),(∀e∈es,e∈bu ps b)->Tr n t->FeN ps cm tr t->
   (∃t' s',ju (gnm 4) (feB R) (es.map .int) (feE L cm b t s)= .nx (feE L cm b t' s')/\Tr n t'/\FeN ps cm tr t'/\(∀e∈t,e∈t')/\∀e∈es,e∈t')\/
   (∃cm' t' s',ju (gnm 4) (feB R) (es.map .int) (feE L cm b t s)= .rt (.bl true) (feE L cm' b t' s')/\Tr n t'/\FeY ps cm b tr cm')
 |[],t,s,_,T,F=>.inl ⟨t,s,rfl,T,F,λ _ h=>h,λ _ h=>nomatch h⟩
 |e::es,t,s,hes,T,F=>by
  have hn:=hW.n1;have tl:=T.len;have cl:=C.len hW;have hm:=zj.mp (hes e zAK);have he:=hW.pr _ hm;have aE:∀x∈es,x∈bu ps b:=λ x hx=>hes x (zAL _ hx)
  rw[zAD];by_cases hin:e∈t
  .rw[aDj (ρ2:=feE L cm b t (.sh (.int e))) (aJK hin)]
   rcases aAF hW C IH T0 hk es t (.sh (.int e)) aE T F with ⟨t',s',h1,h2,h3,h4,h5⟩|h
   .exact .inl ⟨t',s',h1,h2,h3,h4,λ x hx=>(zAT.mp hx).elim (λ z=>z▸h4 e hin) (h5 x)⟩
   .exact .inr h
  .have T1:=T.snoc hin ⟨he.2.2.1,he.2.2.2.1⟩
   have hne:∀x∈tr,x≠e:=λ x hx z=>hin (z▸F.sub x hx)
   have st:feB R ((feE L cm b t s).set 4 (.sh (.int e)))=_:=aMs hin (by lia);cases hl:cm.lookup e with
   |none=>
    rw[aJL hl (by lia)]at st;refine .inr ⟨putN cm e b,t++[e],_,aDi st,T1,aDl (t:=t) C hm hne ?_ (λ _ _=>rfl) λ S hS=>⟨λ z=>?_,λ _ _=>rfl⟩⟩
    .rw[vR hl,zA7]
     exact List.perm_append_comm
    .obtain⟨b',h1,_⟩:=hS e z
     rw[hl]at h1;cases h1
   |some b1=>
    have hb1:=hW.pr _ (C.ar _ (rY hl));have tsub:=sub_len T0.nd F.sub;obtain⟨r,cm1,t1,h1,T2,h3⟩:=IH b1 (t++[e]) ⟨hb1.1,hb1.2.1⟩ T1 (by rw[zA9];simp only[zE9];lia);rw[aJM hl h1]at st;rcases h3 with ⟨rfl,q1,h5,h6⟩|⟨rfl,Y⟩
    .have q2:=q1.symm
     subst q2;rw[if_neg zA0]at st;rw[aDj st];have tt:∀x∈t,x∈t1:=λ x hx=>h6.sub x (zAb _ hx)
     have F1:FeN ps cm tr t1:=by
      refine⟨λ x hx=>tt x (F.sub x hx),λ x hx hn=>?_⟩;by_cases hx2:x∈t++[e]
      .rcases zA3.mp hx2 with hx3|hx3
       .obtain⟨b',g1,g2⟩:=F.cl x hx3 hn
        exact⟨b',g1,λ y hy=>tt y (g2 y hy)⟩
       .rw[zAM.mp hx3]
        exact⟨b1,hl,h5⟩
      .exact h6.cl x hx hx2
     rcases aAF hW C IH T0 hk es t1 (.sh (.int e)) aE T2 F1 with ⟨t',s',g1,g2,g3,g4,g5⟩|h
     .exact .inl ⟨t',s',g1,g2,g3,λ x hx=>g4 x (tt x hx),λ x hx=>(zAT.mp hx).elim (λ z=>g4 x (h6.sub x (by rw[z];simp))) (g5 x)⟩
     .exact .inr h
    .have l1:=Y.good.len hW
     rw[if_pos rfl,aDm (by lia)]at st;have hl1:cm1.lookup e=some b1:=(Y.keep e (by simp)).trans hl;refine .inr ⟨putN cm1 e b,t1,_,aDi st,T2,aDl (t:=t) Y.good hm hne ?_ (λ x hx=>Y.keep x (zAb _ (F.sub x hx))) λ S hS=>⟨λ z=>?_,(Y.sl S hS).1⟩⟩
     .have p1:=yG (j:=b) Y.good.nd hl1
      rw[<-vQ hl1]at p1;exact(List.perm_cons b1).mp ((p1.trans (Y.vals.cons b)).trans (zCG ..))
     .obtain⟨b',g1,g2⟩:=hS e z
      rw[hl]at g1;cases g1;obtain⟨x,g3,g4⟩:=(Y.sl S hS).2;exact g4 (g2 x g3)
theorem aJy{ll:List (List D)}(hW:Ow n ps)(N:aLy n ps ll):∀(k:Nat) (b:Int) (tr:List Int) (cm:gX),Cm ps cm->0<=b/\b<n->Tr n tr->n.toNat<k+tr.length->aNH n ps (bf k) (.lst (ll.map .lst)) b tr cm
 |0,b,tr,cm,_,_,T,h=>absurd T.len (by lia)
 |k+1,b,tr,cm,C,hb,T,h=>by
  have hf:aHD (fB (op2 ixD (aC 0) (aC 2))) (gnm 4) (feB (bf k)) (feE (.lst (ll.map .lst)) cm b tr .no)=ju (gnm 4) (feB (bf k)) ((bu ps b).map .int) (feE (.lst (ll.map .lst)) cm b tr .no):=by
   have:fB (op2 ixD (aC 0) (aC 2)) (feE (.lst (ll.map .lst)) cm b tr .no)= .ok ((bu ps b).map .int):=by
    simp[N.item b hb.1 hb.2]
   unfold aHD;rw[this,aBf]
  have run:∀r cm' t' s',b8 (bf k) (feE (.lst (ll.map .lst)) cm b tr .no)= .rt (.bl r) (feE (.lst (ll.map .lst)) cm' b t' s')->bf (k+1) (.lst (ll.map .lst)) (cm.map vI) (.int b) (tr.map vT)=some (r,cm'.map vI,t'.map vT):=λ r cm' t' s' e=>by
   show aF8 5 (b8 (bf k)) _ _ _ _=_;unfold aF8
   show(match b8 (bf k) (feE (.lst (ll.map .lst)) cm b tr .no)with
    | .rt (.bl r) ρ=>aE1 r ρ
    |_=>none)=_
   rw[e];show aE1 r (feE (.lst (ll.map .lst)) cm' b t' s')=_;have o1:m7 (some (.ow (az (cm'.map vI))))=some (cm'.map vI):=gF _;have o3:m7 (some (.ow (az (t'.map vT))))=some (t'.map vT):=gF _;unfold aE1
   show(match m7 (some (.ow (az (cm'.map vI)))),m7 (some (.ow (az (t'.map vT))))with
    |some c,some t=>if flats c=true/\flats t=true then some (r,c,t)else none
    |_,_=>none)=_
   rw[o1,o3];dsimp only;rw[if_pos ⟨wN _,aB3 _⟩]
  rcases aAF (R:=bf k) (L:=.lst (ll.map .lst)) (b:=b) hW C (λ b1 t1 h1 h2 h3=>aJy hW N k b1 t1 cm C h1 h2 h3) T (by lia) (bu ps b) tr .no (λ _ h=>h) T ⟨λ _ h=>h,λ e h1 h2=>absurd h1 h2⟩with ⟨t',s',g1,g2,g3,g4,g5⟩|⟨cm',t',s',g1,g2,g3⟩
  .refine⟨false,cm,t',run _ _ _ s' ?_,g2,.inl ⟨rfl,rfl,g5,g3⟩⟩
   rw[qO];unfold mV;rw[hf,g1];rfl
  .refine⟨true,cm',t',run _ _ _ s' ?_,g2,.inr ⟨rfl,g3⟩⟩
   rw[qO];unfold mV;rw[hf,g1];rfl
end
structure Prd(n:Int)(ps cm:gX)(S:List Int):Prop where
 c:Cm ps cm
 nv:(cm.map (·.2)).Nodup
 sl:Seal ps cm S
 al:∀b,0<=b->b<n->b∈cm.map (·.2)\/∀x∈bu ps b,x∈S
abbrev paE(n:Int)(ps:gX)(L:D)(cm:gX)(s:Slot):En:=[.sh (owD n ps),.sh L,.ow (az (cm.map vI)),s]
def aMt{n b:Int}{ps cm cm':gX}{L:D}{r:Bool}{t':List Int}(h:gr L (cm.map vI) (.int b) ([]:List (Int×D))=some (r,cm'.map vI,t'.map vT)):fbS 1 2 gr (aC 3) (paE n ps L cm (.sh (.int b)))= .nx (paE n ps L cm' (.sh (.int b))):=by
 have o1:m7 (some (.ow (az (cm.map vI))))=some (cm.map vI):=gF _;unfold fbS
 show(match (some (.sh L:Slot)),m7 (some (.ow (az (cm.map vI))))with
  |some (.sh d0),some c=>(Rs.ok (D.int b)).bo λ d2=>if flats c=true/\flat d2=true then(match gr d0 c d2 []with
   |some (_,c',_)=>Ou.nx ((paE n ps L cm (.sh (.int b))).set 2 (.ow (az c')))
   |none=>.st)else .st
  |_,_=>.st)=_
 rw[o1];dsimp only;rw[bL,if_pos ⟨wN _,rfl⟩,h];rfl
def aEY{n:Int}{ps:gX}(hW:Ow n ps):∃cm S,cW [owD n ps]= .ok (az (cm.map vI))/\Prd n ps cm S:=by
 obtain⟨ll,e1,N⟩:=wg hW;have h0:=hW.n0;have h1:=hW.n1;obtain⟨ρ',g1,cm,S,s,rfl,g3,g4,g5,g6,g7⟩:=cU (a:=gnm 3) (u:=fbS 1 2 gr (aC 3)) ((upI n).map D.int) (λ(i:Nat) ρ=>∃(cm:gX) (S:List Int) (s:Slot),ρ=paE n ps (.lst (ll.map .lst)) cm s/\Cm ps cm/\(cm.map (·.2)).Nodup/\(∀v∈cm.map (·.2),v<(i:Int))/\Seal ps cm S/\∀b:Int,0<=b->b<(i:Int)->b∈cm.map (·.2)\/∀x∈bu ps b,x∈S)
  (paE n ps (.lst (ll.map .lst)) [] .no) ⟨[],[],.no,rfl,⟨zBu,λ _ h=>nomatch h⟩,zBu,λ _ h=>(nomatch h),λ _ h=>(nomatch h),λ b h1 h2=>by lia⟩ (by
  rintro i d ρ hd ⟨cm,S,s,rfl,C,nv,lt,sl,al⟩;have hi:i<n.toNat:=by
   have:=(zAP.mp hd).1
   rwa [zAE,mJ]at this
  have ed:d= .int (i:Int):=by
   rw[zAO,upI,zAO,zDi hi]at hd;simpa using hd.symm
  subst ed;obtain⟨r,cm',t',q1,q2,q3⟩:=aJy hW N 64 i [] cm C (by lia) ⟨zBu,λ _ h=>nomatch h⟩ (by simp;lia);refine⟨_,by rw[show gnm 3 (D.int (i:Int)) (paE n ps (.lst (ll.map .lst)) cm s)= .ok (paE n ps (.lst (ll.map .lst)) cm (.sh (.int i)))from rfl];exact aMt q1,?_⟩;rcases q3 with ⟨_,rfl,q5,q6⟩|⟨_,Y⟩
  .refine⟨cm',S++t',_,rfl,C,nv,λ v hv=>Int.lt_trans (lt v hv) (by lia),λ e he=>?_,λ b b0 b1=>?_⟩
   .rcases zA3.mp he with he|he
    .obtain⟨b,p1,p2⟩:=sl e he
     exact⟨b,p1,λ x hx=>zAb _ (p2 x hx)⟩
    .obtain⟨b,p1,p2⟩:=q6.cl e he (λ z=>nomatch z)
     exact⟨b,p1,λ x hx=>zAd _ (p2 x hx)⟩
   .by_cases hb:b=i
    .subst hb
     exact .inr λ x hx=>zAd _ (q5 x hx)
    .exact(al b b0 (by lia)).imp id λ h x hx=>zAb _ (h x hx)
  .have mv:∀v:Int,v∈cm'.map (·.2)↔v=i\/v∈cm.map (·.2):=λ v=>by rw[Y.vals.mem_iff,zAT]
   refine⟨cm',S,_,rfl,Y.good,Y.vals.nodup_iff.mpr (zAw.mpr ⟨λ z=>by have:=lt _ z;lia,nv⟩),λ v hv=>?_,λ e he=>?_,λ b b0 b1=>?_⟩
   .rcases(mv v).mp hv with z|z
    .lia
    .have:=lt v z;lia
   .rw[(Y.sl S sl).1 e he]
    exact sl e he
   .by_cases hb:b=i
    .exact .inl ((mv b).mpr (.inl hb))
    .exact(al b b0 (by lia)).imp (λ h=>(mv b).mpr (.inr h)) id)
 refine⟨cm,S,?_,g3,g4,g6,λ b b0 b1=>g7 b b0 (by rw[zAE,mJ];lia)⟩;have st:aq 4 [owD n ps]=[.sh (owD n ps),.no,.no,.no]:=rfl;have a1:bU 1 (aP gw (aB (aC 0) aG)) [.sh (owD n ps),.no,.no,.no]= .nx [.sh (owD n ps),.sh (.lst (ll.map .lst)),.no,.no]:=by simp[e1]
 have a2:pY 2 (cD (.dct [] [])) [.sh (owD n ps),.sh (.lst (ll.map .lst)),.no,.no]= .nx (paE n ps (.lst (ll.map .lst)) [] .no):=rfl;have r1:eZ gO (aB (op2 ixD (aC 0) (cD (.int 0))) aG) (paE n ps (.lst (ll.map .lst)) [] .no)= .ok ((upI n).map D.int):=by
  have hr:=gD (j:=n) (by lia) (by lia);rw[<-zQ];simp[owD,hr]
 simp only[cW,kE,bx,st];rw[aN,a1,bB,aN,a2,bB,aN,fL,r1,bL,g1,bB];rfl
def zz(cm:gX):wC ((cm.map vI).map λ p=>.int p.1) ((cm.map vI).map (·.2))=some cm:=by
 unfold wC;rw[gF];dsimp only;rw[zAN,zAN];have e1:intsOf (cm.map ((λ x:Int×D=>x.2)∘vI))=some (cm.map (·.2)):=by
  rw[show cm.map ((λ x:Int×D=>x.2)∘vI)=(cm.map (·.2)).map .int by rw[zAN];rfl];exact cH _
 rw[e1];show some ((cm.map λ p=>p.1).zip (cm.map λ p=>p.2))=some cm;congr 1;clear e1;induction cm with
 |nil=>rfl
 |cons p cm ih=>rw[zAD,zAD,zAu,ih]
section
variable{n:Int}{ps cm:gX}{S:List Int}
def aDg{f:En->Rs D}{ρ:En}(h:f ρ= .ok (az (cm.map vI))):aAE f ρ= .ok (.itm none cm):=by
 unfold aAE;rw[h,aU]
 show(match wC ((cm.map vI).map λ p=>.int p.1) ((cm.map vI).map (·.2))with
  |some l=>Rs.ok (D.itm none l)
  |none=>.st)=_
 rw[zz]
def xT(hW:Ow n ps)(h:cW [owD n ps]= .ok (az (cm.map vI))):dB [owD n ps]= .ok (.int cm.length):=by
 have st:aq 1 [owD n ps]=[.sh (owD n ps)]:=rfl;have e1:=gn hW;have e2:aE6 [az (cm.map vI)]= .ok (.int cm.length):=by
  unfold aE6 az;dsimp only;rw[gF];dsimp only;rw[zAE]
 simp only[dB,eF,bx,st];simp[e1,h,e2]
def Prd.ends(P:Prd n ps cm S)(hW:Ow n ps):(cm.map λ p=>(p.2,p.1)).Nodup/\cm.length<64:=by
 refine⟨?_,?_⟩
 .have:=P.nv
  rw[show cm.map (·.2)=(cm.map λ p=>(p.2,p.1)).map (·.1)by rw[zAN];rfl]at this;exact zIk _ (λ a b h e=>h (by rw[e])) this
 .have:=P.c.len hW
  have:=hW.n1
  lia
def xG(hW:Ow n ps)(P:Prd n ps cm S)(h:cW [owD n ps]= .ok (az (cm.map vI))):∃qs:gX,cj [owD n ps]= .ok (.tup (qs.map pD))/\qs.Perm (cm.map λ p=>(p.2,p.1))/\rO qs=true:=by
 obtain⟨nd,hl⟩:=P.ends hW;obtain⟨qs,e3,e4,e5⟩:=uy nd (by rw[zAE];exact hl);refine⟨qs,?_,e4,e5⟩;have st:aq 1 [owD n ps]=[.sh (owD n ps)]:=rfl;have e1:=gn hW;have e2:lcD (aGh (aAE (aP cW (aB (aC 0) aG)))) [none,none] (nC 2 (cJ (gnm 0) (cJ (gnm 1) oA))) gR (cF (aB (bJ (aC 1)) (aB (bJ (aC 0)) aG))) [.sh (owD n ps)]= .ok (.lst ((cm.map λ p=>(p.2,p.1)).map pD)):=by
  have f1:aAE (aP cW (aB (aC 0) aG)) (shE [.sh (owD n ps)])= .ok (.itm none cm):=aDg (by simp[shE,aA4,h]);have f2:aGh (aAE (aP cW (aB (aC 0) aG))) (shE [.sh (owD n ps)])= .ok (cm.map pD):=by
   unfold aGh;rw[f1,aU];rfl
  refine jd f2 (by rw[zAE];lia) ?_;rw[zAN];exact nA cm λ q hq=>⟨_,rfl,rfl⟩
 have e6:qs.length<=16777216:=by rw[e4.length_eq,zAE];lia
 rw[zAN]at e2 e3;simp only[cj,du,bx,st];simp[e1,e2,e3,e6]
end
def par(cm:gX)(e:Int):Int:=(cm.lookup e).getD 0
abbrev smE(n:Int)(ps:gX)(L:D)(cm:gX)(K:D)(bs en:List Int)(a:Int)(s7 s8:Slot):En:=[.sh (owD n ps),.sh L,.sh (.itm none cm),.sh K,.ow (.lst (bs.map .int)),.ow (az (en.map vT)),.sh (.int a),s7,s8]
def smI:En->Ou:=ifS (tsb (op2 (jz true) (aC 8) (bw 5))) (ao (pdS 5 (aC 8) (cD (.bl true))) (sY 4 (op2 aC6 (aC 2) (aC 8)))) Ou.nx
def smB:En->Ou:=ao (bU 7 (bJ (op2 ixD (bw 4) (aC 6)))) (ao (jP (fB (op2 ixD (aC 1) (aC 7))) (gnm 8) smI) (aJX (i2 (λ _ _=>true) λ a b=>.int (a+b)) 6 (cD (.int 1))))
section
variable{n:Int}{ps cm:gX}{bs en:List Int}{L K:D}{a:Int}{s7:Slot}
def aKR{e:Int}(h:e∈en):smI (smE n ps L cm K bs en a s7 (.sh (.int e)))= .nx (smE n ps L cm K bs en a s7 (.sh (.int e))):=by
 simp[smI,aB8,aBF,h]
def aKS{e b:Int}(h:e∉en)(hb:cm.lookup e=some b)(h1:en.length<16777216)(h2:bs.length<16777216):smI (smE n ps L cm K bs en a s7 (.sh (.int e)))= .nx (smE n ps L cm K (bs++[b]) (en++[e]) a s7 (.sh (.int e))):=by
 have e1:jR (az (en.map vT)) (.int e)=some (en.map vT,e):=by
  unfold jR az;dsimp only;rw[gF];rfl
 have a1:pdS 5 (aC 8) (cD (.bl true)) (smE n ps L cm K bs en a s7 (.sh (.int e)))= .nx (smE n ps L cm K bs (en++[e]) a s7 (.sh (.int e))):=by
  unfold pdS
  show(Rs.bo (.ok (D.bl true)) λ d=>Rs.bo (.ok (D.int e)) λ k=>match jR (az (en.map vT)) k with
   |some (ps',j)=>if ps'.length<zAQ then Ou.nx ((smE n ps L cm K bs en a s7 (.sh (.int e))).set 5 (.ow (az (pC ps' j d))))else .st
   |none=>.st)=_
  rw[bL,bL,e1];dsimp only;rw[if_pos (by rw[szl,zAE];exact h1),aDL h];rfl
 have a2:sY 4 (op2 aC6 (aC 2) (aC 8)) (smE n ps L cm K bs (en++[e]) a s7 (.sh (.int e)))= .nx (smE n ps L cm K (bs++[b]) (en++[e]) a s7 (.sh (.int e))):=by
  have:aC6 (.itm none cm) (.int e)= .ok (.int b):=by
   unfold aC6;dsimp only;rw[hb]
  unfold sY;simp[this,h2]
 have c1:tsb (op2 (jz true) (aC 8) (bw 5)) (smE n ps L cm K bs en a s7 (.sh (.int e)))= .ok true:=by simp[aB8,aBF,h]
 unfold smI;rw[fW,c1,bL,if_pos rfl,aN,a1,bB,a2]
end
section
variable{n:Int}{ps cm:gX}{S:List Int}{L K:D}
def b0(n:Int)(cm:gX):List Int:=(upI n).filter λ x=>!decide (x∈cm.map (·.2))
def Prd.rg(P:Prd n ps cm S)(hW:Ow n ps){e:Int}(h:e∈S):(0<=e/\e<n)/\∃b,cm.lookup e=some b/\par cm e=b/\(b,e)∈ps/\(0<=b/\b<n)/\b∈cm.map (·.2)/\∀x∈bu ps b,x∈S:=by
 obtain⟨b,h1,h2⟩:=P.sl e h;have hm:=rY h1;have ha:=P.c.ar _ hm;have hr:=hW.pr _ ha;exact⟨⟨hr.2.2.1,hr.2.2.2.1⟩,b,h1,by unfold par;rw[h1];rfl,ha,⟨hr.1,hr.2.1⟩,zAY.mpr ⟨_,hm,rfl⟩,h2⟩
def Prd.led(P:Prd n ps cm S)(hW:Ow n ps){en:List Int}(hs:∀e∈en,e∈S){b:Int}(hb:b∈b0 n cm++en.map (par cm)):(0<=b/\b<n)/\∀x∈bu ps b,x∈S:=by
 rcases zA3.mp hb with h|h
 .obtain⟨h1,h2⟩:=zAq.mp h
  have hr:=rW.mp h1;refine⟨hr,(P.al b hr.1 hr.2).resolve_left λ z=>?_⟩;rw[decide_eq_true z]at h2;cases h2
 .obtain⟨e,he,rfl⟩:=zAY.mp h
  obtain⟨_,b,_,h2,_,h3,_,h4⟩:=P.rg hW (hs e he);rw[h2];exact⟨h3,h4⟩
def aKT(hW:Ow n ps)(P:Prd n ps cm S){en:List Int}{b a:Int}{s7 s8:Slot}(nd:en.Nodup)(hs:∀e∈en,e∈S)(hb:∀x∈bu ps b,x∈S):
  ∃en' s8',forL (gnm 8) smI ((bu ps b).map .int) (smE n ps L cm K (b0 n cm++en.map (par cm)) en a s7 s8)= .nx (smE n ps L cm K (b0 n cm++(en++en').map (par cm)) (en++en') a s7 s8')/\(en++en').Nodup/\(∀e∈en++en',e∈S)/\∀x∈bu ps b,x∈en++en':=by
 have hn:=hW.n1;have hb0:(b0 n cm).length<=n.toNat:=by
  have:=zGi (λ x=>!decide (x∈cm.map (·.2))) (upI n)
  rw[mJ]at this;exact this
 obtain⟨ρ',g1,en',s8',rfl,g3,g4,g5⟩:=cU (a:=gnm 8) (u:=smI) ((bu ps b).map D.int) (λ(i:Nat) ρ=>∃(en':List Int) (s8':Slot),ρ=smE n ps L cm K (b0 n cm++(en++en').map (par cm)) (en++en') a s7 s8'/\(en++en').Nodup/\(∀e∈en++en',e∈S)/\∀x∈(bu ps b).take i,x∈en++en')
  (smE n ps L cm K (b0 n cm++en.map (par cm)) en a s7 s8) ⟨[],s8,by rw[zB0],by rw[zB0];exact nd,by rw[zB0];exact hs,λ _ h=>nomatch h⟩ (by
  rintro i d ρ hd ⟨en',s8',rfl,nd',hs',ht⟩;rw[zAO]at hd;cases hx:(bu ps b)[i]? with
  |none=>rw[hx]at hd;cases hd
  |some x=>
   rw[hx]at hd;cases hd;have hxm:x∈bu ps b:=zAt hx;obtain⟨hr,c,h1,h2,_⟩:=P.rg hW (hb x hxm);have hl:(en++en').length<=n.toNat:=pJ nd' λ e he=>(P.rg hW (hs' e he)).1
   have tk:∀(q:List Int),(∀y∈en++en',y∈q)->x∈q->∀y∈(bu ps b).take (i+1),y∈q:=λ q h3 h4 y hy=>by
    rw[zGM,hx]at hy;rcases zA3.mp hy with hy|hy
    .exact h3 y (ht y hy)
    .have:y=x:=by simpa using hy
     rw[this];exact h4
   by_cases hin:x∈en++en'
   .exact⟨_,aKR hin,en',_,rfl,nd',hs',tk _ (λ _ h=>h) hin⟩
   .refine⟨_,aKS hin h1 (by lia) (by rw[zA9,zAE];lia),en'++[x],.sh (.int x),?_,?_,?_,?_⟩
    .rw[<-zBO,zA7 (l₁:=en++en'),<-zBO]
     show _=smE n ps L cm K ((b0 n cm++(en++en').map (par cm))++[par cm x]) _ a s7 _;rw[h2]
    .rw[<-zBO,zAa]
     exact⟨nd',by simp,λ y hy z hz e=>hin (by rw[<-zAM.mp hz,<-e];exact hy)⟩
    .rw[<-zBO]
     intro e he;rcases zA3.mp he with he|he
     .exact hs' e he
     .rw[zAM.mp he];exact hb x hxm
    .rw[<-zBO]
     exact tk _ (λ y hy=>zAb _ hy) (by simp))
 refine⟨en',s8',g1,g3,g4,λ x hx=>g5 x ?_⟩;rw[zAE,zF5];exact hx
def aFS(hW:Ow n ps)(P:Prd n ps cm S){ll:List (List D)}(N:aLy n ps ll):∃en a s7 s8,ul (tsb (op2 ltD (aC 6) (opA eV (aB (bw 4) aG)))) smB (smE n ps (.lst (ll.map .lst)) cm K (b0 n cm) [] 0 .no .no)= .nx (smE n ps (.lst (ll.map .lst)) cm K (b0 n cm++en.map (par cm)) en a s7 s8)/\en.Nodup/\(∀e∈en,e∈S)/\∀b∈b0 n cm++en.map (par cm),∀x∈bu ps b,x∈en:=by
 have hn:=hW.n1;have hb0:(b0 n cm).length<=n.toNat:=by
  have:=zGi (λ x=>!decide (x∈cm.map (·.2))) (upI n)
  rw[mJ]at this;exact this
 have cnd:∀(en:List Int) (a:Nat) s7 s8,tsb (op2 ltD (aC 6) (opA eV (aB (bw 4) aG))) (smE n ps (.lst (ll.map .lst)) cm K (b0 n cm++en.map (par cm)) en a s7 s8)= .ok (decide (a<(b0 n cm++en.map (par cm)).length)):=λ en a s7 s8=>by
  have:decide ((a:Int)<((b0 n cm++en.map (par cm)).length:Nat))=decide (a<(b0 n cm++en.map (par cm)).length):=by
   rw[decide_eq_decide];lia
  rw[<-this];simp
 obtain⟨ρ',m',g1,⟨en,a,s7,s8,rfl,g2,g3,g4,g5,g6⟩,g7⟩:=aFD (c:=tsb (op2 ltD (aC 6) (opA eV (aB (bw 4) aG)))) (b:=smB) (λ m ρ=>∃(en:List Int) (a:Nat) (s7 s8:Slot),ρ=smE n ps (.lst (ll.map .lst)) cm K (b0 n cm++en.map (par cm)) en a s7 s8/\en.Nodup/\(∀e∈en,e∈S)/\a<=(b0 n cm++en.map (par cm)).length/\m=200-a/\∀(j:Nat) b,j<a->(b0 n cm++en.map (par cm))[j]? =some b->∀x∈bu ps b,x∈en)
  (by
  rintro m ρ ⟨en,a,s7,s8,rfl,nd,hs,ha,rfl,hj⟩;rw[cnd];by_cases hlt:a<(b0 n cm++en.map (par cm)).length
  .right
   rw[decide_eq_true hlt];refine⟨rfl,?_⟩;have hl:en.length<=n.toNat:=pJ nd λ e he=>(P.rg hW (hs e he)).1
   have hbl:(b0 n cm++en.map (par cm)).length<=120:=by rw[zA9,zAE];lia
   obtain⟨b,hb⟩:∃b,(b0 n cm++en.map (par cm))[a]? =some b:=⟨_,zAH hlt⟩
   obtain⟨hr,hS⟩:=P.led hW hs (zAt hb);obtain⟨en',s8',q1,q2,q3,q4⟩:=aKT (L:=.lst (ll.map .lst)) (K:=K) (a:=a) (s7:=.sh (.int b)) (s8:=s8) hW P nd hs hS;have hl2:(en++en').length<=n.toNat:=pJ q2 λ e he=>(P.rg hW (q3 e he)).1
   have eb:b0 n cm++(en++en').map (par cm)=(b0 n cm++en.map (par cm))++en'.map (par cm):=by rw[zA7,zBO]
   have a1:∀bs:List Int,bs[a]? =some b->bU 7 (bJ (op2 ixD (bw 4) (aC 6))) (smE n ps (.lst (ll.map .lst)) cm K bs en a s7 s8)= .nx (smE n ps (.lst (ll.map .lst)) cm K bs en a (.sh (.int b)) s8):=λ bs hb=>by
    have:atD (bs.map D.int) (a:Int)= .ok (.int b):=iD (by rw[zAO,hb];rfl)
    simp[this]
   have a2:fB (op2 ixD (aC 1) (aC 7)) (smE n ps (.lst (ll.map .lst)) cm K (b0 n cm++en.map (par cm)) en a (.sh (.int b)) s8)= .ok ((bu ps b).map .int):=by
    simp[N.item b hr.1 hr.2]
   refine⟨smE n ps (.lst (ll.map .lst)) cm K (b0 n cm++(en++en').map (par cm)) (en++en') ((a+1:Nat):Int) (.sh (.int b)) s8',200-(a+1),?_,by lia,en++en',a+1,_,_,rfl,q2,q3,by rw[eb,zA9];lia,rfl,λ j c hj2 hc=>?_⟩
   .unfold smB
    rw[aN,a1 _ hb,bB,aN,fL,a2,bL,q1,bB];simp[aJX,i2]
   .by_cases hja:j=a
    .subst hja
     rw[eb,zB1 hlt,hb]at hc;cases hc;exact q4
    .rw[eb,zB1 (by lia)]at hc
     exact λ x hx=>zAb _ (hj j c (by lia) hc x hx)
  .exact .inl (by rw[decide_eq_false hlt]))
  (m:=200) (ρ:=smE n ps (.lst (ll.map .lst)) cm K (b0 n cm) [] 0 .no .no) (by lia) ⟨[],0,.no,.no,by rw[zDR,zB0];rfl,zBu,λ _ h=>(nomatch h),zAf _,rfl,λ j b h=>absurd h (zFz _)⟩
 refine⟨en,a,s7,s8,g1,g2,g3,λ b hb=>?_⟩;rw[cnd]at g7;have ge:¬a<(b0 n cm++en.map (par cm)).length:=λ z=>by rw[decide_eq_true z]at g7;cases g7
 obtain⟨j,hj⟩:=zDS.mp hb
 have:=(zAP.mp hj).1
 exact g6 j b (by lia) hj
end
section
variable{n:Int}{ps cm:gX}{S:List Int}
def fsL(n:Int)(cm:gX)(en:List Int):List Int:=(upI n).filter λ x=>!decide (x∈b0 n cm++en.map (par cm))
def xH(hW:Ow n ps)(P:Prd n ps cm S)(h:cW [owD n ps]= .ok (az (cm.map vI))):∃en:List Int,cu [owD n ps]= .ok (.tup [.tup ((fsL n cm en).map .int),.tup ((sortI en).map .int)])/\en.Nodup/\(∀e∈en,e∈S)/\∀b∈b0 n cm++en.map (par cm),∀x∈bu ps b,x∈en:=by
 obtain⟨ll,e1,N⟩:=wg hW;have e0:=gn hW;have h0:=hW.n0;have h1:=hW.n1;have hcl:=P.c.len hW;obtain⟨vs,hvs⟩:∃vs,vs=cm.map (·.2):=⟨_,rfl⟩
 obtain⟨en,a,s7,s8,g1,g2,g3,g4⟩:=aFS (K:=az (vs.map vT)) hW P N;refine⟨en,?_,g2,g3,g4⟩;have hel:en.length<=n.toNat:=pJ g2 λ e he=>(P.rg hW (g3 e he)).1
 have hr:=gD (j:=n) (by lia) (by lia);have hul:(upI n).length<16777216:=by rw[mJ];lia
 have st:aq 9 [owD n ps]=[.sh (owD n ps),.no,.no,.no,.no,.no,.no,.no,.no]:=rfl;have a0:yf (aP bh (aB (aC 0) aG)) [.sh (owD n ps),.no,.no,.no,.no,.no,.no,.no,.no]= .nx [.sh (owD n ps),.no,.no,.no,.no,.no,.no,.no,.no]:=by simp[e0]
 have a1:bU 1 (aP gw (aB (aC 0) aG)) [.sh (owD n ps),.no,.no,.no,.no,.no,.no,.no,.no]= .nx [.sh (owD n ps),.sh (.lst (ll.map .lst)),.no,.no,.no,.no,.no,.no,.no]:=by simp[e1]
 have a2:bU 2 (aAE (aP cW (aB (aC 0) aG))) [.sh (owD n ps),.sh (.lst (ll.map .lst)),.no,.no,.no,.no,.no,.no,.no]= .nx [.sh (owD n ps),.sh (.lst (ll.map .lst)),.sh (.itm none cm),.no,.no,.no,.no,.no,.no]:=by
  rw[aCy,aDg (cm:=cm) (by simp[h])];rfl
 have a3:bU 3 (dcI (aCp (aC 2)) [none] (gnm 0) gR (bJ (aC 0)) (cD (.bl true))) [.sh (owD n ps),.sh (.lst (ll.map .lst)),.sh (.itm none cm),.no,.no,.no,.no,.no,.no]= .nx [.sh (owD n ps),.sh (.lst (ll.map .lst)),.sh (.itm none cm),.sh (az (vs.map vT)),.no,.no,.no,.no,.no]:=by
  have f1:dcI (aCp (aC 2)) [none] (gnm 0) gR (bJ (aC 0)) (cD (.bl true)) [.sh (owD n ps),.sh (.lst (ll.map .lst)),.sh (.itm none cm),.no,.no,.no,.no,.no,.no]= .ok (az (jX [] (vs.map vT))):=by
   refine aLl (ds:=vs.map D.int) ?_ (by rw[zAE,hvs,zAE];lia) ?_
   .rw[hvs,zAN];rfl
   .rw[zAN]
    exact nA vs λ q hq=>⟨_,rfl,rfl⟩
  have f2:jX [] (vs.map vT)=vs.map vT:=by
   rw[yU]
   .rfl
   .rw[zAN,zDR,zEa]
    show(vs.map λ x=>x).Nodup
    rw[zGj,hvs];exact P.nv
  rw[aCy,f1,f2];rfl
 have a4:pY 4 (lcD (eZ gO (aB (op2 ixD (aC 0) (cD (.int 0))) aG)) [none,some 3] (gnm 0) (tsb (op2 (jz true) (aC 0) (aC 1))) (bJ (aC 0))) [.sh (owD n ps),.sh (.lst (ll.map .lst)),.sh (.itm none cm),.sh (az (vs.map vT)),.no,.no,.no,.no,.no]= .nx [.sh (owD n ps),.sh (.lst (ll.map .lst)),.sh (.itm none cm),.sh (az (vs.map vT)),.ow (.lst ((b0 n cm).map .int)),.no,.no,.no,.no]:=by
  have f1:lcD (eZ gO (aB (op2 ixD (aC 0) (cD (.int 0))) aG)) [none,some 3] (gnm 0) (tsb (op2 (jz true) (aC 0) (aC 1))) (bJ (aC 0)) [.sh (owD n ps),.sh (.lst (ll.map .lst)),.sh (.itm none cm),.sh (az (vs.map vT)),.no,.no,.no,.no,.no]= .ok (.lst ((b0 n cm).map .int)):=by
   refine jd (ds:=(upI n).map D.int) (by rw[<-zQ];simp[shE,aA4,owD,hr]) (by rw[zAE];exact hul) ?_;unfold b0;rw[<-hvs];exact qI (upI n) λ x _=>⟨[.sh (.int x),.sh (az (vs.map vT))],rfl,by simp[aB8,aBF],rfl⟩
  rw[aHq,f1];rfl
 have r1:lcD (eZ gO (aB (op2 ixD (aC 0) (cD (.int 0))) aG)) [none,some 4] (gnm 0) (tsb (op2 (inR true) (aC 0) (aC 1))) (bJ (aC 0)) (smE n ps (.lst (ll.map .lst)) cm (az (vs.map vT)) (b0 n cm++en.map (par cm)) en a s7 s8)= .ok (.lst ((fsL n cm en).map .int)):=by
  refine jd (ds:=(upI n).map D.int) (by rw[<-zQ];simp[shE,aA4,owD,hr]) (by rw[zAE];exact hul) ?_;unfold fsL;generalize b0 n cm++en.map (par cm)=bs;exact qI (upI n) λ x _=>⟨[.sh (.int x),.sh (.lst (bs.map .int))],rfl,by
   have:=aD8 true x bs
   simp[this],rfl⟩
 have r2:vA [az (en.map vT)]= .ok (.lst ((sortI en).map .int)):=by
  unfold vA az;dsimp only;rw[gF];dsimp only;rw[if_pos (by rw[zAE];lia),zAN]
  have:en.map ((λ x:Int×D=>x.1)∘vT)=en:=by
   show en.map (λ x=>x)=en;exact zGj en
  rw[this]
 simp only[cu,dw,bx,st];rw[aN,a0,bB,aN,a1,bB,aN,a2,bB,aN,a3,bB,aN,a4,bB]
 show(match ((ul (tsb (op2 ltD (aC 6) (opA eV (aB (bw 4) aG)))) smB (smE n ps (.lst (ll.map .lst)) cm (az (vs.map vT)) (b0 n cm) [] 0 .no .no)).sq _)with| .nx _=>Rs.ok D.non| .rt d=>.ok d| .ex c=>.ex c|_=>.st)=_
 rw[g1,bB,lG,zA,cI,m9,cI,r1];generalize b0 n cm++en.map (par cm)=bs;simp[r2]
end
def aHS{l:List Int}:l.Nodup->(ddI l).length=l.length:=by
 suffices h:∀(l acc:List Int),(acc++l).Nodup->l.foldl zBx acc=acc++l from λ nd=>by
  unfold ddI;rw[h l [] (by simpa using nd)];rfl
 intro l;induction l with
 |nil=>intro acc _;simp
 |cons a l ih=>
  intro acc h;have hn:a∉acc:=λ hm=>(zAa.mp h).2.2 a hm a zAK rfl
  rw[zBN]
  have:zBx acc a=acc++[a]:=by unfold zBx;rw[if_neg (by simpa using hn)]
  rw[this,ih _ (by simpa using h)];simp
section
variable{n:Int}{ps cm:gX}{S en:List Int}
def Prd.bsN(P:Prd n ps cm S)(hW:Ow n ps)(nd:en.Nodup)(hs:∀e∈en,e∈S):(b0 n cm++en.map (par cm)).Nodup:=by
 rw[zAa];refine⟨(um n).filter _,iY nd λ x hx y hy e=>?_,λ x hx y hy e=>?_⟩
 .obtain⟨_,b,h1,h2,_⟩:=P.rg hW (hs x hx)
  obtain⟨_,c,h3,h4,_⟩:=P.rg hW (hs y hy);rw[h2,h4]at e;subst e
  have:=iZ P.nv _ (rY h1) _ (rY h3) rfl
  exact congrArg zFd this
 .obtain⟨z,hz,rfl⟩:=zAY.mp hy
  obtain⟨_,b,_,h2,_,_,h3,_⟩:=P.rg hW (hs z hz);obtain⟨_,h4⟩:=zAq.mp hx;rw[e,h2,decide_eq_true h3]at h4;cases h4
def Prd.size(P:Prd n ps cm S)(hW:Ow n ps)(nd:en.Nodup)(hs:∀e∈en,e∈S):(fsL n cm en).length+en.length=cm.length:=by
 have p1:=(vZ (um n) (P.bsN hW nd hs) λ x hx=>rW.mpr (P.led hW hs hx).1).length_eq;have p2:=(vZ (um n) P.nv λ x hx=>by
  obtain⟨p,hp,rfl⟩:=zAY.mp hx
  have:=hW.pr _ (P.c.ar p hp)
  exact rW.mpr ⟨this.1,this.2.1⟩).length_eq
 rw[zA9,zA9,zAE]at p1;rw[zA9,zAE]at p2
 show((upI n).filter λ x=>!decide (x∈b0 n cm++en.map (par cm))).length+en.length=cm.length
 have e:(b0 n cm).length=((upI n).filter λ x=>!decide (x∈cm.map (·.2))).length:=rfl;lia
def aHC(hcl:∀b∈b0 n cm++en.map (par cm),∀x∈bu ps b,x∈en)(hW:Ow n ps){p:Int×Int}(hp:p∈ps):p.1∈fsL n cm en\/p.2∈en:=by
 by_cases h:p.1∈b0 n cm++en.map (par cm)
 .exact .inr (hcl _ h _ (zj.mpr hp))
 .have hr:=hW.pr p hp
  exact .inl (zAq.mpr ⟨rW.mpr ⟨hr.1,hr.2.1⟩,by rw[decide_eq_false h];rfl⟩)
def iU{l:List Int}(nd:l.Nodup):(sortI l).Pairwise (·< ·):=by
 have h1:=nP l;have h2:(sortI l).Nodup:=(sortI_perm l).nodup_iff.mpr nd;exact(h1.and h2).imp λ h=>Int.lt_iff_le_and_ne.mpr h
def aDw(n:Int):(upI n).Pairwise (·< ·):=by
 unfold upI;rw[zHe];exact(List.pairwise_lt_range).imp λ h=>by lia
theorem aFc:∀{xs:List Int},xs.Pairwise (·< ·)->nj ltI xs=true
 |[],_=>rfl
 |[_],_=>rfl
 |a::b::l,h=>by
  obtain⟨h1,h2⟩:=zAx.mp h;unfold nj;rw[aFc h2,zEO];exact decide_eq_true (h1 b zAK)
def oO{xs:List Int}(rg:∀x∈xs,0<=x/\x<n)(h:xs.Pairwise (·< ·))(hl:xs.length<=100000):cC [.tup (xs.map .int),.int n]= .ok (.bl true):=by
 have st:aq 2 [.tup (xs.map .int),.int n]=[.sh (.tup (xs.map .int)),.sh (.int n)]:=rfl;have e1:=zq hl;rw[aFc h]at e1;have hc:lcD (fB (aC 0)) [none,some 1] (gnm 0) gR (kO (aP cP (aB (aC 0) aG)) (chD leD ltD (cD (.int 0)) (aC 0) (aC 1))) [.sh (.tup (xs.map .int)),.sh (.int n)]= .ok (.lst (xs.map λ x=>.bl true)):=by
  refine jd (ds:=xs.map D.int) rfl (by rw[zAE];lia) (nA xs λ x hx=>⟨[.sh (.int x),.sh (.int n)],rfl,?_⟩);have e2:=lM (d:=.int x) rfl;obtain⟨h1,h2⟩:=rg x hx;simp[e2,o5,h1,h2]
 have ha:=aAT (f:=λ _:Int=>true) hc;rw[show xs.all (λ _=>true)=true from zAv.mpr λ _ _=>rfl]at ha;simp only[cC,cB,bx,st];rw[aN,fW,m8,nU,nU,rA,rA,ha];simp[e1]
def zu(hW:Ow n ps){fs es:List Int}(f1:∀x∈fs,0<=x/\x<n)(f2:fs.Pairwise (·< ·))(f3:fs.length<=100000)(g1:∀x∈es,0<=x/\x<n)(g2:es.Pairwise (·< ·))(g3:es.length<=100000)(hc:∀p∈ps,p.1∈fs\/p.2∈es):dI [owD n ps,.tup [.tup (fs.map .int),.tup (es.map .int)]]= .ok (.bl true):=by
 have st:aq 2 [owD n ps,.tup [.tup (fs.map .int),.tup (es.map .int)]]=[.sh (owD n ps),.sh (.tup [.tup (fs.map .int),.tup (es.map .int)])]:=rfl;have e1:=oO f1 f2 f3;have e2:=oO g1 g2 g3;have hl:lcD (fB (aC 1)) [none,some 0] (gnm 0) gR (aP cC (aB (aC 0) (aB (op2 ixD (aC 1) (cD (.int 0))) aG))) [.sh (owD n ps),.sh (.tup [.tup (fs.map .int),.tup (es.map .int)])]= .ok (.lst ([fs,es].map λ x=>.bl true)):=by
  refine jd (ds:=[fs,es].map λ l=>D.tup (l.map .int)) rfl (by rw[zAE];exact zAW (by decide:2<3) (by decide)) (nA [fs,es] λ x hx=>⟨[.sh (.tup (x.map .int)),.sh (owD n ps)],rfl,?_⟩)
  have:cC [.tup (x.map .int),.int n]= .ok (.bl true):=by
   simp only[zAT,zB2,or_false]at hx;rcases hx with rfl|rfl
   .exact e1
   .exact e2
  simp[owD,this]
 have ha:=aAT (f:=λ _:List Int=>true) hl;have hm:lcD (fB (op2 ixD (aC 0) (cD (.int 1)))) [none,some 1] (gnm 0) (lV (tsb (op2 (inR true) (op2 ixD (aC 0) (cD (.int 0))) (op2 ixD (aC 1) (cD (.int 0))))) (tsb (op2 (inR true) (op2 ixD (aC 0) (cD (.int 1))) (op2 ixD (aC 1) (cD (.int 1)))))) (bJ (aC 0)) [.sh (owD n ps),.sh (.tup [.tup (fs.map .int),.tup (es.map .int)])]= .ok (.lst []):=by
  have kK:=hW.len;have e3:(ps.filter λ p=>!decide (p.1∈fs)&& !decide (p.2∈es))=[]:=zEZ.mpr λ p hp=>by
   rcases hc p hp with z|z
   .rw[decide_eq_true z];simp
   .rw[decide_eq_true z];simp
  have:=qI (ρ:=[.no,.sh (.tup [.tup (fs.map .int),.tup (es.map .int)])]) (fg:=gnm 0) (ft:=lV (tsb (op2 (inR true) (op2 ixD (aC 0) (cD (.int 0))) (op2 ixD (aC 1) (cD (.int 0))))) (tsb (op2 (inR true) (op2 ixD (aC 0) (cD (.int 1))) (op2 ixD (aC 1) (cD (.int 1)))))) (fe:=bJ (aC 0)) (f:=pD) (g:=pD) (t:=λ p=>!decide (p.1∈fs)&& !decide (p.2∈es)) ps λ p _=>⟨[.sh (pD p),.sh (.tup [.tup (fs.map .int),.tup (es.map .int)])],rfl,by
   have i1:=qM true p.1 fs;have i2:=qM true p.2 es;have at0:atD [D.int p.1,.int p.2] 0= .ok (.int p.1):=rfl;have at1:atD [D.int p.1,.int p.2] 1= .ok (.int p.2):=rfl;have bt0:atD [D.tup (fs.map .int),.tup (es.map .int)] 0= .ok (.tup (fs.map .int)):=rfl;have bt1:atD [D.tup (fs.map .int),.tup (es.map .int)] 1= .ok (.tup (es.map .int)):=rfl;by_cases z:p.1∈fs<;>simp[pD,at0,at1,bt0,bt1,i1,i2,z],rfl⟩
  rw[e3]at this;exact jd (ds:=ps.map pD) (by simp[shE,aA4,owD]) (by rw[zAE];lia) this
 simp only[dI,cN,bx,st];rw[aN,fW,m8,m8,nU,nU,rA,rA,ha];have q:eqR false (.lst []) (.lst [])= .ok (.bl true):=rfl;simp[hm,q]
end
def aAf{ns:List Int}(h:ns.length<4000):aCA [.lst (ns.map .int)]= .ok (.set (ddI ns)):=by
 unfold aCA;dsimp only;rw[cH];dsimp only;rw[if_pos h]
section
variable{n:Int}{ps qs:gX}
def zx{q:Int×Int}(hW:Ow n ps)(h:q∈ps):dZ [pD q,.int n]= .ok (.bl true):=by
 obtain⟨h1,h2,h3,h4,h5⟩:=hW.pr q h;have st:aq 2 [pD q,.int n]=[.sh (pD q),.sh (.int n)]:=rfl;have hc:lcD (fB (aC 0)) [none,some 1] (gnm 0) gR (kO (aP cP (aB (aC 0) aG)) (chD leD ltD (cD (.int 0)) (aC 0) (aC 1))) [.sh (pD q),.sh (.int n)]= .ok (.lst ([q.1,q.2].map λ x=>.bl true)):=by
  refine jd (ds:=[q.1,q.2].map D.int) rfl (by simp) (nA [q.1,q.2] λ x hx=>⟨[.sh (.int x),.sh (.int n)],rfl,?_⟩);have e2:=lM (d:=.int x) rfl
  have:0<=x/\x<n:=by
   simp only[zAT,zB2,or_false]at hx;rcases hx with rfl|rfl
   .exact⟨h1,h2⟩
   .exact⟨h3,h4⟩
  simp[e2,o5,this.1,this.2]
 have ha:=aAT (f:=λ _:Int=>true) hc;simp only[dZ,cV,bx,st];rw[aN,fW,m8];have at0:atD [D.int q.1,.int q.2] 0= .ok (.int q.1):=rfl;have at1:atD [D.int q.1,.int q.2] 1= .ok (.int q.2):=rfl;have e3:retS (kO (opA (pU λ bs=>bs.all id) (aB (lcD (fB (aC 0)) [none,some 1] (gnm 0) gR (kO (aP cP (aB (aC 0) aG)) (chD leD ltD (cD (.int 0)) (aC 0) (aC 1)))) aG)) (op2 (eqR true) (op2 ixD (aC 0) (cD (.int 0))) (op2 ixD (aC 0) (cD (.int 1))))) [.sh (pD q),.sh (.int n)]= .rt (.bl true):=by
  rw[lG,uf,ha];simp[pD,at0,at1,h5]
 simp[pD]at e3 ⊢;simp[e3]
def zr(hW:Ow n ps)(hin:∀q∈qs,q∈ps)(hr:rO qs=true)(n1:(qs.map (·.1)).Nodup)(n2:(qs.map (·.2)).Nodup)(hl:qs.length<4000):dH [owD n ps,.tup (qs.map pD)]= .ok (.bl true):=by
 have st:aq 2 [owD n ps,.tup (qs.map pD)]=[.sh (owD n ps),.sh (.tup (qs.map pD))]:=rfl;have hc:lcD (fB (aC 1)) [none,some 0] (gnm 0) gR (kO (aP dZ (aB (aC 0) (aB (op2 ixD (aC 1) (cD (.int 0))) aG))) (op2 (inR false) (aC 0) (op2 ixD (aC 1) (cD (.int 1))))) [.sh (owD n ps),.sh (.tup (qs.map pD))]= .ok (.lst (qs.map λ x=>.bl true)):=by
  refine jd (ds:=qs.map pD) rfl (by rw[zAE];lia) (nA qs λ q hq=>⟨[.sh (pD q),.sh (owD n ps)],rfl,?_⟩);have e1:=zx hW (hin q hq);have e2:=aGo false q ps;rw[decide_eq_true (hin q hq)]at e2;simp[owD,e1,e2]
 have ha:=aAT (f:=λ _:Int×Int=>true) hc;rw[show qs.all (λ _=>true)=true from zAv.mpr λ _ _=>rfl]at ha;have er:dC [.tup (qs.map pD)]= .ok (.bl true):=by
  rw[qJ (0,0) (λ a b=>aG3 a b) (by lia),<-zT,hr]
 have l1:lcD (fB (aC 1)) [none,none] (nC 2 (cJ (gnm 0) (cJ (gnm 1) oA))) gR (bJ (aC 0)) [.sh (owD n ps),.sh (.tup (qs.map pD))]= .ok (.lst ((qs.map (·.1)).map .int)):=
  jd (ds:=qs.map pD) rfl (by rw[zAE];lia) (by rw[zAN];exact nA qs λ q hq=>⟨_,rfl,rfl⟩)
 have l2:lcD (fB (aC 1)) [none,none] (nC 2 (cJ (gnm 0) (cJ (gnm 1) oA))) gR (bJ (aC 1)) [.sh (owD n ps),.sh (.tup (qs.map pD))]= .ok (.lst ((qs.map (·.2)).map .int)):=
  jd (ds:=qs.map pD) rfl (by rw[zAE];lia) (by rw[zAN];exact nA qs λ q hq=>⟨_,rfl,rfl⟩)
 have s1:=aAf (ns:=qs.map (·.1)) (by rw[zAE];exact hl);have s2:=aAf (ns:=qs.map (·.2)) (by rw[zAE];exact hl);have d1:=aHS n1;have d2:=aHS n2;rw[zAE]at d1 d2;simp only[dH,cM,bx,st];rw[aN,fW,m8,nU,nU,rA,rA,ha];rw[zAN]at l1 l2 s1 s2;simp[er,l1,l2,s1,s2,d1,d2]
end
def lw(k:List Int):List Int×Int:=(k,(k.length:Int))
def lwD(k:List Int):List Int×D:=(k,.int k.length)
def wj(ks:gV)(k:List Int):gV:=if k∈ks then ks else ks++[k]
def aDI{a b:List Int}(h1:a.Pairwise (·< ·))(h2:b.Pairwise (·< ·))(h:∀x,x∈a↔x∈b):a=b:=by
 have p:a.Perm b:=(zFy (zDr.mpr (h1.imp λ z=>by lia)) (zDr.mpr (h2.imp λ z=>by lia))).mpr h;exact p.eq_of_pairwise (λ x y _ _ q r=>by lia) h1 h2
def dg{l:List Int}{x:Int}:x∈sortI l↔x∈l:=(sortI_perm l).mem_iff
def aAa{a b:List Int}(na:a.Nodup)(nb:b.Nodup)(h:∀x,x∈a↔x∈b):sortI a=sortI b:=aDI (iU na) (iU nb) λ x=>by rw[dg,dg,h]
def subs:List Int->List (List Int)
 |[]=>[[]]
 |a::l=>subs l++(subs l).map (a::·)
theorem uv(f:Int->Bool):∀l:List Int,l.filter f∈subs l
 |[]=>zAM.mpr rfl
 |a::l=>by
  unfold subs;rw[zF1,zA3];split
  .exact .inr (zAY.mpr ⟨_,uv f l,rfl⟩)
  .exact .inl (uv f l)
def aFL:gV:=subs [0,1,2,3,4,5,6]
def aEB:(aFL.map hsh).Nodup:=by decide+kernel
def aFK:aFL.length=128:=by decide+kernel
def aFJ{k:List Int}(h:k.Pairwise (·< ·))(rg:∀x∈k,0<=x/\x<7):k∈aFL:=by
 have e:k=([0,1,2,3,4,5,6]:List Int).filter λ x=>decide (x∈k):=aDI h (zIj _ (by decide)) λ x=>by
  rw[zAq];constructor
  .intro hx
   refine⟨?_,decide_eq_true hx⟩
   have:=rg x hx
   simp only[zAT,zB2,or_false];lia
  .intro z
   exact of_decide_eq_true z.2
 rw[e];exact uv _ _
theorem aD1(k:List Int):∀ks:gV,(ks.map lwD).lookup k=if k∈ks then some (.int k.length)else none
 |[]=>rfl
 |x::ks=>by
  rw[zAD]
  show((x,D.int x.length)::ks.map lwD).lookup k=_
  rw[zA6];by_cases h:k=x
  .subst h;simp
  .have:(k==x)=false:=by simpa using h
   rw[this]
   show(ks.map lwD).lookup k=_
   rw[aD1 k ks];simp[h]
def aKh(ks:gV)(k:List Int):aAs (ks.map lwD) k (.int k.length)=(wj ks k).map lwD:=by
 unfold aAs wj;have e:((ks.map lwD).map (·.1))=ks:=by
  rw[zAN];show ks.map (λ x=>x)=ks;exact zGj ks
 rw[e];by_cases h:k∈ks
 .rw[if_pos (zCI.mpr ⟨k,h,by simp⟩),if_pos h,zAN]
  refine zBg λ x _=>?_
  show(if x=k then((x,D.int k.length):List Int×D)else lwD x)=lwD x
  split
  .rename_i z;rw[z];rfl
  .rfl
 .rw[if_neg (λ z=>h (by obtain⟨x,hx,e⟩:=zCI.mp z;rw[<-beq_iff_eq.mp e];exact hx)),if_neg h,zA7]
  rfl
def aL5(k:List Int)(ks:gV):qK (.non::(ks.map lwD).map λ p=>.tup (p.1.map .int)) ((ks.map lwD).map (·.2))=some (ks.map lw):=by
 unfold qK;dsimp only;rw[vX];dsimp only;have e1:intsOf ((ks.map lwD).map (·.2))=some (ks.map λ k=>(k.length:Int)):=by
  rw[show(ks.map lwD).map (·.2)=(ks.map λ k=>(k.length:Int)).map .int by rw[zAN,zAN];rfl];exact cH _
 rw[e1,zAN];show some ((ks.map λ x=>x).zip (ks.map λ k=>(k.length:Int)))=_;congr 1;clear e1;induction ks with
 |nil=>rfl
 |cons x ks ih=>rw[zAD,zAD,zAu,ih];rfl
def aLn{ks:gV}(h0:ks≠[])(h1:ks.length<1000)(h2:(ks.map hsh).Nodup):aCe [.itx none (ks.map lw)]= .ok (q9 (ks.map lwD)):=by
 unfold aCe;dsimp only;rw[if_pos,zAN]
 .rfl
 .refine⟨⟨λ z=>h0 (List.map_eq_nil_iff.mp z),by rw[zAE,szl];lia⟩,?_⟩
  rw[zAN];exact h2
abbrev lmE(n:Int)(ps:gX)(l:List (List Int×Int))(p:Int)(ks:gV)(s4 s5 s6 s7 s8:Slot):En:=[.sh (owD n ps),.sh (.itx none l),.sh (.int p),.ow (q9 (ks.map lwD)),s4,s5,s6,s7,s8]
section
variable{n p a b:Int}{ps:gX}{l:List (List Int×Int)}{ks:gV}{k:List Int}{s8:Slot}
def aJv:lV (tsb (op2 (eqR false) (aC 6) (aC 2))) (tsb (op2 (inR true) (aC 7) (aC 4))) (lmE n ps l p ks (.sh (.tup (k.map .int))) (.sh (.int k.length)) (.sh (.int a)) (.sh (.int b)) s8)= .ok (decide (a=p/\b∉k)):=by
 have e:=qM true b k;by_cases h:a=p
 .subst h
  by_cases h2:b∈k<;>simp[e,h2]
 .simp[h]
def aLW(h:¬(a=p/\b∉k)):lmI (lmE n ps l p ks (.sh (.tup (k.map .int))) (.sh (.int k.length)) (.sh (.int a)) (.sh (.int b)) s8)= .nx (lmE n ps l p ks (.sh (.tup (k.map .int))) (.sh (.int k.length)) (.sh (.int a)) (.sh (.int b)) s8):=by
 unfold lmI;rw[fW,aJv,decide_eq_false h];rfl
def aMg(h:a=p/\b∉k)(hk:k.length<60)(hz:ks.length<1000):lmI (lmE n ps l p ks (.sh (.tup (k.map .int))) (.sh (.int k.length)) (.sh (.int a)) (.sh (.int b)) s8)= .nx (lmE n ps l p (wj ks (sortI (k++[b]))) (.sh (.tup (k.map .int))) (.sh (.int k.length)) (.sh (.int a)) (.sh (.int b)) (.sh (.tup ((sortI (k++[b])).map .int)))):=by
 obtain⟨m,hm⟩:∃m,m=sortI (k++[b]):=⟨_,rfl⟩
 have hl:m.length=k.length+1:=by rw[hm,(sortI_perm _).length_eq,zA9];rfl
 have a1:bU 8 (opA fP (aB (opA o7 (aB (op2 cL (aC 4) (cF (aB (aC 7) aG))) aG)) aG)) (lmE n ps l p ks (.sh (.tup (k.map .int))) (.sh (.int k.length)) (.sh (.int a)) (.sh (.int b)) s8)= .nx (lmE n ps l p ks (.sh (.tup (k.map .int))) (.sh (.int k.length)) (.sh (.int a)) (.sh (.int b)) (.sh (.tup (m.map .int)))):=by
  have e1:cL (.tup (k.map .int)) (.tup [.int b])= .ok (.tup ((k++[b]).map .int)):=by
   unfold cL;dsimp only;rw[if_pos (by rw[zAE,szl];simp;lia),zA7];rfl
  have e2:o7 [.tup ((k++[b]).map .int)]= .ok (.lst (m.map .int)):=by
   unfold o7;dsimp only;rw[cH];dsimp only;rw[if_pos (by rw[zA9];simp;lia),hm]
  rw[zA7]at e2 e1;simp only[zAD,zDR]at e2 e1;simp[e1,e2]
 have g1:aEi (bw 3) (aC 8) (cD (.int 0)) (lmE n ps l p ks (.sh (.tup (k.map .int))) (.sh (.int k.length)) (.sh (.int a)) (.sh (.int b)) (.sh (.tup (m.map .int))))= .ok (.int (if m∈ks then(m.length:Int)else 0)):=by
  unfold aEi
  show(Rs.ok (q9 (ks.map lwD))).bd _=_
  rw[aU];unfold q9;dsimp only;rw[vX];dsimp only;have e3:wB (.tup (m.map .int))=some m:=cH m
  show(Rs.ok (D.tup (m.map .int))).bd _=_
  rw[aU,aKD,aU,e3];dsimp only;rw[if_pos (show imm (.int 0)=true from rfl),aD1];split<;>rfl
 have g2:opA (mmD λ i j=>if j>i then j else i) (aB (aEi (bw 3) (aC 8) (cD (.int 0))) (aB (op2 cL (aC 5) (cD (.int 1))) aG)) (lmE n ps l p ks (.sh (.tup (k.map .int))) (.sh (.int k.length)) (.sh (.int a)) (.sh (.int b)) (.sh (.tup (m.map .int))))= .ok (.int m.length):=by
  have e4:op2 cL (aC 5) (cD (.int 1)) (lmE n ps l p ks (.sh (.tup (k.map .int))) (.sh (.int k.length)) (.sh (.int a)) (.sh (.int b)) (.sh (.tup (m.map .int))))= .ok (.int m.length):=by
   rw[hl];rfl
  rw[m9,cI,cI,g1,aU,e4,aU,iB,aU,aU,aU];show okD (Rs.ok (D.int (if (m.length:Int)>(if m∈ks then(m.length:Int)else 0)then(m.length:Int)else(if m∈ks then(m.length:Int)else 0))))=_
  have:(if (m.length:Int)>(if m∈ks then(m.length:Int)else 0)then(m.length:Int)else(if m∈ks then(m.length:Int)else 0))=m.length:=by
   by_cases z:m∈ks
   .rw[if_pos z,if_neg (zIi _)]
   .rw[if_neg z,if_pos (by lia)]
  rw[this];rfl
 have a2:ptS 3 (aC 8) (opA (mmD λ i j=>if j>i then j else i) (aB (aEi (bw 3) (aC 8) (cD (.int 0))) (aB (op2 cL (aC 5) (cD (.int 1))) aG))) (lmE n ps l p ks (.sh (.tup (k.map .int))) (.sh (.int k.length)) (.sh (.int a)) (.sh (.int b)) (.sh (.tup (m.map .int))))= .nx (lmE n ps l p (wj ks m) (.sh (.tup (k.map .int))) (.sh (.int k.length)) (.sh (.int a)) (.sh (.int b)) (.sh (.tup (m.map .int)))):=by
  unfold ptS;rw[g2]
  show(Rs.bo (.ok (D.int m.length)) λ d=>Rs.bo (.ok (D.tup (m.map .int))) λ k'=>match vP (q9 (ks.map lwD)) k' with
   |some (ps',j)=>if ps'.length<zAQ then Ou.nx ((lmE n ps l p ks (.sh (.tup (k.map .int))) (.sh (.int k.length)) (.sh (.int a)) (.sh (.int b)) (.sh (.tup (m.map .int)))).set 3 (.ow (q9 (aAs ps' j d))))else .st
   |none=>.st)=_
  have e5:vP (q9 (ks.map lwD)) (.tup (m.map .int))=some (ks.map lwD,m):=by
   unfold vP q9;dsimp only;rw[show wB (.tup (m.map .int))=some m from cH m,vX]
  rw[bL,bL,e5];dsimp only;rw[if_pos (by rw[zAE,szl];lia),aKh];rfl
 unfold lmI;rw[fW,aJv,decide_eq_true h,bL,if_pos rfl,aN,a1,bB,a2,<-hm]
end
def Gk(ps:gX)(p:Int)(x:List Int):Prop:=∃M:gX,(∀q∈M,q∈ps/\q.1<p)/\(M.map (·.1)).Nodup/\(M.map (·.2)).Nodup/\x=sortI (M.map (·.2))
structure Kn(ps:gX)(p:Int)(ks:gV):Prop where
 nd:ks.Nodup
 gd:∀x∈ks,Gk ps p x
section
variable{n p:Int}{ps:gX}{l:List (List Int×Int)}{ks:gV}{k x:List Int}
def Gk.mono{p':Int}(G:Gk ps p x)(h:p<=p'):Gk ps p' x:=let⟨M,h1,r⟩:=G;⟨M,λ q hq=>⟨(h1 q hq).1,Int.lt_of_lt_of_le (h1 q hq).2 h⟩,r⟩
def Gk.sub(G:Gk ps p x)(hW:Ow n ps)(hn:n<=7):x∈aFL:=by
 obtain⟨M,h1,h2,h3,rfl⟩:=G;refine aFJ (iU h3) λ e he=>?_
 obtain⟨q,hq,rfl⟩:=zAY.mp (dg.mp he)
 have:=hW.pr q (h1 q hq).1
 lia
def Gk.len(G:Gk ps p x)(hW:Ow n ps):x.length<=n.toNat:=by
 obtain⟨M,h1,h2,h3,rfl⟩:=G;rw[(sortI_perm _).length_eq];refine pJ h3 λ e he=>?_
 obtain⟨q,hq,rfl⟩:=zAY.mp he
 have:=hW.pr q (h1 q hq).1
 exact⟨this.2.2.1,this.2.2.2.1⟩
def Gk.add{b:Int}(G:Gk ps p k)(hb:(p,b)∈ps)(hn:b∉k):Gk ps (p+1) (sortI (k++[b])):=by
 obtain⟨M,h1,h2,h3,rfl⟩:=G;have hb2:b∉M.map (·.2):=λ z=>hn (dg.mpr z)
 have h4:((M++[(p,b)]).map (·.2)).Nodup:=by
  rw[zA7,zAa];exact⟨h3,by simp,λ y hy z hz e=>hb2 (by rw[<-(show z=b by simpa using hz),<-e];exact hy)⟩
 refine⟨M++[(p,b)],λ q hq=>?_,?_,h4,?_⟩
 .rcases zA3.mp hq with hq|hq
  .exact⟨(h1 q hq).1,by have:=(h1 q hq).2;lia⟩
  .rw[zAM.mp hq];exact⟨hb,by show p<p+1;lia⟩
 .rw[zA7,zAa]
  refine⟨h2,by simp,λ y hy z hz e=>?_⟩;obtain⟨q,hq,rfl⟩:=zAY.mp hy;have h5:=(h1 q hq).2
  have:z=p:=by simpa using hz
  lia
 .refine aAa ?_ h4 λ y=>?_
  .rw[zAa]
   exact⟨(sortI_perm _).nodup_iff.mpr h3,by simp,λ y hy z hz e=>hn (by rw[<-zAM.mp hz,<-e];exact hy)⟩
  .rw[zA3,dg,zA7,zA3]
   rfl
def Kn.len(h:Kn ps p ks)(hW:Ow n ps)(hn:n<=7):ks.length<=128:=by
 have:=h.nd.length_le_of_subset (l₂:=aFL) λ x hx=>(h.gd x hx).sub hW hn
 rwa [aFK]at this
def Kn.hash(h:Kn ps p ks)(hW:Ow n ps)(hn:n<=7):(ks.map hsh).Nodup:=iY h.nd λ x hx y hy e=>iZ aEB x ((h.gd x hx).sub hW hn) y ((h.gd y hy).sub hW hn) e
def Kn.add(h:Kn ps p ks)(G:Gk ps p x):Kn ps p (wj ks x):=by
 unfold wj;split
 .exact h
 .rename_i hx
  refine⟨zAa.mpr ⟨h.nd,by simp,λ y hy z hz e=>hx (by rw[<-zAM.mp hz,<-e];exact hy)⟩,λ y hy=>?_⟩;rcases zA3.mp hy with hy|hy
  .exact h.gd y hy
  .rw[zAM.mp hy];exact G
def aH5:x∈wj ks x:=by
 unfold wj;split
 .assumption
 .simp
def aBj{y:List Int}(h:y∈ks):y∈wj ks x:=by
 unfold wj;split
 .exact h
 .exact zAb _ h
def aKb(k:List Int):D:=.tup [.tup (k.map .int),.int k.length]
def aE7(hW:Ow n ps)(hn:n<=7)(G:Gk ps p k)(hk:Kn ps (p+1) ks)(s6 s7 s8:Slot):∃ks' s6' s7' s8',forL g67 lmI (ps.map pD) (lmE n ps l p ks (.sh (.tup (k.map .int))) (.sh (.int k.length)) s6 s7 s8)= .nx (lmE n ps l p ks' (.sh (.tup (k.map .int))) (.sh (.int k.length)) s6' s7' s8')/\Kn ps (p+1) ks'/\(∀x∈ks,x∈ks')/\∀q∈ps,q.1=p->q.2∉k->sortI (k++[q.2])∈ks':=by
 have hkl:=G.len hW;obtain⟨ρ',g1,ks',s6',s7',s8',rfl,g3,g4,g5⟩:=cU (a:=g67) (u:=lmI) (ps.map pD) (λ(i:Nat) ρ=>∃(ks':gV) (s6' s7' s8':Slot),ρ=lmE n ps l p ks' (.sh (.tup (k.map .int))) (.sh (.int k.length)) s6' s7' s8'/\Kn ps (p+1) ks'/\(∀x∈ks,x∈ks')/\∀q∈ps.take i,q.1=p->q.2∉k->sortI (k++[q.2])∈ks')
  (lmE n ps l p ks (.sh (.tup (k.map .int))) (.sh (.int k.length)) s6 s7 s8) ⟨ks,s6,s7,s8,rfl,hk,λ _ h=>h,λ _ h=>nomatch h⟩ (by
  rintro i d ρ hd ⟨ks',s6',s7',s8',rfl,h1,h2,h3⟩;rw[zAO]at hd;cases hx:ps[i]? with
  |none=>rw[hx]at hd;cases hd
  |some q=>
   rw[hx]at hd;cases hd;have hq:q∈ps:=zAt hx;have hl:=h1.len hW hn;have tk:∀y∈ps.take (i+1),y∈ps.take i\/y=q:=λ y hy=>by
    rw[zGM,hx]at hy;rcases zA3.mp hy with hy|hy
    .exact .inl hy
    .exact .inr (by simpa using hy)
   by_cases hc:q.1=p/\q.2∉k
   .refine⟨_,aMg hc (by lia) (by lia),wj ks' (sortI (k++[q.2])),_,_,_,rfl,h1.add (G.add (by rw[<-hc.1];exact hq) hc.2),λ x hx=>aBj (h2 x hx),λ y hy y1 y2=>?_⟩
    rcases tk y hy with z|rfl
    .exact aBj (h3 y z y1 y2)
    .exact aH5
   .refine⟨_,aLW hc,ks',_,_,_,rfl,h1,h2,λ y hy y1 y2=>?_⟩
    rcases tk y hy with z|rfl
    .exact h3 y z y1 y2
    .exact absurd ⟨y1,y2⟩ hc)
 refine⟨ks',s6',s7',s8',g1,g3,g4,λ q hq=>g5 q ?_⟩;rw[zAE,zF5];exact hq
def aG4(hW:Ow n ps)(hn:n<=7)(h0:Kn ps p ks)(s4 s5 s6 s7 s8:Slot):∃ks' s4' s5' s6' s7' s8',forL g45 lmM (ks.map aKb) (lmE n ps l p ks s4 s5 s6 s7 s8)= .nx (lmE n ps l p ks' s4' s5' s6' s7' s8')/\Kn ps (p+1) ks'/\(∀x∈ks,x∈ks')/\∀k∈ks,∀q∈ps,q.1=p->q.2∉k->sortI (k++[q.2])∈ks':=by
 obtain⟨ρ',g1,ks',s4',s5',s6',s7',s8',rfl,g3,g4,g5⟩:=cU (a:=g45) (u:=lmM) (ks.map aKb) (λ(i:Nat) ρ=>∃(ks':gV) (s4' s5' s6' s7' s8':Slot),ρ=lmE n ps l p ks' s4' s5' s6' s7' s8'/\Kn ps (p+1) ks'/\(∀x∈ks,x∈ks')/\∀k∈ks.take i,∀q∈ps,q.1=p->q.2∉k->sortI (k++[q.2])∈ks')
  (lmE n ps l p ks s4 s5 s6 s7 s8) ⟨ks,s4,s5,s6,s7,s8,rfl,⟨h0.nd,λ x hx=>(h0.gd x hx).mono (by lia)⟩,λ _ h=>h,λ _ h=>nomatch h⟩ (by
  rintro i d ρ hd ⟨ks',s4',s5',s6',s7',s8',rfl,h1,h2,h3⟩;rw[zAO]at hd;cases hx:ks[i]? with
  |none=>rw[hx]at hd;cases hd
  |some k=>
   rw[hx]at hd;cases hd;have hkm:k∈ks:=zAt hx;obtain⟨ks2,t6,t7,t8,q1,q2,q3,q4⟩:=aE7 (l:=l) hW hn (h0.gd k hkm) h1 s6' s7' s8';refine⟨lmE n ps l p ks2 (.sh (.tup (k.map .int))) (.sh (.int k.length)) t6 t7 t8,?_,ks2,_,_,t6,t7,t8,rfl,q2,λ x hx=>q3 x (h2 x hx),λ y hy=>?_⟩
   .have e1:fB (op2 ixD (aC 0) (cD (.int 1))) (lmE n ps l p ks' (.sh (.tup (k.map .int))) (.sh (.int k.length)) s6' s7' s8')= .ok (ps.map pD):=by simp[owD]
    show lmM (lmE n ps l p ks' (.sh (.tup (k.map .int))) (.sh (.int k.length)) s6' s7' s8')=_;unfold lmM;rw[fL,e1,bL];exact q1
   .rw[zGM,hx]at hy
    rcases zA3.mp hy with hy|hy
    .exact λ q hq y1 y2=>q3 _ (h3 y hy q hq y1 y2)
    .have:y=k:=by simpa using hy
     rw[this];exact q4)
 refine⟨ks',s4',s5',s6',s7',s8',g1,g3,g4,λ q hq=>g5 q ?_⟩;rw[zAE,zF5];exact hq
end
def rk(cm:gX)(p:Int):List Int:=sortI ((cm.filter λ q=>decide (q.2<p)).map (·.1))
section
variable{n:Int}{ps cm:gX}
def aIB(C:Cm ps cm)(nv:(cm.map (·.2)).Nodup)(p:Int):rk cm (p+1)=rk cm p\/∃e,(p,e)∈ps/\e∉rk cm p/\rk cm (p+1)=sortI (rk cm p++[e]):=by
 have nk:∀x:Int,((cm.filter λ q=>decide (q.2<x)).map (·.1)).Nodup:=λ x=>C.nd.sublist (zEf _ zEm)
 by_cases h:∃e,(e,p)∈cm
 .obtain⟨e,he⟩:=h
  have hn:e∉rk cm p:=λ z=>by
   obtain⟨q,hq,z2⟩:=zAY.mp (dg.mp z);obtain⟨h1,h2⟩:=zAq.mp hq
   have:=iZ C.nd q h1 (e,p) he z2
   rw[this]at h2;exact absurd (of_decide_eq_true h2) (zIi _)
  refine .inr ⟨e,C.ar _ he,hn,?_⟩;refine aAa (nk _) ?_ λ x=>?_
  .rw[zAa]
   exact⟨(sortI_perm _).nodup_iff.mpr (nk p),by simp,λ y hy z hz w=>hn (by rw[<-zAM.mp hz,<-w];exact hy)⟩
  .rw[zA3]
   unfold rk;rw[dg,zAY,zAY];constructor
   .rintro⟨q,hq,rfl⟩
    obtain⟨h1,h2⟩:=zAq.mp hq;have h3:q.2<p+1:=of_decide_eq_true h2;by_cases h4:q.2<p
    .exact .inl ⟨q,zAq.mpr ⟨h1,decide_eq_true h4⟩,rfl⟩
    .have:q=(e,p):=iZ nv q h1 (e,p) he (show q.2=p by lia)
     right;rw[this];exact zAM.mpr rfl
   .rintro(⟨q,hq,rfl⟩|hx)
    .obtain⟨h1,h2⟩:=zAq.mp hq
     have h3:q.2<p:=of_decide_eq_true h2;exact⟨q,zAq.mpr ⟨h1,decide_eq_true (by lia)⟩,rfl⟩
    .rw[zAM.mp hx]
     exact⟨(e,p),zAq.mpr ⟨he,decide_eq_true (show p<p+1 by lia)⟩,rfl⟩
 .left
  unfold rk;congr 2;refine List.filter_congr λ q hq=>?_
  rw[decide_eq_decide]
  have:q.2≠p:=λ z=>h ⟨q.1,by rw[<-z];exact hq⟩
  lia
def aBR(hW:Ow n ps)(hn:n<=7)(C:Cm ps cm)(nv:(cm.map (·.2)).Nodup)(ub:∀M:gX,(∀q∈M,q∈ps)->(M.map (·.1)).Nodup->(M.map (·.2)).Nodup->M.length<=cm.length):lW [owD n ps]= .ok (.int cm.length):=by
 have h0:=hW.n0;have r0:rk cm 0=[]:=by
  unfold rk
  have:(cm.filter λ q=>decide (q.2<0))=[]:=zEZ.mpr λ q hq z=>by
   have h1:=hW.pr _ (C.ar q hq);have h2:q.2<0:=of_decide_eq_true z;have h3:0<=q.2:=h1.1;lia
  rw[this];rfl
 obtain⟨ρ',g1,ks,s2,s3,s4,s5,s6,s7,s8,rfl,g3,g4⟩:=cU (a:=gnm 2) (u:=lmO) ((upI n).map D.int) (λ(i:Nat) ρ=>∃(ks:gV) (s2 s3 s4 s5 s6 s7 s8:Slot),ρ=[.sh (owD n ps),.sh (.itx none (ks.map lw)),s2,s3,s4,s5,s6,s7,s8]/\Kn ps i ks/\rk cm i∈ks)
  [.sh (owD n ps),.sh (.itx none ([[]].map lw)),.no,.no,.no,.no,.no,.no,.no] ⟨[[]],.no,.no,.no,.no,.no,.no,.no,rfl,⟨by simp,λ x hx=>by
   rw[zAM.mp hx];exact⟨[],λ _ h=>(nomatch h),zBu,zBu,rfl⟩⟩,by rw[show((0:Nat):Int)=0 from rfl,r0];exact zAM.mpr rfl⟩ (by
  rintro i d ρ hd ⟨ks,s2,s3,s4,s5,s6,s7,s8,rfl,K,hr⟩;have hi:i<n.toNat:=by
   have:=(zAP.mp hd).1
   rwa [zAE,mJ]at this
  have ed:d= .int (i:Int):=by
   rw[zAO,upI,zAO,zDi hi]at hd;simpa using hd.symm
  subst ed;have hl:=K.len hW hn;have c1:=aLn (List.ne_nil_of_mem hr) (by lia) (K.hash hW hn);obtain⟨ks',t4,t5,t6,t7,t8,q1,q2,q3,q4⟩:=aG4 (l:=ks.map lw) hW hn K s4 s5 s6 s7 s8;refine⟨[.sh (owD n ps),.sh (.itx none (ks'.map lw)),.sh (.int i),.sh (.itx none (ks'.map lw)),t4,t5,t6,t7,t8],?_,ks',_,_,t4,t5,t6,t7,t8,rfl,q2,?_⟩
  .show lmO [.sh (owD n ps),.sh (.itx none (ks.map lw)),.sh (.int i),s3,s4,s5,s6,s7,s8]=_
   have a1:pY 3 (opA aCe (aB (aC 1) aG)) [.sh (owD n ps),.sh (.itx none (ks.map lw)),.sh (.int i),s3,s4,s5,s6,s7,s8]= .nx (lmE n ps (ks.map lw) i ks s4 s5 s6 s7 s8):=by simp[c1]
   have a2:aIq (aC 1) (lmE n ps (ks.map lw) i ks s4 s5 s6 s7 s8)= .ok (ks.map aKb):=by
    unfold aIq
    show(Rs.ok (D.itx none (ks.map lw))).bd _=_
    rw[aU];dsimp only;rw[zAN];rfl
   have a3:aA0 3 (bU 1 (aC 3)) (lmE n ps (ks.map lw) i ks' t4 t5 t6 t7 t8)= .nx [.sh (owD n ps),.sh (.itx none (ks'.map lw)),.sh (.int i),.sh (.itx none (ks'.map lw)),t4,t5,t6,t7,t8]:=by
    unfold aA0
    show(match qK (.non::(ks'.map lwD).map λ p=>.tup (p.1.map .int)) ((ks'.map lwD).map (·.2))with
     |some l=>bU 1 (aC 3) ((lmE n ps (ks.map lw) i ks' t4 t5 t6 t7 t8).set 3 (.sh (.itx none l)))
     |none=>.st)=_
    rw[aL5 []];rfl
   unfold lmO;rw[aN,a1,bB,aN,fL,a2,bL,q1,bB,a3]
  .rcases aIB C nv i with z|⟨e,z1,z2,z3⟩
   .rw[show((i+1:Nat):Int)=(i:Int)+1 from rfl,z]
    exact q3 _ hr
   .rw[show((i+1:Nat):Int)=(i:Int)+1 from rfl,z3]
    exact q4 _ hr (i,e) z1 rfl z2)
 have kK:(((upI n).map D.int).length:Int)=n:=by rw[zAE,mJ];lia
 rw[kK]at g3 g4;have rl:(rk cm n).length=cm.length:=by
  unfold rk;rw[(sortI_perm _).length_eq,zAE];congr 1;refine zHJ.mpr λ q hq=>decide_eq_true ?_
  exact(hW.pr _ (C.ar q hq)).2.1
 have mx:((ks.map lw).map (·.2)).max?=some (cm.length:Int):=by
  rw[zGk,zAN];refine⟨zAY.mpr ⟨_,g4,by show((rk cm n).length:Int)=_;rw[rl]⟩,λ y hy=>?_⟩;obtain⟨x,hx,rfl⟩:=zAY.mp hy;obtain⟨M,m1,m2,m3,rfl⟩:=g3.gd x hx
  show(((sortI (M.map (·.2))).length:Nat):Int)<=_
  rw[(sortI_perm _).length_eq,zAE];exact Int.ofNat_le.mpr (ub M (λ q hq=>(m1 q hq).1) m2 m3)
 have st:aq 9 [owD n ps]=[.sh (owD n ps),.no,.no,.no,.no,.no,.no,.no,.no]:=rfl;have b1:bU 1 (aLg (aLk (cF aG) (cD (.int 0)))) [.sh (owD n ps),.no,.no,.no,.no,.no,.no,.no,.no]= .nx [.sh (owD n ps),.sh (.itx none ([[]].map lw)),.no,.no,.no,.no,.no,.no,.no]:=rfl;have b2:eZ gO (aB (op2 ixD (aC 0) (cD (.int 0))) aG) [.sh (owD n ps),.sh (.itx none ([[]].map lw)),.no,.no,.no,.no,.no,.no,.no]= .ok ((upI n).map D.int):=by
  have hr:=gD (j:=n) (by lia) (by lia);rw[<-zQ];simp[owD,hr]
 have b3:aG0 (.itx none (ks.map lw))= .ok (.int cm.length):=by
  unfold aG0;dsimp only;rw[mx]
 simp only[lW,gj,bx,st];rw[aN,b1,bB,aN,fL,b2,bL,g1,bB];simp[b3]
def aIg(hW:Ow n ps){fs en:List Int}(hc:∀p∈ps,p.1∈fs\/p.2∈en){M:gX}(h1:∀q∈M,q∈ps)(h2:(M.map (·.1)).Nodup)(h3:(M.map (·.2)).Nodup):M.length<=fs.length+en.length:=by
 have e:M.length=(M.filter λ q=>decide (q.1∈fs)).length+(M.filter λ q=>!decide (q.1∈fs)).length:=by
  rw[<-zA9];exact(List.filter_append_perm (λ q=>decide (q.1∈fs)) M).length_eq.symm
 have p1:(M.filter λ q=>decide (q.1∈fs)).length<=fs.length:=by
  rw[<-zAE (f:=λ q:Int×Int=>q.1)];refine sub_len (h2.sublist (zEf _ zEm)) λ x hx=>?_
  obtain⟨q,hq,rfl⟩:=zAY.mp hx;exact of_decide_eq_true (zAq.mp hq).2
 have p2:(M.filter λ q=>!decide (q.1∈fs)).length<=en.length:=by
  rw[<-zAE (f:=λ q:Int×Int=>q.2)];refine sub_len (h3.sublist (zEf _ zEm)) λ x hx=>?_
  obtain⟨q,hq,rfl⟩:=zAY.mp hx;obtain⟨z1,z2⟩:=zAq.mp hq;refine(hc q (h1 q z1)).resolve_left λ z=>?_
  rw[decide_eq_true z]at z2;cases z2
 lia
end
def aLV{n k c:Int}{ps:gX}{ns:List Int}{s4 s5 s6 s7:Slot}(hW:Ow n ps)(hn:n<=7):∃t4 t5 t6 t7,lwB [.sh (.scr ns),.sh (.int k),.sh (.int c),.sh (owD n ps),s4,s5,s6,s7]= .nx [.sh (.scr ns),.sh (.int k),.sh (.int c),.sh (owD n ps),t4,t5,t6,t7]:=by
 obtain⟨cm,S,e1,P⟩:=aEY hW;have e2:=xT hW e1;obtain⟨qs,e3,q1,q2⟩:=xG hW P e1;obtain⟨en,e4,m1,m2,m3⟩:=xH hW P e1;have sz:=P.size hW m1 m2;have cv:∀p∈ps,p.1∈fsL n cm en\/p.2∈en:=λ p hp=>aHC m3 hW hp
 have e5:=aBR hW hn P.c P.nv λ M h1 h2 h3=>by
  have:=aIg hW cv h1 h2 h3
  lia
 have hcl:=(P.ends hW).2;have ql:qs.length=cm.length:=by rw[q1.length_eq,zAE]
 have e6:dH [owD n ps,.tup (qs.map pD)]= .ok (.bl true):=by
  refine zr hW (λ q hq=>?_) q2 ?_ ?_ (by lia)
  .obtain⟨p,hp,rfl⟩:=zAY.mp (q1.mem_iff.mp hq)
   exact P.c.ar p hp
  .rw[(q1.map (·.1)).nodup_iff,zAN]
   exact P.nv
  .rw[(q1.map (·.2)).nodup_iff,zAN]
   exact P.c.nd
 have fl:(fsL n cm en).length<=100000:=by lia
 have el:(sortI en).length=en.length:=(sortI_perm en).length_eq;have e7:dI [owD n ps,.tup [.tup ((fsL n cm en).map .int),.tup ((sortI en).map .int)]]= .ok (.bl true):=by
  refine zu hW (λ x hx=>rW.mp (zAq.mp hx).1) ((aDw n).filter _) fl (λ x hx=>(P.rg hW (m2 x (dg.mp hx))).1) (iU m1) (by lia) λ p hp=>(cv p hp).imp id dg.mpr
 have e8:=lM (d:=.int cm.length) rfl;have c4:lw4 [.sh (.scr ns),.sh (.int k),.sh (.int c),.sh (owD n ps),s4,s5,s6,s7]= .nx [.sh (.scr ns),.sh (.int k),.sh (.int c),.sh (owD n ps),.sh (.int cm.length),s5,s6,s7]:=by simp[lw4,e5]
 have c5:lw5 [.sh (.scr ns),.sh (.int k),.sh (.int c),.sh (owD n ps),.sh (.int cm.length),s5,s6,s7]= .nx [.sh (.scr ns),.sh (.int k),.sh (.int c),.sh (owD n ps),.sh (.int cm.length),.sh (.int cm.length),s6,s7]:=by simp[lw5,e2]
 obtain⟨T,hT⟩:∃T,T=D.tup (qs.map pD):=⟨_,rfl⟩
 have lT:eV [T]= .ok (.int cm.length):=by rw[hT,<-ql,<-zAE (f:=pD)];rfl
 rw[<-hT]at e3 e6;have c6:lw6 [.sh (.scr ns),.sh (.int k),.sh (.int c),.sh (owD n ps),.sh (.int cm.length),.sh (.int cm.length),s6,s7]= .nx [.sh (.scr ns),.sh (.int k),.sh (.int c),.sh (owD n ps),.sh (.int cm.length),.sh (.int cm.length),.sh T,s7]:=by simp[lw6,e3]
 obtain⟨X,hX⟩:∃X,X=D.tup ((fsL n cm en).map .int):=⟨_,rfl⟩
 obtain⟨Y,hY⟩:∃Y,Y=D.tup ((sortI en).map .int):=⟨_,rfl⟩
 have lX:eV [X]= .ok (.int (fsL n cm en).length):=by rw[hX,<-zAE (f:=D.int)];rfl
 have lY:eV [Y]= .ok (.int en.length):=by rw[hY,<-el,<-zAE (f:=D.int)];rfl
 rw[<-hX,<-hY]at e4 e7;have c7:lw7 [.sh (.scr ns),.sh (.int k),.sh (.int c),.sh (owD n ps),.sh (.int cm.length),.sh (.int cm.length),.sh T,s7]= .nx [.sh (.scr ns),.sh (.int k),.sh (.int c),.sh (owD n ps),.sh (.int cm.length),.sh (.int cm.length),.sh T,.sh (.tup [X,Y])]:=by simp[lw7,e4]
 have c8:lw8 [.sh (.scr ns),.sh (.int k),.sh (.int c),.sh (owD n ps),.sh (.int cm.length),.sh (.int cm.length),.sh T,.sh (.tup [X,Y])]= .nx [.sh (.scr ns),.sh (.int k),.sh (.int c),.sh (owD n ps),.sh (.int cm.length),.sh (.int cm.length),.sh T,.sh (.tup [X,Y])]:=by
  simp[lw8,e8,o5,e6,lT]
 have c9:lw9 [.sh (.scr ns),.sh (.int k),.sh (.int c),.sh (owD n ps),.sh (.int cm.length),.sh (.int cm.length),.sh T,.sh (.tup [X,Y])]= .nx [.sh (.scr ns),.sh (.int k),.sh (.int c),.sh (owD n ps),.sh (.int cm.length),.sh (.int cm.length),.sh T,.sh (.tup [X,Y])]:=by
  have b0:atD [X,Y] 0= .ok X:=rfl;have b1:atD [X,Y] 1= .ok Y:=rfl;have ad:cL (.int (fsL n cm en).length) (.int en.length)= .ok (.int cm.length):=by
   show Rs.ok (D.int (((fsL n cm en).length:Int)+(en.length:Int)))=_;rw[<-sz];rfl
  simp[lw9,e7,b0,b1,lX,lY,ad]
 exact⟨_,_,_,_,by rw[lwB,aN,c4,bB,aN,c5,bB,aN,c6,bB,aN,c7,bB,aN,c8,bB,c9]⟩
def aLU{ns:List Int}{k:Int}{s2 s3 s4 s5 s6 s7:Slot}(hk:0<=k):∃t2 t3 t4 t5 t6 t7,lwK [.sh (.scr ns),.sh (.int k),s2,s3,s4,s5,s6,s7]= .nx [.sh (.scr ns),.sh (.int k),t2,t3,t4,t5,t6,t7]:=by
 obtain⟨c,ec⟩:=aJU (ns:=ns) hk;obtain⟨n,ps,ew,O,hn⟩:=wA (c:=c) (most:=7) (by decide);obtain⟨n2,ps2,ew2,O2,hn2,_,_⟩:=vz (c:=c) (most:=6) (by decide);have ew':fG [.int c,.int 7]= .ok (owD n ps):=ew;have ew2':fD [.int c,.int 6]= .ok (owD n2 ps2):=ew2;have c0:lwC [.sh (.scr ns),.sh (.int k),s2,s3,s4,s5,s6,s7]= .nx [.sh (.scr ns),.sh (.int k),.sh (.int c),s3,s4,s5,s6,s7]:=by simp[lwC,ec]
 have c1:fB lwL [.sh (.scr ns),.sh (.int k),.sh (.int c),s3,s4,s5,s6,s7]= .ok [owD n ps,owD n2 ps2]:=by simp[lwL,ew',ew2']
 obtain⟨ρ',e,t3,t4,t5,t6,t7,rfl⟩:=cU (a:=gnm 3) (u:=lwB) [owD n ps,owD n2 ps2] (λ _ ρ=>∃t3 t4 t5 t6 t7,ρ=[.sh (.scr ns),.sh (.int k),.sh (.int c),t3,t4,t5,t6,t7]) [.sh (.scr ns),.sh (.int k),.sh (.int c),s3,s4,s5,s6,s7] ⟨_,_,_,_,_,rfl⟩ (by
  rintro i d ρ hd ⟨t3,t4,t5,t6,t7,rfl⟩
  have:∃(m:Int) (qs:gX),d=owD m qs/\Ow m qs/\m<=7:=by
   have hm:=zAt hd;simp only[zAT,zB2,or_false]at hm;rcases hm with rfl|rfl
   .exact⟨n,ps,rfl,O,by lia⟩
   .exact⟨n2,ps2,rfl,O2,by lia⟩
  obtain⟨m,qs,rfl,O3,hm⟩:=this;obtain⟨u4,u5,u6,u7,e⟩:=aLV (ns:=ns) (k:=k) (c:=c) (s4:=t4) (s5:=t5) (s6:=t6) (s7:=t7) O3 hm;exact⟨_,e,_,_,_,_,_,rfl⟩)
 exact⟨_,_,_,_,_,_,by rw[lwK,aN,c0,bB,fL,c1,bL,e]⟩
def aG8(ns:List Int)(hl:ns.length<=63):aH9 [.scr ns]= .ok (.bl true):=by
 have st:aq 8 [.scr ns]=[.sh (.scr ns),.no,.no,.no,.no,.no,.no,.no]:=rfl;let m:Int:=if (if (8:Int)<ns.length then(8:Int)else ns.length)>1 then(if (8:Int)<ns.length then(8:Int)else ns.length)else 1
 have hm:1<=m/\m<=8:=by
  show 1<=(if (if (8:Int)<ns.length then(8:Int)else ns.length)>1 then(if (8:Int)<ns.length then(8:Int)else ns.length)else 1)/\(if (if (8:Int)<ns.length then(8:Int)else ns.length)>1 then(if (8:Int)<ns.length then(8:Int)else ns.length)else 1)<=8;split<;>split<;>lia
 have hr:=gD (j:=m) (by lia) (by lia);have hR:lwR [.sh (.scr ns),.no,.no,.no,.no,.no,.no,.no]= .ok (cT 0 m):=by
  rw[<-hr];unfold lwR;simp[m]
 obtain⟨ρ',el,t1,t2,t3,t4,t5,t6,t7,rfl⟩:=cU (a:=gnm 1) (u:=lwK) (cT 0 m) (λ _ ρ=>∃t1 t2 t3 t4 t5 t6 t7,ρ=[.sh (.scr ns),t1,t2,t3,t4,t5,t6,t7]) [.sh (.scr ns),.no,.no,.no,.no,.no,.no,.no] ⟨.no,.no,.no,.no,.no,.no,.no,rfl⟩ (by
  rintro i d ρ hd ⟨t1,t2,t3,t4,t5,t6,t7,rfl⟩;obtain⟨k,rfl,k0,k1⟩:=mz.mp (zAt hd);obtain⟨u2,u3,u4,u5,u6,u7,e⟩:=aLU (ns:=ns) (k:=k) (s2:=t2) (s3:=t3) (s4:=t4) (s5:=t5) (s6:=t6) (s7:=t7) k0;exact⟨_,e,_,_,_,_,_,_,_,rfl⟩)
 have z0:dB [.tup [.int 0,.tup []]]= .ok (.int 0):=by kernel_rfl
 have z1:cj [.tup [.int 3,.tup []]]= .ok (.tup []):=by kernel_rfl
 have z2:cu [.tup [.int 3,.tup []]]= .ok (.tup [.tup [],.tup []]):=by kernel_rfl
 have cz:lwZ [.sh (.scr ns),t1,t2,t3,t4,t5,t6,t7]= .ok (.bl true):=by
  have b0:cF (aB (cD (.int 0)) (aB (cF aG) aG)) [.sh (.scr ns),t1,t2,t3,t4,t5,t6,t7]= .ok (.tup [.int 0,.tup []]):=rfl;have b2:cF (aB (cD (.int 3)) (aB (cF aG) aG)) [.sh (.scr ns),t1,t2,t3,t4,t5,t6,t7]= .ok (.tup [.int 3,.tup []]):=rfl;have a1:aP dB (aB (cF (aB (cD (.int 0)) (aB (cF aG) aG))) aG) [.sh (.scr ns),t1,t2,t3,t4,t5,t6,t7]= .ok (.int 0):=by
   rw[nH,cI,b0,aU,iB,aU,aU,z0]
  have a2:aP cj (aB (cF (aB (cD (.int 3)) (aB (cF aG) aG))) aG) [.sh (.scr ns),t1,t2,t3,t4,t5,t6,t7]= .ok (.tup []):=by
   rw[nH,cI,b2,aU,iB,aU,aU,z1]
  have a3:aP cu (aB (cF (aB (cD (.int 3)) (aB (cF aG) aG))) aG) [.sh (.scr ns),t1,t2,t3,t4,t5,t6,t7]= .ok (.tup [.tup [],.tup []]):=by
   rw[nH,cI,b2,aU,iB,aU,aU,z2]
  have l0:cD (.int 0) [.sh (.scr ns),t1,t2,t3,t4,t5,t6,t7]= .ok (.int 0):=rfl;have l1:cF aG [.sh (.scr ns),t1,t2,t3,t4,t5,t6,t7]= .ok (.tup []):=rfl;have l2:cF (aB (cF aG) (aB (cF aG) aG)) [.sh (.scr ns),t1,t2,t3,t4,t5,t6,t7]= .ok (.tup [.tup [],.tup []]):=rfl;have q0:eqR false (.int 0) (.int 0)= .ok (.bl true):=rfl;have q1:eqR false (.tup []) (.tup [])= .ok (.bl true):=rfl;have q2:eqR false (.tup [.tup [],.tup []]) (.tup [.tup [],.tup []])= .ok (.bl true):=rfl;unfold lwZ;simp only[uf,pG,a1,a2,a3,l0,l1,l2,aU,q0,q1,q2,mj,aLs]
 have key:tY [.sh (.scr ns),.no,.no,.no,.no,.no,.no,.no]= .rt (.bl true):=by
  rw[tY,aN,fL,hR,bL,el,bB,lG,cz,bL]
 unfold aH9;rw[bx,st,key]
local macro_rules|`(tactic|walk_at "sc")=>`(tactic|exact⟨rfl,rfl,rfl,by decide+kernel,rfl,by decide+kernel,by decide+kernel⟩)
def top(i:Nat):Stmt:=PySem.Challenge.pw_fewways_k55_most_pairs_and_marks.main.body.getD i (.Pass ⟨0,0,0,0⟩)
abbrev pA:Stmt:=top 5
abbrev rJ:Stmt:=top 6
abbrev pB:Stmt:=top 7
abbrev rG:Stmt:=top 8
abbrev mZ:Stmt:=top 9
abbrev fU:Stmt:=top 10
abbrev lF:Stmt:=top 12
abbrev iQ:Stmt:=top 13
abbrev rM:Stmt:=top 14
abbrev jD:Stmt:=top 16
abbrev vL:Stmt:=top 17
abbrev lD:Stmt:=top 18
abbrev lB:Stmt:=top 19
abbrev lC:Stmt:=top 20
abbrev jb:Stmt:=top 22
abbrev ou:Stmt:=top 23
abbrev mY:Stmt:=top 24
abbrev o9:Stmt:=top 25
abbrev j9:Stmt:=top 26
abbrev j8:Stmt:=top 27
abbrev lE:Stmt:=top 28
abbrev gZ:Stmt:=top 29
abbrev jC:Stmt:=top 30
abbrev iK:Stmt:=top 31
abbrev iM:Stmt:=top 32
abbrev oh:Stmt:=top 33
abbrev aF6:Stmt:=top 34
def aAm:aY ["thing"] ["thing"] (aM pA):=by walk_at "sc"
def aCE:aY ["thing"] ["thing"] (aM rJ):=by walk_at "sc"
def aAn:aY ["many","thing"] ["many","thing"] (aM pB):=by walk_at "sc"
def aCD:aY ["many","thing"] ["many","thing"] (aM rG):=by walk_at "sc"
def zP:aY ["things","at"] ["things"] (aM mZ):=by walk_at "sc"
def ni:aY ["many","thing","pair"] ["many","thing"] (aM fU):=by walk_at "sc"
def xO:aY ["thing"] ["thing"] (aM lF):=by walk_at "sc"
def rF:aY ["thing"] ["thing"] (aM iQ):=by walk_at "sc"
def aCF:aY ["web","led","begin","end"] ["web"] (aM rM):=by walk_at "sc"
def aAo:aY ["led","come","begin","tried","end"] ["led","come","begin","tried"] (aM jD):=by walk_at "sc"
def aEK:aY ["web","led","come","begin"] ["web"] (aM vL):=by walk_at "sc"
def xM:aY ["web"] ["web"] (aM lD):=by walk_at "sc"
def xJ:aY ["web"] ["web"] (aM lB):=by walk_at "sc"
def xK:aY ["web","led","come","kept","begins","ends","at","begin","end"] ["web"] (aM lC):=by walk_at "sc"
def vJ:aY ["_law_script","_law_k"] ["_law_script","_law_k"] (aM jb):=by walk_at "sc"
def aAl:aY ["_law_cell","_law_k","_law_bound","_law_left","_law_j","_law_stir"] ["_law_cell","_law_k","_law_bound"] (aM ou):=by walk_at "sc"
def zO:aY ["_law_found"] ["_law_found"] (aM mY):=by walk_at "sc"
def aAj:aY ["_law_cell","_law_many","_law_found","_law_place"] ["_law_cell","_law_many"] (aM o9):=by walk_at "sc"
def vH:aY ["_law_cell","_law_most_here","_law_many","_law_kind","_law_thick","_law_order","_law_arrows","_law_spot","_law_j","_law_i","_law_here"] ["_law_cell","_law_most_here"] (aM j9):=by walk_at "sc"
def vG:aY ["_law_cell","_law_most_here","_law_many","_law_kind","_law_thick","_law_order","_law_arrows","_law_spot","_law_j","_law_i"] ["_law_cell","_law_most_here"] (aM j8):=by walk_at "sc"
def xN:aY ["_law_row"] ["_law_row"] (aM lE):=by walk_at "sc"
def pZ:aY ["_law_thing","_law_many"] ["_law_thing","_law_many"] (aM gZ):=by walk_at "sc"
def uH:aY ["_law_thing","_law_many"] ["_law_thing","_law_many"] (aM jC):=by walk_at "sc"
def rD:aY ["_law_web","_law_thing"] ["_law_web","_law_thing"] (aM iK):=by walk_at "sc"
def rE:aY ["_law_web","_law_thing"] ["_law_web","_law_thing"] (aM iM):=by walk_at "sc"
def aAk:aY ["_law_web","_law_known","_law_place","_law_later","_law_taken","_law_many","_law_one","_law_other","_law_more"] ["_law_web"] (aM oh):=by walk_at "sc"
def aK6:aY ["_law_script","_law_k","_law_cell","_law_web","_law_due","_law_found","_law_pairs","_law_marks"] ["_law_script"] (aM aF6):=by walk_at "sc"
set_option genInjectivity false in
set_option genSizeOf false in
structure Adr where
 wV:Addr
 gk:zAg
 yX:Addr
 il:zAg
 wW:Addr
 gm:zAg
 yW:Addr
 ik:zAg
 tW:Addr
 dY:zAg
 jJ:Addr
 bA:zAg
 qU:Addr
 eN:zAg
 lu:Addr
 cO:zAg
 yZ:Addr
 iu:zAg
 jH:Addr
 b8:zAg
 aB4:Addr
 kE:zAg
 qR:Addr
 eF:zAg
 qP:Addr
 du:zAg
 qQ:Addr
 dw:zAg
 oV:Addr
 cR:zAg
 wU:Addr
 fX:zAg
 tV:Addr
 fj:zAg
 wQ:Addr
 gh:zAg
 oU:Addr
 dM:zAg
 oR:Addr
 dJ:zAg
 qT:Addr
 eG:zAg
 jw:Addr
 cB:zAg
 nD:Addr
 cV:zAg
 lq:Addr
 cM:zAg
 lr:Addr
 cN:zAg
 wR:Addr
 gj:zAg
 aJz:Addr
 tY:zAg
 oG:Value
 pR:Addr
 pQ:Addr
structure Txt(K:zAA)(mg:Str->Option Value)(t:Adr):Prop where
 pM:Dnr K mg "is_whole" pA ["thing"] t.wV t.gk
 ye:Dnr K mg "is_many" rJ ["thing"] t.yX t.il
 pN:Dnr K mg "is_place" pB ["many","thing"] t.wW t.gm
 yd:Dnr K mg "is_pair" rG ["many","thing"] t.yW t.ik
 tX:Dnr K mg "is_rising" mZ ["things"] t.tW t.dY
 jM:Dnr K mg "are_rising_pairs" fU ["many","thing"] t.jJ t.bA
 qY:Dnr K mg "is_one_way" lF ["thing"] t.qU t.eN
 fM:Dnr K mg "check_one_way" iQ ["thing"] t.lu t.cO
 sV:Dnr K mg "all_led" rM ["web"] t.yZ t.iu
 pO:Dnr K mg "find_end" jD ["led","come","begin","tried"] t.jH t.b8
 qX:Dnr K mg "paired" vL ["web"] t.aB4 t.kE
 lR:Dnr K mg "most_pairs" lD ["web"] t.qR t.eF
 lO:Dnr K mg "some_pairs" lB ["web"] t.qP t.du
 lQ:Dnr K mg "some_marks" lC ["web"] t.qQ t.dw
 oY:Dnr K mg "_law_cell_at" jb ["_law_script","_law_k"] t.oV t.cR
 cg:Dnr K mg "_law_draw" ou ["_law_cell","_law_k","_law_bound"] t.wU t.fX
 jY:Dnr K mg "_law_whole" mY ["_law_found"] t.tV t.fj
 pL:Dnr K mg "_law_turn" o9 ["_law_cell","_law_many"] t.wQ t.gh
 oX:Dnr K mg "_law_one_way" j9 ["_law_cell","_law_most_here"] t.oU t.dM
 oW:Dnr K mg "_law_ordered" j8 ["_law_cell","_law_most_here"] t.oR t.dJ
 lU:Dnr K mg "_law_rising" lE ["_law_row"] t.qT t.eG
 jy:Dnr K mg "_law_are_places" gZ ["_law_thing","_law_many"] t.jw t.cB
 nF:Dnr K mg "_law_is_arrow" jC ["_law_thing","_law_many"] t.nD t.cV
 lz:Dnr K mg "_law_are_pairs" iK ["_law_web","_law_thing"] t.lq t.cM
 mC:Dnr K mg "_law_are_marks" iM ["_law_web","_law_thing"] t.lr t.cN
 wZ:Dnr K mg "_law_most" oh ["_law_web"] t.wR t.gj
 aHJ:Dnr K mg "law" aF6 ["_law_script"] t.aJz t.tY
 iC:mg "MOST_PLACES"=some t.oG
 xQ:RelV (.int 60) t.oG
 m_FewError:mg "FewError"=some (.ref t.pR)
 l_FewError:bT mg "FewError"=t.pR
 kZ:uP K t.pR
 aCU:mg "NoOneWay"=some (.ref t.pQ)
 aC2:bT mg "NoOneWay"=t.pQ
 iw:uP K t.pQ
 aBC:mg "all"=none
 aGZ:mg "bool"=none
 aLS:mg "dict"=none
 aJu:mg "int"=none
 bK:mg "isinstance"=none
 iH:mg "len"=none
 aGY:mg "max"=none
 aMe:mg "min"=none
 dN:mg "range"=none
 aGX:mg "set"=none
 mq:mg "sorted"=none
 dq:mg "tuple"=none
section
variable{P:zAV}{w:World}{K:zAA}{mg:Str->Option Value}{base:Heap}{t:Adr}
def tK(T:Txt K mg t):cA P w K mg base (CX1 P w) 1 t.wV t.gk ["thing"] (spF K (bT mg) 1 jO):=
 bC (k:=0) (f:=gk) T.pM aAm λ n _ _ _ _ _ _ _=>
  (aK (aZ (gY (jB (aA 0) T.bK T.aJu) (jA (aF1 (jB (aA 0) T.bK T.aGZ))))))
def zc(T:Txt K mg t):cA P w K mg base (CX1 P w) 1 t.tW t.dY ["things"] (spF K (bT mg) 1 fu):=
 bC (k:=0) (f:=dY) T.tX zP λ n _ _ _ _ _ _ _=>
  (aJ (eQ (aCx (aD aH (aD (gC T.iH (aD (aA 0) aF)) aF)) T.dN) (bR (ks:=[1]))
   (aK (eY (dU (tE (aL (aA 0) (zJ (aA 1) aH)) (aL (aA 0) (aA 1))))
    (aK (aZ gP))
    bQ)))
  (aK (aZ gP)))
def v7(T:Txt K mg t):cA P w K mg base (CX1 P w) 1 t.yZ t.iu ["web"] (spF K (bT mg) 1 gw):=
 bC (k:=0) (f:=iu) T.sV aCF λ n _ _ _ _ _ _ _=>
  (aJ (aMP (N:=["place"]) (js:=[none]) (ks:=[0]) (fK (aD (aL (aA 0) aH) aF) T.dN) bj)
  (aJ (eQ (gU (aL (aA 0) aH)) (rB (n:=2) (dD (bR (ks:=[2,3])) (dD (bR (ks:=[2,3])) nQ)))
   (aK (aBv 1 (aA 2) (cG (aA 3)))))
  (aK (aZ (zG 1)))))
def v6(T:Txt K mg t):cA P w K mg base (CX1 P w) 1 t.oV t.cR ["_law_script","_law_k"] (spF K (bT mg) 2 fH):=
 bC (k:=0) (f:=cR) T.oY vJ λ n _ _ _ _ _ _ _=>
  (aJ (eY (tE (aA 1) (gC T.iH (aD (aA 0) aF)))
   (aK (aZ (cG (aL (aA 0) (aA 1)))))
   bQ)
  (aK (aZ aH)))
def cY(T:Txt K mg t):cA P w K mg base (CX1 P w) 1 t.wU t.fX ["_law_cell","_law_k","_law_bound"] (spF K (bT mg) 3 aW):=
 bC (k:=0) (f:=fX) T.cg aAl λ n _ _ _ _ _ _ _=>
  (aJ (eY (aMO (aA 0) (aKZ aH aH))
   (aJ (ak (i:=3) (fQ (aA 0)))
   (aJ (eQ (fK (aD (aA 1) aF) T.dN) (bR (ks:=[4]))
    (aK (ak (i:=3) (fQ (aDB (aA 3) (aA 2))))))
   (aK (aZ (rC (aA 3) (aA 2))))))
   bQ)
  (aJ (ak (i:=5) (fQ (rC (o8 (dW (dW (rC (aA 0) aH) (o8 aH (aA 1))) aH) aH) aH)))
  (aJ (ak (i:=5) (fQ (rC (dW (dW (o8 (aA 5) (aA 5)) (o8 aH (aA 1))) aH) aH)))
  (aK (aZ (rC (aDB (rC (o8 (aA 5) aH) aH) aH) (aA 2)))))))
def lK(T:Txt K mg t):cA P w K mg base (CX1 P w) 1 t.tV t.fj ["_law_found"] (spF K (bT mg) 1 cP):=
 bC (k:=0) (f:=fj) T.jY zO λ n _ _ _ _ _ _ _=>
  (aK (aZ (gY (jB (aA 0) T.bK T.aJu) (jA (aF1 (jB (aA 0) T.bK T.aGZ))))))
def oN(T:Txt K mg t):cA P w K mg base (CX1 P w) 1 t.qT t.eG ["_law_row"] (spF K (bT mg) 1 dC):=
 bC (k:=0) (f:=eG) T.lU xN λ n _ _ _ _ _ _ _=>
  (aK (aZ (vD T.aBC (aD (mW (N:=["_law_k","_law_row"]) (js:=[none,some 0]) (ks:=[0]) (aCx (aD aH (aD (gC T.iH (aD (aA 0) aF)) aF)) T.dN) bj j6 (aMQ (aL (aA 1) (zJ (aA 0) aH)) (aL (aA 1) (aA 0)))) aF))))
def aAz(T:Txt K mg t):cA P w K mg base (CX1 P w) 1 t.wR t.gj ["_law_web"] (spF K (bT mg) 1 lW):=
 bC (k:=0) (f:=gj) T.wZ aAk λ n _ _ _ _ _ _ _=>
  (aJ (ak (i:=1) (fQ (aHv (aK3 (cQ aF) aH))))
  (aJ (eQ (fK (aD (aL (aA 0) aH) aF) T.dN) (bR (ks:=[2]))
   (aJ (km (i:=3) (ut (aHo (aHx T.aLS (aD (aA 1) aF)))))
   (aJ (eQ (aEF (aA 1)) (rB (n:=2) (dD (bR (ks:=[4,5])) (dD (bR (ks:=[4,5])) nQ)))
    (aK (eQ (gU (aL (aA 0) aH)) (rB (n:=2) (dD (bR (ks:=[6,7])) (dD (bR (ks:=[6,7])) nQ)))
     (aK (eY (SW.st (mO (xu (aA 6) (aA 2)) (kj (zB (aA 7) (aA 4)))))
      (aJ (ak (i:=8) (fQ (ji T.dq (aD (aAg T.mq (aD (dW (aA 4) (cQ (aD (aA 7) aF))) aF)) aF))))
      (aK (aHj 3 (aA 8) (aCz T.aGY (aD (aHw (j7 3) (aA 8) aH) (aD (dW (aA 5) aH) aF))))))
      bQ)))))
   (aK (aFP 3 (ak (i:=1) (fQ (aA 3))))))))
  (aK (aZ (aK0 T.aGY (aA 1))))))
def aCT(T:Txt K mg t):cA P w K mg base (CX1 P w) 2 t.yX t.il ["thing"] (spF K (bT mg) 1 n6):=
 bC (k:=1) (f:=il) T.ye aCE λ n _ _ _ _ _ _ _=>
  (aK (aZ (gY (aX (tK T) T.pM (aD (aA 0) aF)) (jA (aHt aH (aA 0) (aHu T.iC T.xQ (λ _ _=>.int _)))))))
def tL(T:Txt K mg t):cA P w K mg base (CX1 P w) 2 t.wW t.gm ["many","thing"] (spF K (bT mg) 2 fZ):=
 bC (k:=1) (f:=gm) T.pN aAn λ n _ _ _ _ _ _ _=>
  (aK (aZ (gY (aX (tK T) T.pM (aD (aA 1) aF)) (jA (zM aH (aA 1) (aA 0))))))
def tH(T:Txt K mg t):cA P w K mg base (CX1 P w) 2 t.wQ t.gh ["_law_cell","_law_many"] (spF K (bT mg) 2 fY):=
 bC (k:=1) (f:=gh) T.pL aAj λ n _ _ _ _ _ _ _=>
  (aJ (km (i:=2) (ut (aBy aF)))
  (aJ (eQ (fK (aD (aA 1) aF) T.dN) (bR (ks:=[3]))
   (aK (aEC 2 (aX (cY T) T.cg (aD (aA 0) (aD (dW aH (aA 3)) (aD (dW (aA 3) aH) aF)))) (cG (aA 3)))))
  (aK (aZ (zG 2)))))
def qC(T:Txt K mg t):cA P w K mg base (CX1 P w) 2 t.jw t.cB ["_law_thing","_law_many"] (spF K (bT mg) 2 cC):=
 bC (k:=1) (f:=cB) T.jy pZ λ n _ _ _ _ _ _ _=>
  (aJ (eY (SW.st (iy (dU (eO (jB (aA 0) T.bK T.dq))) (iJ (dU (eO (vD T.aBC (aD (mW (N:=["_law_one","_law_many"]) (js:=[none,some 1]) (ks:=[0]) (gU (aA 0)) bj j6 (gY (aX (lK T) T.jY (aD (aA 0) aF)) (jA (zM aH (aA 0) (aA 1))))) aF)))))))
   (aK (aZ gP))
   bQ)
  (aK (aZ (aX (oN T) T.lU (aD (aA 0) aF)))))
def uJ(T:Txt K mg t):cA P w K mg base (CX1 P w) 2 t.nD t.cV ["_law_thing","_law_many"] (spF K (bT mg) 2 dZ):=
 bC (k:=1) (f:=cV) T.nF uH λ n _ _ _ _ _ _ _=>
  (aJ (eY (SW.st (iy (dU (eO (jB (aA 0) T.bK T.dq))) (iJ (tD (gC T.iH (aD (aA 0) aF)) aH))))
   (aK (aZ gP))
   bQ)
  (aK (aZ (gY (vD T.aBC (aD (mW (N:=["_law_one","_law_many"]) (js:=[none,some 1]) (ks:=[0]) (gU (aA 0)) bj j6 (gY (aX (lK T) T.jY (aD (aA 0) aF)) (jA (zM aH (aA 0) (aA 1))))) aF)) (jA (aJg (aL (aA 0) aH) (aL (aA 0) aH)))))))
def aCS(T:Txt K mg t):cA P w K mg base (CX1 P w) 3 t.yW t.ik ["many","thing"] (spF K (bT mg) 2 kY):=
 bC (k:=2) (f:=ik) T.yd aCD λ n _ _ _ _ _ _ _=>
  (aJ (eY (SW.st (iy (dU (eO (jB (aA 1) T.bK T.dq))) (iJ (tD (gC T.iH (aD (aA 1) aF)) aH))))
   (aK (aZ gP))
   bQ)
  (aK (aZ (gY (aX (tL T) T.pN (aD (aA 0) (aD (aL (aA 1) aH) aF))) (gY (aX (tL T) T.pN (aD (aA 0) (aD (aL (aA 1) aH) aF))) (jA (aJg (aL (aA 1) aH) (aL (aA 1) aH))))))))
def v5(T:Txt K mg t):cA P w K mg base (CX1 P w) 3 t.oU t.dM ["_law_cell","_law_most_here"] (spF K (bT mg) 2 fG):=
 bC (k:=2) (f:=dM) T.oX vH λ n _ _ _ _ _ _ _=>
  (aJ (ak (i:=2) (fQ (aX (cY T) T.cg (aD (aA 0) (aD aH (aD (dW (aA 1) aH) aF))))))
  (aJ (ak (i:=3) (fQ (aX (cY T) T.cg (aD (aA 0) (aD aH (aD aH aF))))))
  (aJ (aCt (i:=4) (fQ (aL (zL (aD aH (aD aH (aD aH (aD aH (aD aH (aD aH (aD aH (aD aH aF))))))))) (aA 3))))
  (aJ (ak (i:=5) (fQ (aX (tH T) T.pL (aD (aA 0) (aD (aA 2) aF)))))
  (aJ (km (i:=6) (ut (aBy aF)))
  (aJ (ak (i:=7) (fQ aH))
  (aJ (eQ (fK (aD (aA 2) aF) T.dN) (bR (ks:=[8]))
   (aK (eQ (fK (aD (aA 8) aF) T.dN) (bR (ks:=[9]))
    (aJ (ak (i:=7) (fQ (dW (aA 7) aH)))
    (aJ (ak (i:=10) (fQ (aX (cY T) T.cg (aD (aA 0) (aD (aA 7) (aD aH aF))))))
    (aJ (eY (SW.st (iy (tE (aA 10) (zH 4)) (iJ (SW.st (mO (xu (aA 3) aH) (kj (xu (aA 8) (dW (aA 9) aH))))))))
     (aK (jh 6 (cQ (aD (cG (aL (aA 5) (aA 9))) (aD (cG (aL (aA 5) (aA 8))) aF)))))
     bQ)
    (aK (eY (SW.st (iy (SW.st (mO (aJf (aA 3) aH) (mO (tD (aA 3) aH) (kj (tE (aX (cY T) T.cg (aD (aA 0) (aD (dW (aA 7) aH) (aD aH aF)))) (zJ (zH 4) aH)))))) (iJ (SW.st (mO (xu (aA 3) aH) (kj (tE (aA 10) aH)))))))
     (aK (jh 6 (cQ (aD (cG (aL (aA 5) (aA 8))) (aD (cG (aL (aA 5) (aA 9))) aF)))))
     bQ))))))))
  (aJ (eY (SW.st (mO (xu (aA 3) aH) (kj (aJf (aA 2) aH))))
   (aK (jh 6 (cQ (aD (cG (aL (aA 5) (zJ (aA 2) aH))) (aD (cG (aL (aA 5) aH)) aF)))))
   bQ)
  (aK (aZ (cQ (aD (cG (aA 2)) (aD (ji T.dq (aD (zK T.mq T.aGX (aD (j7 6) aF)) aF)) aF)))))))))))))
def v4(T:Txt K mg t):cA P w K mg base (CX1 P w) 3 t.oR t.dJ ["_law_cell","_law_most_here"] (spF K (bT mg) 2 fD):=
 bC (k:=2) (f:=dJ) T.oW vG λ n _ _ _ _ _ _ _=>
  (aJ (ak (i:=2) (fQ (aX (cY T) T.cg (aD (aA 0) (aD aH (aD (dW (aA 1) aH) aF))))))
  (aJ (ak (i:=3) (fQ (aX (cY T) T.cg (aD (aA 0) (aD aH (aD aH aF))))))
  (aJ (aCt (i:=4) (fQ (aL (zL (aD aH (aD aH (aD aH (aD aH (aD aH (aD aH aF))))))) (aA 3))))
  (aJ (ak (i:=5) (fQ (aX (tH T) T.pL (aD (aA 0) (aD (aA 2) aF)))))
  (aJ (km (i:=6) (ut (aBy aF)))
  (aJ (ak (i:=7) (fQ aH))
  (aJ (eQ (fK (aD (aA 2) aF) T.dN) (bR (ks:=[8]))
   (aK (eQ (fK (aD (aA 8) aF) T.dN) (bR (ks:=[9]))
    (aJ (ak (i:=7) (fQ (dW (aA 7) aH)))
    (aK (eY (SW.st (iy (tE (aX (cY T) T.cg (aD (aA 0) (aD (aA 7) (aD aH aF)))) (zH 4)) (iJ (SW.st (mO (xu (aA 3) aH) (kj (aMN (aA 8) (cQ (aD (dW (o8 aH (aA 9)) aH) (aD (dW (o8 aH (aA 9)) aH) aF))))))))))
     (aK (jh 6 (cQ (aD (cG (aL (aA 5) (aA 9))) (aD (cG (aL (aA 5) (aA 8))) aF)))))
     bQ))))))
  (aK (aZ (cQ (aD (cG (aA 2)) (aD (ji T.dq (aD (yC T.mq (aD (j7 6) aF)) aF)) aF))))))))))))
def rR(T:Txt K mg t):cA P w K mg base (CX1 P w) 3 t.lq t.cM ["_law_web","_law_thing"] (spF K (bT mg) 2 dH):=
 bC (k:=2) (f:=cM) T.lz rD λ n _ _ _ _ _ _ _=>
  (aJ (eY (SW.st (iy (dU (eO (jB (aA 1) T.bK T.dq))) (iJ (dU (eO (vD T.aBC (aD (mW (N:=["_law_one","_law_web"]) (js:=[none,some 0]) (ks:=[0]) (gU (aA 1)) bj j6 (gY (aX (uJ T) T.nF (aD (aA 0) (aD (aL (aA 1) aH) aF))) (jA (aMR (aA 0) (aL (aA 1) aH))))) aF)))))))
   (aK (aZ gP))
   bQ)
  (aJ (eY (SW.st (iy (dU (eO (aX (oN T) T.lU (aD (aA 1) aF)))) (iJ (tE (aDA T.iH (aD (aF0 T.aGX (aD (mW (N:=["_law_one","_law_other"]) (js:=[none,none]) (ks:=[0,1]) (gU (aA 1)) (rB (n:=2) (dD bj (dD bj nQ))) j6 (cG (aA 0))) aF)) aF)) (gC T.iH (aD (aA 1) aF))))))
   (aK (aZ gP))
   bQ)
  (aK (aZ (aAh (aDA T.iH (aD (aF0 T.aGX (aD (mW (N:=["_law_one","_law_other"]) (js:=[none,none]) (ks:=[0,1]) (gU (aA 1)) (rB (n:=2) (dD bj (dD bj nQ))) j6 (cG (aA 1))) aF)) aF)) (gC T.iH (aD (aA 1) aF)))))))
def rT(T:Txt K mg t):cA P w K mg base (CX1 P w) 3 t.lr t.cN ["_law_web","_law_thing"] (spF K (bT mg) 2 dI):=
 bC (k:=2) (f:=cN) T.mC rE λ n _ _ _ _ _ _ _=>
  (aJ (eY (SW.st (iy (dU (eO (jB (aA 1) T.bK T.dq))) (iy (tD (gC T.iH (aD (aA 1) aF)) aH) (iJ (dU (eO (vD T.aBC (aD (mW (N:=["_law_part","_law_web"]) (js:=[none,some 0]) (ks:=[0]) (gU (aA 1)) bj j6 (aX (qC T) T.jy (aD (aA 0) (aD (aL (aA 1) aH) aF)))) aF))))))))
   (aK (aZ gP))
   bQ)
  (aK (aZ (aAh (mW (N:=["_law_arrow","_law_thing"]) (js:=[none,some 1]) (ks:=[0]) (gU (aL (aA 0) aH)) bj (aBx (SW.st (mO (zB (aL (aA 0) aH) (aL (aA 1) aH)) (kj (zB (aL (aA 0) aH) (aL (aA 1) aH)))))) (cG (aA 0))) (zL aF)))))
def nu(T:Txt K mg t):cA P w K mg base (CX1 P w) 4 t.jJ t.bA ["many","thing"] (spF K (bT mg) 2 bO):=
 bC (k:=3) (f:=bA) T.jM ni λ n _ _ _ _ _ _ _=>
  (aJ (eY (dU (eO (jB (aA 1) T.bK T.dq)))
   (aK (aZ gP))
   bQ)
  (aJ (eQ (gU (aA 1)) (bR (ks:=[2]))
   (aK (eY (dU (eO (aX (aCS T) T.yd (aD (aA 0) (aD (aA 2) aF)))))
    (aK (aZ gP))
    bQ)))
  (aK (aZ (aX (zc T) T.tX (aD (aA 1) aF))))))
def xR(T:Txt K mg t):cA P w K mg base (CX1 P w) 5 t.qU t.eN ["thing"] (spF K (bT mg) 1 iV):=
 bC (k:=4) (f:=eN) T.qY xO λ n _ _ _ _ _ _ _=>
  (aJ (eY (SW.st (iy (dU (eO (jB (aA 0) T.bK T.dq))) (iJ (tD (gC T.iH (aD (aA 0) aF)) aH))))
   (aK (aZ gP))
   bQ)
  (aK (aZ (gY (aX (aCT T) T.ye (aD (aL (aA 0) aH) aF)) (jA (aX (nu T) T.jM (aD (aL (aA 0) aH) (aD (aL (aA 0) aH) aF))))))))
def gf(T:Txt K mg t):cA P w K mg base (CX1 P w) 6 t.lu t.cO ["thing"] (spF K (bT mg) 1 bh):=
 bC (k:=5) (f:=cO) T.fM rF λ n _ _ _ _ _ _ _=>
  (aK (eY (dU (eO (aX (xR T) T.qY (aD (aA 0) aF))))
   (aK (aFQ rfl T.aCU T.aC2 T.iw (aD aKY aF)))
   bQ))
def aCj(T:Txt K mg t){R:FB}{k:Nat}(hR:cA P w K mg base (CX1 P w) k t.jH t.b8 ["led","come","begin","tried"] (spB K R))(nd:List.Nodup (["led","come","begin","tried","end"]:List Str))(cdv A outer s H Hb E hr):SBs (ctB P w K mg base ["led","come","begin","tried","end"] "find_end" (aM jD) t.jH cdv A outer s H Hb E k hr) (fO jD) (b8 R):=
  (vK (aK8 (gU (aL (aA 0) (aA 2))) (bR (ks:=[4])) (uV (aMT (uU (aA 4) (j7 3)) (vK (aF5 3 (aA 4) gP) (uV (aK7 hR T.pO (uU (aA 4) (j7 1)) (aK4 (j7 1) (aA 4)) (vK (aF5 1 (aA 4) (cG (aA 2))) (uV (aF4 gP (λ _ _ e=>by cases e;rfl)))) (hr:=zAS _)))) aHz))) (uV (aF4 gP (λ _ _ e=>by cases e;rfl))))
theorem qD(T:Txt K mg t):∀n,cA P w K mg base (CX1 P w) (1+n) t.jH t.b8 ["led","come","begin","tried"] (spB K (bf n))
 |0=>aEg
 |n+1=>aJJ (k:=1+n) (f:=b8 (bf n)) T.pO aAo λ nd cdv A outer s H Hb E hr=>aCj T (qD T n) nd cdv A outer s H Hb E hr
def aBA(T:Txt K mg t):cA P w K mg base (CX1 P w) 65 t.jH t.b8 ["led","come","begin","tried"] (spB K gr):=qD T 64
def rQ(T:Txt K mg t):cA P w K mg base (CX1 P w) 66 t.aB4 t.kE ["web"] (spF K (bT mg) 1 cW):=
 bC (k:=65) (f:=kE) T.qX aEK λ n _ _ _ _ _ _ _=>
  (aJ (ak (i:=1) (fQ (aX (v7 T) T.sV (aD (aA 0) aF))))
  (aJ (km (i:=2) (ut (aHo aDC)))
  (aJ (eQ (fK (aD (aL (aA 0) aH) aF) T.dN) (bR (ks:=[3]))
   (aK (aFR 1 2 (aBA T) T.pO (aA 3))))
  (aK (aZ (zG 2))))))
def oM(T:Txt K mg t):cA P w K mg base (CX1 P w) 67 t.qR t.eF ["web"] (spF K (bT mg) 1 dB):=
 bC (k:=66) (f:=eF) T.lR xM λ n _ _ _ _ _ _ _=>
  (aJ (zE (aX (gf T) T.fM (aD (aA 0) aF)))
  (aK (aZ (aK1 T.iH (aD (aX (rQ T) T.qX (aD (aA 0) aF)) aF)))))
def oJ(T:Txt K mg t):cA P w K mg base (CX1 P w) 67 t.qP t.du ["web"] (spF K (bT mg) 1 cj):=
 bC (k:=66) (f:=du) T.lO xJ λ n _ _ _ _ _ _ _=>
  (aJ (zE (aX (gf T) T.fM (aD (aA 0) aF)))
  (aK (aZ (ji T.dq (aD (yC T.mq (aD (mW (N:=["end","begin"]) (js:=[none,none]) (ks:=[0,1]) (aFX (aF2 (aX (rQ T) T.qX (aD (aA 0) aF)))) (rB (n:=2) (dD bj (dD bj nQ))) j6 (cQ (aD (cG (aA 1)) (aD (cG (aA 0)) aF)))) aF)) aF)))))
def oK(T:Txt K mg t):cA P w K mg base (CX1 P w) 67 t.qQ t.dw ["web"] (spF K (bT mg) 1 cu):=
 bC (k:=66) (f:=dw) T.lQ xK λ n _ _ _ _ _ _ _=>
  (aJ (zE (aX (gf T) T.fM (aD (aA 0) aF)))
  (aJ (ak (i:=1) (fQ (aX (v7 T) T.sV (aD (aA 0) aF))))
  (aJ (ak (i:=2) (fQ (aF2 (aX (rQ T) T.qX (aD (aA 0) aF)))))
  (aJ (ak (i:=3) (fQ (aMS (N:=["begin"]) (js:=[none]) (ks:=[0]) (aHn (aA 2)) bj j6 (cG (aA 0)) gP)))
  (aJ (km (i:=4) (ut (aHo (mW (N:=["place","kept"]) (js:=[none,some 3]) (ks:=[0]) (fK (aD (aL (aA 0) aH) aF) T.dN) bj (aBx (uU (aA 0) (aA 1))) (cG (aA 0))))))
  (aJ (km (i:=5) (ut (aHo aDC)))
  (aJ (ak (i:=6) (fQ aH))
  (aJ (aFO (tE (aA 6) (gC T.iH (aD (j7 4) aF)))
   (aJ (ak (i:=7) (fQ (cG (aL (j7 4) (aA 6)))))
   (aJ (eQ (gU (aL (aA 1) (aA 7))) (bR (ks:=[8]))
    (aK (eY (uU (aA 8) (j7 5))
     (aJ (aHk 5 (aA 8) gP)
     (aK (jh 4 (aK2 (aA 2) (aA 8)))))
     bQ)))
   (aK (aKQ (i:=6) aH (λ _=>aL8))))))
  (aK (aZ (cQ (aD (ji T.dq (aD (mW (N:=["place","begins"]) (js:=[none,some 4]) (ks:=[0]) (fK (aD (aL (aA 0) aH) aF) T.dN) bj (aBx (zB (aA 0) (aA 1))) (cG (aA 0))) aF)) (aD (ji T.dq (aD (aCC T.mq (aD (j7 5) aF)) aF)) aF)))))))))))))
def aLR(T:Txt K mg t):cA P w K mg base (CX1 P w) 68 t.aJz t.tY ["_law_script"] (spF K (bT mg) 1 aH9):=
 bC (k:=67) (f:=tY) T.aHJ aK6 λ n _ _ _ _ _ _ _=>
  (aJ (eQ (fK (aD (aCz T.aGY (aD aH (aD (aHs T.aMe (aD (gC T.iH (aD (aA 0) aF)) (aD aH aF))) aF))) aF) T.dN) (bR (ks:=[1]))
   (aJ (ak (i:=2) (fQ (aX (v6 T) T.oY (aD (aA 0) (aD (aA 1) aF)))))
   (aK (eQ (gU (zL (aD (aX (v5 T) T.oX (aD (aA 2) (aD aH aF))) (aD (aX (v4 T) T.oW (aD (aA 2) (aD aH aF))) aF)))) (bR (ks:=[3]))
    (aJ (ak (i:=4) (fQ (aX (aAz T) T.wZ (aD (aA 3) aF))))
    (aJ (ak (i:=5) (fQ (aX (oM T) T.lR (aD (aA 3) aF))))
    (aJ (ak (i:=6) (fQ (aX (oJ T) T.lO (aD (aA 3) aF))))
    (aJ (ak (i:=7) (fQ (aX (oK T) T.lQ (aD (aA 3) aF))))
    (aJ (eY (SW.st (iy (dU (eO (aX (lK T) T.jY (aD (aA 5) aF)))) (iy (tD (aA 5) (aA 4)) (iy (dU (eO (aX (rR T) T.lz (aD (aA 3) (aD (aA 6) aF))))) (iJ (tD (gC T.iH (aD (aA 6) aF)) (aA 4)))))))
     (aK (aZ gP))
     bQ)
    (aK (eY (SW.st (iy (dU (eO (aX (rT T) T.mC (aD (aA 3) (aD (aA 7) aF))))) (iJ (tD (dW (gC T.iH (aD (aL (aA 7) aH) aF)) (gC T.iH (aD (aL (aA 7) aH) aF))) (aA 4)))))
     (aK (aZ gP))
     bQ)))))))))))
  (aK (aZ (gY (aAh (aX (oM T) T.lR (aD (cQ (aD aH (aD (cQ aF) aF))) aF)) aH) (gY (aAh (aX (oJ T) T.lO (aD (cQ (aD aH (aD (cQ aF) aF))) aF)) (cQ aF)) (jA (aAh (aX (oK T) T.lQ (aD (cQ (aD aH (aD (cQ aF) aF))) aF)) (cQ (aD (cQ aF) (aD (cQ aF) aF))))))))))
end
def aKG{K:zAA}{h:Heap}{mg:Str->Option Value}{tk_MOST_PLACES:Tok}{q_FewError:Addr}{q_NoOneWay:Addr}(X:K.In h)(G:h.Ns zAj mg)
  (h0:∃f d,Enr K "is_whole" pA f d)
  (h1:∃f d,Enr K "is_many" rJ f d)
  (h2:∃f d,Enr K "is_place" pB f d)
  (h3:∃f d,Enr K "is_pair" rG f d)
  (h4:∃f d,Enr K "is_rising" mZ f d)
  (h5:∃f d,Enr K "are_rising_pairs" fU f d)
  (h6:∃f d,Enr K "is_one_way" lF f d)
  (h7:∃f d,Enr K "check_one_way" iQ f d)
  (h8:∃f d,Enr K "all_led" rM f d)
  (h9:∃f d,Enr K "find_end" jD f d)
  (h10:∃f d,Enr K "paired" vL f d)
  (h11:∃f d,Enr K "most_pairs" lD f d)
  (h12:∃f d,Enr K "some_pairs" lB f d)
  (h13:∃f d,Enr K "some_marks" lC f d)
  (h14:∃f d,Enr K "_law_cell_at" jb f d)
  (h15:∃f d,Enr K "_law_draw" ou f d)
  (h16:∃f d,Enr K "_law_whole" mY f d)
  (h17:∃f d,Enr K "_law_turn" o9 f d)
  (h18:∃f d,Enr K "_law_one_way" j9 f d)
  (h19:∃f d,Enr K "_law_ordered" j8 f d)
  (h20:∃f d,Enr K "_law_rising" lE f d)
  (h21:∃f d,Enr K "_law_are_places" gZ f d)
  (h22:∃f d,Enr K "_law_is_arrow" jC f d)
  (h23:∃f d,Enr K "_law_are_pairs" iK f d)
  (h24:∃f d,Enr K "_law_are_marks" iM f d)
  (h25:∃f d,Enr K "_law_most" oh f d)
  (h26:∃f d,Enr K "law" aF6 f d)
  (iC:zBI K zAj "MOST_PLACES"=some (some (.int 60 tk_MOST_PLACES)))
  (y_FewError:zBI K zAj "FewError"=some (some (.ref q_FewError)))
  (kZ:uP K q_FewError)
  (y_NoOneWay:zBI K zAj "NoOneWay"=some (some (.ref q_NoOneWay)))
  (iw:uP K q_NoOneWay)
  (z_all:zBI K zAj "all"=some none)
  (z_bool:zBI K zAj "bool"=some none)
  (z_dict:zBI K zAj "dict"=some none)
  (z_int:zBI K zAj "int"=some none)
  (z_isinstance:zBI K zAj "isinstance"=some none)
  (z_len:zBI K zAj "len"=some none)
  (z_max:zBI K zAj "max"=some none)
  (z_min:zBI K zAj "min"=some none)
  (z_range:zBI K zAj "range"=some none)
  (z_set:zBI K zAj "set"=some none)
  (z_sorted:zBI K zAj "sorted"=some none)
  (z_tuple:zBI K zAj "tuple"=some none):
  ∃t,Txt K mg t:=by
 obtain⟨f0,d0,F0,a0⟩:=dnr X G h0 ["thing"];obtain⟨f1,d1,F1,a1⟩:=dnr X G h1 ["thing"];obtain⟨f2,d2,F2,a2⟩:=dnr X G h2 ["many","thing"];obtain⟨f3,d3,F3,a3⟩:=dnr X G h3 ["many","thing"];obtain⟨f4,d4,F4,a4⟩:=dnr X G h4 ["things"];obtain⟨f5,d5,F5,a5⟩:=dnr X G h5 ["many","thing"];obtain⟨f6,d6,F6,a6⟩:=dnr X G h6 ["thing"];obtain⟨f7,d7,F7,a7⟩:=dnr X G h7 ["thing"];obtain⟨f8,d8,F8,a8⟩:=dnr X G h8 ["web"];obtain⟨f9,d9,F9,a9⟩:=dnr X G h9 ["led","come","begin","tried"];obtain⟨f10,d10,F10,a10⟩:=dnr X G h10 ["web"];obtain⟨f11,d11,F11,a11⟩:=dnr X G h11 ["web"];obtain⟨f12,d12,F12,a12⟩:=dnr X G h12 ["web"];obtain⟨f13,d13,F13,a13⟩:=dnr X G h13 ["web"];obtain⟨f14,d14,F14,a14⟩:=dnr X G h14 ["_law_script","_law_k"];obtain⟨f15,d15,F15,a15⟩:=dnr X G h15 ["_law_cell","_law_k","_law_bound"];obtain⟨f16,d16,F16,a16⟩:=dnr X G h16 ["_law_found"];obtain⟨f17,d17,F17,a17⟩:=dnr X G h17 ["_law_cell","_law_many"];obtain⟨f18,d18,F18,a18⟩:=dnr X G h18 ["_law_cell","_law_most_here"];obtain⟨f19,d19,F19,a19⟩:=dnr X G h19 ["_law_cell","_law_most_here"];obtain⟨f20,d20,F20,a20⟩:=dnr X G h20 ["_law_row"];obtain⟨f21,d21,F21,a21⟩:=dnr X G h21 ["_law_thing","_law_many"];obtain⟨f22,d22,F22,a22⟩:=dnr X G h22 ["_law_thing","_law_many"];obtain⟨f23,d23,F23,a23⟩:=dnr X G h23 ["_law_web","_law_thing"];obtain⟨f24,d24,F24,a24⟩:=dnr X G h24 ["_law_web","_law_thing"];obtain⟨f25,d25,F25,a25⟩:=dnr X G h25 ["_law_web"];obtain⟨f26,d26,F26,a26⟩:=dnr X G h26 ["_law_script"];exact⟨⟨f0,_,f1,_,f2,_,f3,_,f4,_,f5,_,f6,_,f7,_,f8,_,f9,_,f10,_,f11,_,f12,_,f13,_,f14,_,f15,_,f16,_,f17,_,f18,_,f19,_,f20,_,f21,_,f22,_,f23,_,f24,_,f25,_,f26,_,_,q_FewError,q_NoOneWay⟩,⟨F0,F1,F2,F3,F4,F5,F6,F7,F8,F9,F10,F11,F12,F13,F14,F15,F16,F17,F18,F19,F20,F21,F22,F23,F24,F25,F26,zDY X G iC,⟨_,rfl⟩,zDY X G y_FewError,(by unfold bT;rw[zDY X G y_FewError]),kZ,zDY X G y_NoOneWay,(by unfold bT;rw[zDY X G y_NoOneWay]),iw,zBG X G z_all,zBG X G z_bool,zBG X G z_dict,zBG X G z_int,zBG X G z_isinstance,zBG X G z_len,zBG X G z_max,zBG X G z_min,zBG X G z_range,zBG X G z_set,zBG X G z_sorted,zBG X G z_tuple⟩⟩
def aLt{l:zFR}{w:World}{K:zAA}{h:Heap}{mg:Str->Option Value}{fa:Addr}(X:K.In h)(G:h.Ns zAj mg)(hfa:mg "law"=some (.ref fa))(ht:∃t,Txt K mg t):
  ∃fd:zAg,(∀(s:zAF) (v:Value),zFw s fd ⟨[v],[]⟩ [("_law_script",v)])/\∀base:Heap,K.In base->base.Ns zAj mg->cA l.prog w K mg base (CX1 l.prog w) 68 fa fd ["_law_script"] (aCu K):=by
 obtain⟨t,T⟩:=ht;have e:=hfa.symm.trans T.aHJ.m;cases e;refine⟨t.tY,λ s v=>?_,λ base _ _=>(aLR T).imp (aIm aG8)⟩;obtain⟨oc,od,kV,doc,pm,an,cdv,ct,osl,e,lk,hcd⟩:=T.aHJ.F.ex;rw[e];exact .of_eq rfl
def walk{l:zFR}{q:zAV}{loose:List Str}{XP:(Str->Option Value)->Heap->Prop}{YP:World->Heap->Prop}{d:DefRec}{K:Params->zAA}(hn:l.most=some 63)(hdf:d.params.defaults=[])
  (hY:∀(w:World) (h:Heap),YP w h->(K w.params).In h)
  (F:∀(w:World) (mg:Str->Option Value) (fa:Addr) (h:Heap),(K w.params).In h->h.Ns zAj mg->mg d.name=some (.ref fa)->
   ∃fd:zAg,(∀(s:zAF) (u:Value),zFw s fd ⟨[u],[]⟩ [("_law_script",u)])/\∀base:Heap,(K w.params).In base->base.Ns zAj mg->cA l.prog w (K w.params) mg base (CX1 l.prog w) 68 fa fd ["_law_script"] (aCu (K w.params))):
  zID q loose XP YP l.row.toRowW d [] (λ f vs=>zH3 f vs):=
 L2.aHh (n:=63) (k:=68) (x:="_law_script") (CX:=λ w=>CX1 l.prog w) (sp:=λ w=>aCu (K w.params)) hn (by decide) hdf ⟨rfl,by decide,by decide⟩ hY F (λ _ _ a ns hl hO hS=>⟨a,ns,rfl,aK5 hO hS,hl,λ _=>rfl⟩) λ _ _ _ _ _ ⟨_,_,_,_,_,_,_,_,_,_,_,_,_,z⟩=>z
end VL.My
open PySem PySem.W PyProof.Rows
set_option maxRecDepth 100000 in
set_option maxHeartbeats 0 in
theorem PySem.Challenge.cw_fewways_k55_most_pairs_and_marks_holds : PySem.Challenge.rw_fewways_k55_most_pairs_and_marks.Holds := by
 w_on; o_law; k_head; (case hw=>w_witness2)
 k_fill
 refine VL.My.walk (l:=PySem.Challenge.rw_fewways_k55_most_pairs_and_marks) rfl rfl (fun w h Y=>PySem.W.kIn_of Y) ?F
 case F =>
  intro w mg fa h KX G hmg
  refine VL.My.aLt KX G hmg ?T
  case T =>
   refine' VL.My.aKG KX G (VL.enr ?a0 ?l0 ?c0 ?k0) (VL.enr ?a1 ?l1 ?c1 ?k1) (VL.enr ?a2 ?l2 ?c2 ?k2) (VL.enr ?a3 ?l3 ?c3 ?k3) (VL.enr ?a4 ?l4 ?c4 ?k4) (VL.enr ?a5 ?l5 ?c5 ?k5) (VL.enr ?a6 ?l6 ?c6 ?k6) (VL.enr ?a7 ?l7 ?c7 ?k7) (VL.enr ?a8 ?l8 ?c8 ?k8) (VL.enr ?a9 ?l9 ?c9 ?k9) (VL.enr ?a10 ?l10 ?c10 ?k10) (VL.enr ?a11 ?l11 ?c11 ?k11) (VL.enr ?a12 ?l12 ?c12 ?k12) (VL.enr ?a13 ?l13 ?c13 ?k13) (VL.enr ?a14 ?l14 ?c14 ?k14) (VL.enr ?a15 ?l15 ?c15 ?k15) (VL.enr ?a16 ?l16 ?c16 ?k16) (VL.enr ?a17 ?l17 ?c17 ?k17) (VL.enr ?a18 ?l18 ?c18 ?k18) (VL.enr ?a19 ?l19 ?c19 ?k19) (VL.enr ?a20 ?l20 ?c20 ?k20) (VL.enr ?a21 ?l21 ?c21 ?k21) (VL.enr ?a22 ?l22 ?c22 ?k22) (VL.enr ?a23 ?l23 ?c23 ?k23) (VL.enr ?a24 ?l24 ?c24 ?k24) (VL.enr ?a25 ?l25 ?c25 ?k25) (VL.enr ?a26 ?l26 ?c26 ?k26) ?iC ?y_FewError ?kZ ?y_NoOneWay ?iw ?z_all ?z_bool ?z_dict ?z_int ?z_isinstance ?z_len ?z_max ?z_min ?z_range ?z_set ?z_sorted ?z_tuple
   (case y_FewError=>k_is); (case kZ=>unfold L2.uP; k_exc)
   (case y_NoOneWay=>k_is); (case iw=>unfold L2.uP; k_exc)
   any_goals k_is
