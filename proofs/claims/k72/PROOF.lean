import PyProof.Rows.All
import KE.KDictOf
import PyProof.DictWalks
import Wide.All
import OpenK.AllK
import Wide.FinOn
import Lean
import PyProof.EqAt
import PyProof.EqKinds
import PyProof.TupleCall
import KE.LcSums
import PySem.Challenge.RW_fewways_k72_fewest_ways_that_keep
open Array renaming length_toList->zB5,getElem?_eq_getElem->zC2,getElem?_eq_none->zDy,getD_eq_getD_getElem?->zFE,getElem?_toList->zFz,toArray_toList->zGO,size_append->zGk,toList->zHf
open Array.Perm renaming refl->zGN
open Bool renaming false_ne_true->zAU,and_eq_true->zAW,false_eq_true->zBq,eq_iff_iff->zBw,and_true->zCD,not_eq_true'->zDn,and_false->zEY,or_eq_true->zFQ,and_assoc->zFb,not_false->zFc,eq_false_iff->zGx,not_true->zHg,or_true->zHs
open False renaming elim->zAI
open ForInStep renaming yield->zB6
open Function renaming comp_def->zCR,comp->zGy
open Int renaming toNat_natCast->zBJ,toNat_of_nonneg->zB9,emod_lt_of_pos->zDf,emod_nonneg->zER,lt_irrefl->zHy
open LawfulBEq renaming eq_of_beq->zFL
open List renaming map_cons->zAD,getElem?_eq_getElem->zAE,length_map->zAF,mem_cons_self->zAJ,size_toArray->zAK,getElem?_eq_some_iff->zAL,mem_singleton->zAM,getElem?_map->zAP,map_map->zAQ,mem_cons_of_mem->zAR,replicate->zAS,mem_append->zAX,length_append->zAZ,getD_eq_getElem?_getD->zA0,mem_cons->zA1,mem_append_right->zA3,mem_append_left->zA5,mem_map->zA6,lookup_cons->zA7,map_append->zAa,nodup_append->zAb,pairwise_cons->zAf,mem_filter->zAg,nodup_cons->zAj,length_cons->zAk,all_eq_true->zAl,mem_of_getElem?->zAr,getElem?_cons_zero->zAv,range->zAw,zip_cons_cons->zAy,getElem?_cons_succ->zBA,length_set->zBC,append_nil->zBG,flatten_cons->zBH,getElem?_set_ne->zBK,getElem?_set_self->zBL,any_eq_true->zBM,filter_cons->zBN,append_assoc->zBP,length_replicate->zBQ,length_nil->zBW,map_congr_left->zB7,find?_cons->zBb,getElem?_replicate->zBg,replicate_succ->zBj,nodup_iff_pairwise_ne->zBp,nodup_nil->zBs,filterMap_cons->zCF,mem_filterMap->zCQ,foldl_cons->zCU,length->zCV,any_cons->zCZ,getElem_toArray->zC1,drop_eq_getElem_cons->zC8,getElem?_append_left->zC9,getLastD_eq_getLast?->zCa,getElem_map->zCb,not_mem_nil->zCc,filter_sublist->zCe,getElem?_range->zCf,nil_append->zCo,filter_eq_nil_iff->zCt,getElem?_inj->zCw,mem_range->zCy,getElem?_eq_none->zDI,cons_append->zDM,all_cons->zDX,getElem_of_mem->zD1,getElem?_append_right->zD8,perm_ext_iff_of_nodup->zD9,filter_append->zDa,lookup_append->zDb,pairwise_iff_getElem->zDg,drop_length->zEA,length_take->zEB,nil_sublist->zEC,length_filter_le->zEK,map_nil->zEL,of_mem_zip->zEM,erase_eq_eraseIdx_of_idxOf->zEm,filter_congr->zEn,pairwise_map->zEo,all_map->zEs,getElem_mem->zEy,length_drop->zEz,map_fst_zip->zFA,map_snd_zip->zFB,take_length->zFC,min?->zFU,mem_or_eq_of_mem_set->zFe,idxOf_lt_length_iff->zFi,length_eq_zero_iff->zFt,length_singleton->zGR,max?_eq_some_iff->zGS,mem_of_mem_erase->zGT,mem_erase_of_ne->zG0,filter_eq_self->zGa,length_pos_iff->zGb,map_id->zGc,contains_cons->zGn,getElem_range->zGo,map->zGp,mem_replicate->zGq,zip_nil_right->zGr,all_eq_false->zHA,any_eq_false->zHB,foldl->zHC,take_sublist->zHD,zip_nil_left->zHE,append_inj'->zHP,ext_getElem->zHQ,mem_flatMap->zHR,mem_reverse->zHS,forIn_cons->zH0,length_zip->zH1,take_succ->zH6,map_drop->zHi,map_take->zHj,any_map->zIC
open List.Pairwise renaming nil->zF2,filter->zHz,imp_of_mem->zIA,of_map->zIB
open List.Perm renaming refl->zCB,swap->zCX
open List.Sublist renaming map->zEW
open Nat renaming le_refl->zAV,lt_of_lt_of_le->zA4,ne_of_lt->zA9,le_trans->zAh,zero_le->zAi,lt_irrefl->zBF,lt_succ_self->zBZ,le_of_lt->zBc,ne_of_gt->zBr,le_of_ble_eq_true->zCY,le_succ->zCz,lt_succ_of_lt->zDq,not_lt_zero->zES,min_self->zFD,not_lt->zFu,lt_trans->zG1,lt_of_le_of_lt->zHF,le_max_right->zH2,le_of_not_lt->zH3,le_max_left->zH7
open Nat.succ renaming inj->zHT
open Ne renaming symm->zCq
open Option renaming map_eq_some_iff->zCK,bind_some->zC3,map_some->zDY,isSome_some->zD2,isSome_map->zDh,isSome_none->zG2,getD_none->zGs,none->zHk
open Option.some renaming inj->zAe
open Or renaming inr->zAx,inl->zB0
open Prod renaming fst->zDt,ext->zFI,snd->zFv
open PyProof.Rows renaming IntsAre->zBD,slot_tuple_getitem->zBX,seqObj->zBY,step_dedup->zBh,KeyOrd->zBx,callWith_type1->zCx,SortKind->zDA,get?_update_seq->zDC,SortSt->zDO,kindOf->zDP,firstMet->zDw,envOfC->zEF,AllBare->zE5,listUpdate_at->zFM,lt_int->zFV,sortedHeap->zF9,failedOf->zFx,pendingOf->zGF,boot_range->zGi,subscriptTail->zGw,subscriptTail_builtinR->zHJ,listItems_at->zHZ,entry_tuple_getitem->zHa,seqEpoch_at->zHb,args_tuple_getitem->zHp,Subscript_->zIG
open PyProof.Rows.IntsAre renaming int_at->zGf,length->zGz
open PyProof.Rows.IsTup renaming new->zHO
open PyProof.Rows.KeyOrd renaming kle_refl->zCj,kle_trans->zDp,kle_of_klt->zEf,kle_antisymm->zGQ
open PySem renaming wpAny_bind->zAB,Shared->zAG,wpAny_pure->zAH,sizeLine->zAO,starEach->zAT,Program->zAY,FuncData->zA8,Around->zAc,mainGlobals->zAd,compareOp->zAm,wpAny_newObj_type->zAn,mem_of_lookup->zAo,bootBuiltins->zAp,sysModules->zAz,wpAny_mono->zBO,wpAny_holding->zBS,foldedSetIterable->zBV,attributeBase->zB2,sizeLine_eq->zB3,wpAny_call_entry->zB8,wpAny_dictEntries->zBd,behindInMarks->zBk,wpAny_callSpecial?_slot->zBl,backTo->zBu,swapsWith->zBv,Keyword->zBz,binaryOp->zCG,codeAny->zCI,wpAny_truthy_bool->zCJ,wpAny_typeNameOfWhole_itemiter->zCO,wpAny_typeNameOfWhole_valiter->zCT,wpAny_fieldsOf->zCW,tupleKind_room_in1->zC0,codeAny_builtin->zC4,holding->zC5,wpAny_loadPart'->zC6,wpAny_passesOwn->zC7,assignEach->zCd,wpAny_typeNameOf_itemiter->zCl,GenState->zCn,keywordEach->zCp,wpAny_typeNameOf_valiter->zCs,letOwnedTupleGo->zDD,tupleKind->zDE,wpAny_dictEpoch->zDF,wpAny_setField_rec->zDG,wpAny_isOneOf_itemiter->zDQ,Builtin->zDR,IsItemIter->zDS,wpAny_field->zDV,wpAny_loadPart_at->zDW,DictEntry->zDZ,wpAny_isOneOf_valiter->zD0,intKind->zD5,NameKind->zDc,wpAny_standAt->zDe,cellsFrom->zDl,sliceBounds->zDm,Result->zDu,codeAny_mono->zDv,wpAny_typeOf->zDx,wpAny_comprehension_free->zEG,backToKw->zET,getItem->zEU,wpAny_Call_method0_late->zEV,assign->zEX,evalArgs_none->zE2,Arguments->zE6,pyNext->zEb,wpAny_execs_nil->zEc,wpAny_notOrdered_dict->zEd,call_meets->zEh,typeLookup->zEi,codeAny_call_builtin->zEk,firstArgMember->zEp,newFunctionEnv->zEq,callerA->zEv,standAt->zEw,SetTable->zFK,wpAny_Call_Name_kw->zFN,wpAny_attempt->zFO,wpAny_newList->zFP,BindsTo->zF1,closureFor->zF6,newList->zF7,relabel->zF8,wpAny_pyIter_list->zFa,IsPart->zFd,call_meetsIn->zFg,seqIndex_neg->zFh,checkBuiltinCall->zFp,noFill_tuple_add->zFq,wpAny_forIn_list->zFr,wpAny_isInstance->zFs,setField->zFy,excClassObj->zGE,rawInt->zGG,richCompare->zGH,seqIndex_of->zGI,subscripted->zGJ,valueAt->zGK,wpAny_letOwnedTupleGo_items->zGL,wpAny_specialOf->zGM,recursionLimit->zG6,wpAny_runValue->zG7,wpAny_setField->zG8,Paired->zGe,pyIter->zGj,IsItemIterOut->zGm,call->zGt,seq_tuple_add->zGu,setItem->zGv,richCompare_meets_room->zHI,wpAny_getItem_list_neg->zHK,PassesOwn->zHU,concat_meets->zHX,lastMarks->zHY,boot_len->zH5,collect->zH9,unsupported->zHc,wpAny_isSubtype_exc->zHd,wpAny_of_eq->zHe,Within->zHo,wpAny_pyIter_tuple->zHq,wpAny_setItem_heap->zHr,builtinsNs->zII,slot_list_getitem->zIJ,typeIs_int->zIK,wpAny_Name->zIL,wpAny_assign_Name->zIM,wpAny_load->zIN,wpAny_pyIter_slot->zIO,wpAny_sequenceKey->zIP
open PySem.Around renaming under_plainId->zEH
open PySem.AutoSeq1 renaming sub_tuple_tuple->zFF,list_insert_list_int_val_1->zHm
open PySem.Builtin.Dict renaming showsAll->zCE,entriesForEmpty->zEZ,updateFrom->zEl,mergeDict->zEr,noArgs->zFR
open PySem.Builtin.Dict_items renaming ownsTuple->zBI,ownedTupleFields->zD6,ownedTupleIsFree->zD7,pairFromOwner->zDj,newIterator->zDo,dictOf->zEI
open PySem.Builtin.Frozenset renaming newClass->zHL,updateFrom->zHM
open PySem.Builtin.List renaming listTooLong->zBo,listExtendWith->zCu,listFitsIndex->zDH
open PySem.Builtin.Range renaming rangeSize->zBE,rangeFitsLong->zCC,small->zCS
open PySem.Builtin.Slice renaming slicePlaces->zCP,sliceAdjust->zDL,sliceApplied->zE3,sliceFields->zHt,slicePartIndex->zHu
open PySem.Builtin.Tuple renaming tupleExact->zB4,tupleCompareSizes->zEE,tupleItemsOf->zE4,tupleHashOf->zHv,tupleIsExact->zHw
open PySem.Calls renaming callWith_builtin->zCM,evalArgs_plain->zEQ,spliced_cons->zE7,Name_function_global->zFS,spliced_nil->zGl
open PySem.Code renaming quiet_builtin->zEe
open PySem.F renaming slot_dict_valueiterator_next->zBe,slot_dict_itemiterator_next->zBf,plainAttrs_list->zCA,plainAttrs_dict->zCh,slot_dict_items->zCi,called_set->zCm,args_tuple_add_2->zDd,entry_tuple_add->zDk,slot_tuple_add->zDr,slot_list_append->zDz,typeOf_object_class->zE0,args_dict_valueiterator_next_1->zEx,args_dict_itemiterator_next_1->zFG,entry_dict_valueiterator_next->zFH,args_dict_items_1->zFJ,entry_dict_itemiterator_next->zFT,entry_dict_items->zFW,slot_dict_values->zFX,slot_list_insert->zFY,slot_list_remove->zFZ,type_list_append->zF0,plain_list_iadd->zF3,type_dict_items->zF4,plain_set_new->zFj,slot_dict_get->zFk,slot_list_extend->zGP,slot_dict_values_iter->zGY,slot_gs_get->zGZ,slot_dict_items_iter->zG9,slot_int_rmul->zHx
open PySem.Heap renaming get?_push_of_some->zAC,get?_push_size->zAN,lt_size->zA2,size_push->zBU,SameBut->zBa,get?_update_ne->zBi,get?_update_self->zEJ,get?_update_other->zGA,size_update->zHN
open PySem.Heap.DictOf renaming new->zE8
open PySem.Heap.IsSliceOf renaming new->zHh
open PySem.Heap.SameBut renaming update->zCv
open PySem.MeetsSeq renaming list_remove->zHn
open PySem.MeetsSeq.EqGives renaming int->zGU
open PySem.NameKind renaming free->zBm,cell->zDJ
open PySem.Obj renaming mapSeq->zBR,data_mapDictKeys->zGd,data_mapFields->zHG,mapFields->zID
open PySem.Paired renaming length->zDN,snoc->zHl
open PySem.SeqAt renaming EqAt->zCg
open PySem.SeqAt.EqAt renaming of_refs->zEO,same->zEg,int_int->zFm,int_str->zFn,str_int->zFo
open PySem.SeqAt.RcAt renaming lists_lengths->zEu,tuples->zFw,lists->zGC
open PySem.Shared renaming TypeIs->zCk
open PySem.Str renaming ofString->zDi
open PySem.Value renaming ref->zAs,none->zAu,type->zCL,int->zDB,builtin->zDs,bool->zEP,str->zGD,notImplemented->zGX,isInt->zG5,isStrOf->zH8,float->zIH
open PySem.W renaming Frag->zAA,nsIn->zAq,mg_none_of->zAt,kia_one->zBB,findIn->zBT,emptyDict->zB1,mg_of->zBn,instObj->zBt,fnOf->zBy,keepIn->zCr,looks_findIn->zDK,hideAll->zDT,hideAll_get->zDU,codeIn->zD3,kitOne->zD4,kas_rev->zED,lookIn->zEN,Looks->zE1,kitx_dict->zE9,methodObj->zEa,plainGet->zEj,OpenLaw->zEt,cellsFrom_some->zFf,KasT->zFl,plainGet_of->zGB,kitx_tuple->zGV,of_hideAll->zGW,kas_place->zG3,kitx_list->zG4,kcp_self->zGg,ksm_same->zGh,InstAt->zHH,WalkO->zHV,excIn->zHW,isFn->zH4
open PySem.W.Looks renaming ld->zIE,now->zIF
open Sum renaming inl->zCH,inr->zF5
open True renaming intro->zCN
noncomputable section
namespace PySem.W.Fast
def tw16896710258919255801:=0
def tw1500323519942761465:=0
def tw3386750899601228217:=0
def tw6224229258248834361:=0
def tw11152203292365396697:=0
def tw6016908009323627193:=0
def tw15436654888660887225:=0
def tw12825440555968177817:=0
def tw6425290640533671897:=0
def tw17604669624836480584:=0
def tw7694610145002385960:=0
def tw17633856401750181416:=0
def tw5810307303817042920:=0
def tw1335964259265322984:=0
def tw1959057151974960200:=0
def tw1458399270711942184:=0
def tw4025673725137150440:=0
def tw4914222914932140360:=0
def tw2616622216748258600:=0
def tw15689452795611650331:=0
def tw1492064507416745563:=0
def tw4985103644148033339:=0
def tw2829338838774907099:=0
def tw3569643458527093403:=0
def tw5547092000351623146:=0
def tw15455297022950523338:=0
def tw12772360700871327562:=0
def tw6921030398863007018:=0
def tw13403950335410558666:=0
def tw12806268284491721386:=0
def tw14983390614745084554:=0
def tw5602416655212393354:=0
def tw5619889029856289130:=0
def tw4298749642135517546:=0
def tw5157616880232812330:=0
def tw9659970243676971818:=0
def tw8264659746681949909:=0
def tw4845023040538644597:=0
def tw5658636146528610709:=0
def tw18050924603257449813:=0
def tw9535990494874713845:=0
def tw13168613315053883125:=0
def tw12080756528740165269:=0
def tw4448329434051922549:=0
def tw16242174823740168821:=0
def tw6377052729124861397:=0
def tw11305231637127664053:=0
def tw14316710191345318228:=0
def tw13126663145970654516:=0
def tw4172628189712310260:=0
def tw4047135268970728852:=0
def tw9708775609354773140:=0
def tw15714493191558440567:=0
def tw10144554783427433495:=0
def tw2883526980391178743:=0
def tw13628845724334378743:=0
def tw8447819014264397399:=0
def tw6918793451862819415:=0
def tw10987317672135824951:=0
def tw5903721866433822231:=0
def tw2033630253084904855:=0
def tw11407781213344611735:=0
def tw2189943481226964246:=0
def tw15435632457399868054:=0
def tw15559535966180012150:=0
def tw17777625970328454038:=0
def tw8172690527498994006:=0
def tw8822350777089730262:=0
def tw10108252478621694678:=0
def tw17117484866325966006:=0
def tw3069779411924252694:=0
def tw2862065325491333110:=0
def tw3087704419361630070:=0
def tw5384602451205174102:=0
def tw5702957200230272673:=0
def tw7433530292492591649:=0
def tw10727861202912283841:=0
def tw17494353225385918017:=0
def tw2704147341473048001:=0
def tw17580050320040714049:=0
def tw17908728973479521537:=0
def tw11095755593699610416:=0
def tw15740236069554866832:=0
def tw2360813402006326864:=0
def tw4317105212416601648:=0
def tw8547422401411907555:=0
def tw5098139590956411843:=0
def tw255472073964996419:=0
def tw14188991650078444355:=0
def tw16871687095392684291:=0
def tw8279566353710927043:=0
def tw18004292018033198755:=0
def tw10913909087335809667:=0
def tw2960315621372463747:=0
def tw17411803041228111331:=0
def tw12242835124363735491:=0
def tw1926417681741597123:=0
def tw15160003159945484195:=0
def tw17741863114031417027:=0
def tw18292560594514775203:=0
def tw17833230411276238034:=0
def tw1526249073373930674:=0
def tw11550403916988303986:=0
def tw7979872501248529074:=0
def tw5803031035829493810:=0
def tw15230841934291791485:=0
def tw9336051656811933277:=0
def tw14432583072035258365:=0
def tw2152675978142550429:=0
def tw1759112458462312861:=0
def tw10704956859796336925:=0
def tw7916328793691754205:=0
def tw17181020469526676125:=0
def tw9480175017183661181:=0
def tw2972629512730913341:=0
def tw635113939414154813:=0
def tw6010222114158148125:=0
def tw10398719517366652413:=0
def tw14636629610924636828:=0
def tw11946251539934483068:=0
def tw8384296993444394588:=0
def tw17734162676988280860:=0
def tw17138996228254246332:=0
def tw398643062228298844:=0
def tw2543935844573770556:=0
def tw16644880648383009247:=0
def tw2702150327557653055:=0
def tw17318224425356787263:=0
def tw9430679713147983711:=0
def tw8421574375500965087:=0
def tw5994341935349227583:=0
def tw11809733279925350911:=0
def tw4071268686230516094:=0
def tw14522274486374834526:=0
def tw14837534659877646302:=0
def tw18155612435260744094:=0
def tw9965145308231256958:=0
def tw17508228207187406110:=0
def tw2897552304679267390:=0
def tw16835387191759941150:=0
def tw10362570090239439358:=0
def tw6069273717328037257:=0
def tw16387404153336615721:=0
def tw3903477628025253065:=0
def tw15510958482761838217:=0
def tw7922104612119787081:=0
def tw14234483891608503305:=0
def tw13918606342963350985:=0
def tw9460495135372525993:=0
def tw13614421598810420041:=0
def tw8394733254418612937:=0
def tw12524305520595841705:=0
def tw441043508422055049:=0
def tw14835851788306791497:=0
def tw12576439001667120201:=0
def tw16753480184834671113:=0
def tw7545684334581982185:=0
def tw4126346134476813257:=0
def tw13586207802585163448:=0
def tw3186373686458801496:=0
def tw14519968762530884664:=0
def tw932864747135983032:=0
def tw7389410345069583800:=0
def tw15367296581506375403:=0
def tw10656360791138880299:=0
def tw4187982743605563307:=0
def tw2911073123923547578:=0
def tw6318177327026106778:=0
def tw11656167229339803930:=0
def tw145387583157447802:=0
def tw11966376588885920858:=0
def tw1156470306502661626:=0
def tw5253460822046943130:=0
def tw8013984550979143002:=0
def tw10661062724742167322:=0
def tw1773227419711864858:=0
def tw15981769952405807813:=0
def tw15238871751954828197:=0
def tw2049108603715301285:=0
def tw8613017076558436997:=0
def tw6377079472424488965:=0
def tw3007796759604549093:=0
def tw3717525867933878148:=0
def tw4320753122254258468:=0
def tw2647522395510171332:=0
def tw6905453655444167844:=0
def tw13949779993867938916:=0
def tw18099414809640388100:=0
def tw6923324047081638884:=0
def tw14588583250358466980:=0
def tw17055715403653631364:=0
def tw12983344919873787716:=0
def tw1123091957394365188:=0
def tw16877009992940017860:=0
def tw6924617083208120932:=0
def tw17109127279879717892:=0
def tw12739668751244757639:=0
def tw6520186559497422951:=0
def tw4670995408080473543:=0
def tw8816150609892992935:=0
def tw11793209946778544039:=0
def tw8449822766810698055:=0
def tw9442908587651698215:=0
def tw1893650295522546663:=0
def tw14528802334202313382:=0
def tw13021764159413618214:=0
def tw9839325893091486630:=0
def tw17509519289307977606:=0
def tw13297281380862104902:=0
def tw2686516228908743430:=0
def tw3053705828805085222:=0
def tw7356751529264087078:=0
def tw624116922261550534:=0
def tw13403335628463499686:=0
def tw11034493465233464241:=0
def tw3484304888254224785:=0
def tw11308484701648439089:=0
def tw422963326299495057:=0
def tw285981534707008529:=0
def tw11754180037965680049:=0
def tw1885637135205776817:=0
def tw2371653321027107121:=0
def tw9976383534565389088:=0
def tw16309379624534892768:=0
def tw2260234526081103040:=0
def tw4406836278204607968:=0
def tw10711936521981099328:=0
def tw12408937952436820736:=0
def tw16934639997521847456:=0
def tw17460704754621855872:=0
def tw11538667924306905184:=0
def tw14143879629352228416:=0
def tw10287195725449836979:=0
def tw12856974675442445107:=0
def tw3263963279390813075:=0
def tw6435643666355618931:=0
def tw7028616827393293875:=0
def tw14598897541535503923:=0
def tw14007756499831541538:=0
def tw8688094359050124258:=0
def tw11803632939028841890:=0
def tw941257498704094626:=0
def tw8566252496957887330:=0
def tw14163827509501268610:=0
def tw11115133199380964866:=0
def tw12069663326940600226:=0
def tw16367119570956025154:=0
def tw17821204543890719149:=0
def tw10065361465657113005:=0
def tw9786710324167099821:=0
def tw7931425834372281773:=0
def tw3440009499745475853:=0
def tw12257187448398473933:=0
def tw11282740203114458829:=0
def tw13793330189909930061:=0
def tw1695628644402986797:=0
def tw5634609598701466220:=0
def tw11789933129966444620:=0
def tw5555621220189529164:=0
def tw9955696204101991884:=0
def tw16801028070595937004:=0
def tw887859503464713324:=0
def tw11799438606283158444:=0
def tw1424320220946785196:=0
def tw11521971102295629612:=0
def tw16407439028674465647:=0
def tw7354063129507828015:=0
def tw13666457108860824751:=0
def tw10947019823902928431:=0
def tw11610829033074468879:=0
def tw3858457139003950095:=0
def tw13575914725346425807:=0
def tw16078449196182873039:=0
def tw4303296218868223823:=0
def tw17885727196409033935:=0
def tw16143927202663862927:=0
def tw12686291791728849551:=0
def tw10421550506660416559:=0
def tw756943393559041551:=0
def tw8887045851306982606:=0
def tw2822534002963123342:=0
def tw17714973841699404782:=0
def tw8734794865225829838:=0
def tw1747726774955535758:=0
def tw5966962756142662926:=0
def tw9950467541048300814:=0
def tw9124179258821825230:=0
def tw10018825375079770222:=0
def tw6564995681390629390:=0
def tw9689959473617890798:=0
def tw10500490028120784870:=0
def tw10112387966586793627:=0
end PySem.W.Fast
abbrev gX:=List (Int×Int)
abbrev gV:=List (List Int)
abbrev hZ:=List (PySem.Addr×PySem.Obj)
abbrev hV:=List (Option Nat)
set_option bootstrap.genMatcherCode false
set_option compiler.extract_closed false
set_option Elab.async false
set_option linter.all false
set_option maxRecDepth 100000
namespace L2
open PySem PySem.Spec PyProof.Rows
abbrev Key:=Sum Int Str
def aAN:Key->Value->Bool
 | .inl k,v=>zG5 k v
 | .inr x,v=>zH8 x v
def aPe(w:World):Key->Int
 | .inl k=>hashInt k
 | .inr x=>hashStr w x
def cH:∀{k:Key} {v:Value},aAN k v=true->(∃i t,k=zCH i/\v=zDB i t)\/(∃x t,k=zF5 x/\v=zGD x t)
 | .inl i,v,h=>by
  obtain⟨t,e⟩:=Value.isInt_shape (k:=i) (v:=v) h;exact .inl ⟨i,t,rfl,e⟩
 | .inr x,v,h=>by
  obtain⟨t,e⟩:=Value.isStrOf_shape (x:=x) (v:=v) h;exact .inr ⟨x,t,rfl,e⟩
def aFg(i:Int)(t:Tok):aAN (.inl i) (.int i t)=true:=by simp[aAN,zG5]
def aFf(x:Str)(t:Tok):aAN (.inr x) (.str x t)=true:=by simp[aAN,zH8]
def aN6(a b:Int):decide ((zCH a:Key)=zCH b)=(a==b):=by
 by_cases e:a=b
 .subst e;simp
 .have h:¬(zCH a:Key)=zCH b:=λ q=>e (Sum.inl.inj q)
  rw[decide_eq_false h];exact(beq_eq_false_iff_ne.mpr e).symm
def aN3(a b:Str):decide ((zF5 a:Key)=zF5 b)=decide (a=b):=by
 by_cases e:a=b
 .subst e;simp
 .have h:¬(zF5 a:Key)=zF5 b:=λ q=>e (Sum.inr.inj q)
  rw[decide_eq_false h,decide_eq_false e]
def aN5(a:Int)(b:Str):decide ((zCH a:Key)=zF5 b)=false:=decide_eq_false (λ q=>nomatch q)
def aN4(a:Str)(b:Int):decide ((zF5 a:Key)=zCH b)=false:=decide_eq_false (λ q=>nomatch q)
def cL(prog:zAY)(w:World):PySem.KeyKind prog w Key where
 is:=aAN
 hash:=aPe w
 inj:=λ v a b ha hb=>by
  rcases cH ha with ⟨i,t,rfl,rfl⟩|⟨x,t,rfl,rfl⟩
  .rcases cH hb with ⟨j,u,rfl,e⟩|⟨y,u,rfl,e⟩
   .injection e with e1 _;rw[e1]
   .exact nomatch e
  .rcases cH hb with ⟨j,u,rfl,e⟩|⟨y,u,rfl,e⟩
   .exact nomatch e
   .injection e with e1 _;rw[e1]
 byValue:=λ k v h=>by
  rcases cH h with ⟨i,t,rfl,rfl⟩|⟨x,t,rfl,rfl⟩<;>rfl
 pyHash:=λ hv h=>by
  rcases cH hv with ⟨i,t,rfl,rfl⟩|⟨x,t,rfl,rfl⟩
  .exact wpAny_pyHash_int h
  .exact wpAny_pyHash_str h
 eqBool:=λ hu hv h=>by
  rcases cH hu with ⟨i,t,rfl,rfl⟩|⟨x,t,rfl,rfl⟩
  .rcases cH hv with ⟨j,u,rfl,rfl⟩|⟨y,u,rfl,rfl⟩
   .rw[aN6]at h;exact wpAny_eqBool_int h
   .rw[aN5]at h;exact zFn i t y u _ _ _ _ h
  .rcases cH hv with ⟨j,u,rfl,rfl⟩|⟨y,u,rfl,rfl⟩
   .rw[aN4]at h;exact zFo x t j u _ _ _ _ h
   .rw[aN3]at h;exact wpAny_eqBool_str h
 «strs»:=λ k x t v h=>by
  rcases cH h with ⟨i,u,rfl,e⟩|⟨y,u,rfl,e⟩
  .exact nomatch e
  .injection e with e1 _
   subst e1;cases v<;>rfl
def aCW(prog:zAY)(w:World)(i:Int)(t:Tok):(cL prog w).is (.inl i) (.int i t)=true:=aFg i t
def aCV(prog:zAY)(w:World)(x:Str)(t:Tok):(cL prog w).is (.inr x) (.str x t)=true:=aFf x t
inductive V where
 |non|bl (b:Bool)|int (i:Int)|str (x:Str)|byt (b:Array UInt8)|flt (b:UInt64)|ref (a:Addr)|ty (n:String)
 deriving DecidableEq
def RelV:V->Value->Prop
 | .non,u=>u=zAu
 | .bl b,u=>u=zEP b
 | .int i,u=>∃t,u=zDB i t
 | .str x,u=>∃t,u=zGD x t
 | .byt b,u=>∃t,u=Value.bytes b t
 | .flt b,u=>∃t,u=zIH b t
 | .ref a,u=>u=zAs a
 | .ty n,u=>u=zCL n
abbrev Vals:List V->List Value->Prop:=zGe RelV
theorem Vals.length(r:Vals xs us):xs.length=us.length:=zDN r
theorem Vals.get:∀{xs:List V} {us:List Value} {i:Nat} {x:V},Vals xs us->xs[i]? =some x->∃u,us[i]? =some u/\RelV x u
 |_,_,_,_,.nil,e=>by simp at e
 |_,_,0,_,.cons r _,e=>by simp at e;subst e;exact⟨_,rfl,r⟩
 |_,_,i+1,x,.cons _ t,e=>by
  obtain⟨u,h1,h2⟩:=Vals.get (i:=i) (x:=x) t (by simpa using e);exact⟨u,by simpa using h1,h2⟩
theorem Vals.set(r:RelV x u):∀{xs:List V} {us:List Value} (i:Nat),Vals xs us->Vals (xs.set i x) (us.set i u)
 |_,_,_,.nil=>.nil
 |_,_,0,.cons _ t=>.cons r t
 |_,_,i+1,.cons q t=>.cons q (Vals.set r i t)
theorem Vals.append:∀{xs ys:List V} {us ws:List Value},Vals xs us->Vals ys ws->Vals (xs++ys) (us++ws)
 |_,_,_,_,.nil,s=>s
 |_,_,_,_,.cons r t,s=>.cons r (Vals.append t s)
theorem Vals.take:∀{xs:List V} {us:List Value} (n:Nat),Vals xs us->Vals (xs.take n) (us.take n)
 |_,_,0,_=>.nil
 |_,_,_+1,.nil=>.nil
 |_,_,n+1,.cons r t=>.cons r (Vals.take n t)
theorem Vals.drop:∀{xs:List V} {us:List Value} (n:Nat),Vals xs us->Vals (xs.drop n) (us.drop n)
 |_,_,0,r=>r
 |_,_,_+1,.nil=>.nil
 |_,_,n+1,.cons _ t=>Vals.drop n t
def uE:Option V->Option Value->Prop
 |some v,some u=>RelV v u
 |none,none=>True
 |_,_=>False
def KV{κ:Type}:List (κ×V)->List (κ×Value)->Prop:=zGe λ(p:κ×V) (q:κ×Value)=>p.1=q.1/\RelV p.2 q.2
def kV:Key->V
 | .inl i=>.int i
 | .inr x=>.str x
inductive HO where
 |lst (xs:List V)
 |tup (xs:List V)
 |dK (kvs:List (Key×V))|dT (kvs:List (List Key×V))
 |set (S:Int->Bool) (n:Nat)
 |ins (C dx:Addr) (fs:List (Str×V))
 |own (x:Addr)
 |xd (fs:List (Str×V))
 |met (f x:Addr)
 |rng (lo hi:Int)
 |frz (o:Obj) (u:HO)
 |tbl (q:Str)
 |ext (φ:Heap->Prop)
abbrev Hp:=Addr->Option HO
def upd(H:Hp)(a:Addr)(o:HO):Hp:=λ b=>if b=a then some o else H b
def aX:upd H a o a=some o:=by unfold upd;rw[if_pos rfl]
def aW(h:b≠a):upd H a o b=H b:=by unfold upd;rw[if_neg h]
def aOr{H:Hp}{a b:Addr}{o u:HO}(h:H a=some o)(h':H b=some u)(d:o≠u):a≠b:=by
 intro e;subst e;rw[h]at h';exact d (zAe h')
def bj{H:Hp}{a b:Addr}{o:HO}(h:H a=some o)(h':H b=none):a≠b:=by
 intro e;subst e;rw[h]at h';cases h'
def NoD(h:Heap)(a:Addr):Prop:=∀o,h.get? a=some o->o.dict=none
theorem NoD.push(h:Heap){o:Obj}(hl:o.isFreed=false:=by rfl)(hd:o.dict=none:=by rfl):NoD (h.push o) h.objs.size:=λ u e=>by rw[zAN _ hl]at e;cases e;exact hd
def NoD.keep{h h':Heap}{a:Addr}{o:Obj}(n:NoD h a)(e:h.get? a=some o)(e':h'.get? a=some o):NoD h' a:=λ u q=>by rw[e']at q;cases q;exact n o e
section
variable{H H':Hp}
def aPY(q:Str)(oc:Obj):Prop:=∃vs t,oc.data= .fields vs/\vs[1]? =some (.str q t)
def TabOk(q:Str)(H:Hp)(ps:Array Value):Prop:=TriplesOk ps.toList/\∀pos cv,codeAmong pos ps.toList=some cv->∃c' oc,cv= .ref c'/\H c'=some (.frz oc (.own c'))/\aPY q oc
def TabOk.mono(t:TabOk q H ps)(f:∀b o u,H b=some (.frz o u)->H' b=some (.frz o u)):TabOk q H' ps:=⟨t.1,λ pos cv hc=>let⟨c',oc,z,a,b⟩:=t.2 pos cv hc;⟨c',oc,z,f _ _ _ a,b⟩⟩
end
section
variable(P:zAY)(w:World)
def bw(H:Hp)(h:Heap)(a:Addr):HO->Prop
 | .lst xs=>xs.length<=zAO/\∃(its:List Value) (n:Nat),Vals xs its/\h.get? a=some {cls:=.type "list",data:=.seq its.toArray n}
 | .tup xs=>(xs.length<=zAO/\NoD h a)/\∃its:List Value,Vals xs its/\IsTup h a its.toArray
 | .dK kvs=>kvs.length<=zAO/\(a==zAz)=false/\∃vs,KV kvs vs/\h.DictOf (cL P w) a vs
 | .dT kvs=>kvs.length<=zAO/\(a==zAz)=false/\∃xs:List (List Key×Addr×Value),
   zGe (λ(p:List Key×V) (q:List Key×Addr×Value)=>p.1=q.1/\H q.2.1=some (.tup (p.1.map kV))/\RelV p.2 q.2.2) kvs xs/\
   ∃o es ep,h.get? a=some o/\o.ExactDict/\o.data= .dict es ep/\es.toList=xs.map (entryOfKey (zDE (cL P w)))/\(xs.map (·.1)).Nodup
 | .set S n=>h.SetOf (zD5 P w) a S n
 | .ins C dx fs=>H dx=some (.own a)/\fs.length<=1000/\dx≠a/\h.get? a=some (zBt C dx)/\
   ∃mA,h.Ns1 dx mA/\(∀f,uE (fs.lookup f) (mA f))/\zHo mA (fs.map (·.1))
 | .own _=>∃o,h.get? a=some o
 | .xd fs=>∃mA,h.Ns1 a mA/\∀f,uE (fs.lookup f) (mA f)
 | .rng lo hi=>∃t u v,h.get? a=some {cls:=.type "range",data:=.fields #[.int lo t,.int hi u,.int 1 v]}
 | .frz o u=>h.get? a=some o/\bw H h a u
 | .tbl q=>∃ps,h.get? a=some {cls:=.none,data:=.fields ps}/\TabOk q H ps
 | .met f x=>h.get? a=some (zEa (.ref f) (.ref x))
 | .ext φ=>φ h/\(∃o,h.get? a=some o)/\∀h1 h2:Heap,φ h1->(∀o,h1.get? a=some o->h2.get? a=some o)->φ h2
def HOk(H:Hp)(h:Heap):Prop:=∀a o,H a=some o->bw P w H h a o
end
section
variable{P:zAY}{w:World}{H H':Hp}{h h':Heap}{a:Addr}{o:HO}
theorem bw.lt(x:bw P w H h a o):a<h.objs.size:=by
 cases o with
 |lst xs=>obtain⟨_,_,_,_,e⟩:=x;exact zA2 e
 |tup xs=>obtain⟨_,_,_,p⟩:=x;exact p.lt
 |dK kvs=>obtain⟨_,_,_,_,o,_,_,e,_⟩:=x;exact zA2 e
 |dT kvs=>obtain⟨_,_,_,_,o,_,_,e,_⟩:=x;exact zA2 e
 |set S n=>obtain⟨o,_,_,_,e,_⟩:=x;exact zA2 e
 |ins C dx fs=>obtain⟨_,_,_,e,_⟩:=x;exact zA2 e
 |own y=>obtain⟨_,e⟩:=x;exact zA2 e
 |xd fs=>obtain⟨_,⟨_,_,_,e,_⟩,_⟩:=x;exact zA2 e
 |rng lo hi=>obtain⟨_,_,_,e⟩:=x;exact zA2 e
 |frz ob u=>obtain⟨e,_⟩:=x;exact zA2 e
 |tbl q=>obtain⟨ps,e,_⟩:=x;exact zA2 e
 |met f y=>exact zA2 (show h.get? a=some _ from x)
 |ext φ=>obtain⟨_,⟨_,e⟩,_⟩:=x;exact zA2 e
theorem Paired.mapP:∀{l₁:List α} {l₂:List β},zGe F l₁ l₂->(∀a b,F a b->G a b)->zGe G l₁ l₂
 |_,_,.nil,_=>.nil
 |_,_,.cons r t,f=>.cons (f _ _ r) (Paired.mapP t f)
def bw.stay(x:bw P w H h a o)(k:∀b u,(b=a\/H b=some (.own a))->h.get? b=some u->h'.get? b=some u)
  (ho:∀b,H b=some (.own a)->H' b=some (.own a))(ht:∀b xs,H b=some (.tup xs)->H' b=some (.tup xs))(hz:∀b o u,H b=some (.frz o u)->H' b=some (.frz o u):=by exact λ _ _ _ q=>q):bw P w H' h' a o:=by
 induction o with
 |lst xs=>obtain⟨z,its,n,r,e⟩:=x;exact⟨z,its,n,r,k _ _ (.inl rfl) e⟩
 |tup xs=>obtain⟨z,its,r,ob,e,c⟩:=x;exact⟨⟨z.1,z.2.keep e (k _ _ (.inl rfl) e)⟩,its,r,ob,k _ _ (.inl rfl) e,c⟩
 |dK kvs=>obtain⟨z,y,vs,r,ob,es,ep,e,c⟩:=x;exact⟨z,y,vs,r,ob,es,ep,k _ _ (.inl rfl) e,c⟩
 |dT kvs=>
  obtain⟨z,y,xs,r,ob,es,ep,e,c⟩:=x;exact⟨z,y,xs,Paired.mapP r λ p q z=>⟨z.1,ht _ _ z.2.1,z.2.2⟩,ob,es,ep,k _ _ (.inl rfl) e,c⟩
 |set S n=>obtain⟨ob,es,ep,t,e,c⟩:=x;exact⟨ob,es,ep,t,k _ _ (.inl rfl) e,c⟩
 |ins C dx fs=>
  obtain⟨d,z,ne,e,mA,⟨od,es,ep,e2,c⟩,r⟩:=x;exact⟨ho _ d,z,ne,k _ _ (.inl rfl) e,mA,⟨od,es,ep,k _ _ (.inr d) e2,c⟩,r⟩
 |own y=>obtain⟨ob,e⟩:=x;exact⟨ob,k _ _ (.inl rfl) e⟩
 |xd fs=>obtain⟨mA,⟨od,es,ep,e,c⟩,r⟩:=x;exact⟨mA,⟨od,es,ep,k _ _ (.inl rfl) e,c⟩,r⟩
 |rng lo hi=>obtain⟨t,u,v,e⟩:=x;exact⟨t,u,v,k _ _ (.inl rfl) e⟩
 |frz ob u ih=>obtain⟨e,q⟩:=x;exact⟨k _ _ (.inl rfl) e,ih q⟩
 |tbl q=>
  obtain⟨ps,e,t⟩:=x;exact⟨ps,k _ _ (.inl rfl) e,t.mono hz⟩
 |met f y=>
  have e:h.get? a=some (zEa (.ref f) (.ref y)):=x;show h'.get? a=some (zEa (.ref f) (.ref y));exact k a _ (.inl rfl) e
 |ext φ=>obtain⟨p,⟨o,e⟩,st⟩:=x;exact⟨st _ _ p λ o q=>k _ _ (.inl rfl) q,⟨o,k _ _ (.inl rfl) e⟩,st⟩
theorem HOk.lt(x:HOk P w H h)(e:H a=some o):a<h.objs.size:=(x a o e).lt
def HOk.fresh(x:HOk P w H h)(e:h.objs.size<=a):H a=none:=by
 cases q:H a with
 |none=>rfl
 |some u=>exact absurd (zA4 (x.lt q) e) (zBF _)
def HOk.kept(x:HOk P w H h)(k:∀b u,h.get? b=some u->h'.get? b=some u):HOk P w H h':=λ a o e=>
 (x a o e).stay (λ b u _ q=>k b u q) (λ _ q=>q) λ _ _ q=>q
def HOk.laid(x:HOk P w H h)(k:∀b u,h.get? b=some u->h'.get? b=some u)(hp:h.objs.size<=a)(new:bw P w (upd H a o) h' a o):HOk P w (upd H a o) h':=λ b u e=>by
 have hn:=x.fresh hp;by_cases hb:b=a
 .subst hb;rw[aX]at e;cases e;exact new
 .rw[aW hb]at e
  exact(x b u e).stay (λ c v _ q=>k c v q) (λ c q=>by rw[aW (bj q hn)];exact q) (λ c xs q=>by rw[aW (bj q hn)];exact q) λ c o' u' q=>by rw[aW (bj q hn)];exact q
end
def Rd(H:Hp)(a:Addr)(u:HO):Prop:=H a=some u\/∃o,H a=some (.frz o u)
def Rd.ok(r:Rd H a u)(x:HOk P w H h):bw P w H h a u:=by
 rcases r with r|⟨o,r⟩
 .exact x a u r
 .obtain⟨_,q⟩:=x a _ r
  exact q
def Mut:Option HO->Prop
 |some (.lst _)=>True
 |some (.dK _)=>True
 |some (.dT _)=>True
 |some (.set _ _)=>True
 |some (.ins _ _ _)=>True
 |some (.ext _)=>True
 |_=>False
section
variable{P:zAY}{w:World}{H:Hp}{h h':Heap}{x e:Addr}{o':HO}
def HOk.write(ok:HOk P w H h)(mu:Mut (H x))(he:e=x\/H e=some (.own x))(k:∀b u,b≠e->h.get? b=some u->h'.get? b=some u)(heo:∃u,h'.get? e=some u)
  (new:bw P w (upd H x o') h' x o'):HOk P w (upd H x o') h':=λ b u q=>by
 have nown:∀c y,H c=some (.own y)->c≠x:=λ c y r z=>by subst z;rw[r]at mu;exact mu
 have ntup:∀c xs,H c=some (.tup xs)->c≠x:=λ c xs r z=>by subst z;rw[r]at mu;exact mu
 by_cases hb:b=x
 .subst hb;rw[aX]at q;cases q;exact new
 .rw[aW hb]at q
  by_cases hbe:b=e
  .have q':H b=some (.own x):=by
    rcases he with z|z
    .exact absurd (hbe.trans z) hb
    .rw[hbe];exact z
   rw[q]at q';cases q';obtain⟨v,hv⟩:=heo;exact⟨v,by rw[hbe];exact hv⟩
  .refine(ok b u q).stay (λ c v hc r=>k c v ?_ r) (λ c r=>by rw[aW (nown c b r)];exact r) (λ c xs r=>by rw[aW (ntup c xs r)];exact r) λ c o2 u2 r=>by rw[aW λ z=>by subst z;rw[r]at mu;exact mu];exact r
   rcases hc with rfl|hc
   .exact hbe
   .rintro rfl
    rcases he with z|z
    .exact nown c b hc z
    .rw[hc]at z;cases z;exact hb rfl
end
structure Un(fs ex:List Addr)(H H':Hp)(h h':Heap):Prop where
 keep:∀b o,h.get? b=some o->H b=none->b∉fs->b∉ex->h'.get? b=some o
 slot:∀b o,h.get? b=some o->H b=none->b∈fs->b∉ex->∃sl,h'.get? b=some {o with slots:=sl}
 free:∀b o,h.get? b=some o->H b=none->b∉ex->H' b=none
 there:∀b o,h.get? b=some o->b∉ex->∃o',h'.get? b=some o'
 tups:∀b xs,H b=some (.tup xs)->H' b=some (.tup xs)
 frzs:∀b o u,H b=some (.frz o u)->H' b=some (.frz o u)
 tbls:∀b q,H b=some (.tbl q)->H' b=some (.tbl q)
section
variable{fs ex:List Addr}{H H1:Hp}{h h1 h':Heap}{a x e:Addr}{o:HO}
def Un.any(u:Un fs ex H H1 h h1)(q:h.get? b=some ob)(n:H b=none)(hx:b∉ex):∃sl,h1.get? b=some {ob with slots:=sl}:=by
 by_cases hb:b∈fs
 .exact u.slot b ob q n hb hx
 .exact⟨ob.slots,u.keep b ob q n hb hx⟩
def Un.kept(k:∀b u,h.get? b=some u->h'.get? b=some u):Un fs ex H H h h':=
 ⟨λ b ob q _ _ _=>k b ob q,λ b ob q _ _ _=>⟨ob.slots,k b ob q⟩,λ _ _ _ n _=>n,λ b ob q _=>⟨ob,k b ob q⟩,λ _ _ q=>q,λ _ _ _ q=>q,λ _ _ q=>q⟩
def Un.refl:Un fs ex H H h h:=Un.kept λ _ _ q=>q
def Un.laid(k:∀b u,h.get? b=some u->h'.get? b=some u)(hp:h.objs.size<=a)(hn:H a=none):Un fs ex H (upd H a o) h h' where
 keep:=λ b u q _ _ _=>k b u q
 slot:=λ b u q _ _ _=>⟨u.slots,k b u q⟩
 free:=λ b u q n _=>by rw[aW (zA9 (zA4 (zA2 q) hp))];exact n
 there:=λ b u q _=>⟨u,k b u q⟩
 tups:=λ b xs q=>by rw[aW (bj q hn)];exact q
 frzs:=λ b u xs q=>by rw[aW (bj q hn)];exact q
 tbls:=λ b r q=>by rw[aW (bj q hn)];exact q
def Un.write(mu:Mut (H x))(he:e=x\/H e=some (.own x))(k:∀b u,b≠e->h.get? b=some u->h'.get? b=some u)(heo:∃u,h'.get? e=some u):Un fs ex H (upd H x o) h h':=by
 have hx:∀b,H b=none->b≠x:=λ b n z=>by subst z;rw[n]at mu;exact mu
 have hb:∀b,H b=none->b≠e:=λ b n z=>by
  subst z;rcases he with r|r
  .exact hx b n r
  .rw[n]at r;cases r
 have hm:∀b u,H b=some u->¬Mut (some u)->b≠x:=λ b u q nm z=>by subst z;rw[q]at mu;exact nm mu
 refine⟨λ b u q n _ _=>k b u (hb b n) q,λ b u q n _ _=>⟨u.slots,k b u (hb b n) q⟩,λ b u q n _=>by rw[aW (hx b n)];exact n,λ b u q _=>?_,
  λ b xs q=>by rw[aW (hm b _ q λ z=>z)];exact q,λ b u xs q=>by rw[aW (hm b _ q λ z=>z)];exact q,λ b r q=>by rw[aW (hm b _ q λ z=>z)];exact q⟩
 by_cases hbe:b=e
 .subst hbe;exact heo
 .exact⟨u,k b u hbe q⟩
end
def trk(h:Heap)(H:Hp):List Addr:=(zAw h.objs.size).filter λ a=>(H a).isSome
def aBT(h:Heap)(H:Hp):Heap:=zDT h (trk h H)
def aFm(h:Heap)(H:Hp):(aBT h H).objs.size=h.objs.size:=PySem.W.hideAll_size _ _
def aIG(e:h.get? b=some o)(n:H b=none):(aBT h H).get? b=some o:=
 zDU _ e λ hm=>by
  have q:(H b).isSome=true:=(zAg.mp hm).2;rw[n]at q;simp at q
def aKN(e:(aBT h H).get? b=some o):h.get? b=some o/\H b=none:=by
 have e':h.get? b=some o:=zGW (trk h H) e;refine⟨e',?_⟩;cases q:H b with
 |none=>rfl
 |some x=>
  have hm:b∈trk h H:=zAg.mpr ⟨zCy.mpr (zA2 e'),by simp[q]⟩;have z:(aBT h H).get? b=none:=PySem.W.hideAll_none (trk h H) hm;rw[z]at e;cases e
def aLC(g h:Heap)(L:Addr):hZ:=(zAw h.objs.size).filterMap λ a=>if a=L\/(g.get? a).isSome=true then none else(h.get? a).map λ o=>(a,o)
def rest(g h:Heap)(L d:Addr):hZ:=(aLC g h L).filter λ p=>decide (p.1≠d)
structure Mod(K:zAA)(mg:Str->Option Value)(base:Heap):Prop where
 kin:K.In base
 glob:base.Ns zAd mg
 blt:∃mb,base.Ns zII mb/\∀x:Str,x≠"__name__"->mb x=zAp x
 nolimit:base.NoLimit
structure Cx where
 prog:zAY
 w:World
 K:zAA
 mg:Str->Option Value
 base:Heap
 A:zAc
 N:List Str
 z5:zAG
 zS:Hp
 env:Env
 outer:List Env
 stack:List Env
 ex:List Addr
 fn:Str->Bool
 calm:Bool
 pn:hZ
 xe:Value->zAG->Prop
 ta:hZ:=[]
 tq:Str:=""
def frs(l:List Env):List Addr:=l.filterMap (·.frame)
abbrev Cx.fs(X:Cx):List Addr:=frs X.outer
def Vis(sc:Scope)(x:Str):Prop:=sc.names.lookup x=some .local\/sc.names.lookup x=some .cell\/sc.names.lookup x=some .free
def Loc(sc:Scope)(x:Str):Prop:=sc.names.lookup x=some .local\/sc.names.lookup x=some .cell
def Look(env:Env)(h:Heap)(m:Str->Option Value)(x:Str)(u:Value):Prop:=
 (env.kindOf x=some .local/\m x=some u)\/((env.kindOf x=some .cell\/env.kindOf x=some .free)/\∃c,env.cells.lookup x=some c/\h.IsCell c (some u))
structure Cx.Ok(X:Cx):Prop where
 mod:Mod X.K X.mg X.base
 kind:X.env.scope.kind= .function
 glob:X.env.globals=zAd
 blt:X.env.builtins=zII
 above:X.z5.heap.objs.size<=X.env.locals
 inj:∀x y c,X.env.cells.lookup x=some c->X.env.cells.lookup y=some c->x=y
 has:∀x,(X.env.kindOf x=some .cell\/X.env.kindOf x=some .free)->∃c,X.env.cells.lookup x=some c
 cab:∀x c,X.fn x=true->X.env.cells.lookup x=some c->X.z5.heap.objs.size<=c
 hd:X.calm=true->X.A.handled=none
 frames:X.A.frames=some X.stack
 stk:X.stack=X.outer\/(X.stack=X.env::X.outer/\X.env.frame=some X.env.locals)
 exf:∀b∈X.ex,b≠X.env.locals/\∀x c,X.env.cells.lookup x=some c->c≠b
 bs:∀b o,X.base.get? b=some o->X.z5.heap.get? b=some o/\X.zS b=none
 bsz:X.base.objs.size<=X.z5.heap.objs.size
 noex:∀b o,X.base.get? b=some o->b∉X.ex
 exfs:∀b∈X.ex,b∉X.fs
 funs:X.z5.heap.FunFrames X.base X.outer
 frf:∀b∈X.fs,X.zS b=none
structure Inv(X:Cx)(iX:hZ)(Z:List (Option V))(H:Hp)(s:zAG):Prop where
 ok:X.Ok
 os:s.os=X.z5.os
 bare:zE5 s.gens
 base:Un X.fs X.ex X.zS H X.z5.heap s.heap
 loc:∃m,s.heap.Ns X.env.locals m/\∀(i:Nat) (x:Str) (v:V),X.N[i]? =some x->Z[i]? =some (some v)->Vis X.env.scope x->∃u,RelV v u/\Look X.env s.heap m x u
 cell:∀x c,X.env.cells.lookup x=some c->∃v,s.heap.IsCell c v
 free:H X.env.locals=none
 freeC:∀x c,X.env.cells.lookup x=some c->H c=none
 pin:∀p∈X.pn++iX,s.heap.get? p.1=some p.2/\H p.1=none/\p.1≠X.env.locals/\p.1∉X.fs/\∀v,p.2.data≠.cell v
 hok:HOk X.prog X.w H s.heap
 len:Z.length=X.N.length
 tab:∀p∈X.ta,H p.1=none/\p.1≠X.env.locals/\p.1∉X.fs/\(∀q∈X.pn++iX,q.1≠p.1)/\∃ps,s.heap.get? p.1=some {cls:=.none,data:=.fields ps}/\TabOk X.tq H ps
section
variable{X:Cx}{iX:hZ}{Z:List (Option V)}{H H':Hp}{s:zAG}{h':Heap}
def Cx.Ok.nofr(ok:X.Ok)(e:X.base.get? b=some o):b∉X.fs:=λ hb=>by
 have:=(ok.funs.mem hb).1
 rw[e]at this;cases this
theorem Inv.bs(I:Inv X iX Z H s):∀b o,X.base.get? b=some o->s.heap.get? b=some o/\H b=none:=λ b o e=>
 ⟨I.base.keep b o (I.ok.bs b o e).1 (I.ok.bs b o e).2 (I.ok.nofr e) (I.ok.noex b o e),I.base.free b o (I.ok.bs b o e).1 (I.ok.bs b o e).2 (I.ok.noex b o e)⟩
def Inv.bk(I:Inv X iX Z H s):∀b o,X.base.get? b=some o->s.heap.get? b=some o:=λ b o e=>(I.bs b o e).1
theorem Inv.mod(I:Inv X iX Z H s):Mod X.K X.mg X.base:=I.ok.mod
def Inv.kIn(I:Inv X iX Z H s):X.K.In s.heap:=I.ok.mod.kin.keeps I.bk
def Inv.fr(I:Inv X iX Z H s):∃m,Fr X.base X.env.locals s.heap m:=
 let⟨m,hn,_⟩:=I.loc
 ⟨m,hn,I.bk,zAh I.ok.bsz I.ok.above⟩
theorem Inv.lt(I:Inv X iX Z H s):X.env.locals<s.heap.objs.size:=let⟨_,hn,_⟩:=I.loc;hn.lt
def Inv.sz(I:Inv X iX Z H s):X.z5.heap.objs.size<=s.heap.objs.size:=zAh I.ok.above (zBc I.lt)
def Inv.nofs(I:Inv X iX Z H s)(h:s.heap.objs.size<=a):a∉X.fs:=λ hb=>by
 obtain⟨_,o,ho,_⟩:=I.ok.funs.mem hb;exact absurd (zA4 (zA2 ho) (zAh I.sz h)) (zBF _)
def Inv.cne(I:Inv X iX Z H s):∀x c,X.env.cells.lookup x=some c->c≠X.env.locals:=λ x c e z=>by
 obtain⟨v,o,ho,hd⟩:=I.cell x c e;obtain⟨m,⟨o',es,ep,ho',hd',_⟩,_⟩:=I.loc;rw[z,ho']at ho;cases ho;rw[hd']at hd;cases hd
theorem Inv.funs(I:Inv X iX Z H s):s.heap.FunFrames X.base X.outer:=by
 have all:∀(l:List Env),(∀b∈frs l,b∈X.fs)->X.z5.heap.FunFrames X.base l->s.heap.FunFrames X.base l:=by
  intro l;induction l with
  |nil=>intro _ _;trivial
  |cons env r ih=>
   intro hs hl;obtain⟨hk,⟨L,o,hf,hn,ho,hd⟩,hr⟩:=hl;have hL:L∈X.fs:=hs L (by unfold frs;rw[zCF,hf];exact zAJ);obtain⟨sl,e⟩:=I.base.slot L o ho (I.ok.frf L hL) hL λ z=>I.ok.exfs L z hL
   exact⟨hk,⟨L,_,hf,hn,e,hd⟩,ih (λ b hb=>hs b (by unfold frs;rw[zCF,hf];exact zAR _ hb)) hr⟩
 exact all X.outer (λ _ hb=>hb) I.ok.funs
theorem Inv.stack(I:Inv X iX Z H s):s.heap.FunFrames X.base X.stack:=by
 rcases I.ok.stk with e|⟨e,hf⟩
 .rw[e];exact I.funs
 .rw[e]
  obtain⟨m,hn,_⟩:=I.loc;refine .cons (by rw[I.ok.kind];decide) hf hn ?_ I.funs;exact Heap.get?_none_of_le (zAh I.ok.bsz I.ok.above)
def Inv.stkSub(I:Inv X iX Z H s):∀b∈frs X.stack,b∈X.env.locals::X.fs:=λ b hb=>by
 rcases I.ok.stk with e|⟨e,hf⟩
 .rw[e]at hb;exact zAR _ hb
 .rw[e]at hb
  unfold frs at hb;rw[zCF,hf]at hb;exact hb
def Inv.stkFree(I:Inv X iX Z H s):∀b∈frs X.stack,H b=none:=λ b hb=>by
 rcases zA1.mp (I.stkSub b hb)with e|hb
 .rw[e];exact I.free
 .obtain⟨_,o,ho,_⟩:=I.ok.funs.mem hb
  exact I.base.free b o ho (I.ok.frf b hb) λ z=>I.ok.exfs b z hb
def Inv.step{g':Array zCn}{t':Nat}{d':Drawn}{ch:List Addr}(I:Inv X iX Z H s)
  (hch:∀b∈ch,(b∈X.ex\/X.z5.heap.objs.size<=b)/\b≠X.env.locals/\(∀x c,X.env.cells.lookup x=some c->c≠b)/\∀p∈X.ta++(X.pn++iX),p.1≠b)
  (keep:∀b o,b≠X.env.locals->b∉X.fs->b∉ch->s.heap.get? b=some o->H b=none->h'.get? b=some o)
  (slot:∀b o,b≠X.env.locals->b∈X.fs->b∉ch->s.heap.get? b=some o->H b=none->∃sl,h'.get? b=some {o with slots:=sl})(free:∀b o,b∉ch->s.heap.get? b=some o->H b=none->H' b=none)
  (there:∀b o,b∉ch->s.heap.get? b=some o->∃o',h'.get? b=some o')
  (tups:∀b xs,H b=some (.tup xs)->H' b=some (.tup xs))(frzs:∀b o u,H b=some (.frz o u)->H' b=some (.frz o u))(tbls:∀b q,H b=some (.tbl q)->H' b=some (.tbl q))
  (ns:∀m,s.heap.Ns X.env.locals m->h'.Ns X.env.locals m)(hok:HOk X.prog X.w H' h')(hg:zE5 g'):
  Inv X iX Z H' {s with heap:=h',gens:=g',drawn:=d',toks:=t'}:=by
 have neL:∀b o,X.z5.heap.get? b=some o->b≠X.env.locals:=λ b o e=>zA9 (zA4 (zA2 e) I.ok.above)
 have neC:∀b o,X.z5.heap.get? b=some o->b∉X.ex->b∉ch:=λ b o e hx hb=>by
  rcases(hch b hb).1 with z|z
  .exact hx z
  .exact absurd (zA4 (zA2 e) z) (zBF _)
 have cE:∀x c,X.env.cells.lookup x=some c->∀v,s.heap.IsCell c v->h'.IsCell c v:=λ x c e v ⟨o,ho,hd⟩=>by
  have nch:c∉ch:=λ z=>(hch c z).2.2.1 x c e rfl
  by_cases hc:c∈X.fs
  .obtain⟨sl,q⟩:=slot c o (I.cne x c e) hc nch ho (I.freeC x c e)
   exact⟨_,q,hd⟩
  .exact⟨o,keep c o (I.cne x c e) hc nch ho (I.freeC x c e),hd⟩
 refine⟨I.ok,I.os,hg,⟨λ b o e n hb hx=>?_,λ b o e n hb hx=>?_,λ b o e n hx=>?_,λ b o e hx=>?_,λ b xs e=>tups b xs (I.base.tups b xs e),λ b o xs e=>frzs b o xs (I.base.frzs b o xs e),λ b q e=>tbls b q (I.base.tbls b q e)⟩,?_,λ x c e=>?_,?_,λ x c e=>?_,λ p hp=>?_,hok,I.len,λ p hp=>?_⟩
 .exact keep b o (neL b o e) hb (neC b o e hx) (I.base.keep b o e n hb hx) (I.base.free b o e n hx)
 .obtain⟨sl,e1⟩:=I.base.slot b o e n hb hx
  obtain⟨sl',e2⟩:=slot b _ (neL b o e) hb (neC b o e hx) e1 (I.base.free b o e n hx);exact⟨sl',e2⟩
 .obtain⟨o',e1⟩:=I.base.there b o e hx
  exact free b o' (neC b o e hx) e1 (I.base.free b o e n hx)
 .obtain⟨o',e1⟩:=I.base.there b o e hx
  exact there b o' (neC b o e hx) e1
 .obtain⟨m,hn,hl⟩:=I.loc
  refine⟨m,ns m hn,λ i x v e1 e2 e3=>?_⟩;obtain⟨u,r,l⟩:=hl i x v e1 e2 e3;refine⟨u,r,?_⟩;rcases l with l|⟨k,c,e,z⟩
  .exact .inl l
  .exact .inr ⟨k,c,e,cE x c e _ z⟩
 .obtain⟨v,z⟩:=I.cell x c e
  exact⟨v,cE x c e v z⟩
 .obtain⟨m,⟨o,_,_,ho,_⟩,_⟩:=I.loc
  exact free _ o (λ z=>(hch _ z).2.1 rfl) ho I.free
 .obtain⟨v,o,ho,hd⟩:=I.cell x c e
  exact free c o (λ z=>(hch c z).2.2.1 x c e rfl) ho (I.freeC x c e)
 .obtain⟨e,n,ne,nf,d⟩:=I.pin p hp
  have nch:p.1∉ch:=λ z=>(hch p.1 z).2.2.2 p (zA3 _ hp) rfl
  exact⟨keep p.1 p.2 ne nf nch e n,free p.1 p.2 nch e n,ne,nf,d⟩
 .obtain⟨n,ne,nf,np,ps,e,t⟩:=I.tab p hp
  have nch:p.1∉ch:=λ z=>(hch p.1 z).2.2.2 p (zA5 _ hp) rfl
  exact⟨free p.1 _ nch e n,ne,nf,np,ps,keep p.1 _ ne nf nch e n,t.mono frzs⟩
def Inv.pinL(I:Inv X iX Z H s)(hp:p∈X.ta++(X.pn++iX)):p.1<s.heap.objs.size:=by
 rcases zAX.mp hp with z|z
 .obtain⟨_,_,_,_,_,e,_⟩:=I.tab p z
  exact zA2 e
 .exact zA2 (I.pin p z).1
def Inv.un{t':Nat}(I:Inv X iX Z H s)(u:Un X.fs [] H H' s.heap h')(hok:HOk X.prog X.w H' h'):Inv X iX Z H' {s with heap:=h',toks:=t'}:=by
 obtain⟨m,⟨o,es,ep,ho,r⟩,_⟩:=id I.loc;obtain⟨sl,hL⟩:=u.any ho I.free (by simp);exact I.step (g':=s.gens) (d':=s.drawn) (ch:=[]) (λ _ z=>nomatch z) (λ b o _ hb _ e n=>u.keep b o e n hb (by simp)) (λ b o _ hb _ e n=>u.slot b o e n hb (by simp)) (λ b o _ e n=>u.free b o e n (by simp)) (λ b o _ e=>u.there b o e (by simp)) u.tups u.frzs u.tbls (λ m' hm=>by
  obtain⟨o',es',ep',ho',r'⟩:=hm;rw[ho]at ho';cases ho';exact⟨_,es',ep',hL,r'⟩) hok I.bare
def Inv.call{g':Array zCn}{t':Nat}{d':Drawn}{ch:List Addr}(I:Inv X iX Z H s)(u:Un (frs X.stack) ch H H' s.heap h')(hok:HOk X.prog X.w H' h')(hg:zE5 g')
  (hch:∀b∈ch,(b∈X.ex\/X.z5.heap.objs.size<=b)/\b≠X.env.locals/\(∀x c,X.env.cells.lookup x=some c->c≠b)/\∀p∈X.ta++(X.pn++iX),p.1≠b):
  Inv X iX Z H' {s with heap:=h',gens:=g',drawn:=d',toks:=t'}:=by
 obtain⟨m,⟨o,es,ep,ho,r⟩,_⟩:=id I.loc;obtain⟨sl,hL⟩:=u.any ho I.free λ z=>(hch _ z).2.1 rfl
 exact I.step (ch:=ch) hch (λ b o hL hb hc e n=>u.keep b o e n (λ z=>(zA1.mp (I.stkSub b z)).elim hL hb) hc) (λ b o _ _ hc e n=>u.any e n hc) (λ b o hc e n=>u.free b o e n hc) (λ b o hc e=>u.there b o e hc) u.tups u.frzs u.tbls (λ m' hm=>by
  obtain⟨o',es',ep',ho',r'⟩:=hm;rw[ho]at ho';cases ho';exact⟨_,es',ep',hL,r'⟩) hok hg
def Inv.turned{t':Nat}{it:Addr}(I:Inv X iX Z H s)(k:∀b o,b≠it->s.heap.get? b=some o->h'.get? b=some o)(hn:H it=none)(hL:it≠X.env.locals)
  (h1:it∈X.ex\/X.z5.heap.objs.size<=it)(h2:∀x c,X.env.cells.lookup x=some c->c≠it)(h3:∀p∈X.ta++(X.pn++iX),p.1≠it):Inv X iX Z H {s with heap:=h',toks:=t'}:=by
 have nit:∀b u,H b=some u->b≠it:=λ b u e z=>by rw[z,hn]at e;cases e
 refine I.step (g':=s.gens) (d':=s.drawn) (ch:=[it]) (λ b hb=>?_) (λ b o _ _ hc e _=>k b o (λ z=>hc (by simp[z])) e) (λ b o _ _ hc e _=>⟨o.slots,k b o (λ z=>hc (by simp[z])) e⟩) (λ _ _ _ _ n=>n)
  (λ b o hc e=>⟨o,k b o (λ z=>hc (by simp[z])) e⟩) (λ _ _ e=>e) (λ _ _ _ e=>e) (λ _ _ e=>e) (λ m hm=>?_) (λ b u e=>?_) I.bare
 .have e:b=it:=by simpa using hb
  subst e;exact⟨h1,hL,h2,h3⟩
 .obtain⟨o,es,ep,ho,r⟩:=hm
  exact⟨o,es,ep,k _ o (zCq hL) ho,r⟩
 .refine(I.hok b u e).stay (λ c v hc q=>k c v ?_ q) (λ _ q=>q) λ _ _ q=>q
  rcases hc with z|z
  .rw[z];exact nit b u e
  .exact nit c _ z
def Inv.tok(I:Inv X iX Z H s)(t:Nat):Inv X iX Z H {s with toks:=t}:=I.un (h':=s.heap) (t':=t) Un.refl I.hok
theorem Inv.kept(I:Inv X iX Z H s)(k:∀b u,s.heap.get? b=some u->h'.get? b=some u):Inv X iX Z H {s with heap:=h',toks:=t'}:=I.un (Un.kept k) (I.hok.kept k)
theorem Inv.laid(I:Inv X iX Z H s)(k:∀b u,s.heap.get? b=some u->h'.get? b=some u)(hp:s.heap.objs.size<=a)(new:bw X.prog X.w (upd H a o) h' a o):
  Inv X iX Z (upd H a o) {s with heap:=h',toks:=t'}:=I.un (Un.laid k hp (I.hok.fresh hp)) (I.hok.laid k hp new)
theorem Inv.write(I:Inv X iX Z H s)(mu:Mut (H x))(he:e=x\/H e=some (.own x))(k:∀b u,b≠e->s.heap.get? b=some u->h'.get? b=some u)(heo:∃u,h'.get? e=some u)
  (new:bw X.prog X.w (upd H x o) h' x o):Inv X iX Z (upd H x o) {s with heap:=h',toks:=t'}:=I.un (Un.write mu he k heo) (I.hok.write mu he k heo new)
def Inv.weak(I:Inv X iX Z H s)(hl:Z'.length=Z.length)(w:∀(i:Nat) v,Z'[i]? =some (some v)->Z[i]? =some (some v)):Inv X iX Z' H s:=
 ⟨I.ok,I.os,I.bare,I.base,let⟨m,hn,hl'⟩:=I.loc;⟨m,hn,λ i x v e1 e2 e3=>hl' i x v e1 (w i v e2) e3⟩,I.cell,I.free,I.freeC,I.pin,I.hok,hl.trans I.len,I.tab⟩
def Inv.pins_of(I:Inv X iX Z H s)(h:∀p∈pins',s.heap.get? p.1=some p.2/\H p.1=none/\p.1≠X.env.locals/\p.1∉X.fs/\∀v,p.2.data≠.cell v)(h2:∀q∈pins',∀p∈X.ta,q.1≠p.1):Inv X pins' Z H s:=
 ⟨I.ok,I.os,I.bare,I.base,I.loc,I.cell,I.free,I.freeC,λ p hp=>(zAX.mp hp).elim (λ z=>I.pin p (zA5 _ z)) (h p),I.hok,I.len,λ p hp=>let⟨a,b,c,d,e⟩:=I.tab p hp;⟨a,b,c,λ q hq=>(zAX.mp hq).elim (λ z=>d q (zA5 _ z)) (λ z=>h2 q z p hp),e⟩⟩
def aCU{N:List Str}(hN:N.Nodup){i j:Nat}{x:Str}(a:N[i]? =some x)(b:N[j]? =some x):i=j:=by
 obtain⟨h1,e1⟩:=zAL.mp a;obtain⟨h2,e2⟩:=zAL.mp b;exact(List.getElem_inj hN).mp (e1.trans e2.symm)
def aAB{M:Model}{A:zAc}{E:Value->zAG->Prop}{i:Nat}{x:Str}{v:V}{u:Value}{Q:Unit->zAG->Prop}(I:Inv X iX Z H s)(hN:X.N.Nodup)(hi:X.N[i]? =some x)(hx:Loc X.env.scope x)(r:RelV v u)
  (h:∀s',Inv X iX (Z.set i (some v)) H s'->(∃a,zBa a s.heap s'.heap/\(a=X.env.locals\/X.env.cells.lookup x=some a))->Q () s')(hf:X.fn x=true\/X.env.scope.names.lookup x=some .local:=by first|exact .inl rfl|exact .inr rfl|assumption):wpAny M A (storeName X.env x u) Q E s:=by
 obtain⟨m,hn,hl⟩:=id I.loc;have hcls:(X.env.scope.kind== .class||(X.env.scope.kind== .module&&X.env.locals !=X.env.globals))=false:=by rw[I.ok.kind];rfl
 have hiZ:i<Z.length:=by rw[I.len];exact(zAL.mp hi).1
 have cne:=I.cne;have aT:∀{a:Addr} {h':Heap},(∃o,s.heap.get? a=some o/\H a=none)->zBa a s.heap h'->HOk X.prog X.w H h':=λ{a h'} ha hs b ob e=>by
  obtain⟨_,_,hfree⟩:=ha;refine(I.hok b ob e).stay (λ c w' hc q=>(hs.2 c ?_).trans q) (λ _ q=>q) λ _ _ q=>q
  rintro rfl;rcases hc with rfl|hc
  .rw[hfree]at e;cases e
  .rw[hfree]at hc;cases hc
 rcases hx with hk|hk
 .refine wpAny_storeName_local hk hn (λ h' hn' hs=>?_) hcls
  obtain⟨oL,_,_,hoL,_⟩:=id hn;refine h _ ⟨I.ok,I.os,I.bare,⟨λ b o e n hb hx=>?_,λ b o e n hb hx=>?_,I.base.free,λ b o e hx=>?_,I.base.tups,I.base.frzs,I.base.tbls⟩,⟨_,hn',λ j y v' e1 e2 e3=>?_⟩,λ y c e=>?_,I.free,I.freeC,λ p hp=>?_,aT ⟨oL,hoL,I.free⟩ hs,by simpa using I.len,λ p hp=>?_⟩ ⟨_,hs,.inl rfl⟩
  .exact(hs.2 b (zA9 (zA4 (zA2 e) I.ok.above))).trans (I.base.keep b o e n hb hx)
  .obtain⟨sl,e1⟩:=I.base.slot b o e n hb hx
   exact⟨sl,(hs.2 b (zA9 (zA4 (zA2 e) I.ok.above))).trans e1⟩
  .obtain⟨o',e1⟩:=I.base.there b o e hx
   exact⟨o',(hs.2 b (zA9 (zA4 (zA2 e) I.ok.above))).trans e1⟩
  .by_cases hj:j=i
   .subst hj
    rw[hi]at e1;cases e1;rw[zBL hiZ]at e2;cases e2;exact⟨u,r,.inl ⟨hk,by simp⟩⟩
   .rw[zBK (zCq hj)]at e2
    obtain⟨u',r',q⟩:=hl j y v' e1 e2 e3;refine⟨u',r',?_⟩;rcases q with ⟨k,e⟩|⟨k,c,e,z⟩
    .refine .inl ⟨k,?_⟩
     have:y≠x:=λ e=>hj (aCU hN e1 (e▸hi))
     simp[this,e]
    .exact .inr ⟨k,c,e,z.sameBut hs (cne y c e)⟩
  .obtain⟨w',z⟩:=I.cell y c e
   exact⟨w',z.sameBut hs (cne y c e)⟩
  .obtain⟨e,n,ne,nf,d⟩:=I.pin p hp
   exact⟨(hs.2 p.1 ne).trans e,n,ne,nf,d⟩
  .obtain⟨n,ne,nf,np,ps,e,t⟩:=I.tab p hp
   exact⟨n,ne,nf,np,ps,(hs.2 p.1 ne).trans e,t⟩
 .have hfn:X.fn x=true:=by
   rcases hf with z|z
   .exact z
   .rw[z]at hk;cases hk
  obtain⟨c,hc⟩:=I.ok.has x (.inl hk);obtain⟨w',z⟩:=I.cell x c hc;refine wpAny_storeName_cell I.ok.kind hk hc z (λ h' hc' hs=>?_);obtain⟨oc,hoc,hocd⟩:=id z;refine h {s with heap:=h'} ⟨I.ok,I.os,I.bare,⟨λ b o e n hb hx=>?_,λ b o e n hb hx=>?_,I.base.free,λ b o e hx=>?_,I.base.tups,I.base.frzs,I.base.tbls⟩,⟨m,hn.sameBut hs (zCq (cne x c hc)),λ j y v' e1 e2 e3=>?_⟩,λ y c' e=>?_,I.free,I.freeC,λ p hp=>?_,aT ⟨oc,hoc,I.freeC x c hc⟩ hs,by simpa using I.len,λ p hp=>?_⟩ ⟨c,hs,.inr hc⟩
  .exact(hs.2 b (zA9 (zA4 (zA2 e) (I.ok.cab x c hfn hc)))).trans (I.base.keep b o e n hb hx)
  .obtain⟨sl,e1⟩:=I.base.slot b o e n hb hx
   exact⟨sl,(hs.2 b (zA9 (zA4 (zA2 e) (I.ok.cab x c hfn hc)))).trans e1⟩
  .obtain⟨o',e1⟩:=I.base.there b o e hx
   exact⟨o',(hs.2 b (zA9 (zA4 (zA2 e) (I.ok.cab x c hfn hc)))).trans e1⟩
  .by_cases hj:j=i
   .subst hj
    rw[hi]at e1;cases e1;rw[zBL hiZ]at e2;cases e2;exact⟨u,r,.inr ⟨.inl hk,c,hc,hc'⟩⟩
   .rw[zBK (zCq hj)]at e2
    obtain⟨u',r',q⟩:=hl j y v' e1 e2 e3;refine⟨u',r',?_⟩;rcases q with q|⟨k,c',e,z'⟩
    .exact .inl q
    .refine .inr ⟨k,c',e,z'.sameBut hs ?_⟩
     rintro rfl;exact hj (aCU hN e1 (I.ok.inj _ _ _ e hc▸hi))
  .by_cases hcc:c'=c
   .subst hcc;exact⟨_,hc'⟩
   .obtain⟨w2,z2⟩:=I.cell y c' e
    exact⟨w2,z2.sameBut hs hcc⟩
  .obtain⟨e,n,ne,nf,d⟩:=I.pin p hp
   refine⟨(hs.2 p.1 ?_).trans e,n,ne,nf,d⟩;intro q;rw[q,hoc]at e;have q':oc=p.2:=zAe e;exact d w' (by rw[<-q'];exact hocd)
  .obtain⟨n,ne,nf,np,ps,e,t⟩:=I.tab p hp
   refine⟨n,ne,nf,np,ps,(hs.2 p.1 ?_).trans e,t⟩;intro q;rw[q,hoc]at e;rw[zAe e]at hocd;cases hocd
def aBl(I:Inv X iX Z H s)(hN:X.N.Nodup)(hi:X.N[i]? =some x)(hx:Loc X.env.scope x)(r:RelV v u)
  (h:∀s',Inv X iX (Z.set i (some v)) H s'->Q () s')(hf:X.fn x=true\/X.env.scope.names.lookup x=some .local:=by first|exact .inl rfl|exact .inr rfl|assumption):wpAny M A (storeName X.env x u) Q E s:=
 aAB I hN hi hx r (λ s' I' _=>h s' I') hf
def Inv.call'(I:Inv X iX Z H s)(ho:s'.os=s.os)(u:Un (frs X.stack) ch H H' s.heap s'.heap)(hok:HOk X.prog X.w H' s'.heap)(hg:zE5 s'.gens)
  (hch:∀b∈ch,(b∈X.ex\/X.z5.heap.objs.size<=b)/\b≠X.env.locals/\(∀x c,X.env.cells.lookup x=some c->c≠b)/\∀p∈X.ta++(X.pn++iX),p.1≠b):Inv X iX Z H' s':=by
 obtain⟨h',g',d',t',o'⟩:=s';have e:o'=s.os:=ho;subst e;exact I.call (g':=g') (t':=t') (d':=d') u hok hg hch
end
abbrev XK:=Value->Option Addr->Hp->Prop
abbrev St:=List (Option V)
abbrev VK:=V->Hp->Prop
abbrev TE:=St->Hp->VK->Prop
abbrev TT:=St->Hp->(Bool->Hp->Prop)->Prop
abbrev TA:=St->Hp->(List V->Hp->Prop)->Prop
structure Ends where
 nx:St->Hp->Prop
 rt:VK
 bk:St->Hp->Prop:=λ _ _=>False
 ct:St->Hp->Prop:=λ _ _=>False
abbrev TS:=Ends->St->Hp->Prop
def EP(X:Cx)(iX:hZ)(Z:St)(Q:VK)(u:Value)(s':zAG):Prop:=∃v H',Inv X iX Z H' s'/\RelV v u/\Q v H'
def TP(X:Cx)(iX:hZ)(Z:St)(Q:Bool->Hp->Prop)(b:Bool)(s':zAG):Prop:=∃H',Inv X iX Z H' s'/\Q b H'
def AP(X:Cx)(iX:hZ)(Z:St)(Q:List V->Hp->Prop)(us:List Value)(s':zAG):Prop:=∃vs H',Inv X iX Z H' s'/\Vals vs us/\Q vs H'
def SP(X:Cx)(iX:hZ)(D:Ends)(f:Flow)(s':zAG):Prop:=
 match f with
 | .next=>∃Z' H',Inv X iX Z' H' s'/\D.nx Z' H'
 | .brk=>∃Z' H',Inv X iX Z' H' s'/\D.bk Z' H'
 | .cont=>∃Z' H',Inv X iX Z' H' s'/\D.ct Z' H'
 | .ret u=>∃v Z' H',Inv X iX Z' H' s'/\RelV v u/\D.rt v H'
def PE(X:Cx)(e:Expr)(t:TE):Prop:=
 ∀(iX:hZ) (s:zAG) (Z:St) (H:Hp) (Q:VK),Inv X iX Z H s->t Z H Q->wpAny (model X.prog X.w) X.A (eval e X.env) (EP X iX Z Q) X.xe s
def PT(X:Cx)(e:Expr)(t:TT):Prop:=
 ∀(iX:hZ) (s:zAG) (Z:St) (H:Hp) (Q:Bool->Hp->Prop),Inv X iX Z H s->t Z H Q->wpAny (model X.prog X.w) X.A (isTrue e X.env (eval e X.env)) (TP X iX Z Q) X.xe s
def PW(X:Cx)(e:Expr)(t:TT):Prop:=
 ∀(whole:Sem Value) (iX:hZ) (s:zAG) (Z:St) (H:Hp) (Q:Bool->Hp->Prop),Inv X iX Z H s->t Z H Q->wpAny (model X.prog X.w) X.A (isTrue e X.env whole) (TP X iX Z Q) X.xe s
def PW.pt(h:PW X e t):PT X e t:=h _
def PA(X:Cx)(es:List Expr)(t:TA):Prop:=
 ∀(pos:Pos) (iX:hZ) (s:zAG) (Z:St) (H:Hp) (Q:List V->Hp->Prop),Inv X iX Z H s->t Z H Q->wpAny (model X.prog X.w) X.A (spliced (zBu pos (zAT es X.env))) (AP X iX Z Q) X.xe s
def PS(X:Cx)(st:Stmt)(t:TS):Prop:=
 ∀(iX:hZ) (s:zAG) (Z:St) (H:Hp) (D:Ends),Inv X iX Z H s->t D Z H->wpAny (model X.prog X.w) X.A (exec st X.env) (SP X iX D) X.xe s
def PSs(X:Cx)(st:List Stmt)(t:TS):Prop:=
 ∀(iX:hZ) (s:zAG) (Z:St) (H:Hp) (D:Ends),Inv X iX Z H s->t D Z H->wpAny (model X.prog X.w) X.A (execs st X.env) (SP X iX D) X.xe s
def thn(h:wpAny M A t Q E s)(hQ:∀a s,Q a s->Q' a s):wpAny M A t Q' E s:=zBO h hQ λ _ _ x=>x
section
variable{X:Cx}
def kJ(i:Nat):TE:=λ Z H Q=>∃v,Z[i]? =some (some v)/\Q v H
def tC(v:V):TE:=λ _ H Q=>Q v H
abbrev _root_.Nd(x:PySem.Str):Prop:=(x==("__debug__":PySem.Str))=false
def dO(hN:X.N[i]? =some x)(hv:Vis X.env.scope x)(hd:Nd x:=by decide)(hcd:(x==("__classdict__":Str))=false:=by decide):PE X (.Name x pos) (kJ i):=by
 intro iX s Z H Q I h;obtain⟨v,e,h⟩:=h;obtain⟨m,hn,hl⟩:=I.loc;obtain⟨u,r,l⟩:=hl i x v hN e hv;have fin:EP X iX Z Q u s:=⟨v,H,I,r,h⟩;rcases l with ⟨hk,hm⟩|⟨hk,c,hc,hcell⟩
 .exact zIL (wpAny_loadName_local I.ok.kind hk hn hm fin) hd
 .rcases hk with hk|hk
  .exact zIL (wpAny_loadName_cell I.ok.kind hk hc hcell fin) hd
  .exact zIL (wpAny_loadName_free I.ok.kind hk hc hcell fin hcd) hd
def aMp{i j pos}:PE X (.Constant (.int i) j pos) (tC (.int i)):=λ _ _ _ H _ I h=>wpAny_Constant_int ⟨.int i,H,I.tok _,⟨_,rfl⟩,h⟩
def aOi{b j pos}:PE X (.Constant (.bool b) j pos) (tC (.bl b)):=λ _ _ _ H _ I h=>Constant_bool ⟨.bl b,H,I,rfl,h⟩
def aMn{j pos}:PE X (.Constant .none j pos) (tC .non):=λ _ _ _ H _ I h=>Constant_none ⟨.non,H,I,rfl,h⟩
def aMk{x j pos}:PE X (.Constant (.str x) j pos) (tC (.str x)):=λ _ _ _ H _ I h=>Calls.Constant_str ⟨.str x,H,I.tok _,⟨_,rfl⟩,h⟩
def Gl(X:Cx)(x:Str):Prop:=X.env.kindOf x=some .globalImplicit
def aBJ(I:Inv X iX Z H s)(hg:Gl X x)(hm:X.mg x=some u)(h:Q u s)
  (hd:Nd x:=by decide):wpAny (model X.prog X.w) X.A (eval (.Name x pos) X.env) Q E s:=
 zFS I.ok.kind hg (Calls.loadGlobal_global (by rw[I.ok.glob];exact I.mod.glob.keeps I.bk) hm h) hd
def xr(I:Inv X iX Z H s)(hg:Gl X x)(hm:X.mg x=none)(hv:zAp x=some u)(h:Q u s)
  (hn:x≠"__name__":=by decide)(hd:Nd x:=by decide):wpAny (model X.prog X.w) X.A (eval (.Name x pos) X.env) Q E s:=by
 obtain⟨mb,h1,h2⟩:=I.mod.blt;exact zFS I.ok.kind hg (Calls.loadGlobal_builtin (by rw[I.ok.glob];exact I.mod.glob.keeps I.bk) hm (by rw[I.ok.blt];exact h1.keeps I.bk) ((h2 x hn).trans hv) h) hd
def aJw(hg:Gl X x)(hm:X.mg x=some u)(r:RelV v u)(hd:Nd x:=by decide):PE X (.Name x pos) (tC v):=
 λ _ _ _ H _ I h=>aBJ I hg hm ⟨v,H,I,r,h⟩ hd
def aKA(hg:Gl X x)(hm:X.mg x=none)(hv:zAp x=some u)(r:RelV v u)(hn:x≠"__name__":=by decide)(hd:Nd x:=by decide):PE X (.Name x pos) (tC v):=
 λ _ _ _ H _ I h=>xr I hg hm hv ⟨v,H,I,r,h⟩ hn hd
variable{a b:Expr}{ta tb:TE}{pos:Pos}
def tB(t:TE):TT:=λ Z H Q=>t Z H λ x H1=>∃c,x= .bl c/\Q c H1
def aM8(h:PE X e t)(he:∀whole,isTrue e X.env whole=(do let v <-whole;zEw e.pos;zC5 [v] (truthy v)):=by intro _;rfl):PT X e (tB t):=by
 intro iX s Z H Q I hw;refine isTrue_plain (thn (h iX s Z H _ I hw) λ v s1 ⟨x,H1,I1,r1,q1⟩=>?_) (he _);obtain⟨d,rfl,q⟩:=q1;cases r1;exact zCJ ⟨H1,I1,q⟩
variable{tA tB':TT}{rest:List Expr}
def aP9(t u:TT):TT:=λ Z H Q=>t Z H λ c H1=>if c=true then u Z H1 Q else Q false H1
def tOr(t u:TT):TT:=λ Z H Q=>t Z H λ c H1=>if c=true then Q true H1 else u Z H1 Q
def aP5(t:TT):TT:=λ Z H Q=>t Z H λ c H1=>Q (!c) H1
def aJe(ha:PT X a tA):PW X (.BoolOp .And [a] pos) tA:=by
 intro wh iX s Z H Q I h;refine isTrue_and (thn (ha iX s Z H Q I h) λ c s1 e=>?_);cases c with
 |true=>exact isTrue_and_nil e
 |false=>exact e
def aGz(ha:PT X a tA):PW X (.BoolOp .Or [a] pos) tA:=by
 intro wh iX s Z H Q I h;refine isTrue_or (thn (ha iX s Z H Q I h) λ c s1 e=>?_);cases c with
 |false=>exact isTrue_or_nil e
 |true=>exact e
def aM6(ha:PT X a tA)(hb:PW X (.BoolOp .And (b::rest) pos) tB'):PW X (.BoolOp .And (a::b::rest) pos) (aP9 tA tB'):=by
 intro wh iX s Z H Q I h;refine isTrue_and (thn (ha iX s Z H _ I h) λ c s1 ⟨H1,I1,q1⟩=>?_);cases c with
 |true=>exact hb wh iX s1 Z H1 Q I1 q1
 |false=>exact⟨H1,I1,q1⟩
def aLa(ha:PT X a tA)(hb:PW X (.BoolOp .Or (b::rest) pos) tB'):PW X (.BoolOp .Or (a::b::rest) pos) (tOr tA tB'):=by
 intro wh iX s Z H Q I h;refine isTrue_or (thn (ha iX s Z H _ I h) λ c s1 ⟨H1,I1,q1⟩=>?_);cases c with
 |true=>exact⟨H1,I1,q1⟩
 |false=>exact hb wh iX s1 Z H1 Q I1 q1
def aM9(ha:PT X a tA):PT X (.UnaryOp .Not a pos) (aP5 tA):=by
 intro iX s Z H Q I h;exact isTrue_not (ha iX s Z H (λ c H1=>Q (!c) H1) I h)
def aOU(ta tb:TE):TE:=λ Z H Q=>ta Z H λ x H1=>∃c,x= .bl c/\if c=true then tb Z H1 Q else Q (.bl false) H1
def aOO(ta:TE):TE:=λ Z H Q=>ta Z H λ x H1=>∃c,x= .bl c/\Q (.bl (!c)) H1
def aMl{op}(h:PE X a t):PE X (.BoolOp op [a] pos) t:=λ iX s Z H Q I hw=>BoolOp_one (h iX s Z H Q I hw)
def aMr(ha:PE X a ta)(hb:PE X (.BoolOp .And (b::rest) pos) tb):PE X (.BoolOp .And (a::b::rest) pos) (aOU ta tb):=by
 intro iX s Z H Q I h;refine BoolOp_and (thn (ha iX s Z H _ I h) λ v s1 ⟨x,H1,I1,r1,q1⟩=>?_);obtain⟨c,rfl,q1⟩:=q1;cases r1;refine zCJ ?_;cases c with
 |true=>exact hb iX s1 Z H1 Q I1 q1
 |false=>exact⟨.bl false,H1,I1,rfl,q1⟩
def aMm(ha:PE X a ta):PE X (.UnaryOp .Not a pos) (aOO ta):=by
 intro iX s Z H Q I h;refine UnaryOp_ (thn (ha iX s Z H _ I h) λ v s1 ⟨x,H1,I1,r1,q1⟩=>?_);obtain⟨c,rfl,q1⟩:=q1;cases r1;exact not_of (zCJ ⟨.bl (!c),H1,I1,rfl,q1⟩)
def tIf(t:TT)(ta tb:TE):TE:=λ Z H Q=>t Z H λ c H1=>if c=true then ta Z H1 Q else tb Z H1 Q
def aHQ(hc:PT X c tA)(ha:PE X a ta)(hb:PE X b tb):PE X (.IfExp c a b pos) (tIf tA ta tb):=by
 intro iX s Z H Q I h;refine wpAny_IfExp (thn (hc iX s Z H _ I h) λ d s1 ⟨H1,I1,q1⟩=>?_);cases d with
 |true=>exact ha iX s1 Z H1 Q I1 q1
 |false=>exact hb iX s1 Z H1 Q I1 q1
end
def SqL(K:zAA)(H:Hp)(a:Addr)(xs:List V):Prop:=
 Rd H a (.lst xs)\/
  ∃(o:Obj) (its:Array Value) (n:Nat),K.lookup a=some o/\o.cls= .type "list"/\o.dict=none/\o.data= .seq its n/\its.size<=zAO/\Vals xs its.toList
def SqT(K:zAA)(H:Hp)(a:Addr)(xs:List V):Prop:=
 Rd H a (.tup xs)\/
  ∃(o:Obj) (its:Array Value) (n:Nat),K.lookup a=some o/\o.cls= .type "tuple"/\o.dict=none/\o.data= .seq its n/\its.size<=zAO/\Vals xs its.toList
def aPj:Value->Option V
 | .none=>some .non
 | .bool b=>some (.bl b)
 | .int i _=>some (.int i)
 | .str x _=>some (.str x)
 | .bytes b _=>some (.byt b)
 | .float b _=>some (.flt b)
 | .ref a=>some (.ref a)
 | .type n=>some (.ty n)
 |_=>none
def RelV.abs(r:RelV x u):aPj u=some x:=by
 cases x with
 |non=>cases r;rfl
 |bl _=>cases r;rfl
 |int _=>obtain⟨t,rfl⟩:=r;rfl
 |str _=>obtain⟨t,rfl⟩:=r;rfl
 |byt _=>obtain⟨t,rfl⟩:=r;rfl
 |flt _=>obtain⟨t,rfl⟩:=r;rfl
 |ref _=>cases r;rfl
 |ty _=>cases r;rfl
def RelV.inj(r:RelV x u)(q:RelV y u):x=y:=zAe (r.abs.symm.trans q.abs)
theorem Vals.inj:∀{xs ys:List V} {us:List Value},Vals xs us->Vals ys us->xs=ys
 |_,_,_,.nil,.nil=>rfl
 |_,_,_,.cons r t,.cons r' t'=>by rw[r.inj r',Vals.inj t t']
section
variable{X:Cx}{iX:hZ}{Z:St}{H:Hp}{s:zAG}{a:Addr}{xs ys:List V}
def SqL.of{K:zAA}(h:H a=some (.lst xs)):SqL K H a xs:=.inl (.inl h)
def SqT.of{K:zAA}(h:H a=some (.tup xs)):SqT K H a xs:=.inl (.inl h)
def Inv.list(I:Inv X iX Z H s)(h:SqL X.K H a xs):∃its:List Value,Vals xs its/\PlainL s.heap a its.toArray/\xs.length<=zAO:=by
 rcases h with h|⟨o,its,n,hk,hc,hd,hs,hz,r⟩
 .obtain⟨z,its,n,r,e⟩:=h.ok I.hok
  exact⟨its,r,⟨_,n,e,rfl,rfl,rfl⟩,z⟩
 .refine⟨its.toList,r,⟨o,n,I.kIn a o hk,hc,hd,by simpa using hs⟩,?_⟩
  have e:=r.length;simp only[zB5]at e;lia
def Inv.tuple(I:Inv X iX Z H s)(h:SqT X.K H a xs):∃its:List Value,Vals xs its/\IsTup s.heap a its.toArray/\xs.length<=zAO:=by
 rcases h with h|⟨o,its,n,hk,hc,hd,hs,hz,r⟩
 .obtain⟨z,its,r,p⟩:=h.ok I.hok
  exact⟨its,r,p,z.1⟩
 .refine⟨its.toList,r,⟨o,I.kIn a o hk,hc,n,by simpa using hs⟩,?_⟩
  have e:=r.length;simp only[zB5]at e;lia
def Inv.list_inj(I:Inv X iX Z H s)(h:SqL X.K H a xs)(h':SqL X.K H a ys):xs=ys:=by
 obtain⟨its,r,⟨o,n,e,_,_,d⟩,_⟩:=I.list h;obtain⟨its',r',⟨o',n',e',_,_,d'⟩,_⟩:=I.list h';rw[e]at e';cases e';rw[d]at d';injection d' with d1 _
 have:its=its':=by simpa using congrArg zHf d1
 subst this;exact r.inj r'
def Inv.tuple_inj(I:Inv X iX Z H s)(h:SqT X.K H a xs)(h':SqT X.K H a ys):xs=ys:=by
 obtain⟨its,r,⟨o,e,_,n,d⟩,_⟩:=I.tuple h;obtain⟨its',r',⟨o',e',_,n',d'⟩,_⟩:=I.tuple h';rw[e]at e';cases e';rw[d]at d';injection d' with d1 _
 have:its=its':=by simpa using congrArg zHf d1
 subst this;exact r.inj r'
end
section
variable{X:Cx}{st:Stmt}{rest:List Stmt}{t u:TS}{e:Expr}{te:TE}{pos:Pos}
def aLQ:TS:=λ D Z H=>D.nx Z H
def aP3(t u:TS):TS:=λ D Z H=>t {D with nx:=u D} Z H
def aAy:PSs X [] aLQ:=λ _ _ Z H _ I h=>zEc ⟨Z,H,I,h⟩
def aCI(h1:PS X st t)(h2:PSs X rest u):PSs X (st::rest) (aP3 t u):=by
 intro iX s Z H D I h;refine wpAny_execs_cons (thn (h1 iX s Z H {D with nx:=u D} I h) λ f s1 q=>?_);cases f with
 |next=>
  obtain⟨Z',H',I',q⟩:=q;exact h2 iX s1 Z' H' D I' q
 |ret v=>exact q
 |brk=>exact q
 |cont=>exact q
def aET(h1:PS X st t):PSs X [st] t:=by
 intro iX s Z H D I h;refine wpAny_execs_cons (thn (h1 iX s Z H D I h) λ f s1 q=>?_);cases f with
 |next=>exact zEc q
 |ret v=>exact q
 |brk=>exact q
 |cont=>exact q
def Inv.quiet(I:Inv X iX Z H s):interactive X.env=false:=by simp[interactive,I.ok.kind]
def wM(te:TE):TS:=λ D Z H=>te Z H λ _ H1=>D.nx Z H1
def nG(he:PE X e te)(hs:zBv e none pos.line X.env=pure false:=by rfl):PS X (.Expr e pos) (wM te):=by
 intro iX s Z H D I h;exact wpAny_Expr_any (thn (he iX s Z H _ I h) λ v s1 ⟨x,H1,I1,r1,q1⟩=>⟨Z,H1,I1,q1⟩) I.quiet hs
def aP4(te:TE):TS:=λ D Z H=>te Z H D.rt
def aHF(he:PE X e te):PS X (.Return (some e) pos) (aP4 te):=by
 intro iX s Z H D I h;exact wpAny_Return_some (thn (he iX s Z H _ I h) λ v s1 ⟨x,H1,I1,r1,q1⟩=>⟨x,Z,H1,I1,r1,q1⟩)
def aOP(c:TT)(t u:TS):TS:=λ D Z H=>c Z H λ b H1=>if b=true then t D Z H1 else u D Z H1
def aHH(hc:PT X c tc)(ha:PSs X a t)(hb:PSs X b u):PS X (.If c a b pos) (aOP tc t u):=by
 intro iX s Z H D I h;refine wpAny_If (thn (hc iX s Z H _ I h) λ d s1 ⟨H1,I1,q1⟩=>?_);cases d with
 |true=>exact ha iX s1 Z H1 D I1 q1
 |false=>exact hb iX s1 Z H1 D I1 q1
end
abbrev TG:=V->St->Hp->(St->Hp->Prop)->Prop
abbrev TGs:=List V->St->Hp->(St->Hp->Prop)->Prop
def PG(X:Cx)(target:Expr)(t:TG):Prop:=
 ∀(iX:hZ) (s:zAG) (Z:St) (H:Hp) (v:V) (u:Value) (Q:St->Hp->Prop),Inv X iX Z H s->RelV v u->t v Z H Q->
  wpAny (model X.prog X.w) X.A (zEX target X.env u) (λ _ s'=>∃Z' H',Inv X iX Z' H' s'/\Q Z' H') X.xe s
def PGs(X:Cx)(ts:List Expr)(t:TGs):Prop:=
 ∀(iX:hZ) (s:zAG) (Z:St) (H:Hp) (vs:List V) (us:List Value) (Q:St->Hp->Prop),Inv X iX Z H s->Vals vs us->t vs Z H Q->
  wpAny (model X.prog X.w) X.A (assignInOrder ((zCd ts X.env).map (·.2)) us) (λ _ s'=>∃Z' H',Inv X iX Z' H' s'/\Q Z' H') X.xe s
abbrev aOF:=V->V->V->Hp->(Hp->Prop)->Prop
def aLG(X:Cx)(t:aOF):Prop:=
 ∀(iX:hZ) (s:zAG) (Z:St) (H:Hp) (o i v:V) (ov iv u:Value) (Q:Hp->Prop),Inv X iX Z H s->RelV o ov->RelV i iv->RelV v u->t o i v H Q->
  wpAny (model X.prog X.w) X.A (zGv ov iv u) (λ _ s'=>∃H',Inv X iX Z H' s'/\Q H') X.xe s
abbrev TIp:=V->V->Hp->VK->Prop
def PIp(X:Cx)(op:Operator)(t:TIp):Prop:=
 ∀(iX:hZ) (s:zAG) (Z:St) (H:Hp) (x y:V) (v u:Value) (Q:VK),Inv X iX Z H s->RelV x v->RelV y u->t x y H Q->
  wpAny (model X.prog X.w) X.A (inplaceOp op v u) (EP X iX Z Q) X.xe s
section
variable{X:Cx}{pos:Pos}
def vK(i:Nat):TG:=λ v Z H Q=>Q (Z.set i (some v)) H
def aJt(hN:X.N.Nodup)(hi:X.N[i]? =some x)(hx:Loc X.env.scope x)(hf:X.fn x=true\/X.env.scope.names.lookup x=some .local:=by first|exact .inl rfl|exact .inr rfl|assumption):PG X (.Name x pos) (vK i):=by
 intro iX s Z H v u Q I r h;exact zIM (aBl I hN hi hx r (λ s' I'=>⟨_,H,I',h⟩) hf)
def aNj:TGs:=λ vs Z H Q=>vs=[]/\Q Z H
def aIN(t:TG)(u:TGs):TGs:=λ vs Z H Q=>∃v r,vs=v::r/\t v Z H λ Z' H'=>u r Z' H' Q
def aJs:PGs X [] aNj:=by
 intro iX s Z H vs us Q I r h;obtain⟨e,h⟩:=h;subst e;cases r;exact assignInOrder_nil ⟨Z,H,I,h⟩
def aHN(h1:PG X e t)(h2:PGs X es u)
  (hs:(zCd (e::es) X.env).map (·.2)=zEX e X.env::(zCd es X.env).map (·.2):=by rfl):PGs X (e::es) (aIN t u):=by
 intro iX s Z H vs us Q I r h;obtain⟨v,vr,e1,h⟩:=h;subst e1;cases r with
 |cons r rr=>
  rw[hs];refine assignInOrder_cons (thn (h1 iX s Z H _ _ _ I r h) λ _ s1 ⟨Z1,H1,I1,q1⟩=>?_);exact h2 iX s1 Z1 H1 _ _ Q I1 rr q1
def aKm(K:zAA)(n:Nat)(t:TGs):TG:=λ v Z H Q=>∃a xs,v= .ref a/\SqT K H a xs/\xs.length=n/\t xs Z H Q
def aMf(hc:X.calm=true)(h:PGs X es t)
  (hn:(zCd es X.env).length=n:=by rfl)(hst:(zCd es X.env).findIdx? (·.1)=none:=by rfl):PG X (.Tuple es k pos) (aKm X.K n t):=by
 intro iX s Z H v u Q I r hw;obtain⟨a,xs,e1,hq,hl,hw⟩:=hw;subst e1;cases r;obtain⟨its,rv,ht,hz⟩:=I.tuple hq;refine assign_Tuple_tuple (I.ok.hd hc) ht (by simp[hn,<-hl,rv.length]) hst λ h' hx=>?_
 have I1:Inv X iX Z H {s with heap:=h'}:=I.kept (t':=s.toks) λ b o e=>hx b o (zA9 (zA2 e)) e
 exact h iX _ Z H xs _ Q I1 (by simpa using rv) hw
def aPE(to ti:TE)(t:aOF):TG:=λ v Z H Q=>to Z H λ o H1=>ti Z H1 λ i H2=>t o i v H2 λ H3=>Q Z H3
def aMg(ho:PE X o to)(hi:PE X i ti)(hs:aLG X t)
  (ha:∀v,zEX (.Subscript o i pos) X.env v=(do
   let ov <-zC5 [v] (eval o X.env);let iv <-zC5 [v,ov] (eval i X.env)
   zEw pos
   zC5 [v,ov,iv] (zGv ov iv v)
   release [v,ov,iv] []):=by intro _;rfl):PG X (.Subscript o i pos) (aPE to ti t):=by
 intro iX s Z H v u Q I r h;rw[ha];refine zAB (zBS (thn (ho iX s Z H _ I h) λ ov s1 ⟨x,H1,I1,r1,q1⟩=>?_));refine zAB (zBS (thn (hi iX s1 Z H1 _ I1 q1) λ iv s2 ⟨y,H2,I2,r2,q2⟩=>?_));refine zAB (zDe (zAB (zBS (thn (hs iX s2 Z H2 x y v ov iv u _ I2 r1 r2 r q2) λ _ s3 ⟨H3,I3,q3⟩=>?_))));exact wpAny_release ⟨Z,H3,I3,q3⟩
def aEx(te:TE)(g:TG):TS:=λ D Z H=>te Z H λ x H1=>g x Z H1 D.nx
def aMa(he:PE X e te)(hg:PG X tg g)(hs:swapsWithSole [tg] e pos.line X.env=pure false:=by rfl)(hw:swappedStores [tg] e X.env=pure none:=by rfl)
  (h1:(zCd [tg] X.env).map (·.2)=[zEX tg X.env]:=by rfl):PS X (.Assign [tg] e pos) (aEx te g):=by
 intro iX s Z H D I h;refine wpAny_Assign_stores (thn (he iX s Z H _ I h) λ v s1 ⟨x,H1,I1,r1,q1⟩=>?_) hs hw;rw[h1];exact thn (hg iX s1 Z H1 x v _ I1 r1 q1) λ _ s2 q=>q
def aHE(hN:X.N.Nodup)(hi:X.N[i]? =some x)(hx:Loc X.env.scope x)(he:PE X e te)(hs:zBv e (some (.Name x pos')) pos.line X.env=pure false:=by rfl)(hf:X.fn x=true\/X.env.scope.names.lookup x=some .local:=by first|exact .inl rfl|exact .inr rfl|assumption):
  PS X (.Assign [.Name x pos'] e pos) (aEx te (vK i)):=by
 intro iX s Z H D I h;refine wpAny_Assign_Name (thn (he iX s Z H _ I h) λ v s1 ⟨y,H1,I1,r1,q1⟩=>?_) hs;exact aBl I1 hN hi hx r1 (λ s2 I2=>⟨_,H1,I2,q1⟩) hf
def aLS(to ti te:TE)(tget:V->V->Hp->VK->Prop)(tip:TIp)(tset:aOF):TS:=λ D Z H=>to Z H λ o H1=>ti Z H1 λ i H2=>tget o i H2 λ x H3=>te Z H3 λ y H4=>tip x y H4 λ z H5=>tset o i z H5 λ H6=>D.nx Z H6
def aPT(X:Cx)(t:V->V->Hp->VK->Prop):Prop:=
 ∀(iX:hZ) (s:zAG) (Z:St) (H:Hp) (o i:V) (ov iv:Value) (Q:VK),Inv X iX Z H s->RelV o ov->RelV i iv->t o i H Q->
  wpAny (model X.prog X.w) X.A (zEU ov iv) (EP X iX Z Q) X.xe s
def aJm(ho:PE X o to)(hi:PE X i ti)(hg:aPT X tget)(he:PE X e te)(hp:PIp X op tip)(hs:aLG X tset)
  (ha:∀ov iv new,augStore i ov iv new=(do zC5 [new,ov,iv] (zGv ov iv new);release [new,ov,iv] [];pure .next):=by intros;rfl):PS X (.AugAssign (.Subscript o i tpos) op e pos) (aLS to ti te tget tip tset):=by
 intro iX s Z H D I h;refine wpAny_AugAssign_SubscriptAny (thn (ho iX s Z H _ I h) λ ov s1 ⟨x1,H1,I1,r1,q1⟩=>?_) ha;refine thn (hi iX s1 Z H1 _ I1 q1) λ iv s2 ⟨x2,H2,I2,r2,q2⟩=>?_
 refine thn (hg iX s2 Z H2 x1 x2 ov iv _ I2 r1 r2 q2) λ old s3 ⟨x3,H3,I3,r3,q3⟩=>?_
 refine thn (he iX s3 Z H3 _ I3 q3) λ v s4 ⟨x4,H4,I4,r4,q4⟩=>?_
 refine thn (hp iX s4 Z H4 x3 x4 old v _ I4 r3 r4 q4) λ new s5 ⟨x5,H5,I5,r5,q5⟩=>?_
 exact thn (hs iX s5 Z H5 x1 x2 x5 ov iv new _ I5 r1 r2 r5 q5) λ _ s6 ⟨H6,I6,q6⟩=>⟨Z,H6,I6,q6⟩
def ipI(f:Int->Int->Int):TIp:=λ x y H Q=>∃i j,x= .int i/\y= .int j/\Q (.int (f i j)) H
def aNe:PIp X .Sub (ipI λ i j=>i-j):=by
 intro iX s Z H x y v u Q I r1 r2 h;obtain⟨i,j,e1,e2,q⟩:=h;subst e1;subst e2;obtain⟨t,rfl⟩:=r1;obtain⟨t',rfl⟩:=r2;exact isub_int ⟨.int _,H,I.tok _,⟨_,rfl⟩,q⟩
end
section
variable{X:Cx}{pos:Pos}
def aME(c:TT)(tb:TS):TS:=λ D Z H=>∃W:Nat->St->Hp->Prop,(∃m,W m Z H)/\∀m Z H,W m Z H->
 c Z H λ b H1=>if b=true then∃N:St->Hp->Prop,(∀Z' H',N Z' H'->∃m',m'<m/\W m' Z' H')/\tb {D with nx:=N,ct:=N,bk:=D.nx} Z H1 else D.nx Z H1
def aHD(hp:zHU (model X.prog X.w) X.A X.env X.xe)(hc:PT X c tc)(hb:PSs X body tb):PS X (.While c body [] pos) (aME tc tb):=by
 intro iX s Z H D I h;obtain⟨W,⟨m0,w0⟩,turn⟩:=h;refine wpAny_While (codeAny_whileLoop (λ n s'=>∃Z' H',Inv X iX Z' H' s'/\W n Z' H') ?_ m0 ⟨Z,H,I,w0⟩);rintro n s1 ⟨Z1,H1,I1,w1⟩;refine zC7 hp (thn (hc iX s1 Z1 H1 _ I1 (turn n Z1 H1 w1)) λ b s2 ⟨H2,I2,q2⟩=>?_);cases b with
 |true=>
  obtain⟨N,hN,q2⟩:=q2;rw[if_pos rfl];refine zC7 hp (thn (hb iX s2 Z1 H2 _ I2 q2) λ f s3 q3=>?_);cases f with
  |next=>
   obtain⟨Z3,H3,I3,n3⟩:=q3;obtain⟨m',hm,w3⟩:=hN Z3 H3 n3;exact⟨m',hm,Z3,H3,I3,w3⟩
  |cont=>
   obtain⟨Z3,H3,I3,n3⟩:=q3;obtain⟨m',hm,w3⟩:=hN Z3 H3 n3;exact⟨m',hm,Z3,H3,I3,w3⟩
  |brk=>exact q3
  |ret v=>exact q3
 |false=>
  rw[if_neg zAU];exact zEc ⟨Z1,H2,I2,q2⟩
end
structure It where
 go:Nat->Hp->Prop
 yld:Nat->Hp->V->Hp->Prop
 stop:Nat->Hp->Prop
def uG(X:Cx)(iX:hZ)(H:Hp)(b:Addr):Prop:=
 H b=none/\b≠X.env.locals/\b∉X.fs/\(b∈X.ex\/X.z5.heap.objs.size<=b)/\(∀x c,X.env.cells.lookup x=some c->c≠b)/\∀p∈X.ta++(X.pn++iX),p.1≠b
def Inv.fpOk(I:Inv X iX Z H s)(hb:s.heap.objs.size<=b)(hn:H' b=none):uG X iX H' b:=by
 refine⟨hn,zBr (zA4 I.lt hb),I.nofs hb,.inr (zAh I.sz hb),λ x c e z=>?_,λ p hp z=>?_⟩
 .obtain⟨v,q⟩:=I.cell x c e
  exact absurd (zA4 q.lt (by rw[z];exact hb)) (zBF _)
 .exact absurd (zA4 (I.pinL hp) (by rw[z];exact hb)) (zBF _)
structure Turn(P:zAY)(w:World)(K:zAA)(tg:Expr)(J:It)(fp:List Addr)(it:Addr)(tn:Nat->Heap->Prop):Prop where
 mem:it∈fp
 obj:∀i h,tn i h->∀b∈fp,∃o,h.get? b=some o/\∀v,o.data≠.cell v
 keep:∀i h h',tn i h->(∀b∈fp,∀o,h.get? b=some o->h'.get? b=some o)->tn i h'
 item:∀(X:Cx),X.prog=P->X.w=w->X.K=K->X.calm=true->∀(i:Nat) (iX:hZ) (s:zAG) (Z:St) (H:Hp) (E:Value->zAG->Prop),Inv X iX Z H s->(∀b∈fp,uG X iX H b)->tn i s.heap->J.go i H->
  wpAny (model P w) X.A (zEb (.ref it)) (λ r s1=>∃u,r=some u/\
   wpAny (model P w) X.A (zDD tg (.ref it) u) (λ _ s2=>∃x H',Inv X iX Z H' s2/\RelV x u/\J.yld i H x H'/\tn (i+1) s2.heap/\∀b∈fp,H' b=none) E s1) E s
 done:∀(X:Cx),X.prog=P->X.w=w->X.K=K->X.calm=true->∀(i:Nat) (iX:hZ) (s:zAG) (Z:St) (H:Hp) (E:Value->zAG->Prop),Inv X iX Z H s->(∀b∈fp,uG X iX H b)->tn i s.heap->J.stop i H->
  wpAny (model P w) X.A (zEb (.ref it)) (λ r s1=>r=none/\Inv X iX Z H s1) E s
 self:∀(A:zAc) (i:Nat) (s:zAG) (Q:Value->zAG->Prop) (E:Value->zAG->Prop),tn i s.heap->Q (.ref it) s->wpAny (model P w) A (zGj (.ref it)) Q E s
abbrev TI:=St->Hp->(It->Hp->Prop)->Prop
def PIE(X:Cx)(iX:hZ)(Z:St)(tg:Expr)(R:It->Hp->Prop)(itv:Value)(s2:zAG):Prop:=
 ∃(it:Addr) (fp:List Addr) (tn:Nat->Heap->Prop) (J:It) (H':Hp),itv= .ref it/\Inv X iX Z H' s2/\Turn X.prog X.w X.K tg J fp it tn/\tn 0 s2.heap/\(∀b∈fp,uG X iX H' b)/\R J H'
def PI(X:Cx)(tg iter:Expr)(wi:TI):Prop:=
 ∀(iX:hZ) (s:zAG) (Z:St) (H:Hp) (R:It->Hp->Prop),Inv X iX Z H s->wi Z H R->
  wpAny (model X.prog X.w) X.A (eval iter X.env) (λ v s1=>wpAny (model X.prog X.w) X.A (zGj v) (PIE X iX Z tg R) X.xe s1) X.xe s
def aIJ(ho:s.heap.get? it=some o)(hc:o.cls= .type n)(hd:o.data= .fields vs)
    (hn:["enumerate","zip","dict_itemiterator","dict_reverseitemiterator","odict_iterator","itertools.zip_longest","itertools.pairwise"].contains n=false)(hQ:Q () s):wpAny M A (zDD tg (.ref it) u) Q E s:=by
  unfold zDD;cases tg<;>first
    |exact zAH hQ
    | (cases u <;> first
        |exact zAH hQ
        | (refine zAB (zIN ho ?_)
           rw[hc,hd];show wpAny M A (if (["enumerate","zip","dict_itemiterator","dict_reverseitemiterator","odict_iterator","itertools.zip_longest","itertools.pairwise"].contains n&&vs[0]? ==some (zGG _))=true then _ else _) Q E s;rw[if_neg (by intro h;rw[hn,Bool.false_and]at h;cases h)];exact zAH hQ))
def Itl(K:zAA)(a:Addr):It:=
 ⟨λ i H=>∃xs x,SqL K H a xs/\xs[i]? =some x,λ i H x H'=>H'=H/\∀xs,SqL K H a xs->xs[i]? =some x,λ i H=>∃xs,SqL K H a xs/\xs.length<=i⟩
def Itt(K:zAA)(a:Addr):It:=
 ⟨λ i H=>∃xs x,SqT K H a xs/\xs[i]? =some x,λ i H x H'=>H'=H/\∀xs,SqT K H a xs->xs[i]? =some x,λ i H=>∃xs,SqT K H a xs/\xs.length<=i⟩
def Itr(lo:Int)(n:Nat):It:=⟨λ i _=>i<n,λ i H x H'=>H'=H/\x= .int (lo+i),λ i _=>n<=i⟩
def aEv{P:zAY}{w:World}{K:zAA}{tg:Expr}(a it:Addr):Turn P w K tg (Itl K a) [it] it (λ i h=>h.IsListIter it a i) where
 mem:=by simp
 obj:=λ i h st b hb=>by
  have e:b=it:=by simpa using hb
  subst e;obtain⟨o,e,c,d⟩:=st;exact⟨o,e,λ v z=>by rw[d]at z;cases z⟩
 keep:=λ i h h' st k=>st.at λ o e=>k it (by simp) o e
 item:=by
  intro X hP hw hK hc i iX s Z H E I hf st hg;subst hP hw hK;obtain⟨xs,x,hq,hx⟩:=hg;obtain⟨its,rv,p,hz⟩:=I.list hq;obtain⟨u,hu,ru⟩:=rv.get hx;obtain⟨f0,f1,f2,f3,f4,f5⟩:=hf it (by simp);refine wpAny_pyNext_list_item st p.isList (x:=u) (by simpa using hu) λ h' st' sb=>?_
  have I1:Inv X iX Z H {s with heap:=h'}:=I.turned (t':=s.toks) (λ b o hb e=>(sb.2 b hb).trans e) f0 f1 f3 f4 f5;obtain⟨o,e,c,d⟩:=id st';exact⟨u,rfl,aIJ (s:={s with heap:=h'}) e c d (by decide) ⟨x,H,I1,ru,⟨rfl,λ ys hy=>by rw[I.list_inj hy hq];exact hx⟩,st',λ b hb=>(hf b hb).1⟩⟩
 done:=by
  intro X hP hw hK hc i iX s Z H E I hf st hg;subst hP hw hK;obtain⟨xs,hq,hx⟩:=hg;obtain⟨its,rv,p,hz⟩:=I.list hq;obtain⟨f0,f1,f2,f3,f4,f5⟩:=hf it (by simp);have hl:=rv.length;exact wpAny_pyNext_list_end (I.ok.hd hc) st p.isList (by simp;lia) λ h' eb=>⟨rfl,I.turned (t':=s.toks) (λ b o hb e=>eb b o hb e) f0 f1 f3 f4 f5⟩
 self:=λ _ _ _ _ _ st h=>wpAny_pyIter_listiter st h
def aCw{P:zAY}{w:World}{K:zAA}{tg:Expr}(a it:Addr):Turn P w K tg (Itt K a) [it] it (λ i h=>h.IsTupleIter it a i) where
 mem:=by simp
 obj:=λ i h st b hb=>by
  have e:b=it:=by simpa using hb
  subst e;obtain⟨o,e,c,d⟩:=st;exact⟨o,e,λ v z=>by rw[d]at z;cases z⟩
 keep:=λ i h h' st k=>st.at λ o e=>k it (by simp) o e
 item:=by
  intro X hP hw hK hc i iX s Z H E I hf st hg;subst hP hw hK;obtain⟨xs,x,hq,hx⟩:=hg;obtain⟨its,rv,p,hz⟩:=I.tuple hq;obtain⟨u,hu,ru⟩:=rv.get hx;obtain⟨f0,f1,f2,f3,f4,f5⟩:=hf it (by simp);refine wpAny_pyNext_tuple_item st (show s.heap.IsTuple a its.toArray from p) (x:=u) (by simpa using hu) λ h' st' sb=>?_
  have I1:Inv X iX Z H {s with heap:=h'}:=I.turned (t':=s.toks) (λ b o hb e=>(sb.2 b hb).trans e) f0 f1 f3 f4 f5;obtain⟨o,e,c,d⟩:=id st';exact⟨u,rfl,aIJ (s:={s with heap:=h'}) e c d (by decide) ⟨x,H,I1,ru,⟨rfl,λ ys hy=>by rw[I.tuple_inj hy hq];exact hx⟩,st',λ b hb=>(hf b hb).1⟩⟩
 done:=by
  intro X hP hw hK hc i iX s Z H E I hf st hg;subst hP hw hK;obtain⟨xs,hq,hx⟩:=hg;obtain⟨its,rv,p,hz⟩:=I.tuple hq;obtain⟨f0,f1,f2,f3,f4,f5⟩:=hf it (by simp);have hl:=rv.length;exact wpAny_pyNext_tuple_end (I.ok.hd hc) st (show s.heap.IsTuple a its.toArray from p) (by simp;lia) λ h' eb=>⟨rfl,I.turned (t':=s.toks) (λ b o hb e=>eb b o hb e) f0 f1 f3 f4 f5⟩
 self:=λ _ _ _ _ _ st h=>wpAny_pyIter_tupleiter st h
def aCx{P:zAY}{w:World}{K:zAA}{tg:Expr}(it:Addr)(lo:Int)(n:Nat):Turn P w K tg (Itr lo n) [it] it (λ i h=>IsRangeIter h it (lo+(i:Nat)*1) ((n:Int)-(i:Nat)) 1) where
 mem:=by simp
 obj:=λ i h st b hb=>by
  have e:b=it:=by simpa using hb
  subst e;exact⟨_,st,λ v z=>by
   have z':Data.fields _=Data.cell v:=z;cases z'⟩
 keep:=λ i h h' st k=>k it (by simp) _ st
 item:=by
  intro X hP hw hK hc i iX s Z H E I hf st hg;subst hP hw hK;obtain⟨f0,f1,f2,f3,f4,f5⟩:=hf it (by simp);have W:=Walks.range (prog:=X.prog) (w:=X.w) (I.ok.hd hc) it lo 1 n;refine W.item i s _ _ hg st λ v h' tk hv st' kk=>?_
  obtain⟨t,rfl⟩:=hv;have I1:Inv X iX Z H {s with heap:=h',toks:=tk}:=I.turned (λ b o hb e=>kk b o (by simpa using hb) e) f0 f1 f3 f4 f5;refine⟨_,rfl,aIJ (s:={s with heap:=h',toks:=tk}) (n:="range_iterator") st' rfl rfl (by decide) ⟨.int (lo+i),H,I1,⟨t,?_⟩,⟨rfl,rfl⟩,st',λ b hb=>(hf b hb).1⟩⟩;rw[Int.mul_one]
 done:=by
  intro X hP hw hK hc i iX s Z H E I hf st hg;subst hP hw hK;obtain⟨f0,f1,f2,f3,f4,f5⟩:=hf it (by simp);exact wpAny_pyNext_range_end (I.ok.hd hc) st (by have:n<=i:=hg;lia) λ h' eb=>⟨rfl,I.turned (t':=s.toks) (λ b o hb e=>eb b o hb e) f0 f1 f3 f4 f5⟩
 self:=λ _ _ _ _ _ st h=>wpAny_pyIter_rangeiter st h
section
variable{X:Cx}{tg:Expr}
def aCE{iX:hZ}{Z:St}{H:Hp}{s:zAG}{R:It->Hp->Prop}{E:Value->zAG->Prop}{lo hi:Int}{t u v:Tok}{tk:Nat}(I:Inv X iX Z H s)(h1: -(2^62)<=lo)(h2:lo<2^62)(h3: -(2^62)<=hi)(h4:hi<2^62)
  (q:R (Itr lo (hi-lo).toNat) H):wpAny (model X.prog X.w) X.A (zGj (.ref s.heap.objs.size)) (PIE X iX Z tg R) E {s with heap:=s.heap.push {cls:=.type "range",data:=.fields #[.int lo t,.int hi u,.int 1 v]},toks:=tk}:=by
 refine wpAny_pyIter_range (IsRange.new ..) (small_one h1 h2 h3 h4) ?_;have I1:Inv X iX Z H {s with heap:=s.heap.push {cls:=.type "range",data:=.fields #[.int lo t,.int hi u,.int 1 v]},toks:=tk}:=I.kept λ b o e=>zAC _ e
 refine⟨(s.heap.push {cls:=.type "range",data:=.fields #[.int lo t,.int hi u,.int 1 v]}).objs.size,[(s.heap.push {cls:=.type "range",data:=.fields #[.int lo t,.int hi u,.int 1 v]}).objs.size],_,_,H,rfl,
  I1.kept (t':=tk) λ b o e=>zAC _ e,aCx _ lo (hi-lo).toNat,?_,λ b hb=>?_,q⟩
 .have e1:lo+((0:Nat):Int)*1=lo:=by simp
  have e2:(((hi-lo).toNat:Nat):Int)-((0:Nat):Int)=zBE lo hi 1:=by rw[rangeSize_one];split<;>lia
  show IsRangeIter _ _ (lo+((0:Nat):Int)*1) ((((hi-lo).toNat:Nat):Int)-((0:Nat):Int)) 1;rw[e1,e2];exact zAN _ rfl
 .have e:b=(s.heap.push {cls:=.type "range",data:=.fields #[.int lo t,.int hi u,.int 1 v]}).objs.size:=by simpa using hb
  subst e;exact I1.fpOk (zAV _) (I1.hok.fresh (zAV _))
def aPB(ta:TA):TI:=λ Z H R=>ta Z H λ vs H1=>∃j:Int,vs=[.int j]/\-(2^62)<=j/\j<2^62/\R (Itr 0 j.toNat) H1
def aPA(ta:TA):TI:=λ Z H R=>ta Z H λ vs H1=>∃i j:Int,vs=[.int i,.int j]/\(-(2^62)<=i/\i<2^62/\-(2^62)<=j/\j<2^62)/\R (Itr i (j-i).toNat) H1
def aFU{a:Expr}{ta:TA}{p pos:Pos}(hg:Gl X "range")(hm:X.mg "range"=none)(ha:PA X [a] ta)(hs:zAT [a] X.env=[(false,eval a X.env)]:=by rfl):PI X tg (.Call (.Name "range" p) [a] [] pos) (aPB ta):=by
 intro iX s Z H R I h;refine Call_ (xr I hg hm zGi (zCx (thn (ha pos iX s Z H _ I h) λ us s1 ⟨vs,H1,I1,r1,q1⟩=>?_) hs rfl));obtain⟨j,e,q1,q2,q⟩:=q1;subst e;cases r1 with
 |cons r rr=>
  cases rr;obtain⟨t,rfl⟩:=r;exact call_range_1 (aCE I1 (by lia) (by lia) q1 q2 (by simpa using q))
def aFT(hg:Gl X "range")(hm:X.mg "range"=none)(ha:PA X [a,b] ta)(hs:zAT [a,b] X.env=[(false,eval a X.env),(false,eval b X.env)]:=by rfl)(hs2:zAT [b] X.env=[(false,eval b X.env)]:=by rfl):
  PI X tg (.Call (.Name "range" p) [a,b] [] pos) (aPA ta):=by
 intro iX s Z H R I h;refine Call_ (xr I hg hm zGi (zCx (thn (ha pos iX s Z H _ I h) λ us s1 ⟨vs,H1,I1,r1,q1⟩=>?_) (by rw[hs,hs2]) (by rw[hs2];rfl)));obtain⟨i,j,e,⟨q1,q2,q3,q4⟩,q⟩:=q1;subst e;cases r1 with
 |cons r rr=>
  cases rr with
  |cons r' rr=>
   cases rr;obtain⟨t,rfl⟩:=r;obtain⟨t',rfl⟩:=r';exact call_range_2 (aCE I1 q1 q2 q3 q4 q)
def aP8(wi:TI)(g:TG)(tb:TS):TS:=λ D Z H=>wi Z H λ J H1=>∃W:Nat->Nat->St->Hp->Prop,(∃m,W 0 m Z H1)/\∀i m Z H,W i m Z H->
 (J.stop i H/\D.nx Z H)\/(J.go i H/\∃N:St->Hp->Prop,(∀Z' H',N Z' H'->∃m',m'<m/\W (i+1) m' Z' H')/\∀x H',J.yld i H x H'->g x Z H' λ Z2 H2=>tb {D with nx:=N,ct:=N,bk:=D.nx} Z2 H2)
def uZ(fp:List Addr)(h:Heap):hZ:=fp.filterMap λ b=>(h.get? b).map λ o=>(b,o)
def nH(hb:b∈fp)(e:h.get? b=some o):(b,o)∈uZ fp h:=zCQ.mpr ⟨b,hb,by rw[e];rfl⟩
def aAJ(hp:p∈uZ fp h):p.1∈fp/\h.get? p.1=some p.2:=by
 obtain⟨b,hb,e⟩:=zCQ.mp hp;cases q:h.get? b with
 |none=>rw[q]at e;cases e
 |some o=>
  rw[q]at e;have e':(b,o)=p:=zAe e;subst e';exact⟨hb,q⟩
def Inv.pinned(I:Inv X iX Z H s)(hf:∀b∈fp,uG X iX H b)(ho:∀b∈fp,∃o,s.heap.get? b=some o/\∀v,o.data≠.cell v):Inv X (iX++uZ fp s.heap) Z H s:=
 I.pins_of (λ p hp=>(zAX.mp hp).elim (λ z=>I.pin p (zA3 _ z)) λ z=>by
  obtain⟨hb,e⟩:=aAJ z;obtain⟨f0,f1,f2,_⟩:=hf p.1 hb;obtain⟨o,e',d⟩:=ho p.1 hb;rw[e]at e';cases e';exact⟨e,f0,f1,f2,d⟩) λ q hq p hp=>(zAX.mp hq).elim (λ z=>(I.tab p hp).2.2.2.1 q (zA3 _ z)) λ z=>((hf q.1 (aAJ z).1).2.2.2.2.2 p (zA5 _ hp)).symm
def Inv.unpinned(I:Inv X (iX++pl) Z H s):Inv X iX Z H s:=I.pins_of (λ p hp=>I.pin p (zA3 _ (zA5 _ hp))) λ q hq p hp=>(I.tab p hp).2.2.2.1 q (zA3 _ (zA5 _ hq))
def aHI(hp:zHU (model X.prog X.w) X.A X.env X.xe)(hc:X.calm=true)(hi:PI X tg iter wi)(hg:PG X tg g)(hb:PSs X body tb)
  (hs:∀x,zBV iter X.env x=pure x:=by intro _;rfl):PS X (.For tg iter body [] pos) (aP8 wi g tb):=by
 intro iX s Z H D I h;refine wpAny_For (thn (hi iX s Z H _ I h) λ v s1 h1=>thn h1 λ itv s2 h2=>?_) hs;obtain⟨it,fp,tn,J,H2,e,I2,T,st2,f2,W,⟨m0,w0⟩,turn⟩:=h2;subst e;have qV:∀{H':Hp},(∀b∈fp,H' b=none)->∀b∈fp,uG X iX H' b:=λ hn b hb=>⟨hn b hb,(f2 b hb).2⟩
 refine codeAny_forLoop_any (λ n s'=>∃i Z' H',Inv X iX Z' H' s'/\tn i s'.heap/\(∀b∈fp,H' b=none)/\W i n Z' H') ?_ m0 ⟨0,Z,H2,I2,st2,λ b hb=>(f2 b hb).1,w0⟩;rintro n s3 ⟨i,Z3,H3,I3,st3,fr3,w3⟩;rcases turn i n Z3 H3 w3 with ⟨stop,qn⟩|⟨go,N,hN,step⟩
 .refine zC7 hp (thn (T.done X rfl rfl rfl hc i iX s3 Z3 H3 X.xe I3 (qV fr3) st3 stop) λ r s4 ⟨hr,I4⟩=>?_)
  subst hr;exact zEc ⟨Z3,H3,I4,qn⟩
 .refine zC7 hp (thn (T.item X rfl rfl rfl hc i iX s3 Z3 H3 X.xe I3 (qV fr3) st3 go) λ r s4 ⟨u,hr,h4⟩=>?_)
  subst hr;refine zC7 hp (thn h4 λ _ s5 ⟨x,H5,I5,r5,y5,st5,fr5⟩=>?_);have I5':=I5.pinned (qV fr5) (T.obj _ _ st5);refine zC7 hp (thn (hg _ s5 Z3 H5 x u _ I5' r5 (step x H5 y5)) λ _ s6 ⟨Z6,H6,I6,q6⟩=>?_);refine zC7 hp (thn (hb _ s6 Z6 H6 _ I6 q6) λ f s7 q7=>?_);have again:∀{Z7:St} {H7:Hp},Inv X (iX++uZ fp s5.heap) Z7 H7 s7->N Z7 H7->∃m,m<n/\∃i Z' H',Inv X iX Z' H' s7/\tn i s7.heap/\(∀b∈fp,H' b=none)/\W i m Z' H':=λ{Z7 H7} I7 n7=>by
   obtain⟨m',hm,w7⟩:=hN Z7 H7 n7;refine⟨m',hm,i+1,Z7,H7,I7.unpinned,T.keep _ _ _ st5 λ b hb o e=>(I7.pin (b,o) (zA3 _ (zA3 _ (nH hb e)))).1,λ b hb=>?_,w7⟩;obtain⟨o,e,d⟩:=T.obj _ _ st5 b hb;exact(I7.pin (b,o) (zA3 _ (zA3 _ (nH hb e)))).2.1
  cases f with
  |next=>obtain⟨Z7,H7,I7,n7⟩:=q7;exact again I7 n7
  |cont=>obtain⟨Z7,H7,I7,n7⟩:=q7;exact again I7 n7
  |brk=>obtain⟨Z7,H7,I7,q7⟩:=q7;exact⟨Z7,H7,I7.unpinned,q7⟩
  |ret v=>obtain⟨x7,Z7,H7,I7,r7,q7⟩:=q7;exact⟨x7,Z7,H7,I7.unpinned,r7,q7⟩
end
abbrev R2:=V->V->Hp->VK->Prop
def OpR(X:Cx)(f:Value->Value->Sem Value)(r:R2):Prop:=
 ∀(iX:hZ) (s:zAG) (Z:St) (H:Hp) (x y:V) (v u:Value) (Q:VK),Inv X iX Z H s->RelV x v->RelV y u->r x y H Q->
  wpAny (model X.prog X.w) X.A (f v u) (EP X iX Z Q) X.xe s
def UnR(X:Cx)(f:Value->Sem Value)(r:V->Hp->VK->Prop):Prop:=
 ∀(iX:hZ) (s:zAG) (Z:St) (H:Hp) (x:V) (v:Value) (Q:VK),Inv X iX Z H s->RelV x v->r x H Q->
  wpAny (model X.prog X.w) X.A (f v) (EP X iX Z Q) X.xe s
def cZ(X:Cx)(f:Value)(r:List V->Hp->VK->Prop):Prop:=
 ∀(iX:hZ) (s:zAG) (Z:St) (H:Hp) (xs:List V) (us:List Value) (Q:VK),Inv X iX Z H s->Vals xs us->r xs H Q->
  wpAny (model X.prog X.w) X.A (call f us) (EP X iX Z Q) X.xe s
def aPk(X:Cx)(r:V->Hp->(Bool->Hp->Prop)->Prop):Prop:=
 ∀(iX:hZ) (s:zAG) (Z:St) (H:Hp) (x:V) (v:Value) (Q:Bool->Hp->Prop),Inv X iX Z H s->RelV x v->r x H Q->
  wpAny (model X.prog X.w) X.A (truthy v) (TP X iX Z Q) X.xe s
def tOp(r:R2)(ta tb:TE):TE:=λ Z H Q=>ta Z H λ x H1=>tb Z H1 λ y H2=>r x y H2 Q
def tUn(r:V->Hp->VK->Prop)(ta:TE):TE:=λ Z H Q=>ta Z H λ x H1=>r x H1 Q
def rI(C:Int->Int->Prop)(g:Int->Int->V):R2:=λ x y H Q=>∃i j,x= .int i/\y= .int j/\C i j/\Q (g i j) H
def rI0(g:Int->Int->V):R2:=λ x y H Q=>∃i j,x= .int i/\y= .int j/\Q (g i j) H
def rU(g:Int->V):V->Hp->VK->Prop:=λ x H Q=>∃i,x= .int i/\Q (g i) H
section
variable{X:Cx}{a b:Expr}{ta tb:TE}{pos:Pos}
def aNy(ha:PE X a ta)(hb:PE X b tb){iX:hZ}{s:zAG}{Z:St}{H:Hp}{R:V->V->Hp->Prop}(I:Inv X iX Z H s)
  (h:ta Z H λ x H1=>tb Z H1 λ y H2=>R x y H2){Q:Value->zAG->Prop}{f:Value->Value->Sem Value}
  (hf:∀v u s2 x y H2,Inv X iX Z H2 s2->RelV x v->RelV y u->R x y H2->wpAny (model X.prog X.w) X.A (f v u) Q X.xe s2):
  wpAny (model X.prog X.w) X.A (eval a X.env) (λ v zI=>wpAny (model X.prog X.w) X.A (eval b X.env) (λ u z4=>wpAny (model X.prog X.w) X.A (f v u) Q X.xe z4) X.xe zI) X.xe s:=by
 refine thn (ha iX s Z H _ I h) λ v s1 ⟨x,H1,I1,r1,q1⟩=>?_
 refine thn (hb iX s1 Z H1 _ I1 q1) λ u s2 ⟨y,H2,I2,r2,q2⟩=>?_
 exact hf v u s2 x y H2 I2 r1 r2 q2
def aOf{op:Operator}{r:R2}(ho:OpR X (zCG op) r)(ha:PE X a ta)(hb:PE X b tb):PE X (.BinOp a op b pos) (tOp r ta tb):=by
 intro iX s Z H Q I h;exact wpAny_BinOp (aNy ha hb I h λ v u s2 x y H2 I2 rx ry q=>ho iX s2 Z H2 x y v u Q I2 rx ry q)
def aOe(ho:UnR X (unaryOp op) r)(ha:PE X a ta):PE X (.UnaryOp op a pos) (tUn r ta):=by
 intro iX s Z H Q I h;exact UnaryOp_ (thn (ha iX s Z H _ I h) λ v s1 ⟨x,H1,I1,r1,q1⟩=>ho iX s1 Z H1 x v Q I1 r1 q1)
def opI{f:Value->Value->Sem Value}{C:Int->Int->Prop}{g:Int->Int->Int}
  (rule:∀(i j:Int) (t u:Tok) (s:zAG) (Q:Value->zAG->Prop) (E:Value->zAG->Prop),C i j->Q (.int (g i j) s.toks) {s with toks:=s.toks+1}->wpAny (model X.prog X.w) X.A (f (.int i t) (.int j u)) Q E s):
  OpR X f (rI C λ i j=>.int (g i j)):=by
 intro iX s Z H x y v u Q I rx ry h;obtain⟨i,j,rfl,rfl,hc,q⟩:=h;obtain⟨t,rfl⟩:=rx;obtain⟨t',rfl⟩:=ry;exact rule i j t t' s _ _ hc ⟨.int (g i j),H,I.tok _,⟨_,rfl⟩,q⟩
def aOp{f:Value->Value->Sem Value}{g:Int->Int->Int}
  (rule:∀(i j:Int) (t u:Tok) (s:zAG) (Q:Value->zAG->Prop) (E:Value->zAG->Prop),Q (.int (g i j) s.toks) {s with toks:=s.toks+1}->wpAny (model X.prog X.w) X.A (f (.int i t) (.int j u)) Q E s):
  OpR X f (rI0 λ i j=>.int (g i j)):=by
 intro iX s Z H x y v u Q I rx ry h;obtain⟨i,j,rfl,rfl,q⟩:=h;obtain⟨t,rfl⟩:=rx;obtain⟨t',rfl⟩:=ry;exact rule i j t t' s _ _ ⟨.int (g i j),H,I.tok _,⟨_,rfl⟩,q⟩
def aNM{f:Value->Value->Sem Value}{g:Int->Int->Bool}
  (rule:∀(i j:Int) (t u:Tok) (s:zAG) (Q:Value->zAG->Prop) (E:Value->zAG->Prop),Q (.bool (g i j)) s->wpAny (model X.prog X.w) X.A (f (.int i t) (.int j u)) Q E s):
  OpR X f (rI0 λ i j=>.bl (g i j)):=by
 intro iX s Z H x y v u Q I rx ry h;obtain⟨i,j,rfl,rfl,q⟩:=h;obtain⟨t,rfl⟩:=rx;obtain⟨t',rfl⟩:=ry;exact rule i j t t' s _ _ ⟨.bl (g i j),H,I,rfl,q⟩
def aPZ(i j:Int):Prop:=0<j/\j<1073741824
def aPr(i j:Int):Prop:=0<=j/\j<=1000000/\i.natAbs<2^64
def aLM(i j:Int):Prop:=(-(2^64)<i/\i<2^64)\/(-(2^64)<j/\j<2^64)
def aLM.ok(h:aLM i j):IntMulOk i j:=by
 rcases h with ⟨h1,h2⟩|⟨h1,h2⟩
 .exact .of_left (intBits_le_64 h1 h2)
 .exact .of_right (intBits_le_64 h1 h2)
def aNL:OpR X (zCG .Add) (rI0 λ i j=>.int (i+j)):=aOp λ _ _ _ _ _ _ _ q=>add_int q
def aMv:OpR X (zCG .Sub) (rI0 λ i j=>.int (i-j)):=aOp λ _ _ _ _ _ _ _ q=>sub_int q
def aMz:OpR X (zCG .Mult) (rI aLM λ i j=>.int (i*j)):=opI λ _ _ _ _ _ _ _ hc q=>mul_int q hc.ok
def aKF:OpR X (zCG .FloorDiv) (rI aPZ λ i j=>.int (i / j)):=opI λ i j _ _ _ _ _ hc q=>by
 have h1:(0:Int)<j:=hc.1;have h2:j<1073741824:=hc.2;exact floordiv_int (by lia) (by rw[Int.fdiv_eq_ediv_of_nonneg i (by lia)];exact q) (.inl (PyProof.noPylong_small (by lia)))
def aNA:OpR X (zCG .Mod) (rI (λ _ j=>0<j) λ i j=>.int (i%j)):=opI λ i j _ _ _ _ _ hc q=>by
 have h1:(0:Int)<j:=hc;exact mod_int' (by lia) (by rw[Int.fmod_eq_emod_of_nonneg i (by lia)];exact q)
def aMx:OpR X (zCG .Pow) (rI aPr λ i j=>.int (i^j.toNat)):=opI λ _ _ _ _ _ _ _ hc q=>pow_int_small hc.1 hc.2.1 hc.2.2 q
def unI{f:Value->Sem Value}{g:Int->Int}
  (rule:∀(i:Int) (t:Tok) (s:zAG) (Q:Value->zAG->Prop) (E:Value->zAG->Prop),Q (.int (g i) s.toks) {s with toks:=s.toks+1}->wpAny (model X.prog X.w) X.A (f (.int i t)) Q E s):
  UnR X f (rU λ i=>.int (g i)):=by
 intro iX s Z H x v Q I rx h;obtain⟨i,rfl,q⟩:=h;obtain⟨t,rfl⟩:=rx;exact rule i t s _ _ ⟨.int (g i),H,I.tok _,⟨_,rfl⟩,q⟩
def aLx:UnR X (unaryOp .USub) (rU λ i=>.int (-i)):=unI λ _ _ _ _ _ q=>neg_int q
end
section
variable{X:Cx}{a b c:Expr}{ta tb tc:TE}{pos:Pos}
def aIV(I:Inv X iX Z H s)(q:Q (.bl k) H)(e:k=k'):EP X iX Z Q (.bool k') s:=by
 subst e;exact⟨.bl k,H,I,rfl,q⟩
def aOm:OpR X (zAm .Lt) (rI0 λ i j=>.bl (decide (i<j))):=aNM λ _ _ _ _ _ _ _ q=>lt_int q
def aOn:OpR X (zAm .LtE) (rI0 λ i j=>.bl (decide (i<=j))):=aNM λ _ _ _ _ _ _ _ q=>le_int q
def aOo:OpR X (zAm .GtE) (rI0 λ i j=>.bl (decide (j<=i))):=aNM λ _ _ _ _ _ _ _ q=>ge_int q
def aNG:OpR X (zAm .Is) (λ x y H Q=>y= .non/\Q (.bl (decide (x= .non))) H):=by
 intro iX s Z H x y v u Q I rx ry h;obtain⟨rfl,q⟩:=h;cases ry;refine is_none_gen (aIV I q ?_);cases x<;>first
  |(cases rx;rfl)
  |(obtain⟨t,rfl⟩:=rx;rfl)
def isObj:HO->Bool
 | .lst _=>true
 | .ins _ _ _=>true
 |_=>false
def aH9(b:Expr)(h:op≠.In:=by decide)(h2:op≠.NotIn:=by decide):zBk op b=false:=by
 have e1:(op==CmpOp.In)=false:=by cases op<;>first|rfl|exact absurd rfl h
 have e2:(op==CmpOp.NotIn)=false:=by cases op<;>first|rfl|exact absurd rfl h2
 cases b<;>simp[zBk,e1,e2]
def aJz{op:CmpOp}{r:R2}(ho:OpR X (zAm op) r)(ha:PE X a ta)(hb:PE X b tb)(hm:zBk op b=false):PE X (.Compare a [op] [b] pos) (tOp r ta tb):=by
 intro iX s Z H Q I h;exact wpAny_Compare1 (aNy ha hb I h λ v u s2 x y H2 I2 rx ry q=>ho iX s2 Z H2 x y v u Q I2 rx ry q) hm
def aLP(t:TE):TT:=λ Z H Q=>t Z H λ x H'=>∃k,x= .bl k/\Q k H'
def aJk(ho:OpR X (zAm op) r)(ha:PE X a ta)(hb:PE X b tb)(hm:zBk op b=false):PT X (.Compare a [op] [b] pos) (aLP (tOp r ta tb)):=by
 intro iX s Z H Q I h;refine wpAny_isTrue_Compare1 (thn (ha iX s Z H _ I h) λ v s1 ⟨x,H1,I1,r1,q1⟩=>thn (hb iX s1 Z H1 _ I1 q1) λ u s2 ⟨y,H2,I2,r2,q2⟩=>
  thn (ho iX s2 Z H2 x y v u _ I2 r1 r2 q2) λ c s3 ⟨z,H3,I3,r3,k,e,q3⟩=>?_) hm
 subst e;cases r3;exact zCJ ⟨H3,I3,q3⟩
def aGQ(r r':R2)(ta tb tc:TE):TE:=λ Z H Q=>ta Z H λ x H1=>tb Z H1 λ y H2=>r x y H2 λ z H3=>∃k,z= .bl k/\
 (if k=true then tc Z H3 λ w' H4=>r' y w' H4 Q else Q (.bl false) H3)
def aHT(ho:OpR X (zAm op) r)(ho':OpR X (zAm op') r')(ha:PE X a ta)(hb:PE X b tb)(hc:PE X c tc)
  (hm:zHY [op,op'] [b,c]=false:=by with_unfolding_all rfl):PE X (.Compare a [op,op'] [b,c] pos) (aGQ r r' ta tb tc):=by
 intro iX s Z H Q I h;refine Compare_chain (thn (ha iX s Z H _ I h) λ v s1 ⟨x,H1,I1,r1,q1⟩=>chain_link (thn (hb iX s1 Z H1 _ I1 q1) λ u s2 ⟨y,H2,I2,r2,q2⟩=>
  thn (ho iX s2 Z H2 x y v u _ I2 r1 r2 q2) λ d s3 ⟨z,H3,I3,r3,k,e,q3⟩=>?_)) hm
 subst e;cases r3;refine zCJ ?_;cases k with
 |false=>exact ite_ff ⟨.bl false,H3,I3,rfl,q3⟩
 |true=>exact ite_tt (chain_last (thn (hc iX s3 Z H3 _ I3 q3) λ w' s4 ⟨z',H4,I4,r4,q4⟩=>ho' iX s4 Z H4 y z' u w' Q I4 r2 r4 q4))
def aOE(K:zAA)(x:V)(H:Hp)(k:Bool):Prop:=
 match x with
 | .non=>k=false
 | .bl b=>k=b
 | .int i=>k=(i !=0)
 | .str y=>y.length<=zAO/\k=((y.length:Int)!=0)
 | .byt y=>y.size<=zAO/\k=((y.size:Int)!=0)
 | .ref p=>(∃xs,SqL K H p xs/\k= !xs.isEmpty)\/(∃xs,SqT K H p xs/\k= !xs.isEmpty)\/∃kvs,H p=some (.dK kvs)/\k= !kvs.isEmpty
 |_=>False
def aDi(r:KV kvs vs):(!vs.isEmpty)= !kvs.isEmpty:=by
 cases r<;>rfl
def yF(r:Vals xs its):(!its.toArray.isEmpty)= !xs.isEmpty:=by
 cases r<;>simp
def qu:(zAO:Nat)<2^63:=by rw[zB3];decide
def aMB:aPk X (λ x H Q=>∃k,aOE X.K x H k/\Q k H):=by
 intro iX s Z H x v Q I rx h;obtain⟨k,e,q⟩:=h;have hl:=qu;have hs:zAO=16777216:=zB3;cases x with
 |non=>
  cases rx;have e':k=false:=e;subst e';exact truthy_none ⟨H,I,q⟩
 |bl b=>
  cases rx;have e':k=b:=e;subst e';exact zCJ ⟨H,I,q⟩
 |int i=>
  obtain⟨t,rfl⟩:=rx;have e':k=(i !=0):=e;subst e';exact PySem.P.truthy_int ⟨H,I,q⟩
 |str y=>
  obtain⟨t,rfl⟩:=rx;obtain⟨hy,e'⟩:y.length<=zAO/\k=((y.length:Int)!=0):=e;subst e';exact PySem.P.truthy_str (by lia) ⟨H,I.tok _,q⟩
 |byt y=>
  obtain⟨t,rfl⟩:=rx;obtain⟨hy,e'⟩:y.size<=zAO/\k=((y.size:Int)!=0):=e;subst e';exact PySem.W.truthy_bytes (by lia) ⟨H,I.tok _,q⟩
 |ref p=>
  cases rx;have e':(∃xs,SqL X.K H p xs/\k= !xs.isEmpty)\/(∃xs,SqT X.K H p xs/\k= !xs.isEmpty)\/∃kvs,H p=some (.dK kvs)/\k= !kvs.isEmpty:=e
  rcases e' with ⟨xs,hx,e'⟩|⟨xs,hx,e'⟩|⟨kvs,hx,e'⟩
  .subst e'
   obtain⟨its,r,pl,hz⟩:=I.list hx;have kQ:=r.length;exact wpAny_truthy_list pl.isList (by simp only[zAK];lia) ⟨H,I.tok _,by rw[yF r];exact q⟩
  .subst e'
   obtain⟨its,r,pl,hz⟩:=I.tuple hx;have kQ:=r.length;exact truthy_tuple pl (by simp only[zAK];lia) ⟨H,I.tok _,by rw[yF r];exact q⟩
  .subst e'
   obtain⟨hz,hS,vs,r,m⟩:kvs.length<=zAO/\(p==zAz)=false/\∃vs,KV kvs vs/\s.heap.DictOf (cL X.prog X.w) p vs:=I.hok p _ hx
   have kQ:kvs.length=vs.length:=zDN r;exact wpAny_truthy_dict hS m (by lia) ⟨H,I.tok _,by rw[aDi r];exact q⟩
 |_=>exact(show False from e).elim
def aHC(ha:PE X a ta)(he:∀whole,isTrue a X.env whole=(do let v <-whole;zEw a.pos;zC5 [v] (truthy v))):
  PT X a (λ Z H Q=>ta Z H λ x H'=>∃k,aOE X.K x H' k/\Q k H'):=by
 intro iX s Z H Q I h;exact isTrue_plain (thn (ha iX s Z H _ I h) λ v s1 ⟨x,H1,I1,r1,q1⟩=>aMB iX s1 Z H1 x v Q I1 r1 q1) (he _)
def vals1(r:Vals [x] us):∃u,us=[u]/\RelV x u:=by
 cases r with
 |cons r1 r2=>cases r2;exact⟨_,rfl,r1⟩
def vals2(r:Vals [x,y] us):∃u w',us=[u,w']/\RelV x u/\RelV y w':=by
 cases r with
 |cons r1 r2=>
  cases r2 with
  |cons r3 r4=>cases r4;exact⟨_,_,rfl,r1,r3⟩
def aFy(hc:X.calm=true):cZ X (.builtin "max") (λ xs H Q=>∃i j,xs=[.int i,.int j]/\Q (.int (if j>i then j else i)) H):=by
 intro iX s Z H xs us Q I r h;obtain⟨i,j,rfl,q⟩:=h;obtain⟨u,w',rfl,⟨t,rfl⟩,⟨t',rfl⟩⟩:=vals2 r;refine max_two_ints (I.ok.hd hc) λ h' tk k=>⟨_,H,I.kept k,?_,q⟩
 by_cases hj:j>i
 .rw[if_pos hj,if_pos hj];exact⟨_,rfl⟩
 .rw[if_neg hj,if_neg hj];exact⟨_,rfl⟩
def aFx(hc:X.calm=true):cZ X (.builtin "min") (λ xs H Q=>∃i j,xs=[.int i,.int j]/\Q (.int (if j<i then j else i)) H):=by
 intro iX s Z H xs us Q I r h;obtain⟨i,j,rfl,q⟩:=h;obtain⟨u,w',rfl,⟨t,rfl⟩,⟨t',rfl⟩⟩:=vals2 r;refine min_two_ints (I.ok.hd hc) λ h' tk k=>⟨_,H,I.kept k,?_,q⟩
 by_cases hj:j<i
 .rw[if_pos hj,if_pos hj];exact⟨_,rfl⟩
 .rw[if_neg hj,if_neg hj];exact⟨_,rfl⟩
end
structure aLJ(h:Heap)(x dx C:Addr)(mA:Str->Option Value):Prop where
 obj:h.get? x=some (zBt C dx)
 ns:h.Ns1 dx mA
 ne:dx≠x
def aF6{h:Heap}{dx:Addr}{mA:Str->Option Value}(n:h.Ns1 dx mA):∃od,h.get? dx=some od/\∀name,zEN name od=some (mA name):=by
 obtain⟨o,es,ep,ho,hd,hk,_,hm⟩:=n;refine⟨o,ho,λ name=>?_⟩;have e:=hm name;unfold nsFind findBy at e;rw[<-Array.find?_toList]at e;unfold zEN;rw[hd];dsimp only;split
 .rename_i y q
  rw[q]at e;exact congrArg some e
 .rename_i q
  rw[q]at e;have a:es.toList.any (·.refKey)=false:=by
   rw[zHB];intro y hy;obtain⟨z,t,hkey⟩:=hk y (Array.mem_toList_iff.mp hy);simp[DictEntry.refKey,hkey]
  have a':¬es.toList.any (·.refKey)=true:=by rw[a];exact zAU
  rw[if_neg a'];exact congrArg some e
def aLJ.look(I:aLJ h x dx C mA):∃od,zHH h x (zBt C dx) C (some od)/\∀name,zEN name od=some (mA name):=
 let⟨od,ho,hl⟩:=aF6 I.ns
 ⟨od,⟨I.obj,rfl,rfl,ho⟩,hl⟩
section
variable{prog:zAY}{w:World}{A:zAc}{E:Value->zAG->Prop}{s:zAG}{K:zAA}{x dx C f:Addr}{mA:Str->Option Value}{name:Str}
def aIL(X:K.In s.heap)(I:aLJ s.heap x dx C mA)(hg:zEj K C name=true)
  (hf:zBT K (.ref C) name=some (some (.ref f)))(ht:zH4 K (.ref f)=true)(hv:mA name=none)(h:Q (.ref f,[.ref x]) s):
  wpAny (model prog w) A (getMethod (.ref x) name pl) Q E s:=by
 obtain⟨od,J,hl⟩:=I.look;exact PySem.W.method_fn X J (zGB hg).1 (zGB hg).2 hf (beq_iff_eq.mp ht) (by show(zEN name od).map (·.isSome)=some false;rw[hl,hv];rfl) h
def make_map(X:K.In s.heap)(hm:PySem.W.makesIn K C=true)
  (hi:zBT K (.ref C) "__init__"=some (some (.ref f)))(hf:PySem.W.typeIn K (.ref f)=some (.type "function"))
  (h:zCI (model prog w) (A.under (.builtin "type.__call__" ⟨.ref C::vs,kw⟩)) (.call (.ref f) ⟨.ref (s.heap.objs.size+1)::vs,kw⟩) (PySem.W.InitBack (s.heap.objs.size+1) R)
   {s with heap:=(s.heap.push zB1).push (zBt C s.heap.objs.size)}):
  zCI (model prog w) A (.call (.ref C) ⟨vs,kw⟩) R s:=by
 obtain⟨hh,g,d,t,os⟩:=s;exact PySem.W.make_core (PySem.W.makes_of X hm) (zDK X hi) (λ self=>PySem.W.bind_fn X self hf) (.inl rfl) h
end
def uE.some_of(r:uE (some v) o):∃u,o=some u/\RelV v u:=by
 cases o with
 |none=>exact(show False from r).elim
 |some u=>exact⟨u,rfl,r⟩
def uE.none_of(r:uE none o):o=none:=by
 cases o with
 |none=>rfl
 |some u=>exact(show False from r).elim
section
variable{P:zAY}{w:World}{H:Hp}{h:Heap}{a C dx:Addr}{fs:List (Str×V)}
def aEb(hok:HOk P w H h)(e:H a=some (.ins C dx fs)):∃mA,aLJ h a dx C mA/\(∀f,uE (fs.lookup f) (mA f))/\zHo mA (fs.map (·.1))/\fs.length<=1000/\H dx=some (.own a):=by
 obtain⟨d,z,ne,ob,mA,n,r,q⟩:=(show bw P w H h a (.ins C dx fs)from hok a _ e);exact⟨mA,⟨ob,n,ne⟩,r,q,z,d⟩
end
structure Cls(K:zAA)(C:Addr):Prop where
 pg:zEj K C Str.empty=true
 hd:PySem.W.hasDictIn K C=true
 po:PySem.W.plainOver K C=true
 sa:zBT K (.ref C) "__setattr__"=some (some (.builtin "object.__setattr__"))
def Cls.get{K:zAA}{C:Addr}(c:Cls K C)(f:Str):zEj K C f=true:=c.pg
def aOH(K:zAA)(C:Addr)(f:Str):Prop:=zBT K (.ref C) f=some none
structure Meth(K:zAA)(C:Addr)(m:Str)(f:Addr):Prop where
 at_:zBT K (.ref C) m=some (some (.ref f))
 fn:zH4 K (.ref f)=true
 kp:zCr K (.ref f)=true
section
variable{X:Cx}{iX:hZ}{Z:St}{H:Hp}{s:zAG}{a C dx:Addr}{fs:List (Str×V)}{A:zAc}{E:Value->zAG->Prop}
def aDj(I:Inv X iX Z H s)(e:H a=some (.ins C dx fs))(c:Cls X.K C)(k:Meth X.K C m g)(l:fs.lookup m=none)
  (h:Q (.ref g,[.ref a]) s):wpAny (model X.prog X.w) A (getMethod (.ref a) m pl) Q E s:=by
 obtain⟨mA,O,r,_,_,_⟩:=aEb I.hok e;have hn:mA m=none:=uE.none_of (by rw[<-l];exact r m);exact aIL I.kIn O (c.get m) k.at_ k.fn hn h
def Inv.made(I:Inv X iX Z H s):Inv X iX Z (upd (upd H s.heap.objs.size (.own (s.heap.objs.size+1))) (s.heap.objs.size+1) (.ins C s.heap.objs.size []))
  {s with heap:=(s.heap.push zB1).push (zBt C s.heap.objs.size)}:=by
 have e1:(s.heap.push zB1).get? s.heap.objs.size=some zB1:=zAN s.heap rfl;have e2:((s.heap.push zB1).push (zBt C s.heap.objs.size)).get? (s.heap.objs.size+1)=some (zBt C s.heap.objs.size):=by
  have:=zAN (s.heap.push zB1) (o:=zBt C s.heap.objs.size) rfl
  rwa [zBU]at this
 have e3:(s.heap.push zB1).Ns s.heap.objs.size (λ _=>none):=⟨zB1,#[],_,e1,rfl,(λ e he=>absurd he (by simp)),λ _=>rfl⟩;have I1:=I.laid (a:=s.heap.objs.size) (o:=.own (s.heap.objs.size+1)) (h':=s.heap.push zB1) (t':=s.toks) (λ b u q=>zAC _ q) (zAV _) ⟨_,e1⟩;refine I1.laid (a:=s.heap.objs.size+1) (o:=.ins C s.heap.objs.size []) (t':=s.toks) (λ b u q=>zAC _ q) (Nat.le_of_eq (zBU _ _)) ?_;have ne:s.heap.objs.size≠s.heap.objs.size+1:=zA9 (zBZ _);refine⟨by rw[aW ne,aX],zAi _,ne,e2,λ _=>none,(Heap.Ns1.of_empty e3).at λ o q=>zAC _ q,λ _=>zCN,λ y hy=>absurd rfl hy⟩
end
def tFld(K:zAA)(ta:TE)(f:Str):TE:=λ Z H Q=>ta Z H λ x H1=>∃a C dx fs v,x= .ref a/\H1 a=some (.ins C dx fs)/\Cls K C/\aOH K C f/\fs.lookup f=some v/\Q v H1
section
variable{X:Cx}{e:Expr}{f:Str}{pos:Pos}
def methcall_of(he:PE X e te)(I:Inv X iX Z H s)
  (h:te Z H λ x H1=>∃a C dx fs g,x= .ref a/\H1 a=some (.ins C dx fs)/\Cls X.K C/\Meth X.K C m g/\fs.lookup m=none/\
   ∀s1,Inv X iX Z H1 s1->wpAny (model X.prog X.w) X.A (callWith pos (.ref g) [.ref a] (zBu pos (zAT args X.env)) (zET pos (zCp [] X.env))) Q X.xe s1)
  (ht:eval (.Call (.Attribute e m apos) args [] pos) X.env=(do
   let ov <-eval e X.env
   zEw apos.atName
   let(f,first) <-zC5 [ov] (getMethod ov m pl)
   callWith pos f first (zBu pos (zAT args X.env)) (zET pos (zCp [] X.env)))):
  wpAny (model X.prog X.w) X.A (eval (.Call (.Attribute e m apos) args [] pos) X.env) Q X.xe s:=by
 refine PySem.W.methodCall_KW (pl:=pl) (thn (he iX s Z H _ I h) λ u s1 ⟨x,H1,I1,rx,a,C,dx,fs,g,ex,ea,c,k,l,q⟩=>?_) ht;subst ex;obtain rfl:u=zAs a:=rx;exact aDj I1 ea c k l (q s1 I1)
end
section
variable{X:Cx}{iX:hZ}{Z:St}{H:Hp}{s:zAG}{A:zAc}{E:Value->zAG->Prop}{Q:Value->zAG->Prop}{c:Value}{b:Bool}
inductive ux(K:zAA)(H:Hp):V->Value->Prop where
 |non:ux K H .non (.type "NoneType")
 |bl (x:Bool):ux K H (.bl x) (.type "bool")
 |int (i:Int):ux K H (.int i) (.type "int")
 |str (x:Str):ux K H (.str x) (.type "str")
 |flt (x:UInt64):ux K H (.flt x) (.type "float")
 |lst {a:Addr} {xs:List V} (e:H a=some (.lst xs)):ux K H (.ref a) (.type "list")
 |frz {a:Addr} {o:Obj} {xs:List V} (e:H a=some (.frz o (.lst xs))):ux K H (.ref a) (.type "list")
 |tup {a:Addr} {xs:List V} (e:H a=some (.tup xs)):ux K H (.ref a) (.type "tuple")
 |dK {a:Addr} {kvs:List (Key×V)} (e:H a=some (.dK kvs)):ux K H (.ref a) (.type "dict")
 |dT {a:Addr} {kvs:List (List Key×V)} (e:H a=some (.dT kvs)):ux K H (.ref a) (.type "dict")
 |ins {a C dx:Addr} {fs:List (Str×V)} (e:H a=some (.ins C dx fs)) (cl:Cls K C) (ha:zBT K (.ref C) "__class__"=some (some (.builtin "object.__class__")))
   (hn:PySem.W.specialIn K (.builtin "object.__class__") "__get__"=some (some (.builtin "getset_descriptor.__get__"))) (htk:PySem.W.takesIn K (.builtin "object.__class__")=some true)
   (hm:PySem.W.mroIn K C (.type "object")=some true):ux K H (.ref a) (.ref C)
def aFh(I:Inv X iX Z H s)(rx:RelV x u)(ty:ux X.K H x t)(e:zD4 X.K t c=some b)(h:∀tk,Q (.bool b) {s with toks:=tk}):
  wpAny (model X.prog X.w) A (call (.builtin "isinstance") [u,c]) Q E s:=by
 cases ty with
 |non=>cases (show u=zAu from rx);exact zBB PySem.W.kitx_none I.kIn zCN e (λ z=>nomatch z) h
 |bl y=>cases (show u=zEP y from rx);exact zBB PySem.W.kitx_bool I.kIn zCN e (λ z=>nomatch z) h
 |int i=>obtain⟨t,q⟩:=(show∃t,u=zDB i t from rx);cases q;exact zBB PySem.W.kitx_int I.kIn zCN e (λ z=>nomatch z) h
 |str y=>obtain⟨t,q⟩:=(show∃t,u=zGD y t from rx);cases q;exact zBB PySem.W.kitx_str I.kIn zCN e (λ z=>nomatch z) h
 |flt y=>obtain⟨t,q⟩:=(show∃t,u=zIH y t from rx);cases q;exact zBB PySem.W.kitx_float I.kIn zCN e (λ z=>nomatch z) h
 |@lst a xs ea=>
  cases (show u=zAs a from rx);obtain⟨_,_,n,_,h1⟩:=(show bw X.prog X.w H s.heap a (.lst xs)from I.hok a _ ea);exact zBB zG4 I.kIn ⟨_,h1,rfl⟩ e (λ z=>nomatch z) h
 |@frz a ob xs ea=>
  cases (show u=zAs a from rx);obtain⟨_,_,_,n,_,h1⟩:=(show bw X.prog X.w H s.heap a (.frz ob (.lst xs))from I.hok a _ ea);exact zBB zG4 I.kIn ⟨_,h1,rfl⟩ e (λ z=>nomatch z) h
 |@tup a xs ea=>
  cases (show u=zAs a from rx);obtain⟨_,_,_,p⟩:=(show bw X.prog X.w H s.heap a (.tup xs)from I.hok a _ ea);obtain⟨o,h1,h2,_⟩:=p;exact zBB zGV I.kIn ⟨o,h1,h2⟩ e (λ z=>nomatch z) h
 |@dK a kvs ea=>
  cases (show u=zAs a from rx);obtain⟨_,_,vs,_,p⟩:=(show bw X.prog X.w H s.heap a (.dK kvs)from I.hok a _ ea);obtain⟨o,es,ep,h1,h2,_⟩:=p;exact zBB zE9 I.kIn ⟨o,h1,h2.1⟩ e (λ z=>nomatch z) h
 |@dT a kvs ea=>
  cases (show u=zAs a from rx);obtain⟨_,_,xs,_,o,es,ep,h1,h2,_⟩:=(show bw X.prog X.w H s.heap a (.dT kvs)from I.hok a _ ea);exact zBB zE9 I.kIn ⟨o,h1,h2.1⟩ e (λ z=>nomatch z) h
 |@ins a C dx fs ea cl ha hn htk hm=>
  cases (show u=zAs a from rx);obtain⟨mA,O,_⟩:=aEb I.hok ea;obtain⟨od,J,_⟩:=O.look;exact zBB (PySem.W.kitx_own (cl.get _) cl.hd ha hn htk hm) I.kIn J e (λ z=>nomatch z) h
end
structure jy(k:Nat)(A:zAc):Prop where
 hd:A.handled=none
 dp:A.depth+3*k+5<zG6
 un:A.units+16*k+200<cLine
def jy.mono(r:jy k A)(h:j<=k):jy j A:=⟨r.hd,by have:=r.dp;lia,by have:=r.un;lia⟩
theorem jy.deeper(r:jy (k+1) A)(env:Env):jy k (A.deeper env):=
 ⟨r.hd,by have:=r.dp;show A.depth+1+3*k+5<_;lia,by have:=r.un;show A.units+3+16*k+200<_;lia⟩
theorem jy.depth(r:jy k A):A.depth<zG6:=by have:=r.dp;lia
theorem jy.units(r:jy k A):A.units+64<cLine:=by have:=r.un;lia
def jy.units0(r:jy k A):A.units<cLine:=by have:=r.un;lia
def oH:TA:=λ _ H Q=>Q [] H
def cY(ta:TE)(tr:TA):TA:=λ Z H Q=>ta Z H λ x H1=>tr Z H1 λ xs H2=>Q (x::xs) H2
section
variable{X:Cx}{e:Expr}{es:List Expr}{te:TE}{t:TA}{pos:Pos}
def fH:PA X [] oH:=λ _ _ _ _ H Q I h=>zGl ⟨[],H,I,.nil,h⟩
def bT(ha:PE X e te)(hr:PA X es t)(hs:zAT (e::es) X.env=(false,eval e X.env)::zAT es X.env:=by rfl):PA X (e::es) (cY te t):=by
 intro pos iX s Z H Q I h;rw[hs];show wpAny _ _ (spliced ((false,eval e X.env)::zBu pos (zAT es X.env))) _ _ s;refine zE7 (thn (ha iX s Z H _ I h) λ u s1 ⟨x,H1,I1,r1,q1⟩=>?_);exact thn (hr pos iX s1 Z H1 _ I1 q1) λ us s2 ⟨xs,H2,I2,r2,q2⟩=>⟨x::xs,H2,I2,.cons r1 r2,q2⟩
def aP2(t:TA):TE:=λ Z H Q=>t Z H λ xs H1=>xs.length<=zAO/\∀p,H1 p=none->Q (.ref p) (upd H1 p (.tup xs))
def aP6(t:TA):TE:=λ Z H Q=>t Z H λ xs H1=>xs.length<=zAO/\∀p,H1 p=none->Q (.ref p) (upd H1 p (.lst xs))
def aMj{x1}(h:PA X es t):PE X (.Tuple es x1 pos) (aP2 t):=by
 intro iX s Z H Q I hq;refine wpAny_Tuple_spliced (thn (h pos iX s Z H _ I hq) λ us s1 ⟨xs,H1,I1,r,z,q⟩=>⟨by rw[<-r.length];exact z,?_⟩);have hf:H1 s1.heap.objs.size=none:=I1.hok.fresh (zAV _);refine⟨.ref s1.heap.objs.size,upd H1 s1.heap.objs.size (.tup xs),I1.laid (t':=s1.toks) (λ b u e=>zAC _ e) (zAV _) ?_,rfl,q _ hf⟩;exact⟨⟨z,NoD.push _⟩,us,r,⟨_,zAN _ rfl,rfl,_,rfl⟩⟩
def aMo(h:PA X es t):PE X (.List es pos) (aP6 t):=by
 intro iX s Z H Q I hq;refine wpAny_List_spliced (thn (h pos iX s Z H _ I hq) λ us s1 ⟨xs,H1,I1,r,z,q⟩=>⟨by rw[<-r.length];exact z,?_⟩);have hf:H1 s1.heap.objs.size=none:=I1.hok.fresh (zAV _);refine⟨.ref s1.heap.objs.size,upd H1 s1.heap.objs.size (.lst xs),I1.laid (t':=s1.toks) (λ b u e=>zAC _ e) (zAV _) ?_,rfl,q _ hf⟩;exact⟨z,us,0,r,zAN _ rfl⟩
end
abbrev Sp:=List V->Hp->VK->XK->Prop
abbrev CXT:=List Env->Hp->zAG->XK->Value->zAG->Prop
structure aIu(P:zAY)(w:World)(K:zAA)(mg:Str->Option Value)(base:Heap)(A:zAc)(outer:List Env)(s:zAG)(H:Hp):Prop where
 frames:A.frames=some outer
 mod:Mod K mg base
 bs:∀b o,base.get? b=some o->s.heap.get? b=some o/\H b=none
 bsz:base.objs.size<=s.heap.objs.size
 funs:s.heap.FunFrames base outer
 frf:∀b∈frs outer,H b=none
 hok:HOk P w H s.heap
 bare:zE5 s.gens
def CE(outer:List Env)(P:zAY)(w:World)(H:Hp)(s:zAG)(Q:VK)(u:Value)(s':zAG):Prop:=
 ∃v H',s'.os=s.os/\zE5 s'.gens/\Un (frs outer) [] H H' s.heap s'.heap/\HOk P w H' s'.heap/\RelV v u/\Q v H'
def CR(CX:CXT)(outer:List Env)(P:zAY)(w:World)(H:Hp)(s:zAG)(Q:VK)(E:XK)(r:zDu)(s':zAG):Prop:=
 match r with
 | .ok (.ret u)=>CE outer P w H s Q u s'
 | .ok _=>False
 | .error e=>CX outer H s E e s'
structure bU(P:zAY)(w:World)(K:zAA)(mg:Str->Option Value)(base:Heap)(CX:CXT)(k:Nat)(f:Addr)(fd:zA8)(ps:List Str)(sp:Sp):Prop where
 len:∀vs H Q E,sp vs H Q E->vs.length=ps.length
 run:∀(A:zAc) (outer:List Env) (s:zAG) (H:Hp) (args:Args) (us:List Value) (vs:List V) (Q:VK) (E:XK),jy k A->aIu P w K mg base A outer s H->zF1 s fd args (ps.zip us)->Vals vs us->sp vs H Q E->
  zCI (model P w) A (.call (.ref f) args) (CR CX outer P w H s Q E) s
def bU.imp{P:zAY}{w:World}{K:zAA}{mg:Str->Option Value}{base:Heap}{CX:CXT}{k:Nat}{f:Addr}{fd:zA8}{ps:List Str}{sp sp':Sp}(F:bU P w K mg base CX k f fd ps sp)
  (h:∀vs H Q E,sp' vs H Q E->sp vs H Q E):bU P w K mg base CX k f fd ps sp':=
 ⟨λ vs H Q E q=>F.len vs H Q E (h _ _ _ _ q),λ A outer s H args us vs Q E hr he hb hv hs=>F.run A outer s H args us vs Q E hr he hb hv (h _ _ _ _ hs)⟩
section
variable{X:Cx}{iX:hZ}{Z:St}{H:Hp}{s s':zAG}
def Inv.env0(I:Inv X iX Z H s):aIu X.prog X.w X.K X.mg X.base X.A X.stack s H:=
 ⟨I.ok.frames,I.ok.mod,I.bs,zAh I.ok.bsz I.sz,I.stack,I.stkFree,I.hok,I.bare⟩
def Inv.after(I:Inv X iX Z H s)(h:CE X.stack X.prog X.w H s Q u s'):EP X iX Z Q u s':=by
 obtain⟨v,H',os,bare,un,hok,r,q⟩:=h;obtain⟨hh,g,d,t,os'⟩:=s';obtain rfl:os'=s.os:=os;exact⟨v,H',I.call (h':=hh) (g':=g) (d':=d) (t':=t) (ch:=[]) un hok bare (λ b z=>absurd z (by simp)),r,q⟩
end
def aBk(sp:Sp)(dvs:List V)(E:XK)(t:TA):TE:=λ Z H Q=>t Z H λ vs H1=>sp (vs++dvs) H1 Q E
def tMeth(C:Addr)(m:Str)(sp:Sp)(dvs:List V)(E:XK)(ta:TE)(t:TA):TE:=λ Z H Q=>ta Z H λ x H1=>∃a dx fs,x= .ref a/\H1 a=some (.ins C dx fs)/\fs.lookup m=none/\
 t Z H1 λ vs H2=>sp (x::(vs++dvs)) H2 Q E
def tMake(C:Addr)(sp:Sp)(dvs:List V)(E:XK)(t:TA):TE:=λ Z H Q=>t Z H λ vs H1=>∀x dx,H1 x=none->H1 dx=none->dx≠x->
 sp (.ref x::(vs++dvs)) (upd (upd H1 dx (.own x)) x (.ins C dx [])) (λ v H2=>v= .non/\Q (.ref x) H2) E
def Binds(K:zAA)(fd:zA8)(ps:List Str)(ds:List Value):Prop:=
 ∀(s:zAG) (us:List Value),K.In s.heap->(us++ds).length=ps.length->zF1 s fd ⟨us,[]⟩ (ps.zip (us++ds))
def Binds.all{K:zAA}{fd:zA8}{ps:List Str}(h:∀us:List Value,us.length=ps.length->bindArgs fd ⟨us,[]⟩=pure (ps.zip us)):Binds K fd ps []:=λ s us _ hl=>by
 rw[zBG]at hl ⊢;exact .of_eq (h us hl)
def aBd(CX:CXT)(X:Cx)(E:XK):Prop:=∀(iX:hZ) (Z:St) (H:Hp) (s:zAG) (e:Value) (s':zAG),Inv X iX Z H s->CX X.stack H s E e s'->X.xe e s'
section
variable{X:Cx}{CX:CXT}{k:Nat}{f:Addr}{fd:zA8}{ps:List Str}{sp:Sp}{dvs:List V}{ds:List Value}{E:XK}{x:Str}{p pos:Pos}{e:Expr}{es:List Expr}{t:TA}
def aMY(F:bU X.prog X.w X.K X.mg X.base CX k f fd ps sp)(hr:jy k X.A)(hb:Binds X.K fd ps ds)(hd:Vals dvs ds)(hx:aBd CX X E)
  (I:Inv X iX Z H s)(r:Vals vs us)(h:sp (vs++dvs) H Q E):wpAny (model X.prog X.w) X.A (call (.ref f) us) (EP X iX Z Q) X.xe s:=by
 have r2:Vals (vs++dvs) (us++ds):=r.append hd;have hl:(us++ds).length=ps.length:=by rw[<-r2.length];exact F.len _ _ _ _ h
 refine wpAny_call (zDv (F.run X.A X.stack s H ⟨us,[]⟩ (us++ds) (vs++dvs) Q E hr I.env0 (hb s us I.kIn hl) r2 h) λ r s' hq=>?_);cases r with
 |error e=>exact hx iX Z H s e s' I hq
 |ok fl=>
  cases fl with
  |ret u=>exact I.after hq
  |next=>exact zAI hq
  |brk=>exact zAI hq
  |cont=>exact zAI hq
def aBA(F:bU X.prog X.w X.K X.mg X.base CX k f fd ps sp)(hr:jy k X.A)(hg:Gl X x)(hm:X.mg x=some (.ref f))(hk:zCr X.K (.ref f)=true)(hb:Binds X.K fd ps ds)(hd:Vals dvs ds)(hx:aBd CX X E)
  (ha:PA X (e::es) t)(hdb:Nd x:=by decide)(he:zAT (e::es) X.env=(false,eval e X.env)::zAT es X.env:=by rfl)(hpl:(zBu pos (zAT es X.env)).any (·.1)=false:=by rfl):
  PE X (.Call (.Name x p) (e::es) [] pos) (aBk sp dvs E t):=by
 intro iX s Z H Q I h;refine zFN (aBJ I hg hm ?_ hdb);refine PySem.W.callWith_K (h₀:=X.base) I.ok.mod.kin hk (thn (ha pos iX s Z H _ I h) λ us s1 ⟨vs,H1,I1,r,q⟩=>⟨I1.kIn,?_⟩) he hpl;exact aMY F hr hb hd hx I1 r q
end
structure aV(N P:List Str)(sc:Scope):Prop where
 kind:sc.kind= .function
 co:sc.isCoroutine=false
 gen:sc.isGenerator=false
 nd:N.Nodup
 pre:N.take P.length=P
 par:∀x∈P,sc.names.lookup x=some .local\/sc.names.lookup x=some .cell
 nofree:∀y∈sc.names,y.2≠.free
theorem aAc{zDP:Str->Option zDc}{x:Str}:∀{binds:List (Str×Value)} {m:Str->Option Value},(∀v,(x,v)∉binds)->bindL zDP binds m x=m x
 |[],_,_=>rfl
 |(n,v)::r,m,h=>by
  unfold bindL;rw[aAc λ w hw=>h w (zAR _ hw)];split
  .have:x≠n:=by rintro rfl;exact h v zAJ
   simp[this]
  .rfl
theorem aAe{zDP:Str->Option zDc}{x:Str}:∀{binds:List (Str×Value)} {m:Str->Option Value},(∀v,(x,v)∉binds)->bindC zDP binds m x=m x
 |[],_,_=>rfl
 |(n,v)::r,m,h=>by
  unfold bindC;rw[aAe λ w hw=>h w (zAR _ hw)];split
  .rfl
  .have:x≠n:=by rintro rfl;exact h v zAJ
   simp[this]
theorem aAd{zDP:Str->Option zDc}{x:Str}{v:Value}:∀{P:List Str} {vs:List Value} {i:Nat} {m:Str->Option Value},P.Nodup->P[i]? =some x->vs[i]? =some v->zDP x=some .local->
  bindL zDP (P.zip vs) m x=some v
 |[],_,_,_,_,h,_,_=>by simp at h
 |_::_,[],_,_,_,_,h,_=>by simp at h
 |p::P,w::vs,0,m,nd,h1,h2,hk=>by
  simp at h1 h2;subst h1;subst h2;show bindL zDP ((p,w)::P.zip vs) m p=_;unfold bindL;rw[aAc λ v hv=>(zAj.mp nd).1 (zEM hv).1,if_pos hk];simp
 |p::P,w::vs,i+1,m,nd,h1,h2,hk=>by
  show bindL zDP ((p,w)::P.zip vs) m x=_;unfold bindL;exact aAd (i:=i) (zAj.mp nd).2 (by simpa using h1) (by simpa using h2) hk
theorem aAf{zDP:Str->Option zDc}{x:Str}{v:Value}:∀{P:List Str} {vs:List Value} {i:Nat} {m:Str->Option Value},P.Nodup->P[i]? =some x->vs[i]? =some v->zDP x≠some .local->
  bindC zDP (P.zip vs) m x=some v
 |[],_,_,_,_,h,_,_=>by simp at h
 |_::_,[],_,_,_,_,h,_=>by simp at h
 |p::P,w::vs,0,m,nd,h1,h2,hk=>by
  simp at h1 h2;subst h1;subst h2;show bindC zDP ((p,w)::P.zip vs) m p=_;unfold bindC;rw[aAe λ v hv=>(zAj.mp nd).1 (zEM hv).1,if_neg hk];simp
 |p::P,w::vs,i+1,m,nd,h1,h2,hk=>by
  show bindC zDP ((p,w)::P.zip vs) m x=_;unfold bindC;exact aAf (i:=i) (zAj.mp nd).2 (by simpa using h1) (by simpa using h2) hk
def start(N:List Str)(vs:List V):St:=vs.map some++zAS (N.length-vs.length) none
def aBX(CX:CXT)(P:zAY)(w:World)(K:zAA)(mg:Str->Option Value)(base:Heap)(N:List Str)(qual:Str)(scope:Scope)(f:Addr)(cd:Value)(A:zAc)(outer:List Env)(s:zAG)(H:Hp)(E:XK):Cx where
 prog:=P
 w:=w
 K:=K
 mg:=mg
 base:=base
 A:=A.deeper (zEF qual scope s.heap.objs.size f cd)
 N:=N
 z5:=s
 zS:=H
 env:=zEF qual scope s.heap.objs.size f cd
 outer:=outer
 stack:=zEF qual scope s.heap.objs.size f cd::outer
 ex:=[]
 calm:=true
 fn:=λ _=>true
 pn:=[]
 xe:=λ e s'=>wpAny (model P w) (A.deeper (zEF qual scope s.heap.objs.size f cd)) (leaving (zEF qual scope s.heap.objs.size f cd) e) (λ _ s''=>CX outer H s E e s'') (λ e' s''=>CX outer H s E e' s'') s'
def tX{sc:Scope}{n:Nat}{x:Str}(h:sc.names.lookup x=some .cell):∃c,(zDl n sc.names []).lookup x=some c:=by
 have q:=zFf sc.names n [] (.inl h);exact Option.isSome_iff_exists.mp q
def aFi{CX:CXT}{P:zAY}{w:World}{K:zAA}{mg:Str->Option Value}{base:Heap}{N ps:List Str}{qual:Str}{scope:Scope}{f:Addr}{cd:Value}{A:zAc}{outer:List Env}{s s1:zAG}{H:Hp}{E:XK}{us:List Value}{vs:List V}
  (S:aV N ps scope)(hd:A.handled=none)(e0:aIu P w K mg base A outer s H)(hl:vs.length=ps.length)(r:Vals vs us)
  (x:InCallC s s.heap.objs.size (bindL (zEF qual scope s.heap.objs.size f cd).kindOf (ps.zip us) λ _=>none) (zDl (s.heap.objs.size+1) scope.names []) (bindC (zEF qual scope s.heap.objs.size f cd).kindOf (ps.zip us) λ _=>none) s1):
  Inv (aBX CX P w K mg base N qual scope f cd A outer s H E) [] (start N vs) H s1:=by
 have hpl:ps.length<=N.length:=by have:=congrArg zCV S.pre;rw[zEB]at this;lia
 obtain⟨h1,tk,rfl,hk⟩:=x.done;have noA:∀b:Addr,b∉(aBX CX P w K mg base N qual scope f cd A outer s H E).ex:=λ b z=>absurd (show b∈([]:List Addr)from z) (by simp)
 refine⟨⟨e0.mod,S.kind,rfl,rfl,zAV _,λ y z c h1 h2=>?_,λ y hy=>?_,λ y c _ h=>?_,λ _=>hd,Around.frames_deeper e0.frames,.inr ⟨rfl,rfl⟩,λ b z=>absurd z (noA b),e0.bs,e0.bsz,λ b _ _=>noA b,λ b z=>absurd z (noA b),e0.funs,e0.frf⟩,
  rfl,e0.bare,Un.kept hk,⟨_,x.toInCall.ns,λ i y v h1 h2 h3=>?_⟩,λ y c h=>⟨_,x.cell y c h⟩,e0.hok.fresh (zAV _),λ y c h=>?_,λ p hp=>absurd (show p∈([]:hZ)from hp) (by simp),e0.hok.kept hk,?_,λ p hp=>absurd (show p∈([]:hZ)from hp) (by simp)⟩
 .exact name_of_addr x.apart (zAo h1) (zAo h2)
 .have hy:scope.names.lookup y=some .cell\/scope.names.lookup y=some .free:=hy
  rcases hy with hy|hy
  .exact tX hy
  .exact absurd rfl (S.nofree _ (zAo hy))
 .exact zBc (x.above y c (zAo h))
 .have hi:i<vs.length:=by
   unfold start at h2;by_cases hi:i<vs.length
   .exact hi
   .rw[zD8 (by simpa using hi)]at h2
    rw[zBg]at h2;split at h2<;>cases h2
  have ha:vs[i]? =some v:=by
   unfold start at h2;rw[zC9 (by simpa using hi),zAP]at h2;cases e:vs[i]? with
   |none=>rw[e]at h2;cases h2
   |some a=>rw[e]at h2;cases h2;rfl
  obtain⟨u,hu,rv⟩:=r.get ha;have hp:ps[i]? =some y:=by
   rw[<-S.pre,List.getElem?_take_of_lt (by lia)];exact h1
  have ndP:ps.Nodup:=by rw[<-S.pre];exact S.nd.sublist (zHD _ _)
  refine⟨u,rv,?_⟩;rcases S.par y (zAr hp)with k|k
  .exact .inl ⟨k,aAd ndP hp hu k⟩
  .obtain⟨c,e⟩:=tX (n:=s.heap.objs.size+1) k
   refine .inr ⟨.inl k,c,e,?_⟩;have q:=x.cell y c e;rw[aAf ndP hp hu (by show scope.names.lookup y≠_;rw[k];decide)]at q;exact q
 .exact e0.hok.fresh (zBc (x.above y c (zAo h)))
 .unfold start
  show _=N.length;rw[zAZ,zAF,zBQ];lia
def aPF{CX:CXT}{P:zAY}{w:World}{K:zAA}{mg:Str->Option Value}{base:Heap}{k:Nat}{f:Addr}{name qual:Str}{params:zE6}{body:List Stmt}{scope:Scope}{dV kV doc pm cdv ct oc:Value}{an od:Option Addr}
  {osl:Array (Option Value)}{N ps:List Str}{sp:Sp}(lk:K.lookup f=some ⟨oc,od,.func (zBy name qual params body scope dV kV doc pm an cdv ct),osl⟩)(hcd:zD3 K cdv qual=true)(S:aV N ps scope)
  (len:∀vs H Q E,sp vs H Q E->vs.length=ps.length)
  (hbody:∀(A:zAc) (outer:List Env) (s:zAG) (H:Hp) (vs:List V) (Q:VK) (E:XK),jy k (A.deeper (zEF qual scope s.heap.objs.size f cdv))->sp vs H Q E->
   ∃t,PSs (aBX CX P w K mg base N qual scope f cdv A outer s H E) body t/\t {nx:=λ _ H'=>Q .non H',rt:=Q} (start N vs) H):
  bU P w K mg base CX (k+1) f (zBy name qual params body scope dV kV doc pm an cdv ct) ps sp:=by
 refine⟨len,λ A outer s H args us vs Q E hr e0 hb r hsp=>?_⟩;have hl:=len _ _ _ _ hsp;have KX:K.In s.heap:=e0.mod.kin.keeps λ b o e=>(e0.bs b o e).1
 have lim:s.heap.NoLimit:=e0.mod.nolimit.keeps λ b o e=>(e0.bs b o e).1
 have hkind:∀y∈ps.zip us,scope.names.lookup y.1=some .local\/(scope.names.lookup y.1=some .cell/\((zDl (s.heap.objs.size+1) scope.names []).lookup y.1).isSome=true):=λ⟨n,v⟩ hy=>by
  rcases S.par n (zEM hy).1 with q|q
  .exact .inl q
  .exact .inr ⟨q,zFf _ _ _ (.inl q)⟩
 refine codeAny_call_function hr.depth (KX _ _ lk) rfl S.co S.gen rfl (PySem.W.codeRec_of KX hcd) (hb _ _ _ _ ?_);refine wpAny_newFunctionEnv_cells S.kind hkind λ env he s1 x=>?_
 subst he;refine⟨lim.keeps x.toInCall.keep,codeAny_func ?_⟩;obtain⟨t,ht,hq⟩:=hbody A outer s H vs Q E (hr.deeper _) hsp;have I:Inv (aBX CX P w K mg base N qual scope f cdv A outer s H E) [] (start N vs) H s1:=aFi S hr.hd e0 hl r x;refine zBO (ht [] s1 (start N vs) H _ I hq) (λ fl s' hs=>?_) λ e s' hs=>hs
 have fin:∀{Z':St} {H':Hp} {v:V} {u:Value},Inv (aBX CX P w K mg base N qual scope f cdv A outer s H E) [] Z' H' s'->RelV v u->Q v H'->CE outer P w H s Q u s':=
  λ{Z' H' v u} J rv q=>⟨v,H',J.os,J.bare,J.base,J.hok,rv,q⟩
 cases fl with
 |ret u=>
  obtain⟨v,Z',H',J,rv,q⟩:=hs;exact fin J rv q
 |next=>
  obtain⟨Z',H',J,q⟩:=hs;exact fin (v:=V.non) (u:=zAu) J rfl q
 |brk=>
  obtain⟨_,_,_,q⟩:=hs;exact zAI q
 |cont=>
  obtain⟨_,_,_,q⟩:=hs;exact zAI q
section
variable{X:Cx}{x:Str}{p pos:Pos}{e:Expr}{es:List Expr}{t:TA}{id T:String}{r:List V->Hp->VK->Prop}
def tCB(r:List V->Hp->VK->Prop)(t:TA):TE:=λ Z H Q=>t Z H λ vs H1=>r vs H1 Q
def jg(hc:cZ X (.builtin id) r)(hg:Gl X x)(hm:X.mg x=none)(hv:zAp x=some (.builtin id))(ha:PA X (e::es) t)(hn:x≠"__name__":=by decide)(hdb:Nd x:=by decide)
  (he:zAT (e::es) X.env=(false,eval e X.env)::zAT es X.env:=by rfl)(hpl:(zBu pos (zAT es X.env)).any (·.1)=false:=by rfl):PE X (.Call (.Name x p) (e::es) [] pos) (tCB r t):=by
 intro iX s Z H Q I h;refine zFN (xr I hg hm hv ?_ hn hdb);exact PyProof.Rows.callWith_builtin1 (thn (ha pos iX s Z H _ I h) λ us s1 ⟨vs,H1,I1,r1,q1⟩=>hc iX s1 Z H1 vs us Q I1 r1 q1) he hpl
def gq(hc:cZ X (.type T) r)(hg:Gl X x)(hm:X.mg x=none)(hv:zAp x=some (.type T))(ha:PA X (e::es) t)(hn:x≠"__name__":=by decide)(hdb:Nd x:=by decide)
  (he:zAT (e::es) X.env=(false,eval e X.env)::zAT es X.env:=by rfl)(hpl:(zBu pos (zAT es X.env)).any (·.1)=false:=by rfl):PE X (.Call (.Name x p) (e::es) [] pos) (tCB r t):=by
 intro iX s Z H Q I h;refine zFN (xr I hg hm hv ?_ hn hdb);exact zCx (thn (ha pos iX s Z H _ I h) λ us s1 ⟨vs,H1,I1,r1,q1⟩=>hc iX s1 Z H1 vs us Q I1 r1 q1) he hpl
end
end L2
namespace HT
open PySem PyProof.Rows
def lexLt:List Int->List Int->Bool
 |[],[]=>false
 |[],_::_=>true
 |_::_,[]=>false
 |x::xs,y::ys=>if x=y then lexLt xs ys else decide (x<y)
def jk(x y:Int)(xs ys:List Int):lexLt (x::xs) (y::ys)=if x=y then lexLt xs ys else decide (x<y):=rfl
def z6:lexLt [] []=false:=rfl
def xn(y:Int)(ys:List Int):lexLt [] (y::ys)=true:=rfl
def xq(x:Int)(xs:List Int):lexLt (x::xs) []=false:=rfl
def aCd(A:zAc)(s:zAG)(a:Int)(t:Tok)(c:Int)(u:Tok):∃e,zCg A s (.int a t) (.int c u) e/\(e=true↔a=c):=
 ⟨(a==c),zFm a t c u,by simp⟩
def aGn(A:zAc)(s:zAG)(a:Int)(t:Tok)(c:Int)(u:Tok)(prog:zAY)(w:World)(E:Value->zAG->Prop)(Q:Value->zAG->Prop)(h:Q (.bool (decide (a<c))) s):
  wpAny (model prog w) A (zGH .Lt (.int a t) (.int c u)) Q E s:=
 (zFV h:wpAny (model prog w) A (zAm .Lt (.int a t) (.int c u)) Q E s)
section
open PySem.SeqAt
open PySem.AutoSeq1(wpAny_loadPart')
open PySem.MeetsSeq PySem.MeetsSeq2 PySem.MeetsSeq3
def yr(l b:Addr)(items items2:Array Value)(n n2:Nat)(dd dd2:Option Addr)(sl sl2:Array (Option Value))(ns ms:List Int)(hi:zBD items.toList ns)(hj:zBD items2.toList ms):
  Meets (zDR.«tuple.__lt__» ⟨[.ref l,.ref b],[]⟩)
   (λ _ R s=>s.heap.get? l=some {cls:=.type "tuple",dict:=dd,data:=.seq items n,slots:=sl}/\s.heap.get? b=some {cls:=.type "tuple",dict:=dd2,data:=.seq items2 n2,slots:=sl2}/\
    R (.ok (.ret (.bool (lexLt ns ms)))) s):=
 .of_wp λ prog w A R s h=>by
  obtain⟨hp,g,d,tk,os⟩:=s;obtain⟨hl,hb,h⟩:=h;have f2:=zFF;have z1:items.size=ns.length:=by rw[<-hi.length];simp
  have z2:items2.size=ms.length:=by rw[<-hj.length];simp
  wp_walk using zC6 hl,zC6 hb,zFr _ (λ rest b s'=>b.1=none/\s'=⟨hp,g,d,tk,os⟩/\∃(vs ws:List Value) (ns' ms':List Int),rest=vs.zip ws/\
   zBD vs ns'/\zBD ws ms'/\ns'.length+items2.size=ms'.length+items.size/\R (.ok (.ret (.bool (lexLt ns' ms')))) ⟨hp,g,d,tk,os⟩) _
  case turn=>
   rintro⟨y,x⟩ rest b s' ⟨hb',rfl,vs,ws,ns',ms',hz,hvi,hwi,kQ,hR⟩;cases hvi with
   |nil=>rw[zHE]at hz;cases hz
   |cons a t hvi'=>
    cases hwi with
    |nil=>rw[zGr]at hz;cases hz
    |cons c u hwi'=>
     rw[zAy]at hz;injection hz with hyx aE
     injection hyx with hy hx
     subst hy hx;rw[jk]at hR;simp only[zAk]at kQ;obtain⟨e,he,hiff⟩:=aCd A.in1 ⟨hp,g,d,tk,os⟩ a t c u;refine zAB (he prog w _ _ ?_);cases e with
     |true=>
      rw[if_pos (hiff.mp rfl)]at hR;wp_walk;exact⟨rfl,rfl,_,_,_,_,aE,hvi',hwi',by lia,hR⟩
     |false=>
      rw[if_neg (λ q=>absurd (hiff.mpr q) zAU)]at hR;have hri:=aGn A.in1 ⟨hp,g,d,tk,os⟩ a t c u prog w;wp_walk using hri;exact⟨_,rfl,by simpa using hR⟩
  case fin=>
   rintro⟨b1,b2⟩ s' ⟨hb',rfl,vs,ws,ns',ms',hz,hvi,hwi,kQ,hR⟩;simp only at hb';subst hb';have hv:lexLt ns' ms'=decide (items.size<items2.size):=by
    cases hvi with
    |nil=>
     cases hwi with
     |nil=>
      simp only[zBW]at kQ;rw[z6];exact(decide_eq_false (by lia)).symm
     |cons c u hw=>
      simp only[zBW,zAk]at kQ;rw[xn];exact(decide_eq_true (by lia)).symm
    |cons a t hv=>
     cases hwi with
     |nil=>
      simp only[zBW,zAk]at kQ;rw[xq];exact(decide_eq_false (by lia)).symm
     |cons c u hw=>
      rw[zAy]at hz;cases hz
   rw[hv]at hR;wp_walk;exact⟨_,rfl,by simpa[zEE]using hR⟩
  case h=>
   exact⟨rfl,rfl,items.toList,items2.toList,ns,ms,rfl,hi,hj,by lia,h⟩
end
section
variable{prog:zAY}{w:World}{A:zAc}{E:Value->zAG->Prop}{s:zAG}
def aD5(hl:IsTup s.heap l items)(hb:IsTup s.heap b items2)(hi:zBD items.toList ns)(hj:zBD items2.toList ms)
  (hu:A.units<cLine)(h:Q (.bool (lexLt ns ms)) s):wpAny (model prog w) A (zAm .Lt (.ref l) (.ref b)) Q E s:=by
 obtain⟨⟨cls,dd,data,sl⟩,ho,hc,n,hd⟩:=id hl;obtain⟨⟨cls2,dd2,data2,sl2⟩,ho2,hc2,n2,hd2⟩:=id hb;simp only at hc hd hc2 hd2;subst hc hd hc2 hd2;exact zHI (op:=.Lt) ⟨_,ho,rfl⟩ ⟨_,ho2,rfl⟩ PySem.F.slot_tuple_lt PySem.F.entry_tuple_lt (PySem.F.args_tuple_lt_2 _ _) (yr l b items items2 n n2 dd dd2 sl sl2 ns ms hi hj)
  ⟨ho,ho2,show zEP (lexLt ns ms)≠zGX/\Q (.bool (lexLt ns ms)) s from⟨(λ x=>nomatch x),h⟩⟩ hu
def aLA(ht:IsTup s.heap t vs.toArray)(hb:IsTup s.heap b ws.toArray)(hv:vs≠[])
  (h1:ws=[]->Q (.ref t) s)(h2:ws≠[]->Q (.ref s.heap.objs.size) {s with heap:=s.heap.push {cls:=.type "tuple",data:=.seq (vs++ws).toArray}})
  (hsz:vs.length+ws.length<=zAO):wpAny (model prog w) A (zCG .Add (.ref t) (.ref b)) Q E s:=by
 obtain⟨⟨cls,dd,data,sl⟩,ho,hc,n,hd⟩:=id ht;obtain⟨⟨cls2,dd2,data2,sl2⟩,ho2,hc2,n2,hd2⟩:=id hb;simp only at hc hd hc2 hd2;subst hc hd hc2 hd2;have e:vs.toArray++ws.toArray=(vs++ws).toArray:=by simp
 by_cases hw:ws=[]
 .exact zHX ⟨_,ho,rfl⟩ ⟨_,ho2,rfl⟩ zFq zGu zDr zDk (zDd _ _)
   (tuple_addW1 t b vs.toArray ws.toArray n n2 dd dd2 sl sl2 (by simpa using hv) (by simp[hw])) ⟨ho,ho2,h1 hw⟩
 .refine zHX ⟨_,ho,rfl⟩ ⟨_,ho2,rfl⟩ zFq zGu zDr zDk (zDd _ _)
   (tuple_addW2 t b vs.toArray ws.toArray n n2 dd dd2 sl sl2 (by simpa using hv) (by simpa using hw) (by rw[zAK,zAK];exact hsz)) ⟨ho,ho2,?_⟩
  rw[e];exact h2 hw
def sIx(n d:Nat):Option Int->Nat
 |none=>d
 |some v=>if v<0 then(v+(n:Int)).toNat else min v.toNat n
def aMX(n d:Nat)(hd:d<=n)(o:Option Int):sIx n d o<=n:=by
 cases o with
 |none=>exact hd
 |some v=>
  show(if v<0 then(v+(n:Int)).toNat else min v.toNat n)<=n
  by_cases hv:v<0
  .rw[if_pos hv];lia
  .rw[if_neg hv];exact Nat.min_le_right _ _
def aEp(v:Int)(n d:Nat):(if v<0 then max (v+(n:Int)) 0 else min v (n:Int))=((sIx n d (some v):Nat):Int):=by
 show(if v<0 then max (v+(n:Int)) 0 else min v (n:Int))=(((if v<0 then(v+(n:Int)).toNat else min v.toNat n):Nat):Int)
 by_cases hv:v<0
 .simp only[if_pos hv];lia
 .simp only[if_neg hv];lia
def aDp(lo hi:Option Int)(n:Nat):zDL lo hi 1 (n:Int)=(((sIx n 0 lo:Nat):Int),((sIx n n hi:Nat):Int)):=by
 have h1:¬((1:Int)<0):=by lia
 unfold zDL;simp only[h1,if_false];refine zFI ?_ ?_
 .cases lo with
  |none=>rfl
  |some v=>exact aEp v n 0
 .cases hi with
  |none=>rfl
  |some v=>exact aEp v n n
def aDU(i j:Nat):zCP (i:Int) (j:Int) 1=j-i:=by
 unfold zCP;have h1:(1:Int)>0:=by lia
 simp only[h1,if_true,Int.ediv_one];split<;>lia
def wX(p:zFd v o)(h:Q o s):wpAny (model prog w) A (zHu v) Q E s:=by
 cases p with
 |none=>exact slicePart_none h
 |int i t=>exact slicePart_int h
def lV{sl:Addr}{vl vu:Value}{lo hi:Option Int}{n:Nat}{Q:Int×Int×Nat->zAG->Prop}(hs:s.heap.IsSliceOf sl vl vu .none)(pl:zFd vl lo)(pu:zFd vu hi)
  (h:Q (((sIx n 0 lo:Nat):Int),1,sIx n n hi-sIx n 0 lo) s):wpAny (model prog w) A (zE3 (.ref sl) (pure (n:Int))) Q E s:=by
 obtain⟨os,hos,hcs,hds⟩:=id hs;unfold zE3 zHt;refine zAB (zAB (zDV hos hds (x:=vl) rfl (zAB (zDV hos hds (x:=vu) rfl (zAB (zDV hos hds (x:=.none) rfl (zAH ?_)))))));refine zAB (slicePart_none ?_);show wpAny _ _ (if ((1:Int)==0)=true then _ else _) _ _ s;rw[if_neg (by decide)];refine zAB (wX pl (zAB (wX pu (zAB (zAH ?_)))));show wpAny _ _ (match zDL lo hi 1 (n:Int)with|(lo,hi)=>pure (lo,(1:Int),zCP lo hi 1)) _ _ s;rw[aDp lo hi n];show wpAny _ _ (pure (((sIx n 0 lo:Nat):Int),(1:Int),zCP ((sIx n 0 lo:Nat):Int) ((sIx n n hi:Nat):Int) 1)) _ _ s;rw[aDU];exact zAH h
def aHL(xs:Array Value)(i k:Nat):((zAw k).filterMap λ(m:Nat)=>xs[((i:Int)+(m:Int)*1).toNat]?).toArray=((xs.toList.drop i).take k).toArray:=by
 have e:(λ(m:Nat)=>xs[((i:Int)+(m:Int)*1).toNat]?)=λ m=>xs[i+m]?:=by
  funext m
  have:((i:Int)+(m:Int)*1).toNat=i+m:=by lia
  rw[this]
 rw[e]
 have:=pick_run xs i k
 rw[List.filterMap_map]at this;have e2:((λ x=>xs[x]?)∘λ x=>i+x)=λ m=>xs[i+m]?:=rfl
 rw[e2]at this;rw[this]
def sJ{t sl:Addr}{items:Array Value}{vl vu:Value}{lo hi:Option Int}{Q:Value->zAG->Prop}(ht:IsTup s.heap t items)(hs:s.heap.IsSliceOf sl vl vu .none)(pl:zFd vl lo)(pu:zFd vu hi)
  (hw:¬(sIx items.size 0 lo=0/\sIx items.size items.size hi=items.size))
  (h:Q (.ref s.heap.objs.size) {s with heap:=s.heap.push {cls:=.type "tuple",data:=.seq ((items.toList.drop (sIx items.size 0 lo)).take (sIx items.size items.size hi-sIx items.size 0 lo)).toArray}})
  (hsz:items.size<=zAO):wpAny (model prog w) A (zEU (.ref t) (.ref sl)) Q E s:=by
 have b5:sizeOk (.seq ((items.toList.drop (sIx items.size 0 lo)).take (sIx items.size items.size hi-sIx items.size 0 lo)).toArray):=by
  show((items.toList.drop (sIx items.size 0 lo)).take (sIx items.size items.size hi-sIx items.size 0 lo)).toArray.size<=zAO
  rw[zAK,zEB,zEz,zB5];lia
 have hj:sIx items.size items.size hi<=items.size:=aMX _ _ (zAV _) hi;obtain⟨os,hos,hcs,hds⟩:=id hs;have hTs:s.TypeIs (.ref sl) "slice":=⟨os,hos,hcs⟩;unfold zEU
 try with_reducible refine zBS ?_
 first|refine zAB (zAH ?_)|skip
 refine zAB (zIP ht.typeIs (by decide) ?_);refine zAB (zBl (name:=zDi "__getitem__") ht.typeIs zBX
  (zB8 zBX ht.typeIs zHa ?_ (zHp _ _)))
 show wpAny _ _ (zE4 (.ref t)>>=_) _ _ s;refine zAB (tupleItemsOf_ ht ?_);refine zAB (zDx hTs ?_);rw[if_pos (by decide)];refine zAB (lV hs pl pu ?_);have hno:¬((((sIx items.size 0 lo:Nat):Int)==0&&(1:Int)==1&&(sIx items.size items.size hi-sIx items.size 0 lo)==items.size)=true):=by
  intro q;rw[zAW,zAW]at q;have q1:((sIx items.size 0 lo:Nat):Int)=0:=zFL q.1.1;have q2:sIx items.size items.size hi-sIx items.size 0 lo=items.size:=zFL q.2;exact hw ⟨by lia,by lia⟩
 show wpAny _ _ (if (((sIx items.size 0 lo:Nat):Int)==0&&(1:Int)==1&&(sIx items.size items.size hi-sIx items.size 0 lo)==items.size)=true then _ else _) _ _ s;rw[if_neg hno,aHL]
 first
  |exact zAB (m:=zB4 _) (zAn (zAH ⟨_,rfl,zAH h⟩) b5)
  |exact zAB (m:=zB4 _) (zAn (zAB (zAH (zAH ⟨_,rfl,zAH h⟩))) b5)
  |exact zAB (zAB (m:=zB4 _) (zAn (zAH (zAH ⟨_,rfl,zAH h⟩)) b5))
  |exact zAB (zAB (m:=zB4 _) (zAn (zAH ⟨_,rfl,zAH h⟩) b5))
end
end HT
namespace L2
open PySem PySem.Spec PyProof.Rows
abbrev TO:=St->Hp->(Option Int->Hp->Prop)->Prop
def PO(X:Cx)(e:Option Expr)(t:TO):Prop:=
 ∀(iX:hZ) (s:zAG) (Z:St) (H:Hp) (Q:Option Int->Hp->Prop),Inv X iX Z H s->t Z H Q->
  wpAny (model X.prog X.w) X.A (evalPart e X.env) (λ u s'=>∃o H',Inv X iX Z H' s'/\zFd u o/\Q o H') X.xe s
def aJF:TO:=λ _ H Q=>Q none H
def aON(t:TE):TO:=λ Z H Q=>t Z H λ x H1=>∃i,x= .int i/\Q (some i) H1
def intsAre_of:∀{us:List Value},Vals (ns.map V.int) us->zBD us ns:=by
 induction ns with
 |nil=>intro us r;rw[zEL]at r;cases r;exact .nil
 |cons n ns ih=>
  intro us r;rw[zAD]at r;cases r with
  |cons r1 r2=>
   obtain⟨t,e⟩:=r1;subst e;exact .cons n t (ih r2)
section
variable{X:Cx}{e:Expr}{te:TE}{lo hi:Option Expr}{tl th:TO}{pos p2:Pos}
def aJq:PO X none aJF:=by
 intro iX s Z H Q I h;rw[evalPart_none];exact zAH ⟨none,H,I,.none,h⟩
def aJp(h:PE X e te):PO X (some e) (aON te):=by
 intro iX s Z H Q I hw;rw[evalPart_some];refine thn (h iX s Z H _ I hw) λ u s1 ⟨x,H1,I1,r1,q1⟩=>?_
 obtain⟨i,rfl,q⟩:=q1;obtain⟨t,rfl⟩:=r1;exact⟨some i,H1,I1,.int i t,q⟩
def SlR(X:Cx)(r:V->Option Int->Option Int->Hp->VK->Prop):Prop:=
 ∀(iX:hZ) (s:zAG) (Z:St) (H:Hp) (x:V) (v vl vu:Value) (lo hi:Option Int) (sl:Addr) (Q:VK),Inv X iX Z H s->RelV x v->s.heap.IsSliceOf sl vl vu .none->zFd vl lo->zFd vu hi->r x lo hi H Q->
  ∃T id,zEi (.type T) "__getitem__"=pure (some (.builtin id))/\s.TypeIs v T/\wpAny (model X.prog X.w) X.A (zEU v (.ref sl)) (EP X iX Z Q) X.xe s
def SlR.or(h:SlR X r)(h':SlR X r'):SlR X (λ x lo hi H Q=>r x lo hi H Q\/r' x lo hi H Q):=by
 intro iX s Z H x v vl vu lo hi sl Q I rx hs pl pu q;rcases q with q|q
 .exact h iX s Z H x v vl vu lo hi sl Q I rx hs pl pu q
 .exact h' iX s Z H x v vl vu lo hi sl Q I rx hs pl pu q
def tSl(r:V->Option Int->Option Int->Hp->VK->Prop)(te:TE)(tl th:TO):TE:=λ Z H Q=>te Z H λ x H1=>tl Z H1 λ l H2=>th Z H2 λ u H3=>r x l u H3 Q
def aHP(hr:SlR X r)(he:PE X e te)(hl:PO X lo tl)(hu:PO X hi th):PE X (.Subscript e (.Slice lo hi none p2) pos) (tSl r te tl th):=by
 intro iX s Z H Q I h;refine zIG (thn (he iX s Z H _ I h) λ v s1 ⟨x,H1,I1,r1,q1⟩=>?_);refine wpAny_Slice (thn (hl iX s1 Z H1 _ I1 q1) λ vl s2 ⟨l,H2,I2,pl,q2⟩=>thn (hu iX s2 Z H2 _ I2 q2) λ vu s3 ⟨u,H3,I3,pu,q3⟩=>?_);rw[evalPart_none];refine zAH ?_;have I4:Inv X iX Z H3 {s3 with heap:=s3.heap.push {cls:=.type "slice",data:=.fields #[vl,vu,.none]}}:=I3.kept (t':=s3.toks) λ b ob q=>zAC _ q
 obtain⟨T,id,hT,ht,hg⟩:=hr iX {s3 with heap:=s3.heap.push {cls:=.type "slice",data:=.fields #[vl,vu,.none]}} Z H3 x v vl vu l u s3.heap.objs.size Q I4 r1 (zHh ..) pl pu q3;show wpAny (model X.prog X.w) X.A (zGw e (.Slice lo hi none p2) v (.ref s3.heap.objs.size)) (EP X iX Z Q) X.xe {s3 with heap:=s3.heap.push {cls:=.type "slice",data:=.fields #[vl,vu,.none]}};exact tail_any (ops:=[.ref s3.heap.objs.size,v]) ht hT hg (by with_unfolding_all rfl)
def yg(xs:List V)(lo hi:Option Int):List V:=(xs.drop (HT.sIx xs.length 0 lo)).take (HT.sIx xs.length xs.length hi-HT.sIx xs.length 0 lo)
def vR(xs:List V)(lo hi:Option Int):(yg xs lo hi).length<=xs.length:=by
 unfold yg;rw[zEB,zEz];lia
def aJb(K:zAA):R2:=λ x y H Q=>∃a b ns ms,x= .ref a/\y= .ref b/\SqT K H a (ns.map V.int)/\SqT K H b (ms.map V.int)/\Q (.bl (HT.lexLt ns ms)) H
def aNC(hu:X.A.units<cLine):OpR X (zAm .Lt) (aJb X.K):=by
 intro iX s Z H x y v u Q I rx ry h;obtain⟨a,b,ns,ms,rfl,rfl,ha,hb,q⟩:=h;cases rx;cases ry;obtain⟨its,r1,p1,_⟩:=I.tuple ha;obtain⟨its2,r2,p2,_⟩:=I.tuple hb;have i1:zBD its.toArray.toList ns:=intsAre_of r1;have i2:zBD its2.toArray.toList ms:=intsAre_of r2;exact HT.aD5 p1 p2 i1 i2 hu ⟨.bl (HT.lexLt ns ms),H,I,rfl,q⟩
def aOd(K:zAA):R2:=λ x y H Q=>∃a b xs ys,x= .ref a/\y= .ref b/\SqT K H a xs/\SqT K H b ys/\xs≠[]/\xs.length+ys.length<=zAO/\
 (ys=[]->Q (.ref a) H)/\(ys≠[]->∀p,H p=none->Q (.ref p) (upd H p (.tup (xs++ys))))
def Vals.nil_iff(r:Vals xs us):us=[]↔xs=[]:=by
 cases r with
 |nil=>simp
 |cons _ _=>simp
def aKI:OpR X (zCG .Add) (aOd X.K):=by
 intro iX s Z H x y v u Q I rx ry h;obtain⟨a,b,xs,ys,rfl,rfl,ha,hb,hx,hz,q1,q2⟩:=h;cases rx;cases ry;obtain⟨its,r1,p1,_⟩:=I.tuple ha;obtain⟨its2,r2,p2,_⟩:=I.tuple hb;refine HT.aLA p1 p2 (λ z=>hx (r1.nil_iff.mp z)) (λ z=>⟨.ref a,H,I,rfl,q1 (r2.nil_iff.mp z)⟩) (λ z=>?_) (by rw[<-r1.length,<-r2.length];exact hz);refine⟨.ref s.heap.objs.size,_,I.laid (t':=s.toks) (o:=.tup (xs++ys)) (λ b ob q=>zAC _ q) (zAV _) ?_,rfl,q2 (λ w=>z (r2.nil_iff.mpr w)) _ (I.hok.fresh (zAV _))⟩;exact⟨⟨by rw[zAZ];exact hz,NoD.push _⟩,_,r1.append r2,zHO _ _⟩
end
def ixN(n:Nat)(i:Int):Option Nat:=if 0<=i then(if i<n then some i.toNat else none)else if -(n:Int)<=i then some (i+n).toNat else none
def atI{α:Type}(xs:List α)(i:Int):Option α:=(ixN xs.length i).bind λ j=>xs[j]?
def aBO(h:ixN n i=some j):seqIndex? i n=some j/\j<n/\-(n:Int)<=i/\i<n:=by
 unfold ixN at h;by_cases h0:0<=i
 .rw[if_pos h0]at h
  by_cases h1:i<n
  .rw[if_pos h1]at h
   have e:i.toNat=j:=zAe h;exact⟨by rw[zGI h0 h1,e],by lia,by lia,h1⟩
  .rw[if_neg h1]at h;cases h
 .rw[if_neg h0]at h
  by_cases h1: -(n:Int)<=i
  .rw[if_pos h1]at h
   have e:(i+n).toNat=j:=zAe h;exact⟨by rw[zFh (by lia) h1,e],by lia,h1,by lia⟩
  .rw[if_neg h1]at h;cases h
def aB7(h:atI xs i=some v):∃j,seqIndex? i xs.length=some j/\xs[j]? =some v/\j<xs.length/\-(xs.length:Int)<=i/\i<xs.length:=by
 unfold atI at h;cases e:ixN xs.length i with
 |none=>rw[e]at h;cases h
 |some j=>
  rw[e]at h;obtain⟨h1,h2,h3,h4⟩:=aBO e;exact⟨j,h1,h,h2,h3,h4⟩
def aEs{α:Type}{xs:List α}{j:Nat}{v:α}(h:xs[j]? =some v):atI xs (j:Int)=some v:=by
 have hj:j<xs.length:=(zAL.mp h).1;have e:ixN xs.length (j:Int)=some j:=by
  unfold ixN;rw[if_pos (by lia),if_pos (by lia)];simp
 unfold atI;rw[e];exact h
def wH(b:Expr):Prop:=∀o i,zGJ b false o i=operate [o,i] (zEU o i)
def IxR(X:Cx)(r:R2):Prop:=
 ∀(value slice:Expr) (iX:hZ) (s:zAG) (Z:St) (H:Hp) (x y:V) (v u:Value) (Q:VK),Inv X iX Z H s->RelV x v->RelV y u->r x y H Q->
  zGJ slice false v u=operate [v,u] (zEU v u)->wpAny (model X.prog X.w) X.A (zGw value slice v u) (EP X iX Z Q) X.xe s
def MtR(X:Cx)(id:String)(r:V->List V->Hp->VK->Prop):Prop:=
 ∀(iX:hZ) (s:zAG) (Z:St) (H:Hp) (x:V) (xs:List V) (v:Value) (us:List Value) (Q:VK),Inv X iX Z H s->RelV x v->Vals xs us->r x xs H Q->
  wpAny (model X.prog X.w) X.A (call (.builtin id) (v::us)) (EP X iX Z Q) X.xe s
section
variable{X:Cx}{a b:Expr}{ta tb:TE}{pos:Pos}
def IxR.or(h:IxR X r)(h':IxR X r'):IxR X (λ x y H Q=>r x y H Q\/r' x y H Q):=by
 intro value slice iX s Z H x y v u Q I rx ry q hs;rcases q with q|q
 .exact h value slice iX s Z H x y v u Q I rx ry q hs
 .exact h' value slice iX s Z H x y v u Q I rx ry q hs
def aLd{r:R2}(hr:IxR X r)(ha:PE X a ta)(hb:PE X b tb)(hs:wH b):PE X (.Subscript a b pos) (tOp r ta tb):=by
 intro iX s Z H Q I h;exact zIG (aNy ha hb I h λ v u s2 x y H2 I2 rx ry q=>hr a b iX s2 Z H2 x y v u Q I2 rx ry q (hs _ _))
def aM5(K:zAA):R2:=λ x y H Q=>∃p xs i v,x= .ref p/\y= .int i/\SqL K H p xs/\atI xs i=some v/\Q v H
def aOb(K:zAA):R2:=λ x y H Q=>∃p xs i v,x= .ref p/\y= .int i/\SqT K H p xs/\atI xs i=some v/\Q v H
def aOc:R2:=λ x y H Q=>∃z i c,x= .str z/\y= .int i/\z.length<=zAO/\atI z.cps.toList i=some c/\Q (.str ⟨#[c]⟩) H
def aE8:IxR X (aM5 X.K):=by
 intro value slice iX s Z H x y v u Q I rx ry h hs;obtain⟨p,xs,i,z,rfl,rfl,hq,he,q⟩:=h;cases rx;obtain⟨t,rfl⟩:=ry;obtain⟨its,r,pl,hz⟩:=I.list hq;obtain⟨j,h1,h2,h3,h4,h5⟩:=aB7 he;obtain⟨w,ew,rw'⟩:=r.get h2;have hl:=r.length;have hn:=qu;have fin:EP X iX Z Q w s:=⟨z,H,I,rw',q⟩;by_cases h0:0<=i
 .have hj:i.toNat=j:=by
   rw[zGI h0 h5]at h1;exact zAe h1
  exact item_listR pl.isList h0 (by lia) (by rw[hj];simpa using ew) fin hs
 .have hj:(i+(its.toArray.size:Int)).toNat=j:=by
   rw[zFh (by lia) h4]at h1;rw[zAK,<-hl];exact zAe h1
  exact zHJ (x:=w) pl.isList.typeIs zIJ.lookup
   (zHK (Q:=λ r s'=>r=w/\EP X iX Z Q r s') pl.isList (by lia) (by rw[zAK]<;>lia) (by lia) (by rw[hj];simpa using ew) ⟨rfl,fin⟩) hs
def aN8:IxR X (aOb X.K):=by
 intro value slice iX s Z H x y v u Q I rx ry h hs;obtain⟨p,xs,i,z,rfl,rfl,hq,he,q⟩:=h;cases rx;obtain⟨t,rfl⟩:=ry;obtain⟨its,r,pl,hz⟩:=I.tuple hq;obtain⟨j,h1,h2,h3,h4,h5⟩:=aB7 he;obtain⟨w,ew,rw'⟩:=r.get h2;have hl:=r.length;have hn:=qu;have fin:EP X iX Z Q w s:=⟨z,H,I,rw',q⟩;exact zHJ (x:=w) pl.typeIs slot_tuple_getitem.lookup
  (getItem_tuple (j:=j) (Q:=λ r s'=>r=w/\EP X iX Z Q r s') pl (by lia) (by lia) (by rw[zAK,<-hl];exact h1) (by simpa using ew) ⟨rfl,fin⟩) hs
def aN9:IxR X aOc:=by
 intro value slice iX s Z H x y v u Q I rx ry h hs;obtain⟨z,i,c,rfl,rfl,hz,he,q⟩:=h;obtain⟨t,rfl⟩:=rx;obtain⟨t',rfl⟩:=ry;obtain⟨j,h1,h2,h3,h4,h5⟩:=aB7 he;have hl:z.cps.toList.length=z.length:=by simp[Str.length]
 rw[hl]at h1 h4 h5;have hn:=qu;exact tail_any (typeIs_str s z t) slot_str_getitem.lookup (getItem_str (c:=c) (by
  have e1:decide (i < -(2^63:Int))=false:=decide_eq_false (by lia);have e2:decide (i ≥ 2^63)=false:=decide_eq_false (by lia);rw[e1,e2,Bool.or_false]) (by rw[h1];simpa using h2) ⟨.str ⟨#[c]⟩,H,I.tok _,⟨_,rfl⟩,q⟩) hs
def rIx(K:zAA):R2:=λ x y H Q=>aM5 K x y H Q\/aOb K x y H Q\/aOc x y H Q
def aNa:IxR X (rIx X.K):=aE8.or (aN8.or aN9)
def aD3(its:List Value)(n j:Nat)(u:Value):zBR (·.setIfInBounds j u) {cls:=.type "list",data:=.seq its.toArray n}={cls:=.type "list",data:=.seq (its.set j u).toArray n}:=by
 simp[zBR]
theorem Inv.lst(I:Inv X iX Z H s)(h:H p=some (.lst xs)):
  ∃(its:List Value) (n:Nat),Vals xs its/\s.heap.get? p=some {cls:=.type "list",data:=.seq its.toArray n}/\xs.length<=zAO:=by
 obtain⟨z,its,n,r,e⟩:=I.hok p _ h;exact⟨its,n,r,e,z⟩
def Inv.lstUpd{iX:hZ}{Z:St}{H:Hp}{s:zAG}{p:Addr}{xs ys:List V}{its its':List Value}{n n':Nat}{f:Obj->Obj}(I:Inv X iX Z H s)(h:H p=some (.lst xs))
  (ho:s.heap.get? p=some {cls:=.type "list",data:=.seq its.toArray n})(hf:f {cls:=.type "list",data:=.seq its.toArray n}={cls:=.type "list",data:=.seq its'.toArray n'})(r:Vals ys its')(hz:ys.length<=zAO)(t:Nat):
  Inv X iX Z (upd H p (.lst ys)) {s with heap:=s.heap.update p f,toks:=t}:=by
 have e:(s.heap.update p f).get? p=some {cls:=.type "list",data:=.seq its'.toArray n'}:=by
  rw[zEJ f ho (by rw[hf]<;>rfl),hf]
 refine I.write (x:=p) (e:=p) (by rw[h];trivial) (.inl rfl) (λ b u hb q=>(zGA _ _ (zCq hb)).trans q) ⟨_,e⟩ ?_;exact⟨hz,its',n',r,e⟩
def aLZ:V->V->V->Hp->(Hp->Prop)->Prop:=λ o i v H Q=>∃p xs k j,o= .ref p/\i= .int k/\H p=some (.lst xs)/\ixN xs.length k=some j/\Q (upd H p (.lst (xs.set j v)))
def set_list:aLG X aLZ:=by
 intro iX s Z H o i v ov iv u Q I ro ri rv h;obtain⟨p,xs,k,j,rfl,rfl,hp,hj,q⟩:=h;cases ro;obtain⟨t,rfl⟩:=ri;obtain⟨its,n,r,ho,hz⟩:=I.lst hp;obtain⟨h1,h2,h3,h4⟩:=aBO hj;have hl:=r.length;have hn:=qu;have I':Inv X iX Z (upd H p (.lst (xs.set j v))) {s with heap:=s.heap.update p (zBR (·.setIfInBounds j u))}:=
  I.lstUpd hp ho (aD3 its n j u) (r.set rv j) (by rw[zBC];exact hz) s.toks
 by_cases h0:0<=k
 .have hk:k.toNat=j:=by
   rw[zGI h0 h4]at h1;exact zAe h1
  exact PySem.W.ki_setAt ho h0 (by lia) (by rw[zAK,<-hl];exact h4) (by rw[hk];exact⟨_,I',q⟩)
 .have hk:(k+(its.toArray.size:Int)).toNat=j:=by
   rw[zFh (by lia) h3]at h1;rw[zAK,<-hl];exact zAe h1
  exact PySem.W.ki_setBack ho (by lia) (by rw[zAK,<-hl];exact h3) (by lia) (by rw[hk];exact⟨_,I',q⟩)
def aAj(lo hi:Option Int)(n:Nat):(zDm lo hi none n).1=((HT.sIx n 0 lo:Nat):Int)/\(zDm lo hi none n).2.1=((HT.sIx n n hi:Nat):Int)/\(zDm lo hi none n).2.2=1:=by
 refine⟨?_,?_,rfl⟩
 .cases lo with
  |none=>simp[zDm,HT.sIx]
  |some i=>
   simp only[zDm,HT.sIx,zGs,show(1:Int)>0 by decide,if_true];by_cases h:i<0
   .simp only[h,if_true]<;>lia
   .simp only[h,if_false]<;>lia
 .cases hi with
  |none=>simp[zDm,HT.sIx]
  |some i=>
   simp only[zDm,HT.sIx,zGs,show(1:Int)>0 by decide,if_true];by_cases h:i<0
   .simp only[h,if_true]<;>lia
   .simp only[h,if_false]<;>lia
def yx(its:List Value)(lo hi:Option Int):slicePick its.toArray lo hi none=((its.drop (HT.sIx its.length 0 lo)).take (HT.sIx its.length its.length hi-HT.sIx its.length 0 lo)).toArray:=by
 obtain⟨h1,h2,h3⟩:=aAj lo hi its.toArray.size;unfold slicePick;rw[h1,h2,h3];simp only[sliceRange_one,pick_run,zAK]<;>rfl
def aO7(K:zAA):V->Option Int->Option Int->Hp->VK->Prop:=λ x lo hi H Q=>∃a xs,x= .ref a/\SqL K H a xs/\∀p,H p=none->Q (.ref p) (upd H p (.lst (yg xs lo hi)))
def aJN:SlR X (aO7 X.K):=by
 intro iX s Z H x v vl vu lo hi sl Q I rx hs pl pu h;obtain⟨a,xs,rfl,hx,q⟩:=h;cases rx;obtain⟨its,r,ht,hz⟩:=I.list hx;have kQ:=r.length;refine⟨"list",_,zIJ.lookup,ht.isList.typeIs,?_⟩;refine wpAny_getItem_list_slice ht.isList hs pl pu .none (by simp) ?_ (by rw[zAK]<;>lia);rw[yx,<-kQ];refine⟨.ref s.heap.objs.size,_,I.laid (t':=s.toks) (o:=.lst (yg xs lo hi)) (λ b ob q=>zAC _ q) (zAV _) ?_,rfl,q _ (I.hok.fresh (zAV _))⟩;exact⟨zAh (vR xs lo hi) hz,_,0,(r.drop (HT.sIx xs.length 0 lo)).take (HT.sIx xs.length xs.length hi-HT.sIx xs.length 0 lo),zAN _ rfl⟩
def tY:cZ X (.builtin "len") (λ xs H Q=>∃p ys,xs=[.ref p]/\(SqL X.K H p ys\/SqT X.K H p ys)/\Q (.int ys.length) H):=by
 intro iX s Z H xs us Q I r h;obtain⟨p,ys,rfl,hq,q⟩:=h;obtain⟨u,rfl,rx⟩:=vals1 r;cases rx;have hn:=qu;rcases hq with hq|hq
 .obtain⟨its,r',pl,hz⟩:=I.list hq
  have kQ:=r'.length;exact Calls.call_len_list pl.isList (by simp only[zAK]<;>lia) ⟨.int ys.length,H,I.tok _,⟨s.toks+1,by rw[zAK,kQ]⟩,q⟩
 .obtain⟨its,r',pl,hz⟩:=I.tuple hq
  have kQ:=r'.length;exact len_tuple pl (by simp only[zAK]<;>lia) ⟨.int ys.length,H,I.tok _,⟨s.toks+1,by rw[zAK,kQ]⟩,q⟩
def cZ.or(h:cZ X f r)(h':cZ X f r'):cZ X f (λ xs H Q=>r xs H Q\/r' xs H Q):=by
 intro iX s Z H xs us Q I rs q;rcases q with q|q
 .exact h iX s Z H xs us Q I rs q
 .exact h' iX s Z H xs us Q I rs q
def zm:cZ X (.type "tuple") (λ xs H Q=>∃p ys,xs=[.ref p]/\((SqL X.K H p ys/\∀l,H l=none->Q (.ref l) (upd H l (.tup ys)))\/(SqT X.K H p ys/\Q (.ref p) H))):=by
 intro iX s Z H xs us Q I r h;obtain⟨p,ys,rfl,h⟩:=h;obtain⟨u,rfl,rx⟩:=vals1 r;cases rx;rcases h with ⟨hq,q⟩|⟨hq,q⟩
 .obtain⟨its,r',pl,hz⟩:=I.list hq
  have kQ:=r'.length;refine call_tuple_list pl.isList (λ h' kp=>?_) (by simp only[zAK]<;>lia);have I1:Inv X iX Z H {s with heap:=h'}:=I.kept (t':=s.toks) kp;have I2:Inv X iX Z (upd H h'.objs.size (.tup ys)) {s with heap:=h'.push {cls:=.type "tuple",data:=.seq its.toArray}}:=
   I1.laid (t':=s.toks) (λ b o e=>zAC _ e) (zAV _) (show bw X.prog X.w _ _ _ (.tup ys)from⟨⟨hz,NoD.push _⟩,its,r',zHO _ _⟩)
  exact⟨.ref h'.objs.size,_,I2,rfl,q _ (I1.hok.fresh (zAV _))⟩
 .obtain⟨its,r',pl,hz⟩:=I.tuple hq
  exact call_tuple_same pl ⟨.ref p,H,I,rfl,q⟩
def tyV(K:zAA)(T:String)(x:V)(H:Hp):Prop:=match x with
 | .str _=>T="str"
 | .int _=>T="int"
 | .ref p=>(T="list"/\∃xs,SqL K H p xs)\/(T="tuple"/\∃o,K.lookup p=some o/\o.cls= .type "tuple"/\o.dict=none)\/
   (T="dict"/\((∃kvs,H p=some (.dK kvs))\/∃kvs,H p=some (.dT kvs)))\/(T="set"/\∃S n,H p=some (.set S n))
 |_=>False
def aLy(I:Inv X iX Z H s)(r:RelV x v)(ty:tyV X.K T x H):
  s.TypeIs v T/\∀a,v= .ref a->∃ob,s.heap.get? a=some ob/\ob.dict=none:=by
 cases x with
 |str z=>
  obtain⟨t,rfl⟩:=r;cases (show T="str" from ty);exact⟨typeIs_str s z t,λ _ e=>nomatch e⟩
 |int i=>
  obtain⟨t,rfl⟩:=r;cases (show T="int" from ty);exact⟨zIK s i t,λ _ e=>nomatch e⟩
 |ref p=>
  cases r;rcases ty with ⟨rfl,xs,hq⟩|⟨rfl,o,hk,hc,hd⟩|⟨rfl,hk⟩|⟨rfl,S,n,hk⟩
  .obtain⟨its,_,pl,_⟩:=I.list hq
   refine⟨pl.isList.typeIs,λ a e=>?_⟩;cases e;obtain⟨o,n,e,c,hd,_⟩:=pl;exact⟨o,e,hd⟩
  .refine⟨⟨o,I.kIn p o hk,hc⟩,λ a e=>?_⟩
   cases e;exact⟨o,I.kIn _ o hk,hd⟩
  .have z:∃o,s.heap.get? p=some o/\o.ExactDict:=by
    rcases hk with ⟨kvs,hk⟩|⟨kvs,hk⟩
    .obtain⟨_,_,_,_,o,_,_,e,ex,_⟩:=I.hok p _ hk
     exact⟨o,e,ex⟩
    .obtain⟨_,_,_,_,o,_,_,e,ex,_⟩:=I.hok p _ hk
     exact⟨o,e,ex⟩
   obtain⟨o,e,ex⟩:=z;refine⟨⟨o,e,ex.1⟩,λ a e2=>?_⟩;cases e2;exact⟨o,e,ex.2.1⟩
  .obtain⟨o,_,_,_,e,ex,_⟩:=I.hok p _ hk
   refine⟨⟨o,e,ex.1⟩,λ a e2=>?_⟩;cases e2;exact⟨o,e,ex.2.1⟩
 |_=>exact zAI ty
def tBM(K:zAA)(T:String)(r:V->List V->Hp->VK->Prop)(to:TE)(t:TA):TE:=λ Z H Q=>to Z H λ x H1=>tyV K T x H1/\t Z H1 λ xs H2=>r x xs H2 Q
variable{o e:Expr}{es:List Expr}{to:TE}{t:TA}{name:Str}{apos cpos:Pos}{T id:String}{r:V->List V->Hp->VK->Prop}
def aCN(pa:PlainAttrs T)(slot:Slot T name id)(hty:typeOf (.builtin id)=pure (.type "method_descriptor"))(hm:MtR X id r)(ho:PE X o to)(ha:PA X (e::es) t)
  (hbase:zB2 o name X.env (eval o X.env)=eval o X.env:=by rfl)
  (hfew:((zBu cpos (zAT (e::es) X.env)).all (λ x=>!x.1)&&(zET cpos (zCp [] X.env)).all (λ x=>x.1.isSome)
   &&decide ((e::es).length+([]:List zBz).length+(if ([]:List zBz).isEmpty then 0 else 1)<30))=true:=by rfl)
  (hline:(apos.endLine==cpos.line)=true:=by rfl)(hs:zAT (e::es) X.env=(false,eval e X.env)::zAT es X.env:=by rfl)(hplain:(zBu cpos (zAT es X.env)).any (·.1)=false:=by rfl):
  PE X (.Call (.Attribute o name apos) (e::es) [] cpos) (tBM X.K T r to t):=by
 intro iX s Z H Q I h;refine wpAny_Call_method_late hbase hfew hline rfl (thn (ho iX s Z H _ I h) λ v s1 ⟨x,H1,I1,r1,ty,q1⟩=>?_);obtain⟨h1,h2⟩:=aLy I1 r1 ty;refine⟨T,id,pa,slot,hty,h1,h2,?_⟩;have hA:=ha cpos iX s1 Z H1 _ I1 q1;rw[hs]at hA ⊢;refine zCM (by show(false||(zBu cpos (zAT es X.env)).any (·.1))=false;rw[hplain]<;>rfl) (zEQ ?_);exact thn hA λ us s2 ⟨vs,H2,I2,r2,q2⟩=>hm iX s2 Z H2 x vs v us Q I2 r1 r2 q2
end
def MtM(X:Cx)(id:String)(r:V->List V->Hp->VK->Prop):Prop:=
 ∀(iX:hZ) (s:zAG) (Z:St) (H:Hp) (x:V) (xs:List V) (v:Value) (us:List Value) (Q:VK),Inv X iX Z H s->RelV x v->Vals xs us->r x xs H Q->
  wpAny (model X.prog X.w) X.A (call (.builtin id) (v::us)) (EP X iX Z Q) X.xe s
def Vals.one:∀{x:V} {us:List Value},Vals [x] us->∃u,us=[u]/\RelV x u
 |_,_,.cons r .nil=>⟨_,rfl,r⟩
theorem Vals.eraseIdx:∀{xs:List V} {us:List Value} (i:Nat),Vals xs us->Vals (xs.eraseIdx i) (us.eraseIdx i)
 |_,_,_,.nil=>.nil
 |_,_,0,.cons _ t=>t
 |_,_,i+1,.cons r t=>.cons r (Vals.eraseIdx i t)
theorem Vals.rep(h:Vals xs us):∀k:Nat,Vals (zAS k xs).flatten (zAS k us).flatten
 |0=>.nil
 |k+1=>by
  rw[zBj,zBj,zBH,zBH];exact Vals.append h (Vals.rep h k)
theorem foldl_rep(its:List Value):∀(k:Nat) (acc:List Value),
  zHC (λ x1 x2=>x1++x2) acc.toArray (zAS k its.toArray)=(acc++(zAS k its).flatten).toArray
 |0,acc=>by simp
 |k+1,acc=>by
  have e:acc.toArray++its.toArray=(acc++its).toArray:=by simp
  have e2:(acc++its)++(zAS k its).flatten=acc++(zAS (k+1) its).flatten:=by
   rw[zBj,zBH,zBP]
  rw[<-e2,<-foldl_rep its k (acc++its),<-e,zBj,zCU]
section
variable{X:Cx}{iX:hZ}{Z:St}{H:Hp}{s:zAG}{l:Addr}{xs ys:List V}
def Inv.lset{its its':List Value}{n:Nat}{f:Array Value->Array Value}{t':Nat}(I:Inv X iX Z H s)(hH:H l=some (.lst xs))
  (e:s.heap.get? l=some {cls:=.type "list",data:=.seq its.toArray n})(hf:f its.toArray=its'.toArray)(hv:Vals ys its')(hz:ys.length<=zAO):
  Inv X iX Z (upd H l (.lst ys)) {s with heap:=s.heap.update l (zBR f),toks:=t'}:=by
 have q:=PySem.IsL.update e f;rw[hf]at q;refine I.write (x:=l) (e:=l) (by rw[hH];exact trivial) (.inl rfl) (λ b' u hb hu=>(zGA s.heap (zBR f) (zCq hb)).trans hu) ⟨_,q⟩ ?_;exact⟨hz,its',_,hv,q⟩
def Inv.lnew(I:Inv X iX Z H s)(hv:Vals ys its)(hz:ys.length<=zAO):
  Inv X iX Z (upd H s.heap.objs.size (.lst ys)) {s with heap:=s.heap.push {cls:=.type "list",data:=.seq its.toArray},toks:=t'}:=
 I.laid (λ _ _ q=>zAC _ q) (zAV _) ⟨hz,its,0,hv,zAN _ rfl⟩
theorem Inv.fresh(I:Inv X iX Z H s):H s.heap.objs.size=none:=I.hok.fresh (zAV _)
def Inv.lstM(I:Inv X iX Z H s)(hH:H l=some (.lst xs)):xs.length<=zAO/\∃(its:List Value) (n:Nat),Vals xs its/\xs.length=its.length/\s.heap.get? l=some {cls:=.type "list",data:=.seq its.toArray n}:=by
 obtain⟨z,its,n,r,e⟩:=I.hok l _ hH;exact⟨z,its,n,r,r.length,e⟩
def aCT(h:n<=zAO):zBo n=false:=by
 unfold zBo;exact decide_eq_false (by lia)
end
section
variable{X:Cx}
def aJd:V->List V->Hp->VK->Prop:=λ x vs H Q=>∃l xs y,x= .ref l/\vs=[y]/\H l=some (.lst xs)/\xs.length<zAO/\Q .non (upd H l (.lst (xs++[y])))
def aAK:MtM X "list.append" aJd:=by
 intro iX s Z H x vs v us Q I rx rv h;obtain⟨l,xs,y,rfl,rfl,hH,hz,q⟩:=h;cases rx;obtain⟨u,rfl,ru⟩:=rv.one;obtain⟨z,its,n,r,hl,e⟩:=I.lstM hH;refine zEh zDz ⟨_,e,rfl⟩ F.entry_list_append (F.args_list_append_2 _ _) (PySem.list_append l its.toArray n u (by rw[zAK];lia)) ⟨e,?_⟩;refine⟨.non,_,I.lset (its':=its++[u]) hH e (by simp) (r.append (.cons ru .nil)) ?_,rfl,q⟩;rw[zAZ,zGR];lia
def aPd:R2:=λ x y H Q=>∃l b xs zs,x= .ref l/\y= .ref b/\H l=some (.lst xs)/\H b=some (.lst zs)/\xs.length+zs.length<=zAO/\∀p,H p=none->Q (.ref p) (upd H p (.lst (xs++zs)))
def aNK:OpR X (zCG .Add) aPd:=by
 intro iX s Z H x y v u Q I rx ry h;obtain⟨l,b,xs,zs,rfl,rfl,hH,hB,hz,q⟩:=h;cases rx;cases ry;obtain⟨z,its,n,r,hl,e⟩:=I.lstM hH;obtain⟨z2,its2,n2,r2,hl2,e2⟩:=I.lstM hB;refine PySem.P.add_list e e2 ?_ (by rw[zAK,zAK];lia);have ea:its.toArray++its2.toArray=(its++its2).toArray:=by simp
 rw[ea];exact⟨.ref _,_,I.lnew (t':=s.toks) (r.append r2) (by rw[zAZ];lia),rfl,q _ I.fresh⟩
def aO8:R2:=λ x y H Q=>∃l k xs,x= .ref l/\y= .int k/\H l=some (.lst xs)/\-(2^63)<=k/\k<2^63/\xs.length*k.toNat<=zAO/\
 ∀p,H p=none->Q (.ref p) (upd H p (.lst (zAS k.toNat xs).flatten))
def len_rep(xs:List α)(k:Nat):(zAS k xs).flatten.length=k*xs.length:=by
 induction k with
 |zero=>simp
 |succ k ih=>rw[zBj,zBH,zAZ,ih,Nat.succ_mul,Nat.add_comm]
def aMw:OpR X (zCG .Mult) aO8:=by
 intro iX s Z H x y v u Q I rx ry h;obtain⟨l,k,xs,rfl,rfl,hH,h1,h2,hz,q⟩:=h;cases rx;obtain⟨t,rfl⟩:=ry;obtain⟨z,its,n,r,hl,e⟩:=I.lstM hH;have kQ:its.toArray.size*k.toNat<=zAO:=by rw[zAK,<-hl];exact hz
 have hcap:¬its.toArray.size*k.toNat>(2^63-1) / 8:=by
  have:(zAO:Nat)<=(2^63-1) / 8:=by decide
  lia
 have hfit:¬(!zDH k)=true:=by
  rw[fitsIndex_both h1 h2];exact zAU
 have b9:¬zBo (its.toArray.size*k.toNat)=true:=by
  rw[aCT kQ];exact zAU
 have hnew:zHC (λ x1 x2=>x1++x2) #[] (zAS (if its.toArray.isEmpty=true then 0 else k.toNat) its.toArray)=(zAS k.toNat its).flatten.toArray:=by
  have f0:∀m:Nat,zHC (λ x1 x2=>x1++x2) #[] (zAS m its.toArray)=(zAS m its).flatten.toArray:=λ m=>by
   have:=foldl_rep its m []
   rw[zCo]at this;exact this
  rw[f0];cases its with
  |nil=>simp
  |cons a r'=>rw[if_neg (by simp)]
 refine wpAny_binaryOp_repeat_ref (T:="list") (U:="int") (by decide) ⟨_,e,rfl⟩ (λ s'=>zIK s' k t) noFill_list_mul F.fills_int_mul zHx repeat_list F.slot_int_index.lookup
  (zEh zHx (zIK s k t) F.entry_int_rmul (F.args_int_rmul_2 _ _) (int___rmul___int_list k t l its.toArray n)
   ⟨e,rfl,⟨_,e,rfl⟩,zEh F.slot_list_mul ⟨_,e,rfl⟩ F.entry_list_mul (F.args_list_mul_2 _ _) (AutoListH.list___mul___list_int_3 l its.toArray n k t hfit hcap b9) ⟨e,?_⟩⟩)
 rw[hnew];exact⟨.ref _,_,I.lnew (t':=s.toks) (r.rep k.toNat) (by rw[len_rep,Nat.mul_comm];exact hz),rfl,q _ I.fresh⟩
end
end L2
namespace Att
open PySem PySem.W PySem.Calls PyProof.Rows
def vg:∀(ns:List Int) (vs:List Value),WellAll P h vs (ns.map WData.int)->zBD vs ns:=by
 intro ns;induction ns with
 |nil=>
  intro vs w;rw[zEL]at w;cases w;exact .nil
 |cons n ns ih=>
  intro vs w;rw[zAD]at w;cases w with
  |cons a b=>
   cases a;exact .cons _ _ (ih _ b)
def aFI{l:OpenLaw}{n:Nat}(hn:l.most=some n){P:Params}{h:Heap}{args:List WData}{vals:List Value}
  (hpre:l.row.toRowW.claim.pre args=true)(hwl:WellAll P h vals args):
  ∃a vs ns,vals=[zAs a]/\args=[WData.list (ns.map WData.int)]/\h.get? a=some {cls:=.type "list",data:=.seq vs.toArray}/\zBD vs ns/\ns.length<=n:=by
 have hsh:WShape.hasAll [] args [.list .int]=true:=(pre_splitW hpre).1;have hc:l.pre.holds [] {args:=args}=true:=(pre_splitW hpre).2;obtain⟨d,r,rfl,h1,h2⟩:=hasAllW_cons hsh;obtain rfl:=hasAllW_nil h2;obtain⟨xs,rfl,h3⟩:=hasW_list h1;obtain⟨ns,rfl⟩:=items_int h3;have kQ:ns.length<=n:=by
  unfold OpenLaw.pre at hc;have h4:(WTm.not (.lt (.lit (.int (n:Int))) (.len (.arg 0)))).holds [] {args:=[.list (ns.map .int)]}=true:=by
   have h4:=(holds_andW hc).1;rw[hn]at h4;exact h4
  have h5:=condW_of h4 (w_not (w_lt w_lit (w_len_list (w_arg rfl))));rw[zAF]at h5;refine zH3 λ q=>?_
  have q':(n:Int)<((ns.length:Nat):Int):=by lia
  first
   |(rw[decide_eq_true q']at h5;exact absurd h5 (by decide))
   |(simp at h5;lia)
 cases hwl with
 |cons w1 w2=>
  cases w2;cases w1 with
  |list ho kK=>exact⟨_,_,ns,rfl,rfl,ho,vg ns _ kK,kQ⟩
def aFQ(l:OpenLaw)(args:List WData):l.row.toRowW.claim.post args (.bool true) args=true:=
 postW_of (r:=l.row.toRowW) (X:=(true==true))
  (show WShape.has [] (.bool true) .bool=true by first|rfl|decide|simp[WShape.has,WShape.arms,WShape.armsAll])
  (show(WTm.eq .res (.lit (.bool true))).value [] {args:=args,res:=some (.bool true),after:=args}=some (.bool (true==true))from w_eq_bool (w_res rfl) w_lit) rfl
def aCo{l:OpenLaw}{n:Nat}{q:zAY}{loose:List Str}{XP:(Str->Option Value)->Heap->Prop}{YP:World->Heap->Prop}{d:DefRec}
  (hn:l.most=some n)(hdf:d.params.defaults=[])
  (call:∀(w:World) (z5 zI:zAG) (mg mb:Str->Option Value) (fa:Addr) (o:Obj) (pm cd doc:Value) (a:Addr) (vs:List Value) (ns:List Int),
   Ground q loose [] XP w z5 mg mb zI.heap->YP w zI.heap->
   zI.heap.get? fa=some o->o.data= .func (docDef d.name d.params d.body d.scope pm cd doc)->zI.heap.CodeRec cd d.name->mg d.name=some (.ref fa)->
   zI.heap.get? a=some {cls:=.type "list",data:=.seq vs.toArray}->zBD vs ns->ns.length<=n->zI.gens=#[]->
   zCI (model l.prog w) zEv (.call (.ref fa) ⟨[.ref a],[]⟩) (λ r s'=>r= .ok (.ret (.bool true))/\OldK zI.heap s'.heap/\s'.os=zI.os/\zE5 s'.gens) zI):
  WalkO q loose XP YP l.row.toRowW d [] (λ f vs=>zGt f vs):=by
 intro w z5 zI mg mb G Y fa o pm cd doc dV kV ho hd hcd hD hmg hg args vals as hpre hlay hrd hwl hlo;obtain rfl:dV= .none:=Dflts.none hD hdf;obtain rfl:kV= .none:=Dflts.noKw hD;obtain⟨a,vs,ns,rfl,rfl,hobj,hints,kQ⟩:=aFI hn hpre hwl;refine enter_call (zDv (call w z5 zI mg mb fa o pm cd doc a vs ns G Y ho (fd_plain hd) hcd hmg hobj hints kQ hg) λ r s' hq=>?_);obtain⟨rfl,h2,h3,h4⟩:=hq;exact⟨.inl ⟨.bool true,.bool true,[],rfl,λ _=>rfl,.bool true,aFQ l _,λ _=>⟨zF2,λ _ hm=>(nomatch hm)⟩⟩,h2,h3,h4⟩
section
variable{prog:zAY}{w:World}{A:zAc}{E:Value->zAG->Prop}{s:zAG}{K:Frag}
def make_obj(X:K.In s.heap)(hm:makesIn K C=true)(hi:findIn K (.ref C) "__init__"=some (some (.ref fI)))(hf:isFn K (.ref fI)=true)
  (h:zCI (model prog w) (A.under (.builtin "type.__call__" ⟨.ref C::rest,kw⟩)) (.call (.ref fI) ⟨.ref (s.heap.objs.size+1)::rest,kw⟩) (InitBack (s.heap.objs.size+1) R)
   {s with heap:=(s.heap.push emptyDict).push (instObj C s.heap.objs.size)}):zCI (model prog w) A (.call (.ref C) ⟨rest,kw⟩) R s:=by
 obtain⟨hh,g,d,t,os⟩:=s;exact make_core (makes_of X hm) (looks_findIn X hi) (λ self=>bind_fn X self (beq_iff_eq.mp hf)) (.inl rfl) h
def get_field(X:K.In s.heap)(I:zHH s.heap x ox C (some (dictOf es n)))(hg:plainGet K C name=true)(hh:hasDictIn K C=true)(ha:findIn K (.ref C) name=some none)
  (hl:getL name es=some (some v))(hv:handedIn v=true)(h:Q v {s with toks:=s.toks+1}):wpAny (model prog w) A (getAttr (.ref x) name expr) Q E s:=
 get_value X I (plainGet_of hg).1 (findObj_own hh ha rfl hl) hv h
def ledger(h:Heap)(L d:Addr):hZ:=(zAw h.objs.size).filterMap λ a=>if a=L\/a=d then none else(h.get? a).map λ o=>(a,o)
end
end Att
namespace L2
open PySem PySem.Spec PyProof.Rows
theorem zy:∀{vs:List Value} {ns:List Int},zBD vs ns->Vals (ns.map V.int) vs
 |_,_,.nil=>.nil
 |_,_,.cons n t h=>.cons ⟨t,rfl⟩ (zy h)
def Only(H:Hp):Prop:=∀b,H b=none\/∃o xs,H b=some (.frz o (.lst xs))
def aHn{P:zAY}{w:World}{K:zAA}{mg mb:Str->Option Value}{CX:CXT}{k:Nat}{fa a:Addr}{fd:zA8}{x:Str}{sp:Sp}{zI:zAG}{vs:List Value}{ns:List Int}
  (KX:K.In zI.heap)(hns:zI.heap.Ns zAd mg)(hb:zI.heap.Ns zII mb)(hbb:∀x:Str,x≠"__name__"->mb x=zAp x)(hlim:zI.heap.NoLimit)(hg:zI.gens=#[])
  (ha:zI.heap.get? a=some {cls:=.type "list",data:=.seq vs.toArray})(hi:zBD vs ns)(hl:ns.length<=zAO)(hr:jy k zEv)
  (F:∀base:Heap,K.In base->base.Ns zAd mg->bU P w K mg base CX k fa fd [x] sp)(hbind:∀(s:zAG) (u:Value),zF1 s fd ⟨[u],[]⟩ [(x,u)])
  (hsp:∀H:Hp,Only H->SqL K H a (ns.map V.int)->sp [.ref a] H (λ v _=>v= .bl true) λ _ _ _=>False)
  (hCX:∀H e s',CX [] H zI (λ _ _ _=>False) e s'->False):
  zCI (model P w) zEv (.call (.ref fa) ⟨[.ref a],[]⟩) (λ r s'=>r= .ok (.ret (.bool true))/\OldK zI.heap s'.heap/\s'.os=zI.os/\zE5 s'.gens) zI:=by
 have rv:=zy hi;have lenV:=hi.length;have core:∀H:Hp,Only H->SqL K H a (ns.map V.int)->HOk P w H zI.heap->(∀b,H b≠none->b=a)->(H a≠none->K.lookup a=none)->
   zCI (model P w) zEv (.call (.ref fa) ⟨[.ref a],[]⟩) (λ r s'=>r= .ok (.ret (.bool true))/\OldK zI.heap s'.heap/\s'.os=zI.os/\zE5 s'.gens) zI:=by
  intro H hO hS hok hA hK;have base_of:∀{b:Addr} {o:Obj},zI.heap.get? b=some o->H b=none->(aBT zI.heap H).get? b=some o:=λ e n=>aIG e n
  have noA:∀{b:Addr} {o:Obj} {es:Array zDZ} {ep:Nat},zI.heap.get? b=some o->o.data= .dict es ep->H b=none:=λ{b o es ep} e d=>by
   cases q:H b with
   |none=>rfl
   |some u=>
    have e':b=a:=hA b (by rw[q];simp);subst e';rw[ha]at e;cases e;have d':Data.seq vs.toArray _=Data.dict es ep:=d;cases d'
  have nsK:∀{b:Addr} {m:Str->Option Value},zI.heap.Ns b m->(aBT zI.heap H).Ns b m:=λ{b m} ⟨o,es,ep,e,d,r⟩=>⟨o,es,ep,base_of e (noA e d),d,r⟩
  have hKb:K.In (aBT zI.heap H):=λ b o e=>base_of (KX b o e) (by
   cases q:H b with
   |none=>rfl
   |some u=>
    have e':b=a:=hA b (by rw[q];simp);subst e';rw[hK (by rw[q];simp)]at e;cases e)
  have hM:Mod K mg (aBT zI.heap H):=⟨hKb,nsK hns,⟨mb,nsK hb,hbb⟩,let⟨mc,h1,h2⟩:=hlim;⟨mc,nsK h1,h2⟩⟩;have e0:aIu P w K mg (aBT zI.heap H) zEv [] zI H:=⟨rfl,hM,λ b o e=>aKN e,Nat.le_of_eq (aFm _ _),trivial,λ b hb=>absurd (show b∈([]:List Addr)from hb) (by simp),hok,.of_eq hg⟩;refine zDv ((F _ hKb (nsK hns)).run zEv [] zI H ⟨[.ref a],[]⟩ [.ref a] [.ref a] _ _ hr e0 (hbind zI (.ref a)) (.cons rfl .nil) (hsp H hO hS)) λ r s' h=>?_
  cases r with
  |error e=>exact(hCX H e s' h).elim
  |ok fl=>
   cases fl with
   |next=>exact zAI h
   |brk=>exact zAI h
   |cont=>exact zAI h
   |ret u=>
    obtain⟨v,H',os,bare,un,hok',r',q⟩:=h;have q':v= .bl true:=q;subst q';obtain rfl:u=zEP true:=r';refine⟨rfl,OldK.of_keep λ b o e=>?_,os,bare⟩;cases q:H b with
    |none=>exact un.keep b o e q (by intro z;exact absurd (show b∈([]:List Addr)from z) (by simp)) (by simp)
    |some u=>
     rcases hO b with z|⟨ob,xs,z⟩
     .rw[q]at z;cases z
     .have z2:=un.frzs b ob _ z
      obtain⟨e1,_⟩:=hok b _ z;obtain⟨e2,_⟩:=hok' b _ z2;rw[e]at e1;cases e1;exact e2
 cases hk:K.lookup a with
 |some o=>
  have e:=KX a o hk;rw[ha]at e;cases e;refine core (λ _=>none) (λ _=>.inl rfl) (.inr ⟨_,vs.toArray,_,hk,rfl,rfl,rfl,by rw[zAK,lenV];exact hl,by simpa using rv⟩) (λ b u z=>by have z':(none:Option HO)=some u:=z;cases z') (λ b z=>absurd rfl z) λ z=>absurd rfl z
 |none=>
  refine core (λ b=>if b=a then some (.frz {cls:=.type "list",data:=.seq vs.toArray} (.lst (ns.map V.int)))else none) (λ b=>?_) (.inl (.inr ⟨{cls:=.type "list",data:=.seq vs.toArray},if_pos rfl⟩)) (λ b u z=>?_) (λ b z=>?_) λ _=>hk
  .by_cases hb:b=a
   .exact .inr ⟨_,_,if_pos hb⟩
   .exact .inl (if_neg hb)
  .by_cases hb:b=a
   .have z':=(if_pos hb).symm.trans z
    cases z';subst hb;exact⟨ha,by rw[zAF];exact hl,vs,_,rv,ha⟩
   .have z':=(if_neg hb).symm.trans z
    cases z'
  .by_cases hb:b=a
   .exact hb
   .exact absurd (if_neg hb) z
def aJB{l:zEt}{n k:Nat}{q:zAY}{loose:List Str}{XP:(Str->Option Value)->Heap->Prop}{YP:World->Heap->Prop}{d:DefRec}{K:Params->zAA}{CX:World->CXT}{sp:World->Sp}{x:Str}
  (hn:l.most=some n)(hn2:n<=zAO)(hdf:d.params.defaults=[])(hr:jy k zEv)
  (hY:∀(w:World) (h:Heap),YP w h->(K w.params).In h)
  (F:∀(w:World) (mg:Str->Option Value) (fa:Addr) (h:Heap),(K w.params).In h->h.Ns zAd mg->mg d.name=some (.ref fa)->
   ∃fd:zA8,(∀(s:zAG) (u:Value),zF1 s fd ⟨[u],[]⟩ [(x,u)])/\
    ∀base:Heap,(K w.params).In base->base.Ns zAd mg->bU l.prog w (K w.params) mg base (CX w) k fa fd [x] (sp w))
  (hsp:∀(w:World) (H:Hp) (a:Addr) (ns:List Int),ns.length<=n->Only H->SqL (K w.params) H a (ns.map V.int)->sp w [.ref a] H (λ v _=>v= .bl true) λ _ _ _=>False)
  (hCX:∀(w:World) (H:Hp) (s:zAG) (e:Value) (s':zAG),CX w [] H s (λ _ _ _=>False) e s'->False):
  zHV q loose XP YP l.row.toRowW d [] (λ f vs=>zGt f vs):=by
 refine Att.aCo hn hdf λ w z5 zI mg mb fa o pm cd doc a vs ns G Y ho hd hcd hmg hobj hints kQ hg=>?_
 have KX:=hY w _ Y;obtain⟨fd,hb,hF⟩:=F w mg fa _ KX G.T.g hmg;exact aHn KX G.T.g G.T.b G.T.builtins G.T.nolimit hg hobj hints (zAh kQ hn2) hr hF hb (λ H hO hS=>hsp w H a ns kQ hO hS) λ H e s'=>hCX w H zI e s'
def pR(s:Stmt):zE6:=match s with
 | .FunctionDef _ a _ _ _ _ _ _ _ _=>a
 |_=>{posonlyargs:=[],args:=[],vararg:=none,kwonlyargs:=[],kw_defaults:=[],kwarg:=none,defaults:=[]}
def fX(s:Stmt):List Stmt:=match s with
 | .FunctionDef _ _ b _ _ _ _ _ _ _=>b
 |_=>[]
def aO(s:Stmt):Scope:=match s with
 | .FunctionDef _ _ _ _ _ _ sc _ _ _=>sc
 |_=>{kind:=.function,names:=[],isGenerator:=false,isCoroutine:=false}
abbrev CX0:CXT:=λ _ _ _ _ _ _=>False
abbrev E0:XK:=λ _ _ _=>False
structure Fun(K:zAA)(x qual:Str)(st:Stmt)(f:Addr)(fd:zA8):Prop where
 ex:∃(oc:Value) (od:Option Addr) (kV doc pm:Value) (an:Option Addr) (cdv ct:Value) (osl:Array (Option Value)),
  fd=zBy x qual (pR st) (fX st) (aO st) .none kV doc pm an cdv ct/\K.lookup f=some ⟨oc,od,.func fd,osl⟩/\zD3 K cdv qual=true
 kp:zCr K (.ref f)=true
section
variable{K:zAA}
def Fun.binds{x qual:Str}{st:Stmt}{f:Addr}{fd:zA8}{ps:List Str}(F:Fun K x qual st f fd)
  (h:∀(kV doc pm:Value) (an:Option Addr) (cdv ct:Value) (us:List Value),us.length=ps.length->bindArgs (zBy x qual (pR st) (fX st) (aO st) .none kV doc pm an cdv ct) ⟨us,[]⟩=pure (ps.zip us)):Binds K fd ps []:=by
 obtain⟨oc,od,kV,doc,pm,an,cdv,ct,osl,rfl,lk,hcd⟩:=F.ex;exact .all (h kV doc pm an cdv ct)
def aNk{x qual:Str}{st:Stmt}{f:Addr}{oc:Value}{od an:Option Addr}{osl:Array (Option Value)}{kV doc pm cdv ct:Value}(l:K.lookup f=some ⟨oc,od,.func (zBy x qual (pR st) (fX st) (aO st) .none kV doc pm an cdv ct),osl⟩)
  (c:zD3 K cdv qual=true)(k:zCr K (.ref f)=true):Fun K x qual st f (zBy x qual (pR st) (fX st) (aO st) .none kV doc pm an cdv ct):=⟨⟨oc,od,kV,doc,pm,an,cdv,ct,osl,rfl,l,c⟩,k⟩
end
def aY(H H':Hp):Prop:=∀b o,H b=some o->H' b=some o
def aY.refl(H:Hp):aY H H:=λ _ _ h=>h
def aY.trans(a:aY H H1)(b:aY H1 H2):aY H H2:=λ c o h=>b c o (a c o h)
def aY.free(e:aY H H')(h:H' l=zHk):H l=zHk:=by
 cases q:H l with
 |none=>rfl
 |some o=>
  rw[e l o q]at h;cases h
end L2
set_option maxHeartbeats 4000000
namespace HT
open PySem PyProof.Rows
def lexLe:List Int->List Int->Bool
 |[],_=>true
 |_::_,[]=>false
 |x::xs,y::ys=>if x=y then lexLe xs ys else decide (x<=y)
def aD9(x y:Int)(xs ys:List Int):lexLe (x::xs) (y::ys)=if x=y then lexLe xs ys else decide (x<=y):=rfl
def aGo(A:zAc)(s:zAG)(a:Int)(t:Tok)(c:Int)(u:Tok)(prog:zAY)(w:World)(E:Value->zAG->Prop)(Q:Value->zAG->Prop)(h:Q (.bool (decide (a<=c))) s):
  wpAny (model prog w) A (zGH .LtE (.int a t) (.int c u)) Q E s:=
 (PyProof.Rows.le_int h:wpAny (model prog w) A (zAm .LtE (.int a t) (.int c u)) Q E s)
section
open PySem.SeqAt
open PySem.AutoSeq1(wpAny_loadPart')
open PySem.MeetsSeq PySem.MeetsSeq2 PySem.MeetsSeq3
def yt(l b:Addr)(items items2:Array Value)(n n2:Nat)(dd dd2:Option Addr)(sl sl2:Array (Option Value))(ns ms:List Int)(hi:zBD items.toList ns)(hj:zBD items2.toList ms):
  Meets (zDR.«tuple.__le__» ⟨[.ref l,.ref b],[]⟩)
   (λ _ R s=>s.heap.get? l=some {cls:=.type "tuple",dict:=dd,data:=.seq items n,slots:=sl}/\s.heap.get? b=some {cls:=.type "tuple",dict:=dd2,data:=.seq items2 n2,slots:=sl2}/\
    R (.ok (.ret (.bool (lexLe ns ms)))) s):=
 .of_wp λ prog w A R s h=>by
  obtain⟨hp,g,d,tk,os⟩:=s;obtain⟨hl,hb,h⟩:=h;have f2:=zFF;have z1:items.size=ns.length:=by rw[<-hi.length];simp
  have z2:items2.size=ms.length:=by rw[<-hj.length];simp
  wp_walk using zC6 hl,zC6 hb,zFr _ (λ rest b s'=>b.1=none/\s'=⟨hp,g,d,tk,os⟩/\∃(vs ws:List Value) (ns' ms':List Int),rest=vs.zip ws/\
   zBD vs ns'/\zBD ws ms'/\ns'.length+items2.size=ms'.length+items.size/\R (.ok (.ret (.bool (lexLe ns' ms')))) ⟨hp,g,d,tk,os⟩) _
  case turn=>
   rintro⟨y,x⟩ rest b s' ⟨hb',rfl,vs,ws,ns',ms',hz,hvi,hwi,kQ,hR⟩;cases hvi with
   |nil=>rw[zHE]at hz;cases hz
   |cons a t hvi'=>
    cases hwi with
    |nil=>rw[zGr]at hz;cases hz
    |cons c u hwi'=>
     rw[zAy]at hz;injection hz with hyx aE
     injection hyx with hy hx
     subst hy hx;rw[aD9]at hR;simp only[zAk]at kQ;obtain⟨e,he,hiff⟩:=aCd A.in1 ⟨hp,g,d,tk,os⟩ a t c u;refine zAB (he prog w _ _ ?_);cases e with
     |true=>
      rw[if_pos (hiff.mp rfl)]at hR;wp_walk;exact⟨rfl,rfl,_,_,_,_,aE,hvi',hwi',by lia,hR⟩
     |false=>
      rw[if_neg (λ q=>absurd (hiff.mpr q) zAU)]at hR;have hri:=aGo A.in1 ⟨hp,g,d,tk,os⟩ a t c u prog w;wp_walk using hri;exact⟨_,rfl,by simpa using hR⟩
  case fin=>
   rintro⟨b1,b2⟩ s' ⟨hb',rfl,vs,ws,ns',ms',hz,hvi,hwi,kQ,hR⟩;simp only at hb';subst hb';have hv:lexLe ns' ms'=decide (items.size<=items2.size):=by
    cases hvi with
    |nil=>
     simp only[zBW]at kQ;have e:lexLe [] ms'=true:=by cases ms'<;>rfl
     rw[e];exact(decide_eq_true (by lia)).symm
    |cons a t hv=>
     cases hwi with
     |nil=>
      simp only[zBW,zAk]at kQ;show false=_;exact(decide_eq_false (by lia)).symm
     |cons c u hw=>
      rw[zAy]at hz;cases hz
   rw[hv]at hR;wp_walk;exact⟨_,rfl,by simpa[zEE]using hR⟩
  case h=>
   exact⟨rfl,rfl,items.toList,items2.toList,ns,ms,rfl,hi,hj,by lia,h⟩
end
section
variable{prog:zAY}{w:World}{A:zAc}{E:Value->zAG->Prop}{s:zAG}
def aDa(hl:IsTup s.heap l items)(hb:IsTup s.heap b items2)(hi:zBD items.toList ns)(hj:zBD items2.toList ms)
  (hu:A.units<cLine)(h:Q (.bool (lexLe ns ms)) s):wpAny (model prog w) A (zAm .LtE (.ref l) (.ref b)) Q E s:=by
 obtain⟨⟨cls,dd,data,sl⟩,ho,hc,n,hd⟩:=id hl;obtain⟨⟨cls2,dd2,data2,sl2⟩,ho2,hc2,n2,hd2⟩:=id hb;simp only at hc hd hc2 hd2;subst hc hd hc2 hd2;exact zHI (op:=.LtE) ⟨_,ho,rfl⟩ ⟨_,ho2,rfl⟩ PySem.F.slot_tuple_le PySem.F.entry_tuple_le (PySem.F.args_tuple_le_2 _ _) (yt l b items items2 n n2 dd dd2 sl sl2 ns ms hi hj)
  ⟨ho,ho2,show zEP (lexLe ns ms)≠zGX/\Q (.bool (lexLe ns ms)) s from⟨(λ x=>nomatch x),h⟩⟩ hu
def aIc{ws:List Value}(ht:IsTup s.heap t #[])(hb:IsTup s.heap b ws.toArray)(h1:Q (.ref b) s):wpAny (model prog w) A (zCG .Add (.ref t) (.ref b)) Q E s:=by
 obtain⟨⟨cls,dd,data,sl⟩,ho,hc,n,hd⟩:=id ht;obtain⟨⟨cls2,dd2,data2,sl2⟩,ho2,hc2,n2,hd2⟩:=id hb;simp only at hc hd hc2 hd2;subst hc hd hc2 hd2;exact zHX ⟨_,ho,rfl⟩ ⟨_,ho2,rfl⟩ zFq zGu zDr zDk (zDd _ _)
   (tuple_addW0 t b #[] ws.toArray n n2 dd dd2 sl sl2 (by simp)) ⟨ho,ho2,h1⟩
def sO{lo hi:Option Int}(ht:IsTup s.heap t items)(hs:s.heap.IsSliceOf sl vl vu .none)(pl:zFd vl lo)(pu:zFd vu hi)
  (h1:sIx items.size 0 lo=0)(h2:sIx items.size items.size hi=items.size)
  (h:Q (.ref t) s):wpAny (model prog w) A (zEU (.ref t) (.ref sl)) Q E s:=by
 obtain⟨os,hos,hcs,hds⟩:=id hs;have hTs:s.TypeIs (.ref sl) "slice":=⟨os,hos,hcs⟩;obtain⟨ot,hot,hct,hdt⟩:=id ht;unfold zEU
 try with_reducible refine zBS ?_
 first|refine zAB (zAH ?_)|skip
 refine zAB (zIP ht.typeIs (by decide) ?_);refine zAB (zBl (name:=zDi "__getitem__") ht.typeIs zBX
  (zB8 zBX ht.typeIs zHa ?_ (zHp _ _)))
 show wpAny _ _ (zE4 (.ref t)>>=_) _ _ s;refine zAB (tupleItemsOf_ ht ?_);refine zAB (zDx hTs ?_);rw[if_pos (by decide)];refine zAB (lV hs pl pu ?_);have hyes:(((sIx items.size 0 lo:Nat):Int)==0&&(1:Int)==1&&(sIx items.size items.size hi-sIx items.size 0 lo)==items.size)=true:=by
  rw[h1,h2];simp
 show wpAny _ _ (if (((sIx items.size 0 lo:Nat):Int)==0&&(1:Int)==1&&(sIx items.size items.size hi-sIx items.size 0 lo)==items.size)=true then _ else _) _ _ s;rw[if_pos hyes];unfold zHw;refine zAB (zAB (zDx ht.typeIs (zAH ?_)));rw[if_pos (by decide)];exact zAB (wpAny_rule (zAH ⟨_,rfl,zAH h⟩))
end
end HT
namespace L2
open PySem PySem.Spec PyProof.Rows
def aK7(t T:String):Bool:=decide (t=T)||(decide (t="bool")&&decide (T="int"))
def aK2{K:zAA}(ht:t∈["NoneType","bool","int","str","list","tuple","dict"])(hT:T∈["bool","int","str","list","tuple","dict"]):
  zD4 K (.type t) (.type T)=some (aK7 t T):=by
 simp only[zA1,zCc,or_false]at ht hT;rcases ht with rfl|rfl|rfl|rfl|rfl|rfl|rfl<;>rcases hT with rfl|rfl|rfl|rfl|rfl|rfl<;>kernel_rfl
def nZ(t T:String)(b:Bool):Bool:=decide (t∈["NoneType","bool","int","str","list","tuple","dict"])&&decide (T∈["bool","int","str","list","tuple","dict"])&&(aK7 t T==b)
def aDe{K:zAA}(h:nZ t T b=true):zD4 K (.type t) (.type T)=some b:=by
 unfold nZ at h;rw[zAW,zAW]at h;rw[aK2 (of_decide_eq_true h.1.1) (of_decide_eq_true h.1.2),zFL h.2]
def au(h:H p=none)(o:HO):aY H (upd H p o):=λ b u q=>by rw[aW (bj q h)];exact q
section
variable{X:Cx}
def aPb(K:zAA):List V->Hp->VK->Prop:=λ xs H Q=>∃x T t b,xs=[x,.ty T]/\ux K H x (.type t)/\nZ t T b=true/\Q (.bl b) H
def mJ:cZ X (.builtin "isinstance") (aPb X.K):=by
 intro iX s Z H xs us Q I r h;obtain⟨x,T,t,b,rfl,ty,ok,q⟩:=h;obtain⟨u,w',rfl,r1,r2⟩:=vals2 r;obtain rfl:w'=zCL T:=r2;exact aFh I r1 ty (aDe ok) λ tk=>⟨.bl b,H,I.tok tk,rfl,q⟩
def aJc(K:zAA):R2:=λ x y H Q=>∃a b ns ms,x= .ref a/\y= .ref b/\SqT K H a (ns.map V.int)/\SqT K H b (ms.map V.int)/\Q (.bl (HT.lexLe ns ms)) H
def aNE(hu:X.A.units<cLine):OpR X (zAm .LtE) (aJc X.K):=by
 intro iX s Z H x y v u Q I rx ry h;obtain⟨a,b,ns,ms,rfl,rfl,ha,hb,q⟩:=h;cases rx;cases ry;obtain⟨its,r1,p1,_⟩:=I.tuple ha;obtain⟨its2,r2,p2,_⟩:=I.tuple hb;have i1:zBD its.toArray.toList ns:=intsAre_of r1;have i2:zBD its2.toArray.toList ms:=intsAre_of r2;exact HT.aDa p1 p2 i1 i2 hu ⟨.bl (HT.lexLe ns ms),H,I,rfl,q⟩
def aH4:OpR X (zAm .Is) (λ x y H Q=>∃b c,x= .bl b/\y= .bl c/\Q (.bl (b==c)) H):=by
 intro iX s Z H x y v u Q I rx ry h;obtain⟨b,c,rfl,rfl,q⟩:=h;cases rx;cases ry;exact is_bool (aIV I q rfl)
def Inv.big'(I:Inv X iX Z H s):zAz<s.heap.objs.size:=by
 have h:zAd<s.heap.objs.size:=(I.mod.glob.keeps I.bk).lt;exact zG1 (by decide) h
def aOR:TE:=λ _ H Q=>∀p,H p=none->Q (.ref p) (upd H p (.dK []))
def aJx:PE X (.Dict [] [] pos) aOR:=λ iX s Z H Q I h=>
 wpAny_Dict_empty ⟨.ref s.heap.objs.size,_,I.laid (a:=s.heap.objs.size) (o:=.dK []) (t':=s.toks) (λ _ _ q=>zAC _ q) (zAV _)
  ⟨zAi _,beq_eq_false_iff_ne.mpr (zCq (zA9 I.big')),[],.nil,zE8 s.heap⟩,rfl,h _ (I.hok.fresh (zAV _))⟩
end
def jC(l:Addr)(H H':Hp):Prop:=∀b o,b≠l->H b=some o->H' b=some o
def aY.sqt{K:zAA}(e:aY H H')(h:SqT K H a xs):SqT K H' a xs:=by
 rcases h with (h|⟨o,h⟩)|h
 .exact .inl (.inl (e _ _ h))
 .exact .inl (.inr ⟨o,e _ _ h⟩)
 .exact .inr h
inductive D where
 |non|bl (b:Bool)|int (i:Int)|str (x:Str)|tup (l:List D)|lst (l:List D)|dct
mutual
inductive Rep(H:Hp):V->D->Prop where
 |non:Rep H .non .non
 |bl (b:Bool):Rep H (.bl b) (.bl b)
 |int (i:Int):Rep H (.int i) (.int i)
 |str (x:Str):Rep H (.str x) (.str x)
 |tup {a:Addr} {xs:List V} {ds:List D} (h:H a=some (.tup xs)) (r:aIq H xs ds):Rep H (.ref a) (.tup ds)
 |lst {a:Addr} {xs:List V} {ds:List D} (h:H a=some (.lst xs)) (r:aIq H xs ds):Rep H (.ref a) (.lst ds)
 |dct {a:Addr} (h:H a=some (.dK [])):Rep H (.ref a) .dct
inductive aIq(H:Hp):List V->List D->Prop where
 |nil:aIq H [] []
 |cons {x:V} {d:D} {xs:List V} {ds:List D} (h:Rep H x d) (r:aIq H xs ds):aIq H (x::xs) (d::ds)
end
def PE.weaken(h:PE X e t)(imp:∀Z H Q,t' Z H Q->t Z H Q):PE X e t':=λ iX s Z H Q I q=>h iX s Z H Q I (imp Z H Q q)
def OpR.weaken(h:OpR X f r)(imp:∀x y H Q,r' x y H Q->r x y H Q):OpR X f r':=λ iX s Z H x y v u Q I rx ry q=>h iX s Z H x y v u Q I rx ry (imp x y H Q q)
def New(H:Hp)(o:HO)(Q:VK):Prop:=∀p H',aY H H'->H' p=some o->H p=none->Q (.ref p) H'
def New.at(n:New H o Q)(hp:H p=none):Q (.ref p) (upd H p o):=n p _ (au hp o) aX hp
section
variable{X:Cx}{es:List Expr}{t:TA}{pos:Pos}
def aOM(t:TA):TE:=λ Z H Q=>t Z H λ xs H1=>xs.length<=zAO/\New H1 (.tup xs) Q
def aLR(t:TA):TE:=λ Z H Q=>t Z H λ xs H1=>xs.length<=zAO/\New H1 (.lst xs) Q
def aJv{x1}(h:PA X es t):PE X (.Tuple es x1 pos) (aOM t):=by
 have h':PA X es (λ Z H Q=>∃R:List V->Hp->Prop,t Z H R/\∀xs H',R xs H'->Q xs H'):=by
  intro pos iX s Z H Q I ⟨R,q,imp⟩;exact thn (h pos iX s Z H R I q) λ us s' ⟨vs,H',I',r,q'⟩=>⟨vs,H',I',r,imp _ _ q'⟩
 exact(aMj h').weaken λ Z H Q q=>⟨_,q,λ xs H' ⟨z,n⟩=>⟨z,λ p hp=>n.at hp⟩⟩
def aAz(h:PA X es t):PE X (.List es pos) (aLR t):=by
 have h':PA X es (λ Z H Q=>∃R:List V->Hp->Prop,t Z H R/\∀xs H',R xs H'->Q xs H'):=by
  intro pos iX s Z H Q I ⟨R,q,imp⟩;exact thn (h pos iX s Z H R I q) λ us s' ⟨vs,H',I',r,q'⟩=>⟨vs,H',I',r,imp _ _ q'⟩
 exact(aMo h').weaken λ Z H Q q=>⟨_,q,λ xs H' ⟨z,n⟩=>⟨z,λ p hp=>n.at hp⟩⟩
def aMG:TE:=λ _ H Q=>New H (.dK []) Q
def aHS:PE X (.Dict [] [] pos) aMG:=aJx.weaken λ Z H Q n p hp=>n.at hp
def aL9:R2:=λ x y H Q=>∃l b xs zs,x= .ref l/\y= .ref b/\H l=some (.lst xs)/\H b=some (.lst zs)/\xs.length+zs.length<=zAO/\New H (.lst (xs++zs)) Q
def aKJ:OpR X (zCG .Add) aL9:=aNK.weaken λ x y H Q ⟨l,b,xs,zs,e1,e2,h1,h2,z,n⟩=>⟨l,b,xs,zs,e1,e2,h1,h2,z,λ p hp=>n.at hp⟩
def xK:V->List V->Hp->VK->Prop:=λ x vs H Q=>∃l xs y,x= .ref l/\vs=[y]/\H l=some (.lst xs)/\xs.length<zAO/\∀H',jC l H H'->H' l=some (.lst (xs++[y]))->Q .non H'
def xg:MtM X "list.append" xK:=λ iX s Z H x xs v us Q I rx rv ⟨l,ys,y,e1,e2,h,z,n⟩=>
 aAK iX s Z H x xs v us Q I rx rv ⟨l,ys,y,e1,e2,h,z,n _ (λ b o ne hb=>by rw[aW ne];exact hb) aX⟩
end
def at0:atI (x::xs) 0=some x:=aEs (j:=0) rfl
def at1:atI (x::y::xs) 1=some y:=aEs (j:=1) rfl
def bI(scope:Scope)(env:Env):List (Str×Addr):=(scope.names.filterMap λ y=>if y.2== .free then(env.cells.lookup y.1).map λ c=>(y.1,c)else none).reverse
theorem yh(env:Env):∀(names:List (Str×zDc)) (acc:List (Str×Addr)),(∀y∈names,y.2= .free->∃c,env.cells.lookup y.1=some c)->
  (forIn names acc λ(x:Str×zDc) r=>if (x.2== .free)=true then do let c <-cellOf env x.1;pure (zB6 ((x.1,c)::r))else pure (zB6 r):Sem (List (Str×Addr)))=
   pure ((names.filterMap λ y=>if y.2== .free then(env.cells.lookup y.1).map λ c=>(y.1,c)else none).reverse++acc)
 |[],acc,_=>rfl
 |(n,k)::r,acc,h=>by
  rw[zH0];have ih:=λ acc'=>yh env r acc' λ y hy=>h y (zAR _ hy)
  by_cases hk:k= .free
  .subst hk
   obtain⟨c,hc⟩:=h (n,.free) zAJ rfl;have hc':env.cells.lookup n=some c:=hc;simp only[beq_self_eq_true,if_true,cellOf,hc',zCF,zDY,List.reverse_cons,zBP,List.singleton_append];exact ih _
  .have hb:(k==zBm)=false:=by simpa using hk
   simp only[hb,zBq,if_false,zCF];exact ih _
def lN(h:∀y∈scope.names,y.2= .free->∃c,env.cells.lookup y.1=some c):zF6 scope env=pure (bI scope env):=by
 have e:=yh env scope.names [] h;rw[zBG]at e;have e2:zF6 scope env=((forIn scope.names ([]:List (Str×Addr)) λ(x:Str×zDc) r=>if (x.2== .free)=true then do let c <-cellOf env x.1;pure (zB6 ((x.1,c)::r))else pure (zB6 r):Sem (List (Str×Addr)))>>=λ r=>pure r):=rfl;rw[e2,e];rfl
def vU(h:(bI scope env).lookup x=some c):env.cells.lookup x=some c:=by
 have hm:=zAo h;unfold bI at hm;rw[zHS,zCQ]at hm;obtain⟨y,hy,e⟩:=hm;split at e
 .cases q:env.cells.lookup y.1 with
  |none=>rw[q]at e;cases e
  |some c'=>
   rw[q]at e;have e':=zAe e;injection e' with e1 e2
   subst e1 e2;exact q
 .cases e
def aCk(hx:scope.names.lookup x=some .free)(h:env.cells.lookup x=some c):(bI scope env).lookup x=some c:=by
 have hm:(x,zBm)∈scope.names:=zAo hx
 have:(x,c)∈bI scope env:=by
  unfold bI;rw[zHS,zCQ];exact⟨_,hm,by simp[h]⟩
 cases q:(bI scope env).lookup x with
 |none=>
  exact absurd this (by
   intro hm'
   have:=List.lookup_eq_none_iff.mp q _ hm'
   simp at this)
 |some c'=>
  have:=vU q
  rw[h]at this;exact this.symm▸rfl
def v7(scope:Scope)(C:Addr):List (Str×Addr):=zDl (C+1) scope.names []
theorem mH:∀(names:List (Str×zDc)) (n:Nat) (acc:List (Str×Addr)),zDl n names acc=zDl n names []++acc
 |[],_,_=>rfl
 |(x,k)::r,n,acc=>by
  unfold zDl;split
  .rw[mH r (n+1) ((x,n)::acc),mH r (n+1) [(x,n)],zBP];rfl
  .exact mH r n acc
theorem qy:∀{names:List (Str×zDc)} {n:Nat} {x:Str} {c:Addr},(x,c)∈zDl n names []->(x,zDJ)∈names
 |(y,k)::r,n,x,c,h=>by
  unfold zDl at h;split at h
  .rename_i hk
   rw[mH,zAX]at h;rcases h with h|h
   .exact zAR _ (qy h)
   .have e:=zAM.mp h
    cases e;rw[zFL hk];exact zAJ
  .exact zAR _ (qy h)
 |[],_,_,_,h=>by cases h
def lq{l m:List (Str×Addr)}(h:(l++m).lookup x=some c):l.lookup x=some c\/(l.lookup x=none/\m.lookup x=some c):=by
 rw[zDb]at h;cases e:l.lookup x with
 |some c'=>rw[e]at h;exact .inl h
 |none=>rw[e]at h;exact .inr ⟨rfl,h⟩
def aE1{M:Model}{A:zAc}{E:Value->zAG->Prop}{s:zAG}{scope:Scope}{globals:Addr}{cl:List (Str×Addr)}{qual:Str}{env:Env}{Q:Env->zAG->Prop}
  (h:∀h':Heap,h'.Ns s.heap.objs.size (λ _=>none)->(∀b o,s.heap.get? b=some o->h'.get? b=some o)->CellsOk h' (s.heap.objs.size+1) (v7 scope s.heap.objs.size)->
   Q {scope:=scope,locals:=s.heap.objs.size,globals:=globals,cells:=v7 scope s.heap.objs.size++cl,qual:=qual,func:=none,code:=env.code,frame:=env.frame,builtins:=env.builtins} {s with heap:=h'}):
  wpAny M A (zEq scope globals cl [] qual none .none (some env)) Q E s:=by
 simp only[zEq,zD2,if_true];refine zAB (wpAny_alloc ?_);refine zAB (wpAny_layCells _ (λ name kind cells=>by cases hkc:kind==zDJ<;>simp[hkc]) _ _ _ _ ?_);have ok:=cellsFrom_ok scope.names (s.heap.push {cls:=.type "dict",data:=.dict #[]}) (s.heap.objs.size+1) [] ⟨λ _ _ hm=>(nomatch hm),zF2⟩ (by rw[zBU];exact zAV _);rw[zBU]at ok;rw[show({s with heap:=s.heap.push {cls:=.type "dict",data:=.dict #[]}}:zAG).heap.objs.size=s.heap.objs.size+1 from zBU ..,mH];refine zAH ?_;exact h _ ((Heap.Ns.new s.heap (.type "dict")).keeps (pushCells_keeps _ _)) (λ b o e=>pushCells_keeps _ _ b o (zAC _ e)) ok
def Cx.block(X:Cx)(scope:Scope)(C:Addr)(N:List Str)(fp:List Addr)(z5:zAG)(zS:Hp):Cx:=
  {prog:=X.prog,w:=X.w,K:=X.K,mg:=X.mg,base:=X.base,A:=X.A,N:=N,z5:=z5,zS:=zS,env:=compEnvC scope (v7 scope C++bI scope X.env) C X.env,outer:=X.stack,stack:=X.stack,ex:=fp,
    fn:=λ x=>scope.names.lookup x==some .cell,calm:=X.calm,pn:=[],xe:=λ _ _=>False}
structure dh(X:Cx)(scope:Scope)(N:List Str)(st:St->St)(ks:List Nat):Prop where
 kind:scope.kind= .function
 sep:∀y∈scope.names,y.2= .cell->scope.names.lookup y.1=some .cell
 loc:∀y∈scope.names,y.2= .local->scope.names.lookup y.1=some .local
 free:∀y∈scope.names,y.2= .free->X.env.kindOf y.1=some .cell\/X.env.kindOf y.1=some .free
 len:∀Z,(st Z).length=N.length
 val:∀Z (i:Nat) x v,N[i]? =some x->(st Z)[i]? =some (some v)->scope.names.lookup x=some .free/\i∉ks/\∃j:Nat,X.N[j]? =some x/\Z[j]? =some (some v)
def aAv(h:(zF8 scope env).names.lookup x=some .cell\/(zF8 scope env).names.lookup x=some .free):scope.names.lookup x=some .free\/scope.names.lookup x=some .cell:=by
 have go:∀names:List (Str×zDc),((names.map λ(n,k)=>if (k==zBm&&env.scope.kind== .function&&env.kindOf n==some .cell)then(n,zDJ)else(n,k)).lookup x=some .cell\/
   (names.map λ(n,k)=>if (k==zBm&&env.scope.kind== .function&&env.kindOf n==some .cell)then(n,zDJ)else(n,k)).lookup x=some .free)->names.lookup x=some .free\/names.lookup x=some .cell:=by
  intro names;induction names with
  |nil=>intro h;simp at h
  |cons y r ih=>
   obtain⟨n,k⟩:=y;intro h;rw[zAD]at h;by_cases hx:x==n
   .rw[zA7,hx]
    show some k=some .free\/some k=some .cell;by_cases hcc:(k==zBm&&env.scope.kind== .function&&env.kindOf n==some .cell)=true
    .rw[zAW,zAW]at hcc
     rw[zFL hcc.1.1];exact .inl rfl
    .simp only[if_neg hcc,zA7,hx]at h
     exact h.elim .inr .inl
   .have hx':(x==n)=false:=by simpa using hx
    rw[zA7,hx'];refine ih ?_;by_cases hcc:(k==zBm&&env.scope.kind== .function&&env.kindOf n==some .cell)=true
    .simp only[if_pos hcc,zA7,hx']at h
     exact h
    .simp only[if_neg hcc,zA7,hx']at h
     exact h
 exact go scope.names h
def aAw(h:scope.names.lookup x=some .free):(zF8 scope env).names.lookup x=some .cell\/(zF8 scope env).names.lookup x=some .free:=by
 have go:∀names:List (Str×zDc),names.lookup x=some .free->((names.map λ(n,k)=>if (k==zBm&&env.scope.kind== .function&&env.kindOf n==some .cell)then(n,zDJ)else(n,k)).lookup x=some .cell\/
   (names.map λ(n,k)=>if (k==zBm&&env.scope.kind== .function&&env.kindOf n==some .cell)then(n,zDJ)else(n,k)).lookup x=some .free):=by
  intro names;induction names with
  |nil=>intro h;simp at h
  |cons y r ih=>
   obtain⟨n,k⟩:=y;intro h;rw[zAD];by_cases hx:x==n
   .rw[zA7,hx]at h
    have hk:k= .free:=zAe h;by_cases hcc:(k==zBm&&env.scope.kind== .function&&env.kindOf n==some .cell)=true
    .simp only[if_pos hcc,zA7,hx]
     exact .inl trivial
    .simp only[if_neg hcc,zA7,hx]
     exact .inr (by rw[hk])
   .have hx':(x==n)=false:=by simpa using hx
    rw[zA7,hx']at h;by_cases hcc:(k==zBm&&env.scope.kind== .function&&env.kindOf n==some .cell)=true
    .simp only[if_pos hcc,zA7,hx']
     exact ih h
    .simp only[if_neg hcc,zA7,hx']
     exact ih h
 exact go scope.names h
section
variable{X:Cx}{iX:hZ}{Z:St}{H:Hp}{s:zAG}
theorem Inv.block{st:St->St}{D C:Addr}(I:Inv X iX Z H s)(B:dh X scope N st ks)
  (hfp:∀b∈fp,uG X iX H b)(hob:∀b∈fp,∃ob,s.heap.get? b=some ob)
  (hD:s.heap.objs.size<=D)(hC:s.heap.objs.size<=C)(hDC:D≠C)(keep:∀b u,s.heap.get? b=some u->h'.get? b=some u)(hns:h'.Ns C λ _=>none)(hcs:CellsOk h' (C+1) (v7 scope C))(hDo:∀c,C<c->D≠c)(oQ:bw X.prog X.w (upd H D o) h' D o):
  Inv (X.block scope C N fp s H) [] (st Z) (upd H D o) {s with heap:=h',toks:=tk}:=by
 have hHD:H D=none:=I.hok.fresh hD;have hcl:∀x c,(bI scope X.env).lookup x=some c->X.env.cells.lookup x=some c:=λ x c e=>vU e
 have hol:∀x c,(v7 scope C).lookup x=some c->C<c/\h'.IsCell c none:=λ x c e=>let⟨q1,q2⟩:=hcs.empty x c (zAo e);⟨q2,q1⟩
 have hlt:∀x c,(bI scope X.env).lookup x=some c->c<s.heap.objs.size:=λ x c e=>let⟨v,ic⟩:=I.cell x c (hcl x c e);ic.lt
 have bX:∀b∈fp,b<s.heap.objs.size:=λ b hb=>by
  obtain⟨ob,e⟩:=hob b hb;exact zA2 e
 refine⟨⟨I.mod,?_,I.ok.glob,I.ok.blt,hC,λ x y c e1 e2=>?_,λ x hx=>?_,λ x c hf e=>?_,I.ok.hd,I.ok.frames,.inl rfl,λ b hb=>⟨?_,λ x c e z=>?_⟩,
  I.bs,?_,λ b ob e hb=>?_,λ b hb hs=>?_,I.stack,I.stkFree⟩,rfl,I.bare,Un.laid keep hD hHD,⟨_,hns,λ i x v e1 e2 hv=>?_⟩,λ x c e=>?_,?_,λ x c e=>?_,λ p hp=>absurd (show p∈([]:hZ)from hp) (by simp),I.hok.laid keep hD oQ,B.len Z,λ p hp=>absurd (show p∈([]:hZ)from hp) (by simp)⟩
 .show(zF8 scope X.env).kind= .function
  exact B.kind
 .rcases lq e1 with a1|⟨_,a1⟩<;>rcases lq e2 with a2|⟨_,a2⟩
  .exact PySem.name_of_addr hcs.apart (zAo a1) (zAo a2)
  .exact absurd (hlt y c a2) (zFu.mpr (zAh hC (zBc (hol x c a1).1)))
  .exact absurd (hlt x c a1) (zFu.mpr (zAh hC (zBc (hol y c a2).1)))
  .exact I.ok.inj x y c (hcl x c a1) (hcl y c a2)
 .show∃c,(v7 scope C++bI scope X.env).lookup x=some c
  rw[zDb];cases e:(v7 scope C).lookup x with
  |some c=>exact⟨c,rfl⟩
  |none=>
   rcases aAv hx with hfree|hcell
   .obtain⟨c,hc⟩:=I.ok.has x (B.free (x,.free) (zAo hfree) rfl)
    exact⟨c,aCk hfree hc⟩
   .obtain⟨c,hc⟩:=tX (n:=C+1) hcell
    rw[show(v7 scope C).lookup x=some c from hc]at e;cases e
 .rcases lq e with a1|⟨a0,_⟩
  .exact zAh hC (zBc (hol x c a1).1)
  .obtain⟨c',hc'⟩:=tX (n:=C+1) (zFL hf)
   rw[show(v7 scope C).lookup x=some c' from hc']at a0;cases a0
 .exact zA9 (zA4 (bX b hb) hC)
 .rcases lq e with a1|⟨_,a1⟩
  .exact absurd (bX b hb) (zFu.mpr (by rw[<-z];exact zAh hC (zBc (hol x c a1).1)))
  .exact(hfp b hb).2.2.2.2.1 x c (hcl x c a1) z
 .exact zAh I.ok.bsz I.sz
 .rcases(hfp b hb).2.2.2.1 with z|z
  .exact I.ok.noex b ob e z
  .exact absurd (zA4 (zA2 (I.ok.bs b ob e).1) z) (zBF _)
 .rcases zA1.mp (I.stkSub b hs)with z|z
  .exact(hfp b hb).2.1 z
  .exact(hfp b hb).2.2.1 z
 .obtain⟨hfree,_,j,f1,f2⟩:=B.val Z i x v e1 e2
  obtain⟨m,hn,hl⟩:=I.loc;have hk:=B.free (x,.free) (zAo hfree) rfl;obtain⟨u,ru,hu⟩:=hl j x v f1 f2 (hk.elim (λ z=>.inr (.inl z)) λ z=>.inr (.inr z));rcases hu with ⟨k,_⟩|⟨_,c,ec,ic⟩
  .rcases hk with z|z
   .exact absurd (k.symm.trans z) (by decide)
   .exact absurd (k.symm.trans z) (by decide)
  .have hno:(v7 scope C).lookup x=none:=by
    cases e:(v7 scope C).lookup x with
    |none=>rfl
    |some c'=>
     have:=B.sep _ (qy (zAo e)) rfl
     rw[hfree]at this;cases this
   refine⟨u,ru,.inr ⟨?_,c,by show(v7 scope C++bI scope X.env).lookup x=some c;rw[zDb,hno];exact aCk hfree ec,ic.keeps keep⟩⟩;rcases hv with z|z|z
   .have z':(zF8 scope X.env).names.lookup x=some .local:=z
    rcases aAw (env:=X.env) hfree with y|y
    .exact absurd (z'.symm.trans y) (by decide)
    .exact absurd (z'.symm.trans y) (by decide)
   .exact .inl z
   .exact .inr z
 .rcases lq e with a1|⟨_,a1⟩
  .exact⟨_,(hol x c a1).2⟩
  .obtain⟨v,ic⟩:=I.cell x c (hcl x c a1)
   exact⟨v,ic.keeps keep⟩
 .show upd H D o C=none
  rw[aW (zCq hDC)];exact I.hok.fresh hC
 .show upd H D o c=none
  rcases lq e with a1|⟨_,a1⟩
  .rw[aW (zCq (hDo c (hol x c a1).1))]
   exact I.hok.fresh (zAh hC (zBc (hol x c a1).1))
  .obtain⟨v,ic⟩:=I.cell x c (hcl x c a1)
   rw[aW (zA9 (zA4 ic.lt hD))];exact I.freeC x c (hcl x c a1)
end
section
variable{prog:zAY}{w:World}{A:zAc}{R:zDu->zAG->Prop}{s:zAG}
def aBY(I:Nat->zAG->Prop)
  (turn:∀n s,I n s->wpAny (model prog w) A (zEb it) (λ r zI=>match r with
   |none=>R (.ok .next) zI
   |some v=>wpAny (model prog w) A (zDD target it v) (λ _ zI=>wpAny (model prog w) A (zEX target env v) (λ _ z4=>
     wpAny (model prog w) A (forIn ifs true λ c r=>if r=true then do let ok <-isTrue c env (eval c env);pure (zB6 ok)else pure (zB6 r)) (λ ok zC=>
      if ok=true then wpAny (model prog w) A (eval elt env) (λ x y3=>
       wpAny (model prog w) A (call (.builtin "list.append") [acc,x]) (λ _ s₅=>∃m,m<n/\I m s₅) (λ _ _=>False) y3) (λ _ _=>False) zC
      else∃m,m<n/\I m zC) (λ _ _=>False) z4) (λ _ _=>False) zI) (λ _ _=>False) zI) (λ _ _=>False) s)
  (n:Nat)(h:I n s):zCI (model prog w) A (.compLoop (.ListComp elt [⟨target,iter,ifs,0⟩] scope pos) 0 it acc env) R s:=by
 refine codeAny_loop rfl I (λ n s hI=>?_) n h;show wpAny _ A ((compTurn (.ListComp elt [⟨target,iter,ifs,0⟩] scope pos) 0 it acc env).onRaise (λ x=>do noteFrame x env;theTreesLotGoes x)) _ _ s;refine wpAny_noted ?_;rw[compTurn_list];refine zAB (zDe (zAB (zBO (turn n s hI) (λ r zI zD=>?_) λ _ _ h'=>h'.elim)));cases r with
 |none=>exact zAH zD
 |some v=>
  refine zAB (zBO zD (λ _ zI zD=>?_) λ _ _ h'=>h'.elim);refine zAB (zBO zD (λ _ z4 y8=>zAB (zBO y8 (λ ok zC yY=>?_) λ _ _ h'=>h'.elim)) λ _ _ h'=>h'.elim);cases ok with
  |false=>exact zAH ⟨rfl,yY⟩
  |true=>
   exact zAB (zAB (zBO yY (λ x y3 h₄=>zAB (zBO h₄ (λ _ s₅ h₅=>zAH (zAH ⟨rfl,h₅⟩)) λ _ _ h'=>h'.elim)) λ _ _ h'=>h'.elim))
end
def uF(g:TG)(ks:List Nat):Prop:=∀v Z H (Q:St->Hp->Prop),g v Z H Q->g v Z H (λ Z' H'=>Q Z' H'/\Z'.length=Z.length/\∀k,k∉ks->Z'[k]? =Z[k]?)
def yp(g:TGs)(ks:List Nat):Prop:=∀vs Z H (Q:St->Hp->Prop),g vs Z H Q->g vs Z H (λ Z' H'=>Q Z' H'/\Z'.length=Z.length/\∀k,k∉ks->Z'[k]? =Z[k]?)
def aKj(h:i∈ks):uF (vK i) ks:=λ v Z H Q q=>⟨q,zBC,λ k hk=>zBK (λ(e:i=k)=>hk (e▸h))⟩
def aKi:yp aNj ks:=λ vs Z H Q ⟨e,q⟩=>⟨e,q,rfl,λ _ _=>rfl⟩
def aCt(g:TG):Prop:=∀v Z H (Q Q':St->Hp->Prop),(∀Z' H',Q Z' H'->Q' Z' H')->g v Z H Q->g v Z H Q'
def uy(g:TGs):Prop:=∀v Z H (Q Q':St->Hp->Prop),(∀Z' H',Q Z' H'->Q' Z' H')->g v Z H Q->g v Z H Q'
def aKl:aCt (vK i):=λ v Z H Q Q' imp q=>imp _ _ q
def aKk:uy aNj:=λ v Z H Q Q' imp ⟨e,q⟩=>⟨e,imp _ _ q⟩
def aIK(h1:aCt t)(h2:uy u):uy (aIN t u):=λ vs Z H Q Q' imp ⟨v,r,e,q⟩=>⟨v,r,e,h1 _ _ _ _ _ (λ Z' H' q'=>h2 _ _ _ _ _ imp q') q⟩
def aIH(h1:uF t ks)(m1:aCt t)(h2:yp u ks)(m2:uy u):yp (aIN t u) ks:=λ vs Z H Q ⟨v,r,e,q⟩=>
 ⟨v,r,e,m1 _ _ _ _ _ (λ Z' H' ⟨q',l',k'⟩=>m2 _ _ _ _ _ (λ Z2 H2 ⟨q2,l2,k2⟩=>⟨q2,l2.trans l',λ k hk=>(k2 k hk).trans (k' k hk)⟩) (h2 _ _ _ _ q')) (h1 _ _ _ _ q)⟩
def aII{K:zAA}(h:yp t ks):uF (aKm K n t) ks:=λ v Z H Q ⟨a,xs,e1,e2,e3,q⟩=>⟨a,xs,e1,e2,e3,h _ _ _ _ q⟩
def aNi{K:zAA}(h:uy t):aCt (aKm K n t):=λ v Z H Q Q' imp ⟨a,xs,e1,e2,e3,q⟩=>⟨a,xs,e1,e2,e3,h _ _ _ _ _ imp q⟩
def aCr(X:Cx)(ifs:List Expr)(t:TT):Prop:=
 ∀(iX:hZ) (s:zAG) (Z:St) (H:Hp) (Q:Bool->Hp->Prop),Inv X iX Z H s->t Z H Q->
  wpAny (model X.prog X.w) X.A (forIn ifs true λ c r=>if r=true then do let ok <-isTrue c X.env (eval c X.env);pure (zB6 ok)else pure (zB6 r)) (TP X iX Z Q) X.xe s
def aP1:TT:=λ _ H Q=>Q true H
def aMi:aCr X [] aP1:=λ _ _ _ H _ I h=>wpAny_tests_nil ⟨H,I,h⟩
def aMh(h:PT X c t):aCr X [c] t:=λ iX s Z H Q I q=>wpAny_tests_one (h iX s Z H Q I q)
def tLC(wi:TI)(st:St->St)(g:TG)(tt:TT)(te:TE):TE:=λ Z H Q=>wi Z H λ J H1=>∀l,H1 l=none->∃W:Nat->Nat->List V->Hp->Prop,(∃m,W 0 m [] (upd H1 l (.lst [])))/\
 ∀i m acc H2,W i m acc H2->H2 l=some (.lst acc)/\acc.length<zAO/\((J.stop i H2/\Q (.ref l) H2)\/(J.go i H2/\∀x H3,J.yld i H2 x H3->g x (st Z) H3 λ Z4 H4=>tt Z4 H4 λ ok H5=>
  if ok=true then te Z4 H5 λ y H6=>H6 l=some (.lst acc)/\∃m',m'<m/\W (i+1) m' (acc++[y]) (upd H6 l (.lst (acc++[y])))else∃m',m'<m/\W (i+1) m' acc H5))
section
variable{X:Cx}{elt tg iter:Expr}{ifs:List Expr}{scope:Scope}{pos:Pos}{N:List Str}{st:St->St}{ks:List Nat}{wi:TI}{g:TG}{tt:TT}{te:TE}
def aCY(B:dh X scope N st ks)(hc:X.calm=true)(hg:∀C fp z5 zS,PG (X.block scope C N fp z5 zS) tg g)(hgo:uF g ks)(ht:∀C fp z5 zS,aCr (X.block scope C N fp z5 zS) ifs tt)
  (he:∀C fp z5 zS,PE (X.block scope C N fp z5 zS) elt te){H1:Hp}{Q:VK}{RR:Value->Addr->zDu->zAG->Prop}
  (I:Inv X iX Z H1 z4)(T:Turn X.prog X.w X.K tg J fp it tn)(h0:tn 0 z4.heap)(hfp:∀b∈fp,uG X iX H1 b)
  (h:∀l,H1 l=none->∃W:Nat->Nat->List V->Hp->Prop,(∃m,W 0 m [] (upd H1 l (.lst [])))/\
   ∀i m acc H2,W i m acc H2->H2 l=some (.lst acc)/\acc.length<zAO/\((J.stop i H2/\Q (.ref l) H2)\/(J.go i H2/\∀x H3,J.yld i H2 x H3->g x (st Z) H3 λ Z4 H4=>tt Z4 H4 λ ok H5=>
    if ok=true then te Z4 H5 λ y H6=>H6 l=some (.lst acc)/\∃m',m'<m/\W (i+1) m' (acc++[y]) (upd H6 l (.lst (acc++[y])))else∃m',m'<m/\W (i+1) m' acc H5)))
  (hRR:∀D C H' s',(∃Z',Inv (X.block scope C N fp z4 H1) [] Z' H' s')->z4.heap.objs.size<=C->Q (.ref D) H'->RR (.ref D) C (.ok .next) s'):
  wpAny (model X.prog X.w) X.A (zF7 []) (λ acc zC=>wpAny (model X.prog X.w) X.A (zEq scope X.env.globals (bI scope X.env) [] X.env.qual none .none (some X.env)) (λ cenv y3=>
   zCI (model X.prog X.w) X.A (.compStart (.ListComp elt [⟨tg,iter,ifs,0⟩] scope pos) 0 (.ref it) acc {cenv with scope:=zF8 scope X.env}) (RR acc cenv.locals) y3) E zC) E z4:=by
 refine zAn (aE1 λ zD y7 y9 y6=>?_);dsimp only at y7 y9 y6 ⊢;generalize hH2:z4.heap.push {cls:=.type "list",dict:=none,data:=.seq ([]:List Value).toArray}=P2 at y7 y9 y6 ⊢;have hC:P2.objs.size=z4.heap.objs.size+1:=by rw[<-hH2,zBU]
 have hDC:z4.heap.objs.size≠P2.objs.size:=by rw[hC];exact zA9 (zBZ _)
 have kX:z4.heap.objs.size<=P2.objs.size:=by rw[hC];exact zCz _
 have old:∀b o,z4.heap.get? b=some o->zD.get? b=some o:=λ b o e=>y9 b o (hH2▸zAC _ e)
 have oQ:zD.get? z4.heap.objs.size=some {cls:=.type "list",dict:=none,data:=.seq ([]:List Value).toArray}:=y9 _ _ (hH2▸zAN _ rfl);generalize hCe:P2.objs.size=C at y7 y9 y6 hDC kX hC ⊢;have hHD:H1 z4.heap.objs.size=none:=I.hok.fresh (zAV _);have I0:Inv (X.block scope C N fp z4 H1) [] (st Z) (upd H1 z4.heap.objs.size (.lst [])) {z4 with heap:=zD,toks:=z4.toks}:=
  I.block B hfp (λ b hb=>by obtain⟨o,e,_⟩:=T.obj 0 _ h0 b hb;exact⟨o,e⟩) (zAV _) kX hDC old y7 y6 (λ c hc=>zA9 (zHF kX hc)) ⟨zAi _,[],0,.nil,oQ⟩
 obtain⟨W,⟨m0,w0⟩,step⟩:=h _ hHD;have h01:tn 0 zD:=T.keep 0 _ _ h0 λ b _ o e=>old b o e
 have qV:∀{H':Hp},(∀b∈fp,H' b=none)->∀b∈fp,uG (X.block scope C N fp z4 H1) [] H' b:=λ{H'} hn b hb=>
  ⟨hn b hb,(I0.ok.exf b hb).1,I0.ok.exfs b hb,.inl hb,λ x c e=>(I0.ok.exf b hb).2 x c e,λ p hp=>absurd (show p∈([]:hZ)from hp) (by simp)⟩
 have fr0:∀b∈fp,upd H1 z4.heap.objs.size (.lst []) b=none:=λ b hb=>by
  obtain⟨o,e,_⟩:=T.obj 0 _ h0 b hb;rw[aW (zA9 (zA2 e))];exact(hfp b hb).1
 have loop:∀zC:zAG,zC={z4 with heap:=zD,toks:=z4.toks}->
   zCI (model X.prog X.w) X.A (.compLoop (.ListComp elt [⟨tg,iter,ifs,0⟩] scope pos) 0 (.ref it) (.ref z4.heap.objs.size) (X.block scope C N fp z4 H1).env) (RR (.ref z4.heap.objs.size) C) zC:=by
  rintro zC rfl;refine aBY (λ n s'=>∃i acc H2,Inv (X.block scope C N fp z4 H1) [] (st Z) H2 s'/\tn i s'.heap/\(∀b∈fp,H2 b=none)/\W i n acc H2) ?_ m0 ⟨0,[],_,I0,h01,fr0,w0⟩;rintro n s3 ⟨i,acc,H2,I2,st2,fr2,w2⟩;obtain⟨hl,hz,alt⟩:=step i n acc H2 w2;rcases alt with ⟨stop,q⟩|⟨go,nxt⟩
  .refine thn (T.done (X.block scope C N fp z4 H1) rfl rfl rfl hc i [] s3 (st Z) H2 _ I2 (qV fr2) st2 stop) λ r s4 ⟨hr,I4⟩=>?_
   subst hr;exact hRR _ C H2 s4 ⟨_,I4⟩ kX q
  .refine thn (T.item (X.block scope C N fp z4 H1) rfl rfl rfl hc i [] s3 (st Z) H2 _ I2 (qV fr2) st2 go) λ r s4 ⟨u,hr,h4⟩=>?_
   subst hr;refine thn h4 λ _ s5 ⟨x,H5,I5,r5,y5,st5,fr5⟩=>?_
   have I5':=I5.pinned (qV fr5) (T.obj _ _ st5);refine thn (hg C fp z4 H1 _ s5 (st Z) H5 x u _ I5' r5 (hgo _ _ _ _ (nxt x H5 y5))) λ _ s6 ⟨Z6,H6,I6,q6,aKY,ag6⟩=>?_
   refine thn (ht C fp z4 H1 _ s6 Z6 H6 _ I6 q6) λ ok s7 ⟨H7,I7,q7⟩=>?_
   have again:∀{H9:Hp} {s9:zAG} {acc':List V},Inv (X.block scope C N fp z4 H1) ([]++uZ fp s5.heap) Z6 H9 s9->(∃m',m'<n/\W (i+1) m' acc' H9)->
     ∃m,m<n/\∃i acc H2,Inv (X.block scope C N fp z4 H1) [] (st Z) H2 s9/\tn i s9.heap/\(∀b∈fp,H2 b=none)/\W i m acc H2:=λ{H9 s9 acc'} I9 ⟨m',hm,w9⟩=>by
    have bS:∀b∈fp,∀o,s5.heap.get? b=some o->s9.heap.get? b=some o/\H9 b=none:=λ b hb o e=>by
     have z:=I9.pin (b,o) (zA3 _ (zA3 _ (nH hb e)));exact⟨z.1,z.2.1⟩
    refine⟨m',hm,i+1,acc',H9,I9.unpinned.weak (by rw[aKY]) (λ k v e=>?_),T.keep _ _ _ st5 λ b hb o e=>(bS b hb o e).1,λ b hb=>?_,w9⟩
    .have hk:k<(st Z).length:=(zAL.mp e).1
     have hkN:k<N.length:=by rw[<-B.len Z];exact hk
     obtain⟨_,hks,_⟩:=B.val Z k _ v (zAE hkN) e;rw[ag6 k hks];exact e
    .obtain⟨o,e,_⟩:=T.obj _ _ st5 b hb
     exact(bS b hb o e).2
   cases ok with
   |false=>
    rw[if_neg zAU]at q7 ⊢;exact again I7 q7
   |true=>
    rw[if_pos rfl]at q7 ⊢;refine thn (he C fp z4 H1 _ s7 Z6 H7 _ I7 q7) λ u8 s8 ⟨y,H8,I8,r8,hl8,q8⟩=>?_
    refine thn (aAK _ s8 Z6 H8 (.ref z4.heap.objs.size) [y] (.ref z4.heap.objs.size) [u8] (λ _ H9=>H9=upd H8 z4.heap.objs.size (.lst (acc++[y]))) I8 rfl (.cons r8 .nil) ⟨_,acc,y,rfl,rfl,hl8,hz,rfl⟩) λ _ s9 ⟨_,H9,I9,_,e9⟩=>?_
    subst e9;exact again I9 q8
 exact codeAny_compStart_list (loop _ rfl) (T.self X.A 0 _ _ _ h01 (loop _ rfl))
def aB6(I:Inv X iX Z H1 z4)(hfp:∀b∈fp,uG X iX H1 b)(h:∃Z',Inv (X.block scope C N fp z4 H1) [] Z' H' s'):Inv X iX Z H' s':=by
 obtain⟨Z',J⟩:=h;exact I.call' (ch:=fp) J.os J.base J.hok J.bare λ b hb=>⟨(hfp b hb).2.2.2.1,(hfp b hb).2.1,(hfp b hb).2.2.2.2.1,(hfp b hb).2.2.2.2.2⟩
def aOg(B:dh X scope N st ks)(hc:X.calm=true)(hi:PI X tg iter wi)(hg:∀C fp z5 zS,PG (X.block scope C N fp z5 zS) tg g)(hgo:uF g ks)(ht:∀C fp z5 zS,aCr (X.block scope C N fp z5 zS) ifs tt)
  (he:∀C fp z5 zS,PE (X.block scope C N fp z5 zS) elt te)(hs:∀x,zBV iter X.env x=pure x:=by intro _;rfl):PE X (.ListComp elt [⟨tg,iter,ifs,0⟩] scope pos) (tLC wi st g tt te):=by
 intro iX s Z H Q I h;have hcl:zF6 scope X.env=pure (bI scope X.env):=lN λ y hy hk=>I.ok.has _ (B.free y hy hk)
 rw[eval_ListComp];refine zEG (use:=none) rfl hs hcl B.kind B.loc (thn (hi iX s Z H _ I h) λ v s1 h1=>thn h1 λ itv s2 h2=>?_);obtain⟨it,fp,tn,J,H2,e,I2,T,st2,f2,hq⟩:=h2;subst e;refine aCY (RR:=λ acc C=>compPost (model X.prog X.w) X.A X.xe none (EP X iX Z Q) acc C) B hc hg hgo ht he I2 T st2 f2 hq ?_;intro D C H' s' hJ kX q;have I3:=aB6 I2 f2 hJ;obtain⟨Z',J'⟩:=hJ;obtain⟨m,hn,_⟩:=id J'.loc;have hHC:H' C=none:=J'.free;refine⟨m,hn,λ h'' hs''=>⟨.ref D,H',?_,rfl,q⟩⟩;exact I3.turned (t':=s'.toks) (λ b o ne e=>(hs''.2 b ne).trans e) hHC (zBr (zA4 I2.lt kX)) (.inr (zAh I2.sz kX))
  (λ x c e z=>by obtain⟨v,ic⟩:=I2.cell x c e;exact absurd (zA4 ic.lt (by rw[z];exact kX)) (zBF _))
  (λ p hp z=>absurd (zA4 (I2.pinL hp) (by rw[z];exact kX)) (zBF _))
def aCJ(hN:X.N.Nodup)(hx1:X.N[i]? =some x)(hx2:Loc X.env.scope x)(B:dh X scope N st ks)(hc:X.calm=true)(hi:PI X tg iter wi)(hg:∀C fp z5 zS,PG (X.block scope C N fp z5 zS) tg g)(hgo:uF g ks)
  (ht:∀C fp z5 zS,aCr (X.block scope C N fp z5 zS) ifs tt)(he:∀C fp z5 zS,PE (X.block scope C N fp z5 zS) elt te)(hsw:zBv (.ListComp elt [⟨tg,iter,ifs,0⟩] scope pos) (some (.Name x pos')) spos.line X.env=pure true)
  (hs:∀x,zBV iter X.env x=pure x:=by intro _;rfl)(hf:X.fn x=true\/X.env.scope.names.lookup x=some .local:=by first|exact .inl rfl|exact .inr rfl|assumption):
  PS X (.Assign [.Name x pos'] (.ListComp elt [⟨tg,iter,ifs,0⟩] scope pos) spos) (aEx (tLC wi st g tt te) (vK i)):=by
 intro iX s Z H D I h;have hcl:zF6 scope X.env=pure (bI scope X.env):=lN λ y hy hk=>I.ok.has _ (B.free y hy hk)
 rw[exec_Assign_Name_used _ _ _ _ hsw];refine zAB (zDe (zAB ?_));show wpAny _ _ (do let _ <-comprehension (.ListComp elt [⟨tg,iter,ifs,0⟩] scope pos) scope X.env _ (zF7 []) false (eval iter X.env) (some (zEX (.Name x pos') X.env))) _ _ s;refine zAB (zBO (zEG (use:=some (zEX (.Name x pos') X.env)) (Q:=λ _ s'=>SP X iX D .next s') rfl hs hcl B.kind B.loc (thn (hi iX s Z H _ I h) λ v s1 h1=>thn h1 λ itv s2 h2=>?_)) (λ _ s' hq=>zAH (zAH hq)) λ _ _ e=>e);obtain⟨it,fp,tn,J,H2,e,I2,T,st2,f2,hq⟩:=h2;subst e;refine aCY (Q:=λ x H1=>vK i x Z H1 D.nx) (RR:=λ acc C=>compPost (model X.prog X.w) X.A X.xe (some (zEX (.Name x pos') X.env)) (λ _ s'=>SP X iX D .next s') acc C) B hc hg hgo ht he I2 T st2 f2 hq ?_;intro DD C H' s' hJ kX q;have I3:=aB6 I2 f2 hJ;obtain⟨Z',J'⟩:=hJ;obtain⟨m,hn,_⟩:=id J'.loc;have hHC:H' C=none:=J'.free;have neL:C≠X.env.locals:=zBr (zA4 I2.lt kX);have neC:∀x c,X.env.cells.lookup x=some c->c≠C:=λ x c e z=>by obtain⟨v,ic⟩:=I2.cell x c e;exact absurd (zA4 ic.lt (by rw[z];exact kX)) (zBF _)
 show wpAny _ _ (zEX (.Name x pos') X.env (.ref DD)) _ _ _;refine zIM ?_;refine aAB I3 hN hx1 hx2 (show RelV (.ref DD) (.ref DD)from rfl) (λ s4 I4 ⟨a,hsa,ha⟩=>?_) hf;have nea:C≠a:=by
  rcases ha with z|z
  .rw[z];exact neL
  .exact zCq (neC _ _ z)
 refine⟨m,hn.sameBut hsa nea,λ h'' hs''=>⟨_,H',?_,q⟩⟩;exact I4.turned (t':=s4.toks) (λ b o ne e=>(hs''.2 b ne).trans e) hHC neL (.inr (zAh I2.sz kX)) neC
  (λ p hp z=>absurd (zA4 (I2.pinL hp) (by rw[z];exact kX)) (zBF _))
end
def CX1(P:zAY)(w:World):CXT:=λ outer H s E e s'=>∃(ea:Addr) (cls a0:Value) (B:Heap) (H':Hp),e= .ref ea/\s'.os=s.os/\zE5 s'.gens/\Un (frs outer) [] H H' s.heap s'.heap/\HOk P w H' B/\Heap.FlyingW B outer ea cls a0 s'.heap/\
 (∀b o,s.heap.get? b=some o->H b=none->b∉frs outer->B.get? b=some o)/\(∀b o,s.heap.get? b=some o->b∉frs outer->∃o',B.get? b=some o')/\E cls none H'
structure gM(X:Cx)(E:XK):Prop where
 stk:X.stack=X.env::X.outer
 fr:X.env.frame=some X.env.locals
 ex:X.ex=[]
 xe:X.xe=λ e s'=>wpAny (model X.prog X.w) X.A (leaving X.env e) (λ _ s''=>CX1 X.prog X.w X.outer X.zS X.z5 E e s'') (λ e' s''=>CX1 X.prog X.w X.outer X.zS X.z5 E e' s'') s'
def gM.of{K:zAA}:
  gM (aBX (CX1 P w) P w K mg base N qual scope f cd A outer z5 zS E) E:=⟨rfl,rfl,rfl,rfl⟩
section
variable{X:Cx}{E:XK}
def aIU{B h':Heap}(hX:X.ex=[])(I:Inv X iX Z H s)
  (a1:∀b o,s.heap.get? b=some o->H b=none->b∉frs X.stack->B.get? b=some o)(a2:∀b o,s.heap.get? b=some o->b∉frs X.stack->∃o',B.get? b=some o')
  (a3:B.StaysIn h')(a4:∀b o,b∈frs X.outer->s.heap.get? b=some o->H b=none->(∀vs,o.data≠.fields vs)->∃sl,h'.get? b=some {o with slots:=sl})
  (a5:∀b o,s.heap.get? b=some o->H b=none->H' b=none)(a6:∀b xs,H b=some (.tup xs)->H' b=some (.tup xs))(a7:∀b o u,H b=some (.frz o u)->H' b=some (.frz o u))(a8:∀b q,H b=some (.tbl q)->H' b=some (.tbl q)):
  Un (frs X.outer) [] X.zS H' X.z5.heap h'/\(∀b o,X.z5.heap.get? b=some o->X.zS b=none->b∉frs X.outer->B.get? b=some o)/\(∀b o,X.z5.heap.get? b=some o->b∉frs X.outer->∃o',B.get? b=some o'):=by
 have nx:∀b,b∉X.ex:=λ b z=>by rw[hX]at z;cases z
 have noS:∀b o,X.z5.heap.get? b=some o->b∉frs X.outer->b∉frs X.stack:=λ b o e nf hb=>by
  rcases zA1.mp (I.stkSub b hb)with z|z
  .exact absurd z (zA9 (zA4 (zA2 e) I.ok.above))
  .exact nf z
 have bk:∀b o,X.z5.heap.get? b=some o->X.zS b=none->b∉frs X.outer->B.get? b=some o:=λ b o e n nf=>
  a1 b o (I.base.keep b o e n nf (nx b)) (I.base.free b o e n (nx b)) (noS b o e nf)
 have ba:∀b o,X.z5.heap.get? b=some o->b∉frs X.outer->∃o',B.get? b=some o':=λ b o e nf=>by
  obtain⟨o1,e1⟩:=I.base.there b o e (nx b);exact a2 b o1 e1 (noS b o e nf)
 have sl:∀b o,X.z5.heap.get? b=some o->X.zS b=none->b∈frs X.outer->∃sl,h'.get? b=some {o with slots:=sl}:=λ b o e n hb=>by
  obtain⟨sl1,e1⟩:=I.base.slot b o e n hb (nx b);obtain⟨_,o2,ho2,hnf⟩:=I.ok.funs.mem hb;rw[e]at ho2;cases ho2;obtain⟨sl2,e2⟩:=a4 b _ hb e1 (I.base.free b o e n (nx b)) hnf;exact⟨sl2,e2⟩
 refine⟨⟨λ b o e n nf _=>a3 b o (bk b o e n nf),λ b o e n hb _=>sl b o e n hb,λ b o e n _=>?_,λ b o e _=>?_,λ b xs e=>a6 b xs (I.base.tups b xs e),λ b o u e=>a7 b o u (I.base.frzs b o u e),λ b q e=>a8 b q (I.base.tbls b q e)⟩,bk,ba⟩
 .obtain⟨o1,e1⟩:=I.base.there b o e (nx b)
  exact a5 b o1 e1 (I.base.free b o e n (nx b))
 .by_cases hb:b∈frs X.outer
  .obtain⟨s2,e2⟩:=sl b o e (I.ok.frf b hb) hb
   exact⟨_,e2⟩
  .obtain⟨o',e'⟩:=ba b o e hb
   exact⟨o',a3 b o' e'⟩
def gM.pass(D:gM X E):aBd (CX1 X.prog X.w) X E:=by
 intro iX Z H s e s' I h;obtain⟨ea,cls,a0,B,H',rfl,os,bare,un,hok,fly,bk,ba,hE⟩:=h;rw[D.xe];have fly':=fly;rw[D.stk]at fly';have hfr:=I.ok.frames;rw[D.stk]at hfr;refine wpAny_leaves_onW (L:=X.env.locals) hfr D.fr fly' λ h' fl up=>?_
 have a4:∀b o,b∈frs X.outer->s.heap.get? b=some o->H b=none->(∀vs,o.data≠.fields vs)->∃sl,h'.get? b=some {o with slots:=sl}:=λ b o hb e n nf=>by
  have hb':b∈frs X.stack:=by
   rw[D.stk];unfold frs;rw[zCF,D.fr];exact zAR _ hb
  obtain⟨s1,e1⟩:=un.slot b o e n hb' (λ z=>nomatch z);obtain⟨s2,e2⟩:=up b _ e1 nf;exact⟨s2,e2⟩
 obtain⟨u1,u2,u3⟩:=aIU (B:=B) (h':=h') (H':=H') D.ex I bk ba fl.1 a4 (λ b o e n=>un.free b o e n (λ z=>nomatch z)) un.tups un.frzs un.tbls;exact⟨ea,cls,a0,B,H',rfl,os.trans I.os,bare,u1,hok,fl,u2,u3,hE⟩
def gM.raise(D:gM X E){ea:Addr}(I:Inv X iX Z H s)
  (hx:Heap.MadeExcOf s.heap h1 ea cls vs)(hE:E cls none H):X.xe (.ref ea) {s with heap:=h1}:=by
 rw[D.xe];have stk:s.heap.FunFrames X.base X.stack:=I.stack;have hin:∀env∈X.stack,∀a,env.frame=some a->a∈frs X.stack:=λ env he a ha=>zCQ.mpr ⟨env,he,ha⟩
 have stk2:=PySem.W.funFrames_hide stk hin;have hfr:=I.ok.frames;rw[D.stk]at hfr;have stk3:s.heap.FunFrames (zDT s.heap (frs X.stack)) (X.env::X.outer):=by rw[<-D.stk];exact stk2
 refine wpAny_leaves_madeW (L:=X.env.locals) (base:=zDT s.heap (frs X.stack)) hfr D.fr (λ b o q=>zGW _ q) stk3 hx λ h' t fl tup bn up=>?_
 have hok:HOk X.prog X.w H (zDT s.heap (frs X.stack)):=λ a o e=>by
  refine(I.hok a o e).stay (λ b u hb q=>zDU _ q λ hm=>?_) (λ _ z=>z) λ _ _ z=>z
  have hn:=I.stkFree b hm;rcases hb with z|z
  .rw[z,e]at hn;cases hn
  .rw[z]at hn;cases hn
 obtain⟨u1,u2,u3⟩:=aIU (B:=zDT s.heap (frs X.stack)) (h':=h') (H':=H) D.ex I (λ b o e n nf=>zDU _ e nf) (λ b o e nf=>⟨o,zDU _ e nf⟩) fl.1
  (λ b o hb e n nf=>up b o (hx.keeps b o e) nf) (λ b o e n=>n) (λ _ _ e=>e) (λ _ _ _ e=>e) (λ _ _ e=>e)
 exact⟨ea,cls,.ref t,_,H,rfl,I.os,I.bare,u1,hok,fl,u2,u3,hE⟩
def gM.own(D:gM X E):zHU (model X.prog X.w) X.A X.env X.xe:=λ e s' h=>by
 rw[D.xe]at h ⊢;exact wpAny_leaving_again (SameStack.refl _) h
end
section
variable{P:zAY}{w:World}{K:zAA}{mg:Str->Option Value}{base:Heap}
def Fun.okX{st:Stmt}(F:Fun K x q st f fd)(S:aV N ps (aO st))(len:∀vs H Q E,sp vs H Q E->vs.length=ps.length)
  (hbody:∀(cdv:Value) (A:zAc) (outer:List Env) (s:zAG) (H:Hp) (vs:List V) (Q:VK) (E:XK),jy k (A.deeper (zEF q (aO st) s.heap.objs.size f cdv))->sp vs H Q E->
   ∃t,PSs (aBX (CX1 P w) P w K mg base N q (aO st) f cdv A outer s H E) (fX st) t/\t {nx:=λ _ H'=>Q .non H',rt:=Q} (start N vs) H):bU P w K mg base (CX1 P w) (k+1) f fd ps sp:=by
 obtain⟨oc,od,kV,doc,pm,an,cdv,ct,osl,rfl,lk,hcd⟩:=F.ex;exact aPF lk hcd S len λ A outer s H vs Q E hr hsp=>hbody cdv A outer s H vs Q E hr hsp
end
def oG(K:zAA)(C:Addr):Prop:=zHW K C [.type "ValueError",.type "Exception",.type "BaseException",.type "object"] "ValueError.__new__"=true
def aBB{K:zAA}(X:K.In h)(hm:mg x=some (.ref C))(q:oG K C):OwnCls x C [.type "ValueError",.type "Exception",.type "BaseException",.type "object"] "ValueError.__new__" mg h:=by
 refine⟨hm,?_⟩;unfold oG zHW at q;split at q
 .rename_i dd cd sl ho
  split at q
  .rename_i C' bm k0 k1 k2 k3 n k5 hm' hs
   simp only[zAW,beq_iff_eq,zDn]at q;obtain⟨⟨⟨⟨⟨rfl,rfl⟩,hdel⟩,ht⟩,hok⟩,hni⟩:=q;obtain⟨nm,bs,mro,ns,qn,hd,sn,sub,ab,col,del⟩:=cd;dsimp only at hm' hdel hok hni;subst hm' hdel;have hsl:sl=#[k0,k1,k2,k3,some (.builtin "ValueError.__new__"),k5]:=by
    obtain⟨l⟩:=sl;simp only at hs;rw[hs]
   subst hsl;exact⟨bm,ns,nm,qn,bs,hd,sn,sub,ab,col,dd,k0,k1,k2,k3,k5,_,X _ _ ho,.of_isNs (PySem.W.isNs_of_in X hok),PySem.W.nsMap_none_of_in X hok hni,PySem.W.tail_of_in X ht⟩
  .cases q
 .cases q
def aMF(C:Addr)(E:XK)(ta:TA):TS:=λ _ Z H=>ta Z H λ vs H1=>vs.length<=zAO/\E (.ref C) none H1
section
variable{X:Cx}{E:XK}
def aHG(D:gM X E)(hc:X.calm=true){rest:List Expr}(hm:X.mg x=some (.ref C))(hC:oG X.K C)(hg:Gl X x)
  (ha:PA X (yT::rest) ta)(he:zAT (yT::rest) X.env=(false,eval yT X.env)::zAT rest X.env:=by rfl)
  (hplain:(zBu cpos (zAT rest X.env)).any (·.1)=false:=by rfl)(hd:Nd x:=by decide):
  PS X (.Raise (some (.Call (.Name x np) (yT::rest) [] cpos)) none pos) (aMF C E ta):=by
 intro iX s Z H DD I h;obtain⟨tl,NN,nm,q,bs,hdct,sn,sub,ab,col,dd,k0,k1,k2,k3,k5,mN,hCo,hN,hni,T⟩:=(aBB (h:=X.base) I.mod.kin hm hC).obj;have FB:=PySem.F.excBase_ValueError;refine wpAny_Raise_call_subU (C:=C) (nm:=nm) (q:=q) (N:=NN) (bs:=bs) (bm:=tl) (hdct:=hdct) (sn:=sn) (sub:=sub) (ab:=ab) (col:=col) (dd:=dd) (k0:=k0) (k1:=k1) (k2:=k2) (k3:=k3) (k5:=k5)
  FB FB.hasB FB (mN:=mN) (T.hasType FB.hasBase) (I.ok.hd hc) (by rw[he];show(false||(zBu cpos (zAT rest X.env)).any (·.1))=false;rw[hplain];rfl) hni
  (aBJ I hg hm ⟨rfl,?_⟩ hd)
 have harg:=ha cpos iX s Z H _ I h;rw[he]at harg ⊢;refine zEQ (zBO harg (λ vs z4 y8=>?_) λ _ _ y=>y);obtain⟨xs,H2,I2,rv,hz,hE⟩:=y8;refine⟨rfl,by show vs.length<=zAO;rw[<-rv.length];exact hz,I2.bk _ _ hCo,hN.keeps I2.bk,T.keeps I2.bk,λ h' ea hx=>D.raise I2 hx hE⟩
end
section
variable{κ:Type}[DecidableEq κ]
def uK(kvs:List (κ×V))(k:κ):Option V:=(kvs.find? λ kv=>decide (kv.1=k)).map (·.2)
def putK(kvs:List (κ×V))(k:κ)(v:V):List (κ×V):=
 if (kvs.any λ kv=>decide (kv.1=k))=true then kvs.map (λ kv=>if kv.1=k then(kv.1,v)else kv)else kvs++[(k,v)]
def rB{p:κ×V}{r:List (κ×V)}{k:κ}(e:p.1=k):uK (p::r) k=some p.2:=by simp[uK,zBb,e]
def rC{p:κ×V}{r:List (κ×V)}{k:κ}(e:¬p.1=k):uK (p::r) k=uK r k:=by simp[uK,zBb,e]
theorem aBh(k:κ):∀kvs:List (κ×V),(kvs.any λ kv=>decide (kv.1=k))=(uK kvs k).isSome
 |[]=>rfl
 |p::r=>by
  rw[zCZ];by_cases e:p.1=k
  .simp only[rB e,decide_eq_true e,Bool.true_or,zD2]
  .rw[rC e,decide_eq_false e,Bool.false_or];exact aBh k r
def lA(kvs:List (κ×V))(k:κ)(v:V):(putK kvs k v).length<=kvs.length+1:=by
 unfold putK;split
 .rw[zAF];omega
 .rw[zAZ,zAk,zBW];omega
def uE.isSome_eq{o:Option V}{u:Option Value}(r:uE o u):o.isSome=u.isSome:=by
 cases o with
 |none=>cases u with
  |none=>rfl
  |some _=>exact(show False from r).elim
 |some _=>cases u with
  |none=>exact(show False from r).elim
  |some _=>rfl
def KV.val{kvs:List (κ×V)}{vs:List (κ×Value)}(r:KV kvs vs)(k:κ):uE (uK kvs k) (zGK vs k):=by
 unfold KV at r;induction r with
 |nil=>exact zCN
 |@cons p q ps qs h t ih=>
  obtain⟨h1,h2⟩:=h;by_cases e:p.1=k
  .have e':q.1=k:=h1.symm.trans e
   have b:zGK (q::qs) k=some q.2:=by simp[zGK,zBb,e']
   rw[rB e,b];exact h2
  .have e':¬q.1=k:=λ z=>e (h1.trans z)
   have b:zGK (q::qs) k=zGK qs k:=by simp[zGK,zBb,e']
   rw[rC e,b];exact ih
theorem KV.any{kvs:List (κ×V)}{vs:List (κ×Value)}(r:KV kvs vs)(k:κ):(kvs.any λ kv=>decide (kv.1=k))=vs.any λ kv=>decide (kv.1=k):=by
 unfold KV at r;induction r with
 |nil=>rfl
 |cons h t ih=>rw[zCZ,zCZ,ih,h.1]
def KV.repl{kvs:List (κ×V)}{vs:List (κ×Value)}(r:KV kvs vs)(k:κ){y:V}{u:Value}(ry:RelV y u):
  KV (kvs.map λ kv=>if kv.1=k then(kv.1,y)else kv) (vs.map λ kv=>if kv.1=k then(kv.1,u)else kv):=by
 unfold KV at r ⊢;induction r with
 |nil=>exact .nil
 |@cons p q ps qs h t ih=>
  rw[zAD,zAD];refine .cons ?_ ih;obtain⟨h1,h2⟩:=h;by_cases e:p.1=k
  .rw[if_pos e,if_pos (h1.symm.trans e)];exact⟨h1,ry⟩
  .rw[if_neg e,if_neg (λ z=>e (h1.trans z))];exact⟨h1,h2⟩
def KV.put{kvs:List (κ×V)}{vs:List (κ×Value)}(r:KV kvs vs)(k:κ){y:V}{u:Value}(ry:RelV y u):KV (putK kvs k y) (stored vs k u):=by
 unfold putK stored;rw[r.any k];by_cases e:(vs.any λ kv=>decide (kv.1=k))=true
 .rw[if_pos e,if_pos e];exact r.repl k ry
 .rw[if_neg e,if_neg e];exact zHl r ⟨rfl,ry⟩
theorem KV.length{kvs:List (κ×V)}{vs:List (κ×Value)}(r:KV kvs vs):kvs.length=vs.length:=zDN r
end
def aAO{P:zAY}{w:World}{k:Key}{u:Value}(r:RelV (kV k) u):(cL P w).is k u=true:=by
 cases k with
 |inl i=>obtain⟨t,e⟩:=(show∃t,u=zDB i t from r);subst e;exact aCW P w i t
 |inr x=>obtain⟨t,e⟩:=(show∃t,u=zGD x t from r);subst e;exact aCV P w x t
theorem aAP{P:zAY}{w:World}:∀{ks:List Key} {us:List Value},Vals (ks.map kV) us->ItemsAre (cL P w) ks us
 |[],_,r=>by rw[zEL]at r;cases r;exact .nil
 |k::ks,_,r=>by
  rw[zAD]at r;cases r with
  |cons h t=>exact .cons (aAO h) (aAP t)
abbrev KT(H:Hp):List (List Key×V)->List (List Key×Addr×Value)->Prop:=zGe λ p q=>p.1=q.1/\H q.2.1=some (.tup (p.1.map kV))/\RelV p.2 q.2.2
def KT.val{H:Hp}{kvs:List (List Key×V)}{xs:List (List Key×Addr×Value)}(r:KT H kvs xs)(k:List Key):uE (uK kvs k) ((atKey xs k).map (·.2)):=by
 induction r with
 |nil=>exact zCN
 |@cons p q ps qs h t ih=>
  obtain⟨h1,_,h2⟩:=h;by_cases e:p.1=k
  .have e':q.1=k:=h1.symm.trans e
   have b:atKey (q::qs) k=some q.2:=by simp[atKey,zBb,e']
   rw[rB e,b];exact h2
  .have e':¬q.1=k:=λ z=>e (h1.trans z)
   have b:atKey (q::qs) k=atKey qs k:=by simp[atKey,zBb,e']
   rw[rC e,b];exact ih
def KT.repl{H:Hp}{kvs:List (List Key×V)}{xs:List (List Key×Addr×Value)}(r:KT H kvs xs)(k:List Key){y:V}{u:Value}(ry:RelV y u):
  KT H (kvs.map λ kv=>if kv.1=k then(kv.1,y)else kv) (xs.map (putAt k u)):=by
 induction r with
 |nil=>exact .nil
 |@cons p q ps qs h t ih=>
  rw[zAD,zAD];refine .cons ?_ ih;obtain⟨h1,h2,h3⟩:=h;unfold putAt;by_cases e:p.1=k
  .rw[if_pos e,if_pos (h1.symm.trans e)];exact⟨h1,h2,ry⟩
  .rw[if_neg e,if_neg (λ z=>e (h1.trans z))];exact⟨h1,h2,h3⟩
def KT.put{H:Hp}{kvs:List (List Key×V)}{xs:List (List Key×Addr×Value)}(r:KT H kvs xs)(k:List Key){b:Addr}{y:V}{u:Value}(hb:H b=some (.tup (k.map kV)))(ry:RelV y u):
  KT H (putK kvs k y) (storedH xs k b u):=by
 have e:(kvs.any λ kv=>decide (kv.1=k))=(atKey xs k).isSome:=by
  rw[aBh,(r.val k).isSome_eq,zDh]
 unfold putK storedH;rw[e];by_cases q:(atKey xs k).isSome=true
 .rw[if_pos q,if_pos q];exact r.repl k ry
 .rw[if_neg q,if_neg q];exact zHl r ⟨rfl,hb,ry⟩
def KT.keeps{H H':Hp}{kvs:List (List Key×V)}{xs:List (List Key×Addr×Value)}(r:KT H kvs xs)(ht:∀b ys,H b=some (.tup ys)->H' b=some (.tup ys)):KT H' kvs xs:=
 Paired.mapP r λ _ _ z=>⟨z.1,ht _ _ z.2.1,z.2.2⟩
section
variable{P:zAY}{w:World}{H:Hp}{h:Heap}{a:Addr}
def aLX{u:HO}(ok:HOk P w H h)(e:Rd H a u):bw P w H h a u:=e.ok ok
def ye{kvs:List (Key×V)}(ok:HOk P w H h)(e:Rd H a (.dK kvs)):kvs.length<=zAO/\(a==zAz)=false/\∃vs,KV kvs vs/\h.DictOf (cL P w) a vs:=
 show bw P w H h a (.dK kvs)from aLX ok e
def aI3{kvs:List (Key×V)}(ok:HOk P w H h)(e:H a=some (.dK kvs)):kvs.length<=zAO/\(a==zAz)=false/\∃vs,KV kvs vs/\h.DictOf (cL P w) a vs:=ye ok (.inl e)
def xx{ks:List Key}(ok:HOk P w H h)(e:H a=some (.tup (ks.map kV))):(zDE (cL P w)).is h ks a:=by
 obtain⟨_,its,r,o,h1,h2,n,h3⟩:=(show bw P w H h a (.tup (ks.map kV))from ok a _ e);exact⟨o,its.toArray,n,h1,h2,h3,by simpa using aAP r⟩
def aA6{kvs:List (List Key×V)}(ok:HOk P w H h)(e:Rd H a (.dT kvs)):kvs.length<=zAO/\(a==zAz)=false/\
  ∃xs,KT H kvs xs/\h.DictOfH (zDE (cL P w)) a xs:=by
 obtain⟨z,y,xs,r,o,es,ep,h1,h2,h3,h4,h5⟩:=(show bw P w H h a (.dT kvs)from aLX ok e);refine⟨z,y,xs,r,o,es,ep,h1,h2,h3,h4,λ x hx=>?_,h5⟩;have all:∀{l:List (List Key×V)} {m:List (List Key×Addr×Value)},KT H l m->∀x∈m,(zDE (cL P w)).is h x.1 x.2.1:=by
  intro l m q;induction q with
  |nil=>intro x hx;exact nomatch hx
  |@cons p q ps qs hq t ih=>
   intro x hx;rcases zA1.mp hx with e|hx
   .subst e
    exact xx ok (by rw[<-hq.1];exact hq.2.1)
   .exact ih x hx
 exact all r x hx
def aPJ{kvs:List (List Key×V)}(ok:HOk P w H h)(e:H a=some (.dT kvs)):kvs.length<=zAO/\(a==zAz)=false/\
  ∃xs,KT H kvs xs/\h.DictOfH (zDE (cL P w)) a xs:=aA6 ok (.inl e)
end
def vp(H:Hp)(a:Addr)(y:V)(r:Option V):Prop:=
 (∃kvs k,Rd H a (.dK kvs)/\y=kV k/\r=uK kvs k)\/∃kvs k b,Rd H a (.dT kvs)/\y= .ref b/\H b=some (.tup (k.map kV))/\r=uK kvs k
def aIv(H:Hp)(a:Addr)(y v:V)(H':Hp):Prop:=
 (∃kvs k,H a=some (.dK kvs)/\y=kV k/\kvs.length<zAO/\H'=upd H a (.dK (putK kvs k v)))\/
 ∃kvs k b,H a=some (.dT kvs)/\y= .ref b/\H b=some (.tup (k.map kV))/\kvs.length<zAO/\H'=upd H a (.dT (putK kvs k v))
theorem vp.k{H:Hp}{a:Addr}{kvs:List (Key×V)}{k:Key}(e:H a=some (.dK kvs)):vp H a (kV k) (uK kvs k):=.inl ⟨kvs,k,.inl e,rfl,rfl⟩
theorem aIv.k{H:Hp}{a:Addr}{kvs:List (Key×V)}{k:Key}{v:V}(e:H a=some (.dK kvs))(hl:kvs.length<zAO):aIv H a (kV k) v (upd H a (.dK (putK kvs k v))):=.inl ⟨kvs,k,e,rfl,hl,rfl⟩
section
variable{X:Cx}{iX:hZ}{Z:St}{H:Hp}{s:zAG}{a:Addr}{y v:V}{u r:Value}{o:Option V}{A:zAc}{E:Value->zAG->Prop}
def Inv.big(I:Inv X iX Z H s):zAz<s.heap.objs.size:=by
 have h:zAd<s.heap.objs.size:=(I.mod.glob.keeps I.bk).lt;exact zG1 (by decide) h
def aFt{Q:Value->zAG->Prop}(hu:A.units+1<cLine)(I:Inv X iX Z H s)(g:vp H a y (some v))(ry:RelV y u)(h:∀w' s',Inv X iX Z H s'->RelV v w'->Q w' s'):
  wpAny (model X.prog X.w) A (zEU (.ref a) u) Q E s:=by
 rcases g with ⟨kvs,k,e,ey,l⟩|⟨kvs,k,b,e,ey,eb,l⟩
 .subst ey
  obtain⟨z,hd,vs,rel,dd⟩:=ye I.hok e;obtain⟨w',hw,rw'⟩:=uE.some_of (v:=v) (o:=zGK vs k) (by rw[l];exact rel.val k);exact wpAny_getItem_of (aAO ry) dd.mapOf hw (h w' _ (I.tok _) rw')
 .subst ey
  cases (show u=zAs b from ry);obtain⟨z,hd,xs,rel,dd⟩:=aA6 I.hok e;obtain⟨w',hw,rw'⟩:=uE.some_of (v:=v) (o:=(atKey xs k).map (·.2)) (by rw[l];exact rel.val k);obtain⟨p,hp,hp2⟩:=zCK.mp hw;refine wpAny_getItem_heap (zC0 hu) (xx I.hok eb) dd hp ?_;rw[hp2];exact h w' _ (I.tok _) rw'
def aPf{Q:Value->zAG->Prop}(hu:A.units+1<cLine)(I:Inv X iX Z H s)(g:vp H a y o)(ry:RelV y u)(h:∀s',Inv X iX Z H s'->Q (.bool o.isSome) s'):
  wpAny (model X.prog X.w) A (zAm .In u (.ref a)) Q E s:=by
 rcases g with ⟨kvs,k,e,ey,l⟩|⟨kvs,k,b,e,ey,eb,l⟩
 .subst ey
  obtain⟨z,hd,vs,rel,dd⟩:=ye I.hok e;refine wpAny_in_of (aAO ry) hd dd.mapOf ?_;rw[<-(rel.val k).isSome_eq,<-l];exact h _ (I.tok _)
 .subst ey
  cases (show u=zAs b from ry);obtain⟨z,hd,xs,rel,dd⟩:=aA6 I.hok e;refine wpAny_in_heap (zC0 hu) (xx I.hok eb) hd dd ?_;have q:=(rel.val k).isSome_eq;rw[zDh]at q;rw[<-q,<-l];exact h _ (I.tok _)
def aKv{Q:Value->zAG->Prop}(hu:A.units+1<cLine)(I:Inv X iX Z H s)(g:vp H a y o)(ry:RelV y u)(h:∀s',Inv X iX Z H s'->Q (.bool (!o.isSome)) s'):
  wpAny (model X.prog X.w) A (zAm .NotIn u (.ref a)) Q E s:=by
 rcases g with ⟨kvs,k,e,ey,l⟩|⟨kvs,k,b,e,ey,eb,l⟩
 .subst ey
  obtain⟨z,hd,vs,rel,dd⟩:=ye I.hok e;refine wpAny_notIn_of (aAO ry) hd dd.mapOf ?_;rw[<-(rel.val k).isSome_eq,<-l];exact h _ (I.tok _)
 .subst ey
  cases (show u=zAs b from ry);obtain⟨z,hd,xs,rel,dd⟩:=aA6 I.hok e;refine wpAny_notIn_heap (zC0 hu) (xx I.hok eb) hd dd ?_;have q:=(rel.val k).isSome_eq;rw[zDh]at q;rw[<-q,<-l];exact h _ (I.tok _)
def aBW{h':Heap}{t':Nat}{ob:HO}(I:Inv X iX Z H s)(mu:Mut (H a))(hs:zBa a s.heap h')(he:∃q,h'.get? a=some q)(new:bw X.prog X.w (upd H a ob) h' a ob):
  Inv X iX Z (upd H a ob) {s with heap:=h',toks:=t'}:=
 I.write (x:=a) (e:=a) mu (.inl rfl) (λ b q hb z=>(hs.2 b hb).trans z) he new
def aI4{P:zAY}{w:World}{H':Hp}{h':Heap}{kvs:List (Key×V)}{vs:List (Key×Value)}(z:kvs.length<=zAO)(hd:(a==zAz)=false)(rel:KV kvs vs)(dd:h'.DictOf (cL P w) a vs):
  bw P w H' h' a (.dK kvs):=⟨z,hd,vs,rel,dd⟩
def aFs{H':Hp}{Q:Unit->zAG->Prop}(hu:A.units+1<cLine)(I:Inv X iX Z H s)(g:aIv H a y v H')(ry:RelV y u)(rv:RelV v r)(h:∀s',Inv X iX Z H' s'->Q () s'):
  wpAny (model X.prog X.w) A (zGv (.ref a) u r) Q E s:=by
 rcases g with ⟨kvs,k,e,ey,l,eH⟩|⟨kvs,k,b,e,ey,eb,l,eH⟩
 .subst ey eH
  obtain⟨z,hd,vs,rel,dd⟩:=aI3 I.hok e;have hz:vs.length<=zAO:=by rw[<-rel.length];exact z
  have hl:(putK kvs k v).length<=zAO:=by have:=lA kvs k v;omega
  refine wpAny_setItem_pairs (hsz:=hz) (aAO ry) dd λ h' dd' hs=>h _ ?_
  have he:∃q,h'.get? a=some q:=let⟨q,_,_,hq,_⟩:=dd';⟨q,hq⟩
  exact aBW I (by rw[e];exact zCN) hs he (aI4 hl hd (rel.put k rv) dd')
 .subst ey eH
  cases (show u=zAs b from ry);obtain⟨z,hd,xs,rel,dd⟩:=aPJ I.hok e;have hz:xs.length<=zAO:=by rw[<-zDN rel];exact z
  have hl:(putK kvs k v).length<=zAO:=by have:=lA kvs k v;omega
  refine zHr (hsz:=hz) (zC0 hu) (xx I.hok eb) dd λ h' dd' hs=>h _ ?_
  obtain⟨q,es,ep,hq,h2,h3,h4,_,h5⟩:=dd';refine aBW I (by rw[e];exact zCN) hs ⟨q,hq⟩ ⟨hl,hd,_,(rel.put k eb rv).keeps λ c ys ec=>?_,q,es,ep,hq,h2,h3,h4,h5⟩;rw[aW (aOr ec e (λ z=>nomatch z))];exact ec
end
section
variable{X:Cx}{iX:hZ}{Z:St}{H:Hp}{s:zAG}{a:Addr}{kvs:List (Key×V)}{A:zAc}{E:Value->zAG->Prop}
def aPK{Q:Value->zAG->Prop}(I:Inv X iX Z H s)(e:Rd H a (.dK kvs))(h:∀t s',Inv X iX Z H s'->Q (.int kvs.length t) s'):wpAny (model X.prog X.w) A (call (.builtin "len") [.ref a]) Q E s:=by
 obtain⟨z,hd,vs,rel,dd⟩:=ye I.hok e;refine call_len_dict hd dd (by rw[<-rel.length];rw[zB3]at z;omega) ?_;rw[<-rel.length];exact h _ _ (I.tok _)
end
def aPU(i:Expr):Prop:=∀ov iv,zGJ i false ov iv=operate [ov,iv] (zEU ov iv)
def aJH{prog:zAY}{w:World}{A:zAc}{E:Value->zAG->Prop}{s:zAG}{env:Env}{value slice:Expr}{pos:Pos}{T id:String}{Q:Value->zAG->Prop}
  (hl:zEi (.type T) "__getitem__"=pure (some (.builtin id)))(hs:aPU slice)
  (h:wpAny (model prog w) A (eval value env) (λ o zI=>wpAny (model prog w) A (eval slice env) (λ i z4=>z4.TypeIs o T/\wpAny (model prog w) A (zEU o i) Q E z4) E zI) E s):
  wpAny (model prog w) A (eval (.Subscript value slice pos) env) Q E s:=by
 refine zIG (zBO h (λ o zI zD=>zBO zD (λ i z4 y8=>?_) λ _ _ x=>x) λ _ _ x=>x);obtain⟨hT,y8⟩:=y8;unfold zGw;refine zAB ?_;rw[getitemInPython_of_ne hT.not_modules];refine zAB (zGM hT hl ?_);have fin:wpAny (model prog w) A (zGJ slice false o i) (λ r zC=>wpAny (model prog w) A (letTemporaryGo value o r>>=λ _=>pure r) Q E zC) E z4:=by
  rw[hs o i];exact wpAny_operating (zBO y8 (λ r zC yY=>zAB (wpAny_letTemporaryGo (zAH yY))) λ _ _ x=>x)
 first
  |exact zAH (zAB fin)
  |exact zAB (zAH (zAB fin))
  |exact zAB fin
def aCg{X:Cx}{iX:hZ}{Z:St}{H:Hp}{s:zAG}{a:Addr}{y:V}{o:Option V}(I:Inv X iX Z H s)(g:vp H a y o):s.TypeIs (.ref a) "dict":=by
 rcases g with ⟨kvs,k,e,_,_⟩|⟨kvs,k,b,e,_,_,_⟩
 .obtain⟨_,_,vs,_,dd⟩:=ye I.hok e
  exact dd.typeIs
 .obtain⟨_,_,xs,_,dd⟩:=aA6 I.hok e
  exact dd.typeIs
def aOS(td ty:TE):TE:=λ Z H Q=>td Z H λ x H1=>ty Z H1 λ y H2=>∃a v,x= .ref a/\vp H2 a y (some v)/\Q v H2
def aLV(td ty tv:TE):TS:=λ D Z H=>tv Z H λ v H1=>td Z H1 λ x H2=>ty Z H2 λ y H3=>∃a H4,x= .ref a/\aIv H3 a y v H4/\D.nx Z H4
section
variable{X:Cx}{o i value:Expr}{pos pos':Pos}{td ty tv:TE}
def aJy(hu:X.A.units+1<cLine)(ho:PE X o td)(hi:PE X i ty)(hs:aPU i):PE X (.Subscript o i pos) (aOS td ty):=by
 intro iX s Z H Q I h;refine aJH PySem.F.slot_dict_getitem.lookup hs (thn (ho iX s Z H _ I h) λ u s1 ⟨x,H1,I1,rx,q1⟩=>thn (hi iX s1 Z H1 _ I1 q1) λ iv s2 ⟨y,H2,I2,ry,a,v,ex,g,q2⟩=>?_);subst ex;obtain rfl:u=zAs a:=rx;exact⟨aCg I2 g,aFt hu I2 g ry λ w' s3 I3 rw'=>⟨v,H2,I3,rw',q2⟩⟩
def aJl(hu:X.A.units+1<cLine)(ho:PE X o td)(hi:PE X i ty)(hv:PE X value tv)(hs:zBv value (some (.Subscript o i pos')) pos.line X.env=pure false):
  PS X (.Assign [.Subscript o i pos'] value pos) (aLV td ty tv):=by
 intro iX s Z H D I h;refine wpAny_Assign_Subscript (thn (hv iX s Z H _ I h) λ r s1 ⟨v,H1,I1,rv,q1⟩=>thn (ho iX s1 Z H1 _ I1 q1) λ u s2 ⟨x,H2,I2,rx,q2⟩=>thn (hi iX s2 Z H2 _ I2 q2) λ iv s3 ⟨y,H3,I3,ry,a,H4,ex,g,q3⟩=>?_) hs;subst ex;obtain rfl:u=zAs a:=rx;exact aFs hu I3 g ry rv λ s4 I4=>⟨Z,H4,I4,q3⟩
end
def aI5{P:zAY}{w:World}{H:Hp}(h:Heap)(hb:zAz<h.objs.size):bw P w H (h.push {cls:=.type "dict",data:=.dict #[]}) h.objs.size (.dK []):=
 ⟨zAi _,beq_eq_false_iff_ne.mpr (zCq (zA9 hb)),[],.nil,zE8 h⟩
def aGP:TE:=λ _ H Q=>∀p,H p=none->Q (.ref p) (upd H p (.dK []))
section
variable{X:Cx}{pos:Pos}
def aHR:PE X (.Dict [] [] pos) aGP:=λ iX s Z H Q I h=>
 wpAny_Dict_empty ⟨.ref s.heap.objs.size,_,I.laid (a:=s.heap.objs.size) (o:=.dK []) (t':=s.toks) (λ _ _ q=>zAC _ q) (zAV _) (aI5 s.heap I.big),rfl,h _ (I.hok.fresh (zAV _))⟩
end
end L2
namespace Att
open PySem PySem.W PySem.Calls PyProof.Rows
end Att
namespace L2
open PySem PySem.Spec PyProof.Rows
section
variable{κ:Type}[DecidableEq κ]
end
section
variable{κ:Type}[DecidableEq κ]
end
structure M2(X:Cx)(o:Expr)(m:Str)(apos:Pos)(e f:Expr)(cpos:Pos):Prop where
 base:zB2 o m X.env (eval o X.env)=eval o X.env
 few:((zBu cpos (zAT [e,f] X.env)).all (λ x=>!x.1)&&(zET cpos (zCp [] X.env)).all (λ x=>x.1.isSome)
  &&decide (([e,f]:List Expr).length+([]:List zBz).length+(if ([]:List zBz).isEmpty then 0 else 1)<30))=true
 line:(apos.endLine==cpos.line)=true
 trees:zBu cpos (zAT [e,f] X.env)=[(false,eval e X.env),(false,eval f X.env)]
def IsD(H:Hp)(a:Addr):Prop:=(∃kvs,Rd H a (.dK kvs))\/∃kvs,Rd H a (.dT kvs)
def aNd{X:Cx}{iX:hZ}{Z:St}{H:Hp}{s:zAG}{a:Addr}(I:Inv X iX Z H s)(d:IsD H a):
  s.TypeIs (.ref a) "dict"/\(∀b,zAs a= .ref b->∃ob,s.heap.get? b=some ob/\ob.dict=none)/\(a==zAz)=false:=by
 rcases d with ⟨kvs,e⟩|⟨kvs,e⟩
 .obtain⟨_,hd,vs,_,dd⟩:=ye I.hok e
  refine⟨dd.typeIs,λ b q=>?_,hd⟩;cases q;obtain⟨ob,_,_,h1,h2,_⟩:=dd;exact⟨ob,h1,h2.2.1⟩
 .obtain⟨_,hd,xs,_,dd⟩:=aA6 I.hok e
  refine⟨dd.typeIs,λ b q=>?_,hd⟩;cases q;obtain⟨ob,_,_,h1,h2,_⟩:=dd;exact⟨ob,h1,h2.2.1⟩
end L2
namespace Att
open PySem PySem.W PySem.Calls PyProof.Rows
end Att
namespace L2
open PySem PySem.Spec PyProof.Rows
section
variable{κ:Type}[DecidableEq κ]
end
section
variable{X:Cx}
structure aPV(X:Cx)(P:Addr):Prop where
 ta:∃o,X.ta=[(P,o)]
 ex:P∈X.ex
 tq:X.tq=X.env.qual++"<lambda>"
 code:∃c,X.env.code= .ref c/\PySem.W.CodeHd X.base c P
 blt:X.base.BuiltinsAt X.mg P
 gne:zAd≠P
end
abbrev bmV:List Value:=[.type "ValueError",.type "Exception",.type "BaseException",.type "object"]
section
variable{prog:zAY}{w:World}{A:zAc}{E:Value->zAG->Prop}{h:Heap}{g:Array zCn}{d:Drawn}{t:Nat}{os:OsState}{a:Addr}{o:Obj}
 {nm q:Str}{C N:Addr}{bs bm:List Value}{hdct:Bool}{sn:List Str}{sub:List Value}{ab:Bool}{col:Option Bool}{dd:Option Addr}{k0 k1 k2 k3 k5:Option Value}{newId:String}{K:zAA}
def aCj{R:zDu->zAG->Prop}(hC:h.get? C=some (zGE nm q C N bs bm hdct sn sub ab col dd k0 k1 k2 k3 k5 newId))(T:OwnTail h bmV bm)
  (hx:h.get? a=some o)(hc:o.cls= .ref C)(hq:R (.ok (.ret (.ref C))) ⟨h,g,d,t,os⟩):
  zCI (model prog w) A (.call (.builtin "getset_descriptor.__get__") ⟨[.builtin "object.__class__",.ref a,.ref C],[]⟩) R ⟨h,g,d,t,os⟩:=by
 have hT5:(⟨h,g,d,t,os⟩:zAG).TypeIs (.builtin "object.__class__") "getset_descriptor":=zE0;have hcB:(zAs C::bm).contains (.type (".".intercalate ("object.__class__".cutAt '.').dropLast))=true:=by
  rw[F.owner_object_class,zGn,T.hasType (X:="object") (b:=true) (by decide+kernel)];rfl
 refine zEk zGZ.plain F.entry_gs_get (zGZ.check _ _ _ _ _ _ _ _ hT5 (F.args_gs_get _ _ _) ?_)
 repeat (any_goals (first|assumption|(with_reducible refine zDW hx ?_;rw[hc])|(with_reducible refine zHd hC ?_;rw[hcB])|wp_step))
 refine⟨zEe _ (by decide+kernel),zC4 F.entry_object_class ?_⟩
 repeat (any_goals (first|assumption|(with_reducible refine zDW hx ?_;rw[hc])|wp_step))
def aB1{M:Model}{nameV:Value}{Q:Unit->zAG->Prop}(hC:h.get? C=some (zGE nm q C N bs bm hdct sn sub ab col dd k0 k1 k2 k3 k5 newId))(T:OwnTail h bmV bm)
  (hx:h.get? a=some o)(hc:o.cls= .ref C)(hq:Q () ⟨h,g,d,t,os⟩):wpAny M A (zFp "BaseException.__getattribute__" ⟨[.ref a,nameV],[]⟩) Q E ⟨h,g,d,t,os⟩:=by
 have hk:builtinKind "BaseException.__getattribute__"=some .slot:=by decide+kernel
 have cS:splitId "BaseException.__getattribute__"=some ("BaseException","__getattribute__"):=by decide+kernel
 have hcB:(zAs C::bm).contains (.type "BaseException")=true:=by rw[zGn,T.hasType (X:="BaseException") (b:=true) (by decide+kernel)];rfl
 have ha:=F.args_bexc_ga (.ref a) nameV;simp only[zFp,hk,cS];refine zAB ?_
 .unfold isInstance
  repeat (first|(with_reducible refine zDW hx ?_;rw[hc])|(with_reducible refine zHd hC ?_;rw[hcB])|wp_step)
  exact hq
def zg{tk:Tok}{Q:Fin->zAG->Prop}(hC:h.get? C=some (zGE nm q C N bs bm hdct sn sub ab col dd k0 k1 k2 k3 k5 newId))(T:OwnTail h bmV bm)(lk:∀M:Model,zE1 M h (zEi (.ref C) "__class__") (some (.builtin "object.__class__")))
  (hx:h.get? a=some o)(hc:o.cls= .ref C)(hq:Q (.done (.ret (.ref C))) ⟨h,g,d,t,os⟩):
  wpAny (model prog w) A (zDR.«object.__getattribute__» ⟨[.ref a,.str "__class__" tk],[]⟩) Q E ⟨h,g,d,t,os⟩:=by
 have hT5:(⟨h,g,d,t,os⟩:zAG).TypeIs (.builtin "object.__class__") "getset_descriptor":=zE0;have f5:=zE0;have f6:=zGZ.lookup;have f7:=F.slot_gs_set.lookup
 repeat (any_goals (first|assumption|(with_reducible refine zDW hx ?_;rw[hc])|with_reducible refine(lk _).here ?_|wp_step))
 refine aCj hC T hx hc ?_
 repeat (any_goals (first|assumption|wp_step))
def aB0{Q:Option Value->zAG->Prop}(hC:h.get? C=some (zGE nm q C N bs bm hdct sn sub ab col dd k0 k1 k2 k3 k5 newId))(T:OwnTail h bmV bm)(lk:∀M:Model,zE1 M h (zEi (.ref C) "__class__") (some (.builtin "object.__class__")))
  (lg:∀M:Model,zE1 M h (zEi (.ref C) "__getattribute__") (some (.builtin "BaseException.__getattribute__")))(ln:∀M:Model,zE1 M h (zEi (.ref C) "__getattr__") none)
  (hx:h.get? a=some o)(hc:o.cls= .ref C)(hq:Q (some (.ref C)) ⟨h,g,d,t+1,os⟩):wpAny (model prog w) A (getAttr? (.ref a) "__class__") Q E ⟨h,g,d,t,os⟩:=by
 have by_exc:∀{E:Value->zAG->Prop} {t:Nat} {tk:Tok} {Q:Value->zAG->Prop},Q (.ref C) ⟨h,g,d,t,os⟩->wpAny (model prog w) A (getAttrBy (.ref a) (.str "__class__" tk) false) Q E ⟨h,g,d,t,os⟩:=by
  intro E t tk Q hq;have FB:=PySem.F.excAttr_ValueError;have f3:=FB.ga.bind (.ref a);have hx0:(false&&onTheHeap (zDs "BaseException.__getattribute__"))=false:=rfl;have hx2:(zDs "BaseException.__getattribute__"==zDs "object.__getattribute__")=false:=by decide+kernel
  have hx1:(onTheHeap (zAs C)&&zDs "BaseException.__getattribute__"==zDs "object.__getattribute__")=false:=by rw[hx2];rfl
  repeat (any_goals (first|assumption|(with_reducible refine zDW hx ?_;rw[hc])|with_reducible refine(lg _).here ?_|with_reducible refine(ln _).here ?_|wp_step))
  refine zEk FB.ga.plain F.entry_bexc_ga (aB1 hC T hx hc (zg hC T lk hx hc ?_))
  repeat (any_goals (first|assumption|wp_step))
 unfold getAttr? getAttrBy?
 repeat (any_goals (first|assumption|with_reducible apply by_exc|wp_step))
def aHp(hE:oG K C)(ha:zBT K (.ref C) "__class__"=some (some (.builtin "object.__class__")))(hgt:zBT K (.ref C) "__getattribute__"=some (some (.builtin "BaseException.__getattribute__")))
  (hga:zBT K (.ref C) "__getattr__"=some none):PySem.W.KitX K (.ref a) (.ref C) (λ h=>∃o,h.get? a=some o/\o.cls= .ref C) where
 ty:=λ M h _ ⟨o,h1,h2⟩=>h2▸(zIE h1).andThen .now
 it:=λ M h X _=>by
  obtain⟨bm,NN,nm,q,bs,hdct,sn,sub,ab,col,dd,k0,k1,k2,k3,k5,mN,hC,_⟩:=(aBB (h:=h) (mg:=λ _=>some (.ref C)) (x:="x") X rfl hE).obj;intro A' Q' E' s' k q;unfold isType loadHead;exact zAB (wpAny_loadPart (k _ _ hC) (zAH q))
 ne:=λ h tp dd its n sl X htp=>by
  obtain⟨bm,NN,nm,q,bs,hdct,sn,sub,ab,col,dd,k0,k1,k2,k3,k5,mN,hC,_⟩:=(aBB (h:=h) (mg:=λ _=>some (.ref C)) (x:="x") X rfl hE).obj;refine zGx.mpr λ z=>?_
  have e:C=tp:=Value.ref.inj (beq_iff_eq.mp z);subst e;rw[hC]at htp;exact absurd (congrArg Obj.cls (zAe htp)) (by show zCL "type"≠zCL "tuple";decide+kernel)
 ca:=λ{prog w A E Q s} X ⟨o,h1,h2⟩ k=>by
  obtain⟨h,g,d,t,os⟩:=s;obtain⟨bm,NN,nm,q,bs,hdct,sn,sub,ab,col,dd,k0,k1,k2,k3,k5,mN,hC,hN,hni,T⟩:=(aBB (h:=h) (mg:=λ _=>some (.ref C)) (x:="x") X rfl hE).obj;exact aB0 hC T (λ M=>zDK X ha) (λ M=>zDK X hgt) (λ M=>zDK X hga) h1 h2 k
end
def excφ(a C:Addr):Heap->Prop:=λ h=>∃o,h.get? a=some o/\o.cls= .ref C
structure aPo(K:zAA)(C:Addr):Prop where
 ex:oG K C
 ca:zBT K (.ref C) "__class__"=some (some (.builtin "object.__class__"))
 gt:zBT K (.ref C) "__getattribute__"=some (some (.builtin "BaseException.__getattribute__"))
 ga:zBT K (.ref C) "__getattr__"=some none
section
variable{X:Cx}
def aL3(K:zAA):List V->Hp->VK->Prop:=λ xs H Q=>∃a C y c b,xs=[.ref a,y]/\RelV y c/\H a=some (.ext (excφ a C))/\aPo K C/\zD4 K (.ref C) c=some b/\Q (.bl b) H
def aGB:cZ X (.builtin "isinstance") (aL3 X.K):=by
 intro iX s Z H xs us Q I r h;obtain⟨a,C,y,c,b,rfl,ry,ha,kc,e,q⟩:=h;obtain⟨u,w',rfl,r1,r2⟩:=vals2 r;cases r1;have hc:w'=c:=by
  cases y<;>first
   |(cases r2;cases ry;rfl)
   |(obtain⟨t1,rfl⟩:=r2;obtain⟨t2,rfl⟩:=ry;exact absurd e (by simp[zD4,PySem.W.kitCls]))
 subst hc;obtain⟨p,_⟩:excφ a C s.heap/\_:=I.hok a _ ha;exact zBB (aHp kc.ex kc.ca kc.gt kc.ga) I.kIn p e (λ z=>nomatch z) λ tk=>⟨.bl b,H,I.tok tk,rfl,q⟩
end
structure aPS(k:Nat)(A:zAc):Prop where
 dp:A.depth+3*k+5<zG6
 un:A.units+16*k+200<cLine
structure FnH(P:zAY)(w:World)(K:zAA)(mg:Str->Option Value)(base:Heap)(k:Nat)(f:Addr)(fd:zA8)(ps:List Str)(sp:Sp):Prop where
 len:∀vs H Q E,sp vs H Q E->vs.length=ps.length
 run:∀(A:zAc) (outer:List Env) (s:zAG) (H:Hp) (args:Args) (us:List Value) (vs:List V) (Q:VK) (E:XK),aPS k A->aIu P w K mg base A outer s H->zF1 s fd args (ps.zip us)->Vals vs us->sp vs H Q E->
  zCI (model P w) A (.call (.ref f) args) (CR CX0 outer P w H s Q E) s
def aP7(K:zAA)(c:V):TE:=tCB (aL3 K) (cY (kJ 0) (cY (tC c) oH))
section
variable{X:Cx}{n0 n1 n2 odd:Str}{c1 c2:V}{k1 k2 k3 k4:List V}{l1 l2:List Str}{a1 a2:Expr}{as1 as2 e1 e2 e3 e4 w1 w2:List Expr}{kw1 kw2:List zBz}{Q:VK}{H:Hp}{vs:List V}
 {p1 p2 p3 p4 p5 p6 p7 p8 p9 p10 p11 p12 p13 p14 p15 p16 p17 p18 p19 p20 p21 p22 p23 p24 p25 p26 p27 p28 p29 p30 p31 p32 p33 p34 p35 p36 p37 p38 p39 p40:Pos}{q1 q2 q3 q4 q5 q6 q7:Pos}{j1 j2 j3 j4 j5:Nat}{E0:XK}{wd:Addr->Option Str}
end
structure aBb(d:Nat)(e tg iter:Expr)(ifs:List Expr)(body:Env->Addr->Sem Unit):Prop where
 under:∀(A:zAc) (it:Value) (D:Addr) (env:Env),A.under (.compLoop e d it (.ref D) env)=A
 den:∀(prog:zAY) (w:World) (it:Value) (D:Addr) (env:Env),(model prog w).den (.compLoop e d it (.ref D) env)=(compTurn e d it (.ref D) env).onRaise (λ x=>do noteFrame x env;theTreesLotGoes x)
 turn:∀(it:Value) (D:Addr) (env:Env),compTurn e d it (.ref D) env=(do
   zEw iter.pos
   match <-zEb it with
   |none=>pure (.done .next)
   |some v=>
    zDD tg it v
    zEX tg env v
    let mut ok:=true
    for c in ifs do if ok then ok <-isTrue c env (eval c env)
    if ok then
     body env D
    again (.compLoop e d it (.ref D) env))
section
variable{s:zAG}{A:zAc}{prog:zAY}{w:World}{R:zDu->zAG->Prop}
def aBZ{D:Addr}(hb:aBb d e tg iter ifs body)(I:Nat->zAG->Prop)
  (one:∀n s,I n s->wpAny (model prog w) A (zEb it) (λ r zI=>match r with
   |none=>R (.ok .next) zI
   |some v=>wpAny (model prog w) A (zDD tg it v) (λ _ zI=>wpAny (model prog w) A (zEX tg env v) (λ _ z4=>
     wpAny (model prog w) A (forIn ifs true λ c r=>if r=true then do let ok <-isTrue c env (eval c env);pure (zB6 ok)else pure (zB6 r)) (λ ok zC=>if ok=true then wpAny (model prog w) A (body env D) (λ _ s₅=>∃m,m<n/\I m s₅) (λ _ _=>False) zC
      else∃m,m<n/\I m zC) (λ _ _=>False) z4) (λ _ _=>False) zI) (λ _ _=>False) zI) (λ _ _=>False) s)
  (n:Nat)(h:I n s):zCI (model prog w) A (.compLoop e d it (.ref D) env) R s:=by
 refine codeAny_loop rfl I (λ n s hJ=>?_) n h;rw[hb.under,hb.den];refine wpAny_noted ?_;rw[hb.turn];refine zAB (zDe (zAB (zBO (one n s hJ) (λ r zI zD=>?_) λ _ _ h'=>h'.elim)));cases r with
 |none=>exact zAH zD
 |some v=>
  refine zAB (zBO zD (λ _ zI zD=>?_) λ _ _ h'=>h'.elim);refine zAB (zBO zD (λ _ z4 y8=>zAB (zBO y8 (λ ok zC yY=>?_) λ _ _ h'=>h'.elim)) λ _ _ h'=>h'.elim);cases ok with
  |false=>exact zAH (And.intro rfl yY)
  |true=>exact zAB (zBO yY (λ _ y3 h₄=>zAH ⟨rfl,h₄⟩) λ _ _ h'=>h'.elim)
end
def aBc(d:Nat)(e:Expr):Prop:=∀{prog:zAY} {w:World} {A:zAc} {R:zDu->zAG->Prop} {s:zAG} {it acc:Value} {env:Env},
  zCI (model prog w) A (.compLoop e d it acc env) R s->
  wpAny (model prog w) A (zGj it) (λ it' s'=>zCI (model prog w) A (.compLoop e d it' acc env) R s') (notedBy (model prog w) A env λ x s'=>R (.error x) s') s->
  zCI (model prog w) A (.compStart e d it acc env) R s
structure aIw(prog:zAY)(w:World)(mk:Sem Value)(obs:Obj->Prop)(o:Addr->HO):Prop where
 make:∀{A:zAc} {Q:Value->zAG->Prop} {E:Value->zAG->Prop} {s:zAG},(∀ob,obs ob->Q (.ref s.heap.objs.size) {s with heap:=s.heap.push ob})->wpAny (model prog w) A mk Q E s
 live:∀ob,obs ob->ob.isFreed=false
 ok:∀{H:Hp} {h:Heap} {a:Addr} {ob:Obj},obs ob->h.get? a=some ob->zAz<a->bw prog w H h a (o a)
def PB(X:Cx)(body:Env->Addr->Sem Unit)(tb:Addr->St->Hp->(Hp->Prop)->Prop):Prop:=
 ∀(D:Addr) (iX:hZ) (s:zAG) (Z:St) (H:Hp) (Q:Hp->Prop),Inv X iX Z H s->tb D Z H Q->wpAny (model X.prog X.w) X.A (body X.env D) (λ _ s'=>∃H',Inv X iX Z H' s'/\Q H') X.xe s
def aPh(I:Inv X iX Z H s):zAz<s.heap.objs.size:=
 zG1 (by decide) (I.mod.glob.keeps I.bk).lt
def aOT(o:Addr->HO)(wi:TI)(st:St->St)(g:TG)(tt:TT)(tb:Addr->St->Hp->(Hp->Prop)->Prop):TE:=λ Z H Q=>wi Z H λ J H1=>∀l,H1 l=none->∃W:Nat->Nat->Hp->Prop,(∃m,W 0 m (upd H1 l (o l)))/\
 ∀i m H2,W i m H2->((J.stop i H2/\Q (.ref l) H2)\/(J.go i H2/\∀x H3,J.yld i H2 x H3->g x (st Z) H3 λ Z4 H4=>tt Z4 H4 λ ok H5=>
  if ok=true then tb l Z4 H5 λ H6=>∃m',m'<m/\W (i+1) m' H6 else∃m',m'<m/\W (i+1) m' H5))
section
variable{X:Cx}{e tg iter:Expr}{ifs:List Expr}{scope:Scope}{N:List Str}{st:St->St}{ks:List Nat}{wi:TI}{g:TG}{tt:TT}{body:Env->Addr->Sem Unit}{tb:Addr->St->Hp->(Hp->Prop)->Prop}{pos:Pos}{mk:Sem Value}{obs:Obj->Prop}{o:Addr->HO}
def aIb(B:dh X scope N st ks)(hc:X.calm=true)(hT:aBb 0 e tg iter ifs body)(hS:aBc 0 e)(hA:aIw X.prog X.w mk obs o)(hg:∀C fp z5 zS,PG (X.block scope C N fp z5 zS) tg g)(hgo:uF g ks)(ht:∀C fp z5 zS,aCr (X.block scope C N fp z5 zS) ifs tt)
  (he:∀C fp z5 zS,PB (X.block scope C N fp z5 zS) body tb){Q:VK}{RR:Value->Addr->zDu->zAG->Prop}
  (I:Inv X iX Z H1 z4)(T:Turn X.prog X.w X.K tg J fp it tn)(h0:tn 0 z4.heap)(hfp:∀b∈fp,uG X iX H1 b)
  (h:∀l,H1 l=none->∃W:Nat->Nat->Hp->Prop,(∃m,W 0 m (upd H1 l (o l)))/\
   ∀i m H2,W i m H2->((J.stop i H2/\Q (.ref l) H2)\/(J.go i H2/\∀x H3,J.yld i H2 x H3->g x (st Z) H3 λ Z4 H4=>tt Z4 H4 λ ok H5=>
    if ok=true then tb l Z4 H5 λ H6=>∃m',m'<m/\W (i+1) m' H6 else∃m',m'<m/\W (i+1) m' H5)))
  (hRR:∀D C H' s',(∃Z',Inv (X.block scope C N fp z4 H1) [] Z' H' s')->z4.heap.objs.size<=C->Q (.ref D) H'->RR (.ref D) C (.ok .next) s'):
  wpAny (model X.prog X.w) X.A mk (λ acc zC=>wpAny (model X.prog X.w) X.A (zEq scope X.env.globals (bI scope X.env) [] X.env.qual none .none (some X.env)) (λ cenv y3=>
   zCI (model X.prog X.w) X.A (.compStart e 0 (.ref it) acc {cenv with scope:=zF8 scope X.env}) (RR acc cenv.locals) y3) E zC) E z4:=by
 refine hA.make λ ob hob=>aE1 λ zD y7 y9 y6=>?_
 dsimp only at y7 y9 y6 ⊢;generalize hH2:z4.heap.push ob=P2 at y7 y9 y6 ⊢;have hC:P2.objs.size=z4.heap.objs.size+1:=by rw[<-hH2,zBU]
 have hDC:z4.heap.objs.size≠P2.objs.size:=by rw[hC];exact zA9 (zBZ _)
 have kX:z4.heap.objs.size<=P2.objs.size:=by rw[hC];exact zCz _
 have old:∀b o,z4.heap.get? b=some o->zD.get? b=some o:=λ b o e=>y9 b o (hH2▸zAC _ e)
 have oQ:zD.get? z4.heap.objs.size=some ob:=y9 _ _ (hH2▸zAN _ (hA.live ob hob));generalize hCe:P2.objs.size=C at y7 y9 y6 hDC kX hC ⊢;have hHD:H1 z4.heap.objs.size=none:=I.hok.fresh (zAV _);have I0:Inv (X.block scope C N fp z4 H1) [] (st Z) (upd H1 z4.heap.objs.size (o z4.heap.objs.size)) {z4 with heap:=zD,toks:=z4.toks}:=
  I.block B hfp (λ b hb=>by obtain⟨o,e,_⟩:=T.obj 0 _ h0 b hb;exact⟨o,e⟩) (zAV _) kX hDC old y7 y6 (λ c hc=>zA9 (zHF kX hc)) (hA.ok hob oQ (aPh I))
 obtain⟨W,⟨m0,w0⟩,step⟩:=h _ hHD;have h01:tn 0 zD:=T.keep 0 _ _ h0 λ b _ o e=>old b o e
 have qV:∀{H':Hp},(∀b∈fp,H' b=none)->∀b∈fp,uG (X.block scope C N fp z4 H1) [] H' b:=λ{H'} hn b hb=>
  ⟨hn b hb,(I0.ok.exf b hb).1,I0.ok.exfs b hb,.inl hb,λ x c e=>(I0.ok.exf b hb).2 x c e,λ p hp=>absurd (show p∈([]:hZ)from hp) (by simp)⟩
 have fr0:∀b∈fp,upd H1 z4.heap.objs.size (o z4.heap.objs.size) b=none:=λ b hb=>by
  obtain⟨o,e,_⟩:=T.obj 0 _ h0 b hb;rw[aW (zA9 (zA2 e))];exact(hfp b hb).1
 have loop:∀sx:zAG,sx={z4 with heap:=zD,toks:=z4.toks}->
   zCI (model X.prog X.w) X.A (.compLoop e 0 (.ref it) (.ref z4.heap.objs.size) (X.block scope C N fp z4 H1).env) (RR (.ref z4.heap.objs.size) C) sx:=by
  rintro sx rfl;refine aBZ hT (λ n s'=>∃i H2,Inv (X.block scope C N fp z4 H1) [] (st Z) H2 s'/\tn i s'.heap/\(∀b∈fp,H2 b=none)/\W i n H2) ?_ m0 ⟨0,_,I0,h01,fr0,w0⟩;rintro n s3 ⟨i,H2,I2,st2,fr2,w2⟩;rcases step i n H2 w2 with ⟨stop,q⟩|⟨go,nxt⟩
  .refine thn (T.done (X.block scope C N fp z4 H1) rfl rfl rfl hc i [] s3 (st Z) H2 _ I2 (qV fr2) st2 stop) λ r s4 ⟨hr,I4⟩=>?_
   subst hr;exact hRR _ C H2 s4 ⟨_,I4⟩ kX q
  .refine thn (T.item (X.block scope C N fp z4 H1) rfl rfl rfl hc i [] s3 (st Z) H2 _ I2 (qV fr2) st2 go) λ r s4 ⟨u,hr,h4⟩=>?_
   subst hr;refine thn h4 λ _ s5 ⟨x,H5,I5,r5,y5,st5,fr5⟩=>?_
   have I5p:=I5.pinned (qV fr5) (T.obj _ _ st5);refine thn (hg C fp z4 H1 _ s5 (st Z) H5 x u _ I5p r5 (hgo _ _ _ _ (nxt x H5 y5))) λ _ s6 ⟨Z6,H6,I6,q6,aKY,ag6⟩=>?_
   refine thn (ht C fp z4 H1 _ s6 Z6 H6 _ I6 q6) λ ok s7 ⟨H7,I7,q7⟩=>?_
   have again:∀{H9:Hp} {s9:zAG},Inv (X.block scope C N fp z4 H1) ([]++uZ fp s5.heap) Z6 H9 s9->(∃m',m'<n/\W (i+1) m' H9)->
     ∃m,m<n/\∃i H2,Inv (X.block scope C N fp z4 H1) [] (st Z) H2 s9/\tn i s9.heap/\(∀b∈fp,H2 b=none)/\W i m H2:=λ{H9 s9} I9 ⟨m',hm,w9⟩=>by
    have bS:∀b∈fp,∀o,s5.heap.get? b=some o->s9.heap.get? b=some o/\H9 b=none:=λ b hb o e=>by
     have z:=I9.pin (b,o) (zA3 _ (zA3 _ (nH hb e)));exact⟨z.1,z.2.1⟩
    refine⟨m',hm,i+1,H9,I9.unpinned.weak (by rw[aKY]) (λ k v e=>?_),T.keep _ _ _ st5 λ b hb o e=>(bS b hb o e).1,λ b hb=>?_,w9⟩
    .have hk:k<(st Z).length:=(zAL.mp e).1
     have hkN:k<N.length:=by rw[<-B.len Z];exact hk
     obtain⟨_,hks,_⟩:=B.val Z k _ v (zAE hkN) e;rw[ag6 k hks];exact e
    .obtain⟨o,e,_⟩:=T.obj _ _ st5 b hb
     exact(bS b hb o e).2
   cases ok with
   |false=>
    rw[if_neg zAU]at q7 ⊢;exact again I7 q7
   |true=>
    rw[if_pos rfl]at q7 ⊢;exact thn (he C fp z4 H1 _ _ s7 Z6 H7 _ I7 q7) λ _ s8 ⟨H8,I8,q8⟩=>again I8 q8
 exact hS (loop _ rfl) (T.self X.A 0 _ _ _ h01 (loop _ rfl))
def aOh(B:dh X scope N st ks)(hc:X.calm=true)(hi:PI X tg iter wi)(hg:∀C fp z5 zS,PG (X.block scope C N fp z5 zS) tg g)(hgo:uF g ks)(ht:∀C fp z5 zS,aCr (X.block scope C N fp z5 zS) ifs tt)
  (hT:aBb 0 e tg iter ifs body)(hS:aBc 0 e)(hA:aIw X.prog X.w mk obs o)(he:∀C fp z5 zS,PB (X.block scope C N fp z5 zS) body tb)(hcs:clausesOf e=⟨tg,iter,ifs,0⟩::gs)(hev:eval e X.env=comprehension e scope X.env (firstIterPos (⟨tg,iter,ifs,0⟩::gs) pos) mk false (eval iter X.env))(hs:∀x,zBV iter X.env x=pure x:=by intro _;rfl):PE X e (aOT o wi st g tt tb):=by
 intro iX s Z H Q I h;have hcl:zF6 scope X.env=pure (bI scope X.env):=lN λ y hy hk=>I.ok.has _ (B.free y hy hk)
 rw[hev];refine zEG (use:=none) hcs hs hcl B.kind B.loc (thn (hi iX s Z H _ I h) λ v s1 h1=>thn h1 λ itv s2 h2=>?_);obtain⟨it,fp,tn,J,H2,e,I2,T,st2,f2,hq⟩:=h2;subst e;refine aIb (RR:=λ acc C=>compPost (model X.prog X.w) X.A X.xe none (EP X iX Z Q) acc C) B hc hT hS hA hg hgo ht he I2 T st2 f2 hq ?_;intro D C H' s' hJ kX q;have I3:=aB6 I2 f2 hJ;obtain⟨Z',J'⟩:=hJ;obtain⟨m,hn,_⟩:=id J'.loc;have hHC:H' C=none:=J'.free;refine⟨m,hn,λ h'' hs''=>⟨.ref D,H',?_,rfl,q⟩⟩;exact I3.turned (t':=s'.toks) (λ b o ne e=>(hs''.2 b ne).trans e) hHC (zBr (zA4 I2.lt kX)) (.inr (zAh I2.sz kX))
  (λ x c e z=>by obtain⟨v,ic⟩:=I2.cell x c e;exact absurd (zA4 ic.lt (by rw[z];exact kX)) (zBF _))
  (λ p hp z=>absurd (zA4 (I2.pinL hp) (by rw[z];exact kX)) (zBF _))
end
def yf(kx vx:Expr)(env:Env)(D:Addr):Sem Unit:=do
 let kv <-eval kx env;let vv <-zC5 [kv] (eval vx env);zEw {kx.pos with endLine:=vx.pos.endLine,endCol:=vx.pos.endCol}
 zC5 [kv,vv] (dictSet D kv vv)
def aEw(kx vx tg iter:Expr)(ifs:List Expr)(scope:Scope)(pos:Pos):aBb 0 (.DictComp kx vx [⟨tg,iter,ifs,0⟩] scope pos) tg iter ifs (yf kx vx):=
 ⟨λ _ _ _ _=>rfl,λ _ _ _ _ _=>rfl,λ _ _ _=>rfl⟩
def aDA(kx vx tg iter:Expr)(ifs:List Expr)(scope:Scope)(pos:Pos):aBc 0 (.DictComp kx vx [⟨tg,iter,ifs,0⟩] scope pos):=λ h0 h=>codeAny_compStart_dict h0 h
end L2
namespace VL
open PySem PySem.Spec PyProof.Rows L2
inductive D where
 |non|bl (b:Bool)|int (i:Int)|str (x:Str)|tup (l:List D)|lst (l:List D)|dct (ks vs:List D)|set (l:List Int)|scr (l:List Int)|fn (x:Str)|itm (o:Option Nat) (l:gX)|itx (o:Option Nat) (l:List (List Int×Int))
instance:Inhabited D:=⟨.non⟩
def kD:Key->D
 | .inl i=>.int i
 | .inr x=>.str x
variable{K:zAA}
def pH(K:zAA)(H:Hp)(a:Addr)(ns:List Int):Prop:=(∃o,H a=some (.frz o (.lst (ns.map V.int))))\/
 ∃(o:Obj) (its:Array Value) (n:Nat),K.lookup a=some o/\o.cls= .type "list"/\o.dict=none/\o.data= .seq its n/\its.size<=zAO/\Vals (ns.map V.int) its.toList
def pH.sq(h:pH K H a ns):SqL K H a (ns.map V.int):=by
 rcases h with h|h
 .exact .inl (.inr h)
 .exact .inr h
def vX(H:Hp)(a:Addr)(oo:Option Nat)(l:gX):Prop:=∃o es ep,o.data= .dict es ep/\(oo=none\/oo=some ep)/\H a=some (.frz o (.dK (l.map λ p=>(.inl p.1,V.int p.2))))
def hsh(ns:List Int):Int:=reduceHash (zHv (ns.map hashInt))
def dxO(a:Addr)(es:List (List Int×Addr×V)):HO:=.ext λ h=>es.length<=zAO/\(a==zAz)=false/\∃(xs:List (List Int×Addr×Value)) (o:Obj) (ts:Array zDZ) (ep:Nat),zGe (λ e x=>e.1=x.1/\e.2.1=x.2.1/\RelV e.2.2 x.2.2) es xs/\
 h.get? a=some o/\o.ExactDict/\o.data= .dict ts ep/\ts.toList=xs.map λ x=>⟨hsh x.1,.ref x.2.1,x.2.2⟩
structure DxK(K:zAA)(H:Hp)(a:Addr)(es:List (List Int×Addr×V)):Prop where
 at_:H a=some (dxO a es)
 ks:∀e∈es,SqT K H e.2.1 (e.1.map V.int)
 nd:(es.map (·.1)).Nodup
def gY(K:zAA)(H:Hp)(a:Addr)(oo:Option Nat)(l:List (List Int×Int)):Prop:=∃o ts ep es,o.data= .dict ts ep/\(oo=none\/oo=some ep)/\(es.map λ e=>(e.1,e.2.2))=(l.map λ p=>(p.1,V.int p.2))/\(es.map (·.1)).Nodup/\(∀e∈es,SqT K H e.2.1 (e.1.map V.int))/\H a=some (.frz o (dxO a es))
mutual
inductive Rp(K:zAA):(Addr->Prop)->Hp->V->D->Prop where
 |non {A:Addr->Prop} {H:Hp}:Rp K A H .non .non
 |bl {A:Addr->Prop} {H:Hp} (b:Bool):Rp K A H (.bl b) (.bl b)
 |int {A:Addr->Prop} {H:Hp} (i:Int):Rp K A H (.int i) (.int i)
 |str {A:Addr->Prop} {H:Hp} (x:Str):Rp K A H (.str x) (.str x)
 |tup {A:Addr->Prop} {H:Hp} {a:Addr} {xs:List V} {ds:List D} (h:SqT K H a xs) (r:Rps K A H xs ds):Rp K A H (.ref a) (.tup ds)
 |lst {A:Addr->Prop} {H:Hp} {a:Addr} {xs:List V} {ds:List D} (h:H a=some (.lst xs)) (m:A a) (r:Rps K (λ p=>A p/\p≠a) H xs ds):Rp K A H (.ref a) (.lst ds)
 |dK {A:Addr->Prop} {H:Hp} {a:Addr} {kvs:List (Key×V)} {ds:List D} (h:H a=some (.dK kvs)) (m:A a) (r:Rps K (λ p=>A p/\p≠a) H (kvs.map (·.2)) ds):Rp K A H (.ref a) (.dct (kvs.map λ p=>kD p.1) ds)
 |dT {A:Addr->Prop} {H:Hp} {a:Addr} {es:List (List Int×Addr×V)} {ds:List D} (h:DxK K H a es) (m:A a) (r:Rps K (λ p=>A p/\p≠a) H (es.map (·.2.2)) ds):Rp K A H (.ref a) (.dct (.non::es.map λ e=>.tup (e.1.map .int)) ds)
 |set {A:Addr->Prop} {H:Hp} {a:Addr} {S:Int->Bool} {l:List Int} (h:H a=some (.set S l.length)) (m:A a) (hS:∀i,S i=decide (i∈l)) (nd:l.Nodup):Rp K A H (.ref a) (.set l)
 |scr {A:Addr->Prop} {H:Hp} {a:Addr} {ns:List Int} (h:pH K H a ns):Rp K A H (.ref a) (.scr ns)
 |fn {A:Addr->Prop} {H:Hp} {a:Addr} {x:Str} (h:zAq K zAd x=some (some (.ref a))):Rp K A H (.ref a) (.fn x)
 |itm {A:Addr->Prop} {H:Hp} {a:Addr} {oo:Option Nat} {l:gX} (h:vX H a oo l):Rp K A H (.ref a) (.itm oo l)
 |itx {A:Addr->Prop} {H:Hp} {a:Addr} {oo:Option Nat} {l:List (List Int×Int)} (h:gY K H a oo l):Rp K A H (.ref a) (.itx oo l)
inductive Rps(K:zAA):(Addr->Prop)->Hp->List V->List D->Prop where
 |nil {A:Addr->Prop} {H:Hp}:Rps K A H [] []
 |cons {A:Addr->Prop} {H:Hp} {x:V} {d:D} {xs:List V} {ds:List D} (h:Rp K A H x d) (r:Rps K A H xs ds):Rps K A H (x::xs) (d::ds)
end
def pH.mono(s:aY H H')(h:pH K H a ns):pH K H' a ns:=by
 rcases h with ⟨o,h⟩|h
 .exact .inl ⟨o,s _ _ h⟩
 .exact .inr h
def vX.mono(h:vX H a oo l)(s:aY H H'):vX H' a oo l:=let⟨o,es,ep,y,z,e⟩:=h;⟨o,es,ep,y,z,s _ _ e⟩
def gY.mono(h:gY K H a oo l)(s:aY H H'):gY K H' a oo l:=let⟨o,ts,ep,es,y,z,q,n,k,e⟩:=h;⟨o,ts,ep,es,y,z,q,n,λ e he=>s.sqt (k e he),s _ _ e⟩
def DxK.mono(h:DxK K H a es)(s:aY H H'):DxK K H' a es:=⟨s _ _ h.at_,λ e he=>s.sqt (h.ks e he),h.nd⟩
def Rp.mono'(s:aY H H')(r:Rp K A H x d)(hA:∀p o,H p=some o->A p->A' p):Rp K A' H' x d:=
 Rp.rec (motive_1:=λ A H x d _=>∀H',aY H H'->∀A':Addr->Prop,(∀p o,H p=some o->A p->A' p)->Rp K A' H' x d) (motive_2:=λ A H xs ds _=>∀H',aY H H'->∀A':Addr->Prop,(∀p o,H p=some o->A p->A' p)->Rps K A' H' xs ds)
  (λ _ _ _ _=>.non) (λ b _ _ _ _=>.bl b) (λ i _ _ _ _=>.int i) (λ x _ _ _ _=>.str x) (λ h _ ih _ s _ hA=>.tup (s.sqt h) (ih _ s _ hA))
  (λ h m _ ih _ s _ hA=>.lst (s _ _ h) (hA _ _ h m) (ih _ s _ λ p o e z=>⟨hA p o e z.1,z.2⟩)) (λ h m _ ih _ s _ hA=>.dK (s _ _ h) (hA _ _ h m) (ih _ s _ λ p o e z=>⟨hA p o e z.1,z.2⟩))
  (λ h m _ ih _ s _ hA=>.dT (h.mono s) (hA _ _ h.at_ m) (ih _ s _ λ p o e z=>⟨hA p o e z.1,z.2⟩)) (λ h m hS nd _ s _ hA=>.set (s _ _ h) (hA _ _ h m) hS nd) (λ h _ s _ _=>.scr (h.mono s)) (λ h _ _ _ _=>.fn h) (λ h _ s _ _=>.itm (h.mono s)) (λ h _ s _ _=>.itx (h.mono s)) (λ _ _ _ _=>.nil) (λ _ _ ih ir _ s _ hA=>.cons (ih _ s _ hA) (ir _ s _ hA)) r H' s A' hA
def Rps.mono'(s:aY H H')(r:Rps K A H xs ds)(hA:∀p o,H p=some o->A p->A' p):Rps K A' H' xs ds:=
 Rps.rec (motive_1:=λ A H x d _=>∀H',aY H H'->∀A':Addr->Prop,(∀p o,H p=some o->A p->A' p)->Rp K A' H' x d) (motive_2:=λ A H xs ds _=>∀H',aY H H'->∀A':Addr->Prop,(∀p o,H p=some o->A p->A' p)->Rps K A' H' xs ds)
  (λ _ _ _ _=>.non) (λ b _ _ _ _=>.bl b) (λ i _ _ _ _=>.int i) (λ x _ _ _ _=>.str x) (λ h _ ih _ s _ hA=>.tup (s.sqt h) (ih _ s _ hA))
  (λ h m _ ih _ s _ hA=>.lst (s _ _ h) (hA _ _ h m) (ih _ s _ λ p o e z=>⟨hA p o e z.1,z.2⟩)) (λ h m _ ih _ s _ hA=>.dK (s _ _ h) (hA _ _ h m) (ih _ s _ λ p o e z=>⟨hA p o e z.1,z.2⟩))
  (λ h m _ ih _ s _ hA=>.dT (h.mono s) (hA _ _ h.at_ m) (ih _ s _ λ p o e z=>⟨hA p o e z.1,z.2⟩)) (λ h m hS nd _ s _ hA=>.set (s _ _ h) (hA _ _ h m) hS nd) (λ h _ s _ _=>.scr (h.mono s)) (λ h _ _ _ _=>.fn h) (λ h _ s _ _=>.itm (h.mono s)) (λ h _ s _ _=>.itx (h.mono s)) (λ _ _ _ _=>.nil) (λ _ _ ih ir _ s _ hA=>.cons (ih _ s _ hA) (ir _ s _ hA)) r H' s A' hA
def Rp.mono(s:aY H H')(hA:∀p o,H p=some o->A p->A' p)(r:Rp K A H x d):Rp K A' H' x d:=r.mono' s hA
def Rps.mono(s:aY H H')(hA:∀p o,H p=some o->A p->A' p)(r:Rps K A H x d):Rps K A' H' x d:=r.mono' s hA
def Rp.up(s:aY H H')(r:Rp K A H x d):Rp K A H' x d:=r.mono s λ _ _ _ h=>h
def Rp.wk(hA:∀p o,H p=some o->A p->A' p)(r:Rp K A H x d):Rp K A' H x d:=r.mono (aY.refl H) hA
def Rps.up(s:aY H H')(r:Rps K A H x d):Rps K A H' x d:=r.mono s λ _ _ _ h=>h
def Rps.wk(hA:∀p o,H p=some o->A p->A' p)(r:Rps K A H x d):Rps K A' H x d:=r.mono (aY.refl H) hA
def gW:HO->Bool
 | .lst _=>true| .dK _=>true| .dT _=>true| .set _ _=>true| .ext _=>true|_=>false
def mX(s:jC l H H')(hl:H l=some o)(ho:gW o=true)(h:SqT K H a xs):SqT K H' a xs:=by
 rcases h with (h|⟨u,h⟩)|h
 .refine .inl (.inl (s _ _ (λ e=>?_) h))
  subst e;rw[hl]at h;cases h;cases ho
 .refine .inl (.inr ⟨u,s _ _ (λ e=>?_) h⟩)
  subst e;rw[hl]at h;cases h;cases ho
 .exact .inr h
def aEK(s:jC l H H')(hl:H l=some o)(ho:gW o=true)(h:pH K H a ns):pH K H' a ns:=by
 rcases h with ⟨u,h⟩|h
 .exact .inl ⟨u,s _ _ (λ e=>by subst e;rw[hl]at h;cases h;cases ho) h⟩
 .exact .inr h
def vX.but(h:vX H a oo q)(s:jC l H H')(hl:H l=some o)(ho:gW o=true):vX H' a oo q:=let⟨u,es,ep,y,z,e⟩:=h;⟨u,es,ep,y,z,s _ _ (λ z=>by subst z;rw[hl]at e;cases e;cases ho) e⟩
def gY.but(h:gY K H a oo q)(s:jC l H H')(hl:H l=some o)(ho:gW o=true):gY K H' a oo q:=let⟨u,ts,ep,es,y,z,q,n,k,e⟩:=h;⟨u,ts,ep,es,y,z,q,n,λ e he=>mX s hl ho (k e he),s _ _ (λ z=>by subst z;rw[hl]at e;cases e;cases ho) e⟩
def DxK.but(h:DxK K H a es)(s:jC l H H')(hl:H l=some o)(ho:gW o=true)(ne:a≠l):DxK K H' a es:=
 ⟨s _ _ ne h.at_,λ e he=>mX s hl ho (h.ks e he),h.nd⟩
def Rp.but'(s:jC l H H')(hl:H l=some o)(ho:gW o=true)(r:Rp K A H x d)(hA:¬A l):Rp K A H' x d:=
 Rp.rec (motive_1:=λ A H x d _=>∀H',jC l H H'->∀o:HO,H l=some o->gW o=true->¬A l->Rp K A H' x d) (motive_2:=λ A H xs ds _=>∀H',jC l H H'->∀o:HO,H l=some o->gW o=true->¬A l->Rps K A H' xs ds)
  (λ _ _ _ _ _ _=>.non) (λ b _ _ _ _ _ _=>.bl b) (λ i _ _ _ _ _ _=>.int i) (λ x _ _ _ _ _ _=>.str x) (λ h _ ih _ s o hl ho hA=>.tup (mX s hl ho h) (ih _ s o hl ho hA))
  (λ h m _ ih _ s o hl ho hA=>.lst (s _ _ (λ e=>hA (e▸m)) h) m (ih _ s o hl ho λ z=>hA z.1)) (λ h m _ ih _ s o hl ho hA=>.dK (s _ _ (λ e=>hA (e▸m)) h) m (ih _ s o hl ho λ z=>hA z.1))
  (λ h m _ ih _ s o hl ho hA=>.dT (h.but s hl ho λ e=>hA (e▸m)) m (ih _ s o hl ho λ z=>hA z.1)) (λ h m hS nd _ s o hl ho hA=>.set (s _ _ (λ e=>hA (e▸m)) h) m hS nd) (λ h _ s o hl ho _=>.scr (aEK s hl ho h)) (λ h _ _ _ _ _ _=>.fn h) (λ h _ s o hl ho _=>.itm (h.but s hl ho)) (λ h _ s o hl ho _=>.itx (h.but s hl ho)) (λ _ _ _ _ _ _=>.nil) (λ _ _ ih ir _ s o hl ho hA=>.cons (ih _ s o hl ho hA) (ir _ s o hl ho hA)) r H' s o hl ho hA
def Rps.but'(s:jC l H H')(hl:H l=some o)(ho:gW o=true)(r:Rps K A H xs ds)(hA:¬A l):Rps K A H' xs ds:=
 Rps.rec (motive_1:=λ A H x d _=>∀H',jC l H H'->∀o:HO,H l=some o->gW o=true->¬A l->Rp K A H' x d) (motive_2:=λ A H xs ds _=>∀H',jC l H H'->∀o:HO,H l=some o->gW o=true->¬A l->Rps K A H' xs ds)
  (λ _ _ _ _ _ _=>.non) (λ b _ _ _ _ _ _=>.bl b) (λ i _ _ _ _ _ _=>.int i) (λ x _ _ _ _ _ _=>.str x) (λ h _ ih _ s o hl ho hA=>.tup (mX s hl ho h) (ih _ s o hl ho hA))
  (λ h m _ ih _ s o hl ho hA=>.lst (s _ _ (λ e=>hA (e▸m)) h) m (ih _ s o hl ho λ z=>hA z.1)) (λ h m _ ih _ s o hl ho hA=>.dK (s _ _ (λ e=>hA (e▸m)) h) m (ih _ s o hl ho λ z=>hA z.1))
  (λ h m _ ih _ s o hl ho hA=>.dT (h.but s hl ho λ e=>hA (e▸m)) m (ih _ s o hl ho λ z=>hA z.1)) (λ h m hS nd _ s o hl ho hA=>.set (s _ _ (λ e=>hA (e▸m)) h) m hS nd) (λ h _ s o hl ho _=>.scr (aEK s hl ho h)) (λ h _ _ _ _ _ _=>.fn h) (λ h _ s o hl ho _=>.itm (h.but s hl ho)) (λ h _ s o hl ho _=>.itx (h.but s hl ho)) (λ _ _ _ _ _ _=>.nil) (λ _ _ ih ir _ s o hl ho hA=>.cons (ih _ s o hl ho hA) (ir _ s o hl ho hA)) r H' s o hl ho hA
def Rp.but(s:jC l H H')(hl:H l=some o)(ho:gW o=true)(hA:¬A l)(r:Rp K A H x d):Rp K A H' x d:=r.but' s hl ho hA
def Rps.but(s:jC l H H')(hl:H l=some o)(ho:gW o=true)(hA:¬A l)(r:Rps K A H x d):Rps K A H' x d:=r.but' s hl ho hA
mutual
def imm:D->Bool
 | .tup l=>oF l
 | .lst _=>false
 | .dct _ _=>false
 | .set _=>false
 |_=>true
def oF:List D->Bool
 |[]=>true
 |d::r=>imm d&&oF r
end
def aAS(e:oF (d::r)=true):imm d=true/\oF r=true:=by
 simp only[oF,zAW]at e;exact e
def aKc(e:imm (.tup l)=true):oF l=true:=by simpa[imm]using e
def aKg(e:imm (.lst l)=true):False:=by simp[imm]at e
def aEf(e:imm (.dct l k)=true):False:=by simp[imm]at e
def aKd(e:imm (.set l)=true):False:=by simp[imm]at e
def Rp.imm'(r:Rp K A H x d)(e:VL.imm d=true):Rp K A' H x d:=
 Rp.rec (motive_1:=λ _ H x d _=>VL.imm d=true->Rp K A' H x d) (motive_2:=λ _ H xs ds _=>oF ds=true->Rps K A' H xs ds)
  (λ _=>.non) (λ b _=>.bl b) (λ i _=>.int i) (λ x _=>.str x) (λ h _ ih e=>.tup h (ih (aKc e)))
  (λ _ _ _ _ e=>(aKg e).elim) (λ _ _ _ _ e=>(aEf e).elim) (λ _ _ _ _ e=>(aEf e).elim) (λ _ _ _ _ e=>(aKd e).elim) (λ h _=>.scr h) (λ h _=>.fn h) (λ h _=>.itm h) (λ h _=>.itx h) (λ _=>.nil) (λ _ _ ih ir e=>.cons (ih (aAS e).1) (ir (aAS e).2)) r e
theorem Rp.imm(r:Rp K A H x d)(h:VL.imm d=true):Rp K A' H x d:=r.imm' h
def Rp.int_inv(r:Rp K A H v (.int i)):v= .int i:=by cases r;rfl
def Rp.bl_inv(r:Rp K A H v (.bl b)):v= .bl b:=by cases r;rfl
def Rp.tup_inv(r:Rp K A H v (.tup ds)):∃a xs,v= .ref a/\SqT K H a xs/\Rps K A H xs ds:=by cases r with|tup h r=>exact⟨_,_,rfl,h,r⟩
def Rp.lst_inv(r:Rp K A H v (.lst ds)):∃a xs,v= .ref a/\H a=some (.lst xs)/\A a/\Rps K (λ p=>A p/\p≠a) H xs ds:=by cases r with|lst h m r=>exact⟨_,_,rfl,h,m,r⟩
def Rp.scr_inv(r:Rp K A H v (.scr ns)):∃a,v= .ref a/\pH K H a ns:=by cases r with|scr h=>exact⟨_,rfl,h⟩
def Rps.one_inv(r:Rps K A H vs [d]):∃v,vs=[v]/\Rp K A H v d:=by cases r with|cons h r=>cases r;exact⟨_,rfl,h⟩
section
variable{A:Addr->Prop}{H:Hp}
theorem Rps.length:∀{xs:List V} {ds:List D},Rps K A H xs ds->xs.length=ds.length:=by
 intro xs ds h;induction xs generalizing ds with
 |nil=>cases h;rfl
 |cons x xs ih=>cases h with|cons _ r=>exact congrArg (·+1) (ih r)
theorem Rps.get:∀{xs:List V} {ds:List D} {i:Nat} {x:V},Rps K A H xs ds->xs[i]? =some x->∃d,ds[i]? =some d/\Rp K A H x d
 |_,_,_,_,.nil,e=>by simp at e
 |_,_,0,_,.cons h _,e=>by simp at e;subst e;exact⟨_,rfl,h⟩
 |_,_,i+1,x,.cons _ r,e=>by
  obtain⟨d,h1,h2⟩:=Rps.get (i:=i) (x:=x) r (by simpa using e);exact⟨d,by simpa using h1,h2⟩
theorem Rps.getD:∀{xs:List V} {ds:List D} {i:Nat} {d:D},Rps K A H xs ds->ds[i]? =some d->∃x,xs[i]? =some x/\Rp K A H x d
 |_,_,_,_,.nil,e=>by simp at e
 |_,_,0,_,.cons h _,e=>by simp at e;subst e;exact⟨_,rfl,h⟩
 |_,_,i+1,d,.cons _ r,e=>by
  obtain⟨x,h1,h2⟩:=Rps.getD (i:=i) (d:=d) r (by simpa using e);exact⟨x,by simpa using h1,h2⟩
def Rps.append:∀{xs ys:List V} {ds es:List D},Rps K A H xs ds->Rps K A H ys es->Rps K A H (xs++ys) (ds++es):=by
 intro xs ys ds es h s;induction xs generalizing ds with
 |nil=>cases h;exact s
 |cons x xs ih=>cases h with|cons h r=>exact .cons h (ih r)
theorem Rps.take:∀{xs:List V} {ds:List D} (n:Nat),Rps K A H xs ds->Rps K A H (xs.take n) (ds.take n)
 |_,_,0,_=>.nil
 |_,_,_+1,.nil=>.nil
 |_,_,n+1,.cons h r=>.cons h (Rps.take n r)
theorem Rps.drop:∀{xs:List V} {ds:List D} (n:Nat),Rps K A H xs ds->Rps K A H (xs.drop n) (ds.drop n)
 |_,_,0,r=>r
 |_,_,_+1,.nil=>.nil
 |_,_,n+1,.cons _ r=>Rps.drop n r
theorem Rps.set(h:Rp K A H x d):∀{xs:List V} {ds:List D} (n:Nat),Rps K A H xs ds->Rps K A H (xs.set n x) (ds.set n d)
 |_,_,_,.nil=>.nil
 |_,_,0,.cons _ r=>.cons h r
 |_,_,n+1,.cons k r=>.cons k (Rps.set h n r)
theorem Rps.ints:∀{ns:List Int},Rps K A H (ns.map V.int) (ns.map D.int)
 |[]=>.nil
 |n::ns=>.cons (.int n) Rps.ints
theorem Rps.ints_of:∀{xs:List V} {ns:List Int},Rps K A H xs (ns.map D.int)->xs=ns.map V.int
 |_,[],.nil=>rfl
 |_,n::ns,.cons h r=>by
  cases h;rw[zAD,Rps.ints_of r]
end
def aQ(h:a=b):a=b:=h
inductive Rs(α:Type) where
 |ok (a:α)|ex (c:Str)|st
noncomputable def Rs.bd{α β:Type}:Rs α->(α->Rs β)->Rs β
 | .ok a,f=>f a
 | .ex c,_=>.ex c
 | .st,_=>.st
@[simp] def aL(a:α)(f:α->Rs β):(Rs.ok a).bd f=f a:=aQ rfl
def dD{r:Rs α}(h:r.bd f= .ok b):∃a,r= .ok a/\f a= .ok b:=by
 cases r with
 |ok a=>exact⟨a,rfl,h⟩
 |ex c=>cases h
 |st=>cases h
abbrev dE:=List (List D)
inductive Slot where
 |no|sh (d:D)|nw (d:D)|ow (d:D)|oz (d:D)|o2 (l:dE)
abbrev En:=List Slot
abbrev Lab:=Addr->Nat×Nat
abbrev Mode:=Option (List Nat)
def inM(m:Mode)(n:Nat):Prop:=match m with
 |none=>True
 |some L=>n∈L
def jn:Mode->Mode->Mode
 |some a,some b=>some (a++b)
 |_,_=>none
def aOy(h:inM a n):inM (jn a b) n:=by
 cases a with
 |none=>cases b<;>exact trivial
 |some L=>
  cases b with
  |none=>exact trivial
  |some M=>exact zA5 _ h
def aOx(h:inM b n):inM (jn a b) n:=by
 cases a with
 |none=>cases b<;>exact trivial
 |some L=>
  cases b with
  |none=>exact trivial
  |some M=>exact zA3 _ h
def fpM(m:Mode)(lab:Lab)(H:Hp):Addr->Prop:=λ p=>H p=none\/inM m (lab p).1
def aIS(h:fpM a lab H p):fpM (jn a b) lab H p:=h.imp id aOy
def aIR(h:fpM b lab H p):fpM (jn a b) lab H p:=h.imp id aOx
def o6(s:aY H H')(h:fpM m lab H' p):fpM m lab H p:=h.imp (λ z=>s.free z) id
structure Gx where
 H0:Hp
 E:XK
 cl:Str->Addr
def aF3:D->Bool
 | .lst _=>true
 | .dct _ _=>true
 | .set _=>true
 |_=>false
def iT(K:zAA)(H:Hp)(lab:Lab)(i:Nat)(v:V):Slot->Prop
 | .no=>True
 | .sh d=>Rp K (λ p=>(lab p).1<=1) H v d
 | .nw d=>Rp K (λ p=>(lab p).1=1) H v d
 | .ow d=>Rp K (λ p=>(lab p).1=1\/(lab p).1=i+2) H v d/\(aF3 d=true->∃a,v= .ref a/\(lab a).1=i+2)
 | .oz d=>∃a xs ds,v= .ref a/\d= .lst ds/\H a=some (.lst xs)/\(lab a).1=i+2/\Rps K (λ p=>(lab p).1<=1) H xs ds
 | .o2 l=>∃a xs,v= .ref a/\H a=some (.lst xs)/\lab a=(i+2,0)/\xs.length=l.length/\∀(j:Nat) x ds,xs[j]? =some x->l[j]? =some ds->Rp K (λ p=>lab p=(i+2,j+1)) H x (.lst ds)
structure RR(K:zAA)(G:Gx)(τ:List (V×D))(ρ:En)(Z:L2.St)(H:Hp)(lab:Lab):Prop where
 len:Z.length=ρ.length
 sl:∀(i:Nat) (s:Slot),ρ[i]? =some s->s= .no\/∃v,Z[i]? =some (some v)/\iT K H lab i v s
 old:aY G.H0 H
 new:∀p,(lab p).1≠0->G.H0 p=none
 tm:∀q∈τ,Rp K (λ p=>(lab p).1<=1) H q.1 q.2
theorem iT.up(s:aY H H')(h:iT K H lab i v x):iT K H' lab i v x:=by
 cases x with
 |no=>exact trivial
 |sh d=>exact Rp.up s h
 |nw d=>exact Rp.up s h
 |ow d=>exact⟨Rp.up s h.1,h.2⟩
 |oz d=>
  obtain⟨a,xs,ds,e1,e2,e3,e4,e5⟩:=h;exact⟨a,xs,ds,e1,e2,s _ _ e3,e4,e5.up s⟩
 |o2 l=>
  obtain⟨a,xs,e1,e2,e3,e4,e5⟩:=h;exact⟨a,xs,e1,s _ _ e2,e3,e4,λ j x ds f1 f2=>(e5 j x ds f1 f2).up s⟩
def aGi(r:Rp K A H (.ref a) d)(hm:aF3 d=true):∃o,H a=some o/\gW o=true/\A a:=by
 cases r with
 |lst h m _=>exact⟨_,h,rfl,m⟩
 |dK h m _=>exact⟨_,h,rfl,m⟩
 |dT h m _=>exact⟨_,h.at_,rfl,m⟩
 |set h m _ _=>exact⟨_,h,rfl,m⟩
 |tup _ _=>cases hm
 |scr _=>cases hm
 |fn _=>cases hm
 |itm _=>cases hm
 |itx _=>cases hm
def aMZ(r:Rp K A H v d)(hm:aF3 d=true):∃a,v= .ref a:=by
 cases r with
 |lst h m _=>exact⟨_,rfl⟩
 |dK h m _=>exact⟨_,rfl⟩
 |dT h m _=>exact⟨_,rfl⟩
 |set h m _ _=>exact⟨_,rfl⟩
 |_=>cases hm
theorem iT.lab{lab lab':Lab}(hl:∀p o,H p=some o->lab' p=lab p)(h:iT K H lab i v x):iT K H lab' i v x:=by
 cases x with
 |no=>exact trivial
 |sh d=>exact Rp.wk (λ p o e q=>(hl p o e).symm▸q) h
 |nw d=>exact Rp.wk (λ p o e q=>(hl p o e).symm▸q) h
 |ow d=>
  obtain⟨h,t⟩:=h;refine⟨Rp.wk (λ p o e q=>(hl p o e).symm▸q) h,λ m=>?_⟩;obtain⟨a,rfl,ea⟩:=t m;obtain⟨o,ho,_⟩:=aGi h m;exact⟨a,rfl,(congrArg (·.1) (hl a o ho)).trans ea⟩
 |oz d=>
  obtain⟨a,xs,ds,e1,e2,e3,e4,e5⟩:=h;exact⟨a,xs,ds,e1,e2,e3,(congrArg (·.1) (hl _ _ e3)).trans e4,Rps.wk (λ p o e q=>(hl p o e).symm▸q) e5⟩
 |o2 l=>
  obtain⟨a,xs,e1,e2,e3,e4,e5⟩:=h;exact⟨a,xs,e1,e2,(hl _ _ e2).trans e3,e4,λ j x ds f1 f2=>Rp.wk (λ p o e q=>(hl p o e).symm▸q) (e5 j x ds f1 f2)⟩
section
variable{G:Gx}{τ:List (V×D)}{ρ:En}{Z:L2.St}{H H':Hp}{lab lab':Lab}
theorem RR.up(R:RR K G τ ρ Z H lab)(s:aY H H'):RR K G τ ρ Z H' lab:=
 ⟨R.len,λ i x e=>(R.sl i x e).imp id λ⟨v,e1,e2⟩=>⟨v,e1,e2.up s⟩,R.old.trans s,R.new,λ q hq=>(R.tm q hq).up s⟩
def RR.relab(R:RR K G τ ρ Z H lab)(hl:∀p o,H p=some o->lab' p=lab p)(hn:∀p,(lab' p).1≠0->G.H0 p=none):RR K G τ ρ Z H lab':=
 ⟨R.len,λ i x e=>(R.sl i x e).imp id λ⟨v,e1,e2⟩=>⟨v,e1,e2.lab hl⟩,R.old,hn,λ q hq=>Rp.wk (λ p o e z=>by rw[hl p o e];exact z) (R.tm q hq)⟩
def RR.drop(R:RR K G (τ'++τ) ρ Z H lab):RR K G τ ρ Z H lab:=⟨R.len,R.sl,R.old,R.new,λ z hz=>R.tm z (zA3 _ hz)⟩
def RR.put(R:RR K G τ ρ Z H lab)(h:iT K H lab i v s):RR K G τ (ρ.set i s) (Z.set i (some v)) H lab:=by
 refine⟨by rw[zBC,zBC,R.len],λ j x e=>?_,R.old,R.new,R.tm⟩;by_cases hj:i=j
 .subst hj
  have hi:i<ρ.length:=by
   have:=(zAL.mp e).1
   rwa [zBC]at this
  rw[zBL hi]at e;cases e;exact .inr ⟨v,by rw[zBL (by rw[R.len];exact hi)],h⟩
 .rw[zBK hj]at e
  rcases R.sl j x e with z|⟨u,e1,e2⟩
  .exact .inl z
  .exact .inr ⟨u,by rw[zBK hj];exact e1,e2⟩
def bJ(H:Hp)(n:Nat)(lab:Lab):Lab:=λ p=>match H p with
 |none=>(n,0)
 |some _=>lab p
def bA(h:H p=some o):bJ H n lab p=lab p:=by unfold bJ;rw[h]
def xf(h:H p=none):bJ H n lab p=(n,0):=by unfold bJ;rw[h]
def RR.fresh{P:Nat->Prop}(h1:P 1)(hm:∀k,inM m k->P k)(R:RR K G τ ρ Z H lab)(s:aY H H')(r:Rp K (fpM m lab H) H' v d):
  RR K G τ ρ Z H' (bJ H 1 lab)/\Rp K (λ p=>P (bJ H 1 lab p).1) H' v d:=by
 refine⟨(R.relab (λ p o e=>bA e) λ p hp=>?_).up s,Rp.wk (λ p o e z=>?_) r⟩
 .cases e:H p with
  |none=>exact R.old.free e
  |some o=>rw[bA e]at hp;exact R.new p hp
 .rcases z with z|z
  .rw[xf z];exact h1
  .cases e:H p with
   |none=>rw[xf e];exact h1
   |some o=>rw[bA e];exact hm _ z
def RR.freshO(i:Nat)(hm:∀k,inM m k->k=1\/k=i+2)(R:RR K G τ ρ Z H lab)(s:aY H H')(r:Rp K (fpM m lab H) H' v d)(ht:aF3 d=true->∃a,v= .ref a/\H a=none):
  ∃lab',RR K G τ ρ Z H' lab'/\iT K H' lab' i v (.ow d):=by
 obtain⟨R',r'⟩:=R.fresh (P:=λ k=>k=1\/k=i+2) (.inl rfl) hm s r;cases hd:aF3 d with
 |false=>exact⟨_,R',r',λ z=>absurd z (by simp[hd])⟩
 |true=>
  obtain⟨a,rfl,ha⟩:=ht hd;refine⟨λ p=>if p=a then(i+2,0)else bJ H 1 lab p,?_,Rp.wk (λ p o e z=>?_) r',λ _=>⟨a,rfl,by show(if a=a then((i+2,0):Nat×Nat)else bJ H 1 lab a).1=i+2;rw[if_pos rfl]⟩⟩
  .refine(R.relab (lab':=λ p=>if p=a then(i+2,0)else bJ H 1 lab p) (λ p o e=>?_) λ p hp=>?_).up s
   .rw[if_neg (λ z=>by subst z;rw[ha]at e;cases e),bA e]
   .by_cases z:p=a
    .subst z;exact R.old.free ha
    .rw[if_neg z]at hp;exact R'.new p hp
  .dsimp only
   by_cases q:p=a
   .rw[if_pos q];exact .inr rfl
   .rw[if_neg q];exact z
def aLe(h:iT K H lab i v (.oz d)):Rp K (λ p=>(lab p).1<=1\/(lab p).1=i+2) H v d:=by
 obtain⟨a,xs,ds,rfl,rfl,h1,h2,h3⟩:=h;exact .lst h1 (.inr h2) (h3.wk λ p o e z=>⟨.inl z,λ q=>by subst q;lia⟩)
end
structure Ct where
 ι:Type
 X:ι->Cx
 prog:zAY
 w:World
 K:zAA
 mg:Str->Option Value
 base:Heap
 k:Nat
 G:Gx
 cx:∀i,(X i).prog=prog/\(X i).w=w/\(X i).K=K/\(X i).mg=mg/\(X i).base=base
 calm:∀i,(X i).calm=true
 room:∀i,jy k (X i).A
 own:∀i,zHU (model (X i).prog (X i).w) (X i).A (X i).env (X i).xe
 pass:∀i,aBd (CX1 (X i).prog (X i).w) (X i) G.E
 dOk:Bool
 dcx:dOk=true->∀i,gM (X i) G.E
def Ct.hK(C:Ct)(i:C.ι):(C.X i).K=C.K:=(C.cx i).2.2.1
def WR{α:Type}(G:Gx)(r:Rs α)(P:α->Prop):Prop:=match r with
 | .ok a=>P a
 | .ex c=>∀H',aY G.H0 H'->G.E (.ref (G.cl c)) none H'
 | .st=>False
theorem WR.bd(h:WR G (r.bd k) P):WR G r (λ a=>WR G (k a) P):=by
 cases r with
 |ok a=>exact h
 |ex c=>exact h
 |st=>exact h
def WR.imp(h:WR G r P)(f:∀a,r= .ok a->P a->P' a):WR G r P':=by
 cases r with
 |ok a=>exact f a rfl h
 |ex c=>exact h
 |st=>exact h
abbrev QE(K:zAA)(m:Mode)(lab:Lab)(H:Hp)(Q:VK):D->Prop:=λ d=>∀v H',aY H H'->Rp K (fpM m lab H) H' v d->Q v H'
abbrev QA(K:zAA)(m:Mode)(lab:Lab)(H:Hp)(Q:List V->Hp->Prop):List D->Prop:=λ ds=>∀vs H',aY H H'->Rps K (fpM m lab H) H' vs ds->Q vs H'
abbrev QT(H:Hp)(Q:Bool->Hp->Prop):Bool->Prop:=λ b=>∀H',aY H H'->Q b H'
def iU(K:zAA)(G:Gx)(m:Mode)(t:TE)(f:En->Rs D):Prop:=∀τ Z H ρ lab (Q:VK),RR K G τ ρ Z H lab->WR G (f ρ) (QE K m lab H Q)->t Z H Q
def aLF(K:zAA)(G:Gx)(m:Mode)(t:TA)(f:En->Rs (List D)):Prop:=∀τ Z H ρ lab (Q:List V->Hp->Prop),RR K G τ ρ Z H lab->WR G (f ρ) (QA K m lab H Q)->t Z H Q
def aDr(K:zAA)(G:Gx)(t:TT)(f:En->Rs Bool):Prop:=∀τ Z H ρ lab (Q:Bool->Hp->Prop),RR K G τ ρ Z H lab->WR G (f ρ) (QT H Q)->t Z H Q
def SE(C:Ct)(m:Mode)(e:Expr)(f:En->Rs D):Prop:=∃t,(∀i,PE (C.X i) e t)/\iU C.K C.G m t f
def SA(C:Ct)(m:Mode)(es:List Expr)(f:En->Rs (List D)):Prop:=∃t,(∀i,PA (C.X i) es t)/\aLF C.K C.G m t f
def ST(C:Ct)(e:Expr)(f:En->Rs Bool):Prop:=∃t,(∀i,PT (C.X i) e t)/\aDr C.K C.G t f
def SW(C:Ct)(e:Expr)(f:En->Rs Bool):Prop:=∃t,(∀i,PW (C.X i) e t)/\aDr C.K C.G t f
def SW.st(h:SW C e f):ST C e f:=let⟨t,h1,h2⟩:=h;⟨t,λ i=>(h1 i).pt,h2⟩
def cQ(i:Nat):En->Rs D:=λ ρ=>match ρ[i]? with
 |some (.sh d)=>.ok d
 |some (.nw d)=>.ok d
 |some (.ow d)=>.ok d
 |some (.oz d)=>.ok d
 |some (.o2 l)=>.ok (.lst (l.map .lst))
 |_=>.st
def aF(i:Nat):En->Rs D:=λ ρ=>match ρ[i]? with
 |some (.sh d)=>.ok d
 |some (.nw d)=>.ok d
 |_=>.st
def vZ(i:Nat):En->Rs D:=λ ρ=>match ρ[i]? with
 |some (.nw d)=>.ok d
 |_=>.st
def vY(i:Nat):En->Rs D:=λ ρ=>match ρ[i]? with
 |some (.ow d)=>.ok d
 |some (.o2 l)=>.ok (.lst (l.map .lst))
 |_=>.st
def cD(d:D):En->Rs D:=λ _=>.ok d
def aH7{K:zAA}{H:Hp}{lab:Lab}{i:Nat}{v:V}{l:dE}(h:iT K H lab i v (.o2 l)):Rp K (λ p=>(lab p).1=i+2) H v (.lst (l.map .lst)):=by
 obtain⟨a,xs,rfl,ha,hla,kQ,hin⟩:=h;refine .lst ha (by rw[hla]) ?_;have go:∀(xs:List V) (l:dE) (n:Nat),xs.length=l.length->0<n->(∀(j:Nat) x ds,xs[j]? =some x->l[j]? =some ds->Rp K (λ p=>lab p=(i+2,n+j)) H x (.lst ds))->Rps K (λ p=>(lab p).1=i+2/\p≠a) H xs (l.map .lst):=by
  intro xs;induction xs with
  |nil=>intro l n hl _ _;cases l with|nil=>exact .nil|cons _ _=>simp at hl
  |cons x xs ih=>
   intro l n hl hn h;cases l with
   |nil=>simp at hl
   |cons ds l=>
    refine .cons (Rp.wk (λ p o e z=>⟨by rw[z],λ e=>by rw[e,hla]at z;have z2:(0:Nat)=n+0:=congrArg zFv z;lia⟩) (h 0 x ds rfl rfl)) (ih l (n+1) (by simpa using hl) (by lia) λ j y es e1 e2=>?_);have z:=h (j+1) y es (by simpa using e1) (by simpa using e2);rw[show n+1+j=n+(j+1)by lia];exact z
 exact go xs l 1 kQ (by lia) λ j x ds e1 e2=>by have z:=hin j x ds e1 e2;rw[show 1+j=j+1 by lia];exact z
section
variable{C:Ct}{pos:Pos}
def aJP(K:zAA)(G:Gx)(i:Nat):iU K G (some [0,1,i+2]) (kJ i) (cQ i):=by
 intro τ Z H ρ lab Q R W;unfold cQ at W;cases e:ρ[i]? with
 |none=>rw[e]at W;exact W.elim
 |some s=>
  rw[e]at W;rcases R.sl i s e with rfl|⟨v,ev,hv⟩
  .exact zAI W
  .cases s with
   |no=>exact zAI W
   |sh d=>exact⟨v,ev,W v H (aY.refl H) (Rp.wk (λ p o e z=>.inr (by show(lab p).1∈[0,1,i+2];rcases(show(lab p).1=0\/(lab p).1=1 by lia)with q|q<;>rw[q]<;>simp)) hv)⟩
   |nw d=>exact⟨v,ev,W v H (aY.refl H) (Rp.wk (λ p o e z=>.inr (by show(lab p).1∈[0,1,i+2];rw[z];simp)) hv)⟩
   |ow d=>exact⟨v,ev,W v H (aY.refl H) (Rp.wk (λ p o e z=>.inr (by show(lab p).1∈[0,1,i+2];rcases z with q|q<;>rw[q]<;>simp)) hv.1)⟩
   |oz d=>exact⟨v,ev,W v H (aY.refl H) (Rp.wk (λ p o e z=>.inr (by show(lab p).1∈[0,1,i+2];rcases(show(lab p).1=0\/(lab p).1=1\/(lab p).1=i+2 by lia)with q|q|q<;>rw[q]<;>simp)) (aLe hv))⟩
   |o2 l=>exact⟨v,ev,W v H (aY.refl H) (Rp.wk (λ p o e z=>.inr (by show(lab p).1∈[0,1,i+2];rw[z];simp)) (aH7 hv))⟩
def aGY(K:zAA)(G:Gx)(i:Nat):iU K G (some [0,1]) (kJ i) (aF i):=by
 intro τ Z H ρ lab Q R W;unfold aF at W;cases e:ρ[i]? with
 |none=>rw[e]at W;exact W.elim
 |some s=>
  rw[e]at W;rcases R.sl i s e with rfl|⟨v,ev,hv⟩
  .exact zAI W
  .cases s with
   |sh d=>exact⟨v,ev,W v H (aY.refl H) (Rp.wk (λ p o e z=>.inr (by show(lab p).1∈[0,1];rcases(show(lab p).1=0\/(lab p).1=1 by lia)with q|q<;>rw[q]<;>simp)) hv)⟩
   |nw d=>exact⟨v,ev,W v H (aY.refl H) (Rp.wk (λ p o e z=>.inr (by show(lab p).1∈[0,1];rw[z];simp)) hv)⟩
   |_=>exact zAI W
def aG0(K:zAA)(G:Gx)(i:Nat):iU K G (some [1]) (kJ i) (vZ i):=by
 intro τ Z H ρ lab Q R W;unfold vZ at W;cases e:ρ[i]? with
 |none=>rw[e]at W;exact W.elim
 |some s=>
  rw[e]at W;rcases R.sl i s e with rfl|⟨v,ev,hv⟩
  .exact zAI W
  .cases s with
   |nw d=>exact⟨v,ev,W v H (aY.refl H) (Rp.wk (λ p o e z=>.inr (by show(lab p).1∈[1];rw[z];simp)) hv)⟩
   |_=>exact zAI W
def aGZ(K:zAA)(G:Gx)(i:Nat):iU K G (some [1,i+2]) (kJ i) (vY i):=by
 intro τ Z H ρ lab Q R W;unfold vY at W;cases e:ρ[i]? with
 |none=>rw[e]at W;exact W.elim
 |some s=>
  rw[e]at W;rcases R.sl i s e with rfl|⟨v,ev,hv⟩
  .exact zAI W
  .cases s with
   |ow d=>exact⟨v,ev,W v H (aY.refl H) (Rp.wk (λ p o e z=>.inr (by show(lab p).1∈[1,i+2];rcases z with q|q<;>rw[q]<;>simp)) hv.1)⟩
   |o2 l=>exact⟨v,ev,W v H (aY.refl H) (Rp.wk (λ p o e z=>.inr (by show(lab p).1∈[1,i+2];rw[z];simp)) (aH7 hv))⟩
   |_=>exact zAI W
def jE(i:Nat)(hN:∀j,(C.X j).N[i]? =some x:=by intro _;rfl)(hv:∀j,Vis (C.X j).env.scope x:=by intro _;first|exact zB0 rfl|exact zAx (zB0 rfl)|exact zAx (zAx rfl))(hd:Nd x:=by decide)
  (hcd:(x==("__classdict__":Str))=false:=by decide):SE C (some [0,1,i+2]) (.Name x pos) (cQ i):=⟨_,λ j=>dO (hN j) (hv j) hd hcd,aJP _ _ i⟩
def aB(i:Nat)(hN:∀j,(C.X j).N[i]? =some x:=by intro _;rfl)(hv:∀j,Vis (C.X j).env.scope x:=by intro _;first|exact zB0 rfl|exact zAx (zB0 rfl)|exact zAx (zAx rfl))(hd:Nd x:=by decide)
  (hcd:(x==("__classdict__":Str))=false:=by decide):SE C (some [0,1]) (.Name x pos) (aF i):=⟨_,λ j=>dO (hN j) (hv j) hd hcd,aGY _ _ i⟩
def aEG(i:Nat)(hN:∀j,(C.X j).N[i]? =some x:=by intro _;rfl)(hv:∀j,Vis (C.X j).env.scope x:=by intro _;first|exact zB0 rfl|exact zAx (zB0 rfl)|exact zAx (zAx rfl))(hd:Nd x:=by decide)
  (hcd:(x==("__classdict__":Str))=false:=by decide):SE C (some [1]) (.Name x pos) (vZ i):=⟨_,λ j=>dO (hN j) (hv j) hd hcd,aG0 _ _ i⟩
def pK(i:Nat)(hN:∀j,(C.X j).N[i]? =some x:=by intro _;rfl)(hv:∀j,Vis (C.X j).env.scope x:=by intro _;first|exact zB0 rfl|exact zAx (zB0 rfl)|exact zAx (zAx rfl))(hd:Nd x:=by decide)
  (hcd:(x==("__classdict__":Str))=false:=by decide):SE C (some [1,i+2]) (.Name x pos) (vY i):=⟨_,λ j=>dO (hN j) (hv j) hd hcd,aGZ _ _ i⟩
def aJ:SE C (some []) (.Constant (.int i) j pos) (cD (.int i)):=⟨_,λ _=>aMp,λ τ Z H ρ lab Q R W=>W _ H (aY.refl H) (.int i)⟩
def ik:SE C (some []) (.Constant (.bool b) j pos) (cD (.bl b)):=⟨_,λ _=>aOi,λ τ Z H ρ lab Q R W=>W _ H (aY.refl H) (.bl b)⟩
def aG9:SE C (some []) (.Constant .none j pos) (cD .non):=⟨_,λ _=>aMn,λ τ Z H ρ lab Q R W=>W _ H (aY.refl H) .non⟩
def aDD:SE C (some []) (.Constant (.str x) j pos) (cD (.str x)):=⟨_,λ _=>aMk,λ τ Z H ρ lab Q R W=>W _ H (aY.refl H) (.str x)⟩
def aJY(hm:C.mg x=some u)(r:RelV v u)(hd:∀A H,Rp C.K A H v d)(hdb:Nd x:=by decide)(hg:∀i,Gl (C.X i) x:=by intro _;rfl):SE C (some []) (.Name x pos) (cD d):=
 ⟨_,λ i=>aJw (hg i) (by rw[(C.cx i).2.2.2.1];exact hm) r hdb,λ τ Z H ρ lab Q R W=>W _ H (aY.refl H) (hd _ _)⟩
def vh(d:D):Rs D:=if imm d=true then .ok d else .st
def ak(f:En->Rs D):En->Rs D:=λ ρ=>(f ρ).bd vh
def b8(h:SE C m e f):SE C (some []) e (ak f):=by
 obtain⟨t,h1,h2⟩:=h;refine⟨t,h1,λ τ Z H ρ lab Q R W=>h2 τ Z H ρ lab Q R (W.bd.imp λ d _ w v H' s r=>?_)⟩;unfold vh at w;by_cases hd:imm d=true
 .rw[if_pos hd]at w
  exact w v H' s (r.imm hd)
 .rw[if_neg hd]at w
  exact zAI w
def aH:En->Rs (List D):=λ _=>.ok []
def aC(f:En->Rs D)(g:En->Rs (List D)):En->Rs (List D):=λ ρ=>(f ρ).bd λ d=>(g ρ).bd λ ds=>.ok (d::ds)
variable{m m1 m2:Mode}{e a b:Expr}{es:List Expr}{f fa fb:En->Rs D}{g:En->Rs (List D)}
def aG:SA C (some []) [] aH:=⟨_,λ _=>fH,λ τ Z H ρ lab Q R W=>W _ H (aY.refl H) .nil⟩
def aD(h:SE C m1 e f)(hr:SA C m2 es g)(hs:∀i,zAT (e::es) (C.X i).env=(false,eval e (C.X i).env)::zAT es (C.X i).env:=by intro _;rfl):SA C (jn m1 m2) (e::es) (aC f g):=by
 obtain⟨t,h1,h2⟩:=h;obtain⟨u,k1,k2⟩:=hr;refine⟨_,λ i=>bT (h1 i) (k1 i) (hs i),λ τ Z H ρ lab Q R W=>?_⟩;refine h2 τ Z H ρ lab _ R (W.bd.imp λ d _ w x H1 s1 r1=>?_);refine k2 τ Z H1 ρ lab _ (R.up s1) (w.bd.imp λ ds _ w xs H2 s2 r2=>?_);exact w (x::xs) H2 (s1.trans s2) (.cons (r1.mono s2 λ p o _ z=>aIS z) (r2.wk λ p o _ z=>aIR (o6 s1 z)))
def b7(g:En->Rs (List D)):En->Rs D:=λ ρ=>(g ρ).bd λ ds=>if ds.length<=zAO then .ok (.tup ds)else .st
def oA(g:En->Rs (List D)):En->Rs D:=λ ρ=>(g ρ).bd λ ds=>if ds.length<=zAO then .ok (.lst ds)else .st
def bM{x1}(h:SA C m es g):SE C m (.Tuple es x1 pos) (b7 g):=by
 obtain⟨t,h1,h2⟩:=h;refine⟨_,λ i=>aJv (h1 i),λ τ Z H ρ lab Q R W=>h2 τ Z H ρ lab _ R (W.bd.imp λ ds _ w xs H1 s1 r1=>?_)⟩;by_cases hz:ds.length<=zAO
 .rw[if_pos hz]at w
  exact⟨by rw[r1.length];exact hz,λ p H' s hp _=>w _ H' (s1.trans s) (.tup (SqT.of hp) (r1.up s))⟩
 .rw[if_neg hz]at w
  exact zAI w
def aGa(h:SA C m es g):SE C m (.List es pos) (oA g):=by
 obtain⟨t,h1,h2⟩:=h;refine⟨_,λ i=>aAz (h1 i),λ τ Z H ρ lab Q R W=>h2 τ Z H ρ lab _ R (W.bd.imp λ ds _ w xs H1 s1 r1=>?_)⟩;by_cases hz:ds.length<=zAO
 .rw[if_pos hz]at w
  exact⟨by rw[r1.length];exact hz,λ p H' s hp hn=>w _ H' (s1.trans s) (.lst hp (.inl (s1.free hn)) ((r1.wk λ q o e z=>⟨z,λ e'=>by subst e';rw[hn]at e;cases e⟩).up s))⟩
 .rw[if_neg hz]at w
  exact zAI w
def aJ1:SE C (some []) (.Dict [] [] pos) (cD (.dct [] [])):=
 ⟨_,λ _=>aHS,λ τ Z H ρ lab Q R W p H' s hp hn=>W _ H' s (.dK (kvs:=[]) hp (.inl hn) .nil)⟩
def aP0(H:Hp)(v:V)(d:D):Prop:=aF3 d=true->∃a,v= .ref a/\H a=none
def aOG(K:zAA)(G:Gx)(m:Mode)(t:TE)(f:En->Rs D):Prop:=∀τ Z H ρ lab (Q:VK),RR K G τ ρ Z H lab->WR G (f ρ) (λ d=>∀v H',aY H H'->Rp K (fpM m lab H) H' v d->aP0 H v d->Q v H')->t Z H Q
def SF(C:Ct)(m:Mode)(e:Expr)(f:En->Rs D):Prop:=∃t,(∀i,PE (C.X i) e t)/\aOG C.K C.G m t f
def iU.toF{K:zAA}{G:Gx}{t:TE}{f:En->Rs D}(h:iU K G (some []) t f):aOG K G (some []) t f:=λ τ Z H ρ lab Q R W=>
 h τ Z H ρ lab Q R (W.imp λ d _ w v H' s r=>w v H' s r λ hm=>by
  obtain⟨a,rfl⟩:=aMZ r hm;obtain⟨o,_,_,z⟩:=aGi r hm;rcases z with z|z
  .exact⟨a,rfl,z⟩
  .cases z)
def aMM(h:SE C (some []) e f):SF C (some []) e f:=let⟨t,h1,h2⟩:=h;⟨t,h1,h2.toF⟩
def wZ(h:SA C m es g):SF C m (.List es pos) (oA g):=by
 obtain⟨t,h1,h2⟩:=h;refine⟨_,λ i=>aAz (h1 i),λ τ Z H ρ lab Q R W=>h2 τ Z H ρ lab _ R (W.bd.imp λ ds _ w xs H1 s1 r1=>?_)⟩;by_cases hz:ds.length<=zAO
 .rw[if_pos hz]at w
  exact⟨by rw[r1.length];exact hz,λ p H' s hp hn=>w _ H' (s1.trans s) (.lst hp (.inl (s1.free hn)) ((r1.wk λ q o e z=>⟨z,λ e'=>by subst e';rw[hn]at e;cases e⟩).up s)) λ _=>⟨p,rfl,s1.free hn⟩⟩
 .rw[if_neg hz]at w
  exact zAI w
def OpS(K:zAA)(r:R2)(fd:D->D->Rs D):Prop:=∀(A:Addr->Prop) x y d e H (Q:VK) z,Rp K A H x d->Rp K A H y e->fd d e= .ok z->(∀v H',aY H H'->Rp K (λ p=>H p=none\/A p) H' v z->Q v H')->r x y H Q
def UnS(K:zAA)(r:V->Hp->VK->Prop)(fd:D->Rs D):Prop:=∀(A:Addr->Prop) x d H (Q:VK) z,Rp K A H x d->fd d= .ok z->(∀v H',aY H H'->Rp K (λ p=>H p=none\/A p) H' v z->Q v H')->r x H Q
def uH(K:zAA)(r:List V->Hp->VK->Prop)(fd:List D->Rs D):Prop:=∀(A:Addr->Prop) xs ds H (Q:VK) z,Rps K A H xs ds->fd ds= .ok z->(∀v H',aY H H'->Rp K (λ p=>H p=none\/A p) H' v z->Q v H')->r xs H Q
def okD(r:Rs D):Rs D:=match r with
 | .ok d=>.ok d
 |_=>.st
def op2(fd:D->D->Rs D)(fa fb:En->Rs D):En->Rs D:=λ ρ=>(fa ρ).bd λ x=>(fb ρ).bd λ y=>okD (fd x y)
def op1(fd:D->Rs D)(fa:En->Rs D):En->Rs D:=λ ρ=>(fa ρ).bd λ x=>okD (fd x)
def opA(fd:List D->Rs D)(fa:En->Rs (List D)):En->Rs D:=λ ρ=>(fa ρ).bd λ x=>okD (fd x)
theorem WR.okD(h:WR G (okD r) P):∃z,r= .ok z/\P z:=by
 cases r with
 |ok z=>exact⟨z,rfl,h⟩
 |ex c=>exact zAI h
 |st=>exact zAI h
def aAl{K:zAA}{G:Gx}{r:R2}{ta tb:TE}{fd:D->D->Rs D}(hs:OpS K r fd)(h1:iU K G m1 ta fa)(h2:iU K G m2 tb fb):iU K G (jn m1 m2) (tOp r ta tb) (op2 fd fa fb):=by
 intro τ Z H ρ lab Q R W;refine h1 τ Z H ρ lab _ R (W.bd.imp λ d _ w x H1 s1 r1=>?_);refine h2 τ Z H1 ρ lab _ (R.up s1) (w.bd.imp λ e _ w y H2 s2 r2=>?_);obtain⟨z,ez,w⟩:=w.okD;refine hs (fpM (jn m1 m2) lab H) x y d e H2 Q z (r1.mono s2 λ p o _ q=>aIS q) (r2.wk λ p o _ q=>aIR (o6 s1 q)) ez λ v H' s r=>w v H' ((s1.trans s2).trans s) (r.wk λ p o _ q=>?_)
 rcases q with q|q
 .exact .inl ((s1.trans s2).free q)
 .exact q
def aJR{K:zAA}{G:Gx}{r:V->Hp->VK->Prop}{ta:TE}{fd:D->Rs D}(hs:UnS K r fd)(h1:iU K G m ta fa):iU K G m (tUn r ta) (op1 fd fa):=by
 intro τ Z H ρ lab Q R W;refine h1 τ Z H ρ lab _ R (W.bd.imp λ d _ w x H1 s1 r1=>?_);obtain⟨z,ez,w⟩:=w.okD;refine hs (fpM m lab H) x d H1 Q z r1 ez λ v H' s r=>w v H' (s1.trans s) (r.wk λ p o _ q=>?_)
 rcases q with q|q
 .exact .inl (s1.free q)
 .exact q
def aEC{K:zAA}{G:Gx}{r:List V->Hp->VK->Prop}{ta:TA}{fd:List D->Rs D}(hs:uH K r fd)(h1:aLF K G m ta g):iU K G m (tCB r ta) (opA fd g):=by
 intro τ Z H ρ lab Q R W;refine h1 τ Z H ρ lab _ R (W.bd.imp λ d _ w x H1 s1 r1=>?_);obtain⟨z,ez,w⟩:=w.okD;refine hs (fpM m lab H) x d H1 Q z r1 ez λ v H' s r=>w v H' (s1.trans s) (r.wk λ p o _ q=>?_)
 rcases q with q|q
 .exact .inl (s1.free q)
 .exact q
def fj(h:SE C m e f)(hi:∀ρ d,f ρ= .ok d->imm d=true):SE C (some []) e f:=by
 obtain⟨t,h1,h2⟩:=h;exact⟨t,h1,λ τ Z H ρ lab Q R W=>h2 τ Z H ρ lab Q R (W.imp λ d ed w v H' s r=>w v H' s (r.imm (hi ρ d ed)))⟩
def lC(h:∀x y z,fd x y= .ok z->imm z=true)(e:op2 fd fa fb ρ= .ok d):imm d=true:=by
 obtain⟨x,_,e⟩:=dD e;obtain⟨y,_,e⟩:=dD e;unfold okD at e;split at e
 .rename_i z hz
  cases e;exact h x y _ hz
 .cases e
def aKe(h:∀x z,fd x= .ok z->imm z=true)(e:op1 fd fa ρ= .ok d):imm d=true:=by
 obtain⟨x,_,e⟩:=dD e;unfold okD at e;split at e
 .rename_i z hz
  cases e;exact h x _ hz
 .cases e
def pO(h:∀x z,fd x= .ok z->imm z=true)(e:opA fd g ρ= .ok d):imm d=true:=by
 obtain⟨x,_,e⟩:=dD e;unfold okD at e;split at e
 .rename_i z hz
  cases e;exact h x _ hz
 .cases e
def aAD(ro:∀i,OpR (C.X i) (zCG op) r)(hs:OpS C.K r fd)(ha:SE C m1 a fa)(hb:SE C m2 b fb):SE C (jn m1 m2) (.BinOp a op b pos) (op2 fd fa fb):=by
 obtain⟨t,h1,h2⟩:=ha;obtain⟨u,k1,k2⟩:=hb;exact⟨_,λ i=>aOf (ro i) (h1 i) (k1 i),aAl hs h2 k2⟩
def aO0(ro:∀i,UnR (C.X i) (unaryOp op) r)(hs:UnS C.K r fd)(ha:SE C m a fa):SE C m (.UnaryOp op a pos) (op1 fd fa):=by
 obtain⟨t,h1,h2⟩:=ha;exact⟨_,λ i=>aOe (ro i) (h1 i),aJR hs h2⟩
def aAn(ro:∀i,OpR (C.X i) (zAm op) r)(hs:OpS C.K r fd)(ha:SE C m1 a fa)(hb:SE C m2 b fb)(hm:zBk op b=false:=by first|exact aH9 _|(with_unfolding_all rfl)):
  SE C (jn m1 m2) (.Compare a [op] [b] pos) (op2 fd fa fb):=by
 obtain⟨t,h1,h2⟩:=ha;obtain⟨u,k1,k2⟩:=hb;exact⟨_,λ i=>aJz (ro i) (h1 i) (k1 i) hm,aAl hs h2 k2⟩
variable{p:Pos}{x:Str}{id T:String}
def lW(ro:∀i,cZ (C.X i) (.builtin id) r)(hs:uH C.K r fd)(hg:∀i,Gl (C.X i) x)(hm:C.mg x=none)(hv:zAp x=some (.builtin id))(ha:SA C m (e::es) g)
  (hn:x≠"__name__":=by decide)(hdb:Nd x:=by decide)(he:∀i,zAT (e::es) (C.X i).env=(false,eval e (C.X i).env)::zAT es (C.X i).env:=by intro _;rfl)
  (hpl:∀i,(zBu pos (zAT es (C.X i).env)).any (·.1)=false:=by intro _;rfl):SE C m (.Call (.Name x p) (e::es) [] pos) (opA fd g):=by
 obtain⟨t,h1,h2⟩:=ha;exact⟨_,λ i=>jg (ro i) (hg i) (by rw[(C.cx i).2.2.2.1];exact hm) hv (h1 i) hn hdb (he i) (hpl i),aEC hs h2⟩
def aGc(ro:∀i,cZ (C.X i) (.type T) r)(hs:uH C.K r fd)(hg:∀i,Gl (C.X i) x)(hm:C.mg x=none)(hv:zAp x=some (.type T))(ha:SA C m (e::es) g)
  (hn:x≠"__name__":=by decide)(hdb:Nd x:=by decide)(he:∀i,zAT (e::es) (C.X i).env=(false,eval e (C.X i).env)::zAT es (C.X i).env:=by intro _;rfl)
  (hpl:∀i,(zBu pos (zAT es (C.X i).env)).any (·.1)=false:=by intro _;rfl):SE C m (.Call (.Name x p) (e::es) [] pos) (opA fd g):=by
 obtain⟨t,h1,h2⟩:=ha;exact⟨_,λ i=>gq (ro i) (hg i) (by rw[(C.cx i).2.2.2.1];exact hm) hv (h1 i) hn hdb (he i) (hpl i),aEC hs h2⟩
def vm(f g:En->Rs D):En->Rs D:=λ ρ=>(f ρ).bd λ d=>match d with
 | .bl true=>g ρ
 | .bl false=>.ok (.bl false)
 |_=>.st
def aKO:D->Rs D
 | .bl b=>.ok (.bl (!b))
 |_=>.st
variable{rest:List Expr}
def m7{op}(h:SE C m a fa):SE C m (.BoolOp op [a] pos) fa:=by
 obtain⟨t,h1,h2⟩:=h;exact⟨_,λ i=>aMl (h1 i),h2⟩
def lH(ha:SE C m1 a fa)(hb:SE C m2 (.BoolOp .And (b::rest) pos) fb):SE C m2 (.BoolOp .And (a::b::rest) pos) (vm fa fb):=by
 obtain⟨t,h1,h2⟩:=ha;obtain⟨u,k1,k2⟩:=hb;refine⟨_,λ i=>aMr (h1 i) (k1 i),λ τ Z H ρ lab Q R W=>h2 τ Z H ρ lab _ R (W.bd.imp λ d _ w x H1 s1 r1=>?_)⟩;cases r1 with
 |bl c=>
  refine⟨c,rfl,?_⟩;cases c with
  |true=>
   rw[if_pos rfl];exact k2 τ Z H1 ρ lab Q (R.up s1) (w.imp λ z _ w v H' s r=>w v H' (s1.trans s) (r.wk λ p o _ q=>o6 s1 q))
  |false=>
   rw[if_neg zAU];exact w _ H1 s1 (.bl false)
 |_=>exact zAI w
def aG8(ha:SE C m a fa):SE C (some []) (.UnaryOp .Not a pos) (op1 aKO fa):=by
 obtain⟨t,h1,h2⟩:=ha;refine⟨_,λ i=>aMm (h1 i),λ τ Z H ρ lab Q R W=>h2 τ Z H ρ lab _ R (W.bd.imp λ d _ w x H1 s1 r1=>?_)⟩;obtain⟨z,ez,w⟩:=w.okD;cases r1 with
 |bl c=>cases ez;exact⟨c,rfl,w _ H1 s1 (.bl _)⟩
 |_=>cases ez
def ifD(c:En->Rs Bool)(f g:En->Rs D):En->Rs D:=λ ρ=>(c ρ).bd λ k=>if k=true then f ρ else g ρ
def aO4(hc:ST C c fc)(ha:SE C m1 a fa)(hb:SE C m2 b fb):SE C (jn m1 m2) (.IfExp c a b pos) (ifD fc fa fb):=by
 obtain⟨tc,c1,c2⟩:=hc;obtain⟨t,h1,h2⟩:=ha;obtain⟨u,k1,k2⟩:=hb;refine⟨_,λ i=>aHQ (c1 i) (h1 i) (k1 i),λ τ Z H ρ lab Q R W=>c2 τ Z H ρ lab _ R (W.bd.imp λ k _ w H1 s1=>?_)⟩;cases k with
 |true=>
  rw[if_pos rfl]at w ⊢;exact h2 τ Z H1 ρ lab Q (R.up s1) (w.imp λ z _ w v H' s r=>w v H' (s1.trans s) (r.wk λ p o _ q=>aIS (o6 s1 q)))
 |false=>
  rw[if_neg zAU]at w ⊢;exact k2 τ Z H1 ρ lab Q (R.up s1) (w.imp λ z _ w v H' s r=>w v H' (s1.trans s) (r.wk λ p o _ q=>aIR (o6 s1 q)))
def chD(fd fd':D->D->Rs D)(fa fb fc:En->Rs D):En->Rs D:=λ ρ=>(fa ρ).bd λ x=>(fb ρ).bd λ y=>(okD (fd x y)).bd λ z=>match z with
 | .bl true=>(fc ρ).bd λ w=>okD (fd' y w)
 | .bl false=>.ok (.bl false)
 |_=>.st
def aFD{K:zAA}{G:Gx}{r r':R2}{ta tb tc:TE}{fd fd':D->D->Rs D}{fc:En->Rs D}{m3:Mode}(hs:OpS K r fd)(hs':OpS K r' fd')(hi:∀x y z,fd' x y= .ok z->imm z=true)(h1:iU K G m1 ta fa)(h2:iU K G m2 tb fb)(h3:iU K G m3 tc fc):
  iU K G (some []) (aGQ r r' ta tb tc) (chD fd fd' fa fb fc):=by
 intro τ Z H ρ lab Q R W;refine h1 τ Z H ρ lab _ R (W.bd.imp λ d _ w x H1 s1 r1=>?_);refine h2 τ Z H1 ρ lab _ (R.up s1) (w.bd.imp λ e _ w y H2 s2 r2=>?_);obtain⟨z,ez,w⟩:=w.bd.okD;refine hs (λ _=>True) x y d e H2 _ z (r1.mono s2 λ p o _ q=>trivial) (r2.wk λ p o _ q=>trivial) ez λ v H3 s3 r3=>?_
 cases r3 with
 |bl c=>
  refine⟨c,rfl,?_⟩;cases c with
  |false=>
   rw[if_neg zAU];exact w _ H3 ((s1.trans s2).trans s3) (.bl false)
  |true=>
   rw[if_pos rfl];refine h3 τ Z H3 ρ lab _ ((R.up s1).up (s2.trans s3)) (w.bd.imp λ e' _ w y' H4 s4 r4=>?_);obtain⟨z',ez',w⟩:=w.okD;exact hs' (λ _=>True) y y' e e' H4 Q z' (r2.mono (s3.trans s4) λ p o _ q=>trivial) (r4.wk λ p o _ q=>trivial) ez' λ v H5 s5 r5=>w v H5 ((((s1.trans s2).trans s3).trans s4).trans s5) (r5.imm (hi _ _ _ ez'))
 |_=>exact zAI w
def aBu(ro:∀i,OpR (C.X i) (zAm op) r)(hs:OpS C.K r fd)(ro':∀i,OpR (C.X i) (zAm op') r')(hs':OpS C.K r' fd')(hi:∀x y z,fd' x y= .ok z->imm z=true)
  (ha:SE C m1 a fa)(hb:SE C m2 b fb)(hc:SE C m3 c fc)(hm:zHY [op,op'] [b,c]=false:=by with_unfolding_all rfl):SE C (some []) (.Compare a [op,op'] [b,c] pos) (chD fd fd' fa fb fc):=by
 obtain⟨t,h1,h2⟩:=ha;obtain⟨u,k1,k2⟩:=hb;obtain⟨v,l1,l2⟩:=hc;exact⟨_,λ i=>aHT (ro i) (ro' i) (h1 i) (k1 i) (l1 i) hm,aFD hs hs' hi h2 k2 l2⟩
def aJD:D->Rs Bool
 | .non=>.ok false
 | .bl b=>.ok b
 | .int i=>.ok (i !=0)
 | .tup l=>.ok (!l.isEmpty)
 | .lst l=>.ok (!l.isEmpty)
 |_=>.st
def blD:D->Rs Bool
 | .bl b=>.ok b
 |_=>.st
def tst(f:En->Rs D):En->Rs Bool:=λ ρ=>(f ρ).bd aJD
def tsb(f:En->Rs D):En->Rs Bool:=λ ρ=>(f ρ).bd blD
def yE{K:zAA}{A:Addr->Prop}{H:Hp}{xs:List V}{ds:List D}(r:Rps K A H xs ds):(!ds.isEmpty)= !xs.isEmpty:=by cases r<;>rfl
def fY(ha:SE C m a fa)(he:∀i whole,isTrue a (C.X i).env whole=(do let v <-whole;zEw a.pos;zC5 [v] (truthy v)):=by intro _ _;rfl):ST C a (tst fa):=by
 obtain⟨t,h1,h2⟩:=ha;refine⟨λ Z H Q=>t Z H λ x H'=>∃k,aOE C.K x H' k/\Q k H',λ i=>by rw[<-C.hK i];exact aHC (h1 i) (he i),λ τ Z H ρ lab Q R W=>h2 τ Z H ρ lab _ R (W.bd.imp λ d _ w x H1 s1 r1=>?_)⟩;cases r1 with
 |non=>exact⟨false,rfl,w H1 s1⟩
 |bl b=>exact⟨b,rfl,w H1 s1⟩
 |int i=>exact⟨i !=0,rfl,w H1 s1⟩
 |tup h r=>exact⟨_,.inr (.inl ⟨_,h,rfl⟩),by rw[<-yE r];exact w H1 s1⟩
 |lst h m r=>exact⟨_,.inl ⟨_,SqL.of h,rfl⟩,by rw[<-yE r];exact w H1 s1⟩
 |_=>exact zAI w
def aJQ{K:zAA}{G:Gx}{t:TE}{f:En->Rs D}(h:iU K G m t f):aDr K G (aLP t) (tsb f):=λ τ Z H ρ lab Q R W=>h τ Z H ρ lab _ R (W.bd.imp λ d _ w x H1 s1 r1=>by
 cases r1 with
 |bl b=>exact⟨b,rfl,w H1 s1⟩
 |_=>exact zAI w)
def mW(ro:∀i,OpR (C.X i) (zAm op) r)(hs:OpS C.K r fd)(ha:SE C m1 a fa)(hb:SE C m2 b fb)(hm:zBk op b=false:=by first|exact aH9 _|(with_unfolding_all rfl)):
  ST C (.Compare a [op] [b] pos) (tsb (op2 fd fa fb)):=by
 obtain⟨t,h1,h2⟩:=ha;obtain⟨u,k1,k2⟩:=hb;exact⟨_,λ i=>aJk (ro i) (h1 i) (k1 i) hm,aJQ (aAl hs h2 k2)⟩
variable{ga gb:En->Rs Bool}
def aB9(f g:En->Rs Bool):En->Rs Bool:=λ ρ=>(f ρ).bd λ k=>if k=true then g ρ else .ok false
def orT(f g:En->Rs Bool):En->Rs Bool:=λ ρ=>(f ρ).bd λ k=>if k=true then .ok true else g ρ
def jQ(f:En->Rs Bool):En->Rs Bool:=λ ρ=>(f ρ).bd λ k=>.ok (!k)
def rE(ha:ST C a ga):SW C (.BoolOp .And [a] pos) ga:=let⟨t,h1,h2⟩:=ha;⟨t,λ i=>aJe (h1 i),h2⟩
def oJ(ha:ST C a ga):SW C (.BoolOp .Or [a] pos) ga:=let⟨t,h1,h2⟩:=ha;⟨t,λ i=>aGz (h1 i),h2⟩
def wN(ha:ST C a ga)(hb:SW C (.BoolOp .And (b::rest) pos) gb):SW C (.BoolOp .And (a::b::rest) pos) (aB9 ga gb):=by
 obtain⟨t,h1,h2⟩:=ha;obtain⟨u,k1,k2⟩:=hb;refine⟨_,λ i=>aM6 (h1 i) (k1 i),λ τ Z H ρ lab Q R W=>h2 τ Z H ρ lab _ R (W.bd.imp λ k _ w H1 s1=>?_)⟩;cases k with
 |true=>
  rw[if_pos rfl]at w ⊢;exact k2 τ Z H1 ρ lab Q (R.up s1) (w.imp λ z _ w H' s=>w H' (s1.trans s))
 |false=>
  rw[if_neg zAU]at w ⊢;exact w H1 s1
def vC(ha:ST C a ga)(hb:SW C (.BoolOp .Or (b::rest) pos) gb):SW C (.BoolOp .Or (a::b::rest) pos) (orT ga gb):=by
 obtain⟨t,h1,h2⟩:=ha;obtain⟨u,k1,k2⟩:=hb;refine⟨_,λ i=>aLa (h1 i) (k1 i),λ τ Z H ρ lab Q R W=>h2 τ Z H ρ lab _ R (W.bd.imp λ k _ w H1 s1=>?_)⟩;cases k with
 |false=>
  rw[if_neg zAU]at w ⊢;exact k2 τ Z H1 ρ lab Q (R.up s1) (w.imp λ z _ w H' s=>w H' (s1.trans s))
 |true=>
  rw[if_pos rfl]at w ⊢;exact w H1 s1
def fZ(ha:ST C a ga):ST C (.UnaryOp .Not a pos) (jQ ga):=by
 obtain⟨t,h1,h2⟩:=ha;exact⟨_,λ i=>aM9 (h1 i),λ τ Z H ρ lab Q R W=>h2 τ Z H ρ lab _ R (W.bd.imp λ k _ w H1 s1=>w H1 s1)⟩
end
inductive Ou where
 |nx (ρ:En)|rt (d:D)|bk (ρ:En)|ct (ρ:En)|ex (c:Str)|st
noncomputable def Rs.bo{α:Type}:Rs α->(α->Ou)->Ou
 | .ok a,f=>f a
 | .ex c,_=>.ex c
 | .st,_=>.st
@[simp] def bK(a:α)(f:α->Ou):(Rs.ok a).bo f=f a:=aQ rfl
@[simp] def bo_ex(c:Str)(f:α->Ou):(Rs.ex c:Rs α).bo f= .ex c:=aQ rfl
noncomputable def Ou.sq:Ou->(En->Ou)->Ou
 | .nx ρ,f=>f ρ
 |o,_=>o
@[simp] def aq(ρ:En)(f:En->Ou):(Ou.nx ρ).sq f=f ρ:=aQ rfl
@[simp] def sq_rt(d:D)(f:En->Ou):(Ou.rt d).sq f= .rt d:=aQ rfl
@[simp] def sq_ex(c:Str)(f:En->Ou):(Ou.ex c).sq f= .ex c:=aQ rfl
def WS(K:zAA)(G:Gx)(τ:List (V×D))(o:Ou)(De:Ends):Prop:=match o with
 | .nx ρ=>∀Z H lab,RR K G τ ρ Z H lab->De.nx Z H
 | .bk ρ=>∀Z H lab,RR K G τ ρ Z H lab->De.bk Z H
 | .ct ρ=>∀Z H lab,RR K G τ ρ Z H lab->De.ct Z H
 | .rt d=>∀v H,aY G.H0 H->Rp K (λ p=>G.H0 p=none) H v d->De.rt v H
 | .ex c=>∀H',aY G.H0 H'->G.E (.ref (G.cl c)) none H'
 | .st=>False
theorem WS.bo{K:zAA}(h:WS K G τ (r.bo k) De):WR G r (λ a=>WS K G τ (k a) De):=by
 cases r with
 |ok a=>exact h
 |ex c=>exact h
 |st=>exact h
def aPP(K:zAA)(G:Gx)(t:TS)(f:En->Ou):Prop:=∀τ Z H ρ lab (De:Ends),RR K G τ ρ Z H lab->WS K G τ (f ρ) De->t De Z H
def SS(C:Ct)(s:Stmt)(f:En->Ou):Prop:=∃t,(∀i,PS (C.X i) s t)/\aPP C.K C.G t f
def SSs(C:Ct)(s:List Stmt)(f:En->Ou):Prop:=∃t,(∀i,PSs (C.X i) s t)/\aPP C.K C.G t f
section
variable{C:Ct}{pos:Pos}{s:Stmt}{ss:List Stmt}{f g:En->Ou}{e:Expr}{m:Mode}{fe:En->Rs D}
def cA:SSs C [] .nx:=⟨_,λ _=>aAy,λ τ Z H ρ lab De R W=>W Z H lab R⟩
def az(f g:En->Ou):En->Ou:=λ ρ=>(f ρ).sq g
def aM(h:SS C s f):SSs C [s] f:=let⟨t,h1,h2⟩:=h;⟨t,λ i=>aET (h1 i),h2⟩
def aK(h:SS C s f)(k:SSs C ss g):SSs C (s::ss) (az f g):=by
 obtain⟨t,h1,h2⟩:=h;obtain⟨u,k1,k2⟩:=k;refine⟨_,λ i=>aCI (h1 i) (k1 i),λ τ Z H ρ lab De R W=>h2 τ Z H ρ lab _ R ?_⟩;unfold az at W;cases h:f ρ with
 |nx ρ'=>rw[h]at W;exact λ Z' H' lab' R'=>k2 τ Z' H' ρ' lab' De R' W
 |rt d=>rw[h]at W;exact W
 |bk ρ'=>rw[h]at W;exact W
 |ct ρ'=>rw[h]at W;exact W
 |ex c=>rw[h]at W;exact W
 |st=>rw[h]at W;exact W
def frz(i:Nat)(ρ:En):En:=match ρ[i]? with
 |some (.ow d)=>ρ.set i (.nw d)
 |some (.o2 l)=>ρ.set i (.nw (.lst (l.map .lst)))
 |_=>ρ
def aOq:Mode->Bool
 |some L=>L.all (·!=0)
 |none=>false
def retS(fe:En->Rs D):En->Ou:=λ ρ=>(fe ρ).bo .rt
def aa(he:SE C m e fe)(hm:aOq m=true:=by rfl):SS C (.Return (some e) pos) (retS fe):=by
 obtain⟨t,h1,h2⟩:=he;refine⟨_,λ i=>aHF (h1 i),λ τ Z H ρ lab De R W=>h2 τ Z H ρ lab _ R (W.bo.imp λ d _ w v H' s r=>w v H' (R.old.trans s) (r.wk λ p o _ z=>?_))⟩;rcases z with z|z
 .exact R.old.free z
 .cases m with
  |none=>cases hm
  |some L=>
   refine R.new p λ e0=>?_
   have:=zAl.mp hm _ z
   rw[e0]at this;simp at this
def lE(fe:En->Rs D):En->Ou:=λ ρ=>(fe ρ).bo λ _=>.nx ρ
def jL(he:SE C m e fe)(hs:∀i,zBv e none pos.line (C.X i).env=pure false:=by intro _;rfl):SS C (.Expr e pos) (lE fe):=by
 obtain⟨t,h1,h2⟩:=he;exact⟨_,λ i=>nG (h1 i) (hs i),λ τ Z H ρ lab De R W=>h2 τ Z H ρ lab _ R (W.bo.imp λ d _ w v H' s r=>w Z H' lab (R.up s))⟩
def ifS(c:En->Rs Bool)(f g:En->Ou):En->Ou:=λ ρ=>(c ρ).bo λ k=>if k=true then f ρ else g ρ
def gF{a b:List Stmt}(hc:ST C c fc)(ha:SSs C a f)(hb:SSs C b g):SS C (.If c a b pos) (ifS fc f g):=by
 obtain⟨tc,c1,c2⟩:=hc;obtain⟨t,h1,h2⟩:=ha;obtain⟨u,k1,k2⟩:=hb;refine⟨_,λ i=>aHH (c1 i) (h1 i) (k1 i),λ τ Z H ρ lab De R W=>c2 τ Z H ρ lab _ R (W.bo.imp λ k _ w H1 s1=>?_)⟩;cases k with
 |true=>rw[if_pos rfl]at w ⊢;exact h2 τ Z H1 ρ lab De (R.up s1) w
 |false=>rw[if_neg zAU]at w ⊢;exact k2 τ Z H1 ρ lab De (R.up s1) w
def SV(C:Ct)(i:Nat)(s:Stmt)(m:Mode)(f:En->Rs D):Prop:=∃t,(∀j,PS (C.X j) s (aEx t (vK i)))/\iU C.K C.G m t f
def gm(he:SE C m e fe)(hN:∀j,(C.X j).N[i]? =some x:=by intro _;rfl)(hx:∀j,Loc (C.X j).env.scope x:=by intro _;first|exact zB0 rfl|exact zAx rfl)(hs:∀j,zBv e (some (.Name x pos')) pos.line (C.X j).env=pure false:=by intro _;rfl)(hf:∀j,(C.X j).fn x=true\/(C.X j).env.scope.names.lookup x=some .local:=by intro _;first|exact .inl rfl|exact .inr rfl)(nd:∀j,(C.X j).N.Nodup:=by intro _;assumption):
  SV C i (.Assign [.Name x pos'] e pos) m fe:=by
 obtain⟨t,h1,h2⟩:=he;exact⟨t,λ j=>aHE (nd j) (hN j) (hx j) (h1 j) (hs j) (hf j),h2⟩
def SVF(C:Ct)(i:Nat)(s:Stmt)(m:Mode)(f:En->Rs D):Prop:=∃t,(∀j,PS (C.X j) s (aEx t (vK i)))/\aOG C.K C.G m t f
def vD(he:SF C m e fe)(hN:∀j,(C.X j).N[i]? =some x:=by intro _;rfl)(hx:∀j,Loc (C.X j).env.scope x:=by intro _;first|exact zB0 rfl|exact zAx rfl)(hs:∀j,zBv e (some (.Name x pos')) pos.line (C.X j).env=pure false:=by intro _;rfl)(hf:∀j,(C.X j).fn x=true\/(C.X j).env.scope.names.lookup x=some .local:=by intro _;first|exact .inl rfl|exact .inr rfl)(nd:∀j,(C.X j).N.Nodup:=by intro _;assumption):
  SVF C i (.Assign [.Name x pos'] e pos) m fe:=by
 obtain⟨t,h1,h2⟩:=he;exact⟨t,λ j=>aHE (nd j) (hN j) (hx j) (h1 j) (hs j) (hf j),h2⟩
def aOV(h:SV C i s (some []) fe):SVF C i s (some []) fe:=let⟨t,h1,h2⟩:=h;⟨t,h1,h2.toF⟩
def aEY(P:Nat->Bool):Mode->Bool
 |some L=>L.all P
 |none=>false
def jP(h:aEY P m=true):∀k,inM m k->P k=true:=by
 intro k hk;cases m with
 |none=>cases h
 |some L=>exact zAl.mp h k hk
abbrev okS:Mode->Bool:=aEY λ k=>decide (k<=1)
abbrev okN:Mode->Bool:=aEY λ k=>k==1
abbrev okO(i:Nat):Mode->Bool:=aEY λ k=>k==1||k==i+2
def cN(i:Nat)(fe:En->Rs D):En->Ou:=λ ρ=>(fe ρ).bo λ d=>.nx (ρ.set i (.sh d))
def aFG(i:Nat)(fe:En->Rs D):En->Ou:=λ ρ=>(fe ρ).bo λ d=>.nx (ρ.set i (.nw d))
def lF(i:Nat)(fe:En->Rs D):En->Ou:=λ ρ=>(fe ρ).bo λ d=>.nx (ρ.set i (.ow d))
def RR.shared{K:zAA}(hm:okS m=true)(R:RR K G τ ρ Z H lab)(s:aY H H')(r:Rp K (fpM m lab H) H' v d):
  RR K G τ ρ Z H' (bJ H 1 lab)/\Rp K (λ p=>(bJ H 1 lab p).1<=1) H' v d:=R.fresh (P:=λ k=>k<=1) (by decide) (λ k hk=>of_decide_eq_true (jP hm k hk)) s r
def bN{i:Nat}(h:SV C i s m fe)(hm:okS m=true:=by rfl):SS C s (cN i fe):=by
 obtain⟨t,h1,h2⟩:=h;refine⟨_,h1,λ τ Z H ρ lab De R W=>h2 τ Z H ρ lab _ R (W.bo.imp λ d _ w v H' s r=>?_)⟩;obtain⟨R',r'⟩:=R.shared hm s r;exact w _ _ _ (R'.put (s:=.sh d) r')
def aEA(h:SV C i s m fe)(hm:okN m=true:=by rfl):SS C s (aFG i fe):=by
 obtain⟨t,h1,h2⟩:=h;refine⟨_,h1,λ τ Z H ρ lab De R W=>h2 τ Z H ρ lab _ R (W.bo.imp λ d _ w v H' s r=>?_)⟩;obtain⟨R',r'⟩:=R.fresh (P:=λ k=>k=1) rfl (λ k hk=>beq_iff_eq.mp (jP hm k hk)) s r;exact w _ _ _ (R'.put (s:=.nw d) r')
def jK(h:SVF C i s m fe)(hm:okO i m=true:=by rfl):SS C s (lF i fe):=by
 obtain⟨t,h1,h2⟩:=h;refine⟨_,h1,λ τ Z H ρ lab De R W=>h2 τ Z H ρ lab _ R (W.bo.imp λ d _ w v H' s r ht=>?_)⟩;obtain⟨lab',R',r'⟩:=R.freshO i (λ k hk=>by have:=jP hm k hk;simpa using this) s r ht;exact w _ _ _ (R'.put (s:=.ow d) r')
def aLE(K:zAA)(G:Gx)(g:TG)(fg:D->En->Rs En):Prop:=∀τ v d Z H ρ lab (Q:L2.St->Hp->Prop) ρ',RR K G τ ρ Z H lab->Rp K (λ p=>(lab p).1<=1) H v d->fg d ρ= .ok ρ'->(∀Z',RR K G τ ρ' Z' H lab->Q Z' H)->g v Z H Q
def aPR(K:zAA)(G:Gx)(g:TGs)(fg:List D->En->Rs En):Prop:=∀τ vs ds Z H ρ lab (Q:L2.St->Hp->Prop) ρ',RR K G τ ρ Z H lab->Rps K (λ p=>(lab p).1<=1) H vs ds->fg ds ρ= .ok ρ'->(∀Z',RR K G τ ρ' Z' H lab->Q Z' H)->g vs Z H Q
def SG(C:Ct)(tg:Expr)(ks:List Nat)(fg:D->En->Rs En):Prop:=∃g,(∀i,PG (C.X i) tg g)/\aLE C.K C.G g fg/\uF g ks/\aCt g
def SGs(C:Ct)(tg:List Expr)(ks:List Nat)(fg:List D->En->Rs En):Prop:=∃g,(∀i,PGs (C.X i) tg g)/\aPR C.K C.G g fg/\yp g ks/\uy g
def gnm(i:Nat):D->En->Rs En:=λ d ρ=>.ok (ρ.set i (.sh d))
def iG:List D->En->Rs En:=λ ds ρ=>match ds with
 |[]=>.ok ρ
 |_=>.st
def bD(f:D->En->Rs En)(g:List D->En->Rs En):List D->En->Rs En:=λ ds ρ=>match ds with
 |d::r=>(f d ρ).bd (g r)
 |_=>.st
def gj(n:Nat)(g:List D->En->Rs En):D->En->Rs En:=λ d ρ=>match d with
 | .tup ds=>if ds.length=n then g ds ρ else .st
 |_=>.st
variable{ks:List Nat}{fg:D->En->Rs En}{fgs:List D->En->Rs En}{tg:Expr}{tgs:List Expr}
def bR(hN:∀j,(C.X j).N[i]? =some x:=by intro _;rfl)(hx:∀j,Loc (C.X j).env.scope x:=by intro _;first|exact zB0 rfl|exact zAx rfl)(hf:∀j,(C.X j).fn x=true\/(C.X j).env.scope.names.lookup x=some .local:=by intro _;first|exact .inl rfl|exact .inr rfl)(nd:∀j,(C.X j).N.Nodup:=by intro _;assumption)(hk:i∈ks:=by decide):SG C (.Name x pos) ks (gnm i):=
 ⟨_,λ j=>aJt (nd j) (hN j) (hx j) (hf j),λ τ v d Z H ρ lab Q ρ' R r e q=>by cases e;exact q _ (R.put (s:=.sh d) r),aKj hk,aKl⟩
def jM:SGs C [] ks iG:=by
 refine⟨_,λ _=>aJs,λ τ vs ds Z H ρ lab Q ρ' R r e q=>?_,aKi,aKk⟩;cases r with
 |nil=>cases e;exact⟨rfl,q _ R⟩
 |cons _ _=>cases e
def bf(h:SG C tg ks fg)(k:SGs C tgs ks fgs)(hs:∀i,(zCd (tg::tgs) (C.X i).env).map (·.2)=zEX tg (C.X i).env::(zCd tgs (C.X i).env).map (·.2):=by intro _;rfl):SGs C (tg::tgs) ks (bD fg fgs):=by
 obtain⟨g,h1,h2,h3,h4⟩:=h;obtain⟨u,k1,k2,k3,k4⟩:=k;refine⟨_,λ i=>aHN (h1 i) (k1 i) (hs i),λ τ vs ds Z H ρ lab Q ρ' R r e q=>?_,aIH h3 h4 k3 k4,aIK h4 k4⟩;cases r with
 |nil=>cases e
 |cons h r=>
  obtain⟨ρ1,e1,e2⟩:=dD e;exact⟨_,_,rfl,h2 τ _ _ Z H ρ lab _ ρ1 R h e1 λ Z1 R1=>k2 τ _ _ Z1 H ρ1 lab Q ρ' R1 r e2 q⟩
def mZ(h:SGs C tgs ks fgs)(hn:∀i,(zCd tgs (C.X i).env).length=n:=by intro _;rfl)(hst:∀i,(zCd tgs (C.X i).env).findIdx? (·.1)=none:=by intro _;rfl):SG C (.Tuple tgs k pos) ks (gj n fgs):=by
 obtain⟨u,k1,k2,k3,k4⟩:=h;refine⟨aKm C.K n u,λ i=>by rw[<-C.hK i];exact aMf (C.calm i) (k1 i) (hn i) (hst i),λ τ v d Z H ρ lab Q ρ' R r e q=>?_,aII k3,aNi k4⟩;cases r with
 |tup h r=>
  unfold gj at e;dsimp only at e;split at e
  .rename_i hl
   exact⟨_,_,rfl,h,by rw[r.length];exact hl,k2 τ _ _ Z H ρ lab Q ρ' R r e q⟩
  .cases e
 |_=>cases e
def JL(K:zAA)(lab:Lab)(J:It)(H:Hp)(ds:List D):Prop:=∀i,(ds.length<=i->J.stop i H)/\(i<ds.length->J.go i H/\∀x H',J.yld i H x H'->aY H H'/\∃d,ds[i]? =some d/\Rp K (λ p=>(lab p).1<=1) H' x d)
def aLD(K:zAA)(G:Gx)(wi:TI)(f:En->Rs (List D)):Prop:=∀τ Z H ρ lab (Rr:It->Hp->Prop),RR K G τ ρ Z H lab->
 WR G (f ρ) (λ ds=>∀J H1 lab1 τ1,aY H H1->(∀p o,H p=some o->lab1 p=lab p)->RR K G (τ1++τ) ρ Z H1 lab1->(∀lab' H',(∀q∈τ1,Rp K (λ p=>(lab' p).1<=1) H' q.1 q.2)->JL K lab' J H' ds)->Rr J H1)->wi Z H Rr
def SI(C:Ct)(tg iter:Expr)(f:En->Rs (List D)):Prop:=∃wi,(∀i,PI (C.X i) tg iter wi)/\aLD C.K C.G wi f
def aOz(K:zAA)(tl:TE):TI:=λ Z H R=>tl Z H λ x H1=>∃a,x= .ref a/\(((∃xs,SqL K H1 a xs)/\R (Itl K a) H1)\/((∃xs,SqT K H1 a xs)/\R (Itt K a) H1))
def aMe(hl:PE X l tl):PI X tg l (aOz X.K tl):=by
 intro iX s Z H R I h;refine thn (hl iX s Z H _ I h) λ v s1 ⟨x,H1,I1,r1,a,e,q1⟩=>?_
 subst e;cases r1;have hp:∀b∈[s1.heap.objs.size],uG X iX H1 b:=λ b hb=>by
  have e:b=s1.heap.objs.size:=by simpa using hb
  rw[e];exact I1.fpOk (zAV _) (I1.hok.fresh (zAV _))
 rcases q1 with ⟨⟨xs,hq⟩,q⟩|⟨⟨xs,hq⟩,q⟩
 .obtain⟨its,rv,p,hz⟩:=I1.list hq
  refine zFa p.isList ?_;exact⟨_,_,_,_,H1,rfl,I1.kept (t':=s1.toks) λ b o e=>zAC _ e,aEv a _,⟨_,zAN _ rfl,rfl,rfl⟩,hp,q⟩
 .obtain⟨its,rv,p,hz⟩:=I1.tuple hq
  refine zHq (show s1.heap.IsTuple a its.toArray from p) ?_;exact⟨_,_,_,_,H1,rfl,I1.kept (t':=s1.toks) λ b o e=>zAC _ e,aCw a _,⟨_,zAN _ rfl,rfl,rfl⟩,hp,q⟩
def itD:D->Rs (List D)
 | .tup l=>.ok l
 | .lst l=>.ok l
 | .scr l=>.ok (l.map .int)
 |_=>.st
def cg(fe:En->Rs D):En->Rs (List D):=λ ρ=>(fe ρ).bd itD
def aE7{K:zAA}(h:SqL K H a xs)(r:Rps K (λ p=>(lab p).1<=1) H xs ds):JL K lab (Itl K a) H ds:=by
 have hl:=r.length;refine λ i=>⟨λ hi=>⟨xs,h,by lia⟩,λ hi=>⟨⟨xs,xs[i]'(by lia),h,by simp[hl,hi]⟩,λ x H' y=>?_⟩⟩
 obtain⟨e,y⟩:=y;subst e;obtain⟨d,h1,h2⟩:=r.get (y xs h);exact⟨aY.refl _,d,h1,h2⟩
def aN7{K:zAA}(h:SqT K H a xs)(r:Rps K (λ p=>(lab p).1<=1) H xs ds):JL K lab (Itt K a) H ds:=by
 have hl:=r.length;refine λ i=>⟨λ hi=>⟨xs,h,by lia⟩,λ hi=>⟨⟨xs,xs[i]'(by lia),h,by simp[hl,hi]⟩,λ x H' y=>?_⟩⟩
 obtain⟨e,y⟩:=y;subst e;obtain⟨d,h1,h2⟩:=r.get (y xs h);exact⟨aY.refl _,d,h1,h2⟩
def fD(he:SE C m e fe)(hm:okS m=true:=by rfl):SI C tg e (cg fe):=by
 obtain⟨t,p1,p2⟩:=he;refine⟨aOz C.K t,λ i=>by rw[<-C.hK i];exact aMe (p1 i),λ τ Z H ρ lab Rr R W=>p2 τ Z H ρ lab _ R (W.bd.imp λ d _ w v H1 s r=>?_)⟩;obtain⟨R',r'⟩:=R.shared hm s r;cases d with
 |tup l=>
  cases r' with
  |tup h q=>
   rename_i a xs;refine⟨_,rfl,.inr ⟨⟨_,h⟩,w _ H1 _ [(.ref a,.tup l)] s (λ p o e=>bA e) ⟨R'.len,R'.sl,R'.old,R'.new,λ z hz=>?_⟩ λ lab' H' hq=>?_⟩⟩
   .rcases zA1.mp hz with rfl|hz
    .exact .tup h q
    .exact R'.tm z hz
   .have z:=hq _ (zAJ ..)
    cases z with
    |tup h' q'=>exact aN7 h' q'
 |lst l=>
  cases r' with
  |lst h mm q=>
   rename_i a xs;refine⟨_,rfl,.inl ⟨⟨_,SqL.of h⟩,w _ H1 _ [(.ref a,.lst l)] s (λ p o e=>bA e) ⟨R'.len,R'.sl,R'.old,R'.new,λ z hz=>?_⟩ λ lab' H' hq=>?_⟩⟩
   .rcases zA1.mp hz with rfl|hz
    .exact .lst h mm q
    .exact R'.tm z hz
   .have z:=hq _ (zAJ ..)
    cases z with
    |lst h' _ q'=>exact aE7 (SqL.of h') (q'.wk λ _ _ _ z=>z.1)
 |scr l=>
  cases r' with
  |scr h=>
   rename_i a;refine⟨_,rfl,.inl ⟨⟨_,h.sq⟩,w _ H1 _ [(.ref a,.scr l)] s (λ p o e=>bA e) ⟨R'.len,R'.sl,R'.old,R'.new,λ z hz=>?_⟩ λ lab' H' hq=>?_⟩⟩
   .rcases zA1.mp hz with rfl|hz
    .exact .scr h
    .exact R'.tm z hz
   .have z:=hq _ (zAJ ..)
    cases z with
    |scr h'=>exact aE7 h'.sq Rps.ints
 |_=>exact zAI w
end
section
variable{C:Ct}{pos:Pos}{s:Stmt}{ss:List Stmt}{f:En->Ou}{e a b:Expr}{es:List Expr}{m:Mode}{fa:En->Rs D}{ks:List Nat}{fg:D->En->Rs En}{tg:Expr}{fi:En->Rs (List D)}{ga:En->Rs (List D)}
def cJ(lo hi:Int):List D:=(zAw (hi-lo).toNat).map λ(k:Nat)=>.int (lo+(k:Int))
def gO:List D->Rs (List D)
 |[.int j]=>if -(2^62)<=j/\j<2^62 then .ok (cJ 0 j)else .st
 |_=>.st
def aAt:List D->Rs (List D)
 |[.int i,.int j]=>if (-(2^62)<=i/\i<2^62)/\(-(2^62)<=j/\j<2^62)then .ok (cJ i j)else .st
 |_=>.st
def dj(r:List D->Rs (List D))(ga:En->Rs (List D)):En->Rs (List D):=λ ρ=>(ga ρ).bd r
def aHs{K:zAA}{lo hi:Int}:JL K lab (Itr lo (hi-lo).toNat) H (cJ lo hi):=by
 have hl:(cJ lo hi).length=(hi-lo).toNat:=by unfold cJ;simp
 refine λ i=>⟨λ h=>by show(hi-lo).toNat<=i;lia,λ h=>⟨by show i<(hi-lo).toNat;lia,λ x H' y=>?_⟩⟩
 obtain⟨e,rfl⟩:=y;subst e;refine⟨aY.refl _,.int (lo+i),?_,.int _⟩;unfold cJ;rw[zAP,zCf (by lia)];rfl
def di(ha:SA C m [a] ga)(hm:C.mg "range"=none)(hs:∀i,zAT [a] (C.X i).env=[(false,eval a (C.X i).env)]:=by intro _;rfl)(hg:∀i,Gl (C.X i) "range":=by intro _;rfl):SI C tg (.Call (.Name "range" p) [a] [] pos) (dj gO ga):=by
 obtain⟨t,h1,h2⟩:=ha;refine⟨_,λ i=>aFU (hg i) (by rw[(C.cx i).2.2.2.1];exact hm) (h1 i) (hs i),λ τ Z H ρ lab Rr R W=>h2 τ Z H ρ lab _ R (W.bd.imp λ ds _ w vs H1 s r=>?_)⟩;unfold gO at w;split at w
 .rename_i j _
  split at w
  .rename_i hj
   cases r with
   |cons h r=>
    cases h;cases r;refine⟨j,rfl,hj.1,hj.2,?_⟩;have z:=w (Itr 0 (j-0).toNat) H1 lab [] s (λ _ _ _=>rfl) (R.up s) λ lab' H' _=>aHs
    rwa [Int.sub_zero]at z
  .exact zAI w
 .exact zAI w
def aED(ha:SA C m [a,b] ga)(hm:C.mg "range"=none)(hs:∀i,zAT [a,b] (C.X i).env=[(false,eval a (C.X i).env),(false,eval b (C.X i).env)]:=by intro _;rfl)(hs2:∀i,zAT [b] (C.X i).env=[(false,eval b (C.X i).env)]:=by intro _;rfl)(hg:∀i,Gl (C.X i) "range":=by intro _;rfl):SI C tg (.Call (.Name "range" p) [a,b] [] pos) (dj aAt ga):=by
 obtain⟨t,h1,h2⟩:=ha;refine⟨_,λ i=>aFT (hg i) (by rw[(C.cx i).2.2.2.1];exact hm) (h1 i) (hs i) (hs2 i),λ τ Z H ρ lab Rr R W=>h2 τ Z H ρ lab _ R (W.bd.imp λ ds _ w vs H1 s r=>?_)⟩;unfold aAt at w;split at w
 .rename_i i j _
  split at w
  .rename_i hj
   cases r with
   |cons h r=>
    cases h;cases r with
    |cons h r=>
     cases h;cases r;exact⟨i,j,rfl,⟨hj.1.1,hj.1.2,hj.2.1,hj.2.2⟩,w (Itr i (j-i).toNat) H1 lab [] s (λ _ _ _=>rfl) (R.up s) λ lab' H' _=>aHs⟩
  .exact zAI w
 .exact zAI w
def forL(fg:D->En->Rs En)(b:En->Ou):List D->En->Ou
 |[],ρ=>.nx ρ
 |d::ds,ρ=>match fg d ρ with
  | .ok ρ1=>match b ρ1 with
   | .nx ρ2=>forL fg b ds ρ2
   | .ct ρ2=>forL fg b ds ρ2
   | .bk ρ2=>.nx ρ2
   |o=>o
  |_=>.st
def kO(fi:En->Rs (List D))(fg:D->En->Rs En)(b:En->Ou):En->Ou:=λ ρ=>(fi ρ).bo λ ds=>forL fg b ds ρ
def dX(hi:SI C tg e fi)(hg:SG C tg ks fg)(hb:SSs C ss f)(hs:∀i,∀x,zBV e (C.X i).env x=pure x:=by intro _ _;rfl):SS C (.For tg e ss [] pos) (kO fi fg f):=by
 obtain⟨wi,i1,i2⟩:=hi;obtain⟨gg,g1,g2,_,g4⟩:=hg;obtain⟨tb,b1,b2⟩:=hb;refine⟨_,λ i=>aHI (C.own i) (C.calm i) (i1 i) (g1 i) (b1 i) (hs i),λ τ Z H ρ lab De R W=>i2 τ Z H ρ lab _ R (W.bo.imp λ ds _ w J H1 lab1 τ1 s1 _ R1 jl=>?_)⟩;refine⟨λ i n Z' H'=>∃ρ' lab',RR C.K C.G (τ1++τ) ρ' Z' H' lab'/\n=ds.length-i/\i<=ds.length/\WS C.K C.G τ (forL fg f (ds.drop i) ρ') De,⟨ds.length,ρ,lab1,R1,by lia,by lia,w⟩,?_⟩;rintro i n Z' H' ⟨ρ',lab',R',rfl,hi,w'⟩;have jj:=jl lab' H' λ q hq=>R'.tm q (zA5 _ hq)
 by_cases hlt:i<ds.length
 .obtain⟨go,yl⟩:=(jj i).2 hlt
  refine .inr ⟨go,λ Z2 H2=>∃ρ2 lab2,RR C.K C.G (τ1++τ) ρ2 Z2 H2 lab2/\WS C.K C.G τ (forL fg f (ds.drop (i+1)) ρ2) De,λ Z2 H2 ⟨ρ2,lab2,R2,w2⟩=>⟨ds.length-(i+1),by lia,ρ2,lab2,R2,rfl,hlt,w2⟩,λ x H2 hy=>?_⟩;obtain⟨s2,d,ed,rx⟩:=yl x H2 hy;replace R':=R'.up s2;have ed2:ds.drop i=d::ds.drop (i+1):=by
   rw[zC8 hlt]
   have:=zAE hlt
   rw[ed]at this;cases this;rfl
  rw[ed2]at w';unfold forL at w';cases eg:fg d ρ' with
  |ex c=>rw[eg]at w';exact zAI w'
  |st=>rw[eg]at w';exact zAI w'
  |ok ρ1=>
   rw[eg]at w';refine g2 (τ1++τ) x d Z' H2 ρ' lab' _ ρ1 R' rx eg λ Z1 R1'=>b2 (τ1++τ) Z1 H2 ρ1 lab' _ R1' ?_
   dsimp only at w';cases eb:f ρ1 with
   |nx ρ2=>rw[eb]at w';exact λ Z2 H3 lab2 R2=>⟨ρ2,lab2,R2,w'⟩
   |ct ρ2=>rw[eb]at w';exact λ Z2 H3 lab2 R2=>⟨ρ2,lab2,R2,w'⟩
   |bk ρ2=>rw[eb]at w';exact λ Z2 H3 lab2 R2=>w' Z2 H3 lab2 R2.drop
   |rt d=>rw[eb]at w';exact w'
   |ex c=>rw[eb]at w';exact w'
   |st=>rw[eb]at w';exact w'
 .have e:i=ds.length:=by lia
  subst e;rw[zEA]at w';exact .inl ⟨(jj _).1 (zAV _),w' Z' H' lab' R'.drop⟩
def itW(c:En->Rs Bool)(b:En->Ou):Nat->En->Ou
 |0,_=>.st
 |n+1,ρ=>(c ρ).bo λ k=>if k=true then(match b ρ with
   | .nx ρ2=>itW c b n ρ2
   | .ct ρ2=>itW c b n ρ2
   | .bk ρ2=>.nx ρ2
   |o=>o)else .nx ρ
def fuel:Nat:=1000000
def uJ(c:En->Rs Bool)(b:En->Ou):En->Ou:=itW c b fuel
def aBo(hc:ST C c fc)(hb:SSs C ss f):SS C (.While c ss [] pos) (uJ fc f):=by
 obtain⟨tc,c1,c2⟩:=hc;obtain⟨tb,b1,b2⟩:=hb;refine⟨_,λ i=>aHD (C.own i) (c1 i) (b1 i),λ τ Z H ρ lab De R W=>?_⟩;refine⟨λ n Z' H'=>∃ρ' lab',RR C.K C.G τ ρ' Z' H' lab'/\WS C.K C.G τ (itW fc f n ρ') De,⟨fuel,ρ,lab,R,W⟩,?_⟩;rintro n Z' H' ⟨ρ',lab',R',w'⟩;cases n with
 |zero=>exact zAI w'
 |succ n=>
  refine c2 τ Z' H' ρ' lab' _ R' (WS.bo (show WS C.K C.G τ ((fc ρ').bo _) De from w') |>.imp λ k _ w H1 s1=>?_);cases k with
  |false=>
   rw[if_neg zAU]at w ⊢;exact w Z' H1 lab' (R'.up s1)
  |true=>
   rw[if_pos rfl]at w ⊢;refine⟨λ Z2 H2=>∃ρ2 lab2,RR C.K C.G τ ρ2 Z2 H2 lab2/\WS C.K C.G τ (itW fc f n ρ2) De,λ Z2 H2 ⟨ρ2,lab2,R2,w2⟩=>⟨n,zBZ n,ρ2,lab2,R2,w2⟩,?_⟩;refine b2 τ Z' H1 ρ' lab' _ (R'.up s1) ?_;cases eb:f ρ' with
   |nx ρ2=>rw[eb]at w;exact λ Z2 H3 lab2 R2=>⟨ρ2,lab2,R2,w⟩
   |ct ρ2=>rw[eb]at w;exact λ Z2 H3 lab2 R2=>⟨ρ2,lab2,R2,w⟩
   |bk ρ2=>rw[eb]at w;exact w
   |rt d=>rw[eb]at w;exact w
   |ex c=>rw[eb]at w;exact w
   |st=>rw[eb]at w;exact w
def uX(x:Str)(ga:En->Rs (List D)):En->Ou:=λ ρ=>(ga ρ).bo λ ds=>if ds.length<=zAO then .ex x else .st
def wR{rest:List Expr}(hd:C.dOk=true)(hm:C.mg x=some (.ref Ca))(hcl:C.G.cl x=Ca)(hC:oG C.K Ca)(ha:SA C m (yT::rest) ga)(he:∀i,zAT (yT::rest) (C.X i).env=(false,eval yT (C.X i).env)::zAT rest (C.X i).env:=by intro _;rfl)(hplain:∀i,(zBu cpos (zAT rest (C.X i).env)).any (·.1)=false:=by intro _;rfl)(hdb:Nd x:=by decide)(hg:∀i,Gl (C.X i) x:=by intro _;rfl):SS C (.Raise (some (.Call (.Name x np) (yT::rest) [] cpos)) none pos) (uX x ga):=by
 obtain⟨t,h1,h2⟩:=ha;refine⟨_,λ i=>aHG (C.dcx hd i) (C.calm i) (by rw[(C.cx i).2.2.2.1];exact hm) (by rw[C.hK i];exact hC) (hg i) (h1 i) (he i) (hplain i) hdb,λ τ Z H ρ lab De R W=>h2 τ Z H ρ lab _ R (W.bo.imp λ ds _ w vs H1 s r=>?_)⟩;by_cases hz:ds.length<=zAO
 .rw[if_pos hz]at w
  refine⟨by rw[r.length];exact hz,?_⟩
  have:=w H1 (R.old.trans s)
  rwa [hcl]at this
 .rw[if_neg hz]at w
  exact zAI w
def spF(K:zAA)(cl:Str->Addr)(n:Nat)(F:List D->Rs D):Sp:=λ vs H Q E=>∃ds,vs.length=n/\Rps K (λ _=>True) H vs ds/\WR ⟨H,E,cl⟩ (F ds) (λ d=>∀v H',aY H H'->Rp K (λ p=>H p=none) H' v d->Q v H')
def aR(F:List D->Rs D)(ga:En->Rs (List D)):En->Rs D:=λ ρ=>(ga ρ).bd F
def aG2{K:zAA}(hn:∀ρ ds,ga ρ= .ok ds->ds.length=n)(h:aLF K G m t ga):iU K G (some []) (aBk (spF K G.cl n F) [] G.E t) (aR F ga):=by
 intro τ Z H ρ lab Q R W;refine h τ Z H ρ lab _ R (W.bd.imp λ ds eds w vs H1 s r=>⟨ds,by rw[zBG,r.length];exact hn ρ ds eds,by rw[zBG];exact r.wk λ _ _ _ _=>trivial,?_⟩);cases hF:F ds with
 |ok d=>
  rw[hF]at w;exact λ v H' s' r'=>w v H' (s.trans s') (r'.wk λ p o _ z=>.inl (s.free z))
 |ex c=>rw[hF]at w;exact λ H' s'=>w H' ((R.old.trans s).trans s')
 |st=>rw[hF]at w;exact w
variable{k:Nat}{fn:Addr}{fd:zA8}{ps:List Str}{x:Str}{p:Pos}{F:List D->Rs D}{n:Nat}
def aJ3(hF:bU C.prog C.w C.K C.mg C.base (CX1 C.prog C.w) k fn fd ps (spF C.K C.G.cl n F))(hr:k<=C.k)(hm:C.mg x=some (.ref fn))(hk:zCr C.K (.ref fn)=true)(hb:Binds C.K fd ps [])(ha:SA C m (e::es) ga)(hn:∀ρ ds,ga ρ= .ok ds->ds.length=n)(hdb:Nd x:=by decide)(he:∀i,zAT (e::es) (C.X i).env=(false,eval e (C.X i).env)::zAT es (C.X i).env:=by intro _;rfl)(hpl:∀i,(zBu pos (zAT es (C.X i).env)).any (·.1)=false:=by intro _;rfl)(hg:∀i,Gl (C.X i) x:=by intro _;rfl):SE C (some []) (.Call (.Name x p) (e::es) [] pos) (aR F ga):=by
 obtain⟨t,h1,h2⟩:=ha;refine⟨_,λ i=>?_,aG2 hn h2⟩;obtain⟨e1,e2,e3,e4,e5⟩:=C.cx i;refine aBA (CX:=CX1 (C.X i).prog (C.X i).w) (by rw[e1,e2,e3,e4,e5];exact hF) ((C.room i).mono hr) (hg i) (by rw[e4];exact hm) (by rw[e3];exact hk) (by rw[e3];exact hb) .nil (C.pass i) (h1 i) hdb (he i) (hpl i)
def aKW(h:aH ρ= .ok ds):ds.length=0:=by cases h;rfl
def aHl(h:∀ρ ds,ga ρ= .ok ds->ds.length=n):∀ρ ds,aC fa ga ρ= .ok ds->ds.length=n+1:=λ ρ ds e=>by
 obtain⟨d,_,e⟩:=dD e;obtain⟨r,er,e⟩:=dD e;cases e;rw[zAk,h ρ r er]
end
def bI(mg:Str->Option Value):Str->Addr:=λ x=>match mg x with
 |some (.ref a)=>a
 |_=>0
abbrev ctD(P:zAY)(w:World)(K:zAA)(mg:Str->Option Value)(base:Heap)(N:List Str)(q:Str)(sc:Scope)(f:Addr)(cdv:Value)(A:zAc)(outer:List Env)(s:zAG)(H:Hp)(E:XK)(k:Nat)(hr:jy k (A.deeper (zEF q sc s.heap.objs.size f cdv))):Ct where
 ι:=Unit
 X:=λ _=>aBX (CX1 P w) P w K mg base N q sc f cdv A outer s H E
 prog:=P
 w:=w
 K:=K
 mg:=mg
 base:=base
 k:=k
 G:=⟨H,E,bI mg⟩
 cx:=λ _=>⟨rfl,rfl,rfl,rfl,rfl⟩
 calm:=λ _=>rfl
 room:=λ _=>hr
 own:=λ _=>gM.own gM.of
 pass:=λ _=>gM.pass gM.of
 dOk:=true
 dcx:=λ _ _=>gM.of
def aZ(n:Nat)(ds:List D):En:=ds.map .sh++zAS (n-ds.length) .no
def cV(n:Nat)(f:En->Ou):List D->Rs D:=λ ds=>match f (aZ n ds)with
 | .nx _=>.ok .non
 | .rt d=>.ok d
 | .ex c=>.ex c
 |_=>.st
theorem RR.start{K:zAA}(r:Rps K (λ _=>True) H vs ds):RR K ⟨H,E,cl⟩ [] (aZ N.length ds) (start N vs) H (λ _=>(0,0)):=by
 have hl:=r.length;refine⟨by unfold aZ L2.start;simp[hl],λ i s e=>?_,aY.refl H,λ p hp=>absurd rfl hp,λ q hq=>by cases hq⟩;unfold aZ at e;by_cases hi:i<ds.length
 .rw[zC9 (by simpa using hi),zAP]at e
  cases ed:ds[i]? with
  |none=>rw[ed]at e;cases e
  |some d=>
   rw[ed]at e;cases e;obtain⟨x,ex,rx⟩:=r.getD ed;refine .inr ⟨x,?_,rx.wk λ _ _ _ _=>zAi _⟩;unfold L2.start;rw[zC9 (by simpa[hl]using hi),zAP,ex];rfl
 .rw[zD8 (by simpa using hi),zBg]at e
  split at e
  .cases e;exact .inl rfl
  .cases e
section
variable{P:zAY}{w:World}{K:zAA}{mg:Str->Option Value}{base:Heap}
def aNm{x q:Str}{st:Stmt}(F:L2.Fun K x q st fn fd)(S:aV N ps (aO st))
  (hb:∀cdv A outer s H E hr,SSs (ctD P w K mg base N q (aO st) fn cdv A outer s H E k hr) (fX st) f):
  bU P w K mg base (CX1 P w) (k+1) fn fd ps (spF K (bI mg) ps.length (cV N.length f)):=by
 refine F.okX S (λ vs H Q E ⟨ds,hl,_⟩=>hl) λ cdv A outer s H vs Q E hr ⟨ds,hl,r,W⟩=>?_
 obtain⟨t,h1,h2⟩:=hb cdv A outer s H E hr;refine⟨t,h1 (),h2 [] _ H _ _ _ (RR.start r) ?_⟩;unfold cV at W;cases e:f (aZ N.length ds)with
 |nx ρ=>rw[e]at W;exact λ Z' H' lab R=>W .non H' R.old .non
 |rt d=>rw[e]at W;exact λ v H' s r=>W v H' s r
 |ex c=>rw[e]at W;exact W
 |bk ρ=>rw[e]at W;exact zAI W
 |ct ρ=>rw[e]at W;exact zAI W
 |st=>rw[e]at W;exact zAI W
def aKo{st:Stmt}(F:L2.Fun K x q st fn fd)(S:aV N ps (aO st))
  (hb:∀cdv A outer s H E hr,SSs (ctD P w K mg base N q (aO st) fn cdv A outer s H E k hr) (fX st) f)(hn:ps.length=n)(hF:cV N.length f=FF):
  bU P w K mg base (CX1 P w) (k+1) fn fd ps (spF K (bI mg) n FF):=by
 subst hn hF;exact aNm F S hb
end
def OpR.or(h:OpR X f r)(h':OpR X f r'):OpR X f (λ x y H Q=>r x y H Q\/r' x y H Q):=by
 intro iX s Z H x y v u Q I rx ry q;rcases q with q|q
 .exact h iX s Z H x y v u Q I rx ry q
 .exact h' iX s Z H x y v u Q I rx ry q
def OpS.or{K:zAA}(h:OpS K r fd)(h':OpS K r' fd'):OpS K (λ x y H Q=>r x y H Q\/r' x y H Q) (λ d e=>match fd d e with
  | .ok z=>.ok z
  |_=>fd' d e):=by
 intro A x y d e H Q z rx ry ez q;dsimp only at ez;cases hd:fd d e with
 |ok w=>rw[hd]at ez;cases ez;exact .inl (h A x y d e H Q _ rx ry hd q)
 |ex c=>rw[hd]at ez;exact .inr (h' A x y d e H Q z rx ry ez q)
 |st=>rw[hd]at ez;exact .inr (h' A x y d e H Q z rx ry ez q)
section
variable{K:zAA}
def i2(p:Int->Int->Bool)(g:Int->Int->D):D->D->Rs D
 | .int i,.int j=>if p i j=true then .ok (g i j)else .st
 |_,_=>.st
def aDW{g:Int->Int->Int}(hp:∀i j,p i j=true->c i j):OpS K (rI c λ i j=>.int (g i j)) (i2 p λ i j=>.int (g i j)):=by
 intro A x y d e H Q z rx ry ez q;unfold i2 at ez;split at ez
 .rename_i i j
  split at ez
  .rename_i h
   cases ez;obtain rfl:=rx.int_inv;obtain rfl:=ry.int_inv;exact⟨i,j,rfl,rfl,hp i j h,q _ H (aY.refl H) (.int _)⟩
  .cases ez
 .cases ez
def aKD{g:Int->Int->Int}:OpS K (rI0 λ i j=>.int (g i j)) (i2 (λ _ _=>true) λ i j=>.int (g i j)):=by
 intro A x y d e H Q z rx ry ez q;unfold i2 at ez;split at ez
 .rename_i i j
  cases ez;obtain rfl:=rx.int_inv;obtain rfl:=ry.int_inv;exact⟨i,j,rfl,rfl,q _ H (aY.refl H) (.int _)⟩
 .cases ez
def aDX{g:Int->Int->Bool}:OpS K (rI0 λ i j=>.bl (g i j)) (i2 (λ _ _=>true) λ i j=>.bl (g i j)):=by
 intro A x y d e H Q z rx ry ez q;unfold i2 at ez;split at ez
 .rename_i i j
  cases ez;obtain rfl:=rx.int_inv;obtain rfl:=ry.int_inv;exact⟨i,j,rfl,rfl,q _ H (aY.refl H) (.bl _)⟩
 .cases ez
def aBS{g:Int->Int->Int}:∀x y z,i2 p (λ i j=>.int (g i j)) x y= .ok z->imm z=true:=by
 intro x y z e;unfold i2 at e;split at e
 .split at e
  .cases e;rfl
  .cases e
 .cases e
def aIF{g:Int->Int->Bool}:∀x y z,i2 p (λ i j=>.bl (g i j)) x y= .ok z->imm z=true:=by
 intro x y z e;unfold i2 at e;split at e
 .split at e
  .cases e;rfl
  .cases e
 .cases e
def cj:D->D->Rs D
 | .int i,.int j=>.ok (.int (i+j))
 | .lst l,.lst m=>if l.length+m.length<=zAO then .ok (.lst (l++m))else .st
 | .tup l,.tup m=>if l.length+m.length<=zAO then .ok (.tup (l++m))else .st
 |_,_=>.st
def aL8(K:zAA):R2:=λ x y H Q=>∃a b xs ys,x= .ref a/\y= .ref b/\SqT K H a xs/\SqT K H b ys/\xs.length+ys.length<=zAO/\
 (xs=[]->Q (.ref b) H)/\(ys=[]->Q (.ref a) H)/\New H (.tup (xs++ys)) Q
def aKH:OpR X (zCG .Add) (aL8 X.K):=by
 intro iX s Z H x y v u Q I rx ry h;obtain⟨a,b,xs,ys,rfl,rfl,ha,hb,hz,q0,q1,q2⟩:=h;by_cases hx:xs=[]
 .subst hx
  cases rx;cases ry;obtain⟨its,r1,p1,_⟩:=I.tuple ha;obtain⟨its2,r2,p2,_⟩:=I.tuple hb;cases r1;exact HT.aIc p1 p2 ⟨.ref b,H,I,rfl,q0 rfl⟩
 .exact aKI iX s Z H _ _ v u Q I rx ry ⟨a,b,xs,ys,rfl,rfl,ha,hb,hx,hz,q1,λ _ p hp=>q2.at hp⟩
def aGy(K:zAA):R2:=λ x y H Q=>rI0 (λ i j=>.int (i+j)) x y H Q\/(aL9 x y H Q\/aL8 K x y H Q)
def aKK:OpR X (zCG .Add) (aGy X.K):=OpR.or aNL (OpR.or aKJ aKH)
def aMu:OpS K (aGy K) cj:=by
 intro A x y d e H Q z rx ry ez q;unfold cj at ez;split at ez
 .cases ez;obtain rfl:=rx.int_inv;obtain rfl:=ry.int_inv;exact .inl ⟨_,_,rfl,rfl,q _ H (aY.refl H) (.int _)⟩
 .split at ez
  .rename_i hl
   cases ez;obtain⟨_,_,rfl,h1,m1,r1⟩:=rx.lst_inv;obtain⟨_,_,rfl,h2,m2,r2⟩:=ry.lst_inv;refine .inr (.inl ⟨_,_,_,_,rfl,rfl,h1,h2,by rw[r1.length,r2.length];exact hl,λ p H' s hp hn=>q _ H' s (.lst hp (.inl hn) ?_)⟩);exact(((r1.wk λ _ _ _ z=>z.1).append (r2.wk λ _ _ _ z=>z.1)).wk (A':=λ q=>(H q=none\/A q)/\q≠p) λ q o e z=>⟨.inr z,λ e'=>by subst e';rw[hn]at e;cases e⟩).up s
  .cases ez
 .split at ez
  .rename_i hl
   cases ez;obtain⟨_,_,rfl,h1,r1⟩:=rx.tup_inv;obtain⟨_,_,rfl,h2,r2⟩:=ry.tup_inv;have r1':=r1.wk (A':=λ p=>H p=none\/A p) λ _ _ _ z=>.inr z
   have r2':=r2.wk (A':=λ p=>H p=none\/A p) λ _ _ _ z=>.inr z
   refine .inr (.inr ⟨_,_,_,_,rfl,rfl,h1,h2,by rw[r1.length,r2.length];exact hl,λ e=>?_,λ e=>?_,λ p H' s hp hn=>q _ H' s (.tup (SqT.of hp) ((r1'.append r2').up s))⟩)
   .subst e
    cases r1';exact q _ H (aY.refl H) (.tup h2 r2')
   .subst e
    cases r2';rw[zBG]at q;exact q _ H (aY.refl H) (.tup h1 r1')
  .cases ez
 .cases ez
def iw:D->D->Rs D
 | .int i,.int j=>if (decide (-(2^64)<i)&&decide (i<2^64))||(decide (-(2^64)<j)&&decide (j<2^64))then .ok (.int (i*j))else .st
 | .lst l,.int k=>if decide (-(2^63)<=k)&&decide (k<2^63)&&decide (l.length*k.toNat<=zAO)&&oF l then .ok (.lst (zAS k.toNat l).flatten)else .st
 |_,_=>.st
theorem Rps.rep(r:Rps K A H xs ds):∀k:Nat,Rps K A H (zAS k xs).flatten (zAS k ds).flatten
 |0=>.nil
 |k+1=>by
  rw[zBj,zBj,zBH,zBH];exact r.append (Rps.rep r k)
def aL1:R2:=λ x y H Q=>rI aLM (λ i j=>.int (i*j)) x y H Q\/aO8 x y H Q
def aKE:OpR X (zCG .Mult) aL1:=OpR.or aMz aMw
def aMt:OpS K aL1 iw:=by
 intro A x y d e H Q z rx ry ez q;unfold iw at ez;split at ez
 .split at ez
  .rename_i hc
   cases ez;obtain rfl:=rx.int_inv;obtain rfl:=ry.int_inv;refine .inl ⟨_,_,rfl,rfl,?_,q _ H (aY.refl H) (.int _)⟩;simp only[zFQ,zAW,decide_eq_true_eq]at hc;exact hc
  .cases ez
 .split at ez
  .rename_i hc
   simp only[zAW,decide_eq_true_eq]at hc;cases ez;obtain⟨_,_,rfl,h1,m1,r1⟩:=rx.lst_inv;obtain rfl:=ry.int_inv;refine .inr ⟨_,_,_,rfl,rfl,h1,hc.1.1.1,hc.1.1.2,by rw[r1.length];exact hc.1.2,λ p hp=>q _ _ (au hp _) (.lst aX (.inl hp) ?_)⟩;exact((r1.rep _).wk (A':=λ q=>(H q=none\/A q)/\q≠p) λ q o e z=>⟨.inr z.1,λ e'=>by subst e';rw[hp]at e;cases e⟩).up (au hp _)
  .cases ez
 .cases ez
def intsOf:List D->Option (List Int)
 |[]=>some []
 | .int i::r=>(intsOf r).map (i::·)
 |_=>none
theorem bQ:∀{l:List D} {ns:List Int},intsOf l=some ns->l=ns.map .int
 |[],ns,h=>by cases h;rfl
 | .int i::r,ns,h=>by
  simp only[intsOf,zCK]at h;obtain⟨ms,h1,rfl⟩:=h;rw[bQ h1];rfl
 | .non::_,_,h=>by cases h
 | .bl _::_,_,h=>by cases h
 | .str _::_,_,h=>by cases h
 | .tup _::_,_,h=>by cases h
 | .lst _::_,_,h=>by cases h
 | .dct _ _::_,_,h=>by cases h
 | .set _::_,_,h=>by cases h
 | .scr _::_,_,h=>by cases h
theorem bO:∀ns:List Int,intsOf (ns.map .int)=some ns
 |[]=>rfl
 |n::ns=>by simp only[zAD,intsOf,bO ns,zDY]
def ltT(p:List Int->List Int->Bool):D->D->Rs D
 | .tup l,.tup m=>match intsOf l,intsOf m with
  |some ns,some ms=>.ok (.bl (p ns ms))
  |_,_=>.st
 |_,_=>.st
def aEL(r:Rp K A H x (.tup l))(e:intsOf l=some ns):∃a,x= .ref a/\SqT K H a (ns.map V.int):=by
 have:=bQ e
 subst this;cases r with
 |tup h r=>
  have:=r.ints_of
  subst this;exact⟨_,rfl,h⟩
def aEW(hr:∀x y H Q,(∃a b ns ms,x= .ref a/\y= .ref b/\SqT K H a (ns.map V.int)/\SqT K H b (ms.map V.int)/\Q (.bl (p ns ms)) H)->r x y H Q):OpS K r (ltT p):=by
 intro A x y d e H Q z rx ry ez q;unfold ltT at ez;split at ez
 .split at ez
  .rename_i ns ms e1 e2
   cases ez;obtain⟨a,rfl,ha⟩:=aEL rx e1;obtain⟨b,rfl,hb⟩:=aEL ry e2;exact hr _ _ _ _ ⟨a,b,ns,ms,rfl,rfl,ha,hb,q _ H (aY.refl H) (.bl _)⟩
  .cases ez
 .cases ez
def ltD:D->D->Rs D:=λ d e=>match i2 (λ _ _=>true) (λ i j=>.bl (decide (i<j))) d e with
 | .ok z=>.ok z
 |_=>ltT HT.lexLt d e
def leD:D->D->Rs D:=λ d e=>match i2 (λ _ _=>true) (λ i j=>.bl (decide (i<=j))) d e with
 | .ok z=>.ok z
 |_=>ltT HT.lexLe d e
def geD:D->D->Rs D:=i2 (λ _ _=>true) (λ i j=>.bl (decide (j<=i)))
def aNB(hu:X.A.units<cLine):OpR X (zAm .Lt) (λ x y H Q=>rI0 (λ i j=>.bl (decide (i<j))) x y H Q\/aJb X.K x y H Q):=OpR.or aOm (aNC hu)
def aND(hu:X.A.units<cLine):OpR X (zAm .LtE) (λ x y H Q=>rI0 (λ i j=>.bl (decide (i<=j))) x y H Q\/aJc X.K x y H Q):=OpR.or aOn (aNE hu)
def aHX:OpS K (λ x y H Q=>rI0 (λ i j=>.bl (decide (i<j))) x y H Q\/aJb K x y H Q) ltD:=OpS.or aDX (aEW λ _ _ _ _ h=>h)
def aHY:OpS K (λ x y H Q=>rI0 (λ i j=>.bl (decide (i<=j))) x y H Q\/aJc K x y H Q) leD:=OpS.or aDX (aEW λ _ _ _ _ h=>h)
def aEd(e:ltT p x y= .ok z):imm z=true:=by
 unfold ltT at e;split at e
 .split at e
  .cases e;rfl
  .cases e
 .cases e
def aIC:∀x y z,ltD x y= .ok z->imm z=true:=by
 intro x y z e;unfold ltD at e;split at e
 .rename_i w hw;cases e;exact aIF _ _ _ hw
 .exact aEd e
def aNg:∀x y z,leD x y= .ok z->imm z=true:=by
 intro x y z e;unfold leD at e;split at e
 .rename_i w hw;cases e;exact aIF _ _ _ hw
 .exact aEd e
def isD(neg:Bool):D->D->Rs D
 | .bl a,.bl b=>if neg then .st else .ok (.bl (a==b))
 |d,.non=>match d with
  | .non=>.ok (.bl (!neg))
  |_=>.ok (.bl neg)
 |_,_=>.st
def aNF:OpR X (zAm .Is) (λ x y H Q=>(∃b c,x= .bl b/\y= .bl c/\Q (.bl (b==c)) H)\/(y= .non/\Q (.bl (decide (x= .non))) H)):=OpR.or aH4 aNG
def aM0(r:Rp K A H x d)(h:d≠.non):x≠.non:=by
 cases r with
 |non=>exact absurd rfl h
 |_=>exact λ e=>by cases e
def aOl:OpS K (λ x y H Q=>(∃b c,x= .bl b/\y= .bl c/\Q (.bl (b==c)) H)\/(y= .non/\Q (.bl (decide (x= .non))) H)) (isD false):=by
 intro A x y d e H Q z rx ry ez q;unfold isD at ez;split at ez
 .cases ez;cases rx;cases ry;exact .inl ⟨_,_,rfl,rfl,q _ H (aY.refl H) (.bl _)⟩
 .cases ry
  split at ez
  .cases ez;cases rx;exact .inr ⟨rfl,by rw[decide_eq_true rfl];exact q _ H (aY.refl H) (.bl _)⟩
  .rename_i hn
   cases ez;exact .inr ⟨rfl,by rw[decide_eq_false (aM0 rx hn)];exact q _ H (aY.refl H) (.bl _)⟩
 .cases ez
def aF2:D->Rs D
 | .int i=>.ok (.int (-i))
 |_=>.st
def aLv:UnS K (rU λ i=>.int (-i)) aF2:=by
 intro A x d H Q z rx ez q;cases rx with
 |int i=>cases ez;exact⟨i,rfl,q _ H (aY.refl H) (.int _)⟩
 |_=>cases ez
def aKf:∀x z,aF2 x= .ok z->imm z=true:=by
 intro x z e;cases x with
 |int i=>cases e;rfl
 |_=>cases e
def atD(l:List D)(i:Int):Rs D:=match atI l i with
 |some d=>.ok d
 |none=>.st
def ixD:D->D->Rs D
 | .tup l,.int i=>atD l i
 | .lst l,.int i=>atD l i
 | .scr l,.int i=>atD (l.map .int) i
 |_,_=>.st
theorem Rps.at(r:Rps K A H xs ds)(e:atI ds i=some d):∃x,atI xs i=some x/\Rp K A H x d:=by
 unfold atI at e ⊢;rw[r.length];cases h:ixN ds.length i with
 |none=>rw[h]at e;cases e
 |some j=>
  rw[h]at e;obtain⟨x,e1,e2⟩:=r.getD (i:=j) (d:=d) e;exact⟨x,e1,e2⟩
def aOk:OpS K (rIx K) ixD:=by
 intro A x y d e H Q z rx ry ez q;unfold ixD at ez;split at ez
 .unfold atD at ez
  split at ez
  .rename_i w hw
   cases ez;obtain⟨_,_,rfl,h,r⟩:=rx.tup_inv;obtain rfl:=ry.int_inv;obtain⟨v,e1,e2⟩:=r.at hw;exact .inr (.inl ⟨_,_,_,v,rfl,rfl,h,e1,q v H (aY.refl H) (e2.wk λ _ _ _ z=>.inr z)⟩)
  .cases ez
 .unfold atD at ez
  split at ez
  .rename_i w hw
   cases ez;obtain⟨_,_,rfl,h,m,r⟩:=rx.lst_inv;obtain rfl:=ry.int_inv;obtain⟨v,e1,e2⟩:=r.at hw;exact .inl ⟨_,_,_,v,rfl,rfl,SqL.of h,e1,q v H (aY.refl H) (e2.wk λ _ _ _ z=>.inr z.1)⟩
  .cases ez
 .unfold atD at ez
  split at ez
  .rename_i w hw
   cases ez;obtain⟨_,rfl,h⟩:=rx.scr_inv;obtain rfl:=ry.int_inv;obtain⟨v,e1,e2⟩:=(Rps.ints (K:=K) (A:=A) (H:=H)).at hw;exact .inl ⟨_,_,_,v,rfl,rfl,h.sq,e1,q v H (aY.refl H) (e2.wk λ _ _ _ z=>.inr z)⟩
  .cases ez
 .cases ez
def fJ:List D->Rs D
 |[.tup l]=>.ok (.int l.length)
 |[.lst l]=>.ok (.int l.length)
 |[.scr l]=>.ok (.int l.length)
 |_=>.st
def aIa:uH K (λ xs H Q=>∃p ys,xs=[.ref p]/\(SqL K H p ys\/SqT K H p ys)/\Q (.int ys.length) H) fJ:=by
 intro A xs ds H Q z r ez q;unfold fJ at ez;split at ez
 .cases ez
  obtain⟨_,rfl,h0⟩:=r.one_inv;obtain⟨_,_,rfl,h,r⟩:=h0.tup_inv;exact⟨_,_,rfl,.inr h,by rw[r.length];exact q _ H (aY.refl H) (.int _)⟩
 .cases ez
  obtain⟨_,rfl,h0⟩:=r.one_inv;obtain⟨_,_,rfl,h,m,r⟩:=h0.lst_inv;exact⟨_,_,rfl,.inl (SqL.of h),by rw[r.length];exact q _ H (aY.refl H) (.int _)⟩
 .cases ez
  obtain⟨_,rfl,h0⟩:=r.one_inv;obtain⟨_,rfl,h⟩:=h0.scr_inv;exact⟨_,_,rfl,.inl h.sq,by rw[zAF];exact q _ H (aY.refl H) (.int _)⟩
 .cases ez
def aEe:∀x z,fJ x= .ok z->imm z=true:=by
 intro x z e;unfold fJ at e;split at e<;>first|(cases e;rfl)|cases e
def tyD:D->String
 | .non=>"NoneType"| .bl _=>"bool"| .int _=>"int"| .str _=>"str"| .tup _=>"tuple"| .lst _=>"list"| .dct _ _=>"dict"| .set _=>"set"| .scr _=>"script"| .fn _=>"function"| .itm _ _=>"items"| .itx _ _=>"items"
def lr(T:String):D->Rs D:=λ d=>if nZ (tyD d) T true=true then .ok (.bl true)else if nZ (tyD d) T false=true then .ok (.bl false)else .st
def aL2(K:zAA)(T:String):List V->Hp->VK->Prop:=λ xs H Q=>∃x d A b,xs=[x,.ty T]/\Rp K A H x d/\nZ (tyD d) T b=true/\Q (.bl b) H
def aGA:cZ X (.builtin "isinstance") (aL2 X.K T):=by
 intro iX s Z H xs us Q I rv h;obtain⟨x,d,A,b,rfl,rd,ok,q⟩:=h;cases rd with
 |tup h r=>
  obtain⟨u,w',rfl,ru,rw'⟩:=vals2 rv;cases ru;cases rw';obtain⟨its,_,⟨o,h1,h2,_⟩,_⟩:=I.tuple h;exact zBB zGV I.kIn ⟨o,h1,h2⟩ (aDe ok) (λ z=>nomatch z) λ tk=>⟨.bl b,H,I.tok _,rfl,q⟩
 |set h m hS nd=>cases b<;>simp[nZ,tyD]at ok
 |scr h=>cases b<;>simp[nZ,tyD]at ok
 |fn h=>cases b<;>simp[nZ,tyD]at ok
 |itm h=>cases b<;>simp[nZ,tyD]at ok
 |itx h=>cases b<;>simp[nZ,tyD]at ok
 |non=>exact mJ iX s Z H _ us Q I rv ⟨_,T,_,b,rfl,.non,ok,q⟩
 |bl c=>exact mJ iX s Z H _ us Q I rv ⟨_,T,_,b,rfl,.bl c,ok,q⟩
 |int c=>exact mJ iX s Z H _ us Q I rv ⟨_,T,_,b,rfl,.int c,ok,q⟩
 |str c=>exact mJ iX s Z H _ us Q I rv ⟨_,T,_,b,rfl,.str c,ok,q⟩
 |lst h m r=>exact mJ iX s Z H _ us Q I rv ⟨_,T,_,b,rfl,.lst h,ok,q⟩
 |dK h m r=>exact mJ iX s Z H _ us Q I rv ⟨_,T,_,b,rfl,.dK h,ok,q⟩
 |dT h m r=>
  obtain⟨u,w',rfl,ru,rw'⟩:=vals2 rv;cases ru;cases rw';obtain⟨⟨_,_,_,o,_,_,_,h1,h2,_⟩,_⟩:=(show bw X.prog X.w H s.heap _ (dxO _ _)from I.hok _ _ h.at_);exact zBB zE9 I.kIn ⟨o,h1,h2.1⟩ (aDe ok) (λ z=>nomatch z) λ tk=>⟨.bl b,H,I.tok _,rfl,q⟩
end
section
variable{C:Ct}{pos p p2:Pos}{m:Mode}{a:Expr}{fa:En->Rs D}
def lG(ha:SE C m a fa)(hm:C.mg "isinstance"=none)(hmT:C.mg x=none)(hn:x≠"__name__":=by decide)(hd:Nd x:=by decide)(he:∀i,zAT [a,.Name x p2] (C.X i).env=(false,eval a (C.X i).env)::zAT [.Name x p2] (C.X i).env:=by intro _;rfl)(hpl:∀i,(zBu pos (zAT [.Name x p2] (C.X i).env)).any (·.1)=false:=by intro _;rfl)(hg:∀i,Gl (C.X i) "isinstance":=by intro _;rfl)(hv:zAp "isinstance"=some (.builtin "isinstance"):=by decide+kernel)(hgT:∀i,Gl (C.X i) x:=by intro _;rfl)(hvT:zAp x=some (.type T):=by decide+kernel):
  SE C (some []) (.Call (.Name "isinstance" p) [a,.Name x p2] [] pos) (op1 (lr T) fa):=by
 obtain⟨t,h1,h2⟩:=ha;refine⟨tCB (aL2 C.K T) (cY t (cY (tC (.ty T)) oH)),λ i=>?_,λ τ Z H ρ lab Q R W=>?_⟩
 .rw[<-C.hK i]
  exact jg aGA (hg i) (by rw[(C.cx i).2.2.2.1];exact hm) hv (bT (h1 i) (bT (aKA (v:=.ty T) (hgT i) (by rw[(C.cx i).2.2.2.1];exact hmT) hvT rfl hn hd) fH) (he i)) (by decide) (by decide) (he i) (hpl i)
 .refine h2 τ Z H ρ lab _ R (W.bd.imp λ d _ w x H1 s1 r1=>?_)
  obtain⟨z,ez,w⟩:=w.okD;unfold lr at ez;split at ez
  .rename_i h;cases ez;exact⟨x,d,_,true,rfl,r1,h,w _ H1 s1 (.bl _)⟩
  .split at ez
   .rename_i h;cases ez;exact⟨x,d,_,false,rfl,r1,h,w _ H1 s1 (.bl _)⟩
   .cases ez
end
def nj:Slot->Slot
 | .ow d=>.sh d
 | .nw d=>.sh d
 | .oz d=>.sh d
 | .o2 l=>.sh (.lst (l.map .lst))
 |s=>s
def shE(ρ:En):En:=ρ.map nj
def stV(js:hV)(Z:L2.St):L2.St:=js.map λ o=>o.bind λ j=>(Z[j]?).join
def stE(js:hV)(ρ:En):En:=js.map λ o=>match o with
 |none=>.no
 |some j=>(ρ[j]?).getD .no
def aJ5{K:zAA}(h:iT K H lab i v s):∃d,(s= .no\/nj s= .sh d)/\(s= .no\/Rp K (λ _=>True) H v d):=by
 cases s with
 |no=>exact⟨.non,.inl rfl,.inl rfl⟩
 |sh d=>exact⟨d,.inr rfl,.inr (Rp.wk (λ _ _ _ _=>trivial) h)⟩
 |nw d=>exact⟨d,.inr rfl,.inr (Rp.wk (λ _ _ _ _=>trivial) h)⟩
 |ow d=>exact⟨d,.inr rfl,.inr (Rp.wk (λ _ _ _ _=>trivial) h.1)⟩
 |oz d=>exact⟨d,.inr rfl,.inr (Rp.wk (λ _ _ _ _=>trivial) (aLe h))⟩
 |o2 l=>exact⟨_,.inr rfl,.inr (Rp.wk (λ _ _ _ _=>trivial) (aH7 h))⟩
theorem RR.shE{K:zAA}(R:RR K G τ ρ Z H lab):RR K G τ (shE ρ) Z H (λ _=>(0,0)):=by
 refine⟨by unfold VL.shE;rw[zAF];exact R.len,λ i s e=>?_,R.old,λ p hp=>absurd rfl hp,λ q hq=>(R.tm q hq).wk λ _ _ _ _=>zAi _⟩;unfold VL.shE at e;rw[zAP]at e;cases e0:ρ[i]? with
 |none=>rw[e0]at e;cases e
 |some s0=>
  rw[e0]at e;cases e;rcases R.sl i s0 e0 with rfl|⟨v,ev,hv⟩
  .exact .inl rfl
  .obtain⟨d,h1,h2⟩:=aJ5 hv
   rcases h1 with rfl|h1
   .exact .inl rfl
   .rcases h2 with rfl|h2
    .exact .inl rfl
    .exact .inr ⟨v,ev,by rw[h1];exact h2.wk λ _ _ _ _=>zAi _⟩
def aGU{i:Nat}(e:(stE js ρ)[i]? =some s):s= .no\/∃j,js[i]? =some (some j)/\ρ[j]? =some s:=by
 unfold stE at e;rw[zAP]at e;cases ej:js[i]? with
 |none=>rw[ej]at e;cases e
 |some o=>
  rw[ej]at e;cases o with
  |none=>cases e;exact .inl rfl
  |some j=>
   cases er:ρ[j]? with
   |none=>simp[er]at e;exact .inl e.symm
   |some s'=>simp[er]at e;subst e;exact .inr ⟨j,rfl,er⟩
def RR.block{K:zAA}{τ:List (V×D)}(R:RR K G τ (VL.shE ρ) Z H lab)(hz:∀p,(lab p).1<=1)(hl:H l=none):
  RR K G τ (stE js (VL.shE ρ)) (stV js Z) H (λ p=>if p=l then(2,0)else(0,0)):=by
 have nl:∀p o,H p=some o->p≠l:=λ p o e z=>by subst z;rw[hl]at e;cases e
 refine⟨by unfold stE stV;rw[zAF,zAF],λ i s e=>?_,R.old,λ p hp=>?_,λ q hq=>(R.tm q hq).wk λ p o e _=>by rw[if_neg (nl p o e)];exact zAi _⟩
 .rcases aGU e with rfl|⟨j,ej,es⟩
  .exact .inl rfl
  .rcases R.sl j s es with rfl|⟨v,ev,hv⟩
   .exact .inl rfl
   .refine .inr ⟨v,?_,?_⟩
    .unfold stV
     rw[zAP,ej];simp[ev]
    .unfold VL.shE at es
     rw[zAP]at es;cases e0:ρ[j]? with
     |none=>rw[e0]at es;cases es
     |some s0=>
      rw[e0]at es;cases es;cases s0 with
      |no=>trivial
      |oz d=>exact Rp.wk (λ p o e _=>by show(if p=l then((2,0):Nat×Nat)else(0,0)).1<=1;rw[if_neg (nl p o e)];exact zAi _) hv
      |nw d=>exact Rp.wk (λ p o e _=>by show(if p=l then((2,0):Nat×Nat)else(0,0)).1<=1;rw[if_neg (nl p o e)];exact zAi _) hv
      |sh d=>exact Rp.wk (λ p o e _=>by show(if p=l then((2,0):Nat×Nat)else(0,0)).1<=1;rw[if_neg (nl p o e)];exact zAi _) hv
      |ow d=>exact Rp.wk (λ p o e _=>by show(if p=l then((2,0):Nat×Nat)else(0,0)).1<=1;rw[if_neg (nl p o e)];exact zAi _) hv
      |o2 d=>exact Rp.wk (λ p o e _=>by show(if p=l then((2,0):Nat×Nat)else(0,0)).1<=1;rw[if_neg (nl p o e)];exact zAi _) hv
 .by_cases hp':p=l
  .subst hp';exact R.old.free hl
  .exact absurd (show(if p=l then((2,0):Nat×Nat)else(0,0)).1=0 by rw[if_neg hp']) hp
def aPg(XN N:List Str)(js:hV)(ks:List Nat)(sc:Scope):Bool:=(zAw js.length).all λ i=>match js[i]? with
 |some (some j)=>match N[i]?,XN[j]? with
  |some x,some y=>x==y&&sc.names.lookup x==some .free&& !ks.contains i
  |_,_=>false
 |_=>true
def aB5(h1:sc.kind= .function)(h2:(sc.names.all λ y=>y.2 != .cell||sc.names.lookup y.1==some .cell)=true)(h3:(sc.names.all λ y=>y.2 != .local||sc.names.lookup y.1==some .local)=true)
  (h4:(sc.names.all λ y=>y.2 != .free||(X.env.kindOf y.1==some .cell||X.env.kindOf y.1==some .free))=true)(h5:js.length=N.length)(h6:aPg X.N N js ks sc=true):dh X sc N (stV js) ks:=by
 refine⟨h1,λ y hy e=>?_,λ y hy e=>?_,λ y hy e=>?_,λ Z=>by unfold stV;rw[zAF];exact h5,λ Z i x v e1 e2=>?_⟩
 .have:=zAl.mp h2 y hy
  rw[e]at this;simpa using this
 .have:=zAl.mp h3 y hy
  rw[e]at this;simpa using this
 .have:=zAl.mp h4 y hy
  rw[e]at this;simpa using this
 .unfold stV at e2
  rw[zAP]at e2;cases ej:js[i]? with
  |none=>rw[ej]at e2;cases e2
  |some o=>
   rw[ej]at e2;cases o with
   |none=>cases e2
   |some j=>
    have hi:i<js.length:=(zAL.mp ej).1
    have:=zAl.mp h6 i (zCy.mpr hi)
    rw[ej,e1]at this;dsimp only at this;cases ey:X.N[j]? with
    |none=>rw[ey]at this;cases this
    |some y=>
     rw[ey]at this;simp only[zAW,beq_iff_eq,zDn]at this;obtain⟨⟨h,h'⟩,h''⟩:=this;subst h;refine⟨h',λ hk=>?_,j,ey,?_⟩
     .rw[List.contains_iff_mem.mpr hk]at h'';cases h''
     .simp only[zDY,zC3,Option.some.injEq]at e2
      cases es:Z[j]? with
      |none=>rw[es]at e2;cases e2
      |some w=>rw[es]at e2;simp at e2;subst e2;rfl
abbrev Ct.blk(C:Ct)(sc:Scope)(N:List Str):Ct where
 ι:=C.ι×Addr×List Addr×zAG×Hp
 X:=λ i=>(C.X i.1).block sc i.2.1 N i.2.2.1 i.2.2.2.1 i.2.2.2.2
 prog:=C.prog
 w:=C.w
 K:=C.K
 mg:=C.mg
 base:=C.base
 k:=C.k
 G:={C.G with E:=λ _ _ _=>False}
 cx:=λ i=>C.cx i.1
 calm:=λ i=>C.calm i.1
 room:=λ i=>C.room i.1
 own:=λ i=>PassesOwn.never
 pass:=λ i iX Z H s e s' I h=>by obtain⟨_,_,_,_,_,_,_,_,_,_,_,_,_,hE⟩:=h;exact hE
 dOk:=false
 dcx:=λ h=>absurd h zAU
def lcL(ρ:En)(fg:D->En->Rs En)(ft:En->Rs Bool)(fe:En->Rs D):List D->Rs (List D)
 |[]=>.ok []
 |d::ds=>(fg d ρ).bd λ ρ1=>(ft ρ1).bd λ k=>if k=true then(fe ρ1).bd λ y=>(lcL ρ fg ft fe ds).bd λ ys=>.ok (y::ys)else lcL ρ fg ft fe ds
def lcD(fi:En->Rs (List D))(js:hV)(fg:D->En->Rs En)(ft:En->Rs Bool)(fe:En->Rs D):En->Rs D:=λ ρ=>(fi (shE ρ)).bd λ ds=>
 if ds.length<zAO then(match lcL (stE js (shE ρ)) fg ft fe ds with
  | .ok l=>.ok (.lst l)
  |_=>.st)else .st
def aIp(C:Ct)(ifs:List Expr)(f:En->Rs Bool):Prop:=∃t,(∀i,aCr (C.X i) ifs t)/\aDr C.K C.G t f
def gP:En->Rs Bool:=λ _=>.ok true
def m6:aIp C [] gP:=⟨_,λ _=>aMi,λ τ Z H ρ lab Q R W=>W H (aY.refl H)⟩
def wY(h:ST C c f):aIp C [c] f:=let⟨t,h1,h2⟩:=h;⟨t,λ i=>aMh (h1 i),h2⟩
def aCZ(h:lcL ρ fg ft fe (d::ds)= .ok l):
  ∃ρ1 k,fg d ρ= .ok ρ1/\ft ρ1= .ok k/\((k=true/\∃y ys,fe ρ1= .ok y/\lcL ρ fg ft fe ds= .ok ys/\l=y::ys)\/(k=false/\lcL ρ fg ft fe ds= .ok l)):=by
 unfold lcL at h;obtain⟨ρ1,e1,h⟩:=dD h;obtain⟨k,e2,h⟩:=dD h;refine⟨ρ1,k,e1,e2,?_⟩;cases k with
 |true=>
  rw[if_pos rfl]at h;obtain⟨y,e3,h⟩:=dD h;obtain⟨ys,e4,h⟩:=dD h;cases h;exact .inl ⟨rfl,y,ys,e3,e4,rfl⟩
 |false=>
  rw[if_neg zAU]at h;exact .inr ⟨rfl,h⟩
def RR.but_blk{K:zAA}{τ:List (V×D)}(R:RR K G τ (stE js (VL.shE ρ)) Z H (λ p=>if p=l then(2,0)else(0,0)))(B:jC l H H')(hl:H l=some o)(ho:gW o=true)(h0:G.H0 l=none):
  RR K G τ (stE js (VL.shE ρ)) Z H' (λ p=>if p=l then(2,0)else(0,0)):=by
 have b6:¬((λ p=>if p=l then((2,0):Nat×Nat)else(0,0)) l).1<=1:=by simp
 refine⟨R.len,λ j s e=>?_,λ b o hb=>?_,R.new,λ q hq=>(R.tm q hq).but B hl ho b6⟩
 .rcases R.sl j s e with z|⟨u,e1,e2⟩
  .exact .inl z
  .refine .inr ⟨u,e1,?_⟩
   rcases aGU e with rfl|⟨jx,ej,es⟩
   .trivial
   .unfold VL.shE at es
    rw[zAP]at es;cases e0:ρ[jx]? with
    |none=>rw[e0]at es;cases es
    |some s0=>rw[e0]at es;cases es;cases s0<;>first|trivial|exact Rp.but B hl ho b6 e2
 .exact B b o (λ z=>by subst z;rw[h0]at hb;cases hb) (R.old b o hb)
def RR.blk0{K:zAA}(R:RR K G τ (VL.shE ρ) Z H lab)(hG:G'.H0=G.H0):RR K G' τ (VL.shE ρ) Z H (λ _=>(0,0)):=by
 refine⟨R.len,λ i s e=>?_,by rw[hG];exact R.old,λ p hp=>absurd rfl hp,λ q hq=>(R.tm q hq).wk λ _ _ _ _=>zAi _⟩;rcases R.sl i s e with rfl|⟨v,ev,hv⟩
 .exact .inl rfl
 .unfold VL.shE at e
  rw[zAP]at e;cases e0:ρ[i]? with
  |none=>rw[e0]at e;cases e
  |some s0=>rw[e0]at e;cases e;cases s0<;>first|exact .inl rfl|exact .inr ⟨v,ev,Rp.wk (λ _ _ _ _=>zAi _) hv⟩
section
variable{K:zAA}{G:Gx}{wi:TI}{fi:En->Rs (List D)}{js:hV}{g:TG}{fg:D->En->Rs En}{tt:TT}{ft:En->Rs Bool}{te:TE}{fe:En->Rs D}
def aG1(hi:aLD K G wi fi)(hg:aLE K {G with E:=λ _ _ _=>False} g fg)(ht:aDr K {G with E:=λ _ _ _=>False} tt ft)(he:iU K {G with E:=λ _ _ _=>False} (some []) te fe):
  iU K G (some []) (tLC wi (stV js) g tt te) (lcD fi js fg ft fe):=by
 intro τ Z H ρ lab Q R W;refine hi τ Z H _ _ _ R.shE (W.bd.imp λ ds _ w J H1 lab1 τ1 s1 _ R1 jl=>?_);intro l hl;obtain⟨kQ,out,pV,w⟩:ds.length<zAO/\∃out,lcL (stE js (VL.shE ρ)) fg ft fe ds= .ok out/\QE K (some []) lab H Q (.lst out):=by
  by_cases kQ:ds.length<zAO
  .rw[if_pos kQ]at w
   cases pV:lcL (stE js (VL.shE ρ)) fg ft fe ds with
   |ok out=>rw[pV]at w;exact⟨kQ,out,rfl,w⟩
   |ex c=>rw[pV]at w;exact zAI w
   |st=>rw[pV]at w;exact zAI w
  .rw[if_neg kQ]at w
   exact zAI w
 have R0:RR K {G with E:=λ _ _ _=>False} (τ1++τ) (VL.shE ρ) Z H1 (λ _=>(0,0)):=R1.blk0 rfl;have RB:=R0.block (js:=js) (λ _=>zAi _) hl;have hHl:H l=none:=s1.free hl;have b6:¬((λ p=>if p=l then((2,0):Nat×Nat)else(0,0)) l).1<=1:=by simp
 refine⟨λ i n acc H2=>∃pre,n=ds.length-i/\i<=ds.length/\H2 l=some (.lst acc)/\RR K {G with E:=λ _ _ _=>False} (τ1++τ) (stE js (VL.shE ρ)) (stV js Z) H2 (λ p=>if p=l then(2,0)else(0,0))/\aY H H2/\acc.length<=i/\
  Rps K (λ p=>H p=none/\p≠l) H2 acc pre/\∃post,lcL (stE js (VL.shE ρ)) fg ft fe (ds.drop i)= .ok post/\out=pre++post,⟨ds.length,[],by lia,by lia,aX,RB.up (au hl _),s1.trans (au hl _),zAV _,.nil,out,pV,rfl⟩,?_⟩
 rintro i n acc H2 ⟨pre,rfl,hi,hH2,R2,s2,oQ,rpre,post,hpost,eout⟩;refine⟨hH2,by lia,?_⟩;have jj:=jl _ H2 λ q hq=>R2.tm q (zA5 _ hq)
 by_cases hlt:i<ds.length
 .obtain⟨go,yl⟩:=(jj i).2 hlt
  refine .inr ⟨go,λ x H3 hy=>?_⟩;obtain⟨s3,d,ed,rx⟩:=yl x H3 hy;replace R2:=R2.up s3;replace hH2:=s3 _ _ hH2;replace s2:=s2.trans s3;replace rpre:=rpre.up s3;have ed2:ds.drop i=d::ds.drop (i+1):=by
   rw[zC8 hlt]
   have:=zAE hlt
   rw[ed]at this;cases this;rfl
  rw[ed2]at hpost;obtain⟨ρ1,k,e1,e2,e3⟩:=aCZ hpost;refine hg (τ1++τ) x d _ H3 _ _ _ ρ1 R2 rx e1 λ Z4 R4=>?_
  refine ht (τ1++τ) Z4 H3 ρ1 _ _ R4 ?_;rw[e2];intro H5 s5;rcases e3 with ⟨rfl,y,ys,e3,e4,rfl⟩|⟨rfl,e4⟩
  .rw[if_pos rfl]
   refine he (τ1++τ) Z4 H5 ρ1 _ _ (R4.up s5) ?_;rw[e3];intro v H6 s6 r6;have hl6:H6 l=some (.lst acc):=s6 _ _ (s5 _ _ hH2);have B:jC l H6 (upd H6 l (.lst (acc++[v]))):=λ b o ne hb=>by rw[aW ne];exact hb
   refine⟨hl6,ds.length-(i+1),by lia,pre++[y],rfl,hlt,aX,?_,?_,by rw[zAZ];simp;lia,?_,ys,e4,by rw[eout];simp⟩
   .exact(R2.up (s5.trans s6)).but_blk B hl6 rfl (R1.old.free hl)
   .exact λ b o hb=>B b o (λ z=>by subst z;rw[hHl]at hb;cases hb) (((s2.trans s5).trans s6) b o hb)
   .refine((rpre.up (s5.trans s6)).append (.cons (r6.wk λ p o _ z=>?_) .nil)).but B hl6 rfl λ z=>z.2 rfl
    rcases z with z|z
    .exact⟨(s2.trans s5).free z,λ e=>by subst e;rw[s5 _ _ hH2]at z;cases z⟩
    .cases z
  .rw[if_neg zAU]
   exact⟨ds.length-(i+1),by lia,pre,rfl,hlt,s5 _ _ hH2,R2.up s5,s2.trans s5,by lia,rpre.up s5,post,e4,eout⟩
 .have ei:i=ds.length:=by lia
  subst ei;rw[zEA]at hpost;cases hpost;rw[zBG]at eout;subst eout;exact .inl ⟨(jj _).1 (zAV _),w _ H2 s2 (.lst hH2 (.inl hHl) (rpre.wk λ p o _ z=>⟨.inl z.1,z.2⟩))⟩
end
section
variable{C:Ct}{pos:Pos}{elt tg iter:Expr}{ifs:List Expr}{sc:Scope}{N:List Str}{js:hV}{ks:List Nat}{fi:En->Rs (List D)}{fg:D->En->Rs En}{ft:En->Rs Bool}{fe:En->Rs D}
def bV{C:Ct}(nd:N.Nodup:=by decide+kernel)(hk:i∈ks:=by decide)(hN:∀j,((C.blk sc N).X j).N[i]? =some x:=by intro _;rfl)(hx:∀j,Loc ((C.blk sc N).X j).env.scope x:=by intro _;first|exact zB0 rfl|exact zAx rfl)
  (hf:∀j,((C.blk sc N).X j).fn x=true\/((C.blk sc N).X j).env.scope.names.lookup x=some .local:=by intro _;first|exact .inl rfl|exact .inr rfl):SG (C.blk sc N) (.Name x pos) ks (gnm i):=
 bR hN hx hf (λ _=>nd) hk
def qF(hi:SI C tg iter fi)(hg:SG (C.blk sc N) tg ks fg)(ht:aIp (C.blk sc N) ifs ft)(he:SE (C.blk sc N) (some []) elt fe)(hs:∀i x,zBV iter (C.X i).env x=pure x:=by intro _ _;rfl)(hB:∀i,dh (C.X i) sc N (stV js) ks:=by intro _;exact aB5 rfl rfl rfl rfl rfl rfl):SE C (some []) (.ListComp elt [⟨tg,iter,ifs,0⟩] sc pos) (lcD fi js fg ft fe):=by
 obtain⟨wi,i1,i2⟩:=hi;obtain⟨g,g1,g2,g3,g4⟩:=hg;obtain⟨tt,t1,t2⟩:=ht;obtain⟨te,e1,e2⟩:=he;exact⟨_,λ i=>aOg (hB i) (C.calm i) (i1 i) (λ c fp z5 zS=>g1 (i,c,fp,z5,zS)) g3 (λ c fp z5 zS=>t1 (i,c,fp,z5,zS)) (λ c fp z5 zS=>e1 (i,c,fp,z5,zS)) (hs i),aG1 i2 g2 t2 e2⟩
def aOW(hi:SI C tg iter fi)(hg:SG (C.blk sc N) tg ks fg)(ht:aIp (C.blk sc N) ifs ft)(he:SE (C.blk sc N) (some []) elt fe)(hN:∀j,(C.X j).N[i]? =some x:=by intro _;rfl)(hx:∀j,Loc (C.X j).env.scope x:=by intro _;first|exact zB0 rfl|exact zAx rfl)(hsw:∀j,zBv (.ListComp elt [⟨tg,iter,ifs,0⟩] sc pos) (some (.Name x pos')) spos.line (C.X j).env=pure true:=by intro _;rfl)(hs:∀i x,zBV iter (C.X i).env x=pure x:=by intro _ _;rfl)(hf:∀j,(C.X j).fn x=true\/(C.X j).env.scope.names.lookup x=some .local:=by intro _;first|exact .inl rfl|exact .inr rfl)(nd:∀j,(C.X j).N.Nodup:=by intro _;assumption)(hB:∀i,dh (C.X i) sc N (stV js) ks:=by intro _;exact aB5 rfl rfl rfl rfl rfl rfl):
  SV C i (.Assign [.Name x pos'] (.ListComp elt [⟨tg,iter,ifs,0⟩] sc pos) spos) (some []) (lcD fi js fg ft fe):=by
 obtain⟨wi,i1,i2⟩:=hi;obtain⟨g,g1,g2,g3,g4⟩:=hg;obtain⟨tt,t1,t2⟩:=ht;obtain⟨te,e1,e2⟩:=he;exact⟨_,λ j=>aCJ (nd j) (hN j) (hx j) (hB j) (C.calm j) (i1 j) (λ c fp z5 zS=>g1 (j,c,fp,z5,zS)) g3 (λ c fp z5 zS=>t1 (j,c,fp,z5,zS)) (λ c fp z5 zS=>e1 (j,c,fp,z5,zS)) (hsw j) (hs j) (hf j),aG1 i2 g2 t2 e2⟩
end
def RR.mut{K:zAA}(R:RR K G τ ρ Z H lab)(ev:Z[i]? =some (some v))(hl:H l=some o)(ho:gW o=true)(aI:(lab l).1=i+2)
  (B:jC l H H')(h':iT K H' lab i v s'):RR K G τ (ρ.set i s') Z H' lab:=by
 refine⟨by rw[zBC];exact R.len,λ j x e=>?_,λ b u hb=>B b u (λ z=>?_) (R.old b u hb),R.new,λ q hq=>(R.tm q hq).but B hl ho λ z=>by lia⟩
 .by_cases hj:i=j
  .subst hj
   have hi:i<ρ.length:=by
    have:=(zAL.mp e).1
    rwa [zBC]at this
   rw[zBL hi]at e;cases e;exact .inr ⟨v,ev,h'⟩
  .rw[zBK hj]at e
   rcases R.sl j x e with z|⟨u,e1,e2⟩
   .exact .inl z
   .refine .inr ⟨u,e1,?_⟩
    cases x with
    |no=>trivial
    |sh d=>exact Rp.but B hl ho (λ z=>by lia) e2
    |nw d=>exact Rp.but B hl ho (λ z=>by lia) e2
    |ow d=>exact⟨Rp.but B hl ho (λ z=>by lia) e2.1,e2.2⟩
    |oz d=>
     obtain⟨a,xs,ds,q1,q2,q3,q4,q5⟩:=e2;exact⟨a,xs,ds,q1,q2,B a _ (λ z=>by subst z;exact hj (by lia)) q3,q4,Rps.but B hl ho (λ z=>by lia) q5⟩
    |o2 ll=>
     obtain⟨a,xs,q1,q2,q3,q4,q5⟩:=e2;refine⟨a,xs,q1,B a _ (λ z=>?_) q2,q3,q4,λ jj y ds f1 f2=>(q5 jj y ds f1 f2).but B hl ho λ z=>?_⟩
     .rw[z]at q3;rw[q3]at aI;exact hj (by simpa using aI.symm)
     .rw[z]at aI;exact hj (by simpa using aI.symm)
 .subst z
  have:=R.new b (by rw[aI];lia)
  rw[this]at hb;cases hb
section
variable{C:Ct}{pos apos cpos p:Pos}{e a:Expr}{fe fa:En->Rs D}{i:Nat}{x:Str}{m:Mode}
def pF(i:Nat)(fe:En->Rs D):En->Ou:=λ ρ=>match ρ[i]? with
 |some (.ow (.lst ds))=>(fe ρ).bo λ d=>if ds.length<zAO then .nx (ρ.set i (.ow (.lst (ds++[d]))))else .st
 |_=>.st
def pJ(i:Nat)(he:SE C m e fe)(hm:okN m=true:=by rfl)(hN:∀j,(C.X j).N[i]? =some x:=by intro _;rfl)(hv:∀j,Vis (C.X j).env.scope x:=by intro _;first|exact zB0 rfl|exact zAx (zB0 rfl)|exact zAx (zAx rfl))(hd:Nd x:=by decide)
  (hcd:(x==("__classdict__":Str))=false:=by decide)(hs1:∀j,zAT [e] (C.X j).env=[(false,eval e (C.X j).env)]:=by intro _;rfl)
  (hbase:∀j,zB2 (.Name x p) "append" (C.X j).env (eval (.Name x p) (C.X j).env)=eval (.Name x p) (C.X j).env:=by intro _;rfl)
  (hfew:∀j,((zBu cpos (zAT [e] (C.X j).env)).all (λ x=>!x.1)&&(zET cpos (zCp [] (C.X j).env)).all (λ x=>x.1.isSome)&&decide ([e].length+([]:List zBz).length+(if ([]:List zBz).isEmpty then 0 else 1)<30))=true:=by intro _;rfl)
  (hline:(apos.endLine==cpos.line)=true:=by rfl)
  (hsw:∀j,zBv (.Call (.Attribute (.Name x p) "append" apos) [e] [] cpos) none pos.line (C.X j).env=pure false:=by intro _;rfl):
  SS C (.Expr (.Call (.Attribute (.Name x p) "append" apos) [e] [] cpos) pos) (pF i fe):=by
 obtain⟨t,h1,h2⟩:=he;refine⟨wM (tBM C.K "list" xK (kJ i) (cY t oH)),λ j=>nG (by rw[<-C.hK j];exact aCN zCA zDz zF0 xg (dO (hN j) (hv j) hd hcd) (bT (h1 j) fH (hs1 j)) (hbase j) (hfew j) hline (hs1 j) rfl) (hsw j),λ τ Z H ρ lab De R W=>?_⟩;unfold pF at W;cases es:ρ[i]? with
 |none=>rw[es]at W;exact zAI W
 |some s=>
  rw[es]at W;split at W
  .rename_i ds hs
   cases hs;rcases R.sl i _ es with z|⟨v,ev,hv'⟩
   .cases z
   .obtain⟨hv1,htop⟩:=hv'
    obtain⟨a0,ea0,la0⟩:=htop rfl;subst ea0;cases hv1 with
    |lst h mm r=>
     rename_i xs;refine⟨.ref a0,ev,.inl ⟨rfl,xs,SqL.of h⟩,h2 τ Z H ρ lab _ R (W.bo.imp λ d _ w y H2 s2 r2=>?_)⟩;by_cases hz:ds.length<zAO
     .rw[if_pos hz]at w
      refine⟨a0,xs,y,rfl,rfl,s2 _ _ h,by rw[r.length];exact hz,λ H3 B h3=>?_⟩;obtain⟨R',r'⟩:=R.fresh (P:=λ k=>k=1) rfl (λ k hk=>beq_iff_eq.mp (jP hm k hk)) s2 r2;have la:(bJ H 1 lab a0).1=i+2:=by rw[bA h];exact la0
      refine w Z H3 _ (R'.mut ev (s2 _ _ h) rfl la B ⟨.lst h3 (.inr la) ?_,λ _=>⟨a0,rfl,la⟩⟩);have ra:Rps C.K (λ p=>((bJ H 1 lab p).1=1\/(bJ H 1 lab p).1=i+2)/\p≠a0) H2 (xs++[y]) (ds++[d]):=by
       refine(r.mono s2 λ p o e z=>⟨by rw[bA e];exact z.1,z.2⟩).append (.cons (r'.wk λ p o e z=>⟨.inl z,λ q=>?_⟩) .nil);subst q;rw[la]at z;lia
      exact ra.but B (s2 _ _ h) rfl λ z=>z.2 rfl
     .rw[if_neg hz]at w
      exact zAI w
  .exact zAI W
def at2(ll:dE):D->Option (Nat×List D)
 | .int n=>(ixN ll.length n).bind λ j=>(ll[j]?).map λ ds=>(j,ds)
 |_=>none
def gK(i:Nat)(fa fe:En->Rs D):En->Ou:=λ ρ=>match ρ[i]? with
 |some (.o2 ll)=>(fa ρ).bo λ k=>match at2 ll k with
  |some (j,ds)=>(fe ρ).bo λ d=>if ds.length<zAO then .nx (ρ.set i (.o2 (ll.set j (ds++[d]))))else .st
  |none=>.st
 |_=>.st
def aIj(h:at2 ll k=some (j,ds)):∃n,k= .int n/\ixN ll.length n=some j/\ll[j]? =some ds:=by
 cases k with
 |int n=>
  simp only[at2,Option.bind_eq_some_iff,zCK]at h;obtain⟨j',h1,ds',h2,h3⟩:=h;cases h3;exact⟨n,rfl,h1,h2⟩
 |_=>cases h
def wU(i:Nat){p2:Pos}(ha:SE C m a fa)(he:SE C (some []) e fe)(hN:∀j,(C.X j).N[i]? =some x:=by intro _;rfl)(hv:∀j,Vis (C.X j).env.scope x:=by intro _;first|exact zB0 rfl|exact zAx (zB0 rfl)|exact zAx (zAx rfl))(hd:Nd x:=by decide)
  (hcd:(x==("__classdict__":Str))=false:=by decide)(hs1:∀j,zAT [e] (C.X j).env=[(false,eval e (C.X j).env)]:=by intro _;rfl)(hp:wH a:=by exact λ _ _=>rfl)
  (hbase:∀j,zB2 (.Subscript (.Name x p) a p2) "append" (C.X j).env (eval (.Subscript (.Name x p) a p2) (C.X j).env)=eval (.Subscript (.Name x p) a p2) (C.X j).env:=by intro _;rfl)
  (hfew:∀j,((zBu cpos (zAT [e] (C.X j).env)).all (λ x=>!x.1)&&(zET cpos (zCp [] (C.X j).env)).all (λ x=>x.1.isSome)&&decide ([e].length+([]:List zBz).length+(if ([]:List zBz).isEmpty then 0 else 1)<30))=true:=by intro _;rfl)
  (hline:(apos.endLine==cpos.line)=true:=by rfl)
  (hsw:∀j,zBv (.Call (.Attribute (.Subscript (.Name x p) a p2) "append" apos) [e] [] cpos) none pos.line (C.X j).env=pure false:=by intro _;rfl):
  SS C (.Expr (.Call (.Attribute (.Subscript (.Name x p) a p2) "append" apos) [e] [] cpos) pos) (gK i fa fe):=by
 obtain⟨t,h1,h2⟩:=he;obtain⟨ta,a1,a2⟩:=ha;refine⟨wM (tBM C.K "list" xK (tOp (aM5 C.K) (kJ i) ta) (cY t oH)),λ j=>nG (by rw[<-C.hK j];exact aCN zCA zDz zF0 xg (aLd aE8 (dO (hN j) (hv j) hd hcd) (a1 j) hp) (bT (h1 j) fH (hs1 j)) (hbase j) (hfew j) hline (hs1 j) rfl) (hsw j),λ τ Z H ρ lab De R W=>?_⟩;unfold gK at W;cases es:ρ[i]? with
 |none=>rw[es]at W;exact zAI W
 |some s=>
  rw[es]at W;cases s with
  |o2 ll=>
   dsimp only at W;rcases R.sl i _ es with z|⟨v,ev,top,xs,rfl,ht,hlt,kQ,hin⟩
   .cases z
   .refine⟨.ref top,ev,a2 τ Z H ρ lab _ R (W.bo.imp λ k _ w kv H1 s1 r1=>?_)⟩
    cases hk:at2 ll k with
    |none=>rw[hk]at w;exact zAI w
    |some q=>
     obtain⟨j,ds⟩:=q;rw[hk]at w;dsimp only at w;obtain⟨n,rfl,hj,hds⟩:=aIj hk;cases r1;have hjx:∃xj,xs[j]? =some xj:=by
      have:j<xs.length:=by rw[kQ];exact(zAL.mp hds).1
      exact⟨_,zAE this⟩
     obtain⟨xj,hxj⟩:=hjx;have hr:=hin j xj ds hxj hds;cases hr with
     |lst hl ml rl=>
      rename_i l ys;refine⟨top,xs,n,.ref l,rfl,rfl,SqL.of (s1 _ _ ht),by unfold atI;rw[kQ,hj];exact hxj,.inl ⟨rfl,ys,SqL.of (s1 _ _ hl)⟩,h2 τ Z H1 ρ lab _ (R.up s1) (w.bo.imp λ d _ w y H2 s2 r2=>?_)⟩;by_cases hz:ds.length<zAO
      .rw[if_pos hz]at w
       have s12:=s1.trans s2;refine⟨l,ys,y,rfl,rfl,s12 _ _ hl,by rw[rl.length];exact hz,λ H3 B h3=>?_⟩;have ltop:l≠top:=λ e=>by rw[e,hlt]at ml;cases ml
       let lab':Lab:=λ p=>match H1 p with
        |none=>(i+2,j+1)
        |some _=>lab p
       have lo:∀{p o},H1 p=some o->lab' p=lab p:=λ{p o} e=>by show(match H1 p with|none=>_|some _=>_)=_;rw[e]
       have ln:∀{p},H1 p=none->lab' p=(i+2,j+1):=λ{p} e=>by show(match H1 p with|none=>_|some _=>_)=_;rw[e]
       have R':RR C.K C.G τ ρ Z H2 lab':=((R.up s1).relab (λ p o e=>lo e) λ p hp=>by
        cases e:H1 p with
        |none=>exact(R.old.trans s1).free e
        |some o=>rw[lo e]at hp;exact R.new p hp).up s2
       have bE:lab' l=(i+2,j+1):=by rw[lo (s1 _ _ hl)];exact ml
       refine w Z H3 lab' (R'.mut ev (s12 _ _ hl) rfl (by rw[bE]) B ⟨top,xs,rfl,B _ _ (zCq ltop) (s12 _ _ ht),by rw[lo (s1 _ _ ht)];exact hlt,by rw[zBC];exact kQ,λ jj z dz f1 f2=>?_⟩);by_cases hjj:j=jj
       .subst hjj
        rw[hxj]at f1;cases f1;rw[zBL (zAL.mp hds).1]at f2;cases f2;refine .lst h3 bE ?_;have ra:Rps C.K (λ p=>lab' p=(i+2,j+1)/\p≠l) H2 (ys++[y]) (ds++[d]):=by
         refine(rl.mono s12 λ p o e z=>⟨by rw[lo (s1 _ _ e)];exact z.1,z.2⟩).append (.cons (r2.wk λ p o e z=>?_) .nil);rcases z with z|z
         .exact⟨ln z,λ q=>by subst q;rw[s1 _ _ hl]at z;cases z⟩
         .cases z
        exact ra.but B (s12 _ _ hl) rfl λ z=>z.2 rfl
       .rw[zBK hjj]at f2
        refine((hin jj z dz f1 f2).mono s12 (A':=λ p=>lab' p=(i+2,jj+1)) λ p o e q=>by rw[lo (s1 _ _ e)];exact q).but B (s12 _ _ hl) rfl λ q=>?_
        rw[bE]at q;simp only[Prod.mk.injEq]at q;lia
      .rw[if_neg hz]at w
       exact zAI w
  |_=>exact zAI W
end
mutual
def eqD:D->D->Bool
 | .non,.non=>true
 | .bl a,.bl b=>a==b
 | .bl a,.int b=>(if a then 1 else 0)==b
 | .int a,.bl b=>a==(if b then 1 else 0)
 | .int a,.int b=>a==b
 | .str a,.str b=>a==b
 | .tup l,.tup m=>nQ l m
 | .lst l,.lst m=>nQ l m
 |_,_=>false
def nQ:List D->List D->Bool
 |[],[]=>true
 |x::xs,y::ys=>eqD x y&&nQ xs ys
 |_,_=>false
end
mutual
def tV:D->Nat
 | .tup l=>dW l+1
 | .lst l=>dW l+1
 |_=>0
def dW:List D->Nat
 |[]=>0
 |d::r=>max (tV d) (dW r)
end
mutual
def bC:D->Bool
 | .tup l=>bG l
 | .lst l=>bG l
 | .dct _ _=>false
 | .set _=>false
 | .scr _=>false
 | .fn _=>false
 | .itm _ _=>false
 | .itx _ _=>false
 |_=>true
def bG:List D->Bool
 |[]=>true
 |d::r=>bC d&&bG r
end
mutual
theorem yV:∀d:D,bC d=true->eqD d d=true
 | .non,_=>by simp[eqD]
 | .bl b,_=>by simp[eqD]
 | .int i,_=>by simp[eqD]
 | .str x,_=>by simp[eqD]
 | .tup l,h=>by exact uq l (by simpa[bC]using h)
 | .lst l,h=>by exact uq l (by simpa[bC]using h)
 | .dct _ _,h=>by simp[bC]at h
 | .set _,h=>by simp[bC]at h
 | .scr _,h=>by simp[bC]at h
theorem uq:∀l:List D,bG l=true->nQ l l=true
 |[],_=>by simp[nQ]
 |d::r,h=>by
  simp only[bG,zAW]at h;simp only[nQ,zAW];exact⟨yV d h.1,uq r h.2⟩
end
structure mK(K:zAA)(H:Hp)(s:zAG):Prop where
 tup:∀{a:Addr} {xs:List V},SqT K H a xs->∃its:List Value,Vals xs its/\s.heap.IsTuple a its.toArray
 lst:∀{a:Addr} {xs:List V},H a=some (.lst xs)->∃its:List Value,Vals xs its/\s.heap.IsList a its.toArray
 inj:∀{a:Addr} {xs ys:List V},SqT K H a xs->SqT K H a ys->xs=ys
 ne:∀{a:Addr} {xs ys:List V},SqT K H a xs->H a=some (.lst ys)->False
def Inv.seqOk(I:L2.Inv X iX Z H s):mK X.K H s where
 tup:=λ h=>let⟨its,r,p,_⟩:=I.tuple h;⟨its,r,p⟩
 lst:=λ h=>let⟨its,r,p,_⟩:=I.list (SqL.of h);⟨its,r,p.isList⟩
 inj:=λ h h'=>I.tuple_inj h h'
 ne:=λ h h'=>by
  obtain⟨its,_,⟨o,e,c,_⟩,_⟩:=I.tuple h;obtain⟨its2,_,⟨o2,n2,e2,c2,_⟩,_⟩:=I.list (SqL.of h');rw[e]at e2;cases e2;rw[c]at c2;injection c2 with c3
  exact absurd c3 (by decide)
section
variable{K:zAA}{H:Hp}{s:zAG}
def ndP:D->Prop
 | .dct _ _=>False
 | .set _=>False
 | .scr _=>False
 | .fn _=>False
 | .itm _ _=>False
 | .itx _ _=>False
 |_=>True
def ndx{d:D}(h:bC d=true):ndP d:=by cases d<;>first|exact zCN|(simp[bC]at h)
def bL(h:bC (.dct a b)=true):False:=by simp[bC]at h
def du(h:bC (.set a)=true):False:=by simp[bC]at h
def dw(h:bC (.scr a)=true):False:=by simp[bC]at h
def gU(h:bC (.fn a)=true):False:=by simp[bC]at h
def eF(h:bC (.itm o a)=true):False:=by simp[bC]at h
def eE(h:bC (.itx o a)=true):False:=by simp[bC]at h
def jY(h:bC (.tup a)=true):bG a=true:=by simpa[bC]using h
def jZ(h:bC (.lst a)=true):bG a=true:=by simpa[bC]using h
def kj(h:bG (d::a)=true):bC d=true/\bG a=true:=by
 simp only[bG,zAW]at h;exact h
def aLL(K:zAA)(s:zAG)(H:Hp)(x:V)(d:D):Prop:=mK K H s->∀(A':Addr->Prop) (e:D),Rp K A' H x e->bC d=true->bC e=true->d=e
def aCs(K:zAA)(s:zAG)(H:Hp)(xs:List V)(ds:List D):Prop:=mK K H s->∀(A':Addr->Prop) (es:List D),Rps K A' H xs es->bG ds=true->bG es=true->ds=es
def aKa(ha:SqT K H a xs)(ih:aCs K s H xs ds):aLL K s H (.ref a) (.tup ds):=λ ok A' e h n1 n2=>by
 cases h with
 |tup hb r'=>
  have e:=ok.inj ha hb;subst e;rw[ih ok _ _ r' (jY n1) (jY n2)]
 |lst hb _ _=>exact(ok.ne ha hb).elim
 |_=>exact zAI (ndx n2)
def aKb(ha:H a=some (.lst xs))(ih:aCs K s H xs ds):aLL K s H (.ref a) (.lst ds):=λ ok A' e h n1 n2=>by
 cases h with
 |tup hb r'=>exact(ok.ne hb ha).elim
 |lst hb _ r'=>
  rw[ha]at hb;cases hb;rw[ih ok _ _ r' (jZ n1) (jZ n2)]
 |_=>exact zAI (ndx n2)
def aHy(h1:aLL K s H x d)(h2:aCs K s H xs ds):aCs K s H (x::xs) (d::ds):=λ ok A' es h n1 n2=>by
 cases h with
 |cons k r'=>rw[h1 ok _ _ k (kj n1).1 (kj n2).1,h2 ok _ _ r' (kj n1).2 (kj n2).2]
def Rp.inj(ok:mK K H s)(r:Rp K A H x d)(h:Rp K A' H x e)(n1:bC d=true)(n2:bC e=true):d=e:=
 Rp.rec (motive_1:=λ _ H x d _=>aLL K s H x d) (motive_2:=λ _ H xs ds _=>aCs K s H xs ds)
  (λ _ _ _ h _ _=>by cases h;rfl) (λ _ _ _ _ h _ _=>by cases h;rfl) (λ _ _ _ _ h _ _=>by cases h;rfl) (λ _ _ _ _ h _ _=>by cases h;rfl) (λ ha _ ih=>aKa ha ih) (λ ha _ _ ih=>aKb ha ih)
  (λ _ _ _ _ _ _ _ _ n1 _=>(bL n1).elim) (λ _ _ _ _ _ _ _ _ n1 _=>(bL n1).elim) (λ _ _ _ _ _ _ _ _ n1 _=>(du n1).elim) (λ _ _ _ _ _ n1 _=>(dw n1).elim) (λ _ _ _ _ _ n1 _=>(gU n1).elim) (λ _ _ _ _ _ n1 _=>(eF n1).elim) (λ _ _ _ _ _ n1 _=>(eE n1).elim)
  (λ _ _ _ h _ _=>by cases h;rfl) (λ _ _ h1 h2=>aHy h1 h2) r ok A' e h n1 n2
end
theorem aCc:∀(l m:List D),nQ l m=((zAw (min l.length m.length)).all (λ j=>match l[j]?,m[j]? with|some a,some b=>eqD a b|_,_=>true)&&l.length==m.length)
 |[],[]=>by simp[nQ]
 |[],y::ys=>by simp[nQ]
 |x::xs,[]=>by simp[nQ]
 |x::xs,y::ys=>by
  have ih:=aCc xs ys;simp only[nQ,ih,zAk,Nat.succ_min_succ,List.range_succ_eq_map,zDX,zEs,zAv,zCR,zBA,Nat.succ_eq_add_one,Nat.add_one_inj,zFb];congr 1;congr 1;simp
theorem aA9:∀{l:List D} {d:D},d∈l->tV d<=dW l
 |x::r,d,h=>by
  simp only[dW];rcases zA1.mp h with rfl|h
  .exact zH7 _ _
  .exact zAh (aA9 h) (zH2 _ _)
theorem qt:∀{l:List D} {d:D},d∈l->bG l=true->bC d=true
 |x::r,d,h,n=>by
  simp only[bG,zAW]at n;rcases zA1.mp h with rfl|h
  .exact n.1
  .exact qt h n.2
def jr(hn:n=ds.length)(hm:m=es.length):((zAw (min n m)).all (λ j=>match ds[j]?,es[j]? with|some a,some b=>eqD a b|_,_=>true)&&n==m)=nQ ds es:=by
 subst hn hm;exact(aCc ds es).symm
section
variable{K:zAA}{H:Hp}{s:zAG}
def aIs(K:zAA)(H:Hp)(s:zAG)(n:Nat):Prop:=∀(A1 A2:Addr->Prop) (x y:V) (d e:D) (A:zAc) (u v:Value),Rp K A1 H x d->Rp K A2 H y e->RelV x u->RelV y v->tV d<=n->bC d=true->bC e=true->A.units+n<cLine->zCg A s u v (eqD d e)
def aIt(K:zAA)(H:Hp)(s:zAG)(n:Nat):Prop:=∀(A1 A2:Addr->Prop) (xs ys:List V) (ds es:List D) (A:zAc) (us vs:List Value),Rps K A1 H xs ds->Rps K A2 H ys es->Vals xs us->Vals ys vs->dW ds<=n->bG ds=true->bG es=true->A.units+n<cLine->
  ∀(j:Nat) (h1:j<us.toArray.size) (h2:j<vs.toArray.size),zCg A s us.toArray[j] vs.toArray[j] (match ds[j]?,es[j]? with|some a,some b=>eqD a b|_,_=>true)
def yU(ok:mK K H s)(n:Nat)(IH:∀k,n=k+1->aIt K H s k):aIs K H s n:=by
 intro A1 A2 x y d e A u v r1 r2 ru rv hd nd ne hu;have hu0:A.units<cLine:=by lia
 cases r1 with
 |tup h1 q1=>
  rename_i a xs ds;cases ru;obtain⟨its,w1,t1⟩:=ok.tup h1;cases r2 with
  |tup h2 q2=>
   rename_i b ys es;cases rv;obtain⟨its2,w2,t2⟩:=ok.tup h2;by_cases hab:a=b
   .subst hab
    have e:=Rp.inj ok (Rp.tup h1 q1) (Rp.tup h2 q2) nd ne;rw[<-e,yV _ nd];exact zEg _
   .simp only[tV]at hd
    obtain⟨k,rfl⟩:∃k,n=k+1:=⟨n-1,by lia⟩
    have z:=zFw t1 t2 hu0 (IH k rfl _ _ _ _ _ _ _ _ _ q1 q2 w1 w2 (by lia) (jY nd) (jY ne) (by show A.units+1+k<cLine;lia));rw[jr (by rw[zAK,<-w1.length,q1.length]) (by rw[zAK,<-w2.length,q2.length])]at z;simp only[eqD];exact zEO hab z
  |lst h2 mm2 q2=>
   cases rv;obtain⟨its2,w2,t2⟩:=ok.lst h2;simp only[eqD];exact SeqAt.EqAt.tuple_list t1 t2 hu0
  |non=>cases rv;exact SeqAt.EqAt.tuple_none t1 hu0
  |bl b=>cases rv;exact SeqAt.EqAt.tuple_bool b t1 hu0
  |int i=>obtain⟨tk,rfl⟩:=rv;exact SeqAt.EqAt.tuple_int i tk t1 hu0
  |str i=>obtain⟨tk,rfl⟩:=rv;exact SeqAt.EqAt.tuple_str i tk t1 hu0
  |_=>exact zAI (ndx ne)
 |lst h1 mm1 q1=>
  rename_i a xs ds;cases ru;obtain⟨its,w1,t1⟩:=ok.lst h1;cases r2 with
  |lst h2 mm2 q2=>
   rename_i b ys es;cases rv;obtain⟨its2,w2,t2⟩:=ok.lst h2;by_cases hab:a=b
   .subst hab
    have e:=Rp.inj ok (Rp.lst h1 mm1 q1) (Rp.lst h2 mm2 q2) nd ne;rw[<-e,yV _ nd];exact zEg _
   .simp only[tV]at hd
    obtain⟨k,rfl⟩:∃k,n=k+1:=⟨n-1,by lia⟩
    have l1:its.toArray.size=ds.length:=by rw[zAK,<-w1.length,q1.length]
    have l2:its2.toArray.size=es.length:=by rw[zAK,<-w2.length,q2.length]
    by_cases hl:its.toArray.size=its2.toArray.size
    .have z:=zGC t1 t2 hl hu0 (IH k rfl _ _ _ _ _ _ _ _ _ q1 q2 w1 w2 (by lia) (jZ nd) (jZ ne) (by show A.units+1+k<cLine;lia))
     have z':=jr (ds:=ds) (es:=es) l1 l2;rw[<-hl,zFD,beq_self_eq_true,zCD]at z';rw[z']at z;simp only[eqD];exact zEO hab z
    .have z:=zEu t1 t2 (by simpa using hl) hu0
     have z':=jr (ds:=ds) (es:=es) l1 l2;rw[beq_eq_false_iff_ne.mpr hl,zEY]at z';simp only[eqD];rw[<-z'];exact zEO hab z
  |tup h2 q2=>
   cases rv;obtain⟨its2,w2,t2⟩:=ok.tup h2;simp only[eqD];exact SeqAt.EqAt.list_tuple t1 t2 hu0
  |non=>cases rv;exact SeqAt.EqAt.list_none t1 hu0
  |bl b=>cases rv;exact SeqAt.EqAt.list_bool b t1 hu0
  |int i=>obtain⟨tk,rfl⟩:=rv;exact SeqAt.EqAt.list_int i tk t1 hu0
  |str i=>obtain⟨tk,rfl⟩:=rv;exact SeqAt.EqAt.list_str i tk t1 hu0
  |_=>exact zAI (ndx ne)
 |non=>
  cases ru;cases r2 with
  |tup h2 q2=>cases rv;obtain⟨_,_,t2⟩:=ok.tup h2;exact SeqAt.EqAt.none_tuple t2 hu0
  |lst h2 mm2 q2=>cases rv;obtain⟨_,_,t2⟩:=ok.lst h2;exact SeqAt.EqAt.none_list t2 hu0
  |dK _ _ _=>exact(bL ne).elim
  |dT _ _ _=>exact(bL ne).elim
  |set _ _ _ _=>exact(du ne).elim
  |scr _=>exact(dw ne).elim
  |fn _=>exact(gU ne).elim
  |itm _=>exact(eF ne).elim
  |itx _=>exact(eE ne).elim
  |non=>cases rv;exact zEg _
  |bl b=>cases rv;exact SeqAt.EqAt.none_bool b
  |int i=>obtain⟨tk,rfl⟩:=rv;exact SeqAt.EqAt.none_int i tk
  |str i=>obtain⟨tk,rfl⟩:=rv;exact SeqAt.EqAt.none_str i tk
 |bl a=>
  cases ru;cases r2 with
  |tup h2 q2=>cases rv;obtain⟨_,_,t2⟩:=ok.tup h2;exact SeqAt.EqAt.bool_tuple a t2 hu0
  |lst h2 mm2 q2=>cases rv;obtain⟨_,_,t2⟩:=ok.lst h2;exact SeqAt.EqAt.bool_list a t2 hu0
  |dK _ _ _=>exact(bL ne).elim
  |dT _ _ _=>exact(bL ne).elim
  |set _ _ _ _=>exact(du ne).elim
  |scr _=>exact(dw ne).elim
  |fn _=>exact(gU ne).elim
  |itm _=>exact(eF ne).elim
  |itx _=>exact(eE ne).elim
  |non=>cases rv;exact SeqAt.EqAt.bool_none a
  |bl b=>cases rv;exact SeqAt.EqAt.bool_bool a b
  |int i=>obtain⟨tk,rfl⟩:=rv;exact SeqAt.EqAt.bool_int a i tk
  |str i=>obtain⟨tk,rfl⟩:=rv;exact SeqAt.EqAt.bool_str a i tk
 |int a=>
  obtain⟨tu,rfl⟩:=ru;cases r2 with
  |tup h2 q2=>cases rv;obtain⟨_,_,t2⟩:=ok.tup h2;exact SeqAt.EqAt.int_tuple a tu t2 hu0
  |lst h2 mm2 q2=>cases rv;obtain⟨_,_,t2⟩:=ok.lst h2;exact SeqAt.EqAt.int_list a tu t2 hu0
  |dK _ _ _=>exact(bL ne).elim
  |dT _ _ _=>exact(bL ne).elim
  |set _ _ _ _=>exact(du ne).elim
  |scr _=>exact(dw ne).elim
  |fn _=>exact(gU ne).elim
  |itm _=>exact(eF ne).elim
  |itx _=>exact(eE ne).elim
  |non=>cases rv;exact SeqAt.EqAt.int_none a tu
  |bl b=>cases rv;exact SeqAt.EqAt.int_bool a tu b
  |int i=>obtain⟨tk,rfl⟩:=rv;exact zFm a tu i tk
  |str i=>obtain⟨tk,rfl⟩:=rv;exact zFn a tu i tk
 |str a=>
  obtain⟨tu,rfl⟩:=ru;cases r2 with
  |tup h2 q2=>cases rv;obtain⟨_,_,t2⟩:=ok.tup h2;exact SeqAt.EqAt.str_tuple a tu t2 hu0
  |lst h2 mm2 q2=>cases rv;obtain⟨_,_,t2⟩:=ok.lst h2;exact SeqAt.EqAt.str_list a tu t2 hu0
  |dK _ _ _=>exact(bL ne).elim
  |dT _ _ _=>exact(bL ne).elim
  |set _ _ _ _=>exact(du ne).elim
  |scr _=>exact(dw ne).elim
  |fn _=>exact(gU ne).elim
  |itm _=>exact(eF ne).elim
  |itx _=>exact(eE ne).elim
  |non=>cases rv;exact SeqAt.EqAt.str_none a tu
  |bl b=>cases rv;exact SeqAt.EqAt.str_bool a tu b
  |int i=>obtain⟨tk,rfl⟩:=rv;exact zFo a tu i tk
  |str i=>obtain⟨tk,rfl⟩:=rv;exact SeqAt.EqAt.str_str a tu i tk
 |_=>exact zAI (ndx nd)
def aA1(ok:mK K H s)(n:Nat)(IH:aIs K H s n):aIt K H s n:=by
 intro A1 A2 xs ys ds es A us vs q1 q2 w1 w2 hd nd ne hu j h1 h2;have hj1:j<us.length:=by simpa using h1
 have hj2:j<vs.length:=by simpa using h2
 have hx:j<xs.length:=by rw[w1.length];exact hj1
 have hy:j<ys.length:=by rw[w2.length];exact hj2
 have ex:=zAE hx;have ey:=zAE hy;obtain⟨d,ed,rd⟩:=q1.get ex;obtain⟨e,ee,re⟩:=q2.get ey;obtain⟨u,eu,ru⟩:=w1.get ex;obtain⟨v,ev,rv⟩:=w2.get ey;have e1:us.toArray[j]=u:=by
  rw[zC1];exact zAe ((zAE hj1).symm.trans eu)
 have e2:vs.toArray[j]=v:=by
  rw[zC1];exact zAe ((zAE hj2).symm.trans ev)
 rw[e1,e2,ed,ee];exact IH _ _ _ _ _ _ _ _ _ rd re ru rv (zAh (aA9 (zAr ed)) hd) (qt (zAr ed) nd) (qt (zAr ee) ne) hu
theorem aIZ(ok:mK K H s):∀n,aIs K H s n
 |0=>yU ok 0 λ k h=>absurd h (by simp)
 |n+1=>yU ok (n+1) λ k h=>by
  have h':=zHT h;subst h';exact aA1 ok n (aIZ ok n)
def aNq(ok:mK K H s):∀{A1 A2:Addr->Prop} {x y:V} {d e:D} (n:Nat) {A:zAc} {u v:Value},Rp K A1 H x d->Rp K A2 H y e->RelV x u->RelV y v->tV d<=n->bC d=true->bC e=true->A.units+n<cLine->zCg A s u v (eqD d e)
 |_,_,_,_,_,_,n,A,u,v,r1,r2,ru,rv,hd,nd,ne,hu=>aIZ ok n _ _ _ _ _ _ _ _ _ r1 r2 ru rv hd nd ne hu
def aLm(ok:mK K H s):∀{A1 A2:Addr->Prop} {xs ys:List V} {ds es:List D} (n:Nat) {A:zAc} {us vs:List Value},Rps K A1 H xs ds->Rps K A2 H ys es->Vals xs us->Vals ys vs->dW ds<=n->bG ds=true->bG es=true->A.units+n<cLine->
  ∀(j:Nat) (h1:j<us.toArray.size) (h2:j<vs.toArray.size),zCg A s us.toArray[j] vs.toArray[j] (match ds[j]?,es[j]? with|some a,some b=>eqD a b|_,_=>true)
 |_,_,xs,ys,ds,es,n,A,us,vs,q1,q2,w1,w2,hd,nd,ne,hu,j,h1,h2=>aA1 ok n (aIZ ok n) _ _ _ _ _ _ _ _ _ q1 q2 w1 w2 hd nd ne hu j h1 h2
def aGp(ok:mK K H s)(n:Nat)(r1:Rp K A1 H x d)(r2:Rp K A2 H y e)(ru:RelV x u)(rv:RelV y v)(hd:tV d<=n)(nd:bC d=true)(ne:bC e=true)(hu:A.units+n<cLine):
  SeqAt.RcAt A s u v (eqD d e)/\SeqAt.RcNeAt A s u v (!eqD d e):=by
 have hu0:A.units<cLine:=by lia
 cases r1 with
 |tup h1 q1=>
  rename_i a xs ds;cases ru;obtain⟨its,w1,t1⟩:=ok.tup h1;cases r2 with
  |tup h2 q2=>
   rename_i b ys es;cases rv;obtain⟨its2,w2,t2⟩:=ok.tup h2;simp only[tV]at hd;obtain⟨k,rfl⟩:∃k,n=k+1:=⟨n-1,by lia⟩
   have he:=aLm ok (A:=A.in1) k q1 q2 w1 w2 (by lia) (jY nd) (jY ne) (by show A.units+1+k<cLine;lia);have z:=zFw t1 t2 hu0 he;have z2:=SeqAt.RcNeAt.tuples t1 t2 hu0 he;rw[jr (by rw[zAK,<-w1.length,q1.length]) (by rw[zAK,<-w2.length,q2.length])]at z z2;simp only[eqD];exact⟨z,z2⟩
  |lst h2 mm2 q2=>
   cases rv;obtain⟨its2,w2,t2⟩:=ok.lst h2;simp only[eqD];exact⟨SeqAt.RcAt.tuple_list t1 t2 hu0,SeqAt.RcNeAt.tuple_list t1 t2 hu0⟩
  |non=>cases rv;exact⟨SeqAt.RcAt.tuple_none t1 hu0,SeqAt.RcNeAt.tuple_none t1 hu0⟩
  |bl b=>cases rv;exact⟨SeqAt.RcAt.tuple_bool b t1 hu0,SeqAt.RcNeAt.tuple_bool b t1 hu0⟩
  |int i=>obtain⟨tk,rfl⟩:=rv;exact⟨SeqAt.RcAt.tuple_int i tk t1 hu0,SeqAt.RcNeAt.tuple_int i tk t1 hu0⟩
  |str i=>obtain⟨tk,rfl⟩:=rv;exact⟨SeqAt.RcAt.tuple_str i tk t1 hu0,SeqAt.RcNeAt.tuple_str i tk t1 hu0⟩
  |_=>exact zAI (ndx ne)
 |lst h1 mm1 q1=>
  rename_i a xs ds;cases ru;obtain⟨its,w1,t1⟩:=ok.lst h1;cases r2 with
  |lst h2 mm2 q2=>
   rename_i b ys es;cases rv;obtain⟨its2,w2,t2⟩:=ok.lst h2;simp only[tV]at hd;obtain⟨k,rfl⟩:∃k,n=k+1:=⟨n-1,by lia⟩
   have l1:its.toArray.size=ds.length:=by rw[zAK,<-w1.length,q1.length]
   have l2:its2.toArray.size=es.length:=by rw[zAK,<-w2.length,q2.length]
   have z':=jr (ds:=ds) (es:=es) l1 l2;by_cases hl:its.toArray.size=its2.toArray.size
   .have he:=aLm ok (A:=A.in1) k q1 q2 w1 w2 (by lia) (jZ nd) (jZ ne) (by show A.units+1+k<cLine;lia)
    have z:=zGC t1 t2 hl hu0 he;have z2:=SeqAt.RcNeAt.lists t1 t2 hl hu0 he;rw[<-hl,zFD,beq_self_eq_true,zCD]at z';rw[z']at z z2;simp only[eqD];exact⟨z,z2⟩
   .rw[beq_eq_false_iff_ne.mpr hl,zEY]at z'
    simp only[eqD];rw[<-z'];exact⟨zEu t1 t2 (by simpa using hl) hu0,SeqAt.RcNeAt.lists_lengths t1 t2 (by simpa using hl) hu0⟩
  |tup h2 q2=>
   cases rv;obtain⟨its2,w2,t2⟩:=ok.tup h2;simp only[eqD];exact⟨SeqAt.RcAt.list_tuple t1 t2 hu0,SeqAt.RcNeAt.list_tuple t1 t2 hu0⟩
  |non=>cases rv;exact⟨SeqAt.RcAt.list_none t1 hu0,SeqAt.RcNeAt.list_none t1 hu0⟩
  |bl b=>cases rv;exact⟨SeqAt.RcAt.list_bool b t1 hu0,SeqAt.RcNeAt.list_bool b t1 hu0⟩
  |int i=>obtain⟨tk,rfl⟩:=rv;exact⟨SeqAt.RcAt.list_int i tk t1 hu0,SeqAt.RcNeAt.list_int i tk t1 hu0⟩
  |str i=>obtain⟨tk,rfl⟩:=rv;exact⟨SeqAt.RcAt.list_str i tk t1 hu0,SeqAt.RcNeAt.list_str i tk t1 hu0⟩
  |_=>exact zAI (ndx ne)
 |non=>
  cases ru;cases r2 with
  |tup h2 q2=>cases rv;obtain⟨_,_,t2⟩:=ok.tup h2;exact⟨SeqAt.RcAt.none_tuple t2 hu0,SeqAt.RcNeAt.none_tuple t2 hu0⟩
  |lst h2 mm2 q2=>cases rv;obtain⟨_,_,t2⟩:=ok.lst h2;exact⟨SeqAt.RcAt.none_list t2 hu0,SeqAt.RcNeAt.none_list t2 hu0⟩
  |dK _ _ _=>exact(bL ne).elim
  |dT _ _ _=>exact(bL ne).elim
  |set _ _ _ _=>exact(du ne).elim
  |scr _=>exact(dw ne).elim
  |fn _=>exact(gU ne).elim
  |itm _=>exact(eF ne).elim
  |itx _=>exact(eE ne).elim
  |non=>cases rv;exact⟨SeqAt.RcAt.none_none,SeqAt.RcNeAt.none_none⟩
  |bl b=>cases rv;exact⟨SeqAt.RcAt.none_bool b,SeqAt.RcNeAt.none_bool b⟩
  |int i=>obtain⟨tk,rfl⟩:=rv;exact⟨SeqAt.RcAt.none_int i tk,SeqAt.RcNeAt.none_int i tk⟩
  |str i=>obtain⟨tk,rfl⟩:=rv;exact⟨SeqAt.RcAt.none_str i tk,SeqAt.RcNeAt.none_str i tk⟩
 |bl a=>
  cases ru;cases r2 with
  |tup h2 q2=>cases rv;obtain⟨_,_,t2⟩:=ok.tup h2;exact⟨SeqAt.RcAt.bool_tuple a t2 hu0,SeqAt.RcNeAt.bool_tuple a t2 hu0⟩
  |lst h2 mm2 q2=>cases rv;obtain⟨_,_,t2⟩:=ok.lst h2;exact⟨SeqAt.RcAt.bool_list a t2 hu0,SeqAt.RcNeAt.bool_list a t2 hu0⟩
  |dK _ _ _=>exact(bL ne).elim
  |dT _ _ _=>exact(bL ne).elim
  |set _ _ _ _=>exact(du ne).elim
  |scr _=>exact(dw ne).elim
  |fn _=>exact(gU ne).elim
  |itm _=>exact(eF ne).elim
  |itx _=>exact(eE ne).elim
  |non=>cases rv;exact⟨SeqAt.RcAt.bool_none a,SeqAt.RcNeAt.bool_none a⟩
  |bl b=>cases rv;exact⟨SeqAt.RcAt.bool_bool a b,SeqAt.RcNeAt.bool_bool a b⟩
  |int i=>obtain⟨tk,rfl⟩:=rv;exact⟨SeqAt.RcAt.bool_int a i tk,SeqAt.RcNeAt.bool_int a i tk⟩
  |str i=>obtain⟨tk,rfl⟩:=rv;exact⟨SeqAt.RcAt.bool_str a i tk,SeqAt.RcNeAt.bool_str a i tk⟩
 |int a=>
  obtain⟨tu,rfl⟩:=ru;cases r2 with
  |tup h2 q2=>cases rv;obtain⟨_,_,t2⟩:=ok.tup h2;exact⟨SeqAt.RcAt.int_tuple a tu t2 hu0,SeqAt.RcNeAt.int_tuple a tu t2 hu0⟩
  |lst h2 mm2 q2=>cases rv;obtain⟨_,_,t2⟩:=ok.lst h2;exact⟨SeqAt.RcAt.int_list a tu t2 hu0,SeqAt.RcNeAt.int_list a tu t2 hu0⟩
  |dK _ _ _=>exact(bL ne).elim
  |dT _ _ _=>exact(bL ne).elim
  |set _ _ _ _=>exact(du ne).elim
  |scr _=>exact(dw ne).elim
  |fn _=>exact(gU ne).elim
  |itm _=>exact(eF ne).elim
  |itx _=>exact(eE ne).elim
  |non=>cases rv;exact⟨SeqAt.RcAt.int_none a tu,SeqAt.RcNeAt.int_none a tu⟩
  |bl b=>cases rv;exact⟨SeqAt.RcAt.int_bool a tu b,SeqAt.RcNeAt.int_bool a tu b⟩
  |int i=>obtain⟨tk,rfl⟩:=rv;exact⟨SeqAt.RcAt.int_int a tu i tk,SeqAt.RcNeAt.int_int a tu i tk⟩
  |str i=>obtain⟨tk,rfl⟩:=rv;exact⟨SeqAt.RcAt.int_str a tu i tk,SeqAt.RcNeAt.int_str a tu i tk⟩
 |str a=>
  obtain⟨tu,rfl⟩:=ru;cases r2 with
  |tup h2 q2=>cases rv;obtain⟨_,_,t2⟩:=ok.tup h2;exact⟨SeqAt.RcAt.str_tuple a tu t2 hu0,SeqAt.RcNeAt.str_tuple a tu t2 hu0⟩
  |lst h2 mm2 q2=>cases rv;obtain⟨_,_,t2⟩:=ok.lst h2;exact⟨SeqAt.RcAt.str_list a tu t2 hu0,SeqAt.RcNeAt.str_list a tu t2 hu0⟩
  |dK _ _ _=>exact(bL ne).elim
  |dT _ _ _=>exact(bL ne).elim
  |set _ _ _ _=>exact(du ne).elim
  |scr _=>exact(dw ne).elim
  |fn _=>exact(gU ne).elim
  |itm _=>exact(eF ne).elim
  |itx _=>exact(eE ne).elim
  |non=>cases rv;exact⟨SeqAt.RcAt.str_none a tu,SeqAt.RcNeAt.str_none a tu⟩
  |bl b=>cases rv;exact⟨SeqAt.RcAt.str_bool a tu b,SeqAt.RcNeAt.str_bool a tu b⟩
  |int i=>obtain⟨tk,rfl⟩:=rv;exact⟨SeqAt.RcAt.str_int a tu i tk,SeqAt.RcNeAt.str_int a tu i tk⟩
  |str i=>obtain⟨tk,rfl⟩:=rv;exact⟨SeqAt.RcAt.str_str a tu i tk,SeqAt.RcNeAt.str_str a tu i tk⟩
 |_=>exact zAI (ndx nd)
end
section
variable{K:zAA}{H:Hp}{s:zAG}
open Classical in
def pq(K:zAA)(H:Hp)(d:D)(u:Value):Bool:=if h:∃e,bC e=true/\∃y,RelV y u/\Rp K (λ _=>True) H y e then eqD (choose h) d else false
def aEm(ok:mK K H s)(r:RelV y u)(h:Rp K A H y e)(ne:bC e=true):pq K H d u=eqD e d:=by
 have hx:∃e,bC e=true/\∃y,RelV y u/\Rp K (λ _=>True) H y e:=⟨e,ne,y,r,h.wk λ _ _ _ _=>trivial⟩
 unfold pq;rw[dif_pos hx];obtain⟨n',y',r',h'⟩:=Classical.choose_spec hx;have e1:=RelV.inj r r';subst e1;rw[Rp.inj ok h' h n' ne]
def inD(d:D)(es:List D):Bool:=es.any λ e=>eqD e d
def uB(ok:mK K H s):∀{A:Addr->Prop} {xs:List V} {es:List D} {us:List Value},Rps K A H xs es->Vals xs us->bG es=true->us.any (pq K H d)=inD d es:=by
 intro A xs es us h v n;induction v generalizing es with
 |nil=>cases h;rfl
 |cons k t ih=>
  cases h with
  |cons h r=>
   simp only[bG,zAW]at n;unfold inD;rw[zCZ,zCZ,aEm ok k h n.1,ih r n.2];rfl
def wF(ok:mK K H s)(rx:Rp K A0 H x d)(rv:RelV x v)(hu:A.units+n<cLine)(nd:bC d=true):∀{A1:Addr->Prop} {xs:List V} {es:List D} {us:List Value},Rps K A1 H xs es->Vals xs us->dW es<=n->bG es=true->∀u∈us,zCg A s u v (pq K H d u):=by
 intro A1 xs es us h v' hd ne u hm;induction v' generalizing es with
 |nil=>cases hm
 |cons k t ih=>
  cases h with
  |cons h r=>
   simp only[dW]at hd;simp only[bG,zAW]at ne;rcases zA1.mp hm with z|z
   .subst z
    rw[aEm ok k h ne.1];exact aNq ok n h rx k rv (zAh (zH7 _ _) hd) ne.1 nd hu
   .exact ih r (zAh (zH2 _ _) hd) ne.2 z
end
section
variable{X:Cx}
def aGw(K:zAA)(neg:Bool):R2:=λ x y H Q=>∃A B d e,Rp K A H x d/\Rp K B H y e/\tV d<=60/\bC d=true/\bC e=true/\Q (.bl (if neg then !eqD d e else eqD d e)) H
def aNI(hu:X.A.units+64<cLine):OpR X (zAm .Eq) (aGw X.K false):=by
 intro iX s Z H x y v u Q I rx ry h;obtain⟨A,B,d,e,r1,r2,hd,nd,ne,q⟩:=h;exact(aGp (Inv.seqOk I) 60 r1 r2 rx ry hd nd ne (by lia)).1 X.prog X.w X.xe _ ⟨.bl (eqD d e),H,I,rfl,q⟩
def aMy(hu:X.A.units+64<cLine):OpR X (zAm .NotEq) (aGw X.K true):=by
 intro iX s Z H x y v u Q I rx ry h;obtain⟨A,B,d,e,r1,r2,hd,nd,ne,q⟩:=h;exact(aGp (Inv.seqOk I) 60 r1 r2 rx ry hd nd ne (by lia)).2 X.prog X.w X.xe _ ⟨.bl (!eqD d e),H,I,rfl,q⟩
def aGv(K:zAA)(neg:Bool):R2:=λ x y H Q=>∃A B d a es,Rp K A H x d/\y= .ref a/\(Rp K B H (.ref a) (.lst es)\/Rp K B H (.ref a) (.tup es))/\dW es<=60/\bC d=true/\bG es=true/\Q (.bl (if neg then !inD d es else inD d es)) H
def aNH(hu:X.A.units+64<cLine):OpR X (zAm .In) (aGv X.K false):=by
 intro iX s Z H x y v u Q I rx ry h;obtain⟨A,B,d,a,es,rd,rfl,ra,hd,nd,ne,q⟩:=h;cases ry;have ok:=Inv.seqOk I;have hu1:X.A.in1.units+60<cLine:=by show X.A.units+1+60<cLine;lia
 rcases ra with ra|ra
 .cases ra with
  |lst ha _ r=>
   obtain⟨its,rv,tl⟩:=ok.lst ha;refine SeqAt.in_listAt (pq X.K H d) tl (λ w hw=>wF ok rd rx hu1 nd r rv hd ne w (by simpa using hw)) ⟨.bl _,H,I,rfl,?_⟩;rw[show its.toArray.any (pq X.K H d)=its.any (pq X.K H d)by simp,uB ok r rv ne];exact q
 .cases ra with
  |tup ha r=>
   obtain⟨its,rv,tl⟩:=ok.tup ha;refine SeqAt.in_tupleAt (pq X.K H d) tl (λ w hw=>wF ok rd rx hu1 nd r rv hd ne w (by simpa using hw)) ⟨.bl _,H,I,rfl,?_⟩;rw[show its.toArray.any (pq X.K H d)=its.any (pq X.K H d)by simp,uB ok r rv ne];exact q
def aF0(hu:X.A.units+64<cLine):OpR X (zAm .NotIn) (aGv X.K true):=by
 intro iX s Z H x y v u Q I rx ry h;obtain⟨A,B,d,a,es,rd,rfl,ra,hd,nd,ne,q⟩:=h;cases ry;have ok:=Inv.seqOk I;have hu1:X.A.in1.units+60<cLine:=by show X.A.units+1+60<cLine;lia
 rcases ra with ra|ra
 .cases ra with
  |lst ha _ r=>
   obtain⟨its,rv,tl⟩:=ok.lst ha;refine SeqAt.notIn_listAt (pq X.K H d) tl (λ w hw=>wF ok rd rx hu1 nd r rv hd ne w (by simpa using hw)) ⟨.bl _,H,I,rfl,?_⟩;rw[show its.toArray.any (pq X.K H d)=its.any (pq X.K H d)by simp,uB ok r rv ne];exact q
 .cases ra with
  |tup ha r=>
   obtain⟨its,rv,tl⟩:=ok.tup ha;refine SeqAt.notIn_tupleAt (pq X.K H d) tl (λ w hw=>wF ok rd rx hu1 nd r rv hd ne w (by simpa using hw)) ⟨.bl _,H,I,rfl,?_⟩;rw[show its.toArray.any (pq X.K H d)=its.any (pq X.K H d)by simp,uB ok r rv ne];exact q
end
section
variable{K:zAA}
def eqR(neg:Bool):D->D->Rs D:=λ d e=>if decide (tV d<=60)&&bC d&&bC e then .ok (.bl (if neg then !eqD d e else eqD d e))else .st
def inR(neg:Bool):D->D->Rs D:=λ d e=>match e with
 | .lst es=>if decide (dW es<=60)&&bC d&&bG es then .ok (.bl (if neg then !inD d es else inD d es))else .st
 | .tup es=>if decide (dW es<=60)&&bC d&&bG es then .ok (.bl (if neg then !inD d es else inD d es))else .st
 |_=>.st
def os_eq:OpS K (aGw K n) (eqR n):=by
 intro A x y d e H Q z rx ry ez q;unfold eqR at ez;split at ez
 .rename_i h
  simp only[zAW,decide_eq_true_eq]at h;cases ez;exact⟨A,A,d,e,rx,ry,h.1.1,h.1.2,h.2,q _ H (aY.refl H) (.bl _)⟩
 .cases ez
def aHZ:OpS K (aGv K n) (inR n):=by
 intro A x y d e H Q z rx ry ez q;unfold inR at ez;split at ez
 .split at ez
  .rename_i h
   simp only[zAW,decide_eq_true_eq]at h;cases ez;cases ry with
   |lst ha mm r=>exact⟨A,A,d,_,_,rx,rfl,.inl (.lst ha mm r),h.1.1,h.1.2,h.2,q _ H (aY.refl H) (.bl _)⟩
  .cases ez
 .split at ez
  .rename_i h
   simp only[zAW,decide_eq_true_eq]at h;cases ez;cases ry with
   |tup ha r=>exact⟨A,A,d,_,_,rx,rfl,.inr (.tup ha r),h.1.1,h.1.2,h.2,q _ H (aY.refl H) (.bl _)⟩
  .cases ez
 .cases ez
def aIE:∀x y z,eqR n x y= .ok z->imm z=true:=by
 intro x y z e;unfold eqR at e;split at e
 .cases e;rfl
 .cases e
def aNh:∀x y z,inR n x y= .ok z->imm z=true:=by
 intro x y z e;unfold inR at e;split at e
 .split at e
  .cases e;rfl
  .cases e
 .split at e
  .cases e;rfl
  .cases e
 .cases e
end
section
variable{K:zAA}
def boolsOf:List D->Option (List Bool)
 |[]=>some []
 | .bl i::r=>(boolsOf r).map (i::·)
 |_=>none
theorem tZ:∀{l:List D} {ns:List Bool},boolsOf l=some ns->l=ns.map .bl
 |[],ns,h=>by cases h;rfl
 | .bl i::r,ns,h=>by
  simp only[boolsOf,zCK]at h;obtain⟨ms,h1,rfl⟩:=h;rw[tZ h1];rfl
 | .non::_,_,h=>by cases h
 | .int _::_,_,h=>by cases h
 | .str _::_,_,h=>by cases h
 | .tup _::_,_,h=>by cases h
 | .lst _::_,_,h=>by cases h
 | .dct _ _::_,_,h=>by cases h
 | .set _::_,_,h=>by cases h
 | .scr _::_,_,h=>by cases h
theorem vW:∀ns:List Bool,boolsOf (ns.map .bl)=some ns
 |[]=>rfl
 |n::ns=>by simp only[zAD,boolsOf,vW ns,zDY]
theorem aAb{X:Cx}:∀{bs:List Bool} {us:List Value},Vals (bs.map V.bl) us->LSm.BoolsAre us bs
 |[],_,.nil=>.nil
 |b::bs,_,.cons r t=>by
  have e:_=zEP b:=r;subst e;exact .cons b (aAb (X:=X) t)
theorem Rps.bools_of:∀{xs:List V} {bs:List Bool},Rps K A H xs (bs.map D.bl)->xs=bs.map V.bl
 |_,[],.nil=>rfl
 |_,n::ns,.cons h r=>by
  cases h;rw[zAD,Rps.bools_of r]
def pG(f:List Bool->Bool):List D->Rs D
 |[.lst l]=>match boolsOf l with
  |some bs=>.ok (.bl (f bs))
  |none=>.st
 |_=>.st
def aIg{X:Cx}(hc:X.calm=true):cZ X (.builtin "all") (λ xs H Q=>∃(p:Addr) (bs:List Bool),xs=[.ref p]/\H p=some (.lst (bs.map V.bl))/\Q (.bl (bs.all id)) H):=by
 intro iX s Z H xs us Q I r h;obtain⟨p,bs,rfl,hp,q⟩:=h;obtain⟨u,rfl,ru⟩:=vals1 r;cases ru;obtain⟨its,rv,pl,hz⟩:=I.list (SqL.of hp);have hb:=aAb (X:=X) rv;have hl:=pl.isList;have hlt:p<s.heap.objs.size:=by obtain⟨_,e,_⟩:=hl;exact zA2 e
 refine call_all_walk (zFa hl ?_);refine⟨s.heap.objs.size,[s.heap.objs.size,p],[s.heap.objs.size],its.toArray.size,_,_,λ i=>(bs[i]?).getD true,rfl,Walks.list (A:=X.A.in1) (I.ok.hd hc) _ p (zA9 hlt) its.toArray,
  ⟨⟨_,zAN _ rfl,rfl,rfl⟩,hl.push _⟩,λ i v s' Q' E' hP hQ=>?_,λ h' tk hk=>?_⟩
 .obtain⟨b,e,rfl⟩:=hb.get i v (by simpa using hP)
  simp only[e,Option.getD_some]at hQ;exact zCJ hQ
 .have e:((zAw its.toArray.size).all λ i=>(bs[i]?).getD true)=bs.all id:=by
   rw[zAK,hb.length];exact LSm.range_all bs
  rw[e];exact⟨.bl _,H,I.kept (LSm.kept_iter hk),rfl,q⟩
def aNu:uH K (λ xs H Q=>∃(p:Addr) (bs:List Bool),xs=[.ref p]/\H p=some (.lst (bs.map V.bl))/\Q (.bl (f bs)) H) (pG f):=by
 intro A xs ds H Q z r ez q;unfold pG at ez;split at ez
 .split at ez
  .rename_i l bs e
   cases ez
   have:=tZ e
   subst this;cases r with
   |cons h r=>
    cases r;cases h with
    |lst h m r=>
     have:=r.bools_of
     subst this;exact⟨_,bs,rfl,h,q _ H (aY.refl H) (.bl _)⟩
  .cases ez
 .cases ez
def aKh:∀x z,pG f x= .ok z->imm z=true:=by
 intro x z e;unfold pG at e;split at e
 .split at e
  .cases e;rfl
  .cases e
 .cases e
def mmD(f:Int->Int->Int):List D->Rs D
 |[.int i,.int j]=>.ok (.int (f i j))
 |_=>.st
def aLr:uH K (λ xs H Q=>∃i j,xs=[.int i,.int j]/\Q (.int (f i j)) H) (mmD f):=by
 intro A xs ds H Q z r ez q;unfold mmD at ez;split at ez
 .cases ez
  cases r with
  |cons h r=>
   cases h;cases r with
   |cons h r=>
    cases h;cases r;exact⟨_,_,rfl,q _ H (aY.refl H) (.int _)⟩
 .cases ez
def aIB:∀x z,mmD f x= .ok z->imm z=true:=by
 intro x z e;unfold mmD at e;split at e
 .cases e;rfl
 .cases e
def cM:List D->Rs D
 |[.lst l]=>.ok (.tup l)
 |[.tup l]=>.ok (.tup l)
 |_=>.st
def aI9:uH K (λ xs H Q=>∃p ys,xs=[.ref p]/\((SqL K H p ys/\∀l,H l=none->Q (.ref l) (upd H l (.tup ys)))\/(SqT K H p ys/\Q (.ref p) H))) cM:=by
 intro A xs ds H Q z r ez q;unfold cM at ez;split at ez
 .cases ez
  cases r with
  |cons h r=>
   cases r;cases h with
   |lst h m r=>exact⟨_,_,rfl,.inl ⟨SqL.of h,λ l hl=>q _ _ (au hl _) (.tup (SqT.of aX) ((r.wk λ _ _ _ z=>.inr z.1).up (au hl _)))⟩⟩
 .cases ez
  cases r with
  |cons h r=>
   cases r;cases h with
   |tup h r=>exact⟨_,_,rfl,.inr ⟨h,q _ H (aY.refl H) (.tup h (r.wk λ _ _ _ z=>.inr z))⟩⟩
 .cases ez
end
def cutD(l:List D)(lo hi:Option Int):List D:=(l.drop (HT.sIx l.length 0 lo)).take (HT.sIx l.length l.length hi-HT.sIx l.length 0 lo)
def Rps.cut{K:zAA}(r:Rps K A H xs ds)(lo hi:Option Int):Rps K A H (yg xs lo hi) (cutD ds lo hi):=by
 unfold yg cutD;rw[r.length];exact(r.drop _).take _
def slD(d:D)(lo hi:Option Int):Rs D:=match d with
 | .tup l=>.ok (.tup (cutD l lo hi))
 | .lst l=>.ok (.lst (cutD l lo hi))
 |_=>.st
def aO6(K:zAA):V->Option Int->Option Int->Hp->VK->Prop:=λ x lo hi H Q=>(∃a xs,x= .ref a/\SqT K H a xs/\∀c H',aY H H'->SqT K H' c (yg xs lo hi)->Q (.ref c) H')\/aO7 K x lo hi H Q
def aJM:SlR X (λ x lo hi H Q=>∃a xs,x= .ref a/\SqT X.K H a xs/\∀c H',aY H H'->SqT X.K H' c (yg xs lo hi)->Q (.ref c) H'):=by
 intro iX s Z H x v vl vu lo hi sl Q I rx hs pl pu h;obtain⟨a,xs,rfl,hx,q⟩:=h;cases rx;obtain⟨its,r,ht,hz⟩:=I.tuple hx;have kQ:its.toArray.size=xs.length:=by rw[zAK];exact r.length.symm
 refine⟨"tuple",_,zBX.lookup,ht.typeIs,?_⟩;by_cases hw:HT.sIx xs.length 0 lo=0/\HT.sIx xs.length xs.length hi=xs.length
 .refine HT.sO ht hs pl pu (by rw[kQ];exact hw.1) (by rw[kQ];exact hw.2) ⟨.ref a,H,I,rfl,q a H (aY.refl H) ?_⟩
  have:yg xs lo hi=xs:=by
   unfold yg;rw[hw.1,hw.2,List.drop_zero,Nat.sub_zero,zFC]
  rw[this];exact hx
 .refine HT.sJ ht hs pl pu (by rw[kQ];exact hw) ?_ (by rw[kQ];exact hz)
  rw[kQ];refine⟨.ref s.heap.objs.size,_,I.laid (t':=s.toks) (o:=.tup (yg xs lo hi)) (λ b ob q=>zAC _ q) (zAV _) ?_,rfl,q _ _ (au (I.hok.fresh (zAV _)) _) (SqT.of aX)⟩;exact⟨⟨zAh (vR xs lo hi) hz,NoD.push _⟩,_,(r.drop (HT.sIx xs.length 0 lo)).take (HT.sIx xs.length xs.length hi-HT.sIx xs.length 0 lo),zHO _ _⟩
def aPa:SlR X (aO6 X.K):=aJM.or aJN
section
variable{C:Ct}{pos p2:Pos}{m:Mode}{a e:Expr}{fa fe:En->Rs D}{lo hi:Option Expr}
def aPl(K:zAA)(G:Gx)(t:TO)(f:En->Rs (Option Int)):Prop:=∀τ Z H ρ lab (Q:Option Int->Hp->Prop),RR K G τ ρ Z H lab->WR G (f ρ) (λ o=>∀H',aY H H'->Q o H')->t Z H Q
def SO(C:Ct)(e:Option Expr)(f:En->Rs (Option Int)):Prop:=∃t,(∀i,PO (C.X i) e t)/\aPl C.K C.G t f
def aE0:En->Rs (Option Int):=λ _=>.ok none
def aEZ(fe:En->Rs D):En->Rs (Option Int):=λ ρ=>(fe ρ).bd λ d=>match d with
 | .int i=>.ok (some i)
 |_=>.st
def aJL:SO C none aE0:=⟨_,λ _=>aJq,λ τ Z H ρ lab Q R W=>W H (aY.refl H)⟩
def aJK(h:SE C m e fe):SO C (some e) (aEZ fe):=by
 obtain⟨t,h1,h2⟩:=h;refine⟨_,λ i=>aJp (h1 i),λ τ Z H ρ lab Q R W=>h2 τ Z H ρ lab _ R (W.bd.imp λ d _ w x H1 s r=>?_)⟩;cases r with
 |int i=>exact⟨i,rfl,w H1 s⟩
 |_=>exact zAI w
def aAk(fa:En->Rs D)(fl fh:En->Rs (Option Int)):En->Rs D:=λ ρ=>(fa ρ).bd λ d=>(fl ρ).bd λ l=>(fh ρ).bd λ h=>okD (slD d l h)
def aG7{fl fh:En->Rs (Option Int)}(ha:SE C m a fa)(hl:SO C lo fl)(hh:SO C hi fh):SE C m (.Subscript a (.Slice lo hi none p2) pos) (aAk fa fl fh):=by
 obtain⟨t,h1,h2⟩:=ha;obtain⟨tl,l1,l2⟩:=hl;obtain⟨th,k1,k2⟩:=hh;refine⟨tSl (aO6 C.K) t tl th,λ i=>by rw[<-C.hK i];exact aHP aPa (h1 i) (l1 i) (k1 i),λ τ Z H ρ lab Q R W=>h2 τ Z H ρ lab _ R (W.bd.imp λ d _ w x H1 s1 r1=>?_)⟩;refine l2 τ Z H1 ρ lab _ (R.up s1) (w.bd.imp λ ol _ w H2 s2=>?_);refine k2 τ Z H2 ρ lab _ ((R.up s1).up s2) (w.bd.imp λ oh _ w H3 s3=>?_);obtain⟨z,ez,w⟩:=w.okD;have s:=s1.trans (s2.trans s3);have r3:=r1.up (s2.trans s3);cases d with
 |tup l=>
  cases ez;cases r3 with
  |tup h r=>exact .inl ⟨_,_,rfl,h,λ c H' s' hc=>w _ H' (s.trans s') (.tup hc ((r.cut ol oh).up s'))⟩
 |lst l=>
  cases ez;cases r3 with
  |lst h mm r=>
   exact .inr ⟨_,_,rfl,SqL.of h,λ p hp=>w _ _ (s.trans (au hp _)) (.lst aX (.inl (s.free hp)) (((r.cut ol oh).wk λ q o e z=>⟨z.1,λ e'=>by subst e';rw[hp]at e;cases e⟩).up (au hp _)))⟩
 |_=>cases ez
end
section
variable{C:Ct}{pos p:Pos}{m m1 m2 m3:Mode}{a b c e:Expr}{fa fb fc:En->Rs D}{ga:En->Rs (List D)}
def Ct.u0(C:Ct)(i:C.ι):(C.X i).A.units<cLine:=(C.room i).units0
def Ct.u64(C:Ct)(i:C.ι):(C.X i).A.units+64<cLine:=(C.room i).units
def Ct.ltR(C:Ct)(i:C.ι):OpR (C.X i) (zAm .Lt) (λ x y H Q=>rI0 (λ i j=>.bl (decide (i<j))) x y H Q\/aJb C.K x y H Q):=by have h:=aNB (X:=C.X i) (C.u0 i);rw[C.hK i]at h;exact h
def Ct.leR(C:Ct)(i:C.ι):OpR (C.X i) (zAm .LtE) (λ x y H Q=>rI0 (λ i j=>.bl (decide (i<=j))) x y H Q\/aJc C.K x y H Q):=by have h:=aND (X:=C.X i) (C.u0 i);rw[C.hK i]at h;exact h
def Ct.eqRl(C:Ct)(i:C.ι):OpR (C.X i) (zAm .Eq) (aGw C.K false):=by have h:=aNI (X:=C.X i) (C.u64 i);rw[C.hK i]at h;exact h
def Ct.neRl(C:Ct)(i:C.ι):OpR (C.X i) (zAm .NotEq) (aGw C.K true):=by have h:=aMy (X:=C.X i) (C.u64 i);rw[C.hK i]at h;exact h
def Ct.inRl(C:Ct)(i:C.ι):OpR (C.X i) (zAm .In) (aGv C.K false):=by have h:=aNH (X:=C.X i) (C.u64 i);rw[C.hK i]at h;exact h
def Ct.ninRl(C:Ct)(i:C.ι):OpR (C.X i) (zAm .NotIn) (aGv C.K true):=by have h:=aF0 (X:=C.X i) (C.u64 i);rw[C.hK i]at h;exact h
def Ct.aPO(C:Ct)(i:C.ι):OpR (C.X i) (zCG .Add) (aGy C.K):=by have h:=aKK (X:=C.X i);rw[C.hK i]at h;exact h
def v4:D->D->Rs D:=i2 (λ _ _=>true) λ i j=>.int (i-j)
def yL:D->D->Rs D:=i2 (λ _ j=>decide (0<j)&&decide (j<1073741824)) λ i j=>.int (i / j)
def uc:D->D->Rs D:=i2 (λ _ j=>decide (0<j)) λ i j=>.int (i%j)
def aMc:D->D->Rs D:=i2 (λ i j=>decide (0<=j)&&decide (j<=1000000)&&decide (i.natAbs<2^64)) λ i j=>.int (i^j.toNat)
def fG(ha:SE C m1 a fa)(hb:SE C m2 b fb):SE C (jn m1 m2) (.BinOp a .Add b pos) (op2 cj fa fb):=aAD C.aPO aMu ha hb
def qX(ha:SE C m1 a fa)(hb:SE C m2 b fb):SE C (jn m1 m2) (.BinOp a .Mult b pos) (op2 iw fa fb):=aAD (λ _=>aKE) aMt ha hb
def w5(ha:SE C m1 a fa)(hb:SE C m2 b fb):SE C (some []) (.BinOp a .Sub b pos) (op2 v4 fa fb):=fj (aAD (λ _=>aMv) aKD ha hb) λ _ _ h=>lC aBS h
def aEJ(ha:SE C m1 a fa)(hb:SE C m2 b fb):SE C (some []) (.BinOp a .FloorDiv b pos) (op2 yL fa fb):=fj (aAD (λ _=>aKF) (aDW λ i j h=>by simpa[aPZ]using h) ha hb) λ _ _ h=>lC aBS h
def uM(ha:SE C m1 a fa)(hb:SE C m2 b fb):SE C (some []) (.BinOp a .Mod b pos) (op2 uc fa fb):=fj (aAD (λ _=>aNA) (aDW λ i j h=>by simpa using h) ha hb) λ _ _ h=>lC aBS h
def aMO(ha:SE C m1 a fa)(hb:SE C m2 b fb):SE C (some []) (.BinOp a .Pow b pos) (op2 aMc fa fb):=fj (aAD (λ _=>aMx) (aDW λ i j h=>by simp only[zAW,decide_eq_true_eq]at h;exact⟨h.1.1,h.1.2,h.2⟩) ha hb) λ _ _ h=>lC aBS h
def aDE(ha:SE C m a fa):SE C (some []) (.UnaryOp .USub a pos) (op1 aF2 fa):=fj (aO0 (λ _=>aLx) aLv ha) λ _ _ h=>aKe aKf h
def aO2(ha:SE C m1 a fa)(hb:SE C m2 b fb):SE C (some []) (.Compare a [.Lt] [b] pos) (op2 ltD fa fb):=fj (aAn C.ltR aHX ha hb) λ _ _ h=>lC aIC h
def aGb(ha:SE C m1 a fa)(hb:SE C m2 b fb):SE C (some []) (.Compare a [.Eq] [b] pos) (op2 (eqR false) fa fb):=fj (aAn C.eqRl os_eq ha hb) λ _ _ h=>lC aIE h
def aO1(ha:SE C m1 a fa)(hb:SE C m2 b fb):SE C (some []) (.Compare a [.NotEq] [b] pos) (op2 (eqR true) fa fb):=fj (aAn C.neRl os_eq ha hb) λ _ _ h=>lC aIE h
def aO3(ha:SE C m1 a fa)(hb:SE C m2 b fb)(hm:zBk .In b=false:=by with_unfolding_all rfl):SE C (some []) (.Compare a [.In] [b] pos) (op2 (inR false) fa fb):=fj (aAn C.inRl aHZ ha hb hm) λ _ _ h=>lC aNh h
def aBn(ha:SE C m1 a fa)(hb:SE C m2 b fb):ST C (.Compare a [.Lt] [b] pos) (tsb (op2 ltD fa fb)):=mW C.ltR aHX ha hb
def aOZ(ha:SE C m1 a fa)(hb:SE C m2 b fb):ST C (.Compare a [.GtE] [b] pos) (tsb (op2 geD fa fb)):=mW (λ _=>aOo) aDX ha hb
def aAC(ha:SE C m1 a fa)(hb:SE C m2 b fb):ST C (.Compare a [.Eq] [b] pos) (tsb (op2 (eqR false) fa fb)):=mW C.eqRl os_eq ha hb
def aBm(ha:SE C m1 a fa)(hb:SE C m2 b fb):ST C (.Compare a [.NotEq] [b] pos) (tsb (op2 (eqR true) fa fb)):=mW C.neRl os_eq ha hb
def aOY(ha:SE C m1 a fa)(hb:SE C m2 b fb)(hm:zBk .In b=false:=by with_unfolding_all rfl):ST C (.Compare a [.In] [b] pos) (tsb (op2 (inR false) fa fb)):=mW C.inRl aHZ ha hb hm
def wQ(ha:SE C m1 a fa)(hb:SE C m2 b fb)(hm:zBk .NotIn b=false:=by with_unfolding_all rfl):ST C (.Compare a [.NotIn] [b] pos) (tsb (op2 (inR true) fa fb)):=mW C.ninRl aHZ ha hb hm
def aOX(ha:SE C m1 a fa)(hb:SE C m2 b fb):ST C (.Compare a [.Is] [b] pos) (tsb (op2 (isD false) fa fb)):=mW (λ _=>aNF) aOl ha hb
def aJX(ha:SE C m1 a fa)(hb:SE C m2 b fb)(hc:SE C m3 c fc)(hm:zHY [.LtE,.LtE] [b,c]=false:=by with_unfolding_all rfl):SE C (some []) (.Compare a [.LtE,.LtE] [b,c] pos) (chD leD leD fa fb fc):=aBu C.leR aHY C.leR aHY aNg ha hb hc hm
def aEI(ha:SE C m1 a fa)(hb:SE C m2 b fb)(hc:SE C m3 c fc)(hm:zHY [.LtE,.Lt] [b,c]=false:=by with_unfolding_all rfl):SE C (some []) (.Compare a [.LtE,.Lt] [b,c] pos) (chD leD ltD fa fb fc):=aBu C.leR aHY C.ltR aHX aIC ha hb hc hm
def aN(ha:SE C m1 a fa)(hb:SE C m2 b fb)(hp:wH b:=by exact λ _ _=>rfl):SE C m1 (.Subscript a b pos) (op2 ixD fa fb):=by
 obtain⟨t,h1,h2⟩:=ha;obtain⟨u,k1,k2⟩:=hb;refine⟨tOp (rIx C.K) t u,λ i=>by rw[<-C.hK i];exact aLd aNa (h1 i) (k1 i) hp,λ τ Z H ρ lab Q R W=>?_⟩;refine h2 τ Z H ρ lab _ R (W.bd.imp λ d _ w x H1 s1 r1=>?_);refine k2 τ Z H1 ρ lab _ (R.up s1) (w.bd.imp λ e _ w y H2 s2 r2=>?_);obtain⟨z,ez,w⟩:=w.okD;have hi:imm e=true:=by
  unfold ixD at ez;split at ez<;>first|rfl|cases ez
 refine aOk (fpM m1 lab H) x y d e H2 Q z (r1.up s2) (r2.imm hi) ez λ v H' s r=>w v H' ((s1.trans s2).trans s) (r.wk λ p o _ q=>?_)
 rcases q with q|q
 .exact .inl ((s1.trans s2).free q)
 .exact q
def jF(hm:C.mg "len"=none)(ha:SA C m [a] ga)(he:∀i,zAT [a] (C.X i).env=[(false,eval a (C.X i).env)]:=by intro _;rfl)(hg:∀i,Gl (C.X i) "len":=by intro _;rfl):SE C (some []) (.Call (.Name "len" p) [a] [] pos) (opA fJ ga):=
 fj (lW (λ i=>by have h:=tY (X:=C.X i);rw[C.hK i]at h;exact h) aIa hg hm zH5 ha (by decide) (by decide) he) λ _ _ h=>pO aEe h
def aAo(hm:C.mg "all"=none)(ha:SA C m [a] ga)(he:∀i,zAT [a] (C.X i).env=[(false,eval a (C.X i).env)]:=by intro _;rfl)(hg:∀i,Gl (C.X i) "all":=by intro _;rfl)(hv:zAp "all"=some (.builtin "all"):=by decide+kernel):SE C (some []) (.Call (.Name "all" p) [a] [] pos) (opA (pG λ bs=>bs.all id) ga):=
 fj (lW (λ i=>aIg (C.calm i)) aNu hg hm hv ha (by decide) (by decide) he) λ _ _ h=>pO aKh h
def aJV(hm:C.mg "min"=none)(ha:SA C m [a,b] ga)(he:∀i,zAT [a,b] (C.X i).env=(false,eval a (C.X i).env)::zAT [b] (C.X i).env:=by intro _;rfl)(hpl:∀i,(zBu pos (zAT [b] (C.X i).env)).any (·.1)=false:=by intro _;rfl)(hg:∀i,Gl (C.X i) "min":=by intro _;rfl)(hv:zAp "min"=some (.builtin "min"):=by decide+kernel):SE C (some []) (.Call (.Name "min" p) [a,b] [] pos) (opA (mmD λ i j=>if j<i then j else i) ga):=
 fj (lW (λ i=>aFx (C.calm i)) aLr hg hm hv ha (by decide) (by decide) he hpl) λ _ _ h=>pO aIB h
def aEH(hm:C.mg "max"=none)(ha:SA C m [a,b] ga)(he:∀i,zAT [a,b] (C.X i).env=(false,eval a (C.X i).env)::zAT [b] (C.X i).env:=by intro _;rfl)(hpl:∀i,(zBu pos (zAT [b] (C.X i).env)).any (·.1)=false:=by intro _;rfl)(hg:∀i,Gl (C.X i) "max":=by intro _;rfl)(hv:zAp "max"=some (.builtin "max"):=by decide+kernel):SE C (some []) (.Call (.Name "max" p) [a,b] [] pos) (opA (mmD λ i j=>if j>i then j else i) ga):=
 fj (lW (λ i=>aFy (C.calm i)) aLr hg hm hv ha (by decide) (by decide) he hpl) λ _ _ h=>pO aIB h
def gR(hm:C.mg "tuple"=none)(ha:SA C m [a] ga)(he:∀i,zAT [a] (C.X i).env=[(false,eval a (C.X i).env)]:=by intro _;rfl)(hg:∀i,Gl (C.X i) "tuple":=by intro _;rfl)(hv:zAp "tuple"=some (.type "tuple"):=by decide+kernel):SE C m (.Call (.Name "tuple" p) [a] [] pos) (opA cM ga):=
 aGc (λ i=>by have h:=zm (X:=C.X i);rw[C.hK i]at h;exact h) aI9 hg hm hv ha (by decide) (by decide) he
def aEB(K:zAA):Sp:=λ vs H Q E=>∃a ns,vs=[.ref a]/\pH K H a ns/\ns.length<=63/\∀H',Q (.bl true) H'
def aK0{K:zAA}(h:∀ns:List Int,ns.length<=63->F [.scr ns]= .ok (.bl true)):∀vs H Q E,aEB K vs H Q E->spF K cl 1 F vs H Q E:=by
 rintro vs H Q E ⟨a,ns,rfl,hs,hl,q⟩;refine⟨[.scr ns],rfl,.cons (.scr hs) .nil,?_⟩;rw[h ns hl];intro v H' s r;cases r;exact q H'
def aMT{K:zAA}{a:Addr}(hO:Only H)(h:SqL K H a (ns.map V.int)):pH K H a ns:=by
 rcases h with (h|⟨o,h⟩)|h
 .rcases hO a with z|⟨o,xs,z⟩
  .rw[h]at z;cases z
  .rw[h]at z;cases z
 .exact .inl ⟨o,h⟩
 .exact .inr h
end
section
variable{K:zAA}
theorem aAQ:∀{ns:List Int} {us:List Value},Vals (ns.map V.int) us->∃ts:List (Int×Tok),us=ts.map (λ q=>zDB q.1 q.2)/\ts.map zDt=ns
 |[],_,.nil=>⟨[],rfl,rfl⟩
 |n::ns,_,.cons r t=>by
  obtain⟨tk,e⟩:∃tk,_=zDB n tk:=r
  obtain⟨ts,e1,e2⟩:=aAQ t;subst e;exact⟨(n,tk)::ts,by rw[e1];rfl,by rw[<-e2];rfl⟩
def aFw(hc:X.calm=true):cZ X (.builtin "min") (λ xs H Q=>∃(p:Addr) (ns:List Int) (m:Int),xs=[.ref p]/\H p=some (.lst (ns.map V.int))/\ns.min?=some m/\Q (.int m) H):=by
 intro iX s Z H xs us Q I r h;obtain⟨p,ns,m,rfl,hp,hm,q⟩:=h;obtain⟨u,rfl,ru⟩:=vals1 r;cases ru;obtain⟨its,rv,pl,hz⟩:=I.list (SqL.of hp);obtain⟨ts,rfl,rfl⟩:=aAQ rv;have hsz:0<ts.toArray.size:=by
  cases ts with
  |nil=>cases hm
  |cons a b=>simp
 refine min_intList (xs:=ts.toArray) (I.ok.hd hc) (by have:=pl.isList;simpa[intItems]using this) hsz λ v h' tk hv hk=>?_
 obtain⟨t,rfl⟩:=intItems_at hv;obtain⟨h1,h2⟩:=argBest_lt (numAt ts.toArray) (ts.toArray.size-1);have hM:(ts.map zDt).min?=some (numAt ts.toArray (argBest (λ i j=>decide (numAt ts.toArray i<numAt ts.toArray j)) (ts.toArray.size-1))):=by
  rw[List.min?_eq_some_iff];refine⟨?_,λ a ha=>?_⟩
  .rw[numAt_eq];exact getD_mem (by rw[zAF];simp at h1 hsz ⊢;omega)
  .obtain⟨j,hj,rfl⟩:=mem_getD ha
   have:=h2 j (by rw[zAF]at hj;simp;omega)
   rw[numAt_eq _ j]at this;exact this
 rw[hm]at hM;injection hM with hM
 exact⟨.int m,H,I.kept hk,⟨t,by rw[hM]⟩,q⟩
def qJ(f:List Int->Option Int):List D->Rs D
 |[.lst l]=>match intsOf l with
  |some ns=>match f ns with
   |some m=>.ok (.int m)
   |none=>.st
  |none=>.st
 |_=>.st
def aKw:uH K (λ xs H Q=>∃(p:Addr) (ns:List Int) (m:Int),xs=[.ref p]/\H p=some (.lst (ns.map V.int))/\f ns=some m/\Q (.int m) H) (qJ f):=by
 intro A xs ds H Q z r ez q;unfold qJ at ez;split at ez
 .split at ez
  .rename_i l ns e
   split at ez
   .rename_i m em
    cases ez
    have:=bQ e
    subst this;cases r with
    |cons h r=>
     cases r;cases h with
     |lst h _ r=>
      have:=r.ints_of
      subst this;exact⟨_,ns,m,rfl,h,em,q _ H (aY.refl H) (.int _)⟩
   .cases ez
  .cases ez
 .cases ez
def aIA:∀x z,qJ f x= .ok z->imm z=true:=by
 intro x z e;unfold qJ at e;split at e
 .split at e
  .split at e
   .cases e;rfl
   .cases e
  .cases e
 .cases e
end
section
variable{C:Ct}{pos p:Pos}{a:Expr}{ga:En->Rs (List D)}{m:Mode}
def aJU(hm:C.mg "min"=none)(ha:SA C m [a] ga)(he:∀i,zAT [a] (C.X i).env=[(false,eval a (C.X i).env)]:=by intro _;rfl)(hg:∀i,Gl (C.X i) "min":=by intro _;rfl)(hv:zAp "min"=some (.builtin "min"):=by decide+kernel):SE C (some []) (.Call (.Name "min" p) [a] [] pos) (opA (qJ zFU) ga):=
 fj (lW (λ i=>aFw (C.calm i)) aKw hg hm hv ha (by decide) (by decide) he) λ _ _ h=>pO aIA h
end
end VL
namespace L2
open PySem PySem.Spec PyProof.Rows
def cxW(P:zAY)(w:World)(K:zAA)(mg:Str->Option Value)(base:Heap)(N:List Str)(qual:Str)(scope:Scope)(f:Addr)(cd:Value)(A:zAc)(s:zAG)(H:Hp)(Pt:Addr):Cx where
 prog:=P
 w:=w
 K:=K
 mg:=mg
 base:=base
 A:=A.deeper (zEF qual scope s.heap.objs.size f cd)
 N:=N
 z5:=s
 zS:=H
 env:=zEF qual scope s.heap.objs.size f cd
 outer:=[]
 stack:=[zEF qual scope s.heap.objs.size f cd]
 ex:=[Pt]
 calm:=true
 fn:=λ _=>true
 pn:=[]
 xe:=λ _ _=>False
 ta:=[(Pt,PySem.W.tabObj #[])]
 tq:=qual++".<locals>."++"<lambda>"
end L2
namespace VL
open PySem PySem.Spec PyProof.Rows L2
end VL
namespace L2
open PySem PySem.Spec PyProof.Rows
def pe_isi{X:Cx}{n0:Str}{e:Expr}{c:V}{p p' pos:Pos}(hN:X.N[0]? =some n0)(hv:X.env.scope.names.lookup n0=some .local)(hg:Gl X "isinstance")(hm:X.mg "isinstance"=none)(hc:PE X e (tC c))(hse:zAT [e] X.env=(false,eval e X.env)::zAT [] X.env:=by rfl)
  (hpl:(zBu pos (zAT [e] X.env)).any (·.1)=false:=by rfl)(d:Nd n0:=by decide)(d':(n0==("__classdict__":Str))=false:=by decide):PE X (.Call (.Name "isinstance" p) [.Name n0 p',e] [] pos) (aP7 X.K c):=
 jg aGB hg hm rfl (bT (dO hN (.inl hv) d d') (bT hc fH hse)) (hpl:=hpl)
section
variable{P:zAY}{w:World}{K:zAA}{mg:Str->Option Value}{base:Heap}{x q n0 n1 n2 odd:Str}{st:Stmt}{f:Addr}{fd:zA8}{k:Nat}{wd:Addr->Option Str}{c1 c2:V}{k1 k2 k3 k4:List V}{l1 l2:List Str}{a1 a2:Expr}{as1 as2 e1 e2 e3 e4 w1 w2:List Expr}{kw1 kw2:List zBz}
 {p1 p2 p3 p4 p5 p6 p7 p8 p9 p10 p11 p12 p13 p14 p15 p16 p17 p18 p19 p20 p21 p22 p23 p24 p25 p26 p27 p28 p29 p30 p31 p32 p33 p34 p35 p36 p37 p38 p39 p40:Pos}{q1 q2 q3 q4 q5 q6 q7:Pos}{j1 j2 j3 j4 j5:Nat}
end
structure LawOk(P:zAY)(w:World)(K:zAA)(mg:Str->Option Value)(fa Pt:Addr)(k n:Nat):Prop where
 ex:∃(x name qual:Str) (params:zE6) (body:List Stmt) (scope:Scope) (dV kV doc pm ct oc:Value) (an od:Option Addr) (c:Addr) (osl:Array (Option Value)) (N:List Str),
  K.lookup Pt=none/\PySem.W.codeHdIn K c Pt=true/\K.lookup fa=some ⟨oc,od,.func (zBy name qual params body scope dV kV doc pm an (.ref c) ct),osl⟩/\zD3 K (.ref c) qual=true/\aV N [x] scope/\
  (∀(s:zAG) (u:Value),zF1 s (zBy name qual params body scope dV kV doc pm an (.ref c) ct) ⟨[u],[]⟩ [(x,u)])/\
  ∀(a:Addr) (ns:List Int),ns.length<=n->∀(base:Heap) (s:zAG) (H:Hp),jy k (callerA.deeper (zEF qual scope s.heap.objs.size fa (.ref c)))->aPV (cxW P w K mg base N qual scope fa (.ref c) zEv s H Pt) Pt->Only H->SqL K H a (ns.map V.int)->
   ∃t,PSs (cxW P w K mg base N qual scope fa (.ref c) zEv s H Pt) body t/\t {nx:=λ _ _=>False,rt:=λ v _=>v= .bl true} (start N [.ref a]) H
end L2
namespace VL
open PySem PySem.Spec PyProof.Rows L2
section
variable{O:zBx}{kz:Nat->O.α}{n:Nat}
def Wr{α:Type}(kz:Nat->O.α)(n:Nat):zFl α->(α->Prop)->Prop
 | .ret a,Q=>Q a
 | .ask i j k,Q=>i<n/\j<n/\Wr kz n (k (O.blt (kz i) (kz j))) Q
theorem Wr.bindI:∀{t:zFl α},Wr kz n t (λ a=>Wr kz n (g a) Q)->Wr kz n (t.bind g) Q
 | .ret _,h=>h
 | .ask _ _ _,⟨h1,h2,h3⟩=>⟨h1,h2,Wr.bindI h3⟩
abbrev Pm(n:Nat)(p:Array Nat):Prop:=p.Perm (zAw n).toArray
def Pm.sz(h:Pm n p):p.size=n:=by
 have:=h.size_eq
 simpa using this
def Pm.in(h:Pm n p)(hi:i<n):p.getD i 0<n:=by
 have hs:i<p.size:=by rw[h.sz];exact hi
 have e:p.getD i 0=p[i]:=by simp[Array.getD,hs]
 rw[e];have hm:p[i]∈(zAw n).toArray:=h.mem_iff.mp (Array.getElem_mem hs);simpa using hm
def Kp(kz:Nat->O.α)(p:Array Nat)(i:Nat):O.α:=kz (p.getD i 0)
def aC2(h:p[i]? =q[j]?):Kp kz p i=Kp kz q j:=by
 unfold Kp;congr 1;rw[zFE,zFE,h]
def aHo(hs:c<p.size)(hd:d<=c)(k:Nat):
  Kp kz (bubble p c d) k=if k=c-d then Kp kz p c else if c-d<k/\k<=c then Kp kz p (k-1)else Kp kz p k:=by
 have e:=getElem?_bubble hs d hd k;by_cases u1:k=c-d
 .rw[if_pos u1]at e ⊢
  exact aC2 e
 .rw[if_neg u1]at e ⊢
  by_cases u2:c-d<k/\k<=c
  .rw[if_pos u2]at e ⊢
   exact aC2 e
  .rw[if_neg u2]at e ⊢
   exact aC2 e
def aDd(hj:j<=p.size)(k:Nat):Kp kz (zED p i j) k=if i<=k/\k<j then Kp kz p (i+j-1-k)else Kp kz p k:=by
 unfold zED;have e:=getElem?_mirror_all (i:=i) hj k;by_cases u1:i<=k/\k<j
 .rw[if_pos u1]at e ⊢
  exact aC2 e
 .rw[if_neg u1]at e ⊢
  exact aC2 e
def pN(hj:j<=p.size)(he:∀k,i<=k->k<j->Kp kz p k=Kp kz p (j-1))(k:Nat):Kp kz (zED p i j) k=Kp kz p k:=by
 rw[aDd hj];split
 .rw[he _ (by lia) (by lia),he k (by lia) (by lia)]
 .rfl
def Up(kz:Nat->O.α)(p:Array Nat)(k:Nat):Prop:=∀i j,i<=j->j<k->O.kle (Kp kz p i) (Kp kz p j)
def Dn(kz:Nat->O.α)(p:Array Nat)(k:Nat):Prop:=∀i j,i<=j->j<k->O.kle (Kp kz p j) (Kp kz p i)
def xJ(h:Pm n p)(i j:Nat):Pm n (zED p i j):=(mirror_perm _ _ _ _).trans h
def Up.succ(h:Up kz p m)(hm:1<=m)(hl:O.kle (Kp kz p (m-1)) (Kp kz p m)):Up kz p (m+1):=by
 intro i j hij hj;by_cases q:j<m
 .exact h i j hij q
 .have q':j=m:=by lia
  subst q';by_cases q2:i=j
  .rw[q2];exact zCj _
  .exact zDp (h i (j-1) (by lia) (by lia)) hl
def Dn.succ(h:Dn kz p m)(hm:1<=m)(hl:O.kle (Kp kz p m) (Kp kz p (m-1))):Dn kz p (m+1):=by
 intro i j hij hj;by_cases q:j<m
 .exact h i j hij q
 .have q':j=m:=by lia
  subst q';by_cases q2:i=j
  .rw[q2];exact zCj _
  .exact zDp hl (h i (j-1) (by lia) (by lia))
theorem aCu(hp:Pm n p)(hr:r<=n):∀(f m:Nat),1<=m->m+f=r->Up kz p m->
  (∀m',1<=m'->m'<=r->Up kz p m'->(m'=r\/O.klt (Kp kz p m') (Kp kz p (m'-1)))->Q m')->Wr kz n (PySem.W.kas_asc p f m) Q
 |0,m,h1,hm,hu,k=>k m h1 (by lia) hu (.inl (by lia))
 |f+1,m,h1,hm,hu,k=>by
  refine⟨hp.in (by lia),hp.in (by lia),?_⟩;have hd:O.blt (kz (p.getD m 0)) (kz (p.getD (m-1) 0))=O.blt (Kp kz p m) (Kp kz p (m-1)):=rfl;rw[hd];cases hb:O.blt (Kp kz p m) (Kp kz p (m-1))with
  |true=>exact k m h1 (by lia) hu (.inr hb)
  |false=>exact aCu hp hr f (m+1) (by lia) (by lia) (hu.succ h1 hb) k
theorem vq(hr:r<=n):∀(f:Nat) (p:Array Nat) (m e:Nat),Pm n p->1<=m->m+f=r->Dn kz p m->e+1<=m->(∀i,m-(e+1)<=i->i<m->Kp kz p i=Kp kz p (m-1))->
  (∀p' m' e',Pm n p'->1<=m'->m'<=r->Dn kz p' m'->e'+1<=m'->(∀i,m'-(e'+1)<=i->i<m'->Kp kz p' i=Kp kz p' (m'-1))->Q (p',m',e'))->Wr kz n (PySem.W.kas_desc f p m e) Q
 |0,p,m,e,hp,h1,hm,hd,he,hq,k=>k p m e hp h1 (by lia) hd he hq
 |f+1,p,m,e,hp,h1,hm,hd,he,hq,k=>by
  have hsz:m<=p.size:=by rw[hp.sz];lia
  refine⟨hp.in (by lia),hp.in (by lia),?_⟩;have hx:O.blt (kz (p.getD m 0)) (kz (p.getD (m-1) 0))=O.blt (Kp kz p m) (Kp kz p (m-1)):=rfl;rw[hx];cases hb:O.blt (Kp kz p m) (Kp kz p (m-1))with
  |true=>
   have hd':Dn kz p (m+1):=hd.succ h1 (zEf hb);dsimp only;rw[if_pos rfl];by_cases hz:e>0
   .rw[if_pos hz]
    refine vq hr f _ (m+1) 0 (xJ hp _ _) (by lia) (by lia) (λ i j hij hj=>?_) (by lia) (λ i u v=>by congr 1;lia) k;rw[pN hsz hq,pN hsz hq];exact hd' i j hij hj
   .rw[if_neg hz]
    exact vq hr f p (m+1) 0 hp (by lia) (by lia) hd' (by lia) (λ i u v=>by congr 1;lia) k
  |false=>
   dsimp only;rw[if_neg (by simp)];refine⟨hp.in (by lia),hp.in (by lia),?_⟩;have hy:O.blt (kz (p.getD (m-1) 0)) (kz (p.getD m 0))=O.blt (Kp kz p (m-1)) (Kp kz p m):=rfl;rw[hy];cases hc:O.blt (Kp kz p (m-1)) (Kp kz p m)with
   |true=>exact k p m e hp h1 (by lia) hd he hq
   |false=>
    dsimp only;rw[if_neg (by simp)];have hee:Kp kz p m=Kp kz p (m-1):=zGQ hc hb;refine vq hr f p (m+1) (e+1) hp (by lia) (by lia) (hd.succ h1 hc) (by lia) (λ i u v=>?_) k;rw[show m+1-1=m by lia];by_cases hi:i=m
    .rw[hi]
    .rw[hee]
     exact hq i (by lia) (by lia)
def aDt(hr:r<=n)(hp:Pm n p)(h1:1<=m)(hm:m<=r)(hd:Dn kz p m)(k:∀m' p',Pm n p'->1<=m'->m'<=r->Up kz p' m'->Q (m',p')):Wr kz n (PySem.W.kas_tail3 m r p) Q:=by
 have hsz:m<=p.size:=by rw[hp.sz];lia
 refine Wr.bindI (aCu (xJ hp 0 m) hr (r-m) m h1 (by lia) (λ i j hij hj=>?_) λ m' a1 a2 a3 _=>k m' _ (xJ hp 0 m) a1 a2 a3);rw[aDd hsz,aDd hsz,if_pos (by lia),if_pos (by lia)];exact hd _ _ (by lia) (by lia)
def uz(hr:r<=n)(hp:Pm n p)(hm:m+1<=r)(hd:Dn kz p (m+1))(k:∀m' p',Pm n p'->1<=m'->m'<=r->Up kz p' m'->Q (m',p')):Wr kz n (PySem.W.kas_descPart m r p) Q:=by
 refine Wr.bindI (vq hr (r-(m+1)) p (m+1) 0 hp (by lia) (by lia) hd (by lia) (λ i u v=>by congr 1;lia) λ p' m' e' a1 a2 a3 a4 a5 a6=>?_);have hsz:m'<=p'.size:=by rw[a1.sz];lia
 dsimp only;by_cases hz:e'>0
 .rw[if_pos hz]
  refine aDt hr (xJ a1 _ _) a2 a3 (λ i j hij hj=>?_) k;rw[pN hsz a6,pN hsz a6];exact a4 i j hij hj
 .rw[if_neg hz]
  exact aDt hr a1 a2 a3 a4 k
def aGJ(hr:r<=n)(hp:Pm n p)(h1:1<=r)(k:∀m' p',Pm n p'->1<=m'->m'<=r->Up kz p' m'->Q (m',p')):Wr kz n (PySem.W.kas_count r p) Q:=by
 refine Wr.bindI (aCu hp hr (r-1) 1 (zAV 1) (by lia) (λ i j hij hj=>by rw[show i=j by lia];exact zCj _) λ m a1 a2 a3 a4=>?_);by_cases hm:m=r
 .rw[if_pos (by simpa using hm)]
  exact k m p hp a1 a2 a3
 .rw[if_neg (by simpa using hm)]
  have hl:O.klt (Kp kz p m) (Kp kz p (m-1)):=a4.resolve_left hm;by_cases hg:m>1
  .rw[if_pos hg]
   refine⟨hp.in (by lia),hp.in (by lia),?_⟩;have hx:O.blt (kz (p.getD 0 0)) (kz (p.getD (m-1) 0))=O.blt (Kp kz p 0) (Kp kz p (m-1)):=rfl;rw[hx];cases hb:O.blt (Kp kz p 0) (Kp kz p (m-1))with
   |true=>exact k m p hp a1 a2 a3
   |false=>
    dsimp only;rw[if_neg (by simp)];have hsz:m<=p.size:=by rw[hp.sz];lia
    have kK:∀i,0<=i->i<m->Kp kz p i=Kp kz p (m-1):=λ i _ hi=>zGQ (a3 i (m-1) (by lia) (by lia)) (zDp hb (a3 0 i (by lia) hi))
    refine uz hr (xJ hp 0 m) (by lia) (λ i j hij hj=>?_) k;rw[pN hsz kK,pN hsz kK];by_cases hjm:j<m
    .rw[kK i (by lia) (by lia),kK j (by lia) hjm];exact zCj _
    .have hj':j=m:=by lia
     subst hj';by_cases hi:i=j
     .rw[hi];exact zCj _
     .rw[kK i (by lia) (by lia)];exact zEf hl
  .rw[if_neg hg]
   have hm1:m=1:=by lia
   subst hm1;refine uz hr hp (by lia) (λ i j hij hj=>?_) k;by_cases hi:i=j
   .rw[hi];exact zCj _
   .have e1:i=0:=by lia
    have e2:j=1:=by lia
    subst e1 e2;exact zEf hl
theorem wJ(hp:Pm n p)(hc:c<n)(hu:Up kz p c):∀(f l r:Nat),l<=r->r<=c->r-l<=f->(∀i,i<l->O.kle (Kp kz p i) (Kp kz p c))->(∀i,r<=i->i<c->O.klt (Kp kz p c) (Kp kz p i))->
  (∀l',l'<=c->(∀i,i<l'->O.kle (Kp kz p i) (Kp kz p c))->(∀i,l'<=i->i<c->O.klt (Kp kz p c) (Kp kz p i))->Q l')->Wr kz n (zG3 p c f l r) Q
 |0,l,r,a1,a2,a3,a4,a5,k=>by
  have e:l=r:=by lia
  subst e;exact k l a2 a4 a5
 |f+1,l,r,a1,a2,a3,a4,a5,k=>by
  unfold zG3;by_cases hg:l ≥ r
  .rw[if_pos hg]
   have e:l=r:=by lia
   subst e;exact k l a2 a4 a5
  .rw[if_neg hg]
   refine⟨hp.in hc,hp.in (by lia),?_⟩;have hx:O.blt (kz (p.getD c 0)) (kz (p.getD ((l+r) / 2) 0))=O.blt (Kp kz p c) (Kp kz p ((l+r) / 2)):=rfl;rw[hx];cases hb:O.blt (Kp kz p c) (Kp kz p ((l+r) / 2))with
   |true=>exact wJ hp hc hu f l ((l+r) / 2) (by lia) (by lia) (by lia) a4 (λ i u v=>KeyOrd.klt_of_klt_of_kle hb (hu _ _ u v)) k
   |false=>exact wJ hp hc hu f ((l+r) / 2+1) r (by lia) a2 (by lia) (λ i u=>zDp (hu i ((l+r) / 2) (by lia) (by lia)) hb) a5 k
theorem aGK:∀(f:Nat) (p:Array Nat) (c:Nat),Pm n p->c+f=n->Up kz p c->(∀p',Pm n p'->Up kz p' n->Q p')->Wr kz n (PySem.W.kas_bin f p c) Q
 |0,p,c,hp,hc,hu,k=>k p hp (by rw[show n=c by lia];exact hu)
 |f+1,p,c,hp,hc,hu,k=>by
  refine Wr.bindI (wJ hp (by lia) hu c 0 c (by lia) (zAV c) (by lia) (λ i u=>by lia) (λ i u v=>by lia) λ l a1 a2 a3=>?_);refine aGK f _ (c+1) ((bubble_perm _ _ _).trans hp) (by lia) (λ i j hij hj=>?_) k;have hs:c<p.size:=by rw[hp.sz];lia
  rw[aHo hs (by lia),aHo hs (by lia),show c-(c-l)=l by lia]
  repeat' split
  all_goals first
   |(exfalso;lia)
   |exact O.irrefl _
   |exact a2 _ (by lia)
   |exact KeyOrd.klt_asymm (a3 _ (by lia) (by lia))
   |exact hu _ _ (by lia) (by lia)
def aJA(h1:1<=n)(k:∀p,Pm n p->Up kz p n->Q p):Wr kz n (PySem.W.kas_sort n) Q:=by
 refine Wr.bindI (aGJ (zAV n) (zGN _) h1 λ m p a1 a2 a3 a4=>?_);dsimp only;by_cases hm:m<n
 .rw[if_pos hm]
  exact aGK _ p _ a1 (by lia) (by rw[show max m 1=m by lia];exact a4) k
 .rw[if_neg hm]
  exact k p a1 (by rw[show n=m by lia];exact a4)
theorem aBf{I:zAG->Prop}(hc:∀i j (C:Bool->zAG->Prop) s,I s->i<n->j<n->(∀s',I s'->C (O.blt (kz i) (kz j)) s')->cmp i j C s):
  ∀(t:zFl α) (s:zAG),I s->Wr kz n t (λ a=>∀s',I s'->Q a s')->t.kasWp cmp Q s
 | .ret a,s,hI,h=>h s hI
 | .ask i j k,s,hI,⟨h1,h2,h3⟩=>hc i j _ s hI h1 h2 λ s' hI'=>aBf hc _ s' hI' h3
end
theorem aBI:∀a:List Int,HT.lexLt a a=false
 |[]=>rfl
 |x::a=>by rw[HT.jk,if_pos rfl];exact aBI a
theorem rZ:∀a b c:List Int,HT.lexLt a b=true->HT.lexLt b c=true->HT.lexLt a c=true
 |[],[],c,h,_=>by cases h
 |[],_::_,[],_,h=>by cases h
 |[],_::_,_::_,_,_=>rfl
 |_::_,[],_,h,_=>by cases h
 |_::_,_::_,[],_,h=>by cases h
 |x::a,y::b,z::c,h1,h2=>by
  rw[HT.jk]at h1 h2 ⊢;by_cases e1:x=y
  .subst e1
   rw[if_pos rfl]at h1;by_cases e2:x=z
   .rw[if_pos e2]at h2 ⊢
    exact rZ a b c h1 h2
   .rw[if_neg e2]at h2 ⊢
    exact h2
  .rw[if_neg e1]at h1
   simp only[decide_eq_true_eq]at h1;by_cases e2:y=z
   .subst e2
    rw[if_neg e1];simpa using h1
   .rw[if_neg e2]at h2
    simp only[decide_eq_true_eq]at h2;rw[if_neg (by lia)];simp only[decide_eq_true_eq];lia
theorem xm:∀a b:List Int,HT.lexLt a b=false->HT.lexLt b a=false->a=b
 |[],[],_,_=>rfl
 |[],_::_,h,_=>by cases h
 |_::_,[],_,h=>by cases h
 |x::a,y::b,h1,h2=>by
  rw[HT.jk]at h1 h2;by_cases e:x=y
  .subst e
   rw[if_pos rfl]at h1 h2;rw[xm a b h1 h2]
  .rw[if_neg e]at h1
   rw[if_neg λ q=>e q.symm]at h2;simp only[decide_eq_false_iff_not]at h1 h2;lia
def aHg(a b c:List Int)(h:HT.lexLt a c=true):HT.lexLt a b=true\/HT.lexLt b c=true:=by
 cases e1:HT.lexLt a b with
 |true=>exact .inl rfl
 |false=>
  right;cases e2:HT.lexLt b a with
  |true=>exact rZ b a c e2 h
  |false=>rw[<-xm a b e1 e2];exact h
def aD8:zBx:=⟨List Int,HT.lexLt,aBI,rZ,aHg,xm⟩
inductive dU(h:Heap):List Value->List (List Int)->Prop where
 |nil:dU h [] []
 |cons {x:Addr} {o:Obj} {xs:Array Value} {k:Nat} {ns:List Int} {vs:List Value} {nss:gV} (ho:h.get? x=some o) (hc:o.cls= .type "tuple") (hd:o.data= .seq xs k) (hi:zBD xs.toList ns) (hne:ns≠[]) (r:dU h vs nss):dU h (.ref x::vs) (ns::nss)
theorem dU.mono(k:∀x o,h.get? x=some o->o.cls= .type "tuple"->h'.get? x=some o):∀{vs:List Value} {nss:gV},dU h vs nss->dU h' vs nss
 |_,_,.nil=>.nil
 |_,_,.cons ho hc hd hi hne r=>.cons (k _ _ ho hc) hc hd hi hne (dU.mono k r)
theorem dU.at:∀{vs:List Value} {nss:gV} {i:Nat},dU h vs nss->i<vs.length->∃x o xs k,vs.getD i zAu= .ref x/\h.get? x=some o/\o.cls= .type "tuple"/\o.data= .seq xs k/\zBD xs.toList (nss.getD i [])/\nss.getD i []≠[]
 |_,_,_,.nil,hi=>by simp at hi
 |_,_,0,.cons ho hc hd hi hne _,_=>⟨_,_,_,_,rfl,ho,hc,hd,hi,hne⟩
 |_,_,i+1,.cons _ _ _ _ _ r,hi=>by
  obtain⟨x,o,xs,k,q⟩:=dU.at (i:=i) r (by simpa using hi);exact⟨x,o,xs,k,by simpa using q⟩
theorem dU.firsts:∀{vs:List Value} {nss:gV},dU h vs nss->∃fs,PySem.W.KatTups h vs fs/\fs.length=vs.length/\∀f∈fs,∃n t,f=zDB n t
 |_,_,.nil=>⟨[],.nil,rfl,λ f hf=>by simp at hf⟩
 |_,_,.cons (xs:=xs) ho hc hd hi hne r=>by
  obtain⟨fs,h1,h2,h3⟩:=dU.firsts r;obtain⟨l,rfl⟩:∃l:List Value,xs=l.toArray:=⟨xs.toList,by simp⟩
  rw[show l.toArray.toList=l by simp]at hi;cases hi with
  |nil=>exact absurd rfl hne
  |cons n t q=>
   rename_i l' ns';refine⟨.int n t::fs,.cons ho hc hd (by simp) h1,by simp[h2],λ f hf=>?_⟩;rcases zA1.mp hf with rfl|hf
   .exact⟨n,t,rfl⟩
   .exact h3 f hf
section
variable{prog:zAY}{w:World}{A:zAc}{E:Value->zAG->Prop}{s:zAG}
def aC3:∀{xs ys:List Value} {ns ms:List Int} (i:Nat),zBD xs ns->zBD ys ms->fin=decide (xs.length<ys.length)->Q (HT.lexLt ns ms) s->PySem.W.KatLex prog w A b fin Q (xs.zip ys) i s:=by
 intro xs ys ns ms i hx;induction hx generalizing ys ms i with
 |nil=>intro hy hf q;cases hy<;>(subst hf;exact q)
 |@cons x t xs ns r ih=>
  intro hy hf q;cases hy with
  |nil=>subst hf;exact q
  |@cons y u ys ms r'=>?_
  rw[zAy];refine PySem.W.kat_cons (wpAny_eqBool_int ?_);rw[HT.jk]at q;by_cases e:x=y
  .rw[if_pos e]at q
   rw[show(x==y)=true by simpa using e];exact PySem.W.kat_yes (ih (i+1) r' (by rw[hf];simp) q)
  .rw[if_neg e]at q
   rw[show(x==y)=false by simpa using e];refine PySem.W.kat_no ?_;cases hb:(b&&i==0)with
   |true=>exact oneLt_int q
   |false=>exact PySem.W.kat_one _ _ (zFV q)
def aDf(hx:s.heap.get? x=some ox)(dx:ox.data= .seq xs n)(hy:s.heap.get? y=some oy)(dy:oy.data= .seq ys k)(hi:zBD xs.toList ns)(hj:zBD ys.toList ms)
  (q:Q (HT.lexLt ns ms) s):wpAny (model prog w) A (keyLt' (tuples' b) (.ref x) (.ref y)) Q E s:=
 PySem.W.kat_lt hx dx hy dy (aC3 0 hi hj (by simp) q)
def pZ(vs:List Value)(p:Array Nat):Array Value:=(p.toList.map λ i=>vs.getD i zAu).toArray
def aIx(h:vs.length<2):(vs.toArray.zip vs.toArray).map (·.2)=pZ vs (zAw vs.length).toArray:=by
 cases vs with
 |nil=>simp[pZ]
 |cons v t=>
  cases t with
  |nil=>simp[pZ]
  |cons u t=>exact absurd h (zFu.mpr (Nat.le_add_left 2 t.length))
def aD7(ho:s.heap.get? a=some (zBY "list" vs.toArray c))(ht:dU s.heap vs nss)(h64:vs.length<64)
  (h:∀p:Array Nat,Pm vs.length p->Up (O:=aD8) (λ i=>nss.getD i []) p vs.length->P (.done (.ret .none)) {s with heap:=zF9 s.heap a vs (pZ vs p)}):
  wpAny (model prog w) A (zDR.«list.sort» ⟨[.ref a],[]⟩) P E s:=by
 have hlt:a<s.heap.objs.size:=zA2 ho;have hz:vs.length<=zAO:=by rw[zB3];lia
 obtain⟨e1,ho1⟩:∃e1,(s.heap.update a (zBR λ _=>(#[]:Array Value))).get? a=some (zBY "list" #[] e1):=⟨_,zDC ho λ _=>#[]⟩
 have keep:∀x o,s.heap.get? x=some o->o.cls= .type "tuple"->(((s.heap.update a (zBR λ _=>(#[]:Array Value))).push (zBY "tuple" vs.toArray 0)).push (zBY "list" #[] 0)).get? x=some o:=λ x o e q=>by
  have hxa:x≠a:=λ z=>by
   subst z;rw[ho]at e;cases e;exact absurd q (show¬(zCL "list"=zCL "tuple")by decide)
  refine zAC _ (zAC _ ?_);rw[zBi _ _ _ _ hxa];exact e
 have ho6:(((s.heap.update a (zBR λ _=>(#[]:Array Value))).push (zBY "tuple" vs.toArray 0)).push (zBY "list" #[] 0)).get? a=some (zBY "list" #[] e1):=zAC _ (zAC _ ho1);have ht6:=ht.mono keep;rw[list_sort_plain];refine zAB (zHZ ho rfl (zAB (zFM ho rfl ?_ (by rw[zAK];exact hz) (zAi _))));refine zAB (zHb ho1 rfl (zAB (wpAny_newTuple ?_ (by show vs.length<=_;exact hz))));refine zAB (zFP (zBS ?_) (zAi _));show wpAny (model prog w) A _ P E {s with heap:=((s.heap.update a (zBR λ _=>(#[]:Array Value))).push (zBY "tuple" vs.toArray 0)).push (zBY "list" #[] 0)};dsimp only;have hsz:∀p:Array Nat,Pm vs.length p->(pZ vs p).size=vs.length:=λ p a1=>by unfold pZ;rw[zAK,zAF,zB5,a1.sz]
 by_cases h2:vs.toArray.size<2
 .rw[if_pos h2,if_pos h2]
  refine zAB (zAH ?_);rw[StateT.run_pure];refine zAB (zAH ?_);have h2':vs.length<2:=by simpa using h2
  have a1:Pm vs.length (zAw vs.length).toArray:=zGN _;have a3:=aIx h2';dsimp only;refine zAB (zHb ho6 rfl ?_);show wpAny (model prog w) A (Builtin.List.listUpdate (.ref a) (λ _=>(vs.toArray.zip vs.toArray).map (·.2))>>=_) P E _;rw[a3];refine zAB (zFM ho6 rfl ?_ (zAi _) (by show(pZ vs _).size<=_;rw[hsz _ a1];lia));simp only[bne_self_eq_false,zBq,if_false];exact zAH (h _ a1 λ i j hij hj=>by rw[show i=j by lia];exact aBI _)
 .rw[if_neg h2,if_neg h2]
  have h2':2<=vs.length:=zH3 (show¬vs.length<2 by simpa using h2);obtain⟨fs,f1,f2,f3⟩:=ht6.firsts;refine zAB (PySem.W.kat_kind (T:=.type "int") f1 (by lia) (λ v hv=>?_) (by decide) ?_)
  .obtain⟨n,t,rfl⟩:=f3 v hv
   exact zIF
  rw[show(zCL "int" !=zCL "tuple")=true by decide];refine zAB (zBO (PySem.W.kat_run (κ:=tuples' true) (ks:=vs) (vs:=vs) (Q:=λ st s'=>s'={s with heap:=((s.heap.update a (zBR λ _=>(#[]:Array Value))).push (zBY "tuple" vs.toArray 0)).push (zBY "list" #[] 0)}/\∃p:Array Nat,Pm vs.length p/\Up (O:=aD8) (λ i=>nss.getD i []) p vs.length/\(arrOf st).map (·.2)=pZ vs p/\zFx st=none)
   (G:=λ p s'=>s'={s with heap:=((s.heap.update a (zBR λ _=>(#[]:Array Value))).push (zBY "tuple" vs.toArray 0)).push (zBY "list" #[] 0)}/\Pm vs.length p/\Up (O:=aD8) (λ i=>nss.getD i []) p vs.length)
   rfl h2' h64 (λ p st s' _ b2 b3 b4=>⟨b4.1,p,b4.2.1,b4.2.2,PySem.W.kat_snds rfl b2,b3⟩) ?_) (λ r s' hr=>?_) λ _ _ e=>e)
  .refine aBf (O:=aD8) (kz:=λ i=>nss.getD i []) (n:=vs.length) (I:=λ s'=>s'={s with heap:=((s.heap.update a (zBR λ _=>(#[]:Array Value))).push (zBY "tuple" vs.toArray 0)).push (zBY "list" #[] 0)}) (λ i j C s' hI hi hj hC=>?_) _ _ rfl (aJA (by lia) λ p a1 a2 s' hs'=>⟨hs',a1,a2⟩)
   subst hI;unfold PySem.W.kas_ask;obtain⟨x,ox,xs,kx,x1,x2,_,x4,x5,_⟩:=ht6.at hi;obtain⟨y,oy,ys,ky,y1,y2,_,y4,y5,_⟩:=ht6.at hj;rw[x1,y1];exact aDf x2 x4 y2 y4 x5 y5 (hC _ rfl)
  .obtain⟨⟨⟩,st⟩:=r
   obtain⟨e,p,b1,b2,b3,b4⟩:=hr;subst e;refine zAB (zHb ho6 rfl ?_);rw[b3,b4];refine zAB (zFM ho6 rfl ?_ (zAi _) (by show(pZ vs p).size<=_;rw[hsz p b1];lia));simp only[bne_self_eq_false,zBq,if_false];exact zAH (h p b1 b2)
end
theorem sub_len[BEq α][LawfulBEq α]:∀{l l':List α},l.Nodup->(∀x∈l,x∈l')->l.length<=l'.length
 |[],_,_,_=>zAi _
 |x::l,l',nd,h=>by
  have hx:x∈l':=h x zAJ;have ih:=sub_len (l:=l) (l':=l'.erase x) (zAj.mp nd).2 λ y hy=>(zG0 λ e=>by subst e;exact(zAj.mp nd).1 hy).mpr (h y (zAR _ hy))
  rw[List.length_erase_of_mem hx]at ih
  have:0<l'.length:=List.length_pos_of_mem hx
  rw[zAk];lia
def Ris(xs:Array Nat):Prop:=∀i j,i<j->j<xs.size->xs.getD i 0<xs.getD j 0
structure TbOk(t:zFK)(n:Nat):Prop where
 dum:t.dummies=#[]
 siz:t.place.size=n
 ris:Ris t.place
 top:∀i,i<n->t.place.getD i 0<=t.mask
 msk:t.mask=7/\n<5\/t.mask=31/\n<19\/t.mask=127/\n<77
 pla:t.plain=true
structure TbPut(t:zFK)(n:Nat):Prop where
 dum:t.dummies=#[]
 siz:t.place.size=n
 ris:Ris t.place
 top:∀i,i<n->t.place.getD i 0<=t.mask
 msk:t.mask=7/\n<=5\/t.mask=31/\n<=19\/t.mask=127/\n<77
 pla:t.plain=true
abbrev gQ(es:Array (Int×Value))(ep:Nat)(t:zFK):Obj:={cls:=.type "set",dict:=none,data:=.set es ep t}
structure TupAt(h:Heap)(x:Addr)(ns:List Int):Prop where
 ex:∃o xs k,h.get? x=some o/\o.cls= .type "tuple"/\o.data= .seq xs k/\zBD xs.toList ns
end VL
namespace PySem
section
variable{prog:zAY}{w:World}{A:zAc}{E:Value->zAG->Prop}{s:zAG}
def aG5(a:Value)(h:Q₁ (.ref s.heap.objs.size) {s with heap:=s.heap.push (VL.gQ #[] 0 (.fresh 0 0 (!w.params.followText "set-order")))}):
  zCI (model prog w) A (.call (.builtin "set.__new__") ⟨[.type "set",a],[]⟩) (wants Q₁ E) s:=by
 refine codeAny_of_tree ?_;show wpAny _ A.in1 (zFp "set.__new__" ⟨[.type "set",a],[]⟩>>=λ _=>again (.builtin "set.__new__" ⟨[.type "set",a],[]⟩)) _ _ s;refine zAB (zHe (F.newCall_set_1 a) (zAH ⟨plainId_quiet zFj _,zC4 PySem.F.entry_set_new ?_⟩));rw[zEH zFj _];unfold zDR.«set.__new__» zHL;have bP:=sub_set_self;obtain⟨hp,g,d,tk,os⟩:=s;dsimp only;wp_walk;refine wpAny_askSetting (zAH ?_);dsimp only;simp only[newObj];exact zAB (wpAny_alloc (zAH (zAH h)))
set_option maxHeartbeats 3200000 in
def vV{l:Addr}{T:String}{oI:Obj}{Φ:Heap->Prop}{Q:Value->zAG->Prop}(hty:s.TypeIs (.ref l) T)(hsls:isSubtype (.type T) (.type "set")=pure false)(hslf:isSubtype (.type T) (.type "frozenset")=pure false)(hne:(zCL T==zCL "dict")=false)
  (hit:∀(zD:Heap) (A₁:zAc) (E₁:Value->zAG->Prop) (Q₁:Value->zAG->Prop),(∀b o,s.heap.get? b=some o->zD.get? b=some o)->Q₁ (.ref zD.objs.size) {s with heap:=zD.push oI}->wpAny (model prog w) A₁ (zGj (.ref l)) Q₁ E₁ {s with heap:=zD})
  (hrun:∀R:zDu->zAG->Prop,(∀h' tk,Φ h'->(∀b o,s.heap.get? b=some o->h'.get? b=some o)->R (.ok (.ret .none)) {s with heap:=h',toks:=tk})->
   zCI (model prog w) A.in1.in1 (.builtin "set.update.loop" ⟨[.ref s.heap.objs.size,.ref (s.heap.push (VL.gQ #[] 0 (.fresh 0 0 (!w.params.followText "set-order")))).objs.size],[]⟩) R {s with heap:=(s.heap.push (VL.gQ #[] 0 (.fresh 0 0 (!w.params.followText "set-order")))).push oI})
  (h:∀h' tk,Φ h'->(∀b o,s.heap.get? b=some o->h'.get? b=some o)->Q (.ref s.heap.objs.size) {s with heap:=h',toks:=tk}):
  wpAny (model prog w) A (call (.type "set") [.ref l]) Q E s:=by
 obtain⟨c,tl,hmro⟩:=zCm.mro;have hmade:=zCm.made;have bP:=zCm.sub
 refine wpAny_call (codeAny_of_tree ?_);show wpAny _ _ (callAny (.type "set") _) _ _ _;refine zAH ⟨zEe _ (by decide+kernel),zC4 PySem.F.entry_type_call ?_⟩;rw[Around.under_plain (weight_type_call_type "set" [.ref l] []) rfl];have h1:=zCm.notType;have h2:=zCm.canCreate
 have hct:=F.typeCall_set_1 (.ref l);repeat (any_goals (first|assumption|wp_step))
 generalize hled:(!w.params.followText "set-order")=led at hrun;refine zDv (aG5 (.ref l) (E:=E) (Q₁:=λ obj zI=>obj= .ref s.heap.objs.size/\zI={s with heap:=s.heap.push (VL.gQ #[] 0 (.fresh 0 0 led))}) ⟨rfl,by rw[hled]⟩) λ r zI hr=>?_
 cases r with
 |error e=>exact hr
 |ok fl=>
  cases fl with
  |ret obj=>
   obtain⟨rfl,rfl⟩:=hr;have hS:(s.heap.push (VL.gQ #[] 0 (.fresh 0 0 led))).get? s.heap.objs.size=some (VL.gQ #[] 0 (.fresh 0 0 led)):=zAN _ rfl;have hT:zCk {s with heap:=s.heap.push (VL.gQ #[] 0 (.fresh 0 0 led))} (.ref s.heap.objs.size) "set":=⟨_,hS,rfl⟩;have hli:=zCm.init.lookup;have hbi:=zCm.init.bind (.ref s.heap.objs.size)
   repeat (any_goals (first|assumption|wp_step))
   refine zDv (zEk (R:=wants (λ r z4=>r= .none/\∃h' tk,z4={s with heap:=h',toks:=tk}/\Φ h'/\(∀b o,s.heap.get? b=some o->h'.get? b=some o)) E) zCm.init.plain F.entry_set_init (check_set_init_1 hT ?_)) λ r₂ z4 hr₂=>?_
   .obtain⟨ol,hol,hcl⟩:=hty
    obtain⟨ocls,odict,odata,oslots⟩:=ol;simp only at hcl;subst hcl;have hol':(s.heap.push (VL.gQ #[] 0 (.fresh 0 0 led))).get? l=some {cls:=.type T,dict:=odict,data:=odata,slots:=oslots}:=zAC _ hol;unfold zDR.«set.__init__» noKeywords zHM;generalize hPI:zGj=PI;wp_walk;subst hPI;refine hit _ _ _ _ (λ b o e=>zAC _ e) (zAB (zG7 (hrun _ λ h' tk g1 g2=>?_)));show wpAny _ _ _ _ _ _;refine zAH ?_;show wpAny _ _ (ret zAu) _ _ _;exact zAH ⟨rfl,h',tk,rfl,g1,g2⟩
   .cases r₂ with
    |error e=>exact hr₂
    |ok fl₂=>
     cases fl₂ with
     |ret r=>
      obtain⟨rfl,h',tk,rfl,g1,g2⟩:=hr₂
      repeat (any_goals (first|assumption|wp_step))
      exact h _ _ g1 g2
     |_=>exact hr₂.elim
  |_=>exact hr.elim
end
end PySem
namespace VL
open PySem PySem.Spec PyProof.Rows L2
def aLI(h:Heap)(p:Value×List Int):Prop:=∃x o xs k,p.1= .ref x/\h.get? x=some o/\o.cls= .type "tuple"/\o.data= .seq xs k/\zBD xs.toList p.2/\p.2≠[]
theorem dU.all:∀{vs:List Value} {nss:gV},dU h vs nss->∀p∈vs.zip nss,aLI h p
 |_,_,.nil,p,hp=>by simp at hp
 |_,_,.cons ho hc hd hi hne r,p,hp=>by
  rw[zAy]at hp;rcases zA1.mp hp with e|hp
  .subst e;exact⟨_,_,_,_,rfl,ho,hc,hd,hi,hne⟩
  .exact r.all p hp
theorem aDw:∀{zs:List (Value×List Int)},(∀p∈zs,aLI h p)->dU h (zs.map (·.1)) (zs.map (·.2))
 |[],_=>.nil
 |p::zs,hz=>by
  obtain⟨x,o,xs,k,e1,e2,e3,e4,e5,e6⟩:=hz p zAJ;rw[zAD,zAD,e1];exact .cons e2 e3 e4 e5 e6 (aDw λ q hq=>hz q (zAR _ hq))
def rP(h:l.Perm m'):∀{m:List α},m'=m.map f->∃m2:List α,m2.Perm m/\l=m2.map f:=by
 induction h with
 |nil=>intro m e;exact⟨m,zCB _,e⟩
 |cons x p ih=>
  intro m e;cases m with
  |nil=>cases e
  |cons a m=>
   rw[zAD]at e;injection e with e1 e2
   obtain⟨m2,q1,q2⟩:=ih e2;exact⟨a::m2,q1.cons a,by rw[zAD,q2,e1]⟩
 |swap x y l=>
  intro m e;cases m with
  |nil=>cases e
  |cons a m=>
   cases m with
   |nil=>rw[zAD]at e;injection e with _ e2;cases e2
   |cons b m=>
    rw[zAD,zAD]at e;injection e with e1 e2
    injection e2 with e2 e3
    exact⟨b::a::m,zCX _ _ _,by rw[zAD,zAD,e1,e2,e3]⟩
 |trans p q ih1 ih2=>
  intro m e;obtain⟨m2,a1,a2⟩:=ih2 e;obtain⟨m3,b1,b2⟩:=ih1 a2;exact⟨m3,b1.trans a1,b2⟩
def uD(l:gV):Prop:=l.Pairwise λ a b=>HT.lexLt b a=false
section
variable{prog:zAY}{w:World}{A:zAc}{E:Value->zAG->Prop}{s:zAG}
def aBp{Q:Value->zAG->Prop}(hz:∀p∈zs,aLI s.heap p)(h64:zs.length<64)
  (h:∀(zs':List (Value×List Int)) h' e,zs'.Perm zs->uD (zs'.map (·.2))->(∀b o,s.heap.get? b=some o->h'.get? b=some o)->h'.get? s.heap.objs.size=some (zBY "list" (zs'.map (·.1)).toArray e)->Q (.ref s.heap.objs.size) {s with heap:=h'}):
  wpAny (model prog w) A (zF7 (zs.map (·.1))>>=λ l=>zC5 [l] (call (.builtin "list.sort") [l])>>=λ _=>ret l) (λ fin s'=>∃r,fin= .done (.ret r)/\Q r s') E s:=by
 have kQ:(zs.map (·.1)).length=zs.length:=zAF _;refine zAB (zFP ?_ (by rw[zB3];omega));have hoL:(s.heap.push (zBY "list" (zs.map (·.1)).toArray 0)).get? s.heap.objs.size=some (zBY "list" (zs.map (·.1)).toArray 0):=zAN _ rfl;refine zAB (zBS (zB8 slot_list_sort ⟨_,hoL,rfl⟩ entry_list_sort ?_ (args_list_sort _)));refine aD7 (s:={s with heap:=s.heap.push (zBY "list" (zs.map (·.1)).toArray 0)}) hoL (aDw λ p hp=>?_) (by omega) λ p a1 a2=>⟨_,rfl,?_⟩
 .obtain⟨x,o,xs,k,e1,e2,e3⟩:=hz p hp
  exact⟨x,o,xs,k,e1,zAC _ e2,e3⟩
 rw[kQ]at a1 a2;have dA:p.toList.map (λ i=>(zs.map (·.1)).getD i zAu)=(p.toList.map λ i=>zs.getD i (zAu,[])).map (·.1):=by
  rw[zAQ];refine zB7 λ i hi=>?_
  show(zs.map (·.1)).getD i zAu=(zs.getD i (zAu,[])).1
  rw[zA0,zA0,zAP];cases zs[i]?<;>rfl
 have hperm:(p.toList.map λ i=>zs.getD i (zAu,[])).Perm zs:=by
  have h1:p.toList.Perm (zAw zs.length):=by
   have:=Array.perm_iff_toList_perm.mp a1
   simpa using this
  refine(h1.map _).trans ?_
  have:(zAw zs.length).map (λ i=>zs.getD i (zAu,[]))=zs:=by
   refine zHQ (by simp) λ i h1 h2=>?_
   rw[zCb,zGo,zA0,zAE h2];rfl
  rw[this]
 have hne:∀b o,s.heap.get? b=some o->b≠s.heap.objs.size:=λ b o e=>zA9 (zA2 e)
 obtain⟨e1,he1⟩:∃e1,((s.heap.push (zBY "list" (zs.map (·.1)).toArray 0)).update s.heap.objs.size (zBR λ _=>(#[]:Array Value))).get? s.heap.objs.size=some (zBY "list" #[] e1):=⟨_,zDC hoL λ _=>#[]⟩
 have g1:=zAC (zBY "list" #[] 0) (zAC (zBY "tuple" (zs.map (·.1)).toArray 0) he1);have g2:=zDC g1 (λ _=>pZ (zs.map (·.1)) p);generalize (if ((pZ (zs.map (·.1)) p).size==(#[]:Array Value).size)=true then e1 else e1+1)=c1 at g2;have hend:(zF9 (s.heap.push (zBY "list" (zs.map (·.1)).toArray 0)) s.heap.objs.size (zs.map (·.1)) (pZ (zs.map (·.1)) p)).get? s.heap.objs.size=some (zBY "list" (pZ (zs.map (·.1)) p) c1):=g2;have pV:pZ (zs.map (·.1)) p=((p.toList.map λ i=>zs.getD i (zAu,[])).map (·.1)).toArray:=by unfold pZ;rw[dA]
 have hris:uD ((p.toList.map λ i=>zs.getD i (zAu,[])).map (·.2)):=by
  unfold uD;rw[zAQ];refine zDg.mpr λ i j hi hj hij=>?_
  rw[zAF,zB5,a1.sz]at hi hj;have hk:∀k (hk:k<zs.length),Kp (O:=aD8) (λ i=>(zs.map (·.2)).getD i []) p k=(zs.getD (p.getD k 0) (zAu,[])).2:=λ k hk=>by
   show(zs.map (·.2)).getD (p.getD k 0) []=_
   rw[zA0,zA0,zAP];cases zs[p.getD k 0]?<;>rfl
  have hg:∀k (hk:k<p.toList.length),p.toList[k]=p.getD k 0:=λ k hk=>by
   have:k<p.size:=by simpa using hk
   simp[Array.getD,this]
  have this:HT.lexLt (Kp (O:=aD8) (λ i=>(zs.map (·.2)).getD i []) p j) (Kp (O:=aD8) (λ i=>(zs.map (·.2)).getD i []) p i)=false:=a2 i j (zBc hij) hj;rw[hk i hi,hk j hj]at this;rw[zCb,zCb,hg,hg];exact this
 have cK:∀b o,s.heap.get? b=some o->(zF9 (s.heap.push (zBY "list" (zs.map (·.1)).toArray 0)) s.heap.objs.size (zs.map (·.1)) (pZ (zs.map (·.1)) p)).get? b=some o:=λ b o e=>by
  unfold zF9;rw[zBi _ _ _ _ (hne b o e)];refine zAC _ (zAC _ ?_);rw[zBi _ _ _ _ (hne b o e)];exact zAC _ e
 rw[pV]at hend cK;have hq:=h (p.toList.map λ i=>zs.getD i (zAu,[])) _ c1 hperm hris cK hend;rw[<-pV]at hq;exact zAH ⟨_,rfl,hq⟩
def rF(h:wpAny (model prog w) A.in1 (zH9 v) (λ vs s'=>wpAny (model prog w) A.in1 (zF7 vs>>=λ l=>zC5 [l] (call (.builtin "list.sort") [l])>>=λ _=>ret l) (λ fin s'=>∃r,fin= .done (.ret r)/\Q r s') E s') E s):
  wpAny (model prog w) A (call (.builtin "sorted") [v]) Q E s:=by
 refine Calls.call_function_entry kind_sorted plain_sorted entry_sorted (args_sorted1 _) ?_;unfold zDR.«sorted»;refine zAB (m:=checkCount "sorted" 1 1 _) (zAH (zAB ?_));exact h
end
inductive jA(K:zAA)(H:Hp):List V->List (List Int)->Prop where
 |nil:jA K H [] []
 |cons {a:Addr} {ns:List Int} {vs:List V} {nss:gV} (h:SqT K H a (ns.map V.int)) (hne:ns≠[]) (r:jA K H vs nss):jA K H (.ref a::vs) (ns::nss)
def uW:V->Value
 | .ref a=>.ref a
 |_=>.none
def jA.vals{K:zAA}:∀{vs:List V} {nss:gV} {us:List Value},jA K H vs nss->Vals vs us->us=vs.map uW:=by
 intro vs nss us t v;induction v generalizing nss with
 |nil=>rfl
 |cons q s ih=>
  cases t with
  |cons _ _ r=>
   cases q;rw[zAD,ih r];rfl
theorem jA.len{K:zAA}:∀{vs:List V} {nss:gV},jA K H vs nss->vs.length=nss.length
 |_,_,.nil=>rfl
 |_,_,.cons _ _ r=>by rw[zAk,zAk,r.len]
theorem jA.refs{K:zAA}:∀{vs:List V} {nss:gV},jA K H vs nss->∀v∈vs,RelV v (uW v)
 |_,_,.nil,v,hv=>by simp at hv
 |_,_,.cons _ _ r,v,hv=>by
  rcases zA1.mp hv with e|hv
  .subst e;exact rfl
  .exact r.refs v hv
theorem jA.at(I:Inv X iX Z H s):∀{vs:List V} {nss:gV},jA X.K H vs nss->dU s.heap (vs.map uW) nss
 |_,_,.nil=>.nil
 |_,_,.cons h hne r=>by
  obtain⟨its,rv,⟨o,ho,hc,n,hd⟩,_⟩:=I.tuple h;exact .cons ho hc hd (by simpa using intsAre_of rv) hne (r.at I)
theorem zx:∀{vs:List V},(∀v∈vs,RelV v (uW v))->Vals vs (vs.map uW)
 |[],_=>.nil
 |v::vs,h=>.cons (h v zAJ) (zx λ u hu=>h u (zAR _ hu))
section
variable{X:Cx}
def aIo(H:Hp)(vs:List V)(nss:gV)(Q:VK):Prop:=∀zs:List (V×List Int),zs.Perm (vs.zip nss)->uD (zs.map (·.2))->New H (.lst (zs.map (·.1))) Q
def aDC{iX:hZ}(I:Inv X iX Z H s)(ht:jA X.K H vs nss)(h64:vs.length<64)(q:aIo H vs nss Q)
  (hs1:∃h1 tk,s1={s with heap:=h1,toks:=tk}/\s.heap.objs.size<=h1.objs.size/\∀b o,s.heap.get? b=some o->h1.get? b=some o){zs:List (Value×List Int)}(hz:zs.Perm ((vs.map uW).zip nss))(hus:us=zs.map (·.1)):
  wpAny (model X.prog X.w) X.A.in1 (zF7 us>>=λ l=>zC5 [l] (call (.builtin "list.sort") [l])>>=λ _=>ret l) (λ fin s'=>∃r,fin= .done (.ret r)/\EP X iX Z Q r s') X.xe s1:=by
 obtain⟨h1,tk,rfl,hsz,keep⟩:=hs1;subst hus;have kK:∀p∈zs,aLI h1 p:=λ p hp=>by
  obtain⟨x,o,xs,k,e1,e2,e3⟩:=(ht.at I).all p (hz.mem_iff.mp hp);exact⟨x,o,xs,k,e1,keep _ _ e2,e3⟩
 have kQ:zs.length<64:=by
  rw[hz.length_eq,zH1,zAF,<-ht.len,zFD];exact h64
 refine aBp (s:={s with heap:=h1,toks:=tk}) kK kQ λ zs' h' e a1 a2 a3 a4=>?_
 have dA:(vs.map uW).zip nss=(vs.zip nss).map λ p=>(uW p.1,p.2):=by rw[List.zip_map_left];rfl
 obtain⟨ws,w1,w2⟩:=rP (f:=λ p:V×List Int=>(uW p.1,p.2)) (a1.trans hz) dA;have hfr:H h1.objs.size=none:=I.hok.fresh hsz;have aS:∀v∈ws.map (·.1),RelV v (uW v):=λ v hv=>by
  obtain⟨p,hp,rfl⟩:=zA6.mp hv;exact ht.refs p.1 (zEM (w1.mem_iff.mp hp)).1
 have hws:zs'.map (·.1)=(ws.map (·.1)).map uW:=by rw[w2,zAQ,zAQ];rfl
 have hwl:(ws.map (·.1)).length<=zAO:=by
  rw[zAF,w1.length_eq,zH1,<-ht.len,zFD,zB3];lia
 refine⟨.ref h1.objs.size,upd H h1.objs.size (.lst (ws.map (·.1))),I.laid (t':=tk) (λ b o e=>a3 b o (keep b o e)) hsz ⟨hwl,(ws.map (·.1)).map uW,e,zx aS,?_⟩,rfl,(q ws w1 ?_).at hfr⟩
 .rw[<-hws];exact a4
 .have:ws.map (·.2)=zs'.map (·.2):=by rw[w2,zAQ];rfl
  rw[this];exact a2
def aDQ(K:zAA):List V->Hp->VK->Prop:=λ xs H Q=>∃p vs nss,xs=[.ref p]/\SqL K H p vs/\jA K H vs nss/\vs.length<64/\aIo H vs nss Q
def zp:cZ X (.builtin "sorted") (aDQ X.K):=by
 intro iX s Z H xs us Q I r h;obtain⟨p,vs,nss,rfl,hp,ht,h64,q⟩:=h;obtain⟨u,rfl,ru⟩:=vals1 r;cases ru;obtain⟨its,rv,pl,hz⟩:=I.list hp;have e:=ht.vals rv;subst e;have hl2:(vs.map uW).length=nss.length:=by rw[zAF];exact ht.len
 refine rF (collect_list pl.isList ?_ (by rw[zAF];exact hz));refine aDC I ht h64 q ⟨_,_,rfl,?_,λ b o e=>?_⟩ (zCB _) ?_
 .rw[zHN,size_push']
  exact zCz _
 .rw[zBi _ _ _ _ (zA9 (zA2 e))]
  exact zAC _ e
 .exact(zFA (by lia)).symm
end
def aFj(a:List Int):gV->List (List Int)
 |[]=>[a]
 |b::l=>if HT.lexLt b a then b::aFj a l else a::b::l
def wW:gV->List (List Int)
 |[]=>[]
 |a::l=>aFj a (wW l)
theorem ul(a:List Int):∀l,(aFj a l).Perm (a::l)
 |[]=>zCB _
 |b::l=>by
  unfold aFj;split
  .exact((ul a l).cons b).trans (zCX _ _ _)
  .exact zCB _
theorem qU:∀l,(wW l).Perm l
 |[]=>zCB _
 |a::l=>(ul a _).trans ((qU l).cons a)
def aKT(h:HT.lexLt a b=true):HT.lexLt b a=false:=by
 cases e:HT.lexLt b a with
 |false=>rfl
 |true=>have:=rZ a b a h e;rw[aBI]at this;cases this
def aNU(h1:HT.lexLt b a=false)(h2:HT.lexLt c b=false):HT.lexLt c a=false:=by
 cases e:HT.lexLt c a with
 |false=>rfl
 |true=>
  rcases aHg c b a e with z|z
  .rw[h2]at z;cases z
  .rw[h1]at z;cases z
theorem yG(a:List Int):∀l,uD l->uD (aFj a l)
 |[],_=>zAf.mpr ⟨λ _ h=>by simp at h,.nil⟩
 |b::l,h=>by
  obtain⟨h1,h2⟩:=zAf.mp h;unfold aFj;cases e:HT.lexLt b a with
  |true=>
   rw[if_pos rfl];refine zAf.mpr ⟨λ x hx=>?_,yG a l h2⟩;rcases zA1.mp ((ul a l).mem_iff.mp hx)with q|q
   .subst q;exact aKT e
   .exact h1 x q
  |false=>
   rw[if_neg (by simp)];refine zAf.mpr ⟨λ x hx=>?_,h⟩;rcases zA1.mp hx with q|q
   .subst q;exact e
   .exact aNU e (h1 x q)
theorem oK:∀l,uD (wW l)
 |[]=>.nil
 |a::l=>yG a _ (oK l)
theorem aAE:∀{a b:gV},a.Perm b->uD a->uD b->a=b
 |[],b,p,_,_=>p.nil_eq
 |x::a,b,p,h1,h2=>by
  cases b with
  |nil=>exact absurd p.length_eq (by simp)
  |cons y b=>
   have hxy:x=y:=by
    obtain⟨q1,_⟩:=zAf.mp h1;obtain⟨q2,_⟩:=zAf.mp h2;have m1:x∈y::b:=p.mem_iff.mp zAJ;have m2:y∈x::a:=p.mem_iff.mpr zAJ;rcases zA1.mp m1 with e|m1
    .exact e
    .rcases zA1.mp m2 with e|m2
     .exact e.symm
     .exact xm _ _ (q2 x m1) (q1 y m2)
   subst hxy;rw[aAE (List.Perm.cons_inv p) (zAf.mp h1).2 (zAf.mp h2).2]
abbrev tupI(ns:List Int):D:=.tup (ns.map .int)
def mV:List D->Option gV
 |[]=>some []
 | .tup l::r=>match intsOf l,mV r with
  |some (n::ns),some nss=>some ((n::ns)::nss)
  |_,_=>none
 |_=>none
theorem vB:∀{l:List D} {nss:gV},mV l=some nss->l=nss.map tupI/\∀ns∈nss,ns≠[]
 |[],nss,h=>by cases h;exact⟨rfl,λ ns h=>by simp at h⟩
 | .tup l::r,nss,h=>by
  unfold mV at h;split at h
  .rename_i n ns nss' e1 e2
   cases h;obtain⟨q1,q2⟩:=vB e2;rw[bQ e1,q1];refine⟨rfl,λ ms hm=>?_⟩;rcases zA1.mp hm with e|hm
   .subst e;simp
   .exact q2 ms hm
  .cases h
 | .non::_,_,h=>by cases h
 | .int _::_,_,h=>by cases h
 | .bl _::_,_,h=>by cases h
 | .str _::_,_,h=>by cases h
 | .lst _::_,_,h=>by cases h
 | .dct _ _::_,_,h=>by cases h
 | .set _::_,_,h=>by cases h
 | .scr _::_,_,h=>by cases h
theorem wL:∀{nss:gV},(∀ns∈nss,ns≠[])->mV (nss.map tupI)=some nss
 |[],_=>rfl
 |[]::nss,h=>absurd rfl (h [] zAJ)
 |(n::ns)::nss,h=>by
  have ih:=wL λ ms hm=>h ms (zAR _ hm)
  rw[zAD];unfold mV;rw[ih,show intsOf (zGp D.int (n::ns))=some (n::ns)from bO _]
theorem aBj{K:zAA}:∀{xs:List V} {nss:gV},Rps K A H xs (nss.map tupI)->(∀ns∈nss,ns≠[])->jA K H xs nss
 |_,[],.nil,_=>.nil
 |_,ns::nss,.cons h r,hne=>by
  cases h with
  |tup h r'=>
   have e:=r'.ints_of;subst e;exact .cons h (hne ns zAJ) (aBj r λ ms hm=>hne ms (zAR _ hm))
theorem aGh{K:zAA}:∀{zs:List (V×List Int)},(∀p∈zs,∃a,p.1= .ref a/\SqT K H a (p.2.map V.int))->Rps K A H (zs.map (·.1)) ((zs.map (·.2)).map tupI)
 |[],_=>.nil
 |p::zs,h=>by
  obtain⟨a,e1,e2⟩:=h p zAJ;rw[zAD,zAD,zAD,e1];exact .cons (.tup e2 .ints) (aGh λ q hq=>h q (zAR _ hq))
theorem jA.all{K:zAA}:∀{vs:List V} {nss:gV},jA K H vs nss->∀p∈vs.zip nss,∃a,p.1= .ref a/\SqT K H a (p.2.map V.int)
 |_,_,.nil,p,hp=>by simp at hp
 |_,_,.cons h _ r,p,hp=>by
  rw[zAy]at hp;rcases zA1.mp hp with e|hp
  .subst e;exact⟨_,rfl,h⟩
  .exact r.all p hp
def aGX{K:zAA}(ht:jA K H vs nss)(q:∀v H',aY H H'->Rp K (λ p=>H p=none) H' v (.lst ((wW nss).map tupI))->Q v H'):aIo H vs nss Q:=by
 intro zs hz hr p H' s hp hn;have e:zs.map (·.2)=wW nss:=aAE (((hz.map (·.2)).trans (by rw[zFB (by rw[ht.len];exact zAV _)])).trans (qU nss).symm) hr (oK nss);refine q _ H' s (.lst hp hn ?_);rw[<-e];exact aGh λ p hp=>by
  obtain⟨a,e1,e2⟩:=ht.all p (hz.mem_iff.mp hp);exact⟨a,e1,s.sqt e2⟩
def insI(a:Int):List Int->List Int
 |[]=>[a]
 |b::l=>if b<a then b::insI a l else a::b::l
def sortI:List Int->List Int
 |[]=>[]
 |a::l=>insI a (sortI l)
theorem insI_perm(a:Int):∀l,(insI a l).Perm (a::l)
 |[]=>zCB _
 |b::l=>by
  unfold insI;split
  .exact((insI_perm a l).cons b).trans (zCX _ _ _)
  .exact zCB _
theorem sortI_perm:∀l,(sortI l).Perm l
 |[]=>zCB _
 |a::l=>(insI_perm a _).trans ((sortI_perm l).cons a)
theorem aC7(a:Int):∀l:List Int,l.Pairwise (·<=·)->(insI a l).Pairwise (·<=·)
 |[],_=>zAf.mpr ⟨λ _ h=>by simp at h,.nil⟩
 |b::l,h=>by
  obtain⟨h1,h2⟩:=zAf.mp h;unfold insI;by_cases e:b<a
  .rw[if_pos e]
   refine zAf.mpr ⟨λ x hx=>?_,aC7 a l h2⟩;rcases zA1.mp ((insI_perm a l).mem_iff.mp hx)with q|q
   .lia
   .exact h1 x q
  .rw[if_neg e]
   refine zAf.mpr ⟨λ x hx=>?_,h⟩;rcases zA1.mp hx with q|q
   .lia
   .have:=h1 x q;lia
theorem lU:∀l,(sortI l).Pairwise (·<=·)
 |[]=>.nil
 |a::l=>aC7 a _ (lU l)
theorem mU:∀{us:List Value} {ns:List Int},zBD us ns->Vals (ns.map V.int) us
 |_,_,.nil=>.nil
 |_,_,.cons n t r=>.cons ⟨t,rfl⟩ (mU r)
section
variable{X:Cx}
def aDR(K:zAA):List V->Hp->VK->Prop:=λ xs H Q=>∃p ns,xs=[.ref p]/\SqL K H p (ns.map V.int)/\ns.length<64/\New H (.lst ((sortI ns).map V.int)) Q
def aB2:cZ X (.builtin "sorted") (aDR X.K):=by
 intro iX s Z H xs us Q I r h;obtain⟨p,ns,rfl,hp,h64,q⟩:=h;obtain⟨u,rfl,ru⟩:=vals1 r;cases ru;obtain⟨its,rv,pl,hz⟩:=I.list hp;have hI:zBD its ns:=intsAre_of rv;have kQ:its.length<64:=by
  have:=rv.length
  rw[zAF]at this;lia
 refine sorted_ints pl.isList hI kQ λ out ns' h1 h2 h3=>?_
 have e:ns'=sortI ns:=zGh (h2.trans (sortI_perm ns).symm) h3 (lU ns);subst e;obtain⟨e,he⟩:=sortedAll_at s.heap its out;have hfr:H (s.heap.objs.size+1)=none:=I.hok.fresh (zCz _);refine⟨.ref (s.heap.objs.size+1),upd H (s.heap.objs.size+1) (.lst ((sortI ns).map V.int)),I.laid (t':=s.toks) (λ b o q=>sortedAll_old q) (zCz _) ?_,rfl,q.at hfr⟩;refine⟨?_,out.toList,e,mU h1,?_⟩
 .rw[zAF,h2.length_eq]
  exact zAh (zBc h64) (by decide)
 .rw[zGO]
  exact he
end
def aAg(K:zAA)(r:List V->Hp->VK->Prop)(fd:List D->Rs D):Prop:=∀(A:Addr->Prop) xs ds H (Q:VK) z,Rps K A H xs ds->fd ds= .ok z->(∀v H',aY H H'->Rp K (λ p=>H p=none) H' v z->Q v H')->r xs H Q
def rG{K:zAA}(hs:aAg K r fd)(h1:aLF K G m ta g):iU K G (some []) (tCB r ta) (opA fd g):=by
 intro τ Z H ρ lab Q R W;refine h1 τ Z H ρ lab _ R (W.bd.imp λ d _ w x H1 s1 r1=>?_);obtain⟨z,ez,w⟩:=w.okD;exact hs (fpM m lab H) x d H1 Q z r1 ez λ v H' s r=>w v H' (s1.trans s) (r.wk λ p o _ q=>.inl (s1.free q))
def kZ:List D->Rs D
 |[.lst l]=>match mV l with
  |some nss=>if nss.length<64 then .ok (.lst ((wW nss).map tupI))else .st
  |none=>match intsOf l with
   |some ns=>if ns.length<64 then .ok (.lst ((sortI ns).map .int))else .st
   |none=>.st
 |_=>.st
def aFu{K:zAA}:aAg K (λ xs H Q=>aDQ K xs H Q\/aDR K xs H Q) kZ:=by
 intro A xs ds H Q z r ez q;unfold kZ at ez;split at ez
 .cases r with
  |cons h r=>
   cases r;cases h with
   |lst h m r=>
    split at ez
    .rename_i nss e
     obtain⟨e1,e2⟩:=vB e;subst e1;split at ez
     .rename_i hl
      cases ez;have ht:=aBj r e2;exact .inl ⟨_,_,nss,rfl,SqL.of h,ht,by rw[ht.len];exact hl,aGX ht q⟩
     .cases ez
    .split at ez
     .rename_i ns e
      have e1:=bQ e;subst e1;split at ez
      .rename_i hl
       cases ez;have e2:=r.ints_of;subst e2;exact .inr ⟨_,ns,rfl,SqL.of h,hl,λ p H' s hp hn=>q _ H' s (.lst hp hn .ints)⟩
      .cases ez
     .cases ez
 .cases ez
section
variable{C:Ct}{pos p:Pos}{m:Mode}{a:Expr}{ga:En->Rs (List D)}
def uL(hm:C.mg "sorted"=none)(ha:SA C m [a] ga)(he:∀i,zAT [a] (C.X i).env=[(false,eval a (C.X i).env)]:=by intro _;rfl)(hg:∀i,Gl (C.X i) "sorted":=by intro _;rfl)(hv:zAp "sorted"=some (.builtin "sorted"):=by decide+kernel):SE C (some []) (.Call (.Name "sorted" p) [a] [] pos) (opA kZ ga):=by
 obtain⟨t,h1,h2⟩:=ha;refine⟨_,λ i=>jg (r:=λ xs H Q=>aDQ C.K xs H Q\/aDR C.K xs H Q) (by rw[<-C.hK i];exact zp.or aB2) (hg i) (by rw[(C.cx i).2.2.2.1];exact hm) hv (h1 i) (by decide) (by decide) (he i) rfl,rG aFu h2⟩
end
structure Mg{β:Type}(r:β->β->Prop)(T out ra rb:List β):Prop where
 pm:(out++(ra++rb)).Perm T
 so:out.Pairwise r
 lo:∀x∈out,∀y∈ra++rb,r x y
 sa:ra.Pairwise r
 sb:rb.Pairwise r
section
variable{β:Type}{r:β->β->Prop}{T:List β}
def Mf(r:β->β->Prop)(T o:List β):Prop:=o.Perm T/\o.Pairwise r
end
structure Cm(prog:zAY)(w:World)(A:zAc)(s:zAG)(κ:zDA)(O:zBx)(kf:Keyed->O.α)(G:Keyed->Prop):Prop where
 lt:∀x y,G x->G y->∀C:Bool->zAG->Prop,C (O.blt (kf x) (kf y)) s->wpAny (model prog w) A (keyLt' κ x.1 y.1) C (λ _ _=>False) s
structure Eg(st st':zDO):Prop where
 k:zDP st'=zDP st
 a:arrOf st'=arrOf st
 p:zGF st'=zGF st
 f:zFx st'=zFx st
abbrev LS:=Option (Array Keyed)×Array Keyed×Nat×Nat×Nat×Nat×Nat
section
variable{O:zBx}{kf:Keyed->O.α}{T:List Keyed}{a b out:Array Keyed}{ia ib mg ac bc m0:Nat}{st:zDO}{Q:ForInStep LS->zDO->Prop}
abbrev rK(O:zBx)(kf:Keyed->O.α)(x y:Keyed):Prop:=O.kle (kf x) (kf y)
abbrev Ml(O:zBx)(kf:Keyed->O.α)(T:List Keyed)(a b out:Array Keyed)(ia ib:Nat):Prop:=Mg (rK O kf) T out.toList (a.toList.drop ia) (b.toList.drop ib)
structure Tu(O:zBx)(kf:Keyed->O.α)(T:List Keyed)(a b:Array Keyed)(m0:Nat)(st:zDO)(Q:ForInStep LS->zDO->Prop):Prop where
 ret:∀o out ia ib mg ac bc st',Eg st st'->Mf (rK O kf) T o.toList->Q (.done (some o,out,ia,ib,mg,ac,bc)) st'
 on:∀out ia ib mg ac bc st',Eg st st'->Ml O kf T a b out ia ib->ia+1<a.size->ib<b.size->m0<ia+ib->Q (.done (none,out,ia,ib,mg,ac,bc)) st'/\Q (.yield (none,out,ia,ib,mg,ac,bc)) st'
end
abbrev HS:=Option (Array Keyed)×Nat×Nat×Array Keyed×Nat×Nat×Nat
section
variable{O:zBx}{kf:Keyed->O.α}{T:List Keyed}{a b out:Array Keyed}{na nb mg ac bc m0:Nat}{st:zDO}{Q:ForInStep HS->zDO->Prop}
abbrev rH(O:zBx)(kf:Keyed->O.α)(x y:Keyed):Prop:=O.kle (kf y) (kf x)
abbrev Mh(O:zBx)(kf:Keyed->O.α)(T:List Keyed)(a b out:Array Keyed)(na nb:Nat):Prop:=Mg (rH O kf) T out.toList (a.toList.take na).reverse (b.toList.take nb).reverse
structure Th(O:zBx)(kf:Keyed->O.α)(T:List Keyed)(a b:Array Keyed)(m0:Nat)(st:zDO)(Q:ForInStep HS->zDO->Prop):Prop where
 ret:∀o na nb out mg ac bc st',Eg st st'->Mf (rK O kf) T o.toList->Q (.done (some o,na,nb,out,mg,ac,bc)) st'
 on:∀na nb out mg ac bc st',Eg st st'->Mh O kf T a b out na nb->0<na->1<nb->na<=a.size->nb<=b.size->na+nb<m0->Q (.done (none,na,nb,out,mg,ac,bc)) st'/\Q (.yield (none,na,nb,out,mg,ac,bc)) st'
end
structure Ea(st st':zDO):Prop where
 k:zDP st'=zDP st
 p:zGF st'=zGF st
 f:zFx st'=zFx st
section
variable{κ:zDA}{G:Keyed->Prop}{st:zDO}{P R:List Keyed}{lo:Nat}
structure Sg(κ:zDA)(G:Keyed->Prop)(st:zDO)(lo:Nat)(P R:List Keyed):Prop where
 k:zDP st=κ
 l:(arrOf st).toList=P++R
 p:P.length=lo
 g:∀x∈R,G x
end
def Pr(O:zBx)(kf:Keyed->O.α):Nat->List (List Keyed)->List (Nat×Nat×Nat)->Prop
 |_,[],[]=>True
 |o,x::segs,p::ps=>p.1=o/\p.2.1=x.length/\0<x.length/\x.Pairwise (rK O kf)/\Pr O kf (o+x.length) segs ps
 |_,_,_=>False
section
variable{κ:zDA}{O:zBx}{kf:Keyed->O.α}{st:zDO}{T R:List Keyed}{segs:List (List Keyed)}
structure Rn(κ:zDA)(O:zBx)(kf:Keyed->O.α)(T:List Keyed)(st:zDO)(segs:List (List Keyed))(R:List Keyed):Prop where
 k:zDP st=κ
 f:zFx st=none
 l:(arrOf st).toList=segs.flatten++R
 pm:(arrOf st).toList.Perm T
 pr:Pr O kf 0 segs (zGF st).toList
end
def ddI(ns:List Int):List Int:=ns.foldl zBh []
def aI7(ns:List Int):zDw (λ i=>ns.getD i 0) ns.length=ddI ns:=by
 unfold zDw ddI;congr 1;refine zHQ (by simp) λ i h1 h2=>?_
 rw[zCb,zGo,zA0,zAE h2];rfl
def aKu(hl:l.Nodup)(n:Int):(zBh l n).Nodup/\∀x,x∈zBh l n↔x∈l\/x=n:=by
 unfold zBh;by_cases h:l.any (·==n)=true
 .rw[if_pos h]
  have:n∈l:=by simpa using h
  exact⟨hl,λ x=>⟨.inl,λ q=>q.elim id λ e=>e▸this⟩⟩
 .rw[if_neg h]
  have:n∉l:=by simpa using h
  refine⟨zAb.mpr ⟨hl,by simp,λ x hx y hy e=>?_⟩,λ x=>by simp⟩;rw[zAM]at hy;subst hy;subst e;exact this hx
theorem aI6:∀(ns acc:List Int),acc.Nodup->(ns.foldl zBh acc).Nodup/\∀x,x∈ns.foldl zBh acc↔x∈acc\/x∈ns
 |[],acc,h=>⟨h,λ x=>by simp⟩
 |n::ns,acc,h=>by
  obtain⟨h1,h2⟩:=aKu h n;obtain⟨h3,h4⟩:=aI6 ns _ h1;refine⟨h3,λ x=>?_⟩;rw[zCU,h4,h2,zA1];constructor
  .rintro((a|a)|a)
   .exact .inl a
   .exact .inr (.inl a)
   .exact .inr (.inr a)
  .rintro(a|a|a)
   .exact .inl (.inl a)
   .exact .inl (.inr a)
   .exact .inr a
def pU(ns:List Int):(ddI ns).Nodup:=(aI6 ns [] (by simp)).1
def aBH(ns:List Int)(x:Int):x∈ddI ns↔x∈ns:=by
 have:=(aI6 ns [] (by simp)).2 x
 unfold ddI;simpa using this
def aNt(ns:List Int):(ddI ns).length<=ns.length:=sub_len (pU ns) λ x hx=>(aBH ns x).mp hx
section
variable{X:Cx}
def aGu(K:zAA):List V->Hp->VK->Prop:=λ xs H Q=>∃p ns,xs=[.ref p]/\(SqL K H p (ns.map V.int)\/SqT K H p (ns.map V.int))/\ns.length<4000/\∀a H',aY H H'->H' a=some (.set (λ k=>(ddI ns).any (·==k)) (ddI ns).length)->H a=none->Q (.ref a) H'
def aBs(I:Inv X iX Z H s)(q:∀a H',aY H H'->H' a=some (.set (λ k=>(ddI ns).any (·==k)) (ddI ns).length)->H a=none->Q (.ref a) H')
  (g1:h'.SetOf (zD5 X.prog X.w) s.heap.objs.size (λ k'=>(zDw (λ i=>ns.getD i 0) ns.length).any (·==k')) (zDw (λ i=>ns.getD i 0) ns.length).length)(g2:∀b o,s.heap.get? b=some o->h'.get? b=some o):EP X iX Z Q (.ref s.heap.objs.size) {s with heap:=h',toks:=tk}:=by
 rw[aI7]at g1;have hfr:H s.heap.objs.size=none:=I.hok.fresh (zAV _);exact⟨.ref s.heap.objs.size,upd H s.heap.objs.size (.set (λ k=>(ddI ns).any (·==k)) (ddI ns).length),I.laid (t':=tk) g2 (zAV _) g1,rfl,q _ _ (au hfr _) aX hfr⟩
def aBr{s:zAG}{St:Nat->zAG->Prop}(hl:l<s.heap.objs.size)(hi:zBD its ns)(hz:ns.length<4000)
  (W:WalksS prog w A.in1 (s.heap.objs.size+1) [s.heap.objs.size+1,l] [s.heap.objs.size+1] (λ a b=>b=a) its.toArray.size (λ i v=>its.toArray[i]? =some v) St)(st:St 0 {s with heap:=(s.heap.push (gQ #[] 0 (.fresh 0 0 led))).push oI})
  (R:zDu->zAG->Prop)(hR:∀h' tk,h'.SetOf (zD5 prog w) s.heap.objs.size (λ k'=>(zDw (λ i=>ns.getD i 0) ns.length).any (·==k')) (zDw (λ i=>ns.getD i 0) ns.length).length->(∀b o,s.heap.get? b=some o->h'.get? b=some o)->R (.ok (.ret .none)) {s with heap:=h',toks:=tk}):
  zCI (model prog w) A (.builtin "set.update.loop" ⟨[.ref s.heap.objs.size,.ref (s.heap.objs.size+1)],[]⟩) R {s with heap:=(s.heap.push (gQ #[] 0 (.fresh 0 0 led))).push oI}:=by
 have kQ:its.length=ns.length:=zGz hi;have hSf:s.heap.objs.size∉[s.heap.objs.size+1,l]:=by
  simp only[zA1,zCc,or_false,not_or];exact⟨zA9 (zBZ _),zBr hl⟩
 have hsz:its.toArray.size=ns.length:=by rw[zAK];exact kQ
 refine PyProof.Rows.codeAny_set_update_loopS W s.heap.objs.size hSf (λ i=>ns.getD i 0) (λ i v hv=>zGf hi i v (by simpa using hv)) (by rw[hsz];unfold scanBound;lia) (its.toArray.size-0) 0 _ (by lia) (zAi _) st ?_ λ s' hm hS'=>?_
 .have hget:((s.heap.push (gQ #[] 0 (.fresh 0 0 led))).push oI).get? s.heap.objs.size=some (gQ #[] 0 (.fresh 0 0 led)):=zAC _ (zAN _ rfl)
  exact PyProof.Rows.SetOf_congr ((PyProof.Rows.setObjOf_fresh (knd:=zD5 prog w) led).setOf hget (by unfold scanBound;lia)) (λ _=>rfl) rfl
 .obtain⟨h',g',d',tk',os'⟩:=s'
  have eg:g'=s.gens:=hm.gens;have ed:d'=s.drawn:=hm.drawn;have eo:os'=s.os:=hm.os;subst eg;subst ed;subst eo;rw[hsz]at hS';refine hR h' tk' hS' λ b o e=>hm.heap b o ?_ (zAC _ (zAC _ e))
  have hb:=zA2 e;simp only[zA1,zCc,or_false,not_or];exact⟨zA9 hb,zA9 (zDq hb)⟩
def aFv(hc:X.calm=true):cZ X (.type "set") (aGu X.K):=by
 intro iX s Z H xs us Q I r h;obtain⟨p,ns,rfl,hp,hz,q⟩:=h;obtain⟨u,rfl,ru⟩:=vals1 r;cases ru;have hh:X.A.in1.in1.in1.handled=none:=I.ok.hd hc;have hsz:∀o:Obj,(s.heap.push o).objs.size=s.heap.objs.size+1:=λ o=>zBU _ _
 rcases hp with hp|hp
 .obtain⟨its,rv,pl,_⟩:=I.list hp
  have hI:zBD its ns:=intsAre_of rv;have hl0:=pl.isList;obtain⟨ol,hol,hcl,nl,hdl⟩:=pl.isList;have hlS:p<s.heap.objs.size:=zA2 hol;refine PySem.vV (T:="list") (Φ:=λ h'=>h'.SetOf (zD5 X.prog X.w) s.heap.objs.size (λ k'=>(zDw (λ i=>ns.getD i 0) ns.length).any (·==k')) (zDw (λ i=>ns.getD i 0) ns.length).length) ⟨ol,hol,hcl⟩ F.sub_list_set F.sub_list_frozenset (by decide)
   (λ zD A₁ E₁ Q₁ k q=>zFa (s:={s with heap:=zD}) (items:=its.toArray) ⟨ol,k _ _ hol,hcl,nl,hdl⟩ q) (λ R hR=>?_) λ h' tk g1 g2=>aBs I q g1 g2
  rw[hsz];refine aBr hlS hI hz ((Walks.list hh _ p (zA9 (zDq hlS)) its.toArray).toS) ⟨?_,?_⟩ R hR
  .have e:=zAN (s.heap.push (gQ #[] 0 (.fresh 0 0 (!X.w.params.followText "set-order")))) (o:={cls:=.type "list_iterator",data:=.fields #[.ref p,.int 0 0]}) rfl
   rw[hsz]at e;exact⟨_,e,rfl,rfl⟩
  .exact⟨ol,zAC _ (zAC _ hol),hcl,nl,hdl⟩
 .obtain⟨its,rv,pl,_⟩:=I.tuple hp
  have hI:zBD its ns:=intsAre_of rv;obtain⟨ol,hol,hcl,nl,hdl⟩:=id pl;have hlS:p<s.heap.objs.size:=zA2 hol;refine PySem.vV (T:="tuple") (Φ:=λ h'=>h'.SetOf (zD5 X.prog X.w) s.heap.objs.size (λ k'=>(zDw (λ i=>ns.getD i 0) ns.length).any (·==k')) (zDw (λ i=>ns.getD i 0) ns.length).length) ⟨ol,hol,hcl⟩ F.sub_tuple_set F.sub_tuple_frozenset (by decide)
   (λ zD A₁ E₁ Q₁ k q=>zHq (s:={s with heap:=zD}) (items:=its.toArray) ⟨ol,k _ _ hol,hcl,nl,hdl⟩ q) (λ R hR=>?_) λ h' tk g1 g2=>aBs I q g1 g2
  rw[hsz];refine aBr hlS hI hz ((Walks.tuple hh _ p (zA9 (zDq hlS)) its.toArray).toS) ⟨?_,?_⟩ R hR
  .have e:=zAN (s.heap.push (gQ #[] 0 (.fresh 0 0 (!X.w.params.followText "set-order")))) (o:={cls:=.type "tuple_iterator",data:=.fields #[.ref p,.int 0 0]}) rfl
   rw[hsz]at e;exact⟨_,e,rfl,rfl⟩
  .exact⟨ol,zAC _ (zAC _ hol),hcl,nl,hdl⟩
def aFz:cZ X (.builtin "len") (λ xs H Q=>∃p S n,xs=[.ref p]/\H p=some (.set S n)/\Q (.int n) H):=by
 intro iX s Z H xs us Q I r h;obtain⟨p,S,n,rfl,hp,q⟩:=h;obtain⟨u,rfl,ru⟩:=vals1 r;cases ru;obtain⟨o,es,ep,t,ho,hex,hd,_,_,hb,hf,hn⟩:=I.hok p _ hp
 have:(es.size:Int)<2^63:=by unfold scanBound at hb;lia
 refine PySem.call_len_set ho hex hd hf this ⟨.int n,H,(I.tok _).tok _,?_,q⟩;exact⟨_,by rw[hn]⟩
end
def aGj{K:zAA}(nd:l.Nodup)(h:H a=some (.set (λ k=>l.any (·==k)) l.length))(m:A a):Rp K A H (.ref a) (.set l):=.set h m (λ i=>by
 rw[zBw];simp) nd
def yz:List D->Rs D
 |[.lst l]=>match intsOf l with
  |some ns=>if ns.length<4000 then .ok (.set (ddI ns))else .st
  |none=>.st
 |[.tup l]=>match intsOf l with
  |some ns=>if ns.length<4000 then .ok (.set (ddI ns))else .st
  |none=>.st
 |_=>.st
def aNw{K:zAA}:aAg K (aGu K) yz:=by
 intro A xs ds H Q z r ez q;unfold yz at ez;split at ez
 .cases r with
  |cons h r=>
   cases r;cases h with
   |lst h m r=>
    split at ez
    .rename_i ns e
     have e1:=bQ e;subst e1;split at ez
     .rename_i hl
      cases ez;have e2:=r.ints_of;subst e2;exact⟨_,ns,rfl,.inl (SqL.of h),hl,λ a H' s ha hn=>q _ H' s (aGj (pU ns) ha hn)⟩
     .cases ez
    .cases ez
 .cases r with
  |cons h r=>
   cases r;cases h with
   |tup h r=>
    split at ez
    .rename_i ns e
     have e1:=bQ e;subst e1;split at ez
     .rename_i hl
      cases ez;have e2:=r.ints_of;subst e2;exact⟨_,ns,rfl,.inr h,hl,λ a H' s ha hn=>q _ H' s (aGj (pU ns) ha hn)⟩
     .cases ez
    .cases ez
 .cases ez
def z7:List D->Rs D
 |[.set l]=>.ok (.int l.length)
 |ds=>fJ ds
def aKx{K:zAA}:uH K (λ xs H Q=>(∃p ys,xs=[.ref p]/\(SqL K H p ys\/SqT K H p ys)/\Q (.int ys.length) H)\/∃p S n,xs=[.ref p]/\H p=some (.set S n)/\Q (.int n) H) z7:=by
 intro A xs ds H Q z r ez q;unfold z7 at ez;split at ez
 .cases ez
  cases r with
  |cons h r=>
   cases r;cases h with
   |set h m hS nd=>exact .inr ⟨_,_,_,rfl,h,q _ H (aY.refl H) (.int _)⟩
 .exact .inl (aIa A xs _ H Q z r ez q)
def aID:∀x z,z7 x= .ok z->imm z=true:=by
 intro x z e;unfold z7 at e;split at e
 .cases e;rfl
 .exact aEe _ _ e
section
variable{C:Ct}{pos p:Pos}{m:Mode}{a:Expr}{ga:En->Rs (List D)}
def aMN(hm:C.mg "set"=none)(ha:SA C m [a] ga)(he:∀i,zAT [a] (C.X i).env=[(false,eval a (C.X i).env)]:=by intro _;rfl)(hg:∀i,Gl (C.X i) "set":=by intro _;rfl)(hv:zAp "set"=some (.type "set"):=by decide+kernel):SE C (some []) (.Call (.Name "set" p) [a] [] pos) (opA yz ga):=by
 obtain⟨t,h1,h2⟩:=ha;refine⟨_,λ i=>gq (r:=aGu C.K) (by rw[<-C.hK i];exact aFv (C.calm i)) (hg i) (by rw[(C.cx i).2.2.2.1];exact hm) hv (h1 i) (by decide) (by decide) (he i) rfl,rG aNw h2⟩
def aJW(hm:C.mg "len"=none)(ha:SA C m [a] ga)(he:∀i,zAT [a] (C.X i).env=[(false,eval a (C.X i).env)]:=by intro _;rfl)(hg:∀i,Gl (C.X i) "len":=by intro _;rfl):SE C (some []) (.Call (.Name "len" p) [a] [] pos) (opA z7 ga):=
 fj (lW (λ i=>by have h:=(tY (X:=C.X i)).or aFz;rw[C.hK i]at h;exact h) aKx hg hm zH5 ha (by decide) (by decide) he) λ _ _ h=>pO aID h
end
section
variable{K:zAA}{G:Gx}{wi:TI}{fi:En->Rs (List D)}{g:TG}{fg:D->En->Rs En}{tt:TT}
def aMJ(hi:aLD K G wi fi)(hg:aLE K {G with E:=λ _ _ _=>False} g fg)(hfg:∀d,∃ρ1,fg d [.no]= .ok ρ1)(ht:aDr K {G with E:=λ _ _ _=>False} tt gP)(R:RR K G τ ρ Z H lab)
  (W:WR G (fi (shE ρ)) (λ ds=>ds.length<zAO/\∀(l:Addr) (as:List Addr) H',aY H H'->H l=none->H' l=some (.lst (as.map V.ref))->(l::as).Nodup->as.length=ds.length->(∀a∈as,H a=none/\H' a=some (.lst []))->Q (.ref l) H')):
  tLC wi (stV [none]) g tt (aLR oH) Z H Q:=by
 refine hi τ Z H _ _ _ R.shE (W.imp λ ds _ w J H1 lab1 τ1 s1 _ R1 jl=>?_);obtain⟨kQ,w⟩:=w;intro l hl;have hHl:H l=none:=s1.free hl;have nl:∀p o,H1 p=some o->p≠l:=λ p o e z=>by subst z;rw[hl]at e;cases e
 have RB:RR K {G with E:=λ _ _ _=>False} (τ1++τ) [.no] (stV [none] Z) H1 (λ p=>if p=l then(2,0)else(0,0)):=by
  refine⟨rfl,λ i s e=>?_,R1.old,λ p hp=>?_,λ q hq=>(R1.tm q hq).wk λ p o e _=>by rw[if_neg (nl p o e)];exact zAi _⟩
  .match i,e with
   |0,e=>cases e;exact .inl rfl
   |i+1,e=>simp at e
  .by_cases z:p=l
   .subst z;exact R1.old.free hl
   .exact absurd (show(if p=l then((2,0):Nat×Nat)else(0,0)).1=0 by rw[if_neg z]) hp
 have bE:¬((λ p=>if p=l then((2,0):Nat×Nat)else(0,0)) l).1<=1:=by simp
 refine⟨λ i n acc H2=>∃as:List Addr,n=ds.length-i/\i<=ds.length/\acc=as.map V.ref/\H2 l=some (.lst acc)/\RR K {G with E:=λ _ _ _=>False} (τ1++τ) [.no] (stV [none] Z) H2 (λ p=>if p=l then(2,0)else(0,0))/\aY H H2/\as.length=i/\(l::as).Nodup/\∀a∈as,H a=none/\H2 a=some (.lst []),
  ⟨ds.length,[],by omega,by omega,rfl,aX,RB.up (au hl _),s1.trans (au hl _),rfl,by simp,λ a h=>by simp at h⟩,?_⟩
 rintro i n acc H2 ⟨as,rfl,hi',rfl,hH2,R2,s2,hlen2,hnd,hal⟩;refine⟨hH2,by rw[zAF];omega,?_⟩;have jj:=jl _ H2 λ q hq=>R2.tm q (zA5 _ hq)
 by_cases hlt:i<ds.length
 .obtain⟨go,yl⟩:=(jj i).2 hlt
  refine .inr ⟨go,λ x H3 hy=>?_⟩;obtain⟨s3,d,ed,rx⟩:=yl x H3 hy;replace R2:=R2.up s3;replace hH2:=s3 _ _ hH2;replace s2:=s2.trans s3;replace hal:=λ a ha=>(⟨(hal a ha).1,s3 _ _ (hal a ha).2⟩:H a=none/\H3 a=some (.lst []))
  obtain⟨ρ1,e1⟩:=hfg d;refine hg (τ1++τ) x d _ H3 _ _ _ ρ1 R2 rx e1 λ Z4 R4=>?_
  refine ht (τ1++τ) Z4 H3 ρ1 _ _ R4 λ H5 s5=>?_
  rw[if_pos rfl];refine⟨zAi _,λ p H6 s6 hp hn=>?_⟩;have hl6:H6 l=some (.lst (as.map V.ref)):=s6 _ _ (s5 _ _ hH2);have hpl:p≠l:=λ z=>by subst z;rw[s5 _ _ hH2]at hn;cases hn
  have hpa:p∉as:=λ z=>by
   have:=s5 _ _ (hal p z).2
   rw[hn]at this;cases this
  have hpH:H p=none:=(s2.trans s5).free hn;have B:jC l H6 (upd H6 l (.lst (as.map V.ref++[.ref p]))):=λ b o ne hb=>by rw[aW ne];exact hb
  refine⟨hl6,ds.length-(i+1),by omega,as++[p],rfl,hlt,by rw[zAa];rfl,aX,?_,?_,by rw[zAZ];simp;omega,?_,λ a ha=>?_⟩
  .have R6:=R2.up (s5.trans s6)
   refine⟨R6.len,λ j s e=>?_,λ b o hb=>?_,R6.new,λ q hq=>(R6.tm q hq).but B hl6 rfl bE⟩
   .match j,e with
    |0,e=>cases e;exact .inl rfl
    |j+1,e=>simp at e
   .exact B b o (λ z=>by subst z;rw[R1.old.free hl]at hb;cases hb) (R6.old b o hb)
  .exact λ b o hb=>B b o (λ z=>by subst z;rw[hHl]at hb;cases hb) (((s2.trans s5).trans s6) b o hb)
  .obtain⟨n1,n2⟩:=zAj.mp hnd
   refine zAj.mpr ⟨λ z=>?_,zAb.mpr ⟨n2,by simp,λ x hx y hy e=>?_⟩⟩
   .rcases zAX.mp z with z|z
    .exact n1 z
    .exact hpl (zAM.mp z).symm
   .rw[zAM]at hy
    subst hy;subst e;exact hpa hx
  .rcases zAX.mp ha with z|z
   .refine⟨(hal a z).1,?_⟩
    rw[aW λ q=>by subst q;exact(zAj.mp hnd).1 z];exact s6 _ _ (s5 _ _ (hal a z).2)
   .rw[zAM]at z
    subst z;exact⟨hpH,by rw[aW hpl];exact hp⟩
 .have ei:i=ds.length:=by omega
  exact .inl ⟨by rw[ei];exact(jj _).1 (zAV _),w l as H2 s2 hHl hH2 hnd (by omega) hal⟩
end
section
variable{C:Ct}{pos lpos:Pos}{tg iter:Expr}{sc:Scope}{N:List Str}{js:hV}{ks:List Nat}{fi:En->Rs (List D)}{fg:D->En->Rs En}
def llS(i:Nat)(fi:En->Rs (List D))(js:hV)(fg:D->En->Rs En):En->Ou:=λ ρ=>(fi (shE ρ)).bo λ ds=>if ds.length<zAO then .nx (ρ.set i (.o2 (zAS ds.length [])))else .st
def aLT(hi:SI C tg iter fi)(hg:SG (C.blk sc N) tg ks fg)(hj:js=[none]:=by rfl)(hfg:∀d,∃ρ1,fg d [.no]= .ok ρ1:=by intro _;exact⟨_,rfl⟩)(hN:∀j,(C.X j).N[i]? =some x:=by intro _;rfl)(hx:∀j,Loc (C.X j).env.scope x:=by intro _;first|exact zB0 rfl|exact zAx rfl)(hsw:∀j,zBv (.ListComp (.List [] lpos) [⟨tg,iter,[],0⟩] sc pos) (some (.Name x pos')) spos.line (C.X j).env=pure true:=by intro _;rfl)(hs:∀i x,zBV iter (C.X i).env x=pure x:=by intro _ _;rfl)(hf:∀j,(C.X j).fn x=true\/(C.X j).env.scope.names.lookup x=some .local:=by intro _;first|exact .inl rfl|exact .inr rfl)(nd:∀j,(C.X j).N.Nodup:=by intro _;assumption)(hB:∀i,dh (C.X i) sc N (stV js) ks:=by intro _;exact aB5 rfl rfl rfl rfl rfl rfl):
  SS C (.Assign [.Name x pos'] (.ListComp (.List [] lpos) [⟨tg,iter,[],0⟩] sc pos) spos) (llS i fi js fg):=by
 subst hj;obtain⟨wi,i1,i2⟩:=hi;obtain⟨g,g1,g2,g3,g4⟩:=hg;obtain⟨tt,t1,t2⟩:=m6 (C:=C.blk sc N);refine⟨_,λ j=>aCJ (nd j) (hN j) (hx j) (hB j) (C.calm j) (i1 j) (λ c fp z5 zS=>g1 (j,c,fp,z5,zS)) g3 (λ c fp z5 zS=>t1 (j,c,fp,z5,zS)) (λ c fp z5 zS=>aAz fH) (hsw j) (hs j) (hf j),λ τ Z H ρ lab De R W=>?_⟩;refine aMJ i2 g2 hfg t2 R (W.bo.imp λ ds _ w=>?_);by_cases hl:ds.length<zAO
 .rw[if_pos hl]at w
  refine⟨hl,λ l as H' s hn hH hnd kQ hal=>?_⟩;have aI:∀p o,H p=some o->(λ p=>if p=l then(i+2,0)else if p∈as then(i+2,as.idxOf p+1)else bJ H 1 lab p) p=lab p:=λ p o e=>by
   dsimp only;have z1:p≠l:=λ z=>by subst z;rw[hn]at e;cases e
   have z2:p∉as:=λ z=>by rw[(hal p z).1]at e;cases e
   rw[if_neg z1,if_neg z2,bA e]
  have R':RR C.K C.G τ ρ Z H' (λ p=>if p=l then(i+2,0)else if p∈as then(i+2,as.idxOf p+1)else bJ H 1 lab p):=by
   refine(R.relab aI λ p hp=>?_).up s;cases e:H p with
   |none=>exact R.old.free e
   |some o=>
    have:=aI p o e
    dsimp only at this hp;rw[this]at hp;exact R.new p hp
  refine w _ _ _ (R'.put (s:=.o2 (zAS ds.length [])) ⟨l,as.map V.ref,rfl,hH,by dsimp only;rw[if_pos rfl],by rw[zAF,zBQ];exact kQ,λ j x es e1 e2=>?_⟩);rw[zAP,zCK]at e1;obtain⟨a,e1,rfl⟩:=e1;have ees:es=[]:=by
   rw[zBg]at e2;split at e2
   .cases e2;rfl
   .cases e2
  subst ees;have ha:a∈as:=zAr e1;have hla:a≠l:=λ z=>by subst z;exact(zAj.mp hnd).1 ha
  have hj2:j<as.length:=(zAL.mp e1).1;refine .lst (hal a ha).2 ?_ .nil
  show(if a=l then(i+2,0)else if a∈as then(i+2,as.idxOf a+1)else bJ H 1 lab a)=(i+2,j+1)
  rw[if_neg hla,if_pos ha];have hix:as.idxOf a<as.length:=zFi.mpr ha
  have:as[as.idxOf a]? =some a:=by rw[zAE hix];exact congrArg some (List.getElem_idxOf hix)
  have:=(zCw hix (zAj.mp hnd).2).mp (this.trans e1.symm)
  rw[this]
 .rw[if_neg hl]at w
  exact zAI w
end
def fK{α:Type}(l:List α)(i:Int)(y:α):List α:=l.take (if i<0 then(i+(l.length:Int)).toNat else min i.toNat l.length)++y::l.drop (if i<0 then(i+(l.length:Int)).toNat else min i.toNat l.length)
def aAR(l:List α)(i:Int)(y:α):(fK l i y).length=l.length+1:=by
 unfold fK;rw[zAZ,zAk,zEB,zEz];omega
def aL4:V->List V->Hp->VK->Prop:=λ x vs H Q=>∃l xs i y,x= .ref l/\vs=[.int i,y]/\H l=some (.lst xs)/\-(2^63)<=i/\i<2^63/\xs.length<zAO/\∀H',jC l H H'->H' l=some (.lst (fK xs i y))->Q .non H'
def aKQ:MtM X "list.insert" aL4:=by
 intro iX s Z H x vs v us Q I rx rv h;obtain⟨l,xs,i,y,rfl,rfl,hH,h1,h2,hz,q⟩:=h;cases rx;obtain⟨u1,u2,rfl,r1,r2⟩:=vals2 rv;obtain⟨t,rfl⟩:=r1;obtain⟨z,its,n,r,hl,e⟩:=I.lstM hH;have hf:zDH i=true:=by unfold zDH;simp;omega
 refine zEh zFY ⟨_,e,rfl⟩ PySem.F.entry_list_insert (PySem.F.args_list_insert_3 _ _ _) (zHm l its.toArray n i t u2 (by simp[hf]) (by rw[zAK];omega)) ⟨e,?_⟩;refine⟨.non,_,I.lset (ys:=fK xs i y) (its':=fK its i u2) hH e ?_ ?_ ?_,rfl,q _ (λ b o ne hb=>by rw[aW ne];exact hb) aX⟩
 .show(its.toArray.extract 0 (if i<0 then(i+(its.toArray.size:Int)).toNat else min i.toNat its.toArray.size)).push u2++its.toArray.extract (if i<0 then(i+(its.toArray.size:Int)).toNat else min i.toNat its.toArray.size)=(fK its i u2).toArray
  rw[PySem.W.kl_ins_eq,zAK];rfl
 .unfold fK
  rw[hl];exact(r.take _).append (.cons r2 (r.drop _))
 .rw[aAR];omega
theorem Rps.fK{K:zAA}(r:Rps K A H xs ds)(h:Rp K A H x d)(i:Int):Rps K A H (VL.fK xs i x) (VL.fK ds i d):=by
 unfold VL.fK;rw[r.length];exact(r.take _).append (.cons h (r.drop _))
section
variable{C:Ct}{pos apos cpos p:Pos}{e e1 e2:Expr}{f1 f2:En->Rs D}{i:Nat}{x:Str}{m m1:Mode}
def aHx(i:Nat)(f1 f2:En->Rs D):En->Ou:=λ ρ=>match ρ[i]? with
 |some (.ow (.lst ds))=>(f1 ρ).bo λ k=>match k with
  | .int n=>(f2 ρ).bo λ d=>if -(2^63)<=n/\n<2^63/\ds.length<zAO then .nx (ρ.set i (.ow (.lst (fK ds n d))))else .st
  |_=>.st
 |_=>.st
def aFA(i:Nat)(he1:SE C m1 e1 f1)(he2:SE C m e2 f2)(hm:okN m=true:=by rfl)(hN:∀j,(C.X j).N[i]? =some x:=by intro _;rfl)(hv:∀j,Vis (C.X j).env.scope x:=by intro _;first|exact zB0 rfl|exact zAx (zB0 rfl)|exact zAx (zAx rfl))(hd:Nd x:=by decide)
  (hcd:(x==("__classdict__":Str))=false:=by decide)(hs1:∀j,zAT [e1,e2] (C.X j).env=(false,eval e1 (C.X j).env)::zAT [e2] (C.X j).env:=by intro _;rfl)(hs2:∀j,zAT [e2] (C.X j).env=[(false,eval e2 (C.X j).env)]:=by intro _;rfl)
  (hbase:∀j,zB2 (.Name x p) "insert" (C.X j).env (eval (.Name x p) (C.X j).env)=eval (.Name x p) (C.X j).env:=by intro _;rfl)
  (hfew:∀j,((zBu cpos (zAT [e1,e2] (C.X j).env)).all (λ x=>!x.1)&&(zET cpos (zCp [] (C.X j).env)).all (λ x=>x.1.isSome)&&decide ([e1,e2].length+([]:List zBz).length+(if ([]:List zBz).isEmpty then 0 else 1)<30))=true:=by intro _;rfl)
  (hline:(apos.endLine==cpos.line)=true:=by rfl)(hplain:∀j,(zBu cpos (zAT [e2] (C.X j).env)).any (·.1)=false:=by intro _;rfl)
  (hsw:∀j,zBv (.Call (.Attribute (.Name x p) "insert" apos) [e1,e2] [] cpos) none pos.line (C.X j).env=pure false:=by intro _;rfl):
  SS C (.Expr (.Call (.Attribute (.Name x p) "insert" apos) [e1,e2] [] cpos) pos) (aHx i f1 f2):=by
 obtain⟨t1,a1,a2⟩:=he1;obtain⟨t2,b1,b2⟩:=he2;refine⟨wM (tBM C.K "list" aL4 (kJ i) (cY t1 (cY t2 oH))),λ j=>nG (by rw[<-C.hK j];exact aCN zCA zFY PySem.F.type_list_insert aKQ (dO (hN j) (hv j) hd hcd) (bT (a1 j) (bT (b1 j) fH (hs2 j)) (hs1 j)) (hbase j) (hfew j) hline (hs1 j) (hplain j)) (hsw j),λ τ Z H ρ lab De R W=>?_⟩;unfold aHx at W;cases es:ρ[i]? with
 |none=>rw[es]at W;exact zAI W
 |some s=>
  rw[es]at W;split at W
  .rename_i ds hs
   cases hs;rcases R.sl i _ es with z|⟨v,ev,hv'⟩
   .cases z
   .obtain⟨hv1,htop⟩:=hv'
    obtain⟨a0,ea0,la0⟩:=htop rfl;subst ea0;cases hv1 with
    |lst h mm r=>
     rename_i xs;refine⟨.ref a0,ev,.inl ⟨rfl,xs,SqL.of h⟩,a2 τ Z H ρ lab _ R (W.bo.imp λ k _ w y1 H1 s1 r1=>?_)⟩;cases k with
     |int n=>
      cases r1;refine b2 τ Z H1 ρ lab _ (R.up s1) (w.bo.imp λ d _ w y H2 s2 r2=>?_);by_cases hz: -(2^63)<=n/\n<2^63/\ds.length<zAO
      .rw[if_pos hz]at w
       refine⟨a0,xs,n,y,rfl,rfl,(s1.trans s2) _ _ h,hz.1,hz.2.1,by rw[r.length];exact hz.2.2,λ H3 B h3=>?_⟩;obtain⟨R',r'⟩:=(R.up s1).fresh (P:=λ k=>k=1) rfl (λ k hk=>beq_iff_eq.mp (jP hm k hk)) s2 r2;have h1:H1 a0=some (.lst xs):=s1 _ _ h;have la:(bJ H1 1 lab a0).1=i+2:=by rw[bA h1];exact la0
       refine w Z H3 _ (R'.mut ev (s2 _ _ h1) rfl la B ⟨.lst h3 (.inr la) ?_,λ _=>⟨a0,rfl,la⟩⟩);have ra:Rps C.K (λ p=>((bJ H1 1 lab p).1=1\/(bJ H1 1 lab p).1=i+2)/\p≠a0) H2 (fK xs n y) (fK ds n d):=by
        refine(r.mono (s1.trans s2) λ p o e z=>⟨by rw[bA (s1 _ _ e)];exact z.1,z.2⟩).fK (r'.wk λ p o e z=>⟨.inl z,λ q=>?_⟩) n;subst q;rw[la]at z;omega
       exact ra.but B (s2 _ _ h1) rfl λ z=>z.2 rfl
      .rw[if_neg hz]at w
       exact zAI w
     |_=>exact zAI w
  .exact zAI W
end
def aKY:∀{us:List α},us.length=6->∃a0 a1 a2 a3 a4 a5,us=[a0,a1,a2,a3,a4,a5]
 |[a0,a1,a2,a3,a4,a5],_=>⟨a0,a1,a2,a3,a4,a5,rfl⟩
theorem aA0(f:α->β):∀(l:List α) (k:Nat),(l.map f).eraseIdx k=(l.eraseIdx k).map f
 |[],_=>rfl
 |_::_,0=>rfl
 |x::l,k+1=>by simp only[zAD,List.eraseIdx_cons_succ,aA0 f l k]
theorem aCD{K:zAA}:∀{ns:List Int} {xs:List V},Rps K A H xs (ns.map .int)->xs=ns.map .int
 |[],_,r=>by cases r;rfl
 |n::ns,_,r=>by
  cases r with
  |cons h r=>
   rw[h.int_inv,aCD r];rfl
def aL0:V->List V->Hp->VK->Prop:=λ x vs H Q=>∃(l:Addr) (ns:List Int) (i:Int),x= .ref l/\vs=[.int i]/\H l=some (.lst (ns.map V.int))/\i∈ns/\ns.length<=zAO/\∀H',jC l H H'->H' l=some (.lst ((ns.eraseIdx (ns.idxOf i)).map V.int))->Q .non H'
def aKP:MtM X "list.remove" aL0:=by
 intro iX s Z H x vs v us Q I rx rv h;obtain⟨l,ns,i,rfl,rfl,hH,hm,hz,q⟩:=h;cases rx;obtain⟨u,rfl,ru⟩:=rv.one;obtain⟨t,rfl⟩:=ru;obtain⟨z,its,n,r,hl,e⟩:=I.lstM hH;rw[zAF]at hl;have hj:ns.idxOf i<ns.length:=zFi.mpr hm;have at_:∀m (hm:m<its.length),∃tk,its[m]= .int (ns[m]'(by lia)) tk:=λ m hm=>by
  have e1:(ns.map V.int)[m]? =some (.int (ns[m]'(by lia))):=by rw[zAP,zAE (by lia)];rfl
  obtain⟨u,eu,ru⟩:=r.get e1;obtain⟨tk,rfl⟩:=ru;exact⟨tk,zAe ((zAE hm).symm.trans eu)⟩
 let eq:Value->Bool:=λ y=>match y with| .int a _=>a==i|_=>false
 refine zEh zFZ ⟨_,e,rfl⟩ PySem.F.entry_list_remove (PySem.F.args_list_remove_2 _ _) (zHn l its.toArray n (.int i t) eq ?_ (ns.idxOf i) (by rw[zAK];lia) ?_ ?_ (by rw[zAK];lia)) ⟨e,?_⟩
 .intro y hy
  obtain⟨m,hm',rfl⟩:=Array.getElem_of_mem hy;rw[zC1];obtain⟨tk,ey⟩:=at_ m (by simpa using hm');rw[ey];exact zGU _ _ _ _
 .rw[zC1]
  obtain⟨tk,ey⟩:=at_ (ns.idxOf i) (by lia);rw[ey]
  show(ns[ns.idxOf i]==i)=true
  simp
 .intro m hm1 hm2
  rw[zC1];obtain⟨tk,ey⟩:=at_ m (by simpa using hm1);rw[ey]
  show(ns[m]'(by lia)==i)=false
  have:=List.not_of_lt_findIdx (p:=(·==i)) (xs:=ns) hm2
  simpa using this
 .refine⟨.non,_,I.lset (ys:=(ns.eraseIdx (ns.idxOf i)).map V.int) (its':=its.eraseIdx (ns.idxOf i)) hH e (by simp) ?_ ?_,rfl,q _ (λ b o ne hb=>by rw[aW ne];exact hb) aX⟩
  .have:=r.eraseIdx (ns.idxOf i)
   rwa [aA0]at this
  .rw[zAF,List.length_eraseIdx]
   split<;>lia
def aM3(ρ:En)(i:Nat)(ds:List D)(d:D):Ou:=match intsOf ds,d with
 |some ns,.int z=>if z∈ns/\ns.length<=zAO then .nx (ρ.set i (.ow (.lst ((ns.eraseIdx (ns.idxOf z)).map .int))))else .st
 |_,_=>.st
def aGm(i:Nat)(fe:En->Rs D):En->Ou:=λ ρ=>match ρ[i]? with
 |some (.ow (.lst ds))=>(fe ρ).bo λ d=>aM3 ρ i ds d
 |_=>.st
section
variable{C:Ct}{pos apos cpos p:Pos}{e:Expr}{fe:En->Rs D}{i:Nat}{x:Str}{m:Mode}
def aEz(i:Nat)(he:SE C m e fe)(hm:okN m=true:=by rfl)(hN:∀j,(C.X j).N[i]? =some x:=by intro _;rfl)(hv:∀j,Vis (C.X j).env.scope x:=by intro _;first|exact zB0 rfl|exact zAx (zB0 rfl)|exact zAx (zAx rfl))(hd:Nd x:=by decide)
  (hcd:(x==("__classdict__":Str))=false:=by decide)(hs1:∀j,zAT [e] (C.X j).env=[(false,eval e (C.X j).env)]:=by intro _;rfl)
  (hbase:∀j,zB2 (.Name x p) "remove" (C.X j).env (eval (.Name x p) (C.X j).env)=eval (.Name x p) (C.X j).env:=by intro _;rfl)
  (hfew:∀j,((zBu cpos (zAT [e] (C.X j).env)).all (λ x=>!x.1)&&(zET cpos (zCp [] (C.X j).env)).all (λ x=>x.1.isSome)&&decide ([e].length+([]:List zBz).length+(if ([]:List zBz).isEmpty then 0 else 1)<30))=true:=by intro _;rfl)
  (hline:(apos.endLine==cpos.line)=true:=by rfl)
  (hsw:∀j,zBv (.Call (.Attribute (.Name x p) "remove" apos) [e] [] cpos) none pos.line (C.X j).env=pure false:=by intro _;rfl):
  SS C (.Expr (.Call (.Attribute (.Name x p) "remove" apos) [e] [] cpos) pos) (aGm i fe):=by
 obtain⟨t,h1,h2⟩:=he;refine⟨wM (tBM C.K "list" aL0 (kJ i) (cY t oH)),λ j=>nG (by rw[<-C.hK j];exact aCN zCA zFZ PySem.F.type_list_remove aKP (dO (hN j) (hv j) hd hcd) (bT (h1 j) fH (hs1 j)) (hbase j) (hfew j) hline (hs1 j) rfl) (hsw j),λ τ Z H ρ lab De R W=>?_⟩;unfold aGm at W;cases es:ρ[i]? with
 |none=>rw[es]at W;exact zAI W
 |some s=>
  rw[es]at W;split at W
  .rename_i ds hs
   cases hs;rcases R.sl i _ es with z|⟨v,ev,hv'⟩
   .cases z
   .obtain⟨hv1,htop⟩:=hv'
    obtain⟨a0,ea0,la0⟩:=htop rfl;subst ea0;cases hv1 with
    |lst h mm r=>
     rename_i xs;refine⟨.ref a0,ev,.inl ⟨rfl,xs,SqL.of h⟩,h2 τ Z H ρ lab _ R (W.bo.imp λ d _ w y H2 s2 r2=>?_)⟩;unfold aM3 at w;split at w
     .rename_i zz ns z hns _
      by_cases hz:z∈ns/\ns.length<=zAO
      .rw[if_pos hz]at w
       have hds:=bQ hns;subst hds;have ex:=aCD r;subst ex;have ey:=r2.int_inv;subst ey;refine⟨a0,ns,z,rfl,rfl,s2 _ _ h,hz.1,hz.2,λ H3 B h3=>?_⟩;obtain⟨R',r'⟩:=R.fresh (P:=λ k=>k=1) rfl (λ k hk=>beq_iff_eq.mp (jP hm k hk)) s2 r2;have la:(bJ H 1 lab a0).1=i+2:=by rw[bA h];exact la0
       exact w Z H3 _ (R'.mut ev (s2 _ _ h) rfl la B ⟨.lst h3 (.inr la) Rps.ints,λ _=>⟨a0,rfl,la⟩⟩)
      .rw[if_neg hz]at w
       exact zAI w
     .exact zAI w
  .exact zAI W
end
def aL5:V->V->Hp->VK->Prop:=λ o i H Q=>∃(p:Addr) (xs:List V) (k:Int) (j:Nat) (z:V),o= .ref p/\i= .int k/\H p=some (.lst xs)/\ixN xs.length k=some j/\xs[j]? =some z/\Q z H
def aIM:aPT X aL5:=by
 intro iX s Z H o i ov iv Q I ro ri h;obtain⟨p,xs,k,j,z,rfl,rfl,hp,hj,hz,q⟩:=h;cases ro;obtain⟨t,rfl⟩:=ri;obtain⟨its,n,r,ho,hs⟩:=I.lst hp;obtain⟨h1,h2,h3,h4⟩:=aBO hj;obtain⟨w,ew,rw'⟩:=r.get hz;have hl:=r.length;have hn:=qu;have hL:s.heap.IsList p its.toArray:=⟨_,ho,rfl,n,rfl⟩;have fin:EP X iX Z Q w s:=⟨z,H,I,rw',q⟩;by_cases h0:0<=k
 .have hk:k.toNat=j:=by
   rw[zGI h0 h4]at h1;exact zAe h1
  exact wpAny_getItem_list hL h0 (by omega) (by rw[hk];simpa using ew) fin
 .have hk:(k+(its.toArray.size:Int)).toNat=j:=by
   rw[zFh (by omega) h3]at h1;rw[zAK,<-hl];exact zAe h1
  exact zHK hL (by omega) (by rw[zAK,<-hl];exact h3) (by omega) (by rw[hk];simpa using ew) fin
def aPL(g:Int->Int->Int)(ρ:En)(i:Nat)(ds:List D)(j:Nat)(a:Int):D->Ou
 | .int b=>.nx (ρ.set i (.ow (.lst (ds.set j (.int (g a b))))))
 |_=>.st
def aGE(ds:List D):D->Option (Nat×Int)
 | .int k=>(ixN ds.length k).bind λ j=>match ds[j]? with
  |some (.int a)=>some (j,a)
  |_=>none
 |_=>none
def aIi(g:Int->Int->Int)(i:Nat)(fk fe:En->Rs D):En->Ou:=λ ρ=>match ρ[i]? with
 |some (.ow (.lst ds))=>(fk ρ).bo λ k=>match aGE ds k with
  |some (j,a)=>(fe ρ).bo λ d=>aPL g ρ i ds j a d
  |none=>.st
 |_=>.st
def aGD(h:aGE ds k=some (j,a)):∃n,k= .int n/\ixN ds.length n=some j/\ds[j]? =some (.int a):=by
 unfold aGE at h;split at h
 .rename_i n
  cases hj:ixN ds.length n with
  |none=>rw[hj]at h;cases h
  |some j'=>
   rw[hj,zC3]at h;split at h
   .rename_i a' ha
    cases h;exact⟨n,rfl,hj,ha⟩
   .cases h
 .cases h
section
variable{C:Ct}{pos tpos p:Pos}{ek e:Expr}{fk fe:En->Rs D}{x:Str}{m m1:Mode}{op:Operator}{g:Int->Int->Int}
def aJJ(i:Nat)(hop:∀j,PIp (C.X j) op (ipI g))(hk:SE C m1 ek fk)(he:SE C m e fe)(hN:∀j,(C.X j).N[i]? =some x:=by intro _;rfl)(hv:∀j,Vis (C.X j).env.scope x:=by intro _;first|exact zB0 rfl|exact zAx (zB0 rfl)|exact zAx (zAx rfl))(hd:Nd x:=by decide)
  (hcd:(x==("__classdict__":Str))=false:=by decide)(ha:∀ov iv new,augStore ek ov iv new=(do zC5 [new,ov,iv] (zGv ov iv new);release [new,ov,iv] [];pure .next):=by intros;rfl):
  SS C (.AugAssign (.Subscript (.Name x p) ek tpos) op e pos) (aIi g i fk fe):=by
 obtain⟨tk,k1,k2⟩:=hk;obtain⟨te,e1,e2⟩:=he;refine⟨aLS (kJ i) tk te aL5 (ipI g) aLZ,λ j=>aJm (dO (hN j) (hv j) hd hcd) (k1 j) aIM (e1 j) (hop j) set_list ha,λ τ Z H ρ lab De R W=>?_⟩;unfold aIi at W;cases es:ρ[i]? with
 |none=>rw[es]at W;exact zAI W
 |some s=>
  rw[es]at W;split at W
  .rename_i ds hs
   cases hs;rcases R.sl i _ es with z|⟨v,ev,hv'⟩
   .cases z
   .obtain⟨hv1,htop⟩:=hv'
    obtain⟨a0,ea0,la0⟩:=htop rfl;subst ea0;cases hv1 with
    |lst h mm r=>
     rename_i xs;refine⟨.ref a0,ev,k2 τ Z H ρ lab _ R (W.bo.imp λ k _ w y1 H1 s1 r1=>?_)⟩;cases hK:aGE ds k with
     |none=>rw[hK]at w;exact zAI w
     |some ja=>
      obtain⟨j,a⟩:=ja;rw[hK]at w;dsimp only at w;obtain⟨n,rfl,hj,hda⟩:=aGD hK;have ey:=r1.int_inv;subst ey;have hjx:j<xs.length:=by rw[r.length];exact(zAL.mp hda).1
      have hx:=zAE hjx;obtain⟨d',ed,rd⟩:=r.get hx;rw[hda]at ed;cases ed;have ex:=rd.int_inv;rw[ex]at hx;refine⟨a0,xs,n,j,.int a,rfl,rfl,s1 _ _ h,by rw[r.length];exact hj,hx,e2 τ Z H1 ρ lab _ (R.up s1) (w.bo.imp λ d _ w y H2 s2 r2=>?_)⟩;cases d with
      |int b=>
       have ey:=r2.int_inv;subst ey;have h2:H2 a0=some (.lst xs):=(s1.trans s2) _ _ h;refine⟨a,b,rfl,rfl,a0,xs,n,j,rfl,rfl,h2,by rw[r.length];exact hj,?_⟩;have B:jC a0 H2 (upd H2 a0 (.lst (xs.set j (.int (g a b))))):=λ b' o ne hb=>by rw[aW ne];exact hb
       refine w Z _ _ ((R.up (s1.trans s2)).mut ev h2 rfl la0 B ⟨.lst aX (.inr la0) ?_,λ _=>⟨a0,rfl,la0⟩⟩);exact((r.up (s1.trans s2)).set (.int (g a b)) j).but B h2 rfl λ z=>z.2 rfl
      |_=>exact zAI w
  .exact zAI W
end
def iz(j:Int):List Int:=(zAw j.toNat).map λ(k:Nat)=>0+(k:Int)
def aM4:List V->Hp->VK->Prop:=λ xs H Q=>∃j:Int,xs=[.int j]/\∀p,H p=none->Q (.ref p) (upd H p (.rng 0 j))
def aCm:cZ X (.type "range") aM4:=by
 intro iX s Z H vs us Q I rv h;obtain⟨j,rfl,q⟩:=h;obtain⟨u,rfl,ru⟩:=rv.one;obtain⟨t,rfl⟩:=ru;exact call_range_1 ⟨.ref s.heap.objs.size,_,I.laid (a:=s.heap.objs.size) (o:=.rng 0 j) (t':=s.toks+1+1) (λ _ _ q=>zAC _ q) (zAV _) ⟨_,_,_,zAN _ rfl⟩,rfl,q _ (I.hok.fresh (zAV _))⟩
def aCF:List V->Hp->VK->Prop:=λ xs H Q=>∃(p:Addr) (j:Int),xs=[.ref p]/\H p=some (.rng 0 j)/\-(2^62)<=j/\j<=10000/\∀l H',aY H H'->H l=none->H' l=some (.lst ((iz j).map V.int))->Q (.ref l) H'
def aDu:∀{ns:List Int} {us:List Value},ns.length=us.length->(∀(k:Nat) i,ns[k]? =some i->∃tk,us[k]? =some (.int i tk))->Vals (ns.map V.int) us:=by
 intro ns;induction ns with
 |nil=>intro us hl _;rw[List.eq_nil_of_length_eq_zero hl.symm];exact .nil
 |cons n ns ih=>
  intro us hl h;obtain⟨tk,e⟩:=h 0 n rfl;cases us with
  |nil=>cases e
  |cons u us=>
   have e':u= .int n tk:=zAe e;subst e';exact .cons ⟨tk,rfl⟩ (ih (zHT hl) λ k i hi=>h (k+1) i hi)
def aB3(hc:X.calm=true):cZ X (.type "list") aCF:=by
 intro iX s Z H vs us Q I rv h;obtain⟨p,j,rfl,hp,h1,h2,q⟩:=h;obtain⟨u,rfl,ru⟩:=rv.one;cases ru;obtain⟨t,u,v,hg⟩:=I.hok p _ hp;have hsz:zBE 0 j 1=(j.toNat:Int):=by
  unfold zBE;simp only[show(1:Int)>0 by decide,if_true];split<;>lia
 refine call_list_range (n:=j.toNat) (I.ok.hd hc) hg ?_ hsz (by lia) λ h' tk acc c' hk hS oQ=>?_
 .have fl:∀x:Int,-(2^62)<=x->x<=2^62->zCC x=true:=λ x hx1 hx2=>by
   unfold zCC;simp;lia
  unfold zCS;rw[hsz,fl 0 (by lia) (by lia),fl j (by lia) (by lia),fl 1 (by lia) (by lia),fl _ (by lia) (by lia),if_pos (by decide),fl (j+(1-1)) (by lia) (by lia),zHs];rfl
 .have hfr:=I.hok.fresh (zAV s.heap.objs.size)
  have hv:Vals ((iz j).map V.int) acc.toList:=by
   have hl:(iz j).length=acc.toList.length:=by rw[show acc.toList.length=acc.size from zB5,oQ.1];simp[iz]
   refine aDu hl λ k i hi=>?_
   have hk2:k<acc.size:=by rw[oQ.1];have:=(zAL.mp hi).1;simpa[iz]using this
   obtain⟨tk,e⟩:=oQ.2 k acc[k] (zC2 hk2);refine⟨tk,?_⟩;have ei:i=0+(k:Int)*1:=by
    unfold iz at hi;rw[zAP]at hi;cases c:(zAw j.toNat)[k]? with
    |none=>rw[c]at hi;cases hi
    |some m=>
     rw[c]at hi;cases hi
     have:=zAL.mp c
     have:m=k:=by simpa using this.2.symm
     subst this
     show(0:Int)+(m:Int)=0+(m:Int)*1
     lia
   rw[ei,<-e];simp[hk2]
  refine⟨.ref s.heap.objs.size,upd H s.heap.objs.size (.lst ((iz j).map V.int)),I.laid (t':=tk) hk (zAV _) ⟨?_,acc.toList,c',hv,by simpa using hS⟩,rfl,q _ _ (au hfr _) hfr aX⟩;simp[iz]
  have:zAO=16777216:=zB3
  lia
def lrR:D->Rs D
 | .int j=>if -(2^62)<=j/\j<=10000 then .ok (.lst (cJ 0 j))else .st
 |_=>.st
def lrD(fa:En->Rs D):En->Rs D:=λ ρ=>(fa ρ).bd lrR
def uV(j:Int):cJ 0 j=(iz j).map D.int:=by
 unfold cJ iz;rw[zAQ,Int.sub_zero];rfl
section
variable{C:Ct}{pos pos2 p p2:Pos}{a:Expr}{fa:En->Rs D}{m:Mode}
def aDF(hmL:C.mg "list"=none)(hmR:C.mg "range"=none)(ha:SE C m a fa)(hs:∀i,zAT [a] (C.X i).env=[(false,eval a (C.X i).env)]:=by intro _;rfl)(hs2:∀i,zAT [.Call (.Name "range" p2) [a] [] pos2] (C.X i).env=[(false,eval (.Call (.Name "range" p2) [a] [] pos2) (C.X i).env)]:=by intro _;rfl)(hgL:∀i,Gl (C.X i) "list":=by intro _;rfl)(hvL:zAp "list"=some (.type "list"):=by decide+kernel)(hgR:∀i,Gl (C.X i) "range":=by intro _;rfl):SE C (some []) (.Call (.Name "list" p) [.Call (.Name "range" p2) [a] [] pos2] [] pos) (lrD fa):=by
 obtain⟨t,h1,h2⟩:=ha;refine⟨tCB aCF (cY (tCB aM4 (cY t oH)) oH),λ i=>gq (aB3 (C.calm i)) (hgL i) (by rw[(C.cx i).2.2.2.1];exact hmL) hvL (bT (gq aCm (hgR i) (by rw[(C.cx i).2.2.2.1];exact hmR) zGi (bT (h1 i) fH (hs i)) (by decide) (by decide) (hs i) rfl) fH (hs2 i)) (by decide) (by decide) (hs2 i) rfl,λ τ Z H ρ lab Q R W=>?_⟩;refine h2 τ Z H ρ lab _ R (W.bd.imp λ d _ w y H1 s1 r1=>?_);unfold lrR at w;split at w
 .rename_i j _
  by_cases hz: -(2^62)<=j/\j<=10000
  .rw[if_pos hz]at w
   have ey:=r1.int_inv;subst ey;refine⟨j,rfl,λ q hq=>⟨q,j,rfl,aX,hz.1,hz.2,λ l H' s' hl hH'=>?_⟩⟩;have s0:=(s1.trans (au hq _)).trans s';have hlH:H l=none:=(s1.trans (au hq _)).free hl;refine w _ H' s0 (.lst hH' (.inl hlH) ?_);rw[uV];exact Rps.ints
  .rw[if_neg hz]at w
   exact zAI w
 .exact zAI w
end
def aPO(ρ:En)(i:Nat)(ds:List Int):D->Ou
 | .int z=>if ds.length<4000 then .nx (ρ.set i (.ow (.set (zBh ds z))))else .st
 |_=>.st
section
variable{prog:zAY}{w:World}{A:zAc}{E:Value->zAG->Prop}{s:zAG}{r:Addr}{a b c:Int}{t u v:Tok}{n:Nat}
def PR(a c:Int):Nat->Value->Prop:=λ i v=>∃t,v= .int (a+i*c) t
def aCi(hh:A.handled=none)(hr:IsRange s.heap r a b c t u v)(hsmall:zCS a b c=true)(hn:zBE a b c=n)(kQ:n<=2^24)
  (h:∀h' tk vs,s.heap.objs.size<h'.objs.size->(∀b o,s.heap.get? b=some o->h'.get? b=some o)->vs.length=n->(∀(j:Nat) v,vs[j]? =some v->PR a c j v)->Q vs {s with heap:=h',toks:=tk}):wpAny (model prog w) A (zH9 (.ref r)) Q E s:=by
 unfold zH9;refine zAB (zG7 (zC4 PySem.F.entry_proto_collect ?_));rw[zEH PySem.F.plain_proto_collect _];show wpAny _ A.in1 (zF7 []>>=λ l=>again (.builtin "list.__iadd__" ⟨[l,.ref r],[]⟩)) _ _ s;refine zAB (zAn (zAH ⟨plainId_quiet zF3 _,zC4 PySem.F.entry_list_iadd ?_⟩));rw[zEH zF3 _];show wpAny _ A.in1 (zCu (.ref s.heap.objs.size) (.ref r) (.ref s.heap.objs.size)) _ _ _;have fin:∀h' tk acc' c',(∀b o,b≠s.heap.objs.size->(s.heap.push (zBY "list" #[] 0)).get? b=some o->h'.get? b=some o)->h'.get? s.heap.objs.size=some {cls:=.type "list",dict:=none,data:=.seq acc' c',slots:=#[]}->ItemsOf (PR a c) acc' n->
   wpAny (model prog w) A (do match (zAs s.heap.objs.size)with
    | .ref a=>match (<-load a).data with
     | .seq xs _=>pure xs.toList
     |_=>zHc "internal:collect"
    |_=>zHc "internal:collect") Q E {s with heap:=h',toks:=tk}:=λ h' tk acc' c' hk hS' oQ=>
  zAB (zIN hS' (zAH (h h' tk acc'.toList (zA2 hS') (λ b o e=>hk b o (zA9 (zA2 e)) (zAC _ e)) (by rw[zB5];exact oQ.1) λ j v e=>oQ.2 j v (by rw[<-zFz];exact e))))
 refine zBO (wpAny_extend_range (A:=A) (s:={s with heap:=s.heap.push (zBY "list" #[] 0)}) (R:=λ r s'=>∃h' tk acc' c',r= .ok (.ret (.ref s.heap.objs.size))/\s'={s with heap:=h',toks:=tk}/\(∀b o,b≠s.heap.objs.size->(s.heap.push (zBY "list" #[] 0)).get? b=some o->h'.get? b=some o)/\h'.get? s.heap.objs.size=some {cls:=.type "list",dict:=none,data:=.seq acc' c',slots:=#[]}/\ItemsOf (PR a c) acc' n)
  hh (zAC _ hr) hsmall hn kQ s.heap.objs.size (.ref s.heap.objs.size) 0 (zAN _ rfl) (λ h' tk acc' c' hk hS' oQ=>⟨h',tk,acc',c',rfl,rfl,hk,hS',oQ⟩)) (λ f s' hf=>?_) λ e s' he=>?_
 .cases f with
  |done f=>
   obtain⟨h',tk,acc',c',q1,q2,q3,q4,q5⟩:=hf;cases q1;subst q2;exact fin h' tk acc' c' q3 q4 q5
  |again c=>
   refine⟨hf.1,zDv hf.2 λ r s' hr=>?_⟩;obtain⟨h',tk,acc',c',q1,q2,q3,q4,q5⟩:=hr;subst q1 q2;exact fin h' tk acc' c' q3 q4 q5
 .obtain⟨h',tk,acc',c',q1,_⟩:=he
  cases q1
end
def v9(r:Addr)(a b c:Int)(t u v:Tok)(n:Nat)(hsmall:zCS a b c=true)(hn:zBE a b c=n)(kQ:n<=10000):
  Meets (zDR.«tuple.__new__» ⟨[.type "tuple",.ref r],[]⟩)
   (λ A R s=>A.handled=none/\IsRange s.heap r a b c t u v/\∀(h':Heap) (tk:Nat) (vs:List Value),s.heap.objs.size<h'.objs.size->(∀b o',s.heap.get? b=some o'->h'.get? b=some o')->vs.length=n->(∀(j:Nat) v,vs[j]? =some v->PR a c j v)->
    R (.ok (.ret (.ref h'.objs.size))) {s with heap:=h'.push {cls:=.type "tuple",data:=.seq vs.toArray},toks:=tk}):=
 .of_wp λ prog w A R s h=>by
  obtain⟨hp,g,d,tk,os⟩:=s;obtain⟨hh,ht,h⟩:=h;have bP:=sub_tuple_self;have hinit:=init_tuple_lookup;have hmh:=madeHere_tuple;have hT:zCk ⟨hp,g,d,tk,os⟩ (.ref r) "range":=⟨_,ht,rfl⟩;wp_walk using zC6 ht,zDx hT,aCi (A:=A.in1) (show A.in1.handled=none from hh) ht hsmall hn (zAh kQ (by decide));intro h' tk' vs hlt hk hl hv;show wpAny _ _ (zB4 vs.toArray>>=λ v=>ret v) _ _ _;unfold zB4;refine zAB (zAn ?_ (by show vs.toArray.size<=zAO;rw[zAK,hl,zB3];lia));exact zAH ⟨_,rfl,h h' tk' vs hlt hk hl hv⟩
def aEQ:List V->Hp->VK->Prop:=λ xs H Q=>∃(p:Addr) (j:Int),xs=[.ref p]/\H p=some (.rng 0 j)/\-(2^62)<=j/\j<=10000/\∀l H',aY H H'->H l=none->H' l=some (.tup ((iz j).map V.int))->Q (.ref l) H'
def aFC(h1: -(2^62)<=j)(h2:j<=10000):zBE 0 j 1=(j.toNat:Int)/\zCS 0 j 1=true:=by
 have hsz:zBE 0 j 1=(j.toNat:Int):=by
  unfold zBE;simp only[show(1:Int)>0 by decide,if_true];split<;>lia
 refine⟨hsz,?_⟩;have fl:∀x:Int,-(2^62)<=x->x<=2^62->zCC x=true:=λ x hx1 hx2=>by
  unfold zCC;simp;lia
 unfold zCS;rw[hsz,fl 0 (by lia) (by lia),fl j (by lia) (by lia),fl 1 (by lia) (by lia),fl _ (by lia) (by lia),if_pos (by decide),fl (j+(1-1)) (by lia) (by lia),zHs];rfl
def aCl(hc:X.calm=true):cZ X (.type "tuple") aEQ:=by
 intro iX s Z H vs us Q I rv h;obtain⟨p,j,rfl,hp,h1,h2,q⟩:=h;obtain⟨u,rfl,ru⟩:=rv.one;cases ru;obtain⟨t,u,v,hg⟩:=I.hok p _ hp;obtain⟨hsz,hsm⟩:=aFC h1 h2;refine callType_new PySem.F.called_tuple (by decide) (PySem.F.typeCall_tuple_1 _) (PySem.F.newCall_tuple_1 _) (λ obj=>PySem.F.args_object_init_2 obj _) PySem.F.entry_tuple_new
  (v9 p 0 j 1 t u v j.toNat hsm hsz (by lia)) ⟨I.ok.hd hc,hg,λ h' tk vs hlt hk hl hv=>⟨⟨_,zAN _ rfl,rfl⟩,?_⟩⟩
 have hle:s.heap.objs.size<=h'.objs.size:=zBc hlt;have hv2:Vals ((iz j).map V.int) vs:=by
  have hl2:(iz j).length=vs.length:=by rw[hl];simp[iz]
  refine aDu hl2 λ k i hi=>?_
  have hk2:k<vs.length:=by rw[<-hl2];exact(zAL.mp hi).1
  obtain⟨tk,e⟩:=hv k vs[k] (zAE hk2);refine⟨tk,?_⟩;have ei:i=0+(k:Int)*1:=by
   unfold iz at hi;rw[zAP]at hi;cases c:(zAw j.toNat)[k]? with
   |none=>rw[c]at hi;cases hi
   |some m=>
    rw[c]at hi;cases hi
    have:=zAL.mp c
    have:m=k:=by simpa using this.2.symm
    subst this
    show(0:Int)+(m:Int)=0+(m:Int)*1
    lia
  rw[ei,<-e];exact zAE hk2
 have hfr:H h'.objs.size=none:=I.hok.fresh hle;refine⟨.ref h'.objs.size,upd H h'.objs.size (.tup ((iz j).map V.int)),I.laid (t':=tk) (λ b o e=>zAC _ (hk b o e)) hle ⟨⟨?_,NoD.push _⟩,vs,hv2,?_⟩,rfl,q _ _ (au hfr _) hfr aX⟩
 .simp[iz]
  have:zAO=16777216:=zB3
  lia
 .exact⟨_,zAN _ rfl,rfl,0,rfl⟩
def trR:D->Rs D
 | .int j=>if -(2^62)<=j/\j<=10000 then .ok (.tup (cJ 0 j))else .st
 |_=>.st
def trD(fa:En->Rs D):En->Rs D:=λ ρ=>(fa ρ).bd trR
section
variable{C:Ct}{pos pos2 p p2:Pos}{a:Expr}{fa:En->Rs D}{m:Mode}
def aFH(hmL:C.mg "tuple"=none)(hmR:C.mg "range"=none)(ha:SE C m a fa)(hs:∀i,zAT [a] (C.X i).env=[(false,eval a (C.X i).env)]:=by intro _;rfl)(hs2:∀i,zAT [.Call (.Name "range" p2) [a] [] pos2] (C.X i).env=[(false,eval (.Call (.Name "range" p2) [a] [] pos2) (C.X i).env)]:=by intro _;rfl)(hgL:∀i,Gl (C.X i) "tuple":=by intro _;rfl)(hvL:zAp "tuple"=some (.type "tuple"):=by decide+kernel)(hgR:∀i,Gl (C.X i) "range":=by intro _;rfl):SE C (some []) (.Call (.Name "tuple" p) [.Call (.Name "range" p2) [a] [] pos2] [] pos) (trD fa):=by
 obtain⟨t,h1,h2⟩:=ha;refine⟨tCB aEQ (cY (tCB aM4 (cY t oH)) oH),λ i=>gq (aCl (C.calm i)) (hgL i) (by rw[(C.cx i).2.2.2.1];exact hmL) hvL (bT (gq aCm (hgR i) (by rw[(C.cx i).2.2.2.1];exact hmR) zGi (bT (h1 i) fH (hs i)) (by decide) (by decide) (hs i) rfl) fH (hs2 i)) (by decide) (by decide) (hs2 i) rfl,λ τ Z H ρ lab Q R W=>?_⟩;refine h2 τ Z H ρ lab _ R (W.bd.imp λ d _ w y H1 s1 r1=>?_);unfold trR at w;split at w
 .rename_i j _
  by_cases hz: -(2^62)<=j/\j<=10000
  .rw[if_pos hz]at w
   have ey:=r1.int_inv;subst ey;refine⟨j,rfl,λ q hq=>⟨q,j,rfl,aX,hz.1,hz.2,λ l H' s' hl hH'=>?_⟩⟩;refine w _ H' ((s1.trans (au hq _)).trans s') (.tup (SqT.of hH') ?_);rw[uV];exact Rps.ints
  .rw[if_neg hz]at w
   exact zAI w
 .exact zAI w
end
section
theorem NoD.at{h:Heap}{a:Addr}{o:Obj}(e:h.get? a=some o)(hd:o.dict=none:=by rfl):L2.NoD h a:=λ u q=>by rw[e]at q;cases q;exact hd
end
def aC6{X:Cx}{iX:hZ}{Z:List (Option V)}{H:Hp}{s:zAG}{h':Heap}{ch:List Addr}{p t':Nat}{o:HO}(I:Inv X iX Z H s)(hf:∀b∈ch,uG X iX H b)(k:∀b u,b∉ch->s.heap.get? b=some u->h'.get? b=some u)
  (hp:s.heap.objs.size<=p)(new:bw X.prog X.w (upd H p o) h' p o):Inv X iX Z (upd H p o) {s with heap:=h',toks:=t'}:=by
 have hn:=I.hok.fresh hp;have nch:∀b u,H b=some u->b∉ch:=λ b u e z=>by have:=(hf b z).1;rw[e]at this;cases this
 refine I.call (g':=s.gens) (d':=s.drawn) (ch:=ch) ⟨λ b u q _ _ hx=>k b u hx q,λ b u q _ _ hx=>⟨u.slots,k b u hx q⟩,λ b u q n _=>?_,λ b u q hx=>⟨u,k b u hx q⟩,λ b xs q=>?_,λ b u xs q=>?_,λ b ps q=>?_⟩ (λ b u e=>?_) I.bare
  λ b hb=>let⟨_,f1,_,f3,f4,f5⟩:=hf b hb;⟨f3,f1,f4,f5⟩
 .rw[aW (zA9 (zA4 (zA2 q) hp))];exact n
 .rw[aW (bj q hn)];exact q
 .rw[aW (bj q hn)];exact q
 .rw[aW (bj q hn)];exact q
 .by_cases hb:b=p
  .subst hb;rw[aX]at e;cases e;exact new
  .rw[aW hb]at e
   refine(I.hok b u e).stay (λ c v hc q=>k c v ?_ q) (λ c q=>by rw[aW (bj q hn)];exact q) (λ c xs q=>by rw[aW (bj q hn)];exact q) λ c o2 u2 q=>by rw[aW (bj q hn)];exact q
   rcases hc with rfl|hc
   .exact nch _ _ e
   .exact nch _ _ hc
theorem aHv:∀{k:List Int} {us:List Value},Vals (k.map V.int) us->ItemsAre (zD5 P w) k us
 |[],_,r=>by cases r;exact .nil
 |i::k,_,r=>by
  cases r with
  |cons h t=>obtain⟨t0,rfl⟩:=h;exact .cons (by simp[zD5,zG5]) (aHv t)
abbrev Ent:=List Int×Addr×V
def DxP(es:List Ent)(xs:List (List Int×Addr×Value)):Prop:=zGe (λ(e:Ent) x=>e.1=x.1/\e.2.1=x.2.1/\RelV e.2.2 x.2.2) es xs
def DxP.mem(p:DxP es xs):∀x∈xs,∃e∈es,e.1=x.1/\e.2.1=x.2.1:=by
 unfold DxP at p;induction p with
 |nil=>intro x hx;cases hx
 |cons h t ih=>
  intro x hx;rcases zA1.mp hx with rfl|hx
  .exact⟨_,zAJ ..,h.1,h.2.1⟩
  .obtain⟨e,he,q⟩:=ih x hx;exact⟨e,zAR _ he,q⟩
def DxP.keys(p:DxP es xs):es.map (·.1)=xs.map (·.1):=by
 unfold DxP at p;induction p with
 |nil=>rfl
 |cons h t ih=>rw[zAD,zAD,ih,h.1]
theorem aEt(k:List Int):∀(xs:List (List Int×β)),(xs.find? λ x=>decide (x.1=k)).isSome=(xs.map (·.1)).any (·==k)
 |[]=>rfl
 |x::xs=>by
  rw[zAD,zCZ,<-aEt k xs,zBb];by_cases e:x.1=k
  .simp[e]
  .have:(x.1==k)=false:=by simpa using e
   simp[e,this]
def DxP.has(p:DxP es xs)(k:List Int):(atKey xs k).isSome=(es.map (·.1)).any (·==k):=by
 unfold atKey;rw[zDh,aEt,p.keys]
def DxP.snoc(p:DxP es xs)(h:e.1=x.1/\e.2.1=x.2.1/\RelV e.2.2 x.2.2):DxP (es++[e]) (xs++[x]):=by
 unfold DxP at p ⊢;induction p with
 |nil=>exact .cons h .nil
 |cons q t ih=>exact .cons q ih
section
variable{X:Cx}{iX:hZ}{Z:L2.St}{H:Hp}{s:zAG}{a b:Addr}{k:List Int}{es:List Ent}
def aK3(I:Inv X iX Z H s)(h:SqT X.K H b (k.map V.int)):(zDE (zD5 X.prog X.w)).is s.heap k b:=by
 obtain⟨its,rv,⟨o,h1,h2,n,h3⟩,hz⟩:=I.tuple h;exact⟨o,its.toArray,n,h1,h2,h3,by simpa using aHv rv⟩
def aPI(I:Inv X iX Z H s)(h:DxK X.K H a es):es.length<=zAO/\(a==zAz)=false/\∃xs,DxP es xs/\s.heap.DictOfH (zDE (zD5 X.prog X.w)) a xs:=by
 obtain⟨⟨hl,hd,xs,o,ts,ep,pr,h1,h2,h3,h4⟩,_⟩:=(show bw X.prog X.w H s.heap a (dxO a es)from I.hok a _ h.at_);refine⟨hl,hd,xs,pr,o,ts,ep,h1,h2,h3,h4,λ x hx=>?_,by rw[<-DxP.keys pr];exact h.nd⟩;obtain⟨e,he,e1,e2⟩:=DxP.mem pr x hx;rw[<-e1,<-e2];exact aK3 I (h.ks e he)
def aI2(hl:es.length<=zAO)(hd:(a==zAz)=false)(pr:DxP es xs)(dd:h'.DictOfH (zDE (zD5 X.prog X.w)) a xs):bw X.prog X.w H' h' a (dxO a es):=by
 obtain⟨o,ts,ep,h1,h2,h3,h4,_,_⟩:=dd;exact⟨⟨hl,hd,xs,o,ts,ep,pr,h1,h2,h3,h4⟩,⟨o,h1⟩,λ g1 g2 ⟨hl,hd,xs,o,ts,ep,pr,h1,r⟩ k=>⟨hl,hd,xs,o,ts,ep,pr,k o h1,r⟩⟩
def aEn(I:Inv X iX Z H s)(h:DxK X.K H a es\/(es=[]/\H a=some (.dK []))):(a==zAz)=false/\∃xs,DxP es xs/\s.heap.DictOfH (zDE (zD5 X.prog X.w)) a xs:=by
 rcases h with h|⟨rfl,h⟩
 .exact(aPI I h).2
 .obtain⟨_,hd,vs,kv,o,ts,ep,h1,h2,h3,h4⟩:=(show bw X.prog X.w H s.heap a (.dK [])from I.hok a _ h)
  cases kv;exact⟨hd,[],.nil,o,ts,ep,h1,h2,h3,by generalize ts.toList=l at h4;obtain⟨_,h4,_⟩:=h4;cases h4;rfl,λ x hx=>(by cases hx),zBs⟩
end
def yC:D->Option (List Int)
 | .tup l=>intsOf l
 |_=>none
def aAM:List D->Option gV
 |[]=>some []
 |d::ds=>match yC d,aAM ds with
  |some k,some ks=>some (k::ks)
  |_,_=>none
def aHq:List D->Option gV
 |[]=>some []
 | .non::ks=>aAM ks
 |_=>none
def ug(h:yC d=some k):d= .tup (k.map .int):=by
 cases d with
 |tup l=>rw[bQ (show intsOf l=some k from h)]
 |_=>cases h
def aHr(k:List Int):yC (.tup (k.map .int))=some k:=bO k
theorem uf:∀(ks:gV),aAM (ks.map λ k=>.tup (k.map .int))=some ks
 |[]=>rfl
 |k::ks=>by
  rw[zAD];unfold aAM;rw[aHr,uf ks]
def pairE(fk fv:En->Rs D):En->Rs D:=λ ρ=>(fk ρ).bd λ k=>(fv ρ).bd λ v=>.ok (.tup [k,v])
section
variable{fk fv:En->Rs D}
def aHU(h:pairE fk fv ρ= .ok y):∃k v,fk ρ= .ok k/\fv ρ= .ok v/\y= .tup [k,v]:=by
 obtain⟨k,h1,h2⟩:=dD h;obtain⟨v,h3,h4⟩:=dD h2;exact⟨k,v,h1,h3,by cases h4;rfl⟩
end
section
variable{prog:zAY}{w:World}{A:zAc}{E:Value->zAG->Prop}{s:zAG}
def aBF{Q:Value->zAG->Prop}(hI:zBD vs ns)(h64:vs.length<64)
  (h:∀(out:List Value) h' e,Vals ((sortI ns).map V.int) out->(∀b o,s.heap.get? b=some o->h'.get? b=some o)->h'.get? s.heap.objs.size=some (zBY "list" out.toArray e)->Q (.ref s.heap.objs.size) {s with heap:=h'}):
  wpAny (model prog w) A (zF7 vs>>=λ l=>zC5 [l] (call (.builtin "list.sort") [l])>>=λ _=>ret l) (λ fin s'=>∃r,fin= .done (.ret r)/\Q r s') E s:=by
 refine zAB (zFP ?_ (by rw[zB3];omega));have hoL:(s.heap.push (zBY "list" vs.toArray 0)).get? s.heap.objs.size=some (zBY "list" vs.toArray 0):=zAN _ rfl;refine zAB (zBS (zB8 slot_list_sort ⟨_,hoL,rfl⟩ entry_list_sort (list_sort_tree (s:={s with heap:=s.heap.push (zBY "list" vs.toArray 0)}) hoL hI h64 λ out ns' a1 a2 a3=>⟨_,rfl,zAH ⟨_,rfl,?_⟩⟩) (args_list_sort _)));have e:ns'=sortI ns:=zGh (a2.trans (sortI_perm ns).symm) a3 (lU ns);subst e;have hne:∀b o,s.heap.get? b=some o->b≠s.heap.objs.size:=λ b o e=>zA9 (zA2 e)
 have g0:=zDC hoL λ _=>(#[]:Array Value)
 have g1:=zAC (zBY "list" #[] 0) (zAC (zBY "tuple" vs.toArray 0) g0);have g2:=zDC g1 (λ _=>out);refine h out.toList _ _ (mU a1) (λ b o e=>?_) (by rw[zGO];exact g2);unfold zF9;rw[zBi _ _ _ _ (hne b o e)];refine zAC _ (zAC _ ?_);rw[zBi _ _ _ _ (hne b o e)];exact zAC _ e
end
section
theorem ints_of:∀(tks:List (Int×Tok)),zBD (tks.map λ p=>zDB p.1 p.2) (tks.map (·.1))
 |[]=>.nil
 |p::r=>.cons _ _ (ints_of r)
end
abbrev aPX:=List (Str×(List D->Rs D))
def fnOf(tab:aPX):Rs D->Option (List D->Rs D)
 | .ok (.fn x)=>tab.lookup x
 |_=>none
end VL
namespace HT
open PySem PySem.Spec PyProof.Rows
end HT
namespace VL
open PySem PySem.Spec PyProof.Rows L2
end VL
namespace PySem.AutoSeq1
set_option maxRecDepth 8000 in
def aD2(l:Addr)(items:Array Value)(n:Nat)(b:Addr)(items2:Array Value)(n2:Nat)(dd:Option Addr)(sl:Array (Option Value))(hs0:¬(!items.isEmpty&&zBo (items.size+items2.size))=true)(hs1:items.size<=zAO)(hs2:items.size+items2.size<=zAO+1):
  Meets (zDR.«list.extend» ⟨[.ref l,.ref b],[]⟩) (λ _ R s=>s.heap.get? l=some {cls:=.type "list",dict:=none,data:=.seq items n,slots:=#[]}/\s.heap.get? b=some {cls:=.type "tuple",dict:=dd,data:=.seq items2 n2,slots:=sl}/\
   R (.ok (.ret zAu)) {s with heap:=s.heap.update l (zBR λ x=>x++items2),toks:=s.toks}):=
 .of_wp λ prog w A R s h=>by
  obtain⟨hp,g,d,tk,os⟩:=s;obtain⟨hl,hb,h⟩:=h;have f1:=idx_int;have f2:=sub_tuple_tuple;have f3:=sub_list_list;have f4:=sub_tuple_list;have f5:=sub_list_tuple;have hz':(items++items2).size<=zAO+1:=by rw[zGk];exact hs2
  wp_walk using(wpAny_updateSeq hl rfl (hz:=hs1) (_hz':=hz')),zC6 hl,zC6 hb;exact⟨_,rfl,h⟩
end PySem.AutoSeq1
namespace VL
open PySem PySem.Spec PyProof.Rows L2
def aL6(K:zAA):V->List V->Hp->VK->Prop:=λ x vs H Q=>∃l b xs zs,x= .ref l/\vs=[.ref b]/\H l=some (.lst xs)/\SqT K H b zs/\xs.length+zs.length<=zAO/\∀H',jC l H H'->H' l=some (.lst (xs++zs))->Q .non H'
def aKR:MtM X "list.extend" (aL6 X.K):=by
 intro iX s Z H x vs v us Q I rx rv h;obtain⟨l,b,xs,zs,rfl,rfl,hH,hB,hz,q⟩:=h;cases rx;obtain⟨u,rfl,ru⟩:=rv.one;cases ru;obtain⟨z,its,n,r,hl,e⟩:=I.lstM hH;obtain⟨its2,r2,⟨⟨c2,dd,dt,sl⟩,e2,hc2,n2,hd2⟩,z2⟩:=I.tuple hB;replace hc2:c2= .type "tuple":=hc2;replace hd2:dt= .seq its2.toArray n2:=hd2;subst hc2 hd2;have l1:=r.length;have l2:=r2.length;have hsz:its.toArray.size+its2.toArray.size<=zAO:=by rw[zAK,zAK];lia
 have b9:¬(!its.toArray.isEmpty&&zBo (its.toArray.size+its2.toArray.size))=true:=by
  rw[aCT hsz,zEY];exact zAU
 refine zEh zGP ⟨_,e,rfl⟩ F.entry_list_extend (F.args_list_extend_2 _ _) (AutoSeq1.aD2 l its.toArray n b its2.toArray n2 dd sl b9 (by lia) (by lia)) ⟨e,e2,?_⟩;refine⟨.non,_,I.lset (its':=its++its2) hH e (by simp) (r.append r2) ?_,rfl,q _ (λ b o ne hb=>by rw[aW ne];exact hb) aX⟩;rw[zAZ];lia
section
variable{C:Ct}{pos apos cpos p:Pos}{e:Expr}{fe:En->Rs D}{i:Nat}{x:Str}{m:Mode}
def aNp(ds:List D)(k:List D->Ou):D->Ou
 | .tup es=>if ds.length+es.length<=zAO then k (ds++es)else .st
 |_=>.st
def zf(i:Nat)(fe:En->Rs D):En->Ou:=λ ρ=>match ρ[i]? with
 |some (.ow (.lst ds))=>(fe ρ).bo (aNp ds λ l=>.nx (ρ.set i (.ow (.lst l))))
 |_=>.st
def aDB(i:Nat)(he:SE C m e fe)(hm:okN m=true:=by rfl)(hN:∀j,(C.X j).N[i]? =some x:=by intro _;rfl)(hv:∀j,Vis (C.X j).env.scope x:=by intro _;first|exact zB0 rfl|exact zAx (zB0 rfl)|exact zAx (zAx rfl))(hd:Nd x:=by decide)
  (hcd:(x==("__classdict__":Str))=false:=by decide)(hs1:∀j,zAT [e] (C.X j).env=[(false,eval e (C.X j).env)]:=by intro _;rfl)
  (hbase:∀j,zB2 (.Name x p) "extend" (C.X j).env (eval (.Name x p) (C.X j).env)=eval (.Name x p) (C.X j).env:=by intro _;rfl)
  (hfew:∀j,((zBu cpos (zAT [e] (C.X j).env)).all (λ x=>!x.1)&&(zET cpos (zCp [] (C.X j).env)).all (λ x=>x.1.isSome)&&decide ([e].length+([]:List zBz).length+(if ([]:List zBz).isEmpty then 0 else 1)<30))=true:=by intro _;rfl)
  (hline:(apos.endLine==cpos.line)=true:=by rfl)
  (hsw:∀j,zBv (.Call (.Attribute (.Name x p) "extend" apos) [e] [] cpos) none pos.line (C.X j).env=pure false:=by intro _;rfl):
  SS C (.Expr (.Call (.Attribute (.Name x p) "extend" apos) [e] [] cpos) pos) (zf i fe):=by
 obtain⟨t,h1,h2⟩:=he;refine⟨wM (tBM C.K "list" (aL6 C.K) (kJ i) (cY t oH)),λ j=>nG (by rw[<-C.hK j];exact aCN zCA zGP PySem.F.type_list_extend aKR (dO (hN j) (hv j) hd hcd) (bT (h1 j) fH (hs1 j)) (hbase j) (hfew j) hline (hs1 j) rfl) (hsw j),λ τ Z H ρ lab De R W=>?_⟩;unfold zf at W;cases es:ρ[i]? with
 |none=>rw[es]at W;exact zAI W
 |some s=>
  rw[es]at W;split at W
  .rename_i ds hs
   cases hs;rcases R.sl i _ es with z|⟨v,ev,hv'⟩
   .cases z
   .obtain⟨hv1,htop⟩:=hv'
    obtain⟨a0,ea0,la0⟩:=htop rfl;subst ea0;obtain⟨a1,xs,ea1,h,mm,r⟩:=hv1.lst_inv;cases ea1;refine⟨.ref a0,ev,.inl ⟨rfl,xs,SqL.of h⟩,h2 τ Z H ρ lab _ R (W.bo.imp λ d _ w y H2 s2 r2=>?_)⟩;cases d with
    |tup es'=>
     dsimp only[aNp]at w;by_cases hz:ds.length+es'.length<=zAO
     .rw[if_pos hz]at w
      obtain⟨R',r'⟩:=R.fresh (P:=λ k=>k=1) rfl (λ k hk=>beq_iff_eq.mp (jP hm k hk)) s2 r2;have la:(bJ H 1 lab a0).1=i+2:=by rw[bA h];exact la0
      obtain⟨b,zs,rfl,hb,rb⟩:=r'.tup_inv;refine⟨a0,b,xs,zs,rfl,rfl,s2 _ _ h,hb,by rw[r.length,rb.length];exact hz,λ H3 B h3=>?_⟩;refine w Z H3 _ (R'.mut ev (s2 _ _ h) rfl la B ⟨.lst h3 (.inr la) ?_,λ _=>⟨a0,rfl,la⟩⟩);have ra:Rps C.K (λ p=>((bJ H 1 lab p).1=1\/(bJ H 1 lab p).1=i+2)/\p≠a0) H2 (xs++zs) (ds++es'):=by
       refine(r.mono s2 λ p o e z=>⟨by rw[bA e];exact z.1,z.2⟩).append (rb.wk λ p o e z=>⟨.inl z,λ q=>?_⟩);subst q;have z1:(bJ H 1 lab p).1=1:=z;lia
      exact ra.but B (s2 _ _ h) rfl λ z=>z.2 rfl
     .rw[if_neg hz]at w
      exact zAI w
    |_=>exact zAI w
  .exact zAI W
end
def Enr(K:zAA)(x:Str)(st:Stmt)(f:Addr)(fd:zA8):Prop:=L2.Fun K x x st f fd/\zAq K zAd x=some (some (.ref f))
def enr{K:zAA}{st:Stmt}{oc kV dc pm cd ct:Value}(a:zAq K zAd x=some (some (.ref f)))
  (l:K.lookup f=some ⟨oc,od,.func (zBy x x (pR st) (fX st) (aO st) .none kV dc pm an cd ct),sl⟩)(c:zD3 K cd x=true)(k:zCr K (.ref f)=true):∃f fd,Enr K x st f fd:=⟨f,_,aNk (st:=st) l c k,a⟩
structure Dnr(K:zAA)(mg:Str->Option Value)(x:Str)(st:Stmt)(ps:List Str)(f:Addr)(d:zA8):Prop where
 F:L2.Fun K x x st f d
 m:mg x=some (.ref f)
 b:L2.Binds K d ps []
section
variable{C:Ct}
def aU{st:Stmt}(hF:bU C.prog C.w C.K C.mg C.base (CX1 C.prog C.w) k fn fd ps (spF C.K C.G.cl n F))(D:Dnr C.K C.mg x st ps fn fd)(ha:SA C m (e::es) ga)(hr:k<=C.k:=by exact zCY rfl)(hg:∀i,Gl (C.X i) x:=by intro _;rfl)
  (hn:∀ρ ds,ga ρ= .ok ds->ds.length=n:=by repeat (first|exact λ _ _ h=>aKW h|apply aHl))(hdb:Nd x:=by decide)(he:∀i,zAT (e::es) (C.X i).env=(false,eval e (C.X i).env)::zAT es (C.X i).env:=by intro _;rfl)
  (hpl:∀i,(zBu pos (zAT es (C.X i).env)).any (·.1)=false:=by intro _;rfl):SE C (some []) (.Call (.Name x p) (e::es) [] pos) (aR F ga):=aJ3 hF hr D.m D.F.kp D.b ha hn hdb he hpl hg
end
def aj{P:zAY}{w:World}{K:zAA}{st:Stmt}(D:Dnr K mg q st ps fn fd)(S:aV N ps (aO st))(hb:N.Nodup->∀cdv A outer s H E hr,SSs (ctD P w K mg base N q (aO st) fn cdv A outer s H E k hr) (fX st) f)(hn:ps.length=n:=by rfl)(hF:cV N.length f=FF:=by rfl):
  bU P w K mg base (CX1 P w) (k+1) fn fd ps (spF K (bI mg) n FF):=aKo D.F S (hb S.nd) hn hF
def aDq(items:Array Value)(nss:Nat->List Int)(h:Heap):Prop:=∀i v,items[i]? =some v->∃x its,v= .ref x/\IsTup h x its/\zBD its.toList (nss i)
def aDO(items:Array Value):List Addr:=items.toList.filterMap λ v=>match v with| .ref x=>some x|_=>none
def aDN{items:Array Value}{i:Nat}(h:items[i]? =some (zAs x)):x∈aDO items:=by
 unfold aDO;rw[zCQ];exact⟨.ref x,by have:=zAr (l:=items.toList) (i:=i) (by simpa using h);exact this,rfl⟩
def aDq.keep(T:aDq items nss h)(k:∀b∈aDO items,∀o,h.get? b=some o->h'.get? b=some o):aDq items nss h':=λ i v e=>by
 obtain⟨x,its,rfl,⟨o,h1,h2⟩,h3⟩:=T i v e;exact⟨x,its,rfl,⟨o,k x (aDN e) o h1,h2⟩,h3⟩
def putN(ds:List D):D->Option Nat
 | .int n=>ixN ds.length n
 |_=>none
def gk(ks vs:List D):Option (List (Int×D)):=match intsOf ks with
 |some is=>if is.length=vs.length then some (is.zip vs)else none
 |none=>none
def bY(ps:List (Int×D)):D:=.dct (ps.map λ p=>.int p.1) (ps.map (·.2))
def xQ(h:gk ks vs=some ps):ks=ps.map (λ p=>.int p.1)/\vs=ps.map (·.2):=by
 unfold gk at h;split at h
 .rename_i is hi
  split at h
  .rename_i hl
   cases h;refine⟨?_,?_⟩
   .rw[bQ hi,show(λ p:Int×D=>D.int p.1)=(λ i=>D.int i)∘zDt from rfl,<-zAQ,zFA (by lia)]
   .rw[zFB (by lia)]
  .cases h
 .cases h
theorem aGI:∀ps:List (Int×D),(ps.map (·.1)).zip (ps.map (·.2))=ps
 |[]=>rfl
 |p::ps=>by rw[zAD,zAD,zAy,aGI ps]
def jX(ps:List (Int×D)):gk (ps.map λ p=>.int p.1) (ps.map (·.2))=some ps:=by
 unfold gk;have e:intsOf (ps.map λ p=>D.int p.1)=some (ps.map (·.1)):=by
  rw[show(ps.map λ p=>D.int p.1)=(ps.map (·.1)).map D.int by rw[zAQ];rfl];exact bO _
 rw[e];dsimp only;rw[if_pos (by rw[zAF,zAF]),aGI]
def Rp.dctI_inv{K:zAA}(r:Rp K A H v (.dct ks vs))(h:gk ks vs=some ps):
  ∃a kvs,v= .ref a/\H a=some (.dK kvs)/\A a/\Rps K (λ p=>A p/\p≠a) H (kvs.map (·.2)) (ps.map (·.2))/\kvs.map (·.1)=ps.map λ p=>(zCH p.1:Key):=by
 obtain⟨h1,h2⟩:=xQ h;generalize hd:D.dct ks vs=d at r;cases r with
 |dK hh m r=>
  rename_i kvs ds;injection hd with q1 q2
  subst q2;refine⟨_,kvs,rfl,hh,m,by rw[<-h2];exact r,?_⟩;rw[h1]at q1;clear r h h1 h2 hh;induction kvs generalizing ps with
  |nil=>cases ps with
   |nil=>rfl
   |cons _ _=>cases q1
  |cons p kvs ih=>cases ps with
   |nil=>cases q1
   |cons q ps=>
    obtain⟨p1,p2⟩:=p;rw[zAD,zAD]at q1;injection q1 with q3 q4
    rw[zAD,zAD,ih q4];cases p1 with
    |inl i=>injection q3 with q3;rw[q3]
    |inr x=>cases q3
 |dT hh m r=>
  injection hd with q1 q2
  rw[h1]at q1;cases ps<;>cases q1
 |_=>cases hd
theorem aCv{K:zAA}:∀{kvs:List (Key×V)} {ps:List (Int×D)},Rps K A H (kvs.map (·.2)) (ps.map (·.2))->(kvs.map (·.1)=ps.map λ p=>(zCH p.1:Key))->∀i:Int,
  (∃d v,ps.lookup i=some d/\uK kvs (.inl i)=some v/\Rp K A H v d)\/(ps.lookup i=none/\uK kvs (.inl i)=none)
 |[],[],_,_,_=>.inr ⟨rfl,rfl⟩
 |[],_::_,_,e,_=>by cases e
 |_::_,[],_,e,_=>by cases e
 |p::kvs,q::ps,r,e,i=>by
  obtain⟨p1,p2⟩:=p;obtain⟨q1,q2⟩:=q;rw[zAD,zAD]at e;injection e with e1 e2
  replace e1:p1= .inl q1:=e1;subst e1;rw[zAD,zAD]at r;cases r with
  |cons h r=>
   by_cases c:q1=i
   .subst c
    exact .inl ⟨q2,p2,by simp[zA7],rB rfl,h⟩
   .have c1:(i==q1)=false:=by simpa using λ z=>c z.symm
    rw[rC (p:=(zCH q1,p2)) (by simpa using c),zA7,c1];exact aCv r e2 i
def kW:D->D->Rs D
 | .dct ks vs,.int i=>match gk ks vs with
  |some ps=>(match ps.lookup i with
   |some d=>.ok d
   |none=>.st)
  |none=>.st
 |_,_=>.st
def jw(neg:Bool):D->D->Rs D
 | .int i,.dct ks vs=>match gk ks vs with
  |some ps=>.ok (.bl (neg !=(ps.lookup i).isSome))
  |none=>.st
 |_,_=>.st
def aPc:R2:=λ x y H Q=>∃a v,x= .ref a/\vp H a y (some v)/\Q v H
def aGx(neg:Bool):R2:=λ y x H Q=>∃a o,x= .ref a/\vp H a y o/\Q (.bl (neg !=o.isSome)) H
def aNJ{X:Cx}(hu:X.A.units+1<cLine):OpR X (zAm .In) (aGx false):=by
 intro iX s Z H y x u v Q I ry rx ⟨a,o,ex,g,q⟩;subst ex;cases rx;exact aPf hu I g ry λ s3 I3=>⟨.bl o.isSome,H,I3,rfl,by simpa using q⟩
def aKG{X:Cx}(hu:X.A.units+1<cLine):OpR X (zAm .NotIn) (aGx true):=by
 intro iX s Z H y x u v Q I ry rx ⟨a,o,ex,g,q⟩;subst ex;cases rx;exact aKv hu I g ry λ s3 I3=>⟨.bl (!o.isSome),H,I3,rfl,by simpa using q⟩
def aH0{K:zAA}:OpS K (aGx n) (jw n):=by
 intro A x y d e H Q z rx ry ez q;unfold jw at ez;split at ez
 .rename_i i ks vs
  cases hp:gk ks vs with
  |none=>rw[hp]at ez;cases ez
  |some ps=>
   rw[hp]at ez;cases ez;have ex:=rx.int_inv;subst ex;obtain⟨a,kvs,rfl,h1,m,r,hk⟩:=ry.dctI_inv hp;refine⟨a,_,rfl,vp.k (k:=.inl i) h1,?_⟩;rcases aCv r hk i with ⟨d,v,e1,e2,_⟩|⟨e1,e2⟩
   .rw[e2];rw[e1]at q;exact q _ H (aY.refl H) (.bl _)
   .rw[e2];rw[e1]at q;exact q _ H (aY.refl H) (.bl _)
 .cases ez
section
variable{C:Ct}{m1 m2:Mode}{a b:Expr}{fa fb:En->Rs D}{pos:Pos}
def Ct.din(C:Ct)(i:C.ι):OpR (C.X i) (zAm .In) (aGx false):=aNJ (by have:=(C.room i).un;lia)
def Ct.dnin(C:Ct)(i:C.ι):OpR (C.X i) (zAm .NotIn) (aGx true):=aKG (by have:=(C.room i).un;lia)
def aMI(ha:SE C m1 a fa)(hb:SE C m2 b fb)(hm:zBk .In b=false:=by with_unfolding_all rfl):ST C (.Compare a [.In] [b] pos) (tsb (op2 (jw false) fa fb)):=mW C.din aH0 ha hb hm
def aAi(ha:SE C m1 a fa)(hb:SE C m2 b fb)(hm:zBk .NotIn b=false:=by with_unfolding_all rfl):ST C (.Compare a [.NotIn] [b] pos) (tsb (op2 (jw true) fa fb)):=mW C.dnin aH0 ha hb hm
def aDG(ha:SE C m1 a fa)(hb:SE C m2 b fb)(hp:wH b:=by exact λ _ _=>rfl):SE C m1 (.Subscript a b pos) (op2 kW fa fb):=by
 obtain⟨t,h1,h2⟩:=ha;obtain⟨u,k1,k2⟩:=hb;refine⟨tOp aPc t u,λ i=>aJy (by have:=(C.room i).un;lia) (h1 i) (k1 i) hp,λ τ Z H ρ lab Q R W=>?_⟩;refine h2 τ Z H ρ lab _ R (W.bd.imp λ d _ w x H1 s1 r1=>?_);refine k2 τ Z H1 ρ lab _ (R.up s1) (w.bd.imp λ e _ w y H2 s2 r2=>?_);obtain⟨z,ez,wz⟩:=w.okD;cases d with
 |dct ks vs=>
  cases e with
  |int i=>
   cases hp2:gk ks vs with
   |none=>unfold kW at ez;dsimp only at ez;rw[hp2]at ez;cases ez
   |some ps=>
    unfold kW at ez;dsimp only at ez;rw[hp2]at ez;dsimp only at ez;have ey:=r2.int_inv;subst ey;obtain⟨a,kvs,rfl,g1,m,r,hk⟩:=(r1.up s2).dctI_inv hp2;rcases aCv r hk i with ⟨d,v,e1,e2,e3⟩|⟨e1,e2⟩
    .rw[e1]at ez
     cases ez;have g2:vp H2 a (.int i) (some v):=by
      have:=vp.k (k:=.inl i) g1
      rw[e2]at this;exact this
     exact⟨a,v,rfl,g2,wz v H2 (s1.trans s2) (e3.wk λ p o _ q=>q.1)⟩
    .rw[e1]at ez;cases ez
  |_=>cases ez
 |_=>cases ez
end
def rN(ps:List (Int×D))(i:Int)(d:D):List (Int×D):=if (ps.any λ p=>decide (p.1=i))=true then ps.map (λ p=>if p.1=i then(p.1,d)else p)else ps++[(i,d)]
theorem aIm:∀{kvs:List (Key×V)} {ps:List (Int×D)} {i:Int},(kvs.map (·.1)=ps.map λ p=>(zCH p.1:Key))->(kvs.any λ kv=>decide (kv.1=(.inl i:Key)))=ps.any λ p=>decide (p.1=i)
 |[],[],_,_=>rfl
 |[],_::_,_,e=>by cases e
 |_::_,[],_,e=>by cases e
 |(p1,p2)::kvs,q::ps,i,e=>by
  rw[zAD,zAD]at e;injection e with e1 e2
  replace e1:p1= .inl q.1:=e1;subst e1;rw[zCZ,zCZ,aIm e2];simp
theorem aGl{K:zAA}{i:Int}{v:V}{d:D}(h:Rp K A H v d):∀{kvs:List (Key×V)} {ps:List (Int×D)},Rps K A H (kvs.map (·.2)) (ps.map (·.2))->(kvs.map (·.1)=ps.map λ p=>(zCH p.1:Key))->
  Rps K A H ((kvs.map λ kv=>if kv.1= .inl i then(kv.1,v)else kv).map (·.2)) ((ps.map λ p=>if p.1=i then(p.1,d)else p).map (·.2))/\((kvs.map λ kv=>if kv.1= .inl i then(kv.1,v)else kv).map (·.1)=(ps.map λ p=>if p.1=i then(p.1,d)else p).map λ p=>(zCH p.1:Key))
 |[],[],_,_=>⟨.nil,rfl⟩
 |[],_::_,_,e=>by cases e
 |_::_,[],_,e=>by cases e
 |(p1,p2)::kvs,(q1,q2)::ps,r,e=>by
  rw[zAD,zAD]at e;injection e with e1 e2
  replace e1:p1= .inl q1:=e1;subst e1;rw[zAD,zAD]at r;cases r with
  |cons h1 r1=>
   obtain⟨z1,z2⟩:=aGl h r1 e2;rw[zAD,zAD,zAD,zAD,zAD,zAD,z2];by_cases c:q1=i
   .subst c
    rw[if_pos rfl,if_pos rfl];exact⟨.cons h z1,rfl⟩
   .rw[if_neg (show¬((zCH q1:Key),p2).1=zCH i by simpa using c),if_neg (show¬(q1,q2).1=i from c)]
    exact⟨.cons h1 z1,rfl⟩
def aHA{K:zAA}{kvs:List (Key×V)}{ps:List (Int×D)}{i:Int}{v:V}{d:D}(r:Rps K A H (kvs.map (·.2)) (ps.map (·.2)))(e:kvs.map (·.1)=ps.map λ p=>(zCH p.1:Key))(h:Rp K A H v d):
  Rps K A H ((putK kvs (.inl i) v).map (·.2)) ((rN ps i d).map (·.2))/\(putK kvs (.inl i) v).map (·.1)=(rN ps i d).map λ p=>(zCH p.1:Key):=by
 unfold putK rN;rw[aIm e];split
 .exact aGl h r e
 .rw[zAa,zAa,zAa,zAa,e]
  exact⟨r.append (.cons h .nil),rfl⟩
def wD{K:zAA}{kvs:List (Key×V)}{ps:List (Int×D)}(h:H a=some (.dK kvs))(m:A a)(r:Rps K (λ p=>A p/\p≠a) H (kvs.map (·.2)) (ps.map (·.2)))(e:kvs.map (·.1)=ps.map λ p=>(zCH p.1:Key)):Rp K A H (.ref a) (bY ps):=by
 have e1:(kvs.map λ p=>kD p.1)=ps.map λ p=>.int p.1:=by
  rw[show(kvs.map λ p=>kD p.1)=(kvs.map (·.1)).map kD by rw[zAQ];rfl,e,zAQ];rfl
 have:=Rp.dK h m r
 rw[e1]at this;exact this
def qG:D->D->Option (List (Int×D)×Int)
 | .dct ks vs,.int i=>(gk ks vs).map λ ps=>(ps,i)
 |_,_=>none
def pdS(i:Nat)(fk fe:En->Rs D):En->Ou:=λ ρ=>match ρ[i]? with
 |some (.ow c)=>(fe ρ).bo λ d=>(fk ρ).bo λ k=>match qG c k with
  |some (ps,j)=>if ps.length<zAO then .nx (ρ.set i (.ow (bY (rN ps j d))))else .st
  |none=>.st
 |_=>.st
def aDT(h:qG c k=some (ps,j)):∃ks vs,c= .dct ks vs/\k= .int j/\gk ks vs=some ps:=by
 unfold qG at h;split at h
 .rename_i ks vs i
  cases hp:gk ks vs with
  |none=>rw[hp]at h;cases h
  |some ps'=>rw[hp]at h;cases h;exact⟨ks,vs,rfl,rfl,hp⟩
 .cases h
def prT:D->Option (Int×D)
 | .tup [.int i,v]=>some (i,v)
 |_=>none
def nq:List D->Option (List (Int×D))
 |[]=>some []
 |d::ds=>match prT d,nq ds with
  |some p,some ps=>some (p::ps)
  |_,_=>none
def aHJ(h:prT d=some p):d= .tup [.int p.1,p.2]:=by
 unfold prT at h;split at h
 .cases h;rfl
 .cases h
def xP(h:nq (d::ds)=some ps):∃p qs,d= .tup [.int p.1,p.2]/\nq ds=some qs/\ps=p::qs:=by
 unfold nq at h;split at h
 .rename_i p qs h1 h2
  cases h;exact⟨p,qs,aHJ h1,h2,rfl⟩
 .cases h
def mC(acc qs:List (Int×D)):List (Int×D):=qs.foldl (λ ps q=>rN ps q.1 q.2) acc
def dcI(fi:En->Rs (List D))(js:hV)(fg:D->En->Rs En)(ft:En->Rs Bool)(fk fv:En->Rs D):En->Rs D:=λ ρ=>(fi (shE ρ)).bd λ ds=>
 if ds.length<zAO then(match lcL (stE js (shE ρ)) fg ft (pairE fk fv) ds with
  | .ok l=>(match nq l with
   |some qs=>.ok (bY (mC [] qs))
   |none=>.st)
  |_=>.st)else .st
def aOL(tk tv:TE):Addr->L2.St->Hp->(Hp->Prop)->Prop:=λ D Z H Q=>tk Z H λ y H1=>tv Z H1 λ v H2=>∃i kvs,y= .int i/\H2 D=some (.dK kvs)/\kvs.length<zAO/\Q (upd H2 D (.dK (putK kvs (.inl i) v)))
def aOj{X:Cx}{kx vx:Expr}{tk tv:TE}(hk:PE X kx tk)(hv:PE X vx tv):PB X (yf kx vx) (aOL tk tv):=by
 intro D iX s Z H Q I h;unfold yf;refine zAB (thn (hk iX s Z H _ I h) λ u s1 ⟨y,H1,I1,r1,q1⟩=>zAB (zBS (thn (hv iX s1 Z H1 _ I1 q1) λ u2 s2 ⟨v,H2,I2,r2,i,kvs,ey,hD,hl,q⟩=>?_)));subst ey;refine zAB (zDe (zBS ?_));obtain⟨z,hd,vs,rel,dd⟩:=aI3 I2.hok hD;have hz:vs.length<=zAO:=by rw[<-rel.length];exact z
 have hl2:(putK kvs (.inl i) v).length<=zAO:=by have:=lA kvs (.inl i) v;lia
 refine wpAny_dictSet_pairs (knd:=cL X.prog X.w) (k:=.inl i) (hsz:=hz) (aAO (k:=.inl i) r1) dd λ h' dd' hs=>⟨_,?_,q⟩
 have he:∃q,h'.get? D=some q:=let⟨q,_,_,hq,_⟩:=dd';⟨q,hq⟩
 exact aBW I2 (t':=s2.toks+1) (by rw[hD];exact zCN) hs he (aI4 hl2 hd (rel.put (.inl i) r2) dd')
def aOD:aIw prog w newDict (λ ob=>ob={cls:=.type "dict",data:=.dict #[]}) (λ _=>.dK []) where
 make:=λ h=>zAn (h _ rfl)
 live:=by rintro ob rfl;rfl
 ok:=by
  rintro H h a ob rfl hg hb;exact⟨zAi _,beq_eq_false_iff_ne.mpr (zCq (zA9 hb)),[],.nil,_,#[],0,hg,⟨rfl,rfl,rfl⟩,rfl,λ _ he=>(by simp at he),Pairs.nil,zBs⟩
def yJ(acc qs:List (Int×D))(q:Int×D):mC acc (qs++[q])=rN (mC acc qs) q.1 q.2:=by unfold mC;rw[List.foldl_append];rfl
theorem aCL:∀{l m:List D} {ps:List (Int×D)},nq (l++m)=some ps->∃p1 p2,nq l=some p1/\nq m=some p2/\ps=p1++p2
 |[],m,ps,h=>⟨[],ps,rfl,h,rfl⟩
 |d::l,m,ps,h=>by
  obtain⟨p,qs,rfl,h2,rfl⟩:=xP h;obtain⟨p1,p2,e1,e2,rfl⟩:=aCL h2;exact⟨p::p1,p2,by unfold nq;rw[e1];rfl,e2,rfl⟩
theorem aAH(p:Int×D):∀{l:List D} {ps:List (Int×D)},nq l=some ps->nq (l++[.tup [.int p.1,p.2]])=some (ps++[p])
 |[],ps,h=>by cases h;rfl
 |d::l,ps,h=>by
  obtain⟨q,qs,rfl,h2,rfl⟩:=xP h;rw[zDM];unfold nq;rw[aAH p h2];rfl
section
variable{K:zAA}{G:Gx}{wi:TI}{fi:En->Rs (List D)}{g:TG}{fg:D->En->Rs En}{tt:TT}{ft:En->Rs Bool}{tk tv:TE}{fk fv:En->Rs D}{js:hV}
def aMK(hi:aLD K G wi fi)(hg:aLE K {G with E:=λ _ _ _=>False} g fg)(ht:aDr K {G with E:=λ _ _ _=>False} tt ft)(hk:iU K {G with E:=λ _ _ _=>False} (some []) tk fk)(hv:iU K {G with E:=λ _ _ _=>False} (some []) tv fv):
  iU K G (some []) (aOT (λ _=>.dK []) wi (stV js) g tt (aOL tk tv)) (dcI fi js fg ft fk fv):=by
 intro τ Z H ρ lab Q R W;refine hi τ Z H _ _ _ R.shE (W.bd.imp λ ds _ w J H1 lab1 τ1 s1 _ R1 jl=>?_);intro l hl;obtain⟨kQ,out,qs,pV,hqs,w⟩:ds.length<zAO/\∃out qs,lcL (stE js (VL.shE ρ)) fg ft (pairE fk fv) ds= .ok out/\nq out=some qs/\QE K (some []) lab H Q (bY (mC [] qs)):=by
  by_cases kQ:ds.length<zAO
  .rw[if_pos kQ]at w
   cases pV:lcL (stE js (VL.shE ρ)) fg ft (pairE fk fv) ds with
   |ok out=>
    rw[pV]at w;dsimp only at w;cases hns:nq out with
    |some ns=>rw[hns]at w;exact⟨kQ,out,ns,rfl,hns,w⟩
    |none=>rw[hns]at w;exact zAI w
   |ex c=>rw[pV]at w;exact zAI w
   |st=>rw[pV]at w;exact zAI w
  .rw[if_neg kQ]at w
   exact zAI w
 have R0:RR K {G with E:=λ _ _ _=>False} (τ1++τ) (VL.shE ρ) Z H1 (λ _=>(0,0)):=R1.blk0 rfl;have RB:=R0.block (js:=js) (λ _=>zAi _) hl;have hHl:H l=none:=s1.free hl;have h0l:G.H0 l=none:=R1.old.free hl;refine⟨λ i n H2=>∃(kvs:List (Key×V)) (pre:List D) (qp:List (Int×D)),n=ds.length-i/\i<=ds.length/\H2 l=some (.dK kvs)/\kvs.length<=i/\nq pre=some qp/\Rps K (λ p=>H p=none/\p≠l) H2 (kvs.map (·.2)) ((mC [] qp).map (·.2))/\(kvs.map (·.1)=(mC [] qp).map λ p=>(zCH p.1:Key))/\
  RR K {G with E:=λ _ _ _=>False} (τ1++τ) (stE js (VL.shE ρ)) (stV js Z) H2 (λ p=>if p=l then(2,0)else(0,0))/\aY H H2/\
  ∃post,lcL (stE js (VL.shE ρ)) fg ft (pairE fk fv) (ds.drop i)= .ok post/\out=pre++post,⟨ds.length,[],[],[],by lia,by lia,aX,zAV _,rfl,.nil,rfl,RB.up (au hl _),s1.trans (au hl _),out,pV,rfl⟩,?_⟩
 rintro i n H2 ⟨kvs,pre,qp,rfl,hi,hD,hei,hqp,rv,rk,R2,s2,post,hpost,eout⟩;have jj:=jl _ H2 λ q hq=>R2.tm q (zA5 _ hq)
 by_cases hlt:i<ds.length
 .obtain⟨go,yl⟩:=(jj i).2 hlt
  refine .inr ⟨go,λ x H3 hy=>?_⟩;obtain⟨s3,d,ed,rx⟩:=yl x H3 hy;replace R2:=R2.up s3;replace hD:=s3 _ _ hD;replace s2:=s2.trans s3;replace rv:=rv.up s3;have ed2:ds.drop i=d::ds.drop (i+1):=by
   rw[zC8 hlt]
   have:=zAE hlt
   rw[ed]at this;cases this;rfl
  rw[ed2]at hpost;obtain⟨ρ1,k,e1,e2,e3⟩:=aCZ hpost;refine hg (τ1++τ) x d _ H3 _ _ _ ρ1 R2 rx e1 λ Z4 R4=>?_
  refine ht (τ1++τ) Z4 H3 ρ1 _ _ R4 ?_;rw[e2];intro H5 s5;rcases e3 with ⟨rfl,y,ys,e3,e4,rfl⟩|⟨rfl,e4⟩
  .rw[if_pos rfl]
   obtain⟨kd,vd,e5,e6,rfl⟩:=aHU e3;obtain⟨p,k3,q3,q4⟩:∃(p:Int×D) (k3:List (Int×D)),D.tup [kd,vd]= .tup [.int p.1,p.2]/\nq ys=some k3:=by
    rw[eout]at hqs;obtain⟨p1,p2,_,q2,_⟩:=aCL hqs;obtain⟨p,k3,a1,a2,_⟩:=xP q2;exact⟨p,k3,a1,a2⟩
   injection q3 with q3
   injection q3 with q5 q6
   injection q6 with q6
   subst q5 q6;refine hk (τ1++τ) Z4 H5 ρ1 _ _ (R4.up s5) ?_;rw[e5];intro v H6 s6 r6;refine hv (τ1++τ) Z4 H6 ρ1 _ _ ((R4.up s5).up s6) ?_;rw[e6];intro v2 H7 s7 r7;have ey:=r6.int_inv;subst ey;have hD7:H7 l=some (.dK kvs):=((s5.trans s6).trans s7) _ _ hD;have B:jC l H7 (upd H7 l (.dK (putK kvs (.inl p.1) v2))):=λ b o ne hb=>by rw[aW ne];exact hb
   obtain⟨z1,z2⟩:=aHA (i:=p.1) (A:=λ q=>H q=none/\q≠l) (rv.up ((s5.trans s6).trans s7)) rk (r7.wk λ q o _ z=>by
    rcases z with z|z
    .exact⟨((s2.trans s5).trans s6).free z,λ e=>by subst e;rw[(s5.trans s6) _ _ hD]at z;cases z⟩
    .cases z)
   refine⟨p.1,kvs,rfl,hD7,by lia,ds.length-(i+1),by lia,putK kvs (.inl p.1) v2,pre++[.tup [.int p.1,p.2]],qp++[p],rfl,hlt,aX,by have:=lA kvs (.inl p.1) v2;lia,aAH p hqp,?_,?_,(R2.up ((s5.trans s6).trans s7)).but_blk B hD7 rfl h0l,?_,ys,e4,by rw[eout];simp⟩
   .rw[yJ]
    exact z1.but B hD7 rfl λ z=>z.2 rfl
   .rw[yJ]
    exact z2
   .exact λ b o hb=>B b o (λ z=>by subst z;rw[hHl]at hb;cases hb) ((((s2.trans s5).trans s6).trans s7) b o hb)
  .rw[if_neg zAU]
   exact⟨ds.length-(i+1),by lia,kvs,pre,qp,rfl,hlt,s5 _ _ hD,by lia,hqp,rv.up s5,rk,R2.up s5,s2.trans s5,post,e4,eout⟩
 .have ei:i=ds.length:=by lia
  subst ei;rw[zEA]at hpost;cases hpost;rw[zBG]at eout;subst eout;rw[hqs]at hqp;cases hqp;exact .inl ⟨(jj _).1 (zAV _),w _ H2 s2 (wD hD (.inl hHl) (rv.wk λ p o _ z=>⟨.inl z.1,z.2⟩) rk)⟩
end
section
variable{C:Ct}{pos:Pos}{kx vx tg iter:Expr}{ifs:List Expr}{sc:Scope}{N:List Str}{js:hV}{ks:List Nat}{fi:En->Rs (List D)}{fg:D->En->Rs En}{ft:En->Rs Bool}{fk fv:En->Rs D}
def aLU(hi:SI C tg iter fi)(hg:SG (C.blk sc N) tg ks fg)(ht:aIp (C.blk sc N) ifs ft)(hk:SE (C.blk sc N) (some []) kx fk)(hv:SE (C.blk sc N) (some []) vx fv)(hs:∀i x,zBV iter (C.X i).env x=pure x:=by intro _ _;rfl)(hB:∀i,dh (C.X i) sc N (stV js) ks:=by intro _;exact aB5 rfl rfl rfl rfl rfl rfl):SE C (some []) (.DictComp kx vx [⟨tg,iter,ifs,0⟩] sc pos) (dcI fi js fg ft fk fv):=by
 obtain⟨wi,i1,i2⟩:=hi;obtain⟨g,g1,g2,g3,g4⟩:=hg;obtain⟨tt,t1,t2⟩:=ht;obtain⟨tk,k1,k2⟩:=hk;obtain⟨tv,v1,v2⟩:=hv;exact⟨_,λ i=>aOh (pos:=pos) (hB i) (C.calm i) (i1 i) (λ c fp z5 zS=>g1 (i,c,fp,z5,zS)) g3 (λ c fp z5 zS=>t1 (i,c,fp,z5,zS)) (aEw kx vx tg iter ifs sc pos) (aDA kx vx tg iter ifs sc pos) aOD (λ c fp z5 zS=>aOj (X:=(C.X i).block sc c N fp z5 zS) (k1 (i,c,fp,z5,zS)) (v1 (i,c,fp,z5,zS))) rfl rfl (hs i),aMK i2 g2 t2 k2 v2⟩
end
section
variable{prog:zAY}{w:World}{A:zAc}{E:Value->zAG->Prop}{s:zAG}
def aCh{l:Addr}{vs:List Value}{Q:List Value->zAG->Prop}(hl:IsTup s.heap l vs.toArray)
  (h:Q vs {s with heap:=(s.heap.push (zBY "list" #[] 0)).update s.heap.objs.size (zBR (·++vs.toArray))})(hsz:vs.length<=zAO):
  wpAny (model prog w) A (zH9 (.ref l)) Q E s:=by
 obtain⟨o,ho,hc,n,hd⟩:=hl;unfold zH9;refine zAB (zG7 (zC4 entry_proto_collect' ?_));show wpAny _ _ (do again (.builtin "list.__iadd__" ⟨[<-zF7 [],.ref l],[]⟩)) _ _ s;refine zAB (zFP (zAH ⟨zEe _ (by decide+kernel),zC4 entry_list_iadd' ?_⟩));show wpAny _ _ (zCu (.ref s.heap.objs.size) (.ref l) (.ref s.heap.objs.size)) _ _ {s with heap:=s.heap.push (zBY "list" #[] 0)};unfold zCu;have ho':(s.heap.push (zBY "list" #[] 0)).get? l=some o:=zAC _ ho;refine zAB (zDx (T:="tuple") ⟨o,ho',hc⟩ ?_);have ht:(zCL "tuple"==zCL "tuple")=true:=by rfl
 rw[if_pos (by rw[ht];simp)];refine zAB (zHZ ho' hd ?_);refine zAB (zHZ (xs:=#[]) (n:=0) (zAN _ rfl) rfl ?_);rw[if_neg (by simp)];refine zAB (zFM (xs:=#[]) (n:=0) (zAN _ rfl) rfl ?_ (zAi _) (by show(#[]++vs.toArray).size<=zAO+1;simp only[zGk,zAK,zBW];omega));refine zAH ?_;show wpAny (model prog w) A (do
   let o <-load s.heap.objs.size
   match o.data with
   | .seq xs _=>pure xs.toList
   |_=>zHc "internal:collect") Q E {s with heap:=(s.heap.push (zBY "list" #[] 0)).update s.heap.objs.size (zBR (·++vs.toArray))}
 refine zAB (zIN (zDC (zAN _ rfl) _) ?_);show wpAny _ _ (pure ((#[]:Array Value)++vs.toArray).toList) Q E _;rw[show((#[]:Array Value)++vs.toArray).toList=vs by simp];exact zAH h
end
end VL
namespace PySem
open Sem(wp)
section
variable{prog:zAY}{w:World}
inductive aBe{K:Type}[DecidableEq K](knd:KeyKind prog w K)(h:Heap):List Value->List (K×Value)->Prop where
 |nil:aBe knd h [] []
 |cons {x:Addr} {o:Obj} {n:Nat} {kv v:Value} {k:K} {us:List Value} {ps:List (K×Value)} (ho:h.get? x=some o) (hc:o.cls= .type "tuple") (hd:o.data= .seq #[kv,v] n) (hk:knd.is k kv=true) (r:aBe knd h us ps):aBe knd h (.ref x::us) ((k,v)::ps)
end
end PySem
namespace VL
open PySem PySem.Spec PyProof.Rows L2
def aJn:gV->Option gX
 |[]=>some []
 |[i,j]::r=>(match aJn r with
  |some qs=>some ((i,j)::qs)
  |none=>none)
 |_=>none
def aLq:List D->Rs D
 |[.tup l]=>match mV l with
  |some nss=>(match aJn nss with
   |some qs=>.ok (bY (mC [] (qs.map λ q=>(q.1,.int q.2))))
   |none=>.st)
  |none=>.st
 |_=>.st
section
variable{K:Type}[DecidableEq K]
end
def aLN(l a:Addr):HO:=.ext λ h=>h.IsValuesView l a
def aGL(neg:Bool):D->D->Rs D
 | .int i,.dct ks vs=>match gk ks vs,intsOf vs with
  |some _,some js=>.ok (.bl (neg !=js.any (·==i)))
  |_,_=>.st
 |_,_=>.st
end VL
namespace L2
open PySem PySem.Spec PyProof.Rows
section
variable{X:Cx}{n0 n1 n2 odd:Str}{c1 c2:V}{k1 k2 k3 k4:List V}{l1 l2:List Str}{a1 a2:Expr}{as1 as2 e1 e2 e3 e4 w1 w2:List Expr}{kw1 kw2:List zBz}{Q:VK}{H:Hp}{vs:List V}
 {p1 p2 p3 p4 p5 p6 p7 p8 p9 p10 p11 p12 p13 p14 p15 p16 p17 p18 p19 p20 p21 p22 p23 p24 p25 p26 p27 p28 p29 p30 p31 p32 p33 p34 p35 p36 p37 p38 p39 p40:Pos}{q1 q2 q3 q4 q5 q6 q7:Pos}{j1 j2 j3 j4 j5:Nat}{E0:XK}{wd:Addr->Option Str}
end
section
variable{P:zAY}{w:World}{K:zAA}{mg:Str->Option Value}{base:Heap}{x q n0 n1 n2 odd:Str}{st:Stmt}{f:Addr}{fd:zA8}{k:Nat}{wd:Addr->Option Str}{c1 c2:V}{k1 k2 k3 k4:List V}{l1 l2:List Str}{a1 a2:Expr}{as1 as2 e1 e2 e3 e4 w1 w2:List Expr}{kw1 kw2:List zBz}
 {p1 p2 p3 p4 p5 p6 p7 p8 p9 p10 p11 p12 p13 p14 p15 p16 p17 p18 p19 p20 p21 p22 p23 p24 p25 p26 p27 p28 p29 p30 p31 p32 p33 p34 p35 p36 p37 p38 p39 p40:Pos}{q1 q2 q3 q4 q5 q6 q7:Pos}{j1 j2 j3 j4 j5:Nat}
end
section
variable{X:Cx}{n0 n1 n2 odd:Str}{c1 c2:V}{k1 k2 k3 k4:List V}{l1 l2:List Str}{a1 a2:Expr}{as1 as2 e1 e2 e3 e4 w1 w2:List Expr}{kw1 kw2:List zBz}{Q:VK}{H:Hp}{vs:List V}
 {p1 p2 p3 p4 p5 p6 p7 p8 p9 p10 p11 p12 p13 p14 p15 p16 p17 p18 p19 p20 p21 p22 p23 p24 p25 p26 p27 p28 p29 p30 p31 p32 p33 p34 p35 p36 p37 p38 p39 p40:Pos}{q1 q2 q3 q4 q5 q6 q7:Pos}{j1 j2 j3 j4 j5:Nat}{E0:XK}{wd:Addr->Option Str}
end
section
variable{P:zAY}{w:World}{K:zAA}{mg:Str->Option Value}{base:Heap}{x q n0 n1 n2 odd:Str}{st:Stmt}{f:Addr}{fd:zA8}{k:Nat}{wd:Addr->Option Str}{c1 c2:V}{k1 k2 k3 k4:List V}{l1 l2:List Str}{a1 a2:Expr}{as1 as2 e1 e2 e3 e4 w1 w2:List Expr}{kw1 kw2:List zBz}
 {p1 p2 p3 p4 p5 p6 p7 p8 p9 p10 p11 p12 p13 p14 p15 p16 p17 p18 p19 p20 p21 p22 p23 p24 p25 p26 p27 p28 p29 p30 p31 p32 p33 p34 p35 p36 p37 p38 p39 p40:Pos}{q1 q2 q3 q4 q5 q6 q7:Pos}{j1 j2 j3 j4 j5:Nat}
end
end L2
namespace VL
open PySem PySem.Spec PyProof.Rows L2
def dnr{K:zAA}{h:Heap}{mg:Str->Option Value}{x:Str}{st:Stmt}(X:K.In h)(G:h.Ns zAd mg)(e:∃f d,Enr K x st f d)(ps:List Str)
  (hb:∀(kV doc pm:Value) (an:Option Addr) (cdv ct:Value) (us:List Value),us.length=ps.length->bindArgs (zBy x x (pR st) (fX st) (aO st) .none kV doc pm an cdv ct) ⟨us,[]⟩=pure (ps.zip us):=by
   intro _ _ _ _ _ _ us hl;repeat' first|rfl|(simp at hl;done)|rcases us with _|⟨_,us⟩):∃f d,Dnr K mg x st ps f d/\zAq K zAd x=some (some (.ref f)):=by
 obtain⟨f,d,F,a⟩:=e;exact⟨f,d,⟨F,zBn X G a,F.binds hb⟩,a⟩
section
variable{X:Cx}
def aAx(K:zAA):List V->Hp->VK->Prop:=λ xs H Q=>∃p ns,xs=[.ref p]/\SqT K H p (ns.map V.int)/\ns.length<64/\New H (.lst ((sortI ns).map V.int)) Q
def zq:cZ X (.builtin "sorted") (aAx X.K):=by
 intro iX s Z H xs us Q I r h;obtain⟨p,ns,rfl,hp,h64,q⟩:=h;obtain⟨u,rfl,ru⟩:=vals1 r;cases ru;obtain⟨its,rv,pl,hz⟩:=I.tuple hp;have hI:zBD its ns:=intsAre_of rv;have kQ:its.length=ns.length:=zGz hI;refine rF (aCh pl ?_ (by rw[kQ];exact zAh (zBc h64) (by decide)));have k1:∀b o,s.heap.get? b=some o->((s.heap.push (zBY "list" #[] 0)).update s.heap.objs.size (zBR (·++its.toArray))).get? b=some o:=λ b o e=>by
  rw[zBi _ _ _ _ (zA9 (zA2 e))];exact zAC _ e
 have hle:s.heap.objs.size<=((s.heap.push (zBY "list" #[] 0)).update s.heap.objs.size (zBR (·++its.toArray))).objs.size:=by
  rw[zHN,size_push'];exact zCz _
 generalize (s.heap.push (zBY "list" #[] 0)).update s.heap.objs.size (zBR (·++its.toArray))=h1 at k1 hle;refine aBF (s:={s with heap:=h1}) hI (by lia) λ out h' e a1 a2 a3=>?_
 have hfr:H h1.objs.size=none:=I.hok.fresh hle;exact⟨.ref h1.objs.size,upd H h1.objs.size (.lst ((sortI ns).map V.int)),I.laid (t':=s.toks) (λ b o e=>a2 b o (k1 b o e)) hle ⟨by rw[zAF,(sortI_perm ns).length_eq];exact zAh (zBc h64) (by decide),out,e,a1,a3⟩,rfl,q.at hfr⟩
end
def qW:List D->Rs D
 |[.tup l]=>match intsOf l with
  |some ns=>if ns.length<64 then .ok (.lst ((sortI ns).map .int))else .st
  |none=>.st
 |_=>.st
def aDm{K:zAA}:aAg K (aAx K) qW:=by
 intro A xs ds H Q z r ez q;unfold qW at ez;split at ez
 .cases r with
  |cons h r=>
   cases r;obtain⟨a,xs,rfl,h,r⟩:=h.tup_inv;split at ez
   .rename_i ns e
    have e1:=bQ e;subst e1;split at ez
    .rename_i hl
     cases ez;have e2:=r.ints_of;subst e2;exact⟨_,ns,rfl,h,hl,λ p H' s hp hn=>q _ H' s (.lst hp hn .ints)⟩
    .cases ez
   .cases ez
 .cases ez
section
variable{C:Ct}{pos p:Pos}{m:Mode}{a:Expr}{ga:En->Rs (List D)}
def aBt(hm:C.mg "sorted"=none)(ha:SA C m [a] ga)(he:∀i,zAT [a] (C.X i).env=[(false,eval a (C.X i).env)]:=by intro _;rfl)(hg:∀i,Gl (C.X i) "sorted":=by intro _;rfl)(hv:zAp "sorted"=some (.builtin "sorted"):=by decide+kernel):SE C (some []) (.Call (.Name "sorted" p) [a] [] pos) (opA qW ga):=by
 obtain⟨t,h1,h2⟩:=ha;refine⟨_,λ i=>jg (r:=aAx C.K) (by rw[<-C.hK i];exact zq) (hg i) (by rw[(C.cx i).2.2.2.1];exact hm) hv (h1 i) (by decide) (by decide) (he i) rfl,rG aDm h2⟩
end
end VL
namespace L2
open PySem PySem.Spec PyProof.Rows
end L2
namespace VL
open PySem PySem.Spec PyProof.Rows L2
def aPn(A:zAc)(s:zAG)(v u:Value)(b:Bool):Prop:=∀(prog:zAY) (w:World) (E:Value->zAG->Prop) (Q:Value->zAG->Prop),Q (.bool b) s->wpAny (model prog w) A (zGH .Gt v u) Q E s
inductive aGH(A:zAc)(s:zAG):List Value->List Value->Bool->Prop
 |nn:aGH A s [] [] false
 |nc:aGH A s [] (v::vs) false
 |cn:aGH A s (v::vs) [] true
 |eq:zCg A s v u true->aGH A s vs us b->aGH A s (v::vs) (u::us) b
 |un:zCg A s v u false->aPn A s v u b->aGH A s (v::vs) (u::us) b
section
open PySem.SeqAt
open PySem.AutoSeq1(wpAny_loadPart')
open PySem.MeetsSeq PySem.MeetsSeq2 PySem.MeetsSeq3
end
section
structure Cmp(f:D->D->Option Bool)(l:List D):Prop where
 n0:0<l.length
 im:oF l=true
 nd:bG l=true
 dp:dW l<=40
 cm:∀x∈l,∀y∈l,(f x y).isSome=true
instance:Decidable (Cmp f l):=if h:0<l.length/\oF l=true/\bG l=true/\dW l<=40/\∀x∈l,∀y∈l,(f x y).isSome=true then .isTrue ⟨h.1,h.2.1,h.2.2.1,h.2.2.2.1,h.2.2.2.2⟩else .isFalse λ z=>h ⟨z.n0,z.im,z.nd,z.dp,z.cm⟩
end
mutual
def lsD:D->D->Option Bool
 | .int a,.int b=>some (decide (a<b))
 | .tup l,.tup m=>aOt l m
 |_,_=>none
def aOt:List D->List D->Option Bool
 |[],[]=>some false
 |[],_::_=>some true
 |_::_,[]=>some false
 |x::xs,y::ys=>if eqD x y=true then aOt xs ys else lsD x y
end
def aPm(A:zAc)(s:zAG)(v u:Value)(b:Bool):Prop:=∀(prog:zAY) (w:World) (E:Value->zAG->Prop) (Q:Value->zAG->Prop),Q (.bool b) s->wpAny (model prog w) A (zGH .Lt v u) Q E s
inductive aGG(A:zAc)(s:zAG):List Value->List Value->Bool->Prop
 |nn:aGG A s [] [] false
 |nc:aGG A s [] (v::vs) true
 |cn:aGG A s (v::vs) [] false
 |eq:zCg A s v u true->aGG A s vs us b->aGG A s (v::vs) (u::us) b
 |un:zCg A s v u false->aPm A s v u b->aGG A s (v::vs) (u::us) b
section
open PySem.SeqAt
open PySem.AutoSeq1(wpAny_loadPart')
open PySem.MeetsSeq PySem.MeetsSeq2 PySem.MeetsSeq3
end
theorem intsAre_of:∀{vs:List Value} {ns:List Int},vs.length=ns.length->(∀(i:Nat) v,vs[i]? =some v->∃t,v= .int (ns.getD i 0) t)->zBD vs ns
 |[],[],_,_=>.nil
 |[],_::_,h,_=>by cases h
 |_::_,[],h,_=>by cases h
 |v::vs,n::ns,h,hv=>by
  obtain⟨t,e⟩:=hv 0 v rfl;have e2:v= .int n t:=e;subst e2;exact .cons _ _ (intsAre_of (by simpa using h) λ i v e=>by
   obtain⟨t,e⟩:=hv (i+1) v (by simpa using e);exact⟨t,by simpa using e⟩)
def xT(ks vs:List D):Option (List (List Int×D)):=match aHq ks with
 |some kk=>if kk.length=vs.length then some (kk.zip vs)else none
 |none=>none
def tW(ps:List (List Int×D)):D:=.dct (.non::ps.map λ p=>.tup (p.1.map .int)) (ps.map (·.2))
theorem aDs:∀ps:List (List Int×D),(ps.map (·.1)).zip (ps.map (·.2))=ps
 |[]=>rfl
 |p::ps=>by rw[zAD,zAD,zAy,aDs ps]
def xR(ps:List (List Int×D)):xT (.non::ps.map λ p=>.tup (p.1.map .int)) (ps.map (·.2))=some ps:=by
 have e:aHq (.non::ps.map λ p=>D.tup (p.1.map .int))=some (ps.map (·.1)):=by
  show aAM (ps.map λ p=>D.tup (p.1.map .int))=_;rw[show(ps.map λ p=>D.tup (p.1.map .int))=(ps.map (·.1)).map λ k=>D.tup (k.map .int)by rw[zAQ];rfl];exact uf _
 unfold xT;rw[e];dsimp only;rw[if_pos (by rw[zAF,zAF]),aDs]
def DxO(K:zAA)(H:Hp)(a:Addr)(es:List Ent):Prop:=DxK K H a es\/(es=[]/\H a=some (.dK []))
def Rp.dctX_inv{K:zAA}(r:Rp K A H v (.dct ks vs))(h:xT ks vs=some ps):
  ∃a es,v= .ref a/\DxO K H a es/\A a/\Rps K (λ p=>A p/\p≠a) H (es.map (·.2.2)) (ps.map (·.2))/\es.map (·.1)=ps.map (·.1):=by
 unfold xT at h;cases hk:aHq ks with
 |none=>rw[hk]at h;cases h
 |some kk=>
  rw[hk]at h;dsimp only at h;split at h
  .rename_i hl
   cases h;have p1:(kk.zip vs).map (·.1)=kk:=zFA (by lia);have p2:(kk.zip vs).map (·.2)=vs:=zFB (by lia);rw[p1,p2];clear p1 p2 hl;generalize hd:D.dct ks vs=d at r;cases r with
   |dT hh m r=>
    rename_i es ds;injection hd with q1 q2
    subst q1 q2;replace hk:aAM (es.map λ e=>D.tup (e.1.map .int))=some kk:=hk;rw[show(es.map λ e=>D.tup (e.1.map .int))=(es.map (·.1)).map λ k=>D.tup (k.map .int)by rw[zAQ];rfl,uf]at hk;exact⟨_,es,rfl,.inl hh,m,r,zAe hk⟩
   |dK hh m r=>
    rename_i kvs ds;injection hd with q1 q2
    subst q1 q2;cases kvs with
    |nil=>cases hk;exact⟨_,[],rfl,.inr ⟨rfl,hh⟩,m,r,rfl⟩
    |cons p ps=>
     obtain⟨p1,p2⟩:=p;cases p1<;>cases hk
   |_=>cases hd
  .cases h
def lkE(es:List Ent)(k:List Int):Option V:=(es.find? λ e=>decide (e.1=k)).map (·.2.2)
def DxP.lk{k:List Int}{v:V}(p:DxP es xs)(h:lkE es k=some v):∃q,atKey xs k=some q/\RelV v q.2:=by
 unfold lkE at h;unfold atKey;unfold DxP at p;induction p with
 |nil=>cases h
 |cons q t ih=>
  rename_i e x es xs;rw[zBb]at h ⊢;rw[<-q.1];by_cases c:e.1=k
  .rw[decide_eq_true c]at h ⊢
   cases h;exact⟨_,rfl,q.2.2⟩
  .rw[decide_eq_false c]at h ⊢
   exact ih h
def lY(es:List Ent)(k:List Int)(b:Addr)(v:V):List Ent:=if ((es.map (·.1)).any (·==k))=true then es.map (λ e=>if e.1=k then(e.1,e.2.1,v)else e)else es++[(k,b,v)]
def DxP.rep{k:List Int}{v:V}{u:Value}(r:RelV v u)(p:DxP es xs):DxP (es.map λ e=>if e.1=k then(e.1,e.2.1,v)else e) (xs.map (putAt k u)):=by
 unfold DxP at p ⊢;induction p with
 |nil=>exact .nil
 |cons q t ih=>
  refine .cons ?_ ih;unfold putAt;rename_i e x _ _;dsimp only;by_cases c:e.1=k
  .rw[if_pos c,if_pos (q.1▸c)]
   exact⟨q.1,q.2.1,r⟩
  .rw[if_neg c,if_neg (q.1▸c)]
   exact q
theorem DxP.lY{k:List Int}{v:V}{u:Value}{b:Addr}(p:DxP es xs)(r:RelV v u):DxP (lY es k b v) (storedH xs k b u):=by
 unfold VL.lY storedH;rw[p.has];split
 .exact p.rep r
 .exact p.snoc ⟨rfl,rfl,r⟩
def aHk(es:List Ent)(k:List Int)(b:Addr)(v:V):(lY es k b v).length<=es.length+1:=by
 unfold lY;split
 .rw[zAF];lia
 .rw[zAZ];exact zAV _
def aLY(K:zAA):V->V->V->Hp->(Hp->Prop)->Prop:=λ o i v H Q=>∃a b k es,o= .ref a/\i= .ref b/\SqT K H b (k.map V.int)/\DxO K H a es/\es.length<zAO/\Q (upd H a (dxO a (lY es k b v)))
def DxO.mut{K:zAA}(h:DxO K H a es):∃o,H a=some o/\gW o=true:=by
 rcases h with h|⟨_,h⟩
 .exact⟨_,h.at_,rfl⟩
 .exact⟨_,h,rfl⟩
def aJT{X:Cx}(hu:X.A.units+1<cLine):aLG X (aLY X.K):=by
 intro iX s Z H o i v ov iv u Q I ro ri rv ⟨a,b,k,es,e1,e2,hb,hD,hl,q⟩;subst e1 e2;cases ro;cases ri;obtain⟨hd,xs,pr,dd⟩:=aEn I hD;refine zHr (hsz:=by rw[<-zDN pr];lia) (zC0 hu) (aK3 I hb) dd λ h' dd' hs=>⟨_,?_,q⟩
 obtain⟨o,ts,ep,h1,r⟩:=id dd';refine I.write (x:=a) (e:=a) ?_ (.inl rfl) (λ b' u hb hu=>(hs.2 b' hb).trans hu) ⟨o,h1⟩ (aI2 (zAh (aHk es k b v) hl) hd (pr.lY rv) dd');rcases hD with h|⟨_,h⟩
 .rw[h.at_];exact trivial
 .rw[h];exact trivial
def aCG(ps:List (List Int×D))(k:List Int)(d:D):List (List Int×D):=if ((ps.map (·.1)).any (·==k))=true then ps.map (λ p=>if p.1=k then(p.1,d)else p)else ps++[(k,d)]
def xM:D->D->Option (List (List Int×D)×List Int)
 | .dct ks vs,e=>match yC e,xT ks vs with
  |some k,some ps=>some (ps,k)
  |_,_=>none
 |_,_=>none
def aDS(h:xM c e=some (ps,k)):∃ks vs,c= .dct ks vs/\e= .tup (k.map .int)/\xT ks vs=some ps:=by
 cases c with
 |dct ks vs=>
  unfold xM at h;dsimp only at h;cases hk:yC e with
  |none=>rw[hk]at h;cases h
  |some k2=>
   cases hp:xT ks vs with
   |none=>rw[hk,hp]at h;cases h
   |some p2=>rw[hk,hp]at h;cases h;exact⟨ks,vs,rfl,ug hk,hp⟩
 |_=>cases h
theorem aES{K:zAA}{k:List Int}{b:Addr}{v:V}{d:D}(h:Rp K A H v d):∀{es:List Ent} {ps:List (List Int×D)},Rps K A H (es.map (·.2.2)) (ps.map (·.2))->es.map (·.1)=ps.map (·.1)->
  Rps K A H ((es.map λ e=>if e.1=k then(e.1,e.2.1,v)else e).map (·.2.2)) ((ps.map λ p=>if p.1=k then(p.1,d)else p).map (·.2))/\((es.map λ e=>if e.1=k then(e.1,e.2.1,v)else e).map (·.1)=(ps.map λ p=>if p.1=k then(p.1,d)else p).map (·.1))
 |[],[],_,_=>⟨.nil,rfl⟩
 |[],_::_,_,e=>by cases e
 |_::_,[],_,e=>by cases e
 |p::es,q::ps,r,e=>by
  rw[zAD,zAD]at e r;injection e with e1 e2
  cases r with
  |cons h1 r1=>
   obtain⟨z1,z2⟩:=aES (b:=b) h r1 e2;rw[zAD,zAD,zAD,zAD,zAD,zAD,z2];by_cases c:q.1=k
   .rw[if_pos c,if_pos (e1.trans c)]
    exact⟨.cons h z1,by rw[e1]⟩
   .rw[if_neg c,if_neg λ z=>c (e1.symm.trans z)]
    exact⟨.cons h1 z1,by rw[e1]⟩
def aJf{K:zAA}{k:List Int}{b:Addr}{v:V}{d:D}{es:List Ent}{ps:List (List Int×D)}(h:Rp K A H v d)(r:Rps K A H (es.map (·.2.2)) (ps.map (·.2)))(e:es.map (·.1)=ps.map (·.1)):
  Rps K A H ((lY es k b v).map (·.2.2)) ((aCG ps k d).map (·.2))/\(lY es k b v).map (·.1)=(aCG ps k d).map (·.1):=by
 unfold lY aCG;rw[e];split
 .exact aES (b:=b) h r e
 .rw[zAa,zAa,zAa,zAa,e]
  exact⟨r.append (.cons h .nil),rfl⟩
def aJj{es:List Ent}{k:List Int}{b:Addr}{v:V}{e:Ent}(he:e∈lY es k b v):(∃e0∈es,e0.1=e.1/\e0.2.1=e.2.1)\/(e.1=k/\e.2.1=b):=by
 unfold lY at he;split at he
 .obtain⟨e0,h1,h2⟩:=zA6.mp he
  refine .inl ⟨e0,h1,?_⟩;split at h2<;>subst h2<;>exact⟨rfl,rfl⟩
 .rcases zAX.mp he with h|h
  .exact .inl ⟨e,h,rfl,rfl⟩
  .rw[zAM.mp h];exact .inr ⟨rfl,rfl⟩
def aJi{es:List Ent}{k:List Int}{b:Addr}{v:V}(h:(es.map (·.1)).Nodup):((lY es k b v).map (·.1)).Nodup:=by
 unfold lY;split
 .rw[zAQ,show((λ e:Ent=>e.1)∘λ e:Ent=>if e.1=k then(e.1,e.2.1,v)else e)=λ e=>e.1 from funext λ e=>by dsimp only[zGy];split<;>rfl]
  exact h
 .rename_i hn
  rw[zAa,zAb];refine⟨h,by simp,λ a ha c hc z=>hn ?_⟩;rw[show c=k by simpa using hc]at z;rw[zBM];exact⟨a,ha,by simpa using z⟩
def ptS(i:Nat)(fk fe:En->Rs D):En->Ou:=λ ρ=>match ρ[i]? with
 |some (.ow c)=>(fe ρ).bo λ d=>(fk ρ).bo λ k=>match xM c k with
  |some (ps,j)=>if ps.length<zAO then .nx (ρ.set i (.ow (tW (aCG ps j d))))else .st
  |none=>.st
 |_=>.st
section
variable{C:Ct}{pos tpos p:Pos}{ek e:Expr}{fk fe:En->Rs D}{x:Str}{m m1:Mode}
def aJI(i:Nat)(hk:SE C m1 ek fk)(he:SE C m e fe)(hm:okN m=true:=by rfl)(hN:∀j,(C.X j).N[i]? =some x:=by intro _;rfl)(hv:∀j,Vis (C.X j).env.scope x:=by intro _;first|exact zB0 rfl|exact zAx (zB0 rfl)|exact zAx (zAx rfl))(hd:Nd x:=by decide)
  (hcd:(x==("__classdict__":Str))=false:=by decide)(ha:∀j v,zEX (.Subscript (.Name x p) ek tpos) (C.X j).env v=(do
   let ov <-zC5 [v] (eval (.Name x p) (C.X j).env);let iv <-zC5 [v,ov] (eval ek (C.X j).env)
   zEw tpos
   zC5 [v,ov,iv] (zGv ov iv v)
   release [v,ov,iv] []):=by intro _ _;rfl)(hs:∀j,swapsWithSole [.Subscript (.Name x p) ek tpos] e pos.line (C.X j).env=pure false:=by intro _;rfl)(hw:∀j,swappedStores [.Subscript (.Name x p) ek tpos] e (C.X j).env=pure none:=by intro _;rfl)
  (h1:∀j,(zCd [.Subscript (.Name x p) ek tpos] (C.X j).env).map (·.2)=[zEX (.Subscript (.Name x p) ek tpos) (C.X j).env]:=by intro _;rfl):
  SS C (.Assign [.Subscript (.Name x p) ek tpos] e pos) (ptS i fk fe):=by
 obtain⟨tk,k1,k2⟩:=hk;obtain⟨te,e1,e2⟩:=he;refine⟨aEx te (aPE (kJ i) tk (aLY C.K)),λ j=>aMa (e1 j) (aMg (dO (hN j) (hv j) hd hcd) (k1 j) (by rw[<-C.hK j];exact aJT (by have:=(C.room j).un;lia)) (ha j)) (hs j) (hw j) (h1 j),λ τ Z H ρ lab De R W=>?_⟩;unfold ptS at W;cases es:ρ[i]? with
 |none=>rw[es]at W;exact zAI W
 |some s=>
  rw[es]at W;split at W
  .rename_i c hs
   cases hs;rcases R.sl i _ es with z|⟨v,ev,hv'⟩
   .cases z
   .obtain⟨hv1,htop⟩:=hv'
    refine e2 τ Z H ρ lab _ R (W.bo.imp λ d _ w0 y H2 s2 r2=>⟨v,ev,?_⟩);refine k2 τ Z H2 ρ lab _ (R.up s2) (w0.bo.imp λ k _ w kv H3 s3 r3=>?_);clear w0;cases hj:xM c k with
    |none=>rw[hj]at w;exact zAI w
    |some q=>
     obtain⟨ps,j⟩:=q;rw[hj]at w;dsimp only at w;obtain⟨ks,vs,rfl,rfl,hp⟩:=aDS hj;obtain⟨a0,ea0,la0⟩:=htop rfl;subst ea0;obtain⟨b,xs,rfl,hb1,hb2⟩:=r3.tup_inv;have exs:=hb2.ints_of;subst exs;obtain⟨a1,ee,ea,h,mm,r,hk⟩:=hv1.dctX_inv hp;cases ea;by_cases hz:ps.length<zAO
     .rw[if_pos hz]at w
      have kQ:ee.length=ps.length:=by have:=congrArg zCV hk;simpa using this
      have h3:DxO C.K H3 a0 ee:=h.elim (λ z=>.inl (z.mono (s2.trans s3))) λ z=>.inr ⟨z.1,(s2.trans s3) _ _ z.2⟩
      obtain⟨om,ho,hmu⟩:=h.mut;have ho3:H3 a0=some om:=(s2.trans s3) _ _ ho;refine⟨a0,b,j,ee,rfl,rfl,hb1,h3,by rw[kQ];exact hz,?_⟩;obtain⟨R',r'⟩:=R.fresh (P:=λ k=>k=1) rfl (λ k hk=>beq_iff_eq.mp (jP hm k hk)) s2 r2;have la:(bJ H 1 lab a0).1=i+2:=by rw[bA ho];exact la0
      have B:jC a0 H3 (upd H3 a0 (dxO a0 (lY ee j b y))):=λ b' o ne hb=>by rw[aW ne];exact hb
      obtain⟨q1,q2⟩:=aJf (k:=j) (b:=b) (A:=λ p=>((bJ H 1 lab p).1=1\/(bJ H 1 lab p).1=i+2)/\p≠a0) ((r'.up s3).wk λ p o e z=>⟨.inl z,λ q=>by subst q;rw[la]at z;lia⟩) (r.mono (s2.trans s3) λ p o e z=>⟨by rw[bA e];exact z.1,z.2⟩) hk;have hnd:(ee.map (·.1)).Nodup:=h.elim (λ z=>z.nd) λ z=>by rw[z.1];exact zBs
      have hks:∀e∈ee,SqT C.K H3 e.2.1 (e.1.map V.int):=h3.elim (λ z=>z.ks) λ z=>by rw[z.1];intro e he;cases he
      have hD:DxK C.K (upd H3 a0 (dxO a0 (lY ee j b y))) a0 (lY ee j b y):=by
       refine⟨aX,λ e he=>mX B ho3 hmu ?_,aJi hnd⟩;rcases aJj he with ⟨e0,h1,h2,h3⟩|⟨h1,h2⟩
       .rw[<-h2,<-h3];exact hks e0 h1
       .rw[h1,h2];exact hb1
      have rd:=Rp.dT (A:=λ p=>(bJ H 1 lab p).1=1\/(bJ H 1 lab p).1=i+2) hD (.inr la) (q1.but B ho3 hmu λ z=>z.2 rfl);have ek:((lY ee j b y).map λ e=>D.tup (e.1.map .int))=(aCG ps j d).map λ p=>D.tup (p.1.map .int):=by
       rw[show((lY ee j b y).map λ e=>D.tup (e.1.map .int))=((lY ee j b y).map (·.1)).map λ k=>D.tup (k.map .int)by rw[zAQ];rfl,q2,zAQ];rfl
      rw[ek]at rd;exact w Z _ _ ((R'.up s3).mut ev ho3 hmu la B ⟨rd,λ _=>⟨a0,rfl,la⟩⟩)
     .rw[if_neg hz]at w
      exact zAI w
  .exact zAI W
end
def za(l:gX):List (Key×V):=l.map λ p=>(.inl p.1,V.int p.2)
def Inv.froze{X:Cx}{iX:hZ}{Z:L2.St}{H:Hp}{s:zAG}{a:Addr}{u:HO}{o:Obj}(I:Inv X iX Z H s)(hu:gW u=true)(ha:H a=some u)(ho:s.heap.get? a=some o):Inv X iX Z (upd H a (.frz o u)) s:=by
 have nn:∀b,H b=none->upd H a (.frz o u) b=none:=λ b e=>by rw[aW λ z=>by subst z;rw[ha]at e;cases e<;>cases hu];exact e
 have nt:∀b xs,H b=some (.tup xs)->upd H a (.frz o u) b=some (.tup xs):=λ b xs e=>by rw[aW λ z=>by subst z;rw[ha]at e;cases e<;>cases hu];exact e
 have nf:∀b q x,H b=some (.frz q x)->upd H a (.frz o u) b=some (.frz q x):=λ b q x e=>by rw[aW λ z=>by subst z;rw[ha]at e;cases e<;>cases hu];exact e
 have no:∀b x,H b=some (.own x)->upd H a (.frz o u) b=some (.own x):=λ b x e=>by rw[aW λ z=>by subst z;rw[ha]at e;cases e<;>cases hu];exact e
 have nb:∀b ps,H b=some (.tbl ps)->upd H a (.frz o u) b=some (.tbl ps):=λ b ps e=>by rw[aW λ z=>by subst z;rw[ha]at e;cases e<;>cases hu];exact e
 refine⟨I.ok,I.os,I.bare,⟨I.base.keep,I.base.slot,λ b q e n hx=>nn b (I.base.free b q e n hx),I.base.there,λ b xs e=>nt b xs (I.base.tups b xs e),λ b q u e=>nf b q u (I.base.frzs b q u e),λ b ps e=>?_⟩,I.loc,I.cell,nn _ I.free,λ x c e=>nn _ (I.freeC x c e),λ p hp=>?_,λ b x e=>?_,I.len,λ p hp=>?_⟩
 .exact nb _ _ (I.base.tbls b ps e)
 .obtain⟨h1,h2,h3⟩:=I.pin p hp
  exact⟨h1,nn _ h2,h3⟩
 .by_cases hb:b=a
  .subst hb
   rw[aX]at e;cases e;exact⟨ho,(I.hok b _ ha).stay (λ c v _ q=>q) (λ c q=>no c b q) nt nf⟩
  .rw[aW hb]at e
   exact(I.hok b x e).stay (λ c v _ q=>q) (λ c q=>no c b q) nt nf
 .obtain⟨h1,h2,h3,h4,ps,h5,h6⟩:=I.tab p hp
  exact⟨nn _ h1,h2,h3,h4,ps,h5,h6.mono nf⟩
def yD(ks vs:List D):Option gX:=match gk ks vs with
 |some ps=>(intsOf (ps.map (·.2))).map λ js=>(ps.map (·.1)).zip js
 |none=>none
theorem aE9:∀{kvs:List (Key×V)} {is js:List Int},kvs.map (·.1)=is.map (λ i=>(zCH i:Key))->kvs.map (·.2)=js.map V.int->kvs=za (is.zip js)
 |[],[],[],_,_=>rfl
 |[],_::_,_,e,_=>by cases e
 |[],[],_::_,_,e=>by cases e
 |_::_,[],_,e,_=>by cases e
 |_::_,_::_,[],_,e=>by cases e
 |(k,v)::kvs,i::is,j::js,e1,e2=>by
  rw[zAD,zAD]at e1 e2;injection e1 with a1 a2
  injection e2 with b1 b2
  replace a1:k= .inl i:=a1;replace b1:v= .int j:=b1;subst a1 b1;rw[aE9 a2 b2];rfl
def Rp.aBP{K:zAA}(r:Rp K A H v (.dct ks vs))(h:yD ks vs=some l):∃a,v= .ref a/\H a=some (.dK (za l))/\A a:=by
 unfold yD at h;cases hp:gk ks vs with
 |none=>rw[hp]at h;cases h
 |some ps=>
  rw[hp]at h;dsimp only at h;cases hj:intsOf (ps.map (·.2))with
  |none=>rw[hj]at h;cases h
  |some js=>
   rw[hj]at h;cases h;obtain⟨a,kvs,rfl,g,m,q,hk⟩:=r.dctI_inv hp;refine⟨a,rfl,?_,m⟩;rw[bQ hj]at q;have e2:=q.ints_of;have e1:kvs.map (·.1)=(ps.map (·.1)).map (λ i=>(zCH i:Key)):=by rw[hk,zAQ];rfl
   rw[aE9 e1 e2]at g;exact g
theorem aLi:∀{l:gX} {vs:List (Key×Value)} {i:Nat} {q:Int×Int},KV (za l) vs->l[i]? =some q->∃t,vs[i]? =some ((.inl q.1:Key),zDB q.2 t)
 |[],_,_,_,_,h=>by simp at h
 |p::l,vs,i,q,r,h=>by
  unfold KV za at r;rw[zAD]at r;cases r with
  |cons e t=>
   rename_i x vs;obtain⟨x1,x2⟩:=x;obtain⟨e1,tk,e2⟩:=e;dsimp only at e1 e2;subst e1 e2;cases i with
   |zero=>
    have:p=q:=by simpa using h
    subst this;exact⟨tk,rfl⟩
   |succ i=>
    obtain⟨t2,e⟩:=aLi (l:=l) (i:=i) (q:=q) (show KV (za l) _ from t) (by simpa using h);exact⟨t2,by simpa using e⟩
def Fz(H:Hp)(a:Addr)(ep:Nat)(l:gX):Prop:=∃(o:Obj) (es:Array zDZ),o.data= .dict es ep/\H a=some (.frz o (.dK (za l)))
def aOJ(a:Addr)(ep:Nat)(l:gX):It:=
 ⟨λ i H=>i<l.length/\Fz H a ep l,λ i H x H'=>∃p q,x= .ref p/\H p=none/\H'=upd H p (.tup [.int q.1,.int q.2])/\l[i]? =some q,λ i H=>l.length<=i/\Fz H a ep l⟩
def aIO{X:Cx}{iX:hZ}{Z:L2.St}{H:Hp}{s:zAG}{a:Addr}(I:Inv X iX Z H s)(h:Fz H a ep l):∃vs,KV (za l) vs/\vs.length=l.length/\s.heap.DictAt (cL X.prog X.w) a vs ep/\(a==zAz)=false:=by
 obtain⟨o,es,hd,ha⟩:=h;obtain⟨ho,_,hsys,vs,rel,o2,es2,ep2,e2,c2,d2,r2⟩:=(show bw X.prog X.w H s.heap a (.frz o (.dK (za l)))from I.hok a _ ha);rw[ho]at e2;cases e2;rw[hd]at d2;cases d2;exact⟨vs,rel,by have:=rel.length;rw[<-this];simp[za],⟨o,es,ho,c2,hd,r2⟩,hsys⟩
def aCy{K:zAA}{x1:Nat}{elts:List Expr}{ps:Pos}(a it:Addr)(ep:Nat)(l:gX)(hai:a≠it):Turn P w K (.Tuple elts x1 ps) (aOJ a ep l) [it] it (λ i h=>∃ok ov,zDS h it a i l.length ep ok ov) where
 mem:=by simp
 obj:=λ i h st b hb=>by
  obtain⟨ok,ov,he⟩:=st
  have:b=it:=by simpa using hb
  subst this;exact⟨_,he,λ v z=>by cases z⟩
 keep:=λ i h h' st k=>let⟨ok,ov,he⟩:=st;⟨ok,ov,k it (by simp) _ he⟩
 item:=by
  intro X hP hw hK hc i iX s Z H E I hf st hg;subst hP hw hK;obtain⟨hlt,hz⟩:=hg;obtain⟨vs,rel,kQ,dd,_⟩:=aIO I hz;obtain⟨ok,ov,he⟩:=st;obtain⟨q,hq⟩:∃q,l[i]? =some q:=⟨l[i],by simp[hlt]⟩
  obtain⟨t,hv⟩:=aLi rel hq;rw[<-kQ]at he;refine wpAny_pyNext_items_item he dd hv λ key h' hkey ho hT hsz hk=>⟨_,rfl,?_⟩
  have ek:∃t',key= .int q.1 t':=by
   rcases cH (k:=.inl q.1) (v:=key) hkey with ⟨j,t,e1,e2⟩|⟨y,t,e1,e2⟩
   .cases e1;exact⟨t,e2⟩
   .cases e1
  obtain⟨t',rfl⟩:=ek;have hel:it<s.heap.objs.size:=zA2 he;refine zGL ho λ h2 he2 hs2=>⟨.ref s.heap.objs.size,upd H s.heap.objs.size (.tup [.int q.1,.int q.2]),?_,rfl,⟨_,q,rfl,I.hok.fresh (zAV _),rfl,hq⟩,⟨_,_,by rw[<-kQ];exact he2⟩,λ b hb=>?_⟩
  .exact aC6 (s:=s) (h':=h2) (t':=s.toks) I hf (λ b u hb q=>(hs2.2 b λ z=>hb (by simp[z])).trans (hk b u (λ z=>hb (by simp[z])) q)) (zAV _) ⟨⟨by simp[zB3],NoD.at ((hs2.2 _ (zBr hel)).trans hT)⟩,[.int q.1 t',.int q.2 t],.cons ⟨_,rfl⟩ (.cons ⟨_,rfl⟩ .nil),_,(hs2.2 _ (zBr hel)).trans hT,rfl,_,rfl⟩
  .have:=(hf b hb).1
   rw[aW]
   .exact this
   .rintro rfl
    have q2:s.heap.objs.size=it:=by simpa using hb
    exact absurd hel (by rw[<-q2];exact zBF _)
 done:=by
  intro X hP hw hK hc i iX s Z H E I hf st hg;subst hP hw hK;obtain⟨hle,hz⟩:=hg;obtain⟨vs,rel,kQ,dd,_⟩:=aIO I hz;obtain⟨ok,ov,he⟩:=st;rw[<-kQ]at he;obtain⟨f0,f1,f2,f3,f4,f5⟩:=hf it (by simp);exact wpAny_pyNext_items_end (I.ok.hd hc) he dd (zDI (by lia)) λ h' he'=>⟨rfl,I.turned (t':=s.toks) (λ b o hb q=>he' b o hb q) f0 f1 f3 f4 f5⟩
 self:=λ _ _ _ _ _ st h=>let⟨_,_,he⟩:=st;zGg he h
def aPD(te:TE):TI:=λ Z H R=>te Z H λ x H1=>∃a ep l,x= .ref a/\Fz H1 a ep l/\R (aOJ a ep l) H1
def aHM{X:Cx}{x1:Nat}{elts:List Expr}{ps apos cpos:Pos}{o:Expr}{te:TE}(ho:PE X o te)(hbase:zB2 o "items" X.env (eval o X.env)=eval o X.env:=by rfl)(hline:(apos.endLine==cpos.line)=true:=by rfl):
  PI X (.Tuple elts x1 ps) (.Call (.Attribute o "items" apos) [] [] cpos) (aPD te):=by
 intro iX s Z H R I h;refine zEV hbase hline (thn (ho iX s Z H _ I h) λ v s1 ⟨x,H1,I1,r1,a,ep,l,ex,hz,q⟩=>?_);subst ex;cases r1;obtain⟨vs,rel,kQ,dd,hsys⟩:=aIO I1 hz;obtain⟨ob,es,hd,ha⟩:=hz;obtain⟨t1,t2,_⟩:=aNd I1 (.inl ⟨_,.inr ⟨ob,ha⟩⟩);refine⟨"dict","dict.items",zCh,zCi,zF4,t1,t2,zCM rfl (zE2 ?_)⟩;have dof:s1.heap.DictOf (cL X.prog X.w) a vs:=let⟨o,es,r⟩:=dd;⟨o,es,ep,r⟩
 refine zFg zCi t1 zFW (zFJ _) (meets_dict_items (cL X.prog X.w) a hsys) ⟨⟨vs,dof⟩,?_⟩;have hlt:=dd.lt_size;refine wpAny_pyIter_items (v:=s1.heap.objs.size) (d:=a) ⟨_,zAN _ rfl,rfl,rfl⟩ (dd.push _) ?_;have hk:∀(o1 o2:Obj) b u,s1.heap.get? b=some u->((s1.heap.push o1).push o2).get? b=some u:=λ o1 o2 b u e=>zAC _ (zAC _ e)
 have hle:∀o1:Obj,s1.heap.objs.size<=(s1.heap.push o1).objs.size:=λ o1=>by rw[zBU];exact zCz _
 refine⟨_,[_],_,aOJ a ep l,H1,rfl,I1.kept (t':=s1.toks) (hk _ _),aCy a _ ep l (zA9 (zA4 hlt (hle _))),⟨.none,.none,?_⟩,λ b hb=>?_,q⟩
 .show _=_
  rw[<-kQ];exact zAN _ rfl
 .have e:b=_:=zAM.mp hb
  subst e;exact I1.fpOk (hle _) (I1.hok.fresh (hle _))
def aHu(fo:En->Rs D):En->Rs (List D):=λ ρ=>(fo ρ).bd λ d=>match d with
 | .itm _ l=>.ok (l.map λ p=>.tup [.int p.1,.int p.2])
 |_=>.st
def Rp.itm_inv{K:zAA}(r:Rp K A H v (.itm oo l)):∃a,v= .ref a/\vX H a oo l:=by cases r with|itm h=>exact⟨_,rfl,h⟩
section
variable{C:Ct}{m:Mode}{o:Expr}{fo:En->Rs D}{elts:List Expr}{x1:Nat}{ps apos cpos:Pos}
def aG3(ho:SE C m o fo)(hbase:∀j,zB2 o "items" (C.X j).env (eval o (C.X j).env)=eval o (C.X j).env:=by intro _;rfl)(hline:(apos.endLine==cpos.line)=true:=by rfl):
  SI C (.Tuple elts x1 ps) (.Call (.Attribute o "items" apos) [] [] cpos) (aHu fo):=by
 obtain⟨t,p1,p2⟩:=ho;refine⟨aPD t,λ i=>aHM (p1 i) (hbase i) hline,λ τ Z H ρ lab Rr R W=>p2 τ Z H ρ lab _ R (W.bd.imp λ d _ w x H1 s r=>?_)⟩;cases d with
 |itm oo l=>
  obtain⟨a,rfl,ob,es,ep,hd,_,ha⟩:=r.itm_inv;have R1:=R.up s;refine⟨a,ep,l,rfl,⟨ob,es,hd,ha⟩,w _ H1 lab [(.ref a,.itm (some ep) l)] s (λ _ _ _=>rfl) ⟨R1.len,R1.sl,R1.old,R1.new,λ z hz=>?_⟩ λ lab' H' hq=>?_⟩
  .rcases zA1.mp hz with rfl|hz
   .exact .itm ⟨ob,es,ep,hd,.inr rfl,ha⟩
   .exact R1.tm z hz
  .have z:=hq _ (zAJ ..)
   obtain⟨a',e',ob',es',ep',hd',hz',ha'⟩:=z.itm_inv;cases e';rcases hz' with hz'|hz'
   .cases hz'
   .cases hz'
    have F:Fz H' a ep l:=⟨ob',es',hd',ha'⟩;refine λ i=>⟨λ hi=>⟨by simpa using hi,F⟩,λ hi=>⟨⟨by simpa using hi,F⟩,λ x H2 y=>?_⟩⟩
    obtain⟨p,q,rfl,hp,rfl,hq2⟩:=y;exact⟨au hp _,.tup [.int q.1,.int q.2],by rw[zAP,hq2];rfl,.tup (.inl (.inl aX)) (.cons (.int _) (.cons (.int _) .nil))⟩
 |_=>exact zAI w
end
end VL
namespace L2
open PySem PySem.Spec PyProof.Rows
end L2
namespace VL
open PySem PySem.Spec PyProof.Rows L2
structure aPp(ks:List D):Prop where
 nd:bG ks=true
 dp:dW ks<=40
 cm:∀x∈ks,∀y∈ks,(lsD x y).isSome=true
instance:Decidable (aPp ks):=if h:bG ks=true/\dW ks<=40/\∀x∈ks,∀y∈ks,(lsD x y).isSome=true then .isTrue ⟨h.1,h.2.1,h.2.2⟩else .isFalse λ z=>h ⟨z.nd,z.dp,z.cm⟩
structure aPq(f:D->D->Option Bool)(l:List D):Prop where
 im:oF l=true
 nd:bG l=true
 dp:dW l<=40
 cm:∀x∈l,∀y∈l,(f x y).isSome=true
instance:Decidable (aPq f l):=if h:oF l=true/\bG l=true/\dW l<=40/\∀x∈l,∀y∈l,(f x y).isSome=true then .isTrue ⟨h.1,h.2.1,h.2.2.1,h.2.2.2⟩else .isFalse λ z=>h ⟨z.im,z.nd,z.dp,z.cm⟩
def aDk(f:En->Rs D):En->Rs D:=λ ρ=>(f ρ).bd λ d=>match d with
 | .dct ks vs=>(match yD ks vs with
  |some l=>.ok (.itm none l)
  |none=>.st)
 |_=>.st
section
variable{C:Ct}{e a b:Expr}{f:En->Rs D}
def aMR(h:SE C (some []) e f):SE C (some []) e (aDk f):=by
 obtain⟨t,h1,h2⟩:=h;refine⟨λ Z H Q=>t Z H λ x H1=>∃a kvs,x= .ref a/\H1 a=some (.dK kvs)/\∀o es ep,o.data= .dict es ep->Q x (upd H1 a (.frz o (.dK kvs))),λ j iX s Z H Q I h=>?_,λ τ Z H ρ lab Q R W=>?_⟩
 .refine thn (h1 j iX s Z H _ I h) λ v s1 ⟨x,H1,I1,r1,a,kvs,ex,ha,q⟩=>?_
  obtain⟨_,_,vs,_,ob,es,ep,e,_,hdat,_⟩:=aI3 I1.hok ha;exact⟨x,_,Inv.froze I1 rfl ha e,r1,q ob es ep hdat⟩
 .refine h2 τ Z H ρ lab _ R (W.bd.imp λ d _ w x H1 s1 r1=>?_)
  cases d with
  |dct ks vs=>
   dsimp only at w;cases hl:yD ks vs with
   |none=>rw[hl]at w;exact zAI w
   |some l=>
    rw[hl]at w;obtain⟨a,rfl,g,ma⟩:=r1.aBP hl;have hn:H a=none:=by
     rcases ma with z|z
     .exact z
     .cases z
    refine⟨a,za l,rfl,g,λ o es ep hd=>w _ _ (λ b q hb=>?_) (.itm ⟨o,es,ep,hd,.inl rfl,aX⟩)⟩;rw[aW λ z=>by rw[z,hn]at hb;cases hb];exact s1 b q hb
  |_=>exact zAI w
end
end VL
namespace L2
open PySem PySem.Spec PyProof.Rows
end L2
namespace VL
open PySem PySem.Spec PyProof.Rows L2
def flat:D->Bool
 | .non=>true
 | .bl _=>true
 | .int _=>true
 |_=>false
def flats(ps:List (Int×D)):Bool:=ps.all λ p=>flat p.2
section
variable{K:zAA}{A A':Addr->Prop}{H H':Hp}{ps:List (Int×D)}{a b:Addr}
theorem Rp.flat{v:V}{d:D}(r:Rp K A H v d)(h:VL.flat d=true):Rp K A' H' v d:=by
 cases d with
 |non=>cases r;exact .non
 |bl b=>cases r;exact .bl b
 |int i=>cases r;exact .int i
 |_=>cases h
theorem Rps.flats:∀{ps:List (Int×D)} {vs:List V},Rps K A H vs (ps.map (·.2))->VL.flats ps=true->Rps K A' H' vs (ps.map (·.2))
 |[],_,r,_=>by cases r;exact .nil
 |p::ps,vs,r,h=>by
  rw[zAD]at r ⊢;simp only[VL.flats,zDX,zAW]at h;cases r with
  |cons h1 r1=>exact .cons (h1.flat h.1) (Rps.flats r1 h.2)
def Bw(K:zAA)(H:Hp)(a:Addr)(ps:List (Int×D)):Prop:=flats ps=true/\Rp K (λ p=>p=a) H (.ref a) (bY ps)
def Bw.of(r:Rp K A H (.ref a) (bY ps))(hf:flats ps=true)(s:H' a=H a):Bw K H' a ps:=by
 obtain⟨a',kvs,e,h1,m,r,hk⟩:=Rp.dctI_inv r (jX ps);cases e;exact⟨hf,wD (s.trans h1) rfl (Rps.flats r hf) hk⟩
def Bw.rp(h:Bw K H a ps)(hA:A a):Rp K A H (.ref a) (bY ps):=h.2.wk λ p o e q=>by subst q;exact hA
def Bw.at(h:Bw K H a ps):∃kvs,H a=some (.dK kvs):=by
 obtain⟨a',kvs,e,h1,_⟩:=Rp.dctI_inv h.2 (jX ps);cases e;exact⟨kvs,h1⟩
end
inductive OB where
 |nx (ρ:En)|rt (d:D) (ρ:En)|st
def Rs.bb{α:Type}:Rs α->(α->OB)->OB
 | .ok a,f=>f a
 |_,_=>.st
@[simp] def aCn(a:α)(f:α->OB):(Rs.ok a).bb f=f a:=aQ rfl
def Ou.ob:Ou->OB
 | .nx ρ=>.nx ρ
 |_=>.st
def OB.sq:OB->(En->OB)->OB
 | .nx ρ,f=>f ρ
 |o,_=>o
def Kq(Z:L2.St)(v1 v3:V):Prop:=Z[1]? =some (some v1)/\Z[3]? =some (some v3)
def WB(K:zAA)(G:Gx)(τ:List (V×D))(v1 v3:V)(o:OB)(De:Ends):Prop:=match o with
 | .nx ρ=>∀Z H lab,RR K G τ ρ Z H lab->Kq Z v1 v3->De.nx Z H
 | .rt d ρ=>∀v Z H lab,RR K G τ ρ Z H lab->Kq Z v1 v3->Rp K (λ _=>True) H v d->De.rt v H
 | .st=>False
theorem WB.bb{K:zAA}{G:Gx}{r:Rs α}{g:α->OB}(h:WB K G τ v1 v3 (r.bb g) De):WR G r (λ a=>WB K G τ v1 v3 (g a) De):=by
 cases r with
 |ok a=>exact h
 |ex c=>exact zAI h
 |st=>exact h
def aPQ(K:zAA)(G:Gx)(t:TS)(f:En->OB):Prop:=∀τ Z H ρ lab (De:Ends) v1 v3,RR K G τ ρ Z H lab->Kq Z v1 v3->WB K G τ v1 v3 (f ρ) De->t De Z H
def SB(C:Ct)(s:Stmt)(f:En->OB):Prop:=∃t,(∀i,PS (C.X i) s t)/\aPQ C.K C.G t f
def SBs(C:Ct)(s:List Stmt)(f:En->OB):Prop:=∃t,(∀i,PSs (C.X i) s t)/\aPQ C.K C.G t f
def oM(f g:En->OB):En->OB:=λ ρ=>(f ρ).sq g
def zN(fe:En->Rs D):En->OB:=λ ρ=>(fe ρ).bb λ d=>.rt d ρ
def ifB(fc:En->Rs Bool)(f g:En->OB):En->OB:=λ ρ=>(fc ρ).bb λ b=>if b=true then f ρ else g ρ
def qj(i:Nat)(fk fe:En->Rs D):En->OB:=λ ρ=>(pdS i fk fe ρ).ob
def lu(fg:D->En->Rs En)(b:En->OB):List D->En->OB
 |[],ρ=>.nx ρ
 |d::ds,ρ=>match fg d ρ with
  | .ok ρ1=>match b ρ1 with
   | .nx ρ2=>lu fg b ds ρ2
   |o=>o
  |_=>.st
def aIT(fi:En->Rs (List D))(fg:D->En->Rs En)(b:En->OB):En->OB:=λ ρ=>(fi ρ).bb λ ds=>lu fg b ds ρ
section
variable{C:Ct}{pos tpos p:Pos}{s:Stmt}{ss:List Stmt}{f g:En->OB}{e ek:Expr}{m m1:Mode}{fe fk:En->Rs D}{x:Str}
def aJ4:SBs C [] .nx:=⟨_,λ _=>aAy,λ τ Z H ρ lab De v1 v3 R k W=>W Z H lab R k⟩
def vz(h:SB C s f):SBs C [s] f:=let⟨t,h1,h2⟩:=h;⟨t,λ i=>aET (h1 i),h2⟩
def ww(h:SB C s f)(kk:SBs C ss g):SBs C (s::ss) (oM f g):=by
 obtain⟨t,h1,h2⟩:=h;obtain⟨u,k1,k2⟩:=kk;refine⟨_,λ i=>aCI (h1 i) (k1 i),λ τ Z H ρ lab De v1 v3 R k W=>h2 τ Z H ρ lab _ v1 v3 R k ?_⟩;unfold oM at W;cases h:f ρ with
 |nx ρ'=>rw[h]at W;exact λ Z' H' lab' R' f'=>k2 τ Z' H' ρ' lab' De v1 v3 R' f' W
 |rt d ρ'=>rw[h]at W;exact W
 |st=>rw[h]at W;exact W
def aGd(he:SE C m e fe)(hi:∀ρ d,fe ρ= .ok d->flat d=true):SB C (.Return (some e) pos) (zN fe):=by
 obtain⟨t,h1,h2⟩:=he;refine⟨_,λ i=>aHF (h1 i),λ τ Z H ρ lab De v1 v3 R k W=>h2 τ Z H ρ lab _ R (WB.bb W |>.imp λ d ed w v H' s r=>?_)⟩;exact w v Z H' lab (R.up s) k (r.flat (hi ρ d ed))
def aO5{a b:List Stmt}{c:Expr}{fc:En->Rs Bool}(hc:ST C c fc)(ha:SBs C a f)(hb:SBs C b g):SB C (.If c a b pos) (ifB fc f g):=by
 obtain⟨tc,c1,c2⟩:=hc;obtain⟨t,h1,h2⟩:=ha;obtain⟨u,k1,k2⟩:=hb;refine⟨_,λ i=>aHH (c1 i) (h1 i) (k1 i),λ τ Z H ρ lab De v1 v3 R k W=>c2 τ Z H ρ lab _ R (WB.bb W |>.imp λ q _ w H1 s1=>?_)⟩;cases q with
 |true=>rw[if_pos rfl]at w ⊢;exact h2 τ Z H1 ρ lab De v1 v3 (R.up s1) k w
 |false=>rw[if_neg zAU]at w ⊢;exact k2 τ Z H1 ρ lab De v1 v3 (R.up s1) k w
def aGe(i:Nat)(hk:SE C m1 ek fk)(he:SE C m e fe)(hm:okN m=true:=by rfl)(hN:∀j,(C.X j).N[i]? =some x:=by intro _;rfl)(hv:∀j,Vis (C.X j).env.scope x:=by intro _;first|exact zB0 rfl|exact zAx (zB0 rfl)|exact zAx (zAx rfl))(hd:Nd x:=by decide)
  (hcd:(x==("__classdict__":Str))=false:=by decide)(hs:∀j,zBv e (some (.Subscript (.Name x p) ek tpos)) pos.line (C.X j).env=pure false:=by intro _;rfl):
  SB C (.Assign [.Subscript (.Name x p) ek tpos] e pos) (qj i fk fe):=by
 obtain⟨tk,k1,k2⟩:=hk;obtain⟨te,e1,e2⟩:=he;refine⟨aLV (kJ i) tk te,λ j=>aJl (by have:=(C.room j).un;lia) (dO (hN j) (hv j) hd hcd) (k1 j) (e1 j) (hs j),λ τ Z H ρ lab De v1 v3 R kp W=>?_⟩;unfold qj pdS at W;cases es:ρ[i]? with
 |none=>rw[es]at W;exact zAI W
 |some s=>
  rw[es]at W;split at W
  .rename_i c hs
   cases hs;rcases R.sl i _ es with z|⟨v,ev,hv'⟩
   .cases z
   .obtain⟨hv1,htop⟩:=hv'
    cases hfe:fe ρ with
    |ex z=>rw[hfe]at W;exact zAI W
    |st=>rw[hfe]at W;exact zAI W
    |ok d=>
    rw[hfe,bK]at W;refine e2 τ Z H ρ lab _ R ?_;rw[hfe];intro y H2 s2 r2;refine⟨v,ev,?_⟩;cases hfk:fk ρ with
    |ex z=>rw[hfk]at W;exact zAI W
    |st=>rw[hfk]at W;exact zAI W
    |ok k=>
    rw[hfk,bK]at W;refine k2 τ Z H2 ρ lab _ (R.up s2) ?_;rw[hfk];intro kv H3 s3 r3;cases hj:qG c k with
    |none=>rw[hj]at W;exact zAI W
    |some q=>
     obtain⟨ps,j⟩:=q;rw[hj]at W;dsimp only at W;obtain⟨ks,vs,rfl,rfl,hp⟩:=aDT hj;obtain⟨a0,ea0,la0⟩:=htop rfl;subst ea0;have ey:=r3.int_inv;subst ey;obtain⟨a1,kvs,ea,h,mm,r,hk⟩:=hv1.dctI_inv hp;cases ea;by_cases hz:ps.length<zAO
     .rw[if_pos hz]at W
      have kQ:kvs.length=ps.length:=by have:=congrArg zCV hk;simpa using this
      have h3:H3 a0=some (.dK kvs):=(s2.trans s3) _ _ h;refine⟨a0,_,rfl,aIv.k (k:=.inl j) (v:=y) h3 (by rw[kQ];exact hz),?_⟩;obtain⟨R',r'⟩:=R.fresh (P:=λ k=>k=1) rfl (λ k hk=>beq_iff_eq.mp (jP hm k hk)) s2 r2;have la:(bJ H 1 lab a0).1=i+2:=by rw[bA h];exact la0
      have B:jC a0 H3 (upd H3 a0 (.dK (putK kvs (.inl j) y))):=λ b' o ne hb=>by rw[aW ne];exact hb
      obtain⟨q1,q2⟩:=aHA (i:=j) (A:=λ p=>((bJ H 1 lab p).1=1\/(bJ H 1 lab p).1=i+2)/\p≠a0) (r.mono (s2.trans s3) λ p o e z=>⟨by rw[bA e];exact z.1,z.2⟩) hk ((r'.up s3).wk λ p o e z=>⟨.inl z,λ q=>by subst q;rw[la]at z;lia⟩);exact W Z _ _ ((R'.up s3).mut ev h3 rfl la B ⟨wD aX (.inr la) (q1.but B h3 rfl λ z=>z.2 rfl) q2,λ _=>⟨a0,rfl,la⟩⟩) kp
     .rw[if_neg hz]at W
      exact zAI W
  .exact zAI W
def aMW{tg:Expr}{ks:List Nat}{fi:En->Rs (List D)}{fg:D->En->Rs En}(hi:SI C tg e fi)(hg:SG C tg ks fg)(hb:SBs C ss f)(hk1:1∉ks:=by decide)(hk3:3∉ks:=by decide)(hs:∀i,∀x,zBV e (C.X i).env x=pure x:=by intro _ _;rfl):SB C (.For tg e ss [] pos) (aIT fi fg f):=by
 obtain⟨wi,i1,i2⟩:=hi;obtain⟨gg,g1,g2,g3,g4⟩:=hg;obtain⟨tb,b1,b2⟩:=hb;refine⟨_,λ i=>aHI (C.own i) (C.calm i) (i1 i) (g1 i) (b1 i) (hs i),λ τ Z H ρ lab De v1 v3 R kp W=>i2 τ Z H ρ lab _ R (WB.bb W |>.imp λ ds _ w J H1 lab1 τ1 s1 _ R1 jl=>?_)⟩;refine⟨λ i n Z' H'=>∃ρ' lab',RR C.K C.G (τ1++τ) ρ' Z' H' lab'/\Kq Z' v1 v3/\n=ds.length-i/\i<=ds.length/\WB C.K C.G τ v1 v3 (lu fg f (ds.drop i) ρ') De,⟨ds.length,ρ,lab1,R1,kp,by lia,by lia,w⟩,?_⟩;rintro i n Z' H' ⟨ρ',lab',R',kp',rfl,hi,w'⟩;have jj:=jl lab' H' λ q hq=>R'.tm q (zA5 _ hq)
 by_cases hlt:i<ds.length
 .obtain⟨go,yl⟩:=(jj i).2 hlt
  refine .inr ⟨go,λ Z2 H2=>∃ρ2 lab2,RR C.K C.G (τ1++τ) ρ2 Z2 H2 lab2/\Kq Z2 v1 v3/\WB C.K C.G τ v1 v3 (lu fg f (ds.drop (i+1)) ρ2) De,λ Z2 H2 ⟨ρ2,lab2,R2,f2,w2⟩=>⟨ds.length-(i+1),by lia,ρ2,lab2,R2,f2,rfl,hlt,w2⟩,λ x H2 hy=>?_⟩;obtain⟨s2,d,ed,rx⟩:=yl x H2 hy;replace R':=R'.up s2;have ed2:ds.drop i=d::ds.drop (i+1):=by
   rw[zC8 hlt]
   have:=zAE hlt
   rw[ed]at this;cases this;rfl
  rw[ed2]at w';unfold lu at w';cases eg:fg d ρ' with
  |ex c=>rw[eg]at w';exact zAI w'
  |st=>rw[eg]at w';exact zAI w'
  |ok ρ1=>
   rw[eg]at w';have G:=g2 (τ1++τ) x d Z' H2 ρ' lab' (λ Z1 H1=>RR C.K C.G (τ1++τ) ρ1 Z1 H2 lab'/\H1=H2) ρ1 R' rx eg λ Z1 R1=>⟨R1,rfl⟩
   refine g4 _ _ _ _ _ (λ Z1 H1 z=>?_) (g3 _ _ _ _ G);obtain⟨⟨R1,e⟩,_,fr⟩:=z;subst e;refine b2 (τ1++τ) Z1 H1 ρ1 lab' _ v1 v3 R1 ⟨(fr 1 hk1).trans kp'.1,(fr 3 hk3).trans kp'.2⟩ ?_;dsimp only at w';cases eb:f ρ1 with
   |nx ρ2=>rw[eb]at w';exact λ Z2 H3 lab2 R2 f2=>⟨ρ2,lab2,R2,f2,w'⟩
   |rt d ρ2=>rw[eb]at w';exact λ v Z2 H3 lab2 R2 f2=>w' v Z2 H3 lab2 R2.drop f2
   |st=>rw[eb]at w';exact w'
 .have e:i=ds.length:=by lia
  subst e;rw[zEA]at w';exact .inl ⟨(jj _).1 (zAV _),w' Z' H' lab' R'.drop kp'⟩
end
abbrev FB:=D->List (Int×D)->D->List (Int×D)->Option (Bool×List (Int×D)×List (Int×D))
def spB(K:zAA)(F:FB):Sp:=λ vs H Q _=>∃(v0 v2:V) (a b:Addr) (d0 d2:D) (c t:List (Int×D)) (r:Bool) (c' t':List (Int×D)),vs=[v0,.ref a,v2,.ref b]/\a≠b/\Rp K (λ p=>p≠a/\p≠b) H v0 d0/\Rp K (λ p=>p≠a/\p≠b) H v2 d2/\Bw K H a c/\Bw K H b t/\F d0 c d2 t=some (r,c',t')/\
 ∀H',(∀p o,p≠a->p≠b->H p=some o->H' p=some o)->Bw K H' a c'->Bw K H' b t'->Q (.bl r) H'
def oX:Option Slot->Option (List (Int×D))
 |some (.ow (.dct ks vs))=>gk ks vs
 |_=>none
def lZ(h:oX s=some ps):s=some (.ow (bY ps)):=by
 unfold oX at h;split at h
 .rename_i ks vs
  obtain⟨h1,h2⟩:=xQ h;subst h1 h2;rfl
 .cases h
def startB(n:Nat)(d0:D)(c:List (Int×D))(d2:D)(t:List (Int×D)):En:=[.sh d0,.ow (bY c),.sh d2,.ow (bY t)]++zAS (n-4) .no
def aFZ(r:Bool)(ρ:En):Option (Bool×List (Int×D)×List (Int×D)):=match oX ρ[1]?,oX ρ[3]? with
 |some c,some t=>if flats c=true/\flats t=true then some (r,c,t)else none
 |_,_=>none
def aFY(h:aFZ r ρ=some (r',c,t)):r=r'/\ρ[1]? =some (.ow (bY c))/\ρ[3]? =some (.ow (bY t))/\flats c=true/\flats t=true:=by
 unfold aFZ at h;split at h
 .rename_i c1 t1 e1 e2
  split at h
  .rename_i hf
   cases h;exact⟨rfl,lZ e1,lZ e2,hf⟩
  .cases h
 .cases h
def aGg(n:Nat)(f:En->OB):FB:=λ d0 c d2 t=>match f (startB n d0 c d2 t)with
 | .rt (.bl r) ρ=>aFZ r ρ
 |_=>none
abbrev ctB(P:zAY)(w:World)(K:zAA)(mg:Str->Option Value)(base:Heap)(N:List Str)(q:Str)(sc:Scope)(f:Addr)(cdv:Value)(A:zAc)(outer:List Env)(s:zAG)(H Hb:Hp)(E:XK)(k:Nat)(hr:jy k (A.deeper (zEF q sc s.heap.objs.size f cdv))):Ct where
 ι:=Unit
 X:=λ _=>aBX (CX1 P w) P w K mg base N q sc f cdv A outer s H E
 prog:=P
 w:=w
 K:=K
 mg:=mg
 base:=base
 k:=k
 G:=⟨Hb,E,bI mg⟩
 cx:=λ _=>⟨rfl,rfl,rfl,rfl,rfl⟩
 calm:=λ _=>rfl
 room:=λ _=>hr
 own:=λ _=>gM.own gM.of
 pass:=λ _=>gM.pass gM.of
 dOk:=true
 dcx:=λ _ _=>gM.of
def aKp{P:zAY}{w:World}{K:zAA}{st:Stmt}{F:FB}(D:Dnr K mg q st ps fn fd)(S:aV N ps (aO st))(hb:N.Nodup->∀cdv A outer s H Hb E hr,SBs (ctB P w K mg base N q (aO st) fn cdv A outer s H Hb E k hr) (fX st) f)(hn:ps.length=4:=by rfl)(hN:4<=N.length:=by decide)(hF:aGg N.length f=F:=by rfl):
  bU P w K mg base (CX1 P w) (k+1) fn fd ps (spB K F):=by
 subst hF;refine D.F.okX S (λ vs H Q E ⟨v0,v2,a,b,d0,d2,c,t,r,c',t',e,_⟩=>by rw[e,hn];rfl) λ cdv A outer s H vs Q E hr ⟨v0,v2,a,b,d0,d2,c,t,r,c',t',e,ne,r0,r2,ba,bb,W,q⟩=>?_
 subst e;obtain⟨u,h1,h2⟩:=hb S.nd cdv A outer s H (λ p=>if p=a\/p=b then none else H p) E hr;let lab:Lab:=λ p=>if p=a then(3,0)else if p=b then(5,0)else(0,0)
 have la:lab a=(3,0):=if_pos rfl;have lb:lab b=(5,0):=by show(if b=a then((3,0):Nat×Nat)else if b=b then(5,0)else(0,0))=_;rw[if_neg (zCq ne),if_pos rfl]
 have ln:∀{p},p≠a->p≠b->lab p=(0,0):=λ{p} h1 h2=>by show(if p=a then((3,0):Nat×Nat)else if p=b then(5,0)else(0,0))=_;rw[if_neg h1,if_neg h2]
 have R:RR K ⟨λ p=>if p=a\/p=b then none else H p,E,bI mg⟩ [] (startB N.length d0 c d2 t) (start N [v0,.ref a,v2,.ref b]) H lab:=by
  refine⟨?_,λ i s e=>?_,λ p o hp=>?_,λ p hp=>?_,λ q hq=>by cases hq⟩
  .unfold startB L2.start;simp
  .unfold startB at e
   have st:∀j:Nat,j<4->(start N [v0,.ref a,v2,.ref b])[j]? =([some v0,some (.ref a),some v2,some (.ref b)]:List (Option V))[j]?:=λ j hj=>by
    unfold L2.start;rw[zC9 (by simpa using hj)];rfl
   match i,e with
   |0,e=>cases e;exact .inr ⟨v0,(st 0 (by decide)).trans rfl,r0.wk λ p o _ z=>by rw[ln z.1 z.2];exact zAi _⟩
   |1,e=>cases e;exact .inr ⟨.ref a,(st 1 (by decide)).trans rfl,ba.rp (.inr (by rw[la])),λ _=>⟨a,rfl,by rw[la]⟩⟩
   |2,e=>cases e;exact .inr ⟨v2,(st 2 (by decide)).trans rfl,r2.wk λ p o _ z=>by rw[ln z.1 z.2];exact zAi _⟩
   |3,e=>cases e;exact .inr ⟨.ref b,(st 3 (by decide)).trans rfl,bb.rp (.inr (by rw[lb])),λ _=>⟨b,rfl,by rw[lb]⟩⟩
   |i+4,e=>
    rw[zD8 (by simp),zBg]at e;split at e
    .cases e;exact .inl rfl
    .cases e
  .dsimp only at hp
   split at hp
   .cases hp
   .exact hp
  .dsimp only
   by_cases z1:p=a
   .rw[if_pos (.inl z1)]
   .by_cases z2:p=b
    .rw[if_pos (.inr z2)]
    .rw[ln z1 z2]at hp;exact absurd rfl hp
 refine⟨u,h1 (),h2 [] _ H _ lab _ (.ref a) (.ref b) R ⟨rfl,rfl⟩ ?_⟩;unfold aGg at W;cases e:f (startB N.length d0 c d2 t)with
 |nx ρ=>rw[e]at W;cases W
 |st=>rw[e]at W;cases W
 |rt d ρ=>
  rw[e]at W;cases d with
  |bl r1=>
   dsimp only at W;obtain⟨rfl,e1,e3,f1,f3⟩:=aFY W;intro v Z H' lab' R' kp rv;have ev:=rv.bl_inv;subst ev;refine q H' (λ p o h1 h2 hp=>R'.old p o (by dsimp only;rw[if_neg (by simp[h1,h2])];exact hp)) ?_ ?_
   .rcases R'.sl 1 _ e1 with z|⟨v,ev,hv⟩
    .cases z
    .rw[kp.1]at ev
     cases ev;exact Bw.of hv.1 f1 rfl
   .rcases R'.sl 3 _ e3 with z|⟨v,ev,hv⟩
    .cases z
    .rw[kp.2]at ev
     cases ev;exact Bw.of hv.1 f3 rfl
  |_=>cases W
def pC(F:FB)(fx:En->Rs D):En->Option (Bool×En):=λ ρ=>match (ρ[0]? :Option Slot),oX ρ[1]?,fx ρ,oX ρ[3]? with
 |some (.sh d0),some c,.ok d2,some t=>if flats c=true/\flats t=true/\flat d2=true then(F d0 c d2 t).map λ q=>(q.1,(ρ.set 1 (.ow (bY q.2.1))).set 3 (.ow (bY q.2.2)))else none
 |_,_,_,_=>none
def aFE{K:zAA}{G:Gx}{F:FB}{fx:En->Rs D}{tx:TE}(h:iU K G m tx fx):∀τ Z H ρ lab (Q:VK),RR K G τ ρ Z H lab->(∃r ρ',pC F fx ρ=some (r,ρ')/\∀H' lab',RR K G τ ρ' Z H' lab'->Q (.bl r) H')->aBk (spB K F) [] G.E (cY (kJ 0) (cY (kJ 1) (cY tx (cY (kJ 3) oH)))) Z H Q:=by
 intro τ Z H ρ lab Q R ⟨r,ρ',e,w⟩;unfold pC at e;split at e
 .rename_i d0 c d2 t e0 e1 e2 e3
  split at e
  .rename_i hf
   cases hF:F d0 c d2 t with
   |none=>rw[hF]at e;cases e
   |some q=>
    obtain⟨r',c',t'⟩:=q;rw[hF]at e;cases e;have es1:=lZ e1;have es3:=lZ e3;rcases R.sl 0 _ e0 with z|⟨v0,ev0,h0⟩
    .cases z
    rcases R.sl 1 _ es1 with z|⟨v1,ev1,h1,t1⟩
    .cases z
    rcases R.sl 3 _ es3 with z|⟨v3,ev3,h3,t3⟩
    .cases z
    obtain⟨a,rfl,la⟩:=t1 rfl;obtain⟨b,rfl,lb⟩:=t3 rfl;have ne:a≠b:=λ z=>by subst z;lia
    have h0':Rp K (λ p=>(lab p).1<=1) H v0 d0:=h0;refine⟨v0,ev0,.ref a,ev1,h τ Z H ρ lab _ R ?_⟩;rw[e2];intro y H1 s1 r1;refine⟨.ref b,ev3,?_⟩;have B1:Bw K H1 a c:=Bw.of (h1.up s1) hf.1 rfl;have B3:Bw K H1 b t:=Bw.of (h3.up s1) hf.2.1 rfl;refine⟨v0,y,a,b,d0,d2,c,t,r',c',t',rfl,ne,(h0'.up s1).wk λ p o _ z=>⟨λ q=>by subst q;lia,λ q=>by subst q;lia⟩,r1.flat hf.2.2,B1,B3,hF,λ H' ch C1 C3=>?_⟩;obtain⟨k1,a1⟩:=B1.at;obtain⟨k3,a3⟩:=B3.at;have R1:=R.up s1;let H2:Hp:=λ p=>if p=b then H1 b else H' p
    have eb:H2 b=H1 b:=if_pos rfl;have en:∀{p},p≠b->H2 p=H' p:=λ{p} z=>if_neg z
    have C1':Bw K H2 a c':=Bw.of C1.2 C1.1 (en ne);have R2:=R1.mut (H':=H2) (s':=.ow (bY c')) ev1 a1 rfl la (λ p o z hp=>by
     by_cases zb:p=b
     .rw[zb,eb,<-zb];exact hp
     .rw[en zb];exact ch p o z zb hp) ⟨C1'.rp (.inr la),λ _=>⟨a,rfl,la⟩⟩
    have R3:=R2.mut (H':=H') (s':=.ow (bY t')) ev3 (eb.trans a3) rfl lb (λ p o z hp=>by rw[en z]at hp;exact hp) ⟨C3.rp (.inr lb),λ _=>⟨b,rfl,lb⟩⟩;exact w H' lab R3
  .cases e
 .cases e
def ifC(fc:En->Rs Bool)(cb:En->Option (Bool×En))(f:En->OB):En->OB:=λ ρ=>(fc ρ).bb λ q=>if q=true then f ρ else match cb ρ with
 |some (true,ρ')=>f ρ'
 |some (false,ρ')=>.nx ρ'
 |none=>.st
section
variable{C:Ct}{pos p p0 p1 p3:Pos}{ss:List Stmt}{f:En->OB}{e:Expr}{m:Mode}{fx:En->Rs D}{x x0 x1 x3:Str}{F:FB}{fc:En->Rs Bool}{c:Expr}{k:Nat}{fn:Addr}{fd:zA8}{ps:List Str}
def aMV{st:Stmt}{bp cp:Pos}(hF:bU C.prog C.w C.K C.mg C.base (CX1 C.prog C.w) k fn fd ps (spB C.K F))(D:Dnr C.K C.mg x st ps fn fd)(hc:ST C c fc)(hx:SE C m e fx)(hb:SBs C ss f)(hr:k<=C.k:=by exact zCY rfl)
  (hN0:∀j,(C.X j).N[0]? =some x0:=by intro _;rfl)(hN1:∀j,(C.X j).N[1]? =some x1:=by intro _;rfl)(hN3:∀j,(C.X j).N[3]? =some x3:=by intro _;rfl)
  (hv0:∀j,Vis (C.X j).env.scope x0:=by intro _;first|exact zB0 rfl|exact zAx (zB0 rfl)|exact zAx (zAx rfl))(hv1:∀j,Vis (C.X j).env.scope x1:=by intro _;first|exact zB0 rfl|exact zAx (zB0 rfl)|exact zAx (zAx rfl))(hv3:∀j,Vis (C.X j).env.scope x3:=by intro _;first|exact zB0 rfl|exact zAx (zB0 rfl)|exact zAx (zAx rfl))
  (hd0:Nd x0:=by decide)(hd1:Nd x1:=by decide)(hd3:Nd x3:=by decide)(hc0:(x0==("__classdict__":Str))=false:=by decide)(hc1:(x1==("__classdict__":Str))=false:=by decide)(hc3:(x3==("__classdict__":Str))=false:=by decide)
  (hg:∀i,Gl (C.X i) x:=by intro _;rfl)(hdb:Nd x:=by decide)
  (he0:∀i,zAT [.Name x0 p0,.Name x1 p1,e,.Name x3 p3] (C.X i).env=(false,eval (.Name x0 p0) (C.X i).env)::zAT [.Name x1 p1,e,.Name x3 p3] (C.X i).env:=by intro _;rfl)
  (he1:∀i,zAT [.Name x1 p1,e,.Name x3 p3] (C.X i).env=(false,eval (.Name x1 p1) (C.X i).env)::zAT [e,.Name x3 p3] (C.X i).env:=by intro _;rfl)
  (he2:∀i,zAT [e,.Name x3 p3] (C.X i).env=(false,eval e (C.X i).env)::zAT [.Name x3 p3] (C.X i).env:=by intro _;rfl)
  (he3:∀i,zAT [.Name x3 p3] (C.X i).env=(false,eval (.Name x3 p3) (C.X i).env)::zAT [] (C.X i).env:=by intro _;rfl)
  (hpl:∀i,(zBu cp (zAT [.Name x1 p1,e,.Name x3 p3] (C.X i).env)).any (·.1)=false:=by intro _;rfl)
  (ht:∀i whole,isTrue (.Call (.Name x p) [.Name x0 p0,.Name x1 p1,e,.Name x3 p3] [] cp) (C.X i).env whole=(do let v <-whole;zEw (Expr.Call (.Name x p) [.Name x0 p0,.Name x1 p1,e,.Name x3 p3] [] cp).pos;zC5 [v] (truthy v)):=by intro _ _;rfl):
  SB C (.If (.BoolOp .Or [c,.Call (.Name x p) [.Name x0 p0,.Name x1 p1,e,.Name x3 p3] [] cp] bp) ss [] pos) (ifC fc (pC F fx) f):=by
 obtain⟨tc,c1,c2⟩:=hc;obtain⟨tx,x1',x2⟩:=hx;obtain⟨t,h1,h2⟩:=hb;refine⟨aOP (tOr tc (tB (aBk (spB C.K F) [] C.G.E (cY (kJ 0) (cY (kJ 1) (cY tx (cY (kJ 3) oH))))))) t aLQ,λ i=>?_,λ τ Z H ρ lab De v1 v3 R kp W=>?_⟩
 .obtain⟨e1,e2,e3,e4,e5⟩:=C.cx i
  refine aHH (aLa (c1 i) (aGz (aM8 ?_ (ht i)))).pt (h1 i) aAy;exact aBA (CX:=CX1 (C.X i).prog (C.X i).w) (by rw[e1,e2,e3,e4,e5];exact hF) ((C.room i).mono hr) (hg i) (by rw[e4];exact D.m) (by rw[e3];exact D.F.kp) (by rw[e3];exact D.b) .nil (C.pass i) (bT (dO (hN0 i) (hv0 i) hd0 hc0) (bT (dO (hN1 i) (hv1 i) hd1 hc1) (bT (x1' i) (bT (dO (hN3 i) (hv3 i) hd3 hc3) fH (he3 i)) (he2 i)) (he1 i)) (he0 i)) hdb (he0 i) (hpl i)
 .refine c2 τ Z H ρ lab _ R (WB.bb W |>.imp λ z _ w H1 s1=>?_)
  cases z with
  |true=>
   rw[if_pos rfl]at w ⊢;show t De Z H1;exact h2 τ Z H1 ρ lab De v1 v3 (R.up s1) kp w
  |false=>
   rw[if_neg zAU]at w ⊢;cases hcb:pC F fx ρ with
   |none=>rw[hcb]at w;exact zAI w
   |some rr=>
    obtain⟨r,ρ'⟩:=rr;rw[hcb]at w;refine aFE x2 τ Z H1 ρ lab _ (R.up s1) ⟨r,ρ',hcb,λ H' lab' R'=>⟨r,rfl,?_⟩⟩;cases r with
    |true=>rw[if_pos rfl];exact h2 τ Z H' ρ' lab' De v1 v3 R' kp w
    |false=>rw[if_neg zAU];exact w Z H' lab' R' kp
end
def Raw(h:Heap)(d:Addr)(o:Obj)(es:Array zDZ)(ep:Nat):Prop:=h.get? d=some o/\o.ExactDict/\o.data= .dict es ep
section
variable{prog:zAY}{w:World}{A:zAc}{E:Value->zAG->Prop}{s:zAG}{d v it:Addr}{o:Obj}{es:Array zDZ}{ep i:Nat}{ok ov:Value}
def Raw.ty(r:Raw s.heap d o es ep):s.TypeIs (.ref d) "dict":=⟨o,r.1,r.2.1.1⟩
def aFO(hd:(d==zAz)=false):MeetsIn prog w (zDR.«dict.items» ⟨[.ref d],[]⟩) (λ _ R s=>(∃o es ep,Raw s.heap d o es ep)/\R (.ok (.ret (.ref s.heap.objs.size))) {s with heap:=s.heap.push {cls:=.type "dict_items",data:=.fields #[.ref d]}}):=by
 refine .of_wp λ A R s ⟨⟨o,es,ep,r⟩,q⟩=>?_
 unfold zDR.«dict.items» zFR;refine zAB (zAB (zEd r.ty ?_));refine zAH (?_:wpAny _ _ (zCE d>>=_) _ _ s);unfold zCE;rw[hd,if_neg zAU];exact zAB (zAH (zAB (zAn (zAH ⟨_,rfl,q⟩))))
def aDP(hd:(d==zAz)=false):MeetsIn prog w (zDR.«dict.values» ⟨[.ref d],[]⟩) (λ _ R s=>(∃o es ep,Raw s.heap d o es ep)/\R (.ok (.ret (.ref s.heap.objs.size))) {s with heap:=s.heap.push {cls:=.type "dict_values",data:=.fields #[.ref d]}}):=by
 refine .of_wp λ A R s ⟨⟨o,es,ep,r⟩,q⟩=>?_
 refine zAB ?_;unfold zFR;refine zAB (zEd r.ty ?_);refine zAH (?_:wpAny _ _ (zCE d>>=_) _ _ s);unfold zCE;rw[hd,if_neg zAU];exact zAB (zAH (zAB (zAn (zAH ⟨_,rfl,q⟩))))
def aFN{Q:Value->zAG->Prop}(x:s.heap.IsItemsView v d)(r:Raw s.heap d o es ep)
  (q:Q (.ref s.heap.objs.size) {s with heap:=s.heap.push {cls:=.type "dict_itemiterator",data:=.fields #[.none,.bool false,.ref d,.int 0 0,.int es.size 0,.int ep 0,.none,.none]}}):wpAny (model prog w) A (zGj (.ref v)) Q E s:=by
 obtain⟨vo,x1,x2,x3⟩:=id x;refine zIO x.typeIs zG9 (zB8 zG9 x.typeIs F.entry_dict_items_iter ?_ (F.args_dict_items_iter_1 _));unfold zDR.«dict_items.__iter__» zEI zDo;refine zAB (zAH (zAB (zAB (zDV x1 x3 (x:=.ref d) rfl (zAH (zAB (zAB (zBd r.1 r.2.2 (zAB (zDF r.1 r.2.2 ?_))))))))));have w1:zBI "dict_itemiterator"=true:=by decide
 simp only[w1,if_true];refine zAn (zAH ⟨_,rfl,"dict_itemiterator",_,⟨_,zAN _ rfl,rfl⟩,zBf.lookup,?_⟩) (by simp only[sizeOk,zD6,zAK,zAZ,zAk,zBW,zB3];lia);simpa[zGG,zD6]using q
def aFM{Q:Value->zAG->Prop}(x:s.heap.IsValuesView v d)(r:Raw s.heap d o es ep)
  (q:Q (.ref s.heap.objs.size) {s with heap:=s.heap.push {cls:=.type "dict_valueiterator",data:=.fields #[.ref d,.int 0 0,.int es.size 0,.int ep 0]}}):wpAny (model prog w) A (zGj (.ref v)) Q E s:=by
 obtain⟨vo,x1,x2,x3⟩:=id x;refine zIO x.typeIs zGY (zB8 zGY x.typeIs F.entry_dict_values_iter ?_ (F.args_dict_values_iter_1 _));unfold zDR.«dict_values.__iter__» zEI zDo;refine zAB (zAH (zAB (zAB (zDV x1 x3 (x:=.ref d) rfl (zAH (zAB (zAB (zBd r.1 r.2.2 (zAB (zDF r.1 r.2.2 ?_))))))))));have w1:zBI "dict_valueiterator"=false:=by decide
 simp only[w1,zBq,if_false];refine zAn (zAH ⟨_,rfl,"dict_valueiterator",_,⟨_,zAN _ rfl,rfl⟩,zBe.lookup,?_⟩);simpa[zGG]using q
def aJ8{Q:Option Value->zAG->Prop}(t:s.heap.IsValIter it d i es.size ep)(r:Raw s.heap d o es ep)(hi:i<es.size)
  (q:∀h',h'.IsValIter it d (i+1) es.size ep->zBa it s.heap h'->Q (some es[i].val) {s with heap:=h'}):wpAny (model prog w) A (zEb (.ref it)) Q E s:=by
 obtain⟨u,t1,t2,t3⟩:=id t;have ty:=t.typeIs;unfold zEb;refine zAB (zFO (zBl (name:=zDi "__next__") ty zBe (zB8 zBe ty zFH ?_ (zEx _))));refine zAB (zAH (zAB (zAB ?_)))
 first|refine zAB (zCT ty (zAH (zAB (zCW t1 t3 ?_))))|refine zAB (zCs ty (zAH (zAB (zCW t1 t3 ?_))))
 have w1:zBI "dict_valueiterator"=false:=by decide
 simp only[w1,zBq,if_false];show wpAny _ _ (if (zAs d==zAu)=true then _ else _) _ _ s;rw[if_neg (show¬(zAs d==zAu)=true from zAU)];refine zAB (zAH (zAB (zBd r.1 r.2.2 ?_)));rw[if_neg (by simp)];refine zAB (zAH (zAB (zDF r.1 r.2.2 ?_)));rw[if_neg (by simp)];refine zAH ?_;simp only[show¬((i:Int)<0)by lia,if_false,zBJ,zC2 hi];refine zAB ?_
 first|refine zAB (zCT ty (zAH (zAB (zD0 ty ?_))))|refine zAB (zCs ty (zAH (zAB (zD0 ty ?_))))
 show wpAny _ _ (zFy (.ref it) 1 (zGG ((i:Int)+1))>>=_) _ _ s;refine zAB (zG8 t1 t3 (by simp) ?_);have t':(s.heap.update it (zID (·.setIfInBounds 1 (zGG ((i:Int)+1))))).IsValIter it d (i+1) es.size ep:=
  ⟨_,zEJ _ t1 (Obj.isFreed_of_fields (zHG t3 _)),(Obj.cls_mapFields ..).trans t2,by rw[zHG t3];simp[zGG]⟩
 generalize hh:s.heap.update it (zID (·.setIfInBounds 1 (zGG ((i:Int)+1))))=h' at t';have sb:zBa it s.heap h':=hh▸zCv ..;have ty':zCk {s with heap:=h'} (.ref it) "dict_valueiterator":=t'.typeIs;refine zAB (zBS (zAB (zD0 ty' (zAB (zD0 ty' ?_)))));exact zAH (zAH ⟨_,rfl,zAH (q h' t' sb)⟩)
def aGr{Q:Option Value->zAG->Prop}(hh:A.handled=none)(t:s.heap.IsValIter it d i es.size ep)(r:Raw s.heap d o es ep)(hi:es.size<=i)
  (q:∀h',Heap.ExtBut it s.heap h'->Q none {s with heap:=h'}):wpAny (model prog w) A (zEb (.ref it)) Q E s:=by
 obtain⟨u,t1,t2,t3⟩:=id t;have ty:=t.typeIs;unfold zEb;refine zAB (zFO (zBl (name:=zDi "__next__") ty zBe (zB8 zBe ty zFH ?_ (zEx _))));refine zAB (zAH (zAB (zAB ?_)))
 first|refine zAB (zCT ty (zAH (zAB (zCW t1 t3 ?_))))|refine zAB (zCs ty (zAH (zAB (zCW t1 t3 ?_))))
 have w1:zBI "dict_valueiterator"=false:=by decide
 simp only[w1,zBq,if_false];show wpAny _ _ (if (zAs d==zAu)=true then _ else _) _ _ s;rw[if_neg (show¬(zAs d==zAu)=true from zAU)];refine zAB (zAH (zAB (zBd r.1 r.2.2 ?_)));rw[if_neg (by simp)];refine zAB (zAH (zAB (zDF r.1 r.2.2 ?_)));rw[if_neg (by simp)];refine zAH ?_;simp only[show¬((i:Int)<0)by lia,if_false,zBJ,zDy hi];refine zAB ?_
 first|refine zAB (zCT ty (zAH (?_:wpAny _ _ (zFy (.ref it) 0 .none>>=_) _ _ s)))|refine zAB (zCs ty (zAH (?_:wpAny _ _ (zFy (.ref it) 0 .none>>=_) _ _ s)))
 refine zAB (zG8 t1 t3 (by simp) ?_);show wpAny _ _ (newExc (.type "StopIteration") []>>=_) _ _ _;refine zAB ?_;simp only[newExc,newTuple];refine zAB (zAn (zAB (m:=zEp _ _) (zHe (a:=zAu) (by first|rfl|(simp only[zEp];rfl)) (zAn ?_ (by size_fits)))) (by size_fits));simp only[raiseNew];refine zAB (wpAny_handled ?_);rw[show A.in1.handled=none from hh];refine zAB (zAH (wpAny_throw ?_));refine zAB (zFs (T:="StopIteration") (b:=true) ⟨_,zAN _ rfl,rfl⟩ isSubtype_stop (zAH (q _ ?_)));exact((zCv ..).extBut.push _).push _
def aJ9{Q:Option Value->zAG->Prop}(t:zDS s.heap it d i es.size ep ok ov)(r:Raw s.heap d o es ep)(hi:i<es.size)
  (q:∀h',zGm h' it d (i+1) es.size ep es[i].key es[i].val s.heap.objs.size->h'.get? s.heap.objs.size=some {cls:=.type "tuple",data:=.seq #[es[i].key,es[i].val]}->h'.objs.size=s.heap.objs.size+1->(∀b u,b≠it->s.heap.get? b=some u->h'.get? b=some u)->Q (some (.ref s.heap.objs.size)) {s with heap:=h'}):
  wpAny (model prog w) A (zEb (.ref it)) Q E s:=by
 obtain⟨hp,g,dr,tk,os⟩:=s;have ty:zCk ⟨hp,g,dr,tk,os⟩ (.ref it) "dict_itemiterator":=⟨_,t,rfl⟩;unfold zEb;refine zAB (zFO (zBl (name:=zDi "__next__") ty zBf (zB8 zBf ty zFT ?_ (zFG _))));refine zAB (zAH (zAB (zAB ?_)))
 first|refine zAB (zCO ty (zAH (zAB (zCW t rfl ?_))))|refine zAB (zCl ty (zAH (zAB (zCW t rfl ?_))))
 have w1:zBI "dict_itemiterator"=true:=by decide
 simp only[w1,if_true];show wpAny _ _ (if (zAs d==zAu)=true then _ else _) _ _ _;rw[if_neg (show¬(zAs d==zAu)=true from zAU)];refine zAB (zAH (zAB (zBd r.1 r.2.2 ?_)));rw[if_neg (by simp)];refine zAB (zAH (zAB (zDF r.1 r.2.2 ?_)));rw[if_neg (by simp)];refine zAH ?_;simp only[show¬((i:Int)<0)by lia,if_false,zBJ,zC2 hi];refine zAB ?_
 first|refine zAB (zCO ty (zAH (zAB (zDQ ty ?_))))|refine zAB (zCl ty (zAH (zAB (zDQ ty ?_))))
 show wpAny _ _ (zFy (.ref it) 3 (zGG ((i:Int)+1))>>=_) _ _ ⟨hp,g,dr,tk,os⟩;refine zAB (zDG t (by simp) λ h1 t1 (s1:zBa it hp h1)=>?_);replace t1:zDS h1 it d (i+1) es.size ep ok ov:=by
  unfold zDS;rw[show((i+1:Nat):Int)=(i:Int)+1 by lia];simpa[zGG]using t1
 have ty1:zCk ⟨h1,g,dr,tk,os⟩ (.ref it) "dict_itemiterator":=⟨_,t1,rfl⟩;refine zAB (zBS (zAB (zDQ ty1 (zAB (zDQ ty1 ?_)))));show wpAny _ _ (zDj (.ref it) 6 es[i].key es[i].val) _ _ ⟨h1,g,dr,tk,os⟩;unfold zDj;refine zAB (wpAny_newTuple ?_);have t2:zDS (h1.push {cls:=.type "tuple",data:=.seq #[es[i].key,es[i].val]}) it d (i+1) es.size ep ok ov:=zAC _ t1;have hl:it<hp.objs.size:=zA2 t;obtain⟨h2,e2⟩:∃h2,h2=h1.push {cls:=.type "tuple",data:=.seq #[es[i].key,es[i].val]}:=⟨_,rfl⟩
 rw[<-e2]at t2 ⊢;have g2:h2.get? hp.objs.size=some {cls:=.type "tuple",data:=.seq #[es[i].key,es[i].val]}:=by rw[e2,<-s1.1];exact zAN _ rfl
 have z2:h2.objs.size=hp.objs.size+1:=by rw[e2,zBU,s1.1]
 have k2:∀b u,b≠it->hp.get? b=some u->h2.get? b=some u:=λ b u hb e=>by rw[e2];exact zAC _ (s1.extBut b u hb e)
 rw[s1.1];show wpAny _ _ (zD7 (.ref it)>>=_) _ _ ⟨h2,g,dr,tk,os⟩;clear e2 t1 s1 ty1 h1;unfold zD7;refine zAB (zAB (zDV t2 rfl (x:=.none) rfl (zAH ?_)));simp only[if_true];refine zAB (zDV t2 rfl (x:=ok) rfl (zAB (zDV t2 rfl (x:=ov) rfl (zAB (zDG t2 (by simp) λ h3 t3 (s3:zBa it h2 h3)=>?_)))));replace t3:zDS h3 it d (i+1) es.size ep es[i].key ov:=t3;refine zAB (zDG t3 (by simp) λ h4 t4 (s4:zBa it h3 h4)=>?_);replace t4:zDS h4 it d (i+1) es.size ep es[i].key es[i].val:=t4;refine zAB (zDG t4 (by simp) λ h5 t5 (s5:zBa it h4 h5)=>?_);replace t5:zGm h5 it d (i+1) es.size ep es[i].key es[i].val hp.objs.size:=t5;refine zAB (zDG t5 (by simp) λ h6 t6 (s6:zBa it h5 h6)=>?_);replace t6:zGm h6 it d (i+1) es.size ep es[i].key es[i].val hp.objs.size:=t6;have sb:zBa it h2 h6:=((s3.trans s4).trans s5).trans s6;refine zAB (wpAny_letGo (zAH (zAH ⟨_,rfl,zAH (q h6 t6 (sb.extBut _ _ (zBr hl) g2) (sb.1.trans z2) λ b u hb e=>sb.extBut b u hb (k2 b u hb e))⟩)))
def aGs{Q:Option Value->zAG->Prop}(hh:A.handled=none)(t:zDS s.heap it d i es.size ep ok ov)(r:Raw s.heap d o es ep)(hi:es.size<=i)
  (q:∀h',Heap.ExtBut it s.heap h'->Q none {s with heap:=h'}):wpAny (model prog w) A (zEb (.ref it)) Q E s:=by
 have ty:s.TypeIs (.ref it) "dict_itemiterator":=⟨_,t,rfl⟩;unfold zEb;refine zAB (zFO (zBl (name:=zDi "__next__") ty zBf (zB8 zBf ty zFT ?_ (zFG _))));refine zAB (zAH (zAB (zAB ?_)))
 first|refine zAB (zCO ty (zAH (zAB (zCW t rfl ?_))))|refine zAB (zCl ty (zAH (zAB (zCW t rfl ?_))))
 have w1:zBI "dict_itemiterator"=true:=by decide
 simp only[w1,if_true];show wpAny _ _ (if (zAs d==zAu)=true then _ else _) _ _ s;rw[if_neg (show¬(zAs d==zAu)=true from zAU)];refine zAB (zAH (zAB (zBd r.1 r.2.2 ?_)));rw[if_neg (by simp)];refine zAB (zAH (zAB (zDF r.1 r.2.2 ?_)));rw[if_neg (by simp)];refine zAH ?_;simp only[show¬((i:Int)<0)by lia,if_false,zBJ,zDy hi];refine zAB ?_
 first|refine zAB (zCO ty (zAH (?_:wpAny _ _ (zFy (.ref it) 2 .none>>=_) _ _ s)))|refine zAB (zCl ty (zAH (?_:wpAny _ _ (zFy (.ref it) 2 .none>>=_) _ _ s)))
 refine zAB (zG8 t rfl (by simp) ?_);show wpAny _ _ (newExc (.type "StopIteration") []>>=_) _ _ _;refine zAB ?_;simp only[newExc,newTuple];refine zAB (zAn (zAB (m:=zEp _ _) (zHe (a:=zAu) (by first|rfl|(simp only[zEp];rfl)) (zAn ?_ (by size_fits)))) (by size_fits));simp only[raiseNew];refine zAB (wpAny_handled ?_);rw[show A.in1.handled=none from hh];refine zAB (zAH (wpAny_throw ?_));refine zAB (zFs (T:="StopIteration") (b:=true) ⟨_,zAN _ rfl,rfl⟩ isSubtype_stop (zAH (q _ ?_)));exact((zCv ..).extBut.push _).push _
def aJa(h:Heap):Raw (h.push {cls:=.type "dict",data:=.dict #[]}) h.objs.size {cls:=.type "dict",data:=.dict #[]} #[] 0:=⟨zAN _ rfl,⟨rfl,rfl,rfl⟩,rfl⟩
def aGq{id:String}{Q:Array zDZ->zAG->Prop}(r:Raw s.heap d o es ep)(hk:∀e∈es.toList,∃a,e.key= .ref a/\s.TypeIs (.ref a) "tuple")(hn:∀e∈es.toList,(es.filter (·.hash==e.hash)).size<=1)(q:Q es s):wpAny (model prog w) A (zEZ id d) Q E s:=by
 unfold zEZ;refine zAB (zBd r.1 r.2.2 (zAB ?_));rw[<-Array.forIn_toList];refine zFr _ (λ rest _ s'=>s'=s/\∀e∈rest,e∈es.toList) _ ?_ ?_ _ _ ⟨rfl,λ e he=>he⟩
 .rintro e rest b s' ⟨rfl,hs⟩
  obtain⟨a,e1,e2⟩:=hk e (hs e zAJ);rw[e1];unfold Builtin.Dict.quietEq;refine zAB (zAB (zGM e2 F.slot_tuple_eq.lookup (zAH ?_)));rw[if_pos (by decide),if_neg (by have:=hn e (hs e zAJ);lia)];exact zAH ⟨rfl,λ e he=>hs e (zAR _ he)⟩
 .rintro b s' ⟨rfl,_⟩
  exact zAH q
def aFL{nm:String}{c:Addr}{oc:Obj}{ec:Nat}{Q:Unit->zAG->Prop}(ne:c≠d)(hS:(d==zAz)=false)(r:Raw s.heap d o es ep)(rc:Raw s.heap c oc #[] ec)(hz:es.size<=zAO)(h0:0<es.size)
  (hk:∀e∈es.toList,∃a,e.key= .ref a/\s.TypeIs (.ref a) "tuple")(hn:∀e∈es.toList,(es.filter (·.hash==e.hash)).size<=1)(q:∀h' o' ep',Raw h' c o' es ep'->zBa c s.heap h'->Q () {s with heap:=h'}):wpAny (model prog w) A (zEr nm c d) Q E s:=by
 unfold zEr zCE;rw[if_neg (by simpa using ne),hS,if_neg zAU];refine zAB (zAH (zAB (zBd r.1 r.2.2 ?_)));have nf:(decide (es.size<=8)&&es.all λ e=>(keyPart e.key).isSome)=false:=by
  rw[Bool.and_eq_false_iff];right;rw[<-Array.all_toList];cases hl:es.toList with
  |nil=>have:=congrArg zCV hl;simp at this;rw[this]at h0;exact absurd h0 (by simp)
  |cons e l=>
   obtain⟨a,e1,_⟩:=hk e (by rw[hl];exact zAJ);rw[zDX,e1];rfl
 dsimp only;rw[nf,if_pos zFc];refine zAB (zBd rc.1 rc.2.2 ?_);rw[if_pos (by rfl)];refine zAB (aGq r hk hn ?_);rw[if_pos (by rw[Array.isEmpty,decide_eq_false (zBr h0)];rfl)];refine zAB (wpAny_updateDictKeysTo rc.1 rc.2.2 (zAH (q _ _ (ec+1) ⟨zEJ _ rc.1 (Obj.isFreed_of_dict (zGd rc.2.2 _)),rc.2.1.mapDictKeys _,zGd rc.2.2 _⟩ (zCv ..))) (by lia))
def aGt{Q:Value->zAG->Prop}(hS:(d==zAz)=false)(r:Raw s.heap d o es ep)(hz:es.size<=zAO)(h0:0<es.size)(hk:∀e∈es.toList,∃a,e.key= .ref a/\s.TypeIs (.ref a) "tuple")(hn:∀e∈es.toList,(es.filter (·.hash==e.hash)).size<=1)
  (q:∀h' o' ep',Raw h' s.heap.objs.size o' es ep'->zBa s.heap.objs.size (s.heap.push {cls:=.type "dict",data:=.dict #[]}) h'->Q (.ref s.heap.objs.size) {s with heap:=h'}):wpAny (model prog w) A (call (.type "dict") [.ref d]) Q E s:=by
 have hp:∀b u,s.heap.get? b=some u->(s.heap.push {cls:=.type "dict",data:=.dict #[]}).get? b=some u:=λ b u e=>zAC _ e
 have r1:Raw (s.heap.push {cls:=.type "dict",data:=.dict #[]}) d o es ep:=⟨hp _ _ r.1,r.2⟩;have rn:=aJa s.heap;refine callType_codes (Q₁:=λ obj zI=>obj= .ref s.heap.objs.size/\zI={s with heap:=s.heap.push {cls:=.type "dict",data:=.dict #[]}}) F.kt_called_dict (F.kt_typeCall_dict_1 _) F.entry_dict_init (kt_code_dict_new _ ⟨rfl,rfl⟩) ?_;rintro _ _ ⟨rfl,rfl⟩;have tn:zCk {s with heap:=s.heap.push {cls:=.type "dict",data:=.dict #[]}} (.ref s.heap.objs.size) "dict":=⟨_,rn.1,rfl⟩;have td:zCk {s with heap:=s.heap.push {cls:=.type "dict",data:=.dict #[]}} (.ref d) "dict":=⟨o,r1.1,r.2.1.1⟩;have ne:s.heap.objs.size≠d:=λ e=>absurd (zA2 r.1) (by rw[e];exact zBF _)
 refine⟨tn,F.args_dict_init_2 _ _,?_⟩;unfold zDR.«dict.__init__» Builtin.Dict.selfAndRest;refine zAB (zAB (zEd tn ?_));refine zAH (?_:wpAny _ _ (zEl "dict.__init__" s.heap.objs.size (.ref d) [] .none) _ _ _);unfold zEl;refine zAB (zDx td ?_);rw[if_neg (by decide)];unfold Builtin.Dict.merge Builtin.Dict.readDirectly;refine zAB (zAB (zAB (zFs td isSubtype_dict_dict ?_)));simp only[zHg,zBq,if_false];refine zAB (zGM td F.slot_dict_iter.lookup (zAH ?_));simp only[beq_self_eq_true,if_true];refine zAB (zAH (aFL ne hS r1 rn hz h0 (λ e he=>?_) hn λ h' o' ep' r' s'=>?_))
 .obtain⟨a,e1,u,e2,e3⟩:=hk e he
  exact⟨a,e1,u,hp _ _ e2,e3⟩
 .show wpAny _ _ (Builtin.Dict.addKeywords s.heap.objs.size []>>=_) _ _ _
  exact zAB (zAH (zAH ⟨rfl,q h' o' ep' r' s'⟩))
end
def sI(ks vs:List D):Option (List (List Int×Int)):=match ks with
 | .non::_=>(match xT ks vs with
  |some ps=>(intsOf (ps.map (·.2))).map λ js=>(ps.map (·.1)).zip js
  |none=>none)
 |_=>none
def zu(K:zAA)(H:Hp)(es:List Ent)(l:List (List Int×Int)):Prop:=(es.map λ e=>(e.1,e.2.2))=(l.map λ p=>(p.1,V.int p.2))/\(es.map (·.1)).Nodup/\∀e∈es,SqT K H e.2.1 (e.1.map V.int)
theorem aIY:∀{es:List Ent} {ks:gV} {js:List Int},es.map (·.1)=ks->es.map (·.2.2)=js.map V.int->(es.map λ e=>(e.1,e.2.2))=((ks.zip js).map λ p=>(p.1,V.int p.2))
 |[],_,[],rfl,_=>rfl
 |[],_,_::_,_,h=>by cases h
 |_::_,_,[],_,h=>by cases h
 |e::es,_,j::js,rfl,h=>by
  rw[zAD,zAD]at h;injection h with h1 h2
  rw[zAD,zAD,zAy,zAD,aIY rfl h2,<-h1]
def Rp.itx_dct{K:zAA}(r:Rp K A H v (.dct ks vs))(h:sI ks vs=some l):∃a es,v= .ref a/\H a=some (dxO a es)/\zu K H es l/\A a:=by
 unfold sI at h;split at h
 .rename_i ks2
  cases hp:xT (.non::ks2) vs with
  |none=>rw[hp]at h;cases h
  |some ps=>
   rw[hp]at h;dsimp only at h;cases hj:intsOf (ps.map (·.2))with
   |none=>rw[hj]at h;cases h
   |some js=>
    rw[hj]at h;cases h;obtain⟨a,es,rfl,g,m,q,hk⟩:=r.dctX_inv hp;rw[bQ hj]at q;rcases g with g|⟨_,g⟩
    .exact⟨a,es,rfl,g.at_,⟨aIY hk q.ints_of,g.nd,g.ks⟩,m⟩
    .generalize hd:D.dct (.non::ks2) vs=d at r
     cases r with
     |dT hh m r=>rw[hh.at_]at g;cases g
     |dK hh m r=>
      rename_i kvs ds;injection hd with q1 q2
      cases kvs with
      |nil=>cases q1
      |cons p ps=>
       obtain⟨p1,p2⟩:=p;cases p1<;>cases q1
     |_=>cases hd
 .cases h
def aBg(i:Nat)(u:En->Ou):En->Ou:=λ ρ=>match ρ[i]? with
 |some (.ow (.dct ks vs))=>(match sI ks vs with
  |some l=>u (ρ.set i (.sh (.itx none l)))
  |none=>.st)
 |_=>.st
def aI1{X:Cx}{iX:hZ}{Z:L2.St}{H:Hp}{s:zAG}{a:Addr}{es:List Ent}(I:Inv X iX Z H s)(ha:H a=some (dxO a es)):∃o ts ep,s.heap.get? a=some o/\o.data= .dict ts ep:=by
 obtain⟨⟨hl,hd,xs,o,ts,ep,pr,h1,h2,h3,h4⟩,_⟩:=(show bw X.prog X.w H s.heap a (dxO a es)from I.hok a _ ha);exact⟨o,ts,ep,h1,h3⟩
def zu.frz{K:zAA}{H:Hp}{a:Addr}{es:List Ent}{o u:HO}(h:zu K H es l)(ha:H a=some o)(hm:gW o=true):zu K (upd H a u) es l:=
 ⟨h.1,h.2.1,λ e he=>mX (λ b q ne hb=>by rw[aW ne];exact hb) ha hm (h.2.2 e he)⟩
def aGV{C:Ct}{sx:Stmt}{u:En->Ou}(i:Nat)(h:SS C sx u):SS C sx (aBg i u):=by
 obtain⟨ts,p1,p2⟩:=h;refine⟨λ D Z H=>∃a es,H a=some (dxO a es)/\∀o tb ep,o.data= .dict tb ep->ts D Z (upd H a (.frz o (dxO a es))),λ j iX s Z H D I ⟨a,es,ha,q⟩=>?_,λ τ Z H ρ lab De R W=>?_⟩
 .obtain⟨o,tb,ep,e1,e2⟩:=aI1 I ha
  exact p1 j iX s Z _ D (Inv.froze I rfl ha e1) (q o tb ep e2)
 .unfold aBg at W
  cases es:ρ[i]? with
  |none=>rw[es]at W;exact zAI W
  |some sl=>
   rw[es]at W;split at W
   .rename_i ks vs hs
    cases hs;rcases R.sl i _ es with z|⟨v,ev,hv1,htop⟩
    .cases z
    .cases hl:sI ks vs with
     |none=>rw[hl]at W;exact zAI W
     |some l=>
      rw[hl]at W;dsimp only at W;obtain⟨a0,ea0,la0⟩:=htop rfl;subst ea0;obtain⟨a1,ee,e1,g,ek,_⟩:=hv1.itx_dct hl;cases e1;refine⟨a0,ee,g,λ o dd ep hd=>?_⟩;have B:jC a0 H (upd H a0 (.frz o (dxO a0 ee))):=λ b' q ne hb=>by rw[aW ne];exact hb
      obtain⟨k1,k2,k3⟩:=ek.frz (u:=.frz o (dxO a0 ee)) g rfl;exact p2 τ Z _ _ lab De (R.mut (s':=.sh (.itx none l)) ev g rfl la0 B (Rp.itx ⟨o,dd,ep,ee,hd,.inl rfl,k1,k2,k3,aX⟩)) W
   .exact zAI W
def aNl(f:En->Rs D):En->Rs D:=λ ρ=>(f ρ).bd λ d=>match d with
 | .dct ks vs=>(match sI ks vs with
  |some l=>.ok (.itx none l)
  |none=>.st)
 |_=>.st
section
variable{C:Ct}{e a b:Expr}{f:En->Rs D}
def aJZ(h:SE C (some []) e f):SE C (some []) e (aNl f):=by
 obtain⟨t,h1,h2⟩:=h;refine⟨λ Z H Q=>t Z H λ x H1=>∃a es,x= .ref a/\H1 a=some (dxO a es)/\∀o tb ep,o.data= .dict tb ep->Q x (upd H1 a (.frz o (dxO a es))),λ j iX s Z H Q I h=>?_,λ τ Z H ρ lab Q R W=>?_⟩
 .refine thn (h1 j iX s Z H _ I h) λ v s1 ⟨x,H1,I1,r1,a,es,ex,ha,q⟩=>?_
  obtain⟨o,tb,ep,e1,e2⟩:=aI1 I1 ha;exact⟨x,_,Inv.froze I1 rfl ha e1,r1,q o tb ep e2⟩
 .refine h2 τ Z H ρ lab _ R (W.bd.imp λ d _ w x H1 s1 r1=>?_)
  cases d with
  |dct ks vs=>
   dsimp only at w;cases hl:sI ks vs with
   |none=>rw[hl]at w;exact zAI w
   |some l=>
    rw[hl]at w;obtain⟨a,es,rfl,g,ek,ma⟩:=r1.itx_dct hl;have hn:H a=none:=by
     rcases ma with z|z
     .exact z
     .cases z
    refine⟨a,es,rfl,g,λ o tb ep hd=>w _ _ (λ b q hb=>?_) ?_⟩
    .rw[aW λ z=>by rw[z,hn]at hb;cases hb]
     exact s1 b q hb
    .obtain⟨k1,k2,k3⟩:=ek.frz (u:=.frz o (dxO a es)) g rfl
     exact .itx ⟨o,tb,ep,es,hd,.inl rfl,k1,k2,k3,aX⟩
  |_=>exact zAI w
end
def Rp.itx_inv{K:zAA}(r:Rp K A H v (.itx oo l)):∃a,v= .ref a/\gY K H a oo l:=by cases r with|itx h=>exact⟨_,rfl,h⟩
theorem gY.ep{K:zAA}(h:gY K H a oo l):∃ep,gY K H a (some ep) l/\(oo=none\/oo=some ep):=let⟨o,ts,ep,es,y,z,q,n,k,e⟩:=h;⟨ep,⟨o,ts,ep,es,y,.inr rfl,q,n,k,e⟩,z⟩
def aHt{K:zAA}{H:Hp}{es:List Ent}{xs:List (List Int×Addr×Value)}(p:DxP es xs):∀{l:List (List Int×Int)},(es.map λ e=>(e.1,e.2.2))=(l.map λ p=>(p.1,V.int p.2))->(∀e∈es,SqT K H e.2.1 (e.1.map V.int))->∀{i:Nat} {q:List Int×Int},l[i]? =some q->∃b t,xs[i]? =some (q.1,b,zDB q.2 t)/\SqT K H b (q.1.map V.int):=by
 unfold DxP at p;induction p with
 |nil=>
  intro l h _ i q hq;cases l with
  |nil=>simp at hq
  |cons x l=>cases h
 |cons r t ih=>
  rename_i e x es xs;intro l h ks i q hq;cases l with
  |nil=>cases h
  |cons y l=>
   rw[zAD,zAD]at h;injection h with h1 h2
   cases i with
   |zero=>
    have:y=q:=by simpa using hq
    subst this;obtain⟨k1,k2,k3⟩:=r;injection h1 with h3 h4
    rw[h4]at k3;obtain⟨tk,e3⟩:=k3;obtain⟨x1,x2,x3⟩:=x;dsimp only at k1 k2 e3;subst e3;refine⟨x2,tk,?_,?_⟩
    .rw[zAv,<-k1,h3]
    .rw[<-k2,<-h3];exact ks e zAJ
   |succ i=>exact ih h2 (λ e he=>ks e (zAR _ he)) (by simpa using hq)
def uh{X:Cx}{iX:hZ}{Z:L2.St}{H:Hp}{s:zAG}{a:Addr}(I:Inv X iX Z H s)(h:gY X.K H a (some ep) l):∃o ts es xs,Raw s.heap a o ts ep/\(a==zAz)=false/\l.length<=zAO/\ts.size=l.length/\zu X.K H es l/\DxP es xs/\ts.toList=(xs.map λ x=>(⟨hsh x.1,.ref x.2.1,x.2.2⟩:zDZ))/\∀(i:Nat) q,l[i]? =some q->∃b t,ts[i]? =some ⟨hsh q.1,.ref b,.int q.2 t⟩/\SqT X.K H b (q.1.map V.int):=by
 obtain⟨o,ts,ep',es,hd,hz,he,nd,ks,ha⟩:=h;rcases hz with hz|hz
 .cases hz
 cases hz;obtain⟨ho,⟨hl,hsys,xs,o2,ts2,ep2,pr,h1,h2,h3,h4⟩,_⟩:=(show bw X.prog X.w H s.heap a (.frz o (dxO a es))from I.hok a _ ha);rw[ho]at h1;cases h1;rw[hd]at h3;cases h3;have hel:es.length=l.length:=by have:=congrArg zCV he;simpa using this
 have hxl:xs.length=es.length:=(zDN pr).symm;refine⟨o,ts,es,xs,⟨ho,h2,hd⟩,hsys,by lia,?_,⟨he,nd,ks⟩,pr,h4,λ i q hq=>?_⟩
 .have:=congrArg zCV h4
  simp at this;lia
 .obtain⟨b,t,e1,e2⟩:=aHt pr he ks hq
  refine⟨b,t,?_,e2⟩;rw[<-zFz,h4,zAP,e1];rfl
def aOI(K:zAA)(a:Addr)(ep:Nat)(l:List (List Int×Int)):It:=
 ⟨λ i H=>i<l.length/\gY K H a (some ep) l,λ i H x H'=>∃p b q,x= .ref p/\H p=none/\H'=upd H p (.tup [.ref b,.int q.2])/\l[i]? =some q/\SqT K H b (q.1.map V.int),λ i H=>l.length<=i/\gY K H a (some ep) l⟩
def aBi{P:zAY}{w:World}{K:zAA}{x1:Nat}{elts:List Expr}{ps:Pos}(a it:Addr)(ep:Nat)(l:List (List Int×Int)):Turn P w K (.Tuple elts x1 ps) (aOI K a ep l) [it] it (λ i h=>∃ok ov,zDS h it a i l.length ep ok ov) where
 mem:=by simp
 obj:=λ i h st b hb=>by
  obtain⟨ok,ov,he⟩:=st
  have:b=it:=by simpa using hb
  subst this;exact⟨_,he,λ v z=>by cases z⟩
 keep:=λ i h h' st k=>let⟨ok,ov,he⟩:=st;⟨ok,ov,k it (by simp) _ he⟩
 item:=by
  intro X hP hw hK hc i iX s Z H E I hf st hg;subst hP hw hK;obtain⟨hlt,hz⟩:=hg;obtain⟨o,ts,es,xs,r,hsys,_,hsz,_,_,_,rows⟩:=uh I hz;obtain⟨ok,ov,he⟩:=st;obtain⟨q,hq⟩:∃q,l[i]? =some q:=⟨l[i],by simp[hlt]⟩
  obtain⟨b,t,hv,hb⟩:=rows i q hq;have hi:i<ts.size:=by lia
  have ev:ts[i]=⟨hsh q.1,.ref b,.int q.2 t⟩:=by
   rw[zC2 hi]at hv;exact zAe hv
  rw[<-hsz]at he;refine aJ9 he r hi λ h' ho hT hs hk=>⟨_,rfl,?_⟩
  rw[ev]at ho hT;dsimp only at ho hT;have hel:it<s.heap.objs.size:=zA2 he;refine zGL ho λ h2 he2 hs2=>⟨.ref s.heap.objs.size,upd H s.heap.objs.size (.tup [.ref b,.int q.2]),?_,rfl,⟨_,b,q,rfl,I.hok.fresh (zAV _),rfl,hq,hb⟩,⟨_,_,by rw[<-hsz];exact he2⟩,λ b hb=>?_⟩
  .exact aC6 (s:=s) (h':=h2) (t':=s.toks) I hf (λ b u hb q=>(hs2.2 b λ z=>hb (by simp[z])).trans (hk b u (λ z=>hb (by simp[z])) q)) (zAV _) ⟨⟨by simp[zB3],NoD.at ((hs2.2 _ (zBr hel)).trans hT)⟩,[.ref b,.int q.2 t],.cons rfl (.cons ⟨_,rfl⟩ .nil),_,(hs2.2 _ (zBr hel)).trans hT,rfl,_,rfl⟩
  .have:=(hf b hb).1
   rw[aW]
   .exact this
   .rintro rfl
    have q2:s.heap.objs.size=it:=by simpa using hb
    exact absurd hel (by rw[<-q2];exact zBF _)
 done:=by
  intro X hP hw hK hc i iX s Z H E I hf st hg;subst hP hw hK;obtain⟨hle,hz⟩:=hg;obtain⟨o,ts,es,xs,r,hsys,_,hsz,_⟩:=uh I hz;obtain⟨ok,ov,he⟩:=st;rw[<-hsz]at he;obtain⟨f0,f1,f2,f3,f4,f5⟩:=hf it (by simp);exact aGs (I.ok.hd hc) he r (by lia) λ h' he'=>⟨rfl,I.turned (t':=s.toks) (λ b o hb q=>he' b o hb q) f0 f1 f3 f4 f5⟩
 self:=λ _ _ _ _ _ st h=>let⟨_,_,he⟩:=st;zGg he h
def aPC(K:zAA)(te:TE):TI:=λ Z H R=>te Z H λ x H1=>∃a ep l,x= .ref a/\gY K H1 a (some ep) l/\R (aOI K a ep l) H1
def aEP{s:zAG}{a:Addr}{o:Obj}{ts:Array zDZ}{ep:Nat}(r:Raw s.heap a o ts ep):∀b,zAs a= .ref b->∃ob,s.heap.get? b=some ob/\ob.dict=none:=λ b e=>by cases e;exact⟨o,r.1,r.2.1.2.1⟩
def aFV{X:Cx}{x1:Nat}{elts:List Expr}{ps apos cpos:Pos}{o:Expr}{te:TE}(ho:PE X o te)(hbase:zB2 o "items" X.env (eval o X.env)=eval o X.env:=by rfl)(hline:(apos.endLine==cpos.line)=true:=by rfl):
  PI X (.Tuple elts x1 ps) (.Call (.Attribute o "items" apos) [] [] cpos) (aPC X.K te):=by
 intro iX s Z H R I h;refine zEV hbase hline (thn (ho iX s Z H _ I h) λ v s1 ⟨x,H1,I1,r1,a,ep,l,ex,hz,q⟩=>?_);subst ex;cases r1;obtain⟨ob,ts,es,xs,r,hsys,_,hsz,_⟩:=uh I1 hz;refine⟨"dict","dict.items",zCh,zCi,zF4,r.ty,aEP r,zCM rfl (zE2 ?_)⟩;refine zFg zCi r.ty zFW (zFJ _) (aFO hsys) ⟨⟨ob,ts,ep,r⟩,?_⟩;have hlt:=zA2 r.1;refine aFN (v:=s1.heap.objs.size) (d:=a) ⟨_,zAN _ rfl,rfl,rfl⟩ ⟨zAC _ r.1,r.2⟩ ?_;have hk:∀(o1 o2:Obj) b u,s1.heap.get? b=some u->((s1.heap.push o1).push o2).get? b=some u:=λ o1 o2 b u e=>zAC _ (zAC _ e)
 have hle:∀o1:Obj,s1.heap.objs.size<=(s1.heap.push o1).objs.size:=λ o1=>by rw[zBU];exact zCz _
 refine⟨_,[_],_,aOI X.K a ep l,H1,rfl,I1.kept (t':=s1.toks) (hk _ _),aBi a _ ep l,⟨.none,.none,?_⟩,λ b hb=>?_,q⟩
 .show _=_
  rw[<-hsz];exact zAN _ rfl
 .have e:b=_:=zAM.mp hb
  subst e;exact I1.fpOk (hle _) (I1.hok.fresh (hle _))
def aK5(fo:En->Rs D):En->Rs (List D):=λ ρ=>(fo ρ).bd λ d=>match d with
 | .itx _ l=>.ok (l.map λ p=>.tup [.tup (p.1.map .int),.int p.2])
 |_=>.st
section
variable{C:Ct}{m:Mode}{o:Expr}{fo:En->Rs D}{elts:List Expr}{x1:Nat}{ps apos cpos:Pos}
def aFF(ho:SE C m o fo)(hbase:∀j,zB2 o "items" (C.X j).env (eval o (C.X j).env)=eval o (C.X j).env:=by intro _;rfl)(hline:(apos.endLine==cpos.line)=true:=by rfl):
  SI C (.Tuple elts x1 ps) (.Call (.Attribute o "items" apos) [] [] cpos) (aK5 fo):=by
 obtain⟨t,p1,p2⟩:=ho;refine⟨aPC C.K t,λ i=>by rw[<-C.hK i];exact aFV (p1 i) (hbase i) hline,λ τ Z H ρ lab Rr R W=>p2 τ Z H ρ lab _ R (W.bd.imp λ d _ w x H1 s r=>?_)⟩;cases d with
 |itx oo l=>
  obtain⟨a,rfl,h⟩:=r.itx_inv;obtain⟨ep,h,_⟩:=h.ep;have R1:=R.up s;refine⟨a,ep,l,rfl,h,w _ H1 lab [(.ref a,.itx (some ep) l)] s (λ _ _ _=>rfl) ⟨R1.len,R1.sl,R1.old,R1.new,λ z hz=>?_⟩ λ lab' H' hq=>?_⟩
  .rcases zA1.mp hz with rfl|hz
   .exact .itx h
   .exact R1.tm z hz
  .obtain⟨a',e',F⟩:=(hq _ (zAJ ..)).itx_inv
   cases e';refine λ i=>⟨λ hi=>⟨by simpa using hi,F⟩,λ hi=>⟨⟨by simpa using hi,F⟩,λ x H2 y=>?_⟩⟩
   obtain⟨p,b,q,rfl,hp,rfl,hq2,hb⟩:=y;have sm:=au hp (.tup [.ref b,.int q.2]);exact⟨sm,.tup [.tup (q.1.map .int),.int q.2],by rw[zAP,hq2];rfl,.tup (.inl (.inl aX)) (.cons (.tup (sm.sqt hb) Rps.ints) (.cons (.int _) .nil))⟩
 |_=>exact zAI w
end
def aDl:List D->Rs D
 |[.itx _ l]=>if (l≠[]/\l.length<=zAO)/\(l.map λ p=>hsh p.1).Nodup then .ok (tW (l.map λ p=>(p.1,.int p.2)))else .st
 |_=>.st
def aL7(K:zAA):List V->Hp->VK->Prop:=λ xs H Q=>∃a ep l,xs=[.ref a]/\gY K H a (some ep) l/\l≠[]/\(l.map λ p=>hsh p.1).Nodup/\∀c es,H c=none->zu K H es l->Q (.ref c) (upd H c (dxO c es))
theorem aIW{α β:Type}[BEq β][LawfulBEq β]{f:α->β}{b:β}:∀{l:List α},(l.map f).Nodup->(l.filter λ x=>f x==b).length<=1
 |[],_=>zAi _
 |x::l,h=>by
  obtain⟨h1,h2⟩:=zAj.mp h;rw[zBN];split
  .rename_i e
   rw[zAk,zCt.mpr]
   .exact zAV _
   .intro y hy e2
    have:f x=f y:=(beq_iff_eq.mp e).trans (beq_iff_eq.mp e2).symm
    exact h1 (by rw[this];exact List.mem_map_of_mem hy)
  .exact aIW h2
def aGC{X:Cx}:cZ X (.type "dict") (aL7 X.K):=by
 intro iX s Z H xs us Q I r h;obtain⟨a,ep,l,rfl,hz,h0,hn,q⟩:=h;obtain⟨u,rfl,ru⟩:=vals1 r;cases ru;obtain⟨o,ts,es,xs,rw',hsys,hl,hsz,ek,pr,hts,_⟩:=uh I hz;have hfr:H s.heap.objs.size=none:=I.hok.fresh (zAV _);have hxs:xs.map (·.1)=l.map (·.1):=by
  rw[<-DxP.keys pr]
  have:=congrArg (zGp zDt) ek.1
  simpa[zAQ,zCR]using this
 have hel:es.length=l.length:=by have:=congrArg zCV ek.1;simpa using this
 refine aGt hsys rw' (by lia) (by rw[hsz];exact zGb.mpr h0) (λ e he=>?_) (λ e _=>?_) λ h' o' ep' r' hs=>⟨.ref s.heap.objs.size,upd H s.heap.objs.size (dxO s.heap.objs.size es),I.laid (t':=s.toks) (h':=h') (λ b u e=>(hs.2 b (zA9 (zA2 e))).trans (zAC _ e)) (zAV _) ?_,rfl,q _ es hfr ek⟩
 .rw[hts]at he
  obtain⟨x,hx,rfl⟩:=zA6.mp he;obtain⟨y,hy,e1,e2⟩:=DxP.mem pr x hx;obtain⟨its,_,⟨ob,g1,g2,_⟩,_⟩:=I.tuple (ek.2.2 y hy);exact⟨_,rfl,ob,by rw[<-e2];exact g1,g2⟩
 .rw[<-zB5,Array.toList_filter]
  refine aIW (f:=λ e:zDZ=>e.hash) ?_;rw[hts,zAQ]
  have:(l.map λ p=>hsh p.1)=xs.map λ x=>hsh x.1:=by
   have e1:(l.map λ p=>hsh p.1)=(l.map (·.1)).map hsh:=by rw[zAQ];rfl
   have e2:(xs.map λ x=>hsh x.1)=(xs.map (·.1)).map hsh:=by rw[zAQ];rfl
   rw[e1,e2,hxs]
  exact this▸hn
 .exact⟨⟨by lia,beq_eq_false_iff_ne.mpr (zCq (zA9 I.big)),xs,o',ts,ep',pr,r'.1,r'.2.1,r'.2.2,hts⟩,⟨o',r'.1⟩,λ g1 g2 ⟨hl,hd,xs,o,ts,ep,pr,h1,r⟩ k=>⟨hl,hd,xs,o,ts,ep,pr,k o h1,r⟩⟩
def aEM{K:zAA}{A:Addr->Prop}{H:Hp}{c:Addr}{es:List Ent}{l:List (List Int×Int)}(h:H c=some (dxO c es))(ek:zu K H es l)(m:A c):Rp K A H (.ref c) (tW (l.map λ p=>(p.1,.int p.2))):=by
 have h1:es.map (·.1)=l.map (·.1):=by
  have:=congrArg (zGp zDt) ek.1
  simpa[zAQ,zCR]using this
 have h2:es.map (·.2.2)=(l.map (·.2)).map V.int:=by
  have:=congrArg (zGp zFv) ek.1
  simpa[zAQ,zCR]using this
 have r:=Rp.dT (K:=K) (A:=A) (H:=H) (a:=c) (es:=es) (ds:=(l.map (·.2)).map D.int) ⟨h,ek.2.2,ek.2.1⟩ m (by rw[h2];exact Rps.ints);have e1:(es.map λ e=>D.tup (e.1.map .int))=l.map λ p=>D.tup (p.1.map .int):=by
  rw[show(es.map λ e=>D.tup (e.1.map .int))=(es.map (·.1)).map λ k=>D.tup (k.map .int)by rw[zAQ];rfl,h1,zAQ];rfl
 rw[e1]at r;have e2:tW (l.map λ p=>(p.1,D.int p.2))= .dct (.non::l.map λ p=>D.tup (p.1.map .int)) ((l.map (·.2)).map D.int):=by
  unfold tW;rw[zAQ,zAQ,zAQ];rfl
 rw[e2];exact r
def zu.mono{K:zAA}(h:zu K H es l)(s:aY H H'):zu K H' es l:=⟨h.1,h.2.1,λ e he=>s.sqt (h.2.2 e he)⟩
def aKy{K:zAA}:aAg K (aL7 K) aDl:=by
 intro A xs ds H Q z r ez q;unfold aDl at ez;split at ez
 .split at ez
  .rename_i hl
   cases ez;obtain⟨v,rfl,h⟩:=r.one_inv;obtain⟨a,rfl,hi⟩:=h.itx_inv;obtain⟨ep,hj,_⟩:=hi.ep;exact⟨a,ep,_,rfl,hj,hl.1.1,hl.2,λ c es hc ek=>q _ _ (au hc _) (aEM aX (ek.mono (au hc _)) hc)⟩
  .cases ez
 .cases ez
theorem aDv{K:zAA}{k:List Int}:∀{es:List Ent} {ps:List (List Int×D)},Rps K A H (es.map (·.2.2)) (ps.map (·.2))->es.map (·.1)=ps.map (·.1)->(∃d v,ps.lookup k=some d/\lkE es k=some v/\Rp K A H v d)\/(ps.lookup k=none/\lkE es k=none)
 |[],[],_,_=>.inr ⟨rfl,rfl⟩
 |[],_::_,_,e=>by cases e
 |_::_,[],_,e=>by cases e
 |p::es,q::ps,r,e=>by
  obtain⟨q1,q2⟩:=q;rw[zAD,zAD]at e r;injection e with e1 e2
  cases r with
  |cons h1 r=>
   unfold lkE;rw[zBb,zA7];by_cases c:p.1=k
   .have c2:(k==q1)=true:=by rw[beq_iff_eq,<-c];exact e1
    rw[c2,decide_eq_true c];exact .inl ⟨_,_,rfl,rfl,h1⟩
   .have c2:(k==q1)=false:=by rw[beq_eq_false_iff_ne];exact λ z=>c (e1.trans z.symm)
    rw[c2,decide_eq_false c];exact aDv r e2
def DxP.lkN{k:List Int}(p:DxP es xs)(h:lkE es k=none):atKey xs k=none:=by
 unfold lkE at h;unfold atKey;unfold DxP at p;induction p with
 |nil=>rfl
 |cons q t ih=>
  rename_i e x es xs;rw[zBb]at h ⊢;rw[<-q.1];by_cases c:e.1=k
  .rw[decide_eq_true c]at h
   cases h
  .rw[decide_eq_false c]at h ⊢
   exact ih h
def aFr(fd fk fz:En->Rs D):En->Rs D:=λ ρ=>(fd ρ).bd λ d=>match d with
 | .dct ks vs=>(match xT ks vs with
  |some ps=>(fk ρ).bd λ k=>(fz ρ).bd λ z=>(match yC k with
   |some i=>if imm z=true then .ok ((ps.lookup i).getD z)else .st
   |_=>.st)
  |none=>.st)
 |_=>.st
def aGO(K:zAA)(td ty tx:TE):TE:=λ Z H Q=>td Z H λ x H1=>∃a es,x= .ref a/\DxO K H1 a es/\ty Z H1 λ y H2=>tx Z H2 λ z H3=>∃b k,y= .ref b/\SqT K H3 b (k.map V.int)/\DxO K H3 a es/\Q ((lkE es k).getD z) H3
def aHO{X:Cx}{o e f:Expr}{apos cpos:Pos}{td ty tx:TE}(hu:X.A.units+1<cLine)(ho:PE X o td)(he:PE X e ty)(hf:PE X f tx)(m:M2 X o "get" apos e f cpos):PE X (.Call (.Attribute o "get" apos) [e,f] [] cpos) (aGO X.K td ty tx):=by
 intro iX s Z H Q I h;refine wpAny_Call_method m.base m.few m.line zCh zFk PySem.F.type_dict_get (thn (ho iX s Z H _ I h) λ u s1 ⟨x,H1,I1,rx,a,es,ex,hD,q1⟩=>?_);subst ex;obtain rfl:u=zAs a:=rx;obtain⟨hd,xs,pr,dd⟩:=aEn I1 hD;refine⟨dd.typeIs,dictOfH_noDict dd,?_⟩;rw[m.trees];refine zCM rfl (zEQ (zE7 (thn (he iX s1 Z H1 _ I1 q1) λ iv s2 ⟨y,H2,I2,ry,q2⟩=>
  zE7 (thn (hf iX s2 Z H2 _ I2 q2) λ fv s3 ⟨z,H3,I3,rz,b,k,ey,hb,hD3,q3⟩=>zGl ?_))))
 subst ey;obtain rfl:iv=zAs b:=ry;obtain⟨hd,xs,pr,dd⟩:=aEn I3 hD3;refine zFg zFk dd.typeIs PySem.F.entry_dict_get (PySem.F.args_dict_get_3 _ _ _) (meetsH_dict_get_default (zDE (zD5 X.prog X.w)) a b hd fv) ⟨zC0 hu,k,xs,aK3 I3 hb,dd,_,H3,I3.tok _,?_,q3⟩;cases hl:lkE es k with
 |none=>rw[pr.lkN hl];exact rz
 |some v=>
  obtain⟨p,hp,rp⟩:=pr.lk hl;rw[hp];exact rp
section
variable{C:Ct}{m1 m2 m3:Mode}{a b c:Expr}{fa fb fc:En->Rs D}{apos cpos pos p:Pos}{x:Str}
def aJ0(ha:SE C m1 a fa)(hb:SE C m2 b fb)(hc:SE C m3 c fc)(hm:∀j,M2 (C.X j) a "get" apos b c cpos:=by intro _;exact⟨rfl,rfl,rfl,rfl⟩):SE C m1 (.Call (.Attribute a "get" apos) [b,c] [] cpos) (aFr fa fb fc):=by
 obtain⟨t,h1,h2⟩:=ha;obtain⟨u,k1,k2⟩:=hb;obtain⟨v,l1,l2⟩:=hc;refine⟨aGO C.K t u v,λ i=>by rw[<-C.hK i];exact aHO (by have:=(C.room i).un;lia) (h1 i) (k1 i) (l1 i) (hm i),λ τ Z H ρ lab Q R W=>?_⟩;refine h2 τ Z H ρ lab _ R (W.bd.imp λ d _ w x H1 s1 r1=>?_);cases d with
 |dct ks vs=>
  dsimp only at w;cases hp:xT ks vs with
  |none=>rw[hp]at w;exact zAI w
  |some ps=>
   rw[hp]at w;dsimp only at w;obtain⟨a,es,rfl,g1,m,r,hk⟩:=r1.dctX_inv hp;refine⟨a,es,rfl,g1,?_⟩;refine k2 τ Z H1 ρ lab _ (R.up s1) (w.bd.imp λ e _ w y H2 s2 r2=>?_);refine l2 τ Z H2 ρ lab _ ((R.up s1).up s2) (w.bd.imp λ z _ w zv H3 s3 r3=>?_);cases hke:yC e with
   |none=>rw[hke]at w;exact zAI w
   |some k=>
    rw[hke]at w;dsimp only at w;by_cases hz:imm z=true
    .rw[if_pos hz]at w
     rw[ug hke]at r2;obtain⟨b,xs,rfl,hb1,hb2⟩:=(r2.up s3).tup_inv;have exs:=hb2.ints_of;subst exs;have g3:DxO C.K H3 a es:=g1.elim (λ z=>.inl (z.mono (s2.trans s3))) λ z=>.inr ⟨z.1,(s2.trans s3) _ _ z.2⟩
     refine⟨b,k,rfl,hb1,g3,?_⟩;rcases aDv (k:=k) (r.up (s2.trans s3)) hk with ⟨d,v,e1,e2,e3⟩|⟨e1,e2⟩
     .rw[e1]at w
      rw[e2];exact w v H3 ((s1.trans s2).trans s3) (e3.wk λ p o _ q=>q.1)
     .rw[e1]at w
      rw[e2];exact w zv H3 ((s1.trans s2).trans s3) (r3.imm hz)
    .rw[if_neg hz]at w
     exact zAI w
 |_=>exact zAI w
def aJ2{ga:En->Rs (List D)}(hm:C.mg "dict"=none)(ha:SA C m1 [a] ga)(he:∀i,zAT [a] (C.X i).env=[(false,eval a (C.X i).env)]:=by intro _;rfl)(hg:∀i,Gl (C.X i) "dict":=by intro _;rfl)(hv:zAp "dict"=some (.type "dict"):=by decide+kernel):SE C (some []) (.Call (.Name "dict" p) [a] [] pos) (opA aDl ga):=by
 obtain⟨t,h1,h2⟩:=ha;exact⟨_,λ i=>gq (by rw[<-C.hK i];exact aGC) (hg i) (by rw[(C.cx i).2.2.2.1];exact hm) hv (h1 i) (by decide) (by decide) (he i) rfl,rG aKy h2⟩
def aNr(fk fv:En->Rs D):En->Rs D:=λ ρ=>(fk ρ).bd λ k=>(fv ρ).bd λ d=>match yC k,d with
 |some i,.int j=>.ok (tW [(i,.int j)])
 |_,_=>.st
def aOQ(K:zAA)(tk tv:TE):TE:=λ Z H Q=>∀D,H D=none->tk Z (upd H D (.dK [])) λ y H1=>tv Z H1 λ v H2=>∃b k j,y= .ref b/\v= .int j/\SqT K H2 b (k.map V.int)/\H2 D=some (.dK [])/\Q (.ref D) (upd H2 D (dxO D [(k,b,.int j)]))
def aMq{X:Cx}{kx vx:Expr}{pos:Pos}{tk tv:TE}(hu:X.A.units<cLine)(hk:PE X kx tk)(hv:PE X vx tv):PE X (.Dict [some kx] [vx] pos) (aOQ X.K tk tv):=by
 intro iX s Z H Q I h;have hfr:H s.heap.objs.size=none:=I.hok.fresh (zAV _);have hd0:(s.heap.objs.size==zAz)=false:=beq_eq_false_iff_ne.mpr (zCq (zA9 I.big));have I0:Inv X iX Z (upd H s.heap.objs.size (.dK [])) {s with heap:=s.heap.push {cls:=.type "dict",data:=.dict #[]}}:=
  I.laid (t':=s.toks) (λ b u e=>zAC _ e) (zAV _) ⟨zAi _,hd0,[],.nil,zE8 _⟩
 refine wpAny_Dict_any rfl rfl (by simp) (zCY rfl) (zAB (thn (hk iX _ Z _ _ I0 (h _ hfr)) λ u s1 ⟨y,H1,I1,r1,q1⟩=>zAB (zBS (zAB (thn (hv iX s1 Z H1 _ I1 q1) λ u2 s2 ⟨v,H2,I2,r2,b,k,j,ey,ev,hb,hD,q⟩=>zAB (zDe (zAH ?_)))))));subst ey ev;cases r1;refine zAB (zBS (zAH (zAH ?_)));unfold storeAll;rw[zH0];obtain⟨hd,xs,pr,dd⟩:=aEn I2 (.inr ⟨rfl,hD⟩);cases pr;refine zAB (zAB (wpAny_dictSet_heap (hsz:=zAi _) (show(zDE (zD5 X.prog X.w)).room X.A from hu) (aK3 I2 hb) dd λ h' dd' hs=>zAH ?_));dsimp only;rw[List.forIn_nil];refine zAH ⟨.ref s.heap.objs.size,_,?_,rfl,q⟩;obtain⟨o,ts,ep,h1,r⟩:=id dd';exact I2.write (x:=s.heap.objs.size) (e:=s.heap.objs.size) (by rw[hD];exact trivial) (.inl rfl) (λ b' u hb hu=>(hs.2 b' hb).trans hu) ⟨o,h1⟩ (aI2 (es:=[(k,b,.int j)]) (by rw[zB3];exact zCY rfl) hd (.cons ⟨rfl,rfl,r2⟩ .nil) dd')
def aMS{kx vx:Expr}{fk fv:En->Rs D}(hk:SE C m1 kx fk)(hv:SE C m2 vx fv):SE C (some []) (.Dict [some kx] [vx] pos) (aNr fk fv):=by
 obtain⟨t,h1,h2⟩:=hk;obtain⟨u,k1,k2⟩:=hv;refine⟨aOQ C.K t u,λ i=>by rw[<-C.hK i];exact aMq (by have:=(C.room i).un;lia) (h1 i) (k1 i),λ τ Z H ρ lab Q R W D hD=>?_⟩;have s0:=au hD (.dK []);refine h2 τ Z _ ρ lab _ (R.up s0) (W.bd.imp λ k _ w y H1 s1 r1=>?_);refine k2 τ Z H1 ρ lab _ ((R.up s0).up s1) (w.bd.imp λ d _ w v H2 s2 r2=>?_);cases hk:yC k with
 |none=>rw[hk]at w;exact zAI w
 |some kk=>
  rw[hk]at w;cases d with
  |int j=>
   rw[ug hk]at r1;obtain⟨b,xs,rfl,hb1,hb2⟩:=(r1.up s2).tup_inv;have exs:=hb2.ints_of;subst exs;have ev:=r2.int_inv;subst ev;have h2D:H2 D=some (.dK []):=(s1.trans s2) _ _ aX;refine⟨b,kk,j,rfl,rfl,hb1,h2D,w _ _ (λ p o hp=>?_) ?_⟩
   .rw[aW λ z=>by rw[z,hD]at hp;cases hp]
    exact((s0.trans s1).trans s2) p o hp
   .refine aEM (l:=[(kk,j)]) aX ⟨rfl,by simp,λ e he=>?_⟩ (.inl hD)
    rw[zAM.mp he];exact mX (λ b q ne hb=>by rw[aW ne];exact hb) h2D rfl hb1
  |_=>exact zAI w
end
def aEu{prog:zAY}{w:World}{A:zAc}{o:Obj}{ts:Array zDZ}(hh:A.handled=none)(it d:Addr)(hne:d≠it)(ep:Nat):
  Walks prog w A it [it,d] [it] ts.size (λ i v=>∃e,ts[i]? =some e/\v=e.val) (λ i h=>h.IsValIter it d i ts.size ep/\Raw h d o ts ep) where
 sub:=λ b hb=>by rw[zAM.mp hb];exact zAJ
 frame:=λ _ _ _ st hk=>⟨st.1.at (hk it zAJ),hk d (by simp) _ st.2.1,st.2.2⟩
 item:=λ i s Q E hi st hQ=>aJ8 st.1 st.2 hi λ h' t' sb=>hQ _ h' s.toks ⟨ts[i],by simp[hi],rfl⟩ ⟨t',(sb.2 d hne).trans st.2.1,st.2.2⟩ λ b u hb e=>sb.extBut b u (λ z=>hb (by simp[z])) e
 done:=λ s Q E st hQ=>aGr hh st.1 st.2 (zAV _) λ h' eb=>hQ h' s.toks λ b u hb e=>eb b u (λ z=>hb (by simp[z])) e
 self:=λ _ _ _ _ st hQ=>wpAny_pyIter_valiter st.1 hQ
def aLO(K:zAA)(te:TE):TE:=λ Z H Q=>te Z H λ x H1=>∃a l,x= .ref a/\gY K H1 a none l/\∀v,H1 v=none->Q (.ref v) (upd H1 v (aLN v a))
def aJu{X:Cx}{apos cpos:Pos}{o:Expr}{te:TE}(ho:PE X o te)(hbase:zB2 o "values" X.env (eval o X.env)=eval o X.env:=by rfl)(hline:(apos.endLine==cpos.line)=true:=by rfl):
  PE X (.Call (.Attribute o "values" apos) [] [] cpos) (aLO X.K te):=by
 intro iX s Z H R I h;refine zEV hbase hline (thn (ho iX s Z H _ I h) λ v s1 ⟨x,H1,I1,r1,a,l,ex,hz,q⟩=>?_);subst ex;cases r1;obtain⟨ep,hz,_⟩:=hz.ep;obtain⟨ob,ts,es,xs,r,hsys,_,hsz,_⟩:=uh I1 hz;refine⟨"dict","dict.values",zCh,zFX,PySem.F.type_dict_values,r.ty,aEP r,zCM rfl (zE2 ?_)⟩;refine zFg zFX r.ty PySem.F.entry_dict_values (PySem.F.args_dict_values_1 _) (aDP hsys) ⟨⟨ob,ts,ep,r⟩,⟨.ref s1.heap.objs.size,_,I1.laid (t':=s1.toks) (λ b o e=>zAC _ e) (zAV _) ?_,rfl,q _ (I1.hok.fresh (zAV _))⟩⟩;exact⟨⟨_,zAN _ rfl,rfl,rfl⟩,⟨_,zAN _ rfl⟩,λ h1 h2 ⟨o,e,r⟩ k=>⟨o,k o e,r⟩⟩
def aO9(K:zAA):List V->Hp->VK->Prop:=λ xs H Q=>∃v a ep l m,xs=[.ref v]/\H v=some (aLN v a)/\gY K H a (some ep) l/\(l.map (·.2)).max?=some m/\Q (.int m) H
def aIe{X:Cx}(hc:X.calm=true):cZ X (.builtin "max") (aO9 X.K):=by
 intro iX s Z H xs us Q I r h;obtain⟨v,a,ep,l,m,rfl,hv,hz,hm,q⟩:=h;obtain⟨u,rfl,ru⟩:=vals1 r;cases ru;have hview:s.heap.IsValuesView v a:=(I.hok v _ hv).1;obtain⟨ob,ts,es,xs,r,hsys,_,hsz,_,_,_,rows⟩:=uh I hz;obtain⟨ns,hns⟩:∃ns,ns=l.map (·.2):=⟨_,rfl⟩
 rw[<-hns]at hm;have hlt:=zA2 r.1;have kQ:ns.length=ts.size:=by rw[hns,zAF,hsz]
 have h0:0<ts.size:=by
  rw[<-kQ];cases ns with
  |nil=>cases hm
  |cons a b=>simp
 have hat:∀(i:Nat) v,(∃e,ts[i]? =some e/\v=e.val)->∃t,v= .int (ns.getD i 0) t:=λ i v ⟨e,he,hv⟩=>by
  have hi:i<l.length:=by
   rw[<-hsz];rcases Nat.lt_or_ge i ts.size with z|z
   .exact z
   .rw[zDy z]at he;cases he
  obtain⟨b,t,e1,_⟩:=rows i l[i] (by simp[hi]);rw[he]at e1;cases e1;exact⟨t,by rw[hv,hns,zA0,zAP,zAE hi];rfl⟩
 refine call_max_walk (aFM hview r ?_);refine⟨_,_,_,_,_,_,_,rfl,aEu (ts:=ts) (A:=X.A.in1) (I.ok.hd hc) _ a (zA9 hlt) ep,⟨⟨_,zAN _ rfl,rfl,rfl⟩,zAC _ r.1,r.2⟩,λ b hb=>?_,h0,CmpOf.ints_gt (λ i=>ns.getD i 0) hat,λ v h' tk hv hk=>?_⟩
 .show b<(s.heap.push _).objs.size
  rw[zBU];simp only[zA1,zCc,or_false]at hb;rcases hb with e|e<;>subst e
  .exact zBZ _
  .exact zDq hlt
 obtain⟨t,rfl⟩:=hat _ v hv;obtain⟨h1,h2⟩:=argBest_gt (λ i=>ns.getD i 0) (ts.size-1);have hM:ns.max?=some (ns.getD (argBest (λ i j=>decide (ns.getD i 0>ns.getD j 0)) (ts.size-1)) 0):=by
  rw[zGS];refine⟨getD_mem (by lia),λ a ha=>?_⟩;obtain⟨j,hj,rfl⟩:=mem_getD ha;exact h2 j (by lia)
 rw[hm]at hM;injection hM with hM
 refine⟨.int m,H,I.kept λ b o e=>hk b o (λ z=>?_) (zAC _ e),⟨t,by rw[hM]⟩,q⟩;rw[zAM]at z;exact absurd (z▸zA2 e) (zBF _)
def aHd:D->Rs D
 | .itx _ l=>match (l.map (·.2)).max? with
  |some m=>.ok (.int m)
  |none=>.st
 |_=>.st
section
variable{C:Ct}{pos p apos cpos:Pos}{o:Expr}{fo:En->Rs D}{m:Mode}
def aMP(hmL:C.mg "max"=none)(ho:SE C m o fo)(hs2:∀i,zAT [.Call (.Attribute o "values" apos) [] [] cpos] (C.X i).env=[(false,eval (.Call (.Attribute o "values" apos) [] [] cpos) (C.X i).env)]:=by intro _;rfl)(hgL:∀i,Gl (C.X i) "max":=by intro _;rfl)(hvL:zAp "max"=some (.builtin "max"):=by decide+kernel)
  (hbase:∀j,zB2 o "values" (C.X j).env (eval o (C.X j).env)=eval o (C.X j).env:=by intro _;rfl)(hline:(apos.endLine==cpos.line)=true:=by rfl):
  SE C (some []) (.Call (.Name "max" p) [.Call (.Attribute o "values" apos) [] [] cpos] [] pos) (op1 aHd fo):=by
 obtain⟨t,h1,h2⟩:=ho;refine⟨tCB (aO9 C.K) (cY (aLO C.K t) oH),λ i=>jg (by rw[<-C.hK i];exact aIe (C.calm i)) (hgL i) (by rw[(C.cx i).2.2.2.1];exact hmL) hvL (bT (by rw[<-C.hK i];exact aJu (h1 i) (hbase i) hline) fH (hs2 i)) (by decide) (by decide) (hs2 i) rfl,λ τ Z H ρ lab Q R W=>?_⟩;refine h2 τ Z H ρ lab _ R (W.bd.imp λ d _ w y H1 s1 r1=>?_);obtain⟨z,ez,wz⟩:=w.okD;cases d with
 |itx oo l=>
  unfold aHd at ez;dsimp only at ez;cases hm:(l.map (·.2)).max? with
  |none=>rw[hm]at ez;cases ez
  |some mm=>
   rw[hm]at ez;cases ez;obtain⟨a,rfl,hi⟩:=r1.itx_inv;obtain⟨ep,hj,_⟩:=hi.ep;have hn:gY C.K H1 a none l:=let⟨o,ts,ep,es,y,z,q,n,k,e⟩:=hj;⟨o,ts,ep,es,y,.inl rfl,q,n,k,e⟩
   refine⟨a,l,rfl,hn,λ v hv=>?_⟩;exact⟨v,a,ep,l,mm,rfl,aX,hj.mono (au hv _),hm,wz _ _ (s1.trans (au hv _)) (.int mm)⟩
 |_=>cases ez
end
def fbS(i0 i1:Nat)(F:FB)(fx:En->Rs D):En->Ou:=λ ρ=>match (ρ[i0]? :Option Slot),oX ρ[i1]? with
 |some (.sh d0),some c=>(fx ρ).bo λ d2=>if flats c=true/\flat d2=true then(match F d0 c d2 []with
  |some (_,c',_)=>.nx (ρ.set i1 (.ow (bY c')))
  |none=>.st)else .st
 |_,_=>.st
section
variable{C:Ct}{pos p p0 p1 pd cp:Pos}{e:Expr}{m:Mode}{fx:En->Rs D}{x x0 x1:Str}{F:FB}{k:Nat}{fn:Addr}{fd:zA8}{ps:List Str}
def aGW{st:Stmt}(i0 i1:Nat)(hF:bU C.prog C.w C.K C.mg C.base (CX1 C.prog C.w) k fn fd ps (spB C.K F))(D:Dnr C.K C.mg x st ps fn fd)(hx:SE C m e fx)(hr:k<=C.k:=by exact zCY rfl)
  (hN0:∀j,(C.X j).N[i0]? =some x0:=by intro _;rfl)(hN1:∀j,(C.X j).N[i1]? =some x1:=by intro _;rfl)
  (hv0:∀j,Vis (C.X j).env.scope x0:=by intro _;first|exact zB0 rfl|exact zAx (zB0 rfl)|exact zAx (zAx rfl))(hv1:∀j,Vis (C.X j).env.scope x1:=by intro _;first|exact zB0 rfl|exact zAx (zB0 rfl)|exact zAx (zAx rfl))
  (hd0:Nd x0:=by decide)(hd1:Nd x1:=by decide)(hc0:(x0==("__classdict__":Str))=false:=by decide)(hc1:(x1==("__classdict__":Str))=false:=by decide)
  (hg:∀i,Gl (C.X i) x:=by intro _;rfl)(hdb:Nd x:=by decide)
  (he0:∀i,zAT [.Name x0 p0,.Name x1 p1,e,.Dict [] [] pd] (C.X i).env=(false,eval (.Name x0 p0) (C.X i).env)::zAT [.Name x1 p1,e,.Dict [] [] pd] (C.X i).env:=by intro _;rfl)
  (he1:∀i,zAT [.Name x1 p1,e,.Dict [] [] pd] (C.X i).env=(false,eval (.Name x1 p1) (C.X i).env)::zAT [e,.Dict [] [] pd] (C.X i).env:=by intro _;rfl)
  (he2:∀i,zAT [e,.Dict [] [] pd] (C.X i).env=(false,eval e (C.X i).env)::zAT [.Dict [] [] pd] (C.X i).env:=by intro _;rfl)
  (he3:∀i,zAT [.Dict [] [] pd] (C.X i).env=(false,eval (.Dict [] [] pd) (C.X i).env)::zAT [] (C.X i).env:=by intro _;rfl)
  (hpl:∀i,(zBu cp (zAT [.Name x1 p1,e,.Dict [] [] pd] (C.X i).env)).any (·.1)=false:=by intro _;rfl)
  (hsw:∀j,zBv (.Call (.Name x p) [.Name x0 p0,.Name x1 p1,e,.Dict [] [] pd] [] cp) none pos.line (C.X j).env=pure false:=by intro _;rfl):
  SS C (.Expr (.Call (.Name x p) [.Name x0 p0,.Name x1 p1,e,.Dict [] [] pd] [] cp) pos) (fbS i0 i1 F fx):=by
 obtain⟨tx,x1',x2⟩:=hx;refine⟨wM (aBk (spB C.K F) [] C.G.E (cY (kJ i0) (cY (kJ i1) (cY tx (cY aGP oH))))),λ i=>?_,λ τ Z H ρ lab De R W=>?_⟩
 .obtain⟨e1,e2,e3,e4,e5⟩:=C.cx i
  refine nG ?_ (hsw i);exact aBA (CX:=CX1 (C.X i).prog (C.X i).w) (by rw[e1,e2,e3,e4,e5];exact hF) ((C.room i).mono hr) (hg i) (by rw[e4];exact D.m) (by rw[e3];exact D.F.kp) (by rw[e3];exact D.b) .nil (C.pass i) (bT (dO (hN0 i) (hv0 i) hd0 hc0) (bT (dO (hN1 i) (hv1 i) hd1 hc1) (bT (x1' i) (bT aHR fH (he3 i)) (he2 i)) (he1 i)) (he0 i)) hdb (he0 i) (hpl i)
 .unfold fbS at W
  split at W
  .rename_i d0 c e0 e1
   have es1:=lZ e1;rcases R.sl i0 _ e0 with z|⟨v0,ev0,h0⟩
   .cases z
   rcases R.sl i1 _ es1 with z|⟨v1,ev1,h1,t1⟩
   .cases z
   obtain⟨a,rfl,la⟩:=t1 rfl;have h0':Rp C.K (λ p=>(lab p).1<=1) H v0 d0:=h0;refine⟨v0,ev0,.ref a,ev1,x2 τ Z H ρ lab _ R (W.bo.imp λ d2 _ w y H1 s1 r1=>?_)⟩;by_cases hf:flats c=true/\flat d2=true
   .rw[if_pos hf]at w
    cases hF:F d0 c d2 []with
    |none=>rw[hF]at w;exact zAI w
    |some q=>
     obtain⟨r',c',t'⟩:=q;rw[hF]at w;dsimp only at w;intro b hb;have s2:=au hb (.dK []);obtain⟨k1,a1⟩:=(Bw.of h1 hf.1 rfl:Bw C.K H a c).at;have ne:a≠b:=λ z=>by subst z;rw[s1 _ _ a1]at hb;cases hb
     have ho:∀p o,H p=some o->p≠b:=λ p o hp z=>by subst z;rw[s1 _ _ hp]at hb;cases hb
     refine⟨v0,y,a,b,d0,d2,c,[],r',c',t',rfl,ne,(h0'.wk λ p o hp z=>⟨λ q=>by subst q;lia,ho p o hp⟩).up (s1.trans s2),r1.flat hf.2,Bw.of (h1.up (s1.trans s2)) hf.1 rfl,⟨rfl,wD (ps:=[]) aX rfl .nil rfl⟩,hF,λ H' ch C1 C3=>?_⟩;let H2:Hp:=λ p=>if p=b then none else H' p
     have eb:H2 b=none:=if_pos rfl;have en:∀{p},p≠b->H2 p=H' p:=λ{p} z=>if_neg z
     have C1':Bw C.K H2 a c':=Bw.of C1.2 C1.1 (en ne);have R2:=R.mut (H':=H2) (s':=.ow (bY c')) ev1 a1 rfl la (λ p o z hp=>by
      rw[en (ho p o hp)];exact ch p o z (ho p o hp) ((s1.trans s2) _ _ hp)) ⟨C1'.rp (.inr la),λ _=>⟨a,rfl,la⟩⟩
     exact w Z H' lab (R2.up λ p o hp=>by
      by_cases z:p=b
      .rw[z,eb]at hp;cases hp
      .rw[en z]at hp;exact hp)
   .rw[if_neg hf]at w
    exact zAI w
  .exact zAI W
end
def aF7:List D->Rs D
 |[.dct ks vs]=>match gk ks vs with
  |some ps=>.ok (.int ps.length)
  |none=>.st
 |_=>.st
def aOa:List V->Hp->VK->Prop:=λ xs H Q=>∃a kvs,xs=[.ref a]/\H a=some (.dK kvs)/\Q (.int kvs.length) H
def aIf{X:Cx}:cZ X (.builtin "len") aOa:=by
 intro iX s Z H xs us Q I r h;obtain⟨a,kvs,rfl,ha,q⟩:=h;obtain⟨u,rfl,ru⟩:=vals1 r;cases ru;exact aPK I (.inl ha) λ t s' I'=>⟨.int kvs.length,H,I',⟨t,rfl⟩,q⟩
def aNx{K:zAA}:aAg K aOa aF7:=by
 intro A xs ds H Q z r ez q;unfold aF7 at ez;split at ez
 .split at ez
  .rename_i ps hp
   cases ez;obtain⟨v,rfl,h⟩:=r.one_inv;obtain⟨a,kvs,rfl,g,_,_,hk⟩:=h.dctI_inv hp;have hl:kvs.length=ps.length:=by have:=congrArg zCV hk;simpa using this
   exact⟨a,kvs,rfl,g,q _ H (aY.refl H) (by rw[hl];exact .int _)⟩
  .cases ez
 .cases ez
section
variable{C:Ct}{a:Expr}{m:Mode}{ga:En->Rs (List D)}{pos p:Pos}
def aMQ(hm:C.mg "len"=none)(ha:SA C m [a] ga)(he:∀i,zAT [a] (C.X i).env=[(false,eval a (C.X i).env)]:=by intro _;rfl)(hg:∀i,Gl (C.X i) "len":=by intro _;rfl)(hv:zAp "len"=some (.builtin "len"):=by decide+kernel):SE C (some []) (.Call (.Name "len" p) [a] [] pos) (opA aF7 ga):=by
 obtain⟨t,h1,h2⟩:=ha;exact⟨_,λ i=>jg aIf (hg i) (by rw[(C.cx i).2.2.2.1];exact hm) hv (h1 i) (by decide) (by decide) (he i) rfl,rG aNx h2⟩
end
def aFp{P:zAY}{w:World}{K:zAA}{mg:Str->Option Value}{base:Heap}{k:Nat}{fn:Addr}{fd:zA8}{ps:List Str}:bU P w K mg base (CX1 P w) k fn fd ps (spB K λ _ _ _ _=>none):=by
 constructor
 .rintro vs H Q E ⟨_,_,_,_,_,_,_,_,_,_,_,_,_,_,_,_,_,h,_⟩
  cases h
 .intros
  rename_i h;obtain⟨_,_,_,_,_,_,_,_,_,_,_,_,_,_,_,_,_,h,_⟩:=h;cases h
section
variable{ρ:En}{i:Nat}{f g:En->Rs D}{fb gb:En->Rs Bool}{ga:En->Rs (List D)}{u v:En->Ou}{d:D}
@[simp] def varD_ap:cQ i ρ=match ρ[i]? with
 |some (.sh d)=>.ok d
 |some (.nw d)=>.ok d
 |some (.ow d)=>.ok d
 |some (.oz d)=>.ok d
 |some (.o2 l)=>.ok (.lst (l.map .lst))
 |_=>.st:=aQ rfl
@[simp] def kY:aF i ρ=match ρ[i]? with
 |some (.sh d)=>.ok d
 |some (.nw d)=>.ok d
 |_=>.st:=aQ rfl
@[simp] def varO_ap:vY i ρ=match ρ[i]? with
 |some (.ow d)=>.ok d
 |some (.o2 l)=>.ok (.lst (l.map .lst))
 |_=>.st:=aQ rfl
@[simp] def aEq:cD d ρ= .ok d:=aQ rfl
@[simp] def fQ:aH ρ= .ok []:=aQ rfl
@[simp] def bF:aC f ga ρ=(f ρ).bd λ d=>(ga ρ).bd λ ds=>.ok (d::ds):=aQ rfl
@[simp] def szl:zAO=16777216:=zB3
@[simp] def vy:b7 ga ρ=(ga ρ).bd λ ds=>if ds.length<=16777216 then .ok (.tup ds)else .st:=by unfold b7;rw[szl]
@[simp] def aKV:oA ga ρ=(ga ρ).bd λ ds=>if ds.length<=16777216 then .ok (.lst ds)else .st:=by unfold oA;rw[szl]
@[simp] def gA:okD (.ok d)= .ok d:=aQ rfl
@[simp] def bh:op2 fd f g ρ=(f ρ).bd λ x=>(g ρ).bd λ y=>okD (fd x y):=aQ rfl
@[simp] def op1_ap:op1 fd f ρ=(f ρ).bd λ x=>okD (fd x):=aQ rfl
@[simp] def gr:opA fd ga ρ=(ga ρ).bd λ x=>okD (fd x):=aQ rfl
@[simp] def aIh:aR F ga ρ=(ga ρ).bd F:=aQ rfl
def aPN(d:D)(r:Rs D):Rs D:=match d with
 | .bl true=>r
 | .bl false=>.ok (.bl false)
 |_=>.st
@[simp] def aBa:aPN (.bl b) r=if b=true then r else .ok (.bl false):=by cases b<;>rfl
@[simp] def wG:vm f g ρ=(f ρ).bd λ d=>aPN d (g ρ):=aQ rfl
@[simp] def notD_bl:aKO (.bl b)= .ok (.bl (!b)):=aQ rfl
@[simp] def ifD_ap:ifD fb f g ρ=(fb ρ).bd λ k=>if k=true then f ρ else g ρ:=aQ rfl
def chR(d:D)(r:Rs D):Rs D:=match d with
 | .bl true=>r
 | .bl false=>.ok (.bl false)
 |_=>.st
@[simp] def chR_bl:chR (.bl b) r=if b=true then r else .ok (.bl false):=by cases b<;>rfl
@[simp] def chD_ap:chD fd fd' f g h ρ=(f ρ).bd λ x=>(g ρ).bd λ y=>(okD (fd x y)).bd λ z=>chR z ((h ρ).bd λ w=>okD (fd' y w)):=aQ rfl
@[simp] def truD_bl:aJD (.bl b)= .ok b:=aQ rfl
@[simp] def blD_bl:blD (.bl b)= .ok b:=aQ rfl
@[simp] def aAh:tst f ρ=(f ρ).bd aJD:=aQ rfl
@[simp] def jD:tsb f ρ=(f ρ).bd blD:=aQ rfl
@[simp] def aB8:aB9 fb gb ρ=(fb ρ).bd λ k=>if k=true then gb ρ else .ok false:=aQ rfl
@[simp] def aBC:orT fb gb ρ=(fb ρ).bd λ k=>if k=true then .ok true else gb ρ:=aQ rfl
@[simp] def aBE:jQ fb ρ=(fb ρ).bd λ k=>.ok (!k):=aQ rfl
@[simp] def aP:az u v ρ=(u ρ).sq v:=aQ rfl
@[simp] def iY:retS f ρ=(f ρ).bo .rt:=aQ rfl
@[simp] def aCf:lE f ρ=(f ρ).bo λ _=>.nx ρ:=aQ rfl
@[simp] def nP:ifS fb u v ρ=(fb ρ).bo λ k=>if k=true then u ρ else v ρ:=aQ rfl
@[simp] def rJ:cN i f ρ=(f ρ).bo λ d=>.nx (ρ.set i (.sh d)):=aQ rfl
@[simp] def aEF:aFG i f ρ=(f ρ).bo λ d=>.nx (ρ.set i (.nw d)):=aQ rfl
@[simp] def aEE:lF i f ρ=(f ρ).bo λ d=>.nx (ρ.set i (.ow d)):=aQ rfl
@[simp] def um:gnm i d ρ= .ok (ρ.set i (.sh d)):=aQ rfl
@[simp] def gnil_nil:iG [] ρ= .ok ρ:=aQ rfl
@[simp] def gcons_cons:bD a b (d::ds) ρ=(a d ρ).bd (b ds):=aQ rfl
@[simp] def gtup_tup:gj n b (.tup ds) ρ=if ds.length=n then b ds ρ else .st:=aQ rfl
def nxO(r:Rs En):Ou:=match r with
 | .ok ρ=>.nx ρ
 |_=>.st
@[simp] def itD_tup:itD (.tup l)= .ok l:=aQ rfl
@[simp] def itD_lst:itD (.lst l)= .ok l:=aQ rfl
@[simp] def aK6:cg f ρ=(f ρ).bd itD:=aQ rfl
@[simp] def fU:kO ga a u ρ=(ga ρ).bo λ ds=>forL a u ds ρ:=aQ rfl
noncomputable def Ou.tn(o:Ou)(k:En->Ou):Ou:=match o with
 | .nx ρ2=>k ρ2
 | .ct ρ2=>k ρ2
 | .bk ρ2=>.nx ρ2
 |o=>o
@[simp] def aDy:(Ou.nx ρ).tn k=k ρ:=aQ rfl
def okE(r:Rs En)(k:En->Ou):Ou:=match r with
 | .ok ρ=>k ρ
 |_=>.st
@[simp] def xZ:okE (.ok ρ) k=k ρ:=aQ rfl
def iH:forL a u (d::ds) ρ=okE (a d ρ) λ ρ1=>(u ρ1).tn (forL a u ds):=by
 unfold forL;cases a d ρ with
 |ok ρ1=>simp only[xZ];cases u ρ1<;>rfl
 |ex c=>rfl
 |st=>rfl
@[simp] def aJO:slD (.tup l) a b= .ok (.tup (cutD l a b)):=aQ rfl
@[simp] def immD_ap:ak f ρ=(f ρ).bd vh:=aQ rfl
@[simp] def rngA_ap:dj r ga ρ=(ga ρ).bd r:=aQ rfl
@[simp] def raiseS_ap:uX x ga ρ=(ga ρ).bo λ ds=>if ds.length<=16777216 then .ex x else .st:=by unfold uX;rw[szl]
@[simp] def aIy:gP ρ= .ok true:=aQ rfl
end
section
variable{d e:D}{i j:Int}{l:List D}
def lD(h:imm d=true):vh d= .ok d:=by unfold vh;rw[if_pos h]
@[simp] def gImm_int:vh (.int i)= .ok (.int i):=aQ rfl
@[simp] def addD_int:cj (.int i) (.int j)= .ok (.int (i+j)):=aQ rfl
@[simp] def subD_int:v4 (.int i) (.int j)= .ok (.int (i-j)):=aQ rfl
def aAU(h0:0<j)(h1:j<1073741824):yL (.int i) (.int j)= .ok (.int (i / j)):=by unfold yL i2;dsimp only;rw[if_pos (by simp[h0,h1])]
def oZ(h0:0<j):uc (.int i) (.int j)= .ok (.int (i%j)):=by unfold uc i2;dsimp only;rw[if_pos (by simp[h0])]
def aBG(h0: -(2^64)<i)(h1:i<2^64):iw (.int i) (.int j)= .ok (.int (i*j)):=by unfold iw;dsimp only;rw[if_pos (by simp only[zFQ,zAW,decide_eq_true_eq];exact .inl ⟨h0,h1⟩)]
def aHe(h0: -(2^64)<j)(h1:j<2^64):iw (.int i) (.int j)= .ok (.int (i*j)):=by unfold iw;dsimp only;rw[if_pos (by simp only[zFQ,zAW,decide_eq_true_eq];exact .inr ⟨h0,h1⟩)]
@[simp] def negD_int:aF2 (.int i)= .ok (.int (-i)):=aQ rfl
@[simp] def aKU:ltD (.int i) (.int j)= .ok (.bl (decide (i<j))):=aQ rfl
@[simp] def leD_int:leD (.int i) (.int j)= .ok (.bl (decide (i<=j))):=aQ rfl
@[simp] def geD_int:geD (.int i) (.int j)= .ok (.bl (decide (j<=i))):=aQ rfl
def aE6(ns ms:List Int):ltD (.tup (ns.map .int)) (.tup (ms.map .int))= .ok (.bl (HT.lexLt ns ms)):=by
 unfold ltD ltT i2;simp only[bO]
@[simp] def lenD_tup:fJ [.tup l]= .ok (.int l.length):=aQ rfl
@[simp] def lenD_lst:fJ [.lst l]= .ok (.int l.length):=aQ rfl
@[simp] def lenD_scr:fJ [.scr x]= .ok (.int x.length):=aQ rfl
@[simp] def qT:cM [.lst l]= .ok (.tup l):=aQ rfl
@[simp] def mmD_int:mmD f [.int i,.int j]= .ok (.int (f i j)):=aQ rfl
@[simp] def ixD_tup:ixD (.tup l) (.int i)=atD l i:=aQ rfl
@[simp] def ixD_lst:ixD (.lst l) (.int i)=atD l i:=aQ rfl
@[simp] def ixD_scr:ixD (.scr x) (.int i)=atD (x.map .int) i:=aQ rfl
def eY{k:Nat}(h:l[k]? =some d):atD l (k:Int)= .ok d:=by
 have hk:=(zAL.mp h).1;unfold atD atI ixN;rw[if_pos (by omega),if_pos (by omega)];simp[h]
def aNz(h0:0<=i)(h1:i<l.length):∃d,atD l i= .ok d/\d∈l/\l[i.toNat]? =some d:=by
 have hk:i.toNat<l.length:=by omega
 have e:=zAE hk;refine⟨_,?_,zEy hk,e⟩
 have:=eY e
 rwa [zB9 h0]at this
@[simp] def atD_0{r:List D}:atD (d::r) 0= .ok d:=eY (k:=0) rfl
@[simp] def atD_1{r:List D}:atD (d::e::r) 1= .ok e:=eY (k:=1) rfl
@[simp] def eqR_int:eqR n (.int i) (.int j)= .ok (.bl (if n then !(i==j)else i==j)):=aQ rfl
def knd:D->Bool
 | .set _=>false
 | .scr _=>false
 | .fn _=>false
 | .itm _ _=>false
 | .itx _ _=>false
 |_=>true
def aBQ(hT:T∈["bool","int","str","list","tuple","dict"])(h:knd d=true):lr T d= .ok (.bl (aK7 (tyD d) T)):=by
 have ht:tyD d∈["NoneType","bool","int","str","list","tuple","dict"]:=by cases d<;>simp_all [tyD,knd]
 unfold lr nZ;cases e:aK7 (tyD d) T<;>simp[ht,hT]
def aNc:D->Bool
 | .int _=>true
 | .bl _=>true
 |_=>false
def aOw:D->Bool
 | .bl _=>true
 |_=>false
def nO:D->Bool
 | .tup _=>true
 |_=>false
def aEa(h:knd d=true):lr "int" d= .ok (.bl (aNc d)):=by
 rw[aBQ (by simp) h];cases d<;>first|rfl|(simp[knd]at h)
def aC4(h:knd d=true):lr "bool" d= .ok (.bl (aOw d)):=by
 rw[aBQ (by simp) h];cases d<;>first|rfl|(simp[knd]at h)
def j0(h:knd d=true):lr "tuple" d= .ok (.bl (nO d)):=by
 rw[aBQ (by simp) h];cases d<;>first|rfl|(simp[knd]at h)
@[simp] def isi_tuple_tup:lr "tuple" (.tup l)= .ok (.bl true):=j0 rfl
end
@[simp] def ao:cV n u ds=match u (aZ n ds)with
 | .nx _=>.ok .non
 | .rt d=>.ok d
 | .ex c=>.ex c
 |_=>.st:=aQ rfl
def dm(h0: -(2^62)<=j)(h1:j<2^62):gO [.int j]= .ok (cJ 0 j):=by unfold gO;dsimp only;rw[if_pos ⟨h0,h1⟩]
def aEN(h0: -(2^62)<=i)(h1:i<2^62)(h2: -(2^62)<=j)(h3:j<2^62):aAt [.int i,.int j]= .ok (cJ i j):=by unfold aAt;dsimp only;rw[if_pos ⟨⟨h0,h1⟩,h2,h3⟩]
def iy{lo hi:Int}:d∈cJ lo hi↔∃k:Int,d= .int k/\lo<=k/\k<hi:=by
 unfold cJ;rw[zA6];constructor
 .rintro⟨n,hn,rfl⟩
  have:=zCy.mp hn
  exact⟨lo+n,rfl,by omega,by omega⟩
 .rintro⟨k,rfl,h1,h2⟩
  exact⟨(k-lo).toNat,zCy.mpr (by omega),by congr 1;omega⟩
end VL
namespace VL.My
open PySem L2
def iK:En->Ou:=
  (retS (vm (op1 (lr "int") (aF 0)) (op1 aKO (op1 (lr "bool") (aF 0)))))
def kI:List D->Rs D:=cV 1 iK
def dY:En->Ou:=
  (az (kO (dj aAt (aC (cD (.int 1)) (aC (opA fJ (aC (aF 0) aH)) aH))) (gnm 1)
   (ifS (jQ (tsb (op2 ltD (op2 ixD (aF 0) (op2 v4 (aF 1) (cD (.int 1)))) (op2 ixD (aF 0) (aF 1)))))
    (retS (cD (.bl false)))
    Ou.nx))
  (retS (cD (.bl true))))
def dF:List D->Rs D:=cV 2 dY
def jb:En->Ou:=
  (az (llS 1 (dj gO (aC (op2 ixD (aF 0) (cD (.int 0))) aH)) [none] (gnm 0))
  (az (kO (cg (op2 ixD (aF 0) (cD (.int 1)))) (gj 2 (bD (gnm 2) (bD (gnm 3) iG)))
   (gK 1 (aF 2) (ak (aF 3))))
  (retS (vY 1))))
def iW:List D->Rs D:=cV 4 jb
def iQ:En->Ou:=
  (az (llS 1 (dj gO (aC (op2 ixD (aF 0) (cD (.int 0))) aH)) [none] (gnm 0))
  (az (kO (cg (op2 ixD (aF 0) (cD (.int 1)))) (gj 2 (bD (gnm 2) (bD (gnm 3) iG)))
   (gK 1 (aF 3) (ak (aF 2))))
  (retS (vY 1))))
def nW:List D->Rs D:=cV 4 iQ
def foX:En->Rs D:=op2 ixD (cQ 2) (op1 aF2 (cD (.int 1)))
def foW:En->Rs Bool:=aB9 (tsb (op2 (jw false) foX (aF 0))) (tsb (op2 (eqR true) (op2 kW (aF 0) foX) (aF 1)))
def foB:En->Ou:=pF 2 (ak (op2 kW (aF 0) foX))
def mF:En->Ou:=az (lF 2 (oA (aC (ak (aF 1)) aH))) (az (uJ foW foB) (retS (opA cM (aC (vY 2) aH))))
def pI:List D->Rs D:=cV 3 mF
def cW:En->Ou:=
  (az (ifS (tsb (op2 ltD (aF 1) (opA fJ (aC (aF 0) aH))))
   (retS (ak (op2 ixD (aF 0) (aF 1))))
   Ou.nx)
  (retS (cD (.int 0))))
def fP:List D->Rs D:=cV 2 cW
def gD:En->Ou:=
  (az (ifS (tsb (op2 geD (aF 0) (op2 aMc (cD (.int 10)) (cD (.int 18)))))
   (az (cN 3 (aF 0))
   (az (kO (dj gO (aC (aF 1) aH)) (gnm 4)
    (cN 3 (op2 yL (aF 3) (aF 2))))
   (retS (op2 uc (aF 3) (aF 2)))))
   Ou.nx)
  (az (cN 5 (op2 uc (op2 iw (op2 cj (op2 cj (op2 uc (aF 0) (cD (.int 1000000007))) (op2 iw (cD (.int 1009)) (aF 1))) (cD (.int 17))) (cD (.int 69621))) (cD (.int 2147483647))))
  (az (cN 5 (op2 uc (op2 cj (op2 cj (op2 iw (aF 5) (aF 5)) (op2 iw (cD (.int 40503)) (aF 1))) (cD (.int 5))) (cD (.int 2147483629))))
  (retS (op2 uc (op2 yL (op2 uc (op2 iw (aF 5) (cD (.int 48271))) (cD (.int 2147483647))) (cD (.int 32))) (aF 2))))))
def bB:List D->Rs D:=cV 6 gD
def gJ:En->Ou:=
  (retS (vm (op1 (lr "int") (aF 0)) (op1 aKO (op1 (lr "bool") (aF 0)))))
def jB:List D->Rs D:=cV 1 gJ
def lrE:En->Rs D:=op2 ltD (op2 ixD (aF 1) (op2 v4 (aF 0) (cD (.int 1)))) (op2 ixD (aF 1) (aF 0))
def eO:En->Ou:=retS (opA (pG λ bs=>bs.all id) (aC (lcD (dj aAt (aC (cD (.int 1)) (aC (opA fJ (aC (aF 0) aH)) aH))) [none,some 0] (gnm 0) gP lrE) aH))
def gZ:List D->Rs D:=cV 1 eO
def dB:En->Ou:=
  (az (lF 2 (oA aH))
  (az (kO (cg (aF 0)) (gnm 3)
   (zf 2 (ak (aF 3))))
  (retS (op2 (eqR false) (opA kZ (aC (cQ 2) aH)) (lrD (aF 1))))))
def gh:List D->Rs D:=cV 4 dB
def lmI:En->Ou:=ifS (aB9 (tsb (op2 (eqR false) (aF 6) (aF 2))) (tsb (op2 (inR true) (aF 7) (aF 4)))) (az (cN 8 (opA cM (aC (opA qW (aC (op2 cj (aF 4) (b7 (aC (aF 7) aH))) aH)) aH))) (ptS 3 (aF 8) (opA (mmD λ i j=>if j>i then j else i) (aC (aFr (cQ 3) (aF 8) (cD (.int 0))) (aC (op2 cj (aF 5) (cD (.int 1))) aH))))) Ou.nx
abbrev g67:D->En->Rs En:=gj 2 (bD (gnm 6) (bD (gnm 7) iG))
abbrev g45:D->En->Rs En:=gj 2 (bD (gnm 4) (bD (gnm 5) iG))
def lmM:En->Ou:=kO (cg (op2 ixD (aF 0) (cD (.int 1)))) g67 lmI
def lmO:En->Ou:=az (lF 3 (opA aDl (aC (aF 1) aH))) (az (kO (aK5 (aF 1)) g45 lmM) (aBg 3 (cN 1 (aF 3))))
def iJ:En->Ou:=az (cN 1 (aNl (aNr (b7 aH) (cD (.int 0))))) (az (kO (dj gO (aC (op2 ixD (aF 0) (cD (.int 0))) aH)) (gnm 2) lmO) (retS (op1 aHd (aF 1))))
def kE:List D->Rs D:=cV 9 iJ
def j9:En->Ou:=
  (retS (vm (aR kI (aC (aF 0) aH)) (chD leD leD (cD (.int 0)) (aF 0) (cD (.int 60)))))
def pX:List D->Rs D:=cV 1 j9
def iM:En->Ou:=
  (retS (vm (aR kI (aC (aF 1) aH)) (chD leD ltD (cD (.int 0)) (aF 1) (aF 0))))
def dI:List D->Rs D:=cV 2 iM
def odI:En->Ou:=az (aIi (λ i j=>i-j) 2 (aF 6) (cD (.int 1))) (ifS (tsb (op2 (eqR false) (op2 ixD (cQ 2) (aF 6)) (cD (.int 0)))) (pF 3 (ak (aF 6))) Ou.nx)
def odB:En->Ou:=az (cN 5 (opA (qJ zFU) (aC (cQ 3) aH))) (az (aGm 3 (ak (aF 5))) (az (pF 4 (ak (aF 5))) (kO (cg (op2 ixD (aF 1) (aF 5))) (gnm 6) odI)))
def aNR:En->Rs D:=lcD (cg (aR nW (aC (aF 0) aH))) [none] (gnm 0) gP (opA fJ (aC (aF 0) aH))
def aNQ:En->Rs D:=lcD (dj gO (aC (op2 ixD (aF 0) (cD (.int 0))) aH)) [none,some 2] (gnm 0) (tsb (op2 (eqR false) (op2 ixD (aF 1) (aF 0)) (cD (.int 0)))) (ak (aF 0))
def j7:En->Ou:=az (cN 1 (aR iW (aC (aF 0) aH))) (az (lF 2 aNR) (az (lF 3 aNQ) (az (lF 4 (oA aH)) (az (uJ (tst (cQ 3)) odB) (retS (vY 4))))))
def mO:List D->Rs D:=cV 7 j7
def dG:En->Ou:=
  (az (cN 2 (dcI (cg (aF 1)) [none,none] (gj 2 (bD (gnm 0) (bD (gnm 1) iG))) gP (ak (aF 0)) (ak (aF 1))))
  (az (cN 3 (dcI (cg (aF 1)) [none,none] (gj 2 (bD (gnm 0) (bD (gnm 1) iG))) gP (ak (aF 1)) (cD (.bl true))))
  (retS (opA cM (aC (lcD (dj gO (aC (aF 0) aH)) [none,some 2,some 3] (gnm 0) (tsb (op2 (jw true) (aF 0) (aF 2))) (aR pI (aC (aF 1) (aC (aF 0) aH)))) aH)))))
def jR:List D->Rs D:=cV 4 dG
def iI:En->Ou:=
  (az (lF 2 (oA aH))
  (az (kO (dj gO (aC (aF 1) aH)) (gnm 3)
   (aHx 2 (aR bB (aC (aF 0) (aC (op2 cj (cD (.int 100)) (aF 3)) (aC (op2 cj (aF 3) (cD (.int 1))) aH)))) (ak (aF 3))))
  (retS (vY 2))))
def jz:List D->Rs D:=cV 4 iI
def eQ:En->Ou:=
  (az (cN 3 (op2 cj (cD (.int 1)) (aR bB (aC (aF 0) (aC (aF 1) (aC (cD (.int 4)) aH))))))
  (retS (opA cM (aC (lcD (dj gO (aC (aF 2) aH)) [none,some 0,some 1,some 3] (gnm 0) (tsb (op2 ltD (aR bB (aC (aF 1) (aC (op2 cj (op2 cj (aF 2) (cD (.int 1))) (aF 0)) (aC (cD (.int 5)) aH)))) (aF 3))) (ak (aF 0))) aH))))
def g8:List D->Rs D:=cV 4 eQ
def aBN:En->Rs D:=vm (aR jB (aC (aF 0) aH)) (chD leD ltD (cD (.int 0)) (aF 0) (op2 ixD (aF 1) (cD (.int 0))))
def aFc:En->Rs D:=op2 (inR false) (b7 (aC (op2 ixD (aF 1) (aF 0)) (aC (op2 ixD (aF 1) (op2 cj (aF 0) (cD (.int 1)))) aH))) (op2 ixD (aF 2) (cD (.int 1)))
def cI:En->Ou:=az (ifS (orT (jQ (tst (op1 (lr "tuple") (aF 1)))) (tsb (op2 (eqR false) (opA fJ (aC (aF 1) aH)) (cD (.int 0))))) (retS (cD (.bl false))) Ou.nx)
  (az (ifS (orT (jQ (tst (opA (pG λ bs=>bs.all id) (aC (lcD (cg (aF 1)) [none,some 0] (gnm 0) gP aBN) aH)))) (tsb (op2 ltD (opA z7 (aC (opA yz (aC (aF 1) aH)) aH)) (opA fJ (aC (aF 1) aH))))) (retS (cD (.bl false))) Ou.nx)
  (retS (opA (pG λ bs=>bs.all id) (aC (lcD (dj gO (aC (op2 v4 (opA fJ (aC (aF 1) aH)) (cD (.int 1))) aH)) [none,some 1,some 0] (gnm 0) gP aFc) aH))))
def cU:List D->Rs D:=cV 2 cI
def ipE:En->Ou:=ifS (orT (jQ (tst (op1 (lr "tuple") (aF 1)))) (tsb (op2 (eqR true) (opA fJ (aC (aF 1) aH)) (cD (.int 2))))) (retS (cD (.bl false))) Ou.nx
def j8:En->Ou:=az ipE (retS (vm (aR dI (aC (aF 0) (aC (op2 ixD (aF 1) (cD (.int 0))) aH))) (vm (aR dI (aC (aF 0) (aC (op2 ixD (aF 1) (cD (.int 1))) aH))) (op2 (eqR true) (op2 ixD (aF 1) (cD (.int 0))) (op2 ixD (aF 1) (cD (.int 1)))))))
def mQ:List D->Rs D:=cV 2 j8
def cT:En->Ou:=
  (az (ifS (jQ (tst (op1 (lr "tuple") (aF 1))))
   (retS (cD (.bl false)))
   Ou.nx)
  (az (kO (cg (aF 1)) (gnm 2)
   (ifS (jQ (tst (aR dI (aC (aF 0) (aC (aF 2) aH)))))
    (retS (cD (.bl false)))
    Ou.nx))
  (retS (aR dF (aC (aF 1) aH)))))
def fB:List D->Rs D:=cV 3 cT
def orB:En->Ou:=ifS (orT (tsb (op2 ltD (aR bB (aC (aF 0) (aC (aF 7) (aC (cD (.int 8)) aH)))) (vZ 4))) (aB9 (tsb (op2 (eqR false) (aF 3) (cD (.int 5)))) (tsb (op2 (inR false) (aF 8) (b7 (aC (op2 cj (op2 iw (cD (.int 2)) (aF 9)) (cD (.int 1))) (aC (op2 cj (op2 iw (cD (.int 2)) (aF 9)) (cD (.int 2))) aH)))))))
     (pF 6 (b7 (aC (ak (op2 ixD (aF 5) (aF 9))) (aC (ak (op2 ixD (aF 5) (aF 8))) aH))))
     Ou.nx
def aH3:En->Ou:=az (cN 7 (op2 cj (aF 7) (cD (.int 1)))) orB
def aEX:En->Ou:=kO (dj gO (aC (aF 8) aH)) (gnm 9) aH3
def dM:En->Ou:=az (cN 2 (aR bB (aC (aF 0) (aC (cD (.int 0)) (aC (op2 cj (aF 1) (cD (.int 1))) aH)))))
  (az (cN 3 (aR bB (aC (aF 0) (aC (cD (.int 1)) (aC (cD (.int 6)) aH)))))
  (az (aFG 4 (op2 ixD (oA (aC (cD (.int 1)) (aC (cD (.int 2)) (aC (cD (.int 3)) (aC (cD (.int 5)) (aC (cD (.int 8)) (aC (cD (.int 0)) aH))))))) (aF 3)))
  (az (cN 5 (aR jz (aC (aF 0) (aC (aF 2) aH))))
  (az (lF 6 (oA aH))
  (az (cN 7 (cD (.int 2)))
  (az (kO (dj gO (aC (aF 2) aH)) (gnm 8) aEX)
  (retS (b7 (aC (ak (aF 2)) (aC (opA cM (aC (opA kZ (aC (cQ 6) aH)) aH)) aH))))))))))
def fO:List D->Rs D:=cV 10 dM
def lpA:En->Rs D:=opA (pG λ bs=>bs.all id) (aC (lcD (cg (aF 1)) [none,some 0] (gnm 0) gP (aR cU (aC (aF 1) (aC (aF 0) aH)))) aH)
def lpJ:En->Ou:=ifS (orT (jQ (tst (op1 (lr "tuple") (aF 1)))) (jQ (tst lpA))) (retS (cD (.bl false))) Ou.nx
def lp1:En->Rs D:=aR gZ (aC (aF 1) aH)
def lpO:En->Rs D:=aR gh (aC (aF 1) (aC (op2 ixD (aF 0) (cD (.int 0))) aH))
def eU:En->Ou:=az lpJ (retS (vm lp1 lpO))
def gf:List D->Rs D:=cV 2 eU
def bH:En->Ou:=
  (az (ifS (jQ (tst (op1 (lr "tuple") (aF 1))))
   (retS (cD (.bl false)))
   Ou.nx)
  (az (kO (cg (aF 1)) (gnm 2)
   (ifS (jQ (tst (aR mQ (aC (aF 0) (aC (aF 2) aH)))))
    (retS (cD (.bl false)))
    Ou.nx))
  (retS (aR dF (aC (aF 1) aH)))))
def bu:List D->Rs D:=cV 3 bH
def dC:En->Ou:=
  (ifS (jQ (tst (aR fB (aC (aF 0) (aC (aF 1) aH)))))
   (uX "NoPlace" (aC (cD (.str "these are no places of the web")) aH))
   Ou.nx)
def dg:List D->Rs D:=cV 2 dC
def eV:En->Ou:=
  (az (ifS (orT (jQ (tst (op1 (lr "tuple") (aF 0)))) (tsb (op2 (eqR true) (opA fJ (aC (aF 0) aH)) (cD (.int 2)))))
   (retS (cD (.bl false)))
   Ou.nx)
  (retS (vm (aR pX (aC (op2 ixD (aF 0) (cD (.int 0))) aH)) (aR bu (aC (op2 ixD (aF 0) (cD (.int 0))) (aC (op2 ixD (aF 0) (cD (.int 1))) aH))))))
def jW:List D->Rs D:=cV 1 eV
def cP:En->Ou:=
  (ifS (jQ (tst (aR jW (aC (aF 0) aH))))
   (uX "NoOneWay" (aC (cD (.str "this is no one-way web")) aH))
   Ou.nx)
def cG:List D->Rs D:=cV 1 cP
def dJ:En->Ou:=
  (az (lE (aR cG (aC (aF 0) aH)))
  (az (cN 1 (aR mO (aC (aF 0) aH)))
  (retS (ifD (tsb (op2 (eqR false) (opA fJ (aC (aF 1) aH)) (op2 ixD (aF 0) (cD (.int 0))))) (ak (opA cM (aC (aF 1) aH))) (cD .non)))))
def ig:List D->Rs D:=cV 2 dJ
def cO:En->Ou:=
  (ifS (tsb (op2 (isD false) (aR ig (aC (aF 0) aH)) (cD .non)))
   (uX "NoOrder" (aC (cD (.str "the one-way web has a ring")) aH))
   Ou.nx)
def cF:List D->Rs D:=cV 1 cO
def eX:En->Ou:=
  (az (lE (aR cF (aC (aF 0) aH)))
  (az (lE (aR dg (aC (op2 ixD (aF 0) (cD (.int 0))) (aC (aF 1) aH))))
  (lE (aR dg (aC (op2 ixD (aF 0) (cD (.int 0))) (aC (aF 2) aH))))))
def eZ:List D->Rs D:=cV 3 eX
def thC:En->Rs D:=lcD (cg (op2 ixD (aF 0) (cD (.int 1)))) [none,none,some 1,some 2] (gj 2 (bD (gnm 0) (bD (gnm 1) iG))) (aB9 (tsb (op2 (inR true) (aF 1) (aF 2))) (tsb (op2 (inR true) (aF 0) (aF 3)))) (b7 (aC (ak (aF 0)) (aC (ak (aF 1)) aH)))
def j6:En->Ou:=az (lE (aR eZ (aC (aF 0) (aC (aF 1) (aC (aF 2) aH))))) (retS (b7 (aC (ak (op2 ixD (aF 0) (cD (.int 0)))) (aC (opA cM (aC thC aH)) aH))))
def mL:List D->Rs D:=cV 3 j6
def cB(R:FB):En->OB:=
  (oM (aIT (cg (op2 ixD (aF 0) (aF 2))) (gnm 4) (ifB (tsb (op2 (jw true) (aF 4) (cQ 3))) (oM (qj 3 (aF 4) (cD (.bl true))) (ifC (tsb (op2 (jw true) (aF 4) (cQ 1))) (pC R (op2 kW (cQ 1) (aF 4))) (oM (qj 1 (aF 4) (ak (aF 2))) (zN (cD (.bl true)))))) .nx)) (zN (cD (.bl false))))
def cC:Nat->FB
 |0=>λ _ _ _ _=>none
 |n+1=>aGg 5 (cB (cC n))
def iV:FB:=cC 64
def mD:En->Ou:=
  (az (cN 1 (aR iW (aC (aF 0) aH)))
  (az (lF 2 (cD (.dct [] [])))
  (az (kO (dj gO (aC (op2 ixD (aF 0) (cD (.int 0))) aH)) (gnm 3)
   (fbS 1 2 iV (aF 3)))
  (retS (vY 2)))))
def fM:List D->Rs D:=cV 4 mD
def eN:En->Ou:=
  (az (lE (aR cG (aC (aF 0) aH)))
  (retS (opA aF7 (aC (aR fM (aC (aF 0) aH)) aH))))
def jU:List D->Rs D:=cV 1 eN
def eG:En->Ou:=
  (az (lE (aR cG (aC (aF 0) aH)))
  (retS (opA cM (aC (opA kZ (aC (lcD (aHu (aDk (aR fM (aC (aF 0) aH)))) [none,none] (gj 2 (bD (gnm 0) (bD (gnm 1) iG))) gP (b7 (aC (ak (aF 1)) (aC (ak (aF 0)) aH)))) aH)) aH))))
def jT:List D->Rs D:=cV 1 eG
def dH:En->Ou:=
  (az (lE (aR cF (aC (aF 0) aH)))
  (retS (op2 v4 (op2 ixD (aF 0) (cD (.int 0))) (aR jU (aC (aF 0) aH)))))
def jV:List D->Rs D:=cV 1 dH
def gC:En->Ou:=
  (az (lE (aR cF (aC (aF 0) aH)))
  (retS (aR jR (aC (op2 ixD (aF 0) (cD (.int 0))) (aC (aR jT (aC (aF 0) aH)) aH)))))
def nU:List D->Rs D:=cV 1 gC
def dN:En->Ou:=
  (retS (aR jV (aC (aR mL (aC (aF 0) (aC (aF 1) (aC (aF 2) aH)))) aH)))
def cX:List D->Rs D:=cV 3 dN
def gH:En->Ou:=
  (retS (aR nU (aC (aR mL (aC (aF 0) (aC (aF 1) (aC (aF 2) aH)))) aH)))
def dZ:List D->Rs D:=cV 3 gH
def lwR:En->Rs (List D):=dj gO (aC (opA (mmD λ i j=>if j>i then j else i) (aC (cD (.int 1)) (aC (opA (mmD λ i j=>if j<i then j else i) (aC (opA fJ (aC (aF 0) aH)) (aC (cD (.int 8)) aH))) aH))) aH)
def lwC:En->Ou:=cN 2 (aR fP (aC (aF 0) (aC (aF 1) aH)))
def lw3:En->Ou:=cN 3 (aR fO (aC (aF 2) (aC (cD (.int 7)) aH)))
def lw4:En->Ou:=cN 4 (trD (op2 ixD (aF 3) (cD (.int 0))))
def lt1:En->Rs D:=b7 (aC (aR g8 (aC (aF 2) (aC (cD (.int 30)) (aC (op2 ixD (aF 3) (cD (.int 0))) aH)))) (aC (aR g8 (aC (aF 2) (aC (cD (.int 40)) (aC (op2 ixD (aF 3) (cD (.int 0))) aH)))) aH))
def lt2:En->Rs D:=b7 (aC (b7 aH) (aC (b7 aH) aH))
def lt3:En->Rs D:=b7 (aC (ak (aF 4)) (aC (b7 aH) aH))
def lt4:En->Rs D:=b7 (aC (b7 aH) (aC (ak (aAk (aF 4) aE0 (aEZ (cD (.int 2))))) aH))
def lw5:En->Ou:=aFG 5 (oA (aC lt1 (aC lt2 (aC lt3 (aC lt4 aH)))))
def lc8:En->Rs D:=lcD (cg (op2 ixD (aF 3) (cD (.int 1)))) [none,some 6,some 7] (gnm 0) (aB9 (tsb (op2 (inR true) (op2 ixD (aF 0) (cD (.int 1))) (aF 1))) (tsb (op2 (inR true) (op2 ixD (aF 0) (cD (.int 0))) (aF 2)))) (ak (aF 0))
def lw8:En->Ou:=cN 8 (b7 (aC (op2 ixD (aF 3) (cD (.int 0))) (aC (opA cM (aC lc8 aH)) aH)))
def lw9:En->Ou:=cN 9 (op2 v4 (op2 ixD (aF 3) (cD (.int 0))) (aR kE (aC (aF 8) aH)))
def lwA:En->Ou:=cN 10 (aR dZ (aC (aF 3) (aC (aF 6) (aC (aF 7) aH))))
def lkF:En->Rs D:=aR cX (aC (aF 3) (aC (aF 6) (aC (aF 7) aH)))
def aNX:En->Ou:=ifS (orT (jQ (tst (aR jB (aC lkF aH)))) (tsb (op2 (eqR true) lkF (aF 9)))) (retS (cD (.bl false))) Ou.nx
def aNW:En->Ou:=ifS (orT (jQ (tst (aR gf (aC (aF 8) (aC (aF 10) aH))))) (tsb (op2 (eqR true) (opA fJ (aC (aF 10) aH)) (aF 9)))) (retS (cD (.bl false))) Ou.nx
def lwB:En->Ou:=az lw8 (az lw9 (az lwA (az aNX aNW)))
def lwK:En->Ou:=az lwC (az lw3 (az lw4 (az lw5 (kO (cg (vZ 5)) g67 lwB))))
def lwZ:En->Rs D:=vm (op2 (eqR false) (aR cX (aC (b7 (aC (cD (.int 3)) (aC (b7 (aC (b7 (aC (cD (.int 0)) (aC (cD (.int 1)) aH))) (aC (b7 (aC (cD (.int 1)) (aC (cD (.int 2)) aH))) aH))) aH))) (aC (b7 (aC (cD (.int 1)) aH)) (aC (b7 aH) aH)))) (cD (.int 2))) (op2 (eqR false) (aR dZ (aC (b7 (aC (cD (.int 2)) (aC (b7 (aC (b7 (aC (cD (.int 0)) (aC (cD (.int 1)) aH))) aH)) aH))) (aC (b7 aH) (aC (b7 (aC (cD (.int 0)) aH)) aH)))) (b7 (aC (b7 (aC (cD (.int 0)) aH)) (aC (b7 (aC (cD (.int 1)) aH)) aH))))
def vQ:En->Ou:=az (kO lwR (gnm 1) lwK) (retS lwZ)
def aIr:List D->Rs D:=cV 11 vQ
theorem aA7(hb:0<b)(hb2:b<1073741824):∀(ds:List D) (x:Int) (s:Slot),(∀d∈ds,∃n:Int,d= .int n)->
  ∃y s',forL (gnm 4) (cN 3 (op2 yL (aF 3) (aF 2))) ds [.sh (.int c),.sh (.int k),.sh (.int b),.sh (.int x),s,.no]= .nx [.sh (.int c),.sh (.int k),.sh (.int b),.sh (.int y),s',.no]
 |[],x,s,_=>⟨x,s,rfl⟩
 |d::ds,x,s,h=>by
  have ih:=aA7 hb hb2 (c:=c) (k:=k) ds (x / b) (.sh d) λ e he=>h e (zAR _ he)
  rw[iH];simp[aAU hb hb2];exact ih
def aBV(hk0:0<=k)(hk1:k<2^40)(hb:0<b)(hb2:b<1073741824):∃r:Int,bB [.int c,.int k,.int b]= .ok (.int r)/\0<=r/\r<b:=by
 have hp:aMc (.int 10) (.int 18)= .ok (.int 1000000000000000000):=rfl;by_cases hc:(1000000000000000000:Int)<=c
 .have hr:=dm (j:=k) (by lia) (by lia)
  obtain⟨y,s',e⟩:=aA7 hb hb2 (c:=c) (k:=k) (cJ 0 k) c .no λ d hd=>let⟨n,e,_⟩:=iy.mp hd;⟨n,e⟩
  refine⟨y%b,?_,zER _ (by lia),zDf _ hb⟩;simp[bB,gD,aZ,hp,hc,hr,e,oZ hb]
 .have s1:∀z:Int,0<=z%2147483647/\z%2147483647<2147483647:=λ z=>⟨zER _ (by decide),zDf _ (by decide)⟩
  have s2:∀z:Int,0<=z%2147483629/\z%2147483629<2147483629:=λ z=>⟨zER _ (by decide),zDf _ (by decide)⟩
  have m1:∀z,iw (.int 1009) (.int z)= .ok (.int (1009*z)):=λ z=>aBG (by decide) (by decide)
  have m2:∀z,iw (.int z) (.int 69621)= .ok (.int (z*69621)):=λ z=>aHe (by decide) (by decide)
  have m3:∀z,iw (.int 40503) (.int z)= .ok (.int (40503*z)):=λ z=>aBG (by decide) (by decide)
  have m4:∀z,iw (.int z) (.int 48271)= .ok (.int (z*48271)):=λ z=>aHe (by decide) (by decide)
  have m5:∀z:Int,iw (.int (z%2147483647)) (.int (z%2147483647))= .ok (.int (z%2147483647*(z%2147483647))):=λ z=>aBG (by have:=s1 z;lia) (by have:=s1 z;lia)
  have d1:∀z,uc (.int z) (.int 1000000007)= .ok (.int (z%1000000007)):=λ z=>oZ (by decide)
  have d2:∀z,uc (.int z) (.int 2147483647)= .ok (.int (z%2147483647)):=λ z=>oZ (by decide)
  have d3:∀z,uc (.int z) (.int 2147483629)= .ok (.int (z%2147483629)):=λ z=>oZ (by decide)
  have d4:∀z,yL (.int z) (.int 32)= .ok (.int (z / 32)):=λ z=>aAU (by decide) (by decide)
  have d5:∀z,uc (.int z) (.int b)= .ok (.int (z%b)):=λ z=>oZ hb
  simp[bB,gD,aZ,hp,hc,m1,m2,m3,m4,m5,d1,d2,d3,d4,d5,-Int.emod_emod_of_dvd];exact⟨zER _ (by lia),zDf _ hb⟩
def wC(hk0:0<=k)(hk1:k<2^40)(hb:0<b)(hb2:b<1073741824):∃r:Nat,bB [.int c,.int k,.int b]= .ok (.int r)/\(r:Int)<b:=by
 obtain⟨r,e,h0,h1⟩:=aBV (c:=c) hk0 hk1 hb hb2;exact⟨r.toNat,by rw[zB9 h0];exact e,by lia⟩
def aKz(h:0<=k):∃c:Int,fP [.scr ns,.int k]= .ok (.int c):=by
 by_cases hk:k<ns.length
 .obtain⟨d,e,hm,_⟩:=aNz (l:=ns.map .int) (i:=k) h (by simpa using hk)
  obtain⟨c,_,rfl⟩:=zA6.mp hm;exact⟨c,by simp[fP,cW,aZ,hk,e]⟩
 .exact⟨0,by simp[fP,cW,aZ,hk]⟩
mutual
def pln:D->Bool
 | .tup l=>nu l
 | .lst l=>nu l
 | .set _=>false
 | .scr _=>false
 | .fn _=>false
 | .itm _ _=>false
 | .itx _ _=>false
 |_=>true
def nu:List D->Bool
 |[]=>true
 |d::r=>pln d&&nu r
end
def jO(h:pln d=true):knd d=true:=by cases d<;>first|rfl|(simp[pln]at h)
theorem oW:∀{l:List D} {d:D},nu l=true->d∈l->pln d=true
 |x::r,d,h,hm=>by
  simp only[nu,zAW]at h;rcases zA1.mp hm with rfl|hm
  .exact h.1
  .exact oW h.2 hm
theorem aEV:∀{l:List D},(∀d∈l,pln d=true)->nu l=true
 |[],_=>rfl
 |x::r,h=>by
  simp only[nu,zAW];exact⟨h x (zAJ ..),aEV λ d hd=>h d (zAR _ hd)⟩
def uI:D->Bool
 | .int _=>true
 |_=>false
def aE3:D->Bool
 | .int i=>decide (0<=i)&&decide (i<=60)
 |_=>false
def bW(m:Int):D->Bool
 | .int i=>decide (0<=i)&&decide (i<m)
 |_=>false
def vH(h:knd d=true):kI [d]= .ok (.bl (uI d)):=by
 simp[kI,iK,aZ,aEa h,aC4 h];cases d<;>rfl
def aDh(h:knd d=true):pX [d]= .ok (.bl (aE3 d)):=by
 simp[pX,j9,aZ,vH h];cases d<;>simp[uI,aE3]
 rename_i i;by_cases h0:0<=i<;>simp[h0]
def o5(h:knd d=true):dI [.int m,d]= .ok (.bl (bW m d)):=by
 simp[dI,iM,aZ,vH h];cases d<;>simp[uI,bW]
 rename_i i;by_cases h0:0<=i<;>simp[h0]
def jh(m:Int):D->Bool
 | .tup [.int a,.int b]=>decide (0<=a)&&decide (a<m)&&decide (0<=b)&&decide (b<m)&& !(a==b)
 |_=>false
def uY(h:bW m d=true):∃i:Int,d= .int i/\0<=i/\i<m:=by
 cases d with
 |int i=>simp[bW]at h;exact⟨i,rfl,h.1,h.2⟩
 |_=>simp[bW]at h
def aGN(h:nO d=true):∃l,d= .tup l:=by cases d<;>first|exact⟨_,rfl⟩|(cases h)
def aMA(h:l.length=2):∃x y,l=[x,y]:=by
 match l,h with
 |[x,y],_=>exact⟨x,y,rfl⟩
def aHW(h:nO d=false):jh m d=false:=by cases d<;>first|rfl|(cases h)
def aFX(h:l.length≠2):jh m (.tup l)=false:=by
 match l,h with
 |[],_=>rfl
 |[x],_=>cases x<;>rfl
 |[x,y],h=>exact absurd rfl h
 |x::y::z::r,_=>cases x<;>first|rfl|(cases y<;>rfl)
def aKC(h:bW m x=false):jh m (.tup [x,y])=false:=by
 cases x with
 |int i=>
  cases y with
  |int j=>
   show((((decide (0<=i)&&decide (i<m))&&decide (0<=j))&&decide (j<m))&& !(i==j))=false
   rw[show(decide (0<=i)&&decide (i<m))=false from h];rfl
  |_=>rfl
 |_=>rfl
def aKB(h:bW m y=false):jh m (.tup [.int i,y])=false:=by
 cases y with
 |int j=>
  show((((decide (0<=i)&&decide (i<m))&&decide (0<=j))&&decide (j<m))&& !(i==j))=false
  rw[zFb (decide (0<=i)&&decide (i<m)),show(decide (0<=j)&&decide (j<m))=false from h,zEY];rfl
 |_=>rfl
def aHV(h1:bW m (.int i)=true)(h2:bW m (.int j)=true):jh m (.tup [.int i,.int j])= !(i==j):=by
 show((((decide (0<=i)&&decide (i<m))&&decide (0<=j))&&decide (j<m))&& !(i==j))= !(i==j)
 rw[zFb (decide (0<=i)&&decide (i<m)),show(decide (0<=j)&&decide (j<m))=true from h2,show(decide (0<=i)&&decide (i<m))=true from h1];rfl
def aNf(hk:knd d=true)(h:nO d=false):ipE [s,.sh d]= .rt (.bl false):=by simp[ipE,j0 hk,h]
def aK9(h:l.length≠2):ipE [s,.sh (.tup l)]= .rt (.bl false):=by
 have:¬((l.length:Int)=2):=by omega
 simp[ipE,this]
def aK8:ipE [s,.sh (.tup [x,y])]= .nx [s,.sh (.tup [x,y])]:=by simp[ipE]
def aDg(h:pln d=true):mQ [.int m,d]= .ok (.bl (jh m d)):=by
 have st:aZ 2 [.int m,d]=[.sh (.int m),.sh d]:=rfl;simp only[mQ,j8,ao,st];cases ht:nO d with
 |false=>rw[aP,aNf (jO h) ht,aHW ht];rfl
 |true=>
  obtain⟨l,rfl⟩:=aGN ht;by_cases hl:l.length=2
  .obtain⟨x,y,rfl⟩:=aMA hl
   simp only[pln,nu,zAW]at h;have hx:=o5 (m:=m) (jO h.1);have hy:=o5 (m:=m) (jO h.2.1);have ex:aR dI (aC (aF 0) (aC (op2 ixD (aF 1) (cD (.int 0))) aH)) [.sh (.int m),.sh (.tup [x,y])]= .ok (.bl (bW m x)):=by simp[hx]
   have ey:aR dI (aC (aF 0) (aC (op2 ixD (aF 1) (cD (.int 1))) aH)) [.sh (.int m),.sh (.tup [x,y])]= .ok (.bl (bW m y)):=by simp[hy]
   rw[aP,aK8,aq,iY,wG,ex,aL,aBa,wG,ey,aL,aBa];cases c1:bW m x with
   |false=>rw[aKC c1];rfl
   |true=>
    obtain⟨i,rfl,_,_⟩:=uY c1;cases c2:bW m y with
    |false=>rw[aKB c2];rfl
    |true=>
     obtain⟨j,rfl,_,_⟩:=uY c2;rw[aHV c1 c2];rfl
  .rw[aP,aK9 hl,aFX hl];rfl
def pD(p:Int×Int):D:=.tup [.int p.1,.int p.2]
def ltP(p q:Int×Int):Bool:=HT.lexLt [p.1,p.2] [q.1,q.2]
def xH:gX->Bool
 |[]=>true
 |[_]=>true
 |p::q::r=>ltP p q&&xH (q::r)
def aNZ(p q:Int×Int):ltD (pD p) (pD q)= .ok (.bl (ltP p q)):=aE6 [p.1,p.2] [q.1,q.2]
theorem pP:∀(ds:List D) (ok:Nat->Bool) (I:En->Prop) (ρ:En),I ρ->(∀(i:Nat) d ρ,ds[i]? =some d->I ρ->okE (a d ρ) u= .rt r/\ok i=false\/∃ρ',okE (a d ρ) u= .nx ρ'/\I ρ'/\ok i=true)->
  (forL a u ds ρ= .rt r/\∃i,i<ds.length/\ok i=false)\/(∃ρ',forL a u ds ρ= .nx ρ'/\I ρ'/\∀i,i<ds.length->ok i=true)
 |[],ok,I,ρ,h,_=>.inr ⟨ρ,rfl,h,λ i hi=>absurd hi (zES _)⟩
 |d::ds,ok,I,ρ,h,hs=>by
  rw[iH];rcases hs 0 d ρ rfl h with ⟨e,o⟩|⟨ρ',e,h',o⟩
  .left
   refine⟨?_,0,by simp,o⟩;cases ea:a d ρ with
   |ok ρ1=>rw[ea]at e;simp at e ⊢;rw[e];rfl
   |ex c=>rw[ea]at e;cases e
   |st=>rw[ea]at e;cases e
  .have ih:=pP ds (λ i=>ok (i+1)) I ρ' h' λ i d2 ρ2 e2 h2=>hs (i+1) d2 ρ2 (by simpa using e2) h2
   have e3:okE (a d ρ) (λ ρ1=>(u ρ1).tn (forL a u ds))=forL a u ds ρ':=by
    cases ea:a d ρ with
    |ok ρ1=>rw[ea]at e;simp at e ⊢;rw[e];rfl
    |ex c=>rw[ea]at e;cases e
    |st=>rw[ea]at e;cases e
   rw[e3];rcases ih with ⟨e4,i,hi,o4⟩|⟨ρ4,e4,h4,o4⟩
   .exact .inl ⟨e4,i+1,by simpa using hi,o4⟩
   .refine .inr ⟨ρ4,e4,h4,λ i hi=>?_⟩
    cases i with
    |zero=>exact o
    |succ i=>exact o4 i (by simpa using hi)
def rM{i:Nat}(h:(cJ lo hi)[i]? =some d):d= .int (lo+i)/\lo+i<hi:=by
 unfold cJ at h;rw[zAP]at h;by_cases hi2:i<(hi-lo).toNat
 .rw[zCf hi2]at h
  cases h;exact⟨rfl,by omega⟩
 .rw[zDI (by simpa using hi2)]at h
  cases h
def il:(cJ lo hi).length=(hi-lo).toNat:=by unfold cJ;simp
section
variable{α:Type}{f:α->D}{lt:α->α->Bool}
def iu(lt:α->α->Bool):List α->Bool
 |[]=>true
 |[_]=>true
 |p::q::r=>lt p q&&iu lt (q::r)
theorem oV:∀{ps:List α},iu lt ps=true↔∀(i:Nat) (p q:α),ps[i]? =some p->ps[i+1]? =some q->lt p q=true
 |[]=>by simp[iu]
 |[x]=>by
  simp only[iu,true_iff];intro i p q _ h2;simp at h2
 |x::y::r=>by
  have ih:=oV (ps:=y::r);unfold iu;rw[zAW,ih];constructor
  .rintro⟨h1,h2⟩ i p q e1 e2
   cases i with
   |zero=>simp at e1 e2;subst e1 e2;exact h1
   |succ i=>exact h2 i p q (by simpa using e1) (by simpa using e2)
  .intro h
   exact⟨h 0 x y rfl rfl,λ i p q e1 e2=>h (i+1) p q (by simpa using e1) (by simpa using e2)⟩
def vJ(hlt:∀a b,ltD (f a) (f b)= .ok (.bl (lt a b)))(hl:ps.length<=100000):dF [.tup (ps.map f)]= .ok (.bl (iu lt ps)):=by
 have hr:=aEN (i:=1) (j:=(ps.length:Int)) (by decide) (by decide) (by omega) (by omega);have kQ:(cJ 1 (ps.length:Int)).length=ps.length-1:=by rw[il];omega
 have L:=pP (a:=gnm 1) (u:=ifS (jQ (tsb (op2 ltD (op2 ixD (aF 0) (op2 v4 (aF 1) (cD (.int 1)))) (op2 ixD (aF 0) (aF 1))))) (retS (cD (.bl false))) Ou.nx) (r:=.bl false)
  (cJ 1 (ps.length:Int)) (λ i=>match ps[i]?,ps[i+1]? with|some p,some q=>lt p q|_,_=>true) (λ ρ=>∃s,ρ=[.sh (.tup (ps.map f)),s]) [.sh (.tup (ps.map f)),.no] ⟨_,rfl⟩ (by
   rintro i d ρ hd ⟨s,rfl⟩;obtain⟨rfl,h2⟩:=rM hd;have e1:ps[i]? =some ps[i]:=zAE (by omega);have e2:ps[i+1]? =some ps[i+1]:=zAE (by omega);have a1:atD (ps.map f) (1+(i:Int)-1)= .ok (f ps[i]):=by
    rw[show(1+(i:Int)-1)=(i:Int)by omega];exact eY (by rw[zAP,e1];rfl)
   have a2:atD (ps.map f) (1+(i:Int))= .ok (f ps[i+1]):=by
    rw[show(1+(i:Int))=((i+1:Nat):Int)by omega];exact eY (by rw[zAP,e2];rfl)
   simp only[e1,e2];cases c:lt ps[i] ps[i+1]with
   |true=>right;exact⟨_,by simp[a1,a2,hlt,c];rfl,⟨_,rfl⟩,rfl⟩
   |false=>left;exact⟨by simp[a1,a2,hlt,c],rfl⟩)
 have st:aZ 2 [.tup (ps.map f)]=[.sh (.tup (ps.map f)),.no]:=rfl;rcases L with ⟨e,i,hi,o⟩|⟨ρ',e,⟨s,rfl⟩,o⟩
 .have:iu lt ps=false:=by
   cases c:iu lt ps with
   |false=>rfl
   |true=>
    rw[kQ]at hi;have z:=oV.mp c i ps[i] ps[i+1] (zAE (by omega)) (zAE (by omega));rw[zAE (by omega),zAE (by omega)]at o;simp only at o;rw[z]at o;cases o
  rw[this];simp only[dF,dY,ao,st];simp[hr,e]
 .have:iu lt ps=true:=oV.mpr λ i p q e1 e2=>by
   have h2:=(zAL.mp e2).1
   have:=o i (by rw[kQ];omega)
   rw[e1,e2]at this;exact this
  rw[this];simp only[dF,dY,ao,st];simp[hr,e]
end
theorem aDM:∀ps:gX,xH ps=iu ltP ps
 |[]=>rfl
 |[_]=>rfl
 |p::q::r=>by unfold xH iu;rw[aDM (q::r)]
def aBR(hl:ps.length<=100000):dF [.tup (ps.map pD)]= .ok (.bl (xH ps)):=by
 rw[aDM];exact vJ aNZ hl
def ltI(a b:Int):Bool:=decide (a<b)
def aC5(hl:ps.length<=100000):dF [.tup (ps.map .int)]= .ok (.bl (iu ltI ps)):=vJ (λ a b=>by rw[aKU];rfl) hl
def aAu:xH ps=true↔∀(i:Nat) (p q:Int×Int),ps[i]? =some p->ps[i+1]? =some q->ltP p q=true:=by rw[aDM];exact oV
def aJo:D->Int×Int
 | .tup [.int a,.int b]=>(a,b)
 |_=>(0,0)
def aDV(h:jh m d=true):∃a b:Int,d= .tup [.int a,.int b]/\0<=a/\a<m/\0<=b/\b<m/\a≠b:=by
 unfold jh at h;split at h
 .rename_i a b
  simp at h;exact⟨a,b,rfl,h.1.1.1.1,h.1.1.1.2,h.1.1.2,h.1.2,h.2⟩
 .cases h
theorem aLb:∀{ts:List D},ts.all (jh m)=true->(ts.map aJo).map pD=ts
 |[],_=>rfl
 |t::ts,h=>by
  rw[zDX,zAW]at h;obtain⟨a,b,rfl,_⟩:=aDV h.1;simp only[zAD];rw[aLb h.2];rfl
def rpB(m:Int):D->Bool
 | .tup ts=>ts.all (jh m)&&xH (ts.map aJo)
 |_=>false
def aAm:D->Bool
 | .tup l=>decide (l.length<=100000)
 |_=>true
def qC(h:pln d=true)(hs:aAm d=true):bu [.int m,d]= .ok (.bl (rpB m d)):=by
 cases d with
 |tup ts=>
  have hp:nu ts=true:=by simpa[pln]using h
  have hl:ts.length<=100000:=by simpa[aAm]using hs
  have L:=pP (a:=gnm 2) (u:=ifS (jQ (tst (aR mQ (aC (aF 0) (aC (aF 2) aH))))) (retS (cD (.bl false))) Ou.nx) (r:=.bl false)
   ts (λ i=>match ts[i]? with|some t=>jh m t|none=>true) (λ ρ=>∃s,ρ=[.sh (.int m),.sh (.tup ts),s]) [.sh (.int m),.sh (.tup ts),.no] ⟨_,rfl⟩ (by
    rintro i d ρ hd ⟨s,rfl⟩;have e:=aDg (m:=m) (oW hp (zAr hd));simp only[hd];cases c:jh m d with
    |true=>right;exact⟨_,by simp[e,c];rfl,⟨_,rfl⟩,rfl⟩
    |false=>left;exact⟨by simp[e,c],rfl⟩)
  have st:aZ 3 [.int m,.tup ts]=[.sh (.int m),.sh (.tup ts),.no]:=rfl;rcases L with ⟨e,i,hi,o⟩|⟨ρ',e,⟨s,rfl⟩,o⟩
  .have:ts.all (jh m)=false:=by
    rw[zHA];rw[zAE hi]at o;exact⟨ts[i],zEy hi,by simpa using o⟩
   simp only[bu,bH,ao,st];simp[e,rpB,this]
  .have:ts.all (jh m)=true:=by
    rw[zAl];intro t ht;obtain⟨i,hi,rfl⟩:=zD1 ht
    have:=o i hi
    rw[zAE hi]at this;exact this
   have er:=aBR (ps:=ts.map aJo) (by rw[zAF];exact hl);rw[aLb this]at er;simp only[bu,bH,ao,st];simp[e,rpB,this,er]
 |_=>simp[bu,bH,aZ,j0 (jO h),nO,rpB]
theorem fL:∀(ds:List D) (P:Nat->En->Prop) (ρ:En),P 0 ρ->(∀(i:Nat) d ρ,ds[i]? =some d->P i ρ->∃ρ',okE (a d ρ) u= .nx ρ'/\P (i+1) ρ')->∃ρ',forL a u ds ρ= .nx ρ'/\P ds.length ρ'
 |[],P,ρ,h,_=>⟨ρ,rfl,h⟩
 |d::ds,P,ρ,h,hs=>by
  obtain⟨ρ1,e,h1⟩:=hs 0 d ρ rfl h;obtain⟨ρ2,e2,h2⟩:=fL (a:=a) (u:=u) ds (λ i=>P (i+1)) ρ1 h1 λ i d2 ρ2 e2 h2=>hs (i+1) d2 ρ2 (by simpa using e2) h2
  refine⟨ρ2,?_,by simpa using h2⟩;rw[iH];cases ea:a d ρ with
  |ok ρ0=>rw[ea]at e;simp at e ⊢;rw[e];exact e2
  |ex c=>rw[ea]at e;cases e
  |st=>rw[ea]at e;cases e
def yH(l:List α)(i:Int)(y:α):(fK l i y).Perm (y::l):=by
 unfold fK;generalize (if i<0 then(i+(l.length:Int)).toNat else min i.toNat l.length)=k
 have:(l.take k++y::l.drop k).Perm (y::(l.take k++l.drop k)):=List.perm_middle
 rwa [List.take_append_drop]at this
def aFk(f:α->β)(l:List α)(i:Int)(y:α):fK (l.map f) i (f y)=(fK l i y).map f:=by
 unfold fK;rw[zAF,zAa,zAD,zHj,zHi]
structure aLH(n:Nat)(os:List Int):Prop where
 len:os.length=n
 nd:os.Nodup
 lo:∀x∈os,0<=x/\x<n
def aC0{n:Nat}(h1:n<=60):∃os,jz [.int c,.int n]= .ok (.lst (os.map .int))/\aLH n os:=by
 have hr:=dm (j:=(n:Int)) (by lia) (by lia);have kQ:(cJ 0 (n:Int)).length=n:=by rw[il];lia
 obtain⟨ρ',e,s,os,rfl,ho⟩:=fL (a:=gnm 3) (u:=aHx 2 (aR bB (aC (aF 0) (aC (op2 cj (cD (.int 100)) (aF 3)) (aC (op2 cj (aF 3) (cD (.int 1))) aH)))) (ak (aF 3))) (cJ 0 (n:Int))
  (λ i ρ=>∃s os,ρ=[.sh (.int c),.sh (.int n),.ow (.lst (os.map .int)),s]/\aLH i os) [.sh (.int c),.sh (.int n),.ow (.lst []),.no] ⟨.no,[],rfl,rfl,by simp,λ x hx=>by simp at hx⟩ (by
   rintro i d ρ hd ⟨s,os,rfl,ho⟩;obtain⟨rfl,h2⟩:=rM hd;obtain⟨r,er,r0,r1⟩:=aBV (c:=c) (k:=100+(i:Int)) (b:=(i:Int)+1) (by lia) (by lia) (by lia) (by lia);have hz: -9223372036854775808<=r/\r<9223372036854775808/\os.length<16777216:=⟨by lia,by lia,by rw[ho.len];lia⟩;refine⟨[.sh (.int c),.sh (.int n),.ow (.lst ((fK os r (0+(i:Int))).map .int)),.sh (.int (0+(i:Int)))],?_,_,_,rfl,?_,?_,λ x hx=>?_⟩
   .rw[<-aFk]
    simp only[um,xZ,aHx];simp[er,hz]
   .rw[aAR,ho.len]
   .refine(yH os r _).nodup_iff.mpr (zAj.mpr ⟨λ hm=>?_,ho.nd⟩)
    have:=ho.lo _ hm
    lia
   .rcases zA1.mp ((yH os r _).mem_iff.mp hx)with q|q
    .lia
    .have:=ho.lo x q
     lia)
 rw[kQ]at ho;refine⟨os,?_,ho⟩;simp[jz,iI,aZ,hr,e]
def pl(p:Int×Int):List Int:=[p.1,p.2]
def hp(p:Int×Int):Int:=hsh (pl p)
theorem iC:∀{L:List α},(L.map f).Nodup->∀x∈L,∀y∈L,f x=f y->x=y
 |a::L,h,x,hx,y,hy,e=>by
  rw[zAD,zAj]at h;rcases zA1.mp hx with q|q
  .rcases zA1.mp hy with z|z
   .rw[q,z]
   .subst q
    exact absurd (zA6.mpr ⟨y,z,e.symm⟩) h.1
  .rcases zA1.mp hy with z|z
   .subst z
    exact absurd (zA6.mpr ⟨x,q,e⟩) h.1
   .exact iC h.2 x q y z e
theorem pL:∀{l:List α},l.Nodup->(∀x∈l,∀y∈l,f x=f y->x=y)->(l.map f).Nodup
 |[],_,_=>by simp
 |a::l,h,hi=>by
  rw[zAj]at h;rw[zAD,zAj];refine⟨λ hm=>?_,pL h.2 λ x hx y hy e=>hi x (zAR _ hx) y (zAR _ hy) e⟩;obtain⟨x,hx,e⟩:=zA6.mp hm
  have:=hi x (zAR _ hx) a zAJ e
  subst this;exact h.1 hx
structure Ow(n:Int)(ps:gX):Prop where
 n0:0<=n
 n1:n<=60
 len:ps.length<=3600
 pr:∀p∈ps,0<=p.1/\p.1<n/\0<=p.2/\p.2<n/\p.1≠p.2
 ris:xH ps=true
def owD(n:Int)(ps:gX):D:=.tup [.int n,.tup (ps.map pD)]
def aJC(p:Int×Int):tupI (pl p)=pD p:=rfl
def aMd(h:pl p=pl q):p=q:=by
 unfold pl at h;injection h with h1 h2
 injection h2 with h2 _
 exact zFI h1 h2
def yu(nd:ps.Nodup):∃qs:gX,wW (ps.map pl)=qs.map pl/\qs.Perm ps/\xH qs=true:=by
 obtain⟨qs,q1,q2⟩:=rP (f:=pl) (qU (ps.map pl)) rfl;refine⟨qs,q2,q1,aAu.mpr λ i p q e1 e2=>?_⟩;have hr:=oK (ps.map pl);rw[q2]at hr;have hnd:qs.Nodup:=q1.nodup_iff.mpr nd;have h1:=(zAL.mp e1).1;have h2:=(zAL.mp e2).1;have f1:(qs.map pl)[i]'(by simpa using h1)=pl p:=by
  rw[zCb,(zAL.mp e1).2]
 have f2:(qs.map pl)[i+1]'(by simpa using h2)=pl q:=by
  rw[zCb,(zAL.mp e2).2]
 have z:=zDg.mp hr i (i+1) (by simpa using h1) (by simpa using h2) (by lia);rw[f1,f2]at z;have hne:p≠q:=λ e=>by
  subst e
  have:=(zCw h1 hnd).mp (e1.trans e2.symm)
  lia
 show HT.lexLt (pl p) (pl q)=true;cases c:HT.lexLt (pl p) (pl q)with
 |true=>rfl
 |false=>exact absurd (aMd (xm _ _ c z)) hne
def aAA(ps:gX):mV (ps.map pD)=some (ps.map pl):=by
 have:=wL (nss:=ps.map pl) λ ns h=>by
  obtain⟨p,_,rfl⟩:=zA6.mp h;simp[pl]
 rw[zAQ]at this;exact this
def ar(os:List Int)(q:Nat×Nat):Int×Int:=(os.getD q.1 0,os.getD q.2 0)
def aH1{os:List Int}{k:Nat}(h:k<os.length):atD (os.map D.int) (k:Int)= .ok (.int (os.getD k 0)):=eY (by rw[zAP,zAE h];simp[h])
def aLB{n:Nat}(hn:n<=60){ip:List (Nat×Nat)}(nd:ip.Nodup)(h:∀q∈ip,q.1<n/\q.2<n):ip.length<=3600:=by
 have:=sub_len (l':=(zAw 60).flatMap λ a=>(zAw 60).map λ b=>(a,b)) nd λ q hq=>by
  rw[zHR]
  have:=h q hq
  exact⟨q.1,by simp;omega,zA6.mpr ⟨q.2,by simp;omega,rfl⟩⟩
 refine zAh this ?_;rw[List.length_flatMap];simp only[zAF,List.length_range];decide
def Ow.rp{n:Int}{ps:gX}(h:Ow n ps):rpB n (.tup (ps.map pD))=true:=by
 have e:(ps.map pD).map aJo=ps:=by rw[zAQ];exact(zB7 λ p _=>rfl).trans (zGc ps)
 unfold rpB;dsimp only;rw[e,h.ris,zCD,zAl];intro d hd;obtain⟨p,hp,rfl⟩:=zA6.mp hd;obtain⟨a,b,c,d,e⟩:=h.pr p hp;simp[pD,jh,a,b,c,d,e]
theorem aEU:∀ps:gX,nu (ps.map pD)=true
 |[]=>rfl
 |p::ps=>by simp only[zAD,nu,aEU ps,zCD];rfl
def zc{n:Int}{ps:gX}(h:Ow n ps):jW [owD n ps]= .ok (.bl true):=by
 have e1:=aDh (d:=.int n) rfl;have e2:=qC (m:=n) (d:=.tup (ps.map pD)) (by simpa[pln]using aEU ps) (by have:=h.len;simp[aAm];lia);rw[h.rp]at e2;have e3:aE3 (.int n)=true:=by simp[aE3,h.n0,h.n1]
 rw[e3]at e1;simp[jW,eV,owD,aZ,e1,e2]
def iR{n:Int}{ps:gX}(h:Ow n ps):cG [owD n ps]= .ok .non:=by
 have:=zc h
 simp[cG,cP,aZ,this]
theorem tU:∀ns:List Int,dW (ns.map .int)=0/\bG (ns.map .int)=true
 |[]=>⟨rfl,rfl⟩
 |n::ns=>by
  obtain⟨h1,h2⟩:=tU ns;simp[dW,tV,bG,bC,h1,h2]
theorem aA8:∀ps:gX,dW (ps.map pD)<=1/\bG (ps.map pD)=true
 |[]=>⟨by simp[dW],rfl⟩
 |p::ps=>by
  obtain⟨h1,h2⟩:=aA8 ps;simp[dW,tV,bG,bC,h2,pD,h1]
def aEc(neg:Bool)(y:Int)(ns:List Int):inR neg (.int y) (.lst (ns.map .int))= .ok (.bl (if neg then !decide (y∈ns)else decide (y∈ns))):=by
 obtain⟨h1,h2⟩:=tU ns;have e:inD (.int y) (ns.map .int)=decide (y∈ns):=by
  unfold inD;rw[zBw];simp[zBM,eqD]
 unfold inR;dsimp only;rw[h1,h2,e];rfl
def aHz(neg:Bool)(q:Int×Int)(ps:gX):inR neg (pD q) (.tup (ps.map pD))= .ok (.bl (if neg then !decide (q∈ps)else decide (q∈ps))):=by
 obtain⟨h1,h2⟩:=aA8 ps;have e:inD (pD q) (ps.map pD)=decide (q∈ps):=by
  unfold inD;rw[zBw];simp only[zIC,zBM,zGy,decide_eq_true_eq];constructor
  .rintro⟨p,hp,h⟩
   simp[pD,eqD,nQ]at h
   have:p=q:=zFI h.1 h.2
   exact this▸hp
  .intro h
   exact⟨q,h,by simp[pD,eqD,nQ]⟩
 unfold inR;dsimp only;have h3:decide (dW (ps.map pD)<=60)=true:=by simp;lia
 have h4:bC (pD q)=true:=rfl;rw[h2,e,h3,h4];rfl
theorem sG{ρ:En}{fg:D->En->Rs En}{fe:En->Rs D}{g:D->D}:∀(ds:List D),(∀d∈ds,∃ρ1,fg d ρ= .ok ρ1/\fe ρ1= .ok (g d))->lcL ρ fg gP fe ds= .ok (ds.map g)
 |[],_=>rfl
 |d::ds,h=>by
  obtain⟨ρ1,e1,e2⟩:=h d zAJ;have ih:=sG ds λ e he=>h e (zAR _ he)
  unfold lcL;rw[e1,aL,aIy,aL,if_pos rfl,e2,aL,ih,aL];rfl
def sH{d:D}(h:knd d=true):jB [d]= .ok (.bl (uI d)):=by
 simp[jB,gJ,aZ,aEa h,aC4 h];cases d<;>rfl
def aB4{α:Type}(f:α->Bool)(l:List α):boolsOf (l.map λ x=>D.bl (f x))=some (l.map f):=by
 have:=vW (l.map f)
 rwa [zAQ]at this
def uC{α:Type}(f:α->Bool)(l:List α):pG (λ bs=>bs.all id) [.lst (l.map λ x=>D.bl (f x))]= .ok (.bl (l.all f)):=by
 unfold pG;dsimp only;rw[aB4];dsimp only;rw[zEs];rfl
theorem lB{α:Type}{ρ:En}{fg:D->En->Rs En}{ft:En->Rs Bool}{fe:En->Rs D}{f g:α->D}{t:α->Bool}:∀(l:List α),(∀x∈l,∃ρ1,fg (f x) ρ= .ok ρ1/\ft ρ1= .ok (t x)/\fe ρ1= .ok (g x))->lcL ρ fg ft fe (l.map f)= .ok ((l.filter t).map g)
 |[],_=>rfl
 |x::l,h=>by
  obtain⟨ρ1,e1,e2,e3⟩:=h x zAJ;have ih:=lB l λ y hy=>h y (zAR _ hy)
  rw[zAD];unfold lcL;rw[e1,aL,e2,aL,e3,aL,ih,aL,zBN];cases t x<;>rfl
def intOf:D->Int
 | .int i=>i
 |_=>0
def aBL(z:α){ps:List α}(hlt:∀a b,ltD (f a) (f b)= .ok (.bl (lt a b)))(hl:ps.length<=100000):gZ [.tup (ps.map f)]= .ok (.bl (iu lt ps)):=by
 have st:aZ 1 [.tup (ps.map f)]=[.sh (.tup (ps.map f))]:=rfl;have hr:=aEN (i:=1) (j:=(ps.length:Int)) (by decide) (by decide) (by lia) (by lia);have hc:lcD (dj aAt (aC (cD (.int 1)) (aC (opA fJ (aC (aF 0) aH)) aH))) [none,some 0] (gnm 0) gP lrE [.sh (.tup (ps.map f))]= .ok (.lst ((cJ 1 (ps.length:Int)).map λ k=>.bl (lt (ps.getD ((intOf k).toNat-1) z) (ps.getD (intOf k).toNat z)))):=by
  have hi:dj aAt (aC (cD (.int 1)) (aC (opA fJ (aC (aF 0) aH)) aH)) (shE [.sh (.tup (ps.map f))])= .ok (cJ 1 (ps.length:Int)):=by simp[shE,nj,hr]
  have hm:=sG (ρ:=stE [none,some 0] (shE [.sh (.tup (ps.map f))])) (fg:=gnm 0) (fe:=lrE) (g:=λ k=>.bl (lt (ps.getD ((intOf k).toNat-1) z) (ps.getD (intOf k).toNat z))) (cJ 1 (ps.length:Int)) λ d hd=>⟨_,rfl,by
   obtain⟨k,rfl,k0,k1⟩:=iy.mp hd;show lrE [.sh (.int k),.sh (.tup (ps.map f))]= .ok (.bl (lt (ps.getD (k.toNat-1) z) (ps.getD k.toNat z)));have l1:k.toNat-1<ps.length:=by lia
   have l2:k.toNat<ps.length:=by lia
   have e1:atD (ps.map f) (k-1)= .ok (f (ps.getD (k.toNat-1) z)):=by
    rw[show k-1=((k.toNat-1:Nat):Int)by lia];exact eY (by rw[zAP,zAE l1,zA0,zAE l1];rfl)
   have e2:atD (ps.map f) k= .ok (f (ps.getD k.toNat z)):=by
    have:=eY (l:=ps.map f) (k:=k.toNat) (d:=f (ps.getD k.toNat z)) (by rw[zAP,zAE l2,zA0,zAE l2];rfl)
    rwa [zB9 (by lia)]at this
   unfold lrE;have v1:op2 ixD (aF 1) (op2 v4 (aF 0) (cD (.int 1))) [.sh (.int k),.sh (.tup (ps.map f))]= .ok (f (ps.getD (k.toNat-1) z)):=by
    rw[bh,kY];show okD (atD (ps.map f) (k-1))=_;rw[e1];rfl
   have v2:op2 ixD (aF 1) (aF 0) [.sh (.int k),.sh (.tup (ps.map f))]= .ok (f (ps.getD k.toNat z)):=by
    rw[bh,kY,kY];show okD (atD (ps.map f) k)=_;rw[e2];rfl
   rw[bh,v1,aL,v2,aL,hlt,gA]⟩
  unfold lcD;rw[hi,aL,if_pos (by rw[il,szl];lia),hm]
 have ha:opA (pG λ bs=>bs.all id) (aC (lcD (dj aAt (aC (cD (.int 1)) (aC (opA fJ (aC (aF 0) aH)) aH))) [none,some 0] (gnm 0) gP lrE) aH) [.sh (.tup (ps.map f))]= .ok (.bl (iu lt ps)):=by
  rw[gr,bF,hc,aL,fQ,aL,aL,uC,gA];refine congrArg (λ b=>Rs.ok (D.bl b)) ?_;rw[zBw,oV,zAl];constructor
  .intro h i p q e1 e2
   have k2:=(zAL.mp e2).1
   have:=h (.int ((i+1:Nat):Int)) (iy.mpr ⟨_,rfl,by lia,by lia⟩)
   have z1:lt (ps.getD (((i+1:Nat):Int).toNat-1) z) (ps.getD ((i+1:Nat):Int).toNat z)=true:=this;rw[zBJ,Nat.add_sub_cancel,zA0,zA0,e1,e2]at z1;exact z1
  .intro h d hd
   obtain⟨k,rfl,k0,k1⟩:=iy.mp hd;have l1:k.toNat-1<ps.length:=by lia
   have l2:k.toNat-1+1<ps.length:=by lia
   show lt (ps.getD (k.toNat-1) z) (ps.getD k.toNat z)=true;have l3:k.toNat<ps.length:=by lia
   have:=h (k.toNat-1) ps[k.toNat-1] ps[k.toNat] (zAE l1) (by rw[show k.toNat-1+1=k.toNat by lia];exact zAE l3)
   rw[zA0,zA0,zAE l1,zAE l3];exact this
 simp only[gZ,eO,ao,st];rw[iY,ha,bK]
def nM(h1:fi (shE ρ)= .ok ds)(h2:ds.length<16777216)(h3:lcL (stE js (shE ρ)) fg ft fe ds= .ok out):lcD fi js fg ft fe ρ= .ok (.lst out):=by
 unfold lcD;rw[h1,aL,if_pos (by rw[szl];exact h2),h3]
def aBK{α:Type}{f g:α->D}(l:List α)(h:∀x∈l,∃ρ1,fg (f x) ρ= .ok ρ1/\fe ρ1= .ok (g x)):lcL ρ fg gP fe (l.map f)= .ok (l.map g):=by
 have:=lB (ρ:=ρ) (fg:=fg) (ft:=gP) (fe:=fe) (f:=f) (g:=g) (t:=λ _=>true) l λ x hx=>by
  obtain⟨ρ1,h1,h2⟩:=h x hx;exact⟨ρ1,h1,rfl,h2⟩
 rwa [zGa.mpr λ _ _=>rfl]at this
def aOB{α:Type}{f:α->Bool}{l:List α}(h:fe ρ= .ok (.lst (l.map λ x=>.bl (f x)))):opA (pG λ bs=>bs.all id) (aC fe aH) ρ= .ok (.bl (l.all f)):=by
 rw[gr,bF,h,aL,fQ,aL,aL,uC,gA]
def jm(neg:Bool)(y:Int)(ns:List Int):inR neg (.int y) (.tup (ns.map .int))= .ok (.bl (if neg then !decide (y∈ns)else decide (y∈ns))):=aEc neg y ns
def wV(nd:ps.Nodup)(h:ps.length<64):∃qs:gX,kZ [.lst (ps.map pD)]= .ok (.lst (qs.map pD))/\qs.Perm ps/\xH qs=true:=by
 obtain⟨qs,q1,q2,q3⟩:=yu nd;refine⟨qs,?_,q2,q3⟩;unfold kZ;dsimp only;rw[aAA];dsimp only;rw[if_pos (by rw[zAF];exact h),q1,zAQ];exact congrArg (λ l=>Rs.ok (D.lst l)) (zB7 λ p _=>aJC p)
abbrev orE(c most:Int)(n kd:Nat)(t:Int)(os:List Int)(ip:List (Nat×Nat))(sp:Int)(s8 s9:Slot):En:=
 [.sh (.int c),.sh (.int most),.sh (.int n),.sh (.int kd),.nw (.int t),.sh (.lst (os.map .int)),.ow (.lst ((ip.map (ar os)).map pD)),.sh (.int sp),s8,s9]
structure Jps(n j i:Nat)(ip:List (Nat×Nat)):Prop where
 nd:ip.Nodup
 ok:∀q∈ip,q.1<q.2/\q.2<n/\(q.2<j\/(q.2=j/\q.1<i))
def aH2{os:List Int}(hn:n<=60)(hj:j<n)(ho:aLH n os){sp:Int}(h0:0<=sp)(h1:sp<=2+60*j)(hip:Jps n j 0 ip):
  ∃ip' sp' s9',forL (gnm 9) aH3 (cJ 0 (j:Int)) (orE c most n kd t os ip sp (.sh (.int j)) s9)= .nx (orE c most n kd t os ip' sp' (.sh (.int j)) s9')/\0<=sp'/\sp'<=2+60*(j+1)/\Jps n (j+1) 0 ip':=by
 have kQ:(cJ 0 (j:Int)).length=j:=by rw[il];lia
 obtain⟨ρ',e,ip',sp',s9',rfl,q0,q1,q2⟩:=fL (a:=gnm 9) (u:=aH3) (cJ 0 (j:Int))
  (λ i ρ=>∃ip sp s9,ρ=orE c most n kd t os ip sp (.sh (.int j)) s9/\0<=sp/\sp<=2+60*j+i/\Jps n j i ip) (orE c most n kd t os ip sp (.sh (.int j)) s9) ⟨ip,sp,s9,rfl,h0,by lia,hip⟩ (by
   rintro i d ρ hd ⟨ip,sp,s9,rfl,p0,p1,p2⟩;obtain⟨rfl,hlt⟩:=rM hd;have hij:i<j:=by lia
   obtain⟨h,eh,hh0,hh1⟩:=aBV (c:=c) (k:=sp+1) (b:=8) (by lia) (by lia) (by decide) (by decide);have hzl:=aLB hn p2.nd λ q hq=>⟨by have:=p2.ok q hq;lia,(p2.ok q hq).2.1⟩
   have hi':i<os.length:=by rw[ho.len];lia
   have hj':j<os.length:=by rw[ho.len];lia
   have st1:∃ip1,orB (orE c most n kd t os ip (sp+1) (.sh (.int j)) (.sh (.int i)))= .nx (orE c most n kd t os ip1 (sp+1) (.sh (.int j)) (.sh (.int i)))/\(ip1=ip\/ip1=ip++[(i,j)]):=by
    obtain⟨b,hc⟩:∃b,(orT (tsb (op2 ltD (aR bB (aC (aF 0) (aC (aF 7) (aC (cD (.int 8)) aH)))) (vZ 4))) (aB9 (tsb (op2 (eqR false) (aF 3) (cD (.int 5)))) (tsb (op2 (inR false) (aF 8) (b7 (aC (op2 cj (op2 iw (cD (.int 2)) (aF 9)) (cD (.int 1))) (aC (op2 cj (op2 iw (cD (.int 2)) (aF 9)) (cD (.int 2))) aH))))))) (orE c most n kd t os ip (sp+1) (.sh (.int j)) (.sh (.int i)))= .ok b:=by
     have eA:tsb (op2 ltD (aR bB (aC (aF 0) (aC (aF 7) (aC (cD (.int 8)) aH)))) (vZ 4)) (orE c most n kd t os ip (sp+1) (.sh (.int j)) (.sh (.int i)))= .ok (decide (h<t)):=by
      have e0:aC (aF 0) (aC (aF 7) (aC (cD (.int 8)) aH)) (orE c most n kd t os ip (sp+1) (.sh (.int j)) (.sh (.int i)))= .ok [.int c,.int (sp+1),.int 8]:=rfl;rw[jD,bh,aIh,e0,aL,eh];rfl
     have eB:tsb (op2 (eqR false) (aF 3) (cD (.int 5))) (orE c most n kd t os ip (sp+1) (.sh (.int j)) (.sh (.int i)))= .ok ((kd:Int)==5):=rfl;have eC:tsb (op2 (inR false) (aF 8) (b7 (aC (op2 cj (op2 iw (cD (.int 2)) (aF 9)) (cD (.int 1))) (aC (op2 cj (op2 iw (cD (.int 2)) (aF 9)) (cD (.int 2))) aH)))) (orE c most n kd t os ip (sp+1) (.sh (.int j)) (.sh (.int i)))= .ok (decide ((j:Int)∈[2*(i:Int)+1,2*(i:Int)+2])):=by
      have hm:iw (.int 2) (.int i)= .ok (.int (2*(i:Int))):=aBG (by decide) (by decide);have hi:=jm false (j:Int) [2*(i:Int)+1,2*(i:Int)+2];simp only[zAD,zEL]at hi;have ht:b7 (aC (op2 cj (op2 iw (cD (.int 2)) (aF 9)) (cD (.int 1))) (aC (op2 cj (op2 iw (cD (.int 2)) (aF 9)) (cD (.int 2))) aH)) (orE c most n kd t os ip (sp+1) (.sh (.int j)) (.sh (.int i)))= .ok (.tup [.int (2*(i:Int)+1),.int (2*(i:Int)+2)]):=by simp[hm]
      rw[jD,bh,ht]
      show(((Rs.ok (D.int j)).bd λ x=>(Rs.ok (D.tup [.int (2*(i:Int)+1),.int (2*(i:Int)+2)])).bd λ y=>okD (inR false x y)).bd blD)=_
      rw[aL,aL,hi];rfl
     rw[aBC,eA,aB8,eB,eC];cases decide (h<t)<;>cases (kd:Int)==5<;>exact⟨_,rfl⟩
    cases b with
    |true=>
     refine⟨_,?_,.inr rfl⟩;simp only[orB,nP,hc,bK,if_pos];have hz:ip.length<16777216:=by lia
     simp[pF,aH1 hi',aH1 hj',hz,ar,pD]
    |false=>
     refine⟨_,?_,.inl rfl⟩;simp only[orB,nP,hc,bK];rfl
   obtain⟨ip1,e1,c1⟩:=st1;refine⟨_,?_,ip1,sp+1,.sh (.int i),rfl,by lia,by lia,?_⟩
   .have s7:cN 7 (op2 cj (aF 7) (cD (.int 1))) (orE c most n kd t os ip sp (.sh (.int j)) (.sh (.int i)))= .nx (orE c most n kd t os ip (sp+1) (.sh (.int j)) (.sh (.int i))):=by first|rfl|simp
    rw[Int.zero_add];show aH3 (orE c most n kd t os ip sp (.sh (.int j)) (.sh (.int i)))=_;unfold aH3;rw[aP,s7,aq,e1]
   .have hold:∀q∈ip,q.1<q.2/\q.2<n/\(q.2<j\/(q.2=j/\q.1<i+1)):=λ q hq=>by have:=p2.ok q hq;lia
    have n1:(i,j)∉ip:=λ hm=>by have:=p2.ok _ hm;simp only at this;lia
    rcases c1 with rfl|rfl
    .exact⟨p2.nd,hold⟩
    .refine⟨zAb.mpr ⟨p2.nd,by simp,λ x hx y hy z=>?_⟩,λ q hq=>?_⟩
     .rw[zAM]at hy;subst hy;subst z;exact n1 hx
     .rcases zAX.mp hq with z|z
      .exact hold q z
      .rw[zAM.mp z];exact⟨hij,hj,.inr ⟨rfl,zBZ i⟩⟩)
 rw[kQ]at q1 q2;refine⟨ip',sp',s9',e,q0,by lia,q2.nd,λ q hq=>?_⟩
 have:=q2.ok q hq
 lia
def Up(n:Nat)(ps:gX):Prop:=∃os:List Int,aLH n os/\∀p∈ps,∃q:Nat×Nat,q.1<q.2/\q.2<n/\p=ar os q
def aMD{kd:Nat}(h:kd<6):∃t:Int,atD ([1,2,3,5,8,0].map D.int) (kd:Int)= .ok (.int t):=⟨_,aH1 (os:=[1,2,3,5,8,0]) (k:=kd) (by simpa using h)⟩
def xu{most:Nat}(h1:most<=9):∃(n:Nat) (ps:gX),fO [.int c,.int most]= .ok (owD n ps)/\Ow n ps/\n<=most/\ps.length<64/\Up n ps:=by
 obtain⟨n,en,hn⟩:=wC (c:=c) (k:=0) (b:=(most:Int)+1) (by decide) (by decide) (by lia) (by lia);obtain⟨kd,ek,hk⟩:=wC (c:=c) (k:=1) (b:=6) (by decide) (by decide) (by decide) (by decide);have hn8:n<=9:=by lia
 obtain⟨t,et⟩:=aMD (kd:=kd) (by lia);obtain⟨os,eo,ho⟩:=aC0 (c:=c) (n:=n) (by lia);have hr1:=dm (j:=(n:Int)) (by lia) (by lia);have kQ:(cJ 0 (n:Int)).length=n:=by rw[il];lia
 obtain⟨ρ',e,ip,sp,s8,s9,rfl,_,_,hip⟩:=fL (a:=gnm 8) (u:=aEX) (cJ 0 (n:Int))
  (λ j ρ=>∃ip sp s8 s9,ρ=orE c most n kd t os ip sp s8 s9/\0<=sp/\sp<=2+60*j/\Jps n j 0 ip) (orE c most n kd t os [] 2 .no .no) ⟨[],2,.no,.no,rfl,by lia,by lia,by simp,λ q hq=>by simp at hq⟩ (by
   rintro j d ρ hd ⟨ip,sp,s8,s9,rfl,p0,p1,p2⟩;obtain⟨rfl,hlt⟩:=rM hd;have hr2:=dm (j:=(j:Int)) (by lia) (by lia);obtain⟨ip',sp',s9',e,q0,q1,q2⟩:=aH2 (c:=c) (most:=most) (t:=t) (n:=n) (kd:=kd) (j:=j) (os:=os) (by lia) (by lia) ho (s9:=s9) p0 p1 p2;refine⟨_,?_,ip',sp',.sh (.int j),s9',rfl,q0,by lia,q2⟩;rw[Int.zero_add,um,xZ,show(orE c most n kd t os ip sp s8 s9).set 8 (.sh (.int j))=orE c most n kd t os ip sp (.sh (.int j)) s9 from rfl];unfold aEX;have hi:(dj gO (aC (aF 8) aH)) (orE c most n kd t os ip sp (.sh (.int j)) s9)= .ok (cJ 0 (j:Int)):=by simp[hr2]
   rw[fU,hi,bK,e])
 rw[kQ]at hip;have gi:∀k l,k<n->l<n->os.getD k 0=os.getD l 0->k=l:=λ k l hk hl z=>by
  have k1:k<os.length:=by rw[ho.len];exact hk
  have k2:l<os.length:=by rw[ho.len];exact hl
  have:os[k]? =os[l]?:=by
   rw[zAE k1,zAE k2];simpa[k1,k2]using z
  exact(zCw k1 ho.nd).mp this
 have hin:∀p∈ip.map (ar os),0<=p.1/\p.1<n/\0<=p.2/\p.2<n/\p.1≠p.2:=λ p hp=>by
  obtain⟨q,hq,rfl⟩:=zA6.mp hp;obtain⟨a1,a2,_⟩:=hip.ok q hq;have g:∀k,k<n->os.getD k 0∈os:=λ k hk=>by
   have:k<os.length:=by rw[ho.len];exact hk
   simp[this]
  have l1:=ho.lo _ (g q.1 (by lia));have l2:=ho.lo _ (g q.2 a2);refine⟨l1.1,l1.2,l2.1,l2.2,λ z=>?_⟩
  have:=gi _ _ (by lia) a2 z
  lia
 have hnd:(ip.map (ar os)).Nodup:=pL hip.nd λ x hx y hy e=>by
  have x1:=hip.ok x hx;have y1:=hip.ok y hy;have e1:os.getD x.1 0=os.getD y.1 0:=congrArg zDt e;have e2:os.getD x.2 0=os.getD y.2 0:=congrArg zFv e;exact zFI (gi _ _ (by lia) (by lia) e1) (gi _ _ (by lia) (by lia) e2)
 have hl:ip.length<64:=by
  have:=sub_len (l':=(zAw 9).flatMap λ b=>(zAw b).map λ a=>(a,b)) hip.nd λ q hq=>by
   rw[zHR]
   have:=hip.ok q hq
   exact⟨q.2,by simp;lia,zA6.mpr ⟨q.1,by simp;lia,rfl⟩⟩
  have h36:((zAw 9).flatMap λ b=>(zAw b).map λ a=>(a,b)).length=36:=by decide
  lia
 obtain⟨qs,s1,s2,s3⟩:=wV hnd (by rw[zAF];exact hl);have hl2:qs.length<64:=by rw[s2.length_eq,zAF];exact hl
 refine⟨n,qs,?_,⟨by lia,by lia,by lia,λ p hp=>hin p (s2.mem_iff.mp hp),s3⟩,by lia,hl2,os,ho,λ p hp=>?_⟩
 .have st:aZ 10 [.int c,.int most]=[.sh (.int c),.sh (.int most),.no,.no,.no,.no,.no,.no,.no,.no]:=rfl
  have et':atD [D.int 1,D.int 2,D.int 3,D.int 5,D.int 8,D.int 0] (kd:Int)= .ok (.int t):=et;have a1:cN 2 (aR bB (aC (aF 0) (aC (cD (.int 0)) (aC (op2 cj (aF 1) (cD (.int 1))) aH)))) [.sh (.int c),.sh (.int most),.no,.no,.no,.no,.no,.no,.no,.no]= .nx [.sh (.int c),.sh (.int most),.sh (.int n),.no,.no,.no,.no,.no,.no,.no]:=by simp[en]
  have a2:cN 3 (aR bB (aC (aF 0) (aC (cD (.int 1)) (aC (cD (.int 6)) aH)))) [.sh (.int c),.sh (.int most),.sh (.int n),.no,.no,.no,.no,.no,.no,.no]= .nx [.sh (.int c),.sh (.int most),.sh (.int n),.sh (.int kd),.no,.no,.no,.no,.no,.no]:=by simp[ek]
  have a3:aFG 4 (op2 ixD (oA (aC (cD (.int 1)) (aC (cD (.int 2)) (aC (cD (.int 3)) (aC (cD (.int 5)) (aC (cD (.int 8)) (aC (cD (.int 0)) aH))))))) (aF 3)) [.sh (.int c),.sh (.int most),.sh (.int n),.sh (.int kd),.no,.no,.no,.no,.no,.no]= .nx [.sh (.int c),.sh (.int most),.sh (.int n),.sh (.int kd),.nw (.int t),.no,.no,.no,.no,.no]:=by simp[et']
  have a4:cN 5 (aR jz (aC (aF 0) (aC (aF 2) aH))) [.sh (.int c),.sh (.int most),.sh (.int n),.sh (.int kd),.nw (.int t),.no,.no,.no,.no,.no]= .nx [.sh (.int c),.sh (.int most),.sh (.int n),.sh (.int kd),.nw (.int t),.sh (.lst (os.map .int)),.no,.no,.no,.no]:=by simp[eo]
  have a5:lF 6 (oA aH) [.sh (.int c),.sh (.int most),.sh (.int n),.sh (.int kd),.nw (.int t),.sh (.lst (os.map .int)),.no,.no,.no,.no]= .nx [.sh (.int c),.sh (.int most),.sh (.int n),.sh (.int kd),.nw (.int t),.sh (.lst (os.map .int)),.ow (.lst []),.no,.no,.no]:=by first|rfl|simp
  have a6:cN 7 (cD (.int 2)) [.sh (.int c),.sh (.int most),.sh (.int n),.sh (.int kd),.nw (.int t),.sh (.lst (os.map .int)),.ow (.lst []),.no,.no,.no]= .nx (orE c most n kd t os [] 2 .no .no):=by first|rfl|simp
  have a7:kO (dj gO (aC (aF 2) aH)) (gnm 8) aEX (orE c most n kd t os [] 2 .no .no)= .nx (orE c most n kd t os ip sp s8 s9):=by
   have hi:(dj gO (aC (aF 2) aH)) (orE c most n kd t os [] 2 .no .no)= .ok (cJ 0 (n:Int)):=by simp[hr1]
   rw[fU,hi,bK];exact e
  have a8:opA kZ (aC (cQ 6) aH) (orE c most n kd t os ip sp s8 s9)= .ok (.lst (qs.map pD)):=by
   have hv:(aC (cQ 6) aH) (orE c most n kd t os ip sp s8 s9)= .ok [.lst ((ip.map (ar os)).map pD)]:=by first|rfl|simp
   rw[gr,hv,aL,s1,gA]
  have a9:retS (b7 (aC (ak (aF 2)) (aC (opA cM (aC (opA kZ (aC (cQ 6) aH)) aH)) aH))) (orE c most n kd t os ip sp s8 s9)= .rt (owD n qs):=by
   have ha:aC (opA kZ (aC (cQ 6) aH)) aH (orE c most n kd t os ip sp s8 s9)= .ok [.lst (qs.map pD)]:=by rw[bF,a8,aL,fQ,aL]
   have hb:opA cM (aC (opA kZ (aC (cQ 6) aH)) aH) (orE c most n kd t os ip sp s8 s9)= .ok (.tup (qs.map pD)):=by rw[gr,ha,aL,qT,gA]
   have hc:ak (aF 2) (orE c most n kd t os ip sp s8 s9)= .ok (.int n):=by first|rfl|simp
   rw[iY,vy,bF,hc,aL,bF,hb,aL,fQ,aL,aL,aL,if_pos (by simp),bK];rfl
  simp only[fO,ao,st,dM];rw[aP,a1,aq,aP,a2,aq,aP,a3,aq,aP,a4,aq,aP,a5,aq,aP,a6,aq,aP,a7,aq,a9]
 .obtain⟨q,hq,rfl⟩:=zA6.mp (s2.mem_iff.mp hp)
  obtain⟨a1,a2,_⟩:=hip.ok q hq;exact⟨q,a1,a2,rfl⟩
def bz(ll:dE)(p:Int×Int):dE:=ll.set p.1.toNat (ll.getD p.1.toNat []++[.int p.2])
theorem aCX{w:Slot}:∀(ps:gX) (ll:dE) (s2 s3:Slot),(∀p∈ps,0<=p.1/\p.1<ll.length)->(∀l∈ll,l.length+ps.length<=10000)->
  ∃s2' s3',forL (gj 2 (bD (gnm 2) (bD (gnm 3) iG))) (gK 1 (aF 2) (ak (aF 3))) (ps.map pD) [w,.o2 ll,s2,s3]= .nx [w,.o2 (ps.foldl bz ll),s2',s3']
 |[],ll,s2,s3,_,_=>⟨s2,s3,rfl⟩
 |p::ps,ll,s2,s3,h,hl=>by
  obtain⟨h0,h1⟩:=h p zAJ;have hk:p.1.toNat<ll.length:=by lia
  have hin:ll.getD p.1.toNat []∈ll:=by simp[hk]
  have hz:=hl _ hin;obtain⟨s2',s3',e⟩:=aCX (w:=w) ps (bz ll p) (.sh (.int p.1)) (.sh (.int p.2)) (λ q hq=>by unfold bz;rw[zBC];exact h q (zAR _ hq)) (λ l hm=>by
   unfold bz at hm;rcases zFe hm with z|z
   .have:=hl l z
    simp at this;lia
   .subst z
    simp at hz ⊢;lia)
  refine⟨s2',s3',?_⟩;rw[zAD,iH,zCU];have ha:at2 ll (.int p.1)=some (p.1.toNat,ll.getD p.1.toNat []):=by
   have hx:ixN ll.length p.1=some p.1.toNat:=by
    unfold ixN;rw[if_pos (by lia),if_pos (by lia)]
   simp only[at2,hx,zC3];rw[zAE hk];simp[hk]
  have hb:okE (gj 2 (bD (gnm 2) (bD (gnm 3) iG)) (pD p) [w,.o2 ll,s2,s3]) (λ ρ1=>(gK 1 (aF 2) (ak (aF 3)) ρ1).tn (forL (gj 2 (bD (gnm 2) (bD (gnm 3) iG))) (gK 1 (aF 2) (ak (aF 3))) (ps.map pD)))=
    (gK 1 (aF 2) (ak (aF 3)) [w,.o2 ll,.sh (.int p.1),.sh (.int p.2)]).tn (forL (gj 2 (bD (gnm 2) (bD (gnm 3) iG))) (gK 1 (aF 2) (ak (aF 3))) (ps.map pD)):=by
   simp[pD]
  have hc:gK 1 (aF 2) (ak (aF 3)) [w,.o2 ll,.sh (.int p.1),.sh (.int p.2)]= .nx [w,.o2 (bz ll p),.sh (.int p.1),.sh (.int p.2)]:=by
   have hz2:(ll.getD p.1.toNat []).length<16777216:=by simp at hz ⊢;lia
   unfold gK;simp only[zBA,zAv];simp[ha];rw[if_pos (by simpa using hz2)];simp[bz]
  rw[hb,hc,aDy];exact e
theorem lz:∀(ps:gX) (ll:dE),(ps.foldl bz ll).length=ll.length
 |[],_=>rfl
 |p::ps,ll=>by rw[zCU,lz ps];unfold bz;rw[zBC]
def bZ(ps:gX)(i:Int):List Int:=(ps.filter λ p=>p.1==i).map (·.2)
theorem uo:∀(ps:gX) (ll:dE) (i:Nat),(∀p∈ps,0<=p.1/\p.1<ll.length)->i<ll.length->(ps.foldl bz ll).getD i []=ll.getD i []++(bZ ps i).map .int
 |[],ll,i,_,_=>by simp[bZ]
 |p::ps,ll,i,h,hi=>by
  obtain⟨h0,h1⟩:=h p zAJ;rw[zCU,uo ps (bz ll p) i (λ q hq=>by unfold bz;rw[zBC];exact h q (zAR _ hq)) (by unfold bz;rw[zBC];exact hi)];unfold bz bZ;by_cases c:p.1=i
  .have hk:p.1.toNat=i:=by lia
   rw[hk,List.filter_cons_of_pos (by simpa using c)];simp[hi]
  .have hk:p.1.toNat≠i:=by lia
   rw[List.filter_cons_of_neg (by simpa using c)];simp[zBK hk]
structure aLK(n:Int)(ps:gX)(ll:dE):Prop where
 len:ll.length=n.toNat
 item:∀i:Int,0<=i->i<n->atD (ll.map .lst) i= .ok (.lst ((bZ ps i).map .int))
def ym{n:Int}{ps:gX}(h:Ow n ps):∃ll,iW [owD n ps]= .ok (.lst (ll.map .lst))/\aLK n ps ll:=by
 have hr:=dm (j:=n) (by have:=h.n0;lia) (by have:=h.n1;lia);have kQ:(cJ 0 n).length=n.toNat:=by rw[il];lia
 have hn1:=h.n1;have hps:=h.len;have hin:∀p∈ps,0<=p.1/\p.1<(zAS n.toNat ([]:List D)).length:=λ p hp=>by
  obtain⟨a,b,_⟩:=h.pr p hp;rw[zBQ];lia
 obtain⟨s2,s3,e⟩:=aCX (w:=.sh (owD n ps)) ps (zAS n.toNat []) .no .no hin (λ l hl=>by
  rw[(zGq.mp hl).2];simp;lia)
 refine⟨ps.foldl bz (zAS n.toNat []),?_,by rw[lz,zBQ],λ i h0 h1=>?_⟩
 .have hz:n.toNat<16777216:=by lia
  have a1:llS 1 (dj gO (aC (op2 ixD (aF 0) (cD (.int 0))) aH)) [none] (gnm 0) [.sh (owD n ps),.no,.no,.no]= .nx [.sh (owD n ps),.o2 (zAS n.toNat []),.no,.no]:=by
   unfold llS;simp[shE,nj,owD,hr,kQ,hz]
  have a2:kO (cg (op2 ixD (aF 0) (cD (.int 1)))) (gj 2 (bD (gnm 2) (bD (gnm 3) iG))) (gK 1 (aF 2) (ak (aF 3))) [.sh (owD n ps),.o2 (zAS n.toNat []),.no,.no]= .nx [.sh (owD n ps),.o2 (ps.foldl bz (zAS n.toNat [])),s2,s3]:=by
   have hi:cg (op2 ixD (aF 0) (cD (.int 1))) [.sh (owD n ps),.o2 (zAS n.toNat []),.no,.no]= .ok (ps.map pD):=by simp[owD]
   rw[fU,hi,bK];exact e
  have a3:retS (vY 1) [.sh (owD n ps),.o2 (ps.foldl bz (zAS n.toNat [])),s2,s3]= .rt (.lst ((ps.foldl bz (zAS n.toNat [])).map .lst)):=by simp
  have st:aZ 4 [owD n ps]=[.sh (owD n ps),.no,.no,.no]:=rfl;simp only[iW,jb,ao,st];rw[aP,a1,aq,aP,a2,aq,a3]
 .have hk:i.toNat<(zAS n.toNat ([]:List D)).length:=by rw[zBQ];lia
  have hg:=uo ps (zAS n.toNat []) i.toNat hin hk;have hk2:i.toNat<(ps.foldl bz (zAS n.toNat [])).length:=by rw[lz];exact hk
  have hi:((i.toNat:Nat):Int)=i:=zB9 h0;rw[hi]at hg;rw[<-hi];refine eY ?_;rw[hi,zAP,zAE hk2]
  have:(ps.foldl bz (zAS n.toNat []))[i.toNat]=(bZ ps i).map .int:=by
   have e1:(ps.foldl bz (zAS n.toNat [])).getD i.toNat []=(ps.foldl bz (zAS n.toNat []))[i.toNat]:=by simp[hk2]
   rw[<-e1,hg];have e2:(zAS n.toNat ([]:List D)).getD i.toNat []=[]:=by
    rw[zA0,zBg];split<;>rfl
   rw[e2,zCo]
  rw[this];rfl
def pM{ps:gX}{a b:Int}:b∈bZ ps a↔(a,b)∈ps:=by
 unfold bZ;simp only[zA6,zAg];constructor
 .rintro⟨p,⟨h1,h2⟩,rfl⟩
  have:p.1=a:=by simpa using h2
  rw[<-this];exact h1
 .intro h
  exact⟨(a,b),⟨h,by simp⟩,rfl⟩
def dR(ps:gX):List Int->Bool
 |a::b::r=>decide ((a,b)∈ps)&&dR ps (b::r)
 |_=>true
theorem pW{ps:gX}:∀{ws:List Int},dR ps ws=true↔∀(i:Nat) (a b:Int),ws[i]? =some a->ws[i+1]? =some b->(a,b)∈ps
 |[]=>by simp[dR]
 |[x]=>by
  simp only[dR,true_iff];intro i p q _ h2;simp at h2
 |x::y::r=>by
  have ih:=pW (ps:=ps) (ws:=y::r);unfold dR;rw[zAW,ih,decide_eq_true_eq];constructor
  .rintro⟨h1,h2⟩ i p q e1 e2
   cases i with
   |zero=>simp at e1 e2;subst e1 e2;exact h1
   |succ i=>exact h2 i p q (by simpa using e1) (by simpa using e2)
  .intro h
   exact⟨h 0 x y rfl rfl,λ i p q e1 e2=>h (i+1) p q (by simpa using e1) (by simpa using e2)⟩
def nJ(n:Int)(ps:gX):D->Bool
 | .tup ts=>!ts.isEmpty&&ts.all (bW n)&&decide ((ddI (ts.map intOf)).length=ts.length)&&dR ps (ts.map intOf)
 |_=>false
theorem kh{n:Int}:∀{ts:List D},ts.all (bW n)=true->(ts.map intOf).map D.int=ts/\∀x∈ts.map intOf,0<=x/\x<n
 |[],_=>⟨rfl,λ x hx=>by simp at hx⟩
 |t::ts,h=>by
  rw[zDX,zAW]at h;obtain⟨i,rfl,h0,h1⟩:=uY h.1;obtain⟨e,q⟩:=kh h.2;refine⟨by simp only[zAD];rw[e];rfl,λ x hx=>?_⟩;rw[zAD]at hx;rcases zA1.mp hx with z|z
  .subst z;exact⟨h0,h1⟩
  .exact q x z
@[simp] def aG6{ns:List Int}(h:ns.length<4000):yz [.tup (ns.map .int)]= .ok (.set (ddI ns)):=by
 unfold yz;dsimp only;rw[bO];dsimp only;rw[if_pos h]
@[simp] def lenX_set{l:List Int}:z7 [.set l]= .ok (.int l.length):=aQ rfl
def aLs{ts:List D}{ws:List Int}(e:ws.map D.int=ts){k:Nat}{w:Int}(h:ws[k]? =some w):atD ts (k:Int)= .ok (.int w):=by
 subst e;exact eY (by rw[zAP,h];rfl)
def aJS:D->Bool
 | .tup l=>decide (l.length<4000)
 |_=>true
def aK1{n:Int}{ps:gX}{d:D}(h:knd d=true):aBN [.sh d,.sh (owD n ps)]= .ok (.bl (bW n d)):=by
 have:=sH h
 unfold aBN;simp[owD,this];cases d<;>simp[uI,bW]
 rename_i i;by_cases h0:0<=i<;>simp[h0]
def aBM{n:Int}{ps:gX}{d:D}(O:Ow n ps)(hp:pln d=true)(hs:aJS d=true):cU [owD n ps,d]= .ok (.bl (nJ n ps d)):=by
 cases d with
 |tup ts=>
  have hp':nu ts=true:=by simpa[pln]using hp
  have hl:ts.length<4000:=by simpa[aJS]using hs
  have st:aZ 2 [owD n ps,.tup ts]=[.sh (owD n ps),.sh (.tup ts)]:=rfl;cases ts with
  |nil=>
   simp only[cU,cI,ao,st];simp[nJ]
  |cons t0 tr=>
   generalize hts:t0::tr=ts at*;have hne:ts≠[]:=by rw[<-hts];simp
   have b1:ifS (orT (jQ (tst (op1 (lr "tuple") (aF 1)))) (tsb (op2 (eqR false) (opA fJ (aC (aF 1) aH)) (cD (.int 0))))) (retS (cD (.bl false))) Ou.nx [.sh (owD n ps),.sh (.tup ts)]= .nx [.sh (owD n ps),.sh (.tup ts)]:=by
    simp[hne]
   have hc1:lcD (cg (aF 1)) [none,some 0] (gnm 0) gP aBN [.sh (owD n ps),.sh (.tup ts)]= .ok (.lst (ts.map λ t=>.bl (bW n t))):=by
    have hi:cg (aF 1) (shE [.sh (owD n ps),.sh (.tup ts)])= .ok ts:=by simp[shE,nj]
    have hm:=sG (ρ:=stE [none,some 0] (shE [.sh (owD n ps),.sh (.tup ts)])) (fg:=gnm 0) (fe:=aBN) (g:=λ t=>.bl (bW n t)) ts λ d hd=>⟨_,rfl,by
     show aBN [.sh d,.sh (owD n ps)]=_;exact aK1 (jO (oW hp' hd))⟩
    unfold lcD;rw[hi,aL,if_pos (by rw[szl];lia),hm]
   have ha1:opA (pG λ bs=>bs.all id) (aC (lcD (cg (aF 1)) [none,some 0] (gnm 0) gP aBN) aH) [.sh (owD n ps),.sh (.tup ts)]= .ok (.bl (ts.all (bW n))):=by
    rw[gr,bF,hc1,aL,fQ,aL,aL,uC,gA]
   cases kK:ts.all (bW n)with
   |false=>
    have b2:ifS (orT (jQ (tst (opA (pG λ bs=>bs.all id) (aC (lcD (cg (aF 1)) [none,some 0] (gnm 0) gP aBN) aH)))) (tsb (op2 ltD (opA z7 (aC (opA yz (aC (aF 1) aH)) aH)) (opA fJ (aC (aF 1) aH))))) (retS (cD (.bl false))) Ou.nx [.sh (owD n ps),.sh (.tup ts)]= .rt (.bl false):=by
     rw[nP,aBC,aBE,aAh,ha1,kK];simp
    simp only[cU,cI,ao,st];rw[aP,b1,aq,aP,b2];simp[nJ,kK]
   |true=>
    obtain⟨ei,hin⟩:=kh kK;have hwl:(ts.map intOf).length=ts.length:=zAF _;have hset:yz [.tup ts]= .ok (.set (ddI (ts.map intOf))):=by
     have:=aG6 (ns:=ts.map intOf) (by lia)
     rwa [ei]at this
    have hle:=aNt (ts.map intOf);have hlt:tsb (op2 ltD (opA z7 (aC (opA yz (aC (aF 1) aH)) aH)) (opA fJ (aC (aF 1) aH))) [.sh (owD n ps),.sh (.tup ts)]= .ok (decide (((ddI (ts.map intOf)).length:Int)<ts.length)):=by simp[hset]
    have b2:ifS (orT (jQ (tst (opA (pG λ bs=>bs.all id) (aC (lcD (cg (aF 1)) [none,some 0] (gnm 0) gP aBN) aH)))) (tsb (op2 ltD (opA z7 (aC (opA yz (aC (aF 1) aH)) aH)) (opA fJ (aC (aF 1) aH))))) (retS (cD (.bl false))) Ou.nx [.sh (owD n ps),.sh (.tup ts)]
      =if ((ddI (ts.map intOf)).length:Int)<ts.length then .rt (.bl false)else .nx [.sh (owD n ps),.sh (.tup ts)]:=by
     rw[nP,aBC,aBE,aAh,ha1,kK,hlt];simp
    by_cases hdd:(ddI (ts.map intOf)).length=ts.length
    .rw[if_neg (by lia)]at b2
     have hr:=dm (j:=(ts.length:Int)-1) (by lia) (by lia);have hc2:lcD (dj gO (aC (op2 v4 (opA fJ (aC (aF 1) aH)) (cD (.int 1))) aH)) [none,some 1,some 0] (gnm 0) gP aFc [.sh (owD n ps),.sh (.tup ts)]= .ok (.lst ((cJ 0 ((ts.length:Int)-1)).map λ k=>.bl (decide (((ts.map intOf).getD (intOf k).toNat 0,(ts.map intOf).getD ((intOf k).toNat+1) 0)∈ps)))):=by
      have hi:dj gO (aC (op2 v4 (opA fJ (aC (aF 1) aH)) (cD (.int 1))) aH) (shE [.sh (owD n ps),.sh (.tup ts)])= .ok (cJ 0 ((ts.length:Int)-1)):=by simp[shE,nj,hr]
      have hm:=sG (ρ:=stE [none,some 1,some 0] (shE [.sh (owD n ps),.sh (.tup ts)])) (fg:=gnm 0) (fe:=aFc) (g:=λ k=>.bl (decide (((ts.map intOf).getD (intOf k).toNat 0,(ts.map intOf).getD ((intOf k).toNat+1) 0)∈ps))) (cJ 0 ((ts.length:Int)-1)) λ d hd=>⟨_,rfl,by
       obtain⟨k,rfl,k0,k1⟩:=iy.mp hd;show aFc [.sh (.int k),.sh (.tup ts),.sh (owD n ps)]=_;have l1:k.toNat<(ts.map intOf).length:=by lia
       have l2:k.toNat+1<(ts.map intOf).length:=by lia
       have e1:atD ts k= .ok (.int ((ts.map intOf).getD k.toNat 0)):=by
        have:=aLs ei (k:=k.toNat) (w:=(ts.map intOf).getD k.toNat 0) (by rw[zA0,zAE l1];rfl)
        rwa [zB9 k0]at this
       have e2:atD ts (k+1)= .ok (.int ((ts.map intOf).getD (k.toNat+1) 0)):=by
        have:=aLs ei (k:=k.toNat+1) (w:=(ts.map intOf).getD (k.toNat+1) 0) (by rw[zA0,zAE l2];rfl)
        rwa [show((k.toNat+1:Nat):Int)=k+1 by lia]at this
       have hv:op2 ixD (aF 2) (cD (.int 1)) [.sh (.int k),.sh (.tup ts),.sh (owD n ps)]= .ok (.tup (ps.map pD)):=by simp[owD]
       have ht:b7 (aC (op2 ixD (aF 1) (aF 0)) (aC (op2 ixD (aF 1) (op2 cj (aF 0) (cD (.int 1)))) aH)) [.sh (.int k),.sh (.tup ts),.sh (owD n ps)]= .ok (pD ((ts.map intOf).getD k.toNat 0,(ts.map intOf).getD (k.toNat+1) 0)):=by
        have v1:op2 ixD (aF 1) (aF 0) [.sh (.int k),.sh (.tup ts),.sh (owD n ps)]= .ok (.int ((ts.map intOf).getD k.toNat 0)):=by
         rw[bh,kY,kY];show okD (atD ts k)=_;rw[e1];rfl
        have v2:op2 ixD (aF 1) (op2 cj (aF 0) (cD (.int 1))) [.sh (.int k),.sh (.tup ts),.sh (owD n ps)]= .ok (.int ((ts.map intOf).getD (k.toNat+1) 0)):=by
         rw[bh,kY];show okD (atD ts (k+1))=_;rw[e2];rfl
        rw[vy,bF,v1,aL,bF,v2,aL,fQ,aL,aL,aL,if_pos (by simp)];rfl
       unfold aFc;rw[bh,ht,aL,hv,aL,aHz,gA];rfl⟩
      unfold lcD;rw[hi,aL,if_pos (by rw[il,szl];lia),hm]
     have ha2:opA (pG λ bs=>bs.all id) (aC (lcD (dj gO (aC (op2 v4 (opA fJ (aC (aF 1) aH)) (cD (.int 1))) aH)) [none,some 1,some 0] (gnm 0) gP aFc) aH) [.sh (owD n ps),.sh (.tup ts)]= .ok (.bl (dR ps (ts.map intOf))):=by
      rw[gr,bF,hc2,aL,fQ,aL,aL,uC,gA];congr 2;rw[zBw,pW,zAl];constructor
      .intro h i a b e1 e2
       have k2:=(zAL.mp e2).1
       have:=h (.int (i:Int)) (iy.mpr ⟨i,rfl,by lia,by lia⟩)
       have z:=of_decide_eq_true this;have f1:(ts.map intOf).getD (intOf (.int (i:Int))).toNat 0=a:=by
        show(ts.map intOf).getD ((i:Int).toNat) 0=a
        rw[zBJ,zA0,e1];rfl
       have f2:(ts.map intOf).getD ((intOf (.int (i:Int))).toNat+1) 0=b:=by
        show(ts.map intOf).getD ((i:Int).toNat+1) 0=b
        rw[zBJ,zA0,e2];rfl
       rw[f1,f2]at z;exact z
      .intro h d hd
       obtain⟨k,rfl,k0,k1⟩:=iy.mp hd;have l1:k.toNat<(ts.map intOf).length:=by lia
       have l2:k.toNat+1<(ts.map intOf).length:=by lia
       show decide (((ts.map intOf).getD k.toNat 0,(ts.map intOf).getD (k.toNat+1) 0)∈ps)=true;refine decide_eq_true ?_;exact h k.toNat _ _ (by rw[zA0,zAE l1];rfl) (by rw[zA0,zAE l2];rfl)
     simp only[cU,cI,ao,st];rw[aP,b1,aq,aP,b2,aq,iY,ha2];simp[nJ,kK,hdd,hne]
    .rw[if_pos (by lia)]at b2
     simp only[cU,cI,ao,st];rw[aP,b1,aq,aP,b2];simp[nJ,hdd]
 |_=>
  simp only[cU,cI,ao];simp[aZ,j0 (jO hp),nO,nJ]
def aEr{ws:List Int}{ts:List D}(e:ws.map D.int=ts)(hne:ws≠[]):atD ts (-1)= .ok (.int (ws.getLastD 0)):=by
 subst e;have hl:0<ws.length:=zGb.mpr hne;have hx:ixN (ws.map D.int).length (-1)=some (ws.length-1):=by
  unfold ixN;rw[zAF,if_neg (by lia),if_pos (by lia)];congr 1;lia
 have hg:(ws.map D.int)[ws.length-1]? =some (.int (ws.getLastD 0)):=by
  rw[zAP]
  have:ws[ws.length-1]? =some (ws.getLastD 0):=by
   rw[zCa,List.getLast?_eq_getElem?];cases c:ws[ws.length-1]? with
   |none=>exact absurd (List.getElem?_eq_none_iff.mp c) (by lia)
   |some x=>rfl
  rw[this];rfl
 unfold atD atI;rw[hx];simp only[zC3,hg]
def aFa{n:Int}{ps:gX}{ts:List D}(h:nJ n ps (.tup ts)=true):(ts.map intOf).map D.int=ts/\(∀x∈ts.map intOf,0<=x/\x<n)/\ts.map intOf≠[]:=by
 unfold nJ at h;simp only[zAW,zDn]at h;obtain⟨e,hin⟩:=kh h.1.1.2;refine⟨e,hin,λ z=>?_⟩
 have:ts=[]:=by simpa using z
 rw[this]at h;simp at h
def rowOf:D->List Int
 | .tup ts=>ts.map intOf
 |_=>[]
def vf(h:rws.length<=100000):gZ [.tup (rws.map tupI)]= .ok (.bl (iu HT.lexLt rws)):=aBL (f:=tupI) [] (λ a b=>aE6 a b) h
def aML:D->Bool
 | .tup l=>decide (l.length<4000)&&l.all aJS
 |_=>true
def qH(n:Int)(l:List Int):Bool:=eqD (.lst ((sortI l).map .int)) (.lst (cJ 0 n))
def aFB(h:l.length<64):kZ [.lst (l.map .int)]= .ok (.lst ((sortI l).map .int)):=by
 cases l with
 |nil=>rfl
 |cons i r=>
  have e:mV ((i::r).map D.int)=none:=rfl;unfold kZ;dsimp only;rw[e];dsimp only;rw[bO];dsimp only;rw[if_pos h]
def aKM:eqR false (.lst ((sortI l).map .int)) (.lst (cJ 0 n))= .ok (.bl (qH n l)):=by
 obtain⟨h1,h2⟩:=tU (sortI l);have h3:bG (cJ 0 n)=true:=by rw[uV];exact(tU _).2
 unfold eqR qH;simp[bC,tV,h1,h2,h3]
def aOu(hf:f ρ= .ok (.int n))(h0:0<=n)(h1:n<=60):lrD f ρ= .ok (.lst (cJ 0 n)):=by
 unfold lrD;rw[hf,aL];unfold lrR;simp;lia
theorem aC8:∀ws:List Int,oF (ws.map .int)=true
 |[]=>rfl
 |_::ws=>by simp only[zAD,oF,aC8 ws,imm];rfl
def z8:D->Nat
 | .tup l=>l.length
 |_=>0
def sz:D->Nat
 | .tup l=>l.length+(l.map z8).sum
 |_=>0
def aMH(l:List D):sz (.tup l)=l.length+(l.map z8).sum:=rfl
def aDz(d:D)(l:List D):sz (.tup (d::l))=1+z8 d+sz (.tup l):=by
 simp[sz];lia
def aKX(h:d∈l):z8 d<=sz (.tup l):=by
 induction l with
 |nil=>cases h
 |cons x l ih=>
  rw[aDz];rcases zA1.mp h with rfl|h
  .lia
  .have:=ih h;lia
def aN1(l:List D):l.length<=sz (.tup l):=by rw[aMH];lia
def aF9(ws:List Int):z8 (tupI ws)=ws.length:=by simp[z8,tupI]
def aJG(rws:gV):sz (.tup (rws.map tupI))=rws.length+rws.flatten.length:=by
 induction rws with
 |nil=>rfl
 |cons r rws ih=>
  rw[zAD,aDz,ih,aF9,zAk,zBH,zAZ];lia
def aFl(l:List Int):oF (l.map .int)=true:=by
 induction l with
 |nil=>rfl
 |cons a l ih=>simp[oF,imm,ih]
def yI(l:List Int):imm (tupI l)=true:=by simp[tupI,imm,aFl]
def aCM(l:List Int):pln (tupI l)=true:=by
 have:∀l:List Int,nu (l.map .int)=true:=λ l=>by
  induction l with
  |nil=>rfl
  |cons a l ih=>simp[nu,pln,ih]
 simp[tupI,pln,this]
def aFR(rws:gV):nu (rws.map tupI)=true:=aEV λ d hd=>by
 obtain⟨r,_,rfl⟩:=zA6.mp hd;exact aCM r
def aJr(h:nu l=true):pln (.tup l)=true:=by simpa[pln]using h
def goG(B:D->Bool):D->Bool
 | .tup rs=>rs.all B&&iu HT.lexLt (rs.map rowOf)
 |_=>false
theorem aLW(hB:∀d,B d=true->tupI (rowOf d)=d):∀{rs:List D},rs.all B=true->(rs.map rowOf).map tupI=rs
 |[],_=>rfl
 |d::rs,h=>by
  rw[zDX,zAW]at h;rw[zAD,zAD,hB d h.1,aLW hB h.2]
def aKZ(h:nJ n ps d=true):tupI (rowOf d)=d:=by
 cases d with
 |tup ts=>
  show D.tup ((ts.map intOf).map .int)=D.tup ts;rw[(aFa h).1]
 |_=>cases h
def aAT:D->List Int
 | .tup l=>(l.map rowOf).flatten
 |_=>[]
def lpB(n:Int)(ps:gX)(d:D):Bool:=goG (nJ n ps) d&&qH n (aAT d)
structure Fi1(d:D):Prop where
 pl:pln d=true
 sh:aML d=true
 fw:(aAT d).length<64
def aII(h:goG B d=true):∃rs,d= .tup rs:=by
 cases d with
 |tup l=>exact⟨l,rfl⟩
 |_=>cases h
def aGF{rws:gV}(h0:0<=n)(h1:n<=60)(hl:rws.flatten.length<64):gh [.tup (rws.map tupI),.int n]= .ok (.bl (qH n rws.flatten)):=by
 have st:aZ 4 [.tup (rws.map tupI),.int n]=[.sh (.tup (rws.map tupI)),.sh (.int n),.no,.no]:=rfl;have L:∀(rs:gV) (acc:List Int) (s:Slot),acc.length+rs.flatten.length<64->∃s',forL (gnm 3) (zf 2 (ak (aF 3))) (rs.map tupI) [.sh (.tup (rws.map tupI)),.sh (.int n),.ow (.lst (acc.map .int)),s]= .nx [.sh (.tup (rws.map tupI)),.sh (.int n),.ow (.lst ((acc++rs.flatten).map .int)),s']:=by
  intro rs;induction rs with
  |nil=>intro acc s _;exact⟨s,by rw[List.flatten_nil,zBG];rfl⟩
  |cons ns rs ih=>
   intro acc s hz;rw[zBH,zAZ]at hz;obtain⟨s',e⟩:=ih (acc++ns) (.sh (tupI ns)) (by rw[zAZ];lia);refine⟨s',?_⟩;rw[zAD,iH,zBH,<-zBP];have hg:okE (gnm 3 (tupI ns) [.sh (.tup (rws.map tupI)),.sh (.int n),.ow (.lst (acc.map .int)),s]) (λ ρ1=>(zf 2 (ak (aF 3)) ρ1).tn (forL (gnm 3) (zf 2 (ak (aF 3))) (rs.map tupI)))=
     (zf 2 (ak (aF 3)) [.sh (.tup (rws.map tupI)),.sh (.int n),.ow (.lst (acc.map .int)),.sh (tupI ns)]).tn (forL (gnm 3) (zf 2 (ak (aF 3))) (rs.map tupI)):=by
    rw[um,xZ];rfl
   have hv:ak (aF 3) [.sh (.tup (rws.map tupI)),.sh (.int n),.ow (.lst (acc.map .int)),.sh (tupI ns)]= .ok (tupI ns):=by
    have:imm (tupI ns)=true:=by
     have:∀l:List Int,oF (l.map .int)=true:=λ l=>by
      induction l with
      |nil=>rfl
      |cons a l ih=>simp[oF,imm,ih]
     simp[tupI,imm,this]
    simp[vh,this]
   have hx:zf 2 (ak (aF 3)) [.sh (.tup (rws.map tupI)),.sh (.int n),.ow (.lst (acc.map .int)),.sh (tupI ns)]= .nx [.sh (.tup (rws.map tupI)),.sh (.int n),.ow (.lst ((acc++ns).map .int)),.sh (tupI ns)]:=by
    unfold zf;dsimp only[zBA,zAv];rw[hv,bK];unfold aNp tupI;dsimp only;rw[if_pos (by rw[zAF,zAF,zB3];lia),zAa];rfl
   rw[hg,hx,aDy];exact e
 obtain⟨s',e⟩:=L rws [] .no (by simpa using hl);have e0:lF 2 (oA aH) [.sh (.tup (rws.map tupI)),.sh (.int n),.no,.no]= .nx [.sh (.tup (rws.map tupI)),.sh (.int n),.ow (.lst (([]:List Int).map .int)),.no]:=by simp
 have hi:cg (aF 0) [.sh (.tup (rws.map tupI)),.sh (.int n),.ow (.lst (([]:List Int).map .int)),.no]= .ok (rws.map tupI):=by simp
 have hv:cQ 2 [.sh (.tup (rws.map tupI)),.sh (.int n),.ow (.lst ((([]:List Int)++rws.flatten).map .int)),s']= .ok (.lst (rws.flatten.map .int)):=rfl;have hr:lrD (aF 1) [.sh (.tup (rws.map tupI)),.sh (.int n),.ow (.lst ((([]:List Int)++rws.flatten).map .int)),s']= .ok (.lst (cJ 0 n)):=aOu (by simp) h0 h1;simp only[gh,dB,ao,st];rw[aP,e0,aq,aP,fU,hi,bK,e,aq,iY,bh,gr,bF,hv,aL,fQ,aL,aL,aFB hl,gA,aL,hr,aL,aKM];rfl
def z9{n:Int}(O:Ow n ps)(F:Fi1 d):gf [owD n ps,d]= .ok (.bl (lpB n ps d)):=by
 have st:aZ 2 [owD n ps,d]=[.sh (owD n ps),.sh d]:=rfl;simp only[gf,eU,ao,st];rw[aP];cases d with
 |tup as=>
  have hpa:nu as=true:=by have:=F.pl;simpa[pln]using this
  have f1:=F.sh;simp only[aML,zAW,decide_eq_true_eq]at f1;have vA:lpA [.sh (owD n ps),.sh (.tup as)]= .ok (.bl (as.all (nJ n ps))):=
   aOB (nM (ds:=as) (by simp[shE,nj]) (by lia) (sG (fg:=gnm 0) (fe:=aR cU (aC (aF 1) (aC (aF 0) aH))) (g:=λ d=>.bl (nJ n ps d)) as λ d hd=>⟨_,rfl,by
    simp[stE,shE,nj,aBM O (oW hpa hd) (zAl.mp f1.2 d hd)]⟩))
  have u1:jQ (tst (op1 (lr "tuple") (aF 1))) [.sh (owD n ps),.sh (.tup as)]= .ok false:=by simp
  have b2:lpJ [.sh (owD n ps),.sh (.tup as)]=if as.all (nJ n ps)=true then .nx [.sh (owD n ps),.sh (.tup as)]else .rt (.bl false):=by
   unfold lpJ;rw[nP,aBC,u1,aBE,aAh,vA];cases as.all (nJ n ps)<;>simp
  rw[b2];have er:lpB n ps (.tup as)=(as.all (nJ n ps)&&(iu HT.lexLt (as.map rowOf)&&qH n (aAT (.tup as)))):=by
   unfold lpB goG;dsimp only;cases as.all (nJ n ps)<;>cases iu HT.lexLt (as.map rowOf)<;>rfl
  rw[er];cases hc:as.all (nJ n ps)with
  |false=>rfl
  |true=>
   have ea:=aLW (λ _=>aKZ) hc;have r1:=vf (rws:=as.map rowOf) (by rw[zAF];lia);have e:=aGF (n:=n) (rws:=as.map rowOf) O.n0 O.n1 F.fw;rw[ea]at e;rw[ea]at r1;have u1:lp1 [.sh (owD n ps),.sh (.tup as)]= .ok (.bl (iu HT.lexLt (as.map rowOf))):=by simp[lp1,r1]
   have u3:lpO [.sh (owD n ps),.sh (.tup as)]= .ok (.bl (qH n (as.map rowOf).flatten)):=by simp[lpO,owD,e]
   rw[if_pos rfl,aq,iY,wG,u1,aL,aBa,u3];show _=Rs.ok (D.bl (true&&(iu HT.lexLt (as.map rowOf)&&qH n ((as.map rowOf).flatten))));cases iu HT.lexLt (as.map rowOf)<;>simp
 |_=>
  unfold lpJ;simp[j0 (jO F.pl),nO,lpB,goG]
def upI(n:Int):List Int:=(zAw n.toNat).map λ(k:Nat)=>(k:Int)
def qi(n:Int):cJ 0 n=(upI n).map .int:=by
 unfold cJ upI;rw[zAQ,show(n-0).toNat=n.toNat by lia];exact zB7 λ k _=>by simp
def lR(n:Int):(upI n).Nodup:=by
 unfold upI;rw[zBp,zEo];exact List.nodup_range.imp λ h e=>h (by lia)
def iD:x∈upI n↔0<=x/\x<n:=by
 unfold upI;rw[zA6];constructor
 .rintro⟨k,hk,rfl⟩
  have:=zCy.mp hk
  lia
 .rintro⟨h0,h1⟩
  exact⟨x.toNat,zCy.mpr (by lia),by lia⟩
def fC(n:Int):(upI n).length=n.toNat:=by unfold upI;simp
theorem yj:∀{ws:List Int} (h:ws≠[]),dR es ws=true->(ws.getLast h,v)∈es->dR es (ws++[v])=true
 |[a],_,_,h2=>by simpa[dR]using h2
 |a::b::r,_,h1,h2=>by
  simp only[dR,zAW,decide_eq_true_eq]at h1
  have:=yj (ws:=b::r) (by simp) h1.2 (by simpa using h2)
  rw[zDM,zDM,dR,zAW,decide_eq_true_eq];exact⟨h1.1,by simpa using this⟩
def qm{left ws:List Int}(h1:left.Nodup)(h2:ws.Nodup)(h3:∀w∈ws,w∈left):(ws++left.filter λ x=>!decide (x∈ws)).Perm left:=by
 rw[zD9]
 .intro a
  rw[zAX,zAg];constructor
  .rintro(h|h)
   .exact h3 a h
   .exact h.1
  .intro h
   by_cases hw:a∈ws
   .exact .inl hw
   .exact .inr ⟨h,by simp[hw]⟩
 .rw[zAb]
  refine⟨h2,h1.filter _,λ a ha b hb e=>?_⟩;subst e
  have:=(zAg.mp hb).2
  simp[ha]at this
 .exact h1
def jJ{l:List Int}(nd:l.Nodup)(rg:∀x∈l,0<=x/\x<n):l.length<=n.toNat:=by
 have:=nd.length_le_of_subset (l₂:=upI n) λ x hx=>iD.mpr (rg x hx)
 rwa [fC]at this
theorem aA2:∀(a b:List Int),nQ (a.map .int) (b.map .int)=decide (a=b)
 |[],[]=>rfl
 |[],y::b=>by simp[nQ]
 |x::a,[]=>by simp[nQ]
 |x::a,y::b=>by
  have:=aA2 a b
  simp only[zAD,nQ,eqD,this,List.cons.injEq];by_cases h:x=y<;>simp[h]
theorem ints_of:∀ws:List Int,(ws.map D.int).map intOf=ws
 |[]=>rfl
 |w::ws=>by rw[zAD,zAD,ints_of ws];rfl
theorem aHw{c:En->Rs Bool}{b:En->Ou}{I:Nat->En->Prop}(st:∀m ρ,I m ρ->c ρ= .ok false\/(c ρ= .ok true/\∃ρ' m',b ρ= .nx ρ'/\m'<m/\I m' ρ')):
  ∀(n m:Nat) (ρ:En),m<n->I m ρ->∃ρ' m',itW c b n ρ= .nx ρ'/\I m' ρ'/\c ρ'= .ok false
 |0,_,_,h,_=>absurd h (zES _)
 |n+1,m,ρ,h,hI=>by
  rcases st m ρ hI with e|⟨e,ρ',m',e2,hm,hI'⟩
  .exact⟨ρ,m,by unfold itW;rw[e];rfl,hI,e⟩
  .obtain⟨ρ2,m2,e3,r⟩:=aHw st n m' ρ' (by lia) hI'
   refine⟨ρ2,m2,?_,r⟩;unfold itW;rw[e,bK,if_pos rfl,e2];exact e3
def wK{c:En->Rs Bool}{b:En->Ou}(I:Nat->En->Prop)(st:∀m ρ,I m ρ->c ρ= .ok false\/(c ρ= .ok true/\∃ρ' m',b ρ= .nx ρ'/\m'<m/\I m' ρ')){m:Nat}{ρ:En}(hm:m<1000000)(h:I m ρ):
  ∃ρ' m',uJ c b ρ= .nx ρ'/\I m' ρ'/\c ρ'= .ok false:=aHw st fuel m ρ hm h
def aEo:jw neg (.int i) (bY ps)= .ok (.bl (neg !=(ps.lookup i).isSome)):=by
 unfold jw bY;dsimp only;rw[jX]
def aLo(h:ps.lookup i=some d):kW (bY ps) (.int i)= .ok d:=by
 unfold kW bY;dsimp only;rw[jX];dsimp only;rw[h]
def aCH(h:i∉ps.map (·.1)):rN ps i d=ps++[(i,d)]:=by
 unfold rN;rw[if_neg];rw[zBM];rintro⟨p,hp,e⟩;exact h (zA6.mpr ⟨p,hp,of_decide_eq_true e⟩)
theorem pQ:∀{qs acc:List (Int×D)},(acc.map (·.1)++qs.map (·.1)).Nodup->mC acc qs=acc++qs
 |[],acc,_=>by simp[mC]
 |q::qs,acc,h=>by
  have hn:q.1∉acc.map (·.1):=λ hm=>by
   rw[zAb]at h;exact h.2.2 _ hm _ (by simp) rfl
  have e:mC acc (q::qs)=mC (rN acc q.1 q.2) qs:=rfl;rw[e,aCH hn,pQ (by simpa using h)];simp
def aH8{l m:List Int}(hf:f (shE ρ)= .ok (l.map .int))(hs:stE js (shE ρ)=[.no,.sh (.tup (m.map .int))]\/stE js (shE ρ)=[.no,.sh (.lst (m.map .int))])(hl:l.length<=1000):
  lcD f js (gnm 0) (tsb (op2 (inR true) (aF 0) (aF 1))) (ak (aF 0)) ρ= .ok (.lst ((l.filter λ x=>!decide (x∈m)).map .int)):=by
 refine nM hf (by rw[zAF];lia) ?_;rcases hs with hs|hs<;>rw[hs]
 .refine lB (fg:=gnm 0) (f:=D.int) (g:=D.int) (t:=λ x=>!decide (x∈m)) l λ x _=>⟨[.sh (.int x),.sh (.tup (m.map .int))],rfl,?_,by simp⟩
  have a2:aF 1 [.sh (.int x),.sh (.tup (m.map .int))]= .ok (.tup (m.map .int)):=rfl;have a3:aF 0 [.sh (.int x),.sh (.tup (m.map .int))]= .ok (.int x):=rfl;rw[jD,bh,a3,aL,a2,aL,jm,gA,aL];rfl
 .refine lB (fg:=gnm 0) (f:=D.int) (g:=D.int) (t:=λ x=>!decide (x∈m)) l λ x _=>⟨[.sh (.int x),.sh (.lst (m.map .int))],rfl,?_,by simp⟩
  have a2:aF 1 [.sh (.int x),.sh (.lst (m.map .int))]= .ok (.lst (m.map .int)):=rfl;have a3:aF 0 [.sh (.int x),.sh (.lst (m.map .int))]= .ok (.int x):=rfl;rw[jD,bh,a3,aL,a2,aL,aEc,gA,aL];rfl
structure Dp(ps qs:gX):Prop where
 sub:qs.Sublist ps
 u1:(qs.map (·.1)).Nodup
 u2:(qs.map (·.2)).Nodup
def dq(qs:gX):D:=bY (qs.map λ q=>(q.1,.int q.2))
theorem aD6(a:Int):∀qs:gX,(qs.map λ q=>(q.1,D.int q.2)).lookup a=(qs.lookup a).map .int
 |[]=>rfl
 |q::qs=>by
  rw[zAD,zA7,zA7,aD6 a qs];cases a==q.1<;>rfl
theorem sE:∀{qs:gX},qs.lookup a=some b->(a,b)∈qs
 |q::qs,h=>by
  rw[zA7]at h;cases e:a==q.1 with
  |true=>
   rw[e]at h;cases h;rw[show a=q.1 by simpa using e];exact zAJ
  |false=>
   rw[e]at h;exact zAR _ (sE h)
theorem rm:∀{qs:gX},qs.lookup a=none->(a,b)∉qs
 |[],_,h=>nomatch h
 |q::qs,hn,h=>by
  rw[zA7]at hn;cases e:a==q.1 with
  |true=>rw[e]at hn;cases hn
  |false=>
   rw[e]at hn;rcases zA1.mp h with z|z
   .rw[<-z]at e
    simp at e
   .exact rm hn z
def aMC{qs:gX}(u:(qs.map (·.2)).Nodup)(h1:(a,y)∈qs)(h2:(b,y)∈qs):a=b:=congrArg zDt (iC u _ h1 _ h2 rfl)
def aIQ{qs:gX}(u:(qs.map (·.1)).Nodup)(h1:(a,y)∈qs)(h2:(a,z)∈qs):y=z:=congrArg zFv (iC u _ h1 _ h2 rfl)
def aDb(w:List Int)(y:Int):(w++[y]).getLastD 0=y:=by simp
def aAL{w:List Int}(h:w≠[]):w.getLast h=w.getLastD 0:=by
 rw[zCa,List.getLast?_eq_some_getLast h];rfl
def aFn(h:w≠[])(y:Int):(w++[y]).headD 0=w.headD 0:=by
 cases w with
 |nil=>exact absurd rfl h
 |cons a w=>rfl
structure Wk(n:Int)(qs:gX)(fl w:List Int)(s t:Int):Prop where
 nd:(fl++w).Nodup
 rg:∀x∈fl++w,0<=x/\x<n
 ne:w≠[]
 hd:w.headD 0=s
 lt:w.getLastD 0=t
 al:dR qs w=true
 pr:∀a b,(a,b)∈qs->b∈fl++w->a∈fl++w/\a≠t
 bk:∀x∈w,x=s\/∃a,(a,x)∈qs
 sc:∀a b,(a,b)∈qs->a∈w->a≠t->b∈w
def Wk.start(nd:fl.Nodup)(rg:∀x∈fl,0<=x/\x<n)(s0:0<=s)(s1:s<n)(hs:s∉fl)(no:∀a,(a,s)∉qs)(pr:∀a b,(a,b)∈qs->b∈fl->a∈fl):Wk n qs fl [s] s s where
 nd:=by
  rw[zAb];refine⟨nd,by simp,λ a ha b hb e=>?_⟩;rw[zAM.mp hb]at e;subst e;exact hs ha
 rg:=λ x hx=>by
  rcases zAX.mp hx with h|h
  .exact rg x h
  .rw[zAM.mp h];exact⟨s0,s1⟩
 ne:=by simp
 hd:=rfl
 lt:=rfl
 al:=rfl
 pr:=λ a b h hb=>by
  rcases zAX.mp hb with z|z
  .have:=pr a b h z
   exact⟨zA5 _ this,λ e=>by subst e;exact hs this⟩
  .rw[zAM.mp z]at h
   exact absurd h (no a)
 bk:=λ x hx=>.inl (zAM.mp hx)
 sc:=λ a b _ ha hn=>absurd (zAM.mp ha) hn
def Wk.step{n s t y:Int}(W:Wk n qs fl w s t)(u1:(qs.map (·.1)).Nodup)(u2:(qs.map (·.2)).Nodup)(h:(t,y)∈qs)(y0:0<=y)(y1:y<n):Wk n qs fl (w++[y]) s y where
 nd:=by
  have hy:y∉fl++w:=λ hm=>(W.pr t y h hm).2 rfl
  rw[<-zBP,zAb];refine⟨W.nd,by simp,λ a ha b hb e=>?_⟩;rw[zAM.mp hb]at e;subst e;exact hy ha
 rg:=λ x hx=>by
  rw[<-zBP]at hx;rcases zAX.mp hx with z|z
  .exact W.rg x z
  .rw[zAM.mp z];exact⟨y0,y1⟩
 ne:=by simp
 hd:=by rw[aFn W.ne];exact W.hd
 lt:=aDb _ _
 al:=yj W.ne W.al (by rw[aAL W.ne,W.lt];exact h)
 pr:=λ a b hab hb=>by
  have hy:y∉fl++w:=λ hm=>(W.pr t y h hm).2 rfl
  rw[<-zBP]at hb ⊢;rcases zAX.mp hb with z|z
  .obtain⟨h1,h2⟩:=W.pr a b hab z
   exact⟨zA5 _ h1,λ e=>by subst e;exact hy h1⟩
  .rw[zAM.mp z]at hab
   have e:=aMC u2 hab h;subst e;have ht:a∈fl++w:=zA3 _ (by rw[<-W.lt,<-aAL W.ne];exact List.getLast_mem W.ne);exact⟨zA5 _ ht,λ e=>by subst e;exact hy ht⟩
 bk:=λ x hx=>by
  rcases zAX.mp hx with z|z
  .exact W.bk x z
  .rw[zAM.mp z];exact .inr ⟨t,h⟩
 sc:=λ a b hab ha hn=>by
  rcases zAX.mp ha with z|z
  .by_cases c:a=t
   .subst c
    rw[aIQ u1 hab h];simp
   .exact zA5 _ (W.sc a b hab z c)
  .exact absurd (zAM.mp z) hn
structure Rk(qs:gX)(L w:List Int)(r t:Int):Prop where
 nd:w.Nodup
 sb:∀x∈w,x∈L
 ne:w≠[]
 hd:w.headD 0=r
 lt:w.getLastD 0=t
 al:dR qs w=true
 pr:∀a b,(a,b)∈qs->b∈w->b≠r->a∈w/\a≠t
def dic_q(u1:(qs.map (·.1)).Nodup):aLq [.tup (qs.map pD)]= .ok (dq qs):=by
 have h2:aJn (qs.map pl)=some qs:=by
  clear u1;induction qs with
  |nil=>rfl
  |cons q qs ih=>
   rw[zAD]
   show(match aJn (qs.map pl)with|some r=>some ((q.1,q.2)::r)|none=>none)=_
   rw[ih]
 unfold aLq;dsimp only;rw[aAA];dsimp only;rw[h2];dsimp only;rw[pQ (by simpa[zCR]using u1)];rfl
def aOK:aGL true (.int i) (dq qs)= .ok (.bl (!(qs.map (·.2)).any (·==i))):=by
 unfold aGL dq bY;dsimp only;have h2:intsOf ((qs.map λ q=>(q.1,D.int q.2)).map (·.2))=some (qs.map (·.2)):=by
  rw[zAQ,show((λ x:Int×D=>x.2)∘λ q:Int×Int=>(q.1,D.int q.2))=(D.int∘λ q=>q.2)from rfl,<-zAQ];exact bO _
 rw[jX,h2];dsimp only;cases (qs.map (·.2)).any (·==i)<;>rfl
abbrev pcE(n:Int)(ps qs:gX)(wys rgs:gV)(left:List Int)(s6 s7 s8:Slot):En:=
 [.sh (owD n ps),.sh (.tup (qs.map pD)),.nw (dq qs),.ow (.lst (wys.map tupI)),.ow (.lst (rgs.map tupI)),.nw (.lst (left.map .int)),s6,s7,s8]
def pcX:En->Rs D:=op2 ixD (cQ 7) (op1 aF2 (cD (.int 1)))
def pcW:En->Rs Bool:=tsb (op2 (jw false) pcX (vZ 2))
def pcB:En->Ou:=pF 7 (op2 kW (vZ 2) pcX)
def pcF:En->Ou:=aFG 5 (lcD (cg (aF 5)) [none,some 7] (gnm 0) (tsb (op2 (inR true) (aF 0) (aF 1))) (ak (aF 0)))
def pcL:En->Ou:=ifS (tsb (op2 (aGL true) (aF 6) (vZ 2))) (az (lF 7 (oA (aC (ak (aF 6)) aH))) (az (uJ pcW pcB) (az (pF 3 (ak (opA cM (aC (cQ 7) aH)))) pcF))) Ou.nx
section
variable{n:Int}{ps qs:gX}{wys rgs:gV}{left:List Int}{s6 s8:Slot}
def aLp:jw false (.int i) (dq qs)= .ok (.bl (qs.lookup i).isSome):=by
 unfold dq;rw[aEo,aD6];cases qs.lookup i<;>rfl
def aLn(h:qs.lookup i=some y):kW (dq qs) (.int i)= .ok (.int y):=aLo (by rw[aD6,h];rfl)
def aPi(hl:w.length<=60)(hf:f (pcE n ps qs wys rgs left s6 (.ow (.lst (w.map .int))) s8)= .ok (.int y)):
  pF 7 f (pcE n ps qs wys rgs left s6 (.ow (.lst (w.map .int))) s8)= .nx (pcE n ps qs wys rgs left s6 (.ow (.lst ((w++[y]).map .int))) s8):=by
 have hz:(w.map D.int).length<zAO:=by rw[zAF,szl];lia
 unfold pF;dsimp only[zBA,zAv];rw[hf,bK,if_pos hz,zAa];rfl
def aLu(hn:n<=60)(u1:(qs.map (·.1)).Nodup)(u2:(qs.map (·.2)).Nodup)(rq:∀p∈qs,0<=p.2/\p.2<n)(W:Wk n qs fl w s t):
  ∃w' t',uJ pcW pcB (pcE n ps qs wys rgs left s6 (.ow (.lst (w.map .int))) s8)= .nx (pcE n ps qs wys rgs left s6 (.ow (.lst (w'.map .int))) s8)/\Wk n qs fl w' s t'/\qs.lookup t'=none:=by
 have hx:∀{w t},Wk n qs fl w s t->pcX (pcE n ps qs wys rgs left s6 (.ow (.lst (w.map .int))) s8)= .ok (.int t):=λ{w t} W=>by
  have h:=W.lt;rw[zCa]at h;unfold pcX;simp[aEr rfl W.ne,h]
 have hc:∀{w t},Wk n qs fl w s t->pcW (pcE n ps qs wys rgs left s6 (.ow (.lst (w.map .int))) s8)= .ok (qs.lookup t).isSome:=λ{w t} W=>by
  unfold pcW;rw[jD,bh,hx W,aL]
  show(okD (jw false (.int t) (dq qs))).bd blD=_
  rw[aLp];rfl
 obtain⟨ρ',m',e,⟨w',t',rfl,W',_⟩,ec⟩:=wK (c:=pcW) (b:=pcB) (λ m ρ=>∃w t,ρ=pcE n ps qs wys rgs left s6 (.ow (.lst (w.map .int))) s8/\Wk n qs fl w s t/\m=61-(fl++w).length) (by
  rintro m ρ ⟨w,t,rfl,W,rfl⟩;rw[hc W];cases hl:qs.lookup t with
  |none=>exact .inl rfl
  |some y=>
   have hm:=sE hl;obtain⟨y0,y1⟩:=rq _ hm;have W':=W.step u1 u2 hm y0 y1;have l1:=jJ W.nd W.rg;have l2:=jJ W'.nd W'.rg;have l3:w.length<=60:=by rw[zAZ]at l1;lia
   refine .inr ⟨rfl,_,61-(fl++(w++[y])).length,aPi l3 ?_,?_,w++[y],y,rfl,W',rfl⟩
   .rw[bh]
    show((Rs.ok (dq qs)).bd λ x=>(pcX (pcE n ps qs wys rgs left s6 (.ow (.lst (w.map .int))) s8)).bd λ z=>okD (kW x z))=_
    rw[aL,hx W,aL,aLn hl];rfl
   .simp only[zAZ,zAk,zBW]at l2 ⊢
    lia) (m:=61-(fl++w).length) (by lia) ⟨w,t,rfl,W,rfl⟩
 refine⟨w',t',e,W',?_⟩;rw[hc W']at ec;cases h:qs.lookup t' with
 |none=>rfl
 |some y=>rw[h]at ec;cases ec
end
structure Pi(n:Int)(qs:gX)(i:Nat)(wys:gV):Prop where
 nd:wys.flatten.Nodup
 rg:∀x∈wys.flatten,0<=x/\x<n
 pr:∀a b,(a,b)∈qs->b∈wys.flatten->a∈wys.flatten
 sc:∀a b,(a,b)∈qs->a∈wys.flatten->b∈wys.flatten
 st:∀x:Int,0<=x->x<i->(∀a,(a,x)∉qs)->x∈wys.flatten
 lo:∀x∈wys.flatten,(∀a,(a,x)∉qs)->x<i
 al:∀w∈wys,w≠[]/\dR qs w=true/\(∀a,(a,w.headD 0)∉qs)/\∀b,(w.getLastD 0,b)∉qs
 hs:wys.map (·.headD 0)=(upI i).filter λ x=>!(qs.map (·.2)).any (·==x)
def rD(i:Nat):upI ((i+1:Nat):Int)=upI (i:Int)++[(i:Int)]:=by
 unfold upI;rw[zBJ,zBJ,List.range_succ,zAa];rfl
section
variable{n:Int}{ps qs:gX}{wys rgs:gV}{s6 s7 s8:Slot}
def aHa(h:(qs.map (·.2)).any (·==i)=false)(a:Int):(a,i)∉qs:=λ hm=>by
 rw[zHB]at h;exact h i (zA6.mpr ⟨(a,i),hm,rfl⟩) (by simp)
def aLj(h:(qs.map (·.2)).any (·==i)=true):∃a,(a,i)∈qs:=by
 rw[zBM]at h;obtain⟨j,hj,e⟩:=h;obtain⟨q,hq,rfl⟩:=zA6.mp hj;rw[<-(show q.2=i by simpa using e)];exact⟨q.1,hq⟩
def aIk(k:Nat)(rows:gV)(hk:ρ[k]? =some (.ow (.lst (rows.map tupI))))(hl:rows.length<=1000)(hf:f ρ= .ok (.lst (w.map .int))):
  pF k (ak (opA cM (aC f aH))) ρ= .nx (ρ.set k (.ow (.lst ((rows++[w]).map tupI)))):=by
 have hz:(rows.map tupI).length<zAO:=by rw[zAF,szl];lia
 have g:ak (opA cM (aC f aH)) ρ= .ok (tupI w):=by
  have hi:vh (tupI w)= .ok (tupI w):=lD (yI w);have hA:opA cM (aC f aH) ρ= .ok (tupI w):=by
   rw[gr,bF,hf,aL,fQ,aL,aL];rfl
  show(opA cM (aC f aH) ρ).bd vh=_
  rw[hA,aL,hi]
 unfold pF;rw[hk];dsimp only;rw[g,bK,if_pos hz,zAa];rfl
def aKq{l a b:List Int}:(l.filter λ x=>!decide (x∈a)).filter (λ x=>!decide (x∈b))=l.filter λ x=>!decide (x∈a++b):=by
 rw[List.filter_filter];refine zEn λ x _=>?_
 by_cases h1:x∈a<;>by_cases h2:x∈b<;>simp[h1,h2]
def pcL_ok{i:Nat}(n0:0<=n)(hn:n<=60)(hi:(i:Int)<n)(u1:(qs.map (·.1)).Nodup)(u2:(qs.map (·.2)).Nodup)(rq:∀p∈qs,0<=p.2/\p.2<n)(P:Pi n qs i wys):
  ∃wys' s7',pcL (pcE n ps qs wys [] ((upI n).filter λ x=>!decide (x∈wys.flatten)) (.sh (.int i)) s7 .no)= .nx (pcE n ps qs wys' [] ((upI n).filter λ x=>!decide (x∈wys'.flatten)) (.sh (.int i)) s7' .no)/\Pi n qs (i+1) wys':=by
 have hv:tsb (op2 (aGL true) (aF 6) (vZ 2)) (pcE n ps qs wys [] ((upI n).filter λ x=>!decide (x∈wys.flatten)) (.sh (.int i)) s7 .no)= .ok (!(qs.map (·.2)).any (·==(i:Int))):=by
  rw[jD,bh]
  show(((Rs.ok (D.int i)).bd λ x=>(Rs.ok (dq qs)).bd λ y=>okD (aGL true x y)).bd blD)=_
  rw[aL,aL,aOK];rfl
 unfold pcL;rw[nP,hv,bK];cases hc:(qs.map (·.2)).any (·==(i:Int))with
 |true=>
  refine⟨wys,s7,rfl,P.nd,P.rg,P.pr,P.sc,λ x x0 x1 no=>?_,λ x hx no=>?_,P.al,?_⟩
  .by_cases e:x=i
   .subst e
    obtain⟨a,ha⟩:=aLj hc;exact absurd ha (no a)
   .exact P.st x x0 (by lia) no
  .have:=P.lo x hx no
   lia
  .rw[rD,zDa,P.hs,zBN,if_neg (by rw[hc];exact zAU)]
   simp
 |false=>
  have no:=aHa hc;have hni:(i:Int)∉wys.flatten:=λ h=>by have:=P.lo _ h no;lia
  have W0:=Wk.start (n:=n) (qs:=qs) P.nd P.rg (by lia) hi hni no P.pr;obtain⟨w,t,e1,W,ht⟩:=aLu (ps:=ps) (wys:=wys) (rgs:=[]) (left:=(upI n).filter λ x=>!decide (x∈wys.flatten)) (s6:=.sh (.int i)) (s8:=.no) hn u1 u2 rq W0;have hwl:wys.length<=60:=by
   have h1:=congrArg zCV P.hs;rw[zAF]at h1;rw[h1]
   have:=zEK (λ x=>!(qs.map (·.2)).any (·==x)) (upI (i:Int))
   rw[fC]at this;lia
  have e0:lF 7 (oA (aC (ak (aF 6)) aH)) (pcE n ps qs wys [] ((upI n).filter λ x=>!decide (x∈wys.flatten)) (.sh (.int i)) s7 .no)= .nx (pcE n ps qs wys [] ((upI n).filter λ x=>!decide (x∈wys.flatten)) (.sh (.int i)) (.ow (.lst ([(i:Int)].map .int))) .no):=by simp[lD]
  have e2:=aIk (w:=w) 3 wys (f:=cQ 7) (ρ:=pcE n ps qs wys [] ((upI n).filter λ x=>!decide (x∈wys.flatten)) (.sh (.int i)) (.ow (.lst (w.map .int))) .no) rfl (by lia) rfl;have e3:pcF (pcE n ps qs (wys++[w]) [] ((upI n).filter λ x=>!decide (x∈wys.flatten)) (.sh (.int i)) (.ow (.lst (w.map .int))) .no)= .nx (pcE n ps qs (wys++[w]) [] ((upI n).filter λ x=>!decide (x∈(wys++[w]).flatten)) (.sh (.int i)) (.ow (.lst (w.map .int))) .no):=by
   have hl:((upI n).filter λ x=>!decide (x∈wys.flatten)).length<=1000:=by
    have:=zEK (λ x=>!decide (x∈wys.flatten)) (upI n)
    rw[fC]at this;lia
   have h:=aH8 (f:=cg (aF 5)) (js:=[none,some 7]) (ρ:=pcE n ps qs (wys++[w]) [] ((upI n).filter λ x=>!decide (x∈wys.flatten)) (.sh (.int i)) (.ow (.lst (w.map .int))) .no) (l:=(upI n).filter λ x=>!decide (x∈wys.flatten)) (m:=w) (by simp[shE,nj]) (.inr rfl) hl;unfold pcF;rw[aEF,h,bK,aKq];simp
  refine⟨wys++[w],.ow (.lst (w.map .int)),?_,?_⟩
  .rw[show(!false)=true from rfl,if_pos rfl,aP,e0,aq,aP,e1,aq,aP,e2,aq]
   exact e3
  .have ef:(wys++[w]).flatten=wys.flatten++w:=by simp
   refine⟨by rw[ef];exact W.nd,by rw[ef];exact W.rg,by rw[ef];exact λ a b h hb=>(W.pr a b h hb).1,?_,?_,?_,?_,?_⟩
   .rw[ef]
    intro a b h ha;rcases zAX.mp ha with z|z
    .exact zA5 _ (P.sc a b h z)
    .by_cases c:a=t
     .subst c
      exact absurd h (rm ht)
     .exact zA3 _ (W.sc a b h z c)
   .rw[ef]
    intro x x0 x1 no;by_cases e:x=i
    .subst e
     refine zA3 _ ?_;have h1:=W.ne;have h2:=W.hd;cases w with
     |nil=>exact absurd rfl h1
     |cons a w=>rw[<-h2];exact zAJ
    .exact zA5 _ (P.st x x0 (by lia) no)
   .rw[ef]
    intro x hx no;rcases zAX.mp hx with z|z
    .have:=P.lo x z no
     lia
    .rcases W.bk x z with e|⟨a,ha⟩
     .rw[e];lia
     .exact absurd ha (no a)
   .intro v hv
    rcases zAX.mp hv with z|z
    .exact P.al v z
    .rw[zAM.mp z]
     exact⟨W.ne,W.al,by rw[W.hd];exact no,λ b=>by rw[W.lt];exact rm ht⟩
   .rw[rD,zDa,zAa,P.hs,zBN,if_pos (by rw[hc];rfl)]
    show _++[w.headD 0]=_;rw[W.hd];rfl
end
structure Pc(n:Int)(qs:gX)(wys rgs:gV):Prop where
 pi:Pi n qs n.toNat wys
 rn:∀r∈rgs,r≠[]
 sz:wys.flatten.length+rgs.flatten.length<=n.toNat
def aE5{p q:Int×Int}:ltP p q=true↔p.1<q.1\/p.1=q.1/\p.2<q.2:=by
 unfold ltP;have e:HT.lexLt [p.1,p.2] [q.1,q.2]=true↔p.1<q.1\/p.1=q.1/\p.2<q.2:=by
  by_cases h1:p.1=q.1
  .by_cases h2:p.2=q.2
   .simp[HT.lexLt,h1,h2]
   .simp[HT.lexLt,h1,h2]
  .simp[HT.lexLt,h1]
 exact e
def xG{ps:gX}:xH ps=true↔ps.Pairwise λ p q=>p.1<q.1\/p.1=q.1/\p.2<q.2:=by
 constructor
 .intro h
  have h':=aAu.mp h;clear h;induction ps with
  |nil=>exact .nil
  |cons p ps ih=>
   have hs:∀(i:Nat) (p q:Int×Int),ps[i]? =some p->ps[i+1]? =some q->ltP p q=true:=λ i a b e1 e2=>h' (i+1) a b e1 e2
   have hp:=ih hs;refine zAf.mpr ⟨λ q hq=>?_,hp⟩;cases ps with
   |nil=>cases hq
   |cons r rs=>
    have h1:=aE5.mp (h' 0 p r rfl rfl);rcases zA1.mp hq with rfl|hq
    .exact h1
    .have h2:=(zAf.mp hp).1 q hq
     lia
 .intro h
  rw[aAu];intro i p q e1 e2;rw[aE5];obtain⟨h1,rfl⟩:=zAL.mp e1;obtain⟨h2,rfl⟩:=zAL.mp e2;exact zDg.mp h i (i+1) h1 h2 (zBZ i)
def sw(p:Int×Int):Int×Int:=(p.2,p.1)
theorem aAa{w:Slot}:∀(ps:gX) (ll:dE) (s2 s3:Slot),(∀p∈ps,0<=p.2/\p.2<ll.length)->(∀l∈ll,l.length+ps.length<=10000)->
  ∃s2' s3',forL (gj 2 (bD (gnm 2) (bD (gnm 3) iG))) (gK 1 (aF 3) (ak (aF 2))) (ps.map pD) [w,.o2 ll,s2,s3]= .nx [w,.o2 ((ps.map sw).foldl bz ll),s2',s3']
 |[],ll,s2,s3,_,_=>⟨s2,s3,rfl⟩
 |p::ps,ll,s2,s3,h,hl=>by
  obtain⟨h0,h1⟩:=h p zAJ;have hk:p.2.toNat<ll.length:=by lia
  have hin:ll.getD p.2.toNat []∈ll:=by simp[hk]
  have hz:=hl _ hin;obtain⟨s2',s3',e⟩:=aAa (w:=w) ps (bz ll (sw p)) (.sh (.int p.1)) (.sh (.int p.2)) (λ q hq=>by unfold bz;rw[zBC];exact h q (zAR _ hq)) (λ l hm=>by
   unfold bz at hm;rcases zFe hm with z|z
   .have:=hl l z
    simp at this;lia
   .subst z
    simp[sw]at hz ⊢;lia)
  refine⟨s2',s3',?_⟩;rw[zAD,zAD,iH,zCU];have ha:at2 ll (.int p.2)=some (p.2.toNat,ll.getD p.2.toNat []):=by
   have hx:ixN ll.length p.2=some p.2.toNat:=by
    unfold ixN;rw[if_pos (by lia),if_pos (by lia)]
   simp only[at2,hx,zC3];rw[zAE hk];simp[hk]
  have hb:okE (gj 2 (bD (gnm 2) (bD (gnm 3) iG)) (pD p) [w,.o2 ll,s2,s3]) (λ ρ1=>(gK 1 (aF 3) (ak (aF 2)) ρ1).tn (forL (gj 2 (bD (gnm 2) (bD (gnm 3) iG))) (gK 1 (aF 3) (ak (aF 2))) (ps.map pD)))=
    (gK 1 (aF 3) (ak (aF 2)) [w,.o2 ll,.sh (.int p.1),.sh (.int p.2)]).tn (forL (gj 2 (bD (gnm 2) (bD (gnm 3) iG))) (gK 1 (aF 3) (ak (aF 2))) (ps.map pD)):=by
   simp[pD]
  have hc:gK 1 (aF 3) (ak (aF 2)) [w,.o2 ll,.sh (.int p.1),.sh (.int p.2)]= .nx [w,.o2 (bz ll (sw p)),.sh (.int p.1),.sh (.int p.2)]:=by
   have hz2:(ll.getD p.2.toNat []).length<16777216:=by simp at hz ⊢;lia
   unfold gK;simp only[zBA,zAv];simp[ha];rw[if_pos (by simpa using hz2)];simp[bz,sw]
  rw[hb,hc,aDy];exact e
def aCp{n:Int}{ps:gX}(h:Ow n ps):∃ll,nW [owD n ps]= .ok (.lst (ll.map .lst))/\aLK n (ps.map sw) ll:=by
 have hr:=dm (j:=n) (by have:=h.n0;lia) (by have:=h.n1;lia);have kQ:(cJ 0 n).length=n.toNat:=by rw[il];lia
 have hn1:=h.n1;have hps:=h.len;have hin:∀p∈ps,0<=p.2/\p.2<(zAS n.toNat ([]:List D)).length:=λ p hp=>by
  obtain⟨_,_,a,b,_⟩:=h.pr p hp;rw[zBQ];lia
 obtain⟨s2,s3,e⟩:=aAa (w:=.sh (owD n ps)) ps (zAS n.toNat []) .no .no hin (λ l hl=>by
  rw[(zGq.mp hl).2];simp;lia)
 refine⟨(ps.map sw).foldl bz (zAS n.toNat []),?_,by rw[lz,zBQ],λ i h0 h1=>?_⟩
 .have hz:n.toNat<16777216:=by lia
  have a1:llS 1 (dj gO (aC (op2 ixD (aF 0) (cD (.int 0))) aH)) [none] (gnm 0) [.sh (owD n ps),.no,.no,.no]= .nx [.sh (owD n ps),.o2 (zAS n.toNat []),.no,.no]:=by
   unfold llS;simp[shE,nj,owD,hr,kQ,hz]
  have a2:kO (cg (op2 ixD (aF 0) (cD (.int 1)))) (gj 2 (bD (gnm 2) (bD (gnm 3) iG))) (gK 1 (aF 3) (ak (aF 2))) [.sh (owD n ps),.o2 (zAS n.toNat []),.no,.no]= .nx [.sh (owD n ps),.o2 ((ps.map sw).foldl bz (zAS n.toNat [])),s2,s3]:=by
   have hi:cg (op2 ixD (aF 0) (cD (.int 1))) [.sh (owD n ps),.o2 (zAS n.toNat []),.no,.no]= .ok (ps.map pD):=by simp[owD]
   rw[fU,hi,bK];exact e
  have a3:retS (vY 1) [.sh (owD n ps),.o2 ((ps.map sw).foldl bz (zAS n.toNat [])),s2,s3]= .rt (.lst (((ps.map sw).foldl bz (zAS n.toNat [])).map .lst)):=by simp
  have st:aZ 4 [owD n ps]=[.sh (owD n ps),.no,.no,.no]:=rfl;simp only[nW,iQ,ao,st];rw[aP,a1,aq,aP,a2,aq,a3]
 .have hk:i.toNat<(zAS n.toNat ([]:List D)).length:=by rw[zBQ];lia
  have hg:=uo (ps.map sw) (zAS n.toNat []) i.toNat (λ q hq=>by obtain⟨p,hp,rfl⟩:=zA6.mp hq;exact hin p hp) hk;have hk2:i.toNat<((ps.map sw).foldl bz (zAS n.toNat [])).length:=by rw[lz];exact hk
  have hi:((i.toNat:Nat):Int)=i:=zB9 h0;rw[hi]at hg;rw[<-hi];refine eY ?_;rw[hi,zAP,zAE hk2]
  have:((ps.map sw).foldl bz (zAS n.toNat []))[i.toNat]=(bZ (ps.map sw) i).map .int:=by
   have e1:((ps.map sw).foldl bz (zAS n.toNat [])).getD i.toNat []=((ps.map sw).foldl bz (zAS n.toNat []))[i.toNat]:=by simp[hk2]
   rw[<-e1,hg];have e2:(zAS n.toNat ([]:List D)).getD i.toNat []=[]:=by
    rw[zA0,zBg];split<;>rfl
   rw[e2,zCo]
  rw[this];rfl
def wt(ps:gX)(od:List Int)(x:Int):Nat:=(ps.filter λ p=>p.2==x&& !decide (p.1∈od)).length
theorem wI{p x:Int}{od:List Int}(hp:p∉od):∀{ps:gX},ps.Nodup->wt ps od x=wt ps (od++[p]) x+if (p,x)∈ps then 1 else 0
 |[],_=>rfl
 |q::ps,nd=>by
  obtain⟨h1,h2⟩:=zAj.mp nd;have ih:=wI hp (x:=x) h2;unfold wt at ih ⊢;rw[zBN,zBN];by_cases e:q=(p,x)
  .subst e
   have hn:¬(p,x)∈ps:=h1;rw[if_neg hn]at ih;simp[hp,ih]
  .have hm:(p,x)∈q::ps↔(p,x)∈ps:=⟨λ h=>(zA1.mp h).resolve_left λ z=>e z.symm,zAR _⟩
   rw[show(if (p,x)∈q::ps then 1 else 0)=if (p,x)∈ps then 1 else 0 by simp only[hm]];by_cases c2:q.2=x
   .have c1:q.1≠p:=λ z=>e (zFI z c2)
    by_cases c3:q.1∈od
    .simp[c2,c3,ih]
    .simp[c2,c3,c1,ih]
     lia
   .simp[c2,ih]
structure Kn(n:Int)(ps:gX)(rem W rd od:List Int):Prop where
 lw:W.length=n.toNat
 w:∀x,0<=x->x<n->W[x.toNat]? =some ((wt ps od x:Int)+if x∈rem then 1 else 0)
 nd:(od++rd).Nodup
 rg:∀x∈od++rd,0<=x/\x<n
 z:∀x,0<=x->x<n->(x∈od++rd↔wt ps od x=0/\x∉rem)
 tp:∀l x r,od=l++x::r->∀a,(a,x)∈ps->a∈l
def aIz{ps:gX}{od:List Int}{x a:Int}(h:wt ps od x=0)(ha:(a,x)∈ps):a∈od:=by
 unfold wt at h;rw[zFt,zCt]at h
 have:=h _ ha
 simpa using this
def aFq{rd:List Int}{p x:Int}(h:p∈rd):x∈rd↔x=p\/x∈rd.eraseIdx (rd.idxOf p):=by
 rw[<-zEm rfl];constructor
 .intro hx
  by_cases e:x=p
  .exact .inl e
  .exact .inr ((zG0 e).mpr hx)
 .rintro(rfl|hx)
  .exact h
  .exact zGT hx
def Kn.take{n p:Int}{ps:gX}{W rd od:List Int}(K:Kn n ps [] W rd od)(hp:p∈rd)(nd:ps.Nodup):Kn n ps (bZ ps p) W (rd.eraseIdx (rd.idxOf p)) (od++[p]):=by
 have hno:p∉od:=λ h=>by
  have:=K.nd
  rw[zAb]at this;exact this.2.2 p h p hp rfl
 have aS:∀x,x∈(od++[p])++rd.eraseIdx (rd.idxOf p)↔x∈od++rd:=λ x=>by
  rw[zAX,zAX,zAX,zAM,aFq hp (x:=x)];constructor
  .rintro((h|h)|h)
   .exact .inl h
   .exact .inr (.inl h)
   .exact .inr (.inr h)
  .rintro(h|h|h)
   .exact .inl (.inl h)
   .exact .inl (.inr h)
   .exact .inr h
 refine⟨K.lw,λ x x0 x1=>?_,?_,λ x hx=>K.rg x ((aS x).mp hx),λ x x0 x1=>?_,λ l x r e a ha=>?_⟩
 .rw[K.w x x0 x1,wI hno nd]
  have:(x∈bZ ps p)↔(p,x)∈ps:=pM
  by_cases c:(p,x)∈ps<;>simp[c,this]
 .have h1:=K.nd
  rw[zAb]at h1;obtain⟨n1,n2,n3⟩:=h1;rw[<-zEm rfl];rw[zAb];refine⟨?_,n2.erase p,λ a ha b hb e=>?_⟩
  .rw[zAb]
   refine⟨n1,by simp,λ a ha b hb e=>?_⟩;rw[zAM.mp hb]at e;subst e;exact hno ha
  .subst e
   rcases zAX.mp ha with h|h
   .exact n3 a h a (zGT hb) rfl
   .rw[zAM.mp h]at hb
    exact(n2.mem_erase_iff.mp hb).1 rfl
 .rw[aS,K.z x x0 x1,wI hno nd]
  have:(x∈bZ ps p)↔(p,x)∈ps:=pM
  by_cases c:(p,x)∈ps<;>simp[c,this]
 .rcases List.eq_nil_or_concat r with rfl|⟨r',y,rfl⟩
  .obtain⟨e1,e2⟩:=zHP e rfl
   cases e2;subst e1;obtain⟨p0,p1⟩:=K.rg p (zA3 _ hp);exact aIz ((K.z p p0 p1).mp (zA3 _ hp)).1 ha
  .rw[List.concat_eq_append,<-zDM,<-zBP]at e
   obtain⟨e1,e2⟩:=zHP e rfl;exact K.tp l x r' e1 a ha
def Kn.less{n o:Int}{ps:gX}{rem W rd od:List Int}(K:Kn n ps (o::rem) W rd od)(o0:0<=o)(o1:o<n)(hr:o∉rem):
  Kn n ps rem (W.set o.toNat (wt ps od o:Int)) (if wt ps od o=0 then rd++[o]else rd) od:=by
 have hon:o∉od++rd:=λ h=>((K.z o o0 o1).mp h).2 zAJ
 have aS:∀x,x∈od++(if wt ps od o=0 then rd++[o]else rd)↔x∈od++rd\/(x=o/\wt ps od o=0):=λ x=>by
  by_cases c:wt ps od o=0
  .rw[if_pos c,<-zBP,zAX,zAM]
   exact⟨λ h=>h.imp_right λ z=>⟨z,c⟩,λ h=>h.imp_right λ z=>z.1⟩
  .rw[if_neg c]
   exact⟨.inl,λ h=>h.elim id λ z=>absurd z.2 c⟩
 refine⟨by rw[zBC];exact K.lw,λ x x0 x1=>?_,?_,λ x hx=>?_,λ x x0 x1=>?_,K.tp⟩
 .by_cases e:x=o
  .subst e
   rw[zBL (by rw[K.lw];lia),if_neg hr];simp
  .rw[zBK (by lia),K.w x x0 x1]
   simp[e]
 .by_cases c:wt ps od o=0
  .rw[if_pos c,<-zBP,zAb]
   refine⟨K.nd,by simp,λ a ha b hb e=>?_⟩;rw[zAM.mp hb]at e;subst e;exact hon ha
  .rw[if_neg c];exact K.nd
 .rcases(aS x).mp hx with h|h
  .exact K.rg x h
  .rw[h.1];exact⟨o0,o1⟩
 .rw[aS,K.z x x0 x1]
  by_cases e:x=o
  .subst e
   simp[hr]
  .simp[e]
abbrev oE(n:Int)(ps:gX)(ll:dE)(W rd od:List Int)(s5 s6:Slot):En:=
 [.sh (owD n ps),.sh (.lst (ll.map .lst)),.ow (.lst (W.map .int)),.ow (.lst (rd.map .int)),.ow (.lst (od.map .int)),s5,s6]
def aPM{W:List Int}{x a:Int}(x0:0<=x)(h:W[x.toNat]? =some a):atD (W.map D.int) x= .ok (.int a):=by
 have hi:((x.toNat:Nat):Int)=x:=zB9 x0
 have:=eY (l:=W.map D.int) (k:=x.toNat) (d:=.int a) (by rw[zAP,h];rfl)
 rwa [hi]at this
def aHf{ws:List Int}(h:ws≠[]):∃m,ws.min?=some m:=by
 cases c:ws.min? with
 |none=>rw[List.min?_eq_none_iff]at c;exact absurd c h
 |some m=>exact⟨m,rfl⟩
section
variable{n:Int}{ps:gX}{ll:dE}{W rd od rem:List Int}{s5 s6:Slot}
def aNO{o:Int}(K:Kn n ps (o::rem) W rd od)(hn:n<=60)(o0:0<=o)(o1:o<n)(hr:o∉rem):
  odI (oE n ps ll W rd od s5 (.sh (.int o)))= .nx (oE n ps ll (W.set o.toNat (wt ps od o:Int)) (if wt ps od o=0 then rd++[o]else rd) od s5 (.sh (.int o))):=by
 have hw:=K.w o o0 o1;rw[if_pos zAJ]at hw;have hlt:o.toNat<W.length:=by rw[K.lw];lia
 have hx:aGE (W.map D.int) (.int o)=some (o.toNat,(wt ps od o:Int)+1):=by
  have hix:ixN (W.map D.int).length o=some o.toNat:=by
   unfold ixN;rw[zAF,if_pos o0,if_pos (by lia)]
  unfold aGE;dsimp only;rw[hix,zC3,zAP,hw];rfl
 have a1:aIi (λ i j=>i-j) 2 (aF 6) (cD (.int 1)) (oE n ps ll W rd od s5 (.sh (.int o)))= .nx (oE n ps ll (W.set o.toNat (wt ps od o:Int)) rd od s5 (.sh (.int o))):=by
  have e1:aF 6 (oE n ps ll W rd od s5 (.sh (.int o)))= .ok (.int o):=rfl;have e2:cD (.int 1) (oE n ps ll W rd od s5 (.sh (.int o)))= .ok (.int 1):=rfl;unfold aIi;dsimp only[zBA,zAv];rw[e1,bK,hx];dsimp only;rw[e2,bK];unfold aPL;dsimp only;rw[Int.add_sub_cancel,<-List.map_set];rfl
 have hg:atD ((W.set o.toNat (wt ps od o:Int)).map D.int) o= .ok (.int (wt ps od o:Int)):=aPM o0 (by rw[zBL hlt]);have hc:tsb (op2 (eqR false) (op2 ixD (cQ 2) (aF 6)) (cD (.int 0))) (oE n ps ll (W.set o.toNat (wt ps od o:Int)) rd od s5 (.sh (.int o)))= .ok ((wt ps od o:Int)==0):=by
  have e1:op2 ixD (cQ 2) (aF 6) (oE n ps ll (W.set o.toNat (wt ps od o:Int)) rd od s5 (.sh (.int o)))= .ok (.int (wt ps od o:Int)):=by
   rw[bh]
   show((Rs.ok (D.lst ((W.set o.toNat (wt ps od o:Int)).map D.int))).bd λ x=>(Rs.ok (D.int o)).bd λ y=>okD (ixD x y))=_
   rw[aL,aL];show okD (atD ((W.set o.toNat (wt ps od o:Int)).map D.int) o)=_;rw[hg];rfl
  rw[jD,bh,e1,aL];rfl
 unfold odI;rw[aP,a1,aq,nP,hc,bK];by_cases c:wt ps od o=0
 .have hl:=jJ K.nd K.rg
  rw[zAZ]at hl;rw[if_pos (by rw[c];rfl),if_pos c];have g:ak (aF 6) (oE n ps ll (W.set o.toNat (wt ps od o:Int)) rd od s5 (.sh (.int o)))= .ok (.int o):=rfl;unfold pF;dsimp only[zBA,zAv];rw[g,bK,if_pos (by rw[zAF,szl];lia)];simp
 .have:((wt ps od o:Int)==0)=false:=by simpa using c
  rw[this,if_neg c];rfl
theorem aH6(hn:n<=60):∀(rem:List Int) {W rd:List Int} {s6:Slot},Kn n ps rem W rd od->rem.Nodup->(∀x∈rem,0<=x/\x<n)->∃W' rd' s6',forL (gnm 6) odI (rem.map D.int) (oE n ps ll W rd od s5 s6)= .nx (oE n ps ll W' rd' od s5 s6')/\Kn n ps [] W' rd' od
 |[],W,rd,s6,K,_,_=>⟨W,rd,s6,rfl,K⟩
 |o::rem,W,rd,s6,K,nd,hx=>by
  obtain⟨h1,h2⟩:=zAj.mp nd;obtain⟨o0,o1⟩:=hx o zAJ;obtain⟨W',rd',s6',e,K'⟩:=aH6 hn rem (s6:=.sh (.int o)) (K.less o0 o1 h1) h2 λ x h=>hx x (zAR _ h)
  refine⟨W',rd',s6',?_,K'⟩;rw[zAD,iH];show okE (gnm 6 (.int o) (oE n ps ll W rd od s5 s6)) _=_;rw[um,xZ]
  show(odI (oE n ps ll W rd od s5 (.sh (.int o)))).tn _=_
  rw[aNO K hn o0 o1 h1,aDy];exact e
def aFb(nd:ps.Nodup)(p:Int):(bZ ps p).Nodup:=by
 unfold bZ;have hm:∀q∈ps.filter λ q=>q.1==p,q.1=p:=λ q hq=>by simpa using(zAg.mp hq).2
 rw[zBp,zEo];refine zIA (λ{a b} ha hb hab e=>?_) (nd.filter λ q=>q.1==p);exact hab (zFI ((hm a ha).trans (hm b hb).symm) e)
def aNP(O:Ow n ps)(nd:ps.Nodup)(N:aLK n ps ll)(K:Kn n ps [] W rd od)(hr:rd≠[]):∃W' rd' p s5' s6',odB (oE n ps ll W rd od s5 s6)= .nx (oE n ps ll W' rd' (od++[p]) s5' s6')/\Kn n ps [] W' rd' (od++[p]):=by
 obtain⟨p,hmin⟩:=aHf hr;have hp:p∈rd:=List.min?_mem hmin;obtain⟨p0,p1⟩:=K.rg p (zA3 _ hp);have hl:=jJ K.nd K.rg;rw[zAZ]at hl;have n1:=O.n1;have a1:cN 5 (opA (qJ zFU) (aC (cQ 3) aH)) (oE n ps ll W rd od s5 s6)= .nx (oE n ps ll W rd od (.sh (.int p)) s6):=by
  have:qJ zFU [.lst (rd.map D.int)]= .ok (.int p):=by
   unfold qJ;dsimp only;rw[bO];dsimp only;rw[hmin]
  rw[rJ,gr]
  show((((Rs.ok [D.lst (rd.map D.int)]).bd λ x=>okD (qJ zFU x)).bo λ d=>_))=_
  rw[aL,this];rfl
 have a2:aGm 3 (ak (aF 5)) (oE n ps ll W rd od (.sh (.int p)) s6)= .nx (oE n ps ll W (rd.eraseIdx (rd.idxOf p)) od (.sh (.int p)) s6):=by
  have g:ak (aF 5) (oE n ps ll W rd od (.sh (.int p)) s6)= .ok (.int p):=rfl;unfold aGm;dsimp only[zBA,zAv];rw[g,bK];unfold aM3;rw[bO];dsimp only;rw[if_pos ⟨hp,by rw[szl];lia⟩];rfl
 have a3:pF 4 (ak (aF 5)) (oE n ps ll W (rd.eraseIdx (rd.idxOf p)) od (.sh (.int p)) s6)= .nx (oE n ps ll W (rd.eraseIdx (rd.idxOf p)) (od++[p]) (.sh (.int p)) s6):=by
  have g:ak (aF 5) (oE n ps ll W (rd.eraseIdx (rd.idxOf p)) od (.sh (.int p)) s6)= .ok (.int p):=rfl;unfold pF;dsimp only[zBA,zAv];rw[g,bK,if_pos (by rw[zAF,szl];lia)];simp
 obtain⟨W',rd',s6',e,K'⟩:=aH6 (ll:=ll) (s5:=.sh (.int p)) (s6:=s6) n1 (bZ ps p) (K.take hp nd) (aFb nd p) λ x hx=>by
  have:=O.pr _ (pM.mp hx)
  exact⟨this.2.2.1,this.2.2.2.1⟩
 refine⟨W',rd',p,.sh (.int p),s6',?_,K'⟩;have hi:cg (op2 ixD (aF 1) (aF 5)) (oE n ps ll W (rd.eraseIdx (rd.idxOf p)) (od++[p]) (.sh (.int p)) s6)= .ok ((bZ ps p).map .int):=by
  have e1:op2 ixD (aF 1) (aF 5) (oE n ps ll W (rd.eraseIdx (rd.idxOf p)) (od++[p]) (.sh (.int p)) s6)= .ok (.lst ((bZ ps p).map .int)):=by
   rw[bh]
   show((Rs.ok (D.lst (ll.map .lst))).bd λ x=>(Rs.ok (D.int p)).bd λ y=>okD (ixD x y))=_
   rw[aL,aL];show okD (atD (ll.map .lst) p)=_;rw[N.item p p0 p1];rfl
  rw[aK6,e1];rfl
 unfold odB;rw[aP,a1,aq,aP,a2,aq,aP,a3,aq,fU,hi,bK,e]
end
def aLt(ps:gX)(x:Int):(bZ (ps.map sw) x).length=wt ps [] x:=by
 unfold bZ wt;rw[zAF];induction ps with
 |nil=>rfl
 |cons p ps ih=>
  rw[zAD,zBN,zBN];by_cases c:p.2=x<;>simp[sw,c]<;>simpa[sw]using ih
def aOC{n:Nat}{ps:gX}{od:List Int}(U:Up n ps)(rg:∀x∈od,0<=x/\x<(n:Int))(z:∀x,0<=x->x<(n:Int)->(x∈od↔wt ps od x=0)):n<=od.length:=by
 obtain⟨os,ho,hu⟩:=U;have inj:∀k l,k<n->l<n->os.getD k 0=os.getD l 0->k=l:=λ k l hk hl e=>by
  have k1:k<os.length:=by rw[ho.len];exact hk
  have k2:l<os.length:=by rw[ho.len];exact hl
  have:os[k]? =os[l]?:=by
   rw[zAE k1,zAE k2];simpa[k1,k2]using e
  exact(zCw k1 ho.nd).mp this
 have hk:∀m k,k<m->k<n->os.getD k 0∈od:=by
  intro m;induction m with
  |zero=>intro k h;exact absurd h (zES _)
  |succ m ih=>
   intro k _ hkn;have hin:os.getD k 0∈os:=by
    have:k<os.length:=by rw[ho.len];exact hkn
    simp[this]
   obtain⟨x0,x1⟩:=ho.lo _ hin;rw[z _ x0 x1];unfold wt;rw[zFt,zCt];intro p hp;obtain⟨q,q1,q2,rfl⟩:=hu p hp;simp only[zAW,beq_iff_eq,zDn,decide_eq_false_iff_not,not_and,Decidable.not_not];intro e
   have:=inj _ _ q2 hkn e
   have h3:q.1<m:=by lia
   exact ih q.1 h3 (by lia)
 have hs:os⊆od:=λ x hx=>by
  obtain⟨k,hk1,e⟩:=zD1 hx
  have:=hk (k+1) k (zBZ k) (by rw[<-ho.len];exact hk1)
  rw[<-e];simpa[hk1]using this
 have:=ho.nd.length_le_of_subset hs
 rw[ho.len]at this;exact this
def aDY{n:Nat}{ps:gX}(O:Ow n ps)(U:Up n ps):∃od:List Int,mO [owD n ps]= .ok (.lst (od.map .int))/\od.length=n/\od.Nodup/\(∀x∈od,0<=x/\x<(n:Int))/\∀l x r,od=l++x::r->∀a,(a,x)∈ps->a∈l:=by
 have n1:=O.n1;have nd:ps.Nodup:=by
  have:=xG.mp O.ris
  rw[zBp];exact this.imp λ{a b} h e=>by subst e;lia
 obtain⟨ll,e1,N⟩:=ym O;obtain⟨lc,e2,Nc⟩:=aCp O;obtain⟨W0,hW0⟩:∃W0:List Int,W0=(upI n).map λ x=>(wt ps [] x:Int):=⟨_,rfl⟩
 obtain⟨r0,hr0⟩:∃r0:List Int,r0=(upI n).filter λ x=>wt ps [] x==0:=⟨_,rfl⟩
 have hup:∀x:Int,0<=x->x<n->(upI (n:Int))[x.toNat]? =some x:=λ x x0 x1=>by
  unfold upI;rw[zAP,zCf (by lia)];simp;lia
 have hWx:∀x:Int,0<=x->x<n->W0[x.toNat]? =some (wt ps [] x:Int):=λ x x0 x1=>by
  rw[hW0,zAP,hup x x0 x1];rfl
 have K0:Kn n ps [] W0 r0 []:=by
  refine⟨by rw[hW0,zAF,fC],λ x x0 x1=>by rw[hWx x x0 x1];simp,?_,λ x hx=>?_,λ x x0 x1=>?_,λ l x r e=>by simp at e⟩
  .rw[zCo,hr0];exact(lR _).filter _
  .rw[zCo,hr0]at hx
   exact iD.mp (zAg.mp hx).1
  .rw[zCo,hr0,zAg,iD]
   simp[x0,x1]
 have hc:∀{W rd od:List Int} {s5 s6:Slot},tst (cQ 3) (oE n ps ll W rd od s5 s6)= .ok (!rd.isEmpty):=λ{W rd od s5 s6}=>by
  rw[aAh]
  show(Rs.ok (D.lst (rd.map .int))).bd aJD=_
  rw[aL];cases rd<;>rfl
 obtain⟨ρ',m',ew,⟨W,rd,od,s5,s6,rfl,K,_⟩,ec⟩:=wK (c:=tst (cQ 3)) (b:=odB) (λ m ρ=>∃W rd od s5 s6,ρ=oE n ps ll W rd od s5 s6/\Kn n ps [] W rd od/\m=61-od.length) (by
  rintro m ρ ⟨W,rd,od,s5,s6,rfl,K,rfl⟩;rw[hc];cases rd with
  |nil=>exact .inl rfl
  |cons r rd=>
   obtain⟨W',rd',p,s5',s6',e,K'⟩:=aNP (s5:=s5) (s6:=s6) O nd N K (by simp);refine .inr ⟨rfl,_,61-(od++[p]).length,e,?_,W',rd',_,s5',s6',rfl,K',rfl⟩
   have:=jJ K'.nd K'.rg
   rw[zAZ]at this;rw[zAZ,zAk,zBW]at this ⊢;lia) (m:=61-([]:List Int).length) (by simp) ⟨W0,r0,[],.no,.no,rfl,K0,rfl⟩
 have hrd:rd=[]:=by
  rw[hc]at ec;cases rd with
  |nil=>rfl
  |cons _ _=>cases ec
 subst hrd;have hl:=jJ K.nd K.rg;rw[zBG]at hl;have hge:=aOC U (λ x hx=>K.rg x (by rw[zBG];exact hx)) λ x x0 x1=>by
  have:=K.z x x0 x1
  rw[zBG]at this;rw[this];simp
 have knd:=K.nd;have krg:=K.rg;rw[zBG]at knd krg;refine⟨od,?_,by lia,knd,krg,K.tp⟩;have st:aZ 7 [owD n ps]=[.sh (owD n ps),.no,.no,.no,.no,.no,.no]:=rfl;have b1:cN 1 (aR iW (aC (aF 0) aH)) [.sh (owD n ps),.no,.no,.no,.no,.no,.no]= .nx [.sh (owD n ps),.sh (.lst (ll.map .lst)),.no,.no,.no,.no,.no]:=by simp[e1]
 have b2:lF 2 aNR [.sh (owD n ps),.sh (.lst (ll.map .lst)),.no,.no,.no,.no,.no]= .nx [.sh (owD n ps),.sh (.lst (ll.map .lst)),.ow (.lst (W0.map .int)),.no,.no,.no,.no]:=by
  have hlc:lc=(upI (n:Int)).map λ x=>(bZ (ps.map sw) x).map D.int:=by
   refine List.ext_getElem? λ k=>?_
   by_cases hk:k<n
   .have h:=Nc.item k (by lia) (by lia)
    have hk2:k<lc.length:=by rw[Nc.len];lia
    have h2:=eY (l:=lc.map D.lst) (k:=k) (d:=.lst lc[k]) (by rw[zAP,zAE hk2];rfl);rw[h2]at h;replace h:=D.lst.inj (Rs.ok.inj h);rw[zAE hk2,zAP,h]
    have:=hup k (by lia) (by lia)
    rw[zBJ]at this;rw[this,zDY]
   .rw[zDI (by rw[Nc.len];lia),zDI (by rw[zAF,fC];lia)]
  have h:aNR [.sh (owD n ps),.sh (.lst (ll.map .lst)),.no,.no,.no,.no,.no]= .ok (.lst (W0.map .int)):=by
   refine nM (ds:=(upI (n:Int)).map λ x=>.lst ((bZ (ps.map sw) x).map D.int)) ?_ (by rw[zAF,fC];lia) ?_
   .have:(lc.map D.lst)=(upI (n:Int)).map λ x=>.lst ((bZ (ps.map sw) x).map D.int):=by rw[hlc,zAQ];rfl
    rw[<-this];simp[shE,nj,e2]
   .rw[hW0,zAQ]
    refine aBK (fg:=gnm 0) (fe:=opA fJ (aC (aF 0) aH)) (f:=λ x=>.lst ((bZ (ps.map sw) x).map D.int)) (g:=D.int∘λ x=>(wt ps [] x:Int)) (upI n) λ x _=>⟨[.sh (.lst ((bZ (ps.map sw) x).map D.int))],rfl,?_⟩
    have:=aLt ps x
    simp[this]
  rw[aEE,h,bK];rfl
 have b3:lF 3 aNQ [.sh (owD n ps),.sh (.lst (ll.map .lst)),.ow (.lst (W0.map .int)),.no,.no,.no,.no]= .nx [.sh (owD n ps),.sh (.lst (ll.map .lst)),.ow (.lst (W0.map .int)),.ow (.lst (r0.map .int)),.no,.no,.no]:=by
  have hr:=dm (j:=(n:Int)) (by lia) (by lia);have h:aNQ [.sh (owD n ps),.sh (.lst (ll.map .lst)),.ow (.lst (W0.map .int)),.no,.no,.no,.no]= .ok (.lst (r0.map .int)):=by
   refine nM (ds:=(upI (n:Int)).map .int) (by rw[<-qi];simp[shE,nj,owD,hr]) (by rw[zAF,fC];lia) ?_;rw[hr0];refine lB (fg:=gnm 0) (f:=D.int) (g:=D.int) (t:=λ x=>wt ps [] x==0) (upI n) λ x hx=>⟨[.sh (.int x),.sh (.lst (W0.map .int))],rfl,?_,rfl⟩
   obtain⟨x0,x1⟩:=iD.mp hx;have h1:=aPM x0 (hWx x x0 x1);have e1:op2 ixD (aF 1) (aF 0) [.sh (.int x),.sh (.lst (W0.map .int))]= .ok (.int (wt ps [] x:Int)):=by
    rw[bh]
    show((Rs.ok (D.lst (W0.map .int))).bd λ y=>(Rs.ok (D.int x)).bd λ z=>okD (ixD y z))=_
    rw[aL,aL];show okD (atD (W0.map .int) x)=_;rw[h1];rfl
   rw[jD,bh,e1,aL];show Rs.ok ((wt ps [] x:Int)==0)=_;have hz:((wt ps [] x:Int)==0)=(wt ps [] x==0):=by
    generalize wt ps [] x=k;rw[zBw,beq_iff_eq,beq_iff_eq];lia
   rw[hz]
  rw[aEE,h,bK];rfl
 have b4:lF 4 (oA aH) [.sh (owD n ps),.sh (.lst (ll.map .lst)),.ow (.lst (W0.map .int)),.ow (.lst (r0.map .int)),.no,.no,.no]= .nx (oE n ps ll W0 r0 [] .no .no):=by simp
 simp only[mO,j7,ao,st];rw[aP,b1,aq,aP,b2,aq,aP,b3,aq,aP,b4,aq,aP,ew,aq];simp
def mG{n:Nat}{ps:gX}(O:Ow n ps)(U:Up n ps):cF [owD n ps]= .ok .non:=by
 obtain⟨od,e,hl,_⟩:=aDY O U;have ck:=iR O;have st:aZ 2 [owD n ps]=[.sh (owD n ps),.no]:=rfl;have hi:vh (.tup (od.map D.int))= .ok (.tup (od.map D.int)):=lD (by simp only[imm];exact aC8 od);have h1:ig [owD n ps]= .ok (.tup (od.map .int)):=by
  have ho:(od.length:Int)=n:=by lia
  simp only[ig,dJ,ao,st];have c0:lE (aR cG (aC (aF 0) aH)) [.sh (owD n ps),.no]= .nx [.sh (owD n ps),.no]:=by simp[ck]
  have c1:cN 1 (aR mO (aC (aF 0) aH)) [.sh (owD n ps),.no]= .nx [.sh (owD n ps),.sh (.lst (od.map .int))]:=by simp[e]
  rw[aP,c0,aq,aP,c1,aq];simp[owD,ho,hi]
 have st1:aZ 1 [owD n ps]=[.sh (owD n ps)]:=rfl;have g:isD false (.tup (od.map D.int)) .non= .ok (.bl false):=rfl;simp only[cF,cO,ao,st1];simp[h1,g]
def rO(m:Int):D->Bool
 | .tup ts=>ts.all (bW m)&&iu ltI (ts.map intOf)
 |_=>false
def zr(h:pln d=true)(hs:aAm d=true):fB [.int m,d]= .ok (.bl (rO m d)):=by
 cases d with
 |tup ts=>
  have hp:nu ts=true:=by simpa[pln]using h
  have hl:ts.length<=100000:=by simpa[aAm]using hs
  have L:=pP (a:=gnm 2) (u:=ifS (jQ (tst (aR dI (aC (aF 0) (aC (aF 2) aH))))) (retS (cD (.bl false))) Ou.nx) (r:=.bl false)
   ts (λ i=>match ts[i]? with|some t=>bW m t|none=>true) (λ ρ=>∃s,ρ=[.sh (.int m),.sh (.tup ts),s]) [.sh (.int m),.sh (.tup ts),.no] ⟨_,rfl⟩ (by
    rintro i d ρ hd ⟨s,rfl⟩;have e:=o5 (m:=m) (jO (oW hp (zAr hd)));simp only[hd];cases c:bW m d with
    |true=>right;exact⟨_,by simp[e,c];rfl,⟨_,rfl⟩,rfl⟩
    |false=>left;exact⟨by simp[e,c],rfl⟩)
  have st:aZ 3 [.int m,.tup ts]=[.sh (.int m),.sh (.tup ts),.no]:=rfl;rcases L with ⟨e,i,hi,o⟩|⟨ρ',e,⟨s,rfl⟩,o⟩
  .have:ts.all (bW m)=false:=by
    rw[zHA];rw[zAE hi]at o;exact⟨ts[i],zEy hi,by simpa using o⟩
   simp only[fB,cT,ao,st];simp[e,rO,this]
  .have:ts.all (bW m)=true:=by
    rw[zAl];intro t ht;obtain⟨i,hi,rfl⟩:=zD1 ht
    have:=o i hi
    rw[zAE hi]at this;exact this
   have er:=aC5 (ps:=ts.map intOf) (by rw[zAF];exact hl);rw[(kh this).1]at er;simp only[fB,cT,ao,st];simp[e,rO,this,er]
 |_=>simp[fB,cT,aZ,j0 (jO h),nO,rO]
def aH5:qH n l=true↔sortI l=upI n:=by
 unfold qH;rw[qi];show nQ ((sortI l).map .int) ((upI n).map .int)=true↔_;rw[aA2,decide_eq_true_eq]
def aJ6(rws:gV):(rws.map tupI).map rowOf=rws:=by
 rw[zAQ]
 conv=>rhs;rw[<-zGc rws]
 exact zB7 λ r _=>ints_of r
def aNs{l:List Int}:l.Nodup->(ddI l).length=l.length:=by
 have key:∀(l acc:List Int),(acc++l).Nodup->l.foldl zBh acc=acc++l:=λ l=>by
  induction l with
  |nil=>intro acc _;simp
  |cons a l ih=>
   intro acc h;have hn:a∉acc:=λ hm=>by
    rw[zAb]at h;exact h.2.2 a hm a zAJ rfl
   have e:zBh acc a=acc++[a]:=by
    unfold zBh;simp[hn]
   rw[zCU,e,ih (acc++[a]) (by simpa using h)];simp
 intro h;unfold ddI;rw[key l [] (by simpa using h)];rfl
def aDo{qs ps:gX}(h:∀p∈qs,p∈ps){w:List Int}(hw:dR qs w=true):dR ps w=true:=
 pW.mpr λ i a b h1 h2=>h _ (pW.mp hw i a b h1 h2)
def aN2{n:Int}{ps:gX}{w:List Int}(h1:w≠[])(h2:∀x∈w,0<=x/\x<n)(h3:w.Nodup)(h4:dR ps w=true):nJ n ps (tupI w)=true:=by
 have hi:(w.map D.int).map intOf=w:=ints_of w;unfold tupI nJ;dsimp only;rw[hi,h4,zAF,aNs h3]
 have:(w.map D.int).all (bW n)=true:=by
  rw[zAl];intro d hd;obtain⟨x,hx,rfl⟩:=zA6.mp hd;obtain⟨a,b⟩:=h2 x hx;simp[bW,a,b]
 rw[this];cases w with
 |nil=>exact absurd rfl h1
 |cons a w=>simp
theorem aAF:∀{wys:gV},(∀w∈wys,w≠[])->(wys.map (·.headD 0)).Pairwise (·< ·)->iu HT.lexLt wys=true
 |[],_,_=>rfl
 |[_],_,_=>rfl
 |v::w::r,hn,h=>by
  have h1:=(zAf.mp h).1 (w.headD 0) (by simp);have ih:=aAF (wys:=w::r) (λ x hx=>hn x (zAR _ hx)) (zAf.mp h).2;have hv:=hn v zAJ;have hw:=hn w (zAR _ zAJ);unfold iu;rw[ih,zCD];cases v with
  |nil=>exact absurd rfl hv
  |cons a v=>
   cases w with
   |nil=>exact absurd rfl hw
   |cons b w=>
    replace h1:a<b:=h1;have hne:¬a=b:=by lia
    simp[HT.lexLt,hne,h1]
def aGM(n:Int):(upI n).Pairwise (·< ·):=by
 unfold upI;rw[zEo];exact(List.pairwise_lt_range).imp λ h=>by lia
def aKL{n:Int}{l:List Int}(nd:l.Nodup)(rg:∀x∈l,0<=x/\x<n)(h:∀x,0<=x->x<n->x∈l):qH n l=true:=by
 rw[aH5];have hp:(sortI l).Perm (upI n):=(sortI_perm l).trans ((zD9 nd (lR n)).mpr λ x=>by rw[iD];exact⟨rg x,λ z=>h x z.1 z.2⟩);exact hp.eq_of_pairwise (le:=(·<=·)) (λ a b _ _ h1 h2=>by lia) (lU _) ((aGM n).imp λ h=>by lia)
theorem aGk{r:List Int}:∀{rws:gV},rws.flatten.Nodup->r∈rws->r.Nodup
 |a::l,h,hr=>by
  rw[zBH,zAb]at h;rcases zA1.mp hr with rfl|hr
  .exact h.1
  .exact aGk h.2.1 hr
def aFS{n:Nat}{ps qs:gX}{wys:gV}(O:Ow n ps)(U:Up n ps)(bP:∀p∈qs,p∈ps)(P:Pi n qs (n:Int).toNat wys):lpB n ps (.tup (wys.map tupI))=true:=by
 obtain⟨os,ho,hu⟩:=U;have inj:∀k l,k<n->l<n->os.getD k 0=os.getD l 0->k=l:=λ k l hk hl e=>by
  have k1:k<os.length:=by rw[ho.len];exact hk
  have k2:l<os.length:=by rw[ho.len];exact hl
  have:os[k]? =os[l]?:=by
   rw[zAE k1,zAE k2];simpa[k1,k2]using e
  exact(zCw k1 ho.nd).mp this
 have hk:∀m k,k<m->k<n->os.getD k 0∈wys.flatten:=by
  intro m;induction m with
  |zero=>intro k h;exact absurd h (zES _)
  |succ m ih=>
   intro k _ hkn;have hin:os.getD k 0∈os:=by
    have:k<os.length:=by rw[ho.len];exact hkn
    simp[this]
   obtain⟨x0,x1⟩:=ho.lo _ hin;by_cases c:∃a,(a,os.getD k 0)∈qs
   .obtain⟨a,ha⟩:=c
    obtain⟨q,q1,q2,e⟩:=hu _ (bP _ ha);have e1:a=os.getD q.1 0:=congrArg zDt e;have e2:os.getD k 0=os.getD q.2 0:=congrArg zFv e
    have:=inj _ _ hkn q2 e2
    exact P.sc _ _ ha (by rw[e1];exact ih q.1 (by lia) (by lia))
   .exact P.st _ x0 (by lia) λ a ha=>c ⟨a,ha⟩
 have kK:∀x:Int,0<=x->x<n->x∈wys.flatten:=λ x x0 x1=>by
  have hs:os⊆wys.flatten:=λ y hy=>by
   obtain⟨k,hk1,e⟩:=zD1 hy
   have:=hk (k+1) k (zBZ k) (by rw[<-ho.len];exact hk1)
   rw[<-e];simpa[hk1]using this
  have hx:x∈os:=by
   by_cases c:x∈os
   .exact c
   .exfalso
    have:=(zAj.mpr ⟨c,ho.nd⟩).length_le_of_subset (l₂:=upI n) λ y hy=>by
     rw[iD];rcases zA1.mp hy with rfl|hy
     .exact⟨x0,x1⟩
     .exact ho.lo y hy
    rw[zAk,ho.len,fC]at this;lia
  exact hs hx
 have hr:(wys.map tupI).map rowOf=wys:=aJ6 wys;have hne:∀w∈wys,w≠[]:=λ w hw=>(P.al w hw).1
 unfold lpB goG aAT;dsimp only;rw[hr,aKL P.nd P.rg kK,zCD,aAF hne ?_,zCD,zAl]
 .intro d hd
  obtain⟨w,hw,rfl⟩:=zA6.mp hd;exact aN2 (hne w hw) (λ x hx=>P.rg x (List.mem_flatten.mpr ⟨w,hw,hx⟩)) (aGk P.nd hw) (aDo (λ p hp=>bP p hp) (P.al w hw).2.1)
 .rw[P.hs]
  exact((aGM _).sublist zCe)
def aM2{l:List Int}(h:l.Pairwise (·< ·)):iu ltI l=true:=by
 induction l with
 |nil=>rfl
 |cons a l ih=>
  cases l with
  |nil=>rfl
  |cons b l=>
   have h1:=(zAf.mp h).1 b zAJ;unfold iu;rw[ih (zAf.mp h).2,zCD];simpa[ltI]using h1
def aHK{n:Int}{l:List Int}(h:l.Sublist (upI n)):rO n (tupI l)=true:=by
 have hi:(l.map D.int).map intOf=l:=ints_of l;unfold tupI rO;dsimp only;rw[hi,aM2 ((aGM n).sublist h),zCD,zAl];intro d hd;obtain⟨x,hx,rfl⟩:=zA6.mp hd;obtain⟨a,b⟩:=iD.mp (h.subset hx);simp[bW,a,b]
def lpT:En->Rs Bool:=tsb (op2 ltD (aR bB (aC (aF 1) (aC (op2 cj (op2 cj (aF 2) (cD (.int 1))) (aF 0)) (aC (cD (.int 5)) aH)))) (aF 3))
def qK{c s n:Int}(s0:0<=s)(s1:s<=1000)(n0:0<=n)(n1:n<=60):∃xs:List Int,g8 [.int c,.int s,.int n]= .ok (.tup (xs.map .int))/\xs.Sublist (upI n):=by
 obtain⟨r,e,b⟩:=wC (c:=c) (k:=s) (b:=4) (by lia) (by lia) (by decide) (by decide);have st:aZ 4 [.int c,.int s,.int n]=[.sh (.int c),.sh (.int s),.sh (.int n),.no]:=rfl;have hr:=dm (j:=n) (by lia) (by lia);obtain⟨t,ht⟩:∃t:Int->Bool,∀x∈upI n,lpT [.sh (.int x),.sh (.int c),.sh (.int s),.sh (.int (1+(r:Int)))]= .ok (t x):=by
  refine⟨λ x=>match lpT [.sh (.int x),.sh (.int c),.sh (.int s),.sh (.int (1+(r:Int)))]with| .ok b=>b|_=>false,λ x hx=>?_⟩;obtain⟨x0,x1⟩:=iD.mp hx;obtain⟨r2,e2,_⟩:=wC (c:=c) (k:=s+1+x) (b:=5) (by lia) (by lia) (by decide) (by decide)
  have:lpT [.sh (.int x),.sh (.int c),.sh (.int s),.sh (.int (1+(r:Int)))]= .ok (decide ((r2:Int)<1+(r:Int))):=by
   unfold lpT;simp[e2]
  dsimp only;rw[this]
 refine⟨(upI n).filter t,?_,zCe⟩;have hc:lcD (dj gO (aC (aF 2) aH)) [none,some 0,some 1,some 3] (gnm 0) lpT (ak (aF 0)) [.sh (.int c),.sh (.int s),.sh (.int n),.sh (.int (1+(r:Int)))]= .ok (.lst (((upI n).filter t).map .int)):=by
  refine nM (ds:=(upI n).map .int) (by rw[<-qi];simp[shE,nj,hr]) (by rw[zAF,fC];lia) ?_;exact lB (fg:=gnm 0) (f:=D.int) (g:=D.int) (t:=t) (upI n) λ x hx=>⟨[.sh (.int x),.sh (.int c),.sh (.int s),.sh (.int (1+(r:Int)))],rfl,ht x hx,rfl⟩
 have e1:cN 3 (op2 cj (cD (.int 1)) (aR bB (aC (aF 0) (aC (aF 1) (aC (cD (.int 4)) aH))))) [.sh (.int c),.sh (.int s),.sh (.int n),.no]= .nx [.sh (.int c),.sh (.int s),.sh (.int n),.sh (.int (1+(r:Int)))]:=by simp[e]
 have df:eQ=az (cN 3 (op2 cj (cD (.int 1)) (aR bB (aC (aF 0) (aC (aF 1) (aC (cD (.int 4)) aH)))))) (retS (opA cM (aC (lcD (dj gO (aC (aF 2) aH)) [none,some 0,some 1,some 3] (gnm 0) lpT (ak (aF 0))) aH))):=rfl;simp only[g8,df,ao,st];rw[aP,e1,aq,iY,gr,bF,hc];rfl
theorem aCK:∀qs:List (Int×D),nq (qs.map λ q=>.tup [.int q.1,q.2])=some qs
 |[]=>rfl
 |q::qs=>by rw[zAD];unfold nq;rw[aCK qs];rfl
def aI8{fi:En->Rs (List D)}{js:hV}{fg:D->En->Rs En}{ft:En->Rs Bool}{fk fv:En->Rs D}{ρ:En}{ds:List D}{qs:List (Int×D)}(h1:fi (shE ρ)= .ok ds)(h2:ds.length<16777216)
  (h3:lcL (stE js (shE ρ)) fg ft (pairE fk fv) ds= .ok (qs.map λ q=>.tup [.int q.1,q.2])):dcI fi js fg ft fk fv ρ= .ok (bY (mC [] qs)):=by
 unfold dcI;rw[h1,aL,if_pos (by rw[szl];exact h2),h3];dsimp only;rw[aCK]
def ni{n:Int}{d:D}(h:pln d=true)(hs:aAm d=true):dg [.int n,d]=if rO n d=true then .ok .non else .ex "NoPlace":=by
 have st:aZ 2 [.int n,d]=[.sh (.int n),.sh d]:=rfl;simp only[dg,dC,ao,st];cases c:rO n d<;>simp[zr h hs,c]
section
variable{n:Nat}{ps:gX}{b e:D}{xs ys:List Int}
def zj(O:Ow n ps)(U:Up n ps)(h1:pln b=true)(h2:aAm b=true)(h3:pln e=true)(h4:aAm e=true):eZ [owD n ps,b,e]=if (rO n b&&rO n e)=true then .ok .non else .ex "NoPlace":=by
 have st:aZ 3 [owD n ps,b,e]=[.sh (owD n ps),.sh b,.sh e]:=rfl;have e0:=mG O U;have c0:lE (aR cF (aC (aF 0) aH)) [.sh (owD n ps),.sh b,.sh e]= .nx [.sh (owD n ps),.sh b,.sh e]:=by simp[e0]
 simp only[eZ,eX,ao,st];rw[aP,c0,aq];cases c1:rO n b<;>cases c2:rO n e<;>simp[owD,ni h1 h2,ni h3 h4,c1,c2]
def aLc(l:List Int):pln (tupI l)=true:=aCM l
def aG4{l:List Int}(h:l.length<=1000):aAm (tupI l)=true:=by
 show decide ((l.map D.int).length<=100000)=true;rw[zAF,decide_eq_true_eq];lia
structure To(n:Nat)(xs ys:List Int):Prop where
 lx:xs.length<=1000
 ly:ys.length<=1000
 px:rO n (tupI xs)=true
 py:rO n (tupI ys)=true
def aJE(O:Ow n ps)(U:Up n ps)(T:To n xs ys):eZ [owD n ps,tupI xs,tupI ys]= .ok .non:=by
 rw[zj O U (aLc xs) (aG4 T.lx) (aLc ys) (aG4 T.ly),T.px,T.py];rfl
def thF(xs ys:List Int)(p:Int×Int):Bool:=!decide (p.2∈xs)&& !decide (p.1∈ys)
def aCz(O:Ow n ps)(U:Up n ps)(T:To n xs ys):mL [owD n ps,tupI xs,tupI ys]= .ok (owD n (ps.filter (thF xs ys))):=by
 have st:aZ 3 [owD n ps,tupI xs,tupI ys]=[.sh (owD n ps),.sh (tupI xs),.sh (tupI ys)]:=rfl;have ck:=aJE O U T;have c0:lE (aR eZ (aC (aF 0) (aC (aF 1) (aC (aF 2) aH)))) [.sh (owD n ps),.sh (tupI xs),.sh (tupI ys)]= .nx [.sh (owD n ps),.sh (tupI xs),.sh (tupI ys)]:=by simp[ck]
 have hc:thC [.sh (owD n ps),.sh (tupI xs),.sh (tupI ys)]= .ok (.lst ((ps.filter (thF xs ys)).map pD)):=by
  refine nM (ds:=ps.map pD) (by simp[shE,nj,owD]) (by have:=O.len;rw[zAF];lia) ?_;refine lB (f:=pD) (g:=pD) (t:=thF xs ys) ps λ p _=>⟨[.sh (.int p.1),.sh (.int p.2),.sh (tupI xs),.sh (tupI ys)],by simp[pD,stE,shE,nj],?_,by simp[pD,lD]⟩
  have e1:tsb (op2 (inR true) (aF 1) (aF 2)) [.sh (.int p.1),.sh (.int p.2),.sh (tupI xs),.sh (tupI ys)]= .ok (!decide (p.2∈xs)):=by
   rw[jD,bh]
   show(((Rs.ok (D.int p.2)).bd λ x=>(Rs.ok (tupI xs)).bd λ y=>okD (inR true x y)).bd blD)=_
   rw[aL,aL]
   show(okD (inR true (.int p.2) (.tup (xs.map .int)))).bd blD=_
   rw[jm];rfl
  have e2:tsb (op2 (inR true) (aF 0) (aF 3)) [.sh (.int p.1),.sh (.int p.2),.sh (tupI xs),.sh (tupI ys)]= .ok (!decide (p.1∈ys)):=by
   rw[jD,bh]
   show(((Rs.ok (D.int p.1)).bd λ x=>(Rs.ok (tupI ys)).bd λ y=>okD (inR true x y)).bd blD)=_
   rw[aL,aL]
   show(okD (inR true (.int p.1) (.tup (ys.map .int)))).bd blD=_
   rw[jm];rfl
  rw[aB8,e1,aL,e2];unfold thF;cases decide (p.2∈xs)<;>simp
 simp only[mL,j6,ao,st];rw[aP,c0,aq,iY,vy,bF];have hv:ak (op2 ixD (aF 0) (cD (.int 0))) [.sh (owD n ps),.sh (tupI xs),.sh (tupI ys)]= .ok (.int n):=by simp[owD,lD]
 rw[hv,aL,bF,gr,bF,hc,aL,fQ,aL,aL,qT,gA,aL,aL,aL,aL,if_pos (by simp),bK];rfl
end
def vI(p:Int×Int):Int×D:=(p.1,.int p.2)
def vT(e:Int):Int×D:=(e,.bl true)
def putN(cm:gX)(i j:Int):gX:=if (cm.any λ p=>decide (p.1=i))=true then cm.map (λ p=>if p.1=i then(p.1,j)else p)else cm++[(i,j)]
def aJh(cm:gX)(i j:Int):rN (cm.map vI) i (.int j)=(putN cm i j).map vI:=by
 unfold rN putN;have e:((cm.map vI).any λ p=>decide (p.1=i))=cm.any λ p=>decide (p.1=i):=by rw[zIC];rfl
 rw[e];split
 .rw[zAQ,zAQ]
  refine zB7 λ p _=>?_
  show(if p.1=i then((p.1,D.int j):Int×D)else vI p)=vI (if p.1=i then(p.1,j)else p)
  split<;>rfl
 .rw[zAa];rfl
theorem aHj(i:Int):∀cm:gX,(cm.map vI).lookup i=(cm.lookup i).map .int
 |[]=>rfl
 |p::cm=>by
  rw[zAD]
  show((p.1,D.int p.2)::cm.map vI).lookup i=(((p.1,p.2)::cm).lookup i).map .int
  rw[zA7,zA7];cases i==p.1
  .exact aHj i cm
  .rfl
theorem aHi(e:Int):∀tr:List Int,((tr.map vT).lookup e).isSome=decide (e∈tr)
 |[]=>rfl
 |p::tr=>by
  rw[zAD]
  show(((p,D.bl true)::tr.map vT).lookup e).isSome=_
  rw[zA7];by_cases h:e=p
  .subst h;simp
  .have:(e==p)=false:=by simpa using h
   rw[this]
   show((tr.map vT).lookup e).isSome=_
   rw[aHi e tr];simp[h]
def aJg{tr:List Int}{e:Int}(h:e∉tr):rN (tr.map vT) e (.bl true)=(tr++[e]).map vT:=by
 rw[aCH (by rw[zAQ];simpa[zCR,vT]using h),zAa];rfl
def yK(cm:gX):flats (cm.map vI)=true:=by
 unfold flats;rw[zEs];exact zAl.mpr λ p _=>rfl
def aC9(tr:List Int):flats (tr.map vT)=true:=by
 unfold flats;rw[zEs];exact zAl.mpr λ p _=>rfl
theorem wA{i:Int}:∀{cm:gX},cm.lookup i=none↔i∉cm.map (·.1)
 |[]=>by simp
 |p::cm=>by
  obtain⟨a,b⟩:=p;rw[zA7];by_cases h:i=a
  .subst h;simp
  .have:(i==a)=false:=by simpa using h
   rw[this];show cm.lookup i=none↔_;rw[wA];simp[h]
theorem ud{i j:Int}:∀{cm:gX},cm.lookup i=some j->(i,j)∈cm
 |[],h=>by cases h
 |(a,b)::cm,h=>by
  rw[zA7]at h;by_cases c:i=a
  .subst c
   simp at h;subst h;exact zAJ
  .have:(i==a)=false:=by simpa using c
   rw[this]at h;exact zAR _ (ud h)
def aIl(cm:gX)(i:Int):(cm.any λ p=>decide (p.1=i))=(cm.lookup i).isSome:=by
 cases h:cm.lookup i with
 |none=>
  rw[wA]at h;rw[zG2,zGx];intro q;obtain⟨p,hp,e⟩:=zBM.mp q;exact h (zA6.mpr ⟨p,hp,of_decide_eq_true e⟩)
 |some j=>exact zBM.mpr ⟨_,ud h,decide_eq_true rfl⟩
def xO{cm:gX}{i j:Int}(h:cm.lookup i=none):putN cm i j=cm++[(i,j)]:=by
 unfold putN;rw[aIl,h];rfl
def xN{cm:gX}{i j b:Int}(h:cm.lookup i=some b):putN cm i j=cm.map λ p=>if p.1=i then(p.1,j)else p:=by
 unfold putN;rw[aIl,h];rfl
def aFP{cm:gX}{i j:Int}(nd:(cm.map (·.1)).Nodup):((putN cm i j).map (·.1)).Nodup:=by
 cases h:cm.lookup i with
 |none=>
  rw[xO h,zAa,zAb];refine⟨nd,by simp,λ a ha b hb e=>?_⟩;rw[wA]at h
  have:b=i:=by simpa using hb
  exact h (by rw[<-this,<-e];exact ha)
 |some b=>
  rw[xN h,zAQ]
  have:((λ p:Int×Int=>p.1)∘λ p=>if p.1=i then(p.1,j)else p)=λ p=>p.1:=funext λ p=>by
   show(if p.1=i then(p.1,j)else p).1=p.1
   split<;>rfl
  rw[this];exact nd
def aHB{cm:gX}{i j:Int}{p:Int×Int}(h:p∈putN cm i j):p=(i,j)\/p∈cm:=by
 unfold putN at h;split at h
 .obtain⟨q,hq,e⟩:=zA6.mp h
  split at e
  .rename_i c
   rw[<-e,c];exact .inl rfl
  .rw[<-e];exact .inr hq
 .rcases zAX.mp h with h|h
  .exact .inr h
  .exact .inl (by simpa using h)
theorem ue{i j k:Int}(h:k≠i):∀cm:gX,(cm.map λ p=>if p.1=i then(p.1,j)else p).lookup k=cm.lookup k
 |[]=>rfl
 |(a,b)::cm=>by
  rw[zAD];dsimp only;by_cases c:a=i
  .subst c
   have:(k==a)=false:=by simpa using h
   rw[if_pos rfl,zA7,zA7,this];exact ue h cm
  .rw[if_neg c,zA7,zA7,ue h cm]
def aER{cm:gX}{i j k:Int}(h:k≠i):(putN cm i j).lookup k=cm.lookup k:=by
 cases e:cm.lookup i with
 |some b=>rw[xN e,ue h]
 |none=>
  rw[xO e,zDb]
  have:([(i,j)]:gX).lookup k=none:=by
   rw[wA];simpa using h
  rw[this,Option.or_none]
theorem aAG{i j b:Int}:∀{cm:gX},(cm.map (·.1)).Nodup->cm.lookup i=some b->(b::((cm.map λ p=>if p.1=i then(p.1,j)else p).map (·.2))).Perm (j::cm.map (·.2))
 |[],_,h=>by cases h
 |(a,c)::cm,nd,h=>by
  rw[zAD,zAj]at nd;rw[zAD,zAD,zAD];dsimp only;by_cases e:a=i
  .subst e
   rw[zA7]at h;simp at h;subst h;rw[if_pos rfl]
   have:(cm.map λ p=>if p.1=a then(p.1,j)else p)=cm:=by
    conv=>rhs;rw[<-zGc cm]
    refine zB7 λ p hp=>if_neg λ z=>nd.1 ?_
    rw[<-z];exact zA6.mpr ⟨p,hp,rfl⟩
   rw[this];exact zCX ..
  .rw[if_neg e]
   have e2:(i==a)=false:=by simpa using λ z=>e z.symm
   rw[zA7,e2]at h;exact((zCX ..).trans ((aAG nd.2 h).cons c)).trans (zCX ..)
structure Cm(ps:gX)(cm:gX):Prop where
 nd:(cm.map (·.1)).Nodup
 ar:∀p∈cm,(p.2,p.1)∈ps
def Seal(ps cm:gX)(S:List Int):Prop:=∀e∈S,∃b,cm.lookup e=some b/\∀x∈bZ ps b,x∈S
structure Tr(n:Int)(tr:List Int):Prop where
 nd:tr.Nodup
 rg:∀e∈tr,0<=e/\e<n
structure FeN(ps cm:gX)(tr tr':List Int):Prop where
 sub:∀e∈tr,e∈tr'
 cl:∀e∈tr',e∉tr->∃b,cm.lookup e=some b/\∀x∈bZ ps b,x∈tr'
structure FeY(ps cm:gX)(b:Int)(tr:List Int)(cm':gX):Prop where
 good:Cm ps cm'
 vals:(cm'.map (·.2)).Perm (b::cm.map (·.2))
 keep:∀e∈tr,cm'.lookup e=cm.lookup e
 sl:∀S,Seal ps cm S->(∀e∈S,cm'.lookup e=cm.lookup e)/\∃x∈bZ ps b,x∉S
abbrev feE(L:D)(cm:gX)(b:Int)(tr:List Int)(s:Slot):En:=[.sh L,.ow (bY (cm.map vI)),.sh (.int b),.ow (bY (tr.map vT)),s]
def feB(R:FB):En->OB:=ifB (tsb (op2 (jw true) (aF 4) (cQ 3))) (oM (qj 3 (aF 4) (cD (.bl true))) (ifC (tsb (op2 (jw true) (aF 4) (cQ 1))) (pC R (op2 kW (cQ 1) (aF 4))) (oM (qj 1 (aF 4) (ak (aF 2))) (zN (cD (.bl true)))))) .nx
def sS(R:FB):cB R=oM (aIT (cg (op2 ixD (aF 0) (aF 2))) (gnm 4) (feB R)) (zN (cD (.bl false))):=rfl
def jN(ps:List (Int×D)):gk (ps.map λ p=>.int p.1) (ps.map (·.2))=some ps:=jX ps
section
variable{L:D}{cm:gX}{b e:Int}{tr:List Int}{R:FB}
def aIX:tsb (op2 (jw true) (aF 4) (cQ 3)) (feE L cm b tr (.sh (.int e)))= .ok (!decide (e∈tr)):=by
 simp[aEo,aHi]
def aEk:tsb (op2 (jw true) (aF 4) (cQ 1)) (feE L cm b tr (.sh (.int e)))= .ok (!(cm.lookup e).isSome):=by
 simp[aEo,aHj]
def aNo(hn:e∉tr)(hl:tr.length<16777216):qj 3 (aF 4) (cD (.bl true)) (feE L cm b tr (.sh (.int e)))= .nx (feE L cm b (tr++[e]) (.sh (.int e))):=by
 unfold qj pdS;simp only[kY,aEq]
 show(Rs.bo (.ok (D.bl true)) λ d=>Rs.bo (.ok (D.int e)) λ k=>match qG (bY (tr.map vT)) k with
  |some (ps,j)=>if ps.length<zAO then Ou.nx ((feE L cm b tr (.sh (.int e))).set 3 (.ow (bY (rN ps j d))))else .st
  |none=>.st).ob=_
 rw[bK,bK];have e1:qG (bY (tr.map vT)) (.int e)=some (tr.map vT,e):=by
  unfold qG bY;dsimp only;rw[jN];rfl
 rw[e1];dsimp only;rw[if_pos (by rw[szl,zAF];exact hl),aJg hn];rfl
def aEj(hl:cm.length<16777216):oM (qj 1 (aF 4) (ak (aF 2))) (zN (cD (.bl true))) (feE L cm b tr (.sh (.int e)))= .rt (.bl true) (feE L (putN cm e b) b tr (.sh (.int e))):=by
 have:qj 1 (aF 4) (ak (aF 2)) (feE L cm b tr (.sh (.int e)))= .nx (feE L (putN cm e b) b tr (.sh (.int e))):=by
  unfold qj pdS
  show(Rs.bo (ak (aF 2) (feE L cm b tr (.sh (.int e)))) λ d=>Rs.bo (.ok (D.int e)) λ k=>match qG (bY (cm.map vI)) k with
   |some (ps,j)=>if ps.length<zAO then Ou.nx ((feE L cm b tr (.sh (.int e))).set 1 (.ow (bY (rN ps j d))))else .st
   |none=>.st).ob=_
  have e0:ak (aF 2) (feE L cm b tr (.sh (.int e)))= .ok (.int b):=by simp
  have e1:qG (bY (cm.map vI)) (.int e)=some (cm.map vI,e):=by
   unfold qG bY;dsimp only;rw[jN];rfl
  rw[e0,bK,bK,e1];dsimp only;rw[if_pos (by rw[szl,zAF];exact hl),aJh];rfl
 unfold oM;rw[this];rfl
def aKr(h:e∈tr):feB R (feE L cm b tr (.sh (.int e)))= .nx (feE L cm b tr (.sh (.int e))):=by
 unfold feB ifB;rw[aIX,aCn,decide_eq_true h];rfl
def aPG(h:e∉tr)(hl:tr.length<16777216):feB R (feE L cm b tr (.sh (.int e)))=ifC (tsb (op2 (jw true) (aF 4) (cQ 1))) (pC R (op2 kW (cQ 1) (aF 4))) (oM (qj 1 (aF 4) (ak (aF 2))) (zN (cD (.bl true)))) (feE L cm b (tr++[e]) (.sh (.int e))):=by
 unfold feB ifB;rw[aIX,aCn,decide_eq_false h,zFc,if_pos rfl];unfold oM;rw[aNo h hl];rfl
def aKs(h:cm.lookup e=none)(hl:cm.length<16777216):ifC (tsb (op2 (jw true) (aF 4) (cQ 1))) (pC R (op2 kW (cQ 1) (aF 4))) (oM (qj 1 (aF 4) (ak (aF 2))) (zN (cD (.bl true)))) (feE L cm b tr (.sh (.int e)))= .rt (.bl true) (feE L (putN cm e b) b tr (.sh (.int e))):=by
 unfold ifC;rw[aEk,aCn,h,zG2,zFc,if_pos rfl,aEj hl]
def aKt{b1:Int}(h:cm.lookup e=some b1){r:Bool}{cm1:gX}{tr1:List Int}(hR:R L (cm.map vI) (.int b1) (tr.map vT)=some (r,cm1.map vI,tr1.map vT)):
  ifC (tsb (op2 (jw true) (aF 4) (cQ 1))) (pC R (op2 kW (cQ 1) (aF 4))) (oM (qj 1 (aF 4) (ak (aF 2))) (zN (cD (.bl true)))) (feE L cm b tr (.sh (.int e)))=
   if r=true then oM (qj 1 (aF 4) (ak (aF 2))) (zN (cD (.bl true))) (feE L cm1 b tr1 (.sh (.int e)))else .nx (feE L cm1 b tr1 (.sh (.int e))):=by
 have c:pC R (op2 kW (cQ 1) (aF 4)) (feE L cm b tr (.sh (.int e)))=some (r,feE L cm1 b tr1 (.sh (.int e))):=by
  have e2:op2 kW (cQ 1) (aF 4) (feE L cm b tr (.sh (.int e)))= .ok (.int b1):=by
   have:kW (bY (cm.map vI)) (.int e)= .ok (.int b1):=aLo (by rw[aHj,h];rfl)
   simp[this]
  have o1:oX (some (.ow (bY (cm.map vI))))=some (cm.map vI):=jN _;have o3:oX (some (.ow (bY (tr.map vT))))=some (tr.map vT):=jN _;unfold pC;rw[e2]
  show(match (some (.sh L:Slot)),oX (some (.ow (bY (cm.map vI)))),Rs.ok (D.int b1),oX (some (.ow (bY (tr.map vT))))with
   |some (.sh d0),some c,.ok d2,some t=>if flats c=true/\flats t=true/\flat d2=true then(R d0 c d2 t).map λ q:Bool×List (Int×D)×List (Int×D)=>(q.1,((feE L cm b tr (.sh (.int e))).set 1 (.ow (bY q.2.1))).set 3 (.ow (bY q.2.2)))else none
   |_,_,_,_=>none)=_
  rw[o1,o3];dsimp only;rw[if_pos ⟨yK _,aC9 _,rfl⟩,hR];rfl
 unfold ifC;rw[aEk,aCn,h,zD2,zHg,if_neg zAU,c];cases r<;>rfl
end
section
variable{L:D}{cm:gX}{b n:Int}{tr:List Int}{R:FB}{ps:gX}
def aEh{f:En->OB}{d:D}{ds:List D}{ρ ρ2:En}(h:f (ρ.set 4 (.sh d))= .nx ρ2):lu (gnm 4) f (d::ds) ρ=lu (gnm 4) f ds ρ2:=by
 show(match f (ρ.set 4 (.sh d))with
  | .nx ρ2=>lu (gnm 4) f ds ρ2
  |o=>o)=_
 rw[h]
def aEg{f:En->OB}{d r:D}{ds:List D}{ρ ρ2:En}(h:f (ρ.set 4 (.sh d))= .rt r ρ2):lu (gnm 4) f (d::ds) ρ= .rt r ρ2:=by
 show(match f (ρ.set 4 (.sh d))with
  | .nx ρ2=>lu (gnm 4) f ds ρ2
  |o=>o)=_
 rw[h]
def Cm.len(C:Cm ps cm)(hW:Ow n ps):cm.length<=n.toNat:=by
 rw[<-zAF (f:=λ p:Int×Int=>p.1)];refine jJ C.nd λ x hx=>?_
 obtain⟨p,hp,rfl⟩:=zA6.mp hx
 have:=hW.pr _ (C.ar p hp)
 exact⟨this.2.2.1,this.2.2.2.1⟩
def Tr.len(T:Tr n tr):tr.length<=n.toNat:=jJ T.nd T.rg
def Tr.snoc{e:Int}(T:Tr n tr)(h:e∉tr)(h1:0<=e/\e<n):Tr n (tr++[e]):=by
 refine⟨zAb.mpr ⟨T.nd,by simp,λ x hx y hy z=>h ?_⟩,λ x hx=>?_⟩
 .have:y=e:=by simpa using hy
  rw[<-this,<-z];exact hx
 .rcases zAX.mp hx with hx|hx
  .exact T.rg x hx
  .rw[zAM.mp hx];exact h1
def aPW(n:Int)(ps:gX)(R:FB)(L:D)(b:Int)(tr:List Int)(cm:gX):Prop:=∃r cm' tr',R L (cm.map vI) (.int b) (tr.map vT)=some (r,cm'.map vI,tr'.map vT)/\Tr n tr'/\
 ((r=false/\cm'=cm/\(∀e∈bZ ps b,e∈tr')/\FeN ps cm tr tr')\/(r=true/\FeY ps cm b tr cm'))
def sub_len{l m:List Int}(nd:l.Nodup)(h:∀x∈l,x∈m):l.length<=m.length:=nd.length_le_of_subset h
def aEi{e:Int}{t:List Int}{cm1:gX}(C:Cm ps cm1)(he:(b,e)∈ps)(ht:∀x∈tr,x≠e)(hv:((putN cm1 e b).map (·.2)).Perm (b::cm.map (·.2)))(hk:∀x∈tr,cm1.lookup x=cm.lookup x)(hs:∀S,Seal ps cm S->e∉S/\∀x∈S,cm1.lookup x=cm.lookup x):FeY ps cm b tr (putN cm1 e b):=by
 refine⟨⟨aFP C.nd,λ p hp=>?_⟩,hv,λ x hx=>by rw[aER (ht x hx)];exact hk x hx,λ S hS=>?_⟩
 .rcases aHB hp with rfl|hp
  .exact he
  .exact C.ar p hp
 .obtain⟨h1,h2⟩:=hs S hS
  exact⟨λ x hx=>by rw[aER (show x≠e from λ z=>h1 (z▸hx))];exact h2 x hx,e,pM.mpr he,h1⟩
theorem aBU{k:Nat}(hW:Ow n ps)(C:Cm ps cm)(IH:∀b1 t1,0<=b1/\b1<n->Tr n t1->n.toNat<k+t1.length->aPW n ps R L b1 t1 cm)(T0:Tr n tr)(hk:n.toNat<k+1+tr.length):
  ∀(es t:List Int) (s:Slot),(∀e∈es,e∈bZ ps b)->Tr n t->FeN ps cm tr t->
   (∃t' s',lu (gnm 4) (feB R) (es.map .int) (feE L cm b t s)= .nx (feE L cm b t' s')/\Tr n t'/\FeN ps cm tr t'/\(∀e∈t,e∈t')/\∀e∈es,e∈t')\/
   (∃cm' t' s',lu (gnm 4) (feB R) (es.map .int) (feE L cm b t s)= .rt (.bl true) (feE L cm' b t' s')/\Tr n t'/\FeY ps cm b tr cm')
 |[],t,s,_,T,F=>.inl ⟨t,s,rfl,T,F,λ _ h=>h,λ _ h=>nomatch h⟩
 |e::es,t,s,hes,T,F=>by
  have hn:=hW.n1;have tl:=T.len;have cl:=C.len hW;have hm:=pM.mp (hes e zAJ);have he:=hW.pr _ hm;have aE:∀x∈es,x∈bZ ps b:=λ x hx=>hes x (zAR _ hx)
  rw[zAD];by_cases hin:e∈t
  .rw[aEh (ρ2:=feE L cm b t (.sh (.int e))) (aKr hin)]
   rcases aBU hW C IH T0 hk es t (.sh (.int e)) aE T F with ⟨t',s',h1,h2,h3,h4,h5⟩|h
   .exact .inl ⟨t',s',h1,h2,h3,h4,λ x hx=>(zA1.mp hx).elim (λ z=>z▸h4 e hin) (h5 x)⟩
   .exact .inr h
  .have T1:=T.snoc hin ⟨he.2.2.1,he.2.2.2.1⟩
   have hne:∀x∈tr,x≠e:=λ x hx z=>hin (z▸F.sub x hx)
   have st:feB R ((feE L cm b t s).set 4 (.sh (.int e)))=_:=aPG hin (by lia);cases hl:cm.lookup e with
   |none=>
    rw[aKs hl (by lia)]at st;refine .inr ⟨putN cm e b,t++[e],_,aEg st,T1,aEi (t:=t) C hm hne ?_ (λ _ _=>rfl) λ S hS=>⟨λ z=>?_,λ _ _=>rfl⟩⟩
    .rw[xO hl,zAa]
     exact List.perm_append_comm
    .obtain⟨b',h1,_⟩:=hS e z
     rw[hl]at h1;cases h1
   |some b1=>
    have hb1:=hW.pr _ (C.ar _ (ud hl));have tsub:=sub_len T0.nd F.sub;obtain⟨r,cm1,t1,h1,T2,h3⟩:=IH b1 (t++[e]) ⟨hb1.1,hb1.2.1⟩ T1 (by rw[zAZ];simp only[zGR];lia);rw[aKt hl h1]at st;rcases h3 with ⟨rfl,q1,h5,h6⟩|⟨rfl,Y⟩
    .have q2:=q1.symm
     subst q2;rw[if_neg zAU]at st;rw[aEh st];have tt:∀x∈t,x∈t1:=λ x hx=>h6.sub x (zA5 _ hx)
     have F1:FeN ps cm tr t1:=by
      refine⟨λ x hx=>tt x (F.sub x hx),λ x hx hn=>?_⟩;by_cases hx2:x∈t++[e]
      .rcases zAX.mp hx2 with hx3|hx3
       .obtain⟨b',g1,g2⟩:=F.cl x hx3 hn
        exact⟨b',g1,λ y hy=>tt y (g2 y hy)⟩
       .rw[zAM.mp hx3]
        exact⟨b1,hl,h5⟩
      .exact h6.cl x hx hx2
     rcases aBU hW C IH T0 hk es t1 (.sh (.int e)) aE T2 F1 with ⟨t',s',g1,g2,g3,g4,g5⟩|h
     .exact .inl ⟨t',s',g1,g2,g3,λ x hx=>g4 x (tt x hx),λ x hx=>(zA1.mp hx).elim (λ z=>g4 x (h6.sub x (by rw[z];simp))) (g5 x)⟩
     .exact .inr h
    .have l1:=Y.good.len hW
     rw[if_pos rfl,aEj (by lia)]at st;have hl1:cm1.lookup e=some b1:=(Y.keep e (by simp)).trans hl;refine .inr ⟨putN cm1 e b,t1,_,aEg st,T2,aEi (t:=t) Y.good hm hne ?_ (λ x hx=>Y.keep x (zA5 _ (F.sub x hx))) λ S hS=>⟨λ z=>?_,(Y.sl S hS).1⟩⟩
     .have p1:=aAG (j:=b) Y.good.nd hl1
      rw[<-xN hl1]at p1;exact(List.perm_cons b1).mp ((p1.trans (Y.vals.cons b)).trans (zCX ..))
     .obtain⟨b',g1,g2⟩:=hS e z
      rw[hl]at g1;cases g1;obtain⟨x,g3,g4⟩:=(Y.sl S hS).2;exact g4 (g2 x g3)
theorem aLk{ll:dE}(hW:Ow n ps)(N:aLK n ps ll):∀(k:Nat) (b:Int) (tr:List Int) (cm:gX),Cm ps cm->0<=b/\b<n->Tr n tr->n.toNat<k+tr.length->aPW n ps (cC k) (.lst (ll.map .lst)) b tr cm
 |0,b,tr,cm,_,_,T,h=>absurd T.len (by lia)
 |k+1,b,tr,cm,C,hb,T,h=>by
  have hf:aIT (cg (op2 ixD (aF 0) (aF 2))) (gnm 4) (feB (cC k)) (feE (.lst (ll.map .lst)) cm b tr .no)=lu (gnm 4) (feB (cC k)) ((bZ ps b).map .int) (feE (.lst (ll.map .lst)) cm b tr .no):=by
   have:cg (op2 ixD (aF 0) (aF 2)) (feE (.lst (ll.map .lst)) cm b tr .no)= .ok ((bZ ps b).map .int):=by
    simp[N.item b hb.1 hb.2]
   unfold aIT;rw[this,aCn]
  have run:∀r cm' t' s',cB (cC k) (feE (.lst (ll.map .lst)) cm b tr .no)= .rt (.bl r) (feE (.lst (ll.map .lst)) cm' b t' s')->cC (k+1) (.lst (ll.map .lst)) (cm.map vI) (.int b) (tr.map vT)=some (r,cm'.map vI,t'.map vT):=λ r cm' t' s' e=>by
   show aGg 5 (cB (cC k)) _ _ _ _=_;unfold aGg
   show(match cB (cC k) (feE (.lst (ll.map .lst)) cm b tr .no)with
    | .rt (.bl r) ρ=>aFZ r ρ
    |_=>none)=_
   rw[e];show aFZ r (feE (.lst (ll.map .lst)) cm' b t' s')=_;have o1:oX (some (.ow (bY (cm'.map vI))))=some (cm'.map vI):=jN _;have o3:oX (some (.ow (bY (t'.map vT))))=some (t'.map vT):=jN _;unfold aFZ
   show(match oX (some (.ow (bY (cm'.map vI)))),oX (some (.ow (bY (t'.map vT))))with
    |some c,some t=>if flats c=true/\flats t=true then some (r,c,t)else none
    |_,_=>none)=_
   rw[o1,o3];dsimp only;rw[if_pos ⟨yK _,aC9 _⟩]
  rcases aBU (R:=cC k) (L:=.lst (ll.map .lst)) (b:=b) hW C (λ b1 t1 h1 h2 h3=>aLk hW N k b1 t1 cm C h1 h2 h3) T (by lia) (bZ ps b) tr .no (λ _ h=>h) T ⟨λ _ h=>h,λ e h1 h2=>absurd h1 h2⟩with ⟨t',s',g1,g2,g3,g4,g5⟩|⟨cm',t',s',g1,g2,g3⟩
  .refine⟨false,cm,t',run _ _ _ s' ?_,g2,.inl ⟨rfl,rfl,g5,g3⟩⟩
   rw[sS];unfold oM;rw[hf,g1];rfl
  .refine⟨true,cm',t',run _ _ _ s' ?_,g2,.inr ⟨rfl,g3⟩⟩
   rw[sS];unfold oM;rw[hf,g1];rfl
end
structure Prd(n:Int)(ps cm:gX)(S:List Int):Prop where
 c:Cm ps cm
 nv:(cm.map (·.2)).Nodup
 sl:Seal ps cm S
 al:∀b,0<=b->b<n->b∈cm.map (·.2)\/∀x∈bZ ps b,x∈S
abbrev paE(n:Int)(ps:gX)(L:D)(cm:gX)(s:Slot):En:=[.sh (owD n ps),.sh L,.ow (bY (cm.map vI)),s]
def aPH{n b:Int}{ps cm cm':gX}{L:D}{r:Bool}{t':List Int}(h:iV L (cm.map vI) (.int b) ([]:List (Int×D))=some (r,cm'.map vI,t'.map vT)):fbS 1 2 iV (aF 3) (paE n ps L cm (.sh (.int b)))= .nx (paE n ps L cm' (.sh (.int b))):=by
 have o1:oX (some (.ow (bY (cm.map vI))))=some (cm.map vI):=jN _;unfold fbS
 show(match (some (.sh L:Slot)),oX (some (.ow (bY (cm.map vI))))with
  |some (.sh d0),some c=>(Rs.ok (D.int b)).bo λ d2=>if flats c=true/\flat d2=true then(match iV d0 c d2 []with
   |some (_,c',_)=>Ou.nx ((paE n ps L cm (.sh (.int b))).set 2 (.ow (bY c')))
   |none=>.st)else .st
  |_,_=>.st)=_
 rw[o1];dsimp only;rw[bK,if_pos ⟨yK _,rfl⟩,h];rfl
def aFW{n:Int}{ps:gX}(hW:Ow n ps):∃cm S,fM [owD n ps]= .ok (bY (cm.map vI))/\Prd n ps cm S:=by
 obtain⟨ll,e1,N⟩:=ym hW;have h0:=hW.n0;have h1:=hW.n1;obtain⟨ρ',g1,cm,S,s,rfl,g3,g4,g5,g6,g7⟩:=fL (a:=gnm 3) (u:=fbS 1 2 iV (aF 3)) ((upI n).map D.int) (λ(i:Nat) ρ=>∃(cm:gX) (S:List Int) (s:Slot),ρ=paE n ps (.lst (ll.map .lst)) cm s/\Cm ps cm/\(cm.map (·.2)).Nodup/\(∀v∈cm.map (·.2),v<(i:Int))/\Seal ps cm S/\∀b:Int,0<=b->b<(i:Int)->b∈cm.map (·.2)\/∀x∈bZ ps b,x∈S)
  (paE n ps (.lst (ll.map .lst)) [] .no) ⟨[],[],.no,rfl,⟨zBs,λ _ h=>nomatch h⟩,zBs,λ _ h=>(nomatch h),λ _ h=>(nomatch h),λ b h1 h2=>by lia⟩ (by
  rintro i d ρ hd ⟨cm,S,s,rfl,C,nv,lt,sl,al⟩;have hi:i<n.toNat:=by
   have:=(zAL.mp hd).1
   rwa [zAF,fC]at this
  have ed:d= .int (i:Int):=by
   rw[zAP,upI,zAP,zCf hi]at hd;simpa using hd.symm
  subst ed;obtain⟨r,cm',t',q1,q2,q3⟩:=aLk hW N 64 i [] cm C (by lia) ⟨zBs,λ _ h=>nomatch h⟩ (by simp;lia);refine⟨_,by rw[show gnm 3 (D.int (i:Int)) (paE n ps (.lst (ll.map .lst)) cm s)= .ok (paE n ps (.lst (ll.map .lst)) cm (.sh (.int i)))from rfl];exact aPH q1,?_⟩;rcases q3 with ⟨_,rfl,q5,q6⟩|⟨_,Y⟩
  .refine⟨cm',S++t',_,rfl,C,nv,λ v hv=>Int.lt_trans (lt v hv) (by lia),λ e he=>?_,λ b b0 b1=>?_⟩
   .rcases zAX.mp he with he|he
    .obtain⟨b,p1,p2⟩:=sl e he
     exact⟨b,p1,λ x hx=>zA5 _ (p2 x hx)⟩
    .obtain⟨b,p1,p2⟩:=q6.cl e he (λ z=>nomatch z)
     exact⟨b,p1,λ x hx=>zA3 _ (p2 x hx)⟩
   .by_cases hb:b=i
    .subst hb
     exact .inr λ x hx=>zA3 _ (q5 x hx)
    .exact(al b b0 (by lia)).imp id λ h x hx=>zA5 _ (h x hx)
  .have mv:∀v:Int,v∈cm'.map (·.2)↔v=i\/v∈cm.map (·.2):=λ v=>by rw[Y.vals.mem_iff,zA1]
   refine⟨cm',S,_,rfl,Y.good,Y.vals.nodup_iff.mpr (zAj.mpr ⟨λ z=>by have:=lt _ z;lia,nv⟩),λ v hv=>?_,λ e he=>?_,λ b b0 b1=>?_⟩
   .rcases(mv v).mp hv with z|z
    .lia
    .have:=lt v z;lia
   .rw[(Y.sl S sl).1 e he]
    exact sl e he
   .by_cases hb:b=i
    .exact .inl ((mv b).mpr (.inl hb))
    .exact(al b b0 (by lia)).imp (λ h=>(mv b).mpr (.inr h)) id)
 refine⟨cm,S,?_,g3,g4,g6,λ b b0 b1=>g7 b b0 (by rw[zAF,fC];lia)⟩;have st:aZ 4 [owD n ps]=[.sh (owD n ps),.no,.no,.no]:=rfl;have a1:cN 1 (aR iW (aC (aF 0) aH)) [.sh (owD n ps),.no,.no,.no]= .nx [.sh (owD n ps),.sh (.lst (ll.map .lst)),.no,.no]:=by simp[e1]
 have a2:lF 2 (cD (.dct [] [])) [.sh (owD n ps),.sh (.lst (ll.map .lst)),.no,.no]= .nx (paE n ps (.lst (ll.map .lst)) [] .no):=rfl;have r1:dj gO (aC (op2 ixD (aF 0) (cD (.int 0))) aH) (paE n ps (.lst (ll.map .lst)) [] .no)= .ok ((upI n).map D.int):=by
  have hr:=dm (j:=n) (by lia) (by lia);rw[<-qi];simp[owD,hr]
 simp only[fM,mD,ao,st];rw[aP,a1,aq,aP,a2,aq,aP,fU,r1,bK,g1,aq];rfl
def aBP(cm:gX):yD ((cm.map vI).map λ p=>.int p.1) ((cm.map vI).map (·.2))=some cm:=by
 unfold yD;rw[jN];dsimp only;rw[zAQ,zAQ];have e1:intsOf (cm.map ((λ x:Int×D=>x.2)∘vI))=some (cm.map (·.2)):=by
  rw[show cm.map ((λ x:Int×D=>x.2)∘vI)=(cm.map (·.2)).map .int by rw[zAQ];rfl];exact bO _
 rw[e1];show some ((cm.map λ p=>p.1).zip (cm.map λ p=>p.2))=some cm;congr 1;clear e1;induction cm with
 |nil=>rfl
 |cons p cm ih=>rw[zAD,zAD,zAy,ih]
section
variable{n:Int}{ps cm:gX}{S:List Int}
def aKn{f:En->Rs D}{ρ:En}(h:f ρ= .ok (bY (cm.map vI))):aDk f ρ= .ok (.itm none cm):=by
 unfold aDk;rw[h,aL]
 show(match yD ((cm.map vI).map λ p=>.int p.1) ((cm.map vI).map (·.2))with
  |some l=>Rs.ok (D.itm none l)
  |none=>.st)=_
 rw[aBP]
def zZ(hW:Ow n ps)(h:fM [owD n ps]= .ok (bY (cm.map vI))):jU [owD n ps]= .ok (.int cm.length):=by
 have st:aZ 1 [owD n ps]=[.sh (owD n ps)]:=rfl;have e1:=iR hW;have e2:aF7 [bY (cm.map vI)]= .ok (.int cm.length):=by
  unfold aF7 bY;dsimp only;rw[jN];dsimp only;rw[zAF]
 simp only[jU,eN,ao,st];simp[e1,h,e2]
def Prd.ends(P:Prd n ps cm S)(hW:Ow n ps):(cm.map λ p=>(p.2,p.1)).Nodup/\cm.length<64:=by
 refine⟨?_,?_⟩
 .have:=P.nv
  rw[show cm.map (·.2)=(cm.map λ p=>(p.2,p.1)).map (·.1)by rw[zAQ];rfl]at this;exact zIB _ (λ a b h e=>h (by rw[e])) this
 .have:=P.c.len hW
  have:=hW.n1
  lia
def yw(hW:Ow n ps)(P:Prd n ps cm S)(h:fM [owD n ps]= .ok (bY (cm.map vI))):∃qs:gX,jT [owD n ps]= .ok (.tup (qs.map pD))/\qs.Perm (cm.map λ p=>(p.2,p.1))/\xH qs=true:=by
 obtain⟨nd,hl⟩:=P.ends hW;obtain⟨qs,e3,e4,e5⟩:=wV nd (by rw[zAF];exact hl);refine⟨qs,?_,e4,e5⟩;have st:aZ 1 [owD n ps]=[.sh (owD n ps)]:=rfl;have e1:=iR hW;have e2:lcD (aHu (aDk (aR fM (aC (aF 0) aH)))) [none,none] (gj 2 (bD (gnm 0) (bD (gnm 1) iG))) gP (b7 (aC (ak (aF 1)) (aC (ak (aF 0)) aH))) [.sh (owD n ps)]= .ok (.lst ((cm.map λ p=>(p.2,p.1)).map pD)):=by
  have f1:aDk (aR fM (aC (aF 0) aH)) (shE [.sh (owD n ps)])= .ok (.itm none cm):=aKn (by simp[shE,nj,h]);have f2:aHu (aDk (aR fM (aC (aF 0) aH))) (shE [.sh (owD n ps)])= .ok (cm.map pD):=by
   unfold aHu;rw[f1,aL];rfl
  refine nM f2 (by rw[zAF];lia) ?_;rw[zAQ];exact aBK cm λ q hq=>⟨_,rfl,rfl⟩
 have e6:qs.length<=16777216:=by rw[e4.length_eq,zAF];lia
 rw[zAQ]at e2 e3;simp only[jT,eG,ao,st];simp[e1,e2,e3,e6]
end
def par(cm:gX)(e:Int):Int:=(cm.lookup e).getD 0
section
variable{n:Int}{ps cm:gX}{S:List Int}
def b0(n:Int)(cm:gX):List Int:=(upI n).filter λ x=>!decide (x∈cm.map (·.2))
def Prd.rg(P:Prd n ps cm S)(hW:Ow n ps){e:Int}(h:e∈S):(0<=e/\e<n)/\∃b,cm.lookup e=some b/\par cm e=b/\(b,e)∈ps/\(0<=b/\b<n)/\b∈cm.map (·.2)/\∀x∈bZ ps b,x∈S:=by
 obtain⟨b,h1,h2⟩:=P.sl e h;have hm:=ud h1;have ha:=P.c.ar _ hm;have hr:=hW.pr _ ha;exact⟨⟨hr.2.2.1,hr.2.2.2.1⟩,b,h1,by unfold par;rw[h1];rfl,ha,⟨hr.1,hr.2.1⟩,zA6.mpr ⟨_,hm,rfl⟩,h2⟩
def Prd.led(P:Prd n ps cm S)(hW:Ow n ps){en:List Int}(hs:∀e∈en,e∈S){b:Int}(hb:b∈b0 n cm++en.map (par cm)):(0<=b/\b<n)/\∀x∈bZ ps b,x∈S:=by
 rcases zAX.mp hb with h|h
 .obtain⟨h1,h2⟩:=zAg.mp h
  have hr:=iD.mp h1;refine⟨hr,(P.al b hr.1 hr.2).resolve_left λ z=>?_⟩;rw[decide_eq_true z]at h2;cases h2
 .obtain⟨e,he,rfl⟩:=zA6.mp h
  obtain⟨_,b,_,h2,_,h3,_,h4⟩:=P.rg hW (hs e he);rw[h2];exact⟨h3,h4⟩
end
section
variable{n:Int}{cm:gX}
def fsL(n:Int)(cm:gX)(en:List Int):List Int:=(upI n).filter λ x=>!decide (x∈b0 n cm++en.map (par cm))
end
section
variable{n:Int}{ps cm:gX}{S en:List Int}
def Prd.bsN(P:Prd n ps cm S)(hW:Ow n ps)(nd:en.Nodup)(hs:∀e∈en,e∈S):(b0 n cm++en.map (par cm)).Nodup:=by
 rw[zAb];refine⟨(lR n).filter _,pL nd λ x hx y hy e=>?_,λ x hx y hy e=>?_⟩
 .obtain⟨_,b,h1,h2,_⟩:=P.rg hW (hs x hx)
  obtain⟨_,c,h3,h4,_⟩:=P.rg hW (hs y hy);rw[h2,h4]at e;subst e
  have:=iC P.nv _ (ud h1) _ (ud h3) rfl
  exact congrArg zDt this
 .obtain⟨z,hz,rfl⟩:=zA6.mp hy
  obtain⟨_,b,_,h2,_,_,h3,_⟩:=P.rg hW (hs z hz);obtain⟨_,h4⟩:=zAg.mp hx;rw[e,h2,decide_eq_true h3]at h4;cases h4
def Prd.size(P:Prd n ps cm S)(hW:Ow n ps)(nd:en.Nodup)(hs:∀e∈en,e∈S):(fsL n cm en).length+en.length=cm.length:=by
 have p1:=(qm (lR n) (P.bsN hW nd hs) λ x hx=>iD.mpr (P.led hW hs hx).1).length_eq;have p2:=(qm (lR n) P.nv λ x hx=>by
  obtain⟨p,hp,rfl⟩:=zA6.mp hx
  have:=hW.pr _ (P.c.ar p hp)
  exact iD.mpr ⟨this.1,this.2.1⟩).length_eq
 rw[zAZ,zAZ,zAF]at p1;rw[zAZ,zAF]at p2
 show((upI n).filter λ x=>!decide (x∈b0 n cm++en.map (par cm))).length+en.length=cm.length
 have e:(b0 n cm).length=((upI n).filter λ x=>!decide (x∈cm.map (·.2))).length:=rfl;lia
def aIP(hcl:∀b∈b0 n cm++en.map (par cm),∀x∈bZ ps b,x∈en)(hW:Ow n ps){p:Int×Int}(hp:p∈ps):p.1∈fsL n cm en\/p.2∈en:=by
 by_cases h:p.1∈b0 n cm++en.map (par cm)
 .exact .inr (hcl _ h _ (pM.mpr hp))
 .have hr:=hW.pr p hp
  exact .inl (zAg.mpr ⟨iD.mpr ⟨hr.1,hr.2.1⟩,by rw[decide_eq_false h];rfl⟩)
def mY{l:List Int}(nd:l.Nodup):(sortI l).Pairwise (·< ·):=by
 have h1:=lU l;have h2:(sortI l).Nodup:=(sortI_perm l).nodup_iff.mpr nd;exact(h1.and h2).imp λ h=>Int.lt_iff_le_and_ne.mpr h
end
def lw(k:List Int):List Int×Int:=(k,(k.length:Int))
def lwD(k:List Int):List Int×D:=(k,.int k.length)
def yo(ks:gV)(k:List Int):gV:=if k∈ks then ks else ks++[k]
def aEO{a b:List Int}(h1:a.Pairwise (·< ·))(h2:b.Pairwise (·< ·))(h:∀x,x∈a↔x∈b):a=b:=by
 have p:a.Perm b:=(zD9 (zBp.mpr (h1.imp λ z=>by lia)) (zBp.mpr (h2.imp λ z=>by lia))).mpr h;exact p.eq_of_pairwise (λ x y _ _ q r=>by lia) h1 h2
def gn{l:List Int}{x:Int}:x∈sortI l↔x∈l:=(sortI_perm l).mem_iff
def aBq{a b:List Int}(na:a.Nodup)(nb:b.Nodup)(h:∀x,x∈a↔x∈b):sortI a=sortI b:=aEO (mY na) (mY nb) λ x=>by rw[gn,gn,h]
def subs:List Int->List (List Int)
 |[]=>[[]]
 |a::l=>subs l++(subs l).map (a::·)
theorem wO(f:Int->Bool):∀l:List Int,l.filter f∈subs l
 |[]=>zAM.mpr rfl
 |a::l=>by
  unfold subs;rw[zBN,zAX];split
  .exact .inr (zA6.mpr ⟨_,wO f l,rfl⟩)
  .exact .inl (wO f l)
def aGT:gV:=subs [0,1,2,3,4,5,6]
def aEy:(aGT.map hsh).Nodup:=by decide+kernel
def aGS:aGT.length=128:=by decide+kernel
def aGR{k:List Int}(h:k.Pairwise (·< ·))(rg:∀x∈k,0<=x/\x<7):k∈aGT:=by
 have e:k=([0,1,2,3,4,5,6]:List Int).filter λ x=>decide (x∈k):=aEO h (zHz _ (by decide)) λ x=>by
  rw[zAg];constructor
  .intro hx
   refine⟨?_,decide_eq_true hx⟩
   have:=rg x hx
   simp only[zA1,zCc,or_false];lia
  .intro z
   exact of_decide_eq_true z.2
 rw[e];exact wO _ _
theorem aE4(k:List Int):∀ks:gV,(ks.map lwD).lookup k=if k∈ks then some (.int k.length)else none
 |[]=>rfl
 |x::ks=>by
  rw[zAD]
  show((x,D.int x.length)::ks.map lwD).lookup k=_
  rw[zA7];by_cases h:k=x
  .subst h;simp
  .have:(k==x)=false:=by simpa using h
   rw[this]
   show(ks.map lwD).lookup k=_
   rw[aE4 k ks];simp[h]
def aM7(ks:gV)(k:List Int):aCG (ks.map lwD) k (.int k.length)=(yo ks k).map lwD:=by
 unfold aCG yo;have e:((ks.map lwD).map (·.1))=ks:=by
  rw[zAQ];show ks.map (λ x=>x)=ks;exact List.map_id' ks
 rw[e];by_cases h:k∈ks
 .rw[if_pos (zBM.mpr ⟨k,h,by simp⟩),if_pos h,zAQ]
  refine zB7 λ x _=>?_
  show(if x=k then((x,D.int k.length):List Int×D)else lwD x)=lwD x
  split
  .rename_i z;rw[z];rfl
  .rfl
 .rw[if_neg (λ z=>h (by obtain⟨x,hx,e⟩:=zBM.mp z;rw[<-beq_iff_eq.mp e];exact hx)),if_neg h,zAa]
  rfl
def aNb(k:List Int)(ks:gV):sI (.non::(ks.map lwD).map λ p=>.tup (p.1.map .int)) ((ks.map lwD).map (·.2))=some (ks.map lw):=by
 unfold sI;dsimp only;rw[xR];dsimp only;have e1:intsOf ((ks.map lwD).map (·.2))=some (ks.map λ k=>(k.length:Int)):=by
  rw[show(ks.map lwD).map (·.2)=(ks.map λ k=>(k.length:Int)).map .int by rw[zAQ,zAQ];rfl];exact bO _
 rw[e1,zAQ];show some ((ks.map λ x=>x).zip (ks.map λ k=>(k.length:Int)))=_;congr 1;clear e1;induction ks with
 |nil=>rfl
 |cons x ks ih=>rw[zAD,zAD,zAy,ih];rfl
def aNv{ks:gV}(h0:ks≠[])(h1:ks.length<1000)(h2:(ks.map hsh).Nodup):aDl [.itx none (ks.map lw)]= .ok (tW (ks.map lwD)):=by
 unfold aDl;dsimp only;rw[if_pos,zAQ]
 .rfl
 .refine⟨⟨λ z=>h0 (List.map_eq_nil_iff.mp z),by rw[zAF,szl];lia⟩,?_⟩
  rw[zAQ];exact h2
abbrev lmE(n:Int)(ps:gX)(l:List (List Int×Int))(p:Int)(ks:gV)(s4 s5 s6 s7 s8:Slot):En:=[.sh (owD n ps),.sh (.itx none l),.sh (.int p),.ow (tW (ks.map lwD)),s4,s5,s6,s7,s8]
section
variable{n p a b:Int}{ps:gX}{l:List (List Int×Int)}{ks:gV}{k:List Int}{s8:Slot}
def aLh:aB9 (tsb (op2 (eqR false) (aF 6) (aF 2))) (tsb (op2 (inR true) (aF 7) (aF 4))) (lmE n ps l p ks (.sh (.tup (k.map .int))) (.sh (.int k.length)) (.sh (.int a)) (.sh (.int b)) s8)= .ok (decide (a=p/\b∉k)):=by
 have e:=jm true b k;by_cases h:a=p
 .subst h
  by_cases h2:b∈k<;>simp[e,h2]
 .simp[h]
def aN0(h:¬(a=p/\b∉k)):lmI (lmE n ps l p ks (.sh (.tup (k.map .int))) (.sh (.int k.length)) (.sh (.int a)) (.sh (.int b)) s8)= .nx (lmE n ps l p ks (.sh (.tup (k.map .int))) (.sh (.int k.length)) (.sh (.int a)) (.sh (.int b)) s8):=by
 unfold lmI;rw[nP,aLh,decide_eq_false h];rfl
def aOv(h:a=p/\b∉k)(hk:k.length<60)(hz:ks.length<1000):lmI (lmE n ps l p ks (.sh (.tup (k.map .int))) (.sh (.int k.length)) (.sh (.int a)) (.sh (.int b)) s8)= .nx (lmE n ps l p (yo ks (sortI (k++[b]))) (.sh (.tup (k.map .int))) (.sh (.int k.length)) (.sh (.int a)) (.sh (.int b)) (.sh (.tup ((sortI (k++[b])).map .int)))):=by
 obtain⟨m,hm⟩:∃m,m=sortI (k++[b]):=⟨_,rfl⟩
 have hl:m.length=k.length+1:=by rw[hm,(sortI_perm _).length_eq,zAZ];rfl
 have a1:cN 8 (opA cM (aC (opA qW (aC (op2 cj (aF 4) (b7 (aC (aF 7) aH))) aH)) aH)) (lmE n ps l p ks (.sh (.tup (k.map .int))) (.sh (.int k.length)) (.sh (.int a)) (.sh (.int b)) s8)= .nx (lmE n ps l p ks (.sh (.tup (k.map .int))) (.sh (.int k.length)) (.sh (.int a)) (.sh (.int b)) (.sh (.tup (m.map .int)))):=by
  have e1:cj (.tup (k.map .int)) (.tup [.int b])= .ok (.tup ((k++[b]).map .int)):=by
   unfold cj;dsimp only;rw[if_pos (by rw[zAF,szl];simp;lia),zAa];rfl
  have e2:qW [.tup ((k++[b]).map .int)]= .ok (.lst (m.map .int)):=by
   unfold qW;dsimp only;rw[bO];dsimp only;rw[if_pos (by rw[zAZ];simp;lia),hm]
  rw[zAa]at e2 e1;simp only[zAD,zEL]at e2 e1;simp[e1,e2]
 have g1:aFr (cQ 3) (aF 8) (cD (.int 0)) (lmE n ps l p ks (.sh (.tup (k.map .int))) (.sh (.int k.length)) (.sh (.int a)) (.sh (.int b)) (.sh (.tup (m.map .int))))= .ok (.int (if m∈ks then(m.length:Int)else 0)):=by
  unfold aFr
  show(Rs.ok (tW (ks.map lwD))).bd _=_
  rw[aL];unfold tW;dsimp only;rw[xR];dsimp only;have e3:yC (.tup (m.map .int))=some m:=bO m
  show(Rs.ok (D.tup (m.map .int))).bd _=_
  rw[aL,aEq,aL,e3];dsimp only;rw[if_pos (show imm (.int 0)=true from rfl),aE4];split<;>rfl
 have g2:opA (mmD λ i j=>if j>i then j else i) (aC (aFr (cQ 3) (aF 8) (cD (.int 0))) (aC (op2 cj (aF 5) (cD (.int 1))) aH)) (lmE n ps l p ks (.sh (.tup (k.map .int))) (.sh (.int k.length)) (.sh (.int a)) (.sh (.int b)) (.sh (.tup (m.map .int))))= .ok (.int m.length):=by
  have e4:op2 cj (aF 5) (cD (.int 1)) (lmE n ps l p ks (.sh (.tup (k.map .int))) (.sh (.int k.length)) (.sh (.int a)) (.sh (.int b)) (.sh (.tup (m.map .int))))= .ok (.int m.length):=by
   rw[hl];rfl
  rw[gr,bF,bF,g1,aL,e4,aL,fQ,aL,aL,aL];show okD (Rs.ok (D.int (if (m.length:Int)>(if m∈ks then(m.length:Int)else 0)then(m.length:Int)else(if m∈ks then(m.length:Int)else 0))))=_
  have:(if (m.length:Int)>(if m∈ks then(m.length:Int)else 0)then(m.length:Int)else(if m∈ks then(m.length:Int)else 0))=m.length:=by
   by_cases z:m∈ks
   .rw[if_pos z,if_neg (zHy _)]
   .rw[if_neg z,if_pos (by lia)]
  rw[this];rfl
 have a2:ptS 3 (aF 8) (opA (mmD λ i j=>if j>i then j else i) (aC (aFr (cQ 3) (aF 8) (cD (.int 0))) (aC (op2 cj (aF 5) (cD (.int 1))) aH))) (lmE n ps l p ks (.sh (.tup (k.map .int))) (.sh (.int k.length)) (.sh (.int a)) (.sh (.int b)) (.sh (.tup (m.map .int))))= .nx (lmE n ps l p (yo ks m) (.sh (.tup (k.map .int))) (.sh (.int k.length)) (.sh (.int a)) (.sh (.int b)) (.sh (.tup (m.map .int)))):=by
  unfold ptS;rw[g2]
  show(Rs.bo (.ok (D.int m.length)) λ d=>Rs.bo (.ok (D.tup (m.map .int))) λ k'=>match xM (tW (ks.map lwD)) k' with
   |some (ps',j)=>if ps'.length<zAO then Ou.nx ((lmE n ps l p ks (.sh (.tup (k.map .int))) (.sh (.int k.length)) (.sh (.int a)) (.sh (.int b)) (.sh (.tup (m.map .int)))).set 3 (.ow (tW (aCG ps' j d))))else .st
   |none=>.st)=_
  have e5:xM (tW (ks.map lwD)) (.tup (m.map .int))=some (ks.map lwD,m):=by
   unfold xM tW;dsimp only;rw[show yC (.tup (m.map .int))=some m from bO m,xR]
  rw[bK,bK,e5];dsimp only;rw[if_pos (by rw[zAF,szl];lia),aM7];rfl
 unfold lmI;rw[nP,aLh,decide_eq_true h,bK,if_pos rfl,aP,a1,aq,a2,<-hm]
end
def Gk(ps:gX)(p:Int)(x:List Int):Prop:=∃M:gX,(∀q∈M,q∈ps/\q.1<p)/\(M.map (·.1)).Nodup/\(M.map (·.2)).Nodup/\x=sortI (M.map (·.2))
structure KnM(ps:gX)(p:Int)(ks:gV):Prop where
 nd:ks.Nodup
 gd:∀x∈ks,Gk ps p x
section
variable{n p:Int}{ps:gX}{l:List (List Int×Int)}{ks:gV}{k x:List Int}
def Gk.mono{p':Int}(G:Gk ps p x)(h:p<=p'):Gk ps p' x:=let⟨M,h1,r⟩:=G;⟨M,λ q hq=>⟨(h1 q hq).1,Int.lt_of_lt_of_le (h1 q hq).2 h⟩,r⟩
def Gk.sub(G:Gk ps p x)(hW:Ow n ps)(hn:n<=7):x∈aGT:=by
 obtain⟨M,h1,h2,h3,rfl⟩:=G;refine aGR (mY h3) λ e he=>?_
 obtain⟨q,hq,rfl⟩:=zA6.mp (gn.mp he)
 have:=hW.pr q (h1 q hq).1
 lia
def Gk.len(G:Gk ps p x)(hW:Ow n ps):x.length<=n.toNat:=by
 obtain⟨M,h1,h2,h3,rfl⟩:=G;rw[(sortI_perm _).length_eq];refine jJ h3 λ e he=>?_
 obtain⟨q,hq,rfl⟩:=zA6.mp he
 have:=hW.pr q (h1 q hq).1
 exact⟨this.2.2.1,this.2.2.2.1⟩
def Gk.add{b:Int}(G:Gk ps p k)(hb:(p,b)∈ps)(hn:b∉k):Gk ps (p+1) (sortI (k++[b])):=by
 obtain⟨M,h1,h2,h3,rfl⟩:=G;have hb2:b∉M.map (·.2):=λ z=>hn (gn.mpr z)
 have h4:((M++[(p,b)]).map (·.2)).Nodup:=by
  rw[zAa,zAb];exact⟨h3,by simp,λ y hy z hz e=>hb2 (by rw[<-(show z=b by simpa using hz),<-e];exact hy)⟩
 refine⟨M++[(p,b)],λ q hq=>?_,?_,h4,?_⟩
 .rcases zAX.mp hq with hq|hq
  .exact⟨(h1 q hq).1,by have:=(h1 q hq).2;lia⟩
  .rw[zAM.mp hq];exact⟨hb,by show p<p+1;lia⟩
 .rw[zAa,zAb]
  refine⟨h2,by simp,λ y hy z hz e=>?_⟩;obtain⟨q,hq,rfl⟩:=zA6.mp hy;have h5:=(h1 q hq).2
  have:z=p:=by simpa using hz
  lia
 .refine aBq ?_ h4 λ y=>?_
  .rw[zAb]
   exact⟨(sortI_perm _).nodup_iff.mpr h3,by simp,λ y hy z hz e=>hn (by rw[<-zAM.mp hz,<-e];exact hy)⟩
  .rw[zAX,gn,zAa,zAX]
   rfl
def KnM.len(h:KnM ps p ks)(hW:Ow n ps)(hn:n<=7):ks.length<=128:=by
 have:=h.nd.length_le_of_subset (l₂:=aGT) λ x hx=>(h.gd x hx).sub hW hn
 rwa [aGS]at this
def KnM.hash(h:KnM ps p ks)(hW:Ow n ps)(hn:n<=7):(ks.map hsh).Nodup:=pL h.nd λ x hx y hy e=>iC aEy x ((h.gd x hx).sub hW hn) y ((h.gd y hy).sub hW hn) e
def KnM.add(h:KnM ps p ks)(G:Gk ps p x):KnM ps p (yo ks x):=by
 unfold yo;split
 .exact h
 .rename_i hx
  refine⟨zAb.mpr ⟨h.nd,by simp,λ y hy z hz e=>hx (by rw[<-zAM.mp hz,<-e];exact hy)⟩,λ y hy=>?_⟩;rcases zAX.mp hy with hy|hy
  .exact h.gd y hy
  .rw[zAM.mp hy];exact G
def aIn:x∈yo ks x:=by
 unfold yo;split
 .assumption
 .simp
def aCq{y:List Int}(h:y∈ks):y∈yo ks x:=by
 unfold yo;split
 .exact h
 .exact zA5 _ h
def aM1(k:List Int):D:=.tup [.tup (k.map .int),.int k.length]
def aF8(hW:Ow n ps)(hn:n<=7)(G:Gk ps p k)(hk:KnM ps (p+1) ks)(s6 s7 s8:Slot):∃ks' s6' s7' s8',forL g67 lmI (ps.map pD) (lmE n ps l p ks (.sh (.tup (k.map .int))) (.sh (.int k.length)) s6 s7 s8)= .nx (lmE n ps l p ks' (.sh (.tup (k.map .int))) (.sh (.int k.length)) s6' s7' s8')/\KnM ps (p+1) ks'/\(∀x∈ks,x∈ks')/\∀q∈ps,q.1=p->q.2∉k->sortI (k++[q.2])∈ks':=by
 have hkl:=G.len hW;obtain⟨ρ',g1,ks',s6',s7',s8',rfl,g3,g4,g5⟩:=fL (a:=g67) (u:=lmI) (ps.map pD) (λ(i:Nat) ρ=>∃(ks':gV) (s6' s7' s8':Slot),ρ=lmE n ps l p ks' (.sh (.tup (k.map .int))) (.sh (.int k.length)) s6' s7' s8'/\KnM ps (p+1) ks'/\(∀x∈ks,x∈ks')/\∀q∈ps.take i,q.1=p->q.2∉k->sortI (k++[q.2])∈ks')
  (lmE n ps l p ks (.sh (.tup (k.map .int))) (.sh (.int k.length)) s6 s7 s8) ⟨ks,s6,s7,s8,rfl,hk,λ _ h=>h,λ _ h=>nomatch h⟩ (by
  rintro i d ρ hd ⟨ks',s6',s7',s8',rfl,h1,h2,h3⟩;rw[zAP]at hd;cases hx:ps[i]? with
  |none=>rw[hx]at hd;cases hd
  |some q=>
   rw[hx]at hd;cases hd;have hq:q∈ps:=zAr hx;have hl:=h1.len hW hn;have tk:∀y∈ps.take (i+1),y∈ps.take i\/y=q:=λ y hy=>by
    rw[zH6,hx]at hy;rcases zAX.mp hy with hy|hy
    .exact .inl hy
    .exact .inr (by simpa using hy)
   by_cases hc:q.1=p/\q.2∉k
   .refine⟨_,aOv hc (by lia) (by lia),yo ks' (sortI (k++[q.2])),_,_,_,rfl,h1.add (G.add (by rw[<-hc.1];exact hq) hc.2),λ x hx=>aCq (h2 x hx),λ y hy y1 y2=>?_⟩
    rcases tk y hy with z|rfl
    .exact aCq (h3 y z y1 y2)
    .exact aIn
   .refine⟨_,aN0 hc,ks',_,_,_,rfl,h1,h2,λ y hy y1 y2=>?_⟩
    rcases tk y hy with z|rfl
    .exact h3 y z y1 y2
    .exact absurd ⟨y1,y2⟩ hc)
 refine⟨ks',s6',s7',s8',g1,g3,g4,λ q hq=>g5 q ?_⟩;rw[zAF,zFC];exact hq
def aHh(hW:Ow n ps)(hn:n<=7)(h0:KnM ps p ks)(s4 s5 s6 s7 s8:Slot):∃ks' s4' s5' s6' s7' s8',forL g45 lmM (ks.map aM1) (lmE n ps l p ks s4 s5 s6 s7 s8)= .nx (lmE n ps l p ks' s4' s5' s6' s7' s8')/\KnM ps (p+1) ks'/\(∀x∈ks,x∈ks')/\∀k∈ks,∀q∈ps,q.1=p->q.2∉k->sortI (k++[q.2])∈ks':=by
 obtain⟨ρ',g1,ks',s4',s5',s6',s7',s8',rfl,g3,g4,g5⟩:=fL (a:=g45) (u:=lmM) (ks.map aM1) (λ(i:Nat) ρ=>∃(ks':gV) (s4' s5' s6' s7' s8':Slot),ρ=lmE n ps l p ks' s4' s5' s6' s7' s8'/\KnM ps (p+1) ks'/\(∀x∈ks,x∈ks')/\∀k∈ks.take i,∀q∈ps,q.1=p->q.2∉k->sortI (k++[q.2])∈ks')
  (lmE n ps l p ks s4 s5 s6 s7 s8) ⟨ks,s4,s5,s6,s7,s8,rfl,⟨h0.nd,λ x hx=>(h0.gd x hx).mono (by lia)⟩,λ _ h=>h,λ _ h=>nomatch h⟩ (by
  rintro i d ρ hd ⟨ks',s4',s5',s6',s7',s8',rfl,h1,h2,h3⟩;rw[zAP]at hd;cases hx:ks[i]? with
  |none=>rw[hx]at hd;cases hd
  |some k=>
   rw[hx]at hd;cases hd;have hkm:k∈ks:=zAr hx;obtain⟨ks2,t6,t7,t8,q1,q2,q3,q4⟩:=aF8 (l:=l) hW hn (h0.gd k hkm) h1 s6' s7' s8';refine⟨lmE n ps l p ks2 (.sh (.tup (k.map .int))) (.sh (.int k.length)) t6 t7 t8,?_,ks2,_,_,t6,t7,t8,rfl,q2,λ x hx=>q3 x (h2 x hx),λ y hy=>?_⟩
   .have e1:cg (op2 ixD (aF 0) (cD (.int 1))) (lmE n ps l p ks' (.sh (.tup (k.map .int))) (.sh (.int k.length)) s6' s7' s8')= .ok (ps.map pD):=by simp[owD]
    show lmM (lmE n ps l p ks' (.sh (.tup (k.map .int))) (.sh (.int k.length)) s6' s7' s8')=_;unfold lmM;rw[fU,e1,bK];exact q1
   .rw[zH6,hx]at hy
    rcases zAX.mp hy with hy|hy
    .exact λ q hq y1 y2=>q3 _ (h3 y hy q hq y1 y2)
    .have:y=k:=by simpa using hy
     rw[this];exact q4)
 refine⟨ks',s4',s5',s6',s7',s8',g1,g3,g4,λ q hq=>g5 q ?_⟩;rw[zAF,zFC];exact hq
end
def rk(cm:gX)(p:Int):List Int:=sortI ((cm.filter λ q=>decide (q.2<p)).map (·.1))
section
variable{n:Int}{ps cm:gX}
def aJ7(C:Cm ps cm)(nv:(cm.map (·.2)).Nodup)(p:Int):rk cm (p+1)=rk cm p\/∃e,(p,e)∈ps/\e∉rk cm p/\rk cm (p+1)=sortI (rk cm p++[e]):=by
 have nk:∀x:Int,((cm.filter λ q=>decide (q.2<x)).map (·.1)).Nodup:=λ x=>C.nd.sublist (zEW _ zCe)
 by_cases h:∃e,(e,p)∈cm
 .obtain⟨e,he⟩:=h
  have hn:e∉rk cm p:=λ z=>by
   obtain⟨q,hq,z2⟩:=zA6.mp (gn.mp z);obtain⟨h1,h2⟩:=zAg.mp hq
   have:=iC C.nd q h1 (e,p) he z2
   rw[this]at h2;exact absurd (of_decide_eq_true h2) (zHy _)
  refine .inr ⟨e,C.ar _ he,hn,?_⟩;refine aBq (nk _) ?_ λ x=>?_
  .rw[zAb]
   exact⟨(sortI_perm _).nodup_iff.mpr (nk p),by simp,λ y hy z hz w=>hn (by rw[<-zAM.mp hz,<-w];exact hy)⟩
  .rw[zAX]
   unfold rk;rw[gn,zA6,zA6];constructor
   .rintro⟨q,hq,rfl⟩
    obtain⟨h1,h2⟩:=zAg.mp hq;have h3:q.2<p+1:=of_decide_eq_true h2;by_cases h4:q.2<p
    .exact .inl ⟨q,zAg.mpr ⟨h1,decide_eq_true h4⟩,rfl⟩
    .have:q=(e,p):=iC nv q h1 (e,p) he (show q.2=p by lia)
     right;rw[this];exact zAM.mpr rfl
   .rintro(⟨q,hq,rfl⟩|hx)
    .obtain⟨h1,h2⟩:=zAg.mp hq
     have h3:q.2<p:=of_decide_eq_true h2;exact⟨q,zAg.mpr ⟨h1,decide_eq_true (by lia)⟩,rfl⟩
    .rw[zAM.mp hx]
     exact⟨(e,p),zAg.mpr ⟨he,decide_eq_true (show p<p+1 by lia)⟩,rfl⟩
 .left
  unfold rk;congr 2;refine zEn λ q hq=>?_
  rw[decide_eq_decide]
  have:q.2≠p:=λ z=>h ⟨q.1,by rw[<-z];exact hq⟩
  lia
def aC1(hW:Ow n ps)(hn:n<=7)(C:Cm ps cm)(nv:(cm.map (·.2)).Nodup)(ub:∀M:gX,(∀q∈M,q∈ps)->(M.map (·.1)).Nodup->(M.map (·.2)).Nodup->M.length<=cm.length):kE [owD n ps]= .ok (.int cm.length):=by
 have h0:=hW.n0;have r0:rk cm 0=[]:=by
  unfold rk
  have:(cm.filter λ q=>decide (q.2<0))=[]:=zCt.mpr λ q hq z=>by
   have h1:=hW.pr _ (C.ar q hq);have h2:q.2<0:=of_decide_eq_true z;have h3:0<=q.2:=h1.1;lia
  rw[this];rfl
 obtain⟨ρ',g1,ks,s2,s3,s4,s5,s6,s7,s8,rfl,g3,g4⟩:=fL (a:=gnm 2) (u:=lmO) ((upI n).map D.int) (λ(i:Nat) ρ=>∃(ks:gV) (s2 s3 s4 s5 s6 s7 s8:Slot),ρ=[.sh (owD n ps),.sh (.itx none (ks.map lw)),s2,s3,s4,s5,s6,s7,s8]/\KnM ps i ks/\rk cm i∈ks)
  [.sh (owD n ps),.sh (.itx none ([[]].map lw)),.no,.no,.no,.no,.no,.no,.no] ⟨[[]],.no,.no,.no,.no,.no,.no,.no,rfl,⟨by simp,λ x hx=>by
   rw[zAM.mp hx];exact⟨[],λ _ h=>(nomatch h),zBs,zBs,rfl⟩⟩,by rw[show((0:Nat):Int)=0 from rfl,r0];exact zAM.mpr rfl⟩ (by
  rintro i d ρ hd ⟨ks,s2,s3,s4,s5,s6,s7,s8,rfl,K,hr⟩;have hi:i<n.toNat:=by
   have:=(zAL.mp hd).1
   rwa [zAF,fC]at this
  have ed:d= .int (i:Int):=by
   rw[zAP,upI,zAP,zCf hi]at hd;simpa using hd.symm
  subst ed;have hl:=K.len hW hn;have c1:=aNv (List.ne_nil_of_mem hr) (by lia) (K.hash hW hn);obtain⟨ks',t4,t5,t6,t7,t8,q1,q2,q3,q4⟩:=aHh (l:=ks.map lw) hW hn K s4 s5 s6 s7 s8;refine⟨[.sh (owD n ps),.sh (.itx none (ks'.map lw)),.sh (.int i),.sh (.itx none (ks'.map lw)),t4,t5,t6,t7,t8],?_,ks',_,_,t4,t5,t6,t7,t8,rfl,q2,?_⟩
  .show lmO [.sh (owD n ps),.sh (.itx none (ks.map lw)),.sh (.int i),s3,s4,s5,s6,s7,s8]=_
   have a1:lF 3 (opA aDl (aC (aF 1) aH)) [.sh (owD n ps),.sh (.itx none (ks.map lw)),.sh (.int i),s3,s4,s5,s6,s7,s8]= .nx (lmE n ps (ks.map lw) i ks s4 s5 s6 s7 s8):=by simp[c1]
   have a2:aK5 (aF 1) (lmE n ps (ks.map lw) i ks s4 s5 s6 s7 s8)= .ok (ks.map aM1):=by
    unfold aK5
    show(Rs.ok (D.itx none (ks.map lw))).bd _=_
    rw[aL];dsimp only;rw[zAQ];rfl
   have a3:aBg 3 (cN 1 (aF 3)) (lmE n ps (ks.map lw) i ks' t4 t5 t6 t7 t8)= .nx [.sh (owD n ps),.sh (.itx none (ks'.map lw)),.sh (.int i),.sh (.itx none (ks'.map lw)),t4,t5,t6,t7,t8]:=by
    unfold aBg
    show(match sI (.non::(ks'.map lwD).map λ p=>.tup (p.1.map .int)) ((ks'.map lwD).map (·.2))with
     |some l=>cN 1 (aF 3) ((lmE n ps (ks.map lw) i ks' t4 t5 t6 t7 t8).set 3 (.sh (.itx none l)))
     |none=>.st)=_
    rw[aNb []];rfl
   unfold lmO;rw[aP,a1,aq,aP,fU,a2,bK,q1,aq,a3]
  .rcases aJ7 C nv i with z|⟨e,z1,z2,z3⟩
   .rw[show((i+1:Nat):Int)=(i:Int)+1 from rfl,z]
    exact q3 _ hr
   .rw[show((i+1:Nat):Int)=(i:Int)+1 from rfl,z3]
    exact q4 _ hr (i,e) z1 rfl z2)
 have kQ:(((upI n).map D.int).length:Int)=n:=by rw[zAF,fC];lia
 rw[kQ]at g3 g4;have rl:(rk cm n).length=cm.length:=by
  unfold rk;rw[(sortI_perm _).length_eq,zAF];congr 1;refine zGa.mpr λ q hq=>decide_eq_true ?_
  exact(hW.pr _ (C.ar q hq)).2.1
 have mx:((ks.map lw).map (·.2)).max?=some (cm.length:Int):=by
  rw[zGS,zAQ];refine⟨zA6.mpr ⟨_,g4,by show((rk cm n).length:Int)=_;rw[rl]⟩,λ y hy=>?_⟩;obtain⟨x,hx,rfl⟩:=zA6.mp hy;obtain⟨M,m1,m2,m3,rfl⟩:=g3.gd x hx
  show(((sortI (M.map (·.2))).length:Nat):Int)<=_
  rw[(sortI_perm _).length_eq,zAF];exact Int.ofNat_le.mpr (ub M (λ q hq=>(m1 q hq).1) m2 m3)
 have st:aZ 9 [owD n ps]=[.sh (owD n ps),.no,.no,.no,.no,.no,.no,.no,.no]:=rfl;have b1:cN 1 (aNl (aNr (b7 aH) (cD (.int 0)))) [.sh (owD n ps),.no,.no,.no,.no,.no,.no,.no,.no]= .nx [.sh (owD n ps),.sh (.itx none ([[]].map lw)),.no,.no,.no,.no,.no,.no,.no]:=rfl;have b2:dj gO (aC (op2 ixD (aF 0) (cD (.int 0))) aH) [.sh (owD n ps),.sh (.itx none ([[]].map lw)),.no,.no,.no,.no,.no,.no,.no]= .ok ((upI n).map D.int):=by
  have hr:=dm (j:=n) (by lia) (by lia);rw[<-qi];simp[owD,hr]
 have b3:aHd (.itx none (ks.map lw))= .ok (.int cm.length):=by
  unfold aHd;dsimp only;rw[mx]
 simp only[kE,iJ,ao,st];rw[aP,b1,aq,aP,fU,b2,bK,g1,aq];simp[b3]
def aKS(hW:Ow n ps){fs en:List Int}(hc:∀p∈ps,p.1∈fs\/p.2∈en){M:gX}(h1:∀q∈M,q∈ps)(h2:(M.map (·.1)).Nodup)(h3:(M.map (·.2)).Nodup):M.length<=fs.length+en.length:=by
 have e:M.length=(M.filter λ q=>decide (q.1∈fs)).length+(M.filter λ q=>!decide (q.1∈fs)).length:=by
  rw[<-zAZ];exact(List.filter_append_perm (λ q=>decide (q.1∈fs)) M).length_eq.symm
 have p1:(M.filter λ q=>decide (q.1∈fs)).length<=fs.length:=by
  rw[<-zAF (f:=λ q:Int×Int=>q.1)];refine sub_len (h2.sublist (zEW _ zCe)) λ x hx=>?_
  obtain⟨q,hq,rfl⟩:=zA6.mp hx;exact of_decide_eq_true (zAg.mp hq).2
 have p2:(M.filter λ q=>!decide (q.1∈fs)).length<=en.length:=by
  rw[<-zAF (f:=λ q:Int×Int=>q.2)];refine sub_len (h3.sublist (zEW _ zCe)) λ x hx=>?_
  obtain⟨q,hq,rfl⟩:=zA6.mp hx;obtain⟨z1,z2⟩:=zAg.mp hq;refine(hc q (h1 q z1)).resolve_left λ z=>?_
  rw[decide_eq_true z]at z2;cases z2
 lia
end
def Pi.skip{n:Int}{qs:gX}{i:Nat}{wys:gV}(P:Pi n qs i wys)(hc:(qs.map (·.2)).any (·==(i:Int))=true):Pi n qs (i+1) wys:=by
 refine⟨P.nd,P.rg,P.pr,P.sc,λ x x0 x1 no=>?_,λ x hx no=>?_,P.al,?_⟩
 .by_cases e:x=i
  .subst e
   obtain⟨a,ha⟩:=aLj hc;exact absurd ha (no a)
  .exact P.st x x0 (by lia) no
 .have:=P.lo x hx no
  lia
 .rw[rD,zDa,P.hs,zBN,if_neg (by rw[hc];exact zAU)]
  simp
def Pi.add{n t:Int}{qs:gX}{i:Nat}{wys:gV}{w:List Int}(P:Pi n qs i wys)(hc:(qs.map (·.2)).any (·==(i:Int))=false)(W:Wk n qs wys.flatten w i t)(ht:qs.lookup t=none):Pi n qs (i+1) (wys++[w]):=by
 have no:=aHa hc;have ef:(wys++[w]).flatten=wys.flatten++w:=by simp
 refine⟨by rw[ef];exact W.nd,by rw[ef];exact W.rg,by rw[ef];exact λ a b h hb=>(W.pr a b h hb).1,?_,?_,?_,?_,?_⟩
 .rw[ef]
  intro a b h ha;rcases zAX.mp ha with z|z
  .exact zA5 _ (P.sc a b h z)
  .by_cases c:a=t
   .subst c
    exact absurd h (rm ht)
   .exact zA3 _ (W.sc a b h z c)
 .rw[ef]
  intro x x0 x1 no;by_cases e:x=i
  .subst e
   refine zA3 _ ?_;have h1:=W.ne;have h2:=W.hd;cases w with
   |nil=>exact absurd rfl h1
   |cons a w=>rw[<-h2];exact zAJ
  .exact zA5 _ (P.st x x0 (by lia) no)
 .rw[ef]
  intro x hx no;rcases zAX.mp hx with z|z
  .have:=P.lo x z no
   lia
  .rcases W.bk x z with e|⟨a,ha⟩
   .rw[e];lia
   .exact absurd ha (no a)
 .intro v hv
  rcases zAX.mp hv with z|z
  .exact P.al v z
  .rw[zAM.mp z]
   exact⟨W.ne,W.al,by rw[W.hd];exact no,λ b=>by rw[W.lt];exact rm ht⟩
 .rw[rD,zDa,zAa,P.hs,zBN,if_pos (by rw[hc];rfl)]
  show _++[w.headD 0]=_;rw[W.hd];rfl
abbrev foE(qs:gX)(s:Int)(w:List Int):En:=[.sh (dq qs),.sh (.int s),.ow (.lst (w.map .int))]
def aFo{n s:Int}{qs:gX}{fl:List Int}(hn:n<=60)(u1:(qs.map (·.1)).Nodup)(u2:(qs.map (·.2)).Nodup)(rq:∀p∈qs,0<=p.2/\p.2<n)(no:∀a,(a,s)∉qs)(W:Wk n qs fl [s] s s):
  ∃w t,pI [dq qs,.int s]= .ok (tupI w)/\Wk n qs fl w s t/\qs.lookup t=none:=by
 have hx:∀{w t},Wk n qs fl w s t->foX (foE qs s w)= .ok (.int t):=λ{w t} W=>by
  have h:=W.lt;rw[zCa]at h;unfold foX;simp[aEr rfl W.ne,h]
 have hd:∀{w t y},Wk n qs fl w s t->qs.lookup t=some y->op2 kW (aF 0) foX (foE qs s w)= .ok (.int y):=λ{w t y} W h=>by
  rw[bh]
  show((Rs.ok (dq qs)).bd λ x=>(foX (foE qs s w)).bd λ z=>okD (kW x z))=_
  rw[aL,hx W,aL,aLn h];rfl
 have hc:∀{w t},Wk n qs fl w s t->foW (foE qs s w)= .ok (qs.lookup t).isSome:=λ{w t} W=>by
  have c1:tsb (op2 (jw false) foX (aF 0)) (foE qs s w)= .ok (qs.lookup t).isSome:=by
   rw[jD,bh,hx W,aL]
   show(okD (jw false (.int t) (dq qs))).bd blD=_
   rw[aLp];rfl
  unfold foW;rw[aB8,c1,aL];cases h:qs.lookup t with
  |none=>rfl
  |some y=>
   have hy:y≠s:=λ e=>no t (by rw[<-e];exact sE h)
   rw[zD2,if_pos rfl,jD,bh,hd W h,aL]
   show(okD (eqR true (.int y) (.int s))).bd blD=_
   simp[hy]
 obtain⟨ρ',m',e,⟨w',t',rfl,W',_⟩,ec⟩:=wK (c:=foW) (b:=foB) (λ m ρ=>∃w t,ρ=foE qs s w/\Wk n qs fl w s t/\m=61-(fl++w).length) (by
  rintro m ρ ⟨w,t,rfl,W,rfl⟩;rw[hc W];cases hl:qs.lookup t with
  |none=>exact .inl rfl
  |some y=>
   have hm:=sE hl;obtain⟨y0,y1⟩:=rq _ hm;have W':=W.step u1 u2 hm y0 y1;have l1:=jJ W.nd W.rg;have l2:=jJ W'.nd W'.rg;have l3:w.length<=60:=by rw[zAZ]at l1;lia
   refine .inr ⟨rfl,foE qs s (w++[y]),61-(fl++(w++[y])).length,?_,?_,w++[y],y,rfl,W',rfl⟩
   .have h7:ak (op2 kW (aF 0) foX) (foE qs s w)= .ok (.int y):=by unfold ak;rw[hd W hl];rfl
    unfold foB pF
    show(Rs.bo (ak (op2 kW (aF 0) foX) (foE qs s w)) λ d=>if (w.map D.int).length<zAO then Ou.nx ((foE qs s w).set 2 (.ow (.lst (w.map D.int++[d]))))else .st)=_
    rw[h7,bK,if_pos (by rw[szl,zAF];lia)];simp
   .simp only[zAZ,zAk,zBW]at l2 ⊢
    lia) (m:=61-(fl++[s]).length) (ρ:=foE qs s [s]) (by lia) ⟨[s],s,rfl,W,rfl⟩
 refine⟨w',t',?_,W',?_⟩
 .have st:aZ 3 [dq qs,.int s]=[.sh (dq qs),.sh (.int s),.no]:=rfl
  have a1:lF 2 (oA (aC (ak (aF 1)) aH)) [.sh (dq qs),.sh (.int s),.no]= .nx (foE qs s [s]):=by simp[lD]
  simp only[pI,mF,ao,st];rw[aP,a1,aq,aP,e,aq];simp[tupI]
 .rw[hc W']at ec
  cases h:qs.lookup t' with
  |none=>rfl
  |some y=>rw[h]at ec;cases ec
theorem wB{ρ:En}{fg:D->En->Rs En}{ft:En->Rs Bool}{fe:En->Rs D}{b m:List D}(hb:lcL ρ fg ft fe b= .ok m):∀{a l:List D},lcL ρ fg ft fe a= .ok l->lcL ρ fg ft fe (a++b)= .ok (l++m)
 |[],l,h=>by cases h;exact hb
 |d::a,l,h=>by
  rw[zDM];unfold lcL at h ⊢;cases e1:fg d ρ with
  |ok ρ1=>
   rw[e1,aL]at h;rw[aL];cases e2:ft ρ1 with
   |ok k=>
    rw[e2,aL]at h;rw[aL];cases k with
    |false=>
     rw[if_neg zAU]at h ⊢;exact wB hb h
    |true=>
     rw[if_pos rfl]at h ⊢;cases e3:fe ρ1 with
     |ok y=>
      rw[e3,aL]at h;rw[aL];cases e4:lcL ρ fg ft fe a with
      |ok ys=>
       rw[e4,aL]at h;cases h;rw[wB hb e4];rfl
      |ex c=>rw[e4]at h;cases h
      |st=>rw[e4]at h;cases h
     |ex c=>rw[e3]at h;cases h
     |st=>rw[e3]at h;cases h
   |ex c=>rw[e2]at h;cases h
   |st=>rw[e2]at h;cases h
  |ex c=>rw[e1]at h;cases h
  |st=>rw[e1]at h;cases h
abbrev waT:En->Rs Bool:=tsb (op2 (jw true) (aF 0) (aF 2))
abbrev waF:En->Rs D:=aR pI (aC (aF 1) (aC (aF 0) aH))
def yq{n:Nat}{qs:gX}(hn:n<=60)(hl:qs.length<=1000)(u1:(qs.map (·.1)).Nodup)(u2:(qs.map (·.2)).Nodup)(rq:∀p∈qs,0<=p.2/\p.2<(n:Int)):∃wys:gV,jR [.int n,.tup (qs.map pD)]= .ok (.tup (wys.map tupI))/\Pi n qs (n:Int).toNat wys:=by
 obtain⟨E,hE⟩:∃E,E=bY ((qs.map (·.2)).map vT):=⟨_,rfl⟩
 have key:∀i:Nat,i<=n->∃wys:gV,lcL [.no,.sh (dq qs),.sh E] (gnm 0) waT waF ((upI (i:Int)).map .int)= .ok (wys.map tupI)/\Pi n qs i wys:=by
  intro i;induction i with
  |zero=>exact λ _=>⟨[],rfl,zBs,λ _ h=>(nomatch h),λ _ _ _ h=>(nomatch h),λ _ _ _ h=>(nomatch h),λ x x0 x1 _=>by lia,λ _ h=>(nomatch h),λ _ h=>(nomatch h),rfl⟩
  |succ i ih=>
   intro hi;obtain⟨wys,e1,P⟩:=ih (by lia);have ct:waT [.sh (.int i),.sh (dq qs),.sh E]= .ok (!(qs.map (·.2)).any (·==(i:Int))):=by
    have:(qs.map (·.2)).any (·==(i:Int))=decide ((i:Int)∈qs.map (·.2)):=by
     rw[zBw,zBM,decide_eq_true_eq];exact⟨λ⟨x,hx,e⟩=>by rw[<-beq_iff_eq.mp e];exact hx,λ h=>⟨_,h,beq_self_eq_true _⟩⟩
    rw[this,hE];generalize qs.map (·.2)=es;simp[aEo,aHi]
   rw[rD,zAa];cases hc:(qs.map (·.2)).any (·==(i:Int))with
   |true=>
    refine⟨wys,?_,P.skip hc⟩;rw[hc]at ct
    have:=wB (b:=[D.int i]) (m:=[]) (by
     unfold lcL;rw[um,aL]
     show(waT [.sh (.int i),.sh (dq qs),.sh E]).bd _=_
     rw[ct];rfl) e1
    rwa [zBG]at this
   |false=>
    have no:=aHa hc;have hni:(i:Int)∉wys.flatten:=λ h=>by have:=P.lo _ h no;lia
    obtain⟨w,t,e2,W,ht⟩:=aFo (n:=n) (s:=i) (fl:=wys.flatten) (by lia) u1 u2 rq no (Wk.start P.nd P.rg (by lia) (by lia) hni no P.pr);refine⟨wys++[w],?_,P.add hc W ht⟩;rw[hc]at ct;rw[zAa];refine wB (b:=[D.int i]) (m:=[tupI w]) ?_ e1;unfold lcL;rw[um,aL]
    show(waT [.sh (.int i),.sh (dq qs),.sh E]).bd _=_
    rw[ct,aL]
    show((waF [.sh (.int i),.sh (dq qs),.sh E]).bd _)=_
    have:waF [.sh (.int i),.sh (dq qs),.sh E]= .ok (tupI w):=by simp[e2]
    rw[this];rfl
 obtain⟨wys,e1,P⟩:=key n (zAV n);refine⟨wys,?_,by rw[zBJ];exact P⟩;have st:aZ 4 [.int n,.tup (qs.map pD)]=[.sh (.int n),.sh (.tup (qs.map pD)),.no,.no]:=rfl;have hr:=dm (j:=(n:Int)) (by lia) (by lia);have c1:dcI (cg (aF 1)) [none,none] (gj 2 (bD (gnm 0) (bD (gnm 1) iG))) gP (ak (aF 0)) (ak (aF 1)) [.sh (.int n),.sh (.tup (qs.map pD)),.no,.no]= .ok (dq qs):=by
  have:=aI8 (fi:=cg (aF 1)) (js:=[none,none]) (fg:=gj 2 (bD (gnm 0) (bD (gnm 1) iG))) (ft:=gP) (fk:=ak (aF 0)) (fv:=ak (aF 1)) (ρ:=[.sh (.int n),.sh (.tup (qs.map pD)),.no,.no]) (ds:=qs.map pD) (qs:=qs.map λ q=>(q.1,.int q.2)) rfl (by rw[zAF];lia) (by rw[zAQ];exact aBK qs λ q hq=>⟨_,rfl,rfl⟩)
  rw[pQ (by rw[zAQ];exact u1)]at this;exact this
 have c2:dcI (cg (aF 1)) [none,none] (gj 2 (bD (gnm 0) (bD (gnm 1) iG))) gP (ak (aF 1)) (cD (.bl true)) [.sh (.int n),.sh (.tup (qs.map pD)),.sh (dq qs),.no]= .ok E:=by
  have:=aI8 (fi:=cg (aF 1)) (js:=[none,none]) (fg:=gj 2 (bD (gnm 0) (bD (gnm 1) iG))) (ft:=gP) (fk:=ak (aF 1)) (fv:=cD (.bl true)) (ρ:=[.sh (.int n),.sh (.tup (qs.map pD)),.sh (dq qs),.no]) (ds:=qs.map pD) (qs:=(qs.map (·.2)).map vT) rfl (by rw[zAF];lia) (by rw[zAQ,zAQ];exact aBK qs λ q hq=>⟨_,rfl,rfl⟩)
  rw[pQ (by rw[zAQ,zAQ];exact u2)]at this;rw[this,hE];rfl
 have c3:lcD (dj gO (aC (aF 0) aH)) [none,some 2,some 3] (gnm 0) waT waF [.sh (.int n),.sh (.tup (qs.map pD)),.sh (dq qs),.sh E]= .ok (.lst (wys.map tupI)):=by
  refine nM (ds:=(upI (n:Int)).map .int) (by rw[<-qi];simp[shE,nj,hr]) (by rw[zAF,fC];lia) ?_;exact e1
 have a1:cN 2 (dcI (cg (aF 1)) [none,none] (gj 2 (bD (gnm 0) (bD (gnm 1) iG))) gP (ak (aF 0)) (ak (aF 1))) [.sh (.int n),.sh (.tup (qs.map pD)),.no,.no]= .nx [.sh (.int n),.sh (.tup (qs.map pD)),.sh (dq qs),.no]:=by rw[rJ,c1];rfl
 have a2:cN 3 (dcI (cg (aF 1)) [none,none] (gj 2 (bD (gnm 0) (bD (gnm 1) iG))) gP (ak (aF 1)) (cD (.bl true))) [.sh (.int n),.sh (.tup (qs.map pD)),.sh (dq qs),.no]= .nx [.sh (.int n),.sh (.tup (qs.map pD)),.sh (dq qs),.sh E]:=by rw[rJ,c2];rfl
 have fin:dG [.sh (.int n),.sh (.tup (qs.map pD)),.no,.no]= .rt (.tup (wys.map tupI)):=by
  unfold dG;rw[aP,a1,aq,aP,a2,aq,iY,gr,bF,c3,aL,fQ,aL,aL,qT,gA,bK]
 unfold jR;rw[ao,st,fin]
def Pi.len{n:Int}{qs:gX}{wys:gV}(P:Pi n qs n.toNat wys)(u2:(qs.map (·.2)).Nodup)(rq:∀p∈qs,0<=p.2/\p.2<n)(h0:0<=n):wys.length+qs.length=n.toNat:=by
 have h1:=congrArg zCV P.hs;rw[zAF,zB9 h0]at h1;have h2:=(qm (lR n) u2 λ x hx=>by
  obtain⟨p,hp,rfl⟩:=zA6.mp hx;exact iD.mpr (rq p hp)).length_eq
 rw[zAZ,fC,zAF]at h2;have h3:((upI n).filter λ x=>!(qs.map (·.2)).any (·==x))=(upI n).filter λ x=>!decide (x∈qs.map (·.2)):=zEn λ x _=>by
  congr 1;rw[zBw,zBM,decide_eq_true_eq];exact⟨λ⟨y,hy,e⟩=>by rw[<-beq_iff_eq.mp e];exact hy,λ h=>⟨_,h,beq_self_eq_true _⟩⟩
 rw[h3]at h1;lia
def aNn(h:pln d=true)(h2:sz d<64):Fi1 d:=by
 cases d with
 |tup l=>
  have h3:=aN1 l;refine⟨h,?_,?_⟩
  .simp only[aML,zAW,decide_eq_true_eq,zAl]
   refine⟨by lia,λ x hx=>?_⟩
   have:=aKX hx
   cases x with
   |tup m=>simp[z8]at this;simp[aJS];lia
   |_=>rfl
  .unfold aAT
   unfold sz at h2;dsimp only at h2 ⊢
   have:∀l:List D,((l.map rowOf).flatten).length<=(l.map z8).sum:=λ l=>by
    induction l with
    |nil=>simp
    |cons x l ih=>
     rw[zAD,zBH,zAZ,zAD,List.sum_cons]
     have:(rowOf x).length<=z8 x:=by
      cases x with
      |tup l=>simp[rowOf,z8]
      |_=>simp[rowOf]
     lia
   have:=this l
   lia
 |_=>exact⟨h,rfl,by simp[aAT]⟩
section
variable{n:Nat}{ps:gX}{xs ys:List Int}
def aMs{m:Int}(O:Ow m ps)(f:Int×Int->Bool):Ow m (ps.filter f):=by
 refine⟨O.n0,O.n1,zAh (zEK f ps) O.len,λ p hp=>O.pr p (zAg.mp hp).1,?_⟩;rw[xG];exact(xG.mp O.ris).filter f
def aLw(U:Up n ps)(f:Int×Int->Bool):Up n (ps.filter f):=let⟨os,h1,h2⟩:=U;⟨os,h1,λ p hp=>h2 p (zAg.mp hp).1⟩
def aMb{m:Int}{cm:gX}{S:List Int}(hW:Ow m ps)(P:Prd m ps cm S){M:gX}(h1:∀q∈M,q∈ps)(h2:(M.map (·.1)).Nodup)(h3:(M.map (·.2)).Nodup):M.length<=cm.length:=by
 have hs:∀e∈ddI S,e∈S:=λ e he=>(aBH S e).mp he
 have hcl:∀b∈b0 m cm++(ddI S).map (par cm),∀x∈bZ ps b,x∈ddI S:=λ b hb x hx=>(aBH S x).mpr ((P.led hW hs hb).2 x hx)
 have sz:=P.size hW (pU S) hs
 have:=aKS hW (λ p hp=>aIP hcl hW hp) h1 h2 h3
 lia
def aDx(hn:n<=60)(hx:xs.Sublist (upI n))(hy:ys.Sublist (upI n)):To n xs ys:=by
 have l1:=hx.length_le;have l2:=hy.length_le;rw[fC]at l1 l2;exact⟨by lia,by lia,aHK hx,aHK hy⟩
def aK4(O:Ow n ps)(U:Up n ps)(hn:n<=7)(T:To n xs ys):∃(m:Nat) (wys:gV),cX [owD n ps,tupI xs,tupI ys]= .ok (.int (n-m))/\dZ [owD n ps,tupI xs,tupI ys]= .ok (.tup (wys.map tupI))/\kE [owD n (ps.filter (thF xs ys))]= .ok (.int m)/\gf [owD n (ps.filter (thF xs ys)),.tup (wys.map tupI)]= .ok (.bl true)/\(wys.length:Int)=n-m:=by
 have e0:=aCz O U T;have O1:=aMs O (thF xs ys);have U1:=aLw U (thF xs ys);obtain⟨qq,hq⟩:∃qq,qq=ps.filter (thF xs ys):=⟨_,rfl⟩
 rw[<-hq]at e0 O1 U1 ⊢;have e1:=mG O1 U1;obtain⟨cm,S,e2,P⟩:=aFW O1;have e3:=zZ O1 e2;obtain⟨qs,e4,q1,q2⟩:=yw O1 P e2;have hl:=(P.ends O1).2;have ql:qs.length=cm.length:=by rw[q1.length_eq,zAF]
 have sub:∀p∈qs,p∈qq:=λ p hp=>by
  obtain⟨r,hr,rfl⟩:=zA6.mp (q1.mem_iff.mp hp);exact P.c.ar r hr
 have u1:(qs.map (·.1)).Nodup:=by
  rw[(q1.map (·.1)).nodup_iff,zAQ];exact P.nv
 have u2:(qs.map (·.2)).Nodup:=by
  rw[(q1.map (·.2)).nodup_iff,zAQ];exact P.c.nd
 have rq:∀p∈qs,0<=p.2/\p.2<(n:Int):=λ p hp=>by
  have:=O1.pr p (sub p hp)
  exact⟨this.2.2.1,this.2.2.2.1⟩
 obtain⟨wys,e5,Q⟩:=yq (by lia) (by lia) u1 u2 rq;have wl:=Q.len u2 rq (by lia);have lp:=aFS O1 U1 sub Q;have fl:=jJ Q.nd Q.rg;have fi:Fi1 (.tup (wys.map tupI)):=aNn (aJr (aFR wys)) (by rw[aJG];lia);have f1:jV [owD n qq]= .ok (.int (n-cm.length)):=by
  have st:aZ 1 [owD n qq]=[.sh (owD n qq)]:=rfl;have fin:dH [.sh (owD n qq)]= .rt (.int (n-cm.length)):=by
   unfold dH;rw[aP,aCf];simp[e1,e3];simp[owD]
  unfold jV;rw[ao,st,fin]
 have f2:nU [owD n qq]= .ok (.tup (wys.map tupI)):=by
  have st:aZ 1 [owD n qq]=[.sh (owD n qq)]:=rfl;have fin:gC [.sh (owD n qq)]= .rt (.tup (wys.map tupI)):=by
   have hx:ixD (owD n qq) (.int 0)= .ok (.int n):=rfl;unfold gC;rw[aP,aCf];simp[e1,e4,e5,hx]
  unfold nU;rw[ao,st,fin]
 have st:aZ 3 [owD n ps,tupI xs,tupI ys]=[.sh (owD n ps),.sh (tupI xs),.sh (tupI ys)]:=rfl;refine⟨cm.length,wys,?_,?_,aC1 O1 (by lia) P.c P.nv λ M h1 h2 h3=>aMb O1 P h1 h2 h3,?_,by lia⟩
 .simp only[cX,dN,ao,st]
  simp[e0,f1]
 .simp only[dZ,gH,ao,st]
  simp[e0,f2]
 .rw[z9 O1 fi,lp]
end
def aNY{n:Nat}{k c:Int}{ps:gX}{ns xs ys:List Int}{s4 s5 s8 s9 sA:Slot}(O:Ow n ps)(U:Up n ps)(hn:n<=7)(T:To n xs ys):∃t8 t9 tA,lwB [.sh (.scr ns),.sh (.int k),.sh (.int c),.sh (owD n ps),s4,s5,.sh (tupI xs),.sh (tupI ys),s8,s9,sA]= .nx [.sh (.scr ns),.sh (.int k),.sh (.int c),.sh (owD n ps),s4,s5,.sh (tupI xs),.sh (tupI ys),t8,t9,tA]:=by
 obtain⟨m,wys,e1,e2,e3,e4,e5⟩:=aK4 O U hn T;have kQ:=O.len;have hx:ixD (owD n ps) (.int 0)= .ok (.int n):=rfl;have c8:lc8 [.sh (.scr ns),.sh (.int k),.sh (.int c),.sh (owD n ps),s4,s5,.sh (tupI xs),.sh (tupI ys),s8,s9,sA]= .ok (.lst ((ps.filter (thF xs ys)).map pD)):=by
  refine nM (ds:=ps.map pD) (by simp[shE,nj,owD]) (by rw[zAF];lia) ?_;exact lB ps λ p _=>⟨[.sh (pD p),.sh (tupI xs),.sh (tupI ys)],rfl,by
   have i1:=jm true p.2 xs;have i2:=jm true p.1 ys;have at0:atD [D.int p.1,.int p.2] 0= .ok (.int p.1):=rfl;have at1:atD [D.int p.1,.int p.2] 1= .ok (.int p.2):=rfl;unfold thF;by_cases z:p.2∈xs<;>simp[pD,tupI,at0,at1,i1,i2,z],rfl⟩
 have a8:lw8 [.sh (.scr ns),.sh (.int k),.sh (.int c),.sh (owD n ps),s4,s5,.sh (tupI xs),.sh (tupI ys),s8,s9,sA]= .nx [.sh (.scr ns),.sh (.int k),.sh (.int c),.sh (owD n ps),s4,s5,.sh (tupI xs),.sh (tupI ys),.sh (owD n (ps.filter (thF xs ys))),s9,sA]:=by
  unfold lw8;rw[rJ];simp[c8,hx]
  try rfl
 obtain⟨qq,hq⟩:∃qq,qq=owD n (ps.filter (thF xs ys)):=⟨_,rfl⟩
 rw[<-hq]at e3 e4 a8;have a9:lw9 [.sh (.scr ns),.sh (.int k),.sh (.int c),.sh (owD n ps),s4,s5,.sh (tupI xs),.sh (tupI ys),.sh qq,s9,sA]= .nx [.sh (.scr ns),.sh (.int k),.sh (.int c),.sh (owD n ps),s4,s5,.sh (tupI xs),.sh (tupI ys),.sh qq,.sh (.int (n-m)),sA]:=by simp[lw9,hx,e3]
 obtain⟨X,hX⟩:∃X,X=D.tup (wys.map tupI):=⟨_,rfl⟩
 have lX:fJ [X]= .ok (.int (n-m)):=by rw[hX,<-e5,<-zAF (f:=tupI)];rfl
 rw[<-hX]at e2 e4;have aA:lwA [.sh (.scr ns),.sh (.int k),.sh (.int c),.sh (owD n ps),s4,s5,.sh (tupI xs),.sh (tupI ys),.sh qq,.sh (.int (n-m)),sA]= .nx [.sh (.scr ns),.sh (.int k),.sh (.int c),.sh (owD n ps),s4,s5,.sh (tupI xs),.sh (tupI ys),.sh qq,.sh (.int (n-m)),.sh X]:=by simp[lwA,e2]
 have ek:lkF [.sh (.scr ns),.sh (.int k),.sh (.int c),.sh (owD n ps),s4,s5,.sh (tupI xs),.sh (tupI ys),.sh qq,.sh (.int (n-m)),.sh X]= .ok (.int (n-m)):=by simp[lkF,e1]
 have e8:=sH (d:=.int ((n:Int)-m)) rfl;have b1:aNX [.sh (.scr ns),.sh (.int k),.sh (.int c),.sh (owD n ps),s4,s5,.sh (tupI xs),.sh (tupI ys),.sh qq,.sh (.int (n-m)),.sh X]= .nx [.sh (.scr ns),.sh (.int k),.sh (.int c),.sh (owD n ps),s4,s5,.sh (tupI xs),.sh (tupI ys),.sh qq,.sh (.int (n-m)),.sh X]:=by simp[aNX,ek,e8,uI]
 have b2:aNW [.sh (.scr ns),.sh (.int k),.sh (.int c),.sh (owD n ps),s4,s5,.sh (tupI xs),.sh (tupI ys),.sh qq,.sh (.int (n-m)),.sh X]= .nx [.sh (.scr ns),.sh (.int k),.sh (.int c),.sh (owD n ps),s4,s5,.sh (tupI xs),.sh (tupI ys),.sh qq,.sh (.int (n-m)),.sh X]:=by simp[aNW,e4,lX]
 exact⟨_,_,_,by rw[lwB,aP,a8,aq,aP,a9,aq,aP,aA,aq,aP,b1,aq,b2]⟩
def aNV{ns:List Int}{k:Int}{s2 s3 s4 s5 s6 s7 s8 s9 sA:Slot}(hk:0<=k):∃t2 t3 t4 t5 t6 t7 t8 t9 tA,lwK [.sh (.scr ns),.sh (.int k),s2,s3,s4,s5,s6,s7,s8,s9,sA]= .nx [.sh (.scr ns),.sh (.int k),t2,t3,t4,t5,t6,t7,t8,t9,tA]:=by
 obtain⟨c,ec⟩:=aKz (ns:=ns) hk;obtain⟨n,ps,ew,O,hn,_,U⟩:=xu (c:=c) (most:=7) (by decide);have ew':fO [.int c,.int 7]= .ok (owD n ps):=ew;obtain⟨xs,e1,hx⟩:=qK (c:=c) (s:=30) (n:=n) (by decide) (by decide) (by lia) (by lia);obtain⟨ys,e2,hy⟩:=qK (c:=c) (s:=40) (n:=n) (by decide) (by decide) (by lia) (by lia);have hi:ixD (owD n ps) (.int 0)= .ok (.int n):=rfl;have cz:∃zs:List Int,cutD ((upI (n:Int)).map .int) none (some 2)=zs.map .int/\zs.Sublist (upI n):=by
  refine⟨((upI (n:Int)).drop (HT.sIx ((upI (n:Int)).map D.int).length 0 none)).take (HT.sIx ((upI (n:Int)).map D.int).length ((upI (n:Int)).map D.int).length (some 2)-HT.sIx ((upI (n:Int)).map D.int).length 0 none),?_,(zHD _ _).trans (List.drop_sublist _ _)⟩;unfold cutD;rw[zHj,zHi]
 obtain⟨zs,ez,hz⟩:=cz;have c0:lwC [.sh (.scr ns),.sh (.int k),s2,s3,s4,s5,s6,s7,s8,s9,sA]= .nx [.sh (.scr ns),.sh (.int k),.sh (.int c),s3,s4,s5,s6,s7,s8,s9,sA]:=by simp[lwC,ec]
 have c3:lw3 [.sh (.scr ns),.sh (.int k),.sh (.int c),s3,s4,s5,s6,s7,s8,s9,sA]= .nx [.sh (.scr ns),.sh (.int k),.sh (.int c),.sh (owD n ps),s4,s5,s6,s7,s8,s9,sA]:=by simp[lw3,ew']
 have c4:lw4 [.sh (.scr ns),.sh (.int k),.sh (.int c),.sh (owD n ps),s4,s5,s6,s7,s8,s9,sA]= .nx [.sh (.scr ns),.sh (.int k),.sh (.int c),.sh (owD n ps),.sh (tupI (upI n)),s5,s6,s7,s8,s9,sA]:=by
  have:trD (op2 ixD (aF 3) (cD (.int 0))) [.sh (.scr ns),.sh (.int k),.sh (.int c),.sh (owD n ps),s4,s5,s6,s7,s8,s9,sA]= .ok (tupI (upI n)):=by
   unfold trD;simp only[bh,kY,aEq]
   show((okD (ixD (owD n ps) (.int 0))).bd trR)=_
   rw[hi,gA,aL];unfold trR;dsimp only;rw[if_pos (by lia),qi]
   try rfl
  rw[lw4,rJ,this];rfl
 obtain⟨L,hL⟩:∃L:List (List Int×List Int),L=[(xs,ys),([],[]),(upI n,[]),([],zs)]:=⟨_,rfl⟩
 have hT:∀q∈L,To n q.1 q.2:=λ q hq=>by
  rw[hL]at hq;simp only[zA1,zCc,or_false]at hq;rcases hq with rfl|rfl|rfl|rfl
  .exact aDx (by lia) hx hy
  .exact aDx (by lia) (zEC _) (zEC _)
  .exact aDx (by lia) (List.Sublist.refl _) (zEC _)
  .exact aDx (by lia) (zEC _) hz
 have c5:lw5 [.sh (.scr ns),.sh (.int k),.sh (.int c),.sh (owD n ps),.sh (tupI (upI n)),s5,s6,s7,s8,s9,sA]= .nx [.sh (.scr ns),.sh (.int k),.sh (.int c),.sh (owD n ps),.sh (tupI (upI n)),.nw (.lst (L.map λ q=>.tup [tupI q.1,tupI q.2])),s6,s7,s8,s9,sA]:=by
  have g1:lt1 [.sh (.scr ns),.sh (.int k),.sh (.int c),.sh (owD n ps),.sh (tupI (upI n)),s5,s6,s7,s8,s9,sA]= .ok (.tup [tupI xs,tupI ys]):=by
   unfold lt1;simp[hi,e1,e2]
   try rfl
  have g2:lt2 [.sh (.scr ns),.sh (.int k),.sh (.int c),.sh (owD n ps),.sh (tupI (upI n)),s5,s6,s7,s8,s9,sA]= .ok (.tup [tupI [],tupI []]):=rfl;have i0:vh (tupI (upI n))= .ok (tupI (upI n)):=lD (yI _);have g3:lt3 [.sh (.scr ns),.sh (.int k),.sh (.int c),.sh (owD n ps),.sh (tupI (upI n)),s5,s6,s7,s8,s9,sA]= .ok (.tup [tupI (upI n),tupI []]):=by
   unfold lt3;simp[i0]
   try rfl
  have sl:aAk (aF 4) aE0 (aEZ (cD (.int 2))) [.sh (.scr ns),.sh (.int k),.sh (.int c),.sh (owD n ps),.sh (tupI (upI n)),s5,s6,s7,s8,s9,sA]= .ok (tupI zs):=by
   show okD (slD (.tup ((upI (n:Int)).map .int)) none (some 2))=_;rw[aJO,ez];rfl
  have i4:vh (tupI zs)= .ok (tupI zs):=lD (yI _);have g4:lt4 [.sh (.scr ns),.sh (.int k),.sh (.int c),.sh (owD n ps),.sh (tupI (upI n)),s5,s6,s7,s8,s9,sA]= .ok (.tup [tupI [],tupI zs]):=by
   have:ak (aAk (aF 4) aE0 (aEZ (cD (.int 2)))) [.sh (.scr ns),.sh (.int k),.sh (.int c),.sh (owD n ps),.sh (tupI (upI n)),s5,s6,s7,s8,s9,sA]= .ok (tupI zs):=by
    unfold ak;rw[sl,aL,i4]
   rw[lt4,vy,bF,bF,this];rfl
  rw[lw5,aEF,aKV,bF,g1,aL,bF,g2,aL,bF,g3,aL,bF,g4,hL];rfl
 obtain⟨ρ',e,t6,t7,t8,t9,tA,rfl⟩:=fL (a:=g67) (u:=lwB) (L.map λ q=>.tup [tupI q.1,tupI q.2]) (λ _ ρ=>∃t6 t7 t8 t9 tA,ρ=[.sh (.scr ns),.sh (.int k),.sh (.int c),.sh (owD n ps),.sh (tupI (upI n)),.nw (.lst (L.map λ q=>.tup [tupI q.1,tupI q.2])),t6,t7,t8,t9,tA]) [.sh (.scr ns),.sh (.int k),.sh (.int c),.sh (owD n ps),.sh (tupI (upI n)),.nw (.lst (L.map λ q=>.tup [tupI q.1,tupI q.2])),s6,s7,s8,s9,sA] ⟨_,_,_,_,_,rfl⟩ (by
  rintro i d ρ hd ⟨t6,t7,t8,t9,tA,rfl⟩;obtain⟨q,hq,rfl⟩:=zA6.mp (zAr hd);obtain⟨u8,u9,uA,e⟩:=aNY (ns:=ns) (k:=k) (c:=c) (s4:=.sh (tupI (upI n))) (s5:=.nw (.lst (L.map λ q=>.tup [tupI q.1,tupI q.2]))) (s8:=t8) (s9:=t9) (sA:=tA) O U hn (hT q hq);exact⟨_,e,_,_,_,_,_,rfl⟩)
 have ci:cg (vZ 5) [.sh (.scr ns),.sh (.int k),.sh (.int c),.sh (owD n ps),.sh (tupI (upI n)),.nw (.lst (L.map λ q=>.tup [tupI q.1,tupI q.2])),s6,s7,s8,s9,sA]= .ok (L.map λ q=>.tup [tupI q.1,tupI q.2]):=rfl;exact⟨_,_,_,_,_,_,_,_,_,by rw[lwK,aP,c0,aq,aP,c3,aq,aP,c4,aq,aP,c5,aq,fU,ci,bK,e]⟩
def aHm(ns:List Int)(hl:ns.length<=63):aIr [.scr ns]= .ok (.bl true):=by
 have st:aZ 11 [.scr ns]=[.sh (.scr ns),.no,.no,.no,.no,.no,.no,.no,.no,.no,.no]:=rfl;let m:Int:=if (if (8:Int)<ns.length then(8:Int)else ns.length)>1 then(if (8:Int)<ns.length then(8:Int)else ns.length)else 1
 have hm:1<=m/\m<=8:=by
  show 1<=(if (if (8:Int)<ns.length then(8:Int)else ns.length)>1 then(if (8:Int)<ns.length then(8:Int)else ns.length)else 1)/\(if (if (8:Int)<ns.length then(8:Int)else ns.length)>1 then(if (8:Int)<ns.length then(8:Int)else ns.length)else 1)<=8;split<;>split<;>lia
 have hr:=dm (j:=m) (by lia) (by lia);have hR:lwR [.sh (.scr ns),.no,.no,.no,.no,.no,.no,.no,.no,.no,.no]= .ok (cJ 0 m):=by
  rw[<-hr];unfold lwR;simp[m]
 obtain⟨ρ',el,t1,t2,t3,t4,t5,t6,t7,t8,t9,tA,rfl⟩:=fL (a:=gnm 1) (u:=lwK) (cJ 0 m) (λ _ ρ=>∃t1 t2 t3 t4 t5 t6 t7 t8 t9 tA,ρ=[.sh (.scr ns),t1,t2,t3,t4,t5,t6,t7,t8,t9,tA]) [.sh (.scr ns),.no,.no,.no,.no,.no,.no,.no,.no,.no,.no] ⟨.no,.no,.no,.no,.no,.no,.no,.no,.no,.no,rfl⟩ (by
  rintro i d ρ hd ⟨t1,t2,t3,t4,t5,t6,t7,t8,t9,tA,rfl⟩;obtain⟨k,rfl,k0,k1⟩:=iy.mp (zAr hd);obtain⟨u2,u3,u4,u5,u6,u7,u8,u9,uA,e⟩:=aNV (ns:=ns) (k:=k) (s2:=t2) (s3:=t3) (s4:=t4) (s5:=t5) (s6:=t6) (s7:=t7) (s8:=t8) (s9:=t9) (sA:=tA) k0;exact⟨_,e,_,_,_,_,_,_,_,_,_,_,rfl⟩)
 have z0:cX [.tup [.int 3,.tup [.tup [.int 0,.int 1],.tup [.int 1,.int 2]]],.tup [.int 1],.tup []]= .ok (.int 2):=by kernel_rfl
 have z1:dZ [.tup [.int 2,.tup [.tup [.int 0,.int 1]]],.tup [],.tup [.int 0]]= .ok (.tup [.tup [.int 0],.tup [.int 1]]):=by kernel_rfl
 have cz:lwZ [.sh (.scr ns),t1,t2,t3,t4,t5,t6,t7,t8,t9,tA]= .ok (.bl true):=by
  have a1:aR cX (aC (b7 (aC (cD (.int 3)) (aC (b7 (aC (b7 (aC (cD (.int 0)) (aC (cD (.int 1)) aH))) (aC (b7 (aC (cD (.int 1)) (aC (cD (.int 2)) aH))) aH))) aH))) (aC (b7 (aC (cD (.int 1)) aH)) (aC (b7 aH) aH))) [.sh (.scr ns),t1,t2,t3,t4,t5,t6,t7,t8,t9,tA]= .ok (.int 2):=z0;have a2:aR dZ (aC (b7 (aC (cD (.int 2)) (aC (b7 (aC (b7 (aC (cD (.int 0)) (aC (cD (.int 1)) aH))) aH)) aH))) (aC (b7 aH) (aC (b7 (aC (cD (.int 0)) aH)) aH))) [.sh (.scr ns),t1,t2,t3,t4,t5,t6,t7,t8,t9,tA]= .ok (.tup [.tup [.int 0],.tup [.int 1]]):=z1;have l1:b7 (aC (b7 (aC (cD (.int 0)) aH)) (aC (b7 (aC (cD (.int 1)) aH)) aH)) [.sh (.scr ns),t1,t2,t3,t4,t5,t6,t7,t8,t9,tA]= .ok (.tup [.tup [.int 0],.tup [.int 1]]):=rfl;have q0:eqR false (.int 2) (.int 2)= .ok (.bl true):=rfl;have q1:eqR false (.tup [.tup [.int 0],.tup [.int 1]]) (.tup [.tup [.int 0],.tup [.int 1]])= .ok (.bl true):=rfl;unfold lwZ;rw[wG,bh,a1,aL,aEq,aL,q0,gA,aL,bh,a2,aL,l1,aL,q1];rfl
 have key:vQ [.sh (.scr ns),.no,.no,.no,.no,.no,.no,.no,.no,.no,.no]= .rt (.bl true):=by
  rw[vQ,aP,fU,hR,bK,el,aq,iY,cz,bK]
 unfold aIr;rw[ao,st,key]
local macro_rules|`(tactic|walk_at "sc")=>`(tactic|exact⟨rfl,rfl,rfl,by decide+kernel,rfl,by decide+kernel,by decide+kernel⟩)
def top(i:Nat):Stmt:=PySem.Challenge.pw_fewways_k72_fewest_ways_that_keep.main.body.getD i (.Pass ⟨0,0,0,0⟩)
abbrev qd:Stmt:=top 7
abbrev uT:Stmt:=top 8
abbrev qe:Stmt:=top 9
abbrev uR:Stmt:=top 10
abbrev oU:Stmt:=top 11
abbrev fu:Stmt:=top 12
abbrev nF:Stmt:=top 13
abbrev jf:Stmt:=top 14
abbrev nC:Stmt:=top 16
abbrev jH:Stmt:=top 17
abbrev uU:Stmt:=top 18
abbrev qg:Stmt:=top 19
abbrev uQ:Stmt:=top 20
abbrev lJ:Stmt:=top 21
abbrev jG:Stmt:=top 22
abbrev je:Stmt:=top 24
abbrev wy:Stmt:=top 25
abbrev mj:Stmt:=top 26
abbrev m9:Stmt:=top 27
abbrev xF:Stmt:=top 29
abbrev m8:Stmt:=top 30
abbrev mq:Stmt:=top 31
abbrev qY:Stmt:=top 32
abbrev nD:Stmt:=top 34
abbrev uP:Stmt:=top 35
abbrev lM:Stmt:=top 36
abbrev oN:Stmt:=top 37
abbrev lL:Stmt:=top 39
abbrev qb:Stmt:=top 40
abbrev oO:Stmt:=top 41
abbrev qZ:Stmt:=top 42
abbrev lK:Stmt:=top 43
abbrev my:Stmt:=top 44
abbrev mz:Stmt:=top 45
abbrev oR:Stmt:=top 46
abbrev jd:Stmt:=top 47
abbrev nA:Stmt:=top 48
abbrev q9:Stmt:=top 49
abbrev aGf:Stmt:=top 50
def aBz:aV ["thing"] ["thing"] (aO qd):=by walk_at "sc"
def aDK:aV ["thing"] ["thing"] (aO uT):=by walk_at "sc"
def aCA:aV ["many","thing"] ["many","thing"] (aO qe):=by walk_at "sc"
def aDJ:aV ["many","thing"] ["many","thing"] (aO uR):=by walk_at "sc"
def aAs:aV ["things","at"] ["things"] (aO oU):=by walk_at "sc"
def pY:aV ["many","thing","pair"] ["many","thing"] (aO fu):=by walk_at "sc"
def zM:aV ["many","thing","place"] ["many","thing"] (aO nF):=by walk_at "sc"
def v6:aV ["many","thing"] ["many","thing"] (aO jf):=by walk_at "sc"
def zK:aV ["thing"] ["thing"] (aO nC):=by walk_at "sc"
def uO:aV ["thing"] ["thing"] (aO jH):=by walk_at "sc"
def aDL:aV ["web","led","begin","end"] ["web"] (aO uU):=by walk_at "sc"
def aCC:aV ["web","come","begin","end"] ["web"] (aO qg):=by walk_at "sc"
def aDI:aV ["web","led","waits","ready","order","place","other"] ["web"] (aO uQ):=by walk_at "sc"
def w6:aV ["web","order"] ["web"] (aO lJ):=by walk_at "sc"
def uN:aV ["web"] ["web"] (aO jG):=by walk_at "sc"
def aCB:aV ["led","come","begin","tried","end"] ["led","come","begin","tried"] (aO je):=by walk_at "sc"
def aFJ:aV ["web","led","come","begin"] ["web"] (aO wy):=by walk_at "sc"
def zE:aV ["web"] ["web"] (aO mj):=by walk_at "sc"
def zB:aV ["web"] ["web"] (aO m9):=by walk_at "sc"
def aFK:aV ["steps","start","gone"] ["steps","start"] (aO xF):=by walk_at "sc"
def zA:aV ["many","pairs","steps","ends"] ["many","pairs"] (aO m8):=by walk_at "sc"
def zF:aV ["web"] ["web"] (aO mq):=by walk_at "sc"
def aBv:aV ["web"] ["web"] (aO qY):=by walk_at "sc"
def zL:aV ["web","begins","ends"] ["web","begins","ends"] (aO nD):=by walk_at "sc"
def aDH:aV ["web","begins","ends"] ["web","begins","ends"] (aO uP):=by walk_at "sc"
def wu:aV ["web","begins","ends"] ["web","begins","ends"] (aO lM):=by walk_at "sc"
def aAp:aV ["web","begins","ends"] ["web","begins","ends"] (aO oN):=by walk_at "sc"
def wj:aV ["_law_script","_law_k"] ["_law_script","_law_k"] (aO lL):=by walk_at "sc"
def aBy:aV ["_law_cell","_law_k","_law_bound","_law_left","_law_j","_law_stir"] ["_law_cell","_law_k","_law_bound"] (aO qb):=by walk_at "sc"
def aAq:aV ["_law_found"] ["_law_found"] (aO oO):=by walk_at "sc"
def aBw:aV ["_law_cell","_law_many","_law_found","_law_place"] ["_law_cell","_law_many"] (aO qZ):=by walk_at "sc"
def wg:aV ["_law_cell","_law_most_here","_law_many","_law_kind","_law_thick","_law_order","_law_arrows","_law_spot","_law_j","_law_i"] ["_law_cell","_law_most_here"] (aO lK):=by walk_at "sc"
def zG:aV ["_law_row"] ["_law_row"] (aO my):=by walk_at "sc"
def zH:aV ["_law_cell","_law_spot","_law_many","_law_thick"] ["_law_cell","_law_spot","_law_many"] (aO mz):=by walk_at "sc"
def aAr:aV ["_law_web","_law_thing"] ["_law_web","_law_thing"] (aO oR):=by walk_at "sc"
def v5:aV ["_law_rows","_law_many","_law_found","_law_row"] ["_law_rows","_law_many"] (aO jd):=by walk_at "sc"
def zJ:aV ["_law_web","_law_thing"] ["_law_web","_law_thing"] (aO nA):=by walk_at "sc"
def aBx:aV ["_law_web","_law_known","_law_place","_law_later","_law_taken","_law_many","_law_one","_law_other","_law_more"] ["_law_web"] (aO q9):=by walk_at "sc"
def aMU:aV ["_law_script","_law_k","_law_cell","_law_web","_law_every","_law_told","_law_begins","_law_ends","_law_less","_law_due","_law_parting"] ["_law_script"] (aO aGf):=by walk_at "sc"
set_option genInjectivity false in
set_option genSizeOf false in
structure Adr where
 yQ:Addr
 iK:zA8
 aAY:Addr
 j9:zA8
 yR:Addr
 iM:zA8
 aAX:Addr
 j8:zA8
 vO:Addr
 dY:zA8
 jq:Addr
 bH:zA8
 tD:Addr
 cT:zA8
 o8:Addr
 dC:zA8
 su:Addr
 eV:zA8
 n8:Addr
 cP:zA8
 aAZ:Addr
 jb:zA8
 yS:Addr
 iQ:zA8
 aAW:Addr
 j7:zA8
 qL:Addr
 dJ:zA8
 n6:Addr
 cO:zA8
 jo:Addr
 cB:zA8
 aCa:Addr
 mD:zA8
 sW:Addr
 eN:zA8
 sV:Addr
 eG:zA8
 aCb:Addr
 mF:zA8
 sU:Addr
 dG:zA8
 sX:Addr
 dH:zA8
 yM:Addr
 gC:zA8
 sy:Addr
 eX:zA8
 aAV:Addr
 j6:zA8
 qO:Addr
 dN:zA8
 vL:Addr
 gH:zA8
 qN:Addr
 cW:zA8
 yP:Addr
 gD:zA8
 vM:Addr
 gJ:zA8
 yN:Addr
 iI:zA8
 qM:Addr
 dM:zA8
 sY:Addr
 eO:zA8
 sZ:Addr
 eQ:zA8
 vN:Addr
 cI:zA8
 o7:Addr
 dB:zA8
 sr:Addr
 eU:zA8
 yO:Addr
 iJ:zA8
 aLl:Addr
 vQ:zA8
 qD:Value
 rA:Addr
 uv:Addr
 qz:Addr
 uw:Addr
structure Txt(K:zAA)(mg:Str->Option Value)(t:Adr):Prop where
 qw:Dnr K mg "is_whole" qd ["thing"] t.yQ t.iK
 aA5:Dnr K mg "is_many" uT ["thing"] t.aAY t.j9
 nT:Dnr K mg "is_place" qe ["many","thing"] t.yR t.iM
 aA4:Dnr K mg "is_pair" uR ["many","thing"] t.aAX t.j8
 pB:Dnr K mg "is_rising" oU ["things"] t.vO t.dY
 ju:Dnr K mg "are_rising_pairs" fu ["many","thing"] t.jq t.bH
 tR:Dnr K mg "are_places" nF ["many","thing"] t.tD t.cT
 jt:Dnr K mg "check_places" jf ["many","thing"] t.o8 t.dC
 tO:Dnr K mg "is_one_way" nC ["thing"] t.su t.eV
 fW:Dnr K mg "check_one_way" jH ["thing"] t.n8 t.cP
 ut:Dnr K mg "all_led" uU ["web"] t.aAZ t.jb
 yd:Dnr K mg "all_come" qg ["web"] t.yS t.iQ
 aA3:Dnr K mg "ordered" uQ ["web"] t.aAW t.j7
 qP:Dnr K mg "least_order" lJ ["web"] t.qL t.dJ
 fV:Dnr K mg "check_ordered" jG ["web"] t.n6 t.cO
 qx:Dnr K mg "find_end" je ["led","come","begin","tried"] t.jo t.cB
 yX:Dnr K mg "paired" wy ["web"] t.aCa t.mD
 tH:Dnr K mg "most_pairs" mj ["web"] t.sW t.eN
 tG:Dnr K mg "some_pairs" m9 ["web"] t.sV t.eG
 aCe:Dnr K mg "follow" xF ["steps","start"] t.aCb t.mF
 tE:Dnr K mg "ways_along" m8 ["many","pairs"] t.sU t.dG
 tK:Dnr K mg "led_fewest" mq ["web"] t.sX t.dH
 yW:Dnr K mg "some_led" qY ["web"] t.yM t.gC
 tQ:Dnr K mg "check_told" nD ["web","begins","ends"] t.sy t.eX
 ur:Dnr K mg "thinned" uP ["web","begins","ends"] t.aAV t.j6
 ie:Dnr K mg "kept_fewest" lM ["web","begins","ends"] t.qO t.dN
 o9:Dnr K mg "some_kept" oN ["web","begins","ends"] t.vL t.gH
 qR:Dnr K mg "_law_cell_at" lL ["_law_script","_law_k"] t.qN t.cW
 gB:Dnr K mg "_law_draw" qb ["_law_cell","_law_k","_law_bound"] t.yP t.gD
 ou:Dnr K mg "_law_whole" oO ["_law_found"] t.vM t.gJ
 yZ:Dnr K mg "_law_turn" qZ ["_law_cell","_law_many"] t.yN t.iI
 qQ:Dnr K mg "_law_ordered" lK ["_law_cell","_law_most_here"] t.qM t.dM
 tL:Dnr K mg "_law_rising" my ["_law_row"] t.sY t.eO
 nR:Dnr K mg "_law_places" mz ["_law_cell","_law_spot","_law_many"] t.sZ t.eQ
 vP:Dnr K mg "_law_along" oR ["_law_web","_law_thing"] t.vN t.cI
 pA:Dnr K mg "_law_all_once" jd ["_law_rows","_law_many"] t.o7 t.dB
 tM:Dnr K mg "_law_parted" nA ["_law_web","_law_thing"] t.sr t.eU
 yc:Dnr K mg "_law_most" q9 ["_law_web"] t.yO t.iJ
 aI0:Dnr K mg "law" aGf ["_law_script"] t.aLl t.vQ
 iZ:mg "MOST_PLACES"=some t.qD
 zO:RelV (.int 60) t.qD
 m_FewError:mg "FewError"=some (.ref t.rA)
 l_FewError:bI mg "FewError"=t.rA
 mR:oG K t.rA
 aF4:mg "NoPlace"=some (.ref t.uv)
 aFd:bI mg "NoPlace"=t.uv
 lO:oG K t.uv
 aD4:mg "NoOneWay"=some (.ref t.qz)
 aDc:bI mg "NoOneWay"=t.qz
 jc:oG K t.qz
 aF5:mg "NoOrder"=some (.ref t.uw)
 aFe:bI mg "NoOrder"=t.uw
 lQ:oG K t.uw
 aE2:mg "all"=none
 aHc:mg "bool"=none
 aNT:mg "dict"=none
 aLg:mg "int"=none
 bx:mg "isinstance"=none
 km:mg "len"=none
 aNS:mg "list"=none
 aHb:mg "max"=none
 aLf:mg "min"=none
 cR:mg "range"=none
 aOs:mg "set"=none
 rY:mg "sorted"=none
 cu:mg "tuple"=none
section
variable{P:zAY}{w:World}{K:zAA}{mg:Str->Option Value}{base:Heap}{t:Adr}
def vG(T:Txt K mg t):bU P w K mg base (CX1 P w) 1 t.yQ t.iK ["thing"] (spF K (bI mg) 1 kI):=
 aj (k:=0) (f:=iK) T.qw aBz λ n _ _ _ _ _ _ _=>
  (aM (aa (lH (lG (aB 0) T.bx T.aLg) (m7 (aG8 (lG (aB 0) T.bx T.aHc))))))
def rT(T:Txt K mg t):bU P w K mg base (CX1 P w) 1 t.vO t.dY ["things"] (spF K (bI mg) 1 dF):=
 aj (k:=0) (f:=dY) T.pB aAs λ n _ _ _ _ _ _ _=>
  (aK (dX (aED (aD aJ (aD (jF T.km (aD (aB 0) aG)) aG)) T.cR) (bR (ks:=[1]))
   (aM (gF (fZ (aBn (aN (aB 0) (w5 (aB 1) aJ)) (aN (aB 0) (aB 1))))
    (aM (aa ik))
    cA)))
  (aM (aa ik)))
def xY(T:Txt K mg t):bU P w K mg base (CX1 P w) 1 t.aAZ t.jb ["web"] (spF K (bI mg) 1 iW):=
 aj (k:=0) (f:=jb) T.ut aDL λ n _ _ _ _ _ _ _=>
  (aK (aLT (N:=["place"]) (js:=[none]) (ks:=[0]) (di (aD (aN (aB 0) aJ) aG) T.cR) bV)
  (aK (dX (fD (aN (aB 0) aJ)) (mZ (n:=2) (bf (bR (ks:=[2,3])) (bf (bR (ks:=[2,3])) jM)))
   (aM (wU 1 (aB 2) (b8 (aB 3)))))
  (aM (aa (pK 1)))))
def aCS(T:Txt K mg t):bU P w K mg base (CX1 P w) 1 t.yS t.iQ ["web"] (spF K (bI mg) 1 nW):=
 aj (k:=0) (f:=iQ) T.yd aCC λ n _ _ _ _ _ _ _=>
  (aK (aLT (N:=["place"]) (js:=[none]) (ks:=[0]) (di (aD (aN (aB 0) aJ) aG) T.cR) bV)
  (aK (dX (fD (aN (aB 0) aJ)) (mZ (n:=2) (bf (bR (ks:=[2,3])) (bf (bR (ks:=[2,3])) jM)))
   (aM (wU 1 (aB 3) (b8 (aB 2)))))
  (aM (aa (pK 1)))))
def aF1(T:Txt K mg t):bU P w K mg base (CX1 P w) 1 t.aCb t.mF ["steps","start"] (spF K (bI mg) 2 pI):=
 aj (k:=0) (f:=mF) T.aCe aFK λ n _ _ _ _ _ _ _=>
  (aK (jK (i:=2) (vD (wZ (aD (b8 (aB 1)) aG))))
  (aK (aBo (SW.st (wN (aMI (aN (jE 2) (aDE aJ)) (aB 0)) (rE (aBm (aDG (aB 0) (aN (jE 2) (aDE aJ))) (aB 1)))))
   (aM (pJ 2 (b8 (aDG (aB 0) (aN (jE 2) (aDE aJ)))))))
  (aM (aa (gR T.cu (aD (pK 2) aG))))))
def xX(T:Txt K mg t):bU P w K mg base (CX1 P w) 1 t.qN t.cW ["_law_script","_law_k"] (spF K (bI mg) 2 fP):=
 aj (k:=0) (f:=cW) T.qR wj λ n _ _ _ _ _ _ _=>
  (aK (gF (aBn (aB 1) (jF T.km (aD (aB 0) aG)))
   (aM (aa (b8 (aN (aB 0) (aB 1)))))
   cA)
  (aM (aa aJ)))
def gG(T:Txt K mg t):bU P w K mg base (CX1 P w) 1 t.yP t.gD ["_law_cell","_law_k","_law_bound"] (spF K (bI mg) 3 bB):=
 aj (k:=0) (f:=gD) T.gB aBy λ n _ _ _ _ _ _ _=>
  (aK (gF (aOZ (aB 0) (aMO aJ aJ))
   (aK (bN (i:=3) (gm (aB 0)))
   (aK (dX (di (aD (aB 1) aG) T.cR) (bR (ks:=[4]))
    (aM (bN (i:=3) (gm (aEJ (aB 3) (aB 2))))))
   (aM (aa (uM (aB 3) (aB 2))))))
   cA)
  (aK (bN (i:=5) (gm (uM (qX (fG (fG (uM (aB 0) aJ) (qX aJ (aB 1))) aJ) aJ) aJ)))
  (aK (bN (i:=5) (gm (uM (fG (fG (qX (aB 5) (aB 5)) (qX aJ (aB 1))) aJ) aJ)))
  (aM (aa (uM (aEJ (uM (qX (aB 5) aJ) aJ) aJ) (aB 2)))))))
def rR(T:Txt K mg t):bU P w K mg base (CX1 P w) 1 t.vM t.gJ ["_law_found"] (spF K (bI mg) 1 jB):=
 aj (k:=0) (f:=gJ) T.ou aAq λ n _ _ _ _ _ _ _=>
  (aM (aa (lH (lG (aB 0) T.bx T.aLg) (m7 (aG8 (lG (aB 0) T.bx T.aHc))))))
def zU(T:Txt K mg t):bU P w K mg base (CX1 P w) 1 t.sY t.eO ["_law_row"] (spF K (bI mg) 1 gZ):=
 aj (k:=0) (f:=eO) T.tL zG λ n _ _ _ _ _ _ _=>
  (aM (aa (aAo T.aE2 (aD (qF (N:=["_law_k","_law_row"]) (js:=[none,some 0]) (ks:=[0]) (aED (aD aJ (aD (jF T.km (aD (aB 0) aG)) aG)) T.cR) bV m6 (aO2 (aN (aB 1) (w5 (aB 0) aJ)) (aN (aB 1) (aB 0)))) aG))))
def v8(T:Txt K mg t):bU P w K mg base (CX1 P w) 1 t.o7 t.dB ["_law_rows","_law_many"] (spF K (bI mg) 2 gh):=
 aj (k:=0) (f:=dB) T.pA v5 λ n _ _ _ _ _ _ _=>
  (aK (jK (i:=2) (vD (wZ aG)))
  (aK (dX (fD (aB 0)) (bR (ks:=[3]))
   (aM (aDB 2 (b8 (aB 3)))))
  (aM (aa (aGb (uL T.rY (aD (jE 2) aG)) (aDF T.aNS T.cR (aB 1)))))))
def aCQ(T:Txt K mg t):bU P w K mg base (CX1 P w) 1 t.yO t.iJ ["_law_web"] (spF K (bI mg) 1 kE):=
 aj (k:=0) (f:=iJ) T.yc aBx λ n _ _ _ _ _ _ _=>
  (aK (bN (i:=1) (gm (aJZ (aMS (bM aG) aJ))))
  (aK (dX (di (aD (aN (aB 0) aJ) aG) T.cR) (bR (ks:=[2]))
   (aK (jK (i:=3) (vD (aMM (aJ2 T.aNT (aD (aB 1) aG)))))
   (aK (dX (aFF (aB 1)) (mZ (n:=2) (bf (bR (ks:=[4,5])) (bf (bR (ks:=[4,5])) jM)))
    (aM (dX (fD (aN (aB 0) aJ)) (mZ (n:=2) (bf (bR (ks:=[6,7])) (bf (bR (ks:=[6,7])) jM)))
     (aM (gF (SW.st (wN (aAC (aB 6) (aB 2)) (rE (wQ (aB 7) (aB 4)))))
      (aK (bN (i:=8) (gm (gR T.cu (aD (aBt T.rY (aD (fG (aB 4) (bM (aD (aB 7) aG))) aG)) aG))))
      (aM (aJI 3 (aB 8) (aEH T.aHb (aD (aJ0 (jE 3) (aB 8) aJ) (aD (fG (aB 5) aJ) aG))))))
      cA)))))
   (aM (aGV 3 (bN (i:=1) (gm (aB 3))))))))
  (aM (aa (aMP T.aHb (aB 1))))))
def aD1(T:Txt K mg t):bU P w K mg base (CX1 P w) 2 t.aAY t.j9 ["thing"] (spF K (bI mg) 1 pX):=
 aj (k:=1) (f:=j9) T.aA5 aDK λ n _ _ _ _ _ _ _=>
  (aM (aa (lH (aU (vG T) T.qw (aD (aB 0) aG)) (m7 (aJX aJ (aB 0) (aJY T.iZ T.zO (λ _ _=>.int _)))))))
def oY(T:Txt K mg t):bU P w K mg base (CX1 P w) 2 t.yR t.iM ["many","thing"] (spF K (bI mg) 2 dI):=
 aj (k:=1) (f:=iM) T.nT aCA λ n _ _ _ _ _ _ _=>
  (aM (aa (lH (aU (vG T) T.qw (aD (aB 1) aG)) (m7 (aEI aJ (aB 1) (aB 0))))))
def aDZ(T:Txt K mg t):bU P w K mg base (CX1 P w) 2 t.aAW t.j7 ["web"] (spF K (bI mg) 1 mO):=
 aj (k:=1) (f:=j7) T.aA3 aDI λ n _ _ _ _ _ _ _=>
  (aK (bN (i:=1) (gm (aU (xY T) T.ut (aD (aB 0) aG))))
  (aK (jK (i:=2) (vD (aMM (qF (N:=["begins"]) (js:=[none]) (ks:=[0]) (fD (aU (aCS T) T.yd (aD (aB 0) aG))) bV m6 (jF T.km (aD (aB 0) aG))))))
  (aK (jK (i:=3) (aOV (aOW (N:=["place","waits"]) (js:=[none,some 2]) (ks:=[0]) (di (aD (aN (aB 0) aJ) aG) T.cR) bV (wY (aAC (aN (aB 1) (aB 0)) aJ)) (b8 (aB 0)))))
  (aK (jK (i:=4) (vD (wZ aG)))
  (aK (aBo (fY (jE 3))
   (aK (bN (i:=5) (gm (aJU T.aLf (aD (jE 3) aG))))
   (aK (aEz 3 (b8 (aB 5)))
   (aK (pJ 4 (b8 (aB 5)))
   (aM (dX (fD (aN (aB 1) (aB 5))) (bR (ks:=[6]))
    (aK (aJJ 2 (λ _=>aNe) (aB 6) aJ)
    (aM (gF (aAC (aN (jE 2) (aB 6)) aJ)
     (aM (pJ 3 (b8 (aB 6))))
     cA)))))))))
  (aM (aa (pK 4))))))))
def zP(T:Txt K mg t):bU P w K mg base (CX1 P w) 2 t.sU t.dG ["many","pairs"] (spF K (bI mg) 2 jR):=
 aj (k:=1) (f:=dG) T.tE zA λ n _ _ _ _ _ _ _=>
  (aK (bN (i:=2) (gm (aLU (N:=["begin","end"]) (js:=[none,none]) (ks:=[0,1]) (fD (aB 1)) (mZ (n:=2) (bf bV (bf bV jM))) m6 (b8 (aB 0)) (b8 (aB 1)))))
  (aK (bN (i:=3) (gm (aLU (N:=["begin","end"]) (js:=[none,none]) (ks:=[0,1]) (fD (aB 1)) (mZ (n:=2) (bf bV (bf bV jM))) m6 (b8 (aB 1)) ik)))
  (aM (aa (gR T.cu (aD (qF (N:=["place","steps","ends"]) (js:=[none,some 2,some 3]) (ks:=[0]) (di (aD (aB 0) aG) T.cR) bV (wY (aAi (aB 0) (aB 2))) (aU (aF1 T) T.aCe (aD (aB 1) (aD (aB 0) aG)))) aG))))))
def aCP(T:Txt K mg t):bU P w K mg base (CX1 P w) 2 t.yN t.iI ["_law_cell","_law_many"] (spF K (bI mg) 2 jz):=
 aj (k:=1) (f:=iI) T.yZ aBw λ n _ _ _ _ _ _ _=>
  (aK (jK (i:=2) (vD (wZ aG)))
  (aK (dX (di (aD (aB 1) aG) T.cR) (bR (ks:=[3]))
   (aM (aFA 2 (aU (gG T) T.gB (aD (aB 0) (aD (fG aJ (aB 3)) (aD (fG (aB 3) aJ) aG)))) (b8 (aB 3)))))
  (aM (aa (pK 2)))))
def qI(T:Txt K mg t):bU P w K mg base (CX1 P w) 2 t.sZ t.eQ ["_law_cell","_law_spot","_law_many"] (spF K (bI mg) 3 g8):=
 aj (k:=1) (f:=eQ) T.nR zH λ n _ _ _ _ _ _ _=>
  (aK (bN (i:=3) (gm (fG aJ (aU (gG T) T.gB (aD (aB 0) (aD (aB 1) (aD aJ aG)))))))
  (aM (aa (gR T.cu (aD (qF (N:=["_law_place","_law_cell","_law_spot","_law_thick"]) (js:=[none,some 0,some 1,some 3]) (ks:=[0]) (di (aD (aB 2) aG) T.cR) bV (wY (aBn (aU (gG T) T.gB (aD (aB 1) (aD (fG (fG (aB 2) aJ) (aB 0)) (aD aJ aG)))) (aB 3))) (b8 (aB 0))) aG)))))
def aBD(T:Txt K mg t):bU P w K mg base (CX1 P w) 2 t.vN t.cI ["_law_web","_law_thing"] (spF K (bI mg) 2 cU):=
 aj (k:=1) (f:=cI) T.vP aAr λ n _ _ _ _ _ _ _=>
  (aK (gF (SW.st (vC (fZ (fY (lG (aB 1) T.bx T.cu))) (oJ (aAC (jF T.km (aD (aB 1) aG)) aJ))))
   (aM (aa ik))
   cA)
  (aK (gF (SW.st (vC (fZ (fY (aAo T.aE2 (aD (qF (N:=["_law_one","_law_web"]) (js:=[none,some 0]) (ks:=[0]) (fD (aB 1)) bV m6 (lH (aU (rR T) T.ou (aD (aB 0) aG)) (m7 (aEI aJ (aB 0) (aN (aB 1) aJ))))) aG)))) (oJ (aBn (aJW T.km (aD (aMN T.aOs (aD (aB 1) aG)) aG)) (jF T.km (aD (aB 1) aG))))))
   (aM (aa ik))
   cA)
  (aM (aa (aAo T.aE2 (aD (qF (N:=["_law_k","_law_thing","_law_web"]) (js:=[none,some 1,some 0]) (ks:=[0]) (di (aD (w5 (jF T.km (aD (aB 1) aG)) aJ) aG) T.cR) bV m6 (aO3 (bM (aD (aN (aB 1) (aB 0)) (aD (aN (aB 1) (fG (aB 0) aJ)) aG))) (aN (aB 2) aJ))) aG))))))
def aD0(T:Txt K mg t):bU P w K mg base (CX1 P w) 3 t.aAX t.j8 ["many","thing"] (spF K (bI mg) 2 mQ):=
 aj (k:=2) (f:=j8) T.aA4 aDJ λ n _ _ _ _ _ _ _=>
  (aK (gF (SW.st (vC (fZ (fY (lG (aB 1) T.bx T.cu))) (oJ (aBm (jF T.km (aD (aB 1) aG)) aJ))))
   (aM (aa ik))
   cA)
  (aM (aa (lH (aU (oY T) T.nT (aD (aB 0) (aD (aN (aB 1) aJ) aG))) (lH (aU (oY T) T.nT (aD (aB 0) (aD (aN (aB 1) aJ) aG))) (m7 (aO1 (aN (aB 1) aJ) (aN (aB 1) aJ))))))))
def zY(T:Txt K mg t):bU P w K mg base (CX1 P w) 3 t.tD t.cT ["many","thing"] (spF K (bI mg) 2 fB):=
 aj (k:=2) (f:=cT) T.tR zM λ n _ _ _ _ _ _ _=>
  (aK (gF (fZ (fY (lG (aB 1) T.bx T.cu)))
   (aM (aa ik))
   cA)
  (aK (dX (fD (aB 1)) (bR (ks:=[2]))
   (aM (gF (fZ (fY (aU (oY T) T.nT (aD (aB 0) (aD (aB 2) aG)))))
    (aM (aa ik))
    cA)))
  (aM (aa (aU (rT T) T.pB (aD (aB 1) aG))))))
def xW(T:Txt K mg t):bU P w K mg base (CX1 P w) 3 t.qM t.dM ["_law_cell","_law_most_here"] (spF K (bI mg) 2 fO):=
 aj (k:=2) (f:=dM) T.qQ wg λ n _ _ _ _ _ _ _=>
  (aK (bN (i:=2) (gm (aU (gG T) T.gB (aD (aB 0) (aD aJ (aD (fG (aB 1) aJ) aG))))))
  (aK (bN (i:=3) (gm (aU (gG T) T.gB (aD (aB 0) (aD aJ (aD aJ aG))))))
  (aK (aEA (i:=4) (gm (aN (aGa (aD aJ (aD aJ (aD aJ (aD aJ (aD aJ (aD aJ aG))))))) (aB 3))))
  (aK (bN (i:=5) (gm (aU (aCP T) T.yZ (aD (aB 0) (aD (aB 2) aG)))))
  (aK (jK (i:=6) (vD (wZ aG)))
  (aK (bN (i:=7) (gm aJ))
  (aK (dX (di (aD (aB 2) aG) T.cR) (bR (ks:=[8]))
   (aM (dX (di (aD (aB 8) aG) T.cR) (bR (ks:=[9]))
    (aK (bN (i:=7) (gm (fG (aB 7) aJ)))
    (aM (gF (SW.st (vC (aBn (aU (gG T) T.gB (aD (aB 0) (aD (aB 7) (aD aJ aG)))) (aEG 4)) (oJ (SW.st (wN (aAC (aB 3) aJ) (rE (aOY (aB 8) (bM (aD (fG (qX aJ (aB 9)) aJ) (aD (fG (qX aJ (aB 9)) aJ) aG))))))))))
     (aM (pJ 6 (bM (aD (b8 (aN (aB 5) (aB 9))) (aD (b8 (aN (aB 5) (aB 8))) aG)))))
     cA))))))
  (aM (aa (bM (aD (b8 (aB 2)) (aD (gR T.cu (aD (uL T.rY (aD (jE 6) aG)) aG)) aG))))))))))))
def zV(T:Txt K mg t):bU P w K mg base (CX1 P w) 3 t.sr t.eU ["_law_web","_law_thing"] (spF K (bI mg) 2 gf):=
 aj (k:=2) (f:=eU) T.tM zJ λ n _ _ _ _ _ _ _=>
  (aK (gF (SW.st (vC (fZ (fY (lG (aB 1) T.bx T.cu))) (oJ (fZ (fY (aAo T.aE2 (aD (qF (N:=["_law_way","_law_web"]) (js:=[none,some 0]) (ks:=[0]) (fD (aB 1)) bV m6 (aU (aBD T) T.vP (aD (aB 1) (aD (aB 0) aG)))) aG)))))))
   (aM (aa ik))
   cA)
  (aM (aa (lH (aU (zU T) T.tL (aD (aB 1) aG)) (m7 (aU (v8 T) T.pA (aD (aB 1) (aD (aN (aB 0) aJ) aG))))))))
def ph(T:Txt K mg t):bU P w K mg base (CX1 P w) 4 t.jq t.bH ["many","thing"] (spF K (bI mg) 2 bu):=
 aj (k:=3) (f:=bH) T.ju pY λ n _ _ _ _ _ _ _=>
  (aK (gF (fZ (fY (lG (aB 1) T.bx T.cu)))
   (aM (aa ik))
   cA)
  (aK (dX (fD (aB 1)) (bR (ks:=[2]))
   (aM (gF (fZ (fY (aU (aD0 T) T.aA4 (aD (aB 0) (aD (aB 2) aG)))))
    (aM (aa ik))
    cA)))
  (aM (aa (aU (rT T) T.pB (aD (aB 1) aG))))))
def nY(T:Txt K mg t):bU P w K mg base (CX1 P w) 4 t.o8 t.dC ["many","thing"] (spF K (bI mg) 2 dg):=
 aj (k:=3) (f:=dC) T.jt v6 λ n _ _ _ _ _ _ _=>
  (aM (gF (fZ (fY (aU (zY T) T.tR (aD (aB 0) (aD (aB 1) aG)))))
   (aM (wR rfl T.aF4 T.aFd T.lO (aD aDD aG)))
   cA))
def zW(T:Txt K mg t):bU P w K mg base (CX1 P w) 5 t.su t.eV ["thing"] (spF K (bI mg) 1 jW):=
 aj (k:=4) (f:=eV) T.tO zK λ n _ _ _ _ _ _ _=>
  (aK (gF (SW.st (vC (fZ (fY (lG (aB 0) T.bx T.cu))) (oJ (aBm (jF T.km (aD (aB 0) aG)) aJ))))
   (aM (aa ik))
   cA)
  (aM (aa (lH (aU (aD1 T) T.aA5 (aD (aN (aB 0) aJ) aG)) (m7 (aU (ph T) T.ju (aD (aN (aB 0) aJ) (aD (aN (aB 0) aJ) aG))))))))
def iB(T:Txt K mg t):bU P w K mg base (CX1 P w) 6 t.n8 t.cP ["thing"] (spF K (bI mg) 1 cG):=
 aj (k:=5) (f:=cP) T.fW uO λ n _ _ _ _ _ _ _=>
  (aM (gF (fZ (fY (aU (zW T) T.tO (aD (aB 0) aG))))
   (aM (wR rfl T.aD4 T.aDc T.jc (aD aDD aG)))
   cA))
def xV(T:Txt K mg t):bU P w K mg base (CX1 P w) 7 t.qL t.dJ ["web"] (spF K (bI mg) 1 ig):=
 aj (k:=6) (f:=dJ) T.qP w6 λ n _ _ _ _ _ _ _=>
  (aK (jL (aU (iB T) T.fW (aD (aB 0) aG)))
  (aK (bN (i:=1) (gm (aU (aDZ T) T.aA3 (aD (aB 0) aG))))
  (aM (aa (aO4 (aAC (jF T.km (aD (aB 1) aG)) (aN (aB 0) aJ)) (b8 (gR T.cu (aD (aB 1) aG))) aG9)))))
def gw(T:Txt K mg t):bU P w K mg base (CX1 P w) 8 t.n6 t.cO ["web"] (spF K (bI mg) 1 cF):=
 aj (k:=7) (f:=cO) T.fV uN λ n _ _ _ _ _ _ _=>
  (aM (gF (aOX (aU (xV T) T.qP (aD (aB 0) aG)) aG9)
   (aM (wR rfl T.aF5 T.aFe T.lQ (aD aDD aG)))
   cA))
def zX(T:Txt K mg t):bU P w K mg base (CX1 P w) 9 t.sy t.eX ["web","begins","ends"] (spF K (bI mg) 3 eZ):=
 aj (k:=8) (f:=eX) T.tQ zL λ n _ _ _ _ _ _ _=>
  (aK (jL (aU (gw T) T.fV (aD (aB 0) aG)))
  (aK (jL (aU (nY T) T.jt (aD (aN (aB 0) aJ) (aD (aB 1) aG))))
  (aM (jL (aU (nY T) T.jt (aD (aN (aB 0) aJ) (aD (aB 2) aG)))))))
def xU(T:Txt K mg t):bU P w K mg base (CX1 P w) 10 t.aAV t.j6 ["web","begins","ends"] (spF K (bI mg) 3 mL):=
 aj (k:=9) (f:=j6) T.ur aDH λ n _ _ _ _ _ _ _=>
  (aK (jL (aU (zX T) T.tQ (aD (aB 0) (aD (aB 1) (aD (aB 2) aG)))))
  (aM (aa (bM (aD (b8 (aN (aB 0) aJ)) (aD (gR T.cu (aD (qF (N:=["begin","end","begins","ends"]) (js:=[none,none,some 1,some 2]) (ks:=[0,1]) (fD (aN (aB 0) aJ)) (mZ (n:=2) (bf bV (bf bV jM))) (wY (SW.st (wN (wQ (aB 1) (aB 2)) (rE (wQ (aB 0) (aB 3)))))) (bM (aD (b8 (aB 0)) (aD (b8 (aB 1)) aG)))) aG)) aG))))))
def aDn(T:Txt K mg t){R:FB}{k:Nat}(hR:bU P w K mg base (CX1 P w) k t.jo t.cB ["led","come","begin","tried"] (spB K R))(nd:List.Nodup (["led","come","begin","tried","end"]:List Str))(cdv A outer s H Hb E hr):SBs (ctB P w K mg base ["led","come","begin","tried","end"] "find_end" (aO je) t.jo cdv A outer s H Hb E k hr) (fX je) (cB R):=
  (ww (aMW (fD (aN (aB 0) (aB 2))) (bR (ks:=[4])) (vz (aO5 (aAi (aB 4) (jE 3)) (ww (aGe 3 (aB 4) ik) (vz (aMV hR T.qx (aAi (aB 4) (jE 1)) (aDG (jE 1) (aB 4)) (ww (aGe 1 (aB 4) (b8 (aB 2))) (vz (aGd ik (λ _ _ e=>by cases e;rfl)))) (hr:=zAV _)))) aJ4))) (vz (aGd ik (λ _ _ e=>by cases e;rfl))))
theorem rW(T:Txt K mg t):∀n,bU P w K mg base (CX1 P w) (1+n) t.jo t.cB ["led","come","begin","tried"] (spB K (cC n))
 |0=>aFp
 |n+1=>aKp (k:=1+n) (f:=cB (cC n)) T.qx aCB λ nd cdv A outer s H Hb E hr=>aDn T (rW T n) nd cdv A outer s H Hb E hr
def aCR(T:Txt K mg t):bU P w K mg base (CX1 P w) 65 t.jo t.cB ["led","come","begin","tried"] (spB K iV):=rW T 64
def aAI(T:Txt K mg t):bU P w K mg base (CX1 P w) 66 t.aCa t.mD ["web"] (spF K (bI mg) 1 fM):=
 aj (k:=65) (f:=mD) T.yX aFJ λ n _ _ _ _ _ _ _=>
  (aK (bN (i:=1) (gm (aU (xY T) T.ut (aD (aB 0) aG))))
  (aK (jK (i:=2) (vD (aMM aJ1)))
  (aK (dX (di (aD (aN (aB 0) aJ) aG) T.cR) (bR (ks:=[3]))
   (aM (aGW 1 2 (aCR T) T.qx (aB 3))))
  (aM (aa (pK 2))))))
def zR(T:Txt K mg t):bU P w K mg base (CX1 P w) 67 t.sW t.eN ["web"] (spF K (bI mg) 1 jU):=
 aj (k:=66) (f:=eN) T.tH zE λ n _ _ _ _ _ _ _=>
  (aK (jL (aU (iB T) T.fW (aD (aB 0) aG)))
  (aM (aa (aMQ T.km (aD (aU (aAI T) T.yX (aD (aB 0) aG)) aG)))))
def zQ(T:Txt K mg t):bU P w K mg base (CX1 P w) 67 t.sV t.eG ["web"] (spF K (bI mg) 1 jT):=
 aj (k:=66) (f:=eG) T.tG zB λ n _ _ _ _ _ _ _=>
  (aK (jL (aU (iB T) T.fW (aD (aB 0) aG)))
  (aM (aa (gR T.cu (aD (uL T.rY (aD (qF (N:=["end","begin"]) (js:=[none,none]) (ks:=[0,1]) (aG3 (aMR (aU (aAI T) T.yX (aD (aB 0) aG)))) (mZ (n:=2) (bf bV (bf bV jM))) m6 (bM (aD (b8 (aB 1)) (aD (b8 (aB 0)) aG)))) aG)) aG)))))
def zT(T:Txt K mg t):bU P w K mg base (CX1 P w) 68 t.sX t.dH ["web"] (spF K (bI mg) 1 jV):=
 aj (k:=67) (f:=dH) T.tK zF λ n _ _ _ _ _ _ _=>
  (aK (jL (aU (gw T) T.fV (aD (aB 0) aG)))
  (aM (aa (w5 (aN (aB 0) aJ) (aU (zR T) T.tH (aD (aB 0) aG))))))
def aCO(T:Txt K mg t):bU P w K mg base (CX1 P w) 68 t.yM t.gC ["web"] (spF K (bI mg) 1 nU):=
 aj (k:=67) (f:=gC) T.yW aBv λ n _ _ _ _ _ _ _=>
  (aK (jL (aU (gw T) T.fV (aD (aB 0) aG)))
  (aM (aa (aU (zP T) T.tE (aD (aN (aB 0) aJ) (aD (aU (zQ T) T.tG (aD (aB 0) aG)) aG))))))
def ji(T:Txt K mg t):bU P w K mg base (CX1 P w) 69 t.qO t.dN ["web","begins","ends"] (spF K (bI mg) 3 cX):=
 aj (k:=68) (f:=dN) T.ie wu λ n _ _ _ _ _ _ _=>
  (aM (aa (aU (zT T) T.tK (aD (aU (xU T) T.ur (aD (aB 0) (aD (aB 1) (aD (aB 2) aG)))) aG))))
def rQ(T:Txt K mg t):bU P w K mg base (CX1 P w) 69 t.vL t.gH ["web","begins","ends"] (spF K (bI mg) 3 dZ):=
 aj (k:=68) (f:=gH) T.o9 aAp λ n _ _ _ _ _ _ _=>
  (aM (aa (aU (aCO T) T.yW (aD (aU (xU T) T.ur (aD (aB 0) (aD (aB 1) (aD (aB 2) aG)))) aG))))
def aNN(T:Txt K mg t):bU P w K mg base (CX1 P w) 70 t.aLl t.vQ ["_law_script"] (spF K (bI mg) 1 aIr):=
 aj (k:=69) (f:=vQ) T.aI0 aMU λ n _ _ _ _ _ _ _=>
  (aK (dX (di (aD (aEH T.aHb (aD aJ (aD (aJV T.aLf (aD (jF T.km (aD (aB 0) aG)) (aD aJ aG))) aG))) aG) T.cR) (bR (ks:=[1]))
   (aK (bN (i:=2) (gm (aU (xX T) T.qR (aD (aB 0) (aD (aB 1) aG)))))
   (aK (bN (i:=3) (gm (aU (xW T) T.qQ (aD (aB 2) (aD aJ aG)))))
   (aK (bN (i:=4) (gm (aFH T.cu T.cR (aN (aB 3) aJ))))
   (aK (aEA (i:=5) (gm (aGa (aD (bM (aD (aU (qI T) T.nR (aD (aB 2) (aD aJ (aD (aN (aB 3) aJ) aG)))) (aD (aU (qI T) T.nR (aD (aB 2) (aD aJ (aD (aN (aB 3) aJ) aG)))) aG))) (aD (bM (aD (bM aG) (aD (bM aG) aG))) (aD (bM (aD (b8 (aB 4)) (aD (bM aG) aG))) (aD (bM (aD (bM aG) (aD (b8 (aG7 (aB 4) aJL (aJK aJ))) aG))) aG)))))))
   (aM (dX (fD (aEG 5)) (mZ (n:=2) (bf (bR (ks:=[6,7])) (bf (bR (ks:=[6,7])) jM)))
    (aK (bN (i:=8) (gm (bM (aD (aN (aB 3) aJ) (aD (gR T.cu (aD (qF (N:=["_law_one","_law_begins","_law_ends"]) (js:=[none,some 6,some 7]) (ks:=[0]) (fD (aN (aB 3) aJ)) bV (wY (SW.st (wN (wQ (aN (aB 0) aJ) (aB 1)) (rE (wQ (aN (aB 0) aJ) (aB 2)))))) (b8 (aB 0))) aG)) aG)))))
    (aK (bN (i:=9) (gm (w5 (aN (aB 3) aJ) (aU (aCQ T) T.yc (aD (aB 8) aG)))))
    (aK (bN (i:=10) (gm (aU (rQ T) T.o9 (aD (aB 3) (aD (aB 6) (aD (aB 7) aG))))))
    (aK (gF (SW.st (vC (fZ (fY (aU (rR T) T.ou (aD (aU (ji T) T.ie (aD (aB 3) (aD (aB 6) (aD (aB 7) aG)))) aG)))) (oJ (aBm (aU (ji T) T.ie (aD (aB 3) (aD (aB 6) (aD (aB 7) aG)))) (aB 9)))))
     (aM (aa ik))
     cA)
    (aM (gF (SW.st (vC (fZ (fY (aU (zV T) T.tM (aD (aB 8) (aD (aB 10) aG))))) (oJ (aBm (jF T.km (aD (aB 10) aG)) (aB 9)))))
     (aM (aa ik))
     cA)))))))))))))
  (aM (aa (lH (aGb (aU (ji T) T.ie (aD (bM (aD aJ (aD (bM (aD (bM (aD aJ (aD aJ aG))) (aD (bM (aD aJ (aD aJ aG))) aG))) aG))) (aD (bM (aD aJ aG)) (aD (bM aG) aG)))) aJ) (m7 (aGb (aU (rQ T) T.o9 (aD (bM (aD aJ (aD (bM (aD (bM (aD aJ (aD aJ aG))) aG)) aG))) (aD (bM aG) (aD (bM (aD aJ aG)) aG)))) (bM (aD (bM (aD aJ aG)) (aD (bM (aD aJ aG)) aG)))))))))
end
def aLz{K:zAA}{h:Heap}{mg:Str->Option Value}{tk_MOST_PLACES:Tok}{q_FewError:Addr}{q_NoPlace:Addr}{q_NoOneWay:Addr}{q_NoOrder:Addr}(X:K.In h)(G:h.Ns zAd mg)
  (h0:∃f d,Enr K "is_whole" qd f d)
  (h1:∃f d,Enr K "is_many" uT f d)
  (h2:∃f d,Enr K "is_place" qe f d)
  (h3:∃f d,Enr K "is_pair" uR f d)
  (h4:∃f d,Enr K "is_rising" oU f d)
  (h5:∃f d,Enr K "are_rising_pairs" fu f d)
  (h6:∃f d,Enr K "are_places" nF f d)
  (h7:∃f d,Enr K "check_places" jf f d)
  (h8:∃f d,Enr K "is_one_way" nC f d)
  (h9:∃f d,Enr K "check_one_way" jH f d)
  (h10:∃f d,Enr K "all_led" uU f d)
  (h11:∃f d,Enr K "all_come" qg f d)
  (h12:∃f d,Enr K "ordered" uQ f d)
  (h13:∃f d,Enr K "least_order" lJ f d)
  (h14:∃f d,Enr K "check_ordered" jG f d)
  (h15:∃f d,Enr K "find_end" je f d)
  (h16:∃f d,Enr K "paired" wy f d)
  (h17:∃f d,Enr K "most_pairs" mj f d)
  (h18:∃f d,Enr K "some_pairs" m9 f d)
  (h19:∃f d,Enr K "follow" xF f d)
  (h20:∃f d,Enr K "ways_along" m8 f d)
  (h21:∃f d,Enr K "led_fewest" mq f d)
  (h22:∃f d,Enr K "some_led" qY f d)
  (h23:∃f d,Enr K "check_told" nD f d)
  (h24:∃f d,Enr K "thinned" uP f d)
  (h25:∃f d,Enr K "kept_fewest" lM f d)
  (h26:∃f d,Enr K "some_kept" oN f d)
  (h27:∃f d,Enr K "_law_cell_at" lL f d)
  (h28:∃f d,Enr K "_law_draw" qb f d)
  (h29:∃f d,Enr K "_law_whole" oO f d)
  (h30:∃f d,Enr K "_law_turn" qZ f d)
  (h31:∃f d,Enr K "_law_ordered" lK f d)
  (h32:∃f d,Enr K "_law_rising" my f d)
  (h33:∃f d,Enr K "_law_places" mz f d)
  (h34:∃f d,Enr K "_law_along" oR f d)
  (h35:∃f d,Enr K "_law_all_once" jd f d)
  (h36:∃f d,Enr K "_law_parted" nA f d)
  (h37:∃f d,Enr K "_law_most" q9 f d)
  (h38:∃f d,Enr K "law" aGf f d)
  (iZ:zAq K zAd "MOST_PLACES"=some (some (.int 60 tk_MOST_PLACES)))
  (y_FewError:zAq K zAd "FewError"=some (some (.ref q_FewError)))
  (mR:oG K q_FewError)
  (y_NoPlace:zAq K zAd "NoPlace"=some (some (.ref q_NoPlace)))
  (lO:oG K q_NoPlace)
  (y_NoOneWay:zAq K zAd "NoOneWay"=some (some (.ref q_NoOneWay)))
  (jc:oG K q_NoOneWay)
  (y_NoOrder:zAq K zAd "NoOrder"=some (some (.ref q_NoOrder)))
  (lQ:oG K q_NoOrder)
  (z_all:zAq K zAd "all"=some none)
  (z_bool:zAq K zAd "bool"=some none)
  (z_dict:zAq K zAd "dict"=some none)
  (z_int:zAq K zAd "int"=some none)
  (z_isinstance:zAq K zAd "isinstance"=some none)
  (z_len:zAq K zAd "len"=some none)
  (z_list:zAq K zAd "list"=some none)
  (z_max:zAq K zAd "max"=some none)
  (z_min:zAq K zAd "min"=some none)
  (z_range:zAq K zAd "range"=some none)
  (z_set:zAq K zAd "set"=some none)
  (z_sorted:zAq K zAd "sorted"=some none)
  (z_tuple:zAq K zAd "tuple"=some none):
  ∃t,Txt K mg t:=by
 obtain⟨f0,d0,F0,a0⟩:=dnr X G h0 ["thing"];obtain⟨f1,d1,F1,a1⟩:=dnr X G h1 ["thing"];obtain⟨f2,d2,F2,a2⟩:=dnr X G h2 ["many","thing"];obtain⟨f3,d3,F3,a3⟩:=dnr X G h3 ["many","thing"];obtain⟨f4,d4,F4,a4⟩:=dnr X G h4 ["things"];obtain⟨f5,d5,F5,a5⟩:=dnr X G h5 ["many","thing"];obtain⟨f6,d6,F6,a6⟩:=dnr X G h6 ["many","thing"];obtain⟨f7,d7,F7,a7⟩:=dnr X G h7 ["many","thing"];obtain⟨f8,d8,F8,a8⟩:=dnr X G h8 ["thing"];obtain⟨f9,d9,F9,a9⟩:=dnr X G h9 ["thing"];obtain⟨f10,d10,F10,a10⟩:=dnr X G h10 ["web"];obtain⟨f11,d11,F11,a11⟩:=dnr X G h11 ["web"];obtain⟨f12,d12,F12,a12⟩:=dnr X G h12 ["web"];obtain⟨f13,d13,F13,a13⟩:=dnr X G h13 ["web"];obtain⟨f14,d14,F14,a14⟩:=dnr X G h14 ["web"];obtain⟨f15,d15,F15,a15⟩:=dnr X G h15 ["led","come","begin","tried"];obtain⟨f16,d16,F16,a16⟩:=dnr X G h16 ["web"];obtain⟨f17,d17,F17,a17⟩:=dnr X G h17 ["web"];obtain⟨f18,d18,F18,a18⟩:=dnr X G h18 ["web"];obtain⟨f19,d19,F19,a19⟩:=dnr X G h19 ["steps","start"];obtain⟨f20,d20,F20,a20⟩:=dnr X G h20 ["many","pairs"];obtain⟨f21,d21,F21,a21⟩:=dnr X G h21 ["web"];obtain⟨f22,d22,F22,a22⟩:=dnr X G h22 ["web"];obtain⟨f23,d23,F23,a23⟩:=dnr X G h23 ["web","begins","ends"];obtain⟨f24,d24,F24,a24⟩:=dnr X G h24 ["web","begins","ends"];obtain⟨f25,d25,F25,a25⟩:=dnr X G h25 ["web","begins","ends"];obtain⟨f26,d26,F26,a26⟩:=dnr X G h26 ["web","begins","ends"];obtain⟨f27,d27,F27,a27⟩:=dnr X G h27 ["_law_script","_law_k"];obtain⟨f28,d28,F28,a28⟩:=dnr X G h28 ["_law_cell","_law_k","_law_bound"];obtain⟨f29,d29,F29,a29⟩:=dnr X G h29 ["_law_found"];obtain⟨f30,d30,F30,a30⟩:=dnr X G h30 ["_law_cell","_law_many"];obtain⟨f31,d31,F31,a31⟩:=dnr X G h31 ["_law_cell","_law_most_here"];obtain⟨f32,d32,F32,a32⟩:=dnr X G h32 ["_law_row"];obtain⟨f33,d33,F33,a33⟩:=dnr X G h33 ["_law_cell","_law_spot","_law_many"];obtain⟨f34,d34,F34,a34⟩:=dnr X G h34 ["_law_web","_law_thing"];obtain⟨f35,d35,F35,a35⟩:=dnr X G h35 ["_law_rows","_law_many"];obtain⟨f36,d36,F36,a36⟩:=dnr X G h36 ["_law_web","_law_thing"];obtain⟨f37,d37,F37,a37⟩:=dnr X G h37 ["_law_web"];obtain⟨f38,d38,F38,a38⟩:=dnr X G h38 ["_law_script"]
 exact⟨⟨f0,_,f1,_,f2,_,f3,_,f4,_,f5,_,f6,_,f7,_,f8,_,f9,_,f10,_,f11,_,f12,_,f13,_,f14,_,f15,_,f16,_,f17,_,f18,_,f19,_,f20,_,f21,_,f22,_,f23,_,f24,_,f25,_,f26,_,f27,_,f28,_,f29,_,f30,_,f31,_,f32,_,f33,_,f34,_,f35,_,f36,_,f37,_,f38,_,_,q_FewError,q_NoPlace,q_NoOneWay,q_NoOrder⟩,⟨F0,F1,F2,F3,F4,F5,F6,F7,F8,F9,F10,F11,F12,F13,F14,F15,F16,F17,F18,F19,F20,F21,F22,F23,F24,F25,F26,F27,F28,F29,F30,F31,F32,F33,F34,F35,F36,F37,F38,zBn X G iZ,⟨_,rfl⟩,zBn X G y_FewError,(by unfold bI;rw[zBn X G y_FewError]),mR,zBn X G y_NoPlace,(by unfold bI;rw[zBn X G y_NoPlace]),lO,zBn X G y_NoOneWay,(by unfold bI;rw[zBn X G y_NoOneWay]),jc,zBn X G y_NoOrder,(by unfold bI;rw[zBn X G y_NoOrder]),lQ,zAt X G z_all,zAt X G z_bool,zAt X G z_dict,zAt X G z_int,zAt X G z_isinstance,zAt X G z_len,zAt X G z_list,zAt X G z_max,zAt X G z_min,zAt X G z_range,zAt X G z_set,zAt X G z_sorted,zAt X G z_tuple⟩⟩
def aOA{l:zEt}{w:World}{K:zAA}{h:Heap}{mg:Str->Option Value}{fa:Addr}(X:K.In h)(G:h.Ns zAd mg)(hfa:mg "law"=some (.ref fa))(ht:∃t,Txt K mg t):
  ∃fd:zA8,(∀(s:zAG) (v:Value),zF1 s fd ⟨[v],[]⟩ [("_law_script",v)])/\∀base:Heap,K.In base->base.Ns zAd mg->bU l.prog w K mg base (CX1 l.prog w) 70 fa fd ["_law_script"] (aEB K):=by
 obtain⟨t,T⟩:=ht;have e:=hfa.symm.trans T.aI0.m;cases e;refine⟨t.vQ,λ s v=>?_,λ base _ _=>(aNN T).imp (aK0 aHm)⟩;obtain⟨oc,od,kV,doc,pm,an,cdv,ct,osl,e,lk,hcd⟩:=T.aI0.F.ex;rw[e];exact .of_eq rfl
def walk{l:zEt}{q:zAY}{loose:List Str}{XP:(Str->Option Value)->Heap->Prop}{YP:World->Heap->Prop}{d:DefRec}{K:Params->zAA}(hn:l.most=some 63)(hdf:d.params.defaults=[])
  (hY:∀(w:World) (h:Heap),YP w h->(K w.params).In h)
  (F:∀(w:World) (mg:Str->Option Value) (fa:Addr) (h:Heap),(K w.params).In h->h.Ns zAd mg->mg d.name=some (.ref fa)->
   ∃fd:zA8,(∀(s:zAG) (u:Value),zF1 s fd ⟨[u],[]⟩ [("_law_script",u)])/\∀base:Heap,(K w.params).In base->base.Ns zAd mg->bU l.prog w (K w.params) mg base (CX1 l.prog w) 70 fa fd ["_law_script"] (aEB (K w.params))):
  zHV q loose XP YP l.row.toRowW d [] (λ f vs=>zGt f vs):=
 L2.aJB (n:=63) (k:=70) (x:="_law_script") (CX:=λ w=>CX1 l.prog w) (sp:=λ w=>aEB (K w.params)) hn (by decide) hdf ⟨rfl,by decide,by decide⟩ hY F (λ _ _ a ns hl hO hS=>⟨a,ns,rfl,aMT hO hS,hl,λ _=>rfl⟩) λ _ _ _ _ _ ⟨_,_,_,_,_,_,_,_,_,_,_,_,_,z⟩=>z
end VL.My
open PySem PySem.W PyProof.Rows
set_option maxRecDepth 100000 in
set_option maxHeartbeats 0 in
theorem PySem.Challenge.cw_fewways_k72_fewest_ways_that_keep_holds : PySem.Challenge.rw_fewways_k72_fewest_ways_that_keep.Holds := by
 w_on; o_law; k_head; (case hw=>w_witness2)
 k_fill
 refine VL.My.walk (l:=PySem.Challenge.rw_fewways_k72_fewest_ways_that_keep) rfl rfl (fun w h Y=>PySem.W.kIn_of Y) ?F
 case F =>
  intro w mg fa h KX G hmg
  refine VL.My.aOA KX G hmg ?T
  case T =>
   refine' VL.My.aLz KX G (VL.enr ?a0 ?l0 ?c0 ?k0) (VL.enr ?a1 ?l1 ?c1 ?k1) (VL.enr ?a2 ?l2 ?c2 ?k2) (VL.enr ?a3 ?l3 ?c3 ?k3) (VL.enr ?a4 ?l4 ?c4 ?k4) (VL.enr ?a5 ?l5 ?c5 ?k5) (VL.enr ?a6 ?l6 ?c6 ?k6) (VL.enr ?a7 ?l7 ?c7 ?k7) (VL.enr ?a8 ?l8 ?c8 ?k8) (VL.enr ?a9 ?l9 ?c9 ?k9) (VL.enr ?a10 ?l10 ?c10 ?k10) (VL.enr ?a11 ?l11 ?c11 ?k11) (VL.enr ?a12 ?l12 ?c12 ?k12) (VL.enr ?a13 ?l13 ?c13 ?k13) (VL.enr ?a14 ?l14 ?c14 ?k14) (VL.enr ?a15 ?l15 ?c15 ?k15) (VL.enr ?a16 ?l16 ?c16 ?k16) (VL.enr ?a17 ?l17 ?c17 ?k17) (VL.enr ?a18 ?l18 ?c18 ?k18) (VL.enr ?a19 ?l19 ?c19 ?k19) (VL.enr ?a20 ?l20 ?c20 ?k20) (VL.enr ?a21 ?l21 ?c21 ?k21) (VL.enr ?a22 ?l22 ?c22 ?k22) (VL.enr ?a23 ?l23 ?c23 ?k23) (VL.enr ?a24 ?l24 ?c24 ?k24) (VL.enr ?a25 ?l25 ?c25 ?k25) (VL.enr ?a26 ?l26 ?c26 ?k26) (VL.enr ?a27 ?l27 ?c27 ?k27) (VL.enr ?a28 ?l28 ?c28 ?k28) (VL.enr ?a29 ?l29 ?c29 ?k29) (VL.enr ?a30 ?l30 ?c30 ?k30) (VL.enr ?a31 ?l31 ?c31 ?k31) (VL.enr ?a32 ?l32 ?c32 ?k32) (VL.enr ?a33 ?l33 ?c33 ?k33) (VL.enr ?a34 ?l34 ?c34 ?k34) (VL.enr ?a35 ?l35 ?c35 ?k35) (VL.enr ?a36 ?l36 ?c36 ?k36) (VL.enr ?a37 ?l37 ?c37 ?k37) (VL.enr ?a38 ?l38 ?c38 ?k38) ?iZ ?y_FewError ?mR ?y_NoPlace ?lO ?y_NoOneWay ?jc ?y_NoOrder ?lQ ?z_all ?z_bool ?z_dict ?z_int ?z_isinstance ?z_len ?z_list ?z_max ?z_min ?z_range ?z_set ?z_sorted ?z_tuple
   (case y_FewError=>k_is); (case mR=>unfold L2.oG; k_exc)
   (case y_NoPlace=>k_is); (case lO=>unfold L2.oG; k_exc)
   (case y_NoOneWay=>k_is); (case jc=>unfold L2.oG; k_exc)
   (case y_NoOrder=>k_is); (case lQ=>unfold L2.oG; k_exc)
   any_goals k_is
