import PyProof.Rows.All
import KE.KDictOf
import PyProof.DictWalks
import Wide.All
import OpenK.AllK
import Wide.FinOn
import Lean
import PyProof.EqAt
import PyProof.EqKinds
import PyProof.TupleCall
import KE.LcSums
import PySem.Challenge.RW_fewways_k06_partings_by_ties
open Array renaming length_toList->zAU,getElem?_toList->zAf,getElem?_eq_getElem->zAs,getD_eq_getD_getElem?->zBc,getElem?_eq_some_iff->zBr,getD->zCY,replicate->zDi,toList_setIfInBounds->zDp,toList_push->zEG,toList_filterMap->zE5,getElem_mem_toList->zGa,getElem?_eq_none->zGw,toList_replicate->zGx,toArray_toList->zHO,toList_append->zHY,append_assoc->zHe,foldl_toList->zHf,forIn_toList->zHg,size_map->zIn,toList->zIy
open Array.Perm renaming refl->zHN
open Bool renaming and_eq_true->zAK,false_ne_true->zAO,false_eq_true->zA0,eq_iff_iff->zCE,not_true->zCK,not_eq_true'->zCw,not_false->zDC,true_and->zDP,or_eq_true->zDm,false_and->zED,and_true->zEZ,and_assoc->zEu,and_false->zEv,or_true->zHP,or_eq_false_iff->zHZ,eq_false_iff->zIJ,false_or->zIz,true_or->zJK
open Classical renaming byContradiction->zDk,propDecidable->zFy,not_imp->zHC
open False renaming elim->zAR
open ForInStep renaming yield->zBw
open Function renaming comp->zGK
open Int renaming toNat_natCast->zCP,toNat_of_nonneg->zCV,emod_lt_of_pos->zDS,emod_nonneg->zDs,le_trans->zEo,le_refl->zFI
open LawfulBEq renaming eq_of_beq->zDA
open List renaming length_map->zAD,mem_cons_self->zAE,mem_cons_of_mem->zAH,getElem?_eq_getElem->zAI,mem_cons->zAJ,replicate->zAM,getElem?_eq_some_iff->zAN,size_toArray->zAP,map_cons->zAS,mem_singleton->zAV,getElem?_map->zAY,length_append->zA1,mem_map->zA3,length_cons->zA5,mem_append_left->zA7,all_eq_true->zA8,mem_append_right->zA9,mem_append->zAd,getD_eq_getElem?_getD->zAe,not_mem_nil->zAg,map_append->zAk,range->zAm,mem_filter->zAn,pairwise_cons->zAq,map_map->zAz,append_nil->zBC,lookup_cons->zBG,foldl_cons->zBH,length_set->zBK,zip_cons_cons->zBL,getElem?_append_left->zBM,any_eq_true->zBO,nodup_append->zBS,nodup_cons->zBT,mem_range->zBU,length_singleton->zBY,filterMap_cons->zBZ,getElem?_cons_succ->zB0,append_assoc->zB6,getElem?_set_ne->zB7,flatten_cons->zBd,getElem?_cons_zero->zBe,mem_of_getElem?->zBf,length_replicate->zBk,mem_filterMap->zBp,getElem?_set_self->zBv,replicate_succ->zBy,length_filter_le->zCF,of_mem_zip->zCG,getElem?_replicate->zCL,map_congr_left->zCT,nil_append->zCU,getElem?_zip_eq_some->zC4,length_nil->zC6,cons_append->zCi,getElem_mem->zCj,length_take->zCk,getElem?_append_right->zCy,drop_eq_getElem_cons->zDE,length_pos_iff->zDH,take_of_length_le->zDX,pairwise_map->zDY,reverse_cons->zDZ,nodup_nil->zD2,getLast_mem->zDa,mem_of_mem_take->zDe,length_zip->zDn,getLastD_eq_getLast?->zEE,pairwise_iff_getElem->zEF,foldl_append->zEQ,any_cons->zE0,filter_cons_of_neg->zE1,filter_cons_of_pos->zE2,drop_length->zE7,mem_flatMap->zE8,mem_reverse->zE9,getElem?_eq_none->zEj,mem_iff_getElem?->zEk,take_append_drop->zEl,mem_of_mem_drop->zEs,getElem?_range->zFD,getElem_of_mem->zFE,mem_map_of_mem->zFF,all_cons->zFQ,contains_cons->zFR,lookup_append->zFS,mem_replicate->zFT,any_eq_false->zF5,flatMap_cons->zF6,getElem?_inj->zF7,getElem?_set->zF8,length_range->zF9,take_add_one->zFa,map_nil->zFh,ext_getElem->zFq,filter_cons->zFr,getElem_map->zFs,getLast?_eq_some_getLast->zFt,length_drop->zFu,forIn_cons->zGM,map_id->zGN,range_succ->zGO,nodup_iff_pairwise_ne->zGT,drop_zero->zGd,exists_mem_of_ne_nil->zGe,mem_of_find?_eq_some->zGf,Nodup->zGm,length_eq_zero_iff->zGy,all_map->zHU,any_map->zHV,getElem_toArray->zH2,getLast?_append->zH3,range_eq_range'->zH4,filter_eq_self->zHi,length_reverse->zHj,range'->zHk,filter_append->zHs,find?_eq_none->zHt,zip_nil_right->zHu,foldl->zIM,zip_map_left->zIN,zip_nil_left->zIO,map_snd_zip->zI4,nodup_range->zI5,range'_succ->zI6,zipIdx_cons->zI7,zipIdx_nil->zIo,zip_append->zIp,forIn_nil->zIt,map->zJB,map_drop->zJC,map_set->zJU
open List.Pairwise renaming nil->zGS,imp_of_mem->zJT
open List.Perm renaming refl->zBJ,swap->zDl,cons->zHh
open List.cons renaming injEq->zH1,inj->zHr
open MonadExcept renaming tryCatch->zJI
open Nat renaming le_refl->zAQ,lt_of_lt_of_le->zAW,ne_of_lt->zA4,zero_le->zAj,le_trans->zAl,lt_irrefl->zBh,le_of_lt->zBl,lt_succ_self->zBs,le_of_lt_succ->zCQ,lt_succ_of_lt->zCR,lt_of_le_of_lt->zC2,ne_of_gt->zC3,le_succ->zCs,succ_pos->zDL,mod_lt->zD3,le_of_ble_eq_true->zD9,not_lt->zEV,le_of_not_lt->zEc,zero_add->zEp,lt_trichotomy->zFi,min_self->zFv,sub_self->zFw,le_add_right->zGA,not_lt_zero->zGU,le_of_eq->zH5,lt_trans->zH6,sub_zero->zH7,le_max_right->zIq,le_max_left->zIu
open Nat.succ renaming inj->zGg
open Ne renaming symm->zDU
open Option renaming map_some->zDM,map_eq_some_iff->zDT,bind_some->zHv,getD_none->zHw,getD_some->zHx,map_none->zIP,none->zJD
open Option.some renaming inj->zAa
open Or renaming inr->zCC,inl->zCf
open Prod renaming ext->zHy
open PyProof.Rows renaming slot_tuple_getitem->zBD,step_dedup->zBE,IntsAre->zB8,seqObj->zCS,KeyOrd->zCa,callWith_type1->zCc,envOfC->zDO,SortSt->zDc,kindOf->zDd,SortKind->zDh,get?_update_seq->zEK,AllBare->zFG,slicePart_none->zFf,entry_tuple_getitem->zFm,args_tuple_getitem->zGD,lt_int->zGP,sortedHeap->zG4,failedOf->zHA,pendingOf->zHI,listUpdate_at->zIC,subscriptTail->zIE,tupleItemsOf_->zIH,subscriptTail_builtinR->zIY,seqEpoch_at->zIv,Subscript_->zJZ,boot_range->zJ2
open PyProof.Rows.F renaming plain_set_update_loop->zBN,entry_set_update_loop->zCD
open PyProof.Rows.IntsAre renaming int_at->zHl,length->zIL
open PyProof.Rows.IsTup renaming new->zHD
open PyProof.Rows.KeyOrd renaming kle_refl->zDK,kle_trans->zEU,kle_of_klt->zFP,kle_antisymm->zHT
open PyProof.Rows.LSm renaming kept_iter->zJS
open PySem renaming wpAny_bind->zAB,wpAny_pure->zAF,Shared->zAG,sizeLine->zAX,starEach->zAZ,Program->zA2,mainGlobals->zA6,Around->zAc,FuncData->zAo,mem_of_lookup->zAp,bootBuiltins->zAt,wpAny_newObj_type->zAv,compareOp->zAw,wpAny_holding->zBI,wpAny_mono->zBX,wpAny_callSpecial?_slot->zB5,wpAny_call_entry->zB9,wpAny_setState_of->zBa,wpAny_field->zBg,codeAny_builtin->zBi,wpAny_seqItems->zBj,behindInMarks->zBm,wpAny_truthy_bool->zBo,intKind->zCA,foldedSetIterable->zCH,wpAny_Call_Name_kw->zCM,sizeLine_eq->zCO,codeAny->zCW,SetTable->zC1,binaryOp->zCe,wpAny_loadPart_at->zCg,holding->zCn,backTo->zCo,swapsWith->zCp,assignEach->zCq,callerA->zCv,wpAny_passesOwn->zDB,plainId_quiet->zDG,Keyword->zDJ,cellsFrom->zDN,codeAny_mono->zDW,Arguments->zD0,letOwnedTupleGo->zD4,wpAny_pyIter_tuple->zD5,wpAny_setField_rec->zD6,sysModules->zDf,wpAny_pyIter_list->zDg,Builtin->zDq,wpAny_askSetting->zDt,wpAny_forIn_list->zDu,assign->zDx,pyNext->zDy,NameKind->zDz,wpAny_standAt->zEC,IsPair->zEH,keywordEach->zEL,sliceBounds->zEM,wpAny_execs_nil->zEN,wpAny_isSubtype_exc->zEO,wpAny_letGo->zEP,wpAny_newFunctionEnv_cells->zEY,wpAny_typeOf->zE4,wpAny_setField->zEb,ofAClassStatement->zEg,wpAny_comprehension_free->zEh,attributeBase->zEq,excClassObj->zEr,Result->zFL,codeAny_call_function->zFM,wpAny_loadPart'->zFN,GenState->zFO,call_meets->zFV,closureFor->zFW,intKind_is->zFX,wpAny_Name->zFY,codeAny_call_builtin->zF2,wpAny_loadName_local->zF3,wpAny_updateSeq_pair->zF4,Paired->zFb,firstArgMember->zFc,newFunctionEnv->zFd,recursionLimit->zFe,wpAny_tryCatch->zFg,argBest->zFl,getItem->zFn,wpAny_loadName_cell->zFo,wpAny_of_eq->zFp,backToKw->zGE,codeAmong->zGF,tupleKind->zGG,wpAny_attempt->zGH,wpAny_onRaise->zGI,newList->zG2,relabel->zG3,standAt->zG5,typeLookup->zG6,wpAny_assign_Name->zG7,wpAny_rule->zG8,wpAny_sequenceKey->zG9,IsPart->zGc,rawInt->zGk,checkBuiltinCall->zGt,noFill_tuple_add->zGu,wpAny_isInstance->zGv,hashByValue->zHH,pyIter->zHJ,richCompare->zHK,seqItems?->zHL,wpAny_updateSeq->zHM,isSubtype_type->zHd,filterMap_getElem?_range->zHn,wpAny_call->zHo,BindsTo->zHp,call->zHz,evalPart_none->zIB,seq_tuple_add->zID,swappedStores->zIF,swapsWithSole->zIG,wpAny_newList->zII,richCompare_meets_room->zIX,PassesOwn->zI9,builtinLookup_eq_fast->zIc,codeAny_func->zId,concat_meets->zIe,exec_Assign_Name_used->zIf,isSubtype->zIg,lastMarks->zIh,scanBound->zIi,seqIndex_neg->zIj,setSearch->zIk,wpAny_eqIsQuiet_tuple->zIl,wpAny_isTrue_Compare1->zIm,seqIndex_of->zIw,wpAny_loadName_free->zIx,Within->zJE,bindArgs->zJG,setAdd->zJH,tupleKind_room_in1->zJJ,builtinsNs->zJ3,defaultsOf->zJ4,searchCouldBeSeen->zJ5,setsByText->zJ6,slot_list_getitem->zJ7,typeIs_int->zJ8,wpAny_pyIter_slot->zJ9
open PySem.Around renaming under_plainId->zB4,frames_deeper->zHB
open PySem.AutoSeq1 renaming sub_tuple_tuple->zFx
open PySem.Builtin.Builtins renaming bindParams->zEi
open PySem.Builtin.Frozenset renaming addrOf->zIZ,newClass->zI0,sizeOf->zI1,slot0->zI2,updateFrom->zI3
open PySem.Builtin.List renaming listTooLong->zCr,listLengthHint->zFC
open PySem.Builtin.Range renaming rangeSize->zDj,rangeFitsLong->zEw,small->zJL
open PySem.Builtin.Slice renaming slicePlaces->zBW,sliceAdjust->zBq,sliceApplied->zCh,sliceFields->zFH,slicePartIndex->zJM
open PySem.Builtin.SmallTypes renaming nextOf->zBQ,ownedTupleIsFree->zCB,ownedTupleHandOut->zDr
open PySem.Builtin.Tuple renaming tupleExact->zB3,tupleItemsOf->zD1,tupleCompareSizes->zEd,tupleHashOf->zJN,tupleIsExact->zJO
open PySem.Calls renaming Name_function_global->zGJ,evalArgs_plain->zHQ
open PySem.CmpOp renaming NotIn->zJP
open PySem.Code renaming quiet_builtin->zHq
open PySem.F renaming plainAttrs_list->zC8,plain_min_loop->zCl,slot_tuple_iterator_next->zDD,called_set->zDQ,args_tuple_add_2->zEA,entry_tuple_add->zEI,slot_tuple_add->zEW,slot_list_append->zE6,slot_zip_next->zEx,typeOf_object_class->zEy,type_list_append->zGQ,entry_min_loop->zGR,plain_list_iadd->zGV,slot_list_count->zGW,slot_list_index->zGX,args_tuple_iterator_next_1->zGb,entry_tuple_iterator_next->zGl,plain_set_new->zGn,slot_set_iter->zGo,slot_list_extend->zHR,slot_gs_get->zH0,sub_list_frozenset->zIK,args_zip_next_1->zIs,entry_zip_next->zJA,slot_int_rmul->zJQ
open PySem.Heap renaming get?_push_of_some->zAC,get?_push_size->zAL,lt_size->zAT,size_push->zBB,get?_update_other->zBu,get?_update_self->zC0,get?_update_ne->zCb,SameBut->zDI,ExtBut->zGL,IsTuple->zHS,FlyingW->zJR
open PySem.Heap.IsSliceOf renaming new->zFz
open PySem.Heap.SameBut renaming update->zBR
open PySem.Moved renaming trans->zJV
open PySem.NameKind renaming free->zCX,cell->zD7
open PySem.Obj renaming mapSeq->zC7,data_mapFields->zFZ,isFreed_of_fields->zH8,putSet->zI8,mapFields->zJW
open PySem.Paired renaming length->zGh
open PySem.SeqAt renaming EqAt->zEJ
open PySem.SeqAt.EqAt renaming of_refs->zEn,same->zFU,bool_bool->zGZ,int_int->zGq,int_str->zGr,str_int->zGs
open PySem.SeqAt.RcAt renaming lists_lengths->zFk,tuples->zGz,lists->zHG
open PySem.SetTable renaming runEnd->zAi,below->zAr,leap->zAu,insertAt->zAy,bits->zBA,turns->zBP,Probe->zCI,grown->zCx,layClean->zDv,toList_insertAt->zDw,insertAt_perm->zES,has->zE3,sizeAbove->zEt,advance->zHb,gaveWay->zHc,relaid->zHm,fresh->zIA,fill->zIT,fits->zIU,laid->zIV,slot->zIW
open PySem.SetTable.below renaming go->zDb
open PySem.SetTable.layClean renaming free->zBV
open PySem.SetTable.probe renaming go->zBn
open PySem.Shared renaming heap->zJF
open PySem.Str renaming ofString->zCt
open PySem.Value renaming ref->zBF,none->zBb,type->zCZ,bool->zCu,int->zCz,builtin->zEX,isInt->zGC,notImplemented->zHX,str->zIb,float->zJ0
open PySem.W renaming Frag->zAA,nsIn->zAb,mg_of->zAh,mg_none_of->zAx,kia_one->zB1,findIn->zB2,emptyDict->zBt,keepIn->zBx,fnOf->zBz,kitOne->zCJ,hideAll->zCN,instObj->zC5,hideAll_get->zC9,tabObj->zCd,kla_obj->zCm,envX->zDF,cellsFrom_some->zDR,codeIn->zDV,looks_findIn->zD8,of_hideAll->zDo,codeHdIn->zER,kas_rev->zEa,hideAll_none->zEe,hideAll_size->zEf,lookIn->zEm,Looks->zEz,callWith_K->zFA,codeRec_of->zFB,kitx_dict->zFJ,methodObj->zFK,ksm_same->zF0,plainGet->zF1,OpenLaw->zFj,kla_fn->zGB,excIn->zGY,funFrames_hide->zGi,KasT->zGp,codeHd_of_K->zHE,plainGet_of->zHF,kitx_tuple->zHW,kas_place->zH9,kitx_list->zHa,CodeHd->zIQ,InstAt->zIR,KdlSrc->zIS,WalkO->zIa,isFn->zIr
open PySem.W.Looks renaming ld->zJX,now->zJY
open PySem.Walks renaming list->zGj,tuple->zJ1
open Sum renaming inl->zG0,inr->zG1
open ToString renaming toString->zEB
open True renaming intro->zET
noncomputable section
namespace PySem.W.Fast
def tw3455273810276937815:=0
def tw3663689155173478071:=0
def tw12805713189706888887:=0
def tw2028305481790650615:=0
def tw18420373673822827351:=0
def tw10713145171294277015:=0
def tw3118289168195774455:=0
def tw11726094797933768215:=0
def tw5605022164616531063:=0
def tw9241834758761440407:=0
def tw17426250472583456919:=0
def tw8860622486796236983:=0
def tw545695593246042999:=0
def tw9710559728130631518:=0
def tw11749770891690509726:=0
def tw6315878900950542750:=0
def tw18399723891837673438:=0
def tw5368895600087350270:=0
def tw13693580926952370526:=0
def tw14280690745069693854:=0
def tw6328042952120354270:=0
def tw759932385579508862:=0
def tw9464257302691556245:=0
def tw10616551316049060853:=0
def tw1956691102306873941:=0
def tw10870230040147003765:=0
def tw7742464639798163413:=0
def tw16208864666067109845:=0
def tw1757103809423084053:=0
def tw12059810847489434901:=0
def tw4695835712056292764:=0
def tw14027629867969823676:=0
def tw687578924780544572:=0
def tw4013816162905310300:=0
def tw13944695497723653820:=0
def tw7516683517599937244:=0
def tw2635097831132228348:=0
def tw3902329704924163964:=0
def tw6841921855745316348:=0
def tw15374388110542984220:=0
def tw14024683354622856220:=0
def tw14713136979186804316:=0
def tw7570851017500014172:=0
def tw3028853254174921179:=0
def tw13616525814711624763:=0
def tw7540226533359404699:=0
def tw709863476921321723:=0
def tw17312579630909749019:=0
def tw6611918307221409211:=0
def tw4037183265187482139:=0
def tw6384280019411271227:=0
def tw15306949620881321531:=0
def tw15680698468790718171:=0
def tw6632676032048192251:=0
def tw2947911055333642290:=0
def tw18411131185389978706:=0
def tw15370368521198479474:=0
def tw14140773528565748114:=0
def tw9081817615376808402:=0
def tw914321675645740018:=0
def tw11937186367553133138:=0
def tw15767612671812669170:=0
def tw11743985485950705273:=0
def tw8970606485944800473:=0
def tw15699130473760645081:=0
def tw16187549087567915097:=0
def tw12306953469486521593:=0
def tw8982696514440569081:=0
def tw14245295249499104537:=0
def tw8450650218633739577:=0
def tw9253346608194814393:=0
def tw6198788563289280953:=0
def tw5018292554653344144:=0
def tw13244726348595742640:=0
def tw11928988794951508112:=0
def tw18188866304951341776:=0
def tw13475667329824402768:=0
def tw10943457939168232880:=0
def tw763312795855983632:=0
def tw16351027976124798000:=0
def tw15492385224388692592:=0
def tw12760445197431777456:=0
def tw17311115727915418832:=0
def tw2849730668963373167:=0
def tw3425052553761516719:=0
def tw7467213296686241071:=0
def tw8393665644571839087:=0
def tw1335105525218007695:=0
def tw7312016140603990287:=0
def tw9956849924793548175:=0
def tw3645627290990090255:=0
def tw6600606289123457615:=0
def tw11633705221787069686:=0
def tw4452726353282539382:=0
def tw5143164848730303894:=0
def tw17650961556729393782:=0
def tw12349437477905266870:=0
def tw9135389671136647894:=0
def tw2396599748716878134:=0
def tw8520186950369309142:=0
def tw9081492163186254326:=0
def tw6704397589368355693:=0
def tw5208074754568648589:=0
def tw10065490839861259277:=0
def tw4650177390388501517:=0
def tw9122498249925353037:=0
def tw9716592961437106829:=0
def tw17267113817939441869:=0
def tw6151200393908453581:=0
def tw7908537426221257517:=0
def tw7233014622031280493:=0
def tw67326122640885101:=0
def tw18084790657205922189:=0
def tw14869137944324693389:=0
def tw11281188038317430157:=0
def tw11955220761395808173:=0
def tw14345265151841868941:=0
def tw6384765127715918509:=0
def tw17887081715781114036:=0
def tw17619752216787269844:=0
def tw7178465184729469716:=0
def tw10107454929871237044:=0
def tw14160741491805077012:=0
def tw13218775128674862804:=0
def tw15635206268131368212:=0
def tw16253188090566551892:=0
def tw4207205571904041428:=0
def tw2120280982878683636:=0
def tw7482002951847420915:=0
def tw7063750664827125331:=0
def tw17769582538050417843:=0
def tw10387644017699141811:=0
def tw6267269482249031443:=0
def tw12303700614791241491:=0
def tw5047085153131113363:=0
def tw1146117065853935059:=0
def tw16800606428828201491:=0
def tw9778458622253157427:=0
def tw5380736989954874995:=0
def tw9792553156572312179:=0
def tw31782688206069395:=0
def tw15041269084150211251:=0
def tw18183777213924840170:=0
def tw3965257603337648906:=0
def tw11890213203029298986:=0
def tw9743090182809756618:=0
def tw18098633911787472170:=0
def tw17353106828593921866:=0
def tw12274213787643829969:=0
def tw14635930932733265777:=0
def tw7539744312956874161:=0
def tw2979692915215693841:=0
def tw2773467373368715889:=0
def tw3829078755373975153:=0
def tw10619092448242899281:=0
def tw14291011215553923025:=0
def tw12581229046791040529:=0
def tw8210876703098023601:=0
def tw5540168936977034248:=0
def tw1078400191751486536:=0
def tw8826549430657889896:=0
def tw15611195948043745480:=0
def tw9513089765780620712:=0
def tw8701548112559273960:=0
def tw8443137973454595592:=0
def tw9860989995730212968:=0
def tw17253859883715707048:=0
def tw2809849063444225352:=0
def tw3685880081649976168:=0
def tw14108371278944401256:=0
def tw14118189993122600840:=0
def tw1890984033386780455:=0
def tw12879581305999968647:=0
def tw6653371064975946727:=0
def tw10275259650304485927:=0
def tw5507604185710301799:=0
def tw4650720056140103815:=0
def tw15827805641747939495:=0
def tw14816285260099739367:=0
def tw17648327152633938695:=0
def tw570467206911540519:=0
def tw14831031087259608423:=0
def tw4765481193527716327:=0
def tw18069922727287767559:=0
def tw17270641868685928967:=0
def tw11679431076278136871:=0
def tw14046111527856420967:=0
def tw8236832201321613415:=0
def tw16682160717432071847:=0
def tw6982126334819558599:=0
def tw13377666441551131879:=0
def tw7897375744905310542:=0
def tw2934952186151342446:=0
def tw9475726595683446830:=0
def tw1368193420362940526:=0
def tw11828783197991264974:=0
def tw4435982836032959086:=0
def tw8410591956247196270:=0
def tw1962623937311946958:=0
def tw1047639795741577765:=0
def tw934762794806308965:=0
def tw1853904491177347109:=0
def tw10266036709467843493:=0
def tw13090489987851738764:=0
def tw12756689616532439820:=0
def tw1771234139160171340:=0
def tw10102701091483718572:=0
def tw1750182926193116108:=0
def tw1714106188991786988:=0
def tw18011661417002468332:=0
def tw13573447895264644620:=0
def tw14537168514531229228:=0
def tw16202517825145873996:=0
def tw14651537738578171020:=0
def tw7871251621840679628:=0
def tw15269382118456284460:=0
def tw10887488277335554060:=0
def tw16190893772669304971:=0
def tw13308382874114748331:=0
def tw3471218974706381739:=0
def tw17260009198534107659:=0
def tw4088241640900360395:=0
def tw4081072780246051083:=0
def tw1356961423535997771:=0
def tw10952797097849370987:=0
def tw14564000913275828386:=0
def tw17417622556867126018:=0
def tw3018196862714622850:=0
def tw3515645900255437762:=0
def tw7982794922506353602:=0
def tw12046348304011272738:=0
def tw16453520975351601218:=0
def tw5051034252859316866:=0
def tw17881568496989124258:=0
def tw476685109033811618:=0
def tw1075254060773871298:=0
def tw6991680202971811042:=0
def tw18227514993803874754:=0
def tw14170338979632529858:=0
def tw6082457830954524706:=0
def tw4111683320177411650:=0
def tw6176068490590273065:=0
def tw1806027527008382025:=0
def tw16549004802067628745:=0
def tw8633901369376405225:=0
def tw17302817598363750121:=0
def tw17090736639330083081:=0
def tw2676636134921150729:=0
def tw735287019588052265:=0
def tw372809872850980713:=0
def tw14973226351834253737:=0
def tw12100481409396966441:=0
def tw10144892527067746953:=0
def tw2977036458146106569:=0
def tw3453309400013919465:=0
def tw9674364417439722249:=0
def tw10091654285519344425:=0
def tw13857080027490310953:=0
def tw5586148695262497888:=0
def tw8582882764501244608:=0
def tw6750833216780601184:=0
def tw10447258396290526048:=0
def tw11082352087656771040:=0
def tw1539163350876429376:=0
def tw5098294705936507520:=0
def tw736348558294361888:=0
def tw3785286561068968288:=0
def tw6653934985235456352:=0
def tw3823327704383924160:=0
def tw11205678537887878112:=0
def tw4365946247522476063:=0
def tw2578358947172296959:=0
def tw1033428220402980639:=0
def tw13419620617551276415:=0
def tw8847360109368037823:=0
def tw6405989189291835935:=0
def tw8937190458775495263:=0
def tw10410878404668533919:=0
def tw13190706257891998463:=0
def tw7616104941014567679:=0
def tw3976105498559972287:=0
def tw2422812920175715942:=0
def tw16267689705969172838:=0
def tw1743697103818779558:=0
def tw13339006704940992998:=0
def tw8600076023500906566:=0
def tw9233652540716185670:=0
def tw8784373583507223654:=0
def tw14249314613029392006:=0
def tw5375114989061213414:=0
def tw8916085026154451206:=0
def tw3577683942428971302:=0
def tw14314836439787138886:=0
def tw9944933391795670781:=0
def tw9451741206034776445:=0
def tw9992827161345811549:=0
def tw2486438766599057693:=0
def tw1122012120601681533:=0
def tw316144538794235517:=0
def tw7551920903623015684:=0
def tw534318394372276516:=0
def tw4721259959761387588:=0
def tw15913071931485298308:=0
def tw3303576751016230532:=0
def tw9763932417050815684:=0
def tw13889228224269242788:=0
def tw8258873529133980196:=0
def tw3538008301136369188:=0
def tw11111070823207675620:=0
def tw2116659178420336291:=0
def tw3569478629044472675:=0
def tw2168636208043610531:=0
def tw5175671719455126947:=0
def tw14309786645351368099:=0
def tw3035811615013499459:=0
def tw5722113244337337475:=0
def tw1282943024550508675:=0
def tw17283147099995937539:=0
def tw837129111064405027:=0
def tw17570065571197692995:=0
def tw12979375527130618266:=0
def tw4489062379360515514:=0
def tw6951481429508786138:=0
def tw10995848094734904282:=0
def tw1931642172971001434:=0
def tw8719772552721196346:=0
def tw1250344437321592762:=0
def tw12971843831696804986:=0
def tw3478813078184449306:=0
def tw4476213531672690049:=0
def tw12370058226470184897:=0
def tw13542770750498498529:=0
def tw13740146636571249185:=0
def tw5550139455648890401:=0
def tw15623901800819042401:=0
def tw11481654567833418849:=0
def tw1534239686291471009:=0
def tw3169172168338460321:=0
def tw11914721545876533537:=0
def tw1562111588815245121:=0
def tw18349808101339712321:=0
def tw92166607936427905:=0
def tw6270563874124866433:=0
def tw617338593152576513:=0
def tw16219707105206678145:=0
def tw6015077704790779521:=0
def tw11831017415062897825:=0
def tw16397631458551686337:=0
def tw14853848822986212545:=0
def tw5270181098725830433:=0
def tw15777256259166846273:=0
def tw9736704407750265528:=0
def tw7024131674868426424:=0
def tw13501076601234307352:=0
def tw3990691192835413848:=0
def tw17336486307108669336:=0
def tw12714608881541222424:=0
def tw2242679288928599096:=0
def tw9734295715784613528:=0
def tw8253345412947184408:=0
def tw1575134473497406808:=0
def tw17868581712254571448:=0
def tw11296059488010289688:=0
def tw2131319043736866360:=0
def tw9077332546964552173:=0
def tw7836991010433260062:=0
end PySem.W.Fast
abbrev gX:=List (Int×Int)
abbrev gV:=List (List Int)
abbrev hZ:=List (PySem.Addr×PySem.Obj)
abbrev hV:=Array (Int×PySem.Value)
abbrev iX:=List (PySem.Value×List Int)
abbrev kQ:=List (Option Nat)
set_option bootstrap.genMatcherCode false
set_option compiler.extract_closed false
set_option Elab.async false
set_option linter.all false
set_option maxRecDepth 100000
namespace L2
open PySem PySem.Spec PyProof.Rows
abbrev Key:=Sum Int Str
def aM2:Key->Value->Bool
 | .inl k,v=>zGC k v
 | .inr x,v=>Value.isStrOf x v
def aQH(w:World):Key->Int
 | .inl k=>hashInt k
 | .inr x=>hashStr w x
def cz:∀{k:Key} {v:Value},aM2 k v=true->(∃i t,k=zG0 i/\v=zCz i t)\/(∃x t,k=zG1 x/\v=zIb x t)
 | .inl i,v,h=>by
  obtain⟨t,e⟩:=Value.isInt_shape (k:=i) (v:=v) h;exact .inl ⟨i,t,rfl,e⟩
 | .inr x,v,h=>by
  obtain⟨t,e⟩:=Value.isStrOf_shape (x:=x) (v:=v) h;exact .inr ⟨x,t,rfl,e⟩
def aOF(a b:Int):decide ((zG0 a:Key)=zG0 b)=(a==b):=by
 by_cases e:a=b
 .subst e;simp
 .have h:¬(zG0 a:Key)=zG0 b:=λ q=>e (Sum.inl.inj q)
  rw[decide_eq_false h];exact(beq_eq_false_iff_ne.mpr e).symm
def aOC(a b:Str):decide ((zG1 a:Key)=zG1 b)=decide (a=b):=by
 by_cases e:a=b
 .subst e;simp
 .have h:¬(zG1 a:Key)=zG1 b:=λ q=>e (Sum.inr.inj q)
  rw[decide_eq_false h,decide_eq_false e]
def aOE(a:Int)(b:Str):decide ((zG0 a:Key)=zG1 b)=false:=decide_eq_false (λ q=>nomatch q)
def aOD(a:Str)(b:Int):decide ((zG1 a:Key)=zG0 b)=false:=decide_eq_false (λ q=>nomatch q)
def aBd(prog:zA2)(w:World):PySem.KeyKind prog w Key where
 is:=aM2
 hash:=aQH w
 inj:=λ v a b ha hb=>by
  rcases cz ha with ⟨i,t,rfl,rfl⟩|⟨x,t,rfl,rfl⟩
  .rcases cz hb with ⟨j,u,rfl,e⟩|⟨y,u,rfl,e⟩
   .injection e with e1 _;rw[e1]
   .exact nomatch e
  .rcases cz hb with ⟨j,u,rfl,e⟩|⟨y,u,rfl,e⟩
   .exact nomatch e
   .injection e with e1 _;rw[e1]
 byValue:=λ k v h=>by
  rcases cz h with ⟨i,t,rfl,rfl⟩|⟨x,t,rfl,rfl⟩<;>rfl
 pyHash:=λ hv h=>by
  rcases cz hv with ⟨i,t,rfl,rfl⟩|⟨x,t,rfl,rfl⟩
  .exact wpAny_pyHash_int h
  .exact wpAny_pyHash_str h
 eqBool:=λ hu hv h=>by
  rcases cz hu with ⟨i,t,rfl,rfl⟩|⟨x,t,rfl,rfl⟩
  .rcases cz hv with ⟨j,u,rfl,rfl⟩|⟨y,u,rfl,rfl⟩
   .rw[aOF]at h;exact wpAny_eqBool_int h
   .rw[aOE]at h;exact zGr i t y u _ _ _ _ h
  .rcases cz hv with ⟨j,u,rfl,rfl⟩|⟨y,u,rfl,rfl⟩
   .rw[aOD]at h;exact zGs x t j u _ _ _ _ h
   .rw[aOC]at h;exact wpAny_eqBool_str h
 «strs»:=λ k x t v h=>by
  rcases cz h with ⟨i,u,rfl,e⟩|⟨y,u,rfl,e⟩
  .exact nomatch e
  .injection e with e1 _
   subst e1;cases v<;>rfl
inductive V where
 |non|bl (b:Bool)|int (i:Int)|str (x:Str)|byt (b:Array UInt8)|flt (b:UInt64)|ref (a:Addr)|ty (n:String)
 deriving DecidableEq
def RelV:V->Value->Prop
 | .non,u=>u=zBb
 | .bl b,u=>u=zCu b
 | .int i,u=>∃t,u=zCz i t
 | .str x,u=>∃t,u=zIb x t
 | .byt b,u=>∃t,u=Value.bytes b t
 | .flt b,u=>∃t,u=zJ0 b t
 | .ref a,u=>u=zBF a
 | .ty n,u=>u=zCZ n
abbrev Vals:List V->List Value->Prop:=zFb RelV
theorem Vals.length(r:Vals xs us):xs.length=us.length:=zGh r
theorem Vals.get:∀{xs:List V} {us:List Value} {i:Nat} {x:V},Vals xs us->xs[i]? =some x->∃u,us[i]? =some u/\RelV x u
 |_,_,_,_,.nil,e=>by simp at e
 |_,_,0,_,.cons r _,e=>by simp at e;subst e;exact⟨_,rfl,r⟩
 |_,_,i+1,x,.cons _ t,e=>by
  obtain⟨u,h1,h2⟩:=Vals.get (i:=i) (x:=x) t (by simpa using e);exact⟨u,by simpa using h1,h2⟩
theorem Vals.set(r:RelV x u):∀{xs:List V} {us:List Value} (i:Nat),Vals xs us->Vals (xs.set i x) (us.set i u)
 |_,_,_,.nil=>.nil
 |_,_,0,.cons _ t=>.cons r t
 |_,_,i+1,.cons q t=>.cons q (Vals.set r i t)
theorem Vals.append:∀{xs ys:List V} {us ws:List Value},Vals xs us->Vals ys ws->Vals (xs++ys) (us++ws)
 |_,_,_,_,.nil,s=>s
 |_,_,_,_,.cons r t,s=>.cons r (Vals.append t s)
theorem Vals.take:∀{xs:List V} {us:List Value} (n:Nat),Vals xs us->Vals (xs.take n) (us.take n)
 |_,_,0,_=>.nil
 |_,_,_+1,.nil=>.nil
 |_,_,n+1,.cons r t=>.cons r (Vals.take n t)
theorem Vals.drop:∀{xs:List V} {us:List Value} (n:Nat),Vals xs us->Vals (xs.drop n) (us.drop n)
 |_,_,0,r=>r
 |_,_,_+1,.nil=>.nil
 |_,_,n+1,.cons _ t=>Vals.drop n t
def aH0:Option V->Option Value->Prop
 |some v,some u=>RelV v u
 |none,none=>True
 |_,_=>False
def KV{κ:Type}:List (κ×V)->List (κ×Value)->Prop:=zFb λ(p:κ×V) (q:κ×Value)=>p.1=q.1/\RelV p.2 q.2
def kV:Key->V
 | .inl i=>.int i
 | .inr x=>.str x
inductive HO where
 |lst (xs:List V)
 |tup (xs:List V)
 |dK (kvs:List (Key×V))|dT (kvs:List (List Key×V))
 |set (S:Int->Bool) (n:Nat)
 |ins (C dx:Addr) (fs:List (Str×V))
 |own (x:Addr)
 |xd (fs:List (Str×V))
 |met (f x:Addr)
 |rng (lo hi:Int)
 |frz (o:Obj) (u:HO)
 |tbl (ps:Array Value)
 |ext (φ:Heap->Prop)
abbrev Hp:=Addr->Option HO
def upd(H:Hp)(a:Addr)(o:HO):Hp:=λ b=>if b=a then some o else H b
def aZ:upd H a o a=some o:=by unfold upd;rw[if_pos rfl]
def aX(h:b≠a):upd H a o b=H b:=by unfold upd;rw[if_neg h]
def bM{H:Hp}{a b:Addr}{o:HO}(h:H a=some o)(h':H b=none):a≠b:=by
 intro e;subst e;rw[h]at h';cases h'
def NoD(h:Heap)(a:Addr):Prop:=∀o,h.get? a=some o->o.dict=none
theorem NoD.push(h:Heap){o:Obj}(hl:o.isFreed=false:=by rfl)(hd:o.dict=none:=by rfl):NoD (h.push o) h.objs.size:=λ u e=>by rw[zAL _ hl]at e;cases e;exact hd
def NoD.keep{h h':Heap}{a:Addr}{o:Obj}(n:NoD h a)(e:h.get? a=some o)(e':h'.get? a=some o):NoD h' a:=λ u q=>by rw[e']at q;cases q;exact n o e
section
variable(P:zA2)(w:World)
def cZ(H:Hp)(h:Heap)(a:Addr):HO->Prop
 | .lst xs=>xs.length<=zAX/\∃(its:List Value) (n:Nat),Vals xs its/\h.get? a=some {cls:=.type "list",data:=.seq its.toArray n}
 | .tup xs=>(xs.length<=zAX/\NoD h a)/\∃its:List Value,Vals xs its/\IsTup h a its.toArray
 | .dK kvs=>kvs.length<=zAX/\(a==zDf)=false/\∃vs,KV kvs vs/\h.DictOf (aBd P w) a vs
 | .dT kvs=>kvs.length<=zAX/\(a==zDf)=false/\∃xs:List (List Key×Addr×Value),
   zFb (λ(p:List Key×V) (q:List Key×Addr×Value)=>p.1=q.1/\H q.2.1=some (.tup (p.1.map kV))/\RelV p.2 q.2.2) kvs xs/\
   ∃o es ep,h.get? a=some o/\o.ExactDict/\o.data= .dict es ep/\es.toList=xs.map (entryOfKey (zGG (aBd P w)))/\(xs.map (·.1)).Nodup
 | .set S n=>h.SetOf (zCA P w) a S n
 | .ins C dx fs=>H dx=some (.own a)/\fs.length<=1000/\dx≠a/\h.get? a=some (zC5 C dx)/\
   ∃mA,h.Ns1 dx mA/\(∀f,aH0 (fs.lookup f) (mA f))/\zJE mA (fs.map (·.1))
 | .own _=>∃o,h.get? a=some o
 | .xd fs=>∃mA,h.Ns1 a mA/\∀f,aH0 (fs.lookup f) (mA f)
 | .rng lo hi=>∃t u v,h.get? a=some {cls:=.type "range",data:=.fields #[.int lo t,.int hi u,.int 1 v]}
 | .frz o u=>h.get? a=some o/\cZ H h a u
 | .tbl ps=>h.get? a=some {cls:=.none,data:=.fields ps}
 | .met f x=>h.get? a=some (zFK (.ref f) (.ref x))
 | .ext φ=>φ h/\(∃o,h.get? a=some o)/\∀h1 h2:Heap,φ h1->(∀o,h1.get? a=some o->h2.get? a=some o)->φ h2
def HOk(H:Hp)(h:Heap):Prop:=∀a o,H a=some o->cZ P w H h a o
end
section
variable{P:zA2}{w:World}{H H':Hp}{h h':Heap}{a:Addr}{o:HO}
theorem cZ.lt(x:cZ P w H h a o):a<h.objs.size:=by
 cases o with
 |lst xs=>obtain⟨_,_,_,_,e⟩:=x;exact zAT e
 |tup xs=>obtain⟨_,_,_,p⟩:=x;exact p.lt
 |dK kvs=>obtain⟨_,_,_,_,o,_,_,e,_⟩:=x;exact zAT e
 |dT kvs=>obtain⟨_,_,_,_,o,_,_,e,_⟩:=x;exact zAT e
 |set S n=>obtain⟨o,_,_,_,e,_⟩:=x;exact zAT e
 |ins C dx fs=>obtain⟨_,_,_,e,_⟩:=x;exact zAT e
 |own y=>obtain⟨_,e⟩:=x;exact zAT e
 |xd fs=>obtain⟨_,⟨_,_,_,e,_⟩,_⟩:=x;exact zAT e
 |rng lo hi=>obtain⟨_,_,_,e⟩:=x;exact zAT e
 |frz ob u=>obtain⟨e,_⟩:=x;exact zAT e
 |tbl ps=>exact zAT (show h.get? a=some _ from x)
 |met f y=>exact zAT (show h.get? a=some _ from x)
 |ext φ=>obtain⟨_,⟨_,e⟩,_⟩:=x;exact zAT e
theorem Paired.mapP:∀{l₁:List α} {l₂:List β},zFb F l₁ l₂->(∀a b,F a b->G a b)->zFb G l₁ l₂
 |_,_,.nil,_=>.nil
 |_,_,.cons r t,f=>.cons (f _ _ r) (Paired.mapP t f)
def cZ.stay(x:cZ P w H h a o)(k:∀b u,(b=a\/H b=some (.own a))->h.get? b=some u->h'.get? b=some u)
  (ho:∀b,H b=some (.own a)->H' b=some (.own a))(ht:∀b xs,H b=some (.tup xs)->H' b=some (.tup xs)):cZ P w H' h' a o:=by
 induction o with
 |lst xs=>obtain⟨z,its,n,r,e⟩:=x;exact⟨z,its,n,r,k _ _ (.inl rfl) e⟩
 |tup xs=>obtain⟨z,its,r,ob,e,c⟩:=x;exact⟨⟨z.1,z.2.keep e (k _ _ (.inl rfl) e)⟩,its,r,ob,k _ _ (.inl rfl) e,c⟩
 |dK kvs=>obtain⟨z,y,vs,r,ob,es,ep,e,c⟩:=x;exact⟨z,y,vs,r,ob,es,ep,k _ _ (.inl rfl) e,c⟩
 |dT kvs=>
  obtain⟨z,y,xs,r,ob,es,ep,e,c⟩:=x;exact⟨z,y,xs,Paired.mapP r λ p q z=>⟨z.1,ht _ _ z.2.1,z.2.2⟩,ob,es,ep,k _ _ (.inl rfl) e,c⟩
 |set S n=>obtain⟨ob,es,ep,t,e,c⟩:=x;exact⟨ob,es,ep,t,k _ _ (.inl rfl) e,c⟩
 |ins C dx fs=>
  obtain⟨d,z,ne,e,mA,⟨od,es,ep,e2,c⟩,r⟩:=x;exact⟨ho _ d,z,ne,k _ _ (.inl rfl) e,mA,⟨od,es,ep,k _ _ (.inr d) e2,c⟩,r⟩
 |own y=>obtain⟨ob,e⟩:=x;exact⟨ob,k _ _ (.inl rfl) e⟩
 |xd fs=>obtain⟨mA,⟨od,es,ep,e,c⟩,r⟩:=x;exact⟨mA,⟨od,es,ep,k _ _ (.inl rfl) e,c⟩,r⟩
 |rng lo hi=>obtain⟨t,u,v,e⟩:=x;exact⟨t,u,v,k _ _ (.inl rfl) e⟩
 |frz ob u ih=>obtain⟨e,q⟩:=x;exact⟨k _ _ (.inl rfl) e,ih q⟩
 |tbl ps=>
  have e:h.get? a=some {cls:=.none,data:=.fields ps}:=x;show h'.get? a=some {cls:=.none,data:=.fields ps};exact k a _ (.inl rfl) e
 |met f y=>
  have e:h.get? a=some (zFK (.ref f) (.ref y)):=x;show h'.get? a=some (zFK (.ref f) (.ref y));exact k a _ (.inl rfl) e
 |ext φ=>obtain⟨p,⟨o,e⟩,st⟩:=x;exact⟨st _ _ p λ o q=>k _ _ (.inl rfl) q,⟨o,k _ _ (.inl rfl) e⟩,st⟩
theorem HOk.lt(x:HOk P w H h)(e:H a=some o):a<h.objs.size:=(x a o e).lt
def HOk.fresh(x:HOk P w H h)(e:h.objs.size<=a):H a=none:=by
 cases q:H a with
 |none=>rfl
 |some u=>exact absurd (zAW (x.lt q) e) (zBh _)
def HOk.kept(x:HOk P w H h)(k:∀b u,h.get? b=some u->h'.get? b=some u):HOk P w H h':=λ a o e=>
 (x a o e).stay (λ b u _ q=>k b u q) (λ _ q=>q) λ _ _ q=>q
def HOk.laid(x:HOk P w H h)(k:∀b u,h.get? b=some u->h'.get? b=some u)(hp:h.objs.size<=a)(new:cZ P w (upd H a o) h' a o):HOk P w (upd H a o) h':=λ b u e=>by
 have hn:=x.fresh hp;by_cases hb:b=a
 .subst hb;rw[aZ]at e;cases e;exact new
 .rw[aX hb]at e
  exact(x b u e).stay (λ c v _ q=>k c v q) (λ c q=>by rw[aX (bM q hn)];exact q) λ c xs q=>by rw[aX (bM q hn)];exact q
end
def Rd(H:Hp)(a:Addr)(u:HO):Prop:=H a=some u\/∃o,H a=some (.frz o u)
def Rd.ok(r:Rd H a u)(x:HOk P w H h):cZ P w H h a u:=by
 rcases r with r|⟨o,r⟩
 .exact x a u r
 .obtain⟨_,q⟩:=x a _ r
  exact q
def Mut:Option HO->Prop
 |some (.lst _)=>True
 |some (.dK _)=>True
 |some (.dT _)=>True
 |some (.set _ _)=>True
 |some (.ins _ _ _)=>True
 |some (.ext _)=>True
 |_=>False
section
variable{P:zA2}{w:World}{H:Hp}{h h':Heap}{x e:Addr}{o':HO}
def HOk.write(ok:HOk P w H h)(mu:Mut (H x))(he:e=x\/H e=some (.own x))(k:∀b u,b≠e->h.get? b=some u->h'.get? b=some u)(heo:∃u,h'.get? e=some u)
  (new:cZ P w (upd H x o') h' x o'):HOk P w (upd H x o') h':=λ b u q=>by
 have nown:∀c y,H c=some (.own y)->c≠x:=λ c y r z=>by subst z;rw[r]at mu;exact mu
 have ntup:∀c xs,H c=some (.tup xs)->c≠x:=λ c xs r z=>by subst z;rw[r]at mu;exact mu
 by_cases hb:b=x
 .subst hb;rw[aZ]at q;cases q;exact new
 .rw[aX hb]at q
  by_cases hbe:b=e
  .have q':H b=some (.own x):=by
    rcases he with z|z
    .exact absurd (hbe.trans z) hb
    .rw[hbe];exact z
   rw[q]at q';cases q';obtain⟨v,hv⟩:=heo;exact⟨v,by rw[hbe];exact hv⟩
  .refine(ok b u q).stay (λ c v hc r=>k c v ?_ r) (λ c r=>by rw[aX (nown c b r)];exact r) λ c xs r=>by rw[aX (ntup c xs r)];exact r
   rcases hc with rfl|hc
   .exact hbe
   .rintro rfl
    rcases he with z|z
    .exact nown c b hc z
    .rw[hc]at z;cases z;exact hb rfl
end
structure Un(fs ex:List Addr)(H H':Hp)(h h':Heap):Prop where
 keep:∀b o,h.get? b=some o->H b=none->b∉fs->b∉ex->h'.get? b=some o
 slot:∀b o,h.get? b=some o->H b=none->b∈fs->b∉ex->∃sl,h'.get? b=some {o with slots:=sl}
 free:∀b o,h.get? b=some o->H b=none->b∉ex->H' b=none
 there:∀b o,h.get? b=some o->b∉ex->∃o',h'.get? b=some o'
 tups:∀b xs,H b=some (.tup xs)->H' b=some (.tup xs)
 frzs:∀b o u,H b=some (.frz o u)->H' b=some (.frz o u)
 tbls:∀b ps,H b=some (.tbl ps)->∃more,H' b=some (.tbl (ps++more))
section
variable{fs fs' ex ex':List Addr}{H H1:Hp}{h h1 h':Heap}{a x e:Addr}{o:HO}
def Un.any(u:Un fs ex H H1 h h1)(q:h.get? b=some ob)(n:H b=none)(hx:b∉ex):∃sl,h1.get? b=some {ob with slots:=sl}:=by
 by_cases hb:b∈fs
 .exact u.slot b ob q n hb hx
 .exact⟨ob.slots,u.keep b ob q n hb hx⟩
def Un.kept(k:∀b u,h.get? b=some u->h'.get? b=some u):Un fs ex H H h h':=
 ⟨λ b ob q _ _ _=>k b ob q,λ b ob q _ _ _=>⟨ob.slots,k b ob q⟩,λ _ _ _ n _=>n,λ b ob q _=>⟨ob,k b ob q⟩,λ _ _ q=>q,λ _ _ _ q=>q,λ _ ps q=>⟨#[],by rw[q];simp⟩⟩
def Un.refl:Un fs ex H H h h:=Un.kept λ _ _ q=>q
def Un.laid(k:∀b u,h.get? b=some u->h'.get? b=some u)(hp:h.objs.size<=a)(hn:H a=none):Un fs ex H (upd H a o) h h' where
 keep:=λ b u q _ _ _=>k b u q
 slot:=λ b u q _ _ _=>⟨u.slots,k b u q⟩
 free:=λ b u q n _=>by rw[aX (zA4 (zAW (zAT q) hp))];exact n
 there:=λ b u q _=>⟨u,k b u q⟩
 tups:=λ b xs q=>by rw[aX (bM q hn)];exact q
 frzs:=λ b u xs q=>by rw[aX (bM q hn)];exact q
 tbls:=λ b ps q=>⟨#[],by rw[aX (bM q hn),q];simp⟩
def Un.write(mu:Mut (H x))(he:e=x\/H e=some (.own x))(k:∀b u,b≠e->h.get? b=some u->h'.get? b=some u)(heo:∃u,h'.get? e=some u):Un fs ex H (upd H x o) h h':=by
 have hx:∀b,H b=none->b≠x:=λ b n z=>by subst z;rw[n]at mu;exact mu
 have hb:∀b,H b=none->b≠e:=λ b n z=>by
  subst z;rcases he with r|r
  .exact hx b n r
  .rw[n]at r;cases r
 have hm:∀b u,H b=some u->¬Mut (some u)->b≠x:=λ b u q nm z=>by subst z;rw[q]at mu;exact nm mu
 refine⟨λ b u q n _ _=>k b u (hb b n) q,λ b u q n _ _=>⟨u.slots,k b u (hb b n) q⟩,λ b u q n _=>by rw[aX (hx b n)];exact n,λ b u q _=>?_,
  λ b xs q=>by rw[aX (hm b _ q λ z=>z)];exact q,λ b u xs q=>by rw[aX (hm b _ q λ z=>z)];exact q,λ b ps q=>⟨#[],by rw[aX (hm b _ q λ z=>z),q];simp⟩⟩
 by_cases hbe:b=e
 .subst hbe;exact heo
 .exact⟨u,k b u hbe q⟩
def Un.mono(u:Un fs ex H H1 h h1)(hs:∀b∈fs,b∈fs')(hx:∀b∈ex,b∈ex'):Un fs' ex' H H1 h h1:=
 ⟨λ b ob q n hb he=>u.keep b ob q n (λ z=>hb (hs b z)) λ z=>he (hx b z),λ _ _ q n _ he=>u.any q n λ z=>he (hx _ z),λ b ob q n he=>u.free b ob q n λ z=>he (hx b z),λ b ob q he=>u.there b ob q λ z=>he (hx b z),u.tups,u.frzs,u.tbls⟩
end
def trk(h:Heap)(H:Hp):List Addr:=(zAm h.objs.size).filter λ a=>(H a).isSome
def aJW(h:Heap)(H:Hp):Heap:=zCN h (trk h H)
def aHG(h:Heap)(H:Hp):(aJW h H).objs.size=h.objs.size:=zEf _ _
def aJV(e:h.get? b=some o)(n:H b=none):(aJW h H).get? b=some o:=
 zC9 _ e λ hm=>by
  have q:(H b).isSome=true:=(zAn.mp hm).2;rw[n]at q;simp at q
def aLH(e:(aJW h H).get? b=some o):h.get? b=some o/\H b=none:=by
 have e':h.get? b=some o:=zDo (trk h H) e;refine⟨e',?_⟩;cases q:H b with
 |none=>rfl
 |some x=>
  have hm:b∈trk h H:=zAn.mpr ⟨zBU.mpr (zAT e'),by simp[q]⟩;have z:(aJW h H).get? b=none:=zEe (trk h H) hm;rw[z]at e;cases e
def aLx(g h:Heap)(L:Addr):hZ:=(zAm h.objs.size).filterMap λ a=>if a=L\/(g.get? a).isSome=true then none else(h.get? a).map λ o=>(a,o)
def rest(g h:Heap)(L d:Addr):hZ:=(aLx g h L).filter λ p=>decide (p.1≠d)
structure Mod(K:zAA)(mg:Str->Option Value)(base:Heap):Prop where
 kin:K.In base
 glob:base.Ns zA6 mg
 blt:∃mb,base.Ns zJ3 mb/\∀x:Str,x≠"__name__"->mb x=zAt x
 nolimit:base.NoLimit
structure Cx where
 prog:zA2
 w:World
 K:zAA
 mg:Str->Option Value
 base:Heap
 A:zAc
 N:List Str
 z0:zAG
 zS:Hp
 env:Env
 outer:List Env
 stack:List Env
 ex:List Addr
 fn:Str->Bool
 calm:Bool
 pn:hZ
 xe:Value->zAG->Prop
 ta:hZ:=[]
 tq:Str:=""
def frs(l:List Env):List Addr:=l.filterMap (·.frame)
abbrev Cx.fs(X:Cx):List Addr:=frs X.outer
def Vis(sc:Scope)(x:Str):Prop:=sc.names.lookup x=some .local\/sc.names.lookup x=some .cell\/sc.names.lookup x=some .free
def Loc(sc:Scope)(x:Str):Prop:=sc.names.lookup x=some .local\/sc.names.lookup x=some .cell
def Look(env:Env)(h:Heap)(m:Str->Option Value)(x:Str)(u:Value):Prop:=
 (env.kindOf x=some .local/\m x=some u)\/((env.kindOf x=some .cell\/env.kindOf x=some .free)/\∃c,env.cells.lookup x=some c/\h.IsCell c (some u))
structure Cx.Ok(X:Cx):Prop where
 mod:Mod X.K X.mg X.base
 kind:X.env.scope.kind= .function
 glob:X.env.globals=zA6
 blt:X.env.builtins=zJ3
 above:X.z0.heap.objs.size<=X.env.locals
 inj:∀x y c,X.env.cells.lookup x=some c->X.env.cells.lookup y=some c->x=y
 has:∀x,(X.env.kindOf x=some .cell\/X.env.kindOf x=some .free)->∃c,X.env.cells.lookup x=some c
 cab:∀x c,X.fn x=true->X.env.cells.lookup x=some c->X.z0.heap.objs.size<=c
 hd:X.calm=true->X.A.handled=none
 frames:X.A.frames=some X.stack
 stk:X.stack=X.outer\/(X.stack=X.env::X.outer/\X.env.frame=some X.env.locals)
 exf:∀b∈X.ex,b≠X.env.locals/\∀x c,X.env.cells.lookup x=some c->c≠b
 bs:∀b o,X.base.get? b=some o->X.z0.heap.get? b=some o/\X.zS b=none
 bsz:X.base.objs.size<=X.z0.heap.objs.size
 noex:∀b o,X.base.get? b=some o->b∉X.ex
 exfs:∀b∈X.ex,b∉X.fs
 funs:X.z0.heap.FunFrames X.base X.outer
 frf:∀b∈X.fs,X.zS b=none
def aMe(q:Str)(oc:Obj):Prop:=∃vs t,oc.data= .fields vs/\vs[1]? =some (.str q t)
def TabOk(q:Str)(H:Hp)(ps:Array Value):Prop:=TriplesOk ps.toList/\∀pos cv,zGF pos ps.toList=some cv->∃c' oc,cv= .ref c'/\H c'=some (.frz oc (.own c'))/\aMe q oc
def TabOk.mono(t:TabOk q H ps)(f:∀b o u,H b=some (.frz o u)->H' b=some (.frz o u)):TabOk q H' ps:=⟨t.1,λ pos cv hc=>let⟨c',oc,z,a,b⟩:=t.2 pos cv hc;⟨c',oc,z,f _ _ _ a,b⟩⟩
structure Inv(X:Cx)(kX:hZ)(Z:List (Option V))(H:Hp)(s:zAG):Prop where
 ok:X.Ok
 os:s.os=X.z0.os
 bare:zFG s.gens
 base:Un X.fs X.ex X.zS H X.z0.heap s.heap
 loc:∃m,s.heap.Ns X.env.locals m/\∀(i:Nat) (x:Str) (v:V),X.N[i]? =some x->Z[i]? =some (some v)->Vis X.env.scope x->∃u,RelV v u/\Look X.env s.heap m x u
 cell:∀x c,X.env.cells.lookup x=some c->∃v,s.heap.IsCell c v
 free:H X.env.locals=none
 freeC:∀x c,X.env.cells.lookup x=some c->H c=none
 pin:∀p∈X.pn++kX,s.heap.get? p.1=some p.2/\H p.1=none/\p.1≠X.env.locals/\p.1∉X.fs/\∀v,p.2.data≠.cell v
 hok:HOk X.prog X.w H s.heap
 len:Z.length=X.N.length
 tab:∀p∈X.ta,H p.1=none/\p.1≠X.env.locals/\p.1∉X.fs/\(∀q∈X.pn++kX,q.1≠p.1)/\∃ps,s.heap.get? p.1=some {cls:=.none,data:=.fields ps}/\TabOk X.tq H ps
section
variable{X:Cx}{kX:hZ}{Z:List (Option V)}{H H':Hp}{s:zAG}{h':Heap}
def Cx.Ok.nofr(ok:X.Ok)(e:X.base.get? b=some o):b∉X.fs:=λ hb=>by
 have:=(ok.funs.mem hb).1
 rw[e]at this;cases this
theorem Inv.bs(I:Inv X kX Z H s):∀b o,X.base.get? b=some o->s.heap.get? b=some o/\H b=none:=λ b o e=>
 ⟨I.base.keep b o (I.ok.bs b o e).1 (I.ok.bs b o e).2 (I.ok.nofr e) (I.ok.noex b o e),I.base.free b o (I.ok.bs b o e).1 (I.ok.bs b o e).2 (I.ok.noex b o e)⟩
def Inv.bk(I:Inv X kX Z H s):∀b o,X.base.get? b=some o->s.heap.get? b=some o:=λ b o e=>(I.bs b o e).1
theorem Inv.mod(I:Inv X kX Z H s):Mod X.K X.mg X.base:=I.ok.mod
def Inv.kIn(I:Inv X kX Z H s):X.K.In s.heap:=I.ok.mod.kin.keeps I.bk
def Inv.fr(I:Inv X kX Z H s):∃m,Fr X.base X.env.locals s.heap m:=
 let⟨m,hn,_⟩:=I.loc
 ⟨m,hn,I.bk,zAl I.ok.bsz I.ok.above⟩
theorem Inv.lt(I:Inv X kX Z H s):X.env.locals<s.heap.objs.size:=let⟨_,hn,_⟩:=I.loc;hn.lt
def Inv.sz(I:Inv X kX Z H s):X.z0.heap.objs.size<=s.heap.objs.size:=zAl I.ok.above (zBl I.lt)
def Inv.nofs(I:Inv X kX Z H s)(h:s.heap.objs.size<=a):a∉X.fs:=λ hb=>by
 obtain⟨_,o,ho,_⟩:=I.ok.funs.mem hb;exact absurd (zAW (zAT ho) (zAl I.sz h)) (zBh _)
def Inv.cne(I:Inv X kX Z H s):∀x c,X.env.cells.lookup x=some c->c≠X.env.locals:=λ x c e z=>by
 obtain⟨v,o,ho,hd⟩:=I.cell x c e;obtain⟨m,⟨o',es,ep,ho',hd',_⟩,_⟩:=I.loc;rw[z,ho']at ho;cases ho;rw[hd']at hd;cases hd
theorem Inv.funs(I:Inv X kX Z H s):s.heap.FunFrames X.base X.outer:=by
 have all:∀(l:List Env),(∀b∈frs l,b∈X.fs)->X.z0.heap.FunFrames X.base l->s.heap.FunFrames X.base l:=by
  intro l;induction l with
  |nil=>intro _ _;trivial
  |cons env r ih=>
   intro hs hl;obtain⟨hk,⟨L,o,hf,hn,ho,hd⟩,hr⟩:=hl;have hL:L∈X.fs:=hs L (by unfold frs;rw[zBZ,hf];exact zAE);obtain⟨sl,e⟩:=I.base.slot L o ho (I.ok.frf L hL) hL λ z=>I.ok.exfs L z hL
   exact⟨hk,⟨L,_,hf,hn,e,hd⟩,ih (λ b hb=>hs b (by unfold frs;rw[zBZ,hf];exact zAH _ hb)) hr⟩
 exact all X.outer (λ _ hb=>hb) I.ok.funs
theorem Inv.stack(I:Inv X kX Z H s):s.heap.FunFrames X.base X.stack:=by
 rcases I.ok.stk with e|⟨e,hf⟩
 .rw[e];exact I.funs
 .rw[e]
  obtain⟨m,hn,_⟩:=I.loc;refine .cons (by rw[I.ok.kind];decide) hf hn ?_ I.funs;exact Heap.get?_none_of_le (zAl I.ok.bsz I.ok.above)
def Inv.stkSub(I:Inv X kX Z H s):∀b∈frs X.stack,b∈X.env.locals::X.fs:=λ b hb=>by
 rcases I.ok.stk with e|⟨e,hf⟩
 .rw[e]at hb;exact zAH _ hb
 .rw[e]at hb
  unfold frs at hb;rw[zBZ,hf]at hb;exact hb
def Inv.stkFree(I:Inv X kX Z H s):∀b∈frs X.stack,H b=none:=λ b hb=>by
 rcases zAJ.mp (I.stkSub b hb)with e|hb
 .rw[e];exact I.free
 .obtain⟨_,o,ho,_⟩:=I.ok.funs.mem hb
  exact I.base.free b o ho (I.ok.frf b hb) λ z=>I.ok.exfs b z hb
def Inv.step{g':Array zFO}{t':Nat}{d':Drawn}{ch:List Addr}(I:Inv X kX Z H s)
  (hch:∀b∈ch,(b∈X.ex\/X.z0.heap.objs.size<=b)/\b≠X.env.locals/\(∀x c,X.env.cells.lookup x=some c->c≠b)/\∀p∈X.ta++(X.pn++kX),p.1≠b)
  (keep:∀b o,b≠X.env.locals->b∉X.fs->b∉ch->s.heap.get? b=some o->H b=none->h'.get? b=some o)
  (slot:∀b o,b≠X.env.locals->b∈X.fs->b∉ch->s.heap.get? b=some o->H b=none->∃sl,h'.get? b=some {o with slots:=sl})(free:∀b o,b∉ch->s.heap.get? b=some o->H b=none->H' b=none)
  (there:∀b o,b∉ch->s.heap.get? b=some o->∃o',h'.get? b=some o')
  (tups:∀b xs,H b=some (.tup xs)->H' b=some (.tup xs))(frzs:∀b o u,H b=some (.frz o u)->H' b=some (.frz o u))(tbls:∀b ps,H b=some (.tbl ps)->∃more,H' b=some (.tbl (ps++more)))
  (ns:∀m,s.heap.Ns X.env.locals m->h'.Ns X.env.locals m)(hok:HOk X.prog X.w H' h')(hg:zFG g'):
  Inv X kX Z H' {s with heap:=h',gens:=g',drawn:=d',toks:=t'}:=by
 have neL:∀b o,X.z0.heap.get? b=some o->b≠X.env.locals:=λ b o e=>zA4 (zAW (zAT e) I.ok.above)
 have neC:∀b o,X.z0.heap.get? b=some o->b∉X.ex->b∉ch:=λ b o e hx hb=>by
  rcases(hch b hb).1 with z|z
  .exact hx z
  .exact absurd (zAW (zAT e) z) (zBh _)
 have eJ:∀x c,X.env.cells.lookup x=some c->∀v,s.heap.IsCell c v->h'.IsCell c v:=λ x c e v ⟨o,ho,hd⟩=>by
  have nch:c∉ch:=λ z=>(hch c z).2.2.1 x c e rfl
  by_cases hc:c∈X.fs
  .obtain⟨sl,q⟩:=slot c o (I.cne x c e) hc nch ho (I.freeC x c e)
   exact⟨_,q,hd⟩
  .exact⟨o,keep c o (I.cne x c e) hc nch ho (I.freeC x c e),hd⟩
 refine⟨I.ok,I.os,hg,⟨λ b o e n hb hx=>?_,λ b o e n hb hx=>?_,λ b o e n hx=>?_,λ b o e hx=>?_,λ b xs e=>tups b xs (I.base.tups b xs e),λ b o xs e=>frzs b o xs (I.base.frzs b o xs e),λ b ps e=>?_⟩,?_,λ x c e=>?_,?_,λ x c e=>?_,λ p hp=>?_,hok,I.len,λ p hp=>?_⟩
 .exact keep b o (neL b o e) hb (neC b o e hx) (I.base.keep b o e n hb hx) (I.base.free b o e n hx)
 .obtain⟨sl,e1⟩:=I.base.slot b o e n hb hx
  obtain⟨sl',e2⟩:=slot b _ (neL b o e) hb (neC b o e hx) e1 (I.base.free b o e n hx);exact⟨sl',e2⟩
 .obtain⟨o',e1⟩:=I.base.there b o e hx
  exact free b o' (neC b o e hx) e1 (I.base.free b o e n hx)
 .obtain⟨o',e1⟩:=I.base.there b o e hx
  exact there b o' (neC b o e hx) e1
 .obtain⟨m1,e1⟩:=I.base.tbls b ps e
  obtain⟨m2,e2⟩:=tbls b _ e1;exact⟨m1++m2,by rw[e2,zHe]⟩
 .obtain⟨m,hn,hl⟩:=I.loc
  refine⟨m,ns m hn,λ i x v e1 e2 e3=>?_⟩;obtain⟨u,r,l⟩:=hl i x v e1 e2 e3;refine⟨u,r,?_⟩;rcases l with l|⟨k,c,e,z⟩
  .exact .inl l
  .exact .inr ⟨k,c,e,eJ x c e _ z⟩
 .obtain⟨v,z⟩:=I.cell x c e
  exact⟨v,eJ x c e v z⟩
 .obtain⟨m,⟨o,_,_,ho,_⟩,_⟩:=I.loc
  exact free _ o (λ z=>(hch _ z).2.1 rfl) ho I.free
 .obtain⟨v,o,ho,hd⟩:=I.cell x c e
  exact free c o (λ z=>(hch c z).2.2.1 x c e rfl) ho (I.freeC x c e)
 .obtain⟨e,n,ne,nf,d⟩:=I.pin p hp
  have nch:p.1∉ch:=λ z=>(hch p.1 z).2.2.2 p (zA9 _ hp) rfl
  exact⟨keep p.1 p.2 ne nf nch e n,free p.1 p.2 nch e n,ne,nf,d⟩
 .obtain⟨n,ne,nf,np,ps,e,t⟩:=I.tab p hp
  have nch:p.1∉ch:=λ z=>(hch p.1 z).2.2.2 p (zA7 _ hp) rfl
  exact⟨free p.1 _ nch e n,ne,nf,np,ps,keep p.1 _ ne nf nch e n,t.mono frzs⟩
def Inv.pinL(I:Inv X kX Z H s)(hp:p∈X.ta++(X.pn++kX)):p.1<s.heap.objs.size:=by
 rcases zAd.mp hp with z|z
 .obtain⟨_,_,_,_,_,e,_⟩:=I.tab p z
  exact zAT e
 .exact zAT (I.pin p z).1
def Inv.un{t':Nat}(I:Inv X kX Z H s)(u:Un X.fs [] H H' s.heap h')(hok:HOk X.prog X.w H' h'):Inv X kX Z H' {s with heap:=h',toks:=t'}:=by
 obtain⟨m,⟨o,es,ep,ho,r⟩,_⟩:=id I.loc;obtain⟨sl,hL⟩:=u.any ho I.free (by simp);exact I.step (g':=s.gens) (d':=s.drawn) (ch:=[]) (λ _ z=>nomatch z) (λ b o _ hb _ e n=>u.keep b o e n hb (by simp)) (λ b o _ hb _ e n=>u.slot b o e n hb (by simp)) (λ b o _ e n=>u.free b o e n (by simp)) (λ b o _ e=>u.there b o e (by simp)) u.tups u.frzs u.tbls (λ m' hm=>by
  obtain⟨o',es',ep',ho',r'⟩:=hm;rw[ho]at ho';cases ho';exact⟨_,es',ep',hL,r'⟩) hok I.bare
def Inv.call{g':Array zFO}{t':Nat}{d':Drawn}{ch:List Addr}(I:Inv X kX Z H s)(u:Un (frs X.stack) ch H H' s.heap h')(hok:HOk X.prog X.w H' h')(hg:zFG g')
  (hch:∀b∈ch,(b∈X.ex\/X.z0.heap.objs.size<=b)/\b≠X.env.locals/\(∀x c,X.env.cells.lookup x=some c->c≠b)/\∀p∈X.ta++(X.pn++kX),p.1≠b):
  Inv X kX Z H' {s with heap:=h',gens:=g',drawn:=d',toks:=t'}:=by
 obtain⟨m,⟨o,es,ep,ho,r⟩,_⟩:=id I.loc;obtain⟨sl,hL⟩:=u.any ho I.free λ z=>(hch _ z).2.1 rfl
 exact I.step (ch:=ch) hch (λ b o hL hb hc e n=>u.keep b o e n (λ z=>(zAJ.mp (I.stkSub b z)).elim hL hb) hc) (λ b o _ _ hc e n=>u.any e n hc) (λ b o hc e n=>u.free b o e n hc) (λ b o hc e=>u.there b o e hc) u.tups u.frzs u.tbls (λ m' hm=>by
  obtain⟨o',es',ep',ho',r'⟩:=hm;rw[ho]at ho';cases ho';exact⟨_,es',ep',hL,r'⟩) hok hg
def Inv.turned{t':Nat}{it:Addr}(I:Inv X kX Z H s)(k:∀b o,b≠it->s.heap.get? b=some o->h'.get? b=some o)(hn:H it=none)(hL:it≠X.env.locals)
  (h1:it∈X.ex\/X.z0.heap.objs.size<=it)(h2:∀x c,X.env.cells.lookup x=some c->c≠it)(h3:∀p∈X.ta++(X.pn++kX),p.1≠it):Inv X kX Z H {s with heap:=h',toks:=t'}:=by
 have nit:∀b u,H b=some u->b≠it:=λ b u e z=>by rw[z,hn]at e;cases e
 refine I.step (g':=s.gens) (d':=s.drawn) (ch:=[it]) (λ b hb=>?_) (λ b o _ _ hc e _=>k b o (λ z=>hc (by simp[z])) e) (λ b o _ _ hc e _=>⟨o.slots,k b o (λ z=>hc (by simp[z])) e⟩) (λ _ _ _ _ n=>n)
  (λ b o hc e=>⟨o,k b o (λ z=>hc (by simp[z])) e⟩) (λ _ _ e=>e) (λ _ _ _ e=>e) (λ b ps e=>⟨#[],by rw[e];simp⟩) (λ m hm=>?_) (λ b u e=>?_) I.bare
 .have e:b=it:=by simpa using hb
  subst e;exact⟨h1,hL,h2,h3⟩
 .obtain⟨o,es,ep,ho,r⟩:=hm
  exact⟨o,es,ep,k _ o (zDU hL) ho,r⟩
 .refine(I.hok b u e).stay (λ c v hc q=>k c v ?_ q) (λ _ q=>q) λ _ _ q=>q
  rcases hc with z|z
  .rw[z];exact nit b u e
  .exact nit c _ z
def Inv.tok(I:Inv X kX Z H s)(t:Nat):Inv X kX Z H {s with toks:=t}:=I.un (h':=s.heap) (t':=t) Un.refl I.hok
theorem Inv.kept(I:Inv X kX Z H s)(k:∀b u,s.heap.get? b=some u->h'.get? b=some u):Inv X kX Z H {s with heap:=h',toks:=t'}:=I.un (Un.kept k) (I.hok.kept k)
theorem Inv.laid(I:Inv X kX Z H s)(k:∀b u,s.heap.get? b=some u->h'.get? b=some u)(hp:s.heap.objs.size<=a)(new:cZ X.prog X.w (upd H a o) h' a o):
  Inv X kX Z (upd H a o) {s with heap:=h',toks:=t'}:=I.un (Un.laid k hp (I.hok.fresh hp)) (I.hok.laid k hp new)
theorem Inv.write(I:Inv X kX Z H s)(mu:Mut (H x))(he:e=x\/H e=some (.own x))(k:∀b u,b≠e->s.heap.get? b=some u->h'.get? b=some u)(heo:∃u,h'.get? e=some u)
  (new:cZ X.prog X.w (upd H x o) h' x o):Inv X kX Z (upd H x o) {s with heap:=h',toks:=t'}:=I.un (Un.write mu he k heo) (I.hok.write mu he k heo new)
def Inv.weak(I:Inv X kX Z H s)(hl:Z'.length=Z.length)(w:∀(i:Nat) v,Z'[i]? =some (some v)->Z[i]? =some (some v)):Inv X kX Z' H s:=
 ⟨I.ok,I.os,I.bare,I.base,let⟨m,hn,hl'⟩:=I.loc;⟨m,hn,λ i x v e1 e2 e3=>hl' i x v e1 (w i v e2) e3⟩,I.cell,I.free,I.freeC,I.pin,I.hok,hl.trans I.len,I.tab⟩
def Inv.pins_of(I:Inv X kX Z H s)(h:∀p∈pins',s.heap.get? p.1=some p.2/\H p.1=none/\p.1≠X.env.locals/\p.1∉X.fs/\∀v,p.2.data≠.cell v)(h2:∀q∈pins',∀p∈X.ta,q.1≠p.1):Inv X pins' Z H s:=
 ⟨I.ok,I.os,I.bare,I.base,I.loc,I.cell,I.free,I.freeC,λ p hp=>(zAd.mp hp).elim (λ z=>I.pin p (zA7 _ z)) (h p),I.hok,I.len,λ p hp=>let⟨a,b,c,d,e⟩:=I.tab p hp;⟨a,b,c,λ q hq=>(zAd.mp hq).elim (λ z=>d q (zA7 _ z)) (λ z=>h2 q z p hp),e⟩⟩
def yS{N:List Str}(hN:N.Nodup){i j:Nat}{x:Str}(a:N[i]? =some x)(b:N[j]? =some x):i=j:=by
 obtain⟨h1,e1⟩:=zAN.mp a;obtain⟨h2,e2⟩:=zAN.mp b;exact(List.getElem_inj hN).mp (e1.trans e2.symm)
def uW{M:Model}{A:zAc}{E:Value->zAG->Prop}{i:Nat}{x:Str}{v:V}{u:Value}{Q:Unit->zAG->Prop}(I:Inv X kX Z H s)(hN:X.N.Nodup)(hi:X.N[i]? =some x)(hx:Loc X.env.scope x)(r:RelV v u)
  (h:∀s',Inv X kX (Z.set i (some v)) H s'->(∃a,zDI a s.heap s'.heap/\(a=X.env.locals\/X.env.cells.lookup x=some a))->Q () s')(hf:X.fn x=true\/X.env.scope.names.lookup x=some .local:=by first|exact .inl rfl|exact .inr rfl|assumption):wpAny M A (storeName X.env x u) Q E s:=by
 obtain⟨m,hn,hl⟩:=id I.loc;have fA:(X.env.scope.kind== .class||(X.env.scope.kind== .module&&X.env.locals !=X.env.globals))=false:=by rw[I.ok.kind];rfl
 have hiZ:i<Z.length:=by rw[I.len];exact(zAN.mp hi).1
 have cne:=I.cne;have bX:∀{a:Addr} {h':Heap},(∃o,s.heap.get? a=some o/\H a=none)->zDI a s.heap h'->HOk X.prog X.w H h':=λ{a h'} ha hs b ob e=>by
  obtain⟨_,_,hfree⟩:=ha;refine(I.hok b ob e).stay (λ c w' hc q=>(hs.2 c ?_).trans q) (λ _ q=>q) λ _ _ q=>q
  rintro rfl;rcases hc with rfl|hc
  .rw[hfree]at e;cases e
  .rw[hfree]at hc;cases hc
 rcases hx with hk|hk
 .refine wpAny_storeName_local hk hn (λ h' hn' hs=>?_) fA
  obtain⟨oL,_,_,hoL,_⟩:=id hn;refine h _ ⟨I.ok,I.os,I.bare,⟨λ b o e n hb hx=>?_,λ b o e n hb hx=>?_,I.base.free,λ b o e hx=>?_,I.base.tups,I.base.frzs,I.base.tbls⟩,⟨_,hn',λ j y v' e1 e2 e3=>?_⟩,λ y c e=>?_,I.free,I.freeC,λ p hp=>?_,bX ⟨oL,hoL,I.free⟩ hs,by simpa using I.len,λ p hp=>?_⟩ ⟨_,hs,.inl rfl⟩
  .exact(hs.2 b (zA4 (zAW (zAT e) I.ok.above))).trans (I.base.keep b o e n hb hx)
  .obtain⟨sl,e1⟩:=I.base.slot b o e n hb hx
   exact⟨sl,(hs.2 b (zA4 (zAW (zAT e) I.ok.above))).trans e1⟩
  .obtain⟨o',e1⟩:=I.base.there b o e hx
   exact⟨o',(hs.2 b (zA4 (zAW (zAT e) I.ok.above))).trans e1⟩
  .by_cases hj:j=i
   .subst hj
    rw[hi]at e1;cases e1;rw[zBv hiZ]at e2;cases e2;exact⟨u,r,.inl ⟨hk,by simp⟩⟩
   .rw[zB7 (zDU hj)]at e2
    obtain⟨u',r',q⟩:=hl j y v' e1 e2 e3;refine⟨u',r',?_⟩;rcases q with ⟨k,e⟩|⟨k,c,e,z⟩
    .refine .inl ⟨k,?_⟩
     have:y≠x:=λ e=>hj (yS hN e1 (e▸hi))
     simp[this,e]
    .exact .inr ⟨k,c,e,z.sameBut hs (cne y c e)⟩
  .obtain⟨w',z⟩:=I.cell y c e
   exact⟨w',z.sameBut hs (cne y c e)⟩
  .obtain⟨e,n,ne,nf,d⟩:=I.pin p hp
   exact⟨(hs.2 p.1 ne).trans e,n,ne,nf,d⟩
  .obtain⟨n,ne,nf,np,ps,e,t⟩:=I.tab p hp
   exact⟨n,ne,nf,np,ps,(hs.2 p.1 ne).trans e,t⟩
 .have hfn:X.fn x=true:=by
   rcases hf with z|z
   .exact z
   .rw[z]at hk;cases hk
  obtain⟨c,hc⟩:=I.ok.has x (.inl hk);obtain⟨w',z⟩:=I.cell x c hc;refine wpAny_storeName_cell I.ok.kind hk hc z (λ h' hc' hs=>?_);obtain⟨oc,hoc,hocd⟩:=id z;refine h {s with heap:=h'} ⟨I.ok,I.os,I.bare,⟨λ b o e n hb hx=>?_,λ b o e n hb hx=>?_,I.base.free,λ b o e hx=>?_,I.base.tups,I.base.frzs,I.base.tbls⟩,⟨m,hn.sameBut hs (zDU (cne x c hc)),λ j y v' e1 e2 e3=>?_⟩,λ y c' e=>?_,I.free,I.freeC,λ p hp=>?_,bX ⟨oc,hoc,I.freeC x c hc⟩ hs,by simpa using I.len,λ p hp=>?_⟩ ⟨c,hs,.inr hc⟩
  .exact(hs.2 b (zA4 (zAW (zAT e) (I.ok.cab x c hfn hc)))).trans (I.base.keep b o e n hb hx)
  .obtain⟨sl,e1⟩:=I.base.slot b o e n hb hx
   exact⟨sl,(hs.2 b (zA4 (zAW (zAT e) (I.ok.cab x c hfn hc)))).trans e1⟩
  .obtain⟨o',e1⟩:=I.base.there b o e hx
   exact⟨o',(hs.2 b (zA4 (zAW (zAT e) (I.ok.cab x c hfn hc)))).trans e1⟩
  .by_cases hj:j=i
   .subst hj
    rw[hi]at e1;cases e1;rw[zBv hiZ]at e2;cases e2;exact⟨u,r,.inr ⟨.inl hk,c,hc,hc'⟩⟩
   .rw[zB7 (zDU hj)]at e2
    obtain⟨u',r',q⟩:=hl j y v' e1 e2 e3;refine⟨u',r',?_⟩;rcases q with q|⟨k,c',e,z'⟩
    .exact .inl q
    .refine .inr ⟨k,c',e,z'.sameBut hs ?_⟩
     rintro rfl;exact hj (yS hN e1 (I.ok.inj _ _ _ e hc▸hi))
  .by_cases hcc:c'=c
   .subst hcc;exact⟨_,hc'⟩
   .obtain⟨w2,z2⟩:=I.cell y c' e
    exact⟨w2,z2.sameBut hs hcc⟩
  .obtain⟨e,n,ne,nf,d⟩:=I.pin p hp
   refine⟨(hs.2 p.1 ?_).trans e,n,ne,nf,d⟩;intro q;rw[q,hoc]at e;have q':oc=p.2:=zAa e;exact d w' (by rw[<-q'];exact hocd)
  .obtain⟨n,ne,nf,np,ps,e,t⟩:=I.tab p hp
   refine⟨n,ne,nf,np,ps,(hs.2 p.1 ?_).trans e,t⟩;intro q;rw[q,hoc]at e;rw[zAa e]at hocd;cases hocd
def sW(I:Inv X kX Z H s)(hN:X.N.Nodup)(hi:X.N[i]? =some x)(hx:Loc X.env.scope x)(r:RelV v u)
  (h:∀s',Inv X kX (Z.set i (some v)) H s'->Q () s')(hf:X.fn x=true\/X.env.scope.names.lookup x=some .local:=by first|exact .inl rfl|exact .inr rfl|assumption):wpAny M A (storeName X.env x u) Q E s:=
 uW I hN hi hx r (λ s' I' _=>h s' I') hf
def Inv.call'(I:Inv X kX Z H s)(ho:s'.os=s.os)(u:Un (frs X.stack) ch H H' s.heap s'.heap)(hok:HOk X.prog X.w H' s'.heap)(hg:zFG s'.gens)
  (hch:∀b∈ch,(b∈X.ex\/X.z0.heap.objs.size<=b)/\b≠X.env.locals/\(∀x c,X.env.cells.lookup x=some c->c≠b)/\∀p∈X.ta++(X.pn++kX),p.1≠b):Inv X kX Z H' s':=by
 obtain⟨h',g',d',t',o'⟩:=s';have e:o'=s.os:=ho;subst e;exact I.call (g':=g') (t':=t') (d':=d') u hok hg hch
end
abbrev XK:=Value->Option Addr->Hp->Prop
abbrev St:=List (Option V)
abbrev VK:=V->Hp->Prop
abbrev TE:=St->Hp->VK->Prop
abbrev TT:=St->Hp->(Bool->Hp->Prop)->Prop
abbrev TA:=St->Hp->(List V->Hp->Prop)->Prop
structure Ends where
 nx:St->Hp->Prop
 rt:VK
 bk:St->Hp->Prop:=λ _ _=>False
 ct:St->Hp->Prop:=λ _ _=>False
abbrev TS:=Ends->St->Hp->Prop
def EP(X:Cx)(kX:hZ)(Z:St)(Q:VK)(u:Value)(s':zAG):Prop:=∃v H',Inv X kX Z H' s'/\RelV v u/\Q v H'
def TP(X:Cx)(kX:hZ)(Z:St)(Q:Bool->Hp->Prop)(b:Bool)(s':zAG):Prop:=∃H',Inv X kX Z H' s'/\Q b H'
def AP(X:Cx)(kX:hZ)(Z:St)(Q:List V->Hp->Prop)(us:List Value)(s':zAG):Prop:=∃vs H',Inv X kX Z H' s'/\Vals vs us/\Q vs H'
def SP(X:Cx)(kX:hZ)(D:Ends)(f:Flow)(s':zAG):Prop:=
 match f with
 | .next=>∃Z' H',Inv X kX Z' H' s'/\D.nx Z' H'
 | .brk=>∃Z' H',Inv X kX Z' H' s'/\D.bk Z' H'
 | .cont=>∃Z' H',Inv X kX Z' H' s'/\D.ct Z' H'
 | .ret u=>∃v Z' H',Inv X kX Z' H' s'/\RelV v u/\D.rt v H'
def PE(X:Cx)(e:Expr)(t:TE):Prop:=
 ∀(kX:hZ) (s:zAG) (Z:St) (H:Hp) (Q:VK),Inv X kX Z H s->t Z H Q->wpAny (model X.prog X.w) X.A (eval e X.env) (EP X kX Z Q) X.xe s
def PT(X:Cx)(e:Expr)(t:TT):Prop:=
 ∀(kX:hZ) (s:zAG) (Z:St) (H:Hp) (Q:Bool->Hp->Prop),Inv X kX Z H s->t Z H Q->wpAny (model X.prog X.w) X.A (isTrue e X.env (eval e X.env)) (TP X kX Z Q) X.xe s
def PW(X:Cx)(e:Expr)(t:TT):Prop:=
 ∀(whole:Sem Value) (kX:hZ) (s:zAG) (Z:St) (H:Hp) (Q:Bool->Hp->Prop),Inv X kX Z H s->t Z H Q->wpAny (model X.prog X.w) X.A (isTrue e X.env whole) (TP X kX Z Q) X.xe s
def PW.pt(h:PW X e t):PT X e t:=h _
def PA(X:Cx)(es:List Expr)(t:TA):Prop:=
 ∀(pos:Pos) (kX:hZ) (s:zAG) (Z:St) (H:Hp) (Q:List V->Hp->Prop),Inv X kX Z H s->t Z H Q->wpAny (model X.prog X.w) X.A (spliced (zCo pos (zAZ es X.env))) (AP X kX Z Q) X.xe s
def PS(X:Cx)(st:Stmt)(t:TS):Prop:=
 ∀(kX:hZ) (s:zAG) (Z:St) (H:Hp) (D:Ends),Inv X kX Z H s->t D Z H->wpAny (model X.prog X.w) X.A (exec st X.env) (SP X kX D) X.xe s
def PSs(X:Cx)(st:List Stmt)(t:TS):Prop:=
 ∀(kX:hZ) (s:zAG) (Z:St) (H:Hp) (D:Ends),Inv X kX Z H s->t D Z H->wpAny (model X.prog X.w) X.A (execs st X.env) (SP X kX D) X.xe s
def thn(h:wpAny M A t Q E s)(hQ:∀a s,Q a s->Q' a s):wpAny M A t Q' E s:=zBX h hQ λ _ _ x=>x
section
variable{X:Cx}
def bin{a b:Expr}{ta tb:TE}(ha:PE X a ta)(hb:PE X b tb){kX:hZ}{s:zAG}{Z:St}{H:Hp}{R:V->V->Hp->Prop}(I:Inv X kX Z H s)(h:ta Z H λ x H1=>tb Z H1 λ y H2=>R x y H2)
  {α:Type}{Q:α->zAG->Prop}{f:Value->Value->Sem α}
  (hf:∀v u s2 x y H2,Inv X kX Z H2 s2->RelV x v->RelV y u->R x y H2->wpAny (model X.prog X.w) X.A (f v u) Q X.xe s2):
  wpAny (model X.prog X.w) X.A (eval a X.env) (λ v zI=>wpAny (model X.prog X.w) X.A (eval b X.env) (λ u z4=>wpAny (model X.prog X.w) X.A (f v u) Q X.xe z4) X.xe zI) X.xe s:=by
 refine thn (ha kX s Z H _ I h) λ v s1 ⟨x,H1,I1,r1,q1⟩=>?_
 refine thn (hb kX s1 Z H1 _ I1 q1) λ u s2 ⟨y,H2,I2,r2,q2⟩=>?_
 exact hf v u s2 x y H2 I2 r1 r2 q2
def oJ(i:Nat):TE:=λ Z H Q=>∃v,Z[i]? =some (some v)/\Q v H
def tC(v:V):TE:=λ _ H Q=>Q v H
abbrev _root_.Nd(x:PySem.Str):Prop:=(x==("__debug__":PySem.Str))=false
def gD(hN:X.N[i]? =some x)(hv:Vis X.env.scope x)(hd:Nd x:=by decide)(hcd:(x==("__classdict__":Str))=false:=by decide):PE X (.Name x pos) (oJ i):=by
 intro kX s Z H Q I h;obtain⟨v,e,h⟩:=h;obtain⟨m,hn,hl⟩:=I.loc;obtain⟨u,r,l⟩:=hl i x v hN e hv;have fin:EP X kX Z Q u s:=⟨v,H,I,r,h⟩;rcases l with ⟨hk,hm⟩|⟨hk,c,hc,hcell⟩
 .exact zFY (zF3 I.ok.kind hk hn hm fin) hd
 .rcases hk with hk|hk
  .exact zFY (zFo I.ok.kind hk hc hcell fin) hd
  .exact zFY (zIx I.ok.kind hk hc hcell fin hcd) hd
def aER{i j pos}:PE X (.Constant (.int i) j pos) (tC (.int i)):=λ _ _ _ H _ I h=>wpAny_Constant_int ⟨.int i,H,I.tok _,⟨_,rfl⟩,h⟩
def aI5{b j pos}:PE X (.Constant (.bool b) j pos) (tC (.bl b)):=λ _ _ _ H _ I h=>Constant_bool ⟨.bl b,H,I,rfl,h⟩
def aNX{j pos}:PE X (.Constant .none j pos) (tC .non):=λ _ _ _ H _ I h=>Constant_none ⟨.non,H,I,rfl,h⟩
def fQ{x j pos}:PE X (.Constant (.str x) j pos) (tC (.str x)):=λ _ _ _ H _ I h=>Calls.Constant_str ⟨.str x,H,I.tok _,⟨_,rfl⟩,h⟩
def Gl(X:Cx)(x:Str):Prop:=X.env.kindOf x=some .globalImplicit
def qM(I:Inv X kX Z H s)(hg:Gl X x)(hm:X.mg x=some u)(h:Q u s)
  (hd:Nd x:=by decide):wpAny (model X.prog X.w) X.A (eval (.Name x pos) X.env) Q E s:=
 zGJ I.ok.kind hg (Calls.loadGlobal_global (by rw[I.ok.glob];exact I.mod.glob.keeps I.bk) hm h) hd
def rR(I:Inv X kX Z H s)(hg:Gl X x)(hm:X.mg x=none)(hv:zAt x=some u)(h:Q u s)
  (hn:x≠"__name__":=by decide)(hd:Nd x:=by decide):wpAny (model X.prog X.w) X.A (eval (.Name x pos) X.env) Q E s:=by
 obtain⟨mb,h1,h2⟩:=I.mod.blt;exact zGJ I.ok.kind hg (Calls.loadGlobal_builtin (by rw[I.ok.glob];exact I.mod.glob.keeps I.bk) hm (by rw[I.ok.blt];exact h1.keeps I.bk) ((h2 x hn).trans hv) h) hd
def eE(hg:Gl X x)(hm:X.mg x=some u)(r:RelV v u)(hd:Nd x:=by decide):PE X (.Name x pos) (tC v):=
 λ _ _ _ H _ I h=>qM I hg hm ⟨v,H,I,r,h⟩ hd
def aF4(hg:Gl X x)(hm:X.mg x=none)(hv:zAt x=some u)(r:RelV v u)(hn:x≠"__name__":=by decide)(hd:Nd x:=by decide):PE X (.Name x pos) (tC v):=
 λ _ _ _ H _ I h=>rR I hg hm hv ⟨v,H,I,r,h⟩ hn hd
def t2I(ta tb:TE)(k:Int->Int->Hp->Prop):St->Hp->Prop:=λ Z H=>ta Z H λ x H1=>tb Z H1 λ y H2=>∃i j,x= .int i/\y= .int j/\k i j H2
variable{a b:Expr}{ta tb:TE}{pos:Pos}
def PC(X:Cx)(op:CmpOp)(a b:Expr)(t:TE):Prop:=
 ∀(kX:hZ) (s:zAG) (Z:St) (H:Hp) (Q:VK),Inv X kX Z H s->t Z H Q->
  wpAny (model X.prog X.w) X.A (eval a X.env) (λ v zI=>wpAny (model X.prog X.w) X.A (eval b X.env) (λ u z4=>wpAny (model X.prog X.w) X.A (zAw op v u) (EP X kX Z Q) X.xe z4) X.xe zI) X.xe s
def aIj(b:Expr)(h:op≠.In)(h2:op≠.NotIn):zBm op b=false:=by
 have e1:(op==CmpOp.In)=false:=by cases op<;>first|rfl|exact absurd rfl h
 have e2:(op==zJP)=false:=by cases op<;>first|rfl|exact absurd rfl h2
 cases b<;>simp[zBm,e1,e2]
def aOv(p:Int->Int->Bool)(ta tb:TE):TE:=λ Z H Q=>t2I ta tb (λ i j H2=>Q (.bl (p i j)) H2) Z H
abbrev aPw:TE->TE->TE:=aOv λ i j=>!decide (i=j)
def aN5{op:CmpOp}{p:Int->Int->Bool}(ha:PE X a ta)(hb:PE X b tb)
  (rule:∀(i j:Int) (t u:Tok) (Q:Value->zAG->Prop) (s:zAG),Q (.bool (p i j)) s->wpAny (model X.prog X.w) X.A (zAw op (.int i t) (.int j u)) Q X.xe s):PC X op a b (aOv p ta tb):=by
 intro kX s Z H Q I h;refine bin ha hb I h λ v u s2 x y H2 I2 rx ry q=>?_
 obtain⟨i,j,rfl,rfl,q⟩:=q;obtain⟨t,rfl⟩:=rx;obtain⟨t',rfl⟩:=ry;exact rule i j t t' _ s2 ⟨.bl _,H2,I2,rfl,q⟩
def aN4(ha:PE X a ta)(hb:PE X b tb):PC X .NotEq a b (aPw ta tb):=aN5 ha hb λ _ _ _ _ _ _ h=>ne_int (by rw[bne,Bool.beq_eq_decide_eq];exact h)
def tB(t:TE):TT:=λ Z H Q=>t Z H λ x H1=>∃c,x= .bl c/\Q c H1
def aNK(h:PC X op a b t)(h1:zBm op b=false:=by first|exact aIj _ (by decide) (by decide)|rfl):PT X (.Compare a [op] [b] pos) (tB t):=by
 intro kX s Z H Q I hw;refine zIm (thn (h kX s Z H _ I hw) λ v s1 h1=>thn h1 λ u s2 h2=>thn h2 λ c s3 ⟨x,H1,I1,r1,q1⟩=>?_) h1;obtain⟨d,rfl,q⟩:=q1;cases r1;exact zBo ⟨H1,I1,q⟩
def aIL(h:PE X e t)(he:∀whole,isTrue e X.env whole=(do let v <-whole;zG5 e.pos;zCn [v] (truthy v)):=by intro _;rfl):PT X e (tB t):=by
 intro kX s Z H Q I hw;refine isTrue_plain (thn (h kX s Z H _ I hw) λ v s1 ⟨x,H1,I1,r1,q1⟩=>?_) (he _);obtain⟨d,rfl,q⟩:=q1;cases r1;exact zBo ⟨H1,I1,q⟩
variable{tA tB':TT}{rest:List Expr}
def aQC(t u:TT):TT:=λ Z H Q=>t Z H λ c H1=>if c=true then u Z H1 Q else Q false H1
def tOr(t u:TT):TT:=λ Z H Q=>t Z H λ c H1=>if c=true then Q true H1 else u Z H1 Q
def aPv(t:TT):TT:=λ Z H Q=>t Z H λ c H1=>Q (!c) H1
def aKi(ha:PT X a tA):PW X (.BoolOp .And [a] pos) tA:=by
 intro wh kX s Z H Q I h;refine isTrue_and (thn (ha kX s Z H Q I h) λ c s1 e=>?_);cases c with
 |true=>exact isTrue_and_nil e
 |false=>exact e
def aII(ha:PT X a tA):PW X (.BoolOp .Or [a] pos) tA:=by
 intro wh kX s Z H Q I h;refine isTrue_or (thn (ha kX s Z H Q I h) λ c s1 e=>?_);cases c with
 |false=>exact isTrue_or_nil e
 |true=>exact e
def aNJ(ha:PT X a tA)(hb:PW X (.BoolOp .And (b::rest) pos) tB'):PW X (.BoolOp .And (a::b::rest) pos) (aQC tA tB'):=by
 intro wh kX s Z H Q I h;refine isTrue_and (thn (ha kX s Z H _ I h) λ c s1 ⟨H1,I1,q1⟩=>?_);cases c with
 |true=>exact hb wh kX s1 Z H1 Q I1 q1
 |false=>exact⟨H1,I1,q1⟩
def aMW(ha:PT X a tA)(hb:PW X (.BoolOp .Or (b::rest) pos) tB'):PW X (.BoolOp .Or (a::b::rest) pos) (tOr tA tB'):=by
 intro wh kX s Z H Q I h;refine isTrue_or (thn (ha kX s Z H _ I h) λ c s1 ⟨H1,I1,q1⟩=>?_);cases c with
 |true=>exact⟨H1,I1,q1⟩
 |false=>exact hb wh kX s1 Z H1 Q I1 q1
def aEN(ha:PT X a tA):PT X (.UnaryOp .Not a pos) (aPv tA):=by
 intro kX s Z H Q I h;exact isTrue_not (ha kX s Z H (λ c H1=>Q (!c) H1) I h)
def aOx(ta tb:TE):TE:=λ Z H Q=>ta Z H λ x H1=>∃c,x= .bl c/\if c=true then tb Z H1 Q else Q (.bl false) H1
def aOt(ta:TE):TE:=λ Z H Q=>ta Z H λ x H1=>∃c,x= .bl c/\Q (.bl (!c)) H1
def aNV{op}(h:PE X a t):PE X (.BoolOp op [a] pos) t:=λ kX s Z H Q I hw=>BoolOp_one (h kX s Z H Q I hw)
def aN0(ha:PE X a ta)(hb:PE X (.BoolOp .And (b::rest) pos) tb):PE X (.BoolOp .And (a::b::rest) pos) (aOx ta tb):=by
 intro kX s Z H Q I h;refine BoolOp_and (thn (ha kX s Z H _ I h) λ v s1 ⟨x,H1,I1,r1,q1⟩=>?_);obtain⟨c,rfl,q1⟩:=q1;cases r1;refine zBo ?_;cases c with
 |true=>exact hb kX s1 Z H1 Q I1 q1
 |false=>exact⟨.bl false,H1,I1,rfl,q1⟩
def aNW(ha:PE X a ta):PE X (.UnaryOp .Not a pos) (aOt ta):=by
 intro kX s Z H Q I h;refine UnaryOp_ (thn (ha kX s Z H _ I h) λ v s1 ⟨x,H1,I1,r1,q1⟩=>?_);obtain⟨c,rfl,q1⟩:=q1;cases r1;exact not_of (zBo ⟨.bl (!c),H1,I1,rfl,q1⟩)
end
def SqL(K:zAA)(H:Hp)(a:Addr)(xs:List V):Prop:=
 Rd H a (.lst xs)\/
  ∃(o:Obj) (its:Array Value) (n:Nat),K.lookup a=some o/\o.cls= .type "list"/\o.dict=none/\o.data= .seq its n/\its.size<=zAX/\Vals xs its.toList
def SqT(K:zAA)(H:Hp)(a:Addr)(xs:List V):Prop:=
 Rd H a (.tup xs)\/
  ∃(o:Obj) (its:Array Value) (n:Nat),K.lookup a=some o/\o.cls= .type "tuple"/\o.dict=none/\o.data= .seq its n/\its.size<=zAX/\Vals xs its.toList
def aQK:Value->Option V
 | .none=>some .non
 | .bool b=>some (.bl b)
 | .int i _=>some (.int i)
 | .str x _=>some (.str x)
 | .bytes b _=>some (.byt b)
 | .float b _=>some (.flt b)
 | .ref a=>some (.ref a)
 | .type n=>some (.ty n)
 |_=>none
def RelV.abs(r:RelV x u):aQK u=some x:=by
 cases x with
 |non=>cases r;rfl
 |bl _=>cases r;rfl
 |int _=>obtain⟨t,rfl⟩:=r;rfl
 |str _=>obtain⟨t,rfl⟩:=r;rfl
 |byt _=>obtain⟨t,rfl⟩:=r;rfl
 |flt _=>obtain⟨t,rfl⟩:=r;rfl
 |ref _=>cases r;rfl
 |ty _=>cases r;rfl
def RelV.inj(r:RelV x u)(q:RelV y u):x=y:=zAa (r.abs.symm.trans q.abs)
theorem Vals.inj:∀{xs ys:List V} {us:List Value},Vals xs us->Vals ys us->xs=ys
 |_,_,_,.nil,.nil=>rfl
 |_,_,_,.cons r t,.cons r' t'=>by rw[r.inj r',Vals.inj t t']
section
variable{X:Cx}{kX:hZ}{Z:St}{H:Hp}{s:zAG}{a:Addr}{xs ys:List V}
def SqL.of{K:zAA}(h:H a=some (.lst xs)):SqL K H a xs:=.inl (.inl h)
def SqT.of{K:zAA}(h:H a=some (.tup xs)):SqT K H a xs:=.inl (.inl h)
def Inv.list(I:Inv X kX Z H s)(h:SqL X.K H a xs):∃its:List Value,Vals xs its/\PlainL s.heap a its.toArray/\xs.length<=zAX:=by
 rcases h with h|⟨o,its,n,hk,hc,hd,hs,hz,r⟩
 .obtain⟨z,its,n,r,e⟩:=h.ok I.hok
  exact⟨its,r,⟨_,n,e,rfl,rfl,rfl⟩,z⟩
 .refine⟨its.toList,r,⟨o,n,I.kIn a o hk,hc,hd,by simpa using hs⟩,?_⟩
  have e:=r.length;simp only[zAU]at e;lia
def Inv.tuple(I:Inv X kX Z H s)(h:SqT X.K H a xs):∃its:List Value,Vals xs its/\IsTup s.heap a its.toArray/\xs.length<=zAX:=by
 rcases h with h|⟨o,its,n,hk,hc,hd,hs,hz,r⟩
 .obtain⟨z,its,r,p⟩:=h.ok I.hok
  exact⟨its,r,p,z.1⟩
 .refine⟨its.toList,r,⟨o,I.kIn a o hk,hc,n,by simpa using hs⟩,?_⟩
  have e:=r.length;simp only[zAU]at e;lia
def Inv.list_inj(I:Inv X kX Z H s)(h:SqL X.K H a xs)(h':SqL X.K H a ys):xs=ys:=by
 obtain⟨its,r,⟨o,n,e,_,_,d⟩,_⟩:=I.list h;obtain⟨its',r',⟨o',n',e',_,_,d'⟩,_⟩:=I.list h';rw[e]at e';cases e';rw[d]at d';injection d' with d1 _
 have:its=its':=by simpa using congrArg zIy d1
 subst this;exact r.inj r'
def Inv.tuple_inj(I:Inv X kX Z H s)(h:SqT X.K H a xs)(h':SqT X.K H a ys):xs=ys:=by
 obtain⟨its,r,⟨o,e,_,n,d⟩,_⟩:=I.tuple h;obtain⟨its',r',⟨o',e',_,n',d'⟩,_⟩:=I.tuple h';rw[e]at e';cases e';rw[d]at d';injection d' with d1 _
 have:its=its':=by simpa using congrArg zIy d1
 subst this;exact r.inj r'
end
section
variable{X:Cx}{st:Stmt}{rest:List Stmt}{t u:TS}{e:Expr}{te:TE}{pos:Pos}
def aOu:TS:=λ D Z H=>D.nx Z H
def aPu(t u:TS):TS:=λ D Z H=>t {D with nx:=u D} Z H
def aBY:PSs X [] aOu:=λ _ _ Z H _ I h=>zEN ⟨Z,H,I,h⟩
def fX(h1:PS X st t)(h2:PSs X rest u):PSs X (st::rest) (aPu t u):=by
 intro kX s Z H D I h;refine wpAny_execs_cons (thn (h1 kX s Z H {D with nx:=u D} I h) λ f s1 q=>?_);cases f with
 |next=>
  obtain⟨Z',H',I',q⟩:=q;exact h2 kX s1 Z' H' D I' q
 |ret v=>exact q
 |brk=>exact q
 |cont=>exact q
def nM(h1:PS X st t):PSs X [st] t:=by
 intro kX s Z H D I h;refine wpAny_execs_cons (thn (h1 kX s Z H D I h) λ f s1 q=>?_);cases f with
 |next=>exact zEN q
 |ret v=>exact q
 |brk=>exact q
 |cont=>exact q
def Inv.quiet(I:Inv X kX Z H s):interactive X.env=false:=by simp[interactive,I.ok.kind]
def xQ(te:TE):TS:=λ D Z H=>te Z H λ _ H1=>D.nx Z H1
def qJ(he:PE X e te)(hs:zCp e none pos.line X.env=pure false:=by rfl):PS X (.Expr e pos) (xQ te):=by
 intro kX s Z H D I h;exact wpAny_Expr_any (thn (he kX s Z H _ I h) λ v s1 ⟨x,H1,I1,r1,q1⟩=>⟨Z,H1,I1,q1⟩) I.quiet hs
def aMp(te:TE):TS:=λ D Z H=>te Z H D.rt
def yG(he:PE X e te):PS X (.Return (some e) pos) (aMp te):=by
 intro kX s Z H D I h;exact wpAny_Return_some (thn (he kX s Z H _ I h) λ v s1 ⟨x,H1,I1,r1,q1⟩=>⟨x,Z,H1,I1,r1,q1⟩)
def aPz(c:TT)(t u:TS):TS:=λ D Z H=>c Z H λ b H1=>if b=true then t D Z H1 else u D Z H1
def aIS(hc:PT X c tc)(ha:PSs X a t)(hb:PSs X b u):PS X (.If c a b pos) (aPz tc t u):=by
 intro kX s Z H D I h;refine wpAny_If (thn (hc kX s Z H _ I h) λ d s1 ⟨H1,I1,q1⟩=>?_);cases d with
 |true=>exact ha kX s1 Z H1 D I1 q1
 |false=>exact hb kX s1 Z H1 D I1 q1
end
abbrev TG:=V->St->Hp->(St->Hp->Prop)->Prop
abbrev TGs:=List V->St->Hp->(St->Hp->Prop)->Prop
def PG(X:Cx)(target:Expr)(t:TG):Prop:=
 ∀(kX:hZ) (s:zAG) (Z:St) (H:Hp) (v:V) (u:Value) (Q:St->Hp->Prop),Inv X kX Z H s->RelV v u->t v Z H Q->
  wpAny (model X.prog X.w) X.A (zDx target X.env u) (λ _ s'=>∃Z' H',Inv X kX Z' H' s'/\Q Z' H') X.xe s
def PGs(X:Cx)(ts:List Expr)(t:TGs):Prop:=
 ∀(kX:hZ) (s:zAG) (Z:St) (H:Hp) (vs:List V) (us:List Value) (Q:St->Hp->Prop),Inv X kX Z H s->Vals vs us->t vs Z H Q->
  wpAny (model X.prog X.w) X.A (assignInOrder ((zCq ts X.env).map (·.2)) us) (λ _ s'=>∃Z' H',Inv X kX Z' H' s'/\Q Z' H') X.xe s
abbrev aPj:=V->V->V->Hp->(Hp->Prop)->Prop
def aPn(X:Cx)(t:aPj):Prop:=
 ∀(kX:hZ) (s:zAG) (Z:St) (H:Hp) (o i v:V) (ov iv u:Value) (Q:Hp->Prop),Inv X kX Z H s->RelV o ov->RelV i iv->RelV v u->t o i v H Q->
  wpAny (model X.prog X.w) X.A (setItem ov iv u) (λ _ s'=>∃H',Inv X kX Z H' s'/\Q H') X.xe s
abbrev TIp:=V->V->Hp->VK->Prop
def PIp(X:Cx)(op:Operator)(t:TIp):Prop:=
 ∀(kX:hZ) (s:zAG) (Z:St) (H:Hp) (x y:V) (v u:Value) (Q:VK),Inv X kX Z H s->RelV x v->RelV y u->t x y H Q->
  wpAny (model X.prog X.w) X.A (inplaceOp op v u) (EP X kX Z Q) X.xe s
section
variable{X:Cx}{pos:Pos}
def oA(i:Nat):TG:=λ v Z H Q=>Q (Z.set i (some v)) H
def aKn(hN:X.N.Nodup)(hi:X.N[i]? =some x)(hx:Loc X.env.scope x)(hf:X.fn x=true\/X.env.scope.names.lookup x=some .local:=by first|exact .inl rfl|exact .inr rfl|assumption):PG X (.Name x pos) (oA i):=by
 intro kX s Z H v u Q I r h;exact zG7 (sW I hN hi hx r (λ s' I'=>⟨_,H,I',h⟩) hf)
def aOV:TGs:=λ vs Z H Q=>vs=[]/\Q Z H
def aJ3(t:TG)(u:TGs):TGs:=λ vs Z H Q=>∃v r,vs=v::r/\t v Z H λ Z' H'=>u r Z' H' Q
def aKm:PGs X [] aOV:=by
 intro kX s Z H vs us Q I r h;obtain⟨e,h⟩:=h;subst e;cases r;exact assignInOrder_nil ⟨Z,H,I,h⟩
def aIY(h1:PG X e t)(h2:PGs X es u)
  (hs:(zCq (e::es) X.env).map (·.2)=zDx e X.env::(zCq es X.env).map (·.2):=by rfl):PGs X (e::es) (aJ3 t u):=by
 intro kX s Z H vs us Q I r h;obtain⟨v,vr,e1,h⟩:=h;subst e1;cases r with
 |cons r rr=>
  rw[hs];refine assignInOrder_cons (thn (h1 kX s Z H _ _ _ I r h) λ _ s1 ⟨Z1,H1,I1,q1⟩=>?_);exact h2 kX s1 Z1 H1 _ _ Q I1 rr q1
def aLh(K:zAA)(n:Nat)(t:TGs):TG:=λ v Z H Q=>∃a xs,v= .ref a/\SqT K H a xs/\xs.length=n/\t xs Z H Q
def aNQ(hc:X.calm=true)(h:PGs X es t)
  (hn:(zCq es X.env).length=n:=by rfl)(hst:(zCq es X.env).findIdx? (·.1)=none:=by rfl):PG X (.Tuple es k pos) (aLh X.K n t):=by
 intro kX s Z H v u Q I r hw;obtain⟨a,xs,e1,hq,hl,hw⟩:=hw;subst e1;cases r;obtain⟨its,rv,ht,hz⟩:=I.tuple hq;refine assign_Tuple_tuple (I.ok.hd hc) ht (by simp[hn,<-hl,rv.length]) hst λ h' hx=>?_
 have I1:Inv X kX Z H {s with heap:=h'}:=I.kept (t':=s.toks) λ b o e=>hx b o (zA4 (zAT e)) e
 exact h kX _ Z H xs _ Q I1 (by simpa using rv) hw
def aPe(to ti:TE)(t:aPj):TG:=λ v Z H Q=>to Z H λ o H1=>ti Z H1 λ i H2=>t o i v H2 λ H3=>Q Z H3
def aNR(ho:PE X o to)(hi:PE X i ti)(hs:aPn X t)
  (ha:∀v,zDx (.Subscript o i pos) X.env v=(do
   let ov <-zCn [v] (eval o X.env);let iv <-zCn [v,ov] (eval i X.env)
   zG5 pos
   zCn [v,ov,iv] (setItem ov iv v)
   release [v,ov,iv] []):=by intro _;rfl):PG X (.Subscript o i pos) (aPe to ti t):=by
 intro kX s Z H v u Q I r h;rw[ha];refine zAB (zBI (thn (ho kX s Z H _ I h) λ ov s1 ⟨x,H1,I1,r1,q1⟩=>?_));refine zAB (zBI (thn (hi kX s1 Z H1 _ I1 q1) λ iv s2 ⟨y,H2,I2,r2,q2⟩=>?_));refine zAB (zEC (zAB (zBI (thn (hs kX s2 Z H2 x y v ov iv u _ I2 r1 r2 r q2) λ _ s3 ⟨H3,I3,q3⟩=>?_))));exact wpAny_release ⟨Z,H3,I3,q3⟩
def aBD(te:TE)(g:TG):TS:=λ D Z H=>te Z H λ x H1=>g x Z H1 D.nx
def aIT(he:PE X e te)(hg:PG X tg g)(hs:zIG [tg] e pos.line X.env=pure false:=by rfl)(hw:zIF [tg] e X.env=pure none:=by rfl)
  (h1:(zCq [tg] X.env).map (·.2)=[zDx tg X.env]:=by rfl):PS X (.Assign [tg] e pos) (aBD te g):=by
 intro kX s Z H D I h;refine wpAny_Assign_stores (thn (he kX s Z H _ I h) λ v s1 ⟨x,H1,I1,r1,q1⟩=>?_) hs hw;rw[h1];exact thn (hg kX s1 Z H1 x v _ I1 r1 q1) λ _ s2 q=>q
def nO(hN:X.N.Nodup)(hi:X.N[i]? =some x)(hx:Loc X.env.scope x)(he:PE X e te)(hs:zCp e (some (.Name x pos')) pos.line X.env=pure false:=by rfl)(hf:X.fn x=true\/X.env.scope.names.lookup x=some .local:=by first|exact .inl rfl|exact .inr rfl|assumption):
  PS X (.Assign [.Name x pos'] e pos) (aBD te (oA i)):=by
 intro kX s Z H D I h;refine wpAny_Assign_Name (thn (he kX s Z H _ I h) λ v s1 ⟨y,H1,I1,r1,q1⟩=>?_) hs;exact sW I1 hN hi hx r1 (λ s2 I2=>⟨_,H1,I2,q1⟩) hf
def aQB(i:Nat)(te:TE)(ti:TIp):TS:=λ D Z H=>∃x,Z[i]? =some (some x)/\te Z H λ y H1=>ti x y H1 λ z H2=>D.nx (Z.set i (some z)) H2
def aNM(hN:X.N.Nodup)(hi:X.N[i]? =some x)(hx:Loc X.env.scope x)(he:PE X e te)(ho:PIp X op ti)(hf:X.fn x=true\/X.env.scope.names.lookup x=some .local:=by first|exact .inl rfl|exact .inr rfl|assumption):
  PS X (.AugAssign (.Name x pos') op e pos) (aQB i te ti):=by
 intro kX s Z H D I h;obtain⟨v,e1,h⟩:=h;obtain⟨m,hn,hl⟩:=I.loc;have vis:Vis X.env.scope x:=by rcases hx with k|k;exact .inl k;exact .inr (.inl k)
 obtain⟨u,r,l⟩:=hl i x v hi e1 vis;refine wpAny_AugAssign_Name ?_;have go:wpAny (model X.prog X.w) X.A (eval e X.env) (λ w z4=>wpAny (model X.prog X.w) X.A (inplaceOp op u w) (λ r zC=>wpAny (model X.prog X.w) X.A (storeName X.env x r) (λ _=>SP X kX D .next) X.xe zC) X.xe z4) X.xe s:=by
  refine thn (he kX s Z H _ I h) λ w s1 ⟨y,H1,I1,r1,q1⟩=>?_
  refine thn (ho kX s1 Z H1 v y u w _ I1 r r1 q1) λ z s2 ⟨zv,H2,I2,r2,q2⟩=>?_
  exact sW I2 hN hi hx r2 (λ s3 I3=>⟨_,H2,I3,q2⟩) hf
 rcases l with ⟨hk,hm⟩|⟨hk,c,hc,hcell⟩
 .exact zF3 I.ok.kind hk hn hm go
 .rcases hk with hk|hk
  .exact zFo I.ok.kind hk hc hcell go
  .rcases hx with k|k
   .have:X.env.scope.names.lookup x=some .free:=hk
    rw[k]at this;cases this
   .have:X.env.scope.names.lookup x=some .free:=hk
    rw[k]at this;cases this
def ipI(f:Int->Int->Int):TIp:=λ x y H Q=>∃i j,x= .int i/\y= .int j/\Q (.int (f i j)) H
def aOM:PIp X .Add (ipI λ i j=>i+j):=by
 intro kX s Z H x y v u Q I r1 r2 h;obtain⟨i,j,e1,e2,q⟩:=h;subst e1;subst e2;obtain⟨t,rfl⟩:=r1;obtain⟨t',rfl⟩:=r2;exact iadd_int ⟨.int _,H,I.tok _,⟨_,rfl⟩,q⟩
end
section
variable{X:Cx}{pos:Pos}
def aMo(c:TT)(tb:TS):TS:=λ D Z H=>∃W:Nat->St->Hp->Prop,(∃m,W m Z H)/\∀m Z H,W m Z H->
 c Z H λ b H1=>if b=true then∃N:St->Hp->Prop,(∀Z' H',N Z' H'->∃m',m'<m/\W m' Z' H')/\tb {D with nx:=N,ct:=N,bk:=D.nx} Z H1 else D.nx Z H1
def aIO(hp:zI9 (model X.prog X.w) X.A X.env X.xe)(hc:PT X c tc)(hb:PSs X body tb):PS X (.While c body [] pos) (aMo tc tb):=by
 intro kX s Z H D I h;obtain⟨W,⟨m0,w0⟩,turn⟩:=h;refine wpAny_While (codeAny_whileLoop (λ n s'=>∃Z' H',Inv X kX Z' H' s'/\W n Z' H') ?_ m0 ⟨Z,H,I,w0⟩);rintro n s1 ⟨Z1,H1,I1,w1⟩;refine zDB hp (thn (hc kX s1 Z1 H1 _ I1 (turn n Z1 H1 w1)) λ b s2 ⟨H2,I2,q2⟩=>?_);cases b with
 |true=>
  obtain⟨N,hN,q2⟩:=q2;rw[if_pos rfl];refine zDB hp (thn (hb kX s2 Z1 H2 _ I2 q2) λ f s3 q3=>?_);cases f with
  |next=>
   obtain⟨Z3,H3,I3,n3⟩:=q3;obtain⟨m',hm,w3⟩:=hN Z3 H3 n3;exact⟨m',hm,Z3,H3,I3,w3⟩
  |cont=>
   obtain⟨Z3,H3,I3,n3⟩:=q3;obtain⟨m',hm,w3⟩:=hN Z3 H3 n3;exact⟨m',hm,Z3,H3,I3,w3⟩
  |brk=>exact q3
  |ret v=>exact q3
 |false=>
  rw[if_neg zAO];exact zEN ⟨Z1,H2,I2,q2⟩
end
structure It where
 go:Nat->Hp->Prop
 yld:Nat->Hp->V->Hp->Prop
 stop:Nat->Hp->Prop
def sI(X:Cx)(kX:hZ)(H:Hp)(b:Addr):Prop:=
 H b=none/\b≠X.env.locals/\b∉X.fs/\(b∈X.ex\/X.z0.heap.objs.size<=b)/\(∀x c,X.env.cells.lookup x=some c->c≠b)/\∀p∈X.ta++(X.pn++kX),p.1≠b
def Inv.fpOk(I:Inv X kX Z H s)(hb:s.heap.objs.size<=b)(hn:H' b=none):sI X kX H' b:=by
 refine⟨hn,zC3 (zAW I.lt hb),I.nofs hb,.inr (zAl I.sz hb),λ x c e z=>?_,λ p hp z=>?_⟩
 .obtain⟨v,q⟩:=I.cell x c e
  exact absurd (zAW q.lt (by rw[z];exact hb)) (zBh _)
 .exact absurd (zAW (I.pinL hp) (by rw[z];exact hb)) (zBh _)
structure Turn(P:zA2)(w:World)(K:zAA)(tg:Expr)(J:It)(fp:List Addr)(it:Addr)(tn:Nat->Heap->Prop):Prop where
 mem:it∈fp
 obj:∀i h,tn i h->∀b∈fp,∃o,h.get? b=some o/\∀v,o.data≠.cell v
 keep:∀i h h',tn i h->(∀b∈fp,∀o,h.get? b=some o->h'.get? b=some o)->tn i h'
 item:∀(X:Cx),X.prog=P->X.w=w->X.K=K->X.calm=true->∀(i:Nat) (kX:hZ) (s:zAG) (Z:St) (H:Hp) (E:Value->zAG->Prop),Inv X kX Z H s->(∀b∈fp,sI X kX H b)->tn i s.heap->J.go i H->
  wpAny (model P w) X.A (zDy (.ref it)) (λ r s1=>∃u,r=some u/\
   wpAny (model P w) X.A (zD4 tg (.ref it) u) (λ _ s2=>∃x H',Inv X kX Z H' s2/\RelV x u/\J.yld i H x H'/\tn (i+1) s2.heap/\∀b∈fp,H' b=none) E s1) E s
 done:∀(X:Cx),X.prog=P->X.w=w->X.K=K->X.calm=true->∀(i:Nat) (kX:hZ) (s:zAG) (Z:St) (H:Hp) (E:Value->zAG->Prop),Inv X kX Z H s->(∀b∈fp,sI X kX H b)->tn i s.heap->J.stop i H->
  wpAny (model P w) X.A (zDy (.ref it)) (λ r s1=>r=none/\Inv X kX Z H s1) E s
 self:∀(A:zAc) (i:Nat) (s:zAG) (Q:Value->zAG->Prop) (E:Value->zAG->Prop),tn i s.heap->Q (.ref it) s->wpAny (model P w) A (zHJ (.ref it)) Q E s
abbrev TI:=St->Hp->(It->Hp->Prop)->Prop
def PIE(X:Cx)(kX:hZ)(Z:St)(tg:Expr)(R:It->Hp->Prop)(itv:Value)(s2:zAG):Prop:=
 ∃(it:Addr) (fp:List Addr) (tn:Nat->Heap->Prop) (J:It) (H':Hp),itv= .ref it/\Inv X kX Z H' s2/\Turn X.prog X.w X.K tg J fp it tn/\tn 0 s2.heap/\(∀b∈fp,sI X kX H' b)/\R J H'
def PI(X:Cx)(tg iter:Expr)(wi:TI):Prop:=
 ∀(kX:hZ) (s:zAG) (Z:St) (H:Hp) (R:It->Hp->Prop),Inv X kX Z H s->wi Z H R->
  wpAny (model X.prog X.w) X.A (eval iter X.env) (λ v s1=>wpAny (model X.prog X.w) X.A (zHJ v) (PIE X kX Z tg R) X.xe s1) X.xe s
def aJ0(ho:s.heap.get? it=some o)(hc:o.cls= .type n)(hd:o.data= .fields vs)
    (hn:["enumerate","zip","dict_itemiterator","dict_reverseitemiterator","odict_iterator","itertools.zip_longest","itertools.pairwise"].contains n=false)(hQ:Q () s):wpAny M A (zD4 tg (.ref it) u) Q E s:=by
  unfold zD4;cases tg<;>first
    |exact zAF hQ
    | (cases u <;> first
        |exact zAF hQ
        | (refine zAB (wpAny_load ho ?_)
           rw[hc,hd];show wpAny M A (if (["enumerate","zip","dict_itemiterator","dict_reverseitemiterator","odict_iterator","itertools.zip_longest","itertools.pairwise"].contains n&&vs[0]? ==some (zGk _))=true then _ else _) Q E s;rw[if_neg (by intro h;rw[hn,zED]at h;cases h)];exact zAF hQ))
def Itl(K:zAA)(a:Addr):It:=
 ⟨λ i H=>∃xs x,SqL K H a xs/\xs[i]? =some x,λ i H x H'=>H'=H/\∀xs,SqL K H a xs->xs[i]? =some x,λ i H=>∃xs,SqL K H a xs/\xs.length<=i⟩
def Itt(K:zAA)(a:Addr):It:=
 ⟨λ i H=>∃xs x,SqT K H a xs/\xs[i]? =some x,λ i H x H'=>H'=H/\∀xs,SqT K H a xs->xs[i]? =some x,λ i H=>∃xs,SqT K H a xs/\xs.length<=i⟩
def Itr(lo:Int)(n:Nat):It:=⟨λ i _=>i<n,λ i H x H'=>H'=H/\x= .int (lo+i),λ i _=>n<=i⟩
def aGN{P:zA2}{w:World}{K:zAA}{tg:Expr}(a it:Addr):Turn P w K tg (Itl K a) [it] it (λ i h=>h.IsListIter it a i) where
 mem:=by simp
 obj:=λ i h st b hb=>by
  have e:b=it:=by simpa using hb
  subst e;obtain⟨o,e,c,d⟩:=st;exact⟨o,e,λ v z=>by rw[d]at z;cases z⟩
 keep:=λ i h h' st k=>st.at λ o e=>k it (by simp) o e
 item:=by
  intro X hP hw hK hc i kX s Z H E I hf st hg;subst hP hw hK;obtain⟨xs,x,hq,hx⟩:=hg;obtain⟨its,rv,p,hz⟩:=I.list hq;obtain⟨u,hu,ru⟩:=rv.get hx;obtain⟨f0,f1,f2,f3,f4,f5⟩:=hf it (by simp);refine wpAny_pyNext_list_item st p.isList (x:=u) (by simpa using hu) λ h' st' sb=>?_
  have I1:Inv X kX Z H {s with heap:=h'}:=I.turned (t':=s.toks) (λ b o hb e=>(sb.2 b hb).trans e) f0 f1 f3 f4 f5;obtain⟨o,e,c,d⟩:=id st';exact⟨u,rfl,aJ0 (s:={s with heap:=h'}) e c d (by decide) ⟨x,H,I1,ru,⟨rfl,λ ys hy=>by rw[I.list_inj hy hq];exact hx⟩,st',λ b hb=>(hf b hb).1⟩⟩
 done:=by
  intro X hP hw hK hc i kX s Z H E I hf st hg;subst hP hw hK;obtain⟨xs,hq,hx⟩:=hg;obtain⟨its,rv,p,hz⟩:=I.list hq;obtain⟨f0,f1,f2,f3,f4,f5⟩:=hf it (by simp);have hl:=rv.length;exact wpAny_pyNext_list_end (I.ok.hd hc) st p.isList (by simp;lia) λ h' eb=>⟨rfl,I.turned (t':=s.toks) (λ b o hb e=>eb b o hb e) f0 f1 f3 f4 f5⟩
 self:=λ _ _ _ _ _ st h=>wpAny_pyIter_listiter st h
def aDl{P:zA2}{w:World}{K:zAA}{tg:Expr}(a it:Addr):Turn P w K tg (Itt K a) [it] it (λ i h=>h.IsTupleIter it a i) where
 mem:=by simp
 obj:=λ i h st b hb=>by
  have e:b=it:=by simpa using hb
  subst e;obtain⟨o,e,c,d⟩:=st;exact⟨o,e,λ v z=>by rw[d]at z;cases z⟩
 keep:=λ i h h' st k=>st.at λ o e=>k it (by simp) o e
 item:=by
  intro X hP hw hK hc i kX s Z H E I hf st hg;subst hP hw hK;obtain⟨xs,x,hq,hx⟩:=hg;obtain⟨its,rv,p,hz⟩:=I.tuple hq;obtain⟨u,hu,ru⟩:=rv.get hx;obtain⟨f0,f1,f2,f3,f4,f5⟩:=hf it (by simp);refine wpAny_pyNext_tuple_item st (show s.heap.IsTuple a its.toArray from p) (x:=u) (by simpa using hu) λ h' st' sb=>?_
  have I1:Inv X kX Z H {s with heap:=h'}:=I.turned (t':=s.toks) (λ b o hb e=>(sb.2 b hb).trans e) f0 f1 f3 f4 f5;obtain⟨o,e,c,d⟩:=id st';exact⟨u,rfl,aJ0 (s:={s with heap:=h'}) e c d (by decide) ⟨x,H,I1,ru,⟨rfl,λ ys hy=>by rw[I.tuple_inj hy hq];exact hx⟩,st',λ b hb=>(hf b hb).1⟩⟩
 done:=by
  intro X hP hw hK hc i kX s Z H E I hf st hg;subst hP hw hK;obtain⟨xs,hq,hx⟩:=hg;obtain⟨its,rv,p,hz⟩:=I.tuple hq;obtain⟨f0,f1,f2,f3,f4,f5⟩:=hf it (by simp);have hl:=rv.length;exact wpAny_pyNext_tuple_end (I.ok.hd hc) st (show s.heap.IsTuple a its.toArray from p) (by simp;lia) λ h' eb=>⟨rfl,I.turned (t':=s.toks) (λ b o hb e=>eb b o hb e) f0 f1 f3 f4 f5⟩
 self:=λ _ _ _ _ _ st h=>wpAny_pyIter_tupleiter st h
def aDm{P:zA2}{w:World}{K:zAA}{tg:Expr}(it:Addr)(lo:Int)(n:Nat):Turn P w K tg (Itr lo n) [it] it (λ i h=>IsRangeIter h it (lo+(i:Nat)*1) ((n:Int)-(i:Nat)) 1) where
 mem:=by simp
 obj:=λ i h st b hb=>by
  have e:b=it:=by simpa using hb
  subst e;exact⟨_,st,λ v z=>by
   have z':Data.fields _=Data.cell v:=z;cases z'⟩
 keep:=λ i h h' st k=>k it (by simp) _ st
 item:=by
  intro X hP hw hK hc i kX s Z H E I hf st hg;subst hP hw hK;obtain⟨f0,f1,f2,f3,f4,f5⟩:=hf it (by simp);have W:=Walks.range (prog:=X.prog) (w:=X.w) (I.ok.hd hc) it lo 1 n;refine W.item i s _ _ hg st λ v h' tk hv st' kk=>?_
  obtain⟨t,rfl⟩:=hv;have I1:Inv X kX Z H {s with heap:=h',toks:=tk}:=I.turned (λ b o hb e=>kk b o (by simpa using hb) e) f0 f1 f3 f4 f5;refine⟨_,rfl,aJ0 (s:={s with heap:=h',toks:=tk}) (n:="range_iterator") st' rfl rfl (by decide) ⟨.int (lo+i),H,I1,⟨t,?_⟩,⟨rfl,rfl⟩,st',λ b hb=>(hf b hb).1⟩⟩;rw[Int.mul_one]
 done:=by
  intro X hP hw hK hc i kX s Z H E I hf st hg;subst hP hw hK;obtain⟨f0,f1,f2,f3,f4,f5⟩:=hf it (by simp);exact wpAny_pyNext_range_end (I.ok.hd hc) st (by have:n<=i:=hg;lia) λ h' eb=>⟨rfl,I.turned (t':=s.toks) (λ b o hb e=>eb b o hb e) f0 f1 f3 f4 f5⟩
 self:=λ _ _ _ _ _ st h=>wpAny_pyIter_rangeiter st h
section
variable{X:Cx}{tg:Expr}
def aC9{kX:hZ}{Z:St}{H:Hp}{s:zAG}{R:It->Hp->Prop}{E:Value->zAG->Prop}{lo hi:Int}{t u v:Tok}{tk:Nat}(I:Inv X kX Z H s)(h1: -(2^62)<=lo)(h2:lo<2^62)(h3: -(2^62)<=hi)(h4:hi<2^62)
  (q:R (Itr lo (hi-lo).toNat) H):wpAny (model X.prog X.w) X.A (zHJ (.ref s.heap.objs.size)) (PIE X kX Z tg R) E {s with heap:=s.heap.push {cls:=.type "range",data:=.fields #[.int lo t,.int hi u,.int 1 v]},toks:=tk}:=by
 refine wpAny_pyIter_range (IsRange.new ..) (small_one h1 h2 h3 h4) ?_;have I1:Inv X kX Z H {s with heap:=s.heap.push {cls:=.type "range",data:=.fields #[.int lo t,.int hi u,.int 1 v]},toks:=tk}:=I.kept λ b o e=>zAC _ e
 refine⟨(s.heap.push {cls:=.type "range",data:=.fields #[.int lo t,.int hi u,.int 1 v]}).objs.size,[(s.heap.push {cls:=.type "range",data:=.fields #[.int lo t,.int hi u,.int 1 v]}).objs.size],_,_,H,rfl,
  I1.kept (t':=tk) λ b o e=>zAC _ e,aDm _ lo (hi-lo).toNat,?_,λ b hb=>?_,q⟩
 .have e1:lo+((0:Nat):Int)*1=lo:=by simp
  have e2:(((hi-lo).toNat:Nat):Int)-((0:Nat):Int)=zDj lo hi 1:=by rw[rangeSize_one];split<;>lia
  show IsRangeIter _ _ (lo+((0:Nat):Int)*1) ((((hi-lo).toNat:Nat):Int)-((0:Nat):Int)) 1;rw[e1,e2];exact zAL _ rfl
 .have e:b=(s.heap.push {cls:=.type "range",data:=.fields #[.int lo t,.int hi u,.int 1 v]}).objs.size:=by simpa using hb
  subst e;exact I1.fpOk (zAQ _) (I1.hok.fresh (zAQ _))
def aPc(ta:TA):TI:=λ Z H R=>ta Z H λ vs H1=>∃j:Int,vs=[.int j]/\-(2^62)<=j/\j<2^62/\R (Itr 0 j.toNat) H1
def aPb(ta:TA):TI:=λ Z H R=>ta Z H λ vs H1=>∃i j:Int,vs=[.int i,.int j]/\(-(2^62)<=i/\i<2^62/\-(2^62)<=j/\j<2^62)/\R (Itr i (j-i).toNat) H1
def aGd{a:Expr}{ta:TA}{p pos:Pos}(hg:Gl X "range")(hm:X.mg "range"=none)(ha:PA X [a] ta)(hs:zAZ [a] X.env=[(false,eval a X.env)]:=by rfl):PI X tg (.Call (.Name "range" p) [a] [] pos) (aPc ta):=by
 intro kX s Z H R I h;refine Call_ (rR I hg hm zJ2 (zCc (thn (ha pos kX s Z H _ I h) λ us s1 ⟨vs,H1,I1,r1,q1⟩=>?_) hs rfl));obtain⟨j,e,q1,q2,q⟩:=q1;subst e;cases r1 with
 |cons r rr=>
  cases rr;obtain⟨t,rfl⟩:=r;exact call_range_1 (aC9 I1 (by lia) (by lia) q1 q2 (by simpa using q))
def aGc(hg:Gl X "range")(hm:X.mg "range"=none)(ha:PA X [a,b] ta)(hs:zAZ [a,b] X.env=[(false,eval a X.env),(false,eval b X.env)]:=by rfl)(hs2:zAZ [b] X.env=[(false,eval b X.env)]:=by rfl):
  PI X tg (.Call (.Name "range" p) [a,b] [] pos) (aPb ta):=by
 intro kX s Z H R I h;refine Call_ (rR I hg hm zJ2 (zCc (thn (ha pos kX s Z H _ I h) λ us s1 ⟨vs,H1,I1,r1,q1⟩=>?_) (by rw[hs,hs2]) (by rw[hs2];rfl)));obtain⟨i,j,e,⟨q1,q2,q3,q4⟩,q⟩:=q1;subst e;cases r1 with
 |cons r rr=>
  cases rr with
  |cons r' rr=>
   cases rr;obtain⟨t,rfl⟩:=r;obtain⟨t',rfl⟩:=r';exact call_range_2 (aC9 I1 q1 q2 q3 q4 q)
def aQA(wi:TI)(g:TG)(tb:TS):TS:=λ D Z H=>wi Z H λ J H1=>∃W:Nat->Nat->St->Hp->Prop,(∃m,W 0 m Z H1)/\∀i m Z H,W i m Z H->
 (J.stop i H/\D.nx Z H)\/(J.go i H/\∃N:St->Hp->Prop,(∀Z' H',N Z' H'->∃m',m'<m/\W (i+1) m' Z' H')/\∀x H',J.yld i H x H'->g x Z H' λ Z2 H2=>tb {D with nx:=N,ct:=N,bk:=D.nx} Z2 H2)
def ut(fp:List Addr)(h:Heap):hZ:=fp.filterMap λ b=>(h.get? b).map λ o=>(b,o)
def nT(hb:b∈fp)(e:h.get? b=some o):(b,o)∈ut fp h:=zBp.mpr ⟨b,hb,by rw[e];rfl⟩
def aAT(hp:p∈ut fp h):p.1∈fp/\h.get? p.1=some p.2:=by
 obtain⟨b,hb,e⟩:=zBp.mp hp;cases q:h.get? b with
 |none=>rw[q]at e;cases e
 |some o=>
  rw[q]at e;have e':(b,o)=p:=zAa e;subst e';exact⟨hb,q⟩
def Inv.pinned(I:Inv X kX Z H s)(hf:∀b∈fp,sI X kX H b)(ho:∀b∈fp,∃o,s.heap.get? b=some o/\∀v,o.data≠.cell v):Inv X (kX++ut fp s.heap) Z H s:=
 I.pins_of (λ p hp=>(zAd.mp hp).elim (λ z=>I.pin p (zA9 _ z)) λ z=>by
  obtain⟨hb,e⟩:=aAT z;obtain⟨f0,f1,f2,_⟩:=hf p.1 hb;obtain⟨o,e',d⟩:=ho p.1 hb;rw[e]at e';cases e';exact⟨e,f0,f1,f2,d⟩) λ q hq p hp=>(zAd.mp hq).elim (λ z=>(I.tab p hp).2.2.2.1 q (zA9 _ z)) λ z=>((hf q.1 (aAT z).1).2.2.2.2.2 p (zA7 _ hp)).symm
def Inv.unpinned(I:Inv X (kX++pl) Z H s):Inv X kX Z H s:=I.pins_of (λ p hp=>I.pin p (zA9 _ (zA7 _ hp))) λ q hq p hp=>(I.tab p hp).2.2.2.1 q (zA9 _ (zA7 _ hq))
def aNL(hp:zI9 (model X.prog X.w) X.A X.env X.xe)(hc:X.calm=true)(hi:PI X tg iter wi)(hg:PG X tg g)(hb:PSs X body tb)
  (hs:∀x,zCH iter X.env x=pure x:=by intro _;rfl):PS X (.For tg iter body [] pos) (aQA wi g tb):=by
 intro kX s Z H D I h;refine wpAny_For (thn (hi kX s Z H _ I h) λ v s1 h1=>thn h1 λ itv s2 h2=>?_) hs;obtain⟨it,fp,tn,J,H2,e,I2,T,st2,f2,W,⟨m0,w0⟩,turn⟩:=h2;subst e;have aT:∀{H':Hp},(∀b∈fp,H' b=none)->∀b∈fp,sI X kX H' b:=λ hn b hb=>⟨hn b hb,(f2 b hb).2⟩
 refine codeAny_forLoop_any (λ n s'=>∃i Z' H',Inv X kX Z' H' s'/\tn i s'.heap/\(∀b∈fp,H' b=none)/\W i n Z' H') ?_ m0 ⟨0,Z,H2,I2,st2,λ b hb=>(f2 b hb).1,w0⟩;rintro n s3 ⟨i,Z3,H3,I3,st3,fr3,w3⟩;rcases turn i n Z3 H3 w3 with ⟨stop,qn⟩|⟨go,N,hN,step⟩
 .refine zDB hp (thn (T.done X rfl rfl rfl hc i kX s3 Z3 H3 X.xe I3 (aT fr3) st3 stop) λ r s4 ⟨hr,I4⟩=>?_)
  subst hr;exact zEN ⟨Z3,H3,I4,qn⟩
 .refine zDB hp (thn (T.item X rfl rfl rfl hc i kX s3 Z3 H3 X.xe I3 (aT fr3) st3 go) λ r s4 ⟨u,hr,h4⟩=>?_)
  subst hr;refine zDB hp (thn h4 λ _ s5 ⟨x,H5,I5,r5,y5,st5,fr5⟩=>?_);have I5':=I5.pinned (aT fr5) (T.obj _ _ st5);refine zDB hp (thn (hg _ s5 Z3 H5 x u _ I5' r5 (step x H5 y5)) λ _ s6 ⟨Z6,H6,I6,q6⟩=>?_);refine zDB hp (thn (hb _ s6 Z6 H6 _ I6 q6) λ f s7 q7=>?_);have again:∀{Z7:St} {H7:Hp},Inv X (kX++ut fp s5.heap) Z7 H7 s7->N Z7 H7->∃m,m<n/\∃i Z' H',Inv X kX Z' H' s7/\tn i s7.heap/\(∀b∈fp,H' b=none)/\W i m Z' H':=λ{Z7 H7} I7 n7=>by
   obtain⟨m',hm,w7⟩:=hN Z7 H7 n7;refine⟨m',hm,i+1,Z7,H7,I7.unpinned,T.keep _ _ _ st5 λ b hb o e=>(I7.pin (b,o) (zA9 _ (zA9 _ (nT hb e)))).1,λ b hb=>?_,w7⟩;obtain⟨o,e,d⟩:=T.obj _ _ st5 b hb;exact(I7.pin (b,o) (zA9 _ (zA9 _ (nT hb e)))).2.1
  cases f with
  |next=>obtain⟨Z7,H7,I7,n7⟩:=q7;exact again I7 n7
  |cont=>obtain⟨Z7,H7,I7,n7⟩:=q7;exact again I7 n7
  |brk=>obtain⟨Z7,H7,I7,q7⟩:=q7;exact⟨Z7,H7,I7.unpinned,q7⟩
  |ret v=>obtain⟨x7,Z7,H7,I7,r7,q7⟩:=q7;exact⟨x7,Z7,H7,I7.unpinned,r7,q7⟩
end
abbrev R2:=V->V->Hp->VK->Prop
def OpR(X:Cx)(f:Value->Value->Sem Value)(r:R2):Prop:=
 ∀(kX:hZ) (s:zAG) (Z:St) (H:Hp) (x y:V) (v u:Value) (Q:VK),Inv X kX Z H s->RelV x v->RelV y u->r x y H Q->
  wpAny (model X.prog X.w) X.A (f v u) (EP X kX Z Q) X.xe s
def UnR(X:Cx)(f:Value->Sem Value)(r:V->Hp->VK->Prop):Prop:=
 ∀(kX:hZ) (s:zAG) (Z:St) (H:Hp) (x:V) (v:Value) (Q:VK),Inv X kX Z H s->RelV x v->r x H Q->
  wpAny (model X.prog X.w) X.A (f v) (EP X kX Z Q) X.xe s
def cg(X:Cx)(f:Value)(r:List V->Hp->VK->Prop):Prop:=
 ∀(kX:hZ) (s:zAG) (Z:St) (H:Hp) (xs:List V) (us:List Value) (Q:VK),Inv X kX Z H s->Vals xs us->r xs H Q->
  wpAny (model X.prog X.w) X.A (call f us) (EP X kX Z Q) X.xe s
def aQL(X:Cx)(r:V->Hp->(Bool->Hp->Prop)->Prop):Prop:=
 ∀(kX:hZ) (s:zAG) (Z:St) (H:Hp) (x:V) (v:Value) (Q:Bool->Hp->Prop),Inv X kX Z H s->RelV x v->r x H Q->
  wpAny (model X.prog X.w) X.A (truthy v) (TP X kX Z Q) X.xe s
def tOp(r:R2)(ta tb:TE):TE:=λ Z H Q=>ta Z H λ x H1=>tb Z H1 λ y H2=>r x y H2 Q
def tUn(r:V->Hp->VK->Prop)(ta:TE):TE:=λ Z H Q=>ta Z H λ x H1=>r x H1 Q
def rI(C:Int->Int->Prop)(g:Int->Int->V):R2:=λ x y H Q=>∃i j,x= .int i/\y= .int j/\C i j/\Q (g i j) H
def rI0(g:Int->Int->V):R2:=λ x y H Q=>∃i j,x= .int i/\y= .int j/\Q (g i j) H
def rU(g:Int->V):V->Hp->VK->Prop:=λ x H Q=>∃i,x= .int i/\Q (g i) H
section
variable{X:Cx}{a b:Expr}{ta tb:TE}{pos:Pos}
def aO9(ha:PE X a ta)(hb:PE X b tb){kX:hZ}{s:zAG}{Z:St}{H:Hp}{R:V->V->Hp->Prop}(I:Inv X kX Z H s)
  (h:ta Z H λ x H1=>tb Z H1 λ y H2=>R x y H2){Q:Value->zAG->Prop}{f:Value->Value->Sem Value}
  (hf:∀v u s2 x y H2,Inv X kX Z H2 s2->RelV x v->RelV y u->R x y H2->wpAny (model X.prog X.w) X.A (f v u) Q X.xe s2):
  wpAny (model X.prog X.w) X.A (eval a X.env) (λ v zI=>wpAny (model X.prog X.w) X.A (eval b X.env) (λ u z4=>wpAny (model X.prog X.w) X.A (f v u) Q X.xe z4) X.xe zI) X.xe s:=by
 refine thn (ha kX s Z H _ I h) λ v s1 ⟨x,H1,I1,r1,q1⟩=>?_
 refine thn (hb kX s1 Z H1 _ I1 q1) λ u s2 ⟨y,H2,I2,r2,q2⟩=>?_
 exact hf v u s2 x y H2 I2 r1 r2 q2
def aI1{op:Operator}{r:R2}(ho:OpR X (zCe op) r)(ha:PE X a ta)(hb:PE X b tb):PE X (.BinOp a op b pos) (tOp r ta tb):=by
 intro kX s Z H Q I h;exact wpAny_BinOp (aO9 ha hb I h λ v u s2 x y H2 I2 rx ry q=>ho kX s2 Z H2 x y v u Q I2 rx ry q)
def aMX(ho:UnR X (unaryOp op) r)(ha:PE X a ta):PE X (.UnaryOp op a pos) (tUn r ta):=by
 intro kX s Z H Q I h;exact UnaryOp_ (thn (ha kX s Z H _ I h) λ v s1 ⟨x,H1,I1,r1,q1⟩=>ho kX s1 Z H1 x v Q I1 r1 q1)
def opI{f:Value->Value->Sem Value}{C:Int->Int->Prop}{g:Int->Int->Int}
  (rule:∀(i j:Int) (t u:Tok) (s:zAG) (Q:Value->zAG->Prop) (E:Value->zAG->Prop),C i j->Q (.int (g i j) s.toks) {s with toks:=s.toks+1}->wpAny (model X.prog X.w) X.A (f (.int i t) (.int j u)) Q E s):
  OpR X f (rI C λ i j=>.int (g i j)):=by
 intro kX s Z H x y v u Q I rx ry h;obtain⟨i,j,rfl,rfl,hc,q⟩:=h;obtain⟨t,rfl⟩:=rx;obtain⟨t',rfl⟩:=ry;exact rule i j t t' s _ _ hc ⟨.int (g i j),H,I.tok _,⟨_,rfl⟩,q⟩
def aPZ{f:Value->Value->Sem Value}{g:Int->Int->Int}
  (rule:∀(i j:Int) (t u:Tok) (s:zAG) (Q:Value->zAG->Prop) (E:Value->zAG->Prop),Q (.int (g i j) s.toks) {s with toks:=s.toks+1}->wpAny (model X.prog X.w) X.A (f (.int i t) (.int j u)) Q E s):
  OpR X f (rI0 λ i j=>.int (g i j)):=by
 intro kX s Z H x y v u Q I rx ry h;obtain⟨i,j,rfl,rfl,q⟩:=h;obtain⟨t,rfl⟩:=rx;obtain⟨t',rfl⟩:=ry;exact rule i j t t' s _ _ ⟨.int (g i j),H,I.tok _,⟨_,rfl⟩,q⟩
def aLG{f:Value->Value->Sem Value}{g:Int->Int->Bool}
  (rule:∀(i j:Int) (t u:Tok) (s:zAG) (Q:Value->zAG->Prop) (E:Value->zAG->Prop),Q (.bool (g i j)) s->wpAny (model X.prog X.w) X.A (f (.int i t) (.int j u)) Q E s):
  OpR X f (rI0 λ i j=>.bl (g i j)):=by
 intro kX s Z H x y v u Q I rx ry h;obtain⟨i,j,rfl,rfl,q⟩:=h;obtain⟨t,rfl⟩:=rx;obtain⟨t',rfl⟩:=ry;exact rule i j t t' s _ _ ⟨.bl (g i j),H,I,rfl,q⟩
def aPq(i j:Int):Prop:=0<j/\j<1073741824
def aQN(i j:Int):Prop:=0<=j/\j<=1000000/\i.natAbs<2^64
def aMI(i j:Int):Prop:=(-(2^64)<i/\i<2^64)\/(-(2^64)<j/\j<2^64)
def aMI.ok(h:aMI i j):IntMulOk i j:=by
 rcases h with ⟨h1,h2⟩|⟨h1,h2⟩
 .exact .of_left (intBits_le_64 h1 h2)
 .exact .of_right (intBits_le_64 h1 h2)
def aNr:OpR X (zCe .Add) (rI0 λ i j=>.int (i+j)):=aPZ λ _ _ _ _ _ _ _ q=>add_int q
def aNb:OpR X (zCe .Sub) (rI0 λ i j=>.int (i-j)):=aPZ λ _ _ _ _ _ _ _ q=>sub_int q
def aNf:OpR X (zCe .Mult) (rI aMI λ i j=>.int (i*j)):=opI λ _ _ _ _ _ _ _ hc q=>mul_int q hc.ok
def aLC:OpR X (zCe .FloorDiv) (rI aPq λ i j=>.int (i / j)):=opI λ i j _ _ _ _ _ hc q=>by
 have h1:(0:Int)<j:=hc.1;have h2:j<1073741824:=hc.2;exact floordiv_int (by lia) (by rw[Int.fdiv_eq_ediv_of_nonneg i (by lia)];exact q) (.inl (PyProof.noPylong_small (by lia)))
def aNg:OpR X (zCe .Mod) (rI (λ _ j=>0<j) λ i j=>.int (i%j)):=opI λ i j _ _ _ _ _ hc q=>by
 have h1:(0:Int)<j:=hc;exact mod_int' (by lia) (by rw[Int.fmod_eq_emod_of_nonneg i (by lia)];exact q)
def aNd:OpR X (zCe .Pow) (rI aQN λ i j=>.int (i^j.toNat)):=opI λ _ _ _ _ _ _ _ hc q=>pow_int_small hc.1 hc.2.1 hc.2.2 q
def unI{f:Value->Sem Value}{g:Int->Int}
  (rule:∀(i:Int) (t:Tok) (s:zAG) (Q:Value->zAG->Prop) (E:Value->zAG->Prop),Q (.int (g i) s.toks) {s with toks:=s.toks+1}->wpAny (model X.prog X.w) X.A (f (.int i t)) Q E s):
  UnR X f (rU λ i=>.int (g i)):=by
 intro kX s Z H x v Q I rx h;obtain⟨i,rfl,q⟩:=h;obtain⟨t,rfl⟩:=rx;exact rule i t s _ _ ⟨.int (g i),H,I.tok _,⟨_,rfl⟩,q⟩
def aH8:UnR X (unaryOp .USub) (rU λ i=>.int (-i)):=unI λ _ _ _ _ _ q=>neg_int q
end
section
variable{X:Cx}{a b c:Expr}{ta tb tc:TE}{pos:Pos}
def aJ8(I:Inv X kX Z H s)(q:Q (.bl k) H)(e:k=k'):EP X kX Z Q (.bool k') s:=by
 subst e;exact⟨.bl k,H,I,rfl,q⟩
def aPW:OpR X (zAw .Lt) (rI0 λ i j=>.bl (decide (i<j))):=aLG λ _ _ _ _ _ _ _ q=>lt_int q
def aPX:OpR X (zAw .LtE) (rI0 λ i j=>.bl (decide (i<=j))):=aLG λ _ _ _ _ _ _ _ q=>le_int q
def aMZ:OpR X (zAw .Gt) (rI0 λ i j=>.bl (decide (j<i))):=aLG λ _ _ _ _ _ _ _ q=>gt_int q
def aPY:OpR X (zAw .GtE) (rI0 λ i j=>.bl (decide (j<=i))):=aLG λ _ _ _ _ _ _ _ q=>ge_int q
def aNm:OpR X (zAw .Is) (λ x y H Q=>y= .non/\Q (.bl (decide (x= .non))) H):=by
 intro kX s Z H x y v u Q I rx ry h;obtain⟨rfl,q⟩:=h;cases ry;refine is_none_gen (aJ8 I q ?_);cases x<;>first
  |(cases rx;rfl)
  |(obtain⟨t,rfl⟩:=rx;rfl)
def isObj:HO->Bool
 | .lst _=>true
 | .ins _ _ _=>true
 |_=>false
def OpR.or(h:OpR X f r)(h':OpR X f r'):OpR X f (λ x y H Q=>r x y H Q\/r' x y H Q):=by
 intro kX s Z H x y v u Q I rx ry q;rcases q with q|q
 .exact h kX s Z H x y v u Q I rx ry q
 .exact h' kX s Z H x y v u Q I rx ry q
def aIi(b:Expr)(h:op≠.In:=by decide)(h2:op≠.NotIn:=by decide):zBm op b=false:=by
 have e1:(op==CmpOp.In)=false:=by cases op<;>first|rfl|exact absurd rfl h
 have e2:(op==zJP)=false:=by cases op<;>first|rfl|exact absurd rfl h2
 cases b<;>simp[zBm,e1,e2]
def aKq{op:CmpOp}{r:R2}(ho:OpR X (zAw op) r)(ha:PE X a ta)(hb:PE X b tb)(hm:zBm op b=false):PE X (.Compare a [op] [b] pos) (tOp r ta tb):=by
 intro kX s Z H Q I h;exact wpAny_Compare1 (aO9 ha hb I h λ v u s2 x y H2 I2 rx ry q=>ho kX s2 Z H2 x y v u Q I2 rx ry q) hm
def aML(t:TE):TT:=λ Z H Q=>t Z H λ x H'=>∃k,x= .bl k/\Q k H'
def aKj(ho:OpR X (zAw op) r)(ha:PE X a ta)(hb:PE X b tb)(hm:zBm op b=false):PT X (.Compare a [op] [b] pos) (aML (tOp r ta tb)):=by
 intro kX s Z H Q I h;refine zIm (thn (ha kX s Z H _ I h) λ v s1 ⟨x,H1,I1,r1,q1⟩=>thn (hb kX s1 Z H1 _ I1 q1) λ u s2 ⟨y,H2,I2,r2,q2⟩=>
  thn (ho kX s2 Z H2 x y v u _ I2 r1 r2 q2) λ c s3 ⟨z,H3,I3,r3,k,e,q3⟩=>?_) hm
 subst e;cases r3;exact zBo ⟨H3,I3,q3⟩
def aHd(r r':R2)(ta tb tc:TE):TE:=λ Z H Q=>ta Z H λ x H1=>tb Z H1 λ y H2=>r x y H2 λ z H3=>∃k,z= .bl k/\
 (if k=true then tc Z H3 λ w' H4=>r' y w' H4 Q else Q (.bl false) H3)
def aI3(ho:OpR X (zAw op) r)(ho':OpR X (zAw op') r')(ha:PE X a ta)(hb:PE X b tb)(hc:PE X c tc)
  (hm:zIh [op,op'] [b,c]=false:=by with_unfolding_all rfl):PE X (.Compare a [op,op'] [b,c] pos) (aHd r r' ta tb tc):=by
 intro kX s Z H Q I h;refine Compare_chain (thn (ha kX s Z H _ I h) λ v s1 ⟨x,H1,I1,r1,q1⟩=>chain_link (thn (hb kX s1 Z H1 _ I1 q1) λ u s2 ⟨y,H2,I2,r2,q2⟩=>
  thn (ho kX s2 Z H2 x y v u _ I2 r1 r2 q2) λ d s3 ⟨z,H3,I3,r3,k,e,q3⟩=>?_)) hm
 subst e;cases r3;refine zBo ?_;cases k with
 |false=>exact ite_ff ⟨.bl false,H3,I3,rfl,q3⟩
 |true=>exact ite_tt (chain_last (thn (hc kX s3 Z H3 _ I3 q3) λ w' s4 ⟨z',H4,I4,r4,q4⟩=>ho' kX s4 Z H4 y z' u w' Q I4 r2 r4 q4))
def aOf(K:zAA)(x:V)(H:Hp)(k:Bool):Prop:=
 match x with
 | .non=>k=false
 | .bl b=>k=b
 | .int i=>k=(i !=0)
 | .str y=>y.length<=zAX/\k=((y.length:Int)!=0)
 | .byt y=>y.size<=zAX/\k=((y.size:Int)!=0)
 | .ref p=>(∃xs,SqL K H p xs/\k= !xs.isEmpty)\/(∃xs,SqT K H p xs/\k= !xs.isEmpty)\/∃kvs,H p=some (.dK kvs)/\k= !kvs.isEmpty
 |_=>False
def aEn(r:KV kvs vs):(!vs.isEmpty)= !kvs.isEmpty:=by
 cases r<;>rfl
def yu(r:Vals xs its):(!its.toArray.isEmpty)= !xs.isEmpty:=by
 cases r<;>simp
def vA:(zAX:Nat)<2^63:=by rw[zCO];decide
def aMl:aQL X (λ x H Q=>∃k,aOf X.K x H k/\Q k H):=by
 intro kX s Z H x v Q I rx h;obtain⟨k,e,q⟩:=h;have hl:=vA;have hs:zAX=16777216:=zCO;cases x with
 |non=>
  cases rx;have e':k=false:=e;subst e';exact truthy_none ⟨H,I,q⟩
 |bl b=>
  cases rx;have e':k=b:=e;subst e';exact zBo ⟨H,I,q⟩
 |int i=>
  obtain⟨t,rfl⟩:=rx;have e':k=(i !=0):=e;subst e';exact PySem.P.truthy_int ⟨H,I,q⟩
 |str y=>
  obtain⟨t,rfl⟩:=rx;obtain⟨hy,e'⟩:y.length<=zAX/\k=((y.length:Int)!=0):=e;subst e';exact PySem.P.truthy_str (by lia) ⟨H,I.tok _,q⟩
 |byt y=>
  obtain⟨t,rfl⟩:=rx;obtain⟨hy,e'⟩:y.size<=zAX/\k=((y.size:Int)!=0):=e;subst e';exact PySem.W.truthy_bytes (by lia) ⟨H,I.tok _,q⟩
 |ref p=>
  cases rx;have e':(∃xs,SqL X.K H p xs/\k= !xs.isEmpty)\/(∃xs,SqT X.K H p xs/\k= !xs.isEmpty)\/∃kvs,H p=some (.dK kvs)/\k= !kvs.isEmpty:=e
  rcases e' with ⟨xs,hx,e'⟩|⟨xs,hx,e'⟩|⟨kvs,hx,e'⟩
  .subst e'
   obtain⟨its,r,pl,hz⟩:=I.list hx;have kK:=r.length;exact wpAny_truthy_list pl.isList (by simp only[zAP];lia) ⟨H,I.tok _,by rw[yu r];exact q⟩
  .subst e'
   obtain⟨its,r,pl,hz⟩:=I.tuple hx;have kK:=r.length;exact truthy_tuple pl (by simp only[zAP];lia) ⟨H,I.tok _,by rw[yu r];exact q⟩
  .subst e'
   obtain⟨hz,hS,vs,r,m⟩:kvs.length<=zAX/\(p==zDf)=false/\∃vs,KV kvs vs/\s.heap.DictOf (aBd X.prog X.w) p vs:=I.hok p _ hx
   have kK:kvs.length=vs.length:=zGh r;exact wpAny_truthy_dict hS m (by lia) ⟨H,I.tok _,by rw[aEn r];exact q⟩
 |_=>exact(show False from e).elim
def aIM(ha:PE X a ta)(he:∀whole,isTrue a X.env whole=(do let v <-whole;zG5 a.pos;zCn [v] (truthy v))):
  PT X a (λ Z H Q=>ta Z H λ x H'=>∃k,aOf X.K x H' k/\Q k H'):=by
 intro kX s Z H Q I h;exact isTrue_plain (thn (ha kX s Z H _ I h) λ v s1 ⟨x,H1,I1,r1,q1⟩=>aMl kX s1 Z H1 x v Q I1 r1 q1) (he _)
def vals1(r:Vals [x] us):∃u,us=[u]/\RelV x u:=by
 cases r with
 |cons r1 r2=>cases r2;exact⟨_,rfl,r1⟩
def vals2(r:Vals [x,y] us):∃u w',us=[u,w']/\RelV x u/\RelV y w':=by
 cases r with
 |cons r1 r2=>
  cases r2 with
  |cons r3 r4=>cases r4;exact⟨_,_,rfl,r1,r3⟩
def aHU(hc:X.calm=true):cg X (.builtin "max") (λ xs H Q=>∃i j,xs=[.int i,.int j]/\Q (.int (if j>i then j else i)) H):=by
 intro kX s Z H xs us Q I r h;obtain⟨i,j,rfl,q⟩:=h;obtain⟨u,w',rfl,⟨t,rfl⟩,⟨t',rfl⟩⟩:=vals2 r;refine max_two_ints (I.ok.hd hc) λ h' tk k=>⟨_,H,I.kept k,?_,q⟩
 by_cases hj:j>i
 .rw[if_pos hj,if_pos hj];exact⟨_,rfl⟩
 .rw[if_neg hj,if_neg hj];exact⟨_,rfl⟩
def aHT(hc:X.calm=true):cg X (.builtin "min") (λ xs H Q=>∃i j,xs=[.int i,.int j]/\Q (.int (if j<i then j else i)) H):=by
 intro kX s Z H xs us Q I r h;obtain⟨i,j,rfl,q⟩:=h;obtain⟨u,w',rfl,⟨t,rfl⟩,⟨t',rfl⟩⟩:=vals2 r;refine min_two_ints (I.ok.hd hc) λ h' tk k=>⟨_,H,I.kept k,?_,q⟩
 by_cases hj:j<i
 .rw[if_pos hj,if_pos hj];exact⟨_,rfl⟩
 .rw[if_neg hj,if_neg hj];exact⟨_,rfl⟩
def aBx:cg X (.type "str") (λ xs H Q=>∃i,xs=[.int i]/\i.natAbs.log2<1920/\Q (.str (zEB i)) H):=by
 intro kX s Z H xs us Q I r h;obtain⟨i,rfl,hz,q⟩:=h;obtain⟨u,rfl,t,rfl⟩:=vals1 r;exact PySem.P.str_of_int hz ⟨.str _,H,I.tok _,⟨_,rfl⟩,q⟩
end
structure aMD(h:Heap)(x dx C:Addr)(mA:Str->Option Value):Prop where
 obj:h.get? x=some (zC5 C dx)
 ns:h.Ns1 dx mA
 ne:dx≠x
def aGq{h:Heap}{dx:Addr}{mA:Str->Option Value}(n:h.Ns1 dx mA):∃od,h.get? dx=some od/\∀name,zEm name od=some (mA name):=by
 obtain⟨o,es,ep,ho,hd,hk,_,hm⟩:=n;refine⟨o,ho,λ name=>?_⟩;have e:=hm name;unfold nsFind findBy at e;rw[<-Array.find?_toList]at e;unfold zEm;rw[hd];dsimp only;split
 .rename_i y q
  rw[q]at e;exact congrArg some e
 .rename_i q
  rw[q]at e;have a:es.toList.any (·.refKey)=false:=by
   rw[zF5];intro y hy;obtain⟨z,t,hkey⟩:=hk y (Array.mem_toList_iff.mp hy);simp[DictEntry.refKey,hkey]
  have a':¬es.toList.any (·.refKey)=true:=by rw[a];exact zAO
  rw[if_neg a'];exact congrArg some e
def aMD.look(I:aMD h x dx C mA):∃od,zIR h x (zC5 C dx) C (some od)/\∀name,zEm name od=some (mA name):=
 let⟨od,ho,hl⟩:=aGq I.ns
 ⟨od,⟨I.obj,rfl,rfl,ho⟩,hl⟩
section
variable{prog:zA2}{w:World}{A:zAc}{E:Value->zAG->Prop}{s:zAG}{K:zAA}{x dx C f:Addr}{mA:Str->Option Value}{name:Str}
def aJ2(X:K.In s.heap)(I:aMD s.heap x dx C mA)(hg:zF1 K C name=true)
  (hf:zB2 K (.ref C) name=some (some (.ref f)))(ht:zIr K (.ref f)=true)(hv:mA name=none)(h:Q (.ref f,[.ref x]) s):
  wpAny (model prog w) A (getMethod (.ref x) name pl) Q E s:=by
 obtain⟨od,J,hl⟩:=I.look;exact PySem.W.method_fn X J (zHF hg).1 (zHF hg).2 hf (beq_iff_eq.mp ht) (by show(zEm name od).map (·.isSome)=some false;rw[hl,hv];rfl) h
def make_map(X:K.In s.heap)(hm:PySem.W.makesIn K C=true)
  (hi:zB2 K (.ref C) "__init__"=some (some (.ref f)))(hf:PySem.W.typeIn K (.ref f)=some (.type "function"))
  (h:zCW (model prog w) (A.under (.builtin "type.__call__" ⟨.ref C::vs,kw⟩)) (.call (.ref f) ⟨.ref (s.heap.objs.size+1)::vs,kw⟩) (PySem.W.InitBack (s.heap.objs.size+1) R)
   {s with heap:=(s.heap.push zBt).push (zC5 C s.heap.objs.size)}):
  zCW (model prog w) A (.call (.ref C) ⟨vs,kw⟩) R s:=by
 obtain⟨hh,g,d,t,os⟩:=s;exact PySem.W.make_core (PySem.W.makes_of X hm) (zD8 X hi) (λ self=>PySem.W.bind_fn X self hf) (.inl rfl) h
end
def aH0.none_of(r:aH0 none o):o=none:=by
 cases o with
 |none=>rfl
 |some u=>exact(show False from r).elim
section
variable{P:zA2}{w:World}{H:Hp}{h:Heap}{a C dx:Addr}{fs:List (Str×V)}
def wj(hok:HOk P w H h)(e:H a=some (.ins C dx fs)):∃mA,aMD h a dx C mA/\(∀f,aH0 (fs.lookup f) (mA f))/\zJE mA (fs.map (·.1))/\fs.length<=1000/\H dx=some (.own a):=by
 obtain⟨d,z,ne,ob,mA,n,r,q⟩:=(show cZ P w H h a (.ins C dx fs)from hok a _ e);exact⟨mA,⟨ob,n,ne⟩,r,q,z,d⟩
end
structure Cls(K:zAA)(C:Addr):Prop where
 pg:zF1 K C Str.empty=true
 hd:PySem.W.hasDictIn K C=true
 po:PySem.W.plainOver K C=true
 sa:zB2 K (.ref C) "__setattr__"=some (some (.builtin "object.__setattr__"))
def Cls.get{K:zAA}{C:Addr}(c:Cls K C)(f:Str):zF1 K C f=true:=c.pg
def aOh(K:zAA)(C:Addr)(f:Str):Prop:=zB2 K (.ref C) f=some none
structure Meth(K:zAA)(C:Addr)(m:Str)(f:Addr):Prop where
 at_:zB2 K (.ref C) m=some (some (.ref f))
 fn:zIr K (.ref f)=true
 kp:zBx K (.ref f)=true
section
variable{X:Cx}{kX:hZ}{Z:St}{H:Hp}{s:zAG}{a C dx:Addr}{fs:List (Str×V)}{A:zAc}{E:Value->zAG->Prop}
def aEr(I:Inv X kX Z H s)(e:H a=some (.ins C dx fs))(c:Cls X.K C)(k:Meth X.K C m g)(l:fs.lookup m=none)
  (h:Q (.ref g,[.ref a]) s):wpAny (model X.prog X.w) A (getMethod (.ref a) m pl) Q E s:=by
 obtain⟨mA,O,r,_,_,_⟩:=wj I.hok e;have hn:mA m=none:=aH0.none_of (by rw[<-l];exact r m);exact aJ2 I.kIn O (c.get m) k.at_ k.fn hn h
def Inv.made(I:Inv X kX Z H s):Inv X kX Z (upd (upd H s.heap.objs.size (.own (s.heap.objs.size+1))) (s.heap.objs.size+1) (.ins C s.heap.objs.size []))
  {s with heap:=(s.heap.push zBt).push (zC5 C s.heap.objs.size)}:=by
 have e1:(s.heap.push zBt).get? s.heap.objs.size=some zBt:=zAL s.heap rfl;have e2:((s.heap.push zBt).push (zC5 C s.heap.objs.size)).get? (s.heap.objs.size+1)=some (zC5 C s.heap.objs.size):=by
  have:=zAL (s.heap.push zBt) (o:=zC5 C s.heap.objs.size) rfl
  rwa [zBB]at this
 have e3:(s.heap.push zBt).Ns s.heap.objs.size (λ _=>none):=⟨zBt,#[],_,e1,rfl,(λ e he=>absurd he (by simp)),λ _=>rfl⟩;have I1:=I.laid (a:=s.heap.objs.size) (o:=.own (s.heap.objs.size+1)) (h':=s.heap.push zBt) (t':=s.toks) (λ b u q=>zAC _ q) (zAQ _) ⟨_,e1⟩;refine I1.laid (a:=s.heap.objs.size+1) (o:=.ins C s.heap.objs.size []) (t':=s.toks) (λ b u q=>zAC _ q) (zH5 (zBB _ _)) ?_;have ne:s.heap.objs.size≠s.heap.objs.size+1:=zA4 (zBs _);refine⟨by rw[aX ne,aZ],zAj _,ne,e2,λ _=>none,(Heap.Ns1.of_empty e3).at λ o q=>zAC _ q,λ _=>zET,λ y hy=>absurd rfl hy⟩
end
def tFld(K:zAA)(ta:TE)(f:Str):TE:=λ Z H Q=>ta Z H λ x H1=>∃a C dx fs v,x= .ref a/\H1 a=some (.ins C dx fs)/\Cls K C/\aOh K C f/\fs.lookup f=some v/\Q v H1
section
variable{X:Cx}{e:Expr}{f:Str}{pos:Pos}
def methcall_of(he:PE X e te)(I:Inv X kX Z H s)
  (h:te Z H λ x H1=>∃a C dx fs g,x= .ref a/\H1 a=some (.ins C dx fs)/\Cls X.K C/\Meth X.K C m g/\fs.lookup m=none/\
   ∀s1,Inv X kX Z H1 s1->wpAny (model X.prog X.w) X.A (callWith pos (.ref g) [.ref a] (zCo pos (zAZ args X.env)) (zGE pos (zEL [] X.env))) Q X.xe s1)
  (ht:eval (.Call (.Attribute e m apos) args [] pos) X.env=(do
   let ov <-eval e X.env
   zG5 apos.atName
   let(f,first) <-zCn [ov] (getMethod ov m pl)
   callWith pos f first (zCo pos (zAZ args X.env)) (zGE pos (zEL [] X.env)))):
  wpAny (model X.prog X.w) X.A (eval (.Call (.Attribute e m apos) args [] pos) X.env) Q X.xe s:=by
 refine PySem.W.methodCall_KW (pl:=pl) (thn (he kX s Z H _ I h) λ u s1 ⟨x,H1,I1,rx,a,C,dx,fs,g,ex,ea,c,k,l,q⟩=>?_) ht;subst ex;obtain rfl:u=zBF a:=rx;exact aEr I1 ea c k l (q s1 I1)
end
section
variable{X:Cx}{kX:hZ}{Z:St}{H:Hp}{s:zAG}{A:zAc}{E:Value->zAG->Prop}{Q:Value->zAG->Prop}{c:Value}{b:Bool}
inductive vP(K:zAA)(H:Hp):V->Value->Prop where
 |non:vP K H .non (.type "NoneType")
 |bl (x:Bool):vP K H (.bl x) (.type "bool")
 |int (i:Int):vP K H (.int i) (.type "int")
 |str (x:Str):vP K H (.str x) (.type "str")
 |flt (x:UInt64):vP K H (.flt x) (.type "float")
 |lst {a:Addr} {xs:List V} (e:H a=some (.lst xs)):vP K H (.ref a) (.type "list")
 |frz {a:Addr} {o:Obj} {xs:List V} (e:H a=some (.frz o (.lst xs))):vP K H (.ref a) (.type "list")
 |tup {a:Addr} {xs:List V} (e:H a=some (.tup xs)):vP K H (.ref a) (.type "tuple")
 |dK {a:Addr} {kvs:List (Key×V)} (e:H a=some (.dK kvs)):vP K H (.ref a) (.type "dict")
 |dT {a:Addr} {kvs:List (List Key×V)} (e:H a=some (.dT kvs)):vP K H (.ref a) (.type "dict")
 |ins {a C dx:Addr} {fs:List (Str×V)} (e:H a=some (.ins C dx fs)) (cl:Cls K C) (ha:zB2 K (.ref C) "__class__"=some (some (.builtin "object.__class__")))
   (hn:PySem.W.specialIn K (.builtin "object.__class__") "__get__"=some (some (.builtin "getset_descriptor.__get__"))) (htk:PySem.W.takesIn K (.builtin "object.__class__")=some true)
   (hm:PySem.W.mroIn K C (.type "object")=some true):vP K H (.ref a) (.ref C)
def aHB(I:Inv X kX Z H s)(rx:RelV x u)(ty:vP X.K H x t)(e:zCJ X.K t c=some b)(h:∀tk,Q (.bool b) {s with toks:=tk}):
  wpAny (model X.prog X.w) A (call (.builtin "isinstance") [u,c]) Q E s:=by
 cases ty with
 |non=>cases (show u=zBb from rx);exact zB1 PySem.W.kitx_none I.kIn zET e (λ z=>nomatch z) h
 |bl y=>cases (show u=zCu y from rx);exact zB1 PySem.W.kitx_bool I.kIn zET e (λ z=>nomatch z) h
 |int i=>obtain⟨t,q⟩:=(show∃t,u=zCz i t from rx);cases q;exact zB1 PySem.W.kitx_int I.kIn zET e (λ z=>nomatch z) h
 |str y=>obtain⟨t,q⟩:=(show∃t,u=zIb y t from rx);cases q;exact zB1 PySem.W.kitx_str I.kIn zET e (λ z=>nomatch z) h
 |flt y=>obtain⟨t,q⟩:=(show∃t,u=zJ0 y t from rx);cases q;exact zB1 PySem.W.kitx_float I.kIn zET e (λ z=>nomatch z) h
 |@lst a xs ea=>
  cases (show u=zBF a from rx);obtain⟨_,_,n,_,h1⟩:=(show cZ X.prog X.w H s.heap a (.lst xs)from I.hok a _ ea);exact zB1 zHa I.kIn ⟨_,h1,rfl⟩ e (λ z=>nomatch z) h
 |@frz a ob xs ea=>
  cases (show u=zBF a from rx);obtain⟨_,_,_,n,_,h1⟩:=(show cZ X.prog X.w H s.heap a (.frz ob (.lst xs))from I.hok a _ ea);exact zB1 zHa I.kIn ⟨_,h1,rfl⟩ e (λ z=>nomatch z) h
 |@tup a xs ea=>
  cases (show u=zBF a from rx);obtain⟨_,_,_,p⟩:=(show cZ X.prog X.w H s.heap a (.tup xs)from I.hok a _ ea);obtain⟨o,h1,h2,_⟩:=p;exact zB1 zHW I.kIn ⟨o,h1,h2⟩ e (λ z=>nomatch z) h
 |@dK a kvs ea=>
  cases (show u=zBF a from rx);obtain⟨_,_,vs,_,p⟩:=(show cZ X.prog X.w H s.heap a (.dK kvs)from I.hok a _ ea);obtain⟨o,es,ep,h1,h2,_⟩:=p;exact zB1 zFJ I.kIn ⟨o,h1,h2.1⟩ e (λ z=>nomatch z) h
 |@dT a kvs ea=>
  cases (show u=zBF a from rx);obtain⟨_,_,xs,_,o,es,ep,h1,h2,_⟩:=(show cZ X.prog X.w H s.heap a (.dT kvs)from I.hok a _ ea);exact zB1 zFJ I.kIn ⟨o,h1,h2.1⟩ e (λ z=>nomatch z) h
 |@ins a C dx fs ea cl ha hn htk hm=>
  cases (show u=zBF a from rx);obtain⟨mA,O,_⟩:=wj I.hok ea;obtain⟨od,J,_⟩:=O.look;exact zB1 (PySem.W.kitx_own (cl.get _) cl.hd ha hn htk hm) I.kIn J e (λ z=>nomatch z) h
end
structure fB(k:Nat)(A:zAc):Prop where
 hd:A.handled=none
 dp:A.depth+3*k+5<zFe
 un:A.units+16*k+200<cLine
def fB.mono(r:fB k A)(h:j<=k):fB j A:=⟨r.hd,by have:=r.dp;lia,by have:=r.un;lia⟩
theorem fB.deeper(r:fB (k+1) A)(env:Env):fB k (A.deeper env):=
 ⟨r.hd,by have:=r.dp;show A.depth+1+3*k+5<_;lia,by have:=r.un;show A.units+3+16*k+200<_;lia⟩
theorem fB.depth(r:fB k A):A.depth<zFe:=by have:=r.dp;lia
theorem fB.units(r:fB k A):A.units+64<cLine:=by have:=r.un;lia
def fB.units0(r:fB k A):A.units<cLine:=by have:=r.un;lia
def oK:TA:=λ _ H Q=>Q [] H
def jA(ta:TE)(tr:TA):TA:=λ Z H Q=>ta Z H λ x H1=>tr Z H1 λ xs H2=>Q (x::xs) H2
section
variable{X:Cx}{e:Expr}{es:List Expr}{te:TE}{t:TA}{pos:Pos}
def cj:PA X [] oK:=λ _ _ _ _ H Q I h=>Calls.spliced_nil ⟨[],H,I,.nil,h⟩
def ak(ha:PE X e te)(hr:PA X es t)(hs:zAZ (e::es) X.env=(false,eval e X.env)::zAZ es X.env:=by rfl):PA X (e::es) (jA te t):=by
 intro pos kX s Z H Q I h;rw[hs];show wpAny _ _ (spliced ((false,eval e X.env)::zCo pos (zAZ es X.env))) _ _ s;refine Calls.spliced_cons (thn (ha kX s Z H _ I h) λ u s1 ⟨x,H1,I1,r1,q1⟩=>?_);exact thn (hr pos kX s1 Z H1 _ I1 q1) λ us s2 ⟨xs,H2,I2,r2,q2⟩=>⟨x::xs,H2,I2,.cons r1 r2,q2⟩
def aPt(t:TA):TE:=λ Z H Q=>t Z H λ xs H1=>xs.length<=zAX/\∀p,H1 p=none->Q (.ref p) (upd H1 p (.tup xs))
def aPx(t:TA):TE:=λ Z H Q=>t Z H λ xs H1=>xs.length<=zAX/\∀p,H1 p=none->Q (.ref p) (upd H1 p (.lst xs))
def aNU{x1}(h:PA X es t):PE X (.Tuple es x1 pos) (aPt t):=by
 intro kX s Z H Q I hq;refine wpAny_Tuple_spliced (thn (h pos kX s Z H _ I hq) λ us s1 ⟨xs,H1,I1,r,z,q⟩=>⟨by rw[<-r.length];exact z,?_⟩);have hf:H1 s1.heap.objs.size=none:=I1.hok.fresh (zAQ _);refine⟨.ref s1.heap.objs.size,upd H1 s1.heap.objs.size (.tup xs),I1.laid (t':=s1.toks) (λ b u e=>zAC _ e) (zAQ _) ?_,rfl,q _ hf⟩;exact⟨⟨z,NoD.push _⟩,us,r,⟨_,zAL _ rfl,rfl,_,rfl⟩⟩
def aNY(h:PA X es t):PE X (.List es pos) (aPx t):=by
 intro kX s Z H Q I hq;refine wpAny_List_spliced (thn (h pos kX s Z H _ I hq) λ us s1 ⟨xs,H1,I1,r,z,q⟩=>⟨by rw[<-r.length];exact z,?_⟩);have hf:H1 s1.heap.objs.size=none:=I1.hok.fresh (zAQ _);refine⟨.ref s1.heap.objs.size,upd H1 s1.heap.objs.size (.lst xs),I1.laid (t':=s1.toks) (λ b u e=>zAC _ e) (zAQ _) ?_,rfl,q _ hf⟩;exact⟨z,us,0,r,zAL _ rfl⟩
end
abbrev Sp:=List V->Hp->VK->XK->Prop
abbrev CXT:=List Env->Hp->zAG->XK->Value->zAG->Prop
structure aDh(P:zA2)(w:World)(K:zAA)(mg:Str->Option Value)(base:Heap)(A:zAc)(outer:List Env)(s:zAG)(H:Hp):Prop where
 frames:A.frames=some outer
 mod:Mod K mg base
 bs:∀b o,base.get? b=some o->s.heap.get? b=some o/\H b=none
 bsz:base.objs.size<=s.heap.objs.size
 funs:s.heap.FunFrames base outer
 frf:∀b∈frs outer,H b=none
 hok:HOk P w H s.heap
 bare:zFG s.gens
def CE(outer:List Env)(P:zA2)(w:World)(H:Hp)(s:zAG)(Q:VK)(u:Value)(s':zAG):Prop:=
 ∃v H',s'.os=s.os/\zFG s'.gens/\Un (frs outer) [] H H' s.heap s'.heap/\HOk P w H' s'.heap/\RelV v u/\Q v H'
def CR(CX:CXT)(outer:List Env)(P:zA2)(w:World)(H:Hp)(s:zAG)(Q:VK)(E:XK)(r:zFL)(s':zAG):Prop:=
 match r with
 | .ok (.ret u)=>CE outer P w H s Q u s'
 | .ok _=>False
 | .error e=>CX outer H s E e s'
structure dB(P:zA2)(w:World)(K:zAA)(mg:Str->Option Value)(base:Heap)(CX:CXT)(k:Nat)(f:Addr)(fd:zAo)(ps:List Str)(sp:Sp):Prop where
 len:∀vs H Q E,sp vs H Q E->vs.length=ps.length
 run:∀(A:zAc) (outer:List Env) (s:zAG) (H:Hp) (args:Args) (us:List Value) (vs:List V) (Q:VK) (E:XK),fB k A->aDh P w K mg base A outer s H->zHp s fd args (ps.zip us)->Vals vs us->sp vs H Q E->
  zCW (model P w) A (.call (.ref f) args) (CR CX outer P w H s Q E) s
section
variable{X:Cx}{kX:hZ}{Z:St}{H:Hp}{s s':zAG}
def Inv.env0(I:Inv X kX Z H s):aDh X.prog X.w X.K X.mg X.base X.A X.stack s H:=
 ⟨I.ok.frames,I.ok.mod,I.bs,zAl I.ok.bsz I.sz,I.stack,I.stkFree,I.hok,I.bare⟩
def Inv.after(I:Inv X kX Z H s)(h:CE X.stack X.prog X.w H s Q u s'):EP X kX Z Q u s':=by
 obtain⟨v,H',os,bare,un,hok,r,q⟩:=h;obtain⟨hh,g,d,t,os'⟩:=s';obtain rfl:os'=s.os:=os;exact⟨v,H',I.call (h':=hh) (g':=g) (d':=d) (t':=t) (ch:=[]) un hok bare (λ b z=>absurd z (by simp)),r,q⟩
end
def aCP(sp:Sp)(dvs:List V)(E:XK)(t:TA):TE:=λ Z H Q=>t Z H λ vs H1=>sp (vs++dvs) H1 Q E
def tMeth(C:Addr)(m:Str)(sp:Sp)(dvs:List V)(E:XK)(ta:TE)(t:TA):TE:=λ Z H Q=>ta Z H λ x H1=>∃a dx fs,x= .ref a/\H1 a=some (.ins C dx fs)/\fs.lookup m=none/\
 t Z H1 λ vs H2=>sp (x::(vs++dvs)) H2 Q E
def tMake(C:Addr)(sp:Sp)(dvs:List V)(E:XK)(t:TA):TE:=λ Z H Q=>t Z H λ vs H1=>∀x dx,H1 x=none->H1 dx=none->dx≠x->
 sp (.ref x::(vs++dvs)) (upd (upd H1 dx (.own x)) x (.ins C dx [])) (λ v H2=>v= .non/\Q (.ref x) H2) E
def Binds(K:zAA)(fd:zAo)(ps:List Str)(ds:List Value):Prop:=
 ∀(s:zAG) (us:List Value),K.In s.heap->(us++ds).length=ps.length->zHp s fd ⟨us,[]⟩ (ps.zip (us++ds))
def Binds.all{K:zAA}{fd:zAo}{ps:List Str}(h:∀us:List Value,us.length=ps.length->zJG fd ⟨us,[]⟩=pure (ps.zip us)):Binds K fd ps []:=λ s us _ hl=>by
 rw[zBC]at hl ⊢;exact .of_eq (h us hl)
def sH(CX:CXT)(X:Cx)(E:XK):Prop:=∀(kX:hZ) (Z:St) (H:Hp) (s:zAG) (e:Value) (s':zAG),Inv X kX Z H s->CX X.stack H s E e s'->X.xe e s'
section
variable{X:Cx}{CX:CXT}{k:Nat}{f:Addr}{fd:zAo}{ps:List Str}{sp:Sp}{dvs:List V}{ds:List Value}{E:XK}{x:Str}{p pos:Pos}{e:Expr}{es:List Expr}{t:TA}
def aHt(F:dB X.prog X.w X.K X.mg X.base CX k f fd ps sp)(hr:fB k X.A)(hb:Binds X.K fd ps ds)(hd:Vals dvs ds)(hx:sH CX X E)
  (I:Inv X kX Z H s)(r:Vals vs us)(h:sp (vs++dvs) H Q E):wpAny (model X.prog X.w) X.A (call (.ref f) us) (EP X kX Z Q) X.xe s:=by
 have r2:Vals (vs++dvs) (us++ds):=r.append hd;have hl:(us++ds).length=ps.length:=by rw[<-r2.length];exact F.len _ _ _ _ h
 refine zHo (zDW (F.run X.A X.stack s H ⟨us,[]⟩ (us++ds) (vs++dvs) Q E hr I.env0 (hb s us I.kIn hl) r2 h) λ r s' hq=>?_);cases r with
 |error e=>exact hx kX Z H s e s' I hq
 |ok fl=>
  cases fl with
  |ret u=>exact I.after hq
  |next=>exact zAR hq
  |brk=>exact zAR hq
  |cont=>exact zAR hq
def aKr(F:dB X.prog X.w X.K X.mg X.base CX k f fd ps sp)(hr:fB k X.A)(hg:Gl X x)(hm:X.mg x=some (.ref f))(hk:zBx X.K (.ref f)=true)(hb:Binds X.K fd ps ds)(hd:Vals dvs ds)(hx:sH CX X E)
  (ha:PA X (e::es) t)(hdb:Nd x:=by decide)(he:zAZ (e::es) X.env=(false,eval e X.env)::zAZ es X.env:=by rfl)(hpl:(zCo pos (zAZ es X.env)).any (·.1)=false:=by rfl):
  PE X (.Call (.Name x p) (e::es) [] pos) (aCP sp dvs E t):=by
 intro kX s Z H Q I h;refine zCM (qM I hg hm ?_ hdb);refine zFA (h₀:=X.base) I.ok.mod.kin hk (thn (ha pos kX s Z H _ I h) λ us s1 ⟨vs,H1,I1,r,q⟩=>⟨I1.kIn,?_⟩) he hpl;exact aHt F hr hb hd hx I1 r q
end
structure aY(N P:List Str)(sc:Scope):Prop where
 kind:sc.kind= .function
 co:sc.isCoroutine=false
 gen:sc.isGenerator=false
 nd:N.Nodup
 pre:N.take P.length=P
 par:∀x∈P,sc.names.lookup x=some .local\/sc.names.lookup x=some .cell
 nofree:∀y∈sc.names,y.2≠.free
theorem aAr{zDd:Str->Option zDz}{x:Str}:∀{binds:List (Str×Value)} {m:Str->Option Value},(∀v,(x,v)∉binds)->bindL zDd binds m x=m x
 |[],_,_=>rfl
 |(n,v)::r,m,h=>by
  unfold bindL;rw[aAr λ w hw=>h w (zAH _ hw)];split
  .have:x≠n:=by rintro rfl;exact h v zAE
   simp[this]
  .rfl
theorem aAt{zDd:Str->Option zDz}{x:Str}:∀{binds:List (Str×Value)} {m:Str->Option Value},(∀v,(x,v)∉binds)->bindC zDd binds m x=m x
 |[],_,_=>rfl
 |(n,v)::r,m,h=>by
  unfold bindC;rw[aAt λ w hw=>h w (zAH _ hw)];split
  .rfl
  .have:x≠n:=by rintro rfl;exact h v zAE
   simp[this]
theorem aAs{zDd:Str->Option zDz}{x:Str}{v:Value}:∀{P:List Str} {vs:List Value} {i:Nat} {m:Str->Option Value},P.Nodup->P[i]? =some x->vs[i]? =some v->zDd x=some .local->
  bindL zDd (P.zip vs) m x=some v
 |[],_,_,_,_,h,_,_=>by simp at h
 |_::_,[],_,_,_,_,h,_=>by simp at h
 |p::P,w::vs,0,m,nd,h1,h2,hk=>by
  simp at h1 h2;subst h1;subst h2;show bindL zDd ((p,w)::P.zip vs) m p=_;unfold bindL;rw[aAr λ v hv=>(zBT.mp nd).1 (zCG hv).1,if_pos hk];simp
 |p::P,w::vs,i+1,m,nd,h1,h2,hk=>by
  show bindL zDd ((p,w)::P.zip vs) m x=_;unfold bindL;exact aAs (i:=i) (zBT.mp nd).2 (by simpa using h1) (by simpa using h2) hk
theorem aAu{zDd:Str->Option zDz}{x:Str}{v:Value}:∀{P:List Str} {vs:List Value} {i:Nat} {m:Str->Option Value},P.Nodup->P[i]? =some x->vs[i]? =some v->zDd x≠some .local->
  bindC zDd (P.zip vs) m x=some v
 |[],_,_,_,_,h,_,_=>by simp at h
 |_::_,[],_,_,_,_,h,_=>by simp at h
 |p::P,w::vs,0,m,nd,h1,h2,hk=>by
  simp at h1 h2;subst h1;subst h2;show bindC zDd ((p,w)::P.zip vs) m p=_;unfold bindC;rw[aAt λ v hv=>(zBT.mp nd).1 (zCG hv).1,if_neg hk];simp
 |p::P,w::vs,i+1,m,nd,h1,h2,hk=>by
  show bindC zDd ((p,w)::P.zip vs) m x=_;unfold bindC;exact aAu (i:=i) (zBT.mp nd).2 (by simpa using h1) (by simpa using h2) hk
def start(N:List Str)(vs:List V):St:=vs.map some++zAM (N.length-vs.length) none
def wR(CX:CXT)(P:zA2)(w:World)(K:zAA)(mg:Str->Option Value)(base:Heap)(N:List Str)(qual:Str)(scope:Scope)(f:Addr)(cd:Value)(A:zAc)(outer:List Env)(s:zAG)(H:Hp)(E:XK):Cx where
 prog:=P
 w:=w
 K:=K
 mg:=mg
 base:=base
 A:=A.deeper (zDO qual scope s.heap.objs.size f cd)
 N:=N
 z0:=s
 zS:=H
 env:=zDO qual scope s.heap.objs.size f cd
 outer:=outer
 stack:=zDO qual scope s.heap.objs.size f cd::outer
 ex:=[]
 calm:=true
 fn:=λ _=>true
 pn:=[]
 xe:=λ e s'=>wpAny (model P w) (A.deeper (zDO qual scope s.heap.objs.size f cd)) (leaving (zDO qual scope s.heap.objs.size f cd) e) (λ _ s''=>CX outer H s E e s'') (λ e' s''=>CX outer H s E e' s'') s'
def uI{sc:Scope}{n:Nat}{x:Str}(h:sc.names.lookup x=some .cell):∃c,(zDN n sc.names []).lookup x=some c:=by
 have q:=zDR sc.names n [] (.inl h);exact Option.isSome_iff_exists.mp q
def vG{CX:CXT}{P:zA2}{w:World}{K:zAA}{mg:Str->Option Value}{base:Heap}{N ps:List Str}{qual:Str}{scope:Scope}{f:Addr}{cd:Value}{A:zAc}{outer:List Env}{s s1:zAG}{H:Hp}{E:XK}{us:List Value}{vs:List V}
  (S:aY N ps scope)(hd:A.handled=none)(e0:aDh P w K mg base A outer s H)(hl:vs.length=ps.length)(r:Vals vs us)
  (x:InCallC s s.heap.objs.size (bindL (zDO qual scope s.heap.objs.size f cd).kindOf (ps.zip us) λ _=>none) (zDN (s.heap.objs.size+1) scope.names []) (bindC (zDO qual scope s.heap.objs.size f cd).kindOf (ps.zip us) λ _=>none) s1):
  Inv (wR CX P w K mg base N qual scope f cd A outer s H E) [] (start N vs) H s1:=by
 have hpl:ps.length<=N.length:=by have:=congrArg List.length S.pre;rw[zCk]at this;lia
 obtain⟨h1,tk,rfl,hk⟩:=x.done;have noA:∀b:Addr,b∉(wR CX P w K mg base N qual scope f cd A outer s H E).ex:=λ b z=>absurd (show b∈([]:List Addr)from z) (by simp)
 refine⟨⟨e0.mod,S.kind,rfl,rfl,zAQ _,λ y z c h1 h2=>?_,λ y hy=>?_,λ y c _ h=>?_,λ _=>hd,zHB e0.frames,.inr ⟨rfl,rfl⟩,λ b z=>absurd z (noA b),e0.bs,e0.bsz,λ b _ _=>noA b,λ b z=>absurd z (noA b),e0.funs,e0.frf⟩,
  rfl,e0.bare,Un.kept hk,⟨_,x.toInCall.ns,λ i y v h1 h2 h3=>?_⟩,λ y c h=>⟨_,x.cell y c h⟩,e0.hok.fresh (zAQ _),λ y c h=>?_,λ p hp=>absurd (show p∈([]:hZ)from hp) (by simp),e0.hok.kept hk,?_,λ p hp=>absurd (show p∈([]:hZ)from hp) (by simp)⟩
 .exact name_of_addr x.apart (zAp h1) (zAp h2)
 .have hy:scope.names.lookup y=some .cell\/scope.names.lookup y=some .free:=hy
  rcases hy with hy|hy
  .exact uI hy
  .exact absurd rfl (S.nofree _ (zAp hy))
 .exact zBl (x.above y c (zAp h))
 .have hi:i<vs.length:=by
   unfold start at h2;by_cases hi:i<vs.length
   .exact hi
   .rw[zCy (by simpa using hi)]at h2
    rw[zCL]at h2;split at h2<;>cases h2
  have ha:vs[i]? =some v:=by
   unfold start at h2;rw[zBM (by simpa using hi),zAY]at h2;cases e:vs[i]? with
   |none=>rw[e]at h2;cases h2
   |some a=>rw[e]at h2;cases h2;rfl
  obtain⟨u,hu,rv⟩:=r.get ha;have hp:ps[i]? =some y:=by
   rw[<-S.pre,List.getElem?_take_of_lt (by lia)];exact h1
  have ndP:ps.Nodup:=by rw[<-S.pre];exact S.nd.sublist (List.take_sublist _ _)
  refine⟨u,rv,?_⟩;rcases S.par y (zBf hp)with k|k
  .exact .inl ⟨k,aAs ndP hp hu k⟩
  .obtain⟨c,e⟩:=uI (n:=s.heap.objs.size+1) k
   refine .inr ⟨.inl k,c,e,?_⟩;have q:=x.cell y c e;rw[aAu ndP hp hu (by show scope.names.lookup y≠_;rw[k];decide)]at q;exact q
 .exact e0.hok.fresh (zBl (x.above y c (zAp h)))
 .unfold start
  show _=N.length;rw[zA1,zAD,zBk];lia
def aPf{CX:CXT}{P:zA2}{w:World}{K:zAA}{mg:Str->Option Value}{base:Heap}{k:Nat}{f:Addr}{name qual:Str}{params:zD0}{body:List Stmt}{scope:Scope}{dV kV doc pm cdv ct oc:Value}{an od:Option Addr}
  {osl:Array (Option Value)}{N ps:List Str}{sp:Sp}(lk:K.lookup f=some ⟨oc,od,.func (zBz name qual params body scope dV kV doc pm an cdv ct),osl⟩)(hcd:zDV K cdv qual=true)(S:aY N ps scope)
  (len:∀vs H Q E,sp vs H Q E->vs.length=ps.length)
  (hbody:∀(A:zAc) (outer:List Env) (s:zAG) (H:Hp) (vs:List V) (Q:VK) (E:XK),fB k (A.deeper (zDO qual scope s.heap.objs.size f cdv))->sp vs H Q E->
   ∃t,PSs (wR CX P w K mg base N qual scope f cdv A outer s H E) body t/\t {nx:=λ _ H'=>Q .non H',rt:=Q} (start N vs) H):
  dB P w K mg base CX (k+1) f (zBz name qual params body scope dV kV doc pm an cdv ct) ps sp:=by
 refine⟨len,λ A outer s H args us vs Q E hr e0 hb r hsp=>?_⟩;have hl:=len _ _ _ _ hsp;have KX:K.In s.heap:=e0.mod.kin.keeps λ b o e=>(e0.bs b o e).1
 have lim:s.heap.NoLimit:=e0.mod.nolimit.keeps λ b o e=>(e0.bs b o e).1
 have cS:∀y∈ps.zip us,scope.names.lookup y.1=some .local\/(scope.names.lookup y.1=some .cell/\((zDN (s.heap.objs.size+1) scope.names []).lookup y.1).isSome=true):=λ⟨n,v⟩ hy=>by
  rcases S.par n (zCG hy).1 with q|q
  .exact .inl q
  .exact .inr ⟨q,zDR _ _ _ (.inl q)⟩
 refine zFM hr.depth (KX _ _ lk) rfl S.co S.gen rfl (zFB KX hcd) (hb _ _ _ _ ?_);refine zEY S.kind cS λ env he s1 x=>?_
 subst he;refine⟨lim.keeps x.toInCall.keep,zId ?_⟩;obtain⟨t,ht,hq⟩:=hbody A outer s H vs Q E (hr.deeper _) hsp;have I:Inv (wR CX P w K mg base N qual scope f cdv A outer s H E) [] (start N vs) H s1:=vG S hr.hd e0 hl r x;refine zBX (ht [] s1 (start N vs) H _ I hq) (λ fl s' hs=>?_) λ e s' hs=>hs
 have fin:∀{Z':St} {H':Hp} {v:V} {u:Value},Inv (wR CX P w K mg base N qual scope f cdv A outer s H E) [] Z' H' s'->RelV v u->Q v H'->CE outer P w H s Q u s':=
  λ{Z' H' v u} J rv q=>⟨v,H',J.os,J.bare,J.base,J.hok,rv,q⟩
 cases fl with
 |ret u=>
  obtain⟨v,Z',H',J,rv,q⟩:=hs;exact fin J rv q
 |next=>
  obtain⟨Z',H',J,q⟩:=hs;exact fin (v:=V.non) (u:=zBb) J rfl q
 |brk=>
  obtain⟨_,_,_,q⟩:=hs;exact zAR q
 |cont=>
  obtain⟨_,_,_,q⟩:=hs;exact zAR q
section
variable{X:Cx}{x:Str}{p pos:Pos}{e:Expr}{es:List Expr}{t:TA}{id T:String}{r:List V->Hp->VK->Prop}
def tCB(r:List V->Hp->VK->Prop)(t:TA):TE:=λ Z H Q=>t Z H λ vs H1=>r vs H1 Q
def mD(hc:cg X (.builtin id) r)(hg:Gl X x)(hm:X.mg x=none)(hv:zAt x=some (.builtin id))(ha:PA X (e::es) t)(hn:x≠"__name__":=by decide)(hdb:Nd x:=by decide)
  (he:zAZ (e::es) X.env=(false,eval e X.env)::zAZ es X.env:=by rfl)(hpl:(zCo pos (zAZ es X.env)).any (·.1)=false:=by rfl):PE X (.Call (.Name x p) (e::es) [] pos) (tCB r t):=by
 intro kX s Z H Q I h;refine zCM (rR I hg hm hv ?_ hn hdb);exact PyProof.Rows.callWith_builtin1 (thn (ha pos kX s Z H _ I h) λ us s1 ⟨vs,H1,I1,r1,q1⟩=>hc kX s1 Z H1 vs us Q I1 r1 q1) he hpl
def mC(hc:cg X (.type T) r)(hg:Gl X x)(hm:X.mg x=none)(hv:zAt x=some (.type T))(ha:PA X (e::es) t)(hn:x≠"__name__":=by decide)(hdb:Nd x:=by decide)
  (he:zAZ (e::es) X.env=(false,eval e X.env)::zAZ es X.env:=by rfl)(hpl:(zCo pos (zAZ es X.env)).any (·.1)=false:=by rfl):PE X (.Call (.Name x p) (e::es) [] pos) (tCB r t):=by
 intro kX s Z H Q I h;refine zCM (rR I hg hm hv ?_ hn hdb);exact zCc (thn (ha pos kX s Z H _ I h) λ us s1 ⟨vs,H1,I1,r1,q1⟩=>hc kX s1 Z H1 vs us Q I1 r1 q1) he hpl
def aES(hc:cg X (.type T) r)(hg:Gl X x)(hm:X.mg x=none)(hv:zAt x=some (.type T))(hn:x≠"__name__":=by decide)(hdb:Nd x:=by decide):
  PE X (.Call (.Name x p) [] [] pos) (tCB r oK):=by
 intro kX s Z H Q I h;refine zCM (rR I hg hm hv ?_ hn hdb);exact PyProof.Rows.callWith_type0 (hc kX s Z H [] [] Q I .nil h)
end
end L2
namespace HT
open PySem PyProof.Rows
def lexLt:List Int->List Int->Bool
 |[],[]=>false
 |[],_::_=>true
 |_::_,[]=>false
 |x::xs,y::ys=>if x=y then lexLt xs ys else decide (x<y)
def ju(x y:Int)(xs ys:List Int):lexLt (x::xs) (y::ys)=if x=y then lexLt xs ys else decide (x<y):=rfl
def aAA:lexLt [] []=false:=rfl
def yh(y:Int)(ys:List Int):lexLt [] (y::ys)=true:=rfl
def yj(x:Int)(xs:List Int):lexLt (x::xs) []=false:=rfl
def aDW(A:zAc)(s:zAG)(a:Int)(t:Tok)(c:Int)(u:Tok):∃e,zEJ A s (.int a t) (.int c u) e/\(e=true↔a=c):=
 ⟨(a==c),zGq a t c u,by simp⟩
def aIB(A:zAc)(s:zAG)(a:Int)(t:Tok)(c:Int)(u:Tok)(prog:zA2)(w:World)(E:Value->zAG->Prop)(Q:Value->zAG->Prop)(h:Q (.bool (decide (a<c))) s):
  wpAny (model prog w) A (zHK .Lt (.int a t) (.int c u)) Q E s:=
 (zGP h:wpAny (model prog w) A (zAw .Lt (.int a t) (.int c u)) Q E s)
section
open PySem.SeqAt
open PySem.AutoSeq1(wpAny_loadPart')
open PySem.MeetsSeq PySem.MeetsSeq2 PySem.MeetsSeq3
def zf(l b:Addr)(items items2:Array Value)(n n2:Nat)(dd dd2:Option Addr)(sl sl2:Array (Option Value))(ns ms:List Int)(hi:zB8 items.toList ns)(hj:zB8 items2.toList ms):
  Meets (zDq.«tuple.__lt__» ⟨[.ref l,.ref b],[]⟩)
   (λ _ R s=>s.heap.get? l=some {cls:=.type "tuple",dict:=dd,data:=.seq items n,slots:=sl}/\s.heap.get? b=some {cls:=.type "tuple",dict:=dd2,data:=.seq items2 n2,slots:=sl2}/\
    R (.ok (.ret (.bool (lexLt ns ms)))) s):=
 .of_wp λ prog w A R s h=>by
  obtain⟨hp,g,d,tk,os⟩:=s;obtain⟨hl,hb,h⟩:=h;have f2:=zFx;have z1:items.size=ns.length:=by rw[<-hi.length];simp
  have z2:items2.size=ms.length:=by rw[<-hj.length];simp
  wp_walk using zFN hl,zFN hb,zDu _ (λ rest b s'=>b.1=none/\s'=⟨hp,g,d,tk,os⟩/\∃(vs ws:List Value) (ns' ms':List Int),rest=vs.zip ws/\
   zB8 vs ns'/\zB8 ws ms'/\ns'.length+items2.size=ms'.length+items.size/\R (.ok (.ret (.bool (lexLt ns' ms')))) ⟨hp,g,d,tk,os⟩) _
  case turn=>
   rintro⟨y,x⟩ rest b s' ⟨hb',rfl,vs,ws,ns',ms',hz,hvi,hwi,kK,hR⟩;cases hvi with
   |nil=>rw[zIO]at hz;cases hz
   |cons a t hvi'=>
    cases hwi with
    |nil=>rw[zHu]at hz;cases hz
    |cons c u hwi'=>
     rw[zBL]at hz;injection hz with hyx b9
     injection hyx with hy hx
     subst hy hx;rw[ju]at hR;simp only[zA5]at kK;obtain⟨e,he,hiff⟩:=aDW A.in1 ⟨hp,g,d,tk,os⟩ a t c u;refine zAB (he prog w _ _ ?_);cases e with
     |true=>
      rw[if_pos (hiff.mp rfl)]at hR;wp_walk;exact⟨rfl,rfl,_,_,_,_,b9,hvi',hwi',by lia,hR⟩
     |false=>
      rw[if_neg (λ q=>absurd (hiff.mpr q) zAO)]at hR;have hri:=aIB A.in1 ⟨hp,g,d,tk,os⟩ a t c u prog w;wp_walk using hri;exact⟨_,rfl,by simpa using hR⟩
  case fin=>
   rintro⟨b1,b2⟩ s' ⟨hb',rfl,vs,ws,ns',ms',hz,hvi,hwi,kK,hR⟩;simp only at hb';subst hb';have hv:lexLt ns' ms'=decide (items.size<items2.size):=by
    cases hvi with
    |nil=>
     cases hwi with
     |nil=>
      simp only[zC6]at kK;rw[aAA];exact(decide_eq_false (by lia)).symm
     |cons c u hw=>
      simp only[zC6,zA5]at kK;rw[yh];exact(decide_eq_true (by lia)).symm
    |cons a t hv=>
     cases hwi with
     |nil=>
      simp only[zC6,zA5]at kK;rw[yj];exact(decide_eq_false (by lia)).symm
     |cons c u hw=>
      rw[zBL]at hz;cases hz
   rw[hv]at hR;wp_walk;exact⟨_,rfl,by simpa[zEd]using hR⟩
  case h=>
   exact⟨rfl,rfl,items.toList,items2.toList,ns,ms,rfl,hi,hj,by lia,h⟩
end
section
variable{prog:zA2}{w:World}{A:zAc}{E:Value->zAG->Prop}{s:zAG}
def yd(hl:IsTup s.heap l items)(hb:IsTup s.heap b items2)(hi:zB8 items.toList ns)(hj:zB8 items2.toList ms)
  (hu:A.units<cLine)(h:Q (.bool (lexLt ns ms)) s):wpAny (model prog w) A (zAw .Lt (.ref l) (.ref b)) Q E s:=by
 obtain⟨⟨cls,dd,data,sl⟩,ho,hc,n,hd⟩:=id hl;obtain⟨⟨cls2,dd2,data2,sl2⟩,ho2,hc2,n2,hd2⟩:=id hb;simp only at hc hd hc2 hd2;subst hc hd hc2 hd2;exact zIX (op:=.Lt) ⟨_,ho,rfl⟩ ⟨_,ho2,rfl⟩ PySem.F.slot_tuple_lt PySem.F.entry_tuple_lt (PySem.F.args_tuple_lt_2 _ _) (zf l b items items2 n n2 dd dd2 sl sl2 ns ms hi hj)
  ⟨ho,ho2,show zCu (lexLt ns ms)≠zHX/\Q (.bool (lexLt ns ms)) s from⟨(λ x=>nomatch x),h⟩⟩ hu
def aLt(ht:IsTup s.heap t vs.toArray)(hb:IsTup s.heap b ws.toArray)(hv:vs≠[])
  (h1:ws=[]->Q (.ref t) s)(h2:ws≠[]->Q (.ref s.heap.objs.size) {s with heap:=s.heap.push {cls:=.type "tuple",data:=.seq (vs++ws).toArray}})
  (hsz:vs.length+ws.length<=zAX):wpAny (model prog w) A (zCe .Add (.ref t) (.ref b)) Q E s:=by
 obtain⟨⟨cls,dd,data,sl⟩,ho,hc,n,hd⟩:=id ht;obtain⟨⟨cls2,dd2,data2,sl2⟩,ho2,hc2,n2,hd2⟩:=id hb;simp only at hc hd hc2 hd2;subst hc hd hc2 hd2;have e:vs.toArray++ws.toArray=(vs++ws).toArray:=by simp
 by_cases hw:ws=[]
 .exact zIe ⟨_,ho,rfl⟩ ⟨_,ho2,rfl⟩ zGu zID zEW zEI (zEA _ _)
   (tuple_addW1 t b vs.toArray ws.toArray n n2 dd dd2 sl sl2 (by simpa using hv) (by simp[hw])) ⟨ho,ho2,h1 hw⟩
 .refine zIe ⟨_,ho,rfl⟩ ⟨_,ho2,rfl⟩ zGu zID zEW zEI (zEA _ _)
   (tuple_addW2 t b vs.toArray ws.toArray n n2 dd dd2 sl sl2 (by simpa using hv) (by simpa using hw) (by rw[zAP,zAP];exact hsz)) ⟨ho,ho2,?_⟩
  rw[e];exact h2 hw
def sIx(n d:Nat):Option Int->Nat
 |none=>d
 |some v=>if v<0 then(v+(n:Int)).toNat else min v.toNat n
def aNC(n d:Nat)(hd:d<=n)(o:Option Int):sIx n d o<=n:=by
 cases o with
 |none=>exact hd
 |some v=>
  show(if v<0 then(v+(n:Int)).toNat else min v.toNat n)<=n
  by_cases hv:v<0
  .rw[if_pos hv];lia
  .rw[if_neg hv];exact Nat.min_le_right _ _
def aGF(v:Int)(n d:Nat):(if v<0 then max (v+(n:Int)) 0 else min v (n:Int))=((sIx n d (some v):Nat):Int):=by
 show(if v<0 then max (v+(n:Int)) 0 else min v (n:Int))=(((if v<0 then(v+(n:Int)).toNat else min v.toNat n):Nat):Int)
 by_cases hv:v<0
 .simp only[if_pos hv];lia
 .simp only[if_neg hv];lia
def aFE(lo hi:Option Int)(n:Nat):zBq lo hi 1 (n:Int)=(((sIx n 0 lo:Nat):Int),((sIx n n hi:Nat):Int)):=by
 have h1:¬((1:Int)<0):=by lia
 unfold zBq;simp only[h1,if_false];refine zHy ?_ ?_
 .cases lo with
  |none=>rfl
  |some v=>exact aGF v n 0
 .cases hi with
  |none=>rfl
  |some v=>exact aGF v n n
def aEP(i j:Nat):zBW (i:Int) (j:Int) 1=j-i:=by
 unfold zBW;have h1:(1:Int)>0:=by lia
 simp only[h1,if_true,Int.ediv_one];split<;>lia
def xW(p:zGc v o)(h:Q o s):wpAny (model prog w) A (zJM v) Q E s:=by
 cases p with
 |none=>exact zFf h
 |int i t=>exact slicePart_int h
def lq{sl:Addr}{vl vu:Value}{lo hi:Option Int}{n:Nat}{Q:Int×Int×Nat->zAG->Prop}(hs:s.heap.IsSliceOf sl vl vu .none)(pl:zGc vl lo)(pu:zGc vu hi)
  (h:Q (((sIx n 0 lo:Nat):Int),1,sIx n n hi-sIx n 0 lo) s):wpAny (model prog w) A (zCh (.ref sl) (pure (n:Int))) Q E s:=by
 obtain⟨os,hos,hcs,hds⟩:=id hs;unfold zCh zFH;refine zAB (zAB (zBg hos hds (x:=vl) rfl (zAB (zBg hos hds (x:=vu) rfl (zAB (zBg hos hds (x:=.none) rfl (zAF ?_)))))));refine zAB (zFf ?_);show wpAny _ _ (if ((1:Int)==0)=true then _ else _) _ _ s;rw[if_neg (by decide)];refine zAB (xW pl (zAB (xW pu (zAB (zAF ?_)))));show wpAny _ _ (match zBq lo hi 1 (n:Int)with|(lo,hi)=>pure (lo,(1:Int),zBW lo hi 1)) _ _ s;rw[aFE lo hi n];show wpAny _ _ (pure (((sIx n 0 lo:Nat):Int),(1:Int),zBW ((sIx n 0 lo:Nat):Int) ((sIx n n hi:Nat):Int) 1)) _ _ s;rw[aEP];exact zAF h
def aIX(xs:Array Value)(i k:Nat):((zAm k).filterMap λ(m:Nat)=>xs[((i:Int)+(m:Int)*1).toNat]?).toArray=((xs.toList.drop i).take k).toArray:=by
 have e:(λ(m:Nat)=>xs[((i:Int)+(m:Int)*1).toNat]?)=λ m=>xs[i+m]?:=by
  funext m
  have:((i:Int)+(m:Int)*1).toNat=i+m:=by lia
  rw[this]
 rw[e]
 have:=pick_run xs i k
 rw[List.filterMap_map]at this;have e2:((λ x=>xs[x]?)∘λ x=>i+x)=λ m=>xs[i+m]?:=rfl
 rw[e2]at this;rw[this]
def tX{t sl:Addr}{items:Array Value}{vl vu:Value}{lo hi:Option Int}{Q:Value->zAG->Prop}(ht:IsTup s.heap t items)(hs:s.heap.IsSliceOf sl vl vu .none)(pl:zGc vl lo)(pu:zGc vu hi)
  (hw:¬(sIx items.size 0 lo=0/\sIx items.size items.size hi=items.size))
  (h:Q (.ref s.heap.objs.size) {s with heap:=s.heap.push {cls:=.type "tuple",data:=.seq ((items.toList.drop (sIx items.size 0 lo)).take (sIx items.size items.size hi-sIx items.size 0 lo)).toArray}})
  (hsz:items.size<=zAX):wpAny (model prog w) A (zFn (.ref t) (.ref sl)) Q E s:=by
 have aI:sizeOk (.seq ((items.toList.drop (sIx items.size 0 lo)).take (sIx items.size items.size hi-sIx items.size 0 lo)).toArray):=by
  show((items.toList.drop (sIx items.size 0 lo)).take (sIx items.size items.size hi-sIx items.size 0 lo)).toArray.size<=zAX
  rw[zAP,zCk,zFu,zAU];lia
 have hj:sIx items.size items.size hi<=items.size:=aNC _ _ (zAQ _) hi;obtain⟨os,hos,hcs,hds⟩:=id hs;have hTs:s.TypeIs (.ref sl) "slice":=⟨os,hos,hcs⟩;unfold zFn
 try with_reducible refine zBI ?_
 first|refine zAB (zAF ?_)|skip
 refine zAB (zG9 ht.typeIs (by decide) ?_);refine zAB (zB5 (name:=zCt "__getitem__") ht.typeIs zBD
  (zB9 zBD ht.typeIs zFm ?_ (zGD _ _)))
 show wpAny _ _ (zD1 (.ref t)>>=_) _ _ s;refine zAB (zIH ht ?_);refine zAB (zE4 hTs ?_);rw[if_pos (by decide)];refine zAB (lq hs pl pu ?_);have hno:¬((((sIx items.size 0 lo:Nat):Int)==0&&(1:Int)==1&&(sIx items.size items.size hi-sIx items.size 0 lo)==items.size)=true):=by
  intro q;rw[zAK,zAK]at q;have q1:((sIx items.size 0 lo:Nat):Int)=0:=zDA q.1.1;have q2:sIx items.size items.size hi-sIx items.size 0 lo=items.size:=zDA q.2;exact hw ⟨by lia,by lia⟩
 show wpAny _ _ (if (((sIx items.size 0 lo:Nat):Int)==0&&(1:Int)==1&&(sIx items.size items.size hi-sIx items.size 0 lo)==items.size)=true then _ else _) _ _ s;rw[if_neg hno,aIX]
 first
  |exact zAB (m:=zB3 _) (zAv (zAF ⟨_,rfl,zAF h⟩) aI)
  |exact zAB (m:=zB3 _) (zAv (zAB (zAF (zAF ⟨_,rfl,zAF h⟩))) aI)
  |exact zAB (zAB (m:=zB3 _) (zAv (zAF (zAF ⟨_,rfl,zAF h⟩)) aI))
  |exact zAB (zAB (m:=zB3 _) (zAv (zAF ⟨_,rfl,zAF h⟩) aI))
end
end HT
namespace L2
open PySem PySem.Spec PyProof.Rows
abbrev TO:=St->Hp->(Option Int->Hp->Prop)->Prop
def PO(X:Cx)(e:Option Expr)(t:TO):Prop:=
 ∀(kX:hZ) (s:zAG) (Z:St) (H:Hp) (Q:Option Int->Hp->Prop),Inv X kX Z H s->t Z H Q->
  wpAny (model X.prog X.w) X.A (evalPart e X.env) (λ u s'=>∃o H',Inv X kX Z H' s'/\zGc u o/\Q o H') X.xe s
def aKP:TO:=λ _ H Q=>Q none H
def aOs(t:TE):TO:=λ Z H Q=>t Z H λ x H1=>∃i,x= .int i/\Q (some i) H1
def intsAre_of:∀{us:List Value},Vals (ns.map V.int) us->zB8 us ns:=by
 induction ns with
 |nil=>intro us r;rw[zFh]at r;cases r;exact .nil
 |cons n ns ih=>
  intro us r;rw[zAS]at r;cases r with
  |cons r1 r2=>
   obtain⟨t,e⟩:=r1;subst e;exact .cons n t (ih r2)
section
variable{X:Cx}{e:Expr}{te:TE}{lo hi:Option Expr}{tl th:TO}{pos p2:Pos}
def aKl:PO X none aKP:=by
 intro kX s Z H Q I h;rw[zIB];exact zAF ⟨none,H,I,.none,h⟩
def aKk(h:PE X e te):PO X (some e) (aOs te):=by
 intro kX s Z H Q I hw;rw[evalPart_some];refine thn (h kX s Z H _ I hw) λ u s1 ⟨x,H1,I1,r1,q1⟩=>?_
 obtain⟨i,rfl,q⟩:=q1;obtain⟨t,rfl⟩:=r1;exact⟨some i,H1,I1,.int i t,q⟩
def SlR(X:Cx)(r:V->Option Int->Option Int->Hp->VK->Prop):Prop:=
 ∀(kX:hZ) (s:zAG) (Z:St) (H:Hp) (x:V) (v vl vu:Value) (lo hi:Option Int) (sl:Addr) (Q:VK),Inv X kX Z H s->RelV x v->s.heap.IsSliceOf sl vl vu .none->zGc vl lo->zGc vu hi->r x lo hi H Q->
  ∃T id,zG6 (.type T) "__getitem__"=pure (some (.builtin id))/\s.TypeIs v T/\wpAny (model X.prog X.w) X.A (zFn v (.ref sl)) (EP X kX Z Q) X.xe s
def SlR.or(h:SlR X r)(h':SlR X r'):SlR X (λ x lo hi H Q=>r x lo hi H Q\/r' x lo hi H Q):=by
 intro kX s Z H x v vl vu lo hi sl Q I rx hs pl pu q;rcases q with q|q
 .exact h kX s Z H x v vl vu lo hi sl Q I rx hs pl pu q
 .exact h' kX s Z H x v vl vu lo hi sl Q I rx hs pl pu q
def tSl(r:V->Option Int->Option Int->Hp->VK->Prop)(te:TE)(tl th:TO):TE:=λ Z H Q=>te Z H λ x H1=>tl Z H1 λ l H2=>th Z H2 λ u H3=>r x l u H3 Q
def aI0(hr:SlR X r)(he:PE X e te)(hl:PO X lo tl)(hu:PO X hi th):PE X (.Subscript e (.Slice lo hi none p2) pos) (tSl r te tl th):=by
 intro kX s Z H Q I h;refine zJZ (thn (he kX s Z H _ I h) λ v s1 ⟨x,H1,I1,r1,q1⟩=>?_);refine wpAny_Slice (thn (hl kX s1 Z H1 _ I1 q1) λ vl s2 ⟨l,H2,I2,pl,q2⟩=>thn (hu kX s2 Z H2 _ I2 q2) λ vu s3 ⟨u,H3,I3,pu,q3⟩=>?_);rw[zIB];refine zAF ?_;have I4:Inv X kX Z H3 {s3 with heap:=s3.heap.push {cls:=.type "slice",data:=.fields #[vl,vu,.none]}}:=I3.kept (t':=s3.toks) λ b ob q=>zAC _ q
 obtain⟨T,id,hT,ht,hg⟩:=hr kX {s3 with heap:=s3.heap.push {cls:=.type "slice",data:=.fields #[vl,vu,.none]}} Z H3 x v vl vu l u s3.heap.objs.size Q I4 r1 (zFz ..) pl pu q3;show wpAny (model X.prog X.w) X.A (zIE e (.Slice lo hi none p2) v (.ref s3.heap.objs.size)) (EP X kX Z Q) X.xe {s3 with heap:=s3.heap.push {cls:=.type "slice",data:=.fields #[vl,vu,.none]}};exact tail_any (ops:=[.ref s3.heap.objs.size,v]) ht hT hg (by with_unfolding_all rfl)
def zV(xs:List V)(lo hi:Option Int):List V:=(xs.drop (HT.sIx xs.length 0 lo)).take (HT.sIx xs.length xs.length hi-HT.sIx xs.length 0 lo)
def wG(xs:List V)(lo hi:Option Int):(zV xs lo hi).length<=xs.length:=by
 unfold zV;rw[zCk,zFu];lia
def aKc(K:zAA):R2:=λ x y H Q=>∃a b ns ms,x= .ref a/\y= .ref b/\SqT K H a (ns.map V.int)/\SqT K H b (ms.map V.int)/\Q (.bl (HT.lexLt ns ms)) H
def aNi(hu:X.A.units<cLine):OpR X (zAw .Lt) (aKc X.K):=by
 intro kX s Z H x y v u Q I rx ry h;obtain⟨a,b,ns,ms,rfl,rfl,ha,hb,q⟩:=h;cases rx;cases ry;obtain⟨its,r1,p1,_⟩:=I.tuple ha;obtain⟨its2,r2,p2,_⟩:=I.tuple hb;have i1:zB8 its.toArray.toList ns:=intsAre_of r1;have i2:zB8 its2.toArray.toList ms:=intsAre_of r2;exact HT.yd p1 p2 i1 i2 hu ⟨.bl (HT.lexLt ns ms),H,I,rfl,q⟩
def aPR(K:zAA):R2:=λ x y H Q=>∃a b xs ys,x= .ref a/\y= .ref b/\SqT K H a xs/\SqT K H b ys/\xs≠[]/\xs.length+ys.length<=zAX/\
 (ys=[]->Q (.ref a) H)/\(ys≠[]->∀p,H p=none->Q (.ref p) (upd H p (.tup (xs++ys))))
def Vals.nil_iff(r:Vals xs us):us=[]↔xs=[]:=by
 cases r with
 |nil=>simp
 |cons _ _=>simp
def aLE:OpR X (zCe .Add) (aPR X.K):=by
 intro kX s Z H x y v u Q I rx ry h;obtain⟨a,b,xs,ys,rfl,rfl,ha,hb,hx,hz,q1,q2⟩:=h;cases rx;cases ry;obtain⟨its,r1,p1,_⟩:=I.tuple ha;obtain⟨its2,r2,p2,_⟩:=I.tuple hb;refine HT.aLt p1 p2 (λ z=>hx (r1.nil_iff.mp z)) (λ z=>⟨.ref a,H,I,rfl,q1 (r2.nil_iff.mp z)⟩) (λ z=>?_) (by rw[<-r1.length,<-r2.length];exact hz);refine⟨.ref s.heap.objs.size,_,I.laid (t':=s.toks) (o:=.tup (xs++ys)) (λ b ob q=>zAC _ q) (zAQ _) ?_,rfl,q2 (λ w=>z (r2.nil_iff.mpr w)) _ (I.hok.fresh (zAQ _))⟩;exact⟨⟨by rw[zA1];exact hz,NoD.push _⟩,_,r1.append r2,zHD _ _⟩
end
def ixN(n:Nat)(i:Int):Option Nat:=if 0<=i then(if i<n then some i.toNat else none)else if -(n:Int)<=i then some (i+n).toNat else none
def atI{α:Type}(xs:List α)(i:Int):Option α:=(ixN xs.length i).bind λ j=>xs[j]?
def aFn(h:ixN n i=some j):seqIndex? i n=some j/\j<n/\-(n:Int)<=i/\i<n:=by
 unfold ixN at h;by_cases h0:0<=i
 .rw[if_pos h0]at h
  by_cases h1:i<n
  .rw[if_pos h1]at h
   have e:i.toNat=j:=zAa h;exact⟨by rw[zIw h0 h1,e],by lia,by lia,h1⟩
  .rw[if_neg h1]at h;cases h
 .rw[if_neg h0]at h
  by_cases h1: -(n:Int)<=i
  .rw[if_pos h1]at h
   have e:(i+n).toNat=j:=zAa h;exact⟨by rw[zIj (by lia) h1,e],by lia,h1,by lia⟩
  .rw[if_neg h1]at h;cases h
def aCG(h:atI xs i=some v):∃j,seqIndex? i xs.length=some j/\xs[j]? =some v/\j<xs.length/\-(xs.length:Int)<=i/\i<xs.length:=by
 unfold atI at h;cases e:ixN xs.length i with
 |none=>rw[e]at h;cases h
 |some j=>
  rw[e]at h;obtain⟨h1,h2,h3,h4⟩:=aFn e;exact⟨j,h1,h,h2,h3,h4⟩
def aCJ(b:Expr):Prop:=∀o i,subscripted b false o i=operate [o,i] (zFn o i)
def IxR(X:Cx)(r:R2):Prop:=
 ∀(value slice:Expr) (kX:hZ) (s:zAG) (Z:St) (H:Hp) (x y:V) (v u:Value) (Q:VK),Inv X kX Z H s->RelV x v->RelV y u->r x y H Q->
  subscripted slice false v u=operate [v,u] (zFn v u)->wpAny (model X.prog X.w) X.A (zIE value slice v u) (EP X kX Z Q) X.xe s
def MtR(X:Cx)(id:String)(r:V->List V->Hp->VK->Prop):Prop:=
 ∀(kX:hZ) (s:zAG) (Z:St) (H:Hp) (x:V) (xs:List V) (v:Value) (us:List Value) (Q:VK),Inv X kX Z H s->RelV x v->Vals xs us->r x xs H Q->
  wpAny (model X.prog X.w) X.A (call (.builtin id) (v::us)) (EP X kX Z Q) X.xe s
section
variable{X:Cx}{a b:Expr}{ta tb:TE}{pos:Pos}
def IxR.or(h:IxR X r)(h':IxR X r'):IxR X (λ x y H Q=>r x y H Q\/r' x y H Q):=by
 intro value slice kX s Z H x y v u Q I rx ry q hs;rcases q with q|q
 .exact h value slice kX s Z H x y v u Q I rx ry q hs
 .exact h' value slice kX s Z H x y v u Q I rx ry q hs
def aI2{r:R2}(hr:IxR X r)(ha:PE X a ta)(hb:PE X b tb)(hs:aCJ b):PE X (.Subscript a b pos) (tOp r ta tb):=by
 intro kX s Z H Q I h;exact zJZ (aO9 ha hb I h λ v u s2 x y H2 I2 rx ry q=>hr a b kX s2 Z H2 x y v u Q I2 rx ry q (hs _ _))
def aNH(K:zAA):R2:=λ x y H Q=>∃p xs i v,x= .ref p/\y= .int i/\SqL K H p xs/\atI xs i=some v/\Q v H
def aPO(K:zAA):R2:=λ x y H Q=>∃p xs i v,x= .ref p/\y= .int i/\SqT K H p xs/\atI xs i=some v/\Q v H
def aPP:R2:=λ x y H Q=>∃z i c,x= .str z/\y= .int i/\z.length<=zAX/\atI z.cps.toList i=some c/\Q (.str ⟨#[c]⟩) H
def aBi:IxR X (aNH X.K):=by
 intro value slice kX s Z H x y v u Q I rx ry h hs;obtain⟨p,xs,i,z,rfl,rfl,hq,he,q⟩:=h;cases rx;obtain⟨t,rfl⟩:=ry;obtain⟨its,r,pl,hz⟩:=I.list hq;obtain⟨j,h1,h2,h3,h4,h5⟩:=aCG he;obtain⟨w,ew,rw'⟩:=r.get h2;have hl:=r.length;have hn:=vA;have fin:EP X kX Z Q w s:=⟨z,H,I,rw',q⟩;by_cases h0:0<=i
 .have hj:i.toNat=j:=by
   rw[zIw h0 h5]at h1;exact zAa h1
  exact item_listR pl.isList h0 (by lia) (by rw[hj];simpa using ew) fin hs
 .have hj:(i+(its.toArray.size:Int)).toNat=j:=by
   rw[zIj (by lia) h4]at h1;rw[zAP,<-hl];exact zAa h1
  exact zIY (x:=w) pl.isList.typeIs zJ7.lookup
   (wpAny_getItem_list_neg (Q:=λ r s'=>r=w/\EP X kX Z Q r s') pl.isList (by lia) (by rw[zAP]<;>lia) (by lia) (by rw[hj];simpa using ew) ⟨rfl,fin⟩) hs
def aOI:IxR X (aPO X.K):=by
 intro value slice kX s Z H x y v u Q I rx ry h hs;obtain⟨p,xs,i,z,rfl,rfl,hq,he,q⟩:=h;cases rx;obtain⟨t,rfl⟩:=ry;obtain⟨its,r,pl,hz⟩:=I.tuple hq;obtain⟨j,h1,h2,h3,h4,h5⟩:=aCG he;obtain⟨w,ew,rw'⟩:=r.get h2;have hl:=r.length;have hn:=vA;have fin:EP X kX Z Q w s:=⟨z,H,I,rw',q⟩;exact zIY (x:=w) pl.typeIs slot_tuple_getitem.lookup
  (getItem_tuple (j:=j) (Q:=λ r s'=>r=w/\EP X kX Z Q r s') pl (by lia) (by lia) (by rw[zAP,<-hl];exact h1) (by simpa using ew) ⟨rfl,fin⟩) hs
def aOJ:IxR X aPP:=by
 intro value slice kX s Z H x y v u Q I rx ry h hs;obtain⟨z,i,c,rfl,rfl,hz,he,q⟩:=h;obtain⟨t,rfl⟩:=rx;obtain⟨t',rfl⟩:=ry;obtain⟨j,h1,h2,h3,h4,h5⟩:=aCG he;have hl:z.cps.toList.length=z.length:=by simp[Str.length]
 rw[hl]at h1 h4 h5;have hn:=vA;exact tail_any (typeIs_str s z t) slot_str_getitem.lookup (getItem_str (c:=c) (by
  have e1:decide (i < -(2^63:Int))=false:=decide_eq_false (by lia);have e2:decide (i ≥ 2^63)=false:=decide_eq_false (by lia);rw[e1,e2,Bool.or_false]) (by rw[h1];simpa using h2) ⟨.str ⟨#[c]⟩,H,I.tok _,⟨_,rfl⟩,q⟩) hs
def rIx(K:zAA):R2:=λ x y H Q=>aNH K x y H Q\/aPO K x y H Q\/aPP x y H Q
def aOK:IxR X (rIx X.K):=aBi.or (aOI.or aOJ)
def aE2(its:List Value)(n j:Nat)(u:Value):zC7 (·.setIfInBounds j u) {cls:=.type "list",data:=.seq its.toArray n}={cls:=.type "list",data:=.seq (its.set j u).toArray n}:=by
 simp[zC7]
theorem Inv.lst(I:Inv X kX Z H s)(h:H p=some (.lst xs)):
  ∃(its:List Value) (n:Nat),Vals xs its/\s.heap.get? p=some {cls:=.type "list",data:=.seq its.toArray n}/\xs.length<=zAX:=by
 obtain⟨z,its,n,r,e⟩:=I.hok p _ h;exact⟨its,n,r,e,z⟩
def Inv.lstUpd{kX:hZ}{Z:St}{H:Hp}{s:zAG}{p:Addr}{xs ys:List V}{its its':List Value}{n n':Nat}{f:Obj->Obj}(I:Inv X kX Z H s)(h:H p=some (.lst xs))
  (ho:s.heap.get? p=some {cls:=.type "list",data:=.seq its.toArray n})(hf:f {cls:=.type "list",data:=.seq its.toArray n}={cls:=.type "list",data:=.seq its'.toArray n'})(r:Vals ys its')(hz:ys.length<=zAX)(t:Nat):
  Inv X kX Z (upd H p (.lst ys)) {s with heap:=s.heap.update p f,toks:=t}:=by
 have e:(s.heap.update p f).get? p=some {cls:=.type "list",data:=.seq its'.toArray n'}:=by
  rw[zC0 f ho (by rw[hf]<;>rfl),hf]
 refine I.write (x:=p) (e:=p) (by rw[h];trivial) (.inl rfl) (λ b u hb q=>(zBu _ _ (zDU hb)).trans q) ⟨_,e⟩ ?_;exact⟨hz,its',n',r,e⟩
def aMO:V->V->V->Hp->(Hp->Prop)->Prop:=λ o i v H Q=>∃p xs k j,o= .ref p/\i= .int k/\H p=some (.lst xs)/\ixN xs.length k=some j/\Q (upd H p (.lst (xs.set j v)))
def set_list:aPn X aMO:=by
 intro kX s Z H o i v ov iv u Q I ro ri rv h;obtain⟨p,xs,k,j,rfl,rfl,hp,hj,q⟩:=h;cases ro;obtain⟨t,rfl⟩:=ri;obtain⟨its,n,r,ho,hz⟩:=I.lst hp;obtain⟨h1,h2,h3,h4⟩:=aFn hj;have hl:=r.length;have hn:=vA;have I':Inv X kX Z (upd H p (.lst (xs.set j v))) {s with heap:=s.heap.update p (zC7 (·.setIfInBounds j u))}:=
  I.lstUpd hp ho (aE2 its n j u) (r.set rv j) (by rw[zBK];exact hz) s.toks
 by_cases h0:0<=k
 .have hk:k.toNat=j:=by
   rw[zIw h0 h4]at h1;exact zAa h1
  exact PySem.W.ki_setAt ho h0 (by lia) (by rw[zAP,<-hl];exact h4) (by rw[hk];exact⟨_,I',q⟩)
 .have hk:(k+(its.toArray.size:Int)).toNat=j:=by
   rw[zIj (by lia) h3]at h1;rw[zAP,<-hl];exact zAa h1
  exact PySem.W.ki_setBack ho (by lia) (by rw[zAP,<-hl];exact h3) (by lia) (by rw[hk];exact⟨_,I',q⟩)
def aBG(lo hi:Option Int)(n:Nat):(zEM lo hi none n).1=((HT.sIx n 0 lo:Nat):Int)/\(zEM lo hi none n).2.1=((HT.sIx n n hi:Nat):Int)/\(zEM lo hi none n).2.2=1:=by
 refine⟨?_,?_,rfl⟩
 .cases lo with
  |none=>simp[zEM,HT.sIx]
  |some i=>
   simp only[zEM,HT.sIx,zHw,show(1:Int)>0 by decide,if_true];by_cases h:i<0
   .simp only[h,if_true]<;>lia
   .simp only[h,if_false]<;>lia
 .cases hi with
  |none=>simp[zEM,HT.sIx]
  |some i=>
   simp only[zEM,HT.sIx,zHw,show(1:Int)>0 by decide,if_true];by_cases h:i<0
   .simp only[h,if_true]<;>lia
   .simp only[h,if_false]<;>lia
def zm(its:List Value)(lo hi:Option Int):slicePick its.toArray lo hi none=((its.drop (HT.sIx its.length 0 lo)).take (HT.sIx its.length its.length hi-HT.sIx its.length 0 lo)).toArray:=by
 obtain⟨h1,h2,h3⟩:=aBG lo hi its.toArray.size;unfold slicePick;rw[h1,h2,h3];simp only[sliceRange_one,pick_run,zAP]<;>rfl
def aPL(K:zAA):V->Option Int->Option Int->Hp->VK->Prop:=λ x lo hi H Q=>∃a xs,x= .ref a/\SqL K H a xs/\∀p,H p=none->Q (.ref p) (upd H p (.lst (zV xs lo hi)))
def aKV:SlR X (aPL X.K):=by
 intro kX s Z H x v vl vu lo hi sl Q I rx hs pl pu h;obtain⟨a,xs,rfl,hx,q⟩:=h;cases rx;obtain⟨its,r,ht,hz⟩:=I.list hx;have kK:=r.length;refine⟨"list",_,zJ7.lookup,ht.isList.typeIs,?_⟩;refine wpAny_getItem_list_slice ht.isList hs pl pu .none (by simp) ?_ (by rw[zAP]<;>lia);rw[zm,<-kK];refine⟨.ref s.heap.objs.size,_,I.laid (t':=s.toks) (o:=.lst (zV xs lo hi)) (λ b ob q=>zAC _ q) (zAQ _) ?_,rfl,q _ (I.hok.fresh (zAQ _))⟩;exact⟨zAl (wG xs lo hi) hz,_,0,(r.drop (HT.sIx xs.length 0 lo)).take (HT.sIx xs.length xs.length hi-HT.sIx xs.length 0 lo),zAL _ rfl⟩
def aCC:cg X (.builtin "len") (λ xs H Q=>∃p ys,xs=[.ref p]/\(SqL X.K H p ys\/SqT X.K H p ys)/\Q (.int ys.length) H):=by
 intro kX s Z H xs us Q I r h;obtain⟨p,ys,rfl,hq,q⟩:=h;obtain⟨u,rfl,rx⟩:=vals1 r;cases rx;have hn:=vA;rcases hq with hq|hq
 .obtain⟨its,r',pl,hz⟩:=I.list hq
  have kK:=r'.length;exact Calls.call_len_list pl.isList (by simp only[zAP]<;>lia) ⟨.int ys.length,H,I.tok _,⟨s.toks+1,by rw[zAP,kK]⟩,q⟩
 .obtain⟨its,r',pl,hz⟩:=I.tuple hq
  have kK:=r'.length;exact len_tuple pl (by simp only[zAP]<;>lia) ⟨.int ys.length,H,I.tok _,⟨s.toks+1,by rw[zAP,kK]⟩,q⟩
def cg.or(h:cg X f r)(h':cg X f r'):cg X f (λ xs H Q=>r xs H Q\/r' xs H Q):=by
 intro kX s Z H xs us Q I rs q;rcases q with q|q
 .exact h kX s Z H xs us Q I rs q
 .exact h' kX s Z H xs us Q I rs q
def aCA:cg X (.type "list") (λ xs H Q=>∃p ys,xs=[.ref p]/\(SqL X.K H p ys\/SqT X.K H p ys)/\∀l,H l=none->Q (.ref l) (upd H l (.lst ys))):=by
 intro kX s Z H xs us Q I r h;obtain⟨p,ys,rfl,hq,q⟩:=h;obtain⟨u,rfl,rx⟩:=vals1 r;cases rx;have fin:∀(its:List Value),Vals ys its->ys.length<=zAX->∀(h':Heap) (c':Nat),(∀b o',s.heap.get? b=some o'->h'.get? b=some o')->
   h'.get? s.heap.objs.size=some {cls:=.type "list",dict:=none,data:=.seq its.toArray c',slots:=#[]}->EP X kX Z Q (.ref s.heap.objs.size) {s with heap:=h'}:=λ its r' hz h' c' kp e=>
  ⟨.ref s.heap.objs.size,_,I.laid (t':=s.toks) kp (zAQ _) (show cZ X.prog X.w _ h' _ (.lst ys)from⟨hz,its,c',r',e⟩),rfl,q _ (I.hok.fresh (zAQ _))⟩
 rcases hq with hq|hq
 .obtain⟨its,r',pl,hz⟩:=I.list hq
  have kK:=r'.length;obtain⟨o,ho,hc,n,hd⟩:=pl.isList;exact call_list_seq p (.inl rfl) ho hc hd (λ h' c' kp e=>fin its r' hz h' c' kp e) (by simp only[zAP]<;>lia)
 .obtain⟨its,r',pl,hz⟩:=I.tuple hq
  have kK:=r'.length;obtain⟨o,ho,hc,n,hd⟩:=pl;exact call_list_seq p (.inr rfl) ho hc hd (λ h' c' kp e=>fin its r' hz h' c' kp e) (by simp only[zAP]<;>lia)
def aAF:cg X (.type "tuple") (λ xs H Q=>∃p ys,xs=[.ref p]/\((SqL X.K H p ys/\∀l,H l=none->Q (.ref l) (upd H l (.tup ys)))\/(SqT X.K H p ys/\Q (.ref p) H))):=by
 intro kX s Z H xs us Q I r h;obtain⟨p,ys,rfl,h⟩:=h;obtain⟨u,rfl,rx⟩:=vals1 r;cases rx;rcases h with ⟨hq,q⟩|⟨hq,q⟩
 .obtain⟨its,r',pl,hz⟩:=I.list hq
  have kK:=r'.length;refine call_tuple_list pl.isList (λ h' kp=>?_) (by simp only[zAP]<;>lia);have I1:Inv X kX Z H {s with heap:=h'}:=I.kept (t':=s.toks) kp;have I2:Inv X kX Z (upd H h'.objs.size (.tup ys)) {s with heap:=h'.push {cls:=.type "tuple",data:=.seq its.toArray}}:=
   I1.laid (t':=s.toks) (λ b o e=>zAC _ e) (zAQ _) (show cZ X.prog X.w _ _ _ (.tup ys)from⟨⟨hz,NoD.push _⟩,its,r',zHD _ _⟩)
  exact⟨.ref h'.objs.size,_,I2,rfl,q _ (I1.hok.fresh (zAQ _))⟩
 .obtain⟨its,r',pl,hz⟩:=I.tuple hq
  exact call_tuple_same pl ⟨.ref p,H,I,rfl,q⟩
def tyV(K:zAA)(T:String)(x:V)(H:Hp):Prop:=match x with
 | .str _=>T="str"
 | .int _=>T="int"
 | .ref p=>(T="list"/\∃xs,SqL K H p xs)\/(T="tuple"/\∃o,K.lookup p=some o/\o.cls= .type "tuple"/\o.dict=none)\/
   (T="dict"/\((∃kvs,H p=some (.dK kvs))\/∃kvs,H p=some (.dT kvs)))\/(T="set"/\∃S n,H p=some (.set S n))
 |_=>False
def aMi(I:Inv X kX Z H s)(r:RelV x v)(ty:tyV X.K T x H):
  s.TypeIs v T/\∀a,v= .ref a->∃ob,s.heap.get? a=some ob/\ob.dict=none:=by
 cases x with
 |str z=>
  obtain⟨t,rfl⟩:=r;cases (show T="str" from ty);exact⟨typeIs_str s z t,λ _ e=>nomatch e⟩
 |int i=>
  obtain⟨t,rfl⟩:=r;cases (show T="int" from ty);exact⟨zJ8 s i t,λ _ e=>nomatch e⟩
 |ref p=>
  cases r;rcases ty with ⟨rfl,xs,hq⟩|⟨rfl,o,hk,hc,hd⟩|⟨rfl,hk⟩|⟨rfl,S,n,hk⟩
  .obtain⟨its,_,pl,_⟩:=I.list hq
   refine⟨pl.isList.typeIs,λ a e=>?_⟩;cases e;obtain⟨o,n,e,c,hd,_⟩:=pl;exact⟨o,e,hd⟩
  .refine⟨⟨o,I.kIn p o hk,hc⟩,λ a e=>?_⟩
   cases e;exact⟨o,I.kIn _ o hk,hd⟩
  .have z:∃o,s.heap.get? p=some o/\o.ExactDict:=by
    rcases hk with ⟨kvs,hk⟩|⟨kvs,hk⟩
    .obtain⟨_,_,_,_,o,_,_,e,ex,_⟩:=I.hok p _ hk
     exact⟨o,e,ex⟩
    .obtain⟨_,_,_,_,o,_,_,e,ex,_⟩:=I.hok p _ hk
     exact⟨o,e,ex⟩
   obtain⟨o,e,ex⟩:=z;refine⟨⟨o,e,ex.1⟩,λ a e2=>?_⟩;cases e2;exact⟨o,e,ex.2.1⟩
  .obtain⟨o,_,_,_,e,ex,_⟩:=I.hok p _ hk
   refine⟨⟨o,e,ex.1⟩,λ a e2=>?_⟩;cases e2;exact⟨o,e,ex.2.1⟩
 |_=>exact zAR ty
def tBM(K:zAA)(T:String)(r:V->List V->Hp->VK->Prop)(to:TE)(t:TA):TE:=λ Z H Q=>to Z H λ x H1=>tyV K T x H1/\t Z H1 λ xs H2=>r x xs H2 Q
variable{o e:Expr}{es:List Expr}{to:TE}{t:TA}{name:Str}{apos cpos:Pos}{T id:String}{r:V->List V->Hp->VK->Prop}
def aAR(pa:PlainAttrs T)(slot:Slot T name id)(hty:typeOf (.builtin id)=pure (.type "method_descriptor"))(hm:MtR X id r)(ho:PE X o to)(ha:PA X (e::es) t)
  (hbase:zEq o name X.env (eval o X.env)=eval o X.env:=by rfl)
  (hfew:((zCo cpos (zAZ (e::es) X.env)).all (λ x=>!x.1)&&(zGE cpos (zEL [] X.env)).all (λ x=>x.1.isSome)
   &&decide ((e::es).length+([]:List zDJ).length+(if ([]:List zDJ).isEmpty then 0 else 1)<30))=true:=by rfl)
  (hline:(apos.endLine==cpos.line)=true:=by rfl)(hs:zAZ (e::es) X.env=(false,eval e X.env)::zAZ es X.env:=by rfl)(hplain:(zCo cpos (zAZ es X.env)).any (·.1)=false:=by rfl):
  PE X (.Call (.Attribute o name apos) (e::es) [] cpos) (tBM X.K T r to t):=by
 intro kX s Z H Q I h;refine wpAny_Call_method_late hbase hfew hline rfl (thn (ho kX s Z H _ I h) λ v s1 ⟨x,H1,I1,r1,ty,q1⟩=>?_);obtain⟨h1,h2⟩:=aMi I1 r1 ty;refine⟨T,id,pa,slot,hty,h1,h2,?_⟩;have hA:=ha cpos kX s1 Z H1 _ I1 q1;rw[hs]at hA ⊢;refine Calls.callWith_builtin (by show(false||(zCo cpos (zAZ es X.env)).any (·.1))=false;rw[hplain]<;>rfl) (zHQ ?_);exact thn hA λ us s2 ⟨vs,H2,I2,r2,q2⟩=>hm kX s2 Z H2 x vs v us Q I2 r1 r2 q2
end
def MtM(X:Cx)(id:String)(r:V->List V->Hp->VK->Prop):Prop:=
 ∀(kX:hZ) (s:zAG) (Z:St) (H:Hp) (x:V) (xs:List V) (v:Value) (us:List Value) (Q:VK),Inv X kX Z H s->RelV x v->Vals xs us->r x xs H Q->
  wpAny (model X.prog X.w) X.A (call (.builtin id) (v::us)) (EP X kX Z Q) X.xe s
def Vals.one:∀{x:V} {us:List Value},Vals [x] us->∃u,us=[u]/\RelV x u
 |_,_,.cons r .nil=>⟨_,rfl,r⟩
theorem Vals.reverse(h:Vals xs us):Vals xs.reverse us.reverse:=by
 induction h with
 |nil=>exact .nil
 |cons r t ih=>rw[zDZ,zDZ];exact Vals.append ih (.cons r .nil)
theorem Vals.rep(h:Vals xs us):∀k:Nat,Vals (zAM k xs).flatten (zAM k us).flatten
 |0=>.nil
 |k+1=>by
  rw[zBy,zBy,zBd,zBd];exact Vals.append h (Vals.rep h k)
theorem foldl_rep(its:List Value):∀(k:Nat) (acc:List Value),
  zIM (λ x1 x2=>x1++x2) acc.toArray (zAM k its.toArray)=(acc++(zAM k its).flatten).toArray
 |0,acc=>by simp
 |k+1,acc=>by
  have e:acc.toArray++its.toArray=(acc++its).toArray:=by simp
  have e2:(acc++its)++(zAM k its).flatten=acc++(zAM (k+1) its).flatten:=by
   rw[zBy,zBd,zB6]
  rw[<-e2,<-foldl_rep its k (acc++its),<-e,zBy,zBH]
section
variable{X:Cx}{kX:hZ}{Z:St}{H:Hp}{s:zAG}{l:Addr}{xs ys:List V}
def Inv.lset{its its':List Value}{n:Nat}{f:Array Value->Array Value}{t':Nat}(I:Inv X kX Z H s)(hH:H l=some (.lst xs))
  (e:s.heap.get? l=some {cls:=.type "list",data:=.seq its.toArray n})(hf:f its.toArray=its'.toArray)(hv:Vals ys its')(hz:ys.length<=zAX):
  Inv X kX Z (upd H l (.lst ys)) {s with heap:=s.heap.update l (zC7 f),toks:=t'}:=by
 have q:=PySem.IsL.update e f;rw[hf]at q;refine I.write (x:=l) (e:=l) (by rw[hH];exact trivial) (.inl rfl) (λ b' u hb hu=>(zBu s.heap (zC7 f) (zDU hb)).trans hu) ⟨_,q⟩ ?_;exact⟨hz,its',_,hv,q⟩
def Inv.lnew(I:Inv X kX Z H s)(hv:Vals ys its)(hz:ys.length<=zAX):
  Inv X kX Z (upd H s.heap.objs.size (.lst ys)) {s with heap:=s.heap.push {cls:=.type "list",data:=.seq its.toArray},toks:=t'}:=
 I.laid (λ _ _ q=>zAC _ q) (zAQ _) ⟨hz,its,0,hv,zAL _ rfl⟩
theorem Inv.fresh(I:Inv X kX Z H s):H s.heap.objs.size=none:=I.hok.fresh (zAQ _)
def Inv.lstM(I:Inv X kX Z H s)(hH:H l=some (.lst xs)):xs.length<=zAX/\∃(its:List Value) (n:Nat),Vals xs its/\xs.length=its.length/\s.heap.get? l=some {cls:=.type "list",data:=.seq its.toArray n}:=by
 obtain⟨z,its,n,r,e⟩:=I.hok l _ hH;exact⟨z,its,n,r,r.length,e⟩
def aCn(h:n<=zAX):zCr n=false:=by
 unfold zCr;exact decide_eq_false (by lia)
end
section
variable{X:Cx}
def aKh:V->List V->Hp->VK->Prop:=λ x vs H Q=>∃l xs y,x= .ref l/\vs=[y]/\H l=some (.lst xs)/\xs.length<zAX/\Q .non (upd H l (.lst (xs++[y])))
def aAW:MtM X "list.append" aKh:=by
 intro kX s Z H x vs v us Q I rx rv h;obtain⟨l,xs,y,rfl,rfl,hH,hz,q⟩:=h;cases rx;obtain⟨u,rfl,ru⟩:=rv.one;obtain⟨z,its,n,r,hl,e⟩:=I.lstM hH;refine zFV zE6 ⟨_,e,rfl⟩ F.entry_list_append (F.args_list_append_2 _ _) (PySem.list_append l its.toArray n u (by rw[zAP];lia)) ⟨e,?_⟩;refine⟨.non,_,I.lset (its':=its++[u]) hH e (by simp) (r.append (.cons ru .nil)) ?_,rfl,q⟩;rw[zA1,zBY];lia
def aKf:V->List V->Hp->VK->Prop:=λ x vs H Q=>∃l b xs zs,x= .ref l/\vs=[.ref b]/\H l=some (.lst xs)/\H b=some (.lst zs)/\xs.length+zs.length<=zAX/\Q .non (upd H l (.lst (xs++zs)))
def aGk:MtM X "list.extend" aKf:=by
 intro kX s Z H x vs v us Q I rx rv h;obtain⟨l,b,xs,zs,rfl,rfl,hH,hB,hz,q⟩:=h;cases rx;obtain⟨u,rfl,ru⟩:=rv.one;cases ru;obtain⟨z,its,n,r,hl,e⟩:=I.lstM hH;obtain⟨z2,its2,n2,r2,hl2,e2⟩:=I.lstM hB;have hsz:its.toArray.size+its2.toArray.size<=zAX:=by rw[zAP,zAP];lia
 have dL:¬(!its.toArray.isEmpty&&zCr (its.toArray.size+its2.toArray.size))=true:=by
  rw[aCn hsz,zEv];exact zAO
 refine zFV zHR ⟨_,e,rfl⟩ F.entry_list_extend (F.args_list_extend_2 _ _)
  (AutoSeq1.list_extend_list_list_0 l its.toArray n b its2.toArray n2 dL (by rw[zAP];lia) (by lia)) ⟨e,e2,?_⟩
 refine⟨.non,_,I.lset (its':=its++its2) hH e (by simp) (r.append r2) ?_,rfl,q⟩;rw[zA1];lia
def aQG:R2:=λ x y H Q=>∃l b xs zs,x= .ref l/\y= .ref b/\H l=some (.lst xs)/\H b=some (.lst zs)/\xs.length+zs.length<=zAX/\∀p,H p=none->Q (.ref p) (upd H p (.lst (xs++zs)))
def aNq:OpR X (zCe .Add) aQG:=by
 intro kX s Z H x y v u Q I rx ry h;obtain⟨l,b,xs,zs,rfl,rfl,hH,hB,hz,q⟩:=h;cases rx;cases ry;obtain⟨z,its,n,r,hl,e⟩:=I.lstM hH;obtain⟨z2,its2,n2,r2,hl2,e2⟩:=I.lstM hB;refine PySem.P.add_list e e2 ?_ (by rw[zAP,zAP];lia);have ea:its.toArray++its2.toArray=(its++its2).toArray:=by simp
 rw[ea];exact⟨.ref _,_,I.lnew (t':=s.toks) (r.append r2) (by rw[zA1];lia),rfl,q _ I.fresh⟩
def aPN:R2:=λ x y H Q=>∃l k xs,x= .ref l/\y= .int k/\H l=some (.lst xs)/\-(2^63)<=k/\k<2^63/\xs.length*k.toNat<=zAX/\
 ∀p,H p=none->Q (.ref p) (upd H p (.lst (zAM k.toNat xs).flatten))
def len_rep(xs:List α)(k:Nat):(zAM k xs).flatten.length=k*xs.length:=by
 induction k with
 |zero=>simp
 |succ k ih=>rw[zBy,zBd,zA1,ih,Nat.succ_mul,Nat.add_comm]
def aNc:OpR X (zCe .Mult) aPN:=by
 intro kX s Z H x y v u Q I rx ry h;obtain⟨l,k,xs,rfl,rfl,hH,h1,h2,hz,q⟩:=h;cases rx;obtain⟨t,rfl⟩:=ry;obtain⟨z,its,n,r,hl,e⟩:=I.lstM hH;have kK:its.toArray.size*k.toNat<=zAX:=by rw[zAP,<-hl];exact hz
 have hcap:¬its.toArray.size*k.toNat>(2^63-1) / 8:=by
  have:(zAX:Nat)<=(2^63-1) / 8:=by decide
  lia
 have hfit:¬(!Builtin.List.listFitsIndex k)=true:=by
  rw[fitsIndex_both h1 h2];exact zAO
 have dL:¬zCr (its.toArray.size*k.toNat)=true:=by
  rw[aCn kK];exact zAO
 have hnew:zIM (λ x1 x2=>x1++x2) #[] (zAM (if its.toArray.isEmpty=true then 0 else k.toNat) its.toArray)=(zAM k.toNat its).flatten.toArray:=by
  have f0:∀m:Nat,zIM (λ x1 x2=>x1++x2) #[] (zAM m its.toArray)=(zAM m its).flatten.toArray:=λ m=>by
   have:=foldl_rep its m []
   rw[zCU]at this;exact this
  rw[f0];cases its with
  |nil=>simp
  |cons a r'=>rw[if_neg (by simp)]
 refine wpAny_binaryOp_repeat_ref (T:="list") (U:="int") (by decide) ⟨_,e,rfl⟩ (λ s'=>zJ8 s' k t) noFill_list_mul F.fills_int_mul zJQ repeat_list F.slot_int_index.lookup
  (zFV zJQ (zJ8 s k t) F.entry_int_rmul (F.args_int_rmul_2 _ _) (int___rmul___int_list k t l its.toArray n)
   ⟨e,rfl,⟨_,e,rfl⟩,zFV F.slot_list_mul ⟨_,e,rfl⟩ F.entry_list_mul (F.args_list_mul_2 _ _) (AutoListH.list___mul___list_int_3 l its.toArray n k t hfit hcap dL) ⟨e,?_⟩⟩)
 rw[hnew];exact⟨.ref _,_,I.lnew (t':=s.toks) (r.rep k.toNat) (by rw[len_rep,Nat.mul_comm];exact hz),rfl,q _ I.fresh⟩
end
end L2
namespace Att
open PySem PySem.W PySem.Calls PyProof.Rows
def wN:∀(ns:List Int) (vs:List Value),WellAll P h vs (ns.map WData.int)->zB8 vs ns:=by
 intro ns;induction ns with
 |nil=>
  intro vs w;rw[zFh]at w;cases w;exact .nil
 |cons n ns ih=>
  intro vs w;rw[zAS]at w;cases w with
  |cons a b=>
   cases a;exact .cons _ _ (ih _ b)
def aG0{l:OpenLaw}{n:Nat}(hn:l.most=some n){P:Params}{h:Heap}{args:List WData}{vals:List Value}
  (hpre:l.row.toRowW.claim.pre args=true)(hwl:WellAll P h vals args):
  ∃a vs ns,vals=[zBF a]/\args=[WData.list (ns.map WData.int)]/\h.get? a=some {cls:=.type "list",data:=.seq vs.toArray}/\zB8 vs ns/\ns.length<=n:=by
 have hsh:WShape.hasAll [] args [.list .int]=true:=(pre_splitW hpre).1;have hc:l.pre.holds [] {args:=args}=true:=(pre_splitW hpre).2;obtain⟨d,r,rfl,h1,h2⟩:=hasAllW_cons hsh;obtain rfl:=hasAllW_nil h2;obtain⟨xs,rfl,h3⟩:=hasW_list h1;obtain⟨ns,rfl⟩:=items_int h3;have kK:ns.length<=n:=by
  unfold OpenLaw.pre at hc;have h4:(WTm.not (.lt (.lit (.int (n:Int))) (.len (.arg 0)))).holds [] {args:=[.list (ns.map .int)]}=true:=by
   have h4:=(holds_andW hc).1;rw[hn]at h4;exact h4
  have h5:=condW_of h4 (w_not (w_lt w_lit (w_len_list (w_arg rfl))));rw[zAD]at h5;refine zEc λ q=>?_
  have q':(n:Int)<((ns.length:Nat):Int):=by lia
  first
   |(rw[decide_eq_true q']at h5;exact absurd h5 (by decide))
   |(simp at h5;lia)
 cases hwl with
 |cons w1 w2=>
  cases w2;cases w1 with
  |list ho oQ=>exact⟨_,_,ns,rfl,rfl,ho,wN ns _ oQ,kK⟩
def aGa(l:OpenLaw)(args:List WData):l.row.toRowW.claim.post args (.bool true) args=true:=
 postW_of (r:=l.row.toRowW) (X:=(true==true))
  (show WShape.has [] (.bool true) .bool=true by first|rfl|decide|simp[WShape.has,WShape.arms,WShape.armsAll])
  (show(WTm.eq .res (.lit (.bool true))).value [] {args:=args,res:=some (.bool true),after:=args}=some (.bool (true==true))from w_eq_bool (w_res rfl) w_lit) rfl
def aD5{l:OpenLaw}{n:Nat}{q:zA2}{loose:List Str}{XP:(Str->Option Value)->Heap->Prop}{YP:World->Heap->Prop}{d:DefRec}
  (hn:l.most=some n)(hdf:d.params.defaults=[])
  (call:∀(w:World) (z0 zI:zAG) (mg mb:Str->Option Value) (fa:Addr) (o:Obj) (pm cd doc:Value) (a:Addr) (vs:List Value) (ns:List Int),
   Ground q loose [] XP w z0 mg mb zI.heap->YP w zI.heap->
   zI.heap.get? fa=some o->o.data= .func (docDef d.name d.params d.body d.scope pm cd doc)->zI.heap.CodeRec cd d.name->mg d.name=some (.ref fa)->
   zI.heap.get? a=some {cls:=.type "list",data:=.seq vs.toArray}->zB8 vs ns->ns.length<=n->zI.gens=#[]->
   zCW (model l.prog w) zCv (.call (.ref fa) ⟨[.ref a],[]⟩) (λ r s'=>r= .ok (.ret (.bool true))/\OldK zI.heap s'.heap/\s'.os=zI.os/\zFG s'.gens) zI):
  WalkO q loose XP YP l.row.toRowW d [] (λ f vs=>zHz f vs):=by
 intro w z0 zI mg mb G Y fa o pm cd doc dV kV ho hd hcd hD hmg hg args vals as hpre hlay hrd hwl hlo;obtain rfl:dV= .none:=Dflts.none hD hdf;obtain rfl:kV= .none:=Dflts.noKw hD;obtain⟨a,vs,ns,rfl,rfl,hobj,hints,kK⟩:=aG0 hn hpre hwl;refine enter_call (zDW (call w z0 zI mg mb fa o pm cd doc a vs ns G Y ho (fd_plain hd) hcd hmg hobj hints kK hg) λ r s' hq=>?_);obtain⟨rfl,h2,h3,h4⟩:=hq;exact⟨.inl ⟨.bool true,.bool true,[],rfl,λ _=>rfl,.bool true,aGa l _,λ _=>⟨zGS,λ _ hm=>(nomatch hm)⟩⟩,h2,h3,h4⟩
section
variable{prog:zA2}{w:World}{A:zAc}{E:Value->zAG->Prop}{s:zAG}{K:Frag}
def make_obj(X:K.In s.heap)(hm:makesIn K C=true)(hi:findIn K (.ref C) "__init__"=some (some (.ref fI)))(hf:isFn K (.ref fI)=true)
  (h:zCW (model prog w) (A.under (.builtin "type.__call__" ⟨.ref C::rest,kw⟩)) (.call (.ref fI) ⟨.ref (s.heap.objs.size+1)::rest,kw⟩) (InitBack (s.heap.objs.size+1) R)
   {s with heap:=(s.heap.push emptyDict).push (instObj C s.heap.objs.size)}):zCW (model prog w) A (.call (.ref C) ⟨rest,kw⟩) R s:=by
 obtain⟨hh,g,d,t,os⟩:=s;exact make_core (makes_of X hm) (looks_findIn X hi) (λ self=>bind_fn X self (beq_iff_eq.mp hf)) (.inl rfl) h
def get_field(X:K.In s.heap)(I:zIR s.heap x ox C (some (dictOf es n)))(hg:plainGet K C name=true)(hh:hasDictIn K C=true)(ha:findIn K (.ref C) name=some none)
  (hl:getL name es=some (some v))(hv:handedIn v=true)(h:Q v {s with toks:=s.toks+1}):wpAny (model prog w) A (getAttr (.ref x) name expr) Q E s:=
 get_value X I (plainGet_of hg).1 (findObj_own hh ha rfl hl) hv h
def ledger(h:Heap)(L d:Addr):hZ:=(zAm h.objs.size).filterMap λ a=>if a=L\/a=d then none else(h.get? a).map λ o=>(a,o)
end
end Att
namespace L2
open PySem PySem.Spec PyProof.Rows
theorem aAK:∀{vs:List Value} {ns:List Int},zB8 vs ns->Vals (ns.map V.int) vs
 |_,_,.nil=>.nil
 |_,_,.cons n t h=>.cons ⟨t,rfl⟩ (aAK h)
def Only(H:Hp):Prop:=∀b,H b=none\/∃o xs,H b=some (.frz o (.lst xs))
def nZ(s:Stmt):zD0:=match s with
 | .FunctionDef _ a _ _ _ _ _ _ _ _=>a
 |_=>{posonlyargs:=[],args:=[],vararg:=none,kwonlyargs:=[],kw_defaults:=[],kwarg:=none,defaults:=[]}
def dM(s:Stmt):List Stmt:=match s with
 | .FunctionDef _ _ b _ _ _ _ _ _ _=>b
 |_=>[]
def aJ(s:Stmt):Scope:=match s with
 | .FunctionDef _ _ _ _ _ _ sc _ _ _=>sc
 |_=>{kind:=.function,names:=[],isGenerator:=false,isCoroutine:=false}
abbrev CX0:CXT:=λ _ _ _ _ _ _=>False
abbrev E0:XK:=λ _ _ _=>False
structure Fun(K:zAA)(x qual:Str)(st:Stmt)(f:Addr)(fd:zAo):Prop where
 ex:∃(oc:Value) (od:Option Addr) (kV doc pm:Value) (an:Option Addr) (cdv ct:Value) (osl:Array (Option Value)),
  fd=zBz x qual (nZ st) (dM st) (aJ st) .none kV doc pm an cdv ct/\K.lookup f=some ⟨oc,od,.func fd,osl⟩/\zDV K cdv qual=true
 kp:zBx K (.ref f)=true
section
variable{K:zAA}
def Fun.binds{x qual:Str}{st:Stmt}{f:Addr}{fd:zAo}{ps:List Str}(F:Fun K x qual st f fd)
  (h:∀(kV doc pm:Value) (an:Option Addr) (cdv ct:Value) (us:List Value),us.length=ps.length->zJG (zBz x qual (nZ st) (dM st) (aJ st) .none kV doc pm an cdv ct) ⟨us,[]⟩=pure (ps.zip us)):Binds K fd ps []:=by
 obtain⟨oc,od,kV,doc,pm,an,cdv,ct,osl,rfl,lk,hcd⟩:=F.ex;exact .all (h kV doc pm an cdv ct)
def aOW{x qual:Str}{st:Stmt}{f:Addr}{oc:Value}{od an:Option Addr}{osl:Array (Option Value)}{kV doc pm cdv ct:Value}(l:K.lookup f=some ⟨oc,od,.func (zBz x qual (nZ st) (dM st) (aJ st) .none kV doc pm an cdv ct),osl⟩)
  (c:zDV K cdv qual=true)(k:zBx K (.ref f)=true):Fun K x qual st f (zBz x qual (nZ st) (dM st) (aJ st) .none kV doc pm an cdv ct):=⟨⟨oc,od,kV,doc,pm,an,cdv,ct,osl,rfl,l,c⟩,k⟩
end
def aPd(hr:fB k A):A.units+1<cLine:=zC2 (Nat.add_le_add_left (by decide:1<=64) _) hr.units
section
variable{X:Cx}
def pv(i:Nat)(hN:X.N[i]? =some x:=by rfl)(hv:Vis X.env.scope x:=by first|exact zCf rfl|exact zCC (zCf rfl)|exact zCC (zCC rfl))(hd:Nd x:=by decide)
  (hcd:(x==("__classdict__":Str))=false:=by decide):PE X (.Name x pos) (oJ i):=gD hN hv hd hcd
end
def aV(H H':Hp):Prop:=∀b o,H b=some o->H' b=some o
def aV.refl(H:Hp):aV H H:=λ _ _ h=>h
def aV.trans(a:aV H H1)(b:aV H1 H2):aV H H2:=λ c o h=>b c o (a c o h)
def aV.free(e:aV H H')(h:H' l=zJD):H l=zJD:=by
 cases q:H l with
 |none=>rfl
 |some o=>
  rw[e l o q]at h;cases h
end L2
set_option maxHeartbeats 4000000
namespace HT
open PySem PyProof.Rows
def lexLe:List Int->List Int->Bool
 |[],_=>true
 |_::_,[]=>false
 |x::xs,y::ys=>if x=y then lexLe xs ys else decide (x<=y)
def aE9(x y:Int)(xs ys:List Int):lexLe (x::xs) (y::ys)=if x=y then lexLe xs ys else decide (x<=y):=rfl
def aIC(A:zAc)(s:zAG)(a:Int)(t:Tok)(c:Int)(u:Tok)(prog:zA2)(w:World)(E:Value->zAG->Prop)(Q:Value->zAG->Prop)(h:Q (.bool (decide (a<=c))) s):
  wpAny (model prog w) A (zHK .LtE (.int a t) (.int c u)) Q E s:=
 (PyProof.Rows.le_int h:wpAny (model prog w) A (zAw .LtE (.int a t) (.int c u)) Q E s)
section
open PySem.SeqAt
open PySem.AutoSeq1(wpAny_loadPart')
open PySem.MeetsSeq PySem.MeetsSeq2 PySem.MeetsSeq3
def zg(l b:Addr)(items items2:Array Value)(n n2:Nat)(dd dd2:Option Addr)(sl sl2:Array (Option Value))(ns ms:List Int)(hi:zB8 items.toList ns)(hj:zB8 items2.toList ms):
  Meets (zDq.«tuple.__le__» ⟨[.ref l,.ref b],[]⟩)
   (λ _ R s=>s.heap.get? l=some {cls:=.type "tuple",dict:=dd,data:=.seq items n,slots:=sl}/\s.heap.get? b=some {cls:=.type "tuple",dict:=dd2,data:=.seq items2 n2,slots:=sl2}/\
    R (.ok (.ret (.bool (lexLe ns ms)))) s):=
 .of_wp λ prog w A R s h=>by
  obtain⟨hp,g,d,tk,os⟩:=s;obtain⟨hl,hb,h⟩:=h;have f2:=zFx;have z1:items.size=ns.length:=by rw[<-hi.length];simp
  have z2:items2.size=ms.length:=by rw[<-hj.length];simp
  wp_walk using zFN hl,zFN hb,zDu _ (λ rest b s'=>b.1=none/\s'=⟨hp,g,d,tk,os⟩/\∃(vs ws:List Value) (ns' ms':List Int),rest=vs.zip ws/\
   zB8 vs ns'/\zB8 ws ms'/\ns'.length+items2.size=ms'.length+items.size/\R (.ok (.ret (.bool (lexLe ns' ms')))) ⟨hp,g,d,tk,os⟩) _
  case turn=>
   rintro⟨y,x⟩ rest b s' ⟨hb',rfl,vs,ws,ns',ms',hz,hvi,hwi,kK,hR⟩;cases hvi with
   |nil=>rw[zIO]at hz;cases hz
   |cons a t hvi'=>
    cases hwi with
    |nil=>rw[zHu]at hz;cases hz
    |cons c u hwi'=>
     rw[zBL]at hz;injection hz with hyx b9
     injection hyx with hy hx
     subst hy hx;rw[aE9]at hR;simp only[zA5]at kK;obtain⟨e,he,hiff⟩:=aDW A.in1 ⟨hp,g,d,tk,os⟩ a t c u;refine zAB (he prog w _ _ ?_);cases e with
     |true=>
      rw[if_pos (hiff.mp rfl)]at hR;wp_walk;exact⟨rfl,rfl,_,_,_,_,b9,hvi',hwi',by lia,hR⟩
     |false=>
      rw[if_neg (λ q=>absurd (hiff.mpr q) zAO)]at hR;have hri:=aIC A.in1 ⟨hp,g,d,tk,os⟩ a t c u prog w;wp_walk using hri;exact⟨_,rfl,by simpa using hR⟩
  case fin=>
   rintro⟨b1,b2⟩ s' ⟨hb',rfl,vs,ws,ns',ms',hz,hvi,hwi,kK,hR⟩;simp only at hb';subst hb';have hv:lexLe ns' ms'=decide (items.size<=items2.size):=by
    cases hvi with
    |nil=>
     simp only[zC6]at kK;have e:lexLe [] ms'=true:=by cases ms'<;>rfl
     rw[e];exact(decide_eq_true (by lia)).symm
    |cons a t hv=>
     cases hwi with
     |nil=>
      simp only[zC6,zA5]at kK;show false=_;exact(decide_eq_false (by lia)).symm
     |cons c u hw=>
      rw[zBL]at hz;cases hz
   rw[hv]at hR;wp_walk;exact⟨_,rfl,by simpa[zEd]using hR⟩
  case h=>
   exact⟨rfl,rfl,items.toList,items2.toList,ns,ms,rfl,hi,hj,by lia,h⟩
end
section
variable{prog:zA2}{w:World}{A:zAc}{E:Value->zAG->Prop}{s:zAG}
def aEa(hl:IsTup s.heap l items)(hb:IsTup s.heap b items2)(hi:zB8 items.toList ns)(hj:zB8 items2.toList ms)
  (hu:A.units<cLine)(h:Q (.bool (lexLe ns ms)) s):wpAny (model prog w) A (zAw .LtE (.ref l) (.ref b)) Q E s:=by
 obtain⟨⟨cls,dd,data,sl⟩,ho,hc,n,hd⟩:=id hl;obtain⟨⟨cls2,dd2,data2,sl2⟩,ho2,hc2,n2,hd2⟩:=id hb;simp only at hc hd hc2 hd2;subst hc hd hc2 hd2;exact zIX (op:=.LtE) ⟨_,ho,rfl⟩ ⟨_,ho2,rfl⟩ PySem.F.slot_tuple_le PySem.F.entry_tuple_le (PySem.F.args_tuple_le_2 _ _) (zg l b items items2 n n2 dd dd2 sl sl2 ns ms hi hj)
  ⟨ho,ho2,show zCu (lexLe ns ms)≠zHX/\Q (.bool (lexLe ns ms)) s from⟨(λ x=>nomatch x),h⟩⟩ hu
def aJp{ws:List Value}(ht:IsTup s.heap t #[])(hb:IsTup s.heap b ws.toArray)(h1:Q (.ref b) s):wpAny (model prog w) A (zCe .Add (.ref t) (.ref b)) Q E s:=by
 obtain⟨⟨cls,dd,data,sl⟩,ho,hc,n,hd⟩:=id ht;obtain⟨⟨cls2,dd2,data2,sl2⟩,ho2,hc2,n2,hd2⟩:=id hb;simp only at hc hd hc2 hd2;subst hc hd hc2 hd2;exact zIe ⟨_,ho,rfl⟩ ⟨_,ho2,rfl⟩ zGu zID zEW zEI (zEA _ _)
   (tuple_addW0 t b #[] ws.toArray n n2 dd dd2 sl sl2 (by simp)) ⟨ho,ho2,h1⟩
def tY{lo hi:Option Int}(ht:IsTup s.heap t items)(hs:s.heap.IsSliceOf sl vl vu .none)(pl:zGc vl lo)(pu:zGc vu hi)
  (h1:sIx items.size 0 lo=0)(h2:sIx items.size items.size hi=items.size)
  (h:Q (.ref t) s):wpAny (model prog w) A (zFn (.ref t) (.ref sl)) Q E s:=by
 obtain⟨os,hos,hcs,hds⟩:=id hs;have hTs:s.TypeIs (.ref sl) "slice":=⟨os,hos,hcs⟩;obtain⟨ot,hot,hct,hdt⟩:=id ht;unfold zFn
 try with_reducible refine zBI ?_
 first|refine zAB (zAF ?_)|skip
 refine zAB (zG9 ht.typeIs (by decide) ?_);refine zAB (zB5 (name:=zCt "__getitem__") ht.typeIs zBD
  (zB9 zBD ht.typeIs zFm ?_ (zGD _ _)))
 show wpAny _ _ (zD1 (.ref t)>>=_) _ _ s;refine zAB (zIH ht ?_);refine zAB (zE4 hTs ?_);rw[if_pos (by decide)];refine zAB (lq hs pl pu ?_);have hyes:(((sIx items.size 0 lo:Nat):Int)==0&&(1:Int)==1&&(sIx items.size items.size hi-sIx items.size 0 lo)==items.size)=true:=by
  rw[h1,h2];simp
 show wpAny _ _ (if (((sIx items.size 0 lo:Nat):Int)==0&&(1:Int)==1&&(sIx items.size items.size hi-sIx items.size 0 lo)==items.size)=true then _ else _) _ _ s;rw[if_pos hyes];unfold zJO;refine zAB (zAB (zE4 ht.typeIs (zAF ?_)));rw[if_pos (by decide)];exact zAB (zG8 (zAF ⟨_,rfl,zAF h⟩))
def aEF(n:Nat):zBq none none (-1) (n:Int)=((n:Int)-1,-1):=by
 unfold zBq;rfl
def aEE(n:Nat):zBW ((n:Int)-1) (-1) (-1)=n:=by
 unfold zBW;rw[if_neg (by decide)];by_cases h:n=0
 .subst h;rfl
 .rw[if_pos (by lia)]
  have e:((n:Int)-1 - -1-1) / (- -1)+1=n:=by
   rw[show(- -1:Int)=1 by decide,Int.ediv_one];lia
  rw[e];simp
def aHy(xs:Array Value):((zAm xs.size).filterMap λ(m:Nat)=>xs[(((xs.size:Int)-1)+(m:Int)*(-1)).toNat]?)=xs.toList.reverse:=by
 apply List.ext_getElem?;intro i;have key:∀n,n<=xs.size->((zAm n).filterMap λ(m:Nat)=>xs[(((xs.size:Int)-1)+(m:Int)*(-1)).toNat]?)=xs.toList.reverse.take n:=by
  intro n;induction n with
  |zero=>intro _;simp
  |succ n ih=>
   intro hn;rw[zGO,List.filterMap_append,ih (by lia),zFa];congr 1;have e:(((xs.size:Int)-1)+(n:Int)*(-1)).toNat=xs.size-1-n:=by lia
   simp only[zBZ,List.filterMap_nil,e];rw[List.getElem?_reverse (by rw[zAU];lia)];have e2:xs.toList.length-1-n=xs.size-1-n:=by simp
   rw[e2,zAf];have hlt:xs.size-1-n<xs.size:=by lia
   rw[zAs hlt];rfl
 rw[key xs.size (zAQ _),zDX (by simp)]
def uZ{n:Nat}(hs:s.heap.IsSliceOf sl .none .none (.int (-1) u))
  (h:Q ((n:Int)-1,-1,n) s):wpAny (model prog w) A (zCh (.ref sl) (pure (n:Int))) Q E s:=by
 obtain⟨os,hos,hcs,hds⟩:=id hs;unfold zCh zFH;refine zAB (zAB (zBg hos hds (x:=.none) rfl (zAB (zBg hos hds (x:=.none) rfl (zAB (zBg hos hds (x:=.int (-1) u) rfl (zAF ?_)))))));refine zAB (slicePart_int ?_);show wpAny _ _ (if ((-1:Int)==0)=true then _ else _) _ _ s;rw[if_neg (by decide)];refine zAB (zFf (zAB (zFf (zAB (zAF ?_)))));show wpAny _ _ (match zBq none none (-1) (n:Int)with|(lo,hi)=>pure (lo,(-1:Int),zBW lo hi (-1))) _ _ s;rw[aEF n];show wpAny _ _ (pure ((n:Int)-1,(-1:Int),zBW ((n:Int)-1) (-1) (-1))) _ _ s;rw[aEE];exact zAF h
def tW(ht:IsTup s.heap t items)(hs:s.heap.IsSliceOf sl .none .none (.int (-1) u))
  (h:Q (.ref s.heap.objs.size) {s with heap:=s.heap.push {cls:=.type "tuple",data:=.seq items.toList.reverse.toArray}})
  (hsz:items.size<=zAX):wpAny (model prog w) A (zFn (.ref t) (.ref sl)) Q E s:=by
 have aI:sizeOk (.seq items.toList.reverse.toArray):=by
  show items.toList.reverse.toArray.size<=zAX;rw[zAP,zHj,zAU];lia
 obtain⟨os,hos,hcs,hds⟩:=id hs;have hTs:s.TypeIs (.ref sl) "slice":=⟨os,hos,hcs⟩;unfold zFn
 try with_reducible refine zBI ?_
 first|refine zAB (zAF ?_)|skip
 refine zAB (zG9 ht.typeIs (by decide) ?_);refine zAB (zB5 (name:=zCt "__getitem__") ht.typeIs zBD
  (zB9 zBD ht.typeIs zFm ?_ (zGD _ _)))
 show wpAny _ _ (zD1 (.ref t)>>=_) _ _ s;refine zAB (zIH ht ?_);refine zAB (zE4 hTs ?_);rw[if_pos (by decide)];refine zAB (uZ hs ?_);show wpAny _ _ (if (((items.size:Int)-1==0&&(-1:Int)==1&&items.size==items.size))=true then _ else _) _ _ s;rw[if_neg (by simp)];rw[show((zAm items.size).filterMap λ(k:Nat)=>items[(((items.size:Int)-1)+(k:Int)*(-1)).toNat]?)=items.toList.reverse from aHy items]
 first
  |exact zAB (m:=zB3 _) (zAv (zAF ⟨_,rfl,zAF h⟩) aI)
  |exact zAB (m:=zB3 _) (zAv (zAB (zAF (zAF ⟨_,rfl,zAF h⟩))) aI)
  |exact zAB (zAB (m:=zB3 _) (zAv (zAF (zAF ⟨_,rfl,zAF h⟩)) aI))
  |exact zAB (zAB (m:=zB3 _) (zAv (zAF ⟨_,rfl,zAF h⟩) aI))
end
end HT
namespace L2
open PySem PySem.Spec PyProof.Rows
def aLZ(t T:String):Bool:=decide (t=T)||(decide (t="bool")&&decide (T="int"))
def aLV{K:zAA}(ht:t∈["NoneType","bool","int","str","list","tuple","dict"])(hT:T∈["bool","int","str","list","tuple","dict"]):
  zCJ K (.type t) (.type T)=some (aLZ t T):=by
 simp only[zAJ,zAg,or_false]at ht hT;rcases ht with rfl|rfl|rfl|rfl|rfl|rfl|rfl<;>rcases hT with rfl|rfl|rfl|rfl|rfl|rfl<;>kernel_rfl
def qe(t T:String)(b:Bool):Bool:=decide (t∈["NoneType","bool","int","str","list","tuple","dict"])&&decide (T∈["bool","int","str","list","tuple","dict"])&&(aLZ t T==b)
def aEh{K:zAA}(h:qe t T b=true):zCJ K (.type t) (.type T)=some b:=by
 unfold qe at h;rw[zAK,zAK]at h;rw[aLV (of_decide_eq_true h.1.1) (of_decide_eq_true h.1.2),zDA h.2]
def bD(h:H p=none)(o:HO):aV H (upd H p o):=λ b u q=>by rw[aX (bM q h)];exact q
section
variable{X:Cx}
def aQF(K:zAA):List V->Hp->VK->Prop:=λ xs H Q=>∃x T t b,xs=[x,.ty T]/\vP K H x (.type t)/\qe t T b=true/\Q (.bl b) H
def mU:cg X (.builtin "isinstance") (aQF X.K):=by
 intro kX s Z H xs us Q I r h;obtain⟨x,T,t,b,rfl,ty,ok,q⟩:=h;obtain⟨u,w',rfl,r1,r2⟩:=vals2 r;obtain rfl:w'=zCZ T:=r2;exact aHB I r1 ty (aEh ok) λ tk=>⟨.bl b,H,I.tok tk,rfl,q⟩
def aKd(K:zAA):R2:=λ x y H Q=>∃a b ns ms,x= .ref a/\y= .ref b/\SqT K H a (ns.map V.int)/\SqT K H b (ms.map V.int)/\Q (.bl (HT.lexLe ns ms)) H
def aNk(hu:X.A.units<cLine):OpR X (zAw .LtE) (aKd X.K):=by
 intro kX s Z H x y v u Q I rx ry h;obtain⟨a,b,ns,ms,rfl,rfl,ha,hb,q⟩:=h;cases rx;cases ry;obtain⟨its,r1,p1,_⟩:=I.tuple ha;obtain⟨its2,r2,p2,_⟩:=I.tuple hb;have i1:zB8 its.toArray.toList ns:=intsAre_of r1;have i2:zB8 its2.toArray.toList ms:=intsAre_of r2;exact HT.aEa p1 p2 i1 i2 hu ⟨.bl (HT.lexLe ns ms),H,I,rfl,q⟩
def aIf:OpR X (zAw .Is) (λ x y H Q=>∃b c,x= .bl b/\y= .bl c/\Q (.bl (b==c)) H):=by
 intro kX s Z H x y v u Q I rx ry h;obtain⟨b,c,rfl,rfl,q⟩:=h;cases rx;cases ry;exact is_bool (aJ8 I q rfl)
end
def mY(l:Addr)(H H':Hp):Prop:=∀b o,b≠l->H b=some o->H' b=some o
def aV.sqt{K:zAA}(e:aV H H')(h:SqT K H a xs):SqT K H' a xs:=by
 rcases h with (h|⟨o,h⟩)|h
 .exact .inl (.inl (e _ _ h))
 .exact .inl (.inr ⟨o,e _ _ h⟩)
 .exact .inr h
inductive D where
 |non|bl (b:Bool)|int (i:Int)|str (x:Str)|tup (l:List D)|lst (l:List D)|dct
mutual
inductive Rep(H:Hp):V->D->Prop where
 |non:Rep H .non .non
 |bl (b:Bool):Rep H (.bl b) (.bl b)
 |int (i:Int):Rep H (.int i) (.int i)
 |str (x:Str):Rep H (.str x) (.str x)
 |tup {a:Addr} {xs:List V} {ds:List D} (h:H a=some (.tup xs)) (r:aKB H xs ds):Rep H (.ref a) (.tup ds)
 |lst {a:Addr} {xs:List V} {ds:List D} (h:H a=some (.lst xs)) (r:aKB H xs ds):Rep H (.ref a) (.lst ds)
 |dct {a:Addr} (h:H a=some (.dK [])):Rep H (.ref a) .dct
inductive aKB(H:Hp):List V->List D->Prop where
 |nil:aKB H [] []
 |cons {x:V} {d:D} {xs:List V} {ds:List D} (h:Rep H x d) (r:aKB H xs ds):aKB H (x::xs) (d::ds)
end
def PE.weaken(h:PE X e t)(imp:∀Z H Q,t' Z H Q->t Z H Q):PE X e t':=λ kX s Z H Q I q=>h kX s Z H Q I (imp Z H Q q)
def OpR.weaken(h:OpR X f r)(imp:∀x y H Q,r' x y H Q->r x y H Q):OpR X f r':=λ kX s Z H x y v u Q I rx ry q=>h kX s Z H x y v u Q I rx ry (imp x y H Q q)
def New(H:Hp)(o:HO)(Q:VK):Prop:=∀p H',aV H H'->H' p=some o->H p=none->Q (.ref p) H'
def New.at(n:New H o Q)(hp:H p=none):Q (.ref p) (upd H p o):=n p _ (bD hp o) aZ hp
section
variable{X:Cx}{es:List Expr}{t:TA}{pos:Pos}
def aOq(t:TA):TE:=λ Z H Q=>t Z H λ xs H1=>xs.length<=zAX/\New H1 (.tup xs) Q
def aHc(t:TA):TE:=λ Z H Q=>t Z H λ xs H1=>xs.length<=zAX/\New H1 (.lst xs) Q
def aKo{x1}(h:PA X es t):PE X (.Tuple es x1 pos) (aOq t):=by
 have h':PA X es (λ Z H Q=>∃R:List V->Hp->Prop,t Z H R/\∀xs H',R xs H'->Q xs H'):=by
  intro pos kX s Z H Q I ⟨R,q,imp⟩;exact thn (h pos kX s Z H R I q) λ us s' ⟨vs,H',I',r,q'⟩=>⟨vs,H',I',r,imp _ _ q'⟩
 exact(aNU h').weaken λ Z H Q q=>⟨_,q,λ xs H' ⟨z,n⟩=>⟨z,λ p hp=>n.at hp⟩⟩
def nQ(h:PA X es t):PE X (.List es pos) (aHc t):=by
 have h':PA X es (λ Z H Q=>∃R:List V->Hp->Prop,t Z H R/\∀xs H',R xs H'->Q xs H'):=by
  intro pos kX s Z H Q I ⟨R,q,imp⟩;exact thn (h pos kX s Z H R I q) λ us s' ⟨vs,H',I',r,q'⟩=>⟨vs,H',I',r,imp _ _ q'⟩
 exact(aNY h').weaken λ Z H Q q=>⟨_,q,λ xs H' ⟨z,n⟩=>⟨z,λ p hp=>n.at hp⟩⟩
def aIG:R2:=λ x y H Q=>∃l b xs zs,x= .ref l/\y= .ref b/\H l=some (.lst xs)/\H b=some (.lst zs)/\xs.length+zs.length<=zAX/\New H (.lst (xs++zs)) Q
def aB2:OpR X (zCe .Add) aIG:=aNq.weaken λ x y H Q ⟨l,b,xs,zs,e1,e2,h1,h2,z,n⟩=>⟨l,b,xs,zs,e1,e2,h1,h2,z,λ p hp=>n.at hp⟩
def yC:V->List V->Hp->VK->Prop:=λ x vs H Q=>∃l xs y,x= .ref l/\vs=[y]/\H l=some (.lst xs)/\xs.length<zAX/\∀H',mY l H H'->H' l=some (.lst (xs++[y]))->Q .non H'
def yW:MtM X "list.append" yC:=λ kX s Z H x xs v us Q I rx rv ⟨l,ys,y,e1,e2,h,z,n⟩=>
 aAW kX s Z H x xs v us Q I rx rv ⟨l,ys,y,e1,e2,h,z,n _ (λ b o ne hb=>by rw[aX ne];exact hb) aZ⟩
end
def au(scope:Scope)(env:Env):List (Str×Addr):=(scope.names.filterMap λ y=>if y.2== .free then(env.cells.lookup y.1).map λ c=>(y.1,c)else none).reverse
theorem zW(env:Env):∀(names:List (Str×zDz)) (acc:List (Str×Addr)),(∀y∈names,y.2= .free->∃c,env.cells.lookup y.1=some c)->
  (forIn names acc λ(x:Str×zDz) r=>if (x.2== .free)=true then do let c <-cellOf env x.1;pure (zBw ((x.1,c)::r))else pure (zBw r):Sem (List (Str×Addr)))=
   pure ((names.filterMap λ y=>if y.2== .free then(env.cells.lookup y.1).map λ c=>(y.1,c)else none).reverse++acc)
 |[],acc,_=>rfl
 |(n,k)::r,acc,h=>by
  rw[zGM];have ih:=λ acc'=>zW env r acc' λ y hy=>h y (zAH _ hy)
  by_cases hk:k= .free
  .subst hk
   obtain⟨c,hc⟩:=h (n,.free) zAE rfl;have hc':env.cells.lookup n=some c:=hc;simp only[beq_self_eq_true,if_true,cellOf,hc',zBZ,zDM,zDZ,zB6,List.singleton_append];exact ih _
  .have hb:(k==zCX)=false:=by simpa using hk
   simp only[hb,zA0,if_false,zBZ];exact ih _
def iz(h:∀y∈scope.names,y.2= .free->∃c,env.cells.lookup y.1=some c):zFW scope env=pure (au scope env):=by
 have e:=zW env scope.names [] h;rw[zBC]at e;have e2:zFW scope env=((forIn scope.names ([]:List (Str×Addr)) λ(x:Str×zDz) r=>if (x.2== .free)=true then do let c <-cellOf env x.1;pure (zBw ((x.1,c)::r))else pure (zBw r):Sem (List (Str×Addr)))>>=λ r=>pure r):=rfl;rw[e2,e];rfl
def gk(h:(au scope env).lookup x=some c):env.cells.lookup x=some c:=by
 have hm:=zAp h;unfold au at hm;rw[zE9,zBp]at hm;obtain⟨y,hy,e⟩:=hm;split at e
 .cases q:env.cells.lookup y.1 with
  |none=>rw[q]at e;cases e
  |some c'=>
   rw[q]at e;have e':=zAa e;injection e' with e1 e2
   subst e1 e2;exact q
 .cases e
def uH(hx:scope.names.lookup x=some .free)(h:env.cells.lookup x=some c):(au scope env).lookup x=some c:=by
 have hm:(x,zCX)∈scope.names:=zAp hx
 have:(x,c)∈au scope env:=by
  unfold au;rw[zE9,zBp];exact⟨_,hm,by simp[h]⟩
 cases q:(au scope env).lookup x with
 |none=>
  exact absurd this (by
   intro hm'
   have:=List.lookup_eq_none_iff.mp q _ hm'
   simp at this)
 |some c'=>
  have:=gk q
  rw[h]at this;exact this.symm▸rfl
def wM(scope:Scope)(C:Addr):List (Str×Addr):=zDN (C+1) scope.names []
theorem mR:∀(names:List (Str×zDz)) (n:Nat) (acc:List (Str×Addr)),zDN n names acc=zDN n names []++acc
 |[],_,_=>rfl
 |(x,k)::r,n,acc=>by
  unfold zDN;split
  .rw[mR r (n+1) ((x,n)::acc),mR r (n+1) [(x,n)],zB6];rfl
  .exact mR r n acc
theorem sE:∀{names:List (Str×zDz)} {n:Nat} {x:Str} {c:Addr},(x,c)∈zDN n names []->(x,zD7)∈names
 |(y,k)::r,n,x,c,h=>by
  unfold zDN at h;split at h
  .rename_i hk
   rw[mR,zAd]at h;rcases h with h|h
   .exact zAH _ (sE h)
   .have e:=zAV.mp h
    cases e;rw[zDA hk];exact zAE
  .exact zAH _ (sE h)
 |[],_,_,_,h=>by cases h
def mG{l m:List (Str×Addr)}(h:(l++m).lookup x=some c):l.lookup x=some c\/(l.lookup x=none/\m.lookup x=some c):=by
 rw[zFS]at h;cases e:l.lookup x with
 |some c'=>rw[e]at h;exact .inl h
 |none=>rw[e]at h;exact .inr ⟨rfl,h⟩
def aF9{M:Model}{A:zAc}{E:Value->zAG->Prop}{s:zAG}{scope:Scope}{globals:Addr}{cl:List (Str×Addr)}{qual:Str}{env:Env}{Q:Env->zAG->Prop}
  (h:∀h':Heap,h'.Ns s.heap.objs.size (λ _=>none)->(∀b o,s.heap.get? b=some o->h'.get? b=some o)->CellsOk h' (s.heap.objs.size+1) (wM scope s.heap.objs.size)->
   Q {scope:=scope,locals:=s.heap.objs.size,globals:=globals,cells:=wM scope s.heap.objs.size++cl,qual:=qual,func:=none,code:=env.code,frame:=env.frame,builtins:=env.builtins} {s with heap:=h'}):
  wpAny M A (zFd scope globals cl [] qual none .none (some env)) Q E s:=by
 simp only[zFd,Option.isSome_some,if_true];refine zAB (wpAny_alloc ?_);refine zAB (wpAny_layCells _ (λ name kind cells=>by cases hkc:kind==zD7<;>simp[hkc]) _ _ _ _ ?_);have ok:=cellsFrom_ok scope.names (s.heap.push {cls:=.type "dict",data:=.dict #[]}) (s.heap.objs.size+1) [] ⟨λ _ _ hm=>(nomatch hm),zGS⟩ (by rw[zBB];exact zAQ _);rw[zBB]at ok;rw[show({s with heap:=s.heap.push {cls:=.type "dict",data:=.dict #[]}}:zAG).heap.objs.size=s.heap.objs.size+1 from zBB ..,mR];refine zAF ?_;exact h _ ((Heap.Ns.new s.heap (.type "dict")).keeps (pushCells_keeps _ _)) (λ b o e=>pushCells_keeps _ _ b o (zAC _ e)) ok
def Cx.block(X:Cx)(scope:Scope)(C:Addr)(N:List Str)(fp:List Addr)(z0:zAG)(zS:Hp):Cx:=
  {prog:=X.prog,w:=X.w,K:=X.K,mg:=X.mg,base:=X.base,A:=X.A,N:=N,z0:=z0,zS:=zS,env:=compEnvC scope (wM scope C++au scope X.env) C X.env,outer:=X.stack,stack:=X.stack,ex:=fp,
    fn:=λ x=>scope.names.lookup x==some .cell,calm:=X.calm,pn:=[],xe:=λ _ _=>False}
structure fD(X:Cx)(scope:Scope)(N:List Str)(st:St->St)(ks:List Nat):Prop where
 kind:scope.kind= .function
 sep:∀y∈scope.names,y.2= .cell->scope.names.lookup y.1=some .cell
 loc:∀y∈scope.names,y.2= .local->scope.names.lookup y.1=some .local
 free:∀y∈scope.names,y.2= .free->X.env.kindOf y.1=some .cell\/X.env.kindOf y.1=some .free
 len:∀Z,(st Z).length=N.length
 val:∀Z (i:Nat) x v,N[i]? =some x->(st Z)[i]? =some (some v)->scope.names.lookup x=some .free/\i∉ks/\∃j:Nat,X.N[j]? =some x/\Z[j]? =some (some v)
def aBW(h:(zG3 scope env).names.lookup x=some .cell\/(zG3 scope env).names.lookup x=some .free):scope.names.lookup x=some .free\/scope.names.lookup x=some .cell:=by
 have go:∀names:List (Str×zDz),((names.map λ(n,k)=>if (k==zCX&&env.scope.kind== .function&&env.kindOf n==some .cell)then(n,zD7)else(n,k)).lookup x=some .cell\/
   (names.map λ(n,k)=>if (k==zCX&&env.scope.kind== .function&&env.kindOf n==some .cell)then(n,zD7)else(n,k)).lookup x=some .free)->names.lookup x=some .free\/names.lookup x=some .cell:=by
  intro names;induction names with
  |nil=>intro h;simp at h
  |cons y r ih=>
   obtain⟨n,k⟩:=y;intro h;rw[zAS]at h;by_cases hx:x==n
   .rw[zBG,hx]
    show some k=some .free\/some k=some .cell;by_cases hcc:(k==zCX&&env.scope.kind== .function&&env.kindOf n==some .cell)=true
    .rw[zAK,zAK]at hcc
     rw[zDA hcc.1.1];exact .inl rfl
    .simp only[if_neg hcc,zBG,hx]at h
     exact h.elim .inr .inl
   .have hx':(x==n)=false:=by simpa using hx
    rw[zBG,hx'];refine ih ?_;by_cases hcc:(k==zCX&&env.scope.kind== .function&&env.kindOf n==some .cell)=true
    .simp only[if_pos hcc,zBG,hx']at h
     exact h
    .simp only[if_neg hcc,zBG,hx']at h
     exact h
 exact go scope.names h
def aBX(h:scope.names.lookup x=some .free):(zG3 scope env).names.lookup x=some .cell\/(zG3 scope env).names.lookup x=some .free:=by
 have go:∀names:List (Str×zDz),names.lookup x=some .free->((names.map λ(n,k)=>if (k==zCX&&env.scope.kind== .function&&env.kindOf n==some .cell)then(n,zD7)else(n,k)).lookup x=some .cell\/
   (names.map λ(n,k)=>if (k==zCX&&env.scope.kind== .function&&env.kindOf n==some .cell)then(n,zD7)else(n,k)).lookup x=some .free):=by
  intro names;induction names with
  |nil=>intro h;simp at h
  |cons y r ih=>
   obtain⟨n,k⟩:=y;intro h;rw[zAS];by_cases hx:x==n
   .rw[zBG,hx]at h
    have hk:k= .free:=zAa h;by_cases hcc:(k==zCX&&env.scope.kind== .function&&env.kindOf n==some .cell)=true
    .simp only[if_pos hcc,zBG,hx]
     exact .inl trivial
    .simp only[if_neg hcc,zBG,hx]
     exact .inr (by rw[hk])
   .have hx':(x==n)=false:=by simpa using hx
    rw[zBG,hx']at h;by_cases hcc:(k==zCX&&env.scope.kind== .function&&env.kindOf n==some .cell)=true
    .simp only[if_pos hcc,zBG,hx']
     exact ih h
    .simp only[if_neg hcc,zBG,hx']
     exact ih h
 exact go scope.names h
section
variable{X:Cx}{kX:hZ}{Z:St}{H:Hp}{s:zAG}
theorem Inv.block{st:St->St}{D C:Addr}(I:Inv X kX Z H s)(B:fD X scope N st ks)
  (hfp:∀b∈fp,sI X kX H b)(hob:∀b∈fp,∃ob,s.heap.get? b=some ob)
  (hD:s.heap.objs.size<=D)(hC:s.heap.objs.size<=C)(hDC:D≠C)(keep:∀b u,s.heap.get? b=some u->h'.get? b=some u)(hns:h'.Ns C λ _=>none)(hcs:CellsOk h' (C+1) (wM scope C))(hDo:∀c,C<c->D≠c)(aE:cZ X.prog X.w (upd H D o) h' D o):
  Inv (X.block scope C N fp s H) [] (st Z) (upd H D o) {s with heap:=h',toks:=tk}:=by
 have hHD:H D=none:=I.hok.fresh hD;have hcl:∀x c,(au scope X.env).lookup x=some c->X.env.cells.lookup x=some c:=λ x c e=>gk e
 have hol:∀x c,(wM scope C).lookup x=some c->C<c/\h'.IsCell c none:=λ x c e=>let⟨q1,q2⟩:=hcs.empty x c (zAp e);⟨q2,q1⟩
 have hlt:∀x c,(au scope X.env).lookup x=some c->c<s.heap.objs.size:=λ x c e=>let⟨v,ic⟩:=I.cell x c (hcl x c e);ic.lt
 have cE:∀b∈fp,b<s.heap.objs.size:=λ b hb=>by
  obtain⟨ob,e⟩:=hob b hb;exact zAT e
 refine⟨⟨I.mod,?_,I.ok.glob,I.ok.blt,hC,λ x y c e1 e2=>?_,λ x hx=>?_,λ x c hf e=>?_,I.ok.hd,I.ok.frames,.inl rfl,λ b hb=>⟨?_,λ x c e z=>?_⟩,
  I.bs,?_,λ b ob e hb=>?_,λ b hb hs=>?_,I.stack,I.stkFree⟩,rfl,I.bare,Un.laid keep hD hHD,⟨_,hns,λ i x v e1 e2 hv=>?_⟩,λ x c e=>?_,?_,λ x c e=>?_,λ p hp=>absurd (show p∈([]:hZ)from hp) (by simp),I.hok.laid keep hD aE,B.len Z,λ p hp=>absurd (show p∈([]:hZ)from hp) (by simp)⟩
 .show(zG3 scope X.env).kind= .function
  exact B.kind
 .rcases mG e1 with a1|⟨_,a1⟩<;>rcases mG e2 with a2|⟨_,a2⟩
  .exact PySem.name_of_addr hcs.apart (zAp a1) (zAp a2)
  .exact absurd (hlt y c a2) (zEV.mpr (zAl hC (zBl (hol x c a1).1)))
  .exact absurd (hlt x c a1) (zEV.mpr (zAl hC (zBl (hol y c a2).1)))
  .exact I.ok.inj x y c (hcl x c a1) (hcl y c a2)
 .show∃c,(wM scope C++au scope X.env).lookup x=some c
  rw[zFS];cases e:(wM scope C).lookup x with
  |some c=>exact⟨c,rfl⟩
  |none=>
   rcases aBW hx with hfree|hcell
   .obtain⟨c,hc⟩:=I.ok.has x (B.free (x,.free) (zAp hfree) rfl)
    exact⟨c,uH hfree hc⟩
   .obtain⟨c,hc⟩:=uI (n:=C+1) hcell
    rw[show(wM scope C).lookup x=some c from hc]at e;cases e
 .rcases mG e with a1|⟨a0,_⟩
  .exact zAl hC (zBl (hol x c a1).1)
  .obtain⟨c',hc'⟩:=uI (n:=C+1) (zDA hf)
   rw[show(wM scope C).lookup x=some c' from hc']at a0;cases a0
 .exact zA4 (zAW (cE b hb) hC)
 .rcases mG e with a1|⟨_,a1⟩
  .exact absurd (cE b hb) (zEV.mpr (by rw[<-z];exact zAl hC (zBl (hol x c a1).1)))
  .exact(hfp b hb).2.2.2.2.1 x c (hcl x c a1) z
 .exact zAl I.ok.bsz I.sz
 .rcases(hfp b hb).2.2.2.1 with z|z
  .exact I.ok.noex b ob e z
  .exact absurd (zAW (zAT (I.ok.bs b ob e).1) z) (zBh _)
 .rcases zAJ.mp (I.stkSub b hs)with z|z
  .exact(hfp b hb).2.1 z
  .exact(hfp b hb).2.2.1 z
 .obtain⟨hfree,_,j,f1,f2⟩:=B.val Z i x v e1 e2
  obtain⟨m,hn,hl⟩:=I.loc;have hk:=B.free (x,.free) (zAp hfree) rfl;obtain⟨u,ru,hu⟩:=hl j x v f1 f2 (hk.elim (λ z=>.inr (.inl z)) λ z=>.inr (.inr z));rcases hu with ⟨k,_⟩|⟨_,c,ec,ic⟩
  .rcases hk with z|z
   .exact absurd (k.symm.trans z) (by decide)
   .exact absurd (k.symm.trans z) (by decide)
  .have hno:(wM scope C).lookup x=none:=by
    cases e:(wM scope C).lookup x with
    |none=>rfl
    |some c'=>
     have:=B.sep _ (sE (zAp e)) rfl
     rw[hfree]at this;cases this
   refine⟨u,ru,.inr ⟨?_,c,by show(wM scope C++au scope X.env).lookup x=some c;rw[zFS,hno];exact uH hfree ec,ic.keeps keep⟩⟩;rcases hv with z|z|z
   .have z':(zG3 scope X.env).names.lookup x=some .local:=z
    rcases aBX (env:=X.env) hfree with y|y
    .exact absurd (z'.symm.trans y) (by decide)
    .exact absurd (z'.symm.trans y) (by decide)
   .exact .inl z
   .exact .inr z
 .rcases mG e with a1|⟨_,a1⟩
  .exact⟨_,(hol x c a1).2⟩
  .obtain⟨v,ic⟩:=I.cell x c (hcl x c a1)
   exact⟨v,ic.keeps keep⟩
 .show upd H D o C=none
  rw[aX (zDU hDC)];exact I.hok.fresh hC
 .show upd H D o c=none
  rcases mG e with a1|⟨_,a1⟩
  .rw[aX (zDU (hDo c (hol x c a1).1))]
   exact I.hok.fresh (zAl hC (zBl (hol x c a1).1))
  .obtain⟨v,ic⟩:=I.cell x c (hcl x c a1)
   rw[aX (zA4 (zAW ic.lt hD))];exact I.freeC x c (hcl x c a1)
end
section
variable{prog:zA2}{w:World}{A:zAc}{R:zFL->zAG->Prop}{s:zAG}
def aBt(I:Nat->zAG->Prop)
  (turn:∀n s,I n s->wpAny (model prog w) A (zDy it) (λ r zI=>match r with
   |none=>R (.ok .next) zI
   |some v=>wpAny (model prog w) A (zD4 target it v) (λ _ zI=>wpAny (model prog w) A (zDx target env v) (λ _ z4=>
     wpAny (model prog w) A (forIn ifs true λ c r=>if r=true then do let ok <-isTrue c env (eval c env);pure (zBw ok)else pure (zBw r)) (λ ok zC=>
      if ok=true then wpAny (model prog w) A (eval elt env) (λ x y6=>
       wpAny (model prog w) A (call (.builtin "list.append") [acc,x]) (λ _ s₅=>∃m,m<n/\I m s₅) (λ _ _=>False) y6) (λ _ _=>False) zC
      else∃m,m<n/\I m zC) (λ _ _=>False) z4) (λ _ _=>False) zI) (λ _ _=>False) zI) (λ _ _=>False) s)
  (n:Nat)(h:I n s):zCW (model prog w) A (.compLoop (.ListComp elt [⟨target,iter,ifs,0⟩] scope pos) 0 it acc env) R s:=by
 refine codeAny_loop rfl I (λ n s hI=>?_) n h;show wpAny _ A ((compTurn (.ListComp elt [⟨target,iter,ifs,0⟩] scope pos) 0 it acc env).onRaise (λ x=>do noteFrame x env;theTreesLotGoes x)) _ _ s;refine wpAny_noted ?_;rw[compTurn_list];refine zAB (zEC (zAB (zBX (turn n s hI) (λ r zI zD=>?_) λ _ _ h'=>h'.elim)));cases r with
 |none=>exact zAF zD
 |some v=>
  refine zAB (zBX zD (λ _ zI zD=>?_) λ _ _ h'=>h'.elim);refine zAB (zBX zD (λ _ z4 y3=>zAB (zBX y3 (λ ok zC x9=>?_) λ _ _ h'=>h'.elim)) λ _ _ h'=>h'.elim);cases ok with
  |false=>exact zAF ⟨rfl,x9⟩
  |true=>
   exact zAB (zAB (zBX x9 (λ x y6 h₄=>zAB (zBX h₄ (λ _ s₅ h₅=>zAF (zAF ⟨rfl,h₅⟩)) λ _ _ h'=>h'.elim)) λ _ _ h'=>h'.elim))
end
def uR(g:TG)(ks:List Nat):Prop:=∀v Z H (Q:St->Hp->Prop),g v Z H Q->g v Z H (λ Z' H'=>Q Z' H'/\Z'.length=Z.length/\∀k,k∉ks->Z'[k]? =Z[k]?)
def zc(g:TGs)(ks:List Nat):Prop:=∀vs Z H (Q:St->Hp->Prop),g vs Z H Q->g vs Z H (λ Z' H'=>Q Z' H'/\Z'.length=Z.length/\∀k,k∉ks->Z'[k]? =Z[k]?)
def aLe(h:i∈ks):uR (oA i) ks:=λ v Z H Q q=>⟨q,zBK,λ k hk=>zB7 (λ(e:i=k)=>hk (e▸h))⟩
def aLd:zc aOV ks:=λ vs Z H Q ⟨e,q⟩=>⟨e,q,rfl,λ _ _=>rfl⟩
def aDg(g:TG):Prop:=∀v Z H (Q Q':St->Hp->Prop),(∀Z' H',Q Z' H'->Q' Z' H')->g v Z H Q->g v Z H Q'
def vQ(g:TGs):Prop:=∀v Z H (Q Q':St->Hp->Prop),(∀Z' H',Q Z' H'->Q' Z' H')->g v Z H Q->g v Z H Q'
def aLg:aDg (oA i):=λ v Z H Q Q' imp q=>imp _ _ q
def aLf:vQ aOV:=λ v Z H Q Q' imp ⟨e,q⟩=>⟨e,imp _ _ q⟩
def aJ1(h1:aDg t)(h2:vQ u):vQ (aJ3 t u):=λ vs Z H Q Q' imp ⟨v,r,e,q⟩=>⟨v,r,e,h1 _ _ _ _ _ (λ Z' H' q'=>h2 _ _ _ _ _ imp q') q⟩
def aJX(h1:uR t ks)(m1:aDg t)(h2:zc u ks)(m2:vQ u):zc (aJ3 t u) ks:=λ vs Z H Q ⟨v,r,e,q⟩=>
 ⟨v,r,e,m1 _ _ _ _ _ (λ Z' H' ⟨q',l',k'⟩=>m2 _ _ _ _ _ (λ Z2 H2 ⟨q2,l2,k2⟩=>⟨q2,l2.trans l',λ k hk=>(k2 k hk).trans (k' k hk)⟩) (h2 _ _ _ _ q')) (h1 _ _ _ _ q)⟩
def aOT{K:zAA}(h:zc t ks):uR (aLh K n t) ks:=λ v Z H Q ⟨a,xs,e1,e2,e3,q⟩=>⟨a,xs,e1,e2,e3,h _ _ _ _ q⟩
def aOU{K:zAA}(h:vQ t):aDg (aLh K n t):=λ v Z H Q Q' imp ⟨a,xs,e1,e2,e3,q⟩=>⟨a,xs,e1,e2,e3,h _ _ _ _ _ imp q⟩
def aDd(X:Cx)(ifs:List Expr)(t:TT):Prop:=
 ∀(kX:hZ) (s:zAG) (Z:St) (H:Hp) (Q:Bool->Hp->Prop),Inv X kX Z H s->t Z H Q->
  wpAny (model X.prog X.w) X.A (forIn ifs true λ c r=>if r=true then do let ok <-isTrue c X.env (eval c X.env);pure (zBw ok)else pure (zBw r)) (TP X kX Z Q) X.xe s
def aPs:TT:=λ _ H Q=>Q true H
def aNT:aDd X [] aPs:=λ _ _ _ H _ I h=>wpAny_tests_nil ⟨H,I,h⟩
def aNS(h:PT X c t):aDd X [c] t:=λ kX s Z H Q I q=>wpAny_tests_one (h kX s Z H Q I q)
def tLC(wi:TI)(st:St->St)(g:TG)(tt:TT)(te:TE):TE:=λ Z H Q=>wi Z H λ J H1=>∀l,H1 l=none->∃W:Nat->Nat->List V->Hp->Prop,(∃m,W 0 m [] (upd H1 l (.lst [])))/\
 ∀i m acc H2,W i m acc H2->H2 l=some (.lst acc)/\acc.length<zAX/\((J.stop i H2/\Q (.ref l) H2)\/(J.go i H2/\∀x H3,J.yld i H2 x H3->g x (st Z) H3 λ Z4 H4=>tt Z4 H4 λ ok H5=>
  if ok=true then te Z4 H5 λ y H6=>H6 l=some (.lst acc)/\∃m',m'<m/\W (i+1) m' (acc++[y]) (upd H6 l (.lst (acc++[y])))else∃m',m'<m/\W (i+1) m' acc H5))
section
variable{X:Cx}{elt tg iter:Expr}{ifs:List Expr}{scope:Scope}{pos:Pos}{N:List Str}{st:St->St}{ks:List Nat}{wi:TI}{g:TG}{tt:TT}{te:TE}
def aCz(B:fD X scope N st ks)(hc:X.calm=true)(hg:∀C fp z0 zS,PG (X.block scope C N fp z0 zS) tg g)(hgo:uR g ks)(ht:∀C fp z0 zS,aDd (X.block scope C N fp z0 zS) ifs tt)
  (he:∀C fp z0 zS,PE (X.block scope C N fp z0 zS) elt te){H1:Hp}{Q:VK}{RR:Value->Addr->zFL->zAG->Prop}
  (I:Inv X kX Z H1 z4)(T:Turn X.prog X.w X.K tg J fp it tn)(h0:tn 0 z4.heap)(hfp:∀b∈fp,sI X kX H1 b)
  (h:∀l,H1 l=none->∃W:Nat->Nat->List V->Hp->Prop,(∃m,W 0 m [] (upd H1 l (.lst [])))/\
   ∀i m acc H2,W i m acc H2->H2 l=some (.lst acc)/\acc.length<zAX/\((J.stop i H2/\Q (.ref l) H2)\/(J.go i H2/\∀x H3,J.yld i H2 x H3->g x (st Z) H3 λ Z4 H4=>tt Z4 H4 λ ok H5=>
    if ok=true then te Z4 H5 λ y H6=>H6 l=some (.lst acc)/\∃m',m'<m/\W (i+1) m' (acc++[y]) (upd H6 l (.lst (acc++[y])))else∃m',m'<m/\W (i+1) m' acc H5)))
  (hRR:∀D C H' s',(∃Z',Inv (X.block scope C N fp z4 H1) [] Z' H' s')->z4.heap.objs.size<=C->Q (.ref D) H'->RR (.ref D) C (.ok .next) s'):
  wpAny (model X.prog X.w) X.A (zG2 []) (λ acc zC=>wpAny (model X.prog X.w) X.A (zFd scope X.env.globals (au scope X.env) [] X.env.qual none .none (some X.env)) (λ cenv y6=>
   zCW (model X.prog X.w) X.A (.compStart (.ListComp elt [⟨tg,iter,ifs,0⟩] scope pos) 0 (.ref it) acc {cenv with scope:=zG3 scope X.env}) (RR acc cenv.locals) y6) E zC) E z4:=by
 refine zAv (aF9 λ zD y8 y9 y7=>?_);dsimp only at y8 y9 y7 ⊢;generalize hH2:z4.heap.push {cls:=.type "list",dict:=none,data:=.seq ([]:List Value).toArray}=P2 at y8 y9 y7 ⊢;have hC:P2.objs.size=z4.heap.objs.size+1:=by rw[<-hH2,zBB]
 have hDC:z4.heap.objs.size≠P2.objs.size:=by rw[hC];exact zA4 (zBs _)
 have qV:z4.heap.objs.size<=P2.objs.size:=by rw[hC];exact zCs _
 have old:∀b o,z4.heap.get? b=some o->zD.get? b=some o:=λ b o e=>y9 b o (hH2▸zAC _ e)
 have aE:zD.get? z4.heap.objs.size=some {cls:=.type "list",dict:=none,data:=.seq ([]:List Value).toArray}:=y9 _ _ (hH2▸zAL _ rfl);generalize hCe:P2.objs.size=C at y8 y9 y7 hDC qV hC ⊢;have hHD:H1 z4.heap.objs.size=none:=I.hok.fresh (zAQ _);have I0:Inv (X.block scope C N fp z4 H1) [] (st Z) (upd H1 z4.heap.objs.size (.lst [])) {z4 with heap:=zD,toks:=z4.toks}:=
  I.block B hfp (λ b hb=>by obtain⟨o,e,_⟩:=T.obj 0 _ h0 b hb;exact⟨o,e⟩) (zAQ _) qV hDC old y8 y7 (λ c hc=>zA4 (zC2 qV hc)) ⟨zAj _,[],0,.nil,aE⟩
 obtain⟨W,⟨m0,w0⟩,step⟩:=h _ hHD;have h01:tn 0 zD:=T.keep 0 _ _ h0 λ b _ o e=>old b o e
 have aT:∀{H':Hp},(∀b∈fp,H' b=none)->∀b∈fp,sI (X.block scope C N fp z4 H1) [] H' b:=λ{H'} hn b hb=>
  ⟨hn b hb,(I0.ok.exf b hb).1,I0.ok.exfs b hb,.inl hb,λ x c e=>(I0.ok.exf b hb).2 x c e,λ p hp=>absurd (show p∈([]:hZ)from hp) (by simp)⟩
 have fr0:∀b∈fp,upd H1 z4.heap.objs.size (.lst []) b=none:=λ b hb=>by
  obtain⟨o,e,_⟩:=T.obj 0 _ h0 b hb;rw[aX (zA4 (zAT e))];exact(hfp b hb).1
 have loop:∀zC:zAG,zC={z4 with heap:=zD,toks:=z4.toks}->
   zCW (model X.prog X.w) X.A (.compLoop (.ListComp elt [⟨tg,iter,ifs,0⟩] scope pos) 0 (.ref it) (.ref z4.heap.objs.size) (X.block scope C N fp z4 H1).env) (RR (.ref z4.heap.objs.size) C) zC:=by
  rintro zC rfl;refine aBt (λ n s'=>∃i acc H2,Inv (X.block scope C N fp z4 H1) [] (st Z) H2 s'/\tn i s'.heap/\(∀b∈fp,H2 b=none)/\W i n acc H2) ?_ m0 ⟨0,[],_,I0,h01,fr0,w0⟩;rintro n s3 ⟨i,acc,H2,I2,st2,fr2,w2⟩;obtain⟨hl,hz,alt⟩:=step i n acc H2 w2;rcases alt with ⟨stop,q⟩|⟨go,nxt⟩
  .refine thn (T.done (X.block scope C N fp z4 H1) rfl rfl rfl hc i [] s3 (st Z) H2 _ I2 (aT fr2) st2 stop) λ r s4 ⟨hr,I4⟩=>?_
   subst hr;exact hRR _ C H2 s4 ⟨_,I4⟩ qV q
  .refine thn (T.item (X.block scope C N fp z4 H1) rfl rfl rfl hc i [] s3 (st Z) H2 _ I2 (aT fr2) st2 go) λ r s4 ⟨u,hr,h4⟩=>?_
   subst hr;refine thn h4 λ _ s5 ⟨x,H5,I5,r5,y5,st5,fr5⟩=>?_
   have I5':=I5.pinned (aT fr5) (T.obj _ _ st5);refine thn (hg C fp z4 H1 _ s5 (st Z) H5 x u _ I5' r5 (hgo _ _ _ _ (nxt x H5 y5))) λ _ s6 ⟨Z6,H6,I6,q6,aLR,ag6⟩=>?_
   refine thn (ht C fp z4 H1 _ s6 Z6 H6 _ I6 q6) λ ok s7 ⟨H7,I7,q7⟩=>?_
   have again:∀{H9:Hp} {s9:zAG} {acc':List V},Inv (X.block scope C N fp z4 H1) ([]++ut fp s5.heap) Z6 H9 s9->(∃m',m'<n/\W (i+1) m' acc' H9)->
     ∃m,m<n/\∃i acc H2,Inv (X.block scope C N fp z4 H1) [] (st Z) H2 s9/\tn i s9.heap/\(∀b∈fp,H2 b=none)/\W i m acc H2:=λ{H9 s9 acc'} I9 ⟨m',hm,w9⟩=>by
    have dS:∀b∈fp,∀o,s5.heap.get? b=some o->s9.heap.get? b=some o/\H9 b=none:=λ b hb o e=>by
     have z:=I9.pin (b,o) (zA9 _ (zA9 _ (nT hb e)));exact⟨z.1,z.2.1⟩
    refine⟨m',hm,i+1,acc',H9,I9.unpinned.weak (by rw[aLR]) (λ k v e=>?_),T.keep _ _ _ st5 λ b hb o e=>(dS b hb o e).1,λ b hb=>?_,w9⟩
    .have hk:k<(st Z).length:=(zAN.mp e).1
     have hkN:k<N.length:=by rw[<-B.len Z];exact hk
     obtain⟨_,hks,_⟩:=B.val Z k _ v (zAI hkN) e;rw[ag6 k hks];exact e
    .obtain⟨o,e,_⟩:=T.obj _ _ st5 b hb
     exact(dS b hb o e).2
   cases ok with
   |false=>
    rw[if_neg zAO]at q7 ⊢;exact again I7 q7
   |true=>
    rw[if_pos rfl]at q7 ⊢;refine thn (he C fp z4 H1 _ s7 Z6 H7 _ I7 q7) λ u8 s8 ⟨y,H8,I8,r8,hl8,q8⟩=>?_
    refine thn (aAW _ s8 Z6 H8 (.ref z4.heap.objs.size) [y] (.ref z4.heap.objs.size) [u8] (λ _ H9=>H9=upd H8 z4.heap.objs.size (.lst (acc++[y]))) I8 rfl (.cons r8 .nil) ⟨_,acc,y,rfl,rfl,hl8,hz,rfl⟩) λ _ s9 ⟨_,H9,I9,_,e9⟩=>?_
    subst e9;exact again I9 q8
 exact codeAny_compStart_list (loop _ rfl) (T.self X.A 0 _ _ _ h01 (loop _ rfl))
def aCF(I:Inv X kX Z H1 z4)(hfp:∀b∈fp,sI X kX H1 b)(h:∃Z',Inv (X.block scope C N fp z4 H1) [] Z' H' s'):Inv X kX Z H' s':=by
 obtain⟨Z',J⟩:=h;exact I.call' (ch:=fp) J.os J.base J.hok J.bare λ b hb=>⟨(hfp b hb).2.2.2.1,(hfp b hb).2.1,(hfp b hb).2.2.2.2.1,(hfp b hb).2.2.2.2.2⟩
def aPS(B:fD X scope N st ks)(hc:X.calm=true)(hi:PI X tg iter wi)(hg:∀C fp z0 zS,PG (X.block scope C N fp z0 zS) tg g)(hgo:uR g ks)(ht:∀C fp z0 zS,aDd (X.block scope C N fp z0 zS) ifs tt)
  (he:∀C fp z0 zS,PE (X.block scope C N fp z0 zS) elt te)(hs:∀x,zCH iter X.env x=pure x:=by intro _;rfl):PE X (.ListComp elt [⟨tg,iter,ifs,0⟩] scope pos) (tLC wi st g tt te):=by
 intro kX s Z H Q I h;have hcl:zFW scope X.env=pure (au scope X.env):=iz λ y hy hk=>I.ok.has _ (B.free y hy hk)
 rw[eval_ListComp];refine zEh (use:=none) rfl hs hcl B.kind B.loc (thn (hi kX s Z H _ I h) λ v s1 h1=>thn h1 λ itv s2 h2=>?_);obtain⟨it,fp,tn,J,H2,e,I2,T,st2,f2,hq⟩:=h2;subst e;refine aCz (RR:=λ acc C=>compPost (model X.prog X.w) X.A X.xe none (EP X kX Z Q) acc C) B hc hg hgo ht he I2 T st2 f2 hq ?_;intro D C H' s' hJ qV q;have I3:=aCF I2 f2 hJ;obtain⟨Z',J'⟩:=hJ;obtain⟨m,hn,_⟩:=id J'.loc;have hHC:H' C=none:=J'.free;refine⟨m,hn,λ h'' hs''=>⟨.ref D,H',?_,rfl,q⟩⟩;exact I3.turned (t':=s'.toks) (λ b o ne e=>(hs''.2 b ne).trans e) hHC (zC3 (zAW I2.lt qV)) (.inr (zAl I2.sz qV))
  (λ x c e z=>by obtain⟨v,ic⟩:=I2.cell x c e;exact absurd (zAW ic.lt (by rw[z];exact qV)) (zBh _))
  (λ p hp z=>absurd (zAW (I2.pinL hp) (by rw[z];exact qV)) (zBh _))
def aCc(hN:X.N.Nodup)(hx1:X.N[i]? =some x)(hx2:Loc X.env.scope x)(B:fD X scope N st ks)(hc:X.calm=true)(hi:PI X tg iter wi)(hg:∀C fp z0 zS,PG (X.block scope C N fp z0 zS) tg g)(hgo:uR g ks)
  (ht:∀C fp z0 zS,aDd (X.block scope C N fp z0 zS) ifs tt)(he:∀C fp z0 zS,PE (X.block scope C N fp z0 zS) elt te)(hsw:zCp (.ListComp elt [⟨tg,iter,ifs,0⟩] scope pos) (some (.Name x pos')) spos.line X.env=pure true)
  (hs:∀x,zCH iter X.env x=pure x:=by intro _;rfl)(hf:X.fn x=true\/X.env.scope.names.lookup x=some .local:=by first|exact .inl rfl|exact .inr rfl|assumption):
  PS X (.Assign [.Name x pos'] (.ListComp elt [⟨tg,iter,ifs,0⟩] scope pos) spos) (aBD (tLC wi st g tt te) (oA i)):=by
 intro kX s Z H D I h;have hcl:zFW scope X.env=pure (au scope X.env):=iz λ y hy hk=>I.ok.has _ (B.free y hy hk)
 rw[zIf _ _ _ _ hsw];refine zAB (zEC (zAB ?_));show wpAny _ _ (do let _ <-comprehension (.ListComp elt [⟨tg,iter,ifs,0⟩] scope pos) scope X.env _ (zG2 []) false (eval iter X.env) (some (zDx (.Name x pos') X.env))) _ _ s;refine zAB (zBX (zEh (use:=some (zDx (.Name x pos') X.env)) (Q:=λ _ s'=>SP X kX D .next s') rfl hs hcl B.kind B.loc (thn (hi kX s Z H _ I h) λ v s1 h1=>thn h1 λ itv s2 h2=>?_)) (λ _ s' hq=>zAF (zAF hq)) λ _ _ e=>e);obtain⟨it,fp,tn,J,H2,e,I2,T,st2,f2,hq⟩:=h2;subst e;refine aCz (Q:=λ x H1=>oA i x Z H1 D.nx) (RR:=λ acc C=>compPost (model X.prog X.w) X.A X.xe (some (zDx (.Name x pos') X.env)) (λ _ s'=>SP X kX D .next s') acc C) B hc hg hgo ht he I2 T st2 f2 hq ?_;intro DD C H' s' hJ qV q;have I3:=aCF I2 f2 hJ;obtain⟨Z',J'⟩:=hJ;obtain⟨m,hn,_⟩:=id J'.loc;have hHC:H' C=none:=J'.free;have neL:C≠X.env.locals:=zC3 (zAW I2.lt qV);have neC:∀x c,X.env.cells.lookup x=some c->c≠C:=λ x c e z=>by obtain⟨v,ic⟩:=I2.cell x c e;exact absurd (zAW ic.lt (by rw[z];exact qV)) (zBh _)
 show wpAny _ _ (zDx (.Name x pos') X.env (.ref DD)) _ _ _;refine zG7 ?_;refine uW I3 hN hx1 hx2 (show RelV (.ref DD) (.ref DD)from rfl) (λ s4 I4 ⟨a,hsa,ha⟩=>?_) hf;have nea:C≠a:=by
  rcases ha with z|z
  .rw[z];exact neL
  .exact zDU (neC _ _ z)
 refine⟨m,hn.sameBut hsa nea,λ h'' hs''=>⟨_,H',?_,q⟩⟩;exact I4.turned (t':=s4.toks) (λ b o ne e=>(hs''.2 b ne).trans e) hHC neL (.inr (zAl I2.sz qV)) neC
  (λ p hp z=>absurd (zAW (I2.pinL hp) (by rw[z];exact qV)) (zBh _))
end
def CX1(P:zA2)(w:World):CXT:=λ outer H s E e s'=>∃(ea:Addr) (cls a0:Value) (B:Heap) (H':Hp),e= .ref ea/\s'.os=s.os/\zFG s'.gens/\Un (frs outer) [] H H' s.heap s'.heap/\HOk P w H' B/\zJR B outer ea cls a0 s'.heap/\
 (∀b o,s.heap.get? b=some o->H b=none->b∉frs outer->B.get? b=some o)/\(∀b o,s.heap.get? b=some o->b∉frs outer->∃o',B.get? b=some o')/\E cls none H'
structure di(X:Cx)(E:XK):Prop where
 stk:X.stack=X.env::X.outer
 fr:X.env.frame=some X.env.locals
 ex:X.ex=[]
 xe:X.xe=λ e s'=>wpAny (model X.prog X.w) X.A (leaving X.env e) (λ _ s''=>CX1 X.prog X.w X.outer X.zS X.z0 E e s'') (λ e' s''=>CX1 X.prog X.w X.outer X.zS X.z0 E e' s'') s'
def di.of{K:zAA}:
  di (wR (CX1 P w) P w K mg base N qual scope f cd A outer z0 zS E) E:=⟨rfl,rfl,rfl,rfl⟩
section
variable{X:Cx}{E:XK}
def aJ5{B h':Heap}(hX:X.ex=[])(I:Inv X kX Z H s)
  (a1:∀b o,s.heap.get? b=some o->H b=none->b∉frs X.stack->B.get? b=some o)(a2:∀b o,s.heap.get? b=some o->b∉frs X.stack->∃o',B.get? b=some o')
  (a3:B.StaysIn h')(a4:∀b o,b∈frs X.outer->s.heap.get? b=some o->H b=none->(∀vs,o.data≠.fields vs)->∃sl,h'.get? b=some {o with slots:=sl})
  (a5:∀b o,s.heap.get? b=some o->H b=none->H' b=none)(a6:∀b xs,H b=some (.tup xs)->H' b=some (.tup xs))(a7:∀b o u,H b=some (.frz o u)->H' b=some (.frz o u))(a8:∀b ps,H b=some (.tbl ps)->∃more,H' b=some (.tbl (ps++more))):
  Un (frs X.outer) [] X.zS H' X.z0.heap h'/\(∀b o,X.z0.heap.get? b=some o->X.zS b=none->b∉frs X.outer->B.get? b=some o)/\(∀b o,X.z0.heap.get? b=some o->b∉frs X.outer->∃o',B.get? b=some o'):=by
 have nx:∀b,b∉X.ex:=λ b z=>by rw[hX]at z;cases z
 have noS:∀b o,X.z0.heap.get? b=some o->b∉frs X.outer->b∉frs X.stack:=λ b o e nf hb=>by
  rcases zAJ.mp (I.stkSub b hb)with z|z
  .exact absurd z (zA4 (zAW (zAT e) I.ok.above))
  .exact nf z
 have bk:∀b o,X.z0.heap.get? b=some o->X.zS b=none->b∉frs X.outer->B.get? b=some o:=λ b o e n nf=>
  a1 b o (I.base.keep b o e n nf (nx b)) (I.base.free b o e n (nx b)) (noS b o e nf)
 have ba:∀b o,X.z0.heap.get? b=some o->b∉frs X.outer->∃o',B.get? b=some o':=λ b o e nf=>by
  obtain⟨o1,e1⟩:=I.base.there b o e (nx b);exact a2 b o1 e1 (noS b o e nf)
 have sl:∀b o,X.z0.heap.get? b=some o->X.zS b=none->b∈frs X.outer->∃sl,h'.get? b=some {o with slots:=sl}:=λ b o e n hb=>by
  obtain⟨sl1,e1⟩:=I.base.slot b o e n hb (nx b);obtain⟨_,o2,ho2,hnf⟩:=I.ok.funs.mem hb;rw[e]at ho2;cases ho2;obtain⟨sl2,e2⟩:=a4 b _ hb e1 (I.base.free b o e n (nx b)) hnf;exact⟨sl2,e2⟩
 refine⟨⟨λ b o e n nf _=>a3 b o (bk b o e n nf),λ b o e n hb _=>sl b o e n hb,λ b o e n _=>?_,λ b o e _=>?_,λ b xs e=>a6 b xs (I.base.tups b xs e),λ b o u e=>a7 b o u (I.base.frzs b o u e),λ b ps e=>?_⟩,bk,ba⟩
 .obtain⟨o1,e1⟩:=I.base.there b o e (nx b)
  exact a5 b o1 e1 (I.base.free b o e n (nx b))
 .by_cases hb:b∈frs X.outer
  .obtain⟨s2,e2⟩:=sl b o e (I.ok.frf b hb) hb
   exact⟨_,e2⟩
  .obtain⟨o',e'⟩:=ba b o e hb
   exact⟨o',a3 b o' e'⟩
 .obtain⟨m1,e1⟩:=I.base.tbls b ps e
  obtain⟨m2,e2⟩:=a8 b _ e1;exact⟨m1++m2,by rw[e2,zHe]⟩
def di.pass(D:di X E):sH (CX1 X.prog X.w) X E:=by
 intro kX Z H s e s' I h;obtain⟨ea,cls,a0,B,H',rfl,os,bare,un,hok,fly,bk,ba,hE⟩:=h;rw[D.xe];have fly':=fly;rw[D.stk]at fly';have hfr:=I.ok.frames;rw[D.stk]at hfr;refine wpAny_leaves_onW (L:=X.env.locals) hfr D.fr fly' λ h' fl up=>?_
 have a4:∀b o,b∈frs X.outer->s.heap.get? b=some o->H b=none->(∀vs,o.data≠.fields vs)->∃sl,h'.get? b=some {o with slots:=sl}:=λ b o hb e n nf=>by
  have hb':b∈frs X.stack:=by
   rw[D.stk];unfold frs;rw[zBZ,D.fr];exact zAH _ hb
  obtain⟨s1,e1⟩:=un.slot b o e n hb' (λ z=>nomatch z);obtain⟨s2,e2⟩:=up b _ e1 nf;exact⟨s2,e2⟩
 obtain⟨u1,u2,u3⟩:=aJ5 (B:=B) (h':=h') (H':=H') D.ex I bk ba fl.1 a4 (λ b o e n=>un.free b o e n (λ z=>nomatch z)) un.tups un.frzs un.tbls;exact⟨ea,cls,a0,B,H',rfl,os.trans I.os,bare,u1,hok,fl,u2,u3,hE⟩
def di.raise(D:di X E){ea:Addr}(I:Inv X kX Z H s)
  (hx:Heap.MadeExcOf s.heap h1 ea cls vs)(hE:E cls none H):X.xe (.ref ea) {s with heap:=h1}:=by
 rw[D.xe];have stk:s.heap.FunFrames X.base X.stack:=I.stack;have hin:∀env∈X.stack,∀a,env.frame=some a->a∈frs X.stack:=λ env he a ha=>zBp.mpr ⟨env,he,ha⟩
 have stk2:=zGi stk hin;have hfr:=I.ok.frames;rw[D.stk]at hfr;have stk3:s.heap.FunFrames (zCN s.heap (frs X.stack)) (X.env::X.outer):=by rw[<-D.stk];exact stk2
 refine wpAny_leaves_madeW (L:=X.env.locals) (base:=zCN s.heap (frs X.stack)) hfr D.fr (λ b o q=>zDo _ q) stk3 hx λ h' t fl tup bn up=>?_
 have hok:HOk X.prog X.w H (zCN s.heap (frs X.stack)):=λ a o e=>by
  refine(I.hok a o e).stay (λ b u hb q=>zC9 _ q λ hm=>?_) (λ _ z=>z) λ _ _ z=>z
  have hn:=I.stkFree b hm;rcases hb with z|z
  .rw[z,e]at hn;cases hn
  .rw[z]at hn;cases hn
 obtain⟨u1,u2,u3⟩:=aJ5 (B:=zCN s.heap (frs X.stack)) (h':=h') (H':=H) D.ex I (λ b o e n nf=>zC9 _ e nf) (λ b o e nf=>⟨o,zC9 _ e nf⟩) fl.1
  (λ b o hb e n nf=>up b o (hx.keeps b o e) nf) (λ b o e n=>n) (λ _ _ e=>e) (λ _ _ _ e=>e) (λ b ps e=>⟨#[],by rw[e];simp⟩)
 exact⟨ea,cls,.ref t,_,H,rfl,I.os,I.bare,u1,hok,fl,u2,u3,hE⟩
def di.own(D:di X E):zI9 (model X.prog X.w) X.A X.env X.xe:=λ e s' h=>by
 rw[D.xe]at h ⊢;exact wpAny_leaving_again (SameStack.refl _) h
end
section
variable{P:zA2}{w:World}{K:zAA}{mg:Str->Option Value}{base:Heap}
def Fun.okX{st:Stmt}(F:Fun K x q st f fd)(S:aY N ps (aJ st))(len:∀vs H Q E,sp vs H Q E->vs.length=ps.length)
  (hbody:∀(cdv:Value) (A:zAc) (outer:List Env) (s:zAG) (H:Hp) (vs:List V) (Q:VK) (E:XK),fB k (A.deeper (zDO q (aJ st) s.heap.objs.size f cdv))->sp vs H Q E->
   ∃t,PSs (wR (CX1 P w) P w K mg base N q (aJ st) f cdv A outer s H E) (dM st) t/\t {nx:=λ _ H'=>Q .non H',rt:=Q} (start N vs) H):dB P w K mg base (CX1 P w) (k+1) f fd ps sp:=by
 obtain⟨oc,od,kV,doc,pm,an,cdv,ct,osl,rfl,lk,hcd⟩:=F.ex;exact aPf lk hcd S len λ A outer s H vs Q E hr hsp=>hbody cdv A outer s H vs Q E hr hsp
end
def cM(K:zAA)(C:Addr):Prop:=zGY K C [.type "ValueError",.type "Exception",.type "BaseException",.type "object"] "ValueError.__new__"=true
def uw{K:zAA}(X:K.In h)(hm:mg x=some (.ref C))(q:cM K C):OwnCls x C [.type "ValueError",.type "Exception",.type "BaseException",.type "object"] "ValueError.__new__" mg h:=by
 refine⟨hm,?_⟩;unfold cM zGY at q;split at q
 .rename_i dd cd sl ho
  split at q
  .rename_i C' bm k0 k1 k2 k3 n k5 hm' hs
   simp only[zAK,beq_iff_eq,zCw]at q;obtain⟨⟨⟨⟨⟨rfl,rfl⟩,hdel⟩,ht⟩,hok⟩,hni⟩:=q;obtain⟨nm,bs,mro,ns,qn,hd,sn,sub,ab,col,del⟩:=cd;dsimp only at hm' hdel hok hni;subst hm' hdel;have hsl:sl=#[k0,k1,k2,k3,some (.builtin "ValueError.__new__"),k5]:=by
    obtain⟨l⟩:=sl;simp only at hs;rw[hs]
   subst hsl;exact⟨bm,ns,nm,qn,bs,hd,sn,sub,ab,col,dd,k0,k1,k2,k3,k5,_,X _ _ ho,.of_isNs (PySem.W.isNs_of_in X hok),PySem.W.nsMap_none_of_in X hok hni,PySem.W.tail_of_in X ht⟩
  .cases q
 .cases q
def aMq(C:Addr)(E:XK)(ta:TA):TS:=λ _ Z H=>ta Z H λ vs H1=>vs.length<=zAX/\E (.ref C) none H1
section
variable{X:Cx}{E:XK}
def aIR(D:di X E)(hc:X.calm=true){rest:List Expr}(hm:X.mg x=some (.ref C))(hC:cM X.K C)(hg:Gl X x)
  (ha:PA X (yY::rest) ta)(he:zAZ (yY::rest) X.env=(false,eval yY X.env)::zAZ rest X.env:=by rfl)
  (hplain:(zCo cpos (zAZ rest X.env)).any (·.1)=false:=by rfl)(hd:Nd x:=by decide):
  PS X (.Raise (some (.Call (.Name x np) (yY::rest) [] cpos)) none pos) (aMq C E ta):=by
 intro kX s Z H DD I h;obtain⟨tl,NN,nm,q,bs,hdct,sn,sub,ab,col,dd,k0,k1,k2,k3,k5,mN,hCo,hN,hni,T⟩:=(uw (h:=X.base) I.mod.kin hm hC).obj;have FB:=PySem.F.excBase_ValueError;refine wpAny_Raise_call_subU (C:=C) (nm:=nm) (q:=q) (N:=NN) (bs:=bs) (bm:=tl) (hdct:=hdct) (sn:=sn) (sub:=sub) (ab:=ab) (col:=col) (dd:=dd) (k0:=k0) (k1:=k1) (k2:=k2) (k3:=k3) (k5:=k5)
  FB FB.hasB FB (mN:=mN) (T.hasType FB.hasBase) (I.ok.hd hc) (by rw[he];show(false||(zCo cpos (zAZ rest X.env)).any (·.1))=false;rw[hplain];rfl) hni
  (qM I hg hm ⟨rfl,?_⟩ hd)
 have harg:=ha cpos kX s Z H _ I h;rw[he]at harg ⊢;refine zHQ (zBX harg (λ vs z4 y3=>?_) λ _ _ y=>y);obtain⟨xs,H2,I2,rv,hz,hE⟩:=y3;refine⟨rfl,by show vs.length<=zAX;rw[<-rv.length];exact hz,I2.bk _ _ hCo,hN.keeps I2.bk,T.keeps I2.bk,λ h' ea hx=>D.raise I2 hx hE⟩
end
section
variable{κ:Type}[DecidableEq κ]
end
end L2
namespace Att
open PySem PySem.W PySem.Calls PyProof.Rows
end Att
namespace L2
open PySem PySem.Spec PyProof.Rows
section
variable{κ:Type}[DecidableEq κ]
end
def aAD{pos:Pos}{a b:Int}{c cv:Value}(l:List Value)(h:TriplesOk l)(e:zGF pos (l++[zGk a,zGk b,c])=some cv):zGF pos l=some cv\/cv=c:=by
 fun_induction TriplesOk l with
 |case1=>
  simp only[zCU,zGF,zGk]at e;split at e
  .exact .inr (zAa e).symm
  .cases e
 |case2 a' t b' u x rest ih=>
  simp only[zCi,zGF]at e ⊢;split at e
  .rename_i hc;rw[if_pos hc];exact .inl e
  .rename_i hc;rw[if_neg hc];exact ih h e
 |case3 l h1 h2=>exact h.elim
abbrev Cx.noT(X:Cx):Cx:={X with ta:=[]}
section
variable{X:Cx}{kX:hZ}{Z:St}{H:Hp}{s:zAG}
theorem Inv.noT(I:Inv X kX Z H s):Inv X.noT kX Z H s:=
 ⟨⟨I.ok.mod,I.ok.kind,I.ok.glob,I.ok.blt,I.ok.above,I.ok.inj,I.ok.has,I.ok.cab,I.ok.hd,I.ok.frames,I.ok.stk,I.ok.exf,I.ok.bs,I.ok.bsz,I.ok.noex,I.ok.exfs,I.ok.funs,I.ok.frf⟩,
  I.os,I.bare,I.base,I.loc,I.cell,I.free,I.freeC,I.pin,I.hok,I.len,λ p hp=>absurd (show p∈([]:hZ)from hp) (by simp)⟩
def Inv.ofT{H':Hp}{s':zAG}(I:Inv X kX Z H s)(J:Inv X.noT kX Z H' s')(t:∀p∈X.ta,H' p.1=none/\p.1≠X.env.locals/\p.1∉X.fs/\(∀q∈X.pn++kX,q.1≠p.1)/\∃ps,s'.heap.get? p.1=some {cls:=.none,data:=.fields ps}/\TabOk X.tq H' ps):Inv X kX Z H' s':=
 ⟨I.ok,J.os,J.bare,J.base,J.loc,J.cell,J.free,J.freeC,J.pin,J.hok,J.len,t⟩
structure wK(X:Cx)(P:Addr):Prop where
 ta:∃o,X.ta=[(P,o)]
 ex:P∈X.ex
 tq:X.tq=X.env.qual++"<lambda>"
 code:∃c,X.env.code= .ref c/\zIQ X.base c P
 blt:X.base.BuiltinsAt X.mg P
 gne:zA6≠P
def aDe(q:Str)(params:zD0)(body:Expr)(scope:Scope)(cl:List (Str×Addr))(pm:Value)(H:Hp)(f c':Addr)(ctv:Value):Prop:=
 H f=some (.frz (zCm "<lambda>" q params body scope cl pm c' ctv) (.own f))/\∃oc,H c'=some (.frz oc (.own c'))/\aMe q oc
def aIz{P:Addr}{params:zD0}{body:Expr}{scope:Scope}{pos:Pos}{Q:Value->zAG->Prop}{E:Value->zAG->Prop}(Lx:wK X P)(I:Inv X kX Z H s)(hdef:zJ4 params X.env=([],[]))
  (hfree:∀y∈scope.names,y.2= .free->X.env.kindOf y.1=some .cell\/X.env.kindOf y.1=some .free)
  (h:∀(f c':Addr) (ctv:Value) (H':Hp) (s':zAG),Inv X kX Z H' s'->aV H H'->aDe X.tq params body scope (au scope X.env) ((X.mg "__name__").getD .none) H' f c' ctv->Q (.ref f) s'):
  wpAny (model X.prog X.w) X.A (eval (.Lambda params body scope pos) X.env) Q E s:=by
 obtain⟨o0,hta⟩:=Lx.ta;obtain⟨c,hcode,hC⟩:=Lx.code;obtain⟨hPn,hPL,hPf,hPp,ps,hP,ht⟩:=I.tab (P,o0) (by rw[hta];exact zAE);dsimp only at hPn hPL hPf hPp hP;have hcl:zFW scope X.env=pure (au scope X.env):=iz λ y hy hk=>I.ok.has _ (hfree y hy hk)
 have hgs:s.heap.Ns zA6 X.mg:=by
  obtain⟨o,es,ep,e,r⟩:=I.ok.mod.glob;exact⟨o,es,ep,I.bk _ _ e,r⟩
 have hC':zIQ s.heap c P:=hC.keeps I.bk;have hb:s.heap.BuiltinsAt X.mg P:=by
  obtain⟨bm,ob,b1,b2,b3,b4,b5,b6⟩:=Lx.blt;exact⟨bm,ob,b1,b2,b3,b4,I.bk _ _ b5,b6⟩
 refine PySem.W.kla_eval hdef ?_;rw[<-Lx.tq];cases hf:zGF pos ps.toList with
 |some cv=>
  obtain⟨c',oc,rfl,hc',hco⟩:=ht.2 pos cv hf;refine PySem.W.kla_makeFunctionHit hcl I.ok.glob hgs hcode hC' hP ht.1 hf hb λ ctv h' tk k hsz=>?_
  have hfr:H h'.objs.size=none:=I.hok.fresh hsz;have sm:aV H (upd H h'.objs.size (.frz (zCm "<lambda>" X.tq params body scope (au scope X.env) ((X.mg "__name__").getD .none) c' ctv) (.own h'.objs.size))):=λ b u e=>by rw[aX (bM e hfr)];exact e
  have I':=I.laid (h':=h'.push (zCm "<lambda>" X.tq params body scope (au scope X.env) ((X.mg "__name__").getD .none) c' ctv)) (t':=tk) (a:=h'.objs.size) (o:=.frz (zCm "<lambda>" X.tq params body scope (au scope X.env) ((X.mg "__name__").getD .none) c' ctv) (.own h'.objs.size)) (λ b u e=>zAC _ (k b u e)) hsz
   ⟨zAL _ rfl,_,zAL _ rfl⟩
  exact h _ c' ctv _ _ I' sm ⟨aZ,oc,sm _ _ hc',hco⟩
 |none=>
  refine PySem.W.kla_makeFunction hcl I.ok.glob hgs hcode hC' hP ht.1 hf Lx.gne hb λ c' ctv h' tk hx hge hlt hrec htb=>?_
  obtain⟨c2,oc,vs,t,e2,hoc,hd,hv⟩:=hrec;cases e2;have hcn:H c'=none:=I.hok.fresh hge;have hfn:H h'.objs.size=none:=I.hok.fresh (zAl hge (zBl hlt));have neT:∀b u,H b=some u->b≠c':=λ b u e=>bM e hcn
  have neP:∀b u,H b=some u->b≠P:=λ b u e=>bM e hPn
  have sm:aV H (upd H c' (.frz oc (.own c'))):=λ b u e=>by rw[aX (neT b u e)];exact e
  have hcne:∀x a,X.env.cells.lookup x=some a->a≠P:=λ x a e z=>by
   obtain⟨v,o,ho,hdd⟩:=I.cell x a e;rw[z,hP]at ho;cases ho;cases hdd
  have J:Inv X.noT kX Z (upd H c' (.frz oc (.own c'))) {s with heap:=h',toks:=tk}:=by
   refine I.noT.step (g':=s.gens) (d':=s.drawn) (ch:=[P]) (λ b hb'=>?_) (λ b o _ _ hc e _=>hx b o (λ z=>hc (by simp[z])) e) (λ b o _ _ hc e _=>⟨o.slots,hx b o (λ z=>hc (by simp[z])) e⟩)
    (λ b o _ e n=>by rw[aX (zA4 (zAW (zAT e) hge))];exact n) (λ b o hc e=>⟨o,hx b o (λ z=>hc (by simp[z])) e⟩)
    (λ b xs e=>sm _ _ e) (λ b o u e=>sm _ _ e) (λ b ps e=>⟨#[],by rw[sm _ _ e];simp⟩) (λ m hm=>hm.extBut hx (λ z=>hPL z.symm)) (λ b u e=>?_) I.bare
   .have e:b=P:=by simpa using hb'
    subst e;exact⟨.inl Lx.ex,hPL,λ x c e=>hcne x c e,λ p hp=>hPp p hp⟩
   .by_cases hbc:b=c'
    .subst hbc
     rw[aZ]at e;cases e;exact⟨hoc,oc,hoc⟩
    .rw[aX hbc]at e
     refine(I.hok b u e).stay (λ d v hd' q=>hx d v ?_ q) (λ d q=>sm _ _ q) λ d xs q=>sm _ _ q
     rcases hd' with z|z
     .rw[z];exact neP b u e
     .exact neP d _ z
  have I':=I.ofT J λ p hp=>by
   rw[hta]at hp;have e:p=(P,o0):=by simpa using hp
   subst e;refine⟨by rw[aX (zA4 (zAW (zAT hP) hge))];exact hPn,hPL,hPf,hPp,_,htb,?_⟩;refine⟨?_,λ pos2 cv e=>?_⟩
   .rw[zHY]
    exact TriplesOk_snoc _ _ _ _ ht.1
   .rw[zHY]at e
    rcases aAD _ ht.1 e with z|z
    .obtain⟨c2,oc2,z1,z2,z3⟩:=ht.2 pos2 cv z
     exact⟨c2,oc2,z1,sm _ _ z2,z3⟩
    .exact⟨c',oc,z,aZ,vs,t,hd,hv⟩
  have hfr:upd H c' (.frz oc (.own c')) h'.objs.size=none:=by rw[aX (zC3 hlt)];exact hfn
  have sm2:aV (upd H c' (.frz oc (.own c'))) (upd (upd H c' (.frz oc (.own c'))) h'.objs.size (.frz (zCm "<lambda>" X.tq params body scope (au scope X.env) ((X.mg "__name__").getD .none) c' ctv) (.own h'.objs.size))):=λ b u e=>by rw[aX (bM e hfr)];exact e
  have I2:=I'.laid (h':=h'.push (zCm "<lambda>" X.tq params body scope (au scope X.env) ((X.mg "__name__").getD .none) c' ctv)) (t':=tk) (a:=h'.objs.size) (o:=.frz (zCm "<lambda>" X.tq params body scope (au scope X.env) ((X.mg "__name__").getD .none) c' ctv) (.own h'.objs.size)) (λ b u e=>zAC _ e) (zAQ _)
   ⟨zAL _ rfl,_,zAL _ rfl⟩
  exact h _ c' ctv _ _ I2 (sm.trans sm2) ⟨aZ,oc,sm2 _ _ aZ,vs,t,hd,hv⟩
def aPy(q:Str)(params:zD0)(body:Expr)(scope:Scope)(cl:List (Str×Addr))(pm:Value):TE:=λ Z H Q=>∀f c' ctv H',aV H H'->aDe q params body scope cl pm H' f c' ctv->Q (.ref f) H'
def aNZ{P:Addr}{params:zD0}{body:Expr}{scope:Scope}{pos:Pos}(Lx:wK X P)(hdef:zJ4 params X.env=([],[]))
  (hfree:∀y∈scope.names,y.2= .free->X.env.kindOf y.1=some .cell\/X.env.kindOf y.1=some .free):PE X (.Lambda params body scope pos) (aPy X.tq params body scope (au scope X.env) ((X.mg "__name__").getD .none)):=
 λ kX s Z H Q I h=>aIz Lx I hdef hfree λ f c' ctv H' s' I' sm l=>⟨.ref f,H',I',rfl,h f c' ctv H' sm l⟩
end
def aDn(X:Cx)(k0:Nat)(i:Nat)(E:XK):TE:=λ Z H Q=>∃f cls dd sl fd k sp,Z[i]? =some (some (.ref f))/\H f=some (.frz ⟨cls,dd,.func fd,sl⟩ (.own f))/\dB X.prog X.w X.K X.mg X.base (CX1 X.prog X.w) k f fd [] sp/\k<=k0/\Binds X.K fd [] []/\sp [] H Q E
def aIZ{X:Cx}{k0 i:Nat}{y:Str}{p pos:Pos}{E:XK}(hr:fB k0 X.A)(hx:sH (CX1 X.prog X.w) X E)(hN:X.N[i]? =some y)(hv:Vis X.env.scope y)(hd:Nd y:=by decide)(hcd:(y==("__classdict__":Str))=false:=by decide):
  PE X (.Call (.Name y p) [] [] pos) (aDn X k0 i E):=by
 intro kX s Z H Q I ⟨f,cls,dd,sl,fd,k,sp,hs,hf,F,hk,hb,h⟩;have fin:wpAny (model X.prog X.w) X.A (eval (.Name y p) X.env) (λ v s'=>v= .ref f/\s'=s) X.xe s:=by
  obtain⟨mm,hnn,hl⟩:=I.loc;obtain⟨u,ru,l⟩:=hl i y _ hN hs hv;cases ru;rcases l with ⟨hk2,hm⟩|⟨hk2,c,hc,hcell⟩
  .exact zFY (zF3 I.ok.kind hk2 hnn hm ⟨rfl,rfl⟩) hd
  .rcases hk2 with hk2|hk2
   .exact zFY (zFo I.ok.kind hk2 hc hcell ⟨rfl,rfl⟩) hd
   .exact zFY (zIx I.ok.kind hk2 hc hcell ⟨rfl,rfl⟩ hcd) hd
 refine zCM (thn fin λ v s' ⟨ev,es'⟩=>?_);subst ev es';obtain⟨ho,_⟩:s'.heap.get? f=some _/\_:=I.hok f _ hf;have KX:PySem.W.Frag.In [(f,⟨cls,dd,.func fd,sl⟩)] s'.heap:=λ b o e=>by
  rw[zBG]at e;by_cases hbf:b=f
  .subst hbf
   simp only[beq_self_eq_true]at e;cases e;exact ho
  .simp only[beq_eq_false_iff_ne.mpr hbf]at e
   cases e
 exact PySem.W.callWith_K0 (K:=[(f,⟨cls,dd,.func fd,sl⟩)]) KX (by simp[zBx,zBG]) (aHt (us:=[]) F (hr.mono hk) hb .nil hx I .nil h)
def cxL(P:zA2)(w:World)(K:zAA)(mg:Str->Option Value)(base:Heap)(N:List Str)(q:Str)(scope:Scope)(cl:List (Str×Addr))(f:Addr)(cd:Value)(A:zAc)(outer:List Env)(s:zAG)(H:Hp)(E:XK):Cx where
 prog:=P
 w:=w
 K:=K
 mg:=mg
 base:=base
 A:=A.deeper (zDF q scope s.heap.objs.size f cd cl)
 N:=N
 z0:=s
 zS:=H
 env:=zDF q scope s.heap.objs.size f cd cl
 outer:=outer
 stack:=zDF q scope s.heap.objs.size f cd cl::outer
 ex:=[]
 calm:=true
 fn:=λ _=>false
 pn:=[]
 xe:=λ e s'=>wpAny (model P w) (A.deeper (zDF q scope s.heap.objs.size f cd cl)) (leaving (zDF q scope s.heap.objs.size f cd cl) e) (λ _ s''=>CX1 P w outer H s E e s'') (λ e' s''=>CX1 P w outer H s E e' s'') s'
def di.ofL{P:zA2}{w:World}{K:zAA}{mg:Str->Option Value}{base:Heap}{N:List Str}{q:Str}{scope:Scope}{cl:List (Str×Addr)}{f:Addr}{cd:Value}{A:zAc}{outer:List Env}{s:zAG}{H:Hp}{E:XK}:
  di (cxL P w K mg base N q scope cl f cd A outer s H E) E:=⟨rfl,rfl,rfl,rfl⟩
structure zb(scope:Scope):Prop where
 kind:scope.kind= .function
 co:scope.isCoroutine=false
 gen:scope.isGenerator=false
 cell:∀y∈scope.names,y.2≠.cell
 loc:∀y∈scope.names,y.2≠.local
structure aKH(base:Heap)(N:List Str)(Z:St)(scope:Scope)(cl:List (Str×Addr)):Prop where
 inj:∀x y c,cl.lookup x=some c->cl.lookup y=some c->x=y
 has:∀x,scope.names.lookup x=some .free->∃c,cl.lookup x=some c
 cell:∀x c,cl.lookup x=some c->∃v,base.IsCell c v
 val:∀(i:Nat) x v,N[i]? =some x->Z[i]? =some (some v)->scope.names.lookup x=some .free->∃c u,cl.lookup x=some c/\RelV v u/\base.IsCell c (some u)
 len:Z.length=N.length
def aNz{P:zA2}{w:World}{K:zAA}{mg:Str->Option Value}{base:Heap}{N:List Str}{q:Str}{params:zD0}{scope:Scope}{cl:List (Str×Addr)}{f c':Addr}{pm ctv:Value}{body:Expr}{k:Nat}{Z:St}{H1:Hp}{sp:Sp}
  (la:aDe q params body scope cl pm H1 f c' ctv)(S:zb scope)(cp:aKH base N Z scope cl)
  (len:∀vs H Q E,sp vs H Q E->vs=[]/\aV H1 H)
  (hbody:∀(A:zAc) (outer:List Env) (s:zAG) (H:Hp) (Q:VK) (E:XK),fB k (A.deeper (zDF q scope s.heap.objs.size f (.ref c') cl))->sp [] H Q E->∃te,PE (cxL P w K mg base N q scope cl f (.ref c') A outer s H E) body te/\te Z H Q):
  dB P w K mg base (CX1 P w) (k+1) f (zGB "<lambda>" q params body scope cl pm (.ref c') ctv) [] sp:=by
 refine⟨λ vs H Q E h=>by rw[(len vs H Q E h).1];rfl,λ A outer s H args us vs Q E hr e0 hb r hsp=>?_⟩;obtain⟨rfl,hsm⟩:=len _ _ _ _ hsp;obtain⟨te,hpe,hte⟩:=hbody A outer s H Q E (hr.deeper _) hsp;have e8:s.heap.NoLimit:=e0.mod.nolimit.keeps λ b o e=>(e0.bs b o e).1
 obtain⟨hf,oc,hc,hco⟩:=la;obtain⟨ho,_⟩:s.heap.get? f=some _/\_:=e0.hok f _ (hsm _ _ hf);obtain⟨hoc,_⟩:s.heap.get? c'=some oc/\_:=e0.hok c' _ (hsm _ _ hc);obtain⟨vs,t,hd,hv⟩:=hco;refine PySem.W.kla_callFunE hr.depth ho rfl S.co S.gen rfl ⟨c',oc,vs,t,rfl,hoc,hd,hv⟩ (hb _ _ _ _ ?_);refine wpAny_newFunctionEnv S.cell (by intro y hy;simp at hy) (λ zD hns hsb=>?_) S.kind;have hk₁:∀b o,s.heap.get? b=some o->zD.get? b=some o:=λ b o e=>hsb.extBut b o (zA4 (zAT e)) (zAC _ e)
 refine⟨e8.keeps hk₁,?_⟩;show zCW _ _ (.expr body (zDF q scope s.heap.objs.size f (.ref c') cl)) _ _;have kb:∀b o,base.get? b=some o->zD.get? b=some o:=λ b o e=>hk₁ b o (e0.bs b o e).1
 have I:Inv (cxL P w K mg base N q scope cl f (.ref c') A outer s H E) [] Z H {s with heap:=zD,toks:=s.toks+(([]:List Str).zip us).length}:=by
  refine⟨⟨e0.mod,S.kind,rfl,rfl,zAQ _,cp.inj,λ x hx=>?_,λ x c z=>absurd z zAO,λ _=>hr.hd,zHB e0.frames,.inr ⟨rfl,rfl⟩,λ b z=>(nomatch z),e0.bs,e0.bsz,λ b _ _=>λ z=>(nomatch z),λ b z=>(nomatch z),e0.funs,e0.frf⟩,
   rfl,e0.bare,Un.kept hk₁,⟨_,hns,λ i x v e1 e2 e3=>?_⟩,λ x c e=>?_,e0.hok.fresh (zAQ _),λ x c e=>?_,λ p hp=>(nomatch hp),e0.hok.kept hk₁,cp.len,λ p hp=>(nomatch hp)⟩
  .rcases hx with z|z
   .exact absurd rfl (S.cell _ (zAp z))
   .exact cp.has x z
  .rcases e3 with z|z|z
   .exact absurd rfl (S.loc _ (zAp z))
   .exact absurd rfl (S.cell _ (zAp z))
   .obtain⟨c,u,c1,c2,c3⟩:=cp.val i x v e1 e2 z
    exact⟨u,c2,.inr ⟨.inr z,c,c1,c3.keeps kb⟩⟩
  .obtain⟨v,z⟩:=cp.cell x c e
   exact⟨v,z.keeps kb⟩
  .obtain⟨v,o,z,_⟩:=cp.cell x c e
   exact(e0.bs c o z).2
 refine PySem.W.kla_codeExpr (zBX (hpe [] _ Z H _ I hte) (λ u s' hq=>?_) λ e s' hq=>hq);obtain⟨v,H',J,rv,q⟩:=hq;exact⟨v,H',J.os,J.bare,J.base,J.hok,rv,q⟩
def bse(X:Cx)(s:zAG)(H:Hp):Heap:=zCN s.heap (trk s.heap H++frs X.stack)
section
variable{X:Cx}{kX:hZ}{Z:St}{H:Hp}{s:zAG}
def aGG{b:Addr}{o:Obj}(e:s.heap.get? b=some o)(n:H b=none)(nf:b∉frs X.stack):(bse X s H).get? b=some o:=
 zC9 _ e λ hm=>by
  rcases zAd.mp hm with z|z
  .have q:(H b).isSome=true:=(zAn.mp z).2
   rw[n]at q;cases q
  .exact nf z
def aO8{b:Addr}{o:Obj}(e:(bse X s H).get? b=some o):s.heap.get? b=some o/\H b=none:=by
 have e1:=zDo _ e;refine⟨e1,?_⟩;cases q:H b with
 |none=>rfl
 |some u=>
  have hm:b∈trk s.heap H++frs X.stack:=zA7 _ (zAn.mpr ⟨zBU.mpr (zAT e1),by rw[q];rfl⟩);have z:(zCN s.heap (trk s.heap H++frs X.stack)).get? b=none:=zEe _ hm;have e2:(zCN s.heap (trk s.heap H++frs X.stack)).get? b=some o:=e;rw[z]at e2;cases e2
def Inv.env1(I:Inv X kX Z H s):aDh X.prog X.w X.K X.mg (bse X s H) X.A X.stack s H:=by
 have kb:∀b o,X.base.get? b=some o->(bse X s H).get? b=some o:=λ b o e=>aGG (I.bs b o e).1 (I.bs b o e).2 λ hb=>by
  have z:=(I.stack.mem hb).1;rw[e]at z;cases z
 have ns:∀{b:Addr} {m:Str->Option Value},X.base.Ns b m->(bse X s H).Ns b m:=λ{b m} ⟨o,es,ep,e,r⟩=>⟨o,es,ep,kb _ _ e,r⟩
 refine⟨I.ok.frames,⟨I.mod.kin.keeps kb,ns I.mod.glob,?_,I.mod.nolimit.keeps kb⟩,λ b o e=>aO8 e,zH5 (zEf _ _),zGi I.stack λ env he a ha=>zA9 _ (zBp.mpr ⟨env,he,ha⟩),I.stkFree,I.hok,I.bare⟩;obtain⟨mb,h1,h2⟩:=I.mod.blt;exact⟨mb,ns h1,h2⟩
def aK9{CX:CXT}{k:Nat}{f:Addr}{fd:zAo}{ps:List Str}{sp:Sp}{E:XK}{Q:VK}{vs:List V}{us:List Value}(I:Inv X kX Z H s)(F:dB X.prog X.w X.K X.mg (bse X s H) CX k f fd ps sp)(hr:fB k X.A)(hb:Binds X.K fd ps [])(hx:sH CX X E)
  (r:Vals vs us)(h:sp vs H Q E):wpAny (model X.prog X.w) X.A (call (.ref f) us) (EP X kX Z Q) X.xe s:=by
 have hl:(us++[]).length=ps.length:=by rw[zBC,<-r.length];exact F.len _ _ _ _ h
 have hb':=hb s us I.kIn hl;rw[zBC]at hb';refine zHo (zDW (F.run X.A X.stack s H ⟨us,[]⟩ us vs Q E hr I.env1 hb' r h) λ r s' hq=>?_);cases r with
 |error e=>exact hx kX Z H s e s' I hq
 |ok fl=>
  cases fl with
  |ret u=>exact I.after hq
  |next=>exact zAR hq
  |brk=>exact zAR hq
  |cont=>exact zAR hq
def aO7{scope:Scope}(I:Inv X kX Z H s)(ho:X.outer=[])(S:zb scope)(hfree:∀y∈scope.names,y.2= .free->X.env.kindOf y.1=some .cell\/X.env.kindOf y.1=some .free):aKH (bse X s H) X.N Z scope (au scope X.env):=by
 have cb:∀x c v,X.env.cells.lookup x=some c->s.heap.IsCell c v->(bse X s H).IsCell c v:=λ x c v e ⟨o,h1,h2⟩=>⟨o,aGG h1 (I.freeC x c e) λ hb=>by
  rcases zAJ.mp (I.stkSub c hb)with z|z
  .exact I.cne x c e z
  .have z2:c∈frs X.outer:=z
   rw[ho]at z2;exact absurd z2 (by simp[frs]),h2⟩
 have hk:∀x,scope.names.lookup x=some .free->X.env.kindOf x=some .cell\/X.env.kindOf x=some .free:=λ x hx=>hfree (x,.free) (zAp hx) rfl
 refine⟨λ x y c e1 e2=>I.ok.inj x y c (gk e1) (gk e2),λ x hx=>?_,λ x c e=>?_,λ i x v e1 e2 hx=>?_,I.len⟩
 .obtain⟨c,hc⟩:=I.ok.has x (hk x hx)
  exact⟨c,uH hx hc⟩
 .obtain⟨v,z⟩:=I.cell x c (gk e)
  exact⟨v,cb x c v (gk e) z⟩
 .obtain⟨m,hn,hl⟩:=I.loc
  obtain⟨u,ru,hu⟩:=hl i x v e1 e2 ((hk x hx).elim (λ z=>.inr (.inl z)) λ z=>.inr (.inr z));rcases hu with ⟨k,_⟩|⟨_,c,ec,ic⟩
  .rcases hk x hx with z|z
   .exact absurd (k.symm.trans z) (by decide)
   .exact absurd (k.symm.trans z) (by decide)
  .exact⟨c,u,uH hx ec,ru,cb x c _ ec ic⟩
end
abbrev bmV:List Value:=[.type "ValueError",.type "Exception",.type "BaseException",.type "object"]
section
variable{prog:zA2}{w:World}{A:zAc}{E:Value->zAG->Prop}{h:Heap}{g:Array zFO}{d:Drawn}{t:Nat}{os:OsState}{a:Addr}{o:Obj}
 {nm q:Str}{C N:Addr}{bs bm:List Value}{hdct:Bool}{sn:List Str}{sub:List Value}{ab:Bool}{col:Option Bool}{dd:Option Addr}{k0 k1 k2 k3 k5:Option Value}{newId:String}{K:zAA}
def aD1{R:zFL->zAG->Prop}(hC:h.get? C=some (zEr nm q C N bs bm hdct sn sub ab col dd k0 k1 k2 k3 k5 newId))(T:OwnTail h bmV bm)
  (hx:h.get? a=some o)(hc:o.cls= .ref C)(hq:R (.ok (.ret (.ref C))) ⟨h,g,d,t,os⟩):
  zCW (model prog w) A (.call (.builtin "getset_descriptor.__get__") ⟨[.builtin "object.__class__",.ref a,.ref C],[]⟩) R ⟨h,g,d,t,os⟩:=by
 have hT5:(⟨h,g,d,t,os⟩:zAG).TypeIs (.builtin "object.__class__") "getset_descriptor":=zEy;have hcB:(zBF C::bm).contains (.type (".".intercalate ("object.__class__".cutAt '.').dropLast))=true:=by
  rw[F.owner_object_class,zFR,T.hasType (X:="object") (b:=true) (by decide+kernel)];rfl
 refine zF2 zH0.plain F.entry_gs_get (zH0.check _ _ _ _ _ _ _ _ hT5 (F.args_gs_get _ _ _) ?_)
 repeat (any_goals (first|assumption|(with_reducible refine zCg hx ?_;rw[hc])|(with_reducible refine zEO hC ?_;rw[hcB])|wp_step))
 refine⟨zHq _ (by decide+kernel),zBi F.entry_object_class ?_⟩
 repeat (any_goals (first|assumption|(with_reducible refine zCg hx ?_;rw[hc])|wp_step))
def aBw{M:Model}{nameV:Value}{Q:Unit->zAG->Prop}(hC:h.get? C=some (zEr nm q C N bs bm hdct sn sub ab col dd k0 k1 k2 k3 k5 newId))(T:OwnTail h bmV bm)
  (hx:h.get? a=some o)(hc:o.cls= .ref C)(hq:Q () ⟨h,g,d,t,os⟩):wpAny M A (zGt "BaseException.__getattribute__" ⟨[.ref a,nameV],[]⟩) Q E ⟨h,g,d,t,os⟩:=by
 have hk:builtinKind "BaseException.__getattribute__"=some .slot:=by decide+kernel
 have eR:splitId "BaseException.__getattribute__"=some ("BaseException","__getattribute__"):=by decide+kernel
 have hcB:(zBF C::bm).contains (.type "BaseException")=true:=by rw[zFR,T.hasType (X:="BaseException") (b:=true) (by decide+kernel)];rfl
 have ha:=F.args_bexc_ga (.ref a) nameV;simp only[zGt,hk,eR];refine zAB ?_
 .unfold isInstance
  repeat (first|(with_reducible refine zCg hx ?_;rw[hc])|(with_reducible refine zEO hC ?_;rw[hcB])|wp_step)
  exact hq
def aAE{tk:Tok}{Q:Fin->zAG->Prop}(hC:h.get? C=some (zEr nm q C N bs bm hdct sn sub ab col dd k0 k1 k2 k3 k5 newId))(T:OwnTail h bmV bm)(lk:∀M:Model,zEz M h (zG6 (.ref C) "__class__") (some (.builtin "object.__class__")))
  (hx:h.get? a=some o)(hc:o.cls= .ref C)(hq:Q (.done (.ret (.ref C))) ⟨h,g,d,t,os⟩):
  wpAny (model prog w) A (zDq.«object.__getattribute__» ⟨[.ref a,.str "__class__" tk],[]⟩) Q E ⟨h,g,d,t,os⟩:=by
 have hT5:(⟨h,g,d,t,os⟩:zAG).TypeIs (.builtin "object.__class__") "getset_descriptor":=zEy;have f5:=zEy;have f6:=zH0.lookup;have f7:=F.slot_gs_set.lookup
 repeat (any_goals (first|assumption|(with_reducible refine zCg hx ?_;rw[hc])|with_reducible refine(lk _).here ?_|wp_step))
 refine aD1 hC T hx hc ?_
 repeat (any_goals (first|assumption|wp_step))
def aBv{Q:Option Value->zAG->Prop}(hC:h.get? C=some (zEr nm q C N bs bm hdct sn sub ab col dd k0 k1 k2 k3 k5 newId))(T:OwnTail h bmV bm)(lk:∀M:Model,zEz M h (zG6 (.ref C) "__class__") (some (.builtin "object.__class__")))
  (lg:∀M:Model,zEz M h (zG6 (.ref C) "__getattribute__") (some (.builtin "BaseException.__getattribute__")))(ln:∀M:Model,zEz M h (zG6 (.ref C) "__getattr__") none)
  (hx:h.get? a=some o)(hc:o.cls= .ref C)(hq:Q (some (.ref C)) ⟨h,g,d,t+1,os⟩):wpAny (model prog w) A (getAttr? (.ref a) "__class__") Q E ⟨h,g,d,t,os⟩:=by
 have by_exc:∀{E:Value->zAG->Prop} {t:Nat} {tk:Tok} {Q:Value->zAG->Prop},Q (.ref C) ⟨h,g,d,t,os⟩->wpAny (model prog w) A (getAttrBy (.ref a) (.str "__class__" tk) false) Q E ⟨h,g,d,t,os⟩:=by
  intro E t tk Q hq;have FB:=PySem.F.excAttr_ValueError;have f3:=FB.ga.bind (.ref a);have hx0:(false&&onTheHeap (zEX "BaseException.__getattribute__"))=false:=rfl;have hx2:(zEX "BaseException.__getattribute__"==zEX "object.__getattribute__")=false:=by decide+kernel
  have hx1:(onTheHeap (zBF C)&&zEX "BaseException.__getattribute__"==zEX "object.__getattribute__")=false:=by rw[hx2];rfl
  repeat (any_goals (first|assumption|(with_reducible refine zCg hx ?_;rw[hc])|with_reducible refine(lg _).here ?_|with_reducible refine(ln _).here ?_|wp_step))
  refine zF2 FB.ga.plain F.entry_bexc_ga (aBw hC T hx hc (aAE hC T lk hx hc ?_))
  repeat (any_goals (first|assumption|wp_step))
 unfold getAttr? getAttrBy?
 repeat (any_goals (first|assumption|with_reducible apply by_exc|wp_step))
def aJE(hE:cM K C)(ha:zB2 K (.ref C) "__class__"=some (some (.builtin "object.__class__")))(hgt:zB2 K (.ref C) "__getattribute__"=some (some (.builtin "BaseException.__getattribute__")))
  (hga:zB2 K (.ref C) "__getattr__"=some none):PySem.W.KitX K (.ref a) (.ref C) (λ h=>∃o,h.get? a=some o/\o.cls= .ref C) where
 ty:=λ M h _ ⟨o,h1,h2⟩=>h2▸(zJX h1).andThen .now
 it:=λ M h X _=>by
  obtain⟨bm,NN,nm,q,bs,hdct,sn,sub,ab,col,dd,k0,k1,k2,k3,k5,mN,hC,_⟩:=(uw (h:=h) (mg:=λ _=>some (.ref C)) (x:="x") X rfl hE).obj;intro A' Q' E' s' k q;unfold isType loadHead;exact zAB (wpAny_loadPart (k _ _ hC) (zAF q))
 ne:=λ h tp dd its n sl X htp=>by
  obtain⟨bm,NN,nm,q,bs,hdct,sn,sub,ab,col,dd,k0,k1,k2,k3,k5,mN,hC,_⟩:=(uw (h:=h) (mg:=λ _=>some (.ref C)) (x:="x") X rfl hE).obj;refine zIJ.mpr λ z=>?_
  have e:C=tp:=Value.ref.inj (beq_iff_eq.mp z);subst e;rw[hC]at htp;exact absurd (congrArg Obj.cls (zAa htp)) (by show zCZ "type"≠zCZ "tuple";decide+kernel)
 ca:=λ{prog w A E Q s} X ⟨o,h1,h2⟩ k=>by
  obtain⟨h,g,d,t,os⟩:=s;obtain⟨bm,NN,nm,q,bs,hdct,sn,sub,ab,col,dd,k0,k1,k2,k3,k5,mN,hC,hN,hni,T⟩:=(uw (h:=h) (mg:=λ _=>some (.ref C)) (x:="x") X rfl hE).obj;exact aBv hC T (λ M=>zD8 X ha) (λ M=>zD8 X hgt) (λ M=>zD8 X hga) h1 h2 k
end
def excφ(a C:Addr):Heap->Prop:=λ h=>∃o,h.get? a=some o/\o.cls= .ref C
def excφ_stay{a C:Addr}:∀h1 h2:Heap,excφ a C h1->(∀o,h1.get? a=some o->h2.get? a=some o)->excφ a C h2:=λ h1 h2 ⟨o,e,c⟩ k=>⟨o,k o e,c⟩
structure aMG(K:zAA)(C:Addr):Prop where
 ex:cM K C
 ca:zB2 K (.ref C) "__class__"=some (some (.builtin "object.__class__"))
 gt:zB2 K (.ref C) "__getattribute__"=some (some (.builtin "BaseException.__getattribute__"))
 ga:zB2 K (.ref C) "__getattr__"=some none
section
variable{X:Cx}
def aMT(K:zAA):List V->Hp->VK->Prop:=λ xs H Q=>∃a C y c b,xs=[.ref a,y]/\RelV y c/\H a=some (.ext (excφ a C))/\aMG K C/\zCJ K (.ref C) c=some b/\Q (.bl b) H
def aHW:cg X (.builtin "isinstance") (aMT X.K):=by
 intro kX s Z H xs us Q I r h;obtain⟨a,C,y,c,b,rfl,ry,ha,kc,e,q⟩:=h;obtain⟨u,w',rfl,r1,r2⟩:=vals2 r;cases r1;have hc:w'=c:=by
  cases y<;>first
   |(cases r2;cases ry;rfl)
   |(obtain⟨t1,rfl⟩:=r2;obtain⟨t2,rfl⟩:=ry;exact absurd e (by simp[zCJ,PySem.W.kitCls]))
 subst hc;obtain⟨p,_⟩:excφ a C s.heap/\_:=I.hok a _ ha;exact zB1 (aJE kc.ex kc.ca kc.gt kc.ga) I.kIn p e (λ z=>nomatch z) λ tk=>⟨.bl b,H,I.tok tk,rfl,q⟩
end
abbrev Cx.re(X:Cx)(A:zAc)(c:Bool)(pl:hZ)(E:Value->zAG->Prop):Cx:={X with A:=A,calm:=c,pn:=X.pn++pl,xe:=E}
section
variable{X:Cx}{kX:hZ}{Z:St}{H:Hp}{s:zAG}
theorem Inv.re{A:zAc}{c:Bool}{E:Value->zAG->Prop}(I:Inv X kX Z H s)(hf:A.frames=X.A.frames)(hd:c=true->A.handled=none):Inv (X.re A c kX E) [] Z H s:=
 ⟨⟨I.ok.mod,I.ok.kind,I.ok.glob,I.ok.blt,I.ok.above,I.ok.inj,I.ok.has,I.ok.cab,hd,hf.trans I.ok.frames,I.ok.stk,I.ok.exf,I.ok.bs,I.ok.bsz,I.ok.noex,I.ok.exfs,I.ok.funs,I.ok.frf⟩,
  I.os,I.bare,I.base,I.loc,I.cell,I.free,I.freeC,λ p hp=>I.pin p (by rw[zBC]at hp;exact hp),I.hok,I.len,λ p hp=>let⟨a,b,c,d,e⟩:=I.tab p hp;⟨a,b,c,λ q hq=>d q (by rw[zBC]at hq;exact hq),e⟩⟩
def Inv.unre{A:zAc}{c:Bool}{E:Value->zAG->Prop}{pins2:hZ}{Z2:St}{H2:Hp}{s2:zAG}(ok:X.Ok)(J:Inv (X.re A c kX E) pins2 Z2 H2 s2):Inv X kX Z2 H2 s2:=
 ⟨ok,J.os,J.bare,J.base,J.loc,J.cell,J.free,J.freeC,λ p hp=>J.pin p (zA7 _ hp),J.hok,J.len,λ p hp=>let⟨a,b,c,d,e⟩:=J.tab p hp;⟨a,b,c,λ q hq=>d q (zA7 _ hq),e⟩⟩
def Inv.track{a:Addr}{o:HO}(I:Inv X kX Z H s)(ha:H a=none)(h0:X.z0.heap.get? a=none)(hL:X.env.locals≠a)(hc:∀x c,X.env.cells.lookup x=some c->c≠a)(hp:∀p∈X.ta++(X.pn++kX),p.1≠a)
  (new:cZ X.prog X.w (upd H a o) s.heap a o):Inv X kX Z (upd H a o) s:=by
 have ne:∀b u,H b=some u->b≠a:=λ b u e=>bM e ha
 refine⟨I.ok,I.os,I.bare,⟨I.base.keep,I.base.slot,λ b ob e n nx=>?_,I.base.there,λ b xs e=>?_,λ b ob u e=>?_,λ b ps e=>?_⟩,I.loc,I.cell,?_,λ x c e=>?_,λ p hp'=>?_,λ b u e=>?_,I.len,λ p hp'=>?_⟩
 .rw[aX (λ z=>by rw[z,h0]at e;cases e)]
  exact I.base.free b ob e n nx
 .have e1:=I.base.tups b xs e
  rw[aX (ne b _ e1)];exact e1
 .have e1:=I.base.frzs b ob u e
  rw[aX (ne b _ e1)];exact e1
 .obtain⟨m,e1⟩:=I.base.tbls b ps e
  exact⟨m,by rw[aX (ne b _ e1)];exact e1⟩
 .rw[aX hL];exact I.free
 .rw[aX (hc x c e)];exact I.freeC x c e
 .obtain⟨p1,p2,p3⟩:=I.pin p hp'
  exact⟨p1,by rw[aX (hp p (zA9 _ hp'))];exact p2,p3⟩
 .by_cases hb:b=a
  .subst hb;rw[aZ]at e;cases e;exact new
  .rw[aX hb]at e
   exact(I.hok b u e).stay (λ c v _ q=>q) (λ c q=>by rw[aX (ne c _ q)];exact q) λ c xs q=>by rw[aX (ne c _ q)];exact q
 .obtain⟨n1,n2,n3,n0,ps,n4,n5⟩:=I.tab p hp'
  exact⟨by rw[aX (hp p (zA7 _ hp'))];exact n1,n2,n3,n0,ps,n4,n5.mono λ b o u e=>by rw[aX (ne b _ e)];exact e⟩
def Inv.gone{i:Nat}{n:Str}{h':Heap}{m:Str->Option Value}{v:Option Value}{tk:Nat}(I:Inv X kX Z H s)(hN:X.N.Nodup)(hi:X.N[i]? =some n)(hm:s.heap.Ns X.env.locals m)(hn:h'.Ns X.env.locals λ x=>if x=n then v else m x)(hs:zDI X.env.locals s.heap h'):
  Inv X kX (Z.set i none) H {s with heap:=h',toks:=tk}:=by
 obtain⟨m0,hm0,hl⟩:=id I.loc;have cne:=I.cne;have em:m0=m:=by
  obtain⟨o1,es1,ep1,e1,d1,k1⟩:=hm0;obtain⟨o2,es2,ep2,e2,d2,k2⟩:=hm;rw[e1]at e2;cases e2;rw[d1]at d2;cases d2;funext x;exact(k1.2 x).symm.trans (k2.2 x)
 subst em;obtain⟨oL,_,_,hoL,_⟩:=id hm0;have keep:∀b o,b≠X.env.locals->s.heap.get? b=some o->h'.get? b=some o:=λ b o nb e=>(hs.2 b nb).trans e
 refine⟨I.ok,I.os,I.bare,⟨λ b o e n' hb hx=>?_,λ b o e n' hb hx=>?_,I.base.free,λ b o e hx=>?_,I.base.tups,I.base.frzs,I.base.tbls⟩,⟨_,hn,λ j y v' e1 e2 e3=>?_⟩,λ y c e=>?_,I.free,I.freeC,λ p hp=>?_,λ b u e=>?_,by simpa using I.len,λ p hp=>?_⟩
 .exact keep b o (zA4 (zAW (zAT e) I.ok.above)) (I.base.keep b o e n' hb hx)
 .obtain⟨sl,e1⟩:=I.base.slot b o e n' hb hx
  exact⟨sl,keep b _ (zA4 (zAW (zAT e) I.ok.above)) e1⟩
 .obtain⟨o',e1⟩:=I.base.there b o e hx
  exact⟨o',keep b _ (zA4 (zAW (zAT e) I.ok.above)) e1⟩
 .have hj:j≠i:=λ z=>by
   subst z;rw[zF8]at e2;simp at e2
  rw[zB7 (zDU hj)]at e2;obtain⟨u,r,q⟩:=hl j y v' e1 e2 e3;refine⟨u,r,?_⟩;have yn:y≠n:=λ z=>hj (yS hN e1 (z▸hi))
  rcases q with ⟨k,e⟩|⟨k,c,e,z⟩
  .exact .inl ⟨k,by simp[yn,e]⟩
  .exact .inr ⟨k,c,e,z.sameBut hs (cne y c e)⟩
 .obtain⟨v',z⟩:=I.cell y c e
  exact⟨v',z.sameBut hs (cne y c e)⟩
 .obtain⟨p1,p2,p3,p4⟩:=I.pin p hp
  exact⟨keep _ _ p3 p1,p2,p3,p4⟩
 .refine(I.hok b u e).stay (λ c v' hc q=>keep c v' ?_ q) (λ _ q=>q) λ _ _ q=>q
  rintro rfl;rcases hc with z|z
  .rw[<-z,I.free]at e;cases e
  .rw[I.free]at z;cases z
 .obtain⟨n1,n2,n3,n0,ps,n4,n5⟩:=I.tab p hp
  exact⟨n1,n2,n3,n0,ps,keep _ _ n2 n4,n5⟩
end
section
variable{M:Model}{A:zAc}{E:Value->zAG->Prop}{h:Heap}{g:Array zFO}{d:Drawn}{t:Nat}{os:OsState}
variable{nm q:Str}{C N:Addr}{bs bm:List Value}{hdct:Bool}{sn:List Str}{sub:List Value}{ab:Bool}{col:Option Bool}{dd:Option Addr}{k0 k1 k2 k3 k5:Option Value}{newId:String}
variable{nm' q':Str}{C' N':Addr}{bs' bm':List Value}{hdct':Bool}{sn':List Str}{sub':List Value}{ab':Bool}{col':Option Bool}{dd':Option Addr}{k0' k1' k2' k3' k5':Option Value}{newId':String}
def zN{e:Addr}{oe:Obj}{Q:Bool->zAG->Prop}(hC:h.get? C=some (zEr nm q C N bs bm hdct sn sub ab col dd k0 k1 k2 k3 k5 newId))(hC':h.get? C'=some (zEr nm' q' C' N' bs' bm' hdct' sn' sub' ab' col' dd' k0' k1' k2' k3' k5' newId'))
  (he:h.get? e=some oe)(fA:oe.cls= .ref C)(hb':bm'.contains (.type "BaseException")=true)(hs:(zBF C::bm).contains (.ref C')=true)
  (hq:Q true ⟨h,g,d,t,os⟩):wpAny M A (excMatches (.ref e) (.ref C')) Q E ⟨h,g,d,t,os⟩:=by
 have hcB:(zBF C'::bm').contains (.type "BaseException")=true:=by rw[zFR,hb',zHP]
 have f:=tc_notTuple;unfold excMatches
 repeat (first|(with_reducible refine zCg he ?_;rw[fA])|with_reducible refine zCg hC' ?_|(with_reducible refine zEO hC' ?_;rw[hcB])|(with_reducible refine zEO hC ?_;rw[hs])|wp_step)
 exact hq
end
def cZ.there{P:zA2}{w:World}{H:Hp}{h:Heap}{a:Addr}{o:HO}(x:cZ P w H h a o):∃ob,h.get? a=some ob:=by
 cases o with
 |lst xs=>obtain⟨_,_,_,_,e⟩:=x;exact⟨_,e⟩
 |tup xs=>
  obtain⟨_,_,_,p⟩:=x;obtain⟨o,e,_⟩:=p;exact⟨_,e⟩
 |dK kvs=>obtain⟨_,_,_,_,o,_,_,e,_⟩:=x;exact⟨_,e⟩
 |dT kvs=>obtain⟨_,_,_,_,o,_,_,e,_⟩:=x;exact⟨_,e⟩
 |set S n=>obtain⟨o,_,_,_,e,_⟩:=x;exact⟨_,e⟩
 |ins C dx fs=>obtain⟨_,_,_,e,_⟩:=x;exact⟨_,e⟩
 |own y=>exact x
 |xd fs=>obtain⟨_,⟨_,_,_,e,_⟩,_⟩:=x;exact⟨_,e⟩
 |rng lo hi=>obtain⟨_,_,_,e⟩:=x;exact⟨_,e⟩
 |frz ob u=>obtain⟨e,_⟩:=x;exact⟨_,e⟩
 |tbl ps=>exact⟨_,show h.get? a=some _ from x⟩
 |met f y=>exact⟨_,show h.get? a=some _ from x⟩
 |ext φ=>obtain⟨_,e,_⟩:=x;exact e
def vK(K:zAA)(C C':Addr):Bool:=
 match K.lookup C with
 |some ⟨_,_,.cls cd,_⟩=>cd.mro.contains (.ref C')
 |_=>false
abbrev Cx.tr(X:Cx)(kX:hZ)(E':XK):Cx:=X.re X.A true kX λ e s'=>∃Z H s,Inv X kX Z H s/\CX1 X.prog X.w X.stack H s E' e s'
abbrev Cx.ha(X:Cx)(kX:hZ)(ea:Addr):Cx:=X.re (X.A.mark (some (.ref ea))) false kX λ _ _=>False
def aHb(X:Cx)(i:Nat)(C':Addr)(E':XK)(tb th:TS):TS:=λ D Z H=>tb D Z H/\∀cls H1,E' cls none H1->∃C,cls= .ref C/\cM X.K C/\vK X.K C C'=true/\∀(Z1:St) (ea:Addr),Z1.length=X.N.length->H1 ea=none->
 th {nx:=λ Z' H'=>D.nx (Z'.set i none) H',rt:=D.rt,bk:=λ Z' H'=>D.bk (Z'.set i none) H',ct:=λ Z' H'=>D.ct (Z'.set i none) H'} (Z1.set i (some (.ref ea))) (upd H1 ea (.ext (excφ ea C)))
section
variable{X:Cx}{E E':XK}
def Cx.tr_ok{kX:hZ}(J:(X.tr kX E').Ok):X.Ok:=
 ⟨J.mod,J.kind,J.glob,J.blt,J.above,J.inj,J.has,J.cab,λ _=>J.hd rfl,J.frames,J.stk,J.exf,J.bs,J.bsz,J.noex,J.exfs,J.funs,J.frf⟩
def Cx.tr_pass{kX:hZ}:sH (CX1 X.prog X.w) (X.tr kX E') E':=λ pins2 Z H s e s' I h=>⟨Z,H,s,Inv.unre (Cx.tr_ok I.ok) I,h⟩
def aIP(D:di X E)(hc:X.calm=true)(hN:X.N.Nodup){i:Nat}{n:Str}(hi:X.N[i]? =some n)(hl:X.env.scope.names.lookup n=some .local){x:Str}{C':Addr}(hm:X.mg x=some (.ref C'))(hg:Gl X x)(hC':cM X.K C')
  {body suite:List Stmt}{b₀:Stmt}{tb th:TS}{np hpos pos:Pos}(hb:∀kX,PSs (X.tr kX E') body tb)(hs:∀kX ea,PSs (X.ha kX ea) (b₀::suite) th)(hdb:Nd x:=by decide):
  PS X (.Try body [.ExceptHandler (some (.Name x np)) (some n) (b₀::suite) hpos] [] [] pos) (aHb X i C' E' tb th):=by
 intro kX s Z H DD I hh;obtain⟨h1,h2⟩:=hh;refine wpAny_Try_except (zBX (hb kX [] s Z H DD (I.re rfl λ _=>I.ok.hd hc) h1) (λ f s1 q=>?_) λ e s1 q=>?_)
 .cases f with
  |next=>
   obtain⟨Z',H',J,q⟩:=q;exact zEN ⟨Z',H',Inv.unre I.ok J,q⟩
  |brk=>obtain⟨Z',H',J,q⟩:=q;exact⟨Z',H',Inv.unre I.ok J,q⟩
  |cont=>obtain⟨Z',H',J,q⟩:=q;exact⟨Z',H',Inv.unre I.ok J,q⟩
  |ret u=>obtain⟨v,Z',H',J,r,q⟩:=q;exact⟨v,Z',H',Inv.unre I.ok J,r,q⟩
 .obtain⟨Z1,H1,s0,J,ea,cls,a0,B,H2,rfl,os,bare,un,hok,fly,bk,ba,hE⟩:=q
  obtain⟨C,rfl,hC,bE,hth⟩:=h2 cls H2 hE;have hfr:=I.ok.frames;rw[D.stk]at hfr;have fly':=fly;rw[D.stk]at fly';have mk:∀hh:Heap,zJR B X.stack ea (.ref C) a0 hh->s1.heap.UpToSlots hh->Inv X kX Z1 H2 {s1 with heap:=hh}:=λ hh fl up=>by
   refine J.call' (ch:=[]) os ⟨λ b o e n nf _=>fl.1 b o (bk b o e n nf),λ b o e n hb _=>?_,un.free,λ b o e _=>?_,un.tups,un.frzs,un.tbls⟩ (λ a o e=>(hok a o e).stay (λ b u _ q=>fl.1 b u q) (λ _ z=>z) λ _ _ z=>z) bare (λ b z=>nomatch z)
   .obtain⟨s2,e2⟩:=un.slot b o e n hb (λ z=>nomatch z)
    obtain⟨_,o3,e3,nf⟩:=fly.2.2.1.mem hb;rw[e2]at e3;cases e3;obtain⟨s4,e4⟩:=up b _ e2 nf;exact⟨s4,e4⟩
   .by_cases hb:b∈frs X.stack
    .obtain⟨_,o3,e3,nf⟩:=fl.2.2.1.mem hb
     exact⟨o3,e3⟩
    .obtain⟨o',e'⟩:=ba b o e hb
     exact⟨o',fl.1 b o' e'⟩
  refine wpAny_looks_onW hfr D.fr fly' λ h3 held up3=>?_
  refine wpAny_landsW held λ h4 fly4 up4=>?_
  rw[<-D.stk]at fly4;have J4:=mk h4 fly4 (up3.trans up4);have K4:Inv (X.ha kX ea) [] Z1 H2 {s1 with heap:=h4}:=J4.re rfl (λ z=>nomatch z);obtain⟨ob4,he4,hc4⟩:=fly4.there;obtain⟨tl,NN,nm,q,bs,hdct,sn,sub,ab,col,dd,k0,k1,k2,k3,k5,mN,hCo,hNn,hni,T⟩:=(uw (h:=h4) (mg:=λ _=>some (.ref C)) (x:="x") J4.kIn rfl hC).obj;obtain⟨tl',NN',nm',q',bs',hdct',sn',sub',ab',col',dd',k0',k1',k2',k3',k5',mN',hCo',hNn',hni',T'⟩:=(uw (h:=h4) (mg:=λ _=>some (.ref C')) (x:="x") J4.kIn rfl hC').obj;have hmro:(zBF C::tl).contains (.ref C')=true:=by
   unfold vK at bE;split at bE
   .rename_i oc od cd sl ho
    have e:=J4.kIn _ _ ho;have e2:(some _:Option Obj)=some _:=e.symm.trans hCo;injection e2 with e2
    have e3:=congrArg Obj.data e2;injection e3 with e3
    subst e3;exact bE
   .cases bE
  refine wpAny_handleBy_cons (codeAny_handlers_test (qM (X:=X.ha kX ea) K4 hg hm ?_ hdb)) (by intro q;cases q);refine zN hCo hCo' he4 hc4 (T'.hasType (X:="BaseException") (b:=true) (by decide+kernel)) hmro ?_;refine codeAny_handlers_suite_as ?_;refine lands_againW fly4 λ h5 fly5 up5=>?_
  have J5:=mk h5 fly5 ((up3.trans up4).trans up5);obtain⟨f1,f2,f3,oe,vs,T5,oT,ts,he5,⟨hcl5,h05⟩,hd5,_⟩:=id fly5;have nof:ea∉frs X.stack:=λ z=>by
   obtain⟨_,o3,e3,nf⟩:=f3.mem z;rw[he5]at e3;cases e3;exact nf vs hd5
  have inB:∀b o,s0.heap.get? b=some o->b∉frs X.stack->b≠ea:=λ b o e nf z=>by
   obtain⟨o',e'⟩:=ba b o e nf;rw[z,f2]at e';cases e'
  have hL:X.env.locals∈frs X.stack:=by
   rw[D.stk];unfold frs;rw[zBZ,D.fr];exact zAE
  have h2n:H2 ea=none:=by
   cases e:H2 ea with
   |none=>rfl
   |some o=>
    obtain⟨ob,e'⟩:=(hok ea o e).there;rw[f2]at e';cases e'
  have J6:Inv X kX Z1 (upd H2 ea (.ext (excφ ea C))) {s1 with heap:=h5}:=by
   refine J5.track h2n ?_ (λ z=>nof (z▸hL)) (λ y c e z=>?_) (λ p hp z=>?_) ⟨⟨oe,he5,hcl5⟩,⟨oe,he5⟩,excφ_stay⟩
   .cases e:X.z0.heap.get? ea with
    |none=>rfl
    |some o=>
     obtain⟨o',e'⟩:=J.base.there ea o e (by rw[D.ex];exact λ z=>nomatch z);exact absurd rfl (inB ea o' e' nof)
   .obtain⟨v,o,ho,hd⟩:=J5.cell y c e
    rw[z]at ho;have e2:some o=some oe:=ho.symm.trans he5;cases e2;rw[hd]at hd5;cases hd5
   .have hh:∃o,s0.heap.get? p.1=some o/\p.1≠X.env.locals/\p.1∉X.fs:=by
     rcases zAd.mp hp with z|z
     .obtain⟨_,a,b,_,_,c,_⟩:=J.tab p z
      exact⟨_,c,a,b⟩
     .obtain⟨p1,p2,p3,p4,_⟩:=J.pin p z
      exact⟨_,p1,p3,p4⟩
    obtain⟨o,p1,p3,p4⟩:=hh;refine inB p.1 o p1 (λ w=>?_) z;rcases zAJ.mp (J.stkSub p.1 w)with z|z
    .exact p3 z
    .exact p4 z
  have K6:Inv (X.ha kX ea) [] Z1 (upd H2 ea (.ext (excφ ea C))) {s1 with heap:=h5}:=J6.re rfl (λ z=>nomatch z);refine sW (X:=X.ha kX ea) (v:=.ref ea) K6 hN hi (.inl hl) rfl (λ s7 I7=>?_) (.inr hl);refine zBX (hs kX ea [] s7 _ _ _ I7 (hth Z1 ea J.len h2n)) (λ f s8 q8=>?_) λ _ _ z=>z.elim
  have eA:∀{Z':St} {H':Hp} {Q:zAG->Prop},Inv (X.ha kX ea) [] Z' H' s8->(∀s9,Inv X kX (Z'.set i none) H' s9->Q s9)->
    wpAny (model X.prog X.w) X.A (do bindName X.env n .none;unbindBehindTheSuite X.env n hpos) (λ _ s9=>Q s9) X.xe s8:=λ{Z' H' Q} K8 k=>by
   have J8:Inv X kX Z' H' s8:=Inv.unre I.ok K8;obtain⟨m,hmm,_⟩:=id J8.loc;refine wpAny_nameGoes_keeps hl hmm (by rw[I.ok.kind];rfl) λ h' v hn hsb=>k _ (Inv.gone J8 hN hi hmm hn hsb)
  cases f with
  |next=>obtain⟨Z',H',K8,q⟩:=q8;exact eA K8 λ s9 J9=>⟨_,_,J9,q⟩
  |brk=>obtain⟨Z',H',K8,q⟩:=q8;exact eA K8 λ s9 J9=>⟨_,_,J9,q⟩
  |cont=>obtain⟨Z',H',K8,q⟩:=q8;exact eA K8 λ s9 J9=>⟨_,_,J9,q⟩
  |ret u=>obtain⟨v,Z',H',K8,r,q⟩:=q8;exact eA K8 λ s9 J9=>⟨v,_,_,J9,r,q⟩
end
structure lA(k:Nat)(A:zAc):Prop where
 dp:A.depth+3*k+5<zFe
 un:A.units+16*k+200<cLine
def fB.h{k:Nat}{A:zAc}(r:fB k A):lA k A:=⟨r.dp,r.un⟩
theorem lA.mark{k:Nat}{A:zAc}{v:Option Value}(r:lA k A):lA k (A.mark v):=⟨r.dp,r.un⟩
def lA.mono{j k:Nat}{A:zAc}(r:lA k A)(h:j<=k):lA j A:=⟨by have:=r.dp;omega,by have:=r.un;omega⟩
theorem lA.deeper{k:Nat}{A:zAc}(r:lA (k+1) A)(env:Env):lA k (A.deeper env):=
 ⟨by have:=r.dp;show A.depth+1+3*k+5<_;omega,by have:=r.un;show A.units+3+16*k+200<_;omega⟩
theorem lA.depth{k:Nat}{A:zAc}(r:lA k A):A.depth<zFe:=by have:=r.dp;omega
abbrev aJq(A:zAc):zAc:={A with handled:=none}
structure FnH(P:zA2)(w:World)(K:zAA)(mg:Str->Option Value)(base:Heap)(k:Nat)(f:Addr)(fd:zAo)(ps:List Str)(sp:Sp):Prop where
 len:∀vs H Q E,sp vs H Q E->vs.length=ps.length
 run:∀(A:zAc) (outer:List Env) (s:zAG) (H:Hp) (args:Args) (us:List Value) (vs:List V) (Q:VK) (E:XK),lA k A->aDh P w K mg base A outer s H->zHp s fd args (ps.zip us)->Vals vs us->sp vs H Q E->
  zCW (model P w) A (.call (.ref f) args) (CR CX0 outer P w H s Q E) s
abbrev cxH(P:zA2)(w:World)(K:zAA)(mg:Str->Option Value)(base:Heap)(N:List Str)(q:Str)(scope:Scope)(f:Addr)(cd:Value)(A:zAc)(outer:List Env)(s:zAG)(H:Hp):Cx:=
 (wR CX0 P w K mg base N q scope f cd (aJq A) outer s H λ _ _ _=>False).re (A.deeper (zDO q scope s.heap.objs.size f cd)) false [] λ _ _=>False
section
variable{P:zA2}{w:World}{K:zAA}{mg:Str->Option Value}{base:Heap}
def Fun.okH{x q:Str}{st:Stmt}{f:Addr}{fd:zAo}{N ps:List Str}{k:Nat}{sp:Sp}(F:Fun K x q st f fd)(S:aY N ps (aJ st))(len:∀vs H Q E,sp vs H Q E->vs.length=ps.length)
  (hbody:∀(cdv:Value) (A:zAc) (outer:List Env) (s:zAG) (H:Hp) (vs:List V) (Q:VK) (E:XK),lA k (A.deeper (zDO q (aJ st) s.heap.objs.size f cdv))->sp vs H Q E->
   ∃t,PSs (cxH P w K mg base N q (aJ st) f cdv A outer s H) (dM st) t/\t {nx:=λ _ H'=>Q .non H',rt:=Q} (start N vs) H):FnH P w K mg base (k+1) f fd ps sp:=by
 obtain⟨oc,od,kV,doc,pm,an,cdv,ct,osl,rfl,lk,hcd⟩:=F.ex;refine⟨len,λ A outer s H args us vs Q E hr e0 hb r hsp=>?_⟩;have KX:K.In s.heap:=e0.mod.kin.keeps λ b o e=>(e0.bs b o e).1
 have par:∀y∈ps.zip us,(aJ st).names.lookup y.1=some .local\/((aJ st).names.lookup y.1=some .cell/\((zDN (s.heap.objs.size+1) (aJ st).names []).lookup y.1).isSome=true):=λ y hy=>
  (S.par y.1 (zCG (a:=y.1) (b:=y.2) hy).1).imp id λ z=>⟨z,zDR _ _ _ (.inl z)⟩
 refine zFM hr.depth (KX _ _ lk) rfl S.co S.gen rfl (zFB KX hcd) (hb _ _ _ _ (zEY S.kind par λ env he s1 x=>?_));cases he;refine⟨(e0.mod.nolimit.keeps λ b o e=>(e0.bs b o e).1).keeps x.toInCall.keep,zId ?_⟩;obtain⟨t,ht,hq⟩:=hbody cdv A outer s H vs Q E (hr.deeper _) hsp;have e1:aDh P w K mg base (aJq A) outer s H:=⟨e0.frames,e0.mod,e0.bs,e0.bsz,e0.funs,e0.frf,e0.hok,e0.bare⟩;have I0:Inv (wR CX0 P w K mg base N q (aJ st) f cdv (aJq A) outer s H λ _ _ _=>False) [] (start N vs) H s1:=vG S rfl e1 (len _ _ _ _ hsp) r x;have I1:Inv (cxH P w K mg base N q (aJ st) f cdv A outer s H) [] (start N vs) H s1:=I0.re rfl (λ z=>nomatch z);refine zBX (ht [] s1 (start N vs) H _ I1 hq) (λ fl s' hs=>?_) λ e s' hs=>hs.elim
 cases fl with
 |ret u=>obtain⟨v,Z',H',J,rv,q⟩:=hs;exact⟨v,H',J.os,J.bare,J.base,J.hok,rv,q⟩
 |next=>obtain⟨Z',H',J,q⟩:=hs;exact⟨.non,H',J.os,J.bare,J.base,J.hok,rfl,q⟩
 |brk=>obtain⟨_,_,_,q⟩:=hs;exact q.elim
 |cont=>obtain⟨_,_,_,q⟩:=hs;exact q.elim
end
section
variable{X:Cx}{k:Nat}{f:Addr}{fd:zAo}{ps:List Str}{sp:Sp}{dvs:List V}{ds:List Value}{E:XK}{x:Str}{p pos:Pos}{e:Expr}{es:List Expr}{t:TA}
def aI4(F:FnH X.prog X.w X.K X.mg X.base k f fd ps sp)(hr:lA k X.A)(hg:Gl X x)(hm:X.mg x=some (.ref f))(hk:zBx X.K (.ref f)=true)(hb:Binds X.K fd ps ds)(hd:Vals dvs ds)
  (ha:PA X (e::es) t)(hdb:Nd x:=by decide)(he:zAZ (e::es) X.env=(false,eval e X.env)::zAZ es X.env:=by rfl)(hpl:(zCo pos (zAZ es X.env)).any (·.1)=false:=by rfl):
  PE X (.Call (.Name x p) (e::es) [] pos) (aCP sp dvs E t):=by
 intro kX s Z H Q I h;refine zCM (qM I hg hm (zFA (h₀:=X.base) I.ok.mod.kin hk (thn (ha pos kX s Z H _ I h) λ us s1 hz=>?_) he hpl) hdb);obtain⟨vs,H1,I1,r,q⟩:=hz;refine⟨I1.kIn,zHo (zDW (F.run X.A X.stack s1 H1 ⟨us,[]⟩ (us++ds) (vs++dvs) Q E hr I1.env0 (hb s1 us I1.kIn ?_) (r.append hd) q) λ r' s' hq=>?_)⟩
 .rw[<-(r.append hd).length];exact F.len _ _ _ _ q
 .cases r' with
  |error e=>exact zAR hq
  |ok fl=>
   cases fl with
   |ret u=>exact I1.after hq
   |next=>exact zAR hq
   |brk=>exact zAR hq
   |cont=>exact zAR hq
end
def spW(wd:Addr->Option Str):Sp:=λ vs H Q _=>∃ea C w,vs=[.ref ea]/\H ea=some (.ext (excφ ea C))/\wd C=some w/\∀H',aV H H'->Q (.str w) H'
def spR(P:zA2)(w:World)(K:zAA)(mg:Str->Option Value)(base:Heap)(k0:Nat)(told:Str)(wd:Addr->Option Str):Sp:=λ vs H Q _=>∃f cls dd sl fd k sp,vs=[.ref f]/\H f=some (.frz ⟨cls,dd,.func fd,sl⟩ (.own f))/\dB P w K mg base (CX1 P w) k f fd [] sp/\k<=k0/\Binds K fd [] []/\
 sp [] H (λ _ H'=>Q (.str told) H') (λ c _ H1=>∃C wo,c= .ref C/\wd C=some wo/\∀H',aV H1 H'->Q (.str wo) H')
section
variable{X:Cx}{E:XK}{n0 n1 n2 few cn pe told:Str}{C' fc:Addr}{fdc:zAo}{kc k0:Nat}{wd:Addr->Option Str}
def aIA(D:di X E)(hc:X.calm=true)(hN:X.N=[n0,n1,n2])(nd:X.N.Nodup)(l0:X.env.scope.names.lookup n0=some .local)(l1:X.env.scope.names.lookup n1=some .local)(l2:X.env.scope.names.lookup n2=some .local)(hf:∀x,X.fn x=true)
  (hm:X.mg few=some (.ref C'))(hg:Gl X few)(hC':cM X.K C')(FC:FnH X.prog X.w X.K X.mg X.base kc fc fdc [pe] (spW wd))(hgc:Gl X cn)(hmc:X.mg cn=some (.ref fc))(hkc:zBx X.K (.ref fc)=true)(hbc:Binds X.K fdc [pe] [])
  (hr:fB k0 X.A)(hkk:kc<=k0)(hw:∀C w,wd C=some w->cM X.K C/\vK X.K C C'=true){p1 p2 p3 p4 p5 p6 p7 p8 p9 p10 p11 p12 p13 p14 p15 p16:Pos}{j1:Nat}{vs:List V}{H:Hp}{Q:VK}{E0:XK}(h:spR X.prog X.w X.K X.mg X.base k0 told wd vs H Q E0)
  (d1:Nd few:=by decide)(d2:Nd cn:=by decide)(d3:Nd n0:=by decide)(d4:Nd n1:=by decide)(d5:Nd n2:=by decide)
  (d6:(n0==("__classdict__":Str))=false:=by decide)(d7:(n1==("__classdict__":Str))=false:=by decide)(d8:(n2==("__classdict__":Str))=false:=by decide):
  ∃t,PSs X [.Assign [.Name n1 p1] (.Constant (.str told) j1 p2) p3,.Try [.Expr (.Call (.Name n0 p4) [] [] p5) p6] [.ExceptHandler (some (.Name few p7)) (some n2) [.Assign [.Name n1 p8] (.Call (.Name cn p9) [.Name n2 p10] [] p11) p12] p13] [] [] p14,.Return (some (.Name n1 p15)) p16] t/\
   t {nx:=λ _ H'=>Q .non H',rt:=Q} (start X.N vs) H:=by
 obtain⟨f,cls,dd,sl,fd,k,sp,rfl,hH,F,hk,hb,hsp⟩:=h;have i0:X.N[0]? =some n0:=by rw[hN];rfl
 have i1:X.N[1]? =some n1:=by rw[hN];rfl
 have i2:X.N[2]? =some n2:=by rw[hN];rfl
 refine⟨_,fX (nO nd i1 (.inl l1) fQ (hf:=.inl (hf _))) (fX (aIP (E':=λ c _ H1=>∃C wo,c= .ref C/\wd C=some wo/\∀H',aV H1 H'->Q (.str wo) H') D hc nd i2 l2 hm hg hC' (tb:=xQ (aDn X k0 0 λ c _ H1=>∃C wo,c= .ref C/\wd C=some wo/\∀H',aV H1 H'->Q (.str wo) H')) (th:=aBD (aCP (spW wd) [] E (jA (oJ 2) oK)) (oA 1))
  (λ kX=>nM (qJ (aIZ (X:=X.tr kX _) hr Cx.tr_pass i0 (.inl l0) d3 d6))) (λ kX ea=>nM (nO (X:=X.ha kX ea) nd i1 (.inl l1) (aI4 (X:=X.ha kX ea) FC ((hr.h.mono hkk).mark) hgc hmc hkc hbc .nil (ak (gD (X:=X.ha kX ea) i2 (.inl l2) d5 d8) cj) d2) (hf:=.inl (hf _)))) d1) (nM (yG (gD i1 (.inl l1) d4 d7)))),?_⟩
 have hs:start X.N [.ref f]=[some (.ref f),none,none]:=by rw[hN];rfl
 rw[hs];have e:(λ(_:V) H1=>Q (.str told) H1)=λ(_:V) H1=>aMp (oJ 1) {nx:=λ _ H'=>Q .non H',rt:=Q} [some (.ref f),some (.str told),none] H1:=by
  funext v H1;exact propext ⟨λ q=>⟨_,rfl,q⟩,λ⟨v',e',q⟩=>by cases e';exact q⟩
 rw[e]at hsp;have key:aHb X 2 C' (λ c _ H1=>∃C wo,c= .ref C/\wd C=some wo/\∀H',aV H1 H'->Q (.str wo) H') (xQ (aDn X k0 0 λ c _ H1=>∃C wo,c= .ref C/\wd C=some wo/\∀H',aV H1 H'->Q (.str wo) H')) (aBD (aCP (spW wd) [] E (jA (oJ 2) oK)) (oA 1))
  {nx:=aMp (oJ 1) {nx:=λ _ H'=>Q .non H',rt:=Q},rt:=Q} [some (.ref f),some (.str told),none] H:=?_
 .exact key
 refine⟨⟨f,cls,dd,sl,fd,k,sp,rfl,hH,F,hk,hb,hsp⟩,λ c H1 ⟨C,wo,ec,hwd,hq⟩=>⟨C,ec,(hw C wo hwd).1,(hw C wo hwd).2,λ Z1 ea hl hn=>?_⟩⟩
 .rw[hN]at hl
  obtain⟨a,b,c,rfl⟩:∃a b c,Z1=[a,b,c]:=by
   match Z1,hl with
   |[a,b,c],_=>exact⟨a,b,c,rfl⟩
  refine⟨.ref ea,rfl,ea,C,wo,rfl,aZ,hwd,λ H' sm=>⟨.str wo,rfl,hq H' λ b o e=>sm b o ?_⟩⟩;rw[aX (bM e hn)];exact e
end
def aDo(K:zAA)(c:V):TE:=tCB (aMT K) (jA (oJ 0) (jA (tC c) oK))
def nu(K:zAA):List V->TA
 |[]=>oK
 |c::cs=>jA (aDo K c) (nu K cs)
def aAM:List Str->TA
 |[]=>oK
 |x::xs=>jA (tC (.str x)) (aAM xs)
def Kt(K:zAA)(C:Addr)(c:V)(b:Bool):Prop:=∃u,RelV c u/\zCJ K (.ref C) u=some b
section
variable{K:zAA}{Z:St}{H:Hp}{ea C:Addr}
def aBC{c:V}{b:Bool}{Q:VK}(hs:Z[0]? =some (some (.ref ea)))(hH:H ea=some (.ext (excφ ea C)))(hk:aMG K C)(h:Kt K C c b)(q:Q (.bl b) H):aDo K c Z H Q:=by
 obtain⟨u,r,e⟩:=h;exact⟨.ref ea,hs,ea,C,c,u,b,rfl,r,hH,hk,e,q⟩
theorem oV(hs:Z[0]? =some (some (.ref ea)))(hH:H ea=some (.ext (excφ ea C)))(hk:aMG K C):∀{cs:List V} {bs:List Bool} {Q:List V->Hp->Prop},zFb (Kt K C) cs bs->Q (bs.map V.bl) H->nu K cs Z H Q
 |_,_,_,.nil,q=>q
 |_,_,_,.cons h r,q=>aBC hs hH hk h (oV hs hH hk r q)
theorem xP:∀{l:List Str} {Q:List V->Hp->Prop},Q (l.map V.str) H->aAM l Z H Q
 |[],_,q=>q
 |x::l,_,q=>xP (l:=l) (Q:=λ xs H2=>_) q
end
structure Wd(K:zAA)(c1 c2:V)(ks:List (List V))(ws:List Str)(C:Addr)(w:Str):Prop where
 k:aMG K C
 q1:Kt K C c1 true
 q2:Kt K C c2 true
 bs:∃(b1 b2 b3 b4:List Bool) (j:Nat) (k1 k2 k3 k4:List V),ks=[k1,k2,k3,k4]/\zFb (Kt K C) k1 b1/\zFb (Kt K C) k2 b2/\zFb (Kt K C) k3 b3/\zFb (Kt K C) k4 b4/\(b1++b2++b3++b4).length<=100/\(b1++b2++b3++b4).count true=1/\
  (b1++b2++b3++b4)[j]? =some true/\(∀m,m<j->(b1++b2++b3++b4)[m]? =some false)/\ws[j]? =some w
section
variable{X:Cx}{n0 n1 n2 odd:Str}{c1 c2:V}{k1 k2 k3 k4:List V}{l1 l2:List Str}{a1 a2:Expr}{as1 as2 e1 e2 e3 e4 w1 w2:List Expr}{kw1 kw2:List zDJ}{Q:VK}{H:Hp}{vs:List V}
 {p1 p2 p3 p4 p5 p6 p7 p8 p9 p10 p11 p12 p13 p14 p15 p16 p17 p18 p19 p20 p21 p22 p23 p24 p25 p26 p27 p28 p29 p30 p31 p32 p33 p34 p35 p36 p37 p38 p39 p40:Pos}{q1 q2 q3 q4 q5 q6 q7:Pos}{j1 j2 j3 j4 j5:Nat}{E0:XK}{wd:Addr->Option Str}
end
structure aCH(d:Nat)(e tg iter:Expr)(ifs:List Expr)(body:Env->Addr->Sem Unit):Prop where
 under:∀(A:zAc) (it:Value) (D:Addr) (env:Env),A.under (.compLoop e d it (.ref D) env)=A
 den:∀(prog:zA2) (w:World) (it:Value) (D:Addr) (env:Env),(model prog w).den (.compLoop e d it (.ref D) env)=(compTurn e d it (.ref D) env).onRaise (λ x=>do noteFrame x env;theTreesLotGoes x)
 turn:∀(it:Value) (D:Addr) (env:Env),compTurn e d it (.ref D) env=(do
   zG5 iter.pos
   match <-zDy it with
   |none=>pure (.done .next)
   |some v=>
    zD4 tg it v
    zDx tg env v
    let mut ok:=true
    for c in ifs do if ok then ok <-isTrue c env (eval c env)
    if ok then
     body env D
    again (.compLoop e d it (.ref D) env))
section
variable{s:zAG}{A:zAc}{prog:zA2}{w:World}{R:zFL->zAG->Prop}
def aBu{D:Addr}(hb:aCH d e tg iter ifs body)(I:Nat->zAG->Prop)
  (one:∀n s,I n s->wpAny (model prog w) A (zDy it) (λ r zI=>match r with
   |none=>R (.ok .next) zI
   |some v=>wpAny (model prog w) A (zD4 tg it v) (λ _ zI=>wpAny (model prog w) A (zDx tg env v) (λ _ z4=>
     wpAny (model prog w) A (forIn ifs true λ c r=>if r=true then do let ok <-isTrue c env (eval c env);pure (zBw ok)else pure (zBw r)) (λ ok zC=>if ok=true then wpAny (model prog w) A (body env D) (λ _ s₅=>∃m,m<n/\I m s₅) (λ _ _=>False) zC
      else∃m,m<n/\I m zC) (λ _ _=>False) z4) (λ _ _=>False) zI) (λ _ _=>False) zI) (λ _ _=>False) s)
  (n:Nat)(h:I n s):zCW (model prog w) A (.compLoop e d it (.ref D) env) R s:=by
 refine codeAny_loop rfl I (λ n s hJ=>?_) n h;rw[hb.under,hb.den];refine wpAny_noted ?_;rw[hb.turn];refine zAB (zEC (zAB (zBX (one n s hJ) (λ r zI zD=>?_) λ _ _ h'=>h'.elim)));cases r with
 |none=>exact zAF zD
 |some v=>
  refine zAB (zBX zD (λ _ zI zD=>?_) λ _ _ h'=>h'.elim);refine zAB (zBX zD (λ _ z4 y3=>zAB (zBX y3 (λ ok zC x9=>?_) λ _ _ h'=>h'.elim)) λ _ _ h'=>h'.elim);cases ok with
  |false=>exact zAF (And.intro rfl x9)
  |true=>exact zAB (zBX x9 (λ _ y6 h₄=>zAF ⟨rfl,h₄⟩) λ _ _ h'=>h'.elim)
end
def aCI(d:Nat)(e:Expr):Prop:=∀{prog:zA2} {w:World} {A:zAc} {R:zFL->zAG->Prop} {s:zAG} {it acc:Value} {env:Env},
  zCW (model prog w) A (.compLoop e d it acc env) R s->
  wpAny (model prog w) A (zHJ it) (λ it' s'=>zCW (model prog w) A (.compLoop e d it' acc env) R s') (notedBy (model prog w) A env λ x s'=>R (.error x) s') s->
  zCW (model prog w) A (.compStart e d it acc env) R s
structure aKI(prog:zA2)(w:World)(mk:Sem Value)(obs:Obj->Prop)(o:Addr->HO):Prop where
 make:∀{A:zAc} {Q:Value->zAG->Prop} {E:Value->zAG->Prop} {s:zAG},(∀ob,obs ob->Q (.ref s.heap.objs.size) {s with heap:=s.heap.push ob})->wpAny (model prog w) A mk Q E s
 live:∀ob,obs ob->ob.isFreed=false
 ok:∀{H:Hp} {h:Heap} {a:Addr} {ob:Obj},obs ob->h.get? a=some ob->zDf<a->cZ prog w H h a (o a)
def PB(X:Cx)(body:Env->Addr->Sem Unit)(tb:Addr->St->Hp->(Hp->Prop)->Prop):Prop:=
 ∀(D:Addr) (kX:hZ) (s:zAG) (Z:St) (H:Hp) (Q:Hp->Prop),Inv X kX Z H s->tb D Z H Q->wpAny (model X.prog X.w) X.A (body X.env D) (λ _ s'=>∃H',Inv X kX Z H' s'/\Q H') X.xe s
def aQJ(I:Inv X kX Z H s):zDf<s.heap.objs.size:=
 zH6 (by decide) (I.mod.glob.keeps I.bk).lt
def aOw(o:Addr->HO)(wi:TI)(st:St->St)(g:TG)(tt:TT)(tb:Addr->St->Hp->(Hp->Prop)->Prop):TE:=λ Z H Q=>wi Z H λ J H1=>∀l,H1 l=none->∃W:Nat->Nat->Hp->Prop,(∃m,W 0 m (upd H1 l (o l)))/\
 ∀i m H2,W i m H2->((J.stop i H2/\Q (.ref l) H2)\/(J.go i H2/\∀x H3,J.yld i H2 x H3->g x (st Z) H3 λ Z4 H4=>tt Z4 H4 λ ok H5=>
  if ok=true then tb l Z4 H5 λ H6=>∃m',m'<m/\W (i+1) m' H6 else∃m',m'<m/\W (i+1) m' H5))
section
variable{X:Cx}{e tg iter:Expr}{ifs:List Expr}{scope:Scope}{N:List Str}{st:St->St}{ks:List Nat}{wi:TI}{g:TG}{tt:TT}{body:Env->Addr->Sem Unit}{tb:Addr->St->Hp->(Hp->Prop)->Prop}{pos:Pos}{mk:Sem Value}{obs:Obj->Prop}{o:Addr->HO}
def aJo(B:fD X scope N st ks)(hc:X.calm=true)(hT:aCH 0 e tg iter ifs body)(hS:aCI 0 e)(hA:aKI X.prog X.w mk obs o)(hg:∀C fp z0 zS,PG (X.block scope C N fp z0 zS) tg g)(hgo:uR g ks)(ht:∀C fp z0 zS,aDd (X.block scope C N fp z0 zS) ifs tt)
  (he:∀C fp z0 zS,PB (X.block scope C N fp z0 zS) body tb){Q:VK}{RR:Value->Addr->zFL->zAG->Prop}
  (I:Inv X kX Z H1 z4)(T:Turn X.prog X.w X.K tg J fp it tn)(h0:tn 0 z4.heap)(hfp:∀b∈fp,sI X kX H1 b)
  (h:∀l,H1 l=none->∃W:Nat->Nat->Hp->Prop,(∃m,W 0 m (upd H1 l (o l)))/\
   ∀i m H2,W i m H2->((J.stop i H2/\Q (.ref l) H2)\/(J.go i H2/\∀x H3,J.yld i H2 x H3->g x (st Z) H3 λ Z4 H4=>tt Z4 H4 λ ok H5=>
    if ok=true then tb l Z4 H5 λ H6=>∃m',m'<m/\W (i+1) m' H6 else∃m',m'<m/\W (i+1) m' H5)))
  (hRR:∀D C H' s',(∃Z',Inv (X.block scope C N fp z4 H1) [] Z' H' s')->z4.heap.objs.size<=C->Q (.ref D) H'->RR (.ref D) C (.ok .next) s'):
  wpAny (model X.prog X.w) X.A mk (λ acc zC=>wpAny (model X.prog X.w) X.A (zFd scope X.env.globals (au scope X.env) [] X.env.qual none .none (some X.env)) (λ cenv y6=>
   zCW (model X.prog X.w) X.A (.compStart e 0 (.ref it) acc {cenv with scope:=zG3 scope X.env}) (RR acc cenv.locals) y6) E zC) E z4:=by
 refine hA.make λ ob hob=>aF9 λ zD y8 y9 y7=>?_
 dsimp only at y8 y9 y7 ⊢;generalize hH2:z4.heap.push ob=P2 at y8 y9 y7 ⊢;have hC:P2.objs.size=z4.heap.objs.size+1:=by rw[<-hH2,zBB]
 have hDC:z4.heap.objs.size≠P2.objs.size:=by rw[hC];exact zA4 (zBs _)
 have qV:z4.heap.objs.size<=P2.objs.size:=by rw[hC];exact zCs _
 have old:∀b o,z4.heap.get? b=some o->zD.get? b=some o:=λ b o e=>y9 b o (hH2▸zAC _ e)
 have aE:zD.get? z4.heap.objs.size=some ob:=y9 _ _ (hH2▸zAL _ (hA.live ob hob));generalize hCe:P2.objs.size=C at y8 y9 y7 hDC qV hC ⊢;have hHD:H1 z4.heap.objs.size=none:=I.hok.fresh (zAQ _);have I0:Inv (X.block scope C N fp z4 H1) [] (st Z) (upd H1 z4.heap.objs.size (o z4.heap.objs.size)) {z4 with heap:=zD,toks:=z4.toks}:=
  I.block B hfp (λ b hb=>by obtain⟨o,e,_⟩:=T.obj 0 _ h0 b hb;exact⟨o,e⟩) (zAQ _) qV hDC old y8 y7 (λ c hc=>zA4 (zC2 qV hc)) (hA.ok hob aE (aQJ I))
 obtain⟨W,⟨m0,w0⟩,step⟩:=h _ hHD;have h01:tn 0 zD:=T.keep 0 _ _ h0 λ b _ o e=>old b o e
 have aT:∀{H':Hp},(∀b∈fp,H' b=none)->∀b∈fp,sI (X.block scope C N fp z4 H1) [] H' b:=λ{H'} hn b hb=>
  ⟨hn b hb,(I0.ok.exf b hb).1,I0.ok.exfs b hb,.inl hb,λ x c e=>(I0.ok.exf b hb).2 x c e,λ p hp=>absurd (show p∈([]:hZ)from hp) (by simp)⟩
 have fr0:∀b∈fp,upd H1 z4.heap.objs.size (o z4.heap.objs.size) b=none:=λ b hb=>by
  obtain⟨o,e,_⟩:=T.obj 0 _ h0 b hb;rw[aX (zA4 (zAT e))];exact(hfp b hb).1
 have loop:∀sx:zAG,sx={z4 with heap:=zD,toks:=z4.toks}->
   zCW (model X.prog X.w) X.A (.compLoop e 0 (.ref it) (.ref z4.heap.objs.size) (X.block scope C N fp z4 H1).env) (RR (.ref z4.heap.objs.size) C) sx:=by
  rintro sx rfl;refine aBu hT (λ n s'=>∃i H2,Inv (X.block scope C N fp z4 H1) [] (st Z) H2 s'/\tn i s'.heap/\(∀b∈fp,H2 b=none)/\W i n H2) ?_ m0 ⟨0,_,I0,h01,fr0,w0⟩;rintro n s3 ⟨i,H2,I2,st2,fr2,w2⟩;rcases step i n H2 w2 with ⟨stop,q⟩|⟨go,nxt⟩
  .refine thn (T.done (X.block scope C N fp z4 H1) rfl rfl rfl hc i [] s3 (st Z) H2 _ I2 (aT fr2) st2 stop) λ r s4 ⟨hr,I4⟩=>?_
   subst hr;exact hRR _ C H2 s4 ⟨_,I4⟩ qV q
  .refine thn (T.item (X.block scope C N fp z4 H1) rfl rfl rfl hc i [] s3 (st Z) H2 _ I2 (aT fr2) st2 go) λ r s4 ⟨u,hr,h4⟩=>?_
   subst hr;refine thn h4 λ _ s5 ⟨x,H5,I5,r5,y5,st5,fr5⟩=>?_
   have I5p:=I5.pinned (aT fr5) (T.obj _ _ st5);refine thn (hg C fp z4 H1 _ s5 (st Z) H5 x u _ I5p r5 (hgo _ _ _ _ (nxt x H5 y5))) λ _ s6 ⟨Z6,H6,I6,q6,aLR,ag6⟩=>?_
   refine thn (ht C fp z4 H1 _ s6 Z6 H6 _ I6 q6) λ ok s7 ⟨H7,I7,q7⟩=>?_
   have again:∀{H9:Hp} {s9:zAG},Inv (X.block scope C N fp z4 H1) ([]++ut fp s5.heap) Z6 H9 s9->(∃m',m'<n/\W (i+1) m' H9)->
     ∃m,m<n/\∃i H2,Inv (X.block scope C N fp z4 H1) [] (st Z) H2 s9/\tn i s9.heap/\(∀b∈fp,H2 b=none)/\W i m H2:=λ{H9 s9} I9 ⟨m',hm,w9⟩=>by
    have dS:∀b∈fp,∀o,s5.heap.get? b=some o->s9.heap.get? b=some o/\H9 b=none:=λ b hb o e=>by
     have z:=I9.pin (b,o) (zA9 _ (zA9 _ (nT hb e)));exact⟨z.1,z.2.1⟩
    refine⟨m',hm,i+1,H9,I9.unpinned.weak (by rw[aLR]) (λ k v e=>?_),T.keep _ _ _ st5 λ b hb o e=>(dS b hb o e).1,λ b hb=>?_,w9⟩
    .have hk:k<(st Z).length:=(zAN.mp e).1
     have hkN:k<N.length:=by rw[<-B.len Z];exact hk
     obtain⟨_,hks,_⟩:=B.val Z k _ v (zAI hkN) e;rw[ag6 k hks];exact e
    .obtain⟨o,e,_⟩:=T.obj _ _ st5 b hb
     exact(dS b hb o e).2
   cases ok with
   |false=>
    rw[if_neg zAO]at q7 ⊢;exact again I7 q7
   |true=>
    rw[if_pos rfl]at q7 ⊢;exact thn (he C fp z4 H1 _ _ s7 Z6 H7 _ I7 q7) λ _ s8 ⟨H8,I8,q8⟩=>again I8 q8
 exact hS (loop _ rfl) (T.self X.A 0 _ _ _ h01 (loop _ rfl))
def aIQ(hN:X.N.Nodup)(hx1:X.N[i]? =some x)(hx2:Loc X.env.scope x)(B:fD X scope N st ks)(hc:X.calm=true)(hi:PI X tg iter wi)(hg:∀C fp z0 zS,PG (X.block scope C N fp z0 zS) tg g)(hgo:uR g ks)
  (ht:∀C fp z0 zS,aDd (X.block scope C N fp z0 zS) ifs tt)(hT:aCH 0 e tg iter ifs body)(hS:aCI 0 e)(hA:aKI X.prog X.w mk obs o)(he:∀C fp z0 zS,PB (X.block scope C N fp z0 zS) body tb)(hsw:zCp e (some (.Name x pos')) spos.line X.env=pure true)
  (hcs:clausesOf e=⟨tg,iter,ifs,0⟩::gs)(hev:∀use,evalThenUse e X.env use=(do let _ <-comprehension e scope X.env (firstIterPos (⟨tg,iter,ifs,0⟩::gs) pos) mk false (eval iter X.env) (some use)))(hs:∀x,zCH iter X.env x=pure x:=by intro _;rfl)(hf:X.fn x=true\/X.env.scope.names.lookup x=some .local:=by first|exact .inl rfl|exact .inr rfl|assumption):
  PS X (.Assign [.Name x pos'] e spos) (aBD (aOw o wi st g tt tb) (oA i)):=by
 intro kX s Z H D I h;have hcl:zFW scope X.env=pure (au scope X.env):=iz λ y hy hk=>I.ok.has _ (B.free y hy hk)
 rw[zIf _ _ _ _ hsw];refine zAB (zEC (zAB ?_));rw[hev];refine zAB (zBX (zEh (use:=some (zDx (.Name x pos') X.env)) (Q:=λ _ s'=>SP X kX D .next s') hcs hs hcl B.kind B.loc (thn (hi kX s Z H _ I h) λ v s1 h1=>thn h1 λ itv s2 h2=>?_)) (λ _ s' hq=>zAF (zAF hq)) λ _ _ e=>e);obtain⟨it,fp,tn,J,H2,e,I2,T,st2,f2,hq⟩:=h2;subst e;refine aJo (Q:=λ x H1=>oA i x Z H1 D.nx) (RR:=λ acc C=>compPost (model X.prog X.w) X.A X.xe (some (zDx (.Name x pos') X.env)) (λ _ s'=>SP X kX D .next s') acc C) B hc hT hS hA hg hgo ht he I2 T st2 f2 hq ?_;intro DD C H' s' hJ qV q;have I3:=aCF I2 f2 hJ;obtain⟨Z',J'⟩:=hJ;obtain⟨m,hn,_⟩:=id J'.loc;have hHC:H' C=none:=J'.free;have neL:C≠X.env.locals:=zC3 (zAW I2.lt qV);have neC:∀x c,X.env.cells.lookup x=some c->c≠C:=λ x c e z=>by obtain⟨v,ic⟩:=I2.cell x c e;exact absurd (zAW ic.lt (by rw[z];exact qV)) (zBh _)
 show wpAny _ _ (zDx (.Name x pos') X.env (.ref DD)) _ _ _;refine zG7 ?_;refine uW I3 hN hx1 hx2 (show RelV (.ref DD) (.ref DD)from rfl) (λ s4 I4 ⟨a,hsa,ha⟩=>?_) hf;have nea:C≠a:=by
  rcases ha with z|z
  .rw[z];exact neL
  .exact zDU (neC _ _ z)
 refine⟨m,hn.sameBut hsa nea,λ h'' hs''=>⟨_,H',?_,q⟩⟩;exact I4.turned (t':=s4.toks) (λ b o ne e=>(hs''.2 b ne).trans e) hHC neL (.inr (zAl I2.sz qV)) neC
  (λ p hp z=>absurd (zAW (I2.pinL hp) (by rw[z];exact qV)) (zBh _))
end
def zR(kx vx:Expr)(env:Env)(D:Addr):Sem Unit:=do
 let kv <-eval kx env;let vv <-zCn [kv] (eval vx env);zG5 {kx.pos with endLine:=vx.pos.endLine,endCol:=vx.pos.endCol}
 zCn [kv,vv] (dictSet D kv vv)
def aGO(kx vx tg iter:Expr)(ifs:List Expr)(scope:Scope)(pos:Pos):aCH 0 (.DictComp kx vx [⟨tg,iter,ifs,0⟩] scope pos) tg iter ifs (zR kx vx):=
 ⟨λ _ _ _ _=>rfl,λ _ _ _ _ _=>rfl,λ _ _ _=>rfl⟩
def aDp(kx vx tg iter:Expr)(ifs:List Expr)(scope:Scope)(pos:Pos):aCI 0 (.DictComp kx vx [⟨tg,iter,ifs,0⟩] scope pos):=λ h0 h=>codeAny_compStart_dict h0 h
end L2
namespace VL
open PySem PySem.Spec PyProof.Rows L2
inductive D where
 |non|bl (b:Bool)|int (i:Int)|str (x:Str)|tup (l:List D)|lst (l:List D)|dct (ks vs:List D)|set (l:List Int)|scr (l:List Int)|fn (x:Str)
instance:Inhabited D:=⟨.non⟩
def kD:Key->D
 | .inl i=>.int i
 | .inr x=>.str x
variable{K:zAA}
def qw(K:zAA)(H:Hp)(a:Addr)(ns:List Int):Prop:=(∃o,H a=some (.frz o (.lst (ns.map V.int))))\/
 ∃(o:Obj) (its:Array Value) (n:Nat),K.lookup a=some o/\o.cls= .type "list"/\o.dict=none/\o.data= .seq its n/\its.size<=zAX/\Vals (ns.map V.int) its.toList
def qw.sq(h:qw K H a ns):SqL K H a (ns.map V.int):=by
 rcases h with h|h
 .exact .inl (.inr h)
 .exact .inr h
def hsh(ns:List Int):Int:=reduceHash (zJN (ns.map hashInt))
def dxO(a:Addr)(es:List (List Int×Addr×V)):HO:=.ext λ h=>es.length<=zAX/\(a==zDf)=false/\∃(xs:List (List Int×Addr×Value)) (o:Obj) (ts:Array DictEntry) (ep:Nat),zFb (λ e x=>e.1=x.1/\e.2.1=x.2.1/\RelV e.2.2 x.2.2) es xs/\
 h.get? a=some o/\o.ExactDict/\o.data= .dict ts ep/\ts.toList=xs.map λ x=>⟨hsh x.1,.ref x.2.1,x.2.2⟩
structure DxK(K:zAA)(H:Hp)(a:Addr)(es:List (List Int×Addr×V)):Prop where
 at_:H a=some (dxO a es)
 ks:∀e∈es,SqT K H e.2.1 (e.1.map V.int)
 nd:(es.map (·.1)).Nodup
mutual
inductive Rp(K:zAA):(Addr->Prop)->Hp->V->D->Prop where
 |non {A:Addr->Prop} {H:Hp}:Rp K A H .non .non
 |bl {A:Addr->Prop} {H:Hp} (b:Bool):Rp K A H (.bl b) (.bl b)
 |int {A:Addr->Prop} {H:Hp} (i:Int):Rp K A H (.int i) (.int i)
 |str {A:Addr->Prop} {H:Hp} (x:Str):Rp K A H (.str x) (.str x)
 |tup {A:Addr->Prop} {H:Hp} {a:Addr} {xs:List V} {ds:List D} (h:SqT K H a xs) (r:Rps K A H xs ds):Rp K A H (.ref a) (.tup ds)
 |lst {A:Addr->Prop} {H:Hp} {a:Addr} {xs:List V} {ds:List D} (h:H a=some (.lst xs)) (m:A a) (r:Rps K (λ p=>A p/\p≠a) H xs ds):Rp K A H (.ref a) (.lst ds)
 |dK {A:Addr->Prop} {H:Hp} {a:Addr} {kvs:List (Key×V)} {ds:List D} (h:H a=some (.dK kvs)) (m:A a) (r:Rps K (λ p=>A p/\p≠a) H (kvs.map (·.2)) ds):Rp K A H (.ref a) (.dct (kvs.map λ p=>kD p.1) ds)
 |dT {A:Addr->Prop} {H:Hp} {a:Addr} {es:List (List Int×Addr×V)} {ds:List D} (h:DxK K H a es) (m:A a) (r:Rps K (λ p=>A p/\p≠a) H (es.map (·.2.2)) ds):Rp K A H (.ref a) (.dct (.non::es.map λ e=>.tup (e.1.map .int)) ds)
 |set {A:Addr->Prop} {H:Hp} {a:Addr} {S:Int->Bool} {l:List Int} (h:H a=some (.set S l.length)) (m:A a) (hS:∀i,S i=decide (i∈l)) (nd:l.Nodup):Rp K A H (.ref a) (.set l)
 |scr {A:Addr->Prop} {H:Hp} {a:Addr} {ns:List Int} (h:qw K H a ns):Rp K A H (.ref a) (.scr ns)
 |fn {A:Addr->Prop} {H:Hp} {a:Addr} {x:Str} (h:zAb K zA6 x=some (some (.ref a))):Rp K A H (.ref a) (.fn x)
inductive Rps(K:zAA):(Addr->Prop)->Hp->List V->List D->Prop where
 |nil {A:Addr->Prop} {H:Hp}:Rps K A H [] []
 |cons {A:Addr->Prop} {H:Hp} {x:V} {d:D} {xs:List V} {ds:List D} (h:Rp K A H x d) (r:Rps K A H xs ds):Rps K A H (x::xs) (d::ds)
end
def qw.mono(s:aV H H')(h:qw K H a ns):qw K H' a ns:=by
 rcases h with ⟨o,h⟩|h
 .exact .inl ⟨o,s _ _ h⟩
 .exact .inr h
def DxK.mono(h:DxK K H a es)(s:aV H H'):DxK K H' a es:=⟨s _ _ h.at_,λ e he=>s.sqt (h.ks e he),h.nd⟩
def Rp.mono'(s:aV H H')(r:Rp K A H x d)(hA:∀p o,H p=some o->A p->A' p):Rp K A' H' x d:=
 Rp.rec (motive_1:=λ A H x d _=>∀H',aV H H'->∀A':Addr->Prop,(∀p o,H p=some o->A p->A' p)->Rp K A' H' x d) (motive_2:=λ A H xs ds _=>∀H',aV H H'->∀A':Addr->Prop,(∀p o,H p=some o->A p->A' p)->Rps K A' H' xs ds)
  (λ _ _ _ _=>.non) (λ b _ _ _ _=>.bl b) (λ i _ _ _ _=>.int i) (λ x _ _ _ _=>.str x) (λ h _ ih _ s _ hA=>.tup (s.sqt h) (ih _ s _ hA))
  (λ h m _ ih _ s _ hA=>.lst (s _ _ h) (hA _ _ h m) (ih _ s _ λ p o e z=>⟨hA p o e z.1,z.2⟩)) (λ h m _ ih _ s _ hA=>.dK (s _ _ h) (hA _ _ h m) (ih _ s _ λ p o e z=>⟨hA p o e z.1,z.2⟩))
  (λ h m _ ih _ s _ hA=>.dT (h.mono s) (hA _ _ h.at_ m) (ih _ s _ λ p o e z=>⟨hA p o e z.1,z.2⟩)) (λ h m hS nd _ s _ hA=>.set (s _ _ h) (hA _ _ h m) hS nd) (λ h _ s _ _=>.scr (h.mono s)) (λ h _ _ _ _=>.fn h) (λ _ _ _ _=>.nil) (λ _ _ ih ir _ s _ hA=>.cons (ih _ s _ hA) (ir _ s _ hA)) r H' s A' hA
def Rps.mono'(s:aV H H')(r:Rps K A H xs ds)(hA:∀p o,H p=some o->A p->A' p):Rps K A' H' xs ds:=
 Rps.rec (motive_1:=λ A H x d _=>∀H',aV H H'->∀A':Addr->Prop,(∀p o,H p=some o->A p->A' p)->Rp K A' H' x d) (motive_2:=λ A H xs ds _=>∀H',aV H H'->∀A':Addr->Prop,(∀p o,H p=some o->A p->A' p)->Rps K A' H' xs ds)
  (λ _ _ _ _=>.non) (λ b _ _ _ _=>.bl b) (λ i _ _ _ _=>.int i) (λ x _ _ _ _=>.str x) (λ h _ ih _ s _ hA=>.tup (s.sqt h) (ih _ s _ hA))
  (λ h m _ ih _ s _ hA=>.lst (s _ _ h) (hA _ _ h m) (ih _ s _ λ p o e z=>⟨hA p o e z.1,z.2⟩)) (λ h m _ ih _ s _ hA=>.dK (s _ _ h) (hA _ _ h m) (ih _ s _ λ p o e z=>⟨hA p o e z.1,z.2⟩))
  (λ h m _ ih _ s _ hA=>.dT (h.mono s) (hA _ _ h.at_ m) (ih _ s _ λ p o e z=>⟨hA p o e z.1,z.2⟩)) (λ h m hS nd _ s _ hA=>.set (s _ _ h) (hA _ _ h m) hS nd) (λ h _ s _ _=>.scr (h.mono s)) (λ h _ _ _ _=>.fn h) (λ _ _ _ _=>.nil) (λ _ _ ih ir _ s _ hA=>.cons (ih _ s _ hA) (ir _ s _ hA)) r H' s A' hA
def Rp.mono(s:aV H H')(hA:∀p o,H p=some o->A p->A' p)(r:Rp K A H x d):Rp K A' H' x d:=r.mono' s hA
def Rps.mono(s:aV H H')(hA:∀p o,H p=some o->A p->A' p)(r:Rps K A H x d):Rps K A' H' x d:=r.mono' s hA
def Rp.up(s:aV H H')(r:Rp K A H x d):Rp K A H' x d:=r.mono s λ _ _ _ h=>h
def Rp.wk(hA:∀p o,H p=some o->A p->A' p)(r:Rp K A H x d):Rp K A' H x d:=r.mono (aV.refl H) hA
def Rps.up(s:aV H H')(r:Rps K A H x d):Rps K A H' x d:=r.mono s λ _ _ _ h=>h
def Rps.wk(hA:∀p o,H p=some o->A p->A' p)(r:Rps K A H x d):Rps K A' H x d:=r.mono (aV.refl H) hA
def lK:HO->Bool
 | .lst _=>true| .dK _=>true| .dT _=>true| .set _ _=>true| .ext _=>true|_=>false
def qD(s:mY l H H')(hl:H l=some o)(ho:lK o=true)(h:SqT K H a xs):SqT K H' a xs:=by
 rcases h with (h|⟨u,h⟩)|h
 .refine .inl (.inl (s _ _ (λ e=>?_) h))
  subst e;rw[hl]at h;cases h;cases ho
 .refine .inl (.inr ⟨u,s _ _ (λ e=>?_) h⟩)
  subst e;rw[hl]at h;cases h;cases ho
 .exact .inr h
def aFU(s:mY l H H')(hl:H l=some o)(ho:lK o=true)(h:qw K H a ns):qw K H' a ns:=by
 rcases h with ⟨u,h⟩|h
 .exact .inl ⟨u,s _ _ (λ e=>by subst e;rw[hl]at h;cases h;cases ho) h⟩
 .exact .inr h
def DxK.but(h:DxK K H a es)(s:mY l H H')(hl:H l=some o)(ho:lK o=true)(ne:a≠l):DxK K H' a es:=
 ⟨s _ _ ne h.at_,λ e he=>qD s hl ho (h.ks e he),h.nd⟩
def Rp.but'(s:mY l H H')(hl:H l=some o)(ho:lK o=true)(r:Rp K A H x d)(hA:¬A l):Rp K A H' x d:=
 Rp.rec (motive_1:=λ A H x d _=>∀H',mY l H H'->∀o:HO,H l=some o->lK o=true->¬A l->Rp K A H' x d) (motive_2:=λ A H xs ds _=>∀H',mY l H H'->∀o:HO,H l=some o->lK o=true->¬A l->Rps K A H' xs ds)
  (λ _ _ _ _ _ _=>.non) (λ b _ _ _ _ _ _=>.bl b) (λ i _ _ _ _ _ _=>.int i) (λ x _ _ _ _ _ _=>.str x) (λ h _ ih _ s o hl ho hA=>.tup (qD s hl ho h) (ih _ s o hl ho hA))
  (λ h m _ ih _ s o hl ho hA=>.lst (s _ _ (λ e=>hA (e▸m)) h) m (ih _ s o hl ho λ z=>hA z.1)) (λ h m _ ih _ s o hl ho hA=>.dK (s _ _ (λ e=>hA (e▸m)) h) m (ih _ s o hl ho λ z=>hA z.1))
  (λ h m _ ih _ s o hl ho hA=>.dT (h.but s hl ho λ e=>hA (e▸m)) m (ih _ s o hl ho λ z=>hA z.1)) (λ h m hS nd _ s o hl ho hA=>.set (s _ _ (λ e=>hA (e▸m)) h) m hS nd) (λ h _ s o hl ho _=>.scr (aFU s hl ho h)) (λ h _ _ _ _ _ _=>.fn h) (λ _ _ _ _ _ _=>.nil) (λ _ _ ih ir _ s o hl ho hA=>.cons (ih _ s o hl ho hA) (ir _ s o hl ho hA)) r H' s o hl ho hA
def Rps.but'(s:mY l H H')(hl:H l=some o)(ho:lK o=true)(r:Rps K A H xs ds)(hA:¬A l):Rps K A H' xs ds:=
 Rps.rec (motive_1:=λ A H x d _=>∀H',mY l H H'->∀o:HO,H l=some o->lK o=true->¬A l->Rp K A H' x d) (motive_2:=λ A H xs ds _=>∀H',mY l H H'->∀o:HO,H l=some o->lK o=true->¬A l->Rps K A H' xs ds)
  (λ _ _ _ _ _ _=>.non) (λ b _ _ _ _ _ _=>.bl b) (λ i _ _ _ _ _ _=>.int i) (λ x _ _ _ _ _ _=>.str x) (λ h _ ih _ s o hl ho hA=>.tup (qD s hl ho h) (ih _ s o hl ho hA))
  (λ h m _ ih _ s o hl ho hA=>.lst (s _ _ (λ e=>hA (e▸m)) h) m (ih _ s o hl ho λ z=>hA z.1)) (λ h m _ ih _ s o hl ho hA=>.dK (s _ _ (λ e=>hA (e▸m)) h) m (ih _ s o hl ho λ z=>hA z.1))
  (λ h m _ ih _ s o hl ho hA=>.dT (h.but s hl ho λ e=>hA (e▸m)) m (ih _ s o hl ho λ z=>hA z.1)) (λ h m hS nd _ s o hl ho hA=>.set (s _ _ (λ e=>hA (e▸m)) h) m hS nd) (λ h _ s o hl ho _=>.scr (aFU s hl ho h)) (λ h _ _ _ _ _ _=>.fn h) (λ _ _ _ _ _ _=>.nil) (λ _ _ ih ir _ s o hl ho hA=>.cons (ih _ s o hl ho hA) (ir _ s o hl ho hA)) r H' s o hl ho hA
def Rp.but(s:mY l H H')(hl:H l=some o)(ho:lK o=true)(hA:¬A l)(r:Rp K A H x d):Rp K A H' x d:=r.but' s hl ho hA
def Rps.but(s:mY l H H')(hl:H l=some o)(ho:lK o=true)(hA:¬A l)(r:Rps K A H x d):Rps K A H' x d:=r.but' s hl ho hA
mutual
def imm:D->Bool
 | .tup l=>qY l
 | .lst _=>false
 | .dct _ _=>false
 | .set _=>false
 |_=>true
def qY:List D->Bool
 |[]=>true
 |d::r=>imm d&&qY r
end
def aA0(e:qY (d::r)=true):imm d=true/\qY r=true:=by
 simp only[qY,zAK]at e;exact e
def aL4(e:imm (.tup l)=true):qY l=true:=by simpa[imm]using e
def aL9(e:imm (.lst l)=true):False:=by simp[imm]at e
def aFp(e:imm (.dct l k)=true):False:=by simp[imm]at e
def aL6(e:imm (.set l)=true):False:=by simp[imm]at e
def Rp.imm'(r:Rp K A H x d)(e:VL.imm d=true):Rp K A' H x d:=
 Rp.rec (motive_1:=λ _ H x d _=>VL.imm d=true->Rp K A' H x d) (motive_2:=λ _ H xs ds _=>qY ds=true->Rps K A' H xs ds)
  (λ _=>.non) (λ b _=>.bl b) (λ i _=>.int i) (λ x _=>.str x) (λ h _ ih e=>.tup h (ih (aL4 e)))
  (λ _ _ _ _ e=>(aL9 e).elim) (λ _ _ _ _ e=>(aFp e).elim) (λ _ _ _ _ e=>(aFp e).elim) (λ _ _ _ _ e=>(aL6 e).elim) (λ h _=>.scr h) (λ h _=>.fn h) (λ _=>.nil) (λ _ _ ih ir e=>.cons (ih (aA0 e).1) (ir (aA0 e).2)) r e
theorem Rp.imm(r:Rp K A H x d)(h:VL.imm d=true):Rp K A' H x d:=r.imm' h
def Rp.int_inv(r:Rp K A H v (.int i)):v= .int i:=by cases r;rfl
def Rp.bl_inv(r:Rp K A H v (.bl b)):v= .bl b:=by cases r;rfl
def Rp.tup_inv(r:Rp K A H v (.tup ds)):∃a xs,v= .ref a/\SqT K H a xs/\Rps K A H xs ds:=by cases r with|tup h r=>exact⟨_,_,rfl,h,r⟩
def Rp.lst_inv(r:Rp K A H v (.lst ds)):∃a xs,v= .ref a/\H a=some (.lst xs)/\A a/\Rps K (λ p=>A p/\p≠a) H xs ds:=by cases r with|lst h m r=>exact⟨_,_,rfl,h,m,r⟩
def Rp.scr_inv(r:Rp K A H v (.scr ns)):∃a,v= .ref a/\qw K H a ns:=by cases r with|scr h=>exact⟨_,rfl,h⟩
def Rps.one_inv(r:Rps K A H vs [d]):∃v,vs=[v]/\Rp K A H v d:=by cases r with|cons h r=>cases r;exact⟨_,rfl,h⟩
section
variable{A:Addr->Prop}{H:Hp}
theorem Rps.length:∀{xs:List V} {ds:List D},Rps K A H xs ds->xs.length=ds.length:=by
 intro xs ds h;induction xs generalizing ds with
 |nil=>cases h;rfl
 |cons x xs ih=>cases h with|cons _ r=>exact congrArg (·+1) (ih r)
theorem Rps.get:∀{xs:List V} {ds:List D} {i:Nat} {x:V},Rps K A H xs ds->xs[i]? =some x->∃d,ds[i]? =some d/\Rp K A H x d
 |_,_,_,_,.nil,e=>by simp at e
 |_,_,0,_,.cons h _,e=>by simp at e;subst e;exact⟨_,rfl,h⟩
 |_,_,i+1,x,.cons _ r,e=>by
  obtain⟨d,h1,h2⟩:=Rps.get (i:=i) (x:=x) r (by simpa using e);exact⟨d,by simpa using h1,h2⟩
theorem Rps.getD:∀{xs:List V} {ds:List D} {i:Nat} {d:D},Rps K A H xs ds->ds[i]? =some d->∃x,xs[i]? =some x/\Rp K A H x d
 |_,_,_,_,.nil,e=>by simp at e
 |_,_,0,_,.cons h _,e=>by simp at e;subst e;exact⟨_,rfl,h⟩
 |_,_,i+1,d,.cons _ r,e=>by
  obtain⟨x,h1,h2⟩:=Rps.getD (i:=i) (d:=d) r (by simpa using e);exact⟨x,by simpa using h1,h2⟩
def Rps.append:∀{xs ys:List V} {ds es:List D},Rps K A H xs ds->Rps K A H ys es->Rps K A H (xs++ys) (ds++es):=by
 intro xs ys ds es h s;induction xs generalizing ds with
 |nil=>cases h;exact s
 |cons x xs ih=>cases h with|cons h r=>exact .cons h (ih r)
theorem Rps.take:∀{xs:List V} {ds:List D} (n:Nat),Rps K A H xs ds->Rps K A H (xs.take n) (ds.take n)
 |_,_,0,_=>.nil
 |_,_,_+1,.nil=>.nil
 |_,_,n+1,.cons h r=>.cons h (Rps.take n r)
theorem Rps.drop:∀{xs:List V} {ds:List D} (n:Nat),Rps K A H xs ds->Rps K A H (xs.drop n) (ds.drop n)
 |_,_,0,r=>r
 |_,_,_+1,.nil=>.nil
 |_,_,n+1,.cons _ r=>Rps.drop n r
theorem Rps.reverse:∀{xs:List V} {ds:List D},Rps K A H xs ds->Rps K A H xs.reverse ds.reverse:=by
 intro xs ds h;induction xs generalizing ds with
 |nil=>cases h;exact .nil
 |cons x xs ih=>
  cases h with
  |cons h r=>
   rw[zDZ,zDZ];exact Rps.append (ih r) (.cons h .nil)
theorem Rps.set(h:Rp K A H x d):∀{xs:List V} {ds:List D} (n:Nat),Rps K A H xs ds->Rps K A H (xs.set n x) (ds.set n d)
 |_,_,_,.nil=>.nil
 |_,_,0,.cons _ r=>.cons h r
 |_,_,n+1,.cons k r=>.cons k (Rps.set h n r)
theorem Rps.ints:∀{ns:List Int},Rps K A H (ns.map V.int) (ns.map D.int)
 |[]=>.nil
 |n::ns=>.cons (.int n) Rps.ints
theorem Rps.ints_of:∀{xs:List V} {ns:List Int},Rps K A H xs (ns.map D.int)->xs=ns.map V.int
 |_,[],.nil=>rfl
 |_,n::ns,.cons h r=>by
  cases h;rw[zAS,Rps.ints_of r]
end
def aO(h:a=b):a=b:=h
inductive Rs(α:Type) where
 |ok (a:α)|ex (c:Str)|st
noncomputable def Rs.bd{α β:Type}:Rs α->(α->Rs β)->Rs β
 | .ok a,f=>f a
 | .ex c,_=>.ex c
 | .st,_=>.st
@[simp] def aR(a:α)(f:α->Rs β):(Rs.ok a).bd f=f a:=aO rfl
def dO{r:Rs α}(h:r.bd f= .ok b):∃a,r= .ok a/\f a= .ok b:=by
 cases r with
 |ok a=>exact⟨a,rfl,h⟩
 |ex c=>cases h
 |st=>cases h
abbrev fE:=List (List D)
inductive Slot where
 |no|sh (d:D)|nw (d:D)|ow (d:D)|oz (d:D)|o2 (l:fE)
abbrev En:=List Slot
abbrev Lab:=Addr->Nat×Nat
abbrev Mode:=Option (List Nat)
def inM(m:Mode)(n:Nat):Prop:=match m with
 |none=>True
 |some L=>n∈L
def jn:Mode->Mode->Mode
 |some a,some b=>some (a++b)
 |_,_=>none
def aP8(h:inM a n):inM (jn a b) n:=by
 cases a with
 |none=>cases b<;>exact trivial
 |some L=>
  cases b with
  |none=>exact trivial
  |some M=>exact zA7 _ h
def aP7(h:inM b n):inM (jn a b) n:=by
 cases a with
 |none=>cases b<;>exact trivial
 |some L=>
  cases b with
  |none=>exact trivial
  |some M=>exact zA9 _ h
def fpM(m:Mode)(lab:Lab)(H:Hp):Addr->Prop:=λ p=>H p=none\/inM m (lab p).1
def aM6(h:fpM a lab H p):fpM (jn a b) lab H p:=h.imp id aP8
def aM5(h:fpM b lab H p):fpM (jn a b) lab H p:=h.imp id aP7
def zB(s:aV H H')(h:fpM m lab H' p):fpM m lab H p:=h.imp (λ z=>s.free z) id
structure Gx where
 H0:Hp
 E:XK
 cl:Str->Addr
def aGi:D->Bool
 | .lst _=>true
 | .dct _ _=>true
 | .set _=>true
 |_=>false
def fU(K:zAA)(H:Hp)(lab:Lab)(i:Nat)(v:V):Slot->Prop
 | .no=>True
 | .sh d=>Rp K (λ p=>(lab p).1<=1) H v d
 | .nw d=>Rp K (λ p=>(lab p).1=1) H v d
 | .ow d=>Rp K (λ p=>(lab p).1=1\/(lab p).1=i+2) H v d/\(aGi d=true->∃a,v= .ref a/\(lab a).1=i+2)
 | .oz d=>∃a xs ds,v= .ref a/\d= .lst ds/\H a=some (.lst xs)/\(lab a).1=i+2/\Rps K (λ p=>(lab p).1<=1) H xs ds
 | .o2 l=>∃a xs,v= .ref a/\H a=some (.lst xs)/\lab a=(i+2,0)/\xs.length=l.length/\∀(j:Nat) x ds,xs[j]? =some x->l[j]? =some ds->Rp K (λ p=>lab p=(i+2,j+1)) H x (.lst ds)
structure RR(K:zAA)(G:Gx)(U:List (V×D))(Y:En)(Z:L2.St)(H:Hp)(lab:Lab):Prop where
 len:Z.length=Y.length
 sl:∀(i:Nat) (s:Slot),Y[i]? =some s->s= .no\/∃v,Z[i]? =some (some v)/\fU K H lab i v s
 old:aV G.H0 H
 new:∀p,(lab p).1≠0->G.H0 p=none
 tm:∀q∈U,Rp K (λ p=>(lab p).1<=1) H q.1 q.2
theorem fU.up(s:aV H H')(h:fU K H lab i v x):fU K H' lab i v x:=by
 cases x with
 |no=>exact trivial
 |sh d=>exact Rp.up s h
 |nw d=>exact Rp.up s h
 |ow d=>exact⟨Rp.up s h.1,h.2⟩
 |oz d=>
  obtain⟨a,xs,ds,e1,e2,e3,e4,e5⟩:=h;exact⟨a,xs,ds,e1,e2,s _ _ e3,e4,e5.up s⟩
 |o2 l=>
  obtain⟨a,xs,e1,e2,e3,e4,e5⟩:=h;exact⟨a,xs,e1,s _ _ e2,e3,e4,λ j x ds f1 f2=>(e5 j x ds f1 f2).up s⟩
def aHw(r:Rp K A H (.ref a) d)(hm:aGi d=true):∃o,H a=some o/\lK o=true/\A a:=by
 cases r with
 |lst h m _=>exact⟨_,h,rfl,m⟩
 |dK h m _=>exact⟨_,h,rfl,m⟩
 |dT h m _=>exact⟨_,h.at_,rfl,m⟩
 |set h m _ _=>exact⟨_,h,rfl,m⟩
 |tup _ _=>cases hm
 |scr _=>cases hm
 |fn _=>cases hm
def aND(r:Rp K A H v d)(hm:aGi d=true):∃a,v= .ref a:=by
 cases r with
 |lst h m _=>exact⟨_,rfl⟩
 |dK h m _=>exact⟨_,rfl⟩
 |dT h m _=>exact⟨_,rfl⟩
 |set h m _ _=>exact⟨_,rfl⟩
 |_=>cases hm
theorem fU.lab{lab lab':Lab}(hl:∀p o,H p=some o->lab' p=lab p)(h:fU K H lab i v x):fU K H lab' i v x:=by
 cases x with
 |no=>exact trivial
 |sh d=>exact Rp.wk (λ p o e q=>(hl p o e).symm▸q) h
 |nw d=>exact Rp.wk (λ p o e q=>(hl p o e).symm▸q) h
 |ow d=>
  obtain⟨h,t⟩:=h;refine⟨Rp.wk (λ p o e q=>(hl p o e).symm▸q) h,λ m=>?_⟩;obtain⟨a,rfl,ea⟩:=t m;obtain⟨o,ho,_⟩:=aHw h m;exact⟨a,rfl,(congrArg (·.1) (hl a o ho)).trans ea⟩
 |oz d=>
  obtain⟨a,xs,ds,e1,e2,e3,e4,e5⟩:=h;exact⟨a,xs,ds,e1,e2,e3,(congrArg (·.1) (hl _ _ e3)).trans e4,Rps.wk (λ p o e q=>(hl p o e).symm▸q) e5⟩
 |o2 l=>
  obtain⟨a,xs,e1,e2,e3,e4,e5⟩:=h;exact⟨a,xs,e1,e2,(hl _ _ e2).trans e3,e4,λ j x ds f1 f2=>Rp.wk (λ p o e q=>(hl p o e).symm▸q) (e5 j x ds f1 f2)⟩
section
variable{G:Gx}{U:List (V×D)}{Y:En}{Z:L2.St}{H H':Hp}{lab lab':Lab}
theorem RR.up(R:RR K G U Y Z H lab)(s:aV H H'):RR K G U Y Z H' lab:=
 ⟨R.len,λ i x e=>(R.sl i x e).imp id λ⟨v,e1,e2⟩=>⟨v,e1,e2.up s⟩,R.old.trans s,R.new,λ q hq=>(R.tm q hq).up s⟩
def RR.relab(R:RR K G U Y Z H lab)(hl:∀p o,H p=some o->lab' p=lab p)(hn:∀p,(lab' p).1≠0->G.H0 p=none):RR K G U Y Z H lab':=
 ⟨R.len,λ i x e=>(R.sl i x e).imp id λ⟨v,e1,e2⟩=>⟨v,e1,e2.lab hl⟩,R.old,hn,λ q hq=>Rp.wk (λ p o e z=>by rw[hl p o e];exact z) (R.tm q hq)⟩
def RR.drop(R:RR K G (U'++U) Y Z H lab):RR K G U Y Z H lab:=⟨R.len,R.sl,R.old,R.new,λ z hz=>R.tm z (zA9 _ hz)⟩
def RR.put(R:RR K G U Y Z H lab)(h:fU K H lab i v s):RR K G U (Y.set i s) (Z.set i (some v)) H lab:=by
 refine⟨by rw[zBK,zBK,R.len],λ j x e=>?_,R.old,R.new,R.tm⟩;by_cases hj:i=j
 .subst hj
  have hi:i<Y.length:=by
   have:=(zAN.mp e).1
   rwa [zBK]at this
  rw[zBv hi]at e;cases e;exact .inr ⟨v,by rw[zBv (by rw[R.len];exact hi)],h⟩
 .rw[zB7 hj]at e
  rcases R.sl j x e with z|⟨u,e1,e2⟩
  .exact .inl z
  .exact .inr ⟨u,by rw[zB7 hj];exact e1,e2⟩
def cT(H:Hp)(n:Nat)(lab:Lab):Lab:=λ p=>match H p with
 |none=>(n,0)
 |some _=>lab p
def bj(h:H p=some o):cT H n lab p=lab p:=by unfold cT;rw[h]
def yU(h:H p=none):cT H n lab p=(n,0):=by unfold cT;rw[h]
def RR.fresh{P:Nat->Prop}(h1:P 1)(hm:∀k,inM m k->P k)(R:RR K G U Y Z H lab)(s:aV H H')(r:Rp K (fpM m lab H) H' v d):
  RR K G U Y Z H' (cT H 1 lab)/\Rp K (λ p=>P (cT H 1 lab p).1) H' v d:=by
 refine⟨(R.relab (λ p o e=>bj e) λ p hp=>?_).up s,Rp.wk (λ p o e z=>?_) r⟩
 .cases e:H p with
  |none=>exact R.old.free e
  |some o=>rw[bj e]at hp;exact R.new p hp
 .rcases z with z|z
  .rw[yU z];exact h1
  .cases e:H p with
   |none=>rw[yU e];exact h1
   |some o=>rw[bj e];exact hm _ z
def RR.freshO(i:Nat)(hm:∀k,inM m k->k=1\/k=i+2)(R:RR K G U Y Z H lab)(s:aV H H')(r:Rp K (fpM m lab H) H' v d)(ht:aGi d=true->∃a,v= .ref a/\H a=none):
  ∃lab',RR K G U Y Z H' lab'/\fU K H' lab' i v (.ow d):=by
 obtain⟨R',r'⟩:=R.fresh (P:=λ k=>k=1\/k=i+2) (.inl rfl) hm s r;cases hd:aGi d with
 |false=>exact⟨_,R',r',λ z=>absurd z (by simp[hd])⟩
 |true=>
  obtain⟨a,rfl,ha⟩:=ht hd;refine⟨λ p=>if p=a then(i+2,0)else cT H 1 lab p,?_,Rp.wk (λ p o e z=>?_) r',λ _=>⟨a,rfl,by show(if a=a then((i+2,0):Nat×Nat)else cT H 1 lab a).1=i+2;rw[if_pos rfl]⟩⟩
  .refine(R.relab (lab':=λ p=>if p=a then(i+2,0)else cT H 1 lab p) (λ p o e=>?_) λ p hp=>?_).up s
   .rw[if_neg (λ z=>by subst z;rw[ha]at e;cases e),bj e]
   .by_cases z:p=a
    .subst z;exact R.old.free ha
    .rw[if_neg z]at hp;exact R'.new p hp
  .dsimp only
   by_cases q:p=a
   .rw[if_pos q];exact .inr rfl
   .rw[if_neg q];exact z
def aMY(h:fU K H lab i v (.oz d)):Rp K (λ p=>(lab p).1<=1\/(lab p).1=i+2) H v d:=by
 obtain⟨a,xs,ds,rfl,rfl,h1,h2,h3⟩:=h;exact .lst h1 (.inr h2) (h3.wk λ p o e z=>⟨.inl z,λ q=>by subst q;lia⟩)
end
structure Ct where
 ι:Type
 X:ι->Cx
 prog:zA2
 w:World
 K:zAA
 mg:Str->Option Value
 base:Heap
 k:Nat
 G:Gx
 cx:∀i,(X i).prog=prog/\(X i).w=w/\(X i).K=K/\(X i).mg=mg/\(X i).base=base
 calm:∀i,(X i).calm=true
 room:∀i,fB k (X i).A
 own:∀i,zI9 (model (X i).prog (X i).w) (X i).A (X i).env (X i).xe
 pass:∀i,sH (CX1 (X i).prog (X i).w) (X i) G.E
 dOk:Bool
 dcx:dOk=true->∀i,di (X i) G.E
def Ct.hK(C:Ct)(i:C.ι):(C.X i).K=C.K:=(C.cx i).2.2.1
def WR{α:Type}(G:Gx)(r:Rs α)(P:α->Prop):Prop:=match r with
 | .ok a=>P a
 | .ex c=>∀H',aV G.H0 H'->G.E (.ref (G.cl c)) none H'
 | .st=>False
theorem WR.bd(h:WR G (r.bd k) P):WR G r (λ a=>WR G (k a) P):=by
 cases r with
 |ok a=>exact h
 |ex c=>exact h
 |st=>exact h
def WR.imp(h:WR G r P)(f:∀a,r= .ok a->P a->P' a):WR G r P':=by
 cases r with
 |ok a=>exact f a rfl h
 |ex c=>exact h
 |st=>exact h
abbrev QE(K:zAA)(m:Mode)(lab:Lab)(H:Hp)(Q:VK):D->Prop:=λ d=>∀v H',aV H H'->Rp K (fpM m lab H) H' v d->Q v H'
abbrev QA(K:zAA)(m:Mode)(lab:Lab)(H:Hp)(Q:List V->Hp->Prop):List D->Prop:=λ ds=>∀vs H',aV H H'->Rps K (fpM m lab H) H' vs ds->Q vs H'
abbrev QT(H:Hp)(Q:Bool->Hp->Prop):Bool->Prop:=λ b=>∀H',aV H H'->Q b H'
def jH(K:zAA)(G:Gx)(m:Mode)(t:TE)(f:En->Rs D):Prop:=∀U Z H Y lab (Q:VK),RR K G U Y Z H lab->WR G (f Y) (QE K m lab H Q)->t Z H Q
def aMB(K:zAA)(G:Gx)(m:Mode)(t:TA)(f:En->Rs (List D)):Prop:=∀U Z H Y lab (Q:List V->Hp->Prop),RR K G U Y Z H lab->WR G (f Y) (QA K m lab H Q)->t Z H Q
def aFF(K:zAA)(G:Gx)(t:TT)(f:En->Rs Bool):Prop:=∀U Z H Y lab (Q:Bool->Hp->Prop),RR K G U Y Z H lab->WR G (f Y) (QT H Q)->t Z H Q
def SE(C:Ct)(m:Mode)(e:Expr)(f:En->Rs D):Prop:=∃t,(∀i,PE (C.X i) e t)/\jH C.K C.G m t f
def SA(C:Ct)(m:Mode)(es:List Expr)(f:En->Rs (List D)):Prop:=∃t,(∀i,PA (C.X i) es t)/\aMB C.K C.G m t f
def ST(C:Ct)(e:Expr)(f:En->Rs Bool):Prop:=∃t,(∀i,PT (C.X i) e t)/\aFF C.K C.G t f
def SW(C:Ct)(e:Expr)(f:En->Rs Bool):Prop:=∃t,(∀i,PW (C.X i) e t)/\aFF C.K C.G t f
def SW.st(h:SW C e f):ST C e f:=let⟨t,h1,h2⟩:=h;⟨t,λ i=>(h1 i).pt,h2⟩
def jM(i:Nat):En->Rs D:=λ Y=>match Y[i]? with
 |some (.sh d)=>.ok d
 |some (.nw d)=>.ok d
 |some (.ow d)=>.ok d
 |some (.oz d)=>.ok d
 |some (.o2 l)=>.ok (.lst (l.map .lst))
 |_=>.st
def aD(i:Nat):En->Rs D:=λ Y=>match Y[i]? with
 |some (.sh d)=>.ok d
 |some (.nw d)=>.ok d
 |_=>.st
def gn(i:Nat):En->Rs D:=λ Y=>match Y[i]? with
 |some (.nw d)=>.ok d
 |_=>.st
def oR(i:Nat):En->Rs D:=λ Y=>match Y[i]? with
 |some (.ow d)=>.ok d
 |some (.o2 l)=>.ok (.lst (l.map .lst))
 |_=>.st
def cD(d:D):En->Rs D:=λ _=>.ok d
def aF8{K:zAA}{H:Hp}{lab:Lab}{i:Nat}{v:V}{l:fE}(h:fU K H lab i v (.o2 l)):Rp K (λ p=>(lab p).1=i+2) H v (.lst (l.map .lst)):=by
 obtain⟨a,xs,rfl,ha,hla,kK,hin⟩:=h;refine .lst ha (by rw[hla]) ?_;have go:∀(xs:List V) (l:fE) (n:Nat),xs.length=l.length->0<n->(∀(j:Nat) x ds,xs[j]? =some x->l[j]? =some ds->Rp K (λ p=>lab p=(i+2,n+j)) H x (.lst ds))->Rps K (λ p=>(lab p).1=i+2/\p≠a) H xs (l.map .lst):=by
  intro xs;induction xs with
  |nil=>intro l n hl _ _;cases l with|nil=>exact .nil|cons _ _=>simp at hl
  |cons x xs ih=>
   intro l n hl hn h;cases l with
   |nil=>simp at hl
   |cons ds l=>
    refine .cons (Rp.wk (λ p o e z=>⟨by rw[z],λ e=>by rw[e,hla]at z;have z2:(0:Nat)=n+0:=congrArg Prod.snd z;lia⟩) (h 0 x ds rfl rfl)) (ih l (n+1) (by simpa using hl) (by lia) λ j y es e1 e2=>?_);have z:=h (j+1) y es (by simpa using e1) (by simpa using e2);rw[show n+1+j=n+(j+1)by lia];exact z
 exact go xs l 1 kK (by lia) λ j x ds e1 e2=>by have z:=hin j x ds e1 e2;rw[show 1+j=j+1 by lia];exact z
section
variable{C:Ct}{pos:Pos}
def aFO(K:zAA)(G:Gx)(i:Nat):jH K G (some [0,1,i+2]) (oJ i) (jM i):=by
 intro U Z H Y lab Q R W;unfold jM at W;cases e:Y[i]? with
 |none=>rw[e]at W;exact W.elim
 |some s=>
  rw[e]at W;rcases R.sl i s e with rfl|⟨v,ev,hv⟩
  .exact zAR W
  .cases s with
   |no=>exact zAR W
   |sh d=>exact⟨v,ev,W v H (aV.refl H) (Rp.wk (λ p o e z=>.inr (by show(lab p).1∈[0,1,i+2];rcases(show(lab p).1=0\/(lab p).1=1 by lia)with q|q<;>rw[q]<;>simp)) hv)⟩
   |nw d=>exact⟨v,ev,W v H (aV.refl H) (Rp.wk (λ p o e z=>.inr (by show(lab p).1∈[0,1,i+2];rw[z];simp)) hv)⟩
   |ow d=>exact⟨v,ev,W v H (aV.refl H) (Rp.wk (λ p o e z=>.inr (by show(lab p).1∈[0,1,i+2];rcases z with q|q<;>rw[q]<;>simp)) hv.1)⟩
   |oz d=>exact⟨v,ev,W v H (aV.refl H) (Rp.wk (λ p o e z=>.inr (by show(lab p).1∈[0,1,i+2];rcases(show(lab p).1=0\/(lab p).1=1\/(lab p).1=i+2 by lia)with q|q|q<;>rw[q]<;>simp)) (aMY hv))⟩
   |o2 l=>exact⟨v,ev,W v H (aV.refl H) (Rp.wk (λ p o e z=>.inr (by show(lab p).1∈[0,1,i+2];rw[z];simp)) (aF8 hv))⟩
def aHf(K:zAA)(G:Gx)(i:Nat):jH K G (some [0,1]) (oJ i) (aD i):=by
 intro U Z H Y lab Q R W;unfold aD at W;cases e:Y[i]? with
 |none=>rw[e]at W;exact W.elim
 |some s=>
  rw[e]at W;rcases R.sl i s e with rfl|⟨v,ev,hv⟩
  .exact zAR W
  .cases s with
   |sh d=>exact⟨v,ev,W v H (aV.refl H) (Rp.wk (λ p o e z=>.inr (by show(lab p).1∈[0,1];rcases(show(lab p).1=0\/(lab p).1=1 by lia)with q|q<;>rw[q]<;>simp)) hv)⟩
   |nw d=>exact⟨v,ev,W v H (aV.refl H) (Rp.wk (λ p o e z=>.inr (by show(lab p).1∈[0,1];rw[z];simp)) hv)⟩
   |_=>exact zAR W
def aHh(K:zAA)(G:Gx)(i:Nat):jH K G (some [1]) (oJ i) (gn i):=by
 intro U Z H Y lab Q R W;unfold gn at W;cases e:Y[i]? with
 |none=>rw[e]at W;exact W.elim
 |some s=>
  rw[e]at W;rcases R.sl i s e with rfl|⟨v,ev,hv⟩
  .exact zAR W
  .cases s with
   |nw d=>exact⟨v,ev,W v H (aV.refl H) (Rp.wk (λ p o e z=>.inr (by show(lab p).1∈[1];rw[z];simp)) hv)⟩
   |_=>exact zAR W
def aHg(K:zAA)(G:Gx)(i:Nat):jH K G (some [1,i+2]) (oJ i) (oR i):=by
 intro U Z H Y lab Q R W;unfold oR at W;cases e:Y[i]? with
 |none=>rw[e]at W;exact W.elim
 |some s=>
  rw[e]at W;rcases R.sl i s e with rfl|⟨v,ev,hv⟩
  .exact zAR W
  .cases s with
   |ow d=>exact⟨v,ev,W v H (aV.refl H) (Rp.wk (λ p o e z=>.inr (by show(lab p).1∈[1,i+2];rcases z with q|q<;>rw[q]<;>simp)) hv.1)⟩
   |o2 l=>exact⟨v,ev,W v H (aV.refl H) (Rp.wk (λ p o e z=>.inr (by show(lab p).1∈[1,i+2];rw[z];simp)) (aF8 hv))⟩
   |_=>exact zAR W
def jq(i:Nat)(hN:∀j,(C.X j).N[i]? =some x:=by intro _;rfl)(hv:∀j,Vis (C.X j).env.scope x:=by intro _;first|exact zCf rfl|exact zCC (zCf rfl)|exact zCC (zCC rfl))(hd:Nd x:=by decide)
  (hcd:(x==("__classdict__":Str))=false:=by decide):SE C (some [0,1,i+2]) (.Name x pos) (jM i):=⟨_,λ j=>gD (hN j) (hv j) hd hcd,aFO _ _ i⟩
def aA(i:Nat)(hN:∀j,(C.X j).N[i]? =some x:=by intro _;rfl)(hv:∀j,Vis (C.X j).env.scope x:=by intro _;first|exact zCf rfl|exact zCC (zCf rfl)|exact zCC (zCC rfl))(hd:Nd x:=by decide)
  (hcd:(x==("__classdict__":Str))=false:=by decide):SE C (some [0,1]) (.Name x pos) (aD i):=⟨_,λ j=>gD (hN j) (hv j) hd hcd,aHf _ _ i⟩
def dw(i:Nat)(hN:∀j,(C.X j).N[i]? =some x:=by intro _;rfl)(hv:∀j,Vis (C.X j).env.scope x:=by intro _;first|exact zCf rfl|exact zCC (zCf rfl)|exact zCC (zCC rfl))(hd:Nd x:=by decide)
  (hcd:(x==("__classdict__":Str))=false:=by decide):SE C (some [1]) (.Name x pos) (gn i):=⟨_,λ j=>gD (hN j) (hv j) hd hcd,aHh _ _ i⟩
def nD(i:Nat)(hN:∀j,(C.X j).N[i]? =some x:=by intro _;rfl)(hv:∀j,Vis (C.X j).env.scope x:=by intro _;first|exact zCf rfl|exact zCC (zCf rfl)|exact zCC (zCC rfl))(hd:Nd x:=by decide)
  (hcd:(x==("__classdict__":Str))=false:=by decide):SE C (some [1,i+2]) (.Name x pos) (oR i):=⟨_,λ j=>gD (hN j) (hv j) hd hcd,aHg _ _ i⟩
def aK:SE C (some []) (.Constant (.int i) j pos) (cD (.int i)):=⟨_,λ _=>aER,λ U Z H Y lab Q R W=>W _ H (aV.refl H) (.int i)⟩
def lu:SE C (some []) (.Constant (.bool b) j pos) (cD (.bl b)):=⟨_,λ _=>aI5,λ U Z H Y lab Q R W=>W _ H (aV.refl H) (.bl b)⟩
def ud:SE C (some []) (.Constant .none j pos) (cD .non):=⟨_,λ _=>aNX,λ U Z H Y lab Q R W=>W _ H (aV.refl H) .non⟩
def o7:SE C (some []) (.Constant (.str x) j pos) (cD (.str x)):=⟨_,λ _=>fQ,λ U Z H Y lab Q R W=>W _ H (aV.refl H) (.str x)⟩
def aK6(hm:C.mg x=some u)(r:RelV v u)(hd:∀A H,Rp C.K A H v d)(hdb:Nd x:=by decide)(hg:∀i,Gl (C.X i) x:=by intro _;rfl):SE C (some []) (.Name x pos) (cD d):=
 ⟨_,λ i=>eE (hg i) (by rw[(C.cx i).2.2.2.1];exact hm) r hdb,λ U Z H Y lab Q R W=>W _ H (aV.refl H) (hd _ _)⟩
def nY(d:D):Rs D:=if imm d=true then .ok d else .st
def bJ(f:En->Rs D):En->Rs D:=λ Y=>(f Y).bd nY
def bI(h:SE C m e f):SE C (some []) e (bJ f):=by
 obtain⟨t,h1,h2⟩:=h;refine⟨t,h1,λ U Z H Y lab Q R W=>h2 U Z H Y lab Q R (W.bd.imp λ d _ w v H' s r=>?_)⟩;unfold nY at w;by_cases hd:imm d=true
 .rw[if_pos hd]at w
  exact w v H' s (r.imm hd)
 .rw[if_neg hd]at w
  exact zAR w
def aG:En->Rs (List D):=λ _=>.ok []
def aC(f:En->Rs D)(g:En->Rs (List D)):En->Rs (List D):=λ Y=>(f Y).bd λ d=>(g Y).bd λ ds=>.ok (d::ds)
variable{m m1 m2:Mode}{e a b:Expr}{es:List Expr}{f fa fb:En->Rs D}{g:En->Rs (List D)}
def aF:SA C (some []) [] aG:=⟨_,λ _=>cj,λ U Z H Y lab Q R W=>W _ H (aV.refl H) .nil⟩
def aB(h:SE C m1 e f)(hr:SA C m2 es g)(hs:∀i,zAZ (e::es) (C.X i).env=(false,eval e (C.X i).env)::zAZ es (C.X i).env:=by intro _;rfl):SA C (jn m1 m2) (e::es) (aC f g):=by
 obtain⟨t,h1,h2⟩:=h;obtain⟨u,k1,k2⟩:=hr;refine⟨_,λ i=>ak (h1 i) (k1 i) (hs i),λ U Z H Y lab Q R W=>?_⟩;refine h2 U Z H Y lab _ R (W.bd.imp λ d _ w x H1 s1 r1=>?_);refine k2 U Z H1 Y lab _ (R.up s1) (w.bd.imp λ ds _ w xs H2 s2 r2=>?_);exact w (x::xs) H2 (s1.trans s2) (.cons (r1.mono s2 λ p o _ z=>aM6 z) (r2.wk λ p o _ z=>aM5 (zB s1 z)))
def cH(g:En->Rs (List D)):En->Rs D:=λ Y=>(g Y).bd λ ds=>if ds.length<=zAX then .ok (.tup ds)else .st
def gq(g:En->Rs (List D)):En->Rs D:=λ Y=>(g Y).bd λ ds=>if ds.length<=zAX then .ok (.lst ds)else .st
def bV{x1}(h:SA C m es g):SE C m (.Tuple es x1 pos) (cH g):=by
 obtain⟨t,h1,h2⟩:=h;refine⟨_,λ i=>aKo (h1 i),λ U Z H Y lab Q R W=>h2 U Z H Y lab _ R (W.bd.imp λ ds _ w xs H1 s1 r1=>?_)⟩;by_cases hz:ds.length<=zAX
 .rw[if_pos hz]at w
  exact⟨by rw[r1.length];exact hz,λ p H' s hp _=>w _ H' (s1.trans s) (.tup (SqT.of hp) (r1.up s))⟩
 .rw[if_neg hz]at w
  exact zAR w
def rA(h:SA C m es g):SE C m (.List es pos) (gq g):=by
 obtain⟨t,h1,h2⟩:=h;refine⟨_,λ i=>nQ (h1 i),λ U Z H Y lab Q R W=>h2 U Z H Y lab _ R (W.bd.imp λ ds _ w xs H1 s1 r1=>?_)⟩;by_cases hz:ds.length<=zAX
 .rw[if_pos hz]at w
  exact⟨by rw[r1.length];exact hz,λ p H' s hp hn=>w _ H' (s1.trans s) (.lst hp (.inl (s1.free hn)) ((r1.wk λ q o e z=>⟨z,λ e'=>by subst e';rw[hn]at e;cases e⟩).up s))⟩
 .rw[if_neg hz]at w
  exact zAR w
def aPr(H:Hp)(v:V)(d:D):Prop:=aGi d=true->∃a,v= .ref a/\H a=none
def aOg(K:zAA)(G:Gx)(m:Mode)(t:TE)(f:En->Rs D):Prop:=∀U Z H Y lab (Q:VK),RR K G U Y Z H lab->WR G (f Y) (λ d=>∀v H',aV H H'->Rp K (fpM m lab H) H' v d->aPr H v d->Q v H')->t Z H Q
def SF(C:Ct)(m:Mode)(e:Expr)(f:En->Rs D):Prop:=∃t,(∀i,PE (C.X i) e t)/\aOg C.K C.G m t f
def jH.toF{K:zAA}{G:Gx}{t:TE}{f:En->Rs D}(h:jH K G (some []) t f):aOg K G (some []) t f:=λ U Z H Y lab Q R W=>
 h U Z H Y lab Q R (W.imp λ d _ w v H' s r=>w v H' s r λ hm=>by
  obtain⟨a,rfl⟩:=aND r hm;obtain⟨o,_,_,z⟩:=aHw r hm;rcases z with z|z
  .exact⟨a,rfl,z⟩
  .cases z)
def aPE(h:SE C (some []) e f):SF C (some []) e f:=let⟨t,h1,h2⟩:=h;⟨t,h1,h2.toF⟩
def nC(h:SA C m es g):SF C m (.List es pos) (gq g):=by
 obtain⟨t,h1,h2⟩:=h;refine⟨_,λ i=>nQ (h1 i),λ U Z H Y lab Q R W=>h2 U Z H Y lab _ R (W.bd.imp λ ds _ w xs H1 s1 r1=>?_)⟩;by_cases hz:ds.length<=zAX
 .rw[if_pos hz]at w
  exact⟨by rw[r1.length];exact hz,λ p H' s hp hn=>w _ H' (s1.trans s) (.lst hp (.inl (s1.free hn)) ((r1.wk λ q o e z=>⟨z,λ e'=>by subst e';rw[hn]at e;cases e⟩).up s)) λ _=>⟨p,rfl,s1.free hn⟩⟩
 .rw[if_neg hz]at w
  exact zAR w
def OpS(K:zAA)(r:R2)(fd:D->D->Rs D):Prop:=∀(A:Addr->Prop) x y d e H (Q:VK) z,Rp K A H x d->Rp K A H y e->fd d e= .ok z->(∀v H',aV H H'->Rp K (λ p=>H p=none\/A p) H' v z->Q v H')->r x y H Q
def UnS(K:zAA)(r:V->Hp->VK->Prop)(fd:D->Rs D):Prop:=∀(A:Addr->Prop) x d H (Q:VK) z,Rp K A H x d->fd d= .ok z->(∀v H',aV H H'->Rp K (λ p=>H p=none\/A p) H' v z->Q v H')->r x H Q
def qx(K:zAA)(r:List V->Hp->VK->Prop)(fd:List D->Rs D):Prop:=∀(A:Addr->Prop) xs ds H (Q:VK) z,Rps K A H xs ds->fd ds= .ok z->(∀v H',aV H H'->Rp K (λ p=>H p=none\/A p) H' v z->Q v H')->r xs H Q
def okD(r:Rs D):Rs D:=match r with
 | .ok d=>.ok d
 |_=>.st
def op2(fd:D->D->Rs D)(fa fb:En->Rs D):En->Rs D:=λ Y=>(fa Y).bd λ x=>(fb Y).bd λ y=>okD (fd x y)
def op1(fd:D->Rs D)(fa:En->Rs D):En->Rs D:=λ Y=>(fa Y).bd λ x=>okD (fd x)
def opA(fd:List D->Rs D)(fa:En->Rs (List D)):En->Rs D:=λ Y=>(fa Y).bd λ x=>okD (fd x)
theorem WR.okD(h:WR G (okD r) P):∃z,r= .ok z/\P z:=by
 cases r with
 |ok z=>exact⟨z,rfl,h⟩
 |ex c=>exact zAR h
 |st=>exact zAR h
def aBH{K:zAA}{G:Gx}{r:R2}{ta tb:TE}{fd:D->D->Rs D}(hs:OpS K r fd)(h1:jH K G m1 ta fa)(h2:jH K G m2 tb fb):jH K G (jn m1 m2) (tOp r ta tb) (op2 fd fa fb):=by
 intro U Z H Y lab Q R W;refine h1 U Z H Y lab _ R (W.bd.imp λ d _ w x H1 s1 r1=>?_);refine h2 U Z H1 Y lab _ (R.up s1) (w.bd.imp λ e _ w y H2 s2 r2=>?_);obtain⟨z,ez,w⟩:=w.okD;refine hs (fpM (jn m1 m2) lab H) x y d e H2 Q z (r1.mono s2 λ p o _ q=>aM6 q) (r2.wk λ p o _ q=>aM5 (zB s1 q)) ez λ v H' s r=>w v H' ((s1.trans s2).trans s) (r.wk λ p o _ q=>?_)
 rcases q with q|q
 .exact .inl ((s1.trans s2).free q)
 .exact q
def aKY{K:zAA}{G:Gx}{r:V->Hp->VK->Prop}{ta:TE}{fd:D->Rs D}(hs:UnS K r fd)(h1:jH K G m ta fa):jH K G m (tUn r ta) (op1 fd fa):=by
 intro U Z H Y lab Q R W;refine h1 U Z H Y lab _ R (W.bd.imp λ d _ w x H1 s1 r1=>?_);obtain⟨z,ez,w⟩:=w.okD;refine hs (fpM m lab H) x d H1 Q z r1 ez λ v H' s r=>w v H' (s1.trans s) (r.wk λ p o _ q=>?_)
 rcases q with q|q
 .exact .inl (s1.free q)
 .exact q
def aFP{K:zAA}{G:Gx}{r:List V->Hp->VK->Prop}{ta:TA}{fd:List D->Rs D}(hs:qx K r fd)(h1:aMB K G m ta g):jH K G m (tCB r ta) (opA fd g):=by
 intro U Z H Y lab Q R W;refine h1 U Z H Y lab _ R (W.bd.imp λ d _ w x H1 s1 r1=>?_);obtain⟨z,ez,w⟩:=w.okD;refine hs (fpM m lab H) x d H1 Q z r1 ez λ v H' s r=>w v H' (s1.trans s) (r.wk λ p o _ q=>?_)
 rcases q with q|q
 .exact .inl (s1.free q)
 .exact q
def eO(h:SE C m e f)(hi:∀Y d,f Y= .ok d->imm d=true):SE C (some []) e f:=by
 obtain⟨t,h1,h2⟩:=h;exact⟨t,h1,λ U Z H Y lab Q R W=>h2 U Z H Y lab Q R (W.imp λ d ed w v H' s r=>w v H' s (r.imm (hi Y d ed)))⟩
def jW(h:∀x y z,fd x y= .ok z->imm z=true)(e:op2 fd fa fb Y= .ok d):imm d=true:=by
 obtain⟨x,_,e⟩:=dO e;obtain⟨y,_,e⟩:=dO e;unfold okD at e;split at e
 .rename_i z hz
  cases e;exact h x y _ hz
 .cases e
def aL7(h:∀x z,fd x= .ok z->imm z=true)(e:op1 fd fa Y= .ok d):imm d=true:=by
 obtain⟨x,_,e⟩:=dO e;unfold okD at e;split at e
 .rename_i z hz
  cases e;exact h x _ hz
 .cases e
def nU(h:∀x z,fd x= .ok z->imm z=true)(e:opA fd g Y= .ok d):imm d=true:=by
 obtain⟨x,_,e⟩:=dO e;unfold okD at e;split at e
 .rename_i z hz
  cases e;exact h x _ hz
 .cases e
def aAP(ro:∀i,OpR (C.X i) (zCe op) r)(hs:OpS C.K r fd)(ha:SE C m1 a fa)(hb:SE C m2 b fb):SE C (jn m1 m2) (.BinOp a op b pos) (op2 fd fa fb):=by
 obtain⟨t,h1,h2⟩:=ha;obtain⟨u,k1,k2⟩:=hb;exact⟨_,λ i=>aI1 (ro i) (h1 i) (k1 i),aBH hs h2 k2⟩
def aPF(ro:∀i,UnR (C.X i) (unaryOp op) r)(hs:UnS C.K r fd)(ha:SE C m a fa):SE C m (.UnaryOp op a pos) (op1 fd fa):=by
 obtain⟨t,h1,h2⟩:=ha;exact⟨_,λ i=>aMX (ro i) (h1 i),aKY hs h2⟩
def xZ(ro:∀i,OpR (C.X i) (zAw op) r)(hs:OpS C.K r fd)(ha:SE C m1 a fa)(hb:SE C m2 b fb)(hm:zBm op b=false:=by first|exact aIi _|(with_unfolding_all rfl)):
  SE C (jn m1 m2) (.Compare a [op] [b] pos) (op2 fd fa fb):=by
 obtain⟨t,h1,h2⟩:=ha;obtain⟨u,k1,k2⟩:=hb;exact⟨_,λ i=>aKq (ro i) (h1 i) (k1 i) hm,aBH hs h2 k2⟩
variable{p:Pos}{x:Str}{id T:String}
def lr(ro:∀i,cg (C.X i) (.builtin id) r)(hs:qx C.K r fd)(hg:∀i,Gl (C.X i) x)(hm:C.mg x=none)(hv:zAt x=some (.builtin id))(ha:SA C m (e::es) g)
  (hn:x≠"__name__":=by decide)(hdb:Nd x:=by decide)(he:∀i,zAZ (e::es) (C.X i).env=(false,eval e (C.X i).env)::zAZ es (C.X i).env:=by intro _;rfl)
  (hpl:∀i,(zCo pos (zAZ es (C.X i).env)).any (·.1)=false:=by intro _;rfl):SE C m (.Call (.Name x p) (e::es) [] pos) (opA fd g):=by
 obtain⟨t,h1,h2⟩:=ha;exact⟨_,λ i=>mD (ro i) (hg i) (by rw[(C.cx i).2.2.2.1];exact hm) hv (h1 i) hn hdb (he i) (hpl i),aFP hs h2⟩
def xf(ro:∀i,cg (C.X i) (.type T) r)(hs:qx C.K r fd)(hg:∀i,Gl (C.X i) x)(hm:C.mg x=none)(hv:zAt x=some (.type T))(ha:SA C m (e::es) g)
  (hn:x≠"__name__":=by decide)(hdb:Nd x:=by decide)(he:∀i,zAZ (e::es) (C.X i).env=(false,eval e (C.X i).env)::zAZ es (C.X i).env:=by intro _;rfl)
  (hpl:∀i,(zCo pos (zAZ es (C.X i).env)).any (·.1)=false:=by intro _;rfl):SE C m (.Call (.Name x p) (e::es) [] pos) (opA fd g):=by
 obtain⟨t,h1,h2⟩:=ha;exact⟨_,λ i=>mC (ro i) (hg i) (by rw[(C.cx i).2.2.2.1];exact hm) hv (h1 i) hn hdb (he i) (hpl i),aFP hs h2⟩
def z9(f g:En->Rs D):En->Rs D:=λ Y=>(f Y).bd λ d=>match d with
 | .bl true=>g Y
 | .bl false=>.ok (.bl false)
 |_=>.st
def aNs:D->Rs D
 | .bl b=>.ok (.bl (!b))
 |_=>.st
variable{rest:List Expr}
def o9{op}(h:SE C m a fa):SE C m (.BoolOp op [a] pos) fa:=by
 obtain⟨t,h1,h2⟩:=h;exact⟨_,λ i=>aNV (h1 i),h2⟩
def nF(ha:SE C m1 a fa)(hb:SE C m2 (.BoolOp .And (b::rest) pos) fb):SE C m2 (.BoolOp .And (a::b::rest) pos) (z9 fa fb):=by
 obtain⟨t,h1,h2⟩:=ha;obtain⟨u,k1,k2⟩:=hb;refine⟨_,λ i=>aN0 (h1 i) (k1 i),λ U Z H Y lab Q R W=>h2 U Z H Y lab _ R (W.bd.imp λ d _ w x H1 s1 r1=>?_)⟩;cases r1 with
 |bl c=>
  refine⟨c,rfl,?_⟩;cases c with
  |true=>
   rw[if_pos rfl];exact k2 U Z H1 Y lab Q (R.up s1) (w.imp λ z _ w v H' s r=>w v H' (s1.trans s) (r.wk λ p o _ q=>zB s1 q))
  |false=>
   rw[if_neg zAO];exact w _ H1 s1 (.bl false)
 |_=>exact zAR w
def aMz(ha:SE C m a fa):SE C (some []) (.UnaryOp .Not a pos) (op1 aNs fa):=by
 obtain⟨t,h1,h2⟩:=ha;refine⟨_,λ i=>aNW (h1 i),λ U Z H Y lab Q R W=>h2 U Z H Y lab _ R (W.bd.imp λ d _ w x H1 s1 r1=>?_)⟩;obtain⟨z,ez,w⟩:=w.okD;cases r1 with
 |bl c=>cases ez;exact⟨c,rfl,w _ H1 s1 (.bl _)⟩
 |_=>cases ez
def chD(fd fd':D->D->Rs D)(fa fb fc:En->Rs D):En->Rs D:=λ Y=>(fa Y).bd λ x=>(fb Y).bd λ y=>(okD (fd x y)).bd λ z=>match z with
 | .bl true=>(fc Y).bd λ w=>okD (fd' y w)
 | .bl false=>.ok (.bl false)
 |_=>.st
def aGW{K:zAA}{G:Gx}{r r':R2}{ta tb tc:TE}{fd fd':D->D->Rs D}{fc:En->Rs D}{m3:Mode}(hs:OpS K r fd)(hs':OpS K r' fd')(hi:∀x y z,fd' x y= .ok z->imm z=true)(h1:jH K G m1 ta fa)(h2:jH K G m2 tb fb)(h3:jH K G m3 tc fc):
  jH K G (some []) (aHd r r' ta tb tc) (chD fd fd' fa fb fc):=by
 intro U Z H Y lab Q R W;refine h1 U Z H Y lab _ R (W.bd.imp λ d _ w x H1 s1 r1=>?_);refine h2 U Z H1 Y lab _ (R.up s1) (w.bd.imp λ e _ w y H2 s2 r2=>?_);obtain⟨z,ez,w⟩:=w.bd.okD;refine hs (λ _=>True) x y d e H2 _ z (r1.mono s2 λ p o _ q=>trivial) (r2.wk λ p o _ q=>trivial) ez λ v H3 s3 r3=>?_
 cases r3 with
 |bl c=>
  refine⟨c,rfl,?_⟩;cases c with
  |false=>
   rw[if_neg zAO];exact w _ H3 ((s1.trans s2).trans s3) (.bl false)
  |true=>
   rw[if_pos rfl];refine h3 U Z H3 Y lab _ ((R.up s1).up (s2.trans s3)) (w.bd.imp λ e' _ w y' H4 s4 r4=>?_);obtain⟨z',ez',w⟩:=w.okD;exact hs' (λ _=>True) y y' e e' H4 Q z' (r2.mono (s3.trans s4) λ p o _ q=>trivial) (r4.wk λ p o _ q=>trivial) ez' λ v H5 s5 r5=>w v H5 ((((s1.trans s2).trans s3).trans s4).trans s5) (r5.imm (hi _ _ _ ez'))
 |_=>exact zAR w
def aCX(ro:∀i,OpR (C.X i) (zAw op) r)(hs:OpS C.K r fd)(ro':∀i,OpR (C.X i) (zAw op') r')(hs':OpS C.K r' fd')(hi:∀x y z,fd' x y= .ok z->imm z=true)
  (ha:SE C m1 a fa)(hb:SE C m2 b fb)(hc:SE C m3 c fc)(hm:zIh [op,op'] [b,c]=false:=by with_unfolding_all rfl):SE C (some []) (.Compare a [op,op'] [b,c] pos) (chD fd fd' fa fb fc):=by
 obtain⟨t,h1,h2⟩:=ha;obtain⟨u,k1,k2⟩:=hb;obtain⟨v,l1,l2⟩:=hc;exact⟨_,λ i=>aI3 (ro i) (ro' i) (h1 i) (k1 i) (l1 i) hm,aGW hs hs' hi h2 k2 l2⟩
def aGQ:D->Rs Bool
 | .non=>.ok false
 | .bl b=>.ok b
 | .int i=>.ok (i !=0)
 | .tup l=>.ok (!l.isEmpty)
 | .lst l=>.ok (!l.isEmpty)
 |_=>.st
def blD:D->Rs Bool
 | .bl b=>.ok b
 |_=>.st
def tst(f:En->Rs D):En->Rs Bool:=λ Y=>(f Y).bd aGQ
def tsb(f:En->Rs D):En->Rs Bool:=λ Y=>(f Y).bd blD
def yt{K:zAA}{A:Addr->Prop}{H:Hp}{xs:List V}{ds:List D}(r:Rps K A H xs ds):(!ds.isEmpty)= !xs.isEmpty:=by cases r<;>rfl
def gB(ha:SE C m a fa)(he:∀i whole,isTrue a (C.X i).env whole=(do let v <-whole;zG5 a.pos;zCn [v] (truthy v)):=by intro _ _;rfl):ST C a (tst fa):=by
 obtain⟨t,h1,h2⟩:=ha;refine⟨λ Z H Q=>t Z H λ x H'=>∃k,aOf C.K x H' k/\Q k H',λ i=>by rw[<-C.hK i];exact aIM (h1 i) (he i),λ U Z H Y lab Q R W=>h2 U Z H Y lab _ R (W.bd.imp λ d _ w x H1 s1 r1=>?_)⟩;cases r1 with
 |non=>exact⟨false,rfl,w H1 s1⟩
 |bl b=>exact⟨b,rfl,w H1 s1⟩
 |int i=>exact⟨i !=0,rfl,w H1 s1⟩
 |tup h r=>exact⟨_,.inr (.inl ⟨_,h,rfl⟩),by rw[<-yt r];exact w H1 s1⟩
 |lst h m r=>exact⟨_,.inl ⟨_,SqL.of h,rfl⟩,by rw[<-yt r];exact w H1 s1⟩
 |_=>exact zAR w
def aKW{K:zAA}{G:Gx}{t:TE}{f:En->Rs D}(h:jH K G m t f):aFF K G (aML t) (tsb f):=λ U Z H Y lab Q R W=>h U Z H Y lab _ R (W.bd.imp λ d _ w x H1 s1 r1=>by
 cases r1 with
 |bl b=>exact⟨b,rfl,w H1 s1⟩
 |_=>exact zAR w)
def lQ(ro:∀i,OpR (C.X i) (zAw op) r)(hs:OpS C.K r fd)(ha:SE C m1 a fa)(hb:SE C m2 b fb)(hm:zBm op b=false:=by first|exact aIi _|(with_unfolding_all rfl)):
  ST C (.Compare a [op] [b] pos) (tsb (op2 fd fa fb)):=by
 obtain⟨t,h1,h2⟩:=ha;obtain⟨u,k1,k2⟩:=hb;exact⟨_,λ i=>aKj (ro i) (h1 i) (k1 i) hm,aKW (aBH hs h2 k2)⟩
variable{ga gb:En->Rs Bool}
def aOb(f g:En->Rs Bool):En->Rs Bool:=λ Y=>(f Y).bd λ k=>if k=true then g Y else .ok false
def orT(f g:En->Rs Bool):En->Rs Bool:=λ Y=>(f Y).bd λ k=>if k=true then .ok true else g Y
def lX(f:En->Rs Bool):En->Rs Bool:=λ Y=>(f Y).bd λ k=>.ok (!k)
def aKQ(ha:ST C a ga):SW C (.BoolOp .And [a] pos) ga:=let⟨t,h1,h2⟩:=ha;⟨t,λ i=>aKi (h1 i),h2⟩
def xR(ha:ST C a ga):SW C (.BoolOp .Or [a] pos) ga:=let⟨t,h1,h2⟩:=ha;⟨t,λ i=>aII (h1 i),h2⟩
def aMr(ha:ST C a ga)(hb:SW C (.BoolOp .And (b::rest) pos) gb):SW C (.BoolOp .And (a::b::rest) pos) (aOb ga gb):=by
 obtain⟨t,h1,h2⟩:=ha;obtain⟨u,k1,k2⟩:=hb;refine⟨_,λ i=>aNJ (h1 i) (k1 i),λ U Z H Y lab Q R W=>h2 U Z H Y lab _ R (W.bd.imp λ k _ w H1 s1=>?_)⟩;cases k with
 |true=>
  rw[if_pos rfl]at w ⊢;exact k2 U Z H1 Y lab Q (R.up s1) (w.imp λ z _ w H' s=>w H' (s1.trans s))
 |false=>
  rw[if_neg zAO]at w ⊢;exact w H1 s1
def aCQ(ha:ST C a ga)(hb:SW C (.BoolOp .Or (b::rest) pos) gb):SW C (.BoolOp .Or (a::b::rest) pos) (orT ga gb):=by
 obtain⟨t,h1,h2⟩:=ha;obtain⟨u,k1,k2⟩:=hb;refine⟨_,λ i=>aMW (h1 i) (k1 i),λ U Z H Y lab Q R W=>h2 U Z H Y lab _ R (W.bd.imp λ k _ w H1 s1=>?_)⟩;cases k with
 |false=>
  rw[if_neg zAO]at w ⊢;exact k2 U Z H1 Y lab Q (R.up s1) (w.imp λ z _ w H' s=>w H' (s1.trans s))
 |true=>
  rw[if_pos rfl]at w ⊢;exact w H1 s1
def jk(ha:ST C a ga):ST C (.UnaryOp .Not a pos) (lX ga):=by
 obtain⟨t,h1,h2⟩:=ha;exact⟨_,λ i=>aEN (h1 i),λ U Z H Y lab Q R W=>h2 U Z H Y lab _ R (W.bd.imp λ k _ w H1 s1=>w H1 s1)⟩
end
inductive Ou where
 |nx (Y:En)|rt (d:D)|bk (Y:En)|ct (Y:En)|ex (c:Str)|st
noncomputable def Rs.bo{α:Type}:Rs α->(α->Ou)->Ou
 | .ok a,f=>f a
 | .ex c,_=>.ex c
 | .st,_=>.st
@[simp] def bF(a:α)(f:α->Ou):(Rs.ok a).bo f=f a:=aO rfl
@[simp] def bo_ex(c:Str)(f:α->Ou):(Rs.ex c:Rs α).bo f= .ex c:=aO rfl
noncomputable def Ou.sq:Ou->(En->Ou)->Ou
 | .nx Y,f=>f Y
 |o,_=>o
@[simp] def aa(Y:En)(f:En->Ou):(Ou.nx Y).sq f=f Y:=aO rfl
@[simp] def sq_rt(d:D)(f:En->Ou):(Ou.rt d).sq f= .rt d:=aO rfl
@[simp] def sq_ex(c:Str)(f:En->Ou):(Ou.ex c).sq f= .ex c:=aO rfl
def WS(K:zAA)(G:Gx)(U:List (V×D))(o:Ou)(De:Ends):Prop:=match o with
 | .nx Y=>∀Z H lab,RR K G U Y Z H lab->De.nx Z H
 | .bk Y=>∀Z H lab,RR K G U Y Z H lab->De.bk Z H
 | .ct Y=>∀Z H lab,RR K G U Y Z H lab->De.ct Z H
 | .rt d=>∀v H,aV G.H0 H->Rp K (λ p=>G.H0 p=none) H v d->De.rt v H
 | .ex c=>∀H',aV G.H0 H'->G.E (.ref (G.cl c)) none H'
 | .st=>False
theorem WS.bo{K:zAA}(h:WS K G U (r.bo k) De):WR G r (λ a=>WS K G U (k a) De):=by
 cases r with
 |ok a=>exact h
 |ex c=>exact h
 |st=>exact h
def aPk(K:zAA)(G:Gx)(t:TS)(f:En->Ou):Prop:=∀U Z H Y lab (De:Ends),RR K G U Y Z H lab->WS K G U (f Y) De->t De Z H
def SS(C:Ct)(s:Stmt)(f:En->Ou):Prop:=∃t,(∀i,PS (C.X i) s t)/\aPk C.K C.G t f
def SSs(C:Ct)(s:List Stmt)(f:En->Ou):Prop:=∃t,(∀i,PSs (C.X i) s t)/\aPk C.K C.G t f
section
variable{C:Ct}{pos:Pos}{s:Stmt}{ss:List Stmt}{f g:En->Ou}{e:Expr}{m:Mode}{fe:En->Rs D}
def bh:SSs C [] .nx:=⟨_,λ _=>aBY,λ U Z H Y lab De R W=>W Z H lab R⟩
def aj(f g:En->Ou):En->Ou:=λ Y=>(f Y).sq g
def aM(h:SS C s f):SSs C [s] f:=let⟨t,h1,h2⟩:=h;⟨t,λ i=>nM (h1 i),h2⟩
def aH(h:SS C s f)(k:SSs C ss g):SSs C (s::ss) (aj f g):=by
 obtain⟨t,h1,h2⟩:=h;obtain⟨u,k1,k2⟩:=k;refine⟨_,λ i=>fX (h1 i) (k1 i),λ U Z H Y lab De R W=>h2 U Z H Y lab _ R ?_⟩;unfold aj at W;cases h:f Y with
 |nx Y'=>rw[h]at W;exact λ Z' H' lab' R'=>k2 U Z' H' Y' lab' De R' W
 |rt d=>rw[h]at W;exact W
 |bk Y'=>rw[h]at W;exact W
 |ct Y'=>rw[h]at W;exact W
 |ex c=>rw[h]at W;exact W
 |st=>rw[h]at W;exact W
def frz(i:Nat)(Y:En):En:=match Y[i]? with
 |some (.ow d)=>Y.set i (.nw d)
 |some (.o2 l)=>Y.set i (.nw (.lst (l.map .lst)))
 |_=>Y
def aP0:Mode->Bool
 |some L=>L.all (·!=0)
 |none=>false
def retS(fe:En->Rs D):En->Ou:=λ Y=>(fe Y).bo .rt
def bH(he:SE C m e fe)(hm:aP0 m=true:=by rfl):SS C (.Return (some e) pos) (retS fe):=by
 obtain⟨t,h1,h2⟩:=he;refine⟨_,λ i=>yG (h1 i),λ U Z H Y lab De R W=>h2 U Z H Y lab _ R (W.bo.imp λ d _ w v H' s r=>w v H' (R.old.trans s) (r.wk λ p o _ z=>?_))⟩;rcases z with z|z
 .exact R.old.free z
 .cases m with
  |none=>cases hm
  |some L=>
   refine R.new p λ e0=>?_
   have:=zA8.mp hm _ z
   rw[e0]at this;simp at this
def pX(fe:En->Rs D):En->Ou:=λ Y=>(fe Y).bo λ _=>.nx Y
def aBF(he:SE C m e fe)(hs:∀i,zCp e none pos.line (C.X i).env=pure false:=by intro _;rfl):SS C (.Expr e pos) (pX fe):=by
 obtain⟨t,h1,h2⟩:=he;exact⟨_,λ i=>qJ (h1 i) (hs i),λ U Z H Y lab De R W=>h2 U Z H Y lab _ R (W.bo.imp λ d _ w v H' s r=>w Z H' lab (R.up s))⟩
def ifS(c:En->Rs Bool)(f g:En->Ou):En->Ou:=λ Y=>(c Y).bo λ k=>if k=true then f Y else g Y
def dU{a b:List Stmt}(hc:ST C c fc)(ha:SSs C a f)(hb:SSs C b g):SS C (.If c a b pos) (ifS fc f g):=by
 obtain⟨tc,c1,c2⟩:=hc;obtain⟨t,h1,h2⟩:=ha;obtain⟨u,k1,k2⟩:=hb;refine⟨_,λ i=>aIS (c1 i) (h1 i) (k1 i),λ U Z H Y lab De R W=>c2 U Z H Y lab _ R (W.bo.imp λ k _ w H1 s1=>?_)⟩;cases k with
 |true=>rw[if_pos rfl]at w ⊢;exact h2 U Z H1 Y lab De (R.up s1) w
 |false=>rw[if_neg zAO]at w ⊢;exact k2 U Z H1 Y lab De (R.up s1) w
def SV(C:Ct)(i:Nat)(s:Stmt)(m:Mode)(f:En->Rs D):Prop:=∃t,(∀j,PS (C.X j) s (aBD t (oA i)))/\jH C.K C.G m t f
def gA(he:SE C m e fe)(hN:∀j,(C.X j).N[i]? =some x:=by intro _;rfl)(hx:∀j,Loc (C.X j).env.scope x:=by intro _;first|exact zCf rfl|exact zCC rfl)(hs:∀j,zCp e (some (.Name x pos')) pos.line (C.X j).env=pure false:=by intro _;rfl)(hf:∀j,(C.X j).fn x=true\/(C.X j).env.scope.names.lookup x=some .local:=by intro _;first|exact .inl rfl|exact .inr rfl)(nd:∀j,(C.X j).N.Nodup:=by intro _;assumption):
  SV C i (.Assign [.Name x pos'] e pos) m fe:=by
 obtain⟨t,h1,h2⟩:=he;exact⟨t,λ j=>nO (nd j) (hN j) (hx j) (h1 j) (hs j) (hf j),h2⟩
def SVF(C:Ct)(i:Nat)(s:Stmt)(m:Mode)(f:En->Rs D):Prop:=∃t,(∀j,PS (C.X j) s (aBD t (oA i)))/\aOg C.K C.G m t f
def oW(he:SF C m e fe)(hN:∀j,(C.X j).N[i]? =some x:=by intro _;rfl)(hx:∀j,Loc (C.X j).env.scope x:=by intro _;first|exact zCf rfl|exact zCC rfl)(hs:∀j,zCp e (some (.Name x pos')) pos.line (C.X j).env=pure false:=by intro _;rfl)(hf:∀j,(C.X j).fn x=true\/(C.X j).env.scope.names.lookup x=some .local:=by intro _;first|exact .inl rfl|exact .inr rfl)(nd:∀j,(C.X j).N.Nodup:=by intro _;assumption):
  SVF C i (.Assign [.Name x pos'] e pos) m fe:=by
 obtain⟨t,h1,h2⟩:=he;exact⟨t,λ j=>nO (nd j) (hN j) (hx j) (h1 j) (hs j) (hf j),h2⟩
def aF7(P:Nat->Bool):Mode->Bool
 |some L=>L.all P
 |none=>false
def qL(h:aF7 P m=true):∀k,inM m k->P k=true:=by
 intro k hk;cases m with
 |none=>cases h
 |some L=>exact zA8.mp h k hk
abbrev okS:Mode->Bool:=aF7 λ k=>decide (k<=1)
abbrev okN:Mode->Bool:=aF7 λ k=>k==1
abbrev okO(i:Nat):Mode->Bool:=aF7 λ k=>k==1||k==i+2
def cP(i:Nat)(fe:En->Rs D):En->Ou:=λ Y=>(fe Y).bo λ d=>.nx (Y.set i (.sh d))
def uc(i:Nat)(fe:En->Rs D):En->Ou:=λ Y=>(fe Y).bo λ d=>.nx (Y.set i (.nw d))
def jT(i:Nat)(fe:En->Rs D):En->Ou:=λ Y=>(fe Y).bo λ d=>.nx (Y.set i (.ow d))
def RR.shared{K:zAA}(hm:okS m=true)(R:RR K G U Y Z H lab)(s:aV H H')(r:Rp K (fpM m lab H) H' v d):
  RR K G U Y Z H' (cT H 1 lab)/\Rp K (λ p=>(cT H 1 lab p).1<=1) H' v d:=R.fresh (P:=λ k=>k<=1) (by decide) (λ k hk=>of_decide_eq_true (qL hm k hk)) s r
def bL{i:Nat}(h:SV C i s m fe)(hm:okS m=true:=by rfl):SS C s (cP i fe):=by
 obtain⟨t,h1,h2⟩:=h;refine⟨_,h1,λ U Z H Y lab De R W=>h2 U Z H Y lab _ R (W.bo.imp λ d _ w v H' s r=>?_)⟩;obtain⟨R',r'⟩:=R.shared hm s r;exact w _ _ _ (R'.put (s:=.sh d) r')
def mj(h:SV C i s m fe)(hm:okN m=true:=by rfl):SS C s (uc i fe):=by
 obtain⟨t,h1,h2⟩:=h;refine⟨_,h1,λ U Z H Y lab De R W=>h2 U Z H Y lab _ R (W.bo.imp λ d _ w v H' s r=>?_)⟩;obtain⟨R',r'⟩:=R.fresh (P:=λ k=>k=1) rfl (λ k hk=>beq_iff_eq.mp (qL hm k hk)) s r;exact w _ _ _ (R'.put (s:=.nw d) r')
def gr(h:SVF C i s m fe)(hm:okO i m=true:=by rfl):SS C s (jT i fe):=by
 obtain⟨t,h1,h2⟩:=h;refine⟨_,h1,λ U Z H Y lab De R W=>h2 U Z H Y lab _ R (W.bo.imp λ d _ w v H' s r ht=>?_)⟩;obtain⟨lab',R',r'⟩:=R.freshO i (λ k hk=>by have:=qL hm k hk;simpa using this) s r ht;exact w _ _ _ (R'.put (s:=.ow d) r')
def aMA(K:zAA)(G:Gx)(g:TG)(fg:D->En->Rs En):Prop:=∀U v d Z H Y lab (Q:L2.St->Hp->Prop) Y',RR K G U Y Z H lab->Rp K (λ p=>(lab p).1<=1) H v d->fg d Y= .ok Y'->(∀Z',RR K G U Y' Z' H lab->Q Z' H)->g v Z H Q
def aPl(K:zAA)(G:Gx)(g:TGs)(fg:List D->En->Rs En):Prop:=∀U vs ds Z H Y lab (Q:L2.St->Hp->Prop) Y',RR K G U Y Z H lab->Rps K (λ p=>(lab p).1<=1) H vs ds->fg ds Y= .ok Y'->(∀Z',RR K G U Y' Z' H lab->Q Z' H)->g vs Z H Q
def SG(C:Ct)(tg:Expr)(ks:List Nat)(fg:D->En->Rs En):Prop:=∃g,(∀i,PG (C.X i) tg g)/\aMA C.K C.G g fg/\uR g ks/\aDg g
def SGs(C:Ct)(tg:List Expr)(ks:List Nat)(fg:List D->En->Rs En):Prop:=∃g,(∀i,PGs (C.X i) tg g)/\aPl C.K C.G g fg/\zc g ks/\vQ g
def gnm(i:Nat):D->En->Rs En:=λ d Y=>.ok (Y.set i (.sh d))
def gH:List D->En->Rs En:=λ ds Y=>match ds with
 |[]=>.ok Y
 |_=>.st
def bB(f:D->En->Rs En)(g:List D->En->Rs En):List D->En->Rs En:=λ ds Y=>match ds with
 |d::r=>(f d Y).bd (g r)
 |_=>.st
def fY(n:Nat)(g:List D->En->Rs En):D->En->Rs En:=λ d Y=>match d with
 | .tup ds=>if ds.length=n then g ds Y else .st
 |_=>.st
variable{ks:List Nat}{fg:D->En->Rs En}{fgs:List D->En->Rs En}{tg:Expr}{tgs:List Expr}
def bR(hN:∀j,(C.X j).N[i]? =some x:=by intro _;rfl)(hx:∀j,Loc (C.X j).env.scope x:=by intro _;first|exact zCf rfl|exact zCC rfl)(hf:∀j,(C.X j).fn x=true\/(C.X j).env.scope.names.lookup x=some .local:=by intro _;first|exact .inl rfl|exact .inr rfl)(nd:∀j,(C.X j).N.Nodup:=by intro _;assumption)(hk:i∈ks:=by decide):SG C (.Name x pos) ks (gnm i):=
 ⟨_,λ j=>aKn (nd j) (hN j) (hx j) (hf j),λ U v d Z H Y lab Q Y' R r e q=>by cases e;exact q _ (R.put (s:=.sh d) r),aLe hk,aLg⟩
def qF:SGs C [] ks gH:=by
 refine⟨_,λ _=>aKm,λ U vs ds Z H Y lab Q Y' R r e q=>?_,aLd,aLf⟩;cases r with
 |nil=>cases e;exact⟨rfl,q _ R⟩
 |cons _ _=>cases e
def dh(h:SG C tg ks fg)(k:SGs C tgs ks fgs)(hs:∀i,(zCq (tg::tgs) (C.X i).env).map (·.2)=zDx tg (C.X i).env::(zCq tgs (C.X i).env).map (·.2):=by intro _;rfl):SGs C (tg::tgs) ks (bB fg fgs):=by
 obtain⟨g,h1,h2,h3,h4⟩:=h;obtain⟨u,k1,k2,k3,k4⟩:=k;refine⟨_,λ i=>aIY (h1 i) (k1 i) (hs i),λ U vs ds Z H Y lab Q Y' R r e q=>?_,aJX h3 h4 k3 k4,aJ1 h4 k4⟩;cases r with
 |nil=>cases e
 |cons h r=>
  obtain⟨Y1,e1,e2⟩:=dO e;exact⟨_,_,rfl,h2 U _ _ Z H Y lab _ Y1 R h e1 λ Z1 R1=>k2 U _ _ Z1 H Y1 lab Q Y' R1 r e2 q⟩
def u9(h:SGs C tgs ks fgs)(hn:∀i,(zCq tgs (C.X i).env).length=n:=by intro _;rfl)(hst:∀i,(zCq tgs (C.X i).env).findIdx? (·.1)=none:=by intro _;rfl):SG C (.Tuple tgs k pos) ks (fY n fgs):=by
 obtain⟨u,k1,k2,k3,k4⟩:=h;refine⟨aLh C.K n u,λ i=>by rw[<-C.hK i];exact aNQ (C.calm i) (k1 i) (hn i) (hst i),λ U v d Z H Y lab Q Y' R r e q=>?_,aOT k3,aOU k4⟩;cases r with
 |tup h r=>
  unfold fY at e;dsimp only at e;split at e
  .rename_i hl
   exact⟨_,_,rfl,h,by rw[r.length];exact hl,k2 U _ _ Z H Y lab Q Y' R r e q⟩
  .cases e
 |_=>cases e
def aJv(fe:En->Rs D)(fg:D->En->Rs En):En->Ou:=λ Y=>(fe Y).bo λ d=>match fg d Y with
 | .ok Y'=>.nx Y'
 |_=>.st
def aMt(he:SE C m e fe)(hg:SG C tg ks fg)(hm:okS m=true:=by rfl)(hs:∀i,zIG [tg] e pos.line (C.X i).env=pure false:=by intro _;rfl)(hw:∀i,zIF [tg] e (C.X i).env=pure none:=by intro _;rfl)
  (h1:∀i,(zCq [tg] (C.X i).env).map (·.2)=[zDx tg (C.X i).env]:=by intro _;rfl):SS C (.Assign [tg] e pos) (aJv fe fg):=by
 obtain⟨t,p1,p2⟩:=he;obtain⟨g,q1,q2,_,_⟩:=hg;refine⟨_,λ i=>aIT (p1 i) (q1 i) (hs i) (hw i) (h1 i),λ U Z H Y lab De R W=>p2 U Z H Y lab _ R (W.bo.imp λ d _ w v H' s r=>?_)⟩;obtain⟨R',r'⟩:=R.shared hm s r;cases hgd:fg d Y with
 |ok Y'=>rw[hgd]at w;exact q2 U v d Z H' Y _ _ Y' R' r' hgd λ Z' R2=>w Z' H' _ R2
 |ex c=>rw[hgd]at w;exact zAR w
 |st=>rw[hgd]at w;exact zAR w
def JL(K:zAA)(lab:Lab)(J:It)(H:Hp)(ds:List D):Prop:=∀i,(ds.length<=i->J.stop i H)/\(i<ds.length->J.go i H/\∀x H',J.yld i H x H'->aV H H'/\∃d,ds[i]? =some d/\Rp K (λ p=>(lab p).1<=1) H' x d)
def aLz(K:zAA)(G:Gx)(wi:TI)(f:En->Rs (List D)):Prop:=∀U Z H Y lab (Rr:It->Hp->Prop),RR K G U Y Z H lab->
 WR G (f Y) (λ ds=>∀J H1 lab1 U1,aV H H1->(∀p o,H p=some o->lab1 p=lab p)->RR K G (U1++U) Y Z H1 lab1->(∀lab' H',(∀q∈U1,Rp K (λ p=>(lab' p).1<=1) H' q.1 q.2)->JL K lab' J H' ds)->Rr J H1)->wi Z H Rr
def SI(C:Ct)(tg iter:Expr)(f:En->Rs (List D)):Prop:=∃wi,(∀i,PI (C.X i) tg iter wi)/\aLz C.K C.G wi f
def aPa(K:zAA)(tl:TE):TI:=λ Z H R=>tl Z H λ x H1=>∃a,x= .ref a/\(((∃xs,SqL K H1 a xs)/\R (Itl K a) H1)\/((∃xs,SqT K H1 a xs)/\R (Itt K a) H1))
def aNP(hl:PE X l tl):PI X tg l (aPa X.K tl):=by
 intro kX s Z H R I h;refine thn (hl kX s Z H _ I h) λ v s1 ⟨x,H1,I1,r1,a,e,q1⟩=>?_
 subst e;cases r1;have hp:∀b∈[s1.heap.objs.size],sI X kX H1 b:=λ b hb=>by
  have e:b=s1.heap.objs.size:=by simpa using hb
  rw[e];exact I1.fpOk (zAQ _) (I1.hok.fresh (zAQ _))
 rcases q1 with ⟨⟨xs,hq⟩,q⟩|⟨⟨xs,hq⟩,q⟩
 .obtain⟨its,rv,p,hz⟩:=I1.list hq
  refine zDg p.isList ?_;exact⟨_,_,_,_,H1,rfl,I1.kept (t':=s1.toks) λ b o e=>zAC _ e,aGN a _,⟨_,zAL _ rfl,rfl,rfl⟩,hp,q⟩
 .obtain⟨its,rv,p,hz⟩:=I1.tuple hq
  refine zD5 (show s1.heap.IsTuple a its.toArray from p) ?_;exact⟨_,_,_,_,H1,rfl,I1.kept (t':=s1.toks) λ b o e=>zAC _ e,aDl a _,⟨_,zAL _ rfl,rfl,rfl⟩,hp,q⟩
def itD:D->Rs (List D)
 | .tup l=>.ok l
 | .lst l=>.ok l
 | .scr l=>.ok (l.map .int)
 |_=>.st
def cF(fe:En->Rs D):En->Rs (List D):=λ Y=>(fe Y).bd itD
def aFm{K:zAA}(h:SqL K H a xs)(r:Rps K (λ p=>(lab p).1<=1) H xs ds):JL K lab (Itl K a) H ds:=by
 have hl:=r.length;refine λ i=>⟨λ hi=>⟨xs,h,by lia⟩,λ hi=>⟨⟨xs,xs[i]'(by lia),h,by simp[hl,hi]⟩,λ x H' y=>?_⟩⟩
 obtain⟨e,y⟩:=y;subst e;obtain⟨d,h1,h2⟩:=r.get (y xs h);exact⟨aV.refl _,d,h1,h2⟩
def aOH{K:zAA}(h:SqT K H a xs)(r:Rps K (λ p=>(lab p).1<=1) H xs ds):JL K lab (Itt K a) H ds:=by
 have hl:=r.length;refine λ i=>⟨λ hi=>⟨xs,h,by lia⟩,λ hi=>⟨⟨xs,xs[i]'(by lia),h,by simp[hl,hi]⟩,λ x H' y=>?_⟩⟩
 obtain⟨e,y⟩:=y;subst e;obtain⟨d,h1,h2⟩:=r.get (y xs h);exact⟨aV.refl _,d,h1,h2⟩
def cI(he:SE C m e fe)(hm:okS m=true:=by rfl):SI C tg e (cF fe):=by
 obtain⟨t,p1,p2⟩:=he;refine⟨aPa C.K t,λ i=>by rw[<-C.hK i];exact aNP (p1 i),λ U Z H Y lab Rr R W=>p2 U Z H Y lab _ R (W.bd.imp λ d _ w v H1 s r=>?_)⟩;obtain⟨R',r'⟩:=R.shared hm s r;cases d with
 |tup l=>
  cases r' with
  |tup h q=>
   rename_i a xs;refine⟨_,rfl,.inr ⟨⟨_,h⟩,w _ H1 _ [(.ref a,.tup l)] s (λ p o e=>bj e) ⟨R'.len,R'.sl,R'.old,R'.new,λ z hz=>?_⟩ λ lab' H' hq=>?_⟩⟩
   .rcases zAJ.mp hz with rfl|hz
    .exact .tup h q
    .exact R'.tm z hz
   .have z:=hq _ (zAE ..)
    cases z with
    |tup h' q'=>exact aOH h' q'
 |lst l=>
  cases r' with
  |lst h mm q=>
   rename_i a xs;refine⟨_,rfl,.inl ⟨⟨_,SqL.of h⟩,w _ H1 _ [(.ref a,.lst l)] s (λ p o e=>bj e) ⟨R'.len,R'.sl,R'.old,R'.new,λ z hz=>?_⟩ λ lab' H' hq=>?_⟩⟩
   .rcases zAJ.mp hz with rfl|hz
    .exact .lst h mm q
    .exact R'.tm z hz
   .have z:=hq _ (zAE ..)
    cases z with
    |lst h' _ q'=>exact aFm (SqL.of h') (q'.wk λ _ _ _ z=>z.1)
 |scr l=>
  cases r' with
  |scr h=>
   rename_i a;refine⟨_,rfl,.inl ⟨⟨_,h.sq⟩,w _ H1 _ [(.ref a,.scr l)] s (λ p o e=>bj e) ⟨R'.len,R'.sl,R'.old,R'.new,λ z hz=>?_⟩ λ lab' H' hq=>?_⟩⟩
   .rcases zAJ.mp hz with rfl|hz
    .exact .scr h
    .exact R'.tm z hz
   .have z:=hq _ (zAE ..)
    cases z with
    |scr h'=>exact aFm h'.sq Rps.ints
 |_=>exact zAR w
end
section
variable{C:Ct}{pos:Pos}{s:Stmt}{ss:List Stmt}{f:En->Ou}{e a b:Expr}{es:List Expr}{m:Mode}{fa:En->Rs D}{ks:List Nat}{fg:D->En->Rs En}{tg:Expr}{fi:En->Rs (List D)}{ga:En->Rs (List D)}
def bW(lo hi:Int):List D:=(zAm (hi-lo).toNat).map λ(k:Nat)=>.int (lo+(k:Int))
def jC:List D->Rs (List D)
 |[.int j]=>if -(2^62)<=j/\j<2^62 then .ok (bW 0 j)else .st
 |_=>.st
def aEB:List D->Rs (List D)
 |[.int i,.int j]=>if (-(2^62)<=i/\i<2^62)/\(-(2^62)<=j/\j<2^62)then .ok (bW i j)else .st
 |_=>.st
def fW(r:List D->Rs (List D))(ga:En->Rs (List D)):En->Rs (List D):=λ Y=>(ga Y).bd r
def aJH{K:zAA}{lo hi:Int}:JL K lab (Itr lo (hi-lo).toNat) H (bW lo hi):=by
 have hl:(bW lo hi).length=(hi-lo).toNat:=by unfold bW;simp
 refine λ i=>⟨λ h=>by show(hi-lo).toNat<=i;lia,λ h=>⟨by show i<(hi-lo).toNat;lia,λ x H' y=>?_⟩⟩
 obtain⟨e,rfl⟩:=y;subst e;refine⟨aV.refl _,.int (lo+i),?_,.int _⟩;unfold bW;rw[zAY,zFD (by lia)];rfl
def iu(ha:SA C m [a] ga)(hm:C.mg "range"=none)(hs:∀i,zAZ [a] (C.X i).env=[(false,eval a (C.X i).env)]:=by intro _;rfl)(hg:∀i,Gl (C.X i) "range":=by intro _;rfl):SI C tg (.Call (.Name "range" p) [a] [] pos) (fW jC ga):=by
 obtain⟨t,h1,h2⟩:=ha;refine⟨_,λ i=>aGd (hg i) (by rw[(C.cx i).2.2.2.1];exact hm) (h1 i) (hs i),λ U Z H Y lab Rr R W=>h2 U Z H Y lab _ R (W.bd.imp λ ds _ w vs H1 s r=>?_)⟩;unfold jC at w;split at w
 .rename_i j _
  split at w
  .rename_i hj
   cases r with
   |cons h r=>
    cases h;cases r;refine⟨j,rfl,hj.1,hj.2,?_⟩;have z:=w (Itr 0 (j-0).toNat) H1 lab [] s (λ _ _ _=>rfl) (R.up s) λ lab' H' _=>aJH
    rwa [Int.sub_zero]at z
  .exact zAR w
 .exact zAR w
def aFQ(ha:SA C m [a,b] ga)(hm:C.mg "range"=none)(hs:∀i,zAZ [a,b] (C.X i).env=[(false,eval a (C.X i).env),(false,eval b (C.X i).env)]:=by intro _;rfl)(hs2:∀i,zAZ [b] (C.X i).env=[(false,eval b (C.X i).env)]:=by intro _;rfl)(hg:∀i,Gl (C.X i) "range":=by intro _;rfl):SI C tg (.Call (.Name "range" p) [a,b] [] pos) (fW aEB ga):=by
 obtain⟨t,h1,h2⟩:=ha;refine⟨_,λ i=>aGc (hg i) (by rw[(C.cx i).2.2.2.1];exact hm) (h1 i) (hs i) (hs2 i),λ U Z H Y lab Rr R W=>h2 U Z H Y lab _ R (W.bd.imp λ ds _ w vs H1 s r=>?_)⟩;unfold aEB at w;split at w
 .rename_i i j _
  split at w
  .rename_i hj
   cases r with
   |cons h r=>
    cases h;cases r with
    |cons h r=>
     cases h;cases r;exact⟨i,j,rfl,⟨hj.1.1,hj.1.2,hj.2.1,hj.2.2⟩,w (Itr i (j-i).toNat) H1 lab [] s (λ _ _ _=>rfl) (R.up s) λ lab' H' _=>aJH⟩
  .exact zAR w
 .exact zAR w
def forL(fg:D->En->Rs En)(b:En->Ou):List D->En->Ou
 |[],Y=>.nx Y
 |d::ds,Y=>match fg d Y with
  | .ok Y1=>match b Y1 with
   | .nx Y2=>forL fg b ds Y2
   | .ct Y2=>forL fg b ds Y2
   | .bk Y2=>.nx Y2
   |o=>o
  |_=>.st
def fZ(fi:En->Rs (List D))(fg:D->En->Rs En)(b:En->Ou):En->Ou:=λ Y=>(fi Y).bo λ ds=>forL fg b ds Y
def dD(hi:SI C tg e fi)(hg:SG C tg ks fg)(hb:SSs C ss f)(hs:∀i,∀x,zCH e (C.X i).env x=pure x:=by intro _ _;rfl):SS C (.For tg e ss [] pos) (fZ fi fg f):=by
 obtain⟨wi,i1,i2⟩:=hi;obtain⟨gg,g1,g2,_,g4⟩:=hg;obtain⟨tb,b1,b2⟩:=hb;refine⟨_,λ i=>aNL (C.own i) (C.calm i) (i1 i) (g1 i) (b1 i) (hs i),λ U Z H Y lab De R W=>i2 U Z H Y lab _ R (W.bo.imp λ ds _ w J H1 lab1 U1 s1 _ R1 jl=>?_)⟩;refine⟨λ i n Z' H'=>∃Y' lab',RR C.K C.G (U1++U) Y' Z' H' lab'/\n=ds.length-i/\i<=ds.length/\WS C.K C.G U (forL fg f (ds.drop i) Y') De,⟨ds.length,Y,lab1,R1,by lia,by lia,w⟩,?_⟩;rintro i n Z' H' ⟨Y',lab',R',rfl,hi,w'⟩;have jj:=jl lab' H' λ q hq=>R'.tm q (zA7 _ hq)
 by_cases hlt:i<ds.length
 .obtain⟨go,yl⟩:=(jj i).2 hlt
  refine .inr ⟨go,λ Z2 H2=>∃Y2 lab2,RR C.K C.G (U1++U) Y2 Z2 H2 lab2/\WS C.K C.G U (forL fg f (ds.drop (i+1)) Y2) De,λ Z2 H2 ⟨Y2,lab2,R2,w2⟩=>⟨ds.length-(i+1),by lia,Y2,lab2,R2,rfl,hlt,w2⟩,λ x H2 hy=>?_⟩;obtain⟨s2,d,ed,rx⟩:=yl x H2 hy;replace R':=R'.up s2;have ed2:ds.drop i=d::ds.drop (i+1):=by
   rw[zDE hlt]
   have:=zAI hlt
   rw[ed]at this;cases this;rfl
  rw[ed2]at w';unfold forL at w';cases eg:fg d Y' with
  |ex c=>rw[eg]at w';exact zAR w'
  |st=>rw[eg]at w';exact zAR w'
  |ok Y1=>
   rw[eg]at w';refine g2 (U1++U) x d Z' H2 Y' lab' _ Y1 R' rx eg λ Z1 R1'=>b2 (U1++U) Z1 H2 Y1 lab' _ R1' ?_
   dsimp only at w';cases eb:f Y1 with
   |nx Y2=>rw[eb]at w';exact λ Z2 H3 lab2 R2=>⟨Y2,lab2,R2,w'⟩
   |ct Y2=>rw[eb]at w';exact λ Z2 H3 lab2 R2=>⟨Y2,lab2,R2,w'⟩
   |bk Y2=>rw[eb]at w';exact λ Z2 H3 lab2 R2=>w' Z2 H3 lab2 R2.drop
   |rt d=>rw[eb]at w';exact w'
   |ex c=>rw[eb]at w';exact w'
   |st=>rw[eb]at w';exact w'
 .have e:i=ds.length:=by lia
  subst e;rw[zE7]at w';exact .inl ⟨(jj _).1 (zAQ _),w' Z' H' lab' R'.drop⟩
def itW(c:En->Rs Bool)(b:En->Ou):Nat->En->Ou
 |0,_=>.st
 |n+1,Y=>(c Y).bo λ k=>if k=true then(match b Y with
   | .nx Y2=>itW c b n Y2
   | .ct Y2=>itW c b n Y2
   | .bk Y2=>.nx Y2
   |o=>o)else .nx Y
def fuel:Nat:=1000000
def xK(c:En->Rs Bool)(b:En->Ou):En->Ou:=itW c b fuel
def xU(hc:ST C c fc)(hb:SSs C ss f):SS C (.While c ss [] pos) (xK fc f):=by
 obtain⟨tc,c1,c2⟩:=hc;obtain⟨tb,b1,b2⟩:=hb;refine⟨_,λ i=>aIO (C.own i) (c1 i) (b1 i),λ U Z H Y lab De R W=>?_⟩;refine⟨λ n Z' H'=>∃Y' lab',RR C.K C.G U Y' Z' H' lab'/\WS C.K C.G U (itW fc f n Y') De,⟨fuel,Y,lab,R,W⟩,?_⟩;rintro n Z' H' ⟨Y',lab',R',w'⟩;cases n with
 |zero=>exact zAR w'
 |succ n=>
  refine c2 U Z' H' Y' lab' _ R' (WS.bo (show WS C.K C.G U ((fc Y').bo _) De from w') |>.imp λ k _ w H1 s1=>?_);cases k with
  |false=>
   rw[if_neg zAO]at w ⊢;exact w Z' H1 lab' (R'.up s1)
  |true=>
   rw[if_pos rfl]at w ⊢;refine⟨λ Z2 H2=>∃Y2 lab2,RR C.K C.G U Y2 Z2 H2 lab2/\WS C.K C.G U (itW fc f n Y2) De,λ Z2 H2 ⟨Y2,lab2,R2,w2⟩=>⟨n,zBs n,Y2,lab2,R2,w2⟩,?_⟩;refine b2 U Z' H1 Y' lab' _ (R'.up s1) ?_;cases eb:f Y' with
   |nx Y2=>rw[eb]at w;exact λ Z2 H3 lab2 R2=>⟨Y2,lab2,R2,w⟩
   |ct Y2=>rw[eb]at w;exact λ Z2 H3 lab2 R2=>⟨Y2,lab2,R2,w⟩
   |bk Y2=>rw[eb]at w;exact w
   |rt d=>rw[eb]at w;exact w
   |ex c=>rw[eb]at w;exact w
   |st=>rw[eb]at w;exact w
def pJ(x:Str)(ga:En->Rs (List D)):En->Ou:=λ Y=>(ga Y).bo λ ds=>if ds.length<=zAX then .ex x else .st
def oY{rest:List Expr}(hd:C.dOk=true)(hm:C.mg x=some (.ref Ca))(hcl:C.G.cl x=Ca)(hC:cM C.K Ca)(ha:SA C m (yY::rest) ga)(he:∀i,zAZ (yY::rest) (C.X i).env=(false,eval yY (C.X i).env)::zAZ rest (C.X i).env:=by intro _;rfl)(hplain:∀i,(zCo cpos (zAZ rest (C.X i).env)).any (·.1)=false:=by intro _;rfl)(hdb:Nd x:=by decide)(hg:∀i,Gl (C.X i) x:=by intro _;rfl):SS C (.Raise (some (.Call (.Name x np) (yY::rest) [] cpos)) none pos) (pJ x ga):=by
 obtain⟨t,h1,h2⟩:=ha;refine⟨_,λ i=>aIR (C.dcx hd i) (C.calm i) (by rw[(C.cx i).2.2.2.1];exact hm) (by rw[C.hK i];exact hC) (hg i) (h1 i) (he i) (hplain i) hdb,λ U Z H Y lab De R W=>h2 U Z H Y lab _ R (W.bo.imp λ ds _ w vs H1 s r=>?_)⟩;by_cases hz:ds.length<=zAX
 .rw[if_pos hz]at w
  refine⟨by rw[r.length];exact hz,?_⟩
  have:=w H1 (R.old.trans s)
  rwa [hcl]at this
 .rw[if_neg hz]at w
  exact zAR w
def spF(K:zAA)(cl:Str->Addr)(n:Nat)(F:List D->Rs D):Sp:=λ vs H Q E=>∃ds,vs.length=n/\Rps K (λ _=>True) H vs ds/\WR ⟨H,E,cl⟩ (F ds) (λ d=>∀v H',aV H H'->Rp K (λ p=>H p=none) H' v d->Q v H')
def aU(F:List D->Rs D)(ga:En->Rs (List D)):En->Rs D:=λ Y=>(ga Y).bd F
def aHj{K:zAA}(hn:∀Y ds,ga Y= .ok ds->ds.length=n)(h:aMB K G m t ga):jH K G (some []) (aCP (spF K G.cl n F) [] G.E t) (aU F ga):=by
 intro U Z H Y lab Q R W;refine h U Z H Y lab _ R (W.bd.imp λ ds eds w vs H1 s r=>⟨ds,by rw[zBC,r.length];exact hn Y ds eds,by rw[zBC];exact r.wk λ _ _ _ _=>trivial,?_⟩);cases hF:F ds with
 |ok d=>
  rw[hF]at w;exact λ v H' s' r'=>w v H' (s.trans s') (r'.wk λ p o _ z=>.inl (s.free z))
 |ex c=>rw[hF]at w;exact λ H' s'=>w H' ((R.old.trans s).trans s')
 |st=>rw[hF]at w;exact w
variable{k:Nat}{fn:Addr}{fd:zAo}{ps:List Str}{x:Str}{p:Pos}{F:List D->Rs D}{n:Nat}
def aK7(hF:dB C.prog C.w C.K C.mg C.base (CX1 C.prog C.w) k fn fd ps (spF C.K C.G.cl n F))(hr:k<=C.k)(hm:C.mg x=some (.ref fn))(hk:zBx C.K (.ref fn)=true)(hb:Binds C.K fd ps [])(ha:SA C m (e::es) ga)(hn:∀Y ds,ga Y= .ok ds->ds.length=n)(hdb:Nd x:=by decide)(he:∀i,zAZ (e::es) (C.X i).env=(false,eval e (C.X i).env)::zAZ es (C.X i).env:=by intro _;rfl)(hpl:∀i,(zCo pos (zAZ es (C.X i).env)).any (·.1)=false:=by intro _;rfl)(hg:∀i,Gl (C.X i) x:=by intro _;rfl):SE C (some []) (.Call (.Name x p) (e::es) [] pos) (aU F ga):=by
 obtain⟨t,h1,h2⟩:=ha;refine⟨_,λ i=>?_,aHj hn h2⟩;obtain⟨e1,e2,e3,e4,e5⟩:=C.cx i;refine aKr (CX:=CX1 (C.X i).prog (C.X i).w) (by rw[e1,e2,e3,e4,e5];exact hF) ((C.room i).mono hr) (hg i) (by rw[e4];exact hm) (by rw[e3];exact hk) (by rw[e3];exact hb) .nil (C.pass i) (h1 i) hdb (he i) (hpl i)
def aLQ(h:aG Y= .ok ds):ds.length=0:=by cases h;rfl
def aIu(h:∀Y ds,ga Y= .ok ds->ds.length=n):∀Y ds,aC fa ga Y= .ok ds->ds.length=n+1:=λ Y ds e=>by
 obtain⟨d,_,e⟩:=dO e;obtain⟨r,er,e⟩:=dO e;cases e;rw[zA5,h Y r er]
end
def au(mg:Str->Option Value):Str->Addr:=λ x=>match mg x with
 |some (.ref a)=>a
 |_=>0
abbrev ctD(P:zA2)(w:World)(K:zAA)(mg:Str->Option Value)(base:Heap)(N:List Str)(q:Str)(sc:Scope)(f:Addr)(cdv:Value)(A:zAc)(outer:List Env)(s:zAG)(H:Hp)(E:XK)(k:Nat)(hr:fB k (A.deeper (zDO q sc s.heap.objs.size f cdv))):Ct where
 ι:=Unit
 X:=λ _=>wR (CX1 P w) P w K mg base N q sc f cdv A outer s H E
 prog:=P
 w:=w
 K:=K
 mg:=mg
 base:=base
 k:=k
 G:=⟨H,E,au mg⟩
 cx:=λ _=>⟨rfl,rfl,rfl,rfl,rfl⟩
 calm:=λ _=>rfl
 room:=λ _=>hr
 own:=λ _=>di.own di.of
 pass:=λ _=>di.pass di.of
 dOk:=true
 dcx:=λ _ _=>di.of
def bG(n:Nat)(ds:List D):En:=ds.map .sh++zAM (n-ds.length) .no
def eF(n:Nat)(f:En->Ou):List D->Rs D:=λ ds=>match f (bG n ds)with
 | .nx _=>.ok .non
 | .rt d=>.ok d
 | .ex c=>.ex c
 |_=>.st
theorem RR.start{K:zAA}(r:Rps K (λ _=>True) H vs ds):RR K ⟨H,E,cl⟩ [] (bG N.length ds) (start N vs) H (λ _=>(0,0)):=by
 have hl:=r.length;refine⟨by unfold bG L2.start;simp[hl],λ i s e=>?_,aV.refl H,λ p hp=>absurd rfl hp,λ q hq=>by cases hq⟩;unfold bG at e;by_cases hi:i<ds.length
 .rw[zBM (by simpa using hi),zAY]at e
  cases ed:ds[i]? with
  |none=>rw[ed]at e;cases e
  |some d=>
   rw[ed]at e;cases e;obtain⟨x,ex,rx⟩:=r.getD ed;refine .inr ⟨x,?_,rx.wk λ _ _ _ _=>zAj _⟩;unfold L2.start;rw[zBM (by simpa[hl]using hi),zAY,ex];rfl
 .rw[zCy (by simpa using hi),zCL]at e
  split at e
  .cases e;exact .inl rfl
  .cases e
section
variable{P:zA2}{w:World}{K:zAA}{mg:Str->Option Value}{base:Heap}
def aOX{x q:Str}{st:Stmt}(F:L2.Fun K x q st fn fd)(S:aY N ps (aJ st))
  (hb:∀cdv A outer s H E hr,SSs (ctD P w K mg base N q (aJ st) fn cdv A outer s H E k hr) (dM st) f):
  dB P w K mg base (CX1 P w) (k+1) fn fd ps (spF K (au mg) ps.length (eF N.length f)):=by
 refine F.okX S (λ vs H Q E ⟨ds,hl,_⟩=>hl) λ cdv A outer s H vs Q E hr ⟨ds,hl,r,W⟩=>?_
 obtain⟨t,h1,h2⟩:=hb cdv A outer s H E hr;refine⟨t,h1 (),h2 [] _ H _ _ _ (RR.start r) ?_⟩;unfold eF at W;cases e:f (bG N.length ds)with
 |nx Y=>rw[e]at W;exact λ Z' H' lab R=>W .non H' R.old .non
 |rt d=>rw[e]at W;exact λ v H' s r=>W v H' s r
 |ex c=>rw[e]at W;exact W
 |bk Y=>rw[e]at W;exact zAR W
 |ct Y=>rw[e]at W;exact zAR W
 |st=>rw[e]at W;exact zAR W
def aLj{st:Stmt}(F:L2.Fun K x q st fn fd)(S:aY N ps (aJ st))
  (hb:∀cdv A outer s H E hr,SSs (ctD P w K mg base N q (aJ st) fn cdv A outer s H E k hr) (dM st) f)(hn:ps.length=n)(hF:eF N.length f=FF):
  dB P w K mg base (CX1 P w) (k+1) fn fd ps (spF K (au mg) n FF):=by
 subst hn hF;exact aOX F S hb
end
def OpR.or(h:OpR X f r)(h':OpR X f r'):OpR X f (λ x y H Q=>r x y H Q\/r' x y H Q):=by
 intro kX s Z H x y v u Q I rx ry q;rcases q with q|q
 .exact h kX s Z H x y v u Q I rx ry q
 .exact h' kX s Z H x y v u Q I rx ry q
def OpS.or{K:zAA}(h:OpS K r fd)(h':OpS K r' fd'):OpS K (λ x y H Q=>r x y H Q\/r' x y H Q) (λ d e=>match fd d e with
  | .ok z=>.ok z
  |_=>fd' d e):=by
 intro A x y d e H Q z rx ry ez q;dsimp only at ez;cases hd:fd d e with
 |ok w=>rw[hd]at ez;cases ez;exact .inl (h A x y d e H Q _ rx ry hd q)
 |ex c=>rw[hd]at ez;exact .inr (h' A x y d e H Q z rx ry ez q)
 |st=>rw[hd]at ez;exact .inr (h' A x y d e H Q z rx ry ez q)
section
variable{K:zAA}
def i2(p:Int->Int->Bool)(g:Int->Int->D):D->D->Rs D
 | .int i,.int j=>if p i j=true then .ok (g i j)else .st
 |_,_=>.st
def aET{g:Int->Int->Int}(hp:∀i j,p i j=true->c i j):OpS K (rI c λ i j=>.int (g i j)) (i2 p λ i j=>.int (g i j)):=by
 intro A x y d e H Q z rx ry ez q;unfold i2 at ez;split at ez
 .rename_i i j
  split at ez
  .rename_i h
   cases ez;obtain rfl:=rx.int_inv;obtain rfl:=ry.int_inv;exact⟨i,j,rfl,rfl,hp i j h,q _ H (aV.refl H) (.int _)⟩
  .cases ez
 .cases ez
def aKx{g:Int->Int->Int}:OpS K (rI0 λ i j=>.int (g i j)) (i2 (λ _ _=>true) λ i j=>.int (g i j)):=by
 intro A x y d e H Q z rx ry ez q;unfold i2 at ez;split at ez
 .rename_i i j
  cases ez;obtain rfl:=rx.int_inv;obtain rfl:=ry.int_inv;exact⟨i,j,rfl,rfl,q _ H (aV.refl H) (.int _)⟩
 .cases ez
def yM{g:Int->Int->Bool}:OpS K (rI0 λ i j=>.bl (g i j)) (i2 (λ _ _=>true) λ i j=>.bl (g i j)):=by
 intro A x y d e H Q z rx ry ez q;unfold i2 at ez;split at ez
 .rename_i i j
  cases ez;obtain rfl:=rx.int_inv;obtain rfl:=ry.int_inv;exact⟨i,j,rfl,rfl,q _ H (aV.refl H) (.bl _)⟩
 .cases ez
def aBn{g:Int->Int->Int}:∀x y z,i2 p (λ i j=>.int (g i j)) x y= .ok z->imm z=true:=by
 intro x y z e;unfold i2 at e;split at e
 .split at e
  .cases e;rfl
  .cases e
 .cases e
def aEp{g:Int->Int->Bool}:∀x y z,i2 p (λ i j=>.bl (g i j)) x y= .ok z->imm z=true:=by
 intro x y z e;unfold i2 at e;split at e
 .split at e
  .cases e;rfl
  .cases e
 .cases e
def cR:D->D->Rs D
 | .int i,.int j=>.ok (.int (i+j))
 | .lst l,.lst m=>if l.length+m.length<=zAX then .ok (.lst (l++m))else .st
 | .tup l,.tup m=>if l.length+m.length<=zAX then .ok (.tup (l++m))else .st
 |_,_=>.st
def aMU(K:zAA):R2:=λ x y H Q=>∃a b xs ys,x= .ref a/\y= .ref b/\SqT K H a xs/\SqT K H b ys/\xs.length+ys.length<=zAX/\
 (xs=[]->Q (.ref b) H)/\(ys=[]->Q (.ref a) H)/\New H (.tup (xs++ys)) Q
def aLD:OpR X (zCe .Add) (aMU X.K):=by
 intro kX s Z H x y v u Q I rx ry h;obtain⟨a,b,xs,ys,rfl,rfl,ha,hb,hz,q0,q1,q2⟩:=h;by_cases hx:xs=[]
 .subst hx
  cases rx;cases ry;obtain⟨its,r1,p1,_⟩:=I.tuple ha;obtain⟨its2,r2,p2,_⟩:=I.tuple hb;cases r1;exact HT.aJp p1 p2 ⟨.ref b,H,I,rfl,q0 rfl⟩
 .exact aLE kX s Z H _ _ v u Q I rx ry ⟨a,b,xs,ys,rfl,rfl,ha,hb,hx,hz,q1,λ _ p hp=>q2.at hp⟩
def aIH(K:zAA):R2:=λ x y H Q=>rI0 (λ i j=>.int (i+j)) x y H Q\/(aIG x y H Q\/aMU K x y H Q)
def aLF:OpR X (zCe .Add) (aIH X.K):=OpR.or aNr (OpR.or aB2 aLD)
def aN9:OpS K (aIH K) cR:=by
 intro A x y d e H Q z rx ry ez q;unfold cR at ez;split at ez
 .cases ez;obtain rfl:=rx.int_inv;obtain rfl:=ry.int_inv;exact .inl ⟨_,_,rfl,rfl,q _ H (aV.refl H) (.int _)⟩
 .split at ez
  .rename_i hl
   cases ez;obtain⟨_,_,rfl,h1,m1,r1⟩:=rx.lst_inv;obtain⟨_,_,rfl,h2,m2,r2⟩:=ry.lst_inv;refine .inr (.inl ⟨_,_,_,_,rfl,rfl,h1,h2,by rw[r1.length,r2.length];exact hl,λ p H' s hp hn=>q _ H' s (.lst hp (.inl hn) ?_)⟩);exact(((r1.wk λ _ _ _ z=>z.1).append (r2.wk λ _ _ _ z=>z.1)).wk (A':=λ q=>(H q=none\/A q)/\q≠p) λ q o e z=>⟨.inr z,λ e'=>by subst e';rw[hn]at e;cases e⟩).up s
  .cases ez
 .split at ez
  .rename_i hl
   cases ez;obtain⟨_,_,rfl,h1,r1⟩:=rx.tup_inv;obtain⟨_,_,rfl,h2,r2⟩:=ry.tup_inv;have r1':=r1.wk (A':=λ p=>H p=none\/A p) λ _ _ _ z=>.inr z
   have r2':=r2.wk (A':=λ p=>H p=none\/A p) λ _ _ _ z=>.inr z
   refine .inr (.inr ⟨_,_,_,_,rfl,rfl,h1,h2,by rw[r1.length,r2.length];exact hl,λ e=>?_,λ e=>?_,λ p H' s hp hn=>q _ H' s (.tup (SqT.of hp) ((r1'.append r2').up s))⟩)
   .subst e
    cases r1';exact q _ H (aV.refl H) (.tup h2 r2')
   .subst e
    cases r2';rw[zBC]at q;exact q _ H (aV.refl H) (.tup h1 r1')
  .cases ez
 .cases ez
def lC:D->D->Rs D
 | .int i,.int j=>if (decide (-(2^64)<i)&&decide (i<2^64))||(decide (-(2^64)<j)&&decide (j<2^64))then .ok (.int (i*j))else .st
 | .lst l,.int k=>if decide (-(2^63)<=k)&&decide (k<2^63)&&decide (l.length*k.toNat<=zAX)&&qY l then .ok (.lst (zAM k.toNat l).flatten)else .st
 |_,_=>.st
theorem Rps.rep(r:Rps K A H xs ds):∀k:Nat,Rps K A H (zAM k xs).flatten (zAM k ds).flatten
 |0=>.nil
 |k+1=>by
  rw[zBy,zBy,zBd,zBd];exact r.append (Rps.rep r k)
def aMR:R2:=λ x y H Q=>rI aMI (λ i j=>.int (i*j)) x y H Q\/aPN x y H Q
def aLB:OpR X (zCe .Mult) aMR:=OpR.or aNf aNc
def aN6:OpS K aMR lC:=by
 intro A x y d e H Q z rx ry ez q;unfold lC at ez;split at ez
 .split at ez
  .rename_i hc
   cases ez;obtain rfl:=rx.int_inv;obtain rfl:=ry.int_inv;refine .inl ⟨_,_,rfl,rfl,?_,q _ H (aV.refl H) (.int _)⟩;simp only[zDm,zAK,decide_eq_true_eq]at hc;exact hc
  .cases ez
 .split at ez
  .rename_i hc
   simp only[zAK,decide_eq_true_eq]at hc;cases ez;obtain⟨_,_,rfl,h1,m1,r1⟩:=rx.lst_inv;obtain rfl:=ry.int_inv;refine .inr ⟨_,_,_,rfl,rfl,h1,hc.1.1.1,hc.1.1.2,by rw[r1.length];exact hc.1.2,λ p hp=>q _ _ (bD hp _) (.lst aZ (.inl hp) ?_)⟩;exact((r1.rep _).wk (A':=λ q=>(H q=none\/A q)/\q≠p) λ q o e z=>⟨.inr z.1,λ e'=>by subst e';rw[hp]at e;cases e⟩).up (bD hp _)
  .cases ez
 .cases ez
def intsOf:List D->Option (List Int)
 |[]=>some []
 | .int i::r=>(intsOf r).map (i::·)
 |_=>none
theorem cW:∀{l:List D} {ns:List Int},intsOf l=some ns->l=ns.map .int
 |[],ns,h=>by cases h;rfl
 | .int i::r,ns,h=>by
  simp only[intsOf,zDT]at h;obtain⟨ms,h1,rfl⟩:=h;rw[cW h1];rfl
 | .non::_,_,h=>by cases h
 | .bl _::_,_,h=>by cases h
 | .str _::_,_,h=>by cases h
 | .tup _::_,_,h=>by cases h
 | .lst _::_,_,h=>by cases h
 | .dct _ _::_,_,h=>by cases h
 | .set _::_,_,h=>by cases h
 | .scr _::_,_,h=>by cases h
theorem gG:∀ns:List Int,intsOf (ns.map .int)=some ns
 |[]=>rfl
 |n::ns=>by simp only[zAS,intsOf,gG ns,zDM]
def ltT(p:List Int->List Int->Bool):D->D->Rs D
 | .tup l,.tup m=>match intsOf l,intsOf m with
  |some ns,some ms=>.ok (.bl (p ns ms))
  |_,_=>.st
 |_,_=>.st
def aFW(r:Rp K A H x (.tup l))(e:intsOf l=some ns):∃a,x= .ref a/\SqT K H a (ns.map V.int):=by
 have:=cW e
 subst this;cases r with
 |tup h r=>
  have:=r.ints_of
  subst this;exact⟨_,rfl,h⟩
def aF5(hr:∀x y H Q,(∃a b ns ms,x= .ref a/\y= .ref b/\SqT K H a (ns.map V.int)/\SqT K H b (ms.map V.int)/\Q (.bl (p ns ms)) H)->r x y H Q):OpS K r (ltT p):=by
 intro A x y d e H Q z rx ry ez q;unfold ltT at ez;split at ez
 .split at ez
  .rename_i ns ms e1 e2
   cases ez;obtain⟨a,rfl,ha⟩:=aFW rx e1;obtain⟨b,rfl,hb⟩:=aFW ry e2;exact hr _ _ _ _ ⟨a,b,ns,ms,rfl,rfl,ha,hb,q _ H (aV.refl H) (.bl _)⟩
  .cases ez
 .cases ez
def ltD:D->D->Rs D:=λ d e=>match i2 (λ _ _=>true) (λ i j=>.bl (decide (i<j))) d e with
 | .ok z=>.ok z
 |_=>ltT HT.lexLt d e
def leD:D->D->Rs D:=λ d e=>match i2 (λ _ _=>true) (λ i j=>.bl (decide (i<=j))) d e with
 | .ok z=>.ok z
 |_=>ltT HT.lexLe d e
def gtD:D->D->Rs D:=i2 (λ _ _=>true) (λ i j=>.bl (decide (j<i)))
def geD:D->D->Rs D:=i2 (λ _ _=>true) (λ i j=>.bl (decide (j<=i)))
def aNh(hu:X.A.units<cLine):OpR X (zAw .Lt) (λ x y H Q=>rI0 (λ i j=>.bl (decide (i<j))) x y H Q\/aKc X.K x y H Q):=OpR.or aPW (aNi hu)
def aNj(hu:X.A.units<cLine):OpR X (zAw .LtE) (λ x y H Q=>rI0 (λ i j=>.bl (decide (i<=j))) x y H Q\/aKd X.K x y H Q):=OpR.or aPX (aNk hu)
def aIc:OpS K (λ x y H Q=>rI0 (λ i j=>.bl (decide (i<j))) x y H Q\/aKc K x y H Q) ltD:=OpS.or yM (aF5 λ _ _ _ _ h=>h)
def aIe:OpS K (λ x y H Q=>rI0 (λ i j=>.bl (decide (i<=j))) x y H Q\/aKd K x y H Q) leD:=OpS.or yM (aF5 λ _ _ _ _ h=>h)
def aFo(e:ltT p x y= .ok z):imm z=true:=by
 unfold ltT at e;split at e
 .split at e
  .cases e;rfl
  .cases e
 .cases e
def aJS:∀x y z,ltD x y= .ok z->imm z=true:=by
 intro x y z e;unfold ltD at e;split at e
 .rename_i w hw;cases e;exact aEp _ _ _ hw
 .exact aFo e
def aOQ:∀x y z,leD x y= .ok z->imm z=true:=by
 intro x y z e;unfold leD at e;split at e
 .rename_i w hw;cases e;exact aEp _ _ _ hw
 .exact aFo e
def isD(neg:Bool):D->D->Rs D
 | .bl a,.bl b=>if neg then .st else .ok (.bl (a==b))
 |d,.non=>match d with
  | .non=>.ok (.bl (!neg))
  |_=>.ok (.bl neg)
 |_,_=>.st
def aNl:OpR X (zAw .Is) (λ x y H Q=>(∃b c,x= .bl b/\y= .bl c/\Q (.bl (b==c)) H)\/(y= .non/\Q (.bl (decide (x= .non))) H)):=OpR.or aIf aNm
def aNE(r:Rp K A H x d)(h:d≠.non):x≠.non:=by
 cases r with
 |non=>exact absurd rfl h
 |_=>exact λ e=>by cases e
def aPV:OpS K (λ x y H Q=>(∃b c,x= .bl b/\y= .bl c/\Q (.bl (b==c)) H)\/(y= .non/\Q (.bl (decide (x= .non))) H)) (isD false):=by
 intro A x y d e H Q z rx ry ez q;unfold isD at ez;split at ez
 .cases ez;cases rx;cases ry;exact .inl ⟨_,_,rfl,rfl,q _ H (aV.refl H) (.bl _)⟩
 .cases ry
  split at ez
  .cases ez;cases rx;exact .inr ⟨rfl,by rw[decide_eq_true rfl];exact q _ H (aV.refl H) (.bl _)⟩
  .rename_i hn
   cases ez;exact .inr ⟨rfl,by rw[decide_eq_false (aNE rx hn)];exact q _ H (aV.refl H) (.bl _)⟩
 .cases ez
def aCp:D->Rs D
 | .int i=>.ok (.int (-i))
 |_=>.st
def aMh:UnS K (rU λ i=>.int (-i)) aCp:=by
 intro A x d H Q z rx ez q;cases rx with
 |int i=>cases ez;exact⟨i,rfl,q _ H (aV.refl H) (.int _)⟩
 |_=>cases ez
def aL8:∀x z,aCp x= .ok z->imm z=true:=by
 intro x z e;cases x with
 |int i=>cases e;rfl
 |_=>cases e
def atD(l:List D)(i:Int):Rs D:=match atI l i with
 |some d=>.ok d
 |none=>.st
def ixD:D->D->Rs D
 | .tup l,.int i=>atD l i
 | .lst l,.int i=>atD l i
 | .scr l,.int i=>atD (l.map .int) i
 |_,_=>.st
theorem Rps.at(r:Rps K A H xs ds)(e:atI ds i=some d):∃x,atI xs i=some x/\Rp K A H x d:=by
 unfold atI at e ⊢;rw[r.length];cases h:ixN ds.length i with
 |none=>rw[h]at e;cases e
 |some j=>
  rw[h]at e;obtain⟨x,e1,e2⟩:=r.getD (i:=j) (d:=d) e;exact⟨x,e1,e2⟩
def aPU:OpS K (rIx K) ixD:=by
 intro A x y d e H Q z rx ry ez q;unfold ixD at ez;split at ez
 .unfold atD at ez
  split at ez
  .rename_i w hw
   cases ez;obtain⟨_,_,rfl,h,r⟩:=rx.tup_inv;obtain rfl:=ry.int_inv;obtain⟨v,e1,e2⟩:=r.at hw;exact .inr (.inl ⟨_,_,_,v,rfl,rfl,h,e1,q v H (aV.refl H) (e2.wk λ _ _ _ z=>.inr z)⟩)
  .cases ez
 .unfold atD at ez
  split at ez
  .rename_i w hw
   cases ez;obtain⟨_,_,rfl,h,m,r⟩:=rx.lst_inv;obtain rfl:=ry.int_inv;obtain⟨v,e1,e2⟩:=r.at hw;exact .inl ⟨_,_,_,v,rfl,rfl,SqL.of h,e1,q v H (aV.refl H) (e2.wk λ _ _ _ z=>.inr z.1)⟩
  .cases ez
 .unfold atD at ez
  split at ez
  .rename_i w hw
   cases ez;obtain⟨_,rfl,h⟩:=rx.scr_inv;obtain rfl:=ry.int_inv;obtain⟨v,e1,e2⟩:=(Rps.ints (K:=K) (A:=A) (H:=H)).at hw;exact .inl ⟨_,_,_,v,rfl,rfl,h.sq,e1,q v H (aV.refl H) (e2.wk λ _ _ _ z=>.inr z)⟩
  .cases ez
 .cases ez
def fL:List D->Rs D
 |[.tup l]=>.ok (.int l.length)
 |[.lst l]=>.ok (.int l.length)
 |[.scr l]=>.ok (.int l.length)
 |_=>.st
def aO6:qx K (λ xs H Q=>∃p ys,xs=[.ref p]/\(SqL K H p ys\/SqT K H p ys)/\Q (.int ys.length) H) fL:=by
 intro A xs ds H Q z r ez q;unfold fL at ez;split at ez
 .cases ez
  obtain⟨_,rfl,h0⟩:=r.one_inv;obtain⟨_,_,rfl,h,r⟩:=h0.tup_inv;exact⟨_,_,rfl,.inr h,by rw[r.length];exact q _ H (aV.refl H) (.int _)⟩
 .cases ez
  obtain⟨_,rfl,h0⟩:=r.one_inv;obtain⟨_,_,rfl,h,m,r⟩:=h0.lst_inv;exact⟨_,_,rfl,.inl (SqL.of h),by rw[r.length];exact q _ H (aV.refl H) (.int _)⟩
 .cases ez
  obtain⟨_,rfl,h0⟩:=r.one_inv;obtain⟨_,rfl,h⟩:=h0.scr_inv;exact⟨_,_,rfl,.inl h.sq,by rw[zAD];exact q _ H (aV.refl H) (.int _)⟩
 .cases ez
def aLa:∀x z,fL x= .ok z->imm z=true:=by
 intro x z e;unfold fL at e;split at e<;>first|(cases e;rfl)|cases e
def tyD:D->String
 | .non=>"NoneType"| .bl _=>"bool"| .int _=>"int"| .str _=>"str"| .tup _=>"tuple"| .lst _=>"list"| .dct _ _=>"dict"| .set _=>"set"| .scr _=>"script"| .fn _=>"function"
def jy(T:String):D->Rs D:=λ d=>if qe (tyD d) T true=true then .ok (.bl true)else if qe (tyD d) T false=true then .ok (.bl false)else .st
def aMS(K:zAA)(T:String):List V->Hp->VK->Prop:=λ xs H Q=>∃x d A b,xs=[x,.ty T]/\Rp K A H x d/\qe (tyD d) T b=true/\Q (.bl b) H
def aHV:cg X (.builtin "isinstance") (aMS X.K T):=by
 intro kX s Z H xs us Q I rv h;obtain⟨x,d,A,b,rfl,rd,ok,q⟩:=h;cases rd with
 |tup h r=>
  obtain⟨u,w',rfl,ru,rw'⟩:=vals2 rv;cases ru;cases rw';obtain⟨its,_,⟨o,h1,h2,_⟩,_⟩:=I.tuple h;exact zB1 zHW I.kIn ⟨o,h1,h2⟩ (aEh ok) (λ z=>nomatch z) λ tk=>⟨.bl b,H,I.tok _,rfl,q⟩
 |set h m hS nd=>cases b<;>simp[qe,tyD]at ok
 |scr h=>cases b<;>simp[qe,tyD]at ok
 |fn h=>cases b<;>simp[qe,tyD]at ok
 |non=>exact mU kX s Z H _ us Q I rv ⟨_,T,_,b,rfl,.non,ok,q⟩
 |bl c=>exact mU kX s Z H _ us Q I rv ⟨_,T,_,b,rfl,.bl c,ok,q⟩
 |int c=>exact mU kX s Z H _ us Q I rv ⟨_,T,_,b,rfl,.int c,ok,q⟩
 |str c=>exact mU kX s Z H _ us Q I rv ⟨_,T,_,b,rfl,.str c,ok,q⟩
 |lst h m r=>exact mU kX s Z H _ us Q I rv ⟨_,T,_,b,rfl,.lst h,ok,q⟩
 |dK h m r=>exact mU kX s Z H _ us Q I rv ⟨_,T,_,b,rfl,.dK h,ok,q⟩
 |dT h m r=>
  obtain⟨u,w',rfl,ru,rw'⟩:=vals2 rv;cases ru;cases rw';obtain⟨⟨_,_,_,o,_,_,_,h1,h2,_⟩,_⟩:=(show cZ X.prog X.w H s.heap _ (dxO _ _)from I.hok _ _ h.at_);exact zB1 zFJ I.kIn ⟨o,h1,h2.1⟩ (aEh ok) (λ z=>nomatch z) λ tk=>⟨.bl b,H,I.tok _,rfl,q⟩
end
section
variable{C:Ct}{pos p p2:Pos}{m:Mode}{a:Expr}{fa:En->Rs D}
def lR(ha:SE C m a fa)(hm:C.mg "isinstance"=none)(hmT:C.mg x=none)(hn:x≠"__name__":=by decide)(hd:Nd x:=by decide)(he:∀i,zAZ [a,.Name x p2] (C.X i).env=(false,eval a (C.X i).env)::zAZ [.Name x p2] (C.X i).env:=by intro _;rfl)(hpl:∀i,(zCo pos (zAZ [.Name x p2] (C.X i).env)).any (·.1)=false:=by intro _;rfl)(hg:∀i,Gl (C.X i) "isinstance":=by intro _;rfl)(hv:zAt "isinstance"=some (.builtin "isinstance"):=by decide+kernel)(hgT:∀i,Gl (C.X i) x:=by intro _;rfl)(hvT:zAt x=some (.type T):=by decide+kernel):
  SE C (some []) (.Call (.Name "isinstance" p) [a,.Name x p2] [] pos) (op1 (jy T) fa):=by
 obtain⟨t,h1,h2⟩:=ha;refine⟨tCB (aMS C.K T) (jA t (jA (tC (.ty T)) oK)),λ i=>?_,λ U Z H Y lab Q R W=>?_⟩
 .rw[<-C.hK i]
  exact mD aHV (hg i) (by rw[(C.cx i).2.2.2.1];exact hm) hv (ak (h1 i) (ak (aF4 (v:=.ty T) (hgT i) (by rw[(C.cx i).2.2.2.1];exact hmT) hvT rfl hn hd) cj) (he i)) (by decide) (by decide) (he i) (hpl i)
 .refine h2 U Z H Y lab _ R (W.bd.imp λ d _ w x H1 s1 r1=>?_)
  obtain⟨z,ez,w⟩:=w.okD;unfold jy at ez;split at ez
  .rename_i h;cases ez;exact⟨x,d,_,true,rfl,r1,h,w _ H1 s1 (.bl _)⟩
  .split at ez
   .rename_i h;cases ez;exact⟨x,d,_,false,rfl,r1,h,w _ H1 s1 (.bl _)⟩
   .cases ez
end
def m9:Slot->Slot
 | .ow d=>.sh d
 | .nw d=>.sh d
 | .oz d=>.sh d
 | .o2 l=>.sh (.lst (l.map .lst))
 |s=>s
def shE(Y:En):En:=Y.map m9
def stV(js:kQ)(Z:L2.St):L2.St:=js.map λ o=>o.bind λ j=>(Z[j]?).join
def stE(js:kQ)(Y:En):En:=js.map λ o=>match o with
 |none=>.no
 |some j=>(Y[j]?).getD .no
def aKa{K:zAA}(h:fU K H lab i v s):∃d,(s= .no\/m9 s= .sh d)/\(s= .no\/Rp K (λ _=>True) H v d):=by
 cases s with
 |no=>exact⟨.non,.inl rfl,.inl rfl⟩
 |sh d=>exact⟨d,.inr rfl,.inr (Rp.wk (λ _ _ _ _=>trivial) h)⟩
 |nw d=>exact⟨d,.inr rfl,.inr (Rp.wk (λ _ _ _ _=>trivial) h)⟩
 |ow d=>exact⟨d,.inr rfl,.inr (Rp.wk (λ _ _ _ _=>trivial) h.1)⟩
 |oz d=>exact⟨d,.inr rfl,.inr (Rp.wk (λ _ _ _ _=>trivial) (aMY h))⟩
 |o2 l=>exact⟨_,.inr rfl,.inr (Rp.wk (λ _ _ _ _=>trivial) (aF8 h))⟩
theorem RR.shE{K:zAA}(R:RR K G U Y Z H lab):RR K G U (shE Y) Z H (λ _=>(0,0)):=by
 refine⟨by unfold VL.shE;rw[zAD];exact R.len,λ i s e=>?_,R.old,λ p hp=>absurd rfl hp,λ q hq=>(R.tm q hq).wk λ _ _ _ _=>zAj _⟩;unfold VL.shE at e;rw[zAY]at e;cases e0:Y[i]? with
 |none=>rw[e0]at e;cases e
 |some s0=>
  rw[e0]at e;cases e;rcases R.sl i s0 e0 with rfl|⟨v,ev,hv⟩
  .exact .inl rfl
  .obtain⟨d,h1,h2⟩:=aKa hv
   rcases h1 with rfl|h1
   .exact .inl rfl
   .rcases h2 with rfl|h2
    .exact .inl rfl
    .exact .inr ⟨v,ev,by rw[h1];exact h2.wk λ _ _ _ _=>zAj _⟩
def aHe{i:Nat}(e:(stE js Y)[i]? =some s):s= .no\/∃j,js[i]? =some (some j)/\Y[j]? =some s:=by
 unfold stE at e;rw[zAY]at e;cases ej:js[i]? with
 |none=>rw[ej]at e;cases e
 |some o=>
  rw[ej]at e;cases o with
  |none=>cases e;exact .inl rfl
  |some j=>
   cases er:Y[j]? with
   |none=>simp[er]at e;exact .inl e.symm
   |some s'=>simp[er]at e;subst e;exact .inr ⟨j,rfl,er⟩
def RR.block{K:zAA}{U:List (V×D)}(R:RR K G U (VL.shE Y) Z H lab)(hz:∀p,(lab p).1<=1)(hl:H l=none):
  RR K G U (stE js (VL.shE Y)) (stV js Z) H (λ p=>if p=l then(2,0)else(0,0)):=by
 have nl:∀p o,H p=some o->p≠l:=λ p o e z=>by subst z;rw[hl]at e;cases e
 refine⟨by unfold stE stV;rw[zAD,zAD],λ i s e=>?_,R.old,λ p hp=>?_,λ q hq=>(R.tm q hq).wk λ p o e _=>by rw[if_neg (nl p o e)];exact zAj _⟩
 .rcases aHe e with rfl|⟨j,ej,es⟩
  .exact .inl rfl
  .rcases R.sl j s es with rfl|⟨v,ev,hv⟩
   .exact .inl rfl
   .refine .inr ⟨v,?_,?_⟩
    .unfold stV
     rw[zAY,ej];simp[ev]
    .unfold VL.shE at es
     rw[zAY]at es;cases e0:Y[j]? with
     |none=>rw[e0]at es;cases es
     |some s0=>
      rw[e0]at es;cases es;cases s0 with
      |no=>trivial
      |oz d=>exact Rp.wk (λ p o e _=>by show(if p=l then((2,0):Nat×Nat)else(0,0)).1<=1;rw[if_neg (nl p o e)];exact zAj _) hv
      |nw d=>exact Rp.wk (λ p o e _=>by show(if p=l then((2,0):Nat×Nat)else(0,0)).1<=1;rw[if_neg (nl p o e)];exact zAj _) hv
      |sh d=>exact Rp.wk (λ p o e _=>by show(if p=l then((2,0):Nat×Nat)else(0,0)).1<=1;rw[if_neg (nl p o e)];exact zAj _) hv
      |ow d=>exact Rp.wk (λ p o e _=>by show(if p=l then((2,0):Nat×Nat)else(0,0)).1<=1;rw[if_neg (nl p o e)];exact zAj _) hv
      |o2 d=>exact Rp.wk (λ p o e _=>by show(if p=l then((2,0):Nat×Nat)else(0,0)).1<=1;rw[if_neg (nl p o e)];exact zAj _) hv
 .by_cases hp':p=l
  .subst hp';exact R.old.free hl
  .exact absurd (show(if p=l then((2,0):Nat×Nat)else(0,0)).1=0 by rw[if_neg hp']) hp
def aQI(XN N:List Str)(js:kQ)(ks:List Nat)(sc:Scope):Bool:=(zAm js.length).all λ i=>match js[i]? with
 |some (some j)=>match N[i]?,XN[j]? with
  |some x,some y=>x==y&&sc.names.lookup x==some .free&& !ks.contains i
  |_,_=>false
 |_=>true
def aCD(h1:sc.kind= .function)(h2:(sc.names.all λ y=>y.2 != .cell||sc.names.lookup y.1==some .cell)=true)(h3:(sc.names.all λ y=>y.2 != .local||sc.names.lookup y.1==some .local)=true)
  (h4:(sc.names.all λ y=>y.2 != .free||(X.env.kindOf y.1==some .cell||X.env.kindOf y.1==some .free))=true)(h5:js.length=N.length)(h6:aQI X.N N js ks sc=true):fD X sc N (stV js) ks:=by
 refine⟨h1,λ y hy e=>?_,λ y hy e=>?_,λ y hy e=>?_,λ Z=>by unfold stV;rw[zAD];exact h5,λ Z i x v e1 e2=>?_⟩
 .have:=zA8.mp h2 y hy
  rw[e]at this;simpa using this
 .have:=zA8.mp h3 y hy
  rw[e]at this;simpa using this
 .have:=zA8.mp h4 y hy
  rw[e]at this;simpa using this
 .unfold stV at e2
  rw[zAY]at e2;cases ej:js[i]? with
  |none=>rw[ej]at e2;cases e2
  |some o=>
   rw[ej]at e2;cases o with
   |none=>cases e2
   |some j=>
    have hi:i<js.length:=(zAN.mp ej).1
    have:=zA8.mp h6 i (zBU.mpr hi)
    rw[ej,e1]at this;dsimp only at this;cases ey:X.N[j]? with
    |none=>rw[ey]at this;cases this
    |some y=>
     rw[ey]at this;simp only[zAK,beq_iff_eq,zCw]at this;obtain⟨⟨h,h'⟩,h''⟩:=this;subst h;refine⟨h',λ hk=>?_,j,ey,?_⟩
     .rw[List.contains_iff_mem.mpr hk]at h'';cases h''
     .simp only[zDM,zHv,Option.some.injEq]at e2
      cases es:Z[j]? with
      |none=>rw[es]at e2;cases e2
      |some w=>rw[es]at e2;simp at e2;subst e2;rfl
abbrev Ct.blk(C:Ct)(sc:Scope)(N:List Str):Ct where
 ι:=C.ι×Addr×List Addr×zAG×Hp
 X:=λ i=>(C.X i.1).block sc i.2.1 N i.2.2.1 i.2.2.2.1 i.2.2.2.2
 prog:=C.prog
 w:=C.w
 K:=C.K
 mg:=C.mg
 base:=C.base
 k:=C.k
 G:={C.G with E:=λ _ _ _=>False}
 cx:=λ i=>C.cx i.1
 calm:=λ i=>C.calm i.1
 room:=λ i=>C.room i.1
 own:=λ i=>PassesOwn.never
 pass:=λ i kX Z H s e s' I h=>by obtain⟨_,_,_,_,_,_,_,_,_,_,_,_,_,hE⟩:=h;exact hE
 dOk:=false
 dcx:=λ h=>absurd h zAO
def lcL(Y:En)(fg:D->En->Rs En)(ft:En->Rs Bool)(fe:En->Rs D):List D->Rs (List D)
 |[]=>.ok []
 |d::ds=>(fg d Y).bd λ Y1=>(ft Y1).bd λ k=>if k=true then(fe Y1).bd λ y=>(lcL Y fg ft fe ds).bd λ ys=>.ok (y::ys)else lcL Y fg ft fe ds
def lcD(fi:En->Rs (List D))(js:kQ)(fg:D->En->Rs En)(ft:En->Rs Bool)(fe:En->Rs D):En->Rs D:=λ Y=>(fi (shE Y)).bd λ ds=>
 if ds.length<zAX then(match lcL (stE js (shE Y)) fg ft fe ds with
  | .ok l=>.ok (.lst l)
  |_=>.st)else .st
def aKA(C:Ct)(ifs:List Expr)(f:En->Rs Bool):Prop:=∃t,(∀i,aDd (C.X i) ifs t)/\aFF C.K C.G t f
def jh:En->Rs Bool:=λ _=>.ok true
def o6:aKA C [] jh:=⟨_,λ _=>aNT,λ U Z H Y lab Q R W=>W H (aV.refl H)⟩
def nA(h:ST C c f):aKA C [c] f:=let⟨t,h1,h2⟩:=h;⟨t,λ i=>aNS (h1 i),h2⟩
def aDA(h:lcL Y fg ft fe (d::ds)= .ok l):
  ∃Y1 k,fg d Y= .ok Y1/\ft Y1= .ok k/\((k=true/\∃y ys,fe Y1= .ok y/\lcL Y fg ft fe ds= .ok ys/\l=y::ys)\/(k=false/\lcL Y fg ft fe ds= .ok l)):=by
 unfold lcL at h;obtain⟨Y1,e1,h⟩:=dO h;obtain⟨k,e2,h⟩:=dO h;refine⟨Y1,k,e1,e2,?_⟩;cases k with
 |true=>
  rw[if_pos rfl]at h;obtain⟨y,e3,h⟩:=dO h;obtain⟨ys,e4,h⟩:=dO h;cases h;exact .inl ⟨rfl,y,ys,e3,e4,rfl⟩
 |false=>
  rw[if_neg zAO]at h;exact .inr ⟨rfl,h⟩
def RR.but_blk{K:zAA}{U:List (V×D)}(R:RR K G U (stE js (VL.shE Y)) Z H (λ p=>if p=l then(2,0)else(0,0)))(B:mY l H H')(hl:H l=some o)(ho:lK o=true)(h0:G.H0 l=none):
  RR K G U (stE js (VL.shE Y)) Z H' (λ p=>if p=l then(2,0)else(0,0)):=by
 have dQ:¬((λ p=>if p=l then((2,0):Nat×Nat)else(0,0)) l).1<=1:=by simp
 refine⟨R.len,λ j s e=>?_,λ b o hb=>?_,R.new,λ q hq=>(R.tm q hq).but B hl ho dQ⟩
 .rcases R.sl j s e with z|⟨u,e1,e2⟩
  .exact .inl z
  .refine .inr ⟨u,e1,?_⟩
   rcases aHe e with rfl|⟨jx,ej,es⟩
   .trivial
   .unfold VL.shE at es
    rw[zAY]at es;cases e0:Y[jx]? with
    |none=>rw[e0]at es;cases es
    |some s0=>rw[e0]at es;cases es;cases s0<;>first|trivial|exact Rp.but B hl ho dQ e2
 .exact B b o (λ z=>by subst z;rw[h0]at hb;cases hb) (R.old b o hb)
def RR.blk0{K:zAA}(R:RR K G U (VL.shE Y) Z H lab)(hG:G'.H0=G.H0):RR K G' U (VL.shE Y) Z H (λ _=>(0,0)):=by
 refine⟨R.len,λ i s e=>?_,by rw[hG];exact R.old,λ p hp=>absurd rfl hp,λ q hq=>(R.tm q hq).wk λ _ _ _ _=>zAj _⟩;rcases R.sl i s e with rfl|⟨v,ev,hv⟩
 .exact .inl rfl
 .unfold VL.shE at e
  rw[zAY]at e;cases e0:Y[i]? with
  |none=>rw[e0]at e;cases e
  |some s0=>rw[e0]at e;cases e;cases s0<;>first|exact .inl rfl|exact .inr ⟨v,ev,Rp.wk (λ _ _ _ _=>zAj _) hv⟩
section
variable{K:zAA}{G:Gx}{wi:TI}{fi:En->Rs (List D)}{js:kQ}{g:TG}{fg:D->En->Rs En}{tt:TT}{ft:En->Rs Bool}{te:TE}{fe:En->Rs D}
def aHi(hi:aLz K G wi fi)(hg:aMA K {G with E:=λ _ _ _=>False} g fg)(ht:aFF K {G with E:=λ _ _ _=>False} tt ft)(he:jH K {G with E:=λ _ _ _=>False} (some []) te fe):
  jH K G (some []) (tLC wi (stV js) g tt te) (lcD fi js fg ft fe):=by
 intro U Z H Y lab Q R W;refine hi U Z H _ _ _ R.shE (W.bd.imp λ ds _ w J H1 lab1 U1 s1 _ R1 jl=>?_);intro l hl;obtain⟨kK,out,aS,w⟩:ds.length<zAX/\∃out,lcL (stE js (VL.shE Y)) fg ft fe ds= .ok out/\QE K (some []) lab H Q (.lst out):=by
  by_cases kK:ds.length<zAX
  .rw[if_pos kK]at w
   cases aS:lcL (stE js (VL.shE Y)) fg ft fe ds with
   |ok out=>rw[aS]at w;exact⟨kK,out,rfl,w⟩
   |ex c=>rw[aS]at w;exact zAR w
   |st=>rw[aS]at w;exact zAR w
  .rw[if_neg kK]at w
   exact zAR w
 have R0:RR K {G with E:=λ _ _ _=>False} (U1++U) (VL.shE Y) Z H1 (λ _=>(0,0)):=R1.blk0 rfl;have RB:=R0.block (js:=js) (λ _=>zAj _) hl;have hHl:H l=none:=s1.free hl;have dQ:¬((λ p=>if p=l then((2,0):Nat×Nat)else(0,0)) l).1<=1:=by simp
 refine⟨λ i n acc H2=>∃pre,n=ds.length-i/\i<=ds.length/\H2 l=some (.lst acc)/\RR K {G with E:=λ _ _ _=>False} (U1++U) (stE js (VL.shE Y)) (stV js Z) H2 (λ p=>if p=l then(2,0)else(0,0))/\aV H H2/\acc.length<=i/\
  Rps K (λ p=>H p=none/\p≠l) H2 acc pre/\∃post,lcL (stE js (VL.shE Y)) fg ft fe (ds.drop i)= .ok post/\out=pre++post,⟨ds.length,[],by lia,by lia,aZ,RB.up (bD hl _),s1.trans (bD hl _),zAQ _,.nil,out,aS,rfl⟩,?_⟩
 rintro i n acc H2 ⟨pre,rfl,hi,hH2,R2,s2,aE,rpre,post,hpost,eout⟩;refine⟨hH2,by lia,?_⟩;have jj:=jl _ H2 λ q hq=>R2.tm q (zA7 _ hq)
 by_cases hlt:i<ds.length
 .obtain⟨go,yl⟩:=(jj i).2 hlt
  refine .inr ⟨go,λ x H3 hy=>?_⟩;obtain⟨s3,d,ed,rx⟩:=yl x H3 hy;replace R2:=R2.up s3;replace hH2:=s3 _ _ hH2;replace s2:=s2.trans s3;replace rpre:=rpre.up s3;have ed2:ds.drop i=d::ds.drop (i+1):=by
   rw[zDE hlt]
   have:=zAI hlt
   rw[ed]at this;cases this;rfl
  rw[ed2]at hpost;obtain⟨Y1,k,e1,e2,e3⟩:=aDA hpost;refine hg (U1++U) x d _ H3 _ _ _ Y1 R2 rx e1 λ Z4 R4=>?_
  refine ht (U1++U) Z4 H3 Y1 _ _ R4 ?_;rw[e2];intro H5 s5;rcases e3 with ⟨rfl,y,ys,e3,e4,rfl⟩|⟨rfl,e4⟩
  .rw[if_pos rfl]
   refine he (U1++U) Z4 H5 Y1 _ _ (R4.up s5) ?_;rw[e3];intro v H6 s6 r6;have hl6:H6 l=some (.lst acc):=s6 _ _ (s5 _ _ hH2);have B:mY l H6 (upd H6 l (.lst (acc++[v]))):=λ b o ne hb=>by rw[aX ne];exact hb
   refine⟨hl6,ds.length-(i+1),by lia,pre++[y],rfl,hlt,aZ,?_,?_,by rw[zA1];simp;lia,?_,ys,e4,by rw[eout];simp⟩
   .exact(R2.up (s5.trans s6)).but_blk B hl6 rfl (R1.old.free hl)
   .exact λ b o hb=>B b o (λ z=>by subst z;rw[hHl]at hb;cases hb) (((s2.trans s5).trans s6) b o hb)
   .refine((rpre.up (s5.trans s6)).append (.cons (r6.wk λ p o _ z=>?_) .nil)).but B hl6 rfl λ z=>z.2 rfl
    rcases z with z|z
    .exact⟨(s2.trans s5).free z,λ e=>by subst e;rw[s5 _ _ hH2]at z;cases z⟩
    .cases z
  .rw[if_neg zAO]
   exact⟨ds.length-(i+1),by lia,pre,rfl,hlt,s5 _ _ hH2,R2.up s5,s2.trans s5,by lia,rpre.up s5,post,e4,eout⟩
 .have ei:i=ds.length:=by lia
  subst ei;rw[zE7]at hpost;cases hpost;rw[zBC]at eout;subst eout;exact .inl ⟨(jj _).1 (zAQ _),w _ H2 s2 (.lst hH2 (.inl hHl) (rpre.wk λ p o _ z=>⟨.inl z.1,z.2⟩))⟩
end
section
variable{C:Ct}{pos:Pos}{elt tg iter:Expr}{ifs:List Expr}{sc:Scope}{N:List Str}{js:kQ}{ks:List Nat}{fi:En->Rs (List D)}{fg:D->En->Rs En}{ft:En->Rs Bool}{fe:En->Rs D}
def bx{C:Ct}(nd:N.Nodup:=by decide+kernel)(hk:i∈ks:=by decide)(hN:∀j,((C.blk sc N).X j).N[i]? =some x:=by intro _;rfl)(hx:∀j,Loc ((C.blk sc N).X j).env.scope x:=by intro _;first|exact zCf rfl|exact zCC rfl)
  (hf:∀j,((C.blk sc N).X j).fn x=true\/((C.blk sc N).X j).env.scope.names.lookup x=some .local:=by intro _;first|exact .inl rfl|exact .inr rfl):SG (C.blk sc N) (.Name x pos) ks (gnm i):=
 bR hN hx hf (λ _=>nd) hk
def ou(hi:SI C tg iter fi)(hg:SG (C.blk sc N) tg ks fg)(ht:aKA (C.blk sc N) ifs ft)(he:SE (C.blk sc N) (some []) elt fe)(hs:∀i x,zCH iter (C.X i).env x=pure x:=by intro _ _;rfl)(hB:∀i,fD (C.X i) sc N (stV js) ks:=by intro _;exact aCD rfl rfl rfl rfl rfl rfl):SE C (some []) (.ListComp elt [⟨tg,iter,ifs,0⟩] sc pos) (lcD fi js fg ft fe):=by
 obtain⟨wi,i1,i2⟩:=hi;obtain⟨g,g1,g2,g3,g4⟩:=hg;obtain⟨tt,t1,t2⟩:=ht;obtain⟨te,e1,e2⟩:=he;exact⟨_,λ i=>aPS (hB i) (C.calm i) (i1 i) (λ c fp z0 zS=>g1 (i,c,fp,z0,zS)) g3 (λ c fp z0 zS=>t1 (i,c,fp,z0,zS)) (λ c fp z0 zS=>e1 (i,c,fp,z0,zS)) (hs i),aHi i2 g2 t2 e2⟩
def aFJ(hi:SI C tg iter fi)(hg:SG (C.blk sc N) tg ks fg)(ht:aKA (C.blk sc N) ifs ft)(he:SE (C.blk sc N) (some []) elt fe)(hN:∀j,(C.X j).N[i]? =some x:=by intro _;rfl)(hx:∀j,Loc (C.X j).env.scope x:=by intro _;first|exact zCf rfl|exact zCC rfl)(hsw:∀j,zCp (.ListComp elt [⟨tg,iter,ifs,0⟩] sc pos) (some (.Name x pos')) spos.line (C.X j).env=pure true:=by intro _;rfl)(hs:∀i x,zCH iter (C.X i).env x=pure x:=by intro _ _;rfl)(hf:∀j,(C.X j).fn x=true\/(C.X j).env.scope.names.lookup x=some .local:=by intro _;first|exact .inl rfl|exact .inr rfl)(nd:∀j,(C.X j).N.Nodup:=by intro _;assumption)(hB:∀i,fD (C.X i) sc N (stV js) ks:=by intro _;exact aCD rfl rfl rfl rfl rfl rfl):
  SV C i (.Assign [.Name x pos'] (.ListComp elt [⟨tg,iter,ifs,0⟩] sc pos) spos) (some []) (lcD fi js fg ft fe):=by
 obtain⟨wi,i1,i2⟩:=hi;obtain⟨g,g1,g2,g3,g4⟩:=hg;obtain⟨tt,t1,t2⟩:=ht;obtain⟨te,e1,e2⟩:=he;exact⟨_,λ j=>aCc (nd j) (hN j) (hx j) (hB j) (C.calm j) (i1 j) (λ c fp z0 zS=>g1 (j,c,fp,z0,zS)) g3 (λ c fp z0 zS=>t1 (j,c,fp,z0,zS)) (λ c fp z0 zS=>e1 (j,c,fp,z0,zS)) (hsw j) (hs j) (hf j),aHi i2 g2 t2 e2⟩
end
def RR.mut{K:zAA}(R:RR K G U Y Z H lab)(ev:Z[i]? =some (some v))(hl:H l=some o)(ho:lK o=true)(bP:(lab l).1=i+2)
  (B:mY l H H')(h':fU K H' lab i v s'):RR K G U (Y.set i s') Z H' lab:=by
 refine⟨by rw[zBK];exact R.len,λ j x e=>?_,λ b u hb=>B b u (λ z=>?_) (R.old b u hb),R.new,λ q hq=>(R.tm q hq).but B hl ho λ z=>by lia⟩
 .by_cases hj:i=j
  .subst hj
   have hi:i<Y.length:=by
    have:=(zAN.mp e).1
    rwa [zBK]at this
   rw[zBv hi]at e;cases e;exact .inr ⟨v,ev,h'⟩
  .rw[zB7 hj]at e
   rcases R.sl j x e with z|⟨u,e1,e2⟩
   .exact .inl z
   .refine .inr ⟨u,e1,?_⟩
    cases x with
    |no=>trivial
    |sh d=>exact Rp.but B hl ho (λ z=>by lia) e2
    |nw d=>exact Rp.but B hl ho (λ z=>by lia) e2
    |ow d=>exact⟨Rp.but B hl ho (λ z=>by lia) e2.1,e2.2⟩
    |oz d=>
     obtain⟨a,xs,ds,q1,q2,q3,q4,q5⟩:=e2;exact⟨a,xs,ds,q1,q2,B a _ (λ z=>by subst z;exact hj (by lia)) q3,q4,Rps.but B hl ho (λ z=>by lia) q5⟩
    |o2 ll=>
     obtain⟨a,xs,q1,q2,q3,q4,q5⟩:=e2;refine⟨a,xs,q1,B a _ (λ z=>?_) q2,q3,q4,λ jj y ds f1 f2=>(q5 jj y ds f1 f2).but B hl ho λ z=>?_⟩
     .rw[z]at q3;rw[q3]at bP;exact hj (by simpa using bP.symm)
     .rw[z]at bP;exact hj (by simpa using bP.symm)
 .subst z
  have:=R.new b (by rw[bP];lia)
  rw[this]at hb;cases hb
section
variable{C:Ct}{pos apos cpos p:Pos}{e a:Expr}{fe fa:En->Rs D}{i:Nat}{x:Str}{m:Mode}
def oN(i:Nat)(fe:En->Rs D):En->Ou:=λ Y=>match Y[i]? with
 |some (.ow (.lst ds))=>(fe Y).bo λ d=>if ds.length<zAX then .nx (Y.set i (.ow (.lst (ds++[d]))))else .st
 |_=>.st
def gU(i:Nat)(he:SE C m e fe)(hm:okN m=true:=by rfl)(hN:∀j,(C.X j).N[i]? =some x:=by intro _;rfl)(hv:∀j,Vis (C.X j).env.scope x:=by intro _;first|exact zCf rfl|exact zCC (zCf rfl)|exact zCC (zCC rfl))(hd:Nd x:=by decide)
  (hcd:(x==("__classdict__":Str))=false:=by decide)(hs1:∀j,zAZ [e] (C.X j).env=[(false,eval e (C.X j).env)]:=by intro _;rfl)
  (hbase:∀j,zEq (.Name x p) "append" (C.X j).env (eval (.Name x p) (C.X j).env)=eval (.Name x p) (C.X j).env:=by intro _;rfl)
  (hfew:∀j,((zCo cpos (zAZ [e] (C.X j).env)).all (λ x=>!x.1)&&(zGE cpos (zEL [] (C.X j).env)).all (λ x=>x.1.isSome)&&decide ([e].length+([]:List zDJ).length+(if ([]:List zDJ).isEmpty then 0 else 1)<30))=true:=by intro _;rfl)
  (hline:(apos.endLine==cpos.line)=true:=by rfl)
  (hsw:∀j,zCp (.Call (.Attribute (.Name x p) "append" apos) [e] [] cpos) none pos.line (C.X j).env=pure false:=by intro _;rfl):
  SS C (.Expr (.Call (.Attribute (.Name x p) "append" apos) [e] [] cpos) pos) (oN i fe):=by
 obtain⟨t,h1,h2⟩:=he;refine⟨xQ (tBM C.K "list" yC (oJ i) (jA t oK)),λ j=>qJ (by rw[<-C.hK j];exact aAR zC8 zE6 zGQ yW (gD (hN j) (hv j) hd hcd) (ak (h1 j) cj (hs1 j)) (hbase j) (hfew j) hline (hs1 j) rfl) (hsw j),λ U Z H Y lab De R W=>?_⟩;unfold oN at W;cases es:Y[i]? with
 |none=>rw[es]at W;exact zAR W
 |some s=>
  rw[es]at W;split at W
  .rename_i ds hs
   cases hs;rcases R.sl i _ es with z|⟨v,ev,hv'⟩
   .cases z
   .obtain⟨hv1,htop⟩:=hv'
    obtain⟨a0,ea0,la0⟩:=htop rfl;subst ea0;cases hv1 with
    |lst h mm r=>
     rename_i xs;refine⟨.ref a0,ev,.inl ⟨rfl,xs,SqL.of h⟩,h2 U Z H Y lab _ R (W.bo.imp λ d _ w y H2 s2 r2=>?_)⟩;by_cases hz:ds.length<zAX
     .rw[if_pos hz]at w
      refine⟨a0,xs,y,rfl,rfl,s2 _ _ h,by rw[r.length];exact hz,λ H3 B h3=>?_⟩;obtain⟨R',r'⟩:=R.fresh (P:=λ k=>k=1) rfl (λ k hk=>beq_iff_eq.mp (qL hm k hk)) s2 r2;have la:(cT H 1 lab a0).1=i+2:=by rw[bj h];exact la0
      refine w Z H3 _ (R'.mut ev (s2 _ _ h) rfl la B ⟨.lst h3 (.inr la) ?_,λ _=>⟨a0,rfl,la⟩⟩);have ra:Rps C.K (λ p=>((cT H 1 lab p).1=1\/(cT H 1 lab p).1=i+2)/\p≠a0) H2 (xs++[y]) (ds++[d]):=by
       refine(r.mono s2 λ p o e z=>⟨by rw[bj e];exact z.1,z.2⟩).append (.cons (r'.wk λ p o e z=>⟨.inl z,λ q=>?_⟩) .nil);subst q;rw[la]at z;lia
      exact ra.but B (s2 _ _ h) rfl λ z=>z.2 rfl
     .rw[if_neg hz]at w
      exact zAR w
  .exact zAR W
def at2(ll:fE):D->Option (Nat×List D)
 | .int n=>(ixN ll.length n).bind λ j=>(ll[j]?).map λ ds=>(j,ds)
 |_=>none
def jR(i:Nat)(fa fe:En->Rs D):En->Ou:=λ Y=>match Y[i]? with
 |some (.o2 ll)=>(fa Y).bo λ k=>match at2 ll k with
  |some (j,ds)=>(fe Y).bo λ d=>if ds.length<zAX then .nx (Y.set i (.o2 (ll.set j (ds++[d]))))else .st
  |none=>.st
 |_=>.st
def aJu(h:at2 ll k=some (j,ds)):∃n,k= .int n/\ixN ll.length n=some j/\ll[j]? =some ds:=by
 cases k with
 |int n=>
  simp only[at2,Option.bind_eq_some_iff,zDT]at h;obtain⟨j',h1,ds',h2,h3⟩:=h;cases h3;exact⟨n,rfl,h1,h2⟩
 |_=>cases h
def mq(i:Nat){p2:Pos}(ha:SE C m a fa)(he:SE C (some []) e fe)(hN:∀j,(C.X j).N[i]? =some x:=by intro _;rfl)(hv:∀j,Vis (C.X j).env.scope x:=by intro _;first|exact zCf rfl|exact zCC (zCf rfl)|exact zCC (zCC rfl))(hd:Nd x:=by decide)
  (hcd:(x==("__classdict__":Str))=false:=by decide)(hs1:∀j,zAZ [e] (C.X j).env=[(false,eval e (C.X j).env)]:=by intro _;rfl)(hp:aCJ a:=by exact λ _ _=>rfl)
  (hbase:∀j,zEq (.Subscript (.Name x p) a p2) "append" (C.X j).env (eval (.Subscript (.Name x p) a p2) (C.X j).env)=eval (.Subscript (.Name x p) a p2) (C.X j).env:=by intro _;rfl)
  (hfew:∀j,((zCo cpos (zAZ [e] (C.X j).env)).all (λ x=>!x.1)&&(zGE cpos (zEL [] (C.X j).env)).all (λ x=>x.1.isSome)&&decide ([e].length+([]:List zDJ).length+(if ([]:List zDJ).isEmpty then 0 else 1)<30))=true:=by intro _;rfl)
  (hline:(apos.endLine==cpos.line)=true:=by rfl)
  (hsw:∀j,zCp (.Call (.Attribute (.Subscript (.Name x p) a p2) "append" apos) [e] [] cpos) none pos.line (C.X j).env=pure false:=by intro _;rfl):
  SS C (.Expr (.Call (.Attribute (.Subscript (.Name x p) a p2) "append" apos) [e] [] cpos) pos) (jR i fa fe):=by
 obtain⟨t,h1,h2⟩:=he;obtain⟨ta,a1,a2⟩:=ha;refine⟨xQ (tBM C.K "list" yC (tOp (aNH C.K) (oJ i) ta) (jA t oK)),λ j=>qJ (by rw[<-C.hK j];exact aAR zC8 zE6 zGQ yW (aI2 aBi (gD (hN j) (hv j) hd hcd) (a1 j) hp) (ak (h1 j) cj (hs1 j)) (hbase j) (hfew j) hline (hs1 j) rfl) (hsw j),λ U Z H Y lab De R W=>?_⟩;unfold jR at W;cases es:Y[i]? with
 |none=>rw[es]at W;exact zAR W
 |some s=>
  rw[es]at W;cases s with
  |o2 ll=>
   dsimp only at W;rcases R.sl i _ es with z|⟨v,ev,top,xs,rfl,ht,hlt,kK,hin⟩
   .cases z
   .refine⟨.ref top,ev,a2 U Z H Y lab _ R (W.bo.imp λ k _ w kv H1 s1 r1=>?_)⟩
    cases hk:at2 ll k with
    |none=>rw[hk]at w;exact zAR w
    |some q=>
     obtain⟨j,ds⟩:=q;rw[hk]at w;dsimp only at w;obtain⟨n,rfl,hj,hds⟩:=aJu hk;cases r1;have hjx:∃xj,xs[j]? =some xj:=by
      have:j<xs.length:=by rw[kK];exact(zAN.mp hds).1
      exact⟨_,zAI this⟩
     obtain⟨xj,hxj⟩:=hjx;have hr:=hin j xj ds hxj hds;cases hr with
     |lst hl ml rl=>
      rename_i l ys;refine⟨top,xs,n,.ref l,rfl,rfl,SqL.of (s1 _ _ ht),by unfold atI;rw[kK,hj];exact hxj,.inl ⟨rfl,ys,SqL.of (s1 _ _ hl)⟩,h2 U Z H1 Y lab _ (R.up s1) (w.bo.imp λ d _ w y H2 s2 r2=>?_)⟩;by_cases hz:ds.length<zAX
      .rw[if_pos hz]at w
       have s12:=s1.trans s2;refine⟨l,ys,y,rfl,rfl,s12 _ _ hl,by rw[rl.length];exact hz,λ H3 B h3=>?_⟩;have ltop:l≠top:=λ e=>by rw[e,hlt]at ml;cases ml
       let lab':Lab:=λ p=>match H1 p with
        |none=>(i+2,j+1)
        |some _=>lab p
       have lo:∀{p o},H1 p=some o->lab' p=lab p:=λ{p o} e=>by show(match H1 p with|none=>_|some _=>_)=_;rw[e]
       have ln:∀{p},H1 p=none->lab' p=(i+2,j+1):=λ{p} e=>by show(match H1 p with|none=>_|some _=>_)=_;rw[e]
       have R':RR C.K C.G U Y Z H2 lab':=((R.up s1).relab (λ p o e=>lo e) λ p hp=>by
        cases e:H1 p with
        |none=>exact(R.old.trans s1).free e
        |some o=>rw[lo e]at hp;exact R.new p hp).up s2
       have dP:lab' l=(i+2,j+1):=by rw[lo (s1 _ _ hl)];exact ml
       refine w Z H3 lab' (R'.mut ev (s12 _ _ hl) rfl (by rw[dP]) B ⟨top,xs,rfl,B _ _ (zDU ltop) (s12 _ _ ht),by rw[lo (s1 _ _ ht)];exact hlt,by rw[zBK];exact kK,λ jj z dz f1 f2=>?_⟩);by_cases hjj:j=jj
       .subst hjj
        rw[hxj]at f1;cases f1;rw[zBv (zAN.mp hds).1]at f2;cases f2;refine .lst h3 dP ?_;have ra:Rps C.K (λ p=>lab' p=(i+2,j+1)/\p≠l) H2 (ys++[y]) (ds++[d]):=by
         refine(rl.mono s12 λ p o e z=>⟨by rw[lo (s1 _ _ e)];exact z.1,z.2⟩).append (.cons (r2.wk λ p o e z=>?_) .nil);rcases z with z|z
         .exact⟨ln z,λ q=>by subst q;rw[s1 _ _ hl]at z;cases z⟩
         .cases z
        exact ra.but B (s12 _ _ hl) rfl λ z=>z.2 rfl
       .rw[zB7 hjj]at f2
        refine((hin jj z dz f1 f2).mono s12 (A':=λ p=>lab' p=(i+2,jj+1)) λ p o e q=>by rw[lo (s1 _ _ e)];exact q).but B (s12 _ _ hl) rfl λ q=>?_
        rw[dP]at q;simp only[Prod.mk.injEq]at q;lia
      .rw[if_neg hz]at w
       exact zAR w
  |_=>exact zAR W
end
mutual
def eqD:D->D->Bool
 | .non,.non=>true
 | .bl a,.bl b=>a==b
 | .bl a,.int b=>(if a then 1 else 0)==b
 | .int a,.bl b=>a==(if b then 1 else 0)
 | .int a,.int b=>a==b
 | .str a,.str b=>a==b
 | .tup l,.tup m=>iI l m
 | .lst l,.lst m=>iI l m
 |_,_=>false
def iI:List D->List D->Bool
 |[],[]=>true
 |x::xs,y::ys=>eqD x y&&iI xs ys
 |_,_=>false
end
mutual
def lD:D->Nat
 | .tup l=>fj l+1
 | .lst l=>fj l+1
 |_=>0
def fj:List D->Nat
 |[]=>0
 |d::r=>max (lD d) (fj r)
end
mutual
def bA:D->Bool
 | .tup l=>bY l
 | .lst l=>bY l
 | .dct _ _=>false
 | .set _=>false
 | .scr _=>false
 | .fn _=>false
 |_=>true
def bY:List D->Bool
 |[]=>true
 |d::r=>bA d&&bY r
end
mutual
theorem uB:∀d:D,bA d=true->eqD d d=true
 | .non,_=>by simp[eqD]
 | .bl b,_=>by simp[eqD]
 | .int i,_=>by simp[eqD]
 | .str x,_=>by simp[eqD]
 | .tup l,h=>by exact vL l (by simpa[bA]using h)
 | .lst l,h=>by exact vL l (by simpa[bA]using h)
 | .dct _ _,h=>by simp[bA]at h
 | .set _,h=>by simp[bA]at h
 | .scr _,h=>by simp[bA]at h
theorem vL:∀l:List D,bY l=true->iI l l=true
 |[],_=>by simp[iI]
 |d::r,h=>by
  simp only[bY,zAK]at h;simp only[iI,zAK];exact⟨uB d h.1,vL r h.2⟩
end
structure mV(K:zAA)(H:Hp)(s:zAG):Prop where
 tup:∀{a:Addr} {xs:List V},SqT K H a xs->∃its:List Value,Vals xs its/\s.heap.IsTuple a its.toArray
 lst:∀{a:Addr} {xs:List V},H a=some (.lst xs)->∃its:List Value,Vals xs its/\s.heap.IsList a its.toArray
 inj:∀{a:Addr} {xs ys:List V},SqT K H a xs->SqT K H a ys->xs=ys
 ne:∀{a:Addr} {xs ys:List V},SqT K H a xs->H a=some (.lst ys)->False
def Inv.seqOk(I:L2.Inv X kX Z H s):mV X.K H s where
 tup:=λ h=>let⟨its,r,p,_⟩:=I.tuple h;⟨its,r,p⟩
 lst:=λ h=>let⟨its,r,p,_⟩:=I.list (SqL.of h);⟨its,r,p.isList⟩
 inj:=λ h h'=>I.tuple_inj h h'
 ne:=λ h h'=>by
  obtain⟨its,_,⟨o,e,c,_⟩,_⟩:=I.tuple h;obtain⟨its2,_,⟨o2,n2,e2,c2,_⟩,_⟩:=I.list (SqL.of h');rw[e]at e2;cases e2;rw[c]at c2;injection c2 with c3
  exact absurd c3 (by decide)
section
variable{K:zAA}{H:Hp}{s:zAG}
def ndP:D->Prop
 | .dct _ _=>False
 | .set _=>False
 | .scr _=>False
 | .fn _=>False
 |_=>True
def ndx{d:D}(h:bA d=true):ndP d:=by cases d<;>first|exact zET|(simp[bA]at h)
def bZ(h:bA (.dct a b)=true):False:=by simp[bA]at h
def fH(h:bA (.set a)=true):False:=by simp[bA]at h
def fJ(h:bA (.scr a)=true):False:=by simp[bA]at h
def iC(h:bA (.fn a)=true):False:=by simp[bA]at h
def j0(h:bA (.tup a)=true):bY a=true:=by simpa[bA]using h
def j6(h:bA (.lst a)=true):bY a=true:=by simpa[bA]using h
def lJ(h:bY (d::a)=true):bA d=true/\bY a=true:=by
 simp only[bY,zAK]at h;exact h
def aMF(K:zAA)(s:zAG)(H:Hp)(x:V)(d:D):Prop:=mV K H s->∀(A':Addr->Prop) (e:D),Rp K A' H x e->bA d=true->bA e=true->d=e
def aDf(K:zAA)(s:zAG)(H:Hp)(xs:List V)(ds:List D):Prop:=mV K H s->∀(A':Addr->Prop) (es:List D),Rps K A' H xs es->bY ds=true->bY es=true->ds=es
def aL2(ha:SqT K H a xs)(ih:aDf K s H xs ds):aMF K s H (.ref a) (.tup ds):=λ ok A' e h n1 n2=>by
 cases h with
 |tup hb r'=>
  have e:=ok.inj ha hb;subst e;rw[ih ok _ _ r' (j0 n1) (j0 n2)]
 |lst hb _ _=>exact(ok.ne ha hb).elim
 |_=>exact zAR (ndx n2)
def aL3(ha:H a=some (.lst xs))(ih:aDf K s H xs ds):aMF K s H (.ref a) (.lst ds):=λ ok A' e h n1 n2=>by
 cases h with
 |tup hb r'=>exact(ok.ne hb ha).elim
 |lst hb _ r'=>
  rw[ha]at hb;cases hb;rw[ih ok _ _ r' (j6 n1) (j6 n2)]
 |_=>exact zAR (ndx n2)
def aJO(h1:aMF K s H x d)(h2:aDf K s H xs ds):aDf K s H (x::xs) (d::ds):=λ ok A' es h n1 n2=>by
 cases h with
 |cons k r'=>rw[h1 ok _ _ k (lJ n1).1 (lJ n2).1,h2 ok _ _ r' (lJ n1).2 (lJ n2).2]
def Rp.inj(ok:mV K H s)(r:Rp K A H x d)(h:Rp K A' H x e)(n1:bA d=true)(n2:bA e=true):d=e:=
 Rp.rec (motive_1:=λ _ H x d _=>aMF K s H x d) (motive_2:=λ _ H xs ds _=>aDf K s H xs ds)
  (λ _ _ _ h _ _=>by cases h;rfl) (λ _ _ _ _ h _ _=>by cases h;rfl) (λ _ _ _ _ h _ _=>by cases h;rfl) (λ _ _ _ _ h _ _=>by cases h;rfl) (λ ha _ ih=>aL2 ha ih) (λ ha _ _ ih=>aL3 ha ih)
  (λ _ _ _ _ _ _ _ _ n1 _=>(bZ n1).elim) (λ _ _ _ _ _ _ _ _ n1 _=>(bZ n1).elim) (λ _ _ _ _ _ _ _ _ n1 _=>(fH n1).elim) (λ _ _ _ _ _ n1 _=>(fJ n1).elim) (λ _ _ _ _ _ n1 _=>(iC n1).elim)
  (λ _ _ _ h _ _=>by cases h;rfl) (λ _ _ h1 h2=>aJO h1 h2) r ok A' e h n1 n2
end
theorem aDV:∀(l m:List D),iI l m=((zAm (min l.length m.length)).all (λ j=>match l[j]?,m[j]? with|some a,some b=>eqD a b|_,_=>true)&&l.length==m.length)
 |[],[]=>by simp[iI]
 |[],y::ys=>by simp[iI]
 |x::xs,[]=>by simp[iI]
 |x::xs,y::ys=>by
  have ih:=aDV xs ys;simp only[iI,ih,zA5,Nat.succ_min_succ,List.range_succ_eq_map,zFQ,zHU,zBe,Function.comp_def,zB0,Nat.succ_eq_add_one,Nat.add_one_inj,zEu];congr 1;congr 1;simp
theorem aAi:∀{l:List D} {d:D},d∈l->lD d<=fj l
 |x::r,d,h=>by
  simp only[fj];rcases zAJ.mp h with rfl|h
  .exact zIu _ _
  .exact zAl (aAi h) (zIq _ _)
theorem rP:∀{l:List D} {d:D},d∈l->bY l=true->bA d=true
 |x::r,d,h,n=>by
  simp only[bY,zAK]at n;rcases zAJ.mp h with rfl|h
  .exact n.1
  .exact rP h n.2
def kO(hn:n=ds.length)(hm:m=es.length):((zAm (min n m)).all (λ j=>match ds[j]?,es[j]? with|some a,some b=>eqD a b|_,_=>true)&&n==m)=iI ds es:=by
 subst hn hm;exact(aDV ds es).symm
section
variable{K:zAA}{H:Hp}{s:zAG}
def aKF(K:zAA)(H:Hp)(s:zAG)(n:Nat):Prop:=∀(A1 A2:Addr->Prop) (x y:V) (d e:D) (A:zAc) (u v:Value),Rp K A1 H x d->Rp K A2 H y e->RelV x u->RelV y v->lD d<=n->bA d=true->bA e=true->A.units+n<cLine->zEJ A s u v (eqD d e)
def aKG(K:zAA)(H:Hp)(s:zAG)(n:Nat):Prop:=∀(A1 A2:Addr->Prop) (xs ys:List V) (ds es:List D) (A:zAc) (us vs:List Value),Rps K A1 H xs ds->Rps K A2 H ys es->Vals xs us->Vals ys vs->fj ds<=n->bY ds=true->bY es=true->A.units+n<cLine->
  ∀(j:Nat) (h1:j<us.toArray.size) (h2:j<vs.toArray.size),zEJ A s us.toArray[j] vs.toArray[j] (match ds[j]?,es[j]? with|some a,some b=>eqD a b|_,_=>true)
def zO(ok:mV K H s)(n:Nat)(IH:∀k,n=k+1->aKG K H s k):aKF K H s n:=by
 intro A1 A2 x y d e A u v r1 r2 ru rv hd nd ne hu;have hu0:A.units<cLine:=by lia
 cases r1 with
 |tup h1 q1=>
  rename_i a xs ds;cases ru;obtain⟨its,w1,t1⟩:=ok.tup h1;cases r2 with
  |tup h2 q2=>
   rename_i b ys es;cases rv;obtain⟨its2,w2,t2⟩:=ok.tup h2;by_cases hab:a=b
   .subst hab
    have e:=Rp.inj ok (Rp.tup h1 q1) (Rp.tup h2 q2) nd ne;rw[<-e,uB _ nd];exact zFU _
   .simp only[lD]at hd
    obtain⟨k,rfl⟩:∃k,n=k+1:=⟨n-1,by lia⟩
    have z:=zGz t1 t2 hu0 (IH k rfl _ _ _ _ _ _ _ _ _ q1 q2 w1 w2 (by lia) (j0 nd) (j0 ne) (by show A.units+1+k<cLine;lia));rw[kO (by rw[zAP,<-w1.length,q1.length]) (by rw[zAP,<-w2.length,q2.length])]at z;simp only[eqD];exact zEn hab z
  |lst h2 mm2 q2=>
   cases rv;obtain⟨its2,w2,t2⟩:=ok.lst h2;simp only[eqD];exact SeqAt.EqAt.tuple_list t1 t2 hu0
  |non=>cases rv;exact SeqAt.EqAt.tuple_none t1 hu0
  |bl b=>cases rv;exact SeqAt.EqAt.tuple_bool b t1 hu0
  |int i=>obtain⟨tk,rfl⟩:=rv;exact SeqAt.EqAt.tuple_int i tk t1 hu0
  |str i=>obtain⟨tk,rfl⟩:=rv;exact SeqAt.EqAt.tuple_str i tk t1 hu0
  |_=>exact zAR (ndx ne)
 |lst h1 mm1 q1=>
  rename_i a xs ds;cases ru;obtain⟨its,w1,t1⟩:=ok.lst h1;cases r2 with
  |lst h2 mm2 q2=>
   rename_i b ys es;cases rv;obtain⟨its2,w2,t2⟩:=ok.lst h2;by_cases hab:a=b
   .subst hab
    have e:=Rp.inj ok (Rp.lst h1 mm1 q1) (Rp.lst h2 mm2 q2) nd ne;rw[<-e,uB _ nd];exact zFU _
   .simp only[lD]at hd
    obtain⟨k,rfl⟩:∃k,n=k+1:=⟨n-1,by lia⟩
    have l1:its.toArray.size=ds.length:=by rw[zAP,<-w1.length,q1.length]
    have l2:its2.toArray.size=es.length:=by rw[zAP,<-w2.length,q2.length]
    by_cases hl:its.toArray.size=its2.toArray.size
    .have z:=zHG t1 t2 hl hu0 (IH k rfl _ _ _ _ _ _ _ _ _ q1 q2 w1 w2 (by lia) (j6 nd) (j6 ne) (by show A.units+1+k<cLine;lia))
     have z':=kO (ds:=ds) (es:=es) l1 l2;rw[<-hl,zFv,beq_self_eq_true,zEZ]at z';rw[z']at z;simp only[eqD];exact zEn hab z
    .have z:=zFk t1 t2 (by simpa using hl) hu0
     have z':=kO (ds:=ds) (es:=es) l1 l2;rw[beq_eq_false_iff_ne.mpr hl,zEv]at z';simp only[eqD];rw[<-z'];exact zEn hab z
  |tup h2 q2=>
   cases rv;obtain⟨its2,w2,t2⟩:=ok.tup h2;simp only[eqD];exact SeqAt.EqAt.list_tuple t1 t2 hu0
  |non=>cases rv;exact SeqAt.EqAt.list_none t1 hu0
  |bl b=>cases rv;exact SeqAt.EqAt.list_bool b t1 hu0
  |int i=>obtain⟨tk,rfl⟩:=rv;exact SeqAt.EqAt.list_int i tk t1 hu0
  |str i=>obtain⟨tk,rfl⟩:=rv;exact SeqAt.EqAt.list_str i tk t1 hu0
  |_=>exact zAR (ndx ne)
 |non=>
  cases ru;cases r2 with
  |tup h2 q2=>cases rv;obtain⟨_,_,t2⟩:=ok.tup h2;exact SeqAt.EqAt.none_tuple t2 hu0
  |lst h2 mm2 q2=>cases rv;obtain⟨_,_,t2⟩:=ok.lst h2;exact SeqAt.EqAt.none_list t2 hu0
  |dK _ _ _=>exact(bZ ne).elim
  |dT _ _ _=>exact(bZ ne).elim
  |set _ _ _ _=>exact(fH ne).elim
  |scr _=>exact(fJ ne).elim
  |fn _=>exact(iC ne).elim
  |non=>cases rv;exact zFU _
  |bl b=>cases rv;exact SeqAt.EqAt.none_bool b
  |int i=>obtain⟨tk,rfl⟩:=rv;exact SeqAt.EqAt.none_int i tk
  |str i=>obtain⟨tk,rfl⟩:=rv;exact SeqAt.EqAt.none_str i tk
 |bl a=>
  cases ru;cases r2 with
  |tup h2 q2=>cases rv;obtain⟨_,_,t2⟩:=ok.tup h2;exact SeqAt.EqAt.bool_tuple a t2 hu0
  |lst h2 mm2 q2=>cases rv;obtain⟨_,_,t2⟩:=ok.lst h2;exact SeqAt.EqAt.bool_list a t2 hu0
  |dK _ _ _=>exact(bZ ne).elim
  |dT _ _ _=>exact(bZ ne).elim
  |set _ _ _ _=>exact(fH ne).elim
  |scr _=>exact(fJ ne).elim
  |fn _=>exact(iC ne).elim
  |non=>cases rv;exact SeqAt.EqAt.bool_none a
  |bl b=>cases rv;exact zGZ a b
  |int i=>obtain⟨tk,rfl⟩:=rv;exact SeqAt.EqAt.bool_int a i tk
  |str i=>obtain⟨tk,rfl⟩:=rv;exact SeqAt.EqAt.bool_str a i tk
 |int a=>
  obtain⟨tu,rfl⟩:=ru;cases r2 with
  |tup h2 q2=>cases rv;obtain⟨_,_,t2⟩:=ok.tup h2;exact SeqAt.EqAt.int_tuple a tu t2 hu0
  |lst h2 mm2 q2=>cases rv;obtain⟨_,_,t2⟩:=ok.lst h2;exact SeqAt.EqAt.int_list a tu t2 hu0
  |dK _ _ _=>exact(bZ ne).elim
  |dT _ _ _=>exact(bZ ne).elim
  |set _ _ _ _=>exact(fH ne).elim
  |scr _=>exact(fJ ne).elim
  |fn _=>exact(iC ne).elim
  |non=>cases rv;exact SeqAt.EqAt.int_none a tu
  |bl b=>cases rv;exact SeqAt.EqAt.int_bool a tu b
  |int i=>obtain⟨tk,rfl⟩:=rv;exact zGq a tu i tk
  |str i=>obtain⟨tk,rfl⟩:=rv;exact zGr a tu i tk
 |str a=>
  obtain⟨tu,rfl⟩:=ru;cases r2 with
  |tup h2 q2=>cases rv;obtain⟨_,_,t2⟩:=ok.tup h2;exact SeqAt.EqAt.str_tuple a tu t2 hu0
  |lst h2 mm2 q2=>cases rv;obtain⟨_,_,t2⟩:=ok.lst h2;exact SeqAt.EqAt.str_list a tu t2 hu0
  |dK _ _ _=>exact(bZ ne).elim
  |dT _ _ _=>exact(bZ ne).elim
  |set _ _ _ _=>exact(fH ne).elim
  |scr _=>exact(fJ ne).elim
  |fn _=>exact(iC ne).elim
  |non=>cases rv;exact SeqAt.EqAt.str_none a tu
  |bl b=>cases rv;exact SeqAt.EqAt.str_bool a tu b
  |int i=>obtain⟨tk,rfl⟩:=rv;exact zGs a tu i tk
  |str i=>obtain⟨tk,rfl⟩:=rv;exact SeqAt.EqAt.str_str a tu i tk
 |_=>exact zAR (ndx nd)
def aA9(ok:mV K H s)(n:Nat)(IH:aKF K H s n):aKG K H s n:=by
 intro A1 A2 xs ys ds es A us vs q1 q2 w1 w2 hd nd ne hu j h1 h2;have hj1:j<us.length:=by simpa using h1
 have hj2:j<vs.length:=by simpa using h2
 have hx:j<xs.length:=by rw[w1.length];exact hj1
 have hy:j<ys.length:=by rw[w2.length];exact hj2
 have ex:=zAI hx;have ey:=zAI hy;obtain⟨d,ed,rd⟩:=q1.get ex;obtain⟨e,ee,re⟩:=q2.get ey;obtain⟨u,eu,ru⟩:=w1.get ex;obtain⟨v,ev,rv⟩:=w2.get ey;have e1:us.toArray[j]=u:=by
  rw[zH2];exact zAa ((zAI hj1).symm.trans eu)
 have e2:vs.toArray[j]=v:=by
  rw[zH2];exact zAa ((zAI hj2).symm.trans ev)
 rw[e1,e2,ed,ee];exact IH _ _ _ _ _ _ _ _ _ rd re ru rv (zAl (aAi (zBf ed)) hd) (rP (zBf ed) nd) (rP (zBf ee) ne) hu
theorem aJc(ok:mV K H s):∀n,aKF K H s n
 |0=>zO ok 0 λ k h=>absurd h (by simp)
 |n+1=>zO ok (n+1) λ k h=>by
  have h':=zGg h;subst h';exact aA9 ok n (aJc ok n)
def aOZ(ok:mV K H s):∀{A1 A2:Addr->Prop} {x y:V} {d e:D} (n:Nat) {A:zAc} {u v:Value},Rp K A1 H x d->Rp K A2 H y e->RelV x u->RelV y v->lD d<=n->bA d=true->bA e=true->A.units+n<cLine->zEJ A s u v (eqD d e)
 |_,_,_,_,_,_,n,A,u,v,r1,r2,ru,rv,hd,nd,ne,hu=>aJc ok n _ _ _ _ _ _ _ _ _ r1 r2 ru rv hd nd ne hu
def aM7(ok:mV K H s):∀{A1 A2:Addr->Prop} {xs ys:List V} {ds es:List D} (n:Nat) {A:zAc} {us vs:List Value},Rps K A1 H xs ds->Rps K A2 H ys es->Vals xs us->Vals ys vs->fj ds<=n->bY ds=true->bY es=true->A.units+n<cLine->
  ∀(j:Nat) (h1:j<us.toArray.size) (h2:j<vs.toArray.size),zEJ A s us.toArray[j] vs.toArray[j] (match ds[j]?,es[j]? with|some a,some b=>eqD a b|_,_=>true)
 |_,_,xs,ys,ds,es,n,A,us,vs,q1,q2,w1,w2,hd,nd,ne,hu,j,h1,h2=>aA9 ok n (aJc ok n) _ _ _ _ _ _ _ _ _ q1 q2 w1 w2 hd nd ne hu j h1 h2
def aID(ok:mV K H s)(n:Nat)(r1:Rp K A1 H x d)(r2:Rp K A2 H y e)(ru:RelV x u)(rv:RelV y v)(hd:lD d<=n)(nd:bA d=true)(ne:bA e=true)(hu:A.units+n<cLine):
  SeqAt.RcAt A s u v (eqD d e)/\SeqAt.RcNeAt A s u v (!eqD d e):=by
 have hu0:A.units<cLine:=by lia
 cases r1 with
 |tup h1 q1=>
  rename_i a xs ds;cases ru;obtain⟨its,w1,t1⟩:=ok.tup h1;cases r2 with
  |tup h2 q2=>
   rename_i b ys es;cases rv;obtain⟨its2,w2,t2⟩:=ok.tup h2;simp only[lD]at hd;obtain⟨k,rfl⟩:∃k,n=k+1:=⟨n-1,by lia⟩
   have he:=aM7 ok (A:=A.in1) k q1 q2 w1 w2 (by lia) (j0 nd) (j0 ne) (by show A.units+1+k<cLine;lia);have z:=zGz t1 t2 hu0 he;have z2:=SeqAt.RcNeAt.tuples t1 t2 hu0 he;rw[kO (by rw[zAP,<-w1.length,q1.length]) (by rw[zAP,<-w2.length,q2.length])]at z z2;simp only[eqD];exact⟨z,z2⟩
  |lst h2 mm2 q2=>
   cases rv;obtain⟨its2,w2,t2⟩:=ok.lst h2;simp only[eqD];exact⟨SeqAt.RcAt.tuple_list t1 t2 hu0,SeqAt.RcNeAt.tuple_list t1 t2 hu0⟩
  |non=>cases rv;exact⟨SeqAt.RcAt.tuple_none t1 hu0,SeqAt.RcNeAt.tuple_none t1 hu0⟩
  |bl b=>cases rv;exact⟨SeqAt.RcAt.tuple_bool b t1 hu0,SeqAt.RcNeAt.tuple_bool b t1 hu0⟩
  |int i=>obtain⟨tk,rfl⟩:=rv;exact⟨SeqAt.RcAt.tuple_int i tk t1 hu0,SeqAt.RcNeAt.tuple_int i tk t1 hu0⟩
  |str i=>obtain⟨tk,rfl⟩:=rv;exact⟨SeqAt.RcAt.tuple_str i tk t1 hu0,SeqAt.RcNeAt.tuple_str i tk t1 hu0⟩
  |_=>exact zAR (ndx ne)
 |lst h1 mm1 q1=>
  rename_i a xs ds;cases ru;obtain⟨its,w1,t1⟩:=ok.lst h1;cases r2 with
  |lst h2 mm2 q2=>
   rename_i b ys es;cases rv;obtain⟨its2,w2,t2⟩:=ok.lst h2;simp only[lD]at hd;obtain⟨k,rfl⟩:∃k,n=k+1:=⟨n-1,by lia⟩
   have l1:its.toArray.size=ds.length:=by rw[zAP,<-w1.length,q1.length]
   have l2:its2.toArray.size=es.length:=by rw[zAP,<-w2.length,q2.length]
   have z':=kO (ds:=ds) (es:=es) l1 l2;by_cases hl:its.toArray.size=its2.toArray.size
   .have he:=aM7 ok (A:=A.in1) k q1 q2 w1 w2 (by lia) (j6 nd) (j6 ne) (by show A.units+1+k<cLine;lia)
    have z:=zHG t1 t2 hl hu0 he;have z2:=SeqAt.RcNeAt.lists t1 t2 hl hu0 he;rw[<-hl,zFv,beq_self_eq_true,zEZ]at z';rw[z']at z z2;simp only[eqD];exact⟨z,z2⟩
   .rw[beq_eq_false_iff_ne.mpr hl,zEv]at z'
    simp only[eqD];rw[<-z'];exact⟨zFk t1 t2 (by simpa using hl) hu0,SeqAt.RcNeAt.lists_lengths t1 t2 (by simpa using hl) hu0⟩
  |tup h2 q2=>
   cases rv;obtain⟨its2,w2,t2⟩:=ok.tup h2;simp only[eqD];exact⟨SeqAt.RcAt.list_tuple t1 t2 hu0,SeqAt.RcNeAt.list_tuple t1 t2 hu0⟩
  |non=>cases rv;exact⟨SeqAt.RcAt.list_none t1 hu0,SeqAt.RcNeAt.list_none t1 hu0⟩
  |bl b=>cases rv;exact⟨SeqAt.RcAt.list_bool b t1 hu0,SeqAt.RcNeAt.list_bool b t1 hu0⟩
  |int i=>obtain⟨tk,rfl⟩:=rv;exact⟨SeqAt.RcAt.list_int i tk t1 hu0,SeqAt.RcNeAt.list_int i tk t1 hu0⟩
  |str i=>obtain⟨tk,rfl⟩:=rv;exact⟨SeqAt.RcAt.list_str i tk t1 hu0,SeqAt.RcNeAt.list_str i tk t1 hu0⟩
  |_=>exact zAR (ndx ne)
 |non=>
  cases ru;cases r2 with
  |tup h2 q2=>cases rv;obtain⟨_,_,t2⟩:=ok.tup h2;exact⟨SeqAt.RcAt.none_tuple t2 hu0,SeqAt.RcNeAt.none_tuple t2 hu0⟩
  |lst h2 mm2 q2=>cases rv;obtain⟨_,_,t2⟩:=ok.lst h2;exact⟨SeqAt.RcAt.none_list t2 hu0,SeqAt.RcNeAt.none_list t2 hu0⟩
  |dK _ _ _=>exact(bZ ne).elim
  |dT _ _ _=>exact(bZ ne).elim
  |set _ _ _ _=>exact(fH ne).elim
  |scr _=>exact(fJ ne).elim
  |fn _=>exact(iC ne).elim
  |non=>cases rv;exact⟨SeqAt.RcAt.none_none,SeqAt.RcNeAt.none_none⟩
  |bl b=>cases rv;exact⟨SeqAt.RcAt.none_bool b,SeqAt.RcNeAt.none_bool b⟩
  |int i=>obtain⟨tk,rfl⟩:=rv;exact⟨SeqAt.RcAt.none_int i tk,SeqAt.RcNeAt.none_int i tk⟩
  |str i=>obtain⟨tk,rfl⟩:=rv;exact⟨SeqAt.RcAt.none_str i tk,SeqAt.RcNeAt.none_str i tk⟩
 |bl a=>
  cases ru;cases r2 with
  |tup h2 q2=>cases rv;obtain⟨_,_,t2⟩:=ok.tup h2;exact⟨SeqAt.RcAt.bool_tuple a t2 hu0,SeqAt.RcNeAt.bool_tuple a t2 hu0⟩
  |lst h2 mm2 q2=>cases rv;obtain⟨_,_,t2⟩:=ok.lst h2;exact⟨SeqAt.RcAt.bool_list a t2 hu0,SeqAt.RcNeAt.bool_list a t2 hu0⟩
  |dK _ _ _=>exact(bZ ne).elim
  |dT _ _ _=>exact(bZ ne).elim
  |set _ _ _ _=>exact(fH ne).elim
  |scr _=>exact(fJ ne).elim
  |fn _=>exact(iC ne).elim
  |non=>cases rv;exact⟨SeqAt.RcAt.bool_none a,SeqAt.RcNeAt.bool_none a⟩
  |bl b=>cases rv;exact⟨SeqAt.RcAt.bool_bool a b,SeqAt.RcNeAt.bool_bool a b⟩
  |int i=>obtain⟨tk,rfl⟩:=rv;exact⟨SeqAt.RcAt.bool_int a i tk,SeqAt.RcNeAt.bool_int a i tk⟩
  |str i=>obtain⟨tk,rfl⟩:=rv;exact⟨SeqAt.RcAt.bool_str a i tk,SeqAt.RcNeAt.bool_str a i tk⟩
 |int a=>
  obtain⟨tu,rfl⟩:=ru;cases r2 with
  |tup h2 q2=>cases rv;obtain⟨_,_,t2⟩:=ok.tup h2;exact⟨SeqAt.RcAt.int_tuple a tu t2 hu0,SeqAt.RcNeAt.int_tuple a tu t2 hu0⟩
  |lst h2 mm2 q2=>cases rv;obtain⟨_,_,t2⟩:=ok.lst h2;exact⟨SeqAt.RcAt.int_list a tu t2 hu0,SeqAt.RcNeAt.int_list a tu t2 hu0⟩
  |dK _ _ _=>exact(bZ ne).elim
  |dT _ _ _=>exact(bZ ne).elim
  |set _ _ _ _=>exact(fH ne).elim
  |scr _=>exact(fJ ne).elim
  |fn _=>exact(iC ne).elim
  |non=>cases rv;exact⟨SeqAt.RcAt.int_none a tu,SeqAt.RcNeAt.int_none a tu⟩
  |bl b=>cases rv;exact⟨SeqAt.RcAt.int_bool a tu b,SeqAt.RcNeAt.int_bool a tu b⟩
  |int i=>obtain⟨tk,rfl⟩:=rv;exact⟨SeqAt.RcAt.int_int a tu i tk,SeqAt.RcNeAt.int_int a tu i tk⟩
  |str i=>obtain⟨tk,rfl⟩:=rv;exact⟨SeqAt.RcAt.int_str a tu i tk,SeqAt.RcNeAt.int_str a tu i tk⟩
 |str a=>
  obtain⟨tu,rfl⟩:=ru;cases r2 with
  |tup h2 q2=>cases rv;obtain⟨_,_,t2⟩:=ok.tup h2;exact⟨SeqAt.RcAt.str_tuple a tu t2 hu0,SeqAt.RcNeAt.str_tuple a tu t2 hu0⟩
  |lst h2 mm2 q2=>cases rv;obtain⟨_,_,t2⟩:=ok.lst h2;exact⟨SeqAt.RcAt.str_list a tu t2 hu0,SeqAt.RcNeAt.str_list a tu t2 hu0⟩
  |dK _ _ _=>exact(bZ ne).elim
  |dT _ _ _=>exact(bZ ne).elim
  |set _ _ _ _=>exact(fH ne).elim
  |scr _=>exact(fJ ne).elim
  |fn _=>exact(iC ne).elim
  |non=>cases rv;exact⟨SeqAt.RcAt.str_none a tu,SeqAt.RcNeAt.str_none a tu⟩
  |bl b=>cases rv;exact⟨SeqAt.RcAt.str_bool a tu b,SeqAt.RcNeAt.str_bool a tu b⟩
  |int i=>obtain⟨tk,rfl⟩:=rv;exact⟨SeqAt.RcAt.str_int a tu i tk,SeqAt.RcNeAt.str_int a tu i tk⟩
  |str i=>obtain⟨tk,rfl⟩:=rv;exact⟨SeqAt.RcAt.str_str a tu i tk,SeqAt.RcNeAt.str_str a tu i tk⟩
 |_=>exact zAR (ndx nd)
end
section
variable{K:zAA}{H:Hp}{s:zAG}
open Classical in
def qZ(K:zAA)(H:Hp)(d:D)(u:Value):Bool:=if h:∃e,bA e=true/\∃y,RelV y u/\Rp K (λ _=>True) H y e then eqD (choose h) d else false
def aFz(ok:mV K H s)(r:RelV y u)(h:Rp K A H y e)(ne:bA e=true):qZ K H d u=eqD e d:=by
 have hx:∃e,bA e=true/\∃y,RelV y u/\Rp K (λ _=>True) H y e:=⟨e,ne,y,r,h.wk λ _ _ _ _=>trivial⟩
 unfold qZ;rw[dif_pos hx];obtain⟨n',y',r',h'⟩:=Classical.choose_spec hx;have e1:=RelV.inj r r';subst e1;rw[Rp.inj ok h' h n' ne]
def inD(d:D)(es:List D):Bool:=es.any λ e=>eqD e d
def uN(ok:mV K H s):∀{A:Addr->Prop} {xs:List V} {es:List D} {us:List Value},Rps K A H xs es->Vals xs us->bY es=true->us.any (qZ K H d)=inD d es:=by
 intro A xs es us h v n;induction v generalizing es with
 |nil=>cases h;rfl
 |cons k t ih=>
  cases h with
  |cons h r=>
   simp only[bY,zAK]at n;unfold inD;rw[zE0,zE0,aFz ok k h n.1,ih r n.2];rfl
def wz(ok:mV K H s)(rx:Rp K A0 H x d)(rv:RelV x v)(hu:A.units+n<cLine)(nd:bA d=true):∀{A1:Addr->Prop} {xs:List V} {es:List D} {us:List Value},Rps K A1 H xs es->Vals xs us->fj es<=n->bY es=true->∀u∈us,zEJ A s u v (qZ K H d u):=by
 intro A1 xs es us h v' hd ne u hm;induction v' generalizing es with
 |nil=>cases hm
 |cons k t ih=>
  cases h with
  |cons h r=>
   simp only[fj]at hd;simp only[bY,zAK]at ne;rcases zAJ.mp hm with z|z
   .subst z
    rw[aFz ok k h ne.1];exact aOZ ok n h rx k rv (zAl (zIu _ _) hd) ne.1 nd hu
   .exact ih r (zAl (zIq _ _) hd) ne.2 z
end
section
variable{X:Cx}
def aIF(K:zAA)(neg:Bool):R2:=λ x y H Q=>∃A B d e,Rp K A H x d/\Rp K B H y e/\lD d<=60/\bA d=true/\bA e=true/\Q (.bl (if neg then !eqD d e else eqD d e)) H
def aNp(hu:X.A.units+64<cLine):OpR X (zAw .Eq) (aIF X.K false):=by
 intro kX s Z H x y v u Q I rx ry h;obtain⟨A,B,d,e,r1,r2,hd,nd,ne,q⟩:=h;exact(aID (Inv.seqOk I) 60 r1 r2 rx ry hd nd ne (by lia)).1 X.prog X.w X.xe _ ⟨.bl (eqD d e),H,I,rfl,q⟩
def aNe(hu:X.A.units+64<cLine):OpR X (zAw .NotEq) (aIF X.K true):=by
 intro kX s Z H x y v u Q I rx ry h;obtain⟨A,B,d,e,r1,r2,hd,nd,ne,q⟩:=h;exact(aID (Inv.seqOk I) 60 r1 r2 rx ry hd nd ne (by lia)).2 X.prog X.w X.xe _ ⟨.bl (!eqD d e),H,I,rfl,q⟩
def aG6(K:zAA)(neg:Bool):R2:=λ x y H Q=>∃A B d a es,Rp K A H x d/\y= .ref a/\(Rp K B H (.ref a) (.lst es)\/Rp K B H (.ref a) (.tup es))/\fj es<=60/\bA d=true/\bY es=true/\Q (.bl (if neg then !inD d es else inD d es)) H
def aNn(hu:X.A.units+64<cLine):OpR X (zAw .In) (aG6 X.K false):=by
 intro kX s Z H x y v u Q I rx ry h;obtain⟨A,B,d,a,es,rd,rfl,ra,hd,nd,ne,q⟩:=h;cases ry;have ok:=Inv.seqOk I;have hu1:X.A.in1.units+60<cLine:=by show X.A.units+1+60<cLine;lia
 rcases ra with ra|ra
 .cases ra with
  |lst ha _ r=>
   obtain⟨its,rv,tl⟩:=ok.lst ha;refine SeqAt.in_listAt (qZ X.K H d) tl (λ w hw=>wz ok rd rx hu1 nd r rv hd ne w (by simpa using hw)) ⟨.bl _,H,I,rfl,?_⟩;rw[show its.toArray.any (qZ X.K H d)=its.any (qZ X.K H d)by simp,uN ok r rv ne];exact q
 .cases ra with
  |tup ha r=>
   obtain⟨its,rv,tl⟩:=ok.tup ha;refine SeqAt.in_tupleAt (qZ X.K H d) tl (λ w hw=>wz ok rd rx hu1 nd r rv hd ne w (by simpa using hw)) ⟨.bl _,H,I,rfl,?_⟩;rw[show its.toArray.any (qZ X.K H d)=its.any (qZ X.K H d)by simp,uN ok r rv ne];exact q
def aGg(hu:X.A.units+64<cLine):OpR X (zAw .NotIn) (aG6 X.K true):=by
 intro kX s Z H x y v u Q I rx ry h;obtain⟨A,B,d,a,es,rd,rfl,ra,hd,nd,ne,q⟩:=h;cases ry;have ok:=Inv.seqOk I;have hu1:X.A.in1.units+60<cLine:=by show X.A.units+1+60<cLine;lia
 rcases ra with ra|ra
 .cases ra with
  |lst ha _ r=>
   obtain⟨its,rv,tl⟩:=ok.lst ha;refine SeqAt.notIn_listAt (qZ X.K H d) tl (λ w hw=>wz ok rd rx hu1 nd r rv hd ne w (by simpa using hw)) ⟨.bl _,H,I,rfl,?_⟩;rw[show its.toArray.any (qZ X.K H d)=its.any (qZ X.K H d)by simp,uN ok r rv ne];exact q
 .cases ra with
  |tup ha r=>
   obtain⟨its,rv,tl⟩:=ok.tup ha;refine SeqAt.notIn_tupleAt (qZ X.K H d) tl (λ w hw=>wz ok rd rx hu1 nd r rv hd ne w (by simpa using hw)) ⟨.bl _,H,I,rfl,?_⟩;rw[show its.toArray.any (qZ X.K H d)=its.any (qZ X.K H d)by simp,uN ok r rv ne];exact q
end
section
variable{K:zAA}
def eqR(neg:Bool):D->D->Rs D:=λ d e=>if decide (lD d<=60)&&bA d&&bA e then .ok (.bl (if neg then !eqD d e else eqD d e))else .st
def inR(neg:Bool):D->D->Rs D:=λ d e=>match e with
 | .lst es=>if decide (fj es<=60)&&bA d&&bY es then .ok (.bl (if neg then !inD d es else inD d es))else .st
 | .tup es=>if decide (fj es<=60)&&bA d&&bY es then .ok (.bl (if neg then !inD d es else inD d es))else .st
 |_=>.st
def os_eq:OpS K (aIF K n) (eqR n):=by
 intro A x y d e H Q z rx ry ez q;unfold eqR at ez;split at ez
 .rename_i h
  simp only[zAK,decide_eq_true_eq]at h;cases ez;exact⟨A,A,d,e,rx,ry,h.1.1,h.1.2,h.2,q _ H (aV.refl H) (.bl _)⟩
 .cases ez
def aF6:OpS K (aG6 K n) (inR n):=by
 intro A x y d e H Q z rx ry ez q;unfold inR at ez;split at ez
 .split at ez
  .rename_i h
   simp only[zAK,decide_eq_true_eq]at h;cases ez;cases ry with
   |lst ha mm r=>exact⟨A,A,d,_,_,rx,rfl,.inl (.lst ha mm r),h.1.1,h.1.2,h.2,q _ H (aV.refl H) (.bl _)⟩
  .cases ez
 .split at ez
  .rename_i h
   simp only[zAK,decide_eq_true_eq]at h;cases ez;cases ry with
   |tup ha r=>exact⟨A,A,d,_,_,rx,rfl,.inr (.tup ha r),h.1.1,h.1.2,h.2,q _ H (aV.refl H) (.bl _)⟩
  .cases ez
 .cases ez
def aJT:∀x y z,eqR n x y= .ok z->imm z=true:=by
 intro x y z e;unfold eqR at e;split at e
 .cases e;rfl
 .cases e
def aOR:∀x y z,inR n x y= .ok z->imm z=true:=by
 intro x y z e;unfold inR at e;split at e
 .split at e
  .cases e;rfl
  .cases e
 .split at e
  .cases e;rfl
  .cases e
 .cases e
end
section
variable{K:zAA}
def boolsOf:List D->Option (List Bool)
 |[]=>some []
 | .bl i::r=>(boolsOf r).map (i::·)
 |_=>none
theorem uJ:∀{l:List D} {ns:List Bool},boolsOf l=some ns->l=ns.map .bl
 |[],ns,h=>by cases h;rfl
 | .bl i::r,ns,h=>by
  simp only[boolsOf,zDT]at h;obtain⟨ms,h1,rfl⟩:=h;rw[uJ h1];rfl
 | .non::_,_,h=>by cases h
 | .int _::_,_,h=>by cases h
 | .str _::_,_,h=>by cases h
 | .tup _::_,_,h=>by cases h
 | .lst _::_,_,h=>by cases h
 | .dct _ _::_,_,h=>by cases h
 | .set _::_,_,h=>by cases h
 | .scr _::_,_,h=>by cases h
theorem wJ:∀ns:List Bool,boolsOf (ns.map .bl)=some ns
 |[]=>rfl
 |n::ns=>by simp only[zAS,boolsOf,wJ ns,zDM]
theorem vO{X:Cx}:∀{bs:List Bool} {us:List Value},Vals (bs.map V.bl) us->LSm.BoolsAre us bs
 |[],_,.nil=>.nil
 |b::bs,_,.cons r t=>by
  have e:_=zCu b:=r;subst e;exact .cons b (vO (X:=X) t)
theorem Rps.bools_of:∀{xs:List V} {bs:List Bool},Rps K A H xs (bs.map D.bl)->xs=bs.map V.bl
 |_,[],.nil=>rfl
 |_,n::ns,.cons h r=>by
  cases h;rw[zAS,Rps.bools_of r]
def oO(f:List Bool->Bool):List D->Rs D
 |[.lst l]=>match boolsOf l with
  |some bs=>.ok (.bl (f bs))
  |none=>.st
 |_=>.st
def aJt{X:Cx}(hc:X.calm=true):cg X (.builtin "all") (λ xs H Q=>∃(p:Addr) (bs:List Bool),xs=[.ref p]/\H p=some (.lst (bs.map V.bl))/\Q (.bl (bs.all id)) H):=by
 intro kX s Z H xs us Q I r h;obtain⟨p,bs,rfl,hp,q⟩:=h;obtain⟨u,rfl,ru⟩:=vals1 r;cases ru;obtain⟨its,rv,pl,hz⟩:=I.list (SqL.of hp);have hb:=vO (X:=X) rv;have hl:=pl.isList;have hlt:p<s.heap.objs.size:=by obtain⟨_,e,_⟩:=hl;exact zAT e
 refine call_all_walk (zDg hl ?_);refine⟨s.heap.objs.size,[s.heap.objs.size,p],[s.heap.objs.size],its.toArray.size,_,_,λ i=>(bs[i]?).getD true,rfl,zGj (A:=X.A.in1) (I.ok.hd hc) _ p (zA4 hlt) its.toArray,
  ⟨⟨_,zAL _ rfl,rfl,rfl⟩,hl.push _⟩,λ i v s' Q' E' hP hQ=>?_,λ h' tk hk=>?_⟩
 .obtain⟨b,e,rfl⟩:=hb.get i v (by simpa using hP)
  simp only[e,zHx]at hQ;exact zBo hQ
 .have e:((zAm its.toArray.size).all λ i=>(bs[i]?).getD true)=bs.all id:=by
   rw[zAP,hb.length];exact LSm.range_all bs
  rw[e];exact⟨.bl _,H,I.kept (zJS hk),rfl,q⟩
def aJs{X:Cx}(hc:X.calm=true):cg X (.builtin "any") (λ xs H Q=>∃(p:Addr) (bs:List Bool),xs=[.ref p]/\H p=some (.lst (bs.map V.bl))/\Q (.bl (bs.any id)) H):=by
 intro kX s Z H xs us Q I r h;obtain⟨p,bs,rfl,hp,q⟩:=h;obtain⟨u,rfl,ru⟩:=vals1 r;cases ru;obtain⟨its,rv,pl,hz⟩:=I.list (SqL.of hp);have hb:=vO (X:=X) rv;have hl:=pl.isList;have hlt:p<s.heap.objs.size:=by obtain⟨_,e,_⟩:=hl;exact zAT e
 refine call_any_walk (zDg hl ?_);refine⟨s.heap.objs.size,[s.heap.objs.size,p],[s.heap.objs.size],its.toArray.size,_,_,λ i=>(bs[i]?).getD false,rfl,zGj (A:=X.A.in1) (I.ok.hd hc) _ p (zA4 hlt) its.toArray,
  ⟨⟨_,zAL _ rfl,rfl,rfl⟩,hl.push _⟩,λ i v s' Q' E' hP hQ=>?_,λ h' tk hk=>?_⟩
 .obtain⟨b,e,rfl⟩:=hb.get i v (by simpa using hP)
  simp only[e,zHx]at hQ;exact zBo hQ
 .have e:((zAm its.toArray.size).any λ i=>(bs[i]?).getD false)=bs.any id:=by
   rw[zAP,hb.length];exact LSm.range_any bs
  rw[e];exact⟨.bl _,H,I.kept (zJS hk),rfl,q⟩
def aJl:qx K (λ xs H Q=>∃(p:Addr) (bs:List Bool),xs=[.ref p]/\H p=some (.lst (bs.map V.bl))/\Q (.bl (f bs)) H) (oO f):=by
 intro A xs ds H Q z r ez q;unfold oO at ez;split at ez
 .split at ez
  .rename_i l bs e
   cases ez
   have:=uJ e
   subst this;cases r with
   |cons h r=>
    cases r;cases h with
    |lst h m r=>
     have:=r.bools_of
     subst this;exact⟨_,bs,rfl,h,q _ H (aV.refl H) (.bl _)⟩
  .cases ez
 .cases ez
def aFq:∀x z,oO f x= .ok z->imm z=true:=by
 intro x z e;unfold oO at e;split at e
 .split at e
  .cases e;rfl
  .cases e
 .cases e
def mmD(f:Int->Int->Int):List D->Rs D
 |[.int i,.int j]=>.ok (.int (f i j))
 |_=>.st
def aMb:qx K (λ xs H Q=>∃i j,xs=[.int i,.int j]/\Q (.int (f i j)) H) (mmD f):=by
 intro A xs ds H Q z r ez q;unfold mmD at ez;split at ez
 .cases ez
  cases r with
  |cons h r=>
   cases h;cases r with
   |cons h r=>
    cases h;cases r;exact⟨_,_,rfl,q _ H (aV.refl H) (.int _)⟩
 .cases ez
def aJQ:∀x z,mmD f x= .ok z->imm z=true:=by
 intro x z e;unfold mmD at e;split at e
 .cases e;rfl
 .cases e
def eG:List D->Rs D
 |[.lst l]=>.ok (.tup l)
 |[.tup l]=>.ok (.tup l)
 |_=>.st
def v6:List D->Rs D
 |[.lst l]=>.ok (.lst l)
 |[.tup l]=>.ok (.lst l)
 |_=>.st
def aJj:qx K (λ xs H Q=>∃p ys,xs=[.ref p]/\((SqL K H p ys/\∀l,H l=none->Q (.ref l) (upd H l (.tup ys)))\/(SqT K H p ys/\Q (.ref p) H))) eG:=by
 intro A xs ds H Q z r ez q;unfold eG at ez;split at ez
 .cases ez
  cases r with
  |cons h r=>
   cases r;cases h with
   |lst h m r=>exact⟨_,_,rfl,.inl ⟨SqL.of h,λ l hl=>q _ _ (bD hl _) (.tup (SqT.of aZ) ((r.wk λ _ _ _ z=>.inr z.1).up (bD hl _)))⟩⟩
 .cases ez
  cases r with
  |cons h r=>
   cases r;cases h with
   |tup h r=>exact⟨_,_,rfl,.inr ⟨h,q _ H (aV.refl H) (.tup h (r.wk λ _ _ _ z=>.inr z))⟩⟩
 .cases ez
def aLq:qx K (λ xs H Q=>∃p ys,xs=[.ref p]/\(SqL K H p ys\/SqT K H p ys)/\∀l,H l=none->Q (.ref l) (upd H l (.lst ys))) v6:=by
 intro A xs ds H Q z r ez q;unfold v6 at ez;split at ez
 .cases ez
  cases r with
  |cons h r=>
   cases r;cases h with
   |lst h m r=>exact⟨_,_,rfl,.inl (SqL.of h),λ l hl=>q _ _ (bD hl _) (.lst aZ (.inl hl) ((r.wk λ p o e z=>⟨.inr z.1,λ e'=>by subst e';rw[hl]at e;cases e⟩).up (bD hl _)))⟩
 .cases ez
  cases r with
  |cons h r=>
   cases r;cases h with
   |tup h r=>exact⟨_,_,rfl,.inr h,λ l hl=>q _ _ (bD hl _) (.lst aZ (.inl hl) ((r.wk λ p o e z=>⟨.inr z,λ e'=>by subst e';rw[hl]at e;cases e⟩).up (bD hl _)))⟩
 .cases ez
def aCR:List D->Rs D
 |[.int i]=>if i.natAbs.log2<1920 then .ok (.str (zEB i))else .st
 |_=>.st
def aO5:qx K (λ xs H Q=>∃i,xs=[.int i]/\i.natAbs.log2<1920/\Q (.str (zEB i)) H) aCR:=by
 intro A xs ds H Q z r ez q;unfold aCR at ez;split at ez
 .split at ez
  .rename_i h
   cases ez;cases r with
   |cons h' r=>cases h';cases r;exact⟨_,rfl,h,q _ H (aV.refl H) (.str _)⟩
  .cases ez
 .cases ez
end
def cutD(l:List D)(lo hi:Option Int):List D:=(l.drop (HT.sIx l.length 0 lo)).take (HT.sIx l.length l.length hi-HT.sIx l.length 0 lo)
def Rps.cut{K:zAA}(r:Rps K A H xs ds)(lo hi:Option Int):Rps K A H (zV xs lo hi) (cutD ds lo hi):=by
 unfold zV cutD;rw[r.length];exact(r.drop _).take _
def slD(d:D)(lo hi:Option Int):Rs D:=match d with
 | .tup l=>.ok (.tup (cutD l lo hi))
 | .lst l=>.ok (.lst (cutD l lo hi))
 |_=>.st
def aPK(K:zAA):V->Option Int->Option Int->Hp->VK->Prop:=λ x lo hi H Q=>(∃a xs,x= .ref a/\SqT K H a xs/\∀c H',aV H H'->SqT K H' c (zV xs lo hi)->Q (.ref c) H')\/aPL K x lo hi H Q
def aKU:SlR X (λ x lo hi H Q=>∃a xs,x= .ref a/\SqT X.K H a xs/\∀c H',aV H H'->SqT X.K H' c (zV xs lo hi)->Q (.ref c) H'):=by
 intro kX s Z H x v vl vu lo hi sl Q I rx hs pl pu h;obtain⟨a,xs,rfl,hx,q⟩:=h;cases rx;obtain⟨its,r,ht,hz⟩:=I.tuple hx;have kK:its.toArray.size=xs.length:=by rw[zAP];exact r.length.symm
 refine⟨"tuple",_,zBD.lookup,ht.typeIs,?_⟩;by_cases hw:HT.sIx xs.length 0 lo=0/\HT.sIx xs.length xs.length hi=xs.length
 .refine HT.tY ht hs pl pu (by rw[kK];exact hw.1) (by rw[kK];exact hw.2) ⟨.ref a,H,I,rfl,q a H (aV.refl H) ?_⟩
  have:zV xs lo hi=xs:=by
   unfold zV;rw[hw.1,hw.2,zGd,zH7,List.take_length]
  rw[this];exact hx
 .refine HT.tX ht hs pl pu (by rw[kK];exact hw) ?_ (by rw[kK];exact hz)
  rw[kK];refine⟨.ref s.heap.objs.size,_,I.laid (t':=s.toks) (o:=.tup (zV xs lo hi)) (λ b ob q=>zAC _ q) (zAQ _) ?_,rfl,q _ _ (bD (I.hok.fresh (zAQ _)) _) (SqT.of aZ)⟩;exact⟨⟨zAl (wG xs lo hi) hz,NoD.push _⟩,_,(r.drop (HT.sIx xs.length 0 lo)).take (HT.sIx xs.length xs.length hi-HT.sIx xs.length 0 lo),zHD _ _⟩
def aQD:SlR X (aPK X.K):=aKU.or aKV
section
variable{C:Ct}{pos p2:Pos}{m:Mode}{a e:Expr}{fa fe:En->Rs D}{lo hi:Option Expr}
def aQM(K:zAA)(G:Gx)(t:TO)(f:En->Rs (Option Int)):Prop:=∀U Z H Y lab (Q:Option Int->Hp->Prop),RR K G U Y Z H lab->WR G (f Y) (λ o=>∀H',aV H H'->Q o H')->t Z H Q
def SO(C:Ct)(e:Option Expr)(f:En->Rs (Option Int)):Prop:=∃t,(∀i,PO (C.X i) e t)/\aQM C.K C.G t f
def tL:En->Rs (Option Int):=λ _=>.ok none
def tK(fe:En->Rs D):En->Rs (Option Int):=λ Y=>(fe Y).bd λ d=>match d with
 | .int i=>.ok (some i)
 |_=>.st
def su:SO C none tL:=⟨_,λ _=>aKl,λ U Z H Y lab Q R W=>W H (aV.refl H)⟩
def sr(h:SE C m e fe):SO C (some e) (tK fe):=by
 obtain⟨t,h1,h2⟩:=h;refine⟨_,λ i=>aKk (h1 i),λ U Z H Y lab Q R W=>h2 U Z H Y lab _ R (W.bd.imp λ d _ w x H1 s r=>?_)⟩;cases r with
 |int i=>exact⟨i,rfl,w H1 s⟩
 |_=>exact zAR w
def mz(fa:En->Rs D)(fl fh:En->Rs (Option Int)):En->Rs D:=λ Y=>(fa Y).bd λ d=>(fl Y).bd λ l=>(fh Y).bd λ h=>okD (slD d l h)
def o8{fl fh:En->Rs (Option Int)}(ha:SE C m a fa)(hl:SO C lo fl)(hh:SO C hi fh):SE C m (.Subscript a (.Slice lo hi none p2) pos) (mz fa fl fh):=by
 obtain⟨t,h1,h2⟩:=ha;obtain⟨tl,l1,l2⟩:=hl;obtain⟨th,k1,k2⟩:=hh;refine⟨tSl (aPK C.K) t tl th,λ i=>by rw[<-C.hK i];exact aI0 aQD (h1 i) (l1 i) (k1 i),λ U Z H Y lab Q R W=>h2 U Z H Y lab _ R (W.bd.imp λ d _ w x H1 s1 r1=>?_)⟩;refine l2 U Z H1 Y lab _ (R.up s1) (w.bd.imp λ ol _ w H2 s2=>?_);refine k2 U Z H2 Y lab _ ((R.up s1).up s2) (w.bd.imp λ oh _ w H3 s3=>?_);obtain⟨z,ez,w⟩:=w.okD;have s:=s1.trans (s2.trans s3);have r3:=r1.up (s2.trans s3);cases d with
 |tup l=>
  cases ez;cases r3 with
  |tup h r=>exact .inl ⟨_,_,rfl,h,λ c H' s' hc=>w _ H' (s.trans s') (.tup hc ((r.cut ol oh).up s'))⟩
 |lst l=>
  cases ez;cases r3 with
  |lst h mm r=>
   exact .inr ⟨_,_,rfl,SqL.of h,λ p hp=>w _ _ (s.trans (bD hp _)) (.lst aZ (.inl (s.free hp)) (((r.cut ol oh).wk λ q o e z=>⟨z.1,λ e'=>by subst e';rw[hp]at e;cases e⟩).up (bD hp _)))⟩
 |_=>cases ez
def aBV:D->Rs D
 | .tup l=>.ok (.tup l.reverse)
 |_=>.st
def aMM(K:zAA)(te:TE):TE:=λ Z H Q=>te Z H λ x H1=>∃a xs,x= .ref a/\SqT K H1 a xs/\∀c H',aV H1 H'->H' c=some (.tup xs.reverse)->Q (.ref c) H'
def aKp(he:PE X e te):PE X (.Subscript e (.Slice none none (some (.UnaryOp .USub (.Constant (.int 1) j p3) p4)) p2) pos) (aMM X.K te):=by
 intro kX s Z H Q I h;refine zJZ (thn (he kX s Z H _ I h) λ v s1 ⟨x,H1,I1,r1,q1⟩=>?_);obtain⟨a,xs,rfl,hx,q⟩:=q1;cases r1;have hm:PE X (.UnaryOp .USub (.Constant (.int 1) j p3) p4) (tUn (rU λ i=>.int (-i)) (tC (.int 1))):=aMX aH8 aER;refine wpAny_Slice ?_;rw[zIB];refine zAF (zAF ?_);rw[evalPart_some];refine thn (hm kX s1 Z H1 (λ z H2=>z= .int (-1)/\H2=H1) I1 ⟨1,rfl,rfl,rfl⟩) λ u s2 ⟨z,H2,I2,r2,ez,eH⟩=>?_
 subst ez eH;obtain⟨tk,rfl⟩:=r2;have I4:Inv X kX Z H2 {s2 with heap:=s2.heap.push {cls:=.type "slice",data:=.fields #[.none,.none,.int (-1) tk]}}:=I2.kept (t':=s2.toks) λ b ob q=>zAC _ q
 obtain⟨its,r,ht,hz⟩:=I4.tuple hx;have kK:its.toArray.size=xs.length:=by rw[zAP];exact r.length.symm
 show wpAny (model X.prog X.w) X.A (zIE e _ (.ref a) (.ref s2.heap.objs.size)) (EP X kX Z Q) X.xe _;refine tail_any (ops:=[.ref a,.ref s2.heap.objs.size]) ht.typeIs zBD.lookup ?_ (by with_unfolding_all rfl);refine HT.tW ht (zFz ..) ?_ (by rw[kK];exact hz);refine⟨.ref _,_,I4.laid (t':=s2.toks) (o:=.tup xs.reverse) (λ b ob q=>zAC _ q) (zAQ _) ?_,rfl,q _ _ (bD (I4.hok.fresh (zAQ _)) _) aZ⟩;exact⟨⟨by rw[zHj];exact hz,NoD.push _⟩,_,r.reverse,zHD _ _⟩
def aHo(h:SE C m e fe):SE C m (.Subscript e (.Slice none none (some (.UnaryOp .USub (.Constant (.int 1) j p3) p4)) p2) pos) (op1 aBV fe):=by
 obtain⟨t,h1,h2⟩:=h;refine⟨aMM C.K t,λ i=>by rw[<-C.hK i];exact aKp (h1 i),λ U Z H Y lab Q R W=>h2 U Z H Y lab _ R (W.bd.imp λ d _ w x H1 s1 r1=>?_)⟩;obtain⟨z,ez,w⟩:=w.okD;cases d with
 |tup l=>
  cases ez;cases r1 with
  |tup h r=>exact⟨_,_,rfl,h,λ c H' s hc=>w _ H' (s1.trans s) (.tup (SqT.of hc) (r.reverse.up s))⟩
 |_=>cases ez
def aOa(fd:D->D->Rs D)(i:Nat)(fe:En->Rs D):En->Ou:=λ Y=>(op2 fd (jM i) fe Y).bo λ d=>.nx (Y.set i (.sh d))
def aMs(he:SE C m e fe)(ho:∀j,PIp (C.X j) op (ipI f))(hN:∀j,(C.X j).N[i]? =some x:=by intro _;rfl)(hx:∀j,Loc (C.X j).env.scope x:=by intro _;first|exact zCf rfl|exact zCC rfl)(hf:∀j,(C.X j).fn x=true\/(C.X j).env.scope.names.lookup x=some .local:=by intro _;first|exact .inl rfl|exact .inr rfl)(nd:∀j,(C.X j).N.Nodup:=by intro _;assumption):SS C (.AugAssign (.Name x pos') op e pos) (aOa (i2 (λ _ _=>true) λ a b=>.int (f a b)) i fe):=by
 obtain⟨t,h1,h2⟩:=he;refine⟨_,λ j=>aNM (nd j) (hN j) (hx j) (h1 j) (ho j) (hf j),λ U Z H Y lab De R W=>?_⟩;have w0:=(WS.bo W).bd;refine aFO C.K C.G i U Z H Y lab (λ v H'=>t Z H' λ y H1=>ipI f v y H1 λ z H2=>De.nx (Z.set i (some z)) H2) R (w0.imp λ d _ w v H' s r=>h2 U Z H' Y lab _ (R.up s) (w.bd.imp λ e _ w y H1 s1 r1=>?_));obtain⟨z,ez,w⟩:=w.okD;unfold i2 at ez;split at ez
 .cases ez
  cases r;cases r1;exact⟨_,_,rfl,rfl,w _ _ _ (((R.up s).up s1).put (s:=.sh (.int _)) (Rp.int _))⟩
 .cases ez
end
section
variable{C:Ct}{pos p:Pos}{m m1 m2 m3:Mode}{a b c e:Expr}{fa fb fc:En->Rs D}{ga:En->Rs (List D)}
def Ct.u0(C:Ct)(i:C.ι):(C.X i).A.units<cLine:=(C.room i).units0
def Ct.u64(C:Ct)(i:C.ι):(C.X i).A.units+64<cLine:=(C.room i).units
def Ct.ltR(C:Ct)(i:C.ι):OpR (C.X i) (zAw .Lt) (λ x y H Q=>rI0 (λ i j=>.bl (decide (i<j))) x y H Q\/aKc C.K x y H Q):=by have h:=aNh (X:=C.X i) (C.u0 i);rw[C.hK i]at h;exact h
def Ct.leR(C:Ct)(i:C.ι):OpR (C.X i) (zAw .LtE) (λ x y H Q=>rI0 (λ i j=>.bl (decide (i<=j))) x y H Q\/aKd C.K x y H Q):=by have h:=aNj (X:=C.X i) (C.u0 i);rw[C.hK i]at h;exact h
def Ct.eqRl(C:Ct)(i:C.ι):OpR (C.X i) (zAw .Eq) (aIF C.K false):=by have h:=aNp (X:=C.X i) (C.u64 i);rw[C.hK i]at h;exact h
def Ct.neRl(C:Ct)(i:C.ι):OpR (C.X i) (zAw .NotEq) (aIF C.K true):=by have h:=aNe (X:=C.X i) (C.u64 i);rw[C.hK i]at h;exact h
def Ct.inRl(C:Ct)(i:C.ι):OpR (C.X i) (zAw .In) (aG6 C.K false):=by have h:=aNn (X:=C.X i) (C.u64 i);rw[C.hK i]at h;exact h
def Ct.ninRl(C:Ct)(i:C.ι):OpR (C.X i) (zAw .NotIn) (aG6 C.K true):=by have h:=aGg (X:=C.X i) (C.u64 i);rw[C.hK i]at h;exact h
def Ct.aHZ(C:Ct)(i:C.ι):OpR (C.X i) (zCe .Add) (aIH C.K):=by have h:=aLF (X:=C.X i);rw[C.hK i]at h;exact h
def aGR:D->D->Rs D:=i2 (λ _ _=>true) λ i j=>.int (i-j)
def vf:D->D->Rs D:=i2 (λ _ j=>decide (0<j)&&decide (j<1073741824)) λ i j=>.int (i / j)
def uz:D->D->Rs D:=i2 (λ _ j=>decide (0<j)) λ i j=>.int (i%j)
def aNN:D->D->Rs D:=i2 (λ i j=>decide (0<=j)&&decide (j<=1000000)&&decide (i.natAbs<2^64)) λ i j=>.int (i^j.toNat)
def cJ(ha:SE C m1 a fa)(hb:SE C m2 b fb):SE C (jn m1 m2) (.BinOp a .Add b pos) (op2 cR fa fb):=aAP C.aHZ aN9 ha hb
def qz(ha:SE C m1 a fa)(hb:SE C m2 b fb):SE C (jn m1 m2) (.BinOp a .Mult b pos) (op2 lC fa fb):=aAP (λ _=>aLB) aN6 ha hb
def aHn(ha:SE C m1 a fa)(hb:SE C m2 b fb):SE C (some []) (.BinOp a .Sub b pos) (op2 aGR fa fb):=eO (aAP (λ _=>aNb) aKx ha hb) λ _ _ h=>jW aBn h
def aFT(ha:SE C m1 a fa)(hb:SE C m2 b fb):SE C (some []) (.BinOp a .FloorDiv b pos) (op2 vf fa fb):=eO (aAP (λ _=>aLC) (aET λ i j h=>by simpa[aPq]using h) ha hb) λ _ _ h=>jW aBn h
def ue(ha:SE C m1 a fa)(hb:SE C m2 b fb):SE C (some []) (.BinOp a .Mod b pos) (op2 uz fa fb):=eO (aAP (λ _=>aNg) (aET λ i j h=>by simpa using h) ha hb) λ _ _ h=>jW aBn h
def aMy(ha:SE C m1 a fa)(hb:SE C m2 b fb):SE C (some []) (.BinOp a .Pow b pos) (op2 aNN fa fb):=eO (aAP (λ _=>aNd) (aET λ i j h=>by simp only[zAK,decide_eq_true_eq]at h;exact⟨h.1.1,h.1.2,h.2⟩) ha hb) λ _ _ h=>jW aBn h
def aDv(ha:SE C m a fa):SE C (some []) (.UnaryOp .USub a pos) (op1 aCp fa):=eO (aPF (λ _=>aH8) aMh ha) λ _ _ h=>aL7 aL8 h
def aPH(ha:SE C m1 a fa)(hb:SE C m2 b fb):SE C (some []) (.Compare a [.Lt] [b] pos) (op2 ltD fa fb):=eO (xZ C.ltR aIc ha hb) λ _ _ h=>jW aJS h
def aPJ(ha:SE C m1 a fa)(hb:SE C m2 b fb):SE C (some []) (.Compare a [.Gt] [b] pos) (op2 gtD fa fb):=eO (xZ (λ _=>aMZ) yM ha hb) λ _ _ h=>jW aEp h
def aHq(ha:SE C m1 a fa)(hb:SE C m2 b fb):SE C (some []) (.Compare a [.Eq] [b] pos) (op2 (eqR false) fa fb):=eO (xZ C.eqRl os_eq ha hb) λ _ _ h=>jW aJT h
def aPG(ha:SE C m1 a fa)(hb:SE C m2 b fb):SE C (some []) (.Compare a [.NotEq] [b] pos) (op2 (eqR true) fa fb):=eO (xZ C.neRl os_eq ha hb) λ _ _ h=>jW aJT h
def aPI(ha:SE C m1 a fa)(hb:SE C m2 b fb)(hm:zBm .In b=false:=by with_unfolding_all rfl):SE C (some []) (.Compare a [.In] [b] pos) (op2 (inR false) fa fb):=eO (xZ C.inRl aF6 ha hb hm) λ _ _ h=>jW aOR h
def aAN(ha:SE C m1 a fa)(hb:SE C m2 b fb):ST C (.Compare a [.Lt] [b] pos) (tsb (op2 ltD fa fb)):=lQ C.ltR aIc ha hb
def aPB(ha:SE C m1 a fa)(hb:SE C m2 b fb):ST C (.Compare a [.Gt] [b] pos) (tsb (op2 gtD fa fb)):=lQ (λ _=>aMZ) yM ha hb
def aPC(ha:SE C m1 a fa)(hb:SE C m2 b fb):ST C (.Compare a [.GtE] [b] pos) (tsb (op2 geD fa fb)):=lQ (λ _=>aPY) yM ha hb
def aFK(ha:SE C m1 a fa)(hb:SE C m2 b fb):ST C (.Compare a [.Eq] [b] pos) (tsb (op2 (eqR false) fa fb)):=lQ C.eqRl os_eq ha hb
def vV(ha:SE C m1 a fa)(hb:SE C m2 b fb):ST C (.Compare a [.NotEq] [b] pos) (tsb (op2 (eqR true) fa fb)):=lQ C.neRl os_eq ha hb
def aPA(ha:SE C m1 a fa)(hb:SE C m2 b fb)(hm:zBm .In b=false:=by with_unfolding_all rfl):ST C (.Compare a [.In] [b] pos) (tsb (op2 (inR false) fa fb)):=lQ C.inRl aF6 ha hb hm
def xT(ha:SE C m1 a fa)(hb:SE C m2 b fb)(hm:zBm .NotIn b=false:=by with_unfolding_all rfl):ST C (.Compare a [.NotIn] [b] pos) (tsb (op2 (inR true) fa fb)):=lQ C.ninRl aF6 ha hb hm
def aOz(ha:SE C m1 a fa)(hb:SE C m2 b fb):ST C (.Compare a [.Is] [b] pos) (tsb (op2 (isD false) fa fb)):=lQ (λ _=>aNl) aPV ha hb
def aK5(ha:SE C m1 a fa)(hb:SE C m2 b fb)(hc:SE C m3 c fc)(hm:zIh [.LtE,.LtE] [b,c]=false:=by with_unfolding_all rfl):SE C (some []) (.Compare a [.LtE,.LtE] [b,c] pos) (chD leD leD fa fb fc):=aCX C.leR aIe C.leR aIe aOQ ha hb hc hm
def aK4(ha:SE C m1 a fa)(hb:SE C m2 b fb)(hc:SE C m3 c fc)(hm:zIh [.LtE,.Lt] [b,c]=false:=by with_unfolding_all rfl):SE C (some []) (.Compare a [.LtE,.Lt] [b,c] pos) (chD leD ltD fa fb fc):=aCX C.leR aIe C.ltR aIc aJS ha hb hc hm
def aL(ha:SE C m1 a fa)(hb:SE C m2 b fb)(hp:aCJ b:=by exact λ _ _=>rfl):SE C m1 (.Subscript a b pos) (op2 ixD fa fb):=by
 obtain⟨t,h1,h2⟩:=ha;obtain⟨u,k1,k2⟩:=hb;refine⟨tOp (rIx C.K) t u,λ i=>by rw[<-C.hK i];exact aI2 aOK (h1 i) (k1 i) hp,λ U Z H Y lab Q R W=>?_⟩;refine h2 U Z H Y lab _ R (W.bd.imp λ d _ w x H1 s1 r1=>?_);refine k2 U Z H1 Y lab _ (R.up s1) (w.bd.imp λ e _ w y H2 s2 r2=>?_);obtain⟨z,ez,w⟩:=w.okD;have hi:imm e=true:=by
  unfold ixD at ez;split at ez<;>first|rfl|cases ez
 refine aPU (fpM m1 lab H) x y d e H2 Q z (r1.up s2) (r2.imm hi) ez λ v H' s r=>w v H' ((s1.trans s2).trans s) (r.wk λ p o _ q=>?_)
 rcases q with q|q
 .exact .inl ((s1.trans s2).free q)
 .exact q
def fP(hm:C.mg "len"=none)(ha:SA C m [a] ga)(he:∀i,zAZ [a] (C.X i).env=[(false,eval a (C.X i).env)]:=by intro _;rfl)(hg:∀i,Gl (C.X i) "len":=by intro _;rfl):SE C (some []) (.Call (.Name "len" p) [a] [] pos) (opA fL ga):=
 eO (lr (λ i=>by have h:=aCC (X:=C.X i);rw[C.hK i]at h;exact h) aO6 hg hm PySem.boot_len ha (by decide) (by decide) he) λ _ _ h=>nU aLa h
def aHr(hm:C.mg "all"=none)(ha:SA C m [a] ga)(he:∀i,zAZ [a] (C.X i).env=[(false,eval a (C.X i).env)]:=by intro _;rfl)(hg:∀i,Gl (C.X i) "all":=by intro _;rfl)(hv:zAt "all"=some (.builtin "all"):=by decide+kernel):SE C (some []) (.Call (.Name "all" p) [a] [] pos) (opA (oO λ bs=>bs.all id) ga):=
 eO (lr (λ i=>aJt (C.calm i)) aJl hg hm hv ha (by decide) (by decide) he) λ _ _ h=>nU aFq h
def aK8(hm:C.mg "any"=none)(ha:SA C m [a] ga)(he:∀i,zAZ [a] (C.X i).env=[(false,eval a (C.X i).env)]:=by intro _;rfl)(hg:∀i,Gl (C.X i) "any":=by intro _;rfl)(hv:zAt "any"=some (.builtin "any"):=by decide+kernel):SE C (some []) (.Call (.Name "any" p) [a] [] pos) (opA (oO λ bs=>bs.any id) ga):=
 eO (lr (λ i=>aJs (C.calm i)) aJl hg hm hv ha (by decide) (by decide) he) λ _ _ h=>nU aFq h
def aBJ(hm:C.mg "min"=none)(ha:SA C m [a,b] ga)(he:∀i,zAZ [a,b] (C.X i).env=(false,eval a (C.X i).env)::zAZ [b] (C.X i).env:=by intro _;rfl)(hpl:∀i,(zCo pos (zAZ [b] (C.X i).env)).any (·.1)=false:=by intro _;rfl)(hg:∀i,Gl (C.X i) "min":=by intro _;rfl)(hv:zAt "min"=some (.builtin "min"):=by decide+kernel):SE C (some []) (.Call (.Name "min" p) [a,b] [] pos) (opA (mmD λ i j=>if j<i then j else i) ga):=
 eO (lr (λ i=>aHT (C.calm i)) aMb hg hm hv ha (by decide) (by decide) he hpl) λ _ _ h=>nU aJQ h
def aFS(hm:C.mg "max"=none)(ha:SA C m [a,b] ga)(he:∀i,zAZ [a,b] (C.X i).env=(false,eval a (C.X i).env)::zAZ [b] (C.X i).env:=by intro _;rfl)(hpl:∀i,(zCo pos (zAZ [b] (C.X i).env)).any (·.1)=false:=by intro _;rfl)(hg:∀i,Gl (C.X i) "max":=by intro _;rfl)(hv:zAt "max"=some (.builtin "max"):=by decide+kernel):SE C (some []) (.Call (.Name "max" p) [a,b] [] pos) (opA (mmD λ i j=>if j>i then j else i) ga):=
 eO (lr (λ i=>aHU (C.calm i)) aMb hg hm hv ha (by decide) (by decide) he hpl) λ _ _ h=>nU aJQ h
def fV(hm:C.mg "tuple"=none)(ha:SA C m [a] ga)(he:∀i,zAZ [a] (C.X i).env=[(false,eval a (C.X i).env)]:=by intro _;rfl)(hg:∀i,Gl (C.X i) "tuple":=by intro _;rfl)(hv:zAt "tuple"=some (.type "tuple"):=by decide+kernel):SE C m (.Call (.Name "tuple" p) [a] [] pos) (opA eG ga):=
 xf (λ i=>by have h:=aAF (X:=C.X i);rw[C.hK i]at h;exact h) aJj hg hm hv ha (by decide) (by decide) he
def aBK(hm:C.mg "list"=none)(ha:SA C m [a] ga)(he:∀i,zAZ [a] (C.X i).env=[(false,eval a (C.X i).env)]:=by intro _;rfl)(hg:∀i,Gl (C.X i) "list":=by intro _;rfl)(hv:zAt "list"=some (.type "list"):=by decide+kernel):SE C m (.Call (.Name "list" p) [a] [] pos) (opA v6 ga):=
 xf (λ i=>by have h:=aCA (X:=C.X i);rw[C.hK i]at h;exact h) aLq hg hm hv ha (by decide) (by decide) he
def aL5:∀x z,aCR x= .ok z->imm z=true:=by
 intro x z e;unfold aCR at e;split at e
 .split at e
  .cases e;rfl
  .cases e
 .cases e
def aK2(hm:C.mg "str"=none)(ha:SA C m [a] ga)(he:∀i,zAZ [a] (C.X i).env=[(false,eval a (C.X i).env)]:=by intro _;rfl)(hg:∀i,Gl (C.X i) "str":=by intro _;rfl)(hv:zAt "str"=some (.type "str"):=by decide+kernel):SE C (some []) (.Call (.Name "str" p) [a] [] pos) (opA aCR ga):=
 eO (xf (λ i=>aBx) aO5 hg hm hv ha (by decide) (by decide) he) λ _ _ h=>nU aL5 h
def aNA{K:zAA}{a:Addr}(hO:Only H)(h:SqL K H a (ns.map V.int)):qw K H a ns:=by
 rcases h with (h|⟨o,h⟩)|h
 .rcases hO a with z|⟨o,xs,z⟩
  .rw[h]at z;cases z
  .rw[h]at z;cases z
 .exact .inl ⟨o,h⟩
 .exact .inr h
end
def aCb:V->List V->Hp->VK->Prop:=λ x vs H Q=>∃l b xs zs,x= .ref l/\vs=[.ref b]/\H l=some (.lst xs)/\H b=some (.lst zs)/\xs.length+zs.length<=zAX/\∀H',mY l H H'->H' l=some (.lst (xs++zs))->Q .non H'
def aEZ:MtM X "list.extend" aCb:=λ kX s Z H x xs v us Q I rx rv ⟨l,b,ys,zs,e1,e2,h,h2,z,n⟩=>
 aGk kX s Z H x xs v us Q I rx rv ⟨l,b,ys,zs,e1,e2,h,h2,z,n _ (λ b o ne hb=>by rw[aX ne];exact hb) aZ⟩
section
variable{C:Ct}{pos apos cpos p:Pos}{e:Expr}{fe:En->Rs D}{i:Nat}{x:Str}{m:Mode}
def aLl(ds:List D)(k:List D->Ou):D->Ou
 | .lst es=>if ds.length+es.length<=zAX then k (ds++es)else .st
 |_=>.st
def aOY(i:Nat)(fe:En->Rs D):En->Ou:=λ Y=>match Y[i]? with
 |some (.ow (.lst ds))=>(fe Y).bo (aLl ds λ l=>.nx (Y.set i (.ow (.lst l))))
 |_=>.st
def aGT(i:Nat)(he:SE C m e fe)(hm:okN m=true:=by rfl)(hN:∀j,(C.X j).N[i]? =some x:=by intro _;rfl)(hv:∀j,Vis (C.X j).env.scope x:=by intro _;first|exact zCf rfl|exact zCC (zCf rfl)|exact zCC (zCC rfl))(hd:Nd x:=by decide)
  (hcd:(x==("__classdict__":Str))=false:=by decide)(hs1:∀j,zAZ [e] (C.X j).env=[(false,eval e (C.X j).env)]:=by intro _;rfl)
  (hbase:∀j,zEq (.Name x p) "extend" (C.X j).env (eval (.Name x p) (C.X j).env)=eval (.Name x p) (C.X j).env:=by intro _;rfl)
  (hfew:∀j,((zCo cpos (zAZ [e] (C.X j).env)).all (λ x=>!x.1)&&(zGE cpos (zEL [] (C.X j).env)).all (λ x=>x.1.isSome)&&decide ([e].length+([]:List zDJ).length+(if ([]:List zDJ).isEmpty then 0 else 1)<30))=true:=by intro _;rfl)
  (hline:(apos.endLine==cpos.line)=true:=by rfl)
  (hsw:∀j,zCp (.Call (.Attribute (.Name x p) "extend" apos) [e] [] cpos) none pos.line (C.X j).env=pure false:=by intro _;rfl):
  SS C (.Expr (.Call (.Attribute (.Name x p) "extend" apos) [e] [] cpos) pos) (aOY i fe):=by
 obtain⟨t,h1,h2⟩:=he;refine⟨xQ (tBM C.K "list" aCb (oJ i) (jA t oK)),λ j=>qJ (by rw[<-C.hK j];exact aAR zC8 zHR PySem.F.type_list_extend aEZ (gD (hN j) (hv j) hd hcd) (ak (h1 j) cj (hs1 j)) (hbase j) (hfew j) hline (hs1 j) rfl) (hsw j),λ U Z H Y lab De R W=>?_⟩;unfold aOY at W;cases es:Y[i]? with
 |none=>rw[es]at W;exact zAR W
 |some s=>
  rw[es]at W;split at W
  .rename_i ds hs
   cases hs;rcases R.sl i _ es with z|⟨v,ev,hv'⟩
   .cases z
   .obtain⟨hv1,htop⟩:=hv'
    obtain⟨a0,ea0,la0⟩:=htop rfl;subst ea0;cases hv1 with
    |lst h mm r=>
     rename_i xs;refine⟨.ref a0,ev,.inl ⟨rfl,xs,SqL.of h⟩,h2 U Z H Y lab _ R (W.bo.imp λ d _ w y H2 s2 r2=>?_)⟩;cases d with
     |lst es'=>
      dsimp only[aLl]at w;by_cases hz:ds.length+es'.length<=zAX
      .rw[if_pos hz]at w
       obtain⟨R',r'⟩:=R.fresh (P:=λ k=>k=1) rfl (λ k hk=>beq_iff_eq.mp (qL hm k hk)) s2 r2;have la:(cT H 1 lab a0).1=i+2:=by rw[bj h];exact la0
       cases r' with
       |lst hb mb rb=>
        rename_i b zs;refine⟨a0,b,xs,zs,rfl,rfl,s2 _ _ h,hb,by rw[r.length,rb.length];exact hz,λ H3 B h3=>?_⟩;refine w Z H3 _ (R'.mut ev (s2 _ _ h) rfl la B ⟨.lst h3 (.inr la) ?_,λ _=>⟨a0,rfl,la⟩⟩);have ra:Rps C.K (λ p=>((cT H 1 lab p).1=1\/(cT H 1 lab p).1=i+2)/\p≠a0) H2 (xs++zs) (ds++es'):=by
         refine(r.mono s2 λ p o e z=>⟨by rw[bj e];exact z.1,z.2⟩).append (rb.wk λ p o e z=>⟨.inl z.1,λ q=>?_⟩);subst q;have z1:(cT H 1 lab p).1=1:=z.1;omega
        exact ra.but B (s2 _ _ h) rfl λ z=>z.2 rfl
      .rw[if_neg hz]at w
       exact zAR w
     |_=>exact zAR w
  .exact zAR W
end
abbrev ctL(P:zA2)(w:World)(K:zAA)(mg:Str->Option Value)(base:Heap)(N:List Str)(q:Str)(sc:Scope)(cl:List (Str×Addr))(f:Addr)(cdv:Value)(A:zAc)(outer:List Env)(s:zAG)(H:Hp)(E:XK)(k:Nat)(hr:fB k (A.deeper (zDF q sc s.heap.objs.size f cdv cl))):Ct where
 ι:=Unit
 X:=λ _=>cxL P w K mg base N q sc cl f cdv A outer s H E
 prog:=P
 w:=w
 K:=K
 mg:=mg
 base:=base
 k:=k
 G:=⟨H,E,au mg⟩
 cx:=λ _=>⟨rfl,rfl,rfl,rfl,rfl⟩
 calm:=λ _=>rfl
 room:=λ _=>hr
 own:=λ _=>di.own di.ofL
 pass:=λ _=>di.pass di.ofL
 dOk:=true
 dcx:=λ _ _=>di.ofL
def shS:Slot->Slot
 | .no=>.no
 | .sh d=>.sh d
 | .nw d=>.sh d
 | .ow d=>.sh d
 | .oz d=>.sh d
 | .o2 l=>.sh (.lst (l.map .lst))
def fU.shut{K:zAA}{H:Hp}{lab:Lab}{i:Nat}{v:V}{x:Slot}(h:fU K H lab i v x):fU K H (λ _=>(0,0)) i v (shS x):=by
 cases x with
 |no=>exact trivial
 |sh d=>exact Rp.wk (λ _ _ _ _=>zAj _) h
 |nw d=>exact Rp.wk (λ _ _ _ _=>zAj _) h
 |ow d=>exact Rp.wk (λ _ _ _ _=>zAj _) h.1
 |oz d=>
  obtain⟨a,xs,ds,rfl,rfl,e3,e4,e5⟩:=h;exact .lst e3 (zAj _) (Rps.wk (λ p o e z=>⟨zAj _,λ ep=>by
   have z':(lab p).1<=1:=z;rw[ep,e4]at z';omega⟩) e5)
 |o2 l=>exact Rp.wk (λ _ _ _ _=>zAj _) (aF8 h)
theorem RR.shut{K:zAA}{G:Gx}{U:List (V×D)}{Y:En}{Z:L2.St}{H:Hp}{lab:Lab}{E:XK}{cl:Str->Addr}(R:RR K G U Y Z H lab):RR K ⟨H,E,cl⟩ [] (Y.map shS) Z H (λ _=>(0,0)):=by
 refine⟨by rw[zAD];exact R.len,λ i s e=>?_,aV.refl H,λ p hp=>absurd rfl hp,λ q hq=>by cases hq⟩;rw[zAY]at e;cases hr:Y[i]? with
 |none=>rw[hr]at e;cases e
 |some x=>
  rw[hr]at e;cases e;rcases R.sl i x hr with z|⟨v,e1,e2⟩
  .subst z;exact .inl rfl
  .exact .inr ⟨v,e1,e2.shut⟩
def aPD(cl:Str->Addr)(H1:Hp)(r:Rs D):Sp:=λ vs H Q E=>vs=[]/\aV H1 H/\WR ⟨H,E,cl⟩ r (λ _=>∀v H',aV H H'->Q v H')
def zu(wn:Str->Option Str)(told:Str)(fe:En->Rs D):En->Rs D:=λ Y=>match fe (Y.map shS)with
 | .ok _=>.ok (.str told)
 | .ex c=>(match wn c with
  |some w=>.ok (.str w)
  |none=>.st)
 | .st=>.st
def aOr(P:zA2)(w:World)(K:zAA)(mg:Str->Option Value)(N:List Str)(q:Str)(params:zD0)(body:Expr)(scope:Scope)(k0:Nat)(told:Str)(wd:Addr->Option Str)(E:XK):TE:=λ Z H Q=>
 ∀(base:Heap) (cl:List (Str×Addr)) (f c':Addr) (ctv pm:Value) (H1:Hp),aV H H1->aDe q params body scope cl pm H1 f c' ctv->aKH base N Z scope cl->spR P w K mg base k0 told wd [.ref f] H1 Q E
section
variable{C:Ct}{m:Mode}{x pc told q:Str}{p pos lpos:Pos}{k k0 kb:Nat}{fn:Addr}{fd:zAo}{wd:Addr->Option Str}{wn:Str->Option Str}{params:zD0}{body:Expr}{scope:Scope}{N:List Str}{fe:En->Rs D}
def aDu(hF:∀base,dB C.prog C.w C.K C.mg base (CX1 C.prog C.w) k fn fd [pc] (spR C.prog C.w C.K C.mg base k0 told wd))(hr:k<=C.k)(hm:C.mg x=some (.ref fn))(hk:zBx C.K (.ref fn)=true)(hb:Binds C.K fd [pc] [])
  (hL:∀i,(∃P,wK (C.X i) P)/\(C.X i).outer=[]/\(C.X i).N=N/\(C.X i).tq=q)(S:zb scope)(hcl:C.G.cl=au C.mg)(hwn:∀c w,wn c=some w->wd (au C.mg c)=some w)(hkb:kb+1<=k0)
  (hbody:∀base cl f cd A outer s H E hr,SE (ctL C.prog C.w C.K C.mg base N q scope cl f cd A outer s H E kb hr) m body fe)
  (hbnd:∀cl pm c' ctv,zJG (zGB "<lambda>" q params body scope cl pm (.ref c') ctv) ⟨[],[]⟩=pure []:=by intro _ _ _ _;rfl)(hdef:∀i,zJ4 params (C.X i).env=([],[]):=by intro _;rfl)
  (hfree:∀i,∀y∈scope.names,y.2= .free->(C.X i).env.kindOf y.1=some .cell\/(C.X i).env.kindOf y.1=some .free)(hdb:Nd x:=by decide)(hg:∀i,Gl (C.X i) x:=by intro _;rfl):
  SE C (some []) (.Call (.Name x p) [.Lambda params body scope lpos] [] pos) (zu wn told fe):=by
 refine⟨aOr C.prog C.w C.K C.mg N q params body scope k0 told wd C.G.E,λ i=>?_,λ U Z H Y lab Q R W=>?_⟩
 .obtain⟨e1,e2,e3,e4,e5⟩:=C.cx i
  obtain⟨⟨P,Lx⟩,ho,eN,eq⟩:=hL i;intro kX s Z H Q I h;refine zCM (qM I (hg i) (by rw[e4];exact hm) ?_ hdb);have ha:PA (C.X i) [.Lambda params body scope lpos] _:=ak (aNZ Lx (hdef i) (hfree i)) cj;refine zFA (h₀:=(C.X i).base) I.ok.mod.kin (by rw[e3];exact hk) (thn (ha pos kX s Z H (λ vs H1=>aV H H1/\∃f c' ctv,vs=[.ref f]/\aDe (C.X i).tq params body scope (L2.au scope (C.X i).env) (((C.X i).mg "__name__").getD .none) H1 f c' ctv) I
   (λ f c' ctv H' sm l=>⟨sm,f,c',ctv,rfl,l⟩)) λ us s1 ⟨vs,H1,I1,r,sm,f,c',ctv,ev,la⟩=>⟨I1.kIn,?_⟩)
  subst ev;have hz:=h (bse (C.X i) s1 H1) (L2.au scope (C.X i).env) f c' ctv _ H1 sm (by rw[<-eq];exact la) (by rw[<-eN];exact aO7 I1 ho S (hfree i));exact aK9 (CX:=CX1 (C.X i).prog (C.X i).w) I1 (by rw[e1,e2,e3,e4];exact hF _) ((C.room i).mono hr) (by rw[e3];exact hb) (C.pass i) r (by rw[e1,e2,e3,e4]at*;exact hz)
 .intro base cl f c' ctv pm H1 sm la cp
  have R1:=R.up sm;have FL:dB C.prog C.w C.K C.mg base (CX1 C.prog C.w) (kb+1) f (zGB "<lambda>" q params body scope cl pm (.ref c') ctv) [] (aPD (au C.mg) H1 (fe (Y.map shS))):=by
   refine aNz la S cp (λ vs H Q E h=>⟨h.1,h.2.1⟩) λ A outer s H2 Q2 E2 hr2 hsp=>?_
   obtain⟨t,h1,h2⟩:=hbody base cl f (.ref c') A outer s H2 E2 hr2;exact⟨t,h1 (),h2 [] Z H2 _ _ Q2 (R1.up hsp.2.1).shut (hsp.2.2.imp λ d _ z v H' s' _=>z v H' s')⟩
  refine⟨f,_,_,_,_,kb+1,_,rfl,la.1,FL,hkb,λ s us _ hl=>?_,rfl,aV.refl H1,?_⟩
  .have e:us=[]:=by
    rw[zBC]at hl;exact zGy.mp hl
   subst e;exact .of_eq (hbnd cl pm c' ctv)
  .unfold zu at W
   cases he:fe (Y.map shS)with
   |ok d=>rw[he]at W;exact λ v H' s'=>W (.str told) H' (sm.trans s') (.str told)
   |ex c=>
    rw[he]at W;cases hw:wn c with
    |none=>simp only[hw]at W;exact W.elim
    |some w=>
     simp only[hw]at W;exact λ H' s'=>⟨_,w,rfl,hwn c w hw,λ H'' s''=>W (.str w) H'' (sm.trans (s'.trans s'')) (.str w)⟩
   |st=>rw[he]at W;exact W.elim
end
end VL
namespace L2
open PySem PySem.Spec PyProof.Rows
def cxW(P:zA2)(w:World)(K:zAA)(mg:Str->Option Value)(base:Heap)(N:List Str)(qual:Str)(scope:Scope)(f:Addr)(cd:Value)(A:zAc)(s:zAG)(H:Hp)(Pt:Addr):Cx where
 prog:=P
 w:=w
 K:=K
 mg:=mg
 base:=base
 A:=A.deeper (zDO qual scope s.heap.objs.size f cd)
 N:=N
 z0:=s
 zS:=H
 env:=zDO qual scope s.heap.objs.size f cd
 outer:=[]
 stack:=[zDO qual scope s.heap.objs.size f cd]
 ex:=[Pt]
 calm:=true
 fn:=λ _=>true
 pn:=[]
 xe:=λ _ _=>False
 ta:=[(Pt,zCd #[])]
 tq:=qual++".<locals>."++"<lambda>"
section
variable{P:zA2}{w:World}{K:zAA}{mg:Str->Option Value}{base:Heap}{N ps:List Str}{qual:Str}{scope:Scope}{f Pt:Addr}{cd:Value}{A:zAc}{s s1:zAG}{H:Hp}{vs:List V}{us:List Value}
def aEo(S:aY N ps scope)(hd:A.handled=none)(e0:aDh P w K mg base A [] s H)(hl:vs.length=ps.length)(r:Vals vs us)
  (hP:s.heap.get? Pt=some (zCd #[]))(hH:H Pt=none)(hb:base.get? Pt=none)
  (x:InCallC s s.heap.objs.size (bindL (zDO qual scope s.heap.objs.size f cd).kindOf (ps.zip us) λ _=>none) (zDN (s.heap.objs.size+1) scope.names []) (bindC (zDO qual scope s.heap.objs.size f cd).kindOf (ps.zip us) λ _=>none) s1):
  Inv (cxW P w K mg base N qual scope f cd A s H Pt) [] (start N vs) H s1:=by
 have I:Inv (wR (CX1 P w) P w K mg base N qual scope f cd A [] s H λ _ _ _=>False) [] (start N vs) H s1:=vG S hd e0 hl r x;obtain⟨h1,tk,e1,hk⟩:=x.done;have hlt:=zAT hP;have hne:∀b∈[Pt],b≠s.heap.objs.size:=λ b hb z=>by
  have e:b=Pt:=by simpa using hb
  rw[e]at z;exact absurd hlt (by rw[z];exact zBh _)
 refine⟨⟨I.ok.mod,I.ok.kind,I.ok.glob,I.ok.blt,I.ok.above,I.ok.inj,I.ok.has,I.ok.cab,I.ok.hd,I.ok.frames,I.ok.stk,λ b hb2=>⟨hne b hb2,λ y c e z=>?_⟩,I.ok.bs,I.ok.bsz,λ b o e hb'=>?_,λ b _=>λ z=>(nomatch z),I.ok.funs,I.ok.frf⟩,
  I.os,I.bare,I.base.mono (λ b z=>z) (λ b z=>(nomatch z)),I.loc,I.cell,I.free,I.freeC,I.pin,I.hok,I.len,λ p hp=>?_⟩
 .have q:s.heap.objs.size<=c:=I.ok.cab y c rfl e
  have e2:b=Pt:=by simpa using(show b∈[Pt]from hb2)
  rw[z,e2]at q;exact absurd hlt (zEV.mpr q)
 .have e2:b=Pt:=by simpa using(show b∈[Pt]from hb')
  have e3:base.get? b=some o:=e;rw[e2,hb]at e3;cases e3
 .have e2:p=(Pt,zCd #[]):=by simpa using(show p∈[(Pt,zCd #[])]from hp)
  subst e2;refine⟨hH,hne Pt zAE,λ z=>(nomatch z),λ q hq=>(nomatch hq),#[],?_,trivial,λ pos cv e=>nomatch e⟩;subst e1;exact hk _ _ hP
end
def aGv{P:zA2}{w:World}{K:zAA}{mg mb:Str->Option Value}{k:Nat}{fa a c Pt:Addr}{x:Str}{zI:zAG}{vs:List Value}{ns:List Int}{N:List Str}{oc doc pm ct dV kV:Value}{od:Option Addr}{osl:Array (Option Value)}{name qual:Str}{params:zD0}{body:List Stmt}{scope:Scope}{an:Option Addr}
  (KX:K.In zI.heap)(hns:zI.heap.Ns zA6 mg)(hb:zI.heap.Ns zJ3 mb)(hbb:∀x:Str,x≠"__name__"->mb x=zAt x)(e8:zI.heap.NoLimit)(hg:zI.gens=#[])
  (ha:zI.heap.get? a=some {cls:=.type "list",data:=.seq vs.toArray})(hi:zB8 vs ns)(hl:ns.length<=zAX)(hr:fB (k+1) zCv)
  (hP:zI.heap.get? Pt=some (zCd #[]))(hKP:K.lookup Pt=none)(hC:zER K c Pt=true)(hbl:zI.heap.BuiltinsAt mg Pt)
  (lk:K.lookup fa=some ⟨oc,od,.func (zBz name qual params body scope dV kV doc pm an (.ref c) ct),osl⟩)(hcd:zDV K (.ref c) qual=true)(S:aY N [x] scope)
  (hbind:∀(s:zAG) (u:Value),zHp s (zBz name qual params body scope dV kV doc pm an (.ref c) ct) ⟨[u],[]⟩ [(x,u)])
  (hbody:∀(base:Heap) (s:zAG) (H:Hp),fB k (zCv.deeper (zDO qual scope s.heap.objs.size fa (.ref c)))->wK (cxW P w K mg base N qual scope fa (.ref c) zCv s H Pt) Pt->Only H->SqL K H a (ns.map V.int)->
   ∃t,PSs (cxW P w K mg base N qual scope fa (.ref c) zCv s H Pt) body t/\t {nx:=λ _ _=>False,rt:=λ v _=>v= .bl true} (start N [.ref a]) H):
  zCW (model P w) zCv (.call (.ref fa) ⟨[.ref a],[]⟩) (λ r s'=>r= .ok (.ret (.bool true))/\OldK zI.heap s'.heap/\s'.os=zI.os/\zFG s'.gens) zI:=by
 have rv:=aAK hi;have lenV:=hi.length;have aP:a≠Pt:=λ z=>by
  rw[z,hP]at ha;have e2:=congrArg Obj.cls (zAa ha);cases e2
 have core:∀H:Hp,Only H->SqL K H a (ns.map V.int)->HOk P w H zI.heap->(∀b,H b≠none->b=a)->(H a≠none->K.lookup a=none)->
   zCW (model P w) zCv (.call (.ref fa) ⟨[.ref a],[]⟩) (λ r s'=>r= .ok (.ret (.bool true))/\OldK zI.heap s'.heap/\s'.os=zI.os/\zFG s'.gens) zI:=by
  intro H hO hS hok hA hK;have hPn:H Pt=none:=by
   cases q:H Pt with
   |none=>rfl
   |some u=>exact absurd (hA Pt (by rw[q];simp)).symm aP
  let B:=zCN (aJW zI.heap H) [Pt];have base_of:∀{b:Addr} {o:Obj},zI.heap.get? b=some o->H b=none->b≠Pt->B.get? b=some o:=λ e n ne=>zC9 _ (aJV e n) (by simpa using ne)
  have noA:∀{b:Addr} {o:Obj} {es:Array DictEntry} {ep:Nat},zI.heap.get? b=some o->o.data= .dict es ep->H b=none/\b≠Pt:=λ{b o es ep} e d=>by
   refine⟨?_,λ z=>?_⟩
   .cases q:H b with
    |none=>rfl
    |some u=>
     have e':b=a:=hA b (by rw[q];simp);subst e';rw[ha]at e;cases e;have d':Data.seq vs.toArray _=Data.dict es ep:=d;cases d'
   .rw[z,hP]at e
    cases e;cases d
  have nsK:∀{b:Addr} {m:Str->Option Value},zI.heap.Ns b m->B.Ns b m:=λ{b m} ⟨o,es,ep,e,d,r⟩=>⟨o,es,ep,base_of e (noA e d).1 (noA e d).2,d,r⟩
  have hKb:K.In B:=λ b o e=>base_of (KX b o e) (by
   cases q:H b with
   |none=>rfl
   |some u=>
    have e':b=a:=hA b (by rw[q];simp);subst e';rw[hK (by rw[q];simp)]at e;cases e) (λ z=>by rw[z,hKP]at e;cases e)
  have hM:Mod K mg B:=⟨hKb,nsK hns,⟨mb,nsK hb,hbb⟩,let⟨mc,h1,h2⟩:=e8;⟨mc,nsK h1,h2⟩⟩;have e0:aDh P w K mg B zCv [] zI H:=⟨rfl,hM,λ b o e=>aLH (zDo _ e),zH5 ((zEf _ _).trans (aHG _ _)),trivial,λ b hb=>absurd (show b∈([]:List Addr)from hb) (by simp),hok,.of_eq hg⟩;have gP:zA6≠Pt:=by
   obtain⟨o,es,ep,e,d,_⟩:=hns;exact(noA e d).2
  have hLx:wK (cxW P w K mg B N qual scope fa (.ref c) zCv zI H Pt) Pt:=by
   refine⟨⟨_,rfl⟩,zAE,rfl,⟨c,rfl,zHE hKb hC⟩,?_,gP⟩;obtain⟨bm,o,b1,b2,b3,b4,b5,b6,b7,b8⟩:=hbl;refine⟨bm,o,b1,b2,b3,b4,base_of b5 ?_ b4,b6,b7,b8⟩;cases q:H bm with
   |none=>rfl
   |some u=>
    have e':bm=a:=hA bm (by rw[q];simp);rw[e',ha]at b5;cases b5;cases b8
  have cS:∀y∈[x].zip [zBF a],scope.names.lookup y.1=some .local\/(scope.names.lookup y.1=some .cell/\((zDN (zI.heap.objs.size+1) scope.names []).lookup y.1).isSome=true):=λ⟨n,v⟩ hy=>by
   rcases S.par n (zCG hy).1 with q|q
   .exact .inl q
   .exact .inr ⟨q,zDR _ _ _ (.inl q)⟩
  refine zFM hr.depth (KX _ _ lk) rfl S.co S.gen rfl (zFB KX hcd) (hbind zI (.ref a) _ _ _ _ ?_);refine zEY S.kind cS λ env he s1 x'=>?_
  subst he;refine⟨e8.keeps x'.toInCall.keep,zId ?_⟩;obtain⟨t,ht,hq⟩:=hbody B zI H (hr.deeper _) hLx hO hS;have I:Inv (cxW P w K mg B N qual scope fa (.ref c) zCv zI H Pt) [] (start N [.ref a]) H s1:=aEo (ps:=[x]) (us:=[.ref a]) S hr.hd e0 rfl (.cons rfl .nil) hP hPn (zEe _ zAE) x';refine zBX (ht [] s1 (start N [.ref a]) H _ I hq) (λ fl s' hs=>?_) λ e s' hs=>hs.elim
  cases fl with
  |next=>obtain⟨_,_,_,q⟩:=hs;exact q.elim
  |brk=>obtain⟨_,_,_,q⟩:=hs;exact q.elim
  |cont=>obtain⟨_,_,_,q⟩:=hs;exact q.elim
  |ret u=>
   obtain⟨v,Z',H',J,rv',q⟩:=hs;have q':v= .bl true:=q;subst q';obtain rfl:u=zCu true:=rv';obtain⟨_,_,_,_,ps,hps,_⟩:=J.tab (Pt,zCd #[]) zAE;have all:∀b o,zI.heap.get? b=some o->b≠Pt->s'.heap.get? b=some o:=λ b o e ne=>by
    cases q:H b with
    |none=>exact J.base.keep b o e q (λ z=>(nomatch z)) (by simpa[cxW]using ne)
    |some u=>
     rcases hO b with z|⟨ob,xs,z⟩
     .rw[q]at z;cases z
     .have z2:=J.base.frzs b ob _ z
      obtain⟨e1,_⟩:=hok b _ z;obtain⟨e2,_⟩:=J.hok b _ z2;rw[e]at e1;cases e1;exact e2
   refine⟨rfl,⟨λ b o e=>?_,λ b o e=>?_⟩,J.os,J.bare⟩
   .by_cases hbP:b=Pt
    .subst hbP
     rw[hP]at e;cases e;obtain⟨⟨o1,vs1,f1,f2,f3,f4⟩,_⟩:=(zHE KX hC).tab hP;exact .inr (.inl ⟨⟨c,o1,vs1,f1,f2,f3,f4⟩,rfl,#[],ps,rfl,by simpa using hps⟩)
    .exact .inl (all b o e hbP)
   .by_cases hbP:b=Pt
    .subst hbP;exact⟨_,hps⟩
    .exact⟨o,all b o e hbP⟩
 cases hk:K.lookup a with
 |some o=>
  have e:=KX a o hk;rw[ha]at e;cases e;refine core (λ _=>none) (λ _=>.inl rfl) (.inr ⟨_,vs.toArray,_,hk,rfl,rfl,rfl,by rw[zAP,lenV];exact hl,by simpa using rv⟩) (λ b u z=>by have z':(none:Option HO)=some u:=z;cases z') (λ b z=>absurd rfl z) λ z=>absurd rfl z
 |none=>
  refine core (λ b=>if b=a then some (.frz {cls:=.type "list",data:=.seq vs.toArray} (.lst (ns.map V.int)))else none) (λ b=>?_) (.inl (.inr ⟨{cls:=.type "list",data:=.seq vs.toArray},if_pos rfl⟩)) (λ b u z=>?_) (λ b z=>?_) λ _=>hk
  .by_cases hb:b=a
   .exact .inr ⟨_,_,if_pos hb⟩
   .exact .inl (if_neg hb)
  .by_cases hb:b=a
   .have z':=(if_pos hb).symm.trans z
    cases z';subst hb;exact⟨ha,by rw[zAD];exact hl,vs,_,rv,ha⟩
   .have z':=(if_neg hb).symm.trans z
    cases z'
  .by_cases hb:b=a
   .exact hb
   .exact absurd (if_neg hb) z
end L2
namespace VL
open PySem PySem.Spec PyProof.Rows L2
abbrev ctW(P:zA2)(w:World)(K:zAA)(mg:Str->Option Value)(base:Heap)(N:List Str)(q:Str)(sc:Scope)(f:Addr)(cdv:Value)(A:zAc)(s:zAG)(H:Hp)(Pt:Addr)(k:Nat)(hr:fB k (A.deeper (zDO q sc s.heap.objs.size f cdv))):Ct where
 ι:=Unit
 X:=λ _=>cxW P w K mg base N q sc f cdv A s H Pt
 prog:=P
 w:=w
 K:=K
 mg:=mg
 base:=base
 k:=k
 G:=⟨H,λ _ _ _=>False,au mg⟩
 cx:=λ _=>⟨rfl,rfl,rfl,rfl,rfl⟩
 calm:=λ _=>rfl
 room:=λ _=>hr
 own:=λ _=>λ _ _ h=>zAR h
 pass:=λ _=>λ _ _ _ _ _ _ _ ⟨_,_,_,_,_,_,_,_,_,_,_,_,_,z⟩=>z
 dOk:=false
 dcx:=λ z=>nomatch z
def aIy{P:zA2}{w:World}{K:zAA}{mg:Str->Option Value}{base:Heap}{N:List Str}{q:Str}{sc:Scope}{fa a Pt:Addr}{cdv:Value}{A:zAc}{s:zAG}{H:Hp}{k:Nat}{hr:fB k (A.deeper (zDO q sc s.heap.objs.size fa cdv))}{body:List Stmt}{f:En->Ou}{ns:List Int}
  (hb:SSs (ctW P w K mg base N q sc fa cdv A s H Pt k hr) body f)(e:eF N.length f [.scr ns]= .ok (.bl true))(r:Rps K (λ _=>True) H [.ref a] [.scr ns]):
  ∃t,PSs (cxW P w K mg base N q sc fa cdv A s H Pt) body t/\t {nx:=λ _ _=>False,rt:=λ v _=>v= .bl true} (start N [.ref a]) H:=by
 obtain⟨t,h1,h2⟩:=hb;refine⟨t,h1 (),h2 [] _ H _ _ _ (RR.start r) ?_⟩;unfold eF at e;cases ef:f (bG N.length [.scr ns])with
 |nx Y=>rw[ef]at e;cases e
 |rt d=>rw[ef]at e;cases e;exact λ v H' s r=>r.bl_inv
 |ex c=>rw[ef]at e;cases e
 |bk Y=>rw[ef]at e;cases e
 |ct Y=>rw[ef]at e;cases e
 |st=>rw[ef]at e;cases e
def aEG{P:zA2}{w:World}{K:zAA}{mg:Str->Option Value}{base:Heap}{x q n0 n1 n2 few cn pe told:Str}{st:Stmt}{f fc C':Addr}{fd fdc:zAo}{kc k0:Nat}{wd:Addr->Option Str}{p1 p2 p3 p4 p5 p6 p7 p8 p9 p10 p11 p12 p13 p14 p15 p16:Pos}{j1:Nat}
  (F:L2.Fun K x q st f fd)(S:aY [n0,n1,n2] [n0] (aJ st))(hst:dM st=[.Assign [.Name n1 p1] (.Constant (.str told) j1 p2) p3,.Try [.Expr (.Call (.Name n0 p4) [] [] p5) p6] [.ExceptHandler (some (.Name few p7)) (some n2) [.Assign [.Name n1 p8] (.Call (.Name cn p9) [.Name n2 p10] [] p11) p12] p13] [] [] p14,.Return (some (.Name n1 p15)) p16])
  (l0:(aJ st).names.lookup n0=some .local)(l1:(aJ st).names.lookup n1=some .local)(l2:(aJ st).names.lookup n2=some .local)(g1:(aJ st).names.lookup few=some .globalImplicit)(g2:(aJ st).names.lookup cn=some .globalImplicit)
  (hm:mg few=some (.ref C'))(hC':cM K C')(FC:FnH P w K mg base kc fc fdc [pe] (spW wd))(hmc:mg cn=some (.ref fc))(hkc:zBx K (.ref fc)=true)(hbc:Binds K fdc [pe] [])(hkk:kc<=k0)(hw:∀C w,wd C=some w->cM K C/\vK K C C'=true)
  (d1:Nd few:=by decide)(d2:Nd cn:=by decide)(d3:Nd n0:=by decide)(d4:Nd n1:=by decide)(d5:Nd n2:=by decide)
  (d6:(n0==("__classdict__":Str))=false:=by decide)(d7:(n1==("__classdict__":Str))=false:=by decide)(d8:(n2==("__classdict__":Str))=false:=by decide):
  dB P w K mg base (CX1 P w) (k0+1) f fd [n0] (spR P w K mg base k0 told wd):=by
 refine F.okX S (λ vs H Q E ⟨_,_,_,_,_,_,_,e,_⟩=>by rw[e];rfl) λ cdv A outer s H vs Q E hr hsp=>?_
 rw[hst];exact aIA (X:=wR (CX1 P w) P w K mg base [n0,n1,n2] q (aJ st) f cdv A outer s H E) di.of rfl rfl S.nd l0 l1 l2 (λ _=>rfl) hm g1 hC' FC g2 hmc hkc hbc hr hkk hw hsp d1 d2 d3 d4 d5 d6 d7 d8
end VL
namespace L2
open PySem PySem.Spec PyProof.Rows
def iB{X:Cx}{n0:Str}{e:Expr}{c:V}{p p' pos:Pos}(hN:X.N[0]? =some n0)(hv:X.env.scope.names.lookup n0=some .local)(hg:Gl X "isinstance")(hm:X.mg "isinstance"=none)(hc:PE X e (tC c))(hse:zAZ [e] X.env=(false,eval e X.env)::zAZ [] X.env:=by rfl)
  (hpl:(zCo pos (zAZ [e] X.env)).any (·.1)=false:=by rfl)(d:Nd n0:=by decide)(d':(n0==("__classdict__":Str))=false:=by decide):PE X (.Call (.Name "isinstance" p) [.Name n0 p',e] [] pos) (aDo X.K c):=
 mD aHW hg hm rfl (ak (gD hN (.inl hv) d d') (ak hc cj hse)) (hpl:=hpl)
section
variable{P:zA2}{w:World}{K:zAA}{mg:Str->Option Value}{base:Heap}{x q n0 n1 n2 odd:Str}{st:Stmt}{f:Addr}{fd:zAo}{k:Nat}{wd:Addr->Option Str}{c1 c2:V}{k1 k2 k3 k4:List V}{l1 l2:List Str}{a1 a2:Expr}{as1 as2 e1 e2 e3 e4 w1 w2:List Expr}{kw1 kw2:List zDJ}
 {p1 p2 p3 p4 p5 p6 p7 p8 p9 p10 p11 p12 p13 p14 p15 p16 p17 p18 p19 p20 p21 p22 p23 p24 p25 p26 p27 p28 p29 p30 p31 p32 p33 p34 p35 p36 p37 p38 p39 p40:Pos}{q1 q2 q3 q4 q5 q6 q7:Pos}{j1 j2 j3 j4 j5:Nat}
end
structure aGJ(P:zA2)(w:World)(K:zAA)(mg:Str->Option Value)(fa Pt:Addr)(k n:Nat):Prop where
 ex:∃(x name qual:Str) (params:zD0) (body:List Stmt) (scope:Scope) (dV kV doc pm ct oc:Value) (an od:Option Addr) (c:Addr) (osl:Array (Option Value)) (N:List Str),
  K.lookup Pt=none/\zER K c Pt=true/\K.lookup fa=some ⟨oc,od,.func (zBz name qual params body scope dV kV doc pm an (.ref c) ct),osl⟩/\zDV K (.ref c) qual=true/\aY N [x] scope/\
  (∀(s:zAG) (u:Value),zHp s (zBz name qual params body scope dV kV doc pm an (.ref c) ct) ⟨[u],[]⟩ [(x,u)])/\
  ∀(a:Addr) (ns:List Int),ns.length<=n->∀(base:Heap) (s:zAG) (H:Hp),fB k (zCv.deeper (zDO qual scope s.heap.objs.size fa (.ref c)))->wK (cxW P w K mg base N qual scope fa (.ref c) zCv s H Pt) Pt->Only H->SqL K H a (ns.map V.int)->
   ∃t,PSs (cxW P w K mg base N qual scope fa (.ref c) zCv s H Pt) body t/\t {nx:=λ _ _=>False,rt:=λ v _=>v= .bl true} (start N [.ref a]) H
def aH6{l:zFj}{n k:Nat}{q:zA2}{loose:List Str}{XP:(Str->Option Value)->Heap->Prop}{YP:World->Heap->Prop}{d:DefRec}{K:Params->zAA}{Pt:Addr}
  (hn:l.most=some n)(hn2:n<=zAX)(hdf:d.params.defaults=[])(hr:fB (k+1) zCv)
  (hY:∀(w:World) (h:Heap),YP w h->(K w.params).In h/\h.get? Pt=some (zCd #[]))
  (F:∀(w:World) (mg:Str->Option Value) (fa:Addr) (h:Heap),(K w.params).In h->h.Ns zA6 mg->mg d.name=some (.ref fa)->aGJ l.prog w (K w.params) mg fa Pt k n):
  zIa q loose XP YP l.row.toRowW d [] (λ f vs=>zHz f vs):=by
 refine Att.aD5 hn hdf λ w z0 zI mg mb fa o pm cd doc a vs ns G Y ho hd hcd hmg hobj hints kK hg=>?_
 obtain⟨KX,hP⟩:=hY w _ Y;obtain⟨x,name,qual,params,body,scope,dV,kV,doc,pm,ct,oc,an,od,c,osl,N,h1,h2,h3,h4,h5,h6,h7⟩:=(F w mg fa _ KX G.T.g hmg).ex;have hbl:zI.heap.BuiltinsAt mg Pt:=by
  obtain⟨bm,ob,b1,b2,b3,b4,b5,b6⟩:=G.T.bmain;refine⟨bm,ob,b1,b2,λ z=>?_,λ z=>?_,b3,b4,b5,b6⟩
  .obtain⟨o,es,ep,e,hd,_⟩:=G.T.g
   rw[z,e]at b3;cases b3;rw[hd]at b6;cases b6
  .rw[z,hP]at b3;cases b3;cases b4
 exact aGv KX G.T.g G.T.b G.T.builtins G.T.nolimit hg hobj hints (zAl kK hn2) hr hP h1 h2 hbl h3 h4 h5 h6 λ base s H r1 r2 r3 r4=>h7 a ns kK base s H r1 r2 r3 r4
def clB(K:zAA)(few C:Addr):Bool:=zGY K C [.type "ValueError",.type "Exception",.type "BaseException",.type "object"] "ValueError.__new__"&&decide (zB2 K (.ref C) "__class__"=some (some (.builtin "object.__class__")))&&decide (zB2 K (.ref C) "__getattribute__"=some (some (.builtin "BaseException.__getattribute__")))&&decide (zB2 K (.ref C) "__getattr__"=some none)&&decide (zCJ K (.ref C) (.ref few)=some true)&&decide (zCJ K (.ref C) (.type "ValueError")=some true)&&vK K C few
def aEw(K:zAA)(few:Addr)(cs:List Addr):Bool:=(zAm cs.length).all λ j=>match cs[j]? with
 |none=>true
 |some C=>clB K few C&&(zAm cs.length).all λ i=>match cs[i]? with
  |none=>true
  |some c=>decide (zCJ K (.ref C) (.ref c)=some (i==j))
theorem lookup_at{C:Addr}{w:Str}:∀{cs:List Addr} {ws:List Str},(cs.zip ws).lookup C=some w->∃j:Nat,cs[j]? =some C/\ws[j]? =some w
 |[],_,h=>by cases h
 |_::_,[],h=>by cases h
 |c::cs,x::ws,h=>by
  rw[zBL,zBG]at h;by_cases e:C==c
  .simp only[e]at h
   cases h;exact⟨0,by rw[zDA e];rfl,rfl⟩
  .simp only[e]at h
   obtain⟨j,h1,h2⟩:=lookup_at h;exact⟨j+1,h1,h2⟩
def aMJ{K:zAA}{few c0 c1 c2 c3 c4 c5 c6 c7 c8 c9 c10 c11:Addr}{ws:List Str}(h:aEw K few [c0,c1,c2,c3,c4,c5,c6,c7,c8,c9,c10,c11]=true){C:Addr}{w:Str}(hw:([c0,c1,c2,c3,c4,c5,c6,c7,c8,c9,c10,c11].zip ws).lookup C=some w):
  Wd K (.ref few) (.ty "ValueError") [[.ref c0,.ref c1,.ref c2],[.ref c3,.ref c4,.ref c5],[.ref c6,.ref c7,.ref c8],[.ref c9,.ref c10,.ref c11]] ws C w/\cM K C/\vK K C few=true:=by
 obtain⟨j,h1,h2⟩:=lookup_at hw;have hj:j<12:=(zAN.mp h1).1;have h3:=zA8.mp h j (zBU.mpr hj);simp only[h1,zAK]at h3;obtain⟨h4,h5⟩:=h3;have F:∀(i:Nat) c,[c0,c1,c2,c3,c4,c5,c6,c7,c8,c9,c10,c11][i]? =some c->Kt K C (.ref c) (i==j):=λ i c e=>by
  have h6:=zA8.mp h5 i (zBU.mpr (zAN.mp e).1);simp only[e]at h6;exact⟨_,rfl,of_decide_eq_true h6⟩
 unfold clB at h4;simp only[zAK,decide_eq_true_eq]at h4;obtain⟨⟨⟨⟨⟨⟨q1,q2⟩,q3⟩,q4⟩,q5⟩,q6⟩,q7⟩:=h4;refine⟨⟨⟨q1,q2,q3,q4⟩,⟨_,rfl,q5⟩,⟨_,rfl,q6⟩,[0==j,1==j,2==j],[3==j,4==j,5==j],[6==j,7==j,8==j],[9==j,10==j,11==j],j,_,_,_,_,rfl,.cons (F 0 c0 rfl) (.cons (F 1 c1 rfl) (.cons (F 2 c2 rfl) .nil)),.cons (F 3 c3 rfl) (.cons (F 4 c4 rfl) (.cons (F 5 c5 rfl) .nil)),
  .cons (F 6 c6 rfl) (.cons (F 7 c7 rfl) (.cons (F 8 c8 rfl) .nil)),.cons (F 9 c9 rfl) (.cons (F 10 c10 rfl) (.cons (F 11 c11 rfl) .nil)),by simp,?_,?_,?_,h2⟩,q1,q7⟩
 .exact(by decide:∀j,j<12->([0==j,1==j,2==j]++[3==j,4==j,5==j]++[6==j,7==j,8==j]++[9==j,10==j,11==j]).count true=1) j hj
 .exact(by decide:∀j,j<12->([0==j,1==j,2==j]++[3==j,4==j,5==j]++[6==j,7==j,8==j]++[9==j,10==j,11==j])[j]? =some true) j hj
 .exact λ m hm=>(by decide:∀j,j<12->∀m,m<j->([0==j,1==j,2==j]++[3==j,4==j,5==j]++[6==j,7==j,8==j]++[9==j,10==j,11==j])[m]? =some false) j hj m hm
def yp{scope sc:Scope}(h:∀y∈scope.names,y.2= .free->sc.names.lookup y.1=some .cell\/sc.names.lookup y.1=some .free):∀y∈scope.names,y.2= .free->sc.names.lookup y.1=some .cell\/sc.names.lookup y.1=some .free:=h
def aD2{K:zAA}{few:Addr}{cs:List Addr}(h:aEw K few cs=true){i j:Nat}{C c:Addr}(hj:cs[j]? =some C)(hi:cs[i]? =some c):zCJ K (.ref C) (.ref c)=some (i==j):=by
 have h3:=zA8.mp h j (zBU.mpr (zAN.mp hj).1);simp only[hj,zAK]at h3;have h6:=zA8.mp h3.2 i (zBU.mpr (zAN.mp hi).1);simp only[hi]at h6;exact of_decide_eq_true h6
def aLr{K:zAA}{few:Addr}{cs:List Addr}(h:aEw K few cs=true){i j:Nat}{C:Addr}(hj:cs[j]? =some C)(hi:cs[i]? =some C):i=j:=by
 have a:=aD2 h hj hi;have b:=aD2 h hj hj;rw[a]at b;have e:=zAa b;rw[beq_self_eq_true]at e;exact zDA e
theorem ye{C:Addr}{w:Str}:∀{cs:List Addr} {ws:List Str} {j:Nat},(∀i:Nat,cs[i]? =some C->i=j)->cs[j]? =some C->ws[j]? =some w->(cs.zip ws).lookup C=some w
 |[],_,_,_,h,_=>by simp at h
 |_::_,[],_,_,_,h=>by simp at h
 |c::cs,x::ws,j,u,h1,h2=>by
  rw[zBL,zBG];by_cases e:C==c
  .have e0:0=j:=u 0 (by rw[zDA e];rfl)
   subst e0;simp only[e];simpa using h2
  .simp only[e]
   cases j with
   |zero=>
    have e1:c=C:=by simpa using h1
    rw[e1]at e;simp at e
   |succ j=>exact ye (j:=j) (λ i hi=>zGg (u (i+1) hi)) h1 h2
def aOj{K:zAA}{few:Addr}{cs:List Addr}{ws:List Str}(h:aEw K few cs=true){j:Nat}{C:Addr}{w:Str}(h1:cs[j]? =some C)(h2:ws[j]? =some w):(cs.zip ws).lookup C=some w:=ye (λ i hi=>aLr h h1 hi) h1 h2
end L2
namespace VL
open PySem PySem.Spec PyProof.Rows L2
def aOi{K:zAA}{mg:Str->Option Value}{few c0 c1 c2 c3 c4 c5 c6 c7 c8 c9 c10 c11:Addr}{ws:List Str}{ns:List Str}(h:aEw K few [c0,c1,c2,c3,c4,c5,c6,c7,c8,c9,c10,c11]=true)
  (hl:ns.map (VL.au mg)=[c0,c1,c2,c3,c4,c5,c6,c7,c8,c9,c10,c11]):∀c w,(ns.zip ws).lookup c=some w->([c0,c1,c2,c3,c4,c5,c6,c7,c8,c9,c10,c11].zip ws).lookup (VL.au mg c)=some w:=λ c w e=>by
 have go:∀(ns:List Str) (ws:List Str),(ns.zip ws).lookup c=some w->∃j:Nat,ns[j]? =some c/\ws[j]? =some w:=by
  intro ns;induction ns with
  |nil=>intro ws h;cases h
  |cons x ns ih=>
   intro ws h;cases ws with
   |nil=>cases h
   |cons y ws=>
    rw[zBL,zBG]at h;by_cases e:c==x
    .simp only[e]at h
     cases h;exact⟨0,by rw[zDA e];rfl,rfl⟩
    .simp only[e]at h
     obtain⟨j,h1,h2⟩:=ih ws h;exact⟨j+1,h1,h2⟩
 obtain⟨j,h1,h2⟩:=go ns ws e;refine aOj h (j:=j) ?_ h2;rw[<-hl,zAY,h1];rfl
section
variable{O:zCa}{kz:Nat->O.α}{n:Nat}
def Wr{α:Type}(kz:Nat->O.α)(n:Nat):zGp α->(α->Prop)->Prop
 | .ret a,Q=>Q a
 | .ask i j k,Q=>i<n/\j<n/\Wr kz n (k (O.blt (kz i) (kz j))) Q
theorem Wr.bindI:∀{t:zGp α},Wr kz n t (λ a=>Wr kz n (g a) Q)->Wr kz n (t.bind g) Q
 | .ret _,h=>h
 | .ask _ _ _,⟨h1,h2,h3⟩=>⟨h1,h2,Wr.bindI h3⟩
abbrev Pm(n:Nat)(p:Array Nat):Prop:=p.Perm (zAm n).toArray
def Pm.sz(h:Pm n p):p.size=n:=by
 have:=h.size_eq
 simpa using this
def Pm.in(h:Pm n p)(hi:i<n):p.getD i 0<n:=by
 have hs:i<p.size:=by rw[h.sz];exact hi
 have e:p.getD i 0=p[i]:=by simp[zCY,hs]
 rw[e];have hm:p[i]∈(zAm n).toArray:=h.mem_iff.mp (Array.getElem_mem hs);simpa using hm
def Kp(kz:Nat->O.α)(p:Array Nat)(i:Nat):O.α:=kz (p.getD i 0)
def aDF(h:p[i]? =q[j]?):Kp kz p i=Kp kz q j:=by
 unfold Kp;congr 1;rw[zBc,zBc,h]
def aJD(hs:c<p.size)(hd:d<=c)(k:Nat):
  Kp kz (bubble p c d) k=if k=c-d then Kp kz p c else if c-d<k/\k<=c then Kp kz p (k-1)else Kp kz p k:=by
 have e:=getElem?_bubble hs d hd k;by_cases u1:k=c-d
 .rw[if_pos u1]at e ⊢
  exact aDF e
 .rw[if_neg u1]at e ⊢
  by_cases u2:c-d<k/\k<=c
  .rw[if_pos u2]at e ⊢
   exact aDF e
  .rw[if_neg u2]at e ⊢
   exact aDF e
def aEg(hj:j<=p.size)(k:Nat):Kp kz (zEa p i j) k=if i<=k/\k<j then Kp kz p (i+j-1-k)else Kp kz p k:=by
 unfold zEa;have e:=getElem?_mirror_all (i:=i) hj k;by_cases u1:i<=k/\k<j
 .rw[if_pos u1]at e ⊢
  exact aDF e
 .rw[if_neg u1]at e ⊢
  exact aDF e
def qN(hj:j<=p.size)(he:∀k,i<=k->k<j->Kp kz p k=Kp kz p (j-1))(k:Nat):Kp kz (zEa p i j) k=Kp kz p k:=by
 rw[aEg hj];split
 .rw[he _ (by lia) (by lia),he k (by lia) (by lia)]
 .rfl
def Up(kz:Nat->O.α)(p:Array Nat)(k:Nat):Prop:=∀i j,i<=j->j<k->O.kle (Kp kz p i) (Kp kz p j)
def Dn(kz:Nat->O.α)(p:Array Nat)(k:Nat):Prop:=∀i j,i<=j->j<k->O.kle (Kp kz p j) (Kp kz p i)
def xx(h:Pm n p)(i j:Nat):Pm n (zEa p i j):=(mirror_perm _ _ _ _).trans h
def Up.succ(h:Up kz p m)(hm:1<=m)(hl:O.kle (Kp kz p (m-1)) (Kp kz p m)):Up kz p (m+1):=by
 intro i j hij hj;by_cases q:j<m
 .exact h i j hij q
 .have q':j=m:=by lia
  subst q';by_cases q2:i=j
  .rw[q2];exact zDK _
  .exact zEU (h i (j-1) (by lia) (by lia)) hl
def Dn.succ(h:Dn kz p m)(hm:1<=m)(hl:O.kle (Kp kz p m) (Kp kz p (m-1))):Dn kz p (m+1):=by
 intro i j hij hj;by_cases q:j<m
 .exact h i j hij q
 .have q':j=m:=by lia
  subst q';by_cases q2:i=j
  .rw[q2];exact zDK _
  .exact zEU hl (h i (j-1) (by lia) (by lia))
theorem aDi(hp:Pm n p)(hr:r<=n):∀(f m:Nat),1<=m->m+f=r->Up kz p m->
  (∀m',1<=m'->m'<=r->Up kz p m'->(m'=r\/O.klt (Kp kz p m') (Kp kz p (m'-1)))->Q m')->Wr kz n (PySem.W.kas_asc p f m) Q
 |0,m,h1,hm,hu,k=>k m h1 (by lia) hu (.inl (by lia))
 |f+1,m,h1,hm,hu,k=>by
  refine⟨hp.in (by lia),hp.in (by lia),?_⟩;have hd:O.blt (kz (p.getD m 0)) (kz (p.getD (m-1) 0))=O.blt (Kp kz p m) (Kp kz p (m-1)):=rfl;rw[hd];cases hb:O.blt (Kp kz p m) (Kp kz p (m-1))with
  |true=>exact k m h1 (by lia) hu (.inr hb)
  |false=>exact aDi hp hr f (m+1) (by lia) (by lia) (hu.succ h1 hb) k
theorem wX(hr:r<=n):∀(f:Nat) (p:Array Nat) (m e:Nat),Pm n p->1<=m->m+f=r->Dn kz p m->e+1<=m->(∀i,m-(e+1)<=i->i<m->Kp kz p i=Kp kz p (m-1))->
  (∀p' m' e',Pm n p'->1<=m'->m'<=r->Dn kz p' m'->e'+1<=m'->(∀i,m'-(e'+1)<=i->i<m'->Kp kz p' i=Kp kz p' (m'-1))->Q (p',m',e'))->Wr kz n (PySem.W.kas_desc f p m e) Q
 |0,p,m,e,hp,h1,hm,hd,he,hq,k=>k p m e hp h1 (by lia) hd he hq
 |f+1,p,m,e,hp,h1,hm,hd,he,hq,k=>by
  have hsz:m<=p.size:=by rw[hp.sz];lia
  refine⟨hp.in (by lia),hp.in (by lia),?_⟩;have hx:O.blt (kz (p.getD m 0)) (kz (p.getD (m-1) 0))=O.blt (Kp kz p m) (Kp kz p (m-1)):=rfl;rw[hx];cases hb:O.blt (Kp kz p m) (Kp kz p (m-1))with
  |true=>
   have hd':Dn kz p (m+1):=hd.succ h1 (zFP hb);dsimp only;rw[if_pos rfl];by_cases hz:e>0
   .rw[if_pos hz]
    refine wX hr f _ (m+1) 0 (xx hp _ _) (by lia) (by lia) (λ i j hij hj=>?_) (by lia) (λ i u v=>by congr 1;lia) k;rw[qN hsz hq,qN hsz hq];exact hd' i j hij hj
   .rw[if_neg hz]
    exact wX hr f p (m+1) 0 hp (by lia) (by lia) hd' (by lia) (λ i u v=>by congr 1;lia) k
  |false=>
   dsimp only;rw[if_neg (by simp)];refine⟨hp.in (by lia),hp.in (by lia),?_⟩;have hy:O.blt (kz (p.getD (m-1) 0)) (kz (p.getD m 0))=O.blt (Kp kz p (m-1)) (Kp kz p m):=rfl;rw[hy];cases hc:O.blt (Kp kz p (m-1)) (Kp kz p m)with
   |true=>exact k p m e hp h1 (by lia) hd he hq
   |false=>
    dsimp only;rw[if_neg (by simp)];have hee:Kp kz p m=Kp kz p (m-1):=zHT hc hb;refine wX hr f p (m+1) (e+1) hp (by lia) (by lia) (hd.succ h1 hc) (by lia) (λ i u v=>?_) k;rw[show m+1-1=m by lia];by_cases hi:i=m
    .rw[hi]
    .rw[hee]
     exact hq i (by lia) (by lia)
def aFG(hr:r<=n)(hp:Pm n p)(h1:1<=m)(hm:m<=r)(hd:Dn kz p m)(k:∀m' p',Pm n p'->1<=m'->m'<=r->Up kz p' m'->Q (m',p')):Wr kz n (PySem.W.kas_tail3 m r p) Q:=by
 have hsz:m<=p.size:=by rw[hp.sz];lia
 refine Wr.bindI (aDi (xx hp 0 m) hr (r-m) m h1 (by lia) (λ i j hij hj=>?_) λ m' a1 a2 a3 _=>k m' _ (xx hp 0 m) a1 a2 a3);rw[aEg hsz,aEg hsz,if_pos (by lia),if_pos (by lia)];exact hd _ _ (by lia) (by lia)
def vR(hr:r<=n)(hp:Pm n p)(hm:m+1<=r)(hd:Dn kz p (m+1))(k:∀m' p',Pm n p'->1<=m'->m'<=r->Up kz p' m'->Q (m',p')):Wr kz n (PySem.W.kas_descPart m r p) Q:=by
 refine Wr.bindI (wX hr (r-(m+1)) p (m+1) 0 hp (by lia) (by lia) hd (by lia) (λ i u v=>by congr 1;lia) λ p' m' e' a1 a2 a3 a4 a5 a6=>?_);have hsz:m'<=p'.size:=by rw[a1.sz];lia
 dsimp only;by_cases hz:e'>0
 .rw[if_pos hz]
  refine aFG hr (xx a1 _ _) a2 a3 (λ i j hij hj=>?_) k;rw[qN hsz a6,qN hsz a6];exact a4 i j hij hj
 .rw[if_neg hz]
  exact aFG hr a1 a2 a3 a4 k
def aH3(hr:r<=n)(hp:Pm n p)(h1:1<=r)(k:∀m' p',Pm n p'->1<=m'->m'<=r->Up kz p' m'->Q (m',p')):Wr kz n (PySem.W.kas_count r p) Q:=by
 refine Wr.bindI (aDi hp hr (r-1) 1 (zAQ 1) (by lia) (λ i j hij hj=>by rw[show i=j by lia];exact zDK _) λ m a1 a2 a3 a4=>?_);by_cases hm:m=r
 .rw[if_pos (by simpa using hm)]
  exact k m p hp a1 a2 a3
 .rw[if_neg (by simpa using hm)]
  have hl:O.klt (Kp kz p m) (Kp kz p (m-1)):=a4.resolve_left hm;by_cases hg:m>1
  .rw[if_pos hg]
   refine⟨hp.in (by lia),hp.in (by lia),?_⟩;have hx:O.blt (kz (p.getD 0 0)) (kz (p.getD (m-1) 0))=O.blt (Kp kz p 0) (Kp kz p (m-1)):=rfl;rw[hx];cases hb:O.blt (Kp kz p 0) (Kp kz p (m-1))with
   |true=>exact k m p hp a1 a2 a3
   |false=>
    dsimp only;rw[if_neg (by simp)];have hsz:m<=p.size:=by rw[hp.sz];lia
    have oQ:∀i,0<=i->i<m->Kp kz p i=Kp kz p (m-1):=λ i _ hi=>zHT (a3 i (m-1) (by lia) (by lia)) (zEU hb (a3 0 i (by lia) hi))
    refine vR hr (xx hp 0 m) (by lia) (λ i j hij hj=>?_) k;rw[qN hsz oQ,qN hsz oQ];by_cases hjm:j<m
    .rw[oQ i (by lia) (by lia),oQ j (by lia) hjm];exact zDK _
    .have hj':j=m:=by lia
     subst hj';by_cases hi:i=j
     .rw[hi];exact zDK _
     .rw[oQ i (by lia) (by lia)];exact zFP hl
  .rw[if_neg hg]
   have hm1:m=1:=by lia
   subst hm1;refine vR hr hp (by lia) (λ i j hij hj=>?_) k;by_cases hi:i=j
   .rw[hi];exact zDK _
   .have e1:i=0:=by lia
    have e2:j=1:=by lia
    subst e1 e2;exact zFP hl
theorem xH(hp:Pm n p)(hc:c<n)(hu:Up kz p c):∀(f l r:Nat),l<=r->r<=c->r-l<=f->(∀i,i<l->O.kle (Kp kz p i) (Kp kz p c))->(∀i,r<=i->i<c->O.klt (Kp kz p c) (Kp kz p i))->
  (∀l',l'<=c->(∀i,i<l'->O.kle (Kp kz p i) (Kp kz p c))->(∀i,l'<=i->i<c->O.klt (Kp kz p c) (Kp kz p i))->Q l')->Wr kz n (zH9 p c f l r) Q
 |0,l,r,a1,a2,a3,a4,a5,k=>by
  have e:l=r:=by lia
  subst e;exact k l a2 a4 a5
 |f+1,l,r,a1,a2,a3,a4,a5,k=>by
  unfold zH9;by_cases hg:l ≥ r
  .rw[if_pos hg]
   have e:l=r:=by lia
   subst e;exact k l a2 a4 a5
  .rw[if_neg hg]
   refine⟨hp.in hc,hp.in (by lia),?_⟩;have hx:O.blt (kz (p.getD c 0)) (kz (p.getD ((l+r) / 2) 0))=O.blt (Kp kz p c) (Kp kz p ((l+r) / 2)):=rfl;rw[hx];cases hb:O.blt (Kp kz p c) (Kp kz p ((l+r) / 2))with
   |true=>exact xH hp hc hu f l ((l+r) / 2) (by lia) (by lia) (by lia) a4 (λ i u v=>KeyOrd.klt_of_klt_of_kle hb (hu _ _ u v)) k
   |false=>exact xH hp hc hu f ((l+r) / 2+1) r (by lia) a2 (by lia) (λ i u=>zEU (hu i ((l+r) / 2) (by lia) (by lia)) hb) a5 k
theorem aH4:∀(f:Nat) (p:Array Nat) (c:Nat),Pm n p->c+f=n->Up kz p c->(∀p',Pm n p'->Up kz p' n->Q p')->Wr kz n (PySem.W.kas_bin f p c) Q
 |0,p,c,hp,hc,hu,k=>k p hp (by rw[show n=c by lia];exact hu)
 |f+1,p,c,hp,hc,hu,k=>by
  refine Wr.bindI (xH hp (by lia) hu c 0 c (by lia) (zAQ c) (by lia) (λ i u=>by lia) (λ i u v=>by lia) λ l a1 a2 a3=>?_);refine aH4 f _ (c+1) ((bubble_perm _ _ _).trans hp) (by lia) (λ i j hij hj=>?_) k;have hs:c<p.size:=by rw[hp.sz];lia
  rw[aJD hs (by lia),aJD hs (by lia),show c-(c-l)=l by lia]
  repeat' split
  all_goals first
   |(exfalso;lia)
   |exact O.irrefl _
   |exact a2 _ (by lia)
   |exact KeyOrd.klt_asymm (a3 _ (by lia) (by lia))
   |exact hu _ _ (by lia) (by lia)
def aKK(h1:1<=n)(k:∀p,Pm n p->Up kz p n->Q p):Wr kz n (PySem.W.kas_sort n) Q:=by
 refine Wr.bindI (aH3 (zAQ n) (zHN _) h1 λ m p a1 a2 a3 a4=>?_);dsimp only;by_cases hm:m<n
 .rw[if_pos hm]
  exact aH4 _ p _ a1 (by lia) (by rw[show max m 1=m by lia];exact a4) k
 .rw[if_neg hm]
  exact k p a1 (by rw[show n=m by lia];exact a4)
theorem aCN{I:zAG->Prop}(hc:∀i j (C:Bool->zAG->Prop) s,I s->i<n->j<n->(∀s',I s'->C (O.blt (kz i) (kz j)) s')->cmp i j C s):
  ∀(t:zGp α) (s:zAG),I s->Wr kz n t (λ a=>∀s',I s'->Q a s')->t.kasWp cmp Q s
 | .ret a,s,hI,h=>h s hI
 | .ask i j k,s,hI,⟨h1,h2,h3⟩=>hc i j _ s hI h1 h2 λ s' hI'=>aCN hc _ s' hI' h3
end
theorem yc:∀a:List Int,HT.lexLt a a=false
 |[]=>rfl
 |x::a=>by rw[HT.ju,if_pos rfl];exact yc a
theorem tM:∀a b c:List Int,HT.lexLt a b=true->HT.lexLt b c=true->HT.lexLt a c=true
 |[],[],c,h,_=>by cases h
 |[],_::_,[],_,h=>by cases h
 |[],_::_,_::_,_,_=>rfl
 |_::_,[],_,h,_=>by cases h
 |_::_,_::_,[],_,h=>by cases h
 |x::a,y::b,z::c,h1,h2=>by
  rw[HT.ju]at h1 h2 ⊢;by_cases e1:x=y
  .subst e1
   rw[if_pos rfl]at h1;by_cases e2:x=z
   .rw[if_pos e2]at h2 ⊢
    exact tM a b c h1 h2
   .rw[if_neg e2]at h2 ⊢
    exact h2
  .rw[if_neg e1]at h1
   simp only[decide_eq_true_eq]at h1;by_cases e2:y=z
   .subst e2
    rw[if_neg e1];simpa using h1
   .rw[if_neg e2]at h2
    simp only[decide_eq_true_eq]at h2;rw[if_neg (by lia)];simp only[decide_eq_true_eq];lia
theorem yZ:∀a b:List Int,HT.lexLt a b=false->HT.lexLt b a=false->a=b
 |[],[],_,_=>rfl
 |[],_::_,h,_=>by cases h
 |_::_,[],_,h=>by cases h
 |x::a,y::b,h1,h2=>by
  rw[HT.ju]at h1 h2;by_cases e:x=y
  .subst e
   rw[if_pos rfl]at h1 h2;rw[yZ a b h1 h2]
  .rw[if_neg e]at h1
   rw[if_neg λ q=>e q.symm]at h2;simp only[decide_eq_false_iff_not]at h1 h2;lia
def aIs(a b c:List Int)(h:HT.lexLt a c=true):HT.lexLt a b=true\/HT.lexLt b c=true:=by
 cases e1:HT.lexLt a b with
 |true=>exact .inl rfl
 |false=>
  right;cases e2:HT.lexLt b a with
  |true=>exact tM b a c e2 h
  |false=>rw[<-yZ a b e1 e2];exact h
def aE8:zCa:=⟨List Int,HT.lexLt,yc,tM,aIs,yZ⟩
inductive bu(h:Heap):List Value->List (List Int)->Prop where
 |nil:bu h [] []
 |cons {x:Addr} {o:Obj} {xs:Array Value} {k:Nat} {ns:List Int} {vs:List Value} {nss:gV} (ho:h.get? x=some o) (hc:o.cls= .type "tuple") (hd:o.data= .seq xs k) (hi:zB8 xs.toList ns) (hne:ns≠[]) (r:bu h vs nss):bu h (.ref x::vs) (ns::nss)
theorem bu.mono(k:∀x o,h.get? x=some o->o.cls= .type "tuple"->h'.get? x=some o):∀{vs:List Value} {nss:gV},bu h vs nss->bu h' vs nss
 |_,_,.nil=>.nil
 |_,_,.cons ho hc hd hi hne r=>.cons (k _ _ ho hc) hc hd hi hne (bu.mono k r)
theorem bu.len:∀{vs:List Value} {nss:gV},bu h vs nss->vs.length=nss.length
 |_,_,.nil=>rfl
 |_,_,.cons _ _ _ _ _ r=>by rw[zA5,zA5,r.len]
theorem bu.at:∀{vs:List Value} {nss:gV} {i:Nat},bu h vs nss->i<vs.length->∃x o xs k,vs.getD i zBb= .ref x/\h.get? x=some o/\o.cls= .type "tuple"/\o.data= .seq xs k/\zB8 xs.toList (nss.getD i [])/\nss.getD i []≠[]
 |_,_,_,.nil,hi=>by simp at hi
 |_,_,0,.cons ho hc hd hi hne _,_=>⟨_,_,_,_,rfl,ho,hc,hd,hi,hne⟩
 |_,_,i+1,.cons _ _ _ _ _ r,hi=>by
  obtain⟨x,o,xs,k,q⟩:=bu.at (i:=i) r (by simpa using hi);exact⟨x,o,xs,k,by simpa using q⟩
theorem bu.firsts:∀{vs:List Value} {nss:gV},bu h vs nss->∃fs,PySem.W.KatTups h vs fs/\fs.length=vs.length/\∀f∈fs,∃n t,f=zCz n t
 |_,_,.nil=>⟨[],.nil,rfl,λ f hf=>by simp at hf⟩
 |_,_,.cons (xs:=xs) ho hc hd hi hne r=>by
  obtain⟨fs,h1,h2,h3⟩:=bu.firsts r;obtain⟨l,rfl⟩:∃l:List Value,xs=l.toArray:=⟨xs.toList,by simp⟩
  rw[show l.toArray.toList=l by simp]at hi;cases hi with
  |nil=>exact absurd rfl hne
  |cons n t q=>
   rename_i l' ns';refine⟨.int n t::fs,.cons ho hc hd (by simp) h1,by simp[h2],λ f hf=>?_⟩;rcases zAJ.mp hf with rfl|hf
   .exact⟨n,t,rfl⟩
   .exact h3 f hf
section
variable{prog:zA2}{w:World}{A:zAc}{E:Value->zAG->Prop}{s:zAG}
def aDI:∀{xs ys:List Value} {ns ms:List Int} (i:Nat),zB8 xs ns->zB8 ys ms->fin=decide (xs.length<ys.length)->Q (HT.lexLt ns ms) s->PySem.W.KatLex prog w A b fin Q (xs.zip ys) i s:=by
 intro xs ys ns ms i hx;induction hx generalizing ys ms i with
 |nil=>intro hy hf q;cases hy<;>(subst hf;exact q)
 |@cons x t xs ns r ih=>
  intro hy hf q;cases hy with
  |nil=>subst hf;exact q
  |@cons y u ys ms r'=>?_
  rw[zBL];refine PySem.W.kat_cons (wpAny_eqBool_int ?_);rw[HT.ju]at q;by_cases e:x=y
  .rw[if_pos e]at q
   rw[show(x==y)=true by simpa using e];exact PySem.W.kat_yes (ih (i+1) r' (by rw[hf];simp) q)
  .rw[if_neg e]at q
   rw[show(x==y)=false by simpa using e];refine PySem.W.kat_no ?_;cases hb:(b&&i==0)with
   |true=>exact oneLt_int q
   |false=>exact PySem.W.kat_one _ _ (zGP q)
def aEj(hx:s.heap.get? x=some ox)(dx:ox.data= .seq xs n)(hy:s.heap.get? y=some oy)(dy:oy.data= .seq ys k)(hi:zB8 xs.toList ns)(hj:zB8 ys.toList ms)
  (q:Q (HT.lexLt ns ms) s):wpAny (model prog w) A (keyLt' (tuples' b) (.ref x) (.ref y)) Q E s:=
 PySem.W.kat_lt hx dx hy dy (aDI 0 hi hj (by simp) q)
def qW(vs:List Value)(p:Array Nat):Array Value:=(p.toList.map λ i=>vs.getD i zBb).toArray
def aKJ(h:vs.length<2):(vs.toArray.zip vs.toArray).map (·.2)=qW vs (zAm vs.length).toArray:=by
 cases vs with
 |nil=>simp[qW]
 |cons v t=>
  cases t with
  |nil=>simp[qW]
  |cons u t=>exact absurd h (zEV.mpr (Nat.le_add_left 2 t.length))
def aE7(ho:s.heap.get? a=some (zCS "list" vs.toArray c))(ht:bu s.heap vs nss)(h64:vs.length<64)
  (h:∀p:Array Nat,Pm vs.length p->Up (O:=aE8) (λ i=>nss.getD i []) p vs.length->P (.done (.ret .none)) {s with heap:=zG4 s.heap a vs (qW vs p)}):
  wpAny (model prog w) A (zDq.«list.sort» ⟨[.ref a],[]⟩) P E s:=by
 have hlt:a<s.heap.objs.size:=zAT ho;have hz:vs.length<=zAX:=by rw[zCO];lia
 obtain⟨e1,ho1⟩:∃e1,(s.heap.update a (zC7 λ _=>(#[]:Array Value))).get? a=some (zCS "list" #[] e1):=⟨_,zEK ho λ _=>#[]⟩
 have keep:∀x o,s.heap.get? x=some o->o.cls= .type "tuple"->(((s.heap.update a (zC7 λ _=>(#[]:Array Value))).push (zCS "tuple" vs.toArray 0)).push (zCS "list" #[] 0)).get? x=some o:=λ x o e q=>by
  have hxa:x≠a:=λ z=>by
   subst z;rw[ho]at e;cases e;exact absurd q (show¬(zCZ "list"=zCZ "tuple")by decide)
  refine zAC _ (zAC _ ?_);rw[zCb _ _ _ _ hxa];exact e
 have ho6:(((s.heap.update a (zC7 λ _=>(#[]:Array Value))).push (zCS "tuple" vs.toArray 0)).push (zCS "list" #[] 0)).get? a=some (zCS "list" #[] e1):=zAC _ (zAC _ ho1);have ht6:=ht.mono keep;rw[list_sort_plain];refine zAB (listItems_at ho rfl (zAB (zIC ho rfl ?_ (by rw[zAP];exact hz) (zAj _))));refine zAB (zIv ho1 rfl (zAB (wpAny_newTuple ?_ (by show vs.length<=_;exact hz))));refine zAB (zII (zBI ?_) (zAj _));show wpAny (model prog w) A _ P E {s with heap:=((s.heap.update a (zC7 λ _=>(#[]:Array Value))).push (zCS "tuple" vs.toArray 0)).push (zCS "list" #[] 0)};dsimp only;have hsz:∀p:Array Nat,Pm vs.length p->(qW vs p).size=vs.length:=λ p a1=>by unfold qW;rw[zAP,zAD,zAU,a1.sz]
 by_cases h2:vs.toArray.size<2
 .rw[if_pos h2,if_pos h2]
  refine zAB (zAF ?_);rw[StateT.run_pure];refine zAB (zAF ?_);have h2':vs.length<2:=by simpa using h2
  have a1:Pm vs.length (zAm vs.length).toArray:=zHN _;have a3:=aKJ h2';dsimp only;refine zAB (zIv ho6 rfl ?_);show wpAny (model prog w) A (Builtin.List.listUpdate (.ref a) (λ _=>(vs.toArray.zip vs.toArray).map (·.2))>>=_) P E _;rw[a3];refine zAB (zIC ho6 rfl ?_ (zAj _) (by show(qW vs _).size<=_;rw[hsz _ a1];lia));simp only[bne_self_eq_false,zA0,if_false];exact zAF (h _ a1 λ i j hij hj=>by rw[show i=j by lia];exact yc _)
 .rw[if_neg h2,if_neg h2]
  have h2':2<=vs.length:=zEc (show¬vs.length<2 by simpa using h2);obtain⟨fs,f1,f2,f3⟩:=ht6.firsts;refine zAB (PySem.W.kat_kind (T:=.type "int") f1 (by lia) (λ v hv=>?_) (by decide) ?_)
  .obtain⟨n,t,rfl⟩:=f3 v hv
   exact zJY
  rw[show(zCZ "int" !=zCZ "tuple")=true by decide];refine zAB (zBX (PySem.W.kat_run (κ:=tuples' true) (ks:=vs) (vs:=vs) (Q:=λ st s'=>s'={s with heap:=((s.heap.update a (zC7 λ _=>(#[]:Array Value))).push (zCS "tuple" vs.toArray 0)).push (zCS "list" #[] 0)}/\∃p:Array Nat,Pm vs.length p/\Up (O:=aE8) (λ i=>nss.getD i []) p vs.length/\(arrOf st).map (·.2)=qW vs p/\zHA st=none)
   (G:=λ p s'=>s'={s with heap:=((s.heap.update a (zC7 λ _=>(#[]:Array Value))).push (zCS "tuple" vs.toArray 0)).push (zCS "list" #[] 0)}/\Pm vs.length p/\Up (O:=aE8) (λ i=>nss.getD i []) p vs.length)
   rfl h2' h64 (λ p st s' _ b2 b3 b4=>⟨b4.1,p,b4.2.1,b4.2.2,PySem.W.kat_snds rfl b2,b3⟩) ?_) (λ r s' hr=>?_) λ _ _ e=>e)
  .refine aCN (O:=aE8) (kz:=λ i=>nss.getD i []) (n:=vs.length) (I:=λ s'=>s'={s with heap:=((s.heap.update a (zC7 λ _=>(#[]:Array Value))).push (zCS "tuple" vs.toArray 0)).push (zCS "list" #[] 0)}) (λ i j C s' hI hi hj hC=>?_) _ _ rfl (aKK (by lia) λ p a1 a2 s' hs'=>⟨hs',a1,a2⟩)
   subst hI;unfold PySem.W.kas_ask;obtain⟨x,ox,xs,kx,x1,x2,_,x4,x5,_⟩:=ht6.at hi;obtain⟨y,oy,ys,ky,y1,y2,_,y4,y5,_⟩:=ht6.at hj;rw[x1,y1];exact aEj x2 x4 y2 y4 x5 y5 (hC _ rfl)
  .obtain⟨⟨⟩,st⟩:=r
   obtain⟨e,p,b1,b2,b3,b4⟩:=hr;subst e;refine zAB (zIv ho6 rfl ?_);rw[b3,b4];refine zAB (zIC ho6 rfl ?_ (zAj _) (by show(qW vs p).size<=_;rw[hsz p b1];lia));simp only[bne_self_eq_false,zA0,if_false];exact zAF (h p b1 b2)
end
theorem sub_len[BEq α][LawfulBEq α]:∀{l l':List α},l.Nodup->(∀x∈l,x∈l')->l.length<=l'.length
 |[],_,_,_=>zAj _
 |x::l,l',nd,h=>by
  have hx:x∈l':=h x zAE;have ih:=sub_len (l:=l) (l':=l'.erase x) (zBT.mp nd).2 λ y hy=>(List.mem_erase_of_ne λ e=>by subst e;exact(zBT.mp nd).1 hy).mpr (h y (zAH _ hy))
  rw[List.length_erase_of_mem hx]at ih
  have:0<l'.length:=List.length_pos_of_mem hx
  rw[zA5];lia
def Ris(xs:Array Nat):Prop:=∀i j,i<j->j<xs.size->xs.getD i 0<xs.getD j 0
theorem aCE(hr:Ris xs):∀(f lo hi:Nat),lo<=hi->hi<=xs.size->hi-lo<=f->(∀i,i<lo->xs.getD i 0<j)->(∀i,hi<=i->i<xs.size->j<=xs.getD i 0)->
  zDb xs j f lo hi<=xs.size/\(∀i,i<zDb xs j f lo hi->xs.getD i 0<j)/\∀i,zDb xs j f lo hi<=i->i<xs.size->j<=xs.getD i 0
 |0,lo,hi,h1,h2,h3,h4,h5=>by
  have e:lo=hi:=by lia
  subst e;exact⟨h2,h4,h5⟩
 |f+1,lo,hi,h1,h2,h3,h4,h5=>by
  unfold zDb;by_cases hl:lo<hi
  .rw[if_pos hl]
   dsimp only;have hm:(lo+hi) / 2<xs.size:=by lia
   have e:xs.getD ((lo+hi) / 2) j=xs.getD ((lo+hi) / 2) 0:=by simp[zCY,hm]
   rw[e];by_cases hc:xs.getD ((lo+hi) / 2) 0<j
   .rw[if_pos hc]
    refine aCE hr f _ hi (by lia) h2 (by lia) (λ i hi'=>?_) h5;by_cases q:i=(lo+hi) / 2
    .rw[q];exact hc
    .exact zH6 (hr i ((lo+hi) / 2) (by lia) hm) hc
   .rw[if_neg hc]
    refine aCE hr f lo _ (by lia) (by lia) (by lia) h4 λ i q1 q2=>?_
    by_cases q:i=(lo+hi) / 2
    .rw[q];lia
    .have:=hr ((lo+hi) / 2) i (by lia) q2
     lia
  .rw[if_neg hl]
   have e:lo=hi:=by lia
   subst e;exact⟨h2,h4,h5⟩
def uL(hr:Ris xs)(j:Nat):zAr xs j<=xs.size/\(∀i,i<zAr xs j->xs.getD i 0<j)/\∀i,zAr xs j<=i->i<xs.size->j<=xs.getD i 0:=
 aCE hr xs.size 0 xs.size (zAj _) (zAQ _) (by lia) (λ i h=>by lia) λ i h1 h2=>by lia
structure dH(t:zC1)(n:Nat):Prop where
 dum:t.dummies=#[]
 siz:t.place.size=n
 ris:Ris t.place
 top:∀i,i<n->t.place.getD i 0<=t.mask
 msk:t.mask=7/\n<5\/t.mask=31/\n<19\/t.mask=127/\n<77
 pla:t.plain=true
def dH.fresh(led:Bool):dH (zIA 0 0 led) 0:=⟨rfl,rfl,λ i j _ h=>by simp[zIA]at h,λ i h=>by lia,.inl ⟨rfl,by lia⟩,rfl⟩
def dH.few(h:dH t n):n<t.mask:=by
 rcases h.msk with ⟨e,l⟩|⟨e,l⟩|⟨e,l⟩<;>lia
theorem dH.fill(h:dH t n):t.fill=n:=by unfold zIT;rw[h.dum,h.siz];rfl
theorem dH.fits(h:dH t n):t.fits n=true:=by
 unfold zIU;rw[h.fill,h.siz]
 have:=h.few
 simp;lia
def sy(h:dH t n)(j:Nat):t.slot j= .empty\/∃i,i<n/\t.slot j= .live i/\t.place.getD i 0=j:=by
 unfold zIW;dsimp only;by_cases e:(t.place[zAr t.place j]? ==some j)=true
 .rw[if_pos e]
  have e':=beq_iff_eq.mp e;obtain⟨h1,h2⟩:=zBr.mp e';exact .inr ⟨_,by rw[<-h.siz];exact h1,rfl,by simp[zCY,h1,h2]⟩
 .rw[if_neg e]
  have:zE3 t.dummies j=false:=by rw[h.dum];unfold zE3;simp
  rw[this];exact .inl (by simp)
def aCU(h:dH t n)(e:t.slot j= .empty):∀i,i<n->t.place.getD i 0≠j:=by
 intro i hi q;obtain⟨b1,b2,b3⟩:=uL h.ris j;have hb:zAr t.place j=i:=by
  rcases zFi (zAr t.place j) i with z|z|z
  .have z1:=b3 _ (zAQ _) (by rw[h.siz];lia)
   have z2:=h.ris _ i z (by rw[h.siz];exact hi);lia
  .exact z
  .have:=b2 i z
   lia
 have hi':i<t.place.size:=by rw[h.siz];exact hi
 have e2:t.place[i]? =some j:=by rw[zBr];exact⟨hi',by rw[<-q];simp[zCY,hi']⟩
 unfold zIW at e;dsimp only at e;rw[hb,e2]at e;simp at e
def oM(mask:Nat):Nat->Nat×Nat->Nat×Nat
 |0,st=>st
 |k+1,st=>oM mask k (zAu mask st.1 st.2)
theorem aCv(mask:Nat):∀(k:Nat) (st:Nat×Nat),(oM mask k st).2=st.2 / 32^k
 |0,st=>by simp[oM]
 |k+1,st=>by
  show(oM mask k (zAu mask st.1 st.2)).2=_
  rw[aCv mask k];show st.2 / 32 / 32^k=_;rw[Nat.div_div_eq_div_mul,Nat.pow_succ,Nat.mul_comm]
theorem aCy(mask:Nat):∀(j k:Nat) (st:Nat×Nat),oM mask (j+k) st=oM mask k (oM mask j st)
 |0,k,st=>by rw[zEp];rfl
 |j+1,k,st=>by
  rw[show j+1+k=(j+k)+1 by lia];exact aCy mask j k _
def orb(M:Nat):Nat->Nat->Nat
 |0,i=>i
 |k+1,i=>orb M k ((i*5+1)%M)
theorem wg(M:Nat):∀(j k i:Nat),orb M (j+k) i=orb M k (orb M j i)
 |0,k,i=>by rw[zEp];rfl
 |j+1,k,i=>by
  rw[show j+1+k=(j+k)+1 by lia];exact wg M j k _
theorem aCw(mask:Nat):∀(k i:Nat),oM mask k (i,0)=(orb (mask+1) k i,0)
 |0,i=>rfl
 |k+1,i=>by
  show oM mask k (zAu mask i 0)=_
  have:zAu mask i 0=((i*5+1)%(mask+1),0):=by simp[zAu]
  rw[this];exact aCw mask k _
def aGf:∀M∈[8,32,128],(∀t∈zAm M,∃k∈zAm M,orb M k 0=t)/\orb M M 0=0:=by decide+kernel
def aKy(hm:mask=7\/mask=31\/mask=127)(hi:i<=mask)(ht:t<=mask):∃k,k<=mask/\orb (mask+1) k i=t:=by
 have hM:mask+1∈[8,32,128]:=by rcases hm with e|e|e<;>subst e<;>decide
 obtain⟨h1,h2⟩:=aGf _ hM;obtain⟨a,ha,ea⟩:=h1 i (by simp;lia);obtain⟨b,hb,eb⟩:=h1 t (by simp;lia);simp only[zBU]at ha hb;by_cases hab:a<=b
 .refine⟨b-a,by lia,?_⟩
  rw[<-ea,<-wg,show a+(b-a)=b by lia,eb]
 .refine⟨mask+1-a+b,by lia,?_⟩
  rw[<-ea,<-wg,show a+(mask+1-a+b)=(mask+1)+b by lia,wg,h2,eb]
def aLu(h:Int):zBA h<2^64:=by
 unfold zBA;have h1:=zDs h (show(2^64:Int)≠0 by decide);have h2:=zDS h (show(0:Int)<2^64 by decide);lia
def aCx(hm:mask=7\/mask=31\/mask=127)(h:Int)(ht:t<=mask)(yT:Nat):∃k,k<mask+15/\(oM mask k (yT,zBA h)).1=t:=by
 have e1:(oM mask 13 (yT,zBA h)).2=0:=by
  rw[aCv]
  have:=aLu h
  exact Nat.div_eq_of_lt (zH6 this (by decide))
 have e2:(oM mask 13 (yT,zBA h)).1<=mask:=by
  show(oM mask 12 (zAu mask yT (zBA h))).1<=mask
  have go:∀k (st:Nat×Nat),st.1<=mask->(oM mask k st).1<=mask:=by
   intro k;induction k with
   |zero=>intro st q;exact q
   |succ k ih=>
    intro st q;refine ih _ ?_
    show(st.1*5+1+st.2 / 32)%(mask+1)<=mask
    exact zCQ (zD3 _ (zDL _))
  refine go 12 _ ?_
  show(yT*5+1+zBA h / 32)%(mask+1)<=mask
  exact zCQ (zD3 _ (zDL _))
 obtain⟨k,hk,ek⟩:=aKy hm e2 ht;refine⟨13+k,by lia,?_⟩;rw[aCy];have e3:oM mask 13 (yT,zBA h)=((oM mask 13 (yT,zBA h)).1,0):=by rw[<-e1]
 rw[e3,aCw];exact ek
def uq(hi:i<=mask):i<=zAi mask i/\zAi mask i<=mask/\zAi mask i<=i+9:=by
 unfold zAi;split<;>lia
section
variable{t:zC1}{n:Nat}{hashAt:Nat->Int}{h:Int}
abbrev aFV(t:zC1)(i pert:Nat):zCI:={j:=i,more:=zAi t.mask i-i,i:=i,perturb:=pert,dummy:=none}
def yz(fuel:Nat)(p:zCI):zBn t hashAt h (fuel+1) p=(match t.slot p.j with
  | .empty=>some (.empty p.j p.dummy)
  | .dummy=>zBn t hashAt h fuel (t.advance {p with dummy:=some p.j})
  | .live i=>if hashAt i==h then some (.candidate p.j i (t.advance p))else zBn t hashAt h fuel (t.advance p)):=rfl
theorem aJZ(T:dH t n)(hh:∀i,i<n->hashAt i≠h):∀(m fuel:Nat) (p:zCI),p.more=m->p.dummy=none->
  (∃j,p.j<=j/\j<=p.j+m/\t.slot j= .empty/\zBn t hashAt h (fuel+m+1) p=some (.empty j none))\/
  (t.slot p.j≠.empty/\zBn t hashAt h (fuel+m+1) p=zBn t hashAt h fuel (aFV t (zAu t.mask p.i p.perturb).1 (zAu t.mask p.i p.perturb).2))
 |0,fuel,p,hm,hd=>by
  rw[show fuel+0+1=fuel+1 from rfl,yz];rcases sy T p.j with e|⟨i,hi,e,_⟩
  .rw[e]
   exact .inl ⟨p.j,zAQ _,zAQ _,e,by rw[hd]⟩
  .rw[e]
   right;refine⟨by simp,?_⟩;dsimp only;rw[if_neg (by simpa using hh i hi)];congr 1;unfold zHb;rw[if_neg (by lia)];simp[aFV,hd]
 |m+1,fuel,p,hm,hd=>by
  rw[yz];rcases sy T p.j with e|⟨i,hi,e,_⟩
  .rw[e]
   exact .inl ⟨p.j,zAQ _,by lia,e,by rw[hd]⟩
  .rw[e]
   dsimp only;rw[if_neg (by simpa using hh i hi)];have ha:t.advance p={p with j:=p.j+1,more:=p.more-1}:=by
    unfold zHb;rw[if_pos (by lia)]
   rw[ha];rcases aJZ T hh m fuel {p with j:=p.j+1,more:=p.more-1} (by show p.more-1=m;lia) hd with ⟨j,q1,q2,q3,q4⟩|⟨q1,q2⟩
   .exact .inl ⟨j,by show p.j<=j;have:p.j+1<=j:=q1;lia,by have:j<=p.j+1+m:=q2;lia,q3,q4⟩
   .exact .inr ⟨by simp,q2⟩
theorem aFs(T:dH t n)(hh:∀i,i<n->hashAt i≠h):∀(N fuel i pert:Nat),i<=t.mask->10*N<=fuel->
  (∃j,j<=t.mask/\t.slot j= .empty/\zBn t hashAt h fuel (aFV t i pert)=some (.empty j none))\/∀k,k<N->t.slot (oM t.mask k (i,pert)).1≠.empty
 |0,fuel,i,pert,hi,hf=>.inr λ k hk=>by lia
 |N+1,fuel,i,pert,hi,hf=>by
  obtain⟨r1,r2,r3⟩:=uq hi;obtain⟨f',rfl⟩:∃f',fuel=f'+(zAi t.mask i-i)+1:=⟨fuel-(zAi t.mask i-i)-1,by lia⟩
  rcases aJZ T hh (zAi t.mask i-i) f' (aFV t i pert) rfl rfl with ⟨j,q1,q2,q3,q4⟩|⟨q1,q2⟩
  .exact .inl ⟨j,by have:j<=i+(zAi t.mask i-i):=q2;lia,q3,q4⟩
  .have hl:(zAu t.mask i pert).1<=t.mask:=zCQ (zD3 _ (zDL _))
   rcases aFs T hh N f' _ (zAu t.mask i pert).2 hl (by lia)with ⟨j,s1,s2,s3⟩|s
   .exact .inl ⟨j,s1,s2,q2.trans s3⟩
   .right
    intro k hk;cases k with
    |zero=>exact q1
    |succ k=>exact s k (by lia)
def dH.mask3(T:dH t n):t.mask=7\/t.mask=31\/t.mask=127:=by
 rcases T.msk with ⟨e,_⟩|⟨e,_⟩|⟨e,_⟩
 .exact .inl e
 .exact .inr (.inl e)
 .exact .inr (.inr e)
def yH(T:dH t n)(hh:∀i,i<n->hashAt i≠h):∃j,j<=t.mask/\t.slot j= .empty/\t.probe hashAt h (t.probeStart h)=some (.empty j none):=by
 have hs:zBA h%(t.mask+1)<=t.mask:=zCQ (zD3 _ (zDL _));rcases aFs T hh (t.mask+15) (10*zBP t.mask) _ (zBA h) hs (by unfold zBP;lia)with z|z
 .exact z
 .exfalso
  have oQ:∀x∈zAm (t.mask+1),x∈t.place.toList:=by
   intro x hx;simp only[zBU]at hx;obtain⟨k,hk,ek⟩:=aCx T.mask3 h (t:=x) (by lia) (zBA h%(t.mask+1))
   have:=z k hk
   rw[ek]at this;rcases sy T x with e|⟨i,hi,_,e⟩
   .exact absurd e this
   .rw[<-e]
    have hi':i<t.place.size:=by rw[T.siz];exact hi
    rw[show t.place.getD i 0=t.place[i]by simp[zCY,hi']];exact zGa hi'
  have:=sub_len zI5 oQ
  have h2:=T.few;rw[zF9,zAU,T.siz]at this;lia
end
def wj(xs:Array α)(p:Nat)(x d:α)(hp:p<=xs.size)(i:Nat):(zAy xs p x).getD i d=if i<p then xs.getD i d else if i=p then x else xs.getD (i-1) d:=by
 have e:∀(ys:Array α) i,ys.getD i d=(ys.toList[i]?).getD d:=λ ys i=>by rw[zBc,zAf]
 rw[e,e,e,zDw];have hl:p<=xs.toList.length:=by simpa using hp
 by_cases h1:i<p
 .rw[if_pos h1,zBM (by rw[zCk];lia),List.getElem?_take,if_pos h1]
 .rw[if_neg h1,zCy (by rw[zCk];lia),zCk,Nat.min_eq_left hl]
  by_cases h2:i=p
  .rw[if_pos h2,h2,zFw]
   rfl
  .rw[if_neg h2,show i-p=(i-p-1)+1 by lia,zB0,List.getElem?_drop]
   congr 2;lia
def pQ(xs:Array α)(p:Nat)(x:α):(zAy xs p x).size=xs.size+1:=by
 rw[<-zAU,(zES xs p x).length_eq,zEG];simp
def vU{t:zC1}(hf:t.fill=n):t.tooFull=decide (t.mask*3<=n*5):=by unfold SetTable.tooFull;rw[hf]
structure oG(t:zC1)(n:Nat):Prop where
 dum:t.dummies=#[]
 siz:t.place.size=n
 ris:Ris t.place
 top:∀i,i<n->t.place.getD i 0<=t.mask
 msk:t.mask=7/\n<=5\/t.mask=31/\n<=19\/t.mask=127/\n<77
 pla:t.plain=true
theorem oG.fill(h:oG t n):t.fill=n:=by unfold zIT;rw[h.dum,h.siz];rfl
theorem oG.fits(h:oG t n):t.fits n=true:=by
 unfold zIU;rw[h.fill,h.siz]
 have:=h.msk
 simp;lia
def aIJ(T:dH t n)(h64:n<76)(hj:j<=t.mask)(he:t.slot j= .empty):oG (t.put j).1 (n+1)/\(t.put j).2=zAr t.place j/\(t.put j).2<=n/\(t.put j).1.mask=t.mask/\(t.put j).1.led=t.led:=by
 have hno:=aCU T he;obtain⟨b1,b2,b3⟩:=uL T.ris j;have hsz:=T.siz;have hg:=wj t.place (zAr t.place j) j 0 b1;refine⟨⟨?_,?_,?_,?_,?_,T.pla⟩,rfl,by rw[<-hsz];exact b1,rfl,rfl⟩
 .show(if zE3 t.dummies j then SetTable.eraseAt t.dummies (zAr t.dummies j)else t.dummies)=#[]
  rw[T.dum]
  have:zE3 #[] j=false:=by unfold zE3;simp
  rw[this];rfl
 .show(zAy t.place _ j).size=n+1
  rw[pQ,hsz]
 .intro a b hab hb
  have hb':b<n+1:=by
   have:b<(zAy t.place (zAr t.place j) j).size:=hb
   rw[pQ,hsz]at this;exact this
  show(zAy t.place (zAr t.place j) j).getD a 0<(zAy t.place (zAr t.place j) j).getD b 0
  rw[hg,hg];by_cases a1:a<zAr t.place j
  .rw[if_pos a1]
   by_cases c1:b<zAr t.place j
   .rw[if_pos c1];exact T.ris a b hab (by lia)
   .rw[if_neg c1]
    by_cases c2:b=zAr t.place j
    .rw[if_pos c2];exact b2 a a1
    .rw[if_neg c2]
     exact T.ris a (b-1) (by lia) (by lia)
  .rw[if_neg a1,if_neg (show¬b<zAr t.place j by lia),if_neg (show¬b=zAr t.place j by lia)]
   by_cases a2:a=zAr t.place j
   .rw[if_pos a2]
    have q1:=b3 (b-1) (by lia) (by lia);have q2:=hno (b-1) (by lia);lia
   .rw[if_neg a2]
    exact T.ris (a-1) (b-1) (by lia) (by lia)
 .intro i hi
  show(zAy t.place (zAr t.place j) j).getD i 0<=t.mask
  rw[hg];split
  .exact T.top i (by lia)
  .split
   .exact hj
   .exact T.top (i-1) (by lia)
 .have:=T.msk
  show t.mask=7/\n+1<=5\/t.mask=31/\n+1<=19\/t.mask=127/\n+1<77;lia
def oG.still{t:zC1}(h:oG t n)(hf:t.tooFull=false):dH t n:=by
 rw[vU h.fill]at hf;simp only[decide_eq_false_iff_not]at hf;refine⟨h.dum,h.siz,h.ris,h.top,?_,h.pla⟩;rcases h.msk with ⟨e,l⟩|⟨e,l⟩|⟨e,l⟩<;>rw[e]at hf
 .exact .inl ⟨e,by lia⟩
 .exact .inr (.inl ⟨e,by lia⟩)
 .exact .inr (.inr ⟨e,by lia⟩)
def oG.full{t:zC1}(h:oG t n)(h64:n<=76)(hf:t.tooFull=true):n=5\/n=19:=by
 rw[vU h.fill]at hf;simp only[decide_eq_true_eq]at hf
 have:=h.msk
 lia
def heldBy(owner:Array (Option Nat)):List Nat:=owner.toList.filterMap id
theorem yx:∀(l:kQ) (j x:Nat),l[j]? =some none->((l.set j (some x)).filterMap id).Perm (x::l.filterMap id)
 |[],j,x,h=>by simp at h
 |a::l,0,x,h=>by
  simp at h;subst h;exact zBJ _
 |none::l,j+1,x,h=>by
  have ih:=yx l j x (by simpa using h);simpa using ih
 |some a::l,j+1,x,h=>by
  have ih:=yx l j x (by simpa using h)
  have:(((some a::l).set (j+1) (some x)).filterMap id).Perm (a::x::l.filterMap id):=by
   simpa using ih.cons a
  exact this.trans (zDl _ _ _)
theorem aA1:∀(l:kQ),(∀j,j<l.length->∃x,l[j]? =some (some x))->(l.filterMap id).length=l.length
 |[],_=>rfl
 |a::l,h=>by
  obtain⟨x,e⟩:=h 0 (by simp);have ex:a=some x:=by simpa using e
  subst ex;have ih:=aA1 l λ j hj=>by simpa using h (j+1) (by simpa using hj)
  simp[ih]
theorem aFu(ho:owner.size=mask+1):∀(N i pert:Nat),i<=mask->
  (∃j,owner.toList[j]? =some none/\zBV mask owner N i pert=some j)\/∀k,k<N->∃x,owner.toList[(oM mask k (i,pert)).1]? =some (some x)
 |0,i,pert,hi=>.inr λ k hk=>by lia
 |N+1,i,pert,hi=>by
  obtain⟨r1,r2,r3⟩:=uq hi;have dA:zBV mask owner (N+1) i pert=(match (zAm (zAi mask i+1-i)).find? λ k=>(owner.getD (i+k) (some 0)).isNone with
   |some k=>some (i+k)
   |none=>zBV mask owner N (zAu mask i pert).1 (zAu mask i pert).2):=rfl
  rw[dA];cases hf:(zAm (zAi mask i+1-i)).find? λ k=>(owner.getD (i+k) (some 0)).isNone with
  |some k=>
   left;have h1:=zGf hf;have h2:=List.find?_some hf;simp only[zBU]at h1;have hlt:i+k<owner.size:=by lia
   refine⟨i+k,?_,rfl⟩;have e:owner.getD (i+k) (some 0)=owner[i+k]:=by simp[zCY,hlt]
   rw[e]at h2;rw[zAf,zBr];exact⟨hlt,by simpa using h2⟩
  |none=>
   have h0:=zHt.mp hf 0 (by simp;lia);have hlt:i<owner.size:=by lia
   have e:owner.getD (i+0) (some 0)=owner[i]:=by simp[zCY,hlt]
   rw[e]at h0;have hl:(zAu mask i pert).1<=mask:=zCQ (zD3 _ (zDL _));rcases aFu ho N _ (zAu mask i pert).2 hl with ⟨j,s1,s2⟩|s
   .exact .inl ⟨j,s1,s2⟩
   .right
    intro k hk;cases k with
    |zero=>
     show∃x,owner.toList[i]? =some (some x)
     rw[zAf];cases q:owner[i]with
     |none=>rw[q]at h0;simp at h0
     |some x=>exact⟨x,by rw[zBr];exact⟨hlt,q⟩⟩
    |succ k=>exact s k (by lia)
def aHH(hm:mask=7\/mask=31\/mask=127)(ho:owner.size=mask+1)(hfew:(heldBy owner).length<mask+1)(h:Int):
  ∃j,owner.toList[j]? =some none/\zBV mask owner (zBP mask) (zBA h%(mask+1)) (zBA h)=some j:=by
 rcases aFu ho (zBP mask) _ (zBA h) (zCQ (zD3 (zBA h) (zDL mask)))with z|z
 .exact z
 .exfalso
  have:=aA1 owner.toList λ j hj=>by
   rw[zAU,ho]at hj;obtain⟨k,hk,ek⟩:=aCx hm h (t:=j) (by lia) (zBA h%(mask+1));obtain⟨x,e⟩:=z k (by unfold zBP;lia);rw[ek]at e;exact⟨x,e⟩
  unfold heldBy at hfew;rw[this,zAU]at hfew;lia
def iD(mask:Nat)(acc:Option (Array (Option Nat)×Nat))(h:Int):Option (Array (Option Nat)×Nat):=do
 let(owner,k) <-acc
 let j <-zBV mask owner (zBP mask) (zBA h%(mask+1)) (zBA h)
 pure (owner.setIfInBounds j (some k),k+1)
theorem ym(hm:mask=7\/mask=31\/mask=127):∀(hs:List Int) (owner:Array (Option Nat)) (k:Nat),owner.size=mask+1->(heldBy owner).Perm (zAm k)->k+hs.length<=mask->
  ∃owner',hs.foldl (iD mask) (some (owner,k))=some (owner',k+hs.length)/\owner'.size=mask+1/\(heldBy owner').Perm (zAm (k+hs.length))
 |[],owner,k,ho,hp,hl=>⟨owner,rfl,ho,hp⟩
 |h::hs,owner,k,ho,hp,hl=>by
  rw[zA5]at hl;obtain⟨j,e1,e2⟩:=aHH hm ho (by rw[hp.length_eq,zF9];lia) h;have hst:iD mask (some (owner,k)) h=some (owner.setIfInBounds j (some k),k+1):=by
   unfold iD;simp[e2]
  rw[zBH,hst];obtain⟨o',f1,f2,f3⟩:=ym hm hs (owner.setIfInBounds j (some k)) (k+1) (by simpa using ho) (by
   unfold heldBy;rw[zDp];refine(yx owner.toList j k e1).trans ?_;rw[zGO];exact(zHh k hp).trans (List.perm_append_singleton k _).symm) (by lia)
  refine⟨o',?_,f2,?_⟩
  .rw[f1,zA5,show k+1+hs.length=k+(hs.length+1)by lia]
  .rw[zA5,show k+(hs.length+1)=k+1+hs.length by lia]
   exact f3
def aDO(m:Nat):heldBy (zDi m none)=[]:=by
 unfold heldBy;rw[zGx];induction m with
 |zero=>rfl
 |succ m ih=>rw[zBy];simpa using ih
def aDB(hm:mask=7\/mask=31\/mask=127)(hs:Array Int)(hl:hs.size<=mask):∃owner,zDv mask hs=some owner/\owner.size=mask+1/\(heldBy owner).Perm (zAm hs.size):=by
 obtain⟨o',f1,f2,f3⟩:=ym hm hs.toList (zDi (mask+1) none) 0 (by simp) (by rw[aDO];exact zBJ _) (by simpa using hl);refine⟨o',?_,f2,by simpa using f3⟩;have e:zDv mask hs=(hs.foldl (iD mask) (some (zDi (mask+1) none,0))).map (·.1):=rfl;rw[e,<-zHf,f1];rfl
def dX(owner:Array (Option Nat))(m:Nat):List (Nat×Nat):=(zAm m).filterMap λ j=>(owner.getD j none).map (j,·)
theorem aCs:∀(l:kQ) (b:Nat) (f:Nat->Option Nat),(∀i,i<l.length->f (b+i)=(l[i]?).getD none)->
  ((zHk b l.length).filterMap λ j=>(f j).map (j,·)).map (·.2)=l.filterMap id
 |[],_,_,_=>rfl
 |a::l,b,f,h=>by
  have h0:=h 0 (by simp);simp at h0;have ih:=aCs l (b+1) f λ i hi=>by
   have:=h (i+1) (by simpa using hi)
   rw[show b+(i+1)=b+1+i by lia]at this;simpa using this
  rw[zA5,zI6,zBZ,h0];cases a with
  |none=>simpa using ih
  |some x=>simpa using ih
def aE5(owner:Array (Option Nat)):(dX owner owner.size).map (·.2)=heldBy owner:=by
 have:=aCs owner.toList 0 (λ j=>owner.getD j none) λ i hi=>by
  rw[zEp,zBc,zAf]
 unfold dX heldBy;rw[zH4,<-this,zAU]
theorem aCt(f:Nat->Option Nat):∀(m b:Nat),(((zHk b m).filterMap λ j=>(f j).map (j,·)).map (·.1)).Pairwise (·< ·)/\∀x∈((zHk b m).filterMap λ j=>(f j).map (j,·)).map (·.1),b<=x/\x<b+m
 |0,b=>⟨.nil,λ x hx=>by simp at hx⟩
 |m+1,b=>by
  obtain⟨ih1,ih2⟩:=aCt f m (b+1);rw[zI6,zBZ];cases hf:f b with
  |none=>
   simp only[zIP];exact⟨ih1,λ x hx=>by have:=ih2 x hx;lia⟩
  |some y=>
   simp only[zDM,zAS];refine⟨zAq.mpr ⟨λ x hx=>by have:=ih2 x hx;lia,ih1⟩,λ x hx=>?_⟩;rcases zAJ.mp hx with e|hx
   .lia
   .have:=ih2 x hx
    lia
def aNF{l:List Nat}(h:l.Pairwise (·< ·)):Ris l.toArray:=by
 intro i j hij hj;have hj':j<l.length:=by simpa using hj
 have e:∀k,k<l.length->l.toArray.getD k 0=l[k]!:=λ k hk=>by simp[zCY,hk]
 have:=zEF.mp h i j (by lia) hj' hij
 simp[zCY,hj',show i<l.length by lia];exact this
def aC6{t:zC1}(hp:t.plain=true)(hn:n=5\/n=19)(hs:Array Int)(hl:hs.size=n):
  ∃t' order,t.relaid hs (zCx n)=some (t',order)/\dH t' n/\t'.led=t.led/\order.toList.Perm (zAm n):=by
 have hm:∃mask,zEt (zCx n)-1=mask/\(mask=31/\n=5\/mask=127/\n=19):=by
  rcases hn with e|e<;>subst e
  .exact⟨31,by decide,.inl ⟨rfl,rfl⟩⟩
  .exact⟨127,by decide,.inr ⟨rfl,rfl⟩⟩
 obtain⟨mask,em,hmn⟩:=hm;have hm3:mask=7\/mask=31\/mask=127:=by lia
 obtain⟨owner,o1,o2,o3⟩:=aDB hm3 hs (by lia);have hsnd:=aE5 owner;obtain⟨r1,r2⟩:=aCt (λ j=>owner.getD j none) (mask+1) 0;rw[<-zH4]at r1 r2;have kK:((dX owner (mask+1)).map (·.1)).length=n:=by
  rw[zAD,<-zAD (f:=(·.2)),<-o2,hsnd,o3.length_eq,zF9,hl]
 refine⟨{mask:=mask,place:=((dX owner (mask+1)).map (·.1)).toArray,dummies:=#[],finger:=t.finger,led:=t.led,moves:=t.movedTo mask,plain:=t.plain},((dX owner (mask+1)).map (·.2)).toArray,?_,⟨rfl,?_,aNF r1,?_,?_,hp⟩,rfl,?_⟩
 .unfold zHm zIV
  rw[em,o1];rfl
 .simpa using kK
 .intro i hi
  have hi':i<((dX owner (mask+1)).map (·.1)).length:=by rw[kK];exact hi
  show((dX owner (mask+1)).map (·.1)).toArray.getD i 0<=mask
  have:((dX owner (mask+1)).map (·.1)).toArray.getD i 0=((dX owner (mask+1)).map (·.1))[i]:=by
   rw[zBc,List.getElem?_toArray,zAI hi'];rfl
  rw[this]
  have:=r2 _ (zCj hi')
  lia
 .show mask=7/\n<5\/mask=31/\n<19\/mask=127/\n<77
  lia
 .show((dX owner (mask+1)).map (·.2)).Perm (zAm n)
  rw[<-o2,hsnd,<-hl];exact o3
def aFD(mask:Nat)(p:zCI):zCI:=
 if p.more>0 then{p with j:=p.j+1,more:=p.more-1}else
 {p with j:=(zAu mask p.i p.perturb).1,more:=zAi mask (zAu mask p.i p.perturb).1-(zAu mask p.i p.perturb).1,i:=(zAu mask p.i p.perturb).1,perturb:=(zAu mask p.i p.perturb).2}
abbrev aG2(mask i pert:Nat):zCI:={j:=i,more:=zAi mask i-i,i:=i,perturb:=pert,dummy:=none}
def pst(mask:Nat)(h:Int):Nat->zCI
 |0=>aG2 mask (zBA h%(mask+1)) (zBA h)
 |k+1=>aFD mask (pst mask h k)
def aJz(mask:Nat)(p:zCI):(aFD mask p).dummy=p.dummy:=by unfold aFD;split<;>rfl
theorem aF1(mask:Nat)(h:Int):∀k,(pst mask h k).dummy=none
 |0=>rfl
 |k+1=>(aJz mask _).trans (aF1 mask h k)
def lN(mask:Nat)(L:List (Int×Nat)):Prop:=∀e∈L,∃k,(pst mask e.1 k).j=e.2/\k<10*zBP mask/\∀k',k'<k->∃e'∈L,e'.2=(pst mask e.1 k').j
def lN.perm(h:lN mask L)(p:L'.Perm L):lN mask L':=λ e he=>by
 obtain⟨k,a,b,c⟩:=h e (p.mem_iff.mp he);exact⟨k,a,b,λ k' hk=>by obtain⟨e',x,y⟩:=c k' hk;exact⟨e',p.mem_iff.mpr x,y⟩⟩
def lN.cons(h:lN mask L)(hx:∃k,(pst mask x.1 k).j=x.2/\k<10*zBP mask/\∀k',k'<k->∃e'∈L,e'.2=(pst mask x.1 k').j):lN mask (x::L):=λ e he=>by
 rcases zAJ.mp he with rfl|he
 .obtain⟨k,a,b,c⟩:=hx
  exact⟨k,a,b,λ k' hk=>by obtain⟨e',x,y⟩:=c k' hk;exact⟨e',zAH _ x,y⟩⟩
 .obtain⟨k,a,b,c⟩:=h e he
  exact⟨k,a,b,λ k' hk=>by obtain⟨e',x,y⟩:=c k' hk;exact⟨e',zAH _ x,y⟩⟩
section
variable{t:zC1}{n:Nat}{hashAt:Nat->Int}{h:Int}
def aAO(T:dH t n)(hi:i<n):t.slot (t.place.getD i 0)= .live i:=by
 rcases sy T (t.place.getD i 0)with e|⟨i',h1,h2,h3⟩
 .exact absurd rfl (aCU T e i hi)
 .have:i'=i:=by
   rcases zFi i' i with z|z|z
   .have:=T.ris i' i z (by rw[T.siz];exact hi);lia
   .exact z
   .have:=T.ris i i' z (by rw[T.siz];exact h1);lia
  rw[h2,this]
theorem aDR(T:dH t n)(hi:i<n)(hh:hashAt i=h)(hu:∀i',i'<n->hashAt i'=h->i'=i):∀(d k fuel:Nat),(pst t.mask h (k+d)).j=t.place.getD i 0->d<fuel->(∀k',k'<k+d->∃i',i'<n/\t.place.getD i' 0=(pst t.mask h k').j)->
  ∃j nx,zBn t hashAt h fuel (pst t.mask h k)=some (.candidate j i nx)
 |d,k,0,_,hf,_=>by lia
 |0,k,fuel+1,hj,hf,hp=>by
  rw[yz];have hj':(pst t.mask h k).j=t.place.getD i 0:=hj;rw[hj',aAO T hi];dsimp only;rw[if_pos (by simp[hh])];exact⟨_,_,rfl⟩
 |d+1,k,fuel+1,hj,hf,hp=>by
  rw[yz];obtain⟨i',h1,h2⟩:=hp k (by lia);rw[<-h2,aAO T h1];dsimp only;by_cases e:hashAt i'=h
  .rw[if_pos (by simp[e]),hu i' h1 e]
   exact⟨_,_,rfl⟩
  .rw[if_neg (by simpa using e)]
   exact aDR T hi hh hu d (k+1) fuel (by rw[show k+1+d=k+(d+1)by lia];exact hj) (by lia) (by rw[show k+1+d=k+(d+1)by lia];exact hp)
theorem aJY(T:dH t n):∀(fuel k:Nat),zBn t hashAt h fuel (pst t.mask h k)=some (.empty j none)->∃K,k<=K/\K<k+fuel/\(pst t.mask h K).j=j/\∀k',k<=k'->k'<K->∃i',i'<n/\t.place.getD i' 0=(pst t.mask h k').j
 |0,k,e=>by cases e
 |fuel+1,k,e=>by
  rw[yz]at e;rcases sy T (pst t.mask h k).j with q|⟨i,hi,q,hp⟩
  .rw[q]at e
   dsimp only at e;rw[aF1]at e;injection e with e
   injection e with e
   exact⟨k,zAQ _,by lia,e,λ k' a b=>by lia⟩
  .rw[q]at e
   dsimp only at e;split at e
   .cases e
   .obtain⟨K,a,b,c,d⟩:=aJY T fuel (k+1) e
    refine⟨K,by lia,by lia,c,λ k' a' b'=>?_⟩;by_cases z:k'=k
    .subst z;exact⟨i,hi,hp⟩
    .exact d k' (by lia) b'
end
def tlS(t:zC1)(es:hV):List (Int×Nat):=(es.toList.map (·.1)).zip t.place.toList
def aMK(T:dH t es.size)(hi:i<es.size):(es[i].1,t.place.getD i 0)∈tlS t es:=by
 have h2:i<t.place.size:=by rw[T.siz];exact hi
 refine zEk.mpr ⟨i,?_⟩;unfold tlS;rw[zC4];constructor
 .rw[zAY,zAf,zAs hi];rfl
 .rw[zAf,zAs h2]
  simp[zCY,h2]
def aMn(T:dH t es.size)(he:e∈tlS t es):∃i,i<es.size/\t.place.getD i 0=e.2:=by
 obtain⟨i,hi⟩:=zEk.mp he;unfold tlS at hi;have h:=(zC4.mp hi).2;rw[zAf]at h;obtain⟨h1,h2⟩:=zBr.mp h;exact⟨i,by rw[<-T.siz];exact h1,by simp[zCY,h1,h2]⟩
def aCd(T:dH t es.size)(P:lN t.mask (tlS t es))(hi:i<es.size)(hu:∀i' (q:i'<es.size),es[i'].1=es[i].1->i'=i):
  ∃j nx,t.probe (λ i=>(es[i]?.map (·.1)).getD 0) es[i].1 (t.probeStart es[i].1)=some (.candidate j i nx):=by
 obtain⟨k,a,b,c⟩:=P _ (aMK T hi);have hat:∀i' (q:i'<es.size),(es[i']?.map (·.1)).getD 0=es[i'].1:=λ i' q=>by rw[zAs q];rfl
 have:=aDR (hashAt:=λ i=>(es[i]?.map (·.1)).getD 0) T hi (hat i hi) (λ i' q e=>hu i' q ((hat i' q).symm.trans e)) k 0 (10*zBP t.mask) (by rw[zEp];exact a) b λ k' hk=>by
  obtain⟨e',x,y⟩:=c k' (by lia);obtain⟨i',z1,z2⟩:=aMn T x;exact⟨i',z1,z2.trans y⟩
 unfold SetTable.probe;exact this
def aG9(T:dH t es.size)(e:t.probe hashAt h (t.probeStart h)=some (.empty j none)):∃k,(pst t.mask h k).j=j/\k<10*zBP t.mask/\∀k',k'<k->∃e'∈tlS t es,e'.2=(pst t.mask h k').j:=by
 obtain⟨K,a,b,c,d⟩:=aJY T (10*zBP t.mask) 0 e;refine⟨K,c,by lia,λ k' hk=>?_⟩;obtain⟨i',h1,h2⟩:=d k' (zAj _) hk;exact⟨_,aMK T h1,h2⟩
def aMm(T:dH t es.size)(hp:p<=es.size):(((zAy es p x).toList.map (·.1)).zip (zAy t.place p j).toList).Perm ((x.1,j)::tlS t es):=by
 rw[zDw,zDw,zAk,zAS];have hs:=T.siz;rw[zIp (by simp[hs]),zBL];refine List.perm_middle.trans (zHh _ ?_)
 have:tlS t es=((es.toList.map (·.1)).take p++(es.toList.map (·.1)).drop p).zip (t.place.toList.take p++t.place.toList.drop p):=by rw[zEl,zEl];rfl
 rw[this,zIp (by simp[hs]),List.map_take,zJC]
theorem wZ(e:pst mask h k=aG2 mask i pert):∀m,m<=zAi mask i-i->pst mask h (k+m)={aG2 mask i pert with j:=i+m,more:=zAi mask i-i-m}
 |0,_=>by rw[Nat.add_zero,e];simp
 |m+1,hm=>by
  show aFD mask (pst mask h (k+m))=_;rw[wZ e m (by lia)];unfold aFD;rw[if_pos (show zAi mask i-i-m>0 by lia)];simp;lia
def aIN(e:pst mask h k=aG2 mask i pert):pst mask h (k+(zAi mask i-i)+1)=aG2 mask (zAu mask i pert).1 (zAu mask i pert).2:=by
 show aFD mask (pst mask h (k+(zAi mask i-i)))=_;rw[wZ e _ (zAQ _)];unfold aFD;rw[if_neg (by show¬zAi mask i-i-(zAi mask i-i)>0;lia)]
theorem aDS(ho:owner.size=mask+1):∀(N i pert k:Nat),i<=mask->pst mask h k=aG2 mask i pert->zBV mask owner N i pert=some j->
  ∃K,k<=K/\K<k+10*N/\(pst mask h K).j=j/\∀k',k<=k'->k'<K->∃x,owner.toList[(pst mask h k').j]? =some (some x)
 |0,i,pert,k,hi,e,q=>by cases q
 |N+1,i,pert,k,hi,e,q=>by
  obtain⟨r1,r2,r3⟩:=uq hi;have dA:zBV mask owner (N+1) i pert=(match (zAm (zAi mask i+1-i)).find? λ k=>(owner.getD (i+k) (some 0)).isNone with
   |some k=>some (i+k)
   |none=>zBV mask owner N (zAu mask i pert).1 (zAu mask i pert).2):=rfl
  rw[dA]at q;have full:∀m,m<=zAi mask i-i->((owner.getD (i+m) (some 0)).isNone)=false->∃x,owner.toList[(pst mask h (k+m)).j]? =some (some x):=λ m hm z=>by
   rw[wZ e m hm]
   show∃x,owner.toList[i+m]? =some (some x)
   have hlt:i+m<owner.size:=by lia
   rw[show owner.getD (i+m) (some 0)=owner[i+m]by simp[zCY,hlt]]at z;rw[zAf];cases w:owner[i+m]with
   |none=>rw[w]at z;cases z
   |some x=>exact⟨x,by rw[zBr];exact⟨hlt,w⟩⟩
  cases hf:(zAm (zAi mask i+1-i)).find? λ k=>(owner.getD (i+k) (some 0)).isNone with
  |some m=>
   rw[hf]at q;cases q;have h1:=zGf hf;simp only[zBU]at h1;refine⟨k+m,by lia,by lia,by rw[wZ e m (by lia)],λ k' a b=>?_⟩;obtain⟨d,rfl⟩:∃d,k'=k+d:=⟨k'-k,by lia⟩
   refine full d (by lia) ?_
   have:=(List.find?_range_eq_some.mp hf).2.2 d (by lia)
   exact(zCw _).mp this
  |none=>
   rw[hf]at q;have hl:(zAu mask i pert).1<=mask:=zCQ (zD3 _ (zDL _));obtain⟨K,a,b,c,d⟩:=aDS ho N _ _ _ hl (aIN e) q;refine⟨K,by lia,by lia,c,λ k' a' b'=>?_⟩;by_cases z:k'<k+(zAi mask i-i)+1
   .obtain⟨m,rfl⟩:∃m,k'=k+m:=⟨k'-k,by lia⟩
    refine full m (by lia) ?_;exact zIJ.mpr (zHt.mp hf m (by simp;lia))
   .exact d k' (by lia) b'
def aKC(mask:Nat)(hs:List Int)(owner:Array (Option Nat)):Prop:=∀j x,owner.toList[j]? =some (some x)->∃h,hs[x]? =some h/\∃K,(pst mask h K).j=j/\K<10*zBP mask/\∀k',k'<K->∃y,owner.toList[(pst mask h k').j]? =some (some y)
def aKC.set{K k j:Nat}(O:aKC mask hs owner)(hx:hs[k]? =some h)(hK:(pst mask h K).j=j)(hK2:K<10*zBP mask)(hp:∀k',k'<K->∃y,owner.toList[(pst mask h k').j]? =some (some y)):aKC mask hs (owner.setIfInBounds j (some k)):=by
 have keep:∀(a:Nat),(∃y,owner.toList[a]? =some (some y))->∃y,(owner.setIfInBounds j (some k)).toList[a]? =some (some y):=λ a ⟨y,e⟩=>by
  rw[zDp,zF8];by_cases z:j=a
  .subst z
   rw[if_pos rfl]
   have:=(zAN.mp e).1
   exact⟨k,by rw[if_pos this]⟩
  .rw[if_neg z];exact⟨y,e⟩
 intro a x e;rw[zDp,zF8]at e;by_cases z:j=a
 .subst z
  rw[if_pos rfl]at e;split at e
  .cases e
   exact⟨h,hx,K,hK,hK2,λ k' q=>keep _ (hp k' q)⟩
  .cases e
 .rw[if_neg z]at e
  obtain⟨h',a1,K',a2,a3,a4⟩:=O a x e;exact⟨h',a1,K',a2,a3,λ k' q=>keep _ (a4 k' q)⟩
theorem aFh(all:List Int):∀(hs:List Int) (owner:Array (Option Nat)) (k:Nat),owner.size=mask+1->all.drop k=hs->aKC mask all owner->∀o' k',hs.foldl (iD mask) (some (owner,k))=some (o',k')->aKC mask all o'
 |[],owner,k,ho,hd,O,o',k',e=>by cases e;exact O
 |h::hs,owner,k,ho,hd,O,o',k',e=>by
  rw[zBH]at e;cases q:zBV mask owner (zBP mask) (zBA h%(mask+1)) (zBA h)with
  |none=>
   have hst:iD mask (some (owner,k)) h=none:=by unfold iD;simp[q]
   rw[hst]at e
   have:∀l:List Int,l.foldl (iD mask) none=none:=λ l=>by induction l with
    |nil=>rfl
    |cons a l ih=>rw[zBH];exact ih
   rw[this]at e;cases e
  |some j=>
   have hst:iD mask (some (owner,k)) h=some (owner.setIfInBounds j (some k),k+1):=by unfold iD;simp[q]
   rw[hst]at e;obtain⟨K,a,b,c,d⟩:=aDS (h:=h) ho (zBP mask) _ _ 0 (zCQ (zD3 _ (zDL _))) rfl q;have hk:all[k]? =some h:=by
    have:=congrArg (·[0]?) hd
    simpa using this
   refine aFh all hs _ (k+1) (by simpa using ho) ?_ (O.set hk c (by lia) λ k' q=>d k' (zAj _) q) o' k' e
   have:=congrArg (List.drop 1) hd
   rw[List.drop_drop]at this;simpa using this
def yg(h:p∈dX owner m):owner.toList[p.1]? =some (some p.2):=by
 unfold dX at h;obtain⟨j,hj,e⟩:=zBp.mp h;cases q:owner.getD j none with
 |none=>rw[q]at e;cases e
 |some x=>
  rw[q]at e;cases e;rw[zAf];rw[zBc]at q;cases w:owner[j]? with
  |none=>rw[w]at q;cases q
  |some y=>rw[w]at q;rw[show y=some x from q]
def aE6(hj:j<m)(h:owner.toList[j]? =some (some x)):(j,x)∈dX owner m:=by
 unfold dX;refine zBp.mpr ⟨j,zBU.mpr hj,?_⟩;rw[zAf]at h;rw[zBc,h];rfl
theorem aFv(es:hV):∀l:List (Nat×Nat),(∀p∈l,∃h,(es.toList.map (·.1))[p.2]? =some h)->((l.map (·.2)).filterMap (es[·]?)).map (·.1)=l.map λ p=>((es.toList.map (·.1))[p.2]?).getD 0
 |[],_=>rfl
 |p::l,h=>by
  obtain⟨x,e⟩:=h p zAE;have ih:=aFv es l λ q hq=>h q (zAH _ hq)
  rw[zAS,zAS,zBZ];have e':=e;rw[zAY,zAf]at e';cases w:es[p.2]? with
  |none=>rw[w]at e';cases e'
  |some y=>
   rw[w]at e';dsimp only;rw[zAS,ih,e];rw[show y.1=x from zAa e'];rfl
theorem aCL(f:α->β)(g:α->γ):∀l:List α,(l.map f).zip (l.map g)=l.map λ a=>(f a,g a)
 |[]=>rfl
 |a::l=>by rw[zAS,zAS,zBL,aCL f g l];rfl
def aG4{t:zC1}(hn:n=5\/n=19)(es:hV)(hl:es.size=n)(e:t.relaid (es.map (·.1)) (zCx n)=some (t',order)):lN t'.mask (tlS t' (order.filterMap (es[·]?))):=by
 have hm:∃mask,zEt (zCx n)-1=mask/\(mask=31/\n=5\/mask=127/\n=19):=by
  rcases hn with e|e<;>subst e
  .exact⟨31,by decide,.inl ⟨rfl,rfl⟩⟩
  .exact⟨127,by decide,.inr ⟨rfl,rfl⟩⟩
 obtain⟨mask,em,hmn⟩:=hm;have hm3:mask=7\/mask=31\/mask=127:=by lia
 obtain⟨owner,f1,f2,f3⟩:=ym hm3 (es.map (·.1)).toList (zDi (mask+1) none) 0 (by simp) (by rw[aDO];exact zBJ _) (by simp;lia);have o1:zDv mask (es.map (·.1))=some owner:=by
  have e:zDv mask (es.map (·.1))=((es.map (·.1)).foldl (iD mask) (some (zDi (mask+1) none,0))).map (·.1):=rfl;rw[e,<-zHf,f1];rfl
 have O:=aFh (mask:=mask) (es.map (·.1)).toList _ _ 0 (by simp) rfl (λ j x q=>by
  rw[zGx,zCL]at q;split at q<;>cases q) _ _ f1
 unfold zHm zIV at e;rw[em,o1]at e;cases e;rw[Array.toList_map]at O;show lN mask _;have et:tlS {mask:=mask,place:=((dX owner (mask+1)).map (·.1)).toArray,dummies:=#[],finger:=t.finger,led:=t.led,moves:=t.movedTo mask,plain:=t.plain} (((dX owner (mask+1)).map (·.2)).toArray.filterMap (es[·]?))=(dX owner (mask+1)).map λ p=>(((es.toList.map (·.1))[p.2]?).getD 0,p.1):=by
  unfold tlS;rw[zE5,aFv es _ λ p hp=>by
   obtain⟨h,q,_⟩:=O p.1 p.2 (yg hp);exact⟨h,q⟩]
  exact aCL _ _ _
 show lN mask (tlS {mask:=mask,place:=((dX owner (mask+1)).map (·.1)).toArray,dummies:=#[],finger:=t.finger,led:=t.led,moves:=t.movedTo mask,plain:=t.plain} (((dX owner (mask+1)).map (·.2)).toArray.filterMap (es[·]?)));rw[et];intro e he;obtain⟨p,hp,rfl⟩:=zA3.mp he;obtain⟨h,q,K,a,b,c⟩:=O p.1 p.2 (yg hp);dsimp only;rw[q];refine⟨K,a,b,λ k' hk=>?_⟩;obtain⟨y,z⟩:=c k' hk;refine⟨_,zA3.mpr ⟨((pst mask h k').j,y),aE6 ?_ z,rfl⟩,rfl⟩
 have:=(zAN.mp z).1
 rw[zAU,f2]at this;exact this
abbrev bz(es:hV)(ep:Nat)(t:zC1):Obj:={cls:=.type "set",dict:=none,data:=.set es ep t}
def SetT(h:Heap)(a:Addr)(es:hV)(t:zC1):Prop:=∃ep,h.get? a=some (bz es ep t)
structure TupAt(h:Heap)(x:Addr)(ns:List Int):Prop where
 ex:∃o xs k,h.get? x=some o/\o.cls= .type "tuple"/\o.data= .seq xs k/\zB8 xs.toList ns
theorem lY:∀{vs:List Value} {ns:List Int},zB8 vs ns->ItemsAre (zCA prog w) ns vs
 |_,_,.nil=>.nil
 |_,_,.cons n t r=>.cons (zFX _ _ n t) (lY r)
section
variable{prog:zA2}{w:World}{A:zAc}{E:Value->zAG->Prop}{s:zAG}
theorem mK{fuel:Nat}:∀{vs:List Value} {ns:List Int},zB8 vs ns->∀v∈vs,zHH fuel v=pure true
 |_,_,.nil,v,hv=>by simp at hv
 |_,_,.cons n t r,v,hv=>by
  rcases zAJ.mp hv with rfl|hv
  .cases fuel<;>rfl
  .exact mK r v hv
def wO{x:Addr}(hx:TupAt s.heap x ns)(h:Q true s):wpAny (model prog w) A (zHH 8 (.ref x)) Q E s:=by
 obtain⟨o,xs,k,ho,hc,hd,hi⟩:=hx.ex;have hT:s.TypeIs (.ref x) "tuple":=⟨o,ho,hc⟩;unfold zHH;refine zAB (wpAny_specialOf hT PySem.F.slot_tuple_hash.lookup ?_);dsimp only;refine zAB (zBj ho hd ?_);refine zAB ?_;show wpAny (model prog w) A (forIn xs _ _) _ _ _;rw[<-zHg];refine zBX (zDu _ (λ rest b s'=>b.1=none/\s'=s/\∀v∈rest,zHH 7 v=pure true) (λ b s'=>b.1=none/\s'=s) ?_ ?_ _ _ ⟨rfl,rfl,mK hi⟩) ?_ λ _ _ e=>e
 .rintro v rest b s' ⟨hb,rfl,hr⟩
  rw[hr v zAE];refine zAB (zAF ?_);simp only[zCK,zA0,if_false];exact zAF ⟨rfl,rfl,λ u hu=>hr u (zAH _ hu)⟩
 .rintro b s' ⟨hb,rfl,_⟩
  exact⟨hb,rfl⟩
 .rintro⟨b1,b2⟩ s' ⟨hb,rfl⟩
  dsimp only at hb;subst hb;exact zAF h
def aBE(ho:s.heap.get? a=some (bz es ep t))(hz:es'.size<=4000)
  (h:(s.heap.update a (zI8 es' t')).get? a=some (bz es' (ep+1) t')->Q () {s with heap:=s.heap.update a (zI8 es' t')}):wpAny (model prog w) A (storeSet a es' t') Q E s:=by
 refine wpAny_storeSet_of ho rfl (h ?_) (by rw[zCO];lia)
 have:=zC0 (zI8 es' t') ho (by rw[putSet_of es' t' rfl];rfl)
 rw[putSet_of es' t' rfl]at this;exact this
def xX(ho:s.heap.get? a=some (bz es ep t))(T:dH t es.size)(hne:∀e∈es.toList,e.1≠h)
  (q:∀j,j<=t.mask->t.slot j= .empty->(∃k,(pst t.mask h k).j=j/\k<10*zBP t.mask/\∀k',k'<k->∃e'∈tlS t es,e'.2=(pst t.mask h k').j)->Q (.free j false) s):wpAny (model prog w) A (zIk a x h true) Q E s:=by
 unfold zIk;unfold setSearchFrom;refine zAB (zBa ho rfl T.fits ?_);dsimp only;have hg:t.gaveWay=false:=by
  unfold zHc;rcases T.mask3 with e|e|e<;>rw[e]<;>decide
 rw[hg];simp only[zA0,if_false];obtain⟨j,j1,j2,j3⟩:=yH (hashAt:=λ i=>(es[i]?.map (·.1)).getD 0) T (h:=h) λ i hi=>by
  have e:es[i]? =some es[i]:=zAs hi;rw[e];exact hne _ (zGa hi)
 have j3':t.probe (λ i=>(es[i]?.map (·.1)).getD 0) h ((none:Option zCI).getD (t.probeStart h))=some (.empty j none):=j3;split
 .rename_i met heq
  have e:some met=some (.empty j none):=heq.symm.trans j3';cases e;exact zAF (q j j1 j2 (aG9 T j3))
 .rename_i hno
  exact(hno _ j3').elim
def TupAt.key(hx:TupAt h x ns):IsTupleKey (zCA prog w) h ns x:=let⟨o,xs,k,a,b,c,d⟩:=hx.ex;⟨o,xs,k,a,b,c,lY d⟩
theorem tH{fuel:Nat}:∀{vs:List Value} {ns:List Int},zB8 vs ns->∀v∈vs,zEg fuel v=pure false
 |_,_,.nil,v,hv=>by simp at hv
 |_,_,.cons n t r,v,hv=>by
  rcases zAJ.mp hv with rfl|hv
  .cases fuel<;>rfl
  .exact tH r v hv
def v5(hx:TupAt s.heap x ns)(h:Q false s):wpAny (model prog w) A (zEg 8 (.ref x)) Q E s:=by
 obtain⟨o,xs,k,ho,hc,hd,hi⟩:=hx.ex;unfold zEg;refine zAB (zE4 (T:="tuple") ⟨o,ho,hc⟩ ?_);dsimp only;rw[if_pos (by decide)];refine zAB (zAF ?_);simp only[zCK,zA0,if_false];refine zAB (zBj ho hd ?_);refine zAB ?_;show wpAny _ _ (forIn xs _ _) _ _ s;rw[<-zHg];refine zDu _ (λ rest r s'=>r.1=none/\s'=s/\∀v∈rest,zEg 7 v=pure false) _ ?_ ?_ _ _ ⟨rfl,rfl,tH hi⟩
 .rintro v rest r s' ⟨hr,rfl,oQ⟩
  rw[oQ v zAE];refine zAB (zAF ?_);simp only[zA0,if_false];exact zAF ⟨rfl,rfl,λ u hu'=>oQ u (zAH _ hu')⟩
 .rintro⟨r1,r2⟩ s' ⟨hr,rfl,_⟩
  simp only at hr;subst hr;exact zAF h
def aLy(h:Heap)(v:Value):Prop:=∃y ms,v= .ref y/\TupAt h y ms
def aHm(hx:TupAt s.heap x ns)(l:List Value)(hl:∀v∈l,aLy s.heap v)(h:Q false s):wpAny (model prog w) A (zJ5 (.ref x) l) Q E s:=by
 unfold zJ5;refine zAB ?_;refine zDu _ (λ rest r s'=>r.1=none/\s'=s/\∀v∈rest,aLy s.heap v) _ ?_ ?_ _ _ ⟨rfl,rfl,hl⟩
 .rintro v rest r s' ⟨hr,rfl,oQ⟩
  obtain⟨y,ms,rfl,hy⟩:=oQ v zAE;have b9:=λ u hu'=>oQ u (zAH _ hu')
  dsimp only;split
  .exact zAF ⟨rfl,rfl,b9⟩
  .refine zAB (zIl hx.key ?_)
   simp only[zCK,zA0,if_false];refine zAB (zIl hy.key ?_);simp only[zCK,zA0,if_false];refine zAB (v5 hx ?_);simp only[zA0,if_false];refine zAB (v5 hy ?_);simp only[zA0,if_false];exact zAF ⟨rfl,rfl,b9⟩
 .rintro⟨r1,r2⟩ s' ⟨hr,rfl,_⟩
  simp only at hr;subst hr;exact zAF h
def wL(hu:A.units<cLine)(ho:s.heap.get? a=some (bz es ep t))(T:dH t es.size)(P:lN t.mask (tlS t es))(hes:∀e∈es.toList,aLy s.heap e.2)(hx:TupAt s.heap x ns)(hi:i<es.size)(h1:es[i].1=hsh ns)(h2:es[i].2= .ref y)(hy:TupAt s.heap y ns)
  (hun:∀i' (q:i'<es.size),es[i'].1=es[i].1->i'=i)(q:Q (.there none) s):wpAny (model prog w) A (zIk a (.ref x) (hsh ns) true) Q E s:=by
 unfold zIk;unfold setSearchFrom;refine zAB (zBa ho rfl T.fits ?_);dsimp only;have hg:t.gaveWay=false:=by
  unfold zHc;rcases T.mask3 with e|e|e<;>rw[e]<;>decide
 rw[hg];simp only[zA0,if_false];obtain⟨j,nx,j3⟩:=aCd T P hi hun;rw[h1]at j3;have j3':t.probe (λ i=>(es[i]?.map (·.1)).getD 0) (hsh ns) ((none:Option zCI).getD (t.probeStart (hsh ns)))=some (.candidate j i nx):=j3;have he:es[i]? =some (hsh ns,.ref y):=by rw[zAs hi,<-h1,<-h2]
 split
 .rename_i met heq
  have e:some met=some (.candidate j i nx):=heq.symm.trans j3';cases e;dsimp only;have fin:∀k:Bool->Array (Int×Value)×Nat×zC1->Sem SetFound,(∀r,k true r=pure (.there none))->wpAny (model prog w) A (zCn [zBF y] (eqBool (.ref y) (.ref x))>>=λ equal=>setState a>>=λ r=>k equal r) Q E s:=λ k hk=>by
   refine zAB (zBI (wpAny_eqBool_tuple hu hy.key hx.key ?_));rw[show decide (ns=ns)=true by simp];refine zAB (zBa ho rfl T.fits ?_);rw[hk];exact zAF q
  have eL:∀v∈(es.filter (·.1==hsh ns)).toList.map (·.2),aLy s.heap v:=λ v hv=>by
   obtain⟨e,he,rfl⟩:=zA3.mp hv;rw[Array.toList_filter]at he;exact hes e (zAn.mp he).1
  cases hl:t.led with
  |true=>
   simp only[zCK,zA0,if_false];rw[he];exact fin _ λ r=>rfl
  |false=>
   simp only[zDC,if_true];refine zAB (aHm hx _ eL ?_);simp only[zA0,if_false];rw[he];exact fin _ λ r=>rfl
 .rename_i hno
  exact(hno _ j3').elim
def aCW(ho:s.heap.get? a=some (bz es ep t))(T:oG t n)(hn:es.size=n)(h5:n=5\/n=19)
  (q:∀h' es' t',zDI a s.heap h'->SetT h' a es' t'->dH t' n->t'.led=t.led->es'.toList.Perm es.toList->lN t'.mask (tlS t' es')->Q () {s with heap:=h'}):wpAny (model prog w) A (setRelay a (zCx n)) Q E s:=by
 have hsz:zEt (zCx n)<=zAX:=by
  rw[zCO];rcases h5 with e|e<;>rw[e]<;>decide
 obtain⟨t',order,r1,r2,r3,r4⟩:=aC6 T.pla h5 (es.map (·.1)) (by rw[zIn];exact hn);have pV:(order.filterMap (es[·]?)).toList.Perm es.toList:=by
  rw[zE5];refine(r4.filterMap _).trans ?_;rw[<-hn,zHn]
 have hes:(order.filterMap (es[·]?)).size=es.size:=by rw[<-zAU,pV.length_eq,zAU]
 have eP:=aG4 h5 es hn r1;unfold setRelay;refine zAB (zBa ho rfl (by rw[hn];exact T.fits) ?_);dsimp only;rw[if_neg (by lia),r1];refine zAB ?_;refine zFp (a:=(order.filterMap (es[·]?),t')) ?_ ?_
 .show(if ((order.filterMap (es[·]?)).size !=es.size)=true then _ else pure (order.filterMap (es[·]?),t'))=_
  rw[hes];simp only[bne_self_eq_false,zA0,if_false]
 .exact aBE ho (by rw[hes,hn];lia) λ e=>q _ _ t' (zBR ..) ⟨_,e⟩ r2 r3 pV eP
def SetT.keep(S:SetT h a es t)(k:∀o,h.get? a=some o->h'.get? a=some o):SetT h' a es t:=let⟨ep,e⟩:=S;⟨ep,k _ e⟩
def eV(zs:List (α×List Int))(p:α×List Int):List (α×List Int):=if p.2∈zs.map (·.2)then zs else zs++[p]
def ent(p:Value×List Int):Int×Value:=(hsh p.2,p.1)
structure wU(h:Heap)(a:Addr)(led:Bool)(zs:iX)(es:hV)(t:zC1):Prop where
 at_:SetT h a es t
 ok:dH t es.size
 way:lN t.mask (tlS t es)
 led_:t.led=led
 perm:es.toList.Perm (zs.map ent)
 nd:(zs.map λ p=>hsh p.2).Nodup
def aMc(h:Heap)(zs:iX):Prop:=∀p∈zs,∃y,p.1= .ref y/\TupAt h y p.2
def aDt(hu:A.units<cLine)(S:wU s.heap a led zs es t)(hz:aMc s.heap zs)(hx:TupAt s.heap x ns)(hin:∀p∈zs,hsh p.2=hsh ns->p.2=ns)(h64:(eV zs (.ref x,ns)).length<=76)
  (q:∀b h' tk es' t',zDI a s.heap h'->s.toks<=tk->wU h' a led (eV zs (.ref x,ns)) es' t'->Q b {s with heap:=h',toks:=tk}):wpAny (model prog w) A (zJH a (.ref x)) Q E s:=by
 obtain⟨⟨ep,ho⟩,T,P,hl,hp,hnd⟩:=S;obtain⟨o,xs,k,xo,xc,xd,xi⟩:=hx.ex;unfold zJH;refine zBI (zAB ?_);refine wpAny_pyHash_tuple (knd:=zCA prog w) (ks:=ns) hu ⟨o,xs,k,xo,xc,xd,lY xi⟩ ?_;have eh:tupleKeyHash (zCA prog w) ns=hsh ns:=rfl;rw[eh];unfold setAddHashed;refine zBI ?_;unfold setAddHashedIn;refine zAB (zBa ho rfl T.fits ?_);dsimp only;have hb:byScan (.ref x) es=false:=rfl;rw[hb];simp only[zA0,if_false];have hes:∀e∈es.toList,∃p∈zs,e=ent p:=λ e he=>by
  obtain⟨p,hp',e'⟩:=zA3.mp (hp.mem_iff.mp he);exact⟨p,hp',e'.symm⟩
 have hndE:(es.toList.map (·.1)).Nodup:=((hp.map (·.1)).nodup_iff).mpr (by rw[zAz];exact hnd);by_cases hm:ns∈zs.map (·.2)
 .have ed:eV zs (.ref x,ns)=zs:=by unfold eV;rw[if_pos hm]
  obtain⟨p,hp1,hp2⟩:=zA3.mp hm;obtain⟨y,ey,hy⟩:=hz p hp1;have eS:(hsh ns,zBF y)∈es.toList:=by
   refine hp.mem_iff.mpr (zA3.mpr ⟨p,hp1,?_⟩);unfold ent;rw[hp2,ey]
  obtain⟨i,hi,ei⟩:=List.mem_iff_getElem.mp eS;rw[zAU]at hi;rw[Array.getElem_toList]at ei;refine zAB (wL (s:={s with heap:=s.heap,toks:=_}) hu ho T P (λ e he=>?_) (ns:=ns) (i:=i) (y:=y) ⟨o,xs,k,xo,xc,xd,xi⟩ hi (by rw[ei]) (by rw[ei]) (by rw[<-hp2];exact hy) (λ i' q e=>?_) ?_)
  .obtain⟨p',a1,rfl⟩:=hes e he
   obtain⟨y',b1,b2⟩:=hz p' a1;exact⟨y',_,b1,b2⟩
  .have h1:(es.toList.map (·.1))[i']? =some es[i'].1:=by rw[zAY,zAf,zAs q];rfl
   have h2:(es.toList.map (·.1))[i]? =some es[i].1:=by rw[zAY,zAf,zAs hi];rfl
   rw[e]at h1;exact(zF7 (by simpa using q) hndE).mp (h1.trans h2.symm)
  .dsimp only
   exact zAF (q _ _ _ _ _ ⟨rfl,λ _ _=>rfl⟩ (zGA _ _) (by rw[ed];exact⟨⟨_,ho⟩,T,P,hl,hp,hnd⟩))
 .have ed:eV zs (.ref x,ns)=zs++[(.ref x,ns)]:=by unfold eV;rw[if_neg hm]
  rw[ed]at h64;have hzl:es.size=zs.length:=by rw[<-zAU,hp.length_eq,zAD]
  rw[zA1,zBY]at h64;have hne:∀e∈es.toList,e.1≠hsh ns:=λ e he z=>by
   obtain⟨p,a1,rfl⟩:=hes e he;exact hm (zA3.mpr ⟨p,a1,hin p a1 z⟩)
  have hnd':((zs++[(zBF x,ns)]).map λ p=>hsh p.2).Nodup:=by
   rw[zAk];refine zBS.mpr ⟨hnd,by simp,λ a ha b hb=>?_⟩;obtain⟨p,a1,rfl⟩:=zA3.mp ha;rw[zAV.mp hb];exact λ z=>hm (zA3.mpr ⟨p,a1,hin p a1 z⟩)
  refine zAB (xX ho T hne λ j j1 j2 j3=>?_);dsimp only;refine zAB (zBa ho rfl T.fits ?_);dsimp only;obtain⟨PP,p1,p2,p3,p4⟩:=aIJ T (by lia) j1 j2;have hes:(zAy es (t.put j).2 (hsh ns,zBF x)).size=es.size+1:=pQ _ _ _;have pV:(zAy es (t.put j).2 (hsh ns,zBF x)).toList.Perm ((zs++[(zBF x,ns)]).map ent):=by
   have:=zES es (t.put j).2 (hsh ns,zBF x)
   rw[zEG]at this;rw[zAk];exact this.trans (hp.append_right _)
  have eP:lN (t.put j).1.mask (tlS (t.put j).1 (zAy es (t.put j).2 (hsh ns,zBF x))):=by
   rw[p3];exact(P.cons (x:=(hsh ns,j)) j3).perm (aMm T p2)
  rw[PP.pla];simp only[if_true];refine zAB (wO (ns:=ns) ⟨o,xs,k,xo,xc,xd,xi⟩ ?_);simp only[if_true];refine zAB (aBE ho (by rw[hes];lia) λ e1=>?_);simp only[zDC,zDP];cases hf:(t.put j).1.tooFull with
  |true=>
   simp only[if_true];have h5:=PP.full (by lia) hf;refine zAB (aCW (s:={s with heap:=_,toks:=_}) e1 PP hes h5 λ h' es' t' b1 b2 b3 b4 b5 b6=>?_);have hsz:es'.size=es.size+1:=by rw[<-zAU,b5.length_eq,zAU,hes]
   exact zAF (q _ h' _ es' t' ((zBR s.heap a _).trans b1) (zGA _ _) (by rw[ed];exact⟨b2,by rw[hsz];exact b3,b6,b4.trans (p4.trans hl),b5.trans pV,hnd'⟩))
  |false=>
   simp only[zA0,if_false];exact zAF (q _ _ _ _ _ (zBR ..) (zGA _ _) (by rw[ed];exact⟨⟨_,e1⟩,by rw[hes];exact PP.still hf,eP,p4.trans hl,pV,hnd'⟩))
end
def ddV(l:List (α×List Int)):List (α×List Int):=l.foldl eV []
theorem aBs:∀(l:List (α×List Int)) (acc:List (α×List Int)),acc.length<=(l.foldl eV acc).length/\(∀p∈acc,p∈l.foldl eV acc)/\∀p∈l.foldl eV acc,p∈acc\/p∈l
 |[],acc=>⟨zAQ _,λ _ h=>h,λ _ h=>.inl h⟩
 |x::l,acc=>by
  obtain⟨a,b,c⟩:=aBs l (eV acc x);have h:eV acc x=acc\/eV acc x=acc++[x]:=by unfold eV;split<;>simp
  refine⟨zAl ?_ a,λ p hp=>b p ?_,λ p hp=>?_⟩
  .rcases h with e|e<;>rw[e]<;>simp
  .rcases h with e|e<;>rw[e]<;>simp[hp]
  .rcases c p hp with z|z
   .rcases h with e|e<;>rw[e]at z
    .exact .inl z
    .rcases zAd.mp z with z|z
     .exact .inl z
     .exact .inr (by rw[zAV.mp z];exact zAE)
   .exact .inr (zAH _ z)
def wy(h:p∈ddV l):p∈l:=by
 rcases(aBs l []).2.2 p h with z|z
 .simp at z
 .exact z
def aJf(l:List (α×List Int))(x:α×List Int):ddV (l++[x])=eV (ddV l) x:=by unfold ddV;rw[zEQ];rfl
def aJe(l:List (α×List Int))(i:Nat):(ddV (l.take i)).length<=(ddV l).length:=by
 conv=>rhs;rw[<-zEl i l]
 unfold ddV;rw[zEQ];exact(aBs _ _).1
def aHK(f:α->β)(zs:List (α×List Int))(p:α×List Int):eV (zs.map λ q=>(f q.1,q.2)) (f p.1,p.2)=(eV zs p).map λ q=>(f q.1,q.2):=by
 have e:(zs.map λ q=>(f q.1,q.2)).map (·.2)=zs.map (·.2):=by rw[zAz];rfl
 unfold eV;rw[e];dsimp only;split
 .rfl
 .rw[zAk];rfl
def aLp(f:α->β)(l:List (α×List Int)):ddV (l.map λ q=>(f q.1,q.2))=(ddV l).map λ q=>(f q.1,q.2):=by
 have go:∀(l:List (α×List Int)) acc,(l.map λ q=>(f q.1,q.2)).foldl eV (acc.map λ q=>(f q.1,q.2))=(l.foldl eV acc).map λ q=>(f q.1,q.2):=by
  intro l;induction l with
  |nil=>intro acc;rfl
  |cons x l ih=>intro acc;rw[zAS,zBH,zBH,aHK];exact ih _
 exact go l []
def ddT(l:gV):gV:=l.foldl (λ acc x=>if x∈acc then acc else acc++[x]) []
def aLo(l:List (α×List Int)):(ddV l).map (·.2)=ddT (l.map (·.2)):=by
 have go:∀(l:List (α×List Int)) (acc:List (α×List Int)),(l.foldl eV acc).map (·.2)=(l.map (·.2)).foldl (λ acc x=>if x∈acc then acc else acc++[x]) (acc.map (·.2)):=by
  intro l;induction l with
  |nil=>intro acc;rfl
  |cons x l ih=>
   intro acc;rw[zBH,zAS,zBH,ih];congr 1;unfold eV;split
   .rfl
   .rw[zAk];rfl
 exact go l []
def bu.tup{i:Nat}(t:bu h vs nss)(hv:vs[i]? =some v):∃x ns,v= .ref x/\nss[i]? =some ns/\TupAt h x ns:=by
 have hi:i<vs.length:=(zAN.mp hv).1;obtain⟨x,o,xs,k,e1,e2,e3,e4,e5,_⟩:=t.at hi;have hi2:i<nss.length:=by rw[<-t.len];exact hi
 refine⟨x,nss.getD i [],?_,by simp[hi2],⟨o,xs,k,e2,e3,e4,e5⟩⟩;rw[<-e1];simp[hv]
section
variable{prog:zA2}{w:World}{A:zAc}{R:zFL->zAG->Prop}{I:Addr}{fp wr:List Addr}{G:Array zFO->Array zFO->Prop}{n:Nat}{St:Nat->zAG->Prop}{vs:List Value}{nss:gV}
def aGY(W:WalksS prog w A.in1 I fp wr G n (λ i v=>vs.toArray[i]? =some v) St)(S:Addr)(hSf:S∉fp)(hn:n=vs.length)(hu:A.in1.units<cLine)(h64:(ddV (vs.zip nss)).length<=76)(cK:∀a∈nss,∀b∈nss,hsh a=hsh b->a=b)(hin:∀x,.ref x∈vs->x∉wr)(led:Bool):
  ∀(k i:Nat) (s:zAG) (es:hV) (t:zC1),n-i=k->i<=n->St i s->bu s.heap vs nss->wU s.heap S led (ddV ((vs.zip nss).take i)) es t->
   (∀s' es' t',Moved (S::wr) G s s'->wU s'.heap S led (ddV (vs.zip nss)) es' t'->R (.ok (.ret .none)) s')->
   zCW (model prog w) A (.builtin "set.update.loop" ⟨[.ref S,.ref I],[]⟩) R s:=by
 have hSw:S∉wr:=λ h=>hSf (W.sub _ h)
 have hsb:∀b∈wr,b∈S::wr:=λ b hb=>zAH _ hb
 intro k;induction k with
 |zero=>
  intro i s es t hk hi hst ht hS hR;have hin':i=n:=by lia
  subst hin';refine zBi zCD ?_;rw[zB4 zBN _];show wpAny _ A.in1 (zDy (.ref I)>>=_) _ _ s;refine zAB (W.done s _ _ hst λ s' hm=>zAF (hR s' es t (hm.mono hsb) ?_))
  have:(vs.zip nss).length<=i:=by rw[zDn,hn];exact Nat.min_le_left _ _
  rw[zDX this]at hS
  exact{hS with at_:=hS.at_.keep λ o e=>hm.heap S _ hSw e}
 |succ k ih=>
  intro i s es t hk hi hst ht hS hR;have hlt:i<n:=by lia
  refine zBi zCD ?_;rw[zB4 zBN _];show wpAny _ A.in1 (zDy (.ref I)>>=_) _ _ s;refine zAB (W.item i s _ _ hlt hst λ v s' hP' hst' hm=>?_);have hP:vs[i]? =some v:=by simpa using hP'
  obtain⟨x,ns,rfl,hns,hx⟩:=ht.tup hP;have ht':bu s'.heap vs nss:=by
   have go:∀{us:List Value} {ms:gV},(∀y,.ref y∈us->y∉wr)->bu s.heap us ms->bu s'.heap us ms:=by
    intro us ms hy z;induction z with
    |nil=>exact .nil
    |cons ho hc hd hi hne r ih2=>exact .cons (hm.heap _ _ (hy _ zAE) ho) hc hd hi hne (ih2 λ y m=>hy y (zAH _ m))
   exact go hin ht
  have hS':wU s'.heap S led (ddV ((vs.zip nss).take i)) es t:={hS with at_:=hS.at_.keep λ o e=>hm.heap S _ hSw e};have hx':TupAt s'.heap x ns:=by
   obtain⟨y,ms,e1,e2,e3⟩:=ht'.tup hP;cases e1;rw[hns]at e2;cases e2;exact e3
  have oQ:aMc s'.heap (ddV ((vs.zip nss).take i)):=λ p hp=>by
   have hp2:=zDe (wy hp);obtain⟨j,hj⟩:=zEk.mp hp2;obtain⟨z1,z2⟩:=zC4.mp hj;obtain⟨y,ms,e1,e2,e3⟩:=ht'.tup z1;rw[z2]at e2;cases e2;exact⟨y,e1,e3⟩
  have eI:ddV ((vs.zip nss).take (i+1))=eV (ddV ((vs.zip nss).take i)) (.ref x,ns):=by
   rw[zFa,(zC4 (z:=(zBF x,ns))).mpr ⟨hP,hns⟩];exact aJf _ _
  have hmn:ns∈nss:=zBf hns;show wpAny _ A.in1 (zCn [zBF x] (zJH S (.ref x))>>=_) _ _ s';refine zAB (zBI (aDt hu hS' oQ hx' (λ p hp z=>cK _ (zCG (zDe (wy hp))).2 _ hmn z) (by rw[<-eI];exact zAl (aJe _ _) h64) λ b h' tk es' t' c1 c2 c3=>?_));rw[<-eI]at c3;have kp:∀b o,b≠S->s'.heap.get? b=some o->h'.get? b=some o:=λ b o hb e=>by rw[c1.2 b hb];exact e
  have ht2:bu h' vs nss:=ht'.mono λ y o e c=>kp y o (λ z=>by
   subst z;obtain⟨ep,q⟩:=hS'.at_;rw[q]at e;cases e;exact absurd c (show¬(zCZ "set"=zCZ "tuple")by decide)) e
  refine zAF ⟨zDG zBN _,ih (i+1) _ es' t' (by lia) hlt (W.frame _ s' _ _ hst' c2 λ b hb o e=>kp b o (λ z=>hSf (z▸hb)) e) ht2 c3 λ s'' es'' t'' hm'' hS''=>?_⟩;exact hR s'' es'' t'' (zJV W.gtrans ((hm.mono hsb).then_heap c2 λ b o hb e=>kp b o (λ z=>hb (z▸zAE)) e) hm'') hS''
end
end VL
namespace PySem
section
variable{prog:zA2}{w:World}{A:zAc}{E:Value->zAG->Prop}{s:zAG}
def aHk(a:Value)(h:Q₁ (.ref s.heap.objs.size) {s with heap:=s.heap.push (VL.bz #[] 0 (.fresh 0 0 (!w.params.followText "set-order")))}):
  zCW (model prog w) A (.call (.builtin "set.__new__") ⟨[.type "set",a],[]⟩) (wants Q₁ E) s:=by
 refine codeAny_of_tree ?_;show wpAny _ A.in1 (zGt "set.__new__" ⟨[.type "set",a],[]⟩>>=λ _=>again (.builtin "set.__new__" ⟨[.type "set",a],[]⟩)) _ _ s;refine zAB (zFp (F.newCall_set_1 a) (zAF ⟨zDG zGn _,zBi PySem.F.entry_set_new ?_⟩));rw[zB4 zGn _];unfold zDq.«set.__new__» zI0;have bE:=sub_set_self;obtain⟨hp,g,d,tk,os⟩:=s;dsimp only;wp_walk;refine zDt (zAF ?_);dsimp only;simp only[newObj];exact zAB (wpAny_alloc (zAF (zAF h)))
set_option maxHeartbeats 3200000 in
def wI{l:Addr}{T:String}{oI:Obj}{Φ:Heap->Prop}{Q:Value->zAG->Prop}(hty:s.TypeIs (.ref l) T)(hsls:zIg (.type T) (.type "set")=pure false)(hslf:zIg (.type T) (.type "frozenset")=pure false)(hne:(zCZ T==zCZ "dict")=false)
  (hit:∀(zD:Heap) (yB:zAc) (yA:Value->zAG->Prop) (Q₁:Value->zAG->Prop),(∀b o,s.heap.get? b=some o->zD.get? b=some o)->Q₁ (.ref zD.objs.size) {s with heap:=zD.push oI}->wpAny (model prog w) yB (zHJ (.ref l)) Q₁ yA {s with heap:=zD})
  (hrun:∀R:zFL->zAG->Prop,(∀h' tk,Φ h'->(∀b o,s.heap.get? b=some o->h'.get? b=some o)->R (.ok (.ret .none)) {s with heap:=h',toks:=tk})->
   zCW (model prog w) A.in1.in1 (.builtin "set.update.loop" ⟨[.ref s.heap.objs.size,.ref (s.heap.push (VL.bz #[] 0 (.fresh 0 0 (!w.params.followText "set-order")))).objs.size],[]⟩) R {s with heap:=(s.heap.push (VL.bz #[] 0 (.fresh 0 0 (!w.params.followText "set-order")))).push oI})
  (h:∀h' tk,Φ h'->(∀b o,s.heap.get? b=some o->h'.get? b=some o)->Q (.ref s.heap.objs.size) {s with heap:=h',toks:=tk}):
  wpAny (model prog w) A (call (.type "set") [.ref l]) Q E s:=by
 obtain⟨c,tl,hmro⟩:=zDQ.mro;have hmade:=zDQ.made;have bE:=zDQ.sub
 refine zHo (codeAny_of_tree ?_);show wpAny _ _ (callAny (.type "set") _) _ _ _;refine zAF ⟨zHq _ (by decide+kernel),zBi PySem.F.entry_type_call ?_⟩;rw[Around.under_plain (weight_type_call_type "set" [.ref l] []) rfl];have h1:=zDQ.notType;have h2:=zDQ.canCreate
 have hct:=F.typeCall_set_1 (.ref l);repeat (any_goals (first|assumption|wp_step))
 generalize hled:(!w.params.followText "set-order")=led at hrun;refine zDW (aHk (.ref l) (E:=E) (Q₁:=λ obj zI=>obj= .ref s.heap.objs.size/\zI={s with heap:=s.heap.push (VL.bz #[] 0 (.fresh 0 0 led))}) ⟨rfl,by rw[hled]⟩) λ r zI hr=>?_
 cases r with
 |error e=>exact hr
 |ok fl=>
  cases fl with
  |ret obj=>
   obtain⟨rfl,rfl⟩:=hr;have hS:(s.heap.push (VL.bz #[] 0 (.fresh 0 0 led))).get? s.heap.objs.size=some (VL.bz #[] 0 (.fresh 0 0 led)):=zAL _ rfl;have hT:Shared.TypeIs {s with heap:=s.heap.push (VL.bz #[] 0 (.fresh 0 0 led))} (.ref s.heap.objs.size) "set":=⟨_,hS,rfl⟩;have hli:=zDQ.init.lookup;have hbi:=zDQ.init.bind (.ref s.heap.objs.size)
   repeat (any_goals (first|assumption|wp_step))
   refine zDW (zF2 (R:=wants (λ r z4=>r= .none/\∃h' tk,z4={s with heap:=h',toks:=tk}/\Φ h'/\(∀b o,s.heap.get? b=some o->h'.get? b=some o)) E) zDQ.init.plain F.entry_set_init (check_set_init_1 hT ?_)) λ r₂ z4 hr₂=>?_
   .obtain⟨ol,hol,hcl⟩:=hty
    obtain⟨ocls,odict,odata,oslots⟩:=ol;simp only at hcl;subst hcl;have hol':(s.heap.push (VL.bz #[] 0 (.fresh 0 0 led))).get? l=some {cls:=.type T,dict:=odict,data:=odata,slots:=oslots}:=zAC _ hol;unfold zDq.«set.__init__» noKeywords zI3;generalize hPI:zHJ=PI;wp_walk;subst hPI;refine hit _ _ _ _ (λ b o e=>zAC _ e) (zAB (wpAny_runValue (hrun _ λ h' tk g1 g2=>?_)));show wpAny _ _ _ _ _ _;refine zAF ?_;show wpAny _ _ (ret zBb) _ _ _;exact zAF ⟨rfl,h',tk,rfl,g1,g2⟩
   .cases r₂ with
    |error e=>exact hr₂
    |ok fl₂=>
     cases fl₂ with
     |ret r=>
      obtain⟨rfl,h',tk,rfl,g1,g2⟩:=hr₂
      repeat (any_goals (first|assumption|wp_step))
      exact h _ _ g1 g2
     |_=>exact hr₂.elim
  |_=>exact hr.elim
def aAp{l:Addr}{T:String}{oI:Obj}{vs:List Value}{nss:gV}{St:Addr->Nat->Heap->Prop}{Q:Value->zAG->Prop}(hh:A.handled=none)(hu:A.units+8<cLine)(hty:s.TypeIs (.ref l) T)(hsls:zIg (.type T) (.type "set")=pure false)(hslf:zIg (.type T) (.type "frozenset")=pure false)(hne:(zCZ T==zCZ "dict")=false)
  (hit:∀(zD:Heap) (yB:zAc) (yA:Value->zAG->Prop) (Q₁:Value->zAG->Prop),(∀b o,s.heap.get? b=some o->zD.get? b=some o)->Q₁ (.ref zD.objs.size) {s with heap:=zD.push oI}->wpAny (model prog w) yB (zHJ (.ref l)) Q₁ yA {s with heap:=zD})
  (hW:∀(A':zAc) I,l≠I->A'.handled=none->Walks prog w A' I [I,l] [I] vs.toArray.size (λ i v=>vs.toArray[i]? =some v) (St I))(h0:∀zD:Heap,(∀b o,s.heap.get? b=some o->zD.get? b=some o)->St zD.objs.size 0 (zD.push oI))
  (ht:VL.bu s.heap vs nss)(h64:(VL.ddV (vs.zip nss)).length<=76)(hin:∀a∈nss,∀b∈nss,VL.hsh a=VL.hsh b->a=b)
  (h:∀h' tk es t,VL.wU h' s.heap.objs.size (!w.params.followText "set-order") (VL.ddV (vs.zip nss)) es t->(∀b o,s.heap.get? b=some o->h'.get? b=some o)->Q (.ref s.heap.objs.size) {s with heap:=h',toks:=tk}):
  wpAny (model prog w) A (call (.type "set") [.ref l]) Q E s:=by
 obtain⟨ol,hol,hcl⟩:=hty;have hlS:l<s.heap.objs.size:=zAT hol;refine wI (T:=T) (Φ:=λ h'=>∃es t,VL.wU h' s.heap.objs.size (!w.params.followText "set-order") (VL.ddV (vs.zip nss)) es t) ⟨ol,hol,hcl⟩ hsls hslf hne hit (λ R hR=>?_) λ h' tk ⟨es,t,g1⟩ g5=>h h' tk es t g1 g5
 generalize (!w.params.followText "set-order")=led at hR ⊢;have hS:(s.heap.push (VL.bz #[] 0 (.fresh 0 0 led))).get? s.heap.objs.size=some (VL.bz #[] 0 (.fresh 0 0 led)):=zAL _ rfl;have hh3:A.in1.in1.in1.handled=none:=by simp[hh]
 have eW:l≠(s.heap.push (VL.bz #[] 0 (.fresh 0 0 led))).objs.size:=by rw[zBB];exact zA4 (zCR hlS)
 have hSf:s.heap.objs.size∉[(s.heap.push (VL.bz #[] 0 (.fresh 0 0 led))).objs.size,l]:=by
  rw[zBB];simp only[zAJ,zAg,or_false,not_or];exact⟨zA4 (zBs _),zC3 hlS⟩
 have hvt:∀{us:List Value} {ms:gV},VL.bu s.heap us ms->∀x,.ref x∈us->x<s.heap.objs.size:=by
  intro us ms z;induction z with
  |nil=>intro x hx;simp at hx
  |cons ho _ _ _ _ _ ih=>
   intro x hx;rcases zAJ.mp hx with e|hx
   .cases e;exact zAT ho
   .exact ih x hx
 refine VL.aGY ((hW _ _ eW hh3).toS) s.heap.objs.size hSf (by simp) (by simp;omega) h64 hin (λ x hx=>?_) led (vs.toArray.size-0) 0 _ #[] (.fresh 0 0 led) (by simp) (zAj _)
  (h0 _ λ b o e=>zAC _ e) (ht.mono λ x o e _=>zAC _ (zAC _ e)) ⟨⟨0,zAC _ hS⟩,VL.dH.fresh led,(λ e he=>by cases he),rfl,zBJ _,zD2⟩ ?hR
 case hR=>
  intro s' es t hm hS';obtain⟨h',g',d',tk',os'⟩:=s';have eg:g'=s.gens:=hm.gens;have ed:d'=s.drawn:=hm.drawn;have eo:os'=s.os:=hm.os;subst eg;subst ed;subst eo;refine hR h' tk' ⟨es,t,hS'⟩ λ b o e=>hm.heap b o ?_ (zAC _ (zAC _ e))
  have hb:=zAT e;simp only[zAJ,zAg,or_false,not_or];rw[zBB];exact⟨zA4 hb,zA4 (zCR hb)⟩
 have:=hvt ht x hx
 simp only[zAJ,zAg,or_false];rw[zBB];exact zA4 (zCR this)
def aHQ(hh:A.handled=none)(hu:A.units+8<cLine)(hl:s.heap.IsList l vs.toArray)(ht:VL.bu s.heap vs nss)(h64:(VL.ddV (vs.zip nss)).length<=76)(hin:∀a∈nss,∀b∈nss,VL.hsh a=VL.hsh b->a=b)
  (h:∀h' tk es t,VL.wU h' s.heap.objs.size (!w.params.followText "set-order") (VL.ddV (vs.zip nss)) es t->(∀b o,s.heap.get? b=some o->h'.get? b=some o)->Q (.ref s.heap.objs.size) {s with heap:=h',toks:=tk}):
  wpAny (model prog w) A (call (.type "set") [.ref l]) Q E s:=by
 obtain⟨ol,hol,hcl,nl,hdl⟩:=hl;exact aAp hh hu (T:="list") ⟨ol,hol,hcl⟩ F.sub_list_set zIK (by decide) (λ zD yB yA Q₁ k q=>zDg (s:={s with heap:=zD}) (items:=vs.toArray) ⟨ol,k _ _ hol,hcl,nl,hdl⟩ q) (λ A' I ne e=>zGj e I l ne vs.toArray)
  (λ zD k=>⟨⟨_,zAL _ rfl,rfl,rfl⟩,Heap.IsList.push ⟨ol,k _ _ hol,hcl,nl,hdl⟩ _⟩) ht h64 hin h
def aD4(hh:A.handled=none)(hu:A.units+8<cLine)(hl:s.heap.IsTuple l vs.toArray)(ht:VL.bu s.heap vs nss)(h64:(VL.ddV (vs.zip nss)).length<=76)(hin:∀a∈nss,∀b∈nss,VL.hsh a=VL.hsh b->a=b)
  (h:∀h' tk es t,VL.wU h' s.heap.objs.size (!w.params.followText "set-order") (VL.ddV (vs.zip nss)) es t->(∀b o,s.heap.get? b=some o->h'.get? b=some o)->Q (.ref s.heap.objs.size) {s with heap:=h',toks:=tk}):
  wpAny (model prog w) A (call (.type "set") [.ref l]) Q E s:=by
 obtain⟨ol,hol,hcl,nl,hdl⟩:=hl;exact aAp hh hu (T:="tuple") ⟨ol,hol,hcl⟩ F.sub_tuple_set F.sub_tuple_frozenset (by decide) (λ zD yB yA Q₁ k q=>zD5 (s:={s with heap:=zD}) (items:=vs.toArray) ⟨ol,k _ _ hol,hcl,nl,hdl⟩ q) (λ A' I ne e=>zJ1 e I l ne vs.toArray)
  (λ zD k=>⟨⟨_,zAL _ rfl,rfl,rfl⟩,⟨ol,zAC _ (k _ _ hol),hcl,nl,hdl⟩⟩) ht h64 hin h
end
end PySem
namespace VL
open PySem PySem.Spec PyProof.Rows L2
theorem aDN:∀{l:List α} {i:Nat} (h:i<l.length),(l[i]::l.eraseIdx i).Perm l
 |a::l,0,_=>zBJ _
 |a::l,i+1,h=>by
  have h':i<l.length:=by simpa using h
  have ih:=aDN (l:=l) (i:=i) h'
  show(l[i]::a::l.eraseIdx i).Perm (a::l)
  exact(zDl _ _ _).trans (ih.cons a)
theorem aF3(next:Nat->Nat):∀(f k:Nat) (left:List α) (out:Array α),left.length<=f->(pickOrder.go next f k left out).toList.Perm (out.toList++left)
 |0,k,left,out,h=>by
  have:left=[]:=zGy.mp (by omega)
  subst this;rw[zBC];exact zBJ _
 |f+1,k,left,out,h=>by
  unfold pickOrder.go;cases left with
  |nil=>simp
  |cons a l=>
   have hlt:next k%(a::l).length<(a::l).length:=zD3 _ (by simp)
   rw[zAI hlt];dsimp only;refine(aF3 next f (k+1) _ _ (by rw[List.length_eraseIdx];simp only[hlt,if_true];simp at h ⊢;omega)).trans ?_;rw[zEG,zB6];exact List.Perm.append_left _ (aDN hlt)
def aGb(next:Nat->Nat)(xs:Array α):(pickOrder next xs).toList.Perm xs.toList:=by
 have:=aF3 next xs.size 0 xs.toList #[] (by simp)
 unfold pickOrder;simpa using this
def pL(w:World)(d:Addr)(ep:Nat)(es:hV):hV:=if w.params.followText "set-order" then pickOrder (w.params.setOrder d ep) es else es
def jZ(w:World)(d:Addr)(ep:Nat)(es:hV):(pL w d ep es).toList.Perm es.toList:=by
 unfold pL;split
 .exact aGb _ _
 .exact zBJ _
def slotAt(w:World)(t:zC1):Nat->Nat
 |0=>0
 |i+1=>if w.params.followText "set-order" then 0 else t.place.getD i 0+1
def aFA(T:dH t n)(hf:w.params.followText "set-order"=false):∀i,i<=n->zAr t.place (slotAt w t i)=i
 |0,_=>by
  obtain⟨b1,b2,b3⟩:=uL T.ris 0;show zAr t.place 0=0;cases h:zAr t.place 0 with
  |zero=>rfl
  |succ k=>
   rw[h]at b2
   have:=b2 0 (by omega)
   omega
 |i+1,hi=>by
  unfold slotAt;rw[hf];simp only[zA0,if_false];obtain⟨b1,b2,b3⟩:=uL T.ris (t.place.getD i 0+1);have hs:=T.siz;rcases zFi (zAr t.place (t.place.getD i 0+1)) (i+1)with z|z|z
  .have:=b3 i (by omega) (by omega)
   omega
  .exact z
  .have h1:=b2 (i+1) (by omega)
   have h2:=T.ris i (i+1) (by omega) (by omega);omega
section
variable{prog:zA2}{w:World}{A:zAc}{E:Value->zAG->Prop}{s:zAG}{d:Addr}{es:hV}{ep:Nat}{t:zC1}
def xY(ho:s.heap.get? d=some (bz es ep t))(T:dH t es.size)(hled:t.led= !w.params.followText "set-order")(hi:i<=es.size)
  (h:Q (((pL w d ep es)[i]?).map λ e=>(e.2,slotAt w t (i+1))) s):wpAny (model prog w) A (setNext d (slotAt w t i) i ep) Q E s:=by
 unfold setNext;refine zAB (zBa ho rfl T.fits ?_);dsimp only;unfold zJ6;refine zAB (zAB (zDt (zAF ?_)));show wpAny _ _ (if w.params.followText "set-order"=true then _ else _) _ _ _;unfold pL at h;cases hf:w.params.followText "set-order" with
 |true=>
  rw[hf]at h;simp only[if_true]at h ⊢;simp only[bne_self_eq_false,zA0,if_false];unfold setWalk;refine zAB (zAB (zBa ho rfl T.fits ?_));dsimp only;unfold zJ6;refine zAB (zAB (zDt (zAF ?_)));show wpAny _ _ (if w.params.followText "set-order"=true then _ else _) _ _ _;rw[hf];simp only[if_true];refine zAB (zDt (zAF (zAF ?_)));have e1:slotAt w t (i+1)=slotAt w t i:=by
   unfold slotAt;cases i with
   |zero=>simp[hf]
   |succ i=>simp[hf]
  rw[e1]at h;exact h
 |false=>
  rw[hf]at h hled;simp only[zA0,if_false]at h ⊢;have hd:(!t.plain&&decide (es.size>1))=false:=by rw[T.pla];rfl
  show wpAny _ _ (if (!t.plain&&decide (es.size>1))=true then _ else _) _ _ _;rw[hd];simp only[zA0,if_false];refine zAB ?_;show wpAny _ _ (if (!t.led&& !es.isEmpty)=true then _ else _) _ _ _;rw[hled];simp only[zDC,zCK,zED,zA0,if_false];refine zAF ?_;rw[aFA T hf i hi];have hslot:slotAt w t (i+1)=t.place.getD i 0+1:=by unfold slotAt;rw[hf];rfl
  rw[hslot]at h;by_cases hlt:i<es.size
  .have h1:es[i]? =some es[i]:=zAs hlt
   have dE:i<t.place.size:=by rw[T.siz];exact hlt
   have h2:t.place[i]? =some (t.place.getD i 0):=by
    rw[zAs dE];simp[zCY,dE]
   rw[h1,h2];rw[h1]at h;exact zAF h
  .have h1:es[i]? =none:=zGw (by omega)
   rw[h1];rw[h1]at h;exact zAF h
def cN:PySem.Slot "set_iterator" "__next__" "set_iterator.__next__":=
 .of (owner:="set_iterator") (n:="__next__") (by rw[typeLookup_type,zIc];kernel_rfl) (by decide+kernel) (by decide+kernel) (by decide+kernel) (.inl (by decide+kernel)) (by rw[zHd];kernel_rfl)
def lH:PySem.Slot "set_iterator" "__iter__" "set_iterator.__iter__":=
 .of (owner:="set_iterator") (n:="__iter__") (by rw[typeLookup_type,zIc];kernel_rfl) (by decide+kernel) (by decide+kernel) (by decide+kernel) (.inl (by decide+kernel)) (by rw[zHd];kernel_rfl)
def kW:entryFor table "set_iterator.__next__"=some zDq.«set_iterator.__next__»:=entryFor_of_fast (by kernel_rfl)
def rT:entryFor table "set_iterator.__iter__"=some zDq.«dict_keyiterator.__iter__»:=entryFor_alias (id':="dict_keyiterator.__iter__") (by kernel_rfl) rfl (by decide+kernel) (by kernel_rfl)
def wQ:entryFor table "set.__iter__"=some zDq.«frozenset.__iter__»:=entryFor_alias (id':="frozenset.__iter__") (by kernel_rfl) rfl (by decide+kernel) (by kernel_rfl)
def lM(a:Value):argsOk "set_iterator.__next__" ⟨[a],[]⟩:=by unfold argsOk;kernel_rfl
def uM(a:Value):argsOk "set_iterator.__iter__" ⟨[a],[]⟩:=by unfold argsOk;kernel_rfl
end
section
variable{prog:zA2}{w:World}{A:zAc}{E:Value->zAG->Prop}{s:zAG}{d I:Addr}{es:hV}{ep:Nat}{t:zC1}{i':Nat}
abbrev aJM(d:Addr)(sl i n ep:Nat):Obj:={cls:=.type "set_iterator",data:=.fields #[.int sl 0,.int i 0,.ref d,.int n 0,.int ep 0]}
def aME(h:Heap)(I d:Addr)(sl i n ep:Nat):Prop:=h.get? I=some (aJM d sl i n ep)
def aJK{h:Heap}{sl i n ep k:Nat}(e:h.get? I=some {cls:=.type "set_iterator",data:=.fields vs}):(h.update I (zJW (·.setIfInBounds k x))).get? I=some {cls:=.type "set_iterator",data:=.fields (vs.setIfInBounds k x)}:=by
 have:=zC0 (zJW (·.setIfInBounds k x)) e (zH8 (zFZ rfl _))
 rw[this];rfl
def aDs(hI:aME s.heap I d (slotAt w t i') i' es.size ep)(ho:s.heap.get? d=some (bz es ep t))(T:dH t es.size)(hled:t.led= !w.params.followText "set-order"){v:Value}(hi:i'<es.size)(hv:((pL w d ep es)[i']?).map (·.2)=some v){Q:Option Value->zAG->Prop}
  (h:∀h',aME h' I d (slotAt w t (i'+1)) (i'+1) es.size ep->zDI I s.heap h'->Q (some v) {s with heap:=h'}):wpAny (model prog w) A (zDy (.ref I)) Q E s:=by
 have hT:s.TypeIs (.ref I) "set_iterator":=⟨_,hI,rfl⟩;unfold zDy;refine zAB (zGH (zB5 (name:=zCt "__next__") hT cN (zB9 cN hT kW ?_ (lM _))));show wpAny _ _ (fieldsOf (.ref I)>>=_) _ _ s;refine zAB (wpAny_fieldsOf hI rfl ?_);dsimp only;refine zAB ?_;unfold setEntries;refine zAB (zBa ho rfl T.fits (zAF ?_));simp only[bne_self_eq_false,zA0,if_false];refine zAB ?_;simp only[zCP];refine xY ho T hled (zBl hi) ?_;cases hq:(pL w d ep es)[i']? with
 |none=>rw[hq]at hv;cases hv
 |some e=>
  rw[hq]at hv;cases hv;dsimp only[zDM];refine zAB (zEb hI rfl (by simp) ?_);have e1:=aJK (h:=s.heap) (I:=I) (k:=0) (x:=zGk (slotAt w t (i'+1))) (sl:=0) (i:=0) (n:=0) (ep:=0) hI;refine zAB (zEb e1 rfl (by simp) ?_);have e2:=aJK (k:=1) (x:=zGk (i'+1)) (sl:=0) (i:=0) (n:=0) (ep:=0) e1;exact zAF ⟨_,rfl,zAF (h _ e2 ((zBR ..).trans (zBR ..)))⟩
def aGX(hh:A.handled=none)(hI:aME s.heap I d (slotAt w t es.size) es.size es.size ep)(ho:s.heap.get? d=some (bz es ep t))(T:dH t es.size)(hled:t.led= !w.params.followText "set-order")
  (h:∀h',zGL I s.heap h'->Q none {s with heap:=h'}):wpAny (model prog w) A (zDy (.ref I)) Q E s:=by
 have hT:s.TypeIs (.ref I) "set_iterator":=⟨_,hI,rfl⟩;unfold zDy;refine zAB (zGH (zB5 (name:=zCt "__next__") hT cN (zB9 cN hT kW ?_ (lM _))));show wpAny _ _ (fieldsOf (.ref I)>>=_) _ _ s;refine zAB (wpAny_fieldsOf hI rfl ?_);dsimp only;refine zAB ?_;unfold setEntries;refine zAB (zBa ho rfl T.fits (zAF ?_));simp only[bne_self_eq_false,zA0,if_false];refine zAB ?_;simp only[zCP];refine xY ho T hled (zAQ _) ?_;have hq:(pL w d ep es)[es.size]? =none:=zGw (by
  have:=(jZ w d ep es).length_eq
  rw[zAU,zAU]at this;lia)
 rw[hq];dsimp only[zIP];refine zAB (zEb hI rfl (by simp) ?_);show wpAny _ _ (newExc (.type "StopIteration") []>>=_) _ _ _;refine zAB ?_;simp only[newExc,newTuple];refine zAB (zAv (zAB (m:=zFc _ _) (zFp (a:=zBb) (by first|rfl|(simp only[zFc];rfl)) (zAv ?_ (by size_fits)))) (by size_fits));simp only[raiseNew];refine zAB (wpAny_handled ?_);rw[show A.in1.handled=none from hh];refine zAB (zAF (wpAny_throw ?_));refine zAB (zGv (T:="StopIteration") (b:=true) ⟨_,zAL _ rfl,rfl⟩ isSubtype_stop ?_);exact zAF (h _ (((zBR ..).extBut.push _).push _))
def aGM(hh:A.handled=none)(I d:Addr)(hne:d≠I)(es:hV)(ep:Nat)(t:zC1)(T:dH t es.size)(hled:t.led= !w.params.followText "set-order"):
  Walks prog w A I [I,d] [I] es.size (λ i v=>((pL w d ep es)[i]?).map (·.2)=some v) (λ i h=>aME h I d (slotAt w t i) i es.size ep/\h.get? d=some (bz es ep t)) where
 sub:=λ b hb=>by simp at hb;simp[hb]
 frame:=λ _ _ _ st hk=>⟨hk I (by simp) _ st.1,hk d (by simp) _ st.2⟩
 item:=λ i s Q E hi st hQ=>by
  have hl:i<(pL w d ep es).size:=by
   have:=(jZ w d ep es).length_eq
   rw[zAU,zAU]at this;lia
  have hv:((pL w d ep es)[i]?).map (·.2)=some (pL w d ep es)[i].2:=by rw[zAs hl];rfl
  refine aDs st.1 st.2 T hled hi hv λ h' hI' hs'=>?_
  exact hQ _ h' s.toks hv ⟨hI',by rw[hs'.2 d hne];exact st.2⟩ λ b o hb e=>hs'.extBut b o (λ h=>hb (by simp[h])) e
 done:=λ s Q E st hQ=>aGX hh st.1 st.2 T hled λ h' he'=>hQ h' s.toks λ b o hb e=>he' b o (λ h=>hb (by simp[h])) e
 self:=λ i s Q E st hQ=>by
  have hT:s.TypeIs (.ref I) "set_iterator":=⟨_,st.1,rfl⟩;refine zJ9 hT lH (zB9 lH hT rT ?_ (uM _));show wpAny _ _ (ret (.ref I)) _ _ s;exact zAF ⟨_,rfl,"set_iterator",_,hT,cN.lookup,hQ⟩
def aEM(ho:s.heap.get? d=some (bz es ep t))(T:dH t es.size)(h:Q (.ref s.heap.objs.size) {s with heap:=s.heap.push (aJM d 0 0 es.size ep)}):wpAny (model prog w) A (zHJ (.ref d)) Q E s:=by
 have hT:s.TypeIs (.ref d) "set":=⟨_,ho,rfl⟩;refine zJ9 hT zGo (zB9 zGo hT wQ ?_ (PySem.F.args_set_iter_1 _));unfold zDq.«frozenset.__iter__» zI2 slotArgs;simp only[List.isEmpty_nil,zCK,zA0,↓reduceIte,bind_assoc,zC6,bne_self_eq_false];unfold zIZ zI1;refine zAB (zAF (zAB (zAF (zAB (zAB (wpAny_setEntries_of ho rfl T.fits (zAF ?_)))))));unfold setDrawn;refine zAB (zAB (zBa ho rfl T.fits ?_));dsimp only;unfold zJ6;refine zAB (zAB (zDt (zAF (zAF ?_))));have hd:(!w.params.followText "set-order"&&(!t.plain&&decide (es.size>1)))=false:=by rw[T.pla];simp
 show wpAny _ _ (if (!w.params.followText "set-order"&&(!t.plain&&decide (es.size>1)))=true then _ else _) _ _ _;rw[hd];simp only[zA0,if_false];refine zAB (zAF (zAB (wpAny_setEpoch_of ho rfl T.fits ?_)));simp only[newFields];refine zAB (zAv (zAF ⟨_,rfl,"set_iterator",_,⟨_,zAL _ rfl,rfl⟩,cN.lookup,?_⟩));exact h
def aJU(hT:s.TypeIs (.ref r) "set")(h:Q false s):wpAny (model prog w) A (zFC (.ref r)) Q E s:=by
 unfold zFC;refine zAB (wpAny_specialOf hT PySem.F.slot_set_len.lookup ?_);generalize hid:("set.__len__":String)=id0;wp_delta;rw[show splitId id0=some ("set","__len__")from by subst hid;decide+kernel];subst hid;refine zAB (zGv (T:="set") (b:=true) hT (by rw[zHd];kernel_rfl) ?_);refine wpAny_ite_split (λ hab=>absurd hab (by decide)) λ _=>wpAny_ite_split (λ _=>?_) λ hab=>absurd (by decide+kernel) hab
 exact zAB (zE4 hT (zAF h))
def aFM(T:dH t es.size)(hled:t.led= !w.params.followText "set-order"):zIS prog w "set" d d es.size (λ i v=>((pL w d ep es)[i]?).map (·.2)=some v) (λ h=>h.get? d=some (bz es ep t)) where
 type:=λ _ hm=>⟨_,hm,rfl⟩
 there:=λ _ hm=>⟨zAT hm,zAT hm⟩
 keep:=λ _ _ hm hk=>hk d (.inl rfl) _ hm
 notList:=by decide
 notTuple:=by decide
 hint:=λ _ _ _ _ hm hq=>aJU ⟨_,hm,rfl⟩ hq
 iter:=λ A s hh hm=>⟨aJM d 0 0 es.size ep,_,(λ _ _ hq=>aEM hm T hq),aGM hh _ d (zA4 (zAT hm)) es ep t T hled,⟨zAL _ rfl,zAC _ hm⟩⟩
end
section
variable{prog:zA2}{w:World}{A:zAc}{E:Value->zAG->Prop}{s:zAG}{T:String}{r d:Addr}{n:Nat}{P:Nat->Value->Prop}{OK:Heap->Prop}
def wH(K:zIS prog w T r d n P OK)(hh:A.handled=none)(hok:OK s.heap)(hn:n<=zAX)
  (h:∀h' tk vs,s.heap.objs.size<h'.objs.size->(∀b o,s.heap.get? b=some o->h'.get? b=some o)->vs.length=n->(∀(j:Nat) v,vs[j]? =some v->P j v)->Q vs {s with heap:=h',toks:=tk}):wpAny (model prog w) A (collect (.ref r)) Q E s:=by
 have hlt:=K.there _ hok;unfold collect;refine zAB (wpAny_runValue (zBi PySem.F.entry_proto_collect ?_));rw[zB4 PySem.F.plain_proto_collect _];show wpAny _ A.in1 (zG2 []>>=λ l=>again (.builtin "list.__iadd__" ⟨[l,.ref r],[]⟩)) _ _ s;refine zAB (zAv (zAF ⟨zDG zGV _,zBi PySem.F.entry_list_iadd ?_⟩));rw[zB4 zGV _];show wpAny _ A.in1 (Builtin.List.listExtendWith (.ref s.heap.objs.size) (.ref r) (.ref s.heap.objs.size)) _ _ _;have fin:∀h' tk acc' c',(∀b o,b≠s.heap.objs.size->(s.heap.push (zCS "list" #[] 0)).get? b=some o->h'.get? b=some o)->h'.get? s.heap.objs.size=some {cls:=.type "list",dict:=none,data:=.seq acc' c',slots:=#[]}->ItemsOf P acc' n->
   wpAny (model prog w) A (do match (zBF s.heap.objs.size)with
    | .ref a=>match (<-load a).data with
     | .seq xs _=>pure xs.toList
     |_=>unsupported "internal:collect"
    |_=>unsupported "internal:collect") Q E {s with heap:=h',toks:=tk}:=λ h' tk acc' c' hk hS' aE=>
  zAB (wpAny_load hS' (zAF (h h' tk acc'.toList (zAT hS') (λ b o e=>hk b o (zA4 (zAT e)) (zAC _ e)) (by rw[zAU];exact aE.1) λ j v e=>aE.2 j v (by rw[<-zAf];exact e))))
 refine zBX (PySem.W.kdl_extend (A:=A) (s:={s with heap:=s.heap.push (zCS "list" #[] 0)}) (R:=λ r s'=>∃h' tk acc' c',r= .ok (.ret (.ref s.heap.objs.size))/\s'={s with heap:=h',toks:=tk}/\(∀b o,b≠s.heap.objs.size->(s.heap.push (zCS "list" #[] 0)).get? b=some o->h'.get? b=some o)/\h'.get? s.heap.objs.size=some {cls:=.type "list",dict:=none,data:=.seq acc' c',slots:=#[]}/\ItemsOf P acc' n)
  K hh (K.keep _ _ hok λ b _ o e=>zAC _ e) s.heap.objs.size (zC3 hlt.1) (zC3 hlt.2) (.ref s.heap.objs.size) 0 (zAL _ rfl) (λ h' tk acc' c' hk hS' aE=>⟨h',tk,acc',c',rfl,rfl,hk,hS',aE⟩) hn) (λ f s' hf=>?_) λ e s' he=>?_
 .cases f with
  |done f=>
   obtain⟨h',tk,acc',c',q1,q2,q3,q4,q5⟩:=hf;cases q1;subst q2;exact fin h' tk acc' c' q3 q4 q5
  |again c=>
   refine⟨hf.1,zDW hf.2 λ r s' hr=>?_⟩;obtain⟨h',tk,acc',c',q1,q2,q3,q4,q5⟩:=hr;subst q1 q2;exact fin h' tk acc' c' q3 q4 q5
 .obtain⟨h',tk,acc',c',q1,_⟩:=he
  cases q1
end
def aMC(h:Heap)(p:Value×List Int):Prop:=∃x o xs k,p.1= .ref x/\h.get? x=some o/\o.cls= .type "tuple"/\o.data= .seq xs k/\zB8 xs.toList p.2/\p.2≠[]
theorem bu.all:∀{vs:List Value} {nss:gV},bu h vs nss->∀p∈vs.zip nss,aMC h p
 |_,_,.nil,p,hp=>by simp at hp
 |_,_,.cons ho hc hd hi hne r,p,hp=>by
  rw[zBL]at hp;rcases zAJ.mp hp with e|hp
  .subst e;exact⟨_,_,_,_,rfl,ho,hc,hd,hi,hne⟩
  .exact r.all p hp
theorem aFI:∀{zs:iX},(∀p∈zs,aMC h p)->bu h (zs.map (·.1)) (zs.map (·.2))
 |[],_=>.nil
 |p::zs,hz=>by
  obtain⟨x,o,xs,k,e1,e2,e3,e4,e5,e6⟩:=hz p zAE;rw[zAS,zAS,e1];exact .cons e2 e3 e4 e5 e6 (aFI λ q hq=>hz q (zAH _ hq))
def nP(h:l.Perm m'):∀{m:List α},m'=m.map f->∃m2:List α,m2.Perm m/\l=m2.map f:=by
 induction h with
 |nil=>intro m e;exact⟨m,zBJ _,e⟩
 |cons x p ih=>
  intro m e;cases m with
  |nil=>cases e
  |cons a m=>
   rw[zAS]at e;injection e with e1 e2
   obtain⟨m2,q1,q2⟩:=ih e2;exact⟨a::m2,q1.cons a,by rw[zAS,q2,e1]⟩
 |swap x y l=>
  intro m e;cases m with
  |nil=>cases e
  |cons a m=>
   cases m with
   |nil=>rw[zAS]at e;injection e with _ e2;cases e2
   |cons b m=>
    rw[zAS,zAS]at e;injection e with e1 e2
    injection e2 with e2 e3
    exact⟨b::a::m,zDl _ _ _,by rw[zAS,zAS,e1,e2,e3]⟩
 |trans p q ih1 ih2=>
  intro m e;obtain⟨m2,a1,a2⟩:=ih2 e;obtain⟨m3,b1,b2⟩:=ih1 a2;exact⟨m3,b1.trans a1,b2⟩
def oH(l:gV):Prop:=l.Pairwise λ a b=>HT.lexLt b a=false
section
variable{prog:zA2}{w:World}{A:zAc}{E:Value->zAG->Prop}{s:zAG}
def aCS{Q:Value->zAG->Prop}(hz:∀p∈zs,aMC s.heap p)(h64:zs.length<64)
  (h:∀(zs':iX) h' e,zs'.Perm zs->oH (zs'.map (·.2))->(∀b o,s.heap.get? b=some o->h'.get? b=some o)->h'.get? s.heap.objs.size=some (zCS "list" (zs'.map (·.1)).toArray e)->Q (.ref s.heap.objs.size) {s with heap:=h'}):
  wpAny (model prog w) A (zG2 (zs.map (·.1))>>=λ l=>zCn [l] (call (.builtin "list.sort") [l])>>=λ _=>ret l) (λ fin s'=>∃r,fin= .done (.ret r)/\Q r s') E s:=by
 have kK:(zs.map (·.1)).length=zs.length:=zAD _;refine zAB (zII ?_ (by rw[zCO];omega));have hoL:(s.heap.push (zCS "list" (zs.map (·.1)).toArray 0)).get? s.heap.objs.size=some (zCS "list" (zs.map (·.1)).toArray 0):=zAL _ rfl;refine zAB (zBI (zB9 slot_list_sort ⟨_,hoL,rfl⟩ entry_list_sort ?_ (args_list_sort _)));refine aE7 (s:={s with heap:=s.heap.push (zCS "list" (zs.map (·.1)).toArray 0)}) hoL (aFI λ p hp=>?_) (by omega) λ p a1 a2=>⟨_,rfl,?_⟩
 .obtain⟨x,o,xs,k,e1,e2,e3⟩:=hz p hp
  exact⟨x,o,xs,k,e1,zAC _ e2,e3⟩
 rw[kK]at a1 a2;have eM:p.toList.map (λ i=>(zs.map (·.1)).getD i zBb)=(p.toList.map λ i=>zs.getD i (zBb,[])).map (·.1):=by
  rw[zAz];refine zCT λ i hi=>?_
  show(zs.map (·.1)).getD i zBb=(zs.getD i (zBb,[])).1
  rw[zAe,zAe,zAY];cases zs[i]?<;>rfl
 have pV:(p.toList.map λ i=>zs.getD i (zBb,[])).Perm zs:=by
  have h1:p.toList.Perm (zAm zs.length):=by
   have:=Array.perm_iff_toList_perm.mp a1
   simpa using this
  refine(h1.map _).trans ?_
  have:(zAm zs.length).map (λ i=>zs.getD i (zBb,[]))=zs:=by
   refine zFq (by simp) λ i h1 h2=>?_
   rw[zFs,List.getElem_range,zAe,zAI h2];rfl
  rw[this]
 have hne:∀b o,s.heap.get? b=some o->b≠s.heap.objs.size:=λ b o e=>zA4 (zAT e)
 obtain⟨e1,he1⟩:∃e1,((s.heap.push (zCS "list" (zs.map (·.1)).toArray 0)).update s.heap.objs.size (zC7 λ _=>(#[]:Array Value))).get? s.heap.objs.size=some (zCS "list" #[] e1):=⟨_,zEK hoL λ _=>#[]⟩
 have g1:=zAC (zCS "list" #[] 0) (zAC (zCS "tuple" (zs.map (·.1)).toArray 0) he1);have g2:=zEK g1 (λ _=>qW (zs.map (·.1)) p);generalize (if ((qW (zs.map (·.1)) p).size==(#[]:Array Value).size)=true then e1 else e1+1)=c1 at g2;have eB:(zG4 (s.heap.push (zCS "list" (zs.map (·.1)).toArray 0)) s.heap.objs.size (zs.map (·.1)) (qW (zs.map (·.1)) p)).get? s.heap.objs.size=some (zCS "list" (qW (zs.map (·.1)) p) c1):=g2;have aS:qW (zs.map (·.1)) p=((p.toList.map λ i=>zs.getD i (zBb,[])).map (·.1)).toArray:=by unfold qW;rw[eM]
 have hris:oH ((p.toList.map λ i=>zs.getD i (zBb,[])).map (·.2)):=by
  unfold oH;rw[zAz];refine zEF.mpr λ i j hi hj hij=>?_
  rw[zAD,zAU,a1.sz]at hi hj;have hk:∀k (hk:k<zs.length),Kp (O:=aE8) (λ i=>(zs.map (·.2)).getD i []) p k=(zs.getD (p.getD k 0) (zBb,[])).2:=λ k hk=>by
   show(zs.map (·.2)).getD (p.getD k 0) []=_
   rw[zAe,zAe,zAY];cases zs[p.getD k 0]?<;>rfl
  have hg:∀k (hk:k<p.toList.length),p.toList[k]=p.getD k 0:=λ k hk=>by
   have:k<p.size:=by simpa using hk
   simp[zCY,this]
  have this:HT.lexLt (Kp (O:=aE8) (λ i=>(zs.map (·.2)).getD i []) p j) (Kp (O:=aE8) (λ i=>(zs.map (·.2)).getD i []) p i)=false:=a2 i j (zBl hij) hj;rw[hk i hi,hk j hj]at this;rw[zFs,zFs,hg,hg];exact this
 have eD:∀b o,s.heap.get? b=some o->(zG4 (s.heap.push (zCS "list" (zs.map (·.1)).toArray 0)) s.heap.objs.size (zs.map (·.1)) (qW (zs.map (·.1)) p)).get? b=some o:=λ b o e=>by
  unfold zG4;rw[zCb _ _ _ _ (hne b o e)];refine zAC _ (zAC _ ?_);rw[zCb _ _ _ _ (hne b o e)];exact zAC _ e
 rw[aS]at eB eD;have hq:=h (p.toList.map λ i=>zs.getD i (zBb,[])) _ c1 pV hris eD eB;rw[<-aS]at hq;exact zAF ⟨_,rfl,hq⟩
def my(h:wpAny (model prog w) A.in1 (collect v) (λ vs s'=>wpAny (model prog w) A.in1 (zG2 vs>>=λ l=>zCn [l] (call (.builtin "list.sort") [l])>>=λ _=>ret l) (λ fin s'=>∃r,fin= .done (.ret r)/\Q r s') E s') E s):
  wpAny (model prog w) A (call (.builtin "sorted") [v]) Q E s:=by
 refine Calls.call_function_entry kind_sorted plain_sorted entry_sorted (args_sorted1 _) ?_;unfold zDq.«sorted»;refine zAB (m:=checkCount "sorted" 1 1 _) (zAF (zAB ?_));exact h
end
inductive cO(K:zAA)(H:Hp):List V->List (List Int)->Prop where
 |nil:cO K H [] []
 |cons {a:Addr} {ns:List Int} {vs:List V} {nss:gV} (h:SqT K H a (ns.map V.int)) (hne:ns≠[]) (r:cO K H vs nss):cO K H (.ref a::vs) (ns::nss)
def nJ:V->Value
 | .ref a=>.ref a
 |_=>.none
def cO.vals{K:zAA}:∀{vs:List V} {nss:gV} {us:List Value},cO K H vs nss->Vals vs us->us=vs.map nJ:=by
 intro vs nss us t v;induction v generalizing nss with
 |nil=>rfl
 |cons q s ih=>
  cases t with
  |cons _ _ r=>
   cases q;rw[zAS,ih r];rfl
theorem cO.len{K:zAA}:∀{vs:List V} {nss:gV},cO K H vs nss->vs.length=nss.length
 |_,_,.nil=>rfl
 |_,_,.cons _ _ r=>by rw[zA5,zA5,r.len]
theorem cO.refs{K:zAA}:∀{vs:List V} {nss:gV},cO K H vs nss->∀v∈vs,RelV v (nJ v)
 |_,_,.nil,v,hv=>by simp at hv
 |_,_,.cons _ _ r,v,hv=>by
  rcases zAJ.mp hv with e|hv
  .subst e;exact rfl
  .exact r.refs v hv
theorem cO.up{K:zAA}(s:aV H H'):∀{vs:List V} {nss:gV},cO K H vs nss->cO K H' vs nss
 |_,_,.nil=>.nil
 |_,_,.cons h hne r=>.cons (s.sqt h) hne (r.up s)
theorem cO.at(I:Inv X kX Z H s):∀{vs:List V} {nss:gV},cO X.K H vs nss->bu s.heap (vs.map nJ) nss
 |_,_,.nil=>.nil
 |_,_,.cons h hne r=>by
  obtain⟨its,rv,⟨o,ho,hc,n,hd⟩,_⟩:=I.tuple h;exact .cons ho hc hd (by simpa using intsAre_of rv) hne (r.at I)
theorem aAJ:∀{vs:List V},(∀v∈vs,RelV v (nJ v))->Vals vs (vs.map nJ)
 |[],_=>.nil
 |v::vs,h=>.cons (h v zAE) (aAJ λ u hu=>h u (zAH _ hu))
def setφ(w:World)(a:Addr)(zs:iX):Heap->Prop:=λ h=>∃es t,wU h a (!w.params.followText "set-order") zs es t
abbrev aG5(zs:List (V×List Int)):iX:=zs.map λ q=>(nJ q.1,q.2)
def aC8(vs:List V)(nss:gV):(vs.map nJ).zip nss=aG5 (vs.zip nss):=by rw[zIN];rfl
def aLk{w:World}{H:Hp}{h:Heap}{a:Addr}{zs:iX}(S:wU h a (!w.params.followText "set-order") zs es t):cZ prog w H h a (.ext (setφ w a zs)):=
 ⟨⟨es,t,S⟩,(let⟨_,e⟩:=S.at_;⟨_,e⟩),λ h1 h2 ⟨es,t,S⟩ k=>⟨es,t,{S with at_:=S.at_.keep k}⟩⟩
section
variable{X:Cx}
def aFY(K:zAA)(w:World):List V->Hp->VK->Prop:=λ xs H Q=>∃p vs nss,xs=[.ref p]/\(SqL K H p vs\/SqT K H p vs)/\cO K H vs nss/\(ddV (vs.zip nss)).length<=76/\(∀a∈nss,∀b∈nss,hsh a=hsh b->a=b)/\∀a H',aV H H'->H' a=some (.ext (setφ w a (aG5 (ddV (vs.zip nss)))))->H a=none->Q (.ref a) H'
def aEx(hc:X.calm=true)(hu:X.A.units+64<cLine):cg X (.type "set") (aFY X.K X.w):=by
 intro kX s Z H xs us Q I r h;obtain⟨p,vs,nss,rfl,hp,ht,h64,hin,q⟩:=h;obtain⟨u,rfl,ru⟩:=vals1 r;cases ru;have ez:ddV ((vs.map nJ).zip nss)=aG5 (ddV (vs.zip nss)):=by rw[aC8];exact aLp nJ _
 have h64':(ddV ((vs.map nJ).zip nss)).length<=76:=by rw[ez,zAD];exact h64
 have hfr:H s.heap.objs.size=none:=I.hok.fresh (zAQ _);have fin:∀h' tk es t,wU h' s.heap.objs.size (!X.w.params.followText "set-order") (ddV ((vs.map nJ).zip nss)) es t->(∀b o,s.heap.get? b=some o->h'.get? b=some o)->EP X kX Z Q (.ref s.heap.objs.size) {s with heap:=h',toks:=tk}:=λ h' tk es t g1 g5=>by
  rw[ez]at g1;exact⟨.ref s.heap.objs.size,upd H s.heap.objs.size (.ext (setφ X.w s.heap.objs.size (aG5 (ddV (vs.zip nss))))),I.laid (t':=tk) g5 (zAQ _) (aLk g1),rfl,q _ _ (bD hfr _) aZ hfr⟩
 rcases hp with hp|hp
 .obtain⟨its,rv,pl,hz⟩:=I.list hp
  have e:=ht.vals rv;subst e;exact PySem.aHQ (I.ok.hd hc) (by lia) pl.isList (ht.at I) h64' hin fin
 .obtain⟨its,rv,pl,hz⟩:=I.tuple hp
  have e:=ht.vals rv;subst e;exact PySem.aD4 (I.ok.hd hc) (by lia) pl (ht.at I) h64' hin fin
def aDb(H:Hp)(vs:List V)(nss:gV)(Q:VK):Prop:=∀zs:List (V×List Int),zs.Perm (vs.zip nss)->oH (zs.map (·.2))->New H (.lst (zs.map (·.1))) Q
def xV{kX:hZ}(I:Inv X kX Z H s)(ht:cO X.K H vs nss)(h64:vs.length<64)(q:aDb H vs nss Q)
  (hs1:∃h1 tk,s1={s with heap:=h1,toks:=tk}/\s.heap.objs.size<=h1.objs.size/\∀b o,s.heap.get? b=some o->h1.get? b=some o){zs:iX}(hz:zs.Perm ((vs.map nJ).zip nss))(hus:us=zs.map (·.1)):
  wpAny (model X.prog X.w) X.A.in1 (zG2 us>>=λ l=>zCn [l] (call (.builtin "list.sort") [l])>>=λ _=>ret l) (λ fin s'=>∃r,fin= .done (.ret r)/\EP X kX Z Q r s') X.xe s1:=by
 obtain⟨h1,tk,rfl,hsz,keep⟩:=hs1;subst hus;have oQ:∀p∈zs,aMC h1 p:=λ p hp=>by
  obtain⟨x,o,xs,k,e1,e2,e3⟩:=(ht.at I).all p (hz.mem_iff.mp hp);exact⟨x,o,xs,k,e1,keep _ _ e2,e3⟩
 have kK:zs.length<64:=by
  rw[hz.length_eq,zDn,zAD,<-ht.len,zFv];exact h64
 refine aCS (s:={s with heap:=h1,toks:=tk}) oQ kK λ zs' h' e a1 a2 a3 a4=>?_
 have eM:(vs.map nJ).zip nss=(vs.zip nss).map λ p=>(nJ p.1,p.2):=by rw[zIN];rfl
 obtain⟨ws,w1,w2⟩:=nP (f:=λ p:V×List Int=>(nJ p.1,p.2)) (a1.trans hz) eM;have hfr:H h1.objs.size=none:=I.hok.fresh hsz;have eS:∀v∈ws.map (·.1),RelV v (nJ v):=λ v hv=>by
  obtain⟨p,hp,rfl⟩:=zA3.mp hv;exact ht.refs p.1 (zCG (w1.mem_iff.mp hp)).1
 have hws:zs'.map (·.1)=(ws.map (·.1)).map nJ:=by rw[w2,zAz,zAz];rfl
 have hwl:(ws.map (·.1)).length<=zAX:=by
  rw[zAD,w1.length_eq,zDn,<-ht.len,zFv,zCO];lia
 refine⟨.ref h1.objs.size,upd H h1.objs.size (.lst (ws.map (·.1))),I.laid (t':=tk) (λ b o e=>a3 b o (keep b o e)) hsz ⟨hwl,(ws.map (·.1)).map nJ,e,aAJ eS,?_⟩,rfl,(q ws w1 ?_).at hfr⟩
 .rw[<-hws];exact a4
 .have:ws.map (·.2)=zs'.map (·.2):=by rw[w2,zAz];rfl
  rw[this];exact a2
def aEJ(K:zAA):List V->Hp->VK->Prop:=λ xs H Q=>∃p vs nss,xs=[.ref p]/\SqL K H p vs/\cO K H vs nss/\vs.length<64/\aDb H vs nss Q
def aAG:cg X (.builtin "sorted") (aEJ X.K):=by
 intro kX s Z H xs us Q I r h;obtain⟨p,vs,nss,rfl,hp,ht,h64,q⟩:=h;obtain⟨u,rfl,ru⟩:=vals1 r;cases ru;obtain⟨its,rv,pl,hz⟩:=I.list hp;have e:=ht.vals rv;subst e;have hl2:(vs.map nJ).length=nss.length:=by rw[zAD];exact ht.len
 refine my (collect_list pl.isList ?_ (by rw[zAD];exact hz));refine xV I ht h64 q ⟨_,_,rfl,?_,λ b o e=>?_⟩ (zBJ _) ?_
 .rw[Heap.size_update,size_push']
  exact zCs _
 .rw[zCb _ _ _ _ (zA4 (zAT e))]
  exact zAC _ e
 .exact(List.map_fst_zip (by lia)).symm
def aDq{kX:hZ}{P:Value->zAG->Prop}(hc:X.calm=true)(I:Inv X kX Z H s){zs:iX}(ha:H a=some (.ext (setφ X.w a zs)))(h64:zs.length<4000)
  (h:∀s1 (zs':iX),(∃h1 tk,s1={s with heap:=h1,toks:=tk}/\s.heap.objs.size<=h1.objs.size/\∀b o,s.heap.get? b=some o->h1.get? b=some o)->zs'.Perm zs->wpAny (model X.prog X.w) X.A.in1 (zG2 (zs'.map (·.1))>>=λ l=>zCn [l] (call (.builtin "list.sort") [l])>>=λ _=>ret l) (λ fin s'=>∃r,fin= .done (.ret r)/\P r s') X.xe s1):
  wpAny (model X.prog X.w) X.A (call (.builtin "sorted") [.ref a]) P X.xe s:=by
 obtain⟨⟨es,t,S⟩,_,_⟩:=I.hok a _ ha;obtain⟨⟨ep,e1⟩,e2,_,e3,e4,_⟩:=S;have hsz:es.size=zs.length:=by rw[<-zAU,e4.length_eq,zAD]
 have hh:X.A.in1.handled=none:=I.ok.hd hc;refine my (wH (aFM (ep:=ep) e2 e3) hh e1 (by rw[hsz,zCO];lia) λ h1 tk vs1 k0 k1 k2 k3=>?_);obtain⟨zs',z1,z2⟩:=nP (f:=ent) ((jZ X.w a ep es).trans e4) rfl;have hvs:vs1=zs'.map (·.1):=by
  have e5:(pL X.w a ep es).toList.map (·.2)=zs'.map (·.1):=by rw[z2,zAz];rfl
  rw[<-e5];have kK:(pL X.w a ep es).toList.length=es.size:=by rw[(jZ X.w a ep es).length_eq,zAU]
  refine zFq (by rw[k2,zAD,kK]) λ i g1 g2=>?_
  have:=k3 i _ (zAI g1)
  rw[<-zAf,<-zAY,zAI g2]at this;exact(zAa this).symm
 subst hvs;exact h _ zs' ⟨h1,tk,rfl,zBl k0,k1⟩ z1
theorem aH1:∀zs:List (α×β),(zs.map (·.1)).zip (zs.map (·.2))=zs
 |[]=>rfl
 |p::zs=>by rw[zAS,zAS,zBL,aH1 zs]
def aEK(K:zAA)(w:World):List V->Hp->VK->Prop:=λ xs H Q=>∃a zs,xs=[.ref a]/\H a=some (.ext (setφ w a (aG5 zs)))/\cO K H (zs.map (·.1)) (zs.map (·.2))/\zs.length<64/\aDb H (zs.map (·.1)) (zs.map (·.2)) Q
def aAH(hc:X.calm=true):cg X (.builtin "sorted") (aEK X.K X.w):=by
 intro kX s Z H xs us Q I r h;obtain⟨a,zs,rfl,ha,ht,h64,q⟩:=h;obtain⟨u,rfl,ru⟩:=vals1 r;cases ru;exact aDq hc I ha (by rw[zAD];lia) λ s1 zs' hs1 hp=>xV I ht (by rw[zAD];exact h64) q hs1 (by rw[aC8,aH1];exact hp) rfl
end
def aHE(a:List Int):gV->List (List Int)
 |[]=>[a]
 |b::l=>if HT.lexLt b a then b::aHE a l else a::b::l
def gw:gV->List (List Int)
 |[]=>[]
 |a::l=>aHE a (gw l)
theorem vH(a:List Int):∀l,(aHE a l).Perm (a::l)
 |[]=>zBJ _
 |b::l=>by
  unfold aHE;split
  .exact((vH a l).cons b).trans (zDl _ _ _)
  .exact zBJ _
theorem iM:∀l,(gw l).Perm l
 |[]=>zBJ _
 |a::l=>(vH a _).trans ((iM l).cons a)
def aFf(h:HT.lexLt a b=true):HT.lexLt b a=false:=by
 cases e:HT.lexLt b a with
 |false=>rfl
 |true=>have:=tM a b a h e;rw[yc]at this;cases this
def aNt(h1:HT.lexLt b a=false)(h2:HT.lexLt c b=false):HT.lexLt c a=false:=by
 cases e:HT.lexLt c a with
 |false=>rfl
 |true=>
  rcases aIs c b a e with z|z
  .rw[h2]at z;cases z
  .rw[h1]at z;cases z
theorem yw(a:List Int):∀l,oH l->oH (aHE a l)
 |[],_=>zAq.mpr ⟨λ _ h=>by simp at h,.nil⟩
 |b::l,h=>by
  obtain⟨h1,h2⟩:=zAq.mp h;unfold aHE;cases e:HT.lexLt b a with
  |true=>
   rw[if_pos rfl];refine zAq.mpr ⟨λ x hx=>?_,yw a l h2⟩;rcases zAJ.mp ((vH a l).mem_iff.mp hx)with q|q
   .subst q;exact aFf e
   .exact h1 x q
  |false=>
   rw[if_neg (by simp)];refine zAq.mpr ⟨λ x hx=>?_,h⟩;rcases zAJ.mp hx with q|q
   .subst q;exact e
   .exact aNt e (h1 x q)
theorem lG:∀l,oH (gw l)
 |[]=>.nil
 |a::l=>yw a _ (lG l)
theorem ur:∀{a b:gV},a.Perm b->oH a->oH b->a=b
 |[],b,p,_,_=>p.nil_eq
 |x::a,b,p,h1,h2=>by
  cases b with
  |nil=>exact absurd p.length_eq (by simp)
  |cons y b=>
   have hxy:x=y:=by
    obtain⟨q1,_⟩:=zAq.mp h1;obtain⟨q2,_⟩:=zAq.mp h2;have m1:x∈y::b:=p.mem_iff.mp zAE;have m2:y∈x::a:=p.mem_iff.mpr zAE;rcases zAJ.mp m1 with e|m1
    .exact e
    .rcases zAJ.mp m2 with e|m2
     .exact e.symm
     .exact yZ _ _ (q2 x m1) (q1 y m2)
   subst hxy;rw[ur (List.Perm.cons_inv p) (zAq.mp h1).2 (zAq.mp h2).2]
abbrev tupI(ns:List Int):D:=.tup (ns.map .int)
def m8:List D->Option gV
 |[]=>some []
 | .tup l::r=>match intsOf l,m8 r with
  |some (n::ns),some nss=>some ((n::ns)::nss)
  |_,_=>none
 |_=>none
theorem oU:∀{l:List D} {nss:gV},m8 l=some nss->l=nss.map tupI/\∀ns∈nss,ns≠[]
 |[],nss,h=>by cases h;exact⟨rfl,λ ns h=>by simp at h⟩
 | .tup l::r,nss,h=>by
  unfold m8 at h;split at h
  .rename_i n ns nss' e1 e2
   cases h;obtain⟨q1,q2⟩:=oU e2;rw[cW e1,q1];refine⟨rfl,λ ms hm=>?_⟩;rcases zAJ.mp hm with e|hm
   .subst e;simp
   .exact q2 ms hm
  .cases h
 | .non::_,_,h=>by cases h
 | .int _::_,_,h=>by cases h
 | .bl _::_,_,h=>by cases h
 | .str _::_,_,h=>by cases h
 | .lst _::_,_,h=>by cases h
 | .dct _ _::_,_,h=>by cases h
 | .set _::_,_,h=>by cases h
 | .scr _::_,_,h=>by cases h
theorem qy:∀{nss:gV},(∀ns∈nss,ns≠[])->m8 (nss.map tupI)=some nss
 |[],_=>rfl
 |[]::nss,h=>absurd rfl (h [] zAE)
 |(n::ns)::nss,h=>by
  have ih:=qy λ ms hm=>h ms (zAH _ hm)
  rw[zAS];unfold m8;rw[ih,show intsOf (zJB D.int (n::ns))=some (n::ns)from gG _]
theorem xM{K:zAA}:∀{xs:List V} {nss:gV},Rps K A H xs (nss.map tupI)->(∀ns∈nss,ns≠[])->cO K H xs nss
 |_,[],.nil,_=>.nil
 |_,ns::nss,.cons h r,hne=>by
  cases h with
  |tup h r'=>
   have e:=r'.ints_of;subst e;exact .cons h (hne ns zAE) (xM r λ ms hm=>hne ms (zAH _ hm))
theorem aHu{K:zAA}:∀{zs:List (V×List Int)},(∀p∈zs,∃a,p.1= .ref a/\SqT K H a (p.2.map V.int))->Rps K A H (zs.map (·.1)) ((zs.map (·.2)).map tupI)
 |[],_=>.nil
 |p::zs,h=>by
  obtain⟨a,e1,e2⟩:=h p zAE;rw[zAS,zAS,zAS,e1];exact .cons (.tup e2 .ints) (aHu λ q hq=>h q (zAH _ hq))
theorem cO.all{K:zAA}:∀{vs:List V} {nss:gV},cO K H vs nss->∀p∈vs.zip nss,∃a,p.1= .ref a/\SqT K H a (p.2.map V.int)
 |_,_,.nil,p,hp=>by simp at hp
 |_,_,.cons h _ r,p,hp=>by
  rw[zBL]at hp;rcases zAJ.mp hp with e|hp
  .subst e;exact⟨_,rfl,h⟩
  .exact r.all p hp
def aCT{K:zAA}(ht:cO K H vs nss)(q:∀v H',aV H H'->Rp K (λ p=>H p=none) H' v (.lst ((gw nss).map tupI))->Q v H'):aDb H vs nss Q:=by
 intro zs hz hr p H' s hp hn;have e:zs.map (·.2)=gw nss:=ur (((hz.map (·.2)).trans (by rw[zI4 (by rw[ht.len];exact zAQ _)])).trans (iM nss).symm) hr (lG nss);refine q _ H' s (.lst hp hn ?_);rw[<-e];exact aHu λ p hp=>by
  obtain⟨a,e1,e2⟩:=ht.all p (hz.mem_iff.mp hp);exact⟨a,e1,s.sqt e2⟩
def insI(a:Int):List Int->List Int
 |[]=>[a]
 |b::l=>if b<a then b::insI a l else a::b::l
def sortI:List Int->List Int
 |[]=>[]
 |a::l=>insI a (sortI l)
theorem insI_perm(a:Int):∀l,(insI a l).Perm (a::l)
 |[]=>zBJ _
 |b::l=>by
  unfold insI;split
  .exact((insI_perm a l).cons b).trans (zDl _ _ _)
  .exact zBJ _
theorem sortI_perm:∀l,(sortI l).Perm l
 |[]=>zBJ _
 |a::l=>(insI_perm a _).trans ((sortI_perm l).cons a)
theorem aDK(a:Int):∀l:List Int,l.Pairwise (·<=·)->(insI a l).Pairwise (·<=·)
 |[],_=>zAq.mpr ⟨λ _ h=>by simp at h,.nil⟩
 |b::l,h=>by
  obtain⟨h1,h2⟩:=zAq.mp h;unfold insI;by_cases e:b<a
  .rw[if_pos e]
   refine zAq.mpr ⟨λ x hx=>?_,aDK a l h2⟩;rcases zAJ.mp ((insI_perm a l).mem_iff.mp hx)with q|q
   .lia
   .exact h1 x q
  .rw[if_neg e]
   refine zAq.mpr ⟨λ x hx=>?_,h⟩;rcases zAJ.mp hx with q|q
   .lia
   .have:=h1 x q;lia
theorem jY:∀l,(sortI l).Pairwise (·<=·)
 |[]=>.nil
 |a::l=>aDK a _ (jY l)
theorem m7:∀{us:List Value} {ns:List Int},zB8 us ns->Vals (ns.map V.int) us
 |_,_,.nil=>.nil
 |_,_,.cons n t r=>.cons ⟨t,rfl⟩ (m7 r)
section
variable{X:Cx}
def aEL(K:zAA):List V->Hp->VK->Prop:=λ xs H Q=>∃p ns,xs=[.ref p]/\SqL K H p (ns.map V.int)/\ns.length<64/\New H (.lst ((sortI ns).map V.int)) Q
def aBz:cg X (.builtin "sorted") (aEL X.K):=by
 intro kX s Z H xs us Q I r h;obtain⟨p,ns,rfl,hp,h64,q⟩:=h;obtain⟨u,rfl,ru⟩:=vals1 r;cases ru;obtain⟨its,rv,pl,hz⟩:=I.list hp;have hI:zB8 its ns:=intsAre_of rv;have kK:its.length<64:=by
  have:=rv.length
  rw[zAD]at this;lia
 refine sorted_ints pl.isList hI kK λ out ns' h1 h2 h3=>?_
 have e:ns'=sortI ns:=zF0 (h2.trans (sortI_perm ns).symm) h3 (jY ns);subst e;obtain⟨e,he⟩:=sortedAll_at s.heap its out;have hfr:H (s.heap.objs.size+1)=none:=I.hok.fresh (zCs _);refine⟨.ref (s.heap.objs.size+1),upd H (s.heap.objs.size+1) (.lst ((sortI ns).map V.int)),I.laid (t':=s.toks) (λ b o q=>sortedAll_old q) (zCs _) ?_,rfl,q.at hfr⟩;refine⟨?_,out.toList,e,m7 h1,?_⟩
 .rw[zAD,h2.length_eq]
  exact zAl (zBl h64) (by decide)
 .rw[zHO]
  exact he
end
def aMf(K:zAA)(r:List V->Hp->VK->Prop)(fd:List D->Rs D):Prop:=∀(A:Addr->Prop) xs ds H (Q:VK) z,Rps K A H xs ds->fd ds= .ok z->(∀v H',aV H H'->Rp K (λ p=>H p=none) H' v z->Q v H')->r xs H Q
def aKX{K:zAA}(hs:aMf K r fd)(h1:aMB K G m ta g):jH K G (some []) (tCB r ta) (opA fd g):=by
 intro U Z H Y lab Q R W;refine h1 U Z H Y lab _ R (W.bd.imp λ d _ w x H1 s1 r1=>?_);obtain⟨z,ez,w⟩:=w.okD;exact hs (fpM m lab H) x d H1 Q z r1 ez λ v H' s r=>w v H' (s1.trans s) (r.wk λ p o _ q=>.inl (s1.free q))
def jo:List D->Rs D
 |[.lst l]=>match m8 l with
  |some nss=>if nss.length<64 then .ok (.lst ((gw nss).map tupI))else .st
  |none=>match intsOf l with
   |some ns=>if ns.length<64 then .ok (.lst ((sortI ns).map .int))else .st
   |none=>.st
 |_=>.st
def aHM{K:zAA}:aMf K (λ xs H Q=>aEJ K xs H Q\/aEL K xs H Q) jo:=by
 intro A xs ds H Q z r ez q;unfold jo at ez;split at ez
 .cases r with
  |cons h r=>
   cases r;cases h with
   |lst h m r=>
    split at ez
    .rename_i nss e
     obtain⟨e1,e2⟩:=oU e;subst e1;split at ez
     .rename_i hl
      cases ez;have ht:=xM r e2;exact .inl ⟨_,_,nss,rfl,SqL.of h,ht,by rw[ht.len];exact hl,aCT ht q⟩
     .cases ez
    .split at ez
     .rename_i ns e
      have e1:=cW e;subst e1;split at ez
      .rename_i hl
       cases ez;have e2:=r.ints_of;subst e2;exact .inr ⟨_,ns,rfl,SqL.of h,hl,λ p H' s hp hn=>q _ H' s (.lst hp hn .ints)⟩
      .cases ez
     .cases ez
 .cases ez
section
variable{C:Ct}{pos p:Pos}{m:Mode}{a:Expr}{ga:En->Rs (List D)}
def qI(hm:C.mg "sorted"=none)(ha:SA C m [a] ga)(he:∀i,zAZ [a] (C.X i).env=[(false,eval a (C.X i).env)]:=by intro _;rfl)(hg:∀i,Gl (C.X i) "sorted":=by intro _;rfl)(hv:zAt "sorted"=some (.builtin "sorted"):=by decide+kernel):SE C (some []) (.Call (.Name "sorted" p) [a] [] pos) (opA jo ga):=by
 obtain⟨t,h1,h2⟩:=ha;refine⟨_,λ i=>mD (r:=λ xs H Q=>aEJ C.K xs H Q\/aEL C.K xs H Q) (by rw[<-C.hK i];exact aAG.or aBz) (hg i) (by rw[(C.cx i).2.2.2.1];exact hm) hv (h1 i) (by decide) (by decide) (he i) rfl,aKX aHM h2⟩
end
def aLc(nss:gV):Bool:=nss.all λ a=>nss.all λ b=>a==b||hsh a !=hsh b
def aLb(h:aLc nss=true):∀a∈nss,∀b∈nss,hsh a=hsh b->a=b:=λ a ha b hb e=>by
 have:=zA8.mp (zA8.mp h a ha) b hb
 simpa[e]using this
theorem cO.one{K:zAA}:∀{zs:List (V×List Int)},(∀p∈zs,∃a,p.1= .ref a/\SqT K H a (p.2.map V.int)/\p.2≠[])->cO K H (zs.map (·.1)) (zs.map (·.2))
 |[],_=>.nil
 |p::zs,h=>by
  obtain⟨a,e1,e2,e3⟩:=h p zAE;rw[zAS,zAS,e1];exact .cons e2 e3 (cO.one λ q hq=>h q (zAH _ hq))
theorem cO.ne{K:zAA}:∀{vs:List V} {nss:gV},cO K H vs nss->∀ns∈nss,ns≠[]
 |_,_,.nil,ns,h=>by simp at h
 |_,_,.cons _ hne r,ns,h=>by
  rcases zAJ.mp h with e|h
  .subst e;exact hne
  .exact r.ne ns h
def cO.dd{K:zAA}(t:cO K H vs nss):cO K H ((ddV (vs.zip nss)).map (·.1)) ((ddV (vs.zip nss)).map (·.2)):=cO.one λ p hp=>by
 obtain⟨a,e1,e2⟩:=t.all p (wy hp);exact⟨a,e1,e2,t.ne _ (zCG (wy hp)).2⟩
theorem cO.ddT{K:zAA}(t:cO K H vs nss):(ddV (vs.zip nss)).map (·.2)=VL.ddT nss:=by rw[aLo,zI4 (by rw[t.len];exact zAQ _)]
def jm(n:Nat)(l:List D):Rs D:=match m8 l with
 |some nss=>if (ddT nss).length<n/\aLc nss=true then .ok (.lst ((gw (ddT nss)).map tupI))else .st
 |none=>.st
def sY:List D->Rs D
 |[.lst l]=>jm 64 l
 |[.tup l]=>jm 64 l
 |_=>.st
def aK0{K:zAA}{w:World}{Q Q':VK}(hp:SqL K H p vs\/SqT K H p vs)(r:Rps K A H vs l)(ez:jm n l= .ok z)(hn:n<=77)
  (hr:∀a zs H2,aV H H2->H2 a=some (.ext (setφ w a (aG5 zs)))->cO K H2 (zs.map (·.1)) (zs.map (·.2))->zs.length<n->aDb H2 (zs.map (·.1)) (zs.map (·.2)) Q->Q' (.ref a) H2)
  (q:∀v H',aV H H'->Rp K (λ p=>H p=none) H' v z->Q v H'):aFY K w [.ref p] H Q':=by
 unfold jm at ez;split at ez
 .rename_i nss e
  obtain⟨e1,e2⟩:=oU e;subst e1;split at ez
  .rename_i hl
   cases ez;have ht:=xM r e2;have hlv:=hl.1;rw[<-ht.ddT,zAD]at hlv;refine⟨_,_,nss,rfl,hp,ht,by lia,aLb hl.2,λ a H2 s2 ha hn=>hr a _ H2 s2 ha (ht.dd.up s2) hlv ?_⟩;refine aCT (ht.dd.up s2) ?_;rw[ht.ddT];exact λ v H' s r=>q v H' (s2.trans s) (r.wk λ p o _ q=>s2.free q)
  .cases ez
 .cases ez
section
variable{C:Ct}{pos p p2 pos2:Pos}{m:Mode}{a:Expr}{ga:En->Rs (List D)}
def aBI(hm:C.mg "sorted"=none)(hm2:C.mg "set"=none)(ha:SA C m [a] ga)(he:∀i,zAZ [a] (C.X i).env=[(false,eval a (C.X i).env)]:=by intro _;rfl)(he2:∀i,zAZ [Expr.Call (.Name "set" p2) [a] [] pos2] (C.X i).env=[(false,eval (.Call (.Name "set" p2) [a] [] pos2) (C.X i).env)]:=by intro _;rfl)(hg:∀i,Gl (C.X i) "sorted":=by intro _;rfl)(hv:zAt "sorted"=some (.builtin "sorted"):=by decide+kernel)(hg2:∀i,Gl (C.X i) "set":=by intro _;rfl)(hv2:zAt "set"=some (.type "set"):=by decide+kernel):
  SE C (some []) (.Call (.Name "sorted" p) [.Call (.Name "set" p2) [a] [] pos2] [] pos) (opA sY ga):=by
 obtain⟨t,h1,h2⟩:=ha;have hw:∀i,(C.X i).w=C.w:=λ i=>(C.cx i).2.1
 refine⟨tCB (aEK C.K C.w) (jA (tCB (aFY C.K C.w) t) oK),λ i=>mD (by rw[<-C.hK i,<-hw i];exact aAH (C.calm i)) (hg i) (by rw[(C.cx i).2.2.2.1];exact hm) hv
  (ak (mC (by rw[<-C.hK i,<-hw i];exact aEx (C.calm i) (C.u64 i)) (hg2 i) (by rw[(C.cx i).2.2.2.1];exact hm2) hv2 (h1 i) (by decide) (by decide) (he i) rfl) cj (he2 i)) (by decide) (by decide) (he2 i) rfl,λ U Z H Y lab Q R W=>?_⟩
 refine h2 U Z H Y lab _ R (W.bd.imp λ ds _ w xs H1 s1 r1=>?_);obtain⟨z,ez,w⟩:=w.okD;have fin:∀{p vs l},(SqL C.K H1 p vs\/SqT C.K H1 p vs)->∀{A},Rps C.K A H1 vs l->jm 64 l= .ok z->aFY C.K C.w [.ref p] H1 λ x H2=>aEK C.K C.w [x] H2 Q:=λ hp _ r ez=>aK0 hp r ez (by decide) (λ a zs H2 _ h1 h2 h3 h4=>⟨a,zs,rfl,h1,h2,h3,h4⟩) λ v H' s r=>w v H' (s1.trans s) (r.wk λ p o _ q=>.inl (s1.free q))
 unfold sY at ez;split at ez
 .cases r1 with
  |cons h r=>
   cases r;obtain⟨a,xs,rfl,h,m,r⟩:=h.lst_inv;exact fin (.inl (SqL.of h)) r ez
 .cases r1 with
  |cons h r=>
   cases r;obtain⟨a,xs,rfl,h,r⟩:=h.tup_inv;exact fin (.inr h) r ez
 .cases ez
end
structure Mg{β:Type}(r:β->β->Prop)(T out ra rb:List β):Prop where
 pm:(out++(ra++rb)).Perm T
 so:out.Pairwise r
 lo:∀x∈out,∀y∈ra++rb,r x y
 sa:ra.Pairwise r
 sb:rb.Pairwise r
section
variable{β:Type}{r:β->β->Prop}{T:List β}
def Mf(r:β->β->Prop)(T o:List β):Prop:=o.Perm T/\o.Pairwise r
end
structure Eg(st st':zDc):Prop where
 k:zDd st'=zDd st
 a:arrOf st'=arrOf st
 p:zHI st'=zHI st
 f:zHA st'=zHA st
abbrev LS:=Option (Array Keyed)×Array Keyed×Nat×Nat×Nat×Nat×Nat
section
variable{O:zCa}{kf:Keyed->O.α}{T:List Keyed}{a b out:Array Keyed}{ia ib mg ac bc m0:Nat}{st:zDc}{Q:ForInStep LS->zDc->Prop}
abbrev rK(O:zCa)(kf:Keyed->O.α)(x y:Keyed):Prop:=O.kle (kf x) (kf y)
abbrev Ml(O:zCa)(kf:Keyed->O.α)(T:List Keyed)(a b out:Array Keyed)(ia ib:Nat):Prop:=Mg (rK O kf) T out.toList (a.toList.drop ia) (b.toList.drop ib)
structure Tu(O:zCa)(kf:Keyed->O.α)(T:List Keyed)(a b:Array Keyed)(m0:Nat)(st:zDc)(Q:ForInStep LS->zDc->Prop):Prop where
 ret:∀o out ia ib mg ac bc st',Eg st st'->Mf (rK O kf) T o.toList->Q (.done (some o,out,ia,ib,mg,ac,bc)) st'
 on:∀out ia ib mg ac bc st',Eg st st'->Ml O kf T a b out ia ib->ia+1<a.size->ib<b.size->m0<ia+ib->Q (.done (none,out,ia,ib,mg,ac,bc)) st'/\Q (.yield (none,out,ia,ib,mg,ac,bc)) st'
end
abbrev HS:=Option (Array Keyed)×Nat×Nat×Array Keyed×Nat×Nat×Nat
section
variable{O:zCa}{kf:Keyed->O.α}{T:List Keyed}{a b out:Array Keyed}{na nb mg ac bc m0:Nat}{st:zDc}{Q:ForInStep HS->zDc->Prop}
abbrev rH(O:zCa)(kf:Keyed->O.α)(x y:Keyed):Prop:=O.kle (kf y) (kf x)
abbrev Mh(O:zCa)(kf:Keyed->O.α)(T:List Keyed)(a b out:Array Keyed)(na nb:Nat):Prop:=Mg (rH O kf) T out.toList (a.toList.take na).reverse (b.toList.take nb).reverse
structure Th(O:zCa)(kf:Keyed->O.α)(T:List Keyed)(a b:Array Keyed)(m0:Nat)(st:zDc)(Q:ForInStep HS->zDc->Prop):Prop where
 ret:∀o na nb out mg ac bc st',Eg st st'->Mf (rK O kf) T o.toList->Q (.done (some o,na,nb,out,mg,ac,bc)) st'
 on:∀na nb out mg ac bc st',Eg st st'->Mh O kf T a b out na nb->0<na->1<nb->na<=a.size->nb<=b.size->na+nb<m0->Q (.done (none,na,nb,out,mg,ac,bc)) st'/\Q (.yield (none,na,nb,out,mg,ac,bc)) st'
end
structure Ea(st st':zDc):Prop where
 k:zDd st'=zDd st
 p:zHI st'=zHI st
 f:zHA st'=zHA st
section
variable{κ:zDh}{G:Keyed->Prop}{st:zDc}{P R:List Keyed}{lo:Nat}
structure Sg(κ:zDh)(G:Keyed->Prop)(st:zDc)(lo:Nat)(P R:List Keyed):Prop where
 k:zDd st=κ
 l:(arrOf st).toList=P++R
 p:P.length=lo
 g:∀x∈R,G x
end
def Pr(O:zCa)(kf:Keyed->O.α):Nat->List (List Keyed)->List (Nat×Nat×Nat)->Prop
 |_,[],[]=>True
 |o,x::segs,p::ps=>p.1=o/\p.2.1=x.length/\0<x.length/\x.Pairwise (rK O kf)/\Pr O kf (o+x.length) segs ps
 |_,_,_=>False
section
variable{κ:zDh}{O:zCa}{kf:Keyed->O.α}{st:zDc}{T R:List Keyed}{segs:List (List Keyed)}
structure Rn(κ:zDh)(O:zCa)(kf:Keyed->O.α)(T:List Keyed)(st:zDc)(segs:List (List Keyed))(R:List Keyed):Prop where
 k:zDd st=κ
 f:zHA st=none
 l:(arrOf st).toList=segs.flatten++R
 pm:(arrOf st).toList.Perm T
 pr:Pr O kf 0 segs (zHI st).toList
end
def ddI(ns:List Int):List Int:=ns.foldl zBE []
def aJh(ns:List Int)(n:Int):ddI (ns++[n])=zBE (ddI ns) n:=by unfold ddI;rw[zEQ];rfl
def aLn(hl:l.Nodup)(n:Int):(zBE l n).Nodup/\∀x,x∈zBE l n↔x∈l\/x=n:=by
 unfold zBE;by_cases h:l.any (·==n)=true
 .rw[if_pos h]
  have:n∈l:=by simpa using h
  exact⟨hl,λ x=>⟨.inl,λ q=>q.elim id λ e=>e▸this⟩⟩
 .rw[if_neg h]
  have:n∉l:=by simpa using h
  refine⟨zBS.mpr ⟨hl,by simp,λ x hx y hy e=>?_⟩,λ x=>by simp⟩;rw[zAV]at hy;subst hy;subst e;exact this hx
theorem aJd:∀(ns acc:List Int),acc.Nodup->(ns.foldl zBE acc).Nodup/\∀x,x∈ns.foldl zBE acc↔x∈acc\/x∈ns
 |[],acc,h=>⟨h,λ x=>by simp⟩
 |n::ns,acc,h=>by
  obtain⟨h1,h2⟩:=aLn h n;obtain⟨h3,h4⟩:=aJd ns _ h1;refine⟨h3,λ x=>?_⟩;rw[zBH,h4,h2,zAJ];constructor
  .rintro((a|a)|a)
   .exact .inl a
   .exact .inr (.inl a)
   .exact .inr (.inr a)
  .rintro(a|a|a)
   .exact .inl (.inl a)
   .exact .inl (.inr a)
   .exact .inr a
def aAl(ns:List Int):(ddI ns).Nodup:=(aJd ns [] (by simp)).1
def aFc(ns:List Int)(x:Int):x∈ddI ns↔x∈ns:=by
 have:=(aJd ns [] (by simp)).2 x
 unfold ddI;simpa using this
def aJi(ns:List Int):(ddI ns).length<=ns.length:=sub_len (aAl ns) λ x hx=>(aFc ns x).mp hx
section
variable{K:zAA}{G:Gx}{wi:TI}{fi:En->Rs (List D)}{g:TG}{fg:D->En->Rs En}{tt:TT}
def aMv(hi:aLz K G wi fi)(hg:aMA K {G with E:=λ _ _ _=>False} g fg)(hfg:∀d,∃Y1,fg d [.no]= .ok Y1)(ht:aFF K {G with E:=λ _ _ _=>False} tt jh)(R:RR K G U Y Z H lab)
  (W:WR G (fi (shE Y)) (λ ds=>ds.length<zAX/\∀(l:Addr) (as:List Addr) H',aV H H'->H l=none->H' l=some (.lst (as.map V.ref))->(l::as).Nodup->as.length=ds.length->(∀a∈as,H a=none/\H' a=some (.lst []))->Q (.ref l) H')):
  tLC wi (stV [none]) g tt (aHc oK) Z H Q:=by
 refine hi U Z H _ _ _ R.shE (W.imp λ ds _ w J H1 lab1 U1 s1 _ R1 jl=>?_);obtain⟨kK,w⟩:=w;intro l hl;have hHl:H l=none:=s1.free hl;have nl:∀p o,H1 p=some o->p≠l:=λ p o e z=>by subst z;rw[hl]at e;cases e
 have RB:RR K {G with E:=λ _ _ _=>False} (U1++U) [.no] (stV [none] Z) H1 (λ p=>if p=l then(2,0)else(0,0)):=by
  refine⟨rfl,λ i s e=>?_,R1.old,λ p hp=>?_,λ q hq=>(R1.tm q hq).wk λ p o e _=>by rw[if_neg (nl p o e)];exact zAj _⟩
  .match i,e with
   |0,e=>cases e;exact .inl rfl
   |i+1,e=>simp at e
  .by_cases z:p=l
   .subst z;exact R1.old.free hl
   .exact absurd (show(if p=l then((2,0):Nat×Nat)else(0,0)).1=0 by rw[if_neg z]) hp
 have dP:¬((λ p=>if p=l then((2,0):Nat×Nat)else(0,0)) l).1<=1:=by simp
 refine⟨λ i n acc H2=>∃as:List Addr,n=ds.length-i/\i<=ds.length/\acc=as.map V.ref/\H2 l=some (.lst acc)/\RR K {G with E:=λ _ _ _=>False} (U1++U) [.no] (stV [none] Z) H2 (λ p=>if p=l then(2,0)else(0,0))/\aV H H2/\as.length=i/\(l::as).Nodup/\∀a∈as,H a=none/\H2 a=some (.lst []),
  ⟨ds.length,[],by omega,by omega,rfl,aZ,RB.up (bD hl _),s1.trans (bD hl _),rfl,by simp,λ a h=>by simp at h⟩,?_⟩
 rintro i n acc H2 ⟨as,rfl,hi',rfl,hH2,R2,s2,hlen2,hnd,hal⟩;refine⟨hH2,by rw[zAD];omega,?_⟩;have jj:=jl _ H2 λ q hq=>R2.tm q (zA7 _ hq)
 by_cases hlt:i<ds.length
 .obtain⟨go,yl⟩:=(jj i).2 hlt
  refine .inr ⟨go,λ x H3 hy=>?_⟩;obtain⟨s3,d,ed,rx⟩:=yl x H3 hy;replace R2:=R2.up s3;replace hH2:=s3 _ _ hH2;replace s2:=s2.trans s3;replace hal:=λ a ha=>(⟨(hal a ha).1,s3 _ _ (hal a ha).2⟩:H a=none/\H3 a=some (.lst []))
  obtain⟨Y1,e1⟩:=hfg d;refine hg (U1++U) x d _ H3 _ _ _ Y1 R2 rx e1 λ Z4 R4=>?_
  refine ht (U1++U) Z4 H3 Y1 _ _ R4 λ H5 s5=>?_
  rw[if_pos rfl];refine⟨zAj _,λ p H6 s6 hp hn=>?_⟩;have hl6:H6 l=some (.lst (as.map V.ref)):=s6 _ _ (s5 _ _ hH2);have hpl:p≠l:=λ z=>by subst z;rw[s5 _ _ hH2]at hn;cases hn
  have hpa:p∉as:=λ z=>by
   have:=s5 _ _ (hal p z).2
   rw[hn]at this;cases this
  have hpH:H p=none:=(s2.trans s5).free hn;have B:mY l H6 (upd H6 l (.lst (as.map V.ref++[.ref p]))):=λ b o ne hb=>by rw[aX ne];exact hb
  refine⟨hl6,ds.length-(i+1),by omega,as++[p],rfl,hlt,by rw[zAk];rfl,aZ,?_,?_,by rw[zA1];simp;omega,?_,λ a ha=>?_⟩
  .have R6:=R2.up (s5.trans s6)
   refine⟨R6.len,λ j s e=>?_,λ b o hb=>?_,R6.new,λ q hq=>(R6.tm q hq).but B hl6 rfl dP⟩
   .match j,e with
    |0,e=>cases e;exact .inl rfl
    |j+1,e=>simp at e
   .exact B b o (λ z=>by subst z;rw[R1.old.free hl]at hb;cases hb) (R6.old b o hb)
  .exact λ b o hb=>B b o (λ z=>by subst z;rw[hHl]at hb;cases hb) (((s2.trans s5).trans s6) b o hb)
  .obtain⟨n1,n2⟩:=zBT.mp hnd
   refine zBT.mpr ⟨λ z=>?_,zBS.mpr ⟨n2,by simp,λ x hx y hy e=>?_⟩⟩
   .rcases zAd.mp z with z|z
    .exact n1 z
    .exact hpl (zAV.mp z).symm
   .rw[zAV]at hy
    subst hy;subst e;exact hpa hx
  .rcases zAd.mp ha with z|z
   .refine⟨(hal a z).1,?_⟩
    rw[aX λ q=>by subst q;exact(zBT.mp hnd).1 z];exact s6 _ _ (s5 _ _ (hal a z).2)
   .rw[zAV]at z
    subst z;exact⟨hpH,by rw[aX hpl];exact hp⟩
 .have ei:i=ds.length:=by omega
  exact .inl ⟨by rw[ei];exact(jj _).1 (zAQ _),w l as H2 s2 hHl hH2 hnd (by omega) hal⟩
end
section
variable{C:Ct}{pos lpos:Pos}{tg iter:Expr}{sc:Scope}{N:List Str}{js:kQ}{ks:List Nat}{fi:En->Rs (List D)}{fg:D->En->Rs En}
def llS(i:Nat)(fi:En->Rs (List D))(js:kQ)(fg:D->En->Rs En):En->Ou:=λ Y=>(fi (shE Y)).bo λ ds=>if ds.length<zAX then .nx (Y.set i (.o2 (zAM ds.length [])))else .st
def aMN(hi:SI C tg iter fi)(hg:SG (C.blk sc N) tg ks fg)(hj:js=[none]:=by rfl)(hfg:∀d,∃Y1,fg d [.no]= .ok Y1:=by intro _;exact⟨_,rfl⟩)(hN:∀j,(C.X j).N[i]? =some x:=by intro _;rfl)(hx:∀j,Loc (C.X j).env.scope x:=by intro _;first|exact zCf rfl|exact zCC rfl)(hsw:∀j,zCp (.ListComp (.List [] lpos) [⟨tg,iter,[],0⟩] sc pos) (some (.Name x pos')) spos.line (C.X j).env=pure true:=by intro _;rfl)(hs:∀i x,zCH iter (C.X i).env x=pure x:=by intro _ _;rfl)(hf:∀j,(C.X j).fn x=true\/(C.X j).env.scope.names.lookup x=some .local:=by intro _;first|exact .inl rfl|exact .inr rfl)(nd:∀j,(C.X j).N.Nodup:=by intro _;assumption)(hB:∀i,fD (C.X i) sc N (stV js) ks:=by intro _;exact aCD rfl rfl rfl rfl rfl rfl):
  SS C (.Assign [.Name x pos'] (.ListComp (.List [] lpos) [⟨tg,iter,[],0⟩] sc pos) spos) (llS i fi js fg):=by
 subst hj;obtain⟨wi,i1,i2⟩:=hi;obtain⟨g,g1,g2,g3,g4⟩:=hg;obtain⟨tt,t1,t2⟩:=o6 (C:=C.blk sc N);refine⟨_,λ j=>aCc (nd j) (hN j) (hx j) (hB j) (C.calm j) (i1 j) (λ c fp z0 zS=>g1 (j,c,fp,z0,zS)) g3 (λ c fp z0 zS=>t1 (j,c,fp,z0,zS)) (λ c fp z0 zS=>nQ cj) (hsw j) (hs j) (hf j),λ U Z H Y lab De R W=>?_⟩;refine aMv i2 g2 hfg t2 R (W.bo.imp λ ds _ w=>?_);by_cases hl:ds.length<zAX
 .rw[if_pos hl]at w
  refine⟨hl,λ l as H' s hn hH hnd kK hal=>?_⟩;have bP:∀p o,H p=some o->(λ p=>if p=l then(i+2,0)else if p∈as then(i+2,as.idxOf p+1)else cT H 1 lab p) p=lab p:=λ p o e=>by
   dsimp only;have z1:p≠l:=λ z=>by subst z;rw[hn]at e;cases e
   have z2:p∉as:=λ z=>by rw[(hal p z).1]at e;cases e
   rw[if_neg z1,if_neg z2,bj e]
  have R':RR C.K C.G U Y Z H' (λ p=>if p=l then(i+2,0)else if p∈as then(i+2,as.idxOf p+1)else cT H 1 lab p):=by
   refine(R.relab bP λ p hp=>?_).up s;cases e:H p with
   |none=>exact R.old.free e
   |some o=>
    have:=bP p o e
    dsimp only at this hp;rw[this]at hp;exact R.new p hp
  refine w _ _ _ (R'.put (s:=.o2 (zAM ds.length [])) ⟨l,as.map V.ref,rfl,hH,by dsimp only;rw[if_pos rfl],by rw[zAD,zBk];exact kK,λ j x es e1 e2=>?_⟩);rw[zAY,zDT]at e1;obtain⟨a,e1,rfl⟩:=e1;have ees:es=[]:=by
   rw[zCL]at e2;split at e2
   .cases e2;rfl
   .cases e2
  subst ees;have ha:a∈as:=zBf e1;have hla:a≠l:=λ z=>by subst z;exact(zBT.mp hnd).1 ha
  have hj2:j<as.length:=(zAN.mp e1).1;refine .lst (hal a ha).2 ?_ .nil
  show(if a=l then(i+2,0)else if a∈as then(i+2,as.idxOf a+1)else cT H 1 lab a)=(i+2,j+1)
  rw[if_neg hla,if_pos ha];have hix:as.idxOf a<as.length:=List.idxOf_lt_length_iff.mpr ha
  have:as[as.idxOf a]? =some a:=by rw[zAI hix];exact congrArg some (List.getElem_idxOf hix)
  have:=(zF7 hix (zBT.mp hnd).2).mp (this.trans e1.symm)
  rw[this]
 .rw[if_neg hl]at w
  exact zAR w
end
def aLR:∀{us:List α},us.length=6->∃a0 a1 a2 a3 a4 a5,us=[a0,a1,a2,a3,a4,a5]
 |[a0,a1,a2,a3,a4,a5],_=>⟨a0,a1,a2,a3,a4,a5,rfl⟩
def qg(j:Int):List Int:=(zAm j.toNat).map λ(k:Nat)=>0+(k:Int)
def aPM:List V->Hp->VK->Prop:=λ xs H Q=>∃j:Int,xs=[.int j]/\∀p,H p=none->Q (.ref p) (upd H p (.rng 0 j))
def aJr:cg X (.type "range") aPM:=by
 intro kX s Z H vs us Q I rv h;obtain⟨j,rfl,q⟩:=h;obtain⟨u,rfl,ru⟩:=rv.one;obtain⟨t,rfl⟩:=ru;exact call_range_1 ⟨.ref s.heap.objs.size,_,I.laid (a:=s.heap.objs.size) (o:=.rng 0 j) (t':=s.toks+1+1) (λ _ _ q=>zAC _ q) (zAQ _) ⟨_,_,_,zAL _ rfl⟩,rfl,q _ (I.hok.fresh (zAQ _))⟩
def aCa:List V->Hp->VK->Prop:=λ xs H Q=>∃(p:Addr) (j:Int),xs=[.ref p]/\H p=some (.rng 0 j)/\-(2^62)<=j/\j<=10000/\∀l H',aV H H'->H l=none->H' l=some (.lst ((qg j).map V.int))->Q (.ref l) H'
def aKM:∀{ns:List Int} {us:List Value},ns.length=us.length->(∀(k:Nat) i,ns[k]? =some i->∃tk,us[k]? =some (.int i tk))->Vals (ns.map V.int) us:=by
 intro ns;induction ns with
 |nil=>intro us hl _;rw[List.eq_nil_of_length_eq_zero hl.symm];exact .nil
 |cons n ns ih=>
  intro us hl h;obtain⟨tk,e⟩:=h 0 n rfl;cases us with
  |nil=>cases e
  |cons u us=>
   have e':u= .int n tk:=zAa e;subst e';exact .cons ⟨tk,rfl⟩ (ih (zGg hl) λ k i hi=>h (k+1) i hi)
def aCB(hc:X.calm=true):cg X (.type "list") aCa:=by
 intro kX s Z H vs us Q I rv h;obtain⟨p,j,rfl,hp,h1,h2,q⟩:=h;obtain⟨u,rfl,ru⟩:=rv.one;cases ru;obtain⟨t,u,v,hg⟩:=I.hok p _ hp;have hsz:zDj 0 j 1=(j.toNat:Int):=by
  unfold zDj;simp only[show(1:Int)>0 by decide,if_true];split<;>lia
 refine call_list_range (n:=j.toNat) (I.ok.hd hc) hg ?_ hsz (by lia) λ h' tk acc c' hk hS aE=>?_
 .have fl:∀x:Int,-(2^62)<=x->x<=2^62->zEw x=true:=λ x hx1 hx2=>by
   unfold zEw;simp;lia
  unfold zJL;rw[hsz,fl 0 (by lia) (by lia),fl j (by lia) (by lia),fl 1 (by lia) (by lia),fl _ (by lia) (by lia),if_pos (by decide),fl (j+(1-1)) (by lia) (by lia),zHP];rfl
 .have hfr:=I.hok.fresh (zAQ s.heap.objs.size)
  have hv:Vals ((qg j).map V.int) acc.toList:=by
   have hl:(qg j).length=acc.toList.length:=by rw[show acc.toList.length=acc.size from zAU,aE.1];simp[qg]
   refine aKM hl λ k i hi=>?_
   have hk2:k<acc.size:=by rw[aE.1];have:=(zAN.mp hi).1;simpa[qg]using this
   obtain⟨tk,e⟩:=aE.2 k acc[k] (zAs hk2);refine⟨tk,?_⟩;have ei:i=0+(k:Int)*1:=by
    unfold qg at hi;rw[zAY]at hi;cases c:(zAm j.toNat)[k]? with
    |none=>rw[c]at hi;cases hi
    |some m=>
     rw[c]at hi;cases hi
     have:=zAN.mp c
     have:m=k:=by simpa using this.2.symm
     subst this
     show(0:Int)+(m:Int)=0+(m:Int)*1
     lia
   rw[ei,<-e];simp[hk2]
  refine⟨.ref s.heap.objs.size,upd H s.heap.objs.size (.lst ((qg j).map V.int)),I.laid (t':=tk) hk (zAQ _) ⟨?_,acc.toList,c',hv,by simpa using hS⟩,rfl,q _ _ (bD hfr _) hfr aZ⟩;simp[qg]
  have:zAX=16777216:=zCO
  lia
def lrR:D->Rs D
 | .int j=>if -(2^62)<=j/\j<=10000 then .ok (.lst (bW 0 j))else .st
 |_=>.st
def lrD(fa:En->Rs D):En->Rs D:=λ Y=>(fa Y).bd lrR
def aG3(j:Int):bW 0 j=(qg j).map D.int:=by
 unfold bW qg;rw[zAz,Int.sub_zero];rfl
section
variable{C:Ct}{pos pos2 p p2:Pos}{a:Expr}{fa:En->Rs D}{m:Mode}
def rB(hmL:C.mg "list"=none)(hmR:C.mg "range"=none)(ha:SE C m a fa)(hs:∀i,zAZ [a] (C.X i).env=[(false,eval a (C.X i).env)]:=by intro _;rfl)(hs2:∀i,zAZ [.Call (.Name "range" p2) [a] [] pos2] (C.X i).env=[(false,eval (.Call (.Name "range" p2) [a] [] pos2) (C.X i).env)]:=by intro _;rfl)(hgL:∀i,Gl (C.X i) "list":=by intro _;rfl)(hvL:zAt "list"=some (.type "list"):=by decide+kernel)(hgR:∀i,Gl (C.X i) "range":=by intro _;rfl):SE C (some []) (.Call (.Name "list" p) [.Call (.Name "range" p2) [a] [] pos2] [] pos) (lrD fa):=by
 obtain⟨t,h1,h2⟩:=ha;refine⟨tCB aCa (jA (tCB aPM (jA t oK)) oK),λ i=>mC (aCB (C.calm i)) (hgL i) (by rw[(C.cx i).2.2.2.1];exact hmL) hvL (ak (mC aJr (hgR i) (by rw[(C.cx i).2.2.2.1];exact hmR) zJ2 (ak (h1 i) cj (hs i)) (by decide) (by decide) (hs i) rfl) cj (hs2 i)) (by decide) (by decide) (hs2 i) rfl,λ U Z H Y lab Q R W=>?_⟩;refine h2 U Z H Y lab _ R (W.bd.imp λ d _ w y H1 s1 r1=>?_);unfold lrR at w;split at w
 .rename_i j _
  by_cases hz: -(2^62)<=j/\j<=10000
  .rw[if_pos hz]at w
   have ey:=r1.int_inv;subst ey;refine⟨j,rfl,λ q hq=>⟨q,j,rfl,aZ,hz.1,hz.2,λ l H' s' hl hH'=>?_⟩⟩;have s0:=(s1.trans (bD hq _)).trans s';have hlH:H l=none:=(s1.trans (bD hq _)).free hl;refine w _ H' s0 (.lst hH' (.inl hlH) ?_);rw[aG3];exact Rps.ints
  .rw[if_neg hz]at w
   exact zAR w
 .exact zAR w
end
def aMV:V->List V->Hp->VK->Prop:=λ x vs H Q=>∃(l:Addr) (S:Int->Bool) (n:Nat) (i:Int),x= .ref l/\vs=[.int i]/\H l=some (.set S n)/\n+1<zIi/\∀H',mY l H H'->H' l=some (.set (λ k=>S k||decide (k=i)) (if S i=true then n else n+1))->Q .non H'
def aLI:MtM X "set.add" aMV:=by
 intro kX s Z H x vs v us Q I rx rv h;obtain⟨l,S,n,i,rfl,rfl,hH,hn,q⟩:=h;cases rx;obtain⟨u,rfl,ru⟩:=rv.one;obtain⟨t,rfl⟩:=ru;have hS:s.heap.SetOf (zCA X.prog X.w) l S n:=I.hok l _ hH;refine call_set_add (k:=i) (by simp[zCA,zGC]) rfl hS hn λ h' hsb hS'=>⟨.non,_,?_,rfl,q _ (λ b o ne hb=>by rw[aX ne];exact hb) aZ⟩
 refine I.write (x:=l) (e:=l) (by rw[hH];exact trivial) (.inl rfl) (λ b' u hb hu=>(hsb.2 b' hb).trans hu) ?_ hS';obtain⟨o,_,_,_,ho,_⟩:=hS';exact⟨o,ho⟩
def aHL(ds:List Int)(z:Int):(zBE ds z).length=if decide (z∈ds)=true then ds.length else ds.length+1:=by
 unfold zBE;by_cases h:z∈ds
 .rw[if_pos (by simpa using h),if_pos (by simpa using h)]
 .rw[if_neg (by simpa using h),if_neg (by simpa using h),zA1,zBY]
def aAj(ds:List Int)(z k:Int):(decide (k∈ds)||decide (k=z))=decide (k∈zBE ds z):=by
 unfold zBE;rw[zCE];split
 .rename_i h
  have h':z∈ds:=by simpa using h
  simp only[zDm,decide_eq_true_eq];exact⟨λ q=>q.elim id λ e=>e▸h',.inl⟩
 .simp
def aD0{z:Int}(nd:ds.Nodup):(zBE ds z).Nodup:=by
 unfold zBE;split
 .exact nd
 .rename_i h
  have h':¬z∈ds:=by simpa using h
  refine zBS.mpr ⟨nd,by simp,λ a ha b hb e=>?_⟩;rw[zAV]at hb;subst hb;subst e;exact h' ha
def aHZ(Y:En)(i:Nat)(ds:List Int):D->Ou
 | .int z=>if ds.length<4000 then .nx (Y.set i (.ow (.set (zBE ds z))))else .st
 |_=>.st
def aOd(i:Nat)(fe:En->Rs D):En->Ou:=λ Y=>match Y[i]? with
 |some (.ow (.set ds))=>(fe Y).bo λ d=>aHZ Y i ds d
 |_=>.st
section
variable{C:Ct}{pos apos cpos p:Pos}{e:Expr}{fe:En->Rs D}{i:Nat}{x:Str}{m:Mode}
def aMu(i:Nat)(he:SE C m e fe)(hm:okN m=true:=by rfl)(hN:∀j,(C.X j).N[i]? =some x:=by intro _;rfl)(hv:∀j,Vis (C.X j).env.scope x:=by intro _;first|exact zCf rfl|exact zCC (zCf rfl)|exact zCC (zCC rfl))(hd:Nd x:=by decide)
  (hcd:(x==("__classdict__":Str))=false:=by decide)(hs1:∀j,zAZ [e] (C.X j).env=[(false,eval e (C.X j).env)]:=by intro _;rfl)
  (hbase:∀j,zEq (.Name x p) "add" (C.X j).env (eval (.Name x p) (C.X j).env)=eval (.Name x p) (C.X j).env:=by intro _;rfl)
  (hfew:∀j,((zCo cpos (zAZ [e] (C.X j).env)).all (λ x=>!x.1)&&(zGE cpos (zEL [] (C.X j).env)).all (λ x=>x.1.isSome)&&decide ([e].length+([]:List zDJ).length+(if ([]:List zDJ).isEmpty then 0 else 1)<30))=true:=by intro _;rfl)
  (hline:(apos.endLine==cpos.line)=true:=by rfl)
  (hsw:∀j,zCp (.Call (.Attribute (.Name x p) "add" apos) [e] [] cpos) none pos.line (C.X j).env=pure false:=by intro _;rfl):
  SS C (.Expr (.Call (.Attribute (.Name x p) "add" apos) [e] [] cpos) pos) (aOd i fe):=by
 obtain⟨t,h1,h2⟩:=he;refine⟨xQ (tBM C.K "set" aMV (oJ i) (jA t oK)),λ j=>qJ (by rw[<-C.hK j];exact aAR PySem.F.plainAttrs_set PySem.F.slot_set_add PySem.F.type_set_add aLI (gD (hN j) (hv j) hd hcd) (ak (h1 j) cj (hs1 j)) (hbase j) (hfew j) hline (hs1 j) rfl) (hsw j),λ U Z H Y lab De R W=>?_⟩;unfold aOd at W;cases es:Y[i]? with
 |none=>rw[es]at W;exact zAR W
 |some s=>
  rw[es]at W;split at W
  .rename_i ds hs
   cases hs;rcases R.sl i _ es with z|⟨v,ev,hv'⟩
   .cases z
   .obtain⟨hv1,htop⟩:=hv'
    obtain⟨a0,ea0,la0⟩:=htop rfl;subst ea0;cases hv1 with
    |set h mm hS nd=>
     rename_i S;refine⟨.ref a0,ev,.inr (.inr (.inr ⟨rfl,S,_,h⟩)),h2 U Z H Y lab _ R (W.bo.imp λ d _ w y H2 s2 r2=>?_)⟩;unfold aHZ at w;split at w
     .rename_i z _
      by_cases hz:ds.length<4000
      .rw[if_pos hz]at w
       have ey:=r2.int_inv;subst ey;have hb:zIi=4096:=rfl;refine⟨a0,S,ds.length,z,rfl,rfl,s2 _ _ h,by omega,λ H3 B h3=>?_⟩;refine w Z H3 _ ((R.up s2).mut ev (s2 _ _ h) rfl la0 B ⟨?_,λ _=>⟨a0,rfl,la0⟩⟩);have e1:(if S z=true then ds.length else ds.length+1)=(zBE ds z).length:=by
        rw[hS z];exact(aHL ds z).symm
       rw[e1]at h3;exact .set h3 (.inr la0) (λ k=>by rw[hS k];exact aAj ds z k) (aD0 nd)
      .rw[if_neg hz]at w
       exact zAR w
     .exact zAR w
  .exact zAR W
end
def aMQ:List V->Hp->VK->Prop:=λ xs H Q=>xs=[]/\∀p,H p=none->Q (.ref p) (upd H p (.set (λ _=>false) 0))
def aHS:cg X (.type "set") aMQ:=by
 intro kX s Z H vs us Q I rv h;obtain⟨rfl,q⟩:=h;cases rv;refine call_set_0 λ led=>⟨.ref s.heap.objs.size,_,I.laid (a:=s.heap.objs.size) (o:=.set (λ _=>false) 0) (t':=s.toks) (λ _ _ q=>zAC _ q) (zAQ _) ?_,rfl,q _ (I.hok.fresh (zAQ _))⟩
 exact⟨_,#[],0,_,zAL _ rfl,⟨rfl,rfl,rfl⟩,rfl,λ e he=>by simp at he,λ k=>by simp,by decide,by rfl,rfl⟩
def aPQ(neg:Bool):R2:=λ x y H Q=>∃(i:Int) (a:Addr) (S:Int->Bool) (n:Nat),x= .int i/\y= .ref a/\H a=some (.set S n)/\Q (.bl (if neg then !S i else S i)) H
def aKz:OpR X (zAw .NotIn) (aPQ true):=by
 intro kX s Z H x y v u Q I rx ry h;obtain⟨i,a,S,n,rfl,rfl,hH,q⟩:=h;obtain⟨t,rfl⟩:=rx;cases ry;have hS:s.heap.SetOf (zCA X.prog X.w) a S n:=I.hok a _ hH;exact wpAny_notInSet_of (k:=i) (by simp[zCA,zGC]) rfl hS ⟨.bl (!S i),H,I.tok _,rfl,q⟩
def inX(neg:Bool):D->D->Rs D
 | .int i,.set l=>.ok (.bl (if neg then !decide (i∈l)else decide (i∈l)))
 |d,e=>inR neg d e
def aN7{K:zAA}:OpS K (λ x y H Q=>aG6 K n x y H Q\/aPQ n x y H Q) (inX n):=by
 intro A x y d e H Q z rx ry ez q;unfold inX at ez;split at ez
 .cases ez
  have ex:=rx.int_inv;subst ex;cases ry with
  |set h m hS nd=>exact .inr ⟨_,_,_,_,rfl,rfl,h,by rw[hS];exact q _ H (aV.refl H) (.bl _)⟩
 .exact .inl (aF6 A x y d e H Q z rx ry ez q)
section
variable{C:Ct}{pos p:Pos}{a b:Expr}{fa fb:En->Rs D}{m1 m2:Mode}
def aKR(ha:SE C m1 a fa)(hb:SE C m2 b fb)(hm:zBm .NotIn b=false:=by with_unfolding_all rfl):ST C (.Compare a [.NotIn] [b] pos) (tsb (op2 (inX true) fa fb)):=lQ (λ i=>(C.ninRl i).or aKz) aN7 ha hb hm
def aK3(hm:C.mg "set"=none)(hg:∀i,Gl (C.X i) "set":=by intro _;rfl)(hv:zAt "set"=some (.type "set"):=by decide+kernel):SE C (some []) (.Call (.Name "set" p) [] [] pos) (cD (.set [])):=by
 refine⟨tCB aMQ oK,λ i=>aES aHS (hg i) (by rw[(C.cx i).2.2.2.1];exact hm) hv,λ U Z H Y lab Q R W=>?_⟩;exact⟨rfl,λ q hq=>W _ _ (bD hq _) (.set aZ (.inl hq) (λ _=>by simp) (by simp))⟩
end
section
variable{prog:zA2}{w:World}{A:zAc}{E:Value->zAG->Prop}{s:zAG}{it t:Addr}{i:Nat}{items:Array Value}
theorem NoD.at{h:Heap}{a:Addr}{o:Obj}(e:h.get? a=some o)(hd:o.dict=none:=by rfl):L2.NoD h a:=λ u q=>by rw[e]at q;cases q;exact hd
def rQ(hit:s.heap.IsTupleIter it t i)(ht:s.heap.IsTuple t items)(hx:items[i]? =some x)
  (hQ:∀h',h'.IsTupleIter it t (i+1)->zDI it s.heap h'->Q x {s with heap:=h'}):wpAny (model prog w) A (zBQ (.ref it)) Q E s:=by
 obtain⟨o,ho,hc,hd⟩:=id hit;obtain⟨ol,hol,_,nl,hdl⟩:=ht;unfold zBQ;refine zAB (zB5 (name:=zCt "__next__") hit.typeIs zDD (zB9 zDD hit.typeIs zGl ?_ (zGb _)));show wpAny _ _ (field (.ref it) 0>>=_) _ _ s;refine zAB (zBg ho hd (x:=.ref t) rfl ?_);show wpAny _ _ (if (zBF t==zBb)=true then _ else _) _ _ s;rw[if_neg (show¬((zBF t==zBb)=true)from zAO)];show wpAny _ _ (field (.ref it) 1>>=_) _ _ s;refine zAB (zBg ho hd (x:=.int i 0) rfl ?_);show wpAny _ _ (zHL (.ref t)>>=_) _ _ s;refine zAB (zBj hol hdl ?_);simp only[zCP,hx];refine zAB (zEb ho hd (by simp) (zAF ⟨x,rfl,zAF (hQ _ ⟨_,zC0 _ ho (zH8 (zFZ hd _)),(Obj.cls_mapFields ..).trans hc,by rw[zFZ hd];simp[zGk]⟩ (zBR ..))⟩))
def aAV(hh:A.handled=none)(hit:s.heap.IsTupleIter it t i)(ht:s.heap.IsTuple t items)(hx:items[i]? =none)
  (hE:∀h' e,zGL it s.heap h'->(∃o,h'.get? e=some o/\o.cls= .type "StopIteration")->E (.ref e) {s with heap:=h'}):wpAny (model prog w) A (zBQ (.ref it)) Q E s:=by
 obtain⟨o,ho,hc,hd⟩:=id hit;obtain⟨ol,hol,_,nl,hdl⟩:=ht;unfold zBQ;refine zAB (zB5 (name:=zCt "__next__") hit.typeIs zDD (zB9 zDD hit.typeIs zGl ?_ (zGb _)));show wpAny _ _ (field (.ref it) 0>>=_) _ _ s;refine zAB (zBg ho hd (x:=.ref t) rfl ?_);show wpAny _ _ (if (zBF t==zBb)=true then _ else _) _ _ s;rw[if_neg (show¬((zBF t==zBb)=true)from zAO)];show wpAny _ _ (field (.ref it) 1>>=_) _ _ s;refine zAB (zBg ho hd (x:=.int i 0) rfl ?_);show wpAny _ _ (zHL (.ref t)>>=_) _ _ s;refine zAB (zBj hol hdl ?_);simp only[zCP,hx];refine zAB (zG8 (zAB (zEb ho hd (by simp) ?_)));show wpAny _ _ (newExc (.type "StopIteration") []>>=_) _ _ _;refine zAB ?_;simp only[newExc,newTuple];refine zAB (zAv ?_ (by size_fits));refine zAB (m:=zFc _ _) (zFp (a:=zBb) (by simp only[zFc];rfl) ?_);refine zAv ?_ (by size_fits);simp only[raiseNew];refine zAB (wpAny_handled ?_);first|rw[show A.in1.handled=none from hh]|rw[hh]
 refine zAB (zAF (wpAny_throw ?_));exact hE _ _ (((zBR ..).extBut.push _).push _) ⟨_,zAL _ rfl,rfl⟩
end
def aJN{X:Cx}{kX:hZ}{Z:List (Option V)}{H:Hp}{s:zAG}{h':Heap}{ch:List Addr}{p t':Nat}{o:HO}(I:Inv X kX Z H s)(hf:∀b∈ch,sI X kX H b)(k:∀b u,b∉ch->s.heap.get? b=some u->h'.get? b=some u)
  (hp:s.heap.objs.size<=p)(new:cZ X.prog X.w (upd H p o) h' p o):Inv X kX Z (upd H p o) {s with heap:=h',toks:=t'}:=by
 have hn:=I.hok.fresh hp;have nch:∀b u,H b=some u->b∉ch:=λ b u e z=>by have:=(hf b z).1;rw[e]at this;cases this
 refine I.call (g':=s.gens) (d':=s.drawn) (ch:=ch) ⟨λ b u q _ _ hx=>k b u hx q,λ b u q _ _ hx=>⟨u.slots,k b u hx q⟩,λ b u q n _=>?_,λ b u q hx=>⟨u,k b u hx q⟩,λ b xs q=>?_,λ b u xs q=>?_,λ b ps q=>⟨#[],?_⟩⟩ (λ b u e=>?_) I.bare
  λ b hb=>let⟨_,f1,_,f3,f4,f5⟩:=hf b hb;⟨f3,f1,f4,f5⟩
 .rw[aX (zA4 (zAW (zAT q) hp))];exact n
 .rw[aX (bM q hn)];exact q
 .rw[aX (bM q hn)];exact q
 .rw[aX (bM q hn),q];simp
 .by_cases hb:b=p
  .subst hb;rw[aZ]at e;cases e;exact new
  .rw[aX hb]at e
   refine(I.hok b u e).stay (λ c v hc q=>k c v ?_ q) (λ c q=>by rw[aX (bM q hn)];exact q) λ c xs q=>by rw[aX (bM q hn)];exact q
   rcases hc with rfl|hc
   .exact nch _ _ e
   .exact nch _ _ hc
theorem aJJ:∀{k:List Int} {us:List Value},Vals (k.map V.int) us->ItemsAre (zCA P w) k us
 |[],_,r=>by cases r;exact .nil
 |i::k,_,r=>by
  cases r with
  |cons h t=>obtain⟨t0,rfl⟩:=h;exact .cons (by simp[zCA,zGC]) (aJJ t)
abbrev Ent:=List Int×Addr×V
def DxP(es:List Ent)(xs:List (List Int×Addr×Value)):Prop:=zFb (λ(e:Ent) x=>e.1=x.1/\e.2.1=x.2.1/\RelV e.2.2 x.2.2) es xs
def DxP.mem(p:DxP es xs):∀x∈xs,∃e∈es,e.1=x.1/\e.2.1=x.2.1:=by
 unfold DxP at p;induction p with
 |nil=>intro x hx;cases hx
 |cons h t ih=>
  intro x hx;rcases zAJ.mp hx with rfl|hx
  .exact⟨_,zAE ..,h.1,h.2.1⟩
  .obtain⟨e,he,q⟩:=ih x hx;exact⟨e,zAH _ he,q⟩
def DxP.keys(p:DxP es xs):es.map (·.1)=xs.map (·.1):=by
 unfold DxP at p;induction p with
 |nil=>rfl
 |cons h t ih=>rw[zAS,zAS,ih,h.1]
theorem aGI(k:List Int):∀(xs:List (List Int×β)),(xs.find? λ x=>decide (x.1=k)).isSome=(xs.map (·.1)).any (·==k)
 |[]=>rfl
 |x::xs=>by
  rw[zAS,zE0,<-aGI k xs,List.find?_cons];by_cases e:x.1=k
  .simp[e]
  .have:(x.1==k)=false:=by simpa using e
   simp[e,this]
def DxP.has(p:DxP es xs)(k:List Int):(atKey xs k).isSome=(es.map (·.1)).any (·==k):=by
 unfold atKey;rw[Option.isSome_map,aGI,p.keys]
def DxP.snoc(p:DxP es xs)(h:e.1=x.1/\e.2.1=x.2.1/\RelV e.2.2 x.2.2):DxP (es++[e]) (xs++[x]):=by
 unfold DxP at p ⊢;induction p with
 |nil=>exact .cons h .nil
 |cons q t ih=>exact .cons q ih
def DxP.same(p:DxP es xs)(k:List Int):(∀e∈es,e.2.2= .bl true)->DxP es (xs.map (putAt k (.bool true))):=by
 unfold DxP at p ⊢;induction p with
 |nil=>intro _;exact .nil
 |cons q t ih=>
  intro h;refine .cons ?_ (ih λ e he=>h e (zAH _ he));unfold putAt;split
  .exact⟨q.1,q.2.1,by rw[h _ (zAE ..)];exact rfl⟩
  .exact q
def yF(es:List Ent)(k:List Int)(b:Addr):List Ent:=if (es.map (·.1)).any (·==k)then es else es++[(k,b,.bl true)]
def DxP.put(p:DxP es xs)(k:List Int)(b:Addr)(h:∀e∈es,e.2.2= .bl true):DxP (yF es k b) (storedH xs k b (.bool true)):=by
 unfold yF storedH;rw[p.has];split
 .exact p.same k h
 .exact p.snoc ⟨rfl,rfl,rfl⟩
section
variable{X:Cx}{kX:hZ}{Z:L2.St}{H:Hp}{s:zAG}{a b:Addr}{k:List Int}{es:List Ent}
def aLW(I:Inv X kX Z H s)(h:SqT X.K H b (k.map V.int)):(zGG (zCA X.prog X.w)).is s.heap k b:=by
 obtain⟨its,rv,⟨o,h1,h2,n,h3⟩,hz⟩:=I.tuple h;exact⟨o,its.toArray,n,h1,h2,h3,by simpa using aJJ rv⟩
def aMa(I:Inv X kX Z H s)(h:DxK X.K H a es):es.length<=zAX/\(a==zDf)=false/\∃xs,DxP es xs/\s.heap.DictOfH (zGG (zCA X.prog X.w)) a xs:=by
 obtain⟨⟨hl,hd,xs,o,ts,ep,pr,h1,h2,h3,h4⟩,_⟩:=(show cZ X.prog X.w H s.heap a (dxO a es)from I.hok a _ h.at_);refine⟨hl,hd,xs,pr,o,ts,ep,h1,h2,h3,h4,λ x hx=>?_,by rw[<-DxP.keys pr];exact h.nd⟩;obtain⟨e,he,e1,e2⟩:=DxP.mem pr x hx;rw[<-e1,<-e2];exact aLW I (h.ks e he)
def aO0(hl:es.length<=zAX)(hd:(a==zDf)=false)(pr:DxP es xs)(dd:h'.DictOfH (zGG (zCA X.prog X.w)) a xs):cZ X.prog X.w H' h' a (dxO a es):=by
 obtain⟨o,ts,ep,h1,h2,h3,h4,_,_⟩:=dd;exact⟨⟨hl,hd,xs,o,ts,ep,pr,h1,h2,h3,h4⟩,⟨o,h1⟩,λ g1 g2 ⟨hl,hd,xs,o,ts,ep,pr,h1,r⟩ k=>⟨hl,hd,xs,o,ts,ep,pr,k o h1,r⟩⟩
def aOp(K:zAA)(tk tv:TE):Addr->L2.St->Hp->(Hp->Prop)->Prop:=λ D Z H Q=>tk Z H λ y H1=>tv Z H1 λ v H2=>∃b k es,y= .ref b/\v= .bl true/\SqT K H2 b (k.map V.int)/\DxK K H2 D es/\(∀e∈es,e.2.2= .bl true)/\es.length<zAX/\Q (upd H2 D (dxO D (yF es k b)))
def aCu(es:List Ent)(k:List Int)(b:Addr):(yF es k b).length<=es.length+1:=by
 unfold yF;split
 .omega
 .rw[zA1];exact zAQ _
def aPT(hu:X.A.units<cLine)(hk:PE X kx tk)(hv:PE X vx tv):PB X (zR kx vx) (aOp X.K tk tv):=by
 intro D kX s Z H Q I h;unfold zR;refine zAB (thn (hk kX s Z H _ I h) λ u s1 ⟨y,H1,I1,r1,q1⟩=>zAB (zBI (thn (hv kX s1 Z H1 _ I1 q1) λ u2 s2 ⟨v,H2,I2,r2,b,k,es,ey,ev,hb,hD,hes,hl,q⟩=>?_)));subst ey ev;cases r1;cases r2;refine zAB (zEC (zBI ?_));obtain⟨z,hd,xs,pr,dd⟩:=aMa I2 hD;refine wpAny_dictSet_heap (hsz:=by rw[<-zGh pr];exact z) (show(zGG (zCA X.prog X.w)).room X.A from hu) (aLW I2 hb) dd λ h' dd' hs=>⟨_,?_,q⟩
 obtain⟨o,ts,ep,h1,r⟩:=id dd';exact I2.write (x:=D) (e:=D) (by rw[hD.at_];exact trivial) (.inl rfl) (λ b' u hb hu=>(hs.2 b' hb).trans hu) ⟨o,h1⟩ (aO0 (zAl (aCu es k b) hl) hd (pr.put k b hes) dd')
def aG7(K:zAA)(neg:Bool):R2:=λ x y H Q=>∃b a k es,x= .ref b/\y= .ref a/\SqT K H b (k.map V.int)/\(DxK K H a es\/(es=[]/\H a=some (.dK [])))/\Q (.bl (neg !=(es.map (·.1)).any (·==k))) H
def aM9(I:Inv X kX Z H s)(h:DxK X.K H a es\/(es=[]/\H a=some (.dK []))):(a==zDf)=false/\∃xs,DxP es xs/\s.heap.DictOfH (zGG (zCA X.prog X.w)) a xs:=by
 rcases h with h|⟨rfl,h⟩
 .exact(aMa I h).2
 .obtain⟨_,hd,vs,kv,o,ts,ep,h1,h2,h3,h4⟩:=(show cZ X.prog X.w H s.heap a (.dK [])from I.hok a _ h)
  cases kv;exact⟨hd,[],.nil,o,ts,ep,h1,h2,h3,by generalize ts.toList=l at h4;obtain⟨_,h4,_⟩:=h4;cases h4;rfl,λ x hx=>(by cases hx),zD2⟩
def aNo(hu:X.A.units+1<cLine):OpR X (zAw .In) (aG7 X.K false):=by
 intro kX s Z H x y v u Q I rx ry ⟨b,a,k,es,ex,ey,hb,hD,q⟩;subst ex ey;cases rx;cases ry;obtain⟨hd,xs,pr,dd⟩:=aM9 I hD;refine wpAny_in_heap (zJJ hu) (aLW I hb) hd dd ?_;rw[pr.has k];exact⟨.bl ((es.map λ e:Ent=>e.1).any (·==k)),H,I.tok _,rfl,by simpa using q⟩
def aLA(hu:X.A.units+1<cLine):OpR X (zAw .NotIn) (aG7 X.K true):=by
 intro kX s Z H x y v u Q I rx ry ⟨b,a,k,es,ex,ey,hb,hD,q⟩;subst ex ey;cases rx;cases ry;obtain⟨hd,xs,pr,dd⟩:=aM9 I hD;refine wpAny_notIn_heap (zJJ hu) (aLW I hb) hd dd ?_;rw[pr.has k];exact⟨.bl (!(es.map λ e:Ent=>e.1).any (·==k)),H,I.tok _,rfl,by simpa using q⟩
end
def aDH:D->Option (List Int)
 | .tup l=>intsOf l
 |_=>none
def aAX:List D->Option gV
 |[]=>some []
 |d::ds=>match aDH d,aAX ds with
  |some k,some ks=>some (k::ks)
  |_,_=>none
def aJF:List D->Option gV
 |[]=>some []
 | .non::ks=>aAX ks
 |_=>none
def aOP(neg:Bool):Option (List Int)->Option gV->Rs D
 |some k,some kk=>.ok (.bl (neg !=kk.any (·==k)))
 |_,_=>.st
def inK(neg:Bool)(d e:D):Rs D:=match e with
 | .dct ks _=>aOP neg (aDH d) (aJF ks)
 |_=>.st
def aAZ(h:aDH d=some k):d= .tup (k.map .int):=by
 cases d with
 |tup l=>rw[cW (show intsOf l=some k from h)]
 |_=>cases h
def aDG(k:List Int):aDH (.tup (k.map .int))=some k:=gG k
theorem vD:∀(ks:gV),aAX (ks.map λ k=>.tup (k.map .int))=some ks
 |[]=>rfl
 |k::ks=>by
  rw[zAS];unfold aAX;rw[aDG,vD ks]
def aN8{K:zAA}:OpS K (aG7 K n) (inK n):=by
 intro A x y d e H Q z rx ry ez q;cases e with
 |dct ks vs=>
  replace ez:aOP n (aDH d) (aJF ks)= .ok z:=ez;cases hk:aDH d with
  |none=>rw[hk]at ez;cases ez
  |some k=>
   cases hks:aJF ks with
   |none=>rw[hk,hks]at ez;cases ez
   |some kk=>
    rw[hk,hks]at ez;cases ez;rw[aAZ hk]at rx;obtain⟨b,xs,rfl,h1,h2⟩:=rx.tup_inv;have exs:=h2.ints_of;subst exs;have Z:∀a es,(DxK K H a es\/(es=[]/\H a=some (.dK [])))->es.map (·.1)=kk->aG7 K n (.ref b) (.ref a) H Q:=λ a es h hes=>
     ⟨b,a,k,es,rfl,rfl,h1,h,by rw[hes];exact q _ H (aV.refl H) (.bl _)⟩
    cases ry with
    |dT h m r=>
     refine Z _ _ (.inl h) ?_;rename_i es;have e2:(es.map λ e=>D.tup (e.1.map .int))=(es.map (·.1)).map λ k=>D.tup (k.map .int):=by rw[zAz];rfl
     replace hks:aAX (es.map λ e=>D.tup (e.1.map .int))=some kk:=hks;rw[e2,vD]at hks;exact zAa hks
    |dK h m r=>
     rename_i kvs;cases kvs with
     |nil=>cases hks;exact Z _ [] (.inr ⟨rfl,h⟩) rfl
     |cons p ps=>
      obtain⟨p1,p2⟩:=p;cases p1<;>cases hks
 |_=>cases ez
section
variable{C:Ct}{m1 m2:Mode}{a b:Expr}{fa fb:En->Rs D}{pos:Pos}
def Ct.inK(C:Ct)(i:C.ι):OpR (C.X i) (zAw .In) (aG7 C.K false):=by rw[<-C.hK i];exact aNo (by have:=(C.room i).un;omega)
def Ct.ninK(C:Ct)(i:C.ι):OpR (C.X i) (zAw .NotIn) (aG7 C.K true):=by rw[<-C.hK i];exact aLA (by have:=(C.room i).un;omega)
def aKS(ha:SE C m1 a fa)(hb:SE C m2 b fb)(hm:zBm .NotIn b=false:=by with_unfolding_all rfl):ST C (.Compare a [.NotIn] [b] pos) (tsb (op2 (inK true) fa fb)):=lQ C.ninK aN8 ha hb hm
end
def aOe:aKI prog w newDict (λ ob=>ob={cls:=.type "dict",data:=.dict #[]}) (λ l=>dxO l []) where
 make:=λ h=>zAv (h _ rfl)
 live:=by rintro ob rfl;rfl
 ok:=by
  rintro H h a ob rfl hg hb;exact⟨⟨zAj _,beq_eq_false_iff_ne.mpr (zDU (zA4 hb)),[],_,#[],0,.nil,hg,⟨rfl,rfl,rfl⟩,rfl,rfl⟩,⟨_,hg⟩,λ g1 g2 ⟨hl,hd,xs,o,ts,ep,pr,h1,r⟩ k=>⟨hl,hd,xs,o,ts,ep,pr,k o h1,r⟩⟩
def oX(acc:gV)(k:List Int):gV:=if acc.any (·==k)then acc else acc++[k]
def ddL(ks:gV):gV:=ks.foldl oX []
def aJg(ks:gV)(k:List Int):ddL (ks++[k])=oX (ddL ks) k:=by unfold ddL;rw[zEQ];rfl
def pairE(fk fv:En->Rs D):En->Rs D:=λ Y=>(fk Y).bd λ k=>(fv Y).bd λ v=>.ok (.tup [k,v])
def aAY:D->Option (List Int)
 | .tup [k,.bl true]=>aDH k
 |_=>none
def cU:List D->Option gV
 |[]=>some []
 |d::ds=>match aAY d,cU ds with
  |some k,some ks=>some (k::ks)
  |_,_=>none
def rz(ks:gV):D:=.dct (.non::ks.map λ k=>.tup (k.map .int)) (ks.map λ _=>.bl true)
def dcD(fi:En->Rs (List D))(js:kQ)(fg:D->En->Rs En)(ft:En->Rs Bool)(fk fv:En->Rs D):En->Rs D:=λ Y=>(fi (shE Y)).bd λ ds=>
 if ds.length<zAX then(match lcL (stE js (shE Y)) fg ft (pairE fk fv) ds with
  | .ok l=>(match cU l with
   |some ks=>.ok (rz (ddL ks))
   |none=>.st)
  |_=>.st)else .st
theorem yq:∀{l m:List D} {ks:gV},cU (l++m)=some ks->∃k1 k2,cU l=some k1/\cU m=some k2/\ks=k1++k2
 |[],m,ks,h=>⟨[],ks,rfl,h,rfl⟩
 |d::l,m,ks,h=>by
  rw[zCi]at h;unfold cU at h;cases h1:aAY d with
  |none=>rw[h1]at h;cases h
  |some k=>
   cases h2:cU (l++m)with
   |none=>rw[h1,h2]at h;cases h
   |some kk=>
    rw[h1,h2]at h;cases h;obtain⟨k1,k2,e1,e2,rfl⟩:=yq h2;exact⟨k::k1,k2,by unfold cU;rw[h1,e1],e2,rfl⟩
def aEi(h:cU (y::ys)=some ks):∃k kk,y= .tup [.tup (k.map .int),.bl true]/\cU ys=some kk/\ks=k::kk:=by
 unfold cU at h;cases h1:aAY y with
 |none=>rw[h1]at h;cases h
 |some k=>
  cases h2:cU ys with
  |none=>rw[h1,h2]at h;cases h
  |some kk=>
   rw[h1,h2]at h;cases h;refine⟨k,kk,?_,rfl,rfl⟩;unfold aAY at h1;split at h1
   .rw[aAZ h1]
   .cases h1
theorem v7(kk:List Int):∀{l:List D} {k1:gV},cU l=some k1->cU (l++[.tup [.tup (kk.map .int),.bl true]])=some (k1++[kk])
 |[],_,h=>by
  cases h
  have:aAY (.tup [.tup (kk.map .int),.bl true])=some kk:=aDG kk
  rw[zCU,zCU];unfold cU;rw[this];rfl
 |d::l,k1,h=>by
  rw[zCi];unfold cU at h ⊢;cases h1:aAY d with
  |none=>rw[h1]at h;cases h
  |some k=>
   cases h2:cU l with
   |none=>rw[h1,h2]at h;cases h
   |some k9=>rw[h1,h2]at h;cases h;rw[v7 kk h2];rfl
theorem aHv{K:zAA}:∀(es:List Ent),(∀e∈es,e.2.2= .bl true)->Rps K A H (es.map (·.2.2)) (es.map λ _=>.bl true)
 |[],_=>.nil
 |e::es,h=>by
  have e1:e.2.2= .bl true:=h e (zAE ..);refine .cons ?_ (aHv es λ z hz=>h z (zAH _ hz));show Rp K A H e.2.2 (.bl true);rw[e1];exact .bl true
section
variable{K:zAA}{G:Gx}{wi:TI}{fi:En->Rs (List D)}{js:kQ}{g:TG}{fg:D->En->Rs En}{tt:TT}{ft:En->Rs Bool}{tk tv:TE}{fk fv:En->Rs D}
def aI9(h:pairE fk fv Y= .ok y):∃k v,fk Y= .ok k/\fv Y= .ok v/\y= .tup [k,v]:=by
 obtain⟨k,h1,h2⟩:=dO h;obtain⟨v,h3,h4⟩:=dO h2;exact⟨k,v,h1,h3,by cases h4;rfl⟩
def aMw(hi:aLz K G wi fi)(hg:aMA K {G with E:=λ _ _ _=>False} g fg)(ht:aFF K {G with E:=λ _ _ _=>False} tt ft)(hk:jH K {G with E:=λ _ _ _=>False} (some []) tk fk)(hv:jH K {G with E:=λ _ _ _=>False} (some []) tv fv):
  jH K G (some []) (aOw (λ l=>dxO l []) wi (stV js) g tt (aOp K tk tv)) (dcD fi js fg ft fk fv):=by
 intro U Z H Y lab Q R W;refine hi U Z H _ _ _ R.shE (W.bd.imp λ ds _ w J H1 lab1 U1 s1 _ R1 jl=>?_);intro l hl;obtain⟨kK,out,ks,aS,hks,w⟩:ds.length<zAX/\∃out ks,lcL (stE js (VL.shE Y)) fg ft (pairE fk fv) ds= .ok out/\cU out=some ks/\QE K (some []) lab H Q (rz (ddL ks)):=by
  by_cases kK:ds.length<zAX
  .rw[if_pos kK]at w
   cases aS:lcL (stE js (VL.shE Y)) fg ft (pairE fk fv) ds with
   |ok out=>
    rw[aS]at w;dsimp only at w;cases hns:cU out with
    |some ns=>rw[hns]at w;exact⟨kK,out,ns,rfl,hns,w⟩
    |none=>rw[hns]at w;exact zAR w
   |ex c=>rw[aS]at w;exact zAR w
   |st=>rw[aS]at w;exact zAR w
  .rw[if_neg kK]at w
   exact zAR w
 have R0:RR K {G with E:=λ _ _ _=>False} (U1++U) (VL.shE Y) Z H1 (λ _=>(0,0)):=R1.blk0 rfl;have RB:=R0.block (js:=js) (λ _=>zAj _) hl;have hHl:H l=none:=s1.free hl;have h0l:G.H0 l=none:=R1.old.free hl;refine⟨λ i n H2=>∃(es:List Ent) (pre:List D) (kp:gV),n=ds.length-i/\i<=ds.length/\DxK K H2 l es/\(∀e∈es,e.2.2= .bl true)/\es.length<=i/\cU pre=some kp/\es.map (·.1)=ddL kp/\RR K {G with E:=λ _ _ _=>False} (U1++U) (stE js (VL.shE Y)) (stV js Z) H2 (λ p=>if p=l then(2,0)else(0,0))/\aV H H2/\
  ∃post,lcL (stE js (VL.shE Y)) fg ft (pairE fk fv) (ds.drop i)= .ok post/\out=pre++post,⟨ds.length,[],[],[],by omega,by omega,⟨aZ,λ e he=>(by cases he),zD2⟩,λ e he=>(by cases he),zAQ _,rfl,rfl,RB.up (bD hl _),s1.trans (bD hl _),out,aS,rfl⟩,?_⟩
 rintro i n H2 ⟨es,pre,kp,rfl,hi,hD,hes,hei,hkp,hek,R2,s2,post,hpost,eout⟩;have jj:=jl _ H2 λ q hq=>R2.tm q (zA7 _ hq)
 by_cases hlt:i<ds.length
 .obtain⟨go,yl⟩:=(jj i).2 hlt
  refine .inr ⟨go,λ x H3 hy=>?_⟩;obtain⟨s3,d,ed,rx⟩:=yl x H3 hy;replace R2:=R2.up s3;replace hD:=hD.mono s3;replace s2:=s2.trans s3;have ed2:ds.drop i=d::ds.drop (i+1):=by
   rw[zDE hlt]
   have:=zAI hlt
   rw[ed]at this;cases this;rfl
  rw[ed2]at hpost;obtain⟨Y1,k,e1,e2,e3⟩:=aDA hpost;refine hg (U1++U) x d _ H3 _ _ _ Y1 R2 rx e1 λ Z4 R4=>?_
  refine ht (U1++U) Z4 H3 Y1 _ _ R4 ?_;rw[e2];intro H5 s5;rcases e3 with ⟨rfl,y,ys,e3,e4,rfl⟩|⟨rfl,e4⟩
  .rw[if_pos rfl]
   obtain⟨kd,vd,e5,e6,rfl⟩:=aI9 e3;have hks2:∃k2,cU (.tup [kd,vd]::ys)=some k2/\ks=kp++k2:=by
    rw[eout]at hks;obtain⟨k1,k2,q1,q2,q3⟩:=yq hks;rw[hkp]at q1;cases q1;exact⟨k2,q2,q3⟩
   obtain⟨k2,q1,q2⟩:=hks2;obtain⟨kk,k3,q3,q4,rfl⟩:=aEi q1;injection q3 with q3
   injection q3 with q5 q6
   injection q6 with q6
   subst q5 q6;refine hk (U1++U) Z4 H5 Y1 _ _ (R4.up s5) ?_;rw[e5];intro v H6 s6 r6;refine hv (U1++U) Z4 H6 Y1 _ _ ((R4.up s5).up s6) ?_;rw[e6];intro v2 H7 s7 r7;obtain⟨b,xs,rfl,hb,rxs⟩:=(r6.up s7).tup_inv;have ex:=rxs.ints_of;subst ex;have ev:=r7.bl_inv;subst ev;have hD7:=hD.mono ((s5.trans s6).trans s7);have B:mY l H7 (upd H7 l (dxO l (yF es kk b))):=λ b o ne hb=>by rw[aX ne];exact hb
   refine⟨b,kk,es,rfl,rfl,hb,hD7,hes,by omega,ds.length-(i+1),by omega,yF es kk b,pre++[.tup [.tup (kk.map .int),.bl true]],kp++[kk],rfl,hlt,⟨aZ,λ e he=>?_,?_⟩,λ e he=>?_,by have:=aCu es kk b;omega,?_,?_,(R2.up ((s5.trans s6).trans s7)).but_blk B hD7.at_ rfl h0l,?_,ys,e4,by rw[eout];simp⟩
   .unfold yF at he
    split at he
    .exact qD B hD7.at_ rfl (hD7.ks e he)
    .rcases zAd.mp he with he|he
     .exact qD B hD7.at_ rfl (hD7.ks e he)
     .rw[zAV.mp he];exact qD B hD7.at_ rfl hb
   .unfold yF
    split
    .exact hD7.nd
    .rename_i hn
     rw[zAk,zBS];refine⟨hD7.nd,by simp,λ a ha c hc z=>hn ?_⟩;rw[show c=kk by simpa using hc]at z;subst z;exact zBO.mpr ⟨a,ha,by simp⟩
   .unfold yF at he
    split at he
    .exact hes e he
    .rcases zAd.mp he with he|he
     .exact hes e he
     .rw[zAV.mp he]
   .exact v7 kk hkp
   .rw[aJg,<-hek]
    unfold yF oX;split
    .rfl
    .rw[zAk];rfl
   .exact λ b o hb=>B b o (λ z=>by subst z;rw[hHl]at hb;cases hb) ((((s2.trans s5).trans s6).trans s7) b o hb)
  .rw[if_neg zAO]
   exact⟨ds.length-(i+1),by omega,es,pre,kp,rfl,hlt,hD.mono s5,hes,by omega,hkp,hek,R2.up s5,s2.trans s5,post,e4,eout⟩
 .have ei:i=ds.length:=by omega
  subst ei;rw[zE7]at hpost;cases hpost;rw[zBC]at eout;subst eout;rw[hks]at hkp;cases hkp;refine .inl ⟨(jj _).1 (zAQ _),w _ H2 s2 ?_⟩;have e1:rz (ddL ks)= .dct (.non::es.map λ e=>.tup (e.1.map .int)) (es.map λ _=>.bl true):=by
   unfold rz;rw[<-hek,zAz,zAz];rfl
  rw[e1];exact .dT hD (.inl hHl) (aHv es hes)
end
def aHJ(p:Int×Tok):Int×Value:=(hashInt p.1,.int p.1 p.2)
def aDc(h:Heap)(a:Addr)(led:Bool)(ks:List Int):Prop:=∃es ep t,h.get? a=some (bz es ep t)/\dH t es.size/\t.led=led/\∃tks:List (Int×Tok),tks.map (·.1)=ks/\es.toList.Perm (tks.map aHJ)
section
variable{prog:zA2}{w:World}{A:zAc}{E:Value->zAG->Prop}{s:zAG}{a:Addr}{led:Bool}{ks:List Int}
def aEt{es:hV}{tks:List (Int×Tok)}(hp:es.toList.Perm (tks.map aHJ)):ElemsOf (zCA prog w) es.toList:=λ e he=>by
 obtain⟨p,_,rfl⟩:=zA3.mp (hp.mem_iff.mp he);exact⟨⟨p.1,zFX _ _ _ _,rfl⟩,rfl⟩
def aGu(T:dH t es.size)(h63:es.size<63)(h:Int)(x:Value):∃j,layNew t es h x=(zAy es (t.put j).2 (h,x),(t.put j).1,false,false)/\oG (t.put j).1 (es.size+1)/\(t.put j).1.led=t.led:=by
 obtain⟨j,j1,j2,j3⟩:=yH (hashAt:=λ _=>h+1) T (h:=h) λ i hi=>by omega
 obtain⟨P,p1,p2,p3,p4⟩:=aIJ T (by lia) j1 j2;have hes:(zAy es (t.put j).2 (h,x)).size=es.size+1:=pQ _ _ _;refine⟨j,?_,P,p4⟩;have hf:t.freeSlot h=some (j,false):=by unfold SetTable.freeSlot;rw[j3];rfl
 unfold layNew SetTable.orStandIn;rw[hf];dsimp only;rw[hes,P.fits];rfl
def aC7(P:oG t n)(hn:es.size=n)(h5:n=5\/n=19):∃es' t',relayAll t es (zCx es.size)=(es',t',false)/\dH t' es'.size/\t'.led=t.led/\es'.toList.Perm es.toList:=by
 obtain⟨t',order,r1,r2,r3,r4⟩:=aC6 P.pla h5 (es.map (·.1)) (by rw[zIn];exact hn);have pV:(order.filterMap (es[·]?)).toList.Perm es.toList:=by
  rw[zE5];refine(r4.filterMap _).trans ?_;rw[<-hn,zHn]
 have hes:(order.filterMap (es[·]?)).size=n:=by rw[<-zAU,pV.length_eq,zAU,hn]
 refine⟨order.filterMap (es[·]?),t',?_,by rw[hes];exact r2,r3,pV⟩;unfold relayAll;rw[hn,r1];have hc:coversAll order n=true:=List.isPerm_iff.mpr r4;dsimp only;rw[hes,hc,r2.fits];rfl
def aK1(S:aDc s.heap a led ks)(h63:ks.length<63)
  (q:∀h' b,zDI a s.heap h'->aDc h' a led (zBE ks k)->Q b {s with heap:=h',toks:=s.toks+1}):wpAny (model prog w) A (zJH a (.int k tk)) Q E s:=by
 obtain⟨es,ep,t,ho,T,hl,tks,hk,hp⟩:=S;have hel:ElemsOf (zCA prog w) es.toList:=aEt hp;have hsz:es.size=ks.length:=by rw[<-zAU,hp.length_eq,zAD,<-hk,zAD]
 have hb:es.size<zIi:=by rw[hsz];unfold zIi;omega
 have hany:∀e∈es.toList,(zCA prog w).is k e.2=true->k∈ks:=λ e he hi=>by
  obtain⟨p,hpm,rfl⟩:=zA3.mp (hp.mem_iff.mp he)
  have:k=p.1:=(zCA prog w).inj _ k p.1 hi (zFX _ _ _ _)
  rw[this,<-hk];exact zFF hpm
 unfold zJH;refine zBI (zAB ((zCA prog w).pyHash (k:=k) (zFX _ _ _ _) ?_));unfold setAddHashed setAddHashedIn;refine zBI (zAB (zBa (s:={s with toks:=s.toks+1}) ho rfl T.fits ?_));dsimp only;rw[byScan_of (knd:=zCA prog w) rfl hb hel];simp only[↓reduceIte];unfold setAddByScan;refine zAB (zAB (zG8 (zAB (wpAny_setScan_of (knd:=zCA prog w) (s:={s with toks:=s.toks+1}) (zFX _ _ _ _) ho rfl T.fits hel ?_))));cases hr:List.findIdx? (λ e=>(zCA prog w).is k e.2) es.toList with
 |some j=>
  obtain⟨hj,hpj,_⟩:=List.findIdx?_eq_some_iff_getElem.mp hr;have hin:=hany _ (zCj hj) hpj;dsimp only;refine zAF (zAF (q s.heap _ (Heap.SameBut.refl a s.heap) ?_))
  have:zBE ks k=ks:=by unfold zBE;rw[if_pos (zBO.mpr ⟨k,hin,by simp⟩)]
  rw[this];exact⟨es,ep,t,ho,T,hl,tks,hk,hp⟩
 |none=>
  have hno:k∉ks:=λ hin=>by
   rw[<-hk]at hin;obtain⟨p,hpm,e⟩:=zA3.mp hin;have he:aHJ p∈es.toList:=hp.mem_iff.mpr (zFF hpm)
   have:=List.findIdx?_eq_none_iff.mp hr _ he
   rw[<-e]at this;have z:(zCA prog w).is p.1 (.int p.1 p.2)=false:=this;rw[zFX]at z;cases z
  have hstep:zBE ks k=ks++[k]:=by
   unfold zBE;rw[if_neg];intro h;obtain⟨y,hy,e⟩:=zBO.mp h;exact hno (by rw[<-zDA e];exact hy)
  obtain⟨j,hL,P,pl⟩:=aGu T (by omega) ((zCA prog w).hash k) (.int k tk);have hes:(zAy es (t.put j).2 ((zCA prog w).hash k,zCz k tk)).size=es.size+1:=pQ _ _ _;have pV:(zAy es (t.put j).2 ((zCA prog w).hash k,zCz k tk)).toList.Perm ((tks++[(k,tk)]).map aHJ):=by
   have:=zES es (t.put j).2 ((zCA prog w).hash k,zCz k tk)
   rw[zEG]at this;rw[zAk];exact this.trans (hp.append_right _)
  have htk:(tks++[(k,tk)]).map (·.1)=zBE ks k:=by rw[hstep,zAk,hk];rfl
  dsimp only;rw[hL];dsimp only;refine zAB (zAF ?_);rw[P.pla];simp only[↓reduceIte];refine zAB (zAF ?_);simp only[↓reduceIte];generalize zAy es (t.put j).2 ((zCA prog w).hash k,zCz k tk)=es1 at hes pV ⊢;generalize (t.put j).1=t1 at P pl ⊢;refine zAB (aBE (s:={s with toks:=s.toks+1}) ho (by omega) λ e1=>?_);simp only[zDC,zDP];cases hf:t1.tooFull with
  |true=>
   obtain⟨es2,t2,hR,T2,l2,p2⟩:=aC7 P hes (P.full (by omega) hf);simp only[↓reduceIte];rw[hR];dsimp only;refine zAB (zAF ?_);have hz2:es2.size<=63:=by rw[<-zAU,p2.length_eq,zAU];omega
   refine zAB (aBE e1 (by lia) λ e2=>zAF (zAF (q _ _ ((zBR s.heap a _).trans (zBR _ a _)) ⟨es2,_,t2,e2,T2,l2.trans (pl.trans hl),_,htk,p2.trans pV⟩)))
  |false=>
   simp only[zA0,if_false];exact zAF (zAF (q _ _ (zBR ..) ⟨es1,_,t1,e1,by rw[hes];exact P.still hf,pl.trans hl,_,htk,pV⟩))
def aGZ{St:Nat->zAG->Prop}(W:WalksS prog w A.in1 I fp wr G n (λ i v=>vs.toArray[i]? =some v) St)(hSf:S∉fp)(hi:zB8 vs ns)(hn:n=vs.length)(h64:n<64)(led:Bool):
  ∀(k i:Nat) (s:zAG),n-i=k->i<=n->St i s->aDc s.heap S led (ddI (ns.take i))->(∀s',Moved (S::wr) G s s'->aDc s'.heap S led (ddI ns)->R (.ok (.ret .none)) s')->
   zCW (model prog w) A (.builtin "set.update.loop" ⟨[.ref S,.ref I],[]⟩) R s:=by
 have hSw:S∉wr:=λ h=>hSf (W.sub _ h)
 have hsb:∀b∈wr,b∈S::wr:=λ b hb=>zAH _ hb
 have kK:vs.length=ns.length:=zIL hi;have keep:∀{h h':Heap} {ks:List Int},aDc h S led ks->(∀o,h.get? S=some o->h'.get? S=some o)->aDc h' S led ks:=λ⟨es,ep,t,e,r⟩ k=>⟨es,ep,t,k _ e,r⟩
 intro k;induction k with
 |zero=>
  intro i s hk hi' hst hS hR;have hin':i=n:=by omega
  subst hin';refine zBi zCD ?_;rw[zB4 zBN _];show wpAny _ A.in1 (zDy (.ref I)>>=_) _ _ s;refine zAB (W.done s _ _ hst λ s' hm=>zAF (hR s' (hm.mono hsb) ?_));rw[zDX (by omega)]at hS;exact keep hS λ o e=>hm.heap S _ hSw e
 |succ k ih=>
  intro i s hk hi' hst hS hR;have hlt:i<n:=by omega
  refine zBi zCD ?_;rw[zB4 zBN _];show wpAny _ A.in1 (zDy (.ref I)>>=_) _ _ s;refine zAB (W.item i s _ _ hlt hst λ v s' hP' hst' hm=>?_);have hP:vs[i]? =some v:=by simpa using hP'
  obtain⟨t,rfl⟩:=zHl hi i v hP;have hS':aDc s'.heap S led (ddI (ns.take i)):=keep hS λ o e=>hm.heap S _ hSw e
  have hle:(ddI (ns.take i)).length<63:=by
   have h1:=aJi (ns.take i);rw[zCk]at h1;omega
  have hnx:zBE (ddI (ns.take i)) (ns.getD i 0)=ddI (ns.take (i+1)):=by
   have hx:ns[i]? =some (ns.getD i 0):=by
    rw[zAe,zAI (by omega)];rfl
   rw[zFa,hx,<-aJh];rfl
  show wpAny _ A.in1 (zCn [zCz (ns.getD i 0) t] (zJH S (.int (ns.getD i 0) t))>>=_) _ _ s';refine zAB (zBI (aK1 hS' hle λ h' b c1 c3=>?_));have kp:∀b o,b≠S->s'.heap.get? b=some o->h'.get? b=some o:=λ b o hb e=>by rw[c1.2 b hb];exact e
  rw[hnx]at c3;refine zAF ⟨zDG zBN _,ih (i+1) _ (by omega) hlt (W.frame _ s' _ _ hst' (zCs _) λ b hb o e=>kp b o (λ z=>hSf (z▸hb)) e) c3 λ s'' hm'' hS''=>?_⟩;exact hR s'' (zJV W.gtrans ((hm.mono hsb).then_heap (zCs _) λ b o hb e=>kp b o (λ z=>hb (z▸zAE)) e) hm'') hS''
def aBa{Q:Value->zAG->Prop}(hI:zB8 vs ns)(h64:vs.length<64)
  (h:∀(out:List Value) h' e,Vals ((sortI ns).map V.int) out->(∀b o,s.heap.get? b=some o->h'.get? b=some o)->h'.get? s.heap.objs.size=some (zCS "list" out.toArray e)->Q (.ref s.heap.objs.size) {s with heap:=h'}):
  wpAny (model prog w) A (zG2 vs>>=λ l=>zCn [l] (call (.builtin "list.sort") [l])>>=λ _=>ret l) (λ fin s'=>∃r,fin= .done (.ret r)/\Q r s') E s:=by
 refine zAB (zII ?_ (by rw[zCO];omega));have hoL:(s.heap.push (zCS "list" vs.toArray 0)).get? s.heap.objs.size=some (zCS "list" vs.toArray 0):=zAL _ rfl;refine zAB (zBI (zB9 slot_list_sort ⟨_,hoL,rfl⟩ entry_list_sort (list_sort_tree (s:={s with heap:=s.heap.push (zCS "list" vs.toArray 0)}) hoL hI h64 λ out ns' a1 a2 a3=>⟨_,rfl,zAF ⟨_,rfl,?_⟩⟩) (args_list_sort _)));have e:ns'=sortI ns:=zF0 (a2.trans (sortI_perm ns).symm) a3 (jY ns);subst e;have hne:∀b o,s.heap.get? b=some o->b≠s.heap.objs.size:=λ b o e=>zA4 (zAT e)
 have g0:=zEK hoL λ _=>(#[]:Array Value)
 have g1:=zAC (zCS "list" #[] 0) (zAC (zCS "tuple" vs.toArray 0) g0);have g2:=zEK g1 (λ _=>out);refine h out.toList _ _ (m7 a1) (λ b o e=>?_) (by rw[zHO];exact g2);unfold zG4;rw[zCb _ _ _ _ (hne b o e)];refine zAC _ (zAC _ ?_);rw[zCb _ _ _ _ (hne b o e)];exact zAC _ e
end
section
variable{X:Cx}
def aHlφ(w:World)(a:Addr)(ks:List Int):Heap->Prop:=λ h=>aDc h a (!w.params.followText "set-order") ks
def aMP(K:zAA)(w:World):List V->Hp->VK->Prop:=λ xs H Q=>∃p ns,xs=[.ref p]/\SqL K H p (ns.map V.int)/\ns.length<64/\∀a H',aV H H'->H' a=some (.ext (aHlφ w a (ddI ns)))->H a=none->Q (.ref a) H'
def aHR(hc:X.calm=true):cg X (.type "set") (aMP X.K X.w):=by
 intro kX s Z H xs us Q I r h;obtain⟨p,ns,rfl,hp,hz,q⟩:=h;obtain⟨u,rfl,ru⟩:=vals1 r;cases ru;have hh:X.A.in1.in1.in1.handled=none:=I.ok.hd hc;obtain⟨its,rv,pl,_⟩:=I.list hp;have hI:zB8 its ns:=intsAre_of rv;have kK:its.length=ns.length:=zIL hI;obtain⟨ol,hol,hcl,nl,hdl⟩:=pl.isList;have hlS:p<s.heap.objs.size:=zAT hol;refine PySem.wI (T:="list") (Φ:=aHlφ X.w s.heap.objs.size (ddI ns)) ⟨ol,hol,hcl⟩ F.sub_list_set zIK (by decide)
  (λ zD yB yA Q₁ k q=>zDg (s:={s with heap:=zD}) (items:=its.toArray) ⟨ol,k _ _ hol,hcl,nl,hdl⟩ q) (λ R hR=>?_) λ h' tk g1 g2=>?_
 .generalize hled:(!X.w.params.followText "set-order")=led at hR ⊢
  have hS:(s.heap.push (bz #[] 0 (.fresh 0 0 led))).get? s.heap.objs.size=some (bz #[] 0 (.fresh 0 0 led)):=zAL _ rfl;have hl1:(s.heap.push (bz #[] 0 (.fresh 0 0 led))).IsList p its.toArray:=⟨ol,zAC _ hol,hcl,nl,hdl⟩;have eW:p≠(s.heap.push (bz #[] 0 (.fresh 0 0 led))).objs.size:=by rw[zBB];exact zA4 (zCR hlS)
  have hSf:s.heap.objs.size∉[(s.heap.push (bz #[] 0 (.fresh 0 0 led))).objs.size,p]:=by
   rw[zBB];simp only[zAJ,zAg,or_false,not_or];exact⟨zA4 (zBs _),zC3 hlS⟩
  refine aGZ ((zGj hh _ p eW its.toArray).toS) hSf hI (by simp) (by simpa[kK]using hz) led (its.toArray.size-0) 0 _ (by simp) (zAj _) ⟨⟨_,zAL _ rfl,rfl,rfl⟩,(hl1.push _)⟩
   ⟨#[],0,_,zAC _ hS,dH.fresh led,rfl,[],rfl,zBJ _⟩ λ s' hm hS'=>?_
  obtain⟨h',g',d',tk',os'⟩:=s';have eg:g'=s.gens:=hm.gens;have ed:d'=s.drawn:=hm.drawn;have eo:os'=s.os:=hm.os;subst eg;subst ed;subst eo;refine hR h' tk' (by unfold aHlφ;rw[hled];exact hS') λ b o e=>hm.heap b o ?_ (zAC _ (zAC _ e))
  have hb:=zAT e;rw[zBB];simp only[zAJ,zAg,or_false,not_or];exact⟨zA4 hb,zA4 (zCR hb)⟩
 .have hfr:H s.heap.objs.size=none:=I.hok.fresh (zAQ _)
  obtain⟨es,ep,t,ge,r⟩:=id g1;exact⟨.ref s.heap.objs.size,upd H s.heap.objs.size (.ext (aHlφ X.w s.heap.objs.size (ddI ns))),I.laid (t':=tk) g2 (zAQ _) ⟨g1,⟨_,ge⟩,λ h1 h2 ⟨es,ep,t,e1,e2⟩ k=>⟨es,ep,t,k _ e1,e2⟩⟩,rfl,q _ _ (bD hfr _) aZ hfr⟩
def aIE(w:World):List V->Hp->VK->Prop:=λ xs H Q=>∃a ks,xs=[.ref a]/\H a=some (.ext (aHlφ w a ks))/\ks.length<64/\New H (.lst ((sortI ks).map V.int)) Q
theorem ints_of:∀(tks:List (Int×Tok)),zB8 (tks.map λ p=>zCz p.1 p.2) (tks.map (·.1))
 |[]=>.nil
 |p::r=>.cons _ _ (ints_of r)
def aBy(hc:X.calm=true):cg X (.builtin "sorted") (aIE X.w):=by
 intro kX s Z H xs us Q I r h;obtain⟨a,ks,rfl,ha,h64,q⟩:=h;obtain⟨u,rfl,ru⟩:=vals1 r;cases ru;obtain⟨⟨es,ep,t,e1,e2,e3,tks,hk,e4⟩,_,_⟩:=I.hok a _ ha;have hsz:es.size=ks.length:=by rw[<-zAU,e4.length_eq,zAD,<-hk,zAD]
 have hh:X.A.in1.handled=none:=I.ok.hd hc;refine my (wH (aFM (ep:=ep) e2 e3) hh e1 (by rw[hsz,zCO];omega) λ h1 tk vs1 k0 k1 k2 k3=>?_);have pV:(pL X.w a ep es).toList.Perm (tks.map aHJ):=(jZ X.w a ep es).trans e4;obtain⟨zs,z1,z2⟩:=nP (f:=aHJ) pV rfl;have hvs:vs1=zs.map λ p=>zCz p.1 p.2:=by
  have e5:(pL X.w a ep es).toList.map (·.2)=zs.map λ p=>zCz p.1 p.2:=by rw[z2,zAz];rfl
  have kK:(pL X.w a ep es).toList.length=es.size:=by rw[(jZ X.w a ep es).length_eq,zAU]
  rw[<-e5];refine zFq (by rw[k2,zAD,kK]) λ i g1 g2=>?_
  have:=k3 i _ (zAI g1)
  rw[<-zAf,<-zAY,zAI g2]at this;exact(zAa this).symm
 subst hvs;have hps:(zs.map (·.1)).Perm ks:=by rw[<-hk];exact z1.map _
 have hss:sortI (zs.map (·.1))=sortI ks:=zF0 (((sortI_perm _).trans hps).trans (sortI_perm ks).symm) (jY _) (jY _);refine aBa (s:={s with heap:=h1,toks:=tk}) (ints_of zs) (by rw[k2];omega) λ out h' e a1 a2 a3=>?_
 rw[hss]at a1;have hle:s.heap.objs.size<=h1.objs.size:=zBl k0;have hfr:H h1.objs.size=none:=I.hok.fresh hle;exact⟨.ref h1.objs.size,upd H h1.objs.size (.lst ((sortI ks).map V.int)),I.laid (t':=tk) (λ b o e=>a2 b o (k1 b o e)) hle ⟨by rw[zAD,(sortI_perm ks).length_eq];exact zAl (zBl h64) (by decide),out,e,a1,a3⟩,rfl,q.at hfr⟩
end
def oZ:List D->Rs D
 |[.lst l]=>match intsOf l with
  |some ns=>if ns.length<64 then .ok (.lst ((sortI (ddI ns)).map .int))else .st
  |none=>.st
 |_=>.st
section
variable{C:Ct}{pos pos2 p p2:Pos}{m:Mode}{a:Expr}{ga:En->Rs (List D)}
def zp(hm:C.mg "sorted"=none)(hm2:C.mg "set"=none)(ha:SA C m [a] ga)(he:∀i,zAZ [a] (C.X i).env=[(false,eval a (C.X i).env)]:=by intro _;rfl)(he2:∀i,zAZ [Expr.Call (.Name "set" p2) [a] [] pos2] (C.X i).env=[(false,eval (.Call (.Name "set" p2) [a] [] pos2) (C.X i).env)]:=by intro _;rfl)(hg:∀i,Gl (C.X i) "sorted":=by intro _;rfl)(hv:zAt "sorted"=some (.builtin "sorted"):=by decide+kernel)(hg2:∀i,Gl (C.X i) "set":=by intro _;rfl)(hv2:zAt "set"=some (.type "set"):=by decide+kernel):
  SE C (some []) (.Call (.Name "sorted" p) [.Call (.Name "set" p2) [a] [] pos2] [] pos) (opA oZ ga):=by
 obtain⟨t,h1,h2⟩:=ha;have hw:∀i,(C.X i).w=C.w:=λ i=>(C.cx i).2.1
 refine⟨tCB (aIE C.w) (jA (tCB (aMP C.K C.w) t) oK),λ i=>mD (by rw[<-hw i];exact aBy (C.calm i)) (hg i) (by rw[(C.cx i).2.2.2.1];exact hm) hv
  (ak (mC (by rw[<-C.hK i,<-hw i];exact aHR (C.calm i)) (hg2 i) (by rw[(C.cx i).2.2.2.1];exact hm2) hv2 (h1 i) (by decide) (by decide) (he i) rfl) cj (he2 i)) (by decide) (by decide) (he2 i) rfl,λ U Z H Y lab Q R W=>?_⟩
 refine h2 U Z H Y lab _ R (W.bd.imp λ ds _ w xs H1 s1 r1=>?_);obtain⟨z,ez,w⟩:=w.okD;unfold oZ at ez;split at ez
 .obtain⟨v,rfl,rd⟩:=r1.one_inv
  obtain⟨b,ys,rfl,hb,mb,rb⟩:=rd.lst_inv;split at ez
  .rename_i ns e
   split at ez
   .rename_i hl
    cases ez;rw[cW e]at rb;have ey:=rb.ints_of;subst ey;refine⟨b,ns,rfl,SqL.of hb,hl,λ c H2 s2 hc2 hn2=>⟨c,ddI ns,rfl,hc2,zC2 (aJi ns) hl,λ q H3 s3 hq hn3=>w _ H3 ((s1.trans s2).trans s3) (.lst hq (.inl ((s1.trans s2).free hn3)) Rps.ints)⟩⟩
   .cases ez
  .cases ez
 .cases ez
end
abbrev aPp:=List (Str×(List D->Rs D))
def fnOf(tab:aPp):Rs D->Option (List D->Rs D)
 | .ok (.fn x)=>tab.lookup x
 |_=>none
end VL
namespace HT
open PySem PySem.Spec PyProof.Rows
end HT
namespace VL
open PySem PySem.Spec PyProof.Rows L2
end VL
namespace PySem.AutoSeq1
end PySem.AutoSeq1
namespace VL
open PySem PySem.Spec PyProof.Rows L2
def Enr(K:zAA)(x:Str)(st:Stmt)(f:Addr)(fd:zAo):Prop:=L2.Fun K x x st f fd/\zAb K zA6 x=some (some (.ref f))
def enr{K:zAA}{st:Stmt}{oc kV dc pm cd ct:Value}(a:zAb K zA6 x=some (some (.ref f)))
  (l:K.lookup f=some ⟨oc,od,.func (zBz x x (nZ st) (dM st) (aJ st) .none kV dc pm an cd ct),sl⟩)(c:zDV K cd x=true)(k:zBx K (.ref f)=true):∃f fd,Enr K x st f fd:=⟨f,_,aOW (st:=st) l c k,a⟩
structure Dnr(K:zAA)(mg:Str->Option Value)(x:Str)(st:Stmt)(ps:List Str)(f:Addr)(d:zAo):Prop where
 F:L2.Fun K x x st f d
 m:mg x=some (.ref f)
 b:L2.Binds K d ps []
section
variable{C:Ct}
def ao{st:Stmt}(hF:dB C.prog C.w C.K C.mg C.base (CX1 C.prog C.w) k fn fd ps (spF C.K C.G.cl n F))(D:Dnr C.K C.mg x st ps fn fd)(ha:SA C m (e::es) ga)(hr:k<=C.k:=by exact zD9 rfl)(hg:∀i,Gl (C.X i) x:=by intro _;rfl)
  (hn:∀Y ds,ga Y= .ok ds->ds.length=n:=by repeat (first|exact λ _ _ h=>aLQ h|apply aIu))(hdb:Nd x:=by decide)(he:∀i,zAZ (e::es) (C.X i).env=(false,eval e (C.X i).env)::zAZ es (C.X i).env:=by intro _;rfl)
  (hpl:∀i,(zCo pos (zAZ es (C.X i).env)).any (·.1)=false:=by intro _;rfl):SE C (some []) (.Call (.Name x p) (e::es) [] pos) (aU F ga):=aK7 hF hr D.m D.F.kp D.b ha hn hdb he hpl hg
end
def bU{P:zA2}{w:World}{K:zAA}{st:Stmt}(D:Dnr K mg q st ps fn fd)(S:aY N ps (aJ st))(hb:N.Nodup->∀cdv A outer s H E hr,SSs (ctD P w K mg base N q (aJ st) fn cdv A outer s H E k hr) (dM st) f)(hn:ps.length=n:=by rfl)(hF:eF N.length f=FF:=by rfl):
  dB P w K mg base (CX1 P w) (k+1) fn fd ps (spF K (au mg) n FF):=aLj D.F S (hb S.nd) hn hF
section
variable{prog:zA2}{w:World}{A:zAc}{R:zFL->zAG->Prop}{I S:Addr}{fp wr:List Addr}{n:Nat}{P:Nat->Value->Prop}{St:Nat->Heap->Prop}{bt:Nat->Nat->Bool}
def aMH(prog:zA2)(w:World)(A:zAc)(P:Nat->Value->Prop)(St:Nat->Heap->Prop)(bt:Nat->Nat->Bool):Prop:=
 ∀i j k vi vj (s:zAG) (Q E:Value->zAG->Prop),St k s.heap->P i vi->P j vj->Q (.bool (bt i j)) s->wpAny (model prog w) A (zHK .Lt vi vj) Q E s
abbrev aOn(v:Value)(c:Nat):Obj:={cls:=.type "list",dict:=none,data:=.seq #[v,v] c,slots:=#[]}
abbrev aPo(prog:zA2)(w:World)(A:zAc)(I S:Addr)(R:zFL->zAG->Prop)(s:zAG):Prop:=zCW (model prog w) A (.builtin "min.loop" ⟨[.ref I,.none,.ref S],[]⟩) R s
abbrev aKD(wr:List Addr)(n:Nat)(P:Nat->Value->Prop)(bt:Nat->Nat->Bool)(S:Addr)(R:zFL->zAG->Prop)(s:zAG):Prop:=
 ∀v h' tk,P (zFl bt (n-1)) v->(∀b o,b∉wr->b≠S->s.heap.get? b=some o->h'.get? b=some o)->R (.ok (.ret v)) {s with heap:=h',toks:=tk}
def aLK(W:Walks prog w A.in1 I fp wr n P St)(hc:aMH prog w A.in1 P St bt)(hSf:S∉fp)(k:Nat):∀(j:Nat) (s:zAG) (vb:Value) (c:Nat),j+1+k=n->St (j+1) s.heap->P (zFl bt j) vb->
  s.heap.get? S=some (aOn vb c)->aKD wr n P bt S R s->aPo prog w A I S R s:=by
 have nw:S∉wr:=λ h=>hSf (W.sub _ h)
 have nm:(zEB "min"++zEB ".loop":String)="min.loop":=by decide
 induction k with
 |zero=>
  intro j s vb c hk st pb hS fin;refine zBi zGR ?_;rw[zB4 zCl _];show wpAny _ A.in1 (zHL (.ref S)>>=_) _ _ s;refine zAB (zBj hS rfl ?_);show wpAny _ A.in1 (zJI (zDy (.ref I)) _>>=_) _ _ s;refine zAB (zFg (W.done s _ _ (by rw[<-hk];exact st) λ h' tk kp=>?_));show wpAny _ A.in1 (updateSeq S (λ _=>#[])>>=_) _ _ _;refine zAB (zHM (kp S _ nw hS) rfl (zAB (zEP (zAF (fin vb _ tk ?_ λ b o b1 b2 e=>?_)))))
  .have:n-1=j:=by omega
   rw[this];exact pb
  .exact(zBu _ _ (zDU b2)).trans (kp b o b1 e)
 |succ k ih=>
  intro j s vb c hk st pb hS fin;refine zBi zGR ?_;rw[zB4 zCl _];show wpAny _ A.in1 (zHL (.ref S)>>=_) _ _ s;refine zAB (zBj hS rfl ?_);show wpAny _ A.in1 (zJI (zDy (.ref I)) _>>=_) _ _ s;refine zAB (zFg (W.item (j+1) s _ _ (by omega) st λ v h' tk pv st' kp=>?_));have hS':=kp S _ nw hS;show wpAny _ A.in1 (zJI (zCn [v,v] (zHK .Lt v vb>>=_)) _>>=_) _ _ _;refine zAB (zFg (zBI (zAB (hc (j+1) (zFl bt j) _ v vb _ _ _ st' pv pb ?_))));refine zAB (zBI (zBo (zAB (zEP (zAF ?_)))));cases hb:bt (j+1) (zFl bt j)with
  |true=>
   simp only[if_true];refine zAB (zHM hS' rfl (zAB (zEP ?_)));rw[nm];refine zAF ⟨zDG zCl _,ih (j+1) _ v _ (by omega) (W.frame _ _ _ st' λ b bf o e=>?_) (by simp only[zFl,hb,if_true];exact pv) (zC0 _ hS' rfl) λ v' h2 t2 p2 k2=>?_⟩
   .exact(zBu _ _ (λ h:S=b=>hSf (h▸bf))).trans e
   .exact fin v' h2 t2 p2 λ b o b1 b2 e=>k2 b o b1 b2 ((zBu _ _ (zDU b2)).trans (kp b o b1 e))
  |false=>
   simp only[zA0,if_false];refine zAB (zEP ?_);rw[nm];refine zAF ⟨zDG zCl _,ih (j+1) _ vb c (by omega) st' (by simp only[zFl,hb,zA0,if_false];exact pb) hS' λ v' h2 t2 p2 k2=>?_⟩;exact fin v' h2 t2 p2 λ b o b1 b2 e=>k2 b o b1 b2 (kp b o b1 e)
def aIo(W:Walks prog w A.in1 I fp wr n P St)(hc:aMH prog w A.in1 P St bt)(hSf:S∉fp)(hn:0<n){s:zAG}{c:Nat}(st:St 0 s.heap)
  (hS:s.heap.get? S=some {cls:=.type "list",dict:=none,data:=.seq #[] c,slots:=#[]})(fin:aKD wr n P bt S R s):aPo prog w A I S R s:=by
 have nw:S∉wr:=λ h=>hSf (W.sub _ h)
 have nm:(zEB "min"++zEB ".loop":String)="min.loop":=by decide
 refine zBi zGR ?_;rw[zB4 zCl _];show wpAny _ A.in1 (zHL (.ref S)>>=_) _ _ s;refine zAB (zBj hS rfl ?_);show wpAny _ A.in1 (zJI (zDy (.ref I)) _>>=_) _ _ s;refine zAB (zFg (W.item 0 s _ _ hn st λ v h' tk pv st' kp=>?_));have hS':=kp S _ nw hS;show wpAny _ A.in1 (updateSeq S (λ _=>#[v,v])>>=_) _ _ _;refine zAB (zHM hS' rfl ?_);rw[nm];refine zAF ⟨zDG zCl _,aLK W hc hSf (n-1) 0 _ v _ (by omega) (W.frame _ _ _ st' λ b bf o e=>?_) pv (zC0 _ hS' rfl) λ v' h2 t2 p2 k2=>?_⟩
 .exact(zBu _ _ (λ h:S=b=>hSf (h▸bf))).trans e
 .exact fin v' h2 t2 p2 λ b o b1 b2 e=>k2 b o b1 b2 ((zBu _ _ (zDU b2)).trans (kp b o b1 e))
abbrev aMd(prog:zA2)(w:World)(A:zAc)(Q:Value->zAG->Prop):Value->zAG->Prop:=λ it z4=>∃I fp wr n P St bt,it= .ref I/\Walks prog w A.in1 I fp wr n P St/\St 0 z4.heap/\(∀b∈fp,b<z4.heap.objs.size)/\0<n/\aMH prog w A.in1 P St bt/\
  ∀v h' tk,P (zFl bt (n-1)) v->(∀b o,b∉wr->z4.heap.get? b=some o->h'.get? b=some o)->Q v {z4 with heap:=h',toks:=tk}
def aGm{Q:Value->zAG->Prop}{it:Value}{z4:zAG}(h:aMd prog w A Q it z4):
  zCW (model prog w) A (.builtin "min.loop" ⟨[it,.none,.ref z4.heap.objs.size],[]⟩) (λ r s=>match r with| .ok (.ret v)=>Q v s|_=>False) {z4 with heap:=z4.heap.push {cls:=.type "list",data:=.seq #[]}}:=by
 obtain⟨I,fp,wr,n,P,St,bt,rfl,W,st,lo,hn,hc,q⟩:=h;refine aIo W hc (λ hm=>zBh _ (lo _ hm)) hn (W.frame _ _ _ st λ b _ o e=>zAC _ e) (zAL _ rfl) λ v h' tk pv k=>?_
 exact q v h' tk pv λ b o bw e=>k b o bw (zA4 (zAT e)) (zAC _ e)
end
section
variable{prog:zA2}{w:World}{A:zAc}{E:Value->zAG->Prop}{s:zAG}{Q:Value->zAG->Prop}
def aEz{a b:Value}(h:wpAny (model prog w) A.in1 (zHJ (.ref s.heap.objs.size)) (aMd prog w A Q) E {s with heap:=s.heap.push {cls:=.type "tuple",data:=.seq #[a,b]}}):wpAny (model prog w) A (call (.builtin "min") [a,b]) Q E s:=by
 have nm:(zEB "min"++zEB ".loop":String)="min.loop":=by decide
 refine call_function_tree F.kind_min F.plain_min F.entry_min (F.args_min2 _ _) ?_;show wpAny _ A.in1 (zEi "min" ["key","default"] 0 ⟨[],[]⟩>>=_) _ _ s;refine zAB (zFp (show zEi "min" ["key","default"] 0 ⟨[],[]⟩=pure [none,none]from rfl) ?_);show wpAny _ A.in1 (newTuple [a,b]>>=_) _ _ s;refine zAB (zAv (zAB (zBX h (λ it z4 y3=>?_) λ _ _ e=>e)));refine zAB (zAv ?_);rw[nm];refine zAF ⟨zDG zCl _,zDW (aGm y3) λ r s hr=>?_⟩
 match r,hr with
 | .ok (.ret v),hr=>exact hr
end
def za(items:Array Value)(nss:Nat->List Int)(h:Heap):Prop:=∀i v,items[i]? =some v->∃x its,v= .ref x/\IsTup h x its/\zB8 its.toList (nss i)
def rO(items:Array Value):List Addr:=items.toList.filterMap λ v=>match v with| .ref x=>some x|_=>none
def aEH{items:Array Value}{i:Nat}(h:items[i]? =some (zBF x)):x∈rO items:=by
 unfold rO;rw[zBp];exact⟨.ref x,by have:=zBf (l:=items.toList) (i:=i) (by simpa using h);exact this,rfl⟩
def za.keep(T:za items nss h)(k:∀b∈rO items,∀o,h.get? b=some o->h'.get? b=some o):za items nss h':=λ i v e=>by
 obtain⟨x,its,rfl,⟨o,h1,h2⟩,h3⟩:=T i v e;exact⟨x,its,rfl,⟨o,k x (aEH e) o h1,h2⟩,h3⟩
def aOk{items:Array Value}{nss:Nat->List Int}{St:Nat->Heap->Prop}(W:Walks prog w A I fp wr n (λ i v=>items[i]? =some v) St)(hw:∀b∈rO items,b∉wr):Walks prog w A I (fp++rO items) wr n (λ i v=>items[i]? =some v) (λ i h=>St i h/\za items nss h) where
 sub:=λ b hb=>zA7 _ (W.sub b hb)
 frame:=λ i h h' st k=>⟨W.frame i h h' st.1 λ b hb=>k b (zA7 _ hb),st.2.keep λ b hb=>k b (zA9 _ hb)⟩
 item:=λ i s Q E hi st q=>W.item i s Q E hi st.1 λ v h' tk pv st' kp=>q v h' tk pv ⟨st',st.2.keep λ b hb o=>kp b o (hw b hb)⟩ kp
 done:=λ s Q E st q=>W.done s Q E st.1 q
 self:=λ i s Q E st q=>W.self i s Q E st.1 q
def aHN{items:Array Value}{nss:Nat->List Int}{St:Nat->Heap->Prop}{A:zAc}(hu:A.units<cLine):aMH prog w A (λ i v=>items[i]? =some v) (λ i h=>St i h/\za items nss h) (λ i j=>HT.lexLt (nss i) (nss j)):=λ i j k vi vj s Q E st hi hj q=>by
 obtain⟨x,xs,rfl,x1,x2⟩:=st.2 i vi hi;obtain⟨y,ys,rfl,y1,y2⟩:=st.2 j vj hj;exact HT.yd x1 y1 x2 y2 hu q
def aEy(hu:X.A.units+1<cLine)(hc:X.calm=true):cg X (.builtin "min") (λ xs H Q=>∃a b ns ms,xs=[.ref a,.ref b]/\SqT X.K H a (ns.map V.int)/\SqT X.K H b (ms.map V.int)/\Q (.ref (if HT.lexLt ms ns then b else a)) H):=by
 intro kX s Z H xs us Q I r h;obtain⟨a,b,ns,ms,rfl,ha,hb,q⟩:=h;obtain⟨u,v,rfl,ru,rv⟩:=vals2 r;cases ru;cases rv;obtain⟨is1,r1,t1,-⟩:=I.tuple ha;obtain⟨is2,r2,t2,-⟩:=I.tuple hb;have la:a<s.heap.objs.size:=by obtain⟨o,e,_⟩:=t1;exact zAT e
 have lb:b<s.heap.objs.size:=by obtain⟨o,e,_⟩:=t2;exact zAT e
 have hT:(s.heap.push {cls:=.type "tuple",data:=.seq #[.ref a,.ref b]}).IsTuple s.heap.objs.size #[.ref a,.ref b]:=⟨_,zAL _ rfl,rfl,0,rfl⟩;have hsz:(s.heap.push {cls:=.type "tuple",data:=.seq #[.ref a,.ref b]}).objs.size=s.heap.objs.size+1:=zBB ..;have mem:∀x∈rO #[zBF a,.ref b],x=a\/x=b:=λ x hx=>by simpa[rO]using hx
 refine aEz (zD5 hT ⟨_,_,_,_,_,_,_,rfl,aOk (nss:=λ i=>if i=0 then ns else ms) (zJ1 (A:=X.A.in1) (I.ok.hd hc) _ s.heap.objs.size (by rw[hsz];exact zA4 (zBs _)) #[.ref a,.ref b]) ?_,⟨⟨⟨_,zAL _ rfl,rfl,rfl⟩,hT.push _⟩,?_⟩,?_,by simp,aHN hu,?_⟩)
 .intro x hx hw
  rw[zAV,hsz]at hw
  have:x<s.heap.objs.size:=by rcases mem x hx with rfl|rfl<;>assumption
  exact absurd (hw▸this) (zEV.mpr (zCs _))
 .intro i v e
  have up:∀{x its},IsTup s.heap x its->IsTup ((s.heap.push {cls:=.type "tuple",data:=.seq #[.ref a,.ref b]}).push {cls:=.type "tuple_iterator",data:=.fields #[.ref s.heap.objs.size,.int 0 0]}) x its:=λ⟨o,e,z⟩=>⟨o,zAC _ (zAC _ e),z⟩
  match i,e with
  |0,e=>cases e;exact⟨a,_,rfl,up t1,intsAre_of r1⟩
  |1,e=>cases e;exact⟨b,_,rfl,up t2,intsAre_of r2⟩
  |k+2,e=>simp at e
 .intro x hx
  show x<((s.heap.push _).push _).objs.size;rw[zBB,hsz];rcases zAd.mp hx with hx|hx
  .simp only[zAJ,zAg,or_false,hsz]at hx
   rcases hx with rfl|rfl
   .exact zBs _
   .exact zCR (zBs _)
  .have:x<s.heap.objs.size:=by rcases mem x hx with rfl|rfl<;>assumption
   exact zCR (zCR this)
 .intro v h' tk pv k
  refine⟨.ref (if HT.lexLt ms ns then b else a),H,I.kept λ c o e=>k c o (λ hm=>?_) (zAC _ (zAC _ e)),?_,q⟩
  .have:=zAT e
   rw[zAV,hsz]at hm;exact absurd (hm▸this) (zEV.mpr (zCs _))
  .have e2:zFl (λ i j=>HT.lexLt (if i=0 then ns else ms) (if j=0 then ns else ms)) ((#[zBF a,.ref b]).size-1)=if HT.lexLt ms ns then 1 else 0:=by simp[zFl]
   rw[e2]at pv;cases hl:HT.lexLt ms ns<;>rw[hl]at pv<;>cases pv<;>rfl
def pN:List D->Rs D
 |[.tup l,.tup m]=>match intsOf l,intsOf m with
  |some ns,some ms=>.ok (if HT.lexLt ms ns=true then .tup m else .tup l)
  |_,_=>.st
 |_=>.st
def aJk{K:zAA}:qx K (λ xs H Q=>∃a b ns ms,xs=[.ref a,.ref b]/\SqT K H a (ns.map V.int)/\SqT K H b (ms.map V.int)/\Q (.ref (if HT.lexLt ms ns then b else a)) H) pN:=by
 intro A xs ds H Q z r ez q;unfold pN at ez;split at ez
 .split at ez
  .rename_i l m _ _ ns ms e1 e2
   cases ez;cases r with
   |cons h r=>
    cases r with
    |cons h' r=>
     cases r;have k1:=h;have k2:=h';obtain⟨a,ys,rfl,sa,ra⟩:=h.tup_inv;obtain⟨b,zs,rfl,sb,rb⟩:=h'.tup_inv
     have:=cW e1
     subst this
     have:=cW e2
     subst this
     have:=ra.ints_of
     subst this
     have:=rb.ints_of
     subst this;refine⟨a,b,ns,ms,rfl,sa,sb,q _ H (aV.refl H) ?_⟩;cases HT.lexLt ms ns
     .exact k1.wk λ _ _ _ z=>.inr z
     .exact k2.wk λ _ _ _ z=>.inr z
  .cases ez
 .cases ez
def aHF(ns:List Int):qY (ns.map .int)=true:=by
 induction ns with
 |nil=>rfl
 |cons a l ih=>simp[qY,imm,ih]
def aJR:∀x z,pN x= .ok z->imm z=true:=by
 intro x z e;unfold pN at e;split at e
 .split at e
  .rename_i l m _ _ ns ms e1 e2
   cases e;rw[cW e1,cW e2];split<;>exact aHF _
  .cases e
 .cases e
section
variable{C:Ct}{pos p:Pos}{a b:Expr}{ga:En->Rs (List D)}{m:Mode}
def aHp(hm:C.mg "min"=none)(ha:SA C m [a,b] ga)(he:∀i,zAZ [a,b] (C.X i).env=(false,eval a (C.X i).env)::zAZ [b] (C.X i).env:=by intro _;rfl)
  (hpl:∀i,(zCo pos (zAZ [b] (C.X i).env)).any (·.1)=false:=by intro _;rfl)(hg:∀i,Gl (C.X i) "min":=by intro _;rfl)(hv:zAt "min"=some (.builtin "min"):=by decide+kernel):SE C (some []) (.Call (.Name "min" p) [a,b] [] pos) (opA pN ga):=
 eO (lr (λ i=>by have h:=aEy (X:=C.X i) (aPd (C.room i)) (C.calm i);rw[C.hK i]at h;exact h) aJk hg hm hv ha (by decide) (by decide) he hpl) λ _ _ h=>nU aJR h
end
def TupIter.ext{hp h':Heap}{it t i c}(h:Heap.IsTupleIter hp it t i)(e:zGL c hp h')(n:it≠c):h'.IsTupleIter it t i:=h.at λ o q=>e it o n q
def IsTup.ext{hp h':Heap}{t c xs}(h:zHS hp t xs)(e:zGL c hp h')(n:t≠c):h'.IsTuple t xs:=let⟨o,q,r⟩:=h;⟨o,e t o n q,r⟩
section
variable{prog:zA2}{w:World}{A:zAc}{E:Value->zAG->Prop}{s:zAG}{z TI TO i1 i2 l1 l2:Addr}{k:Nat}{xs ys:Array Value}{x y a b:Value}
def aGK{Q:Value->zAG->Prop}(D:ZipApart z TI TO i1 i2 l1 l2)(hz:IsZip s.heap z TI TO .none)(hTI:zEH s.heap TI (.ref i1) (.ref i2))(hTO:zEH s.heap TO a b)
  (p1:s.heap.IsTupleIter i1 l1 k)(p2:s.heap.IsTupleIter i2 l2 k)(t1:s.heap.IsTuple l1 xs)(t2:s.heap.IsTuple l2 ys)(hx:xs[k]? =some x)(hy:ys[k]? =some y)
  (hQ:∀h',IsZip h' z TI TO (zGk s.heap.objs.size)->zEH h' TO x y->h'.IsTupleIter i1 l1 (k+1)->h'.IsTupleIter i2 l2 (k+1)->zEH h' s.heap.objs.size x y->
   (∀c o,c∉[z,TO,i1,i2]->s.heap.get? c=some o->h'.get? c=some o)->Q (.ref s.heap.objs.size) {s with heap:=h'}):
  wpAny (model prog w) A (zDq.«zip.__next__» ⟨[.ref z],[]⟩) (λ fin s'=>∃v,fin= .done (.ret v)/\Q v s') E s:=by
 show wpAny _ _ (field (.ref z) 2>>=_) _ _ _;refine zAB (zBg hz rfl (x:=.bool false) rfl ?_);show wpAny _ _ (field (.ref z) 3>>=_) _ _ _;refine zAB (zBg hz rfl (x:=.ref TI) rfl (zAB (zBj hTI rfl ?_)));show wpAny _ _ (zCB (.ref z)>>=_) _ _ _;refine zAB ?_;unfold zCB;refine zAB (zBg hz rfl (x:=.none) rfl (zAF ?_));simp only[if_true];refine zAB (zG8 (zAB (zBg hz rfl (x:=.ref TO) rfl (zAB (zD6 hz (by simp) λ j1 (z1:IsZip j1 z TI TO .ellipsis) s1=>zAB ?_)))));simp only[zI7,zIo,zGM,zIt];refine zAB (zAB (zGI ?_));show wpAny _ _ (zBQ (.ref i1)>>=_) _ _ _;refine zAB (rQ (TupIter.ext p1 s1.extBut D.i1z) (IsTup.ext t1 s1.extBut D.l1z) hx λ j2 q2 s2=>zAF ?_);have o2:zEH j2 TO a b:=s2.extBut _ _ D.TOi1 (s1.extBut _ _ D.TOz hTO);refine zAB (zBj o2 rfl (zAB (zF4 o2 λ j3 (o3:zEH j3 TO x b) s3=>zAB (zEP (zAF (zAB (zAB (zGI ?_))))))));show wpAny _ _ (zBQ (.ref i2)>>=_) _ _ _;refine zAB (rQ (TupIter.ext (TupIter.ext (TupIter.ext p2 s1.extBut D.i2z) s2.extBut D.i12.symm) s3.extBut D.TOi2.symm) (IsTup.ext (IsTup.ext (IsTup.ext t2 s1.extBut D.l2z) s2.extBut D.l2i1) s3.extBut D.l2TO) hy λ j4 q4 s4=>zAF ?_);have o4:zEH j4 TO x b:=s4.extBut _ _ D.TOi2 o3;refine zAB (zBj o4 rfl (zAB (zF4 o4 λ j5 (o5:zEH j5 TO x y) s5=>zAB (zEP (zAF (zAF (zAB (zBj o5 rfl (zAB (wpAny_newTuple ?_))))))))));have sz:j5.objs.size=s.heap.objs.size:=by rw[s5.1,s4.1,s3.1,s2.1,s1.1]
 have z5:IsZip j5 z TI TO .ellipsis:=s5.extBut _ _ D.TOz.symm (s4.extBut _ _ D.i2z.symm (s3.extBut _ _ D.TOz.symm (s2.extBut _ _ D.i1z.symm z1)));have k5:∀c o,c∉[z,TO,i1,i2]->s.heap.get? c=some o->j5.get? c=some o:=λ c o n e=>by
  simp only[zAJ,zAg,or_false,not_or]at n;exact s5.extBut _ _ n.2.1 (s4.extBut _ _ n.2.2.2 (s3.extBut _ _ n.2.1 (s2.extBut _ _ n.2.2.1 (s1.extBut _ _ n.1 e))))
 have q15:j5.IsTupleIter i1 l1 (k+1):=TupIter.ext (TupIter.ext (TupIter.ext q2 s3.extBut D.TOi1.symm) s4.extBut D.i12) s5.extBut D.TOi1.symm;have q25:j5.IsTupleIter i2 l2 (k+1):=TupIter.ext q4 s5.extBut D.TOi2.symm;have lz:z<j5.objs.size:=zAT z5;show wpAny _ _ (zDr (.ref z) (.ref j5.objs.size)>>=_) _ _ _;refine zAB ?_;unfold zDr;have z6:IsZip (j5.push {cls:=.type "tuple",data:=.seq #[x,y]}) z TI TO .ellipsis:=zAC _ z5;refine zAB (zD6 z6 (by simp) λ j7 (z7:IsZip j7 z TI TO (zGk j5.objs.size)) s7=>zD6 z7 (by simp) λ j8 (z8:IsZip j8 z TI TO (zGk j5.objs.size)) s8=>?_);have up:∀c o,c≠z->j5.get? c=some o->j8.get? c=some o:=λ c o n e=>s8.extBut _ _ n (s7.extBut _ _ n (zAC _ e))
 have t8:zEH j8 j5.objs.size x y:=s8.extBut _ _ (zC3 lz) (s7.extBut _ _ (zC3 lz) (zAL _ rfl));rw[sz]at z8 t8;refine zAF ⟨_,rfl,?_⟩;show Q (.ref j5.objs.size) _;rw[sz];exact hQ j8 z8 (up _ _ D.TOz o5) (q15.at λ o e=>up _ o D.i1z e) (q25.at λ o e=>up _ o D.i2z e) t8 λ c o n e=>up c o (λ q=>n (by simp[q])) (k5 c o n e)
def aH2{Q:Fin->zAG->Prop}(hh:A.handled=none)(D:ZipApart z TI TO i1 i2 l1 l2)(hz:IsZip s.heap z TI TO .none)(hTI:zEH s.heap TI (.ref i1) (.ref i2))(hTO:zEH s.heap TO a b)
  (p1:s.heap.IsTupleIter i1 l1 k)(p2:s.heap.IsTupleIter i2 l2 k)(t1:s.heap.IsTuple l1 xs)(t2:s.heap.IsTuple l2 ys)(eB:xs[k]? =none\/ys[k]? =none)
  (hE:∀h' e,(∀c o,c∉[z,TO,i1,i2]->s.heap.get? c=some o->h'.get? c=some o)->(∃o,h'.get? e=some o/\o.cls= .type "StopIteration")->E (.ref e) {s with heap:=h'}):
  wpAny (model prog w) A (zDq.«zip.__next__» ⟨[.ref z],[]⟩) Q E s:=by
 show wpAny _ _ (field (.ref z) 2>>=_) _ _ _;refine zAB (zBg hz rfl (x:=.bool false) rfl ?_);show wpAny _ _ (field (.ref z) 3>>=_) _ _ _;refine zAB (zBg hz rfl (x:=.ref TI) rfl (zAB (zBj hTI rfl ?_)));show wpAny _ _ (zCB (.ref z)>>=_) _ _ _;refine zAB ?_;unfold zCB;refine zAB (zBg hz rfl (x:=.none) rfl (zAF ?_));simp only[if_true];refine zAB (zG8 (zAB (zBg hz rfl (x:=.ref TO) rfl (zAB (zD6 hz (by simp) λ j1 (z1:IsZip j1 z TI TO .ellipsis) s1=>zAB ?_)))));simp only[zI7,zIo,zGM,zIt];refine zAB (zAB (zGI ?_));show wpAny _ _ (zBQ (.ref i1)>>=_) _ _ _;have fin:∀{j:Heap} {e:Addr},IsZip j z TI TO .ellipsis->(∀c o,c∉[z,TO,i1,i2]->s.heap.get? c=some o->j.get? c=some o)->(∃o,j.get? e=some o/\o.cls= .type "StopIteration")->wpAny (model prog w) A (setField (.ref z) 0 .none) (λ _ s'=>E (.ref e) s') E {s with heap:=j}:=λ{j e} zj kj ⟨oe,he,ce⟩=>by
  have ne:e≠z:=λ q=>by subst q;rw[zj]at he;cases he;simp at ce
  exact zD6 zj (by simp) λ j' _ sj=>hE j' e (λ c o n q=>sj.extBut _ _ (λ q=>n (by simp[q])) (kj c o n q)) ⟨oe,sj.extBut _ _ ne he,ce⟩
 cases hx:xs[k]? with
 |none=>
  refine zAB (aAV hh (TupIter.ext p1 s1.extBut D.i1z) (IsTup.ext t1 s1.extBut D.l1z) hx λ j2 e s2 he=>?_);refine fin (s2 _ _ D.i1z.symm z1) (λ c o n q=>?_) he;simp only[zAJ,zAg,or_false,not_or]at n;exact s2 _ _ n.2.2.1 (s1.extBut _ _ n.1 q)
 |some x=>
  have hy:ys[k]? =none:=by rcases eB with h|h;rw[hx]at h;cases h;exact h
  refine zAB (rQ (TupIter.ext p1 s1.extBut D.i1z) (IsTup.ext t1 s1.extBut D.l1z) hx λ j2 q2 s2=>zAF ?_);have o2:zEH j2 TO a b:=s2.extBut _ _ D.TOi1 (s1.extBut _ _ D.TOz hTO);refine zAB (zBj o2 rfl (zAB (zF4 o2 λ j3 (o3:zEH j3 TO x b) s3=>zAB (zEP (zAF (zAB (zAB (zGI ?_))))))));show wpAny _ _ (zBQ (.ref i2)>>=_) _ _ _;refine zAB (aAV hh (TupIter.ext (TupIter.ext (TupIter.ext p2 s1.extBut D.i2z) s2.extBut D.i12.symm) s3.extBut D.TOi2.symm) (IsTup.ext (IsTup.ext (IsTup.ext t2 s1.extBut D.l2z) s2.extBut D.l2i1) s3.extBut D.l2TO) hy λ j4 e s4 he=>?_);refine fin (s4 _ _ D.i2z.symm (s3.extBut _ _ D.TOz.symm (s2.extBut _ _ D.i1z.symm z1))) (λ c o n q=>?_) he;simp only[zAJ,zAg,or_false,not_or]at n;exact s4 _ _ n.2.2.2 (s3.extBut _ _ n.2.1 (s2.extBut _ _ n.2.2.1 (s1.extBut _ _ n.1 q)))
def aE0(l1 l2:Addr)(xs ys:Array Value):
  Meets (zDq.«zip.__new__» ⟨[.type "zip",.ref l1,.ref l2],[]⟩) (λ _ R s=>s.heap.IsTuple l1 xs/\s.heap.IsTuple l2 ys/\
   ∀h1 h2 h3 h4,h1=s.heap.push {cls:=.type "tuple_iterator",data:=.fields #[.ref l1,.int 0 0]}->h2=h1.push {cls:=.type "tuple_iterator",data:=.fields #[.ref l2,.int 0 0]}->h3=h2.push {cls:=.type "tuple",data:=.seq #[.ref s.heap.objs.size,.ref h1.objs.size]}->h4=h3.push {cls:=.type "tuple",data:=.seq #[.none,.none]}->
   R (.ok (.ret (.ref h4.objs.size))) {s with heap:=h4.push {cls:=.type "zip",data:=.fields #[.none,.bool false,.bool false,.ref h2.objs.size,.ref h3.objs.size]}}):=
 .of_wp λ prog w A R s h=>by
  obtain⟨hp,g,d,tk,os⟩:=s;obtain⟨u1,u2,h⟩:=h;have bE:=sub_zip;have v1:zHS (zJF ⟨hp,g,d,tk,os⟩) l1 xs:=u1;have v2:zHS (zJF ⟨hp.push {cls:=.type "tuple_iterator",data:=.fields #[.ref l1,.int 0 0]},g,d,tk,os⟩) l2 ys:=let⟨o,q,r⟩:=u2;⟨o,zAC _ q,r⟩
  wp_walk using zD5 v1,zD5 v2;exact⟨_,rfl,h _ _ _ _ rfl rfl rfl rfl⟩
def aHP{Q:Value->zAG->Prop}(t1:s.heap.IsTuple l1 xs)(t2:s.heap.IsTuple l2 ys)
  (h:∀h' n,n=s.heap.objs.size->IsZip h' (n+4) (n+2) (n+3) .none->zEH h' (n+2) (.ref n) (.ref (n+1))->zEH h' (n+3) .none .none->h'.IsTupleIter n l1 0->h'.IsTupleIter (n+1) l2 0->
   (∀c o,s.heap.get? c=some o->h'.get? c=some o)->Q (.ref (n+4)) {s with heap:=h'}):
  wpAny (model prog w) A (call (.type "zip") [.ref l1,.ref l2]) Q E s:=by
 refine callType_new F.called_zip (by decide) (F.typeCall_zip_2 _ _) (F.newCall_zip_2 _ _) (λ obj=>F.args_object_init_3 obj _ _) F.entry_zip_new (aE0 l1 l2 xs ys) ⟨t1,t2,λ h1 h2 h3 h4 e1 e2 e3 e4=>?_⟩;have n1:h1.objs.size=s.heap.objs.size+1:=by rw[e1,zBB]
 have n2:h2.objs.size=s.heap.objs.size+2:=by rw[e2,zBB,n1]
 have n3:h3.objs.size=s.heap.objs.size+3:=by rw[e3,zBB,n2]
 have n4:h4.objs.size=s.heap.objs.size+4:=by rw[e4,zBB,n3]
 have up1:∀c o,s.heap.get? c=some o->h1.get? c=some o:=λ c o q=>by rw[e1];exact zAC _ q
 have up2:∀c o,h1.get? c=some o->h2.get? c=some o:=λ c o q=>by rw[e2];exact zAC _ q
 have up3:∀c o,h2.get? c=some o->h3.get? c=some o:=λ c o q=>by rw[e3];exact zAC _ q
 have up4:∀c o,h3.get? c=some o->h4.get? c=some o:=λ c o q=>by rw[e4];exact zAC _ q
 have g1:=zAL s.heap (o:={cls:=.type "tuple_iterator",data:=.fields #[.ref l1,.int 0 0]}) rfl;have g2:=zAL h1 (o:={cls:=.type "tuple_iterator",data:=.fields #[.ref l2,.int 0 0]}) rfl;have g3:=zAL h2 (o:={cls:=.type "tuple",data:=.seq #[.ref s.heap.objs.size,.ref h1.objs.size]}) rfl;have g4:=zAL h3 (o:={cls:=.type "tuple",data:=.seq #[.none,.none]}) rfl;rw[<-e1]at g1;rw[<-e2]at g2;rw[<-e3]at g3;rw[<-e4]at g4;have g5:=zAL h4 (o:={cls:=.type "zip",data:=.fields #[.none,.bool false,.bool false,.ref h2.objs.size,.ref h3.objs.size]}) rfl;show _/\_;rw[n2,n3,n4]at g5;rw[n3]at g4;rw[n1,n2]at g3;rw[n1]at g2;rw[n4,n2,n3];exact⟨⟨_,g5,rfl⟩,h _ _ rfl g5 (zAC _ (up4 _ _ g3)) (zAC _ g4) ⟨_,zAC _ (up4 _ _ (up3 _ _ (up2 _ _ g1))),rfl,rfl⟩ ⟨_,zAC _ (up4 _ _ (up3 _ _ g2)),rfl,rfl⟩
  λ c o q=>zAC _ (up4 _ _ (up3 _ _ (up2 _ _ (up1 _ _ q))))⟩
end
def aHD{X:Cx}{kX:hZ}{Z:List (Option V)}{H:Hp}{s:zAG}{h':Heap}{ch:List Addr}{t':Nat}(I:Inv X kX Z H s)(hf:∀b∈ch,sI X kX H b)(k:∀b u,b∉ch->s.heap.get? b=some u->h'.get? b=some u):
  Inv X kX Z H {s with heap:=h',toks:=t'}:=by
 have nch:∀b u,H b=some u->b∉ch:=λ b u e z=>by have:=(hf b z).1;rw[e]at this;cases this
 refine I.call (g':=s.gens) (d':=s.drawn) (ch:=ch) ⟨λ b u q _ _ hx=>k b u hx q,λ b u q _ _ hx=>⟨u.slots,k b u hx q⟩,λ b u q n _=>n,λ b u q hx=>⟨u,k b u hx q⟩,λ b xs q=>q,λ b u xs q=>q,λ b ps q=>⟨#[],by rw[q];simp⟩⟩ (λ b u e=>?_) I.bare
  λ b hb=>let⟨_,f1,_,f3,f4,f5⟩:=hf b hb;⟨f3,f1,f4,f5⟩
 refine(I.hok b u e).stay (λ c v hc q=>k c v ?_ q) (λ c q=>q) λ c xs q=>q
 rcases hc with rfl|hc
 .exact nch _ _ e
 .exact nch _ _ hc
def Itz(K:zAA)(a b:Addr):It:=
 ⟨λ i H=>∃xs ys x y,SqT K H a xs/\SqT K H b ys/\xs[i]? =some x/\ys[i]? =some y,λ i H v H'=>∃p x y,v= .ref p/\H p=none/\H'=upd H p (.tup [x,y])/\(∀xs,SqT K H a xs->xs[i]? =some x)/\∀ys,SqT K H b ys->ys[i]? =some y,λ i H=>∃xs ys,SqT K H a xs/\SqT K H b ys/\(xs.length<=i\/ys.length<=i)⟩
def aH9{P:zA2}{w:World}{K:zAA}{elts:List Expr}{x1:Nat}{ps:Pos}(a b z TI TO i1 i2:Addr)(D:ZipApart z TI TO i1 i2 a b):
  Turn P w K (.Tuple elts x1 ps) (Itz K a b) [z,TI,TO,i1,i2] z (λ i h=>IsZip h z TI TO .none/\zEH h TI (.ref i1) (.ref i2)/\(∃u v,zEH h TO u v)/\h.IsTupleIter i1 a i/\h.IsTupleIter i2 b i) where
 mem:=by simp
 obj:=λ i h ⟨e1,e2,⟨u,v,e3⟩,⟨o4,e4,_,d4⟩,o5,e5,_,d5⟩ c hc=>by
  simp only[zAJ,zAg,or_false]at hc;rcases hc with rfl|rfl|rfl|rfl|rfl
  .exact⟨_,e1,λ v z=>by cases z⟩
  .exact⟨_,e2,λ v z=>by cases z⟩
  .exact⟨_,e3,λ v z=>by cases z⟩
  .exact⟨o4,e4,λ v z=>by rw[d4]at z;cases z⟩
  .exact⟨o5,e5,λ v z=>by rw[d5]at z;cases z⟩
 keep:=λ i h h' ⟨e1,e2,⟨u,v,e3⟩,e4,e5⟩ k=>⟨k _ (by simp) _ e1,k _ (by simp) _ e2,⟨u,v,k _ (by simp) _ e3⟩,e4.at λ o q=>k _ (by simp) o q,e5.at λ o q=>k _ (by simp) o q⟩
 item:=by
  intro X hP hw hK hc i kX s Z H E I hf st hg;subst hP hw hK;obtain⟨xs,ys,x,y,q1,q2,hx,hy⟩:=hg;obtain⟨its,rv,p,hz⟩:=I.tuple q1;obtain⟨its2,rv2,p2,hz2⟩:=I.tuple q2;obtain⟨u,hu,ru⟩:=rv.get hx;obtain⟨u2,hu2,ru2⟩:=rv2.get hy;obtain⟨e1,e2,⟨c,d,e3⟩,e4,e5⟩:=st;have hT:s.TypeIs (.ref z) "zip":=⟨_,e1,rfl⟩;unfold zDy;refine zAB (zGH (zB5 (name:=zCt "__next__") hT zEx (zB9 zEx hT zJA (aGK D e1 e2 e3 e4 e5 p p2 (x:=u) (y:=u2) (by simpa using hu) (by simpa using hu2) λ h' f1 f2 f3 f4 f5 k=>zAF ⟨_,rfl,?_⟩) (zIs _))));have lt:∀{c o},s.heap.get? c=some o->c≠s.heap.objs.size:=λ e=>zA4 (zAT e)
  have n1:i1≠s.heap.objs.size:=by obtain⟨_,e,_⟩:=e4;exact lt e
  have n2:i2≠s.heap.objs.size:=by obtain⟨_,e,_⟩:=e5;exact lt e
  refine wpAny_letOwnedTupleGo_zip f1 λ h2 z2 s2=>⟨.ref s.heap.objs.size,upd H s.heap.objs.size (.tup [x,y]),?_,rfl,⟨_,x,y,rfl,I.hok.fresh (zAQ _),rfl,λ l hl=>by rw[I.tuple_inj hl q1];exact hx,λ l hl=>by rw[I.tuple_inj hl q2];exact hy⟩,
   ⟨z2,s2.extBut _ _ D.TIz (k _ _ (by simp[D.TIz,D.TITO,D.TIi1,D.TIi2]) e2),⟨_,_,s2.extBut _ _ D.TOz f2⟩,TupIter.ext f3 s2.extBut D.i1z,TupIter.ext f4 s2.extBut D.i2z⟩,λ c hc=>?_⟩
  .refine aJN (s:=s) (h':=h2) (t':=s.toks) (ch:=[z,TI,TO,i1,i2]) I hf (λ c v hc q=>(s2.2 c λ e=>hc (by simp[e])).trans (k c v (λ m=>hc ?_) q)) (zAQ _) ⟨⟨by simp[zCO],NoD.at ((s2.2 _ (lt e1).symm).trans f5)⟩,[u,u2],.cons ru (.cons ru2 .nil),_,(s2.2 _ (lt e1).symm).trans f5,rfl,_,rfl⟩
   simp only[zAJ,zAg,or_false]at m ⊢;rcases m with m|m|m|m<;>simp[m]
  .have:=(hf c hc).1
   rw[aX]
   .exact this
   .rintro rfl
    simp only[zAJ,zAg,or_false]at hc;rcases hc with m|m|m|m|m
    .exact lt e1 m.symm
    .exact lt e2 m.symm
    .exact lt e3 m.symm
    .exact n1 m.symm
    .exact n2 m.symm
 done:=by
  intro X hP hw hK hc i kX s Z H E I hf st hg;subst hP hw hK;obtain⟨xs,ys,q1,q2,hx⟩:=hg;obtain⟨its,rv,p,hz⟩:=I.tuple q1;obtain⟨its2,rv2,p2,hz2⟩:=I.tuple q2;obtain⟨e1,e2,⟨c,d,e3⟩,e4,e5⟩:=st;have hT:s.TypeIs (.ref z) "zip":=⟨_,e1,rfl⟩;have hl:=rv.length;have hl2:=rv2.length;unfold zDy;refine zAB (zGH (zB5 (name:=zCt "__next__") hT zEx (zB9 zEx hT zJA (aH2 (I.ok.hd hc) D e1 e2 e3 e4 e5 p p2 (by simp;lia) λ h' e k he=>?_) (zIs _))));obtain⟨o,ho,hc⟩:=he;refine zAB (zGv (T:="StopIteration") (b:=true) ⟨o,ho,hc⟩ isSubtype_stop ?_);refine zAF ⟨rfl,aHD (t':=s.toks) (ch:=[z,TI,TO,i1,i2]) I hf λ c v hc q=>k c v (λ m=>hc ?_) q⟩;simp only[zAJ,zAg,or_false]at m ⊢;rcases m with m|m|m|m<;>simp[m]
 self:=λ _ _ _ _ _ st h=>wpAny_pyIter_zip st.1 h
def aP9(K:zAA)(tl:TA):TI:=λ Z H R=>tl Z H λ xs H1=>∃a b,xs=[.ref a,.ref b]/\(∃ys,SqT K H1 a ys)/\(∃ys,SqT K H1 b ys)/\R (Itz K a b) H1
def aNO{X:Cx}{elts:List Expr}{x1:Nat}{ps p pos:Pos}{l m:Expr}{tl:TA}(hl:PA X [l,m] tl)(hg:Gl X "zip")(hm:X.mg "zip"=none)(hv:zAt "zip"=some (.type "zip"))
  (hs:zAZ [l,m] X.env=[(false,eval l X.env),(false,eval m X.env)]:=by rfl)(hs2:zAZ [m] X.env=[(false,eval m X.env)]:=by rfl):PI X (.Tuple elts x1 ps) (.Call (.Name "zip" p) [l,m] [] pos) (aP9 X.K tl):=by
 intro kX s Z H R I h;refine zCM (rR I hg hm hv ?_ (by decide) (by decide));refine zCc (thn (hl pos kX s Z H _ I h) λ us s1 ⟨vs,H1,I1,r1,a,b,e,⟨ys,hy⟩,⟨ys2,hy2⟩,q⟩=>?_) (by rw[hs,hs2]) (by rw[hs2];rfl);subst e;obtain⟨u,u2,rfl,ru,ru2⟩:∃u u2,us=[u,u2]/\RelV (.ref a) u/\RelV (.ref b) u2:=by
  cases r1 with
  |cons r rr=>
   cases rr with
   |cons r' rr=>cases rr;exact⟨_,_,rfl,r,r'⟩
 cases ru;cases ru2;obtain⟨its,rv,pp,hz⟩:=I1.tuple hy;obtain⟨its2,rv2,pp2,hz2⟩:=I1.tuple hy2;have ha:a<s1.heap.objs.size:=let⟨o,ho,_⟩:=pp;zAT ho
 have hb:b<s1.heap.objs.size:=let⟨o,ho,_⟩:=pp2;zAT ho
 refine aHP pp pp2 λ h' n en e1 e2 e3 e4 e5 hk=>wpAny_pyIter_zip e1 ?_
 rw[<-en]at ha hb;refine⟨_,[n+4,n+2,n+3,n,n+1],_,_,H1,rfl,I1.kept (t':=s1.toks) hk,aH9 a b (n+4) (n+2) (n+3) n (n+1) ⟨by lia,by lia,by lia,by lia,by lia,by lia,by lia,by lia,by lia,by lia,by lia,by lia,by lia,by lia,by lia,by lia,by lia,by lia⟩,⟨e1,e2,⟨_,_,e3⟩,e4,e5⟩,λ c hc=>?_,q⟩;have hle:s1.heap.objs.size<=c:=by
  simp only[zAJ,zAg,or_false]at hc;lia
 exact I1.fpOk hle (I1.hok.fresh hle)
def aCM(l m:List D):List D:=(l.zip m).map λ p=>.tup [p.1,p.2]
def aGL:List D->Rs (List D)
 |[.tup l,.tup m]=>.ok (aCM l m)
 |_=>.st
def aOG{K:zAA}{lab:Lab}{H:Hp}{a b:Addr}{xs ys:List V}{ds es:List D}(h:SqT K H a xs)(r:Rps K (λ p=>(lab p).1<=1) H xs ds)(h2:SqT K H b ys)(r2:Rps K (λ p=>(lab p).1<=1) H ys es):JL K lab (Itz K a b) H (aCM ds es):=by
 have hl:=r.length;have hl2:=r2.length;have hle:(aCM ds es).length=min ds.length es.length:=by simp[aCM]
 refine λ i=>⟨λ hi=>⟨xs,ys,h,h2,by lia⟩,λ hi=>⟨⟨xs,ys,xs[i]'(by lia),ys[i]'(by lia),h,h2,by simp,by simp⟩,λ x H' y=>?_⟩⟩
 obtain⟨p,y,y2,rfl,hp,rfl,hy,hy2⟩:=y;obtain⟨d,g1,g2⟩:=r.get (hy xs h);obtain⟨d2,g3,g4⟩:=r2.get (hy2 ys h2);refine⟨bD hp _,.tup [d,d2],?_,.tup (.inl (.inl aZ)) (.cons (g2.up (bD hp _)) (.cons (g4.up (bD hp _)) .nil))⟩;unfold aCM;rw[zAY,zC4 (z:=(d,d2)) |>.mpr ⟨g1,g3⟩];rfl
section
variable{C:Ct}{m:Mode}{a b:Expr}{ga:En->Rs (List D)}{elts:List Expr}{x1:Nat}{ps p pos:Pos}
def aMx(ha:SA C m [a,b] ga)(hm:C.mg "zip"=none)(ho:okS m=true:=by rfl)(hs:∀i,zAZ [a,b] (C.X i).env=[(false,eval a (C.X i).env),(false,eval b (C.X i).env)]:=by intro _;rfl)(hs2:∀i,zAZ [b] (C.X i).env=[(false,eval b (C.X i).env)]:=by intro _;rfl)(hg:∀i,Gl (C.X i) "zip":=by intro _;rfl)(hv:zAt "zip"=some (.type "zip"):=by decide+kernel):
  SI C (.Tuple elts x1 ps) (.Call (.Name "zip" p) [a,b] [] pos) (fW aGL ga):=by
 obtain⟨t,p1,p2⟩:=ha;refine⟨aP9 C.K t,λ i=>by rw[<-C.hK i];exact aNO (p1 i) (hg i) (by rw[(C.cx i).2.2.2.1];exact hm) hv (hs i) (hs2 i),λ U Z H Y lab Rr R W=>p2 U Z H Y lab _ R (W.bd.imp λ ds _ w vs H1 s r=>?_)⟩;unfold aGL at w;split at w
 .rename_i l k _
  cases r with
  |cons r1 rr=>
   obtain⟨v2,rfl,r2⟩:=rr.one_inv;obtain⟨R',r1'⟩:=R.shared ho s r1;obtain⟨_,r2'⟩:=R.shared ho s r2;obtain⟨b,xs,rfl,h,q⟩:=r1'.tup_inv;obtain⟨b2,xs2,rfl,h2,q2⟩:=r2'.tup_inv;refine⟨b,b2,rfl,⟨xs,h⟩,⟨xs2,h2⟩,w _ H1 _ [(.ref b,.tup l),(.ref b2,.tup k)] s (λ p o e=>bj e) ⟨R'.len,R'.sl,R'.old,R'.new,λ z hz=>?_⟩ λ lab' H' hq=>?_⟩
   .rcases zAJ.mp hz with rfl|hz
    .exact .tup h q
    .rcases zAJ.mp hz with rfl|hz
     .exact .tup h2 q2
     .exact R'.tm z hz
   .have z:=hq _ (zAE ..)
    have z2:=hq _ (zAH _ (zAE ..));cases z with
    |tup h' q'=>
     cases z2 with
     |tup h2' q2'=>exact aOG h' q' h2' q2'
 .exact zAR w
end
def putN(ds:List D):D->Option Nat
 | .int n=>ixN ds.length n
 |_=>none
def aIK(i:Nat)(fk fe:En->Rs D):En->Ou:=λ Y=>match Y[i]? with
 |some (.ow (.lst ds))=>(fe Y).bo λ d=>(fk Y).bo λ k=>match putN ds k with
  |some j=>.nx (Y.set i (.ow (.lst (ds.set j d))))
  |none=>.st
 |_=>.st
def aG8(h:putN ds k=some j):∃n,k= .int n/\ixN ds.length n=some j:=by
 cases k with
 |int n=>exact⟨n,rfl,h⟩
 |_=>cases h
section
variable{C:Ct}{pos tpos p:Pos}{ek e:Expr}{fk fe:En->Rs D}{x:Str}{m m1:Mode}
def aFL(i:Nat)(hk:SE C m1 ek fk)(he:SE C m e fe)(hm:okN m=true:=by rfl)(hN:∀j,(C.X j).N[i]? =some x:=by intro _;rfl)(hv:∀j,Vis (C.X j).env.scope x:=by intro _;first|exact zCf rfl|exact zCC (zCf rfl)|exact zCC (zCC rfl))(hd:Nd x:=by decide)
  (hcd:(x==("__classdict__":Str))=false:=by decide)(ha:∀j v,zDx (.Subscript (.Name x p) ek tpos) (C.X j).env v=(do
   let ov <-zCn [v] (eval (.Name x p) (C.X j).env);let iv <-zCn [v,ov] (eval ek (C.X j).env)
   zG5 tpos
   zCn [v,ov,iv] (setItem ov iv v)
   release [v,ov,iv] []):=by intro _ _;rfl)(hs:∀j,zIG [.Subscript (.Name x p) ek tpos] e pos.line (C.X j).env=pure false:=by intro _;rfl)(hw:∀j,zIF [.Subscript (.Name x p) ek tpos] e (C.X j).env=pure none:=by intro _;rfl)
  (h1:∀j,(zCq [.Subscript (.Name x p) ek tpos] (C.X j).env).map (·.2)=[zDx (.Subscript (.Name x p) ek tpos) (C.X j).env]:=by intro _;rfl):
  SS C (.Assign [.Subscript (.Name x p) ek tpos] e pos) (aIK i fk fe):=by
 obtain⟨tk,k1,k2⟩:=hk;obtain⟨te,e1,e2⟩:=he;refine⟨aBD te (aPe (oJ i) tk aMO),λ j=>aIT (e1 j) (aNR (gD (hN j) (hv j) hd hcd) (k1 j) set_list (ha j)) (hs j) (hw j) (h1 j),λ U Z H Y lab De R W=>?_⟩;unfold aIK at W;cases es:Y[i]? with
 |none=>rw[es]at W;exact zAR W
 |some s=>
  rw[es]at W;split at W
  .rename_i ds hs
   cases hs;rcases R.sl i _ es with z|⟨v,ev,hv'⟩
   .cases z
   .obtain⟨hv1,htop⟩:=hv'
    obtain⟨a0,ea0,la0⟩:=htop rfl;subst ea0;cases hv1 with
    |lst h mm r=>
     rename_i xs;refine e2 U Z H Y lab _ R (W.bo.imp λ d _ w y H2 s2 r2=>⟨.ref a0,ev,?_⟩);refine k2 U Z H2 Y lab _ (R.up s2) (w.bo.imp λ k _ w kv H3 s3 r3=>?_);cases hj:putN ds k with
     |none=>rw[hj]at w;exact zAR w
     |some j=>
      rw[hj]at w;dsimp only at w;obtain⟨n,rfl,hj⟩:=aG8 hj;have ey:=r3.int_inv;subst ey;have h3:H3 a0=some (.lst xs):=(s2.trans s3) _ _ h;refine⟨a0,xs,n,j,rfl,rfl,h3,by rw[r.length];exact hj,?_⟩;obtain⟨R',r'⟩:=R.fresh (P:=λ k=>k=1) rfl (λ k hk=>beq_iff_eq.mp (qL hm k hk)) s2 r2;have la:(cT H 1 lab a0).1=i+2:=by rw[bj h];exact la0
      have B:mY a0 H3 (upd H3 a0 (.lst (xs.set j y))):=λ b' o ne hb=>by rw[aX ne];exact hb
      refine w Z _ _ ((R'.up s3).mut ev h3 rfl la B ⟨.lst aZ (.inr la) ?_,λ _=>⟨a0,rfl,la⟩⟩);have ra:Rps C.K (λ p=>((cT H 1 lab p).1=1\/(cT H 1 lab p).1=i+2)/\p≠a0) H3 (xs.set j y) (ds.set j d):=by
       refine Rps.set ((r'.up s3).wk λ p o e z=>⟨.inl z,λ q=>?_⟩) j (r.mono (s2.trans s3) λ p o e z=>⟨by rw[bj e];exact z.1,z.2⟩);subst q;rw[la]at z;lia
      exact ra.but B h3 rfl λ z=>z.2 rfl
  .exact zAR W
end
end VL
namespace PySem
open Sem(wp)
section
variable{prog:zA2}{w:World}
inductive aCK{K:Type}[DecidableEq K](knd:KeyKind prog w K)(h:Heap):List Value->List (K×Value)->Prop where
 |nil:aCK knd h [] []
 |cons {x:Addr} {o:Obj} {n:Nat} {kv v:Value} {k:K} {us:List Value} {ps:List (K×Value)} (ho:h.get? x=some o) (hc:o.cls= .type "tuple") (hd:o.data= .seq #[kv,v] n) (hk:knd.is k kv=true) (r:aCK knd h us ps):aCK knd h (.ref x::us) ((k,v)::ps)
end
end PySem
namespace VL
open PySem PySem.Spec PyProof.Rows L2
section
variable{K:Type}[DecidableEq K]
end
end VL
namespace L2
open PySem PySem.Spec PyProof.Rows
def aAq:Value->Bool
 | .bool b=>b
 |_=>false
theorem aBA:∀{bs:List Bool} {us:List Value},Vals (bs.map V.bl) us->us=bs.map zCu
 |[],_,.nil=>rfl
 |b::bs,_,.cons h t=>by rw[aBA t];cases h;rfl
def aFy{A:zAc}{s:zAG}{bs:List Bool}:∀y∈bs.map zCu,zEJ A s y (.bool true) (aAq y):=λ y hy=>by
 obtain⟨b,_,rfl⟩:=zA3.mp hy
 have:=zGZ (A:=A) (s:=s) b true
 cases b<;>exact this
def aKg:V->List V->Hp->VK->Prop:=λ x xs H Q=>∃(a:Addr) (bs:List Bool),x= .ref a/\xs=[.bl true]/\H a=some (.lst (bs.map V.bl))/\Q (.int (bs.count true:Nat)) H
def aKe:V->List V->Hp->VK->Prop:=λ x xs H Q=>∃(a:Addr) (bs:List Bool) (j:Nat),x= .ref a/\xs=[.bl true]/\H a=some (.lst (bs.map V.bl))/\bs[j]? =some true/\(∀m,m<j->bs[m]? =some false)/\Q (.int (j:Nat)) H
section
variable{X:Cx}
def aGl:MtR X "list.count" aKg:=by
 intro kX s Z H x xs v us Q I rx rxs h;obtain⟨a,bs,rfl,rfl,ha,q⟩:=h;cases rx;obtain⟨u,rfl,ru⟩:=vals1 rxs;cases ru;obtain⟨_,its,n,rv,e⟩:=I.hok a _ ha;have ei:=aBA rv;subst ei;refine zFV zGW ⟨_,e,rfl⟩ PySem.F.entry_list_count (PySem.F.args_list_count_2 _ _) (SeqAt.list_countAt a _ n none #[] (.bool true) aAq) ⟨e,λ y hy=>aFy y (by simpa using hy),?_⟩
 have:(bs.map zCu).countP aAq=bs.count true:=by
  rw[List.countP_map];unfold List.count;congr 1;funext b;cases b<;>rfl
 rw[show(bs.map zCu).toArray.toList=bs.map zCu from rfl,this];exact⟨.int _,H,I.tok _,⟨_,rfl⟩,q⟩
def aGj:MtR X "list.index" aKe:=by
 intro kX s Z H x xs v us Q I rx rxs h;obtain⟨a,bs,j,rfl,rfl,ha,hj,hm,q⟩:=h;cases rx;obtain⟨u,rfl,ru⟩:=vals1 rxs;cases ru;obtain⟨hz,its,n,rv,e⟩:=I.hok a _ ha;have ei:=aBA rv;subst ei;rw[zAD]at hz;have hl:=(zAN.mp hj).1;have h62:zAX<2^62:=by decide
 refine zFV zGX ⟨_,e,rfl⟩ PySem.F.entry_list_index (PySem.F.args_list_index_2 _ _) (SeqAt.list_indexAt a _ n none #[] (.bool true) aAq j (by simpa using hl) (by lia) ?_ λ m hm1 hmj=>?_) ⟨e,λ y hy=>aFy y (by simpa using hy),⟨.int _,H,I.tok _,⟨_,rfl⟩,q⟩⟩
 .rw[zAI hl]at hj
  simpa[aAq]using hj
 .have h2:=hm m hmj
  rw[zAI (by lia)]at h2;simpa[aAq]using h2
end
section
variable{X:Cx}{n0 n1 n2 odd:Str}{c1 c2:V}{k1 k2 k3 k4:List V}{l1 l2:List Str}{a1 a2:Expr}{as1 as2 e1 e2 e3 e4 w1 w2:List Expr}{kw1 kw2:List zDJ}{Q:VK}{H:Hp}{vs:List V}
 {p1 p2 p3 p4 p5 p6 p7 p8 p9 p10 p11 p12 p13 p14 p15 p16 p17 p18 p19 p20 p21 p22 p23 p24 p25 p26 p27 p28 p29 p30 p31 p32 p33 p34 p35 p36 p37 p38 p39 p40:Pos}{q1 q2 q3 q4 q5 q6 q7:Pos}{j1 j2 j3 j4 j5:Nat}{E0:XK}{wd:Addr->Option Str}
end
section
variable{P:zA2}{w:World}{K:zAA}{mg:Str->Option Value}{base:Heap}{x q n0 n1 n2 odd:Str}{st:Stmt}{f:Addr}{fd:zAo}{k:Nat}{wd:Addr->Option Str}{c1 c2:V}{k1 k2 k3 k4:List V}{l1 l2:List Str}{a1 a2:Expr}{as1 as2 e1 e2 e3 e4 w1 w2:List Expr}{kw1 kw2:List zDJ}
 {p1 p2 p3 p4 p5 p6 p7 p8 p9 p10 p11 p12 p13 p14 p15 p16 p17 p18 p19 p20 p21 p22 p23 p24 p25 p26 p27 p28 p29 p30 p31 p32 p33 p34 p35 p36 p37 p38 p39 p40:Pos}{q1 q2 q3 q4 q5 q6 q7:Pos}{j1 j2 j3 j4 j5:Nat}
end
section
variable{X:Cx}{n0 n1 n2 odd:Str}{c1 c2:V}{k1 k2 k3 k4:List V}{l1 l2:List Str}{a1 a2:Expr}{as1 as2 e1 e2 e3 e4 w1 w2:List Expr}{kw1 kw2:List zDJ}{Q:VK}{H:Hp}{vs:List V}
 {p1 p2 p3 p4 p5 p6 p7 p8 p9 p10 p11 p12 p13 p14 p15 p16 p17 p18 p19 p20 p21 p22 p23 p24 p25 p26 p27 p28 p29 p30 p31 p32 p33 p34 p35 p36 p37 p38 p39 p40:Pos}{q1 q2 q3 q4 q5 q6 q7:Pos}{j1 j2 j3 j4 j5:Nat}{E0:XK}{wd:Addr->Option Str}
def aD3(hN:X.N=[n0,n1,n2])(nd:X.N.Nodup)(m0:X.env.scope.names.lookup n0=some .local)(m1:X.env.scope.names.lookup n1=some .local)(m2:X.env.scope.names.lookup n2=some .local)
  (h1:PE X (.Call a1 as1 kw1 p1) (aDo X.K c1))(h2:PE X (.Call a2 as2 kw2 p2) (aDo X.K c2))(g1:PA X e1 (nu X.K k1))(g2:PA X e2 (nu X.K k2))(g3:PA X e3 (nu X.K k3))(g4:PA X e4 (nu X.K k4))(g5:PA X w1 (aAM l1))(g6:PA X w2 (aAM l2))
  (hl1:(p20.endLine==p21.line)=true)(hl2:(p30.endLine==p31.line)=true)(hz:(l1++l2).length<=100)(h:spW wd vs H Q E0)(hw:∀C w,wd C=some w->Wd X.K c1 c2 [k1,k2,k3,k4] (l1++l2) C w)
  (d0:Nd n0:=by decide)(d1:Nd n1:=by decide)(d2:Nd n2:=by decide)
  (f0:(n0==("__classdict__":Str))=false:=by decide)(f1:(n1==("__classdict__":Str))=false:=by decide)(f2:(n2==("__classdict__":Str))=false:=by decide):
  ∃t,PSs X [.If (.BoolOp .Or [.UnaryOp .Not (.Call a1 as1 kw1 p1) p3,.UnaryOp .Not (.Call a2 as2 kw2 p2) p4] p5) [.Return (some (.Constant (.str odd) j1 p6)) p7] [] p8,
   .Assign [.Name n1 p9] (.List e1 p10) p11,.Assign [.Name n1 p12] (.BinOp (.Name n1 p13) .Add (.List e2 p14) p15) p16,.Assign [.Name n1 p17] (.BinOp (.Name n1 p18) .Add (.List e3 p19) p22) p23,.Assign [.Name n1 p24] (.BinOp (.Name n1 p25) .Add (.List e4 p26) p27) p28,
   .If (.Compare (.Call (.Attribute (.Name n1 p29) "count" p20) [.Constant (.bool true) j2 p32] [] p21) [.NotEq] [.Constant (.int 1) j3 p33] p34) [.Return (some (.Constant (.str odd) j4 p35)) p36] [] p37,
   .Assign [.Name n2 p38] (.List w1 p39) p40,.Return (some (.Subscript (.BinOp (.Name n2 q1) .Add (.List w2 q2) q3) (.Call (.Attribute (.Name n1 q4) "index" p30) [.Constant (.bool true) j5 q5] [] p31) q6)) q7] t/\
   t {nx:=λ _ H'=>Q .non H',rt:=Q} (start X.N vs) H:=by
 obtain⟨ea,C,w,rfl,hH,hwd,hq⟩:=h;obtain⟨hk,hq1,hq2,b1,b2,b3,b4,j,k1',k2',k3',k4',ek,r1,r2,r3,r4,kK,hcnt,hj,hjm,hjw⟩:=hw C w hwd;cases ek;have i0:X.N[0]? =some n0:=by rw[hN];rfl
 have i1:X.N[1]? =some n1:=by rw[hN];rfl
 have i2:X.N[2]? =some n2:=by rw[hN];rfl
 have v1:∀{pos:Pos},PE X (.Name n1 pos) (oJ 1):=λ{pos}=>gD i1 (.inl m1) d1 f1
 have cat:∀{pp pq pr:Pos} {es:List Expr} {ks:List V},PA X es (nu X.K ks)->PE X (.BinOp (.Name n1 pp) .Add (.List es pq) pr) (tOp aIG (oJ 1) (aHc (nu X.K ks))):=λ g=>aI1 aB2 v1 (nQ g)
 refine⟨_,fX (aIS (aMW (aEN (aIL h1)) (aII (aEN (aIL h2)))).pt (nM (yG fQ)) aBY)
  (fX (nO nd i1 (.inl m1) (nQ g1) (hf:=.inr m1)) (fX (nO nd i1 (.inl m1) (cat g2) (hf:=.inr m1)) (fX (nO nd i1 (.inl m1) (cat g3) (hf:=.inr m1)) (fX (nO nd i1 (.inl m1) (cat g4) (hf:=.inr m1))
  (fX (aIS (aNK (aN4 (aAR zC8 zGW PySem.F.type_list_count aGl v1 (ak aI5 cj) (hline:=hl1)) aER)) (nM (yG fQ)) aBY)
  (fX (nO nd i2 (.inl m2) (nQ g5) (hf:=.inr m2)) (nM (yG (aI2 aBi (aI1 aB2 (gD i2 (.inl m2) d2 f2) (nQ g6)) (aAR zC8 zGX PySem.F.type_list_index aGj v1 (ak aI5 cj) (hline:=hl2)) λ _ _=>rfl))))))))),?_⟩
 have hs:start X.N [.ref ea]=[some (.ref ea),none,none]:=by rw[hN];rfl
 rw[hs];have sz:∀{n:Nat},n<=100->n<=zAX:=λ h=>zAl h (by decide)
 simp only[zA1]at kK hz;refine aBC (ea:=ea) rfl hH hk hq1 ⟨true,rfl,aBC (ea:=ea) rfl hH hk hq2 ⟨true,rfl,?_⟩⟩;refine oV (ea:=ea) rfl hH hk r1 ⟨sz (by rw[zAD];omega),λ a1 H1 s1 ha1 _=>?_⟩;refine⟨.ref a1,rfl,oV (ea:=ea) rfl (s1 _ _ hH) hk r2 ⟨sz (by rw[zAD];omega),λ x2 G2 t2 hx2 _=>⟨a1,x2,_,_,rfl,rfl,t2 _ _ ha1,hx2,sz (by simp only[zAD];omega),λ a2 H2 s2 ha2 _=>?_⟩⟩⟩;have hH2:=s2 _ _ (t2 _ _ (s1 _ _ hH));refine⟨.ref a2,rfl,oV (ea:=ea) rfl hH2 hk r3 ⟨sz (by rw[zAD];omega),λ x3 G3 t3 hx3 _=>⟨a2,x3,_,_,rfl,rfl,t3 _ _ ha2,hx3,sz (by simp only[zAD,zA1];omega),λ a3 H3 s3 ha3 _=>?_⟩⟩⟩;have hH3:=s3 _ _ (t3 _ _ hH2);refine⟨.ref a3,rfl,oV (ea:=ea) rfl hH3 hk r4 ⟨sz (by rw[zAD];omega),λ x4 G4 t4 hx4 _=>⟨a3,x4,_,_,rfl,rfl,t4 _ _ ha3,hx4,sz (by simp only[zAD,zA1];omega),λ a4 H4 s4 ha4 _=>?_⟩⟩⟩;rw[<-zAk,<-zAk,<-zAk]at ha4;generalize hbs:b1++b2++b3++b4=bs at hcnt hj hjm ha4;refine⟨.ref a4,rfl,.inl ⟨rfl,_,.inl (.inl ha4)⟩,a4,bs,rfl,rfl,ha4,1,1,by rw[hcnt];rfl,rfl,false,rfl,?_⟩;refine xP ⟨sz (by rw[zAD];omega),λ a5 H5 s5 ha5 _=>?_⟩;refine⟨.ref a5,rfl,xP ⟨sz (by rw[zAD];omega),λ x6 G6 t6 hx6 _=>⟨a5,x6,_,_,rfl,rfl,t6 _ _ ha5,hx6,sz (by simp only[zAD];omega),λ a7 H7 s7 ha7 _=>?_⟩⟩⟩;have ha4':=s7 _ _ (t6 _ _ (s5 _ _ ha4));refine⟨.ref a4,rfl,.inl ⟨rfl,_,.inl (.inl ha4')⟩,a4,bs,j,rfl,rfl,ha4',hj,hjm,a7,_,_,.str w,rfl,rfl,.inl (.inl ha7),?_,?_⟩
 .rw[<-zAk]
  have hjl:j<(l1++l2).length:=(zAN.mp hjw).1;unfold atI ixN;rw[if_pos (Int.natCast_nonneg j),zAD,if_pos (by omega),zCP]
  show((l1++l2).map V.str)[j]? =_
  rw[zAY,hjw];rfl
 .exact hq _ λ b o e=>s7 _ _ (t6 _ _ (s5 _ _ (s4 _ _ (t4 _ _ (s3 _ _ (t3 _ _ (s2 _ _ (t2 _ _ (s1 _ _ e)))))))))
end
section
variable{P:zA2}{w:World}{K:zAA}{mg:Str->Option Value}{base:Heap}{x q n0 n1 n2 odd:Str}{st:Stmt}{f:Addr}{fd:zAo}{k:Nat}{wd:Addr->Option Str}{c1 c2:V}{k1 k2 k3 k4:List V}{l1 l2:List Str}{a1 a2:Expr}{as1 as2 e1 e2 e3 e4 w1 w2:List Expr}{kw1 kw2:List zDJ}
 {p1 p2 p3 p4 p5 p6 p7 p8 p9 p10 p11 p12 p13 p14 p15 p16 p17 p18 p19 p20 p21 p22 p23 p24 p25 p26 p27 p28 p29 p30 p31 p32 p33 p34 p35 p36 p37 p38 p39 p40:Pos}{q1 q2 q3 q4 q5 q6 q7:Pos}{j1 j2 j3 j4 j5:Nat}
def aHO(F:Fun K x q st f fd)(S:aY [n0,n1,n2] [n0] (aJ st))
  (hst:dM st=[.If (.BoolOp .Or [.UnaryOp .Not (.Call a1 as1 kw1 p1) p3,.UnaryOp .Not (.Call a2 as2 kw2 p2) p4] p5) [.Return (some (.Constant (.str odd) j1 p6)) p7] [] p8,
   .Assign [.Name n1 p9] (.List e1 p10) p11,.Assign [.Name n1 p12] (.BinOp (.Name n1 p13) .Add (.List e2 p14) p15) p16,.Assign [.Name n1 p17] (.BinOp (.Name n1 p18) .Add (.List e3 p19) p22) p23,.Assign [.Name n1 p24] (.BinOp (.Name n1 p25) .Add (.List e4 p26) p27) p28,
   .If (.Compare (.Call (.Attribute (.Name n1 p29) "count" p20) [.Constant (.bool true) j2 p32] [] p21) [.NotEq] [.Constant (.int 1) j3 p33] p34) [.Return (some (.Constant (.str odd) j4 p35)) p36] [] p37,
   .Assign [.Name n2 p38] (.List w1 p39) p40,.Return (some (.Subscript (.BinOp (.Name n2 q1) .Add (.List w2 q2) q3) (.Call (.Attribute (.Name n1 q4) "index" p30) [.Constant (.bool true) j5 q5] [] p31) q6)) q7])
  (m0:(aJ st).names.lookup n0=some .local)(m1:(aJ st).names.lookup n1=some .local)(m2:(aJ st).names.lookup n2=some .local)
  (h:∀(cdv:Value) (A:zAc) (outer:List Env) (s:zAG) (H:Hp),PE (cxH P w K mg base [n0,n1,n2] q (aJ st) f cdv A outer s H) (.Call a1 as1 kw1 p1) (aDo K c1)/\PE (cxH P w K mg base [n0,n1,n2] q (aJ st) f cdv A outer s H) (.Call a2 as2 kw2 p2) (aDo K c2)/\
   PA (cxH P w K mg base [n0,n1,n2] q (aJ st) f cdv A outer s H) e1 (nu K k1)/\PA (cxH P w K mg base [n0,n1,n2] q (aJ st) f cdv A outer s H) e2 (nu K k2)/\PA (cxH P w K mg base [n0,n1,n2] q (aJ st) f cdv A outer s H) e3 (nu K k3)/\
   PA (cxH P w K mg base [n0,n1,n2] q (aJ st) f cdv A outer s H) e4 (nu K k4)/\PA (cxH P w K mg base [n0,n1,n2] q (aJ st) f cdv A outer s H) w1 (aAM l1)/\PA (cxH P w K mg base [n0,n1,n2] q (aJ st) f cdv A outer s H) w2 (aAM l2))
  (hl1:(p20.endLine==p21.line)=true)(hl2:(p30.endLine==p31.line)=true)(hz:(l1++l2).length<=100)(hw:∀C w,wd C=some w->Wd K c1 c2 [k1,k2,k3,k4] (l1++l2) C w)
  (d0:Nd n0:=by decide)(d1:Nd n1:=by decide)(d2:Nd n2:=by decide)
  (f0:(n0==("__classdict__":Str))=false:=by decide)(f1:(n1==("__classdict__":Str))=false:=by decide)(f2:(n2==("__classdict__":Str))=false:=by decide):
  FnH P w K mg base 1 f fd [n0] (spW wd):=by
 refine F.okH (k:=0) S (λ vs H Q E ⟨_,_,_,e,_⟩=>by rw[e];rfl) λ cdv A outer s H vs Q E hr hsp=>?_
 obtain⟨g1,g2,g3,g4,g5,g6,g7,g8⟩:=h cdv A outer s H;rw[hst];exact aD3 (X:=cxH P w K mg base [n0,n1,n2] q (aJ st) f cdv A outer s H) rfl S.nd m0 m1 m2 g1 g2 g3 g4 g5 g6 g7 g8 hl1 hl2 hz hsp hw d0 d1 d2 f0 f1 f2
end
end L2
namespace VL
open PySem PySem.Spec PyProof.Rows L2
def dnr{K:zAA}{h:Heap}{mg:Str->Option Value}{x:Str}{st:Stmt}(X:K.In h)(G:h.Ns zA6 mg)(e:∃f d,Enr K x st f d)(ps:List Str)
  (hb:∀(kV doc pm:Value) (an:Option Addr) (cdv ct:Value) (us:List Value),us.length=ps.length->zJG (zBz x x (nZ st) (dM st) (aJ st) .none kV doc pm an cdv ct) ⟨us,[]⟩=pure (ps.zip us):=by
   intro _ _ _ _ _ _ us hl;repeat' first|rfl|(simp at hl;done)|rcases us with _|⟨_,us⟩):∃f d,Dnr K mg x st ps f d/\zAb K zA6 x=some (some (.ref f)):=by
 obtain⟨f,d,F,a⟩:=e;exact⟨f,d,⟨F,zAh X G a,F.binds hb⟩,a⟩
end VL
namespace L2
open PySem PySem.Spec PyProof.Rows
end L2
namespace VL
open PySem PySem.Spec PyProof.Rows L2
section
variable{C:Ct}{pos pos' spos:Pos}{x:Str}{i:Nat}{kx vx tg iter:Expr}{ifs:List Expr}{sc:Scope}{N:List Str}{js:kQ}{ks:List Nat}{fi:En->Rs (List D)}{fg:D->En->Rs En}{ft:En->Rs Bool}{fk fv:En->Rs D}
def aOy(hi:SI C tg iter fi)(hg:SG (C.blk sc N) tg ks fg)(ht:aKA (C.blk sc N) ifs ft)(hk:SE (C.blk sc N) (some []) kx fk)(hv:SE (C.blk sc N) (some []) vx fv)(hN:∀j,(C.X j).N[i]? =some x:=by intro _;rfl)(hx:∀j,Loc (C.X j).env.scope x:=by intro _;first|exact zCf rfl|exact zCC rfl)(hsw:∀j,zCp (.DictComp kx vx [⟨tg,iter,ifs,0⟩] sc pos) (some (.Name x pos')) spos.line (C.X j).env=pure true:=by intro _;rfl)
  (hs:∀i x,zCH iter (C.X i).env x=pure x:=by intro _ _;rfl)(hf:∀j,(C.X j).fn x=true\/(C.X j).env.scope.names.lookup x=some .local:=by intro _;first|exact .inl rfl|exact .inr rfl)(nd:∀j,(C.X j).N.Nodup:=by intro _;assumption)(hB:∀i,fD (C.X i) sc N (stV js) ks:=by intro _;exact aCD rfl rfl rfl rfl rfl rfl):
  SV C i (.Assign [.Name x pos'] (.DictComp kx vx [⟨tg,iter,ifs,0⟩] sc pos) spos) (some []) (dcD fi js fg ft fk fv):=by
 obtain⟨wi,i1,i2⟩:=hi;obtain⟨g,g1,g2,g3,g4⟩:=hg;obtain⟨tt,t1,t2⟩:=ht;obtain⟨tk,k1,k2⟩:=hk;obtain⟨tv,v1,v2⟩:=hv;refine⟨_,λ j=>aIQ (pos:=pos) (nd j) (hN j) (hx j) (hB j) (C.calm j) (i1 j) (λ c fp z0 zS=>g1 (j,c,fp,z0,zS)) g3 (λ c fp z0 zS=>t1 (j,c,fp,z0,zS)) (aGO kx vx tg iter ifs sc pos) (aDp kx vx tg iter ifs sc pos) aOe ?_ (hsw j) rfl (λ _=>rfl) (hs j) (hf j),aMw i2 g2 t2 k2 v2⟩;intro c fp z0 zS
 have:=aPT (X:=(C.X j).block sc c N fp z0 zS) (by have:=(C.room j).un;show(C.X j).A.units<cLine;omega) (k1 (j,c,fp,z0,zS)) (v1 (j,c,fp,z0,zS))
 rw[show((C.X j).block sc c N fp z0 zS).K=C.K from C.hK j]at this;exact this
end
def aBh(K:zAA)(x:Str)(Pt:Addr):Bool:=match zAb K zA6 x with
 |some (some (.ref f))=>(match K.lookup f with
  |some ⟨_,_,.func fd,_⟩=>(match fd.code with| .ref c=>zER K c Pt|_=>false)
  |_=>false)&&(K.lookup Pt).isNone
 |_=>false
def aGw{K:zAA}{h:Heap}{mg:Str->Option Value}{fa Pt:Addr}{x:Str}(X:K.In h)(G:h.Ns zA6 mg)(hm:mg x=some (.ref fa))(e:aBh K x Pt=true)
  {o:Obj}{fd:zAo}(lk:K.lookup fa=some o)(hd:o.data= .func fd):K.lookup Pt=none/\∃c,fd.code= .ref c/\zER K c Pt=true:=by
 unfold aBh at e;split at e
 .rename_i f hf
  have e1:=(zAh X G hf).symm.trans hm;cases e1;rw[zAK]at e;refine⟨by simpa using e.2,?_⟩;have e2:=e.1;rw[lk]at e2;split at e2
  .rename_i fd' _ q
   have q2:=zAa q;rw[q2]at hd;have hd2:Data.func fd'=Data.func fd:=hd;cases hd2;split at e2
   .rename_i c hc
    exact⟨c,hc,e2⟩
   .cases e2
  .cases e2
 .cases e
def aLS{P:zA2}{w:World}{K:zAA}{h:Heap}{mg:Str->Option Value}{fa Pt:Addr}{fd:zAo}{k n:Nat}{x:Str}{N:List Str}{st:Stmt}{f:En->Ou}{F:List D->Rs D}(X:K.In h)(G:h.Ns zA6 mg)
  (hB:aBh K "law" Pt=true){ps:List Str}(e:Dnr K mg "law" st ps fa fd)(S:aY N [x] (aJ st))
  (hbind:∀(kV doc pm:Value) (an:Option Addr) (cdv ct:Value) (s:zAG) (u:Value),zHp s (zBz "law" "law" (nZ st) (dM st) (aJ st) .none kV doc pm an cdv ct) ⟨[u],[]⟩ [(x,u)])
  (body:∀(base:Heap) (c:Addr) (s:zAG) (H:Hp) (hr:fB k (zCv.deeper (zDO "law" (aJ st) s.heap.objs.size fa (.ref c)))),wK (cxW P w K mg base N "law" (aJ st) fa (.ref c) zCv s H Pt) Pt->zGm N->
   SSs (ctW P w K mg base N "law" (aJ st) fa (.ref c) zCv s H Pt k hr) (dM st) f)
  (hF:F=eF N.length f)(tru:∀ns:List Int,ns.length<=n->F [.scr ns]= .ok (.bl true)):aGJ P w K mg fa Pt k n:=by
 obtain⟨oc,od,kV,doc,pm,an,cdv,ct,osl,e1,lk,hcd⟩:=e.F.ex;obtain⟨h1,c,h2,h3⟩:=aGw X G e.m hB lk rfl;subst e1;obtain rfl:cdv= .ref c:=h2;exact⟨x,"law","law",_,_,_,_,kV,doc,pm,ct,oc,an,od,c,osl,N,h1,h3,lk,hcd,S,λ s u=>hbind kV doc pm an _ ct s u,λ a ns hl base s H hr Lx hO hS=>
  aIy (body base c s H hr Lx S.nd) (by rw[<-hF];exact tru ns hl) (.cons (.scr (aNA hO hS)) .nil)⟩
section
variable{Y:En}{i:Nat}{f g:En->Rs D}{fb gb:En->Rs Bool}{ga:En->Rs (List D)}{u v:En->Ou}{d:D}
@[simp] def varD_ap:jM i Y=match Y[i]? with
 |some (.sh d)=>.ok d
 |some (.nw d)=>.ok d
 |some (.ow d)=>.ok d
 |some (.oz d)=>.ok d
 |some (.o2 l)=>.ok (.lst (l.map .lst))
 |_=>.st:=aO rfl
@[simp] def qC:aD i Y=match Y[i]? with
 |some (.sh d)=>.ok d
 |some (.nw d)=>.ok d
 |_=>.st:=aO rfl
@[simp] def aKL:gn i Y=match Y[i]? with
 |some (.nw d)=>.ok d
 |_=>.st:=aO rfl
@[simp] def varO_ap:oR i Y=match Y[i]? with
 |some (.ow d)=>.ok d
 |some (.o2 l)=>.ok (.lst (l.map .lst))
 |_=>.st:=aO rfl
@[simp] def zX:cD d Y= .ok d:=aO rfl
@[simp] def fu:aG Y= .ok []:=aO rfl
@[simp] def bC:aC f ga Y=(f Y).bd λ d=>(ga Y).bd λ ds=>.ok (d::ds):=aO rfl
@[simp] def szl:zAX=16777216:=zCO
@[simp] def aKN:cH ga Y=(ga Y).bd λ ds=>if ds.length<=16777216 then .ok (.tup ds)else .st:=by unfold cH;rw[szl]
@[simp] def aFg:gq ga Y=(ga Y).bd λ ds=>if ds.length<=16777216 then .ok (.lst ds)else .st:=by unfold gq;rw[szl]
@[simp] def cB:okD (.ok d)= .ok d:=aO rfl
@[simp] def eU:op2 fd f g Y=(f Y).bd λ x=>(g Y).bd λ y=>okD (fd x y):=aO rfl
@[simp] def yN:op1 fd f Y=(f Y).bd λ x=>okD (fd x):=aO rfl
@[simp] def eQ:opA fd ga Y=(ga Y).bd λ x=>okD (fd x):=aO rfl
@[simp] def iG:aU F ga Y=(ga Y).bd F:=aO rfl
def aPi(d:D)(r:Rs D):Rs D:=match d with
 | .bl true=>r
 | .bl false=>.ok (.bl false)
 |_=>.st
@[simp] def xG:aPi (.bl b) r=if b=true then r else .ok (.bl false):=by cases b<;>rfl
@[simp] def uO:z9 f g Y=(f Y).bd λ d=>aPi d (g Y):=aO rfl
@[simp] def notD_bl:aNs (.bl b)= .ok (.bl (!b)):=aO rfl
def chR(d:D)(r:Rs D):Rs D:=match d with
 | .bl true=>r
 | .bl false=>.ok (.bl false)
 |_=>.st
@[simp] def chR_bl:chR (.bl b) r=if b=true then r else .ok (.bl false):=by cases b<;>rfl
@[simp] def chD_ap:chD fd fd' f g h Y=(f Y).bd λ x=>(g Y).bd λ y=>(okD (fd x y)).bd λ z=>chR z ((h Y).bd λ w=>okD (fd' y w)):=aO rfl
@[simp] def wY:aGQ (.bl b)= .ok b:=aO rfl
@[simp] def aHa:aGQ (.lst l)= .ok (!l.isEmpty):=aO rfl
@[simp] def zY:blD (.bl b)= .ok b:=aO rfl
@[simp] def aBB:tst f Y=(f Y).bd aGQ:=aO rfl
@[simp] def uV:tsb f Y=(f Y).bd blD:=aO rfl
@[simp] def aLw:aOb fb gb Y=(fb Y).bd λ k=>if k=true then gb Y else .ok false:=aO rfl
@[simp] def aNa:orT fb gb Y=(fb Y).bd λ k=>if k=true then .ok true else gb Y:=aO rfl
@[simp] def aB9:lX fb Y=(fb Y).bd λ k=>.ok (!k):=aO rfl
@[simp] def aN:aj u v Y=(u Y).sq v:=aO rfl
@[simp] def fG:retS f Y=(f Y).bo .rt:=aO rfl
@[simp] def dropS_ap:pX f Y=(f Y).bo λ _=>.nx Y:=aO rfl
@[simp] def kI:ifS fb u v Y=(fb Y).bo λ k=>if k=true then u Y else v Y:=aO rfl
@[simp] def qG:cP i f Y=(f Y).bo λ d=>.nx (Y.set i (.sh d)):=aO rfl
@[simp] def qH:uc i f Y=(f Y).bo λ d=>.nx (Y.set i (.nw d)):=aO rfl
@[simp] def aFR:jT i f Y=(f Y).bo λ d=>.nx (Y.set i (.ow d)):=aO rfl
@[simp] def aEq:gnm i d Y= .ok (Y.set i (.sh d)):=aO rfl
@[simp] def gnil_nil:gH [] Y= .ok Y:=aO rfl
@[simp] def gcons_cons:bB a b (d::ds) Y=(a d Y).bd (b ds):=aO rfl
@[simp] def gtup_tup:fY n b (.tup ds) Y=if ds.length=n then b ds Y else .st:=aO rfl
def nxO(r:Rs En):Ou:=match r with
 | .ok Y=>.nx Y
 |_=>.st
@[simp] def nxO_ok:nxO (.ok Y)= .nx Y:=aO rfl
@[simp] def asgS_ap:aJv f a Y=(f Y).bo λ d=>nxO (a d Y):=aO rfl
@[simp] def itD_tup:itD (.tup l)= .ok l:=aO rfl
@[simp] def aBk:itD (.lst l)= .ok l:=aO rfl
@[simp] def aBj:cF f Y=(f Y).bd itD:=aO rfl
@[simp] def dJ:fZ ga a u Y=(ga Y).bo λ ds=>forL a u ds Y:=aO rfl
@[simp] def forL_nil:forL a u [] Y= .nx Y:=aO rfl
noncomputable def Ou.tn(o:Ou)(k:En->Ou):Ou:=match o with
 | .nx Y2=>k Y2
 | .ct Y2=>k Y2
 | .bk Y2=>.nx Y2
 |o=>o
@[simp] def lF:(Ou.nx Y).tn k=k Y:=aO rfl
@[simp] def aOo:(Ou.rt d).tn k= .rt d:=aO rfl
@[simp] def tn_ex:(Ou.ex c).tn k= .ex c:=aO rfl
def okE(r:Rs En)(k:En->Ou):Ou:=match r with
 | .ok Y=>k Y
 |_=>.st
@[simp] def yR:okE (.ok Y) k=k Y:=aO rfl
def cG:forL a u (d::ds) Y=okE (a d Y) λ Y1=>(u Y1).tn (forL a u ds):=by
 unfold forL;cases a d Y with
 |ok Y1=>simp only[yR];cases u Y1<;>rfl
 |ex c=>rfl
 |st=>rfl
@[simp] def aCl:tL Y= .ok none:=aO rfl
@[simp] def aCk:tK f Y=(f Y).bd λ d=>match d with
 | .int i=>.ok (some i)
 |_=>.st:=aO rfl
@[simp] def uY:mz f a b Y=(f Y).bd λ d=>(a Y).bd λ l=>(b Y).bd λ h=>okD (slD d l h):=aO rfl
@[simp] def aFN:slD (.tup l) a b= .ok (.tup (cutD l a b)):=aO rfl
@[simp] def aHz:aBV (.tup l)= .ok (.tup l.reverse):=aO rfl
@[simp] def aBo:bJ f Y=(f Y).bd nY:=aO rfl
@[simp] def aKb:fW r ga Y=(ga Y).bd r:=aO rfl
@[simp] def raiseS_ap:pJ x ga Y=(ga Y).bo λ ds=>if ds.length<=16777216 then .ex x else .st:=by unfold pJ;rw[szl]
@[simp] def yesT_ap:jh Y= .ok true:=aO rfl
end
section
variable{d e:D}{i j:Int}{l m:List D}
def nW(h:imm d=true):nY d= .ok d:=by unfold nY;rw[if_pos h]
@[simp] def gImm_int:nY (.int i)= .ok (.int i):=aO rfl
@[simp] def addD_int:cR (.int i) (.int j)= .ok (.int (i+j)):=aO rfl
@[simp] def uQ:cR (.tup l) (.tup m)=if l.length+m.length<=16777216 then .ok (.tup (l++m))else .st:=by unfold cR;rw[szl]
@[simp] def subD_int:aGR (.int i) (.int j)= .ok (.int (i-j)):=aO rfl
def aA3(h0:0<j)(h1:j<1073741824):vf (.int i) (.int j)= .ok (.int (i / j)):=by unfold vf i2;dsimp only;rw[if_pos (by simp[h0,h1])]
def pM(h0:0<j):uz (.int i) (.int j)= .ok (.int (i%j)):=by unfold uz i2;dsimp only;rw[if_pos (by simp[h0])]
def yV(h0: -(2^64)<i)(h1:i<2^64):lC (.int i) (.int j)= .ok (.int (i*j)):=by unfold lC;dsimp only;rw[if_pos (by simp only[zDm,zAK,decide_eq_true_eq];exact .inl ⟨h0,h1⟩)]
def aIm(h0: -(2^64)<j)(h1:j<2^64):lC (.int i) (.int j)= .ok (.int (i*j)):=by unfold lC;dsimp only;rw[if_pos (by simp only[zDm,zAK,decide_eq_true_eq];exact .inr ⟨h0,h1⟩)]
@[simp] def aCo:aCp (.int i)= .ok (.int (-i)):=aO rfl
@[simp] def aLP:ltD (.int i) (.int j)= .ok (.bl (decide (i<j))):=aO rfl
@[simp] def leD_int:leD (.int i) (.int j)= .ok (.bl (decide (i<=j))):=aO rfl
@[simp] def aFr:gtD (.int i) (.int j)= .ok (.bl (decide (j<i))):=aO rfl
@[simp] def geD_int:geD (.int i) (.int j)= .ok (.bl (decide (j<=i))):=aO rfl
def aLO(ns ms:List Int):ltD (.tup (ns.map .int)) (.tup (ms.map .int))= .ok (.bl (HT.lexLt ns ms)):=by
 unfold ltD ltT i2;simp only[gG]
@[simp] def lenD_tup:fL [.tup l]= .ok (.int l.length):=aO rfl
@[simp] def aIv:fL [.lst l]= .ok (.int l.length):=aO rfl
@[simp] def lenD_scr:fL [.scr x]= .ok (.int x.length):=aO rfl
@[simp] def xN:eG [.lst l]= .ok (.tup l):=aO rfl
@[simp] def aGr:v6 [.tup l]= .ok (.lst l):=aO rfl
@[simp] def mmD_int:mmD f [.int i,.int j]= .ok (.int (f i j)):=aO rfl
@[simp] def aLX:ixD (.tup l) (.int i)=atD l i:=aO rfl
@[simp] def tU:ixD (.lst l) (.int i)=atD l i:=aO rfl
@[simp] def ixD_scr:ixD (.scr x) (.int i)=atD (x.map .int) i:=aO rfl
def jX{k:Nat}(h:l[k]? =some d):atD l (k:Int)= .ok d:=by
 have hk:=(zAN.mp h).1;unfold atD atI ixN;rw[if_pos (by omega),if_pos (by omega)];simp[h]
def sG(h0:0<=i)(h1:i<l.length):∃d,atD l i= .ok d/\d∈l/\l[i.toNat]? =some d:=by
 have hk:i.toNat<l.length:=by omega
 have e:=zAI hk;refine⟨_,?_,zCj hk,e⟩
 have:=jX e
 rwa [zCV h0]at this
@[simp] def atD_0{r:List D}:atD (d::r) 0= .ok d:=jX (k:=0) rfl
@[simp] def atD_1{r:List D}:atD (d::e::r) 1= .ok e:=jX (k:=1) rfl
@[simp] def eqR_int:eqR n (.int i) (.int j)= .ok (.bl (if n then !(i==j)else i==j)):=aO rfl
def knd:D->Bool
 | .set _=>false
 | .scr _=>false
 | .fn _=>false
 |_=>true
def aBl(hT:T∈["bool","int","str","list","tuple","dict"])(h:knd d=true):jy T d= .ok (.bl (aLZ (tyD d) T)):=by
 have ht:tyD d∈["NoneType","bool","int","str","list","tuple","dict"]:=by cases d<;>simp_all [tyD,knd]
 unfold jy qe;cases e:aLZ (tyD d) T<;>simp[ht,hT]
def aOL:D->Bool
 | .int _=>true
 | .bl _=>true
 |_=>false
def pP:D->Bool
 | .bl _=>true
 |_=>false
def jz:D->Bool
 | .tup _=>true
 |_=>false
def aLY(h:knd d=true):jy "int" d= .ok (.bl (aOL d)):=by
 rw[aBl (by simp) h];cases d<;>first|rfl|(simp[knd]at h)
def yr(h:knd d=true):jy "bool" d= .ok (.bl (pP d)):=by
 rw[aBl (by simp) h];cases d<;>first|rfl|(simp[knd]at h)
def mJ(h:knd d=true):jy "tuple" d= .ok (.bl (jz d)):=by
 rw[aBl (by simp) h];cases d<;>first|rfl|(simp[knd]at h)
@[simp] def aAC:jy "tuple" (.tup l)= .ok (.bl true):=mJ rfl
end
@[simp] def bT:eF n u ds=match u (bG n ds)with
 | .nx _=>.ok .non
 | .rt d=>.ok d
 | .ex c=>.ex c
 |_=>.st:=aO rfl
def jU(h0: -(2^62)<=j)(h1:j<2^62):jC [.int j]= .ok (bW 0 j):=by unfold jC;dsimp only;rw[if_pos ⟨h0,h1⟩]
def aFX(h0: -(2^62)<=i)(h1:i<2^62)(h2: -(2^62)<=j)(h3:j<2^62):aEB [.int i,.int j]= .ok (bW i j):=by unfold aEB;dsimp only;rw[if_pos ⟨⟨h0,h1⟩,h2,h3⟩]
def aCq{lo hi:Int}:d∈bW lo hi↔∃k:Int,d= .int k/\lo<=k/\k<hi:=by
 unfold bW;rw[zA3];constructor
 .rintro⟨n,hn,rfl⟩
  have:=zBU.mp hn
  exact⟨lo+n,rfl,by omega,by omega⟩
 .rintro⟨k,rfl,h1,h2⟩
  exact⟨(k-lo).toNat,zBU.mpr (by omega),by congr 1;omega⟩
def pR(I:Nat->En->Prop)(hs:∀(i:Nat) d Y,ds[i]? =some d->I i Y->∃Y2,okE (a d Y) (λ Y1=>u Y1)= .nx Y2/\I (i+1) Y2)(h0:I 0 Y):∃Y',forL a u ds Y= .nx Y'/\I ds.length Y':=by
 have go:∀(n:Nat) (Y:En),n<=ds.length->I (ds.length-n) Y->∃Y',forL a u (ds.drop (ds.length-n)) Y= .nx Y'/\I ds.length Y':=by
  intro n;induction n with
  |zero=>intro Y _ h;exact⟨Y,by rw[zH7,zE7];rfl,h⟩
  |succ n ih=>
   intro Y hn h;have hlt:ds.length-(n+1)<ds.length:=by omega
   rw[zDE hlt,cG];obtain⟨Y2,e,h2⟩:=hs _ _ Y (zAI hlt) h;rw[show ds.length-(n+1)+1=ds.length-n by omega]at h2 ⊢;cases ea:a ds[ds.length-(n+1)] Y with
   |ok Y1=>
    rw[ea]at e;simp only[yR]at e ⊢;rw[e,lF];exact ih Y2 (by omega) h2
   |ex c=>rw[ea]at e;cases e
   |st=>rw[ea]at e;cases e
 have:=go ds.length Y (zAQ _) (by rw[zFw];exact h0)
 rwa [zFw,zGd]at this
end VL
namespace VL.My
open PySem L2
def wdN:Str->Option Str:=λ c=>((["NoWeb","NoPlace","NoWay","NoParting","TooMany","NoForest","NoPlan","NoOneWay","NoOrder","NoText","NoDeed","NoRow"]:List Str).zip (["web","place","way","parting","many","forest","plan","one way","order","text","deed","row"]:List Str)).lookup c
def iU:En->Ou:=
  (retS (z9 (op1 (jy "int") (aD 0)) (op1 aNs (op1 (jy "bool") (aD 0)))))
def lB:List D->Rs D:=eF 1 iU
def eY:En->Ou:=
  (aj (fZ (fW aEB (aC (cD (.int 1)) (aC (opA fL (aC (aD 0) aG)) aG))) (gnm 1)
   (ifS (lX (tsb (op2 ltD (op2 ixD (aD 0) (op2 aGR (aD 1) (cD (.int 1)))) (op2 ixD (aD 0) (aD 1)))))
    (retS (cD (.bl false)))
    Ou.nx))
  (retS (cD (.bl true))))
def gm:List D->Rs D:=eF 2 eY
def iW:En->Ou:=
  (aj (aJv (aD 0) (fY 2 (bB (gnm 1) (bB (gnm 2) gH))))
  (aj (llS 3 (fW jC (aC (aD 1) aG)) [none] (gnm 0))
  (aj (fZ (cF (aD 2)) (fY 2 (bB (gnm 4) (bB (gnm 5) gH)))
   (aj (jR 3 (aD 4) (bJ (aD 5)))
   (jR 3 (aD 5) (bJ (aD 4)))))
  (retS (oR 3)))))
def dZ:List D->Rs D:=eF 6 iW
def pwI:En->Ou:=ifS (tsb (op2 (inR true) (aD 5) (jM 2))) (oN 2 (bJ (aD 5))) Ou.nx
def pwW:En->Ou:=aj (uc 4 (bJ (op2 ixD (jM 2) (aD 3)))) (aj (fZ (cF (op2 ixD (aD 0) (gn 4))) (gnm 5) pwI) (aOa (i2 (λ _ _=>true) λ a b=>.int (a+b)) 3 (cD (.int 1))))
def pwT:En->Rs Bool:=tsb (op2 ltD (aD 3) (opA fL (aC (jM 2) aG)))
def gY:En->Ou:=aj (jT 2 (gq (aC (bJ (aD 1)) aG))) (aj (cP 3 (cD (.int 0))) (aj (xK pwT pwW) (retS (opA eG (aC (opA jo (aC (jM 2) aG)) aG)))))
def jJ:List D->Rs D:=eF 6 gY
def wfW:En->Ou:=aj (oN 2 (bJ (op2 ixD (aD 3) (cD (.int 0))))) (cP 3 (lcD (cF (op2 ixD (aD 0) (op2 ixD (aD 2) (op1 aCp (cD (.int 1)))))) [none,some 2] (gnm 0) (tsb (op2 (inR true) (aD 0) (aD 1))) (bJ (aD 0))))
def iR:En->Ou:=aj (jT 2 (gq (aC (bJ (aD 1)) aG))) (aj (cP 3 (op2 ixD (aD 0) (aD 1))) (aj (xK (tst (aD 3)) wfW) (retS (opA eG (aC (oR 2) aG)))))
def il:List D->Rs D:=eF 4 iR
def dF:En->Ou:=
  (aj (ifS (tsb (op2 ltD (aD 1) (opA fL (aC (aD 0) aG))))
   (retS (bJ (op2 ixD (aD 0) (aD 1))))
   Ou.nx)
  (retS (cD (.int 0))))
def dq:List D->Rs D:=eF 2 dF
def eX:En->Ou:=
  (aj (ifS (tsb (op2 geD (aD 0) (op2 aNN (cD (.int 10)) (cD (.int 18)))))
   (aj (cP 3 (aD 0))
   (aj (fZ (fW jC (aC (aD 1) aG)) (gnm 4)
    (aj (ifS (tsb (op2 (eqR false) (aD 3) (cD (.int 0))))
     (retS (cD (.int 0)))
     Ou.nx)
    (cP 3 (op2 vf (aD 3) (aD 2)))))
   (retS (op2 uz (aD 3) (aD 2)))))
   Ou.nx)
  (aj (cP 5 (op2 uz (op2 lC (op2 cR (op2 cR (op2 uz (aD 0) (cD (.int 1000000007))) (op2 lC (cD (.int 1009)) (aD 1))) (cD (.int 17))) (cD (.int 69621))) (cD (.int 2147483647))))
  (aj (cP 5 (op2 uz (op2 cR (op2 cR (op2 lC (aD 5) (aD 5)) (op2 lC (cD (.int 40503)) (aD 1))) (cD (.int 5))) (cD (.int 2147483629))))
  (retS (op2 uz (op2 vf (op2 uz (op2 lC (aD 5) (cD (.int 48271))) (cD (.int 2147483647))) (cD (.int 32))) (aD 2))))))
def az:List D->Rs D:=eF 6 eX
def iT:En->Ou:=
  (aj (llS 1 (fW jC (aC (op2 ixD (aD 0) (cD (.int 0))) aG)) [none] (gnm 0))
  (aj (fZ (cF (op2 ixD (aD 0) (cD (.int 1)))) (fY 2 (bB (gnm 2) (bB (gnm 3) gH)))
   (aj (jR 1 (aD 2) (bJ (aD 3)))
   (jR 1 (aD 3) (bJ (aD 2)))))
  (retS (oR 1))))
def gQ:List D->Rs D:=eF 4 iT
def lsB:En->Ou:=aj (aIK 1 (aD 3) (opA (mmD λ i j=>if j<i then j else i) (aC (op2 ixD (jM 1) (aD 3)) (aC (op2 ixD (jM 1) (aD 4)) aG)))) (aIK 1 (aD 4) (bJ (op2 ixD (jM 1) (aD 3))))
def lsO:En->Ou:=fZ (cF (op2 ixD (aD 0) (cD (.int 1)))) (fY 2 (bB (gnm 3) (bB (gnm 4) gH))) lsB
def lsI:En->Rs D:=opA eG (aC (lcD (fW jC (aC (op2 ixD (aD 1) (cD (.int 0))) aG)) [none,some 2,some 0] (gnm 0) (tsb (op2 (eqR false) (op2 ixD (aD 1) (aD 0)) (aD 2))) (bJ (aD 0))) aG)
def lsR:En->Rs D:=lcD (cF (opA oZ (aC (aD 1) aG))) [none,some 0,some 1] (gnm 0) jh lsI
def gf:En->Ou:=aj (jT 1 (lrD (op2 ixD (aD 0) (cD (.int 0))))) (aj (fZ (fW jC (aC (op2 ixD (aD 0) (cD (.int 0))) aG)) (gnm 2) lsO) (retS lsR))
def jK:List D->Rs D:=eF 5 gf
def gZ:En->Ou:=
  (retS (opA eG (aC (opA jo (aC (lcD (cF (aD 0)) [none] (gnm 0) jh (opA pN (aC (aD 0) (aC (op1 aBV (aD 0)) aG)))) aG)) aG)))
def lO:List D->Rs D:=eF 1 gZ
def laL:En->Rs D:=lcD (fW aGL (aC (aD 2) (aC (mz (aD 2) (tK (cD (.int 1))) tL) aG))) [none,none] (fY 2 (bB (gnm 0) (bB (gnm 1) gH))) jh (cH (aC (opA (mmD λ i j=>if j<i then j else i) (aC (aD 0) (aC (aD 1) aG))) (aC (opA (mmD λ i j=>if j>i then j else i) (aC (aD 0) (aC (aD 1) aG))) aG)))
def laE:En->Ou:=aOY 1 laL
def gh:En->Ou:=aj (jT 1 (gq aG)) (aj (fZ (cF (aD 0)) (gnm 2) laE) (retS (opA eG (aC (opA jo (aC (jM 1) aG)) aG))))
def jL:List D->Rs D:=eF 3 gh
def lgC:En->Rs D:=lcD (cF (aD 1)) [none,some 0] (gnm 0) jh (z9 (op1 (jy "tuple") (aD 0)) (op2 (inR false) (aD 0) (op2 ixD (aD 1) (cD (.int 1)))))
def lgB:En->Ou:=ifS (orT (tst (op1 (jy "bool") (op2 ixD (aD 2) (cD (.int 0))))) (tst (op1 (jy "bool") (op2 ixD (aD 2) (cD (.int 1)))))) (retS (cD (.bl false))) Ou.nx
def gJ:En->Ou:=aj (ifS (orT (lX (tst (op1 (jy "tuple") (aD 1)))) (lX (tst (opA (oO λ bs=>bs.all id) (aC lgC aG))))) (retS (cD (.bl false))) Ou.nx) (aj (fZ (cF (aD 1)) (gnm 2) lgB) (retS (op2 (eqR false) (opA v6 (aC (aD 1) aG)) (opA sY (aC (aD 1) aG)))))
def fC:List D->Rs D:=eF 3 gJ
def je:En->Ou:=
  (retS (z9 (aU lB (aC (aD 0) aG)) (chD leD leD (cD (.int 0)) (aD 0) (cD (.int 60)))))
def qR:List D->Rs D:=eF 1 je
def iV:En->Ou:=
  (retS (z9 (aU lB (aC (aD 1) aG)) (chD leD ltD (cD (.int 0)) (aD 1) (aD 0))))
def gR:List D->Rs D:=eF 2 iV
def paF:En->Ou:=aOd 3 (bJ (aD 6))
def paB:En->Ou:=ifS (tsb (op2 (inX true) (aD 4) (jM 3))) (aj (cP 5 (aU jJ (aC (aD 0) (aC (aD 4) aG)))) (aj (oN 2 (bJ (aD 5))) (fZ (cF (aD 5)) (gnm 6) paF))) Ou.nx
def dj:En->Ou:=aj (jT 2 (gq aG)) (aj (jT 3 (cD (.set []))) (aj (fZ (cF (aD 1)) (gnm 4) paB) (retS (oR 2))))
def dm:List D->Rs D:=eF 7 dj
def j9:En->Ou:=
  (aj (cP 2 (aU az (aC (aD 0) (aC (cD (.int 0)) (aC (op2 cR (aD 1) (cD (.int 1))) aG)))))
  (aj (cP 3 (op2 cR (cD (.int 1)) (aU az (aC (aD 0) (aC (cD (.int 1)) (aC (cD (.int 6)) aG))))))
  (aj (jT 4 (gq aG))
  (aj (fZ (fW jC (aC (aD 2) aG)) (gnm 5)
   (fZ (fW aEB (aC (op2 cR (aD 5) (cD (.int 1))) (aC (aD 2) aG))) (gnm 6)
    (ifS (tsb (op2 ltD (aU az (aC (aD 0) (aC (op2 cR (op2 cR (cD (.int 3)) (op2 lC (cD (.int 61)) (aD 5))) (aD 6)) (aC (cD (.int 8)) aG)))) (aD 3)))
     (oN 4 (cH (aC (bJ (aD 5)) (aC (bJ (aD 6)) aG))))
     Ou.nx)))
  (retS (cH (aC (bJ (aD 2)) (aC (opA eG (aC (oR 4) aG)) aG))))))))
def jf:List D->Rs D:=eF 7 j9
def pdC:En->Rs D:=lcD (cF (op2 ixD (aD 3) (op2 ixD (aD 6) (op1 aCp (cD (.int 1)))))) [none,some 4,some 6] (gnm 0) (aOb (tsb (op2 (inR false) (aD 0) (aD 1))) (tsb (op2 (inR true) (aD 0) (aD 2)))) (bJ (aD 0))
def pdB:En->Ou:=aj (uc 9 pdC) (ifS (tsb (op2 (eqR true) (gn 9) (gq aG))) (cP 6 (op2 cR (aD 6) (cH (aC (op2 ixD (gn 9) (aU az (aC (aD 0) (aC (op2 cR (op2 cR (aD 1) (cD (.int 140))) (aD 8)) (aC (opA fL (aC (gn 9) aG)) aG))))) aG)))) Ou.nx)
def pdL:En->Rs D:=lcD (cF (aD 4)) [none,some 6] (gnm 0) (tsb (op2 (inR true) (aD 0) (aD 1))) (bJ (aD 0))
def pdW:En->Ou:=aj (cP 6 (cH (aC (op2 ixD (gn 4) (aU az (aC (aD 0) (aC (op2 cR (aD 1) (opA fL (aC (gn 4) aG))) (aC (opA fL (aC (gn 4) aG)) aG))))) aG)))
   (aj (cP 7 (aU az (aC (aD 0) (aC (op2 cR (op2 cR (aD 1) (cD (.int 70))) (opA fL (aC (gn 4) aG))) (aC (op2 cR (op2 ixD (aD 2) (cD (.int 0))) (cD (.int 1))) aG)))))
   (aj (fZ (fW jC (aC (aD 7) aG)) (gnm 8) pdB) (aj (uc 4 pdL) (oN 5 (bJ (aD 6))))))
def pdT:En->Rs Bool:=tsb (op2 (eqR true) (gn 4) (gq aG))
def fM:En->Ou:=aj (uc 4 (lrD (op2 ixD (aD 2) (cD (.int 0))))) (aj (jT 5 (gq aG)) (aj (xK pdT pdW) (retS (opA eG (aC (oR 5) aG)))))
def iH:List D->Rs D:=eF 10 fM
def duC:En->Rs D:=lcD (cF (op2 ixD (aD 2) (op2 ixD (aD 6) (op1 aCp (cD (.int 1)))))) [none,some 6] (gnm 0) (tsb (op2 (inR true) (aD 0) (aD 1))) (bJ (aD 0))
def duW:En->Ou:=cP 6 (op2 cR (aD 6) (opA eG (aC duC aG)))
def duF:En->Ou:=fZ (fW jC (aC (op2 aGR (opA fL (aC (aD 4) aG)) (cD (.int 1))) aG)) (gnm 7) duW
def duB:En->Ou:=aj (uc 5 (lcD (cF (aD 4)) [none,some 2] (gnm 0) (tsb (op2 ltD (opA fL (aC (op2 ixD (aD 1) (aD 0)) aG)) (cD (.int 2)))) (bJ (aD 0))))
 (aj (ifS (tsb (op2 (eqR false) (gn 5) (gq aG))) (retS (cD .non)) Ou.nx) (aj (cP 6 (cH (aC (op2 ixD (gn 5) (cD (.int 0))) aG))) (aj duF (oN 3 (bJ (aD 6))))))
def duO:En->Rs Bool:=tsb (op2 (eqR true) (lcD (fW jC (aC (aD 0) aG)) [none,some 2] (gnm 0) (tsb (op2 gtD (opA fL (aC (op2 ixD (aD 1) (aD 0)) aG)) (cD (.int 2)))) (bJ (aD 0))) (gq aG))
def jc:En->Ou:=aj (cP 2 (aU gQ (aC (cH (aC (aD 0) (aC (aD 1) aG))) aG))) (aj (ifS duO (retS (cD .non)) Ou.nx) (aj (jT 3 (gq aG)) (aj (fZ (cF (aU jK (aC (cH (aC (aD 0) (aC (aD 1) aG))) aG))) (gnm 4) duB) (retS (aU lO (aC (jM 3) aG))))))
def jg:List D->Rs D:=eF 8 jc
def odL:En->Rs D:=gq (aC (cH (aC (bJ (op2 ixD (aD 4) (cD (.int 1)))) (aC (bJ (op2 ixD (aD 4) (cD (.int 0)))) aG))) (aC (cH (aC (cD (.int 0)) (aC (bJ (op2 ixD (aD 1) (cD (.int 0)))) aG))) (aC (cH (aC (cD (.bl true)) (aC (bJ (op2 ixD (aD 4) (cD (.int 1)))) aG))) (aC (opA v6 (aC (bJ (aD 4)) aG)) (aC (cD .non) (aC (cH (aC (cD (.int 0)) aG)) (aC (cD (.int 0)) (aC (op2 cR (bJ (mz (aD 4) tL (tK (cD (.int 1))))) (cH (aC (opA aCR (aC (op2 ixD (aD 4) (cD (.int 1))) aG)) aG))) aG))))))))
def odW:En->Rs D:=op2 cR (op2 cR (bJ (mz (aD 2) tL (tK (aD 3)))) (cH (aC (op2 ixD (gn 5) (aU az (aC (aD 0) (aC (cD (.int 8001)) (aC (cD (.int 8)) aG))))) aG))) (bJ (mz (aD 2) (tK (aD 3)) tL))
def odT:En->Rs D:=op2 cR (bJ (aD 2)) (bJ (mz (aD 2) tL (tK (cD (.int 1)))))
def odJ:En->Rs D:=op2 ixD (gq (aC (cD (.int 0)) (aC (cD (.int 0)) (aC (cD (.int 0)) (aC (cD (.int 1)) (aC (cD (.int 2)) (aC (cD (.int 3)) (aC (cD (.int 4)) (aC (cD (.int 5)) (aC (cD (.int 6)) (aC (cD (.int 6)) aG))))))))))) (aU az (aC (aD 0) (aC (cD (.int 8002)) (aC (cD (.int 10)) aG))))
def jb:En->Ou:=aj (cP 3 (aU az (aC (aD 0) (aC (cD (.int 8000)) (aC (op2 cR (opA fL (aC (aD 2) aG)) (cD (.int 1))) aG))))) (aj (cP 4 (op2 ixD (op2 cR (aD 2) (cH (aC (cH (aC (cD (.int 0)) (aC (cD (.int 1)) aG))) aG))) (cD (.int 0)))) (aj (uc 5 odL)
  (aj (jT 6 (gq (aC odW (aC odT (aC (opA v6 (aC (bJ (aD 2)) aG)) (aC (cD .non) (aC (cH (aC (cH aG) aG)) (aC (cD (.int 0)) aG)))))))) (aj (oN 6 (bJ (op1 aBV (aD 2)))) (retS (op2 ixD (oR 6) odJ))))))
def mW:List D->Rs D:=eF 7 jb
def ipE:En->Ou:=ifS (orT (lX (tst (op1 (jy "tuple") (aD 1)))) (tsb (op2 (eqR true) (opA fL (aC (aD 1) aG)) (cD (.int 2))))) (retS (cD (.bl false))) Ou.nx
def jd:En->Ou:=aj ipE (retS (z9 (aU gR (aC (aD 0) (aC (op2 ixD (aD 1) (cD (.int 0))) aG))) (z9 (aU gR (aC (aD 0) (aC (op2 ixD (aD 1) (cD (.int 1))) aG))) (op2 (eqR true) (op2 ixD (aD 1) (cD (.int 0))) (op2 ixD (aD 1) (cD (.int 1)))))))
def mX:List D->Rs D:=eF 2 jd
def bN:En->Ou:=
  (aj (ifS (lX (tst (op1 (jy "tuple") (aD 1))))
   (retS (cD (.bl false)))
   Ou.nx)
  (aj (fZ (cF (aD 1)) (gnm 2)
   (ifS (lX (tst (aU mX (aC (aD 0) (aC (aD 2) aG)))))
    (retS (cD (.bl false)))
    Ou.nx))
  (retS (aU gm (aC (aD 1) aG)))))
def bQ:List D->Rs D:=eF 3 bN
def gK:En->Ou:=
  (retS (z9 (aU bQ (aC (aD 0) (aC (aD 1) aG))) (opA (oO λ bs=>bs.all id) (aC (lcD (cF (aD 1)) [none,none] (fY 2 (bB (gnm 0) (bB (gnm 1) gH))) jh (op2 ltD (aD 0) (aD 1))) aG))))
def dG:List D->Rs D:=eF 2 gK
def mQ:En->Ou:=
  (aj (ifS (orT (lX (tst (op1 (jy "tuple") (aD 0)))) (tsb (op2 (eqR true) (opA fL (aC (aD 0) aG)) (cD (.int 2)))))
   (retS (cD (.bl false)))
   Ou.nx)
  (retS (z9 (aU qR (aC (op2 ixD (aD 0) (cD (.int 0))) aG)) (aU dG (aC (op2 ixD (aD 0) (cD (.int 0))) (aC (op2 ixD (aD 0) (cD (.int 1))) aG))))))
def uU:List D->Rs D:=eF 1 mQ
def kdC:En->Rs D:=dcD (cF (op2 ixD (aD 0) (cD (.int 1)))) [none] (gnm 0) jh (bJ (aD 0)) (cD (.bl true))
def kdB:En->Ou:=ifS (tsb (op2 (inK true) (aD 3) (aD 2))) (pJ "NoParting" (aC (cD (.str "a tie is none of the web")) aG)) Ou.nx
def fO:En->Ou:=aj (ifS (lX (tst (aU dG (aC (op2 ixD (aD 0) (cD (.int 0))) (aC (aD 1) aG))))) (pJ "NoParting" (aC (cD (.str "these are no ties, or they do not rise")) aG)) Ou.nx) (aj (cP 2 kdC) (fZ (cF (aD 1)) (gnm 3) kdB))
def dY:List D->Rs D:=eF 4 fO
def gj:En->Ou:=
  (ifS (lX (tst (aU uU (aC (aD 0) aG))))
   (pJ "NoWeb" (aC (cD (.str "this is no web")) aG))
   Ou.nx)
def dC:List D->Rs D:=eF 1 gj
def qP:En->Ou:=
  (aj (pX (aU dC (aC (aD 0) aG)))
  (retS (aU dm (aC (aU dZ (aC (aD 0) aG)) (aC (lrD (op2 ixD (aD 0) (cD (.int 0)))) aG)))))
def uT:List D->Rs D:=eF 1 qP
def pxR:En->Ou:=pJ "NoParting" (aC (cD (.str "three of the ties are at one place")) aG)
def pxQ:En->Ou:=pJ "NoParting" (aC (cD (.str "some of the ties close a ring")) aG)
def pxB:En->Ou:=aj (ifS (tst (opA (oO λ bs=>bs.any id) (aC (lcD (cF (aD 5)) [none,some 3] (gnm 0) jh (op2 gtD (opA fL (aC (op2 ixD (aD 1) (aD 0)) aG)) (cD (.int 2)))) aG))) pxR Ou.nx)
 (aj (uc 6 (lcD (cF (aD 5)) [none,some 3] (gnm 0) (tsb (op2 ltD (opA fL (aC (op2 ixD (aD 1) (aD 0)) aG)) (cD (.int 2)))) (bJ (aD 0))))
 (aj (ifS (lX (tst (gn 6))) pxQ Ou.nx) (oN 4 (aU il (aC (aD 3) (aC (op2 ixD (gn 6) (cD (.int 0))) aG))))))
def cQ:En->Ou:=aj (pX (aU dC (aC (aD 0) aG))) (aj (pX (aU dY (aC (aD 0) (aC (aD 1) aG))))
  (aj (cP 2 (cH (aC (op2 ixD (aD 0) (cD (.int 0))) (aC (aD 1) aG)))) (aj (cP 3 (aU dZ (aC (aD 2) aG))) (aj (jT 4 (gq aG)) (aj (fZ (cF (aU uT (aC (aD 2) aG))) (gnm 5) pxB)
  (retS (opA eG (aC (opA jo (aC (jM 4) aG)) aG))))))))
def aQ:List D->Rs D:=eF 7 cQ
def lwR:En->Rs (List D):=(fW jC (aC (opA (mmD λ i j=>if j>i then j else i) (aC (cD (.int 1)) (aC (opA (mmD λ i j=>if j<i then j else i) (aC (opA fL (aC (aD 0) aG)) (aC (cD (.int 8)) aG))) aG))) aG))
def w4:En->Rs D:=(aU jL (aC (aU iH (aC (aD 2) (aC (cD (.int 5000)) (aC (aD 3) (aC (aU gQ (aC (aD 3) aG)) aG))))) aG))
def w5:En->Rs D:=(opA eG (aC (lcD (cF (op2 ixD (aD 3) (cD (.int 1)))) [none,some 2] (gnm 0) (tsb (op2 (eqR false) (aU az (aC (aD 1) (aC (op2 cR (op2 cR (cD (.int 6000)) (op2 lC (cD (.int 61)) (op2 ixD (aD 0) (cD (.int 0))))) (op2 ixD (aD 0) (cD (.int 1)))) (aC (cD (.int 4)) aG)))) (cD (.int 0)))) (bJ (aD 0))) aG))
def lTh:En->Rs (List D):=(cF (gq (aC (aD 4) (aC (aD 5) (aC (op2 ixD (aD 3) (cD (.int 1))) (aC (cH aG) (aC (aU mW (aC (aD 2) (aC (aD 3) (aC (aD 4) aG)))) (aC (aU mW (aC (op2 cR (aD 2) (cD (.int 1))) (aC (aD 3) (aC (aD 5) aG)))) aG))))))))
def lT:En->Ou:=(aj (cP 7 (cD .non)) (aj (ifS (tst (aU fC (aC (aD 3) (aC (aD 6) aG)))) (cP 7 (aU jg (aC (op2 ixD (aD 3) (cD (.int 0))) (aC (aD 6) aG)))) Ou.nx) (ifS (tsb (op2 (isD false) (aD 7) (cD .non))) (ifS (tsb (op2 (eqR true) (zu wdN "told" (aU aQ (aC (aD 3) (aC (aD 6) aG)))) (cD (.str "parting")))) (retS (cD (.bl false))) Ou.nx) (aj (cP 8 (aU aQ (aC (aD 3) (aC (aD 6) aG)))) (ifS (orT (lX (tst (op1 (jy "tuple") (aD 8)))) (tsb (op2 (eqR true) (aD 8) (aD 7)))) (retS (cD (.bl false))) Ou.nx)))))
def lI2:En->Ou:=(ifS (tsb (op2 (eqR true) (zu wdN "told" (aU aQ (aC (cH (aC (cD (.int 2)) (aC (cH (aC (cH (aC (cD (.int 1)) (aC (cD (.int 0)) aG))) aG)) aG))) (aC (cH aG) aG)))) (cD (.str "web")))) (retS (cD (.bl false))) Ou.nx)
def lwK:En->Ou:=aj (cP 2 (aU dq (aC (aD 0) (aC (aD 1) aG)))) (aj (cP 3 (aU jf (aC (aD 2) (aC (cD (.int 10)) aG)))) (aj (cP 4 w4) (aj (cP 5 w5) (aj (fZ lTh (gnm 6) lT) lI2))))
def lw9:En->Ou:=(cP 9 (cH (aC (cD (.int 3)) (aC (cH (aC (cH (aC (cD (.int 0)) (aC (cD (.int 1)) aG))) (aC (cH (aC (cD (.int 0)) (aC (cD (.int 2)) aG))) (aC (cH (aC (cD (.int 1)) (aC (cD (.int 2)) aG))) aG)))) aG))))
def lwZ:En->Rs D:=(z9 (op2 (eqR false) (zu wdN "told" (aU aQ (aC (aD 9) (aC (op2 ixD (aD 9) (cD (.int 1))) aG)))) (cD (.str "parting"))) (op2 (eqR false) (aU aQ (aC (cH (aC (cD (.int 0)) (aC (cH aG) aG))) (aC (cH aG) aG))) (cH aG)))
def aAn:En->Ou:=aj (fZ lwR (gnm 1) lwK) (aj lw9 (retS lwZ))
def aKE:List D->Rs D:=eF 10 aAn
theorem aAh(hb:0<b)(hb2:b<1073741824):∀(ds:List D) (x:Int) (s:Slot),(∀d∈ds,∃n:Int,d= .int n)->
  (∃y s',forL (gnm 4) (aj (ifS (tsb (op2 (eqR false) (aD 3) (cD (.int 0)))) (retS (cD (.int 0))) Ou.nx) (cP 3 (op2 vf (aD 3) (aD 2)))) ds [.sh (.int c),.sh (.int k),.sh (.int b),.sh (.int x),s,.no]= .nx [.sh (.int c),.sh (.int k),.sh (.int b),.sh (.int y),s',.no])\/
  forL (gnm 4) (aj (ifS (tsb (op2 (eqR false) (aD 3) (cD (.int 0)))) (retS (cD (.int 0))) Ou.nx) (cP 3 (op2 vf (aD 3) (aD 2)))) ds [.sh (.int c),.sh (.int k),.sh (.int b),.sh (.int x),s,.no]= .rt (.int 0)
 |[],x,s,_=>.inl ⟨x,s,rfl⟩
 |d::ds,x,s,h=>by
  have ih:=aAh hb hb2 (c:=c) (k:=k) ds (x / b) (.sh d) λ e he=>h e (zAH _ he)
  rw[cG];by_cases hx:x=0
  .subst hx
   right;simp
  .simp[hx,aA3 hb hb2]
   exact ih
def aLm(hk0:0<=k)(hk1:k<2^40)(hb:0<b)(hb2:b<1073741824):∃r:Int,az [.int c,.int k,.int b]= .ok (.int r)/\0<=r/\r<b:=by
 have hp:aNN (.int 10) (.int 18)= .ok (.int 1000000000000000000):=rfl;by_cases hc:(1000000000000000000:Int)<=c
 .have hr:=jU (j:=k) (by lia) (by lia)
  have hl:=aAh hb hb2 (c:=c) (k:=k) (bW 0 k) c .no λ d hd=>let⟨n,e,_⟩:=aCq.mp hd;⟨n,e⟩
  rcases hl with ⟨y,s',e⟩|e
  .refine⟨y%b,?_,zDs _ (by lia),zDS _ hb⟩
   simp[az,eX,bG,hp,hc,hr,e,pM hb]
  .refine⟨0,?_,by lia,hb⟩
   simp[az,eX,bG,hp,hc,hr,e]
 .have s1:∀z:Int,0<=z%2147483647/\z%2147483647<2147483647:=λ z=>⟨zDs _ (by decide),zDS _ (by decide)⟩
  have s2:∀z:Int,0<=z%2147483629/\z%2147483629<2147483629:=λ z=>⟨zDs _ (by decide),zDS _ (by decide)⟩
  have m1:∀z,lC (.int 1009) (.int z)= .ok (.int (1009*z)):=λ z=>yV (by decide) (by decide)
  have m2:∀z,lC (.int z) (.int 69621)= .ok (.int (z*69621)):=λ z=>aIm (by decide) (by decide)
  have m3:∀z,lC (.int 40503) (.int z)= .ok (.int (40503*z)):=λ z=>yV (by decide) (by decide)
  have m4:∀z,lC (.int z) (.int 48271)= .ok (.int (z*48271)):=λ z=>aIm (by decide) (by decide)
  have m5:∀z:Int,lC (.int (z%2147483647)) (.int (z%2147483647))= .ok (.int (z%2147483647*(z%2147483647))):=λ z=>yV (by have:=s1 z;lia) (by have:=s1 z;lia)
  have d1:∀z,uz (.int z) (.int 1000000007)= .ok (.int (z%1000000007)):=λ z=>pM (by decide)
  have d2:∀z,uz (.int z) (.int 2147483647)= .ok (.int (z%2147483647)):=λ z=>pM (by decide)
  have d3:∀z,uz (.int z) (.int 2147483629)= .ok (.int (z%2147483629)):=λ z=>pM (by decide)
  have d4:∀z,vf (.int z) (.int 32)= .ok (.int (z / 32)):=λ z=>aA3 (by decide) (by decide)
  have d5:∀z,uz (.int z) (.int b)= .ok (.int (z%b)):=λ z=>pM hb
  simp[az,eX,bG,hp,hc,m1,m2,m3,m4,m5,d1,d2,d3,d4,d5,-Int.emod_emod_of_dvd];exact⟨zDs _ (by lia),zDS _ hb⟩
def iy(hk0:0<=k)(hk1:k<2^40)(hb:0<b)(hb2:b<1073741824):∃r:Nat,az [.int c,.int k,.int b]= .ok (.int r)/\(r:Int)<b:=by
 obtain⟨r,e,h0,h1⟩:=aLm (c:=c) hk0 hk1 hb hb2;exact⟨r.toNat,by rw[zCV h0];exact e,by lia⟩
def aLs(h:0<=k):∃c:Int,dq [.scr ns,.int k]= .ok (.int c):=by
 by_cases hk:k<ns.length
 .obtain⟨d,e,hm,_⟩:=sG (l:=ns.map .int) (i:=k) h (by simpa using hk)
  obtain⟨c,_,rfl⟩:=zA3.mp hm;exact⟨c,by simp[dq,dF,bG,hk,e]⟩
 .exact⟨0,by simp[dq,dF,bG,hk]⟩
mutual
def pln:D->Bool
 | .tup l=>yJ l
 | .lst l=>yJ l
 | .set _=>false
 | .scr _=>false
 | .fn _=>false
 |_=>true
def yJ:List D->Bool
 |[]=>true
 |d::r=>pln d&&yJ r
end
def qK(h:pln d=true):knd d=true:=by cases d<;>first|rfl|(simp[pln]at h)
theorem yI:∀{l:List D} {d:D},yJ l=true->d∈l->pln d=true
 |x::r,d,h,hm=>by
  simp only[yJ,zAK]at h;rcases zAJ.mp hm with rfl|hm
  .exact h.1
  .exact yI h.2 hm
theorem w6:∀{l:List D},(∀d∈l,pln d=true)->yJ l=true
 |[],_=>rfl
 |x::r,h=>by
  simp only[yJ,zAK];exact⟨h x (zAE ..),w6 λ d hd=>h d (zAH _ hd)⟩
def aDj:D->Bool
 | .int _=>true
 |_=>false
def aFd:D->Bool
 | .int i=>decide (0<=i)&&decide (i<=60)
 |_=>false
def iQ(m:Int):D->Bool
 | .int i=>decide (0<=i)&&decide (i<m)
 |_=>false
def v8(h:knd d=true):lB [d]= .ok (.bl (aDj d)):=by
 simp[lB,iU,bG,aLY h,yr h];cases d<;>rfl
def aEm(h:knd d=true):qR [d]= .ok (.bl (aFd d)):=by
 simp[qR,je,bG,v8 h];cases d<;>simp[aDj,aFd]
 rename_i i;by_cases h0:0<=i<;>simp[h0]
def v9(h:knd d=true):gR [.int m,d]= .ok (.bl (iQ m d)):=by
 simp[gR,iV,bG,v8 h];cases d<;>simp[aDj,iQ]
 rename_i i;by_cases h0:0<=i<;>simp[h0]
def jD(m:Int):D->Bool
 | .tup [.int a,.int b]=>decide (0<=a)&&decide (a<m)&&decide (0<=b)&&decide (b<m)&& !(a==b)
 |_=>false
def aAQ(h:iQ m d=true):∃i:Int,d= .int i/\0<=i/\i<m:=by
 cases d with
 |int i=>simp[iQ]at h;exact⟨i,rfl,h.1,h.2⟩
 |_=>simp[iQ]at h
def sV(h:jz d=true):∃l,d= .tup l:=by cases d<;>first|exact⟨_,rfl⟩|(cases h)
def aMk(h:l.length=2):∃x y,l=[x,y]:=by
 match l,h with
 |[x,y],_=>exact⟨x,y,rfl⟩
def aIb(h:jz d=false):jD m d=false:=by cases d<;>first|rfl|(cases h)
def aGe(h:l.length≠2):jD m (.tup l)=false:=by
 match l,h with
 |[],_=>rfl
 |[x],_=>cases x<;>rfl
 |[x,y],h=>exact absurd rfl h
 |x::y::z::r,_=>cases x<;>first|rfl|(cases y<;>rfl)
def aKv(h:iQ m x=false):jD m (.tup [x,y])=false:=by
 cases x with
 |int i=>
  cases y with
  |int j=>
   show((((decide (0<=i)&&decide (i<m))&&decide (0<=j))&&decide (j<m))&& !(i==j))=false
   rw[show(decide (0<=i)&&decide (i<m))=false from h];rfl
  |_=>rfl
 |_=>rfl
def aKu(h:iQ m y=false):jD m (.tup [.int i,y])=false:=by
 cases y with
 |int j=>
  show((((decide (0<=i)&&decide (i<m))&&decide (0<=j))&&decide (j<m))&& !(i==j))=false
  rw[zEu (decide (0<=i)&&decide (i<m)),show(decide (0<=j)&&decide (j<m))=false from h,zEv];rfl
 |_=>rfl
def aIa(h1:iQ m (.int i)=true)(h2:iQ m (.int j)=true):jD m (.tup [.int i,.int j])= !(i==j):=by
 show((((decide (0<=i)&&decide (i<m))&&decide (0<=j))&&decide (j<m))&& !(i==j))= !(i==j)
 rw[zEu (decide (0<=i)&&decide (i<m)),show(decide (0<=j)&&decide (j<m))=true from h2,show(decide (0<=i)&&decide (i<m))=true from h1];rfl
def aON(hk:knd d=true)(h:jz d=false):ipE [s,.sh d]= .rt (.bl false):=by simp[ipE,mJ hk,h]
def aL1(h:l.length≠2):ipE [s,.sh (.tup l)]= .rt (.bl false):=by
 have:¬((l.length:Int)=2):=by omega
 simp[ipE,this]
def aL0:ipE [s,.sh (.tup [x,y])]= .nx [s,.sh (.tup [x,y])]:=by simp[ipE]
def aEk(h:pln d=true):mX [.int m,d]= .ok (.bl (jD m d)):=by
 have st:bG 2 [.int m,d]=[.sh (.int m),.sh d]:=rfl;simp only[mX,jd,bT,st];cases ht:jz d with
 |false=>rw[aN,aON (qK h) ht,aIb ht];rfl
 |true=>
  obtain⟨l,rfl⟩:=sV ht;by_cases hl:l.length=2
  .obtain⟨x,y,rfl⟩:=aMk hl
   simp only[pln,yJ,zAK]at h;have hx:=v9 (m:=m) (qK h.1);have hy:=v9 (m:=m) (qK h.2.1);have ex:aU gR (aC (aD 0) (aC (op2 ixD (aD 1) (cD (.int 0))) aG)) [.sh (.int m),.sh (.tup [x,y])]= .ok (.bl (iQ m x)):=by simp[hx]
   have ey:aU gR (aC (aD 0) (aC (op2 ixD (aD 1) (cD (.int 1))) aG)) [.sh (.int m),.sh (.tup [x,y])]= .ok (.bl (iQ m y)):=by simp[hy]
   rw[aN,aL0,aa,fG,uO,ex,aR,xG,uO,ey,aR,xG];cases c1:iQ m x with
   |false=>rw[aKv c1];rfl
   |true=>
    obtain⟨i,rfl,_,_⟩:=aAQ c1;cases c2:iQ m y with
    |false=>rw[aKu c2];rfl
    |true=>
     obtain⟨j,rfl,_,_⟩:=aAQ c2;rw[aIa c1 c2];rfl
  .rw[aN,aL1 hl,aGe hl];rfl
def pD(p:Int×Int):D:=.tup [.int p.1,.int p.2]
def ltP(p q:Int×Int):Bool:=HT.lexLt [p.1,p.2] [q.1,q.2]
def qU:gX->Bool
 |[]=>true
 |[_]=>true
 |p::q::r=>ltP p q&&qU (q::r)
def aNv(p q:Int×Int):ltD (pD p) (pD q)= .ok (.bl (ltP p q)):=aLO [p.1,p.2] [q.1,q.2]
theorem vI:∀(ds:List D) (ok:Nat->Bool) (I:En->Prop) (Y:En),I Y->(∀(i:Nat) d Y,ds[i]? =some d->I Y->okE (a d Y) u= .rt r/\ok i=false\/∃Y',okE (a d Y) u= .nx Y'/\I Y'/\ok i=true)->
  (forL a u ds Y= .rt r/\∃i,i<ds.length/\ok i=false)\/(∃Y',forL a u ds Y= .nx Y'/\I Y'/\∀i,i<ds.length->ok i=true)
 |[],ok,I,Y,h,_=>.inr ⟨Y,rfl,h,λ i hi=>absurd hi (zGU _)⟩
 |d::ds,ok,I,Y,h,hs=>by
  rw[cG];rcases hs 0 d Y rfl h with ⟨e,o⟩|⟨Y',e,h',o⟩
  .left
   refine⟨?_,0,by simp,o⟩;cases ea:a d Y with
   |ok Y1=>rw[ea]at e;simp at e ⊢;rw[e];rfl
   |ex c=>rw[ea]at e;cases e
   |st=>rw[ea]at e;cases e
  .have ih:=vI ds (λ i=>ok (i+1)) I Y' h' λ i d2 Y2 e2 h2=>hs (i+1) d2 Y2 (by simpa using e2) h2
   have e3:okE (a d Y) (λ Y1=>(u Y1).tn (forL a u ds))=forL a u ds Y':=by
    cases ea:a d Y with
    |ok Y1=>rw[ea]at e;simp at e ⊢;rw[e];rfl
    |ex c=>rw[ea]at e;cases e
    |st=>rw[ea]at e;cases e
   rw[e3];rcases ih with ⟨e4,i,hi,o4⟩|⟨Y4,e4,h4,o4⟩
   .exact .inl ⟨e4,i+1,by simpa using hi,o4⟩
   .refine .inr ⟨Y4,e4,h4,λ i hi=>?_⟩
    cases i with
    |zero=>exact o
    |succ i=>exact o4 i (by simpa using hi)
def lw{i:Nat}(h:(bW lo hi)[i]? =some d):d= .int (lo+i)/\lo+i<hi:=by
 unfold bW at h;rw[zAY]at h;by_cases hi2:i<(hi-lo).toNat
 .rw[zFD hi2]at h
  cases h;exact⟨rfl,by omega⟩
 .rw[zEj (by simpa using hi2)]at h
  cases h
def jB:(bW lo hi).length=(hi-lo).toNat:=by unfold bW;simp
section
variable{α:Type}{f:α->D}{lt:α->α->Bool}
def xu(lt:α->α->Bool):List α->Bool
 |[]=>true
 |[_]=>true
 |p::q::r=>lt p q&&xu lt (q::r)
theorem tE:∀{ps:List α},xu lt ps=true↔∀(i:Nat) (p q:α),ps[i]? =some p->ps[i+1]? =some q->lt p q=true
 |[]=>by simp[xu]
 |[x]=>by
  simp only[xu,true_iff];intro i p q _ h2;simp at h2
 |x::y::r=>by
  have ih:=tE (ps:=y::r);unfold xu;rw[zAK,ih];constructor
  .rintro⟨h1,h2⟩ i p q e1 e2
   cases i with
   |zero=>simp at e1 e2;subst e1 e2;exact h1
   |succ i=>exact h2 i p q (by simpa using e1) (by simpa using e2)
  .intro h
   exact⟨h 0 x y rfl rfl,λ i p q e1 e2=>h (i+1) p q (by simpa using e1) (by simpa using e2)⟩
def aDJ(hlt:∀a b,ltD (f a) (f b)= .ok (.bl (lt a b)))(hl:ps.length<=100000):gm [.tup (ps.map f)]= .ok (.bl (xu lt ps)):=by
 have hr:=aFX (i:=1) (j:=(ps.length:Int)) (by decide) (by decide) (by omega) (by omega);have kK:(bW 1 (ps.length:Int)).length=ps.length-1:=by rw[jB];omega
 have L:=vI (a:=gnm 1) (u:=ifS (lX (tsb (op2 ltD (op2 ixD (aD 0) (op2 aGR (aD 1) (cD (.int 1)))) (op2 ixD (aD 0) (aD 1))))) (retS (cD (.bl false))) Ou.nx) (r:=.bl false)
  (bW 1 (ps.length:Int)) (λ i=>match ps[i]?,ps[i+1]? with|some p,some q=>lt p q|_,_=>true) (λ Y=>∃s,Y=[.sh (.tup (ps.map f)),s]) [.sh (.tup (ps.map f)),.no] ⟨_,rfl⟩ (by
   rintro i d Y hd ⟨s,rfl⟩;obtain⟨rfl,h2⟩:=lw hd;have e1:ps[i]? =some ps[i]:=zAI (by omega);have e2:ps[i+1]? =some ps[i+1]:=zAI (by omega);have a1:atD (ps.map f) (1+(i:Int)-1)= .ok (f ps[i]):=by
    rw[show(1+(i:Int)-1)=(i:Int)by omega];exact jX (by rw[zAY,e1];rfl)
   have a2:atD (ps.map f) (1+(i:Int))= .ok (f ps[i+1]):=by
    rw[show(1+(i:Int))=((i+1:Nat):Int)by omega];exact jX (by rw[zAY,e2];rfl)
   simp only[e1,e2];cases c:lt ps[i] ps[i+1]with
   |true=>right;exact⟨_,by simp[a1,a2,hlt,c];rfl,⟨_,rfl⟩,rfl⟩
   |false=>left;exact⟨by simp[a1,a2,hlt,c],rfl⟩)
 have st:bG 2 [.tup (ps.map f)]=[.sh (.tup (ps.map f)),.no]:=rfl;rcases L with ⟨e,i,hi,o⟩|⟨Y',e,⟨s,rfl⟩,o⟩
 .have:xu lt ps=false:=by
   cases c:xu lt ps with
   |false=>rfl
   |true=>
    rw[kK]at hi;have z:=tE.mp c i ps[i] ps[i+1] (zAI (by omega)) (zAI (by omega));rw[zAI (by omega),zAI (by omega)]at o;simp only at o;rw[z]at o;cases o
  rw[this];simp only[gm,eY,bT,st];simp[hr,e]
 .have:xu lt ps=true:=tE.mpr λ i p q e1 e2=>by
   have h2:=(zAN.mp e2).1
   have:=o i (by rw[kK];omega)
   rw[e1,e2]at this;exact this
  rw[this];simp only[gm,eY,bT,st];simp[hr,e]
end
theorem aED:∀ps:gX,qU ps=xu ltP ps
 |[]=>rfl
 |[_]=>rfl
 |p::q::r=>by unfold qU xu;rw[aED (q::r)]
def aBm(hl:ps.length<=100000):gm [.tup (ps.map pD)]= .ok (.bl (qU ps)):=by
 rw[aED];exact aDJ aNv hl
def aBU:qU ps=true↔∀(i:Nat) (p q:Int×Int),ps[i]? =some p->ps[i+1]? =some q->ltP p q=true:=by rw[aED];exact tE
def aEO:D->Int×Int
 | .tup [.int a,.int b]=>(a,b)
 |_=>(0,0)
def yL(h:jD m d=true):∃a b:Int,d= .tup [.int a,.int b]/\0<=a/\a<m/\0<=b/\b<m/\a≠b:=by
 unfold jD at h;split at h
 .rename_i a b
  simp at h;exact⟨a,b,rfl,h.1.1.1.1,h.1.1.1.2,h.1.1.2,h.1.2,h.2⟩
 .cases h
theorem aIU:∀{ts:List D},ts.all (jD m)=true->(ts.map aEO).map pD=ts
 |[],_=>rfl
 |t::ts,h=>by
  rw[zFQ,zAK]at h;obtain⟨a,b,rfl,_⟩:=yL h.1;simp only[zAS];rw[aIU h.2];rfl
def rpB(m:Int):D->Bool
 | .tup ts=>ts.all (jD m)&&qU (ts.map aEO)
 |_=>false
def aCV:D->Bool
 | .tup l=>decide (l.length<=100000)
 |_=>true
def jQ(h:pln d=true)(hs:aCV d=true):bQ [.int m,d]= .ok (.bl (rpB m d)):=by
 cases d with
 |tup ts=>
  have hp:yJ ts=true:=by simpa[pln]using h
  have hl:ts.length<=100000:=by simpa[aCV]using hs
  have L:=vI (a:=gnm 2) (u:=ifS (lX (tst (aU mX (aC (aD 0) (aC (aD 2) aG))))) (retS (cD (.bl false))) Ou.nx) (r:=.bl false)
   ts (λ i=>match ts[i]? with|some t=>jD m t|none=>true) (λ Y=>∃s,Y=[.sh (.int m),.sh (.tup ts),s]) [.sh (.int m),.sh (.tup ts),.no] ⟨_,rfl⟩ (by
    rintro i d Y hd ⟨s,rfl⟩;have e:=aEk (m:=m) (yI hp (zBf hd));simp only[hd];cases c:jD m d with
    |true=>right;exact⟨_,by simp[e,c];rfl,⟨_,rfl⟩,rfl⟩
    |false=>left;exact⟨by simp[e,c],rfl⟩)
  have st:bG 3 [.int m,.tup ts]=[.sh (.int m),.sh (.tup ts),.no]:=rfl;rcases L with ⟨e,i,hi,o⟩|⟨Y',e,⟨s,rfl⟩,o⟩
  .have:ts.all (jD m)=false:=by
    rw[List.all_eq_false];rw[zAI hi]at o;exact⟨ts[i],zCj hi,by simpa using o⟩
   simp only[bQ,bN,bT,st];simp[e,rpB,this]
  .have:ts.all (jD m)=true:=by
    rw[zA8];intro t ht;obtain⟨i,hi,rfl⟩:=zFE ht
    have:=o i hi
    rw[zAI hi]at this;exact this
   have er:=aBm (ps:=ts.map aEO) (by rw[zAD];exact hl);rw[aIU this]at er;simp only[bQ,bN,bT,st];simp[e,rpB,this,er]
 |_=>simp[bQ,bN,bG,mJ (qK h),jz,rpB]
structure Ow(n:Int)(ps:gX):Prop where
 n0:0<=n
 n1:n<=60
 len:ps.length<=3600
 pr:∀p∈ps,0<=p.1/\p.1<n/\0<=p.2/\p.2<n/\p.1≠p.2
 ris:qU ps=true
def owD(n:Int)(ps:gX):D:=.tup [.int n,.tup (ps.map pD)]
def Ow.rp(h:Ow n ps):rpB n (.tup (ps.map pD))=true:=by
 have e:(ps.map pD).map aEO=ps:=by rw[zAz];exact(zCT λ p _=>rfl).trans (zGN ps)
 unfold rpB;dsimp only;rw[e,h.ris,zEZ,zA8];intro d hd;obtain⟨p,hp,rfl⟩:=zA3.mp hd;obtain⟨a,b,c,d,e⟩:=h.pr p hp;simp[pD,jD,a,b,c,d,e]
theorem aF2:∀ps:gX,yJ (ps.map pD)=true
 |[]=>rfl
 |p::ps=>by simp only[zAS,yJ,aF2 ps,zEZ];rfl
theorem uE:∀ns:List Int,fj (ns.map .int)=0/\bY (ns.map .int)=true
 |[]=>⟨rfl,rfl⟩
 |n::ns=>by
  obtain⟨h1,h2⟩:=uE ns;simp[fj,lD,bY,bA,h1,h2]
theorem vN:∀ps:gX,fj (ps.map pD)<=1/\bY (ps.map pD)=true
 |[]=>⟨by simp[fj],rfl⟩
 |p::ps=>by
  obtain⟨h1,h2⟩:=vN ps;simp[fj,lD,bY,bA,h2,pD,h1]
def wu(neg:Bool)(y:Int)(ns:List Int):inR neg (.int y) (.lst (ns.map .int))= .ok (.bl (if neg then !decide (y∈ns)else decide (y∈ns))):=by
 obtain⟨h1,h2⟩:=uE ns;have e:inD (.int y) (ns.map .int)=decide (y∈ns):=by
  unfold inD;rw[zCE];simp[zBO,eqD]
 unfold inR;dsimp only;rw[h1,h2,e];rfl
def aJP(neg:Bool)(q:Int×Int)(ps:gX):inR neg (pD q) (.tup (ps.map pD))= .ok (.bl (if neg then !decide (q∈ps)else decide (q∈ps))):=by
 obtain⟨h1,h2⟩:=vN ps;have e:inD (pD q) (ps.map pD)=decide (q∈ps):=by
  unfold inD;rw[zCE];simp only[zHV,zBO,zGK,decide_eq_true_eq];constructor
  .rintro⟨p,hp,h⟩
   simp[pD,eqD,iI]at h
   have:p=q:=zHy h.1 h.2
   exact this▸hp
  .intro h
   exact⟨q,h,by simp[pD,eqD,iI]⟩
 unfold inR;dsimp only;have h3:decide (fj (ps.map pD)<=60)=true:=by simp;lia
 have h4:bA (pD q)=true:=rfl;rw[h2,e,h3,h4];rfl
def uK(f:α->Bool)(l:List α):boolsOf (l.map λ x=>D.bl (f x))=some (l.map f):=by
 have:=wJ (l.map f)
 rwa [zAz]at this
def aDa(f:α->Bool)(l:List α):oO (λ bs=>bs.all id) [.lst (l.map λ x=>D.bl (f x))]= .ok (.bl (l.all f)):=by
 unfold oO;dsimp only;rw[uK];dsimp only;rw[zHU];rfl
theorem jV:∀(l:List α),(∀x∈l,∃Y1,fg (f x) Y= .ok Y1/\ft Y1= .ok (t x)/\fe Y1= .ok (g x))->lcL Y fg ft fe (l.map f)= .ok ((l.filter t).map g)
 |[],_=>rfl
 |x::l,h=>by
  obtain⟨Y1,e1,e2,e3⟩:=h x zAE;have ih:=jV l λ y hy=>h y (zAH _ hy)
  rw[zAS];unfold lcL;rw[e1,aR,e2,aR,e3,aR,ih,aR,zFr];cases t x<;>rfl
theorem aIw{Y:En}:∀(ps:gX),lcL [.no,.no] (fY 2 (bB (gnm 0) (bB (gnm 1) gH))) jh (op2 ltD (aD 0) (aD 1)) (ps.map pD)= .ok (ps.map λ p=>.bl (decide (p.1<p.2)))
 |[]=>rfl
 |p::ps=>by
  unfold lcL;simp[pD,aIw (Y:=Y) ps]
def aD6{n:Int}(h:Ow n ps)(low:∀p∈ps,p.1<p.2):dG [.int n,.tup (ps.map pD)]= .ok (.bl true):=by
 have hl:=h.len;have e:=jQ (m:=n) (d:=.tup (ps.map pD)) (by simpa[pln]using aF2 ps) (by simp[aCV];lia);rw[h.rp]at e;have el:=aIw (Y:=[]) ps;have ei:lcD (cF (aD 1)) [none,none] (fY 2 (bB (gnm 0) (bB (gnm 1) gH))) jh (op2 ltD (aD 0) (aD 1)) [.sh (.int n),.sh (.tup (ps.map pD))]= .ok (.lst (ps.map λ p=>.bl (decide (p.1<p.2)))):=by
  have hi:cF (aD 1) (shE [.sh (.int n),.sh (.tup (ps.map pD))])= .ok (ps.map pD):=by simp[shE,m9]
  unfold lcD;rw[hi,aR,if_pos (by rw[szl,zAD];lia)]
  show(match lcL [.no,.no] _ jh _ (ps.map pD)with| .ok l=>Rs.ok (D.lst l)|_=>Rs.st)=_
  rw[el]
 have ha:opA (oO λ bs=>bs.all id) (aC (lcD (cF (aD 1)) [none,none] (fY 2 (bB (gnm 0) (bB (gnm 1) gH))) jh (op2 ltD (aD 0) (aD 1))) aG) [.sh (.int n),.sh (.tup (ps.map pD))]= .ok (.bl true):=by
  rw[eQ,bC,ei,aR,fu,aR,aR,aDa,cB];rw[zA8.mpr λ p hp=>decide_eq_true (low p hp)]
 have st:bG 2 [.int n,.tup (ps.map pD)]=[.sh (.int n),.sh (.tup (ps.map pD))]:=rfl;have ec:aU bQ (aC (aD 0) (aC (aD 1) aG)) [.sh (.int n),.sh (.tup (ps.map pD))]= .ok (.bl true):=by rw[iG];exact e
 simp only[dG,gK,bT,st];rw[fG,uO,ec,ha];rfl
def aHC(h:Ow n ps)(low:∀p∈ps,p.1<p.2):uU [owD n ps]= .ok (.bl true):=by
 have e1:=aEm (d:=.int n) rfl;have e2:=aD6 h low;have e3:aFd (.int n)=true:=by simp[aFd,h.n0,h.n1]
 rw[e3]at e1;simp[uU,mQ,owD,bG,e1,e2]
def mn(a b:Int):Int:=if b<a then b else a
def mx(a b:Int):Int:=if b>a then b else a
def mnmx_in(h1:0<=a)(h2:a<n)(h3:0<=b)(h4:b<n)(ne:a≠b):0<=mn a b/\mn a b<mx a b/\mx a b<n:=by
 by_cases h:b<a
 .rw[mn,mx,if_pos h,if_neg (by lia)]
  exact⟨h3,h,h2⟩
 .rw[mn,mx,if_neg h,if_pos (by lia)]
  exact⟨h1,by lia,h4⟩
def aLJ(a b:Int):(mn a b=a/\mx a b=b)\/(mn a b=b/\mx a b=a):=by
 by_cases h:b<a
 .rw[mn,mx,if_pos h,if_neg (by lia)]
  exact .inr ⟨rfl,rfl⟩
 .rw[mn,mx,if_neg h]
  by_cases h2:b>a
  .rw[if_pos h2];exact .inl ⟨rfl,rfl⟩
  .rw[if_neg h2];exact .inl ⟨rfl,by lia⟩
def jO(h1:fi (shE Y)= .ok ds)(h2:ds.length<16777216)(h3:lcL (stE js (shE Y)) fg ft fe ds= .ok out):lcD fi js fg ft fe Y= .ok (.lst out):=by
 unfold lcD;rw[h1,aR,if_pos (by rw[szl];exact h2),h3]
def vC(l:List α)(h:∀x∈l,∃Y1,fg (f x) Y= .ok Y1/\fe Y1= .ok (g x)):lcL Y fg jh fe (l.map f)= .ok (l.map g):=by
 have:=jV (Y:=Y) (fg:=fg) (ft:=jh) (fe:=fe) (f:=f) (g:=g) (t:=λ _=>true) l λ x hx=>by
  obtain⟨Y1,h1,h2⟩:=h x hx;exact⟨Y1,h1,rfl,h2⟩
 rwa [zHi.mpr λ _ _=>rfl]at this
def aJy{α:Type}{f:α->Bool}{l:List α}(h:fe Y= .ok (.lst (l.map λ x=>.bl (f x)))):opA (oO λ bs=>bs.all id) (aC fe aG) Y= .ok (.bl (l.all f)):=by
 rw[eQ,bC,h,aR,fu,aR,aR,aDa,cB]
def aDM(neg:Bool)(y:Int)(ns:List Int):inR neg (.int y) (.tup (ns.map .int))= .ok (.bl (if neg then !decide (y∈ns)else decide (y∈ns))):=wu neg y ns
def bK(ll:fE)(p:Int×Int):fE:=ll.set p.1.toNat (ll.getD p.1.toNat []++[.int p.2])
theorem mO:∀(ps:gX) (ll:fE),(ps.foldl bK ll).length=ll.length
 |[],_=>rfl
 |p::ps,ll=>by rw[zBH,mO ps];unfold bK;rw[zBK]
def jw(ps:gX)(i:Int):List Int:=(ps.filter λ p=>p.1==i).map (·.2)
theorem vJ:∀(ps:gX) (ll:fE) (i:Nat),(∀p∈ps,0<=p.1/\p.1<ll.length)->i<ll.length->(ps.foldl bK ll).getD i []=ll.getD i []++(jw ps i).map .int
 |[],ll,i,_,_=>by simp[jw]
 |p::ps,ll,i,h,hi=>by
  obtain⟨h0,h1⟩:=h p zAE;rw[zBH,vJ ps (bK ll p) i (λ q hq=>by unfold bK;rw[zBK];exact h q (zAH _ hq)) (by unfold bK;rw[zBK];exact hi)];unfold bK jw;by_cases c:p.1=i
  .have hk:p.1.toNat=i:=by lia
   rw[hk,zE2 (by simpa using c)];simp[hi]
  .have hk:p.1.toNat≠i:=by lia
   rw[zE1 (by simpa using c)];simp[zB7 hk]
def aBe:b∈jw ps a↔(a,b)∈ps:=by
 unfold jw;simp only[zA3,zAn];constructor
 .rintro⟨p,⟨h1,h2⟩,rfl⟩
  have:p.1=a:=by simpa using h2
  rw[<-this];exact h1
 .intro h
  exact⟨(a,b),⟨h,by simp⟩,rfl⟩
def dbl(ps:gX):gX:=ps.flatMap λ p=>[p,(p.2,p.1)]
def fK:(a,b)∈dbl ps↔(a,b)∈ps\/(b,a)∈ps:=by
 unfold dbl;simp only[zE8,zAJ,zAg,or_false];constructor
 .rintro⟨p,hp,h|h⟩
  .rw[h];exact .inl hp
  .cases h;exact .inr hp
 .rintro(h|h)
  .exact⟨_,h,.inl rfl⟩
  .exact⟨_,h,.inr rfl⟩
def uG(p:Int×Int)(ps:gX):dbl (p::ps)=p::(p.2,p.1)::dbl ps:=rfl
def xF(hi:Y[i]? =some (.o2 ll))(hf:f Y= .ok (.int a))(hg:g Y= .ok (.int b))(h0:0<=a)(h1:a<ll.length)(hz:(ll.getD a.toNat []).length<16777216):
  jR i f g Y= .nx (Y.set i (.o2 (bK ll (a,b)))):=by
 have hk:a.toNat<ll.length:=by lia
 have ha:at2 ll (.int a)=some (a.toNat,ll.getD a.toNat []):=by
  have hx:ixN ll.length a=some a.toNat:=by
   unfold ixN;rw[if_pos (by lia),if_pos (by lia)]
  simp only[at2,hx,zHv];rw[zAI hk];simp[hk]
 unfold jR;rw[hi];dsimp only;rw[hf,bF,ha];dsimp only;rw[hg,bF,if_pos (by rw[zCO];exact hz)];rfl
def lZ(ll:fE)(p:Int×Int):(bK ll p).length=ll.length:=by unfold bK;rw[zBK]
def sX(h:∀l∈ll,l.length<=m):∀l∈bK ll p,l.length<=m+1:=by
 intro l hl;unfold bK at hl;rcases List.mem_or_eq_of_mem_set hl with z|z
 .exact Nat.le_succ_of_le (h l z)
 .subst z
  rw[zA1,zBY]
  have:(ll.getD p.1.toNat []).length<=m:=by
   by_cases hk:p.1.toNat<ll.length
   .exact h _ (by simp[hk])
   .simp[zEj (zEc hk)]
  lia
def ww{ll:fE}(h:∀l∈ll,l.length<=m)(k:Nat):(ll.getD k []).length<=m:=by
 by_cases hk:k<ll.length
 .exact h _ (by simp[hk])
 .simp[zEj (zEc hk)]
def atB:En->Ou:=aj (jR 3 (aD 4) (bJ (aD 5))) (jR 3 (aD 5) (bJ (aD 4)))
theorem aAL{w s1 s2:Slot}:∀(ps:gX) (ll:fE) (s4 s5:Slot),(∀p∈ps,0<=p.1/\p.1<ll.length/\0<=p.2/\p.2<ll.length)->(∀l∈ll,l.length+2*ps.length<=10000)->
  ∃s4' s5',forL (fY 2 (bB (gnm 4) (bB (gnm 5) gH))) atB (ps.map pD) [w,s1,s2,.o2 ll,s4,s5]= .nx [w,s1,s2,.o2 ((dbl ps).foldl bK ll),s4',s5']
 |[],ll,s4,s5,_,_=>⟨s4,s5,rfl⟩
 |p::ps,ll,s4,s5,h,hl=>by
  obtain⟨a0,a1,b0,b1⟩:=h p zAE;have hb0:∀l∈ll,l.length<=10000-2*(ps.length+1):=λ l hm=>by
   have:=hl l hm
   rw[zA5]at this;lia
  have hb1:=sX (p:=p) hb0;have hb2:=sX (p:=(p.2,p.1)) hb1;by_cases hne:ll=[]
  .subst hne
   simp at a1;lia
  have hbig:2*(ps.length+1)<=10000:=by
   obtain⟨l,hm⟩:=zGe ll hne
   have:=hl l hm
   rw[zA5]at this;lia
  obtain⟨s4',s5',e⟩:=aAL (w:=w) (s1:=s1) (s2:=s2) ps (bK (bK ll p) (p.2,p.1)) (.sh (.int p.1)) (.sh (.int p.2)) (λ q hq=>by rw[lZ,lZ];exact h q (zAH _ hq)) (λ l hm=>by have:=hb2 l hm;lia);refine⟨s4',s5',?_⟩;rw[zAS,cG,uG,zBH,zBH];have hg:okE (fY 2 (bB (gnm 4) (bB (gnm 5) gH)) (pD p) [w,s1,s2,.o2 ll,s4,s5]) (λ Y1=>(atB Y1).tn (forL (fY 2 (bB (gnm 4) (bB (gnm 5) gH))) atB (ps.map pD)))=
    (atB [w,s1,s2,.o2 ll,.sh (.int p.1),.sh (.int p.2)]).tn (forL (fY 2 (bB (gnm 4) (bB (gnm 5) gH))) atB (ps.map pD)):=by
   simp[pD]
  have c1:jR 3 (aD 4) (bJ (aD 5)) [w,s1,s2,.o2 ll,.sh (.int p.1),.sh (.int p.2)]= .nx [w,s1,s2,.o2 (bK ll p),.sh (.int p.1),.sh (.int p.2)]:=
   xF (a:=p.1) (b:=p.2) rfl (by simp) (by simp) a0 a1 (by have:=ww hb0 p.1.toNat;lia)
  have c2:jR 3 (aD 5) (bJ (aD 4)) [w,s1,s2,.o2 (bK ll p),.sh (.int p.1),.sh (.int p.2)]= .nx [w,s1,s2,.o2 (bK (bK ll p) (p.2,p.1)),.sh (.int p.1),.sh (.int p.2)]:=
   xF (a:=p.2) (b:=p.1) rfl (by simp) (by simp) b0 (by rw[lZ];exact b1) (by have:=ww hb1 p.2.toNat;lia)
  have hc:atB [w,s1,s2,.o2 ll,.sh (.int p.1),.sh (.int p.2)]= .nx [w,s1,s2,.o2 (bK (bK ll p) (p.2,p.1)),.sh (.int p.1),.sh (.int p.2)]:=by
   unfold atB;rw[aN,c1,aa,c2]
  rw[hg,hc,lF];exact e
structure aAI(n:Int)(es:gX)(ll:fE):Prop where
 len:ll.length=n.toNat
 item:∀i:Int,0<=i->i<n->∃ws:List Int,atD (ll.map .lst) i= .ok (.lst (ws.map .int))/\∀b,b∈ws↔(i,b)∈es
def uP(h:Ow n ps):∃ll,dZ [owD n ps]= .ok (.lst (ll.map .lst))/\aAI n (dbl ps) ll/\∀i:Int,0<=i->i<n->atD (ll.map .lst) i= .ok (.lst ((jw (dbl ps) i).map .int)):=by
 have hn0:=h.n0;have hn1:=h.n1;have hr:=jU (j:=n) (by lia) (by lia);have kK:(bW 0 n).length=n.toNat:=by rw[jB];lia
 have hps:=h.len;have hin:∀p∈ps,0<=p.1/\p.1<(zAM n.toNat ([]:List D)).length/\0<=p.2/\p.2<(zAM n.toNat ([]:List D)).length:=λ p hp=>by
  obtain⟨a,b,c,d,_⟩:=h.pr p hp;rw[zBk];lia
 have cK:∀p∈dbl ps,0<=p.1/\p.1<(zAM n.toNat ([]:List D)).length:=λ p hp=>by
  rcases fK.mp (show(p.1,p.2)∈dbl ps from hp)with z|z
  .have:=hin _ z;exact⟨this.1,this.2.1⟩
  .have:=hin _ z;exact⟨this.2.2.1,this.2.2.2⟩
 obtain⟨s4,s5,e⟩:=aAL (w:=.sh (owD n ps)) (s1:=.sh (.int n)) (s2:=.sh (.tup (ps.map pD))) ps (zAM n.toNat []) .no .no hin (λ l hl=>by
  rw[(zFT.mp hl).2];simp;lia)
 have item:∀i:Int,0<=i->i<n->atD (((dbl ps).foldl bK (zAM n.toNat [])).map .lst) i= .ok (.lst ((jw (dbl ps) i).map .int)):=by
  intro i h0 h1;have hk:i.toNat<(zAM n.toNat ([]:List D)).length:=by rw[zBk];lia
  have hg:=vJ (dbl ps) (zAM n.toNat []) i.toNat cK hk;have hk2:i.toNat<((dbl ps).foldl bK (zAM n.toNat [])).length:=by rw[mO];exact hk
  have hi:((i.toNat:Nat):Int)=i:=zCV h0;rw[hi]at hg;rw[<-hi];refine jX ?_;rw[hi,zAY,zAI hk2]
  have:((dbl ps).foldl bK (zAM n.toNat []))[i.toNat]=(jw (dbl ps) i).map .int:=by
   have e1:((dbl ps).foldl bK (zAM n.toNat [])).getD i.toNat []=((dbl ps).foldl bK (zAM n.toNat []))[i.toNat]:=by simp[hk2]
   rw[<-e1,hg];have e2:(zAM n.toNat ([]:List D)).getD i.toNat []=[]:=by
    rw[zAe,zCL];split<;>rfl
   rw[e2,zCU]
  rw[this];rfl
 refine⟨(dbl ps).foldl bK (zAM n.toNat []),?_,⟨by rw[mO,zBk],λ i h0 h1=>⟨jw (dbl ps) i,item i h0 h1,λ b=>aBe⟩⟩,item⟩
 .have hz:n.toNat<16777216:=by lia
  have a0:aJv (aD 0) (fY 2 (bB (gnm 1) (bB (gnm 2) gH))) [.sh (owD n ps),.no,.no,.no,.no,.no]= .nx [.sh (owD n ps),.sh (.int n),.sh (.tup (ps.map pD)),.no,.no,.no]:=by
   simp[owD]
  have a1:llS 3 (fW jC (aC (aD 1) aG)) [none] (gnm 0) [.sh (owD n ps),.sh (.int n),.sh (.tup (ps.map pD)),.no,.no,.no]= .nx [.sh (owD n ps),.sh (.int n),.sh (.tup (ps.map pD)),.o2 (zAM n.toNat []),.no,.no]:=by
   unfold llS;simp[shE,m9,hr,kK,hz]
  have a2:fZ (cF (aD 2)) (fY 2 (bB (gnm 4) (bB (gnm 5) gH))) atB [.sh (owD n ps),.sh (.int n),.sh (.tup (ps.map pD)),.o2 (zAM n.toNat []),.no,.no]= .nx [.sh (owD n ps),.sh (.int n),.sh (.tup (ps.map pD)),.o2 ((dbl ps).foldl bK (zAM n.toNat [])),s4,s5]:=by
   have hi:cF (aD 2) [.sh (owD n ps),.sh (.int n),.sh (.tup (ps.map pD)),.o2 (zAM n.toNat []),.no,.no]= .ok (ps.map pD):=by simp
   rw[dJ,hi,bF];exact e
  have a3:retS (oR 3) [.sh (owD n ps),.sh (.int n),.sh (.tup (ps.map pD)),.o2 ((dbl ps).foldl bK (zAM n.toNat [])),s4,s5]= .rt (.lst (((dbl ps).foldl bK (zAM n.toNat [])).map .lst)):=by simp
  have st:bG 6 [owD n ps]=[.sh (owD n ps),.no,.no,.no,.no,.no]:=rfl;have df:iW=aj (aJv (aD 0) (fY 2 (bB (gnm 1) (bB (gnm 2) gH)))) (aj (llS 3 (fW jC (aC (aD 1) aG)) [none] (gnm 0)) (aj (fZ (cF (aD 2)) (fY 2 (bB (gnm 4) (bB (gnm 5) gH))) atB) (retS (oR 3)))):=rfl;simp only[dZ,df,bT,st];rw[aN,a0,aa,aN,a1,aa,aN,a2,aa,a3]
def aD9(h:Ow n ps):∃ll,dZ [owD n ps]= .ok (.lst (ll.map .lst))/\aAI n (dbl ps) ll:=let⟨ll,a,b,_⟩:=uP h;⟨ll,a,b⟩
def cY(ps:gX):List Int->Bool
 |a::b::r=>decide ((a,b)∈ps)&&cY ps (b::r)
 |_=>true
theorem qQ:∀{ws:List Int},cY ps ws=true↔∀(i:Nat) (a b:Int),ws[i]? =some a->ws[i+1]? =some b->(a,b)∈ps
 |[]=>by simp[cY]
 |[x]=>by
  simp only[cY,true_iff];intro i p q _ h2;simp at h2
 |x::y::r=>by
  have ih:=qQ (ps:=ps) (ws:=y::r);unfold cY;rw[zAK,ih,decide_eq_true_eq];constructor
  .rintro⟨h1,h2⟩ i p q e1 e2
   cases i with
   |zero=>simp at e1 e2;subst e1 e2;exact h1
   |succ i=>exact h2 i p q (by simpa using e1) (by simpa using e2)
  .intro h
   exact⟨h 0 x y rfl rfl,λ i p q e1 e2=>h (i+1) p q (by simpa using e1) (by simpa using e2)⟩
def aQE:D->Bool
 | .tup l=>decide (l.length<4000)
 |_=>true
theorem aA2{α:Type}{f:α->D}{a:D->En->Rs En}{u:En->Ou}{r:D}{I:En->Prop}{P:α->Bool}:∀(xs:List α) (Y:En),I Y->
  (∀x∈xs,∀Y,I Y->(P x=true/\∃Y',okE (a (f x) Y) u= .nx Y'/\I Y')\/(P x=false/\okE (a (f x) Y) u= .rt r))->
  (xs.all P=true/\∃Y',forL a u (xs.map f) Y= .nx Y'/\I Y')\/(xs.all P=false/\forL a u (xs.map f) Y= .rt r)
 |[],Y,h,_=>.inl ⟨rfl,Y,rfl,h⟩
 |x::xs,Y,h,H=>by
  rw[zAS,cG,zFQ];have tnE:∀(r':Rs En) (k:En->Ou),okE r' (λ Y1=>(u Y1).tn k)=(okE r' u).tn k:=λ r' k=>by cases r'<;>rfl
  rw[tnE];rcases H x zAE Y h with ⟨p,Y',e,hI⟩|⟨p,e⟩
  .rw[e,lF,p,zDP]
   exact aA2 xs Y' hI λ y hy=>H y (zAH _ hy)
  .rw[e,aOo,p]
   exact .inr ⟨rfl,rfl⟩
def aJ4{a:D->En->Rs En}{u:En->Ou}{r:D}{I:En->Prop}{P:D->Bool}(xs:List D)(Y:En)(h:I Y)
  (H:∀x∈xs,∀Y,I Y->(P x=true/\∃Y',okE (a x Y) u= .nx Y'/\I Y')\/(P x=false/\okE (a x Y) u= .rt r)):
  (xs.all P=true/\∃Y',forL a u xs Y= .nx Y'/\I Y')\/(xs.all P=false/\forL a u xs Y= .rt r):=by
 have:=aA2 (f:=id) (a:=a) (u:=u) (r:=r) (P:=P) xs Y h H
 rwa [zGN]at this
def aAo{l:List D}{k:Nat}(h:k<=l.length):cutD l (some (k:Int)) none=l.drop k:=by
 have e1:HT.sIx l.length 0 (some (k:Int))=k:=by simp[HT.sIx];lia
 have e2:HT.sIx l.length l.length none=l.length:=rfl;unfold cutD;rw[e1,e2,zDX (by rw[zFu];exact zAQ _)]
def aGE{l:List D}{k:Nat}(h:k<=l.length):cutD l none (some (k:Int))=l.take k:=by
 have e1:HT.sIx l.length l.length (some (k:Int))=k:=by simp[HT.sIx];lia
 have e2:HT.sIx l.length 0 none=0:=rfl;unfold cutD;rw[e1,e2,zGd,zH7]
def aJa(neg:Bool)(h1:lD d<=60)(h2:bA d=true):eqR neg d d= .ok (.bl (if neg then false else true)):=by
 unfold eqR;rw[if_pos (by simp[h1,h2]),uB d h2];cases neg<;>rfl
theorem aBq{a:D->En->Rs En}{u:En->Ou}{I:En->Prop}:∀(ds:List D) (Y:En),I Y->(∀d∈ds,∀Y,I Y->∃Y',okE (a d Y) u= .nx Y'/\I Y')->∃Y',forL a u ds Y= .nx Y'/\I Y'
 |[],Y,h,_=>⟨Y,rfl,h⟩
 |d::ds,Y,h,H=>by
  rw[cG];have tnE:∀(r':Rs En) (k:En->Ou),okE r' (λ Y1=>(u Y1).tn k)=(okE r' u).tn k:=λ r' k=>by cases r'<;>rfl
  rw[tnE];obtain⟨Y',e,hI⟩:=H d zAE Y h;rw[e,lF];exact aBq ds Y' hI λ y hy=>H y (zAH _ hy)
def tO:ltP p q=true↔p.1<q.1\/p.1=q.1/\p.2<q.2:=by
 unfold ltP;have e:HT.lexLt [p.1,p.2] [q.1,q.2]=true↔p.1<q.1\/p.1=q.1/\p.2<q.2:=by
  by_cases h1:p.1=q.1
  .by_cases h2:p.2=q.2
   .simp[HT.lexLt,h1,h2]
   .simp[HT.lexLt,h1,h2]
  .simp[HT.lexLt,h1]
 exact e
def aHx(h:qU ps=true)(l:∀p∈ps,ltP p q=true):qU (ps++[q])=true:=by
 rw[aBU]at h ⊢;intro i a b e1 e2;by_cases hi:i+1<ps.length
 .rw[zBM (by lia)]at e1
  rw[zBM hi]at e2;exact h i a b e1 e2
 .have hj:=(zAN.mp e2).1
  rw[zA1,zBY]at hj;have hk:i+1=ps.length:=by lia
  rw[zBM (by lia)]at e1;rw[hk,zCy (zAQ _),zFw]at e2;cases e2;exact l a (zBf e1)
structure Wi(n a b:Int)(ps:gX):Prop where
 ris:qU ps=true
 pr:∀p∈ps,0<=p.1/\p.1<p.2/\p.2<n/\(p.1<a\/p.1=a/\p.2<b)
def Wi.put(W:Wi n a b ps)(h0:0<=a)(h1:a<b)(h2:b<n):Wi n a (b+1) (ps++[(a,b)]):=by
 refine⟨aHx W.ris λ p hp=>?_,λ p hp=>?_⟩
 .obtain⟨_,_,_,h⟩:=W.pr p hp
  rw[tO];exact h
 .rcases zAd.mp hp with hp|hp
  .obtain⟨q1,q2,q3,q4⟩:=W.pr p hp
   exact⟨q1,q2,q3,by lia⟩
  .rw[zAV.mp hp]
   exact⟨h0,h1,h2,.inr ⟨rfl,by show b<b+1;lia⟩⟩
def Wi.on(W:Wi n a b ps)(h:a<a'\/a=a'/\b<=b'):Wi n a' b' ps:=⟨W.ris,λ p hp=>by
 obtain⟨q1,q2,q3,q4⟩:=W.pr p hp;exact⟨q1,q2,q3,by lia⟩⟩
def wbI:En->Ou:=ifS (tsb (op2 ltD (aU az (aC (aD 0) (aC (op2 cR (op2 cR (cD (.int 3)) (op2 lC (cD (.int 61)) (aD 5))) (aD 6)) (aC (cD (.int 8)) aG)))) (aD 3))) (oN 4 (cH (aC (bJ (aD 5)) (aC (bJ (aD 6)) aG)))) Ou.nx
def wbO:En->Ou:=fZ (fW aEB (aC (op2 cR (aD 5) (cD (.int 1))) (aC (aD 2) aG))) (gnm 6) wbI
def aEb{most:Nat}(h1:most<=60):∃n ps,jf [.int c,.int most]= .ok (owD n ps)/\Ow n ps/\(∀p∈ps,p.1<p.2)/\n<=most:=by
 obtain⟨n,en,hn⟩:=iy (c:=c) (k:=0) (b:=(most:Int)+1) (by decide) (by decide) (by lia) (by lia);obtain⟨th,et,_⟩:=iy (c:=c) (k:=1) (b:=6) (by decide) (by decide) (by decide) (by decide);have hr1:=jU (j:=(n:Int)) (by lia) (by lia);have inner:∀(a:Int) (K0:Nat) (ps:gX) (s2:Slot),0<=a->a<n->K0<=3600->ps.length<=K0->Wi n a (a+1) ps->
   ∃ps' s2',forL (gnm 6) wbI (bW (a+1) n) [.sh (.int c),.sh (.int most),.sh (.int n),.sh (.int (1+th)),.ow (.lst (ps.map pD)),.sh (.int a),s2]= .nx [.sh (.int c),.sh (.int most),.sh (.int n),.sh (.int (1+th)),.ow (.lst (ps'.map pD)),.sh (.int a),s2']/\ps'.length<=K0+60/\Wi n a n ps':=by
  intro a K0 ps s2 ha0 ha1 hK hl W;obtain⟨Y',e,ps',s',rfl,hl',W'⟩:=pR (a:=gnm 6) (u:=wbI) (ds:=bW (a+1) n)
   (λ k Y=>∃(ps:gX) (s2:Slot),Y=[.sh (.int c),.sh (.int most),.sh (.int n),.sh (.int (1+th)),.ow (.lst (ps.map pD)),.sh (.int a),s2]/\ps.length<=K0+k/\Wi n a (a+1+k) ps)
   (by
    rintro i d Y hd ⟨ps,s2,rfl,hps,W⟩;obtain⟨rfl,hlt⟩:=lw hd;have hm:lC (.int 61) (.int a)= .ok (.int (61*a)):=yV (by decide) (by decide);obtain⟨r,er,_⟩:=iy (c:=c) (k:=3+61*a+(a+1+i)) (b:=8) (by lia) (by lia) (by decide) (by decide);have hz:ps.length<16777216:=by lia
    by_cases dE:(r:Int)<1+th
    .exact⟨_,by simp[wbI,hm,er,dE,oN,hz];rfl,ps++[(a,a+1+i)],_,by simp[pD];rfl,by simp;lia,by rw[show a+1+((i+1:Nat):Int)=a+1+(i:Int)+1 by lia];exact W.put ha0 (by lia) (by lia)⟩
    .exact⟨_,by simp[wbI,hm,er,dE];rfl,ps,_,rfl,by lia,W.on (by lia)⟩)
   (Y:=[.sh (.int c),.sh (.int most),.sh (.int n),.sh (.int (1+th)),.ow (.lst (ps.map pD)),.sh (.int a),s2]) ⟨ps,s2,rfl,by lia,W.on (by lia)⟩
  rw[jB]at hl' W';exact⟨ps',s',e,by lia,W'.on (by lia)⟩
 obtain⟨Y',e,ps,s1,s2,rfl,hl,W⟩:=pR (a:=gnm 5) (u:=wbO) (ds:=bW 0 n)
  (λ k Y=>∃(ps:gX) (s1 s2:Slot),Y=[.sh (.int c),.sh (.int most),.sh (.int n),.sh (.int (1+th)),.ow (.lst (ps.map pD)),s1,s2]/\ps.length<=60*k/\Wi n k 0 ps)
  (by
   rintro i d Y hd ⟨ps,s1,s2,rfl,hps,W⟩;obtain⟨rfl,hlt⟩:=lw hd;have hr2:=aFX (i:=0+(i:Int)+1) (j:=(n:Int)) (by lia) (by lia) (by lia) (by lia);obtain⟨ps',s2',e,hl',W'⟩:=inner (0+(i:Int)) (60*i) ps s2 (by lia) (by lia) (by lia) hps ⟨W.ris,λ p hp=>by obtain⟨q1,q2,q3,q4⟩:=W.pr p hp;exact⟨q1,q2,q3,by lia⟩⟩;refine⟨_,?_,ps',.sh (.int (0+(i:Int))),s2',rfl,by lia,W'.on (by lia)⟩;simp only[Int.zero_add]at hr2 e ⊢;simp[wbO,hr2,e])
  (Y:=[.sh (.int c),.sh (.int most),.sh (.int n),.sh (.int (1+th)),.ow (.lst []),.no,.no]) ⟨[],.no,.no,rfl,by simp,rfl,λ p hp=>by cases hp⟩
 rw[jB]at hl;refine⟨n,ps,?_,⟨by lia,by lia,by lia,λ p hp=>by obtain⟨q1,q2,q3,q4⟩:=W.pr p hp;exact⟨q1,by lia,by lia,q3,by lia⟩,W.ris⟩,λ p hp=>(W.pr p hp).2.1,by lia⟩;have st:bG 7 [.int c,.int most]=[.sh (.int c),.sh (.int most),.no,.no,.no,.no,.no]:=rfl;have df:j9=aj (cP 2 (aU az (aC (aD 0) (aC (cD (.int 0)) (aC (op2 cR (aD 1) (cD (.int 1))) aG)))))
  (aj (cP 3 (op2 cR (cD (.int 1)) (aU az (aC (aD 0) (aC (cD (.int 1)) (aC (cD (.int 6)) aG))))))
  (aj (jT 4 (gq aG)) (aj (fZ (fW jC (aC (aD 2) aG)) (gnm 5) wbO)
  (retS (cH (aC (bJ (aD 2)) (aC (opA eG (aC (oR 4) aG)) aG))))))):=rfl
 simp only[jf,df,bT,st];simp[en,et,hr1,e,owD]
def lnB:En->Ou:=aj (jR 1 (aD 2) (bJ (aD 3))) (jR 1 (aD 3) (bJ (aD 2)))
theorem yf:∀(ps:gX) (ll:fE) (s4 s5:Slot),(∀p∈ps,0<=p.1/\p.1<ll.length/\0<=p.2/\p.2<ll.length)->(∀l∈ll,l.length+2*ps.length<=10000)->
  ∃s4' s5',forL (fY 2 (bB (gnm 2) (bB (gnm 3) gH))) lnB (ps.map pD) [w,.o2 ll,s4,s5]= .nx [w,.o2 ((dbl ps).foldl bK ll),s4',s5']
 |[],ll,s4,s5,_,_=>⟨s4,s5,rfl⟩
 |p::ps,ll,s4,s5,h,hl=>by
  obtain⟨a0,a1,b0,b1⟩:=h p zAE;have hb0:∀l∈ll,l.length<=10000-2*(ps.length+1):=λ l hm=>by
   have:=hl l hm
   rw[zA5]at this;lia
  have hb1:=sX (p:=p) hb0;have hb2:=sX (p:=(p.2,p.1)) hb1;by_cases hne:ll=[]
  .subst hne
   simp at a1;lia
  have hbig:2*(ps.length+1)<=10000:=by
   obtain⟨l,hm⟩:=zGe ll hne
   have:=hl l hm
   rw[zA5]at this;lia
  obtain⟨s4',s5',e⟩:=yf (w:=w) ps (bK (bK ll p) (p.2,p.1)) (.sh (.int p.1)) (.sh (.int p.2)) (λ q hq=>by rw[lZ,lZ];exact h q (zAH _ hq)) (λ l hm=>by have:=hb2 l hm;lia);refine⟨s4',s5',?_⟩;rw[zAS,cG,uG,zBH,zBH];have hg:okE (fY 2 (bB (gnm 2) (bB (gnm 3) gH)) (pD p) [w,.o2 ll,s4,s5]) (λ Y1=>(lnB Y1).tn (forL (fY 2 (bB (gnm 2) (bB (gnm 3) gH))) lnB (ps.map pD)))=
    (lnB [w,.o2 ll,.sh (.int p.1),.sh (.int p.2)]).tn (forL (fY 2 (bB (gnm 2) (bB (gnm 3) gH))) lnB (ps.map pD)):=by
   simp[pD]
  have c1:jR 1 (aD 2) (bJ (aD 3)) [w,.o2 ll,.sh (.int p.1),.sh (.int p.2)]= .nx [w,.o2 (bK ll p),.sh (.int p.1),.sh (.int p.2)]:=
   xF (a:=p.1) (b:=p.2) rfl (by simp) (by simp) a0 a1 (by have:=ww hb0 p.1.toNat;lia)
  have c2:jR 1 (aD 3) (bJ (aD 2)) [w,.o2 (bK ll p),.sh (.int p.1),.sh (.int p.2)]= .nx [w,.o2 (bK (bK ll p) (p.2,p.1)),.sh (.int p.1),.sh (.int p.2)]:=
   xF (a:=p.2) (b:=p.1) rfl (by simp) (by simp) b0 (by rw[lZ];exact b1) (by have:=ww hb1 p.2.toNat;lia)
  have hc:lnB [w,.o2 ll,.sh (.int p.1),.sh (.int p.2)]= .nx [w,.o2 (bK (bK ll p) (p.2,p.1)),.sh (.int p.1),.sh (.int p.2)]:=by
   unfold lnB;rw[aN,c1,aa,c2]
  rw[hg,hc,lF];exact e
theorem aDT:∀(ps:gX) (ll:fE) (m:Nat),(∀l∈ll,l.length<=m)->∀l∈ps.foldl bK ll,l.length<=m+ps.length
 |[],_,_,h=>h
 |p::ps,ll,m,h=>λ l hl=>by
  have:=aDT ps (bK ll p) (m+1) (sX h) l hl
  rw[zA5];lia
theorem aGD:∀ps:gX,(dbl ps).length=2*ps.length
 |[]=>rfl
 |p::ps=>by rw[uG,zA5,zA5,aGD ps,zA5];lia
def tQ(h:Ow n ps):∃ll,gQ [owD n ps]= .ok (.lst (ll.map .lst))/\(aAI n (dbl ps) ll/\∀l∈ll,l.length<=7200)/\∀i:Int,0<=i->i<n->atD (ll.map .lst) i= .ok (.lst ((jw (dbl ps) i).map .int)):=by
 have hn0:=h.n0;have hn1:=h.n1;have hr:=jU (j:=n) (by lia) (by lia);have kK:(bW 0 n).length=n.toNat:=by rw[jB];lia
 have hps:=h.len;have hin:∀p∈ps,0<=p.1/\p.1<(zAM n.toNat ([]:List D)).length/\0<=p.2/\p.2<(zAM n.toNat ([]:List D)).length:=λ p hp=>by
  obtain⟨a,b,c,d,_⟩:=h.pr p hp;rw[zBk];lia
 have cK:∀p∈dbl ps,0<=p.1/\p.1<(zAM n.toNat ([]:List D)).length:=λ p hp=>by
  rcases fK.mp (show(p.1,p.2)∈dbl ps from hp)with z|z
  .have:=hin _ z;exact⟨this.1,this.2.1⟩
  .have:=hin _ z;exact⟨this.2.2.1,this.2.2.2⟩
 obtain⟨s4,s5,e⟩:=yf (w:=.sh (owD n ps)) ps (zAM n.toNat []) .no .no hin (λ l hl=>by
  rw[(zFT.mp hl).2];simp;lia)
 have item:∀i:Int,0<=i->i<n->atD (((dbl ps).foldl bK (zAM n.toNat [])).map .lst) i= .ok (.lst ((jw (dbl ps) i).map .int)):=by
  intro i h0 h1;have hk:i.toNat<(zAM n.toNat ([]:List D)).length:=by rw[zBk];lia
  have hg:=vJ (dbl ps) (zAM n.toNat []) i.toNat cK hk;have hk2:i.toNat<((dbl ps).foldl bK (zAM n.toNat [])).length:=by rw[mO];exact hk
  have hi:((i.toNat:Nat):Int)=i:=zCV h0;rw[hi]at hg;rw[<-hi];refine jX ?_;rw[hi,zAY,zAI hk2]
  have:((dbl ps).foldl bK (zAM n.toNat []))[i.toNat]=(jw (dbl ps) i).map .int:=by
   have e1:((dbl ps).foldl bK (zAM n.toNat [])).getD i.toNat []=((dbl ps).foldl bK (zAM n.toNat []))[i.toNat]:=by simp[hk2]
   rw[<-e1,hg];have e2:(zAM n.toNat ([]:List D)).getD i.toNat []=[]:=by
    rw[zAe,zCL];split<;>rfl
   rw[e2,zCU]
  rw[this];rfl
 refine⟨(dbl ps).foldl bK (zAM n.toNat []),?_,⟨⟨by rw[mO,zBk],λ i h0 h1=>⟨jw (dbl ps) i,item i h0 h1,λ b=>aBe⟩⟩,λ l hl=>?_⟩,item⟩
 .have hz:n.toNat<16777216:=by lia
  have a1:llS 1 (fW jC (aC (op2 ixD (aD 0) (cD (.int 0))) aG)) [none] (gnm 0) [.sh (owD n ps),.no,.no,.no]= .nx [.sh (owD n ps),.o2 (zAM n.toNat []),.no,.no]:=by
   unfold llS;simp[shE,m9,owD,hr,kK,hz]
  have a2:fZ (cF (op2 ixD (aD 0) (cD (.int 1)))) (fY 2 (bB (gnm 2) (bB (gnm 3) gH))) lnB [.sh (owD n ps),.o2 (zAM n.toNat []),.no,.no]= .nx [.sh (owD n ps),.o2 ((dbl ps).foldl bK (zAM n.toNat [])),s4,s5]:=by
   have hi:cF (op2 ixD (aD 0) (cD (.int 1))) [.sh (owD n ps),.o2 (zAM n.toNat []),.no,.no]= .ok (ps.map pD):=by simp[owD]
   rw[dJ,hi,bF];exact e
  have a3:retS (oR 1) [.sh (owD n ps),.o2 ((dbl ps).foldl bK (zAM n.toNat [])),s4,s5]= .rt (.lst (((dbl ps).foldl bK (zAM n.toNat [])).map .lst)):=by simp
  have st:bG 4 [owD n ps]=[.sh (owD n ps),.no,.no,.no]:=rfl;have df:iT=aj (llS 1 (fW jC (aC (op2 ixD (aD 0) (cD (.int 0))) aG)) [none] (gnm 0)) (aj (fZ (cF (op2 ixD (aD 0) (cD (.int 1)))) (fY 2 (bB (gnm 2) (bB (gnm 3) gH))) lnB) (retS (oR 1))):=rfl;simp only[gQ,df,bT,st];rw[aN,a1,aa,aN,a2,aa,a3]
 .have:=aDT (dbl ps) (zAM n.toNat []) 0 (λ l hl=>by rw[(zFT.mp hl).2];exact zAQ _) l hl
  rw[aGD]at this;lia
def aDD(h:Ow n ps):∃ll,gQ [owD n ps]= .ok (.lst (ll.map .lst))/\aAI n (dbl ps) ll/\∀l∈ll,l.length<=7200:=let⟨ll,a,b,_⟩:=tQ h;⟨ll,a,b⟩
theorem tV:∀{l:List D} {d:D},qY l=true->d∈l->imm d=true
 |x::r,d,h,hm=>by
  simp only[qY,zAK]at h;rcases zAJ.mp hm with rfl|hm
  .exact h.1
  .exact tV h.2 hm
theorem qO:∀{l:List D},(∀d∈l,imm d=true)->qY l=true
 |[],_=>rfl
 |x::r,h=>by
  simp only[qY,zAK];exact⟨h x (zAE ..),qO λ d hd=>h d (zAH _ hd)⟩
theorem zT:∀{l:List D},(∀d∈l,lD d<=k)->fj l<=k
 |[],_=>zAj _
 |x::r,h=>by
  unfold fj;exact Nat.max_le.mpr ⟨h x zAE,zT λ d hd=>h d (zAH _ hd)⟩
theorem ux:∀{l:List D},(∀d∈l,bA d=true)->bY l=true
 |[],_=>rfl
 |x::r,h=>by
  unfold bY;rw[h x zAE,ux λ d hd=>h d (zAH _ hd)];rfl
structure El(k:Nat)(d:D):Prop where
 p:pln d=true
 e:lD d<=k
 n:bA d=true
 i:imm d=true
theorem El.tup(h:∀d∈l,El k d):El (k+1) (.tup l):=⟨by unfold pln;exact w6 λ d hd=>(h d hd).p,by unfold lD;exact Nat.succ_le_succ (zT λ d hd=>(h d hd).e),by unfold bA;exact ux λ d hd=>(h d hd).n,by unfold imm;exact qO λ d hd=>(h d hd).i⟩
theorem El.int{k:Nat}{i:Int}:El k (.int i):=⟨rfl,zAj _,rfl,rfl⟩
def El.ints{k:Nat}{ws:List Int}:∀d∈ws.map D.int,El k d:=λ d hd=>by obtain⟨w,_,rfl⟩:=zA3.mp hd;exact .int
def El.g(h:El k d):nY d= .ok d:=nW h.i
def aHY(h:l.length+m.length<=16777216):cR (.tup l) (.tup m)= .ok (.tup (l++m)):=by rw[uQ,if_pos h]
def aLv(h:l≠[]):atD l (-1)= .ok (l.getLast h):=by
 have hk:0<l.length:=zDH.mpr h;unfold atD atI ixN;rw[if_neg (by decide),if_pos (by lia)];have e:((-1:Int)+(l.length:Int)).toNat=l.length-1:=by lia
 rw[e,List.getLast_eq_getElem];simp[zAI (show l.length-1<l.length by lia)]
def zZ(h:ws≠[]):atD (ws.map .int) (-1)= .ok (.int (ws.getLast h)):=by
 rw[aLv (by simpa using h),List.getLast_map]
structure Fn4(d:D):Prop where
 p:pln d=true
 s:aQE d=true
 e:lD d<=60
 n:bA d=true
theorem aJL{c:En->Rs Bool}{b:En->Ou}{I:Nat->En->Prop}(st:∀m Y,I m Y->c Y= .ok false\/(c Y= .ok true/\∃Y' m',b Y= .nx Y'/\m'<m/\I m' Y')):
  ∀(n m:Nat) (Y:En),m<n->I m Y->∃Y' m',itW c b n Y= .nx Y'/\I m' Y'/\c Y'= .ok false
 |0,_,_,h,_=>absurd h (zGU _)
 |n+1,m,Y,h,hI=>by
  rcases st m Y hI with e|⟨e,Y',m',e2,hm,hI'⟩
  .exact⟨Y,m,by unfold itW;rw[e];rfl,hI,e⟩
  .obtain⟨Y2,m2,e3,r⟩:=aJL st n m' Y' (by lia) hI'
   refine⟨Y2,m2,?_,r⟩;unfold itW;rw[e,bF,if_pos rfl,e2];exact e3
def xJ{c:En->Rs Bool}{b:En->Ou}(I:Nat->En->Prop)(st:∀m Y,I m Y->c Y= .ok false\/(c Y= .ok true/\∃Y' m',b Y= .nx Y'/\m'<m/\I m' Y')){m:Nat}{Y:En}(hm:m<1000000)(h:I m Y):
  ∃Y' m',xK c b Y= .nx Y'/\I m' Y'/\c Y'= .ok false:=aJL st fuel m Y hm h
def upI(n:Int):List Int:=(zAm n.toNat).map λ(k:Nat)=>(k:Int)
def aBT(n:Int):bW 0 n=(upI n).map .int:=by
 unfold bW upI;rw[zAz,show(n-0).toNat=n.toNat by lia];exact zCT λ k _=>by simp
def aH7(n:Int):(upI n).Nodup:=by
 unfold upI;rw[zGT,zDY];exact zI5.imp λ h e=>h (by lia)
def gF:x∈upI n↔0<=x/\x<n:=by
 unfold upI;rw[zA3];constructor
 .rintro⟨k,hk,rfl⟩
  have:=zBU.mp hk
  lia
 .rintro⟨h0,h1⟩
  exact⟨x.toNat,zBU.mpr (by lia),by lia⟩
def iK(n:Int):(upI n).length=n.toNat:=by unfold upI;simp
theorem nq:∀{ws:List Int} (h:ws≠[]),cY es ws=true->(ws.getLast h,v)∈es->cY es (ws++[v])=true
 |[a],_,_,h2=>by simpa[cY]using h2
 |a::b::r,_,h1,h2=>by
  simp only[cY,zAK,decide_eq_true_eq]at h1
  have:=nq (ws:=b::r) (by simp) h1.2 (by simpa using h2)
  rw[zCi,zCi,cY,zAK,decide_eq_true_eq];exact⟨h1.1,by simpa using this⟩
def aEQ{left ws:List Int}(h1:left.Nodup)(h2:ws.Nodup)(h3:∀w∈ws,w∈left):(ws++left.filter λ x=>!decide (x∈ws)).Perm left:=by
 rw[List.perm_ext_iff_of_nodup]
 .intro a
  rw[zAd,zAn];constructor
  .rintro(h|h)
   .exact h3 a h
   .exact h.1
  .intro h
   by_cases hw:a∈ws
   .exact .inl hw
   .exact .inr ⟨h,by simp[hw]⟩
 .rw[zBS]
  refine⟨h2,h1.filter _,λ a ha b hb e=>?_⟩;subst e
  have:=(zAn.mp hb).2
  simp[ha]at this
 .exact h1
def pU(l:List Int):eqR true (.lst (l.map .int)) (.lst [])= .ok (.bl (!l.isEmpty)):=by
 obtain⟨h1,h2⟩:=uE l;have e:eqD (.lst (l.map .int)) (.lst [])=l.isEmpty:=by cases l<;>simp[eqD,iI]
 unfold eqR;rw[if_pos (by simp[lD,bA,bY,h1,h2]),e];rfl
def aGV(h:l.length<64):jo [.lst (l.map .int)]= .ok (.lst ((sortI l).map .int)):=by
 cases l with
 |nil=>rfl
 |cons i r=>
  have e:m8 ((i::r).map D.int)=none:=rfl;unfold jo;dsimp only;rw[e];dsimp only;rw[gG];dsimp only;rw[if_pos h]
def aIt(hf:f Y= .ok (.int n))(h0:0<=n)(h1:n<=60):lrD f Y= .ok (.lst (bW 0 n)):=by
 unfold lrD;rw[hf,aR];unfold lrR;simp;lia
theorem aAc:∀(a b:List Int),iI (a.map .int) (b.map .int)=decide (a=b)
 |[],[]=>rfl
 |[],y::b=>by simp[iI]
 |x::a,[]=>by simp[iI]
 |x::a,y::b=>by
  have:=aAc a b
  simp only[zAS,iI,eqD,this,zH1];by_cases h:x=y<;>simp[h]
def aJ7:∀{l:gV},(∀r∈l,r≠[])->l.length<=l.flatten.length:=by
 intro l;induction l with
 |nil=>intro _;simp
 |cons a l ih=>
  intro h;have h1:0<a.length:=zDH.mpr (h a zAE)
  have:=ih λ x hx=>h x (zAH _ hx)
  rw[zBd,zA1,zA5];lia
def uX(h:∀r∈f,r≠[])(hl:f.length<64):jo [.lst (f.map tupI)]= .ok (.lst ((gw f).map tupI)):=by
 unfold jo;dsimp only;rw[qy h];dsimp only;rw[if_pos hl]
def aCm{i j:Nat}{l m:List Int}(hf:f (shE Y)= .ok (l.map .int))(hs:stE js (shE Y)=[.no,.sh (.tup (m.map .int))]\/stE js (shE Y)=[.no,.sh (.lst (m.map .int))])(hl:l.length<=1000):
  lcD f js (gnm 0) (tsb (op2 (inR true) (aD 0) (aD 1))) (bJ (aD 0)) Y= .ok (.lst ((l.filter λ x=>!decide (x∈m)).map .int)):=by
 refine jO hf (by rw[zAD];lia) ?_;rcases hs with hs|hs<;>rw[hs]
 .refine jV (fg:=gnm 0) (f:=D.int) (g:=D.int) (t:=λ x=>!decide (x∈m)) l λ x _=>⟨[.sh (.int x),.sh (.tup (m.map .int))],rfl,?_,by simp⟩
  have a2:aD 1 [.sh (.int x),.sh (.tup (m.map .int))]= .ok (.tup (m.map .int)):=rfl;have a3:aD 0 [.sh (.int x),.sh (.tup (m.map .int))]= .ok (.int x):=rfl;rw[uV,eU,a3,aR,a2,aR,aDM,cB,aR];rfl
 .refine jV (fg:=gnm 0) (f:=D.int) (g:=D.int) (t:=λ x=>!decide (x∈m)) l λ x _=>⟨[.sh (.int x),.sh (.lst (m.map .int))],rfl,?_,by simp⟩
  have a2:aD 1 [.sh (.int x),.sh (.lst (m.map .int))]= .ok (.lst (m.map .int)):=rfl;have a3:aD 0 [.sh (.int x),.sh (.lst (m.map .int))]= .ok (.int x):=rfl;rw[uV,eU,a3,aR,a2,aR,wu,cB,aR];rfl
def aJb(l:List Int):eqR false (.lst (l.map .int)) (.lst [])= .ok (.bl l.isEmpty):=by
 obtain⟨h1,h2⟩:=uE l;have e:eqD (.lst (l.map .int)) (.lst [])=l.isEmpty:=by cases l<;>simp[eqD,iI]
 unfold eqR;simp[bA,bY,lD,h1,h2,e]
def aGt{left r:List Int}(hr:r.Nodup)(hs:∀x∈r,x∈left):(left.filter λ x=>!decide (x∈r)).length+r.length<=left.length:=by
 have h1:r.length<=(left.filter λ x=>decide (x∈r)).length:=sub_len hr λ x hx=>zAn.mpr ⟨hs x hx,decide_eq_true hx⟩
 have h2:(left.filter λ x=>decide (x∈r)).length+(left.filter λ x=>!decide (x∈r)).length=left.length:=by
  clear h1 hs hr;induction left with
  |nil=>rfl
  |cons a l ih=>
   by_cases h:a∈r
   .rw[zE2 (by simpa using h),zE1 (by simpa using h),zA5,zA5];lia
   .rw[zE1 (by simpa using h),zE2 (by simpa using h),zA5,zA5];lia
 lia
def n6(h:Ow n ps)(low:∀p∈ps,p.1<p.2):dC [owD n ps]= .ok .non:=by
 have st:bG 1 [owD n ps]=[.sh (owD n ps)]:=rfl;simp only[dC,gj,bT,st];simp[aHC h low]
abbrev pE(c a n:Int)(w:D)(ll:fE)(left:List Int)(rws:gV)(s6 s7 s8 s9:Slot):En:=[.sh (.int c),.sh (.int a),.sh (.tup [.int n,w]),.sh (.lst (ll.map .lst)),.nw (.lst (left.map .int)),.ow (.lst (rws.map tupI)),s6,s7,s8,s9]
structure Wy(n:Int)(es:gX)(left ws:List Int):Prop where
 ne:ws≠[]
 nd:ws.Nodup
 sub:∀w∈ws,w∈left
 al:cY es ws=true
section
variable{c a n:Int}{w:D}{ll:fE}{left ws:List Int}{rws:gV}{es:gX}{s6 s7 s8 s9:Slot}
def aN2(N:aAI n es ll)(hz:∀l∈ll,l.length<=7200)(hw:Wy n es left ws)(hin:∀x∈left,0<=x/\x<n):∃vs:List Int,pdC (pE c a n w ll left rws (.sh (tupI ws)) s7 s8 s9)= .ok (.lst (vs.map .int))/\(∀v∈vs,v∈left/\v∉ws/\(ws.getLast hw.ne,v)∈es)/\vs.length<10000:=by
 have hl:=zZ hw.ne;have hm:=hin _ (hw.sub _ (zDa hw.ne));obtain⟨us,e1,e2⟩:=N.item _ hm.1 hm.2;have hu:us.length<10000:=by
  obtain⟨d,e,hd,_⟩:=sG (l:=ll.map .lst) (i:=ws.getLast hw.ne) hm.1 (by rw[zAD,N.len];lia);rw[e1]at e;cases e;obtain⟨l,hl,e3⟩:=zA3.mp hd
  have:=hz l hl
  have e4:l=us.map .int:=by cases e3;rfl
  rw[e4,zAD]at this;lia
 refine⟨us.filter λ u=>decide (u∈left)&& !decide (u∈ws),jO (ds:=us.map .int) ?_ (by rw[zAD];lia) (jV us λ u hu=>⟨[.sh (.int u),.sh (.lst (left.map .int)),.sh (tupI ws)],rfl,?_,?_⟩),λ v hv=>?_,zC2 (zCF _ _) hu⟩
 .simp[shE,m9,tupI,hl,e1]
 .have h1:=wu false u left
  have h2:=aDM true u ws;have h2':inR true (.int u) (tupI ws)= .ok (.bl (!decide (u∈ws))):=h2;simp only[aLw,uV,eU,qC,zBe,zB0,aR,h1,h2',cB,zY];cases decide (u∈left)<;>rfl
 .simp
 .obtain⟨h1,h2⟩:=zAn.mp hv
  rw[zAK,decide_eq_true_eq]at h2;exact⟨h2.1,by simpa using h2.2,(e2 v).mp h1⟩
def aN3(h0:0<=a)(h1:a<=100000)(hk0:0<=k)(hk1:k<=1000)(N:aAI n es ll)(hz:∀l∈ll,l.length<=7200)(hw:Wy n es left ws)(hin:∀x∈left,0<=x/\x<n)(hl:ws.length<1000):
  ∃ws' s9',pdB (pE c a n w ll left rws (.sh (tupI ws)) s7 (.sh (.int k)) s9)= .nx (pE c a n w ll left rws (.sh (tupI ws')) s7 (.sh (.int k)) s9')/\Wy n es left ws'/\ws'.length<=ws.length+1:=by
 obtain⟨vs,ev,hv,hvl⟩:=aN2 (c:=c) (a:=a) (w:=w) (rws:=rws) (s7:=s7) (s8:=.sh (.int k)) (s9:=s9) N hz hw hin;have hs:uc 9 pdC (pE c a n w ll left rws (.sh (tupI ws)) s7 (.sh (.int k)) s9)= .nx (pE c a n w ll left rws (.sh (tupI ws)) s7 (.sh (.int k)) (.nw (.lst (vs.map .int)))):=by
  rw[qH,ev,bF];rfl
 have hq:=pU vs;cases hv0:vs.isEmpty with
 |true=>
  refine⟨ws,.nw (.lst (vs.map .int)),?_,hw,zCs _⟩;rw[pdB,aN,hs,aa];simp[hq,hv0]
 |false=>
  have hvp:0<vs.length:=by
   cases vs with
   |nil=>cases hv0
   |cons _ _=>simp
  obtain⟨r,er,hr⟩:=iy (c:=c) (k:=a+140+k) (b:=(vs.length:Int)) (by lia) (by lia) (by lia) (by lia);obtain⟨d,ed,hd,_⟩:=sG (l:=vs.map .int) (i:=(r:Int)) (by lia) (by simpa using hr);obtain⟨v,hv1,rfl⟩:=zA3.mp hd;obtain⟨v1,v2,v3⟩:=hv v hv1;have A:cR (tupI ws) (.tup [.int v])= .ok (tupI (ws++[v])):=by
   have:=aHY (l:=ws.map .int) (m:=[.int v]) (by simp;lia)
   rw[show tupI (ws++[v])= .tup (ws.map .int++[.int v])by simp[tupI]];exact this
  refine⟨ws++[v],.nw (.lst (vs.map .int)),?_,⟨by simp,?_,λ x hx=>?_,nq hw.ne hw.al v3⟩,by simp⟩
  .rw[pdB,aN,hs,aa]
   simp[hq,hv0,er,ed,A,-uQ]
  .rw[zBS]
   exact⟨hw.nd,by simp,λ x hx y hy e=>by rw[zAV.mp hy]at e;subst e;exact v2 hx⟩
  .rcases zAd.mp hx with z|z
   .exact hw.sub x z
   .rw[zAV.mp z];exact v1
structure Pq(n:Int)(es:gX)(left:List Int)(rws:gV):Prop where
 nd:left.Nodup
 ne:∀r∈rws,r≠[]
 al:∀r∈rws,cY es r=true
 pm:(rws.flatten++left).Perm (upI n)
def Pq.inn(P:Pq n es left rws):∀x∈left,0<=x/\x<n:=λ x hx=>gF.mp (P.pm.mem_iff.mp (zA9 _ hx))
def Pq.step(P:Pq n es left rws)(hw:Wy n es left ws):Pq n es (left.filter λ x=>!decide (x∈ws)) (rws++[ws]) where
 nd:=P.nd.filter _
 ne:=λ r hr=>(zAd.mp hr).elim (P.ne r) λ h=>by rw[zAV.mp h];exact hw.ne
 al:=λ r hr=>(zAd.mp hr).elim (P.al r) λ h=>by rw[zAV.mp h];exact hw.al
 pm:=by
  rw[List.flatten_append];simp only[zBd,List.flatten_nil,zBC];rw[zB6];exact((aEQ P.nd hw.nd hw.sub).append_left _).trans P.pm
def aN1(h0:0<=a)(h1:a<=100000)(hn:n<=60)(N:aAI n es ll)(hz:∀l∈ll,l.length<=7200)(P:Pq n es left rws)(hne:left≠[]):
  ∃ws s7' s8' s9',pdW (pE c a n w ll left rws s6 s7 s8 s9)= .nx (pE c a n w ll (left.filter λ x=>!decide (x∈ws)) (rws++[ws]) (.sh (tupI ws)) s7' s8' s9')/\Wy n es left ws:=by
 have hp:0<left.length:=zDH.mpr hne;have kK:left.length+rws.flatten.length<=n.toNat:=by
  have:=P.pm.length_eq
  rw[zA1,iK]at this;lia
 obtain⟨r,er,hr⟩:=iy (c:=c) (k:=a+(left.length:Int)) (b:=(left.length:Int)) (by lia) (by lia) (by lia) (by lia);obtain⟨f,ef,hf⟩:=iy (c:=c) (k:=a+70+(left.length:Int)) (b:=n+1) (by lia) (by lia) (by lia) (by lia);obtain⟨d,ed,hd,_⟩:=sG (l:=left.map .int) (i:=(r:Int)) (by lia) (by simpa using hr);obtain⟨x,hx,rfl⟩:=zA3.mp hd;have W0:Wy n es left [x]:=⟨by simp,by simp,λ y hy=>by rw[zAV.mp hy];exact hx,rfl⟩;have s1:cP 6 (cH (aC (op2 ixD (gn 4) (aU az (aC (aD 0) (aC (op2 cR (aD 1) (opA fL (aC (gn 4) aG))) (aC (opA fL (aC (gn 4) aG)) aG))))) aG)) (pE c a n w ll left rws s6 s7 s8 s9)= .nx (pE c a n w ll left rws (.sh (tupI [x])) s7 s8 s9):=by
  simp[er,ed,tupI]
 have s2:cP 7 (aU az (aC (aD 0) (aC (op2 cR (op2 cR (aD 1) (cD (.int 70))) (opA fL (aC (gn 4) aG))) (aC (op2 cR (op2 ixD (aD 2) (cD (.int 0))) (cD (.int 1))) aG)))) (pE c a n w ll left rws (.sh (tupI [x])) s7 s8 s9)= .nx (pE c a n w ll left rws (.sh (tupI [x])) (.sh (.int f)) s8 s9):=by
  simp[ef]
 have hr1:=jU (j:=(f:Int)) (by lia) (by lia);obtain⟨Y',e,ws,s8',s9',rfl,hw,hwl⟩:=pR (a:=gnm 8) (u:=pdB) (ds:=bW 0 (f:Int))
  (λ k Y=>∃(ws:List Int) (s8 s9:Slot),Y=pE c a n w ll left rws (.sh (tupI ws)) (.sh (.int f)) s8 s9/\Wy n es left ws/\ws.length<=k+1)
  (by
   rintro i d Y hd ⟨ws,s8,s9,rfl,hw,hl⟩;obtain⟨rfl,hlt⟩:=lw hd;obtain⟨ws',s9',e,hw',hl'⟩:=aN3 (c:=c) (w:=w) (rws:=rws) (s7:=.sh (.int f)) (s9:=s9) (k:=0+(i:Int)) h0 h1 (by lia) (by lia) N hz hw P.inn (by lia);exact⟨_,e,ws',_,s9',rfl,hw',by lia⟩)
  (Y:=pE c a n w ll left rws (.sh (tupI [x])) (.sh (.int f)) s8 s9) ⟨[x],s8,s9,rfl,W0,by simp⟩
 have s3:fZ (fW jC (aC (aD 7) aG)) (gnm 8) pdB (pE c a n w ll left rws (.sh (tupI [x])) (.sh (.int f)) s8 s9)= .nx (pE c a n w ll left rws (.sh (tupI ws)) (.sh (.int f)) s8' s9'):=by
  have hi:fW jC (aC (aD 7) aG) (pE c a n w ll left rws (.sh (tupI [x])) (.sh (.int f)) s8 s9)= .ok (bW 0 (f:Int)):=by simp[hr1]
  rw[dJ,hi,bF,e]
 have s4:pdL (pE c a n w ll left rws (.sh (tupI ws)) (.sh (.int f)) s8' s9')= .ok (.lst ((left.filter λ x=>!decide (x∈ws)).map .int)):=aCm (i:=0) (j:=0) (f:=cF (aD 4)) (by simp[shE,m9]) (.inl rfl) (by lia);have gi:nY (tupI ws)= .ok (tupI ws):=(El.tup (k:=0) El.ints).g;have hrl:rws.length<16777216:=by have:=aJ7 P.ne;lia
 refine⟨ws,.sh (.int f),s8',s9',?_,hw⟩;rw[pdW,aN,s1,aa,aN,s2,aa,aN,s3,aa,aN,qH,s4,bF,aa]
 show((bJ (aD 6) (pE c a n w ll (left.filter λ x=>!decide (x∈ws)) rws (.sh (tupI ws)) (.sh (.int f)) s8' s9')).bo λ d=>if (rws.map tupI).length<zAX then .nx (List.set (pE c a n w ll (left.filter λ x=>!decide (x∈ws)) rws (.sh (tupI ws)) (.sh (.int f)) s8' s9') 5 (.ow (.lst (rws.map tupI++[d]))))else .st)=_
 have hv:bJ (aD 6) (pE c a n w ll (left.filter λ x=>!decide (x∈ws)) rws (.sh (tupI ws)) (.sh (.int f)) s8' s9')= .ok (tupI ws):=by simp[gi]
 rw[hv,bF,if_pos (by rw[szl,zAD];exact hrl)];simp[zAk]
def aAB(h0:0<=a)(h1:a<=100000)(hn0:0<=n)(hn:n<=60)(N:aAI n es ll)(hz:∀l∈ll,l.length<=7200):
  ∃rws:gV,iH [.int c,.int a,.tup [.int n,w],.lst (ll.map .lst)]= .ok (.tup (rws.map tupI))/\Pq n es [] rws:=by
 have P0:Pq n es (upI n) []:=⟨aH7 n,λ _ hr=>(nomatch hr),λ _ hr=>(nomatch hr),zBJ _⟩;obtain⟨Y',m',e,⟨left,rws,s6,s7,s8,s9,rfl,P,hm⟩,ht⟩:=xJ (c:=pdT) (b:=pdW) (λ m Y=>∃left rws s6 s7 s8 s9,Y=pE c a n w ll left rws s6 s7 s8 s9/\Pq n es left rws/\m=left.length)
  (by
   rintro m Y ⟨left,rws,s6,s7,s8,s9,rfl,P,rfl⟩;have hq:=pU left;by_cases hne:left=[]
   .left;subst hne;have hq':eqR true (.lst []) (.lst [])= .ok (.bl false):=pU [];simp[pdT,hq']
   .right
    have hi:left.isEmpty=false:=by cases left with
     |nil=>exact absurd rfl hne
     |cons _ _=>rfl
    obtain⟨ws,s7',s8',s9',e,hw⟩:=aN1 (c:=c) (w:=w) (s6:=s6) (s7:=s7) (s8:=s8) (s9:=s9) h0 h1 hn N hz P hne;refine⟨by simp[pdT,hq,hi],_,_,e,?_,_,_,_,_,_,_,rfl,P.step hw,rfl⟩
    have:=aGt hw.nd hw.sub
    have:=zDH.mpr hw.ne
    lia)
  (m:=(upI n).length) (Y:=pE c a n w ll (upI n) [] .no .no .no .no) (by rw[iK];lia) ⟨_,_,_,_,_,_,rfl,P0,rfl⟩
 have hle:left=[]:=by
  have hq:=pU left
  have:pdT (pE c a n w ll left rws s6 s7 s8 s9)= .ok (!left.isEmpty):=by simp[pdT,hq]
  rw[this]at ht;cases left with
  |nil=>rfl
  |cons _ _=>cases ht
 subst hle;refine⟨rws,?_,P⟩;have st:bG 10 [.int c,.int a,.tup [.int n,w],.lst (ll.map .lst)]=[.sh (.int c),.sh (.int a),.sh (.tup [.int n,w]),.sh (.lst (ll.map .lst)),.no,.no,.no,.no,.no,.no]:=rfl;have hlr:=aIt (f:=op2 ixD (aD 2) (cD (.int 0))) (Y:=[.sh (.int c),.sh (.int a),.sh (.tup [.int n,w]),.sh (.lst (ll.map .lst)),.no,.no,.no,.no,.no,.no]) (n:=n) (by simp) hn0 hn;rw[aBT]at hlr;have c0:uc 4 (lrD (op2 ixD (aD 2) (cD (.int 0)))) [.sh (.int c),.sh (.int a),.sh (.tup [.int n,w]),.sh (.lst (ll.map .lst)),.no,.no,.no,.no,.no,.no]= .nx [.sh (.int c),.sh (.int a),.sh (.tup [.int n,w]),.sh (.lst (ll.map .lst)),.nw (.lst ((upI n).map .int)),.no,.no,.no,.no,.no]:=by
  rw[qH,hlr,bF];rfl
 have c1:jT 5 (gq aG) [.sh (.int c),.sh (.int a),.sh (.tup [.int n,w]),.sh (.lst (ll.map .lst)),.nw (.lst ((upI n).map .int)),.no,.no,.no,.no,.no]= .nx (pE c a n w ll (upI n) [] .no .no .no .no):=by simp
 simp only[iH,fM,bT,st];rw[aN,c0,aa,aN,c1,aa,aN,e,aa];simp
end
inductive Cn(es:gX)(a:Int):Int->Prop where
 |refl:Cn es a a
 |step {b c:Int} (h:Cn es a b) (e:(b,c)∈es):Cn es a c
def Cn.trans(h:Cn es a b)(k:Cn es b c):Cn es a c:=by
 induction k with
 |refl=>exact h
 |step _ e ih=>exact ih.step e
def Sym(es:gX):Prop:=∀a b,(a,b)∈es->(b,a)∈es
def uF(ps:gX):Sym (dbl ps):=λ a b h=>fK.mpr (fK.mp h).symm
def Cn.symm(S:Sym es)(h:Cn es a b):Cn es b a:=by
 induction h with
 |refl=>exact .refl
 |step _ e ih=>exact Cn.trans (.step .refl (S _ _ e)) ih
def Cn.inn(hin:∀x y,(x,y)∈es->0<=y/\y<n)(h:Cn es a b)(ha:0<=a/\a<n):0<=b/\b<n:=by
 induction h with
 |refl=>exact ha
 |step _ e _=>exact hin _ _ e
theorem aAv:∀{l m:List Int},cY es (l++m)=true->cY es l=true
 |[],_,_=>rfl
 |[a],_,_=>rfl
 |a::b::r,m,h=>by
  rw[zCi,zCi,cY,zAK]at h;rw[cY,zAK];exact⟨h.1,aAv (l:=b::r) (by simpa using h.2)⟩
structure aPm(es:gX)(a b:Int)(l:List Int):Prop where
 hd:l.head?=some a
 lt:l.getLast?=some b
 al:cY es l=true
def Cn.path(h:Cn es a b):∃l,aPm es a b l/\l.Nodup:=by
 induction h with
 |refl=>exact⟨[a],⟨rfl,rfl,rfl⟩,by simp⟩
 |step _ e ih=>
  rename_i b c _;obtain⟨l,P,nd⟩:=ih;have hne:l≠[]:=by intro z;have:=P.hd;rw[z]at this;cases this
  by_cases hc:c∈l
  .obtain⟨l1,l2,rfl⟩:=List.append_of_mem hc
   refine⟨l1++[c],⟨?_,by simp,aAv (m:=l2) (by rw[zB6];exact P.al)⟩,?_⟩
   .have:=P.hd
    cases l1 with
    |nil=>simpa using this
    |cons x r=>simpa using this
   .have e2:l1++c::l2=(l1++[c])++l2:=by simp
    rw[e2]at nd;exact(zBS.mp nd).1
  .refine⟨l++[c],⟨?_,by simp,?_⟩,?_⟩
   .have:=P.hd
    cases l with
    |nil=>exact absurd rfl hne
    |cons x r=>simpa using this
   .refine nq hne P.al ?_
    have:=P.lt
    rw[zFt hne]at this;rw[zAa this];exact e
   .rw[zBS]
    exact⟨nd,by simp,λ x hx y hy z=>by rw[zAV.mp hy]at z;subst z;exact hc hx⟩
theorem aCe:∀{l:List Int},cY es (a::l)=true->∀x∈a::l,Cn es a x
 |[],_,x,hx=>by rw[zAV.mp hx];exact .refl
 |b::r,h,x,hx=>by
  rw[cY,zAK,decide_eq_true_eq]at h;rcases zAJ.mp hx with rfl|hx
  .exact .refl
  .exact Cn.trans (.step .refl h.1) (aCe h.2 x hx)
def prB(p:Prop):Bool:=@decide p (zFy p)
def aBZ:prB p=true↔p:=@decide_eq_true_iff p (zFy p)
def bO(n:Int)(es:gX)(a:Int):List Int:=(upI n).filter λ b=>prB (Cn es a b)
def jt:b∈bO n es a↔(0<=b/\b<n)/\Cn es a b:=by
 unfold bO;rw[zAn,gF,aBZ]
def cL(es:gX)(a:Int):Bool:=prB (∀b,0<=b->Cn es a b->a<=b)
def mH:cL es a=true↔∀b,0<=b->Cn es a b->a<=b:=aBZ
def aq(n:Int)(es:gX):gV:=((upI n).filter (cL es)).map (bO n es)
def aDk(n:Int):(upI n).Pairwise (·< ·):=by
 unfold upI;rw[zDY];exact List.pairwise_lt_range.imp λ h=>by lia
theorem aEC:∀{l m:List Int},l.Pairwise (·< ·)->m.Pairwise (·< ·)->(∀x,x∈l↔x∈m)->l=m
 |[],[],_,_,_=>rfl
 |[],b::m,_,_,h=>by have:=(h b).mpr zAE;cases this
 |a::l,[],_,_,h=>by have:=(h a).mp zAE;cases this
 |a::l,b::m,h1,h2,h=>by
  obtain⟨p1,p2⟩:=zAq.mp h1;obtain⟨q1,q2⟩:=zAq.mp h2;have e:a=b:=by
   rcases zAJ.mp ((h a).mp zAE)with z|z
   .exact z
   .rcases zAJ.mp ((h b).mpr zAE)with y|y
    .exact y.symm
    .have:=q1 a z;have:=p1 b y;lia
  subst e;rw[aEC p2 q2 λ x=>?_];constructor
  .intro hx
   rcases zAJ.mp ((h x).mp (zAH _ hx))with z|z
   .subst z;have:=p1 x hx;lia
   .exact z
  .intro hx
   rcases zAJ.mp ((h x).mpr (zAH _ hx))with z|z
   .subst z;have:=q1 x hx;lia
   .exact z
def sZ(nd:l.Nodup):(sortI l).Pairwise (·< ·):=by
 have h1:=jY l;have h2:(sortI l).Nodup:=(sortI_perm l).nodup_iff.mpr nd;rw[zGT]at h2;exact(h1.and h2).imp λ⟨a,b⟩=>by lia
def aDr(nd:l.Nodup)(h:∀x,x∈l↔(0<=x/\x<n)/\Cn es a x):sortI l=bO n es a:=
 aEC (sZ nd) ((aDk n).filter _) λ x=>by rw[(sortI_perm l).mem_iff,h,jt]
abbrev wE(ll:fE)(a:Int)(part:List Int)(k:Int)(s4 s5:Slot):En:=[.sh (.lst (ll.map .lst)),.sh (.int a),.ow (.lst (part.map .int)),.sh (.int k),s4,s5]
structure Pw(n:Int)(es:gX)(a:Int)(part:List Int):Prop where
 nd:part.Nodup
 cn:∀x∈part,Cn es a x
 inn:∀x∈part,0<=x/\x<n
 st:a∈part
section
variable{n:Int}{es:gX}{ll:fE}{a k:Int}{part:List Int}{s4 s5:Slot}
def Pw.len(P:Pw n es a part):part.length<=n.toNat:=by
 have:=sub_len (l':=upI n) P.nd λ x hx=>gF.mpr (P.inn x hx)
 rwa [iK]at this
theorem yD(hn:n<=60)(hin:∀x y,(x,y)∈es->0<=y/\y<n):∀(us:List Int) (part:List Int) (s5:Slot),(∀u∈us,(p,u)∈es)->p∈part->Pw n es a part->
  ∃part' s5',forL (gnm 5) pwI (us.map .int) (wE ll a part k s4 s5)= .nx (wE ll a part' k s4 s5')/\Pw n es a part'/\(∃m,part'=part++m)/\∀u∈us,u∈part'
 |[],part,s5,_,_,P=>⟨part,s5,rfl,P,⟨[],by simp⟩,λ u hu=>by cases hu⟩
 |u::us,part,s5,h,hp,P=>by
  have hu:=h u zAE;have hl:=P.len;rw[zAS,cG,aEq,yR]
  show∃part' s5',(pwI (wE ll a part k s4 (.sh (.int u)))).tn _=_/\_
  have hi:=wu true u part;by_cases hm:u∈part
  .have e:pwI (wE ll a part k s4 (.sh (.int u)))= .nx (wE ll a part k s4 (.sh (.int u))):=by simp[pwI,hi,hm]
   rw[e,lF];obtain⟨part',s5',e2,P',⟨m,hm'⟩,h2⟩:=yD hn hin us part (.sh (.int u)) (λ v hv=>h v (zAH _ hv)) hp P;refine⟨part',s5',e2,P',⟨m,hm'⟩,λ v hv=>?_⟩;rcases zAJ.mp hv with rfl|hv
   .rw[hm'];exact zA7 _ hm
   .exact h2 v hv
  .have hz:part.length<16777216:=by lia
   have e:pwI (wE ll a part k s4 (.sh (.int u)))= .nx (wE ll a (part++[u]) k s4 (.sh (.int u))):=by simp[pwI,hi,hm,oN,hz]
   rw[e,lF];have P1:Pw n es a (part++[u]):=by
    refine⟨?_,λ x hx=>?_,λ x hx=>?_,zA7 _ P.st⟩
    .rw[zBS]
     exact⟨P.nd,by simp,λ x hx y hy z=>by rw[zAV.mp hy]at z;subst z;exact hm hx⟩
    .rcases zAd.mp hx with hx|hx
     .exact P.cn x hx
     .rw[zAV.mp hx];exact(P.cn p hp).step hu
    .rcases zAd.mp hx with hx|hx
     .exact P.inn x hx
     .rw[zAV.mp hx];exact hin _ _ hu
   obtain⟨part',s5',e2,P',⟨m,hm'⟩,h2⟩:=yD hn hin us (part++[u]) (.sh (.int u)) (λ v hv=>h v (zAH _ hv)) (zA7 _ hp) P1;refine⟨part',s5',e2,P',⟨[u]++m,by rw[hm',zB6]⟩,λ v hv=>?_⟩;rcases zAJ.mp hv with rfl|hv
   .rw[hm'];exact zA7 _ (by simp)
   .exact h2 v hv
def aB1(hn:n<=60)(N:aAI n es ll)(hin:∀x y,(x,y)∈es->0<=y/\y<n)(h0:0<=a)(h1:a<n):jJ [.lst (ll.map .lst),.int a]= .ok (tupI (bO n es a)):=by
 have st:bG 6 [.lst (ll.map .lst),.int a]=[.sh (.lst (ll.map .lst)),.sh (.int a),.no,.no,.no,.no]:=rfl;obtain⟨Y',m',e,⟨part,k,s4,s5,rfl,P,hk,hcl,_⟩,ht⟩:=xJ (c:=pwT) (b:=pwW)
  (λ m Y=>∃(part:List Int) (k:Nat) (s4 s5:Slot),Y=wE ll a part k s4 s5/\Pw n es a part/\k<=part.length/\(∀i x,i<k->part[i]? =some x->∀y,(x,y)∈es->y∈part)/\m=n.toNat-k)
  (by
   rintro m Y ⟨part,k,s4,s5,rfl,P,hk,hcl,rfl⟩;have hl:=P.len;by_cases hlt:k<part.length
   .right
    have hx:=zAI hlt;have ha:atD (part.map .int) (k:Int)= .ok (.int part[k]):=jX (by rw[zAY,hx];rfl);have hp:=P.inn _ (zCj hlt);obtain⟨us,e1,e2⟩:=N.item _ hp.1 hp.2;obtain⟨part',s5',e3,P',⟨m,hm⟩,h2⟩:=yD (ll:=ll) (k:=(k:Int)) (s4:=.nw (.int part[k])) hn hin us part s5 (λ u hu=>(e2 u).mp hu) (zCj hlt) P;have c0:pwT (wE ll a part k s4 s5)= .ok true:=by simp[pwT,hlt]
    have c1:uc 4 (bJ (op2 ixD (jM 2) (aD 3))) (wE ll a part k s4 s5)= .nx (wE ll a part k (.nw (.int part[k])) s5):=by simp[ha]
    have c2:fZ (cF (op2 ixD (aD 0) (gn 4))) (gnm 5) pwI (wE ll a part k (.nw (.int part[k])) s5)= .nx (wE ll a part' k (.nw (.int part[k])) s5'):=by
     have hi:cF (op2 ixD (aD 0) (gn 4)) (wE ll a part k (.nw (.int part[k])) s5)= .ok (us.map .int):=by simp[e1]
     rw[dJ,hi,bF,e3]
    have c3:aOa (i2 (λ _ _=>true) λ a b=>.int (a+b)) 3 (cD (.int 1)) (wE ll a part' k (.nw (.int part[k])) s5')= .nx (wE ll a part' ((k:Int)+1) (.nw (.int part[k])) s5'):=rfl;refine⟨c0,wE ll a part' ((k+1:Nat):Int) (.nw (.int part[k])) s5',n.toNat-(k+1),?_,by lia,part',k+1,_,_,rfl,P',?_,λ i x hi hx' y hy=>?_,rfl⟩
    .rw[pwW,aN,c1,aa,aN,c2,aa,c3]
     rfl
    .rw[hm,zA1];lia
    .by_cases hik:i=k
     .subst hik
      rw[hm,zBM hlt,hx]at hx';cases hx';exact h2 y ((e2 y).mpr hy)
     .rw[hm,zBM (by lia)]at hx'
      rw[hm];exact zA7 _ (hcl i x (by lia) hx' y hy)
   .left
    simp[pwT,show¬k<part.length from hlt])
  (m:=n.toNat-0) (Y:=wE ll a [a] (0:Nat) .no .no) (by lia) ⟨[a],0,.no,.no,rfl,⟨by simp,λ x hx=>by rw[zAV.mp hx];exact .refl,λ x hx=>by rw[zAV.mp hx];exact⟨h0,h1⟩,by simp⟩,by simp,λ i x hi=>absurd hi (zGU _),rfl⟩
 have hlt:¬k<part.length:=λ z=>by
  have:pwT (wE ll a part k s4 s5)= .ok true:=by simp[pwT,z]
  rw[this]at ht;cases ht
 have go:∀x,Cn es a x->x∈part:=λ x hc=>by
  induction hc with
  |refl=>exact P.st
  |step hb he ih=>
   obtain⟨i,hi,hx⟩:=zFE ih;exact hcl i _ (by lia) (by rw[zAI hi,hx]) _ he
 have oQ:∀x,x∈part↔(0<=x/\x<n)/\Cn es a x:=λ x=>⟨λ hx=>⟨P.inn x hx,P.cn x hx⟩,λ h=>go x h.2⟩
 have hs:=aGV (l:=part) (by have:=P.len;lia);rw[aDr P.nd oQ]at hs;have c0:jT 2 (gq (aC (bJ (aD 1)) aG)) [.sh (.lst (ll.map .lst)),.sh (.int a),.no,.no,.no,.no]= .nx [.sh (.lst (ll.map .lst)),.sh (.int a),.ow (.lst [.int a]),.no,.no,.no]:=by simp
 have c1:cP 3 (cD (.int 0)) [.sh (.lst (ll.map .lst)),.sh (.int a),.ow (.lst [.int a]),.no,.no,.no]= .nx (wE ll a [a] (0:Nat) .no .no):=rfl;simp only[jJ,gY,bT,st];rw[aN,c0,aa,aN,c1,aa,aN,e,aa];have hd:jM 2 (wE ll a part k s4 s5)= .ok (.lst (part.map .int)):=rfl;rw[fG,eQ,bC,eQ,bC,hd];simp[hs,tupI]
end
abbrev qE(ll:fE)(w:D)(rws:gV)(seen:List Int)(s4 s5 s6:Slot):En:=[.sh (.lst (ll.map .lst)),.sh w,.ow (.lst (rws.map tupI)),.ow (.set seen),s4,s5,s6]
section
variable{n:Int}{es:gX}{ll:fE}{w:D}{rws:gV}{s4 s5 s6:Slot}
theorem aCg:∀(us:List Int) (seen:List Int) (s6:Slot),(∀u∈us,0<=u/\u<n)->seen.Nodup->(∀u∈seen,0<=u/\u<n)->n<=60->
  ∃seen' s6',forL (gnm 6) paF (us.map .int) (qE ll w rws seen s4 s5 s6)= .nx (qE ll w rws seen' s4 s5 s6')/\seen'.Nodup/\(∀x,x∈seen'↔x∈seen\/x∈us)/\(∀u∈seen',0<=u/\u<n)
 |[],seen,s6,_,nd,hin,_=>⟨seen,s6,rfl,nd,λ x=>by simp,hin⟩
 |u::us,seen,s6,h,nd,hin,hn=>by
  have hl:seen.length<=n.toNat:=by
   have:=sub_len (l':=upI n) nd λ x hx=>gF.mpr (hin x hx)
   rwa [iK]at this
  have nd':=aD0 (z:=u) nd;have hm':∀x,x∈zBE seen u↔x∈seen\/x=u:=λ x=>by
   have:=aAj seen u x
   rw[zCE]at this;simpa using this.symm
  obtain⟨seen',s6',e,q1,q2,q3⟩:=aCg us (zBE seen u) (.sh (.int u)) (λ v hv=>h v (zAH _ hv)) nd' (λ x hx=>by
   rcases(hm' x).mp hx with z|z
   .exact hin x z
   .rw[z];exact h u zAE) hn
  refine⟨seen',s6',?_,q1,λ x=>?_,q3⟩
  .rw[zAS,cG,aEq,yR]
   show(paF (qE ll w rws seen s4 s5 (.sh (.int u)))).tn _=_
   have e1:paF (qE ll w rws seen s4 s5 (.sh (.int u)))= .nx (qE ll w rws (zBE seen u) s4 s5 (.sh (.int u))):=by
    have hv:bJ (aD 6) (qE ll w rws seen s4 s5 (.sh (.int u)))= .ok (.int u):=by simp
    show((bJ (aD 6) (qE ll w rws seen s4 s5 (.sh (.int u)))).bo λ d=>aHZ (qE ll w rws seen s4 s5 (.sh (.int u))) 3 seen d)=_
    rw[hv,bF];unfold aHZ;dsimp only;rw[if_pos (by lia)];rfl
   rw[e1,lF,e]
  .rw[q2,hm',zAJ]
   constructor
   .rintro((z|z)|z)
    .exact .inl z
    .exact .inr (.inl z)
    .exact .inr (.inr z)
   .rintro(z|z|z)
    .exact .inl (.inl z)
    .exact .inl (.inr z)
    .exact .inr z
def aFH(k:Nat):upI ((k+1:Nat):Int)=upI (k:Int)++[(k:Int)]:=by
 unfold upI;rw[zCP,zCP,zGO,zAk];rfl
def yK(hn0:0<=n)(hn:n<=60)(S:Sym es)(N:aAI n es ll)(hin:∀x y,(x,y)∈es->0<=y/\y<n):dm [.lst (ll.map .lst),.lst (bW 0 n)]= .ok (.lst ((aq n es).map tupI)):=by
 have st:bG 7 [.lst (ll.map .lst),.lst (bW 0 n)]=[.sh (.lst (ll.map .lst)),.sh (.lst (bW 0 n)),.no,.no,.no,.no,.no]:=rfl;obtain⟨Y',e,seen,s4,s5,s6,rfl,_⟩:=pR (a:=gnm 4) (u:=paB) (ds:=bW 0 n)
  (λ k Y=>∃(seen:List Int) (s4 s5 s6:Slot),Y=qE ll (.lst (bW 0 n)) (((upI (k:Int)).filter (cL es)).map (bO n es)) seen s4 s5 s6/\seen.Nodup/\(∀x,x∈seen↔(0<=x/\x<n)/\∃j,(0<=j/\j<(k:Int))/\Cn es j x))
  (by
   rintro i d Y hd ⟨seen,s4,s5,s6,rfl,nd,hs⟩;obtain⟨rfl,hlt⟩:=lw hd;rw[Int.zero_add]at hlt ⊢;have hk:0<=(i:Int)/\(i:Int)<n:=⟨by lia,hlt⟩;have hg:okE (gnm 4 (.int (i:Int)) (qE ll (.lst (bW 0 n)) (((upI (i:Int)).filter (cL es)).map (bO n es)) seen s4 s5 s6)) (λ Y1=>paB Y1)=paB (qE ll (.lst (bW 0 n)) (((upI (i:Int)).filter (cL es)).map (bO n es)) seen (.sh (.int (i:Int))) s5 s6):=rfl;rw[hg];have hlb:cL es (i:Int)= !decide ((i:Int)∈seen):=by
    rw[zCE,mH];constructor
    .intro h
     simp only[zCw,decide_eq_false_iff_not];intro hm;obtain⟨_,j,hj,hc⟩:=(hs _).mp hm
     have:=h j hj.1 (hc.symm S)
     lia
    .intro h b hb hc
     simp only[zCw,decide_eq_false_iff_not]at h
     have:=λ z:b<(i:Int)=>h ((hs _).mpr ⟨hk,b,⟨hb,z⟩,hc.symm S⟩)
     lia
   have hx:inX true (.int (i:Int)) (.set seen)= .ok (.bl (!decide ((i:Int)∈seen))):=rfl;have hrl:(((upI (i:Int)).filter (cL es)).map (bO n es)).length<16777216:=by
    rw[zAD]
    have:=zCF (cL es) (upI (i:Int))
    rw[iK]at this;lia
   by_cases hm:(i:Int)∈seen
   .have hb:paB (qE ll (.lst (bW 0 n)) (((upI (i:Int)).filter (cL es)).map (bO n es)) seen (.sh (.int (i:Int))) s5 s6)= .nx (qE ll (.lst (bW 0 n)) (((upI (i:Int)).filter (cL es)).map (bO n es)) seen (.sh (.int (i:Int))) s5 s6):=by
     simp[paB,hx,hm]
    refine⟨_,hb,seen,.sh (.int (i:Int)),s5,s6,?_,nd,λ x=>?_⟩
    .rw[aFH,zHs,zFr,hlb]
     simp[hm]
    .rw[hs]
     constructor
     .rintro⟨h1,j,h2,h3⟩
      exact⟨h1,j,⟨h2.1,by lia⟩,h3⟩
     .rintro⟨h1,j,h2,h3⟩
      by_cases hj:j<(i:Int)
      .exact⟨h1,j,⟨h2.1,hj⟩,h3⟩
      .have hj':j=(i:Int):=by lia
       subst hj';obtain⟨_,j',h4,h5⟩:=(hs _).mp hm;exact⟨h1,j',h4,h5.trans h3⟩
   .have hp:=aB1 hn N hin hk.1 hk.2
    have hsin:∀u∈seen,0<=u/\u<n:=λ u hu=>((hs u).mp hu).1
    obtain⟨seen',s6',e,q1,q2,q3⟩:=aCg (ll:=ll) (w:=.lst (bW 0 n)) (rws:=((upI (i:Int)).filter (cL es)).map (bO n es)++[bO n es (i:Int)]) (s4:=.sh (.int (i:Int))) (s5:=.sh (tupI (bO n es (i:Int)))) (bO n es (i:Int)) seen s6 (λ u hu=>(jt.mp hu).1) nd hsin hn;have gi:nY (tupI (bO n es (i:Int)))= .ok (tupI (bO n es (i:Int))):=(El.tup (k:=0) El.ints).g;have hb:paB (qE ll (.lst (bW 0 n)) (((upI (i:Int)).filter (cL es)).map (bO n es)) seen (.sh (.int (i:Int))) s5 s6)= .nx (qE ll (.lst (bW 0 n)) (((upI (i:Int)).filter (cL es)).map (bO n es)++[bO n es (i:Int)]) seen' (.sh (.int (i:Int))) (.sh (tupI (bO n es (i:Int)))) s6'):=by
     have t1:tsb (op2 (inX true) (aD 4) (jM 3)) (qE ll (.lst (bW 0 n)) (((upI (i:Int)).filter (cL es)).map (bO n es)) seen (.sh (.int (i:Int))) s5 s6)= .ok true:=by simp[hx,hm]
     have t2:cP 5 (aU jJ (aC (aD 0) (aC (aD 4) aG))) (qE ll (.lst (bW 0 n)) (((upI (i:Int)).filter (cL es)).map (bO n es)) seen (.sh (.int (i:Int))) s5 s6)= .nx (qE ll (.lst (bW 0 n)) (((upI (i:Int)).filter (cL es)).map (bO n es)) seen (.sh (.int (i:Int))) (.sh (tupI (bO n es (i:Int)))) s6):=by simp[hp]
     have t3:oN 2 (bJ (aD 5)) (qE ll (.lst (bW 0 n)) (((upI (i:Int)).filter (cL es)).map (bO n es)) seen (.sh (.int (i:Int))) (.sh (tupI (bO n es (i:Int)))) s6)= .nx (qE ll (.lst (bW 0 n)) (((upI (i:Int)).filter (cL es)).map (bO n es)++[bO n es (i:Int)]) seen (.sh (.int (i:Int))) (.sh (tupI (bO n es (i:Int)))) s6):=by
      generalize ((upI (i:Int)).filter (cL es)).map (bO n es)=R at hrl ⊢;have hv:bJ (aD 5) (qE ll (.lst (bW 0 n)) R seen (.sh (.int (i:Int))) (.sh (tupI (bO n es (i:Int)))) s6)= .ok (tupI (bO n es (i:Int))):=by simp[gi]
      show((bJ (aD 5) (qE ll (.lst (bW 0 n)) R seen (.sh (.int (i:Int))) (.sh (tupI (bO n es (i:Int)))) s6)).bo λ d=>if (R.map tupI).length<zAX then .nx [.sh (.lst (ll.map .lst)),.sh (.lst (bW 0 n)),.ow (.lst (R.map tupI++[d])),.ow (.set seen),.sh (.int (i:Int)),.sh (tupI (bO n es (i:Int))),s6]else .st)=_
      rw[hv,bF,if_pos (by rw[szl,zAD];exact hrl)];simp[zAk]
     have t4:cF (aD 5) (qE ll (.lst (bW 0 n)) (((upI (i:Int)).filter (cL es)).map (bO n es)++[bO n es (i:Int)]) seen (.sh (.int (i:Int))) (.sh (tupI (bO n es (i:Int)))) s6)= .ok ((bO n es (i:Int)).map .int):=by simp[tupI]
     rw[paB,kI,t1,bF,if_pos rfl,aN,t2,aa,aN,t3,aa,dJ,t4,bF,e]
    refine⟨_,hb,seen',.sh (.int (i:Int)),.sh (tupI (bO n es (i:Int))),s6',?_,q1,λ x=>?_⟩
    .rw[aFH,zHs,zFr,hlb]
     simp[hm]
    .rw[q2,hs,jt]
     constructor
     .rintro(⟨h1,j,h2,h3⟩|⟨h1,h2⟩)
      .exact⟨h1,j,⟨h2.1,by lia⟩,h3⟩
      .exact⟨h1,(i:Int),⟨by lia,by lia⟩,h2⟩
     .rintro⟨h1,j,h2,h3⟩
      by_cases hj:j<(i:Int)
      .exact .inl ⟨h1,j,⟨h2.1,hj⟩,h3⟩
      .have hj':j=(i:Int):=by lia
       subst hj';exact .inr ⟨h1,h3⟩)
  (Y:=qE ll (.lst (bW 0 n)) [] [] .no .no .no) ⟨[],.no,.no,.no,rfl,zD2,λ x=>⟨λ h=>(nomatch h),λ⟨_,j,h,_⟩=>absurd h.2 (by have:=h.1;lia)⟩⟩
 have c0:jT 2 (gq aG) [.sh (.lst (ll.map .lst)),.sh (.lst (bW 0 n)),.no,.no,.no,.no,.no]= .nx [.sh (.lst (ll.map .lst)),.sh (.lst (bW 0 n)),.ow (.lst []),.no,.no,.no,.no]:=by simp
 have c1:jT 3 (cD (.set [])) [.sh (.lst (ll.map .lst)),.sh (.lst (bW 0 n)),.ow (.lst []),.no,.no,.no,.no]= .nx (qE ll (.lst (bW 0 n)) [] [] .no .no .no):=rfl;have hi:cF (aD 1) (qE ll (.lst (bW 0 n)) [] [] .no .no .no)= .ok (bW 0 n):=by simp
 have hln:(((bW 0 n).length:Nat):Int)=n:=by rw[jB];lia
 rw[hln]at e;simp only[dm,dj,bT,st];rw[aN,c0,aa,aN,c1,aa,aN,dJ,hi,bF,e,aa];simp[aq]
def aI6(h:Ow n ps)(low:∀p∈ps,p.1<p.2):uT [owD n ps]= .ok (.lst ((aq n (dbl ps)).map tupI)):=by
 obtain⟨ll,e,N⟩:=aD9 h;have st:bG 1 [owD n ps]=[.sh (owD n ps)]:=rfl;have hp:=yK h.n0 h.n1 (uF ps) N (λ x y m=>by
  rcases fK.mp m with z|z
  .have:=h.pr _ z;exact⟨this.2.2.1,this.2.2.2.1⟩
  .have:=h.pr _ z;exact⟨this.1,this.2.1⟩)
 have hlr:=aIt (f:=op2 ixD (aD 0) (cD (.int 0))) (Y:=[.sh (owD n ps)]) (n:=n) (by simp[owD]) h.n0 h.n1;have c0:pX (aU dC (aC (aD 0) aG)) [.sh (owD n ps)]= .nx [.sh (owD n ps)]:=by simp[n6 h low]
 have c1:aU dm (aC (aU dZ (aC (aD 0) aG)) (aC (lrD (op2 ixD (aD 0) (cD (.int 0)))) aG)) [.sh (owD n ps)]= .ok (.lst ((aq n (dbl ps)).map tupI)):=by
  rw[iG,bC,iG,bC,bC,hlr];simp[e,hp]
 have df:qP=aj (pX (aU dC (aC (aD 0) aG))) (retS (aU dm (aC (aU dZ (aC (aD 0) aG)) (aC (lrD (op2 ixD (aD 0) (cD (.int 0)))) aG)))):=rfl;simp only[uT,df,bT,st];rw[aN,c0,aa,fG,c1];rfl
end
def gL(L:List Int)(i:Int):Int:=L.getD i.toNat 0
def qd(L:List Int)(p:Int×Int):List Int:=(L.set p.1.toNat (mn (gL L p.1) (gL L p.2))).set p.2.toNat (mn (gL L p.1) (gL L p.2))
def aJG(L:List Int)(p:Int×Int):(qd L p).length=L.length:=by unfold qd;rw[zBK,zBK]
def aP5(a b:Int):mn a b<=a/\mn a b<=b/\(mn a b=a\/mn a b=b):=by
 unfold mn;split<;>lia
def aEs(hi:i<L.length)(x:Int)(h0:0<=x):gL (L.set i v) x=if x.toNat=i then v else gL L x:=by
 unfold gL;rw[zAe,zAe];split
 .rename_i e
  rw[e,zBv hi];rfl
 .rename_i e
  rw[zB7 (λ z=>e z.symm)]
def aLi(h1:0<=p.1/\p.1.toNat<L.length)(h2:0<=p.2/\p.2.toNat<L.length)(x:Int)(h0:0<=x):gL (qd L p) x=if x=p.1\/x=p.2 then mn (gL L p.1) (gL L p.2)else gL L x:=by
 unfold qd;rw[aEs (by rw[zBK];exact h2.2) x h0,aEs h1.2 x h0];by_cases e2:x=p.2
 .subst e2;simp
 .have:x.toNat≠p.2.toNat:=by lia
  rw[if_neg this];by_cases e1:x=p.1
  .subst e1;simp
  .have:x.toNat≠p.1.toNat:=by lia
   rw[if_neg this,if_neg (by lia)]
structure Lb(n:Int)(es:gX)(L:List Int):Prop where
 len:L.length=n.toNat
 cn:∀x,0<=x->x<n->Cn es x (gL L x)/\gL L x<=x/\0<=gL L x
section
variable{n:Int}{ps:gX}{L:List Int}{s2 s3 s4:Slot}
def Lb.join(B:Lb n (dbl ps) L)(hp:p∈ps)(h:0<=p.1/\p.1<n/\0<=p.2/\p.2<n):Lb n (dbl ps) (qd L p)/\(∀x,0<=x->x<n->gL (qd L p) x<=gL L x)/\gL (qd L p) p.1<=gL L p.2/\gL (qd L p) p.2<=gL L p.1:=by
 have hl:=B.len;have g:=λ x h0=>aLi (L:=L) (p:=p) ⟨h.1,by lia⟩ ⟨h.2.2.1,by lia⟩ x h0
 obtain⟨m1,m2,m3⟩:=aP5 (gL L p.1) (gL L p.2);have c1:=B.cn p.1 h.1 h.2.1;have c2:=B.cn p.2 h.2.2.1 h.2.2.2;have e12:(p.1,p.2)∈dbl ps:=fK.mpr (.inl hp);have e21:(p.2,p.1)∈dbl ps:=fK.mpr (.inr hp);have k1:Cn (dbl ps) p.1 (mn (gL L p.1) (gL L p.2)):=by
  rcases m3 with z|z
  .rw[z];exact c1.1
  .rw[z];exact Cn.trans (.step .refl e12) c2.1
 have k2:Cn (dbl ps) p.2 (mn (gL L p.1) (gL L p.2)):=Cn.trans (.step .refl e21) k1;refine⟨⟨by rw[aJG];exact hl,λ x h0 h1=>?_⟩,λ x h0 h1=>?_,?_,?_⟩
 .rw[g x h0]
  split
  .rename_i e
   rcases e with rfl|rfl
   .exact⟨k1,by lia,by lia⟩
   .exact⟨k2,by lia,by lia⟩
  .exact B.cn x h0 h1
 .rw[g x h0]
  split
  .rename_i e
   rcases e with rfl|rfl
   .exact m1
   .exact m2
  .exact zFI _
 .rw[g p.1 h.1,if_pos (.inl rfl)];exact m2
 .rw[g p.2 h.2.2.1,if_pos (.inr rfl)];exact m1
def aGH(h0:0<=x)(h1:x.toNat<L.length):atD (L.map .int) x= .ok (.int (gL L x)):=by
 have:=jX (l:=L.map D.int) (k:=x.toNat) (d:=.int (gL L x)) (by rw[zAY,zAI h1];unfold gL;rw[zAe,zAI h1];rfl)
 rwa [zCV h0]at this
def aF0(hk:fk [w,.ow (.lst (L.map .int)),s2,s3,s4]= .ok (.int k))(he:fe [w,.ow (.lst (L.map .int)),s2,s3,s4]= .ok (.int v))(h0:0<=k)(h1:k.toNat<L.length):
  aIK 1 fk fe [w,.ow (.lst (L.map .int)),s2,s3,s4]= .nx [w,.ow (.lst ((L.set k.toNat v).map .int)),s2,s3,s4]:=by
 have e:putN (L.map .int) (.int k)=some k.toNat:=by
  show ixN (L.map D.int).length k=_;unfold ixN;rw[zAD,if_pos (by lia),if_pos (by lia)]
 show((fe [w,.ow (.lst (L.map .int)),s2,s3,s4]).bo λ d=>(fk [w,.ow (.lst (L.map .int)),s2,s3,s4]).bo λ k=>match putN (L.map .int) k with
  |some j=>.nx [w,.ow (.lst ((L.map .int).set j d)),s2,s3,s4]
  |none=>.st)=_
 rw[he,bF,hk,bF,e];simp[zJU]
def aNw(hl:L.length=n.toNat)(h:0<=p.1/\p.1<n/\0<=p.2/\p.2<n):
  lsB [w,.ow (.lst (L.map .int)),s2,.sh (.int p.1),.sh (.int p.2)]= .nx [w,.ow (.lst ((qd L p).map .int)),s2,.sh (.int p.1),.sh (.int p.2)]:=by
 have a1:=aGH (L:=L) h.1 (by lia);have a2:=aGH (L:=L) h.2.2.1 (by lia);have b1:=aF0 (L:=L) (w:=w) (s2:=s2) (s3:=.sh (.int p.1)) (s4:=.sh (.int p.2)) (fk:=aD 3) (fe:=opA (mmD λ i j=>if j<i then j else i) (aC (op2 ixD (jM 1) (aD 3)) (aC (op2 ixD (jM 1) (aD 4)) aG))) (k:=p.1) (v:=mn (gL L p.1) (gL L p.2)) (by simp) (by simp[a1,a2,mn]) h.1 (by lia);have hl2:(L.set p.1.toNat (mn (gL L p.1) (gL L p.2))).length=L.length:=zBK;have a3:=aGH (L:=L.set p.1.toNat (mn (gL L p.1) (gL L p.2))) h.1 (by lia);rw[aEs (by lia) p.1 h.1,if_pos rfl]at a3;have b2:=aF0 (L:=L.set p.1.toNat (mn (gL L p.1) (gL L p.2))) (w:=w) (s2:=s2) (s3:=.sh (.int p.1)) (s4:=.sh (.int p.2)) (fk:=aD 4) (fe:=bJ (op2 ixD (jM 1) (aD 3))) (k:=p.2) (v:=mn (gL L p.1) (gL L p.2)) (by simp) (by rw[zJU]at a3;simp[a3]) h.2.2.1 (by lia);rw[lsB,aN,b1,aa,b2];rfl
theorem aCr(hpr:∀p∈ps,0<=p.1/\p.1<n/\0<=p.2/\p.2<n):∀(qs:gX) (L:List Int) (s3 s4:Slot),(∀q∈qs,q∈ps)->Lb n (dbl ps) L->
  ∃L' s3' s4',forL (fY 2 (bB (gnm 3) (bB (gnm 4) gH))) lsB (qs.map pD) [w,.ow (.lst (L.map .int)),s2,s3,s4]= .nx [w,.ow (.lst (L'.map .int)),s2,s3',s4']/\Lb n (dbl ps) L'/\(∀x,0<=x->x<n->gL L' x<=gL L x)/\∀q∈qs,gL L' q.1<=gL L q.2/\gL L' q.2<=gL L q.1
 |[],L,s3,s4,_,B=>⟨L,s3,s4,rfl,B,λ _ _ _=>zFI _,λ q hq=>by cases hq⟩
 |q::qs,L,s3,s4,h,B=>by
  have hq:=h q zAE;have hr:=hpr q hq;obtain⟨B1,m1,m2,m3⟩:=B.join hq hr;obtain⟨L',s3',s4',e,B',k1,k2⟩:=aCr (w:=w) hpr qs (qd L q) (.sh (.int q.1)) (.sh (.int q.2)) (λ x hx=>h x (zAH _ hx)) B1;refine⟨L',s3',s4',?_,B',λ x h0 h1=>zEo (k1 x h0 h1) (m1 x h0 h1),λ x hx=>?_⟩
  .rw[zAS,cG]
   have g:okE (fY 2 (bB (gnm 3) (bB (gnm 4) gH)) (pD q) [w,.ow (.lst (L.map .int)),s2,s3,s4]) (λ Y1=>(lsB Y1).tn (forL (fY 2 (bB (gnm 3) (bB (gnm 4) gH))) lsB (qs.map pD)))=(lsB [w,.ow (.lst (L.map .int)),s2,.sh (.int q.1),.sh (.int q.2)]).tn (forL (fY 2 (bB (gnm 3) (bB (gnm 4) gH))) lsB (qs.map pD)):=by simp[pD]
   rw[g,aNw B.len hr,lF,e]
  .rcases zAJ.mp hx with rfl|hx
   .exact⟨zEo (k1 _ hr.1 hr.2.1) m2,zEo (k1 _ hr.2.2.1 hr.2.2.2) m3⟩
   .have hx':=hpr x (h x (zAH _ hx))
    exact⟨zEo (k2 x hx).1 (m1 _ hx'.2.2.1 hx'.2.2.2),zEo (k2 x hx).2 (m1 _ hx'.1 hx'.2.1)⟩
def Rd1(n:Int)(es:gX)(t:Nat)(L:List Int):Prop:=∀(l:List Int) (a b:Int),0<=a->a<n->aPm es a b l->l.length<=t+1->gL L a<=b
def aKs(hin:∀x y,(x,y)∈es->0<=y/\y<n)(h:cY es (a::b::r)=true):(a,b)∈es/\0<=b/\b<n:=by
 rw[cY,zAK,decide_eq_true_eq]at h;exact⟨h.1,hin _ _ h.1⟩
def aEc(h:Ow n ps):∃L s2 s3 s4,forL (gnm 2) lsO (bW 0 n) [.sh (owD n ps),.ow (.lst ((upI n).map .int)),.no,.no,.no]= .nx [.sh (owD n ps),.ow (.lst (L.map .int)),s2,s3,s4]/\Lb n (dbl ps) L/\∀a,0<=a->a<n->∀b,Cn (dbl ps) a b->gL L a<=b:=by
 have hpr:∀p∈ps,0<=p.1/\p.1<n/\0<=p.2/\p.2<n:=λ p hp=>by have:=h.pr p hp;exact⟨this.1,this.2.1,this.2.2.1,this.2.2.2.1⟩
 have hin:∀x y,(x,y)∈dbl ps->0<=y/\y<n:=λ x y m=>by
  rcases fK.mp m with z|z
  .have:=h.pr _ z;exact⟨this.2.2.1,this.2.2.2.1⟩
  .have:=h.pr _ z;exact⟨this.1,this.2.1⟩
 have g0:∀x,0<=x->x<n->gL (upI n) x=x:=λ x h0 h1=>by
  unfold gL upI;rw[zAe,zAY,zFD (by lia)]
  show(((x.toNat:Nat):Int))=x
  lia
 obtain⟨Y',e,L,s2,s3,s4,rfl,B,hR⟩:=pR (a:=gnm 2) (u:=lsO) (ds:=bW 0 n)
  (λ t Y=>∃(L:List Int) (s2 s3 s4:Slot),Y=[.sh (owD n ps),.ow (.lst (L.map .int)),s2,s3,s4]/\Lb n (dbl ps) L/\Rd1 n (dbl ps) t L)
  (by
   rintro i d Y hd ⟨L,s2,s3,s4,rfl,B,hR⟩;obtain⟨rfl,hlt⟩:=lw hd;obtain⟨L',s3',s4',e,B',k1,k2⟩:=aCr (w:=.sh (owD n ps)) (s2:=.sh (.int (0+(i:Int)))) hpr ps L s3 s4 (λ _ h=>h) B;refine⟨[.sh (owD n ps),.ow (.lst (L'.map .int)),.sh (.int (0+(i:Int))),s3',s4'],?_,L',_,_,_,rfl,B',λ l a b h0 h1 P hl=>?_⟩
   .show lsO [.sh (owD n ps),.ow (.lst (L.map .int)),.sh (.int (0+(i:Int))),s3,s4]=_
    have hi:cF (op2 ixD (aD 0) (cD (.int 1))) [.sh (owD n ps),.ow (.lst (L.map .int)),.sh (.int (0+(i:Int))),s3,s4]= .ok (ps.map pD):=by simp[owD]
    rw[lsO,dJ,hi,bF,e]
   .match l,P,hl with
    |[],P,_=>cases P.hd
    |[x],P,_=>
     have e1:=P.hd;have e2:=P.lt;cases e1;cases e2;exact(B'.cn a h0 h1).2.1
    |x::y::r,P,hl=>
     have e1:=P.hd;cases e1;obtain⟨q1,q2⟩:=aKs hin P.al;have hy:=hR (y::r) y b q2.1 q2.2 ⟨rfl,by have:=P.lt;simpa using this,by have:=P.al;rw[cY,zAK]at this;exact this.2⟩ (by simp at hl ⊢;lia)
     have:gL L' a<=gL L y:=by
      rcases fK.mp q1 with z|z
      .exact(k2 _ z).1
      .exact(k2 _ z).2
     lia)
  (Y:=[.sh (owD n ps),.ow (.lst ((upI n).map .int)),.no,.no,.no]) ⟨upI n,.no,.no,.no,rfl,⟨iK n,λ x h0 h1=>by rw[g0 x h0 h1];exact⟨.refl,zFI _,h0⟩⟩,λ l a b h0 h1 P hl=>by
   rw[g0 a h0 h1]
   match l,P,hl with
   |[],P,_=>cases P.hd
   |[x],P,_=>
    have e1:=P.hd;have e2:=P.lt;cases e1;cases e2;exact zFI _
   |x::y::r,P,hl=>simp at hl⟩
 refine⟨L,s2,s3,s4,e,B,λ a h0 h1 b hc=>?_⟩;obtain⟨l,P,nd⟩:=hc.path;refine hR l a b h0 h1 P ?_;have bE:∀x∈l,x∈upI n:=λ x hx=>by
  cases l with
  |nil=>cases hx
  |cons y r=>
   have e1:=P.hd;cases e1;exact gF.mpr ((aCe P.al x hx).inn hin ⟨h0,h1⟩)
 have:=sub_len nd bE
 rw[iK]at this;rw[jB];lia
def aBf(h:Ow n ps):jK [owD n ps]= .ok (.lst ((aq n (dbl ps)).map tupI)):=by
 obtain⟨L,s2,s3,s4,e,B,hmin⟩:=aEc h;have hn0:=h.n0;have hn1:=h.n1;have hLl:=B.len;have st:bG 5 [owD n ps]=[.sh (owD n ps),.no,.no,.no,.no]:=rfl;have hlr:=aIt (f:=op2 ixD (aD 0) (cD (.int 0))) (Y:=[.sh (owD n ps),.no,.no,.no,.no]) (n:=n) (by simp[owD]) h.n0 h.n1;have hr:=jU (j:=n) (by lia) (by lia);have hS:sortI (ddI L)=(upI n).filter (cL (dbl ps)):=by
  refine aEC (sZ (aAl L)) ((aDk n).filter _) λ x=>?_
  rw[(sortI_perm _).mem_iff,aFc,zAn,gF,mH];constructor
  .intro hx
   obtain⟨i,hi,rfl⟩:=zFE hx;have hg:gL L (i:Int)=L[i]:=by unfold gL;rw[zCP,zAe,zAI hi];rfl
   have c:=B.cn (i:Int) (by lia) (by lia);rw[hg]at c;refine⟨⟨c.2.2,by lia⟩,λ b hb hc=>?_⟩
   have:=hmin (i:Int) (by lia) (by lia) b (c.1.trans hc)
   rwa [hg]at this
  .rintro⟨⟨h0,h1⟩,hl⟩
   have c:=B.cn x h0 h1;have e1:=hl _ c.2.2 c.1;have e2:gL L x=x:=by lia
   rw[<-e2];unfold gL;rw[zAe,zAI (show x.toNat<L.length by lia)];exact zCj _
 have c0:jT 1 (lrD (op2 ixD (aD 0) (cD (.int 0)))) [.sh (owD n ps),.no,.no,.no,.no]= .nx [.sh (owD n ps),.ow (.lst ((upI n).map .int)),.no,.no,.no]:=by
  rw[aFR,hlr,bF,aBT];rfl
 have c1:fZ (fW jC (aC (op2 ixD (aD 0) (cD (.int 0))) aG)) (gnm 2) lsO [.sh (owD n ps),.ow (.lst ((upI n).map .int)),.no,.no,.no]= .nx [.sh (owD n ps),.ow (.lst (L.map .int)),s2,s3,s4]:=by
  have hi:fW jC (aC (op2 ixD (aD 0) (cD (.int 0))) aG) [.sh (owD n ps),.ow (.lst ((upI n).map .int)),.no,.no,.no]= .ok (bW 0 n):=by simp[owD,hr]
  rw[dJ,hi,bF,e]
 have c2:lsR [.sh (owD n ps),.ow (.lst (L.map .int)),s2,s3,s4]= .ok (.lst ((aq n (dbl ps)).map tupI)):=by
  have hs:oZ [.lst (L.map .int)]= .ok (.lst ((sortI (ddI L)).map .int)):=by
   unfold oZ;dsimp only;rw[gG];dsimp only;rw[if_pos (by lia)]
  rw[hS]at hs;refine jO (ds:=((upI n).filter (cL (dbl ps))).map .int) (by simp[shE,m9,hs]) (by
   rw[zAD]
   have:=zCF (cL (dbl ps)) (upI n)
   rw[iK]at this;lia) ?_
  unfold aq;rw[zAz];refine vC _ λ a ha=>⟨[.sh (.int a),.sh (owD n ps),.sh (.lst (L.map .int))],rfl,?_⟩
  obtain⟨ha1,ha2⟩:=zAn.mp ha;have ha0:=gF.mp ha1;rw[mH]at ha2;have hc:lcD (fW jC (aC (op2 ixD (aD 1) (cD (.int 0))) aG)) [none,some 2,some 0] (gnm 0) (tsb (op2 (eqR false) (op2 ixD (aD 1) (aD 0)) (aD 2))) (bJ (aD 0)) [.sh (.int a),.sh (owD n ps),.sh (.lst (L.map .int))]= .ok (.lst ((bO n (dbl ps) a).map .int)):=by
   refine jO (ds:=(upI n).map .int) (by rw[<-aBT];simp[shE,m9,owD,hr]) (by rw[zAD,iK];lia) ?_;have ef:bO n (dbl ps) a=(upI n).filter λ b=>gL L b==a:=by
    unfold bO;refine List.filter_congr λ b hb=>?_
    have hb0:=gF.mp hb;have c:=B.cn b hb0.1 hb0.2;rw[zCE,aBZ,beq_iff_eq];constructor
    .intro hab
     have q1:=ha2 _ c.2.2 (hab.trans c.1);have q2:=hmin b hb0.1 hb0.2 a (hab.symm (uF ps));lia
    .intro hg
     rw[hg]at c;exact c.1.symm (uF ps)
   rw[ef];refine jV (upI n) λ b hb=>⟨[.sh (.int b),.sh (.lst (L.map .int)),.sh (.int a)],rfl,?_,?_⟩
   .have hb0:=gF.mp hb
    have:=aGH (L:=L) hb0.1 (by lia)
    simp[this]
   .simp
  rw[lsI,eQ,bC,hc];simp[tupI]
 simp only[jK,gf,bT,st];rw[aN,c0,aa,aN,c1,aa,fG,c2];rfl
end
def xr{ps:gX}:qU ps=true↔ps.Pairwise λ p q=>p.1<q.1\/p.1=q.1/\p.2<q.2:=by
 constructor
 .intro h
  have h':=aBU.mp h;clear h;induction ps with
  |nil=>exact .nil
  |cons p ps ih=>
   have hs:∀(i:Nat) (p q:Int×Int),ps[i]? =some p->ps[i+1]? =some q->ltP p q=true:=λ i a b e1 e2=>h' (i+1) a b e1 e2
   have hp:=ih hs;refine zAq.mpr ⟨λ q hq=>?_,hp⟩;cases ps with
   |nil=>cases hq
   |cons r rs=>
    have h1:=tO.mp (h' 0 p r rfl rfl);rcases zAJ.mp hq with rfl|hq
    .exact h1
    .have h2:=(zAq.mp hp).1 q hq
     lia
 .intro h
  rw[aBU];intro i p q e1 e2;rw[tO];obtain⟨h1,rfl⟩:=zAN.mp e1;obtain⟨h2,rfl⟩:=zAN.mp e2;exact zEF.mp h i (i+1) h1 h2 (zBs i)
def aEI(h:fe (Y.map shS)= .ex c)(hw:wdN c=some w):zu wdN "told" fe Y= .ok (.str w):=by
 unfold zu;rw[h];dsimp only;rw[hw]
def aAS(h0:0<=n)(h1:n<=60):(aq n (dbl ps)).length<=60:=by
 unfold aq;rw[zAD]
 have:=zCF (cL (dbl ps)) (upI n)
 rw[iK]at this;lia
def vB(ws:List Int):List Int:=if HT.lexLt ws.reverse ws=true then ws.reverse else ws
def aNy(h:ws≠[]):vB ws≠[]:=by
 unfold vB;split
 .simpa using h
 .exact h
def iJ(ws:List Int):gV:=(ws.zip (ws.drop 1)).map λ p=>[mn p.1 p.2,mx p.1 p.2]
def xO(ws:List Int):(iJ ws).length<=ws.length:=by
 unfold iJ;rw[zAD,zDn];lia
def aB0(rws:gV):D:=.tup ((gw (rws.map vB)).map tupI)
def aFC(rws:gV):D:=.tup ((gw (rws.flatMap iJ)).map tupI)
def aIV(rws:gV)(hf:fi (shE Y)= .ok (rws.map tupI))(he:∀ws:List Int,fe [.sh (tupI ws)]= .ok (tupI (vB ws)))(hn:∀r∈rws,r≠[])(hl:rws.length<64):
  opA eG (aC (opA jo (aC (lcD fi [none] (gnm 0) jh fe) aG)) aG) Y= .ok (aB0 rws):=by
 have e1:lcD fi [none] (gnm 0) jh fe Y= .ok (.lst ((rws.map vB).map tupI)):=jO hf (by rw[zAD];lia) (by
  rw[zAz];exact vC rws λ x hx=>⟨[.sh (tupI x)],rfl,he x⟩)
 have e2:=uX (f:=rws.map vB) (λ r hr=>by obtain⟨x,hx,rfl⟩:=zA3.mp hr;exact aNy (hn x hx)) (by simpa using hl);rw[eQ,bC,eQ,bC,e1];simp[e2,aB0,-zAz]
def aMg(hw:ws≠[])(hv:aD i Y= .ok (tupI ws)):fW aGL (aC (aD i) (aC (mz (aD i) (tK (cD (.int 1))) tL) aG)) Y= .ok ((ws.zip (ws.drop 1)).map pD):=by
 have hc:cutD (ws.map .int) (some 1) none=(ws.drop 1).map .int:=by
  have:=aAo (l:=ws.map D.int) (k:=1) (by
   have:=zDH.mpr hw
   rw[zAD];lia)
  rw[zJC];exact this
 have hz:aCM (ws.map .int) ((ws.drop 1).map .int)=(ws.zip (ws.drop 1)).map pD:=by
  unfold aCM;rw[List.zip_map,zAz];rfl
 have e:fW aGL (aC (aD i) (aC (mz (aD i) (tK (cD (.int 1))) tL) aG)) Y=aGL [.tup (ws.map .int),.tup (cutD (ws.map .int) (some 1) none)]:=by
  rw[aKb,bC,hv,aR,bC,uY,hv];simp[tupI]
 rw[e,hc];show Rs.ok (aCM (ws.map .int) ((ws.drop 1).map .int))=_;rw[hz]
def aGU(rws:gV)(hz:rws.flatten.length<64):jo [.lst ((rws.flatMap iJ).map tupI)]= .ok (.lst ((gw (rws.flatMap iJ)).map tupI)):=by
 refine uX (λ r hr=>?_) (zC2 ?_ hz)
 .obtain⟨ws,_,h2⟩:=zE8.mp hr
  obtain⟨p,_,rfl⟩:=zA3.mp h2;simp
 .clear hz
  induction rws with
  |nil=>simp
  |cons r rws ih=>
   have:=xO r
   simp only[zF6,zA1,zBd];lia
def aKO(hg:∀p:Int×Int,∃Y1,fg (pD p) Y= .ok Y1/\fe Y1= .ok (.tup [.int (mn p.1 p.2),.int (mx p.1 p.2)])):lcL Y fg jh fe ((ws.zip (ws.drop 1)).map pD)= .ok ((iJ ws).map tupI):=by
 unfold iJ;rw[zAz];exact vC _ λ p hp=>hg p
def nb(ps:gX)(i:Int):List Int:=jw (dbl ps) i
def pO{ps:gX}{a b:Int}:b∈nb ps a↔(a,b)∈dbl ps:=aBe
theorem aAm:∀{ps:gX},ps.Nodup->(∀p∈ps,p.1<p.2)->(dbl ps).Nodup
 |[],_,_=>zD2
 |p::ps,h,low=>by
  obtain⟨h1,h2⟩:=zBT.mp h;have ih:=aAm h2 λ q hq=>low q (zAH _ hq)
  have lp:=low p zAE;have no:∀q∈ps,q≠(p.2,p.1):=λ q hq e=>by
   have:=low q (zAH _ hq)
   rw[e]at this;dsimp only at this;lia
  rw[uG];refine zBT.mpr ⟨λ z=>?_,zBT.mpr ⟨λ z=>?_,ih⟩⟩
  .rcases zAJ.mp z with e|z
   .have:=congrArg Prod.fst e
    dsimp only at this;lia
   .rcases fK.mp (show(p.1,p.2)∈dbl ps from z)with z|z
    .exact h1 z
    .exact no _ z rfl
  .rcases fK.mp z with z|z
   .exact no _ z rfl
   .exact h1 z
def aIk(h:ps.Nodup)(low:∀p∈ps,p.1<p.2)(a:Int):(nb ps a).Nodup:=by
 unfold nb jw zGm;rw[zDY];refine zJT ?_ ((aAm h low).filter _);intro p q hp hq ne e;have e1:p.1=a:=by simpa using(zAn.mp hp).2
 have e2:q.1=a:=by simpa using(zAn.mp hq).2
 exact ne (zHy (e1.trans e2.symm) e)
def aFa(low:∀p∈ps,p.1<p.2)(a:Int):a∉nb ps a:=λ h=>by
 rcases fK.mp (pO.mp h)with z|z<;>·have:=low _ z;dsimp only at this;lia
def aBb(h:b∈nb ps a):a∈nb ps b:=pO.mpr (uF ps _ _ (pO.mp h))
def nxt(ps:gX)(ws:List Int):List Int:=(nb ps (ws.getLastD 0)).filter λ x=>!decide (x∈ws)
def goW(ps:gX):Nat->List Int->List Int
 |0,ws=>ws
 |k+1,ws=>goW ps k (ws++nxt ps ws)
theorem zA(h:nxt ps ws=[]):∀k,goW ps k ws=ws
 |0=>rfl
 |k+1=>by rw[goW,h,zBC];exact zA h k
theorem aBp:∀(j k:Nat) (ws:List Int),goW ps (j+k) ws=goW ps k (goW ps j ws)
 |0,k,ws=>by rw[zEp];rfl
 |j+1,k,ws=>by rw[show j+1+k=(j+k)+1 by lia,goW,goW];exact aBp j k _
structure Pt(n:Int)(ps:gX)(P:List Int)(e:Int):Prop where
 inn:∀x∈P,0<=x/\x<n
 two:∀x∈P,(nb ps x).length<=2
 cl:∀x∈P,∀y∈nb ps x,y∈P
 e1:e∈P
 e2:(nb ps e).length<2
structure Jw(ps:gX)(P:List Int)(e:Int)(ws:List Int):Prop where
 hd:∃r,ws=e::r
 nd:ws.Nodup
 sub:∀x∈ws,x∈P
 al:cY (dbl ps) ws=true
def jE(ws:List Int):ws=[]\/∃r l,ws=r++[l]:=by
 rcases List.eq_nil_or_concat ws with h|⟨r,l,h⟩
 .exact .inl h
 .exact .inr ⟨r,l,by rw[h,List.concat_eq_append]⟩
def Jw.ne(J:Jw ps P e ws):ws≠[]:=by obtain⟨r,rfl⟩:=J.hd;simp
def tR{ws:List Int}(h:ws≠[]):ws.getLastD 0=ws.getLast h:=by rw[zEE,zFt h];rfl
def Jw.one(h:Pt n ps P e):Jw ps P e [e]:=⟨⟨[],rfl⟩,by simp,λ x hx=>by rw[zAV.mp hx];exact h.e1,by rfl⟩
def aJ6{l:List Int}{f:Int->Bool}{x:Int}(h:x∈l)(hf:f x=false):(l.filter f).length<l.length:=by
 rw[List.length_filter_lt_length_iff_exists];exact⟨x,h,by simp[hf]⟩
def Jw.le1(h:Pt n ps P e)(J:Jw ps P e ws):(nxt ps ws).length<=1:=by
 rcases jE ws with rfl|⟨r,l,rfl⟩
 .exact absurd rfl J.ne
 .have hl:(r++[l]).getLastD 0=l:=by rw[zEE,zH3];rfl
  rcases jE r with rfl|⟨dd,p,rfl⟩
  .obtain⟨r,e'⟩:=J.hd
   have:l=e:=by simpa using(zHr e').1
   subst this;have h1:=zCF (λ x=>!decide (x∈[]++[l])) (nb ps l);have h2:=h.e2;unfold nxt;rw[hl];lia
  .have hp:(p,l)∈dbl ps:=qQ.mp J.al dd.length p l (by simp) (by simp)
   have hm:p∈nb ps l:=aBb (pO.mpr hp);have h1:=aJ6 (f:=λ x=>!decide (x∈dd++[p]++[l])) hm (by simp);have h2:=h.two l (J.sub l (by simp));unfold nxt;rw[hl];lia
def Jw.step(h:Pt n ps P e)(J:Jw ps P e ws)(hx:x∈nxt ps ws):nxt ps ws=[x]/\Jw ps P e (ws++[x]):=by
 have h1:=J.le1 h;have en:nxt ps ws=[x]:=by
  match hn:nxt ps ws,hx,h1 with
  |[y],hx,_=>rw[zAV.mp hx]
  |y::z::l,_,h1=>simp at h1
  |[],hx,_=>cases hx
 refine⟨en,?_⟩;obtain⟨m1,m2⟩:=zAn.mp hx;rw[tR J.ne]at m1;have hno:x∉ws:=by simpa using m2
 obtain⟨r,er⟩:=J.hd;refine⟨⟨r++[x],by rw[er];rfl⟩,?_,λ y hy=>?_,nq J.ne J.al (pO.mp m1)⟩
 .rw[zBS]
  exact⟨J.nd,by simp,λ y hy z hz e=>by rw[zAV.mp hz]at e;subst e;exact hno hy⟩
 .rcases zAd.mp hy with z|z
  .exact J.sub y z
  .rw[zAV.mp z]
   exact h.cl _ (J.sub _ (zDa J.ne)) x m1
theorem Jw.goW(h:Pt n ps P e):∀(k:Nat) {ws:List Int},Jw ps P e ws->Jw ps P e (VL.My.goW ps k ws)
 |0,_,J=>J
 |k+1,ws,J=>by
  unfold VL.My.goW
  match hn:nxt ps ws with
  |[]=>rw[zBC];exact Jw.goW h k J
  |x::l=>
   obtain⟨e1,J'⟩:=J.step h (x:=x) (by rw[hn];exact zAE);rw[<-hn,e1];exact Jw.goW h k J'
def Jw.len(J:Jw ps P e ws):ws.length<=P.length:=sub_len J.nd J.sub
theorem aFt(h:Pt n ps P e):∀(k:Nat) {ws:List Int},Jw ps P e ws->P.length<=ws.length+k->nxt ps (goW ps k ws)=[]
 |0,ws,J,hl=>by
  show nxt ps ws=[]
  match hn:nxt ps ws with
  |[]=>rfl
  |x::l=>
   obtain⟨e1,J'⟩:=J.step h (x:=x) (by rw[hn];exact zAE)
   have:=J'.len
   rw[zA1,zBY]at this;lia
 |k+1,ws,J,hl=>by
  unfold goW
  match hn:nxt ps ws with
  |[]=>rw[zBC,zA hn];exact hn
  |x::l=>
   obtain⟨e1,J'⟩:=J.step h (x:=x) (by rw[hn];exact zAE);rw[<-hn,e1];exact aFt h k J' (by rw[zA1,zBY];lia)
def aFB{ws:List Int}(nd:ws.Nodup){i j:Nat}{x:Int}(h1:ws[i]? =some x)(h2:ws[j]? =some x):i=j:=
 (zF7 (zAN.mp h1).1 nd).mp (h1.trans h2.symm)
def Jw.last(h:Pt n ps P e)(hnd:ps.Nodup)(low:∀p∈ps,p.1<p.2)(J:Jw ps P e ws)(hn:nxt ps ws=[]):(nb ps (ws.getLast J.ne)).length<2:=by
 refine Nat.lt_of_not_le λ h2=>?_
 rcases jE ws with hw|⟨r,l,hw⟩
 .exact absurd hw J.ne
 .have hl:ws.getLast J.ne=l:=by simp[hw]
  rw[hl]at h2;have oQ:∀x∈nb ps l,x∈ws:=λ x hx=>by
   refine zDk λ z=>?_
   have:x∈nxt ps ws:=zAn.mpr ⟨by rw[tR J.ne,hl];exact hx,by simp[z]⟩
   rw[hn]at this;cases this
  rcases jE r with hr|⟨dd,p,hr⟩
  .obtain⟨r',e'⟩:=J.hd
   rw[hw,hr]at e'
   have:l=e:=by simpa using(zHr e').1
   subst this
   have:=h.e2
   lia
  .rw[hr]at hw
   have hpi:ws[dd.length]? =some p:=by rw[hw];simp
   have hli:ws[dd.length+1]? =some l:=by rw[hw];simp
   obtain⟨x,hx,hxp⟩:∃x∈nb ps l,x≠p:=by
    refine zDk λ z=>?_
    have:=sub_len (aIk hnd low l) (l':=[p]) λ y hy=>by
     refine zAV.mpr (zDk λ w=>z ⟨y,hy,w⟩)
    simp at this;lia
   have hxl:x≠l:=λ z=>by subst z;exact aFa low _ hx
   obtain⟨i,hi⟩:=List.getElem?_of_mem (oQ x hx);have hws:ws.length=dd.length+2:=by rw[hw];simp
   have hi':i<ws.length:=(zAN.mp hi).1;have hne1:i≠dd.length:=λ z=>by subst z;rw[hpi]at hi;exact hxp (zAa hi).symm
   have hne2:i≠dd.length+1:=λ z=>by subst z;rw[hli]at hi;exact hxl (zAa hi).symm
   have hid:i<dd.length:=by lia
   obtain⟨y,hy⟩:∃y,ws[i+1]? =some y:=⟨_,zAI (by lia)⟩
   have hyn:y∈nb ps x:=pO.mpr (qQ.mp J.al i x y hi hy);have hln:l∈nb ps x:=aBb hx;have hyl:y≠l:=λ z=>by subst z;have:=aFB J.nd hy hli;lia
   have hxP:x∈P:=J.sub x (oQ x hx);by_cases i0:i=0
   .subst i0
    obtain⟨r',e'⟩:=J.hd
    have:x=e:=by rw[e']at hi;simpa using hi.symm
    subst this
    have:=sub_len (l:=[y,l]) (l':=nb ps x) (by simp[hyl]) λ z hz=>by
     simp only[zAJ,zAg,or_false]at hz;rcases hz with rfl|rfl
     .exact hyn
     .exact hln
    have h3:=h.e2;simp at this;lia
   .obtain⟨u,hu⟩:∃u,ws[i-1]? =some u:=⟨_,zAI (by lia)⟩
    have hun:u∈nb ps x:=aBb (pO.mpr (qQ.mp J.al (i-1) u x hu (by rw[show i-1+1=i by lia];exact hi)));have huy:u≠y:=λ z=>by subst z;have:=aFB J.nd hu hy;lia
    have hul:u≠l:=λ z=>by subst z;have:=aFB J.nd hu hli;lia
    have:=sub_len (l:=[u,y,l]) (l':=nb ps x) (by simp[hyl,huy,hul]) λ z hz=>by
     simp only[zAJ,zAg,or_false]at hz;rcases hz with rfl|rfl|rfl
     .exact hun
     .exact hyn
     .exact hln
    have h3:=h.two x hxP;simp at this;lia
def aGs(h:(e::r).getLast (by simp)=l)(hl:e<=l)(nd:(e::r).Nodup):vB (e::r)=e::r:=by
 unfold vB;rcases jE r with rfl|⟨r',l',rfl⟩
 .simp[yc]
 .have e1:l'=l:=by rw[<-h,List.getLast_cons (by simp)];simp
  subst e1;have ne:e≠l':=λ z=>by subst z;simp at nd
  have e2:(e::(r'++[l'])).reverse=l'::(e::r').reverse:=by simp
  rw[e2,if_neg]
  have:¬(l'<e):=by lia
  simp[HT.lexLt,this];lia
def Lx(n:Int)(ps:gX)(ll:fE):Prop:=∀i:Int,0<=i->i<n->atD (ll.map .lst) i= .ok (.lst ((nb ps i).map .int))
abbrev vE(ll:fE)(e:Int)(ws as:List Int):En:=[.sh (.lst (ll.map .lst)),.sh (.int e),.ow (.lst (ws.map .int)),.sh (.lst (as.map .int))]
def aIh(hf:fi (shE Y)= .ok ((nb ps (ws.getLastD 0)).map .int))(hs:stE js (shE Y)=[.no,.sh (.tup (ws.map .int))]\/stE js (shE Y)=[.no,.sh (.lst (ws.map .int))])(hl:(nb ps (ws.getLastD 0)).length<=1000):
  lcD fi js (gnm 0) (tsb (op2 (inR true) (aD 0) (aD 1))) (bJ (aD 0)) Y= .ok (.lst ((nxt ps ws).map .int)):=aCm (i:=0) (j:=0) hf hs hl
def aCO(h:Pt n ps P e)(hl:P.length<=60)(low:∀p∈ps,p.1<p.2)(L:Lx n ps ll):il [.lst (ll.map .lst),.int e]= .ok (tupI (goW ps (P.length-1) [e])):=by
 have st:bG 4 [.lst (ll.map .lst),.int e]=[.sh (.lst (ll.map .lst)),.sh (.int e),.no,.no]:=rfl;have dA:nxt ps [e]=nb ps e:=by
  show List.filter (λ x=>!decide (x∈[e])) (nb ps e)=nb ps e;rw[zHi];intro x hx
  have:x≠e:=λ z=>by subst z;exact aFa low _ hx
  simp[this]
 obtain⟨Y',m',e',⟨ws,k,rfl,J,ek,lk,_⟩,ht⟩:=xJ (c:=tst (aD 3)) (b:=wfW)
  (λ m Y=>∃(ws:List Int) (k:Nat),Y=vE ll e ws (nxt ps ws)/\Jw ps P e ws/\ws=goW ps k [e]/\ws.length=k+1/\m=P.length-ws.length)
  (by
   rintro m Y ⟨ws,k,rfl,J,ek,lk,rfl⟩;have hpl:=J.len
   match hn:nxt ps ws with
   |[]=>left;simp
   |x::r=>
    right;obtain⟨e1,J'⟩:=J.step h (x:=x) (by rw[hn];exact zAE);have kK:=J'.len;rw[zA1,zBY]at kK;have e2:x::r=[x]:=hn.symm.trans e1;have b1:oN 2 (bJ (op2 ixD (aD 3) (cD (.int 0)))) (vE ll e ws (x::r))= .nx (vE ll e (ws++[x]) (x::r)):=by
     show((bJ (op2 ixD (aD 3) (cD (.int 0))) (vE ll e ws (x::r))).bo λ d=>if (ws.map D.int).length<zAX then .nx [.sh (.lst (ll.map .lst)),.sh (.int e),.ow (.lst (ws.map .int++[d])),.sh (.lst ((x::r).map .int))]else .st)=_
     have hv:bJ (op2 ixD (aD 3) (cD (.int 0))) (vE ll e ws (x::r))= .ok (.int x):=by simp
     rw[hv,bF,if_pos (by rw[szl,zAD];lia)];simp[zAk]
    have hx:=h.inn x (J'.sub x (by simp));have bS:(ws++[x]).getLastD 0=x:=by rw[zEE,zH3];rfl
    have hat:atD ((ws++[x]).map .int) (-1)= .ok (.int x):=by
     rw[zZ (ws:=ws++[x]) (by simp)];simp
    have b2:lcD (cF (op2 ixD (aD 0) (op2 ixD (aD 2) (op1 aCp (cD (.int 1)))))) [none,some 2] (gnm 0) (tsb (op2 (inR true) (aD 0) (aD 1))) (bJ (aD 0)) (vE ll e (ws++[x]) (x::r))= .ok (.lst ((nxt ps (ws++[x])).map .int)):=by
     refine aIh ?_ (.inr rfl) ?_
     .rw[bS]
      simp only[shE,zAS,zFh,m9,aBj,eU,yN,qC,zX,aR,aCo,cB,zBe,zB0,tU,hat,L x hx.1 hx.2,aBk]
     .rw[bS]
      have:=h.two x (J'.sub x (by simp))
      lia
    refine⟨by simp,vE ll e (ws++[x]) (nxt ps (ws++[x])),P.length-(ws.length+1),?_,by lia,ws++[x],k+1,rfl,J',?_,by simp[lk],by simp⟩
    .rw[wfW,aN,b1,aa,qG,b2,bF]
     rfl
    .rw[aBp,<-ek,goW,goW,e1])
  (m:=P.length-1) (Y:=vE ll e [e] (nxt ps [e])) (by lia) ⟨[e],0,rfl,Jw.one h,rfl,rfl,by simp⟩
 have hn:nxt ps ws=[]:=by
  cases hq:nxt ps ws with
  |nil=>rfl
  |cons x r=>rw[hq]at ht;simp at ht
 have hw:goW ps (P.length-1) [e]=ws:=by
  have hpl:=J.len;rw[show P.length-1=k+(P.length-1-k)by lia,aBp,<-ek,zA hn]
 have hei:=h.inn e h.e1;have c0:jT 2 (gq (aC (bJ (aD 1)) aG)) [.sh (.lst (ll.map .lst)),.sh (.int e),.no,.no]= .nx [.sh (.lst (ll.map .lst)),.sh (.int e),.ow (.lst [.int e]),.no]:=by simp
 have c1:cP 3 (op2 ixD (aD 0) (aD 1)) [.sh (.lst (ll.map .lst)),.sh (.int e),.ow (.lst [.int e]),.no]= .nx (vE ll e [e] (nxt ps [e])):=by
  rw[dA];simp[L e hei.1 hei.2]
 simp only[il,iR,bT,st];rw[aN,c0,aa,aN,c1,aa,aN,e',aa,hw];simp
def nR(h:P∈aq n (dbl ps)):∃a,(0<=a/\a<n)/\P=bO n (dbl ps) a:=by
 obtain⟨a,ha,rfl⟩:=zA3.mp h;exact⟨a,gF.mp (zAn.mp ha).1,rfl⟩
def aJm(n:Int)(es:gX)(a:Int):(bO n es a).Pairwise (·< ·):=(aDk n).filter _
def aI7(h:P∈aq n (dbl ps)):P.Pairwise (·< ·):=by
 obtain⟨a,_,rfl⟩:=nR h;exact aJm ..
def pK(h:P∈aq n (dbl ps)):∀x∈P,0<=x/\x<n:=λ x hx=>by
 obtain⟨a,_,rfl⟩:=nR h;exact(jt.mp hx).1
def aCf(h:P∈aq n (dbl ps))(hn:n<=60):P.length<=60:=by
 obtain⟨a,_,rfl⟩:=nR h
 have:=zCF (λ b=>prB (Cn (dbl ps) a b)) (upI n)
 rw[iK]at this;unfold bO;lia
def aKt(O:Ow n ps)(h:P∈aq n (dbl ps)):∀x∈P,∀y∈nb ps x,y∈P:=λ x hx y hy=>by
 obtain⟨a,_,rfl⟩:=nR h;obtain⟨_,hc⟩:=jt.mp hx;have he:=pO.mp hy;refine jt.mpr ⟨?_,hc.step he⟩;rcases fK.mp he with z|z
 .have:=O.pr _ z;exact⟨this.2.2.1,this.2.2.2.1⟩
 .have:=O.pr _ z;exact⟨this.1,this.2.1⟩
def aI8(h0:0<=x)(h1:x<n):∃P∈aq n (dbl ps),x∈P:=by
 have go:∀(k:Nat) (y:Int),y.toNat<=k->0<=y->y<n->Cn (dbl ps) y x->∃a,0<=a/\a<n/\cL (dbl ps) a=true/\Cn (dbl ps) a x:=by
  intro k;induction k with
  |zero=>
   intro y hy y0 y1 hc;exact⟨y,y0,y1,mH.mpr λ b hb _=>by lia,hc⟩
  |succ k ih=>
   intro y hy y0 y1 hc;by_cases hl:cL (dbl ps) y=true
   .exact⟨y,y0,y1,hl,hc⟩
   .obtain⟨b,hb⟩:=Classical.not_forall.mp λ z=>hl (mH.mpr z)
    obtain⟨hb0,hb⟩:=zHC.mp hb;obtain⟨hbc,hb⟩:=zHC.mp hb;exact ih b (by lia) hb0 (by lia) ((hbc.symm (uF ps)).trans hc)
 obtain⟨a,a0,a1,al,ac⟩:=go x.toNat x (zAQ _) h0 h1 .refl;exact⟨bO n (dbl ps) a,zA3.mpr ⟨a,zAn.mpr ⟨gF.mpr ⟨a0,a1⟩,al⟩,rfl⟩,jt.mpr ⟨⟨h0,h1⟩,ac⟩⟩
def dg(ps:gX)(x:Int):Int:=((nb ps x).length:Int)
def cC(ps:gX)(P:List Int):List Int:=P.filter λ x=>decide (dg ps x<2)
def ik(ps:gX)(P:List Int):Bool:=P.any (λ x=>decide (2<dg ps x))||(cC ps P).isEmpty
def du(ps:gX)(P:List Int):List Int:=goW ps (P.length-1) [(cC ps P).headD 0]
def aBr(O:Ow n ps)(h:P∈aq n (dbl ps))(hb:ik ps P=false):∃e r,cC ps P=e::r/\Pt n ps P e/\∀x∈cC ps P,e<=x:=by
 obtain⟨b1,b2⟩:=zHZ.mp hb;cases he:cC ps P with
 |nil=>rw[he]at b2;cases b2
 |cons e r=>
  have hm:e∈cC ps P:=by rw[he];exact zAE
  obtain⟨m1,m2⟩:=zAn.mp hm;have hs:=(aI7 h).filter (λ x=>decide (dg ps x<2));have hs':(e::r).Pairwise (·< ·):=by rw[<-he];exact hs
  refine⟨e,r,rfl,⟨pK h,λ x hx=>?_,aKt O h,m1,?_⟩,λ x hx=>?_⟩
  .have:=zF5.mp b1 x hx
   simp only[decide_eq_true_eq]at this;unfold dg at this;lia
  .simp only[decide_eq_true_eq]at m2
   unfold dg at m2;lia
  .rcases zAJ.mp hx with rfl|hx
   .exact zFI _
   .have:=(zAq.mp hs').1 x hx
    lia
def aCh(h:Ow n ps):ps.Nodup:=by
 refine(xr.mp h.ris).imp λ{a b} q e=>?_
 subst e;lia
def aAz(O:Ow n ps)(low:∀p∈ps,p.1<p.2)(h:P∈aq n (dbl ps))(hb:ik ps P=false):vB (du ps P)=du ps P/\du ps P≠[]/\(du ps P).Nodup/\∀x∈du ps P,x∈P:=by
 obtain⟨e,r,he,hp,hle⟩:=aBr O h hb;have hw:du ps P=goW ps (P.length-1) [e]:=by unfold du;rw[he];rfl
 have J:=(Jw.one hp).goW hp (P.length-1);have hn:nxt ps (goW ps (P.length-1) [e])=[]:=aFt hp _ (Jw.one hp) (by simp;lia);have hl:=J.last hp (aCh O) low hn;rw[hw];refine⟨?_,J.ne,J.nd,J.sub⟩;obtain⟨r',er⟩:=J.hd;have bS:(goW ps (P.length-1) [e]).getLast J.ne∈cC ps P:=zAn.mpr ⟨J.sub _ (zDa _),by
  simp only[decide_eq_true_eq];unfold dg;lia⟩
 have key:∀(W:List Int) (hW:W≠[]),W=e::r'->W.Nodup->e<=W.getLast hW->vB W=W:=by
  rintro W hW rfl nd hx;exact aGs rfl hx nd
 exact key _ J.ne er J.nd (hle _ bS)
def aJw(f:α->Bool)(l:List α):oO (λ bs=>bs.any id) [.lst (l.map λ x=>D.bl (f x))]= .ok (.bl (l.any f)):=by
 unfold oO;dsimp only;rw[uK];dsimp only;rw[zHV];rfl
def aEu(L:Lx n ps ll)(h:0<=x/\x<n):opA fL (aC (op2 ixD (aD 1) (aD 0)) aG) [.sh (.int x),.sh (.lst (ll.map .lst))]= .ok (.int (dg ps x)):=by
 have a0:aD 0 [.sh (.int x),.sh (.lst (ll.map .lst))]= .ok (.int x):=rfl;have a1:aD 1 [.sh (.int x),.sh (.lst (ll.map .lst))]= .ok (.lst (ll.map .lst)):=rfl;rw[eQ,bC,eU,a1,aR,a0,aR,tU,L x h.1 h.2,cB,aR,fu,aR,aR,aIv,cB,zAD];rfl
def aKw{Y:En}{fi:En->Rs (List D)}{js:kQ}{P:List Int}{ll:fE}(hf:fi (shE Y)= .ok (P.map .int))(hs:stE js (shE Y)=[.no,.sh (.lst (ll.map .lst))])(L:Lx n ps ll)(hl:P.length<=1000)(hin:∀x∈P,0<=x/\x<n):
  lcD fi js (gnm 0) jh (op2 gtD (opA fL (aC (op2 ixD (aD 1) (aD 0)) aG)) (cD (.int 2))) Y= .ok (.lst (P.map λ x=>.bl (decide (2<dg ps x)))):=by
 refine jO hf (by rw[zAD];lia) ?_;rw[hs];refine vC (f:=D.int) P λ x hx=>⟨[.sh (.int x),.sh (.lst (ll.map .lst))],rfl,?_⟩
 rw[eU,aEu L (hin x hx),aR,zX,aR,aFr,cB]
def aGA(hf:fi (shE Y)= .ok (P.map .int))(hs:stE js (shE Y)=[.no,.sh (.lst (ll.map .lst))])(L:Lx n ps ll)(hl:P.length<=1000)(hin:∀x∈P,0<=x/\x<n):
  lcD fi js (gnm 0) (tsb (op2 ltD (opA fL (aC (op2 ixD (aD 1) (aD 0)) aG)) (cD (.int 2)))) (bJ (aD 0)) Y= .ok (.lst ((cC ps P).map .int)):=by
 refine jO hf (by rw[zAD];lia) ?_;rw[hs];refine jV (f:=D.int) (g:=D.int) P λ x hx=>⟨[.sh (.int x),.sh (.lst (ll.map .lst))],rfl,?_,by simp⟩
 rw[uV,eU,aEu L (hin x hx),aR,zX,aR,aLP,cB,aR,zY]
abbrev xE(w t b:D)(ll:fE)(R:gV)(s5 s6:Slot):En:=[.sh w,.sh t,.sh b,.sh (.lst (ll.map .lst)),.ow (.lst (R.map tupI)),s5,s6]
def aNI{w t b:D}{ll:fE}(O:Ow n ps)(low:∀p∈ps,p.1<p.2)(L:Lx n ps ll)(h:P∈aq n (dbl ps))(hR:R.length<=100):pxB (xE w t b ll R (.sh (tupI P)) s6)=if ik ps P=true then .ex "NoParting" else .nx (xE w t b ll (R++[du ps P]) (.sh (tupI P)) (.nw (.lst ((cC ps P).map .int)))):=by
 have hpl:=aCf h O.n1;have hi:cF (aD 5) (shE (xE w t b ll R (.sh (tupI P)) s6))= .ok (P.map .int):=rfl;have hs:stE [none,some 3] (shE (xE w t b ll R (.sh (tupI P)) s6))=[.no,.sh (.lst (ll.map .lst))]:=rfl;have a1:=aKw hi hs L (by lia) (pK h);have a2:=aGA hi hs L (by lia) (pK h);have t1:tst (opA (oO λ bs=>bs.any id) (aC (lcD (cF (aD 5)) [none,some 3] (gnm 0) jh (op2 gtD (opA fL (aC (op2 ixD (aD 1) (aD 0)) aG)) (cD (.int 2)))) aG)) (xE w t b ll R (.sh (tupI P)) s6)= .ok (P.any λ x=>decide (2<dg ps x)):=by
  rw[aBB,eQ,bC,a1,aR,fu,aR,aR,aJw,cB,aR,wY]
 rw[pxB,aN,kI,t1,bF];cases h1:P.any λ x=>decide (2<dg ps x)with
 |true=>
  rw[if_pos rfl]
  have:ik ps P=true:=by unfold ik;rw[h1];rfl
  rw[if_pos this];simp[pxR]
 |false=>
  rw[if_neg zAO,aa,aN,qH,a2,bF];show Ou.sq (.nx (xE w t b ll R (.sh (tupI P)) (.nw (.lst ((cC ps P).map .int))))) _=_;rw[aa,aN,kI];have t2:lX (tst (gn 6)) (xE w t b ll R (.sh (tupI P)) (.nw (.lst ((cC ps P).map .int))))= .ok (cC ps P).isEmpty:=by
   show((aGQ (.lst ((cC ps P).map .int))).bd λ k=>.ok (!k))=_
   rw[aHa,aR];cases cC ps P<;>rfl
  rw[t2,bF];cases h2:(cC ps P).isEmpty with
  |true=>
   rw[if_pos rfl]
   have:ik ps P=true:=by unfold ik;rw[h1,h2];rfl
   rw[if_pos this];simp[pxQ]
  |false=>
   have hb:ik ps P=false:=by unfold ik;rw[h1,h2];rfl
   rw[if_neg zAO,aa,hb,if_neg zAO];obtain⟨e,r,he,hp,_⟩:=aBr O h hb;have hw:du ps P=goW ps (P.length-1) [e]:=by unfold du;rw[he];rfl
   have a3:aU il (aC (aD 3) (aC (op2 ixD (gn 6) (cD (.int 0))) aG)) (xE w t b ll R (.sh (tupI P)) (.nw (.lst ((cC ps P).map .int))))= .ok (tupI (du ps P)):=by
    rw[he,hw,<-aCO hp hpl low L];simp
   show((aU il (aC (aD 3) (aC (op2 ixD (gn 6) (cD (.int 0))) aG)) (xE w t b ll R (.sh (tupI P)) (.nw (.lst ((cC ps P).map .int))))).bo λ d=>if (R.map tupI).length<zAX then .nx [.sh w,.sh t,.sh b,.sh (.lst (ll.map .lst)),.ow (.lst (R.map tupI++[d])),.sh (tupI P),.nw (.lst ((cC ps P).map .int))]else .st)=_
   rw[a3,bF,if_pos (by rw[szl,zAD];lia)];simp[zAk]
theorem aFZ(O:Ow n ps)(low:∀p∈ps,p.1<p.2)(L:Lx n ps ll):∀(Ps:gV) (R:gV) (s5 s6:Slot),(∀P∈Ps,P∈aq n (dbl ps))->R.length+Ps.length<=100->
  if Ps.any (ik ps)=true then forL (gnm 5) pxB (Ps.map tupI) (xE w t b ll R s5 s6)= .ex "NoParting" else∃s5' s6',forL (gnm 5) pxB (Ps.map tupI) (xE w t b ll R s5 s6)= .nx (xE w t b ll (R++Ps.map (du ps)) s5' s6')
 |[],R,s5,s6,_,_=>by
  rw[if_neg (by simp)];exact⟨s5,s6,by simp⟩
 |P::Ps,R,s5,s6,hP,hl=>by
  rw[zA5]at hl;have h1:=aNI (w:=w) (t:=t) (b:=b) (R:=R) (s6:=s6) O low L (hP P zAE) (by lia);have hg:okE (gnm 5 (tupI P) (xE w t b ll R s5 s6)) (λ Y1=>(pxB Y1).tn (forL (gnm 5) pxB (Ps.map tupI)))=(pxB (xE w t b ll R (.sh (tupI P)) s6)).tn (forL (gnm 5) pxB (Ps.map tupI)):=rfl;rw[zAS,cG,hg,h1,zE0];cases hb:ik ps P with
  |true=>
   rw[zJK,if_pos rfl,if_pos rfl];rfl
  |false=>
   rw[zIz,if_neg zAO,lF];have ih:=aFZ (w:=w) (t:=t) (b:=b) O low L Ps (R++[du ps P]) (.sh (tupI P)) (.nw (.lst ((cC ps P).map .int))) (λ Q hQ=>hP Q (zAH _ hQ)) (by rw[zA1,zBY];lia);rw[zB6]at ih;exact ih
def aJx(Q:Ow n qs)(eC:∀p∈qs,p.1<p.2)(hc:dY [owD n qs,.tup (ps.map pD)]= .ok .non)(O:Ow n ps)(low:∀p∈ps,p.1<p.2):
  aQ [owD n qs,.tup (ps.map pD)]=if (aq n (dbl ps)).any (ik ps)=true then .ex "NoParting" else .ok (.tup ((gw ((aq n (dbl ps)).map (du ps))).map tupI)):=by
 have st:bG 7 [owD n qs,.tup (ps.map pD)]=[.sh (owD n qs),.sh (.tup (ps.map pD)),.no,.no,.no,.no,.no]:=rfl;obtain⟨ll,e1,N,L⟩:=uP O;have hpl:(aq n (dbl ps)).length<=60:=aAS O.n0 O.n1;have c0:pX (aU dC (aC (aD 0) aG)) [.sh (owD n qs),.sh (.tup (ps.map pD)),.no,.no,.no,.no,.no]= .nx [.sh (owD n qs),.sh (.tup (ps.map pD)),.no,.no,.no,.no,.no]:=by simp[n6 Q eC]
 have c1:pX (aU dY (aC (aD 0) (aC (aD 1) aG))) [.sh (owD n qs),.sh (.tup (ps.map pD)),.no,.no,.no,.no,.no]= .nx [.sh (owD n qs),.sh (.tup (ps.map pD)),.no,.no,.no,.no,.no]:=by simp[hc]
 have c2:cP 2 (cH (aC (op2 ixD (aD 0) (cD (.int 0))) (aC (aD 1) aG))) [.sh (owD n qs),.sh (.tup (ps.map pD)),.no,.no,.no,.no,.no]= .nx [.sh (owD n qs),.sh (.tup (ps.map pD)),.sh (owD n ps),.no,.no,.no,.no]:=by simp[owD]
 have c3:cP 3 (aU dZ (aC (aD 2) aG)) [.sh (owD n qs),.sh (.tup (ps.map pD)),.sh (owD n ps),.no,.no,.no,.no]= .nx [.sh (owD n qs),.sh (.tup (ps.map pD)),.sh (owD n ps),.sh (.lst (ll.map .lst)),.no,.no,.no]:=by simp[e1]
 have c4:jT 4 (gq aG) [.sh (owD n qs),.sh (.tup (ps.map pD)),.sh (owD n ps),.sh (.lst (ll.map .lst)),.no,.no,.no]= .nx (xE (owD n qs) (.tup (ps.map pD)) (owD n ps) ll [] .no .no):=by simp
 have hi:cF (aU uT (aC (aD 2) aG)) (xE (owD n qs) (.tup (ps.map pD)) (owD n ps) ll [] .no .no)= .ok ((aq n (dbl ps)).map tupI):=by simp[aI6 O low]
 have lp:=aFZ (w:=owD n qs) (t:=.tup (ps.map pD)) (b:=owD n ps) O low L (aq n (dbl ps)) [] .no .no (λ P h=>h) (by simp;lia);simp only[aQ,cQ,bT,st];rw[aN,c0,aa,aN,c1,aa,aN,c2,aa,aN,c3,aa,aN,c4,aa,aN,dJ,hi,bF];by_cases hb:(aq n (dbl ps)).any (ik ps)=true
 .rw[if_pos hb]at lp ⊢
  rw[lp];rfl
 .rw[if_neg hb]at lp ⊢
  obtain⟨s5,s6,e⟩:=lp;rw[e,aa,zCU,fG,eQ,bC,eQ,bC];have hv:jM 4 (xE (owD n qs) (.tup (ps.map pD)) (owD n ps) ll ((aq n (dbl ps)).map (du ps)) s5 s6)= .ok (.lst (((aq n (dbl ps)).map (du ps)).map tupI)):=rfl;have hso:jo [.lst (((aq n (dbl ps)).map (du ps)).map tupI)]= .ok (.lst ((gw ((aq n (dbl ps)).map (du ps))).map tupI)):=uX (λ r hr=>by
   obtain⟨P,hP,rfl⟩:=zA3.mp hr;have hbP:ik ps P=false:=by
    cases z:ik ps P with
    |false=>rfl
    |true=>exact absurd (zBO.mpr ⟨P,hP,z⟩) hb
   exact(aAz O low hP hbP).2.1) (by rw[zAD];lia)
  rw[hv,aR,fu,aR,aR,hso,cB,aR,aR,aR,xN,cB,bF]
def aIn(ws:List Int):pN [tupI ws,.tup (ws.map .int).reverse]= .ok (tupI (vB ws)):=by
 show pN [.tup (ws.map .int),.tup (ws.map .int).reverse]=_;unfold pN vB;rw[<-List.map_reverse];simp only[gG];split
 .rfl
 .rfl
def aDC(hn:∀r∈rws,r≠[])(hl:rws.length<64):lO [.lst (rws.map tupI)]= .ok (aB0 rws):=by
 have st:bG 1 [.lst (rws.map tupI)]=[.sh (.lst (rws.map tupI))]:=rfl;have e:=aIV (Y:=[.sh (.lst (rws.map tupI))]) (fi:=cF (aD 0)) (fe:=opA pN (aC (aD 0) (aC (op1 aBV (aD 0)) aG))) rws (by simp[shE,m9]) (λ ws=>by
  have:=aIn ws
  have hr:aBV (tupI ws)= .ok (.tup (ws.map .int).reverse):=rfl;simp[hr,this]) hn hl
 have df:gZ=retS (opA eG (aC (opA jo (aC (lcD (cF (aD 0)) [none] (gnm 0) jh (opA pN (aC (aD 0) (aC (op1 aBV (aD 0)) aG)))) aG)) aG)):=rfl;simp only[lO,df,bT,st];rw[fG,e,bF]
abbrev yE(n:Int)(t:D)(ll:fE)(R:gV)(s4 s5 s6 s7:Slot):En:=[.sh (.int n),.sh t,.sh (.lst (ll.map .lst)),.ow (.lst (R.map tupI)),s4,s5,s6,s7]
def aO1(h:Pt n ps P e)(J:Jw ps P e ws)(L:Lx n ps ll)(hl:P.length<=60):duW (yE n t ll R s4 s5 (.sh (tupI ws)) s7)= .nx (yE n t ll R s4 s5 (.sh (tupI (ws++nxt ps ws))) s7):=by
 have hx:=h.inn _ (J.sub _ (zDa J.ne));have hat:=zZ J.ne;have kK:=J.len;have h1:=J.le1 h;have b2:duC (yE n t ll R s4 s5 (.sh (tupI ws)) s7)= .ok (.lst ((nxt ps ws).map .int)):=by
  unfold duC;refine aIh ?_ (.inl rfl) ?_
  .rw[tR J.ne]
   simp only[shE,zAS,zFh,m9,aBj,eU,yN,qC,zX,aR,aCo,cB,zBe,zB0,tU,aLX,hat,L _ hx.1 hx.2,aBk]
  .rw[tR J.ne]
   have:=h.two _ (J.sub _ (zDa J.ne))
   lia
 have A:cR (tupI ws) (.tup ((nxt ps ws).map .int))= .ok (tupI (ws++nxt ps ws)):=by
  have:=aHY (l:=ws.map .int) (m:=(nxt ps ws).map .int) (by simp;lia)
  rw[show tupI (ws++nxt ps ws)= .tup (ws.map .int++(nxt ps ws).map .int)by simp[tupI]];exact this
 have hv:aD 6 (yE n t ll R s4 s5 (.sh (tupI ws)) s7)= .ok (tupI ws):=rfl;rw[duW,qG,eU,hv,aR,eQ,bC,b2,aR,fu,aR,aR,xN,cB,aR,A,cB,bF];rfl
theorem aDY(h:Pt n ps P e)(L:Lx n ps ll)(hl:P.length<=60):∀(ds:List D) {ws:List Int} (s7:Slot),Jw ps P e ws->∃s7',forL (gnm 7) duW ds (yE n t ll R s4 s5 (.sh (tupI ws)) s7)= .nx (yE n t ll R s4 s5 (.sh (tupI (goW ps ds.length ws))) s7')
 |[],ws,s7,J=>⟨s7,rfl⟩
 |d::ds,ws,s7,J=>by
  have hg:okE (gnm 7 d (yE n t ll R s4 s5 (.sh (tupI ws)) s7)) (λ Y1=>(duW Y1).tn (forL (gnm 7) duW ds))=(duW (yE n t ll R s4 s5 (.sh (tupI ws)) (.sh d))).tn (forL (gnm 7) duW ds):=rfl;have J':Jw ps P e (ws++nxt ps ws):=J.goW h 1;obtain⟨s7',e⟩:=aDY h L hl ds (ws:=ws++nxt ps ws) (.sh d) J';refine⟨s7',?_⟩;rw[cG,hg,aO1 h J L hl,lF,e];rfl
def aO2(O:Ow n ps)(L:Lx n ps ll)(h:P∈aq n (dbl ps))(hov:P.any (λ x=>decide (2<dg ps x))=false)(hR:R.length<=100):
  if ik ps P=true then duB (yE n t ll R (.sh (tupI P)) s5 s6 s7)= .rt .non else∃s5' s6' s7',duB (yE n t ll R (.sh (tupI P)) s5 s6 s7)= .nx (yE n t ll (R++[du ps P]) (.sh (tupI P)) s5' s6' s7'):=by
 have hpl:=aCf h O.n1;have a2:=aGA (Y:=yE n t ll R (.sh (tupI P)) s5 s6 s7) (fi:=cF (aD 4)) (js:=[none,some 2]) (P:=P) rfl rfl L (by lia) (pK h);have hbad:ik ps P=(cC ps P).isEmpty:=by unfold ik;rw[hov];rfl
 have hst:duB (yE n t ll R (.sh (tupI P)) s5 s6 s7)=(if (cC ps P).isEmpty=true then Ou.rt .non else(cP 6 (cH (aC (op2 ixD (gn 5) (cD (.int 0))) aG)) (yE n t ll R (.sh (tupI P)) (.nw (.lst ((cC ps P).map .int))) s6 s7)).sq (aj duF (oN 3 (bJ (aD 6))))):=by
  have hq:eqR false (.lst ((cC ps P).map .int)) (.lst [])= .ok (.bl (cC ps P).isEmpty):=aJb _;have t2:tsb (op2 (eqR false) (gn 5) (gq aG)) (yE n t ll R (.sh (tupI P)) (.nw (.lst ((cC ps P).map .int))) s6 s7)= .ok (cC ps P).isEmpty:=by simp[hq]
  rw[duB,aN,qH,a2,bF];show Ou.sq (.nx (yE n t ll R (.sh (tupI P)) (.nw (.lst ((cC ps P).map .int))) s6 s7)) _=_;rw[aa,aN,kI,t2,bF];cases (cC ps P).isEmpty with
  |true=>rw[if_pos rfl,if_pos rfl];rfl
  |false=>rw[if_neg zAO,if_neg zAO,aa,aN]
 rw[hbad,hst];cases h2:(cC ps P).isEmpty with
 |true=>rw[if_pos rfl,if_pos rfl]
 |false=>
  rw[if_neg zAO,if_neg zAO];obtain⟨e,r,he,hp,_⟩:=aBr O h (hbad.trans h2);have hw:du ps P=goW ps (P.length-1) [e]:=by unfold du;rw[he];rfl
  have a3:cP 6 (cH (aC (op2 ixD (gn 5) (cD (.int 0))) aG)) (yE n t ll R (.sh (tupI P)) (.nw (.lst ((cC ps P).map .int))) s6 s7)= .nx (yE n t ll R (.sh (tupI P)) (.nw (.lst ((cC ps P).map .int))) (.sh (tupI [e])) s7):=by
   rw[he];simp
  obtain⟨s7',e4⟩:=aDY (t:=t) (R:=R) (s4:=.sh (tupI P)) (s5:=.nw (.lst ((cC ps P).map .int))) hp L hpl (bW 0 ((P.length:Int)-1)) s7 (Jw.one hp);have hrl:(bW 0 ((P.length:Int)-1)).length=P.length-1:=by rw[jB];lia
  rw[hrl,<-hw]at e4;have hr:=jU (j:=(P.length:Int)-1) (by lia) (by lia);have a4:duF (yE n t ll R (.sh (tupI P)) (.nw (.lst ((cC ps P).map .int))) (.sh (tupI [e])) s7)= .nx (yE n t ll R (.sh (tupI P)) (.nw (.lst ((cC ps P).map .int))) (.sh (tupI (du ps P))) s7'):=by
   have hi:fW jC (aC (op2 aGR (opA fL (aC (aD 4) aG)) (cD (.int 1))) aG) (yE n t ll R (.sh (tupI P)) (.nw (.lst ((cC ps P).map .int))) (.sh (tupI [e])) s7)= .ok (bW 0 ((P.length:Int)-1)):=by
    simp[tupI,hr]
   rw[duF,dJ,hi,bF,e4]
  have gi:nY (tupI (du ps P))= .ok (tupI (du ps P)):=(El.tup (k:=0) El.ints).g;refine⟨.nw (.lst ((cC ps P).map .int)),.sh (tupI (du ps P)),s7',?_⟩;rw[a3,aa,aN,a4,aa]
  show((bJ (aD 6) (yE n t ll R (.sh (tupI P)) (.nw (.lst ((cC ps P).map .int))) (.sh (tupI (du ps P))) s7')).bo λ d=>if (R.map tupI).length<zAX then .nx [.sh (.int n),.sh t,.sh (.lst (ll.map .lst)),.ow (.lst (R.map tupI++[d])),.sh (tupI P),.nw (.lst ((cC ps P).map .int)),.sh (tupI (du ps P)),s7']else .st)=_
  have hv:bJ (aD 6) (yE n t ll R (.sh (tupI P)) (.nw (.lst ((cC ps P).map .int))) (.sh (tupI (du ps P))) s7')= .ok (tupI (du ps P)):=by simp[gi]
  rw[hv,bF,if_pos (by rw[szl,zAD];lia)];simp[zAk]
theorem aGC(O:Ow n ps)(L:Lx n ps ll):∀(Ps:gV) (R:gV) (s4 s5 s6 s7:Slot),(∀P∈Ps,P∈aq n (dbl ps)/\P.any (λ x=>decide (2<dg ps x))=false)->R.length+Ps.length<=100->
  if Ps.any (ik ps)=true then forL (gnm 4) duB (Ps.map tupI) (yE n t ll R s4 s5 s6 s7)= .rt .non else∃s4' s5' s6' s7',forL (gnm 4) duB (Ps.map tupI) (yE n t ll R s4 s5 s6 s7)= .nx (yE n t ll (R++Ps.map (du ps)) s4' s5' s6' s7')
 |[],R,s4,s5,s6,s7,_,_=>by
  rw[if_neg (by simp)];exact⟨s4,s5,s6,s7,by simp⟩
 |P::Ps,R,s4,s5,s6,s7,hP,hl=>by
  rw[zA5]at hl;obtain⟨hp1,hp2⟩:=hP P zAE;have h1:=aO2 (t:=t) (R:=R) (s5:=s5) (s6:=s6) (s7:=s7) O L hp1 hp2 (by lia);have hg:okE (gnm 4 (tupI P) (yE n t ll R s4 s5 s6 s7)) (λ Y1=>(duB Y1).tn (forL (gnm 4) duB (Ps.map tupI)))=(duB (yE n t ll R (.sh (tupI P)) s5 s6 s7)).tn (forL (gnm 4) duB (Ps.map tupI)):=rfl;rw[zAS,cG,hg,zE0];cases hb:ik ps P with
  |true=>
   rw[hb,if_pos rfl]at h1;rw[zJK,if_pos rfl,h1];rfl
  |false=>
   rw[hb,if_neg zAO]at h1;obtain⟨s5',s6',s7',e⟩:=h1;rw[zIz,e,lF];have ih:=aGC (t:=t) O L Ps (R++[du ps P]) (.sh (tupI P)) s5' s6' s7' (λ Q hQ=>hP Q (zAH _ hQ)) (by rw[zA1,zBY];lia);rw[zB6]at ih;exact ih
def aEd(O:Ow n ps)(low:∀p∈ps,p.1<p.2):jg [.int n,.tup (ps.map pD)]=if (aq n (dbl ps)).any (ik ps)=true then .ok .non else .ok (.tup ((gw ((aq n (dbl ps)).map (du ps))).map tupI)):=by
 have st:bG 8 [.int n,.tup (ps.map pD)]=[.sh (.int n),.sh (.tup (ps.map pD)),.no,.no,.no,.no,.no,.no]:=rfl;obtain⟨ll,e1,_,L⟩:=tQ O;have hn0:=O.n0;have hn1:=O.n1;have hpl:(aq n (dbl ps)).length<=60:=aAS O.n0 O.n1;have hr:=jU (j:=n) (by lia) (by lia);have ht:cH (aC (aD 0) (aC (aD 1) aG)) [.sh (.int n),.sh (.tup (ps.map pD)),.no,.no,.no,.no,.no,.no]= .ok (owD n ps):=by simp[owD]
 have c1:cP 2 (aU gQ (aC (cH (aC (aD 0) (aC (aD 1) aG))) aG)) [.sh (.int n),.sh (.tup (ps.map pD)),.no,.no,.no,.no,.no,.no]= .nx [.sh (.int n),.sh (.tup (ps.map pD)),.sh (.lst (ll.map .lst)),.no,.no,.no,.no,.no]:=by
  rw[qG,iG,bC,ht,aR,fu,aR,aR,e1,bF];rfl
 have c2:duO [.sh (.int n),.sh (.tup (ps.map pD)),.sh (.lst (ll.map .lst)),.no,.no,.no,.no,.no]= .ok ((upI n).any λ x=>decide (2<dg ps x)):=by
  have a1:lcD (fW jC (aC (aD 0) aG)) [none,some 2] (gnm 0) (tsb (op2 gtD (opA fL (aC (op2 ixD (aD 1) (aD 0)) aG)) (cD (.int 2)))) (bJ (aD 0)) [.sh (.int n),.sh (.tup (ps.map pD)),.sh (.lst (ll.map .lst)),.no,.no,.no,.no,.no]= .ok (.lst (((upI n).filter λ x=>decide (2<dg ps x)).map .int)):=by
   refine jO (ds:=(upI n).map .int) (by simp[shE,m9,hr,aBT]) (by rw[zAD,iK];lia) ?_;refine jV (f:=D.int) (g:=D.int) (upI n) λ x hx=>⟨[.sh (.int x),.sh (.lst (ll.map .lst))],rfl,?_,by simp⟩
   rw[uV,eU,aEu L (gF.mp hx),aR,zX,aR,aFr,cB,aR,zY]
  have hq:=pU ((upI n).filter λ x=>decide (2<dg ps x));rw[duO,uV,eU,a1,aR,aFg,fu,aR,if_pos (by simp),aR,hq,cB,aR,zY];congr 1;rw[zCE];simp[zBO,List.filter_eq_nil_iff]
 simp only[jg,jc,bT,st];rw[aN,c1,aa,aN,kI,c2,bF];cases hov:(upI n).any λ x=>decide (2<dg ps x)with
 |true=>
  obtain⟨x,hx,hd⟩:=zBO.mp hov;obtain⟨x0,x1⟩:=gF.mp hx;obtain⟨P,hP,hxP⟩:=aI8 (ps:=ps) x0 x1
  have:(aq n (dbl ps)).any (ik ps)=true:=zBO.mpr ⟨P,hP,by
   unfold ik;rw[zDm];exact .inl (zBO.mpr ⟨x,hxP,hd⟩)⟩
  rw[if_pos rfl,if_pos this];rfl
 |false=>
  rw[if_neg zAO,aa];have hP:∀P∈aq n (dbl ps),P∈aq n (dbl ps)/\P.any (λ x=>decide (2<dg ps x))=false:=λ P h=>⟨h,by
   rw[zF5]at hov ⊢;exact λ x hx=>hov x (gF.mpr (pK h x hx))⟩
  have c3:jT 3 (gq aG) [.sh (.int n),.sh (.tup (ps.map pD)),.sh (.lst (ll.map .lst)),.no,.no,.no,.no,.no]= .nx (yE n (.tup (ps.map pD)) ll [] .no .no .no .no):=by simp
  have hi:cF (aU jK (aC (cH (aC (aD 0) (aC (aD 1) aG))) aG)) (yE n (.tup (ps.map pD)) ll [] .no .no .no .no)= .ok ((aq n (dbl ps)).map tupI):=by
   have ht:cH (aC (aD 0) (aC (aD 1) aG)) (yE n (.tup (ps.map pD)) ll [] .no .no .no .no)= .ok (owD n ps):=by simp[owD]
   rw[aBj,iG,bC,ht,aR,fu,aR,aR,aBf O,aR,aBk]
  have lp:=aGC (t:=.tup (ps.map pD)) O L (aq n (dbl ps)) [] .no .no .no .no hP (by simp;lia);rw[aN,c3,aa,aN,dJ,hi,bF];by_cases hb:(aq n (dbl ps)).any (ik ps)=true
  .rw[if_pos hb]at lp ⊢
   rw[lp];rfl
  .rw[if_neg hb]at lp ⊢
   obtain⟨s4,s5,s6,s7,e⟩:=lp;have good:∀P∈aq n (dbl ps),ik ps P=false:=λ P hP=>by
    cases z:ik ps P with
    |false=>rfl
    |true=>exact absurd (zBO.mpr ⟨P,hP,z⟩) hb
   have hl:=aDC (rws:=(aq n (dbl ps)).map (du ps)) (λ r hr=>by
    obtain⟨P,hP,rfl⟩:=zA3.mp hr;exact(aAz O low hP (good P hP)).2.1) (by rw[zAD];lia)
   have hm:((aq n (dbl ps)).map (du ps)).map vB=(aq n (dbl ps)).map (du ps):=by
    rw[zAz];exact zCT λ P hP=>(aAz O low hP (good P hP)).1
   have hv:jM 3 (yE n (.tup (ps.map pD)) ll ((aq n (dbl ps)).map (du ps)) s4 s5 s6 s7)= .ok (.lst (((aq n (dbl ps)).map (du ps)).map tupI)):=rfl;rw[e,aa,zCU,fG,iG,bC,hv,aR,fu,aR,aR,hl,bF,aB0,hm]
def pl(p:Int×Int):List Int:=[p.1,p.2]
def hp(p:Int×Int):Int:=hsh (pl p)
def aAy:gX:=(zAm 10).flatMap λ(i:Nat)=>((zAm 10).filter λ j=>decide (i<j)).map λ(j:Nat)=>((i:Int),(j:Int))
def aAw(h0:0<=p.1)(h1:p.1<p.2)(h2:p.2<10):p∈aAy:=by
 unfold aAy;rw[zE8];refine⟨p.1.toNat,by simp;lia,?_⟩;rw[zA3];refine⟨p.2.toNat,?_,?_⟩
 .rw[zAn]
  exact⟨by simp;lia,by simp;lia⟩
 .have e1:((p.1.toNat:Nat):Int)=p.1:=zCV h0
  have e2:((p.2.toNat:Nat):Int)=p.2:=zCV (by lia);rw[e1,e2]
def aDQ:List Int:=[(-1950498447580522560),7204814214171964562,(-4734289103435588629),1773351652666409796,(-3119722376306286570),(-1010439003188656273),(-5903513032161352639),604127723940645786,(-4288946305032050580),(-3550055125485641917),(-1440771752368011620),(-6333845781340707986),173794974761290439,(-4719279054211405927),(-2609995681093775630),3897645075008222795,(-995428953964473571),8409376899596376432,3516302870623680066,(-8422800446983873125),(-6313517073866242828),7240152970870612422,(-4698950346736940769),8854719697999914481,1079245023883434373,7586885779985432798,(-4352217537622120393),4803095124130366729,(-7136008193477186462),6417661851259668788,(-1009709641759730766),1099573731357899531,(-3793500297614796835),2714140458487201590,(-2178933570485494776),(-7007623702649218251),(-499982946547219826),6007657809554778599,1114583780582082233,1461316589696902609,3570599962814532906,(-1322474066158163460),(-5025995458930630658),8527674585806224592,6090616739065978899]
set_option maxRecDepth 1000000 in
def aAx:aAy.map hp=aDQ:=by decide+kernel
set_option maxRecDepth 1000000 in
def aDP:aDQ.Nodup:=by decide+kernel
def aHX:aAy.length=45:=by rw[<-zAD (f:=hp),aAx];rfl
theorem aAU:∀{L:List α},(L.map f).Nodup->∀x∈L,∀y∈L,f x=f y->x=y
 |a::L,h,x,hx,y,hy,e=>by
  rw[zAS,zBT]at h;rcases zAJ.mp hx with q|q
  .rcases zAJ.mp hy with z|z
   .rw[q,z]
   .subst q
    exact absurd (zA3.mpr ⟨y,z,e.symm⟩) h.1
  .rcases zAJ.mp hy with z|z
   .subst z
    exact absurd (zA3.mpr ⟨x,q,e⟩) h.1
   .exact aAU h.2 x q y z e
def aE1(ps:gX):(ps.map pl).map tupI=ps.map pD:=by rw[zAz];rfl
def aIW(h:pl p=pl q):p=q:=by
 unfold pl at h;injection h with h1 h2
 injection h2 with h2 _
 exact zHy h1 h2
def aGP(ps:gX):m8 (ps.map pD)=some (ps.map pl):=by
 rw[<-aE1];exact qy λ ns h=>by
  obtain⟨p,_,rfl⟩:=zA3.mp h;simp[pl]
def aOS{ps:gX}(h:∀p∈ps,p∈aAy):aLc (ps.map pl)=true:=by
 unfold aLc;rw[zA8];intro a ha;rw[zA8];intro b hb;obtain⟨p,hp1,rfl⟩:=zA3.mp ha;obtain⟨q,hq1,rfl⟩:=zA3.mp hb;by_cases e:hsh (pl p)=hsh (pl q)
 .have:=aAU (f:=hp) (by rw[aAx];exact aDP) p (h p hp1) q (h q hq1) e
  subst this;simp
 .have:(hsh (pl p)!=hsh (pl q))=true:=by simpa using e
  rw[this,zHP]
theorem zU:∀(l acc:gV),(acc.Nodup->(l.foldl (λ acc x=>if x∈acc then acc else acc++[x]) acc).Nodup)/\((acc++l).Nodup->l.foldl (λ acc x=>if x∈acc then acc else acc++[x]) acc=acc++l)/\∀y,y∈l.foldl (λ acc x=>if x∈acc then acc else acc++[x]) acc↔y∈acc\/y∈l
 |[],acc=>⟨λ h=>h,λ _=>by simp,λ y=>by simp⟩
 |x::l,acc=>by
  rw[zBH];by_cases h:x∈acc
  .rw[if_pos h]
   obtain⟨a,b,c⟩:=zU l acc;refine⟨a,λ nd=>?_,λ y=>?_⟩
   .exact absurd h λ z=>(zBS.mp nd).2.2 x z x zAE rfl
   .rw[c,zAJ]
    constructor
    .rintro(z|z)
     .exact .inl z
     .exact .inr (.inr z)
    .rintro(z|rfl|z)
     .exact .inl z
     .exact .inl h
     .exact .inr z
  .rw[if_neg h]
   obtain⟨a,b,c⟩:=zU l (acc++[x]);refine⟨λ nd=>a (zBS.mpr ⟨nd,by simp,λ y hy z hz e=>?_⟩),λ nd=>?_,λ y=>?_⟩
   .rw[zAV.mp hz]at e;subst e;exact h hy
   .rw[b (by rw[zB6];exact nd),zB6];rfl
   .rw[c,zAd,zAV,zAJ,or_assoc]
def aAk(l:gV):(ddT l).Nodup:=(zU l []).1 zD2
def aO3(h:l.Nodup):ddT l=l:=(zU l []).2.1 h
def aLL:y∈ddT l↔y∈l:=by rw[show(y∈ddT l)=(y∈l.foldl (λ acc x=>if x∈acc then acc else acc++[x]) [])from rfl,(zU l []).2.2];simp
def aNG:qU qs=true↔oH (qs.map pl)/\(qs.map pl).Nodup:=by
 rw[xr];unfold oH zGm;rw[zDY,zDY];constructor
 .intro h
  refine⟨h.imp λ{p q} z=>?_,h.imp λ{p q} z e=>?_⟩
  .exact aFf (tO.mpr z)
  .have:=aIW e
   subst this;lia
 .rintro⟨h1,h2⟩
  refine(h1.and h2).imp λ{p q} z=>?_
  refine tO.mp ?_;show HT.lexLt (pl p) (pl q)=true;cases c:HT.lexLt (pl p) (pl q)with
  |true=>rfl
  |false=>exact absurd (yZ _ _ c z.1) z.2
def aKT(h:oH l):gw l=l:=ur (iM l) (lG l) h
def aKZ(qs:gX):decide (qs.map pl=gw (ddT (qs.map pl)))=qU qs:=by
 rw[zCE,decide_eq_true_eq,aNG];constructor
 .intro e
  constructor
  .rw[e];exact lG _
  .rw[e];exact(iM _).nodup_iff.mpr (aAk _)
 .rintro⟨h1,h2⟩
  rw[aO3 h2,aKT h1]
theorem aAb:∀(a b:gV),iI (a.map tupI) (b.map tupI)=decide (a=b)
 |[],[]=>rfl
 |[],y::b=>by simp[iI]
 |x::a,[]=>by simp[iI]
 |x::a,y::b=>by
  have:=aAb a b
  simp only[zAS,iI,eqD,this,zH1,aAc];by_cases h:x=y<;>simp[h]
def aDZ(a:gV):lD (.lst (a.map tupI))<=60/\bA (.lst (a.map tupI))=true:=by
 have eT:∀d∈a.map tupI,El 1 d:=λ d hd=>by obtain⟨x,_,rfl⟩:=zA3.mp hd;exact .tup .ints
 exact⟨by have:=zT (k:=1) λ d hd=>(eT d hd).e;unfold lD;lia,by unfold bA;exact ux λ d hd=>(eT d hd).n⟩
def aHI(a b:gV):eqR false (.lst (a.map tupI)) (.lst (b.map tupI))= .ok (.bl (decide (a=b))):=by
 obtain⟨h1,h2⟩:=aDZ a;obtain⟨h3,h4⟩:=aDZ b;unfold eqR;rw[if_pos (by simp[h1,h2,h3,h4])];simp[eqD,aAb]
theorem aEv:∀(ks acc:gV) (x:List Int),x∈ks.foldl oX acc↔x∈acc\/x∈ks
 |[],acc,x=>by simp
 |k::ks,acc,x=>by
  rw[zBH,aEv ks];unfold oX;split
  .rename_i h
   obtain⟨y,hy,e⟩:=zBO.mp h;have e':=zDA e;subst e';rw[zAJ];constructor
   .rintro(h1|h1)
    .exact .inl h1
    .exact .inr (.inr h1)
   .rintro(h1|rfl|h1)
    .exact .inl h1
    .exact .inl hy
    .exact .inr h1
  .rw[zAd,zAV,zAJ,or_assoc]
def aHA(ps:gX)(q:Int×Int):(ddL (ps.map pl)).any (·==pl q)=decide (q∈ps):=by
 rw[zCE,zBO,decide_eq_true_eq];constructor
 .rintro⟨x,hx,e⟩
  rcases(aEv (ps.map pl) [] x).mp hx with h|h
  .cases h
  .obtain⟨p,hp,rfl⟩:=zA3.mp h
   rw[<-aIW (zDA e)];exact hp
 .intro h
  exact⟨pl q,(aEv (ps.map pl) [] _).mpr (.inr (zFF h)),beq_self_eq_true _⟩
theorem aFk:∀ps:gX,cU (ps.map λ p=>.tup [pD p,.bl true])=some (ps.map pl)
 |[]=>rfl
 |p::ps=>by
  rw[zAS,zAS];unfold cU;rw[aFk ps];rfl
def aOO(ps:gX)(q:Int×Int):inK true (pD q) (rz (ddL (ps.map pl)))= .ok (.bl (!decide (q∈ps))):=by
 show aOP true (aDH (pD q)) (aAX ((ddL (ps.map pl)).map λ k=>.tup (k.map .int)))=_;rw[vD];show Rs.ok (D.bl (true !=(ddL (ps.map pl)).any (·==pl q)))=_;rw[aHA];cases decide (q∈ps)<;>rfl
def aO4(h1:fi (shE Y)= .ok ds)(h2:ds.length<16777216)(h3:lcL (stE js (shE Y)) fg ft (pairE fk fv) ds= .ok out)(h4:cU out=some ks):dcD fi js fg ft fk fv Y= .ok (rz (ddL ks)):=by
 unfold dcD;rw[h1,aR,if_pos (by rw[szl];exact h2),h3];simp only[h4]
def gW:D->List (Int×Int)
 | .tup ts=>ts.map aEO
 |_=>[]
def ckB(n:Int)(ws:gX)(d:D):Bool:=rpB n d&&(gW d).all λ q=>decide (q.1<q.2)&&decide (q∈ws)
def tD(h:rpB n d=true):d= .tup ((gW d).map pD)/\qU (gW d)=true/\∀q∈gW d,0<=q.1/\q.1<n/\0<=q.2/\q.2<n/\q.1≠q.2:=by
 cases d with
 |tup ts=>
  rw[rpB,zAK]at h;refine⟨by rw[gW,aIU h.1],h.2,λ q hq=>?_⟩;obtain⟨t,ht,rfl⟩:=zA3.mp hq;obtain⟨a,b,rfl,z⟩:=yL (zA8.mp h.1 t ht);exact z
 |_=>cases h
def aD7(hp:pln d=true)(hs:aCV d=true):dG [.int n,d]= .ok (.bl (rpB n d&&(gW d).all λ q=>decide (q.1<q.2))):=by
 have e:=jQ (m:=n) hp hs;have st:bG 2 [.int n,d]=[.sh (.int n),.sh d]:=rfl;have ec:aU bQ (aC (aD 0) (aC (aD 1) aG)) [.sh (.int n),.sh d]= .ok (.bl (rpB n d)):=by rw[iG];exact e
 simp only[dG,gK,bT,st];rw[fG,uO,ec,aR,xG];cases hr:rpB n d with
 |false=>rfl
 |true=>
  obtain⟨ed,_,_⟩:=tD hr;rw[if_pos rfl,zDP];have hl:(gW d).length<=100000:=by
   rw[ed]at hs;simpa[aCV]using hs
  generalize hq:gW d=qs at ed hl ⊢;subst ed;have ei:lcD (cF (aD 1)) [none,none] (fY 2 (bB (gnm 0) (bB (gnm 1) gH))) jh (op2 ltD (aD 0) (aD 1)) [.sh (.int n),.sh (.tup (qs.map pD))]= .ok (.lst (qs.map λ p=>.bl (decide (p.1<p.2)))):=jO (ds:=qs.map pD) (by simp[shE,m9]) (by rw[zAD];lia) (aIw (Y:=[]) qs);rw[aJy ei,bF]
theorem aFl{w t:D}{ws:gX}:∀(qs:gX) (s:Slot),∃s',forL (gnm 3) kdB (qs.map pD) [.sh w,.sh t,.sh (rz (ddL (ws.map pl))),s]=if (qs.all λ q=>decide (q∈ws))=true then .nx [.sh w,.sh t,.sh (rz (ddL (ws.map pl))),s']else .ex "NoParting"
 |[],s=>⟨s,rfl⟩
 |q::qs,s=>by
  obtain⟨s',ih⟩:=aFl (w:=w) (t:=t) (ws:=ws) qs (.sh (pD q));refine⟨s',?_⟩;have hg:okE (gnm 3 (pD q) [.sh w,.sh t,.sh (rz (ddL (ws.map pl))),s]) (λ Y1=>(kdB Y1).tn (forL (gnm 3) kdB (qs.map pD)))=(kdB [.sh w,.sh t,.sh (rz (ddL (ws.map pl))),.sh (pD q)]).tn (forL (gnm 3) kdB (qs.map pD)):=rfl;have ht:tsb (op2 (inK true) (aD 3) (aD 2)) [.sh w,.sh t,.sh (rz (ddL (ws.map pl))),.sh (pD q)]= .ok (!decide (q∈ws)):=by
   show((okD (inK true (pD q) (rz (ddL (ws.map pl))))).bd blD)=_
   rw[aOO,cB,aR,zY]
  rw[zAS,cG,hg,kdB,kI,ht,bF,zFQ];by_cases hq:q∈ws
  .rw[decide_eq_true hq,zCK,if_neg zAO,lF,zDP]
   exact ih
  .rw[decide_eq_false hq,zDC,if_pos rfl,zED,if_neg zAO]
   simp
def qu(W:Ow n ws)(hp:pln d=true)(hs:aCV d=true):dY [owD n ws,d]=if ckB n ws d=true then .ok .non else .ex "NoParting":=by
 have st:bG 4 [owD n ws,d]=[.sh (owD n ws),.sh d,.no,.no]:=rfl;have e1:=aD7 (n:=n) hp hs;have t1:lX (tst (aU dG (aC (op2 ixD (aD 0) (cD (.int 0))) (aC (aD 1) aG)))) [.sh (owD n ws),.sh d,.no,.no]= .ok (!(rpB n d&&(gW d).all λ q=>decide (q.1<q.2))):=by
  have:aU dG (aC (op2 ixD (aD 0) (cD (.int 0))) (aC (aD 1) aG)) [.sh (owD n ws),.sh d,.no,.no]=dG [.int n,d]:=by simp[owD]
  rw[aB9,aBB,this,e1,aR,wY,aR]
 have hck:ckB n ws d=((rpB n d&&(gW d).all λ q=>decide (q.1<q.2))&&(gW d).all λ q=>decide (q∈ws)):=by
  unfold ckB;rw[zEu];congr 1;rw[zCE];simp only[zA8,zAK];exact⟨λ h=>⟨λ q hq=>(h q hq).1,λ q hq=>(h q hq).2⟩,λ h q hq=>⟨h.1 q hq,h.2 q hq⟩⟩
 simp only[dY,fO,bT,st];rw[aN,kI,t1,bF,hck];cases hr:rpB n d&&(gW d).all λ q=>decide (q.1<q.2)with
 |false=>
  rw[zDC,if_pos rfl,zED,if_neg zAO];simp
 |true=>
  rw[zCK,if_neg zAO,aa,zDP];obtain⟨ed,_,_⟩:=tD (Bool.and_eq_true_iff.mp hr).1;have hwl:=W.len;have k1:kdC [.sh (owD n ws),.sh d,.no,.no]= .ok (rz (ddL (ws.map pl))):=aO4 (ds:=ws.map pD) (out:=ws.map λ p=>.tup [pD p,.bl true]) (by simp[shE,m9,owD]) (by rw[zAD];lia) (vC ws λ p _=>⟨[.sh (pD p)],rfl,by
   have gi:nY (pD p)= .ok (pD p):=nW rfl;unfold pairE;simp[gi]⟩) (aFk ws)
  obtain⟨s',lp⟩:=aFl (w:=owD n ws) (t:=d) (ws:=ws) (gW d) .no;have hi:cF (aD 1) [.sh (owD n ws),.sh d,.sh (rz (ddL (ws.map pl))),.no]= .ok ((gW d).map pD):=by
   show itD d=_
   conv=>lhs;rw[ed]
   rfl
  rw[aN,qG,k1,bF]
  show(match (Ou.nx [.sh (owD n ws),.sh d,.sh (rz (ddL (ws.map pl))),.no]).sq _ with
   | .nx _=>Rs.ok D.non
   | .rt d=>.ok d
   | .ex c=>.ex c
   |_=>.st)=_
  rw[aa,dJ,hi,bF,lp];cases (gW d).all λ q=>decide (q∈ws)with
  |true=>rw[if_pos rfl,if_pos rfl]
  |false=>rw[if_neg zAO,if_neg zAO]
def aAa(h:eqD (.int a) x=true):x= .int a\/pP x=true:=by
 cases x with
 |int i=>simp[eqD]at h;exact .inl (by rw[h])
 |bl b=>exact .inr rfl
 |_=>simp[eqD]at h
def aDL{l:List D}{ws:gX}(h:inD (.tup l) (ws.map pD)=true):∃x y p,l=[x,y]/\p∈ws/\(x= .int p.1\/pP x=true)/\(y= .int p.2\/pP y=true):=by
 unfold inD at h;rw[zHV,zBO]at h;obtain⟨p,hp,e⟩:=h;simp only[zGK,pD,eqD]at e
 match l,e with
 |[x,y],e=>
  simp only[iI,zAK]at e;exact⟨x,y,p,rfl,hp,aAa e.1,aAa e.2.1⟩
 |[],e=>simp[iI]at e
 |[x],e=>simp[iI]at e
 |x::y::z::l,e=>simp[iI]at e
def lgI(ws:gX)(t:D):Bool:=jz t&&inD t (ws.map pD)
def lgX(t:D):Bool:=match t with
 | .tup [x,y]=>!(pP x||pP y)
 |_=>true
def aNx{t:D}{ws:gX}(h1:lgI ws t=true)(h2:lgX t=true):∃p∈ws,t=pD p:=by
 unfold lgI at h1;rw[zAK]at h1;obtain⟨l,rfl⟩:=sV h1.1;obtain⟨x,y,p,rfl,hp,hx,hy⟩:=aDL h1.2;simp only[lgX,zCw,zHZ]at h2;rcases hx with rfl|hx
 .rcases hy with rfl|hy
  .exact⟨p,hp,rfl⟩
  .rw[h2.2]at hy;cases hy
 .rw[h2.1]at hx;cases hx
structure Lk(d:D):Prop where
 p:pln d=true
 s:aCV d=true
 l:∀ts,d= .tup ts->ts.length<=1000/\∀t∈ts,bA t=true
def aM4(h:bA t=true)(ws:gX):inR false t (.tup (ws.map pD))= .ok (.bl (inD t (ws.map pD))):=by
 obtain⟨h1,h2⟩:=vN ws;have h3:decide (fj (ws.map pD)<=60)=true:=by simp;lia
 unfold inR;dsimp only;rw[h2,h3,h];rfl
def aJn(W:Ow n ws)(low:∀p∈ws,p.1<p.2)(h:∀q∈qs,q∈ws):ckB n ws (.tup (qs.map pD))=qU qs:=by
 have e1:(qs.map pD).map aEO=qs:=by rw[zAz];exact(zCT λ q _=>rfl).trans (zGN qs)
 have e2:(qs.map pD).all (jD n)=true:=by
  rw[zHU,zA8];intro q hq;obtain⟨a,b,c,d,e⟩:=W.pr q (h q hq);simp[zGK,pD,jD,a,b,c,d,e]
 have e3:(qs.all λ q=>decide (q.1<q.2)&&decide (q∈ws))=true:=zA8.mpr λ q hq=>by simp[low q (h q hq),h q hq]
 unfold ckB rpB gW;dsimp only;rw[e1,e2,e3,zDP,zEZ]
def aDE(W:Ow n ws)(low:∀p∈ws,p.1<p.2)(h12:n<=10)(K:Lk d)(h63:∀ts,d= .tup ts->ts.length<64):fC [owD n ws,d]= .ok (.bl (ckB n ws d)):=by
 have st:bG 3 [owD n ws,d]=[.sh (owD n ws),.sh d,.no]:=rfl;cases ht:jz d with
 |false=>
  have hck:ckB n ws d=false:=by
   unfold ckB
   have:rpB n d=false:=by cases d<;>first|rfl|(cases ht)
   rw[this,zED]
  have t1:orT (lX (tst (op1 (jy "tuple") (aD 1)))) (lX (tst (opA (oO λ bs=>bs.all id) (aC lgC aG)))) [.sh (owD n ws),.sh d,.no]= .ok true:=by
   simp[mJ (qK K.p),ht]
  simp only[fC,gJ,bT,st];rw[aN,kI,t1,bF,if_pos rfl,hck];rfl
 |true=>
  obtain⟨ts,rfl⟩:=sV ht;obtain⟨hl,hnd⟩:=K.l ts rfl;have hkn:∀t∈ts,knd t=true:=λ t h=>qK (yI (by simpa[pln]using K.p) h)
  have c1:lgC [.sh (owD n ws),.sh (.tup ts),.no]= .ok (.lst (ts.map λ t=>.bl (lgI ws t))):=by
   refine jO (ds:=ts.map id) (by simp[shE,m9]) (by simp;lia) ?_;refine vC (f:=id) ts λ t h=>⟨[.sh t,.sh (owD n ws)],rfl,?_⟩
   have a0:aD 0 [.sh t,.sh (owD n ws)]= .ok t:=rfl;have a1:op2 ixD (aD 1) (cD (.int 1)) [.sh t,.sh (owD n ws)]= .ok (.tup (ws.map pD)):=by simp[owD]
   rw[uO,yN,a0,aR,mJ (hkn t h),cB,aR,xG,eU,a0,aR,a1,aR,aM4 (hnd t h),cB,lgI];cases jz t<;>rfl
  have t1:orT (lX (tst (op1 (jy "tuple") (aD 1)))) (lX (tst (opA (oO λ bs=>bs.all id) (aC lgC aG)))) [.sh (owD n ws),.sh (.tup ts),.no]= .ok (!ts.all (lgI ws)):=by
   rw[aNa,aB9,aBB,yN]
   show((((jy "tuple" (.tup ts) |> okD).bd aGQ).bd λ k=>Rs.ok (!k)).bd λ k=>if k=true then Rs.ok true else _)=_
   rw[aAC,cB,aR,wY,aR,aR,zCK,if_neg zAO,aB9,aBB,aJy c1,aR,wY,aR]
  simp only[fC,gJ,bT,st];rw[aN,kI,t1,bF];have eK:ckB n ws (.tup ts)=true->(∀t∈ts,lgI ws t=true/\lgX t=true):=λ h t hm=>by
   unfold ckB at h;rw[zAK]at h;obtain⟨ed,_,_⟩:=tD h.1;have hm2:t∈(gW (.tup ts)).map pD:=by rw[<-D.tup.inj ed];exact hm
   obtain⟨q,hq,rfl⟩:=zA3.mp hm2;have hw:=zA8.mp h.2 q hq;simp only[zAK,decide_eq_true_eq]at hw;refine⟨?_,rfl⟩;unfold lgI
   have:=aJP false q ws
   rw[aM4 rfl]at this;have e:=D.bl.inj (Rs.ok.inj this);rw[e];simp[hw.2,pD,jz]
  cases ha:ts.all (lgI ws)with
  |false=>
   have hck:ckB n ws (.tup ts)=false:=by
    cases z:ckB n ws (.tup ts)with
    |false=>rfl
    |true=>rw[zA8.mpr λ t h=>(eK z t h).1]at ha;cases ha
   rw[zDC,if_pos rfl,hck];rfl
  |true=>
   rw[zCK,if_neg zAO,aa,aN,dJ];have hi:cF (aD 1) [.sh (owD n ws),.sh (.tup ts),.no]= .ok ts:=by simp
   rw[hi,bF];have lp:=aJ4 (a:=gnm 2) (u:=lgB) (r:=.bl false) (I:=λ Y=>∃s,Y=[.sh (owD n ws),.sh (.tup ts),s]) (P:=lgX) ts [.sh (owD n ws),.sh (.tup ts),.no] ⟨_,rfl⟩ (by
    rintro t hm Y ⟨s,rfl⟩;have h1:=zA8.mp ha t hm;unfold lgI at h1;rw[zAK]at h1;obtain⟨l,rfl⟩:=sV h1.1;obtain⟨x,y,p,rfl,hp,hx,hy⟩:=aDL h1.2;have hg:okE (gnm 2 (.tup [x,y]) [.sh (owD n ws),.sh (.tup ts),s]) lgB=lgB [.sh (owD n ws),.sh (.tup ts),.sh (.tup [x,y])]:=rfl;have kx:knd x=true:=by
     rcases hx with rfl|hx
     .rfl
     .cases x<;>first|rfl|(cases hx)
    have ky:knd y=true:=by
     rcases hy with rfl|hy
     .rfl
     .cases y<;>first|rfl|(cases hy)
    rw[hg];have hb:orT (tst (op1 (jy "bool") (op2 ixD (aD 2) (cD (.int 0))))) (tst (op1 (jy "bool") (op2 ixD (aD 2) (cD (.int 1))))) [.sh (owD n ws),.sh (.tup ts),.sh (.tup [x,y])]= .ok (pP x||pP y):=by
     simp[yr kx,yr ky];cases pP x<;>rfl
    cases hxy:pP x||pP y with
    |true=>
     refine .inr ⟨by simp[lgX,hxy],?_⟩;rw[lgB,kI,hb,hxy];rfl
    |false=>
     refine .inl ⟨by simp only[lgX,hxy];rfl,[.sh (owD n ws),.sh (.tup ts),.sh (.tup [x,y])],?_,_,rfl⟩;rw[lgB,kI,hb,hxy];rfl)
   rcases lp with ⟨hx,Y',e,s,rfl⟩|⟨hx,e⟩
   .have oQ:∀t∈ts,∃p∈ws,t=pD p:=λ t h=>aNx (zA8.mp ha t h) (zA8.mp hx t h)
    obtain⟨qs,hqs,hqw⟩:∃qs:gX,ts=qs.map pD/\∀q∈qs,q∈ws:=by
     refine⟨ts.map aEO,?_,λ q hq=>?_⟩
     .rw[zAz]
      conv=>lhs;rw[<-zGN ts]
      exact zCT λ t h=>by obtain⟨p,_,rfl⟩:=oQ t h;rfl
     .obtain⟨t,h,rfl⟩:=zA3.mp hq
      obtain⟨p,hp,rfl⟩:=oQ t h;exact hp
    subst hqs;have h12':∀q∈qs,q∈aAy:=λ q hq=>by
     have:=W.pr q (hqw q hq)
     exact aAw this.1 (low q (hqw q hq)) (by lia)
    have hz:=h63 _ rfl;rw[zAD]at hz;have hss:sY [.tup (qs.map pD)]= .ok (.lst ((gw (ddT (qs.map pl))).map tupI)):=by
     have hlt:=sub_len (l':=qs.map pl) (aAk (qs.map pl)) λ x hx=>aLL.mp hx
     rw[zAD]at hlt;show jm 64 (qs.map pD)=_;unfold jm;rw[aGP];dsimp only;rw[if_pos ⟨zC2 hlt hz,aOS h12'⟩]
    rw[e,aa,fG,eU,eQ,eQ,bC];have hv:aD 1 [.sh (owD n ws),.sh (.tup (qs.map pD)),s]= .ok (.tup (qs.map pD)):=rfl;rw[hv,aR,fu,aR,aR,aGr,cB,aR,aR,hss,cB,aR,<-aE1,aHI,cB,bF,aKZ,aE1,aJn W low hqw]
   .have hck:ckB n ws (.tup ts)=false:=by
     cases z:ckB n ws (.tup ts)with
     |false=>rfl
     |true=>rw[zA8.mpr λ t h=>(eK z t h).2]at hx;cases hx
    rw[e,hck];rfl
def Ow.sub(W:Ow n ws)(h:∀q∈qs,q∈ws)(hr:qU qs=true):Ow n qs where
 n0:=W.n0
 n1:=W.n1
 len:=by
  have nd:qs.Nodup:=(xr.mp hr).imp λ{a b} q e=>by subst e;lia
  exact zAl (sub_len nd h) W.len
 pr:=λ q hq=>W.pr q (h q hq)
 ris:=hr
def aPg(W:Ow n ws)(low:∀p∈ws,p.1<p.2)(K:Lk d)(h:ckB n ws d=false):aQ [owD n ws,d]= .ex "NoParting":=by
 have st:bG 7 [owD n ws,d]=[.sh (owD n ws),.sh d,.no,.no,.no,.no,.no]:=rfl;have e1:=qu W K.p K.s;rw[h,if_neg zAO]at e1;have c0:pX (aU dC (aC (aD 0) aG)) [.sh (owD n ws),.sh d,.no,.no,.no,.no,.no]= .nx [.sh (owD n ws),.sh d,.no,.no,.no,.no,.no]:=by simp[n6 W low]
 have c1:pX (aU dY (aC (aD 0) (aC (aD 1) aG))) [.sh (owD n ws),.sh d,.no,.no,.no,.no,.no]= .ex "NoParting":=by simp[e1]
 simp only[aQ,cQ,bT,st];rw[aN,c0,aa,aN,c1];rfl
def both(W:Ow n ws)(low:∀p∈ws,p.1<p.2)(h10:n<=10)(K:Lk d)(h63:∀ts,d= .tup ts->ts.length<64):
  (fC [owD n ws,d]= .ok (.bl false)/\aQ [owD n ws,d]= .ex "NoParting")\/(fC [owD n ws,d]= .ok (.bl true)/\jg [.int n,d]= .ok .non/\aQ [owD n ws,d]= .ex "NoParting")\/
  ∃rws:gV,fC [owD n ws,d]= .ok (.bl true)/\jg [.int n,d]= .ok (.tup (rws.map tupI))/\aQ [owD n ws,d]= .ok (.tup (rws.map tupI)):=by
 have g:=aDE W low (by lia) K h63;cases hc:ckB n ws d with
 |false=>exact .inl ⟨by rw[g,hc],aPg W low K hc⟩
 |true=>
  have hk:=qu W K.p K.s;rw[hc,if_pos rfl]at hk;have hc':=hc;unfold ckB at hc';rw[zAK]at hc';obtain⟨ed,hr,_⟩:=tD hc'.1;have hq:∀q∈gW d,q∈ws:=λ q hm=>by
   have:=zA8.mp hc'.2 q hm
   simp only[zAK,decide_eq_true_eq]at this;exact this.2
  have O:=W.sub hq hr;have eC:∀p∈gW d,p.1<p.2:=λ p hp=>low p (hq p hp)
  generalize gW d=qs at*;subst ed;have e1:=aEd O eC;have e2:=aJx W low hk O eC;by_cases hb:(aq n (dbl qs)).any (ik qs)=true
  .rw[if_pos hb]at e1 e2
   exact .inr (.inl ⟨by rw[g,hc],e1,e2⟩)
  .rw[if_neg hb]at e1 e2
   exact .inr (.inr ⟨_,by rw[g,hc],e1,e2⟩)
def aJ9(rws:gV):eqR true (.tup (rws.map tupI)) (.tup (rws.map tupI))= .ok (.bl false):=by
 have eT:∀d∈rws.map tupI,El 1 d:=λ d hd=>by obtain⟨x,_,rfl⟩:=zA3.mp hd;exact .tup .ints
 have q:=El.tup eT;exact aJa true (zAl q.e (by lia)) q.n
structure Sm(qs:gX):Prop where
 len:qs.length<=60
 inn:∀q∈qs,0<=q.1/\q.1<=60/\0<=q.2/\q.2<=60
theorem El.pD(p:Int×Int):El (k+1) (pD p):=.tup λ d hd=>by
 simp only[zAJ,zAg,or_false]at hd;rcases hd with rfl|rfl<;>exact .int
def Lk.of(h:∀t∈ts,pln t=true/\bA t=true)(hl:ts.length<=1000):Lk (.tup ts):=⟨by unfold pln;exact w6 λ d hd=>(h d hd).1,by simp[aCV];lia,λ us e=>by cases e;exact⟨hl,λ t ht=>(h t ht).2⟩⟩
def Lk.pairs{qs:gX}(hl:qs.length<=1000):Lk (.tup (qs.map pD)):=.of (λ t ht=>by
 obtain⟨q,_,rfl⟩:=zA3.mp ht;exact⟨(El.pD (k:=0) q).p,(El.pD (k:=0) q).n⟩) (by rw[zAD];exact hl)
def Lk.no(h:pln d=true)(ht:jz d=false):Lk d:=⟨h,by cases d<;>first|rfl|(cases ht),λ ts e=>by subst e;cases ht⟩
def Ll(d:D):Prop:=Lk d/\∀ts,d= .tup ts->ts.length<64
def aGS(h0:0<=i)(h1:i<=60):aCR [.int i]= .ok (.str (zEB i)):=by
 unfold aCR;dsimp only;rw[if_pos]
 have:=Nat.log2_le_self i.natAbs
 lia
def uv(qs:gX):qY (qs.map pD)=true:=qO λ d hd=>by obtain⟨q,_,rfl⟩:=zA3.mp hd;rfl
def mL(l:List D)(h:qY l=true):nY (.tup l)= .ok (.tup l):=nW (by unfold imm;exact h)
abbrev oE(c n:Int)(ws qs:gX)(s3 s4 s5 s6:Slot):En:=[.sh (.int c),.sh (owD n ws),.sh (.tup (qs.map pD)),s3,s4,s5,s6]
def yo(S:Sm qs):∃d,mW [.int c,owD n ws,.tup (qs.map pD)]= .ok d/\Ll d:=by
 have st:bG 7 [.int c,owD n ws,.tup (qs.map pD)]=(oE c n ws qs .no .no .no .no):=rfl;have hl:=S.len;obtain⟨r,er,hr⟩:=iy (c:=c) (k:=8000) (b:=(qs.length:Int)+1) (by lia) (by lia) (by lia) (by lia);obtain⟨o,rest,ho,hoi⟩:∃(o:Int×Int) (rest:gX),qs++[(0,1)]=o::rest/\0<=o.1/\o.1<=60/\0<=o.2/\o.2<=60:=by
  cases qs with
  |nil=>exact⟨(0,1),[],rfl,by decide⟩
  |cons q qs=>exact⟨q,qs++[(0,1)],rfl,S.inn q zAE⟩
 have c3:cP 3 (aU az (aC (aD 0) (aC (cD (.int 8000)) (aC (op2 cR (opA fL (aC (aD 2) aG)) (cD (.int 1))) aG)))) (oE c n ws qs .no .no .no .no)= .nx (oE c n ws qs (.sh (.int r)) .no .no .no):=by
  simp[er]
 have A:cR (.tup (qs.map pD)) (.tup [pD (0,1)])= .ok (.tup (pD o::rest.map pD)):=by
  rw[aHY (by simp;lia)]
  have:=congrArg (zJB pD) ho
  rw[zAk]at this;exact congrArg (λ l=>Rs.ok (D.tup l)) this
 have c4:cP 4 (op2 ixD (op2 cR (aD 2) (cH (aC (cH (aC (cD (.int 0)) (aC (cD (.int 1)) aG))) aG))) (cD (.int 0))) (oE c n ws qs (.sh (.int r)) .no .no .no)= .nx (oE c n ws qs (.sh (.int r)) (.sh (pD o)) .no .no):=by
  have:cR (.tup (qs.map pD)) (.tup [.tup [.int 0,.int 1]])= .ok (.tup (pD o::rest.map pD)):=A
  simp[this,-uQ]
 have hs:=aGS hoi.2.2.1 hoi.2.2.2;obtain⟨os,e5,los,hos⟩:∃os:List D,odL (oE c n ws qs (.sh (.int r)) (.sh (pD o)) .no .no)= .ok (.lst os)/\os.length=8/\∀t∈os,pln t=true/\bA t=true:=by
  refine⟨[.tup [.int o.2,.int o.1],.tup [.int 0,.int n],.tup [.bl true,.int o.2],.lst [.int o.1,.int o.2],.non,.tup [.int 0],.int 0,.tup [.int o.1,.str (zEB o.2)]],?_,rfl,λ t ht=>?_⟩
  .have g1:nY (pD o)= .ok (pD o):=nW rfl
   have g2:nY (.tup [.int o.1])= .ok (.tup [.int o.1]):=nW rfl;have g3:cutD [.int o.1,.int o.2] none (some 1)=[.int o.1]:=rfl;have g4:nY (.tup [.int o.1,.int o.2])= .ok (.tup [.int o.1,.int o.2]):=nW rfl;unfold odL;simp[pD,owD,hs,g2,g3,g4]
  .simp only[zAJ,zAg,or_false]at ht
   rcases ht with rfl|rfl|rfl|rfl|rfl|rfl|rfl|rfl<;>exact⟨rfl,rfl⟩
 obtain⟨r1,er1,hr1⟩:=iy (c:=c) (k:=8001) (b:=8) (by lia) (by lia) (by lia) (by lia);obtain⟨x,ex,hx,_⟩:=sG (l:=os) (i:=(r1:Int)) (by lia) (by rw[los];lia);have hrl:r<=(qs.map pD).length:=by rw[zAD];lia
 have e6:odW (oE c n ws qs (.sh (.int r)) (.sh (pD o)) (.nw (.lst os)) .no)= .ok (.tup ((qs.map pD).take r++[x]++(qs.map pD).drop r)):=by
  have g1:nY (.tup ((qs.map pD).take r))= .ok (.tup ((qs.map pD).take r)):=mL _ (qO λ d hd=>tV (uv qs) (zDe hd));have g2:nY (.tup ((qs.map pD).drop r))= .ok (.tup ((qs.map pD).drop r)):=mL _ (qO λ d hd=>tV (uv qs) (zEs hd));have a1:cR (.tup ((qs.map pD).take r)) (.tup [x])= .ok (.tup ((qs.map pD).take r++[x])):=aHY (by simp;lia);have a2:cR (.tup ((qs.map pD).take r++[x])) (.tup ((qs.map pD).drop r))= .ok (.tup ((qs.map pD).take r++[x]++(qs.map pD).drop r)):=aHY (by simp;lia);have k1:cutD (qs.map pD) none (some (r:Int))=(qs.map pD).take r:=aGE hrl;have k2:cutD (qs.map pD) (some (r:Int)) none=(qs.map pD).drop r:=aAo hrl;unfold odW oE;simp only[eU,aBo,uY,qC,aKL,aCl,aCk,aR,zBe,zB0,aFN,cB,k1,k2,g1,g2,aKN,bC,fu,iG,zX,er1,tU,ex,zA5,zC6,a1,a2];simp[a1,a2,-uQ]
 have e7:odT (oE c n ws qs (.sh (.int r)) (.sh (pD o)) (.nw (.lst os)) .no)= .ok (.tup ((qs++qs.take 1).map pD)):=by
  have g1:=mL _ (uv qs);have k1:cutD (qs.map pD) none (some 1)=(qs.take 1).map pD:=by
   cases qs with
   |nil=>rfl
   |cons q qs=>exact aGE (l:=(q::qs).map pD) (k:=1) (by simp)
  have g2:=mL _ (uv (qs.take 1));have a1:cR (.tup (qs.map pD)) (.tup ((qs.take 1).map pD))= .ok (.tup ((qs++qs.take 1).map pD)):=by
   rw[aHY (by simp;lia),zAk]
  unfold odT;simp only[eU,aBo,uY,qC,aCl,aCk,zX,aR,zBe,zB0,aFN,cB,k1,g1,g2,a1]
 have g1:=mL _ (uv qs);have g3:nY (.tup (qs.map pD).reverse)= .ok (.tup (qs.map pD).reverse):=mL _ (qO λ d hd=>tV (uv qs) (zE9.mp hd));let R:List D:=[.tup ((qs.map pD).take r++[x]++(qs.map pD).drop r),.tup ((qs++qs.take 1).map pD),.lst (qs.map pD),.non,.tup [.tup []],.int 0,.tup (qs.map pD).reverse];obtain⟨r2,er2,hr2⟩:=iy (c:=c) (k:=8002) (b:=10) (by lia) (by lia) (by lia) (by lia);obtain⟨j,ej,hj⟩:∃j:Nat,odJ (oE c n ws qs (.sh (.int r)) (.sh (pD o)) (.nw (.lst os)) (.ow (.lst R)))= .ok (.int j)/\j<7:=by
  obtain⟨y,ey,hy,_⟩:=sG (l:=[0,0,0,1,2,3,4,5,6,6].map λ k:Nat=>D.int k) (i:=(r2:Int)) (by lia) (by simp;lia);obtain⟨j,hj,rfl⟩:=zA3.mp hy;refine⟨j,?_,?_⟩
  .have ey':atD [.int 0,.int 0,.int 0,.int 1,.int 2,.int 3,.int 4,.int 5,.int 6,.int 6] (r2:Int)= .ok (.int j):=ey
   unfold odJ;simp[er2,ey']
  .simp only[zAJ,zAg,or_false]at hj
   lia
 obtain⟨d,ed,hd,_⟩:=sG (l:=R) (i:=(j:Int)) (by lia) (by show(j:Int)<7;lia);refine⟨d,?_,?_⟩
 .have c5:uc 5 odL (oE c n ws qs (.sh (.int r)) (.sh (pD o)) .no .no)= .nx (oE c n ws qs (.sh (.int r)) (.sh (pD o)) (.nw (.lst os)) .no):=by rw[qH,e5,bF];rfl
  have c6:jT 6 (gq (aC odW (aC odT (aC (opA v6 (aC (bJ (aD 2)) aG)) (aC (cD .non) (aC (cH (aC (cH aG) aG)) (aC (cD (.int 0)) aG))))))) (oE c n ws qs (.sh (.int r)) (.sh (pD o)) (.nw (.lst os)) .no)= .nx (oE c n ws qs (.sh (.int r)) (.sh (pD o)) (.nw (.lst os)) (.ow (.lst [.tup ((qs.map pD).take r++[x]++(qs.map pD).drop r),.tup ((qs++qs.take 1).map pD),.lst (qs.map pD),.non,.tup [.tup []],.int 0]))):=by
   rw[aFR,aFg,bC,e6,aR,bC,e7];simp[g1,-zAk]
  have c7:oN 6 (bJ (op1 aBV (aD 2))) (oE c n ws qs (.sh (.int r)) (.sh (pD o)) (.nw (.lst os)) (.ow (.lst [.tup ((qs.map pD).take r++[x]++(qs.map pD).drop r),.tup ((qs++qs.take 1).map pD),.lst (qs.map pD),.non,.tup [.tup []],.int 0])))= .nx (oE c n ws qs (.sh (.int r)) (.sh (pD o)) (.nw (.lst os)) (.ow (.lst R))):=by
   have hv:bJ (op1 aBV (aD 2)) (oE c n ws qs (.sh (.int r)) (.sh (pD o)) (.nw (.lst os)) (.ow (.lst [.tup ((qs.map pD).take r++[x]++(qs.map pD).drop r),.tup ((qs++qs.take 1).map pD),.lst (qs.map pD),.non,.tup [.tup []],.int 0])))= .ok (.tup (qs.map pD).reverse):=by
    simp only[aBo,yN,qC,zBe,zB0,aR,aHz,cB,g3]
   unfold oN;simp only[zBe,zB0];rw[hv,bF,if_pos (by rw[szl];simp)];rfl
  simp only[mW,jb,bT,st];rw[aN,c3,aa,aN,c4,aa,aN,c5,aa,aN,c6,aa,aN,c7,aa,fG,eU];have hv:oR 6 (oE c n ws qs (.sh (.int r)) (.sh (pD o)) (.nw (.lst os)) (.ow (.lst R)))= .ok (.lst R):=rfl;rw[hv,aR,ej,aR,tU,ed,cB,bF]
 .have hq:∀t∈qs.map pD,pln t=true/\bA t=true:=λ t ht=>by
   obtain⟨q,_,rfl⟩:=zA3.mp ht;exact⟨(El.pD (k:=0) q).p,(El.pD (k:=0) q).n⟩
  simp only[R,zAJ,zAg,or_false]at hd;rcases hd with rfl|rfl|rfl|rfl|rfl|rfl|rfl
  .refine⟨.of (λ t ht=>?_) (by simp;lia),λ us e=>?_⟩
   .rcases zAd.mp ht with z|z
    .rcases zAd.mp z with z|z
     .exact hq t (zDe z)
     .rw[zAV.mp z];exact hos x hx
    .exact hq t (zEs z)
   .cases e
    simp;lia
  .exact⟨.pairs (by simp;lia),λ us e=>by cases e;simp;lia⟩
  .exact⟨.no (by unfold pln;exact w6 λ d hd=>(hq d hd).1) rfl,λ us e=>by cases e⟩
  .exact⟨.no rfl rfl,λ us e=>by cases e⟩
  .exact⟨.of (λ t ht=>by rw[zAV.mp ht];exact⟨rfl,rfl⟩) (by simp),λ us e=>by cases e;simp⟩
  .exact⟨.no rfl rfl,λ us e=>by cases e⟩
  .exact⟨.of (λ t ht=>hq t (zE9.mp ht)) (by simp;lia),λ us e=>by cases e;simp;lia⟩
def aOA{s0 s1:Slot}{ws:List Int}(hw:ws≠[])(hl:ws.length<10000)(hs1:m9 s1=m9 s1):laL [s0,s1,.sh (tupI ws)]= .ok (.lst ((iJ ws).map tupI)):=by
 refine jO (aMg hw (i:=2) (Y:=shE [s0,s1,.sh (tupI ws)]) rfl) ?_ (aKO λ p=>⟨[.sh (.int p.1),.sh (.int p.2)],?_,?_⟩)
 .rw[zAD,zDn]
  lia
 .show fY 2 (bB (gnm 0) (bB (gnm 1) gH)) (pD p) [.no,.no]=_
  simp[pD]
 .simp[mn,mx]
theorem aFi{w:Slot}:∀(rws:gV) (acc:gV) (s:Slot),(∀r∈rws,r≠[])->acc.length+rws.flatten.length<10000->
  ∃s',forL (gnm 2) laE (rws.map tupI) [w,.ow (.lst (acc.map tupI)),s]= .nx [w,.ow (.lst ((acc++rws.flatMap iJ).map tupI)),s']
 |[],acc,s,_,_=>⟨s,by simp⟩
 |r::rws,acc,s,hn,h=>by
  rw[zBd,zA1]at h;have hr:=xO r;obtain⟨s',e⟩:=aFi (w:=w) rws (acc++iJ r) (.sh (tupI r)) (λ x hx=>hn x (zAH _ hx)) (by rw[zA1];lia);refine⟨s',?_⟩;have b:laE [w,.ow (.lst (acc.map tupI)),.sh (tupI r)]= .nx [w,.ow (.lst ((acc++iJ r).map tupI)),.sh (tupI r)]:=by
   have hv:=aOA (s0:=w) (s1:=.ow (.lst (acc.map tupI))) (hn r zAE) (by lia) rfl
   show((laL [w,.ow (.lst (acc.map tupI)),.sh (tupI r)]).bo (aLl (acc.map tupI) λ l=>.nx [w,.ow (.lst l),.sh (tupI r)]))=_
   rw[hv,bF];unfold aLl;dsimp only;rw[if_pos (by rw[szl,zAD,zAD];lia),zAk]
  rw[zAS,cG,aEq,yR]
  show(laE [w,.ow (.lst (acc.map tupI)),.sh (tupI r)]).tn _=_
  rw[b,lF,e,zF6,zB6]
def aBg{rws:gV}(hn:∀r∈rws,r≠[])(hz:rws.flatten.length<64):jL [.tup (rws.map tupI)]= .ok (aFC rws):=by
 have st:bG 3 [.tup (rws.map tupI)]=[.sh (.tup (rws.map tupI)),.no,.no]:=rfl;obtain⟨s',e⟩:=aFi (w:=.sh (.tup (rws.map tupI))) rws [] .no hn (by simp only[zC6];lia);rw[zCU]at e;have c1:jT 1 (gq aG) [.sh (.tup (rws.map tupI)),.no,.no]= .nx [.sh (.tup (rws.map tupI)),.ow (.lst []),.no]:=by simp
 have hi:cF (aD 0) [.sh (.tup (rws.map tupI)),.ow (.lst []),.no]= .ok (rws.map tupI):=by simp
 have e':forL (gnm 2) laE (rws.map tupI) [.sh (.tup (rws.map tupI)),.ow (.lst []),.no]= .nx [.sh (.tup (rws.map tupI)),.ow (.lst ((rws.flatMap iJ).map tupI)),s']:=e;simp only[jL,gh,bT,st];rw[aN,c1,aa,aN,dJ,hi,bF,e',aa];have hd:jM 1 [.sh (.tup (rws.map tupI)),.ow (.lst ((rws.flatMap iJ).map tupI)),s']= .ok (.lst ((rws.flatMap iJ).map tupI)):=rfl;rw[fG,eQ,bC,eQ,bC,hd];simp[aGU rws hz,aFC]
def aD8(P:Pq n es [] rws)(hn:n<=60)(h0:0<=n):∃qs,jL [.tup (rws.map tupI)]= .ok (.tup (qs.map pD))/\Sm qs:=by
 have hpm:=P.pm;rw[zBC]at hpm;have hfl:rws.flatten.length=n.toNat:=by rw[hpm.length_eq,iK]
 have hin:∀r∈rws,∀x∈r,0<=x/\x<n:=λ r hr x hx=>gF.mp (hpm.mem_iff.mp (List.mem_flatten.mpr ⟨r,hr,hx⟩))
 have hT:∀t∈rws.flatMap iJ,∃a b:Int,t=[a,b]/\0<=a/\a<=60/\0<=b/\b<=60:=λ t ht=>by
  obtain⟨r,hr,ht⟩:=zE8.mp ht;obtain⟨p,hp,rfl⟩:=zA3.mp ht;have h1:=hin r hr p.1 (zCG hp).1;have h2:=hin r hr p.2 (zEs (zCG hp).2);rcases aLJ p.1 p.2 with z|z<;>exact⟨_,_,rfl,by rw[z.1];lia,by rw[z.1];lia,by rw[z.2];lia,by rw[z.2];lia⟩
 have hS:∀t∈gw (rws.flatMap iJ),∃a b:Int,t=[a,b]/\0<=a/\a<=60/\0<=b/\b<=60:=λ t ht=>hT t ((iM _).mem_iff.mp ht)
 have kK:∀rws:gV,(rws.flatMap iJ).length<=rws.flatten.length:=by
  intro rws;induction rws with
  |nil=>exact zAQ _
  |cons r rws ih=>
   rw[zF6,zBd,zA1,zA1]
   have:=xO r
   lia
 refine⟨(gw (rws.flatMap iJ)).map λ l=>(l.getD 0 0,l.getD 1 0),?_,?_,λ q hq=>?_⟩
 .rw[aBg P.ne (by lia),aFC,zAz]
  refine congrArg (λ l=>Rs.ok (D.tup l)) (zCT λ t ht=>?_);obtain⟨a,b,rfl,_⟩:=hS t ht;rfl
 .rw[zAD,(iM _).length_eq]
  have:=kK rws
  lia
 .obtain⟨t,ht,rfl⟩:=zA3.mp hq
  obtain⟨a,b,rfl,z⟩:=hS t ht;exact z
def aM3:ixD (owD n ws) (.int 0)= .ok (.int n):=rfl
def aJI:ixD (owD n ws) (.int 1)= .ok (.tup (ws.map pD)):=rfl
abbrev kE(ns:List Int)(k c n:Int)(ws:gX)(s4 s5 s6 s7 s8 s9:Slot):En:=[.sh (.scr ns),.sh (.int k),.sh (.int c),.sh (owD n ws),s4,s5,s6,s7,s8,s9]
abbrev lE(ns:List Int)(k c n:Int)(ws:gX)(a s:D)(s6 s7 s8 s9:Slot):En:=(kE ns k c n ws (.sh a) (.sh s) s6 s7 s8 s9)
def aP6(W:Ow n ws)(low:∀p∈ws,p.1<p.2)(h10:n<=10)(h:Ll d):∃t7 t8,lT (lE ns k c n ws a s (.sh d) s7 s8 s9)= .nx (lE ns k c n ws a s (.sh d) t7 t8 s9):=by
 have hR:∀s7:Slot,aQ [owD n ws,d]= .ex "NoParting"->zu wdN "told" (aU aQ (aC (aD 3) (aC (aD 6) aG))) (lE ns k c n ws a s (.sh d) s7 s8 s9)= .ok (.str "parting"):=λ s7 e=>aEI (c:="NoParting") (by
  show aU aQ (aC (aD 3) (aC (aD 6) aG)) (kE ns k c n ws (.sh a) (.sh s) (.sh d) (shS s7) (shS s8) (shS s9))=_;simp[e]) rfl
 have q1:eqR true (.str "parting") (.str "parting")= .ok (.bl false):=rfl;have q2:isD false .non .non= .ok (.bl true):=rfl;rcases both W low h10 h.1 h.2 with ⟨g,e⟩|⟨g,e1,e⟩|⟨rws,g,e1,e⟩
 .refine⟨.sh .non,s8,?_⟩
  unfold lT;simp[g,hR _ e,q1,q2]
 .refine⟨.sh .non,s8,?_⟩
  unfold lT;simp[g,e1,hR _ e,q1,q2,aM3]
 .refine⟨.sh (.tup (rws.map tupI)),.sh (.tup (rws.map tupI)),?_⟩
  have q3:isD false (.tup (rws.map tupI)) .non= .ok (.bl false):=rfl;have q4:=aJ9 rws;unfold lT;simp[g,e1,e,q3,q4,aM3]
def aOm(W:Ow n ws):∃qs,w4 (kE ns k c n ws s4 s5 s6 s7 s8 s9)= .ok (.tup (qs.map pD))/\Sm qs:=by
 obtain⟨ll,e1,N,hz⟩:=aDD W;obtain⟨rws,e2,P⟩:=aAB (c:=c) (a:=5000) (w:=.tup (ws.map pD)) (by lia) (by lia) W.n0 W.n1 N hz;obtain⟨qs,e3,S⟩:=aD8 P W.n1 W.n0;refine⟨qs,?_,S⟩;have e2':iH [.int c,.int 5000,owD n ws,.lst (ll.map .lst)]= .ok (.tup (rws.map tupI)):=e2;unfold w4;simp[e1,e2',e3]
def drB(c:Int)(p:Int×Int):Bool:=match az [.int c,.int (6000+61*p.1+p.2),.int 4]with
 | .ok (.int r)=>r==0
 |_=>false
def aOl(W:Ow n ws):w5 (kE ns k c n ws s4 s5 s6 s7 s8 s9)= .ok (.tup ((ws.filter (drB c)).map pD)):=by
 have hl:=W.len;unfold w5;rw[eQ,bC,jO (ds:=ws.map pD) (out:=(ws.filter (drB c)).map pD) (by simp[shE,m9,aJI]) (by rw[zAD];lia) ?_]
 .simp
 refine jV (f:=pD) (g:=pD) ws λ p hp=>⟨[.sh (pD p),.sh (.int c)],rfl,?_,?_⟩
 .have h1:=W.pr p hp
  have hn:=W.n1;obtain⟨r,er,_⟩:=iy (c:=c) (k:=6000+61*p.1+p.2) (b:=4) (by lia) (by lia) (by lia) (by lia);have m1:lC (.int 61) (.int p.1)= .ok (.int (61*p.1)):=yV (by decide) (by decide);have hd:drB c p=((r:Int)==0):=by unfold drB;rw[er]
  rw[hd];simp[pD,m1,er]
 .have gi:nY (pD p)= .ok (pD p):=nW rfl
  simp[gi]
def aOB:lI2 Y= .nx Y:=by
 have h:zu wdN "told" (aU aQ (aC (cH (aC (cD (.int 2)) (aC (cH (aC (cH (aC (cD (.int 1)) (aC (cD (.int 0)) aG))) aG)) aG))) (aC (cH aG) aG))) Y= .ok (.str "web"):=aEI (c:="NoWeb") (by
  have:aQ [.tup [.int 2,.tup [.tup [.int 1,.int 0]]],.tup []]= .ex "NoWeb":=by kernel_rfl
  simp[this]) rfl
 have q1:eqR true (.str "web") (.str "web")= .ok (.bl false):=rfl;unfold lI2;simp[h,q1]
def aNu(h:0<=k):∃t2 t3 t4 t5 t6 t7 t8,lwK [.sh (.scr ns),.sh (.int k),s2,s3,s4,s5,s6,s7,s8,.no]= .nx [.sh (.scr ns),.sh (.int k),t2,t3,t4,t5,t6,t7,t8,.no]:=by
 obtain⟨c,ec⟩:=aLs (ns:=ns) h;obtain⟨n,ws,ew,W,low,h10⟩:=aEb (c:=c) (most:=10) (by lia);have ew':jf [.int c,.int 10]= .ok (owD n ws):=ew;obtain⟨as,e4,SA⟩:=aOm (ns:=ns) (k:=k) (c:=c) (s4:=s4) (s5:=s5) (s6:=s6) (s7:=s7) (s8:=s8) (s9:=.no) W;have e5:=aOl (ns:=ns) (k:=k) (c:=c) (s4:=.sh (.tup (as.map pD))) (s5:=s5) (s6:=s6) (s7:=s7) (s8:=s8) (s9:=.no) W;have hws:ws.length<=45:=by
  have:=sub_len (aCh W) λ p hp=>aAw (W.pr p hp).1 (low p hp) (by have:=W.pr p hp;lia)
  rwa [aHX]at this
 have SW:Sm (ws.filter (drB c)):=⟨by have:=zCF (drB c) ws;lia,λ q hq=>by
  have:=W.pr q (zAn.mp hq).1
  lia⟩
 obtain⟨d1,o1,L1⟩:=yo (c:=c) (n:=n) (ws:=ws) SA;obtain⟨d2,o2,L2⟩:=yo (c:=c+1) (n:=n) (ws:=ws) SW;have lp:=aBq (a:=gnm 6) (u:=lT) (I:=λ Y=>∃t6 t7 t8,Y=lE ns k c n ws (.tup (as.map pD)) (.tup ((ws.filter (drB c)).map pD)) t6 t7 t8 .no) [.tup (as.map pD),.tup ((ws.filter (drB c)).map pD),.tup (ws.map pD),.tup [],d1,d2] (lE ns k c n ws (.tup (as.map pD)) (.tup ((ws.filter (drB c)).map pD)) s6 s7 s8 .no) ⟨s6,s7,s8,rfl⟩ (by
  rintro d hd Y ⟨t6,t7,t8,rfl⟩;have hL:Ll d:=by
   simp only[zAJ,zAg,or_false]at hd;have hA:=SA.len;have hW:=SW.len;rcases hd with rfl|rfl|rfl|rfl|rfl|rfl
   .exact⟨.pairs (by lia),λ us e=>by cases e;simp;lia⟩
   .exact⟨.pairs (by lia),λ us e=>by cases e;rw[zAD];lia⟩
   .exact⟨.pairs (by lia),λ us e=>by cases e;simp;lia⟩
   .exact⟨.pairs (qs:=[]) (by simp),λ us e=>by cases e;simp⟩
   .exact L1
   .exact L2
  obtain⟨t7',t8',e⟩:=aP6 (ns:=ns) (k:=k) (c:=c) (a:=.tup (as.map pD)) (s:=.tup ((ws.filter (drB c)).map pD)) (s7:=t7) (s8:=t8) (s9:=.no) W low h10 hL;exact⟨_,e,_,_,_,rfl⟩)
 obtain⟨Y',el,t6,t7,t8,rfl⟩:=lp;have hi:lTh (lE ns k c n ws (.tup (as.map pD)) (.tup ((ws.filter (drB c)).map pD)) s6 s7 s8 .no)= .ok [.tup (as.map pD),.tup ((ws.filter (drB c)).map pD),.tup (ws.map pD),.tup [],d1,d2]:=by
  unfold lTh;simp[o1,o2,aJI]
 refine⟨.sh (.int c),.sh (owD n ws),.sh (.tup (as.map pD)),.sh (.tup ((ws.filter (drB c)).map pD)),t6,t7,t8,?_⟩;have c2:cP 2 (aU dq (aC (aD 0) (aC (aD 1) aG))) [.sh (.scr ns),.sh (.int k),s2,s3,s4,s5,s6,s7,s8,.no]= .nx [.sh (.scr ns),.sh (.int k),.sh (.int c),s3,s4,s5,s6,s7,s8,.no]:=by simp[ec]
 have c3:cP 3 (aU jf (aC (aD 2) (aC (cD (.int 10)) aG))) [.sh (.scr ns),.sh (.int k),.sh (.int c),s3,s4,s5,s6,s7,s8,.no]= .nx (kE ns k c n ws s4 s5 s6 s7 s8 .no):=by simp[ew']
 have c4:cP 4 w4 (kE ns k c n ws s4 s5 s6 s7 s8 .no)= .nx (kE ns k c n ws (.sh (.tup (as.map pD))) s5 s6 s7 s8 .no):=by rw[qG,e4,bF];rfl
 have c5:cP 5 w5 (kE ns k c n ws (.sh (.tup (as.map pD))) s5 s6 s7 s8 .no)= .nx (lE ns k c n ws (.tup (as.map pD)) (.tup ((ws.filter (drB c)).map pD)) s6 s7 s8 .no):=by rw[qG,e5,bF];rfl
 rw[lwK,aN,c2,aa,aN,c3,aa,aN,c4,aa,aN,c5,aa,aN,dJ,hi,bF,el,aa,aOB]
def aIx(ns:List Int)(hl:ns.length<=63):aKE [.scr ns]= .ok (.bl true):=by
 have st:bG 10 [.scr ns]=[.sh (.scr ns),.no,.no,.no,.no,.no,.no,.no,.no,.no]:=rfl;let m:Int:=if (if (8:Int)<ns.length then(8:Int)else ns.length)>1 then(if (8:Int)<ns.length then(8:Int)else ns.length)else 1
 have hm:1<=m/\m<=8:=by
  show 1<=(if (if (8:Int)<ns.length then(8:Int)else ns.length)>1 then(if (8:Int)<ns.length then(8:Int)else ns.length)else 1)/\(if (if (8:Int)<ns.length then(8:Int)else ns.length)>1 then(if (8:Int)<ns.length then(8:Int)else ns.length)else 1)<=8;split<;>split<;>lia
 have hr:=jU (j:=m) (by lia) (by lia);have hR:lwR [.sh (.scr ns),.no,.no,.no,.no,.no,.no,.no,.no,.no]= .ok (bW 0 m):=by
  rw[<-hr];unfold lwR;simp[m]
 obtain⟨Y',el,t1,t2,t3,t4,t5,t6,t7,t8,rfl⟩:=aBq (a:=gnm 1) (u:=lwK) (I:=λ Y=>∃t1 t2 t3 t4 t5 t6 t7 t8,Y=[.sh (.scr ns),t1,t2,t3,t4,t5,t6,t7,t8,.no]) (bW 0 m) [.sh (.scr ns),.no,.no,.no,.no,.no,.no,.no,.no,.no] ⟨.no,.no,.no,.no,.no,.no,.no,.no,rfl⟩ (by
  rintro d hd Y ⟨t1,t2,t3,t4,t5,t6,t7,t8,rfl⟩;obtain⟨k,rfl,k0,_⟩:=aCq.mp hd;obtain⟨u2,u3,u4,u5,u6,u7,u8,e⟩:=aNu (ns:=ns) (s2:=t2) (s3:=t3) (s4:=t4) (s5:=t5) (s6:=t6) (s7:=t7) (s8:=t8) k0;exact⟨_,e,_,_,_,_,_,_,_,_,rfl⟩)
 simp only[aKE,aAn,bT,st];rw[aN,dJ,hR,bF,el,aa,aN];have c9:lw9 [.sh (.scr ns),t1,t2,t3,t4,t5,t6,t7,t8,.no]= .nx [.sh (.scr ns),t1,t2,t3,t4,t5,t6,t7,t8,.sh (owD 3 [(0,1),(0,2),(1,2)])]:=by
  unfold lw9;simp[owD,pD]
 have z1:aQ [owD 3 [(0,1),(0,2),(1,2)],.tup ([(0,1),(0,2),(1,2)].map pD)]= .ex "NoParting":=by kernel_rfl
 have z2:aQ [.tup [.int 0,.tup []],.tup []]= .ok (.tup []):=by kernel_rfl
 have r1:zu wdN "told" (aU aQ (aC (aD 9) (aC (op2 ixD (aD 9) (cD (.int 1))) aG))) [.sh (.scr ns),t1,t2,t3,t4,t5,t6,t7,t8,.sh (owD 3 [(0,1),(0,2),(1,2)])]= .ok (.str "parting"):=aEI (c:="NoParting") (by
  show aU aQ (aC (aD 9) (aC (op2 ixD (aD 9) (cD (.int 1))) aG)) [.sh (.scr ns),shS t1,shS t2,shS t3,shS t4,shS t5,shS t6,shS t7,shS t8,.sh (owD 3 [(0,1),(0,2),(1,2)])]=_;rw[iG,bC,bC,eU];show aQ [owD 3 [(0,1),(0,2),(1,2)],.tup ([(0,1),(0,2),(1,2)].map pD)]=_;exact z1) rfl
 have q1:eqR false (.str "parting") (.str "parting")= .ok (.bl true):=rfl;have q2:eqR false (.tup []) (.tup [])= .ok (.bl true):=rfl;rw[c9,aa,fG];unfold lwZ;simp[r1,q1,z2,q2]
local macro_rules|`(tactic|walk_at "sc")=>`(tactic|exact⟨rfl,rfl,rfl,by decide+kernel,rfl,by decide+kernel,by decide+kernel⟩)
def top(i:Nat):Stmt:=PySem.Challenge.pw_fewways_k06_partings_by_ties.main.body.getD i (.Pass ⟨0,0,0,0⟩)
abbrev rG:Stmt:=top 16
abbrev uo:Stmt:=top 17
abbrev rJ:Stmt:=top 18
abbrev um:Stmt:=top 19
abbrev pH:Stmt:=top 20
abbrev gC:Stmt:=top 21
abbrev rM:Stmt:=top 22
abbrev xq:Stmt:=top 23
abbrev pI:Stmt:=top 24
abbrev rN:Stmt:=top 25
abbrev pA:Stmt:=top 26
abbrev lU:Stmt:=top 27
abbrev aBS:Stmt:=top 28
abbrev nH:Stmt:=top 30
abbrev rC:Stmt:=top 31
abbrev jN:Stmt:=top 32
abbrev lW:Stmt:=top 34
abbrev rF:Stmt:=top 35
abbrev ug:Stmt:=top 36
abbrev rD:Stmt:=top 37
abbrev pC:Stmt:=top 38
abbrev nG:Stmt:=top 39
abbrev pB:Stmt:=top 40
abbrev pG:Stmt:=top 41
abbrev pF:Stmt:=top 42
abbrev lV:Stmt:=top 43
abbrev ul:Stmt:=top 44
abbrev uh:Stmt:=top 45
abbrev rE:Stmt:=top 46
abbrev qb:Stmt:=top 47
def aC2:aY ["thing"] ["thing"] (aJ rG):=by walk_at "sc"
def aEA:aY ["thing"] ["thing"] (aJ uo):=by walk_at "sc"
def aC3:aY ["many","thing"] ["many","thing"] (aJ rJ):=by walk_at "sc"
def aDz:aY ["many","thing"] ["many","thing"] (aJ um):=by walk_at "sc"
def aBQ:aY ["things","at"] ["things"] (aJ pH):=by walk_at "sc"
def qT:aY ["many","thing","pair"] ["many","thing"] (aJ gC):=by walk_at "sc"
def aC4:aY ["many","thing"] ["many","thing"] (aJ rM):=by walk_at "sc"
def aG1:aY ["thing"] ["thing"] (aJ xq):=by walk_at "sc"
def aBR:aY ["thing"] ["thing"] (aJ pI):=by walk_at "sc"
def aC5:aY ["web","many","ties","near","low","high"] ["web"] (aJ rN):=by walk_at "sc"
def aBL:aY ["near","start","part","at","place","other"] ["near","start"] (aJ pA):=by walk_at "sc"
def xg:aY ["near","places","found","seen","place","part","other"] ["near","places"] (aJ lU):=by walk_at "sc"
def aHs:aY ["web"] ["web"] (aJ aBS):=by walk_at "sc"
def zr:aY ["web","thing","known","tie"] ["web","thing"] (aJ nH):=by walk_at "sc"
def aCY:aY ["near","end","way","ahead"] ["near","end"] (aJ rC):=by walk_at "sc"
def uf:aY ["web","ties","bare","near","ways","part","ends"] ["web","ties"] (aJ jN):=by walk_at "sc"
def xn:aY ["_law_script","_law_k"] ["_law_script","_law_k"] (aJ lW):=by walk_at "sc"
def aC1:aY ["_law_cell","_law_k","_law_bound","_law_left","_law_j","_law_stir"] ["_law_cell","_law_k","_law_bound"] (aJ rF):=by walk_at "sc"
def aDw:aY ["_law_cell","_law_most","_law_many","_law_thick","_law_ties","_law_one","_law_other"] ["_law_cell","_law_most"] (aJ ug):=by walk_at "sc"
def aCZ:aY ["_law_web_here","_law_found","_law_one","_law_other"] ["_law_web_here"] (aJ rD):=by walk_at "sc"
def aBN:aY ["_law_web_here","_law_least","_law_turn","_law_one","_law_other"] ["_law_web_here"] (aJ pC):=by walk_at "sc"
def zq:aY ["_law_cell","_law_at","_law_web_here","_law_nigh","_law_left","_law_found","_law_way","_law_far","_law_turn","_law_some"] ["_law_cell","_law_at","_law_web_here","_law_nigh"] (aJ nG):=by walk_at "sc"
def aBM:aY ["_law_parting"] ["_law_parting"] (aJ pB):=by walk_at "sc"
def aBP:aY ["_law_parting","_law_found","_law_way"] ["_law_parting"] (aJ pG):=by walk_at "sc"
def aBO:aY ["_law_error","_law_kinds","_law_words"] ["_law_error"] (aJ pF):=by walk_at "sc"
def xm:aY ["_law_call","_law_word","_law_error"] ["_law_call"] (aJ lV):=by walk_at "sc"
def aDy:aY ["_law_many","_law_ties","_law_nigh","_law_found","_law_part","_law_ends","_law_way","_law_turn"] ["_law_many","_law_ties"] (aJ ul):=by walk_at "sc"
def aDx:aY ["_law_cell","_law_web_here","_law_ties","_law_at","_law_one","_law_odd_here","_law_some"] ["_law_cell","_law_web_here","_law_ties"] (aJ uh):=by walk_at "sc"
def aC0:aY ["_law_web_here","_law_thing","_law_tie"] ["_law_web_here","_law_thing"] (aJ rE):=by walk_at "sc"
def aNB:aY ["_law_script","_law_k","_law_cell","_law_web_here","_law_along_here","_law_some","_law_ties","_law_due_here","_law_found","_law_ring"] ["_law_script"] (aJ qb):=by walk_at "sc"
set_option genInjectivity false in
set_option genSizeOf false in
structure Adr where
 zJ:Addr
 iU:zAo
 aA8:Addr
 je:zAo
 zK:Addr
 iV:zAo
 aA7:Addr
 jd:zAo
 vq:Addr
 eY:zAo
 kJ:Addr
 bN:zAo
 zL:Addr
 gK:zAo
 aDU:Addr
 mQ:zAo
 vy:Addr
 gj:zAo
 zM:Addr
 iW:zAo
 vg:Addr
 gY:zAo
 qi:Addr
 dj:zAo
 aFw:Addr
 qP:zAo
 uA:Addr
 fO:zAo
 zE:Addr
 iR:zAo
 oF:Addr
 cQ:zAo
 ql:Addr
 dF:zAo
 zH:Addr
 eX:zAo
 aA4:Addr
 j9:zAo
 zF:Addr
 iT:zAo
 vm:Addr
 gf:zAo
 tZ:Addr
 fM:zAo
 vh:Addr
 gZ:zAo
 vp:Addr
 gh:zAo
 vo:Addr
 wF:zAo
 qj:Addr
 qt:zAo
 aA6:Addr
 jc:zAo
 aA5:Addr
 jb:zAo
 zG:Addr
 gJ:zAo
 aFx:Addr
 aAn:zAo
 q9:Value
 ig:Addr
 n8:Addr
 iZ:Addr
 ni:Addr
 eZ:Addr
 iY:Addr
 gO:Addr
 kh:Addr
 gM:Addr
 ie:Addr
 kZ:Addr
 km:Addr
 nj:Addr
def wdA(t:Adr):Addr->Option Str:=λ C=>(([t.n8,t.iZ,t.ni,t.eZ,t.iY,t.gO,t.kh,t.gM,t.ie,t.kZ,t.km,t.nj]:List Addr).zip (["web","place","way","parting","many","forest","plan","one way","order","text","deed","row"]:List Str)).lookup C
structure Txt(K:zAA)(mg:Str->Option Value)(t:Adr):Prop where
 rY:Dnr K mg "is_whole" rG ["thing"] t.zJ t.iU
 aAg:Dnr K mg "is_many" uo ["thing"] t.aA8 t.je
 rZ:Dnr K mg "is_place" rJ ["many","thing"] t.zK t.iV
 aAf:Dnr K mg "is_pair" um ["many","thing"] t.aA7 t.jd
 wD:Dnr K mg "is_rising" pH ["things"] t.vq t.eY
 kY:Dnr K mg "are_rising_pairs" gC ["many","thing"] t.kJ t.bN
 rm:Dnr K mg "are_ties" rM ["many","thing"] t.zL t.gK
 aDX:Dnr K mg "is_web" xq ["thing"] t.aDU t.mQ
 pW:Dnr K mg "check_web" pI ["thing"] t.vy t.gj
 rn:Dnr K mg "all_tied" rN ["web"] t.zM t.iW
 vz:Dnr K mg "part_with" pA ["near","start"] t.vg t.gY
 qm:Dnr K mg "parts_among" lU ["near","places"] t.qi t.dj
 aGB:Dnr K mg "parts" aBS ["web"] t.aFw t.qP
 uD:Dnr K mg "check_ties" nH ["web","thing"] t.uA t.fO
 zP:Dnr K mg "way_from" rC ["near","end"] t.zE t.iR
 cu:Dnr K mg "parting_along" jN ["web","ties"] t.oF t.cQ
 qp:Dnr K mg "_law_cell_at" lW ["_law_script","_law_k"] t.ql t.dF
 cX:Dnr K mg "_law_draw" rF ["_law_cell","_law_k","_law_bound"] t.zH t.eX
 aAd:Dnr K mg "_law_web" ug ["_law_cell","_law_most"] t.aA4 t.j9
 rW:Dnr K mg "_law_near" rD ["_law_web_here"] t.zF t.iT
 wB:Dnr K mg "_law_parts" pC ["_law_web_here"] t.vm t.gf
 uC:Dnr K mg "_law_parted" nG ["_law_cell","_law_at","_law_web_here","_law_nigh"] t.tZ t.fM
 wA:Dnr K mg "_law_plain" pB ["_law_parting"] t.vh t.gZ
 wC:Dnr K mg "_law_along" pG ["_law_parting"] t.vp t.gh
 lL:Dnr K mg "_law_class" pF ["_law_error"] t.vo t.wF
 cA:Dnr K mg "_law_refused" lV ["_law_call"] t.qj t.qt
 aAe:Dnr K mg "_law_due" ul ["_law_many","_law_ties"] t.aA6 t.jc
 vM:Dnr K mg "_law_odd" uh ["_law_cell","_law_web_here","_law_ties"] t.aA5 t.jb
 zQ:Dnr K mg "_law_good" rE ["_law_web_here","_law_thing"] t.zG t.gJ
 aM8:Dnr K mg "law" qb ["_law_script"] t.aFx t.aAn
 iw:mg "MOST_PLACES"=some t.q9
 zx:RelV (.int 60) t.q9
 yX:mg "FewError"=some (.ref t.ig)
 l_FewError:au mg "FewError"=t.ig
 ji:cM K t.ig
 aFe:mg "NoWeb"=some (.ref t.n8)
 aFj:au mg "NoWeb"=t.n8
 sJ:cM K t.n8
 aGo:mg "NoPlace"=some (.ref t.iZ)
 aGy:au mg "NoPlace"=t.iZ
 pZ:cM K t.iZ
 aLM:mg "NoWay"=some (.ref t.ni)
 aLT:au mg "NoWay"=t.ni
 wV:cM K t.ni
 jF:mg "NoParting"=some (.ref t.eZ)
 jG:au mg "NoParting"=t.eZ
 dR:cM K t.eZ
 aGn:mg "TooMany"=some (.ref t.iY)
 aGx:au mg "TooMany"=t.iY
 pY:cM K t.iY
 aE4:mg "NoForest"=some (.ref t.gO)
 aEf:au mg "NoForest"=t.gO
 m6:cM K t.gO
 aIq:mg "NoPlan"=some (.ref t.kh)
 aJB:au mg "NoPlan"=t.kh
 sS:cM K t.kh
 aE3:mg "NoOneWay"=some (.ref t.gM)
 aEe:au mg "NoOneWay"=t.gM
 mZ:cM K t.gM
 aGp:mg "NoOrder"=some (.ref t.ie)
 aGz:au mg "NoOrder"=t.ie
 ph:cM K t.ie
 aIp:mg "NoText"=some (.ref t.kZ)
 aJA:au mg "NoText"=t.kZ
 sO:cM K t.kZ
 aIr:mg "NoDeed"=some (.ref t.km)
 aJC:au mg "NoDeed"=t.km
 sU:cM K t.km
 aLN:mg "NoRow"=some (.ref t.nj)
 aLU:au mg "NoRow"=t.nj
 wW:cM K t.nj
 aBc:mg "ValueError"=none
 aM1:mg "all"=none
 aP4:mg "any"=none
 aEY:mg "bool"=none
 aP3:mg "int"=none
 aW:mg "isinstance"=none
 jP:mg "len"=none
 uy:mg "list"=none
 aM0:mg "max"=none
 aFb:mg "min"=none
 dW:mg "range"=none
 aIl:mg "set"=none
 mF:mg "sorted"=none
 aP2:mg "str"=none
 dI:mg "tuple"=none
 aP1:mg "zip"=none
 cb:aEw K t.ig [t.n8,t.iZ,t.ni,t.eZ,t.iY,t.gO,t.kh,t.gM,t.ie,t.kZ,t.km,t.nj]=true
open PySem.Spec PyProof.Rows
section
variable{P:zA2}{w:World}{K:zAA}{mg:Str->Option Value}{base:Heap}{t:Adr}
def vX(T:Txt K mg t):dB P w K mg base (CX1 P w) 1 t.zJ t.iU ["thing"] (spF K (au mg) 1 lB):=
 bU (k:=0) (f:=iU) T.rY aC2 λ n _ _ _ _ _ _ _=>
  (aM (bH (nF (lR (aA 0) T.aW T.aP3) (o9 (aMz (lR (aA 0) T.aW T.aEY))))))
def aB8(T:Txt K mg t):dB P w K mg base (CX1 P w) 1 t.vq t.eY ["things"] (spF K (au mg) 1 gm):=
 bU (k:=0) (f:=eY) T.wD aBQ λ n _ _ _ _ _ _ _=>
  (aH (dD (aFQ (aB aK (aB (fP T.jP (aB (aA 0) aF)) aF)) T.dW) (bR (ks:=[1]))
   (aM (dU (jk (aAN (aL (aA 0) (aHn (aA 1) aK)) (aL (aA 0) (aA 1))))
    (aM (bH lu))
    bh)))
  (aM (bH lu)))
def v4(T:Txt K mg t):dB P w K mg base (CX1 P w) 1 t.zM t.iW ["web"] (spF K (au mg) 1 dZ):=
 bU (k:=0) (f:=iW) T.rn aC5 λ n _ _ _ _ _ _ _=>
  (aH (aMt (aA 0) (u9 (n:=2) (dh (bR (ks:=[1,2])) (dh (bR (ks:=[1,2])) qF))))
  (aH (aMN (N:=["place"]) (js:=[none]) (ks:=[0]) (iu (aB (aA 1) aF) T.dW) bx)
  (aH (dD (cI (aA 2)) (u9 (n:=2) (dh (bR (ks:=[4,5])) (dh (bR (ks:=[4,5])) qF)))
   (aH (mq 3 (aA 4) (bI (aA 5)))
   (aM (mq 3 (aA 5) (bI (aA 4))))))
  (aM (bH (nD 3))))))
def aB3(T:Txt K mg t):dB P w K mg base (CX1 P w) 1 t.vg t.gY ["near","start"] (spF K (au mg) 2 jJ):=
 bU (k:=0) (f:=gY) T.vz aBL λ n _ _ _ _ _ _ _=>
  (aH (gr (i:=2) (oW (nC (aB (bI (aA 1)) aF))))
  (aH (bL (i:=3) (gA aK))
  (aH (xU (aAN (aA 3) (fP T.jP (aB (jq 2) aF)))
   (aH (mj (i:=4) (gA (bI (aL (jq 2) (aA 3)))))
   (aH (dD (cI (aL (aA 0) (dw 4))) (bR (ks:=[5]))
    (aM (dU (xT (aA 5) (jq 2))
     (aM (gU 2 (bI (aA 5))))
     bh)))
   (aM (aMs (i:=3) aK (λ _=>aOM))))))
  (aM (bH (fV T.dI (aB (qI T.mF (aB (jq 2) aF)) aF)))))))
def aCi(T:Txt K mg t):dB P w K mg base (CX1 P w) 1 t.zE t.iR ["near","end"] (spF K (au mg) 2 il):=
 bU (k:=0) (f:=iR) T.zP aCY λ n _ _ _ _ _ _ _=>
  (aH (gr (i:=2) (oW (nC (aB (bI (aA 1)) aF))))
  (aH (bL (i:=3) (gA (aL (aA 0) (aA 1))))
  (aH (xU (gB (aA 3))
   (aH (gU 2 (bI (aL (aA 3) aK)))
   (aM (bL (i:=3) (aFJ (N:=["place","way"]) (js:=[none,some 2]) (ks:=[0]) (cI (aL (aA 0) (aL (aA 2) (aDv aK)))) bx (nA (xT (aA 0) (aA 1))) (bI (aA 0)))))))
  (aM (bH (fV T.dI (aB (nD 2) aF)))))))
def yQ(T:Txt K mg t):dB P w K mg base (CX1 P w) 1 t.ql t.dF ["_law_script","_law_k"] (spF K (au mg) 2 dq):=
 bU (k:=0) (f:=dF) T.qp xn λ n _ _ _ _ _ _ _=>
  (aH (dU (aAN (aA 1) (fP T.jP (aB (aA 0) aF)))
   (aM (bH (bI (aL (aA 0) (aA 1)))))
   bh)
  (aM (bH aK)))
def cV(T:Txt K mg t):dB P w K mg base (CX1 P w) 1 t.zH t.eX ["_law_cell","_law_k","_law_bound"] (spF K (au mg) 3 az):=
 bU (k:=0) (f:=eX) T.cX aC1 λ n _ _ _ _ _ _ _=>
  (aH (dU (aPC (aA 0) (aMy aK aK))
   (aH (bL (i:=3) (gA (aA 0)))
   (aH (dD (iu (aB (aA 1) aF) T.dW) (bR (ks:=[4]))
    (aH (dU (aFK (aA 3) aK)
     (aM (bH aK))
     bh)
    (aM (bL (i:=3) (gA (aFT (aA 3) (aA 2)))))))
   (aM (bH (ue (aA 3) (aA 2))))))
   bh)
  (aH (bL (i:=5) (gA (ue (qz (cJ (cJ (ue (aA 0) aK) (qz aK (aA 1))) aK) aK) aK)))
  (aH (bL (i:=5) (gA (ue (cJ (cJ (qz (aA 5) (aA 5)) (qz aK (aA 1))) aK) aK)))
  (aM (bH (ue (aFT (ue (qz (aA 5) aK) aK) aK) (aA 2)))))))
def vW(T:Txt K mg t):dB P w K mg base (CX1 P w) 1 t.zF t.iT ["_law_web_here"] (spF K (au mg) 1 gQ):=
 bU (k:=0) (f:=iT) T.rW aCZ λ n _ _ _ _ _ _ _=>
  (aH (aMN (N:=["_law_place"]) (js:=[none]) (ks:=[0]) (iu (aB (aL (aA 0) aK) aF) T.dW) bx)
  (aH (dD (cI (aL (aA 0) aK)) (u9 (n:=2) (dh (bR (ks:=[2,3])) (dh (bR (ks:=[2,3])) qF)))
   (aH (mq 1 (aA 2) (bI (aA 3)))
   (aM (mq 1 (aA 3) (bI (aA 2))))))
  (aM (bH (nD 1)))))
def aB5(T:Txt K mg t):dB P w K mg base (CX1 P w) 1 t.vm t.gf ["_law_web_here"] (spF K (au mg) 1 jK):=
 bU (k:=0) (f:=gf) T.wB aBN λ n _ _ _ _ _ _ _=>
  (aH (gr (i:=1) (oW (aPE (rB T.uy T.dW (aL (aA 0) aK)))))
  (aH (dD (iu (aB (aL (aA 0) aK) aF) T.dW) (bR (ks:=[2]))
   (aM (dD (cI (aL (aA 0) aK)) (u9 (n:=2) (dh (bR (ks:=[3,4])) (dh (bR (ks:=[3,4])) qF)))
    (aH (aFL 1 (aA 3) (aBJ T.aFb (aB (aL (jq 1) (aA 3)) (aB (aL (jq 1) (aA 4)) aF))))
    (aM (aFL 1 (aA 4) (bI (aL (jq 1) (aA 3)))))))))
  (aM (bH (ou (N:=["_law_low","_law_web_here","_law_least"]) (js:=[none,some 0,some 1]) (ks:=[0]) (cI (zp T.mF T.aIl (aB (aA 1) aF))) bx o6 (fV T.dI (aB (ou (N:=["_law_place","_law_least","_law_low"]) (js:=[none,some 2,some 0]) (ks:=[0]) (iu (aB (aL (aA 1) aK) aF) T.dW) bx (nA (aFK (aL (aA 1) (aA 0)) (aA 2))) (bI (aA 0))) aF)))))))
def aB4(T:Txt K mg t):dB P w K mg base (CX1 P w) 1 t.vh t.gZ ["_law_parting"] (spF K (au mg) 1 lO):=
 bU (k:=0) (f:=gZ) T.wA aBM λ n _ _ _ _ _ _ _=>
  (aM (bH (fV T.dI (aB (qI T.mF (aB (ou (N:=["_law_way"]) (js:=[none]) (ks:=[0]) (cI (aA 0)) bx o6 (aHp T.aFb (aB (aA 0) (aB (aHo (aA 0)) aF)))) aF)) aF))))
def aB7(T:Txt K mg t):dB P w K mg base (CX1 P w) 1 t.vp t.gh ["_law_parting"] (spF K (au mg) 1 jL):=
 bU (k:=0) (f:=gh) T.wC aBP λ n _ _ _ _ _ _ _=>
  (aH (gr (i:=1) (oW (nC aF)))
  (aH (dD (cI (aA 0)) (bR (ks:=[2]))
   (aM (aGT 1 (ou (N:=["_law_one","_law_other"]) (js:=[none,none]) (ks:=[0,1]) (aMx (aB (aA 2) (aB (o8 (aA 2) (sr aK) su) aF)) T.aP1) (u9 (n:=2) (dh bx (dh bx qF))) o6 (bV (aB (aBJ T.aFb (aB (aA 0) (aB (aA 1) aF))) (aB (aFS T.aM0 (aB (aA 0) (aB (aA 1) aF))) aF)))))))
  (aM (bH (fV T.dI (aB (qI T.mF (aB (jq 1) aF)) aF))))))
def aB6(T:Txt K mg t):FnH P w K mg base 1 t.vo t.wF ["_law_error"] (spW (wdA t)):=
 aHO (c1:=.ref t.ig) (c2:=.ty "ValueError") (k1:=[.ref t.n8,.ref t.iZ,.ref t.ni]) (k2:=[.ref t.eZ,.ref t.iY,.ref t.gO]) (k3:=[.ref t.kh,.ref t.gM,.ref t.ie]) (k4:=[.ref t.kZ,.ref t.km,.ref t.nj]) (l1:=["web","place","way","parting","many","forest","plan","one way"]) (l2:=["order","text","deed","row"]) T.lL.F aBO rfl rfl rfl rfl (λ cdv A outer s H=>⟨(iB rfl rfl rfl T.aW (eE (v:=.ref t.ig) rfl T.yX rfl)),(iB rfl rfl rfl T.aW (aF4 (v:=.ty "ValueError") (u:=.type "ValueError") rfl T.aBc rfl rfl)),(ak (iB rfl rfl rfl T.aW (eE (v:=.ref t.n8) rfl T.aFe rfl)) (ak (iB rfl rfl rfl T.aW (eE (v:=.ref t.iZ) rfl T.aGo rfl)) (ak (iB rfl rfl rfl T.aW (eE (v:=.ref t.ni) rfl T.aLM rfl)) cj))),(ak (iB rfl rfl rfl T.aW (eE (v:=.ref t.eZ) rfl T.jF rfl)) (ak (iB rfl rfl rfl T.aW (eE (v:=.ref t.iY) rfl T.aGn rfl)) (ak (iB rfl rfl rfl T.aW (eE (v:=.ref t.gO) rfl T.aE4 rfl)) cj))),(ak (iB rfl rfl rfl T.aW (eE (v:=.ref t.kh) rfl T.aIq rfl)) (ak (iB rfl rfl rfl T.aW (eE (v:=.ref t.gM) rfl T.aE3 rfl)) (ak (iB rfl rfl rfl T.aW (eE (v:=.ref t.ie) rfl T.aGp rfl)) cj))),(ak (iB rfl rfl rfl T.aW (eE (v:=.ref t.kZ) rfl T.aIp rfl)) (ak (iB rfl rfl rfl T.aW (eE (v:=.ref t.km) rfl T.aIr rfl)) (ak (iB rfl rfl rfl T.aW (eE (v:=.ref t.nj) rfl T.aLN rfl)) cj))),(ak fQ (ak fQ (ak fQ (ak fQ (ak fQ (ak fQ (ak fQ (ak fQ cj)))))))),(ak fQ (ak fQ (ak fQ (ak fQ cj))))⟩) rfl rfl (by decide) λ C w h=>(aMJ T.cb h).1
def aCj(T:Txt K mg t):dB P w K mg base (CX1 P w) 1 t.zG t.gJ ["_law_web_here","_law_thing"] (spF K (au mg) 2 fC):=
 bU (k:=0) (f:=gJ) T.zQ aC0 λ n _ _ _ _ _ _ _=>
  (aH (dU (SW.st (aCQ (jk (gB (lR (aA 1) T.aW T.dI))) (xR (jk (gB (aHr T.aM1 (aB (ou (N:=["_law_tie","_law_web_here"]) (js:=[none,some 0]) (ks:=[0]) (cI (aA 1)) bx o6 (nF (lR (aA 0) T.aW T.dI) (o9 (aPI (aA 0) (aL (aA 1) aK))))) aF)))))))
   (aM (bH lu))
   bh)
  (aH (dD (cI (aA 1)) (bR (ks:=[2]))
   (aM (dU (SW.st (aCQ (gB (lR (aL (aA 2) aK) T.aW T.aEY)) (xR (gB (lR (aL (aA 2) aK) T.aW T.aEY)))))
    (aM (bH lu))
    bh)))
  (aM (bH (aHq (aBK T.uy (aB (aA 1) aF)) (aBI T.mF T.aIl (aB (aA 1) aF)))))))
def aEX(T:Txt K mg t):dB P w K mg base (CX1 P w) 2 t.aA8 t.je ["thing"] (spF K (au mg) 1 qR):=
 bU (k:=1) (f:=je) T.aAg aEA λ n _ _ _ _ _ _ _=>
  (aM (bH (nF (ao (vX T) T.rY (aB (aA 0) aF)) (o9 (aK5 aK (aA 0) (aK6 T.iw T.zx (λ _ _=>.int _)))))))
def vY(T:Txt K mg t):dB P w K mg base (CX1 P w) 2 t.zK t.iV ["many","thing"] (spF K (au mg) 2 gR):=
 bU (k:=1) (f:=iV) T.rZ aC3 λ n _ _ _ _ _ _ _=>
  (aM (bH (nF (ao (vX T) T.rY (aB (aA 1) aF)) (o9 (aK4 aK (aA 1) (aA 0))))))
def yO(T:Txt K mg t):dB P w K mg base (CX1 P w) 2 t.qi t.dj ["near","places"] (spF K (au mg) 2 dm):=
 bU (k:=1) (f:=dj) T.qm xg λ n _ _ _ _ _ _ _=>
  (aH (gr (i:=2) (oW (nC aF)))
  (aH (gr (i:=3) (oW (aPE (aK3 T.aIl))))
  (aH (dD (cI (aA 1)) (bR (ks:=[4]))
   (aM (dU (aKR (aA 4) (jq 3))
    (aH (bL (i:=5) (gA (ao (aB3 T) T.vz (aB (aA 0) (aB (aA 4) aF)))))
    (aH (gU 2 (bI (aA 5)))
    (aM (dD (cI (aA 5)) (bR (ks:=[6]))
     (aM (aMu 3 (bI (aA 6))))))))
    bh)))
  (aM (bH (nD 2))))))
def aEU(T:Txt K mg t):dB P w K mg base (CX1 P w) 2 t.aA4 t.j9 ["_law_cell","_law_most"] (spF K (au mg) 2 jf):=
 bU (k:=1) (f:=j9) T.aAd aDw λ n _ _ _ _ _ _ _=>
  (aH (bL (i:=2) (gA (ao (cV T) T.cX (aB (aA 0) (aB aK (aB (cJ (aA 1) aK) aF))))))
  (aH (bL (i:=3) (gA (cJ aK (ao (cV T) T.cX (aB (aA 0) (aB aK (aB aK aF)))))))
  (aH (gr (i:=4) (oW (nC aF)))
  (aH (dD (iu (aB (aA 2) aF) T.dW) (bR (ks:=[5]))
   (aM (dD (aFQ (aB (cJ (aA 5) aK) (aB (aA 2) aF)) T.dW) (bR (ks:=[6]))
    (aM (dU (aAN (ao (cV T) T.cX (aB (aA 0) (aB (cJ (cJ aK (qz aK (aA 5))) (aA 6)) (aB aK aF)))) (aA 3))
     (aM (gU 4 (bV (aB (bI (aA 5)) (aB (bI (aA 6)) aF)))))
     bh)))))
  (aM (bH (bV (aB (bI (aA 2)) (aB (fV T.dI (aB (nD 4) aF)) aF)))))))))
def zy(T:Txt K mg t):dB P w K mg base (CX1 P w) 2 t.tZ t.fM ["_law_cell","_law_at","_law_web_here","_law_nigh"] (spF K (au mg) 4 iH):=
 bU (k:=1) (f:=fM) T.uC zq λ n _ _ _ _ _ _ _=>
  (aH (mj (i:=4) (gA (rB T.uy T.dW (aL (aA 2) aK))))
  (aH (gr (i:=5) (oW (nC aF)))
  (aH (xU (vV (dw 4) (rA aF))
   (aH (bL (i:=6) (gA (bV (aB (aL (dw 4) (ao (cV T) T.cX (aB (aA 0) (aB (cJ (aA 1) (fP T.jP (aB (dw 4) aF))) (aB (fP T.jP (aB (dw 4) aF)) aF))))) aF))))
   (aH (bL (i:=7) (gA (ao (cV T) T.cX (aB (aA 0) (aB (cJ (cJ (aA 1) aK) (fP T.jP (aB (dw 4) aF))) (aB (cJ (aL (aA 2) aK) aK) aF))))))
   (aH (dD (iu (aB (aA 7) aF) T.dW) (bR (ks:=[8]))
    (aH (mj (i:=9) (aFJ (N:=["_law_place","_law_left","_law_way"]) (js:=[none,some 4,some 6]) (ks:=[0]) (cI (aL (aA 3) (aL (aA 6) (aDv aK)))) bx (nA (SW.st (aMr (aPA (aA 0) (aA 1)) (aKQ (xT (aA 0) (aA 2)))))) (bI (aA 0))))
    (aM (dU (vV (dw 9) (rA aF))
     (aM (bL (i:=6) (gA (cJ (aA 6) (bV (aB (aL (dw 9) (ao (cV T) T.cX (aB (aA 0) (aB (cJ (cJ (aA 1) aK) (aA 8)) (aB (fP T.jP (aB (dw 9) aF)) aF))))) aF))))))
     bh))))
   (aH (mj (i:=4) (gA (ou (N:=["_law_place","_law_way"]) (js:=[none,some 6]) (ks:=[0]) (cI (aA 4)) bx (nA (xT (aA 0) (aA 1))) (bI (aA 0)))))
   (aM (gU 5 (bI (aA 6)))))))))
  (aM (bH (fV T.dI (aB (nD 5) aF)))))))
def aEV(T:Txt K mg t):dB P w K mg base (CX1 P w) 2 t.aA6 t.jc ["_law_many","_law_ties"] (spF K (au mg) 2 jg):=
 bU (k:=1) (f:=jc) T.aAe aDy λ n _ _ _ _ _ _ _=>
  (aH (bL (i:=2) (gA (ao (vW T) T.rW (aB (bV (aB (aA 0) (aB (aA 1) aF))) aF))))
  (aH (dU (vV (ou (N:=["_law_place","_law_nigh"]) (js:=[none,some 2]) (ks:=[0]) (iu (aB (aA 0) aF) T.dW) bx (nA (aPB (fP T.jP (aB (aL (aA 1) (aA 0)) aF)) aK)) (bI (aA 0))) (rA aF))
   (aM (bH ud))
   bh)
  (aH (gr (i:=3) (oW (nC aF)))
  (aH (dD (cI (ao (aB5 T) T.wB (aB (bV (aB (aA 0) (aB (aA 1) aF))) aF))) (bR (ks:=[4]))
   (aH (mj (i:=5) (aFJ (N:=["_law_place","_law_nigh"]) (js:=[none,some 2]) (ks:=[0]) (cI (aA 4)) bx (nA (aAN (fP T.jP (aB (aL (aA 1) (aA 0)) aF)) aK)) (bI (aA 0))))
   (aH (dU (aFK (dw 5) (rA aF))
    (aM (bH ud))
    bh)
   (aH (bL (i:=6) (gA (bV (aB (aL (dw 5) aK) aF))))
   (aH (dD (iu (aB (aHn (fP T.jP (aB (aA 4) aF)) aK) aF) T.dW) (bR (ks:=[7]))
    (aM (bL (i:=6) (gA (cJ (aA 6) (fV T.dI (aB (ou (N:=["_law_place","_law_way"]) (js:=[none,some 6]) (ks:=[0]) (cI (aL (aA 2) (aL (aA 6) (aDv aK)))) bx (nA (xT (aA 0) (aA 1))) (bI (aA 0))) aF)))))))
   (aM (gU 3 (bI (aA 6)))))))))
  (aM (bH (ao (aB4 T) T.wA (aB (jq 3) aF))))))))
def yP(T:Txt K mg t):dB P w K mg base (CX1 P w) 2 t.aA5 t.jb ["_law_cell","_law_web_here","_law_ties"] (spF K (au mg) 3 mW):=
 bU (k:=1) (f:=jb) T.vM aDx λ n _ _ _ _ _ _ _=>
  (aH (bL (i:=3) (gA (ao (cV T) T.cX (aB (aA 0) (aB aK (aB (cJ (fP T.jP (aB (aA 2) aF)) aK) aF))))))
  (aH (bL (i:=4) (gA (aL (cJ (aA 2) (bV (aB (bV (aB aK (aB aK aF))) aF))) aK)))
  (aH (mj (i:=5) (gA (rA (aB (bV (aB (bI (aL (aA 4) aK)) (aB (bI (aL (aA 4) aK)) aF))) (aB (bV (aB aK (aB (bI (aL (aA 1) aK)) aF))) (aB (bV (aB lu (aB (bI (aL (aA 4) aK)) aF))) (aB (aBK T.uy (aB (bI (aA 4)) aF)) (aB ud (aB (bV (aB aK aF)) (aB aK (aB (cJ (bI (o8 (aA 4) su (sr aK))) (bV (aB (aK2 T.aP2 (aB (aL (aA 4) aK) aF)) aF))) aF)))))))))))
  (aH (gr (i:=6) (oW (nC (aB (cJ (cJ (bI (o8 (aA 2) su (sr (aA 3)))) (bV (aB (aL (dw 5) (ao (cV T) T.cX (aB (aA 0) (aB aK (aB aK aF))))) aF))) (bI (o8 (aA 2) (sr (aA 3)) su))) (aB (cJ (bI (aA 2)) (bI (o8 (aA 2) su (sr aK)))) (aB (aBK T.uy (aB (bI (aA 2)) aF)) (aB ud (aB (bV (aB (bV aF) aF)) (aB aK aF)))))))))
  (aH (gU 6 (bI (aHo (aA 2))))
  (aM (bH (aL (nD 6) (aL (rA (aB aK (aB aK (aB aK (aB aK (aB aK (aB aK (aB aK (aB aK (aB aK (aB aK aF))))))))))) (ao (cV T) T.cX (aB (aA 0) (aB aK (aB aK aF)))))))))))))
def aEW(T:Txt K mg t):dB P w K mg base (CX1 P w) 3 t.aA7 t.jd ["many","thing"] (spF K (au mg) 2 mX):=
 bU (k:=2) (f:=jd) T.aAf aDz λ n _ _ _ _ _ _ _=>
  (aH (dU (SW.st (aCQ (jk (gB (lR (aA 1) T.aW T.dI))) (xR (vV (fP T.jP (aB (aA 1) aF)) aK))))
   (aM (bH lu))
   bh)
  (aM (bH (nF (ao (vY T) T.rZ (aB (aA 0) (aB (aL (aA 1) aK) aF))) (nF (ao (vY T) T.rZ (aB (aA 0) (aB (aL (aA 1) aK) aF))) (o9 (aPG (aL (aA 1) aK) (aL (aA 1) aK))))))))
def qX(T:Txt K mg t):dB P w K mg base (CX1 P w) 4 t.kJ t.bN ["many","thing"] (spF K (au mg) 2 bQ):=
 bU (k:=3) (f:=bN) T.kY qT λ n _ _ _ _ _ _ _=>
  (aH (dU (jk (gB (lR (aA 1) T.aW T.dI)))
   (aM (bH lu))
   bh)
  (aH (dD (cI (aA 1)) (bR (ks:=[2]))
   (aM (dU (jk (gB (ao (aEW T) T.aAf (aB (aA 0) (aB (aA 2) aF)))))
    (aM (bH lu))
    bh)))
  (aM (bH (ao (aB8 T) T.wD (aB (aA 1) aF))))))
def vZ(T:Txt K mg t):dB P w K mg base (CX1 P w) 5 t.zL t.gK ["many","thing"] (spF K (au mg) 2 dG):=
 bU (k:=4) (f:=gK) T.rm aC4 λ n _ _ _ _ _ _ _=>
  (aM (bH (nF (ao (qX T) T.kY (aB (aA 0) (aB (aA 1) aF))) (o9 (aHr T.aM1 (aB (ou (N:=["low","high"]) (js:=[none,none]) (ks:=[0,1]) (cI (aA 1)) (u9 (n:=2) (dh bx (dh bx qF))) o6 (aPH (aA 0) (aA 1))) aF))))))
def aGh(T:Txt K mg t):dB P w K mg base (CX1 P w) 6 t.aDU t.mQ ["thing"] (spF K (au mg) 1 uU):=
 bU (k:=5) (f:=mQ) T.aDX aG1 λ n _ _ _ _ _ _ _=>
  (aH (dU (SW.st (aCQ (jk (gB (lR (aA 0) T.aW T.dI))) (xR (vV (fP T.jP (aB (aA 0) aF)) aK))))
   (aM (bH lu))
   bh)
  (aM (bH (nF (ao (aEX T) T.aAg (aB (aL (aA 0) aK) aF)) (o9 (ao (vZ T) T.rm (aB (aL (aA 0) aK) (aB (aL (aA 0) aK) aF))))))))
def zz(T:Txt K mg t):dB P w K mg base (CX1 P w) 6 t.uA t.fO ["web","thing"] (spF K (au mg) 2 dY):=
 bU (k:=5) (f:=fO) T.uD zr λ n _ _ _ _ _ _ _=>
  (aH (dU (jk (gB (ao (vZ T) T.rm (aB (aL (aA 0) aK) (aB (aA 1) aF)))))
   (aM (oY rfl T.jF T.jG T.dR (aB o7 aF)))
   bh)
  (aH (bL (i:=2) (aOy (N:=["tie"]) (js:=[none]) (ks:=[0]) (cI (aL (aA 0) aK)) bx o6 (bI (aA 0)) lu))
  (aM (dD (cI (aA 1)) (bR (ks:=[3]))
   (aM (dU (aKS (aA 3) (aA 2))
    (aM (oY rfl T.jF T.jG T.dR (aB o7 aF)))
    bh))))))
def tG(T:Txt K mg t):dB P w K mg base (CX1 P w) 7 t.vy t.gj ["thing"] (spF K (au mg) 1 dC):=
 bU (k:=6) (f:=gj) T.pW aBR λ n _ _ _ _ _ _ _=>
  (aM (dU (jk (gB (ao (aGh T) T.aDX (aB (aA 0) aF))))
   (aM (oY rfl T.aFe T.aFj T.sJ (aB o7 aF)))
   bh))
def aIg(T:Txt K mg t):dB P w K mg base (CX1 P w) 8 t.aFw t.qP ["web"] (spF K (au mg) 1 uT):=
 bU (k:=7) (f:=qP) T.aGB aHs λ n _ _ _ _ _ _ _=>
  (aH (aBF (ao (tG T) T.pW (aB (aA 0) aF)))
  (aM (bH (ao (yO T) T.qm (aB (ao (v4 T) T.rn (aB (aA 0) aF)) (aB (rB T.uy T.dW (aL (aA 0) aK)) aF))))))
def dN(T:Txt K mg t):dB P w K mg base (CX1 P w) 9 t.oF t.cQ ["web","ties"] (spF K (au mg) 2 aQ):=
 bU (k:=8) (f:=cQ) T.cu uf λ n _ _ _ _ _ _ _=>
  (aH (aBF (ao (tG T) T.pW (aB (aA 0) aF)))
  (aH (aBF (ao (zz T) T.uD (aB (aA 0) (aB (aA 1) aF))))
  (aH (bL (i:=2) (gA (bV (aB (aL (aA 0) aK) (aB (aA 1) aF)))))
  (aH (bL (i:=3) (gA (ao (v4 T) T.rn (aB (aA 2) aF))))
  (aH (gr (i:=4) (oW (nC aF)))
  (aH (dD (cI (ao (aIg T) T.aGB (aB (aA 2) aF))) (bR (ks:=[5]))
   (aH (dU (gB (aK8 T.aP4 (aB (ou (N:=["place","near"]) (js:=[none,some 3]) (ks:=[0]) (cI (aA 5)) bx o6 (aPJ (fP T.jP (aB (aL (aA 1) (aA 0)) aF)) aK)) aF)))
    (aM (oY rfl T.jF T.jG T.dR (aB o7 aF)))
    bh)
   (aH (mj (i:=6) (aFJ (N:=["place","near"]) (js:=[none,some 3]) (ks:=[0]) (cI (aA 5)) bx (nA (aAN (fP T.jP (aB (aL (aA 1) (aA 0)) aF)) aK)) (bI (aA 0))))
   (aH (dU (jk (gB (dw 6)))
    (aM (oY rfl T.jF T.jG T.dR (aB o7 aF)))
    bh)
   (aM (gU 4 (ao (aCi T) T.zP (aB (aA 3) (aB (aL (dw 6) aK) aF)))))))))
  (aM (bH (fV T.dI (aB (qI T.mF (aB (jq 4) aF)) aF))))))))))
def jr(T:Txt K mg t):dB P w K mg base (CX1 P w) 11 t.qj t.qt ["_law_call"] (spR P w K mg base 10 "told" (wdA t)):=
 aEG T.cA.F xm rfl rfl rfl rfl rfl rfl T.yX T.ji (aB6 T) T.lL.m T.lL.F.kp T.lL.b (by decide) λ C w h=>(aMJ T.cb h).2
def aH5(T:Txt K mg t):∀c w,wdN c=some w->wdA t (au mg c)=some w:=aOi (ns:=["NoWeb","NoPlace","NoWay","NoParting","TooMany","NoForest","NoPlan","NoOneWay","NoOrder","NoText","NoDeed","NoRow"]) T.cb (by simp only[zJB,T.aFj,T.aGy,T.aLT,T.jG,T.aGx,T.aEf,T.aJB,T.aEe,T.aGz,T.aJA,T.aJC,T.aLU])
def aPh(T:Txt K mg t){c Pt:Addr}{s:zAG}{H:Hp}(hr:fB 11 (zCv.deeper (zDO "law" (aJ qb) s.heap.objs.size t.aFx (.ref c))))(Lx:wK (cxW P w K mg base ["_law_script","_law_k","_law_cell","_law_web_here","_law_along_here","_law_some","_law_ties","_law_due_here","_law_found","_law_ring"] "law" (aJ qb) t.aFx (.ref c) zCv s H Pt) Pt)(n:zGm (["_law_script","_law_k","_law_cell","_law_web_here","_law_along_here","_law_some","_law_ties","_law_due_here","_law_found","_law_ring"]:List Str)):
  SSs (ctW P w K mg base ["_law_script","_law_k","_law_cell","_law_web_here","_law_along_here","_law_some","_law_ties","_law_due_here","_law_found","_law_ring"] "law" (aJ qb) t.aFx (.ref c) zCv s H Pt 11 hr) (dM qb) aAn:=
  (aH (dD (iu (aB (aFS T.aM0 (aB aK (aB (aBJ T.aFb (aB (fP T.jP (aB (aA 0) aF)) (aB aK aF))) aF))) aF) T.dW) (bR (ks:=[1]))
   (aH (bL (i:=2) (gA (ao (yQ T) T.qp (aB (aA 0) (aB (aA 1) aF)))))
   (aH (bL (i:=3) (gA (ao (aEU T) T.aAd (aB (aA 2) (aB aK aF)))))
   (aH (bL (i:=4) (gA (ao (aB7 T) T.wC (aB (ao (zy T) T.uC (aB (aA 2) (aB aK (aB (aA 3) (aB (ao (vW T) T.rW (aB (aA 3) aF)) aF))))) aF))))
   (aH (bL (i:=5) (gA (fV T.dI (aB (ou (N:=["_law_tie","_law_cell"]) (js:=[none,some 2]) (ks:=[0]) (cI (aL (aA 3) aK)) bx (nA (aFK (ao (cV T) T.cX (aB (aA 1) (aB (cJ (cJ aK (qz aK (aL (aA 0) aK))) (aL (aA 0) aK)) (aB aK aF)))) aK)) (bI (aA 0))) aF))))
   (aH (dD (cI (rA (aB (aA 4) (aB (aA 5) (aB (aL (aA 3) aK) (aB (bV aF) (aB (ao (yP T) T.vM (aB (aA 2) (aB (aA 3) (aB (aA 4) aF)))) (aB (ao (yP T) T.vM (aB (cJ (aA 2) aK) (aB (aA 3) (aB (aA 5) aF)))) aF)))))))) (bR (ks:=[6]))
    (aH (bL (i:=7) (gA ud))
    (aH (dU (gB (ao (aCj T) T.zQ (aB (aA 3) (aB (aA 6) aF))))
     (aM (bL (i:=7) (gA (ao (aEV T) T.aAe (aB (aL (aA 3) aK) (aB (aA 6) aF))))))
     bh)
    (aM (dU (aOz (aA 7) ud)
     (aM (dU (vV (aDu (k:=11) (k0:=10) (kb:=9) (wn:=wdN) (wd:=wdA t) (λ _=>jr T) (zD9 rfl) T.cA.m T.cA.F.kp T.cA.b (λ _=>⟨⟨_,Lx⟩,rfl,rfl,rfl⟩) ⟨rfl,rfl,rfl,by decide+kernel,by decide+kernel⟩ rfl (aH5 T) (by decide) (λ _ _ _ _ _ _ _ _ _ _=>(ao (dN T) T.cu (aB (aA 3) (aB (aA 6) aF)))) (hfree:=λ _=>yp (sc:=aJ qb) (by decide+kernel))) o7)
      (aM (bH lu))
      bh))
     (aH (bL (i:=8) (gA (ao (dN T) T.cu (aB (aA 3) (aB (aA 6) aF)))))
     (aM (dU (SW.st (aCQ (jk (gB (lR (aA 8) T.aW T.dI))) (xR (vV (aA 8) (aA 7)))))
      (aM (bH lu))
      bh))))))))
   (aM (dU (vV (aDu (k:=11) (k0:=10) (kb:=9) (wn:=wdN) (wd:=wdA t) (λ _=>jr T) (zD9 rfl) T.cA.m T.cA.F.kp T.cA.b (λ _=>⟨⟨_,Lx⟩,rfl,rfl,rfl⟩) ⟨rfl,rfl,rfl,by decide+kernel,by decide+kernel⟩ rfl (aH5 T) (by decide) (λ _ _ _ _ _ _ _ _ _ _=>(ao (dN T) T.cu (aB (bV (aB aK (aB (bV (aB (bV (aB aK (aB aK aF))) aF)) aF))) (aB (bV aF) aF)))) (hfree:=λ _=>yp (sc:=aJ qb) (by decide+kernel))) o7)
    (aM (bH lu))
    bh))))))))
  (aH (bL (i:=9) (gA (bV (aB aK (aB (bV (aB (bV (aB aK (aB aK aF))) (aB (bV (aB aK (aB aK aF))) (aB (bV (aB aK (aB aK aF))) aF)))) aF)))))
  (aM (bH (nF (aHq (aDu (k:=11) (k0:=10) (kb:=9) (wn:=wdN) (wd:=wdA t) (λ _=>jr T) (zD9 rfl) T.cA.m T.cA.F.kp T.cA.b (λ _=>⟨⟨_,Lx⟩,rfl,rfl,rfl⟩) ⟨rfl,rfl,rfl,by decide+kernel,by decide+kernel⟩ rfl (aH5 T) (by decide) (λ _ _ _ _ _ _ _ _ _ _=>(ao (dN T) T.cu (aB (aA 9) (aB (aL (aA 9) aK) aF)))) (hfree:=λ _=>yp (sc:=aJ qb) (by decide+kernel))) o7) (o9 (aHq (ao (dN T) T.cu (aB (bV (aB aK (aB (bV aF) aF))) (aB (bV aF) aF))) (bV aF))))))))
end
def aMj{K:zAA}{h:Heap}{mg:Str->Option Value}{tk_MOST_PLACES:Tok}{q_FewError:Addr}{q_NoWeb:Addr}{q_NoPlace:Addr}{q_NoWay:Addr}{q_NoParting:Addr}{q_TooMany:Addr}{q_NoForest:Addr}{q_NoPlan:Addr}{q_NoOneWay:Addr}{q_NoOrder:Addr}{q_NoText:Addr}{q_NoDeed:Addr}{q_NoRow:Addr}(X:K.In h)(G:h.Ns zA6 mg)
  (h0:∃f d,Enr K "is_whole" rG f d)
  (h1:∃f d,Enr K "is_many" uo f d)
  (h2:∃f d,Enr K "is_place" rJ f d)
  (h3:∃f d,Enr K "is_pair" um f d)
  (h4:∃f d,Enr K "is_rising" pH f d)
  (h5:∃f d,Enr K "are_rising_pairs" gC f d)
  (h6:∃f d,Enr K "are_ties" rM f d)
  (h7:∃f d,Enr K "is_web" xq f d)
  (h8:∃f d,Enr K "check_web" pI f d)
  (h9:∃f d,Enr K "all_tied" rN f d)
  (h10:∃f d,Enr K "part_with" pA f d)
  (h11:∃f d,Enr K "parts_among" lU f d)
  (h12:∃f d,Enr K "parts" aBS f d)
  (h13:∃f d,Enr K "check_ties" nH f d)
  (h14:∃f d,Enr K "way_from" rC f d)
  (h15:∃f d,Enr K "parting_along" jN f d)
  (h16:∃f d,Enr K "_law_cell_at" lW f d)
  (h17:∃f d,Enr K "_law_draw" rF f d)
  (h18:∃f d,Enr K "_law_web" ug f d)
  (h19:∃f d,Enr K "_law_near" rD f d)
  (h20:∃f d,Enr K "_law_parts" pC f d)
  (h21:∃f d,Enr K "_law_parted" nG f d)
  (h22:∃f d,Enr K "_law_plain" pB f d)
  (h23:∃f d,Enr K "_law_along" pG f d)
  (h24:∃f d,Enr K "_law_class" pF f d)
  (h25:∃f d,Enr K "_law_refused" lV f d)
  (h26:∃f d,Enr K "_law_due" ul f d)
  (h27:∃f d,Enr K "_law_odd" uh f d)
  (h28:∃f d,Enr K "_law_good" rE f d)
  (h29:∃f d,Enr K "law" qb f d)
  (iw:zAb K zA6 "MOST_PLACES"=some (some (.int 60 tk_MOST_PLACES)))
  (y_FewError:zAb K zA6 "FewError"=some (some (.ref q_FewError)))
  (ji:cM K q_FewError)
  (y_NoWeb:zAb K zA6 "NoWeb"=some (some (.ref q_NoWeb)))
  (sJ:cM K q_NoWeb)
  (y_NoPlace:zAb K zA6 "NoPlace"=some (some (.ref q_NoPlace)))
  (pZ:cM K q_NoPlace)
  (y_NoWay:zAb K zA6 "NoWay"=some (some (.ref q_NoWay)))
  (wV:cM K q_NoWay)
  (y_NoParting:zAb K zA6 "NoParting"=some (some (.ref q_NoParting)))
  (dR:cM K q_NoParting)
  (y_TooMany:zAb K zA6 "TooMany"=some (some (.ref q_TooMany)))
  (pY:cM K q_TooMany)
  (y_NoForest:zAb K zA6 "NoForest"=some (some (.ref q_NoForest)))
  (m6:cM K q_NoForest)
  (y_NoPlan:zAb K zA6 "NoPlan"=some (some (.ref q_NoPlan)))
  (sS:cM K q_NoPlan)
  (y_NoOneWay:zAb K zA6 "NoOneWay"=some (some (.ref q_NoOneWay)))
  (mZ:cM K q_NoOneWay)
  (y_NoOrder:zAb K zA6 "NoOrder"=some (some (.ref q_NoOrder)))
  (ph:cM K q_NoOrder)
  (y_NoText:zAb K zA6 "NoText"=some (some (.ref q_NoText)))
  (sO:cM K q_NoText)
  (y_NoDeed:zAb K zA6 "NoDeed"=some (some (.ref q_NoDeed)))
  (sU:cM K q_NoDeed)
  (y_NoRow:zAb K zA6 "NoRow"=some (some (.ref q_NoRow)))
  (wW:cM K q_NoRow)
  (cb:L2.aEw K q_FewError [q_NoWeb,q_NoPlace,q_NoWay,q_NoParting,q_TooMany,q_NoForest,q_NoPlan,q_NoOneWay,q_NoOrder,q_NoText,q_NoDeed,q_NoRow]=true)
  (z_ValueError:zAb K zA6 "ValueError"=some none)
  (z_all:zAb K zA6 "all"=some none)
  (z_any:zAb K zA6 "any"=some none)
  (z_bool:zAb K zA6 "bool"=some none)
  (z_int:zAb K zA6 "int"=some none)
  (z_isinstance:zAb K zA6 "isinstance"=some none)
  (z_len:zAb K zA6 "len"=some none)
  (z_list:zAb K zA6 "list"=some none)
  (z_max:zAb K zA6 "max"=some none)
  (z_min:zAb K zA6 "min"=some none)
  (z_range:zAb K zA6 "range"=some none)
  (z_set:zAb K zA6 "set"=some none)
  (z_sorted:zAb K zA6 "sorted"=some none)
  (z_str:zAb K zA6 "str"=some none)
  (z_tuple:zAb K zA6 "tuple"=some none)
  (z_zip:zAb K zA6 "zip"=some none):
  ∃t,Txt K mg t:=by
 obtain⟨f0,d0,F0,a0⟩:=dnr X G h0 ["thing"];obtain⟨f1,d1,F1,a1⟩:=dnr X G h1 ["thing"];obtain⟨f2,d2,F2,a2⟩:=dnr X G h2 ["many","thing"];obtain⟨f3,d3,F3,a3⟩:=dnr X G h3 ["many","thing"];obtain⟨f4,d4,F4,a4⟩:=dnr X G h4 ["things"];obtain⟨f5,d5,F5,a5⟩:=dnr X G h5 ["many","thing"];obtain⟨f6,d6,F6,a6⟩:=dnr X G h6 ["many","thing"];obtain⟨f7,d7,F7,a7⟩:=dnr X G h7 ["thing"];obtain⟨f8,d8,F8,a8⟩:=dnr X G h8 ["thing"];obtain⟨f9,d9,F9,a9⟩:=dnr X G h9 ["web"];obtain⟨f10,d10,F10,a10⟩:=dnr X G h10 ["near","start"];obtain⟨f11,d11,F11,a11⟩:=dnr X G h11 ["near","places"];obtain⟨f12,d12,F12,a12⟩:=dnr X G h12 ["web"];obtain⟨f13,d13,F13,a13⟩:=dnr X G h13 ["web","thing"];obtain⟨f14,d14,F14,a14⟩:=dnr X G h14 ["near","end"];obtain⟨f15,d15,F15,a15⟩:=dnr X G h15 ["web","ties"];obtain⟨f16,d16,F16,a16⟩:=dnr X G h16 ["_law_script","_law_k"];obtain⟨f17,d17,F17,a17⟩:=dnr X G h17 ["_law_cell","_law_k","_law_bound"];obtain⟨f18,d18,F18,a18⟩:=dnr X G h18 ["_law_cell","_law_most"];obtain⟨f19,d19,F19,a19⟩:=dnr X G h19 ["_law_web_here"];obtain⟨f20,d20,F20,a20⟩:=dnr X G h20 ["_law_web_here"];obtain⟨f21,d21,F21,a21⟩:=dnr X G h21 ["_law_cell","_law_at","_law_web_here","_law_nigh"];obtain⟨f22,d22,F22,a22⟩:=dnr X G h22 ["_law_parting"];obtain⟨f23,d23,F23,a23⟩:=dnr X G h23 ["_law_parting"];obtain⟨f24,d24,F24,a24⟩:=dnr X G h24 ["_law_error"];obtain⟨f25,d25,F25,a25⟩:=dnr X G h25 ["_law_call"];obtain⟨f26,d26,F26,a26⟩:=dnr X G h26 ["_law_many","_law_ties"];obtain⟨f27,d27,F27,a27⟩:=dnr X G h27 ["_law_cell","_law_web_here","_law_ties"];obtain⟨f28,d28,F28,a28⟩:=dnr X G h28 ["_law_web_here","_law_thing"];obtain⟨f29,d29,F29,a29⟩:=dnr X G h29 ["_law_script"]
 exact⟨⟨f0,_,f1,_,f2,_,f3,_,f4,_,f5,_,f6,_,f7,_,f8,_,f9,_,f10,_,f11,_,f12,_,f13,_,f14,_,f15,_,f16,_,f17,_,f18,_,f19,_,f20,_,f21,_,f22,_,f23,_,f24,_,f25,_,f26,_,f27,_,f28,_,f29,_,_,q_FewError,q_NoWeb,q_NoPlace,q_NoWay,q_NoParting,q_TooMany,q_NoForest,q_NoPlan,q_NoOneWay,q_NoOrder,q_NoText,q_NoDeed,q_NoRow⟩,⟨F0,F1,F2,F3,F4,F5,F6,F7,F8,F9,F10,F11,F12,F13,F14,F15,F16,F17,F18,F19,F20,F21,F22,F23,F24,F25,F26,F27,F28,F29,zAh X G iw,⟨_,rfl⟩,zAh X G y_FewError,(by unfold au;rw[zAh X G y_FewError]),ji,zAh X G y_NoWeb,(by unfold au;rw[zAh X G y_NoWeb]),sJ,zAh X G y_NoPlace,(by unfold au;rw[zAh X G y_NoPlace]),pZ,zAh X G y_NoWay,(by unfold au;rw[zAh X G y_NoWay]),wV,zAh X G y_NoParting,(by unfold au;rw[zAh X G y_NoParting]),dR,zAh X G y_TooMany,(by unfold au;rw[zAh X G y_TooMany]),pY,zAh X G y_NoForest,(by unfold au;rw[zAh X G y_NoForest]),m6,zAh X G y_NoPlan,(by unfold au;rw[zAh X G y_NoPlan]),sS,zAh X G y_NoOneWay,(by unfold au;rw[zAh X G y_NoOneWay]),mZ,zAh X G y_NoOrder,(by unfold au;rw[zAh X G y_NoOrder]),ph,zAh X G y_NoText,(by unfold au;rw[zAh X G y_NoText]),sO,zAh X G y_NoDeed,(by unfold au;rw[zAh X G y_NoDeed]),sU,zAh X G y_NoRow,(by unfold au;rw[zAh X G y_NoRow]),wW,zAx X G z_ValueError,zAx X G z_all,zAx X G z_any,zAx X G z_bool,zAx X G z_int,zAx X G z_isinstance,zAx X G z_len,zAx X G z_list,zAx X G z_max,zAx X G z_min,zAx X G z_range,zAx X G z_set,zAx X G z_sorted,zAx X G z_str,zAx X G z_tuple,zAx X G z_zip,cb⟩⟩
def aOc{l:zFj}{w:World}{K:zAA}{h:Heap}{mg:Str->Option Value}{fa Pt:Addr}(X:K.In h)(G:h.Ns zA6 mg)(hfa:mg "law"=some (.ref fa))(hB:aBh K "law" Pt=true)(ht:∃t,Txt K mg t):L2.aGJ l.prog w K mg fa Pt 11 63:=by
 obtain⟨t,T⟩:=ht;have e:=hfa.symm.trans T.aM8.m;cases e;exact aLS (f:=aAn) (F:=aKE) X G hB T.aM8 aNB (λ _ _ _ _ _ _ _ _=>.of_eq rfl) (λ base c s H hr Lx nd=>aPh T hr Lx nd) rfl aIx
def walk{l:zFj}{q:zA2}{loose:List Str}{XP:(Str->Option Value)->Heap->Prop}{YP:World->Heap->Prop}{d:DefRec}{K:Params->zAA}{Pt:Addr}(hn:l.most=some 63)(hdf:d.params.defaults=[])
  (hY:∀(w:World) (h:Heap),YP w h->(K w.params).In h/\h.get? Pt=some (zCd #[]))
  (F:∀(w:World) (mg:Str->Option Value) (fa:Addr) (h:Heap),(K w.params).In h->h.Ns zA6 mg->mg d.name=some (.ref fa)->L2.aGJ l.prog w (K w.params) mg fa Pt 11 63):
  zIa q loose XP YP l.row.toRowW d [] (λ f vs=>zHz f vs):=
 L2.aH6 hn (by decide) hdf ⟨rfl,by decide,by decide⟩ hY F
end VL.My
open PySem PySem.W PyProof.Rows
set_option maxRecDepth 100000 in
set_option maxHeartbeats 0 in
theorem PySem.Challenge.cw_fewways_k06_partings_by_ties_holds : PySem.Challenge.rw_fewways_k06_partings_by_ties.Holds := by
 w_on; o_law; k_head; (case hw=>w_witness2)
 k_fill
 refine VL.My.walk (l:=PySem.Challenge.rw_fewways_k06_partings_by_ties) rfl rfl (fun w h Y=>⟨PySem.W.km_in_of Y,PySem.W.km_tabs_of Y _ zAE⟩) ?F
 case F =>
  intro w mg fa h KX G hmg
  refine VL.My.aOc KX G hmg ?B ?T
  (case B=>kernel_rfl)
  case T =>
   refine' VL.My.aMj KX G (VL.enr ?a0 ?l0 ?c0 ?k0) (VL.enr ?a1 ?l1 ?c1 ?k1) (VL.enr ?a2 ?l2 ?c2 ?k2) (VL.enr ?a3 ?l3 ?c3 ?k3) (VL.enr ?a4 ?l4 ?c4 ?k4) (VL.enr ?a5 ?l5 ?c5 ?k5) (VL.enr ?a6 ?l6 ?c6 ?k6) (VL.enr ?a7 ?l7 ?c7 ?k7) (VL.enr ?a8 ?l8 ?c8 ?k8) (VL.enr ?a9 ?l9 ?c9 ?k9) (VL.enr ?a10 ?l10 ?c10 ?k10) (VL.enr ?a11 ?l11 ?c11 ?k11) (VL.enr ?a12 ?l12 ?c12 ?k12) (VL.enr ?a13 ?l13 ?c13 ?k13) (VL.enr ?a14 ?l14 ?c14 ?k14) (VL.enr ?a15 ?l15 ?c15 ?k15) (VL.enr ?a16 ?l16 ?c16 ?k16) (VL.enr ?a17 ?l17 ?c17 ?k17) (VL.enr ?a18 ?l18 ?c18 ?k18) (VL.enr ?a19 ?l19 ?c19 ?k19) (VL.enr ?a20 ?l20 ?c20 ?k20) (VL.enr ?a21 ?l21 ?c21 ?k21) (VL.enr ?a22 ?l22 ?c22 ?k22) (VL.enr ?a23 ?l23 ?c23 ?k23) (VL.enr ?a24 ?l24 ?c24 ?k24) (VL.enr ?a25 ?l25 ?c25 ?k25) (VL.enr ?a26 ?l26 ?c26 ?k26) (VL.enr ?a27 ?l27 ?c27 ?k27) (VL.enr ?a28 ?l28 ?c28 ?k28) (VL.enr ?a29 ?l29 ?c29 ?k29) ?iw ?y_FewError ?ji ?y_NoWeb ?sJ ?y_NoPlace ?pZ ?y_NoWay ?wV ?y_NoParting ?dR ?y_TooMany ?pY ?y_NoForest ?m6 ?y_NoPlan ?sS ?y_NoOneWay ?mZ ?y_NoOrder ?ph ?y_NoText ?sO ?y_NoDeed ?sU ?y_NoRow ?wW ?cb ?z_ValueError ?z_all ?z_any ?z_bool ?z_int ?z_isinstance ?z_len ?z_list ?z_max ?z_min ?z_range ?z_set ?z_sorted ?z_str ?z_tuple ?z_zip
   (case y_FewError=>k_is); (case ji=>unfold L2.cM; k_exc)
   (case y_NoWeb=>k_is); (case sJ=>unfold L2.cM; k_exc)
   (case y_NoPlace=>k_is); (case pZ=>unfold L2.cM; k_exc)
   (case y_NoWay=>k_is); (case wV=>unfold L2.cM; k_exc)
   (case y_NoParting=>k_is); (case dR=>unfold L2.cM; k_exc)
   (case y_TooMany=>k_is); (case pY=>unfold L2.cM; k_exc)
   (case y_NoForest=>k_is); (case m6=>unfold L2.cM; k_exc)
   (case y_NoPlan=>k_is); (case sS=>unfold L2.cM; k_exc)
   (case y_NoOneWay=>k_is); (case mZ=>unfold L2.cM; k_exc)
   (case y_NoOrder=>k_is); (case ph=>unfold L2.cM; k_exc)
   (case y_NoText=>k_is); (case sO=>unfold L2.cM; k_exc)
   (case y_NoDeed=>k_is); (case sU=>unfold L2.cM; k_exc)
   (case y_NoRow=>k_is); (case wW=>unfold L2.cM; k_exc)
   (case cb=>kernel_rfl)
   any_goals k_is
