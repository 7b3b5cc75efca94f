import PyProof.Rows.All
import KE.KDictOf
import PyProof.DictWalks
import Wide.All
import OpenK.AllK
import Wide.FinOn
import Lean
import PyProof.EqAt
import PyProof.EqKinds
import PyProof.TupleCall
import KE.LcSums
import PySem.Challenge.RW_fewways_k43_four_places
open And renaming intro->zFQ
open Array renaming getElem?_eq_getElem->zAJ,toList_append->zAR,length_toList->zAb,getElem?_toList->zAc,toList_push->zB8,toList_reverse->zDT,toList_setIfInBounds->zFL,toList_modify->zGD,append_assoc->zGL,toList_map->zG9,toList_zip->zGa,toList->zHM
open Bool renaming false_ne_true->zAG,and_eq_true->zAQ,false_eq_true->zBq,eq_iff_iff->zDZ,and_true->zDl,and_false->zEN,not_eq_true'->zEh,or_eq_true->zFM,and_assoc->zF6
open False renaming elim->zAM
open ForInStep renaming yield->zB1,done->zGM
open Int renaming toNat_of_nonneg->zCl,emod_lt_of_pos->zD5,emod_nonneg->zEG
open LawfulBEq renaming eq_of_beq->zDY
open LawfulMonad renaming bind_assoc->zH7
open List renaming getElem?_eq_getElem->zAB,length_map->zAF,size_toArray->zAH,getElem?_eq_some_iff->zAK,length_append->zAL,mem_cons_self->zAN,mem_cons->zAT,replicate->zAW,mem_cons_of_mem->zAX,map_cons->zA0,mem_append_right->zA1,length_take->zA4,length_cons->zA7,mem_append_left->zA8,append_nil->zA9,getElem?_map->zAa,append_assoc->zAe,pairwise_cons->zAh,mem_flatMap->zAm,getElem?_append_left->zAo,mem_append->zAq,take_append_drop->zAs,mem_singleton->zAu,mem_of_getElem?->zAw,lookup_cons->zBA,take_of_length_le->zBB,pairwise_append->zBC,all_eq_true->zBE,drop_eq_getElem_cons->zBG,mem_map->zBH,length_drop->zBI,getElem?_take_of_lt->zBJ,getElem?_append_right->zBL,range->zBM,length_set->zBT,mem_of_mem_drop->zBU,zip_cons_cons->zBV,getElem_of_mem->zBW,mem_filter->zBX,mem_reverse->zBY,getElem?_set_ne->zB2,mem_of_mem_take->zB3,pairwise_iff_getElem->zB7,getElem_take->zB9,length_filter_le->zBa,mem_range->zBb,getElem?_cons_succ->zBc,getElem_mem->zBg,map_map->zBh,not_mem_nil->zBi,filterMap_cons->zBm,flatten_cons->zBn,nil_append->zBp,getElem?_cons_zero->zBu,length_reverse->zBy,nodup_cons->zBz,replicate_succ->zCA,drop_of_length_le->zCB,flatten_singleton->zCC,getElem?_set_self->zCD,getElem?_drop->zCG,mem_filterMap->zCH,pairwise_reverse->zCI,drop_zero->zCK,map_append->zCO,reverse_append->zCT,drop_length->zCY,foldl_cons->zC4,length_nil->zC5,length_replicate->zC6,getD_eq_getElem?_getD->zCc,take_take->zCd,flatten_append->zCi,getElem?_replicate->zCs,length_eq_zero_iff->zCt,of_mem_zip->zCu,pairwise_singleton->zCv,take_succ_eq_append_getElem->zCz,reverse_cons->zDE,take_zero->zDI,take_append->zDU,take_append_of_le_length->zDV,reverse_reverse->zDW,flatMap_cons->zDc,reverse_perm->zDd,all_cons->zDm,filter_cons->zDp,getElem?_eq_none->zEB,length_singleton->zEC,map_nil->zED,drop_drop->zEP,map_congr_left->zET,contains_cons->zE7,lookup_append->zE8,ext_getElem?->zEj,foldl->zEk,getElem_drop->zEl,pairwise_map->zEm,cons_append->zEu,drop_append_of_le_length->zEv,map_flatMap->zEw,getElem?_reverse->zGA,getElem_toArray->zGF,getElem?_range->zGP,map_id->zGQ,zip_nil_right->zGX,all_eq_false->zGb,nodup_append->zGc,take_sublist->zGd,zip_nil_left->zGe,any_eq_true->zGm,flatten_nil->zGn,getElem_map->zGo,length_zip->zGy,take_left'->zGz,drop_left->zHG,any_cons->zHN,map->zHO,map_take->zHP,all_map->zH2
open List.Pairwise renaming nil->zFS
open List.Perm renaming refl->zBN,swap->zGO
open MonadExcept renaming tryCatch->zHT
open Nat renaming le_refl->zAP,lt_of_lt_of_le->zAS,ne_of_lt->zA6,zero_le->zAj,le_trans->zAk,add_sub_cancel_left->zBO,lt_irrefl->zBe,lt_succ_of_lt->zCP,le_of_lt->zC8,min_eq_left->zC9,lt_succ_self->zCj,ne_of_gt->zCn,le_of_ble_eq_true->zDS,le_succ->zEW,add_assoc->zEe,add_zero->zEx,min_self->zEy,sub_self->zEz,zero_add->zFA,le_of_not_lt->zFD,add_mul->zFT,not_lt->zFf,le_of_eq->zGH,lt_of_le_of_lt->zGf,add_sub_assoc->zGp,le_max_right->zHA,le_max_left->zHH,not_lt_zero->zHI
open Nat.succ renaming inj->zGq
open Ne renaming symm->zDe
open Option renaming map_eq_some_iff->zBw,map_some->zDs,bind_some->zGY,getD_none->zGZ,getD_some->zG0,none->zHQ
open Option.some renaming inj->zAn
open Or renaming inr->zCS,inl->zCo
open Prod.mk renaming injEq->zGr
open PyProof.Rows renaming wpS_bind->zAO,wpS_pure->zAZ,pendingOf->zAp,SortSt->zAy,slot_tuple_getitem->zAz,IntsAre->zBZ,wpS_forRange->zB0,kindOf->zBf,KeyOrd->zCF,failedOf->zCM,wpS_modify->zCg,wpS_mono->zCh,envOfC->zCq,SortKind->zCx,step_dedup->zDD,callWith_type1->zDF,reverseSlice'->zDN,seqObj->zDO,firstMet->zDn,wpS_get->zDr,AllBare->zEU,slicePart_none->zEp,entry_tuple_getitem->zEs,args_tuple_getitem->zFH,wpS_lift->zFK,lt_int->zFO,minRun'->zF0,get?_update_seq->zFq,subscriptTail->zG7,tupleItemsOf_->zG8,subscriptTail_builtinR->zGj,seqEpoch_at->zHJ,Subscript_->zH5,sortedHeap->zHb
open PyProof.Rows.IntsAre renaming int_at->zGR
open PyProof.Rows.IsTup renaming new->zFl
open PyProof.Rows.KeyOrd renaming kle_of_klt->zAi,kle_trans->zAr,kle_refl->zCm,kle_antisymm->zFz,kle->zGN
open PyProof.Rows.SortSt renaming mk'->zGS
open PySem renaming wpAny_bind->zAC,Shared->zAD,wpAny_pure->zAI,sizeLine->zAV,Program->zAY,starEach->zA2,mainGlobals->zA5,Around->zAd,mem_of_lookup->zAl,FuncData->zAt,compareOp->zAv,foldedSetIterable->zAx,wpAny_mono->zBF,bootBuiltins->zBR,wpAny_newObj_type->zB4,wpAny_truthy_bool->zB5,behindInMarks->zBr,codeAny->zBs,wpAny_Call_Name_kw->zCN,binaryOp->zCV,wpAny_loadPart_at->zCW,wpAny_holding->zC0,wpAny_standAt->zC1,backTo->zC2,swapsWith->zC3,callerA->zCb,assignEach->zCf,cellsFrom->zCp,Keyword->zCy,codeAny_mono->zDB,wpAny_rule->zDC,Arguments->zDG,argBest->zDK,codeAny_builtin->zDL,letOwnedTupleGo->zDM,keywordEach->zDX,codeAny_call_builtin->zD2,NameKind->zD3,sizeLine_eq->zD8,sliceBounds->zD9,wpAny_isSubtype_exc->zDa,wpAny_passesOwn->zDb,wpAny_newFunctionEnv_cells->zDk,wpAny_tryCatch->zDq,assign->zDw,sysModules->zDx,wpAny_comprehension_free->zDy,wpAny_pyIter_list->zDz,excClassObj->zEH,plainId_quiet->zEI,wpAny_callSpecial?_slot->zEJ,wpAny_field->zEK,checkBuiltinCall->zEL,wpAny_call_entry->zEM,Result->zEZ,codeAny_call_function->zE0,holding->zE1,lastMarks->zE2,standAt->zE3,wpAny_execs_nil->zE4,wpAny_loadPart'->zE5,GenState->zE6,backToKw->zEa,call_meets->zEb,closureFor->zEc,wpAny_Name->zEd,newFunctionEnv->zEn,recursionLimit->zEo,getItem->zEt,Paired->zFE,attributeBase->zFI,codeAmong->zFJ,Builtin->zFR,relabel->zF1,typeLookup->zF2,wpAny_assign_Name->zF3,wpAny_call->zF4,wpAny_sequenceKey->zF5,IsPart->zF7,wpAny_typeOf->zF9,noFill_tuple_add->zFe,SetTable->zFh,compTurn->zFi,codeAny_of_tree->zFp,richCompare->zFr,wpAny_letGo->zFs,wpAny_of_eq->zFt,wpAny_updateSeq->zFu,wpAny_seqItems->zGK,pyIter->zGT,pyNext->zGU,BindsTo->zGV,call->zG1,evalPart_none->zG3,intKind->zG4,newList->zG5,seq_tuple_add->zG6,richCompare_meets_room->zGi,codeAny_func->zGu,concat_meets->zGv,exec_Assign_Name_used->zGw,wpAny_isTrue_Compare1->zGx,boot_len->zHD,wpAny_loadName_local->zHE,wpAny_loadName_cell->zHK,wpAny_loadName_free->zHL,Within->zHR,bindArgs->zHS,wpAny_pyIter_tuple->zHU,builtinsNs->zH8,defaultsOf->zH9,slot_list_getitem->zHa,typeIs_int->zHc
open PySem.Around renaming under_plainId->zDR,frames_deeper->zFk
open PySem.AutoSeq1 renaming sub_tuple_tuple->zFB
open PySem.Bind renaming checkArgs->zHF
open PySem.Builtin.Builtins renaming bindParams->zEA
open PySem.Builtin.Frozenset renaming newClass->zGk,updateFrom->zGl
open PySem.Builtin.List renaming listTooLong->zC7,listUpdate->zEi
open PySem.Builtin.Range renaming rangeSize->zHV
open PySem.Builtin.Slice renaming slicePlaces->zBK,sliceAdjust->zBd,sliceApplied->zCX,sliceFields->zEV,slicePartIndex->zHW
open PySem.Builtin.Tuple renaming tupleExact->zBS,tupleItemsOf->zDH,tupleCompareSizes->zDt,tupleHashOf->zHX,tupleIsExact->zHY
open PySem.Calls renaming Name_function_global->zFN,evalArgs_plain->zFv
open PySem.CmpOp renaming NotIn->zHZ
open PySem.Code renaming quiet_builtin->zGW
open PySem.F renaming plain_min_loop->zBj,plainAttrs_list->zCQ,called_set->zCr,args_tuple_add_2->zD4,entry_tuple_add->zD6,entry_min_loop->zDh,slot_tuple_add->zDi,slot_list_append->zDo,typeOf_object_class->zEO,type_list_append->zFP,slot_list_count->zFU,slot_list_index->zFV,plain_set_new->zFa,slot_list_extend->zFw,slot_gs_get->zGE,slot_int_rmul->zH0
open PySem.Heap renaming get?_push_of_some->zAE,lt_size->zAU,get?_push_size->zA3,get?_update_other->zB6,size_push->zCJ,get?_update_ne->zD0,SameBut->zFx,get?_update_self->zFy,FlyingW->zH1
open PySem.Heap.IsSliceOf renaming new->zFC
open PySem.Moved renaming trans->zGG
open PySem.NameKind renaming free->zCE,cell->zDP
open PySem.Obj renaming mapSeq->zDJ
open PySem.Paired renaming length->zHB
open PySem.SeqAt renaming EqAt->zD7
open PySem.SeqAt.EqAt renaming of_refs->zEF,same->zE9,bool_bool->zFX,int_int->zFb,int_str->zFc,str_int->zFd
open PySem.SeqAt.RcAt renaming lists_lengths->zEr,tuples->zFg,lists->zFo
open PySem.Str renaming ofString->zGJ
open PySem.Value renaming ref->zBx,bool->zCa,type->zCk,builtin->zDj,none->zEg,int->zFG,notImplemented->zGC,str->zGt,float->zH6
open PySem.W renaming Frag->zAA,mg_of->zAf,nsIn->zAg,mg_none_of->zBD,kia_one->zBP,findIn->zBQ,emptyDict->zBk,keepIn->zBl,fnOf->zBo,kitOne->zBt,hideAll->zBv,instObj->zCL,hideAll_get->zCR,tabObj->zCU,kla_obj->zCZ,envX->zCe,cellsFrom_some->zCw,codeIn->zDA,looks_findIn->zDQ,of_hideAll->zD1,codeHdIn->zDf,hideAll_none->zDu,hideAll_size->zDv,lookIn->zEE,Looks->zEQ,callWith_K->zER,codeRec_of->zES,kitx_dict->zEX,methodObj->zEY,plainGet->zEf,OpenLaw->zEq,kla_fn->zFF,excIn->zFW,funFrames_hide->zF8,codeHd_of_K->zFm,plainGet_of->zFn,kitx_tuple->zGB,kitx_list->zGI,CodeHd->zGg,InstAt->zGh,WalkO->zGs,isFn->zHC
open PySem.W.Looks renaming ld->zH3,now->zH4
open PySem.Walks renaming list->zG2
open Sum renaming inl->zFY,inr->zFZ
open ToString renaming toString->zFj
open True renaming intro->zDg
noncomputable section
namespace PySem.W.Fast
def tw2815434864820849190:=0
def tw12449154463607081990:=0
def tw3955416815911257894:=0
def tw7679466058252269414:=0
def tw12754669673699620102:=0
def tw7971893270311414758:=0
def tw7979345123671516550:=0
def tw14698344210962675814:=0
def tw7699700042118782054:=0
def tw10354609960389706182:=0
def tw966000784168398470:=0
def tw13713963733917205583:=0
def tw7500999849004435599:=0
def tw14904739292439661711:=0
def tw13044407602140418639:=0
def tw6911817774244553359:=0
def tw8677099263864050383:=0
def tw2707955599339764911:=0
def tw1858776791458735940:=0
def tw4521343914304999012:=0
def tw470265003054786564:=0
def tw17167777484033610724:=0
def tw4195409686639676804:=0
def tw12575361371012316548:=0
def tw17839256620005905508:=0
def tw195746376655521220:=0
def tw12551623603028536004:=0
def tw15841673579383158413:=0
def tw18077350635209830381:=0
def tw6081187976623920237:=0
def tw2282746479248066381:=0
def tw13445988422381389037:=0
def tw1404993859527328717:=0
def tw2898870329242321197:=0
def tw6960359024412561837:=0
def tw14173364058815249965:=0
def tw5565571039741695245:=0
def tw6856525876771872013:=0
def tw18187711594499095885:=0
def tw8277751971438103885:=0
def tw6633995467861120418:=0
def tw7676315435340333890:=0
def tw12102074207942634690:=0
def tw11407035951865112546:=0
def tw17770238507048735042:=0
def tw12253903597726933314:=0
def tw3006071231701670050:=0
def tw8326925299762457090:=0
def tw15402974753615071691:=0
def tw9290714487684309803:=0
def tw18010787963853623819:=0
def tw13550346391408812139:=0
def tw5217145065963641003:=0
def tw5782155801925452683:=0
def tw11730236633708694827:=0
def tw9325954915468007563:=0
def tw2532962200558059232:=0
def tw10795337686614959616:=0
def tw522194527004416768:=0
def tw15057491386665369472:=0
def tw1663569984644234592:=0
def tw129709808408252768:=0
def tw17970881715847110720:=0
def tw17241939218435456416:=0
def tw4314624671376313888:=0
def tw3213432895133367840:=0
def tw2000217015502742473:=0
def tw3217510148376400553:=0
def tw13108508828356148425:=0
def tw12728963781327607049:=0
def tw293526949685579145:=0
def tw17808077207229515337:=0
def tw13052752675027202345:=0
def tw14198307114140206441:=0
def tw8788285327840954793:=0
def tw10019794639159462665:=0
def tw15000057849136986174:=0
def tw7703463763758298238:=0
def tw16250374863497312510:=0
def tw8909580114929131294:=0
def tw882177356957945406:=0
def tw12490860565180003230:=0
def tw10218891092779630622:=0
def tw12847295031673786526:=0
def tw11221792154904011038:=0
def tw6791577742796032350:=0
def tw879316834211455623:=0
def tw403750667007226631:=0
def tw12858023891957047783:=0
def tw6127805258424797191:=0
def tw16990560862272900167:=0
def tw62240374183755559:=0
def tw14885952168599640263:=0
def tw2688137223371440167:=0
def tw14580005034122265991:=0
def tw12814387143104439100:=0
def tw13643837946829862044:=0
def tw176325646854722844:=0
def tw15841145565629277468:=0
def tw280328573725158748:=0
def tw15969895343770784156:=0
def tw9561531010857969116:=0
def tw3121918029358423516:=0
def tw608843137875819836:=0
def tw15363885789044785820:=0
def tw3252601261253310108:=0
def tw3085002165292793500:=0
def tw6795709118176256380:=0
def tw8907920033940590492:=0
def tw16928931916123788924:=0
def tw3038549527423588773:=0
def tw2232925782091427589:=0
def tw3965227172384808773:=0
def tw6238855222747415205:=0
def tw13956618664730620997:=0
def tw11847263706666649861:=0
def tw13724469052910409029:=0
def tw11159623150769639813:=0
def tw4470246056325445861:=0
def tw17472799211205930330:=0
def tw8284222871420404858:=0
def tw8523482954880313466:=0
def tw2422027225781621274:=0
def tw14539506812382413338:=0
def tw3979210822977227418:=0
def tw13726769605639791322:=0
def tw13736687374944470810:=0
def tw16965883549852740090:=0
def tw17556328340212026874:=0
def tw16112930532173750842:=0
def tw16651716038440232506:=0
def tw17659831316802656154:=0
def tw12037686796752705146:=0
def tw15693471814976849347:=0
def tw8659679931450837155:=0
def tw15770592462802096643:=0
def tw16584769112710626659:=0
def tw6428239213550400515:=0
def tw13080450820073377763:=0
def tw14798708319997063491:=0
def tw7368219369871382488:=0
def tw16081421289079445304:=0
def tw18396818942915885944:=0
def tw790579713012839480:=0
def tw6193293287985360952:=0
def tw1199164267835404888:=0
def tw6122038585832642264:=0
def tw8823023508737151768:=0
def tw11818854619107833400:=0
def tw402142583828632184:=0
def tw18059409153392467873:=0
def tw14676103681612813569:=0
def tw17175452650467160033:=0
def tw7822822835694114113:=0
def tw4344832457013028257:=0
def tw16465732246224673601:=0
def tw8209708811519103873:=0
def tw9414454053059147489:=0
def tw4528753176631232577:=0
def tw9450603834711047233:=0
def tw4689283663207925537:=0
def tw7776775014288982742:=0
def tw8160598998465365494:=0
def tw3368500881918915478:=0
def tw6065306832585142230:=0
def tw13103165328052611094:=0
def tw15911146632601511670:=0
def tw16499945283383565398:=0
def tw11715257634961911958:=0
def tw6542337672373784438:=0
def tw8685853059765607638:=0
def tw10388230637476615446:=0
def tw6362275831511737750:=0
def tw11769133579247499382:=0
def tw8499775748736192630:=0
def tw13779534530255716822:=0
def tw15948326051195689494:=0
def tw17552785339703364118:=0
def tw9870322387169523286:=0
def tw12613969401141182038:=0
def tw5027797777592694070:=0
def tw7907058193978923670:=0
def tw17886725350874662111:=0
def tw7316330155922788287:=0
def tw2031236683523069535:=0
def tw6771588995615639231:=0
def tw11955488353532479167:=0
def tw9174618063047616607:=0
def tw4116332404288672276:=0
def tw3553981409995235188:=0
def tw11364168122567578932:=0
def tw4713264310655990324:=0
def tw10541872248470466228:=0
def tw17872758615288616989:=0
def tw8602213405184460957:=0
def tw11293725885377558525:=0
def tw7393211771611610461:=0
def tw9680322448556030077:=0
def tw9752753694556587485:=0
def tw5555293918746462749:=0
def tw102527821638530653:=0
def tw10332672459412031869:=0
def tw5762535845583436701:=0
def tw7372299461193574130:=0
def tw17892259491633400530:=0
def tw18374018691388399314:=0
def tw4230621908890876210:=0
def tw13592021580246575474:=0
def tw13794170175510108594:=0
def tw906544219146248338:=0
def tw9180599370148064987:=0
def tw16706912993199880699:=0
def tw2394303768296423035:=0
def tw17617116000043364027:=0
def tw4964271628277913691:=0
def tw8375743700933562171:=0
def tw11580655948220061563:=0
def tw14574708627517036763:=0
def tw17375469854743761115:=0
def tw15338053750456298427:=0
def tw1075390636213472539:=0
def tw5474899048185817275:=0
def tw2199910310249345627:=0
def tw13905996225776116027:=0
def tw15650077412739434288:=0
def tw4069521099560896016:=0
def tw7302367087337341584:=0
def tw1271730003130407920:=0
def tw8089248149887135440:=0
def tw1987708820609363664:=0
def tw3819030931057637424:=0
def tw3777133116639811696:=0
def tw16409913551120924752:=0
def tw3575273843805196432:=0
def tw10020687120478649840:=0
def tw7436090115833377328:=0
def tw8972945119714354681:=0
def tw11317742051949648377:=0
def tw1431488361234087833:=0
def tw7979065538217028345:=0
def tw11389743053639970553:=0
def tw14651288921309927289:=0
def tw433742968382193945:=0
def tw6565938195384042841:=0
def tw17549601748288651449:=0
def tw9887409153275332857:=0
def tw14755899460400140537:=0
def tw1072098298405030553:=0
def tw15458717887886391673:=0
def tw11760642062626906254:=0
def tw17365041547006302894:=0
def tw1511606537691070862:=0
def tw17694804660374794030:=0
def tw1432366672331563886:=0
def tw17102888570140163726:=0
def tw10780397257636042510:=0
def tw2946290630398931118:=0
def tw9336296105608847534:=0
def tw16570140709640320366:=0
def tw17416558424556347031:=0
def tw17076216710139642775:=0
def tw2473777725011567575:=0
def tw9801723179549247287:=0
def tw9351699642557059223:=0
def tw4337319813906353015:=0
def tw9917791940575012119:=0
def tw16072363363944575991:=0
def tw7523908964694862167:=0
def tw17153767221708267575:=0
def tw9619540647894885548:=0
def tw16824491584438132012:=0
def tw4181930544436378988:=0
def tw13510011633489685900:=0
def tw7041099343404449836:=0
def tw18154005673544206380:=0
def tw6462518380260236629:=0
def tw5929678017327807125:=0
def tw5674939057815699157:=0
def tw409135813884305109:=0
def tw17433146860167265045:=0
def tw15226798317053935925:=0
def tw7986809146401033653:=0
def tw3309334253630273973:=0
def tw4756500322739533429:=0
def tw2022249485643402506:=0
def tw1513921583350034954:=0
def tw17881169835832014346:=0
def tw1932517266257012234:=0
def tw13783567913108093290:=0
def tw6139201275738636714:=0
def tw1105256448081597866:=0
def tw35669245363668522:=0
def tw8534854295487509642:=0
def tw8853004602720540522:=0
def tw10309073351971927187:=0
def tw15117605536310261235:=0
def tw14044172835072243923:=0
def tw9406779613013257427:=0
def tw3340573194396671315:=0
def tw8611577407454567283:=0
def tw6935977931631082483:=0
def tw1112229337611857075:=0
def tw2006667367806618643:=0
def tw6896388396735573672:=0
def tw4013290380842962664:=0
def tw9030192804727637064:=0
def tw9075852086114577544:=0
def tw16355370186525565064:=0
def tw11858711204238533896:=0
def tw17708383567769440520:=0
def tw13557114152432774536:=0
def tw16323282430531484776:=0
def tw16660528536713586792:=0
def tw2355496300174349480:=0
def tw5302310484793946280:=0
def tw12082929732051074344:=0
def tw11116362788201462184:=0
def tw9374998830397910440:=0
def tw1860861707319251432:=0
def tw17968164721347310056:=0
def tw4576960642719805320:=0
def tw16706429023313202792:=0
def tw6725974559465718001:=0
def tw9882370719696899313:=0
def tw9365104984148226065:=0
def tw1965945781497279569:=0
def tw16918882148204995729:=0
def tw3123951054953427217:=0
def tw2950168607870558833:=0
def tw14844683139702420881:=0
def tw17701914929451300369:=0
def tw17705556256442615313:=0
def tw3090408458227670609:=0
def tw3989993662230290417:=0
def tw1977471592467824401:=0
def tw5225216922506956913:=0
def tw230796139149588491:=0
def tw18129433271047962260:=0
end PySem.W.Fast
set_option bootstrap.genMatcherCode false
set_option compiler.extract_closed false
set_option Elab.async false
set_option linter.all false
set_option maxRecDepth 100000
namespace L2
open PySem PySem.Spec PyProof.Rows
abbrev Key:=Sum Int Str
def aH9:Key->Value->Bool
 | .inl k,v=>Value.isInt k v
 | .inr x,v=>Value.isStrOf x v
def aKl(w:World):Key->Int
 | .inl k=>hashInt k
 | .inr x=>hashStr w x
def bz:∀{k:Key} {v:Value},aH9 k v=true->(∃i t,k=zFY i/\v=zFG i t)\/(∃x t,k=zFZ x/\v=zGt x t)
 | .inl i,v,h=>by
  obtain⟨t,e⟩:=Value.isInt_shape (k:=i) (v:=v) h;exact .inl ⟨i,t,rfl,e⟩
 | .inr x,v,h=>by
  obtain⟨t,e⟩:=Value.isStrOf_shape (x:=x) (v:=v) h;exact .inr ⟨x,t,rfl,e⟩
def aJD(a b:Int):decide ((zFY a:Key)=zFY b)=(a==b):=by
 by_cases e:a=b
 .subst e;simp
 .have h:¬(zFY a:Key)=zFY b:=λ q=>e (Sum.inl.inj q)
  rw[decide_eq_false h];exact(beq_eq_false_iff_ne.mpr e).symm
def aJA(a b:Str):decide ((zFZ a:Key)=zFZ b)=decide (a=b):=by
 by_cases e:a=b
 .subst e;simp
 .have h:¬(zFZ a:Key)=zFZ b:=λ q=>e (Sum.inr.inj q)
  rw[decide_eq_false h,decide_eq_false e]
def aJC(a:Int)(b:Str):decide ((zFY a:Key)=zFZ b)=false:=decide_eq_false (λ q=>nomatch q)
def aJB(a:Str)(b:Int):decide ((zFZ a:Key)=zFY b)=false:=decide_eq_false (λ q=>nomatch q)
def yd(prog:zAY)(w:World):PySem.KeyKind prog w Key where
 is:=aH9
 hash:=aKl w
 inj:=λ v a b ha hb=>by
  rcases bz ha with ⟨i,t,rfl,rfl⟩|⟨x,t,rfl,rfl⟩
  .rcases bz hb with ⟨j,u,rfl,e⟩|⟨y,u,rfl,e⟩
   .injection e with e1 _;rw[e1]
   .exact nomatch e
  .rcases bz hb with ⟨j,u,rfl,e⟩|⟨y,u,rfl,e⟩
   .exact nomatch e
   .injection e with e1 _;rw[e1]
 byValue:=λ k v h=>by
  rcases bz h with ⟨i,t,rfl,rfl⟩|⟨x,t,rfl,rfl⟩<;>rfl
 pyHash:=λ hv h=>by
  rcases bz hv with ⟨i,t,rfl,rfl⟩|⟨x,t,rfl,rfl⟩
  .exact wpAny_pyHash_int h
  .exact wpAny_pyHash_str h
 eqBool:=λ hu hv h=>by
  rcases bz hu with ⟨i,t,rfl,rfl⟩|⟨x,t,rfl,rfl⟩
  .rcases bz hv with ⟨j,u,rfl,rfl⟩|⟨y,u,rfl,rfl⟩
   .rw[aJD]at h;exact wpAny_eqBool_int h
   .rw[aJC]at h;exact zFc i t y u _ _ _ _ h
  .rcases bz hv with ⟨j,u,rfl,rfl⟩|⟨y,u,rfl,rfl⟩
   .rw[aJB]at h;exact zFd x t j u _ _ _ _ h
   .rw[aJA]at h;exact wpAny_eqBool_str h
 «strs»:=λ k x t v h=>by
  rcases bz h with ⟨i,u,rfl,e⟩|⟨y,u,rfl,e⟩
  .exact nomatch e
  .injection e with e1 _
   subst e1;cases v<;>rfl
inductive V where
 |non|bl (b:Bool)|int (i:Int)|str (x:Str)|byt (b:Array UInt8)|flt (b:UInt64)|ref (a:Addr)|ty (n:String)
 deriving DecidableEq
def RelV:V->Value->Prop
 | .non,u=>u=zEg
 | .bl b,u=>u=zCa b
 | .int i,u=>∃t,u=zFG i t
 | .str x,u=>∃t,u=zGt x t
 | .byt b,u=>∃t,u=Value.bytes b t
 | .flt b,u=>∃t,u=zH6 b t
 | .ref a,u=>u=zBx a
 | .ty n,u=>u=zCk n
abbrev Vals:List V->List Value->Prop:=zFE RelV
theorem Vals.length(r:Vals xs us):xs.length=us.length:=zHB r
theorem Vals.get:∀{xs:List V} {us:List Value} {i:Nat} {x:V},Vals xs us->xs[i]? =some x->∃u,us[i]? =some u/\RelV x u
 |_,_,_,_,.nil,e=>by simp at e
 |_,_,0,_,.cons r _,e=>by simp at e;subst e;exact⟨_,rfl,r⟩
 |_,_,i+1,x,.cons _ t,e=>by
  obtain⟨u,h1,h2⟩:=Vals.get (i:=i) (x:=x) t (by simpa using e);exact⟨u,by simpa using h1,h2⟩
theorem Vals.append:∀{xs ys:List V} {us ws:List Value},Vals xs us->Vals ys ws->Vals (xs++ys) (us++ws)
 |_,_,_,_,.nil,s=>s
 |_,_,_,_,.cons r t,s=>.cons r (Vals.append t s)
theorem Vals.take:∀{xs:List V} {us:List Value} (n:Nat),Vals xs us->Vals (xs.take n) (us.take n)
 |_,_,0,_=>.nil
 |_,_,_+1,.nil=>.nil
 |_,_,n+1,.cons r t=>.cons r (Vals.take n t)
theorem Vals.drop:∀{xs:List V} {us:List Value} (n:Nat),Vals xs us->Vals (xs.drop n) (us.drop n)
 |_,_,0,r=>r
 |_,_,_+1,.nil=>.nil
 |_,_,n+1,.cons _ t=>Vals.drop n t
def aDB:Option V->Option Value->Prop
 |some v,some u=>RelV v u
 |none,none=>True
 |_,_=>False
def KV{κ:Type}:List (κ×V)->List (κ×Value)->Prop:=zFE λ(p:κ×V) (q:κ×Value)=>p.1=q.1/\RelV p.2 q.2
def kV:Key->V
 | .inl i=>.int i
 | .inr x=>.str x
inductive HO where
 |lst (xs:List V)
 |tup (xs:List V)
 |dK (kvs:List (Key×V))|dT (kvs:List (List Key×V))
 |set (S:Int->Bool) (n:Nat)
 |ins (C dx:Addr) (fs:List (Str×V))
 |own (x:Addr)
 |xd (fs:List (Str×V))
 |met (f x:Addr)
 |rng (lo hi:Int)
 |frz (o:Obj) (u:HO)
 |tbl (ps:Array Value)
 |ext (φ:Heap->Prop)
abbrev Hp:=Addr->Option HO
def upd(H:Hp)(a:Addr)(o:HO):Hp:=λ b=>if b=a then some o else H b
def aX:upd H a o a=some o:=by unfold upd;rw[if_pos rfl]
def aU(h:b≠a):upd H a o b=H b:=by unfold upd;rw[if_neg h]
def bV{H:Hp}{a b:Addr}{o:HO}(h:H a=some o)(h':H b=none):a≠b:=by
 intro e;subst e;rw[h]at h';cases h'
def NoD(h:Heap)(a:Addr):Prop:=∀o,h.get? a=some o->o.dict=none
theorem NoD.push(h:Heap){o:Obj}(hl:o.isFreed=false:=by rfl)(hd:o.dict=none:=by rfl):NoD (h.push o) h.objs.size:=λ u e=>by rw[zA3 _ hl]at e;cases e;exact hd
def NoD.keep{h h':Heap}{a:Addr}{o:Obj}(n:NoD h a)(e:h.get? a=some o)(e':h'.get? a=some o):NoD h' a:=λ u q=>by rw[e']at q;cases q;exact n o e
section
variable(P:zAY)(w:World)
def cM(H:Hp)(h:Heap)(a:Addr):HO->Prop
 | .lst xs=>xs.length<=zAV/\∃(its:List Value) (n:Nat),Vals xs its/\h.get? a=some {cls:=.type "list",data:=.seq its.toArray n}
 | .tup xs=>(xs.length<=zAV/\NoD h a)/\∃its:List Value,Vals xs its/\IsTup h a its.toArray
 | .dK kvs=>kvs.length<=zAV/\(a==zDx)=false/\∃vs,KV kvs vs/\h.DictOf (yd P w) a vs
 | .dT kvs=>kvs.length<=zAV/\(a==zDx)=false/\∃xs:List (List Key×Addr×Value),
   zFE (λ(p:List Key×V) (q:List Key×Addr×Value)=>p.1=q.1/\H q.2.1=some (.tup (p.1.map kV))/\RelV p.2 q.2.2) kvs xs/\
   ∃o es ep,h.get? a=some o/\o.ExactDict/\o.data= .dict es ep/\es.toList=xs.map (entryOfKey (tupleKind (yd P w)))/\(xs.map (·.1)).Nodup
 | .set S n=>h.SetOf (zG4 P w) a S n
 | .ins C dx fs=>H dx=some (.own a)/\fs.length<=1000/\dx≠a/\h.get? a=some (zCL C dx)/\
   ∃mA,h.Ns1 dx mA/\(∀f,aDB (fs.lookup f) (mA f))/\zHR mA (fs.map (·.1))
 | .own _=>∃o,h.get? a=some o
 | .xd fs=>∃mA,h.Ns1 a mA/\∀f,aDB (fs.lookup f) (mA f)
 | .rng lo hi=>∃t u v,h.get? a=some {cls:=.type "range",data:=.fields #[.int lo t,.int hi u,.int 1 v]}
 | .frz o u=>h.get? a=some o/\cM H h a u
 | .tbl ps=>h.get? a=some {cls:=.none,data:=.fields ps}
 | .met f x=>h.get? a=some (zEY (.ref f) (.ref x))
 | .ext φ=>φ h/\(∃o,h.get? a=some o)/\∀h1 h2:Heap,φ h1->(∀o,h1.get? a=some o->h2.get? a=some o)->φ h2
def HOk(H:Hp)(h:Heap):Prop:=∀a o,H a=some o->cM P w H h a o
end
section
variable{P:zAY}{w:World}{H H':Hp}{h h':Heap}{a:Addr}{o:HO}
theorem cM.lt(x:cM P w H h a o):a<h.objs.size:=by
 cases o with
 |lst xs=>obtain⟨_,_,_,_,e⟩:=x;exact zAU e
 |tup xs=>obtain⟨_,_,_,p⟩:=x;exact p.lt
 |dK kvs=>obtain⟨_,_,_,_,o,_,_,e,_⟩:=x;exact zAU e
 |dT kvs=>obtain⟨_,_,_,_,o,_,_,e,_⟩:=x;exact zAU e
 |set S n=>obtain⟨o,_,_,_,e,_⟩:=x;exact zAU e
 |ins C dx fs=>obtain⟨_,_,_,e,_⟩:=x;exact zAU e
 |own y=>obtain⟨_,e⟩:=x;exact zAU e
 |xd fs=>obtain⟨_,⟨_,_,_,e,_⟩,_⟩:=x;exact zAU e
 |rng lo hi=>obtain⟨_,_,_,e⟩:=x;exact zAU e
 |frz ob u=>obtain⟨e,_⟩:=x;exact zAU e
 |tbl ps=>exact zAU (show h.get? a=some _ from x)
 |met f y=>exact zAU (show h.get? a=some _ from x)
 |ext φ=>obtain⟨_,⟨_,e⟩,_⟩:=x;exact zAU e
theorem Paired.mapP:∀{l₁:List α} {l₂:List β},zFE F l₁ l₂->(∀a b,F a b->G a b)->zFE G l₁ l₂
 |_,_,.nil,_=>.nil
 |_,_,.cons r t,f=>.cons (f _ _ r) (Paired.mapP t f)
def cM.stay(x:cM P w H h a o)(k:∀b u,(b=a\/H b=some (.own a))->h.get? b=some u->h'.get? b=some u)
  (ho:∀b,H b=some (.own a)->H' b=some (.own a))(ht:∀b xs,H b=some (.tup xs)->H' b=some (.tup xs)):cM P w H' h' a o:=by
 induction o with
 |lst xs=>obtain⟨z,its,n,r,e⟩:=x;exact⟨z,its,n,r,k _ _ (.inl rfl) e⟩
 |tup xs=>obtain⟨z,its,r,ob,e,c⟩:=x;exact⟨⟨z.1,z.2.keep e (k _ _ (.inl rfl) e)⟩,its,r,ob,k _ _ (.inl rfl) e,c⟩
 |dK kvs=>obtain⟨z,y,vs,r,ob,es,ep,e,c⟩:=x;exact⟨z,y,vs,r,ob,es,ep,k _ _ (.inl rfl) e,c⟩
 |dT kvs=>
  obtain⟨z,y,xs,r,ob,es,ep,e,c⟩:=x;exact⟨z,y,xs,Paired.mapP r λ p q z=>⟨z.1,ht _ _ z.2.1,z.2.2⟩,ob,es,ep,k _ _ (.inl rfl) e,c⟩
 |set S n=>obtain⟨ob,es,ep,t,e,c⟩:=x;exact⟨ob,es,ep,t,k _ _ (.inl rfl) e,c⟩
 |ins C dx fs=>
  obtain⟨d,z,ne,e,mA,⟨od,es,ep,e2,c⟩,r⟩:=x;exact⟨ho _ d,z,ne,k _ _ (.inl rfl) e,mA,⟨od,es,ep,k _ _ (.inr d) e2,c⟩,r⟩
 |own y=>obtain⟨ob,e⟩:=x;exact⟨ob,k _ _ (.inl rfl) e⟩
 |xd fs=>obtain⟨mA,⟨od,es,ep,e,c⟩,r⟩:=x;exact⟨mA,⟨od,es,ep,k _ _ (.inl rfl) e,c⟩,r⟩
 |rng lo hi=>obtain⟨t,u,v,e⟩:=x;exact⟨t,u,v,k _ _ (.inl rfl) e⟩
 |frz ob u ih=>obtain⟨e,q⟩:=x;exact⟨k _ _ (.inl rfl) e,ih q⟩
 |tbl ps=>
  have e:h.get? a=some {cls:=.none,data:=.fields ps}:=x;show h'.get? a=some {cls:=.none,data:=.fields ps};exact k a _ (.inl rfl) e
 |met f y=>
  have e:h.get? a=some (zEY (.ref f) (.ref y)):=x;show h'.get? a=some (zEY (.ref f) (.ref y));exact k a _ (.inl rfl) e
 |ext φ=>obtain⟨p,⟨o,e⟩,st⟩:=x;exact⟨st _ _ p λ o q=>k _ _ (.inl rfl) q,⟨o,k _ _ (.inl rfl) e⟩,st⟩
theorem HOk.lt(x:HOk P w H h)(e:H a=some o):a<h.objs.size:=(x a o e).lt
def HOk.fresh(x:HOk P w H h)(e:h.objs.size<=a):H a=none:=by
 cases q:H a with
 |none=>rfl
 |some u=>exact absurd (zAS (x.lt q) e) (zBe _)
def HOk.kept(x:HOk P w H h)(k:∀b u,h.get? b=some u->h'.get? b=some u):HOk P w H h':=λ a o e=>
 (x a o e).stay (λ b u _ q=>k b u q) (λ _ q=>q) λ _ _ q=>q
def HOk.laid(x:HOk P w H h)(k:∀b u,h.get? b=some u->h'.get? b=some u)(hp:h.objs.size<=a)(new:cM P w (upd H a o) h' a o):HOk P w (upd H a o) h':=λ b u e=>by
 have hn:=x.fresh hp;by_cases hb:b=a
 .subst hb;rw[aX]at e;cases e;exact new
 .rw[aU hb]at e
  exact(x b u e).stay (λ c v _ q=>k c v q) (λ c q=>by rw[aU (bV q hn)];exact q) λ c xs q=>by rw[aU (bV q hn)];exact q
end
def Rd(H:Hp)(a:Addr)(u:HO):Prop:=H a=some u\/∃o,H a=some (.frz o u)
def Rd.ok(r:Rd H a u)(x:HOk P w H h):cM P w H h a u:=by
 rcases r with r|⟨o,r⟩
 .exact x a u r
 .obtain⟨_,q⟩:=x a _ r
  exact q
def Mut:Option HO->Prop
 |some (.lst _)=>True
 |some (.dK _)=>True
 |some (.dT _)=>True
 |some (.set _ _)=>True
 |some (.ins _ _ _)=>True
 |some (.ext _)=>True
 |_=>False
section
variable{P:zAY}{w:World}{H:Hp}{h h':Heap}{x e:Addr}{o':HO}
def HOk.write(ok:HOk P w H h)(mu:Mut (H x))(he:e=x\/H e=some (.own x))(k:∀b u,b≠e->h.get? b=some u->h'.get? b=some u)(heo:∃u,h'.get? e=some u)
  (new:cM P w (upd H x o') h' x o'):HOk P w (upd H x o') h':=λ b u q=>by
 have nown:∀c y,H c=some (.own y)->c≠x:=λ c y r z=>by subst z;rw[r]at mu;exact mu
 have ntup:∀c xs,H c=some (.tup xs)->c≠x:=λ c xs r z=>by subst z;rw[r]at mu;exact mu
 by_cases hb:b=x
 .subst hb;rw[aX]at q;cases q;exact new
 .rw[aU hb]at q
  by_cases hbe:b=e
  .have q':H b=some (.own x):=by
    rcases he with z|z
    .exact absurd (hbe.trans z) hb
    .rw[hbe];exact z
   rw[q]at q';cases q';obtain⟨v,hv⟩:=heo;exact⟨v,by rw[hbe];exact hv⟩
  .refine(ok b u q).stay (λ c v hc r=>k c v ?_ r) (λ c r=>by rw[aU (nown c b r)];exact r) λ c xs r=>by rw[aU (ntup c xs r)];exact r
   rcases hc with rfl|hc
   .exact hbe
   .rintro rfl
    rcases he with z|z
    .exact nown c b hc z
    .rw[hc]at z;cases z;exact hb rfl
end
structure Un(fs ex:List Addr)(H H':Hp)(h h':Heap):Prop where
 keep:∀b o,h.get? b=some o->H b=none->b∉fs->b∉ex->h'.get? b=some o
 slot:∀b o,h.get? b=some o->H b=none->b∈fs->b∉ex->∃sl,h'.get? b=some {o with slots:=sl}
 free:∀b o,h.get? b=some o->H b=none->b∉ex->H' b=none
 there:∀b o,h.get? b=some o->b∉ex->∃o',h'.get? b=some o'
 tups:∀b xs,H b=some (.tup xs)->H' b=some (.tup xs)
 frzs:∀b o u,H b=some (.frz o u)->H' b=some (.frz o u)
 tbls:∀b ps,H b=some (.tbl ps)->∃more,H' b=some (.tbl (ps++more))
section
variable{fs fs' ex ex':List Addr}{H H1:Hp}{h h1 h':Heap}{a x e:Addr}{o:HO}
def Un.any(u:Un fs ex H H1 h h1)(q:h.get? b=some ob)(n:H b=none)(hx:b∉ex):∃sl,h1.get? b=some {ob with slots:=sl}:=by
 by_cases hb:b∈fs
 .exact u.slot b ob q n hb hx
 .exact⟨ob.slots,u.keep b ob q n hb hx⟩
def Un.kept(k:∀b u,h.get? b=some u->h'.get? b=some u):Un fs ex H H h h':=
 ⟨λ b ob q _ _ _=>k b ob q,λ b ob q _ _ _=>⟨ob.slots,k b ob q⟩,λ _ _ _ n _=>n,λ b ob q _=>⟨ob,k b ob q⟩,λ _ _ q=>q,λ _ _ _ q=>q,λ _ ps q=>⟨#[],by rw[q];simp⟩⟩
def Un.refl:Un fs ex H H h h:=Un.kept λ _ _ q=>q
def Un.laid(k:∀b u,h.get? b=some u->h'.get? b=some u)(hp:h.objs.size<=a)(hn:H a=none):Un fs ex H (upd H a o) h h' where
 keep:=λ b u q _ _ _=>k b u q
 slot:=λ b u q _ _ _=>⟨u.slots,k b u q⟩
 free:=λ b u q n _=>by rw[aU (zA6 (zAS (zAU q) hp))];exact n
 there:=λ b u q _=>⟨u,k b u q⟩
 tups:=λ b xs q=>by rw[aU (bV q hn)];exact q
 frzs:=λ b u xs q=>by rw[aU (bV q hn)];exact q
 tbls:=λ b ps q=>⟨#[],by rw[aU (bV q hn),q];simp⟩
def Un.write(mu:Mut (H x))(he:e=x\/H e=some (.own x))(k:∀b u,b≠e->h.get? b=some u->h'.get? b=some u)(heo:∃u,h'.get? e=some u):Un fs ex H (upd H x o) h h':=by
 have hx:∀b,H b=none->b≠x:=λ b n z=>by subst z;rw[n]at mu;exact mu
 have hb:∀b,H b=none->b≠e:=λ b n z=>by
  subst z;rcases he with r|r
  .exact hx b n r
  .rw[n]at r;cases r
 have hm:∀b u,H b=some u->¬Mut (some u)->b≠x:=λ b u q nm z=>by subst z;rw[q]at mu;exact nm mu
 refine⟨λ b u q n _ _=>k b u (hb b n) q,λ b u q n _ _=>⟨u.slots,k b u (hb b n) q⟩,λ b u q n _=>by rw[aU (hx b n)];exact n,λ b u q _=>?_,
  λ b xs q=>by rw[aU (hm b _ q λ z=>z)];exact q,λ b u xs q=>by rw[aU (hm b _ q λ z=>z)];exact q,λ b ps q=>⟨#[],by rw[aU (hm b _ q λ z=>z),q];simp⟩⟩
 by_cases hbe:b=e
 .subst hbe;exact heo
 .exact⟨u,k b u hbe q⟩
def Un.mono(u:Un fs ex H H1 h h1)(hs:∀b∈fs,b∈fs')(hx:∀b∈ex,b∈ex'):Un fs' ex' H H1 h h1:=
 ⟨λ b ob q n hb he=>u.keep b ob q n (λ z=>hb (hs b z)) λ z=>he (hx b z),λ _ _ q n _ he=>u.any q n λ z=>he (hx _ z),λ b ob q n he=>u.free b ob q n λ z=>he (hx b z),λ b ob q he=>u.there b ob q λ z=>he (hx b z),u.tups,u.frzs,u.tbls⟩
end
def trk(h:Heap)(H:Hp):List Addr:=(zBM h.objs.size).filter λ a=>(H a).isSome
def aEu(h:Heap)(H:Hp):Heap:=zBv h (trk h H)
def aCn(h:Heap)(H:Hp):(aEu h H).objs.size=h.objs.size:=zDv _ _
def aEt(e:h.get? b=some o)(n:H b=none):(aEu h H).get? b=some o:=
 zCR _ e λ hm=>by
  have q:(H b).isSome=true:=(zBX.mp hm).2;rw[n]at q;simp at q
def aGZ(e:(aEu h H).get? b=some o):h.get? b=some o/\H b=none:=by
 have e':h.get? b=some o:=zD1 (trk h H) e;refine⟨e',?_⟩;cases q:H b with
 |none=>rfl
 |some x=>
  have hm:b∈trk h H:=zBX.mpr ⟨zBb.mpr (zAU e'),by simp[q]⟩;have z:(aEu h H).get? b=none:=zDu (trk h H) hm;rw[z]at e;cases e
def aHL(g h:Heap)(L:Addr):List (Addr×Obj):=(zBM h.objs.size).filterMap λ a=>if a=L\/(g.get? a).isSome=true then none else(h.get? a).map λ o=>(a,o)
def rest(g h:Heap)(L d:Addr):List (Addr×Obj):=(aHL g h L).filter λ p=>decide (p.1≠d)
structure Mod(K:zAA)(mg:Str->Option Value)(base:Heap):Prop where
 kin:K.In base
 glob:base.Ns zA5 mg
 blt:∃mb,base.Ns zH8 mb/\∀x:Str,x≠"__name__"->mb x=zBR x
 nolimit:base.NoLimit
structure Cx where
 prog:zAY
 w:World
 K:zAA
 mg:Str->Option Value
 base:Heap
 A:zAd
 N:List Str
 z5:zAD
 z4:Hp
 env:Env
 outer:List Env
 stack:List Env
 ex:List Addr
 fn:Str->Bool
 calm:Bool
 pn:List (Addr×Obj)
 xe:Value->zAD->Prop
 ta:List (Addr×Obj):=[]
 tq:Str:=""
def frs(l:List Env):List Addr:=l.filterMap (·.frame)
abbrev Cx.fs(X:Cx):List Addr:=frs X.outer
def Vis(sc:Scope)(x:Str):Prop:=sc.names.lookup x=some .local\/sc.names.lookup x=some .cell\/sc.names.lookup x=some .free
def Loc(sc:Scope)(x:Str):Prop:=sc.names.lookup x=some .local\/sc.names.lookup x=some .cell
def Look(env:Env)(h:Heap)(m:Str->Option Value)(x:Str)(u:Value):Prop:=
 (env.kindOf x=some .local/\m x=some u)\/((env.kindOf x=some .cell\/env.kindOf x=some .free)/\∃c,env.cells.lookup x=some c/\h.IsCell c (some u))
structure Cx.Ok(X:Cx):Prop where
 mod:Mod X.K X.mg X.base
 kind:X.env.scope.kind= .function
 glob:X.env.globals=zA5
 blt:X.env.builtins=zH8
 above:X.z5.heap.objs.size<=X.env.locals
 inj:∀x y c,X.env.cells.lookup x=some c->X.env.cells.lookup y=some c->x=y
 has:∀x,(X.env.kindOf x=some .cell\/X.env.kindOf x=some .free)->∃c,X.env.cells.lookup x=some c
 cab:∀x c,X.fn x=true->X.env.cells.lookup x=some c->X.z5.heap.objs.size<=c
 hd:X.calm=true->X.A.handled=none
 frames:X.A.frames=some X.stack
 stk:X.stack=X.outer\/(X.stack=X.env::X.outer/\X.env.frame=some X.env.locals)
 exf:∀b∈X.ex,b≠X.env.locals/\∀x c,X.env.cells.lookup x=some c->c≠b
 bs:∀b o,X.base.get? b=some o->X.z5.heap.get? b=some o/\X.z4 b=none
 bsz:X.base.objs.size<=X.z5.heap.objs.size
 noex:∀b o,X.base.get? b=some o->b∉X.ex
 exfs:∀b∈X.ex,b∉X.fs
 funs:X.z5.heap.FunFrames X.base X.outer
 frf:∀b∈X.fs,X.z4 b=none
def aHi(q:Str)(oc:Obj):Prop:=∃vs t,oc.data= .fields vs/\vs[1]? =some (.str q t)
def TabOk(q:Str)(H:Hp)(ps:Array Value):Prop:=TriplesOk ps.toList/\∀pos cv,zFJ pos ps.toList=some cv->∃c' oc,cv= .ref c'/\H c'=some (.frz oc (.own c'))/\aHi q oc
def TabOk.mono(t:TabOk q H ps)(f:∀b o u,H b=some (.frz o u)->H' b=some (.frz o u)):TabOk q H' ps:=⟨t.1,λ pos cv hc=>let⟨c',oc,z,a,b⟩:=t.2 pos cv hc;⟨c',oc,z,f _ _ _ a,b⟩⟩
structure Inv(X:Cx)(pins:List (Addr×Obj))(Z:List (Option V))(H:Hp)(s:zAD):Prop where
 ok:X.Ok
 os:s.os=X.z5.os
 bare:zEU s.gens
 base:Un X.fs X.ex X.z4 H X.z5.heap s.heap
 loc:∃m,s.heap.Ns X.env.locals m/\∀(i:Nat) (x:Str) (v:V),X.N[i]? =some x->Z[i]? =some (some v)->Vis X.env.scope x->∃u,RelV v u/\Look X.env s.heap m x u
 cell:∀x c,X.env.cells.lookup x=some c->∃v,s.heap.IsCell c v
 free:H X.env.locals=none
 freeC:∀x c,X.env.cells.lookup x=some c->H c=none
 pin:∀p∈X.pn++pins,s.heap.get? p.1=some p.2/\H p.1=none/\p.1≠X.env.locals/\p.1∉X.fs/\∀v,p.2.data≠.cell v
 hok:HOk X.prog X.w H s.heap
 len:Z.length=X.N.length
 tab:∀p∈X.ta,H p.1=none/\p.1≠X.env.locals/\p.1∉X.fs/\(∀q∈X.pn++pins,q.1≠p.1)/\∃ps,s.heap.get? p.1=some {cls:=.none,data:=.fields ps}/\TabOk X.tq H ps
section
variable{X:Cx}{pins:List (Addr×Obj)}{Z:List (Option V)}{H H':Hp}{s:zAD}{h':Heap}
def Cx.Ok.nofr(ok:X.Ok)(e:X.base.get? b=some o):b∉X.fs:=λ hb=>by
 have:=(ok.funs.mem hb).1
 rw[e]at this;cases this
theorem Inv.bs(I:Inv X pins Z H s):∀b o,X.base.get? b=some o->s.heap.get? b=some o/\H b=none:=λ b o e=>
 ⟨I.base.keep b o (I.ok.bs b o e).1 (I.ok.bs b o e).2 (I.ok.nofr e) (I.ok.noex b o e),I.base.free b o (I.ok.bs b o e).1 (I.ok.bs b o e).2 (I.ok.noex b o e)⟩
def Inv.bk(I:Inv X pins Z H s):∀b o,X.base.get? b=some o->s.heap.get? b=some o:=λ b o e=>(I.bs b o e).1
theorem Inv.mod(I:Inv X pins Z H s):Mod X.K X.mg X.base:=I.ok.mod
def Inv.kIn(I:Inv X pins Z H s):X.K.In s.heap:=I.ok.mod.kin.keeps I.bk
def Inv.fr(I:Inv X pins Z H s):∃m,Fr X.base X.env.locals s.heap m:=
 let⟨m,hn,_⟩:=I.loc
 ⟨m,hn,I.bk,zAk I.ok.bsz I.ok.above⟩
theorem Inv.lt(I:Inv X pins Z H s):X.env.locals<s.heap.objs.size:=let⟨_,hn,_⟩:=I.loc;hn.lt
def Inv.sz(I:Inv X pins Z H s):X.z5.heap.objs.size<=s.heap.objs.size:=zAk I.ok.above (zC8 I.lt)
def Inv.nofs(I:Inv X pins Z H s)(h:s.heap.objs.size<=a):a∉X.fs:=λ hb=>by
 obtain⟨_,o,ho,_⟩:=I.ok.funs.mem hb;exact absurd (zAS (zAU ho) (zAk I.sz h)) (zBe _)
def Inv.cne(I:Inv X pins Z H s):∀x c,X.env.cells.lookup x=some c->c≠X.env.locals:=λ x c e z=>by
 obtain⟨v,o,ho,hd⟩:=I.cell x c e;obtain⟨m,⟨o',es,ep,ho',hd',_⟩,_⟩:=I.loc;rw[z,ho']at ho;cases ho;rw[hd']at hd;cases hd
theorem Inv.funs(I:Inv X pins Z H s):s.heap.FunFrames X.base X.outer:=by
 have all:∀(l:List Env),(∀b∈frs l,b∈X.fs)->X.z5.heap.FunFrames X.base l->s.heap.FunFrames X.base l:=by
  intro l;induction l with
  |nil=>intro _ _;trivial
  |cons env r ih=>
   intro hs hl;obtain⟨hk,⟨L,o,hf,hn,ho,hd⟩,hr⟩:=hl;have hL:L∈X.fs:=hs L (by unfold frs;rw[zBm,hf];exact zAN);obtain⟨sl,e⟩:=I.base.slot L o ho (I.ok.frf L hL) hL λ z=>I.ok.exfs L z hL
   exact⟨hk,⟨L,_,hf,hn,e,hd⟩,ih (λ b hb=>hs b (by unfold frs;rw[zBm,hf];exact zAX _ hb)) hr⟩
 exact all X.outer (λ _ hb=>hb) I.ok.funs
theorem Inv.stack(I:Inv X pins Z H s):s.heap.FunFrames X.base X.stack:=by
 rcases I.ok.stk with e|⟨e,hf⟩
 .rw[e];exact I.funs
 .rw[e]
  obtain⟨m,hn,_⟩:=I.loc;refine .cons (by rw[I.ok.kind];decide) hf hn ?_ I.funs;exact Heap.get?_none_of_le (zAk I.ok.bsz I.ok.above)
def Inv.stkSub(I:Inv X pins Z H s):∀b∈frs X.stack,b∈X.env.locals::X.fs:=λ b hb=>by
 rcases I.ok.stk with e|⟨e,hf⟩
 .rw[e]at hb;exact zAX _ hb
 .rw[e]at hb
  unfold frs at hb;rw[zBm,hf]at hb;exact hb
def Inv.stkFree(I:Inv X pins Z H s):∀b∈frs X.stack,H b=none:=λ b hb=>by
 rcases zAT.mp (I.stkSub b hb)with e|hb
 .rw[e];exact I.free
 .obtain⟨_,o,ho,_⟩:=I.ok.funs.mem hb
  exact I.base.free b o ho (I.ok.frf b hb) λ z=>I.ok.exfs b z hb
def Inv.step{g':Array zE6}{t':Nat}{d':Drawn}{ch:List Addr}(I:Inv X pins Z H s)
  (hch:∀b∈ch,(b∈X.ex\/X.z5.heap.objs.size<=b)/\b≠X.env.locals/\(∀x c,X.env.cells.lookup x=some c->c≠b)/\∀p∈X.ta++(X.pn++pins),p.1≠b)
  (keep:∀b o,b≠X.env.locals->b∉X.fs->b∉ch->s.heap.get? b=some o->H b=none->h'.get? b=some o)
  (slot:∀b o,b≠X.env.locals->b∈X.fs->b∉ch->s.heap.get? b=some o->H b=none->∃sl,h'.get? b=some {o with slots:=sl})(free:∀b o,b∉ch->s.heap.get? b=some o->H b=none->H' b=none)
  (there:∀b o,b∉ch->s.heap.get? b=some o->∃o',h'.get? b=some o')
  (tups:∀b xs,H b=some (.tup xs)->H' b=some (.tup xs))(frzs:∀b o u,H b=some (.frz o u)->H' b=some (.frz o u))(tbls:∀b ps,H b=some (.tbl ps)->∃more,H' b=some (.tbl (ps++more)))
  (ns:∀m,s.heap.Ns X.env.locals m->h'.Ns X.env.locals m)(hok:HOk X.prog X.w H' h')(hg:zEU g'):
  Inv X pins Z H' {s with heap:=h',gens:=g',drawn:=d',toks:=t'}:=by
 have neL:∀b o,X.z5.heap.get? b=some o->b≠X.env.locals:=λ b o e=>zA6 (zAS (zAU e) I.ok.above)
 have neC:∀b o,X.z5.heap.get? b=some o->b∉X.ex->b∉ch:=λ b o e hx hb=>by
  rcases(hch b hb).1 with z|z
  .exact hx z
  .exact absurd (zAS (zAU e) z) (zBe _)
 have cellK:∀x c,X.env.cells.lookup x=some c->∀v,s.heap.IsCell c v->h'.IsCell c v:=λ x c e v ⟨o,ho,hd⟩=>by
  have nch:c∉ch:=λ z=>(hch c z).2.2.1 x c e rfl
  by_cases hc:c∈X.fs
  .obtain⟨sl,q⟩:=slot c o (I.cne x c e) hc nch ho (I.freeC x c e)
   exact⟨_,q,hd⟩
  .exact⟨o,keep c o (I.cne x c e) hc nch ho (I.freeC x c e),hd⟩
 refine⟨I.ok,I.os,hg,⟨λ b o e n hb hx=>?_,λ b o e n hb hx=>?_,λ b o e n hx=>?_,λ b o e hx=>?_,λ b xs e=>tups b xs (I.base.tups b xs e),λ b o xs e=>frzs b o xs (I.base.frzs b o xs e),λ b ps e=>?_⟩,?_,λ x c e=>?_,?_,λ x c e=>?_,λ p hp=>?_,hok,I.len,λ p hp=>?_⟩
 .exact keep b o (neL b o e) hb (neC b o e hx) (I.base.keep b o e n hb hx) (I.base.free b o e n hx)
 .obtain⟨sl,e1⟩:=I.base.slot b o e n hb hx
  obtain⟨sl',e2⟩:=slot b _ (neL b o e) hb (neC b o e hx) e1 (I.base.free b o e n hx);exact⟨sl',e2⟩
 .obtain⟨o',e1⟩:=I.base.there b o e hx
  exact free b o' (neC b o e hx) e1 (I.base.free b o e n hx)
 .obtain⟨o',e1⟩:=I.base.there b o e hx
  exact there b o' (neC b o e hx) e1
 .obtain⟨m1,e1⟩:=I.base.tbls b ps e
  obtain⟨m2,e2⟩:=tbls b _ e1;exact⟨m1++m2,by rw[e2,zGL]⟩
 .obtain⟨m,hn,hl⟩:=I.loc
  refine⟨m,ns m hn,λ i x v e1 e2 e3=>?_⟩;obtain⟨u,r,l⟩:=hl i x v e1 e2 e3;refine⟨u,r,?_⟩;rcases l with l|⟨k,c,e,z⟩
  .exact .inl l
  .exact .inr ⟨k,c,e,cellK x c e _ z⟩
 .obtain⟨v,z⟩:=I.cell x c e
  exact⟨v,cellK x c e v z⟩
 .obtain⟨m,⟨o,_,_,ho,_⟩,_⟩:=I.loc
  exact free _ o (λ z=>(hch _ z).2.1 rfl) ho I.free
 .obtain⟨v,o,ho,hd⟩:=I.cell x c e
  exact free c o (λ z=>(hch c z).2.2.1 x c e rfl) ho (I.freeC x c e)
 .obtain⟨e,n,ne,nf,d⟩:=I.pin p hp
  have nch:p.1∉ch:=λ z=>(hch p.1 z).2.2.2 p (zA1 _ hp) rfl
  exact⟨keep p.1 p.2 ne nf nch e n,free p.1 p.2 nch e n,ne,nf,d⟩
 .obtain⟨n,ne,nf,np,ps,e,t⟩:=I.tab p hp
  have nch:p.1∉ch:=λ z=>(hch p.1 z).2.2.2 p (zA8 _ hp) rfl
  exact⟨free p.1 _ nch e n,ne,nf,np,ps,keep p.1 _ ne nf nch e n,t.mono frzs⟩
def Inv.pinL(I:Inv X pins Z H s)(hp:p∈X.ta++(X.pn++pins)):p.1<s.heap.objs.size:=by
 rcases zAq.mp hp with z|z
 .obtain⟨_,_,_,_,_,e,_⟩:=I.tab p z
  exact zAU e
 .exact zAU (I.pin p z).1
def Inv.un{t':Nat}(I:Inv X pins Z H s)(u:Un X.fs [] H H' s.heap h')(hok:HOk X.prog X.w H' h'):Inv X pins Z H' {s with heap:=h',toks:=t'}:=by
 obtain⟨m,⟨o,es,ep,ho,r⟩,_⟩:=id I.loc;obtain⟨sl,hL⟩:=u.any ho I.free (by simp);exact I.step (g':=s.gens) (d':=s.drawn) (ch:=[]) (λ _ z=>nomatch z) (λ b o _ hb _ e n=>u.keep b o e n hb (by simp)) (λ b o _ hb _ e n=>u.slot b o e n hb (by simp)) (λ b o _ e n=>u.free b o e n (by simp)) (λ b o _ e=>u.there b o e (by simp)) u.tups u.frzs u.tbls (λ m' hm=>by
  obtain⟨o',es',ep',ho',r'⟩:=hm;rw[ho]at ho';cases ho';exact⟨_,es',ep',hL,r'⟩) hok I.bare
def Inv.call{g':Array zE6}{t':Nat}{d':Drawn}{ch:List Addr}(I:Inv X pins Z H s)(u:Un (frs X.stack) ch H H' s.heap h')(hok:HOk X.prog X.w H' h')(hg:zEU g')
  (hch:∀b∈ch,(b∈X.ex\/X.z5.heap.objs.size<=b)/\b≠X.env.locals/\(∀x c,X.env.cells.lookup x=some c->c≠b)/\∀p∈X.ta++(X.pn++pins),p.1≠b):
  Inv X pins Z H' {s with heap:=h',gens:=g',drawn:=d',toks:=t'}:=by
 obtain⟨m,⟨o,es,ep,ho,r⟩,_⟩:=id I.loc;obtain⟨sl,hL⟩:=u.any ho I.free λ z=>(hch _ z).2.1 rfl
 exact I.step (ch:=ch) hch (λ b o hL hb hc e n=>u.keep b o e n (λ z=>(zAT.mp (I.stkSub b z)).elim hL hb) hc) (λ b o _ _ hc e n=>u.any e n hc) (λ b o hc e n=>u.free b o e n hc) (λ b o hc e=>u.there b o e hc) u.tups u.frzs u.tbls (λ m' hm=>by
  obtain⟨o',es',ep',ho',r'⟩:=hm;rw[ho]at ho';cases ho';exact⟨_,es',ep',hL,r'⟩) hok hg
def Inv.turned{t':Nat}{it:Addr}(I:Inv X pins Z H s)(k:∀b o,b≠it->s.heap.get? b=some o->h'.get? b=some o)(hn:H it=none)(hL:it≠X.env.locals)
  (h1:it∈X.ex\/X.z5.heap.objs.size<=it)(h2:∀x c,X.env.cells.lookup x=some c->c≠it)(h3:∀p∈X.ta++(X.pn++pins),p.1≠it):Inv X pins Z H {s with heap:=h',toks:=t'}:=by
 have nit:∀b u,H b=some u->b≠it:=λ b u e z=>by rw[z,hn]at e;cases e
 refine I.step (g':=s.gens) (d':=s.drawn) (ch:=[it]) (λ b hb=>?_) (λ b o _ _ hc e _=>k b o (λ z=>hc (by simp[z])) e) (λ b o _ _ hc e _=>⟨o.slots,k b o (λ z=>hc (by simp[z])) e⟩) (λ _ _ _ _ n=>n)
  (λ b o hc e=>⟨o,k b o (λ z=>hc (by simp[z])) e⟩) (λ _ _ e=>e) (λ _ _ _ e=>e) (λ b ps e=>⟨#[],by rw[e];simp⟩) (λ m hm=>?_) (λ b u e=>?_) I.bare
 .have e:b=it:=by simpa using hb
  subst e;exact⟨h1,hL,h2,h3⟩
 .obtain⟨o,es,ep,ho,r⟩:=hm
  exact⟨o,es,ep,k _ o (zDe hL) ho,r⟩
 .refine(I.hok b u e).stay (λ c v hc q=>k c v ?_ q) (λ _ q=>q) λ _ _ q=>q
  rcases hc with z|z
  .rw[z];exact nit b u e
  .exact nit c _ z
def Inv.tok(I:Inv X pins Z H s)(t:Nat):Inv X pins Z H {s with toks:=t}:=I.un (h':=s.heap) (t':=t) Un.refl I.hok
theorem Inv.kept(I:Inv X pins Z H s)(k:∀b u,s.heap.get? b=some u->h'.get? b=some u):Inv X pins Z H {s with heap:=h',toks:=t'}:=I.un (Un.kept k) (I.hok.kept k)
theorem Inv.laid(I:Inv X pins Z H s)(k:∀b u,s.heap.get? b=some u->h'.get? b=some u)(hp:s.heap.objs.size<=a)(new:cM X.prog X.w (upd H a o) h' a o):
  Inv X pins Z (upd H a o) {s with heap:=h',toks:=t'}:=I.un (Un.laid k hp (I.hok.fresh hp)) (I.hok.laid k hp new)
theorem Inv.write(I:Inv X pins Z H s)(mu:Mut (H x))(he:e=x\/H e=some (.own x))(k:∀b u,b≠e->s.heap.get? b=some u->h'.get? b=some u)(heo:∃u,h'.get? e=some u)
  (new:cM X.prog X.w (upd H x o) h' x o):Inv X pins Z (upd H x o) {s with heap:=h',toks:=t'}:=I.un (Un.write mu he k heo) (I.hok.write mu he k heo new)
def Inv.weak(I:Inv X pins Z H s)(hl:Z'.length=Z.length)(w:∀(i:Nat) v,Z'[i]? =some (some v)->Z[i]? =some (some v)):Inv X pins Z' H s:=
 ⟨I.ok,I.os,I.bare,I.base,let⟨m,hn,hl'⟩:=I.loc;⟨m,hn,λ i x v e1 e2 e3=>hl' i x v e1 (w i v e2) e3⟩,I.cell,I.free,I.freeC,I.pin,I.hok,hl.trans I.len,I.tab⟩
def Inv.pins_of(I:Inv X pins Z H s)(h:∀p∈pins',s.heap.get? p.1=some p.2/\H p.1=none/\p.1≠X.env.locals/\p.1∉X.fs/\∀v,p.2.data≠.cell v)(h2:∀q∈pins',∀p∈X.ta,q.1≠p.1):Inv X pins' Z H s:=
 ⟨I.ok,I.os,I.bare,I.base,I.loc,I.cell,I.free,I.freeC,λ p hp=>(zAq.mp hp).elim (λ z=>I.pin p (zA8 _ z)) (h p),I.hok,I.len,λ p hp=>let⟨a,b,c,d,e⟩:=I.tab p hp;⟨a,b,c,λ q hq=>(zAq.mp hq).elim (λ z=>d q (zA8 _ z)) (λ z=>h2 q z p hp),e⟩⟩
def uW{N:List Str}(hN:N.Nodup){i j:Nat}{x:Str}(a:N[i]? =some x)(b:N[j]? =some x):i=j:=by
 obtain⟨h1,e1⟩:=zAK.mp a;obtain⟨h2,e2⟩:=zAK.mp b;exact(List.getElem_inj hN).mp (e1.trans e2.symm)
def qU{M:Model}{A:zAd}{E:Value->zAD->Prop}{i:Nat}{x:Str}{v:V}{u:Value}{Q:Unit->zAD->Prop}(I:Inv X pins Z H s)(hN:X.N.Nodup)(hi:X.N[i]? =some x)(hx:Loc X.env.scope x)(r:RelV v u)
  (h:∀s',Inv X pins (Z.set i (some v)) H s'->(∃a,zFx a s.heap s'.heap/\(a=X.env.locals\/X.env.cells.lookup x=some a))->Q () s')(hf:X.fn x=true\/X.env.scope.names.lookup x=some .local:=by first|exact .inl rfl|exact .inr rfl|assumption):wpAny M A (storeName X.env x u) Q E s:=by
 obtain⟨m,hn,hl⟩:=id I.loc;have hcls:(X.env.scope.kind== .class||(X.env.scope.kind== .module&&X.env.locals !=X.env.globals))=false:=by rw[I.ok.kind];rfl
 have hiZ:i<Z.length:=by rw[I.len];exact(zAK.mp hi).1
 have cne:=I.cne;have tracked:∀{a:Addr} {h':Heap},(∃o,s.heap.get? a=some o/\H a=none)->zFx a s.heap h'->HOk X.prog X.w H h':=λ{a h'} ha hs b ob e=>by
  obtain⟨_,_,hfree⟩:=ha;refine(I.hok b ob e).stay (λ c w' hc q=>(hs.2 c ?_).trans q) (λ _ q=>q) λ _ _ q=>q
  rintro rfl;rcases hc with rfl|hc
  .rw[hfree]at e;cases e
  .rw[hfree]at hc;cases hc
 rcases hx with hk|hk
 .refine wpAny_storeName_local hk hn (λ h' hn' hs=>?_) hcls
  obtain⟨oL,_,_,hoL,_⟩:=id hn;refine h _ ⟨I.ok,I.os,I.bare,⟨λ b o e n hb hx=>?_,λ b o e n hb hx=>?_,I.base.free,λ b o e hx=>?_,I.base.tups,I.base.frzs,I.base.tbls⟩,⟨_,hn',λ j y v' e1 e2 e3=>?_⟩,λ y c e=>?_,I.free,I.freeC,λ p hp=>?_,tracked ⟨oL,hoL,I.free⟩ hs,by simpa using I.len,λ p hp=>?_⟩ ⟨_,hs,.inl rfl⟩
  .exact(hs.2 b (zA6 (zAS (zAU e) I.ok.above))).trans (I.base.keep b o e n hb hx)
  .obtain⟨sl,e1⟩:=I.base.slot b o e n hb hx
   exact⟨sl,(hs.2 b (zA6 (zAS (zAU e) I.ok.above))).trans e1⟩
  .obtain⟨o',e1⟩:=I.base.there b o e hx
   exact⟨o',(hs.2 b (zA6 (zAS (zAU e) I.ok.above))).trans e1⟩
  .by_cases hj:j=i
   .subst hj
    rw[hi]at e1;cases e1;rw[zCD hiZ]at e2;cases e2;exact⟨u,r,.inl ⟨hk,by simp⟩⟩
   .rw[zB2 (zDe hj)]at e2
    obtain⟨u',r',q⟩:=hl j y v' e1 e2 e3;refine⟨u',r',?_⟩;rcases q with ⟨k,e⟩|⟨k,c,e,z⟩
    .refine .inl ⟨k,?_⟩
     have:y≠x:=λ e=>hj (uW hN e1 (e▸hi))
     simp[this,e]
    .exact .inr ⟨k,c,e,z.sameBut hs (cne y c e)⟩
  .obtain⟨w',z⟩:=I.cell y c e
   exact⟨w',z.sameBut hs (cne y c e)⟩
  .obtain⟨e,n,ne,nf,d⟩:=I.pin p hp
   exact⟨(hs.2 p.1 ne).trans e,n,ne,nf,d⟩
  .obtain⟨n,ne,nf,np,ps,e,t⟩:=I.tab p hp
   exact⟨n,ne,nf,np,ps,(hs.2 p.1 ne).trans e,t⟩
 .have hfn:X.fn x=true:=by
   rcases hf with z|z
   .exact z
   .rw[z]at hk;cases hk
  obtain⟨c,hc⟩:=I.ok.has x (.inl hk);obtain⟨w',z⟩:=I.cell x c hc;refine wpAny_storeName_cell I.ok.kind hk hc z (λ h' hc' hs=>?_);obtain⟨oc,hoc,hocd⟩:=id z;refine h {s with heap:=h'} ⟨I.ok,I.os,I.bare,⟨λ b o e n hb hx=>?_,λ b o e n hb hx=>?_,I.base.free,λ b o e hx=>?_,I.base.tups,I.base.frzs,I.base.tbls⟩,⟨m,hn.sameBut hs (zDe (cne x c hc)),λ j y v' e1 e2 e3=>?_⟩,λ y c' e=>?_,I.free,I.freeC,λ p hp=>?_,tracked ⟨oc,hoc,I.freeC x c hc⟩ hs,by simpa using I.len,λ p hp=>?_⟩ ⟨c,hs,.inr hc⟩
  .exact(hs.2 b (zA6 (zAS (zAU e) (I.ok.cab x c hfn hc)))).trans (I.base.keep b o e n hb hx)
  .obtain⟨sl,e1⟩:=I.base.slot b o e n hb hx
   exact⟨sl,(hs.2 b (zA6 (zAS (zAU e) (I.ok.cab x c hfn hc)))).trans e1⟩
  .obtain⟨o',e1⟩:=I.base.there b o e hx
   exact⟨o',(hs.2 b (zA6 (zAS (zAU e) (I.ok.cab x c hfn hc)))).trans e1⟩
  .by_cases hj:j=i
   .subst hj
    rw[hi]at e1;cases e1;rw[zCD hiZ]at e2;cases e2;exact⟨u,r,.inr ⟨.inl hk,c,hc,hc'⟩⟩
   .rw[zB2 (zDe hj)]at e2
    obtain⟨u',r',q⟩:=hl j y v' e1 e2 e3;refine⟨u',r',?_⟩;rcases q with q|⟨k,c',e,z'⟩
    .exact .inl q
    .refine .inr ⟨k,c',e,z'.sameBut hs ?_⟩
     rintro rfl;exact hj (uW hN e1 (I.ok.inj _ _ _ e hc▸hi))
  .by_cases hcc:c'=c
   .subst hcc;exact⟨_,hc'⟩
   .obtain⟨w2,z2⟩:=I.cell y c' e
    exact⟨w2,z2.sameBut hs hcc⟩
  .obtain⟨e,n,ne,nf,d⟩:=I.pin p hp
   refine⟨(hs.2 p.1 ?_).trans e,n,ne,nf,d⟩;intro q;rw[q,hoc]at e;have q':oc=p.2:=zAn e;exact d w' (by rw[<-q'];exact hocd)
  .obtain⟨n,ne,nf,np,ps,e,t⟩:=I.tab p hp
   refine⟨n,ne,nf,np,ps,(hs.2 p.1 ?_).trans e,t⟩;intro q;rw[q,hoc]at e;rw[zAn e]at hocd;cases hocd
def tX(I:Inv X pins Z H s)(hN:X.N.Nodup)(hi:X.N[i]? =some x)(hx:Loc X.env.scope x)(r:RelV v u)
  (h:∀s',Inv X pins (Z.set i (some v)) H s'->Q () s')(hf:X.fn x=true\/X.env.scope.names.lookup x=some .local:=by first|exact .inl rfl|exact .inr rfl|assumption):wpAny M A (storeName X.env x u) Q E s:=
 qU I hN hi hx r (λ s' I' _=>h s' I') hf
def Inv.call'(I:Inv X pins Z H s)(ho:s'.os=s.os)(u:Un (frs X.stack) ch H H' s.heap s'.heap)(hok:HOk X.prog X.w H' s'.heap)(hg:zEU s'.gens)
  (hch:∀b∈ch,(b∈X.ex\/X.z5.heap.objs.size<=b)/\b≠X.env.locals/\(∀x c,X.env.cells.lookup x=some c->c≠b)/\∀p∈X.ta++(X.pn++pins),p.1≠b):Inv X pins Z H' s':=by
 obtain⟨h',g',d',t',o'⟩:=s';have e:o'=s.os:=ho;subst e;exact I.call (g':=g') (t':=t') (d':=d') u hok hg hch
end
abbrev XK:=Value->Option Addr->Hp->Prop
abbrev St:=List (Option V)
abbrev VK:=V->Hp->Prop
abbrev TE:=St->Hp->VK->Prop
abbrev TT:=St->Hp->(Bool->Hp->Prop)->Prop
abbrev TA:=St->Hp->(List V->Hp->Prop)->Prop
structure Ends where
 nx:St->Hp->Prop
 rt:VK
 bk:St->Hp->Prop:=λ _ _=>False
 ct:St->Hp->Prop:=λ _ _=>False
abbrev TS:=Ends->St->Hp->Prop
def EP(X:Cx)(pins:List (Addr×Obj))(Z:St)(Q:VK)(u:Value)(s':zAD):Prop:=∃v H',Inv X pins Z H' s'/\RelV v u/\Q v H'
def TP(X:Cx)(pins:List (Addr×Obj))(Z:St)(Q:Bool->Hp->Prop)(b:Bool)(s':zAD):Prop:=∃H',Inv X pins Z H' s'/\Q b H'
def AP(X:Cx)(pins:List (Addr×Obj))(Z:St)(Q:List V->Hp->Prop)(us:List Value)(s':zAD):Prop:=∃vs H',Inv X pins Z H' s'/\Vals vs us/\Q vs H'
def SP(X:Cx)(pins:List (Addr×Obj))(D:Ends)(f:Flow)(s':zAD):Prop:=
 match f with
 | .next=>∃Z' H',Inv X pins Z' H' s'/\D.nx Z' H'
 | .brk=>∃Z' H',Inv X pins Z' H' s'/\D.bk Z' H'
 | .cont=>∃Z' H',Inv X pins Z' H' s'/\D.ct Z' H'
 | .ret u=>∃v Z' H',Inv X pins Z' H' s'/\RelV v u/\D.rt v H'
def PE(X:Cx)(e:Expr)(t:TE):Prop:=
 ∀(pins:List (Addr×Obj)) (s:zAD) (Z:St) (H:Hp) (Q:VK),Inv X pins Z H s->t Z H Q->wpAny (model X.prog X.w) X.A (eval e X.env) (EP X pins Z Q) X.xe s
def PT(X:Cx)(e:Expr)(t:TT):Prop:=
 ∀(pins:List (Addr×Obj)) (s:zAD) (Z:St) (H:Hp) (Q:Bool->Hp->Prop),Inv X pins Z H s->t Z H Q->wpAny (model X.prog X.w) X.A (isTrue e X.env (eval e X.env)) (TP X pins Z Q) X.xe s
def PW(X:Cx)(e:Expr)(t:TT):Prop:=
 ∀(whole:Sem Value) (pins:List (Addr×Obj)) (s:zAD) (Z:St) (H:Hp) (Q:Bool->Hp->Prop),Inv X pins Z H s->t Z H Q->wpAny (model X.prog X.w) X.A (isTrue e X.env whole) (TP X pins Z Q) X.xe s
def PW.pt(h:PW X e t):PT X e t:=h _
def PA(X:Cx)(es:List Expr)(t:TA):Prop:=
 ∀(pos:Pos) (pins:List (Addr×Obj)) (s:zAD) (Z:St) (H:Hp) (Q:List V->Hp->Prop),Inv X pins Z H s->t Z H Q->wpAny (model X.prog X.w) X.A (spliced (zC2 pos (zA2 es X.env))) (AP X pins Z Q) X.xe s
def PS(X:Cx)(st:Stmt)(t:TS):Prop:=
 ∀(pins:List (Addr×Obj)) (s:zAD) (Z:St) (H:Hp) (D:Ends),Inv X pins Z H s->t D Z H->wpAny (model X.prog X.w) X.A (exec st X.env) (SP X pins D) X.xe s
def PSs(X:Cx)(st:List Stmt)(t:TS):Prop:=
 ∀(pins:List (Addr×Obj)) (s:zAD) (Z:St) (H:Hp) (D:Ends),Inv X pins Z H s->t D Z H->wpAny (model X.prog X.w) X.A (execs st X.env) (SP X pins D) X.xe s
def thn(h:wpAny M A t Q E s)(hQ:∀a s,Q a s->Q' a s):wpAny M A t Q' E s:=zBF h hQ λ _ _ x=>x
section
variable{X:Cx}
def bin{a b:Expr}{ta tb:TE}(ha:PE X a ta)(hb:PE X b tb){pins:List (Addr×Obj)}{s:zAD}{Z:St}{H:Hp}{R:V->V->Hp->Prop}(I:Inv X pins Z H s)(h:ta Z H λ x H1=>tb Z H1 λ y H2=>R x y H2)
  {α:Type}{Q:α->zAD->Prop}{f:Value->Value->Sem α}
  (hf:∀v u s2 x y H2,Inv X pins Z H2 s2->RelV x v->RelV y u->R x y H2->wpAny (model X.prog X.w) X.A (f v u) Q X.xe s2):
  wpAny (model X.prog X.w) X.A (eval a X.env) (λ v zS=>wpAny (model X.prog X.w) X.A (eval b X.env) (λ u z0=>wpAny (model X.prog X.w) X.A (f v u) Q X.xe z0) X.xe zS) X.xe s:=by
 refine thn (ha pins s Z H _ I h) λ v s1 ⟨x,H1,I1,r1,q1⟩=>?_
 refine thn (hb pins s1 Z H1 _ I1 q1) λ u s2 ⟨y,H2,I2,r2,q2⟩=>?_
 exact hf v u s2 x y H2 I2 r1 r2 q2
def oA(i:Nat):TE:=λ Z H Q=>∃v,Z[i]? =some (some v)/\Q v H
def tC(v:V):TE:=λ _ H Q=>Q v H
abbrev _root_.Nd(x:PySem.Str):Prop:=(x==("__debug__":PySem.Str))=false
def gq(hN:X.N[i]? =some x)(hv:Vis X.env.scope x)(hd:Nd x:=by decide)(hcd:(x==("__classdict__":Str))=false:=by decide):PE X (.Name x pos) (oA i):=by
 intro pins s Z H Q I h;obtain⟨v,e,h⟩:=h;obtain⟨m,hn,hl⟩:=I.loc;obtain⟨u,r,l⟩:=hl i x v hN e hv;have fin:EP X pins Z Q u s:=⟨v,H,I,r,h⟩;rcases l with ⟨hk,hm⟩|⟨hk,c,hc,hcell⟩
 .exact zEd (zHE I.ok.kind hk hn hm fin) hd
 .rcases hk with hk|hk
  .exact zEd (zHK I.ok.kind hk hc hcell fin) hd
  .exact zEd (zHL I.ok.kind hk hc hcell fin hcd) hd
def aAt{i j pos}:PE X (.Constant (.int i) j pos) (tC (.int i)):=λ _ _ _ H _ I h=>wpAny_Constant_int ⟨.int i,H,I.tok _,⟨_,rfl⟩,h⟩
def aEL{b j pos}:PE X (.Constant (.bool b) j pos) (tC (.bl b)):=λ _ _ _ H _ I h=>Constant_bool ⟨.bl b,H,I,rfl,h⟩
def aEF{j pos}:PE X (.Constant .none j pos) (tC .non):=λ _ _ _ H _ I h=>Constant_none ⟨.non,H,I,rfl,h⟩
def dN{x j pos}:PE X (.Constant (.str x) j pos) (tC (.str x)):=λ _ _ _ H _ I h=>Calls.Constant_str ⟨.str x,H,I.tok _,⟨_,rfl⟩,h⟩
def Gl(X:Cx)(x:Str):Prop:=X.env.kindOf x=some .globalImplicit
def m6(I:Inv X pins Z H s)(hg:Gl X x)(hm:X.mg x=some u)(h:Q u s)
  (hd:Nd x:=by decide):wpAny (model X.prog X.w) X.A (eval (.Name x pos) X.env) Q E s:=
 zFN I.ok.kind hg (Calls.loadGlobal_global (by rw[I.ok.glob];exact I.mod.glob.keeps I.bk) hm h) hd
def qw(I:Inv X pins Z H s)(hg:Gl X x)(hm:X.mg x=none)(hv:zBR x=some u)(h:Q u s)
  (hn:x≠"__name__":=by decide)(hd:Nd x:=by decide):wpAny (model X.prog X.w) X.A (eval (.Name x pos) X.env) Q E s:=by
 obtain⟨mb,h1,h2⟩:=I.mod.blt;exact zFN I.ok.kind hg (Calls.loadGlobal_builtin (by rw[I.ok.glob];exact I.mod.glob.keeps I.bk) hm (by rw[I.ok.blt];exact h1.keeps I.bk) ((h2 x hn).trans hv) h) hd
def cg(hg:Gl X x)(hm:X.mg x=some u)(r:RelV v u)(hd:Nd x:=by decide):PE X (.Name x pos) (tC v):=
 λ _ _ _ H _ I h=>m6 I hg hm ⟨v,H,I,r,h⟩ hd
def aBs(hg:Gl X x)(hm:X.mg x=none)(hv:zBR x=some u)(r:RelV v u)(hn:x≠"__name__":=by decide)(hd:Nd x:=by decide):PE X (.Name x pos) (tC v):=
 λ _ _ _ H _ I h=>qw I hg hm hv ⟨v,H,I,r,h⟩ hn hd
def t2I(ta tb:TE)(k:Int->Int->Hp->Prop):St->Hp->Prop:=λ Z H=>ta Z H λ x H1=>tb Z H1 λ y H2=>∃i j,x= .int i/\y= .int j/\k i j H2
variable{a b:Expr}{ta tb:TE}{pos:Pos}
def PC(X:Cx)(op:CmpOp)(a b:Expr)(t:TE):Prop:=
 ∀(pins:List (Addr×Obj)) (s:zAD) (Z:St) (H:Hp) (Q:VK),Inv X pins Z H s->t Z H Q->
  wpAny (model X.prog X.w) X.A (eval a X.env) (λ v zS=>wpAny (model X.prog X.w) X.A (eval b X.env) (λ u z0=>wpAny (model X.prog X.w) X.A (zAv op v u) (EP X pins Z Q) X.xe z0) X.xe zS) X.xe s
def aET(b:Expr)(h:op≠.In)(h2:op≠.NotIn):zBr op b=false:=by
 have e1:(op==CmpOp.In)=false:=by cases op<;>first|rfl|exact absurd rfl h
 have e2:(op==zHZ)=false:=by cases op<;>first|rfl|exact absurd rfl h2
 cases b<;>simp[zBr,e1,e2]
def aJh(p:Int->Int->Bool)(ta tb:TE):TE:=λ Z H Q=>t2I ta tb (λ i j H2=>Q (.bl (p i j)) H2) Z H
abbrev aKc:TE->TE->TE:=aJh λ i j=>!decide (i=j)
def aI4{op:CmpOp}{p:Int->Int->Bool}(ha:PE X a ta)(hb:PE X b tb)
  (rule:∀(i j:Int) (t u:Tok) (Q:Value->zAD->Prop) (s:zAD),Q (.bool (p i j)) s->wpAny (model X.prog X.w) X.A (zAv op (.int i t) (.int j u)) Q X.xe s):PC X op a b (aJh p ta tb):=by
 intro pins s Z H Q I h;refine bin ha hb I h λ v u s2 x y H2 I2 rx ry q=>?_
 obtain⟨i,j,rfl,rfl,q⟩:=q;obtain⟨t,rfl⟩:=rx;obtain⟨t',rfl⟩:=ry;exact rule i j t t' _ s2 ⟨.bl _,H2,I2,rfl,q⟩
def aI3(ha:PE X a ta)(hb:PE X b tb):PC X .NotEq a b (aKc ta tb):=aI4 ha hb λ _ _ _ _ _ _ h=>ne_int (by rw[bne,Bool.beq_eq_decide_eq];exact h)
def tB(t:TE):TT:=λ Z H Q=>t Z H λ x H1=>∃c,x= .bl c/\Q c H1
def aIO(h:PC X op a b t)(h1:zBr op b=false:=by first|exact aET _ (by decide) (by decide)|rfl):PT X (.Compare a [op] [b] pos) (tB t):=by
 intro pins s Z H Q I hw;refine zGx (thn (h pins s Z H _ I hw) λ v s1 h1=>thn h1 λ u s2 h2=>thn h2 λ c s3 ⟨x,H1,I1,r1,q1⟩=>?_) h1;obtain⟨d,rfl,q⟩:=q1;cases r1;exact zB5 ⟨H1,I1,q⟩
def aDu(h:PE X e t)(he:∀whole,isTrue e X.env whole=(do let v <-whole;zE3 e.pos;zE1 [v] (truthy v)):=by intro _;rfl):PT X e (tB t):=by
 intro pins s Z H Q I hw;refine isTrue_plain (thn (h pins s Z H _ I hw) λ v s1 ⟨x,H1,I1,r1,q1⟩=>?_) (he _);obtain⟨d,rfl,q⟩:=q1;cases r1;exact zB5 ⟨H1,I1,q⟩
variable{tA tB':TT}{rest:List Expr}
def aKh(t u:TT):TT:=λ Z H Q=>t Z H λ c H1=>if c=true then u Z H1 Q else Q false H1
def tOr(t u:TT):TT:=λ Z H Q=>t Z H λ c H1=>if c=true then Q true H1 else u Z H1 Q
def aKb(t:TT):TT:=λ Z H Q=>t Z H λ c H1=>Q (!c) H1
def aGC(ha:PT X a tA):PW X (.BoolOp .And [a] pos) tA:=by
 intro wh pins s Z H Q I h;refine isTrue_and (thn (ha pins s Z H Q I h) λ c s1 e=>?_);cases c with
 |true=>exact isTrue_and_nil e
 |false=>exact e
def aDt(ha:PT X a tA):PW X (.BoolOp .Or [a] pos) tA:=by
 intro wh pins s Z H Q I h;refine isTrue_or (thn (ha pins s Z H Q I h) λ c s1 e=>?_);cases c with
 |false=>exact isTrue_or_nil e
 |true=>exact e
def aIN(ha:PT X a tA)(hb:PW X (.BoolOp .And (b::rest) pos) tB'):PW X (.BoolOp .And (a::b::rest) pos) (aKh tA tB'):=by
 intro wh pins s Z H Q I h;refine isTrue_and (thn (ha pins s Z H _ I h) λ c s1 ⟨H1,I1,q1⟩=>?_);cases c with
 |true=>exact hb wh pins s1 Z H1 Q I1 q1
 |false=>exact⟨H1,I1,q1⟩
def aH2(ha:PT X a tA)(hb:PW X (.BoolOp .Or (b::rest) pos) tB'):PW X (.BoolOp .Or (a::b::rest) pos) (tOr tA tB'):=by
 intro wh pins s Z H Q I h;refine isTrue_or (thn (ha pins s Z H _ I h) λ c s1 ⟨H1,I1,q1⟩=>?_);cases c with
 |true=>exact⟨H1,I1,q1⟩
 |false=>exact hb wh pins s1 Z H1 Q I1 q1
def aAr(ha:PT X a tA):PT X (.UnaryOp .Not a pos) (aKb tA):=by
 intro pins s Z H Q I h;exact isTrue_not (ha pins s Z H (λ c H1=>Q (!c) H1) I h)
def aJi(ta tb:TE):TE:=λ Z H Q=>ta Z H λ x H1=>∃c,x= .bl c/\if c=true then tb Z H1 Q else Q (.bl false) H1
def aJe(ta:TE):TE:=λ Z H Q=>ta Z H λ x H1=>∃c,x= .bl c/\Q (.bl (!c)) H1
def aIY{op}(h:PE X a t):PE X (.BoolOp op [a] pos) t:=λ pins s Z H Q I hw=>BoolOp_one (h pins s Z H Q I hw)
def aI2(ha:PE X a ta)(hb:PE X (.BoolOp .And (b::rest) pos) tb):PE X (.BoolOp .And (a::b::rest) pos) (aJi ta tb):=by
 intro pins s Z H Q I h;refine BoolOp_and (thn (ha pins s Z H _ I h) λ v s1 ⟨x,H1,I1,r1,q1⟩=>?_);obtain⟨c,rfl,q1⟩:=q1;cases r1;refine zB5 ?_;cases c with
 |true=>exact hb pins s1 Z H1 Q I1 q1
 |false=>exact⟨.bl false,H1,I1,rfl,q1⟩
def aIZ(ha:PE X a ta):PE X (.UnaryOp .Not a pos) (aJe ta):=by
 intro pins s Z H Q I h;refine UnaryOp_ (thn (ha pins s Z H _ I h) λ v s1 ⟨x,H1,I1,r1,q1⟩=>?_);obtain⟨c,rfl,q1⟩:=q1;cases r1;exact not_of (zB5 ⟨.bl (!c),H1,I1,rfl,q1⟩)
end
def SqL(K:zAA)(H:Hp)(a:Addr)(xs:List V):Prop:=
 Rd H a (.lst xs)\/
  ∃(o:Obj) (its:Array Value) (n:Nat),K.lookup a=some o/\o.cls= .type "list"/\o.dict=none/\o.data= .seq its n/\its.size<=zAV/\Vals xs its.toList
def SqT(K:zAA)(H:Hp)(a:Addr)(xs:List V):Prop:=
 Rd H a (.tup xs)\/
  ∃(o:Obj) (its:Array Value) (n:Nat),K.lookup a=some o/\o.cls= .type "tuple"/\o.dict=none/\o.data= .seq its n/\its.size<=zAV/\Vals xs its.toList
def aKo:Value->Option V
 | .none=>some .non
 | .bool b=>some (.bl b)
 | .int i _=>some (.int i)
 | .str x _=>some (.str x)
 | .bytes b _=>some (.byt b)
 | .float b _=>some (.flt b)
 | .ref a=>some (.ref a)
 | .type n=>some (.ty n)
 |_=>none
def RelV.abs(r:RelV x u):aKo u=some x:=by
 cases x with
 |non=>cases r;rfl
 |bl _=>cases r;rfl
 |int _=>obtain⟨t,rfl⟩:=r;rfl
 |str _=>obtain⟨t,rfl⟩:=r;rfl
 |byt _=>obtain⟨t,rfl⟩:=r;rfl
 |flt _=>obtain⟨t,rfl⟩:=r;rfl
 |ref _=>cases r;rfl
 |ty _=>cases r;rfl
def RelV.inj(r:RelV x u)(q:RelV y u):x=y:=zAn (r.abs.symm.trans q.abs)
theorem Vals.inj:∀{xs ys:List V} {us:List Value},Vals xs us->Vals ys us->xs=ys
 |_,_,_,.nil,.nil=>rfl
 |_,_,_,.cons r t,.cons r' t'=>by rw[r.inj r',Vals.inj t t']
section
variable{X:Cx}{pins:List (Addr×Obj)}{Z:St}{H:Hp}{s:zAD}{a:Addr}{xs ys:List V}
def SqL.of{K:zAA}(h:H a=some (.lst xs)):SqL K H a xs:=.inl (.inl h)
def SqT.of{K:zAA}(h:H a=some (.tup xs)):SqT K H a xs:=.inl (.inl h)
def Inv.list(I:Inv X pins Z H s)(h:SqL X.K H a xs):∃its:List Value,Vals xs its/\PlainL s.heap a its.toArray/\xs.length<=zAV:=by
 rcases h with h|⟨o,its,n,hk,hc,hd,hs,hz,r⟩
 .obtain⟨z,its,n,r,e⟩:=h.ok I.hok
  exact⟨its,r,⟨_,n,e,rfl,rfl,rfl⟩,z⟩
 .refine⟨its.toList,r,⟨o,n,I.kIn a o hk,hc,hd,by simpa using hs⟩,?_⟩
  have e:=r.length;simp only[zAb]at e;lia
def Inv.tuple(I:Inv X pins Z H s)(h:SqT X.K H a xs):∃its:List Value,Vals xs its/\IsTup s.heap a its.toArray/\xs.length<=zAV:=by
 rcases h with h|⟨o,its,n,hk,hc,hd,hs,hz,r⟩
 .obtain⟨z,its,r,p⟩:=h.ok I.hok
  exact⟨its,r,p,z.1⟩
 .refine⟨its.toList,r,⟨o,I.kIn a o hk,hc,n,by simpa using hs⟩,?_⟩
  have e:=r.length;simp only[zAb]at e;lia
def Inv.list_inj(I:Inv X pins Z H s)(h:SqL X.K H a xs)(h':SqL X.K H a ys):xs=ys:=by
 obtain⟨its,r,⟨o,n,e,_,_,d⟩,_⟩:=I.list h;obtain⟨its',r',⟨o',n',e',_,_,d'⟩,_⟩:=I.list h';rw[e]at e';cases e';rw[d]at d';injection d' with d1 _
 have:its=its':=by simpa using congrArg zHM d1
 subst this;exact r.inj r'
def Inv.tuple_inj(I:Inv X pins Z H s)(h:SqT X.K H a xs)(h':SqT X.K H a ys):xs=ys:=by
 obtain⟨its,r,⟨o,e,_,n,d⟩,_⟩:=I.tuple h;obtain⟨its',r',⟨o',e',_,n',d'⟩,_⟩:=I.tuple h';rw[e]at e';cases e';rw[d]at d';injection d' with d1 _
 have:its=its':=by simpa using congrArg zHM d1
 subst this;exact r.inj r'
end
section
variable{X:Cx}{st:Stmt}{rest:List Stmt}{t u:TS}{e:Expr}{te:TE}{pos:Pos}
def aJf:TS:=λ D Z H=>D.nx Z H
def aKa(t u:TS):TS:=λ D Z H=>t {D with nx:=u D} Z H
def yP:PSs X [] aJf:=λ _ _ Z H _ I h=>zE4 ⟨Z,H,I,h⟩
def dR(h1:PS X st t)(h2:PSs X rest u):PSs X (st::rest) (aKa t u):=by
 intro pins s Z H D I h;refine wpAny_execs_cons (thn (h1 pins s Z H {D with nx:=u D} I h) λ f s1 q=>?_);cases f with
 |next=>
  obtain⟨Z',H',I',q⟩:=q;exact h2 pins s1 Z' H' D I' q
 |ret v=>exact q
 |brk=>exact q
 |cont=>exact q
def jw(h1:PS X st t):PSs X [st] t:=by
 intro pins s Z H D I h;refine wpAny_execs_cons (thn (h1 pins s Z H D I h) λ f s1 q=>?_);cases f with
 |next=>exact zE4 q
 |ret v=>exact q
 |brk=>exact q
 |cont=>exact q
def Inv.quiet(I:Inv X pins Z H s):interactive X.env=false:=by simp[interactive,I.ok.kind]
def wH(te:TE):TS:=λ D Z H=>te Z H λ _ H1=>D.nx Z H1
def pH(he:PE X e te)(hs:zC3 e none pos.line X.env=pure false:=by rfl):PS X (.Expr e pos) (wH te):=by
 intro pins s Z H D I h;exact wpAny_Expr_any (thn (he pins s Z H _ I h) λ v s1 ⟨x,H1,I1,r1,q1⟩=>⟨Z,H1,I1,q1⟩) I.quiet hs
def aHs(te:TE):TS:=λ D Z H=>te Z H D.rt
def uP(he:PE X e te):PS X (.Return (some e) pos) (aHs te):=by
 intro pins s Z H D I h;exact wpAny_Return_some (thn (he pins s Z H _ I h) λ v s1 ⟨x,H1,I1,r1,q1⟩=>⟨x,Z,H1,I1,r1,q1⟩)
def aKf(c:TT)(t u:TS):TS:=λ D Z H=>c Z H λ b H1=>if b=true then t D Z H1 else u D Z H1
def aDz(hc:PT X c tc)(ha:PSs X a t)(hb:PSs X b u):PS X (.If c a b pos) (aKf tc t u):=by
 intro pins s Z H D I h;refine wpAny_If (thn (hc pins s Z H _ I h) λ d s1 ⟨H1,I1,q1⟩=>?_);cases d with
 |true=>exact ha pins s1 Z H1 D I1 q1
 |false=>exact hb pins s1 Z H1 D I1 q1
end
abbrev TG:=V->St->Hp->(St->Hp->Prop)->Prop
abbrev TGs:=List V->St->Hp->(St->Hp->Prop)->Prop
def PG(X:Cx)(target:Expr)(t:TG):Prop:=
 ∀(pins:List (Addr×Obj)) (s:zAD) (Z:St) (H:Hp) (v:V) (u:Value) (Q:St->Hp->Prop),Inv X pins Z H s->RelV v u->t v Z H Q->
  wpAny (model X.prog X.w) X.A (zDw target X.env u) (λ _ s'=>∃Z' H',Inv X pins Z' H' s'/\Q Z' H') X.xe s
def PGs(X:Cx)(ts:List Expr)(t:TGs):Prop:=
 ∀(pins:List (Addr×Obj)) (s:zAD) (Z:St) (H:Hp) (vs:List V) (us:List Value) (Q:St->Hp->Prop),Inv X pins Z H s->Vals vs us->t vs Z H Q->
  wpAny (model X.prog X.w) X.A (assignInOrder ((zCf ts X.env).map (·.2)) us) (λ _ s'=>∃Z' H',Inv X pins Z' H' s'/\Q Z' H') X.xe s
section
variable{X:Cx}{pos:Pos}
def lH(i:Nat):TG:=λ v Z H Q=>Q (Z.set i (some v)) H
def aGJ(hN:X.N.Nodup)(hi:X.N[i]? =some x)(hx:Loc X.env.scope x)(hf:X.fn x=true\/X.env.scope.names.lookup x=some .local:=by first|exact .inl rfl|exact .inr rfl|assumption):PG X (.Name x pos) (lH i):=by
 intro pins s Z H v u Q I r h;exact zF3 (tX I hN hi hx r (λ s' I'=>⟨_,H,I',h⟩) hf)
def aJS:TGs:=λ vs Z H Q=>vs=[]/\Q Z H
def aEz(t:TG)(u:TGs):TGs:=λ vs Z H Q=>∃v r,vs=v::r/\t v Z H λ Z' H'=>u r Z' H' Q
def aGI:PGs X [] aJS:=by
 intro pins s Z H vs us Q I r h;obtain⟨e,h⟩:=h;subst e;cases r;exact assignInOrder_nil ⟨Z,H,I,h⟩
def aEB(h1:PG X e t)(h2:PGs X es u)
  (hs:(zCf (e::es) X.env).map (·.2)=zDw e X.env::(zCf es X.env).map (·.2):=by rfl):PGs X (e::es) (aEz t u):=by
 intro pins s Z H vs us Q I r h;obtain⟨v,vr,e1,h⟩:=h;subst e1;cases r with
 |cons r rr=>
  rw[hs];refine assignInOrder_cons (thn (h1 pins s Z H _ _ _ I r h) λ _ s1 ⟨Z1,H1,I1,q1⟩=>?_);exact h2 pins s1 Z1 H1 _ _ Q I1 rr q1
def aGy(K:zAA)(n:Nat)(t:TGs):TG:=λ v Z H Q=>∃a xs,v= .ref a/\SqT K H a xs/\xs.length=n/\t xs Z H Q
def aIU(hc:X.calm=true)(h:PGs X es t)
  (hn:(zCf es X.env).length=n:=by rfl)(hst:(zCf es X.env).findIdx? (·.1)=none:=by rfl):PG X (.Tuple es k pos) (aGy X.K n t):=by
 intro pins s Z H v u Q I r hw;obtain⟨a,xs,e1,hq,hl,hw⟩:=hw;subst e1;cases r;obtain⟨its,rv,ht,hz⟩:=I.tuple hq;refine assign_Tuple_tuple (I.ok.hd hc) ht (by simp[hn,<-hl,rv.length]) hst λ h' hx=>?_
 have I1:Inv X pins Z H {s with heap:=h'}:=I.kept (t':=s.toks) λ b o e=>hx b o (zA6 (zAU e)) e
 exact h pins _ Z H xs _ Q I1 (by simpa using rv) hw
def zP(te:TE)(g:TG):TS:=λ D Z H=>te Z H λ x H1=>g x Z H1 D.nx
def aIQ(he:PE X e te)(hg:PG X tg g)(hs:swapsWithSole [tg] e pos.line X.env=pure false:=by rfl)(hw:swappedStores [tg] e X.env=pure none:=by rfl)
  (h1:(zCf [tg] X.env).map (·.2)=[zDw tg X.env]:=by rfl):PS X (.Assign [tg] e pos) (zP te g):=by
 intro pins s Z H D I h;refine wpAny_Assign_stores (thn (he pins s Z H _ I h) λ v s1 ⟨x,H1,I1,r1,q1⟩=>?_) hs hw;rw[h1];exact thn (hg pins s1 Z H1 x v _ I1 r1 q1) λ _ s2 q=>q
def jy(hN:X.N.Nodup)(hi:X.N[i]? =some x)(hx:Loc X.env.scope x)(he:PE X e te)(hs:zC3 e (some (.Name x pos')) pos.line X.env=pure false:=by rfl)(hf:X.fn x=true\/X.env.scope.names.lookup x=some .local:=by first|exact .inl rfl|exact .inr rfl|assumption):
  PS X (.Assign [.Name x pos'] e pos) (zP te (lH i)):=by
 intro pins s Z H D I h;refine wpAny_Assign_Name (thn (he pins s Z H _ I h) λ v s1 ⟨y,H1,I1,r1,q1⟩=>?_) hs;exact tX I1 hN hi hx r1 (λ s2 I2=>⟨_,H1,I2,q1⟩) hf
end
structure It where
 go:Nat->Hp->Prop
 yld:Nat->Hp->V->Hp->Prop
 stop:Nat->Hp->Prop
def o5(X:Cx)(pins:List (Addr×Obj))(H:Hp)(b:Addr):Prop:=
 H b=none/\b≠X.env.locals/\b∉X.fs/\(b∈X.ex\/X.z5.heap.objs.size<=b)/\(∀x c,X.env.cells.lookup x=some c->c≠b)/\∀p∈X.ta++(X.pn++pins),p.1≠b
def Inv.fpOk(I:Inv X pins Z H s)(hb:s.heap.objs.size<=b)(hn:H' b=none):o5 X pins H' b:=by
 refine⟨hn,zCn (zAS I.lt hb),I.nofs hb,.inr (zAk I.sz hb),λ x c e z=>?_,λ p hp z=>?_⟩
 .obtain⟨v,q⟩:=I.cell x c e
  exact absurd (zAS q.lt (by rw[z];exact hb)) (zBe _)
 .exact absurd (zAS (I.pinL hp) (by rw[z];exact hb)) (zBe _)
structure Turn(P:zAY)(w:World)(K:zAA)(tg:Expr)(J:It)(fp:List Addr)(it:Addr)(tn:Nat->Heap->Prop):Prop where
 mem:it∈fp
 obj:∀i h,tn i h->∀b∈fp,∃o,h.get? b=some o/\∀v,o.data≠.cell v
 keep:∀i h h',tn i h->(∀b∈fp,∀o,h.get? b=some o->h'.get? b=some o)->tn i h'
 item:∀(X:Cx),X.prog=P->X.w=w->X.K=K->X.calm=true->∀(i:Nat) (pins:List (Addr×Obj)) (s:zAD) (Z:St) (H:Hp) (E:Value->zAD->Prop),Inv X pins Z H s->(∀b∈fp,o5 X pins H b)->tn i s.heap->J.go i H->
  wpAny (model P w) X.A (zGU (.ref it)) (λ r s1=>∃u,r=some u/\
   wpAny (model P w) X.A (zDM tg (.ref it) u) (λ _ s2=>∃x H',Inv X pins Z H' s2/\RelV x u/\J.yld i H x H'/\tn (i+1) s2.heap/\∀b∈fp,H' b=none) E s1) E s
 done:∀(X:Cx),X.prog=P->X.w=w->X.K=K->X.calm=true->∀(i:Nat) (pins:List (Addr×Obj)) (s:zAD) (Z:St) (H:Hp) (E:Value->zAD->Prop),Inv X pins Z H s->(∀b∈fp,o5 X pins H b)->tn i s.heap->J.stop i H->
  wpAny (model P w) X.A (zGU (.ref it)) (λ r s1=>r=none/\Inv X pins Z H s1) E s
 self:∀(A:zAd) (i:Nat) (s:zAD) (Q:Value->zAD->Prop) (E:Value->zAD->Prop),tn i s.heap->Q (.ref it) s->wpAny (model P w) A (zGT (.ref it)) Q E s
abbrev TI:=St->Hp->(It->Hp->Prop)->Prop
def PIE(X:Cx)(pins:List (Addr×Obj))(Z:St)(tg:Expr)(R:It->Hp->Prop)(itv:Value)(s2:zAD):Prop:=
 ∃(it:Addr) (fp:List Addr) (tn:Nat->Heap->Prop) (J:It) (H':Hp),itv= .ref it/\Inv X pins Z H' s2/\Turn X.prog X.w X.K tg J fp it tn/\tn 0 s2.heap/\(∀b∈fp,o5 X pins H' b)/\R J H'
def PI(X:Cx)(tg iter:Expr)(wi:TI):Prop:=
 ∀(pins:List (Addr×Obj)) (s:zAD) (Z:St) (H:Hp) (R:It->Hp->Prop),Inv X pins Z H s->wi Z H R->
  wpAny (model X.prog X.w) X.A (eval iter X.env) (λ v s1=>wpAny (model X.prog X.w) X.A (zGT v) (PIE X pins Z tg R) X.xe s1) X.xe s
def aEw(ho:s.heap.get? it=some o)(hc:o.cls= .type n)(hd:o.data= .fields vs)
    (hn:["enumerate","zip","dict_itemiterator","dict_reverseitemiterator","odict_iterator","itertools.zip_longest","itertools.pairwise"].contains n=false)(hQ:Q () s):wpAny M A (zDM tg (.ref it) u) Q E s:=by
  unfold zDM;cases tg<;>first
    |exact zAI hQ
    | (cases u <;> first
        |exact zAI hQ
        | (refine zAC (wpAny_load ho ?_)
           rw[hc,hd];show wpAny M A (if (["enumerate","zip","dict_itemiterator","dict_reverseitemiterator","odict_iterator","itertools.zip_longest","itertools.pairwise"].contains n&&vs[0]? ==some (rawInt _))=true then _ else _) Q E s;rw[if_neg (by intro h;rw[hn,Bool.false_and]at h;cases h)];exact zAI hQ))
def Itl(K:zAA)(a:Addr):It:=
 ⟨λ i H=>∃xs x,SqL K H a xs/\xs[i]? =some x,λ i H x H'=>H'=H/\∀xs,SqL K H a xs->xs[i]? =some x,λ i H=>∃xs,SqL K H a xs/\xs.length<=i⟩
def Itt(K:zAA)(a:Addr):It:=
 ⟨λ i H=>∃xs x,SqT K H a xs/\xs[i]? =some x,λ i H x H'=>H'=H/\∀xs,SqT K H a xs->xs[i]? =some x,λ i H=>∃xs,SqT K H a xs/\xs.length<=i⟩
def Itr(lo:Int)(n:Nat):It:=⟨λ i _=>i<n,λ i H x H'=>H'=H/\x= .int (lo+i),λ i _=>n<=i⟩
def aCW{P:zAY}{w:World}{K:zAA}{tg:Expr}(a it:Addr):Turn P w K tg (Itl K a) [it] it (λ i h=>h.IsListIter it a i) where
 mem:=by simp
 obj:=λ i h st b hb=>by
  have e:b=it:=by simpa using hb
  subst e;obtain⟨o,e,c,d⟩:=st;exact⟨o,e,λ v z=>by rw[d]at z;cases z⟩
 keep:=λ i h h' st k=>st.at λ o e=>k it (by simp) o e
 item:=by
  intro X hP hw hK hc i pins s Z H E I hf st hg;subst hP hw hK;obtain⟨xs,x,hq,hx⟩:=hg;obtain⟨its,rv,p,hz⟩:=I.list hq;obtain⟨u,hu,ru⟩:=rv.get hx;obtain⟨f0,f1,f2,f3,f4,f5⟩:=hf it (by simp);refine wpAny_pyNext_list_item st p.isList (x:=u) (by simpa using hu) λ h' st' sb=>?_
  have I1:Inv X pins Z H {s with heap:=h'}:=I.turned (t':=s.toks) (λ b o hb e=>(sb.2 b hb).trans e) f0 f1 f3 f4 f5;obtain⟨o,e,c,d⟩:=id st';exact⟨u,rfl,aEw (s:={s with heap:=h'}) e c d (by decide) ⟨x,H,I1,ru,⟨rfl,λ ys hy=>by rw[I.list_inj hy hq];exact hx⟩,st',λ b hb=>(hf b hb).1⟩⟩
 done:=by
  intro X hP hw hK hc i pins s Z H E I hf st hg;subst hP hw hK;obtain⟨xs,hq,hx⟩:=hg;obtain⟨its,rv,p,hz⟩:=I.list hq;obtain⟨f0,f1,f2,f3,f4,f5⟩:=hf it (by simp);have hl:=rv.length;exact wpAny_pyNext_list_end (I.ok.hd hc) st p.isList (by simp;lia) λ h' eb=>⟨rfl,I.turned (t':=s.toks) (λ b o hb e=>eb b o hb e) f0 f1 f3 f4 f5⟩
 self:=λ _ _ _ _ _ st h=>wpAny_pyIter_listiter st h
def aA1{P:zAY}{w:World}{K:zAA}{tg:Expr}(a it:Addr):Turn P w K tg (Itt K a) [it] it (λ i h=>h.IsTupleIter it a i) where
 mem:=by simp
 obj:=λ i h st b hb=>by
  have e:b=it:=by simpa using hb
  subst e;obtain⟨o,e,c,d⟩:=st;exact⟨o,e,λ v z=>by rw[d]at z;cases z⟩
 keep:=λ i h h' st k=>st.at λ o e=>k it (by simp) o e
 item:=by
  intro X hP hw hK hc i pins s Z H E I hf st hg;subst hP hw hK;obtain⟨xs,x,hq,hx⟩:=hg;obtain⟨its,rv,p,hz⟩:=I.tuple hq;obtain⟨u,hu,ru⟩:=rv.get hx;obtain⟨f0,f1,f2,f3,f4,f5⟩:=hf it (by simp);refine wpAny_pyNext_tuple_item st (show s.heap.IsTuple a its.toArray from p) (x:=u) (by simpa using hu) λ h' st' sb=>?_
  have I1:Inv X pins Z H {s with heap:=h'}:=I.turned (t':=s.toks) (λ b o hb e=>(sb.2 b hb).trans e) f0 f1 f3 f4 f5;obtain⟨o,e,c,d⟩:=id st';exact⟨u,rfl,aEw (s:={s with heap:=h'}) e c d (by decide) ⟨x,H,I1,ru,⟨rfl,λ ys hy=>by rw[I.tuple_inj hy hq];exact hx⟩,st',λ b hb=>(hf b hb).1⟩⟩
 done:=by
  intro X hP hw hK hc i pins s Z H E I hf st hg;subst hP hw hK;obtain⟨xs,hq,hx⟩:=hg;obtain⟨its,rv,p,hz⟩:=I.tuple hq;obtain⟨f0,f1,f2,f3,f4,f5⟩:=hf it (by simp);have hl:=rv.length;exact wpAny_pyNext_tuple_end (I.ok.hd hc) st (show s.heap.IsTuple a its.toArray from p) (by simp;lia) λ h' eb=>⟨rfl,I.turned (t':=s.toks) (λ b o hb e=>eb b o hb e) f0 f1 f3 f4 f5⟩
 self:=λ _ _ _ _ _ st h=>wpAny_pyIter_tupleiter st h
def aA2{P:zAY}{w:World}{K:zAA}{tg:Expr}(it:Addr)(lo:Int)(n:Nat):Turn P w K tg (Itr lo n) [it] it (λ i h=>IsRangeIter h it (lo+(i:Nat)*1) ((n:Int)-(i:Nat)) 1) where
 mem:=by simp
 obj:=λ i h st b hb=>by
  have e:b=it:=by simpa using hb
  subst e;exact⟨_,st,λ v z=>by
   have z':Data.fields _=Data.cell v:=z;cases z'⟩
 keep:=λ i h h' st k=>k it (by simp) _ st
 item:=by
  intro X hP hw hK hc i pins s Z H E I hf st hg;subst hP hw hK;obtain⟨f0,f1,f2,f3,f4,f5⟩:=hf it (by simp);have W:=Walks.range (prog:=X.prog) (w:=X.w) (I.ok.hd hc) it lo 1 n;refine W.item i s _ _ hg st λ v h' tk hv st' kk=>?_
  obtain⟨t,rfl⟩:=hv;have I1:Inv X pins Z H {s with heap:=h',toks:=tk}:=I.turned (λ b o hb e=>kk b o (by simpa using hb) e) f0 f1 f3 f4 f5;refine⟨_,rfl,aEw (s:={s with heap:=h',toks:=tk}) (n:="range_iterator") st' rfl rfl (by decide) ⟨.int (lo+i),H,I1,⟨t,?_⟩,⟨rfl,rfl⟩,st',λ b hb=>(hf b hb).1⟩⟩;rw[Int.mul_one]
 done:=by
  intro X hP hw hK hc i pins s Z H E I hf st hg;subst hP hw hK;obtain⟨f0,f1,f2,f3,f4,f5⟩:=hf it (by simp);exact wpAny_pyNext_range_end (I.ok.hd hc) st (by have:n<=i:=hg;lia) λ h' eb=>⟨rfl,I.turned (t':=s.toks) (λ b o hb e=>eb b o hb e) f0 f1 f3 f4 f5⟩
 self:=λ _ _ _ _ _ st h=>wpAny_pyIter_rangeiter st h
section
variable{X:Cx}{tg:Expr}
def zc{pins:List (Addr×Obj)}{Z:St}{H:Hp}{s:zAD}{R:It->Hp->Prop}{E:Value->zAD->Prop}{lo hi:Int}{t u v:Tok}{tk:Nat}(I:Inv X pins Z H s)(h1: -(2^62)<=lo)(h2:lo<2^62)(h3: -(2^62)<=hi)(h4:hi<2^62)
  (q:R (Itr lo (hi-lo).toNat) H):wpAny (model X.prog X.w) X.A (zGT (.ref s.heap.objs.size)) (PIE X pins Z tg R) E {s with heap:=s.heap.push {cls:=.type "range",data:=.fields #[.int lo t,.int hi u,.int 1 v]},toks:=tk}:=by
 refine wpAny_pyIter_range (IsRange.new ..) (small_one h1 h2 h3 h4) ?_;have I1:Inv X pins Z H {s with heap:=s.heap.push {cls:=.type "range",data:=.fields #[.int lo t,.int hi u,.int 1 v]},toks:=tk}:=I.kept λ b o e=>zAE _ e
 refine⟨(s.heap.push {cls:=.type "range",data:=.fields #[.int lo t,.int hi u,.int 1 v]}).objs.size,[(s.heap.push {cls:=.type "range",data:=.fields #[.int lo t,.int hi u,.int 1 v]}).objs.size],_,_,H,rfl,
  I1.kept (t':=tk) λ b o e=>zAE _ e,aA2 _ lo (hi-lo).toNat,?_,λ b hb=>?_,q⟩
 .have e1:lo+((0:Nat):Int)*1=lo:=by simp
  have e2:(((hi-lo).toNat:Nat):Int)-((0:Nat):Int)=zHV lo hi 1:=by rw[rangeSize_one];split<;>lia
  show IsRangeIter _ _ (lo+((0:Nat):Int)*1) ((((hi-lo).toNat:Nat):Int)-((0:Nat):Int)) 1;rw[e1,e2];exact zA3 _ rfl
 .have e:b=(s.heap.push {cls:=.type "range",data:=.fields #[.int lo t,.int hi u,.int 1 v]}).objs.size:=by simpa using hb
  subst e;exact I1.fpOk (zAP _) (I1.hok.fresh (zAP _))
def aKS(ta:TA):TI:=λ Z H R=>ta Z H λ vs H1=>∃j:Int,vs=[.int j]/\-(2^62)<=j/\j<2^62/\R (Itr 0 j.toNat) H1
def aKR(ta:TA):TI:=λ Z H R=>ta Z H λ vs H1=>∃i j:Int,vs=[.int i,.int j]/\(-(2^62)<=i/\i<2^62/\-(2^62)<=j/\j<2^62)/\R (Itr i (j-i).toNat) H1
def aC5{a:Expr}{ta:TA}{p pos:Pos}(hg:Gl X "range")(hm:X.mg "range"=none)(ha:PA X [a] ta)(hs:zA2 [a] X.env=[(false,eval a X.env)]:=by rfl):PI X tg (.Call (.Name "range" p) [a] [] pos) (aKS ta):=by
 intro pins s Z H R I h;refine Call_ (qw I hg hm boot_range (zDF (thn (ha pos pins s Z H _ I h) λ us s1 ⟨vs,H1,I1,r1,q1⟩=>?_) hs rfl));obtain⟨j,e,q1,q2,q⟩:=q1;subst e;cases r1 with
 |cons r rr=>
  cases rr;obtain⟨t,rfl⟩:=r;exact call_range_1 (zc I1 (by lia) (by lia) q1 q2 (by simpa using q))
def aC4(hg:Gl X "range")(hm:X.mg "range"=none)(ha:PA X [a,b] ta)(hs:zA2 [a,b] X.env=[(false,eval a X.env),(false,eval b X.env)]:=by rfl)(hs2:zA2 [b] X.env=[(false,eval b X.env)]:=by rfl):
  PI X tg (.Call (.Name "range" p) [a,b] [] pos) (aKR ta):=by
 intro pins s Z H R I h;refine Call_ (qw I hg hm boot_range (zDF (thn (ha pos pins s Z H _ I h) λ us s1 ⟨vs,H1,I1,r1,q1⟩=>?_) (by rw[hs,hs2]) (by rw[hs2];rfl)));obtain⟨i,j,e,⟨q1,q2,q3,q4⟩,q⟩:=q1;subst e;cases r1 with
 |cons r rr=>
  cases rr with
  |cons r' rr=>
   cases rr;obtain⟨t,rfl⟩:=r;obtain⟨t',rfl⟩:=r';exact call_range_2 (zc I1 q1 q2 q3 q4 q)
def aKg(wi:TI)(g:TG)(tb:TS):TS:=λ D Z H=>wi Z H λ J H1=>∃W:Nat->Nat->St->Hp->Prop,(∃m,W 0 m Z H1)/\∀i m Z H,W i m Z H->
 (J.stop i H/\D.nx Z H)\/(J.go i H/\∃N:St->Hp->Prop,(∀Z' H',N Z' H'->∃m',m'<m/\W (i+1) m' Z' H')/\∀x H',J.yld i H x H'->g x Z H' λ Z2 H2=>tb {D with nx:=N,ct:=N,bk:=D.nx} Z2 H2)
def mJ(fp:List Addr)(h:Heap):List (Addr×Obj):=fp.filterMap λ b=>(h.get? b).map λ o=>(b,o)
def fQ(hb:b∈fp)(e:h.get? b=some o):(b,o)∈mJ fp h:=zCH.mpr ⟨b,hb,by rw[e];rfl⟩
def wO(hp:p∈mJ fp h):p.1∈fp/\h.get? p.1=some p.2:=by
 obtain⟨b,hb,e⟩:=zCH.mp hp;cases q:h.get? b with
 |none=>rw[q]at e;cases e
 |some o=>
  rw[q]at e;have e':(b,o)=p:=zAn e;subst e';exact⟨hb,q⟩
def Inv.pinned(I:Inv X pins Z H s)(hf:∀b∈fp,o5 X pins H b)(ho:∀b∈fp,∃o,s.heap.get? b=some o/\∀v,o.data≠.cell v):Inv X (pins++mJ fp s.heap) Z H s:=
 I.pins_of (λ p hp=>(zAq.mp hp).elim (λ z=>I.pin p (zA1 _ z)) λ z=>by
  obtain⟨hb,e⟩:=wO z;obtain⟨f0,f1,f2,_⟩:=hf p.1 hb;obtain⟨o,e',d⟩:=ho p.1 hb;rw[e]at e';cases e';exact⟨e,f0,f1,f2,d⟩) λ q hq p hp=>(zAq.mp hq).elim (λ z=>(I.tab p hp).2.2.2.1 q (zA1 _ z)) λ z=>((hf q.1 (wO z).1).2.2.2.2.2 p (zA8 _ hp)).symm
def Inv.unpinned(I:Inv X (pins++pl) Z H s):Inv X pins Z H s:=I.pins_of (λ p hp=>I.pin p (zA1 _ (zA8 _ hp))) λ q hq p hp=>(I.tab p hp).2.2.2.1 q (zA1 _ (zA8 _ hq))
def aIP(hp:PassesOwn (model X.prog X.w) X.A X.env X.xe)(hc:X.calm=true)(hi:PI X tg iter wi)(hg:PG X tg g)(hb:PSs X body tb)
  (hs:∀x,zAx iter X.env x=pure x:=by intro _;rfl):PS X (.For tg iter body [] pos) (aKg wi g tb):=by
 intro pins s Z H D I h;refine wpAny_For (thn (hi pins s Z H _ I h) λ v s1 h1=>thn h1 λ itv s2 h2=>?_) hs;obtain⟨it,fp,tn,J,H2,e,I2,T,st2,f2,W,⟨m0,w0⟩,turn⟩:=h2;subst e;have stat:∀{H':Hp},(∀b∈fp,H' b=none)->∀b∈fp,o5 X pins H' b:=λ hn b hb=>⟨hn b hb,(f2 b hb).2⟩
 refine codeAny_forLoop_any (λ n s'=>∃i Z' H',Inv X pins Z' H' s'/\tn i s'.heap/\(∀b∈fp,H' b=none)/\W i n Z' H') ?_ m0 ⟨0,Z,H2,I2,st2,λ b hb=>(f2 b hb).1,w0⟩;rintro n s3 ⟨i,Z3,H3,I3,st3,fr3,w3⟩;rcases turn i n Z3 H3 w3 with ⟨stop,qn⟩|⟨go,N,hN,step⟩
 .refine zDb hp (thn (T.done X rfl rfl rfl hc i pins s3 Z3 H3 X.xe I3 (stat fr3) st3 stop) λ r s4 ⟨hr,I4⟩=>?_)
  subst hr;exact zE4 ⟨Z3,H3,I4,qn⟩
 .refine zDb hp (thn (T.item X rfl rfl rfl hc i pins s3 Z3 H3 X.xe I3 (stat fr3) st3 go) λ r s4 ⟨u,hr,h4⟩=>?_)
  subst hr;refine zDb hp (thn h4 λ _ s5 ⟨x,H5,I5,r5,y5,st5,fr5⟩=>?_);have I5':=I5.pinned (stat fr5) (T.obj _ _ st5);refine zDb hp (thn (hg _ s5 Z3 H5 x u _ I5' r5 (step x H5 y5)) λ _ s6 ⟨Z6,H6,I6,q6⟩=>?_);refine zDb hp (thn (hb _ s6 Z6 H6 _ I6 q6) λ f s7 q7=>?_);have again:∀{Z7:St} {H7:Hp},Inv X (pins++mJ fp s5.heap) Z7 H7 s7->N Z7 H7->∃m,m<n/\∃i Z' H',Inv X pins Z' H' s7/\tn i s7.heap/\(∀b∈fp,H' b=none)/\W i m Z' H':=λ{Z7 H7} I7 n7=>by
   obtain⟨m',hm,w7⟩:=hN Z7 H7 n7;refine⟨m',hm,i+1,Z7,H7,I7.unpinned,T.keep _ _ _ st5 λ b hb o e=>(I7.pin (b,o) (zA1 _ (zA1 _ (fQ hb e)))).1,λ b hb=>?_,w7⟩;obtain⟨o,e,d⟩:=T.obj _ _ st5 b hb;exact(I7.pin (b,o) (zA1 _ (zA1 _ (fQ hb e)))).2.1
  cases f with
  |next=>obtain⟨Z7,H7,I7,n7⟩:=q7;exact again I7 n7
  |cont=>obtain⟨Z7,H7,I7,n7⟩:=q7;exact again I7 n7
  |brk=>obtain⟨Z7,H7,I7,q7⟩:=q7;exact⟨Z7,H7,I7.unpinned,q7⟩
  |ret v=>obtain⟨x7,Z7,H7,I7,r7,q7⟩:=q7;exact⟨x7,Z7,H7,I7.unpinned,r7,q7⟩
end
abbrev R2:=V->V->Hp->VK->Prop
def OpR(X:Cx)(f:Value->Value->Sem Value)(r:R2):Prop:=
 ∀(pins:List (Addr×Obj)) (s:zAD) (Z:St) (H:Hp) (x y:V) (v u:Value) (Q:VK),Inv X pins Z H s->RelV x v->RelV y u->r x y H Q->
  wpAny (model X.prog X.w) X.A (f v u) (EP X pins Z Q) X.xe s
def UnR(X:Cx)(f:Value->Sem Value)(r:V->Hp->VK->Prop):Prop:=
 ∀(pins:List (Addr×Obj)) (s:zAD) (Z:St) (H:Hp) (x:V) (v:Value) (Q:VK),Inv X pins Z H s->RelV x v->r x H Q->
  wpAny (model X.prog X.w) X.A (f v) (EP X pins Z Q) X.xe s
def eQ(X:Cx)(f:Value)(r:List V->Hp->VK->Prop):Prop:=
 ∀(pins:List (Addr×Obj)) (s:zAD) (Z:St) (H:Hp) (xs:List V) (us:List Value) (Q:VK),Inv X pins Z H s->Vals xs us->r xs H Q->
  wpAny (model X.prog X.w) X.A (call f us) (EP X pins Z Q) X.xe s
def aKp(X:Cx)(r:V->Hp->(Bool->Hp->Prop)->Prop):Prop:=
 ∀(pins:List (Addr×Obj)) (s:zAD) (Z:St) (H:Hp) (x:V) (v:Value) (Q:Bool->Hp->Prop),Inv X pins Z H s->RelV x v->r x H Q->
  wpAny (model X.prog X.w) X.A (truthy v) (TP X pins Z Q) X.xe s
def tOp(r:R2)(ta tb:TE):TE:=λ Z H Q=>ta Z H λ x H1=>tb Z H1 λ y H2=>r x y H2 Q
def tUn(r:V->Hp->VK->Prop)(ta:TE):TE:=λ Z H Q=>ta Z H λ x H1=>r x H1 Q
def rI(C:Int->Int->Prop)(g:Int->Int->V):R2:=λ x y H Q=>∃i j,x= .int i/\y= .int j/\C i j/\Q (g i j) H
def rI0(g:Int->Int->V):R2:=λ x y H Q=>∃i j,x= .int i/\y= .int j/\Q (g i j) H
def rU(g:Int->V):V->Hp->VK->Prop:=λ x H Q=>∃i,x= .int i/\Q (g i) H
section
variable{X:Cx}{a b:Expr}{ta tb:TE}{pos:Pos}
def aJ3(ha:PE X a ta)(hb:PE X b tb){pins:List (Addr×Obj)}{s:zAD}{Z:St}{H:Hp}{R:V->V->Hp->Prop}(I:Inv X pins Z H s)
  (h:ta Z H λ x H1=>tb Z H1 λ y H2=>R x y H2){Q:Value->zAD->Prop}{f:Value->Value->Sem Value}
  (hf:∀v u s2 x y H2,Inv X pins Z H2 s2->RelV x v->RelV y u->R x y H2->wpAny (model X.prog X.w) X.A (f v u) Q X.xe s2):
  wpAny (model X.prog X.w) X.A (eval a X.env) (λ v zS=>wpAny (model X.prog X.w) X.A (eval b X.env) (λ u z0=>wpAny (model X.prog X.w) X.A (f v u) Q X.xe z0) X.xe zS) X.xe s:=by
 refine thn (ha pins s Z H _ I h) λ v s1 ⟨x,H1,I1,r1,q1⟩=>?_
 refine thn (hb pins s1 Z H1 _ I1 q1) λ u s2 ⟨y,H2,I2,r2,q2⟩=>?_
 exact hf v u s2 x y H2 I2 r1 r2 q2
def aEE{op:Operator}{r:R2}(ho:OpR X (zCV op) r)(ha:PE X a ta)(hb:PE X b tb):PE X (.BinOp a op b pos) (tOp r ta tb):=by
 intro pins s Z H Q I h;exact wpAny_BinOp (aJ3 ha hb I h λ v u s2 x y H2 I2 rx ry q=>ho pins s2 Z H2 x y v u Q I2 rx ry q)
def aH4(ho:UnR X (unaryOp op) r)(ha:PE X a ta):PE X (.UnaryOp op a pos) (tUn r ta):=by
 intro pins s Z H Q I h;exact UnaryOp_ (thn (ha pins s Z H _ I h) λ v s1 ⟨x,H1,I1,r1,q1⟩=>ho pins s1 Z H1 x v Q I1 r1 q1)
def opI{f:Value->Value->Sem Value}{C:Int->Int->Prop}{g:Int->Int->Int}
  (rule:∀(i j:Int) (t u:Tok) (s:zAD) (Q:Value->zAD->Prop) (E:Value->zAD->Prop),C i j->Q (.int (g i j) s.toks) {s with toks:=s.toks+1}->wpAny (model X.prog X.w) X.A (f (.int i t) (.int j u)) Q E s):
  OpR X f (rI C λ i j=>.int (g i j)):=by
 intro pins s Z H x y v u Q I rx ry h;obtain⟨i,j,rfl,rfl,hc,q⟩:=h;obtain⟨t,rfl⟩:=rx;obtain⟨t',rfl⟩:=ry;exact rule i j t t' s _ _ hc ⟨.int (g i j),H,I.tok _,⟨_,rfl⟩,q⟩
def aKI{f:Value->Value->Sem Value}{g:Int->Int->Int}
  (rule:∀(i j:Int) (t u:Tok) (s:zAD) (Q:Value->zAD->Prop) (E:Value->zAD->Prop),Q (.int (g i j) s.toks) {s with toks:=s.toks+1}->wpAny (model X.prog X.w) X.A (f (.int i t) (.int j u)) Q E s):
  OpR X f (rI0 λ i j=>.int (g i j)):=by
 intro pins s Z H x y v u Q I rx ry h;obtain⟨i,j,rfl,rfl,q⟩:=h;obtain⟨t,rfl⟩:=rx;obtain⟨t',rfl⟩:=ry;exact rule i j t t' s _ _ ⟨.int (g i j),H,I.tok _,⟨_,rfl⟩,q⟩
def aGY{f:Value->Value->Sem Value}{g:Int->Int->Bool}
  (rule:∀(i j:Int) (t u:Tok) (s:zAD) (Q:Value->zAD->Prop) (E:Value->zAD->Prop),Q (.bool (g i j)) s->wpAny (model X.prog X.w) X.A (f (.int i t) (.int j u)) Q E s):
  OpR X f (rI0 λ i j=>.bl (g i j)):=by
 intro pins s Z H x y v u Q I rx ry h;obtain⟨i,j,rfl,rfl,q⟩:=h;obtain⟨t,rfl⟩:=rx;obtain⟨t',rfl⟩:=ry;exact rule i j t t' s _ _ ⟨.bl (g i j),H,I,rfl,q⟩
def aK6(i j:Int):Prop:=0<j/\j<1073741824
def aKr(i j:Int):Prop:=0<=j/\j<=1000000/\i.natAbs<2^64
def aHR(i j:Int):Prop:=(-(2^64)<i/\i<2^64)\/(-(2^64)<j/\j<2^64)
def aHR.ok(h:aHR i j):IntMulOk i j:=by
 rcases h with ⟨h1,h2⟩|⟨h1,h2⟩
 .exact .of_left (intBits_le_64 h1 h2)
 .exact .of_right (intBits_le_64 h1 h2)
def aIn:OpR X (zCV .Add) (rI0 λ i j=>.int (i+j)):=aKI λ _ _ _ _ _ _ _ q=>add_int q
def aI7:OpR X (zCV .Sub) (rI0 λ i j=>.int (i-j)):=aKI λ _ _ _ _ _ _ _ q=>sub_int q
def aIb:OpR X (zCV .Mult) (rI aHR λ i j=>.int (i*j)):=opI λ _ _ _ _ _ _ _ hc q=>mul_int q hc.ok
def aGU:OpR X (zCV .FloorDiv) (rI aK6 λ i j=>.int (i / j)):=opI λ i j _ _ _ _ _ hc q=>by
 have h1:(0:Int)<j:=hc.1;have h2:j<1073741824:=hc.2;exact floordiv_int (by lia) (by rw[Int.fdiv_eq_ediv_of_nonneg i (by lia)];exact q) (.inl (PyProof.noPylong_small (by lia)))
def aIc:OpR X (zCV .Mod) (rI (λ _ j=>0<j) λ i j=>.int (i%j)):=opI λ i j _ _ _ _ _ hc q=>by
 have h1:(0:Int)<j:=hc;exact mod_int' (by lia) (by rw[Int.fmod_eq_emod_of_nonneg i (by lia)];exact q)
def aI9:OpR X (zCV .Pow) (rI aKr λ i j=>.int (i^j.toNat)):=opI λ _ _ _ _ _ _ _ hc q=>pow_int_small hc.1 hc.2.1 hc.2.2 q
def unI{f:Value->Sem Value}{g:Int->Int}
  (rule:∀(i:Int) (t:Tok) (s:zAD) (Q:Value->zAD->Prop) (E:Value->zAD->Prop),Q (.int (g i) s.toks) {s with toks:=s.toks+1}->wpAny (model X.prog X.w) X.A (f (.int i t)) Q E s):
  UnR X f (rU λ i=>.int (g i)):=by
 intro pins s Z H x v Q I rx h;obtain⟨i,rfl,q⟩:=h;obtain⟨t,rfl⟩:=rx;exact rule i t s _ _ ⟨.int (g i),H,I.tok _,⟨_,rfl⟩,q⟩
def aDL:UnR X (unaryOp .USub) (rU λ i=>.int (-i)):=unI λ _ _ _ _ _ q=>neg_int q
end
section
variable{X:Cx}{a b c:Expr}{ta tb tc:TE}{pos:Pos}
def aFH(I:Inv X pins Z H s)(q:Q (.bl k) H)(e:k=k'):EP X pins Z Q (.bool k') s:=by
 subst e;exact⟨.bl k,H,I,rfl,q⟩
def aKE:OpR X (zAv .Lt) (rI0 λ i j=>.bl (decide (i<j))):=aGY λ _ _ _ _ _ _ _ q=>lt_int q
def aKF:OpR X (zAv .LtE) (rI0 λ i j=>.bl (decide (i<=j))):=aGY λ _ _ _ _ _ _ _ q=>le_int q
def aKG:OpR X (zAv .Gt) (rI0 λ i j=>.bl (decide (j<i))):=aGY λ _ _ _ _ _ _ _ q=>gt_int q
def aKH:OpR X (zAv .GtE) (rI0 λ i j=>.bl (decide (j<=i))):=aGY λ _ _ _ _ _ _ _ q=>ge_int q
def aIj:OpR X (zAv .Is) (λ x y H Q=>y= .non/\Q (.bl (decide (x= .non))) H):=by
 intro pins s Z H x y v u Q I rx ry h;obtain⟨rfl,q⟩:=h;cases ry;refine is_none_gen (aFH I q ?_);cases x<;>first
  |(cases rx;rfl)
  |(obtain⟨t,rfl⟩:=rx;rfl)
def isObj:HO->Bool
 | .lst _=>true
 | .ins _ _ _=>true
 |_=>false
def aES(b:Expr)(h:op≠.In:=by decide)(h2:op≠.NotIn:=by decide):zBr op b=false:=by
 have e1:(op==CmpOp.In)=false:=by cases op<;>first|rfl|exact absurd rfl h
 have e2:(op==zHZ)=false:=by cases op<;>first|rfl|exact absurd rfl h2
 cases b<;>simp[zBr,e1,e2]
def aGN{op:CmpOp}{r:R2}(ho:OpR X (zAv op) r)(ha:PE X a ta)(hb:PE X b tb)(hm:zBr op b=false):PE X (.Compare a [op] [b] pos) (tOp r ta tb):=by
 intro pins s Z H Q I h;exact wpAny_Compare1 (aJ3 ha hb I h λ v u s2 x y H2 I2 rx ry q=>ho pins s2 Z H2 x y v u Q I2 rx ry q) hm
def aDV(t:TE):TT:=λ Z H Q=>t Z H λ x H'=>∃k,x= .bl k/\Q k H'
def aGD(ho:OpR X (zAv op) r)(ha:PE X a ta)(hb:PE X b tb)(hm:zBr op b=false):PT X (.Compare a [op] [b] pos) (aDV (tOp r ta tb)):=by
 intro pins s Z H Q I h;refine zGx (thn (ha pins s Z H _ I h) λ v s1 ⟨x,H1,I1,r1,q1⟩=>thn (hb pins s1 Z H1 _ I1 q1) λ u s2 ⟨y,H2,I2,r2,q2⟩=>
  thn (ho pins s2 Z H2 x y v u _ I2 r1 r2 q2) λ c s3 ⟨z,H3,I3,r3,k,e,q3⟩=>?_) hm
 subst e;cases r3;exact zB5 ⟨H3,I3,q3⟩
def aA6(r r':R2)(ta tb tc:TE):TE:=λ Z H Q=>ta Z H λ x H1=>tb Z H1 λ y H2=>r x y H2 λ z H3=>∃k,z= .bl k/\
 (if k=true then tc Z H3 λ w' H4=>r' y w' H4 Q else Q (.bl false) H3)
def aEJ(ho:OpR X (zAv op) r)(ho':OpR X (zAv op') r')(ha:PE X a ta)(hb:PE X b tb)(hc:PE X c tc)
  (hm:zE2 [op,op'] [b,c]=false:=by with_unfolding_all rfl):PE X (.Compare a [op,op'] [b,c] pos) (aA6 r r' ta tb tc):=by
 intro pins s Z H Q I h;refine Compare_chain (thn (ha pins s Z H _ I h) λ v s1 ⟨x,H1,I1,r1,q1⟩=>chain_link (thn (hb pins s1 Z H1 _ I1 q1) λ u s2 ⟨y,H2,I2,r2,q2⟩=>
  thn (ho pins s2 Z H2 x y v u _ I2 r1 r2 q2) λ d s3 ⟨z,H3,I3,r3,k,e,q3⟩=>?_)) hm
 subst e;cases r3;refine zB5 ?_;cases k with
 |false=>exact ite_ff ⟨.bl false,H3,I3,rfl,q3⟩
 |true=>exact ite_tt (chain_last (thn (hc pins s3 Z H3 _ I3 q3) λ w' s4 ⟨z',H4,I4,r4,q4⟩=>ho' pins s4 Z H4 y z' u w' Q I4 r2 r4 q4))
def aDw(ho:OpR X (zAv op) r)(ho':OpR X (zAv op') r')(ha:PE X a ta)(hb:PE X b tb)(hc:PE X c tc)
  (hm:zE2 [op,op'] [b,c]=false:=by with_unfolding_all rfl):PT X (.Compare a [op,op'] [b,c] pos) (aDV (aA6 r r' ta tb tc)):=by
 intro pins s Z H Q I h;refine isTrue_chain (thn (ha pins s Z H _ I h) λ v s1 ⟨x,H1,I1,r1,q1⟩=>test_link (thn (hb pins s1 Z H1 _ I1 q1) λ u s2 ⟨y,H2,I2,r2,q2⟩=>
  thn (ho pins s2 Z H2 x y v u _ I2 r1 r2 q2) λ d s3 ⟨z,H3,I3,r3,k,e,q3⟩=>?_)) hm
 subst e;cases r3;refine zB5 ?_;cases k with
 |false=>
  obtain⟨k',e',q'⟩:=q3;cases e';exact ite_ff ⟨H3,I3,q'⟩
 |true=>
  refine ite_tt (test_last (thn (hc pins s3 Z H3 _ I3 q3) λ w' s4 ⟨z',H4,I4,r4,q4⟩=>thn (ho' pins s4 Z H4 y z' u w' _ I4 r2 r4 q4) λ d' s5 ⟨z2,H5,I5,r5,k2,e2,q5⟩=>?_));subst e2;cases r5;exact zB5 ⟨H5,I5,q5⟩
def aJ6(K:zAA)(x:V)(H:Hp)(k:Bool):Prop:=
 match x with
 | .non=>k=false
 | .bl b=>k=b
 | .int i=>k=(i !=0)
 | .str y=>y.length<=zAV/\k=((y.length:Int)!=0)
 | .byt y=>y.size<=zAV/\k=((y.size:Int)!=0)
 | .ref p=>(∃xs,SqL K H p xs/\k= !xs.isEmpty)\/(∃xs,SqT K H p xs/\k= !xs.isEmpty)\/∃kvs,H p=some (.dK kvs)/\k= !kvs.isEmpty
 |_=>False
def aBT(r:KV kvs vs):(!vs.isEmpty)= !kvs.isEmpty:=by
 cases r<;>rfl
def uy(r:Vals xs its):(!its.toArray.isEmpty)= !xs.isEmpty:=by
 cases r<;>simp
def uo:(zAV:Nat)<2^63:=by rw[zD8];decide
def aHq:aKp X (λ x H Q=>∃k,aJ6 X.K x H k/\Q k H):=by
 intro pins s Z H x v Q I rx h;obtain⟨k,e,q⟩:=h;have hl:=uo;have hs:zAV=16777216:=zD8;cases x with
 |non=>
  cases rx;have e':k=false:=e;subst e';exact truthy_none ⟨H,I,q⟩
 |bl b=>
  cases rx;have e':k=b:=e;subst e';exact zB5 ⟨H,I,q⟩
 |int i=>
  obtain⟨t,rfl⟩:=rx;have e':k=(i !=0):=e;subst e';exact PySem.P.truthy_int ⟨H,I,q⟩
 |str y=>
  obtain⟨t,rfl⟩:=rx;obtain⟨hy,e'⟩:y.length<=zAV/\k=((y.length:Int)!=0):=e;subst e';exact PySem.P.truthy_str (by lia) ⟨H,I.tok _,q⟩
 |byt y=>
  obtain⟨t,rfl⟩:=rx;obtain⟨hy,e'⟩:y.size<=zAV/\k=((y.size:Int)!=0):=e;subst e';exact PySem.W.truthy_bytes (by lia) ⟨H,I.tok _,q⟩
 |ref p=>
  cases rx;have e':(∃xs,SqL X.K H p xs/\k= !xs.isEmpty)\/(∃xs,SqT X.K H p xs/\k= !xs.isEmpty)\/∃kvs,H p=some (.dK kvs)/\k= !kvs.isEmpty:=e
  rcases e' with ⟨xs,hx,e'⟩|⟨xs,hx,e'⟩|⟨kvs,hx,e'⟩
  .subst e'
   obtain⟨its,r,pl,hz⟩:=I.list hx;have hlen:=r.length;exact wpAny_truthy_list pl.isList (by simp only[zAH];lia) ⟨H,I.tok _,by rw[uy r];exact q⟩
  .subst e'
   obtain⟨its,r,pl,hz⟩:=I.tuple hx;have hlen:=r.length;exact truthy_tuple pl (by simp only[zAH];lia) ⟨H,I.tok _,by rw[uy r];exact q⟩
  .subst e'
   obtain⟨hz,hS,vs,r,m⟩:kvs.length<=zAV/\(p==zDx)=false/\∃vs,KV kvs vs/\s.heap.DictOf (yd X.prog X.w) p vs:=I.hok p _ hx
   have hlen:kvs.length=vs.length:=zHB r;exact wpAny_truthy_dict hS m (by lia) ⟨H,I.tok _,by rw[aBT r];exact q⟩
 |_=>exact(show False from e).elim
def aDv(ha:PE X a ta)(he:∀whole,isTrue a X.env whole=(do let v <-whole;zE3 a.pos;zE1 [v] (truthy v))):
  PT X a (λ Z H Q=>ta Z H λ x H'=>∃k,aJ6 X.K x H' k/\Q k H'):=by
 intro pins s Z H Q I h;exact isTrue_plain (thn (ha pins s Z H _ I h) λ v s1 ⟨x,H1,I1,r1,q1⟩=>aHq pins s1 Z H1 x v Q I1 r1 q1) (he _)
def vals1(r:Vals [x] us):∃u,us=[u]/\RelV x u:=by
 cases r with
 |cons r1 r2=>cases r2;exact⟨_,rfl,r1⟩
def vals2(r:Vals [x,y] us):∃u w',us=[u,w']/\RelV x u/\RelV y w':=by
 cases r with
 |cons r1 r2=>
  cases r2 with
  |cons r3 r4=>cases r4;exact⟨_,_,rfl,r1,r3⟩
def aCv(hc:X.calm=true):eQ X (.builtin "max") (λ xs H Q=>∃i j,xs=[.int i,.int j]/\Q (.int (if j>i then j else i)) H):=by
 intro pins s Z H xs us Q I r h;obtain⟨i,j,rfl,q⟩:=h;obtain⟨u,w',rfl,⟨t,rfl⟩,⟨t',rfl⟩⟩:=vals2 r;refine max_two_ints (I.ok.hd hc) λ h' tk k=>⟨_,H,I.kept k,?_,q⟩
 by_cases hj:j>i
 .rw[if_pos hj,if_pos hj];exact⟨_,rfl⟩
 .rw[if_neg hj,if_neg hj];exact⟨_,rfl⟩
def aCu(hc:X.calm=true):eQ X (.builtin "min") (λ xs H Q=>∃i j,xs=[.int i,.int j]/\Q (.int (if j<i then j else i)) H):=by
 intro pins s Z H xs us Q I r h;obtain⟨i,j,rfl,q⟩:=h;obtain⟨u,w',rfl,⟨t,rfl⟩,⟨t',rfl⟩⟩:=vals2 r;refine min_two_ints (I.ok.hd hc) λ h' tk k=>⟨_,H,I.kept k,?_,q⟩
 by_cases hj:j<i
 .rw[if_pos hj,if_pos hj];exact⟨_,rfl⟩
 .rw[if_neg hj,if_neg hj];exact⟨_,rfl⟩
end
structure aHO(h:Heap)(x dx C:Addr)(mA:Str->Option Value):Prop where
 obj:h.get? x=some (zCL C dx)
 ns:h.Ns1 dx mA
 ne:dx≠x
def aCg{h:Heap}{dx:Addr}{mA:Str->Option Value}(n:h.Ns1 dx mA):∃od,h.get? dx=some od/\∀name,zEE name od=some (mA name):=by
 obtain⟨o,es,ep,ho,hd,hk,_,hm⟩:=n;refine⟨o,ho,λ name=>?_⟩;have e:=hm name;unfold nsFind findBy at e;rw[<-Array.find?_toList]at e;unfold zEE;rw[hd];dsimp only;split
 .rename_i y q
  rw[q]at e;exact congrArg some e
 .rename_i q
  rw[q]at e;have a:es.toList.any (·.refKey)=false:=by
   rw[List.any_eq_false];intro y hy;obtain⟨z,t,hkey⟩:=hk y (Array.mem_toList_iff.mp hy);simp[DictEntry.refKey,hkey]
  have a':¬es.toList.any (·.refKey)=true:=by rw[a];exact zAG
  rw[if_neg a'];exact congrArg some e
def aHO.look(I:aHO h x dx C mA):∃od,zGh h x (zCL C dx) C (some od)/\∀name,zEE name od=some (mA name):=
 let⟨od,ho,hl⟩:=aCg I.ns
 ⟨od,⟨I.obj,rfl,rfl,ho⟩,hl⟩
section
variable{prog:zAY}{w:World}{A:zAd}{E:Value->zAD->Prop}{s:zAD}{K:zAA}{x dx C f:Addr}{mA:Str->Option Value}{name:Str}
def aEy(X:K.In s.heap)(I:aHO s.heap x dx C mA)(hg:zEf K C name=true)
  (hf:zBQ K (.ref C) name=some (some (.ref f)))(ht:zHC K (.ref f)=true)(hv:mA name=none)(h:Q (.ref f,[.ref x]) s):
  wpAny (model prog w) A (getMethod (.ref x) name pl) Q E s:=by
 obtain⟨od,J,hl⟩:=I.look;exact PySem.W.method_fn X J (zFn hg).1 (zFn hg).2 hf (beq_iff_eq.mp ht) (by show(zEE name od).map (·.isSome)=some false;rw[hl,hv];rfl) h
def make_map(X:K.In s.heap)(hm:PySem.W.makesIn K C=true)
  (hi:zBQ K (.ref C) "__init__"=some (some (.ref f)))(hf:PySem.W.typeIn K (.ref f)=some (.type "function"))
  (h:zBs (model prog w) (A.under (.builtin "type.__call__" ⟨.ref C::vs,kw⟩)) (.call (.ref f) ⟨.ref (s.heap.objs.size+1)::vs,kw⟩) (PySem.W.InitBack (s.heap.objs.size+1) R)
   {s with heap:=(s.heap.push zBk).push (zCL C s.heap.objs.size)}):
  zBs (model prog w) A (.call (.ref C) ⟨vs,kw⟩) R s:=by
 obtain⟨hh,g,d,t,os⟩:=s;exact PySem.W.make_core (PySem.W.makes_of X hm) (zDQ X hi) (λ self=>PySem.W.bind_fn X self hf) (.inl rfl) h
end
def aDB.none_of(r:aDB none o):o=none:=by
 cases o with
 |none=>rfl
 |some u=>exact(show False from r).elim
section
variable{P:zAY}{w:World}{H:Hp}{h:Heap}{a C dx:Addr}{fs:List (Str×V)}
def aCG(hok:HOk P w H h)(e:H a=some (.ins C dx fs)):∃mA,aHO h a dx C mA/\(∀f,aDB (fs.lookup f) (mA f))/\zHR mA (fs.map (·.1))/\fs.length<=1000/\H dx=some (.own a):=by
 obtain⟨d,z,ne,ob,mA,n,r,q⟩:=(show cM P w H h a (.ins C dx fs)from hok a _ e);exact⟨mA,⟨ob,n,ne⟩,r,q,z,d⟩
end
structure Cls(K:zAA)(C:Addr):Prop where
 pg:zEf K C Str.empty=true
 hd:PySem.W.hasDictIn K C=true
 po:PySem.W.plainOver K C=true
 sa:zBQ K (.ref C) "__setattr__"=some (some (.builtin "object.__setattr__"))
def Cls.get{K:zAA}{C:Addr}(c:Cls K C)(f:Str):zEf K C f=true:=c.pg
def aJ7(K:zAA)(C:Addr)(f:Str):Prop:=zBQ K (.ref C) f=some none
structure Meth(K:zAA)(C:Addr)(m:Str)(f:Addr):Prop where
 at_:zBQ K (.ref C) m=some (some (.ref f))
 fn:zHC K (.ref f)=true
 kp:zBl K (.ref f)=true
section
variable{X:Cx}{pins:List (Addr×Obj)}{Z:St}{H:Hp}{s:zAD}{a C dx:Addr}{fs:List (Str×V)}{A:zAd}{E:Value->zAD->Prop}
def aBX(I:Inv X pins Z H s)(e:H a=some (.ins C dx fs))(c:Cls X.K C)(k:Meth X.K C m g)(l:fs.lookup m=none)
  (h:Q (.ref g,[.ref a]) s):wpAny (model X.prog X.w) A (getMethod (.ref a) m pl) Q E s:=by
 obtain⟨mA,O,r,_,_,_⟩:=aCG I.hok e;have hn:mA m=none:=aDB.none_of (by rw[<-l];exact r m);exact aEy I.kIn O (c.get m) k.at_ k.fn hn h
def Inv.made(I:Inv X pins Z H s):Inv X pins Z (upd (upd H s.heap.objs.size (.own (s.heap.objs.size+1))) (s.heap.objs.size+1) (.ins C s.heap.objs.size []))
  {s with heap:=(s.heap.push zBk).push (zCL C s.heap.objs.size)}:=by
 have e1:(s.heap.push zBk).get? s.heap.objs.size=some zBk:=zA3 s.heap rfl;have e2:((s.heap.push zBk).push (zCL C s.heap.objs.size)).get? (s.heap.objs.size+1)=some (zCL C s.heap.objs.size):=by
  have:=zA3 (s.heap.push zBk) (o:=zCL C s.heap.objs.size) rfl
  rwa [zCJ]at this
 have e3:(s.heap.push zBk).Ns s.heap.objs.size (λ _=>none):=⟨zBk,#[],_,e1,rfl,(λ e he=>absurd he (by simp)),λ _=>rfl⟩;have I1:=I.laid (a:=s.heap.objs.size) (o:=.own (s.heap.objs.size+1)) (h':=s.heap.push zBk) (t':=s.toks) (λ b u q=>zAE _ q) (zAP _) ⟨_,e1⟩;refine I1.laid (a:=s.heap.objs.size+1) (o:=.ins C s.heap.objs.size []) (t':=s.toks) (λ b u q=>zAE _ q) (zGH (zCJ _ _)) ?_;have ne:s.heap.objs.size≠s.heap.objs.size+1:=zA6 (zCj _);refine⟨by rw[aU ne,aX],zAj _,ne,e2,λ _=>none,(Heap.Ns1.of_empty e3).at λ o q=>zAE _ q,λ _=>zDg,λ y hy=>absurd rfl hy⟩
end
def tFld(K:zAA)(ta:TE)(f:Str):TE:=λ Z H Q=>ta Z H λ x H1=>∃a C dx fs v,x= .ref a/\H1 a=some (.ins C dx fs)/\Cls K C/\aJ7 K C f/\fs.lookup f=some v/\Q v H1
section
variable{X:Cx}{e:Expr}{f:Str}{pos:Pos}
def methcall_of(he:PE X e te)(I:Inv X pins Z H s)
  (h:te Z H λ x H1=>∃a C dx fs g,x= .ref a/\H1 a=some (.ins C dx fs)/\Cls X.K C/\Meth X.K C m g/\fs.lookup m=none/\
   ∀s1,Inv X pins Z H1 s1->wpAny (model X.prog X.w) X.A (callWith pos (.ref g) [.ref a] (zC2 pos (zA2 args X.env)) (zEa pos (zDX [] X.env))) Q X.xe s1)
  (ht:eval (.Call (.Attribute e m apos) args [] pos) X.env=(do
   let ov <-eval e X.env
   zE3 apos.atName
   let(f,first) <-zE1 [ov] (getMethod ov m pl)
   callWith pos f first (zC2 pos (zA2 args X.env)) (zEa pos (zDX [] X.env)))):
  wpAny (model X.prog X.w) X.A (eval (.Call (.Attribute e m apos) args [] pos) X.env) Q X.xe s:=by
 refine PySem.W.methodCall_KW (pl:=pl) (thn (he pins s Z H _ I h) λ u s1 ⟨x,H1,I1,rx,a,C,dx,fs,g,ex,ea,c,k,l,q⟩=>?_) ht;subst ex;obtain rfl:u=zBx a:=rx;exact aBX I1 ea c k l (q s1 I1)
end
section
variable{X:Cx}{pins:List (Addr×Obj)}{Z:St}{H:Hp}{s:zAD}{A:zAd}{E:Value->zAD->Prop}{Q:Value->zAD->Prop}{c:Value}{b:Bool}
inductive rF(K:zAA)(H:Hp):V->Value->Prop where
 |non:rF K H .non (.type "NoneType")
 |bl (x:Bool):rF K H (.bl x) (.type "bool")
 |int (i:Int):rF K H (.int i) (.type "int")
 |str (x:Str):rF K H (.str x) (.type "str")
 |flt (x:UInt64):rF K H (.flt x) (.type "float")
 |lst {a:Addr} {xs:List V} (e:H a=some (.lst xs)):rF K H (.ref a) (.type "list")
 |frz {a:Addr} {o:Obj} {xs:List V} (e:H a=some (.frz o (.lst xs))):rF K H (.ref a) (.type "list")
 |tup {a:Addr} {xs:List V} (e:H a=some (.tup xs)):rF K H (.ref a) (.type "tuple")
 |dK {a:Addr} {kvs:List (Key×V)} (e:H a=some (.dK kvs)):rF K H (.ref a) (.type "dict")
 |dT {a:Addr} {kvs:List (List Key×V)} (e:H a=some (.dT kvs)):rF K H (.ref a) (.type "dict")
 |ins {a C dx:Addr} {fs:List (Str×V)} (e:H a=some (.ins C dx fs)) (cl:Cls K C) (ha:zBQ K (.ref C) "__class__"=some (some (.builtin "object.__class__")))
   (hn:PySem.W.specialIn K (.builtin "object.__class__") "__get__"=some (some (.builtin "getset_descriptor.__get__"))) (htk:PySem.W.takesIn K (.builtin "object.__class__")=some true)
   (hm:PySem.W.mroIn K C (.type "object")=some true):rF K H (.ref a) (.ref C)
def aCl(I:Inv X pins Z H s)(rx:RelV x u)(ty:rF X.K H x t)(e:zBt X.K t c=some b)(h:∀tk,Q (.bool b) {s with toks:=tk}):
  wpAny (model X.prog X.w) A (call (.builtin "isinstance") [u,c]) Q E s:=by
 cases ty with
 |non=>cases (show u=zEg from rx);exact zBP PySem.W.kitx_none I.kIn zDg e (λ z=>nomatch z) h
 |bl y=>cases (show u=zCa y from rx);exact zBP PySem.W.kitx_bool I.kIn zDg e (λ z=>nomatch z) h
 |int i=>obtain⟨t,q⟩:=(show∃t,u=zFG i t from rx);cases q;exact zBP PySem.W.kitx_int I.kIn zDg e (λ z=>nomatch z) h
 |str y=>obtain⟨t,q⟩:=(show∃t,u=zGt y t from rx);cases q;exact zBP PySem.W.kitx_str I.kIn zDg e (λ z=>nomatch z) h
 |flt y=>obtain⟨t,q⟩:=(show∃t,u=zH6 y t from rx);cases q;exact zBP PySem.W.kitx_float I.kIn zDg e (λ z=>nomatch z) h
 |@lst a xs ea=>
  cases (show u=zBx a from rx);obtain⟨_,_,n,_,h1⟩:=(show cM X.prog X.w H s.heap a (.lst xs)from I.hok a _ ea);exact zBP zGI I.kIn ⟨_,h1,rfl⟩ e (λ z=>nomatch z) h
 |@frz a ob xs ea=>
  cases (show u=zBx a from rx);obtain⟨_,_,_,n,_,h1⟩:=(show cM X.prog X.w H s.heap a (.frz ob (.lst xs))from I.hok a _ ea);exact zBP zGI I.kIn ⟨_,h1,rfl⟩ e (λ z=>nomatch z) h
 |@tup a xs ea=>
  cases (show u=zBx a from rx);obtain⟨_,_,_,p⟩:=(show cM X.prog X.w H s.heap a (.tup xs)from I.hok a _ ea);obtain⟨o,h1,h2,_⟩:=p;exact zBP zGB I.kIn ⟨o,h1,h2⟩ e (λ z=>nomatch z) h
 |@dK a kvs ea=>
  cases (show u=zBx a from rx);obtain⟨_,_,vs,_,p⟩:=(show cM X.prog X.w H s.heap a (.dK kvs)from I.hok a _ ea);obtain⟨o,es,ep,h1,h2,_⟩:=p;exact zBP zEX I.kIn ⟨o,h1,h2.1⟩ e (λ z=>nomatch z) h
 |@dT a kvs ea=>
  cases (show u=zBx a from rx);obtain⟨_,_,xs,_,o,es,ep,h1,h2,_⟩:=(show cM X.prog X.w H s.heap a (.dT kvs)from I.hok a _ ea);exact zBP zEX I.kIn ⟨o,h1,h2.1⟩ e (λ z=>nomatch z) h
 |@ins a C dx fs ea cl ha hn htk hm=>
  cases (show u=zBx a from rx);obtain⟨mA,O,_⟩:=aCG I.hok ea;obtain⟨od,J,_⟩:=O.look;exact zBP (PySem.W.kitx_own (cl.get _) cl.hd ha hn htk hm) I.kIn J e (λ z=>nomatch z) h
end
structure dM(k:Nat)(A:zAd):Prop where
 hd:A.handled=none
 dp:A.depth+3*k+5<zEo
 un:A.units+16*k+200<cLine
def dM.mono(r:dM k A)(h:j<=k):dM j A:=⟨r.hd,by have:=r.dp;lia,by have:=r.un;lia⟩
theorem dM.deeper(r:dM (k+1) A)(env:Env):dM k (A.deeper env):=
 ⟨r.hd,by have:=r.dp;show A.depth+1+3*k+5<_;lia,by have:=r.un;show A.units+3+16*k+200<_;lia⟩
theorem dM.depth(r:dM k A):A.depth<zEo:=by have:=r.dp;lia
theorem dM.units(r:dM k A):A.units+64<cLine:=by have:=r.un;lia
def dM.units0(r:dM k A):A.units<cLine:=by have:=r.un;lia
def qT:TA:=λ _ H Q=>Q [] H
def jK(ta:TE)(tr:TA):TA:=λ Z H Q=>ta Z H λ x H1=>tr Z H1 λ xs H2=>Q (x::xs) H2
section
variable{X:Cx}{e:Expr}{es:List Expr}{te:TE}{t:TA}{pos:Pos}
def cu:PA X [] qT:=λ _ _ _ _ H Q I h=>Calls.spliced_nil ⟨[],H,I,.nil,h⟩
def aV(ha:PE X e te)(hr:PA X es t)(hs:zA2 (e::es) X.env=(false,eval e X.env)::zA2 es X.env:=by rfl):PA X (e::es) (jK te t):=by
 intro pos pins s Z H Q I h;rw[hs];show wpAny _ _ (spliced ((false,eval e X.env)::zC2 pos (zA2 es X.env))) _ _ s;refine Calls.spliced_cons (thn (ha pins s Z H _ I h) λ u s1 ⟨x,H1,I1,r1,q1⟩=>?_);exact thn (hr pos pins s1 Z H1 _ I1 q1) λ us s2 ⟨xs,H2,I2,r2,q2⟩=>⟨x::xs,H2,I2,.cons r1 r2,q2⟩
def aK9(t:TA):TE:=λ Z H Q=>t Z H λ xs H1=>xs.length<=zAV/\∀p,H1 p=none->Q (.ref p) (upd H1 p (.tup xs))
def aKd(t:TA):TE:=λ Z H Q=>t Z H λ xs H1=>xs.length<=zAV/\∀p,H1 p=none->Q (.ref p) (upd H1 p (.lst xs))
def aIX{x1}(h:PA X es t):PE X (.Tuple es x1 pos) (aK9 t):=by
 intro pins s Z H Q I hq;refine wpAny_Tuple_spliced (thn (h pos pins s Z H _ I hq) λ us s1 ⟨xs,H1,I1,r,z,q⟩=>⟨by rw[<-r.length];exact z,?_⟩);have hf:H1 s1.heap.objs.size=none:=I1.hok.fresh (zAP _);refine⟨.ref s1.heap.objs.size,upd H1 s1.heap.objs.size (.tup xs),I1.laid (t':=s1.toks) (λ b u e=>zAE _ e) (zAP _) ?_,rfl,q _ hf⟩;exact⟨⟨z,NoD.push _⟩,us,r,⟨_,zA3 _ rfl,rfl,_,rfl⟩⟩
def aI0(h:PA X es t):PE X (.List es pos) (aKd t):=by
 intro pins s Z H Q I hq;refine wpAny_List_spliced (thn (h pos pins s Z H _ I hq) λ us s1 ⟨xs,H1,I1,r,z,q⟩=>⟨by rw[<-r.length];exact z,?_⟩);have hf:H1 s1.heap.objs.size=none:=I1.hok.fresh (zAP _);refine⟨.ref s1.heap.objs.size,upd H1 s1.heap.objs.size (.lst xs),I1.laid (t':=s1.toks) (λ b u e=>zAE _ e) (zAP _) ?_,rfl,q _ hf⟩;exact⟨z,us,0,r,zA3 _ rfl⟩
end
abbrev Sp:=List V->Hp->VK->XK->Prop
abbrev CXT:=List Env->Hp->zAD->XK->Value->zAD->Prop
structure aAZ(P:zAY)(w:World)(K:zAA)(mg:Str->Option Value)(base:Heap)(A:zAd)(outer:List Env)(s:zAD)(H:Hp):Prop where
 frames:A.frames=some outer
 mod:Mod K mg base
 bs:∀b o,base.get? b=some o->s.heap.get? b=some o/\H b=none
 bsz:base.objs.size<=s.heap.objs.size
 funs:s.heap.FunFrames base outer
 frf:∀b∈frs outer,H b=none
 hok:HOk P w H s.heap
 bare:zEU s.gens
def CE(outer:List Env)(P:zAY)(w:World)(H:Hp)(s:zAD)(Q:VK)(u:Value)(s':zAD):Prop:=
 ∃v H',s'.os=s.os/\zEU s'.gens/\Un (frs outer) [] H H' s.heap s'.heap/\HOk P w H' s'.heap/\RelV v u/\Q v H'
def CR(CX:CXT)(outer:List Env)(P:zAY)(w:World)(H:Hp)(s:zAD)(Q:VK)(E:XK)(r:zEZ)(s':zAD):Prop:=
 match r with
 | .ok (.ret u)=>CE outer P w H s Q u s'
 | .ok _=>False
 | .error e=>CX outer H s E e s'
structure cY(P:zAY)(w:World)(K:zAA)(mg:Str->Option Value)(base:Heap)(CX:CXT)(k:Nat)(f:Addr)(fd:zAt)(ps:List Str)(sp:Sp):Prop where
 len:∀vs H Q E,sp vs H Q E->vs.length=ps.length
 run:∀(A:zAd) (outer:List Env) (s:zAD) (H:Hp) (args:Args) (us:List Value) (vs:List V) (Q:VK) (E:XK),dM k A->aAZ P w K mg base A outer s H->zGV s fd args (ps.zip us)->Vals vs us->sp vs H Q E->
  zBs (model P w) A (.call (.ref f) args) (CR CX outer P w H s Q E) s
section
variable{X:Cx}{pins:List (Addr×Obj)}{Z:St}{H:Hp}{s s':zAD}
def Inv.env0(I:Inv X pins Z H s):aAZ X.prog X.w X.K X.mg X.base X.A X.stack s H:=
 ⟨I.ok.frames,I.ok.mod,I.bs,zAk I.ok.bsz I.sz,I.stack,I.stkFree,I.hok,I.bare⟩
def Inv.after(I:Inv X pins Z H s)(h:CE X.stack X.prog X.w H s Q u s'):EP X pins Z Q u s':=by
 obtain⟨v,H',os,bare,un,hok,r,q⟩:=h;obtain⟨hh,g,d,t,os'⟩:=s';obtain rfl:os'=s.os:=os;exact⟨v,H',I.call (h':=hh) (g':=g) (d':=d) (t':=t) (ch:=[]) un hok bare (λ b z=>absurd z (by simp)),r,q⟩
end
def zO(sp:Sp)(dvs:List V)(E:XK)(t:TA):TE:=λ Z H Q=>t Z H λ vs H1=>sp (vs++dvs) H1 Q E
def tMeth(C:Addr)(m:Str)(sp:Sp)(dvs:List V)(E:XK)(ta:TE)(t:TA):TE:=λ Z H Q=>ta Z H λ x H1=>∃a dx fs,x= .ref a/\H1 a=some (.ins C dx fs)/\fs.lookup m=none/\
 t Z H1 λ vs H2=>sp (x::(vs++dvs)) H2 Q E
def tMake(C:Addr)(sp:Sp)(dvs:List V)(E:XK)(t:TA):TE:=λ Z H Q=>t Z H λ vs H1=>∀x dx,H1 x=none->H1 dx=none->dx≠x->
 sp (.ref x::(vs++dvs)) (upd (upd H1 dx (.own x)) x (.ins C dx [])) (λ v H2=>v= .non/\Q (.ref x) H2) E
def Binds(K:zAA)(fd:zAt)(ps:List Str)(ds:List Value):Prop:=
 ∀(s:zAD) (us:List Value),K.In s.heap->(us++ds).length=ps.length->zGV s fd ⟨us,[]⟩ (ps.zip (us++ds))
def Binds.all{K:zAA}{fd:zAt}{ps:List Str}(h:∀us:List Value,us.length=ps.length->zHS fd ⟨us,[]⟩=pure (ps.zip us)):Binds K fd ps []:=λ s us _ hl=>by
 rw[zA9]at hl ⊢;exact .of_eq (h us hl)
def oZ(CX:CXT)(X:Cx)(E:XK):Prop:=∀(pins:List (Addr×Obj)) (Z:St) (H:Hp) (s:zAD) (e:Value) (s':zAD),Inv X pins Z H s->CX X.stack H s E e s'->X.xe e s'
section
variable{X:Cx}{CX:CXT}{k:Nat}{f:Addr}{fd:zAt}{ps:List Str}{sp:Sp}{dvs:List V}{ds:List Value}{E:XK}{x:Str}{p pos:Pos}{e:Expr}{es:List Expr}{t:TA}
def aDe(F:cY X.prog X.w X.K X.mg X.base CX k f fd ps sp)(hr:dM k X.A)(hb:Binds X.K fd ps ds)(hd:Vals dvs ds)(hx:oZ CX X E)
  (I:Inv X pins Z H s)(r:Vals vs us)(h:sp (vs++dvs) H Q E):wpAny (model X.prog X.w) X.A (call (.ref f) us) (EP X pins Z Q) X.xe s:=by
 have r2:Vals (vs++dvs) (us++ds):=r.append hd;have hl:(us++ds).length=ps.length:=by rw[<-r2.length];exact F.len _ _ _ _ h
 refine zF4 (zDB (F.run X.A X.stack s H ⟨us,[]⟩ (us++ds) (vs++dvs) Q E hr I.env0 (hb s us I.kIn hl) r2 h) λ r s' hq=>?_);cases r with
 |error e=>exact hx pins Z H s e s' I hq
 |ok fl=>
  cases fl with
  |ret u=>exact I.after hq
  |next=>exact zAM hq
  |brk=>exact zAM hq
  |cont=>exact zAM hq
def aGO(F:cY X.prog X.w X.K X.mg X.base CX k f fd ps sp)(hr:dM k X.A)(hg:Gl X x)(hm:X.mg x=some (.ref f))(hk:zBl X.K (.ref f)=true)(hb:Binds X.K fd ps ds)(hd:Vals dvs ds)(hx:oZ CX X E)
  (ha:PA X (e::es) t)(hdb:Nd x:=by decide)(he:zA2 (e::es) X.env=(false,eval e X.env)::zA2 es X.env:=by rfl)(hpl:(zC2 pos (zA2 es X.env)).any (·.1)=false:=by rfl):
  PE X (.Call (.Name x p) (e::es) [] pos) (zO sp dvs E t):=by
 intro pins s Z H Q I h;refine zCN (m6 I hg hm ?_ hdb);refine zER (h₀:=X.base) I.ok.mod.kin hk (thn (ha pos pins s Z H _ I h) λ us s1 ⟨vs,H1,I1,r,q⟩=>⟨I1.kIn,?_⟩) he hpl;exact aDe F hr hb hd hx I1 r q
end
def PK(X:Cx)(kws:List zCy)(t:TA):Prop:=
 ∀(pos:Pos) (pins:List (Addr×Obj)) (s:zAD) (Z:St) (H:Hp) (Q:List V->Hp->Prop),Inv X pins Z H s->t Z H Q->wpAny (model X.prog X.w) X.A (evalAll ((zEa pos (zDX kws X.env)).map (·.2))) (AP X pins Z Q) X.xe s
section
variable{X:Cx}{x:Str}{pos kpos:Pos}{e:Expr}{kws:List zCy}{te:TE}{t:TA}{nm:Option Str}
def aIS:PK X [] qT:=λ _ _ _ _ H Q I h=>wpAny_evalAll_nil ⟨[],H,I,.nil,h⟩
def aGH(ha:PE X e te)(hr:PK X kws t):PK X (⟨nm,e,kpos⟩::kws) (jK te t):=by
 intro pos pins s Z H Q I h;show wpAny _ _ (evalAll ((do let v <-eval e X.env;zE3 pos;pure v)::(zEa pos (zDX kws X.env)).map (·.2))) _ _ s;refine wpAny_evalAll_cons (zAC (thn (ha pins s Z H _ I h) λ u s1 ⟨x,H1,I1,r1,q1⟩=>zAC (zC1 (zAI ?_))));exact thn (hr pos pins s1 Z H1 _ I1 q1) λ us s2 ⟨xs,H2,I2,r2,q2⟩=>⟨x::xs,H2,I2,.cons r1 r2,q2⟩
end
structure aW(N P:List Str)(sc:Scope):Prop where
 kind:sc.kind= .function
 co:sc.isCoroutine=false
 gen:sc.isGenerator=false
 nd:N.Nodup
 pre:N.take P.length=P
 par:∀x∈P,sc.names.lookup x=some .local\/sc.names.lookup x=some .cell
 nofree:∀y∈sc.names,y.2≠.free
theorem xR{zBf:Str->Option zD3}{x:Str}:∀{binds:List (Str×Value)} {m:Str->Option Value},(∀v,(x,v)∉binds)->bindL zBf binds m x=m x
 |[],_,_=>rfl
 |(n,v)::r,m,h=>by
  unfold bindL;rw[xR λ w hw=>h w (zAX _ hw)];split
  .have:x≠n:=by rintro rfl;exact h v zAN
   simp[this]
  .rfl
theorem xU{zBf:Str->Option zD3}{x:Str}:∀{binds:List (Str×Value)} {m:Str->Option Value},(∀v,(x,v)∉binds)->bindC zBf binds m x=m x
 |[],_,_=>rfl
 |(n,v)::r,m,h=>by
  unfold bindC;rw[xU λ w hw=>h w (zAX _ hw)];split
  .rfl
  .have:x≠n:=by rintro rfl;exact h v zAN
   simp[this]
theorem xT{zBf:Str->Option zD3}{x:Str}{v:Value}:∀{P:List Str} {vs:List Value} {i:Nat} {m:Str->Option Value},P.Nodup->P[i]? =some x->vs[i]? =some v->zBf x=some .local->
  bindL zBf (P.zip vs) m x=some v
 |[],_,_,_,_,h,_,_=>by simp at h
 |_::_,[],_,_,_,_,h,_=>by simp at h
 |p::P,w::vs,0,m,nd,h1,h2,hk=>by
  simp at h1 h2;subst h1;subst h2;show bindL zBf ((p,w)::P.zip vs) m p=_;unfold bindL;rw[xR λ v hv=>(zBz.mp nd).1 (zCu hv).1,if_pos hk];simp
 |p::P,w::vs,i+1,m,nd,h1,h2,hk=>by
  show bindL zBf ((p,w)::P.zip vs) m x=_;unfold bindL;exact xT (i:=i) (zBz.mp nd).2 (by simpa using h1) (by simpa using h2) hk
theorem xV{zBf:Str->Option zD3}{x:Str}{v:Value}:∀{P:List Str} {vs:List Value} {i:Nat} {m:Str->Option Value},P.Nodup->P[i]? =some x->vs[i]? =some v->zBf x≠some .local->
  bindC zBf (P.zip vs) m x=some v
 |[],_,_,_,_,h,_,_=>by simp at h
 |_::_,[],_,_,_,_,h,_=>by simp at h
 |p::P,w::vs,0,m,nd,h1,h2,hk=>by
  simp at h1 h2;subst h1;subst h2;show bindC zBf ((p,w)::P.zip vs) m p=_;unfold bindC;rw[xU λ v hv=>(zBz.mp nd).1 (zCu hv).1,if_neg hk];simp
 |p::P,w::vs,i+1,m,nd,h1,h2,hk=>by
  show bindC zBf ((p,w)::P.zip vs) m x=_;unfold bindC;exact xV (i:=i) (zBz.mp nd).2 (by simpa using h1) (by simpa using h2) hk
def start(N:List Str)(vs:List V):St:=vs.map some++zAW (N.length-vs.length) none
def su(CX:CXT)(P:zAY)(w:World)(K:zAA)(mg:Str->Option Value)(base:Heap)(N:List Str)(qual:Str)(scope:Scope)(f:Addr)(cd:Value)(A:zAd)(outer:List Env)(s:zAD)(H:Hp)(E:XK):Cx where
 prog:=P
 w:=w
 K:=K
 mg:=mg
 base:=base
 A:=A.deeper (zCq qual scope s.heap.objs.size f cd)
 N:=N
 z5:=s
 z4:=H
 env:=zCq qual scope s.heap.objs.size f cd
 outer:=outer
 stack:=zCq qual scope s.heap.objs.size f cd::outer
 ex:=[]
 calm:=true
 fn:=λ _=>true
 pn:=[]
 xe:=λ e s'=>wpAny (model P w) (A.deeper (zCq qual scope s.heap.objs.size f cd)) (leaving (zCq qual scope s.heap.objs.size f cd) e) (λ _ s''=>CX outer H s E e s'') (λ e' s''=>CX outer H s E e' s'') s'
def qJ{sc:Scope}{n:Nat}{x:Str}(h:sc.names.lookup x=some .cell):∃c,(zCp n sc.names []).lookup x=some c:=by
 have q:=zCw sc.names n [] (.inl h);exact Option.isSome_iff_exists.mp q
def qx{CX:CXT}{P:zAY}{w:World}{K:zAA}{mg:Str->Option Value}{base:Heap}{N ps:List Str}{qual:Str}{scope:Scope}{f:Addr}{cd:Value}{A:zAd}{outer:List Env}{s s1:zAD}{H:Hp}{E:XK}{us:List Value}{vs:List V}
  (S:aW N ps scope)(hd:A.handled=none)(e0:aAZ P w K mg base A outer s H)(hl:vs.length=ps.length)(r:Vals vs us)
  (x:InCallC s s.heap.objs.size (bindL (zCq qual scope s.heap.objs.size f cd).kindOf (ps.zip us) λ _=>none) (zCp (s.heap.objs.size+1) scope.names []) (bindC (zCq qual scope s.heap.objs.size f cd).kindOf (ps.zip us) λ _=>none) s1):
  Inv (su CX P w K mg base N qual scope f cd A outer s H E) [] (start N vs) H s1:=by
 have hpl:ps.length<=N.length:=by have:=congrArg List.length S.pre;rw[zA4]at this;lia
 obtain⟨h1,tk,rfl,hk⟩:=x.done;have noA:∀b:Addr,b∉(su CX P w K mg base N qual scope f cd A outer s H E).ex:=λ b z=>absurd (show b∈([]:List Addr)from z) (by simp)
 refine⟨⟨e0.mod,S.kind,rfl,rfl,zAP _,λ y z c h1 h2=>?_,λ y hy=>?_,λ y c _ h=>?_,λ _=>hd,zFk e0.frames,.inr ⟨rfl,rfl⟩,λ b z=>absurd z (noA b),e0.bs,e0.bsz,λ b _ _=>noA b,λ b z=>absurd z (noA b),e0.funs,e0.frf⟩,
  rfl,e0.bare,Un.kept hk,⟨_,x.toInCall.ns,λ i y v h1 h2 h3=>?_⟩,λ y c h=>⟨_,x.cell y c h⟩,e0.hok.fresh (zAP _),λ y c h=>?_,λ p hp=>absurd (show p∈([]:List (Addr×Obj))from hp) (by simp),e0.hok.kept hk,?_,λ p hp=>absurd (show p∈([]:List (Addr×Obj))from hp) (by simp)⟩
 .exact name_of_addr x.apart (zAl h1) (zAl h2)
 .have hy:scope.names.lookup y=some .cell\/scope.names.lookup y=some .free:=hy
  rcases hy with hy|hy
  .exact qJ hy
  .exact absurd rfl (S.nofree _ (zAl hy))
 .exact zC8 (x.above y c (zAl h))
 .have hi:i<vs.length:=by
   unfold start at h2;by_cases hi:i<vs.length
   .exact hi
   .rw[zBL (by simpa using hi)]at h2
    rw[zCs]at h2;split at h2<;>cases h2
  have ha:vs[i]? =some v:=by
   unfold start at h2;rw[zAo (by simpa using hi),zAa]at h2;cases e:vs[i]? with
   |none=>rw[e]at h2;cases h2
   |some a=>rw[e]at h2;cases h2;rfl
  obtain⟨u,hu,rv⟩:=r.get ha;have hp:ps[i]? =some y:=by
   rw[<-S.pre,zBJ (by lia)];exact h1
  have ndP:ps.Nodup:=by rw[<-S.pre];exact S.nd.sublist (zGd _ _)
  refine⟨u,rv,?_⟩;rcases S.par y (zAw hp)with k|k
  .exact .inl ⟨k,xT ndP hp hu k⟩
  .obtain⟨c,e⟩:=qJ (n:=s.heap.objs.size+1) k
   refine .inr ⟨.inl k,c,e,?_⟩;have q:=x.cell y c e;rw[xV ndP hp hu (by show scope.names.lookup y≠_;rw[k];decide)]at q;exact q
 .exact e0.hok.fresh (zC8 (x.above y c (zAl h)))
 .unfold start
  show _=N.length;rw[zAL,zAF,zC6];lia
def aKT{CX:CXT}{P:zAY}{w:World}{K:zAA}{mg:Str->Option Value}{base:Heap}{k:Nat}{f:Addr}{name qual:Str}{params:zDG}{body:List Stmt}{scope:Scope}{dV kV doc pm cdv ct oc:Value}{an od:Option Addr}
  {osl:Array (Option Value)}{N ps:List Str}{sp:Sp}(lk:K.lookup f=some ⟨oc,od,.func (zBo name qual params body scope dV kV doc pm an cdv ct),osl⟩)(hcd:zDA K cdv qual=true)(S:aW N ps scope)
  (len:∀vs H Q E,sp vs H Q E->vs.length=ps.length)
  (hbody:∀(A:zAd) (outer:List Env) (s:zAD) (H:Hp) (vs:List V) (Q:VK) (E:XK),dM k (A.deeper (zCq qual scope s.heap.objs.size f cdv))->sp vs H Q E->
   ∃t,PSs (su CX P w K mg base N qual scope f cdv A outer s H E) body t/\t {nx:=λ _ H'=>Q .non H',rt:=Q} (start N vs) H):
  cY P w K mg base CX (k+1) f (zBo name qual params body scope dV kV doc pm an cdv ct) ps sp:=by
 refine⟨len,λ A outer s H args us vs Q E hr e0 hb r hsp=>?_⟩;have hl:=len _ _ _ _ hsp;have KX:K.In s.heap:=e0.mod.kin.keeps λ b o e=>(e0.bs b o e).1
 have lim:s.heap.NoLimit:=e0.mod.nolimit.keeps λ b o e=>(e0.bs b o e).1
 have hkind:∀y∈ps.zip us,scope.names.lookup y.1=some .local\/(scope.names.lookup y.1=some .cell/\((zCp (s.heap.objs.size+1) scope.names []).lookup y.1).isSome=true):=λ⟨n,v⟩ hy=>by
  rcases S.par n (zCu hy).1 with q|q
  .exact .inl q
  .exact .inr ⟨q,zCw _ _ _ (.inl q)⟩
 refine zE0 hr.depth (KX _ _ lk) rfl S.co S.gen rfl (zES KX hcd) (hb _ _ _ _ ?_);refine zDk S.kind hkind λ env he s1 x=>?_
 subst he;refine⟨lim.keeps x.toInCall.keep,zGu ?_⟩;obtain⟨t,ht,hq⟩:=hbody A outer s H vs Q E (hr.deeper _) hsp;have I:Inv (su CX P w K mg base N qual scope f cdv A outer s H E) [] (start N vs) H s1:=qx S hr.hd e0 hl r x;refine zBF (ht [] s1 (start N vs) H _ I hq) (λ fl s' hs=>?_) λ e s' hs=>hs
 have fin:∀{Z':St} {H':Hp} {v:V} {u:Value},Inv (su CX P w K mg base N qual scope f cdv A outer s H E) [] Z' H' s'->RelV v u->Q v H'->CE outer P w H s Q u s':=
  λ{Z' H' v u} J rv q=>⟨v,H',J.os,J.bare,J.base,J.hok,rv,q⟩
 cases fl with
 |ret u=>
  obtain⟨v,Z',H',J,rv,q⟩:=hs;exact fin J rv q
 |next=>
  obtain⟨Z',H',J,q⟩:=hs;exact fin (v:=V.non) (u:=zEg) J rfl q
 |brk=>
  obtain⟨_,_,_,q⟩:=hs;exact zAM q
 |cont=>
  obtain⟨_,_,_,q⟩:=hs;exact zAM q
section
variable{X:Cx}{x:Str}{p pos:Pos}{e:Expr}{es:List Expr}{t:TA}{id T:String}{r:List V->Hp->VK->Prop}
def tCB(r:List V->Hp->VK->Prop)(t:TA):TE:=λ Z H Q=>t Z H λ vs H1=>r vs H1 Q
def pK(hc:eQ X (.builtin id) r)(hg:Gl X x)(hm:X.mg x=none)(hv:zBR x=some (.builtin id))(ha:PA X (e::es) t)(hn:x≠"__name__":=by decide)(hdb:Nd x:=by decide)
  (he:zA2 (e::es) X.env=(false,eval e X.env)::zA2 es X.env:=by rfl)(hpl:(zC2 pos (zA2 es X.env)).any (·.1)=false:=by rfl):PE X (.Call (.Name x p) (e::es) [] pos) (tCB r t):=by
 intro pins s Z H Q I h;refine zCN (qw I hg hm hv ?_ hn hdb);exact PyProof.Rows.callWith_builtin1 (thn (ha pos pins s Z H _ I h) λ us s1 ⟨vs,H1,I1,r1,q1⟩=>hc pins s1 Z H1 vs us Q I1 r1 q1) he hpl
def wN(hc:eQ X (.type T) r)(hg:Gl X x)(hm:X.mg x=none)(hv:zBR x=some (.type T))(ha:PA X (e::es) t)(hn:x≠"__name__":=by decide)(hdb:Nd x:=by decide)
  (he:zA2 (e::es) X.env=(false,eval e X.env)::zA2 es X.env:=by rfl)(hpl:(zC2 pos (zA2 es X.env)).any (·.1)=false:=by rfl):PE X (.Call (.Name x p) (e::es) [] pos) (tCB r t):=by
 intro pins s Z H Q I h;refine zCN (qw I hg hm hv ?_ hn hdb);exact zDF (thn (ha pos pins s Z H _ I h) λ us s1 ⟨vs,H1,I1,r1,q1⟩=>hc pins s1 Z H1 vs us Q I1 r1 q1) he hpl
end
end L2
namespace HT
open PySem PyProof.Rows
def lexLt:List Int->List Int->Bool
 |[],[]=>false
 |[],_::_=>true
 |_::_,[]=>false
 |x::xs,y::ys=>if x=y then lexLt xs ys else decide (x<y)
def ig(x y:Int)(xs ys:List Int):lexLt (x::xs) (y::ys)=if x=y then lexLt xs ys else decide (x<y):=rfl
def vf:lexLt [] []=false:=rfl
def uq(y:Int)(ys:List Int):lexLt [] (y::ys)=true:=rfl
def ur(x:Int)(xs:List Int):lexLt (x::xs) []=false:=rfl
def aAN(A:zAd)(s:zAD)(a:Int)(t:Tok)(c:Int)(u:Tok):∃e,zD7 A s (.int a t) (.int c u) e/\(e=true↔a=c):=
 ⟨(a==c),zFb a t c u,by simp⟩
def aDl(A:zAd)(s:zAD)(a:Int)(t:Tok)(c:Int)(u:Tok)(prog:zAY)(w:World)(E:Value->zAD->Prop)(Q:Value->zAD->Prop)(h:Q (.bool (decide (a<c))) s):
  wpAny (model prog w) A (zFr .Lt (.int a t) (.int c u)) Q E s:=
 (zFO h:wpAny (model prog w) A (zAv .Lt (.int a t) (.int c u)) Q E s)
section
open PySem.SeqAt
open PySem.AutoSeq1(wpAny_loadPart')
open PySem.MeetsSeq PySem.MeetsSeq2 PySem.MeetsSeq3
def vX(l b:Addr)(items items2:Array Value)(n n2:Nat)(dd dd2:Option Addr)(sl sl2:Array (Option Value))(ns ms:List Int)(hi:zBZ items.toList ns)(hj:zBZ items2.toList ms):
  Meets (zFR.«tuple.__lt__» ⟨[.ref l,.ref b],[]⟩)
   (λ _ R s=>s.heap.get? l=some {cls:=.type "tuple",dict:=dd,data:=.seq items n,slots:=sl}/\s.heap.get? b=some {cls:=.type "tuple",dict:=dd2,data:=.seq items2 n2,slots:=sl2}/\
    R (.ok (.ret (.bool (lexLt ns ms)))) s):=
 .of_wp λ prog w A R s h=>by
  obtain⟨hp,g,d,tk,os⟩:=s;obtain⟨hl,hb,h⟩:=h;have f2:=zFB;have z1:items.size=ns.length:=by rw[<-hi.length];simp
  have z2:items2.size=ms.length:=by rw[<-hj.length];simp
  wp_walk using zE5 hl,zE5 hb,wpAny_forIn_list _ (λ rest b s'=>b.1=none/\s'=⟨hp,g,d,tk,os⟩/\∃(vs ws:List Value) (ns' ms':List Int),rest=vs.zip ws/\
   zBZ vs ns'/\zBZ ws ms'/\ns'.length+items2.size=ms'.length+items.size/\R (.ok (.ret (.bool (lexLt ns' ms')))) ⟨hp,g,d,tk,os⟩) _
  case turn=>
   rintro⟨y,x⟩ rest b s' ⟨hb',rfl,vs,ws,ns',ms',hz,hvi,hwi,hlen,hR⟩;cases hvi with
   |nil=>rw[zGe]at hz;cases hz
   |cons a t hvi'=>
    cases hwi with
    |nil=>rw[zGX]at hz;cases hz
    |cons c u hwi'=>
     rw[zBV]at hz;injection hz with hyx hrest
     injection hyx with hy hx
     subst hy hx;rw[ig]at hR;simp only[zA7]at hlen;obtain⟨e,he,hiff⟩:=aAN A.in1 ⟨hp,g,d,tk,os⟩ a t c u;refine zAC (he prog w _ _ ?_);cases e with
     |true=>
      rw[if_pos (hiff.mp rfl)]at hR;wp_walk;exact⟨rfl,rfl,_,_,_,_,hrest,hvi',hwi',by lia,hR⟩
     |false=>
      rw[if_neg (λ q=>absurd (hiff.mpr q) zAG)]at hR;have hri:=aDl A.in1 ⟨hp,g,d,tk,os⟩ a t c u prog w;wp_walk using hri;exact⟨_,rfl,by simpa using hR⟩
  case fin=>
   rintro⟨b1,b2⟩ s' ⟨hb',rfl,vs,ws,ns',ms',hz,hvi,hwi,hlen,hR⟩;simp only at hb';subst hb';have hv:lexLt ns' ms'=decide (items.size<items2.size):=by
    cases hvi with
    |nil=>
     cases hwi with
     |nil=>
      simp only[zC5]at hlen;rw[vf];exact(decide_eq_false (by lia)).symm
     |cons c u hw=>
      simp only[zC5,zA7]at hlen;rw[uq];exact(decide_eq_true (by lia)).symm
    |cons a t hv=>
     cases hwi with
     |nil=>
      simp only[zC5,zA7]at hlen;rw[ur];exact(decide_eq_false (by lia)).symm
     |cons c u hw=>
      rw[zBV]at hz;cases hz
   rw[hv]at hR;wp_walk;exact⟨_,rfl,by simpa[zDt]using hR⟩
  case h=>
   exact⟨rfl,rfl,items.toList,items2.toList,ns,ms,rfl,hi,hj,by lia,h⟩
end
section
variable{prog:zAY}{w:World}{A:zAd}{E:Value->zAD->Prop}{s:zAD}
def uh(hl:IsTup s.heap l items)(hb:IsTup s.heap b items2)(hi:zBZ items.toList ns)(hj:zBZ items2.toList ms)
  (hu:A.units<cLine)(h:Q (.bool (lexLt ns ms)) s):wpAny (model prog w) A (zAv .Lt (.ref l) (.ref b)) Q E s:=by
 obtain⟨⟨cls,dd,data,sl⟩,ho,hc,n,hd⟩:=id hl;obtain⟨⟨cls2,dd2,data2,sl2⟩,ho2,hc2,n2,hd2⟩:=id hb;simp only at hc hd hc2 hd2;subst hc hd hc2 hd2;exact zGi (op:=.Lt) ⟨_,ho,rfl⟩ ⟨_,ho2,rfl⟩ PySem.F.slot_tuple_lt PySem.F.entry_tuple_lt (PySem.F.args_tuple_lt_2 _ _) (vX l b items items2 n n2 dd dd2 sl sl2 ns ms hi hj)
  ⟨ho,ho2,show zCa (lexLt ns ms)≠zGC/\Q (.bool (lexLt ns ms)) s from⟨(λ x=>nomatch x),h⟩⟩ hu
def aHJ(ht:IsTup s.heap t vs.toArray)(hb:IsTup s.heap b ws.toArray)(hv:vs≠[])
  (h1:ws=[]->Q (.ref t) s)(h2:ws≠[]->Q (.ref s.heap.objs.size) {s with heap:=s.heap.push {cls:=.type "tuple",data:=.seq (vs++ws).toArray}})
  (hsz:vs.length+ws.length<=zAV):wpAny (model prog w) A (zCV .Add (.ref t) (.ref b)) Q E s:=by
 obtain⟨⟨cls,dd,data,sl⟩,ho,hc,n,hd⟩:=id ht;obtain⟨⟨cls2,dd2,data2,sl2⟩,ho2,hc2,n2,hd2⟩:=id hb;simp only at hc hd hc2 hd2;subst hc hd hc2 hd2;have e:vs.toArray++ws.toArray=(vs++ws).toArray:=by simp
 by_cases hw:ws=[]
 .exact zGv ⟨_,ho,rfl⟩ ⟨_,ho2,rfl⟩ zFe zG6 zDi zD6 (zD4 _ _)
   (tuple_addW1 t b vs.toArray ws.toArray n n2 dd dd2 sl sl2 (by simpa using hv) (by simp[hw])) ⟨ho,ho2,h1 hw⟩
 .refine zGv ⟨_,ho,rfl⟩ ⟨_,ho2,rfl⟩ zFe zG6 zDi zD6 (zD4 _ _)
   (tuple_addW2 t b vs.toArray ws.toArray n n2 dd dd2 sl sl2 (by simpa using hv) (by simpa using hw) (by rw[zAH,zAH];exact hsz)) ⟨ho,ho2,?_⟩
  rw[e];exact h2 hw
def sIx(n d:Nat):Option Int->Nat
 |none=>d
 |some v=>if v<0 then(v+(n:Int)).toNat else min v.toNat n
def aII(n d:Nat)(hd:d<=n)(o:Option Int):sIx n d o<=n:=by
 cases o with
 |none=>exact hd
 |some v=>
  show(if v<0 then(v+(n:Int)).toNat else min v.toNat n)<=n
  by_cases hv:v<0
  .rw[if_pos hv];lia
  .rw[if_neg hv];exact Nat.min_le_right _ _
def aCP(v:Int)(n d:Nat):(if v<0 then max (v+(n:Int)) 0 else min v (n:Int))=((sIx n d (some v):Nat):Int):=by
 show(if v<0 then max (v+(n:Int)) 0 else min v (n:Int))=(((if v<0 then(v+(n:Int)).toNat else min v.toNat n):Nat):Int)
 by_cases hv:v<0
 .simp only[if_pos hv];lia
 .simp only[if_neg hv];lia
def aB7(lo hi:Option Int)(n:Nat):zBd lo hi 1 (n:Int)=(((sIx n 0 lo:Nat):Int),((sIx n n hi:Nat):Int)):=by
 have h1:¬((1:Int)<0):=by lia
 unfold zBd;simp only[h1,if_false];refine Prod.ext ?_ ?_
 .cases lo with
  |none=>rfl
  |some v=>exact aCP v n 0
 .cases hi with
  |none=>rfl
  |some v=>exact aCP v n n
def aAs(i j:Nat):zBK (i:Int) (j:Int) 1=j-i:=by
 unfold zBK;have h1:(1:Int)>0:=by lia
 simp only[h1,if_true,Int.ediv_one];split<;>lia
def uB(p:zF7 v o)(h:Q o s):wpAny (model prog w) A (zHW v) Q E s:=by
 cases p with
 |none=>exact zEp h
 |int i t=>exact slicePart_int h
def j7{sl:Addr}{vl vu:Value}{lo hi:Option Int}{n:Nat}{Q:Int×Int×Nat->zAD->Prop}(hs:s.heap.IsSliceOf sl vl vu .none)(pl:zF7 vl lo)(pu:zF7 vu hi)
  (h:Q (((sIx n 0 lo:Nat):Int),1,sIx n n hi-sIx n 0 lo) s):wpAny (model prog w) A (zCX (.ref sl) (pure (n:Int))) Q E s:=by
 obtain⟨os,hos,hcs,hds⟩:=id hs;unfold zCX zEV;refine zAC (zAC (zEK hos hds (x:=vl) rfl (zAC (zEK hos hds (x:=vu) rfl (zAC (zEK hos hds (x:=.none) rfl (zAI ?_)))))));refine zAC (zEp ?_);show wpAny _ _ (if ((1:Int)==0)=true then _ else _) _ _ s;rw[if_neg (by decide)];refine zAC (uB pl (zAC (uB pu (zAC (zAI ?_)))));show wpAny _ _ (match zBd lo hi 1 (n:Int)with|(lo,hi)=>pure (lo,(1:Int),zBK lo hi 1)) _ _ s;rw[aB7 lo hi n];show wpAny _ _ (pure (((sIx n 0 lo:Nat):Int),(1:Int),zBK ((sIx n 0 lo:Nat):Int) ((sIx n n hi:Nat):Int) 1)) _ _ s;rw[aAs];exact zAI h
def aEA(xs:Array Value)(i k:Nat):((zBM k).filterMap λ(m:Nat)=>xs[((i:Int)+(m:Int)*1).toNat]?).toArray=((xs.toList.drop i).take k).toArray:=by
 have e:(λ(m:Nat)=>xs[((i:Int)+(m:Int)*1).toNat]?)=λ m=>xs[i+m]?:=by
  funext m
  have:((i:Int)+(m:Int)*1).toNat=i+m:=by lia
  rw[this]
 rw[e]
 have:=pick_run xs i k
 rw[List.filterMap_map]at this;have e2:((λ x=>xs[x]?)∘λ x=>i+x)=λ m=>xs[i+m]?:=rfl
 rw[e2]at this;rw[this]
def pZ{t sl:Addr}{items:Array Value}{vl vu:Value}{lo hi:Option Int}{Q:Value->zAD->Prop}(ht:IsTup s.heap t items)(hs:s.heap.IsSliceOf sl vl vu .none)(pl:zF7 vl lo)(pu:zF7 vu hi)
  (hw:¬(sIx items.size 0 lo=0/\sIx items.size items.size hi=items.size))
  (h:Q (.ref s.heap.objs.size) {s with heap:=s.heap.push {cls:=.type "tuple",data:=.seq ((items.toList.drop (sIx items.size 0 lo)).take (sIx items.size items.size hi-sIx items.size 0 lo)).toArray}})
  (hsz:items.size<=zAV):wpAny (model prog w) A (zEt (.ref t) (.ref sl)) Q E s:=by
 have htake:sizeOk (.seq ((items.toList.drop (sIx items.size 0 lo)).take (sIx items.size items.size hi-sIx items.size 0 lo)).toArray):=by
  show((items.toList.drop (sIx items.size 0 lo)).take (sIx items.size items.size hi-sIx items.size 0 lo)).toArray.size<=zAV
  rw[zAH,zA4,zBI,zAb];lia
 have hj:sIx items.size items.size hi<=items.size:=aII _ _ (zAP _) hi;obtain⟨os,hos,hcs,hds⟩:=id hs;have hTs:s.TypeIs (.ref sl) "slice":=⟨os,hos,hcs⟩;unfold zEt
 try with_reducible refine zC0 ?_
 first|refine zAC (zAI ?_)|skip
 refine zAC (zF5 ht.typeIs (by decide) ?_);refine zAC (zEJ (name:=zGJ "__getitem__") ht.typeIs zAz
  (zEM zAz ht.typeIs zEs ?_ (zFH _ _)))
 show wpAny _ _ (zDH (.ref t)>>=_) _ _ s;refine zAC (zG8 ht ?_);refine zAC (zF9 hTs ?_);rw[if_pos (by decide)];refine zAC (j7 hs pl pu ?_);have hno:¬((((sIx items.size 0 lo:Nat):Int)==0&&(1:Int)==1&&(sIx items.size items.size hi-sIx items.size 0 lo)==items.size)=true):=by
  intro q;rw[zAQ,zAQ]at q;have q1:((sIx items.size 0 lo:Nat):Int)=0:=zDY q.1.1;have q2:sIx items.size items.size hi-sIx items.size 0 lo=items.size:=zDY q.2;exact hw ⟨by lia,by lia⟩
 show wpAny _ _ (if (((sIx items.size 0 lo:Nat):Int)==0&&(1:Int)==1&&(sIx items.size items.size hi-sIx items.size 0 lo)==items.size)=true then _ else _) _ _ s;rw[if_neg hno,aEA]
 first
  |exact zAC (m:=zBS _) (zB4 (zAI ⟨_,rfl,zAI h⟩) htake)
  |exact zAC (m:=zBS _) (zB4 (zAC (zAI (zAI ⟨_,rfl,zAI h⟩))) htake)
  |exact zAC (zAC (m:=zBS _) (zB4 (zAI (zAI ⟨_,rfl,zAI h⟩)) htake))
  |exact zAC (zAC (m:=zBS _) (zB4 (zAI ⟨_,rfl,zAI h⟩) htake))
end
end HT
namespace L2
open PySem PySem.Spec PyProof.Rows
abbrev TO:=St->Hp->(Option Int->Hp->Prop)->Prop
def PO(X:Cx)(e:Option Expr)(t:TO):Prop:=
 ∀(pins:List (Addr×Obj)) (s:zAD) (Z:St) (H:Hp) (Q:Option Int->Hp->Prop),Inv X pins Z H s->t Z H Q->
  wpAny (model X.prog X.w) X.A (evalPart e X.env) (λ u s'=>∃o H',Inv X pins Z H' s'/\zF7 u o/\Q o H') X.xe s
def aFi:TO:=λ _ H Q=>Q none H
def aJd(t:TE):TO:=λ Z H Q=>t Z H λ x H1=>∃i,x= .int i/\Q (some i) H1
def intsAre_of:∀{us:List Value},Vals (ns.map V.int) us->zBZ us ns:=by
 induction ns with
 |nil=>intro us r;rw[zED]at r;cases r;exact .nil
 |cons n ns ih=>
  intro us r;rw[zA0]at r;cases r with
  |cons r1 r2=>
   obtain⟨t,e⟩:=r1;subst e;exact .cons n t (ih r2)
section
variable{X:Cx}{e:Expr}{te:TE}{lo hi:Option Expr}{tl th:TO}{pos p2:Pos}
def aGG:PO X none aFi:=by
 intro pins s Z H Q I h;rw[zG3];exact zAI ⟨none,H,I,.none,h⟩
def aGF(h:PE X e te):PO X (some e) (aJd te):=by
 intro pins s Z H Q I hw;rw[evalPart_some];refine thn (h pins s Z H _ I hw) λ u s1 ⟨x,H1,I1,r1,q1⟩=>?_
 obtain⟨i,rfl,q⟩:=q1;obtain⟨t,rfl⟩:=r1;exact⟨some i,H1,I1,.int i t,q⟩
def SlR(X:Cx)(r:V->Option Int->Option Int->Hp->VK->Prop):Prop:=
 ∀(pins:List (Addr×Obj)) (s:zAD) (Z:St) (H:Hp) (x:V) (v vl vu:Value) (lo hi:Option Int) (sl:Addr) (Q:VK),Inv X pins Z H s->RelV x v->s.heap.IsSliceOf sl vl vu .none->zF7 vl lo->zF7 vu hi->r x lo hi H Q->
  ∃T id,zF2 (.type T) "__getitem__"=pure (some (.builtin id))/\s.TypeIs v T/\wpAny (model X.prog X.w) X.A (zEt v (.ref sl)) (EP X pins Z Q) X.xe s
def SlR.or(h:SlR X r)(h':SlR X r'):SlR X (λ x lo hi H Q=>r x lo hi H Q\/r' x lo hi H Q):=by
 intro pins s Z H x v vl vu lo hi sl Q I rx hs pl pu q;rcases q with q|q
 .exact h pins s Z H x v vl vu lo hi sl Q I rx hs pl pu q
 .exact h' pins s Z H x v vl vu lo hi sl Q I rx hs pl pu q
def tSl(r:V->Option Int->Option Int->Hp->VK->Prop)(te:TE)(tl th:TO):TE:=λ Z H Q=>te Z H λ x H1=>tl Z H1 λ l H2=>th Z H2 λ u H3=>r x l u H3 Q
def aED(hr:SlR X r)(he:PE X e te)(hl:PO X lo tl)(hu:PO X hi th):PE X (.Subscript e (.Slice lo hi none p2) pos) (tSl r te tl th):=by
 intro pins s Z H Q I h;refine zH5 (thn (he pins s Z H _ I h) λ v s1 ⟨x,H1,I1,r1,q1⟩=>?_);refine wpAny_Slice (thn (hl pins s1 Z H1 _ I1 q1) λ vl s2 ⟨l,H2,I2,pl,q2⟩=>thn (hu pins s2 Z H2 _ I2 q2) λ vu s3 ⟨u,H3,I3,pu,q3⟩=>?_);rw[zG3];refine zAI ?_;have I4:Inv X pins Z H3 {s3 with heap:=s3.heap.push {cls:=.type "slice",data:=.fields #[vl,vu,.none]}}:=I3.kept (t':=s3.toks) λ b ob q=>zAE _ q
 obtain⟨T,id,hT,ht,hg⟩:=hr pins {s3 with heap:=s3.heap.push {cls:=.type "slice",data:=.fields #[vl,vu,.none]}} Z H3 x v vl vu l u s3.heap.objs.size Q I4 r1 (zFC ..) pl pu q3;show wpAny (model X.prog X.w) X.A (zG7 e (.Slice lo hi none p2) v (.ref s3.heap.objs.size)) (EP X pins Z Q) X.xe {s3 with heap:=s3.heap.push {cls:=.type "slice",data:=.fields #[vl,vu,.none]}};exact tail_any (ops:=[.ref s3.heap.objs.size,v]) ht hT hg (by with_unfolding_all rfl)
def vP(xs:List V)(lo hi:Option Int):List V:=(xs.drop (HT.sIx xs.length 0 lo)).take (HT.sIx xs.length xs.length hi-HT.sIx xs.length 0 lo)
def sO(xs:List V)(lo hi:Option Int):(vP xs lo hi).length<=xs.length:=by
 unfold vP;rw[zA4,zBI];lia
def aFw(K:zAA):R2:=λ x y H Q=>∃a b ns ms,x= .ref a/\y= .ref b/\SqT K H a (ns.map V.int)/\SqT K H b (ms.map V.int)/\Q (.bl (HT.lexLt ns ms)) H
def aIf(hu:X.A.units<cLine):OpR X (zAv .Lt) (aFw X.K):=by
 intro pins s Z H x y v u Q I rx ry h;obtain⟨a,b,ns,ms,rfl,rfl,ha,hb,q⟩:=h;cases rx;cases ry;obtain⟨its,r1,p1,_⟩:=I.tuple ha;obtain⟨its2,r2,p2,_⟩:=I.tuple hb;have i1:zBZ its.toArray.toList ns:=intsAre_of r1;have i2:zBZ its2.toArray.toList ms:=intsAre_of r2;exact HT.uh p1 p2 i1 i2 hu ⟨.bl (HT.lexLt ns ms),H,I,rfl,q⟩
def aKA(K:zAA):R2:=λ x y H Q=>∃a b xs ys,x= .ref a/\y= .ref b/\SqT K H a xs/\SqT K H b ys/\xs≠[]/\xs.length+ys.length<=zAV/\
 (ys=[]->Q (.ref a) H)/\(ys≠[]->∀p,H p=none->Q (.ref p) (upd H p (.tup (xs++ys))))
def Vals.nil_iff(r:Vals xs us):us=[]↔xs=[]:=by
 cases r with
 |nil=>simp
 |cons _ _=>simp
def aGW:OpR X (zCV .Add) (aKA X.K):=by
 intro pins s Z H x y v u Q I rx ry h;obtain⟨a,b,xs,ys,rfl,rfl,ha,hb,hx,hz,q1,q2⟩:=h;cases rx;cases ry;obtain⟨its,r1,p1,_⟩:=I.tuple ha;obtain⟨its2,r2,p2,_⟩:=I.tuple hb;refine HT.aHJ p1 p2 (λ z=>hx (r1.nil_iff.mp z)) (λ z=>⟨.ref a,H,I,rfl,q1 (r2.nil_iff.mp z)⟩) (λ z=>?_) (by rw[<-r1.length,<-r2.length];exact hz);refine⟨.ref s.heap.objs.size,_,I.laid (t':=s.toks) (o:=.tup (xs++ys)) (λ b ob q=>zAE _ q) (zAP _) ?_,rfl,q2 (λ w=>z (r2.nil_iff.mpr w)) _ (I.hok.fresh (zAP _))⟩;exact⟨⟨by rw[zAL];exact hz,NoD.push _⟩,_,r1.append r2,zFl _ _⟩
end
def ixN(n:Nat)(i:Int):Option Nat:=if 0<=i then(if i<n then some i.toNat else none)else if -(n:Int)<=i then some (i+n).toNat else none
def atI{α:Type}(xs:List α)(i:Int):Option α:=(ixN xs.length i).bind λ j=>xs[j]?
def aGi(h:ixN n i=some j):seqIndex? i n=some j/\j<n/\-(n:Int)<=i/\i<n:=by
 unfold ixN at h;by_cases h0:0<=i
 .rw[if_pos h0]at h
  by_cases h1:i<n
  .rw[if_pos h1]at h
   have e:i.toNat=j:=zAn h;exact⟨by rw[seqIndex_of h0 h1,e],by lia,by lia,h1⟩
  .rw[if_neg h1]at h;cases h
 .rw[if_neg h0]at h
  by_cases h1: -(n:Int)<=i
  .rw[if_pos h1]at h
   have e:(i+n).toNat=j:=zAn h;exact⟨by rw[seqIndex_neg (by lia) h1,e],by lia,h1,by lia⟩
  .rw[if_neg h1]at h;cases h
def zF(h:atI xs i=some v):∃j,seqIndex? i xs.length=some j/\xs[j]? =some v/\j<xs.length/\-(xs.length:Int)<=i/\i<xs.length:=by
 unfold atI at h;cases e:ixN xs.length i with
 |none=>rw[e]at h;cases h
 |some j=>
  rw[e]at h;obtain⟨h1,h2,h3,h4⟩:=aGi e;exact⟨j,h1,h,h2,h3,h4⟩
def zK(b:Expr):Prop:=∀o i,subscripted b false o i=operate [o,i] (zEt o i)
def IxR(X:Cx)(r:R2):Prop:=
 ∀(value slice:Expr) (pins:List (Addr×Obj)) (s:zAD) (Z:St) (H:Hp) (x y:V) (v u:Value) (Q:VK),Inv X pins Z H s->RelV x v->RelV y u->r x y H Q->
  subscripted slice false v u=operate [v,u] (zEt v u)->wpAny (model X.prog X.w) X.A (zG7 value slice v u) (EP X pins Z Q) X.xe s
def MtR(X:Cx)(id:String)(r:V->List V->Hp->VK->Prop):Prop:=
 ∀(pins:List (Addr×Obj)) (s:zAD) (Z:St) (H:Hp) (x:V) (xs:List V) (v:Value) (us:List Value) (Q:VK),Inv X pins Z H s->RelV x v->Vals xs us->r x xs H Q->
  wpAny (model X.prog X.w) X.A (call (.builtin id) (v::us)) (EP X pins Z Q) X.xe s
section
variable{X:Cx}{a b:Expr}{ta tb:TE}{pos:Pos}
def IxR.or(h:IxR X r)(h':IxR X r'):IxR X (λ x y H Q=>r x y H Q\/r' x y H Q):=by
 intro value slice pins s Z H x y v u Q I rx ry q hs;rcases q with q|q
 .exact h value slice pins s Z H x y v u Q I rx ry q hs
 .exact h' value slice pins s Z H x y v u Q I rx ry q hs
def aEH{r:R2}(hr:IxR X r)(ha:PE X a ta)(hb:PE X b tb)(hs:zK b):PE X (.Subscript a b pos) (tOp r ta tb):=by
 intro pins s Z H Q I h;exact zH5 (aJ3 ha hb I h λ v u s2 x y H2 I2 rx ry q=>hr a b pins s2 Z H2 x y v u Q I2 rx ry q (hs _ _))
def aIM(K:zAA):R2:=λ x y H Q=>∃p xs i v,x= .ref p/\y= .int i/\SqL K H p xs/\atI xs i=some v/\Q v H
def aJy(K:zAA):R2:=λ x y H Q=>∃p xs i v,x= .ref p/\y= .int i/\SqT K H p xs/\atI xs i=some v/\Q v H
def aJz:R2:=λ x y H Q=>∃z i c,x= .str z/\y= .int i/\z.length<=zAV/\atI z.cps.toList i=some c/\Q (.str ⟨#[c]⟩) H
def ym:IxR X (aIM X.K):=by
 intro value slice pins s Z H x y v u Q I rx ry h hs;obtain⟨p,xs,i,z,rfl,rfl,hq,he,q⟩:=h;cases rx;obtain⟨t,rfl⟩:=ry;obtain⟨its,r,pl,hz⟩:=I.list hq;obtain⟨j,h1,h2,h3,h4,h5⟩:=zF he;obtain⟨w,ew,rw'⟩:=r.get h2;have hl:=r.length;have hn:=uo;have fin:EP X pins Z Q w s:=⟨z,H,I,rw',q⟩;by_cases h0:0<=i
 .have hj:i.toNat=j:=by
   rw[seqIndex_of h0 h5]at h1;exact zAn h1
  exact item_listR pl.isList h0 (by lia) (by rw[hj];simpa using ew) fin hs
 .have hj:(i+(its.toArray.size:Int)).toNat=j:=by
   rw[seqIndex_neg (by lia) h4]at h1;rw[zAH,<-hl];exact zAn h1
  exact zGj (x:=w) pl.isList.typeIs zHa.lookup
   (wpAny_getItem_list_neg (Q:=λ r s'=>r=w/\EP X pins Z Q r s') pl.isList (by lia) (by rw[zAH]<;>lia) (by lia) (by rw[hj];simpa using ew) ⟨rfl,fin⟩) hs
def aJF:IxR X (aJy X.K):=by
 intro value slice pins s Z H x y v u Q I rx ry h hs;obtain⟨p,xs,i,z,rfl,rfl,hq,he,q⟩:=h;cases rx;obtain⟨t,rfl⟩:=ry;obtain⟨its,r,pl,hz⟩:=I.tuple hq;obtain⟨j,h1,h2,h3,h4,h5⟩:=zF he;obtain⟨w,ew,rw'⟩:=r.get h2;have hl:=r.length;have hn:=uo;have fin:EP X pins Z Q w s:=⟨z,H,I,rw',q⟩;exact zGj (x:=w) pl.typeIs slot_tuple_getitem.lookup
  (getItem_tuple (j:=j) (Q:=λ r s'=>r=w/\EP X pins Z Q r s') pl (by lia) (by lia) (by rw[zAH,<-hl];exact h1) (by simpa using ew) ⟨rfl,fin⟩) hs
def aJG:IxR X aJz:=by
 intro value slice pins s Z H x y v u Q I rx ry h hs;obtain⟨z,i,c,rfl,rfl,hz,he,q⟩:=h;obtain⟨t,rfl⟩:=rx;obtain⟨t',rfl⟩:=ry;obtain⟨j,h1,h2,h3,h4,h5⟩:=zF he;have hl:z.cps.toList.length=z.length:=by simp[Str.length]
 rw[hl]at h1 h4 h5;have hn:=uo;exact tail_any (typeIs_str s z t) slot_str_getitem.lookup (getItem_str (c:=c) (by
  have e1:decide (i < -(2^63:Int))=false:=decide_eq_false (by lia);have e2:decide (i ≥ 2^63)=false:=decide_eq_false (by lia);rw[e1,e2,Bool.or_false]) (by rw[h1];simpa using h2) ⟨.str ⟨#[c]⟩,H,I.tok _,⟨_,rfl⟩,q⟩) hs
def rIx(K:zAA):R2:=λ x y H Q=>aIM K x y H Q\/aJy K x y H Q\/aJz x y H Q
def aJH:IxR X (rIx X.K):=ym.or (aJF.or aJG)
def xu(lo hi:Option Int)(n:Nat):(zD9 lo hi none n).1=((HT.sIx n 0 lo:Nat):Int)/\(zD9 lo hi none n).2.1=((HT.sIx n n hi:Nat):Int)/\(zD9 lo hi none n).2.2=1:=by
 refine⟨?_,?_,rfl⟩
 .cases lo with
  |none=>simp[zD9,HT.sIx]
  |some i=>
   simp only[zD9,HT.sIx,zGZ,show(1:Int)>0 by decide,if_true];by_cases h:i<0
   .simp only[h,if_true]<;>lia
   .simp only[h,if_false]<;>lia
 .cases hi with
  |none=>simp[zD9,HT.sIx]
  |some i=>
   simp only[zD9,HT.sIx,zGZ,show(1:Int)>0 by decide,if_true];by_cases h:i<0
   .simp only[h,if_true]<;>lia
   .simp only[h,if_false]<;>lia
def vZ(its:List Value)(lo hi:Option Int):slicePick its.toArray lo hi none=((its.drop (HT.sIx its.length 0 lo)).take (HT.sIx its.length its.length hi-HT.sIx its.length 0 lo)).toArray:=by
 obtain⟨h1,h2,h3⟩:=xu lo hi its.toArray.size;unfold slicePick;rw[h1,h2,h3];simp only[sliceRange_one,pick_run,zAH]<;>rfl
def aJw(K:zAA):V->Option Int->Option Int->Hp->VK->Prop:=λ x lo hi H Q=>∃a xs,x= .ref a/\SqL K H a xs/\∀p,H p=none->Q (.ref p) (upd H p (.lst (vP xs lo hi)))
def aFm:SlR X (aJw X.K):=by
 intro pins s Z H x v vl vu lo hi sl Q I rx hs pl pu h;obtain⟨a,xs,rfl,hx,q⟩:=h;cases rx;obtain⟨its,r,ht,hz⟩:=I.list hx;have hlen:=r.length;refine⟨"list",_,zHa.lookup,ht.isList.typeIs,?_⟩;refine wpAny_getItem_list_slice ht.isList hs pl pu .none (by simp) ?_ (by rw[zAH]<;>lia);rw[vZ,<-hlen];refine⟨.ref s.heap.objs.size,_,I.laid (t':=s.toks) (o:=.lst (vP xs lo hi)) (λ b ob q=>zAE _ q) (zAP _) ?_,rfl,q _ (I.hok.fresh (zAP _))⟩;exact⟨zAk (sO xs lo hi) hz,_,0,(r.drop (HT.sIx xs.length 0 lo)).take (HT.sIx xs.length xs.length hi-HT.sIx xs.length 0 lo),zA3 _ rfl⟩
def qK:eQ X (.builtin "len") (λ xs H Q=>∃p ys,xs=[.ref p]/\(SqL X.K H p ys\/SqT X.K H p ys)/\Q (.int ys.length) H):=by
 intro pins s Z H xs us Q I r h;obtain⟨p,ys,rfl,hq,q⟩:=h;obtain⟨u,rfl,rx⟩:=vals1 r;cases rx;have hn:=uo;rcases hq with hq|hq
 .obtain⟨its,r',pl,hz⟩:=I.list hq
  have hlen:=r'.length;exact Calls.call_len_list pl.isList (by simp only[zAH]<;>lia) ⟨.int ys.length,H,I.tok _,⟨s.toks+1,by rw[zAH,hlen]⟩,q⟩
 .obtain⟨its,r',pl,hz⟩:=I.tuple hq
  have hlen:=r'.length;exact len_tuple pl (by simp only[zAH]<;>lia) ⟨.int ys.length,H,I.tok _,⟨s.toks+1,by rw[zAH,hlen]⟩,q⟩
def eQ.or(h:eQ X f r)(h':eQ X f r'):eQ X f (λ xs H Q=>r xs H Q\/r' xs H Q):=by
 intro pins s Z H xs us Q I rs q;rcases q with q|q
 .exact h pins s Z H xs us Q I rs q
 .exact h' pins s Z H xs us Q I rs q
def zA:eQ X (.type "list") (λ xs H Q=>∃p ys,xs=[.ref p]/\(SqL X.K H p ys\/SqT X.K H p ys)/\∀l,H l=none->Q (.ref l) (upd H l (.lst ys))):=by
 intro pins s Z H xs us Q I r h;obtain⟨p,ys,rfl,hq,q⟩:=h;obtain⟨u,rfl,rx⟩:=vals1 r;cases rx;have fin:∀(its:List Value),Vals ys its->ys.length<=zAV->∀(h':Heap) (c':Nat),(∀b o',s.heap.get? b=some o'->h'.get? b=some o')->
   h'.get? s.heap.objs.size=some {cls:=.type "list",dict:=none,data:=.seq its.toArray c',slots:=#[]}->EP X pins Z Q (.ref s.heap.objs.size) {s with heap:=h'}:=λ its r' hz h' c' kp e=>
  ⟨.ref s.heap.objs.size,_,I.laid (t':=s.toks) kp (zAP _) (show cM X.prog X.w _ h' _ (.lst ys)from⟨hz,its,c',r',e⟩),rfl,q _ (I.hok.fresh (zAP _))⟩
 rcases hq with hq|hq
 .obtain⟨its,r',pl,hz⟩:=I.list hq
  have hlen:=r'.length;obtain⟨o,ho,hc,n,hd⟩:=pl.isList;exact call_list_seq p (.inl rfl) ho hc hd (λ h' c' kp e=>fin its r' hz h' c' kp e) (by simp only[zAH]<;>lia)
 .obtain⟨its,r',pl,hz⟩:=I.tuple hq
  have hlen:=r'.length;obtain⟨o,ho,hc,n,hd⟩:=pl;exact call_list_seq p (.inr rfl) ho hc hd (λ h' c' kp e=>fin its r' hz h' c' kp e) (by simp only[zAH]<;>lia)
def vq:eQ X (.type "tuple") (λ xs H Q=>∃p ys,xs=[.ref p]/\((SqL X.K H p ys/\∀l,H l=none->Q (.ref l) (upd H l (.tup ys)))\/(SqT X.K H p ys/\Q (.ref p) H))):=by
 intro pins s Z H xs us Q I r h;obtain⟨p,ys,rfl,h⟩:=h;obtain⟨u,rfl,rx⟩:=vals1 r;cases rx;rcases h with ⟨hq,q⟩|⟨hq,q⟩
 .obtain⟨its,r',pl,hz⟩:=I.list hq
  have hlen:=r'.length;refine call_tuple_list pl.isList (λ h' kp=>?_) (by simp only[zAH]<;>lia);have I1:Inv X pins Z H {s with heap:=h'}:=I.kept (t':=s.toks) kp;have I2:Inv X pins Z (upd H h'.objs.size (.tup ys)) {s with heap:=h'.push {cls:=.type "tuple",data:=.seq its.toArray}}:=
   I1.laid (t':=s.toks) (λ b o e=>zAE _ e) (zAP _) (show cM X.prog X.w _ _ _ (.tup ys)from⟨⟨hz,NoD.push _⟩,its,r',zFl _ _⟩)
  exact⟨.ref h'.objs.size,_,I2,rfl,q _ (I1.hok.fresh (zAP _))⟩
 .obtain⟨its,r',pl,hz⟩:=I.tuple hq
  exact call_tuple_same pl ⟨.ref p,H,I,rfl,q⟩
def tyV(K:zAA)(T:String)(x:V)(H:Hp):Prop:=match x with
 | .str _=>T="str"
 | .int _=>T="int"
 | .ref p=>(T="list"/\∃xs,SqL K H p xs)\/(T="tuple"/\∃o,K.lookup p=some o/\o.cls= .type "tuple"/\o.dict=none)\/
   (T="dict"/\((∃kvs,H p=some (.dK kvs))\/∃kvs,H p=some (.dT kvs)))\/(T="set"/\∃S n,H p=some (.set S n))
 |_=>False
def aHl(I:Inv X pins Z H s)(r:RelV x v)(ty:tyV X.K T x H):
  s.TypeIs v T/\∀a,v= .ref a->∃ob,s.heap.get? a=some ob/\ob.dict=none:=by
 cases x with
 |str z=>
  obtain⟨t,rfl⟩:=r;cases (show T="str" from ty);exact⟨typeIs_str s z t,λ _ e=>nomatch e⟩
 |int i=>
  obtain⟨t,rfl⟩:=r;cases (show T="int" from ty);exact⟨zHc s i t,λ _ e=>nomatch e⟩
 |ref p=>
  cases r;rcases ty with ⟨rfl,xs,hq⟩|⟨rfl,o,hk,hc,hd⟩|⟨rfl,hk⟩|⟨rfl,S,n,hk⟩
  .obtain⟨its,_,pl,_⟩:=I.list hq
   refine⟨pl.isList.typeIs,λ a e=>?_⟩;cases e;obtain⟨o,n,e,c,hd,_⟩:=pl;exact⟨o,e,hd⟩
  .refine⟨⟨o,I.kIn p o hk,hc⟩,λ a e=>?_⟩
   cases e;exact⟨o,I.kIn _ o hk,hd⟩
  .have z:∃o,s.heap.get? p=some o/\o.ExactDict:=by
    rcases hk with ⟨kvs,hk⟩|⟨kvs,hk⟩
    .obtain⟨_,_,_,_,o,_,_,e,ex,_⟩:=I.hok p _ hk
     exact⟨o,e,ex⟩
    .obtain⟨_,_,_,_,o,_,_,e,ex,_⟩:=I.hok p _ hk
     exact⟨o,e,ex⟩
   obtain⟨o,e,ex⟩:=z;refine⟨⟨o,e,ex.1⟩,λ a e2=>?_⟩;cases e2;exact⟨o,e,ex.2.1⟩
  .obtain⟨o,_,_,_,e,ex,_⟩:=I.hok p _ hk
   refine⟨⟨o,e,ex.1⟩,λ a e2=>?_⟩;cases e2;exact⟨o,e,ex.2.1⟩
 |_=>exact zAM ty
def tBM(K:zAA)(T:String)(r:V->List V->Hp->VK->Prop)(to:TE)(t:TA):TE:=λ Z H Q=>to Z H λ x H1=>tyV K T x H1/\t Z H1 λ xs H2=>r x xs H2 Q
variable{o e:Expr}{es:List Expr}{to:TE}{t:TA}{name:Str}{apos cpos:Pos}{T id:String}{r:V->List V->Hp->VK->Prop}
def zm(pa:PlainAttrs T)(slot:Slot T name id)(hty:typeOf (.builtin id)=pure (.type "method_descriptor"))(hm:MtR X id r)(ho:PE X o to)(ha:PA X (e::es) t)
  (hbase:zFI o name X.env (eval o X.env)=eval o X.env:=by rfl)
  (hfew:((zC2 cpos (zA2 (e::es) X.env)).all (λ x=>!x.1)&&(zEa cpos (zDX [] X.env)).all (λ x=>x.1.isSome)
   &&decide ((e::es).length+([]:List zCy).length+(if ([]:List zCy).isEmpty then 0 else 1)<30))=true:=by rfl)
  (hline:(apos.endLine==cpos.line)=true:=by rfl)(hs:zA2 (e::es) X.env=(false,eval e X.env)::zA2 es X.env:=by rfl)(hplain:(zC2 cpos (zA2 es X.env)).any (·.1)=false:=by rfl):
  PE X (.Call (.Attribute o name apos) (e::es) [] cpos) (tBM X.K T r to t):=by
 intro pins s Z H Q I h;refine wpAny_Call_method_late hbase hfew hline rfl (thn (ho pins s Z H _ I h) λ v s1 ⟨x,H1,I1,r1,ty,q1⟩=>?_);obtain⟨h1,h2⟩:=aHl I1 r1 ty;refine⟨T,id,pa,slot,hty,h1,h2,?_⟩;have hA:=ha cpos pins s1 Z H1 _ I1 q1;rw[hs]at hA ⊢;refine Calls.callWith_builtin (by show(false||(zC2 cpos (zA2 es X.env)).any (·.1))=false;rw[hplain]<;>rfl) (zFv ?_);exact thn hA λ us s2 ⟨vs,H2,I2,r2,q2⟩=>hm pins s2 Z H2 x vs v us Q I2 r1 r2 q2
end
def MtM(X:Cx)(id:String)(r:V->List V->Hp->VK->Prop):Prop:=
 ∀(pins:List (Addr×Obj)) (s:zAD) (Z:St) (H:Hp) (x:V) (xs:List V) (v:Value) (us:List Value) (Q:VK),Inv X pins Z H s->RelV x v->Vals xs us->r x xs H Q->
  wpAny (model X.prog X.w) X.A (call (.builtin id) (v::us)) (EP X pins Z Q) X.xe s
def Vals.one:∀{x:V} {us:List Value},Vals [x] us->∃u,us=[u]/\RelV x u
 |_,_,.cons r .nil=>⟨_,rfl,r⟩
theorem Vals.reverse(h:Vals xs us):Vals xs.reverse us.reverse:=by
 induction h with
 |nil=>exact .nil
 |cons r t ih=>rw[zDE,zDE];exact Vals.append ih (.cons r .nil)
theorem Vals.rep(h:Vals xs us):∀k:Nat,Vals (zAW k xs).flatten (zAW k us).flatten
 |0=>.nil
 |k+1=>by
  rw[zCA,zCA,zBn,zBn];exact Vals.append h (Vals.rep h k)
theorem foldl_rep(its:List Value):∀(k:Nat) (acc:List Value),
  zEk (λ x1 x2=>x1++x2) acc.toArray (zAW k its.toArray)=(acc++(zAW k its).flatten).toArray
 |0,acc=>by simp
 |k+1,acc=>by
  have e:acc.toArray++its.toArray=(acc++its).toArray:=by simp
  have e2:(acc++its)++(zAW k its).flatten=acc++(zAW (k+1) its).flatten:=by
   rw[zCA,zBn,zAe]
  rw[<-e2,<-foldl_rep its k (acc++its),<-e,zCA,zC4]
section
variable{X:Cx}{pins:List (Addr×Obj)}{Z:St}{H:Hp}{s:zAD}{l:Addr}{xs ys:List V}
def Inv.lset{its its':List Value}{n:Nat}{f:Array Value->Array Value}{t':Nat}(I:Inv X pins Z H s)(hH:H l=some (.lst xs))
  (e:s.heap.get? l=some {cls:=.type "list",data:=.seq its.toArray n})(hf:f its.toArray=its'.toArray)(hv:Vals ys its')(hz:ys.length<=zAV):
  Inv X pins Z (upd H l (.lst ys)) {s with heap:=s.heap.update l (zDJ f),toks:=t'}:=by
 have q:=PySem.IsL.update e f;rw[hf]at q;refine I.write (x:=l) (e:=l) (by rw[hH];exact trivial) (.inl rfl) (λ b' u hb hu=>(zB6 s.heap (zDJ f) (zDe hb)).trans hu) ⟨_,q⟩ ?_;exact⟨hz,its',_,hv,q⟩
def Inv.lnew(I:Inv X pins Z H s)(hv:Vals ys its)(hz:ys.length<=zAV):
  Inv X pins Z (upd H s.heap.objs.size (.lst ys)) {s with heap:=s.heap.push {cls:=.type "list",data:=.seq its.toArray},toks:=t'}:=
 I.laid (λ _ _ q=>zAE _ q) (zAP _) ⟨hz,its,0,hv,zA3 _ rfl⟩
theorem Inv.fresh(I:Inv X pins Z H s):H s.heap.objs.size=none:=I.hok.fresh (zAP _)
def Inv.lstM(I:Inv X pins Z H s)(hH:H l=some (.lst xs)):xs.length<=zAV/\∃(its:List Value) (n:Nat),Vals xs its/\xs.length=its.length/\s.heap.get? l=some {cls:=.type "list",data:=.seq its.toArray n}:=by
 obtain⟨z,its,n,r,e⟩:=I.hok l _ hH;exact⟨z,its,n,r,r.length,e⟩
def zr(h:n<=zAV):zC7 n=false:=by
 unfold zC7;exact decide_eq_false (by lia)
end
section
variable{X:Cx}
def aGB:V->List V->Hp->VK->Prop:=λ x vs H Q=>∃l xs y,x= .ref l/\vs=[y]/\H l=some (.lst xs)/\xs.length<zAV/\Q .non (upd H l (.lst (xs++[y])))
def qt:MtM X "list.append" aGB:=by
 intro pins s Z H x vs v us Q I rx rv h;obtain⟨l,xs,y,rfl,rfl,hH,hz,q⟩:=h;cases rx;obtain⟨u,rfl,ru⟩:=rv.one;obtain⟨z,its,n,r,hl,e⟩:=I.lstM hH;refine zEb zDo ⟨_,e,rfl⟩ F.entry_list_append (F.args_list_append_2 _ _) (PySem.list_append l its.toArray n u (by rw[zAH];lia)) ⟨e,?_⟩;refine⟨.non,_,I.lset (its':=its++[u]) hH e (by simp) (r.append (.cons ru .nil)) ?_,rfl,q⟩;rw[zAL,zEC];lia
def aFz:V->List V->Hp->VK->Prop:=λ x vs H Q=>∃l b xs zs,x= .ref l/\vs=[.ref b]/\H l=some (.lst xs)/\H b=some (.lst zs)/\xs.length+zs.length<=zAV/\Q .non (upd H l (.lst (xs++zs)))
def aCb:MtM X "list.extend" aFz:=by
 intro pins s Z H x vs v us Q I rx rv h;obtain⟨l,b,xs,zs,rfl,rfl,hH,hB,hz,q⟩:=h;cases rx;obtain⟨u,rfl,ru⟩:=rv.one;cases ru;obtain⟨z,its,n,r,hl,e⟩:=I.lstM hH;obtain⟨z2,its2,n2,r2,hl2,e2⟩:=I.lstM hB;have hsz:its.toArray.size+its2.toArray.size<=zAV:=by rw[zAH,zAH];lia
 have hlong:¬(!its.toArray.isEmpty&&zC7 (its.toArray.size+its2.toArray.size))=true:=by
  rw[zr hsz,zEN];exact zAG
 refine zEb zFw ⟨_,e,rfl⟩ F.entry_list_extend (F.args_list_extend_2 _ _)
  (AutoSeq1.list_extend_list_list_0 l its.toArray n b its2.toArray n2 hlong (by rw[zAH];lia) (by lia)) ⟨e,e2,?_⟩
 refine⟨.non,_,I.lset (its':=its++its2) hH e (by simp) (r.append r2) ?_,rfl,q⟩;rw[zAL];lia
def aKk:R2:=λ x y H Q=>∃l b xs zs,x= .ref l/\y= .ref b/\H l=some (.lst xs)/\H b=some (.lst zs)/\xs.length+zs.length<=zAV/\∀p,H p=none->Q (.ref p) (upd H p (.lst (xs++zs)))
def aIm:OpR X (zCV .Add) aKk:=by
 intro pins s Z H x y v u Q I rx ry h;obtain⟨l,b,xs,zs,rfl,rfl,hH,hB,hz,q⟩:=h;cases rx;cases ry;obtain⟨z,its,n,r,hl,e⟩:=I.lstM hH;obtain⟨z2,its2,n2,r2,hl2,e2⟩:=I.lstM hB;refine PySem.P.add_list e e2 ?_ (by rw[zAH,zAH];lia);have ea:its.toArray++its2.toArray=(its++its2).toArray:=by simp
 rw[ea];exact⟨.ref _,_,I.lnew (t':=s.toks) (r.append r2) (by rw[zAL];lia),rfl,q _ I.fresh⟩
def aJx:R2:=λ x y H Q=>∃l k xs,x= .ref l/\y= .int k/\H l=some (.lst xs)/\-(2^63)<=k/\k<2^63/\xs.length*k.toNat<=zAV/\
 ∀p,H p=none->Q (.ref p) (upd H p (.lst (zAW k.toNat xs).flatten))
def len_rep(xs:List α)(k:Nat):(zAW k xs).flatten.length=k*xs.length:=by
 induction k with
 |zero=>simp
 |succ k ih=>rw[zCA,zBn,zAL,ih,Nat.succ_mul,Nat.add_comm]
def aI8:OpR X (zCV .Mult) aJx:=by
 intro pins s Z H x y v u Q I rx ry h;obtain⟨l,k,xs,rfl,rfl,hH,h1,h2,hz,q⟩:=h;cases rx;obtain⟨t,rfl⟩:=ry;obtain⟨z,its,n,r,hl,e⟩:=I.lstM hH;have hlen:its.toArray.size*k.toNat<=zAV:=by rw[zAH,<-hl];exact hz
 have hcap:¬its.toArray.size*k.toNat>(2^63-1) / 8:=by
  have:(zAV:Nat)<=(2^63-1) / 8:=by decide
  lia
 have hfit:¬(!Builtin.List.listFitsIndex k)=true:=by
  rw[fitsIndex_both h1 h2];exact zAG
 have hlong:¬zC7 (its.toArray.size*k.toNat)=true:=by
  rw[zr hlen];exact zAG
 have hnew:zEk (λ x1 x2=>x1++x2) #[] (zAW (if its.toArray.isEmpty=true then 0 else k.toNat) its.toArray)=(zAW k.toNat its).flatten.toArray:=by
  have f0:∀m:Nat,zEk (λ x1 x2=>x1++x2) #[] (zAW m its.toArray)=(zAW m its).flatten.toArray:=λ m=>by
   have:=foldl_rep its m []
   rw[zBp]at this;exact this
  rw[f0];cases its with
  |nil=>simp
  |cons a r'=>rw[if_neg (by simp)]
 refine wpAny_binaryOp_repeat_ref (T:="list") (U:="int") (by decide) ⟨_,e,rfl⟩ (λ s'=>zHc s' k t) noFill_list_mul F.fills_int_mul zH0 repeat_list F.slot_int_index.lookup
  (zEb zH0 (zHc s k t) F.entry_int_rmul (F.args_int_rmul_2 _ _) (int___rmul___int_list k t l its.toArray n)
   ⟨e,rfl,⟨_,e,rfl⟩,zEb F.slot_list_mul ⟨_,e,rfl⟩ F.entry_list_mul (F.args_list_mul_2 _ _) (AutoListH.list___mul___list_int_3 l its.toArray n k t hfit hcap hlong) ⟨e,?_⟩⟩)
 rw[hnew];exact⟨.ref _,_,I.lnew (t':=s.toks) (r.rep k.toNat) (by rw[len_rep,Nat.mul_comm];exact hz),rfl,q _ I.fresh⟩
end
end L2
namespace Att
open PySem PySem.W PySem.Calls PyProof.Rows
def sr:∀(ns:List Int) (vs:List Value),WellAll P h vs (ns.map WData.int)->zBZ vs ns:=by
 intro ns;induction ns with
 |nil=>
  intro vs w;rw[zED]at w;cases w;exact .nil
 |cons n ns ih=>
  intro vs w;rw[zA0]at w;cases w with
  |cons a b=>
   cases a;exact .cons _ _ (ih _ b)
def aC1{l:OpenLaw}{n:Nat}(hn:l.most=some n){P:Params}{h:Heap}{args:List WData}{vals:List Value}
  (hpre:l.row.toRowW.claim.pre args=true)(hwl:WellAll P h vals args):
  ∃a vs ns,vals=[zBx a]/\args=[WData.list (ns.map WData.int)]/\h.get? a=some {cls:=.type "list",data:=.seq vs.toArray}/\zBZ vs ns/\ns.length<=n:=by
 have hsh:WShape.hasAll [] args [.list .int]=true:=(pre_splitW hpre).1;have hc:l.pre.holds [] {args:=args}=true:=(pre_splitW hpre).2;obtain⟨d,r,rfl,h1,h2⟩:=hasAllW_cons hsh;obtain rfl:=hasAllW_nil h2;obtain⟨xs,rfl,h3⟩:=hasW_list h1;obtain⟨ns,rfl⟩:=items_int h3;have hlen:ns.length<=n:=by
  unfold OpenLaw.pre at hc;have h4:(WTm.not (.lt (.lit (.int (n:Int))) (.len (.arg 0)))).holds [] {args:=[.list (ns.map .int)]}=true:=by
   have h4:=(holds_andW hc).1;rw[hn]at h4;exact h4
  have h5:=condW_of h4 (w_not (w_lt w_lit (w_len_list (w_arg rfl))));rw[zAF]at h5;refine zFD λ q=>?_
  have q':(n:Int)<((ns.length:Nat):Int):=by lia
  first
   |(rw[decide_eq_true q']at h5;exact absurd h5 (by decide))
   |(simp at h5;lia)
 cases hwl with
 |cons w1 w2=>
  cases w2;cases w1 with
  |list ho hall=>exact⟨_,_,ns,rfl,rfl,ho,sr ns _ hall,hlen⟩
def aC3(l:OpenLaw)(args:List WData):l.row.toRowW.claim.post args (.bool true) args=true:=
 postW_of (r:=l.row.toRowW) (X:=(true==true))
  (show WShape.has [] (.bool true) .bool=true by first|rfl|decide|simp[WShape.has,WShape.arms,WShape.armsAll])
  (show(WTm.eq .res (.lit (.bool true))).value [] {args:=args,res:=some (.bool true),after:=args}=some (.bool (true==true))from w_eq_bool (w_res rfl) w_lit) rfl
def aAV{l:OpenLaw}{n:Nat}{q:zAY}{loose:List Str}{XP:(Str->Option Value)->Heap->Prop}{YP:World->Heap->Prop}{d:DefRec}
  (hn:l.most=some n)(hdf:d.params.defaults=[])
  (call:∀(w:World) (z5 zS:zAD) (mg mb:Str->Option Value) (fa:Addr) (o:Obj) (pm cd doc:Value) (a:Addr) (vs:List Value) (ns:List Int),
   Ground q loose [] XP w z5 mg mb zS.heap->YP w zS.heap->
   zS.heap.get? fa=some o->o.data= .func (docDef d.name d.params d.body d.scope pm cd doc)->zS.heap.CodeRec cd d.name->mg d.name=some (.ref fa)->
   zS.heap.get? a=some {cls:=.type "list",data:=.seq vs.toArray}->zBZ vs ns->ns.length<=n->zS.gens=#[]->
   zBs (model l.prog w) zCb (.call (.ref fa) ⟨[.ref a],[]⟩) (λ r s'=>r= .ok (.ret (.bool true))/\OldK zS.heap s'.heap/\s'.os=zS.os/\zEU s'.gens) zS):
  WalkO q loose XP YP l.row.toRowW d [] (λ f vs=>zG1 f vs):=by
 intro w z5 zS mg mb G Y fa o pm cd doc dV kV ho hd hcd hD hmg hg args vals as hpre hlay hrd hwl hlo;obtain rfl:dV= .none:=Dflts.none hD hdf;obtain rfl:kV= .none:=Dflts.noKw hD;obtain⟨a,vs,ns,rfl,rfl,hobj,hints,hlen⟩:=aC1 hn hpre hwl;refine enter_call (zDB (call w z5 zS mg mb fa o pm cd doc a vs ns G Y ho (fd_plain hd) hcd hmg hobj hints hlen hg) λ r s' hq=>?_);obtain⟨rfl,h2,h3,h4⟩:=hq;exact⟨.inl ⟨.bool true,.bool true,[],rfl,λ _=>rfl,.bool true,aC3 l _,λ _=>⟨zFS,λ _ hm=>(nomatch hm)⟩⟩,h2,h3,h4⟩
section
variable{prog:zAY}{w:World}{A:zAd}{E:Value->zAD->Prop}{s:zAD}{K:Frag}
def make_obj(X:K.In s.heap)(hm:makesIn K C=true)(hi:findIn K (.ref C) "__init__"=some (some (.ref fI)))(hf:isFn K (.ref fI)=true)
  (h:zBs (model prog w) (A.under (.builtin "type.__call__" ⟨.ref C::rest,kw⟩)) (.call (.ref fI) ⟨.ref (s.heap.objs.size+1)::rest,kw⟩) (InitBack (s.heap.objs.size+1) R)
   {s with heap:=(s.heap.push emptyDict).push (instObj C s.heap.objs.size)}):zBs (model prog w) A (.call (.ref C) ⟨rest,kw⟩) R s:=by
 obtain⟨hh,g,d,t,os⟩:=s;exact make_core (makes_of X hm) (looks_findIn X hi) (λ self=>bind_fn X self (beq_iff_eq.mp hf)) (.inl rfl) h
def get_field(X:K.In s.heap)(I:zGh s.heap x ox C (some (dictOf es n)))(hg:plainGet K C name=true)(hh:hasDictIn K C=true)(ha:findIn K (.ref C) name=some none)
  (hl:getL name es=some (some v))(hv:handedIn v=true)(h:Q v {s with toks:=s.toks+1}):wpAny (model prog w) A (getAttr (.ref x) name expr) Q E s:=
 get_value X I (plainGet_of hg).1 (findObj_own hh ha rfl hl) hv h
def ledger(h:Heap)(L d:Addr):List (Addr×Obj):=(zBM h.objs.size).filterMap λ a=>if a=L\/a=d then none else(h.get? a).map λ o=>(a,o)
end
end Att
namespace L2
open PySem PySem.Spec PyProof.Rows
theorem wD:∀{vs:List Value} {ns:List Int},zBZ vs ns->Vals (ns.map V.int) vs
 |_,_,.nil=>.nil
 |_,_,.cons n t h=>.cons ⟨t,rfl⟩ (wD h)
def Only(H:Hp):Prop:=∀b,H b=none\/∃o xs,H b=some (.frz o (.lst xs))
def kh(s:Stmt):zDG:=match s with
 | .FunctionDef _ a _ _ _ _ _ _ _ _=>a
 |_=>{posonlyargs:=[],args:=[],vararg:=none,kwonlyargs:=[],kw_defaults:=[],kwarg:=none,defaults:=[]}
def cH(s:Stmt):List Stmt:=match s with
 | .FunctionDef _ _ b _ _ _ _ _ _ _=>b
 |_=>[]
def aF(s:Stmt):Scope:=match s with
 | .FunctionDef _ _ _ _ _ _ sc _ _ _=>sc
 |_=>{kind:=.function,names:=[],isGenerator:=false,isCoroutine:=false}
abbrev CX0:CXT:=λ _ _ _ _ _ _=>False
abbrev E0:XK:=λ _ _ _=>False
structure Fun(K:zAA)(x qual:Str)(st:Stmt)(f:Addr)(fd:zAt):Prop where
 ex:∃(oc:Value) (od:Option Addr) (kV doc pm:Value) (an:Option Addr) (cdv ct:Value) (osl:Array (Option Value)),
  fd=zBo x qual (kh st) (cH st) (aF st) .none kV doc pm an cdv ct/\K.lookup f=some ⟨oc,od,.func fd,osl⟩/\zDA K cdv qual=true
 kp:zBl K (.ref f)=true
section
variable{K:zAA}
def Fun.binds{x qual:Str}{st:Stmt}{f:Addr}{fd:zAt}{ps:List Str}(F:Fun K x qual st f fd)
  (h:∀(kV doc pm:Value) (an:Option Addr) (cdv ct:Value) (us:List Value),us.length=ps.length->zHS (zBo x qual (kh st) (cH st) (aF st) .none kV doc pm an cdv ct) ⟨us,[]⟩=pure (ps.zip us)):Binds K fd ps []:=by
 obtain⟨oc,od,kV,doc,pm,an,cdv,ct,osl,rfl,lk,hcd⟩:=F.ex;exact .all (h kV doc pm an cdv ct)
def aJT{x qual:Str}{st:Stmt}{f:Addr}{oc:Value}{od an:Option Addr}{osl:Array (Option Value)}{kV doc pm cdv ct:Value}(l:K.lookup f=some ⟨oc,od,.func (zBo x qual (kh st) (cH st) (aF st) .none kV doc pm an cdv ct),osl⟩)
  (c:zDA K cdv qual=true)(k:zBl K (.ref f)=true):Fun K x qual st f (zBo x qual (kh st) (cH st) (aF st) .none kV doc pm an cdv ct):=⟨⟨oc,od,kV,doc,pm,an,cdv,ct,osl,rfl,l,c⟩,k⟩
end
def aO(H H':Hp):Prop:=∀b o,H b=some o->H' b=some o
def aO.refl(H:Hp):aO H H:=λ _ _ h=>h
def aO.trans(a:aO H H1)(b:aO H1 H2):aO H H2:=λ c o h=>b c o (a c o h)
def aO.free(e:aO H H')(h:H' l=zHQ):H l=zHQ:=by
 cases q:H l with
 |none=>rfl
 |some o=>
  rw[e l o q]at h;cases h
end L2
set_option maxHeartbeats 4000000
namespace HT
open PySem PyProof.Rows
def lexLe:List Int->List Int->Bool
 |[],_=>true
 |_::_,[]=>false
 |x::xs,y::ys=>if x=y then lexLe xs ys else decide (x<=y)
def aBH(x y:Int)(xs ys:List Int):lexLe (x::xs) (y::ys)=if x=y then lexLe xs ys else decide (x<=y):=rfl
def aDm(A:zAd)(s:zAD)(a:Int)(t:Tok)(c:Int)(u:Tok)(prog:zAY)(w:World)(E:Value->zAD->Prop)(Q:Value->zAD->Prop)(h:Q (.bool (decide (a<=c))) s):
  wpAny (model prog w) A (zFr .LtE (.int a t) (.int c u)) Q E s:=
 (PyProof.Rows.le_int h:wpAny (model prog w) A (zAv .LtE (.int a t) (.int c u)) Q E s)
section
open PySem.SeqAt
open PySem.AutoSeq1(wpAny_loadPart')
open PySem.MeetsSeq PySem.MeetsSeq2 PySem.MeetsSeq3
def vY(l b:Addr)(items items2:Array Value)(n n2:Nat)(dd dd2:Option Addr)(sl sl2:Array (Option Value))(ns ms:List Int)(hi:zBZ items.toList ns)(hj:zBZ items2.toList ms):
  Meets (zFR.«tuple.__le__» ⟨[.ref l,.ref b],[]⟩)
   (λ _ R s=>s.heap.get? l=some {cls:=.type "tuple",dict:=dd,data:=.seq items n,slots:=sl}/\s.heap.get? b=some {cls:=.type "tuple",dict:=dd2,data:=.seq items2 n2,slots:=sl2}/\
    R (.ok (.ret (.bool (lexLe ns ms)))) s):=
 .of_wp λ prog w A R s h=>by
  obtain⟨hp,g,d,tk,os⟩:=s;obtain⟨hl,hb,h⟩:=h;have f2:=zFB;have z1:items.size=ns.length:=by rw[<-hi.length];simp
  have z2:items2.size=ms.length:=by rw[<-hj.length];simp
  wp_walk using zE5 hl,zE5 hb,wpAny_forIn_list _ (λ rest b s'=>b.1=none/\s'=⟨hp,g,d,tk,os⟩/\∃(vs ws:List Value) (ns' ms':List Int),rest=vs.zip ws/\
   zBZ vs ns'/\zBZ ws ms'/\ns'.length+items2.size=ms'.length+items.size/\R (.ok (.ret (.bool (lexLe ns' ms')))) ⟨hp,g,d,tk,os⟩) _
  case turn=>
   rintro⟨y,x⟩ rest b s' ⟨hb',rfl,vs,ws,ns',ms',hz,hvi,hwi,hlen,hR⟩;cases hvi with
   |nil=>rw[zGe]at hz;cases hz
   |cons a t hvi'=>
    cases hwi with
    |nil=>rw[zGX]at hz;cases hz
    |cons c u hwi'=>
     rw[zBV]at hz;injection hz with hyx hrest
     injection hyx with hy hx
     subst hy hx;rw[aBH]at hR;simp only[zA7]at hlen;obtain⟨e,he,hiff⟩:=aAN A.in1 ⟨hp,g,d,tk,os⟩ a t c u;refine zAC (he prog w _ _ ?_);cases e with
     |true=>
      rw[if_pos (hiff.mp rfl)]at hR;wp_walk;exact⟨rfl,rfl,_,_,_,_,hrest,hvi',hwi',by lia,hR⟩
     |false=>
      rw[if_neg (λ q=>absurd (hiff.mpr q) zAG)]at hR;have hri:=aDm A.in1 ⟨hp,g,d,tk,os⟩ a t c u prog w;wp_walk using hri;exact⟨_,rfl,by simpa using hR⟩
  case fin=>
   rintro⟨b1,b2⟩ s' ⟨hb',rfl,vs,ws,ns',ms',hz,hvi,hwi,hlen,hR⟩;simp only at hb';subst hb';have hv:lexLe ns' ms'=decide (items.size<=items2.size):=by
    cases hvi with
    |nil=>
     simp only[zC5]at hlen;have e:lexLe [] ms'=true:=by cases ms'<;>rfl
     rw[e];exact(decide_eq_true (by lia)).symm
    |cons a t hv=>
     cases hwi with
     |nil=>
      simp only[zC5,zA7]at hlen;show false=_;exact(decide_eq_false (by lia)).symm
     |cons c u hw=>
      rw[zBV]at hz;cases hz
   rw[hv]at hR;wp_walk;exact⟨_,rfl,by simpa[zDt]using hR⟩
  case h=>
   exact⟨rfl,rfl,items.toList,items2.toList,ns,ms,rfl,hi,hj,by lia,h⟩
end
section
variable{prog:zAY}{w:World}{A:zAd}{E:Value->zAD->Prop}{s:zAD}
def aBI(hl:IsTup s.heap l items)(hb:IsTup s.heap b items2)(hi:zBZ items.toList ns)(hj:zBZ items2.toList ms)
  (hu:A.units<cLine)(h:Q (.bool (lexLe ns ms)) s):wpAny (model prog w) A (zAv .LtE (.ref l) (.ref b)) Q E s:=by
 obtain⟨⟨cls,dd,data,sl⟩,ho,hc,n,hd⟩:=id hl;obtain⟨⟨cls2,dd2,data2,sl2⟩,ho2,hc2,n2,hd2⟩:=id hb;simp only at hc hd hc2 hd2;subst hc hd hc2 hd2;exact zGi (op:=.LtE) ⟨_,ho,rfl⟩ ⟨_,ho2,rfl⟩ PySem.F.slot_tuple_le PySem.F.entry_tuple_le (PySem.F.args_tuple_le_2 _ _) (vY l b items items2 n n2 dd dd2 sl sl2 ns ms hi hj)
  ⟨ho,ho2,show zCa (lexLe ns ms)≠zGC/\Q (.bool (lexLe ns ms)) s from⟨(λ x=>nomatch x),h⟩⟩ hu
def aFR{ws:List Value}(ht:IsTup s.heap t #[])(hb:IsTup s.heap b ws.toArray)(h1:Q (.ref b) s):wpAny (model prog w) A (zCV .Add (.ref t) (.ref b)) Q E s:=by
 obtain⟨⟨cls,dd,data,sl⟩,ho,hc,n,hd⟩:=id ht;obtain⟨⟨cls2,dd2,data2,sl2⟩,ho2,hc2,n2,hd2⟩:=id hb;simp only at hc hd hc2 hd2;subst hc hd hc2 hd2;exact zGv ⟨_,ho,rfl⟩ ⟨_,ho2,rfl⟩ zFe zG6 zDi zD6 (zD4 _ _)
   (tuple_addW0 t b #[] ws.toArray n n2 dd dd2 sl sl2 (by simp)) ⟨ho,ho2,h1⟩
def ph{lo hi:Option Int}(ht:IsTup s.heap t items)(hs:s.heap.IsSliceOf sl vl vu .none)(pl:zF7 vl lo)(pu:zF7 vu hi)
  (h1:sIx items.size 0 lo=0)(h2:sIx items.size items.size hi=items.size)
  (h:Q (.ref t) s):wpAny (model prog w) A (zEt (.ref t) (.ref sl)) Q E s:=by
 obtain⟨os,hos,hcs,hds⟩:=id hs;have hTs:s.TypeIs (.ref sl) "slice":=⟨os,hos,hcs⟩;obtain⟨ot,hot,hct,hdt⟩:=id ht;unfold zEt
 try with_reducible refine zC0 ?_
 first|refine zAC (zAI ?_)|skip
 refine zAC (zF5 ht.typeIs (by decide) ?_);refine zAC (zEJ (name:=zGJ "__getitem__") ht.typeIs zAz
  (zEM zAz ht.typeIs zEs ?_ (zFH _ _)))
 show wpAny _ _ (zDH (.ref t)>>=_) _ _ s;refine zAC (zG8 ht ?_);refine zAC (zF9 hTs ?_);rw[if_pos (by decide)];refine zAC (j7 hs pl pu ?_);have hyes:(((sIx items.size 0 lo:Nat):Int)==0&&(1:Int)==1&&(sIx items.size items.size hi-sIx items.size 0 lo)==items.size)=true:=by
  rw[h1,h2];simp
 show wpAny _ _ (if (((sIx items.size 0 lo:Nat):Int)==0&&(1:Int)==1&&(sIx items.size items.size hi-sIx items.size 0 lo)==items.size)=true then _ else _) _ _ s;rw[if_pos hyes];unfold zHY;refine zAC (zAC (zF9 ht.typeIs (zAI ?_)));rw[if_pos (by decide)];exact zAC (zDC (zAI ⟨_,rfl,zAI h⟩))
def aAl(n:Nat):zBd none none (-1) (n:Int)=((n:Int)-1,-1):=by
 unfold zBd;rfl
def aAk(n:Nat):zBK ((n:Int)-1) (-1) (-1)=n:=by
 unfold zBK;rw[if_neg (by decide)];by_cases h:n=0
 .subst h;rfl
 .rw[if_pos (by lia)]
  have e:((n:Int)-1 - -1-1) / (- -1)+1=n:=by
   rw[show(- -1:Int)=1 by decide,Int.ediv_one];lia
  rw[e];simp
def aDj(xs:Array Value):((zBM xs.size).filterMap λ(m:Nat)=>xs[(((xs.size:Int)-1)+(m:Int)*(-1)).toNat]?)=xs.toList.reverse:=by
 apply zEj;intro i;have key:∀n,n<=xs.size->((zBM n).filterMap λ(m:Nat)=>xs[(((xs.size:Int)-1)+(m:Int)*(-1)).toNat]?)=xs.toList.reverse.take n:=by
  intro n;induction n with
  |zero=>intro _;simp
  |succ n ih=>
   intro hn;rw[List.range_succ,List.filterMap_append,ih (by lia),List.take_add_one];congr 1;have e:(((xs.size:Int)-1)+(n:Int)*(-1)).toNat=xs.size-1-n:=by lia
   simp only[zBm,List.filterMap_nil,e];rw[zGA (by rw[zAb];lia)];have e2:xs.toList.length-1-n=xs.size-1-n:=by simp
   rw[e2,zAc];have hlt:xs.size-1-n<xs.size:=by lia
   rw[zAJ hlt];rfl
 rw[key xs.size (zAP _),zBB (by simp)]
def qW{n:Nat}(hs:s.heap.IsSliceOf sl .none .none (.int (-1) u))
  (h:Q ((n:Int)-1,-1,n) s):wpAny (model prog w) A (zCX (.ref sl) (pure (n:Int))) Q E s:=by
 obtain⟨os,hos,hcs,hds⟩:=id hs;unfold zCX zEV;refine zAC (zAC (zEK hos hds (x:=.none) rfl (zAC (zEK hos hds (x:=.none) rfl (zAC (zEK hos hds (x:=.int (-1) u) rfl (zAI ?_)))))));refine zAC (slicePart_int ?_);show wpAny _ _ (if ((-1:Int)==0)=true then _ else _) _ _ s;rw[if_neg (by decide)];refine zAC (zEp (zAC (zEp (zAC (zAI ?_)))));show wpAny _ _ (match zBd none none (-1) (n:Int)with|(lo,hi)=>pure (lo,(-1:Int),zBK lo hi (-1))) _ _ s;rw[aAl n];show wpAny _ _ (pure ((n:Int)-1,(-1:Int),zBK ((n:Int)-1) (-1) (-1))) _ _ s;rw[aAk];exact zAI h
def pY(ht:IsTup s.heap t items)(hs:s.heap.IsSliceOf sl .none .none (.int (-1) u))
  (h:Q (.ref s.heap.objs.size) {s with heap:=s.heap.push {cls:=.type "tuple",data:=.seq items.toList.reverse.toArray}})
  (hsz:items.size<=zAV):wpAny (model prog w) A (zEt (.ref t) (.ref sl)) Q E s:=by
 have htake:sizeOk (.seq items.toList.reverse.toArray):=by
  show items.toList.reverse.toArray.size<=zAV;rw[zAH,zBy,zAb];lia
 obtain⟨os,hos,hcs,hds⟩:=id hs;have hTs:s.TypeIs (.ref sl) "slice":=⟨os,hos,hcs⟩;unfold zEt
 try with_reducible refine zC0 ?_
 first|refine zAC (zAI ?_)|skip
 refine zAC (zF5 ht.typeIs (by decide) ?_);refine zAC (zEJ (name:=zGJ "__getitem__") ht.typeIs zAz
  (zEM zAz ht.typeIs zEs ?_ (zFH _ _)))
 show wpAny _ _ (zDH (.ref t)>>=_) _ _ s;refine zAC (zG8 ht ?_);refine zAC (zF9 hTs ?_);rw[if_pos (by decide)];refine zAC (qW hs ?_);show wpAny _ _ (if (((items.size:Int)-1==0&&(-1:Int)==1&&items.size==items.size))=true then _ else _) _ _ s;rw[if_neg (by simp)];rw[show((zBM items.size).filterMap λ(k:Nat)=>items[(((items.size:Int)-1)+(k:Int)*(-1)).toNat]?)=items.toList.reverse from aDj items]
 first
  |exact zAC (m:=zBS _) (zB4 (zAI ⟨_,rfl,zAI h⟩) htake)
  |exact zAC (m:=zBS _) (zB4 (zAC (zAI (zAI ⟨_,rfl,zAI h⟩))) htake)
  |exact zAC (zAC (m:=zBS _) (zB4 (zAI (zAI ⟨_,rfl,zAI h⟩)) htake))
  |exact zAC (zAC (m:=zBS _) (zB4 (zAI ⟨_,rfl,zAI h⟩) htake))
end
end HT
namespace L2
open PySem PySem.Spec PyProof.Rows
def aGj(t T:String):Bool:=decide (t=T)||(decide (t="bool")&&decide (T="int"))
def aGh{K:zAA}(ht:t∈["NoneType","bool","int","str","list","tuple","dict"])(hT:T∈["bool","int","str","list","tuple","dict"]):
  zBt K (.type t) (.type T)=some (aGj t T):=by
 simp only[zAT,zBi,or_false]at ht hT;rcases ht with rfl|rfl|rfl|rfl|rfl|rfl|rfl<;>rcases hT with rfl|rfl|rfl|rfl|rfl|rfl<;>kernel_rfl
def nO(t T:String)(b:Bool):Bool:=decide (t∈["NoneType","bool","int","str","list","tuple","dict"])&&decide (T∈["bool","int","str","list","tuple","dict"])&&(aGj t T==b)
def aBM{K:zAA}(h:nO t T b=true):zBt K (.type t) (.type T)=some b:=by
 unfold nO at h;rw[zAQ,zAQ]at h;rw[aGh (of_decide_eq_true h.1.1) (of_decide_eq_true h.1.2),zDY h.2]
def az(h:H p=none)(o:HO):aO H (upd H p o):=λ b u q=>by rw[aU (bV q h)];exact q
section
variable{X:Cx}
def aKj(K:zAA):List V->Hp->VK->Prop:=λ xs H Q=>∃x T t b,xs=[x,.ty T]/\rF K H x (.type t)/\nO t T b=true/\Q (.bl b) H
def ji:eQ X (.builtin "isinstance") (aKj X.K):=by
 intro pins s Z H xs us Q I r h;obtain⟨x,T,t,b,rfl,ty,ok,q⟩:=h;obtain⟨u,w',rfl,r1,r2⟩:=vals2 r;obtain rfl:w'=zCk T:=r2;exact aCl I r1 ty (aBM ok) λ tk=>⟨.bl b,H,I.tok tk,rfl,q⟩
def aFx(K:zAA):R2:=λ x y H Q=>∃a b ns ms,x= .ref a/\y= .ref b/\SqT K H a (ns.map V.int)/\SqT K H b (ms.map V.int)/\Q (.bl (HT.lexLe ns ms)) H
def aIh(hu:X.A.units<cLine):OpR X (zAv .LtE) (aFx X.K):=by
 intro pins s Z H x y v u Q I rx ry h;obtain⟨a,b,ns,ms,rfl,rfl,ha,hb,q⟩:=h;cases rx;cases ry;obtain⟨its,r1,p1,_⟩:=I.tuple ha;obtain⟨its2,r2,p2,_⟩:=I.tuple hb;have i1:zBZ its.toArray.toList ns:=intsAre_of r1;have i2:zBZ its2.toArray.toList ms:=intsAre_of r2;exact HT.aBI p1 p2 i1 i2 hu ⟨.bl (HT.lexLe ns ms),H,I,rfl,q⟩
def aEQ:OpR X (zAv .Is) (λ x y H Q=>∃b c,x= .bl b/\y= .bl c/\Q (.bl (b==c)) H):=by
 intro pins s Z H x y v u Q I rx ry h;obtain⟨b,c,rfl,rfl,q⟩:=h;cases rx;cases ry;exact is_bool (aFH I q rfl)
def Inv.big'(I:Inv X pins Z H s):zDx<s.heap.objs.size:=by
 have h:zA5<s.heap.objs.size:=(I.mod.glob.keeps I.bk).lt;exact Nat.lt_trans (by decide) h
def aJg:TE:=λ _ H Q=>∀p,H p=none->Q (.ref p) (upd H p (.dK []))
def aGM:PE X (.Dict [] [] pos) aJg:=λ pins s Z H Q I h=>
 wpAny_Dict_empty ⟨.ref s.heap.objs.size,_,I.laid (a:=s.heap.objs.size) (o:=.dK []) (t':=s.toks) (λ _ _ q=>zAE _ q) (zAP _)
  ⟨zAj _,beq_eq_false_iff_ne.mpr (zDe (zA6 I.big')),[],.nil,Heap.DictOf.new s.heap⟩,rfl,h _ (I.hok.fresh (zAP _))⟩
end
def gK(l:Addr)(H H':Hp):Prop:=∀b o,b≠l->H b=some o->H' b=some o
def aO.butl(s:aO H H'):gK l H H':=λ b o _ h=>s b o h
def gK.trans(a:gK l H H1)(b:gK l H1 H2):gK l H H2:=λ c o n h=>b c o n (a c o n h)
def aO.sqt{K:zAA}(e:aO H H')(h:SqT K H a xs):SqT K H' a xs:=by
 rcases h with (h|⟨o,h⟩)|h
 .exact .inl (.inl (e _ _ h))
 .exact .inl (.inr ⟨o,e _ _ h⟩)
 .exact .inr h
inductive D where
 |non|bl (b:Bool)|int (i:Int)|str (x:Str)|tup (l:List D)|lst (l:List D)|dct
mutual
inductive Rep(H:Hp):V->D->Prop where
 |non:Rep H .non .non
 |bl (b:Bool):Rep H (.bl b) (.bl b)
 |int (i:Int):Rep H (.int i) (.int i)
 |str (x:Str):Rep H (.str x) (.str x)
 |tup {a:Addr} {xs:List V} {ds:List D} (h:H a=some (.tup xs)) (r:aF2 H xs ds):Rep H (.ref a) (.tup ds)
 |lst {a:Addr} {xs:List V} {ds:List D} (h:H a=some (.lst xs)) (r:aF2 H xs ds):Rep H (.ref a) (.lst ds)
 |dct {a:Addr} (h:H a=some (.dK [])):Rep H (.ref a) .dct
inductive aF2(H:Hp):List V->List D->Prop where
 |nil:aF2 H [] []
 |cons {x:V} {d:D} {xs:List V} {ds:List D} (h:Rep H x d) (r:aF2 H xs ds):aF2 H (x::xs) (d::ds)
end
def PE.weaken(h:PE X e t)(imp:∀Z H Q,t' Z H Q->t Z H Q):PE X e t':=λ pins s Z H Q I q=>h pins s Z H Q I (imp Z H Q q)
def OpR.weaken(h:OpR X f r)(imp:∀x y H Q,r' x y H Q->r x y H Q):OpR X f r':=λ pins s Z H x y v u Q I rx ry q=>h pins s Z H x y v u Q I rx ry (imp x y H Q q)
def New(H:Hp)(o:HO)(Q:VK):Prop:=∀p H',aO H H'->H' p=some o->H p=none->Q (.ref p) H'
def New.at(n:New H o Q)(hp:H p=none):Q (.ref p) (upd H p o):=n p _ (az hp o) aX hp
section
variable{X:Cx}{es:List Expr}{t:TA}{pos:Pos}
def aJb(t:TA):TE:=λ Z H Q=>t Z H λ xs H1=>xs.length<=zAV/\New H1 (.tup xs) Q
def aDW(t:TA):TE:=λ Z H Q=>t Z H λ xs H1=>xs.length<=zAV/\New H1 (.lst xs) Q
def aGK{x1}(h:PA X es t):PE X (.Tuple es x1 pos) (aJb t):=by
 have h':PA X es (λ Z H Q=>∃R:List V->Hp->Prop,t Z H R/\∀xs H',R xs H'->Q xs H'):=by
  intro pos pins s Z H Q I ⟨R,q,imp⟩;exact thn (h pos pins s Z H R I q) λ us s' ⟨vs,H',I',r,q'⟩=>⟨vs,H',I',r,imp _ _ q'⟩
 exact(aIX h').weaken λ Z H Q q=>⟨_,q,λ xs H' ⟨z,n⟩=>⟨z,λ p hp=>n.at hp⟩⟩
def jz(h:PA X es t):PE X (.List es pos) (aDW t):=by
 have h':PA X es (λ Z H Q=>∃R:List V->Hp->Prop,t Z H R/\∀xs H',R xs H'->Q xs H'):=by
  intro pos pins s Z H Q I ⟨R,q,imp⟩;exact thn (h pos pins s Z H R I q) λ us s' ⟨vs,H',I',r,q'⟩=>⟨vs,H',I',r,imp _ _ q'⟩
 exact(aI0 h').weaken λ Z H Q q=>⟨_,q,λ xs H' ⟨z,n⟩=>⟨z,λ p hp=>n.at hp⟩⟩
def aHu:TE:=λ _ H Q=>New H (.dK []) Q
def aEI:PE X (.Dict [] [] pos) aHu:=aGM.weaken λ Z H Q n p hp=>n.at hp
def aDr:R2:=λ x y H Q=>∃l b xs zs,x= .ref l/\y= .ref b/\H l=some (.lst xs)/\H b=some (.lst zs)/\xs.length+zs.length<=zAV/\New H (.lst (xs++zs)) Q
def yS:OpR X (zCV .Add) aDr:=aIm.weaken λ x y H Q ⟨l,b,xs,zs,e1,e2,h1,h2,z,n⟩=>⟨l,b,xs,zs,e1,e2,h1,h2,z,λ p hp=>n.at hp⟩
def uO:V->List V->Hp->VK->Prop:=λ x vs H Q=>∃l xs y,x= .ref l/\vs=[y]/\H l=some (.lst xs)/\xs.length<zAV/\∀H',gK l H H'->H' l=some (.lst (xs++[y]))->Q .non H'
def uY:MtM X "list.append" uO:=λ pins s Z H x xs v us Q I rx rv ⟨l,ys,y,e1,e2,h,z,n⟩=>
 qt pins s Z H x xs v us Q I rx rv ⟨l,ys,y,e1,e2,h,z,n _ (λ b o ne hb=>by rw[aU ne];exact hb) aX⟩
end
def aZ(scope:Scope)(env:Env):List (Str×Addr):=(scope.names.filterMap λ y=>if y.2== .free then(env.cells.lookup y.1).map λ c=>(y.1,c)else none).reverse
theorem vQ(env:Env):∀(names:List (Str×zD3)) (acc:List (Str×Addr)),(∀y∈names,y.2= .free->∃c,env.cells.lookup y.1=some c)->
  (forIn names acc λ(x:Str×zD3) r=>if (x.2== .free)=true then do let c <-cellOf env x.1;pure (zB1 ((x.1,c)::r))else pure (zB1 r):Sem (List (Str×Addr)))=
   pure ((names.filterMap λ y=>if y.2== .free then(env.cells.lookup y.1).map λ c=>(y.1,c)else none).reverse++acc)
 |[],acc,_=>rfl
 |(n,k)::r,acc,h=>by
  rw[List.forIn_cons];have ih:=λ acc'=>vQ env r acc' λ y hy=>h y (zAX _ hy)
  by_cases hk:k= .free
  .subst hk
   obtain⟨c,hc⟩:=h (n,.free) zAN rfl;have hc':env.cells.lookup n=some c:=hc;simp only[beq_self_eq_true,if_true,cellOf,hc',zBm,zDs,zDE,zAe,List.singleton_append];exact ih _
  .have hb:(k==zCE)=false:=by simpa using hk
   simp only[hb,zBq,if_false,zBm];exact ih _
def gR(h:∀y∈scope.names,y.2= .free->∃c,env.cells.lookup y.1=some c):zEc scope env=pure (aZ scope env):=by
 have e:=vQ env scope.names [] h;rw[zA9]at e;have e2:zEc scope env=((forIn scope.names ([]:List (Str×Addr)) λ(x:Str×zD3) r=>if (x.2== .free)=true then do let c <-cellOf env x.1;pure (zB1 ((x.1,c)::r))else pure (zB1 r):Sem (List (Str×Addr)))>>=λ r=>pure r):=rfl;rw[e2,e];rfl
def eE(h:(aZ scope env).lookup x=some c):env.cells.lookup x=some c:=by
 have hm:=zAl h;unfold aZ at hm;rw[zBY,zCH]at hm;obtain⟨y,hy,e⟩:=hm;split at e
 .cases q:env.cells.lookup y.1 with
  |none=>rw[q]at e;cases e
  |some c'=>
   rw[q]at e;have e':=zAn e;injection e' with e1 e2
   subst e1 e2;exact q
 .cases e
def qI(hx:scope.names.lookup x=some .free)(h:env.cells.lookup x=some c):(aZ scope env).lookup x=some c:=by
 have hm:(x,zCE)∈scope.names:=zAl hx
 have:(x,c)∈aZ scope env:=by
  unfold aZ;rw[zBY,zCH];exact⟨_,hm,by simp[h]⟩
 cases q:(aZ scope env).lookup x with
 |none=>
  exact absurd this (by
   intro hm'
   have:=List.lookup_eq_none_iff.mp q _ hm'
   simp at this)
 |some c'=>
  have:=eE q
  rw[h]at this;exact this.symm▸rfl
def sZ(scope:Scope)(C:Addr):List (Str×Addr):=zCp (C+1) scope.names []
theorem jh:∀(names:List (Str×zD3)) (n:Nat) (acc:List (Str×Addr)),zCp n names acc=zCp n names []++acc
 |[],_,_=>rfl
 |(x,k)::r,n,acc=>by
  unfold zCp;split
  .rw[jh r (n+1) ((x,n)::acc),jh r (n+1) [(x,n)],zAe];rfl
  .exact jh r n acc
theorem oY:∀{names:List (Str×zD3)} {n:Nat} {x:Str} {c:Addr},(x,c)∈zCp n names []->(x,zDP)∈names
 |(y,k)::r,n,x,c,h=>by
  unfold zCp at h;split at h
  .rename_i hk
   rw[jh,zAq]at h;rcases h with h|h
   .exact zAX _ (oY h)
   .have e:=zAu.mp h
    cases e;rw[zDY hk];exact zAN
  .exact zAX _ (oY h)
 |[],_,_,_,h=>by cases h
def jb{l m:List (Str×Addr)}(h:(l++m).lookup x=some c):l.lookup x=some c\/(l.lookup x=none/\m.lookup x=some c):=by
 rw[zE8]at h;cases e:l.lookup x with
 |some c'=>rw[e]at h;exact .inl h
 |none=>rw[e]at h;exact .inr ⟨rfl,h⟩
def aBz{M:Model}{A:zAd}{E:Value->zAD->Prop}{s:zAD}{scope:Scope}{globals:Addr}{cl:List (Str×Addr)}{qual:Str}{env:Env}{Q:Env->zAD->Prop}
  (h:∀h':Heap,h'.Ns s.heap.objs.size (λ _=>none)->(∀b o,s.heap.get? b=some o->h'.get? b=some o)->CellsOk h' (s.heap.objs.size+1) (sZ scope s.heap.objs.size)->
   Q {scope:=scope,locals:=s.heap.objs.size,globals:=globals,cells:=sZ scope s.heap.objs.size++cl,qual:=qual,func:=none,code:=env.code,frame:=env.frame,builtins:=env.builtins} {s with heap:=h'}):
  wpAny M A (zEn scope globals cl [] qual none .none (some env)) Q E s:=by
 simp only[zEn,Option.isSome_some,if_true];refine zAC (wpAny_alloc ?_);refine zAC (wpAny_layCells _ (λ name kind cells=>by cases hkc:kind==zDP<;>simp[hkc]) _ _ _ _ ?_);have ok:=cellsFrom_ok scope.names (s.heap.push {cls:=.type "dict",data:=.dict #[]}) (s.heap.objs.size+1) [] ⟨λ _ _ hm=>(nomatch hm),zFS⟩ (by rw[zCJ];exact zAP _);rw[zCJ]at ok;rw[show({s with heap:=s.heap.push {cls:=.type "dict",data:=.dict #[]}}:zAD).heap.objs.size=s.heap.objs.size+1 from zCJ ..,jh];refine zAI ?_;exact h _ ((Heap.Ns.new s.heap (.type "dict")).keeps (pushCells_keeps _ _)) (λ b o e=>pushCells_keeps _ _ b o (zAE _ e)) ok
def Cx.block(X:Cx)(scope:Scope)(C:Addr)(N:List Str)(fp:List Addr)(z5:zAD)(z4:Hp):Cx:=
  {prog:=X.prog,w:=X.w,K:=X.K,mg:=X.mg,base:=X.base,A:=X.A,N:=N,z5:=z5,z4:=z4,env:=compEnvC scope (sZ scope C++aZ scope X.env) C X.env,outer:=X.stack,stack:=X.stack,ex:=fp,
    fn:=λ x=>scope.names.lookup x==some .cell,calm:=X.calm,pn:=[],xe:=λ _ _=>False}
structure cT(X:Cx)(scope:Scope)(N:List Str)(st:St->St)(ks:List Nat):Prop where
 kind:scope.kind= .function
 sep:∀y∈scope.names,y.2= .cell->scope.names.lookup y.1=some .cell
 loc:∀y∈scope.names,y.2= .local->scope.names.lookup y.1=some .local
 free:∀y∈scope.names,y.2= .free->X.env.kindOf y.1=some .cell\/X.env.kindOf y.1=some .free
 len:∀Z,(st Z).length=N.length
 val:∀Z (i:Nat) x v,N[i]? =some x->(st Z)[i]? =some (some v)->scope.names.lookup x=some .free/\i∉ks/\∃j:Nat,X.N[j]? =some x/\Z[j]? =some (some v)
def yM(h:(zF1 scope env).names.lookup x=some .cell\/(zF1 scope env).names.lookup x=some .free):scope.names.lookup x=some .free\/scope.names.lookup x=some .cell:=by
 have go:∀names:List (Str×zD3),((names.map λ(n,k)=>if (k==zCE&&env.scope.kind== .function&&env.kindOf n==some .cell)then(n,zDP)else(n,k)).lookup x=some .cell\/
   (names.map λ(n,k)=>if (k==zCE&&env.scope.kind== .function&&env.kindOf n==some .cell)then(n,zDP)else(n,k)).lookup x=some .free)->names.lookup x=some .free\/names.lookup x=some .cell:=by
  intro names;induction names with
  |nil=>intro h;simp at h
  |cons y r ih=>
   obtain⟨n,k⟩:=y;intro h;rw[zA0]at h;by_cases hx:x==n
   .rw[zBA,hx]
    show some k=some .free\/some k=some .cell;by_cases hcc:(k==zCE&&env.scope.kind== .function&&env.kindOf n==some .cell)=true
    .rw[zAQ,zAQ]at hcc
     rw[zDY hcc.1.1];exact .inl rfl
    .simp only[if_neg hcc,zBA,hx]at h
     exact h.elim .inr .inl
   .have hx':(x==n)=false:=by simpa using hx
    rw[zBA,hx'];refine ih ?_;by_cases hcc:(k==zCE&&env.scope.kind== .function&&env.kindOf n==some .cell)=true
    .simp only[if_pos hcc,zBA,hx']at h
     exact h
    .simp only[if_neg hcc,zBA,hx']at h
     exact h
 exact go scope.names h
def yN(h:scope.names.lookup x=some .free):(zF1 scope env).names.lookup x=some .cell\/(zF1 scope env).names.lookup x=some .free:=by
 have go:∀names:List (Str×zD3),names.lookup x=some .free->((names.map λ(n,k)=>if (k==zCE&&env.scope.kind== .function&&env.kindOf n==some .cell)then(n,zDP)else(n,k)).lookup x=some .cell\/
   (names.map λ(n,k)=>if (k==zCE&&env.scope.kind== .function&&env.kindOf n==some .cell)then(n,zDP)else(n,k)).lookup x=some .free):=by
  intro names;induction names with
  |nil=>intro h;simp at h
  |cons y r ih=>
   obtain⟨n,k⟩:=y;intro h;rw[zA0];by_cases hx:x==n
   .rw[zBA,hx]at h
    have hk:k= .free:=zAn h;by_cases hcc:(k==zCE&&env.scope.kind== .function&&env.kindOf n==some .cell)=true
    .simp only[if_pos hcc,zBA,hx]
     exact .inl trivial
    .simp only[if_neg hcc,zBA,hx]
     exact .inr (by rw[hk])
   .have hx':(x==n)=false:=by simpa using hx
    rw[zBA,hx']at h;by_cases hcc:(k==zCE&&env.scope.kind== .function&&env.kindOf n==some .cell)=true
    .simp only[if_pos hcc,zBA,hx']
     exact ih h
    .simp only[if_neg hcc,zBA,hx']
     exact ih h
 exact go scope.names h
section
variable{X:Cx}{pins:List (Addr×Obj)}{Z:St}{H:Hp}{s:zAD}
theorem Inv.block{st:St->St}{D C:Addr}(I:Inv X pins Z H s)(B:cT X scope N st ks)
  (hfp:∀b∈fp,o5 X pins H b)(hob:∀b∈fp,∃ob,s.heap.get? b=some ob)
  (hD:s.heap.objs.size<=D)(hC:s.heap.objs.size<=C)(hDC:D≠C)(keep:∀b u,s.heap.get? b=some u->h'.get? b=some u)(hns:h'.Ns C λ _=>none)(hcs:CellsOk h' (C+1) (sZ scope C))(hDo:∀c,C<c->D≠c)(hacc:cM X.prog X.w (upd H D o) h' D o):
  Inv (X.block scope C N fp s H) [] (st Z) (upd H D o) {s with heap:=h',toks:=tk}:=by
 have hHD:H D=none:=I.hok.fresh hD;have hcl:∀x c,(aZ scope X.env).lookup x=some c->X.env.cells.lookup x=some c:=λ x c e=>eE e
 have hol:∀x c,(sZ scope C).lookup x=some c->C<c/\h'.IsCell c none:=λ x c e=>let⟨q1,q2⟩:=hcs.empty x c (zAl e);⟨q2,q1⟩
 have hlt:∀x c,(aZ scope X.env).lookup x=some c->c<s.heap.objs.size:=λ x c e=>let⟨v,ic⟩:=I.cell x c (hcl x c e);ic.lt
 have hfresh:∀b∈fp,b<s.heap.objs.size:=λ b hb=>by
  obtain⟨ob,e⟩:=hob b hb;exact zAU e
 refine⟨⟨I.mod,?_,I.ok.glob,I.ok.blt,hC,λ x y c e1 e2=>?_,λ x hx=>?_,λ x c hf e=>?_,I.ok.hd,I.ok.frames,.inl rfl,λ b hb=>⟨?_,λ x c e z=>?_⟩,
  I.bs,?_,λ b ob e hb=>?_,λ b hb hs=>?_,I.stack,I.stkFree⟩,rfl,I.bare,Un.laid keep hD hHD,⟨_,hns,λ i x v e1 e2 hv=>?_⟩,λ x c e=>?_,?_,λ x c e=>?_,λ p hp=>absurd (show p∈([]:List (Addr×Obj))from hp) (by simp),I.hok.laid keep hD hacc,B.len Z,λ p hp=>absurd (show p∈([]:List (Addr×Obj))from hp) (by simp)⟩
 .show(zF1 scope X.env).kind= .function
  exact B.kind
 .rcases jb e1 with a1|⟨_,a1⟩<;>rcases jb e2 with a2|⟨_,a2⟩
  .exact PySem.name_of_addr hcs.apart (zAl a1) (zAl a2)
  .exact absurd (hlt y c a2) (zFf.mpr (zAk hC (zC8 (hol x c a1).1)))
  .exact absurd (hlt x c a1) (zFf.mpr (zAk hC (zC8 (hol y c a2).1)))
  .exact I.ok.inj x y c (hcl x c a1) (hcl y c a2)
 .show∃c,(sZ scope C++aZ scope X.env).lookup x=some c
  rw[zE8];cases e:(sZ scope C).lookup x with
  |some c=>exact⟨c,rfl⟩
  |none=>
   rcases yM hx with hfree|hcell
   .obtain⟨c,hc⟩:=I.ok.has x (B.free (x,.free) (zAl hfree) rfl)
    exact⟨c,qI hfree hc⟩
   .obtain⟨c,hc⟩:=qJ (n:=C+1) hcell
    rw[show(sZ scope C).lookup x=some c from hc]at e;cases e
 .rcases jb e with a1|⟨a0,_⟩
  .exact zAk hC (zC8 (hol x c a1).1)
  .obtain⟨c',hc'⟩:=qJ (n:=C+1) (zDY hf)
   rw[show(sZ scope C).lookup x=some c' from hc']at a0;cases a0
 .exact zA6 (zAS (hfresh b hb) hC)
 .rcases jb e with a1|⟨_,a1⟩
  .exact absurd (hfresh b hb) (zFf.mpr (by rw[<-z];exact zAk hC (zC8 (hol x c a1).1)))
  .exact(hfp b hb).2.2.2.2.1 x c (hcl x c a1) z
 .exact zAk I.ok.bsz I.sz
 .rcases(hfp b hb).2.2.2.1 with z|z
  .exact I.ok.noex b ob e z
  .exact absurd (zAS (zAU (I.ok.bs b ob e).1) z) (zBe _)
 .rcases zAT.mp (I.stkSub b hs)with z|z
  .exact(hfp b hb).2.1 z
  .exact(hfp b hb).2.2.1 z
 .obtain⟨hfree,_,j,f1,f2⟩:=B.val Z i x v e1 e2
  obtain⟨m,hn,hl⟩:=I.loc;have hk:=B.free (x,.free) (zAl hfree) rfl;obtain⟨u,ru,hu⟩:=hl j x v f1 f2 (hk.elim (λ z=>.inr (.inl z)) λ z=>.inr (.inr z));rcases hu with ⟨k,_⟩|⟨_,c,ec,ic⟩
  .rcases hk with z|z
   .exact absurd (k.symm.trans z) (by decide)
   .exact absurd (k.symm.trans z) (by decide)
  .have hno:(sZ scope C).lookup x=none:=by
    cases e:(sZ scope C).lookup x with
    |none=>rfl
    |some c'=>
     have:=B.sep _ (oY (zAl e)) rfl
     rw[hfree]at this;cases this
   refine⟨u,ru,.inr ⟨?_,c,by show(sZ scope C++aZ scope X.env).lookup x=some c;rw[zE8,hno];exact qI hfree ec,ic.keeps keep⟩⟩;rcases hv with z|z|z
   .have z':(zF1 scope X.env).names.lookup x=some .local:=z
    rcases yN (env:=X.env) hfree with y|y
    .exact absurd (z'.symm.trans y) (by decide)
    .exact absurd (z'.symm.trans y) (by decide)
   .exact .inl z
   .exact .inr z
 .rcases jb e with a1|⟨_,a1⟩
  .exact⟨_,(hol x c a1).2⟩
  .obtain⟨v,ic⟩:=I.cell x c (hcl x c a1)
   exact⟨v,ic.keeps keep⟩
 .show upd H D o C=none
  rw[aU (zDe hDC)];exact I.hok.fresh hC
 .show upd H D o c=none
  rcases jb e with a1|⟨_,a1⟩
  .rw[aU (zDe (hDo c (hol x c a1).1))]
   exact I.hok.fresh (zAk hC (zC8 (hol x c a1).1))
  .obtain⟨v,ic⟩:=I.cell x c (hcl x c a1)
   rw[aU (zA6 (zAS ic.lt hD))];exact I.freeC x c (hcl x c a1)
end
section
variable{prog:zAY}{w:World}{A:zAd}{R:zEZ->zAD->Prop}{s:zAD}
def yu(I:Nat->zAD->Prop)
  (turn:∀n s,I n s->wpAny (model prog w) A (zGU it) (λ r zS=>match r with
   |none=>R (.ok .next) zS
   |some v=>wpAny (model prog w) A (zDM target it v) (λ _ zS=>wpAny (model prog w) A (zDw target env v) (λ _ z0=>
     wpAny (model prog w) A (forIn ifs true λ c r=>if r=true then do let ok <-isTrue c env (eval c env);pure (zB1 ok)else pure (zB1 r)) (λ ok zD=>
      if ok=true then wpAny (model prog w) A (eval elt env) (λ x y7=>
       wpAny (model prog w) A (call (.builtin "list.append") [acc,x]) (λ _ s₅=>∃m,m<n/\I m s₅) (λ _ _=>False) y7) (λ _ _=>False) zD
      else∃m,m<n/\I m zD) (λ _ _=>False) z0) (λ _ _=>False) zS) (λ _ _=>False) zS) (λ _ _=>False) s)
  (n:Nat)(h:I n s):zBs (model prog w) A (.compLoop (.ListComp elt [⟨target,iter,ifs,0⟩] scope pos) 0 it acc env) R s:=by
 refine codeAny_loop rfl I (λ n s hI=>?_) n h;show wpAny _ A ((zFi (.ListComp elt [⟨target,iter,ifs,0⟩] scope pos) 0 it acc env).onRaise (λ x=>do noteFrame x env;theTreesLotGoes x)) _ _ s;refine wpAny_noted ?_;rw[compTurn_list];refine zAC (zC1 (zAC (zBF (turn n s hI) (λ r zS zI=>?_) λ _ _ h'=>h'.elim)));cases r with
 |none=>exact zAI zI
 |some v=>
  refine zAC (zBF zI (λ _ zS zI=>?_) λ _ _ h'=>h'.elim);refine zAC (zBF zI (λ _ z0 y4=>zAC (zBF y4 (λ ok zD yY=>?_) λ _ _ h'=>h'.elim)) λ _ _ h'=>h'.elim);cases ok with
  |false=>exact zAI ⟨rfl,yY⟩
  |true=>
   exact zAC (zAC (zBF yY (λ x y7 h₄=>zAC (zBF h₄ (λ _ s₅ h₅=>zAI (zAI ⟨rfl,h₅⟩)) λ _ _ h'=>h'.elim)) λ _ _ h'=>h'.elim))
end
def gw(g:TG)(ks:List Nat):Prop:=∀v Z H (Q:St->Hp->Prop),g v Z H Q->g v Z H (λ Z' H'=>Q Z' H'/\Z'.length=Z.length/\∀k,k∉ks->Z'[k]? =Z[k]?)
def vV(g:TGs)(ks:List Nat):Prop:=∀vs Z H (Q:St->Hp->Prop),g vs Z H Q->g vs Z H (λ Z' H'=>Q Z' H'/\Z'.length=Z.length/\∀k,k∉ks->Z'[k]? =Z[k]?)
def aGv(h:i∈ks):gw (lH i) ks:=λ v Z H Q q=>⟨q,zBT,λ k hk=>zB2 (λ(e:i=k)=>hk (e▸h))⟩
def aGu:vV aJS ks:=λ vs Z H Q ⟨e,q⟩=>⟨e,q,rfl,λ _ _=>rfl⟩
def sW(g:TG):Prop:=∀v Z H (Q Q':St->Hp->Prop),(∀Z' H',Q Z' H'->Q' Z' H')->g v Z H Q->g v Z H Q'
def rG(g:TGs):Prop:=∀v Z H (Q Q':St->Hp->Prop),(∀Z' H',Q Z' H'->Q' Z' H')->g v Z H Q->g v Z H Q'
def aGx:sW (lH i):=λ v Z H Q Q' imp q=>imp _ _ q
def aGw:rG aJS:=λ v Z H Q Q' imp ⟨e,q⟩=>⟨e,imp _ _ q⟩
def aEx(h1:sW t)(h2:rG u):rG (aEz t u):=λ vs Z H Q Q' imp ⟨v,r,e,q⟩=>⟨v,r,e,h1 _ _ _ _ _ (λ Z' H' q'=>h2 _ _ _ _ _ imp q') q⟩
def aEv(h1:gw t ks)(m1:sW t)(h2:vV u ks)(m2:rG u):vV (aEz t u) ks:=λ vs Z H Q ⟨v,r,e,q⟩=>
 ⟨v,r,e,m1 _ _ _ _ _ (λ Z' H' ⟨q',l',k'⟩=>m2 _ _ _ _ _ (λ Z2 H2 ⟨q2,l2,k2⟩=>⟨q2,l2.trans l',λ k hk=>(k2 k hk).trans (k' k hk)⟩) (h2 _ _ _ _ q')) (h1 _ _ _ _ q)⟩
def aJQ{K:zAA}(h:vV t ks):gw (aGy K n t) ks:=λ v Z H Q ⟨a,xs,e1,e2,e3,q⟩=>⟨a,xs,e1,e2,e3,h _ _ _ _ q⟩
def aJR{K:zAA}(h:rG t):sW (aGy K n t):=λ v Z H Q Q' imp ⟨a,xs,e1,e2,e3,q⟩=>⟨a,xs,e1,e2,e3,h _ _ _ _ _ imp q⟩
def wB(X:Cx)(ifs:List Expr)(t:TT):Prop:=
 ∀(pins:List (Addr×Obj)) (s:zAD) (Z:St) (H:Hp) (Q:Bool->Hp->Prop),Inv X pins Z H s->t Z H Q->
  wpAny (model X.prog X.w) X.A (forIn ifs true λ c r=>if r=true then do let ok <-isTrue c X.env (eval c X.env);pure (zB1 ok)else pure (zB1 r)) (TP X pins Z Q) X.xe s
def aK8:TT:=λ _ H Q=>Q true H
def aIW:wB X [] aK8:=λ _ _ _ H _ I h=>wpAny_tests_nil ⟨H,I,h⟩
def aIV(h:PT X c t):wB X [c] t:=λ pins s Z H Q I q=>wpAny_tests_one (h pins s Z H Q I q)
def tLC(wi:TI)(st:St->St)(g:TG)(tt:TT)(te:TE):TE:=λ Z H Q=>wi Z H λ J H1=>∀l,H1 l=none->∃W:Nat->Nat->List V->Hp->Prop,(∃m,W 0 m [] (upd H1 l (.lst [])))/\
 ∀i m acc H2,W i m acc H2->H2 l=some (.lst acc)/\acc.length<zAV/\((J.stop i H2/\Q (.ref l) H2)\/(J.go i H2/\∀x H3,J.yld i H2 x H3->g x (st Z) H3 λ Z4 H4=>tt Z4 H4 λ ok H5=>
  if ok=true then te Z4 H5 λ y H6=>H6 l=some (.lst acc)/\∃m',m'<m/\W (i+1) m' (acc++[y]) (upd H6 l (.lst (acc++[y])))else∃m',m'<m/\W (i+1) m' acc H5))
section
variable{X:Cx}{elt tg iter:Expr}{ifs:List Expr}{scope:Scope}{pos:Pos}{N:List Str}{st:St->St}{ks:List Nat}{wi:TI}{g:TG}{tt:TT}{te:TE}
def aAC(B:cT X scope N st ks)(hc:X.calm=true)(hg:∀C fp z5 z4,PG (X.block scope C N fp z5 z4) tg g)(hgo:gw g ks)(ht:∀C fp z5 z4,wB (X.block scope C N fp z5 z4) ifs tt)
  (he:∀C fp z5 z4,PE (X.block scope C N fp z5 z4) elt te){H1:Hp}{Q:VK}{RR:Value->Addr->zEZ->zAD->Prop}
  (I:Inv X pins Z H1 z0)(T:Turn X.prog X.w X.K tg J fp it tn)(h0:tn 0 z0.heap)(hfp:∀b∈fp,o5 X pins H1 b)
  (h:∀l,H1 l=none->∃W:Nat->Nat->List V->Hp->Prop,(∃m,W 0 m [] (upd H1 l (.lst [])))/\
   ∀i m acc H2,W i m acc H2->H2 l=some (.lst acc)/\acc.length<zAV/\((J.stop i H2/\Q (.ref l) H2)\/(J.go i H2/\∀x H3,J.yld i H2 x H3->g x (st Z) H3 λ Z4 H4=>tt Z4 H4 λ ok H5=>
    if ok=true then te Z4 H5 λ y H6=>H6 l=some (.lst acc)/\∃m',m'<m/\W (i+1) m' (acc++[y]) (upd H6 l (.lst (acc++[y])))else∃m',m'<m/\W (i+1) m' acc H5)))
  (hRR:∀D C H' s',(∃Z',Inv (X.block scope C N fp z0 H1) [] Z' H' s')->z0.heap.objs.size<=C->Q (.ref D) H'->RR (.ref D) C (.ok .next) s'):
  wpAny (model X.prog X.w) X.A (zG5 []) (λ acc zD=>wpAny (model X.prog X.w) X.A (zEn scope X.env.globals (aZ scope X.env) [] X.env.qual none .none (some X.env)) (λ cenv y7=>
   zBs (model X.prog X.w) X.A (.compStart (.ListComp elt [⟨tg,iter,ifs,0⟩] scope pos) 0 (.ref it) acc {cenv with scope:=zF1 scope X.env}) (RR acc cenv.locals) y7) E zD) E z0:=by
 refine zB4 (aBz λ zI y9 zC y8=>?_);dsimp only at y9 zC y8 ⊢;generalize hH2:z0.heap.push {cls:=.type "list",dict:=none,data:=.seq ([]:List Value).toArray}=P2 at y9 zC y8 ⊢;have hC:P2.objs.size=z0.heap.objs.size+1:=by rw[<-hH2,zCJ]
 have hDC:z0.heap.objs.size≠P2.objs.size:=by rw[hC];exact zA6 (zCj _)
 have hCle:z0.heap.objs.size<=P2.objs.size:=by rw[hC];exact zEW _
 have old:∀b o,z0.heap.get? b=some o->zI.get? b=some o:=λ b o e=>zC b o (hH2▸zAE _ e)
 have hacc:zI.get? z0.heap.objs.size=some {cls:=.type "list",dict:=none,data:=.seq ([]:List Value).toArray}:=zC _ _ (hH2▸zA3 _ rfl);generalize hCe:P2.objs.size=C at y9 zC y8 hDC hCle hC ⊢;have hHD:H1 z0.heap.objs.size=none:=I.hok.fresh (zAP _);have I0:Inv (X.block scope C N fp z0 H1) [] (st Z) (upd H1 z0.heap.objs.size (.lst [])) {z0 with heap:=zI,toks:=z0.toks}:=
  I.block B hfp (λ b hb=>by obtain⟨o,e,_⟩:=T.obj 0 _ h0 b hb;exact⟨o,e⟩) (zAP _) hCle hDC old y9 y8 (λ c hc=>zA6 (zGf hCle hc)) ⟨zAj _,[],0,.nil,hacc⟩
 obtain⟨W,⟨m0,w0⟩,step⟩:=h _ hHD;have h01:tn 0 zI:=T.keep 0 _ _ h0 λ b _ o e=>old b o e
 have stat:∀{H':Hp},(∀b∈fp,H' b=none)->∀b∈fp,o5 (X.block scope C N fp z0 H1) [] H' b:=λ{H'} hn b hb=>
  ⟨hn b hb,(I0.ok.exf b hb).1,I0.ok.exfs b hb,.inl hb,λ x c e=>(I0.ok.exf b hb).2 x c e,λ p hp=>absurd (show p∈([]:List (Addr×Obj))from hp) (by simp)⟩
 have fr0:∀b∈fp,upd H1 z0.heap.objs.size (.lst []) b=none:=λ b hb=>by
  obtain⟨o,e,_⟩:=T.obj 0 _ h0 b hb;rw[aU (zA6 (zAU e))];exact(hfp b hb).1
 have loop:∀zD:zAD,zD={z0 with heap:=zI,toks:=z0.toks}->
   zBs (model X.prog X.w) X.A (.compLoop (.ListComp elt [⟨tg,iter,ifs,0⟩] scope pos) 0 (.ref it) (.ref z0.heap.objs.size) (X.block scope C N fp z0 H1).env) (RR (.ref z0.heap.objs.size) C) zD:=by
  rintro zD rfl;refine yu (λ n s'=>∃i acc H2,Inv (X.block scope C N fp z0 H1) [] (st Z) H2 s'/\tn i s'.heap/\(∀b∈fp,H2 b=none)/\W i n acc H2) ?_ m0 ⟨0,[],_,I0,h01,fr0,w0⟩;rintro n s3 ⟨i,acc,H2,I2,st2,fr2,w2⟩;obtain⟨hl,hz,alt⟩:=step i n acc H2 w2;rcases alt with ⟨stop,q⟩|⟨go,nxt⟩
  .refine thn (T.done (X.block scope C N fp z0 H1) rfl rfl rfl hc i [] s3 (st Z) H2 _ I2 (stat fr2) st2 stop) λ r s4 ⟨hr,I4⟩=>?_
   subst hr;exact hRR _ C H2 s4 ⟨_,I4⟩ hCle q
  .refine thn (T.item (X.block scope C N fp z0 H1) rfl rfl rfl hc i [] s3 (st Z) H2 _ I2 (stat fr2) st2 go) λ r s4 ⟨u,hr,h4⟩=>?_
   subst hr;refine thn h4 λ _ s5 ⟨x,H5,I5,r5,y5,st5,fr5⟩=>?_
   have I5':=I5.pinned (stat fr5) (T.obj _ _ st5);refine thn (hg C fp z0 H1 _ s5 (st Z) H5 x u _ I5' r5 (hgo _ _ _ _ (nxt x H5 y5))) λ _ s6 ⟨Z6,H6,I6,q6,aAB,ag6⟩=>?_
   refine thn (ht C fp z0 H1 _ s6 Z6 H6 _ I6 q6) λ ok s7 ⟨H7,I7,q7⟩=>?_
   have again:∀{H9:Hp} {s9:zAD} {acc':List V},Inv (X.block scope C N fp z0 H1) ([]++mJ fp s5.heap) Z6 H9 s9->(∃m',m'<n/\W (i+1) m' acc' H9)->
     ∃m,m<n/\∃i acc H2,Inv (X.block scope C N fp z0 H1) [] (st Z) H2 s9/\tn i s9.heap/\(∀b∈fp,H2 b=none)/\W i m acc H2:=λ{H9 s9 acc'} I9 ⟨m',hm,w9⟩=>by
    have pin9:∀b∈fp,∀o,s5.heap.get? b=some o->s9.heap.get? b=some o/\H9 b=none:=λ b hb o e=>by
     have z:=I9.pin (b,o) (zA1 _ (zA1 _ (fQ hb e)));exact⟨z.1,z.2.1⟩
    refine⟨m',hm,i+1,acc',H9,I9.unpinned.weak (by rw[aAB]) (λ k v e=>?_),T.keep _ _ _ st5 λ b hb o e=>(pin9 b hb o e).1,λ b hb=>?_,w9⟩
    .have hk:k<(st Z).length:=(zAK.mp e).1
     have hkN:k<N.length:=by rw[<-B.len Z];exact hk
     obtain⟨_,hks,_⟩:=B.val Z k _ v (zAB hkN) e;rw[ag6 k hks];exact e
    .obtain⟨o,e,_⟩:=T.obj _ _ st5 b hb
     exact(pin9 b hb o e).2
   cases ok with
   |false=>
    rw[if_neg zAG]at q7 ⊢;exact again I7 q7
   |true=>
    rw[if_pos rfl]at q7 ⊢;refine thn (he C fp z0 H1 _ s7 Z6 H7 _ I7 q7) λ u8 s8 ⟨y,H8,I8,r8,hl8,q8⟩=>?_
    refine thn (qt _ s8 Z6 H8 (.ref z0.heap.objs.size) [y] (.ref z0.heap.objs.size) [u8] (λ _ H9=>H9=upd H8 z0.heap.objs.size (.lst (acc++[y]))) I8 rfl (.cons r8 .nil) ⟨_,acc,y,rfl,rfl,hl8,hz,rfl⟩) λ _ s9 ⟨_,H9,I9,_,e9⟩=>?_
    subst e9;exact again I9 q8
 exact codeAny_compStart_list (loop _ rfl) (T.self X.A 0 _ _ _ h01 (loop _ rfl))
def zE(I:Inv X pins Z H1 z0)(hfp:∀b∈fp,o5 X pins H1 b)(h:∃Z',Inv (X.block scope C N fp z0 H1) [] Z' H' s'):Inv X pins Z H' s':=by
 obtain⟨Z',J⟩:=h;exact I.call' (ch:=fp) J.os J.base J.hok J.bare λ b hb=>⟨(hfp b hb).2.2.2.1,(hfp b hb).2.1,(hfp b hb).2.2.2.2.1,(hfp b hb).2.2.2.2.2⟩
def aKB(B:cT X scope N st ks)(hc:X.calm=true)(hi:PI X tg iter wi)(hg:∀C fp z5 z4,PG (X.block scope C N fp z5 z4) tg g)(hgo:gw g ks)(ht:∀C fp z5 z4,wB (X.block scope C N fp z5 z4) ifs tt)
  (he:∀C fp z5 z4,PE (X.block scope C N fp z5 z4) elt te)(hs:∀x,zAx iter X.env x=pure x:=by intro _;rfl):PE X (.ListComp elt [⟨tg,iter,ifs,0⟩] scope pos) (tLC wi st g tt te):=by
 intro pins s Z H Q I h;have hcl:zEc scope X.env=pure (aZ scope X.env):=gR λ y hy hk=>I.ok.has _ (B.free y hy hk)
 rw[eval_ListComp];refine zDy (use:=none) rfl hs hcl B.kind B.loc (thn (hi pins s Z H _ I h) λ v s1 h1=>thn h1 λ itv s2 h2=>?_);obtain⟨it,fp,tn,J,H2,e,I2,T,st2,f2,hq⟩:=h2;subst e;refine aAC (RR:=λ acc C=>compPost (model X.prog X.w) X.A X.xe none (EP X pins Z Q) acc C) B hc hg hgo ht he I2 T st2 f2 hq ?_;intro D C H' s' hJ hCle q;have I3:=zE I2 f2 hJ;obtain⟨Z',J'⟩:=hJ;obtain⟨m,hn,_⟩:=id J'.loc;have hHC:H' C=none:=J'.free;refine⟨m,hn,λ h'' hs''=>⟨.ref D,H',?_,rfl,q⟩⟩;exact I3.turned (t':=s'.toks) (λ b o ne e=>(hs''.2 b ne).trans e) hHC (zCn (zAS I2.lt hCle)) (.inr (zAk I2.sz hCle))
  (λ x c e z=>by obtain⟨v,ic⟩:=I2.cell x c e;exact absurd (zAS ic.lt (by rw[z];exact hCle)) (zBe _))
  (λ p hp z=>absurd (zAS (I2.pinL hp) (by rw[z];exact hCle)) (zBe _))
def zg(hN:X.N.Nodup)(hx1:X.N[i]? =some x)(hx2:Loc X.env.scope x)(B:cT X scope N st ks)(hc:X.calm=true)(hi:PI X tg iter wi)(hg:∀C fp z5 z4,PG (X.block scope C N fp z5 z4) tg g)(hgo:gw g ks)
  (ht:∀C fp z5 z4,wB (X.block scope C N fp z5 z4) ifs tt)(he:∀C fp z5 z4,PE (X.block scope C N fp z5 z4) elt te)(hsw:zC3 (.ListComp elt [⟨tg,iter,ifs,0⟩] scope pos) (some (.Name x pos')) spos.line X.env=pure true)
  (hs:∀x,zAx iter X.env x=pure x:=by intro _;rfl)(hf:X.fn x=true\/X.env.scope.names.lookup x=some .local:=by first|exact .inl rfl|exact .inr rfl|assumption):
  PS X (.Assign [.Name x pos'] (.ListComp elt [⟨tg,iter,ifs,0⟩] scope pos) spos) (zP (tLC wi st g tt te) (lH i)):=by
 intro pins s Z H D I h;have hcl:zEc scope X.env=pure (aZ scope X.env):=gR λ y hy hk=>I.ok.has _ (B.free y hy hk)
 rw[zGw _ _ _ _ hsw];refine zAC (zC1 (zAC ?_));show wpAny _ _ (do let _ <-comprehension (.ListComp elt [⟨tg,iter,ifs,0⟩] scope pos) scope X.env _ (zG5 []) false (eval iter X.env) (some (zDw (.Name x pos') X.env))) _ _ s;refine zAC (zBF (zDy (use:=some (zDw (.Name x pos') X.env)) (Q:=λ _ s'=>SP X pins D .next s') rfl hs hcl B.kind B.loc (thn (hi pins s Z H _ I h) λ v s1 h1=>thn h1 λ itv s2 h2=>?_)) (λ _ s' hq=>zAI (zAI hq)) λ _ _ e=>e);obtain⟨it,fp,tn,J,H2,e,I2,T,st2,f2,hq⟩:=h2;subst e;refine aAC (Q:=λ x H1=>lH i x Z H1 D.nx) (RR:=λ acc C=>compPost (model X.prog X.w) X.A X.xe (some (zDw (.Name x pos') X.env)) (λ _ s'=>SP X pins D .next s') acc C) B hc hg hgo ht he I2 T st2 f2 hq ?_;intro DD C H' s' hJ hCle q;have I3:=zE I2 f2 hJ;obtain⟨Z',J'⟩:=hJ;obtain⟨m,hn,_⟩:=id J'.loc;have hHC:H' C=none:=J'.free;have neL:C≠X.env.locals:=zCn (zAS I2.lt hCle);have neC:∀x c,X.env.cells.lookup x=some c->c≠C:=λ x c e z=>by obtain⟨v,ic⟩:=I2.cell x c e;exact absurd (zAS ic.lt (by rw[z];exact hCle)) (zBe _)
 show wpAny _ _ (zDw (.Name x pos') X.env (.ref DD)) _ _ _;refine zF3 ?_;refine qU I3 hN hx1 hx2 (show RelV (.ref DD) (.ref DD)from rfl) (λ s4 I4 ⟨a,hsa,ha⟩=>?_) hf;have nea:C≠a:=by
  rcases ha with z|z
  .rw[z];exact neL
  .exact zDe (neC _ _ z)
 refine⟨m,hn.sameBut hsa nea,λ h'' hs''=>⟨_,H',?_,q⟩⟩;exact I4.turned (t':=s4.toks) (λ b o ne e=>(hs''.2 b ne).trans e) hHC neL (.inr (zAk I2.sz hCle)) neC
  (λ p hp z=>absurd (zAS (I2.pinL hp) (by rw[z];exact hCle)) (zBe _))
end
def CX1(P:zAY)(w:World):CXT:=λ outer H s E e s'=>∃(ea:Addr) (cls a0:Value) (B:Heap) (H':Hp),e= .ref ea/\s'.os=s.os/\zEU s'.gens/\Un (frs outer) [] H H' s.heap s'.heap/\HOk P w H' B/\zH1 B outer ea cls a0 s'.heap/\
 (∀b o,s.heap.get? b=some o->H b=none->b∉frs outer->B.get? b=some o)/\(∀b o,s.heap.get? b=some o->b∉frs outer->∃o',B.get? b=some o')/\E cls none H'
structure cR(X:Cx)(E:XK):Prop where
 stk:X.stack=X.env::X.outer
 fr:X.env.frame=some X.env.locals
 ex:X.ex=[]
 xe:X.xe=λ e s'=>wpAny (model X.prog X.w) X.A (leaving X.env e) (λ _ s''=>CX1 X.prog X.w X.outer X.z4 X.z5 E e s'') (λ e' s''=>CX1 X.prog X.w X.outer X.z4 X.z5 E e' s'') s'
def cR.of{K:zAA}:
  cR (su (CX1 P w) P w K mg base N qual scope f cd A outer z5 z4 E) E:=⟨rfl,rfl,rfl,rfl⟩
section
variable{X:Cx}{E:XK}
def aFG{B h':Heap}(hX:X.ex=[])(I:Inv X pins Z H s)
  (a1:∀b o,s.heap.get? b=some o->H b=none->b∉frs X.stack->B.get? b=some o)(a2:∀b o,s.heap.get? b=some o->b∉frs X.stack->∃o',B.get? b=some o')
  (a3:B.StaysIn h')(a4:∀b o,b∈frs X.outer->s.heap.get? b=some o->H b=none->(∀vs,o.data≠.fields vs)->∃sl,h'.get? b=some {o with slots:=sl})
  (a5:∀b o,s.heap.get? b=some o->H b=none->H' b=none)(a6:∀b xs,H b=some (.tup xs)->H' b=some (.tup xs))(a7:∀b o u,H b=some (.frz o u)->H' b=some (.frz o u))(a8:∀b ps,H b=some (.tbl ps)->∃more,H' b=some (.tbl (ps++more))):
  Un (frs X.outer) [] X.z4 H' X.z5.heap h'/\(∀b o,X.z5.heap.get? b=some o->X.z4 b=none->b∉frs X.outer->B.get? b=some o)/\(∀b o,X.z5.heap.get? b=some o->b∉frs X.outer->∃o',B.get? b=some o'):=by
 have nx:∀b,b∉X.ex:=λ b z=>by rw[hX]at z;cases z
 have noS:∀b o,X.z5.heap.get? b=some o->b∉frs X.outer->b∉frs X.stack:=λ b o e nf hb=>by
  rcases zAT.mp (I.stkSub b hb)with z|z
  .exact absurd z (zA6 (zAS (zAU e) I.ok.above))
  .exact nf z
 have bk:∀b o,X.z5.heap.get? b=some o->X.z4 b=none->b∉frs X.outer->B.get? b=some o:=λ b o e n nf=>
  a1 b o (I.base.keep b o e n nf (nx b)) (I.base.free b o e n (nx b)) (noS b o e nf)
 have ba:∀b o,X.z5.heap.get? b=some o->b∉frs X.outer->∃o',B.get? b=some o':=λ b o e nf=>by
  obtain⟨o1,e1⟩:=I.base.there b o e (nx b);exact a2 b o1 e1 (noS b o e nf)
 have sl:∀b o,X.z5.heap.get? b=some o->X.z4 b=none->b∈frs X.outer->∃sl,h'.get? b=some {o with slots:=sl}:=λ b o e n hb=>by
  obtain⟨sl1,e1⟩:=I.base.slot b o e n hb (nx b);obtain⟨_,o2,ho2,hnf⟩:=I.ok.funs.mem hb;rw[e]at ho2;cases ho2;obtain⟨sl2,e2⟩:=a4 b _ hb e1 (I.base.free b o e n (nx b)) hnf;exact⟨sl2,e2⟩
 refine⟨⟨λ b o e n nf _=>a3 b o (bk b o e n nf),λ b o e n hb _=>sl b o e n hb,λ b o e n _=>?_,λ b o e _=>?_,λ b xs e=>a6 b xs (I.base.tups b xs e),λ b o u e=>a7 b o u (I.base.frzs b o u e),λ b ps e=>?_⟩,bk,ba⟩
 .obtain⟨o1,e1⟩:=I.base.there b o e (nx b)
  exact a5 b o1 e1 (I.base.free b o e n (nx b))
 .by_cases hb:b∈frs X.outer
  .obtain⟨s2,e2⟩:=sl b o e (I.ok.frf b hb) hb
   exact⟨_,e2⟩
  .obtain⟨o',e'⟩:=ba b o e hb
   exact⟨o',a3 b o' e'⟩
 .obtain⟨m1,e1⟩:=I.base.tbls b ps e
  obtain⟨m2,e2⟩:=a8 b _ e1;exact⟨m1++m2,by rw[e2,zGL]⟩
def cR.pass(D:cR X E):oZ (CX1 X.prog X.w) X E:=by
 intro pins Z H s e s' I h;obtain⟨ea,cls,a0,B,H',rfl,os,bare,un,hok,fly,bk,ba,hE⟩:=h;rw[D.xe];have fly':=fly;rw[D.stk]at fly';have hfr:=I.ok.frames;rw[D.stk]at hfr;refine wpAny_leaves_onW (L:=X.env.locals) hfr D.fr fly' λ h' fl up=>?_
 have a4:∀b o,b∈frs X.outer->s.heap.get? b=some o->H b=none->(∀vs,o.data≠.fields vs)->∃sl,h'.get? b=some {o with slots:=sl}:=λ b o hb e n nf=>by
  have hb':b∈frs X.stack:=by
   rw[D.stk];unfold frs;rw[zBm,D.fr];exact zAX _ hb
  obtain⟨s1,e1⟩:=un.slot b o e n hb' (λ z=>nomatch z);obtain⟨s2,e2⟩:=up b _ e1 nf;exact⟨s2,e2⟩
 obtain⟨u1,u2,u3⟩:=aFG (B:=B) (h':=h') (H':=H') D.ex I bk ba fl.1 a4 (λ b o e n=>un.free b o e n (λ z=>nomatch z)) un.tups un.frzs un.tbls;exact⟨ea,cls,a0,B,H',rfl,os.trans I.os,bare,u1,hok,fl,u2,u3,hE⟩
def cR.raise(D:cR X E){ea:Addr}(I:Inv X pins Z H s)
  (hx:Heap.MadeExcOf s.heap h1 ea cls vs)(hE:E cls none H):X.xe (.ref ea) {s with heap:=h1}:=by
 rw[D.xe];have stk:s.heap.FunFrames X.base X.stack:=I.stack;have hin:∀env∈X.stack,∀a,env.frame=some a->a∈frs X.stack:=λ env he a ha=>zCH.mpr ⟨env,he,ha⟩
 have stk2:=zF8 stk hin;have hfr:=I.ok.frames;rw[D.stk]at hfr;have stk3:s.heap.FunFrames (zBv s.heap (frs X.stack)) (X.env::X.outer):=by rw[<-D.stk];exact stk2
 refine wpAny_leaves_madeW (L:=X.env.locals) (base:=zBv s.heap (frs X.stack)) hfr D.fr (λ b o q=>zD1 _ q) stk3 hx λ h' t fl tup bn up=>?_
 have hok:HOk X.prog X.w H (zBv s.heap (frs X.stack)):=λ a o e=>by
  refine(I.hok a o e).stay (λ b u hb q=>zCR _ q λ hm=>?_) (λ _ z=>z) λ _ _ z=>z
  have hn:=I.stkFree b hm;rcases hb with z|z
  .rw[z,e]at hn;cases hn
  .rw[z]at hn;cases hn
 obtain⟨u1,u2,u3⟩:=aFG (B:=zBv s.heap (frs X.stack)) (h':=h') (H':=H) D.ex I (λ b o e n nf=>zCR _ e nf) (λ b o e nf=>⟨o,zCR _ e nf⟩) fl.1
  (λ b o hb e n nf=>up b o (hx.keeps b o e) nf) (λ b o e n=>n) (λ _ _ e=>e) (λ _ _ _ e=>e) (λ b ps e=>⟨#[],by rw[e];simp⟩)
 exact⟨ea,cls,.ref t,_,H,rfl,I.os,I.bare,u1,hok,fl,u2,u3,hE⟩
def cR.own(D:cR X E):PassesOwn (model X.prog X.w) X.A X.env X.xe:=λ e s' h=>by
 rw[D.xe]at h ⊢;exact wpAny_leaving_again (SameStack.refl _) h
end
section
variable{P:zAY}{w:World}{K:zAA}{mg:Str->Option Value}{base:Heap}
def Fun.okX{st:Stmt}(F:Fun K x q st f fd)(S:aW N ps (aF st))(len:∀vs H Q E,sp vs H Q E->vs.length=ps.length)
  (hbody:∀(cdv:Value) (A:zAd) (outer:List Env) (s:zAD) (H:Hp) (vs:List V) (Q:VK) (E:XK),dM k (A.deeper (zCq q (aF st) s.heap.objs.size f cdv))->sp vs H Q E->
   ∃t,PSs (su (CX1 P w) P w K mg base N q (aF st) f cdv A outer s H E) (cH st) t/\t {nx:=λ _ H'=>Q .non H',rt:=Q} (start N vs) H):cY P w K mg base (CX1 P w) (k+1) f fd ps sp:=by
 obtain⟨oc,od,kV,doc,pm,an,cdv,ct,osl,rfl,lk,hcd⟩:=F.ex;exact aKT lk hcd S len λ A outer s H vs Q E hr hsp=>hbody cdv A outer s H vs Q E hr hsp
end
def bQ(K:zAA)(C:Addr):Prop:=zFW K C [.type "ValueError",.type "Exception",.type "BaseException",.type "object"] "ValueError.__new__"=true
def qm{K:zAA}(X:K.In h)(hm:mg x=some (.ref C))(q:bQ K C):OwnCls x C [.type "ValueError",.type "Exception",.type "BaseException",.type "object"] "ValueError.__new__" mg h:=by
 refine⟨hm,?_⟩;unfold bQ zFW at q;split at q
 .rename_i dd cd sl ho
  split at q
  .rename_i C' bm k0 k1 k2 k3 n k5 hm' hs
   simp only[zAQ,beq_iff_eq,zEh]at q;obtain⟨⟨⟨⟨⟨rfl,rfl⟩,hdel⟩,ht⟩,hok⟩,hni⟩:=q;obtain⟨nm,bs,mro,ns,qn,hd,sn,sub,ab,col,del⟩:=cd;dsimp only at hm' hdel hok hni;subst hm' hdel;have hsl:sl=#[k0,k1,k2,k3,some (.builtin "ValueError.__new__"),k5]:=by
    obtain⟨l⟩:=sl;simp only at hs;rw[hs]
   subst hsl;exact⟨bm,ns,nm,qn,bs,hd,sn,sub,ab,col,dd,k0,k1,k2,k3,k5,_,X _ _ ho,.of_isNs (PySem.W.isNs_of_in X hok),PySem.W.nsMap_none_of_in X hok hni,PySem.W.tail_of_in X ht⟩
  .cases q
 .cases q
def aHt(C:Addr)(E:XK)(ta:TA):TS:=λ _ Z H=>ta Z H λ vs H1=>vs.length<=zAV/\E (.ref C) none H1
section
variable{X:Cx}{E:XK}
def aDy(D:cR X E)(hc:X.calm=true){rest:List Expr}(hm:X.mg x=some (.ref C))(hC:bQ X.K C)(hg:Gl X x)
  (ha:PA X (y6::rest) ta)(he:zA2 (y6::rest) X.env=(false,eval y6 X.env)::zA2 rest X.env:=by rfl)
  (hplain:(zC2 cpos (zA2 rest X.env)).any (·.1)=false:=by rfl)(hd:Nd x:=by decide):
  PS X (.Raise (some (.Call (.Name x np) (y6::rest) [] cpos)) none pos) (aHt C E ta):=by
 intro pins s Z H DD I h;obtain⟨tl,NN,nm,q,bs,hdct,sn,sub,ab,col,dd,k0,k1,k2,k3,k5,mN,hCo,hN,hni,T⟩:=(qm (h:=X.base) I.mod.kin hm hC).obj;have FB:=PySem.F.excBase_ValueError;refine wpAny_Raise_call_subU (C:=C) (nm:=nm) (q:=q) (N:=NN) (bs:=bs) (bm:=tl) (hdct:=hdct) (sn:=sn) (sub:=sub) (ab:=ab) (col:=col) (dd:=dd) (k0:=k0) (k1:=k1) (k2:=k2) (k3:=k3) (k5:=k5)
  FB FB.hasB FB (mN:=mN) (T.hasType FB.hasBase) (I.ok.hd hc) (by rw[he];show(false||(zC2 cpos (zA2 rest X.env)).any (·.1))=false;rw[hplain];rfl) hni
  (m6 I hg hm ⟨rfl,?_⟩ hd)
 have harg:=ha cpos pins s Z H _ I h;rw[he]at harg ⊢;refine zFv (zBF harg (λ vs z0 y4=>?_) λ _ _ y=>y);obtain⟨xs,H2,I2,rv,hz,hE⟩:=y4;refine⟨rfl,by show vs.length<=zAV;rw[<-rv.length];exact hz,I2.bk _ _ hCo,hN.keeps I2.bk,T.keeps I2.bk,λ h' ea hx=>D.raise I2 hx hE⟩
end
section
variable{κ:Type}[DecidableEq κ]
end
end L2
namespace Att
open PySem PySem.W PySem.Calls PyProof.Rows
end Att
namespace L2
open PySem PySem.Spec PyProof.Rows
section
variable{κ:Type}[DecidableEq κ]
end
def vo{pos:Pos}{a b:Int}{c cv:Value}(l:List Value)(h:TriplesOk l)(e:zFJ pos (l++[rawInt a,rawInt b,c])=some cv):zFJ pos l=some cv\/cv=c:=by
 fun_induction TriplesOk l with
 |case1=>
  simp only[zBp,zFJ,rawInt]at e;split at e
  .exact .inr (zAn e).symm
  .cases e
 |case2 a' t b' u x rest ih=>
  simp only[zEu,zFJ]at e ⊢;split at e
  .rename_i hc;rw[if_pos hc];exact .inl e
  .rename_i hc;rw[if_neg hc];exact ih h e
 |case3 l h1 h2=>exact h.elim
abbrev Cx.noT(X:Cx):Cx:={X with ta:=[]}
section
variable{X:Cx}{pins:List (Addr×Obj)}{Z:St}{H:Hp}{s:zAD}
theorem Inv.noT(I:Inv X pins Z H s):Inv X.noT pins Z H s:=
 ⟨⟨I.ok.mod,I.ok.kind,I.ok.glob,I.ok.blt,I.ok.above,I.ok.inj,I.ok.has,I.ok.cab,I.ok.hd,I.ok.frames,I.ok.stk,I.ok.exf,I.ok.bs,I.ok.bsz,I.ok.noex,I.ok.exfs,I.ok.funs,I.ok.frf⟩,
  I.os,I.bare,I.base,I.loc,I.cell,I.free,I.freeC,I.pin,I.hok,I.len,λ p hp=>absurd (show p∈([]:List (Addr×Obj))from hp) (by simp)⟩
def Inv.ofT{H':Hp}{s':zAD}(I:Inv X pins Z H s)(J:Inv X.noT pins Z H' s')(t:∀p∈X.ta,H' p.1=none/\p.1≠X.env.locals/\p.1∉X.fs/\(∀q∈X.pn++pins,q.1≠p.1)/\∃ps,s'.heap.get? p.1=some {cls:=.none,data:=.fields ps}/\TabOk X.tq H' ps):Inv X pins Z H' s':=
 ⟨I.ok,J.os,J.bare,J.base,J.loc,J.cell,J.free,J.freeC,J.pin,J.hok,J.len,t⟩
structure sV(X:Cx)(P:Addr):Prop where
 ta:∃o,X.ta=[(P,o)]
 ex:P∈X.ex
 tq:X.tq=X.env.qual++"<lambda>"
 code:∃c,X.env.code= .ref c/\zGg X.base c P
 blt:X.base.BuiltinsAt X.mg P
 gne:zA5≠P
def aAX(q:Str)(params:zDG)(body:Expr)(scope:Scope)(cl:List (Str×Addr))(pm:Value)(H:Hp)(f c':Addr)(ctv:Value):Prop:=
 H f=some (.frz (zCZ "<lambda>" q params body scope cl pm c' ctv) (.own f))/\∃oc,H c'=some (.frz oc (.own c'))/\aHi q oc
def aEc{P:Addr}{params:zDG}{body:Expr}{scope:Scope}{pos:Pos}{Q:Value->zAD->Prop}{E:Value->zAD->Prop}(Lx:sV X P)(I:Inv X pins Z H s)(hdef:zH9 params X.env=([],[]))
  (hfree:∀y∈scope.names,y.2= .free->X.env.kindOf y.1=some .cell\/X.env.kindOf y.1=some .free)
  (h:∀(f c':Addr) (ctv:Value) (H':Hp) (s':zAD),Inv X pins Z H' s'->aO H H'->aAX X.tq params body scope (aZ scope X.env) ((X.mg "__name__").getD .none) H' f c' ctv->Q (.ref f) s'):
  wpAny (model X.prog X.w) X.A (eval (.Lambda params body scope pos) X.env) Q E s:=by
 obtain⟨o0,hta⟩:=Lx.ta;obtain⟨c,hcode,hC⟩:=Lx.code;obtain⟨hPn,hPL,hPf,hPp,ps,hP,ht⟩:=I.tab (P,o0) (by rw[hta];exact zAN);dsimp only at hPn hPL hPf hPp hP;have hcl:zEc scope X.env=pure (aZ scope X.env):=gR λ y hy hk=>I.ok.has _ (hfree y hy hk)
 have hgs:s.heap.Ns zA5 X.mg:=by
  obtain⟨o,es,ep,e,r⟩:=I.ok.mod.glob;exact⟨o,es,ep,I.bk _ _ e,r⟩
 have hC':zGg s.heap c P:=hC.keeps I.bk;have hb:s.heap.BuiltinsAt X.mg P:=by
  obtain⟨bm,ob,b1,b2,b3,b4,b5,b6⟩:=Lx.blt;exact⟨bm,ob,b1,b2,b3,b4,I.bk _ _ b5,b6⟩
 refine PySem.W.kla_eval hdef ?_;rw[<-Lx.tq];cases hf:zFJ pos ps.toList with
 |some cv=>
  obtain⟨c',oc,rfl,hc',hco⟩:=ht.2 pos cv hf;refine PySem.W.kla_makeFunctionHit hcl I.ok.glob hgs hcode hC' hP ht.1 hf hb λ ctv h' tk k hsz=>?_
  have hfr:H h'.objs.size=none:=I.hok.fresh hsz;have sm:aO H (upd H h'.objs.size (.frz (zCZ "<lambda>" X.tq params body scope (aZ scope X.env) ((X.mg "__name__").getD .none) c' ctv) (.own h'.objs.size))):=λ b u e=>by rw[aU (bV e hfr)];exact e
  have I':=I.laid (h':=h'.push (zCZ "<lambda>" X.tq params body scope (aZ scope X.env) ((X.mg "__name__").getD .none) c' ctv)) (t':=tk) (a:=h'.objs.size) (o:=.frz (zCZ "<lambda>" X.tq params body scope (aZ scope X.env) ((X.mg "__name__").getD .none) c' ctv) (.own h'.objs.size)) (λ b u e=>zAE _ (k b u e)) hsz
   ⟨zA3 _ rfl,_,zA3 _ rfl⟩
  exact h _ c' ctv _ _ I' sm ⟨aX,oc,sm _ _ hc',hco⟩
 |none=>
  refine PySem.W.kla_makeFunction hcl I.ok.glob hgs hcode hC' hP ht.1 hf Lx.gne hb λ c' ctv h' tk hx hge hlt hrec htb=>?_
  obtain⟨c2,oc,vs,t,e2,hoc,hd,hv⟩:=hrec;cases e2;have hcn:H c'=none:=I.hok.fresh hge;have hfn:H h'.objs.size=none:=I.hok.fresh (zAk hge (zC8 hlt));have neT:∀b u,H b=some u->b≠c':=λ b u e=>bV e hcn
  have neP:∀b u,H b=some u->b≠P:=λ b u e=>bV e hPn
  have sm:aO H (upd H c' (.frz oc (.own c'))):=λ b u e=>by rw[aU (neT b u e)];exact e
  have hcne:∀x a,X.env.cells.lookup x=some a->a≠P:=λ x a e z=>by
   obtain⟨v,o,ho,hdd⟩:=I.cell x a e;rw[z,hP]at ho;cases ho;cases hdd
  have J:Inv X.noT pins Z (upd H c' (.frz oc (.own c'))) {s with heap:=h',toks:=tk}:=by
   refine I.noT.step (g':=s.gens) (d':=s.drawn) (ch:=[P]) (λ b hb'=>?_) (λ b o _ _ hc e _=>hx b o (λ z=>hc (by simp[z])) e) (λ b o _ _ hc e _=>⟨o.slots,hx b o (λ z=>hc (by simp[z])) e⟩)
    (λ b o _ e n=>by rw[aU (zA6 (zAS (zAU e) hge))];exact n) (λ b o hc e=>⟨o,hx b o (λ z=>hc (by simp[z])) e⟩)
    (λ b xs e=>sm _ _ e) (λ b o u e=>sm _ _ e) (λ b ps e=>⟨#[],by rw[sm _ _ e];simp⟩) (λ m hm=>hm.extBut hx (λ z=>hPL z.symm)) (λ b u e=>?_) I.bare
   .have e:b=P:=by simpa using hb'
    subst e;exact⟨.inl Lx.ex,hPL,λ x c e=>hcne x c e,λ p hp=>hPp p hp⟩
   .by_cases hbc:b=c'
    .subst hbc
     rw[aX]at e;cases e;exact⟨hoc,oc,hoc⟩
    .rw[aU hbc]at e
     refine(I.hok b u e).stay (λ d v hd' q=>hx d v ?_ q) (λ d q=>sm _ _ q) λ d xs q=>sm _ _ q
     rcases hd' with z|z
     .rw[z];exact neP b u e
     .exact neP d _ z
  have I':=I.ofT J λ p hp=>by
   rw[hta]at hp;have e:p=(P,o0):=by simpa using hp
   subst e;refine⟨by rw[aU (zA6 (zAS (zAU hP) hge))];exact hPn,hPL,hPf,hPp,_,htb,?_⟩;refine⟨?_,λ pos2 cv e=>?_⟩
   .rw[zAR]
    exact TriplesOk_snoc _ _ _ _ ht.1
   .rw[zAR]at e
    rcases vo _ ht.1 e with z|z
    .obtain⟨c2,oc2,z1,z2,z3⟩:=ht.2 pos2 cv z
     exact⟨c2,oc2,z1,sm _ _ z2,z3⟩
    .exact⟨c',oc,z,aX,vs,t,hd,hv⟩
  have hfr:upd H c' (.frz oc (.own c')) h'.objs.size=none:=by rw[aU (zCn hlt)];exact hfn
  have sm2:aO (upd H c' (.frz oc (.own c'))) (upd (upd H c' (.frz oc (.own c'))) h'.objs.size (.frz (zCZ "<lambda>" X.tq params body scope (aZ scope X.env) ((X.mg "__name__").getD .none) c' ctv) (.own h'.objs.size))):=λ b u e=>by rw[aU (bV e hfr)];exact e
  have I2:=I'.laid (h':=h'.push (zCZ "<lambda>" X.tq params body scope (aZ scope X.env) ((X.mg "__name__").getD .none) c' ctv)) (t':=tk) (a:=h'.objs.size) (o:=.frz (zCZ "<lambda>" X.tq params body scope (aZ scope X.env) ((X.mg "__name__").getD .none) c' ctv) (.own h'.objs.size)) (λ b u e=>zAE _ e) (zAP _)
   ⟨zA3 _ rfl,_,zA3 _ rfl⟩
  exact h _ c' ctv _ _ I2 (sm.trans sm2) ⟨aX,oc,sm2 _ _ aX,vs,t,hd,hv⟩
def aKe(q:Str)(params:zDG)(body:Expr)(scope:Scope)(cl:List (Str×Addr))(pm:Value):TE:=λ Z H Q=>∀f c' ctv H',aO H H'->aAX q params body scope cl pm H' f c' ctv->Q (.ref f) H'
def aI1{P:Addr}{params:zDG}{body:Expr}{scope:Scope}{pos:Pos}(Lx:sV X P)(hdef:zH9 params X.env=([],[]))
  (hfree:∀y∈scope.names,y.2= .free->X.env.kindOf y.1=some .cell\/X.env.kindOf y.1=some .free):PE X (.Lambda params body scope pos) (aKe X.tq params body scope (aZ scope X.env) ((X.mg "__name__").getD .none)):=
 λ pins s Z H Q I h=>aEc Lx I hdef hfree λ f c' ctv H' s' I' sm l=>⟨.ref f,H',I',rfl,h f c' ctv H' sm l⟩
end
def aA4(X:Cx)(k0:Nat)(i:Nat)(E:XK):TE:=λ Z H Q=>∃f cls dd sl fd k sp,Z[i]? =some (some (.ref f))/\H f=some (.frz ⟨cls,dd,.func fd,sl⟩ (.own f))/\cY X.prog X.w X.K X.mg X.base (CX1 X.prog X.w) k f fd [] sp/\k<=k0/\Binds X.K fd [] []/\sp [] H Q E
def aEC{X:Cx}{k0 i:Nat}{y:Str}{p pos:Pos}{E:XK}(hr:dM k0 X.A)(hx:oZ (CX1 X.prog X.w) X E)(hN:X.N[i]? =some y)(hv:Vis X.env.scope y)(hd:Nd y:=by decide)(hcd:(y==("__classdict__":Str))=false:=by decide):
  PE X (.Call (.Name y p) [] [] pos) (aA4 X k0 i E):=by
 intro pins s Z H Q I ⟨f,cls,dd,sl,fd,k,sp,hs,hf,F,hk,hb,h⟩;have fin:wpAny (model X.prog X.w) X.A (eval (.Name y p) X.env) (λ v s'=>v= .ref f/\s'=s) X.xe s:=by
  obtain⟨mm,hnn,hl⟩:=I.loc;obtain⟨u,ru,l⟩:=hl i y _ hN hs hv;cases ru;rcases l with ⟨hk2,hm⟩|⟨hk2,c,hc,hcell⟩
  .exact zEd (zHE I.ok.kind hk2 hnn hm ⟨rfl,rfl⟩) hd
  .rcases hk2 with hk2|hk2
   .exact zEd (zHK I.ok.kind hk2 hc hcell ⟨rfl,rfl⟩) hd
   .exact zEd (zHL I.ok.kind hk2 hc hcell ⟨rfl,rfl⟩ hcd) hd
 refine zCN (thn fin λ v s' ⟨ev,es'⟩=>?_);subst ev es';obtain⟨ho,_⟩:s'.heap.get? f=some _/\_:=I.hok f _ hf;have KX:PySem.W.Frag.In [(f,⟨cls,dd,.func fd,sl⟩)] s'.heap:=λ b o e=>by
  rw[zBA]at e;by_cases hbf:b=f
  .subst hbf
   simp only[beq_self_eq_true]at e;cases e;exact ho
  .simp only[beq_eq_false_iff_ne.mpr hbf]at e
   cases e
 exact PySem.W.callWith_K0 (K:=[(f,⟨cls,dd,.func fd,sl⟩)]) KX (by simp[zBl,zBA]) (aDe (us:=[]) F (hr.mono hk) hb .nil hx I .nil h)
def cxL(P:zAY)(w:World)(K:zAA)(mg:Str->Option Value)(base:Heap)(N:List Str)(q:Str)(scope:Scope)(cl:List (Str×Addr))(f:Addr)(cd:Value)(A:zAd)(outer:List Env)(s:zAD)(H:Hp)(E:XK):Cx where
 prog:=P
 w:=w
 K:=K
 mg:=mg
 base:=base
 A:=A.deeper (zCe q scope s.heap.objs.size f cd cl)
 N:=N
 z5:=s
 z4:=H
 env:=zCe q scope s.heap.objs.size f cd cl
 outer:=outer
 stack:=zCe q scope s.heap.objs.size f cd cl::outer
 ex:=[]
 calm:=true
 fn:=λ _=>false
 pn:=[]
 xe:=λ e s'=>wpAny (model P w) (A.deeper (zCe q scope s.heap.objs.size f cd cl)) (leaving (zCe q scope s.heap.objs.size f cd cl) e) (λ _ s''=>CX1 P w outer H s E e s'') (λ e' s''=>CX1 P w outer H s E e' s'') s'
def cR.ofL{P:zAY}{w:World}{K:zAA}{mg:Str->Option Value}{base:Heap}{N:List Str}{q:Str}{scope:Scope}{cl:List (Str×Addr)}{f:Addr}{cd:Value}{A:zAd}{outer:List Env}{s:zAD}{H:Hp}{E:XK}:
  cR (cxL P w K mg base N q scope cl f cd A outer s H E) E:=⟨rfl,rfl,rfl,rfl⟩
structure vU(scope:Scope):Prop where
 kind:scope.kind= .function
 co:scope.isCoroutine=false
 gen:scope.isGenerator=false
 cell:∀y∈scope.names,y.2≠.cell
 loc:∀y∈scope.names,y.2≠.local
structure aF6(base:Heap)(N:List Str)(Z:St)(scope:Scope)(cl:List (Str×Addr)):Prop where
 inj:∀x y c,cl.lookup x=some c->cl.lookup y=some c->x=y
 has:∀x,scope.names.lookup x=some .free->∃c,cl.lookup x=some c
 cell:∀x c,cl.lookup x=some c->∃v,base.IsCell c v
 val:∀(i:Nat) x v,N[i]? =some x->Z[i]? =some (some v)->scope.names.lookup x=some .free->∃c u,cl.lookup x=some c/\RelV v u/\base.IsCell c (some u)
 len:Z.length=N.length
def aIy{P:zAY}{w:World}{K:zAA}{mg:Str->Option Value}{base:Heap}{N:List Str}{q:Str}{params:zDG}{scope:Scope}{cl:List (Str×Addr)}{f c':Addr}{pm ctv:Value}{body:Expr}{k:Nat}{Z:St}{H1:Hp}{sp:Sp}
  (la:aAX q params body scope cl pm H1 f c' ctv)(S:vU scope)(cp:aF6 base N Z scope cl)
  (len:∀vs H Q E,sp vs H Q E->vs=[]/\aO H1 H)
  (hbody:∀(A:zAd) (outer:List Env) (s:zAD) (H:Hp) (Q:VK) (E:XK),dM k (A.deeper (zCe q scope s.heap.objs.size f (.ref c') cl))->sp [] H Q E->∃te,PE (cxL P w K mg base N q scope cl f (.ref c') A outer s H E) body te/\te Z H Q):
  cY P w K mg base (CX1 P w) (k+1) f (zFF "<lambda>" q params body scope cl pm (.ref c') ctv) [] sp:=by
 refine⟨λ vs H Q E h=>by rw[(len vs H Q E h).1];rfl,λ A outer s H args us vs Q E hr e0 hb r hsp=>?_⟩;obtain⟨rfl,hsm⟩:=len _ _ _ _ hsp;obtain⟨te,hpe,hte⟩:=hbody A outer s H Q E (hr.deeper _) hsp;have hlim:s.heap.NoLimit:=e0.mod.nolimit.keeps λ b o e=>(e0.bs b o e).1
 obtain⟨hf,oc,hc,hco⟩:=la;obtain⟨ho,_⟩:s.heap.get? f=some _/\_:=e0.hok f _ (hsm _ _ hf);obtain⟨hoc,_⟩:s.heap.get? c'=some oc/\_:=e0.hok c' _ (hsm _ _ hc);obtain⟨vs,t,hd,hv⟩:=hco;refine PySem.W.kla_callFunE hr.depth ho rfl S.co S.gen rfl ⟨c',oc,vs,t,rfl,hoc,hd,hv⟩ (hb _ _ _ _ ?_);refine wpAny_newFunctionEnv S.cell (by intro y hy;simp at hy) (λ zI hns hsb=>?_) S.kind;have hk₁:∀b o,s.heap.get? b=some o->zI.get? b=some o:=λ b o e=>hsb.extBut b o (zA6 (zAU e)) (zAE _ e)
 refine⟨hlim.keeps hk₁,?_⟩;show zBs _ _ (.expr body (zCe q scope s.heap.objs.size f (.ref c') cl)) _ _;have kb:∀b o,base.get? b=some o->zI.get? b=some o:=λ b o e=>hk₁ b o (e0.bs b o e).1
 have I:Inv (cxL P w K mg base N q scope cl f (.ref c') A outer s H E) [] Z H {s with heap:=zI,toks:=s.toks+(([]:List Str).zip us).length}:=by
  refine⟨⟨e0.mod,S.kind,rfl,rfl,zAP _,cp.inj,λ x hx=>?_,λ x c z=>absurd z zAG,λ _=>hr.hd,zFk e0.frames,.inr ⟨rfl,rfl⟩,λ b z=>(nomatch z),e0.bs,e0.bsz,λ b _ _=>λ z=>(nomatch z),λ b z=>(nomatch z),e0.funs,e0.frf⟩,
   rfl,e0.bare,Un.kept hk₁,⟨_,hns,λ i x v e1 e2 e3=>?_⟩,λ x c e=>?_,e0.hok.fresh (zAP _),λ x c e=>?_,λ p hp=>(nomatch hp),e0.hok.kept hk₁,cp.len,λ p hp=>(nomatch hp)⟩
  .rcases hx with z|z
   .exact absurd rfl (S.cell _ (zAl z))
   .exact cp.has x z
  .rcases e3 with z|z|z
   .exact absurd rfl (S.loc _ (zAl z))
   .exact absurd rfl (S.cell _ (zAl z))
   .obtain⟨c,u,c1,c2,c3⟩:=cp.val i x v e1 e2 z
    exact⟨u,c2,.inr ⟨.inr z,c,c1,c3.keeps kb⟩⟩
  .obtain⟨v,z⟩:=cp.cell x c e
   exact⟨v,z.keeps kb⟩
  .obtain⟨v,o,z,_⟩:=cp.cell x c e
   exact(e0.bs c o z).2
 refine PySem.W.kla_codeExpr (zBF (hpe [] _ Z H _ I hte) (λ u s' hq=>?_) λ e s' hq=>hq);obtain⟨v,H',J,rv,q⟩:=hq;exact⟨v,H',J.os,J.bare,J.base,J.hok,rv,q⟩
def bse(X:Cx)(s:zAD)(H:Hp):Heap:=zBv s.heap (trk s.heap H++frs X.stack)
section
variable{X:Cx}{pins:List (Addr×Obj)}{Z:St}{H:Hp}{s:zAD}
def aCQ{b:Addr}{o:Obj}(e:s.heap.get? b=some o)(n:H b=none)(nf:b∉frs X.stack):(bse X s H).get? b=some o:=
 zCR _ e λ hm=>by
  rcases zAq.mp hm with z|z
  .have q:(H b).isSome=true:=(zBX.mp z).2
   rw[n]at q;cases q
  .exact nf z
def aJ2{b:Addr}{o:Obj}(e:(bse X s H).get? b=some o):s.heap.get? b=some o/\H b=none:=by
 have e1:=zD1 _ e;refine⟨e1,?_⟩;cases q:H b with
 |none=>rfl
 |some u=>
  have hm:b∈trk s.heap H++frs X.stack:=zA8 _ (zBX.mpr ⟨zBb.mpr (zAU e1),by rw[q];rfl⟩);have z:(zBv s.heap (trk s.heap H++frs X.stack)).get? b=none:=zDu _ hm;have e2:(zBv s.heap (trk s.heap H++frs X.stack)).get? b=some o:=e;rw[z]at e2;cases e2
def Inv.env1(I:Inv X pins Z H s):aAZ X.prog X.w X.K X.mg (bse X s H) X.A X.stack s H:=by
 have kb:∀b o,X.base.get? b=some o->(bse X s H).get? b=some o:=λ b o e=>aCQ (I.bs b o e).1 (I.bs b o e).2 λ hb=>by
  have z:=(I.stack.mem hb).1;rw[e]at z;cases z
 have ns:∀{b:Addr} {m:Str->Option Value},X.base.Ns b m->(bse X s H).Ns b m:=λ{b m} ⟨o,es,ep,e,r⟩=>⟨o,es,ep,kb _ _ e,r⟩
 refine⟨I.ok.frames,⟨I.mod.kin.keeps kb,ns I.mod.glob,?_,I.mod.nolimit.keeps kb⟩,λ b o e=>aJ2 e,zGH (zDv _ _),zF8 I.stack λ env he a ha=>zA1 _ (zCH.mpr ⟨env,he,ha⟩),I.stkFree,I.hok,I.bare⟩;obtain⟨mb,h1,h2⟩:=I.mod.blt;exact⟨mb,ns h1,h2⟩
def aFu{CX:CXT}{k:Nat}{f:Addr}{fd:zAt}{ps:List Str}{sp:Sp}{E:XK}{Q:VK}{vs:List V}{us:List Value}(I:Inv X pins Z H s)(F:cY X.prog X.w X.K X.mg (bse X s H) CX k f fd ps sp)(hr:dM k X.A)(hb:Binds X.K fd ps [])(hx:oZ CX X E)
  (r:Vals vs us)(h:sp vs H Q E):wpAny (model X.prog X.w) X.A (call (.ref f) us) (EP X pins Z Q) X.xe s:=by
 have hl:(us++[]).length=ps.length:=by rw[zA9,<-r.length];exact F.len _ _ _ _ h
 have hb':=hb s us I.kIn hl;rw[zA9]at hb';refine zF4 (zDB (F.run X.A X.stack s H ⟨us,[]⟩ us vs Q E hr I.env1 hb' r h) λ r s' hq=>?_);cases r with
 |error e=>exact hx pins Z H s e s' I hq
 |ok fl=>
  cases fl with
  |ret u=>exact I.after hq
  |next=>exact zAM hq
  |brk=>exact zAM hq
  |cont=>exact zAM hq
def aJ1{scope:Scope}(I:Inv X pins Z H s)(ho:X.outer=[])(S:vU scope)(hfree:∀y∈scope.names,y.2= .free->X.env.kindOf y.1=some .cell\/X.env.kindOf y.1=some .free):aF6 (bse X s H) X.N Z scope (aZ scope X.env):=by
 have cb:∀x c v,X.env.cells.lookup x=some c->s.heap.IsCell c v->(bse X s H).IsCell c v:=λ x c v e ⟨o,h1,h2⟩=>⟨o,aCQ h1 (I.freeC x c e) λ hb=>by
  rcases zAT.mp (I.stkSub c hb)with z|z
  .exact I.cne x c e z
  .have z2:c∈frs X.outer:=z
   rw[ho]at z2;exact absurd z2 (by simp[frs]),h2⟩
 have hk:∀x,scope.names.lookup x=some .free->X.env.kindOf x=some .cell\/X.env.kindOf x=some .free:=λ x hx=>hfree (x,.free) (zAl hx) rfl
 refine⟨λ x y c e1 e2=>I.ok.inj x y c (eE e1) (eE e2),λ x hx=>?_,λ x c e=>?_,λ i x v e1 e2 hx=>?_,I.len⟩
 .obtain⟨c,hc⟩:=I.ok.has x (hk x hx)
  exact⟨c,qI hx hc⟩
 .obtain⟨v,z⟩:=I.cell x c (eE e)
  exact⟨v,cb x c v (eE e) z⟩
 .obtain⟨m,hn,hl⟩:=I.loc
  obtain⟨u,ru,hu⟩:=hl i x v e1 e2 ((hk x hx).elim (λ z=>.inr (.inl z)) λ z=>.inr (.inr z));rcases hu with ⟨k,_⟩|⟨_,c,ec,ic⟩
  .rcases hk x hx with z|z
   .exact absurd (k.symm.trans z) (by decide)
   .exact absurd (k.symm.trans z) (by decide)
  .exact⟨c,u,qI hx ec,ru,cb x c _ ec ic⟩
end
abbrev bmV:List Value:=[.type "ValueError",.type "Exception",.type "BaseException",.type "object"]
section
variable{prog:zAY}{w:World}{A:zAd}{E:Value->zAD->Prop}{h:Heap}{g:Array zE6}{d:Drawn}{t:Nat}{os:OsState}{a:Addr}{o:Obj}
 {nm q:Str}{C N:Addr}{bs bm:List Value}{hdct:Bool}{sn:List Str}{sub:List Value}{ab:Bool}{col:Option Bool}{dd:Option Addr}{k0 k1 k2 k3 k5:Option Value}{newId:String}{K:zAA}
def aAR{R:zEZ->zAD->Prop}(hC:h.get? C=some (zEH nm q C N bs bm hdct sn sub ab col dd k0 k1 k2 k3 k5 newId))(T:OwnTail h bmV bm)
  (hx:h.get? a=some o)(hc:o.cls= .ref C)(hq:R (.ok (.ret (.ref C))) ⟨h,g,d,t,os⟩):
  zBs (model prog w) A (.call (.builtin "getset_descriptor.__get__") ⟨[.builtin "object.__class__",.ref a,.ref C],[]⟩) R ⟨h,g,d,t,os⟩:=by
 have hT5:(⟨h,g,d,t,os⟩:zAD).TypeIs (.builtin "object.__class__") "getset_descriptor":=zEO;have hcB:(zBx C::bm).contains (.type (".".intercalate ("object.__class__".cutAt '.').dropLast))=true:=by
  rw[F.owner_object_class,zE7,T.hasType (X:="object") (b:=true) (by decide+kernel)];rfl
 refine zD2 zGE.plain F.entry_gs_get (zGE.check _ _ _ _ _ _ _ _ hT5 (F.args_gs_get _ _ _) ?_)
 repeat (any_goals (first|assumption|(with_reducible refine zCW hx ?_;rw[hc])|(with_reducible refine zDa hC ?_;rw[hcB])|wp_step))
 refine⟨zGW _ (by decide+kernel),zDL F.entry_object_class ?_⟩
 repeat (any_goals (first|assumption|(with_reducible refine zCW hx ?_;rw[hc])|wp_step))
def yx{M:Model}{nameV:Value}{Q:Unit->zAD->Prop}(hC:h.get? C=some (zEH nm q C N bs bm hdct sn sub ab col dd k0 k1 k2 k3 k5 newId))(T:OwnTail h bmV bm)
  (hx:h.get? a=some o)(hc:o.cls= .ref C)(hq:Q () ⟨h,g,d,t,os⟩):wpAny M A (zEL "BaseException.__getattribute__" ⟨[.ref a,nameV],[]⟩) Q E ⟨h,g,d,t,os⟩:=by
 have hk:builtinKind "BaseException.__getattribute__"=some .slot:=by decide+kernel
 have hsplit:splitId "BaseException.__getattribute__"=some ("BaseException","__getattribute__"):=by decide+kernel
 have hcB:(zBx C::bm).contains (.type "BaseException")=true:=by rw[zE7,T.hasType (X:="BaseException") (b:=true) (by decide+kernel)];rfl
 have ha:=F.args_bexc_ga (.ref a) nameV;simp only[zEL,hk,hsplit];refine zAC ?_
 .unfold isInstance
  repeat (first|(with_reducible refine zCW hx ?_;rw[hc])|(with_reducible refine zDa hC ?_;rw[hcB])|wp_step)
  exact hq
def vp{tk:Tok}{Q:Fin->zAD->Prop}(hC:h.get? C=some (zEH nm q C N bs bm hdct sn sub ab col dd k0 k1 k2 k3 k5 newId))(T:OwnTail h bmV bm)(lk:∀M:Model,zEQ M h (zF2 (.ref C) "__class__") (some (.builtin "object.__class__")))
  (hx:h.get? a=some o)(hc:o.cls= .ref C)(hq:Q (.done (.ret (.ref C))) ⟨h,g,d,t,os⟩):
  wpAny (model prog w) A (zFR.«object.__getattribute__» ⟨[.ref a,.str "__class__" tk],[]⟩) Q E ⟨h,g,d,t,os⟩:=by
 have hT5:(⟨h,g,d,t,os⟩:zAD).TypeIs (.builtin "object.__class__") "getset_descriptor":=zEO;have f5:=zEO;have f6:=zGE.lookup;have f7:=F.slot_gs_set.lookup
 repeat (any_goals (first|assumption|(with_reducible refine zCW hx ?_;rw[hc])|with_reducible refine(lk _).here ?_|wp_step))
 refine aAR hC T hx hc ?_
 repeat (any_goals (first|assumption|wp_step))
def yw{Q:Option Value->zAD->Prop}(hC:h.get? C=some (zEH nm q C N bs bm hdct sn sub ab col dd k0 k1 k2 k3 k5 newId))(T:OwnTail h bmV bm)(lk:∀M:Model,zEQ M h (zF2 (.ref C) "__class__") (some (.builtin "object.__class__")))
  (lg:∀M:Model,zEQ M h (zF2 (.ref C) "__getattribute__") (some (.builtin "BaseException.__getattribute__")))(ln:∀M:Model,zEQ M h (zF2 (.ref C) "__getattr__") none)
  (hx:h.get? a=some o)(hc:o.cls= .ref C)(hq:Q (some (.ref C)) ⟨h,g,d,t+1,os⟩):wpAny (model prog w) A (getAttr? (.ref a) "__class__") Q E ⟨h,g,d,t,os⟩:=by
 have by_exc:∀{E:Value->zAD->Prop} {t:Nat} {tk:Tok} {Q:Value->zAD->Prop},Q (.ref C) ⟨h,g,d,t,os⟩->wpAny (model prog w) A (getAttrBy (.ref a) (.str "__class__" tk) false) Q E ⟨h,g,d,t,os⟩:=by
  intro E t tk Q hq;have FB:=PySem.F.excAttr_ValueError;have f3:=FB.ga.bind (.ref a);have hx0:(false&&onTheHeap (zDj "BaseException.__getattribute__"))=false:=rfl;have hx2:(zDj "BaseException.__getattribute__"==zDj "object.__getattribute__")=false:=by decide+kernel
  have hx1:(onTheHeap (zBx C)&&zDj "BaseException.__getattribute__"==zDj "object.__getattribute__")=false:=by rw[hx2];rfl
  repeat (any_goals (first|assumption|(with_reducible refine zCW hx ?_;rw[hc])|with_reducible refine(lg _).here ?_|with_reducible refine(ln _).here ?_|wp_step))
  refine zD2 FB.ga.plain F.entry_bexc_ga (yx hC T hx hc (vp hC T lk hx hc ?_))
  repeat (any_goals (first|assumption|wp_step))
 unfold getAttr? getAttrBy?
 repeat (any_goals (first|assumption|with_reducible apply by_exc|wp_step))
def aEg(hE:bQ K C)(ha:zBQ K (.ref C) "__class__"=some (some (.builtin "object.__class__")))(hgt:zBQ K (.ref C) "__getattribute__"=some (some (.builtin "BaseException.__getattribute__")))
  (hga:zBQ K (.ref C) "__getattr__"=some none):PySem.W.KitX K (.ref a) (.ref C) (λ h=>∃o,h.get? a=some o/\o.cls= .ref C) where
 ty:=λ M h _ ⟨o,h1,h2⟩=>h2▸(zH3 h1).andThen .now
 it:=λ M h X _=>by
  obtain⟨bm,NN,nm,q,bs,hdct,sn,sub,ab,col,dd,k0,k1,k2,k3,k5,mN,hC,_⟩:=(qm (h:=h) (mg:=λ _=>some (.ref C)) (x:="x") X rfl hE).obj;intro A' Q' E' s' k q;unfold isType loadHead;exact zAC (wpAny_loadPart (k _ _ hC) (zAI q))
 ne:=λ h tp dd its n sl X htp=>by
  obtain⟨bm,NN,nm,q,bs,hdct,sn,sub,ab,col,dd,k0,k1,k2,k3,k5,mN,hC,_⟩:=(qm (h:=h) (mg:=λ _=>some (.ref C)) (x:="x") X rfl hE).obj;refine Bool.eq_false_iff.mpr λ z=>?_
  have e:C=tp:=Value.ref.inj (beq_iff_eq.mp z);subst e;rw[hC]at htp;exact absurd (congrArg Obj.cls (zAn htp)) (by show zCk "type"≠zCk "tuple";decide+kernel)
 ca:=λ{prog w A E Q s} X ⟨o,h1,h2⟩ k=>by
  obtain⟨h,g,d,t,os⟩:=s;obtain⟨bm,NN,nm,q,bs,hdct,sn,sub,ab,col,dd,k0,k1,k2,k3,k5,mN,hC,hN,hni,T⟩:=(qm (h:=h) (mg:=λ _=>some (.ref C)) (x:="x") X rfl hE).obj;exact yw hC T (λ M=>zDQ X ha) (λ M=>zDQ X hgt) (λ M=>zDQ X hga) h1 h2 k
end
def excφ(a C:Addr):Heap->Prop:=λ h=>∃o,h.get? a=some o/\o.cls= .ref C
def excφ_stay{a C:Addr}:∀h1 h2:Heap,excφ a C h1->(∀o,h1.get? a=some o->h2.get? a=some o)->excφ a C h2:=λ h1 h2 ⟨o,e,c⟩ k=>⟨o,k o e,c⟩
structure aHQ(K:zAA)(C:Addr):Prop where
 ex:bQ K C
 ca:zBQ K (.ref C) "__class__"=some (some (.builtin "object.__class__"))
 gt:zBQ K (.ref C) "__getattribute__"=some (some (.builtin "BaseException.__getattribute__"))
 ga:zBQ K (.ref C) "__getattr__"=some none
section
variable{X:Cx}
def aH0(K:zAA):List V->Hp->VK->Prop:=λ xs H Q=>∃a C y c b,xs=[.ref a,y]/\RelV y c/\H a=some (.ext (excφ a C))/\aHQ K C/\zBt K (.ref C) c=some b/\Q (.bl b) H
def aCy:eQ X (.builtin "isinstance") (aH0 X.K):=by
 intro pins s Z H xs us Q I r h;obtain⟨a,C,y,c,b,rfl,ry,ha,kc,e,q⟩:=h;obtain⟨u,w',rfl,r1,r2⟩:=vals2 r;cases r1;have hc:w'=c:=by
  cases y<;>first
   |(cases r2;cases ry;rfl)
   |(obtain⟨t1,rfl⟩:=r2;obtain⟨t2,rfl⟩:=ry;exact absurd e (by simp[zBt,PySem.W.kitCls]))
 subst hc;obtain⟨p,_⟩:excφ a C s.heap/\_:=I.hok a _ ha;exact zBP (aEg kc.ex kc.ca kc.gt kc.ga) I.kIn p e (λ z=>nomatch z) λ tk=>⟨.bl b,H,I.tok tk,rfl,q⟩
end
abbrev Cx.re(X:Cx)(A:zAd)(c:Bool)(pl:List (Addr×Obj))(E:Value->zAD->Prop):Cx:={X with A:=A,calm:=c,pn:=X.pn++pl,xe:=E}
section
variable{X:Cx}{pins:List (Addr×Obj)}{Z:St}{H:Hp}{s:zAD}
theorem Inv.re{A:zAd}{c:Bool}{E:Value->zAD->Prop}(I:Inv X pins Z H s)(hf:A.frames=X.A.frames)(hd:c=true->A.handled=none):Inv (X.re A c pins E) [] Z H s:=
 ⟨⟨I.ok.mod,I.ok.kind,I.ok.glob,I.ok.blt,I.ok.above,I.ok.inj,I.ok.has,I.ok.cab,hd,hf.trans I.ok.frames,I.ok.stk,I.ok.exf,I.ok.bs,I.ok.bsz,I.ok.noex,I.ok.exfs,I.ok.funs,I.ok.frf⟩,
  I.os,I.bare,I.base,I.loc,I.cell,I.free,I.freeC,λ p hp=>I.pin p (by rw[zA9]at hp;exact hp),I.hok,I.len,λ p hp=>let⟨a,b,c,d,e⟩:=I.tab p hp;⟨a,b,c,λ q hq=>d q (by rw[zA9]at hq;exact hq),e⟩⟩
def Inv.unre{A:zAd}{c:Bool}{E:Value->zAD->Prop}{pins2:List (Addr×Obj)}{Z2:St}{H2:Hp}{s2:zAD}(ok:X.Ok)(J:Inv (X.re A c pins E) pins2 Z2 H2 s2):Inv X pins Z2 H2 s2:=
 ⟨ok,J.os,J.bare,J.base,J.loc,J.cell,J.free,J.freeC,λ p hp=>J.pin p (zA8 _ hp),J.hok,J.len,λ p hp=>let⟨a,b,c,d,e⟩:=J.tab p hp;⟨a,b,c,λ q hq=>d q (zA8 _ hq),e⟩⟩
def Inv.track{a:Addr}{o:HO}(I:Inv X pins Z H s)(ha:H a=none)(h0:X.z5.heap.get? a=none)(hL:X.env.locals≠a)(hc:∀x c,X.env.cells.lookup x=some c->c≠a)(hp:∀p∈X.ta++(X.pn++pins),p.1≠a)
  (new:cM X.prog X.w (upd H a o) s.heap a o):Inv X pins Z (upd H a o) s:=by
 have ne:∀b u,H b=some u->b≠a:=λ b u e=>bV e ha
 refine⟨I.ok,I.os,I.bare,⟨I.base.keep,I.base.slot,λ b ob e n nx=>?_,I.base.there,λ b xs e=>?_,λ b ob u e=>?_,λ b ps e=>?_⟩,I.loc,I.cell,?_,λ x c e=>?_,λ p hp'=>?_,λ b u e=>?_,I.len,λ p hp'=>?_⟩
 .rw[aU (λ z=>by rw[z,h0]at e;cases e)]
  exact I.base.free b ob e n nx
 .have e1:=I.base.tups b xs e
  rw[aU (ne b _ e1)];exact e1
 .have e1:=I.base.frzs b ob u e
  rw[aU (ne b _ e1)];exact e1
 .obtain⟨m,e1⟩:=I.base.tbls b ps e
  exact⟨m,by rw[aU (ne b _ e1)];exact e1⟩
 .rw[aU hL];exact I.free
 .rw[aU (hc x c e)];exact I.freeC x c e
 .obtain⟨p1,p2,p3⟩:=I.pin p hp'
  exact⟨p1,by rw[aU (hp p (zA1 _ hp'))];exact p2,p3⟩
 .by_cases hb:b=a
  .subst hb;rw[aX]at e;cases e;exact new
  .rw[aU hb]at e
   exact(I.hok b u e).stay (λ c v _ q=>q) (λ c q=>by rw[aU (ne c _ q)];exact q) λ c xs q=>by rw[aU (ne c _ q)];exact q
 .obtain⟨n1,n2,n3,n0,ps,n4,n5⟩:=I.tab p hp'
  exact⟨by rw[aU (hp p (zA8 _ hp'))];exact n1,n2,n3,n0,ps,n4,n5.mono λ b o u e=>by rw[aU (ne b _ e)];exact e⟩
def Inv.gone{i:Nat}{n:Str}{h':Heap}{m:Str->Option Value}{v:Option Value}{tk:Nat}(I:Inv X pins Z H s)(hN:X.N.Nodup)(hi:X.N[i]? =some n)(hm:s.heap.Ns X.env.locals m)(hn:h'.Ns X.env.locals λ x=>if x=n then v else m x)(hs:zFx X.env.locals s.heap h'):
  Inv X pins (Z.set i none) H {s with heap:=h',toks:=tk}:=by
 obtain⟨m0,hm0,hl⟩:=id I.loc;have cne:=I.cne;have em:m0=m:=by
  obtain⟨o1,es1,ep1,e1,d1,k1⟩:=hm0;obtain⟨o2,es2,ep2,e2,d2,k2⟩:=hm;rw[e1]at e2;cases e2;rw[d1]at d2;cases d2;funext x;exact(k1.2 x).symm.trans (k2.2 x)
 subst em;obtain⟨oL,_,_,hoL,_⟩:=id hm0;have keep:∀b o,b≠X.env.locals->s.heap.get? b=some o->h'.get? b=some o:=λ b o nb e=>(hs.2 b nb).trans e
 refine⟨I.ok,I.os,I.bare,⟨λ b o e n' hb hx=>?_,λ b o e n' hb hx=>?_,I.base.free,λ b o e hx=>?_,I.base.tups,I.base.frzs,I.base.tbls⟩,⟨_,hn,λ j y v' e1 e2 e3=>?_⟩,λ y c e=>?_,I.free,I.freeC,λ p hp=>?_,λ b u e=>?_,by simpa using I.len,λ p hp=>?_⟩
 .exact keep b o (zA6 (zAS (zAU e) I.ok.above)) (I.base.keep b o e n' hb hx)
 .obtain⟨sl,e1⟩:=I.base.slot b o e n' hb hx
  exact⟨sl,keep b _ (zA6 (zAS (zAU e) I.ok.above)) e1⟩
 .obtain⟨o',e1⟩:=I.base.there b o e hx
  exact⟨o',keep b _ (zA6 (zAS (zAU e) I.ok.above)) e1⟩
 .have hj:j≠i:=λ z=>by
   subst z;rw[List.getElem?_set]at e2;simp at e2
  rw[zB2 (zDe hj)]at e2;obtain⟨u,r,q⟩:=hl j y v' e1 e2 e3;refine⟨u,r,?_⟩;have yn:y≠n:=λ z=>hj (uW hN e1 (z▸hi))
  rcases q with ⟨k,e⟩|⟨k,c,e,z⟩
  .exact .inl ⟨k,by simp[yn,e]⟩
  .exact .inr ⟨k,c,e,z.sameBut hs (cne y c e)⟩
 .obtain⟨v',z⟩:=I.cell y c e
  exact⟨v',z.sameBut hs (cne y c e)⟩
 .obtain⟨p1,p2,p3,p4⟩:=I.pin p hp
  exact⟨keep _ _ p3 p1,p2,p3,p4⟩
 .refine(I.hok b u e).stay (λ c v' hc q=>keep c v' ?_ q) (λ _ q=>q) λ _ _ q=>q
  rintro rfl;rcases hc with z|z
  .rw[<-z,I.free]at e;cases e
  .rw[I.free]at z;cases z
 .obtain⟨n1,n2,n3,n0,ps,n4,n5⟩:=I.tab p hp
  exact⟨n1,n2,n3,n0,ps,keep _ _ n2 n4,n5⟩
end
section
variable{M:Model}{A:zAd}{E:Value->zAD->Prop}{h:Heap}{g:Array zE6}{d:Drawn}{t:Nat}{os:OsState}
variable{nm q:Str}{C N:Addr}{bs bm:List Value}{hdct:Bool}{sn:List Str}{sub:List Value}{ab:Bool}{col:Option Bool}{dd:Option Addr}{k0 k1 k2 k3 k5:Option Value}{newId:String}
variable{nm' q':Str}{C' N':Addr}{bs' bm':List Value}{hdct':Bool}{sn':List Str}{sub':List Value}{ab':Bool}{col':Option Bool}{dd':Option Addr}{k0' k1' k2' k3' k5':Option Value}{newId':String}
def vL{e:Addr}{oe:Obj}{Q:Bool->zAD->Prop}(hC:h.get? C=some (zEH nm q C N bs bm hdct sn sub ab col dd k0 k1 k2 k3 k5 newId))(hC':h.get? C'=some (zEH nm' q' C' N' bs' bm' hdct' sn' sub' ab' col' dd' k0' k1' k2' k3' k5' newId'))
  (he:h.get? e=some oe)(hcls:oe.cls= .ref C)(hb':bm'.contains (.type "BaseException")=true)(hs:(zBx C::bm).contains (.ref C')=true)
  (hq:Q true ⟨h,g,d,t,os⟩):wpAny M A (excMatches (.ref e) (.ref C')) Q E ⟨h,g,d,t,os⟩:=by
 have hcB:(zBx C'::bm').contains (.type "BaseException")=true:=by rw[zE7,hb',Bool.or_true]
 have f:=tc_notTuple;unfold excMatches
 repeat (first|(with_reducible refine zCW he ?_;rw[hcls])|with_reducible refine zCW hC' ?_|(with_reducible refine zDa hC' ?_;rw[hcB])|(with_reducible refine zDa hC ?_;rw[hs])|wp_step)
 exact hq
end
def cM.there{P:zAY}{w:World}{H:Hp}{h:Heap}{a:Addr}{o:HO}(x:cM P w H h a o):∃ob,h.get? a=some ob:=by
 cases o with
 |lst xs=>obtain⟨_,_,_,_,e⟩:=x;exact⟨_,e⟩
 |tup xs=>
  obtain⟨_,_,_,p⟩:=x;obtain⟨o,e,_⟩:=p;exact⟨_,e⟩
 |dK kvs=>obtain⟨_,_,_,_,o,_,_,e,_⟩:=x;exact⟨_,e⟩
 |dT kvs=>obtain⟨_,_,_,_,o,_,_,e,_⟩:=x;exact⟨_,e⟩
 |set S n=>obtain⟨o,_,_,_,e,_⟩:=x;exact⟨_,e⟩
 |ins C dx fs=>obtain⟨_,_,_,e,_⟩:=x;exact⟨_,e⟩
 |own y=>exact x
 |xd fs=>obtain⟨_,⟨_,_,_,e,_⟩,_⟩:=x;exact⟨_,e⟩
 |rng lo hi=>obtain⟨_,_,_,e⟩:=x;exact⟨_,e⟩
 |frz ob u=>obtain⟨e,_⟩:=x;exact⟨_,e⟩
 |tbl ps=>exact⟨_,show h.get? a=some _ from x⟩
 |met f y=>exact⟨_,show h.get? a=some _ from x⟩
 |ext φ=>obtain⟨_,e,_⟩:=x;exact e
def rA(K:zAA)(C C':Addr):Bool:=
 match K.lookup C with
 |some ⟨_,_,.cls cd,_⟩=>cd.mro.contains (.ref C')
 |_=>false
abbrev Cx.tr(X:Cx)(pins:List (Addr×Obj))(E':XK):Cx:=X.re X.A true pins λ e s'=>∃Z H s,Inv X pins Z H s/\CX1 X.prog X.w X.stack H s E' e s'
abbrev Cx.ha(X:Cx)(pins:List (Addr×Obj))(ea:Addr):Cx:=X.re (X.A.mark (some (.ref ea))) false pins λ _ _=>False
def aDU(X:Cx)(i:Nat)(C':Addr)(E':XK)(tb th:TS):TS:=λ D Z H=>tb D Z H/\∀cls H1,E' cls none H1->∃C,cls= .ref C/\bQ X.K C/\rA X.K C C'=true/\∀(Z1:St) (ea:Addr),Z1.length=X.N.length->H1 ea=none->
 th {nx:=λ Z' H'=>D.nx (Z'.set i none) H',rt:=D.rt,bk:=λ Z' H'=>D.bk (Z'.set i none) H',ct:=λ Z' H'=>D.ct (Z'.set i none) H'} (Z1.set i (some (.ref ea))) (upd H1 ea (.ext (excφ ea C)))
section
variable{X:Cx}{E E':XK}
def Cx.tr_ok{pins:List (Addr×Obj)}(J:(X.tr pins E').Ok):X.Ok:=
 ⟨J.mod,J.kind,J.glob,J.blt,J.above,J.inj,J.has,J.cab,λ _=>J.hd rfl,J.frames,J.stk,J.exf,J.bs,J.bsz,J.noex,J.exfs,J.funs,J.frf⟩
def Cx.tr_pass{pins:List (Addr×Obj)}:oZ (CX1 X.prog X.w) (X.tr pins E') E':=λ pins2 Z H s e s' I h=>⟨Z,H,s,Inv.unre (Cx.tr_ok I.ok) I,h⟩
def aDx(D:cR X E)(hc:X.calm=true)(hN:X.N.Nodup){i:Nat}{n:Str}(hi:X.N[i]? =some n)(hl:X.env.scope.names.lookup n=some .local){x:Str}{C':Addr}(hm:X.mg x=some (.ref C'))(hg:Gl X x)(hC':bQ X.K C')
  {body suite:List Stmt}{b₀:Stmt}{tb th:TS}{np hpos pos:Pos}(hb:∀pins,PSs (X.tr pins E') body tb)(hs:∀pins ea,PSs (X.ha pins ea) (b₀::suite) th)(hdb:Nd x:=by decide):
  PS X (.Try body [.ExceptHandler (some (.Name x np)) (some n) (b₀::suite) hpos] [] [] pos) (aDU X i C' E' tb th):=by
 intro pins s Z H DD I hh;obtain⟨h1,h2⟩:=hh;refine wpAny_Try_except (zBF (hb pins [] s Z H DD (I.re rfl λ _=>I.ok.hd hc) h1) (λ f s1 q=>?_) λ e s1 q=>?_)
 .cases f with
  |next=>
   obtain⟨Z',H',J,q⟩:=q;exact zE4 ⟨Z',H',Inv.unre I.ok J,q⟩
  |brk=>obtain⟨Z',H',J,q⟩:=q;exact⟨Z',H',Inv.unre I.ok J,q⟩
  |cont=>obtain⟨Z',H',J,q⟩:=q;exact⟨Z',H',Inv.unre I.ok J,q⟩
  |ret u=>obtain⟨v,Z',H',J,r,q⟩:=q;exact⟨v,Z',H',Inv.unre I.ok J,r,q⟩
 .obtain⟨Z1,H1,s0,J,ea,cls,a0,B,H2,rfl,os,bare,un,hok,fly,bk,ba,hE⟩:=q
  obtain⟨C,rfl,hC,hsub,hth⟩:=h2 cls H2 hE;have hfr:=I.ok.frames;rw[D.stk]at hfr;have fly':=fly;rw[D.stk]at fly';have mk:∀hh:Heap,zH1 B X.stack ea (.ref C) a0 hh->s1.heap.UpToSlots hh->Inv X pins Z1 H2 {s1 with heap:=hh}:=λ hh fl up=>by
   refine J.call' (ch:=[]) os ⟨λ b o e n nf _=>fl.1 b o (bk b o e n nf),λ b o e n hb _=>?_,un.free,λ b o e _=>?_,un.tups,un.frzs,un.tbls⟩ (λ a o e=>(hok a o e).stay (λ b u _ q=>fl.1 b u q) (λ _ z=>z) λ _ _ z=>z) bare (λ b z=>nomatch z)
   .obtain⟨s2,e2⟩:=un.slot b o e n hb (λ z=>nomatch z)
    obtain⟨_,o3,e3,nf⟩:=fly.2.2.1.mem hb;rw[e2]at e3;cases e3;obtain⟨s4,e4⟩:=up b _ e2 nf;exact⟨s4,e4⟩
   .by_cases hb:b∈frs X.stack
    .obtain⟨_,o3,e3,nf⟩:=fl.2.2.1.mem hb
     exact⟨o3,e3⟩
    .obtain⟨o',e'⟩:=ba b o e hb
     exact⟨o',fl.1 b o' e'⟩
  refine wpAny_looks_onW hfr D.fr fly' λ h3 held up3=>?_
  refine wpAny_landsW held λ h4 fly4 up4=>?_
  rw[<-D.stk]at fly4;have J4:=mk h4 fly4 (up3.trans up4);have K4:Inv (X.ha pins ea) [] Z1 H2 {s1 with heap:=h4}:=J4.re rfl (λ z=>nomatch z);obtain⟨ob4,he4,hc4⟩:=fly4.there;obtain⟨tl,NN,nm,q,bs,hdct,sn,sub,ab,col,dd,k0,k1,k2,k3,k5,mN,hCo,hNn,hni,T⟩:=(qm (h:=h4) (mg:=λ _=>some (.ref C)) (x:="x") J4.kIn rfl hC).obj;obtain⟨tl',NN',nm',q',bs',hdct',sn',sub',ab',col',dd',k0',k1',k2',k3',k5',mN',hCo',hNn',hni',T'⟩:=(qm (h:=h4) (mg:=λ _=>some (.ref C')) (x:="x") J4.kIn rfl hC').obj;have hmro:(zBx C::tl).contains (.ref C')=true:=by
   unfold rA at hsub;split at hsub
   .rename_i oc od cd sl ho
    have e:=J4.kIn _ _ ho;have e2:(some _:Option Obj)=some _:=e.symm.trans hCo;injection e2 with e2
    have e3:=congrArg Obj.data e2;injection e3 with e3
    subst e3;exact hsub
   .cases hsub
  refine wpAny_handleBy_cons (codeAny_handlers_test (m6 (X:=X.ha pins ea) K4 hg hm ?_ hdb)) (by intro q;cases q);refine vL hCo hCo' he4 hc4 (T'.hasType (X:="BaseException") (b:=true) (by decide+kernel)) hmro ?_;refine codeAny_handlers_suite_as ?_;refine lands_againW fly4 λ h5 fly5 up5=>?_
  have J5:=mk h5 fly5 ((up3.trans up4).trans up5);obtain⟨f1,f2,f3,oe,vs,T5,oT,ts,he5,⟨hcl5,h05⟩,hd5,_⟩:=id fly5;have nof:ea∉frs X.stack:=λ z=>by
   obtain⟨_,o3,e3,nf⟩:=f3.mem z;rw[he5]at e3;cases e3;exact nf vs hd5
  have inB:∀b o,s0.heap.get? b=some o->b∉frs X.stack->b≠ea:=λ b o e nf z=>by
   obtain⟨o',e'⟩:=ba b o e nf;rw[z,f2]at e';cases e'
  have hL:X.env.locals∈frs X.stack:=by
   rw[D.stk];unfold frs;rw[zBm,D.fr];exact zAN
  have h2n:H2 ea=none:=by
   cases e:H2 ea with
   |none=>rfl
   |some o=>
    obtain⟨ob,e'⟩:=(hok ea o e).there;rw[f2]at e';cases e'
  have J6:Inv X pins Z1 (upd H2 ea (.ext (excφ ea C))) {s1 with heap:=h5}:=by
   refine J5.track h2n ?_ (λ z=>nof (z▸hL)) (λ y c e z=>?_) (λ p hp z=>?_) ⟨⟨oe,he5,hcl5⟩,⟨oe,he5⟩,excφ_stay⟩
   .cases e:X.z5.heap.get? ea with
    |none=>rfl
    |some o=>
     obtain⟨o',e'⟩:=J.base.there ea o e (by rw[D.ex];exact λ z=>nomatch z);exact absurd rfl (inB ea o' e' nof)
   .obtain⟨v,o,ho,hd⟩:=J5.cell y c e
    rw[z]at ho;have e2:some o=some oe:=ho.symm.trans he5;cases e2;rw[hd]at hd5;cases hd5
   .have hh:∃o,s0.heap.get? p.1=some o/\p.1≠X.env.locals/\p.1∉X.fs:=by
     rcases zAq.mp hp with z|z
     .obtain⟨_,a,b,_,_,c,_⟩:=J.tab p z
      exact⟨_,c,a,b⟩
     .obtain⟨p1,p2,p3,p4,_⟩:=J.pin p z
      exact⟨_,p1,p3,p4⟩
    obtain⟨o,p1,p3,p4⟩:=hh;refine inB p.1 o p1 (λ w=>?_) z;rcases zAT.mp (J.stkSub p.1 w)with z|z
    .exact p3 z
    .exact p4 z
  have K6:Inv (X.ha pins ea) [] Z1 (upd H2 ea (.ext (excφ ea C))) {s1 with heap:=h5}:=J6.re rfl (λ z=>nomatch z);refine tX (X:=X.ha pins ea) (v:=.ref ea) K6 hN hi (.inl hl) rfl (λ s7 I7=>?_) (.inr hl);refine zBF (hs pins ea [] s7 _ _ _ I7 (hth Z1 ea J.len h2n)) (λ f s8 q8=>?_) λ _ _ z=>z.elim
  have goes:∀{Z':St} {H':Hp} {Q:zAD->Prop},Inv (X.ha pins ea) [] Z' H' s8->(∀s9,Inv X pins (Z'.set i none) H' s9->Q s9)->
    wpAny (model X.prog X.w) X.A (do bindName X.env n .none;unbindBehindTheSuite X.env n hpos) (λ _ s9=>Q s9) X.xe s8:=λ{Z' H' Q} K8 k=>by
   have J8:Inv X pins Z' H' s8:=Inv.unre I.ok K8;obtain⟨m,hmm,_⟩:=id J8.loc;refine wpAny_nameGoes_keeps hl hmm (by rw[I.ok.kind];rfl) λ h' v hn hsb=>k _ (Inv.gone J8 hN hi hmm hn hsb)
  cases f with
  |next=>obtain⟨Z',H',K8,q⟩:=q8;exact goes K8 λ s9 J9=>⟨_,_,J9,q⟩
  |brk=>obtain⟨Z',H',K8,q⟩:=q8;exact goes K8 λ s9 J9=>⟨_,_,J9,q⟩
  |cont=>obtain⟨Z',H',K8,q⟩:=q8;exact goes K8 λ s9 J9=>⟨_,_,J9,q⟩
  |ret u=>obtain⟨v,Z',H',K8,r,q⟩:=q8;exact goes K8 λ s9 J9=>⟨v,_,_,J9,r,q⟩
end
structure jD(k:Nat)(A:zAd):Prop where
 dp:A.depth+3*k+5<zEo
 un:A.units+16*k+200<cLine
def dM.h{k:Nat}{A:zAd}(r:dM k A):jD k A:=⟨r.dp,r.un⟩
theorem jD.mark{k:Nat}{A:zAd}{v:Option Value}(r:jD k A):jD k (A.mark v):=⟨r.dp,r.un⟩
def jD.mono{j k:Nat}{A:zAd}(r:jD k A)(h:j<=k):jD j A:=⟨by have:=r.dp;omega,by have:=r.un;omega⟩
theorem jD.deeper{k:Nat}{A:zAd}(r:jD (k+1) A)(env:Env):jD k (A.deeper env):=
 ⟨by have:=r.dp;show A.depth+1+3*k+5<_;omega,by have:=r.un;show A.units+3+16*k+200<_;omega⟩
theorem jD.depth{k:Nat}{A:zAd}(r:jD k A):A.depth<zEo:=by have:=r.dp;omega
abbrev aFS(A:zAd):zAd:={A with handled:=none}
structure FnH(P:zAY)(w:World)(K:zAA)(mg:Str->Option Value)(base:Heap)(k:Nat)(f:Addr)(fd:zAt)(ps:List Str)(sp:Sp):Prop where
 len:∀vs H Q E,sp vs H Q E->vs.length=ps.length
 run:∀(A:zAd) (outer:List Env) (s:zAD) (H:Hp) (args:Args) (us:List Value) (vs:List V) (Q:VK) (E:XK),jD k A->aAZ P w K mg base A outer s H->zGV s fd args (ps.zip us)->Vals vs us->sp vs H Q E->
  zBs (model P w) A (.call (.ref f) args) (CR CX0 outer P w H s Q E) s
abbrev cxH(P:zAY)(w:World)(K:zAA)(mg:Str->Option Value)(base:Heap)(N:List Str)(q:Str)(scope:Scope)(f:Addr)(cd:Value)(A:zAd)(outer:List Env)(s:zAD)(H:Hp):Cx:=
 (su CX0 P w K mg base N q scope f cd (aFS A) outer s H λ _ _ _=>False).re (A.deeper (zCq q scope s.heap.objs.size f cd)) false [] λ _ _=>False
section
variable{P:zAY}{w:World}{K:zAA}{mg:Str->Option Value}{base:Heap}
def Fun.okH{x q:Str}{st:Stmt}{f:Addr}{fd:zAt}{N ps:List Str}{k:Nat}{sp:Sp}(F:Fun K x q st f fd)(S:aW N ps (aF st))(len:∀vs H Q E,sp vs H Q E->vs.length=ps.length)
  (hbody:∀(cdv:Value) (A:zAd) (outer:List Env) (s:zAD) (H:Hp) (vs:List V) (Q:VK) (E:XK),jD k (A.deeper (zCq q (aF st) s.heap.objs.size f cdv))->sp vs H Q E->
   ∃t,PSs (cxH P w K mg base N q (aF st) f cdv A outer s H) (cH st) t/\t {nx:=λ _ H'=>Q .non H',rt:=Q} (start N vs) H):FnH P w K mg base (k+1) f fd ps sp:=by
 obtain⟨oc,od,kV,doc,pm,an,cdv,ct,osl,rfl,lk,hcd⟩:=F.ex;refine⟨len,λ A outer s H args us vs Q E hr e0 hb r hsp=>?_⟩;have KX:K.In s.heap:=e0.mod.kin.keeps λ b o e=>(e0.bs b o e).1
 have par:∀y∈ps.zip us,(aF st).names.lookup y.1=some .local\/((aF st).names.lookup y.1=some .cell/\((zCp (s.heap.objs.size+1) (aF st).names []).lookup y.1).isSome=true):=λ y hy=>
  (S.par y.1 (zCu (a:=y.1) (b:=y.2) hy).1).imp id λ z=>⟨z,zCw _ _ _ (.inl z)⟩
 refine zE0 hr.depth (KX _ _ lk) rfl S.co S.gen rfl (zES KX hcd) (hb _ _ _ _ (zDk S.kind par λ env he s1 x=>?_));cases he;refine⟨(e0.mod.nolimit.keeps λ b o e=>(e0.bs b o e).1).keeps x.toInCall.keep,zGu ?_⟩;obtain⟨t,ht,hq⟩:=hbody cdv A outer s H vs Q E (hr.deeper _) hsp;have e1:aAZ P w K mg base (aFS A) outer s H:=⟨e0.frames,e0.mod,e0.bs,e0.bsz,e0.funs,e0.frf,e0.hok,e0.bare⟩;have I0:Inv (su CX0 P w K mg base N q (aF st) f cdv (aFS A) outer s H λ _ _ _=>False) [] (start N vs) H s1:=qx S rfl e1 (len _ _ _ _ hsp) r x;have I1:Inv (cxH P w K mg base N q (aF st) f cdv A outer s H) [] (start N vs) H s1:=I0.re rfl (λ z=>nomatch z);refine zBF (ht [] s1 (start N vs) H _ I1 hq) (λ fl s' hs=>?_) λ e s' hs=>hs.elim
 cases fl with
 |ret u=>obtain⟨v,Z',H',J,rv,q⟩:=hs;exact⟨v,H',J.os,J.bare,J.base,J.hok,rv,q⟩
 |next=>obtain⟨Z',H',J,q⟩:=hs;exact⟨.non,H',J.os,J.bare,J.base,J.hok,rfl,q⟩
 |brk=>obtain⟨_,_,_,q⟩:=hs;exact q.elim
 |cont=>obtain⟨_,_,_,q⟩:=hs;exact q.elim
end
section
variable{X:Cx}{k:Nat}{f:Addr}{fd:zAt}{ps:List Str}{sp:Sp}{dvs:List V}{ds:List Value}{E:XK}{x:Str}{p pos:Pos}{e:Expr}{es:List Expr}{t:TA}
def aEK(F:FnH X.prog X.w X.K X.mg X.base k f fd ps sp)(hr:jD k X.A)(hg:Gl X x)(hm:X.mg x=some (.ref f))(hk:zBl X.K (.ref f)=true)(hb:Binds X.K fd ps ds)(hd:Vals dvs ds)
  (ha:PA X (e::es) t)(hdb:Nd x:=by decide)(he:zA2 (e::es) X.env=(false,eval e X.env)::zA2 es X.env:=by rfl)(hpl:(zC2 pos (zA2 es X.env)).any (·.1)=false:=by rfl):
  PE X (.Call (.Name x p) (e::es) [] pos) (zO sp dvs E t):=by
 intro pins s Z H Q I h;refine zCN (m6 I hg hm (zER (h₀:=X.base) I.ok.mod.kin hk (thn (ha pos pins s Z H _ I h) λ us s1 hz=>?_) he hpl) hdb);obtain⟨vs,H1,I1,r,q⟩:=hz;refine⟨I1.kIn,zF4 (zDB (F.run X.A X.stack s1 H1 ⟨us,[]⟩ (us++ds) (vs++dvs) Q E hr I1.env0 (hb s1 us I1.kIn ?_) (r.append hd) q) λ r' s' hq=>?_)⟩
 .rw[<-(r.append hd).length];exact F.len _ _ _ _ q
 .cases r' with
  |error e=>exact zAM hq
  |ok fl=>
   cases fl with
   |ret u=>exact I1.after hq
   |next=>exact zAM hq
   |brk=>exact zAM hq
   |cont=>exact zAM hq
end
def spW(wd:Addr->Option Str):Sp:=λ vs H Q _=>∃ea C w,vs=[.ref ea]/\H ea=some (.ext (excφ ea C))/\wd C=some w/\∀H',aO H H'->Q (.str w) H'
def spR(P:zAY)(w:World)(K:zAA)(mg:Str->Option Value)(base:Heap)(k0:Nat)(told:Str)(wd:Addr->Option Str):Sp:=λ vs H Q _=>∃f cls dd sl fd k sp,vs=[.ref f]/\H f=some (.frz ⟨cls,dd,.func fd,sl⟩ (.own f))/\cY P w K mg base (CX1 P w) k f fd [] sp/\k<=k0/\Binds K fd [] []/\
 sp [] H (λ _ H'=>Q (.str told) H') (λ c _ H1=>∃C wo,c= .ref C/\wd C=some wo/\∀H',aO H1 H'->Q (.str wo) H')
section
variable{X:Cx}{E:XK}{n0 n1 n2 few cn pe told:Str}{C' fc:Addr}{fdc:zAt}{kc k0:Nat}{wd:Addr->Option Str}
def aDk(D:cR X E)(hc:X.calm=true)(hN:X.N=[n0,n1,n2])(nd:X.N.Nodup)(l0:X.env.scope.names.lookup n0=some .local)(l1:X.env.scope.names.lookup n1=some .local)(l2:X.env.scope.names.lookup n2=some .local)(hf:∀x,X.fn x=true)
  (hm:X.mg few=some (.ref C'))(hg:Gl X few)(hC':bQ X.K C')(FC:FnH X.prog X.w X.K X.mg X.base kc fc fdc [pe] (spW wd))(hgc:Gl X cn)(hmc:X.mg cn=some (.ref fc))(hkc:zBl X.K (.ref fc)=true)(hbc:Binds X.K fdc [pe] [])
  (hr:dM k0 X.A)(hkk:kc<=k0)(hw:∀C w,wd C=some w->bQ X.K C/\rA X.K C C'=true){p1 p2 p3 p4 p5 p6 p7 p8 p9 p10 p11 p12 p13 p14 p15 p16:Pos}{j1:Nat}{vs:List V}{H:Hp}{Q:VK}{E0:XK}(h:spR X.prog X.w X.K X.mg X.base k0 told wd vs H Q E0)
  (d1:Nd few:=by decide)(d2:Nd cn:=by decide)(d3:Nd n0:=by decide)(d4:Nd n1:=by decide)(d5:Nd n2:=by decide)
  (d6:(n0==("__classdict__":Str))=false:=by decide)(d7:(n1==("__classdict__":Str))=false:=by decide)(d8:(n2==("__classdict__":Str))=false:=by decide):
  ∃t,PSs X [.Assign [.Name n1 p1] (.Constant (.str told) j1 p2) p3,.Try [.Expr (.Call (.Name n0 p4) [] [] p5) p6] [.ExceptHandler (some (.Name few p7)) (some n2) [.Assign [.Name n1 p8] (.Call (.Name cn p9) [.Name n2 p10] [] p11) p12] p13] [] [] p14,.Return (some (.Name n1 p15)) p16] t/\
   t {nx:=λ _ H'=>Q .non H',rt:=Q} (start X.N vs) H:=by
 obtain⟨f,cls,dd,sl,fd,k,sp,rfl,hH,F,hk,hb,hsp⟩:=h;have i0:X.N[0]? =some n0:=by rw[hN];rfl
 have i1:X.N[1]? =some n1:=by rw[hN];rfl
 have i2:X.N[2]? =some n2:=by rw[hN];rfl
 refine⟨_,dR (jy nd i1 (.inl l1) dN (hf:=.inl (hf _))) (dR (aDx (E':=λ c _ H1=>∃C wo,c= .ref C/\wd C=some wo/\∀H',aO H1 H'->Q (.str wo) H') D hc nd i2 l2 hm hg hC' (tb:=wH (aA4 X k0 0 λ c _ H1=>∃C wo,c= .ref C/\wd C=some wo/\∀H',aO H1 H'->Q (.str wo) H')) (th:=zP (zO (spW wd) [] E (jK (oA 2) qT)) (lH 1))
  (λ pins=>jw (pH (aEC (X:=X.tr pins _) hr Cx.tr_pass i0 (.inl l0) d3 d6))) (λ pins ea=>jw (jy (X:=X.ha pins ea) nd i1 (.inl l1) (aEK (X:=X.ha pins ea) FC ((hr.h.mono hkk).mark) hgc hmc hkc hbc .nil (aV (gq (X:=X.ha pins ea) i2 (.inl l2) d5 d8) cu) d2) (hf:=.inl (hf _)))) d1) (jw (uP (gq i1 (.inl l1) d4 d7)))),?_⟩
 have hs:start X.N [.ref f]=[some (.ref f),none,none]:=by rw[hN];rfl
 rw[hs];have e:(λ(_:V) H1=>Q (.str told) H1)=λ(_:V) H1=>aHs (oA 1) {nx:=λ _ H'=>Q .non H',rt:=Q} [some (.ref f),some (.str told),none] H1:=by
  funext v H1;exact propext ⟨λ q=>⟨_,rfl,q⟩,λ⟨v',e',q⟩=>by cases e';exact q⟩
 rw[e]at hsp;have key:aDU X 2 C' (λ c _ H1=>∃C wo,c= .ref C/\wd C=some wo/\∀H',aO H1 H'->Q (.str wo) H') (wH (aA4 X k0 0 λ c _ H1=>∃C wo,c= .ref C/\wd C=some wo/\∀H',aO H1 H'->Q (.str wo) H')) (zP (zO (spW wd) [] E (jK (oA 2) qT)) (lH 1))
  {nx:=aHs (oA 1) {nx:=λ _ H'=>Q .non H',rt:=Q},rt:=Q} [some (.ref f),some (.str told),none] H:=?_
 .exact key
 refine⟨⟨f,cls,dd,sl,fd,k,sp,rfl,hH,F,hk,hb,hsp⟩,λ c H1 ⟨C,wo,ec,hwd,hq⟩=>⟨C,ec,(hw C wo hwd).1,(hw C wo hwd).2,λ Z1 ea hl hn=>?_⟩⟩
 .rw[hN]at hl
  obtain⟨a,b,c,rfl⟩:∃a b c,Z1=[a,b,c]:=by
   match Z1,hl with
   |[a,b,c],_=>exact⟨a,b,c,rfl⟩
  refine⟨.ref ea,rfl,ea,C,wo,rfl,aX,hwd,λ H' sm=>⟨.str wo,rfl,hq H' λ b o e=>sm b o ?_⟩⟩;rw[aU (bV e hn)];exact e
end
def aA5(K:zAA)(c:V):TE:=tCB (aH0 K) (jK (oA 0) (jK (tC c) qT))
def lG(K:zAA):List V->TA
 |[]=>qT
 |c::cs=>jK (aA5 K c) (lG K cs)
def wG:List Str->TA
 |[]=>qT
 |x::xs=>jK (tC (.str x)) (wG xs)
def Kt(K:zAA)(C:Addr)(c:V)(b:Bool):Prop:=∃u,RelV c u/\zBt K (.ref C) u=some b
section
variable{K:zAA}{Z:St}{H:Hp}{ea C:Addr}
def xf{c:V}{b:Bool}{Q:VK}(hs:Z[0]? =some (some (.ref ea)))(hH:H ea=some (.ext (excφ ea C)))(hk:aHQ K C)(h:Kt K C c b)(q:Q (.bl b) H):aA5 K c Z H Q:=by
 obtain⟨u,r,e⟩:=h;exact⟨.ref ea,hs,ea,C,c,u,b,rfl,r,hH,hk,e,q⟩
theorem lU(hs:Z[0]? =some (some (.ref ea)))(hH:H ea=some (.ext (excφ ea C)))(hk:aHQ K C):∀{cs:List V} {bs:List Bool} {Q:List V->Hp->Prop},zFE (Kt K C) cs bs->Q (bs.map V.bl) H->lG K cs Z H Q
 |_,_,_,.nil,q=>q
 |_,_,_,.cons h r,q=>xf hs hH hk h (lU hs hH hk r q)
theorem tW:∀{l:List Str} {Q:List V->Hp->Prop},Q (l.map V.str) H->wG l Z H Q
 |[],_,q=>q
 |x::l,_,q=>tW (l:=l) (Q:=λ xs H2=>_) q
end
structure Wd(K:zAA)(c1 c2:V)(ks:List (List V))(ws:List Str)(C:Addr)(w:Str):Prop where
 k:aHQ K C
 q1:Kt K C c1 true
 q2:Kt K C c2 true
 bs:∃(b1 b2 b3 b4:List Bool) (j:Nat) (k1 k2 k3 k4:List V),ks=[k1,k2,k3,k4]/\zFE (Kt K C) k1 b1/\zFE (Kt K C) k2 b2/\zFE (Kt K C) k3 b3/\zFE (Kt K C) k4 b4/\(b1++b2++b3++b4).length<=100/\(b1++b2++b3++b4).count true=1/\
  (b1++b2++b3++b4)[j]? =some true/\(∀m,m<j->(b1++b2++b3++b4)[m]? =some false)/\ws[j]? =some w
section
variable{X:Cx}{n0 n1 n2 odd:Str}{c1 c2:V}{k1 k2 k3 k4:List V}{l1 l2:List Str}{a1 a2:Expr}{as1 as2 e1 e2 e3 e4 w1 w2:List Expr}{kw1 kw2:List zCy}{Q:VK}{H:Hp}{vs:List V}
 {p1 p2 p3 p4 p5 p6 p7 p8 p9 p10 p11 p12 p13 p14 p15 p16 p17 p18 p19 p20 p21 p22 p23 p24 p25 p26 p27 p28 p29 p30 p31 p32 p33 p34 p35 p36 p37 p38 p39 p40:Pos}{q1 q2 q3 q4 q5 q6 q7:Pos}{j1 j2 j3 j4 j5:Nat}{E0:XK}{wd:Addr->Option Str}
end
structure jY(d:Nat)(e tg iter:Expr)(ifs:List Expr)(body:Env->Addr->Sem Unit):Prop where
 under:∀(A:zAd) (it:Value) (D:Addr) (env:Env),A.under (.compLoop e d it (.ref D) env)=A
 den:∀(prog:zAY) (w:World) (it:Value) (D:Addr) (env:Env),(model prog w).den (.compLoop e d it (.ref D) env)=(zFi e d it (.ref D) env).onRaise (λ x=>do noteFrame x env;theTreesLotGoes x)
 turn:∀(it:Value) (D:Addr) (env:Env),zFi e d it (.ref D) env=(do
   zE3 iter.pos
   match <-zGU it with
   |none=>pure (.done .next)
   |some v=>
    zDM tg it v
    zDw tg env v
    let mut ok:=true
    for c in ifs do if ok then ok <-isTrue c env (eval c env)
    if ok then
     body env D
    again (.compLoop e d it (.ref D) env))
section
variable{s:zAD}{A:zAd}{prog:zAY}{w:World}{R:zEZ->zAD->Prop}
def kj{D:Addr}(hb:jY d e tg iter ifs body)(I:Nat->zAD->Prop)
  (one:∀n s,I n s->wpAny (model prog w) A (zGU it) (λ r zS=>match r with
   |none=>R (.ok .next) zS
   |some v=>wpAny (model prog w) A (zDM tg it v) (λ _ zS=>wpAny (model prog w) A (zDw tg env v) (λ _ z0=>
     wpAny (model prog w) A (forIn ifs true λ c r=>if r=true then do let ok <-isTrue c env (eval c env);pure (zB1 ok)else pure (zB1 r)) (λ ok zD=>if ok=true then wpAny (model prog w) A (body env D) (λ _ s₅=>∃m,m<n/\I m s₅) (λ _ _=>False) zD
      else∃m,m<n/\I m zD) (λ _ _=>False) z0) (λ _ _=>False) zS) (λ _ _=>False) zS) (λ _ _=>False) s)
  (n:Nat)(h:I n s):zBs (model prog w) A (.compLoop e d it (.ref D) env) R s:=by
 refine codeAny_loop rfl I (λ n s hJ=>?_) n h;rw[hb.under,hb.den];refine wpAny_noted ?_;rw[hb.turn];refine zAC (zC1 (zAC (zBF (one n s hJ) (λ r zS zI=>?_) λ _ _ h'=>h'.elim)));cases r with
 |none=>exact zAI zI
 |some v=>
  refine zAC (zBF zI (λ _ zS zI=>?_) λ _ _ h'=>h'.elim);refine zAC (zBF zI (λ _ z0 y4=>zAC (zBF y4 (λ ok zD yY=>?_) λ _ _ h'=>h'.elim)) λ _ _ h'=>h'.elim);cases ok with
  |false=>exact zAI (zFQ rfl yY)
  |true=>exact zAC (zBF yY (λ _ y7 h₄=>zAI ⟨rfl,h₄⟩) λ _ _ h'=>h'.elim)
end
def qO(d:Nat)(e:Expr):Prop:=∀{prog:zAY} {w:World} {A:zAd} {R:zEZ->zAD->Prop} {s:zAD} {it acc:Value} {env:Env},
  zBs (model prog w) A (.compLoop e d it acc env) R s->
  wpAny (model prog w) A (zGT it) (λ it' s'=>zBs (model prog w) A (.compLoop e d it' acc env) R s') (notedBy (model prog w) A env λ x s'=>R (.error x) s') s->
  zBs (model prog w) A (.compStart e d it acc env) R s
structure aF8(prog:zAY)(w:World)(mk:Sem Value)(obs:Obj->Prop)(o:Addr->HO):Prop where
 make:∀{A:zAd} {Q:Value->zAD->Prop} {E:Value->zAD->Prop} {s:zAD},(∀ob,obs ob->Q (.ref s.heap.objs.size) {s with heap:=s.heap.push ob})->wpAny (model prog w) A mk Q E s
 live:∀ob,obs ob->ob.isFreed=false
 ok:∀{H:Hp} {h:Heap} {a:Addr} {ob:Obj},obs ob->h.get? a=some ob->zDx<a->cM prog w H h a (o a)
def PB(X:Cx)(body:Env->Addr->Sem Unit)(tb:Addr->St->Hp->(Hp->Prop)->Prop):Prop:=
 ∀(D:Addr) (pins:List (Addr×Obj)) (s:zAD) (Z:St) (H:Hp) (Q:Hp->Prop),Inv X pins Z H s->tb D Z H Q->wpAny (model X.prog X.w) X.A (body X.env D) (λ _ s'=>∃H',Inv X pins Z H' s'/\Q H') X.xe s
def aKn(I:Inv X pins Z H s):zDx<s.heap.objs.size:=
 Nat.lt_trans (by decide) (I.mod.glob.keeps I.bk).lt
def aHv(o:Addr->HO)(wi:TI)(st:St->St)(g:TG)(tt:TT)(tb:Addr->St->Hp->(Hp->Prop)->Prop):TE:=λ Z H Q=>wi Z H λ J H1=>∀l,H1 l=none->∃W:Nat->Nat->Hp->Prop,(∃m,W 0 m (upd H1 l (o l)))/\
 ∀i m H2,W i m H2->((J.stop i H2/\Q (.ref l) H2)\/(J.go i H2/\∀x H3,J.yld i H2 x H3->g x (st Z) H3 λ Z4 H4=>tt Z4 H4 λ ok H5=>
  if ok=true then tb l Z4 H5 λ H6=>∃m',m'<m/\W (i+1) m' H6 else∃m',m'<m/\W (i+1) m' H5))
section
variable{X:Cx}{e tg iter:Expr}{ifs:List Expr}{scope:Scope}{N:List Str}{st:St->St}{ks:List Nat}{wi:TI}{g:TG}{tt:TT}{body:Env->Addr->Sem Unit}{tb:Addr->St->Hp->(Hp->Prop)->Prop}{pos:Pos}{mk:Sem Value}{obs:Obj->Prop}{o:Addr->HO}
def aFQ(B:cT X scope N st ks)(hc:X.calm=true)(hT:jY 0 e tg iter ifs body)(hS:qO 0 e)(hA:aF8 X.prog X.w mk obs o)(hg:∀C fp z5 z4,PG (X.block scope C N fp z5 z4) tg g)(hgo:gw g ks)(ht:∀C fp z5 z4,wB (X.block scope C N fp z5 z4) ifs tt)
  (he:∀C fp z5 z4,PB (X.block scope C N fp z5 z4) body tb){Q:VK}{RR:Value->Addr->zEZ->zAD->Prop}
  (I:Inv X pins Z H1 z0)(T:Turn X.prog X.w X.K tg J fp it tn)(h0:tn 0 z0.heap)(hfp:∀b∈fp,o5 X pins H1 b)
  (h:∀l,H1 l=none->∃W:Nat->Nat->Hp->Prop,(∃m,W 0 m (upd H1 l (o l)))/\
   ∀i m H2,W i m H2->((J.stop i H2/\Q (.ref l) H2)\/(J.go i H2/\∀x H3,J.yld i H2 x H3->g x (st Z) H3 λ Z4 H4=>tt Z4 H4 λ ok H5=>
    if ok=true then tb l Z4 H5 λ H6=>∃m',m'<m/\W (i+1) m' H6 else∃m',m'<m/\W (i+1) m' H5)))
  (hRR:∀D C H' s',(∃Z',Inv (X.block scope C N fp z0 H1) [] Z' H' s')->z0.heap.objs.size<=C->Q (.ref D) H'->RR (.ref D) C (.ok .next) s'):
  wpAny (model X.prog X.w) X.A mk (λ acc zD=>wpAny (model X.prog X.w) X.A (zEn scope X.env.globals (aZ scope X.env) [] X.env.qual none .none (some X.env)) (λ cenv y7=>
   zBs (model X.prog X.w) X.A (.compStart e 0 (.ref it) acc {cenv with scope:=zF1 scope X.env}) (RR acc cenv.locals) y7) E zD) E z0:=by
 refine hA.make λ ob hob=>aBz λ zI y9 zC y8=>?_
 dsimp only at y9 zC y8 ⊢;generalize hH2:z0.heap.push ob=P2 at y9 zC y8 ⊢;have hC:P2.objs.size=z0.heap.objs.size+1:=by rw[<-hH2,zCJ]
 have hDC:z0.heap.objs.size≠P2.objs.size:=by rw[hC];exact zA6 (zCj _)
 have hCle:z0.heap.objs.size<=P2.objs.size:=by rw[hC];exact zEW _
 have old:∀b o,z0.heap.get? b=some o->zI.get? b=some o:=λ b o e=>zC b o (hH2▸zAE _ e)
 have hacc:zI.get? z0.heap.objs.size=some ob:=zC _ _ (hH2▸zA3 _ (hA.live ob hob));generalize hCe:P2.objs.size=C at y9 zC y8 hDC hCle hC ⊢;have hHD:H1 z0.heap.objs.size=none:=I.hok.fresh (zAP _);have I0:Inv (X.block scope C N fp z0 H1) [] (st Z) (upd H1 z0.heap.objs.size (o z0.heap.objs.size)) {z0 with heap:=zI,toks:=z0.toks}:=
  I.block B hfp (λ b hb=>by obtain⟨o,e,_⟩:=T.obj 0 _ h0 b hb;exact⟨o,e⟩) (zAP _) hCle hDC old y9 y8 (λ c hc=>zA6 (zGf hCle hc)) (hA.ok hob hacc (aKn I))
 obtain⟨W,⟨m0,w0⟩,step⟩:=h _ hHD;have h01:tn 0 zI:=T.keep 0 _ _ h0 λ b _ o e=>old b o e
 have stat:∀{H':Hp},(∀b∈fp,H' b=none)->∀b∈fp,o5 (X.block scope C N fp z0 H1) [] H' b:=λ{H'} hn b hb=>
  ⟨hn b hb,(I0.ok.exf b hb).1,I0.ok.exfs b hb,.inl hb,λ x c e=>(I0.ok.exf b hb).2 x c e,λ p hp=>absurd (show p∈([]:List (Addr×Obj))from hp) (by simp)⟩
 have fr0:∀b∈fp,upd H1 z0.heap.objs.size (o z0.heap.objs.size) b=none:=λ b hb=>by
  obtain⟨o,e,_⟩:=T.obj 0 _ h0 b hb;rw[aU (zA6 (zAU e))];exact(hfp b hb).1
 have loop:∀sx:zAD,sx={z0 with heap:=zI,toks:=z0.toks}->
   zBs (model X.prog X.w) X.A (.compLoop e 0 (.ref it) (.ref z0.heap.objs.size) (X.block scope C N fp z0 H1).env) (RR (.ref z0.heap.objs.size) C) sx:=by
  rintro sx rfl;refine kj hT (λ n s'=>∃i H2,Inv (X.block scope C N fp z0 H1) [] (st Z) H2 s'/\tn i s'.heap/\(∀b∈fp,H2 b=none)/\W i n H2) ?_ m0 ⟨0,_,I0,h01,fr0,w0⟩;rintro n s3 ⟨i,H2,I2,st2,fr2,w2⟩;rcases step i n H2 w2 with ⟨stop,q⟩|⟨go,nxt⟩
  .refine thn (T.done (X.block scope C N fp z0 H1) rfl rfl rfl hc i [] s3 (st Z) H2 _ I2 (stat fr2) st2 stop) λ r s4 ⟨hr,I4⟩=>?_
   subst hr;exact hRR _ C H2 s4 ⟨_,I4⟩ hCle q
  .refine thn (T.item (X.block scope C N fp z0 H1) rfl rfl rfl hc i [] s3 (st Z) H2 _ I2 (stat fr2) st2 go) λ r s4 ⟨u,hr,h4⟩=>?_
   subst hr;refine thn h4 λ _ s5 ⟨x,H5,I5,r5,y5,st5,fr5⟩=>?_
   have I5p:=I5.pinned (stat fr5) (T.obj _ _ st5);refine thn (hg C fp z0 H1 _ s5 (st Z) H5 x u _ I5p r5 (hgo _ _ _ _ (nxt x H5 y5))) λ _ s6 ⟨Z6,H6,I6,q6,aAB,ag6⟩=>?_
   refine thn (ht C fp z0 H1 _ s6 Z6 H6 _ I6 q6) λ ok s7 ⟨H7,I7,q7⟩=>?_
   have again:∀{H9:Hp} {s9:zAD},Inv (X.block scope C N fp z0 H1) ([]++mJ fp s5.heap) Z6 H9 s9->(∃m',m'<n/\W (i+1) m' H9)->
     ∃m,m<n/\∃i H2,Inv (X.block scope C N fp z0 H1) [] (st Z) H2 s9/\tn i s9.heap/\(∀b∈fp,H2 b=none)/\W i m H2:=λ{H9 s9} I9 ⟨m',hm,w9⟩=>by
    have pin9:∀b∈fp,∀o,s5.heap.get? b=some o->s9.heap.get? b=some o/\H9 b=none:=λ b hb o e=>by
     have z:=I9.pin (b,o) (zA1 _ (zA1 _ (fQ hb e)));exact⟨z.1,z.2.1⟩
    refine⟨m',hm,i+1,H9,I9.unpinned.weak (by rw[aAB]) (λ k v e=>?_),T.keep _ _ _ st5 λ b hb o e=>(pin9 b hb o e).1,λ b hb=>?_,w9⟩
    .have hk:k<(st Z).length:=(zAK.mp e).1
     have hkN:k<N.length:=by rw[<-B.len Z];exact hk
     obtain⟨_,hks,_⟩:=B.val Z k _ v (zAB hkN) e;rw[ag6 k hks];exact e
    .obtain⟨o,e,_⟩:=T.obj _ _ st5 b hb
     exact(pin9 b hb o e).2
   cases ok with
   |false=>
    rw[if_neg zAG]at q7 ⊢;exact again I7 q7
   |true=>
    rw[if_pos rfl]at q7 ⊢;exact thn (he C fp z0 H1 _ _ s7 Z6 H7 _ I7 q7) λ _ s8 ⟨H8,I8,q8⟩=>again I8 q8
 exact hS (loop _ rfl) (T.self X.A 0 _ _ _ h01 (loop _ rfl))
def zj(hN:X.N.Nodup)(hx1:X.N[i]? =some x)(hx2:Loc X.env.scope x)(B:cT X scope N st ks)(hc:X.calm=true)(hi:PI X tg iter wi)(hg:∀C fp z5 z4,PG (X.block scope C N fp z5 z4) tg g)(hgo:gw g ks)
  (ht:∀C fp z5 z4,wB (X.block scope C N fp z5 z4) ifs tt)(hT:jY 0 e tg iter ifs body)(hS:qO 0 e)(hA:aF8 X.prog X.w mk obs o)(he:∀C fp z5 z4,PB (X.block scope C N fp z5 z4) body tb)(hsw:zC3 e (some (.Name x pos')) spos.line X.env=pure true)
  (hcs:clausesOf e=⟨tg,iter,ifs,0⟩::gs)(hev:∀use,evalThenUse e X.env use=(do let _ <-comprehension e scope X.env (firstIterPos (⟨tg,iter,ifs,0⟩::gs) pos) mk false (eval iter X.env) (some use)))(hs:∀x,zAx iter X.env x=pure x:=by intro _;rfl)(hf:X.fn x=true\/X.env.scope.names.lookup x=some .local:=by first|exact .inl rfl|exact .inr rfl|assumption):
  PS X (.Assign [.Name x pos'] e spos) (zP (aHv o wi st g tt tb) (lH i)):=by
 intro pins s Z H D I h;have hcl:zEc scope X.env=pure (aZ scope X.env):=gR λ y hy hk=>I.ok.has _ (B.free y hy hk)
 rw[zGw _ _ _ _ hsw];refine zAC (zC1 (zAC ?_));rw[hev];refine zAC (zBF (zDy (use:=some (zDw (.Name x pos') X.env)) (Q:=λ _ s'=>SP X pins D .next s') hcs hs hcl B.kind B.loc (thn (hi pins s Z H _ I h) λ v s1 h1=>thn h1 λ itv s2 h2=>?_)) (λ _ s' hq=>zAI (zAI hq)) λ _ _ e=>e);obtain⟨it,fp,tn,J,H2,e,I2,T,st2,f2,hq⟩:=h2;subst e;refine aFQ (Q:=λ x H1=>lH i x Z H1 D.nx) (RR:=λ acc C=>compPost (model X.prog X.w) X.A X.xe (some (zDw (.Name x pos') X.env)) (λ _ s'=>SP X pins D .next s') acc C) B hc hT hS hA hg hgo ht he I2 T st2 f2 hq ?_;intro DD C H' s' hJ hCle q;have I3:=zE I2 f2 hJ;obtain⟨Z',J'⟩:=hJ;obtain⟨m,hn,_⟩:=id J'.loc;have hHC:H' C=none:=J'.free;have neL:C≠X.env.locals:=zCn (zAS I2.lt hCle);have neC:∀x c,X.env.cells.lookup x=some c->c≠C:=λ x c e z=>by obtain⟨v,ic⟩:=I2.cell x c e;exact absurd (zAS ic.lt (by rw[z];exact hCle)) (zBe _)
 show wpAny _ _ (zDw (.Name x pos') X.env (.ref DD)) _ _ _;refine zF3 ?_;refine qU I3 hN hx1 hx2 (show RelV (.ref DD) (.ref DD)from rfl) (λ s4 I4 ⟨a,hsa,ha⟩=>?_) hf;have nea:C≠a:=by
  rcases ha with z|z
  .rw[z];exact neL
  .exact zDe (neC _ _ z)
 refine⟨m,hn.sameBut hsa nea,λ h'' hs''=>⟨_,H',?_,q⟩⟩;exact I4.turned (t':=s4.toks) (λ b o ne e=>(hs''.2 b ne).trans e) hHC neL (.inr (zAk I2.sz hCle)) neC
  (λ p hp z=>absurd (zAS (I2.pinL hp) (by rw[z];exact hCle)) (zBe _))
end
def tH(elt:Expr)(env:Env)(D:Addr):Sem Unit:=do let _ <-call (.builtin "list.append") [.ref D,<-eval elt env]
def aDT(te:TE):Addr->St->Hp->(Hp->Prop)->Prop:=λ D Z H Q=>te Z H λ y H1=>∃acc,H1 D=some (.lst acc)/\acc.length<zAV/\Q (upd H1 D (.lst (acc++[y])))
def aEM(he:PE X elt te):PB X (tH elt) (aDT te):=by
 intro D pins s Z H Q I h;unfold tH;refine zAC (thn (he pins s Z H _ I h) λ u s1 ⟨y,H1,I1,r1,acc,hD,hz,q⟩=>zAC ?_);refine thn (qt _ s1 Z H1 (.ref D) [y] (.ref D) [u] (λ _ H9=>H9=upd H1 D (.lst (acc++[y]))) I1 rfl (.cons r1 .nil) ⟨_,acc,y,rfl,rfl,hD,hz,rfl⟩) λ _ s2 ⟨_,H2,I2,_,e⟩=>?_
 subst e;exact zAI ⟨_,I2,q⟩
def aCU:aF8 prog w (zG5 []) (λ ob=>ob={cls:=.type "list",data:=.seq #[]}) (λ _=>.lst []) where
 make:=λ h=>zB4 (h _ rfl)
 live:=by rintro ob rfl;rfl
 ok:=by
  rintro H h a ob rfl hg hb;exact⟨zAj _,[],_,.nil,hg⟩
def pO(e iter2:Expr)(env:Env)(D:Addr):Sem Unit:=do
 let x <-eval iter2 env
 zE3 iter2.pos
 let x <-zAx iter2 env x;let _ <-runOwn (.compStart e 1 (<-zE1 [x] (zGT x)) (.ref D) env) env
def aDQ(elt tg iter tg2 iter2:Expr)(ifs ifs2:List Expr)(scope:Scope)(pos:Pos):jY 0 (.ListComp elt [⟨tg,iter,ifs,0⟩,⟨tg2,iter2,ifs2,0⟩] scope pos) tg iter ifs (pO (.ListComp elt [⟨tg,iter,ifs,0⟩,⟨tg2,iter2,ifs2,0⟩] scope pos) iter2):=
 ⟨λ _ _ _ _=>rfl,λ _ _ _ _ _=>rfl,λ _ _ _=>by unfold pO zFi;simp only[zH7];rfl⟩
def aDP(elt tg iter tg2 iter2:Expr)(ifs ifs2:List Expr)(scope:Scope)(pos:Pos):jY 1 (.ListComp elt [⟨tg,iter,ifs,0⟩,⟨tg2,iter2,ifs2,0⟩] scope pos) tg2 iter2 ifs2 (tH elt):=
 ⟨λ _ _ _ _=>rfl,λ _ _ _ _ _=>rfl,λ _ _ _=>rfl⟩
def lV(hcl:(clausesOf e)[d]? =some ⟨tg,iter,ifs,0⟩)(hu:∀(A:zAd) (it acc:Value) (env:Env),A.under (.compStart e d it acc env)=A)
  (hd:∀(prog:zAY) (w:World) (it acc:Value) (env:Env),(model prog w).den (.compStart e d it acc env)=(compStart e d it acc env).onRaise (λ x=>do noteFrame x env;zE3 theWindowsPlace)):qO d e:=by
 intro prog w A R s it acc env h0 h;refine zFp ?_;rw[hu,hd];refine wpAny_notedAt ?_;unfold compStart;rw[hcl];show wpAny _ A (ask>>=_) _ _ s;refine zAC (wpAny_askSetting (wpAny_ite ?_));split
 .first|exact zAC (zAI (zAI (zFQ rfl h0)))|exact zAI (zFQ rfl h0)
 .first
   |exact zAC (zDC (zAC (zC1 (zAC (zBF h (λ it2 s2 h2=>zAI (zFQ rfl h2)) λ _ _ x=>x)))))
   |(refine zAC (zDC ?_);(show wpAny _ _ (zE3 iter.pos>>=_) _ _ s);exact zAC (zC1 (zAC (zBF h (λ it2 s2 h2=>zAI (zFQ rfl h2)) λ _ _ x=>x))))
def xZ(ks:List Nat)(wi:TI)(g:TG)(tt:TT)(tb:Addr->St->Hp->(Hp->Prop)->Prop):Addr->St->Hp->(Hp->Prop)->Prop:=λ D Z H Q=>(∀k∈ks,∀v,Z[k]?≠some (some v))/\wi Z H λ J H1=>∃W:Nat->Nat->Hp->Prop,(∃m,W 0 m H1)/\
 ∀i m H2,W i m H2->((J.stop i H2/\Q H2)\/(J.go i H2/\∀x H3,J.yld i H2 x H3->g x Z H3 λ Z4 H4=>tt Z4 H4 λ ok H5=>
  if ok=true then tb D Z4 H5 λ H6=>∃m',m'<m/\W (i+1) m' H6 else∃m',m'<m/\W (i+1) m' H5))
def aGP(hc:X.calm=true)(hx:∀v s,X.xe v s->False)(hT:jY 1 e tg iter ifs body)(hS:qO 1 e)
  (hi:PI X tg iter wi)(hg:PG X tg g)(hgo:gw g ks)(ht:wB X ifs tt)(he:PB X body tb)(hs:∀x,zAx iter X.env x=pure x:=by intro _;rfl):PB X (pO e iter) (xZ ks wi g tt tb):=by
 have nf:∀{α:Type} {m:Sem α} {Q:α->zAD->Prop} {s:zAD},wpAny (model X.prog X.w) X.A m Q X.xe s->wpAny (model X.prog X.w) X.A m Q (λ _ _=>False) s:=λ h=>zBF h (λ _ _ q=>q) hx
 intro D pins s Z H Q I h;obtain⟨hno,h⟩:=h;unfold pO;refine zAC (thn (hi pins s Z H _ I h) λ v s1 h1=>zAC (zC1 (zAC (zFt (hs v) (zAC (zC0 (thn h1 λ itv s2 h2=>zAC ?_)))))));obtain⟨it,fp,tn,J,H1,e1,I1,T,st1,f1,W,⟨m0,w0⟩,step⟩:=h2;subst e1;have stat:∀{H':Hp},(∀b∈fp,H' b=none)->∀b∈fp,o5 X pins H' b:=λ{H'} hn b hb=>⟨hn b hb,(f1 b hb).2⟩
 have loop:zBs (model X.prog X.w) X.A (.compLoop e 1 (.ref it) (.ref D) X.env) (λ r s'=>match r with| .ok _=>(∃H',Inv X pins Z H' s'/\Q H')| .error _=>False) s2:=by
  refine kj hT (λ n s'=>∃i H2,Inv X pins Z H2 s'/\tn i s'.heap/\(∀b∈fp,H2 b=none)/\W i n H2) ?_ m0 ⟨0,H1,I1,st1,λ b hb=>(f1 b hb).1,w0⟩;rintro n s3 ⟨i,H2,I2,st2,fr2,w2⟩;rcases step i n H2 w2 with ⟨stop,q⟩|⟨go,nxt⟩
  .refine thn (T.done X rfl rfl rfl hc i pins s3 Z H2 _ I2 (stat fr2) st2 stop) λ r s4 ⟨hr,I4⟩=>?_
   subst hr;exact⟨H2,I4,q⟩
  .refine thn (T.item X rfl rfl rfl hc i pins s3 Z H2 _ I2 (stat fr2) st2 go) λ r s4 ⟨u,hr,h4⟩=>?_
   subst hr;refine thn h4 λ _ s5 ⟨x,H5,I5,r5,y5,st5,fr5⟩=>?_
   have I5p:=I5.pinned (stat fr5) (T.obj _ _ st5);refine thn (nf (hg _ s5 Z H5 x u _ I5p r5 (hgo _ _ _ _ (nxt x H5 y5)))) λ _ s6 ⟨Z6,H6,I6,q6,aAB,ag6⟩=>?_
   refine thn (nf (ht _ s6 Z6 H6 _ I6 q6)) λ ok s7 ⟨H7,I7,q7⟩=>?_
   have again:∀{H9:Hp} {s9:zAD},Inv X (pins++mJ fp s5.heap) Z6 H9 s9->(∃m',m'<n/\W (i+1) m' H9)->∃m,m<n/\∃i H2,Inv X pins Z H2 s9/\tn i s9.heap/\(∀b∈fp,H2 b=none)/\W i m H2:=λ{H9 s9} I9 ⟨m',hm,w9⟩=>by
    have pin9:∀b∈fp,∀o,s5.heap.get? b=some o->s9.heap.get? b=some o/\H9 b=none:=λ b hb o e=>by
     have z:=I9.pin (b,o) (zA1 _ (zA1 _ (fQ hb e)));exact⟨z.1,z.2.1⟩
    refine⟨m',hm,i+1,H9,I9.unpinned.weak (by rw[aAB]) (λ k v e=>?_),T.keep _ _ _ st5 λ b hb o e=>(pin9 b hb o e).1,λ b hb=>?_,w9⟩
    .by_cases hk:k∈ks
     .exact absurd e (hno k hk v)
     .rw[ag6 k hk];exact e
    .obtain⟨o,e,_⟩:=T.obj _ _ st5 b hb
     exact(pin9 b hb o e).2
   cases ok with
   |false=>
    rw[if_neg zAG]at q7 ⊢;exact again I7 q7
   |true=>
    rw[if_pos rfl]at q7 ⊢;exact thn (nf (he D _ s7 Z6 H7 _ I7 q7)) λ _ s8 ⟨H8,I8,q8⟩=>again I8 q8
 refine wpAny_runOwn (h:=none) (zDB (hS loop (T.self X.A 0 _ _ _ st1 loop)) λ r s' hr=>?_);cases r with
 |ok f=>exact zAI hr
 |error x=>exact hr.elim
end L2
namespace VL
open PySem PySem.Spec PyProof.Rows L2
inductive D where
 |non|bl (b:Bool)|int (i:Int)|str (x:Str)|tup (l:List D)|lst (l:List D)|dct (ks vs:List D)|set (l:List Int)|scr (l:List Int)|fn (x:Str)
instance:Inhabited D:=⟨.non⟩
def kD:Key->D
 | .inl i=>.int i
 | .inr x=>.str x
variable{K:zAA}
def ni(K:zAA)(H:Hp)(a:Addr)(ns:List Int):Prop:=(∃o,H a=some (.frz o (.lst (ns.map V.int))))\/
 ∃(o:Obj) (its:Array Value) (n:Nat),K.lookup a=some o/\o.cls= .type "list"/\o.dict=none/\o.data= .seq its n/\its.size<=zAV/\Vals (ns.map V.int) its.toList
def ni.sq(h:ni K H a ns):SqL K H a (ns.map V.int):=by
 rcases h with h|h
 .exact .inl (.inr h)
 .exact .inr h
def hsh(ns:List Int):Int:=reduceHash (zHX (ns.map hashInt))
def dxO(a:Addr)(es:List (List Int×Addr×V)):HO:=.ext λ h=>es.length<=zAV/\(a==zDx)=false/\∃(xs:List (List Int×Addr×Value)) (o:Obj) (ts:Array DictEntry) (ep:Nat),zFE (λ e x=>e.1=x.1/\e.2.1=x.2.1/\RelV e.2.2 x.2.2) es xs/\
 h.get? a=some o/\o.ExactDict/\o.data= .dict ts ep/\ts.toList=xs.map λ x=>⟨hsh x.1,.ref x.2.1,x.2.2⟩
structure DxK(K:zAA)(H:Hp)(a:Addr)(es:List (List Int×Addr×V)):Prop where
 at_:H a=some (dxO a es)
 ks:∀e∈es,SqT K H e.2.1 (e.1.map V.int)
 nd:(es.map (·.1)).Nodup
mutual
inductive Rp(K:zAA):(Addr->Prop)->Hp->V->D->Prop where
 |non {A:Addr->Prop} {H:Hp}:Rp K A H .non .non
 |bl {A:Addr->Prop} {H:Hp} (b:Bool):Rp K A H (.bl b) (.bl b)
 |int {A:Addr->Prop} {H:Hp} (i:Int):Rp K A H (.int i) (.int i)
 |str {A:Addr->Prop} {H:Hp} (x:Str):Rp K A H (.str x) (.str x)
 |tup {A:Addr->Prop} {H:Hp} {a:Addr} {xs:List V} {ds:List D} (h:SqT K H a xs) (r:Rps K A H xs ds):Rp K A H (.ref a) (.tup ds)
 |lst {A:Addr->Prop} {H:Hp} {a:Addr} {xs:List V} {ds:List D} (h:H a=some (.lst xs)) (m:A a) (r:Rps K (λ p=>A p/\p≠a) H xs ds):Rp K A H (.ref a) (.lst ds)
 |dK {A:Addr->Prop} {H:Hp} {a:Addr} {kvs:List (Key×V)} {ds:List D} (h:H a=some (.dK kvs)) (m:A a) (r:Rps K (λ p=>A p/\p≠a) H (kvs.map (·.2)) ds):Rp K A H (.ref a) (.dct (kvs.map λ p=>kD p.1) ds)
 |dT {A:Addr->Prop} {H:Hp} {a:Addr} {es:List (List Int×Addr×V)} {ds:List D} (h:DxK K H a es) (m:A a) (r:Rps K (λ p=>A p/\p≠a) H (es.map (·.2.2)) ds):Rp K A H (.ref a) (.dct (.non::es.map λ e=>.tup (e.1.map .int)) ds)
 |set {A:Addr->Prop} {H:Hp} {a:Addr} {S:Int->Bool} {l:List Int} (h:H a=some (.set S l.length)) (m:A a) (hS:∀i,S i=decide (i∈l)) (nd:l.Nodup):Rp K A H (.ref a) (.set l)
 |scr {A:Addr->Prop} {H:Hp} {a:Addr} {ns:List Int} (h:ni K H a ns):Rp K A H (.ref a) (.scr ns)
 |fn {A:Addr->Prop} {H:Hp} {a:Addr} {x:Str} (h:zAg K zA5 x=some (some (.ref a))):Rp K A H (.ref a) (.fn x)
inductive Rps(K:zAA):(Addr->Prop)->Hp->List V->List D->Prop where
 |nil {A:Addr->Prop} {H:Hp}:Rps K A H [] []
 |cons {A:Addr->Prop} {H:Hp} {x:V} {d:D} {xs:List V} {ds:List D} (h:Rp K A H x d) (r:Rps K A H xs ds):Rps K A H (x::xs) (d::ds)
end
def ni.mono(s:aO H H')(h:ni K H a ns):ni K H' a ns:=by
 rcases h with ⟨o,h⟩|h
 .exact .inl ⟨o,s _ _ h⟩
 .exact .inr h
def DxK.mono(h:DxK K H a es)(s:aO H H'):DxK K H' a es:=⟨s _ _ h.at_,λ e he=>s.sqt (h.ks e he),h.nd⟩
def Rp.mono'(s:aO H H')(r:Rp K A H x d)(hA:∀p o,H p=some o->A p->A' p):Rp K A' H' x d:=
 Rp.rec (motive_1:=λ A H x d _=>∀H',aO H H'->∀A':Addr->Prop,(∀p o,H p=some o->A p->A' p)->Rp K A' H' x d) (motive_2:=λ A H xs ds _=>∀H',aO H H'->∀A':Addr->Prop,(∀p o,H p=some o->A p->A' p)->Rps K A' H' xs ds)
  (λ _ _ _ _=>.non) (λ b _ _ _ _=>.bl b) (λ i _ _ _ _=>.int i) (λ x _ _ _ _=>.str x) (λ h _ ih _ s _ hA=>.tup (s.sqt h) (ih _ s _ hA))
  (λ h m _ ih _ s _ hA=>.lst (s _ _ h) (hA _ _ h m) (ih _ s _ λ p o e z=>⟨hA p o e z.1,z.2⟩)) (λ h m _ ih _ s _ hA=>.dK (s _ _ h) (hA _ _ h m) (ih _ s _ λ p o e z=>⟨hA p o e z.1,z.2⟩))
  (λ h m _ ih _ s _ hA=>.dT (h.mono s) (hA _ _ h.at_ m) (ih _ s _ λ p o e z=>⟨hA p o e z.1,z.2⟩)) (λ h m hS nd _ s _ hA=>.set (s _ _ h) (hA _ _ h m) hS nd) (λ h _ s _ _=>.scr (h.mono s)) (λ h _ _ _ _=>.fn h) (λ _ _ _ _=>.nil) (λ _ _ ih ir _ s _ hA=>.cons (ih _ s _ hA) (ir _ s _ hA)) r H' s A' hA
def Rps.mono'(s:aO H H')(r:Rps K A H xs ds)(hA:∀p o,H p=some o->A p->A' p):Rps K A' H' xs ds:=
 Rps.rec (motive_1:=λ A H x d _=>∀H',aO H H'->∀A':Addr->Prop,(∀p o,H p=some o->A p->A' p)->Rp K A' H' x d) (motive_2:=λ A H xs ds _=>∀H',aO H H'->∀A':Addr->Prop,(∀p o,H p=some o->A p->A' p)->Rps K A' H' xs ds)
  (λ _ _ _ _=>.non) (λ b _ _ _ _=>.bl b) (λ i _ _ _ _=>.int i) (λ x _ _ _ _=>.str x) (λ h _ ih _ s _ hA=>.tup (s.sqt h) (ih _ s _ hA))
  (λ h m _ ih _ s _ hA=>.lst (s _ _ h) (hA _ _ h m) (ih _ s _ λ p o e z=>⟨hA p o e z.1,z.2⟩)) (λ h m _ ih _ s _ hA=>.dK (s _ _ h) (hA _ _ h m) (ih _ s _ λ p o e z=>⟨hA p o e z.1,z.2⟩))
  (λ h m _ ih _ s _ hA=>.dT (h.mono s) (hA _ _ h.at_ m) (ih _ s _ λ p o e z=>⟨hA p o e z.1,z.2⟩)) (λ h m hS nd _ s _ hA=>.set (s _ _ h) (hA _ _ h m) hS nd) (λ h _ s _ _=>.scr (h.mono s)) (λ h _ _ _ _=>.fn h) (λ _ _ _ _=>.nil) (λ _ _ ih ir _ s _ hA=>.cons (ih _ s _ hA) (ir _ s _ hA)) r H' s A' hA
def Rp.mono(s:aO H H')(hA:∀p o,H p=some o->A p->A' p)(r:Rp K A H x d):Rp K A' H' x d:=r.mono' s hA
def Rps.mono(s:aO H H')(hA:∀p o,H p=some o->A p->A' p)(r:Rps K A H x d):Rps K A' H' x d:=r.mono' s hA
def Rp.up(s:aO H H')(r:Rp K A H x d):Rp K A H' x d:=r.mono s λ _ _ _ h=>h
def Rp.wk(hA:∀p o,H p=some o->A p->A' p)(r:Rp K A H x d):Rp K A' H x d:=r.mono (aO.refl H) hA
def Rps.up(s:aO H H')(r:Rps K A H x d):Rps K A H' x d:=r.mono s λ _ _ _ h=>h
def Rps.wk(hA:∀p o,H p=some o->A p->A' p)(r:Rps K A H x d):Rps K A' H x d:=r.mono (aO.refl H) hA
def ik:HO->Bool
 | .lst _=>true| .dK _=>true| .dT _=>true| .set _ _=>true| .ext _=>true|_=>false
def xn(s:gK l H H')(hl:H l=some o)(ho:ik o=true)(h:SqT K H a xs):SqT K H' a xs:=by
 rcases h with (h|⟨u,h⟩)|h
 .refine .inl (.inl (s _ _ (λ e=>?_) h))
  subst e;rw[hl]at h;cases h;cases ho
 .refine .inl (.inr ⟨u,s _ _ (λ e=>?_) h⟩)
  subst e;rw[hl]at h;cases h;cases ho
 .exact .inr h
def aBn(s:gK l H H')(hl:H l=some o)(ho:ik o=true)(h:ni K H a ns):ni K H' a ns:=by
 rcases h with ⟨u,h⟩|h
 .exact .inl ⟨u,s _ _ (λ e=>by subst e;rw[hl]at h;cases h;cases ho) h⟩
 .exact .inr h
def DxK.but(h:DxK K H a es)(s:gK l H H')(hl:H l=some o)(ho:ik o=true)(ne:a≠l):DxK K H' a es:=
 ⟨s _ _ ne h.at_,λ e he=>xn s hl ho (h.ks e he),h.nd⟩
def Rp.but'(s:gK l H H')(hl:H l=some o)(ho:ik o=true)(r:Rp K A H x d)(hA:¬A l):Rp K A H' x d:=
 Rp.rec (motive_1:=λ A H x d _=>∀H',gK l H H'->∀o:HO,H l=some o->ik o=true->¬A l->Rp K A H' x d) (motive_2:=λ A H xs ds _=>∀H',gK l H H'->∀o:HO,H l=some o->ik o=true->¬A l->Rps K A H' xs ds)
  (λ _ _ _ _ _ _=>.non) (λ b _ _ _ _ _ _=>.bl b) (λ i _ _ _ _ _ _=>.int i) (λ x _ _ _ _ _ _=>.str x) (λ h _ ih _ s o hl ho hA=>.tup (xn s hl ho h) (ih _ s o hl ho hA))
  (λ h m _ ih _ s o hl ho hA=>.lst (s _ _ (λ e=>hA (e▸m)) h) m (ih _ s o hl ho λ z=>hA z.1)) (λ h m _ ih _ s o hl ho hA=>.dK (s _ _ (λ e=>hA (e▸m)) h) m (ih _ s o hl ho λ z=>hA z.1))
  (λ h m _ ih _ s o hl ho hA=>.dT (h.but s hl ho λ e=>hA (e▸m)) m (ih _ s o hl ho λ z=>hA z.1)) (λ h m hS nd _ s o hl ho hA=>.set (s _ _ (λ e=>hA (e▸m)) h) m hS nd) (λ h _ s o hl ho _=>.scr (aBn s hl ho h)) (λ h _ _ _ _ _ _=>.fn h) (λ _ _ _ _ _ _=>.nil) (λ _ _ ih ir _ s o hl ho hA=>.cons (ih _ s o hl ho hA) (ir _ s o hl ho hA)) r H' s o hl ho hA
def Rps.but'(s:gK l H H')(hl:H l=some o)(ho:ik o=true)(r:Rps K A H xs ds)(hA:¬A l):Rps K A H' xs ds:=
 Rps.rec (motive_1:=λ A H x d _=>∀H',gK l H H'->∀o:HO,H l=some o->ik o=true->¬A l->Rp K A H' x d) (motive_2:=λ A H xs ds _=>∀H',gK l H H'->∀o:HO,H l=some o->ik o=true->¬A l->Rps K A H' xs ds)
  (λ _ _ _ _ _ _=>.non) (λ b _ _ _ _ _ _=>.bl b) (λ i _ _ _ _ _ _=>.int i) (λ x _ _ _ _ _ _=>.str x) (λ h _ ih _ s o hl ho hA=>.tup (xn s hl ho h) (ih _ s o hl ho hA))
  (λ h m _ ih _ s o hl ho hA=>.lst (s _ _ (λ e=>hA (e▸m)) h) m (ih _ s o hl ho λ z=>hA z.1)) (λ h m _ ih _ s o hl ho hA=>.dK (s _ _ (λ e=>hA (e▸m)) h) m (ih _ s o hl ho λ z=>hA z.1))
  (λ h m _ ih _ s o hl ho hA=>.dT (h.but s hl ho λ e=>hA (e▸m)) m (ih _ s o hl ho λ z=>hA z.1)) (λ h m hS nd _ s o hl ho hA=>.set (s _ _ (λ e=>hA (e▸m)) h) m hS nd) (λ h _ s o hl ho _=>.scr (aBn s hl ho h)) (λ h _ _ _ _ _ _=>.fn h) (λ _ _ _ _ _ _=>.nil) (λ _ _ ih ir _ s o hl ho hA=>.cons (ih _ s o hl ho hA) (ir _ s o hl ho hA)) r H' s o hl ho hA
def Rp.but(s:gK l H H')(hl:H l=some o)(ho:ik o=true)(hA:¬A l)(r:Rp K A H x d):Rp K A H' x d:=r.but' s hl ho hA
def Rps.but(s:gK l H H')(hl:H l=some o)(ho:ik o=true)(hA:¬A l)(r:Rps K A H x d):Rps K A H' x d:=r.but' s hl ho hA
mutual
def imm:D->Bool
 | .tup l=>vg l
 | .lst _=>false
 | .dct _ _=>false
 | .set _=>false
 |_=>true
def vg:List D->Bool
 |[]=>true
 |d::r=>imm d&&vg r
end
def wW(e:vg (d::r)=true):imm d=true/\vg r=true:=by
 simp only[vg,zAQ]at e;exact e
def aGo(e:imm (.tup l)=true):vg l=true:=by simpa[imm]using e
def aGs(e:imm (.lst l)=true):False:=by simp[imm]at e
def aCJ(e:imm (.dct l k)=true):False:=by simp[imm]at e
def aGp(e:imm (.set l)=true):False:=by simp[imm]at e
def Rp.imm'(r:Rp K A H x d)(e:VL.imm d=true):Rp K A' H x d:=
 Rp.rec (motive_1:=λ _ H x d _=>VL.imm d=true->Rp K A' H x d) (motive_2:=λ _ H xs ds _=>vg ds=true->Rps K A' H xs ds)
  (λ _=>.non) (λ b _=>.bl b) (λ i _=>.int i) (λ x _=>.str x) (λ h _ ih e=>.tup h (ih (aGo e)))
  (λ _ _ _ _ e=>(aGs e).elim) (λ _ _ _ _ e=>(aCJ e).elim) (λ _ _ _ _ e=>(aCJ e).elim) (λ _ _ _ _ e=>(aGp e).elim) (λ h _=>.scr h) (λ h _=>.fn h) (λ _=>.nil) (λ _ _ ih ir e=>.cons (ih (wW e).1) (ir (wW e).2)) r e
theorem Rp.imm(r:Rp K A H x d)(h:VL.imm d=true):Rp K A' H x d:=r.imm' h
def Rp.int_inv(r:Rp K A H v (.int i)):v= .int i:=by cases r;rfl
def Rp.bl_inv(r:Rp K A H v (.bl b)):v= .bl b:=by cases r;rfl
def Rp.tup_inv(r:Rp K A H v (.tup ds)):∃a xs,v= .ref a/\SqT K H a xs/\Rps K A H xs ds:=by cases r with|tup h r=>exact⟨_,_,rfl,h,r⟩
def Rp.lst_inv(r:Rp K A H v (.lst ds)):∃a xs,v= .ref a/\H a=some (.lst xs)/\A a/\Rps K (λ p=>A p/\p≠a) H xs ds:=by cases r with|lst h m r=>exact⟨_,_,rfl,h,m,r⟩
def Rp.scr_inv(r:Rp K A H v (.scr ns)):∃a,v= .ref a/\ni K H a ns:=by cases r with|scr h=>exact⟨_,rfl,h⟩
def Rps.one_inv(r:Rps K A H vs [d]):∃v,vs=[v]/\Rp K A H v d:=by cases r with|cons h r=>cases r;exact⟨_,rfl,h⟩
section
variable{A:Addr->Prop}{H:Hp}
theorem Rps.length:∀{xs:List V} {ds:List D},Rps K A H xs ds->xs.length=ds.length:=by
 intro xs ds h;induction xs generalizing ds with
 |nil=>cases h;rfl
 |cons x xs ih=>cases h with|cons _ r=>exact congrArg (·+1) (ih r)
theorem Rps.get:∀{xs:List V} {ds:List D} {i:Nat} {x:V},Rps K A H xs ds->xs[i]? =some x->∃d,ds[i]? =some d/\Rp K A H x d
 |_,_,_,_,.nil,e=>by simp at e
 |_,_,0,_,.cons h _,e=>by simp at e;subst e;exact⟨_,rfl,h⟩
 |_,_,i+1,x,.cons _ r,e=>by
  obtain⟨d,h1,h2⟩:=Rps.get (i:=i) (x:=x) r (by simpa using e);exact⟨d,by simpa using h1,h2⟩
theorem Rps.getD:∀{xs:List V} {ds:List D} {i:Nat} {d:D},Rps K A H xs ds->ds[i]? =some d->∃x,xs[i]? =some x/\Rp K A H x d
 |_,_,_,_,.nil,e=>by simp at e
 |_,_,0,_,.cons h _,e=>by simp at e;subst e;exact⟨_,rfl,h⟩
 |_,_,i+1,d,.cons _ r,e=>by
  obtain⟨x,h1,h2⟩:=Rps.getD (i:=i) (d:=d) r (by simpa using e);exact⟨x,by simpa using h1,h2⟩
def Rps.append:∀{xs ys:List V} {ds es:List D},Rps K A H xs ds->Rps K A H ys es->Rps K A H (xs++ys) (ds++es):=by
 intro xs ys ds es h s;induction xs generalizing ds with
 |nil=>cases h;exact s
 |cons x xs ih=>cases h with|cons h r=>exact .cons h (ih r)
theorem Rps.take:∀{xs:List V} {ds:List D} (n:Nat),Rps K A H xs ds->Rps K A H (xs.take n) (ds.take n)
 |_,_,0,_=>.nil
 |_,_,_+1,.nil=>.nil
 |_,_,n+1,.cons h r=>.cons h (Rps.take n r)
theorem Rps.drop:∀{xs:List V} {ds:List D} (n:Nat),Rps K A H xs ds->Rps K A H (xs.drop n) (ds.drop n)
 |_,_,0,r=>r
 |_,_,_+1,.nil=>.nil
 |_,_,n+1,.cons _ r=>Rps.drop n r
theorem Rps.reverse:∀{xs:List V} {ds:List D},Rps K A H xs ds->Rps K A H xs.reverse ds.reverse:=by
 intro xs ds h;induction xs generalizing ds with
 |nil=>cases h;exact .nil
 |cons x xs ih=>
  cases h with
  |cons h r=>
   rw[zDE,zDE];exact Rps.append (ih r) (.cons h .nil)
theorem Rps.ints:∀{ns:List Int},Rps K A H (ns.map V.int) (ns.map D.int)
 |[]=>.nil
 |n::ns=>.cons (.int n) Rps.ints
theorem Rps.ints_of:∀{xs:List V} {ns:List Int},Rps K A H xs (ns.map D.int)->xs=ns.map V.int
 |_,[],.nil=>rfl
 |_,n::ns,.cons h r=>by
  cases h;rw[zA0,Rps.ints_of r]
end
def aL(h:a=b):a=b:=h
inductive Rs(α:Type) where
 |ok (a:α)|ex (c:Str)|st
noncomputable def Rs.bd{α β:Type}:Rs α->(α->Rs β)->Rs β
 | .ok a,f=>f a
 | .ex c,_=>.ex c
 | .st,_=>.st
@[simp] def cA(a:α)(f:α->Rs β):(Rs.ok a).bd f=f a:=aL rfl
def bM{r:Rs α}(h:r.bd f= .ok b):∃a,r= .ok a/\f a= .ok b:=by
 cases r with
 |ok a=>exact⟨a,rfl,h⟩
 |ex c=>cases h
 |st=>cases h
inductive Slot where
 |no|sh (d:D)|nw (d:D)|ow (d:D)|oz (d:D)|o2 (l:List (List D))
abbrev En:=List Slot
abbrev Lab:=Addr->Nat×Nat
abbrev Mode:=Option (List Nat)
def inM(m:Mode)(n:Nat):Prop:=match m with
 |none=>True
 |some L=>n∈L
def jn:Mode->Mode->Mode
 |some a,some b=>some (a++b)
 |_,_=>none
def aKP(h:inM a n):inM (jn a b) n:=by
 cases a with
 |none=>cases b<;>exact trivial
 |some L=>
  cases b with
  |none=>exact trivial
  |some M=>exact zA8 _ h
def aKO(h:inM b n):inM (jn a b) n:=by
 cases a with
 |none=>cases b<;>exact trivial
 |some L=>
  cases b with
  |none=>exact trivial
  |some M=>exact zA1 _ h
def fpM(m:Mode)(lab:Lab)(H:Hp):Addr->Prop:=λ p=>H p=none\/inM m (lab p).1
def aHc(h:fpM a lab H p):fpM (jn a b) lab H p:=h.imp id aKP
def aHb(h:fpM b lab H p):fpM (jn a b) lab H p:=h.imp id aKO
def vC(s:aO H H')(h:fpM m lab H' p):fpM m lab H p:=h.imp (λ z=>s.free z) id
structure Gx where
 H0:Hp
 E:XK
 cl:Str->Addr
def aEY:D->Bool
 | .lst _=>true
 | .dct _ _=>true
 | .set _=>true
 |_=>false
def dO(K:zAA)(H:Hp)(lab:Lab)(i:Nat)(v:V):Slot->Prop
 | .no=>True
 | .sh d=>Rp K (λ p=>(lab p).1<=1) H v d
 | .nw d=>Rp K (λ p=>(lab p).1=1) H v d
 | .ow d=>Rp K (λ p=>(lab p).1=1\/(lab p).1=i+2) H v d/\(aEY d=true->∃a,v= .ref a/\(lab a).1=i+2)
 | .oz d=>∃a xs ds,v= .ref a/\d= .lst ds/\H a=some (.lst xs)/\(lab a).1=i+2/\Rps K (λ p=>(lab p).1<=1) H xs ds
 | .o2 l=>∃a xs,v= .ref a/\H a=some (.lst xs)/\lab a=(i+2,0)/\xs.length=l.length/\∀(j:Nat) x ds,xs[j]? =some x->l[j]? =some ds->Rp K (λ p=>lab p=(i+2,j+1)) H x (.lst ds)
structure RR(K:zAA)(G:Gx)(U:List (V×D))(ρ:En)(Z:L2.St)(H:Hp)(lab:Lab):Prop where
 len:Z.length=ρ.length
 sl:∀(i:Nat) (s:Slot),ρ[i]? =some s->s= .no\/∃v,Z[i]? =some (some v)/\dO K H lab i v s
 old:aO G.H0 H
 new:∀p,(lab p).1≠0->G.H0 p=none
 tm:∀q∈U,Rp K (λ p=>(lab p).1<=1) H q.1 q.2
theorem dO.up(s:aO H H')(h:dO K H lab i v x):dO K H' lab i v x:=by
 cases x with
 |no=>exact trivial
 |sh d=>exact Rp.up s h
 |nw d=>exact Rp.up s h
 |ow d=>exact⟨Rp.up s h.1,h.2⟩
 |oz d=>
  obtain⟨a,xs,ds,e1,e2,e3,e4,e5⟩:=h;exact⟨a,xs,ds,e1,e2,s _ _ e3,e4,e5.up s⟩
 |o2 l=>
  obtain⟨a,xs,e1,e2,e3,e4,e5⟩:=h;exact⟨a,xs,e1,s _ _ e2,e3,e4,λ j x ds f1 f2=>(e5 j x ds f1 f2).up s⟩
def aIJ(r:Rp K A H (.ref a) d)(hm:aEY d=true):∃o,H a=some o/\ik o=true/\A a:=by
 cases r with
 |lst h m _=>exact⟨_,h,rfl,m⟩
 |dK h m _=>exact⟨_,h,rfl,m⟩
 |dT h m _=>exact⟨_,h.at_,rfl,m⟩
 |set h m _ _=>exact⟨_,h,rfl,m⟩
 |tup _ _=>cases hm
 |scr _=>cases hm
 |fn _=>cases hm
theorem dO.lab{lab lab':Lab}(hl:∀p o,H p=some o->lab' p=lab p)(h:dO K H lab i v x):dO K H lab' i v x:=by
 cases x with
 |no=>exact trivial
 |sh d=>exact Rp.wk (λ p o e q=>(hl p o e).symm▸q) h
 |nw d=>exact Rp.wk (λ p o e q=>(hl p o e).symm▸q) h
 |ow d=>
  obtain⟨h,t⟩:=h;refine⟨Rp.wk (λ p o e q=>(hl p o e).symm▸q) h,λ m=>?_⟩;obtain⟨a,rfl,ea⟩:=t m;obtain⟨o,ho,_⟩:=aIJ h m;exact⟨a,rfl,(congrArg (·.1) (hl a o ho)).trans ea⟩
 |oz d=>
  obtain⟨a,xs,ds,e1,e2,e3,e4,e5⟩:=h;exact⟨a,xs,ds,e1,e2,e3,(congrArg (·.1) (hl _ _ e3)).trans e4,Rps.wk (λ p o e q=>(hl p o e).symm▸q) e5⟩
 |o2 l=>
  obtain⟨a,xs,e1,e2,e3,e4,e5⟩:=h;exact⟨a,xs,e1,e2,(hl _ _ e2).trans e3,e4,λ j x ds f1 f2=>Rp.wk (λ p o e q=>(hl p o e).symm▸q) (e5 j x ds f1 f2)⟩
section
variable{G:Gx}{U:List (V×D)}{ρ:En}{Z:L2.St}{H H':Hp}{lab lab':Lab}
theorem RR.up(R:RR K G U ρ Z H lab)(s:aO H H'):RR K G U ρ Z H' lab:=
 ⟨R.len,λ i x e=>(R.sl i x e).imp id λ⟨v,e1,e2⟩=>⟨v,e1,e2.up s⟩,R.old.trans s,R.new,λ q hq=>(R.tm q hq).up s⟩
def RR.relab(R:RR K G U ρ Z H lab)(hl:∀p o,H p=some o->lab' p=lab p)(hn:∀p,(lab' p).1≠0->G.H0 p=none):RR K G U ρ Z H lab':=
 ⟨R.len,λ i x e=>(R.sl i x e).imp id λ⟨v,e1,e2⟩=>⟨v,e1,e2.lab hl⟩,R.old,hn,λ q hq=>Rp.wk (λ p o e z=>by rw[hl p o e];exact z) (R.tm q hq)⟩
def RR.drop(R:RR K G (U'++U) ρ Z H lab):RR K G U ρ Z H lab:=⟨R.len,R.sl,R.old,R.new,λ z hz=>R.tm z (zA1 _ hz)⟩
def RR.put(R:RR K G U ρ Z H lab)(h:dO K H lab i v s):RR K G U (ρ.set i s) (Z.set i (some v)) H lab:=by
 refine⟨by rw[zBT,zBT,R.len],λ j x e=>?_,R.old,R.new,R.tm⟩;by_cases hj:i=j
 .subst hj
  have hi:i<ρ.length:=by
   have:=(zAK.mp e).1
   rwa [zBT]at this
  rw[zCD hi]at e;cases e;exact .inr ⟨v,by rw[zCD (by rw[R.len];exact hi)],h⟩
 .rw[zB2 hj]at e
  rcases R.sl j x e with z|⟨u,e1,e2⟩
  .exact .inl z
  .exact .inr ⟨u,by rw[zB2 hj];exact e1,e2⟩
def cF(H:Hp)(n:Nat)(lab:Lab):Lab:=λ p=>match H p with
 |none=>(n,0)
 |some _=>lab p
def bU(h:H p=some o):cF H n lab p=lab p:=by unfold cF;rw[h]
def uX(h:H p=none):cF H n lab p=(n,0):=by unfold cF;rw[h]
def RR.fresh{P:Nat->Prop}(h1:P 1)(hm:∀k,inM m k->P k)(R:RR K G U ρ Z H lab)(s:aO H H')(r:Rp K (fpM m lab H) H' v d):
  RR K G U ρ Z H' (cF H 1 lab)/\Rp K (λ p=>P (cF H 1 lab p).1) H' v d:=by
 refine⟨(R.relab (λ p o e=>bU e) λ p hp=>?_).up s,Rp.wk (λ p o e z=>?_) r⟩
 .cases e:H p with
  |none=>exact R.old.free e
  |some o=>rw[bU e]at hp;exact R.new p hp
 .rcases z with z|z
  .rw[uX z];exact h1
  .cases e:H p with
   |none=>rw[uX e];exact h1
   |some o=>rw[bU e];exact hm _ z
def RR.freshO(i:Nat)(hm:∀k,inM m k->k=1\/k=i+2)(R:RR K G U ρ Z H lab)(s:aO H H')(r:Rp K (fpM m lab H) H' v d)(ht:aEY d=true->∃a,v= .ref a/\H a=none):
  ∃lab',RR K G U ρ Z H' lab'/\dO K H' lab' i v (.ow d):=by
 obtain⟨R',r'⟩:=R.fresh (P:=λ k=>k=1\/k=i+2) (.inl rfl) hm s r;cases hd:aEY d with
 |false=>exact⟨_,R',r',λ z=>absurd z (by simp[hd])⟩
 |true=>
  obtain⟨a,rfl,ha⟩:=ht hd;refine⟨λ p=>if p=a then(i+2,0)else cF H 1 lab p,?_,Rp.wk (λ p o e z=>?_) r',λ _=>⟨a,rfl,by show(if a=a then((i+2,0):Nat×Nat)else cF H 1 lab a).1=i+2;rw[if_pos rfl]⟩⟩
  .refine(R.relab (lab':=λ p=>if p=a then(i+2,0)else cF H 1 lab p) (λ p o e=>?_) λ p hp=>?_).up s
   .rw[if_neg (λ z=>by subst z;rw[ha]at e;cases e),bU e]
   .by_cases z:p=a
    .subst z;exact R.old.free ha
    .rw[if_neg z]at hp;exact R'.new p hp
  .dsimp only
   by_cases q:p=a
   .rw[if_pos q];exact .inr rfl
   .rw[if_neg q];exact z
def aH5(h:dO K H lab i v (.oz d)):Rp K (λ p=>(lab p).1<=1\/(lab p).1=i+2) H v d:=by
 obtain⟨a,xs,ds,rfl,rfl,h1,h2,h3⟩:=h;exact .lst h1 (.inr h2) (h3.wk λ p o e z=>⟨.inl z,λ q=>by subst q;lia⟩)
end
structure Ct where
 ι:Type
 X:ι->Cx
 prog:zAY
 w:World
 K:zAA
 mg:Str->Option Value
 base:Heap
 k:Nat
 G:Gx
 cx:∀i,(X i).prog=prog/\(X i).w=w/\(X i).K=K/\(X i).mg=mg/\(X i).base=base
 calm:∀i,(X i).calm=true
 room:∀i,dM k (X i).A
 own:∀i,PassesOwn (model (X i).prog (X i).w) (X i).A (X i).env (X i).xe
 pass:∀i,oZ (CX1 (X i).prog (X i).w) (X i) G.E
 dOk:Bool
 dcx:dOk=true->∀i,cR (X i) G.E
def Ct.hK(C:Ct)(i:C.ι):(C.X i).K=C.K:=(C.cx i).2.2.1
def WR{α:Type}(G:Gx)(r:Rs α)(P:α->Prop):Prop:=match r with
 | .ok a=>P a
 | .ex c=>∀H',aO G.H0 H'->G.E (.ref (G.cl c)) none H'
 | .st=>False
theorem WR.bd(h:WR G (r.bd k) P):WR G r (λ a=>WR G (k a) P):=by
 cases r with
 |ok a=>exact h
 |ex c=>exact h
 |st=>exact h
def WR.imp(h:WR G r P)(f:∀a,r= .ok a->P a->P' a):WR G r P':=by
 cases r with
 |ok a=>exact f a rfl h
 |ex c=>exact h
 |st=>exact h
abbrev QE(K:zAA)(m:Mode)(lab:Lab)(H:Hp)(Q:VK):D->Prop:=λ d=>∀v H',aO H H'->Rp K (fpM m lab H) H' v d->Q v H'
abbrev QA(K:zAA)(m:Mode)(lab:Lab)(H:Hp)(Q:List V->Hp->Prop):List D->Prop:=λ ds=>∀vs H',aO H H'->Rps K (fpM m lab H) H' vs ds->Q vs H'
abbrev QT(H:Hp)(Q:Bool->Hp->Prop):Bool->Prop:=λ b=>∀H',aO H H'->Q b H'
def gr(K:zAA)(G:Gx)(m:Mode)(t:TE)(f:En->Rs D):Prop:=∀U Z H ρ lab (Q:VK),RR K G U ρ Z H lab->WR G (f ρ) (QE K m lab H Q)->t Z H Q
def aHN(K:zAA)(G:Gx)(m:Mode)(t:TA)(f:En->Rs (List D)):Prop:=∀U Z H ρ lab (Q:List V->Hp->Prop),RR K G U ρ Z H lab->WR G (f ρ) (QA K m lab H Q)->t Z H Q
def wA(K:zAA)(G:Gx)(t:TT)(f:En->Rs Bool):Prop:=∀U Z H ρ lab (Q:Bool->Hp->Prop),RR K G U ρ Z H lab->WR G (f ρ) (QT H Q)->t Z H Q
def SE(C:Ct)(m:Mode)(e:Expr)(f:En->Rs D):Prop:=∃t,(∀i,PE (C.X i) e t)/\gr C.K C.G m t f
def SA(C:Ct)(m:Mode)(es:List Expr)(f:En->Rs (List D)):Prop:=∃t,(∀i,PA (C.X i) es t)/\aHN C.K C.G m t f
def ST(C:Ct)(e:Expr)(f:En->Rs Bool):Prop:=∃t,(∀i,PT (C.X i) e t)/\wA C.K C.G t f
def SW(C:Ct)(e:Expr)(f:En->Rs Bool):Prop:=∃t,(∀i,PW (C.X i) e t)/\wA C.K C.G t f
def SW.st(h:SW C e f):ST C e f:=let⟨t,h1,h2⟩:=h;⟨t,λ i=>(h1 i).pt,h2⟩
def aDK(i:Nat):En->Rs D:=λ ρ=>match ρ[i]? with
 |some (.sh d)=>.ok d
 |some (.nw d)=>.ok d
 |some (.ow d)=>.ok d
 |some (.oz d)=>.ok d
 |some (.o2 l)=>.ok (.lst (l.map .lst))
 |_=>.st
def aD(i:Nat):En->Rs D:=λ ρ=>match ρ[i]? with
 |some (.sh d)=>.ok d
 |some (.nw d)=>.ok d
 |_=>.st
def jr(i:Nat):En->Rs D:=λ ρ=>match ρ[i]? with
 |some (.nw d)=>.ok d
 |_=>.st
def vW(i:Nat):En->Rs D:=λ ρ=>match ρ[i]? with
 |some (.ow d)=>.ok d
 |some (.o2 l)=>.ok (.lst (l.map .lst))
 |_=>.st
def cD(d:D):En->Rs D:=λ _=>.ok d
def aBx{K:zAA}{H:Hp}{lab:Lab}{i:Nat}{v:V}{l:List (List D)}(h:dO K H lab i v (.o2 l)):Rp K (λ p=>(lab p).1=i+2) H v (.lst (l.map .lst)):=by
 obtain⟨a,xs,rfl,ha,hla,hlen,hin⟩:=h;refine .lst ha (by rw[hla]) ?_;have go:∀(xs:List V) (l:List (List D)) (n:Nat),xs.length=l.length->0<n->(∀(j:Nat) x ds,xs[j]? =some x->l[j]? =some ds->Rp K (λ p=>lab p=(i+2,n+j)) H x (.lst ds))->Rps K (λ p=>(lab p).1=i+2/\p≠a) H xs (l.map .lst):=by
  intro xs;induction xs with
  |nil=>intro l n hl _ _;cases l with|nil=>exact .nil|cons _ _=>simp at hl
  |cons x xs ih=>
   intro l n hl hn h;cases l with
   |nil=>simp at hl
   |cons ds l=>
    refine .cons (Rp.wk (λ p o e z=>⟨by rw[z],λ e=>by rw[e,hla]at z;have z2:(0:Nat)=n+0:=congrArg Prod.snd z;lia⟩) (h 0 x ds rfl rfl)) (ih l (n+1) (by simpa using hl) (by lia) λ j y es e1 e2=>?_);have z:=h (j+1) y es (by simpa using e1) (by simpa using e2);rw[show n+1+j=n+(j+1)by lia];exact z
 exact go xs l 1 hlen (by lia) λ j x ds e1 e2=>by have z:=hin j x ds e1 e2;rw[show 1+j=j+1 by lia];exact z
section
variable{C:Ct}{pos:Pos}
def aFn(K:zAA)(G:Gx)(i:Nat):gr K G (some [0,1,i+2]) (oA i) (aDK i):=by
 intro U Z H ρ lab Q R W;unfold aDK at W;cases e:ρ[i]? with
 |none=>rw[e]at W;exact W.elim
 |some s=>
  rw[e]at W;rcases R.sl i s e with rfl|⟨v,ev,hv⟩
  .exact zAM W
  .cases s with
   |no=>exact zAM W
   |sh d=>exact⟨v,ev,W v H (aO.refl H) (Rp.wk (λ p o e z=>.inr (by show(lab p).1∈[0,1,i+2];rcases(show(lab p).1=0\/(lab p).1=1 by lia)with q|q<;>rw[q]<;>simp)) hv)⟩
   |nw d=>exact⟨v,ev,W v H (aO.refl H) (Rp.wk (λ p o e z=>.inr (by show(lab p).1∈[0,1,i+2];rw[z];simp)) hv)⟩
   |ow d=>exact⟨v,ev,W v H (aO.refl H) (Rp.wk (λ p o e z=>.inr (by show(lab p).1∈[0,1,i+2];rcases z with q|q<;>rw[q]<;>simp)) hv.1)⟩
   |oz d=>exact⟨v,ev,W v H (aO.refl H) (Rp.wk (λ p o e z=>.inr (by show(lab p).1∈[0,1,i+2];rcases(show(lab p).1=0\/(lab p).1=1\/(lab p).1=i+2 by lia)with q|q|q<;>rw[q]<;>simp)) (aH5 hv))⟩
   |o2 l=>exact⟨v,ev,W v H (aO.refl H) (Rp.wk (λ p o e z=>.inr (by show(lab p).1∈[0,1,i+2];rw[z];simp)) (aBx hv))⟩
def aD4(K:zAA)(G:Gx)(i:Nat):gr K G (some [0,1]) (oA i) (aD i):=by
 intro U Z H ρ lab Q R W;unfold aD at W;cases e:ρ[i]? with
 |none=>rw[e]at W;exact W.elim
 |some s=>
  rw[e]at W;rcases R.sl i s e with rfl|⟨v,ev,hv⟩
  .exact zAM W
  .cases s with
   |sh d=>exact⟨v,ev,W v H (aO.refl H) (Rp.wk (λ p o e z=>.inr (by show(lab p).1∈[0,1];rcases(show(lab p).1=0\/(lab p).1=1 by lia)with q|q<;>rw[q]<;>simp)) hv)⟩
   |nw d=>exact⟨v,ev,W v H (aO.refl H) (Rp.wk (λ p o e z=>.inr (by show(lab p).1∈[0,1];rw[z];simp)) hv)⟩
   |_=>exact zAM W
def aD6(K:zAA)(G:Gx)(i:Nat):gr K G (some [1]) (oA i) (jr i):=by
 intro U Z H ρ lab Q R W;unfold jr at W;cases e:ρ[i]? with
 |none=>rw[e]at W;exact W.elim
 |some s=>
  rw[e]at W;rcases R.sl i s e with rfl|⟨v,ev,hv⟩
  .exact zAM W
  .cases s with
   |nw d=>exact⟨v,ev,W v H (aO.refl H) (Rp.wk (λ p o e z=>.inr (by show(lab p).1∈[1];rw[z];simp)) hv)⟩
   |_=>exact zAM W
def aD5(K:zAA)(G:Gx)(i:Nat):gr K G (some [1,i+2]) (oA i) (vW i):=by
 intro U Z H ρ lab Q R W;unfold vW at W;cases e:ρ[i]? with
 |none=>rw[e]at W;exact W.elim
 |some s=>
  rw[e]at W;rcases R.sl i s e with rfl|⟨v,ev,hv⟩
  .exact zAM W
  .cases s with
   |ow d=>exact⟨v,ev,W v H (aO.refl H) (Rp.wk (λ p o e z=>.inr (by show(lab p).1∈[1,i+2];rcases z with q|q<;>rw[q]<;>simp)) hv.1)⟩
   |o2 l=>exact⟨v,ev,W v H (aO.refl H) (Rp.wk (λ p o e z=>.inr (by show(lab p).1∈[1,i+2];rw[z];simp)) (aBx hv))⟩
   |_=>exact zAM W
def aIA(i:Nat)(hN:∀j,(C.X j).N[i]? =some x:=by intro _;rfl)(hv:∀j,Vis (C.X j).env.scope x:=by intro _;first|exact zCo rfl|exact zCS (zCo rfl)|exact zCS (zCS rfl))(hd:Nd x:=by decide)
  (hcd:(x==("__classdict__":Str))=false:=by decide):SE C (some [0,1,i+2]) (.Name x pos) (aDK i):=⟨_,λ j=>gq (hN j) (hv j) hd hcd,aFn _ _ i⟩
def aA(i:Nat)(hN:∀j,(C.X j).N[i]? =some x:=by intro _;rfl)(hv:∀j,Vis (C.X j).env.scope x:=by intro _;first|exact zCo rfl|exact zCS (zCo rfl)|exact zCS (zCS rfl))(hd:Nd x:=by decide)
  (hcd:(x==("__classdict__":Str))=false:=by decide):SE C (some [0,1]) (.Name x pos) (aD i):=⟨_,λ j=>gq (hN j) (hv j) hd hcd,aD4 _ _ i⟩
def cN(i:Nat)(hN:∀j,(C.X j).N[i]? =some x:=by intro _;rfl)(hv:∀j,Vis (C.X j).env.scope x:=by intro _;first|exact zCo rfl|exact zCS (zCo rfl)|exact zCS (zCS rfl))(hd:Nd x:=by decide)
  (hcd:(x==("__classdict__":Str))=false:=by decide):SE C (some [1]) (.Name x pos) (jr i):=⟨_,λ j=>gq (hN j) (hv j) hd hcd,aD6 _ _ i⟩
def yE(i:Nat)(hN:∀j,(C.X j).N[i]? =some x:=by intro _;rfl)(hv:∀j,Vis (C.X j).env.scope x:=by intro _;first|exact zCo rfl|exact zCS (zCo rfl)|exact zCS (zCS rfl))(hd:Nd x:=by decide)
  (hcd:(x==("__classdict__":Str))=false:=by decide):SE C (some [1,i+2]) (.Name x pos) (vW i):=⟨_,λ j=>gq (hN j) (hv j) hd hcd,aD5 _ _ i⟩
def aH:SE C (some []) (.Constant (.int i) j pos) (cD (.int i)):=⟨_,λ _=>aAt,λ U Z H ρ lab Q R W=>W _ H (aO.refl H) (.int i)⟩
def dq:SE C (some []) (.Constant (.bool b) j pos) (cD (.bl b)):=⟨_,λ _=>aEL,λ U Z H ρ lab Q R W=>W _ H (aO.refl H) (.bl b)⟩
def uE:SE C (some []) (.Constant .none j pos) (cD .non):=⟨_,λ _=>aEF,λ U Z H ρ lab Q R W=>W _ H (aO.refl H) .non⟩
def qY:SE C (some []) (.Constant (.str x) j pos) (cD (.str x)):=⟨_,λ _=>dN,λ U Z H ρ lab Q R W=>W _ H (aO.refl H) (.str x)⟩
def aBl(hm:C.mg x=some u)(r:RelV v u)(hd:∀A H,Rp C.K A H v d)(hdb:Nd x:=by decide)(hg:∀i,Gl (C.X i) x:=by intro _;rfl):SE C (some []) (.Name x pos) (cD d):=
 ⟨_,λ i=>cg (hg i) (by rw[(C.cx i).2.2.2.1];exact hm) r hdb,λ U Z H ρ lab Q R W=>W _ H (aO.refl H) (hd _ _)⟩
def vm(d:D):Rs D:=if imm d=true then .ok d else .st
def cP(f:En->Rs D):En->Rs D:=λ ρ=>(f ρ).bd vm
def bj(h:SE C m e f):SE C (some []) e (cP f):=by
 obtain⟨t,h1,h2⟩:=h;refine⟨t,h1,λ U Z H ρ lab Q R W=>h2 U Z H ρ lab Q R (W.bd.imp λ d _ w v H' s r=>?_)⟩;unfold vm at w;by_cases hd:imm d=true
 .rw[if_pos hd]at w
  exact w v H' s (r.imm hd)
 .rw[if_neg hd]at w
  exact zAM w
def aJ:En->Rs (List D):=λ _=>.ok []
def aC(f:En->Rs D)(g:En->Rs (List D)):En->Rs (List D):=λ ρ=>(f ρ).bd λ d=>(g ρ).bd λ ds=>.ok (d::ds)
variable{m m1 m2:Mode}{e a b:Expr}{es:List Expr}{f fa fb:En->Rs D}{g:En->Rs (List D)}
def aG:SA C (some []) [] aJ:=⟨_,λ _=>cu,λ U Z H ρ lab Q R W=>W _ H (aO.refl H) .nil⟩
def aB(h:SE C m1 e f)(hr:SA C m2 es g)(hs:∀i,zA2 (e::es) (C.X i).env=(false,eval e (C.X i).env)::zA2 es (C.X i).env:=by intro _;rfl):SA C (jn m1 m2) (e::es) (aC f g):=by
 obtain⟨t,h1,h2⟩:=h;obtain⟨u,k1,k2⟩:=hr;refine⟨_,λ i=>aV (h1 i) (k1 i) (hs i),λ U Z H ρ lab Q R W=>?_⟩;refine h2 U Z H ρ lab _ R (W.bd.imp λ d _ w x H1 s1 r1=>?_);refine k2 U Z H1 ρ lab _ (R.up s1) (w.bd.imp λ ds _ w xs H2 s2 r2=>?_);exact w (x::xs) H2 (s1.trans s2) (.cons (r1.mono s2 λ p o _ z=>aHc z) (r2.wk λ p o _ z=>aHb (vC s1 z)))
def eU(g:En->Rs (List D)):En->Rs D:=λ ρ=>(g ρ).bd λ ds=>if ds.length<=zAV then .ok (.tup ds)else .st
def jG(g:En->Rs (List D)):En->Rs D:=λ ρ=>(g ρ).bd λ ds=>if ds.length<=zAV then .ok (.lst ds)else .st
def cJ{x1}(h:SA C m es g):SE C m (.Tuple es x1 pos) (eU g):=by
 obtain⟨t,h1,h2⟩:=h;refine⟨_,λ i=>aGK (h1 i),λ U Z H ρ lab Q R W=>h2 U Z H ρ lab _ R (W.bd.imp λ ds _ w xs H1 s1 r1=>?_)⟩;by_cases hz:ds.length<=zAV
 .rw[if_pos hz]at w
  exact⟨by rw[r1.length];exact hz,λ p H' s hp _=>w _ H' (s1.trans s) (.tup (SqT.of hp) (r1.up s))⟩
 .rw[if_neg hz]at w
  exact zAM w
def lr(h:SA C m es g):SE C m (.List es pos) (jG g):=by
 obtain⟨t,h1,h2⟩:=h;refine⟨_,λ i=>jz (h1 i),λ U Z H ρ lab Q R W=>h2 U Z H ρ lab _ R (W.bd.imp λ ds _ w xs H1 s1 r1=>?_)⟩;by_cases hz:ds.length<=zAV
 .rw[if_pos hz]at w
  exact⟨by rw[r1.length];exact hz,λ p H' s hp hn=>w _ H' (s1.trans s) (.lst hp (.inl (s1.free hn)) ((r1.wk λ q o e z=>⟨z,λ e'=>by subst e';rw[hn]at e;cases e⟩).up s))⟩
 .rw[if_neg hz]at w
  exact zAM w
def aFs:SE C (some []) (.Dict [] [] pos) (cD (.dct [] [])):=
 ⟨_,λ _=>aEI,λ U Z H ρ lab Q R W p H' s hp hn=>W _ H' s (.dK (kvs:=[]) hp (.inl hn) .nil)⟩
def aK7(H:Hp)(v:V)(d:D):Prop:=aEY d=true->∃a,v= .ref a/\H a=none
def aK1(K:zAA)(G:Gx)(m:Mode)(t:TE)(f:En->Rs D):Prop:=∀U Z H ρ lab (Q:VK),RR K G U ρ Z H lab->WR G (f ρ) (λ d=>∀v H',aO H H'->Rp K (fpM m lab H) H' v d->aK7 H v d->Q v H')->t Z H Q
def SF(C:Ct)(m:Mode)(e:Expr)(f:En->Rs D):Prop:=∃t,(∀i,PE (C.X i) e t)/\aK1 C.K C.G m t f
def aA8(h:SA C m es g):SF C m (.List es pos) (jG g):=by
 obtain⟨t,h1,h2⟩:=h;refine⟨_,λ i=>jz (h1 i),λ U Z H ρ lab Q R W=>h2 U Z H ρ lab _ R (W.bd.imp λ ds _ w xs H1 s1 r1=>?_)⟩;by_cases hz:ds.length<=zAV
 .rw[if_pos hz]at w
  exact⟨by rw[r1.length];exact hz,λ p H' s hp hn=>w _ H' (s1.trans s) (.lst hp (.inl (s1.free hn)) ((r1.wk λ q o e z=>⟨z,λ e'=>by subst e';rw[hn]at e;cases e⟩).up s)) λ _=>⟨p,rfl,s1.free hn⟩⟩
 .rw[if_neg hz]at w
  exact zAM w
def OpS(K:zAA)(r:R2)(fd:D->D->Rs D):Prop:=∀(A:Addr->Prop) x y d e H (Q:VK) z,Rp K A H x d->Rp K A H y e->fd d e= .ok z->(∀v H',aO H H'->Rp K (λ p=>H p=none\/A p) H' v z->Q v H')->r x y H Q
def UnS(K:zAA)(r:V->Hp->VK->Prop)(fd:D->Rs D):Prop:=∀(A:Addr->Prop) x d H (Q:VK) z,Rp K A H x d->fd d= .ok z->(∀v H',aO H H'->Rp K (λ p=>H p=none\/A p) H' v z->Q v H')->r x H Q
def qR(K:zAA)(r:List V->Hp->VK->Prop)(fd:List D->Rs D):Prop:=∀(A:Addr->Prop) xs ds H (Q:VK) z,Rps K A H xs ds->fd ds= .ok z->(∀v H',aO H H'->Rp K (λ p=>H p=none\/A p) H' v z->Q v H')->r xs H Q
def okD(r:Rs D):Rs D:=match r with
 | .ok d=>.ok d
 |_=>.st
def op2(fd:D->D->Rs D)(fa fb:En->Rs D):En->Rs D:=λ ρ=>(fa ρ).bd λ x=>(fb ρ).bd λ y=>okD (fd x y)
def op1(fd:D->Rs D)(fa:En->Rs D):En->Rs D:=λ ρ=>(fa ρ).bd λ x=>okD (fd x)
def opA(fd:List D->Rs D)(fa:En->Rs (List D)):En->Rs D:=λ ρ=>(fa ρ).bd λ x=>okD (fd x)
theorem WR.okD(h:WR G (okD r) P):∃z,r= .ok z/\P z:=by
 cases r with
 |ok z=>exact⟨z,rfl,h⟩
 |ex c=>exact zAM h
 |st=>exact zAM h
def xx{K:zAA}{G:Gx}{r:R2}{ta tb:TE}{fd:D->D->Rs D}(hs:OpS K r fd)(h1:gr K G m1 ta fa)(h2:gr K G m2 tb fb):gr K G (jn m1 m2) (tOp r ta tb) (op2 fd fa fb):=by
 intro U Z H ρ lab Q R W;refine h1 U Z H ρ lab _ R (W.bd.imp λ d _ w x H1 s1 r1=>?_);refine h2 U Z H1 ρ lab _ (R.up s1) (w.bd.imp λ e _ w y H2 s2 r2=>?_);obtain⟨z,ez,w⟩:=w.okD;refine hs (fpM (jn m1 m2) lab H) x y d e H2 Q z (r1.mono s2 λ p o _ q=>aHc q) (r2.wk λ p o _ q=>aHb (vC s1 q)) ez λ v H' s r=>w v H' ((s1.trans s2).trans s) (r.wk λ p o _ q=>?_)
 rcases q with q|q
 .exact .inl ((s1.trans s2).free q)
 .exact q
def aFo{K:zAA}{G:Gx}{r:V->Hp->VK->Prop}{ta:TE}{fd:D->Rs D}(hs:UnS K r fd)(h1:gr K G m ta fa):gr K G m (tUn r ta) (op1 fd fa):=by
 intro U Z H ρ lab Q R W;refine h1 U Z H ρ lab _ R (W.bd.imp λ d _ w x H1 s1 r1=>?_);obtain⟨z,ez,w⟩:=w.okD;refine hs (fpM m lab H) x d H1 Q z r1 ez λ v H' s r=>w v H' (s1.trans s) (r.wk λ p o _ q=>?_)
 rcases q with q|q
 .exact .inl (s1.free q)
 .exact q
def aBh{K:zAA}{G:Gx}{r:List V->Hp->VK->Prop}{ta:TA}{fd:List D->Rs D}(hs:qR K r fd)(h1:aHN K G m ta g):gr K G m (tCB r ta) (opA fd g):=by
 intro U Z H ρ lab Q R W;refine h1 U Z H ρ lab _ R (W.bd.imp λ d _ w x H1 s1 r1=>?_);obtain⟨z,ez,w⟩:=w.okD;refine hs (fpM m lab H) x d H1 Q z r1 ez λ v H' s r=>w v H' (s1.trans s) (r.wk λ p o _ q=>?_)
 rcases q with q|q
 .exact .inl (s1.free q)
 .exact q
def dZ(h:SE C m e f)(hi:∀ρ d,f ρ= .ok d->imm d=true):SE C (some []) e f:=by
 obtain⟨t,h1,h2⟩:=h;exact⟨t,h1,λ U Z H ρ lab Q R W=>h2 U Z H ρ lab Q R (W.imp λ d ed w v H' s r=>w v H' s (r.imm (hi ρ d ed)))⟩
def iD(h:∀x y z,fd x y= .ok z->imm z=true)(e:op2 fd fa fb ρ= .ok d):imm d=true:=by
 obtain⟨x,_,e⟩:=bM e;obtain⟨y,_,e⟩:=bM e;unfold okD at e;split at e
 .rename_i z hz
  cases e;exact h x y _ hz
 .cases e
def aGq(h:∀x z,fd x= .ok z->imm z=true)(e:op1 fd fa ρ= .ok d):imm d=true:=by
 obtain⟨x,_,e⟩:=bM e;unfold okD at e;split at e
 .rename_i z hz
  cases e;exact h x _ hz
 .cases e
def pX(h:∀x z,fd x= .ok z->imm z=true)(e:opA fd g ρ= .ok d):imm d=true:=by
 obtain⟨x,_,e⟩:=bM e;unfold okD at e;split at e
 .rename_i z hz
  cases e;exact h x _ hz
 .cases e
def wL(ro:∀i,OpR (C.X i) (zCV op) r)(hs:OpS C.K r fd)(ha:SE C m1 a fa)(hb:SE C m2 b fb):SE C (jn m1 m2) (.BinOp a op b pos) (op2 fd fa fb):=by
 obtain⟨t,h1,h2⟩:=ha;obtain⟨u,k1,k2⟩:=hb;exact⟨_,λ i=>aEE (ro i) (h1 i) (k1 i),xx hs h2 k2⟩
def aJr(ro:∀i,UnR (C.X i) (unaryOp op) r)(hs:UnS C.K r fd)(ha:SE C m a fa):SE C m (.UnaryOp op a pos) (op1 fd fa):=by
 obtain⟨t,h1,h2⟩:=ha;exact⟨_,λ i=>aH4 (ro i) (h1 i),aFo hs h2⟩
def uF(ro:∀i,OpR (C.X i) (zAv op) r)(hs:OpS C.K r fd)(ha:SE C m1 a fa)(hb:SE C m2 b fb)(hm:zBr op b=false:=by first|exact aES _|(with_unfolding_all rfl)):
  SE C (jn m1 m2) (.Compare a [op] [b] pos) (op2 fd fa fb):=by
 obtain⟨t,h1,h2⟩:=ha;obtain⟨u,k1,k2⟩:=hb;exact⟨_,λ i=>aGN (ro i) (h1 i) (k1 i) hm,xx hs h2 k2⟩
variable{p:Pos}{x:Str}{id T:String}
def lw(ro:∀i,eQ (C.X i) (.builtin id) r)(hs:qR C.K r fd)(hg:∀i,Gl (C.X i) x)(hm:C.mg x=none)(hv:zBR x=some (.builtin id))(ha:SA C m (e::es) g)
  (hn:x≠"__name__":=by decide)(hdb:Nd x:=by decide)(he:∀i,zA2 (e::es) (C.X i).env=(false,eval e (C.X i).env)::zA2 es (C.X i).env:=by intro _;rfl)
  (hpl:∀i,(zC2 pos (zA2 es (C.X i).env)).any (·.1)=false:=by intro _;rfl):SE C m (.Call (.Name x p) (e::es) [] pos) (opA fd g):=by
 obtain⟨t,h1,h2⟩:=ha;exact⟨_,λ i=>pK (ro i) (hg i) (by rw[(C.cx i).2.2.2.1];exact hm) hv (h1 i) hn hdb (he i) (hpl i),aBh hs h2⟩
def zZ(ro:∀i,eQ (C.X i) (.type T) r)(hs:qR C.K r fd)(hg:∀i,Gl (C.X i) x)(hm:C.mg x=none)(hv:zBR x=some (.type T))(ha:SA C m (e::es) g)
  (hn:x≠"__name__":=by decide)(hdb:Nd x:=by decide)(he:∀i,zA2 (e::es) (C.X i).env=(false,eval e (C.X i).env)::zA2 es (C.X i).env:=by intro _;rfl)
  (hpl:∀i,(zC2 pos (zA2 es (C.X i).env)).any (·.1)=false:=by intro _;rfl):SE C m (.Call (.Name x p) (e::es) [] pos) (opA fd g):=by
 obtain⟨t,h1,h2⟩:=ha;exact⟨_,λ i=>wN (ro i) (hg i) (by rw[(C.cx i).2.2.2.1];exact hm) hv (h1 i) hn hdb (he i) (hpl i),aBh hs h2⟩
def sy(f g:En->Rs D):En->Rs D:=λ ρ=>(f ρ).bd λ d=>match d with
 | .bl true=>g ρ
 | .bl false=>.ok (.bl false)
 |_=>.st
def aIr:D->Rs D
 | .bl b=>.ok (.bl (!b))
 |_=>.st
variable{rest:List Expr}
def lq{op}(h:SE C m a fa):SE C m (.BoolOp op [a] pos) fa:=by
 obtain⟨t,h1,h2⟩:=h;exact⟨_,λ i=>aIY (h1 i),h2⟩
def jT(ha:SE C m1 a fa)(hb:SE C m2 (.BoolOp .And (b::rest) pos) fb):SE C m2 (.BoolOp .And (a::b::rest) pos) (sy fa fb):=by
 obtain⟨t,h1,h2⟩:=ha;obtain⟨u,k1,k2⟩:=hb;refine⟨_,λ i=>aI2 (h1 i) (k1 i),λ U Z H ρ lab Q R W=>h2 U Z H ρ lab _ R (W.bd.imp λ d _ w x H1 s1 r1=>?_)⟩;cases r1 with
 |bl c=>
  refine⟨c,rfl,?_⟩;cases c with
  |true=>
   rw[if_pos rfl];exact k2 U Z H1 ρ lab Q (R.up s1) (w.imp λ z _ w v H' s r=>w v H' (s1.trans s) (r.wk λ p o _ q=>vC s1 q))
  |false=>
   rw[if_neg zAG];exact w _ H1 s1 (.bl false)
 |_=>exact zAM w
def aID(ha:SE C m a fa):SE C (some []) (.UnaryOp .Not a pos) (op1 aIr fa):=by
 obtain⟨t,h1,h2⟩:=ha;refine⟨_,λ i=>aIZ (h1 i),λ U Z H ρ lab Q R W=>h2 U Z H ρ lab _ R (W.bd.imp λ d _ w x H1 s1 r1=>?_)⟩;obtain⟨z,ez,w⟩:=w.okD;cases r1 with
 |bl c=>cases ez;exact⟨c,rfl,w _ H1 s1 (.bl _)⟩
 |_=>cases ez
def chD(fd fd':D->D->Rs D)(fa fb fc:En->Rs D):En->Rs D:=λ ρ=>(fa ρ).bd λ x=>(fb ρ).bd λ y=>(okD (fd x y)).bd λ z=>match z with
 | .bl true=>(fc ρ).bd λ w=>okD (fd' y w)
 | .bl false=>.ok (.bl false)
 |_=>.st
def wJ{K:zAA}{G:Gx}{r r':R2}{ta tb tc:TE}{fd fd':D->D->Rs D}{fc:En->Rs D}{m3:Mode}(hs:OpS K r fd)(hs':OpS K r' fd')(hi:∀x y z,fd' x y= .ok z->imm z=true)(h1:gr K G m1 ta fa)(h2:gr K G m2 tb fb)(h3:gr K G m3 tc fc):
  gr K G (some []) (aA6 r r' ta tb tc) (chD fd fd' fa fb fc):=by
 intro U Z H ρ lab Q R W;refine h1 U Z H ρ lab _ R (W.bd.imp λ d _ w x H1 s1 r1=>?_);refine h2 U Z H1 ρ lab _ (R.up s1) (w.bd.imp λ e _ w y H2 s2 r2=>?_);obtain⟨z,ez,w⟩:=w.bd.okD;refine hs (λ _=>True) x y d e H2 _ z (r1.mono s2 λ p o _ q=>trivial) (r2.wk λ p o _ q=>trivial) ez λ v H3 s3 r3=>?_
 cases r3 with
 |bl c=>
  refine⟨c,rfl,?_⟩;cases c with
  |false=>
   rw[if_neg zAG];exact w _ H3 ((s1.trans s2).trans s3) (.bl false)
  |true=>
   rw[if_pos rfl];refine h3 U Z H3 ρ lab _ ((R.up s1).up (s2.trans s3)) (w.bd.imp λ e' _ w y' H4 s4 r4=>?_);obtain⟨z',ez',w⟩:=w.okD;exact hs' (λ _=>True) y y' e e' H4 Q z' (r2.mono (s3.trans s4) λ p o _ q=>trivial) (r4.wk λ p o _ q=>trivial) ez' λ v H5 s5 r5=>w v H5 ((((s1.trans s2).trans s3).trans s4).trans s5) (r5.imm (hi _ _ _ ez'))
 |_=>exact zAM w
def zY(ro:∀i,OpR (C.X i) (zAv op) r)(hs:OpS C.K r fd)(ro':∀i,OpR (C.X i) (zAv op') r')(hs':OpS C.K r' fd')(hi:∀x y z,fd' x y= .ok z->imm z=true)
  (ha:SE C m1 a fa)(hb:SE C m2 b fb)(hc:SE C m3 c fc)(hm:zE2 [op,op'] [b,c]=false:=by with_unfolding_all rfl):SE C (some []) (.Compare a [op,op'] [b,c] pos) (chD fd fd' fa fb fc):=by
 obtain⟨t,h1,h2⟩:=ha;obtain⟨u,k1,k2⟩:=hb;obtain⟨v,l1,l2⟩:=hc;exact⟨_,λ i=>aEJ (ro i) (ro' i) (h1 i) (k1 i) (l1 i) hm,wJ hs hs' hi h2 k2 l2⟩
def aHr:D->Rs Bool
 | .non=>.ok false
 | .bl b=>.ok b
 | .int i=>.ok (i !=0)
 | .tup l=>.ok (!l.isEmpty)
 | .lst l=>.ok (!l.isEmpty)
 |_=>.st
def blD:D->Rs Bool
 | .bl b=>.ok b
 |_=>.st
def tst(f:En->Rs D):En->Rs Bool:=λ ρ=>(f ρ).bd aHr
def tsb(f:En->Rs D):En->Rs Bool:=λ ρ=>(f ρ).bd blD
def ux{K:zAA}{A:Addr->Prop}{H:Hp}{xs:List V}{ds:List D}(r:Rps K A H xs ds):(!ds.isEmpty)= !xs.isEmpty:=by cases r<;>rfl
def fM(ha:SE C m a fa)(he:∀i whole,isTrue a (C.X i).env whole=(do let v <-whole;zE3 a.pos;zE1 [v] (truthy v)):=by intro _ _;rfl):ST C a (tst fa):=by
 obtain⟨t,h1,h2⟩:=ha;refine⟨λ Z H Q=>t Z H λ x H'=>∃k,aJ6 C.K x H' k/\Q k H',λ i=>by rw[<-C.hK i];exact aDv (h1 i) (he i),λ U Z H ρ lab Q R W=>h2 U Z H ρ lab _ R (W.bd.imp λ d _ w x H1 s1 r1=>?_)⟩;cases r1 with
 |non=>exact⟨false,rfl,w H1 s1⟩
 |bl b=>exact⟨b,rfl,w H1 s1⟩
 |int i=>exact⟨i !=0,rfl,w H1 s1⟩
 |tup h r=>exact⟨_,.inr (.inl ⟨_,h,rfl⟩),by rw[<-ux r];exact w H1 s1⟩
 |lst h m r=>exact⟨_,.inl ⟨_,SqL.of h,rfl⟩,by rw[<-ux r];exact w H1 s1⟩
 |_=>exact zAM w
def aBf{K:zAA}{G:Gx}{t:TE}{f:En->Rs D}(h:gr K G m t f):wA K G (aDV t) (tsb f):=λ U Z H ρ lab Q R W=>h U Z H ρ lab _ R (W.bd.imp λ d _ w x H1 s1 r1=>by
 cases r1 with
 |bl b=>exact⟨b,rfl,w H1 s1⟩
 |_=>exact zAM w)
def oF(ro:∀i,OpR (C.X i) (zAv op) r)(hs:OpS C.K r fd)(ha:SE C m1 a fa)(hb:SE C m2 b fb)(hm:zBr op b=false:=by first|exact aES _|(with_unfolding_all rfl)):
  ST C (.Compare a [op] [b] pos) (tsb (op2 fd fa fb)):=by
 obtain⟨t,h1,h2⟩:=ha;obtain⟨u,k1,k2⟩:=hb;exact⟨_,λ i=>aGD (ro i) (h1 i) (k1 i) hm,aBf (xx hs h2 k2)⟩
def aD0(ro:∀i,OpR (C.X i) (zAv op) r)(hs:OpS C.K r fd)(ro':∀i,OpR (C.X i) (zAv op') r')(hs':OpS C.K r' fd')(hi:∀x y z,fd' x y= .ok z->imm z=true)
  (ha:SE C m1 a fa)(hb:SE C m2 b fb)(hc:SE C m3 c fc)(hm:zE2 [op,op'] [b,c]=false:=by with_unfolding_all rfl):ST C (.Compare a [op,op'] [b,c] pos) (tsb (chD fd fd' fa fb fc)):=by
 obtain⟨t,h1,h2⟩:=ha;obtain⟨u,k1,k2⟩:=hb;obtain⟨v,l1,l2⟩:=hc;exact⟨_,λ i=>aDw (ro i) (ro' i) (h1 i) (k1 i) (l1 i) hm,aBf (wJ hs hs' hi h2 k2 l2)⟩
variable{ga gb:En->Rs Bool}
def aHK(f g:En->Rs Bool):En->Rs Bool:=λ ρ=>(f ρ).bd λ k=>if k=true then g ρ else .ok false
def orT(f g:En->Rs Bool):En->Rs Bool:=λ ρ=>(f ρ).bd λ k=>if k=true then .ok true else g ρ
def kI(f:En->Rs Bool):En->Rs Bool:=λ ρ=>(f ρ).bd λ k=>.ok (!k)
def aFj(ha:ST C a ga):SW C (.BoolOp .And [a] pos) ga:=let⟨t,h1,h2⟩:=ha;⟨t,λ i=>aGC (h1 i),h2⟩
def oE(ha:ST C a ga):SW C (.BoolOp .Or [a] pos) ga:=let⟨t,h1,h2⟩:=ha;⟨t,λ i=>aDt (h1 i),h2⟩
def aHw(ha:ST C a ga)(hb:SW C (.BoolOp .And (b::rest) pos) gb):SW C (.BoolOp .And (a::b::rest) pos) (aHK ga gb):=by
 obtain⟨t,h1,h2⟩:=ha;obtain⟨u,k1,k2⟩:=hb;refine⟨_,λ i=>aIN (h1 i) (k1 i),λ U Z H ρ lab Q R W=>h2 U Z H ρ lab _ R (W.bd.imp λ k _ w H1 s1=>?_)⟩;cases k with
 |true=>
  rw[if_pos rfl]at w ⊢;exact k2 U Z H1 ρ lab Q (R.up s1) (w.imp λ z _ w H' s=>w H' (s1.trans s))
 |false=>
  rw[if_neg zAG]at w ⊢;exact w H1 s1
def rJ(ha:ST C a ga)(hb:SW C (.BoolOp .Or (b::rest) pos) gb):SW C (.BoolOp .Or (a::b::rest) pos) (orT ga gb):=by
 obtain⟨t,h1,h2⟩:=ha;obtain⟨u,k1,k2⟩:=hb;refine⟨_,λ i=>aH2 (h1 i) (k1 i),λ U Z H ρ lab Q R W=>h2 U Z H ρ lab _ R (W.bd.imp λ k _ w H1 s1=>?_)⟩;cases k with
 |false=>
  rw[if_neg zAG]at w ⊢;exact k2 U Z H1 ρ lab Q (R.up s1) (w.imp λ z _ w H' s=>w H' (s1.trans s))
 |true=>
  rw[if_pos rfl]at w ⊢;exact w H1 s1
def fO(ha:ST C a ga):ST C (.UnaryOp .Not a pos) (kI ga):=by
 obtain⟨t,h1,h2⟩:=ha;exact⟨_,λ i=>aAr (h1 i),λ U Z H ρ lab Q R W=>h2 U Z H ρ lab _ R (W.bd.imp λ k _ w H1 s1=>w H1 s1)⟩
end
inductive Ou where
 |nx (ρ:En)|rt (d:D)|bk (ρ:En)|ct (ρ:En)|ex (c:Str)|st
noncomputable def Rs.bo{α:Type}:Rs α->(α->Ou)->Ou
 | .ok a,f=>f a
 | .ex c,_=>.ex c
 | .st,_=>.st
@[simp] def eF(a:α)(f:α->Ou):(Rs.ok a).bo f=f a:=aL rfl
@[simp] def bo_ex(c:Str)(f:α->Ou):(Rs.ex c:Rs α).bo f= .ex c:=aL rfl
noncomputable def Ou.sq:Ou->(En->Ou)->Ou
 | .nx ρ,f=>f ρ
 |o,_=>o
@[simp] def bO(ρ:En)(f:En->Ou):(Ou.nx ρ).sq f=f ρ:=aL rfl
@[simp] def sq_rt(d:D)(f:En->Ou):(Ou.rt d).sq f= .rt d:=aL rfl
@[simp] def sq_ex(c:Str)(f:En->Ou):(Ou.ex c).sq f= .ex c:=aL rfl
def WS(K:zAA)(G:Gx)(U:List (V×D))(o:Ou)(De:Ends):Prop:=match o with
 | .nx ρ=>∀Z H lab,RR K G U ρ Z H lab->De.nx Z H
 | .bk ρ=>∀Z H lab,RR K G U ρ Z H lab->De.bk Z H
 | .ct ρ=>∀Z H lab,RR K G U ρ Z H lab->De.ct Z H
 | .rt d=>∀v H,aO G.H0 H->Rp K (λ p=>G.H0 p=none) H v d->De.rt v H
 | .ex c=>∀H',aO G.H0 H'->G.E (.ref (G.cl c)) none H'
 | .st=>False
theorem WS.bo{K:zAA}(h:WS K G U (r.bo k) De):WR G r (λ a=>WS K G U (k a) De):=by
 cases r with
 |ok a=>exact h
 |ex c=>exact h
 |st=>exact h
def aKZ(K:zAA)(G:Gx)(t:TS)(f:En->Ou):Prop:=∀U Z H ρ lab (De:Ends),RR K G U ρ Z H lab->WS K G U (f ρ) De->t De Z H
def SS(C:Ct)(s:Stmt)(f:En->Ou):Prop:=∃t,(∀i,PS (C.X i) s t)/\aKZ C.K C.G t f
def SSs(C:Ct)(s:List Stmt)(f:En->Ou):Prop:=∃t,(∀i,PSs (C.X i) s t)/\aKZ C.K C.G t f
section
variable{C:Ct}{pos:Pos}{s:Stmt}{ss:List Stmt}{f g:En->Ou}{e:Expr}{m:Mode}{fe:En->Rs D}
def bF:SSs C [] .nx:=⟨_,λ _=>yP,λ U Z H ρ lab De R W=>W Z H lab R⟩
def bB(f g:En->Ou):En->Ou:=λ ρ=>(f ρ).sq g
def aM(h:SS C s f):SSs C [s] f:=let⟨t,h1,h2⟩:=h;⟨t,λ i=>jw (h1 i),h2⟩
def aK(h:SS C s f)(k:SSs C ss g):SSs C (s::ss) (bB f g):=by
 obtain⟨t,h1,h2⟩:=h;obtain⟨u,k1,k2⟩:=k;refine⟨_,λ i=>dR (h1 i) (k1 i),λ U Z H ρ lab De R W=>h2 U Z H ρ lab _ R ?_⟩;unfold bB at W;cases h:f ρ with
 |nx ρ'=>rw[h]at W;exact λ Z' H' lab' R'=>k2 U Z' H' ρ' lab' De R' W
 |rt d=>rw[h]at W;exact W
 |bk ρ'=>rw[h]at W;exact W
 |ct ρ'=>rw[h]at W;exact W
 |ex c=>rw[h]at W;exact W
 |st=>rw[h]at W;exact W
def frz(i:Nat)(ρ:En):En:=match ρ[i]? with
 |some (.ow d)=>ρ.set i (.nw d)
 |some (.o2 l)=>ρ.set i (.nw (.lst (l.map .lst)))
 |_=>ρ
def aKJ:Mode->Bool
 |some L=>L.all (·!=0)
 |none=>false
def retS(fe:En->Rs D):En->Ou:=λ ρ=>(fe ρ).bo .rt
def aj(he:SE C m e fe)(hm:aKJ m=true:=by rfl):SS C (.Return (some e) pos) (retS fe):=by
 obtain⟨t,h1,h2⟩:=he;refine⟨_,λ i=>uP (h1 i),λ U Z H ρ lab De R W=>h2 U Z H ρ lab _ R (W.bo.imp λ d _ w v H' s r=>w v H' (R.old.trans s) (r.wk λ p o _ z=>?_))⟩;rcases z with z|z
 .exact R.old.free z
 .cases m with
  |none=>cases hm
  |some L=>
   refine R.new p λ e0=>?_
   have:=zBE.mp hm _ z
   rw[e0]at this;simp at this
def xJ(fe:En->Rs D):En->Ou:=λ ρ=>(fe ρ).bo λ _=>.nx ρ
def xm(he:SE C m e fe)(hs:∀i,zC3 e none pos.line (C.X i).env=pure false:=by intro _;rfl):SS C (.Expr e pos) (xJ fe):=by
 obtain⟨t,h1,h2⟩:=he;exact⟨_,λ i=>pH (h1 i) (hs i),λ U Z H ρ lab De R W=>h2 U Z H ρ lab _ R (W.bo.imp λ d _ w v H' s r=>w Z H' lab (R.up s))⟩
def ifS(c:En->Rs Bool)(f g:En->Ou):En->Ou:=λ ρ=>(c ρ).bo λ k=>if k=true then f ρ else g ρ
def cZ{a b:List Stmt}(hc:ST C c fc)(ha:SSs C a f)(hb:SSs C b g):SS C (.If c a b pos) (ifS fc f g):=by
 obtain⟨tc,c1,c2⟩:=hc;obtain⟨t,h1,h2⟩:=ha;obtain⟨u,k1,k2⟩:=hb;refine⟨_,λ i=>aDz (c1 i) (h1 i) (k1 i),λ U Z H ρ lab De R W=>c2 U Z H ρ lab _ R (W.bo.imp λ k _ w H1 s1=>?_)⟩;cases k with
 |true=>rw[if_pos rfl]at w ⊢;exact h2 U Z H1 ρ lab De (R.up s1) w
 |false=>rw[if_neg zAG]at w ⊢;exact k2 U Z H1 ρ lab De (R.up s1) w
def SV(C:Ct)(i:Nat)(s:Stmt)(m:Mode)(f:En->Rs D):Prop:=∃t,(∀j,PS (C.X j) s (zP t (lH i)))/\gr C.K C.G m t f
def my(he:SE C m e fe)(hN:∀j,(C.X j).N[i]? =some x:=by intro _;rfl)(hx:∀j,Loc (C.X j).env.scope x:=by intro _;first|exact zCo rfl|exact zCS rfl)(hs:∀j,zC3 e (some (.Name x pos')) pos.line (C.X j).env=pure false:=by intro _;rfl)(hf:∀j,(C.X j).fn x=true\/(C.X j).env.scope.names.lookup x=some .local:=by intro _;first|exact .inl rfl|exact .inr rfl)(nd:∀j,(C.X j).N.Nodup:=by intro _;assumption):
  SV C i (.Assign [.Name x pos'] e pos) m fe:=by
 obtain⟨t,h1,h2⟩:=he;exact⟨t,λ j=>jy (nd j) (hN j) (hx j) (h1 j) (hs j) (hf j),h2⟩
def SVF(C:Ct)(i:Nat)(s:Stmt)(m:Mode)(f:En->Rs D):Prop:=∃t,(∀j,PS (C.X j) s (zP t (lH i)))/\aK1 C.K C.G m t f
def aDX(he:SF C m e fe)(hN:∀j,(C.X j).N[i]? =some x:=by intro _;rfl)(hx:∀j,Loc (C.X j).env.scope x:=by intro _;first|exact zCo rfl|exact zCS rfl)(hs:∀j,zC3 e (some (.Name x pos')) pos.line (C.X j).env=pure false:=by intro _;rfl)(hf:∀j,(C.X j).fn x=true\/(C.X j).env.scope.names.lookup x=some .local:=by intro _;first|exact .inl rfl|exact .inr rfl)(nd:∀j,(C.X j).N.Nodup:=by intro _;assumption):
  SVF C i (.Assign [.Name x pos'] e pos) m fe:=by
 obtain⟨t,h1,h2⟩:=he;exact⟨t,λ j=>jy (nd j) (hN j) (hx j) (h1 j) (hs j) (hf j),h2⟩
def aBw(P:Nat->Bool):Mode->Bool
 |some L=>L.all P
 |none=>false
def pL(h:aBw P m=true):∀k,inM m k->P k=true:=by
 intro k hk;cases m with
 |none=>cases h
 |some L=>exact zBE.mp h k hk
abbrev okS:Mode->Bool:=aBw λ k=>decide (k<=1)
abbrev okN:Mode->Bool:=aBw λ k=>k==1
abbrev okO(i:Nat):Mode->Bool:=aBw λ k=>k==1||k==i+2
def iC(i:Nat)(fe:En->Rs D):En->Ou:=λ ρ=>(fe ρ).bo λ d=>.nx (ρ.set i (.sh d))
def pC(i:Nat)(fe:En->Rs D):En->Ou:=λ ρ=>(fe ρ).bo λ d=>.nx (ρ.set i (.nw d))
def zT(i:Nat)(fe:En->Rs D):En->Ou:=λ ρ=>(fe ρ).bo λ d=>.nx (ρ.set i (.ow d))
def RR.shared{K:zAA}(hm:okS m=true)(R:RR K G U ρ Z H lab)(s:aO H H')(r:Rp K (fpM m lab H) H' v d):
  RR K G U ρ Z H' (cF H 1 lab)/\Rp K (λ p=>(cF H 1 lab p).1<=1) H' v d:=R.fresh (P:=λ k=>k<=1) (by decide) (λ k hk=>of_decide_eq_true (pL hm k hk)) s r
def dH{i:Nat}(h:SV C i s m fe)(hm:okS m=true:=by rfl):SS C s (iC i fe):=by
 obtain⟨t,h1,h2⟩:=h;refine⟨_,h1,λ U Z H ρ lab De R W=>h2 U Z H ρ lab _ R (W.bo.imp λ d _ w v H' s r=>?_)⟩;obtain⟨R',r'⟩:=R.shared hm s r;exact w _ _ _ (R'.put (s:=.sh d) r')
def mX(h:SV C i s m fe)(hm:okN m=true:=by rfl):SS C s (pC i fe):=by
 obtain⟨t,h1,h2⟩:=h;refine⟨_,h1,λ U Z H ρ lab De R W=>h2 U Z H ρ lab _ R (W.bo.imp λ d _ w v H' s r=>?_)⟩;obtain⟨R',r'⟩:=R.fresh (P:=λ k=>k=1) rfl (λ k hk=>beq_iff_eq.mp (pL hm k hk)) s r;exact w _ _ _ (R'.put (s:=.nw d) r')
def xg(h:SVF C i s m fe)(hm:okO i m=true:=by rfl):SS C s (zT i fe):=by
 obtain⟨t,h1,h2⟩:=h;refine⟨_,h1,λ U Z H ρ lab De R W=>h2 U Z H ρ lab _ R (W.bo.imp λ d _ w v H' s r ht=>?_)⟩;obtain⟨lab',R',r'⟩:=R.freshO i (λ k hk=>by have:=pL hm k hk;simpa using this) s r ht;exact w _ _ _ (R'.put (s:=.ow d) r')
def aBa(K:zAA)(G:Gx)(g:TG)(fg:D->En->Rs En):Prop:=∀U v d Z H ρ lab (Q:L2.St->Hp->Prop) ρ',RR K G U ρ Z H lab->Rp K (λ p=>(lab p).1<=1) H v d->fg d ρ= .ok ρ'->(∀Z',RR K G U ρ' Z' H lab->Q Z' H)->g v Z H Q
def aK0(K:zAA)(G:Gx)(g:TGs)(fg:List D->En->Rs En):Prop:=∀U vs ds Z H ρ lab (Q:L2.St->Hp->Prop) ρ',RR K G U ρ Z H lab->Rps K (λ p=>(lab p).1<=1) H vs ds->fg ds ρ= .ok ρ'->(∀Z',RR K G U ρ' Z' H lab->Q Z' H)->g vs Z H Q
def SG(C:Ct)(tg:Expr)(ks:List Nat)(fg:D->En->Rs En):Prop:=∃g,(∀i,PG (C.X i) tg g)/\aBa C.K C.G g fg/\gw g ks/\sW g
def SGs(C:Ct)(tg:List Expr)(ks:List Nat)(fg:List D->En->Rs En):Prop:=∃g,(∀i,PGs (C.X i) tg g)/\aK0 C.K C.G g fg/\vV g ks/\rG g
def gnm(i:Nat):D->En->Rs En:=λ d ρ=>.ok (ρ.set i (.sh d))
def kW:List D->En->Rs En:=λ ds ρ=>match ds with
 |[]=>.ok ρ
 |_=>.st
def bG(f:D->En->Rs En)(g:List D->En->Rs En):List D->En->Rs En:=λ ds ρ=>match ds with
 |d::r=>(f d ρ).bd (g r)
 |_=>.st
def jd(n:Nat)(g:List D->En->Rs En):D->En->Rs En:=λ d ρ=>match d with
 | .tup ds=>if ds.length=n then g ds ρ else .st
 |_=>.st
variable{ks:List Nat}{fg:D->En->Rs En}{fgs:List D->En->Rs En}{tg:Expr}{tgs:List Expr}
def bI(hN:∀j,(C.X j).N[i]? =some x:=by intro _;rfl)(hx:∀j,Loc (C.X j).env.scope x:=by intro _;first|exact zCo rfl|exact zCS rfl)(hf:∀j,(C.X j).fn x=true\/(C.X j).env.scope.names.lookup x=some .local:=by intro _;first|exact .inl rfl|exact .inr rfl)(nd:∀j,(C.X j).N.Nodup:=by intro _;assumption)(hk:i∈ks:=by decide):SG C (.Name x pos) ks (gnm i):=
 ⟨_,λ j=>aGJ (nd j) (hN j) (hx j) (hf j),λ U v d Z H ρ lab Q ρ' R r e q=>by cases e;exact q _ (R.put (s:=.sh d) r),aGv hk,aGx⟩
def pB:SGs C [] ks kW:=by
 refine⟨_,λ _=>aGI,λ U vs ds Z H ρ lab Q ρ' R r e q=>?_,aGu,aGw⟩;cases r with
 |nil=>cases e;exact⟨rfl,q _ R⟩
 |cons _ _=>cases e
def cI(h:SG C tg ks fg)(k:SGs C tgs ks fgs)(hs:∀i,(zCf (tg::tgs) (C.X i).env).map (·.2)=zDw tg (C.X i).env::(zCf tgs (C.X i).env).map (·.2):=by intro _;rfl):SGs C (tg::tgs) ks (bG fg fgs):=by
 obtain⟨g,h1,h2,h3,h4⟩:=h;obtain⟨u,k1,k2,k3,k4⟩:=k;refine⟨_,λ i=>aEB (h1 i) (k1 i) (hs i),λ U vs ds Z H ρ lab Q ρ' R r e q=>?_,aEv h3 h4 k3 k4,aEx h4 k4⟩;cases r with
 |nil=>cases e
 |cons h r=>
  obtain⟨ρ1,e1,e2⟩:=bM e;exact⟨_,_,rfl,h2 U _ _ Z H ρ lab _ ρ1 R h e1 λ Z1 R1=>k2 U _ _ Z1 H ρ1 lab Q ρ' R1 r e2 q⟩
def uC(h:SGs C tgs ks fgs)(hn:∀i,(zCf tgs (C.X i).env).length=n:=by intro _;rfl)(hst:∀i,(zCf tgs (C.X i).env).findIdx? (·.1)=none:=by intro _;rfl):SG C (.Tuple tgs k pos) ks (jd n fgs):=by
 obtain⟨u,k1,k2,k3,k4⟩:=h;refine⟨aGy C.K n u,λ i=>by rw[<-C.hK i];exact aIU (C.calm i) (k1 i) (hn i) (hst i),λ U v d Z H ρ lab Q ρ' R r e q=>?_,aJQ k3,aJR k4⟩;cases r with
 |tup h r=>
  unfold jd at e;dsimp only at e;split at e
  .rename_i hl
   exact⟨_,_,rfl,h,by rw[r.length];exact hl,k2 U _ _ Z H ρ lab Q ρ' R r e q⟩
  .cases e
 |_=>cases e
def aDA(fe:En->Rs D)(fg:D->En->Rs En):En->Ou:=λ ρ=>(fe ρ).bo λ d=>match fg d ρ with
 | .ok ρ'=>.nx ρ'
 |_=>.st
def aD2(he:SE C m e fe)(hg:SG C tg ks fg)(hm:okS m=true:=by rfl)(hs:∀i,swapsWithSole [tg] e pos.line (C.X i).env=pure false:=by intro _;rfl)(hw:∀i,swappedStores [tg] e (C.X i).env=pure none:=by intro _;rfl)
  (h1:∀i,(zCf [tg] (C.X i).env).map (·.2)=[zDw tg (C.X i).env]:=by intro _;rfl):SS C (.Assign [tg] e pos) (aDA fe fg):=by
 obtain⟨t,p1,p2⟩:=he;obtain⟨g,q1,q2,_,_⟩:=hg;refine⟨_,λ i=>aIQ (p1 i) (q1 i) (hs i) (hw i) (h1 i),λ U Z H ρ lab De R W=>p2 U Z H ρ lab _ R (W.bo.imp λ d _ w v H' s r=>?_)⟩;obtain⟨R',r'⟩:=R.shared hm s r;cases hgd:fg d ρ with
 |ok ρ'=>rw[hgd]at w;exact q2 U v d Z H' ρ _ _ ρ' R' r' hgd λ Z' R2=>w Z' H' _ R2
 |ex c=>rw[hgd]at w;exact zAM w
 |st=>rw[hgd]at w;exact zAM w
def JL(K:zAA)(lab:Lab)(J:It)(H:Hp)(ds:List D):Prop:=∀i,(ds.length<=i->J.stop i H)/\(i<ds.length->J.go i H/\∀x H',J.yld i H x H'->aO H H'/\∃d,ds[i]? =some d/\Rp K (λ p=>(lab p).1<=1) H' x d)
def aB9(K:zAA)(G:Gx)(wi:TI)(f:En->Rs (List D)):Prop:=∀U Z H ρ lab (Rr:It->Hp->Prop),RR K G U ρ Z H lab->
 WR G (f ρ) (λ ds=>∀J H1 lab1 U1,aO H H1->(∀p o,H p=some o->lab1 p=lab p)->RR K G (U1++U) ρ Z H1 lab1->(∀lab' H',(∀q∈U1,Rp K (λ p=>(lab' p).1<=1) H' q.1 q.2)->JL K lab' J H' ds)->Rr J H1)->wi Z H Rr
def SI(C:Ct)(tg iter:Expr)(f:En->Rs (List D)):Prop:=∃wi,(∀i,PI (C.X i) tg iter wi)/\aB9 C.K C.G wi f
def aKQ(K:zAA)(tl:TE):TI:=λ Z H R=>tl Z H λ x H1=>∃a,x= .ref a/\(((∃xs,SqL K H1 a xs)/\R (Itl K a) H1)\/((∃xs,SqT K H1 a xs)/\R (Itt K a) H1))
def aIT(hl:PE X l tl):PI X tg l (aKQ X.K tl):=by
 intro pins s Z H R I h;refine thn (hl pins s Z H _ I h) λ v s1 ⟨x,H1,I1,r1,a,e,q1⟩=>?_
 subst e;cases r1;have hp:∀b∈[s1.heap.objs.size],o5 X pins H1 b:=λ b hb=>by
  have e:b=s1.heap.objs.size:=by simpa using hb
  rw[e];exact I1.fpOk (zAP _) (I1.hok.fresh (zAP _))
 rcases q1 with ⟨⟨xs,hq⟩,q⟩|⟨⟨xs,hq⟩,q⟩
 .obtain⟨its,rv,p,hz⟩:=I1.list hq
  refine zDz p.isList ?_;exact⟨_,_,_,_,H1,rfl,I1.kept (t':=s1.toks) λ b o e=>zAE _ e,aCW a _,⟨_,zA3 _ rfl,rfl,rfl⟩,hp,q⟩
 .obtain⟨its,rv,p,hz⟩:=I1.tuple hq
  refine zHU (show s1.heap.IsTuple a its.toArray from p) ?_;exact⟨_,_,_,_,H1,rfl,I1.kept (t':=s1.toks) λ b o e=>zAE _ e,aA1 a _,⟨_,zA3 _ rfl,rfl,rfl⟩,hp,q⟩
def itD:D->Rs (List D)
 | .tup l=>.ok l
 | .lst l=>.ok l
 | .scr l=>.ok (l.map .int)
 |_=>.st
def fH(fe:En->Rs D):En->Rs (List D):=λ ρ=>(fe ρ).bd itD
def aCF{K:zAA}(h:SqL K H a xs)(r:Rps K (λ p=>(lab p).1<=1) H xs ds):JL K lab (Itl K a) H ds:=by
 have hl:=r.length;refine λ i=>⟨λ hi=>⟨xs,h,by lia⟩,λ hi=>⟨⟨xs,xs[i]'(by lia),h,by simp[hl,hi]⟩,λ x H' y=>?_⟩⟩
 obtain⟨e,y⟩:=y;subst e;obtain⟨d,h1,h2⟩:=r.get (y xs h);exact⟨aO.refl _,d,h1,h2⟩
def aJE{K:zAA}(h:SqT K H a xs)(r:Rps K (λ p=>(lab p).1<=1) H xs ds):JL K lab (Itt K a) H ds:=by
 have hl:=r.length;refine λ i=>⟨λ hi=>⟨xs,h,by lia⟩,λ hi=>⟨⟨xs,xs[i]'(by lia),h,by simp[hl,hi]⟩,λ x H' y=>?_⟩⟩
 obtain⟨e,y⟩:=y;subst e;obtain⟨d,h1,h2⟩:=r.get (y xs h);exact⟨aO.refl _,d,h1,h2⟩
def iV(he:SE C m e fe)(hm:okS m=true:=by rfl):SI C tg e (fH fe):=by
 obtain⟨t,p1,p2⟩:=he;refine⟨aKQ C.K t,λ i=>by rw[<-C.hK i];exact aIT (p1 i),λ U Z H ρ lab Rr R W=>p2 U Z H ρ lab _ R (W.bd.imp λ d _ w v H1 s r=>?_)⟩;obtain⟨R',r'⟩:=R.shared hm s r;cases d with
 |tup l=>
  cases r' with
  |tup h q=>
   rename_i a xs;refine⟨_,rfl,.inr ⟨⟨_,h⟩,w _ H1 _ [(.ref a,.tup l)] s (λ p o e=>bU e) ⟨R'.len,R'.sl,R'.old,R'.new,λ z hz=>?_⟩ λ lab' H' hq=>?_⟩⟩
   .rcases zAT.mp hz with rfl|hz
    .exact .tup h q
    .exact R'.tm z hz
   .have z:=hq _ (zAN ..)
    cases z with
    |tup h' q'=>exact aJE h' q'
 |lst l=>
  cases r' with
  |lst h mm q=>
   rename_i a xs;refine⟨_,rfl,.inl ⟨⟨_,SqL.of h⟩,w _ H1 _ [(.ref a,.lst l)] s (λ p o e=>bU e) ⟨R'.len,R'.sl,R'.old,R'.new,λ z hz=>?_⟩ λ lab' H' hq=>?_⟩⟩
   .rcases zAT.mp hz with rfl|hz
    .exact .lst h mm q
    .exact R'.tm z hz
   .have z:=hq _ (zAN ..)
    cases z with
    |lst h' _ q'=>exact aCF (SqL.of h') (q'.wk λ _ _ _ z=>z.1)
 |scr l=>
  cases r' with
  |scr h=>
   rename_i a;refine⟨_,rfl,.inl ⟨⟨_,h.sq⟩,w _ H1 _ [(.ref a,.scr l)] s (λ p o e=>bU e) ⟨R'.len,R'.sl,R'.old,R'.new,λ z hz=>?_⟩ λ lab' H' hq=>?_⟩⟩
   .rcases zAT.mp hz with rfl|hz
    .exact .scr h
    .exact R'.tm z hz
   .have z:=hq _ (zAN ..)
    cases z with
    |scr h'=>exact aCF h'.sq Rps.ints
 |_=>exact zAM w
end
section
variable{C:Ct}{pos:Pos}{s:Stmt}{ss:List Stmt}{f:En->Ou}{e a b:Expr}{es:List Expr}{m:Mode}{fa:En->Rs D}{ks:List Nat}{fg:D->En->Rs En}{tg:Expr}{fi:En->Rs (List D)}{ga:En->Rs (List D)}
def dh(lo hi:Int):List D:=(zBM (hi-lo).toNat).map λ(k:Nat)=>.int (lo+(k:Int))
def iW:List D->Rs (List D)
 |[.int j]=>if -(2^62)<=j/\j<2^62 then .ok (dh 0 j)else .st
 |_=>.st
def v7:List D->Rs (List D)
 |[.int i,.int j]=>if (-(2^62)<=i/\i<2^62)/\(-(2^62)<=j/\j<2^62)then .ok (dh i j)else .st
 |_=>.st
def gW(r:List D->Rs (List D))(ga:En->Rs (List D)):En->Rs (List D):=λ ρ=>(ga ρ).bd r
def aEh{K:zAA}{lo hi:Int}:JL K lab (Itr lo (hi-lo).toNat) H (dh lo hi):=by
 have hl:(dh lo hi).length=(hi-lo).toNat:=by unfold dh;simp
 refine λ i=>⟨λ h=>by show(hi-lo).toNat<=i;lia,λ h=>⟨by show i<(hi-lo).toNat;lia,λ x H' y=>?_⟩⟩
 obtain⟨e,rfl⟩:=y;subst e;refine⟨aO.refl _,.int (lo+i),?_,.int _⟩;unfold dh;rw[zAa,zGP (by lia)];rfl
def dX(ha:SA C m [a] ga)(hm:C.mg "range"=none)(hs:∀i,zA2 [a] (C.X i).env=[(false,eval a (C.X i).env)]:=by intro _;rfl)(hg:∀i,Gl (C.X i) "range":=by intro _;rfl):SI C tg (.Call (.Name "range" p) [a] [] pos) (gW iW ga):=by
 obtain⟨t,h1,h2⟩:=ha;refine⟨_,λ i=>aC5 (hg i) (by rw[(C.cx i).2.2.2.1];exact hm) (h1 i) (hs i),λ U Z H ρ lab Rr R W=>h2 U Z H ρ lab _ R (W.bd.imp λ ds _ w vs H1 s r=>?_)⟩;unfold iW at w;split at w
 .rename_i j _
  split at w
  .rename_i hj
   cases r with
   |cons h r=>
    cases h;cases r;refine⟨j,rfl,hj.1,hj.2,?_⟩;have z:=w (Itr 0 (j-0).toNat) H1 lab [] s (λ _ _ _=>rfl) (R.up s) λ lab' H' _=>aEh
    rwa [Int.sub_zero]at z
  .exact zAM w
 .exact zAM w
def yC(ha:SA C m [a,b] ga)(hm:C.mg "range"=none)(hs:∀i,zA2 [a,b] (C.X i).env=[(false,eval a (C.X i).env),(false,eval b (C.X i).env)]:=by intro _;rfl)(hs2:∀i,zA2 [b] (C.X i).env=[(false,eval b (C.X i).env)]:=by intro _;rfl)(hg:∀i,Gl (C.X i) "range":=by intro _;rfl):SI C tg (.Call (.Name "range" p) [a,b] [] pos) (gW v7 ga):=by
 obtain⟨t,h1,h2⟩:=ha;refine⟨_,λ i=>aC4 (hg i) (by rw[(C.cx i).2.2.2.1];exact hm) (h1 i) (hs i) (hs2 i),λ U Z H ρ lab Rr R W=>h2 U Z H ρ lab _ R (W.bd.imp λ ds _ w vs H1 s r=>?_)⟩;unfold v7 at w;split at w
 .rename_i i j _
  split at w
  .rename_i hj
   cases r with
   |cons h r=>
    cases h;cases r with
    |cons h r=>
     cases h;cases r;exact⟨i,j,rfl,⟨hj.1.1,hj.1.2,hj.2.1,hj.2.2⟩,w (Itr i (j-i).toNat) H1 lab [] s (λ _ _ _=>rfl) (R.up s) λ lab' H' _=>aEh⟩
  .exact zAM w
 .exact zAM w
def forL(fg:D->En->Rs En)(b:En->Ou):List D->En->Ou
 |[],ρ=>.nx ρ
 |d::ds,ρ=>match fg d ρ with
  | .ok ρ1=>match b ρ1 with
   | .nx ρ2=>forL fg b ds ρ2
   | .ct ρ2=>forL fg b ds ρ2
   | .bk ρ2=>.nx ρ2
   |o=>o
  |_=>.st
def dU(fi:En->Rs (List D))(fg:D->En->Rs En)(b:En->Ou):En->Ou:=λ ρ=>(fi ρ).bo λ ds=>forL fg b ds ρ
def dY(hi:SI C tg e fi)(hg:SG C tg ks fg)(hb:SSs C ss f)(hs:∀i,∀x,zAx e (C.X i).env x=pure x:=by intro _ _;rfl):SS C (.For tg e ss [] pos) (dU fi fg f):=by
 obtain⟨wi,i1,i2⟩:=hi;obtain⟨gg,g1,g2,_,g4⟩:=hg;obtain⟨tb,b1,b2⟩:=hb;refine⟨_,λ i=>aIP (C.own i) (C.calm i) (i1 i) (g1 i) (b1 i) (hs i),λ U Z H ρ lab De R W=>i2 U Z H ρ lab _ R (W.bo.imp λ ds _ w J H1 lab1 U1 s1 _ R1 jl=>?_)⟩;refine⟨λ i n Z' H'=>∃ρ' lab',RR C.K C.G (U1++U) ρ' Z' H' lab'/\n=ds.length-i/\i<=ds.length/\WS C.K C.G U (forL fg f (ds.drop i) ρ') De,⟨ds.length,ρ,lab1,R1,by lia,by lia,w⟩,?_⟩;rintro i n Z' H' ⟨ρ',lab',R',rfl,hi,w'⟩;have jj:=jl lab' H' λ q hq=>R'.tm q (zA8 _ hq)
 by_cases hlt:i<ds.length
 .obtain⟨go,yl⟩:=(jj i).2 hlt
  refine .inr ⟨go,λ Z2 H2=>∃ρ2 lab2,RR C.K C.G (U1++U) ρ2 Z2 H2 lab2/\WS C.K C.G U (forL fg f (ds.drop (i+1)) ρ2) De,λ Z2 H2 ⟨ρ2,lab2,R2,w2⟩=>⟨ds.length-(i+1),by lia,ρ2,lab2,R2,rfl,hlt,w2⟩,λ x H2 hy=>?_⟩;obtain⟨s2,d,ed,rx⟩:=yl x H2 hy;replace R':=R'.up s2;have ed2:ds.drop i=d::ds.drop (i+1):=by
   rw[zBG hlt]
   have:=zAB hlt
   rw[ed]at this;cases this;rfl
  rw[ed2]at w';unfold forL at w';cases eg:fg d ρ' with
  |ex c=>rw[eg]at w';exact zAM w'
  |st=>rw[eg]at w';exact zAM w'
  |ok ρ1=>
   rw[eg]at w';refine g2 (U1++U) x d Z' H2 ρ' lab' _ ρ1 R' rx eg λ Z1 R1'=>b2 (U1++U) Z1 H2 ρ1 lab' _ R1' ?_
   dsimp only at w';cases eb:f ρ1 with
   |nx ρ2=>rw[eb]at w';exact λ Z2 H3 lab2 R2=>⟨ρ2,lab2,R2,w'⟩
   |ct ρ2=>rw[eb]at w';exact λ Z2 H3 lab2 R2=>⟨ρ2,lab2,R2,w'⟩
   |bk ρ2=>rw[eb]at w';exact λ Z2 H3 lab2 R2=>w' Z2 H3 lab2 R2.drop
   |rt d=>rw[eb]at w';exact w'
   |ex c=>rw[eb]at w';exact w'
   |st=>rw[eb]at w';exact w'
 .have e:i=ds.length:=by lia
  subst e;rw[zCY]at w';exact .inl ⟨(jj _).1 (zAP _),w' Z' H' lab' R'.drop⟩
def uM(x:Str)(ga:En->Rs (List D)):En->Ou:=λ ρ=>(ga ρ).bo λ ds=>if ds.length<=zAV then .ex x else .st
def zQ{rest:List Expr}(hd:C.dOk=true)(hm:C.mg x=some (.ref Ca))(hcl:C.G.cl x=Ca)(hC:bQ C.K Ca)(ha:SA C m (y6::rest) ga)(he:∀i,zA2 (y6::rest) (C.X i).env=(false,eval y6 (C.X i).env)::zA2 rest (C.X i).env:=by intro _;rfl)(hplain:∀i,(zC2 cpos (zA2 rest (C.X i).env)).any (·.1)=false:=by intro _;rfl)(hdb:Nd x:=by decide)(hg:∀i,Gl (C.X i) x:=by intro _;rfl):SS C (.Raise (some (.Call (.Name x np) (y6::rest) [] cpos)) none pos) (uM x ga):=by
 obtain⟨t,h1,h2⟩:=ha;refine⟨_,λ i=>aDy (C.dcx hd i) (C.calm i) (by rw[(C.cx i).2.2.2.1];exact hm) (by rw[C.hK i];exact hC) (hg i) (h1 i) (he i) (hplain i) hdb,λ U Z H ρ lab De R W=>h2 U Z H ρ lab _ R (W.bo.imp λ ds _ w vs H1 s r=>?_)⟩;by_cases hz:ds.length<=zAV
 .rw[if_pos hz]at w
  refine⟨by rw[r.length];exact hz,?_⟩
  have:=w H1 (R.old.trans s)
  rwa [hcl]at this
 .rw[if_neg hz]at w
  exact zAM w
def spF(K:zAA)(cl:Str->Addr)(n:Nat)(F:List D->Rs D):Sp:=λ vs H Q E=>∃ds,vs.length=n/\Rps K (λ _=>True) H vs ds/\WR ⟨H,E,cl⟩ (F ds) (λ d=>∀v H',aO H H'->Rp K (λ p=>H p=none) H' v d->Q v H')
def aY(F:List D->Rs D)(ga:En->Rs (List D)):En->Rs D:=λ ρ=>(ga ρ).bd F
def aD9{K:zAA}(hn:∀ρ ds,ga ρ= .ok ds->ds.length=n)(h:aHN K G m t ga):gr K G (some []) (zO (spF K G.cl n F) [] G.E t) (aY F ga):=by
 intro U Z H ρ lab Q R W;refine h U Z H ρ lab _ R (W.bd.imp λ ds eds w vs H1 s r=>⟨ds,by rw[zA9,r.length];exact hn ρ ds eds,by rw[zA9];exact r.wk λ _ _ _ _=>trivial,?_⟩);cases hF:F ds with
 |ok d=>
  rw[hF]at w;exact λ v H' s' r'=>w v H' (s.trans s') (r'.wk λ p o _ z=>.inl (s.free z))
 |ex c=>rw[hF]at w;exact λ H' s'=>w H' ((R.old.trans s).trans s')
 |st=>rw[hF]at w;exact w
variable{k:Nat}{fn:Addr}{fd:zAt}{ps:List Str}{x:Str}{p:Pos}{F:List D->Rs D}{n:Nat}
def aFt(hF:cY C.prog C.w C.K C.mg C.base (CX1 C.prog C.w) k fn fd ps (spF C.K C.G.cl n F))(hr:k<=C.k)(hm:C.mg x=some (.ref fn))(hk:zBl C.K (.ref fn)=true)(hb:Binds C.K fd ps [])(ha:SA C m (e::es) ga)(hn:∀ρ ds,ga ρ= .ok ds->ds.length=n)(hdb:Nd x:=by decide)(he:∀i,zA2 (e::es) (C.X i).env=(false,eval e (C.X i).env)::zA2 es (C.X i).env:=by intro _;rfl)(hpl:∀i,(zC2 pos (zA2 es (C.X i).env)).any (·.1)=false:=by intro _;rfl)(hg:∀i,Gl (C.X i) x:=by intro _;rfl):SE C (some []) (.Call (.Name x p) (e::es) [] pos) (aY F ga):=by
 obtain⟨t,h1,h2⟩:=ha;refine⟨_,λ i=>?_,aD9 hn h2⟩;obtain⟨e1,e2,e3,e4,e5⟩:=C.cx i;refine aGO (CX:=CX1 (C.X i).prog (C.X i).w) (by rw[e1,e2,e3,e4,e5];exact hF) ((C.room i).mono hr) (hg i) (by rw[e4];exact hm) (by rw[e3];exact hk) (by rw[e3];exact hb) .nil (C.pass i) (h1 i) hdb (he i) (hpl i)
def aGd(h:aJ ρ= .ok ds):ds.length=0:=by cases h;rfl
def aE8(h:∀ρ ds,ga ρ= .ok ds->ds.length=n):∀ρ ds,aC fa ga ρ= .ok ds->ds.length=n+1:=λ ρ ds e=>by
 obtain⟨d,_,e⟩:=bM e;obtain⟨r,er,e⟩:=bM e;cases e;rw[zA7,h ρ r er]
end
def aZ(mg:Str->Option Value):Str->Addr:=λ x=>match mg x with
 |some (.ref a)=>a
 |_=>0
abbrev ctD(P:zAY)(w:World)(K:zAA)(mg:Str->Option Value)(base:Heap)(N:List Str)(q:Str)(sc:Scope)(f:Addr)(cdv:Value)(A:zAd)(outer:List Env)(s:zAD)(H:Hp)(E:XK)(k:Nat)(hr:dM k (A.deeper (zCq q sc s.heap.objs.size f cdv))):Ct where
 ι:=Unit
 X:=λ _=>su (CX1 P w) P w K mg base N q sc f cdv A outer s H E
 prog:=P
 w:=w
 K:=K
 mg:=mg
 base:=base
 k:=k
 G:=⟨H,E,aZ mg⟩
 cx:=λ _=>⟨rfl,rfl,rfl,rfl,rfl⟩
 calm:=λ _=>rfl
 room:=λ _=>hr
 own:=λ _=>cR.own cR.of
 pass:=λ _=>cR.pass cR.of
 dOk:=true
 dcx:=λ _ _=>cR.of
def ak(n:Nat)(ds:List D):En:=ds.map .sh++zAW (n-ds.length) .no
def eZ(n:Nat)(f:En->Ou):List D->Rs D:=λ ds=>match f (ak n ds)with
 | .nx _=>.ok .non
 | .rt d=>.ok d
 | .ex c=>.ex c
 |_=>.st
theorem RR.start{K:zAA}(r:Rps K (λ _=>True) H vs ds):RR K ⟨H,E,cl⟩ [] (ak N.length ds) (start N vs) H (λ _=>(0,0)):=by
 have hl:=r.length;refine⟨by unfold ak L2.start;simp[hl],λ i s e=>?_,aO.refl H,λ p hp=>absurd rfl hp,λ q hq=>by cases hq⟩;unfold ak at e;by_cases hi:i<ds.length
 .rw[zAo (by simpa using hi),zAa]at e
  cases ed:ds[i]? with
  |none=>rw[ed]at e;cases e
  |some d=>
   rw[ed]at e;cases e;obtain⟨x,ex,rx⟩:=r.getD ed;refine .inr ⟨x,?_,rx.wk λ _ _ _ _=>zAj _⟩;unfold L2.start;rw[zAo (by simpa[hl]using hi),zAa,ex];rfl
 .rw[zBL (by simpa using hi),zCs]at e
  split at e
  .cases e;exact .inl rfl
  .cases e
section
variable{P:zAY}{w:World}{K:zAA}{mg:Str->Option Value}{base:Heap}
def aJX{x q:Str}{st:Stmt}(F:L2.Fun K x q st fn fd)(S:aW N ps (aF st))
  (hb:∀cdv A outer s H E hr,SSs (ctD P w K mg base N q (aF st) fn cdv A outer s H E k hr) (cH st) f):
  cY P w K mg base (CX1 P w) (k+1) fn fd ps (spF K (aZ mg) ps.length (eZ N.length f)):=by
 refine F.okX S (λ vs H Q E ⟨ds,hl,_⟩=>hl) λ cdv A outer s H vs Q E hr ⟨ds,hl,r,W⟩=>?_
 obtain⟨t,h1,h2⟩:=hb cdv A outer s H E hr;refine⟨t,h1 (),h2 [] _ H _ _ _ (RR.start r) ?_⟩;unfold eZ at W;cases e:f (ak N.length ds)with
 |nx ρ=>rw[e]at W;exact λ Z' H' lab R=>W .non H' R.old .non
 |rt d=>rw[e]at W;exact λ v H' s r=>W v H' s r
 |ex c=>rw[e]at W;exact W
 |bk ρ=>rw[e]at W;exact zAM W
 |ct ρ=>rw[e]at W;exact zAM W
 |st=>rw[e]at W;exact zAM W
def aHA{st:Stmt}(F:L2.Fun K x q st fn fd)(S:aW N ps (aF st))
  (hb:∀cdv A outer s H E hr,SSs (ctD P w K mg base N q (aF st) fn cdv A outer s H E k hr) (cH st) f)(hn:ps.length=n)(hF:eZ N.length f=FF):
  cY P w K mg base (CX1 P w) (k+1) fn fd ps (spF K (aZ mg) n FF):=by
 subst hn hF;exact aJX F S hb
end
def OpR.or(h:OpR X f r)(h':OpR X f r'):OpR X f (λ x y H Q=>r x y H Q\/r' x y H Q):=by
 intro pins s Z H x y v u Q I rx ry q;rcases q with q|q
 .exact h pins s Z H x y v u Q I rx ry q
 .exact h' pins s Z H x y v u Q I rx ry q
def OpS.or{K:zAA}(h:OpS K r fd)(h':OpS K r' fd'):OpS K (λ x y H Q=>r x y H Q\/r' x y H Q) (λ d e=>match fd d e with
  | .ok z=>.ok z
  |_=>fd' d e):=by
 intro A x y d e H Q z rx ry ez q;dsimp only at ez;cases hd:fd d e with
 |ok w=>rw[hd]at ez;cases ez;exact .inl (h A x y d e H Q _ rx ry hd q)
 |ex c=>rw[hd]at ez;exact .inr (h' A x y d e H Q z rx ry ez q)
 |st=>rw[hd]at ez;exact .inr (h' A x y d e H Q z rx ry ez q)
section
variable{K:zAA}
def i2(p:Int->Int->Bool)(g:Int->Int->D):D->D->Rs D
 | .int i,.int j=>if p i j=true then .ok (g i j)else .st
 |_,_=>.st
def aAv{g:Int->Int->Int}(hp:∀i j,p i j=true->c i j):OpS K (rI c λ i j=>.int (g i j)) (i2 p λ i j=>.int (g i j)):=by
 intro A x y d e H Q z rx ry ez q;unfold i2 at ez;split at ez
 .rename_i i j
  split at ez
  .rename_i h
   cases ez;obtain rfl:=rx.int_inv;obtain rfl:=ry.int_inv;exact⟨i,j,rfl,rfl,hp i j h,q _ H (aO.refl H) (.int _)⟩
  .cases ez
 .cases ez
def aGS{g:Int->Int->Int}:OpS K (rI0 λ i j=>.int (g i j)) (i2 (λ _ _=>true) λ i j=>.int (g i j)):=by
 intro A x y d e H Q z rx ry ez q;unfold i2 at ez;split at ez
 .rename_i i j
  cases ez;obtain rfl:=rx.int_inv;obtain rfl:=ry.int_inv;exact⟨i,j,rfl,rfl,q _ H (aO.refl H) (.int _)⟩
 .cases ez
def yR{g:Int->Int->Bool}:OpS K (rI0 λ i j=>.bl (g i j)) (i2 (λ _ _=>true) λ i j=>.bl (g i j)):=by
 intro A x y d e H Q z rx ry ez q;unfold i2 at ez;split at ez
 .rename_i i j
  cases ez;obtain rfl:=rx.int_inv;obtain rfl:=ry.int_inv;exact⟨i,j,rfl,rfl,q _ H (aO.refl H) (.bl _)⟩
 .cases ez
def yr{g:Int->Int->Int}:∀x y z,i2 p (λ i j=>.int (g i j)) x y= .ok z->imm z=true:=by
 intro x y z e;unfold i2 at e;split at e
 .split at e
  .cases e;rfl
  .cases e
 .cases e
def aEp{g:Int->Int->Bool}:∀x y z,i2 p (λ i j=>.bl (g i j)) x y= .ok z->imm z=true:=by
 intro x y z e;unfold i2 at e;split at e
 .split at e
  .cases e;rfl
  .cases e
 .cases e
def cX:D->D->Rs D
 | .int i,.int j=>.ok (.int (i+j))
 | .lst l,.lst m=>if l.length+m.length<=zAV then .ok (.lst (l++m))else .st
 | .tup l,.tup m=>if l.length+m.length<=zAV then .ok (.tup (l++m))else .st
 |_,_=>.st
def aH1(K:zAA):R2:=λ x y H Q=>∃a b xs ys,x= .ref a/\y= .ref b/\SqT K H a xs/\SqT K H b ys/\xs.length+ys.length<=zAV/\
 (xs=[]->Q (.ref b) H)/\(ys=[]->Q (.ref a) H)/\New H (.tup (xs++ys)) Q
def aGV:OpR X (zCV .Add) (aH1 X.K):=by
 intro pins s Z H x y v u Q I rx ry h;obtain⟨a,b,xs,ys,rfl,rfl,ha,hb,hz,q0,q1,q2⟩:=h;by_cases hx:xs=[]
 .subst hx
  cases rx;cases ry;obtain⟨its,r1,p1,_⟩:=I.tuple ha;obtain⟨its2,r2,p2,_⟩:=I.tuple hb;cases r1;exact HT.aFR p1 p2 ⟨.ref b,H,I,rfl,q0 rfl⟩
 .exact aGW pins s Z H _ _ v u Q I rx ry ⟨a,b,xs,ys,rfl,rfl,ha,hb,hx,hz,q1,λ _ p hp=>q2.at hp⟩
def aDs(K:zAA):R2:=λ x y H Q=>rI0 (λ i j=>.int (i+j)) x y H Q\/(aDr x y H Q\/aH1 K x y H Q)
def aGX:OpR X (zCV .Add) (aDs X.K):=OpR.or aIn (OpR.or yS aGV)
def aI6:OpS K (aDs K) cX:=by
 intro A x y d e H Q z rx ry ez q;unfold cX at ez;split at ez
 .cases ez;obtain rfl:=rx.int_inv;obtain rfl:=ry.int_inv;exact .inl ⟨_,_,rfl,rfl,q _ H (aO.refl H) (.int _)⟩
 .split at ez
  .rename_i hl
   cases ez;obtain⟨_,_,rfl,h1,m1,r1⟩:=rx.lst_inv;obtain⟨_,_,rfl,h2,m2,r2⟩:=ry.lst_inv;refine .inr (.inl ⟨_,_,_,_,rfl,rfl,h1,h2,by rw[r1.length,r2.length];exact hl,λ p H' s hp hn=>q _ H' s (.lst hp (.inl hn) ?_)⟩);exact(((r1.wk λ _ _ _ z=>z.1).append (r2.wk λ _ _ _ z=>z.1)).wk (A':=λ q=>(H q=none\/A q)/\q≠p) λ q o e z=>⟨.inr z,λ e'=>by subst e';rw[hn]at e;cases e⟩).up s
  .cases ez
 .split at ez
  .rename_i hl
   cases ez;obtain⟨_,_,rfl,h1,r1⟩:=rx.tup_inv;obtain⟨_,_,rfl,h2,r2⟩:=ry.tup_inv;have r1':=r1.wk (A':=λ p=>H p=none\/A p) λ _ _ _ z=>.inr z
   have r2':=r2.wk (A':=λ p=>H p=none\/A p) λ _ _ _ z=>.inr z
   refine .inr (.inr ⟨_,_,_,_,rfl,rfl,h1,h2,by rw[r1.length,r2.length];exact hl,λ e=>?_,λ e=>?_,λ p H' s hp hn=>q _ H' s (.tup (SqT.of hp) ((r1'.append r2').up s))⟩)
   .subst e
    cases r1';exact q _ H (aO.refl H) (.tup h2 r2')
   .subst e
    cases r2';rw[zA9]at q;exact q _ H (aO.refl H) (.tup h1 r1')
  .cases ez
 .cases ez
def j9:D->D->Rs D
 | .int i,.int j=>if (decide (-(2^64)<i)&&decide (i<2^64))||(decide (-(2^64)<j)&&decide (j<2^64))then .ok (.int (i*j))else .st
 | .lst l,.int k=>if decide (-(2^63)<=k)&&decide (k<2^63)&&decide (l.length*k.toNat<=zAV)&&vg l then .ok (.lst (zAW k.toNat l).flatten)else .st
 |_,_=>.st
theorem Rps.rep(r:Rps K A H xs ds):∀k:Nat,Rps K A H (zAW k xs).flatten (zAW k ds).flatten
 |0=>.nil
 |k+1=>by
  rw[zCA,zCA,zBn,zBn];exact r.append (Rps.rep r k)
def aHX:R2:=λ x y H Q=>rI aHR (λ i j=>.int (i*j)) x y H Q\/aJx x y H Q
def aGT:OpR X (zCV .Mult) aHX:=OpR.or aIb aI8
def aI5:OpS K aHX j9:=by
 intro A x y d e H Q z rx ry ez q;unfold j9 at ez;split at ez
 .split at ez
  .rename_i hc
   cases ez;obtain rfl:=rx.int_inv;obtain rfl:=ry.int_inv;refine .inl ⟨_,_,rfl,rfl,?_,q _ H (aO.refl H) (.int _)⟩;simp only[zFM,zAQ,decide_eq_true_eq]at hc;exact hc
  .cases ez
 .split at ez
  .rename_i hc
   simp only[zAQ,decide_eq_true_eq]at hc;cases ez;obtain⟨_,_,rfl,h1,m1,r1⟩:=rx.lst_inv;obtain rfl:=ry.int_inv;refine .inr ⟨_,_,_,rfl,rfl,h1,hc.1.1.1,hc.1.1.2,by rw[r1.length];exact hc.1.2,λ p hp=>q _ _ (az hp _) (.lst aX (.inl hp) ?_)⟩;exact((r1.rep _).wk (A':=λ q=>(H q=none\/A q)/\q≠p) λ q o e z=>⟨.inr z.1,λ e'=>by subst e';rw[hp]at e;cases e⟩).up (az hp _)
  .cases ez
 .cases ez
def intsOf:List D->Option (List Int)
 |[]=>some []
 | .int i::r=>(intsOf r).map (i::·)
 |_=>none
theorem gZ:∀{l:List D} {ns:List Int},intsOf l=some ns->l=ns.map .int
 |[],ns,h=>by cases h;rfl
 | .int i::r,ns,h=>by
  simp only[intsOf,zBw]at h;obtain⟨ms,h1,rfl⟩:=h;rw[gZ h1];rfl
 | .non::_,_,h=>by cases h
 | .bl _::_,_,h=>by cases h
 | .str _::_,_,h=>by cases h
 | .tup _::_,_,h=>by cases h
 | .lst _::_,_,h=>by cases h
 | .dct _ _::_,_,h=>by cases h
 | .set _::_,_,h=>by cases h
 | .scr _::_,_,h=>by cases h
theorem il:∀ns:List Int,intsOf (ns.map .int)=some ns
 |[]=>rfl
 |n::ns=>by simp only[zA0,intsOf,il ns,zDs]
def ltT(p:List Int->List Int->Bool):D->D->Rs D
 | .tup l,.tup m=>match intsOf l,intsOf m with
  |some ns,some ms=>.ok (.bl (p ns ms))
  |_,_=>.st
 |_,_=>.st
def aBp(r:Rp K A H x (.tup l))(e:intsOf l=some ns):∃a,x= .ref a/\SqT K H a (ns.map V.int):=by
 have:=gZ e
 subst this;cases r with
 |tup h r=>
  have:=r.ints_of
  subst this;exact⟨_,rfl,h⟩
def aBt(hr:∀x y H Q,(∃a b ns ms,x= .ref a/\y= .ref b/\SqT K H a (ns.map V.int)/\SqT K H b (ms.map V.int)/\Q (.bl (p ns ms)) H)->r x y H Q):OpS K r (ltT p):=by
 intro A x y d e H Q z rx ry ez q;unfold ltT at ez;split at ez
 .split at ez
  .rename_i ns ms e1 e2
   cases ez;obtain⟨a,rfl,ha⟩:=aBp rx e1;obtain⟨b,rfl,hb⟩:=aBp ry e2;exact hr _ _ _ _ ⟨a,b,ns,ms,rfl,rfl,ha,hb,q _ H (aO.refl H) (.bl _)⟩
  .cases ez
 .cases ez
def ltD:D->D->Rs D:=λ d e=>match i2 (λ _ _=>true) (λ i j=>.bl (decide (i<j))) d e with
 | .ok z=>.ok z
 |_=>ltT HT.lexLt d e
def leD:D->D->Rs D:=λ d e=>match i2 (λ _ _=>true) (λ i j=>.bl (decide (i<=j))) d e with
 | .ok z=>.ok z
 |_=>ltT HT.lexLe d e
def gtD:D->D->Rs D:=i2 (λ _ _=>true) (λ i j=>.bl (decide (j<i)))
def geD:D->D->Rs D:=i2 (λ _ _=>true) (λ i j=>.bl (decide (j<=i)))
def aIe(hu:X.A.units<cLine):OpR X (zAv .Lt) (λ x y H Q=>rI0 (λ i j=>.bl (decide (i<j))) x y H Q\/aFw X.K x y H Q):=OpR.or aKE (aIf hu)
def aIg(hu:X.A.units<cLine):OpR X (zAv .LtE) (λ x y H Q=>rI0 (λ i j=>.bl (decide (i<=j))) x y H Q\/aFx X.K x y H Q):=OpR.or aKF (aIh hu)
def aBu:OpS K (λ x y H Q=>rI0 (λ i j=>.bl (decide (i<j))) x y H Q\/aFw K x y H Q) ltD:=OpS.or yR (aBt λ _ _ _ _ h=>h)
def aBv:OpS K (λ x y H Q=>rI0 (λ i j=>.bl (decide (i<=j))) x y H Q\/aFx K x y H Q) leD:=OpS.or yR (aBt λ _ _ _ _ h=>h)
def aCH(e:ltT p x y= .ok z):imm z=true:=by
 unfold ltT at e;split at e
 .split at e
  .cases e;rfl
  .cases e
 .cases e
def aBW:∀x y z,ltD x y= .ok z->imm z=true:=by
 intro x y z e;unfold ltD at e;split at e
 .rename_i w hw;cases e;exact aEp _ _ _ hw
 .exact aCH e
def aJK:∀x y z,leD x y= .ok z->imm z=true:=by
 intro x y z e;unfold leD at e;split at e
 .rename_i w hw;cases e;exact aEp _ _ _ hw
 .exact aCH e
def isD(neg:Bool):D->D->Rs D
 | .bl a,.bl b=>if neg then .st else .ok (.bl (a==b))
 |d,.non=>match d with
  | .non=>.ok (.bl (!neg))
  |_=>.ok (.bl neg)
 |_,_=>.st
def aIi:OpR X (zAv .Is) (λ x y H Q=>(∃b c,x= .bl b/\y= .bl c/\Q (.bl (b==c)) H)\/(y= .non/\Q (.bl (decide (x= .non))) H)):=OpR.or aEQ aIj
def aIK(r:Rp K A H x d)(h:d≠.non):x≠.non:=by
 cases r with
 |non=>exact absurd rfl h
 |_=>exact λ e=>by cases e
def aKD:OpS K (λ x y H Q=>(∃b c,x= .bl b/\y= .bl c/\Q (.bl (b==c)) H)\/(y= .non/\Q (.bl (decide (x= .non))) H)) (isD false):=by
 intro A x y d e H Q z rx ry ez q;unfold isD at ez;split at ez
 .cases ez;cases rx;cases ry;exact .inl ⟨_,_,rfl,rfl,q _ H (aO.refl H) (.bl _)⟩
 .cases ry
  split at ez
  .cases ez;cases rx;exact .inr ⟨rfl,by rw[decide_eq_true rfl];exact q _ H (aO.refl H) (.bl _)⟩
  .rename_i hn
   cases ez;exact .inr ⟨rfl,by rw[decide_eq_false (aIK rx hn)];exact q _ H (aO.refl H) (.bl _)⟩
 .cases ez
def aJL:∀x y z,isD n x y= .ok z->imm z=true:=by
 intro x y z e;unfold isD at e;split at e
 .split at e
  .cases e
  .cases e;rfl
 .split at e<;>(cases e;rfl)
 .cases e
def aEU:D->Rs D
 | .int i=>.ok (.int (-i))
 |_=>.st
def aHk:UnS K (rU λ i=>.int (-i)) aEU:=by
 intro A x d H Q z rx ez q;cases rx with
 |int i=>cases ez;exact⟨i,rfl,q _ H (aO.refl H) (.int _)⟩
 |_=>cases ez
def aGr:∀x z,aEU x= .ok z->imm z=true:=by
 intro x z e;cases x with
 |int i=>cases e;rfl
 |_=>cases e
def atD(l:List D)(i:Int):Rs D:=match atI l i with
 |some d=>.ok d
 |none=>.st
def ixD:D->D->Rs D
 | .tup l,.int i=>atD l i
 | .lst l,.int i=>atD l i
 | .scr l,.int i=>atD (l.map .int) i
 |_,_=>.st
theorem Rps.at(r:Rps K A H xs ds)(e:atI ds i=some d):∃x,atI xs i=some x/\Rp K A H x d:=by
 unfold atI at e ⊢;rw[r.length];cases h:ixN ds.length i with
 |none=>rw[h]at e;cases e
 |some j=>
  rw[h]at e;obtain⟨x,e1,e2⟩:=r.getD (i:=j) (d:=d) e;exact⟨x,e1,e2⟩
def aKC:OpS K (rIx K) ixD:=by
 intro A x y d e H Q z rx ry ez q;unfold ixD at ez;split at ez
 .unfold atD at ez
  split at ez
  .rename_i w hw
   cases ez;obtain⟨_,_,rfl,h,r⟩:=rx.tup_inv;obtain rfl:=ry.int_inv;obtain⟨v,e1,e2⟩:=r.at hw;exact .inr (.inl ⟨_,_,_,v,rfl,rfl,h,e1,q v H (aO.refl H) (e2.wk λ _ _ _ z=>.inr z)⟩)
  .cases ez
 .unfold atD at ez
  split at ez
  .rename_i w hw
   cases ez;obtain⟨_,_,rfl,h,m,r⟩:=rx.lst_inv;obtain rfl:=ry.int_inv;obtain⟨v,e1,e2⟩:=r.at hw;exact .inl ⟨_,_,_,v,rfl,rfl,SqL.of h,e1,q v H (aO.refl H) (e2.wk λ _ _ _ z=>.inr z.1)⟩
  .cases ez
 .unfold atD at ez
  split at ez
  .rename_i w hw
   cases ez;obtain⟨_,rfl,h⟩:=rx.scr_inv;obtain rfl:=ry.int_inv;obtain⟨v,e1,e2⟩:=(Rps.ints (K:=K) (A:=A) (H:=H)).at hw;exact .inl ⟨_,_,_,v,rfl,rfl,h.sq,e1,q v H (aO.refl H) (e2.wk λ _ _ _ z=>.inr z)⟩
  .cases ez
 .cases ez
def fG:List D->Rs D
 |[.tup l]=>.ok (.int l.length)
 |[.lst l]=>.ok (.int l.length)
 |[.scr l]=>.ok (.int l.length)
 |_=>.st
def aFP:qR K (λ xs H Q=>∃p ys,xs=[.ref p]/\(SqL K H p ys\/SqT K H p ys)/\Q (.int ys.length) H) fG:=by
 intro A xs ds H Q z r ez q;unfold fG at ez;split at ez
 .cases ez
  obtain⟨_,rfl,h0⟩:=r.one_inv;obtain⟨_,_,rfl,h,r⟩:=h0.tup_inv;exact⟨_,_,rfl,.inr h,by rw[r.length];exact q _ H (aO.refl H) (.int _)⟩
 .cases ez
  obtain⟨_,rfl,h0⟩:=r.one_inv;obtain⟨_,_,rfl,h,m,r⟩:=h0.lst_inv;exact⟨_,_,rfl,.inl (SqL.of h),by rw[r.length];exact q _ H (aO.refl H) (.int _)⟩
 .cases ez
  obtain⟨_,rfl,h0⟩:=r.one_inv;obtain⟨_,rfl,h⟩:=h0.scr_inv;exact⟨_,_,rfl,.inl h.sq,by rw[zAF];exact q _ H (aO.refl H) (.int _)⟩
 .cases ez
def aCI:∀x z,fG x= .ok z->imm z=true:=by
 intro x z e;unfold fG at e;split at e<;>first|(cases e;rfl)|cases e
def tyD:D->String
 | .non=>"NoneType"| .bl _=>"bool"| .int _=>"int"| .str _=>"str"| .tup _=>"tuple"| .lst _=>"list"| .dct _ _=>"dict"| .set _=>"set"| .scr _=>"script"| .fn _=>"function"
def jH(T:String):D->Rs D:=λ d=>if nO (tyD d) T true=true then .ok (.bl true)else if nO (tyD d) T false=true then .ok (.bl false)else .st
def aHZ(K:zAA)(T:String):List V->Hp->VK->Prop:=λ xs H Q=>∃x d A b,xs=[x,.ty T]/\Rp K A H x d/\nO (tyD d) T b=true/\Q (.bl b) H
def aCx:eQ X (.builtin "isinstance") (aHZ X.K T):=by
 intro pins s Z H xs us Q I rv h;obtain⟨x,d,A,b,rfl,rd,ok,q⟩:=h;cases rd with
 |tup h r=>
  obtain⟨u,w',rfl,ru,rw'⟩:=vals2 rv;cases ru;cases rw';obtain⟨its,_,⟨o,h1,h2,_⟩,_⟩:=I.tuple h;exact zBP zGB I.kIn ⟨o,h1,h2⟩ (aBM ok) (λ z=>nomatch z) λ tk=>⟨.bl b,H,I.tok _,rfl,q⟩
 |set h m hS nd=>cases b<;>simp[nO,tyD]at ok
 |scr h=>cases b<;>simp[nO,tyD]at ok
 |fn h=>cases b<;>simp[nO,tyD]at ok
 |non=>exact ji pins s Z H _ us Q I rv ⟨_,T,_,b,rfl,.non,ok,q⟩
 |bl c=>exact ji pins s Z H _ us Q I rv ⟨_,T,_,b,rfl,.bl c,ok,q⟩
 |int c=>exact ji pins s Z H _ us Q I rv ⟨_,T,_,b,rfl,.int c,ok,q⟩
 |str c=>exact ji pins s Z H _ us Q I rv ⟨_,T,_,b,rfl,.str c,ok,q⟩
 |lst h m r=>exact ji pins s Z H _ us Q I rv ⟨_,T,_,b,rfl,.lst h,ok,q⟩
 |dK h m r=>exact ji pins s Z H _ us Q I rv ⟨_,T,_,b,rfl,.dK h,ok,q⟩
 |dT h m r=>
  obtain⟨u,w',rfl,ru,rw'⟩:=vals2 rv;cases ru;cases rw';obtain⟨⟨_,_,_,o,_,_,_,h1,h2,_⟩,_⟩:=(show cM X.prog X.w H s.heap _ (dxO _ _)from I.hok _ _ h.at_);exact zBP zEX I.kIn ⟨o,h1,h2.1⟩ (aBM ok) (λ z=>nomatch z) λ tk=>⟨.bl b,H,I.tok _,rfl,q⟩
end
section
variable{C:Ct}{pos p p2:Pos}{m:Mode}{a:Expr}{fa:En->Rs D}
def jR(ha:SE C m a fa)(hm:C.mg "isinstance"=none)(hmT:C.mg x=none)(hn:x≠"__name__":=by decide)(hd:Nd x:=by decide)(he:∀i,zA2 [a,.Name x p2] (C.X i).env=(false,eval a (C.X i).env)::zA2 [.Name x p2] (C.X i).env:=by intro _;rfl)(hpl:∀i,(zC2 pos (zA2 [.Name x p2] (C.X i).env)).any (·.1)=false:=by intro _;rfl)(hg:∀i,Gl (C.X i) "isinstance":=by intro _;rfl)(hv:zBR "isinstance"=some (.builtin "isinstance"):=by decide+kernel)(hgT:∀i,Gl (C.X i) x:=by intro _;rfl)(hvT:zBR x=some (.type T):=by decide+kernel):
  SE C (some []) (.Call (.Name "isinstance" p) [a,.Name x p2] [] pos) (op1 (jH T) fa):=by
 obtain⟨t,h1,h2⟩:=ha;refine⟨tCB (aHZ C.K T) (jK t (jK (tC (.ty T)) qT)),λ i=>?_,λ U Z H ρ lab Q R W=>?_⟩
 .rw[<-C.hK i]
  exact pK aCx (hg i) (by rw[(C.cx i).2.2.2.1];exact hm) hv (aV (h1 i) (aV (aBs (v:=.ty T) (hgT i) (by rw[(C.cx i).2.2.2.1];exact hmT) hvT rfl hn hd) cu) (he i)) (by decide) (by decide) (he i) (hpl i)
 .refine h2 U Z H ρ lab _ R (W.bd.imp λ d _ w x H1 s1 r1=>?_)
  obtain⟨z,ez,w⟩:=w.okD;unfold jH at ez;split at ez
  .rename_i h;cases ez;exact⟨x,d,_,true,rfl,r1,h,w _ H1 s1 (.bl _)⟩
  .split at ez
   .rename_i h;cases ez;exact⟨x,d,_,false,rfl,r1,h,w _ H1 s1 (.bl _)⟩
   .cases ez
end
def mq:Slot->Slot
 | .ow d=>.sh d
 | .nw d=>.sh d
 | .oz d=>.sh d
 | .o2 l=>.sh (.lst (l.map .lst))
 |s=>s
def shE(ρ:En):En:=ρ.map mq
def stV(js:List (Option Nat))(Z:L2.St):L2.St:=js.map λ o=>o.bind λ j=>(Z[j]?).join
def stE(js:List (Option Nat))(ρ:En):En:=js.map λ o=>match o with
 |none=>.no
 |some j=>(ρ[j]?).getD .no
def aFv{K:zAA}(h:dO K H lab i v s):∃d,(s= .no\/mq s= .sh d)/\(s= .no\/Rp K (λ _=>True) H v d):=by
 cases s with
 |no=>exact⟨.non,.inl rfl,.inl rfl⟩
 |sh d=>exact⟨d,.inr rfl,.inr (Rp.wk (λ _ _ _ _=>trivial) h)⟩
 |nw d=>exact⟨d,.inr rfl,.inr (Rp.wk (λ _ _ _ _=>trivial) h)⟩
 |ow d=>exact⟨d,.inr rfl,.inr (Rp.wk (λ _ _ _ _=>trivial) h.1)⟩
 |oz d=>exact⟨d,.inr rfl,.inr (Rp.wk (λ _ _ _ _=>trivial) (aH5 h))⟩
 |o2 l=>exact⟨_,.inr rfl,.inr (Rp.wk (λ _ _ _ _=>trivial) (aBx h))⟩
theorem RR.shE{K:zAA}(R:RR K G U ρ Z H lab):RR K G U (shE ρ) Z H (λ _=>(0,0)):=by
 refine⟨by unfold VL.shE;rw[zAF];exact R.len,λ i s e=>?_,R.old,λ p hp=>absurd rfl hp,λ q hq=>(R.tm q hq).wk λ _ _ _ _=>zAj _⟩;unfold VL.shE at e;rw[zAa]at e;cases e0:ρ[i]? with
 |none=>rw[e0]at e;cases e
 |some s0=>
  rw[e0]at e;cases e;rcases R.sl i s0 e0 with rfl|⟨v,ev,hv⟩
  .exact .inl rfl
  .obtain⟨d,h1,h2⟩:=aFv hv
   rcases h1 with rfl|h1
   .exact .inl rfl
   .rcases h2 with rfl|h2
    .exact .inl rfl
    .exact .inr ⟨v,ev,by rw[h1];exact h2.wk λ _ _ _ _=>zAj _⟩
def aD1{i:Nat}(e:(stE js ρ)[i]? =some s):s= .no\/∃j,js[i]? =some (some j)/\ρ[j]? =some s:=by
 unfold stE at e;rw[zAa]at e;cases ej:js[i]? with
 |none=>rw[ej]at e;cases e
 |some o=>
  rw[ej]at e;cases o with
  |none=>cases e;exact .inl rfl
  |some j=>
   cases er:ρ[j]? with
   |none=>simp[er]at e;exact .inl e.symm
   |some s'=>simp[er]at e;subst e;exact .inr ⟨j,rfl,er⟩
def RR.block{K:zAA}{U:List (V×D)}(R:RR K G U (VL.shE ρ) Z H lab)(hz:∀p,(lab p).1<=1)(hl:H l=none):
  RR K G U (stE js (VL.shE ρ)) (stV js Z) H (λ p=>if p=l then(2,0)else(0,0)):=by
 have nl:∀p o,H p=some o->p≠l:=λ p o e z=>by subst z;rw[hl]at e;cases e
 refine⟨by unfold stE stV;rw[zAF,zAF],λ i s e=>?_,R.old,λ p hp=>?_,λ q hq=>(R.tm q hq).wk λ p o e _=>by rw[if_neg (nl p o e)];exact zAj _⟩
 .rcases aD1 e with rfl|⟨j,ej,es⟩
  .exact .inl rfl
  .rcases R.sl j s es with rfl|⟨v,ev,hv⟩
   .exact .inl rfl
   .refine .inr ⟨v,?_,?_⟩
    .unfold stV
     rw[zAa,ej];simp[ev]
    .unfold VL.shE at es
     rw[zAa]at es;cases e0:ρ[j]? with
     |none=>rw[e0]at es;cases es
     |some s0=>
      rw[e0]at es;cases es;cases s0 with
      |no=>trivial
      |oz d=>exact Rp.wk (λ p o e _=>by show(if p=l then((2,0):Nat×Nat)else(0,0)).1<=1;rw[if_neg (nl p o e)];exact zAj _) hv
      |nw d=>exact Rp.wk (λ p o e _=>by show(if p=l then((2,0):Nat×Nat)else(0,0)).1<=1;rw[if_neg (nl p o e)];exact zAj _) hv
      |sh d=>exact Rp.wk (λ p o e _=>by show(if p=l then((2,0):Nat×Nat)else(0,0)).1<=1;rw[if_neg (nl p o e)];exact zAj _) hv
      |ow d=>exact Rp.wk (λ p o e _=>by show(if p=l then((2,0):Nat×Nat)else(0,0)).1<=1;rw[if_neg (nl p o e)];exact zAj _) hv
      |o2 d=>exact Rp.wk (λ p o e _=>by show(if p=l then((2,0):Nat×Nat)else(0,0)).1<=1;rw[if_neg (nl p o e)];exact zAj _) hv
 .by_cases hp':p=l
  .subst hp';exact R.old.free hl
  .exact absurd (show(if p=l then((2,0):Nat×Nat)else(0,0)).1=0 by rw[if_neg hp']) hp
def aKm(XN N:List Str)(js:List (Option Nat))(ks:List Nat)(sc:Scope):Bool:=(zBM js.length).all λ i=>match js[i]? with
 |some (some j)=>match N[i]?,XN[j]? with
  |some x,some y=>x==y&&sc.names.lookup x==some .free&& !ks.contains i
  |_,_=>false
 |_=>true
def vR(h1:sc.kind= .function)(h2:(sc.names.all λ y=>y.2 != .cell||sc.names.lookup y.1==some .cell)=true)(h3:(sc.names.all λ y=>y.2 != .local||sc.names.lookup y.1==some .local)=true)
  (h4:(sc.names.all λ y=>y.2 != .free||(X.env.kindOf y.1==some .cell||X.env.kindOf y.1==some .free))=true)(h5:js.length=N.length)(h6:aKm X.N N js ks sc=true):cT X sc N (stV js) ks:=by
 refine⟨h1,λ y hy e=>?_,λ y hy e=>?_,λ y hy e=>?_,λ Z=>by unfold stV;rw[zAF];exact h5,λ Z i x v e1 e2=>?_⟩
 .have:=zBE.mp h2 y hy
  rw[e]at this;simpa using this
 .have:=zBE.mp h3 y hy
  rw[e]at this;simpa using this
 .have:=zBE.mp h4 y hy
  rw[e]at this;simpa using this
 .unfold stV at e2
  rw[zAa]at e2;cases ej:js[i]? with
  |none=>rw[ej]at e2;cases e2
  |some o=>
   rw[ej]at e2;cases o with
   |none=>cases e2
   |some j=>
    have hi:i<js.length:=(zAK.mp ej).1
    have:=zBE.mp h6 i (zBb.mpr hi)
    rw[ej,e1]at this;dsimp only at this;cases ey:X.N[j]? with
    |none=>rw[ey]at this;cases this
    |some y=>
     rw[ey]at this;simp only[zAQ,beq_iff_eq,zEh]at this;obtain⟨⟨h,h'⟩,h''⟩:=this;subst h;refine⟨h',λ hk=>?_,j,ey,?_⟩
     .rw[List.contains_iff_mem.mpr hk]at h'';cases h''
     .simp only[zDs,zGY,Option.some.injEq]at e2
      cases es:Z[j]? with
      |none=>rw[es]at e2;cases e2
      |some w=>rw[es]at e2;simp at e2;subst e2;rfl
abbrev Ct.blk(C:Ct)(sc:Scope)(N:List Str):Ct where
 ι:=C.ι×Addr×List Addr×zAD×Hp
 X:=λ i=>(C.X i.1).block sc i.2.1 N i.2.2.1 i.2.2.2.1 i.2.2.2.2
 prog:=C.prog
 w:=C.w
 K:=C.K
 mg:=C.mg
 base:=C.base
 k:=C.k
 G:={C.G with E:=λ _ _ _=>False}
 cx:=λ i=>C.cx i.1
 calm:=λ i=>C.calm i.1
 room:=λ i=>C.room i.1
 own:=λ i=>PassesOwn.never
 pass:=λ i pins Z H s e s' I h=>by obtain⟨_,_,_,_,_,_,_,_,_,_,_,_,_,hE⟩:=h;exact hE
 dOk:=false
 dcx:=λ h=>absurd h zAG
def lcL(ρ:En)(fg:D->En->Rs En)(ft:En->Rs Bool)(fe:En->Rs D):List D->Rs (List D)
 |[]=>.ok []
 |d::ds=>(fg d ρ).bd λ ρ1=>(ft ρ1).bd λ k=>if k=true then(fe ρ1).bd λ y=>(lcL ρ fg ft fe ds).bd λ ys=>.ok (y::ys)else lcL ρ fg ft fe ds
def lcD(fi:En->Rs (List D))(js:List (Option Nat))(fg:D->En->Rs En)(ft:En->Rs Bool)(fe:En->Rs D):En->Rs D:=λ ρ=>(fi (shE ρ)).bd λ ds=>
 if ds.length<zAV then(match lcL (stE js (shE ρ)) fg ft fe ds with
  | .ok l=>.ok (.lst l)
  |_=>.st)else .st
def zJ(C:Ct)(ifs:List Expr)(f:En->Rs Bool):Prop:=∃t,(∀i,wB (C.X i) ifs t)/\wA C.K C.G t f
def lN:En->Rs Bool:=λ _=>.ok true
def qX:zJ C [] lN:=⟨_,λ _=>aIW,λ U Z H ρ lab Q R W=>W H (aO.refl H)⟩
def uD(h:ST C c f):zJ C [c] f:=let⟨t,h1,h2⟩:=h;⟨t,λ i=>aIV (h1 i),h2⟩
def aAD(h:lcL ρ fg ft fe (d::ds)= .ok l):
  ∃ρ1 k,fg d ρ= .ok ρ1/\ft ρ1= .ok k/\((k=true/\∃y ys,fe ρ1= .ok y/\lcL ρ fg ft fe ds= .ok ys/\l=y::ys)\/(k=false/\lcL ρ fg ft fe ds= .ok l)):=by
 unfold lcL at h;obtain⟨ρ1,e1,h⟩:=bM h;obtain⟨k,e2,h⟩:=bM h;refine⟨ρ1,k,e1,e2,?_⟩;cases k with
 |true=>
  rw[if_pos rfl]at h;obtain⟨y,e3,h⟩:=bM h;obtain⟨ys,e4,h⟩:=bM h;cases h;exact .inl ⟨rfl,y,ys,e3,e4,rfl⟩
 |false=>
  rw[if_neg zAG]at h;exact .inr ⟨rfl,h⟩
def RR.but_blk{K:zAA}{U:List (V×D)}(R:RR K G U (stE js (VL.shE ρ)) Z H (λ p=>if p=l then(2,0)else(0,0)))(B:gK l H H')(hl:H l=some o)(ho:ik o=true)(h0:G.H0 l=none):
  RR K G U (stE js (VL.shE ρ)) Z H' (λ p=>if p=l then(2,0)else(0,0)):=by
 have lab1l:¬((λ p=>if p=l then((2,0):Nat×Nat)else(0,0)) l).1<=1:=by simp
 refine⟨R.len,λ j s e=>?_,λ b o hb=>?_,R.new,λ q hq=>(R.tm q hq).but B hl ho lab1l⟩
 .rcases R.sl j s e with z|⟨u,e1,e2⟩
  .exact .inl z
  .refine .inr ⟨u,e1,?_⟩
   rcases aD1 e with rfl|⟨jx,ej,es⟩
   .trivial
   .unfold VL.shE at es
    rw[zAa]at es;cases e0:ρ[jx]? with
    |none=>rw[e0]at es;cases es
    |some s0=>rw[e0]at es;cases es;cases s0<;>first|trivial|exact Rp.but B hl ho lab1l e2
 .exact B b o (λ z=>by subst z;rw[h0]at hb;cases hb) (R.old b o hb)
def RR.blk0{K:zAA}(R:RR K G U (VL.shE ρ) Z H lab)(hG:G'.H0=G.H0):RR K G' U (VL.shE ρ) Z H (λ _=>(0,0)):=by
 refine⟨R.len,λ i s e=>?_,by rw[hG];exact R.old,λ p hp=>absurd rfl hp,λ q hq=>(R.tm q hq).wk λ _ _ _ _=>zAj _⟩;rcases R.sl i s e with rfl|⟨v,ev,hv⟩
 .exact .inl rfl
 .unfold VL.shE at e
  rw[zAa]at e;cases e0:ρ[i]? with
  |none=>rw[e0]at e;cases e
  |some s0=>rw[e0]at e;cases e;cases s0<;>first|exact .inl rfl|exact .inr ⟨v,ev,Rp.wk (λ _ _ _ _=>zAj _) hv⟩
section
variable{K:zAA}{G:Gx}{wi:TI}{fi:En->Rs (List D)}{js:List (Option Nat)}{g:TG}{fg:D->En->Rs En}{tt:TT}{ft:En->Rs Bool}{te:TE}{fe:En->Rs D}
def aD8(hi:aB9 K G wi fi)(hg:aBa K {G with E:=λ _ _ _=>False} g fg)(ht:wA K {G with E:=λ _ _ _=>False} tt ft)(he:gr K {G with E:=λ _ _ _=>False} (some []) te fe):
  gr K G (some []) (tLC wi (stV js) g tt te) (lcD fi js fg ft fe):=by
 intro U Z H ρ lab Q R W;refine hi U Z H _ _ _ R.shE (W.bd.imp λ ds _ w J H1 lab1 U1 s1 _ R1 jl=>?_);intro l hl;obtain⟨hlen,out,hout,w⟩:ds.length<zAV/\∃out,lcL (stE js (VL.shE ρ)) fg ft fe ds= .ok out/\QE K (some []) lab H Q (.lst out):=by
  by_cases hlen:ds.length<zAV
  .rw[if_pos hlen]at w
   cases hout:lcL (stE js (VL.shE ρ)) fg ft fe ds with
   |ok out=>rw[hout]at w;exact⟨hlen,out,rfl,w⟩
   |ex c=>rw[hout]at w;exact zAM w
   |st=>rw[hout]at w;exact zAM w
  .rw[if_neg hlen]at w
   exact zAM w
 have R0:RR K {G with E:=λ _ _ _=>False} (U1++U) (VL.shE ρ) Z H1 (λ _=>(0,0)):=R1.blk0 rfl;have RB:=R0.block (js:=js) (λ _=>zAj _) hl;have hHl:H l=none:=s1.free hl;have lab1l:¬((λ p=>if p=l then((2,0):Nat×Nat)else(0,0)) l).1<=1:=by simp
 refine⟨λ i n acc H2=>∃pre,n=ds.length-i/\i<=ds.length/\H2 l=some (.lst acc)/\RR K {G with E:=λ _ _ _=>False} (U1++U) (stE js (VL.shE ρ)) (stV js Z) H2 (λ p=>if p=l then(2,0)else(0,0))/\aO H H2/\acc.length<=i/\
  Rps K (λ p=>H p=none/\p≠l) H2 acc pre/\∃post,lcL (stE js (VL.shE ρ)) fg ft fe (ds.drop i)= .ok post/\out=pre++post,⟨ds.length,[],by lia,by lia,aX,RB.up (az hl _),s1.trans (az hl _),zAP _,.nil,out,hout,rfl⟩,?_⟩
 rintro i n acc H2 ⟨pre,rfl,hi,hH2,R2,s2,hacc,rpre,post,hpost,eout⟩;refine⟨hH2,by lia,?_⟩;have jj:=jl _ H2 λ q hq=>R2.tm q (zA8 _ hq)
 by_cases hlt:i<ds.length
 .obtain⟨go,yl⟩:=(jj i).2 hlt
  refine .inr ⟨go,λ x H3 hy=>?_⟩;obtain⟨s3,d,ed,rx⟩:=yl x H3 hy;replace R2:=R2.up s3;replace hH2:=s3 _ _ hH2;replace s2:=s2.trans s3;replace rpre:=rpre.up s3;have ed2:ds.drop i=d::ds.drop (i+1):=by
   rw[zBG hlt]
   have:=zAB hlt
   rw[ed]at this;cases this;rfl
  rw[ed2]at hpost;obtain⟨ρ1,k,e1,e2,e3⟩:=aAD hpost;refine hg (U1++U) x d _ H3 _ _ _ ρ1 R2 rx e1 λ Z4 R4=>?_
  refine ht (U1++U) Z4 H3 ρ1 _ _ R4 ?_;rw[e2];intro H5 s5;rcases e3 with ⟨rfl,y,ys,e3,e4,rfl⟩|⟨rfl,e4⟩
  .rw[if_pos rfl]
   refine he (U1++U) Z4 H5 ρ1 _ _ (R4.up s5) ?_;rw[e3];intro v H6 s6 r6;have hl6:H6 l=some (.lst acc):=s6 _ _ (s5 _ _ hH2);have B:gK l H6 (upd H6 l (.lst (acc++[v]))):=λ b o ne hb=>by rw[aU ne];exact hb
   refine⟨hl6,ds.length-(i+1),by lia,pre++[y],rfl,hlt,aX,?_,?_,by rw[zAL];simp;lia,?_,ys,e4,by rw[eout];simp⟩
   .exact(R2.up (s5.trans s6)).but_blk B hl6 rfl (R1.old.free hl)
   .exact λ b o hb=>B b o (λ z=>by subst z;rw[hHl]at hb;cases hb) (((s2.trans s5).trans s6) b o hb)
   .refine((rpre.up (s5.trans s6)).append (.cons (r6.wk λ p o _ z=>?_) .nil)).but B hl6 rfl λ z=>z.2 rfl
    rcases z with z|z
    .exact⟨(s2.trans s5).free z,λ e=>by subst e;rw[s5 _ _ hH2]at z;cases z⟩
    .cases z
  .rw[if_neg zAG]
   exact⟨ds.length-(i+1),by lia,pre,rfl,hlt,s5 _ _ hH2,R2.up s5,s2.trans s5,by lia,rpre.up s5,post,e4,eout⟩
 .have ei:i=ds.length:=by lia
  subst ei;rw[zCY]at hpost;cases hpost;rw[zA9]at eout;subst eout;exact .inl ⟨(jj _).1 (zAP _),w _ H2 s2 (.lst hH2 (.inl hHl) (rpre.wk λ p o _ z=>⟨.inl z.1,z.2⟩))⟩
end
section
variable{C:Ct}{pos:Pos}{elt tg iter:Expr}{ifs:List Expr}{sc:Scope}{N:List Str}{js:List (Option Nat)}{ks:List Nat}{fi:En->Rs (List D)}{fg:D->En->Rs En}{ft:En->Rs Bool}{fe:En->Rs D}
def bx{C:Ct}(nd:N.Nodup:=by decide+kernel)(hk:i∈ks:=by decide)(hN:∀j,((C.blk sc N).X j).N[i]? =some x:=by intro _;rfl)(hx:∀j,Loc ((C.blk sc N).X j).env.scope x:=by intro _;first|exact zCo rfl|exact zCS rfl)
  (hf:∀j,((C.blk sc N).X j).fn x=true\/((C.blk sc N).X j).env.scope.names.lookup x=some .local:=by intro _;first|exact .inl rfl|exact .inr rfl):SG (C.blk sc N) (.Name x pos) ks (gnm i):=
 bI hN hx hf (λ _=>nd) hk
def aBk(hi:SI C tg iter fi)(hg:SG (C.blk sc N) tg ks fg)(ht:zJ (C.blk sc N) ifs ft)(he:SE (C.blk sc N) (some []) elt fe)(hs:∀i x,zAx iter (C.X i).env x=pure x:=by intro _ _;rfl)(hB:∀i,cT (C.X i) sc N (stV js) ks:=by intro _;exact vR rfl rfl rfl rfl rfl rfl):SE C (some []) (.ListComp elt [⟨tg,iter,ifs,0⟩] sc pos) (lcD fi js fg ft fe):=by
 obtain⟨wi,i1,i2⟩:=hi;obtain⟨g,g1,g2,g3,g4⟩:=hg;obtain⟨tt,t1,t2⟩:=ht;obtain⟨te,e1,e2⟩:=he;exact⟨_,λ i=>aKB (hB i) (C.calm i) (i1 i) (λ c fp z5 z4=>g1 (i,c,fp,z5,z4)) g3 (λ c fp z5 z4=>t1 (i,c,fp,z5,z4)) (λ c fp z5 z4=>e1 (i,c,fp,z5,z4)) (hs i),aD8 i2 g2 t2 e2⟩
def aJj(hi:SI C tg iter fi)(hg:SG (C.blk sc N) tg ks fg)(ht:zJ (C.blk sc N) ifs ft)(he:SE (C.blk sc N) (some []) elt fe)(hN:∀j,(C.X j).N[i]? =some x:=by intro _;rfl)(hx:∀j,Loc (C.X j).env.scope x:=by intro _;first|exact zCo rfl|exact zCS rfl)(hsw:∀j,zC3 (.ListComp elt [⟨tg,iter,ifs,0⟩] sc pos) (some (.Name x pos')) spos.line (C.X j).env=pure true:=by intro _;rfl)(hs:∀i x,zAx iter (C.X i).env x=pure x:=by intro _ _;rfl)(hf:∀j,(C.X j).fn x=true\/(C.X j).env.scope.names.lookup x=some .local:=by intro _;first|exact .inl rfl|exact .inr rfl)(nd:∀j,(C.X j).N.Nodup:=by intro _;assumption)(hB:∀i,cT (C.X i) sc N (stV js) ks:=by intro _;exact vR rfl rfl rfl rfl rfl rfl):
  SV C i (.Assign [.Name x pos'] (.ListComp elt [⟨tg,iter,ifs,0⟩] sc pos) spos) (some []) (lcD fi js fg ft fe):=by
 obtain⟨wi,i1,i2⟩:=hi;obtain⟨g,g1,g2,g3,g4⟩:=hg;obtain⟨tt,t1,t2⟩:=ht;obtain⟨te,e1,e2⟩:=he;exact⟨_,λ j=>zg (nd j) (hN j) (hx j) (hB j) (C.calm j) (i1 j) (λ c fp z5 z4=>g1 (j,c,fp,z5,z4)) g3 (λ c fp z5 z4=>t1 (j,c,fp,z5,z4)) (λ c fp z5 z4=>e1 (j,c,fp,z5,z4)) (hsw j) (hs j) (hf j),aD8 i2 g2 t2 e2⟩
end
def RR.mut{K:zAA}(R:RR K G U ρ Z H lab)(ev:Z[i]? =some (some v))(hl:H l=some o)(ho:ik o=true)(hlab:(lab l).1=i+2)
  (B:gK l H H')(h':dO K H' lab i v s'):RR K G U (ρ.set i s') Z H' lab:=by
 refine⟨by rw[zBT];exact R.len,λ j x e=>?_,λ b u hb=>B b u (λ z=>?_) (R.old b u hb),R.new,λ q hq=>(R.tm q hq).but B hl ho λ z=>by lia⟩
 .by_cases hj:i=j
  .subst hj
   have hi:i<ρ.length:=by
    have:=(zAK.mp e).1
    rwa [zBT]at this
   rw[zCD hi]at e;cases e;exact .inr ⟨v,ev,h'⟩
  .rw[zB2 hj]at e
   rcases R.sl j x e with z|⟨u,e1,e2⟩
   .exact .inl z
   .refine .inr ⟨u,e1,?_⟩
    cases x with
    |no=>trivial
    |sh d=>exact Rp.but B hl ho (λ z=>by lia) e2
    |nw d=>exact Rp.but B hl ho (λ z=>by lia) e2
    |ow d=>exact⟨Rp.but B hl ho (λ z=>by lia) e2.1,e2.2⟩
    |oz d=>
     obtain⟨a,xs,ds,q1,q2,q3,q4,q5⟩:=e2;exact⟨a,xs,ds,q1,q2,B a _ (λ z=>by subst z;exact hj (by lia)) q3,q4,Rps.but B hl ho (λ z=>by lia) q5⟩
    |o2 ll=>
     obtain⟨a,xs,q1,q2,q3,q4,q5⟩:=e2;refine⟨a,xs,q1,B a _ (λ z=>?_) q2,q3,q4,λ jj y ds f1 f2=>(q5 jj y ds f1 f2).but B hl ho λ z=>?_⟩
     .rw[z]at q3;rw[q3]at hlab;exact hj (by simpa using hlab.symm)
     .rw[z]at hlab;exact hj (by simpa using hlab.symm)
 .subst z
  have:=R.new b (by rw[hlab];lia)
  rw[this]at hb;cases hb
section
variable{C:Ct}{pos apos cpos p:Pos}{e a:Expr}{fe fa:En->Rs D}{i:Nat}{x:Str}{m:Mode}
def aFZ(i:Nat)(fe:En->Rs D):En->Ou:=λ ρ=>match ρ[i]? with
 |some (.ow (.lst ds))=>(fe ρ).bo λ d=>if ds.length<zAV then .nx (ρ.set i (.ow (.lst (ds++[d]))))else .st
 |_=>.st
def aCY(i:Nat)(he:SE C m e fe)(hm:okN m=true:=by rfl)(hN:∀j,(C.X j).N[i]? =some x:=by intro _;rfl)(hv:∀j,Vis (C.X j).env.scope x:=by intro _;first|exact zCo rfl|exact zCS (zCo rfl)|exact zCS (zCS rfl))(hd:Nd x:=by decide)
  (hcd:(x==("__classdict__":Str))=false:=by decide)(hs1:∀j,zA2 [e] (C.X j).env=[(false,eval e (C.X j).env)]:=by intro _;rfl)
  (hbase:∀j,zFI (.Name x p) "append" (C.X j).env (eval (.Name x p) (C.X j).env)=eval (.Name x p) (C.X j).env:=by intro _;rfl)
  (hfew:∀j,((zC2 cpos (zA2 [e] (C.X j).env)).all (λ x=>!x.1)&&(zEa cpos (zDX [] (C.X j).env)).all (λ x=>x.1.isSome)&&decide ([e].length+([]:List zCy).length+(if ([]:List zCy).isEmpty then 0 else 1)<30))=true:=by intro _;rfl)
  (hline:(apos.endLine==cpos.line)=true:=by rfl)
  (hsw:∀j,zC3 (.Call (.Attribute (.Name x p) "append" apos) [e] [] cpos) none pos.line (C.X j).env=pure false:=by intro _;rfl):
  SS C (.Expr (.Call (.Attribute (.Name x p) "append" apos) [e] [] cpos) pos) (aFZ i fe):=by
 obtain⟨t,h1,h2⟩:=he;refine⟨wH (tBM C.K "list" uO (oA i) (jK t qT)),λ j=>pH (by rw[<-C.hK j];exact zm zCQ zDo zFP uY (gq (hN j) (hv j) hd hcd) (aV (h1 j) cu (hs1 j)) (hbase j) (hfew j) hline (hs1 j) rfl) (hsw j),λ U Z H ρ lab De R W=>?_⟩;unfold aFZ at W;cases es:ρ[i]? with
 |none=>rw[es]at W;exact zAM W
 |some s=>
  rw[es]at W;split at W
  .rename_i ds hs
   cases hs;rcases R.sl i _ es with z|⟨v,ev,hv'⟩
   .cases z
   .obtain⟨hv1,htop⟩:=hv'
    obtain⟨a0,ea0,la0⟩:=htop rfl;subst ea0;cases hv1 with
    |lst h mm r=>
     rename_i xs;refine⟨.ref a0,ev,.inl ⟨rfl,xs,SqL.of h⟩,h2 U Z H ρ lab _ R (W.bo.imp λ d _ w y H2 s2 r2=>?_)⟩;by_cases hz:ds.length<zAV
     .rw[if_pos hz]at w
      refine⟨a0,xs,y,rfl,rfl,s2 _ _ h,by rw[r.length];exact hz,λ H3 B h3=>?_⟩;obtain⟨R',r'⟩:=R.fresh (P:=λ k=>k=1) rfl (λ k hk=>beq_iff_eq.mp (pL hm k hk)) s2 r2;have la:(cF H 1 lab a0).1=i+2:=by rw[bU h];exact la0
      refine w Z H3 _ (R'.mut ev (s2 _ _ h) rfl la B ⟨.lst h3 (.inr la) ?_,λ _=>⟨a0,rfl,la⟩⟩);have ra:Rps C.K (λ p=>((cF H 1 lab p).1=1\/(cF H 1 lab p).1=i+2)/\p≠a0) H2 (xs++[y]) (ds++[d]):=by
       refine(r.mono s2 λ p o e z=>⟨by rw[bU e];exact z.1,z.2⟩).append (.cons (r'.wk λ p o e z=>⟨.inl z,λ q=>?_⟩) .nil);subst q;rw[la]at z;lia
      exact ra.but B (s2 _ _ h) rfl λ z=>z.2 rfl
     .rw[if_neg hz]at w
      exact zAM w
  .exact zAM W
def at2(ll:List (List D)):D->Option (Nat×List D)
 | .int n=>(ixN ll.length n).bind λ j=>(ll[j]?).map λ ds=>(j,ds)
 |_=>none
def n8(i:Nat)(fa fe:En->Rs D):En->Ou:=λ ρ=>match ρ[i]? with
 |some (.o2 ll)=>(fa ρ).bo λ k=>match at2 ll k with
  |some (j,ds)=>(fe ρ).bo λ d=>if ds.length<zAV then .nx (ρ.set i (.o2 (ll.set j (ds++[d]))))else .st
  |none=>.st
 |_=>.st
def aFY(h:at2 ll k=some (j,ds)):∃n,k= .int n/\ixN ll.length n=some j/\ll[j]? =some ds:=by
 cases k with
 |int n=>
  simp only[at2,Option.bind_eq_some_iff,zBw]at h;obtain⟨j',h1,ds',h2,h3⟩:=h;cases h3;exact⟨n,rfl,h1,h2⟩
 |_=>cases h
def uA(i:Nat){p2:Pos}(ha:SE C m a fa)(he:SE C (some []) e fe)(hN:∀j,(C.X j).N[i]? =some x:=by intro _;rfl)(hv:∀j,Vis (C.X j).env.scope x:=by intro _;first|exact zCo rfl|exact zCS (zCo rfl)|exact zCS (zCS rfl))(hd:Nd x:=by decide)
  (hcd:(x==("__classdict__":Str))=false:=by decide)(hs1:∀j,zA2 [e] (C.X j).env=[(false,eval e (C.X j).env)]:=by intro _;rfl)(hp:zK a:=by exact λ _ _=>rfl)
  (hbase:∀j,zFI (.Subscript (.Name x p) a p2) "append" (C.X j).env (eval (.Subscript (.Name x p) a p2) (C.X j).env)=eval (.Subscript (.Name x p) a p2) (C.X j).env:=by intro _;rfl)
  (hfew:∀j,((zC2 cpos (zA2 [e] (C.X j).env)).all (λ x=>!x.1)&&(zEa cpos (zDX [] (C.X j).env)).all (λ x=>x.1.isSome)&&decide ([e].length+([]:List zCy).length+(if ([]:List zCy).isEmpty then 0 else 1)<30))=true:=by intro _;rfl)
  (hline:(apos.endLine==cpos.line)=true:=by rfl)
  (hsw:∀j,zC3 (.Call (.Attribute (.Subscript (.Name x p) a p2) "append" apos) [e] [] cpos) none pos.line (C.X j).env=pure false:=by intro _;rfl):
  SS C (.Expr (.Call (.Attribute (.Subscript (.Name x p) a p2) "append" apos) [e] [] cpos) pos) (n8 i fa fe):=by
 obtain⟨t,h1,h2⟩:=he;obtain⟨ta,a1,a2⟩:=ha;refine⟨wH (tBM C.K "list" uO (tOp (aIM C.K) (oA i) ta) (jK t qT)),λ j=>pH (by rw[<-C.hK j];exact zm zCQ zDo zFP uY (aEH ym (gq (hN j) (hv j) hd hcd) (a1 j) hp) (aV (h1 j) cu (hs1 j)) (hbase j) (hfew j) hline (hs1 j) rfl) (hsw j),λ U Z H ρ lab De R W=>?_⟩;unfold n8 at W;cases es:ρ[i]? with
 |none=>rw[es]at W;exact zAM W
 |some s=>
  rw[es]at W;cases s with
  |o2 ll=>
   dsimp only at W;rcases R.sl i _ es with z|⟨v,ev,top,xs,rfl,ht,hlt,hlen,hin⟩
   .cases z
   .refine⟨.ref top,ev,a2 U Z H ρ lab _ R (W.bo.imp λ k _ w kv H1 s1 r1=>?_)⟩
    cases hk:at2 ll k with
    |none=>rw[hk]at w;exact zAM w
    |some q=>
     obtain⟨j,ds⟩:=q;rw[hk]at w;dsimp only at w;obtain⟨n,rfl,hj,hds⟩:=aFY hk;cases r1;have hjx:∃xj,xs[j]? =some xj:=by
      have:j<xs.length:=by rw[hlen];exact(zAK.mp hds).1
      exact⟨_,zAB this⟩
     obtain⟨xj,hxj⟩:=hjx;have hr:=hin j xj ds hxj hds;cases hr with
     |lst hl ml rl=>
      rename_i l ys;refine⟨top,xs,n,.ref l,rfl,rfl,SqL.of (s1 _ _ ht),by unfold atI;rw[hlen,hj];exact hxj,.inl ⟨rfl,ys,SqL.of (s1 _ _ hl)⟩,h2 U Z H1 ρ lab _ (R.up s1) (w.bo.imp λ d _ w y H2 s2 r2=>?_)⟩;by_cases hz:ds.length<zAV
      .rw[if_pos hz]at w
       have s12:=s1.trans s2;refine⟨l,ys,y,rfl,rfl,s12 _ _ hl,by rw[rl.length];exact hz,λ H3 B h3=>?_⟩;have ltop:l≠top:=λ e=>by rw[e,hlt]at ml;cases ml
       let lab':Lab:=λ p=>match H1 p with
        |none=>(i+2,j+1)
        |some _=>lab p
       have lo:∀{p o},H1 p=some o->lab' p=lab p:=λ{p o} e=>by show(match H1 p with|none=>_|some _=>_)=_;rw[e]
       have ln:∀{p},H1 p=none->lab' p=(i+2,j+1):=λ{p} e=>by show(match H1 p with|none=>_|some _=>_)=_;rw[e]
       have R':RR C.K C.G U ρ Z H2 lab':=((R.up s1).relab (λ p o e=>lo e) λ p hp=>by
        cases e:H1 p with
        |none=>exact(R.old.trans s1).free e
        |some o=>rw[lo e]at hp;exact R.new p hp).up s2
       have labl:lab' l=(i+2,j+1):=by rw[lo (s1 _ _ hl)];exact ml
       refine w Z H3 lab' (R'.mut ev (s12 _ _ hl) rfl (by rw[labl]) B ⟨top,xs,rfl,B _ _ (zDe ltop) (s12 _ _ ht),by rw[lo (s1 _ _ ht)];exact hlt,by rw[zBT];exact hlen,λ jj z dz f1 f2=>?_⟩);by_cases hjj:j=jj
       .subst hjj
        rw[hxj]at f1;cases f1;rw[zCD (zAK.mp hds).1]at f2;cases f2;refine .lst h3 labl ?_;have ra:Rps C.K (λ p=>lab' p=(i+2,j+1)/\p≠l) H2 (ys++[y]) (ds++[d]):=by
         refine(rl.mono s12 λ p o e z=>⟨by rw[lo (s1 _ _ e)];exact z.1,z.2⟩).append (.cons (r2.wk λ p o e z=>?_) .nil);rcases z with z|z
         .exact⟨ln z,λ q=>by subst q;rw[s1 _ _ hl]at z;cases z⟩
         .cases z
        exact ra.but B (s12 _ _ hl) rfl λ z=>z.2 rfl
       .rw[zB2 hjj]at f2
        refine((hin jj z dz f1 f2).mono s12 (A':=λ p=>lab' p=(i+2,jj+1)) λ p o e q=>by rw[lo (s1 _ _ e)];exact q).but B (s12 _ _ hl) rfl λ q=>?_
        rw[labl]at q;simp only[zGr]at q;lia
      .rw[if_neg hz]at w
       exact zAM w
  |_=>exact zAM W
end
mutual
def eqD:D->D->Bool
 | .non,.non=>true
 | .bl a,.bl b=>a==b
 | .bl a,.int b=>(if a then 1 else 0)==b
 | .int a,.bl b=>a==(if b then 1 else 0)
 | .int a,.int b=>a==b
 | .str a,.str b=>a==b
 | .tup l,.tup m=>lO l m
 | .lst l,.lst m=>lO l m
 |_,_=>false
def lO:List D->List D->Bool
 |[],[]=>true
 |x::xs,y::ys=>eqD x y&&lO xs ys
 |_,_=>false
end
mutual
def jX:D->Nat
 | .tup l=>fK l+1
 | .lst l=>fK l+1
 |_=>0
def fK:List D->Nat
 |[]=>0
 |d::r=>max (jX d) (fK r)
end
mutual
def aa:D->Bool
 | .tup l=>bJ l
 | .lst l=>bJ l
 | .dct _ _=>false
 | .set _=>false
 | .scr _=>false
 | .fn _=>false
 |_=>true
def bJ:List D->Bool
 |[]=>true
 |d::r=>aa d&&bJ r
end
mutual
theorem qG:∀d:D,aa d=true->eqD d d=true
 | .non,_=>by simp[eqD]
 | .bl b,_=>by simp[eqD]
 | .int i,_=>by simp[eqD]
 | .str x,_=>by simp[eqD]
 | .tup l,h=>by exact rB l (by simpa[aa]using h)
 | .lst l,h=>by exact rB l (by simpa[aa]using h)
 | .dct _ _,h=>by simp[aa]at h
 | .set _,h=>by simp[aa]at h
 | .scr _,h=>by simp[aa]at h
theorem rB:∀l:List D,bJ l=true->lO l l=true
 |[],_=>by simp[lO]
 |d::r,h=>by
  simp only[bJ,zAQ]at h;simp only[lO,zAQ];exact⟨qG d h.1,rB r h.2⟩
end
structure jk(K:zAA)(H:Hp)(s:zAD):Prop where
 tup:∀{a:Addr} {xs:List V},SqT K H a xs->∃its:List Value,Vals xs its/\s.heap.IsTuple a its.toArray
 lst:∀{a:Addr} {xs:List V},H a=some (.lst xs)->∃its:List Value,Vals xs its/\s.heap.IsList a its.toArray
 inj:∀{a:Addr} {xs ys:List V},SqT K H a xs->SqT K H a ys->xs=ys
 ne:∀{a:Addr} {xs ys:List V},SqT K H a xs->H a=some (.lst ys)->False
def Inv.seqOk(I:L2.Inv X pins Z H s):jk X.K H s where
 tup:=λ h=>let⟨its,r,p,_⟩:=I.tuple h;⟨its,r,p⟩
 lst:=λ h=>let⟨its,r,p,_⟩:=I.list (SqL.of h);⟨its,r,p.isList⟩
 inj:=λ h h'=>I.tuple_inj h h'
 ne:=λ h h'=>by
  obtain⟨its,_,⟨o,e,c,_⟩,_⟩:=I.tuple h;obtain⟨its2,_,⟨o2,n2,e2,c2,_⟩,_⟩:=I.list (SqL.of h');rw[e]at e2;cases e2;rw[c]at c2;injection c2 with c3
  exact absurd c3 (by decide)
section
variable{K:zAA}{H:Hp}{s:zAD}
def ndP:D->Prop
 | .dct _ _=>False
 | .set _=>False
 | .scr _=>False
 | .fn _=>False
 |_=>True
def ndx{d:D}(h:aa d=true):ndP d:=by cases d<;>first|exact zDg|(simp[aa]at h)
def bC(h:aa (.dct a b)=true):False:=by simp[aa]at h
def dI(h:aa (.set a)=true):False:=by simp[aa]at h
def dJ(h:aa (.scr a)=true):False:=by simp[aa]at h
def fC(h:aa (.fn a)=true):False:=by simp[aa]at h
def iH(h:aa (.tup a)=true):bJ a=true:=by simpa[aa]using h
def iI(h:aa (.lst a)=true):bJ a=true:=by simpa[aa]using h
def jN(h:bJ (d::a)=true):aa d=true/\bJ a=true:=by
 simp only[bJ,zAQ]at h;exact h
def aHP(K:zAA)(s:zAD)(H:Hp)(x:V)(d:D):Prop:=jk K H s->∀(A':Addr->Prop) (e:D),Rp K A' H x e->aa d=true->aa e=true->d=e
def aAY(K:zAA)(s:zAD)(H:Hp)(xs:List V)(ds:List D):Prop:=jk K H s->∀(A':Addr->Prop) (es:List D),Rps K A' H xs es->bJ ds=true->bJ es=true->ds=es
def aGm(ha:SqT K H a xs)(ih:aAY K s H xs ds):aHP K s H (.ref a) (.tup ds):=λ ok A' e h n1 n2=>by
 cases h with
 |tup hb r'=>
  have e:=ok.inj ha hb;subst e;rw[ih ok _ _ r' (iH n1) (iH n2)]
 |lst hb _ _=>exact(ok.ne ha hb).elim
 |_=>exact zAM (ndx n2)
def aGn(ha:H a=some (.lst xs))(ih:aAY K s H xs ds):aHP K s H (.ref a) (.lst ds):=λ ok A' e h n1 n2=>by
 cases h with
 |tup hb r'=>exact(ok.ne hb ha).elim
 |lst hb _ r'=>
  rw[ha]at hb;cases hb;rw[ih ok _ _ r' (iI n1) (iI n2)]
 |_=>exact zAM (ndx n2)
def aEi(h1:aHP K s H x d)(h2:aAY K s H xs ds):aAY K s H (x::xs) (d::ds):=λ ok A' es h n1 n2=>by
 cases h with
 |cons k r'=>rw[h1 ok _ _ k (jN n1).1 (jN n2).1,h2 ok _ _ r' (jN n1).2 (jN n2).2]
def Rp.inj(ok:jk K H s)(r:Rp K A H x d)(h:Rp K A' H x e)(n1:aa d=true)(n2:aa e=true):d=e:=
 Rp.rec (motive_1:=λ _ H x d _=>aHP K s H x d) (motive_2:=λ _ H xs ds _=>aAY K s H xs ds)
  (λ _ _ _ h _ _=>by cases h;rfl) (λ _ _ _ _ h _ _=>by cases h;rfl) (λ _ _ _ _ h _ _=>by cases h;rfl) (λ _ _ _ _ h _ _=>by cases h;rfl) (λ ha _ ih=>aGm ha ih) (λ ha _ _ ih=>aGn ha ih)
  (λ _ _ _ _ _ _ _ _ n1 _=>(bC n1).elim) (λ _ _ _ _ _ _ _ _ n1 _=>(bC n1).elim) (λ _ _ _ _ _ _ _ _ n1 _=>(dI n1).elim) (λ _ _ _ _ _ n1 _=>(dJ n1).elim) (λ _ _ _ _ _ n1 _=>(fC n1).elim)
  (λ _ _ _ h _ _=>by cases h;rfl) (λ _ _ h1 h2=>aEi h1 h2) r ok A' e h n1 n2
end
theorem aAM:∀(l m:List D),lO l m=((zBM (min l.length m.length)).all (λ j=>match l[j]?,m[j]? with|some a,some b=>eqD a b|_,_=>true)&&l.length==m.length)
 |[],[]=>by simp[lO]
 |[],y::ys=>by simp[lO]
 |x::xs,[]=>by simp[lO]
 |x::xs,y::ys=>by
  have ih:=aAM xs ys;simp only[lO,ih,zA7,Nat.succ_min_succ,List.range_succ_eq_map,zDm,zH2,zBu,Function.comp_def,zBc,Nat.succ_eq_add_one,Nat.add_one_inj,zF6];congr 1;congr 1;simp
theorem xM:∀{l:List D} {d:D},d∈l->jX d<=fK l
 |x::r,d,h=>by
  simp only[fK];rcases zAT.mp h with rfl|h
  .exact zHH _ _
  .exact zAk (xM h) (zHA _ _)
theorem oR:∀{l:List D} {d:D},d∈l->bJ l=true->aa d=true
 |x::r,d,h,n=>by
  simp only[bJ,zAQ]at n;rcases zAT.mp h with rfl|h
  .exact n.1
  .exact oR h n.2
def iw(hn:n=ds.length)(hm:m=es.length):((zBM (min n m)).all (λ j=>match ds[j]?,es[j]? with|some a,some b=>eqD a b|_,_=>true)&&n==m)=lO ds es:=by
 subst hn hm;exact(aAM ds es).symm
section
variable{K:zAA}{H:Hp}{s:zAD}
def aF4(K:zAA)(H:Hp)(s:zAD)(n:Nat):Prop:=∀(A1 A2:Addr->Prop) (x y:V) (d e:D) (A:zAd) (u v:Value),Rp K A1 H x d->Rp K A2 H y e->RelV x u->RelV y v->jX d<=n->aa d=true->aa e=true->A.units+n<cLine->zD7 A s u v (eqD d e)
def aF5(K:zAA)(H:Hp)(s:zAD)(n:Nat):Prop:=∀(A1 A2:Addr->Prop) (xs ys:List V) (ds es:List D) (A:zAd) (us vs:List Value),Rps K A1 H xs ds->Rps K A2 H ys es->Vals xs us->Vals ys vs->fK ds<=n->bJ ds=true->bJ es=true->A.units+n<cLine->
  ∀(j:Nat) (h1:j<us.toArray.size) (h2:j<vs.toArray.size),zD7 A s us.toArray[j] vs.toArray[j] (match ds[j]?,es[j]? with|some a,some b=>eqD a b|_,_=>true)
def vM(ok:jk K H s)(n:Nat)(IH:∀k,n=k+1->aF5 K H s k):aF4 K H s n:=by
 intro A1 A2 x y d e A u v r1 r2 ru rv hd nd ne hu;have hu0:A.units<cLine:=by lia
 cases r1 with
 |tup h1 q1=>
  rename_i a xs ds;cases ru;obtain⟨its,w1,t1⟩:=ok.tup h1;cases r2 with
  |tup h2 q2=>
   rename_i b ys es;cases rv;obtain⟨its2,w2,t2⟩:=ok.tup h2;by_cases hab:a=b
   .subst hab
    have e:=Rp.inj ok (Rp.tup h1 q1) (Rp.tup h2 q2) nd ne;rw[<-e,qG _ nd];exact zE9 _
   .simp only[jX]at hd
    obtain⟨k,rfl⟩:∃k,n=k+1:=⟨n-1,by lia⟩
    have z:=zFg t1 t2 hu0 (IH k rfl _ _ _ _ _ _ _ _ _ q1 q2 w1 w2 (by lia) (iH nd) (iH ne) (by show A.units+1+k<cLine;lia));rw[iw (by rw[zAH,<-w1.length,q1.length]) (by rw[zAH,<-w2.length,q2.length])]at z;simp only[eqD];exact zEF hab z
  |lst h2 mm2 q2=>
   cases rv;obtain⟨its2,w2,t2⟩:=ok.lst h2;simp only[eqD];exact SeqAt.EqAt.tuple_list t1 t2 hu0
  |non=>cases rv;exact SeqAt.EqAt.tuple_none t1 hu0
  |bl b=>cases rv;exact SeqAt.EqAt.tuple_bool b t1 hu0
  |int i=>obtain⟨tk,rfl⟩:=rv;exact SeqAt.EqAt.tuple_int i tk t1 hu0
  |str i=>obtain⟨tk,rfl⟩:=rv;exact SeqAt.EqAt.tuple_str i tk t1 hu0
  |_=>exact zAM (ndx ne)
 |lst h1 mm1 q1=>
  rename_i a xs ds;cases ru;obtain⟨its,w1,t1⟩:=ok.lst h1;cases r2 with
  |lst h2 mm2 q2=>
   rename_i b ys es;cases rv;obtain⟨its2,w2,t2⟩:=ok.lst h2;by_cases hab:a=b
   .subst hab
    have e:=Rp.inj ok (Rp.lst h1 mm1 q1) (Rp.lst h2 mm2 q2) nd ne;rw[<-e,qG _ nd];exact zE9 _
   .simp only[jX]at hd
    obtain⟨k,rfl⟩:∃k,n=k+1:=⟨n-1,by lia⟩
    have l1:its.toArray.size=ds.length:=by rw[zAH,<-w1.length,q1.length]
    have l2:its2.toArray.size=es.length:=by rw[zAH,<-w2.length,q2.length]
    by_cases hl:its.toArray.size=its2.toArray.size
    .have z:=zFo t1 t2 hl hu0 (IH k rfl _ _ _ _ _ _ _ _ _ q1 q2 w1 w2 (by lia) (iI nd) (iI ne) (by show A.units+1+k<cLine;lia))
     have z':=iw (ds:=ds) (es:=es) l1 l2;rw[<-hl,zEy,beq_self_eq_true,zDl]at z';rw[z']at z;simp only[eqD];exact zEF hab z
    .have z:=zEr t1 t2 (by simpa using hl) hu0
     have z':=iw (ds:=ds) (es:=es) l1 l2;rw[beq_eq_false_iff_ne.mpr hl,zEN]at z';simp only[eqD];rw[<-z'];exact zEF hab z
  |tup h2 q2=>
   cases rv;obtain⟨its2,w2,t2⟩:=ok.tup h2;simp only[eqD];exact SeqAt.EqAt.list_tuple t1 t2 hu0
  |non=>cases rv;exact SeqAt.EqAt.list_none t1 hu0
  |bl b=>cases rv;exact SeqAt.EqAt.list_bool b t1 hu0
  |int i=>obtain⟨tk,rfl⟩:=rv;exact SeqAt.EqAt.list_int i tk t1 hu0
  |str i=>obtain⟨tk,rfl⟩:=rv;exact SeqAt.EqAt.list_str i tk t1 hu0
  |_=>exact zAM (ndx ne)
 |non=>
  cases ru;cases r2 with
  |tup h2 q2=>cases rv;obtain⟨_,_,t2⟩:=ok.tup h2;exact SeqAt.EqAt.none_tuple t2 hu0
  |lst h2 mm2 q2=>cases rv;obtain⟨_,_,t2⟩:=ok.lst h2;exact SeqAt.EqAt.none_list t2 hu0
  |dK _ _ _=>exact(bC ne).elim
  |dT _ _ _=>exact(bC ne).elim
  |set _ _ _ _=>exact(dI ne).elim
  |scr _=>exact(dJ ne).elim
  |fn _=>exact(fC ne).elim
  |non=>cases rv;exact zE9 _
  |bl b=>cases rv;exact SeqAt.EqAt.none_bool b
  |int i=>obtain⟨tk,rfl⟩:=rv;exact SeqAt.EqAt.none_int i tk
  |str i=>obtain⟨tk,rfl⟩:=rv;exact SeqAt.EqAt.none_str i tk
 |bl a=>
  cases ru;cases r2 with
  |tup h2 q2=>cases rv;obtain⟨_,_,t2⟩:=ok.tup h2;exact SeqAt.EqAt.bool_tuple a t2 hu0
  |lst h2 mm2 q2=>cases rv;obtain⟨_,_,t2⟩:=ok.lst h2;exact SeqAt.EqAt.bool_list a t2 hu0
  |dK _ _ _=>exact(bC ne).elim
  |dT _ _ _=>exact(bC ne).elim
  |set _ _ _ _=>exact(dI ne).elim
  |scr _=>exact(dJ ne).elim
  |fn _=>exact(fC ne).elim
  |non=>cases rv;exact SeqAt.EqAt.bool_none a
  |bl b=>cases rv;exact zFX a b
  |int i=>obtain⟨tk,rfl⟩:=rv;exact SeqAt.EqAt.bool_int a i tk
  |str i=>obtain⟨tk,rfl⟩:=rv;exact SeqAt.EqAt.bool_str a i tk
 |int a=>
  obtain⟨tu,rfl⟩:=ru;cases r2 with
  |tup h2 q2=>cases rv;obtain⟨_,_,t2⟩:=ok.tup h2;exact SeqAt.EqAt.int_tuple a tu t2 hu0
  |lst h2 mm2 q2=>cases rv;obtain⟨_,_,t2⟩:=ok.lst h2;exact SeqAt.EqAt.int_list a tu t2 hu0
  |dK _ _ _=>exact(bC ne).elim
  |dT _ _ _=>exact(bC ne).elim
  |set _ _ _ _=>exact(dI ne).elim
  |scr _=>exact(dJ ne).elim
  |fn _=>exact(fC ne).elim
  |non=>cases rv;exact SeqAt.EqAt.int_none a tu
  |bl b=>cases rv;exact SeqAt.EqAt.int_bool a tu b
  |int i=>obtain⟨tk,rfl⟩:=rv;exact zFb a tu i tk
  |str i=>obtain⟨tk,rfl⟩:=rv;exact zFc a tu i tk
 |str a=>
  obtain⟨tu,rfl⟩:=ru;cases r2 with
  |tup h2 q2=>cases rv;obtain⟨_,_,t2⟩:=ok.tup h2;exact SeqAt.EqAt.str_tuple a tu t2 hu0
  |lst h2 mm2 q2=>cases rv;obtain⟨_,_,t2⟩:=ok.lst h2;exact SeqAt.EqAt.str_list a tu t2 hu0
  |dK _ _ _=>exact(bC ne).elim
  |dT _ _ _=>exact(bC ne).elim
  |set _ _ _ _=>exact(dI ne).elim
  |scr _=>exact(dJ ne).elim
  |fn _=>exact(fC ne).elim
  |non=>cases rv;exact SeqAt.EqAt.str_none a tu
  |bl b=>cases rv;exact SeqAt.EqAt.str_bool a tu b
  |int i=>obtain⟨tk,rfl⟩:=rv;exact zFd a tu i tk
  |str i=>obtain⟨tk,rfl⟩:=rv;exact SeqAt.EqAt.str_str a tu i tk
 |_=>exact zAM (ndx nd)
def wz(ok:jk K H s)(n:Nat)(IH:aF4 K H s n):aF5 K H s n:=by
 intro A1 A2 xs ys ds es A us vs q1 q2 w1 w2 hd nd ne hu j h1 h2;have hj1:j<us.length:=by simpa using h1
 have hj2:j<vs.length:=by simpa using h2
 have hx:j<xs.length:=by rw[w1.length];exact hj1
 have hy:j<ys.length:=by rw[w2.length];exact hj2
 have ex:=zAB hx;have ey:=zAB hy;obtain⟨d,ed,rd⟩:=q1.get ex;obtain⟨e,ee,re⟩:=q2.get ey;obtain⟨u,eu,ru⟩:=w1.get ex;obtain⟨v,ev,rv⟩:=w2.get ey;have e1:us.toArray[j]=u:=by
  rw[zGF];exact zAn ((zAB hj1).symm.trans eu)
 have e2:vs.toArray[j]=v:=by
  rw[zGF];exact zAn ((zAB hj2).symm.trans ev)
 rw[e1,e2,ed,ee];exact IH _ _ _ _ _ _ _ _ _ rd re ru rv (zAk (xM (zAw ed)) hd) (oR (zAw ed) nd) (oR (zAw ee) ne) hu
theorem aFK(ok:jk K H s):∀n,aF4 K H s n
 |0=>vM ok 0 λ k h=>absurd h (by simp)
 |n+1=>vM ok (n+1) λ k h=>by
  have h':=zGq h;subst h';exact wz ok n (aFK ok n)
def aJY(ok:jk K H s):∀{A1 A2:Addr->Prop} {x y:V} {d e:D} (n:Nat) {A:zAd} {u v:Value},Rp K A1 H x d->Rp K A2 H y e->RelV x u->RelV y v->jX d<=n->aa d=true->aa e=true->A.units+n<cLine->zD7 A s u v (eqD d e)
 |_,_,_,_,_,_,n,A,u,v,r1,r2,ru,rv,hd,nd,ne,hu=>aFK ok n _ _ _ _ _ _ _ _ _ r1 r2 ru rv hd nd ne hu
def aHd(ok:jk K H s):∀{A1 A2:Addr->Prop} {xs ys:List V} {ds es:List D} (n:Nat) {A:zAd} {us vs:List Value},Rps K A1 H xs ds->Rps K A2 H ys es->Vals xs us->Vals ys vs->fK ds<=n->bJ ds=true->bJ es=true->A.units+n<cLine->
  ∀(j:Nat) (h1:j<us.toArray.size) (h2:j<vs.toArray.size),zD7 A s us.toArray[j] vs.toArray[j] (match ds[j]?,es[j]? with|some a,some b=>eqD a b|_,_=>true)
 |_,_,xs,ys,ds,es,n,A,us,vs,q1,q2,w1,w2,hd,nd,ne,hu,j,h1,h2=>wz ok n (aFK ok n) _ _ _ _ _ _ _ _ _ q1 q2 w1 w2 hd nd ne hu j h1 h2
def aDn(ok:jk K H s)(n:Nat)(r1:Rp K A1 H x d)(r2:Rp K A2 H y e)(ru:RelV x u)(rv:RelV y v)(hd:jX d<=n)(nd:aa d=true)(ne:aa e=true)(hu:A.units+n<cLine):
  SeqAt.RcAt A s u v (eqD d e)/\SeqAt.RcNeAt A s u v (!eqD d e):=by
 have hu0:A.units<cLine:=by lia
 cases r1 with
 |tup h1 q1=>
  rename_i a xs ds;cases ru;obtain⟨its,w1,t1⟩:=ok.tup h1;cases r2 with
  |tup h2 q2=>
   rename_i b ys es;cases rv;obtain⟨its2,w2,t2⟩:=ok.tup h2;simp only[jX]at hd;obtain⟨k,rfl⟩:∃k,n=k+1:=⟨n-1,by lia⟩
   have he:=aHd ok (A:=A.in1) k q1 q2 w1 w2 (by lia) (iH nd) (iH ne) (by show A.units+1+k<cLine;lia);have z:=zFg t1 t2 hu0 he;have z2:=SeqAt.RcNeAt.tuples t1 t2 hu0 he;rw[iw (by rw[zAH,<-w1.length,q1.length]) (by rw[zAH,<-w2.length,q2.length])]at z z2;simp only[eqD];exact⟨z,z2⟩
  |lst h2 mm2 q2=>
   cases rv;obtain⟨its2,w2,t2⟩:=ok.lst h2;simp only[eqD];exact⟨SeqAt.RcAt.tuple_list t1 t2 hu0,SeqAt.RcNeAt.tuple_list t1 t2 hu0⟩
  |non=>cases rv;exact⟨SeqAt.RcAt.tuple_none t1 hu0,SeqAt.RcNeAt.tuple_none t1 hu0⟩
  |bl b=>cases rv;exact⟨SeqAt.RcAt.tuple_bool b t1 hu0,SeqAt.RcNeAt.tuple_bool b t1 hu0⟩
  |int i=>obtain⟨tk,rfl⟩:=rv;exact⟨SeqAt.RcAt.tuple_int i tk t1 hu0,SeqAt.RcNeAt.tuple_int i tk t1 hu0⟩
  |str i=>obtain⟨tk,rfl⟩:=rv;exact⟨SeqAt.RcAt.tuple_str i tk t1 hu0,SeqAt.RcNeAt.tuple_str i tk t1 hu0⟩
  |_=>exact zAM (ndx ne)
 |lst h1 mm1 q1=>
  rename_i a xs ds;cases ru;obtain⟨its,w1,t1⟩:=ok.lst h1;cases r2 with
  |lst h2 mm2 q2=>
   rename_i b ys es;cases rv;obtain⟨its2,w2,t2⟩:=ok.lst h2;simp only[jX]at hd;obtain⟨k,rfl⟩:∃k,n=k+1:=⟨n-1,by lia⟩
   have l1:its.toArray.size=ds.length:=by rw[zAH,<-w1.length,q1.length]
   have l2:its2.toArray.size=es.length:=by rw[zAH,<-w2.length,q2.length]
   have z':=iw (ds:=ds) (es:=es) l1 l2;by_cases hl:its.toArray.size=its2.toArray.size
   .have he:=aHd ok (A:=A.in1) k q1 q2 w1 w2 (by lia) (iI nd) (iI ne) (by show A.units+1+k<cLine;lia)
    have z:=zFo t1 t2 hl hu0 he;have z2:=SeqAt.RcNeAt.lists t1 t2 hl hu0 he;rw[<-hl,zEy,beq_self_eq_true,zDl]at z';rw[z']at z z2;simp only[eqD];exact⟨z,z2⟩
   .rw[beq_eq_false_iff_ne.mpr hl,zEN]at z'
    simp only[eqD];rw[<-z'];exact⟨zEr t1 t2 (by simpa using hl) hu0,SeqAt.RcNeAt.lists_lengths t1 t2 (by simpa using hl) hu0⟩
  |tup h2 q2=>
   cases rv;obtain⟨its2,w2,t2⟩:=ok.tup h2;simp only[eqD];exact⟨SeqAt.RcAt.list_tuple t1 t2 hu0,SeqAt.RcNeAt.list_tuple t1 t2 hu0⟩
  |non=>cases rv;exact⟨SeqAt.RcAt.list_none t1 hu0,SeqAt.RcNeAt.list_none t1 hu0⟩
  |bl b=>cases rv;exact⟨SeqAt.RcAt.list_bool b t1 hu0,SeqAt.RcNeAt.list_bool b t1 hu0⟩
  |int i=>obtain⟨tk,rfl⟩:=rv;exact⟨SeqAt.RcAt.list_int i tk t1 hu0,SeqAt.RcNeAt.list_int i tk t1 hu0⟩
  |str i=>obtain⟨tk,rfl⟩:=rv;exact⟨SeqAt.RcAt.list_str i tk t1 hu0,SeqAt.RcNeAt.list_str i tk t1 hu0⟩
  |_=>exact zAM (ndx ne)
 |non=>
  cases ru;cases r2 with
  |tup h2 q2=>cases rv;obtain⟨_,_,t2⟩:=ok.tup h2;exact⟨SeqAt.RcAt.none_tuple t2 hu0,SeqAt.RcNeAt.none_tuple t2 hu0⟩
  |lst h2 mm2 q2=>cases rv;obtain⟨_,_,t2⟩:=ok.lst h2;exact⟨SeqAt.RcAt.none_list t2 hu0,SeqAt.RcNeAt.none_list t2 hu0⟩
  |dK _ _ _=>exact(bC ne).elim
  |dT _ _ _=>exact(bC ne).elim
  |set _ _ _ _=>exact(dI ne).elim
  |scr _=>exact(dJ ne).elim
  |fn _=>exact(fC ne).elim
  |non=>cases rv;exact⟨SeqAt.RcAt.none_none,SeqAt.RcNeAt.none_none⟩
  |bl b=>cases rv;exact⟨SeqAt.RcAt.none_bool b,SeqAt.RcNeAt.none_bool b⟩
  |int i=>obtain⟨tk,rfl⟩:=rv;exact⟨SeqAt.RcAt.none_int i tk,SeqAt.RcNeAt.none_int i tk⟩
  |str i=>obtain⟨tk,rfl⟩:=rv;exact⟨SeqAt.RcAt.none_str i tk,SeqAt.RcNeAt.none_str i tk⟩
 |bl a=>
  cases ru;cases r2 with
  |tup h2 q2=>cases rv;obtain⟨_,_,t2⟩:=ok.tup h2;exact⟨SeqAt.RcAt.bool_tuple a t2 hu0,SeqAt.RcNeAt.bool_tuple a t2 hu0⟩
  |lst h2 mm2 q2=>cases rv;obtain⟨_,_,t2⟩:=ok.lst h2;exact⟨SeqAt.RcAt.bool_list a t2 hu0,SeqAt.RcNeAt.bool_list a t2 hu0⟩
  |dK _ _ _=>exact(bC ne).elim
  |dT _ _ _=>exact(bC ne).elim
  |set _ _ _ _=>exact(dI ne).elim
  |scr _=>exact(dJ ne).elim
  |fn _=>exact(fC ne).elim
  |non=>cases rv;exact⟨SeqAt.RcAt.bool_none a,SeqAt.RcNeAt.bool_none a⟩
  |bl b=>cases rv;exact⟨SeqAt.RcAt.bool_bool a b,SeqAt.RcNeAt.bool_bool a b⟩
  |int i=>obtain⟨tk,rfl⟩:=rv;exact⟨SeqAt.RcAt.bool_int a i tk,SeqAt.RcNeAt.bool_int a i tk⟩
  |str i=>obtain⟨tk,rfl⟩:=rv;exact⟨SeqAt.RcAt.bool_str a i tk,SeqAt.RcNeAt.bool_str a i tk⟩
 |int a=>
  obtain⟨tu,rfl⟩:=ru;cases r2 with
  |tup h2 q2=>cases rv;obtain⟨_,_,t2⟩:=ok.tup h2;exact⟨SeqAt.RcAt.int_tuple a tu t2 hu0,SeqAt.RcNeAt.int_tuple a tu t2 hu0⟩
  |lst h2 mm2 q2=>cases rv;obtain⟨_,_,t2⟩:=ok.lst h2;exact⟨SeqAt.RcAt.int_list a tu t2 hu0,SeqAt.RcNeAt.int_list a tu t2 hu0⟩
  |dK _ _ _=>exact(bC ne).elim
  |dT _ _ _=>exact(bC ne).elim
  |set _ _ _ _=>exact(dI ne).elim
  |scr _=>exact(dJ ne).elim
  |fn _=>exact(fC ne).elim
  |non=>cases rv;exact⟨SeqAt.RcAt.int_none a tu,SeqAt.RcNeAt.int_none a tu⟩
  |bl b=>cases rv;exact⟨SeqAt.RcAt.int_bool a tu b,SeqAt.RcNeAt.int_bool a tu b⟩
  |int i=>obtain⟨tk,rfl⟩:=rv;exact⟨SeqAt.RcAt.int_int a tu i tk,SeqAt.RcNeAt.int_int a tu i tk⟩
  |str i=>obtain⟨tk,rfl⟩:=rv;exact⟨SeqAt.RcAt.int_str a tu i tk,SeqAt.RcNeAt.int_str a tu i tk⟩
 |str a=>
  obtain⟨tu,rfl⟩:=ru;cases r2 with
  |tup h2 q2=>cases rv;obtain⟨_,_,t2⟩:=ok.tup h2;exact⟨SeqAt.RcAt.str_tuple a tu t2 hu0,SeqAt.RcNeAt.str_tuple a tu t2 hu0⟩
  |lst h2 mm2 q2=>cases rv;obtain⟨_,_,t2⟩:=ok.lst h2;exact⟨SeqAt.RcAt.str_list a tu t2 hu0,SeqAt.RcNeAt.str_list a tu t2 hu0⟩
  |dK _ _ _=>exact(bC ne).elim
  |dT _ _ _=>exact(bC ne).elim
  |set _ _ _ _=>exact(dI ne).elim
  |scr _=>exact(dJ ne).elim
  |fn _=>exact(fC ne).elim
  |non=>cases rv;exact⟨SeqAt.RcAt.str_none a tu,SeqAt.RcNeAt.str_none a tu⟩
  |bl b=>cases rv;exact⟨SeqAt.RcAt.str_bool a tu b,SeqAt.RcNeAt.str_bool a tu b⟩
  |int i=>obtain⟨tk,rfl⟩:=rv;exact⟨SeqAt.RcAt.str_int a tu i tk,SeqAt.RcNeAt.str_int a tu i tk⟩
  |str i=>obtain⟨tk,rfl⟩:=rv;exact⟨SeqAt.RcAt.str_str a tu i tk,SeqAt.RcNeAt.str_str a tu i tk⟩
 |_=>exact zAM (ndx nd)
end
section
variable{K:zAA}{H:Hp}{s:zAD}
open Classical in
def nD(K:zAA)(H:Hp)(d:D)(u:Value):Bool:=if h:∃e,aa e=true/\∃y,RelV y u/\Rp K (λ _=>True) H y e then eqD (choose h) d else false
def aCN(ok:jk K H s)(r:RelV y u)(h:Rp K A H y e)(ne:aa e=true):nD K H d u=eqD e d:=by
 have hx:∃e,aa e=true/\∃y,RelV y u/\Rp K (λ _=>True) H y e:=⟨e,ne,y,r,h.wk λ _ _ _ _=>trivial⟩
 unfold nD;rw[dif_pos hx];obtain⟨n',y',r',h'⟩:=Classical.choose_spec hx;have e1:=RelV.inj r r';subst e1;rw[Rp.inj ok h' h n' ne]
def inD(d:D)(es:List D):Bool:=es.any λ e=>eqD e d
def qM(ok:jk K H s):∀{A:Addr->Prop} {xs:List V} {es:List D} {us:List Value},Rps K A H xs es->Vals xs us->bJ es=true->us.any (nD K H d)=inD d es:=by
 intro A xs es us h v n;induction v generalizing es with
 |nil=>cases h;rfl
 |cons k t ih=>
  cases h with
  |cons h r=>
   simp only[bJ,zAQ]at n;unfold inD;rw[zHN,zHN,aCN ok k h n.1,ih r n.2];rfl
def tM(ok:jk K H s)(rx:Rp K A0 H x d)(rv:RelV x v)(hu:A.units+n<cLine)(nd:aa d=true):∀{A1:Addr->Prop} {xs:List V} {es:List D} {us:List Value},Rps K A1 H xs es->Vals xs us->fK es<=n->bJ es=true->∀u∈us,zD7 A s u v (nD K H d u):=by
 intro A1 xs es us h v' hd ne u hm;induction v' generalizing es with
 |nil=>cases hm
 |cons k t ih=>
  cases h with
  |cons h r=>
   simp only[fK]at hd;simp only[bJ,zAQ]at ne;rcases zAT.mp hm with z|z
   .subst z
    rw[aCN ok k h ne.1];exact aJY ok n h rx k rv (zAk (zHH _ _) hd) ne.1 nd hu
   .exact ih r (zAk (zHA _ _) hd) ne.2 z
end
section
variable{X:Cx}
def aDq(K:zAA)(neg:Bool):R2:=λ x y H Q=>∃A B d e,Rp K A H x d/\Rp K B H y e/\jX d<=60/\aa d=true/\aa e=true/\Q (.bl (if neg then !eqD d e else eqD d e)) H
def aIl(hu:X.A.units+64<cLine):OpR X (zAv .Eq) (aDq X.K false):=by
 intro pins s Z H x y v u Q I rx ry h;obtain⟨A,B,d,e,r1,r2,hd,nd,ne,q⟩:=h;exact(aDn (Inv.seqOk I) 60 r1 r2 rx ry hd nd ne (by lia)).1 X.prog X.w X.xe _ ⟨.bl (eqD d e),H,I,rfl,q⟩
def aIa(hu:X.A.units+64<cLine):OpR X (zAv .NotEq) (aDq X.K true):=by
 intro pins s Z H x y v u Q I rx ry h;obtain⟨A,B,d,e,r1,r2,hd,nd,ne,q⟩:=h;exact(aDn (Inv.seqOk I) 60 r1 r2 rx ry hd nd ne (by lia)).2 X.prog X.w X.xe _ ⟨.bl (!eqD d e),H,I,rfl,q⟩
def aDp(K:zAA)(neg:Bool):R2:=λ x y H Q=>∃A B d a es,Rp K A H x d/\y= .ref a/\(Rp K B H (.ref a) (.lst es)\/Rp K B H (.ref a) (.tup es))/\fK es<=60/\aa d=true/\bJ es=true/\Q (.bl (if neg then !inD d es else inD d es)) H
def aIk(hu:X.A.units+64<cLine):OpR X (zAv .In) (aDp X.K false):=by
 intro pins s Z H x y v u Q I rx ry h;obtain⟨A,B,d,a,es,rd,rfl,ra,hd,nd,ne,q⟩:=h;cases ry;have ok:=Inv.seqOk I;have hu1:X.A.in1.units+60<cLine:=by show X.A.units+1+60<cLine;lia
 rcases ra with ra|ra
 .cases ra with
  |lst ha _ r=>
   obtain⟨its,rv,tl⟩:=ok.lst ha;refine SeqAt.in_listAt (nD X.K H d) tl (λ w hw=>tM ok rd rx hu1 nd r rv hd ne w (by simpa using hw)) ⟨.bl _,H,I,rfl,?_⟩;rw[show its.toArray.any (nD X.K H d)=its.any (nD X.K H d)by simp,qM ok r rv ne];exact q
 .cases ra with
  |tup ha r=>
   obtain⟨its,rv,tl⟩:=ok.tup ha;refine SeqAt.in_tupleAt (nD X.K H d) tl (λ w hw=>tM ok rd rx hu1 nd r rv hd ne w (by simpa using hw)) ⟨.bl _,H,I,rfl,?_⟩;rw[show its.toArray.any (nD X.K H d)=its.any (nD X.K H d)by simp,qM ok r rv ne];exact q
def aC7(hu:X.A.units+64<cLine):OpR X (zAv .NotIn) (aDp X.K true):=by
 intro pins s Z H x y v u Q I rx ry h;obtain⟨A,B,d,a,es,rd,rfl,ra,hd,nd,ne,q⟩:=h;cases ry;have ok:=Inv.seqOk I;have hu1:X.A.in1.units+60<cLine:=by show X.A.units+1+60<cLine;lia
 rcases ra with ra|ra
 .cases ra with
  |lst ha _ r=>
   obtain⟨its,rv,tl⟩:=ok.lst ha;refine SeqAt.notIn_listAt (nD X.K H d) tl (λ w hw=>tM ok rd rx hu1 nd r rv hd ne w (by simpa using hw)) ⟨.bl _,H,I,rfl,?_⟩;rw[show its.toArray.any (nD X.K H d)=its.any (nD X.K H d)by simp,qM ok r rv ne];exact q
 .cases ra with
  |tup ha r=>
   obtain⟨its,rv,tl⟩:=ok.tup ha;refine SeqAt.notIn_tupleAt (nD X.K H d) tl (λ w hw=>tM ok rd rx hu1 nd r rv hd ne w (by simpa using hw)) ⟨.bl _,H,I,rfl,?_⟩;rw[show its.toArray.any (nD X.K H d)=its.any (nD X.K H d)by simp,qM ok r rv ne];exact q
end
section
variable{K:zAA}
def eqR(neg:Bool):D->D->Rs D:=λ d e=>if decide (jX d<=60)&&aa d&&aa e then .ok (.bl (if neg then !eqD d e else eqD d e))else .st
def inR(neg:Bool):D->D->Rs D:=λ d e=>match e with
 | .lst es=>if decide (fK es<=60)&&aa d&&bJ es then .ok (.bl (if neg then !inD d es else inD d es))else .st
 | .tup es=>if decide (fK es<=60)&&aa d&&bJ es then .ok (.bl (if neg then !inD d es else inD d es))else .st
 |_=>.st
def os_eq:OpS K (aDq K n) (eqR n):=by
 intro A x y d e H Q z rx ry ez q;unfold eqR at ez;split at ez
 .rename_i h
  simp only[zAQ,decide_eq_true_eq]at h;cases ez;exact⟨A,A,d,e,rx,ry,h.1.1,h.1.2,h.2,q _ H (aO.refl H) (.bl _)⟩
 .cases ez
def aEP:OpS K (aDp K n) (inR n):=by
 intro A x y d e H Q z rx ry ez q;unfold inR at ez;split at ez
 .split at ez
  .rename_i h
   simp only[zAQ,decide_eq_true_eq]at h;cases ez;cases ry with
   |lst ha mm r=>exact⟨A,A,d,_,_,rx,rfl,.inl (.lst ha mm r),h.1.1,h.1.2,h.2,q _ H (aO.refl H) (.bl _)⟩
  .cases ez
 .split at ez
  .rename_i h
   simp only[zAQ,decide_eq_true_eq]at h;cases ez;cases ry with
   |tup ha r=>exact⟨A,A,d,_,_,rx,rfl,.inr (.tup ha r),h.1.1,h.1.2,h.2,q _ H (aO.refl H) (.bl _)⟩
  .cases ez
 .cases ez
def aEo:∀x y z,eqR n x y= .ok z->imm z=true:=by
 intro x y z e;unfold eqR at e;split at e
 .cases e;rfl
 .cases e
def aJM:∀x y z,inR n x y= .ok z->imm z=true:=by
 intro x y z e;unfold inR at e;split at e
 .split at e
  .cases e;rfl
  .cases e
 .split at e
  .cases e;rfl
  .cases e
 .cases e
end
section
variable{K:zAA}
def boolsOf:List D->Option (List Bool)
 |[]=>some []
 | .bl i::r=>(boolsOf r).map (i::·)
 |_=>none
theorem qL:∀{l:List D} {ns:List Bool},boolsOf l=some ns->l=ns.map .bl
 |[],ns,h=>by cases h;rfl
 | .bl i::r,ns,h=>by
  simp only[boolsOf,zBw]at h;obtain⟨ms,h1,rfl⟩:=h;rw[qL h1];rfl
 | .non::_,_,h=>by cases h
 | .int _::_,_,h=>by cases h
 | .str _::_,_,h=>by cases h
 | .tup _::_,_,h=>by cases h
 | .lst _::_,_,h=>by cases h
 | .dct _ _::_,_,h=>by cases h
 | .set _::_,_,h=>by cases h
 | .scr _::_,_,h=>by cases h
theorem sU:∀ns:List Bool,boolsOf (ns.map .bl)=some ns
 |[]=>rfl
 |n::ns=>by simp only[zA0,boolsOf,sU ns,zDs]
theorem xP{X:Cx}:∀{bs:List Bool} {us:List Value},Vals (bs.map V.bl) us->LSm.BoolsAre us bs
 |[],_,.nil=>.nil
 |b::bs,_,.cons r t=>by
  have e:_=zCa b:=r;subst e;exact .cons b (xP (X:=X) t)
theorem Rps.bools_of:∀{xs:List V} {bs:List Bool},Rps K A H xs (bs.map D.bl)->xs=bs.map V.bl
 |_,[],.nil=>rfl
 |_,n::ns,.cons h r=>by
  cases h;rw[zA0,Rps.bools_of r]
def zH(f:List Bool->Bool):List D->Rs D
 |[.lst l]=>match boolsOf l with
  |some bs=>.ok (.bl (f bs))
  |none=>.st
 |_=>.st
def aFT{X:Cx}(hc:X.calm=true):eQ X (.builtin "all") (λ xs H Q=>∃(p:Addr) (bs:List Bool),xs=[.ref p]/\H p=some (.lst (bs.map V.bl))/\Q (.bl (bs.all id)) H):=by
 intro pins s Z H xs us Q I r h;obtain⟨p,bs,rfl,hp,q⟩:=h;obtain⟨u,rfl,ru⟩:=vals1 r;cases ru;obtain⟨its,rv,pl,hz⟩:=I.list (SqL.of hp);have hb:=xP (X:=X) rv;have hl:=pl.isList;have hlt:p<s.heap.objs.size:=by obtain⟨_,e,_⟩:=hl;exact zAU e
 refine call_all_walk (zDz hl ?_);refine⟨s.heap.objs.size,[s.heap.objs.size,p],[s.heap.objs.size],its.toArray.size,_,_,λ i=>(bs[i]?).getD true,rfl,zG2 (A:=X.A.in1) (I.ok.hd hc) _ p (zA6 hlt) its.toArray,
  ⟨⟨_,zA3 _ rfl,rfl,rfl⟩,hl.push _⟩,λ i v s' Q' E' hP hQ=>?_,λ h' tk hk=>?_⟩
 .obtain⟨b,e,rfl⟩:=hb.get i v (by simpa using hP)
  simp only[e,zG0]at hQ;exact zB5 hQ
 .have e:((zBM its.toArray.size).all λ i=>(bs[i]?).getD true)=bs.all id:=by
   rw[zAH,hb.length];exact LSm.range_all bs
  rw[e];exact⟨.bl _,H,I.kept (LSm.kept_iter hk),rfl,q⟩
def aJZ:qR K (λ xs H Q=>∃(p:Addr) (bs:List Bool),xs=[.ref p]/\H p=some (.lst (bs.map V.bl))/\Q (.bl (f bs)) H) (zH f):=by
 intro A xs ds H Q z r ez q;unfold zH at ez;split at ez
 .split at ez
  .rename_i l bs e
   cases ez
   have:=qL e
   subst this;cases r with
   |cons h r=>
    cases r;cases h with
    |lst h m r=>
     have:=r.bools_of
     subst this;exact⟨_,bs,rfl,h,q _ H (aO.refl H) (.bl _)⟩
  .cases ez
 .cases ez
def aGt:∀x z,zH f x= .ok z->imm z=true:=by
 intro x z e;unfold zH at e;split at e
 .split at e
  .cases e;rfl
  .cases e
 .cases e
def mmD(f:Int->Int->Int):List D->Rs D
 |[.int i,.int j]=>.ok (.int (f i j))
 |_=>.st
def aHh:qR K (λ xs H Q=>∃i j,xs=[.int i,.int j]/\Q (.int (f i j)) H) (mmD f):=by
 intro A xs ds H Q z r ez q;unfold mmD at ez;split at ez
 .cases ez
  cases r with
  |cons h r=>
   cases h;cases r with
   |cons h r=>
    cases h;cases r;exact⟨_,_,rfl,q _ H (aO.refl H) (.int _)⟩
 .cases ez
def aEm:∀x z,mmD f x= .ok z->imm z=true:=by
 intro x z e;unfold mmD at e;split at e
 .cases e;rfl
 .cases e
def nu:List D->Rs D
 |[.lst l]=>.ok (.tup l)
 |[.tup l]=>.ok (.tup l)
 |_=>.st
def zy:List D->Rs D
 |[.lst l]=>.ok (.lst l)
 |[.tup l]=>.ok (.lst l)
 |_=>.st
def aFO:qR K (λ xs H Q=>∃p ys,xs=[.ref p]/\((SqL K H p ys/\∀l,H l=none->Q (.ref l) (upd H l (.tup ys)))\/(SqT K H p ys/\Q (.ref p) H))) nu:=by
 intro A xs ds H Q z r ez q;unfold nu at ez;split at ez
 .cases ez
  cases r with
  |cons h r=>
   cases r;cases h with
   |lst h m r=>exact⟨_,_,rfl,.inl ⟨SqL.of h,λ l hl=>q _ _ (az hl _) (.tup (SqT.of aX) ((r.wk λ _ _ _ z=>.inr z.1).up (az hl _)))⟩⟩
 .cases ez
  cases r with
  |cons h r=>
   cases r;cases h with
   |tup h r=>exact⟨_,_,rfl,.inr ⟨h,q _ H (aO.refl H) (.tup h (r.wk λ _ _ _ z=>.inr z))⟩⟩
 .cases ez
def aHF:qR K (λ xs H Q=>∃p ys,xs=[.ref p]/\(SqL K H p ys\/SqT K H p ys)/\∀l,H l=none->Q (.ref l) (upd H l (.lst ys))) zy:=by
 intro A xs ds H Q z r ez q;unfold zy at ez;split at ez
 .cases ez
  cases r with
  |cons h r=>
   cases r;cases h with
   |lst h m r=>exact⟨_,_,rfl,.inl (SqL.of h),λ l hl=>q _ _ (az hl _) (.lst aX (.inl hl) ((r.wk λ p o e z=>⟨.inr z.1,λ e'=>by subst e';rw[hl]at e;cases e⟩).up (az hl _)))⟩
 .cases ez
  cases r with
  |cons h r=>
   cases r;cases h with
   |tup h r=>exact⟨_,_,rfl,.inr h,λ l hl=>q _ _ (az hl _) (.lst aX (.inl hl) ((r.wk λ p o e z=>⟨.inr z,λ e'=>by subst e';rw[hl]at e;cases e⟩).up (az hl _)))⟩
 .cases ez
end
def cutD(l:List D)(lo hi:Option Int):List D:=(l.drop (HT.sIx l.length 0 lo)).take (HT.sIx l.length l.length hi-HT.sIx l.length 0 lo)
def Rps.cut{K:zAA}(r:Rps K A H xs ds)(lo hi:Option Int):Rps K A H (vP xs lo hi) (cutD ds lo hi):=by
 unfold vP cutD;rw[r.length];exact(r.drop _).take _
def slD(d:D)(lo hi:Option Int):Rs D:=match d with
 | .tup l=>.ok (.tup (cutD l lo hi))
 | .lst l=>.ok (.lst (cutD l lo hi))
 |_=>.st
def aJv(K:zAA):V->Option Int->Option Int->Hp->VK->Prop:=λ x lo hi H Q=>(∃a xs,x= .ref a/\SqT K H a xs/\∀c H',aO H H'->SqT K H' c (vP xs lo hi)->Q (.ref c) H')\/aJw K x lo hi H Q
def aFl:SlR X (λ x lo hi H Q=>∃a xs,x= .ref a/\SqT X.K H a xs/\∀c H',aO H H'->SqT X.K H' c (vP xs lo hi)->Q (.ref c) H'):=by
 intro pins s Z H x v vl vu lo hi sl Q I rx hs pl pu h;obtain⟨a,xs,rfl,hx,q⟩:=h;cases rx;obtain⟨its,r,ht,hz⟩:=I.tuple hx;have hlen:its.toArray.size=xs.length:=by rw[zAH];exact r.length.symm
 refine⟨"tuple",_,zAz.lookup,ht.typeIs,?_⟩;by_cases hw:HT.sIx xs.length 0 lo=0/\HT.sIx xs.length xs.length hi=xs.length
 .refine HT.ph ht hs pl pu (by rw[hlen];exact hw.1) (by rw[hlen];exact hw.2) ⟨.ref a,H,I,rfl,q a H (aO.refl H) ?_⟩
  have:vP xs lo hi=xs:=by
   unfold vP;rw[hw.1,hw.2,zCK,Nat.sub_zero,List.take_length]
  rw[this];exact hx
 .refine HT.pZ ht hs pl pu (by rw[hlen];exact hw) ?_ (by rw[hlen];exact hz)
  rw[hlen];refine⟨.ref s.heap.objs.size,_,I.laid (t':=s.toks) (o:=.tup (vP xs lo hi)) (λ b ob q=>zAE _ q) (zAP _) ?_,rfl,q _ _ (az (I.hok.fresh (zAP _)) _) (SqT.of aX)⟩;exact⟨⟨zAk (sO xs lo hi) hz,NoD.push _⟩,_,(r.drop (HT.sIx xs.length 0 lo)).take (HT.sIx xs.length xs.length hi-HT.sIx xs.length 0 lo),zFl _ _⟩
def aKi:SlR X (aJv X.K):=aFl.or aFm
section
variable{C:Ct}{pos p2:Pos}{m:Mode}{a e:Expr}{fa fe:En->Rs D}{lo hi:Option Expr}
def aKq(K:zAA)(G:Gx)(t:TO)(f:En->Rs (Option Int)):Prop:=∀U Z H ρ lab (Q:Option Int->Hp->Prop),RR K G U ρ Z H lab->WR G (f ρ) (λ o=>∀H',aO H H'->Q o H')->t Z H Q
def SO(C:Ct)(e:Option Expr)(f:En->Rs (Option Int)):Prop:=∃t,(∀i,PO (C.X i) e t)/\aKq C.K C.G t f
def rQ:En->Rs (Option Int):=λ _=>.ok none
def rP(fe:En->Rs D):En->Rs (Option Int):=λ ρ=>(fe ρ).bd λ d=>match d with
 | .int i=>.ok (some i)
 |_=>.st
def mZ:SO C none rQ:=⟨_,λ _=>aGG,λ U Z H ρ lab Q R W=>W H (aO.refl H)⟩
def mY(h:SE C m e fe):SO C (some e) (rP fe):=by
 obtain⟨t,h1,h2⟩:=h;refine⟨_,λ i=>aGF (h1 i),λ U Z H ρ lab Q R W=>h2 U Z H ρ lab _ R (W.bd.imp λ d _ w x H1 s r=>?_)⟩;cases r with
 |int i=>exact⟨i,rfl,w H1 s⟩
 |_=>exact zAM w
def lZ(fa:En->Rs D)(fl fh:En->Rs (Option Int)):En->Rs D:=λ ρ=>(fa ρ).bd λ d=>(fl ρ).bd λ l=>(fh ρ).bd λ h=>okD (slD d l h)
def j8{fl fh:En->Rs (Option Int)}(ha:SE C m a fa)(hl:SO C lo fl)(hh:SO C hi fh):SE C m (.Subscript a (.Slice lo hi none p2) pos) (lZ fa fl fh):=by
 obtain⟨t,h1,h2⟩:=ha;obtain⟨tl,l1,l2⟩:=hl;obtain⟨th,k1,k2⟩:=hh;refine⟨tSl (aJv C.K) t tl th,λ i=>by rw[<-C.hK i];exact aED aKi (h1 i) (l1 i) (k1 i),λ U Z H ρ lab Q R W=>h2 U Z H ρ lab _ R (W.bd.imp λ d _ w x H1 s1 r1=>?_)⟩;refine l2 U Z H1 ρ lab _ (R.up s1) (w.bd.imp λ ol _ w H2 s2=>?_);refine k2 U Z H2 ρ lab _ ((R.up s1).up s2) (w.bd.imp λ oh _ w H3 s3=>?_);obtain⟨z,ez,w⟩:=w.okD;have s:=s1.trans (s2.trans s3);have r3:=r1.up (s2.trans s3);cases d with
 |tup l=>
  cases ez;cases r3 with
  |tup h r=>exact .inl ⟨_,_,rfl,h,λ c H' s' hc=>w _ H' (s.trans s') (.tup hc ((r.cut ol oh).up s'))⟩
 |lst l=>
  cases ez;cases r3 with
  |lst h mm r=>
   exact .inr ⟨_,_,rfl,SqL.of h,λ p hp=>w _ _ (s.trans (az hp _)) (.lst aX (.inl (s.free hp)) (((r.cut ol oh).wk λ q o e z=>⟨z.1,λ e'=>by subst e';rw[hp]at e;cases e⟩).up (az hp _)))⟩
 |_=>cases ez
def aIL:D->Rs D
 | .tup l=>.ok (.tup l.reverse)
 |_=>.st
def aHT(K:zAA)(te:TE):TE:=λ Z H Q=>te Z H λ x H1=>∃a xs,x= .ref a/\SqT K H1 a xs/\∀c H',aO H1 H'->H' c=some (.tup xs.reverse)->Q (.ref c) H'
def aGL(he:PE X e te):PE X (.Subscript e (.Slice none none (some (.UnaryOp .USub (.Constant (.int 1) j p3) p4)) p2) pos) (aHT X.K te):=by
 intro pins s Z H Q I h;refine zH5 (thn (he pins s Z H _ I h) λ v s1 ⟨x,H1,I1,r1,q1⟩=>?_);obtain⟨a,xs,rfl,hx,q⟩:=q1;cases r1;have hm:PE X (.UnaryOp .USub (.Constant (.int 1) j p3) p4) (tUn (rU λ i=>.int (-i)) (tC (.int 1))):=aH4 aDL aAt;refine wpAny_Slice ?_;rw[zG3];refine zAI (zAI ?_);rw[evalPart_some];refine thn (hm pins s1 Z H1 (λ z H2=>z= .int (-1)/\H2=H1) I1 ⟨1,rfl,rfl,rfl⟩) λ u s2 ⟨z,H2,I2,r2,ez,eH⟩=>?_
 subst ez eH;obtain⟨tk,rfl⟩:=r2;have I4:Inv X pins Z H2 {s2 with heap:=s2.heap.push {cls:=.type "slice",data:=.fields #[.none,.none,.int (-1) tk]}}:=I2.kept (t':=s2.toks) λ b ob q=>zAE _ q
 obtain⟨its,r,ht,hz⟩:=I4.tuple hx;have hlen:its.toArray.size=xs.length:=by rw[zAH];exact r.length.symm
 show wpAny (model X.prog X.w) X.A (zG7 e _ (.ref a) (.ref s2.heap.objs.size)) (EP X pins Z Q) X.xe _;refine tail_any (ops:=[.ref a,.ref s2.heap.objs.size]) ht.typeIs zAz.lookup ?_ (by with_unfolding_all rfl);refine HT.pY ht (zFC ..) ?_ (by rw[hlen];exact hz);refine⟨.ref _,_,I4.laid (t':=s2.toks) (o:=.tup xs.reverse) (λ b ob q=>zAE _ q) (zAP _) ?_,rfl,q _ _ (az (I4.hok.fresh (zAP _)) _) aX⟩;exact⟨⟨by rw[zBy];exact hz,NoD.push _⟩,_,r.reverse,zFl _ _⟩
def aIB(h:SE C m e fe):SE C m (.Subscript e (.Slice none none (some (.UnaryOp .USub (.Constant (.int 1) j p3) p4)) p2) pos) (op1 aIL fe):=by
 obtain⟨t,h1,h2⟩:=h;refine⟨aHT C.K t,λ i=>by rw[<-C.hK i];exact aGL (h1 i),λ U Z H ρ lab Q R W=>h2 U Z H ρ lab _ R (W.bd.imp λ d _ w x H1 s1 r1=>?_)⟩;obtain⟨z,ez,w⟩:=w.okD;cases d with
 |tup l=>
  cases ez;cases r1 with
  |tup h r=>exact⟨_,_,rfl,h,λ c H' s hc=>w _ H' (s1.trans s) (.tup (SqT.of hc) (r.reverse.up s))⟩
 |_=>cases ez
end
section
variable{C:Ct}{pos p:Pos}{m m1 m2 m3:Mode}{a b c e:Expr}{fa fb fc:En->Rs D}{ga:En->Rs (List D)}
def Ct.u0(C:Ct)(i:C.ι):(C.X i).A.units<cLine:=(C.room i).units0
def Ct.u64(C:Ct)(i:C.ι):(C.X i).A.units+64<cLine:=(C.room i).units
def Ct.ltR(C:Ct)(i:C.ι):OpR (C.X i) (zAv .Lt) (λ x y H Q=>rI0 (λ i j=>.bl (decide (i<j))) x y H Q\/aFw C.K x y H Q):=by have h:=aIe (X:=C.X i) (C.u0 i);rw[C.hK i]at h;exact h
def Ct.leR(C:Ct)(i:C.ι):OpR (C.X i) (zAv .LtE) (λ x y H Q=>rI0 (λ i j=>.bl (decide (i<=j))) x y H Q\/aFx C.K x y H Q):=by have h:=aIg (X:=C.X i) (C.u0 i);rw[C.hK i]at h;exact h
def Ct.eqRl(C:Ct)(i:C.ι):OpR (C.X i) (zAv .Eq) (aDq C.K false):=by have h:=aIl (X:=C.X i) (C.u64 i);rw[C.hK i]at h;exact h
def Ct.neRl(C:Ct)(i:C.ι):OpR (C.X i) (zAv .NotEq) (aDq C.K true):=by have h:=aIa (X:=C.X i) (C.u64 i);rw[C.hK i]at h;exact h
def Ct.inRl(C:Ct)(i:C.ι):OpR (C.X i) (zAv .In) (aDp C.K false):=by have h:=aIk (X:=C.X i) (C.u64 i);rw[C.hK i]at h;exact h
def Ct.ninRl(C:Ct)(i:C.ι):OpR (C.X i) (zAv .NotIn) (aDp C.K true):=by have h:=aC7 (X:=C.X i) (C.u64 i);rw[C.hK i]at h;exact h
def Ct.aKY(C:Ct)(i:C.ι):OpR (C.X i) (zCV .Add) (aDs C.K):=by have h:=aGX (X:=C.X i);rw[C.hK i]at h;exact h
def aCX:D->D->Rs D:=i2 (λ _ _=>true) λ i j=>.int (i-j)
def rY:D->D->Rs D:=i2 (λ _ j=>decide (0<j)&&decide (j<1073741824)) λ i j=>.int (i / j)
def qu:D->D->Rs D:=i2 (λ _ j=>decide (0<j)) λ i j=>.int (i%j)
def aIR:D->D->Rs D:=i2 (λ i j=>decide (0<=j)&&decide (j<=1000000)&&decide (i.natAbs<2^64)) λ i j=>.int (i^j.toNat)
def cL(ha:SE C m1 a fa)(hb:SE C m2 b fb):SE C (jn m1 m2) (.BinOp a .Add b pos) (op2 cX fa fb):=wL C.aKY aI6 ha hb
def qZ(ha:SE C m1 a fa)(hb:SE C m2 b fb):SE C (jn m1 m2) (.BinOp a .Mult b pos) (op2 j9 fa fb):=wL (λ _=>aGT) aI5 ha hb
def aDc(ha:SE C m1 a fa)(hb:SE C m2 b fb):SE C (some []) (.BinOp a .Sub b pos) (op2 aCX fa fb):=dZ (wL (λ _=>aI7) aGS ha hb) λ _ _ h=>iD yr h
def aBm(ha:SE C m1 a fa)(hb:SE C m2 b fb):SE C (some []) (.BinOp a .FloorDiv b pos) (op2 rY fa fb):=dZ (wL (λ _=>aGU) (aAv λ i j h=>by simpa[aK6]using h) ha hb) λ _ _ h=>iD yr h
def q9(ha:SE C m1 a fa)(hb:SE C m2 b fb):SE C (some []) (.BinOp a .Mod b pos) (op2 qu fa fb):=dZ (wL (λ _=>aIc) (aAv λ i j h=>by simpa using h) ha hb) λ _ _ h=>iD yr h
def aIC(ha:SE C m1 a fa)(hb:SE C m2 b fb):SE C (some []) (.BinOp a .Pow b pos) (op2 aIR fa fb):=dZ (wL (λ _=>aI9) (aAv λ i j h=>by simp only[zAQ,decide_eq_true_eq]at h;exact⟨h.1.1,h.1.2,h.2⟩) ha hb) λ _ _ h=>iD yr h
def aIE(ha:SE C m a fa):SE C (some []) (.UnaryOp .USub a pos) (op1 aEU fa):=dZ (aJr (λ _=>aDL) aHk ha) λ _ _ h=>aGq aGr h
def aJt(ha:SE C m1 a fa)(hb:SE C m2 b fb):SE C (some []) (.Compare a [.Lt] [b] pos) (op2 ltD fa fb):=dZ (uF C.ltR aBu ha hb) λ _ _ h=>iD aBW h
def aHV(ha:SE C m1 a fa)(hb:SE C m2 b fb):SE C (some []) (.Compare a [.Eq] [b] pos) (op2 (eqR false) fa fb):=dZ (uF C.eqRl os_eq ha hb) λ _ _ h=>iD aEo h
def aJs(ha:SE C m1 a fa)(hb:SE C m2 b fb):SE C (some []) (.Compare a [.NotEq] [b] pos) (op2 (eqR true) fa fb):=dZ (uF C.neRl os_eq ha hb) λ _ _ h=>iD aEo h
def aAc(ha:SE C m1 a fa)(hb:SE C m2 b fb)(hm:zBr .NotIn b=false:=by with_unfolding_all rfl):SE C (some []) (.Compare a [.NotIn] [b] pos) (op2 (inR true) fa fb):=dZ (uF C.ninRl aEP ha hb hm) λ _ _ h=>iD aJM h
def aJu(ha:SE C m1 a fa)(hb:SE C m2 b fb):SE C (some []) (.Compare a [.Is] [b] pos) (op2 (isD false) fa fb):=dZ (uF (λ _=>aIi) aKD ha hb) λ _ _ h=>iD aJL h
def aDY(ha:SE C m1 a fa)(hb:SE C m2 b fb):ST C (.Compare a [.Lt] [b] pos) (tsb (op2 ltD fa fb)):=oF C.ltR aBu ha hb
def aJn(ha:SE C m1 a fa)(hb:SE C m2 b fb):ST C (.Compare a [.Gt] [b] pos) (tsb (op2 gtD fa fb)):=oF (λ _=>aKG) yR ha hb
def aJo(ha:SE C m1 a fa)(hb:SE C m2 b fb):ST C (.Compare a [.GtE] [b] pos) (tsb (op2 geD fa fb)):=oF (λ _=>aKH) yR ha hb
def aDZ(ha:SE C m1 a fa)(hb:SE C m2 b fb):ST C (.Compare a [.Eq] [b] pos) (tsb (op2 (eqR false) fa fb)):=oF C.eqRl os_eq ha hb
def nJ(ha:SE C m1 a fa)(hb:SE C m2 b fb):ST C (.Compare a [.NotEq] [b] pos) (tsb (op2 (eqR true) fa fb)):=oF C.neRl os_eq ha hb
def aJm(ha:SE C m1 a fa)(hb:SE C m2 b fb)(hm:zBr .In b=false:=by with_unfolding_all rfl):ST C (.Compare a [.In] [b] pos) (tsb (op2 (inR false) fa fb)):=oF C.inRl aEP ha hb hm
def tZ(ha:SE C m1 a fa)(hb:SE C m2 b fb)(hm:zBr .NotIn b=false:=by with_unfolding_all rfl):ST C (.Compare a [.NotIn] [b] pos) (tsb (op2 (inR true) fa fb)):=oF C.ninRl aEP ha hb hm
def aFr(ha:SE C m1 a fa)(hb:SE C m2 b fb)(hc:SE C m3 c fc)(hm:zE2 [.LtE,.LtE] [b,c]=false:=by with_unfolding_all rfl):SE C (some []) (.Compare a [.LtE,.LtE] [b,c] pos) (chD leD leD fa fb fc):=zY C.leR aBv C.leR aBv aJK ha hb hc hm
def aFq(ha:SE C m1 a fa)(hb:SE C m2 b fb)(hc:SE C m3 c fc)(hm:zE2 [.LtE,.Lt] [b,c]=false:=by with_unfolding_all rfl):SE C (some []) (.Compare a [.LtE,.Lt] [b,c] pos) (chD leD ltD fa fb fc):=zY C.leR aBv C.ltR aBu aBW ha hb hc hm
def aFk(ha:SE C m1 a fa)(hb:SE C m2 b fb)(hc:SE C m3 c fc)(hm:zE2 [.LtE,.Lt] [b,c]=false:=by with_unfolding_all rfl):ST C (.Compare a [.LtE,.Lt] [b,c] pos) (tsb (chD leD ltD fa fb fc)):=aD0 C.leR aBv C.ltR aBu aBW ha hb hc hm
def aN(ha:SE C m1 a fa)(hb:SE C m2 b fb)(hp:zK b:=by exact λ _ _=>rfl):SE C m1 (.Subscript a b pos) (op2 ixD fa fb):=by
 obtain⟨t,h1,h2⟩:=ha;obtain⟨u,k1,k2⟩:=hb;refine⟨tOp (rIx C.K) t u,λ i=>by rw[<-C.hK i];exact aEH aJH (h1 i) (k1 i) hp,λ U Z H ρ lab Q R W=>?_⟩;refine h2 U Z H ρ lab _ R (W.bd.imp λ d _ w x H1 s1 r1=>?_);refine k2 U Z H1 ρ lab _ (R.up s1) (w.bd.imp λ e _ w y H2 s2 r2=>?_);obtain⟨z,ez,w⟩:=w.okD;have hi:imm e=true:=by
  unfold ixD at ez;split at ez<;>first|rfl|cases ez
 refine aKC (fpM m1 lab H) x y d e H2 Q z (r1.up s2) (r2.imm hi) ez λ v H' s r=>w v H' ((s1.trans s2).trans s) (r.wk λ p o _ q=>?_)
 rcases q with q|q
 .exact .inl ((s1.trans s2).free q)
 .exact q
def gm(hm:C.mg "len"=none)(ha:SA C m [a] ga)(he:∀i,zA2 [a] (C.X i).env=[(false,eval a (C.X i).env)]:=by intro _;rfl)(hg:∀i,Gl (C.X i) "len":=by intro _;rfl):SE C (some []) (.Call (.Name "len" p) [a] [] pos) (opA fG ga):=
 dZ (lw (λ i=>by have h:=qK (X:=C.X i);rw[C.hK i]at h;exact h) aFP hg hm zHD ha (by decide) (by decide) he) λ _ _ h=>pX aCI h
def aIF(hm:C.mg "all"=none)(ha:SA C m [a] ga)(he:∀i,zA2 [a] (C.X i).env=[(false,eval a (C.X i).env)]:=by intro _;rfl)(hg:∀i,Gl (C.X i) "all":=by intro _;rfl)(hv:zBR "all"=some (.builtin "all"):=by decide+kernel):SE C (some []) (.Call (.Name "all" p) [a] [] pos) (opA (zH λ bs=>bs.all id) ga):=
 dZ (lw (λ i=>aFT (C.calm i)) aJZ hg hm hv ha (by decide) (by decide) he) λ _ _ h=>pX aGt h
def aBi(hm:C.mg "min"=none)(ha:SA C m [a,b] ga)(he:∀i,zA2 [a,b] (C.X i).env=(false,eval a (C.X i).env)::zA2 [b] (C.X i).env:=by intro _;rfl)(hpl:∀i,(zC2 pos (zA2 [b] (C.X i).env)).any (·.1)=false:=by intro _;rfl)(hg:∀i,Gl (C.X i) "min":=by intro _;rfl)(hv:zBR "min"=some (.builtin "min"):=by decide+kernel):SE C (some []) (.Call (.Name "min" p) [a,b] [] pos) (opA (mmD λ i j=>if j<i then j else i) ga):=
 dZ (lw (λ i=>aCu (C.calm i)) aHh hg hm hv ha (by decide) (by decide) he hpl) λ _ _ h=>pX aEm h
def aBj(hm:C.mg "max"=none)(ha:SA C m [a,b] ga)(he:∀i,zA2 [a,b] (C.X i).env=(false,eval a (C.X i).env)::zA2 [b] (C.X i).env:=by intro _;rfl)(hpl:∀i,(zC2 pos (zA2 [b] (C.X i).env)).any (·.1)=false:=by intro _;rfl)(hg:∀i,Gl (C.X i) "max":=by intro _;rfl)(hv:zBR "max"=some (.builtin "max"):=by decide+kernel):SE C (some []) (.Call (.Name "max" p) [a,b] [] pos) (opA (mmD λ i j=>if j>i then j else i) ga):=
 dZ (lw (λ i=>aCv (C.calm i)) aHh hg hm hv ha (by decide) (by decide) he hpl) λ _ _ h=>pX aEm h
def zX(hm:C.mg "tuple"=none)(ha:SA C m [a] ga)(he:∀i,zA2 [a] (C.X i).env=[(false,eval a (C.X i).env)]:=by intro _;rfl)(hg:∀i,Gl (C.X i) "tuple":=by intro _;rfl)(hv:zBR "tuple"=some (.type "tuple"):=by decide+kernel):SE C m (.Call (.Name "tuple" p) [a] [] pos) (opA nu ga):=
 zZ (λ i=>by have h:=vq (X:=C.X i);rw[C.hK i]at h;exact h) aFO hg hm hv ha (by decide) (by decide) he
def aFp(hm:C.mg "list"=none)(ha:SA C m [a] ga)(he:∀i,zA2 [a] (C.X i).env=[(false,eval a (C.X i).env)]:=by intro _;rfl)(hg:∀i,Gl (C.X i) "list":=by intro _;rfl)(hv:zBR "list"=some (.type "list"):=by decide+kernel):SE C m (.Call (.Name "list" p) [a] [] pos) (opA zy ga):=
 zZ (λ i=>by have h:=zA (X:=C.X i);rw[C.hK i]at h;exact h) aHF hg hm hv ha (by decide) (by decide) he
def aIG{K:zAA}{a:Addr}(hO:Only H)(h:SqL K H a (ns.map V.int)):ni K H a ns:=by
 rcases h with (h|⟨o,h⟩)|h
 .rcases hO a with z|⟨o,xs,z⟩
  .rw[h]at z;cases z
  .rw[h]at z;cases z
 .exact .inl ⟨o,h⟩
 .exact .inr h
end
def zf:V->List V->Hp->VK->Prop:=λ x vs H Q=>∃l b xs zs,x= .ref l/\vs=[.ref b]/\H l=some (.lst xs)/\H b=some (.lst zs)/\xs.length+zs.length<=zAV/\∀H',gK l H H'->H' l=some (.lst (xs++zs))->Q .non H'
def aBB:MtM X "list.extend" zf:=λ pins s Z H x xs v us Q I rx rv ⟨l,b,ys,zs,e1,e2,h,h2,z,n⟩=>
 aCb pins s Z H x xs v us Q I rx rv ⟨l,b,ys,zs,e1,e2,h,h2,z,n _ (λ b o ne hb=>by rw[aU ne];exact hb) aX⟩
section
variable{C:Ct}{pos apos cpos p:Pos}{e:Expr}{fe:En->Rs D}{i:Nat}{x:Str}{m:Mode}
def aHB(ds:List D)(k:List D->Ou):D->Ou
 | .lst es=>if ds.length+es.length<=zAV then k (ds++es)else .st
 |_=>.st
def qF(i:Nat)(fe:En->Rs D):En->Ou:=λ ρ=>match ρ[i]? with
 |some (.ow (.lst ds))=>(fe ρ).bo (aHB ds λ l=>.nx (ρ.set i (.ow (.lst l))))
 |_=>.st
def wI(i:Nat)(he:SE C m e fe)(hm:okN m=true:=by rfl)(hN:∀j,(C.X j).N[i]? =some x:=by intro _;rfl)(hv:∀j,Vis (C.X j).env.scope x:=by intro _;first|exact zCo rfl|exact zCS (zCo rfl)|exact zCS (zCS rfl))(hd:Nd x:=by decide)
  (hcd:(x==("__classdict__":Str))=false:=by decide)(hs1:∀j,zA2 [e] (C.X j).env=[(false,eval e (C.X j).env)]:=by intro _;rfl)
  (hbase:∀j,zFI (.Name x p) "extend" (C.X j).env (eval (.Name x p) (C.X j).env)=eval (.Name x p) (C.X j).env:=by intro _;rfl)
  (hfew:∀j,((zC2 cpos (zA2 [e] (C.X j).env)).all (λ x=>!x.1)&&(zEa cpos (zDX [] (C.X j).env)).all (λ x=>x.1.isSome)&&decide ([e].length+([]:List zCy).length+(if ([]:List zCy).isEmpty then 0 else 1)<30))=true:=by intro _;rfl)
  (hline:(apos.endLine==cpos.line)=true:=by rfl)
  (hsw:∀j,zC3 (.Call (.Attribute (.Name x p) "extend" apos) [e] [] cpos) none pos.line (C.X j).env=pure false:=by intro _;rfl):
  SS C (.Expr (.Call (.Attribute (.Name x p) "extend" apos) [e] [] cpos) pos) (qF i fe):=by
 obtain⟨t,h1,h2⟩:=he;refine⟨wH (tBM C.K "list" zf (oA i) (jK t qT)),λ j=>pH (by rw[<-C.hK j];exact zm zCQ zFw PySem.F.type_list_extend aBB (gq (hN j) (hv j) hd hcd) (aV (h1 j) cu (hs1 j)) (hbase j) (hfew j) hline (hs1 j) rfl) (hsw j),λ U Z H ρ lab De R W=>?_⟩;unfold qF at W;cases es:ρ[i]? with
 |none=>rw[es]at W;exact zAM W
 |some s=>
  rw[es]at W;split at W
  .rename_i ds hs
   cases hs;rcases R.sl i _ es with z|⟨v,ev,hv'⟩
   .cases z
   .obtain⟨hv1,htop⟩:=hv'
    obtain⟨a0,ea0,la0⟩:=htop rfl;subst ea0;cases hv1 with
    |lst h mm r=>
     rename_i xs;refine⟨.ref a0,ev,.inl ⟨rfl,xs,SqL.of h⟩,h2 U Z H ρ lab _ R (W.bo.imp λ d _ w y H2 s2 r2=>?_)⟩;cases d with
     |lst es'=>
      dsimp only[aHB]at w;by_cases hz:ds.length+es'.length<=zAV
      .rw[if_pos hz]at w
       obtain⟨R',r'⟩:=R.fresh (P:=λ k=>k=1) rfl (λ k hk=>beq_iff_eq.mp (pL hm k hk)) s2 r2;have la:(cF H 1 lab a0).1=i+2:=by rw[bU h];exact la0
       cases r' with
       |lst hb mb rb=>
        rename_i b zs;refine⟨a0,b,xs,zs,rfl,rfl,s2 _ _ h,hb,by rw[r.length,rb.length];exact hz,λ H3 B h3=>?_⟩;refine w Z H3 _ (R'.mut ev (s2 _ _ h) rfl la B ⟨.lst h3 (.inr la) ?_,λ _=>⟨a0,rfl,la⟩⟩);have ra:Rps C.K (λ p=>((cF H 1 lab p).1=1\/(cF H 1 lab p).1=i+2)/\p≠a0) H2 (xs++zs) (ds++es'):=by
         refine(r.mono s2 λ p o e z=>⟨by rw[bU e];exact z.1,z.2⟩).append (rb.wk λ p o e z=>⟨.inl z.1,λ q=>?_⟩);subst q;have z1:(cF H 1 lab p).1=1:=z.1;omega
        exact ra.but B (s2 _ _ h) rfl λ z=>z.2 rfl
      .rw[if_neg hz]at w
       exact zAM w
     |_=>exact zAM w
  .exact zAM W
end
abbrev ctL(P:zAY)(w:World)(K:zAA)(mg:Str->Option Value)(base:Heap)(N:List Str)(q:Str)(sc:Scope)(cl:List (Str×Addr))(f:Addr)(cdv:Value)(A:zAd)(outer:List Env)(s:zAD)(H:Hp)(E:XK)(k:Nat)(hr:dM k (A.deeper (zCe q sc s.heap.objs.size f cdv cl))):Ct where
 ι:=Unit
 X:=λ _=>cxL P w K mg base N q sc cl f cdv A outer s H E
 prog:=P
 w:=w
 K:=K
 mg:=mg
 base:=base
 k:=k
 G:=⟨H,E,aZ mg⟩
 cx:=λ _=>⟨rfl,rfl,rfl,rfl,rfl⟩
 calm:=λ _=>rfl
 room:=λ _=>hr
 own:=λ _=>cR.own cR.ofL
 pass:=λ _=>cR.pass cR.ofL
 dOk:=true
 dcx:=λ _ _=>cR.ofL
def shS:Slot->Slot
 | .no=>.no
 | .sh d=>.sh d
 | .nw d=>.sh d
 | .ow d=>.sh d
 | .oz d=>.sh d
 | .o2 l=>.sh (.lst (l.map .lst))
def dO.shut{K:zAA}{H:Hp}{lab:Lab}{i:Nat}{v:V}{x:Slot}(h:dO K H lab i v x):dO K H (λ _=>(0,0)) i v (shS x):=by
 cases x with
 |no=>exact trivial
 |sh d=>exact Rp.wk (λ _ _ _ _=>zAj _) h
 |nw d=>exact Rp.wk (λ _ _ _ _=>zAj _) h
 |ow d=>exact Rp.wk (λ _ _ _ _=>zAj _) h.1
 |oz d=>
  obtain⟨a,xs,ds,rfl,rfl,e3,e4,e5⟩:=h;exact .lst e3 (zAj _) (Rps.wk (λ p o e z=>⟨zAj _,λ ep=>by
   have z':(lab p).1<=1:=z;rw[ep,e4]at z';omega⟩) e5)
 |o2 l=>exact Rp.wk (λ _ _ _ _=>zAj _) (aBx h)
theorem RR.shut{K:zAA}{G:Gx}{U:List (V×D)}{ρ:En}{Z:L2.St}{H:Hp}{lab:Lab}{E:XK}{cl:Str->Addr}(R:RR K G U ρ Z H lab):RR K ⟨H,E,cl⟩ [] (ρ.map shS) Z H (λ _=>(0,0)):=by
 refine⟨by rw[zAF];exact R.len,λ i s e=>?_,aO.refl H,λ p hp=>absurd rfl hp,λ q hq=>by cases hq⟩;rw[zAa]at e;cases hr:ρ[i]? with
 |none=>rw[hr]at e;cases e
 |some x=>
  rw[hr]at e;cases e;rcases R.sl i x hr with z|⟨v,e1,e2⟩
  .subst z;exact .inl rfl
  .exact .inr ⟨v,e1,e2.shut⟩
def aJq(cl:Str->Addr)(H1:Hp)(r:Rs D):Sp:=λ vs H Q E=>vs=[]/\aO H1 H/\WR ⟨H,E,cl⟩ r (λ _=>∀v H',aO H H'->Q v H')
def v8(wn:Str->Option Str)(told:Str)(fe:En->Rs D):En->Rs D:=λ ρ=>match fe (ρ.map shS)with
 | .ok _=>.ok (.str told)
 | .ex c=>(match wn c with
  |some w=>.ok (.str w)
  |none=>.st)
 | .st=>.st
def aJc(P:zAY)(w:World)(K:zAA)(mg:Str->Option Value)(N:List Str)(q:Str)(params:zDG)(body:Expr)(scope:Scope)(k0:Nat)(told:Str)(wd:Addr->Option Str)(E:XK):TE:=λ Z H Q=>
 ∀(base:Heap) (cl:List (Str×Addr)) (f c':Addr) (ctv pm:Value) (H1:Hp),aO H H1->aAX q params body scope cl pm H1 f c' ctv->aF6 base N Z scope cl->spR P w K mg base k0 told wd [.ref f] H1 Q E
section
variable{C:Ct}{m:Mode}{x pc told q:Str}{p pos lpos:Pos}{k k0 kb:Nat}{fn:Addr}{fd:zAt}{wd:Addr->Option Str}{wn:Str->Option Str}{params:zDG}{body:Expr}{scope:Scope}{N:List Str}{fe:En->Rs D}
def aAb(hF:∀base,cY C.prog C.w C.K C.mg base (CX1 C.prog C.w) k fn fd [pc] (spR C.prog C.w C.K C.mg base k0 told wd))(hr:k<=C.k)(hm:C.mg x=some (.ref fn))(hk:zBl C.K (.ref fn)=true)(hb:Binds C.K fd [pc] [])
  (hL:∀i,(∃P,sV (C.X i) P)/\(C.X i).outer=[]/\(C.X i).N=N/\(C.X i).tq=q)(S:vU scope)(hcl:C.G.cl=aZ C.mg)(hwn:∀c w,wn c=some w->wd (aZ C.mg c)=some w)(hkb:kb+1<=k0)
  (hbody:∀base cl f cd A outer s H E hr,SE (ctL C.prog C.w C.K C.mg base N q scope cl f cd A outer s H E kb hr) m body fe)
  (hbnd:∀cl pm c' ctv,zHS (zFF "<lambda>" q params body scope cl pm (.ref c') ctv) ⟨[],[]⟩=pure []:=by intro _ _ _ _;rfl)(hdef:∀i,zH9 params (C.X i).env=([],[]):=by intro _;rfl)
  (hfree:∀i,∀y∈scope.names,y.2= .free->(C.X i).env.kindOf y.1=some .cell\/(C.X i).env.kindOf y.1=some .free)(hdb:Nd x:=by decide)(hg:∀i,Gl (C.X i) x:=by intro _;rfl):
  SE C (some []) (.Call (.Name x p) [.Lambda params body scope lpos] [] pos) (v8 wn told fe):=by
 refine⟨aJc C.prog C.w C.K C.mg N q params body scope k0 told wd C.G.E,λ i=>?_,λ U Z H ρ lab Q R W=>?_⟩
 .obtain⟨e1,e2,e3,e4,e5⟩:=C.cx i
  obtain⟨⟨P,Lx⟩,ho,eN,eq⟩:=hL i;intro pins s Z H Q I h;refine zCN (m6 I (hg i) (by rw[e4];exact hm) ?_ hdb);have ha:PA (C.X i) [.Lambda params body scope lpos] _:=aV (aI1 Lx (hdef i) (hfree i)) cu;refine zER (h₀:=(C.X i).base) I.ok.mod.kin (by rw[e3];exact hk) (thn (ha pos pins s Z H (λ vs H1=>aO H H1/\∃f c' ctv,vs=[.ref f]/\aAX (C.X i).tq params body scope (L2.aZ scope (C.X i).env) (((C.X i).mg "__name__").getD .none) H1 f c' ctv) I
   (λ f c' ctv H' sm l=>⟨sm,f,c',ctv,rfl,l⟩)) λ us s1 ⟨vs,H1,I1,r,sm,f,c',ctv,ev,la⟩=>⟨I1.kIn,?_⟩)
  subst ev;have hz:=h (bse (C.X i) s1 H1) (L2.aZ scope (C.X i).env) f c' ctv _ H1 sm (by rw[<-eq];exact la) (by rw[<-eN];exact aJ1 I1 ho S (hfree i));exact aFu (CX:=CX1 (C.X i).prog (C.X i).w) I1 (by rw[e1,e2,e3,e4];exact hF _) ((C.room i).mono hr) (by rw[e3];exact hb) (C.pass i) r (by rw[e1,e2,e3,e4]at*;exact hz)
 .intro base cl f c' ctv pm H1 sm la cp
  have R1:=R.up sm;have FL:cY C.prog C.w C.K C.mg base (CX1 C.prog C.w) (kb+1) f (zFF "<lambda>" q params body scope cl pm (.ref c') ctv) [] (aJq (aZ C.mg) H1 (fe (ρ.map shS))):=by
   refine aIy la S cp (λ vs H Q E h=>⟨h.1,h.2.1⟩) λ A outer s H2 Q2 E2 hr2 hsp=>?_
   obtain⟨t,h1,h2⟩:=hbody base cl f (.ref c') A outer s H2 E2 hr2;exact⟨t,h1 (),h2 [] Z H2 _ _ Q2 (R1.up hsp.2.1).shut (hsp.2.2.imp λ d _ z v H' s' _=>z v H' s')⟩
  refine⟨f,_,_,_,_,kb+1,_,rfl,la.1,FL,hkb,λ s us _ hl=>?_,rfl,aO.refl H1,?_⟩
  .have e:us=[]:=by
    rw[zA9]at hl;exact zCt.mp hl
   subst e;exact .of_eq (hbnd cl pm c' ctv)
  .unfold v8 at W
   cases he:fe (ρ.map shS)with
   |ok d=>rw[he]at W;exact λ v H' s'=>W (.str told) H' (sm.trans s') (.str told)
   |ex c=>
    rw[he]at W;cases hw:wn c with
    |none=>simp only[hw]at W;exact W.elim
    |some w=>
     simp only[hw]at W;exact λ H' s'=>⟨_,w,rfl,hwn c w hw,λ H'' s''=>W (.str w) H'' (sm.trans (s'.trans s'')) (.str w)⟩
   |st=>rw[he]at W;exact W.elim
end
end VL
namespace L2
open PySem PySem.Spec PyProof.Rows
def cxW(P:zAY)(w:World)(K:zAA)(mg:Str->Option Value)(base:Heap)(N:List Str)(qual:Str)(scope:Scope)(f:Addr)(cd:Value)(A:zAd)(s:zAD)(H:Hp)(Pt:Addr):Cx where
 prog:=P
 w:=w
 K:=K
 mg:=mg
 base:=base
 A:=A.deeper (zCq qual scope s.heap.objs.size f cd)
 N:=N
 z5:=s
 z4:=H
 env:=zCq qual scope s.heap.objs.size f cd
 outer:=[]
 stack:=[zCq qual scope s.heap.objs.size f cd]
 ex:=[Pt]
 calm:=true
 fn:=λ _=>true
 pn:=[]
 xe:=λ _ _=>False
 ta:=[(Pt,zCU #[])]
 tq:=qual++".<locals>."++"<lambda>"
section
variable{P:zAY}{w:World}{K:zAA}{mg:Str->Option Value}{base:Heap}{N ps:List Str}{qual:Str}{scope:Scope}{f Pt:Addr}{cd:Value}{A:zAd}{s s1:zAD}{H:Hp}{vs:List V}{us:List Value}
def aBU(S:aW N ps scope)(hd:A.handled=none)(e0:aAZ P w K mg base A [] s H)(hl:vs.length=ps.length)(r:Vals vs us)
  (hP:s.heap.get? Pt=some (zCU #[]))(hH:H Pt=none)(hb:base.get? Pt=none)
  (x:InCallC s s.heap.objs.size (bindL (zCq qual scope s.heap.objs.size f cd).kindOf (ps.zip us) λ _=>none) (zCp (s.heap.objs.size+1) scope.names []) (bindC (zCq qual scope s.heap.objs.size f cd).kindOf (ps.zip us) λ _=>none) s1):
  Inv (cxW P w K mg base N qual scope f cd A s H Pt) [] (start N vs) H s1:=by
 have I:Inv (su (CX1 P w) P w K mg base N qual scope f cd A [] s H λ _ _ _=>False) [] (start N vs) H s1:=qx S hd e0 hl r x;obtain⟨h1,tk,e1,hk⟩:=x.done;have hlt:=zAU hP;have hne:∀b∈[Pt],b≠s.heap.objs.size:=λ b hb z=>by
  have e:b=Pt:=by simpa using hb
  rw[e]at z;exact absurd hlt (by rw[z];exact zBe _)
 refine⟨⟨I.ok.mod,I.ok.kind,I.ok.glob,I.ok.blt,I.ok.above,I.ok.inj,I.ok.has,I.ok.cab,I.ok.hd,I.ok.frames,I.ok.stk,λ b hb2=>⟨hne b hb2,λ y c e z=>?_⟩,I.ok.bs,I.ok.bsz,λ b o e hb'=>?_,λ b _=>λ z=>(nomatch z),I.ok.funs,I.ok.frf⟩,
  I.os,I.bare,I.base.mono (λ b z=>z) (λ b z=>(nomatch z)),I.loc,I.cell,I.free,I.freeC,I.pin,I.hok,I.len,λ p hp=>?_⟩
 .have q:s.heap.objs.size<=c:=I.ok.cab y c rfl e
  have e2:b=Pt:=by simpa using(show b∈[Pt]from hb2)
  rw[z,e2]at q;exact absurd hlt (zFf.mpr q)
 .have e2:b=Pt:=by simpa using(show b∈[Pt]from hb')
  have e3:base.get? b=some o:=e;rw[e2,hb]at e3;cases e3
 .have e2:p=(Pt,zCU #[]):=by simpa using(show p∈[(Pt,zCU #[])]from hp)
  subst e2;refine⟨hH,hne Pt zAN,λ z=>(nomatch z),λ q hq=>(nomatch hq),#[],?_,trivial,λ pos cv e=>nomatch e⟩;subst e1;exact hk _ _ hP
end
def aCh{P:zAY}{w:World}{K:zAA}{mg mb:Str->Option Value}{k:Nat}{fa a c Pt:Addr}{x:Str}{zS:zAD}{vs:List Value}{ns:List Int}{N:List Str}{oc doc pm ct dV kV:Value}{od:Option Addr}{osl:Array (Option Value)}{name qual:Str}{params:zDG}{body:List Stmt}{scope:Scope}{an:Option Addr}
  (KX:K.In zS.heap)(hns:zS.heap.Ns zA5 mg)(hb:zS.heap.Ns zH8 mb)(hbb:∀x:Str,x≠"__name__"->mb x=zBR x)(hlim:zS.heap.NoLimit)(hg:zS.gens=#[])
  (ha:zS.heap.get? a=some {cls:=.type "list",data:=.seq vs.toArray})(hi:zBZ vs ns)(hl:ns.length<=zAV)(hr:dM (k+1) zCb)
  (hP:zS.heap.get? Pt=some (zCU #[]))(hKP:K.lookup Pt=none)(hC:zDf K c Pt=true)(hbl:zS.heap.BuiltinsAt mg Pt)
  (lk:K.lookup fa=some ⟨oc,od,.func (zBo name qual params body scope dV kV doc pm an (.ref c) ct),osl⟩)(hcd:zDA K (.ref c) qual=true)(S:aW N [x] scope)
  (hbind:∀(s:zAD) (u:Value),zGV s (zBo name qual params body scope dV kV doc pm an (.ref c) ct) ⟨[u],[]⟩ [(x,u)])
  (hbody:∀(base:Heap) (s:zAD) (H:Hp),dM k (zCb.deeper (zCq qual scope s.heap.objs.size fa (.ref c)))->sV (cxW P w K mg base N qual scope fa (.ref c) zCb s H Pt) Pt->Only H->SqL K H a (ns.map V.int)->
   ∃t,PSs (cxW P w K mg base N qual scope fa (.ref c) zCb s H Pt) body t/\t {nx:=λ _ _=>False,rt:=λ v _=>v= .bl true} (start N [.ref a]) H):
  zBs (model P w) zCb (.call (.ref fa) ⟨[.ref a],[]⟩) (λ r s'=>r= .ok (.ret (.bool true))/\OldK zS.heap s'.heap/\s'.os=zS.os/\zEU s'.gens) zS:=by
 have rv:=wD hi;have lenV:=hi.length;have aP:a≠Pt:=λ z=>by
  rw[z,hP]at ha;have e2:=congrArg Obj.cls (zAn ha);cases e2
 have core:∀H:Hp,Only H->SqL K H a (ns.map V.int)->HOk P w H zS.heap->(∀b,H b≠none->b=a)->(H a≠none->K.lookup a=none)->
   zBs (model P w) zCb (.call (.ref fa) ⟨[.ref a],[]⟩) (λ r s'=>r= .ok (.ret (.bool true))/\OldK zS.heap s'.heap/\s'.os=zS.os/\zEU s'.gens) zS:=by
  intro H hO hS hok hA hK;have hPn:H Pt=none:=by
   cases q:H Pt with
   |none=>rfl
   |some u=>exact absurd (hA Pt (by rw[q];simp)).symm aP
  let B:=zBv (aEu zS.heap H) [Pt];have base_of:∀{b:Addr} {o:Obj},zS.heap.get? b=some o->H b=none->b≠Pt->B.get? b=some o:=λ e n ne=>zCR _ (aEt e n) (by simpa using ne)
  have noA:∀{b:Addr} {o:Obj} {es:Array DictEntry} {ep:Nat},zS.heap.get? b=some o->o.data= .dict es ep->H b=none/\b≠Pt:=λ{b o es ep} e d=>by
   refine⟨?_,λ z=>?_⟩
   .cases q:H b with
    |none=>rfl
    |some u=>
     have e':b=a:=hA b (by rw[q];simp);subst e';rw[ha]at e;cases e;have d':Data.seq vs.toArray _=Data.dict es ep:=d;cases d'
   .rw[z,hP]at e
    cases e;cases d
  have nsK:∀{b:Addr} {m:Str->Option Value},zS.heap.Ns b m->B.Ns b m:=λ{b m} ⟨o,es,ep,e,d,r⟩=>⟨o,es,ep,base_of e (noA e d).1 (noA e d).2,d,r⟩
  have hKb:K.In B:=λ b o e=>base_of (KX b o e) (by
   cases q:H b with
   |none=>rfl
   |some u=>
    have e':b=a:=hA b (by rw[q];simp);subst e';rw[hK (by rw[q];simp)]at e;cases e) (λ z=>by rw[z,hKP]at e;cases e)
  have hM:Mod K mg B:=⟨hKb,nsK hns,⟨mb,nsK hb,hbb⟩,let⟨mc,h1,h2⟩:=hlim;⟨mc,nsK h1,h2⟩⟩;have e0:aAZ P w K mg B zCb [] zS H:=⟨rfl,hM,λ b o e=>aGZ (zD1 _ e),zGH ((zDv _ _).trans (aCn _ _)),trivial,λ b hb=>absurd (show b∈([]:List Addr)from hb) (by simp),hok,.of_eq hg⟩;have gP:zA5≠Pt:=by
   obtain⟨o,es,ep,e,d,_⟩:=hns;exact(noA e d).2
  have hLx:sV (cxW P w K mg B N qual scope fa (.ref c) zCb zS H Pt) Pt:=by
   refine⟨⟨_,rfl⟩,zAN,rfl,⟨c,rfl,zFm hKb hC⟩,?_,gP⟩;obtain⟨bm,o,b1,b2,b3,b4,b5,b6,b7,b8⟩:=hbl;refine⟨bm,o,b1,b2,b3,b4,base_of b5 ?_ b4,b6,b7,b8⟩;cases q:H bm with
   |none=>rfl
   |some u=>
    have e':bm=a:=hA bm (by rw[q];simp);rw[e',ha]at b5;cases b5;cases b8
  have hkind:∀y∈[x].zip [zBx a],scope.names.lookup y.1=some .local\/(scope.names.lookup y.1=some .cell/\((zCp (zS.heap.objs.size+1) scope.names []).lookup y.1).isSome=true):=λ⟨n,v⟩ hy=>by
   rcases S.par n (zCu hy).1 with q|q
   .exact .inl q
   .exact .inr ⟨q,zCw _ _ _ (.inl q)⟩
  refine zE0 hr.depth (KX _ _ lk) rfl S.co S.gen rfl (zES KX hcd) (hbind zS (.ref a) _ _ _ _ ?_);refine zDk S.kind hkind λ env he s1 x'=>?_
  subst he;refine⟨hlim.keeps x'.toInCall.keep,zGu ?_⟩;obtain⟨t,ht,hq⟩:=hbody B zS H (hr.deeper _) hLx hO hS;have I:Inv (cxW P w K mg B N qual scope fa (.ref c) zCb zS H Pt) [] (start N [.ref a]) H s1:=aBU (ps:=[x]) (us:=[.ref a]) S hr.hd e0 rfl (.cons rfl .nil) hP hPn (zDu _ zAN) x';refine zBF (ht [] s1 (start N [.ref a]) H _ I hq) (λ fl s' hs=>?_) λ e s' hs=>hs.elim
  cases fl with
  |next=>obtain⟨_,_,_,q⟩:=hs;exact q.elim
  |brk=>obtain⟨_,_,_,q⟩:=hs;exact q.elim
  |cont=>obtain⟨_,_,_,q⟩:=hs;exact q.elim
  |ret u=>
   obtain⟨v,Z',H',J,rv',q⟩:=hs;have q':v= .bl true:=q;subst q';obtain rfl:u=zCa true:=rv';obtain⟨_,_,_,_,ps,hps,_⟩:=J.tab (Pt,zCU #[]) zAN;have all:∀b o,zS.heap.get? b=some o->b≠Pt->s'.heap.get? b=some o:=λ b o e ne=>by
    cases q:H b with
    |none=>exact J.base.keep b o e q (λ z=>(nomatch z)) (by simpa[cxW]using ne)
    |some u=>
     rcases hO b with z|⟨ob,xs,z⟩
     .rw[q]at z;cases z
     .have z2:=J.base.frzs b ob _ z
      obtain⟨e1,_⟩:=hok b _ z;obtain⟨e2,_⟩:=J.hok b _ z2;rw[e]at e1;cases e1;exact e2
   refine⟨rfl,⟨λ b o e=>?_,λ b o e=>?_⟩,J.os,J.bare⟩
   .by_cases hbP:b=Pt
    .subst hbP
     rw[hP]at e;cases e;obtain⟨⟨o1,vs1,f1,f2,f3,f4⟩,_⟩:=(zFm KX hC).tab hP;exact .inr (.inl ⟨⟨c,o1,vs1,f1,f2,f3,f4⟩,rfl,#[],ps,rfl,by simpa using hps⟩)
    .exact .inl (all b o e hbP)
   .by_cases hbP:b=Pt
    .subst hbP;exact⟨_,hps⟩
    .exact⟨o,all b o e hbP⟩
 cases hk:K.lookup a with
 |some o=>
  have e:=KX a o hk;rw[ha]at e;cases e;refine core (λ _=>none) (λ _=>.inl rfl) (.inr ⟨_,vs.toArray,_,hk,rfl,rfl,rfl,by rw[zAH,lenV];exact hl,by simpa using rv⟩) (λ b u z=>by have z':(none:Option HO)=some u:=z;cases z') (λ b z=>absurd rfl z) λ z=>absurd rfl z
 |none=>
  refine core (λ b=>if b=a then some (.frz {cls:=.type "list",data:=.seq vs.toArray} (.lst (ns.map V.int)))else none) (λ b=>?_) (.inl (.inr ⟨{cls:=.type "list",data:=.seq vs.toArray},if_pos rfl⟩)) (λ b u z=>?_) (λ b z=>?_) λ _=>hk
  .by_cases hb:b=a
   .exact .inr ⟨_,_,if_pos hb⟩
   .exact .inl (if_neg hb)
  .by_cases hb:b=a
   .have z':=(if_pos hb).symm.trans z
    cases z';subst hb;exact⟨ha,by rw[zAF];exact hl,vs,_,rv,ha⟩
   .have z':=(if_neg hb).symm.trans z
    cases z'
  .by_cases hb:b=a
   .exact hb
   .exact absurd (if_neg hb) z
end L2
namespace VL
open PySem PySem.Spec PyProof.Rows L2
abbrev ctW(P:zAY)(w:World)(K:zAA)(mg:Str->Option Value)(base:Heap)(N:List Str)(q:Str)(sc:Scope)(f:Addr)(cdv:Value)(A:zAd)(s:zAD)(H:Hp)(Pt:Addr)(k:Nat)(hr:dM k (A.deeper (zCq q sc s.heap.objs.size f cdv))):Ct where
 ι:=Unit
 X:=λ _=>cxW P w K mg base N q sc f cdv A s H Pt
 prog:=P
 w:=w
 K:=K
 mg:=mg
 base:=base
 k:=k
 G:=⟨H,λ _ _ _=>False,aZ mg⟩
 cx:=λ _=>⟨rfl,rfl,rfl,rfl,rfl⟩
 calm:=λ _=>rfl
 room:=λ _=>hr
 own:=λ _=>λ _ _ h=>zAM h
 pass:=λ _=>λ _ _ _ _ _ _ _ ⟨_,_,_,_,_,_,_,_,_,_,_,_,_,z⟩=>z
 dOk:=false
 dcx:=λ z=>nomatch z
def aEb{P:zAY}{w:World}{K:zAA}{mg:Str->Option Value}{base:Heap}{N:List Str}{q:Str}{sc:Scope}{fa a Pt:Addr}{cdv:Value}{A:zAd}{s:zAD}{H:Hp}{k:Nat}{hr:dM k (A.deeper (zCq q sc s.heap.objs.size fa cdv))}{body:List Stmt}{f:En->Ou}{ns:List Int}
  (hb:SSs (ctW P w K mg base N q sc fa cdv A s H Pt k hr) body f)(e:eZ N.length f [.scr ns]= .ok (.bl true))(r:Rps K (λ _=>True) H [.ref a] [.scr ns]):
  ∃t,PSs (cxW P w K mg base N q sc fa cdv A s H Pt) body t/\t {nx:=λ _ _=>False,rt:=λ v _=>v= .bl true} (start N [.ref a]) H:=by
 obtain⟨t,h1,h2⟩:=hb;refine⟨t,h1 (),h2 [] _ H _ _ _ (RR.start r) ?_⟩;unfold eZ at e;cases ef:f (ak N.length [.scr ns])with
 |nx ρ=>rw[ef]at e;cases e
 |rt d=>rw[ef]at e;cases e;exact λ v H' s r=>r.bl_inv
 |ex c=>rw[ef]at e;cases e
 |bk ρ=>rw[ef]at e;cases e
 |ct ρ=>rw[ef]at e;cases e
 |st=>rw[ef]at e;cases e
def aAm{P:zAY}{w:World}{K:zAA}{mg:Str->Option Value}{base:Heap}{x q n0 n1 n2 few cn pe told:Str}{st:Stmt}{f fc C':Addr}{fd fdc:zAt}{kc k0:Nat}{wd:Addr->Option Str}{p1 p2 p3 p4 p5 p6 p7 p8 p9 p10 p11 p12 p13 p14 p15 p16:Pos}{j1:Nat}
  (F:L2.Fun K x q st f fd)(S:aW [n0,n1,n2] [n0] (aF st))(hst:cH st=[.Assign [.Name n1 p1] (.Constant (.str told) j1 p2) p3,.Try [.Expr (.Call (.Name n0 p4) [] [] p5) p6] [.ExceptHandler (some (.Name few p7)) (some n2) [.Assign [.Name n1 p8] (.Call (.Name cn p9) [.Name n2 p10] [] p11) p12] p13] [] [] p14,.Return (some (.Name n1 p15)) p16])
  (l0:(aF st).names.lookup n0=some .local)(l1:(aF st).names.lookup n1=some .local)(l2:(aF st).names.lookup n2=some .local)(g1:(aF st).names.lookup few=some .globalImplicit)(g2:(aF st).names.lookup cn=some .globalImplicit)
  (hm:mg few=some (.ref C'))(hC':bQ K C')(FC:FnH P w K mg base kc fc fdc [pe] (spW wd))(hmc:mg cn=some (.ref fc))(hkc:zBl K (.ref fc)=true)(hbc:Binds K fdc [pe] [])(hkk:kc<=k0)(hw:∀C w,wd C=some w->bQ K C/\rA K C C'=true)
  (d1:Nd few:=by decide)(d2:Nd cn:=by decide)(d3:Nd n0:=by decide)(d4:Nd n1:=by decide)(d5:Nd n2:=by decide)
  (d6:(n0==("__classdict__":Str))=false:=by decide)(d7:(n1==("__classdict__":Str))=false:=by decide)(d8:(n2==("__classdict__":Str))=false:=by decide):
  cY P w K mg base (CX1 P w) (k0+1) f fd [n0] (spR P w K mg base k0 told wd):=by
 refine F.okX S (λ vs H Q E ⟨_,_,_,_,_,_,_,e,_⟩=>by rw[e];rfl) λ cdv A outer s H vs Q E hr hsp=>?_
 rw[hst];exact aDk (X:=su (CX1 P w) P w K mg base [n0,n1,n2] q (aF st) f cdv A outer s H E) cR.of rfl rfl S.nd l0 l1 l2 (λ _=>rfl) hm g1 hC' FC g2 hmc hkc hbc hr hkk hw hsp d1 d2 d3 d4 d5 d6 d7 d8
end VL
namespace L2
open PySem PySem.Spec PyProof.Rows
def fB{X:Cx}{n0:Str}{e:Expr}{c:V}{p p' pos:Pos}(hN:X.N[0]? =some n0)(hv:X.env.scope.names.lookup n0=some .local)(hg:Gl X "isinstance")(hm:X.mg "isinstance"=none)(hc:PE X e (tC c))(hse:zA2 [e] X.env=(false,eval e X.env)::zA2 [] X.env:=by rfl)
  (hpl:(zC2 pos (zA2 [e] X.env)).any (·.1)=false:=by rfl)(d:Nd n0:=by decide)(d':(n0==("__classdict__":Str))=false:=by decide):PE X (.Call (.Name "isinstance" p) [.Name n0 p',e] [] pos) (aA5 X.K c):=
 pK aCy hg hm rfl (aV (gq hN (.inl hv) d d') (aV hc cu hse)) (hpl:=hpl)
section
variable{P:zAY}{w:World}{K:zAA}{mg:Str->Option Value}{base:Heap}{x q n0 n1 n2 odd:Str}{st:Stmt}{f:Addr}{fd:zAt}{k:Nat}{wd:Addr->Option Str}{c1 c2:V}{k1 k2 k3 k4:List V}{l1 l2:List Str}{a1 a2:Expr}{as1 as2 e1 e2 e3 e4 w1 w2:List Expr}{kw1 kw2:List zCy}
 {p1 p2 p3 p4 p5 p6 p7 p8 p9 p10 p11 p12 p13 p14 p15 p16 p17 p18 p19 p20 p21 p22 p23 p24 p25 p26 p27 p28 p29 p30 p31 p32 p33 p34 p35 p36 p37 p38 p39 p40:Pos}{q1 q2 q3 q4 q5 q6 q7:Pos}{j1 j2 j3 j4 j5:Nat}
end
structure aCV(P:zAY)(w:World)(K:zAA)(mg:Str->Option Value)(fa Pt:Addr)(k n:Nat):Prop where
 ex:∃(x name qual:Str) (params:zDG) (body:List Stmt) (scope:Scope) (dV kV doc pm ct oc:Value) (an od:Option Addr) (c:Addr) (osl:Array (Option Value)) (N:List Str),
  K.lookup Pt=none/\zDf K c Pt=true/\K.lookup fa=some ⟨oc,od,.func (zBo name qual params body scope dV kV doc pm an (.ref c) ct),osl⟩/\zDA K (.ref c) qual=true/\aW N [x] scope/\
  (∀(s:zAD) (u:Value),zGV s (zBo name qual params body scope dV kV doc pm an (.ref c) ct) ⟨[u],[]⟩ [(x,u)])/\
  ∀(a:Addr) (ns:List Int),ns.length<=n->∀(base:Heap) (s:zAD) (H:Hp),dM k (zCb.deeper (zCq qual scope s.heap.objs.size fa (.ref c)))->sV (cxW P w K mg base N qual scope fa (.ref c) zCb s H Pt) Pt->Only H->SqL K H a (ns.map V.int)->
   ∃t,PSs (cxW P w K mg base N qual scope fa (.ref c) zCb s H Pt) body t/\t {nx:=λ _ _=>False,rt:=λ v _=>v= .bl true} (start N [.ref a]) H
def aDJ{l:zEq}{n k:Nat}{q:zAY}{loose:List Str}{XP:(Str->Option Value)->Heap->Prop}{YP:World->Heap->Prop}{d:DefRec}{K:Params->zAA}{Pt:Addr}
  (hn:l.most=some n)(hn2:n<=zAV)(hdf:d.params.defaults=[])(hr:dM (k+1) zCb)
  (hY:∀(w:World) (h:Heap),YP w h->(K w.params).In h/\h.get? Pt=some (zCU #[]))
  (F:∀(w:World) (mg:Str->Option Value) (fa:Addr) (h:Heap),(K w.params).In h->h.Ns zA5 mg->mg d.name=some (.ref fa)->aCV l.prog w (K w.params) mg fa Pt k n):
  zGs q loose XP YP l.row.toRowW d [] (λ f vs=>zG1 f vs):=by
 refine Att.aAV hn hdf λ w z5 zS mg mb fa o pm cd doc a vs ns G Y ho hd hcd hmg hobj hints hlen hg=>?_
 obtain⟨KX,hP⟩:=hY w _ Y;obtain⟨x,name,qual,params,body,scope,dV,kV,doc,pm,ct,oc,an,od,c,osl,N,h1,h2,h3,h4,h5,h6,h7⟩:=(F w mg fa _ KX G.T.g hmg).ex;have hbl:zS.heap.BuiltinsAt mg Pt:=by
  obtain⟨bm,ob,b1,b2,b3,b4,b5,b6⟩:=G.T.bmain;refine⟨bm,ob,b1,b2,λ z=>?_,λ z=>?_,b3,b4,b5,b6⟩
  .obtain⟨o,es,ep,e,hd,_⟩:=G.T.g
   rw[z,e]at b3;cases b3;rw[hd]at b6;cases b6
  .rw[z,hP]at b3;cases b3;cases b4
 exact aCh KX G.T.g G.T.b G.T.builtins G.T.nolimit hg hobj hints (zAk hlen hn2) hr hP h1 h2 hbl h3 h4 h5 h6 λ base s H r1 r2 r3 r4=>h7 a ns hlen base s H r1 r2 r3 r4
def clB(K:zAA)(few C:Addr):Bool:=zFW K C [.type "ValueError",.type "Exception",.type "BaseException",.type "object"] "ValueError.__new__"&&decide (zBQ K (.ref C) "__class__"=some (some (.builtin "object.__class__")))&&decide (zBQ K (.ref C) "__getattribute__"=some (some (.builtin "BaseException.__getattribute__")))&&decide (zBQ K (.ref C) "__getattr__"=some none)&&decide (zBt K (.ref C) (.ref few)=some true)&&decide (zBt K (.ref C) (.type "ValueError")=some true)&&rA K C few
def aB3(K:zAA)(few:Addr)(cs:List Addr):Bool:=(zBM cs.length).all λ j=>match cs[j]? with
 |none=>true
 |some C=>clB K few C&&(zBM cs.length).all λ i=>match cs[i]? with
  |none=>true
  |some c=>decide (zBt K (.ref C) (.ref c)=some (i==j))
theorem lookup_at{C:Addr}{w:Str}:∀{cs:List Addr} {ws:List Str},(cs.zip ws).lookup C=some w->∃j:Nat,cs[j]? =some C/\ws[j]? =some w
 |[],_,h=>by cases h
 |_::_,[],h=>by cases h
 |c::cs,x::ws,h=>by
  rw[zBV,zBA]at h;by_cases e:C==c
  .simp only[e]at h
   cases h;exact⟨0,by rw[zDY e];rfl,rfl⟩
  .simp only[e]at h
   obtain⟨j,h1,h2⟩:=lookup_at h;exact⟨j+1,h1,h2⟩
def aHS{K:zAA}{few c0 c1 c2 c3 c4 c5 c6 c7 c8 c9 c10 c11:Addr}{ws:List Str}(h:aB3 K few [c0,c1,c2,c3,c4,c5,c6,c7,c8,c9,c10,c11]=true){C:Addr}{w:Str}(hw:([c0,c1,c2,c3,c4,c5,c6,c7,c8,c9,c10,c11].zip ws).lookup C=some w):
  Wd K (.ref few) (.ty "ValueError") [[.ref c0,.ref c1,.ref c2],[.ref c3,.ref c4,.ref c5],[.ref c6,.ref c7,.ref c8],[.ref c9,.ref c10,.ref c11]] ws C w/\bQ K C/\rA K C few=true:=by
 obtain⟨j,h1,h2⟩:=lookup_at hw;have hj:j<12:=(zAK.mp h1).1;have h3:=zBE.mp h j (zBb.mpr hj);simp only[h1,zAQ]at h3;obtain⟨h4,h5⟩:=h3;have F:∀(i:Nat) c,[c0,c1,c2,c3,c4,c5,c6,c7,c8,c9,c10,c11][i]? =some c->Kt K C (.ref c) (i==j):=λ i c e=>by
  have h6:=zBE.mp h5 i (zBb.mpr (zAK.mp e).1);simp only[e]at h6;exact⟨_,rfl,of_decide_eq_true h6⟩
 unfold clB at h4;simp only[zAQ,decide_eq_true_eq]at h4;obtain⟨⟨⟨⟨⟨⟨q1,q2⟩,q3⟩,q4⟩,q5⟩,q6⟩,q7⟩:=h4;refine⟨⟨⟨q1,q2,q3,q4⟩,⟨_,rfl,q5⟩,⟨_,rfl,q6⟩,[0==j,1==j,2==j],[3==j,4==j,5==j],[6==j,7==j,8==j],[9==j,10==j,11==j],j,_,_,_,_,rfl,.cons (F 0 c0 rfl) (.cons (F 1 c1 rfl) (.cons (F 2 c2 rfl) .nil)),.cons (F 3 c3 rfl) (.cons (F 4 c4 rfl) (.cons (F 5 c5 rfl) .nil)),
  .cons (F 6 c6 rfl) (.cons (F 7 c7 rfl) (.cons (F 8 c8 rfl) .nil)),.cons (F 9 c9 rfl) (.cons (F 10 c10 rfl) (.cons (F 11 c11 rfl) .nil)),by simp,?_,?_,?_,h2⟩,q1,q7⟩
 .exact(by decide:∀j,j<12->([0==j,1==j,2==j]++[3==j,4==j,5==j]++[6==j,7==j,8==j]++[9==j,10==j,11==j]).count true=1) j hj
 .exact(by decide:∀j,j<12->([0==j,1==j,2==j]++[3==j,4==j,5==j]++[6==j,7==j,8==j]++[9==j,10==j,11==j])[j]? =some true) j hj
 .exact λ m hm=>(by decide:∀j,j<12->∀m,m<j->([0==j,1==j,2==j]++[3==j,4==j,5==j]++[6==j,7==j,8==j]++[9==j,10==j,11==j])[m]? =some false) j hj m hm
def uw{scope sc:Scope}(h:∀y∈scope.names,y.2= .free->sc.names.lookup y.1=some .cell\/sc.names.lookup y.1=some .free):∀y∈scope.names,y.2= .free->sc.names.lookup y.1=some .cell\/sc.names.lookup y.1=some .free:=h
def aAS{K:zAA}{few:Addr}{cs:List Addr}(h:aB3 K few cs=true){i j:Nat}{C c:Addr}(hj:cs[j]? =some C)(hi:cs[i]? =some c):zBt K (.ref C) (.ref c)=some (i==j):=by
 have h3:=zBE.mp h j (zBb.mpr (zAK.mp hj).1);simp only[hj,zAQ]at h3;have h6:=zBE.mp h3.2 i (zBb.mpr (zAK.mp hi).1);simp only[hi]at h6;exact of_decide_eq_true h6
def aHH{K:zAA}{few:Addr}{cs:List Addr}(h:aB3 K few cs=true){i j:Nat}{C:Addr}(hj:cs[j]? =some C)(hi:cs[i]? =some C):i=j:=by
 have a:=aAS h hj hi;have b:=aAS h hj hj;rw[a]at b;have e:=zAn b;rw[beq_self_eq_true]at e;exact zDY e
theorem um{C:Addr}{w:Str}:∀{cs:List Addr} {ws:List Str} {j:Nat},(∀i:Nat,cs[i]? =some C->i=j)->cs[j]? =some C->ws[j]? =some w->(cs.zip ws).lookup C=some w
 |[],_,_,_,h,_=>by simp at h
 |_::_,[],_,_,_,h=>by simp at h
 |c::cs,x::ws,j,u,h1,h2=>by
  rw[zBV,zBA];by_cases e:C==c
  .have e0:0=j:=u 0 (by rw[zDY e];rfl)
   subst e0;simp only[e];simpa using h2
  .simp only[e]
   cases j with
   |zero=>
    have e1:c=C:=by simpa using h1
    rw[e1]at e;simp at e
   |succ j=>exact um (j:=j) (λ i hi=>zGq (u (i+1) hi)) h1 h2
def aJ9{K:zAA}{few:Addr}{cs:List Addr}{ws:List Str}(h:aB3 K few cs=true){j:Nat}{C:Addr}{w:Str}(h1:cs[j]? =some C)(h2:ws[j]? =some w):(cs.zip ws).lookup C=some w:=um (λ i hi=>aHH h h1 hi) h1 h2
end L2
namespace VL
open PySem PySem.Spec PyProof.Rows L2
def aJ8{K:zAA}{mg:Str->Option Value}{few c0 c1 c2 c3 c4 c5 c6 c7 c8 c9 c10 c11:Addr}{ws:List Str}{ns:List Str}(h:aB3 K few [c0,c1,c2,c3,c4,c5,c6,c7,c8,c9,c10,c11]=true)
  (hl:ns.map (VL.aZ mg)=[c0,c1,c2,c3,c4,c5,c6,c7,c8,c9,c10,c11]):∀c w,(ns.zip ws).lookup c=some w->([c0,c1,c2,c3,c4,c5,c6,c7,c8,c9,c10,c11].zip ws).lookup (VL.aZ mg c)=some w:=λ c w e=>by
 have go:∀(ns:List Str) (ws:List Str),(ns.zip ws).lookup c=some w->∃j:Nat,ns[j]? =some c/\ws[j]? =some w:=by
  intro ns;induction ns with
  |nil=>intro ws h;cases h
  |cons x ns ih=>
   intro ws h;cases ws with
   |nil=>cases h
   |cons y ws=>
    rw[zBV,zBA]at h;by_cases e:c==x
    .simp only[e]at h
     cases h;exact⟨0,by rw[zDY e];rfl,rfl⟩
    .simp only[e]at h
     obtain⟨j,h1,h2⟩:=ih ws h;exact⟨j+1,h1,h2⟩
 obtain⟨j,h1,h2⟩:=go ns ws e;refine aJ9 h (j:=j) ?_ h2;rw[<-hl,zAa,h1];rfl
theorem ug:∀a:List Int,HT.lexLt a a=false
 |[]=>rfl
 |x::a=>by rw[HT.ig,if_pos rfl];exact ug a
theorem pQ:∀a b c:List Int,HT.lexLt a b=true->HT.lexLt b c=true->HT.lexLt a c=true
 |[],[],c,h,_=>by cases h
 |[],_::_,[],_,h=>by cases h
 |[],_::_,_::_,_,_=>rfl
 |_::_,[],_,h,_=>by cases h
 |_::_,_::_,[],_,h=>by cases h
 |x::a,y::b,z::c,h1,h2=>by
  rw[HT.ig]at h1 h2 ⊢;by_cases e1:x=y
  .subst e1
   rw[if_pos rfl]at h1;by_cases e2:x=z
   .rw[if_pos e2]at h2 ⊢
    exact pQ a b c h1 h2
   .rw[if_neg e2]at h2 ⊢
    exact h2
  .rw[if_neg e1]at h1
   simp only[decide_eq_true_eq]at h1;by_cases e2:y=z
   .subst e2
    rw[if_neg e1];simpa using h1
   .rw[if_neg e2]at h2
    simp only[decide_eq_true_eq]at h2;rw[if_neg (by lia)];simp only[decide_eq_true_eq];lia
theorem uf:∀a b:List Int,HT.lexLt a b=false->HT.lexLt b a=false->a=b
 |[],[],_,_=>rfl
 |[],_::_,h,_=>by cases h
 |_::_,[],_,h=>by cases h
 |x::a,y::b,h1,h2=>by
  rw[HT.ig]at h1 h2;by_cases e:x=y
  .subst e
   rw[if_pos rfl]at h1 h2;rw[uf a b h1 h2]
  .rw[if_neg e]at h1
   rw[if_neg λ q=>e q.symm]at h2;simp only[decide_eq_false_iff_not]at h1 h2;lia
def aE6(a b c:List Int)(h:HT.lexLt a c=true):HT.lexLt a b=true\/HT.lexLt b c=true:=by
 cases e1:HT.lexLt a b with
 |true=>exact .inl rfl
 |false=>
  right;cases e2:HT.lexLt b a with
  |true=>exact pQ b a c e2 h
  |false=>rw[<-uf a b e1 e2];exact h
def aIw:zCF:=⟨List Int,HT.lexLt,ug,pQ,aE6,uf⟩
inductive bN(h:Heap):List Value->List (List Int)->Prop where
 |nil:bN h [] []
 |cons {x:Addr} {o:Obj} {xs:Array Value} {k:Nat} {ns:List Int} {vs:List Value} {nss:List (List Int)} (ho:h.get? x=some o) (hc:o.cls= .type "tuple") (hd:o.data= .seq xs k) (hi:zBZ xs.toList ns) (hne:ns≠[]) (r:bN h vs nss):bN h (.ref x::vs) (ns::nss)
theorem bN.mono(k:∀x o,h.get? x=some o->o.cls= .type "tuple"->h'.get? x=some o):∀{vs:List Value} {nss:List (List Int)},bN h vs nss->bN h' vs nss
 |_,_,.nil=>.nil
 |_,_,.cons ho hc hd hi hne r=>.cons (k _ _ ho hc) hc hd hi hne (bN.mono k r)
theorem bN.at:∀{vs:List Value} {nss:List (List Int)} {i:Nat},bN h vs nss->i<vs.length->∃x o xs k,vs.getD i zEg= .ref x/\h.get? x=some o/\o.cls= .type "tuple"/\o.data= .seq xs k/\zBZ xs.toList (nss.getD i [])/\nss.getD i []≠[]
 |_,_,_,.nil,hi=>by simp at hi
 |_,_,0,.cons ho hc hd hi hne _,_=>⟨_,_,_,_,rfl,ho,hc,hd,hi,hne⟩
 |_,_,i+1,.cons _ _ _ _ _ r,hi=>by
  obtain⟨x,o,xs,k,q⟩:=bN.at (i:=i) r (by simpa using hi);exact⟨x,o,xs,k,by simpa using q⟩
theorem bN.firsts:∀{vs:List Value} {nss:List (List Int)},bN h vs nss->∃fs,PySem.W.KatTups h vs fs/\fs.length=vs.length/\∀f∈fs,∃n t,f=zFG n t
 |_,_,.nil=>⟨[],.nil,rfl,λ f hf=>by simp at hf⟩
 |_,_,.cons (xs:=xs) ho hc hd hi hne r=>by
  obtain⟨fs,h1,h2,h3⟩:=bN.firsts r;obtain⟨l,rfl⟩:∃l:List Value,xs=l.toArray:=⟨xs.toList,by simp⟩
  rw[show l.toArray.toList=l by simp]at hi;cases hi with
  |nil=>exact absurd rfl hne
  |cons n t q=>
   rename_i l' ns';refine⟨.int n t::fs,.cons ho hc hd (by simp) h1,by simp[h2],λ f hf=>?_⟩;rcases zAT.mp hf with rfl|hf
   .exact⟨n,t,rfl⟩
   .exact h3 f hf
section
variable{prog:zAY}{w:World}{A:zAd}{E:Value->zAD->Prop}{s:zAD}
def aAG:∀{xs ys:List Value} {ns ms:List Int} (i:Nat),zBZ xs ns->zBZ ys ms->fin=decide (xs.length<ys.length)->Q (HT.lexLt ns ms) s->PySem.W.KatLex prog w A b fin Q (xs.zip ys) i s:=by
 intro xs ys ns ms i hx;induction hx generalizing ys ms i with
 |nil=>intro hy hf q;cases hy<;>(subst hf;exact q)
 |@cons x t xs ns r ih=>
  intro hy hf q;cases hy with
  |nil=>subst hf;exact q
  |@cons y u ys ms r'=>?_
  rw[zBV];refine PySem.W.kat_cons (wpAny_eqBool_int ?_);rw[HT.ig]at q;by_cases e:x=y
  .rw[if_pos e]at q
   rw[show(x==y)=true by simpa using e];exact PySem.W.kat_yes (ih (i+1) r' (by rw[hf];simp) q)
  .rw[if_neg e]at q
   rw[show(x==y)=false by simpa using e];refine PySem.W.kat_no ?_;cases hb:(b&&i==0)with
   |true=>exact oneLt_int q
   |false=>exact PySem.W.kat_one _ _ (zFO q)
def aBO(hx:s.heap.get? x=some ox)(dx:ox.data= .seq xs n)(hy:s.heap.get? y=some oy)(dy:oy.data= .seq ys k)(hi:zBZ xs.toList ns)(hj:zBZ ys.toList ms)
  (q:Q (HT.lexLt ns ms) s):wpAny (model prog w) A (keyLt' (tuples' b) (.ref x) (.ref y)) Q E s:=
 PySem.W.kat_lt hx dx hy dy (aAG 0 hi hj (by simp) q)
end
def Ris(xs:Array Nat):Prop:=∀i j,i<j->j<xs.size->xs.getD i 0<xs.getD j 0
structure TbOk(t:zFh)(n:Nat):Prop where
 dum:t.dummies=#[]
 siz:t.place.size=n
 ris:Ris t.place
 top:∀i,i<n->t.place.getD i 0<=t.mask
 msk:t.mask=7/\n<5\/t.mask=31/\n<19\/t.mask=127/\n<77
 pla:t.plain=true
structure TbPut(t:zFh)(n:Nat):Prop where
 dum:t.dummies=#[]
 siz:t.place.size=n
 ris:Ris t.place
 top:∀i,i<n->t.place.getD i 0<=t.mask
 msk:t.mask=7/\n<=5\/t.mask=31/\n<=19\/t.mask=127/\n<77
 pla:t.plain=true
abbrev eV(es:Array (Int×Value))(ep:Nat)(t:zFh):Obj:={cls:=.type "set",dict:=none,data:=.set es ep t}
structure TupAt(h:Heap)(x:Addr)(ns:List Int):Prop where
 ex:∃o xs k,h.get? x=some o/\o.cls= .type "tuple"/\o.data= .seq xs k/\zBZ xs.toList ns
end VL
namespace PySem
section
variable{prog:zAY}{w:World}{A:zAd}{E:Value->zAD->Prop}{s:zAD}
def aDb(a:Value)(h:Q₁ (.ref s.heap.objs.size) {s with heap:=s.heap.push (VL.eV #[] 0 (.fresh 0 0 (!w.params.followText "set-order")))}):
  zBs (model prog w) A (.call (.builtin "set.__new__") ⟨[.type "set",a],[]⟩) (wants Q₁ E) s:=by
 refine zFp ?_;show wpAny _ A.in1 (zEL "set.__new__" ⟨[.type "set",a],[]⟩>>=λ _=>again (.builtin "set.__new__" ⟨[.type "set",a],[]⟩)) _ _ s;refine zAC (zFt (F.newCall_set_1 a) (zAI ⟨zEI zFa _,zDL PySem.F.entry_set_new ?_⟩));rw[zDR zFa _];unfold zFR.«set.__new__» zGk;have hsub:=sub_set_self;obtain⟨hp,g,d,tk,os⟩:=s;dsimp only;wp_walk;refine wpAny_askSetting (zAI ?_);dsimp only;simp only[newObj];exact zAC (wpAny_alloc (zAI (zAI h)))
set_option maxHeartbeats 3200000 in
def sS{l:Addr}{T:String}{oI:Obj}{Φ:Heap->Prop}{Q:Value->zAD->Prop}(hty:s.TypeIs (.ref l) T)(hsls:isSubtype (.type T) (.type "set")=pure false)(hslf:isSubtype (.type T) (.type "frozenset")=pure false)(hne:(zCk T==zCk "dict")=false)
  (hit:∀(zI:Heap) (A₁:zAd) (E₁:Value->zAD->Prop) (Q₁:Value->zAD->Prop),(∀b o,s.heap.get? b=some o->zI.get? b=some o)->Q₁ (.ref zI.objs.size) {s with heap:=zI.push oI}->wpAny (model prog w) A₁ (zGT (.ref l)) Q₁ E₁ {s with heap:=zI})
  (hrun:∀R:zEZ->zAD->Prop,(∀h' tk,Φ h'->(∀b o,s.heap.get? b=some o->h'.get? b=some o)->R (.ok (.ret .none)) {s with heap:=h',toks:=tk})->
   zBs (model prog w) A.in1.in1 (.builtin "set.update.loop" ⟨[.ref s.heap.objs.size,.ref (s.heap.push (VL.eV #[] 0 (.fresh 0 0 (!w.params.followText "set-order")))).objs.size],[]⟩) R {s with heap:=(s.heap.push (VL.eV #[] 0 (.fresh 0 0 (!w.params.followText "set-order")))).push oI})
  (h:∀h' tk,Φ h'->(∀b o,s.heap.get? b=some o->h'.get? b=some o)->Q (.ref s.heap.objs.size) {s with heap:=h',toks:=tk}):
  wpAny (model prog w) A (call (.type "set") [.ref l]) Q E s:=by
 obtain⟨c,tl,hmro⟩:=zCr.mro;have hmade:=zCr.made;have hsub:=zCr.sub
 refine zF4 (zFp ?_);show wpAny _ _ (callAny (.type "set") _) _ _ _;refine zAI ⟨zGW _ (by decide+kernel),zDL PySem.F.entry_type_call ?_⟩;rw[Around.under_plain (weight_type_call_type "set" [.ref l] []) rfl];have h1:=zCr.notType;have h2:=zCr.canCreate
 have hct:=F.typeCall_set_1 (.ref l);repeat (any_goals (first|assumption|wp_step))
 generalize hled:(!w.params.followText "set-order")=led at hrun;refine zDB (aDb (.ref l) (E:=E) (Q₁:=λ obj zS=>obj= .ref s.heap.objs.size/\zS={s with heap:=s.heap.push (VL.eV #[] 0 (.fresh 0 0 led))}) ⟨rfl,by rw[hled]⟩) λ r zS hr=>?_
 cases r with
 |error e=>exact hr
 |ok fl=>
  cases fl with
  |ret obj=>
   obtain⟨rfl,rfl⟩:=hr;have hS:(s.heap.push (VL.eV #[] 0 (.fresh 0 0 led))).get? s.heap.objs.size=some (VL.eV #[] 0 (.fresh 0 0 led)):=zA3 _ rfl;have hT:Shared.TypeIs {s with heap:=s.heap.push (VL.eV #[] 0 (.fresh 0 0 led))} (.ref s.heap.objs.size) "set":=⟨_,hS,rfl⟩;have hli:=zCr.init.lookup;have hbi:=zCr.init.bind (.ref s.heap.objs.size)
   repeat (any_goals (first|assumption|wp_step))
   refine zDB (zD2 (R:=wants (λ r z0=>r= .none/\∃h' tk,z0={s with heap:=h',toks:=tk}/\Φ h'/\(∀b o,s.heap.get? b=some o->h'.get? b=some o)) E) zCr.init.plain F.entry_set_init (check_set_init_1 hT ?_)) λ r₂ z0 hr₂=>?_
   .obtain⟨ol,hol,hcl⟩:=hty
    obtain⟨ocls,odict,odata,oslots⟩:=ol;simp only at hcl;subst hcl;have hol':(s.heap.push (VL.eV #[] 0 (.fresh 0 0 led))).get? l=some {cls:=.type T,dict:=odict,data:=odata,slots:=oslots}:=zAE _ hol;unfold zFR.«set.__init__» noKeywords zGl;generalize hPI:zGT=PI;wp_walk;subst hPI;refine hit _ _ _ _ (λ b o e=>zAE _ e) (zAC (wpAny_runValue (hrun _ λ h' tk g1 g2=>?_)));show wpAny _ _ _ _ _ _;refine zAI ?_;show wpAny _ _ (ret zEg) _ _ _;exact zAI ⟨rfl,h',tk,rfl,g1,g2⟩
   .cases r₂ with
    |error e=>exact hr₂
    |ok fl₂=>
     cases fl₂ with
     |ret r=>
      obtain⟨rfl,h',tk,rfl,g1,g2⟩:=hr₂
      repeat (any_goals (first|assumption|wp_step))
      exact h _ _ g1 g2
     |_=>exact hr₂.elim
  |_=>exact hr.elim
end
end PySem
namespace VL
open PySem PySem.Spec PyProof.Rows L2
def qP(h:Heap)(p:Value×List Int):Prop:=∃x o xs k,p.1= .ref x/\h.get? x=some o/\o.cls= .type "tuple"/\o.data= .seq xs k/\zBZ xs.toList p.2/\p.2≠[]
theorem bN.all:∀{vs:List Value} {nss:List (List Int)},bN h vs nss->∀p∈vs.zip nss,qP h p
 |_,_,.nil,p,hp=>by simp at hp
 |_,_,.cons ho hc hd hi hne r,p,hp=>by
  rw[zBV]at hp;rcases zAT.mp hp with e|hp
  .subst e;exact⟨_,_,_,_,rfl,ho,hc,hd,hi,hne⟩
  .exact r.all p hp
theorem aBc:∀{zs:List (Value×List Int)},(∀p∈zs,qP h p)->bN h (zs.map (·.1)) (zs.map (·.2))
 |[],_=>.nil
 |p::zs,hz=>by
  obtain⟨x,o,xs,k,e1,e2,e3,e4,e5,e6⟩:=hz p zAN;rw[zA0,zA0,e1];exact .cons e2 e3 e4 e5 e6 (aBc λ q hq=>hz q (zAX _ hq))
def yQ(h:l.Perm m'):∀{m:List α},m'=m.map f->∃m2:List α,m2.Perm m/\l=m2.map f:=by
 induction h with
 |nil=>intro m e;exact⟨m,zBN _,e⟩
 |cons x p ih=>
  intro m e;cases m with
  |nil=>cases e
  |cons a m=>
   rw[zA0]at e;injection e with e1 e2
   obtain⟨m2,q1,q2⟩:=ih e2;exact⟨a::m2,q1.cons a,by rw[zA0,q2,e1]⟩
 |swap x y l=>
  intro m e;cases m with
  |nil=>cases e
  |cons a m=>
   cases m with
   |nil=>rw[zA0]at e;injection e with _ e2;cases e2
   |cons b m=>
    rw[zA0,zA0]at e;injection e with e1 e2
    injection e2 with e2 e3
    exact⟨b::a::m,zGO _ _ _,by rw[zA0,zA0,e1,e2,e3]⟩
 |trans p q ih1 ih2=>
  intro m e;obtain⟨m2,a1,a2⟩:=ih2 e;obtain⟨m3,b1,b2⟩:=ih1 a2;exact⟨m3,b1.trans a1,b2⟩
def lL(l:List (List Int)):Prop:=l.Pairwise λ a b=>HT.lexLt b a=false
section
variable{prog:zAY}{w:World}{A:zAd}{E:Value->zAD->Prop}{s:zAD}
def xr(h:wpAny (model prog w) A.in1 (collect v) (λ vs s'=>wpAny (model prog w) A.in1 (zG5 vs>>=λ l=>zE1 [l] (call (.builtin "list.sort") [l])>>=λ _=>ret l) (λ fin s'=>∃r,fin= .done (.ret r)/\Q r s') E s') E s):
  wpAny (model prog w) A (call (.builtin "sorted") [v]) Q E s:=by
 refine Calls.call_function_entry kind_sorted plain_sorted entry_sorted (args_sorted1 _) ?_;unfold zFR.«sorted»;refine zAC (m:=checkCount "sorted" 1 1 _) (zAI (zAC ?_));exact h
end
inductive fL(K:zAA)(H:Hp):List V->List (List Int)->Prop where
 |nil:fL K H [] []
 |cons {a:Addr} {ns:List Int} {vs:List V} {nss:List (List Int)} (h:SqT K H a (ns.map V.int)) (hne:ns≠[]) (r:fL K H vs nss):fL K H (.ref a::vs) (ns::nss)
def ql:V->Value
 | .ref a=>.ref a
 |_=>.none
def fL.vals{K:zAA}:∀{vs:List V} {nss:List (List Int)} {us:List Value},fL K H vs nss->Vals vs us->us=vs.map ql:=by
 intro vs nss us t v;induction v generalizing nss with
 |nil=>rfl
 |cons q s ih=>
  cases t with
  |cons _ _ r=>
   cases q;rw[zA0,ih r];rfl
theorem fL.len{K:zAA}:∀{vs:List V} {nss:List (List Int)},fL K H vs nss->vs.length=nss.length
 |_,_,.nil=>rfl
 |_,_,.cons _ _ r=>by rw[zA7,zA7,r.len]
theorem fL.refs{K:zAA}:∀{vs:List V} {nss:List (List Int)},fL K H vs nss->∀v∈vs,RelV v (ql v)
 |_,_,.nil,v,hv=>by simp at hv
 |_,_,.cons _ _ r,v,hv=>by
  rcases zAT.mp hv with e|hv
  .subst e;exact rfl
  .exact r.refs v hv
theorem fL.at(I:Inv X pins Z H s):∀{vs:List V} {nss:List (List Int)},fL X.K H vs nss->bN s.heap (vs.map ql) nss
 |_,_,.nil=>.nil
 |_,_,.cons h hne r=>by
  obtain⟨its,rv,⟨o,ho,hc,n,hd⟩,_⟩:=I.tuple h;exact .cons ho hc hd (by simpa using intsAre_of rv) hne (r.at I)
theorem wC:∀{vs:List V},(∀v∈vs,RelV v (ql v))->Vals vs (vs.map ql)
 |[],_=>.nil
 |v::vs,h=>.cons (h v zAN) (wC λ u hu=>h u (zAX _ hu))
section
def aF1(H:Hp)(vs:List V)(nss:List (List Int))(Q:VK):Prop:=∀zs:List (V×List Int),zs.Perm (vs.zip nss)->lL (zs.map (·.2))->New H (.lst (zs.map (·.1))) Q
end
def aCm(a:List Int):List (List Int)->List (List Int)
 |[]=>[a]
 |b::l=>if HT.lexLt b a then b::aCm a l else a::b::l
def j6:List (List Int)->List (List Int)
 |[]=>[]
 |a::l=>aCm a (j6 l)
theorem qy(a:List Int):∀l,(aCm a l).Perm (a::l)
 |[]=>zBN _
 |b::l=>by
  unfold aCm;split
  .exact((qy a l).cons b).trans (zGO _ _ _)
  .exact zBN _
theorem jt:∀l,(j6 l).Perm l
 |[]=>zBN _
 |a::l=>(qy a _).trans ((jt l).cons a)
def aCC(h:HT.lexLt a b=true):HT.lexLt b a=false:=by
 cases e:HT.lexLt b a with
 |false=>rfl
 |true=>have:=pQ a b a h e;rw[ug]at this;cases this
def aE7(h1:HT.lexLt b a=false)(h2:HT.lexLt c b=false):HT.lexLt c a=false:=by
 cases e:HT.lexLt c a with
 |false=>rfl
 |true=>
  rcases aE6 c b a e with z|z
  .rw[h2]at z;cases z
  .rw[h1]at z;cases z
theorem uz(a:List Int):∀l,lL l->lL (aCm a l)
 |[],_=>zAh.mpr ⟨λ _ h=>by simp at h,.nil⟩
 |b::l,h=>by
  obtain⟨h1,h2⟩:=zAh.mp h;unfold aCm;cases e:HT.lexLt b a with
  |true=>
   rw[if_pos rfl];refine zAh.mpr ⟨λ x hx=>?_,uz a l h2⟩;rcases zAT.mp ((qy a l).mem_iff.mp hx)with q|q
   .subst q;exact aCC e
   .exact h1 x q
  |false=>
   rw[if_neg (by simp)];refine zAh.mpr ⟨λ x hx=>?_,h⟩;rcases zAT.mp hx with q|q
   .subst q;exact e
   .exact aE7 e (h1 x q)
theorem lW:∀l,lL (j6 l)
 |[]=>.nil
 |a::l=>uz a _ (lW l)
theorem wM:∀{a b:List (List Int)},a.Perm b->lL a->lL b->a=b
 |[],b,p,_,_=>p.nil_eq
 |x::a,b,p,h1,h2=>by
  cases b with
  |nil=>exact absurd p.length_eq (by simp)
  |cons y b=>
   have hxy:x=y:=by
    obtain⟨q1,_⟩:=zAh.mp h1;obtain⟨q2,_⟩:=zAh.mp h2;have m1:x∈y::b:=p.mem_iff.mp zAN;have m2:y∈x::a:=p.mem_iff.mpr zAN;rcases zAT.mp m1 with e|m1
    .exact e
    .rcases zAT.mp m2 with e|m2
     .exact e.symm
     .exact uf _ _ (q2 x m1) (q1 y m2)
   subst hxy;rw[wM (List.Perm.cons_inv p) (zAh.mp h1).2 (zAh.mp h2).2]
abbrev tupI(ns:List Int):D:=.tup (ns.map .int)
def nq:List D->Option (List (List Int))
 |[]=>some []
 | .tup l::r=>match intsOf l,nq r with
  |some (n::ns),some nss=>some ((n::ns)::nss)
  |_,_=>none
 |_=>none
theorem lR:∀{l:List D} {nss:List (List Int)},nq l=some nss->l=nss.map tupI/\∀ns∈nss,ns≠[]
 |[],nss,h=>by cases h;exact⟨rfl,λ ns h=>by simp at h⟩
 | .tup l::r,nss,h=>by
  unfold nq at h;split at h
  .rename_i n ns nss' e1 e2
   cases h;obtain⟨q1,q2⟩:=lR e2;rw[gZ e1,q1];refine⟨rfl,λ ms hm=>?_⟩;rcases zAT.mp hm with e|hm
   .subst e;simp
   .exact q2 ms hm
  .cases h
 | .non::_,_,h=>by cases h
 | .int _::_,_,h=>by cases h
 | .bl _::_,_,h=>by cases h
 | .str _::_,_,h=>by cases h
 | .lst _::_,_,h=>by cases h
 | .dct _ _::_,_,h=>by cases h
 | .set _::_,_,h=>by cases h
 | .scr _::_,_,h=>by cases h
theorem nj:∀{nss:List (List Int)},(∀ns∈nss,ns≠[])->nq (nss.map tupI)=some nss
 |[],_=>rfl
 |[]::nss,h=>absurd rfl (h [] zAN)
 |(n::ns)::nss,h=>by
  have ih:=nj λ ms hm=>h ms (zAX _ hm)
  rw[zA0];unfold nq;rw[ih,show intsOf (zHO D.int (n::ns))=some (n::ns)from il _]
theorem tU{K:zAA}:∀{xs:List V} {nss:List (List Int)},Rps K A H xs (nss.map tupI)->(∀ns∈nss,ns≠[])->fL K H xs nss
 |_,[],.nil,_=>.nil
 |_,ns::nss,.cons h r,hne=>by
  cases h with
  |tup h r'=>
   have e:=r'.ints_of;subst e;exact .cons h (hne ns zAN) (tU r λ ms hm=>hne ms (zAX _ hm))
theorem aDf{K:zAA}:∀{zs:List (V×List Int)},(∀p∈zs,∃a,p.1= .ref a/\SqT K H a (p.2.map V.int))->Rps K A H (zs.map (·.1)) ((zs.map (·.2)).map tupI)
 |[],_=>.nil
 |p::zs,h=>by
  obtain⟨a,e1,e2⟩:=h p zAN;rw[zA0,zA0,zA0,e1];exact .cons (.tup e2 .ints) (aDf λ q hq=>h q (zAX _ hq))
theorem fL.all{K:zAA}:∀{vs:List V} {nss:List (List Int)},fL K H vs nss->∀p∈vs.zip nss,∃a,p.1= .ref a/\SqT K H a (p.2.map V.int)
 |_,_,.nil,p,hp=>by simp at hp
 |_,_,.cons h _ r,p,hp=>by
  rw[zBV]at hp;rcases zAT.mp hp with e|hp
  .subst e;exact⟨_,rfl,h⟩
  .exact r.all p hp
def aD3{K:zAA}(ht:fL K H vs nss)(q:∀v H',aO H H'->Rp K (λ p=>H p=none) H' v (.lst ((j6 nss).map tupI))->Q v H'):aF1 H vs nss Q:=by
 intro zs hz hr p H' s hp hn;have e:zs.map (·.2)=j6 nss:=wM (((hz.map (·.2)).trans (by rw[List.map_snd_zip (by rw[ht.len];exact zAP _)])).trans (jt nss).symm) hr (lW nss);refine q _ H' s (.lst hp hn ?_);rw[<-e];exact aDf λ p hp=>by
  obtain⟨a,e1,e2⟩:=ht.all p (hz.mem_iff.mp hp);exact⟨a,e1,s.sqt e2⟩
def aF7(K:zAA)(r:List V->Hp->VK->Prop)(fd:List D->Rs D):Prop:=∀(A:Addr->Prop) xs ds H (Q:VK) z,Rps K A H xs ds->fd ds= .ok z->(∀v H',aO H H'->Rp K (λ p=>H p=none) H' v z->Q v H')->r xs H Q
def aBg{K:zAA}(hs:aF7 K r fd)(h1:aHN K G m ta g):gr K G (some []) (tCB r ta) (opA fd g):=by
 intro U Z H ρ lab Q R W;refine h1 U Z H ρ lab _ R (W.bd.imp λ d _ w x H1 s1 r1=>?_);obtain⟨z,ez,w⟩:=w.okD;exact hs (fpM m lab H) x d H1 Q z r1 ez λ v H' s r=>w v H' (s1.trans s) (r.wk λ p o _ q=>.inl (s1.free q))
def aCp:Bool->Keyed->Array Keyed->Nat->Nat->Nat->StateT SortSt Sem (Option Nat):=sortPriv%PySem.Builtin.gallop
def aFV(left:Bool)(key:Keyed)(arr:Array Keyed)(i:Nat):StateT zAy Sem (Option Bool):=elem' arr i>>=λ x=>if left=true then lt' x key else lt' key x>>=λ b=>pure (b.map (!·))
section
variable{prog:zAY}{w:World}{A:zAd}{E:Value->zAD->Prop}{s:zAD}
def zM{P:Nat->Bool}{ask:Nat->StateT zAy Sem (Option Bool)}{st:zAy}{n lo hi:Nat}{Q:Option (Option Nat)×Nat×Nat->zAy->Prop}(hb:∀i,i<n->∀R:Option Bool->zAy->Prop,R (some (P i)) st->wpS (model prog w) A E s (ask i) R st)
  (mono:∀i j,i<=j->j<n->P j=true->P i=true)(hle:lo<=hi)(hhi:hi<=n)(h1:∀i,i<lo->P i=true)(h2:∀i,hi<=i->i<n->P i=false)
  (h:∀k,k<=n->(∀i,i<k->P i=true)->(∀i,k<=i->i<n->P i=false)->Q (none,k,k) st):
  wpS (model prog w) A E s (forIn [0:n] ((none,lo,hi):Option (Option Nat)×Nat×Nat) λ _ c=>if c.2.1 ≥ c.2.2 then pure (zGM (none,c.2.1,c.2.2))else ask (c.2.1+(c.2.2-c.2.1) / 2)>>=λ x=>match x with
   |some more=>if more=true then pure (zB1 (none,c.2.1+(c.2.2-c.2.1) / 2+1,c.2.2))else pure (zB1 (none,c.2.1,c.2.1+(c.2.2-c.2.1) / 2))
   |_=>pure (zGM (some none,c.2.1,c.2.2))) Q st:=by
 refine zB0 (I:=λ x c st'=>st'=st/\∃lo hi,c=(none,lo,hi)/\lo<=hi/\hi<=n/\hi-lo<=n-x/\(∀i,i<lo->P i=true)/\∀i,hi<=i->i<n->P i=false) ?_ ?_ ⟨rfl,lo,hi,rfl,hle,hhi,by lia,h1,h2⟩
 .rintro x c st' _ hx ⟨rfl,lo,hi,rfl,g1,g2,g3,g4,g5⟩
  dsimp only;by_cases hc:lo ≥ hi
  .rw[if_pos hc]
   have:lo=hi:=by lia
   subst this;exact zAZ (h lo g2 g4 g5)
  .rw[if_neg hc]
   have hm:lo+(hi-lo) / 2<hi:=by lia
   refine zAO (hb _ (by lia) _ ?_);dsimp only;cases hp:P (lo+(hi-lo) / 2)with
   |true=>
    rw[if_pos rfl];exact zAZ ⟨rfl,_,_,rfl,by lia,g2,by lia,λ i hi'=>mono i _ (by lia) (by lia) hp,g5⟩
   |false=>
    rw[if_neg zAG];refine zAZ ⟨rfl,_,_,rfl,by lia,by lia,by lia,g4,λ i k1 k2=>?_⟩;cases hq:P i with
    |false=>rfl
    |true=>rw[mono _ i k1 k2 hq]at hp;cases hp
 .rintro c st' ⟨rfl,lo,hi,rfl,g1,g2,g3,g4,g5⟩
  have:lo=hi:=by lia
  subst this;exact h lo g2 g4 g5
def aFc{P:Nat->Bool}{st:zAy}{left:Bool}{key:Keyed}{arr:Array Keyed}{base n hint:Nat}{Q:Option Nat->zAy->Prop}
  (hb:∀i,i<n->∀R:Option Bool->zAy->Prop,R (some (P i)) st->wpS (model prog w) A E s (aFV left key arr (base+i)) R st)
  (mono:∀i j,i<=j->j<n->P j=true->P i=true)(hh:hint<n)
  (h:∀k,k<=n->(∀i,i<k->P i=true)->(∀i,k<=i->i<n->P i=false)->Q (some k) st):wpS (model prog w) A E s (aCp left key arr base n hint) Q st:=by
 refine zAO (hb hint hh _ ?_);dsimp only;cases hp:P hint with
 |true=>
  rw[if_pos rfl];refine zAO (zCh (zB0 (I:=λ x c st'=>st'=st/\∃l o,c=(none,l,o)/\l<o/\x<o/\hint+l<n/\P (hint+l)=true)
   (Q:=λ c st'=>st'=st/\∃l o,c=(none,l,o)/\l<o/\hint+l<n/\P (hint+l)=true/\(hint+o<n->P (hint+o)=false)) ?_ ?_ ⟨rfl,0,1,rfl,by lia,by lia,by lia,hp⟩) ?_)
  .rintro x c st' _ hx ⟨rfl,l,o,rfl,g1,g2,g3,g4⟩
   dsimp only;by_cases hc:o ≥ n-hint
   .rw[if_pos hc]
    exact zAZ ⟨rfl,l,o,rfl,g1,g3,g4,λ z=>by lia⟩
   .rw[if_neg hc]
    refine zAO (hb (hint+o) (by lia) _ ?_);dsimp only;cases hq:P (hint+o)with
    |true=>
     rw[if_neg (by decide)];exact zAZ ⟨rfl,o,2*o+1,rfl,by lia,by lia,by lia,hq⟩
    |false=>
     rw[if_pos (by decide)];exact zAZ ⟨rfl,l,o,rfl,g1,g3,g4,λ _=>hq⟩
  .rintro c st' ⟨rfl,l,o,rfl,g1,g2,g3,g4⟩
   exact⟨rfl,l,o,rfl,g1,g3,g4,λ z=>by lia⟩
  .rintro c st' ⟨rfl,l,o,rfl,g1,g3,g4,g5⟩
   dsimp only;refine zAO (zM (ask:=λ i=>aFV left key arr (base+i)) (n:=n) hb mono (by lia) (by lia) (λ i hi=>mono i _ (by lia) g3 g4) (λ i k1 k2=>?_) λ k k1 k2 k3=>zAZ (h k k1 k2 k3));by_cases hc:hint+o<n
   .have:=g5 hc
    cases hq:P i with
    |false=>rfl
    |true=>rw[mono _ i (by lia) k2 hq]at this;cases this
   .lia
 |false=>
  rw[if_neg zAG];refine zAO (zCh (zB0 (I:=λ x c st'=>st'=st/\∃l o,c=(none,l,o)/\l<o/\x<o/\l<=hint/\P (hint-l)=false)
   (Q:=λ c st'=>st'=st/\∃l o,c=(none,l,o)/\l<o/\l<=hint/\P (hint-l)=false/\(o<=hint->P (hint-o)=true)) ?_ ?_ ⟨rfl,0,1,rfl,by lia,by lia,by lia,hp⟩) ?_)
  .rintro x c st' _ hx ⟨rfl,l,o,rfl,g1,g2,g3,g4⟩
   dsimp only;by_cases hc:o ≥ hint+1
   .rw[if_pos hc]
    exact zAZ ⟨rfl,l,o,rfl,g1,g3,g4,λ z=>by lia⟩
   .rw[if_neg hc]
    refine zAO (hb (hint-o) (by lia) _ ?_);dsimp only;cases hq:P (hint-o)with
    |true=>
     rw[if_pos rfl];exact zAZ ⟨rfl,l,o,rfl,g1,g3,g4,λ _=>hq⟩
    |false=>
     rw[if_neg zAG];exact zAZ ⟨rfl,o,2*o+1,rfl,by lia,by lia,by lia,hq⟩
  .rintro c st' ⟨rfl,l,o,rfl,g1,g2,g3,g4⟩
   exact⟨rfl,l,o,rfl,g1,g3,g4,λ z=>by lia⟩
  .rintro c st' ⟨rfl,l,o,rfl,g1,g3,g4,g5⟩
   dsimp only;refine zAO (zM (ask:=λ i=>aFV left key arr (base+i)) (n:=n) hb mono (by lia) (by lia) (λ i hi=>?_) (λ i k1 k2=>?_) λ k k1 k2 k3=>zAZ (h k k1 k2 k3))
   .by_cases hc:o<=hint
    .exact mono i _ (by lia) (by lia) (g5 hc)
    .lia
   .cases hq:P i with
    |false=>rfl
    |true=>rw[mono _ i (by lia) k2 hq]at g4;cases g4
end
structure Mg{β:Type}(r:β->β->Prop)(T out ra rb:List β):Prop where
 pm:(out++(ra++rb)).Perm T
 so:out.Pairwise r
 lo:∀x∈out,∀y∈ra++rb,r x y
 sa:ra.Pairwise r
 sb:rb.Pairwise r
section
variable{β:Type}{r:β->β->Prop}{T out ra rb L:List β}
def Mg.ta(m:Mg r T out (L++ra) rb)(h:∀x∈L,∀y∈rb,r x y):Mg r T (out++L) ra rb:=by
 obtain⟨s1,s2,s3⟩:=zBC.mp m.sa;refine⟨by have:=m.pm;simp only[zAe]at this ⊢;exact this,zBC.mpr ⟨m.so,s1,λ x hx y hy=>m.lo x hx y (by simp[hy])⟩,λ x hx y hy=>?_,s2,m.sb⟩;rcases zAq.mp hx with hx|hx
 .exact m.lo x hx y (by rcases zAq.mp hy with h|h<;>simp[h])
 .rcases zAq.mp hy with hy|hy
  .exact s3 x hx y hy
  .exact h x hx y hy
def Mg.flip(m:Mg r T out ra rb):Mg r T out rb ra:=
 ⟨(List.perm_append_comm.append_left out).trans m.pm,m.so,λ x hx y hy=>m.lo x hx y (by rcases zAq.mp hy with h|h<;>simp[h]),m.sb,m.sa⟩
def Mg.tb(m:Mg r T out ra (L++rb))(h:∀x∈L,∀y∈ra,r x y):Mg r T (out++L) ra rb:=(m.flip.ta h).flip
def Mf(r:β->β->Prop)(T o:List β):Prop:=o.Perm T/\o.Pairwise r
def Mg.ea(m:Mg r T out ra []):Mf r T (out++ra):=by
 have:=m.pm
 rw[zA9]at this;exact⟨this,zBC.mpr ⟨m.so,m.sa,λ x hx y hy=>m.lo x hx y (by simp[hy])⟩⟩
def Mg.eb(m:Mg r T out [] rb):Mf r T (out++rb):=m.flip.ea
def Mg.el(m:Mg r T out [z] rb)(h:∀y∈rb,r y z):Mf r T (out++rb++[z]):=by
 have m2:Mg r T (out++rb) [z] []:=Mg.tb (L:=rb) (by rw[zA9];exact m) λ x hx y hy=>by rw[zAu.mp hy];exact h x hx
 have:=m2.ea
 exact this
end
structure Cm(prog:zAY)(w:World)(A:zAd)(s:zAD)(κ:zCx)(O:zCF)(kf:Keyed->O.α)(G:Keyed->Prop):Prop where
 lt:∀x y,G x->G y->∀C:Bool->zAD->Prop,C (O.blt (kf x) (kf y)) s->wpAny (model prog w) A (keyLt' κ x.1 y.1) C (λ _ _=>False) s
structure Eg(st st':zAy):Prop where
 k:zBf st'=zBf st
 a:arrOf st'=arrOf st
 p:zAp st'=zAp st
 f:zCM st'=zCM st
def Eg.refl(st:zAy):Eg st st:=⟨rfl,rfl,rfl,rfl⟩
theorem Eg.trans{st st' st'':zAy}(h:Eg st st')(k:Eg st' st''):Eg st st'':=⟨k.k.trans h.k,k.a.trans h.a,k.p.trans h.p,k.f.trans h.f⟩
def sgP:Nat->StateT SortSt Sem Unit:=sortPriv%PySem.Builtin.setMinGallop
section
variable{prog:zAY}{w:World}{A:zAd}{E:Value->zAD->Prop}{s:zAD}{κ:zCx}{O:zCF}{kf:Keyed->O.α}{G:Keyed->Prop}
def pA{st:zAy}{x y:Keyed}{Q:Option Bool->zAy->Prop}(c:Cm prog w A s κ O kf G)(hk:zBf st=κ)(gx:G x)(gy:G y)(h:Q (some (O.blt (kf x) (kf y))) st):wpS (model prog w) A E s (lt' x y) Q st:=by
 rw[lt'_eq];refine zAO (zDr ?_);rw[hk];refine zAO (zFK (wpAny_attempt ?_));refine zBF (c.lt x y gx gy (λ b s'=>s'=s/\b=O.blt (kf x) (kf y)) ⟨rfl,rfl⟩) (λ b s' e=>⟨e.1,?_⟩) λ _ _ e=>e.elim
 rw[e.2];exact zAZ h
def bh{arr:Array Keyed}{i:Nat}{x:Keyed}{st:zAy}{Q:Keyed->zAy->Prop}(h:arr[i]? =some x)(q:Q x st):wpS (model prog w) A E s (elem' arr i) Q st:=by
 rw[elem'_eq,h];exact zAZ q
def xX{g:Nat}{st:zAy}{Q:Unit->zAy->Prop}(q:∀st',Eg st st'->Q () st'):wpS (model prog w) A E s (sgP g) Q st:=zCg (q _ ⟨rfl,rfl,rfl,rfl⟩)
def aJ4(c:Cm prog w A s κ O kf G){left:Bool}{key x:Keyed}{arr:Array Keyed}{i:Nat}{st:zAy}{R:Option Bool->zAy->Prop}(hk:zBf st=κ)(gk:G key)(hx:arr[i]? =some x)(gx:G x)
  (h:R (some (if left=true then O.blt (kf x) (kf key)else !O.blt (kf key) (kf x))) st):wpS (model prog w) A E s (aFV left key arr i) R st:=by
 unfold aFV;refine zAO (bh hx ?_);cases left with
 |true=>rw[if_pos rfl]at h ⊢;exact pA c hk gx gk h
 |false=>
  rw[if_neg zAG]at h ⊢;exact zAO (pA c hk gk gx (zAZ h))
def j0(c:Cm prog w A s κ O kf G){left:Bool}{key:Keyed}{arr:Array Keyed}{base n hint:Nat}{st:zAy}{Q:Option Nat->zAy->Prop}(hk:zBf st=κ)(gk:G key)(L:List Keyed)(hL:∀i,i<n->arr[base+i]? =L[i]?)(hn:n=L.length)
  (gL:∀x∈L,G x)(sL:L.Pairwise λ x y=>O.kle (kf x) (kf y))(hh:hint<n)
  (h:∀k,k<=n->(∀x∈L.take k,(if left=true then O.klt (kf x) (kf key)else O.kle (kf x) (kf key)))->(∀x∈L.drop k,(if left=true then O.kle (kf key) (kf x)else O.klt (kf key) (kf x)))->Q (some k) st):
  wpS (model prog w) A E s (aCp left key arr base n hint) Q st:=by
 have hP:∀i (hi:i<n),arr[base+i]? =some (L[i]'(by lia)):=λ i hi=>by rw[hL i hi,zAB (by lia)]
 have sI:∀i j (hij:i<=j) (hj:j<n),O.kle (kf (L[i]'(by lia))) (kf (L[j]'(by lia))):=λ i j hij hj=>by
  by_cases e:i=j
  .subst e;exact zCm _
  .exact zB7.mp sL i j _ _ (by lia)
 refine aFc (P:=λ i=>if h:i<L.length then(if left=true then O.blt (kf L[i]) (kf key)else !O.blt (kf key) (kf L[i]))else false) (λ i hi R hR=>aJ4 c hk gk (hP i hi) (gL _ (zBg _)) ?_) (λ i j hij hj hp=>?_) hh λ k h1 h2 h3=>h k h1 (λ x hx=>?_) λ x hx=>?_
 .rw[dif_pos (by lia)]at hR
  exact hR
 .rw[dif_pos (by lia)]at hp ⊢
  have hs:=sI i j hij hj;cases left with
  |true=>rw[if_pos rfl]at hp ⊢;exact KeyOrd.klt_of_kle_of_klt hs hp
  |false=>
   rw[if_neg zAG]at hp ⊢;have h1:O.kle (kf (L[j]'(by lia))) (kf key):=by simpa[zGN]using hp
   have h2:=zAr hs h1;simpa[zGN]using h2
 .obtain⟨i,hi,e⟩:=zBW hx
  rw[zA4]at hi;rw[zB9]at e
  have:=h2 i (by lia)
  rw[dif_pos (by lia),e]at this;cases left with
  |true=>rw[if_pos rfl]at this ⊢;exact this
  |false=>rw[if_neg zAG]at this ⊢;simpa[zGN]using this
 .obtain⟨i,hi,e⟩:=zBW hx
  rw[zBI]at hi;rw[zEl]at e
  have:=h3 (k+i) (by lia) (by lia)
  rw[dif_pos (by lia),e]at this;cases left with
  |true=>rw[if_pos rfl]at this ⊢;exact this
  |false=>rw[if_neg zAG]at this ⊢;simpa[KeyOrd.klt]using this
end
def kY(a:Array Keyed)(i j:Nat):(a.extract i j).toList=(a.toList.drop i).take (j-i):=by rw[Array.toList_extract]
def cW(a:Array Keyed)(i:Nat):(a.extract i a.size).toList=a.toList.drop i:=by
 rw[kY,zBB (by rw[zBI,zAb];exact zAP _)]
def aHf(l:List Keyed)(i k:Nat):l.drop i=(l.drop i).take k++l.drop (i+k):=by
 rw[<-zEP,zAs]
def bZ{a:Array Keyed}{i:Nat}(h:i<a.size):a.toList.drop i=a[i]::a.toList.drop (i+1):=by
 rw[zBG (by simpa using h)];rfl
def du{a:Array Keyed}{i:Nat}(h:i+1=a.size):a.toList.drop i=[a[i]'(by lia)]:=by
 rw[bZ (by lia),zCB (by simp;lia)]
abbrev LS:=Option (Array Keyed)×Array Keyed×Nat×Nat×Nat×Nat×Nat
abbrev LM:=StateT zAy Sem (ForInStep LS)
def frA(a b out:Array Keyed)(ia ib mg ac bc:Nat):LM:=elem' a ia>>=λ x=>if (ia+1+1==a.size)=true then pure (.done (some (out.push x++b.extract ib b.size++a.extract (ia+1) a.size),out.push x,ia+1,ib,mg,ac,bc))
 else if (decide (ac<7)&&decide (bc<7))=true then pure (.done (none,out.push x,ia+1,ib,mg,ac,bc))else pure (.yield (none,out.push x,ia+1,ib,mg,ac,bc))
def frB(a b out:Array Keyed)(ia ib mg ac k:Nat):LM:=if k>0 then(if (ib+k==b.size)=true then pure (.done (some (out++b.extract ib (ib+k)++a.extract ia a.size++b.extract (ib+k) b.size),out++b.extract ib (ib+k),ia,ib+k,mg,ac,k))
 else frA a b (out++b.extract ib (ib+k)) ia (ib+k) mg ac k)else frA a b out ia ib mg ac k
def frC(a b out:Array Keyed)(ia ib mg ac bc:Nat):LM:=elem' a ia>>=λ x=>aCp true x b ib (b.size-ib) 0>>=λ r=>match r with
 |some k=>frB a b out ia ib mg ac k
 |_=>pure (.done (some (out++a.extract ia a.size++b.extract ib b.size),out,ia,ib,mg,ac,bc))
def frD(a b out:Array Keyed)(ia ib mg ac bc:Nat):LM:=elem' b ib>>=λ x=>if (ib+1==b.size)=true then pure (.done (some (out.push x++a.extract ia a.size++b.extract (ib+1) b.size),out.push x,ia,ib+1,mg,ac,bc))else frC a b (out.push x) ia (ib+1) mg ac bc
def frE(a b out:Array Keyed)(ia ib mg k bc:Nat):LM:=if k>0 then(if (ia+k+1==a.size)=true then pure (.done (some (out++a.extract ia (ia+k)++b.extract ib b.size++a.extract (ia+k) a.size),out++a.extract ia (ia+k),ia+k,ib,mg,k,bc))
 else if (ia+k==a.size)=true then pure (.done (some (out++a.extract ia (ia+k)++a.extract (ia+k) a.size++b.extract ib b.size),out++a.extract ia (ia+k),ia+k,ib,mg,k,bc))else frD a b (out++a.extract ia (ia+k)) (ia+k) ib mg k bc)else frD a b out ia ib mg k bc
def frF(a b out:Array Keyed)(ia ib mg ac bc:Nat):LM:=sgP mg>>=λ _=>elem' b ib>>=λ x=>aCp false x a ia (a.size-ia) 0>>=λ r=>match r with
 |some k=>frE a b out ia ib mg k bc
 |_=>pure (.done (some (out++a.extract ia a.size++b.extract ib b.size),out,ia,ib,mg,ac,bc))
section
variable{prog:zAY}{w:World}{A:zAd}{E:Value->zAD->Prop}{s:zAD}{κ:zCx}{O:zCF}{kf:Keyed->O.α}{G:Keyed->Prop}{T:List Keyed}{a b out:Array Keyed}{ia ib mg ac bc k m0:Nat}{st:zAy}{Q:ForInStep LS->zAy->Prop}
structure Ab(O:zCF)(kf:Keyed->O.α)(G:Keyed->Prop)(a b:Array Keyed):Prop where
 ga:∀x∈a.toList,G x
 gb:∀x∈b.toList,G x
 la:∀i (h:i+1=a.size),∀y∈b.toList,O.klt (kf y) (kf (a[i]'(by lia)))
abbrev rK(O:zCF)(kf:Keyed->O.α)(x y:Keyed):Prop:=O.kle (kf x) (kf y)
abbrev Ml(O:zCF)(kf:Keyed->O.α)(T:List Keyed)(a b out:Array Keyed)(ia ib:Nat):Prop:=Mg (rK O kf) T out.toList (a.toList.drop ia) (b.toList.drop ib)
structure Tu(O:zCF)(kf:Keyed->O.α)(T:List Keyed)(a b:Array Keyed)(m0:Nat)(st:zAy)(Q:ForInStep LS->zAy->Prop):Prop where
 ret:∀o out ia ib mg ac bc st',Eg st st'->Mf (rK O kf) T o.toList->Q (.done (some o,out,ia,ib,mg,ac,bc)) st'
 on:∀out ia ib mg ac bc st',Eg st st'->Ml O kf T a b out ia ib->ia+1<a.size->ib<b.size->m0<ia+ib->Q (.done (none,out,ia,ib,mg,ac,bc)) st'/\Q (.yield (none,out,ia,ib,mg,ac,bc)) st'
def Tu.eg{st1:zAy}(t:Tu O kf T a b m0 st Q)(h:Eg st st1):Tu O kf T a b m0 st1 Q:=
 ⟨λ o out ia ib mg ac bc st' e f=>t.ret o out ia ib mg ac bc st' (h.trans e) f,λ out ia ib mg ac bc st' e=>t.on out ia ib mg ac bc st' (h.trans e)⟩
def aFC(B:Ab O kf G a b)(t:Tu O kf T a b m0 st Q)(m:Ml O kf T a b out ia ib)(h1:ia+1<a.size)(h2:ib<b.size)(h3:m0<ia+1+ib)(hl:∀y∈b.toList.drop ib,O.kle (kf (a[ia]'(by lia))) (kf y)):
  wpS (model prog w) A E s (frA a b out ia ib mg ac bc) Q st:=by
 have m2:Ml O kf T a b (out.push (a[ia]'(by lia))) (ia+1) ib:=by
  unfold Ml at m ⊢;rw[bZ (by lia)]at m;rw[zB8];exact Mg.ta (L:=[a[ia]'(by lia)]) m λ x hx y hy=>by rw[zAu.mp hx];exact hl y hy
 unfold frA;refine zAO (bh (zAJ (by lia)) ?_);by_cases c1:ia+1+1=a.size
 .rw[if_pos (by simpa using c1)]
  refine zAZ (t.ret _ _ _ _ _ _ _ _ (Eg.refl st) ?_);rw[zAR,zAR,cW,cW,du c1];unfold Ml at m2;rw[du c1]at m2;exact m2.el λ y hy=>zAi (B.la _ c1 y (zBU hy))
 .rw[if_neg (by simpa using c1)]
  have:=t.on _ _ _ mg ac bc _ (Eg.refl st) m2 (by lia) h2 h3
  split
  .exact zAZ this.1
  .exact zAZ this.2
def aJW(B:Ab O kf G a b)(t:Tu O kf T a b m0 st Q)(m:Ml O kf T a b out ia ib)(h1:ia+1<a.size)(h2:ib<b.size)(h3:m0<ia+1+ib)(hk:k<=b.size-ib)(hl:∀y∈(b.toList.drop ib).take k,O.klt (kf y) (kf (a[ia]'(by lia))))(hr:∀y∈(b.toList.drop ib).drop k,O.kle (kf (a[ia]'(by lia))) (kf y)):
  wpS (model prog w) A E s (frB a b out ia ib mg ac k) Q st:=by
 unfold frB;rw[zEP]at hr;by_cases c0:k>0
 .rw[if_pos c0]
  have m2:Ml O kf T a b (out++b.extract ib (ib+k)) ia (ib+k):=by
   unfold Ml at m ⊢;rw[aHf b.toList ib k]at m;rw[zAR,kY,zBO];refine m.tb λ x hx y hy=>?_
   have hx1:=hl x hx;rw[bZ (by lia)]at hy;have sa:=m.sa;rw[bZ (by lia)]at sa;rcases zAT.mp hy with rfl|hy
   .exact zAi hx1
   .exact zAr (zAi hx1) ((zAh.mp sa).1 y hy)
  by_cases c1:ib+k=b.size
  .rw[if_pos (by simpa using c1)]
   refine zAZ (t.ret _ _ _ _ _ _ _ _ (Eg.refl st) ?_);unfold Ml at m2;have hz:b.toList.drop (ib+k)=[]:=zCB (by simp;lia);rw[hz]at m2;rw[zAR,zAR (ys:=a.extract ia a.size),cW,cW,hz,zA9];exact m2.ea
  .rw[if_neg (by simpa using c1)]
   exact aFC B t m2 h1 (by lia) (by lia) hr
 .rw[if_neg c0]
  have:k=0:=by lia
  subst this;exact aFC B t m h1 h2 h3 hr
def aJV(c:Cm prog w A s κ O kf G)(hκ:zBf st=κ)(B:Ab O kf G a b)(t:Tu O kf T a b m0 st Q)(m:Ml O kf T a b out ia ib)(h1:ia+1<a.size)(h2:ib<b.size)(h3:m0<ia+1+ib):
  wpS (model prog w) A E s (frC a b out ia ib mg ac bc) Q st:=by
 unfold frC;refine zAO (bh (zAJ (by lia)) ?_);refine zAO (j0 c hκ (B.ga _ (by simp)) (b.toList.drop ib) (λ i hi=>?_) (by simp) (λ x hx=>B.gb x (zBU hx)) m.sb (by lia) λ k k1 k2 k3=>?_)
 .rw[zCG,zAc]
 .simp only[if_true]at k2 k3
  exact aJW B t m h1 h2 h3 k1 k2 k3
def aFB(c:Cm prog w A s κ O kf G)(hκ:zBf st=κ)(B:Ab O kf G a b)(t:Tu O kf T a b m0 st Q)(m:Ml O kf T a b out ia ib)(h1:ia+1<a.size)(h2:ib<b.size)(h3:m0<=ia+1+ib)(hl:∀y∈a.toList.drop ia,O.klt (kf (b[ib]'h2)) (kf y)):
  wpS (model prog w) A E s (frD a b out ia ib mg ac bc) Q st:=by
 have m2:Ml O kf T a b (out.push (b[ib]'h2)) ia (ib+1):=by
  unfold Ml at m ⊢;rw[bZ (a:=b) h2]at m;rw[zB8];exact Mg.tb (L:=[b[ib]'h2]) m λ x hx y hy=>by rw[zAu.mp hx];exact zAi (hl y hy)
 unfold frD;refine zAO (bh (zAJ h2) ?_);by_cases c1:ib+1=b.size
 .rw[if_pos (by simpa using c1)]
  refine zAZ (t.ret _ _ _ _ _ _ _ _ (Eg.refl st) ?_);unfold Ml at m2;have hz:b.toList.drop (ib+1)=[]:=zCB (by simp;lia);rw[hz]at m2;rw[zAR,zAR,cW,cW,hz,zA9];exact m2.ea
 .rw[if_neg (by simpa using c1)]
  exact aJV c hκ B t m2 h1 (by lia) (by lia)
def aJU(c:Cm prog w A s κ O kf G)(hκ:zBf st=κ)(B:Ab O kf G a b)(t:Tu O kf T a b m0 st Q)(m:Ml O kf T a b out ia ib)(h1:ia+1<a.size)(h2:ib<b.size)(h3:m0<=ia+1+ib)(hk:k<=a.size-ia)
  (hl:∀y∈(a.toList.drop ia).take k,O.kle (kf y) (kf (b[ib]'h2)))(hr:∀y∈(a.toList.drop ia).drop k,O.klt (kf (b[ib]'h2)) (kf y)):wpS (model prog w) A E s (frE a b out ia ib mg k bc) Q st:=by
 unfold frE;rw[zEP]at hr;by_cases c0:k>0
 .rw[if_pos c0]
  have m2:Ml O kf T a b (out++a.extract ia (ia+k)) (ia+k) ib:=by
   unfold Ml at m ⊢;rw[aHf a.toList ia k]at m;rw[zAR,kY,zBO];refine m.ta λ x hx y hy=>?_
   have hx1:=hl x hx;rw[bZ (a:=b) h2]at hy;have sb:=m.sb;rw[bZ (a:=b) h2]at sb;rcases zAT.mp hy with rfl|hy
   .exact hx1
   .exact zAr hx1 ((zAh.mp sb).1 y hy)
  by_cases c1:ia+k+1=a.size
  .rw[if_pos (by simpa using c1)]
   refine zAZ (t.ret _ _ _ _ _ _ _ _ (Eg.refl st) ?_);unfold Ml at m2;rw[du c1]at m2;rw[zAR,zAR (ys:=b.extract ib b.size),cW,cW,du c1];exact m2.el λ y hy=>zAi (B.la _ c1 y (zBU hy))
  .rw[if_neg (by simpa using c1)]
   by_cases c2:ia+k=a.size
   .rw[if_pos (by simpa using c2)]
    refine zAZ (t.ret _ _ _ _ _ _ _ _ (Eg.refl st) ?_);unfold Ml at m2;have hz:a.toList.drop (ia+k)=[]:=zCB (by simp;lia);rw[hz]at m2;rw[zAR,zAR (ys:=a.extract (ia+k) a.size),cW,cW,hz,zA9];exact m2.eb
   .rw[if_neg (by simpa using c2)]
    exact aFB c hκ B t m2 (by lia) h2 (by lia) hr
 .rw[if_neg c0]
  have:k=0:=by lia
  subst this;exact aFB c hκ B t m h1 h2 h3 hr
def aFA(c:Cm prog w A s κ O kf G)(hκ:zBf st=κ)(B:Ab O kf G a b)(t:Tu O kf T a b m0 st Q)(m:Ml O kf T a b out ia ib)(h1:ia+1<a.size)(h2:ib<b.size)(h3:m0<=ia+1+ib):
  wpS (model prog w) A E s (frF a b out ia ib mg ac bc) Q st:=by
 unfold frF;refine zAO (xX λ st1 e1=>?_);refine zAO (bh (zAJ h2) ?_);refine zAO (j0 c (e1.k.trans hκ) (B.gb _ (by simp)) (a.toList.drop ia) (λ i hi=>?_) (by simp) (λ x hx=>B.ga x (zBU hx)) m.sa (by lia) λ k k1 k2 k3=>?_)
 .rw[zCG,zAc]
 .simp only[zBq,if_false]at k2 k3
  exact aJU c (e1.k.trans hκ) B (t.eg e1) m h1 h2 h3 k1 k2 k3
end
def aKL:Array Keyed->Array Keyed->StateT SortSt Sem (Array Keyed):=sortPriv%PySem.Builtin.mergeLo
section
variable{prog:zAY}{w:World}{A:zAd}{E:Value->zAD->Prop}{s:zAD}{κ:zCx}{O:zCF}{kf:Keyed->O.α}{G:Keyed->Prop}{T:List Keyed}{a b:Array Keyed}{st:zAy}{Q:Array Keyed->zAy->Prop}
def aF9(c:Cm prog w A s κ O kf G)(hκ:zBf st=κ)(B:Ab O kf G a b)(hT:(a.toList++b.toList).Perm T)(sa:a.toList.Pairwise (rK O kf))(sb:b.toList.Pairwise (rK O kf))(ha:0<a.size)(hb:0<b.size)(hf:O.klt (kf b[0]) (kf a[0]))
  (h:∀o st',Eg st st'->Mf (rK O kf) T o.toList->Q o st'):wpS (model prog w) A E s (aKL a b) Q st:=by
 refine zAO (zFK (zDC ⟨rfl,?_⟩));refine zAO (bh (zAJ hb) ?_);have m1:Ml O kf T a b #[b[0]] 0 1:=by
  have m0:Mg (rK O kf) T [] (a.toList.drop 0) (b.toList.drop 0):=⟨by simpa using hT,.nil,λ x hx=>by simp at hx,by simpa using sa,by simpa using sb⟩;rw[bZ (a:=b) hb]at m0;refine Mg.tb (L:=[b[0]]) m0 λ x hx y hy=>?_
  rw[zAu.mp hx];rw[bZ ha]at hy
  have:=m0.sa
  rw[bZ ha]at this;rcases zAT.mp hy with rfl|hy
  .exact zAi hf
  .exact zAr (zAi hf) ((zAh.mp this).1 y hy)
 dsimp only;by_cases c1:1=b.size
 .rw[if_pos (by simpa using c1)]
  refine zAZ (h _ _ (Eg.refl st) ?_);have hz:b.toList.drop 1=[]:=zCB (by simp;lia);unfold Ml at m1;rw[hz]at m1;rw[zAR,zAR,cW,cW,hz,zA9];exact m1.ea
 rw[if_neg (by simpa using c1)];by_cases c2:0+1=a.size
 .rw[if_pos (by simpa using c2)]
  refine zAZ (h _ _ (Eg.refl st) ?_);unfold Ml at m1;rw[du c2]at m1;rw[zAR,zAR,cW,cW,du c2];exact m1.el λ y hy=>zAi (B.la _ c2 y (zBU hy))
 rw[if_neg (by simpa using c2)];refine zAO (zDr ?_);refine zAO (zCh (zB0 (I:=λ x c st'=>Eg st st'/\∃out ia ib mg,c=(none,out,ia,ib,mg)/\Ml O kf T a b out ia ib/\ia+1<a.size/\ib<b.size/\x<ia+ib)
  (Q:=λ c st'=>Eg st st'/\∃o,c.1=some o/\Mf (rK O kf) T o.toList) ?_ ?_ ⟨Eg.refl st,_,_,_,_,rfl,m1,by lia,by lia,by lia⟩) ?_)
 .rintro x ⟨_,_⟩ st1 _ hx ⟨e1,out,ia,ib,mg,hc,m,h1,h2,h3⟩
  cases hc;dsimp only;refine zAO (zCh (zB0 (I:=λ _ c st'=>Eg st st'/\∃out ia ib ac bc,c=(none,out,ia,ib,ac,bc)/\Ml O kf T a b out ia ib/\ia+1<a.size/\ib<b.size/\x<ia+ib)
   (Q:=λ c st'=>Eg st st'/\((∃o,c.1=some o/\Mf (rK O kf) T o.toList)\/∃out ia ib ac bc,c=(none,out,ia,ib,ac,bc)/\Ml O kf T a b out ia ib/\ia+1<a.size/\ib<b.size/\x<ia+ib)) ?_ (λ c st' ⟨e,z⟩=>⟨e,.inr z⟩) ⟨e1,_,_,_,_,_,rfl,m,h1,h2,h3⟩) ?_)
  .rintro y ⟨_,_⟩ st2 _ hy ⟨e2,out,ia,ib,ac,bc,hc,m,h1,h2,h3⟩
   cases hc;dsimp only;refine zAO (bh (zAJ h2) ?_);refine zAO (bh (zAJ (by lia)) ?_);refine zAO (pA c (e2.k.trans hκ) (B.gb _ (by simp)) (B.ga _ (by simp)) ?_);dsimp only;have sA:=m.sa;have sB:=m.sb;rw[bZ (by lia)]at sA;rw[bZ (a:=b) h2]at sB;cases hlt:O.blt (kf b[ib]) (kf (a[ia]'(by lia)))with
   |true=>
    rw[if_pos rfl];refine zAO (bh (zAJ h2) ?_);have m2:Ml O kf T a b (out.push b[ib]) ia (ib+1):=by
     unfold Ml at m ⊢;rw[bZ (a:=b) h2]at m;rw[zB8];refine Mg.tb (L:=[b[ib]]) m λ x hx y hy=>?_
     rw[zAu.mp hx];rw[bZ (by lia)]at hy;rcases zAT.mp hy with rfl|hy
     .exact zAi hlt
     .exact zAr (zAi hlt) ((zAh.mp sA).1 y hy)
    by_cases c3:ib+1=b.size
    .rw[if_pos (by simpa using c3)]
     refine zAZ ⟨e2,.inl ⟨_,rfl,?_⟩⟩;have hz:b.toList.drop (ib+1)=[]:=zCB (by simp;lia);unfold Ml at m2;rw[hz]at m2;rw[zAR,zAR,cW,cW,hz,zA9];exact m2.ea
    .rw[if_neg (by simpa using c3)]
     split
     .exact zAZ ⟨e2,.inr ⟨_,_,_,_,_,rfl,m2,h1,by lia,by lia⟩⟩
     .exact zAZ ⟨e2,_,_,_,_,_,rfl,m2,h1,by lia,by lia⟩
   |false=>
    rw[if_neg zAG];refine zAO (bh (zAJ (by lia)) ?_);have m2:Ml O kf T a b (out.push (a[ia]'(by lia))) (ia+1) ib:=by
     unfold Ml at m ⊢;rw[bZ (by lia)]at m;rw[zB8];refine Mg.ta (L:=[a[ia]'(by lia)]) m λ x hx y hy=>?_
     rw[zAu.mp hx];rw[bZ (a:=b) h2]at hy;rcases zAT.mp hy with rfl|hy
     .exact hlt
     .exact zAr hlt ((zAh.mp sB).1 y hy)
    by_cases c3:ia+1+1=a.size
    .rw[if_pos (by simpa using c3)]
     refine zAZ ⟨e2,.inl ⟨_,rfl,?_⟩⟩;unfold Ml at m2;rw[du c3]at m2;rw[zAR,zAR,cW,cW,du c3];exact m2.el λ y hy=>zAi (B.la _ c3 y (zBU hy))
    .rw[if_neg (by simpa using c3)]
     split
     .exact zAZ ⟨e2,.inr ⟨_,_,_,_,_,rfl,m2,by lia,h2,by lia⟩⟩
     .exact zAZ ⟨e2,_,_,_,_,_,rfl,m2,by lia,h2,by lia⟩
  .rintro⟨r1,c1⟩ st2 ⟨e2,⟨o,ho,hm⟩|⟨out,ia,ib,ac,bc,hc,m,h1,h2,h3⟩⟩
   .cases ho
    exact zAZ ⟨e2,o,rfl,hm⟩
   .cases hc
    dsimp only;refine zAO (zFK (zDC ⟨rfl,?_⟩));refine zAO (zCh (zB0 (I:=λ z c st'=>Eg st st'/\∃out ia ib mg ac bc,c=(none,out,ia,ib,mg,ac,bc)/\Ml O kf T a b out ia ib/\ia+1<a.size/\ib<b.size/\x+min z 1<ia+ib)
     (Q:=λ c st'=>Eg st st'/\((∃o,c.1=some o/\Mf (rK O kf) T o.toList)\/∃out ia ib mg ac bc,c=(none,out,ia,ib,mg,ac,bc)/\Ml O kf T a b out ia ib/\ia+1<a.size/\ib<b.size/\x+1<ia+ib)) ?_ ?_ ⟨e2,_,_,_,_,_,_,rfl,m,h1,h2,by lia⟩) ?_)
    .rintro z ⟨_,_⟩ st3 _ hz ⟨e3,out,ia,ib,mg,ac,bc,hc,m,h1,h2,h3⟩
     cases hc;dsimp only;by_cases c5:mg>1
     .rw[if_pos c5]
      refine aFA (m0:=x+1) (mg:=mg-1) (ac:=ac) (bc:=bc) c (e3.k.trans hκ) B ?_ m h1 h2 (by lia);exact⟨λ o out ia ib mg ac bc st' e hm=>⟨e3.trans e,.inl ⟨o,rfl,hm⟩⟩,λ out ia ib mg ac bc st' e m h1 h2 h3=>⟨⟨e3.trans e,.inr ⟨_,_,_,_,_,_,rfl,m,h1,h2,h3⟩⟩,e3.trans e,_,_,_,_,_,_,rfl,m,h1,h2,by lia⟩⟩
     .rw[if_neg c5]
      refine aFA (m0:=x+1) (mg:=mg) (ac:=ac) (bc:=bc) c (e3.k.trans hκ) B ?_ m h1 h2 (by lia);exact⟨λ o out ia ib mg ac bc st' e hm=>⟨e3.trans e,.inl ⟨o,rfl,hm⟩⟩,λ out ia ib mg ac bc st' e m h1 h2 h3=>⟨⟨e3.trans e,.inr ⟨_,_,_,_,_,_,rfl,m,h1,h2,h3⟩⟩,e3.trans e,_,_,_,_,_,_,rfl,m,h1,h2,by lia⟩⟩
    .rintro c st' ⟨e,out,ia,ib,mg,ac,bc,hc,m,h1,h2,h3⟩
     exact⟨e,.inr ⟨_,_,_,_,_,_,hc,m,h1,h2,by lia⟩⟩
    .rintro⟨r1,c1⟩ st3 ⟨e3,⟨o,ho,hm⟩|⟨out,ia,ib,mg,ac,bc,hc,m,h1,h2,h3⟩⟩
     .cases ho
      exact zAZ ⟨e3,o,rfl,hm⟩
     .cases hc
      dsimp only;refine zAO (xX λ st4 e4=>?_);exact zAZ ⟨e3.trans e4,_,_,_,_,rfl,m,h1,h2,h3⟩
 .rintro c st' ⟨e,out,ia,ib,mg,hc,m,h1,h2,h3⟩
  lia
 .rintro⟨r1,c1⟩ st' ⟨e,o,ho,hm⟩
  cases ho;exact zAZ (h o st' e hm)
end
def m7(a:Array Keyed)(j:Nat):(a.extract 0 j).toList=a.toList.take j:=by rw[kY];rfl
def aFI(a:Array Keyed)(j n:Nat):(a.extract j n).reverse.toList=((a.toList.take n).drop j).reverse:=by
 rw[zDT,kY,List.drop_take]
def zN(l:List Keyed){j n:Nat}(h:j<=n):(l.take n).reverse=((l.take n).drop j).reverse++(l.take j).reverse:=by
 rw[<-zCT];congr 1
 conv=>lhs;rw[<-zAs j (l.take n)]
 rw[zCd,zC9 h]
def iU{a:Array Keyed}{n:Nat}(h0:0<n)(h:n<=a.size):(a.toList.take n).reverse=(a[n-1]'(by lia))::(a.toList.take (n-1)).reverse:=by
 have e:n=(n-1)+1:=by lia
 conv=>lhs;rw[e]
 rw[zCz (by simp;lia),zCT];rfl
abbrev HS:=Option (Array Keyed)×Nat×Nat×Array Keyed×Nat×Nat×Nat
abbrev HM:=StateT zAy Sem (ForInStep HS)
def hrA(a b out:Array Keyed)(na nb mg ac bc:Nat):HM:=elem' a (na-1)>>=λ x=>if (na-1==0)=true then pure (.done (some (a.extract 0 (na-1)++b.extract 0 nb++(out.push x).reverse),na-1,nb,out.push x,mg,ac,bc))
 else if (decide (ac<7)&&decide (bc<7))=true then pure (.done (none,na-1,nb,out.push x,mg,ac,bc))else pure (.yield (none,na-1,nb,out.push x,mg,ac,bc))
def hrB(a b out:Array Keyed)(na nb mg ac j:Nat):HM:=if nb-j>0 then(if (j==1)=true then pure (.done (some (b.extract 0 j++a.extract 0 na++(out++(b.extract j nb).reverse).reverse),na,j,out++(b.extract j nb).reverse,mg,ac,nb-j))
 else if (j==0)=true then pure (.done (some (a.extract 0 na++b.extract 0 j++(out++(b.extract j nb).reverse).reverse),na,j,out++(b.extract j nb).reverse,mg,ac,nb-j))else hrA a b (out++(b.extract j nb).reverse) na j mg ac (nb-j))else hrA a b out na nb mg ac (nb-j)
def hrC(a b out:Array Keyed)(na nb mg ac bc:Nat):HM:=elem' a (na-1)>>=λ x=>aCp true x b 0 nb (nb-1)>>=λ r=>match r with
 |some j=>hrB a b out na nb mg ac j
 |_=>pure (.done (some (a.extract 0 na++b.extract 0 nb++out.reverse),na,nb,out,mg,ac,bc))
def hrD(a b out:Array Keyed)(na nb mg ac bc:Nat):HM:=elem' b (nb-1)>>=λ x=>if (nb-1==1)=true then pure (.done (some (b.extract 0 (nb-1)++a.extract 0 na++(out.push x).reverse),na,nb-1,out.push x,mg,ac,bc))else hrC a b (out.push x) na (nb-1) mg ac bc
def hrE(a b out:Array Keyed)(na nb mg j bc:Nat):HM:=if na-j>0 then(if (j==0)=true then pure (.done (some (a.extract 0 j++b.extract 0 nb++(out++(a.extract j na).reverse).reverse),j,nb,out++(a.extract j na).reverse,mg,na-j,bc))else hrD a b (out++(a.extract j na).reverse) j nb mg (na-j) bc)else hrD a b out na nb mg (na-j) bc
def hrF(a b out:Array Keyed)(na nb mg ac bc:Nat):HM:=sgP mg>>=λ _=>elem' b (nb-1)>>=λ x=>aCp false x a 0 na (na-1)>>=λ r=>match r with
 |some j=>hrE a b out na nb mg j bc
 |_=>pure (.done (some (a.extract 0 na++b.extract 0 nb++out.reverse),na,nb,out,mg,ac,bc))
section
variable{prog:zAY}{w:World}{A:zAd}{E:Value->zAD->Prop}{s:zAD}{κ:zCx}{O:zCF}{kf:Keyed->O.α}{G:Keyed->Prop}{T:List Keyed}{a b out:Array Keyed}{na nb mg ac bc j m0:Nat}{st:zAy}{Q:ForInStep HS->zAy->Prop}
abbrev rH(O:zCF)(kf:Keyed->O.α)(x y:Keyed):Prop:=O.kle (kf y) (kf x)
abbrev Mh(O:zCF)(kf:Keyed->O.α)(T:List Keyed)(a b out:Array Keyed)(na nb:Nat):Prop:=Mg (rH O kf) T out.toList (a.toList.take na).reverse (b.toList.take nb).reverse
def Mf.rev{l:List Keyed}(h:Mf (rH O kf) T l):Mf (rK O kf) T l.reverse:=⟨(zDd l).trans h.1,zCI.mpr h.2⟩
def Mh.enA{n:Nat}(hn:n=0)(m:Mh O kf T a b out n nb):Mf (rK O kf) T (a.extract 0 n++b.extract 0 nb++out.reverse).toList:=by
 subst hn
 have:=m.eb.rev
 rw[zCT,zDW]at this;rw[zAR,zAR,m7,m7,zDT];exact this
def Mh.enB{n:Nat}(hn:n=0)(m:Mh O kf T a b out na n):Mf (rK O kf) T (a.extract 0 na++b.extract 0 n++out.reverse).toList:=by
 subst hn
 have:=m.ea.rev
 rw[zCT,zDW]at this;rw[zAR,zAR,m7,m7,zDT,zDI,zA9];exact this
def Mh.enF{n:Nat}(h0:0<b.size)(fb:∀x∈a.toList,O.kle (kf b[0]) (kf x))(hn:n=1)(m:Mh O kf T a b out na n):Mf (rK O kf) T (b.extract 0 n++a.extract 0 na++out.reverse).toList:=by
 subst hn;have e:(b.toList.take 1).reverse=[b[0]]:=by rw[iU (by decide) h0];rfl
 unfold Mh at m;rw[e]at m
 have:=(m.flip.el λ y hy=>fb y (zB3 (zBY.mp hy))).rev
 rw[zCT,zCT,zDW,List.reverse_singleton]at this;have e1:b.toList.take 1=[b[0]]:=by rw[<-zDW (b.toList.take 1),e];rfl
 rw[zAR,zAR,m7,m7,zDT,e1,zAe];exact this
structure Bb(O:zCF)(kf:Keyed->O.α)(G:Keyed->Prop)(a b:Array Keyed):Prop where
 ga:∀x∈a.toList,G x
 gb:∀x∈b.toList,G x
 b0:0<b.size
 fb:∀x∈a.toList,O.kle (kf b[0]) (kf x)
structure Th(O:zCF)(kf:Keyed->O.α)(T:List Keyed)(a b:Array Keyed)(m0:Nat)(st:zAy)(Q:ForInStep HS->zAy->Prop):Prop where
 ret:∀o na nb out mg ac bc st',Eg st st'->Mf (rK O kf) T o.toList->Q (.done (some o,na,nb,out,mg,ac,bc)) st'
 on:∀na nb out mg ac bc st',Eg st st'->Mh O kf T a b out na nb->0<na->1<nb->na<=a.size->nb<=b.size->na+nb<m0->Q (.done (none,na,nb,out,mg,ac,bc)) st'/\Q (.yield (none,na,nb,out,mg,ac,bc)) st'
def Th.eg{st1:zAy}(t:Th O kf T a b m0 st Q)(h:Eg st st1):Th O kf T a b m0 st1 Q:=
 ⟨λ o na nb out mg ac bc st' e f=>t.ret o na nb out mg ac bc st' (h.trans e) f,λ na nb out mg ac bc st' e=>t.on na nb out mg ac bc st' (h.trans e)⟩
def Mh.pa(m:Mh O kf T a b out na nb)(h0:0<na)(h1:na<=a.size)(hl:∀y∈b.toList.take nb,O.kle (kf y) (kf (a[na-1]'(by lia)))):Mh O kf T a b (out.push (a[na-1]'(by lia))) (na-1) nb:=by
 unfold Mh at m ⊢;rw[iU h0 h1]at m;rw[zB8];exact Mg.ta (L:=[a[na-1]'(by lia)]) m λ x hx y hy=>by rw[zAu.mp hx];exact hl y (zBY.mp hy)
def Mh.pb(m:Mh O kf T a b out na nb)(h0:0<nb)(h1:nb<=b.size)(hl:∀y∈a.toList.take na,O.kle (kf y) (kf (b[nb-1]'(by lia)))):Mh O kf T a b (out.push (b[nb-1]'(by lia))) na (nb-1):=by
 unfold Mh at m ⊢;rw[iU h0 h1]at m;rw[zB8];exact Mg.tb (L:=[b[nb-1]'(by lia)]) m λ x hx y hy=>by rw[zAu.mp hx];exact hl y (zBY.mp hy)
def Mh.la(m:Mh O kf T a b out na nb)(h0:0<na)(h1:na<=a.size):∀y∈a.toList.take na,O.kle (kf y) (kf (a[na-1]'(by lia))):=λ y hy=>by
 have:=m.sa
 rw[iU h0 h1]at this;have hy2:y∈(a.toList.take na).reverse:=zBY.mpr hy;rw[iU h0 h1]at hy2;rcases zAT.mp hy2 with rfl|h
 .exact zCm _
 .exact(zAh.mp this).1 y h
def Mh.lb(m:Mh O kf T a b out na nb)(h0:0<nb)(h1:nb<=b.size):∀y∈b.toList.take nb,O.kle (kf y) (kf (b[nb-1]'(by lia))):=λ y hy=>by
 have:=m.sb
 rw[iU h0 h1]at this;have hy2:y∈(b.toList.take nb).reverse:=zBY.mpr hy;rw[iU h0 h1]at hy2;rcases zAT.mp hy2 with rfl|h
 .exact zCm _
 .exact(zAh.mp this).1 y h
def aEs(B:Bb O kf G a b)(t:Th O kf T a b m0 st Q)(m:Mh O kf T a b out na nb)(h0:0<na)(h1:na<=a.size)(h2:1<nb)(h3:nb<=b.size)(h4:na+nb<=m0)(hl:∀y∈b.toList.take nb,O.kle (kf y) (kf (a[na-1]'(by lia)))):
  wpS (model prog w) A E s (hrA a b out na nb mg ac bc) Q st:=by
 have m2:=m.pa h0 h1 hl;unfold hrA;refine zAO (bh (zAJ (by lia)) ?_);by_cases c1:na-1=0
 .rw[if_pos (by simpa using c1)]
  refine zAZ (t.ret _ _ _ _ _ _ _ _ (Eg.refl st) ?_);exact Mh.enA c1 m2
 .rw[if_neg (by simpa using c1)]
  have:=t.on _ _ _ mg ac bc _ (Eg.refl st) m2 (by lia) h2 (by lia) h3 (by lia)
  split
  .exact zAZ this.1
  .exact zAZ this.2
def aJP(B:Bb O kf G a b)(t:Th O kf T a b m0 st Q)(m:Mh O kf T a b out na nb)(h0:0<na)(h1:na<=a.size)(h2:1<nb)(h3:nb<=b.size)(h4:na+nb<=m0)(hj:j<=nb)
  (hl:∀y∈(b.toList.take nb).take j,O.klt (kf y) (kf (a[na-1]'(by lia))))(hr:∀y∈(b.toList.take nb).drop j,O.kle (kf (a[na-1]'(by lia))) (kf y)):wpS (model prog w) A E s (hrB a b out na nb mg ac j) Q st:=by
 unfold hrB;rw[zCd,zC9 hj]at hl;by_cases c0:nb-j>0
 .rw[if_pos c0]
  have m2:Mh O kf T a b (out++(b.extract j nb).reverse) na j:=by
   have la:=m.la h0 h1;unfold Mh at m ⊢;rw[zN b.toList hj]at m;rw[zAR,aFI];exact m.tb λ x hx y hy=>zAr (la y (zBY.mp hy)) (hr x (zBY.mp hx))
  by_cases c1:j=1
  .rw[if_pos (by simpa using c1)]
   refine zAZ (t.ret _ _ _ _ _ _ _ _ (Eg.refl st) ?_);exact Mh.enF B.b0 B.fb c1 m2
  .rw[if_neg (by simpa using c1)]
   by_cases c2:j=0
   .rw[if_pos (by simpa using c2)]
    refine zAZ (t.ret _ _ _ _ _ _ _ _ (Eg.refl st) ?_);exact Mh.enB c2 m2
   .rw[if_neg (by simpa using c2)]
    exact aEs B t m2 h0 h1 (by lia) (by lia) (by lia) λ y hy=>zAi (hl y hy)
 .rw[if_neg c0]
  have:j=nb:=by lia
  subst this;exact aEs B t m h0 h1 h2 h3 h4 λ y hy=>zAi (hl y hy)
def aBd{a:Array Keyed}{n i:Nat}(h:i<n):a[0+i]? =(a.toList.take n)[i]?:=by
 rw[zBJ h,zAc,zFA]
def aJO(c:Cm prog w A s κ O kf G)(hκ:zBf st=κ)(B:Bb O kf G a b)(t:Th O kf T a b m0 st Q)(m:Mh O kf T a b out na nb)(h0:0<na)(h1:na<=a.size)(h2:1<nb)(h3:nb<=b.size)(h4:na+nb<=m0):
  wpS (model prog w) A E s (hrC a b out na nb mg ac bc) Q st:=by
 unfold hrC;refine zAO (bh (zAJ (by lia)) ?_);refine zAO (j0 c hκ (B.ga _ (by simp)) (b.toList.take nb) (λ i hi=>aBd hi) (by simp;lia) (λ x hx=>B.gb x (zB3 hx)) (by have:=m.sb;rwa [zCI]at this) (by lia) λ k k1 k2 k3=>?_);simp only[if_true]at k2 k3;exact aJP B t m h0 h1 h2 h3 h4 k1 k2 k3
def aEr(c:Cm prog w A s κ O kf G)(hκ:zBf st=κ)(B:Bb O kf G a b)(t:Th O kf T a b m0 st Q)(m:Mh O kf T a b out na nb)(h0:0<na)(h1:na<=a.size)(h2:1<nb)(h3:nb<=b.size)(h4:na+nb<=m0+1)(hl:∀y∈a.toList.take na,O.kle (kf y) (kf (b[nb-1]'(by lia)))):
  wpS (model prog w) A E s (hrD a b out na nb mg ac bc) Q st:=by
 have m2:=m.pb (by lia) h3 hl;unfold hrD;refine zAO (bh (zAJ (by lia)) ?_);by_cases c1:nb-1=1
 .rw[if_pos (by simpa using c1)]
  refine zAZ (t.ret _ _ _ _ _ _ _ _ (Eg.refl st) ?_);exact Mh.enF B.b0 B.fb c1 m2
 .rw[if_neg (by simpa using c1)]
  exact aJO c hκ B t m2 h0 h1 (by lia) (by lia) (by lia)
def aJN(c:Cm prog w A s κ O kf G)(hκ:zBf st=κ)(B:Bb O kf G a b)(t:Th O kf T a b m0 st Q)(m:Mh O kf T a b out na nb)(h0:0<na)(h1:na<=a.size)(h2:1<nb)(h3:nb<=b.size)(h4:na+nb<=m0+1)(hj:j<=na)
  (hl:∀y∈(a.toList.take na).take j,O.kle (kf y) (kf (b[nb-1]'(by lia))))(hr:∀y∈(a.toList.take na).drop j,O.klt (kf (b[nb-1]'(by lia))) (kf y)):wpS (model prog w) A E s (hrE a b out na nb mg j bc) Q st:=by
 unfold hrE;rw[zCd,zC9 hj]at hl;by_cases c0:na-j>0
 .rw[if_pos c0]
  have m2:Mh O kf T a b (out++(a.extract j na).reverse) j nb:=by
   have lb:=m.lb (by lia) h3;unfold Mh at m ⊢;rw[zN a.toList hj]at m;rw[zAR,aFI];exact m.ta λ x hx y hy=>zAr (lb y (zBY.mp hy)) (zAi (hr x (zBY.mp hx)))
  by_cases c1:j=0
  .rw[if_pos (by simpa using c1)]
   refine zAZ (t.ret _ _ _ _ _ _ _ _ (Eg.refl st) ?_);exact Mh.enA c1 m2
  .rw[if_neg (by simpa using c1)]
   exact aEr c hκ B t m2 (by lia) (by lia) h2 h3 (by lia) hl
 .rw[if_neg c0]
  have:j=na:=by lia
  subst this;exact aEr c hκ B t m h0 h1 h2 h3 h4 hl
def aEq(c:Cm prog w A s κ O kf G)(hκ:zBf st=κ)(B:Bb O kf G a b)(t:Th O kf T a b m0 st Q)(m:Mh O kf T a b out na nb)(h0:0<na)(h1:na<=a.size)(h2:1<nb)(h3:nb<=b.size)(h4:na+nb<=m0+1):
  wpS (model prog w) A E s (hrF a b out na nb mg ac bc) Q st:=by
 unfold hrF;refine zAO (xX λ st1 e1=>?_);refine zAO (bh (zAJ (by lia)) ?_);refine zAO (j0 c (e1.k.trans hκ) (B.gb _ (by simp)) (a.toList.take na) (λ i hi=>aBd hi) (by simp;lia) (λ x hx=>B.ga x (zB3 hx)) (by have:=m.sa;rwa [zCI]at this) (by lia) λ k k1 k2 k3=>?_);simp only[zBq,if_false]at k2 k3;exact aJN c (e1.k.trans hκ) B (t.eg e1) m h0 h1 h2 h3 h4 k1 k2 k3
end
def aKM:Array Keyed->Array Keyed->StateT SortSt Sem (Array Keyed):=sortPriv%PySem.Builtin.mergeHi
section
variable{prog:zAY}{w:World}{A:zAd}{E:Value->zAD->Prop}{s:zAD}{κ:zCx}{O:zCF}{kf:Keyed->O.α}{G:Keyed->Prop}{T:List Keyed}{a b:Array Keyed}{st:zAy}{Q:Array Keyed->zAy->Prop}
def aFa(c:Cm prog w A s κ O kf G)(hκ:zBf st=κ)(B:Bb O kf G a b)(hT:(a.toList++b.toList).Perm T)(sa:a.toList.Pairwise (rK O kf))(sb:b.toList.Pairwise (rK O kf))(ha:0<a.size)(hl:∀y∈b.toList,O.kle (kf y) (kf (a[a.size-1]'(by lia))))
  (h:∀o st',Eg st st'->Mf (rK O kf) T o.toList->Q o st'):wpS (model prog w) A E s (aKM a b) Q st:=by
 refine zAO (zFK (zDC ⟨rfl,?_⟩));refine zAO (bh (zAJ (by lia)) ?_);have hb:=B.b0;have m1:Mh O kf T a b #[a[a.size-1]'(by lia)] (a.size-1) b.size:=by
  have ea:a.toList.take a.size=a.toList:=zBB (by simp);have eb:b.toList.take b.size=b.toList:=zBB (by simp);have m0:Mh O kf T a b #[] a.size b.size:=by
   unfold Mh;rw[ea,eb];exact⟨((zDd _).append (zDd _)).trans hT,.nil,λ x hx=>by simp at hx,zCI.mpr sa,zCI.mpr sb⟩
  exact Mh.pa m0 ha (zAP _) λ y hy=>hl y (zB3 hy)
 dsimp only;by_cases c1:a.size-1=0
 .rw[if_pos (by simpa using c1)]
  exact zAZ (h _ _ (Eg.refl st) (Mh.enA c1 m1))
 rw[if_neg (by simpa using c1)];by_cases c2:b.size=1
 .rw[if_pos (by simpa using c2)]
  exact zAZ (h _ _ (Eg.refl st) (Mh.enF B.b0 B.fb c2 m1))
 rw[if_neg (by simpa using c2)];refine zAO (zDr ?_);refine zAO (zCh (zB0 (I:=λ x c st'=>Eg st st'/\∃na nb out mg,c=(none,na,nb,out,mg)/\Mh O kf T a b out na nb/\0<na/\1<nb/\na<=a.size/\nb<=b.size/\x+na+nb<a.size+b.size)
  (Q:=λ c st'=>Eg st st'/\∃o,c.1=some o/\Mf (rK O kf) T o.toList) ?_ ?_ ⟨Eg.refl st,_,_,_,_,rfl,m1,by lia,by lia,by lia,by lia,by lia⟩) ?_)
 .rintro x ⟨_,_⟩ st1 _ hx ⟨e1,na,nb,out,mg,hc,m,h0,h2,h1,h3,h4⟩
  cases hc;dsimp only;refine zAO (zCh (zB0 (I:=λ _ c st'=>Eg st st'/\∃na nb out ac bc,c=(none,na,nb,out,ac,bc)/\Mh O kf T a b out na nb/\0<na/\1<nb/\na<=a.size/\nb<=b.size/\x+na+nb<a.size+b.size)
   (Q:=λ c st'=>Eg st st'/\((∃o,c.1=some o/\Mf (rK O kf) T o.toList)\/∃na nb out ac bc,c=(none,na,nb,out,ac,bc)/\Mh O kf T a b out na nb/\0<na/\1<nb/\na<=a.size/\nb<=b.size/\x+na+nb<a.size+b.size)) ?_ (λ c st' ⟨e,z⟩=>⟨e,.inr z⟩) ⟨e1,_,_,_,_,_,rfl,m,h0,h2,h1,h3,h4⟩) ?_)
  .rintro y ⟨_,_⟩ st2 _ hy ⟨e2,na,nb,out,ac,bc,hc,m,h0,h2,h1,h3,h4⟩
   cases hc;dsimp only;refine zAO (bh (zAJ (by lia)) ?_);refine zAO (bh (zAJ (by lia)) ?_);refine zAO (pA c (e2.k.trans hκ) (B.gb _ (by simp)) (B.ga _ (by simp)) ?_);dsimp only;cases hlt:O.blt (kf (b[nb-1]'(by lia))) (kf (a[na-1]'(by lia)))with
   |true=>
    rw[if_pos rfl];refine zAO (bh (zAJ (by lia)) ?_);have m2:=Mh.pa m h0 h1 λ y hy=>zAr (Mh.lb m (by lia) h3 y hy) (zAi hlt)
    by_cases c3:na-1=0
    .rw[if_pos (by simpa using c3)]
     exact zAZ ⟨e2,.inl ⟨_,rfl,Mh.enA c3 m2⟩⟩
    .rw[if_neg (by simpa using c3)]
     split
     .exact zAZ ⟨e2,.inr ⟨_,_,_,_,_,rfl,m2,by lia,h2,by lia,h3,by lia⟩⟩
     .exact zAZ ⟨e2,_,_,_,_,_,rfl,m2,by lia,h2,by lia,h3,by lia⟩
   |false=>
    rw[if_neg zAG];refine zAO (bh (zAJ (by lia)) ?_);have m2:=Mh.pb m (by lia) h3 λ y hy=>zAr (Mh.la m h0 h1 y hy) hlt
    by_cases c3:nb-1=1
    .rw[if_pos (by simpa using c3)]
     exact zAZ ⟨e2,.inl ⟨_,rfl,Mh.enF B.b0 B.fb c3 m2⟩⟩
    .rw[if_neg (by simpa using c3)]
     split
     .exact zAZ ⟨e2,.inr ⟨_,_,_,_,_,rfl,m2,h0,by lia,h1,by lia,by lia⟩⟩
     .exact zAZ ⟨e2,_,_,_,_,_,rfl,m2,h0,by lia,h1,by lia,by lia⟩
  .rintro⟨r1,c1⟩ st2 ⟨e2,⟨o,ho,hm⟩|⟨na,nb,out,ac,bc,hc,m,h0,h2,h1,h3,h4⟩⟩
   .cases ho
    exact zAZ ⟨e2,o,rfl,hm⟩
   .cases hc
    dsimp only;refine zAO (zFK (zDC ⟨rfl,?_⟩));refine zAO (zCh (zB0 (I:=λ z c st'=>Eg st st'/\∃na nb out mg ac bc,c=(none,na,nb,out,mg,ac,bc)/\Mh O kf T a b out na nb/\0<na/\1<nb/\na<=a.size/\nb<=b.size/\x+min z 1+na+nb<a.size+b.size)
     (Q:=λ c st'=>Eg st st'/\((∃o,c.1=some o/\Mf (rK O kf) T o.toList)\/∃na nb out mg ac bc,c=(none,na,nb,out,mg,ac,bc)/\Mh O kf T a b out na nb/\0<na/\1<nb/\na<=a.size/\nb<=b.size/\x+1+na+nb<a.size+b.size)) ?_ ?_ ⟨e2,_,_,_,_,_,_,rfl,m,h0,h2,h1,h3,by lia⟩) ?_)
    .rintro z ⟨_,_⟩ st3 _ hz ⟨e3,na,nb,out,mg,ac,bc,hc,m,h0,h2,h1,h3,h4⟩
     cases hc;dsimp only;by_cases c5:mg>1
     .rw[if_pos c5]
      refine aEq (m0:=a.size+b.size-x-1) (mg:=mg-1) (ac:=ac) (bc:=bc) c (e3.k.trans hκ) B ?_ m h0 h1 h2 h3 (by lia);exact⟨λ o na nb out mg ac bc st' e hm=>⟨e3.trans e,.inl ⟨o,rfl,hm⟩⟩,λ na nb out mg ac bc st' e m h0 h2 h1 h3 h4=>⟨⟨e3.trans e,.inr ⟨_,_,_,_,_,_,rfl,m,h0,h2,h1,h3,by lia⟩⟩,e3.trans e,_,_,_,_,_,_,rfl,m,h0,h2,h1,h3,by lia⟩⟩
     .rw[if_neg c5]
      refine aEq (m0:=a.size+b.size-x-1) (mg:=mg) (ac:=ac) (bc:=bc) c (e3.k.trans hκ) B ?_ m h0 h1 h2 h3 (by lia);exact⟨λ o na nb out mg ac bc st' e hm=>⟨e3.trans e,.inl ⟨o,rfl,hm⟩⟩,λ na nb out mg ac bc st' e m h0 h2 h1 h3 h4=>⟨⟨e3.trans e,.inr ⟨_,_,_,_,_,_,rfl,m,h0,h2,h1,h3,by lia⟩⟩,e3.trans e,_,_,_,_,_,_,rfl,m,h0,h2,h1,h3,by lia⟩⟩
    .rintro c st' ⟨e,na,nb,out,mg,ac,bc,hc,m,h0,h2,h1,h3,h4⟩
     exact⟨e,.inr ⟨_,_,_,_,_,_,hc,m,h0,h2,h1,h3,by lia⟩⟩
    .rintro⟨r1,c1⟩ st3 ⟨e3,⟨o,ho,hm⟩|⟨na,nb,out,mg,ac,bc,hc,m,h0,h2,h1,h3,h4⟩⟩
     .cases ho
      exact zAZ ⟨e3,o,rfl,hm⟩
     .cases hc
      dsimp only;refine zAO (xX λ st4 e4=>?_);exact zAZ ⟨e3.trans e4,_,_,_,_,rfl,m,h0,h2,h1,h3,h4⟩
 .rintro c st' ⟨e,na,nb,out,mg,hc,m,h0,h2,h1,h3,h4⟩
  lia
 .rintro⟨r1,c1⟩ st' ⟨e,o,ho,hm⟩
  cases ho;exact zAZ (h o st' e hm)
end
def m8(P R:List Keyed){n k:Nat}(h:P.length=n):(P++R).drop (n+k)=R.drop k:=by
 subst h;rw[<-zEP,zHG]
def aBY(P R:List Keyed){n i:Nat}(h:P.length=n):(P++R)[n+i]? =R[i]?:=by
 subst h;rw[zBL (Nat.le_add_right _ _),zBO]
theorem aE9:∀(l:List Keyed) (o d:Nat) (acc:Array Keyed),o+d+l.length<=acc.size->
  ((l.zipIdx d).foldl (λ a x=>a.setIfInBounds (o+x.2) x.1) acc).toList=acc.toList.take (o+d)++l++acc.toList.drop (o+d+l.length)
 |[],o,d,acc,_=>by simp
 |x::l,o,d,acc,h=>by
  rw[zA7]at h;rw[List.zipIdx_cons,zC4,aE9 l o (d+1) _ (by simp;lia)];have hd:o+d<acc.toList.length:=by simp;lia
  have e1:(acc.setIfInBounds (o+d) x).toList=acc.toList.set (o+d) x:=zFL ..;rw[e1];have e2:(acc.toList.set (o+d) x).take (o+(d+1))=acc.toList.take (o+d)++[x]:=by
   rw[<-zEe,zCz (by rw[zBT];exact hd),List.getElem_set_self];congr 1;rw[List.take_set_of_le (zAP _)]
  have e3:(acc.toList.set (o+d) x).drop (o+(d+1)+l.length)=acc.toList.drop (o+d+(l.length+1)):=by
   rw[List.drop_set_of_lt (by lia)];congr 1;lia
  rw[e2,e3,zA7];simp
section
variable{prog:zAY}{w:World}{A:zAd}{E:Value->zAD->Prop}{s:zAD}{κ:zCx}{O:zCF}{kf:Keyed->O.α}{G:Keyed->Prop}
def aFN{X Y M:List Keyed}{k n:Nat}(sX:X.Pairwise (rK O kf))(sY:Y.Pairwise (rK O kf))(hm:M.Perm (X.drop k++Y.take n))(sM:M.Pairwise (rK O kf))(h1:∀x∈X.take k,∀y∈Y,rK O kf x y)(h2:∀x∈X,∀y∈Y.drop n,rK O kf x y):
  (X.take k++M++Y.drop n).Perm (X++Y)/\(X.take k++M++Y.drop n).Pairwise (rK O kf):=by
 constructor
 .have e:X++Y=X.take k++(X.drop k++Y.take n)++Y.drop n:=by
   have e1:=zAs k X;have e2:=zAs n Y
   calc X++Y=(X.take k++X.drop k)++(Y.take n++Y.drop n):=by rw[e1,e2]
    _=_:=by simp only[zAe]
  rw[e];exact(hm.append_left _).append_right _
 .have sX2:=sX
  rw[<-zAs k X]at sX2;have sY2:=sY;rw[<-zAs n Y]at sY2;obtain⟨x1,x2,x3⟩:=zBC.mp sX2;obtain⟨y1,y2,y3⟩:=zBC.mp sY2;refine zBC.mpr ⟨zBC.mpr ⟨x1,sM,λ x hx y hy=>?_⟩,y2,λ x hx y hy=>?_⟩
  .rcases zAq.mp (hm.mem_iff.mp hy)with h|h
   .exact x3 x hx y h
   .exact h1 x hx y (zB3 h)
  .rcases zAq.mp hx with h|h
   .exact h2 x (zB3 h) y hy
   .rcases zAq.mp (hm.mem_iff.mp h)with h|h
    .exact h2 x (zBU h) y hy
    .exact y3 x h y hy
def aAK{Y:List Keyed}(sY:Y.Pairwise (rK O kf)){y0:Keyed}(h:Y[0]? =some y0):∀y∈Y,rK O kf y0 y:=λ y hy=>by
 cases Y with
 |nil=>cases hy
 |cons z Y=>
  have:z=y0:=by simpa using h
  subst this;rcases zAT.mp hy with rfl|hy
  .exact zCm _
  .exact(zAh.mp sY).1 y hy
def aCD{X:List Keyed}(sX:X.Pairwise (rK O kf)){z:Keyed}{n:Nat}(hn:n+1=X.length)(h:X[n]? =some z):∀x∈X,rK O kf x z:=λ x hx=>by
 obtain⟨i,hi,e⟩:=zBW hx;have hz:X[n]'(by lia)=z:=by
  rw[zAB (by lia)]at h;exact zAn h
 by_cases c:i=n
 .subst c
  rw[<-e,hz];exact zCm _
 .rw[<-e,<-hz]
  exact zB7.mp sX i n hi (by lia) (by lia)
def aFb{st:zAy}{Q:Bool->zAy->Prop}{i sa na p sb nb p2:Nat}{P X Y Z:List Keyed}(c:Cm prog w A s κ O kf G)(hκ:zBf st=κ)(hf:zCM st=none)(h1:(zAp st)[i]? =some (sa,na,p))(h2:(zAp st)[i+1]? =some (sb,nb,p2))
  (hL:(arrOf st).toList=P++(X++(Y++Z)))(lP:P.length=sa)(lX:X.length=na)(lY:Y.length=nb)(hsb:sb=sa+na)(n0:0<na)(n1:0<nb)(gG:∀x∈(arrOf st).toList,G x)(sX:X.Pairwise (rK O kf))(sY:Y.Pairwise (rK O kf))
  (h:∀M st',zBf st'=κ->zCM st'=none->zAp st'=((zAp st).setIfInBounds i (sa,na+nb,p)).eraseIdxIfInBounds (i+1)->(arrOf st').toList=P++(M++Z)->M.Perm (X++Y)->M.Pairwise (rK O kf)->Q true st'):
  wpS (model prog w) A E s (mergeAt' i) Q st:=by
 have hL2:(arrOf st).toList=(P++X)++(Y++Z):=by rw[hL,zAe]
 have lPX:(P++X).length=sb:=by rw[zAL,lP,lX,hsb]
 have gX:∀x∈X,G x:=λ x hx=>gG x (by rw[hL];simp[hx])
 have gY:∀x∈Y,G x:=λ x hx=>gG x (by rw[hL];simp[hx])
 have atX:∀j,j<na->(arrOf st)[sa+j]? =X[j]?:=λ j hj=>by
  rw[<-zAc,hL,aBY P _ lP,zAo (by lia)]
 have atY:∀j,j<nb->(arrOf st)[sb+j]? =Y[j]?:=λ j hj=>by
  rw[<-zAc,hL2,aBY (P++X) _ lPX,zAo (by lia)]
 have hsz:sb+nb<=(arrOf st).size:=by
  have:=congrArg List.length hL2
  rw[zAb,zAL,lPX,zAL]at this;lia
 obtain⟨y0,hy0⟩:∃y,Y[0]? =some y:=⟨Y[0]'(by lia),zAB _⟩
 obtain⟨xl,hxl⟩:∃x,X[na-1]? =some x:=⟨X[na-1]'(by lia),zAB _⟩
 have fY:=aAK sY hy0;have fX:=aCD sX (by lia) hxl;refine zAO (zDr ?_);rw[h1,h2];dsimp only;refine zAO (zCg (f:=λ _=>zGS (zBf st) (arrOf st) (((zAp st).setIfInBounds i (sa,na+nb,p)).eraseIdxIfInBounds (i+1)) (gallopOf st) (zCM st)) ?_);obtain⟨st1,hst1⟩:∃st1,st1=zGS (zBf st) (arrOf st) (((zAp st).setIfInBounds i (sa,na+nb,p)).eraseIdxIfInBounds (i+1)) (gallopOf st) (zCM st):=⟨_,rfl⟩
 have k1:zBf st1=κ:=by rw[hst1];exact hκ
 have a1:arrOf st1=arrOf st:=by rw[hst1]
 have p1:zAp st1=((zAp st).setIfInBounds i (sa,na+nb,p)).eraseIdxIfInBounds (i+1):=by rw[hst1]
 have f1:zCM st1=none:=by rw[hst1];exact hf
 rw[<-hst1];refine zAO (bh (x:=y0) (by have:=atY 0 n1;rw[zEx]at this;rw[this,hy0]) ?_);refine zAO (j0 c k1 (gY y0 (zAw hy0)) X (λ j hj=>atX j hj) lX.symm gX sX n0 λ k q1 q2 q3=>?_);simp only[zBq,if_false]at q2 q3;dsimp only;have hA:∀x∈X.take k,∀y∈Y,rK O kf x y:=λ x hx y hy=>zAr (q2 x hx) (fY y hy)
 by_cases c1:na-k=0
 .rw[if_pos (by simpa using c1)]
  have ek:X.take k=X:=zBB (by lia);rw[ek]at hA;exact zAZ (h (X++Y) st1 k1 f1 p1 (by rw[a1,hL,zAe]) (zBN _) (zBC.mpr ⟨sX,sY,hA⟩))
 rw[if_neg (by simpa using c1)];have hix:sa+k+(na-k)-1=sa+(na-1):=by lia
 rw[hix];refine zAO (bh (x:=xl) (by rw[atX (na-1) (by lia),hxl]) ?_);refine zAO (j0 c k1 (gX xl (zAw hxl)) Y (λ j hj=>atY j hj) lY.symm gY sY (by lia) λ n' r1 r2 r3=>?_);simp only[if_true]at r2 r3;dsimp only;have hB:∀x∈X,∀y∈Y.drop n',rK O kf x y:=λ x hx y hy=>zAr (fX x hx) (r3 y hy)
 by_cases c2:n'=0
 .rw[if_pos (by simpa using c2)]
  subst c2;rw[zCK]at hB;exact zAZ (h (X++Y) st1 k1 f1 p1 (by rw[a1,hL,zAe]) (zBN _) (zBC.mpr ⟨sX,sY,hB⟩))
 rw[if_neg (by simpa using c2)];have eX:((arrOf st).extract (sa+k) sb).toList=X.drop k:=by
  rw[kY,hL,m8 P _ lP,zEv (by lia),zDV (by rw[zBI];lia)];exact zBB (by rw[zBI];lia)
 have eY:((arrOf st).extract sb (sb+n')).toList=Y.take n':=by
  have:(arrOf st).toList.drop sb=Y++Z:=by rw[hL2,<-lPX,zHG]
  rw[kY,this,zBO,zDV (by lia)]
 have sXk:(X.drop k).Pairwise (rK O kf):=sX.sublist (List.drop_sublist _ _);have sYn:(Y.take n').Pairwise (rK O kf):=sY.sublist (zGd _ _);obtain⟨u,hu⟩:∃u,u=(arrOf st).extract (sa+k) sb:=⟨_,rfl⟩
 obtain⟨v,hv⟩:∃v,v=(arrOf st).extract sb (sb+n'):=⟨_,rfl⟩
 rw[<-hu]at eX;rw[<-hv]at eY;have lu:u.size=na-k:=by rw[<-zAb,eX,zBI,lX]
 have lv:v.size=n':=by rw[<-zAb,eY,zA4];lia
 have v0:v[0]'(by lia)=y0:=by
  have:v.toList[0]? =some y0:=by rw[eY,zBJ (by lia),hy0]
  rw[zAc,zAJ (by lia)]at this;exact zAn this
 have ul:u[u.size-1]'(by lia)=xl:=by
  have:u.toList[u.size-1]? =some xl:=by
   rw[eX,zCG]
   have:k+(u.size-1)=na-1:=by lia
   rw[this,hxl]
  rw[zAc,zAJ (by lia)]at this;exact zAn this
 have fin:∀(o:Array Keyed) (st2:zAy),Eg st1 st2->Mf (rK O kf) (u.toList++v.toList) o.toList->
   wpS (model prog w) A E s (modify (λ s2:zAy=>zGS (zBf s2) (zEk (λ a x=>a.setIfInBounds (sa+k+x.2) x.1) (arrOf s2) o.toList.zipIdx) (zAp s2) (gallopOf s2) (zCM s2))>>=λ _=>get>>=λ s3=>pure (zCM s3).isNone) Q st2:=λ o st2 e2 hm=>by
  refine zAO (zCg (zAO (zDr (zAZ ?_))));have hf2:zCM st2=none:=e2.f.trans f1;show Q (zCM st2).isNone _;rw[hf2];rw[eX,eY]at hm;obtain⟨j1,j2⟩:=aFN sX sY hm.1 hm.2 hA hB;refine h (X.take k++o.toList++Y.drop n') _ (e2.k.trans k1) (by first|exact hf2|rfl) (e2.p.trans p1) ?_ j1 j2
  show(zEk (λ a x=>a.setIfInBounds (sa+k+x.2) x.1) (arrOf st2) o.toList.zipIdx).toList=_
  have lo:o.toList.length=(na-k)+n':=by rw[hm.1.length_eq,zAL,zBI,zA4];lia
  rw[e2.a,a1,aE9 o.toList (sa+k) 0 (arrOf st) (by rw[lo];lia),zEx];have t1:(arrOf st).toList.take (sa+k)=P++X.take k:=by
   rw[hL,<-lP,zDU,zBB (by lia),zBO,zDV (by lia)]
  have t2:(arrOf st).toList.drop (sa+k+o.toList.length)=Y.drop n'++Z:=by
   have:sa+k+o.toList.length=sb+n':=by rw[lo];lia
   rw[this,hL2,m8 (P++X) _ lPX,zEv (by lia)]
  rw[t1,t2];simp
 have gu:∀x∈u.toList,G x:=λ x hx=>by rw[eX]at hx;exact gX x (zBU hx)
 have gv:∀x∈v.toList,G x:=λ x hx=>by rw[eY]at hx;exact gY x (zB3 hx)
 have hlt0:∀x∈u.toList,O.klt (kf y0) (kf x):=λ x hx=>by rw[eX]at hx;exact q3 x hx
 have hltl:∀y∈v.toList,O.klt (kf y) (kf xl):=λ y hy=>by rw[eY]at hy;exact r2 y hy
 by_cases c3:na-k<=n'
 .rw[if_pos c3]
  refine zAO ?_;show wpS _ _ _ _ (aKL ((arrOf st).extract (sa+k) sb) ((arrOf st).extract sb (sb+n'))) _ _;rw[<-hu,<-hv];refine aF9 (T:=u.toList++v.toList) c k1 ⟨gu,gv,λ j hj y hy=>?_⟩ (zBN _) (by rw[eX];exact sXk) (by rw[eY];exact sYn) (by lia) (by lia) ?_ λ o st2 e2 hm=>fin o st2 e2 hm
  .have:u[j]'(by lia)=xl:=by
    have e:j=u.size-1:=by lia
    subst e;exact ul
   rw[this];exact hltl y hy
  .rw[v0]
   exact hlt0 _ (by simp)
 .rw[if_neg c3]
  refine zAO ?_;show wpS _ _ _ _ (aKM ((arrOf st).extract (sa+k) sb) ((arrOf st).extract sb (sb+n'))) _ _;rw[<-hu,<-hv];refine aFa (T:=u.toList++v.toList) c k1 ⟨gu,gv,by lia,λ x hx=>?_⟩ (zBN _) (by rw[eX];exact sXk) (by rw[eY];exact sYn) (by lia) (λ y hy=>?_) λ o st2 e2 hm=>fin o st2 e2 hm
  .rw[v0]
   exact zAi (hlt0 x hx)
  .rw[ul]
   exact zAi (hltl y hy)
end
def aE0(xs:Array Keyed){i j:Nat}(hij:i<=j)(hj:j<=xs.size):(mirror xs i j ((j-i) / 2)).toList=xs.toList.take i++(((xs.toList.take j).drop i).reverse++xs.toList.drop j):=by
 refine zEj λ k=>?_
 rw[zAc,getElem?_mirror_all hj];have l1:(xs.toList.take i).length=i:=by rw[zA4,zAb];lia
 have l2:((xs.toList.take j).drop i).length=j-i:=by rw[zBI,zA4,zAb];lia
 by_cases c1:k<i
 .rw[if_neg (by lia),zAo (by lia),zBJ c1,zAc]
 .rw[zBL (by lia),l1]
  by_cases c2:k<j
  .rw[if_pos (by lia),zAo (by rw[zBy];lia),zGA (by lia),l2,zCG,zBJ (by lia),zAc]
   congr 1;lia
  .rw[if_neg (by lia),zBL (by rw[zBy];lia),zBy,l2,zCG,zAc]
   congr 1;lia
def pG{β:Type}{r:β->β->Prop}(tr:∀a b c,r a b->r b c->r a c){l:List β}{n:Nat}(h0:0<n)(hn:n<l.length)(h:(l.take n).Pairwise r)(hz:r (l[n-1]'(by lia)) l[n]):(l.take (n+1)).Pairwise r:=by
 rw[zCz hn];refine zBC.mpr ⟨h,zCv _ _,λ x hx y hy=>?_⟩;rw[zAu.mp hy];obtain⟨i,hi,e⟩:=zBW hx;have hi2:i<n:=by rw[zA4]at hi;lia
 by_cases c:i=n-1
 .rw[zB9]at e
  subst c;rw[<-e];exact hz
 .have:=zB7.mp h i (n-1) hi (by rw[zA4];lia) (by lia)
  rw[e,zB9]at this;exact tr _ _ _ this hz
structure Ea(st st':zAy):Prop where
 k:zBf st'=zBf st
 p:zAp st'=zAp st
 f:zCM st'=zCM st
def Ea.refl(st:zAy):Ea st st:=⟨rfl,rfl,rfl⟩
theorem Ea.trans{st st' st'':zAy}(h:Ea st st')(k:Ea st' st''):Ea st st'':=⟨k.k.trans h.k,k.p.trans h.p,k.f.trans h.f⟩
abbrev AcS:=Option (Option Nat)×Nat
abbrev DeS:=Option (Option Nat)×Nat×Nat
def acP(lo a nrem:Nat):StateT zAy Sem AcS:=forIn [a:nrem] ((none,a):AcS) λ _ c=>ltAt' (lo+c.2) (lo+c.2-1)>>=λ x=>match x with
 |some b=>if b=true then pure (.done (none,c.2))else pure (.yield (none,c.2+1))
 |_=>pure (.done (some none,c.2))
def dsP(lo n nrem:Nat):StateT zAy Sem DeS:=forIn [n:nrem] ((none,n,0):DeS) λ _ c=>ltAt' (lo+c.2.1) (lo+c.2.1-1)>>=λ x=>match x with
 |some b=>if b=true then(if c.2.2>0 then zDN (lo+c.2.1-(c.2.2+1)) (lo+c.2.1)>>=λ _=>pure (.yield (none,c.2.1+1,0))else pure (.yield (none,c.2.1+1,0)))
  else ltAt' (lo+c.2.1-1) (lo+c.2.1)>>=λ y=>match y with
   |some d=>if d=true then pure (.done (none,c.2.1,c.2.2))else pure (.yield (none,c.2.1+1,c.2.2+1))
   |_=>pure (.done (some none,c.2.1,c.2.2))
 |_=>pure (.done (some none,c.2.1,c.2.2))
section
variable{prog:zAY}{w:World}{A:zAd}{E:Value->zAD->Prop}{s:zAD}{κ:zCx}{O:zCF}{kf:Keyed->O.α}{G:Keyed->Prop}{st:zAy}{P R:List Keyed}{lo:Nat}
structure Sg(κ:zCx)(G:Keyed->Prop)(st:zAy)(lo:Nat)(P R:List Keyed):Prop where
 k:zBf st=κ
 l:(arrOf st).toList=P++R
 p:P.length=lo
 g:∀x∈R,G x
def Sg.at(S:Sg κ G st lo P R)(i:Nat):(arrOf st)[lo+i]? =R[i]?:=by rw[<-zAc,S.l,aBY P R S.p]
def ou{i j:Nat}{Q:Option Bool->zAy->Prop}(c:Cm prog w A s κ O kf G)(S:Sg κ G st lo P R)(hi:i<R.length)(hj:j<R.length)(h:Q (some (O.blt (kf R[i]) (kf R[j]))) st):wpS (model prog w) A E s (ltAt' (lo+i) (lo+j)) Q st:=by
 rw[ltAt'_eq];refine zAO (zDr ?_);show wpS _ _ _ _ (do let x <-elem' (arrOf st) (lo+i);let y <-elem' (arrOf st) (lo+j);lt' x y) Q st;refine zAO (bh (x:=R[i]) (by rw[S.at,zAB hi]) ?_);refine zAO (bh (x:=R[j]) (by rw[S.at,zAB hj]) ?_);exact pA c S.k (S.g _ (zBg _)) (S.g _ (zBg _)) h
def aBb{i j:Nat}{Q:Unit->zAy->Prop}(S:Sg κ G st lo P R)(hij:i<=j)(hj:j<=R.length)(h:∀st',Ea st st'->Sg κ G st' lo P (R.take i++(((R.take j).drop i).reverse++R.drop j))->Q () st'):wpS (model prog w) A E s (zDN (lo+i) (lo+j)) Q st:=by
 rw[reverseSlice'_eq];refine zCg (h _ ⟨rfl,rfl,rfl⟩ ⟨S.k,?_,S.p,λ x hx=>?_⟩)
 .show(mirror (arrOf st) (lo+i) (lo+j) ((lo+j-(lo+i)) / 2)).toList=_
  have hsz:(arrOf st).size=lo+R.length:=by rw[<-zAb,S.l,zAL,S.p]
  rw[aE0 _ (by lia) (by lia),S.l];have e1:(P++R).take (lo+i)=P++R.take i:=by rw[<-S.p,zDU,zBB (by lia),zBO]
  have e2:(P++R).take (lo+j)=P++R.take j:=by rw[<-S.p,zDU,zBB (by lia),zBO]
  rw[e1,e2,m8 P _ S.p,m8 P _ S.p,zAe]
 .rcases zAq.mp hx with h|h
  .exact S.g x (zB3 h)
  .rcases zAq.mp h with h|h
   .exact S.g x (zB3 (zBU (zBY.mp h)))
   .exact S.g x (zBU h)
def aDE{i j i' j':Nat}{Q:Option Bool->zAy->Prop}(c:Cm prog w A s κ O kf G)(S:Sg κ G st lo P R)(ei:i'=lo+i)(ej:j'=lo+j)(hi:i<R.length)(hj:j<R.length)(h:Q (some (O.blt (kf R[i]) (kf R[j]))) st):wpS (model prog w) A E s (ltAt' i' j') Q st:=by
 subst ei ej;exact ou c S hi hj h
def tQ{i j i' j':Nat}{Q:Unit->zAy->Prop}(S:Sg κ G st lo P R)(ei:i'=lo+i)(ej:j'=lo+j)(hij:i<=j)(hj:j<=R.length)(h:∀st',Ea st st'->Sg κ G st' lo P (R.take i++(((R.take j).drop i).reverse++R.drop j))->Q () st'):wpS (model prog w) A E s (zDN i' j') Q st:=by
 subst ei ej;exact aBb S hij hj h
def pP(R:List Keyed){i j:Nat}(hij:i<=j):(R.take i++(((R.take j).drop i).reverse++R.drop j)).Perm R:=by
 have e:R=R.take i++((R.take j).drop i++R.drop j):=by
  have e1:=zAs j R;have e2:=zAs i (R.take j);rw[zCd,zC9 hij]at e2
  calc R=R.take j++R.drop j:=e1.symm
   _=(R.take i++(R.take j).drop i)++R.drop j:=by rw[e2]
   _=_:=zAe _ _ _
 conv=>rhs;rw[e]
 exact((zDd _).append_right _).append_left _
def uc(R:List Keyed){i j:Nat}{q:O.α}(hij:i<=j)(hq:∀x∈(R.take j).drop i,kf x=q):(R.take i++(((R.take j).drop i).reverse++R.drop j)).map kf=R.map kf:=by
 have e:R=R.take i++((R.take j).drop i++R.drop j):=by
  have e1:=zAs j R;have e2:=zAs i (R.take j);rw[zCd,zC9 hij]at e2
  calc R=R.take j++R.drop j:=e1.symm
   _=(R.take i++(R.take j).drop i)++R.drop j:=by rw[e2]
   _=_:=zAe _ _ _
 have e3:((R.take j).drop i).map kf=zAW ((R.take j).drop i).length q:=List.eq_replicate_iff.mpr ⟨zAF _,λ b hb=>by obtain⟨x,hx,rfl⟩:=zBH.mp hb;exact hq x hx⟩
 conv=>rhs;rw[e]
 simp only[zCO,List.map_reverse,e3,List.reverse_replicate]
def aDH{a:Nat}{Q:AcS->zAy->Prop}(c:Cm prog w A s κ O kf G)(S:Sg κ G st lo P R)(a0:0<a)(ha:a<=R.length)(hs:(R.take a).Pairwise (rK O kf))
  (h:∀n (h0:0<n),n<=R.length->(R.take n).Pairwise (rK O kf)->(n=R.length\/∃hn:n<R.length,O.klt (kf R[n]) (kf (R[n-1]'(by lia))))->Q (none,n) st){N:Nat}(hN:N=R.length):wpS (model prog w) A E s (acP lo a N) Q st:=by
 subst hN;unfold acP;refine zB0 (I:=λ x c st'=>st'=st/\c=(none,x)/\0<x/\(R.take x).Pairwise (rK O kf)) ?_ ?_ ⟨rfl,rfl,a0,hs⟩
 .rintro x c1 st' hax hx ⟨rfl,rfl,x0,g⟩
  dsimp only;rw[zGp (by lia)];refine zAO (ou c S hx (by lia) ?_);dsimp only;cases hb:O.blt (kf R[x]) (kf (R[x-1]'(by lia)))with
  |true=>rw[if_pos rfl];exact zAZ (h x x0 (by lia) g (.inr ⟨hx,hb⟩))
  |false=>
   rw[if_neg zAG];exact zAZ ⟨rfl,rfl,by lia,pG (r:=rK O kf) (λ _ _ _ h k=>zAr h k) x0 hx g hb⟩
 .rintro c1 st' ⟨rfl,rfl,x0,g⟩
  have:max a R.length=R.length:=by lia
  rw[this]at g x0 ⊢;exact h R.length x0 (zAP _) g (.inl rfl)
def Cn0(O:zCF)(kf:Keyed->O.α)(κ:zCx)(G:Keyed->Prop)(st:zAy)(lo:Nat)(P R:List Keyed)(Q:Option Nat->zAy->Prop):Prop:=∀m R' st',Ea st st'->Sg κ G st' lo P R'->R'.Perm R->0<m->m<=R.length->(R'.take m).Pairwise (rK O kf)->Q (some m) st'
def aDC{n N:Nat}{R1:List Keyed}{st1:zAy}{Q:Option Nat->zAy->Prop}{F:AcS->StateT zAy Sem (Option Nat)}(c:Cm prog w A s κ O kf G)(e1:Ea st st1)(S:Sg κ G st1 lo P R1)(hp:R1.Perm R)(n0:0<n)(hn:n<=R1.length)(hs:(R1.take n).Pairwise (rH O kf))(h:Cn0 O kf κ G st lo P R Q)(hN:N=R1.length)(hF:∀m,F (none,m)=pure (some m)):
  wpS (model prog w) A E s (zDN lo (lo+n)>>=λ _=>acP lo n N>>=F) Q st1:=by
 refine zAO (tQ (i:=0) (j:=n) S rfl rfl (zAj _) hn λ st2 e2 S2=>?_);rw[zDI,zBp,zCK]at S2;have hl:((R1.take n).reverse++R1.drop n).length=R1.length:=by rw[zAL,zBy,zA4,zBI];lia
 have ht:((R1.take n).reverse++R1.drop n).take n=(R1.take n).reverse:=zGz (by rw[zBy,zA4];lia);have hp2:((R1.take n).reverse++R1.drop n).Perm R1:=by
  have:=pP R1 (i:=0) (j:=n) (zAj _)
  rwa [zDI,zBp,zCK]at this
 refine zAO (aDH c S2 n0 (by lia) (by rw[ht];exact zCI.mpr hs) (λ m m0 m1 m2 _=>?_) (hN.trans hl.symm));rw[hF];exact zAZ (h m _ st2 (e1.trans e2) S2 (hp2.trans hp) m0 (by rw[hl]at m1;rw[<-hp.length_eq];exact m1) m2)
def yO{R R':List Keyed}(h:R'.map kf=R.map kf)(n:Nat)(hs:(R.take n).Pairwise (rH O kf)):(R'.take n).Pairwise (rH O kf):=by
 have h1:((R.take n).map kf).Pairwise (λ a b:O.α=>O.kle b a):=zEm.mpr hs;have h2:(R'.take n).map kf=(R.take n).map kf:=by rw[zHP,h,<-zHP]
 rw[<-h2,zEm]at h1;exact h1
def aDF{n N:Nat}{R1:List Keyed}{st1:zAy}{Q:Option Nat->zAy->Prop}{F2:AcS->StateT zAy Sem (Option Nat)}{F:DeS->StateT zAy Sem (Option Nat)}(c:Cm prog w A s κ O kf G)(e1:Ea st st1)(S:Sg κ G st1 lo P R1)(hp:R1.Perm R)(hn:n+1<=R1.length)(hs:(R1.take (n+1)).Pairwise (rH O kf))(h:Cn0 O kf κ G st lo P R Q)(hN:N=R1.length)(hF2:∀m,F2 (none,m)=pure (some m))
  (hF:∀x q,F (none,x,q)=if q>0 then(zDN (lo+x-(q+1)) (lo+x)>>=λ _=>zDN lo (lo+x)>>=λ _=>acP lo x N>>=F2)else(zDN lo (lo+x)>>=λ _=>acP lo x N>>=F2)):
  wpS (model prog w) A E s ((liftM (rule "list.sort.descending-run"):StateT zAy Sem Unit)>>=λ _=>dsP lo (n+1) N>>=F) Q st1:=by
 subst hN;refine zAO (zFK (zDC ⟨rfl,?_⟩));have key:∀(R2:List Keyed) (x q:Nat) (h:q+1<=x) (hx:x<=R2.length),(∀i (hi:i<R2.length),x-(q+1)<=i->i<x->kf R2[i]=kf (R2[x-1]'(by lia)))->∀y∈(R2.take x).drop (x-(q+1)),kf y=kf (R2[x-1]'(by lia)):=λ R2 x q h hx hk y hy=>by
  obtain⟨i,hi,e⟩:=zBW hy;rw[zBI,zA4]at hi;rw[zEl,zB9]at e;rw[<-e];exact hk _ (by lia) (by lia) (by lia)
 refine zAO (zCh (Q:=λ c1 st'=>∃R2 x q,c1=(none,x,q)/\Ea st st'/\Sg κ G st' lo P R2/\R2.Perm R1/\q+1<=x/\∃hx:x<=R2.length,(R2.take x).Pairwise (rH O kf)/\∀i (hi:i<R2.length),x-(q+1)<=i->i<x->kf R2[i]=kf (R2[x-1]'(by lia))) ?_ ?_)
 .unfold dsP
  refine zB0 (I:=λ x c1 st'=>∃R2 q,c1=(none,x,q)/\Ea st st'/\Sg κ G st' lo P R2/\R2.Perm R1/\q+1<=x/\∃hx:x<=R2.length,(R2.take x).Pairwise (rH O kf)/\∀i (hi:i<R2.length),x-(q+1)<=i->i<x->kf R2[i]=kf (R2[x-1]'(by lia))) ?_ ?_
   ⟨R1,0,rfl,e1,S,zBN _,by lia,hn,hs,λ i hi g1 g2=>by
    have:i=n+1-1:=by lia
    subst this;rfl⟩
  .rintro x c1 st' hax hx ⟨R2,q,rfl,e2,S2,p2,hq,hx2,g1,g2⟩
   have hl:=p2.length_eq;dsimp only;rw[zGp (by lia)];refine zAO (ou c S2 (by lia) (by lia) ?_);dsimp only;cases hb:O.blt (kf (R2[x]'(by lia))) (kf (R2[x-1]'(by lia)))with
   |true=>
    rw[if_pos rfl];have g3:(R2.take (x+1)).Pairwise (rH O kf):=pG (r:=rH O kf) (n:=x) (λ _ _ _ h k=>zAr k h) (by lia) (by lia) g1 (zAi hb);by_cases c0:q>0
    .rw[if_pos c0]
     have hix:lo+x-(q+1)=lo+(x-(q+1)):=by lia
     rw[hix];refine zAO (aBb S2 (by lia) hx2 λ st3 e3 S3=>zAZ ?_);have hk:=uc (O:=O) (kf:=kf) (q:=kf (R2[x-1]'(by lia))) R2 (i:=x-(q+1)) (j:=x) (by lia) (key R2 x q hq hx2 g2);have hp3:=pP R2 (i:=x-(q+1)) (j:=x) (by lia);refine⟨_,0,rfl,e2.trans e3,S3,hp3.trans p2,by lia,by rw[hp3.length_eq];lia,yO hk _ g3,λ i hi k1 k2=>?_⟩
     have:i=x+1-1:=by lia
     subst this;rfl
    .rw[if_neg c0]
     refine zAZ ⟨R2,0,rfl,e2,S2,p2,by lia,by lia,g3,λ i hi k1 k2=>?_⟩
     have:i=x+1-1:=by lia
     subst this;rfl
   |false=>
    rw[if_neg zAG];refine zAO (ou c S2 (by lia) (by lia) ?_);dsimp only;cases hd:O.blt (kf (R2[x-1]'(by lia))) (kf (R2[x]'(by lia)))with
    |true=>rw[if_pos rfl];exact zAZ ⟨R2,x,q,rfl,e2,S2,p2,hq,hx2,g1,g2⟩
    |false=>
     rw[if_neg zAG];have heq:kf (R2[x]'(by lia))=kf (R2[x-1]'(by lia)):=zFz hd hb;refine zAZ ⟨R2,q+1,rfl,e2,S2,p2,by lia,by lia,pG (r:=rH O kf) (n:=x) (λ _ _ _ h k=>zAr k h) (by lia) (by lia) g1 hd,λ i hi k1 k2=>?_⟩;show kf R2[i]=kf (R2[x]'(by lia));by_cases ci:i=x
     .subst ci;rfl
     .rw[heq]
      exact g2 i hi (by lia) (by lia)
  .rintro c1 st' ⟨R2,q,rfl,e2,S2,p2,hq,hx2,g1,g2⟩
   exact⟨R2,_,q,rfl,e2,S2,p2,hq,hx2,g1,g2⟩
 .rintro c1 st' ⟨R2,x,q,rfl,e2,S2,p2,hq,hx2,g1,g2⟩
  rw[hF];have hl:=p2.length_eq;by_cases c0:q>0
  .rw[if_pos c0]
   refine zAO (tQ (i:=x-(q+1)) (j:=x) S2 (by lia) rfl (by lia) hx2 λ st3 e3 S3=>?_);have hk:=uc (O:=O) (kf:=kf) (q:=kf (R2[x-1]'(by lia))) R2 (i:=x-(q+1)) (j:=x) (by lia) (key R2 x q hq hx2 g2);have hp3:=pP R2 (i:=x-(q+1)) (j:=x) (by lia);have hl3:=hp3.length_eq;exact aDC c (e2.trans e3) S3 ((hp3.trans p2).trans hp) (by lia) (by lia) (yO hk _ g1) h (by lia) hF2
  .rw[if_neg c0]
   exact aDC c e2 S2 (p2.trans hp) (by lia) hx2 g1 h (by lia) hF2
def aFd{Q:Option Nat->zAy->Prop}(c:Cm prog w A s κ O kf G)(S:Sg κ G st lo P R)(hn:0<R.length)(h:Cn0 O kf κ G st lo P R Q):wpS (model prog w) A E s (countRun' lo R.length) Q st:=by
 have h1:(R.take 1).Pairwise (rK O kf):=by
  cases R with
  |nil=>cases hn
  |cons x R=>exact zCv _ _
 refine zAO (aDH c S (by decide) hn h1 (λ n n0 n1 n2 n3=>?_) rfl);dsimp only;by_cases c1:n=R.length
 .rw[if_pos (by simpa using c1)]
  exact zAZ (h n R st (Ea.refl st) S (zBN _) n0 n1 n2)
 rw[if_neg (by simpa using c1)];rcases n3 with n3|⟨hlt,n3⟩
 .exact absurd n3 c1
 by_cases c2:n>1
 .rw[if_pos c2]
  refine zAO (aDE (i:=0) (j:=n-1) c S (by lia) (by lia) hn (by lia) ?_);dsimp only;cases hb:O.blt (kf R[0]) (kf (R[n-1]'(by lia)))with
  |true=>rw[if_pos rfl];exact zAZ (h n R st (Ea.refl st) S (zBN _) n0 n1 n2)
  |false=>
   rw[if_neg zAG];have heq:∀x∈R.take n,kf x=kf R[0]:=λ x hx=>by
    have hf:=aAK n2 (y0:=R[0]) (by rw[zBJ (by lia),zAB hn]) x hx;have hla:=aCD n2 (z:=R[n-1]'(by lia)) (n:=n-1) (by rw[zA4];lia) (by rw[zBJ (by lia),zAB (by lia)]) x hx;exact zFz (zAr hla hb) hf
   refine zAO (tQ (i:=0) (j:=n) S rfl rfl (zAj _) n1 λ st2 e2 S2=>?_);rw[zDI,zBp,zCK]at S2;have hp2:((R.take n).reverse++R.drop n).Perm R:=by
    have:=pP R (i:=0) (j:=n) (zAj _)
    rwa [zDI,zBp,zCK]at this
   have hk:((R.take n).reverse++R.drop n).map kf=R.map kf:=by
    have:=uc (kf:=kf) R (i:=0) (j:=n) (zAj _) (q:=kf R[0]) (by rw[zCK];exact heq)
    rwa [zDI,zBp,zCK]at this
   have hl:=hp2.length_eq;refine aDF (n:=n) c e2 S2 hp2 (by lia) (yO hk _ ?_) h hl.symm (λ _=>rfl) λ _ _=>rfl
   refine pG (r:=rH O kf) (λ _ _ _ h k=>zAr k h) n0 hlt ?_ (zAi n3);refine zB7.mpr λ i j hi hj hij=>?_
   show O.kle (kf (R.take n)[j]) (kf (R.take n)[i]);rw[heq _ (zBg hj),heq _ (zBg hi)];exact zCm _
 .rw[if_neg c2]
  have:n=1:=by lia
  subst this;refine aDF (n:=1) c (Ea.refl st) S (zBN _) (by lia) ?_ h rfl (λ _=>rfl) λ _ _=>rfl
  exact pG (r:=rH O kf) (λ _ _ _ h k=>zAr k h) n0 hlt (by
   cases R with
   |nil=>cases hn
   |cons x R=>exact zCv _ _) (zAi n3)
end
def aFU(xs:Array Keyed){i k:Nat}(hik:i<=k)(hk:k<xs.size):(bubble xs k (k-i)).toList=xs.toList.take i++(xs[k]::((xs.toList.take k).drop i++xs.toList.drop (k+1))):=by
 refine zEj λ j=>?_
 rw[zAc,getElem?_bubble hk _ (by lia)];have l1:(xs.toList.take i).length=i:=by rw[zA4,zAb];lia
 have l2:((xs.toList.take k).drop i).length=k-i:=by rw[zBI,zA4,zAb];lia
 have hki:k-(k-i)=i:=by lia
 rw[hki];by_cases c1:j<i
 .rw[if_neg (by lia),if_neg (by lia),zAo (by lia),zBJ c1,zAc]
 .rw[zBL (by lia),l1]
  by_cases c2:j=i
  .subst c2
   rw[if_pos rfl,zEz,zBu,zAJ hk]
  .rw[if_neg c2]
   obtain⟨d,hd⟩:∃d,j-i=d+1:=⟨j-i-1,by lia⟩
   rw[hd,zBc];by_cases c3:j<=k
   .rw[if_pos (by lia),zAo (by lia),zCG,zBJ (by lia),zAc]
    congr 1;lia
   .rw[if_neg (by lia),zBL (by lia),l2,zCG,zAc]
    congr 1;lia
section
variable{prog:zAY}{w:World}{A:zAd}{E:Value->zAD->Prop}{s:zAD}{κ:zCx}{O:zCF}{kf:Keyed->O.α}{G:Keyed->Prop}{st:zAy}{P R:List Keyed}{lo:Nat}
def aAI(R:List Keyed){l k:Nat}(hlk:l<=k)(hk:k<R.length):(R.take l++(R[k]::((R.take k).drop l++R.drop (k+1)))).Perm R:=by
 have e:R=R.take l++((R.take k).drop l++R[k]::R.drop (k+1)):=by
  have e1:=zAs k R;have e2:=zAs l (R.take k);rw[zCd,zC9 hlk]at e2
  calc R=R.take k++R.drop k:=e1.symm
   _=(R.take l++(R.take k).drop l)++R[k]::R.drop (k+1):=by rw[e2,<-zBG hk]
   _=_:=zAe _ _ _
 conv=>rhs;rw[e]
 exact List.perm_middle.symm.append_left _
def aBV(R:List Keyed){l k:Nat}(hlk:l<=k)(hk:k<R.length)(hs:(R.take k).Pairwise (rK O kf))(h1:∀i (hi:i<l),rK O kf (R[i]'(by lia)) R[k])(h2:∀i (hi:i<k),l<=i->rK O kf R[k] (R[i]'(by lia))):
  ((R.take l++(R[k]::((R.take k).drop l++R.drop (k+1)))).take (k+1)).Pairwise (rK O kf):=by
 have e:(R.take l++(R[k]::((R.take k).drop l++R.drop (k+1)))).take (k+1)=R.take l++R[k]::(R.take k).drop l:=by
  rw[<-zEu,<-zAe];exact zGz (by rw[zAL,zA4,zA7,zBI,zA4];lia)
 rw[e];have e2:=zAs l (R.take k);rw[zCd,zC9 hlk]at e2;rw[<-e2]at hs;obtain⟨s1,s2,s3⟩:=zBC.mp hs;have m1:∀x∈R.take l,rK O kf x R[k]:=λ x hx=>by
  obtain⟨i,hi,e⟩:=zBW hx;rw[zA4]at hi;rw[zB9]at e;rw[<-e];exact h1 i (by lia)
 have m2:∀x∈(R.take k).drop l,rK O kf R[k] x:=λ x hx=>by
  obtain⟨i,hi,e⟩:=zBW hx;rw[zBI,zA4]at hi;rw[zEl,zB9]at e;rw[<-e];exact h2 _ (by lia) (by lia)
 refine zBC.mpr ⟨s1,zAh.mpr ⟨m2,s2⟩,λ x hx y hy=>?_⟩;rcases zAT.mp hy with rfl|hy
 .exact m1 x hx
 .exact s3 x hx y hy
def aHj{l k:Nat}{Q:Unit->zAy->Prop}(S:Sg κ G st lo P R)(hlk:l<=k)(hk:k<R.length)(h:∀st',Ea st st'->Sg κ G st' lo P (R.take l++(R[k]::((R.take k).drop l++R.drop (k+1))))->Q () st'):wpS (model prog w) A E s (moveDown' (lo+k) (lo+l)) Q st:=by
 rw[moveDown'_eq];refine zCg (h _ ⟨rfl,rfl,rfl⟩ ⟨S.k,?_,S.p,λ x hx=>S.g x ((aAI R hlk hk).mem_iff.mp hx)⟩)
 show(bubble (arrOf st) (lo+k) (lo+k-(lo+l))).toList=_
 have hsz:(arrOf st).size=lo+R.length:=by rw[<-zAb,S.l,zAL,S.p]
 rw[aFU _ (by lia) (by lia),S.l];have e1:(P++R).take (lo+l)=P++R.take l:=by rw[<-S.p,zDU,zBB (by lia),zBO]
 have e2:(P++R).take (lo+k)=P++R.take k:=by rw[<-S.p,zDU,zBB (by lia),zBO]
 have e3:(arrOf st)[lo+k]'(by lia)=R[k]:=by
  have:=S.at k
  rw[zAJ (by lia),zAB hk]at this;exact zAn this
 rw[e1,e2,e3,m8 P _ S.p,zEe,m8 P _ S.p,zAe]
def aFe{n ok:Nat}{Q:Bool->zAy->Prop}(c:Cm prog w A s κ O kf G)(S:Sg κ G st lo P R)(hn:n<=R.length)(h0:0<ok)(hok:ok<=n)(hs:(R.take ok).Pairwise (rK O kf))
  (h:∀R' st',Ea st st'->Sg κ G st' lo P R'->R'.Perm R->(R'.take n).Pairwise (rK O kf)->Q true st'):wpS (model prog w) A E s (binarySort' lo n ok) Q st:=by
 refine zAO (zCh (zB0 (I:=λ k c1 st'=>c1=(none,())/\∃R',Ea st st'/\Sg κ G st' lo P R'/\R'.Perm R/\(R'.take (min k n)).Pairwise (rK O kf)) (Q:=λ c1 st'=>c1=(none,())/\∃R',Ea st st'/\Sg κ G st' lo P R'/\R'.Perm R/\(R'.take n).Pairwise (rK O kf)) ?_ ?_ ?_) ?_)
 .rintro k c1 st' hak hkn ⟨rfl,R',e1,S1,p1,g⟩
  have hl:=p1.length_eq;rw[show min k n=k by lia]at g;have hkR:k<R'.length:=by lia
  dsimp only;refine zAO (zCh (zB0 (I:=λ x c2 st''=>st''=st'/\∃l r,c2=(none,l,r)/\∃(hlr:l<=r) (hr:r<=k),r-l<=k-x/\(∀i (hi:i<l),rK O kf (R'[i]'(by lia)) (R'[k]'hkR))/\∀i (hi:i<k),r<=i->O.klt (kf (R'[k]'hkR)) (kf (R'[i]'(by lia))))
   (Q:=λ c2 st''=>st''=st'/\∃l r,c2=(none,l,r)/\∃hr:l<=k,(∀i (hi:i<l),rK O kf (R'[i]'(by lia)) (R'[k]'hkR))/\∀i (hi:i<k),l<=i->O.klt (kf (R'[k]'hkR)) (kf (R'[i]'(by lia)))) ?_ ?_ ⟨rfl,0,k,rfl,by lia,zAP _,by lia,λ i hi=>absurd hi (zHI _),λ i hi h2=>by lia⟩) ?_)
  .rintro x c2 st'' _ hx ⟨rfl,l,r,rfl,hlr,hr,hm,g1,g2⟩
   dsimp only;by_cases cc:l ≥ r
   .rw[if_pos cc]
    have:l=r:=by lia
    subst this;exact zAZ ⟨rfl,l,l,rfl,hr,g1,g2⟩
   .rw[if_neg cc]
    refine zAO (ou c S1 hkR (by lia) ?_);dsimp only;cases hb:O.blt (kf (R'[k]'hkR)) (kf (R'[(l+r) / 2]'(by lia)))with
    |true=>
     rw[if_pos rfl];refine zAZ ⟨rfl,l,_,rfl,by lia,by lia,by lia,g1,λ i hi h2=>?_⟩;by_cases ci:i=(l+r) / 2
     .subst ci;exact hb
     .have:=zB7.mp g ((l+r) / 2) i (by rw[zA4];lia) (by rw[zA4];lia) (by lia)
      rw[zB9,zB9]at this;exact KeyOrd.klt_of_klt_of_kle hb this
    |false=>
     rw[if_neg zAG];refine zAZ ⟨rfl,_,r,rfl,by lia,hr,by lia,λ i hi=>?_,g2⟩;by_cases ci:i=(l+r) / 2
     .subst ci;exact hb
     .have:=zB7.mp g i ((l+r) / 2) (by rw[zA4];lia) (by rw[zA4];lia) (by lia)
      rw[zB9,zB9]at this;exact zAr this hb
  .rintro c2 st'' ⟨rfl,l,r,rfl,hlr,hr,hm,g1,g2⟩
   have:l=r:=by lia
   subst this;exact⟨rfl,l,l,rfl,hr,g1,g2⟩
  .rintro c2 st'' ⟨rfl,l,r,rfl,hr,g1,g2⟩
   dsimp only;refine zAO (aHj S1 hr hkR λ st3 e3 S3=>zAZ ⟨rfl,_,e1.trans e3,S3,(aAI R' hr hkR).trans p1,?_⟩);rw[show min (k+1) n=k+1 by lia];exact aBV R' hr hkR g g1 λ i hi h2=>zAi (g2 i hi h2)
 .rintro c1 st' ⟨rfl,R',e1,S1,p1,g⟩
  rw[show min (max (max ok 1) n) n=n by lia]at g;exact⟨rfl,R',e1,S1,p1,g⟩
 .rw[show max ok 1=ok by lia,show min ok n=ok by lia]
  exact⟨rfl,R,Ea.refl st,S,zBN _,hs⟩
 .rintro c1 st' ⟨rfl,R',e1,S1,p1,g⟩
  exact zAZ (h R' st' e1 S1 p1 g)
end
def Pr(O:zCF)(kf:Keyed->O.α):Nat->List (List Keyed)->List (Nat×Nat×Nat)->Prop
 |_,[],[]=>True
 |o,x::segs,p::ps=>p.1=o/\p.2.1=x.length/\0<x.length/\x.Pairwise (rK O kf)/\Pr O kf (o+x.length) segs ps
 |_,_,_=>False
section
variable{O:zCF}{kf:Keyed->O.α}
theorem Pr.len:∀{o:Nat} {segs:List (List Keyed)} {ps:List (Nat×Nat×Nat)},Pr O kf o segs ps->segs.length=ps.length
 |_,[],[],_=>rfl
 |_,_::_,_::_,h=>congrArg (·+1) (Pr.len h.2.2.2.2)
 |_,[],_::_,h=>h.elim
 |_,_::_,[],h=>h.elim
theorem Pr.few:∀{o:Nat} {segs:List (List Keyed)} {ps:List (Nat×Nat×Nat)},Pr O kf o segs ps->ps.length<=segs.flatten.length
 |_,[],[],_=>zAP _
 |_,x::_,_::_,h=>by
  have:=Pr.few h.2.2.2.2
  have:=h.2.2.1
  rw[zA7,zBn,zAL];lia
 |_,[],_::_,h=>h.elim
 |_,_::_,[],h=>h.elim
theorem Pr.snoc{x:List Keyed}{q:Nat}(hx:0<x.length)(sx:x.Pairwise (rK O kf)):∀{o:Nat} {segs:List (List Keyed)} {ps:List (Nat×Nat×Nat)},Pr O kf o segs ps->Pr O kf o (segs++[x]) (ps++[(o+segs.flatten.length,x.length,q)])
 |_,[],[],_=>⟨rfl,rfl,hx,sx,trivial⟩
 |o,y::segs,p::ps,h=>by
  have:=Pr.snoc (q:=q) hx sx h.2.2.2.2
  rw[zEe,<-zAL,<-zBn]at this;exact⟨h.1,h.2.1,h.2.2.1,h.2.2.2.1,this⟩
 |_,[],_::_,h=>h.elim
 |_,_::_,[],h=>h.elim
theorem Pr.mod{f:Nat×Nat×Nat->Nat×Nat×Nat}(hf:∀p,(f p).1=p.1/\(f p).2.1=p.2.1):∀{o:Nat} {segs:List (List Keyed)} {ps:List (Nat×Nat×Nat)} (j:Nat),Pr O kf o segs ps->Pr O kf o segs (ps.modify j f)
 |_,[],[],j,h=>by cases j<;>exact h
 |o,x::segs,p::ps,0,h=>⟨(hf p).1.trans h.1,(hf p).2.trans h.2.1,h.2.2⟩
 |o,x::segs,p::ps,j+1,h=>⟨h.1,h.2.1,h.2.2.1,h.2.2.2.1,Pr.mod hf j h.2.2.2.2⟩
 |_,[],_::_,_,h=>h.elim
 |_,_::_,[],_,h=>h.elim
theorem Pr.two:∀{o:Nat} {segs:List (List Keyed)} {ps:List (Nat×Nat×Nat)} (i:Nat),Pr O kf o segs ps->i+1<ps.length->∃S1 X Y S2 q q2,segs=S1++X::Y::S2/\ps[i]? =some (o+S1.flatten.length,X.length,q)/\ps[i+1]? =some (o+S1.flatten.length+X.length,Y.length,q2)/\
  0<X.length/\0<Y.length/\X.Pairwise (rK O kf)/\Y.Pairwise (rK O kf)/\∀M,M.length=X.length+Y.length->M.Pairwise (rK O kf)->Pr O kf o (S1++M::S2) ((ps.set i (o+S1.flatten.length,X.length+Y.length,q)).eraseIdx (i+1))
 |o,x::y::segs,p::p2::ps,0,h,_=>by
  obtain⟨h1,h2,h3,h4,k1,k2,k3,k4,k5⟩:=h;refine⟨[],x,y,segs,p.2.2,p2.2.2,rfl,?_,?_,h3,k3,h4,k4,λ M hM sM=>?_⟩
  .rw[zBu,zGn,zC5,zEx,<-h1,<-h2]
  .rw[zBc,zBu,zGn,zC5,zEx,<-k1,<-k2]
  .refine⟨rfl,hM.symm,by lia,sM,?_⟩
   rw[hM,<-zEe];exact k5
 |o,x::segs,p::ps,i+1,h,hi=>by
  obtain⟨h1,h2,h3,h4,h5⟩:=h;obtain⟨S1,X,Y,S2,q,q2,e,g1,g2,g3,g4,g5,g6,g7⟩:=Pr.two i h5 (by rw[zA7]at hi;lia);have hl:o+(x::S1).flatten.length=o+x.length+S1.flatten.length:=by rw[zBn,zAL];lia
  refine⟨x::S1,X,Y,S2,q,q2,by rw[e];rfl,by rw[zBc,g1,hl],by rw[zBc,g2,hl],g3,g4,g5,g6,λ M hM sM=>?_⟩;rw[hl];exact⟨h1,h2,h3,h4,g7 M hM sM⟩
 |_,_,[],_,_,hi=>by simp at hi
 |_,_,[_],0,_,hi=>by simp at hi
 |_,[],_::_,_,h,_=>h.elim
 |_,[_],_::_::_,0,h,_=>h.2.2.2.2.elim
end
section
variable{prog:zAY}{w:World}{A:zAd}{E:Value->zAD->Prop}{s:zAD}{κ:zCx}{O:zCF}{kf:Keyed->O.α}{G:Keyed->Prop}{st:zAy}{T R:List Keyed}{segs:List (List Keyed)}
structure Rn(κ:zCx)(O:zCF)(kf:Keyed->O.α)(T:List Keyed)(st:zAy)(segs:List (List Keyed))(R:List Keyed):Prop where
 k:zBf st=κ
 f:zCM st=none
 l:(arrOf st).toList=segs.flatten++R
 pm:(arrOf st).toList.Perm T
 pr:Pr O kf 0 segs (zAp st).toList
def xW{i:Nat}{Q:Bool->zAy->Prop}(c:Cm prog w A s κ O kf G)(gT:∀x∈T,G x)(N:Rn κ O kf T st segs R)(hi:i+1<(zAp st).size)
  (h:∀segs' st',Rn κ O kf T st' segs' R->segs'.flatten.length=segs.flatten.length->(zAp st').size+1=(zAp st).size->Q true st'):wpS (model prog w) A E s (mergeAt' i) Q st:=by
 obtain⟨S1,X,Y,S2,q,q2,e,g1,g2,g3,g4,g5,g6,g7⟩:=N.pr.two i (by simpa using hi);rw[zAc,zFA]at g1 g2;have hL:(arrOf st).toList=S1.flatten++(X++(Y++(S2.flatten++R))):=by rw[N.l,e];simp
 refine aFb c N.k N.f g1 g2 hL rfl rfl rfl rfl g3 g4 (λ x hx=>gT x (N.pm.mem_iff.mp hx)) g5 g6 λ M st' k1 f1 p1 a1 pM sM=>?_
 have lM:M.length=X.length+Y.length:=by rw[pM.length_eq,zAL]
 have hps:(zAp st').toList=((zAp st).toList.set i (S1.flatten.length,X.length+Y.length,q)).eraseIdx (i+1):=by
  rw[p1,Array.toList_eraseIdxIfInBounds,zFL]
 refine h (S1++M::S2) st' ⟨k1,f1,by rw[a1];simp,?_,?_⟩ ?_ ?_
 .refine List.Perm.trans ?_ N.pm
  rw[a1,hL];refine List.Perm.append_left _ ?_;rw[<-zAe X];exact pM.append_right _
 .rw[hps]
  have:=g7 M lM sM
  rwa [zFA]at this
 .rw[e]
  simp[lM];lia
 .rw[<-zAb,hps,List.length_eraseIdx_of_lt (by rw[zBT,zAb];exact hi),zBT,zAb]
  lia
end
section
variable{prog:zAY}{w:World}{A:zAd}{E:Value->zAD->Prop}{s:zAD}{κ:zCx}{O:zCF}{kf:Keyed->O.α}{G:Keyed->Prop}{st:zAy}{T R:List Keyed}{segs:List (List Keyed)}
def aDG{lo N:Nat}{P:List Keyed}{Q:Option Nat->zAy->Prop}(c:Cm prog w A s κ O kf G)(S:Sg κ G st lo P R)(hn:0<R.length)(h:Cn0 O kf κ G st lo P R Q)(hN:N=R.length):wpS (model prog w) A E s (countRun' lo N) Q st:=by
 subst hN;exact aFd c S hn h
def Rn.moved{R':List Keyed}{st':zAy}{lo:Nat}(N:Rn κ O kf T st segs R)(e:Ea st st')(S:Sg κ G st' lo segs.flatten R')(p:R'.Perm R):Rn κ O kf T st' segs R':=
 ⟨e.k.trans N.k,e.f.trans N.f,S.l,by rw[S.l];have:=N.pm;rw[N.l]at this;exact(p.append_left _).trans this,by rw[e.p];exact N.pr⟩
def Rn.push{n:Nat}{st':zAy}(N:Rn κ O kf T st segs R)(n0:0<n)(hn:n<=R.length)(sn:(R.take n).Pairwise (rK O kf))(k:zBf st'=zBf st)(f:zCM st'=zCM st)(a:arrOf st'=arrOf st)(ps:List (Nat×Nat×Nat))(hp:Pr O kf 0 segs ps)(p:(zAp st').toList=ps++[(segs.flatten.length,n,0)]):
  Rn κ O kf T st' (segs++[R.take n]) (R.drop n):=by
 have ln:(R.take n).length=n:=by rw[zA4];lia
 refine⟨k.trans N.k,f.trans N.f,?_,by rw[a];exact N.pm,?_⟩
 .rw[a,N.l,zCi,zCC,zAe,zAs]
 .rw[p]
  have:=Pr.snoc (q:=0) (x:=R.take n) (by lia) sn hp
  rwa [zFA,ln]at this
def aDD{Q:Unit->zAy->Prop}(c:Cm prog w A s κ O kf G)(hT:(arrOf st).toList=T)(gT:∀x∈T,G x)(hk:zBf st=κ)(hf:zCM st=none)(hp:zAp st=#[])(hr:∀n,0<n->0<zF0 n n 0)
  (h:∀st',zCM st'=none->(arrOf st').toList.Perm T->(arrOf st').toList.Pairwise (rK O kf)->Q () st'):wpS (model prog w) A E s sortRuns' Q st:=by
 have hsz:(arrOf st).size=T.length:=by rw[<-hT,zAb]
 rw[sortRuns'_eq];refine zAO (zDr ?_);dsimp only;refine zAO (zCh (zB0 (I:=λ x c1 st'=>∃segs R lo,c1=(none,lo)/\Rn κ O kf T st' segs R/\segs.flatten.length=lo/\x<=lo) (Q:=λ c1 st'=>∃segs lo,c1=(none,lo)/\Rn κ O kf T st' segs []) ?_ ?_ ?_) ?_)
 .rintro x c1 st1 _ hx ⟨segs,R,lo,rfl,N,hlo,hxl⟩
  have hlen:lo+R.length=T.length:=by
   have:=N.pm.length_eq
   rw[N.l,zAL,hlo]at this;exact this
  dsimp only;by_cases c0:lo ≥ (arrOf st).size
  .rw[if_pos c0]
   have:R=[]:=zCt.mp (by lia)
   subst this;exact zAZ ⟨segs,lo,rfl,N⟩
  rw[if_neg c0];have S:Sg κ G st1 lo segs.flatten R:=⟨N.k,N.l,hlo,λ x hx=>gT x (N.pm.mem_iff.mp (by rw[N.l];simp[hx]))⟩;refine zAO (aDG c S (by lia) (λ m R1 st2 e1 S1 p1 m0 m1 m2=>?_) (by lia));have N1:=N.moved e1 S1 p1;have l1:=p1.length_eq;dsimp only;by_cases c2:m<zF0 (arrOf st).size (arrOf st).size 0
  .rw[if_pos c2]
   have hmr:=hr (arrOf st).size (by lia);refine zAO (zFK (zDC ⟨rfl,?_⟩));refine zAO (aFe (n:=min ((arrOf st).size-lo) (zF0 (arrOf st).size (arrOf st).size 0)) c S1 (by lia) m0 (by lia) m2 λ R2 st3 e2 S2 p2 g2=>?_);rw[if_neg (by decide)];have N2:=N1.moved e2 S2 p2;have l2:=p2.length_eq;obtain⟨n,hn⟩:∃n,n=min ((arrOf st).size-lo) (zF0 (arrOf st).size (arrOf st).size 0):=⟨_,rfl⟩
   have n0:0<n:=by lia
   have nR:n<=R2.length:=by lia
   rw[<-hn]at g2;refine zAO (zDr ?_);cases hbk:(zAp st3).back? with
   |none=>
    dsimp only;refine zAO (zCg (zAZ ⟨segs++[R2.take n],R2.drop n,lo+n,by rw[hn],N2.push n0 nR g2 rfl rfl rfl _ N2.pr ?_,?_,by lia⟩))
    .show((zAp st3).push (lo,min ((arrOf st).size-lo) (zF0 (arrOf st).size (arrOf st).size 0),0)).toList=_
     rw[zB8,hlo,hn]
    .rw[zCi,zCC,zAL,hlo,zA4]
     lia
   |some p=>
    obtain⟨s1,n1,q1⟩:=p;dsimp only;refine zAO (zCh (zB0 (I:=λ _ c2 st'=>c2=(none,())/\∃segs',Rn κ O kf T st' segs' R2/\segs'.flatten.length=lo) (Q:=λ c2 st'=>c2=(none,())/\∃segs',Rn κ O kf T st' segs' R2/\segs'.flatten.length=lo) ?_ (λ _ _ z=>z) ⟨rfl,segs,N2,hlo⟩) ?_)
    .rintro y c2 st4 _ hy ⟨rfl,segs',N4,l4⟩
     refine zAO (zDr ?_);by_cases c3:(zAp st4).size>1
     .obtain⟨⟨u1,u2,u3⟩,hu⟩:∃u,(zAp st4)[(zAp st4).size-2]? =some u:=⟨_,zAJ (by lia)⟩
      rw[if_pos c3,hu];dsimp only;split
      .exact zAZ ⟨rfl,segs',N4,l4⟩
      .refine zAO (xW c gT N4 (by lia) λ segs2 st5 N5 l5 s5=>?_)
       rw[if_neg (by decide)];exact zAZ ⟨rfl,segs2,N5,l5.trans l4⟩
     .rw[if_neg c3]
      exact zAZ ⟨rfl,segs',N4,l4⟩
    .rintro c2 st4 ⟨rfl,segs',N4,l4⟩
     dsimp only;refine zAO (zCg (zAO (zCg (zAZ ⟨segs'++[R2.take n],R2.drop n,lo+n,by rw[hn],N4.push n0 nR g2 rfl rfl rfl _ (N4.pr.mod (f:=λ x=>(x.1,x.2.1,power' (arrOf st).size (2*s1+n1) (2*s1+n1+n1+(min ((arrOf st).size-lo) (zF0 (arrOf st).size (arrOf st).size 0))) (arrOf st).size)) (λ _=>⟨rfl,rfl⟩) ((zAp st4).size-1)) ?_,?_,by lia⟩))))
     .show(((zAp st4).modify ((zAp st4).size-1) _).push (lo,min ((arrOf st).size-lo) (zF0 (arrOf st).size (arrOf st).size 0),0)).toList=_
      rw[zB8,zGD,l4,hn]
     .rw[zCi,zCC,zAL,l4,zA4]
      lia
  .rw[if_neg c2]
   obtain⟨n,hn⟩:∃n,n=m:=⟨_,rfl⟩
   have n0:0<n:=by lia
   have nR:n<=R1.length:=by lia
   rw[<-hn]at m2;refine zAO (zDr ?_);cases hbk:(zAp st2).back? with
   |none=>
    dsimp only;refine zAO (zCg (zAZ ⟨segs++[R1.take n],R1.drop n,lo+n,by rw[hn],N1.push n0 nR m2 rfl rfl rfl _ N1.pr ?_,?_,by lia⟩))
    .show((zAp st2).push (lo,m,0)).toList=_
     rw[zB8,hlo,hn]
    .rw[zCi,zCC,zAL,hlo,zA4]
     lia
   |some p=>
    obtain⟨s1,n1,q1⟩:=p;dsimp only;refine zAO (zCh (zB0 (I:=λ _ c2 st'=>c2=(none,())/\∃segs',Rn κ O kf T st' segs' R1/\segs'.flatten.length=lo) (Q:=λ c2 st'=>c2=(none,())/\∃segs',Rn κ O kf T st' segs' R1/\segs'.flatten.length=lo) ?_ (λ _ _ z=>z) ⟨rfl,segs,N1,hlo⟩) ?_)
    .rintro y c2 st4 _ hy ⟨rfl,segs',N4,l4⟩
     refine zAO (zDr ?_);by_cases c3:(zAp st4).size>1
     .obtain⟨⟨u1,u2,u3⟩,hu⟩:∃u,(zAp st4)[(zAp st4).size-2]? =some u:=⟨_,zAJ (by lia)⟩
      rw[if_pos c3,hu];dsimp only;split
      .exact zAZ ⟨rfl,segs',N4,l4⟩
      .refine zAO (xW c gT N4 (by lia) λ segs2 st5 N5 l5 s5=>?_)
       rw[if_neg (by decide)];exact zAZ ⟨rfl,segs2,N5,l5.trans l4⟩
     .rw[if_neg c3]
      exact zAZ ⟨rfl,segs',N4,l4⟩
    .rintro c2 st4 ⟨rfl,segs',N4,l4⟩
     dsimp only;refine zAO (zCg (zAO (zCg (zAZ ⟨segs'++[R1.take n],R1.drop n,lo+n,by rw[hn],N4.push n0 nR m2 rfl rfl rfl _ (N4.pr.mod (f:=λ x=>(x.1,x.2.1,power' (arrOf st).size (2*s1+n1) (2*s1+n1+n1+(m)) (arrOf st).size)) (λ _=>⟨rfl,rfl⟩) ((zAp st4).size-1)) ?_,?_,by lia⟩))))
     .show(((zAp st4).modify ((zAp st4).size-1) _).push (lo,m,0)).toList=_
      rw[zB8,zGD,l4,hn]
     .rw[zCi,zCC,zAL,l4,zA4]
      lia
 .rintro c1 st1 ⟨segs,R,lo,rfl,N,hlo,hxl⟩
  have hlen:lo+R.length=T.length:=by
   have:=N.pm.length_eq
   rw[N.l,zAL,hlo]at this;exact this
  have:R=[]:=zCt.mp (by lia)
  subst this;exact⟨segs,lo,rfl,N⟩
 .exact⟨[],T,0,rfl,⟨hk,hf,hT,by rw[hT],by rw[hp];exact trivial⟩,rfl,zAP _⟩
 .rintro c1 st1 ⟨segs,lo,rfl,N⟩
  dsimp only;have hps:(zAp st1).size<=(arrOf st).size:=by
   have h1:=N.pr.few;have h2:=N.pm.length_eq;rw[N.l,zA9]at h2;rw[zAb]at h1;lia
  refine zAO (zCh (zB0 (I:=λ x c2 st'=>c2=(none,())/\∃segs,Rn κ O kf T st' segs []/\(zAp st').size<=max 1 ((arrOf st).size-x)) (Q:=λ c2 st'=>c2=(none,())/\∃segs,Rn κ O kf T st' segs []/\(zAp st').size<=1) ?_ ?_ ⟨rfl,segs,N,by lia⟩) ?_)
  .rintro x c2 st2 _ hx ⟨rfl,segs,N,hps⟩
   refine zAO (zDr ?_);by_cases c3:(zAp st2).size<=1
   .rw[if_pos c3]
    exact zAZ ⟨rfl,segs,N,c3⟩
   .rw[if_neg c3]
    refine zAO (xW c gT N (by split<;>lia) λ segs' st3 N3 l3 s3=>?_);rw[if_neg (by decide)];exact zAZ ⟨rfl,segs',N3,by lia⟩
  .rintro c2 st2 ⟨rfl,segs,N,hps⟩
   exact⟨rfl,segs,N,by lia⟩
  .rintro c2 st2 ⟨rfl,segs,N,hps⟩
   refine zAZ (h st2 N.f N.pm ?_);have hl:segs.length<=1:=by rw[N.pr.len,zAb];exact hps
   have:=N.pr
   rw[N.l,zA9]
   match segs,hl,this with
   |[],_,_=>exact .nil
   |[x],_,q=>
    rw[zCC];cases e:(zAp st2).toList with
    |nil=>rw[e]at q;exact q.elim
    |cons p ps=>rw[e]at q;exact q.2.2.2.1
   |_::_::_,hl,_=>rw[zA7,zA7]at hl;lia
end
theorem uZ:∀(f n r:Nat),0<n->0<zF0 f n r
 |0,n,r,h=>show 0<n+r by lia
 |f+1,n,r,h=>by
  rw[minRun'_succ];split
  .lia
  .exact uZ f _ _ (by lia)
theorem wV:∀{vs:List Value} {ns ms:List Int},zBZ vs ns->zBZ vs ms->ns=ms
 |_,_,_,.nil,h=>by cases h;rfl
 |_,_,_,.cons n t r,h=>by
  cases h with
  |cons _ _ r'=>rw[wV r r']
def qP.uniq{h:Heap}{v:Value}{ns ms:List Int}(a:qP h (v,ns))(b:qP h (v,ms)):ns=ms:=by
 obtain⟨x,o,xs,k,e1,e2,_,e4,e5,_⟩:=a;obtain⟨y,o',ys,k',f1,f2,_,f4,f5,_⟩:=b;dsimp only at e1 f1 e5 f5;rw[e1]at f1;cases f1;rw[e2]at f2;cases f2;rw[e4]at f4;cases f4;exact wV e5 f5
open Classical in
def kfT(h:Heap)(p:Keyed):List Int:=if q:∃ns,qP h (p.1,ns)then q.choose else[]
def aBN{h:Heap}{p:Keyed}{ns:List Int}(q:qP h (p.1,ns)):kfT h p=ns:=by
 have hq:∃ns,qP h (p.1,ns):=⟨ns,q⟩
 unfold kfT;rw[dif_pos hq];exact hq.choose_spec.uniq q
section
variable{prog:zAY}{w:World}{A:zAd}{E:Value->zAD->Prop}{s:zAD}
def cmT:Cm prog w A s (tuples' true) aIw (kfT s.heap) (λ p=>∃ns,qP s.heap (p.1,ns)):=⟨λ x y ⟨ns,hx⟩ ⟨ms,hy⟩ C hC=>by
 rw[aBN hx,aBN hy]at hC;obtain⟨a,oa,xs,k,e1,e2,_,e4,e5,_⟩:=hx;obtain⟨b,ob,ys,k',f1,f2,_,f4,f5,_⟩:=hy;dsimp only at e1 f1 e5 f5;rw[e1,f1];exact aBO e2 e4 f2 f4 e5 f5 hC⟩
theorem tO:∀zs:List (Value×List Int),((zs.map (·.1)).zip (zs.map (·.1)))=zs.map λ p=>(p.1,p.1)
 |[]=>rfl
 |p::zs=>by rw[zA0,zBV,tO zs];rfl
def aBF{a:Addr}{zs:List (Value×List Int)}{n:Nat}{P:PySem.Fin->zAD->Prop}(ho:s.heap.get? a=some (zDO "list" (zs.map (·.1)).toArray n))(hz:∀p∈zs,qP s.heap p)(hl:zs.length<=4000)
  (h:∀zs':List (Value×List Int),zs'.Perm zs->lL (zs'.map (·.2))->P (.done (.ret .none)) {s with heap:=zHb s.heap a (zs.map (·.1)) (zs'.map (·.1)).toArray}):
  wpAny (model prog w) A (zFR.«list.sort» ⟨[.ref a],[]⟩) P E s:=by
 have hlen:(zs.map (·.1)).length=zs.length:=zAF _;have hsz:(zs.map (·.1)).length<=zAV:=by rw[zD8];lia
 obtain⟨e1,ho1⟩:∃e1,(s.heap.update a (zDJ λ _=>(#[]:Array Value))).get? a=some (zDO "list" #[] e1):=⟨_,zFq ho λ _=>#[]⟩
 have ho6:(((s.heap.update a (zDJ λ _=>(#[]:Array Value))).push (zDO "tuple" (zs.map (·.1)).toArray 0)).push (zDO "list" #[] 0)).get? a=some (zDO "list" #[] e1):=zAE _ (zAE _ ho1);have hz6:∀p∈zs,qP (((s.heap.update a (zDJ λ _=>(#[]:Array Value))).push (zDO "tuple" (zs.map (·.1)).toArray 0)).push (zDO "list" #[] 0)) p:=λ p hp=>by
  obtain⟨x,o,xs,k,q1,q2,q3,q4⟩:=hz p hp;refine⟨x,o,xs,k,q1,?_,q3,q4⟩;have hxa:x≠a:=λ z=>by
   subst z;rw[ho]at q2;cases q2;exact absurd q3 (show¬(zCk "list"=zCk "tuple")by decide)
  refine zAE _ (zAE _ ?_);rw[zD0 _ _ _ _ hxa];exact q2
 rw[list_sort_plain];refine zAC (listItems_at ho rfl (zAC (listUpdate_at ho rfl ?_ (by rw[zAH];exact hsz) (zAj _))));refine zAC (zHJ ho1 rfl (zAC (wpAny_newTuple ?_ (by show(zs.map (·.1)).length<=_;exact hsz))));refine zAC (wpAny_newList (zC0 ?_) (zAj _));show wpAny (model prog w) A _ P E {s with heap:=((s.heap.update a (zDJ λ _=>(#[]:Array Value))).push (zDO "tuple" (zs.map (·.1)).toArray 0)).push (zDO "list" #[] 0)};obtain⟨s6,hs6⟩:∃s6:zAD,s6={s with heap:=((s.heap.update a (zDJ λ _=>(#[]:Array Value))).push (zDO "tuple" (zs.map (·.1)).toArray 0)).push (zDO "list" #[] 0)}:=⟨_,rfl⟩
 have hh6:s6.heap=((s.heap.update a (zDJ λ _=>(#[]:Array Value))).push (zDO "tuple" (zs.map (·.1)).toArray 0)).push (zDO "list" #[] 0):=by rw[hs6]
 rw[<-hh6]at ho6 hz6;rw[<-hs6];dsimp only;have fin:∀zs':List (Value×List Int),zs'.Perm zs->lL (zs'.map (·.2))->wpAny (model prog w) A (zEi (.ref a) (λ _=>(zs'.map (·.1)).toArray)>>=λ _=>ret .none) P E s6:=λ zs' p1 p2=>by
  refine zAC (listUpdate_at ho6 rfl ?_ (zAj _) (by show(zs'.map (·.1)).toArray.size<=_;rw[zAH,zAF,p1.length_eq];lia));refine zAI ?_
  have:=h zs' p1 p2
  unfold zHb at this;rw[hs6];exact this
 by_cases h2:(zs.map (·.1)).toArray.size<2
 .rw[if_pos h2,if_pos h2]
  refine zAC (zAI ?_);rw[StateT.run_pure];refine zAC (zAI ?_);dsimp only;refine zAC (zHJ ho6 rfl ?_);have hr:lL (zs.map (·.2)):=by
   rw[zAH,hlen]at h2
   match zs,h2 with
   |[],_=>exact .nil
   |[p],_=>exact zCv _ _
   |_::_::_,h2=>rw[zA7,zA7]at h2;lia
  have e:((zs.map (·.1)).toArray.zip (zs.map (·.1)).toArray).map (·.2)=(zs.map (·.1)).toArray:=by
   apply Array.ext';rw[zG9,zGa,tO,zBh];rfl
  have:=fin zs (zBN _) hr
  show wpAny (model prog w) A (zEi (.ref a) (λ _=>((zs.map (·.1)).toArray.zip (zs.map (·.1)).toArray).map (·.2))>>=_) P E _;rw[e];simp only[bne_self_eq_false,zBq,if_false];exact this
 .rw[if_neg h2,if_neg h2]
  have h2':2<=zs.length:=by rw[zAH,hlen]at h2;lia
  obtain⟨fs,f1,f2,f3⟩:=(aBc hz6).firsts;refine zAC (PySem.W.kat_kind (T:=.type "int") f1 (by rw[f2,hlen];lia) (λ v hv=>?_) (by decide) ?_)
  .obtain⟨n,t,rfl⟩:=f3 v hv
   exact zH4
  rw[show(zCk "int" !=zCk "tuple")=true by decide];refine zAC (zBF (aDD (κ:=tuples' true) (O:=aIw) (kf:=kfT s6.heap) (G:=λ p=>∃ns,qP s6.heap (p.1,ns)) (T:=zs.map λ p=>(p.1,p.1)) (Q:=λ _ st'=>zCM st'=none/\(arrOf st').toList.Perm (zs.map λ p=>(p.1,p.1))/\(arrOf st').toList.Pairwise (rK aIw (kfT s6.heap))) cmT ?_ ?_ rfl rfl rfl (λ n hn=>uZ n n 0 hn) λ st' b1 b2 b3=>⟨b1,b2,b3⟩) (λ r s' hr=>?_) λ _ _ e=>e)
  .show((zs.map (·.1)).toArray.zip (zs.map (·.1)).toArray).toList=_
   rw[zGa,tO]
  .intro x hx
   obtain⟨p,hp,rfl⟩:=zBH.mp hx;exact⟨p.2,hz6 p hp⟩
  .obtain⟨⟨⟩,st'⟩:=r
   obtain⟨hs',b1,b2,b3⟩:=hr;replace hs':=hs'.symm;subst hs';refine zAC (zHJ ho6 rfl ?_);have e1:(zs.map λ p=>(p.1,p.1)).map (λ q:Keyed=>(q.2,kfT s6.heap q))=zs:=by
    rw[zBh]
    conv=>rhs;rw[<-zGQ zs]
    refine zET λ p hp=>?_
    show(p.1,kfT s6.heap (p.1,p.1))=p
    rw[aBN (hz6 p hp)]
   have p1:((arrOf st').toList.map λ q:Keyed=>(q.2,kfT s6.heap q)).Perm zs:=by
    have:=b2.map λ q:Keyed=>(q.2,kfT s6.heap q)
    rwa [e1]at this
   have p2:lL (((arrOf st').toList.map λ q:Keyed=>(q.2,kfT s6.heap q)).map (·.2)):=by
    unfold lL;rw[zBh,zEm];exact b3
   have e2:(arrOf st').map (·.2)=(((arrOf st').toList.map λ q:Keyed=>(q.2,kfT s6.heap q)).map (·.1)).toArray:=by
    rw[zBh];apply Array.ext';rw[zG9];rfl
   have:=fin _ p1 p2
   rw[e2,b1];simp only[bne_self_eq_false,zBq,if_false];exact this
end
section
variable{prog:zAY}{w:World}{A:zAd}{E:Value->zAD->Prop}{s:zAD}
def xq{zs:List (Value×List Int)}{Q:Value->zAD->Prop}(hz:∀p∈zs,qP s.heap p)(hl:zs.length<4000)
  (h:∀(zs':List (Value×List Int)) h' e,zs'.Perm zs->lL (zs'.map (·.2))->(∀b o,s.heap.get? b=some o->h'.get? b=some o)->h'.get? s.heap.objs.size=some (zDO "list" (zs'.map (·.1)).toArray e)->Q (.ref s.heap.objs.size) {s with heap:=h'}):
  wpAny (model prog w) A (zG5 (zs.map (·.1))>>=λ l=>zE1 [l] (call (.builtin "list.sort") [l])>>=λ _=>ret l) (λ fin s'=>∃r,fin= .done (.ret r)/\Q r s') E s:=by
 have hlen:(zs.map (·.1)).length=zs.length:=zAF _;refine zAC (wpAny_newList ?_ (by rw[zD8];lia));have hoL:(s.heap.push (zDO "list" (zs.map (·.1)).toArray 0)).get? s.heap.objs.size=some (zDO "list" (zs.map (·.1)).toArray 0):=zA3 _ rfl;refine zAC (zC0 (zEM slot_list_sort ⟨_,hoL,rfl⟩ entry_list_sort ?_ (args_list_sort _)));refine aBF (s:={s with heap:=s.heap.push (zDO "list" (zs.map (·.1)).toArray 0)}) hoL (λ p hp=>?_) (by lia) λ zs' a1 a2=>⟨_,rfl,?_⟩
 .obtain⟨x,o,xs,k,e1,e2,e3⟩:=hz p hp
  exact⟨x,o,xs,k,e1,zAE _ e2,e3⟩
 have hne:∀b o,s.heap.get? b=some o->b≠s.heap.objs.size:=λ b o e=>zA6 (zAU e)
 obtain⟨e1,he1⟩:∃e1,((s.heap.push (zDO "list" (zs.map (·.1)).toArray 0)).update s.heap.objs.size (zDJ λ _=>(#[]:Array Value))).get? s.heap.objs.size=some (zDO "list" #[] e1):=⟨_,zFq hoL λ _=>#[]⟩
 have g1:=zAE (zDO "list" #[] 0) (zAE (zDO "tuple" (zs.map (·.1)).toArray 0) he1);have g2:=zFq g1 (λ _=>(zs'.map (·.1)).toArray);refine zAI ⟨_,rfl,h zs' _ _ a1 a2 (λ b o e=>?_) g2⟩;unfold zHb;rw[zD0 _ _ _ _ (hne b o e)];refine zAE _ (zAE _ ?_);rw[zD0 _ _ _ _ (hne b o e)];exact zAE _ e
end
section
variable{X:Cx}
def zR{pins:List (Addr×Obj)}(I:Inv X pins Z H s)(ht:fL X.K H vs nss)(h64:vs.length<4000)(q:aF1 H vs nss Q)
  (hs1:∃h1 tk,s1={s with heap:=h1,toks:=tk}/\s.heap.objs.size<=h1.objs.size/\∀b o,s.heap.get? b=some o->h1.get? b=some o){zs:List (Value×List Int)}(hz:zs.Perm ((vs.map ql).zip nss))(hus:us=zs.map (·.1)):
  wpAny (model X.prog X.w) X.A.in1 (zG5 us>>=λ l=>zE1 [l] (call (.builtin "list.sort") [l])>>=λ _=>ret l) (λ fin s'=>∃r,fin= .done (.ret r)/\EP X pins Z Q r s') X.xe s1:=by
 obtain⟨h1,tk,rfl,hsz,keep⟩:=hs1;subst hus;have hall:∀p∈zs,qP h1 p:=λ p hp=>by
  obtain⟨x,o,xs,k,e1,e2,e3⟩:=(ht.at I).all p (hz.mem_iff.mp hp);exact⟨x,o,xs,k,e1,keep _ _ e2,e3⟩
 have hlen:zs.length<4000:=by
  rw[hz.length_eq,zGy,zAF,<-ht.len,zEy];exact h64
 refine xq (s:={s with heap:=h1,toks:=tk}) hall hlen λ zs' h' e a1 a2 a3 a4=>?_
 have hmap:(vs.map ql).zip nss=(vs.zip nss).map λ p=>(ql p.1,p.2):=by rw[List.zip_map_left];rfl
 obtain⟨ws,w1,w2⟩:=yQ (f:=λ p:V×List Int=>(ql p.1,p.2)) (a1.trans hz) hmap;have hfr:H h1.objs.size=none:=I.hok.fresh hsz;have hmem:∀v∈ws.map (·.1),RelV v (ql v):=λ v hv=>by
  obtain⟨p,hp,rfl⟩:=zBH.mp hv;exact ht.refs p.1 (zCu (w1.mem_iff.mp hp)).1
 have hws:zs'.map (·.1)=(ws.map (·.1)).map ql:=by rw[w2,zBh,zBh];rfl
 have hwl:(ws.map (·.1)).length<=zAV:=by
  rw[zAF,w1.length_eq,zGy,<-ht.len,zEy,zD8];lia
 refine⟨.ref h1.objs.size,upd H h1.objs.size (.lst (ws.map (·.1))),I.laid (t':=tk) (λ b o e=>a3 b o (keep b o e)) hsz ⟨hwl,(ws.map (·.1)).map ql,e,wC hmem,?_⟩,rfl,(q ws w1 ?_).at hfr⟩
 .rw[<-hws];exact a4
 .have:ws.map (·.2)=zs'.map (·.2):=by rw[w2,zBh];rfl
  rw[this];exact a2
def aAq(K:zAA):List V->Hp->VK->Prop:=λ xs H Q=>∃p vs nss,xs=[.ref p]/\SqL K H p vs/\fL K H vs nss/\vs.length<4000/\aF1 H vs nss Q
def vy:eQ X (.builtin "sorted") (aAq X.K):=by
 intro pins s Z H xs us Q I r h;obtain⟨p,vs,nss,rfl,hp,ht,h64,q⟩:=h;obtain⟨u,rfl,ru⟩:=vals1 r;cases ru;obtain⟨its,rv,pl,hz⟩:=I.list hp;have e:=ht.vals rv;subst e;have hl2:(vs.map ql).length=nss.length:=by rw[zAF];exact ht.len
 refine xr (collect_list pl.isList ?_ (by rw[zAF];exact hz));refine zR I ht h64 q ⟨_,_,rfl,?_,λ b o e=>?_⟩ (zBN _) ?_
 .rw[Heap.size_update,size_push']
  exact zEW _
 .rw[zD0 _ _ _ _ (zA6 (zAU e))]
  exact zAE _ e
 .exact(List.map_fst_zip (by lia)).symm
end
def oG:List D->Rs D
 |[.lst l]=>match nq l with
  |some nss=>if nss.length<4000 then .ok (.lst ((j6 nss).map tupI))else .st
  |none=>.st
 |_=>.st
def aB2{K:zAA}:aF7 K (aAq K) oG:=by
 intro A xs ds H Q z r ez q;unfold oG at ez;split at ez
 .cases r with
  |cons h r=>
   cases r;cases h with
   |lst h m r=>
    split at ez
    .rename_i nss e
     obtain⟨e1,e2⟩:=lR e;subst e1;split at ez
     .rename_i hl
      cases ez;have ht:=tU r e2;exact⟨_,_,nss,rfl,SqL.of h,ht,by rw[ht.len];exact hl,aD3 ht q⟩
     .cases ez
    .cases ez
 .cases ez
section
variable{C:Ct}{pos p:Pos}{m:Mode}{a:Expr}{ga:En->Rs (List D)}
def aA9(hm:C.mg "sorted"=none)(ha:SA C m [a] ga)(he:∀i,zA2 [a] (C.X i).env=[(false,eval a (C.X i).env)]:=by intro _;rfl)(hg:∀i,Gl (C.X i) "sorted":=by intro _;rfl)(hv:zBR "sorted"=some (.builtin "sorted"):=by decide+kernel):SE C (some []) (.Call (.Name "sorted" p) [a] [] pos) (opA oG ga):=by
 obtain⟨t,h1,h2⟩:=ha;refine⟨_,λ i=>pK (r:=aAq C.K) (by rw[<-C.hK i];exact vy) (hg i) (by rw[(C.cx i).2.2.2.1];exact hm) hv (h1 i) (by decide) (by decide) (he i) rfl,aBg aB2 h2⟩
end
def ddI(ns:List Int):List Int:=ns.foldl zDD []
def aFM(ns:List Int):zDn (λ i=>ns.getD i 0) ns.length=ddI ns:=by
 unfold zDn ddI;congr 1;refine List.ext_getElem (by simp) λ i h1 h2=>?_
 rw[zGo,List.getElem_range,zCc,zAB h2];rfl
def aHD(hl:l.Nodup)(n:Int):(zDD l n).Nodup/\∀x,x∈zDD l n↔x∈l\/x=n:=by
 unfold zDD;by_cases h:l.any (·==n)=true
 .rw[if_pos h]
  have:n∈l:=by simpa using h
  exact⟨hl,λ x=>⟨.inl,λ q=>q.elim id λ e=>e▸this⟩⟩
 .rw[if_neg h]
  have:n∉l:=by simpa using h
  refine⟨zGc.mpr ⟨hl,by simp,λ x hx y hy e=>?_⟩,λ x=>by simp⟩;rw[zAu]at hy;subst hy;subst e;exact this hx
theorem aHg:∀(ns acc:List Int),acc.Nodup->(ns.foldl zDD acc).Nodup/\∀x,x∈ns.foldl zDD acc↔x∈acc\/x∈ns
 |[],acc,h=>⟨h,λ x=>by simp⟩
 |n::ns,acc,h=>by
  obtain⟨h1,h2⟩:=aHD h n;obtain⟨h3,h4⟩:=aHg ns _ h1;refine⟨h3,λ x=>?_⟩;rw[zC4,h4,h2,zAT];constructor
  .rintro((a|a)|a)
   .exact .inl a
   .exact .inr (.inl a)
   .exact .inr (.inr a)
  .rintro(a|a|a)
   .exact .inl (.inl a)
   .exact .inl (.inr a)
   .exact .inr a
def xN(ns:List Int):(ddI ns).Nodup:=(aHg ns [] (by simp)).1
section
variable{X:Cx}
def aDo(K:zAA):List V->Hp->VK->Prop:=λ xs H Q=>∃p ns,xs=[.ref p]/\(SqL K H p (ns.map V.int)\/SqT K H p (ns.map V.int))/\ns.length<4000/\∀a H',aO H H'->H' a=some (.set (λ k=>(ddI ns).any (·==k)) (ddI ns).length)->H a=none->Q (.ref a) H'
def zV(I:Inv X pins Z H s)(q:∀a H',aO H H'->H' a=some (.set (λ k=>(ddI ns).any (·==k)) (ddI ns).length)->H a=none->Q (.ref a) H')
  (g1:h'.SetOf (zG4 X.prog X.w) s.heap.objs.size (λ k'=>(zDn (λ i=>ns.getD i 0) ns.length).any (·==k')) (zDn (λ i=>ns.getD i 0) ns.length).length)(g2:∀b o,s.heap.get? b=some o->h'.get? b=some o):EP X pins Z Q (.ref s.heap.objs.size) {s with heap:=h',toks:=tk}:=by
 rw[aFM]at g1;have hfr:H s.heap.objs.size=none:=I.hok.fresh (zAP _);exact⟨.ref s.heap.objs.size,upd H s.heap.objs.size (.set (λ k=>(ddI ns).any (·==k)) (ddI ns).length),I.laid (t':=tk) g2 (zAP _) g1,rfl,q _ _ (az hfr _) aX hfr⟩
def zU{s:zAD}{St:Nat->zAD->Prop}(hl:l<s.heap.objs.size)(hi:zBZ its ns)(hz:ns.length<4000)
  (W:WalksS prog w A.in1 (s.heap.objs.size+1) [s.heap.objs.size+1,l] [s.heap.objs.size+1] (λ a b=>b=a) its.toArray.size (λ i v=>its.toArray[i]? =some v) St)(st:St 0 {s with heap:=(s.heap.push (eV #[] 0 (.fresh 0 0 led))).push oI})
  (R:zEZ->zAD->Prop)(hR:∀h' tk,h'.SetOf (zG4 prog w) s.heap.objs.size (λ k'=>(zDn (λ i=>ns.getD i 0) ns.length).any (·==k')) (zDn (λ i=>ns.getD i 0) ns.length).length->(∀b o,s.heap.get? b=some o->h'.get? b=some o)->R (.ok (.ret .none)) {s with heap:=h',toks:=tk}):
  zBs (model prog w) A (.builtin "set.update.loop" ⟨[.ref s.heap.objs.size,.ref (s.heap.objs.size+1)],[]⟩) R {s with heap:=(s.heap.push (eV #[] 0 (.fresh 0 0 led))).push oI}:=by
 have hlen:its.length=ns.length:=IntsAre.length hi;have hSf:s.heap.objs.size∉[s.heap.objs.size+1,l]:=by
  simp only[zAT,zBi,or_false,not_or];exact⟨zA6 (zCj _),zCn hl⟩
 have hsz:its.toArray.size=ns.length:=by rw[zAH];exact hlen
 refine PyProof.Rows.codeAny_set_update_loopS W s.heap.objs.size hSf (λ i=>ns.getD i 0) (λ i v hv=>zGR hi i v (by simpa using hv)) (by rw[hsz];unfold scanBound;lia) (its.toArray.size-0) 0 _ (by lia) (zAj _) st ?_ λ s' hm hS'=>?_
 .have hget:((s.heap.push (eV #[] 0 (.fresh 0 0 led))).push oI).get? s.heap.objs.size=some (eV #[] 0 (.fresh 0 0 led)):=zAE _ (zA3 _ rfl)
  exact PyProof.Rows.SetOf_congr ((PyProof.Rows.setObjOf_fresh (knd:=zG4 prog w) led).setOf hget (by unfold scanBound;lia)) (λ _=>rfl) rfl
 .obtain⟨h',g',d',tk',os'⟩:=s'
  have eg:g'=s.gens:=hm.gens;have ed:d'=s.drawn:=hm.drawn;have eo:os'=s.os:=hm.os;subst eg;subst ed;subst eo;rw[hsz]at hS';refine hR h' tk' hS' λ b o e=>hm.heap b o ?_ (zAE _ (zAE _ e))
  have hb:=zAU e;simp only[zAT,zBi,or_false,not_or];exact⟨zA6 hb,zA6 (zCP hb)⟩
def aCt(hc:X.calm=true):eQ X (.type "set") (aDo X.K):=by
 intro pins s Z H xs us Q I r h;obtain⟨p,ns,rfl,hp,hz,q⟩:=h;obtain⟨u,rfl,ru⟩:=vals1 r;cases ru;have hh:X.A.in1.in1.in1.handled=none:=I.ok.hd hc;have hsz:∀o:Obj,(s.heap.push o).objs.size=s.heap.objs.size+1:=λ o=>zCJ _ _
 rcases hp with hp|hp
 .obtain⟨its,rv,pl,_⟩:=I.list hp
  have hI:zBZ its ns:=intsAre_of rv;have hl0:=pl.isList;obtain⟨ol,hol,hcl,nl,hdl⟩:=pl.isList;have hlS:p<s.heap.objs.size:=zAU hol;refine PySem.sS (T:="list") (Φ:=λ h'=>h'.SetOf (zG4 X.prog X.w) s.heap.objs.size (λ k'=>(zDn (λ i=>ns.getD i 0) ns.length).any (·==k')) (zDn (λ i=>ns.getD i 0) ns.length).length) ⟨ol,hol,hcl⟩ F.sub_list_set F.sub_list_frozenset (by decide)
   (λ zI A₁ E₁ Q₁ k q=>zDz (s:={s with heap:=zI}) (items:=its.toArray) ⟨ol,k _ _ hol,hcl,nl,hdl⟩ q) (λ R hR=>?_) λ h' tk g1 g2=>zV I q g1 g2
  rw[hsz];refine zU hlS hI hz ((zG2 hh _ p (zA6 (zCP hlS)) its.toArray).toS) ⟨?_,?_⟩ R hR
  .have e:=zA3 (s.heap.push (eV #[] 0 (.fresh 0 0 (!X.w.params.followText "set-order")))) (o:={cls:=.type "list_iterator",data:=.fields #[.ref p,.int 0 0]}) rfl
   rw[hsz]at e;exact⟨_,e,rfl,rfl⟩
  .exact⟨ol,zAE _ (zAE _ hol),hcl,nl,hdl⟩
 .obtain⟨its,rv,pl,_⟩:=I.tuple hp
  have hI:zBZ its ns:=intsAre_of rv;obtain⟨ol,hol,hcl,nl,hdl⟩:=id pl;have hlS:p<s.heap.objs.size:=zAU hol;refine PySem.sS (T:="tuple") (Φ:=λ h'=>h'.SetOf (zG4 X.prog X.w) s.heap.objs.size (λ k'=>(zDn (λ i=>ns.getD i 0) ns.length).any (·==k')) (zDn (λ i=>ns.getD i 0) ns.length).length) ⟨ol,hol,hcl⟩ F.sub_tuple_set F.sub_tuple_frozenset (by decide)
   (λ zI A₁ E₁ Q₁ k q=>zHU (s:={s with heap:=zI}) (items:=its.toArray) ⟨ol,k _ _ hol,hcl,nl,hdl⟩ q) (λ R hR=>?_) λ h' tk g1 g2=>zV I q g1 g2
  rw[hsz];refine zU hlS hI hz ((Walks.tuple hh _ p (zA6 (zCP hlS)) its.toArray).toS) ⟨?_,?_⟩ R hR
  .have e:=zA3 (s.heap.push (eV #[] 0 (.fresh 0 0 (!X.w.params.followText "set-order")))) (o:={cls:=.type "tuple_iterator",data:=.fields #[.ref p,.int 0 0]}) rfl
   rw[hsz]at e;exact⟨_,e,rfl,rfl⟩
  .exact⟨ol,zAE _ (zAE _ hol),hcl,nl,hdl⟩
def aCw:eQ X (.builtin "len") (λ xs H Q=>∃p S n,xs=[.ref p]/\H p=some (.set S n)/\Q (.int n) H):=by
 intro pins s Z H xs us Q I r h;obtain⟨p,S,n,rfl,hp,q⟩:=h;obtain⟨u,rfl,ru⟩:=vals1 r;cases ru;obtain⟨o,es,ep,t,ho,hex,hd,_,_,hb,hf,hn⟩:=I.hok p _ hp
 have:(es.size:Int)<2^63:=by unfold scanBound at hb;lia
 refine PySem.call_len_set ho hex hd hf this ⟨.int n,H,(I.tok _).tok _,?_,q⟩;exact⟨_,by rw[hn]⟩
end
def aDg{K:zAA}(nd:l.Nodup)(h:H a=some (.set (λ k=>l.any (·==k)) l.length))(m:A a):Rp K A H (.ref a) (.set l):=.set h m (λ i=>by
 rw[zDZ];simp) nd
def mz:List D->Rs D
 |[.lst l]=>match intsOf l with
  |some ns=>if ns.length<4000 then .ok (.set (ddI ns))else .st
  |none=>.st
 |[.tup l]=>match intsOf l with
  |some ns=>if ns.length<4000 then .ok (.set (ddI ns))else .st
  |none=>.st
 |_=>.st
def aJ0{K:zAA}:aF7 K (aDo K) mz:=by
 intro A xs ds H Q z r ez q;unfold mz at ez;split at ez
 .cases r with
  |cons h r=>
   cases r;cases h with
   |lst h m r=>
    split at ez
    .rename_i ns e
     have e1:=gZ e;subst e1;split at ez
     .rename_i hl
      cases ez;have e2:=r.ints_of;subst e2;exact⟨_,ns,rfl,.inl (SqL.of h),hl,λ a H' s ha hn=>q _ H' s (aDg (xN ns) ha hn)⟩
     .cases ez
    .cases ez
 .cases r with
  |cons h r=>
   cases r;cases h with
   |tup h r=>
    split at ez
    .rename_i ns e
     have e1:=gZ e;subst e1;split at ez
     .rename_i hl
      cases ez;have e2:=r.ints_of;subst e2;exact⟨_,ns,rfl,.inr h,hl,λ a H' s ha hn=>q _ H' s (aDg (xN ns) ha hn)⟩
     .cases ez
    .cases ez
 .cases ez
def oU:List D->Rs D
 |[.set l]=>.ok (.int l.length)
 |ds=>fG ds
def aHG{K:zAA}:qR K (λ xs H Q=>(∃p ys,xs=[.ref p]/\(SqL K H p ys\/SqT K H p ys)/\Q (.int ys.length) H)\/∃p S n,xs=[.ref p]/\H p=some (.set S n)/\Q (.int n) H) oU:=by
 intro A xs ds H Q z r ez q;unfold oU at ez;split at ez
 .cases ez
  cases r with
  |cons h r=>
   cases r;cases h with
   |set h m hS nd=>exact .inr ⟨_,_,_,rfl,h,q _ H (aO.refl H) (.int _)⟩
 .exact .inl (aFP A xs _ H Q z r ez q)
def aEn:∀x z,oU x= .ok z->imm z=true:=by
 intro x z e;unfold oU at e;split at e
 .cases e;rfl
 .exact aCI _ _ e
section
variable{C:Ct}{pos p:Pos}{m:Mode}{a:Expr}{ga:En->Rs (List D)}
def aAa(hm:C.mg "set"=none)(ha:SA C m [a] ga)(he:∀i,zA2 [a] (C.X i).env=[(false,eval a (C.X i).env)]:=by intro _;rfl)(hg:∀i,Gl (C.X i) "set":=by intro _;rfl)(hv:zBR "set"=some (.type "set"):=by decide+kernel):SE C (some []) (.Call (.Name "set" p) [a] [] pos) (opA mz ga):=by
 obtain⟨t,h1,h2⟩:=ha;refine⟨_,λ i=>wN (r:=aDo C.K) (by rw[<-C.hK i];exact aCt (C.calm i)) (hg i) (by rw[(C.cx i).2.2.2.1];exact hm) hv (h1 i) (by decide) (by decide) (he i) rfl,aBg aJ0 h2⟩
def yF(hm:C.mg "len"=none)(ha:SA C m [a] ga)(he:∀i,zA2 [a] (C.X i).env=[(false,eval a (C.X i).env)]:=by intro _;rfl)(hg:∀i,Gl (C.X i) "len":=by intro _;rfl):SE C (some []) (.Call (.Name "len" p) [a] [] pos) (opA oU ga):=
 dZ (lw (λ i=>by have h:=(qK (X:=C.X i)).or aCw;rw[C.hK i]at h;exact h) aHG hg hm zHD ha (by decide) (by decide) he) λ _ _ h=>pX aEn h
end
section
variable{K:zAA}{G:Gx}{wi:TI}{fi:En->Rs (List D)}{g:TG}{fg:D->En->Rs En}{tt:TT}
def aHx(hi:aB9 K G wi fi)(hg:aBa K {G with E:=λ _ _ _=>False} g fg)(hfg:∀d,∃ρ1,fg d [.no]= .ok ρ1)(ht:wA K {G with E:=λ _ _ _=>False} tt lN)(R:RR K G U ρ Z H lab)
  (W:WR G (fi (shE ρ)) (λ ds=>ds.length<zAV/\∀(l:Addr) (as:List Addr) H',aO H H'->H l=none->H' l=some (.lst (as.map V.ref))->(l::as).Nodup->as.length=ds.length->(∀a∈as,H a=none/\H' a=some (.lst []))->Q (.ref l) H')):
  tLC wi (stV [none]) g tt (aDW qT) Z H Q:=by
 refine hi U Z H _ _ _ R.shE (W.imp λ ds _ w J H1 lab1 U1 s1 _ R1 jl=>?_);obtain⟨hlen,w⟩:=w;intro l hl;have hHl:H l=none:=s1.free hl;have nl:∀p o,H1 p=some o->p≠l:=λ p o e z=>by subst z;rw[hl]at e;cases e
 have RB:RR K {G with E:=λ _ _ _=>False} (U1++U) [.no] (stV [none] Z) H1 (λ p=>if p=l then(2,0)else(0,0)):=by
  refine⟨rfl,λ i s e=>?_,R1.old,λ p hp=>?_,λ q hq=>(R1.tm q hq).wk λ p o e _=>by rw[if_neg (nl p o e)];exact zAj _⟩
  .match i,e with
   |0,e=>cases e;exact .inl rfl
   |i+1,e=>simp at e
  .by_cases z:p=l
   .subst z;exact R1.old.free hl
   .exact absurd (show(if p=l then((2,0):Nat×Nat)else(0,0)).1=0 by rw[if_neg z]) hp
 have labl:¬((λ p=>if p=l then((2,0):Nat×Nat)else(0,0)) l).1<=1:=by simp
 refine⟨λ i n acc H2=>∃as:List Addr,n=ds.length-i/\i<=ds.length/\acc=as.map V.ref/\H2 l=some (.lst acc)/\RR K {G with E:=λ _ _ _=>False} (U1++U) [.no] (stV [none] Z) H2 (λ p=>if p=l then(2,0)else(0,0))/\aO H H2/\as.length=i/\(l::as).Nodup/\∀a∈as,H a=none/\H2 a=some (.lst []),
  ⟨ds.length,[],by omega,by omega,rfl,aX,RB.up (az hl _),s1.trans (az hl _),rfl,by simp,λ a h=>by simp at h⟩,?_⟩
 rintro i n acc H2 ⟨as,rfl,hi',rfl,hH2,R2,s2,hlen2,hnd,hal⟩;refine⟨hH2,by rw[zAF];omega,?_⟩;have jj:=jl _ H2 λ q hq=>R2.tm q (zA8 _ hq)
 by_cases hlt:i<ds.length
 .obtain⟨go,yl⟩:=(jj i).2 hlt
  refine .inr ⟨go,λ x H3 hy=>?_⟩;obtain⟨s3,d,ed,rx⟩:=yl x H3 hy;replace R2:=R2.up s3;replace hH2:=s3 _ _ hH2;replace s2:=s2.trans s3;replace hal:=λ a ha=>(⟨(hal a ha).1,s3 _ _ (hal a ha).2⟩:H a=none/\H3 a=some (.lst []))
  obtain⟨ρ1,e1⟩:=hfg d;refine hg (U1++U) x d _ H3 _ _ _ ρ1 R2 rx e1 λ Z4 R4=>?_
  refine ht (U1++U) Z4 H3 ρ1 _ _ R4 λ H5 s5=>?_
  rw[if_pos rfl];refine⟨zAj _,λ p H6 s6 hp hn=>?_⟩;have hl6:H6 l=some (.lst (as.map V.ref)):=s6 _ _ (s5 _ _ hH2);have hpl:p≠l:=λ z=>by subst z;rw[s5 _ _ hH2]at hn;cases hn
  have hpa:p∉as:=λ z=>by
   have:=s5 _ _ (hal p z).2
   rw[hn]at this;cases this
  have hpH:H p=none:=(s2.trans s5).free hn;have B:gK l H6 (upd H6 l (.lst (as.map V.ref++[.ref p]))):=λ b o ne hb=>by rw[aU ne];exact hb
  refine⟨hl6,ds.length-(i+1),by omega,as++[p],rfl,hlt,by rw[zCO];rfl,aX,?_,?_,by rw[zAL];simp;omega,?_,λ a ha=>?_⟩
  .have R6:=R2.up (s5.trans s6)
   refine⟨R6.len,λ j s e=>?_,λ b o hb=>?_,R6.new,λ q hq=>(R6.tm q hq).but B hl6 rfl labl⟩
   .match j,e with
    |0,e=>cases e;exact .inl rfl
    |j+1,e=>simp at e
   .exact B b o (λ z=>by subst z;rw[R1.old.free hl]at hb;cases hb) (R6.old b o hb)
  .exact λ b o hb=>B b o (λ z=>by subst z;rw[hHl]at hb;cases hb) (((s2.trans s5).trans s6) b o hb)
  .obtain⟨n1,n2⟩:=zBz.mp hnd
   refine zBz.mpr ⟨λ z=>?_,zGc.mpr ⟨n2,by simp,λ x hx y hy e=>?_⟩⟩
   .rcases zAq.mp z with z|z
    .exact n1 z
    .exact hpl (zAu.mp z).symm
   .rw[zAu]at hy
    subst hy;subst e;exact hpa hx
  .rcases zAq.mp ha with z|z
   .refine⟨(hal a z).1,?_⟩
    rw[aU λ q=>by subst q;exact(zBz.mp hnd).1 z];exact s6 _ _ (s5 _ _ (hal a z).2)
   .rw[zAu]at z
    subst z;exact⟨hpH,by rw[aU hpl];exact hp⟩
 .have ei:i=ds.length:=by omega
  exact .inl ⟨by rw[ei];exact(jj _).1 (zAP _),w l as H2 s2 hHl hH2 hnd (by omega) hal⟩
end
section
variable{C:Ct}{pos lpos:Pos}{tg iter:Expr}{sc:Scope}{N:List Str}{js:List (Option Nat)}{ks:List Nat}{fi:En->Rs (List D)}{fg:D->En->Rs En}
def llS(i:Nat)(fi:En->Rs (List D))(js:List (Option Nat))(fg:D->En->Rs En):En->Ou:=λ ρ=>(fi (shE ρ)).bo λ ds=>if ds.length<zAV then .nx (ρ.set i (.o2 (zAW ds.length [])))else .st
def aJp(hi:SI C tg iter fi)(hg:SG (C.blk sc N) tg ks fg)(hj:js=[none]:=by rfl)(hfg:∀d,∃ρ1,fg d [.no]= .ok ρ1:=by intro _;exact⟨_,rfl⟩)(hN:∀j,(C.X j).N[i]? =some x:=by intro _;rfl)(hx:∀j,Loc (C.X j).env.scope x:=by intro _;first|exact zCo rfl|exact zCS rfl)(hsw:∀j,zC3 (.ListComp (.List [] lpos) [⟨tg,iter,[],0⟩] sc pos) (some (.Name x pos')) spos.line (C.X j).env=pure true:=by intro _;rfl)(hs:∀i x,zAx iter (C.X i).env x=pure x:=by intro _ _;rfl)(hf:∀j,(C.X j).fn x=true\/(C.X j).env.scope.names.lookup x=some .local:=by intro _;first|exact .inl rfl|exact .inr rfl)(nd:∀j,(C.X j).N.Nodup:=by intro _;assumption)(hB:∀i,cT (C.X i) sc N (stV js) ks:=by intro _;exact vR rfl rfl rfl rfl rfl rfl):
  SS C (.Assign [.Name x pos'] (.ListComp (.List [] lpos) [⟨tg,iter,[],0⟩] sc pos) spos) (llS i fi js fg):=by
 subst hj;obtain⟨wi,i1,i2⟩:=hi;obtain⟨g,g1,g2,g3,g4⟩:=hg;obtain⟨tt,t1,t2⟩:=qX (C:=C.blk sc N);refine⟨_,λ j=>zg (nd j) (hN j) (hx j) (hB j) (C.calm j) (i1 j) (λ c fp z5 z4=>g1 (j,c,fp,z5,z4)) g3 (λ c fp z5 z4=>t1 (j,c,fp,z5,z4)) (λ c fp z5 z4=>jz cu) (hsw j) (hs j) (hf j),λ U Z H ρ lab De R W=>?_⟩;refine aHx i2 g2 hfg t2 R (W.bo.imp λ ds _ w=>?_);by_cases hl:ds.length<zAV
 .rw[if_pos hl]at w
  refine⟨hl,λ l as H' s hn hH hnd hlen hal=>?_⟩;have hlab:∀p o,H p=some o->(λ p=>if p=l then(i+2,0)else if p∈as then(i+2,as.idxOf p+1)else cF H 1 lab p) p=lab p:=λ p o e=>by
   dsimp only;have z1:p≠l:=λ z=>by subst z;rw[hn]at e;cases e
   have z2:p∉as:=λ z=>by rw[(hal p z).1]at e;cases e
   rw[if_neg z1,if_neg z2,bU e]
  have R':RR C.K C.G U ρ Z H' (λ p=>if p=l then(i+2,0)else if p∈as then(i+2,as.idxOf p+1)else cF H 1 lab p):=by
   refine(R.relab hlab λ p hp=>?_).up s;cases e:H p with
   |none=>exact R.old.free e
   |some o=>
    have:=hlab p o e
    dsimp only at this hp;rw[this]at hp;exact R.new p hp
  refine w _ _ _ (R'.put (s:=.o2 (zAW ds.length [])) ⟨l,as.map V.ref,rfl,hH,by dsimp only;rw[if_pos rfl],by rw[zAF,zC6];exact hlen,λ j x es e1 e2=>?_⟩);rw[zAa,zBw]at e1;obtain⟨a,e1,rfl⟩:=e1;have ees:es=[]:=by
   rw[zCs]at e2;split at e2
   .cases e2;rfl
   .cases e2
  subst ees;have ha:a∈as:=zAw e1;have hla:a≠l:=λ z=>by subst z;exact(zBz.mp hnd).1 ha
  have hj2:j<as.length:=(zAK.mp e1).1;refine .lst (hal a ha).2 ?_ .nil
  show(if a=l then(i+2,0)else if a∈as then(i+2,as.idxOf a+1)else cF H 1 lab a)=(i+2,j+1)
  rw[if_neg hla,if_pos ha];have hix:as.idxOf a<as.length:=List.idxOf_lt_length_iff.mpr ha
  have:as[as.idxOf a]? =some a:=by rw[zAB hix];exact congrArg some (List.getElem_idxOf hix)
  have:=(List.getElem?_inj hix (zBz.mp hnd).2).mp (this.trans e1.symm)
  rw[this]
 .rw[if_neg hl]at w
  exact zAM w
end
def aAB:∀{us:List α},us.length=6->∃a0 a1 a2 a3 a4 a5,us=[a0,a1,a2,a3,a4,a5]
 |[a0,a1,a2,a3,a4,a5],_=>⟨a0,a1,a2,a3,a4,a5,rfl⟩
def aKY(ρ:En)(i:Nat)(ds:List Int):D->Ou
 | .int z=>if ds.length<4000 then .nx (ρ.set i (.ow (.set (zDD ds z))))else .st
 |_=>.st
abbrev Ent:=List Int×Addr×V
section
theorem ints_of:∀(tks:List (Int×Tok)),zBZ (tks.map λ p=>zFG p.1 p.2) (tks.map (·.1))
 |[]=>.nil
 |p::r=>.cons _ _ (ints_of r)
end
abbrev aK3:=List (Str×(List D->Rs D))
def fnOf(tab:aK3):Rs D->Option (List D->Rs D)
 | .ok (.fn x)=>tab.lookup x
 |_=>none
def shB:Slot->Bool
 | .no=>true
 | .sh _=>true
 |_=>false
def nsL(ρ:En)(fg:D->En->Rs En)(ft:En->Rs Bool)(inn:En->Rs (List D)):List D->Rs (List D)
 |[]=>.ok []
 |d::ds=>(fg d ρ).bd λ ρ1=>(ft ρ1).bd λ k=>if k=true then(inn ρ1).bd λ ys=>(nsL ρ fg ft inn ds).bd λ zs=>.ok (ys++zs)else nsL ρ fg ft inn ds
def inL(fi2:En->Rs (List D))(fg2:D->En->Rs En)(ft2:En->Rs Bool)(fe:En->Rs D):En->Rs (List D):=λ ρ1=>if ρ1.all shB=true then(fi2 ρ1).bd λ ds=>lcL ρ1 fg2 ft2 fe ds else .st
def aAE(fi:En->Rs (List D))(js:List (Option Nat))(fg:D->En->Rs En)(ft:En->Rs Bool)(inn:En->Rs (List D)):En->Rs D:=λ ρ=>(fi (shE ρ)).bd λ ds=>match nsL (stE js (shE ρ)) fg ft inn ds with
 | .ok l=>if l.length<zAV then .ok (.lst l)else .st
 |_=>.st
def uV(h:nsL ρ fg ft inn (d::ds)= .ok l):
  ∃ρ1 k,fg d ρ= .ok ρ1/\ft ρ1= .ok k/\((k=true/\∃ys zs,inn ρ1= .ok ys/\nsL ρ fg ft inn ds= .ok zs/\l=ys++zs)\/(k=false/\nsL ρ fg ft inn ds= .ok l)):=by
 unfold nsL at h;obtain⟨ρ1,e1,h⟩:=bM h;obtain⟨k,e2,h⟩:=bM h;refine⟨ρ1,k,e1,e2,?_⟩;cases k with
 |true=>
  rw[if_pos rfl]at h;obtain⟨ys,e3,h⟩:=bM h;obtain⟨zs,e4,h⟩:=bM h;exact .inl ⟨rfl,ys,zs,e3,e4,by cases h;rfl⟩
 |false=>
  rw[if_neg zAG]at h;exact .inr ⟨rfl,h⟩
def aJJ(h:inL fi2 fg2 ft2 fe ρ1= .ok ys):ρ1.all shB=true/\∃ds,fi2 ρ1= .ok ds/\lcL ρ1 fg2 ft2 fe ds= .ok ys:=by
 unfold inL at h;split at h
 .rename_i hs
  obtain⟨ds,e1,e2⟩:=bM h;exact⟨hs,ds,e1,e2⟩
 .cases h
def RR.butS{K:zAA}(R:RR K G U ρ Z H lab)(hs:ρ.all shB=true)(hlab:¬(lab l).1<=1)(B:gK l H H')(hl:H l=some o)(ho:ik o=true)(h0:G.H0 l=none):RR K G U ρ Z H' lab:=by
 refine⟨R.len,λ j s e=>?_,λ b o hb=>?_,R.new,λ q hq=>(R.tm q hq).but B hl ho hlab⟩
 .rcases R.sl j s e with z|⟨u,e1,e2⟩
  .exact .inl z
  .have hb:=zBE.mp hs s (zAw e)
   cases s with
   |no=>exact .inl rfl
   |sh d=>exact .inr ⟨u,e1,Rp.but B hl ho hlab e2⟩
   |_=>cases hb
 .exact B b o (λ z=>by subst z;rw[h0]at hb;cases hb) (R.old b o hb)
section
variable{K:zAA}{G:Gx}{wi wi2:TI}{fi fi2:En->Rs (List D)}{js:List (Option Nat)}{ks ks2:List Nat}{g g2:TG}{fg fg2:D->En->Rs En}{tt tt2:TT}{ft ft2:En->Rs Bool}{te:TE}{fe:En->Rs D}
def aHy(hi:aB9 K G wi fi)(hg:aBa K {G with E:=λ _ _ _=>False} g fg)(hgo:gw g ks)(hgm:sW g)(hk:∀k∈ks2,k∉ks/\(js[k]?).join=none)(ht:wA K {G with E:=λ _ _ _=>False} tt ft)(hi2:aB9 K {G with E:=λ _ _ _=>False} wi2 fi2)
  (hg2:aBa K {G with E:=λ _ _ _=>False} g2 fg2)(ht2:wA K {G with E:=λ _ _ _=>False} tt2 ft2)(he:gr K {G with E:=λ _ _ _=>False} (some []) te fe):
  gr K G (some []) (aHv (λ _=>.lst []) wi (stV js) g tt (xZ ks2 wi2 g2 tt2 (aDT te))) (aAE fi js fg ft (inL fi2 fg2 ft2 fe)):=by
 intro U Z H ρ lab Q R W;refine hi U Z H _ _ _ R.shE (W.bd.imp λ ds _ w J H1 lab1 U1 s1 _ R1 jl=>?_);intro l hl;obtain⟨out,hout,hlen,w⟩:∃out,nsL (stE js (VL.shE ρ)) fg ft (inL fi2 fg2 ft2 fe) ds= .ok out/\out.length<zAV/\QE K (some []) lab H Q (.lst out):=by
  cases hout:nsL (stE js (VL.shE ρ)) fg ft (inL fi2 fg2 ft2 fe) ds with
  |ok out=>
   rw[hout]at w;dsimp only at w;split at w
   .rename_i hz;exact⟨out,rfl,hz,w⟩
   .exact zAM w
  |ex c=>rw[hout]at w;exact zAM w
  |st=>rw[hout]at w;exact zAM w
 have R0:RR K {G with E:=λ _ _ _=>False} (U1++U) (VL.shE ρ) Z H1 (λ _=>(0,0)):=R1.blk0 rfl;have RB:=R0.block (js:=js) (λ _=>zAj _) hl;have hHl:H l=none:=s1.free hl;have h0l:G.H0 l=none:=R1.old.free hl;have labl:¬((λ p=>if p=l then((2,0):Nat×Nat)else(0,0)) l).1<=1:=by simp
 have hsk:∀k∈ks2,(stV js Z)[k]? =some none\/(stV js Z)[k]? =none:=λ k hk2=>by
  have:=(hk k hk2).2
  unfold stV;rw[zAa];cases e:js[k]? with
  |none=>exact .inr rfl
  |some o=>
   rw[e]at this;cases o with
   |none=>exact .inl rfl
   |some j=>cases this
 refine⟨λ i n H2=>∃(pre:List D) (acc:List V),n=ds.length-i/\i<=ds.length/\H2 l=some (.lst acc)/\RR K {G with E:=λ _ _ _=>False} (U1++U) (stE js (VL.shE ρ)) (stV js Z) H2 (λ p=>if p=l then(2,0)else(0,0))/\aO H H2/\Rps K (λ p=>H p=none/\p≠l) H2 acc pre/\
  ∃post,nsL (stE js (VL.shE ρ)) fg ft (inL fi2 fg2 ft2 fe) (ds.drop i)= .ok post/\out=pre++post,⟨ds.length,[],[],by lia,by lia,aX,RB.up (az hl _),s1.trans (az hl _),.nil,out,hout,rfl⟩,?_⟩
 rintro i n H2 ⟨pre,acc,rfl,hi',hH2,R2,s2,rpre,post,hpost,eout⟩;have jj:=jl _ H2 λ q hq=>R2.tm q (zA8 _ hq)
 by_cases hlt:i<ds.length
 .obtain⟨go,yl⟩:=(jj i).2 hlt
  refine .inr ⟨go,λ x H3 hy=>?_⟩;obtain⟨s3,d,ed,rx⟩:=yl x H3 hy;replace R2:=R2.up s3;replace hH2:=s3 _ _ hH2;replace s2:=s2.trans s3;replace rpre:=rpre.up s3;have ed2:ds.drop i=d::ds.drop (i+1):=by
   rw[zBG hlt]
   have:=zAB hlt
   rw[ed]at this;cases this;rfl
  rw[ed2]at hpost;obtain⟨ρ1,k,e1,e2,e3⟩:=uV hpost;have hgx:=hgo _ _ _ _ (hg (U1++U) x d _ H3 _ _ (λ Z4 H4=>H4=H3/\RR K {G with E:=λ _ _ _=>False} (U1++U) ρ1 Z4 H3 (λ p=>if p=l then(2,0)else(0,0))) ρ1 R2 rx e1 λ Z4 R4=>⟨rfl,R4⟩);refine hgm _ _ _ _ _ (λ Z4 H4 ⟨⟨eH,R4⟩,hlen4,hag4⟩=>?_) hgx;subst eH;refine ht (U1++U) Z4 H4 ρ1 _ _ R4 ?_;rw[e2];intro H5 s5;rcases e3 with ⟨rfl,ys,zs,e3,e4,rfl⟩|⟨rfl,e4⟩
  .rw[if_pos rfl]
   obtain⟨hsh,ds2,f1,f2⟩:=aJJ e3;refine⟨λ k hk2 v e=>?_,?_⟩
   .rw[hag4 k (hk k hk2).1]at e
    rcases hsk k hk2 with z|z<;>rw[z]at e<;>cases e
   refine hi2 (U1++U) Z4 H5 ρ1 _ _ (R4.up s5) ?_;rw[f1];intro J2 H6 lab6 U6 s6 hlab6 R6 jl6;have hl6:H6 l=some (.lst acc):=s6 _ _ (s5 _ _ hH2);have lab6l:¬(lab6 l).1<=1:=by rw[hlab6 l _ (s5 _ _ hH2)];exact labl
   refine⟨λ j n2 H7=>∃(pre2:List D) (acc2:List V),n2=ds2.length-j/\j<=ds2.length/\H7 l=some (.lst acc2)/\RR K {G with E:=λ _ _ _=>False} (U6++(U1++U)) ρ1 Z4 H7 lab6/\RR K {G with E:=λ _ _ _=>False} (U1++U) (stE js (VL.shE ρ)) (stV js Z) H7 (λ p=>if p=l then(2,0)else(0,0))/\aO H H7/\
    Rps K (λ p=>H p=none/\p≠l) H7 acc2 (pre++pre2)/\∃post2,lcL ρ1 fg2 ft2 fe (ds2.drop j)= .ok post2/\ys=pre2++post2,
    ⟨ds2.length,[],acc,by lia,by lia,hl6,R6,R2.up (s5.trans s6),(s2.trans s5).trans s6,by rw[zA9];exact rpre.up (s5.trans s6),ys,f2,rfl⟩,?_⟩
   rintro j n2 H7 ⟨pre2,acc2,rfl,hj,hl7,R7,Rb7,s7,rpre2,post2,hpost2,eys⟩;have jj7:=jl6 _ H7 λ q hq=>R7.tm q (zA8 _ hq)
   by_cases hlt2:j<ds2.length
   .obtain⟨go2,yl2⟩:=(jj7 j).2 hlt2
    refine .inr ⟨go2,λ x2 H8 hy2=>?_⟩;obtain⟨s8,d2,ed8,rx2⟩:=yl2 x2 H8 hy2;replace R7:=R7.up s8;replace Rb7:=Rb7.up s8;replace hl7:=s8 _ _ hl7;replace s7:=s7.trans s8;replace rpre2:=rpre2.up s8;have ed9:ds2.drop j=d2::ds2.drop (j+1):=by
     rw[zBG hlt2]
     have:=zAB hlt2
     rw[ed8]at this;cases this;rfl
    rw[ed9]at hpost2;obtain⟨ρ2,k2,q1,q2,q3⟩:=aAD hpost2;refine hg2 (U6++(U1++U)) x2 d2 _ H8 _ _ _ ρ2 R7 rx2 q1 λ Z9 R9=>?_
    refine ht2 (U6++(U1++U)) Z9 H8 ρ2 _ _ R9 ?_;rw[q2];intro H9 s9;rcases q3 with ⟨rfl,y,ys2,q3,q4,rfl⟩|⟨rfl,q4⟩
    .rw[if_pos rfl]
     refine he (U6++(U1++U)) Z9 H9 ρ2 _ _ (R9.up s9) ?_;rw[q3];intro v Ha sa ra;have hla:Ha l=some (.lst acc2):=sa _ _ (s9 _ _ hl7);have B:gK l Ha (upd Ha l (.lst (acc2++[v]))):=λ b o ne hb=>by rw[aU ne];exact hb
     have hsz:acc2.length<zAV:=by
      have h1:=rpre2.length;have h2:out.length=pre.length+(pre2.length+(ys2.length+1))+zs.length:=by rw[eout,eys];simp;lia
      rw[zAL]at h1;lia
     refine⟨acc2,hla,hsz,ds2.length-(j+1),by lia,pre2++[y],acc2++[v],rfl,hlt2,aX,(R7.up (s9.trans sa)).butS hsh lab6l B hla rfl h0l,(Rb7.up (s9.trans sa)).but_blk B hla rfl h0l,λ b o hb=>B b o (λ z=>by subst z;rw[hHl]at hb;cases hb) (((s7.trans s9).trans sa) b o hb),?_,ys2,q4,by rw[eys];simp⟩;rw[<-zAe];refine((rpre2.up (s9.trans sa)).append (.cons (ra.wk λ p o _ z=>?_) .nil)).but B hla rfl λ z=>z.2 rfl
     rcases z with z|z
     .exact⟨(s7.trans s9).free z,λ e=>by subst e;rw[s9 _ _ hl7]at z;cases z⟩
     .cases z
    .rw[if_neg zAG]
     exact⟨ds2.length-(j+1),by lia,pre2,acc2,rfl,hlt2,s9 _ _ hl7,R7.up s9,Rb7.up s9,s7.trans s9,rpre2.up s9,post2,q4,eys⟩
   .have ej:j=ds2.length:=by lia
    subst ej;rw[zCY]at hpost2;cases hpost2;rw[zA9]at eys;subst eys;exact .inl ⟨(jj7 _).1 (zAP _),ds.length-(i+1),by lia,_,acc2,rfl,hlt,hl7,Rb7,s7,rpre2,zs,e4,by rw[eout];simp⟩
  .rw[if_neg zAG]
   exact⟨ds.length-(i+1),by lia,pre,acc,rfl,hlt,s5 _ _ hH2,R2.up s5,s2.trans s5,rpre.up s5,post,e4,eout⟩
 .have ei:i=ds.length:=by lia
  subst ei;rw[zCY]at hpost;cases hpost;rw[zA9]at eout;subst eout;exact .inl ⟨(jj _).1 (zAP _),w _ H2 s2 (.lst hH2 (.inl hHl) (rpre.wk λ p o _ z=>⟨.inl z.1,z.2⟩))⟩
end
end VL
namespace HT
open PySem PySem.Spec PyProof.Rows
end HT
namespace VL
open PySem PySem.Spec PyProof.Rows L2
end VL
namespace PySem.AutoSeq1
end PySem.AutoSeq1
namespace VL
open PySem PySem.Spec PyProof.Rows L2
def Enr(K:zAA)(x:Str)(st:Stmt)(f:Addr)(fd:zAt):Prop:=L2.Fun K x x st f fd/\zAg K zA5 x=some (some (.ref f))
def enr{K:zAA}{st:Stmt}{oc kV dc pm cd ct:Value}(a:zAg K zA5 x=some (some (.ref f)))
  (l:K.lookup f=some ⟨oc,od,.func (zBo x x (kh st) (cH st) (aF st) .none kV dc pm an cd ct),sl⟩)(c:zDA K cd x=true)(k:zBl K (.ref f)=true):∃f fd,Enr K x st f fd:=⟨f,_,aJT (st:=st) l c k,a⟩
structure Dnr(K:zAA)(mg:Str->Option Value)(x:Str)(st:Stmt)(ps:List Str)(f:Addr)(d:zAt):Prop where
 F:L2.Fun K x x st f d
 m:mg x=some (.ref f)
 b:L2.Binds K d ps []
section
variable{C:Ct}
def aq{st:Stmt}(hF:cY C.prog C.w C.K C.mg C.base (CX1 C.prog C.w) k fn fd ps (spF C.K C.G.cl n F))(D:Dnr C.K C.mg x st ps fn fd)(ha:SA C m (e::es) ga)(hr:k<=C.k:=by exact zDS rfl)(hg:∀i,Gl (C.X i) x:=by intro _;rfl)
  (hn:∀ρ ds,ga ρ= .ok ds->ds.length=n:=by repeat (first|exact λ _ _ h=>aGd h|apply aE8))(hdb:Nd x:=by decide)(he:∀i,zA2 (e::es) (C.X i).env=(false,eval e (C.X i).env)::zA2 es (C.X i).env:=by intro _;rfl)
  (hpl:∀i,(zC2 pos (zA2 es (C.X i).env)).any (·.1)=false:=by intro _;rfl):SE C (some []) (.Call (.Name x p) (e::es) [] pos) (aY F ga):=aFt hF hr D.m D.F.kp D.b ha hn hdb he hpl hg
end
def bR{P:zAY}{w:World}{K:zAA}{st:Stmt}(D:Dnr K mg q st ps fn fd)(S:aW N ps (aF st))(hb:N.Nodup->∀cdv A outer s H E hr,SSs (ctD P w K mg base N q (aF st) fn cdv A outer s H E k hr) (cH st) f)(hn:ps.length=n:=by rfl)(hF:eZ N.length f=FF:=by rfl):
  cY P w K mg base (CX1 P w) (k+1) fn fd ps (spF K (aZ mg) n FF):=aHA D.F S (hb S.nd) hn hF
def aB8(items:Array Value)(nss:Nat->List Int)(h:Heap):Prop:=∀i v,items[i]? =some v->∃x its,v= .ref x/\IsTup h x its/\zBZ its.toList (nss i)
def aAo(items:Array Value):List Addr:=items.toList.filterMap λ v=>match v with| .ref x=>some x|_=>none
def aAn{items:Array Value}{i:Nat}(h:items[i]? =some (zBx x)):x∈aAo items:=by
 unfold aAo;rw[zCH];exact⟨.ref x,by have:=zAw (l:=items.toList) (i:=i) (by simpa using h);exact this,rfl⟩
def aB8.keep(T:aB8 items nss h)(k:∀b∈aAo items,∀o,h.get? b=some o->h'.get? b=some o):aB8 items nss h':=λ i v e=>by
 obtain⟨x,its,rfl,⟨o,h1,h2⟩,h3⟩:=T i v e;exact⟨x,its,rfl,⟨o,k x (aAn e) o h1,h2⟩,h3⟩
end VL
namespace PySem
open Sem(wp)
section
variable{prog:zAY}{w:World}
inductive zL{K:Type}[DecidableEq K](knd:KeyKind prog w K)(h:Heap):List Value->List (K×Value)->Prop where
 |nil:zL knd h [] []
 |cons {x:Addr} {o:Obj} {n:Nat} {kv v:Value} {k:K} {us:List Value} {ps:List (K×Value)} (ho:h.get? x=some o) (hc:o.cls= .type "tuple") (hd:o.data= .seq #[kv,v] n) (hk:knd.is k kv=true) (r:zL knd h us ps):zL knd h (.ref x::us) ((k,v)::ps)
end
end PySem
namespace VL
open PySem PySem.Spec PyProof.Rows L2
section
variable{K:Type}[DecidableEq K]
end
end VL
namespace L2
open PySem PySem.Spec PyProof.Rows
def xQ:Value->Bool
 | .bool b=>b
 |_=>false
theorem xY:∀{bs:List Bool} {us:List Value},Vals (bs.map V.bl) us->us=bs.map zCa
 |[],_,.nil=>rfl
 |b::bs,_,.cons h t=>by rw[xY t];cases h;rfl
def aCM{A:zAd}{s:zAD}{bs:List Bool}:∀y∈bs.map zCa,zD7 A s y (.bool true) (xQ y):=λ y hy=>by
 obtain⟨b,_,rfl⟩:=zBH.mp hy
 have:=zFX (A:=A) (s:=s) b true
 cases b<;>exact this
def aGA:V->List V->Hp->VK->Prop:=λ x xs H Q=>∃(a:Addr) (bs:List Bool),x= .ref a/\xs=[.bl true]/\H a=some (.lst (bs.map V.bl))/\Q (.int (bs.count true:Nat)) H
def aFy:V->List V->Hp->VK->Prop:=λ x xs H Q=>∃(a:Addr) (bs:List Bool) (j:Nat),x= .ref a/\xs=[.bl true]/\H a=some (.lst (bs.map V.bl))/\bs[j]? =some true/\(∀m,m<j->bs[m]? =some false)/\Q (.int (j:Nat)) H
section
variable{X:Cx}
def aCc:MtR X "list.count" aGA:=by
 intro pins s Z H x xs v us Q I rx rxs h;obtain⟨a,bs,rfl,rfl,ha,q⟩:=h;cases rx;obtain⟨u,rfl,ru⟩:=vals1 rxs;cases ru;obtain⟨_,its,n,rv,e⟩:=I.hok a _ ha;have ei:=xY rv;subst ei;refine zEb zFU ⟨_,e,rfl⟩ PySem.F.entry_list_count (PySem.F.args_list_count_2 _ _) (SeqAt.list_countAt a _ n none #[] (.bool true) xQ) ⟨e,λ y hy=>aCM y (by simpa using hy),?_⟩
 have:(bs.map zCa).countP xQ=bs.count true:=by
  rw[List.countP_map];unfold List.count;congr 1;funext b;cases b<;>rfl
 rw[show(bs.map zCa).toArray.toList=bs.map zCa from rfl,this];exact⟨.int _,H,I.tok _,⟨_,rfl⟩,q⟩
def aCa:MtR X "list.index" aFy:=by
 intro pins s Z H x xs v us Q I rx rxs h;obtain⟨a,bs,j,rfl,rfl,ha,hj,hm,q⟩:=h;cases rx;obtain⟨u,rfl,ru⟩:=vals1 rxs;cases ru;obtain⟨hz,its,n,rv,e⟩:=I.hok a _ ha;have ei:=xY rv;subst ei;rw[zAF]at hz;have hl:=(zAK.mp hj).1;have h62:zAV<2^62:=by decide
 refine zEb zFV ⟨_,e,rfl⟩ PySem.F.entry_list_index (PySem.F.args_list_index_2 _ _) (SeqAt.list_indexAt a _ n none #[] (.bool true) xQ j (by simpa using hl) (by lia) ?_ λ m hm1 hmj=>?_) ⟨e,λ y hy=>aCM y (by simpa using hy),⟨.int _,H,I.tok _,⟨_,rfl⟩,q⟩⟩
 .rw[zAB hl]at hj
  simpa[xQ]using hj
 .have h2:=hm m hmj
  rw[zAB (by lia)]at h2;simpa[xQ]using h2
end
section
variable{X:Cx}{n0 n1 n2 odd:Str}{c1 c2:V}{k1 k2 k3 k4:List V}{l1 l2:List Str}{a1 a2:Expr}{as1 as2 e1 e2 e3 e4 w1 w2:List Expr}{kw1 kw2:List zCy}{Q:VK}{H:Hp}{vs:List V}
 {p1 p2 p3 p4 p5 p6 p7 p8 p9 p10 p11 p12 p13 p14 p15 p16 p17 p18 p19 p20 p21 p22 p23 p24 p25 p26 p27 p28 p29 p30 p31 p32 p33 p34 p35 p36 p37 p38 p39 p40:Pos}{q1 q2 q3 q4 q5 q6 q7:Pos}{j1 j2 j3 j4 j5:Nat}{E0:XK}{wd:Addr->Option Str}
end
section
variable{P:zAY}{w:World}{K:zAA}{mg:Str->Option Value}{base:Heap}{x q n0 n1 n2 odd:Str}{st:Stmt}{f:Addr}{fd:zAt}{k:Nat}{wd:Addr->Option Str}{c1 c2:V}{k1 k2 k3 k4:List V}{l1 l2:List Str}{a1 a2:Expr}{as1 as2 e1 e2 e3 e4 w1 w2:List Expr}{kw1 kw2:List zCy}
 {p1 p2 p3 p4 p5 p6 p7 p8 p9 p10 p11 p12 p13 p14 p15 p16 p17 p18 p19 p20 p21 p22 p23 p24 p25 p26 p27 p28 p29 p30 p31 p32 p33 p34 p35 p36 p37 p38 p39 p40:Pos}{q1 q2 q3 q4 q5 q6 q7:Pos}{j1 j2 j3 j4 j5:Nat}
end
section
variable{X:Cx}{n0 n1 n2 odd:Str}{c1 c2:V}{k1 k2 k3 k4:List V}{l1 l2:List Str}{a1 a2:Expr}{as1 as2 e1 e2 e3 e4 w1 w2:List Expr}{kw1 kw2:List zCy}{Q:VK}{H:Hp}{vs:List V}
 {p1 p2 p3 p4 p5 p6 p7 p8 p9 p10 p11 p12 p13 p14 p15 p16 p17 p18 p19 p20 p21 p22 p23 p24 p25 p26 p27 p28 p29 p30 p31 p32 p33 p34 p35 p36 p37 p38 p39 p40:Pos}{q1 q2 q3 q4 q5 q6 q7:Pos}{j1 j2 j3 j4 j5:Nat}{E0:XK}{wd:Addr->Option Str}
def aAT(hN:X.N=[n0,n1,n2])(nd:X.N.Nodup)(m0:X.env.scope.names.lookup n0=some .local)(m1:X.env.scope.names.lookup n1=some .local)(m2:X.env.scope.names.lookup n2=some .local)
  (h1:PE X (.Call a1 as1 kw1 p1) (aA5 X.K c1))(h2:PE X (.Call a2 as2 kw2 p2) (aA5 X.K c2))(g1:PA X e1 (lG X.K k1))(g2:PA X e2 (lG X.K k2))(g3:PA X e3 (lG X.K k3))(g4:PA X e4 (lG X.K k4))(g5:PA X w1 (wG l1))(g6:PA X w2 (wG l2))
  (hl1:(p20.endLine==p21.line)=true)(hl2:(p30.endLine==p31.line)=true)(hz:(l1++l2).length<=100)(h:spW wd vs H Q E0)(hw:∀C w,wd C=some w->Wd X.K c1 c2 [k1,k2,k3,k4] (l1++l2) C w)
  (d0:Nd n0:=by decide)(d1:Nd n1:=by decide)(d2:Nd n2:=by decide)
  (f0:(n0==("__classdict__":Str))=false:=by decide)(f1:(n1==("__classdict__":Str))=false:=by decide)(f2:(n2==("__classdict__":Str))=false:=by decide):
  ∃t,PSs X [.If (.BoolOp .Or [.UnaryOp .Not (.Call a1 as1 kw1 p1) p3,.UnaryOp .Not (.Call a2 as2 kw2 p2) p4] p5) [.Return (some (.Constant (.str odd) j1 p6)) p7] [] p8,
   .Assign [.Name n1 p9] (.List e1 p10) p11,.Assign [.Name n1 p12] (.BinOp (.Name n1 p13) .Add (.List e2 p14) p15) p16,.Assign [.Name n1 p17] (.BinOp (.Name n1 p18) .Add (.List e3 p19) p22) p23,.Assign [.Name n1 p24] (.BinOp (.Name n1 p25) .Add (.List e4 p26) p27) p28,
   .If (.Compare (.Call (.Attribute (.Name n1 p29) "count" p20) [.Constant (.bool true) j2 p32] [] p21) [.NotEq] [.Constant (.int 1) j3 p33] p34) [.Return (some (.Constant (.str odd) j4 p35)) p36] [] p37,
   .Assign [.Name n2 p38] (.List w1 p39) p40,.Return (some (.Subscript (.BinOp (.Name n2 q1) .Add (.List w2 q2) q3) (.Call (.Attribute (.Name n1 q4) "index" p30) [.Constant (.bool true) j5 q5] [] p31) q6)) q7] t/\
   t {nx:=λ _ H'=>Q .non H',rt:=Q} (start X.N vs) H:=by
 obtain⟨ea,C,w,rfl,hH,hwd,hq⟩:=h;obtain⟨hk,hq1,hq2,b1,b2,b3,b4,j,k1',k2',k3',k4',ek,r1,r2,r3,r4,hlen,hcnt,hj,hjm,hjw⟩:=hw C w hwd;cases ek;have i0:X.N[0]? =some n0:=by rw[hN];rfl
 have i1:X.N[1]? =some n1:=by rw[hN];rfl
 have i2:X.N[2]? =some n2:=by rw[hN];rfl
 have v1:∀{pos:Pos},PE X (.Name n1 pos) (oA 1):=λ{pos}=>gq i1 (.inl m1) d1 f1
 have cat:∀{pp pq pr:Pos} {es:List Expr} {ks:List V},PA X es (lG X.K ks)->PE X (.BinOp (.Name n1 pp) .Add (.List es pq) pr) (tOp aDr (oA 1) (aDW (lG X.K ks))):=λ g=>aEE yS v1 (jz g)
 refine⟨_,dR (aDz (aH2 (aAr (aDu h1)) (aDt (aAr (aDu h2)))).pt (jw (uP dN)) yP)
  (dR (jy nd i1 (.inl m1) (jz g1) (hf:=.inr m1)) (dR (jy nd i1 (.inl m1) (cat g2) (hf:=.inr m1)) (dR (jy nd i1 (.inl m1) (cat g3) (hf:=.inr m1)) (dR (jy nd i1 (.inl m1) (cat g4) (hf:=.inr m1))
  (dR (aDz (aIO (aI3 (zm zCQ zFU PySem.F.type_list_count aCc v1 (aV aEL cu) (hline:=hl1)) aAt)) (jw (uP dN)) yP)
  (dR (jy nd i2 (.inl m2) (jz g5) (hf:=.inr m2)) (jw (uP (aEH ym (aEE yS (gq i2 (.inl m2) d2 f2) (jz g6)) (zm zCQ zFV PySem.F.type_list_index aCa v1 (aV aEL cu) (hline:=hl2)) λ _ _=>rfl))))))))),?_⟩
 have hs:start X.N [.ref ea]=[some (.ref ea),none,none]:=by rw[hN];rfl
 rw[hs];have sz:∀{n:Nat},n<=100->n<=zAV:=λ h=>zAk h (by decide)
 simp only[zAL]at hlen hz;refine xf (ea:=ea) rfl hH hk hq1 ⟨true,rfl,xf (ea:=ea) rfl hH hk hq2 ⟨true,rfl,?_⟩⟩;refine lU (ea:=ea) rfl hH hk r1 ⟨sz (by rw[zAF];omega),λ a1 H1 s1 ha1 _=>?_⟩;refine⟨.ref a1,rfl,lU (ea:=ea) rfl (s1 _ _ hH) hk r2 ⟨sz (by rw[zAF];omega),λ x2 G2 t2 hx2 _=>⟨a1,x2,_,_,rfl,rfl,t2 _ _ ha1,hx2,sz (by simp only[zAF];omega),λ a2 H2 s2 ha2 _=>?_⟩⟩⟩;have hH2:=s2 _ _ (t2 _ _ (s1 _ _ hH));refine⟨.ref a2,rfl,lU (ea:=ea) rfl hH2 hk r3 ⟨sz (by rw[zAF];omega),λ x3 G3 t3 hx3 _=>⟨a2,x3,_,_,rfl,rfl,t3 _ _ ha2,hx3,sz (by simp only[zAF,zAL];omega),λ a3 H3 s3 ha3 _=>?_⟩⟩⟩;have hH3:=s3 _ _ (t3 _ _ hH2);refine⟨.ref a3,rfl,lU (ea:=ea) rfl hH3 hk r4 ⟨sz (by rw[zAF];omega),λ x4 G4 t4 hx4 _=>⟨a3,x4,_,_,rfl,rfl,t4 _ _ ha3,hx4,sz (by simp only[zAF,zAL];omega),λ a4 H4 s4 ha4 _=>?_⟩⟩⟩;rw[<-zCO,<-zCO,<-zCO]at ha4;generalize hbs:b1++b2++b3++b4=bs at hcnt hj hjm ha4;refine⟨.ref a4,rfl,.inl ⟨rfl,_,.inl (.inl ha4)⟩,a4,bs,rfl,rfl,ha4,1,1,by rw[hcnt];rfl,rfl,false,rfl,?_⟩;refine tW ⟨sz (by rw[zAF];omega),λ a5 H5 s5 ha5 _=>?_⟩;refine⟨.ref a5,rfl,tW ⟨sz (by rw[zAF];omega),λ x6 G6 t6 hx6 _=>⟨a5,x6,_,_,rfl,rfl,t6 _ _ ha5,hx6,sz (by simp only[zAF];omega),λ a7 H7 s7 ha7 _=>?_⟩⟩⟩;have ha4':=s7 _ _ (t6 _ _ (s5 _ _ ha4));refine⟨.ref a4,rfl,.inl ⟨rfl,_,.inl (.inl ha4')⟩,a4,bs,j,rfl,rfl,ha4',hj,hjm,a7,_,_,.str w,rfl,rfl,.inl (.inl ha7),?_,?_⟩
 .rw[<-zCO]
  have hjl:j<(l1++l2).length:=(zAK.mp hjw).1;unfold atI ixN;rw[if_pos (Int.natCast_nonneg j),zAF,if_pos (by omega),Int.toNat_natCast]
  show((l1++l2).map V.str)[j]? =_
  rw[zAa,hjw];rfl
 .exact hq _ λ b o e=>s7 _ _ (t6 _ _ (s5 _ _ (s4 _ _ (t4 _ _ (s3 _ _ (t3 _ _ (s2 _ _ (t2 _ _ (s1 _ _ e)))))))))
end
section
variable{P:zAY}{w:World}{K:zAA}{mg:Str->Option Value}{base:Heap}{x q n0 n1 n2 odd:Str}{st:Stmt}{f:Addr}{fd:zAt}{k:Nat}{wd:Addr->Option Str}{c1 c2:V}{k1 k2 k3 k4:List V}{l1 l2:List Str}{a1 a2:Expr}{as1 as2 e1 e2 e3 e4 w1 w2:List Expr}{kw1 kw2:List zCy}
 {p1 p2 p3 p4 p5 p6 p7 p8 p9 p10 p11 p12 p13 p14 p15 p16 p17 p18 p19 p20 p21 p22 p23 p24 p25 p26 p27 p28 p29 p30 p31 p32 p33 p34 p35 p36 p37 p38 p39 p40:Pos}{q1 q2 q3 q4 q5 q6 q7:Pos}{j1 j2 j3 j4 j5:Nat}
def aCs(F:Fun K x q st f fd)(S:aW [n0,n1,n2] [n0] (aF st))
  (hst:cH st=[.If (.BoolOp .Or [.UnaryOp .Not (.Call a1 as1 kw1 p1) p3,.UnaryOp .Not (.Call a2 as2 kw2 p2) p4] p5) [.Return (some (.Constant (.str odd) j1 p6)) p7] [] p8,
   .Assign [.Name n1 p9] (.List e1 p10) p11,.Assign [.Name n1 p12] (.BinOp (.Name n1 p13) .Add (.List e2 p14) p15) p16,.Assign [.Name n1 p17] (.BinOp (.Name n1 p18) .Add (.List e3 p19) p22) p23,.Assign [.Name n1 p24] (.BinOp (.Name n1 p25) .Add (.List e4 p26) p27) p28,
   .If (.Compare (.Call (.Attribute (.Name n1 p29) "count" p20) [.Constant (.bool true) j2 p32] [] p21) [.NotEq] [.Constant (.int 1) j3 p33] p34) [.Return (some (.Constant (.str odd) j4 p35)) p36] [] p37,
   .Assign [.Name n2 p38] (.List w1 p39) p40,.Return (some (.Subscript (.BinOp (.Name n2 q1) .Add (.List w2 q2) q3) (.Call (.Attribute (.Name n1 q4) "index" p30) [.Constant (.bool true) j5 q5] [] p31) q6)) q7])
  (m0:(aF st).names.lookup n0=some .local)(m1:(aF st).names.lookup n1=some .local)(m2:(aF st).names.lookup n2=some .local)
  (h:∀(cdv:Value) (A:zAd) (outer:List Env) (s:zAD) (H:Hp),PE (cxH P w K mg base [n0,n1,n2] q (aF st) f cdv A outer s H) (.Call a1 as1 kw1 p1) (aA5 K c1)/\PE (cxH P w K mg base [n0,n1,n2] q (aF st) f cdv A outer s H) (.Call a2 as2 kw2 p2) (aA5 K c2)/\
   PA (cxH P w K mg base [n0,n1,n2] q (aF st) f cdv A outer s H) e1 (lG K k1)/\PA (cxH P w K mg base [n0,n1,n2] q (aF st) f cdv A outer s H) e2 (lG K k2)/\PA (cxH P w K mg base [n0,n1,n2] q (aF st) f cdv A outer s H) e3 (lG K k3)/\
   PA (cxH P w K mg base [n0,n1,n2] q (aF st) f cdv A outer s H) e4 (lG K k4)/\PA (cxH P w K mg base [n0,n1,n2] q (aF st) f cdv A outer s H) w1 (wG l1)/\PA (cxH P w K mg base [n0,n1,n2] q (aF st) f cdv A outer s H) w2 (wG l2))
  (hl1:(p20.endLine==p21.line)=true)(hl2:(p30.endLine==p31.line)=true)(hz:(l1++l2).length<=100)(hw:∀C w,wd C=some w->Wd K c1 c2 [k1,k2,k3,k4] (l1++l2) C w)
  (d0:Nd n0:=by decide)(d1:Nd n1:=by decide)(d2:Nd n2:=by decide)
  (f0:(n0==("__classdict__":Str))=false:=by decide)(f1:(n1==("__classdict__":Str))=false:=by decide)(f2:(n2==("__classdict__":Str))=false:=by decide):
  FnH P w K mg base 1 f fd [n0] (spW wd):=by
 refine F.okH (k:=0) S (λ vs H Q E ⟨_,_,_,e,_⟩=>by rw[e];rfl) λ cdv A outer s H vs Q E hr hsp=>?_
 obtain⟨g1,g2,g3,g4,g5,g6,g7,g8⟩:=h cdv A outer s H;rw[hst];exact aAT (X:=cxH P w K mg base [n0,n1,n2] q (aF st) f cdv A outer s H) rfl S.nd m0 m1 m2 g1 g2 g3 g4 g5 g6 g7 g8 hl1 hl2 hz hsp hw d0 d1 d2 f0 f1 f2
end
end L2
namespace VL
open PySem PySem.Spec PyProof.Rows L2
def dnr{K:zAA}{h:Heap}{mg:Str->Option Value}{x:Str}{st:Stmt}(X:K.In h)(G:h.Ns zA5 mg)(e:∃f d,Enr K x st f d)(ps:List Str)
  (hb:∀(kV doc pm:Value) (an:Option Addr) (cdv ct:Value) (us:List Value),us.length=ps.length->zHS (zBo x x (kh st) (cH st) (aF st) .none kV doc pm an cdv ct) ⟨us,[]⟩=pure (ps.zip us):=by
   intro _ _ _ _ _ _ us hl;repeat' first|rfl|(simp at hl;done)|rcases us with _|⟨_,us⟩):∃f d,Dnr K mg x st ps f d/\zAg K zA5 x=some (some (.ref f)):=by
 obtain⟨f,d,F,a⟩:=e;exact⟨f,d,⟨F,zAf X G a,F.binds hb⟩,a⟩
end VL
namespace L2
open PySem PySem.Spec PyProof.Rows
def iJ(d:Nat)(e iter2:Expr)(env:Env)(D:Addr):Sem Unit:=do
 let x <-eval iter2 env
 zE3 iter2.pos
 let x <-zAx iter2 env x;let _ <-runOwn (.compStart e d (<-zE1 [x] (zGT x)) (.ref D) env) env
section
variable(elt tg iter tg2 iter2 tg3 iter3:Expr)(ifs ifs2 ifs3:List Expr)(scope:Scope)(pos:Pos)
def aDO:jY 0 (.ListComp elt [⟨tg,iter,ifs,0⟩,⟨tg2,iter2,ifs2,0⟩,⟨tg3,iter3,ifs3,0⟩] scope pos) tg iter ifs (iJ 1 (.ListComp elt [⟨tg,iter,ifs,0⟩,⟨tg2,iter2,ifs2,0⟩,⟨tg3,iter3,ifs3,0⟩] scope pos) iter2):=
 ⟨λ _ _ _ _=>rfl,λ _ _ _ _ _=>rfl,λ _ _ _=>by unfold iJ zFi;simp only[zH7];rfl⟩
def aDN:jY 1 (.ListComp elt [⟨tg,iter,ifs,0⟩,⟨tg2,iter2,ifs2,0⟩,⟨tg3,iter3,ifs3,0⟩] scope pos) tg2 iter2 ifs2 (iJ 2 (.ListComp elt [⟨tg,iter,ifs,0⟩,⟨tg2,iter2,ifs2,0⟩,⟨tg3,iter3,ifs3,0⟩] scope pos) iter3):=
 ⟨λ _ _ _ _=>rfl,λ _ _ _ _ _=>rfl,λ _ _ _=>by unfold iJ zFi;simp only[zH7];rfl⟩
def aDM:jY 2 (.ListComp elt [⟨tg,iter,ifs,0⟩,⟨tg2,iter2,ifs2,0⟩,⟨tg3,iter3,ifs3,0⟩] scope pos) tg3 iter3 ifs3 (tH elt):=
 ⟨λ _ _ _ _=>rfl,λ _ _ _ _ _=>rfl,λ _ _ _=>rfl⟩
end
def zp{d:Nat}(hc:X.calm=true)(hx:∀v s,X.xe v s->False)(hT:jY d e tg iter ifs body)(hS:qO d e)
  (hi:PI X tg iter wi)(hg:PG X tg g)(hgo:gw g ks)(ht:wB X ifs tt)(he:PB X body tb)(hs:∀x,zAx iter X.env x=pure x:=by intro _;rfl):PB X (iJ d e iter) (xZ ks wi g tt tb):=by
 have nf:∀{α:Type} {m:Sem α} {Q:α->zAD->Prop} {s:zAD},wpAny (model X.prog X.w) X.A m Q X.xe s->wpAny (model X.prog X.w) X.A m Q (λ _ _=>False) s:=λ h=>zBF h (λ _ _ q=>q) hx
 intro D pins s Z H Q I h;obtain⟨hno,h⟩:=h;unfold iJ;refine zAC (thn (hi pins s Z H _ I h) λ v s1 h1=>zAC (zC1 (zAC (zFt (hs v) (zAC (zC0 (thn h1 λ itv s2 h2=>zAC ?_)))))));obtain⟨it,fp,tn,J,H1,e1,I1,T,st1,f1,W,⟨m0,w0⟩,step⟩:=h2;subst e1;have stat:∀{H':Hp},(∀b∈fp,H' b=none)->∀b∈fp,o5 X pins H' b:=λ{H'} hn b hb=>⟨hn b hb,(f1 b hb).2⟩
 have loop:zBs (model X.prog X.w) X.A (.compLoop e d (.ref it) (.ref D) X.env) (λ r s'=>match r with| .ok _=>(∃H',Inv X pins Z H' s'/\Q H')| .error _=>False) s2:=by
  refine kj hT (λ n s'=>∃i H2,Inv X pins Z H2 s'/\tn i s'.heap/\(∀b∈fp,H2 b=none)/\W i n H2) ?_ m0 ⟨0,H1,I1,st1,λ b hb=>(f1 b hb).1,w0⟩;rintro n s3 ⟨i,H2,I2,st2,fr2,w2⟩;rcases step i n H2 w2 with ⟨stop,q⟩|⟨go,nxt⟩
  .refine thn (T.done X rfl rfl rfl hc i pins s3 Z H2 _ I2 (stat fr2) st2 stop) λ r s4 ⟨hr,I4⟩=>?_
   subst hr;exact⟨H2,I4,q⟩
  .refine thn (T.item X rfl rfl rfl hc i pins s3 Z H2 _ I2 (stat fr2) st2 go) λ r s4 ⟨u,hr,h4⟩=>?_
   subst hr;refine thn h4 λ _ s5 ⟨x,H5,I5,r5,y5,st5,fr5⟩=>?_
   have I5p:=I5.pinned (stat fr5) (T.obj _ _ st5);refine thn (nf (hg _ s5 Z H5 x u _ I5p r5 (hgo _ _ _ _ (nxt x H5 y5)))) λ _ s6 ⟨Z6,H6,I6,q6,aAB,ag6⟩=>?_
   refine thn (nf (ht _ s6 Z6 H6 _ I6 q6)) λ ok s7 ⟨H7,I7,q7⟩=>?_
   have again:∀{H9:Hp} {s9:zAD},Inv X (pins++mJ fp s5.heap) Z6 H9 s9->(∃m',m'<n/\W (i+1) m' H9)->∃m,m<n/\∃i H2,Inv X pins Z H2 s9/\tn i s9.heap/\(∀b∈fp,H2 b=none)/\W i m H2:=λ{H9 s9} I9 ⟨m',hm,w9⟩=>by
    have pin9:∀b∈fp,∀o,s5.heap.get? b=some o->s9.heap.get? b=some o/\H9 b=none:=λ b hb o e=>by
     have z:=I9.pin (b,o) (zA1 _ (zA1 _ (fQ hb e)));exact⟨z.1,z.2.1⟩
    refine⟨m',hm,i+1,H9,I9.unpinned.weak (by rw[aAB]) (λ k v e=>?_),T.keep _ _ _ st5 λ b hb o e=>(pin9 b hb o e).1,λ b hb=>?_,w9⟩
    .by_cases hk:k∈ks
     .exact absurd e (hno k hk v)
     .rw[ag6 k hk];exact e
    .obtain⟨o,e,_⟩:=T.obj _ _ st5 b hb
     exact(pin9 b hb o e).2
   cases ok with
   |false=>
    rw[if_neg zAG]at q7 ⊢;exact again I7 q7
   |true=>
    rw[if_pos rfl]at q7 ⊢;exact thn (nf (he D _ s7 Z6 H7 _ I7 q7)) λ _ s8 ⟨H8,I8,q8⟩=>again I8 q8
 refine wpAny_runOwn (h:=none) (zDB (hS loop (T.self X.A 0 _ _ _ st1 loop)) λ r s' hr=>?_);cases r with
 |ok f=>exact zAI hr
 |error x=>exact hr.elim
end L2
namespace VL
open PySem PySem.Spec PyProof.Rows L2
def aC8(fe:En->Rs D):En->Rs (List D):=λ ρ=>(fe ρ).bd λ y=>.ok [y]
def nsI(fi:En->Rs (List D))(fg:D->En->Rs En)(ft:En->Rs Bool)(inn:En->Rs (List D)):En->Rs (List D):=λ ρ=>if ρ.all shB=true then(fi ρ).bd λ ds=>nsL ρ fg ft inn ds else .st
def aIq(h:nsI fi2 fg2 ft2 inn ρ1= .ok ys):ρ1.all shB=true/\∃ds,fi2 ρ1= .ok ds/\nsL ρ1 fg2 ft2 inn ds= .ok ys:=by
 unfold nsI at h;split at h
 .rename_i hs
  obtain⟨ds,e1,e2⟩:=bM h;exact⟨hs,ds,e1,e2⟩
 .cases h
def aHM(K:zAA)(G:Gx)(us:List Nat)(tb:Addr->L2.St->Hp->(Hp->Prop)->Prop)(inn:En->Rs (List D)):Prop:=
 ∀U Z H ρ lab l acc ys (Q:Hp->Prop),RR K G U ρ Z H lab->(∀k∈us,∀v,Z[k]?≠some (some v))->H l=some (.lst acc)->¬(lab l).1<=1->G.H0 l=none->inn ρ= .ok ys->acc.length+ys.length<zAV->
  (∀H' vs,H' l=some (.lst (acc++vs))->gK l H H'->Rps K (λ p=>H p=none/\p≠l) H' vs ys->Q H')->tb l Z H Q
section
variable{K:zAA}{G:Gx}{wi:TI}{fi:En->Rs (List D)}{js:List (Option Nat)}{ks us:List Nat}{g:TG}{fg:D->En->Rs En}{tt:TT}{ft:En->Rs Bool}{te:TE}{fe:En->Rs D}{tb:Addr->L2.St->Hp->(Hp->Prop)->Prop}{inn:En->Rs (List D)}
def aDa(he:gr K {G with E:=λ _ _ _=>False} (some []) te fe):aHM K {G with E:=λ _ _ _=>False} [] (aDT te) (aC8 fe):=by
 intro U Z H ρ lab l acc ys Q R _ hl hlab h0 hin hz q;unfold aC8 at hin;obtain⟨y,e1,e2⟩:=bM hin;cases e2;refine he U Z H ρ lab _ R ?_;rw[e1];intro v Ha sa ra;have hla:=sa _ _ hl;have B:gK l Ha (upd Ha l (.lst (acc++[v]))):=λ b o ne hb=>by rw[aU ne];exact hb
 refine⟨acc,hla,by simp at hz;lia,q _ [v] aX (sa.butl.trans B) ?_⟩;refine Rps.but B hla rfl (λ z=>z.2 rfl) (.cons (ra.wk λ p o _ z=>?_) .nil);rcases z with z|z
 .exact⟨z,λ e=>by subst e;rw[hl]at z;cases z⟩
 .cases z
def wK(hi:aB9 K {G with E:=λ _ _ _=>False} wi fi)(hg:aBa K {G with E:=λ _ _ _=>False} g fg)(hgo:gw g ks)(hgm:sW g)(ht:wA K {G with E:=λ _ _ _=>False} tt ft)(hb:aHM K {G with E:=λ _ _ _=>False} us tb inn)(hk:∀k∈us,k∉ks):
  aHM K {G with E:=λ _ _ _=>False} (ks++us) (xZ ks wi g tt tb) (nsI fi fg ft inn):=by
 intro U Z H ρ lab l acc ys Q R hu hl hlab h0 hin hz q;obtain⟨hsh,ds,f1,f2⟩:=aIq hin;refine⟨λ k hk=>hu k (zA8 _ hk),hi U Z H ρ lab _ R ?_⟩;rw[f1];intro J H1 lab1 U1 s1 hlab1 R1 jl;have hl1:H1 l=some (.lst acc):=s1 _ _ hl;have lab1l:¬(lab1 l).1<=1:=by rw[hlab1 l _ hl];exact hlab
 refine⟨λ i n H2=>∃(pre:List D) (vs:List V),n=ds.length-i/\i<=ds.length/\H2 l=some (.lst (acc++vs))/\RR K {G with E:=λ _ _ _=>False} (U1++U) ρ Z H2 lab1/\gK l H H2/\Rps K (λ p=>H p=none/\p≠l) H2 vs pre/\
  ∃post,nsL ρ fg ft inn (ds.drop i)= .ok post/\ys=pre++post,⟨ds.length,[],[],by lia,by lia,by rw[zA9];exact hl1,R1,s1.butl,.nil,ys,f2,rfl⟩,?_⟩
 rintro i n H2 ⟨pre,vs,rfl,hi',hl2,R2,B2,rp,post,hpost,eys⟩;have jj:=jl _ H2 λ q hq=>R2.tm q (zA8 _ hq)
 by_cases hlt:i<ds.length
 .obtain⟨go,yl⟩:=(jj i).2 hlt
  refine .inr ⟨go,λ x H3 hy=>?_⟩;obtain⟨s3,d,ed,rx⟩:=yl x H3 hy;replace R2:=R2.up s3;replace hl2:=s3 _ _ hl2;replace B2:=B2.trans s3.butl;replace rp:=rp.up s3;have ed2:ds.drop i=d::ds.drop (i+1):=by
   rw[zBG hlt]
   have:=zAB hlt
   rw[ed]at this;cases this;rfl
  rw[ed2]at hpost;obtain⟨ρ1,k,e1,e2,e3⟩:=uV hpost;have hgx:=hgo _ _ _ _ (hg (U1++U) x d _ H3 _ _ (λ Z4 H4=>H4=H3/\RR K {G with E:=λ _ _ _=>False} (U1++U) ρ1 Z4 H3 lab1) ρ1 R2 rx e1 λ Z4 R4=>⟨rfl,R4⟩);refine hgm _ _ _ _ _ (λ Z4 H4 ⟨⟨eH,R4⟩,hlen4,hag4⟩=>?_) hgx;subst eH;refine ht (U1++U) Z4 H4 ρ1 _ _ R4 ?_;rw[e2];intro H5 s5;rcases e3 with ⟨rfl,as,zs,e3,e4,rfl⟩|⟨rfl,e4⟩
  .rw[if_pos rfl]
   have hl5:=s5 _ _ hl2;have hvl:=rp.length;refine hb (U1++U) Z4 H5 ρ1 lab1 l (acc++vs) as _ (R4.up s5) (λ k hk2 v e=>?_) hl5 lab1l h0 e3 (by rw[eys]at hz;simp at hz ⊢;lia) λ H6 ws hl6 B6 rws=>?_
   .rw[hag4 k (hk k hk2)]at e
    exact hu k (zA1 _ hk2) v e
   .refine⟨ds.length-(i+1),by lia,pre++as,vs++ws,rfl,hlt,by rw[hl6,zAe],(R2.up s5).butS hsh lab1l B6 hl5 rfl h0,(B2.trans s5.butl).trans B6,?_,zs,e4,by rw[eys];simp⟩
    refine(Rps.but B6 hl5 rfl (λ z=>z.2 rfl) (rp.up s5)).append (rws.wk λ p o _ z=>⟨?_,z.2⟩);cases hp:H p with
    |none=>rfl
    |some o'=>rw[(B2.trans s5.butl) p o' z.2 hp]at z;cases z.1
  .rw[if_neg zAG]
   exact⟨ds.length-(i+1),by lia,pre,vs,rfl,hlt,s5 _ _ hl2,R2.up s5,B2.trans s5.butl,rp.up s5,post,e4,eys⟩
 .have ei:i=ds.length:=by lia
  subst ei;rw[zCY]at hpost;cases hpost;rw[zA9]at eys;subst eys;exact .inl ⟨(jj _).1 (zAP _),q H2 vs hl2 B2 rp⟩
def aD7(hi:aB9 K G wi fi)(hg:aBa K {G with E:=λ _ _ _=>False} g fg)(hgo:gw g ks)(hgm:sW g)(hk:∀k∈us,k∉ks/\(js[k]?).join=none)(ht:wA K {G with E:=λ _ _ _=>False} tt ft)(hb:aHM K {G with E:=λ _ _ _=>False} us tb inn):
  gr K G (some []) (aHv (λ _=>.lst []) wi (stV js) g tt tb) (aAE fi js fg ft inn):=by
 intro U Z H ρ lab Q R W;refine hi U Z H _ _ _ R.shE (W.bd.imp λ ds _ w J H1 lab1 U1 s1 _ R1 jl=>?_);intro l hl;obtain⟨out,hout,hlen,w⟩:∃out,nsL (stE js (VL.shE ρ)) fg ft inn ds= .ok out/\out.length<zAV/\QE K (some []) lab H Q (.lst out):=by
  cases hout:nsL (stE js (VL.shE ρ)) fg ft inn ds with
  |ok out=>
   rw[hout]at w;dsimp only at w;split at w
   .rename_i hz;exact⟨out,rfl,hz,w⟩
   .exact zAM w
  |ex c=>rw[hout]at w;exact zAM w
  |st=>rw[hout]at w;exact zAM w
 have R0:RR K {G with E:=λ _ _ _=>False} (U1++U) (VL.shE ρ) Z H1 (λ _=>(0,0)):=R1.blk0 rfl;have RB:=R0.block (js:=js) (λ _=>zAj _) hl;have hHl:H l=none:=s1.free hl;have h0l:G.H0 l=none:=R1.old.free hl;have labl:¬((λ p=>if p=l then((2,0):Nat×Nat)else(0,0)) l).1<=1:=by simp
 have hsk:∀k∈us,(stV js Z)[k]? =some none\/(stV js Z)[k]? =none:=λ k hk2=>by
  have:=(hk k hk2).2
  unfold stV;rw[zAa];cases e:js[k]? with
  |none=>exact .inr rfl
  |some o=>
   rw[e]at this;cases o with
   |none=>exact .inl rfl
   |some j=>cases this
 refine⟨λ i n H2=>∃(pre:List D) (acc:List V),n=ds.length-i/\i<=ds.length/\H2 l=some (.lst acc)/\RR K {G with E:=λ _ _ _=>False} (U1++U) (stE js (VL.shE ρ)) (stV js Z) H2 (λ p=>if p=l then(2,0)else(0,0))/\aO H H2/\Rps K (λ p=>H p=none/\p≠l) H2 acc pre/\
  ∃post,nsL (stE js (VL.shE ρ)) fg ft inn (ds.drop i)= .ok post/\out=pre++post,⟨ds.length,[],[],by lia,by lia,aX,RB.up (az hl _),s1.trans (az hl _),.nil,out,hout,rfl⟩,?_⟩
 rintro i n H2 ⟨pre,acc,rfl,hi',hH2,R2,s2,rpre,post,hpost,eout⟩;have jj:=jl _ H2 λ q hq=>R2.tm q (zA8 _ hq)
 by_cases hlt:i<ds.length
 .obtain⟨go,yl⟩:=(jj i).2 hlt
  refine .inr ⟨go,λ x H3 hy=>?_⟩;obtain⟨s3,d,ed,rx⟩:=yl x H3 hy;replace R2:=R2.up s3;replace hH2:=s3 _ _ hH2;replace s2:=s2.trans s3;replace rpre:=rpre.up s3;have ed2:ds.drop i=d::ds.drop (i+1):=by
   rw[zBG hlt]
   have:=zAB hlt
   rw[ed]at this;cases this;rfl
  rw[ed2]at hpost;obtain⟨ρ1,k,e1,e2,e3⟩:=uV hpost;have hgx:=hgo _ _ _ _ (hg (U1++U) x d _ H3 _ _ (λ Z4 H4=>H4=H3/\RR K {G with E:=λ _ _ _=>False} (U1++U) ρ1 Z4 H3 (λ p=>if p=l then(2,0)else(0,0))) ρ1 R2 rx e1 λ Z4 R4=>⟨rfl,R4⟩);refine hgm _ _ _ _ _ (λ Z4 H4 ⟨⟨eH,R4⟩,hlen4,hag4⟩=>?_) hgx;subst eH;refine ht (U1++U) Z4 H4 ρ1 _ _ R4 ?_;rw[e2];intro H5 s5;rcases e3 with ⟨rfl,ys,zs,e3,e4,rfl⟩|⟨rfl,e4⟩
  .rw[if_pos rfl]
   have hl5:=s5 _ _ hH2;have hpl:=rpre.length;refine hb (U1++U) Z4 H5 ρ1 _ l acc ys _ (R4.up s5) (λ k hk2 v e=>?_) hl5 labl h0l e3 (by rw[eout]at hlen;simp at hlen ⊢;lia) λ H6 ws hl6 B6 rws=>?_
   .rw[hag4 k (hk k hk2).1]at e
    rcases hsk k hk2 with z|z<;>rw[z]at e<;>cases e
   .have s6:aO H H6:=λ b o hb2=>B6 b o (λ z=>by subst z;rw[hHl]at hb2;cases hb2) ((s2.trans s5) b o hb2)
    refine⟨ds.length-(i+1),by lia,pre++ys,acc++ws,rfl,hlt,hl6,(R2.up s5).but_blk B6 hl5 rfl h0l,s6,?_,zs,e4,by rw[eout];simp⟩;exact(Rps.but B6 hl5 rfl (λ z=>z.2 rfl) (rpre.up s5)).append (rws.wk λ p o _ z=>⟨(s2.trans s5).free z.1,z.2⟩)
  .rw[if_neg zAG]
   exact⟨ds.length-(i+1),by lia,pre,acc,rfl,hlt,s5 _ _ hH2,R2.up s5,s2.trans s5,rpre.up s5,post,e4,eout⟩
 .have ei:i=ds.length:=by lia
  subst ei;rw[zCY]at hpost;cases hpost;rw[zA9]at eout;subst eout;exact .inl ⟨(jj _).1 (zAP _),w _ H2 s2 (.lst hH2 (.inl hHl) (rpre.wk λ p o _ z=>⟨.inl z.1,z.2⟩))⟩
end
theorem bN.keep:∀{us:List Value} {ms:List (List Int)},bN h us ms->(∀x o,.ref x∈us->h.get? x=some o->h'.get? x=some o)->bN h' us ms
 |_,_,.nil,_=>.nil
 |_,_,.cons ho hc hd hi hne r,k=>.cons (k _ _ zAN ho) hc hd hi hne (r.keep λ x o m e=>k x o (zAX _ m) e)
def lt2(nss:List (List Int))(i j:Nat):Bool:=HT.lexLt (nss.getD i []) (nss.getD j [])
section
variable{prog:zAY}{w:World}{A:zAd}{R:zEZ->zAD->Prop}{I:Addr}{fp wr:List Addr}{G:Array zE6->Array zE6->Prop}{n:Nat}{St:Nat->zAD->Prop}{vs:List Value}{nss:List (List Int)}{s:zAD}{kw:List (Str×Value)}
def aFf{i j:Nat}{v u:Value}{Q:Value->zAD->Prop}{E:Value->zAD->Prop}(ht:bN s.heap vs nss)(hi:vs[i]? =some v)(hj:vs[j]? =some u)(hu:A.units<cLine)(h:Q (.bool (lt2 nss i j)) s):wpAny (model prog w) A (zFr .Lt v u) Q E s:=by
 have hi':i<vs.length:=(zAK.mp hi).1;have hj':j<vs.length:=(zAK.mp hj).1;obtain⟨x,o,xs,k,e1,e2,e3,e4,e5,_⟩:=ht.at hi';obtain⟨y,o2,ys,k2,f1,f2,f3,f4,f5,_⟩:=ht.at hj';have ev:v= .ref x:=by rw[<-e1];simp[hi]
 have eu:u= .ref y:=by rw[<-f1];simp[hj]
 subst ev eu;exact HT.uh ⟨o,e2,e3,k,e4⟩ ⟨o2,f2,f3,k2,f4⟩ e5 f5 hu h
def aCd(W:WalksS prog w A.in1 I fp wr G n (λ i v=>vs.toArray[i]? =some v) St)(S:Addr)(hSf:S∉fp)(hu:A.in1.units<cLine)(hin:∀x,.ref x∈vs->x∉S::wr):
  ∀(k j:Nat) (s:zAD) (vb:Value) (c:Nat),n-(j+1)=k->j+1<=n->St (j+1) s->bN s.heap vs nss->vs[zDK (lt2 nss) j]? =some vb->
  s.heap.get? S=some {cls:=.type "list",dict:=none,data:=.seq #[vb,vb] c,slots:=#[]}->
  (∀v s',vs[zDK (lt2 nss) (n-1)]? =some v->Moved (S::wr) G s s'->R (.ok (.ret v)) s')->zBs (model prog w) A (.builtin "min.loop" ⟨[.ref I,.none,.ref S],kw⟩) R s:=by
 have hSw:S∉wr:=λ h=>hSf (W.sub _ h)
 have hsub:∀b∈wr,b∈S::wr:=λ b hb=>zAX _ hb
 have hname:(zFj "min"++zFj ".loop":String)="min.loop":=by decide
 have notS:∀{b:Addr},b∉S::wr->S≠b:=λ hb h=>hb (by rw[h];exact zAN)
 have hinw:∀x,.ref x∈vs->x∉wr:=λ x hx h=>hin x hx (hsub _ h)
 intro k;induction k with
 |zero=>
  intro j s vb c hk hj hst ht hPb hS hR;have hin:j+1=n:=by omega
  refine zDL zDh ?_;rw[zDR zBj _];show wpAny _ A.in1 (seqItems? (.ref S)>>=_) _ _ s;refine zAC (zGK hS rfl ?_);show wpAny _ A.in1 (zHT (zGU (.ref I)) _>>=_) _ _ s;refine zAC (zDq (W.done s _ _ (hin▸hst) λ s' hm=>?_));have hS':=hm.heap S _ hSw hS;show wpAny _ A.in1 (updateSeq S (λ _=>#[])>>=_) _ _ _;refine zAC ?_;refine zFu hS' rfl (zAC (zFs (zAI ?_)));exact hR vb _ (by rw[<-hin];exact hPb) ((hm.mono hsub).then_heap (tk:=s'.toks) (zAP _) λ b o hb e=>(zB6 _ _ (notS hb)).trans e)
 |succ k ih=>
  intro j s vb c hk hj hst ht hPb hS hR;have hlt:j+1<n:=by omega
  refine zDL zDh ?_;rw[zDR zBj _];show wpAny _ A.in1 (seqItems? (.ref S)>>=_) _ _ s;refine zAC (zGK hS rfl ?_);show wpAny _ A.in1 (zHT (zGU (.ref I)) _>>=_) _ _ s;refine zAC (zDq (W.item (j+1) s _ _ hlt hst λ v s' hP0 hst' hm=>?_));have hP:vs[j+1]? =some v:=by simpa using hP0
  have hS':=hm.heap S _ hSw hS;have ht':bN s'.heap vs nss:=ht.keep λ x o m e=>hm.heap x o (hinw x m) e
  show wpAny _ A.in1 (zHT (zE1 [v,v] (zFr .Lt v vb>>=_)) _>>=_) _ _ _;refine zAC (zDq (zC0 (zAC (aFf ht' hP hPb hu ?_))));refine zAC (zC0 (zB5 ?_));refine zAC (zFs (zAI ?_));cases hb:lt2 nss (j+1) (zDK (lt2 nss) j)with
  |true=>
   simp only[if_true];refine zAC ?_;refine zFu hS' rfl (zAC (zFs ?_));rw[hname];refine zAI ⟨zEI zBj _,ih (j+1) _ v _ (by omega) hlt (W.frame _ s' _ s'.toks hst' (zAP _) λ b hbf o e=>?_) (ht'.keep λ x o m e=>(zB6 _ _ (notS (hin x m))).trans e) (by simp only[zDK,hb,if_true];exact hP) (zFy _ hS' rfl)
    λ v' s'' hP' hm''=>?_⟩
   .exact(zB6 _ _ (λ h:S=b=>hSf (by rw[h];exact hbf))).trans e
   .exact hR v' s'' hP' (zGG W.gtrans ((hm.mono hsub).then_heap (by first|exact zAP _|exact zEW _|omega) λ b o hb e=>(zB6 _ _ (notS hb)).trans e) hm'')
  |false=>
   simp only[zBq,if_false];refine zAC (zFs ?_);rw[hname];refine zAI ⟨zEI zBj _,ih (j+1) _ vb c (by omega) hlt hst' ht' (by simp only[zDK,hb,zBq,if_false];exact hPb) hS' λ v' s'' hP' hm''=>?_⟩;exact hR v' s'' hP' (zGG W.gtrans (hm.mono hsub) hm'')
def aBC(W:WalksS prog w A.in1 I fp wr G n (λ i v=>vs.toArray[i]? =some v) St)(S:Addr)(hSf:S∉fp)(hu:A.in1.units<cLine)(hin:∀x,.ref x∈vs->x∉S::wr){c:Nat}{dk:Str}{dv:Value}(hst:St 0 s)(ht:bN s.heap vs nss)
  (hS:s.heap.get? S=some {cls:=.type "list",dict:=none,data:=.seq #[] c,slots:=#[]})
  (h0:n=0->∀s',Moved (S::wr) G s s'->R (.ok (.ret dv)) s')
  (hR:0<n->∀v s',vs[zDK (lt2 nss) (n-1)]? =some v->Moved (S::wr) G s s'->R (.ok (.ret v)) s'):zBs (model prog w) A (.builtin "min.loop" ⟨[.ref I,.none,.ref S],[(dk,dv)]⟩) R s:=by
 have hSw:S∉wr:=λ h=>hSf (W.sub _ h)
 have hsub:∀b∈wr,b∈S::wr:=λ b hb=>zAX _ hb
 have hname:(zFj "min"++zFj ".loop":String)="min.loop":=by decide
 have notS:∀{b:Addr},b∉S::wr->S≠b:=λ hb h=>hb (by rw[h];exact zAN)
 have hinw:∀x,.ref x∈vs->x∉wr:=λ x hx h=>hin x hx (hsub _ h)
 refine zDL zDh ?_;rw[zDR zBj _];show wpAny _ A.in1 (seqItems? (.ref S)>>=_) _ _ s;refine zAC (zGK hS rfl ?_);show wpAny _ A.in1 (zHT (zGU (.ref I)) _>>=_) _ _ s;by_cases hn:n=0
 .refine zAC (zDq (W.done s _ _ (hn▸hst) λ s' hm=>?_))
  show wpAny _ A.in1 (rule _>>=_) _ _ _;refine zAC (zDC (zAI ?_));exact h0 hn s' (hm.mono hsub)
 .refine zAC (zDq (W.item 0 s _ _ (by omega) hst λ v s' hP0 hst' hm=>?_))
  have hP:vs[0]? =some v:=by simpa using hP0
  have hS':=hm.heap S _ hSw hS;have ht':bN s'.heap vs nss:=ht.keep λ x o m e=>hm.heap x o (hinw x m) e
  show wpAny _ A.in1 (updateSeq S (λ _=>#[v,v])>>=_) _ _ _;refine zAC ?_;refine zFu hS' rfl ?_;rw[hname];refine zAI ⟨zEI zBj _,aCd W S hSf hu hin _ 0 _ v _ rfl (by omega) (W.frame _ s' _ s'.toks hst' (zAP _) λ b hbf o e=>?_) (ht'.keep λ x o m e=>(zB6 _ _ (notS (hin x m))).trans e) hP (zFy _ hS' rfl) λ v' s'' hP' hm''=>?_⟩
  .exact(zB6 _ _ (λ h:S=b=>hSf (by rw[h];exact hbf))).trans e
  .exact hR (by omega) v' s'' hP' (zGG W.gtrans ((hm.mono hsub).then_heap (by first|exact zAP _|exact zEW _|omega) λ b o hb e=>(zB6 _ _ (notS hb)).trans e) hm'')
def yz{E:Value->zAD->Prop}{id:String}{b:zFR}{args:List Value}{kw:List (Str×Value)}{Q:Value->zAD->Prop}(hk:builtinKind id=none)(hp:plainId id=true)
  (hb:entryFor table id=some b)(ha:argsOk id ⟨args,kw⟩)
  (hc:wpAny (model prog w) A.in1 (b ⟨args,kw⟩) (λ fin s'=>match fin with
   | .done f=>(match (Except.ok f:zEZ)with| .ok (.ret v)=>Q v s'| .ok _=>False| .error e=>E e s')
   | .again c'=>c'.quiet=true/\zBs (model prog w) A c' (λ r s'=>match r with| .ok (.ret v)=>Q v s'| .ok _=>False| .error e=>E e s') s') E s):
  wpAny (model prog w) A (call (.builtin id) args kw) Q E s:=by
 refine zF4 (zD2 hp hb ?_);simp only[zEL,hk];cases hsig:Manifest.signature? id with
 |none=>exact zAI hc
 |some sig=>
  simp only[argsOk,hsig]at ha;have h2:zHF id sig ⟨args,kw⟩=pure ():=ha;show wpAny _ A.in1 (zHF id sig ⟨args,kw⟩) _ _ s;rw[h2];exact zAI hc
def vz(a:Value):argsOk "min" ⟨[a],[("default",.none)]⟩:=by unfold argsOk;kernel_rfl
def aB5{E:Value->zAD->Prop}{l:Addr}{Q:Value->zAD->Prop}(hh:A.handled=none)(hu:A.units+8<cLine)(hl:s.heap.IsList l vs.toArray)(ht:bN s.heap vs nss)
  (h0:vs.length=0->∀h' tk,(∀b o,s.heap.get? b=some o->h'.get? b=some o)->Q .none {s with heap:=h',toks:=tk})
  (h:0<vs.length->∀v h' tk,vs[zDK (lt2 nss) (vs.length-1)]? =some v->(∀b o,s.heap.get? b=some o->h'.get? b=some o)->Q v {s with heap:=h',toks:=tk}):
  wpAny (model prog w) A (call (.builtin "min") [.ref l] [("default",.none)]) Q E s:=by
 have hname:(zFj "min"++zFj ".loop":String)="min.loop":=by decide
 have hlS:l<s.heap.objs.size:=by obtain⟨_,e,_⟩:=hl;exact zAU e
 refine yz PySem.F.kind_min PySem.F.plain_min PySem.F.entry_min (vz _) ?_;show wpAny _ A.in1 (zEA "min" ["key","default"] 0 ⟨[],[("default",.none)]⟩>>=_) _ _ s;refine zAC (zFt (show zEA "min" ["key","default"] 0 ⟨[],[("default",.none)]⟩=pure [none,some .none]from rfl) ?_);refine zAC (zAI ?_);refine zAC (zDz hl ?_);refine zAC (zB4 ?_);rw[hname];have hsz:∀(o:Obj),(s.heap.push o).objs.size=s.heap.objs.size+1:=λ o=>zCJ ..
 have hold:∀(o o':Obj) b ob,s.heap.get? b=some ob->((s.heap.push o).push o').get? b=some ob:=λ o o' b ob e=>zAE _ (zAE _ e)
 have hvt:∀{us:List Value} {ms:List (List Int)},bN s.heap us ms->∀x,.ref x∈us->x<s.heap.objs.size:=by
  intro us ms z;induction z with
  |nil=>intro x hx;simp at hx
  |cons ho _ _ _ _ _ ih=>
   intro x hx;rcases zAT.mp hx with e|hx
   .cases e;exact zAU ho
   .exact ih x hx
 refine zAI ⟨zEI zBj _,aBC (vs:=vs) (nss:=nss) ((zG2 (A:=A.in1) hh s.heap.objs.size l (zA6 hlS) vs.toArray).toS) _ ?hSf (by simp;omega) ?hin ⟨⟨_,zAE _ (zA3 _ rfl),rfl,rfl⟩,(hl.push _).push _⟩ (ht.keep λ x o m e=>hold _ _ _ _ e) (zA3 _ rfl) ?h0 ?hR⟩
 case hSf=>
  rw[hsz];simp only[zAT,zBi,or_false,not_or];exact⟨zCn (zCj _),zCn (zCP hlS)⟩
 case hin=>
  intro x hx
  have:=hvt ht x hx
  rw[hsz];simp only[zAT,zBi,or_false,not_or];exact⟨zA6 (zCP this),zA6 this⟩
 case h0=>
  intro hn s' hm;obtain⟨h',g',d',tk',os'⟩:=s';have eg:g'=s.gens:=hm.gens;have ed:d'=s.drawn:=hm.drawn;have eo:os'=s.os:=hm.os;subst eg;subst ed;subst eo;refine h0 (by simpa using hn) h' tk' λ b o e=>hm.heap b o ?_ (hold _ _ _ _ e)
  have hb:=zAU e;rw[hsz];simp only[zAT,zBi,or_false,not_or];exact⟨zA6 (zCP hb),zA6 hb⟩
 case hR=>
  intro hn v s' hv hm;obtain⟨h',g',d',tk',os'⟩:=s';have eg:g'=s.gens:=hm.gens;have ed:d'=s.drawn:=hm.drawn;have eo:os'=s.os:=hm.os;subst eg;subst ed;subst eo;refine h (by simpa using hn) v h' tk' (by simpa using hv) λ b o e=>hm.heap b o ?_ (hold _ _ _ _ e)
  have hb:=zAU e;rw[hsz];simp only[zAT,zBi,or_false,not_or];exact⟨zA6 (zCP hb),zA6 hb⟩
end
def aHY(K:zAA):List V->List V->Hp->VK->Prop:=λ xs zs H Q=>∃p vs nss,xs=[.ref p]/\zs=[.non]/\SqL K H p vs/\fL K H vs nss/\(vs=[]->Q .non H)/\(0<vs.length->∀v,vs[zDK (lt2 nss) (vs.length-1)]? =some v->Q v H)
section
variable{X:Cx}{p pos kp kq:Pos}{j:Nat}{e:Expr}{t:TA}
def aB4(hc:X.calm=true)(hu:X.A.units+64<cLine){pins:List (Addr×Obj)}{s:zAD}{Z:L2.St}{H:Hp}{xs zs:List V}{us ws:List Value}{Q:VK}(I:Inv X pins Z H s)(r:Vals xs us)(rz:Vals zs ws)(h:aHY X.K xs zs H Q):
  wpAny (model X.prog X.w) X.A (call (.builtin "min") us ([("default":Str)].zip ws)) (EP X pins Z Q) X.xe s:=by
 obtain⟨p,vs,nss,rfl,rfl,hp,ht,q0,q1⟩:=h;obtain⟨u,rfl,ru⟩:=vals1 r;obtain⟨z,rfl,rz'⟩:=vals1 rz;cases ru;cases rz';obtain⟨its,rv,pl,hz⟩:=I.list hp;have e:=ht.vals rv;subst e;refine aB5 (I.ok.hd hc) (by lia) pl.isList (ht.at I) (λ hn h' tk hk=>?_) (λ hn v h' tk hv hk=>?_)
 .exact⟨.non,H,I.kept hk,rfl,q0 (by simpa using hn)⟩
 .rw[zAF]at hn hv
  rw[zAa,zBw]at hv;obtain⟨v',hv',rfl⟩:=hv;exact⟨v',H,I.kept hk,ht.refs v' (zAw hv'),q1 hn v' hv'⟩
def aHU(K:zAA)(t:TA):TE:=λ Z H Q=>t Z H λ vs H1=>aHY K vs [.non] H1 Q
def aEG(hc:X.calm=true)(hu:X.A.units+64<cLine)(hg:Gl X "min")(hm:X.mg "min"=none)(hv:zBR "min"=some (.builtin "min"))(ha:PA X [e] t)(he:zA2 [e] X.env=[(false,eval e X.env)]:=by rfl):
  PE X (.Call (.Name "min" p) [e] [⟨some "default",.Constant .none j kq,kp⟩] pos) (aHU X.K t):=by
 intro pins s Z H Q I h;refine zCN (qw I hg hm hv ?_ (by decide) (by decide));refine callWith_kw (thn (ha pos pins s Z H _ I h) λ us s1 ⟨vs,H1,I1,r,q⟩=>?_) (by unfold zC2;rw[he];rfl) (by unfold zC2;rw[he];rfl) rfl rfl;have hkw:PK X [⟨some "default",.Constant .none j kq,kp⟩] (jK (tC .non) qT):=aGH aEF aIS;refine thn (hkw pos pins s1 Z H1 (λ zs H2=>zs=[.non]/\H2=H1) I1 ⟨rfl,rfl⟩) λ ws s2 ⟨zs,H2,I2,rz,e1,e2⟩=>?_
 subst e1 e2;exact aB4 hc hu I2 r rz q
end
def ye(nss:List (List Int)):D:=if nss.length=0 then .non else tupI (nss.getD (zDK (lt2 nss) (nss.length-1)) [])
def zu:List D->Rs D
 |[.lst l]=>match nq l with
  |some nss=>.ok (ye nss)
  |none=>.st
 |_=>.st
theorem aBo{K:zAA}:∀{xs:List V} {ds:List D} {i:Nat} {v:V},Rps K A H xs ds->xs[i]? =some v->∃d,ds[i]? =some d/\Rp K A H v d
 |_,_,_,_,.nil,h=>by simp at h
 |_,_,0,_,.cons r _,h=>by simp at h;subst h;exact⟨_,rfl,r⟩
 |_,_,i+1,_,.cons _ rs,h=>by
  obtain⟨d,e,r⟩:=aBo (i:=i) rs (by simpa using h);exact⟨d,by simpa using e,r⟩
theorem vA:∀l:List Int,vg (l.map .int)=true
 |[]=>rfl
 |x::l=>by simp[vg,imm,vA l]
section
variable{C:Ct}{pos p kp kq:Pos}{m:Mode}{a:Expr}{ga:En->Rs (List D)}{j:Nat}
def aDd(hm:C.mg "min"=none)(ha:SA C m [a] ga)(he:∀i,zA2 [a] (C.X i).env=[(false,eval a (C.X i).env)]:=by intro _;rfl)(hg:∀i,Gl (C.X i) "min":=by intro _;rfl)(hv:zBR "min"=some (.builtin "min"):=by decide+kernel):
  SE C (some []) (.Call (.Name "min" p) [a] [⟨some "default",.Constant .none j kq,kp⟩] pos) (opA zu ga):=by
 obtain⟨t,h1,h2⟩:=ha;refine⟨aHU C.K t,λ i=>by rw[<-C.hK i];exact aEG (C.calm i) (C.u64 i) (hg i) (by rw[(C.cx i).2.2.2.1];exact hm) hv (h1 i) (he i),λ U Z H ρ lab Q R W=>?_⟩;refine h2 U Z H ρ lab _ R (W.bd.imp λ ds _ w xs H1 s1 r1=>?_);obtain⟨z,ez,w2⟩:=w.okD;clear w;unfold zu at ez;split at ez
 .rename_i l
  split at ez
  .rename_i nss e
   cases ez;obtain⟨e1,e2⟩:=lR e;subst e1;cases r1 with
   |cons hr r'=>
    cases r';obtain⟨q,vs,rfl,hq,mm,rs⟩:=hr.lst_inv;have ht:=tU rs e2;refine⟨q,vs,nss,rfl,rfl,SqL.of hq,ht,λ e0=>?_,λ hn v hv'=>?_⟩
    .have:nss.length=0:=by rw[<-ht.len,e0];rfl
     refine w2 _ _ s1 ?_;unfold ye;rw[if_pos this];exact .non
    .have hl:=ht.len
     obtain⟨d,ed,rd⟩:=aBo rs hv'
     have:ye nss=d:=by
      unfold ye;rw[if_neg (by lia),<-hl];rw[zAa,zBw]at ed;obtain⟨ns,en,rfl⟩:=ed;simp[en]
     rw[this]at w2;have hi:imm d=true:=by
      rw[<-this];unfold ye;split
      .rfl
      .simp only[tupI,imm]
       exact vA _
     exact w2 _ _ s1 (rd.imm hi)
  .cases ez
 .cases ez
end
section
variable{C:Ct}{pos pos' spos:Pos}{x:Str}{i:Nat}{elt tg iter tg2 iter2 tg3 iter3:Expr}{ifs ifs2 ifs3:List Expr}{sc:Scope}{N:List Str}{js:List (Option Nat)}{ks ks2 ks3:List Nat}{fi fi2 fi3:En->Rs (List D)}{fg fg2 fg3:D->En->Rs En}{ft ft2 ft3:En->Rs Bool}{fe:En->Rs D}
def aJl(hi:SI C tg iter fi)(hg:SG (C.blk sc N) tg ks fg)(ht:zJ (C.blk sc N) ifs ft)(hi2:SI (C.blk sc N) tg2 iter2 fi2)(hg2:SG (C.blk sc N) tg2 ks2 fg2)(ht2:zJ (C.blk sc N) ifs2 ft2)(he:SE (C.blk sc N) (some []) elt fe)
  (hN:∀j,(C.X j).N[i]? =some x:=by intro _;rfl)(hx:∀j,Loc (C.X j).env.scope x:=by intro _;first|exact zCo rfl|exact zCS rfl)(hsw:∀j,zC3 (.ListComp elt [⟨tg,iter,ifs,0⟩,⟨tg2,iter2,ifs2,0⟩] sc pos) (some (.Name x pos')) spos.line (C.X j).env=pure true:=by intro _;rfl)
  (hk:∀k∈ks2,k∉ks/\(js[k]?).join=none:=by decide)(hs:∀i x,zAx iter (C.X i).env x=pure x:=by intro _ _;rfl)(hs2:∀(i:(C.blk sc N).ι) x,zAx iter2 ((C.blk sc N).X i).env x=pure x:=by intro _ _;rfl)(hB:∀i,cT (C.X i) sc N (stV js) (ks++ks2):=by intro _;exact vR rfl rfl rfl rfl rfl rfl)
  (hf:∀j,(C.X j).fn x=true\/(C.X j).env.scope.names.lookup x=some .local:=by intro _;first|exact .inl rfl|exact .inr rfl)(nd:∀j,(C.X j).N.Nodup:=by intro _;assumption):
  SV C i (.Assign [.Name x pos'] (.ListComp elt [⟨tg,iter,ifs,0⟩,⟨tg2,iter2,ifs2,0⟩] sc pos) spos) (some []) (aAE fi js fg ft (inL fi2 fg2 ft2 fe)):=by
 obtain⟨wi,i1,i2⟩:=hi;obtain⟨g,g1,g2,g3,g4⟩:=hg;obtain⟨tt,t1,t2⟩:=ht;obtain⟨wi2,j1,j2⟩:=hi2;obtain⟨gg,h1,h2,h3,h4⟩:=hg2;obtain⟨tt2,u1,u2⟩:=ht2;obtain⟨te,e1,e2⟩:=he;have go1:gw g (ks++ks2):=λ v Z H Q q=>g4 _ _ _ _ _ (λ Z' H' ⟨a,b,c⟩=>⟨a,b,λ k hk=>c k λ z=>hk (zA8 _ z)⟩) (g3 v Z H Q q)
 refine⟨_,λ j=>zj (pos:=pos) (nd j) (hN j) (hx j) (hB j) (C.calm j) (i1 j) (λ c fp z5 z4=>g1 (j,c,fp,z5,z4)) go1 (λ c fp z5 z4=>t1 (j,c,fp,z5,z4)) (aDQ elt tg iter tg2 iter2 ifs ifs2 sc pos) (lV rfl (λ _ _ _ _=>rfl) λ _ _ _ _ _=>rfl) aCU ?_ (hsw j) rfl (λ _=>rfl) (hs j) (hf j),aHy i2 g2 g3 g4 hk t2 j2 h2 u2 e2⟩;intro c fp z5 z4;exact aGP (C.calm j) (λ _ _ h=>h) (aDP elt tg iter tg2 iter2 ifs ifs2 sc pos) (lV rfl (λ _ _ _ _=>rfl) λ _ _ _ _ _=>rfl) (j1 (j,c,fp,z5,z4)) (h1 (j,c,fp,z5,z4)) h3 (u1 (j,c,fp,z5,z4)) (aEM (e1 (j,c,fp,z5,z4))) (hs2 (j,c,fp,z5,z4))
def aJk(hi:SI C tg iter fi)(hg:SG (C.blk sc N) tg ks fg)(ht:zJ (C.blk sc N) ifs ft)(hi2:SI (C.blk sc N) tg2 iter2 fi2)(hg2:SG (C.blk sc N) tg2 ks2 fg2)(ht2:zJ (C.blk sc N) ifs2 ft2)(hi3:SI (C.blk sc N) tg3 iter3 fi3)(hg3:SG (C.blk sc N) tg3 ks3 fg3)(ht3:zJ (C.blk sc N) ifs3 ft3)(he:SE (C.blk sc N) (some []) elt fe)
  (hN:∀j,(C.X j).N[i]? =some x:=by intro _;rfl)(hx:∀j,Loc (C.X j).env.scope x:=by intro _;first|exact zCo rfl|exact zCS rfl)(hsw:∀j,zC3 (.ListComp elt [⟨tg,iter,ifs,0⟩,⟨tg2,iter2,ifs2,0⟩,⟨tg3,iter3,ifs3,0⟩] sc pos) (some (.Name x pos')) spos.line (C.X j).env=pure true:=by intro _;rfl)
  (hk:∀k∈ks2++(ks3++[]),k∉ks/\(js[k]?).join=none:=by decide)(hk3:∀k∈ks3++[],k∉ks2:=by decide)(hs:∀i x,zAx iter (C.X i).env x=pure x:=by intro _ _;rfl)(hs2:∀(i:(C.blk sc N).ι) x,zAx iter2 ((C.blk sc N).X i).env x=pure x:=by intro _ _;rfl)(hs3:∀(i:(C.blk sc N).ι) x,zAx iter3 ((C.blk sc N).X i).env x=pure x:=by intro _ _;rfl)(hB:∀i,cT (C.X i) sc N (stV js) (ks++(ks2++ks3)):=by intro _;exact vR rfl rfl rfl rfl rfl rfl)
  (hf:∀j,(C.X j).fn x=true\/(C.X j).env.scope.names.lookup x=some .local:=by intro _;first|exact .inl rfl|exact .inr rfl)(nd:∀j,(C.X j).N.Nodup:=by intro _;assumption):
  SV C i (.Assign [.Name x pos'] (.ListComp elt [⟨tg,iter,ifs,0⟩,⟨tg2,iter2,ifs2,0⟩,⟨tg3,iter3,ifs3,0⟩] sc pos) spos) (some []) (aAE fi js fg ft (nsI fi2 fg2 ft2 (nsI fi3 fg3 ft3 (aC8 fe)))):=by
 obtain⟨wi,i1,i2⟩:=hi;obtain⟨g,g1,g2,g3,g4⟩:=hg;obtain⟨tt,t1,t2⟩:=ht;obtain⟨wi2,j1,j2⟩:=hi2;obtain⟨gg,h1,h2,h3,h4⟩:=hg2;obtain⟨tt2,u1,u2⟩:=ht2;obtain⟨wi3,l1,l2⟩:=hi3;obtain⟨gh,m1,m2,m3,m4⟩:=hg3;obtain⟨tt3,v1,v2⟩:=ht3;obtain⟨te,e1,e2⟩:=he;have go1:gw g (ks++(ks2++ks3)):=λ v Z H Q q=>g4 _ _ _ _ _ (λ Z' H' ⟨a,b,c⟩=>⟨a,b,λ k hk=>c k λ z=>hk (zA8 _ z)⟩) (g3 v Z H Q q)
 refine⟨_,λ j=>zj (pos:=pos) (nd j) (hN j) (hx j) (hB j) (C.calm j) (i1 j) (λ c fp z5 z4=>g1 (j,c,fp,z5,z4)) go1 (λ c fp z5 z4=>t1 (j,c,fp,z5,z4)) (aDO elt tg iter tg2 iter2 tg3 iter3 ifs ifs2 ifs3 sc pos) (lV rfl (λ _ _ _ _=>rfl) λ _ _ _ _ _=>rfl) aCU ?_ (hsw j) rfl (λ _=>rfl) (hs j) (hf j),aD7 i2 g2 g3 g4 hk t2 (wK j2 h2 h3 h4 u2 (wK l2 m2 m3 m4 v2 (aDa e2) (λ k hk=>by cases hk)) hk3)⟩;intro c fp z5 z4;exact zp (C.calm j) (λ _ _ h=>h) (aDN elt tg iter tg2 iter2 tg3 iter3 ifs ifs2 ifs3 sc pos) (lV rfl (λ _ _ _ _=>rfl) λ _ _ _ _ _=>rfl) (j1 (j,c,fp,z5,z4)) (h1 (j,c,fp,z5,z4)) h3 (u1 (j,c,fp,z5,z4))
  (zp (C.calm j) (λ _ _ h=>h) (aDM elt tg iter tg2 iter2 tg3 iter3 ifs ifs2 ifs3 sc pos) (lV rfl (λ _ _ _ _=>rfl) λ _ _ _ _ _=>rfl) (l1 (j,c,fp,z5,z4)) (m1 (j,c,fp,z5,z4)) m3 (v1 (j,c,fp,z5,z4)) (aEM (e1 (j,c,fp,z5,z4))) (hs3 (j,c,fp,z5,z4))) (hs2 (j,c,fp,z5,z4))
end
def yj(K:zAA)(x:Str)(Pt:Addr):Bool:=match zAg K zA5 x with
 |some (some (.ref f))=>(match K.lookup f with
  |some ⟨_,_,.func fd,_⟩=>(match fd.code with| .ref c=>zDf K c Pt|_=>false)
  |_=>false)&&(K.lookup Pt).isNone
 |_=>false
def aCi{K:zAA}{h:Heap}{mg:Str->Option Value}{fa Pt:Addr}{x:Str}(X:K.In h)(G:h.Ns zA5 mg)(hm:mg x=some (.ref fa))(e:yj K x Pt=true)
  {o:Obj}{fd:zAt}(lk:K.lookup fa=some o)(hd:o.data= .func fd):K.lookup Pt=none/\∃c,fd.code= .ref c/\zDf K c Pt=true:=by
 unfold yj at e;split at e
 .rename_i f hf
  have e1:=(zAf X G hf).symm.trans hm;cases e1;rw[zAQ]at e;refine⟨by simpa using e.2,?_⟩;have e2:=e.1;rw[lk]at e2;split at e2
  .rename_i fd' _ q
   have q2:=zAn q;rw[q2]at hd;have hd2:Data.func fd'=Data.func fd:=hd;cases hd2;split at e2
   .rename_i c hc
    exact⟨c,hc,e2⟩
   .cases e2
  .cases e2
 .cases e
def aGe{P:zAY}{w:World}{K:zAA}{h:Heap}{mg:Str->Option Value}{fa Pt:Addr}{fd:zAt}{k n:Nat}{x:Str}{N:List Str}{st:Stmt}{f:En->Ou}{F:List D->Rs D}(X:K.In h)(G:h.Ns zA5 mg)
  (hB:yj K "law" Pt=true){ps:List Str}(e:Dnr K mg "law" st ps fa fd)(S:aW N [x] (aF st))
  (hbind:∀(kV doc pm:Value) (an:Option Addr) (cdv ct:Value) (s:zAD) (u:Value),zGV s (zBo "law" "law" (kh st) (cH st) (aF st) .none kV doc pm an cdv ct) ⟨[u],[]⟩ [(x,u)])
  (body:∀(base:Heap) (c:Addr) (s:zAD) (H:Hp) (hr:dM k (zCb.deeper (zCq "law" (aF st) s.heap.objs.size fa (.ref c)))),sV (cxW P w K mg base N "law" (aF st) fa (.ref c) zCb s H Pt) Pt->List.Nodup N->
   SSs (ctW P w K mg base N "law" (aF st) fa (.ref c) zCb s H Pt k hr) (cH st) f)
  (hF:F=eZ N.length f)(tru:∀ns:List Int,ns.length<=n->F [.scr ns]= .ok (.bl true)):aCV P w K mg fa Pt k n:=by
 obtain⟨oc,od,kV,doc,pm,an,cdv,ct,osl,e1,lk,hcd⟩:=e.F.ex;obtain⟨h1,c,h2,h3⟩:=aCi X G e.m hB lk rfl;subst e1;obtain rfl:cdv= .ref c:=h2;exact⟨x,"law","law",_,_,_,_,kV,doc,pm,ct,oc,an,od,c,osl,N,h1,h3,lk,hcd,S,λ s u=>hbind kV doc pm an _ ct s u,λ a ns hl base s H hr Lx hO hS=>
  aEb (body base c s H hr Lx S.nd) (by rw[<-hF];exact tru ns hl) (.cons (.scr (aIG hO hS)) .nil)⟩
section
variable{ρ:En}{i:Nat}{f g:En->Rs D}{fb gb:En->Rs Bool}{ga:En->Rs (List D)}{u v:En->Ou}{d:D}
@[simp] def varD_ap:aDK i ρ=match ρ[i]? with
 |some (.sh d)=>.ok d
 |some (.nw d)=>.ok d
 |some (.ow d)=>.ok d
 |some (.oz d)=>.ok d
 |some (.o2 l)=>.ok (.lst (l.map .lst))
 |_=>.st:=aL rfl
@[simp] def varS_ap:aD i ρ=match ρ[i]? with
 |some (.sh d)=>.ok d
 |some (.nw d)=>.ok d
 |_=>.st:=aL rfl
@[simp] def varN_ap:jr i ρ=match ρ[i]? with
 |some (.nw d)=>.ok d
 |_=>.st:=aL rfl
@[simp] def varO_ap:vW i ρ=match ρ[i]? with
 |some (.ow d)=>.ok d
 |some (.o2 l)=>.ok (.lst (l.map .lst))
 |_=>.st:=aL rfl
@[simp] def cD_ap:cD d ρ= .ok d:=aL rfl
@[simp] def aG2:aJ ρ= .ok []:=aL rfl
@[simp] def aAQ:aC f ga ρ=(f ρ).bd λ d=>(ga ρ).bd λ ds=>.ok (d::ds):=aL rfl
@[simp] def szl:zAV=16777216:=zD8
@[simp] def tupD_ap:eU ga ρ=(ga ρ).bd λ ds=>if ds.length<=16777216 then .ok (.tup ds)else .st:=by unfold eU;rw[szl]
@[simp] def lstD_ap:jG ga ρ=(ga ρ).bd λ ds=>if ds.length<=16777216 then .ok (.lst ds)else .st:=by unfold jG;rw[szl]
@[simp] def aIp:okD (.ok d)= .ok d:=aL rfl
@[simp] def aIo:op2 fd f g ρ=(f ρ).bd λ x=>(g ρ).bd λ y=>okD (fd x y):=aL rfl
@[simp] def op1_ap:op1 fd f ρ=(f ρ).bd λ x=>okD (fd x):=aL rfl
@[simp] def aER:opA fd ga ρ=(ga ρ).bd λ x=>okD (fd x):=aL rfl
@[simp] def aAU:aY F ga ρ=(ga ρ).bd F:=aL rfl
def aKX(d:D)(r:Rs D):Rs D:=match d with
 | .bl true=>r
 | .bl false=>.ok (.bl false)
 |_=>.st
@[simp] def aCT:aKX (.bl b) r=if b=true then r else .ok (.bl false):=by cases b<;>rfl
@[simp] def zG:sy f g ρ=(f ρ).bd λ d=>aKX d (g ρ):=aL rfl
@[simp] def notD_bl:aIr (.bl b)= .ok (.bl (!b)):=aL rfl
def chR(d:D)(r:Rs D):Rs D:=match d with
 | .bl true=>r
 | .bl false=>.ok (.bl false)
 |_=>.st
@[simp] def chR_bl:chR (.bl b) r=if b=true then r else .ok (.bl false):=by cases b<;>rfl
@[simp] def chD_ap:chD fd fd' f g h ρ=(f ρ).bd λ x=>(g ρ).bd λ y=>(okD (fd x y)).bd λ z=>chR z ((h ρ).bd λ w=>okD (fd' y w)):=aL rfl
@[simp] def aFg:aHr (.bl b)= .ok b:=aL rfl
@[simp] def blD_bl:blD (.bl b)= .ok b:=aL rfl
@[simp] def aHo:tst f ρ=(f ρ).bd aHr:=aL rfl
@[simp] def aHp:tsb f ρ=(f ρ).bd blD:=aL rfl
@[simp] def andT_ap:aHK fb gb ρ=(fb ρ).bd λ k=>if k=true then gb ρ else .ok false:=aL rfl
@[simp] def orT_ap:orT fb gb ρ=(fb ρ).bd λ k=>if k=true then .ok true else gb ρ:=aL rfl
@[simp] def aG0:kI fb ρ=(fb ρ).bd λ k=>.ok (!k):=aL rfl
@[simp] def aR:bB u v ρ=(u ρ).sq v:=aL rfl
@[simp] def aBq:retS f ρ=(f ρ).bo .rt:=aL rfl
@[simp] def dropS_ap:xJ f ρ=(f ρ).bo λ _=>.nx ρ:=aL rfl
@[simp] def vB:ifS fb u v ρ=(fb ρ).bo λ k=>if k=true then u ρ else v ρ:=aL rfl
@[simp] def setS_ap:iC i f ρ=(f ρ).bo λ d=>.nx (ρ.set i (.sh d)):=aL rfl
@[simp] def yD:pC i f ρ=(f ρ).bo λ d=>.nx (ρ.set i (.nw d)):=aL rfl
@[simp] def setO_ap:zT i f ρ=(f ρ).bo λ d=>.nx (ρ.set i (.ow d)):=aL rfl
@[simp] def fU:gnm i d ρ= .ok (ρ.set i (.sh d)):=aL rfl
@[simp] def gnil_nil:kW [] ρ= .ok ρ:=aL rfl
@[simp] def gcons_cons:bG a b (d::ds) ρ=(a d ρ).bd (b ds):=aL rfl
@[simp] def gtup_tup:jd n b (.tup ds) ρ=if ds.length=n then b ds ρ else .st:=aL rfl
def nxO(r:Rs En):Ou:=match r with
 | .ok ρ=>.nx ρ
 |_=>.st
@[simp] def nxO_ok:nxO (.ok ρ)= .nx ρ:=aL rfl
@[simp] def asgS_ap:aDA f a ρ=(f ρ).bo λ d=>nxO (a d ρ):=aL rfl
@[simp] def itD_tup:itD (.tup l)= .ok l:=aL rfl
@[simp] def itD_lst:itD (.lst l)= .ok l:=aL rfl
@[simp] def itrD_ap:fH f ρ=(f ρ).bd itD:=aL rfl
@[simp] def iG:dU ga a u ρ=(ga ρ).bo λ ds=>forL a u ds ρ:=aL rfl
@[simp] def forL_nil:forL a u [] ρ= .nx ρ:=aL rfl
noncomputable def Ou.tn(o:Ou)(k:En->Ou):Ou:=match o with
 | .nx ρ2=>k ρ2
 | .ct ρ2=>k ρ2
 | .bk ρ2=>.nx ρ2
 |o=>o
@[simp] def nH:(Ou.nx ρ).tn k=k ρ:=aL rfl
@[simp] def aJa:(Ou.rt d).tn k= .rt d:=aL rfl
def okE(r:Rs En)(k:En->Ou):Ou:=match r with
 | .ok ρ=>k ρ
 |_=>.st
@[simp] def di:okE (.ok ρ) k=k ρ:=aL rfl
def bw:forL a u (d::ds) ρ=okE (a d ρ) λ ρ1=>(u ρ1).tn (forL a u ds):=by
 unfold forL;cases a d ρ with
 |ok ρ1=>simp only[di];cases u ρ1<;>rfl
 |ex c=>rfl
 |st=>rfl
@[simp] def oNone_ap:rQ ρ= .ok none:=aL rfl
@[simp] def oSome_ap:rP f ρ=(f ρ).bd λ d=>match d with
 | .int i=>.ok (some i)
 |_=>.st:=aL rfl
@[simp] def sliceD_ap:lZ f a b ρ=(f ρ).bd λ d=>(a ρ).bd λ l=>(b ρ).bd λ h=>okD (slD d l h):=aL rfl
@[simp] def slD_tup:slD (.tup l) a b= .ok (.tup (cutD l a b)):=aL rfl
@[simp] def revD_tup:aIL (.tup l)= .ok (.tup l.reverse):=aL rfl
@[simp] def immD_ap:cP f ρ=(f ρ).bd vm:=aL rfl
@[simp] def rngA_ap:gW r ga ρ=(ga ρ).bd r:=aL rfl
@[simp] def raiseS_ap:uM x ga ρ=(ga ρ).bo λ ds=>if ds.length<=16777216 then .ex x else .st:=by unfold uM;rw[szl]
@[simp] def yesT_ap:lN ρ= .ok true:=aL rfl
end
section
variable{d e:D}{i j:Int}{l m:List D}
@[simp] def gImm_int:vm (.int i)= .ok (.int i):=aL rfl
@[simp] def addD_int:cX (.int i) (.int j)= .ok (.int (i+j)):=aL rfl
@[simp] def addD_lst:cX (.lst l) (.lst m)=if l.length+m.length<=16777216 then .ok (.lst (l++m))else .st:=by unfold cX;rw[szl]
@[simp] def addD_tup:cX (.tup l) (.tup m)=if l.length+m.length<=16777216 then .ok (.tup (l++m))else .st:=by unfold cX;rw[szl]
@[simp] def subD_int:aCX (.int i) (.int j)= .ok (.int (i-j)):=aL rfl
def wZ(h0:0<j)(h1:j<1073741824):rY (.int i) (.int j)= .ok (.int (i / j)):=by unfold rY i2;dsimp only;rw[if_pos (by simp[h0,h1])]
def mL(h0:0<j):qu (.int i) (.int j)= .ok (.int (i%j)):=by unfold qu i2;dsimp only;rw[if_pos (by simp[h0])]
def yc(h0: -(2^64)<i)(h1:i<2^64):j9 (.int i) (.int j)= .ok (.int (i*j)):=by unfold j9;dsimp only;rw[if_pos (by simp only[zFM,zAQ,decide_eq_true_eq];exact .inl ⟨h0,h1⟩)]
def aEZ(h0: -(2^64)<j)(h1:j<2^64):j9 (.int i) (.int j)= .ok (.int (i*j)):=by unfold j9;dsimp only;rw[if_pos (by simp only[zFM,zAQ,decide_eq_true_eq];exact .inr ⟨h0,h1⟩)]
@[simp] def negD_int:aEU (.int i)= .ok (.int (-i)):=aL rfl
@[simp] def ltD_int:ltD (.int i) (.int j)= .ok (.bl (decide (i<j))):=aL rfl
@[simp] def leD_int:leD (.int i) (.int j)= .ok (.bl (decide (i<=j))):=aL rfl
@[simp] def gtD_int:gtD (.int i) (.int j)= .ok (.bl (decide (j<i))):=aL rfl
@[simp] def geD_int:geD (.int i) (.int j)= .ok (.bl (decide (j<=i))):=aL rfl
def aG7(ns ms:List Int):ltD (.tup (ns.map .int)) (.tup (ms.map .int))= .ok (.bl (HT.lexLt ns ms)):=by
 unfold ltD ltT i2;simp only[il]
@[simp] def lenD_tup:fG [.tup l]= .ok (.int l.length):=aL rfl
@[simp] def lenD_lst:fG [.lst l]= .ok (.int l.length):=aL rfl
@[simp] def lenD_scr:fG [.scr x]= .ok (.int x.length):=aL rfl
@[simp] def tupleD_lst:nu [.lst l]= .ok (.tup l):=aL rfl
@[simp] def listD_tup:zy [.tup l]= .ok (.lst l):=aL rfl
@[simp] def mmD_int:mmD f [.int i,.int j]= .ok (.int (f i j)):=aL rfl
@[simp] def ixD_tup:ixD (.tup l) (.int i)=atD l i:=aL rfl
@[simp] def ixD_lst:ixD (.lst l) (.int i)=atD l i:=aL rfl
@[simp] def ixD_scr:ixD (.scr x) (.int i)=atD (x.map .int) i:=aL rfl
def lD{k:Nat}(h:l[k]? =some d):atD l (k:Int)= .ok d:=by
 have hk:=(zAK.mp h).1;unfold atD atI ixN;rw[if_pos (by omega),if_pos (by omega)];simp[h]
def aB6(h0:0<=i)(h1:i<l.length):∃d,atD l i= .ok d/\d∈l/\l[i.toNat]? =some d:=by
 have hk:i.toNat<l.length:=by omega
 have e:=zAB hk;refine⟨_,?_,zBg hk,e⟩
 have:=lD e
 rwa [zCl h0]at this
@[simp] def atD_0{r:List D}:atD (d::r) 0= .ok d:=lD (k:=0) rfl
@[simp] def atD_1{r:List D}:atD (d::e::r) 1= .ok e:=lD (k:=1) rfl
@[simp] def eqR_int:eqR n (.int i) (.int j)= .ok (.bl (if n then !(i==j)else i==j)):=aL rfl
def knd:D->Bool
 | .set _=>false
 | .scr _=>false
 | .fn _=>false
 |_=>true
def yp(hT:T∈["bool","int","str","list","tuple","dict"])(h:knd d=true):jH T d= .ok (.bl (aGj (tyD d) T)):=by
 have ht:tyD d∈["NoneType","bool","int","str","list","tuple","dict"]:=by cases d<;>simp_all [tyD,knd]
 unfold jH nO;cases e:aGj (tyD d) T<;>simp[ht,hT]
def aBS:D->Bool
 | .int _=>true
 | .bl _=>true
 |_=>false
def aHa:D->Bool
 | .bl _=>true
 |_=>false
def mR:D->Bool
 | .tup _=>true
 |_=>false
def yo(h:knd d=true):jH "int" d= .ok (.bl (aBS d)):=by
 rw[yp (by simp) h];cases d<;>first|rfl|(simp[knd]at h)
def pW(h:knd d=true):jH "bool" d= .ok (.bl (aHa d)):=by
 rw[yp (by simp) h];cases d<;>first|rfl|(simp[knd]at h)
def jc(h:knd d=true):jH "tuple" d= .ok (.bl (mR d)):=by
 rw[yp (by simp) h];cases d<;>first|rfl|(simp[knd]at h)
@[simp] def isi_tuple_tup:jH "tuple" (.tup l)= .ok (.bl true):=jc rfl
@[simp] def isi_int_int:jH "int" (.int i)= .ok (.bl true):=yo rfl
@[simp] def isi_bool_int:jH "bool" (.int i)= .ok (.bl false):=pW rfl
@[simp] def isi_bool_bl:jH "bool" (.bl b)= .ok (.bl true):=pW rfl
end
@[simp] def bA:eZ n u ds=match u (ak n ds)with
 | .nx _=>.ok .non
 | .rt d=>.ok d
 | .ex c=>.ex c
 |_=>.st:=aL rfl
def gM(h0: -(2^62)<=j)(h1:j<2^62):iW [.int j]= .ok (dh 0 j):=by unfold iW;dsimp only;rw[if_pos ⟨h0,h1⟩]
def yK(h0: -(2^62)<=i)(h1:i<2^62)(h2: -(2^62)<=j)(h3:j<2^62):v7 [.int i,.int j]= .ok (dh i j):=by unfold v7;dsimp only;rw[if_pos ⟨⟨h0,h1⟩,h2,h3⟩]
def aE2{lo hi:Int}:d∈dh lo hi↔∃k:Int,d= .int k/\lo<=k/\k<hi:=by
 unfold dh;rw[zBH];constructor
 .rintro⟨n,hn,rfl⟩
  have:=zBb.mp hn
  exact⟨lo+n,rfl,by omega,by omega⟩
 .rintro⟨k,rfl,h1,h2⟩
  exact⟨(k-lo).toNat,zBb.mpr (by omega),by congr 1;omega⟩
def qC(I:Nat->En->Prop)(hs:∀(i:Nat) d ρ,ds[i]? =some d->I i ρ->∃ρ2,okE (a d ρ) (λ ρ1=>u ρ1)= .nx ρ2/\I (i+1) ρ2)(h0:I 0 ρ):∃ρ',forL a u ds ρ= .nx ρ'/\I ds.length ρ':=by
 have go:∀(n:Nat) (ρ:En),n<=ds.length->I (ds.length-n) ρ->∃ρ',forL a u (ds.drop (ds.length-n)) ρ= .nx ρ'/\I ds.length ρ':=by
  intro n;induction n with
  |zero=>intro ρ _ h;exact⟨ρ,by rw[Nat.sub_zero,zCY];rfl,h⟩
  |succ n ih=>
   intro ρ hn h;have hlt:ds.length-(n+1)<ds.length:=by omega
   rw[zBG hlt,bw];obtain⟨ρ2,e,h2⟩:=hs _ _ ρ (zAB hlt) h;rw[show ds.length-(n+1)+1=ds.length-n by omega]at h2 ⊢;cases ea:a ds[ds.length-(n+1)] ρ with
   |ok ρ1=>
    rw[ea]at e;simp only[di]at e ⊢;rw[e,nH];exact ih ρ2 (by omega) h2
   |ex c=>rw[ea]at e;cases e
   |st=>rw[ea]at e;cases e
 have:=go ds.length ρ (zAP _) (by rw[zEz];exact h0)
 rwa [zEz,zCK]at this
end VL
namespace VL.My
open PySem L2
def wdN:Str->Option Str:=λ c=>((["NoWeb","NoPlace","NoWay","NoParting","TooMany","NoForest","NoPlan","NoOneWay","NoOrder","NoText","NoDeed","NoRow"]:List Str).zip (["web","place","way","parting","many","forest","plan","one way","order","text","deed","row"]:List Str)).lookup c
def fW:En->Ou:=
  (retS (sy (op1 (jH "int") (aD 0)) (op1 aIr (op1 (jH "bool") (aD 0)))))
def jF:List D->Rs D:=eZ 1 fW
def dD:En->Ou:=
  (bB (dU (gW v7 (aC (cD (.int 1)) (aC (opA fG (aC (aD 0) aJ)) aJ))) (gnm 1)
   (ifS (kI (tsb (op2 ltD (op2 ixD (aD 0) (op2 aCX (aD 1) (cD (.int 1)))) (op2 ixD (aD 0) (aD 1)))))
    (retS (cD (.bl false)))
    Ou.nx))
  (retS (cD (.bl true))))
def eG:List D->Rs D:=eZ 2 dD
def gB:En->Ou:=
  (bB (aDA (aD 0) (jd 2 (bG (gnm 1) (bG (gnm 2) kW))))
  (bB (llS 3 (gW iW (aC (aD 1) aJ)) [none] (gnm 0))
  (bB (dU (fH (aD 2)) (jd 2 (bG (gnm 4) (bG (gnm 5) kW)))
   (bB (n8 3 (aD 4) (cP (aD 5)))
   (n8 3 (aD 5) (cP (aD 4)))))
  (retS (vW 3)))))
def gJ:List D->Rs D:=eZ 6 gB
def cG:En->Ou:=
  (bB (ifS (tsb (op2 ltD (aD 1) (opA fG (aC (aD 0) aJ))))
   (retS (cP (op2 ixD (aD 0) (aD 1))))
   Ou.nx)
  (retS (cD (.int 0))))
def cV:List D->Rs D:=eZ 2 cG
def dC:En->Ou:=
  (bB (ifS (tsb (op2 geD (aD 0) (op2 aIR (cD (.int 10)) (cD (.int 18)))))
   (bB (iC 3 (aD 0))
   (bB (dU (gW iW (aC (aD 1) aJ)) (gnm 4)
    (bB (ifS (tsb (op2 (eqR false) (aD 3) (cD (.int 0))))
     (retS (cD (.int 0)))
     Ou.nx)
    (iC 3 (op2 rY (aD 3) (aD 2)))))
   (retS (op2 qu (aD 3) (aD 2)))))
   Ou.nx)
  (bB (iC 5 (op2 qu (op2 j9 (op2 cX (op2 cX (op2 qu (aD 0) (cD (.int 1000000007))) (op2 j9 (cD (.int 1009)) (aD 1))) (cD (.int 17))) (cD (.int 69621))) (cD (.int 2147483647))))
  (bB (iC 5 (op2 qu (op2 cX (op2 cX (op2 j9 (aD 5) (aD 5)) (op2 j9 (cD (.int 40503)) (aD 1))) (cD (.int 5))) (cD (.int 2147483629))))
  (retS (op2 qu (op2 rY (op2 qu (op2 j9 (aD 5) (cD (.int 48271))) (cD (.int 2147483647))) (cD (.int 32))) (aD 2))))))
def ao:List D->Rs D:=eZ 6 dC
def lbE:En->Rs D:=lcD (gW iW (aC (aD 3) aJ)) [none,some 3,some 1,some 0] (gnm 0) (tsb (op2 (inR false) (eU (aC (opA (mmD λ i j=>if j<i then j else i) (aC (op2 ixD (aD 2) (aD 0)) (aC (op2 ixD (aD 2) (aD 1)) aJ))) (aC (opA (mmD λ i j=>if j>i then j else i) (aC (op2 ixD (aD 2) (aD 0)) (aC (op2 ixD (aD 2) (aD 1)) aJ))) aJ))) (op2 ixD (aD 3) (cD (.int 1))))) (eU (aC (cP (aD 0)) (aC (cP (aD 1)) aJ)))
def fV:En->Ou:=(bB (zT 2 (jG aJ))
  (bB (dU (gW iW (aC (cD (.int 4)) aJ)) (gnm 3) (qF 2 lbE))
  (retS (op2 (eqR false) (aDK 2) (jG (aC (eU (aC (cD (.int 0)) (aC (cD (.int 1)) aJ))) (aC (eU (aC (cD (.int 1)) (aC (cD (.int 2)) aJ))) (aC (eU (aC (cD (.int 2)) (aC (cD (.int 3)) aJ))) aJ))))))))
def jE:List D->Rs D:=eZ 4 fV
def iQ:En->Ou:=
  (retS (sy (aY jF (aC (aD 0) aJ)) (chD leD leD (cD (.int 0)) (aD 0) (cD (.int 60)))))
def mj:List D->Rs D:=eZ 1 iQ
def fZ:En->Ou:=
  (retS (sy (aY jF (aC (aD 1) aJ)) (chD leD ltD (cD (.int 0)) (aD 1) (aD 0))))
def cQ:List D->Rs D:=eZ 2 fZ
def iK:En->Ou:=
  (bB (iC 2 (aY ao (aC (aD 0) (aC (cD (.int 0)) (aC (op2 cX (aD 1) (cD (.int 1))) aJ)))))
  (bB (iC 3 (op2 cX (cD (.int 1)) (aY ao (aC (aD 0) (aC (cD (.int 1)) (aC (cD (.int 6)) aJ))))))
  (bB (zT 4 (jG aJ))
  (bB (dU (gW iW (aC (aD 2) aJ)) (gnm 5)
   (dU (gW v7 (aC (op2 cX (aD 5) (cD (.int 1))) (aC (aD 2) aJ))) (gnm 6)
    (ifS (tsb (op2 ltD (aY ao (aC (aD 0) (aC (op2 cX (op2 cX (cD (.int 3)) (op2 j9 (cD (.int 61)) (aD 5))) (aD 6)) (aC (cD (.int 8)) aJ)))) (aD 3)))
     (aFZ 4 (eU (aC (cP (aD 5)) (aC (cP (aD 6)) aJ))))
     Ou.nx)))
  (retS (eU (aC (cP (aD 2)) (aC (opA nu (aC (vW 4) aJ)) aJ))))))))
def iR:List D->Rs D:=eZ 7 iK
def aGc:En->Rs D:=lcD (gW iW (aC (op2 ixD (aD 0) (cD (.int 0))) aJ)) [none,some 2,some 3,some 4] (gnm 0) (tsb (op2 (inR true) (aD 0) (eU (aC (aD 1) (aC (aD 2) (aC (aD 3) aJ)))))) (cP (aD 0))
def aGa:En->Rs D:=lcD (fH (aD 5)) [none,some 2,some 3,some 4,some 0] (gnm 0) (tst (aY jE (aC (aD 4) (aC (eU (aC (aD 1) (aC (aD 2) (aC (aD 3) (aC (aD 0) aJ))))) aJ)))) (eU (aC (cP (aD 1)) (aC (cP (aD 2)) (aC (cP (aD 3)) (aC (cP (aD 0)) aJ)))))
def lfI:En->Ou:=(ifS (tsb (op2 (eqR false) (opA oU (aC (opA mz (aC (jG (aC (aD 2) (aC (aD 3) (aC (aD 4) aJ)))) aJ)) aJ)) (cD (.int 3))))
      (bB (pC 5 aGc) (qF 1 aGa))
      Ou.nx)
def lfR:En->Rs (List D):=gW iW (aC (op2 ixD (aD 0) (cD (.int 0))) aJ)
def dw:En->Ou:=(bB (zT 1 (jG aJ)) (bB (dU lfR (gnm 2) (dU lfR (gnm 3) (dU lfR (gnm 4) lfI))) (retS (vW 1))))
def gj:List D->Rs D:=eZ 6 dw
def yg:En->Ou:=(ifS (orT (kI (tst (op1 (jH "int") (aD 2)))) (orT (tst (op1 (jH "bool") (aD 2))) (kI (tsb (chD leD ltD (cD (.int 0)) (aD 2) (op2 ixD (aD 0) (cD (.int 0))))))))
    (retS (cD (.bl false)))
    Ou.nx)
def cU:En->Ou:=(bB (ifS (orT (kI (tst (op1 (jH "tuple") (aD 1)))) (tsb (op2 (eqR true) (opA fG (aC (aD 1) aJ)) (cD (.int 4)))))
   (retS (cD (.bl false)))
   Ou.nx)
  (bB (dU (fH (aD 1)) (gnm 2) yg)
  (retS (sy (op2 (eqR false) (opA oU (aC (opA mz (aC (aD 1) aJ)) aJ)) (cD (.int 4))) (aY jE (aC (aD 0) (aC (aD 1) aJ)))))))
def gU:List D->Rs D:=eZ 3 cU
def ipE:En->Ou:=ifS (orT (kI (tst (op1 (jH "tuple") (aD 1)))) (tsb (op2 (eqR true) (opA fG (aC (aD 1) aJ)) (cD (.int 2))))) (retS (cD (.bl false))) Ou.nx
def iM:En->Ou:=bB ipE (retS (sy (aY cQ (aC (aD 0) (aC (op2 ixD (aD 1) (cD (.int 0))) aJ))) (sy (aY cQ (aC (aD 0) (aC (op2 ixD (aD 1) (cD (.int 1))) aJ))) (op2 (eqR true) (op2 ixD (aD 1) (cD (.int 0))) (op2 ixD (aD 1) (cD (.int 1)))))))
def jm:List D->Rs D:=eZ 2 iM
def aB0:En->Ou:=ifS (kI (tst (aY cQ (aC (opA fG (aC (aD 0) aJ)) (aC (aD 2) aJ))))) (retS (cD (.bl false))) Ou.nx
def aBZ:En->Ou:=ifS (tsb (op2 (inR true) (op2 ixD (aD 1) (aD 3)) (op2 ixD (aD 0) (op2 ixD (aD 1) (op2 aCX (aD 3) (cD (.int 1))))))) (retS (cD (.bl false))) Ou.nx
def bK:En->Ou:=bB (ifS (orT (kI (tst (op1 (jH "tuple") (aD 1)))) (tsb (op2 (eqR false) (opA fG (aC (aD 1) aJ)) (cD (.int 0))))) (retS (cD (.bl false))) Ou.nx)
  (bB (dU (fH (aD 1)) (gnm 2) aB0)
  (bB (ifS (tsb (op2 (eqR true) (opA oU (aC (opA mz (aC (aD 1) aJ)) aJ)) (opA fG (aC (aD 1) aJ)))) (retS (cD (.bl false))) Ou.nx)
  (bB (dU (gW v7 (aC (cD (.int 1)) (aC (opA fG (aC (aD 1) aJ)) aJ))) (gnm 3) aBZ)
  (retS (cD (.bl true))))))
def bf:List D->Rs D:=eZ 4 bK
def au:En->Ou:=
  (bB (ifS (kI (tst (op1 (jH "tuple") (aD 1))))
   (retS (cD (.bl false)))
   Ou.nx)
  (bB (dU (fH (aD 1)) (gnm 2)
   (ifS (kI (tst (aY jm (aC (aD 0) (aC (aD 2) aJ)))))
    (retS (cD (.bl false)))
    Ou.nx))
  (retS (aY eG (aC (aD 1) aJ)))))
def bD:List D->Rs D:=eZ 3 au
def gA:En->Ou:=
  (retS (sy (aY bD (aC (aD 0) (aC (aD 1) aJ))) (opA (zH λ bs=>bs.all id) (aC (lcD (fH (aD 1)) [none,none] (jd 2 (bG (gnm 0) (bG (gnm 1) kW))) lN (op2 ltD (aD 0) (aD 1))) aJ))))
def lF:List D->Rs D:=eZ 2 gA
def jg:En->Ou:=
  (bB (ifS (orT (kI (tst (op1 (jH "tuple") (aD 0)))) (tsb (op2 (eqR true) (opA fG (aC (aD 0) aJ)) (cD (.int 2)))))
   (retS (cD (.bl false)))
   Ou.nx)
  (retS (sy (aY mj (aC (op2 ixD (aD 0) (cD (.int 0))) aJ)) (aY lF (aC (op2 ixD (aD 0) (cD (.int 0))) (aC (op2 ixD (aD 0) (cD (.int 1))) aJ))))))
def qQ:List D->Rs D:=eZ 1 jg
def dF:En->Ou:=
  (ifS (kI (tst (aY qQ (aC (aD 0) aJ))))
   (uM "NoWeb" (aC (cD (.str "this is no web")) aJ))
   Ou.nx)
def cB:List D->Rs D:=eZ 1 dF
def fj:En->Ou:=
  (bB (xJ (aY cB (aC (aD 0) aJ)))
  (bB (iC 2 (aY gJ (aC (aD 0) aJ)))
  (bB (ifS (orT (kI (tst (aY bf (aC (aD 2) (aC (aD 1) aJ))))) (tsb (op2 (eqR true) (opA fG (aC (aD 1) aJ)) (cD (.int 4)))))
   (retS (cD (.bl false)))
   Ou.nx)
  (bB (aDA (aD 1) (jd 4 (bG (gnm 3) (bG (gnm 4) (bG (gnm 5) (bG (gnm 6) kW))))))
  (retS (sy (op2 (inR true) (aD 5) (op2 ixD (aD 2) (aD 3))) (sy (op2 (inR true) (aD 6) (op2 ixD (aD 2) (aD 3))) (op2 (inR true) (aD 6) (op2 ixD (aD 2) (aD 4))))))))))
def eO:List D->Rs D:=eZ 7 fj
def bW:En->Ou:=
  (bB (xJ (aY cB (aC (aD 0) aJ)))
  (ifS (tsb (op2 gtD (op2 ixD (aD 0) (cD (.int 0))) (cD (.int 20))))
   (uM "TooMany" (aC (cD (.str "only webs of at most twenty places are looked at for a plan")) aJ))
   Ou.nx))
def bY:List D->Rs D:=eZ 1 bW
def E3:En->Rs D:=(aAE (gW iW (aC (op2 ixD (aD 0) (cD (.int 0))) aJ)) [none,none,none,some 1] (gnm 0) lN (nsI (fH (op2 ixD (aD 3) (aD 0))) (gnm 1) lN (nsI (fH (op2 ixD (aD 3) (aD 1))) (gnm 2) (tsb (op2 (inR true) (aD 2) (op2 ixD (aD 3) (aD 0)))) (aC8 (eU (aC (cP (aD 0)) (aC (cP (aD 1)) (aC (cP (aD 2)) aJ))))))))
def E4:En->Rs D:=(aAE (fH (aD 2)) [none,none,none,none,some 1] (jd 3 (bG (gnm 0) (bG (gnm 1) (bG (gnm 2) kW)))) lN (inL (fH (op2 ixD (aD 4) (aD 2))) (gnm 3) (aHK (tsb (op2 (inR true) (aD 3) (op2 ixD (aD 4) (aD 0)))) (tsb (op2 (inR true) (aD 3) (op2 ixD (aD 4) (aD 1))))) (eU (aC (cP (aD 0)) (aC (cP (aD 1)) (aC (cP (aD 2)) (aC (cP (aD 3)) aJ)))))))
def fu:En->Ou:=(bB (xJ (aY bY (aC (aD 0) aJ)))
  (bB (iC 1 (aY gJ (aC (aD 0) aJ)))
  (bB (pC 2 E3) (bB (pC 3 E4) (retS (opA zu (aC (jr 3) aJ)))))))
def bT:List D->Rs D:=eZ 4 fu
def lwR:En->Rs (List D):=(gW iW (aC (opA (mmD λ i j=>if j>i then j else i) (aC (cD (.int 1)) (aC (opA (mmD λ i j=>if j<i then j else i) (aC (opA fG (aC (aD 0) aJ)) (aC (cD (.int 6)) aJ))) aJ))) aJ))
def lI1:En->Ou:=(ifS (tsb (op2 (eqR true) (aY bT (aC (aD 3) aJ)) (op2 ixD (op2 cX (opA oG (aC (aD 4) aJ)) (jG (aC (cD .non) aJ))) (cD (.int 0))))) (retS (cD (.bl false))) Ou.nx)
def w5:En->Rs D:=(opA nu (aC (lcD (gW iW (aC (cD (.int 4)) aJ)) [none,some 2,some 3] (gnm 0) lN (aY ao (aC (aD 1) (aC (op2 cX (cD (.int 7000)) (aD 0)) (aC (op2 cX (op2 ixD (aD 2) (cD (.int 0))) (cD (.int 1))) aJ))))) aJ))
def w6:En->Rs D:=(cP (op2 ixD (op2 cX (aD 4) (jG (aC (aD 5) aJ))) (aY ao (aC (aD 2) (aC (cD (.int 7100)) (aC (op2 cX (opA fG (aC (aD 4) aJ)) (cD (.int 1))) aJ))))))
def w7:En->Rs D:=(op2 ixD (jG (aC (cD .non) (aC (cD (.bl true)) (aC (cP (op2 ixD (aD 3) (cD (.int 0)))) (aC (op1 aEU (cD (.int 1))) (aC (op2 ixD (jr 6) (cD (.int 0))) (aC (cD (.str "0")) aJ))))))) (aY ao (aC (aD 2) (aC (cD (.int 7101)) (aC (cD (.int 6)) aJ)))))
def w8:En->Rs D:=(jG (aC (jr 6) (aC (cP (aD 5)) (aC (op1 aIL (jr 6)) (aC (opA zy (aC (jr 6) aJ)) (aC (lZ (jr 6) rQ (rP (cD (.int 3)))) (aC (op2 cX (jr 6) (lZ (jr 6) rQ (rP (cD (.int 1))))) (aC (op2 cX (lZ (jr 6) rQ (rP (cD (.int 3)))) (eU (aC (jr 7) aJ))) (aC (op2 cX (eU (aC (jr 7) aJ)) (lZ (jr 6) (rP (cD (.int 1))) rQ)) aJ)))))))))
def lTh:En->Rs (List D):=(fH (op2 cX (jr 8) (jG (aC (cD .non) (aC (eU aJ) (aC (op2 cX (lZ (jr 6) (rP (cD (.int 1))) rQ) (lZ (jr 6) rQ (rP (cD (.int 1))))) (aC (cD (.dct [] [])) aJ)))))))
def lT:En->Ou:=(bB (iC 10 (aY eO (aC (aD 3) (aC (aD 9) aJ)))) (ifS (orT (kI (tst (op1 (jH "bool") (aD 10)))) (tsb (op2 (eqR true) (aD 10) (aY gU (aC (aD 3) (aC (aD 9) aJ)))))) (retS (cD (.bl false))) Ou.nx))
def lI2:En->Ou:=(ifS (tsb (op2 (eqR true) (v8 wdN "told" (aY bT (aC (eU (aC (op2 cX (cD (.int 21)) (aY ao (aC (aD 2) (aC (cD (.int 7200)) (aC (cD (.int 40)) aJ))))) (aC (eU aJ) aJ))) aJ))) (cD (.str "many")))) (retS (cD (.bl false))) Ou.nx)
def lI3:En->Ou:=(ifS (tsb (op2 (eqR true) (v8 wdN "told" (aY bT (aC (eU (aC (cD (.int 21)) (aC (jG aJ) aJ))) aJ))) (cD (.str "web")))) (retS (cD (.bl false))) Ou.nx)
def lI4:En->Ou:=(ifS (tsb (op2 (eqR true) (v8 wdN "told" (aY eO (aC (cD .non) (aC (aD 6) aJ)))) (cD (.str "web")))) (retS (cD (.bl false))) Ou.nx)
def lwK:En->Ou:=bB (iC 2 (aY cV (aC (aD 0) (aC (aD 1) aJ)))) (bB (iC 3 (aY iR (aC (aD 2) (aC (cD (.int 8)) aJ)))) (bB (iC 4 (aY gj (aC (aD 3) aJ))) (bB lI1 (bB (iC 5 w5) (bB (pC 6 w6) (bB (pC 7 w7) (bB (pC 8 w8) (bB (dU lTh (gnm 9) lT) (bB lI2 (bB lI3 lI4))))))))))
def lwZ:En->Rs D:=(op2 (isD false) (aY bT (aC (eU (aC (cD (.int 0)) (aC (eU aJ) aJ))) aJ)) (cD .non))
def xO:En->Ou:=bB (dU lwR (gnm 1) lwK) (retS lwZ)
def aF3:List D->Rs D:=eZ 11 xO
theorem xK{b:Int}(hb:0<b)(hb2:b<1073741824){c:Int}{k:Int}:∀(ds:List D) (x:Int) (s:Slot),(∀d∈ds,∃n:Int,d= .int n)->
  (∃y s',forL (gnm 4) (bB (ifS (tsb (op2 (eqR false) (aD 3) (cD (.int 0)))) (retS (cD (.int 0))) Ou.nx) (iC 3 (op2 rY (aD 3) (aD 2)))) ds [.sh (.int c),.sh (.int k),.sh (.int b),.sh (.int x),s,.no]= .nx [.sh (.int c),.sh (.int k),.sh (.int b),.sh (.int y),s',.no])\/
  forL (gnm 4) (bB (ifS (tsb (op2 (eqR false) (aD 3) (cD (.int 0)))) (retS (cD (.int 0))) Ou.nx) (iC 3 (op2 rY (aD 3) (aD 2)))) ds [.sh (.int c),.sh (.int k),.sh (.int b),.sh (.int x),s,.no]= .rt (.int 0)
 |[],x,s,_=>.inl ⟨x,s,rfl⟩
 |d::ds,x,s,h=>by
  have ih:=xK hb hb2 (c:=c) (k:=k) ds (x / b) (.sh d) λ e he=>h e (zAX _ he)
  rw[bw];by_cases hx:x=0
  .subst hx
   right;simp
  .simp[hx,wZ hb hb2]
   exact ih
def aHC{c k b:Int}(hk0:0<=k)(hk1:k<2^40)(hb:0<b)(hb2:b<1073741824):∃r:Int,ao [.int c,.int k,.int b]= .ok (.int r)/\0<=r/\r<b:=by
 have hp:aIR (.int 10) (.int 18)= .ok (.int 1000000000000000000):=rfl;by_cases hc:(1000000000000000000:Int)<=c
 .have hr:=gM (j:=k) (by lia) (by lia)
  have hl:=xK hb hb2 (c:=c) (k:=k) (dh 0 k) c .no λ d hd=>let⟨n,e,_⟩:=aE2.mp hd;⟨n,e⟩
  rcases hl with ⟨y,s',e⟩|e
  .refine⟨y%b,?_,zEG _ (by lia),zD5 _ hb⟩
   simp[ao,dC,ak,hp,hc,hr,e,mL hb]
  .refine⟨0,?_,by lia,hb⟩
   simp[ao,dC,ak,hp,hc,hr,e]
 .have s1:∀z:Int,0<=z%2147483647/\z%2147483647<2147483647:=λ z=>⟨zEG _ (by decide),zD5 _ (by decide)⟩
  have s2:∀z:Int,0<=z%2147483629/\z%2147483629<2147483629:=λ z=>⟨zEG _ (by decide),zD5 _ (by decide)⟩
  have m1:∀z,j9 (.int 1009) (.int z)= .ok (.int (1009*z)):=λ z=>yc (by decide) (by decide)
  have m2:∀z,j9 (.int z) (.int 69621)= .ok (.int (z*69621)):=λ z=>aEZ (by decide) (by decide)
  have m3:∀z,j9 (.int 40503) (.int z)= .ok (.int (40503*z)):=λ z=>yc (by decide) (by decide)
  have m4:∀z,j9 (.int z) (.int 48271)= .ok (.int (z*48271)):=λ z=>aEZ (by decide) (by decide)
  have m5:∀z:Int,j9 (.int (z%2147483647)) (.int (z%2147483647))= .ok (.int (z%2147483647*(z%2147483647))):=λ z=>yc (by have:=s1 z;lia) (by have:=s1 z;lia)
  have d1:∀z,qu (.int z) (.int 1000000007)= .ok (.int (z%1000000007)):=λ z=>mL (by decide)
  have d2:∀z,qu (.int z) (.int 2147483647)= .ok (.int (z%2147483647)):=λ z=>mL (by decide)
  have d3:∀z,qu (.int z) (.int 2147483629)= .ok (.int (z%2147483629)):=λ z=>mL (by decide)
  have d4:∀z,rY (.int z) (.int 32)= .ok (.int (z / 32)):=λ z=>wZ (by decide) (by decide)
  have d5:∀z,qu (.int z) (.int b)= .ok (.int (z%b)):=λ z=>mL hb
  simp[ao,dC,ak,hp,hc,m1,m2,m3,m4,m5,d1,d2,d3,d4,d5,-Int.emod_emod_of_dvd];exact⟨zEG _ (by lia),zD5 _ hb⟩
def gQ(hk0:0<=k)(hk1:k<2^40)(hb:0<b)(hb2:b<1073741824):∃r:Nat,ao [.int c,.int k,.int b]= .ok (.int r)/\(r:Int)<b:=by
 obtain⟨r,e,h0,h1⟩:=aHC (c:=c) hk0 hk1 hb hb2;exact⟨r.toNat,by rw[zCl h0];exact e,by lia⟩
def aHI(h:0<=k):∃c:Int,cV [.scr ns,.int k]= .ok (.int c):=by
 by_cases hk:k<ns.length
 .obtain⟨d,e,hm,_⟩:=aB6 (l:=ns.map .int) (i:=k) h (by simpa using hk)
  obtain⟨c,_,rfl⟩:=zBH.mp hm;exact⟨c,by simp[cV,cG,ak,hk,e]⟩
 .exact⟨0,by simp[cV,cG,ak,hk]⟩
mutual
def pln:D->Bool
 | .tup l=>uQ l
 | .lst l=>uQ l
 | .set _=>false
 | .scr _=>false
 | .fn _=>false
 |_=>true
def uQ:List D->Bool
 |[]=>true
 |d::r=>pln d&&uQ r
end
def jM(h:pln d=true):knd d=true:=by cases d<;>first|rfl|(simp[pln]at h)
theorem pI:∀{l:List D} {d:D},uQ l=true->d∈l->pln d=true
 |x::r,d,h,hm=>by
  simp only[uQ,zAQ]at h;rcases zAT.mp hm with rfl|hm
  .exact h.1
  .exact pI h.2 hm
def aA0:D->Bool
 | .int _=>true
 |_=>false
def aCA:D->Bool
 | .int i=>decide (0<=i)&&decide (i<=60)
 |_=>false
def bL(m:Int):D->Bool
 | .int i=>decide (0<=i)&&decide (i<m)
 |_=>false
def rT(h:knd d=true):jF [d]= .ok (.bl (aA0 d)):=by
 simp[jF,fW,ak,yo h,pW h];cases d<;>rfl
def aBQ(h:knd d=true):mj [d]= .ok (.bl (aCA d)):=by
 simp[mj,iQ,ak,rT h];cases d<;>simp[aA0,aCA]
 rename_i i;by_cases h0:0<=i<;>simp[h0]
def mQ(h:knd d=true):cQ [.int m,d]= .ok (.bl (bL m d)):=by
 simp[cQ,fZ,ak,rT h];cases d<;>simp[aA0,bL]
 rename_i i;by_cases h0:0<=i<;>simp[h0]
def iY(m:Int):D->Bool
 | .tup [.int a,.int b]=>decide (0<=a)&&decide (a<m)&&decide (0<=b)&&decide (b<m)&& !(a==b)
 |_=>false
def fP(h:bL m d=true):∃i:Int,d= .int i/\0<=i/\i<m:=by
 cases d with
 |int i=>simp[bL]at h;exact⟨i,rfl,h.1,h.2⟩
 |_=>simp[bL]at h
def aDR(h:mR d=true):∃l,d= .tup l:=by cases d<;>first|exact⟨_,rfl⟩|(cases h)
def aHn(h:l.length=2):∃x y,l=[x,y]:=by
 match l,h with
 |[x,y],_=>exact⟨x,y,rfl⟩
def aEO(h:mR d=false):iY m d=false:=by cases d<;>first|rfl|(cases h)
def aC6(h:l.length≠2):iY m (.tup l)=false:=by
 match l,h with
 |[],_=>rfl
 |[x],_=>cases x<;>rfl
 |[x,y],h=>exact absurd rfl h
 |x::y::z::r,_=>cases x<;>first|rfl|(cases y<;>rfl)
def aGR(h:bL m x=false):iY m (.tup [x,y])=false:=by
 cases x with
 |int i=>
  cases y with
  |int j=>
   show((((decide (0<=i)&&decide (i<m))&&decide (0<=j))&&decide (j<m))&& !(i==j))=false
   rw[show(decide (0<=i)&&decide (i<m))=false from h];rfl
  |_=>rfl
 |_=>rfl
def aGQ(h:bL m y=false):iY m (.tup [.int i,y])=false:=by
 cases y with
 |int j=>
  show((((decide (0<=i)&&decide (i<m))&&decide (0<=j))&&decide (j<m))&& !(i==j))=false
  rw[zF6 (decide (0<=i)&&decide (i<m)),show(decide (0<=j)&&decide (j<m))=false from h,zEN];rfl
 |_=>rfl
def aEN(h1:bL m (.int i)=true)(h2:bL m (.int j)=true):iY m (.tup [.int i,.int j])= !(i==j):=by
 show((((decide (0<=i)&&decide (i<m))&&decide (0<=j))&&decide (j<m))&& !(i==j))= !(i==j)
 rw[zF6 (decide (0<=i)&&decide (i<m)),show(decide (0<=j)&&decide (j<m))=true from h2,show(decide (0<=i)&&decide (i<m))=true from h1];rfl
def aJI(hk:knd d=true)(h:mR d=false):ipE [s,.sh d]= .rt (.bl false):=by simp[ipE,jc hk,h]
def aGl(h:l.length≠2):ipE [s,.sh (.tup l)]= .rt (.bl false):=by
 have:¬((l.length:Int)=2):=by omega
 simp[ipE,this]
def aGk:ipE [s,.sh (.tup [x,y])]= .nx [s,.sh (.tup [x,y])]:=by simp[ipE]
def aBP(h:pln d=true):jm [.int m,d]= .ok (.bl (iY m d)):=by
 have st:ak 2 [.int m,d]=[.sh (.int m),.sh d]:=rfl;simp only[jm,iM,bA,st];cases ht:mR d with
 |false=>rw[aR,aJI (jM h) ht,aEO ht];rfl
 |true=>
  obtain⟨l,rfl⟩:=aDR ht;by_cases hl:l.length=2
  .obtain⟨x,y,rfl⟩:=aHn hl
   simp only[pln,uQ,zAQ]at h;have hx:=mQ (m:=m) (jM h.1);have hy:=mQ (m:=m) (jM h.2.1);have ex:aY cQ (aC (aD 0) (aC (op2 ixD (aD 1) (cD (.int 0))) aJ)) [.sh (.int m),.sh (.tup [x,y])]= .ok (.bl (bL m x)):=by simp[hx]
   have ey:aY cQ (aC (aD 0) (aC (op2 ixD (aD 1) (cD (.int 1))) aJ)) [.sh (.int m),.sh (.tup [x,y])]= .ok (.bl (bL m y)):=by simp[hy]
   rw[aR,aGk,bO,aBq,zG,ex,cA,aCT,zG,ey,cA,aCT];cases c1:bL m x with
   |false=>rw[aGR c1];rfl
   |true=>
    obtain⟨i,rfl,_,_⟩:=fP c1;cases c2:bL m y with
    |false=>rw[aGQ c2];rfl
    |true=>
     obtain⟨j,rfl,_,_⟩:=fP c2;rw[aEN c1 c2];rfl
  .rw[aR,aGl hl,aC6 hl];rfl
def pD(p:Int×Int):D:=.tup [.int p.1,.int p.2]
def ltP(p q:Int×Int):Bool:=HT.lexLt [p.1,p.2] [q.1,q.2]
def uL:List (Int×Int)->Bool
 |[]=>true
 |[_]=>true
 |p::q::r=>ltP p q&&uL (q::r)
def aIu(p q:Int×Int):ltD (pD p) (pD q)= .ok (.bl (ltP p q)):=aG7 [p.1,p.2] [q.1,q.2]
theorem je:∀(ds:List D) (ok:Nat->Bool) (I:En->Prop) (ρ:En),I ρ->(∀(i:Nat) d ρ,ds[i]? =some d->I ρ->okE (a d ρ) u= .rt r/\ok i=false\/∃ρ',okE (a d ρ) u= .nx ρ'/\I ρ'/\ok i=true)->
  (forL a u ds ρ= .rt r/\∃i,i<ds.length/\ok i=false)\/(∃ρ',forL a u ds ρ= .nx ρ'/\I ρ'/\∀i,i<ds.length->ok i=true)
 |[],ok,I,ρ,h,_=>.inr ⟨ρ,rfl,h,λ i hi=>absurd hi (zHI _)⟩
 |d::ds,ok,I,ρ,h,hs=>by
  rw[bw];rcases hs 0 d ρ rfl h with ⟨e,o⟩|⟨ρ',e,h',o⟩
  .left
   refine⟨?_,0,by simp,o⟩;cases ea:a d ρ with
   |ok ρ1=>rw[ea]at e;simp at e ⊢;rw[e];rfl
   |ex c=>rw[ea]at e;cases e
   |st=>rw[ea]at e;cases e
  .have ih:=je ds (λ i=>ok (i+1)) I ρ' h' λ i d2 ρ2 e2 h2=>hs (i+1) d2 ρ2 (by simpa using e2) h2
   have e3:okE (a d ρ) (λ ρ1=>(u ρ1).tn (forL a u ds))=forL a u ds ρ':=by
    cases ea:a d ρ with
    |ok ρ1=>rw[ea]at e;simp at e ⊢;rw[e];rfl
    |ex c=>rw[ea]at e;cases e
    |st=>rw[ea]at e;cases e
   rw[e3];rcases ih with ⟨e4,i,hi,o4⟩|⟨ρ4,e4,h4,o4⟩
   .exact .inl ⟨e4,i+1,by simpa using hi,o4⟩
   .refine .inr ⟨ρ4,e4,h4,λ i hi=>?_⟩
    cases i with
    |zero=>exact o
    |succ i=>exact o4 i (by simpa using hi)
def mH{i:Nat}(h:(dh lo hi)[i]? =some d):d= .int (lo+i)/\lo+i<hi:=by
 unfold dh at h;rw[zAa]at h;by_cases hi2:i<(hi-lo).toNat
 .rw[zGP hi2]at h
  cases h;exact⟨rfl,by omega⟩
 .rw[zEB (by simpa using hi2)]at h
  cases h
def mG:(dh lo hi).length=(hi-lo).toNat:=by unfold dh;simp
section
variable{α:Type}{f:α->D}{lt:α->α->Bool}
def uK(lt:α->α->Bool):List α->Bool
 |[]=>true
 |[_]=>true
 |p::q::r=>lt p q&&uK lt (q::r)
theorem pF:∀{ps:List α},uK lt ps=true↔∀(i:Nat) (p q:α),ps[i]? =some p->ps[i+1]? =some q->lt p q=true
 |[]=>by simp[uK]
 |[x]=>by
  simp only[uK,true_iff];intro i p q _ h2;simp at h2
 |x::y::r=>by
  have ih:=pF (ps:=y::r);unfold uK;rw[zAQ,ih];constructor
  .rintro⟨h1,h2⟩ i p q e1 e2
   cases i with
   |zero=>simp at e1 e2;subst e1 e2;exact h1
   |succ i=>exact h2 i p q (by simpa using e1) (by simpa using e2)
  .intro h
   exact⟨h 0 x y rfl rfl,λ i p q e1 e2=>h (i+1) p q (by simpa using e1) (by simpa using e2)⟩
def aAH(hlt:∀a b,ltD (f a) (f b)= .ok (.bl (lt a b)))(hl:ps.length<=100000):eG [.tup (ps.map f)]= .ok (.bl (uK lt ps)):=by
 have hr:=yK (i:=1) (j:=(ps.length:Int)) (by decide) (by decide) (by omega) (by omega);have hlen:(dh 1 (ps.length:Int)).length=ps.length-1:=by rw[mG];omega
 have L:=je (a:=gnm 1) (u:=ifS (kI (tsb (op2 ltD (op2 ixD (aD 0) (op2 aCX (aD 1) (cD (.int 1)))) (op2 ixD (aD 0) (aD 1))))) (retS (cD (.bl false))) Ou.nx) (r:=.bl false)
  (dh 1 (ps.length:Int)) (λ i=>match ps[i]?,ps[i+1]? with|some p,some q=>lt p q|_,_=>true) (λ ρ=>∃s,ρ=[.sh (.tup (ps.map f)),s]) [.sh (.tup (ps.map f)),.no] ⟨_,rfl⟩ (by
   rintro i d ρ hd ⟨s,rfl⟩;obtain⟨rfl,h2⟩:=mH hd;have e1:ps[i]? =some ps[i]:=zAB (by omega);have e2:ps[i+1]? =some ps[i+1]:=zAB (by omega);have a1:atD (ps.map f) (1+(i:Int)-1)= .ok (f ps[i]):=by
    rw[show(1+(i:Int)-1)=(i:Int)by omega];exact lD (by rw[zAa,e1];rfl)
   have a2:atD (ps.map f) (1+(i:Int))= .ok (f ps[i+1]):=by
    rw[show(1+(i:Int))=((i+1:Nat):Int)by omega];exact lD (by rw[zAa,e2];rfl)
   simp only[e1,e2];cases c:lt ps[i] ps[i+1]with
   |true=>right;exact⟨_,by simp[a1,a2,hlt,c];rfl,⟨_,rfl⟩,rfl⟩
   |false=>left;exact⟨by simp[a1,a2,hlt,c],rfl⟩)
 have st:ak 2 [.tup (ps.map f)]=[.sh (.tup (ps.map f)),.no]:=rfl;rcases L with ⟨e,i,hi,o⟩|⟨ρ',e,⟨s,rfl⟩,o⟩
 .have:uK lt ps=false:=by
   cases c:uK lt ps with
   |false=>rfl
   |true=>
    rw[hlen]at hi;have z:=pF.mp c i ps[i] ps[i+1] (zAB (by omega)) (zAB (by omega));rw[zAB (by omega),zAB (by omega)]at o;simp only at o;rw[z]at o;cases o
  rw[this];simp only[eG,dD,bA,st];simp[hr,e]
 .have:uK lt ps=true:=pF.mpr λ i p q e1 e2=>by
   have h2:=(zAK.mp e2).1
   have:=o i (by rw[hlen];omega)
   rw[e1,e2]at this;exact this
  rw[this];simp only[eG,dD,bA,st];simp[hr,e]
end
theorem aAj:∀ps:List (Int×Int),uL ps=uK ltP ps
 |[]=>rfl
 |[_]=>rfl
 |p::q::r=>by unfold uL uK;rw[aAj (q::r)]
def yq(hl:ps.length<=100000):eG [.tup (ps.map pD)]= .ok (.bl (uL ps)):=by
 rw[aAj];exact aAH aIu hl
def yL:uL ps=true↔∀(i:Nat) (p q:Int×Int),ps[i]? =some p->ps[i+1]? =some q->ltP p q=true:=by rw[aAj];exact pF
def aGE:D->Int×Int
 | .tup [.int a,.int b]=>(a,b)
 |_=>(0,0)
def aAu(h:iY m d=true):∃a b:Int,d= .tup [.int a,.int b]/\0<=a/\a<m/\0<=b/\b<m/\a≠b:=by
 unfold iY at h;split at h
 .rename_i a b
  simp at h;exact⟨a,b,rfl,h.1.1.1.1,h.1.1.1.2,h.1.1.2,h.1.2,h.2⟩
 .cases h
theorem aH3:∀{ts:List D},ts.all (iY m)=true->(ts.map aGE).map pD=ts
 |[],_=>rfl
 |t::ts,h=>by
  rw[zDm,zAQ]at h;obtain⟨a,b,rfl,_⟩:=aAu h.1;simp only[zA0];rw[aH3 h.2];rfl
def rpB(m:Int):D->Bool
 | .tup ts=>ts.all (iY m)&&uL (ts.map aGE)
 |_=>false
def aHz:D->Bool
 | .tup l=>decide (l.length<=100000)
 |_=>true
def nF(h:pln d=true)(hs:aHz d=true):bD [.int m,d]= .ok (.bl (rpB m d)):=by
 cases d with
 |tup ts=>
  have hp:uQ ts=true:=by simpa[pln]using h
  have hl:ts.length<=100000:=by simpa[aHz]using hs
  have L:=je (a:=gnm 2) (u:=ifS (kI (tst (aY jm (aC (aD 0) (aC (aD 2) aJ))))) (retS (cD (.bl false))) Ou.nx) (r:=.bl false)
   ts (λ i=>match ts[i]? with|some t=>iY m t|none=>true) (λ ρ=>∃s,ρ=[.sh (.int m),.sh (.tup ts),s]) [.sh (.int m),.sh (.tup ts),.no] ⟨_,rfl⟩ (by
    rintro i d ρ hd ⟨s,rfl⟩;have e:=aBP (m:=m) (pI hp (zAw hd));simp only[hd];cases c:iY m d with
    |true=>right;exact⟨_,by simp[e,c];rfl,⟨_,rfl⟩,rfl⟩
    |false=>left;exact⟨by simp[e,c],rfl⟩)
  have st:ak 3 [.int m,.tup ts]=[.sh (.int m),.sh (.tup ts),.no]:=rfl;rcases L with ⟨e,i,hi,o⟩|⟨ρ',e,⟨s,rfl⟩,o⟩
  .have:ts.all (iY m)=false:=by
    rw[zGb];rw[zAB hi]at o;exact⟨ts[i],zBg hi,by simpa using o⟩
   simp only[bD,au,bA,st];simp[e,rpB,this]
  .have:ts.all (iY m)=true:=by
    rw[zBE];intro t ht;obtain⟨i,hi,rfl⟩:=zBW ht
    have:=o i hi
    rw[zAB hi]at this;exact this
   have er:=yq (ps:=ts.map aGE) (by rw[zAF];exact hl);rw[aH3 this]at er;simp only[bD,au,bA,st];simp[e,rpB,this,er]
 |_=>simp[bD,au,ak,jc (jM h),mR,rpB]
structure Ow(n:Int)(ps:List (Int×Int)):Prop where
 n0:0<=n
 n1:n<=60
 len:ps.length<=3600
 pr:∀p∈ps,0<=p.1/\p.1<n/\0<=p.2/\p.2<n/\p.1≠p.2
 ris:uL ps=true
def owD(n:Int)(ps:List (Int×Int)):D:=.tup [.int n,.tup (ps.map pD)]
def Ow.rp(h:Ow n ps):rpB n (.tup (ps.map pD))=true:=by
 have e:(ps.map pD).map aGE=ps:=by rw[zBh];exact(zET λ p _=>rfl).trans (zGQ ps)
 unfold rpB;dsimp only;rw[e,h.ris,zDl,zBE];intro d hd;obtain⟨p,hp,rfl⟩:=zBH.mp hd;obtain⟨a,b,c,d,e⟩:=h.pr p hp;simp[pD,iY,a,b,c,d,e]
theorem aBr:∀ps:List (Int×Int),uQ (ps.map pD)=true
 |[]=>rfl
 |p::ps=>by simp only[zA0,uQ,aBr ps,zDl];rfl
theorem vO:∀ns:List Int,fK (ns.map .int)=0/\bJ (ns.map .int)=true
 |[]=>⟨rfl,rfl⟩
 |n::ns=>by
  obtain⟨h1,h2⟩:=vO ns;simp[fK,jX,bJ,aa,h1,h2]
theorem m9:∀ps:List (Int×Int),fK (ps.map pD)<=1/\bJ (ps.map pD)=true
 |[]=>⟨by simp[fK],rfl⟩
 |p::ps=>by
  obtain⟨h1,h2⟩:=m9 ps;simp[fK,jX,bJ,aa,h2,pD,h1]
def jP(neg:Bool)(y:Int)(ns:List Int):inR neg (.int y) (.lst (ns.map .int))= .ok (.bl (if neg then !decide (y∈ns)else decide (y∈ns))):=by
 obtain⟨h1,h2⟩:=vO ns;have e:inD (.int y) (ns.map .int)=decide (y∈ns):=by
  unfold inD;rw[zDZ];simp[zGm,eqD]
 unfold inR;dsimp only;rw[h1,h2,e];rfl
def aEj(neg:Bool)(q:Int×Int)(ps:List (Int×Int)):inR neg (pD q) (.tup (ps.map pD))= .ok (.bl (if neg then !decide (q∈ps)else decide (q∈ps))):=by
 obtain⟨h1,h2⟩:=m9 ps;have e:inD (pD q) (ps.map pD)=decide (q∈ps):=by
  unfold inD;rw[zDZ];simp only[List.any_map,zGm,Function.comp,decide_eq_true_eq];constructor
  .rintro⟨p,hp,h⟩
   simp[pD,eqD,lO]at h
   have:p=q:=Prod.ext h.1 h.2
   exact this▸hp
  .intro h
   exact⟨q,h,by simp[pD,eqD,lO]⟩
 unfold inR;dsimp only;have h3:decide (fK (ps.map pD)<=60)=true:=by simp;lia
 have h4:aa (pD q)=true:=rfl;rw[h2,e,h3,h4];rfl
def zB(f:α->Bool)(l:List α):boolsOf (l.map λ x=>D.bl (f x))=some (l.map f):=by
 have:=sU (l.map f)
 rwa [zBh]at this
def aF0(f:α->Bool)(l:List α):zH (λ bs=>bs.all id) [.lst (l.map λ x=>D.bl (f x))]= .ok (.bl (l.all f)):=by
 unfold zH;dsimp only;rw[zB];dsimp only;rw[zH2];rfl
theorem pR:∀(l:List α),(∀x∈l,∃ρ1,fg (f x) ρ= .ok ρ1/\ft ρ1= .ok (t x)/\fe ρ1= .ok (g x))->lcL ρ fg ft fe (l.map f)= .ok ((l.filter t).map g)
 |[],_=>rfl
 |x::l,h=>by
  obtain⟨ρ1,e1,e2,e3⟩:=h x zAN;have ih:=pR l λ y hy=>h y (zAX _ hy)
  rw[zA0];unfold lcL;rw[e1,cA,e2,cA,e3,cA,ih,cA,zDp];cases t x<;>rfl
theorem aH8{ρ:En}:∀(ps:List (Int×Int)),lcL [.no,.no] (jd 2 (bG (gnm 0) (bG (gnm 1) kW))) lN (op2 ltD (aD 0) (aD 1)) (ps.map pD)= .ok (ps.map λ p=>.bl (decide (p.1<p.2)))
 |[]=>rfl
 |p::ps=>by
  unfold lcL;simp[pD,aH8 (ρ:=ρ) ps]
def aAW{n:Int}(h:Ow n ps)(low:∀p∈ps,p.1<p.2):lF [.int n,.tup (ps.map pD)]= .ok (.bl true):=by
 have hl:=h.len;have e:=nF (m:=n) (d:=.tup (ps.map pD)) (by simpa[pln]using aBr ps) (by simp[aHz];lia);rw[h.rp]at e;have el:=aH8 (ρ:=[]) ps;have ei:lcD (fH (aD 1)) [none,none] (jd 2 (bG (gnm 0) (bG (gnm 1) kW))) lN (op2 ltD (aD 0) (aD 1)) [.sh (.int n),.sh (.tup (ps.map pD))]= .ok (.lst (ps.map λ p=>.bl (decide (p.1<p.2)))):=by
  have hi:fH (aD 1) (shE [.sh (.int n),.sh (.tup (ps.map pD))])= .ok (ps.map pD):=by simp[shE,mq]
  unfold lcD;rw[hi,cA,if_pos (by rw[szl,zAF];lia)]
  show(match lcL [.no,.no] _ lN _ (ps.map pD)with| .ok l=>Rs.ok (D.lst l)|_=>Rs.st)=_
  rw[el]
 have ha:opA (zH λ bs=>bs.all id) (aC (lcD (fH (aD 1)) [none,none] (jd 2 (bG (gnm 0) (bG (gnm 1) kW))) lN (op2 ltD (aD 0) (aD 1))) aJ) [.sh (.int n),.sh (.tup (ps.map pD))]= .ok (.bl true):=by
  rw[aER,aAQ,ei,cA,aG2,cA,cA,aF0,aIp];rw[zBE.mpr λ p hp=>decide_eq_true (low p hp)]
 have st:ak 2 [.int n,.tup (ps.map pD)]=[.sh (.int n),.sh (.tup (ps.map pD))]:=rfl;have ec:aY bD (aC (aD 0) (aC (aD 1) aJ)) [.sh (.int n),.sh (.tup (ps.map pD))]= .ok (.bl true):=by rw[aAU];exact e
 simp only[lF,gA,bA,st];rw[aBq,zG,ec,ha];rfl
def wU(h:Ow n ps)(low:∀p∈ps,p.1<p.2):qQ [owD n ps]= .ok (.bl true):=by
 have e1:=aBQ (d:=.int n) rfl;have e2:=aAW h low;have e3:aCA (.int n)=true:=by simp[aCA,h.n0,h.n1]
 rw[e3]at e1;simp[qQ,jg,owD,ak,e1,e2]
def mn(a b:Int):Int:=if b<a then b else a
def mx(a b:Int):Int:=if b>a then b else a
def mnmx_in(h1:0<=a)(h2:a<n)(h3:0<=b)(h4:b<n)(ne:a≠b):0<=mn a b/\mn a b<mx a b/\mx a b<n:=by
 by_cases h:b<a
 .rw[mn,mx,if_pos h,if_neg (by lia)]
  exact⟨h3,h,h2⟩
 .rw[mn,mx,if_neg h,if_pos (by lia)]
  exact⟨h1,by lia,h4⟩
def aG3(a b:Int):(mn a b=a/\mx a b=b)\/(mn a b=b/\mx a b=a):=by
 by_cases h:b<a
 .rw[mn,mx,if_pos h,if_neg (by lia)]
  exact .inr ⟨rfl,rfl⟩
 .rw[mn,mx,if_neg h]
  by_cases h2:b>a
  .rw[if_pos h2];exact .inl ⟨rfl,rfl⟩
  .rw[if_neg h2];exact .inl ⟨rfl,by lia⟩
def intOf:D->Int
 | .int i=>i
 |_=>0
def yh(h1:fi (shE ρ)= .ok ds)(h2:ds.length<16777216)(h3:lcL (stE js (shE ρ)) fg ft fe ds= .ok out):lcD fi js fg ft fe ρ= .ok (.lst out):=by
 unfold lcD;rw[h1,cA,if_pos (by rw[szl];exact h2),h3]
def aEk(neg:Bool)(y:Int)(ns:List Int):inR neg (.int y) (.tup (ns.map .int))= .ok (.bl (if neg then !decide (y∈ns)else decide (y∈ns))):=jP neg y ns
def bu(ll:List (List D))(p:Int×Int):List (List D):=ll.set p.1.toNat (ll.getD p.1.toNat []++[.int p.2])
theorem qz:∀(ps:List (Int×Int)) (ll:List (List D)),(ps.foldl bu ll).length=ll.length
 |[],_=>rfl
 |p::ps,ll=>by rw[zC4,qz ps];unfold bu;rw[zBT]
def mO(ps:List (Int×Int))(i:Int):List Int:=(ps.filter λ p=>p.1==i).map (·.2)
theorem wY:∀(ps:List (Int×Int)) (ll:List (List D)) (i:Nat),(∀p∈ps,0<=p.1/\p.1<ll.length)->i<ll.length->(ps.foldl bu ll).getD i []=ll.getD i []++(mO ps i).map .int
 |[],ll,i,_,_=>by simp[mO]
 |p::ps,ll,i,h,hi=>by
  obtain⟨h0,h1⟩:=h p zAN;rw[zC4,wY ps (bu ll p) i (λ q hq=>by unfold bu;rw[zBT];exact h q (zAX _ hq)) (by unfold bu;rw[zBT];exact hi)];unfold bu mO;by_cases c:p.1=i
  .have hk:p.1.toNat=i:=by lia
   rw[hk,List.filter_cons_of_pos (by simpa using c)];simp[hi]
  .have hk:p.1.toNat≠i:=by lia
   rw[List.filter_cons_of_neg (by simpa using c)];simp[zB2 hk]
def tG:b∈mO ps a↔(a,b)∈ps:=by
 unfold mO;simp only[zBH,zBX];constructor
 .rintro⟨p,⟨h1,h2⟩,rfl⟩
  have:p.1=a:=by simpa using h2
  rw[<-this];exact h1
 .intro h
  exact⟨(a,b),⟨h,by simp⟩,rfl⟩
def dbl(ps:List (Int×Int)):List (Int×Int):=ps.flatMap λ p=>[p,(p.2,p.1)]
def jO:(a,b)∈dbl ps↔(a,b)∈ps\/(b,a)∈ps:=by
 unfold dbl;simp only[zAm,zAT,zBi,or_false];constructor
 .rintro⟨p,hp,h|h⟩
  .rw[h];exact .inl hp
  .cases h;exact .inr hp
 .rintro(h|h)
  .exact⟨_,h,.inl rfl⟩
  .exact⟨_,h,.inr rfl⟩
def aAP(p:Int×Int)(ps:List (Int×Int)):dbl (p::ps)=p::(p.2,p.1)::dbl ps:=rfl
def aCS(hi:ρ[i]? =some (.o2 ll))(hf:f ρ= .ok (.int a))(hg:g ρ= .ok (.int b))(h0:0<=a)(h1:a<ll.length)(hz:(ll.getD a.toNat []).length<16777216):
  n8 i f g ρ= .nx (ρ.set i (.o2 (bu ll (a,b)))):=by
 have hk:a.toNat<ll.length:=by lia
 have ha:at2 ll (.int a)=some (a.toNat,ll.getD a.toNat []):=by
  have hx:ixN ll.length a=some a.toNat:=by
   unfold ixN;rw[if_pos (by lia),if_pos (by lia)]
  simp only[at2,hx,zGY];rw[zAB hk];simp[hk]
 unfold n8;rw[hi];dsimp only;rw[hf,eF,ha];dsimp only;rw[hg,eF,if_pos (by rw[zD8];exact hz)];rfl
def tY(ll:List (List D))(p:Int×Int):(bu ll p).length=ll.length:=by unfold bu;rw[zBT]
def aBe(h:∀l∈ll,l.length<=m):∀l∈bu ll p,l.length<=m+1:=by
 intro l hl;unfold bu at hl;rcases List.mem_or_eq_of_mem_set hl with z|z
 .exact Nat.le_succ_of_le (h l z)
 .subst z
  rw[zAL,zEC]
  have:(ll.getD p.1.toNat []).length<=m:=by
   by_cases hk:p.1.toNat<ll.length
   .exact h _ (by simp[hk])
   .simp[zEB (zFD hk)]
  lia
def aCK{ll:List (List D)}(h:∀l∈ll,l.length<=m)(k:Nat):(ll.getD k []).length<=m:=by
 by_cases hk:k<ll.length
 .exact h _ (by simp[hk])
 .simp[zEB (zFD hk)]
def atB:En->Ou:=bB (n8 3 (aD 4) (cP (aD 5))) (n8 3 (aD 5) (cP (aD 4)))
theorem wF{w s1 s2:Slot}:∀(ps:List (Int×Int)) (ll:List (List D)) (s4 s5:Slot),(∀p∈ps,0<=p.1/\p.1<ll.length/\0<=p.2/\p.2<ll.length)->(∀l∈ll,l.length+2*ps.length<=10000)->
  ∃s4' s5',forL (jd 2 (bG (gnm 4) (bG (gnm 5) kW))) atB (ps.map pD) [w,s1,s2,.o2 ll,s4,s5]= .nx [w,s1,s2,.o2 ((dbl ps).foldl bu ll),s4',s5']
 |[],ll,s4,s5,_,_=>⟨s4,s5,rfl⟩
 |p::ps,ll,s4,s5,h,hl=>by
  obtain⟨a0,a1,b0,b1⟩:=h p zAN;have hb0:∀l∈ll,l.length<=10000-2*(ps.length+1):=λ l hm=>by
   have:=hl l hm
   rw[zA7]at this;lia
  have hb1:=aBe (p:=p) hb0;have hb2:=aBe (p:=(p.2,p.1)) hb1;by_cases hne:ll=[]
  .subst hne
   simp at a1;lia
  have hbig:2*(ps.length+1)<=10000:=by
   obtain⟨l,hm⟩:=List.exists_mem_of_ne_nil ll hne
   have:=hl l hm
   rw[zA7]at this;lia
  obtain⟨s4',s5',e⟩:=wF (w:=w) (s1:=s1) (s2:=s2) ps (bu (bu ll p) (p.2,p.1)) (.sh (.int p.1)) (.sh (.int p.2)) (λ q hq=>by rw[tY,tY];exact h q (zAX _ hq)) (λ l hm=>by have:=hb2 l hm;lia);refine⟨s4',s5',?_⟩;rw[zA0,bw,aAP,zC4,zC4];have hg:okE (jd 2 (bG (gnm 4) (bG (gnm 5) kW)) (pD p) [w,s1,s2,.o2 ll,s4,s5]) (λ ρ1=>(atB ρ1).tn (forL (jd 2 (bG (gnm 4) (bG (gnm 5) kW))) atB (ps.map pD)))=
    (atB [w,s1,s2,.o2 ll,.sh (.int p.1),.sh (.int p.2)]).tn (forL (jd 2 (bG (gnm 4) (bG (gnm 5) kW))) atB (ps.map pD)):=by
   simp[pD]
  have c1:n8 3 (aD 4) (cP (aD 5)) [w,s1,s2,.o2 ll,.sh (.int p.1),.sh (.int p.2)]= .nx [w,s1,s2,.o2 (bu ll p),.sh (.int p.1),.sh (.int p.2)]:=
   aCS (a:=p.1) (b:=p.2) rfl (by simp) (by simp) a0 a1 (by have:=aCK hb0 p.1.toNat;lia)
  have c2:n8 3 (aD 5) (cP (aD 4)) [w,s1,s2,.o2 (bu ll p),.sh (.int p.1),.sh (.int p.2)]= .nx [w,s1,s2,.o2 (bu (bu ll p) (p.2,p.1)),.sh (.int p.1),.sh (.int p.2)]:=
   aCS (a:=p.2) (b:=p.1) rfl (by simp) (by simp) b0 (by rw[tY];exact b1) (by have:=aCK hb1 p.2.toNat;lia)
  have hc:atB [w,s1,s2,.o2 ll,.sh (.int p.1),.sh (.int p.2)]= .nx [w,s1,s2,.o2 (bu (bu ll p) (p.2,p.1)),.sh (.int p.1),.sh (.int p.2)]:=by
   unfold atB;rw[aR,c1,bO,c2]
  rw[hg,hc,nH];exact e
structure aK2(n:Int)(es:List (Int×Int))(ll:List (List D)):Prop where
 len:ll.length=n.toNat
 item:∀i:Int,0<=i->i<n->∃ws:List Int,atD (ll.map .lst) i= .ok (.lst (ws.map .int))/\∀b,b∈ws↔(i,b)∈es
def qN(h:Ow n ps):∃ll,gJ [owD n ps]= .ok (.lst (ll.map .lst))/\aK2 n (dbl ps) ll/\∀i:Int,0<=i->i<n->atD (ll.map .lst) i= .ok (.lst ((mO (dbl ps) i).map .int)):=by
 have hn0:=h.n0;have hn1:=h.n1;have hr:=gM (j:=n) (by lia) (by lia);have hlen:(dh 0 n).length=n.toNat:=by rw[mG];lia
 have hps:=h.len;have hin:∀p∈ps,0<=p.1/\p.1<(zAW n.toNat ([]:List D)).length/\0<=p.2/\p.2<(zAW n.toNat ([]:List D)).length:=λ p hp=>by
  obtain⟨a,b,c,d,_⟩:=h.pr p hp;rw[zC6];lia
 have hin2:∀p∈dbl ps,0<=p.1/\p.1<(zAW n.toNat ([]:List D)).length:=λ p hp=>by
  rcases jO.mp (show(p.1,p.2)∈dbl ps from hp)with z|z
  .have:=hin _ z;exact⟨this.1,this.2.1⟩
  .have:=hin _ z;exact⟨this.2.2.1,this.2.2.2⟩
 obtain⟨s4,s5,e⟩:=wF (w:=.sh (owD n ps)) (s1:=.sh (.int n)) (s2:=.sh (.tup (ps.map pD))) ps (zAW n.toNat []) .no .no hin (λ l hl=>by
  rw[(List.mem_replicate.mp hl).2];simp;lia)
 have item:∀i:Int,0<=i->i<n->atD (((dbl ps).foldl bu (zAW n.toNat [])).map .lst) i= .ok (.lst ((mO (dbl ps) i).map .int)):=by
  intro i h0 h1;have hk:i.toNat<(zAW n.toNat ([]:List D)).length:=by rw[zC6];lia
  have hg:=wY (dbl ps) (zAW n.toNat []) i.toNat hin2 hk;have hk2:i.toNat<((dbl ps).foldl bu (zAW n.toNat [])).length:=by rw[qz];exact hk
  have hi:((i.toNat:Nat):Int)=i:=zCl h0;rw[hi]at hg;rw[<-hi];refine lD ?_;rw[hi,zAa,zAB hk2]
  have:((dbl ps).foldl bu (zAW n.toNat []))[i.toNat]=(mO (dbl ps) i).map .int:=by
   have e1:((dbl ps).foldl bu (zAW n.toNat [])).getD i.toNat []=((dbl ps).foldl bu (zAW n.toNat []))[i.toNat]:=by simp[hk2]
   rw[<-e1,hg];have e2:(zAW n.toNat ([]:List D)).getD i.toNat []=[]:=by
    rw[zCc,zCs];split<;>rfl
   rw[e2,zBp]
  rw[this];rfl
 refine⟨(dbl ps).foldl bu (zAW n.toNat []),?_,⟨by rw[qz,zC6],λ i h0 h1=>⟨mO (dbl ps) i,item i h0 h1,λ b=>tG⟩⟩,item⟩
 .have hz:n.toNat<16777216:=by lia
  have a0:aDA (aD 0) (jd 2 (bG (gnm 1) (bG (gnm 2) kW))) [.sh (owD n ps),.no,.no,.no,.no,.no]= .nx [.sh (owD n ps),.sh (.int n),.sh (.tup (ps.map pD)),.no,.no,.no]:=by
   simp[owD]
  have a1:llS 3 (gW iW (aC (aD 1) aJ)) [none] (gnm 0) [.sh (owD n ps),.sh (.int n),.sh (.tup (ps.map pD)),.no,.no,.no]= .nx [.sh (owD n ps),.sh (.int n),.sh (.tup (ps.map pD)),.o2 (zAW n.toNat []),.no,.no]:=by
   unfold llS;simp[shE,mq,hr,hlen,hz]
  have a2:dU (fH (aD 2)) (jd 2 (bG (gnm 4) (bG (gnm 5) kW))) atB [.sh (owD n ps),.sh (.int n),.sh (.tup (ps.map pD)),.o2 (zAW n.toNat []),.no,.no]= .nx [.sh (owD n ps),.sh (.int n),.sh (.tup (ps.map pD)),.o2 ((dbl ps).foldl bu (zAW n.toNat [])),s4,s5]:=by
   have hi:fH (aD 2) [.sh (owD n ps),.sh (.int n),.sh (.tup (ps.map pD)),.o2 (zAW n.toNat []),.no,.no]= .ok (ps.map pD):=by simp
   rw[iG,hi,eF];exact e
  have a3:retS (vW 3) [.sh (owD n ps),.sh (.int n),.sh (.tup (ps.map pD)),.o2 ((dbl ps).foldl bu (zAW n.toNat [])),s4,s5]= .rt (.lst (((dbl ps).foldl bu (zAW n.toNat [])).map .lst)):=by simp
  have st:ak 6 [owD n ps]=[.sh (owD n ps),.no,.no,.no,.no,.no]:=rfl;have df:gB=bB (aDA (aD 0) (jd 2 (bG (gnm 1) (bG (gnm 2) kW)))) (bB (llS 3 (gW iW (aC (aD 1) aJ)) [none] (gnm 0)) (bB (dU (fH (aD 2)) (jd 2 (bG (gnm 4) (bG (gnm 5) kW))) atB) (retS (vW 3)))):=rfl;simp only[gJ,df,bA,st];rw[aR,a0,bO,aR,a1,bO,aR,a2,bO,a3]
def jC(ps:List (Int×Int)):List Int->Bool
 |a::b::r=>decide ((a,b)∈ps)&&jC ps (b::r)
 |_=>true
theorem rE:∀{ws:List Int},jC ps ws=true↔∀(i:Nat) (a b:Int),ws[i]? =some a->ws[i+1]? =some b->(a,b)∈ps
 |[]=>by simp[jC]
 |[x]=>by
  simp only[jC,true_iff];intro i p q _ h2;simp at h2
 |x::y::r=>by
  have ih:=rE (ps:=ps) (ws:=y::r);unfold jC;rw[zAQ,ih,decide_eq_true_eq];constructor
  .rintro⟨h1,h2⟩ i p q e1 e2
   cases i with
   |zero=>simp at e1 e2;subst e1 e2;exact h1
   |succ i=>exact h2 i p q (by simpa using e1) (by simpa using e2)
  .intro h
   exact⟨h 0 x y rfl rfl,λ i p q e1 e2=>h (i+1) p q (by simpa using e1) (by simpa using e2)⟩
def ut(n:Int)(ps:List (Int×Int)):D->Bool
 | .tup ts=>!ts.isEmpty&&ts.all (bL n)&&decide ((ddI (ts.map intOf)).length=ts.length)&&jC ps (ts.map intOf)
 |_=>false
theorem pJ:∀{ts:List D},ts.all (bL n)=true->(ts.map intOf).map D.int=ts/\∀x∈ts.map intOf,0<=x/\x<n
 |[],_=>⟨rfl,λ x hx=>by simp at hx⟩
 |t::ts,h=>by
  rw[zDm,zAQ]at h;obtain⟨i,rfl,h0,h1⟩:=fP h.1;obtain⟨e,q⟩:=pJ h.2;refine⟨by simp only[zA0];rw[e];rfl,λ x hx=>?_⟩;rw[zA0]at hx;rcases zAT.mp hx with z|z
  .subst z;exact⟨h0,h1⟩
  .exact q x z
@[simp] def zW(h:ns.length<4000):mz [.tup (ns.map .int)]= .ok (.set (ddI ns)):=by
 unfold mz;dsimp only;rw[il];dsimp only;rw[if_pos h]
@[simp] def aAA:oU [.set l]= .ok (.int l.length):=aL rfl
def aFX{ws:List Int}(e:ws.map D.int=ts){k:Nat}(h:ws[k]? =some w):atD ts (k:Int)= .ok (.int w):=by
 subst e;exact lD (by rw[zAa,h];rfl)
def aCZ:D->Bool
 | .tup l=>decide (l.length<4000)
 |_=>true
def vh{ps:List (Int×Int)}(hn:0<=n)(N:aK2 n ps ll)(hp:pln d=true)(hs:aCZ d=true):bf [.lst (ll.map .lst),d]= .ok (.bl (ut n ps d)):=by
 cases d with
 |tup ts=>
  have hp':uQ ts=true:=by simpa[pln]using hp
  have hl:ts.length<4000:=by simpa[aCZ]using hs
  have st:ak 4 [.lst (ll.map .lst),.tup ts]=[.sh (.lst (ll.map .lst)),.sh (.tup ts),.no,.no]:=rfl;have hll:((ll.map D.lst).length:Int)=n:=by rw[zAF,N.len];lia
  cases ts with
  |nil=>
   simp only[bf,bK,bA,st];simp[ut]
  |cons t0 tr=>
   generalize hts:t0::tr=ts at*;have hne:ts≠[]:=by rw[<-hts];simp
   have b1:ifS (orT (kI (tst (op1 (jH "tuple") (aD 1)))) (tsb (op2 (eqR false) (opA fG (aC (aD 1) aJ)) (cD (.int 0))))) (retS (cD (.bl false))) Ou.nx [.sh (.lst (ll.map .lst)),.sh (.tup ts),.no,.no]= .nx [.sh (.lst (ll.map .lst)),.sh (.tup ts),.no,.no]:=by
    simp[hne]
   have L:=je (a:=gnm 2) (u:=aB0) (r:=.bl false) ts (λ i=>match ts[i]? with|some t=>bL n t|none=>true) (λ ρ=>∃s,ρ=[.sh (.lst (ll.map .lst)),.sh (.tup ts),s,.no]) [.sh (.lst (ll.map .lst)),.sh (.tup ts),.no,.no] ⟨_,rfl⟩ (by
    rintro i d ρ hd ⟨s,rfl⟩;have e:=mQ (m:=n) (jM (pI hp' (zAw hd)));simp only[hd];have hc:(kI (tst (aY cQ (aC (opA fG (aC (aD 0) aJ)) (aC (aD 2) aJ))))) [.sh (.lst (ll.map .lst)),.sh (.tup ts),.sh d,.no]= .ok (!bL n d):=by
     have hv:aC (opA fG (aC (aD 0) aJ)) (aC (aD 2) aJ) [.sh (.lst (ll.map .lst)),.sh (.tup ts),.sh d,.no]= .ok [.int n,d]:=by
      rw[<-hll];simp
     rw[aG0,aHo,aAU,hv,cA,e,cA,aFg,cA]
    have hg:okE (gnm 2 d [.sh (.lst (ll.map .lst)),.sh (.tup ts),s,.no]) aB0=aB0 [.sh (.lst (ll.map .lst)),.sh (.tup ts),.sh d,.no]:=by rw[fU,di];rfl
    rw[hg];unfold aB0;rw[vB,hc,eF];cases c:bL n d with
    |true=>right;exact⟨_,rfl,⟨_,rfl⟩,rfl⟩
    |false=>left;exact⟨by simp,rfl⟩)
   have hfor:∀o,forL (gnm 2) aB0 ts [.sh (.lst (ll.map .lst)),.sh (.tup ts),.no,.no]=o->dU (fH (aD 1)) (gnm 2) aB0 [.sh (.lst (ll.map .lst)),.sh (.tup ts),.no,.no]=o:=λ o h=>by
    have hi:fH (aD 1) [.sh (.lst (ll.map .lst)),.sh (.tup ts),.no,.no]= .ok ts:=by simp
    rw[iG,hi,eF,h]
   rcases L with ⟨e,i,hi,o⟩|⟨ρ',e,⟨s,rfl⟩,o⟩
   .have:ts.all (bL n)=false:=by
     rw[zGb];rw[zAB hi]at o;exact⟨ts[i],zBg hi,by simpa using o⟩
    simp only[bf,bK,bA,st];rw[aR,b1,bO,aR,hfor _ e];simp[ut,this]
   .have hall:ts.all (bL n)=true:=by
     rw[zBE];intro t ht;obtain⟨i,hi,rfl⟩:=zBW ht
     have:=o i hi
     rw[zAB hi]at this;exact this
    obtain⟨ei,hin⟩:=pJ hall;have hwl:(ts.map intOf).length=ts.length:=zAF _;have hset:mz [.tup ts]= .ok (.set (ddI (ts.map intOf))):=by
     have:=zW (ns:=ts.map intOf) (by lia)
     rwa [ei]at this
    by_cases hdd:(ddI (ts.map intOf)).length=ts.length
    .have b3:ifS (tsb (op2 (eqR true) (opA oU (aC (opA mz (aC (aD 1) aJ)) aJ)) (opA fG (aC (aD 1) aJ)))) (retS (cD (.bl false))) Ou.nx [.sh (.lst (ll.map .lst)),.sh (.tup ts),s,.no]= .nx [.sh (.lst (ll.map .lst)),.sh (.tup ts),s,.no]:=by
      simp[hset,hdd]
     have hr:=yK (i:=1) (j:=(ts.length:Int)) (by decide) (by decide) (by lia) (by lia);have hlen:(dh 1 (ts.length:Int)).length=ts.length-1:=by rw[mG];lia
     have L2:=je (a:=gnm 3) (u:=aBZ) (r:=.bl false) (dh 1 (ts.length:Int)) (λ i=>match (ts.map intOf)[i]?,(ts.map intOf)[i+1]? with|some a,some b=>decide ((a,b)∈ps)|_,_=>true)
      (λ ρ=>∃s',ρ=[.sh (.lst (ll.map .lst)),.sh (.tup ts),s,s']) [.sh (.lst (ll.map .lst)),.sh (.tup ts),s,.no] ⟨_,rfl⟩ (by
       rintro i d ρ hd ⟨s',rfl⟩;obtain⟨rfl,h2⟩:=mH hd;have k1:i<(ts.map intOf).length:=by lia
       have k2:i+1<(ts.map intOf).length:=by lia
       have e1:(ts.map intOf)[i]? =some (ts.map intOf)[i]:=zAB k1;have e2:(ts.map intOf)[i+1]? =some (ts.map intOf)[i+1]:=zAB k2;have a1:atD ts (1+(i:Int)-1)= .ok (.int (ts.map intOf)[i]):=by
        rw[show(1+(i:Int)-1)=(i:Int)by lia];exact aFX ei e1
       have a2:atD ts (1+(i:Int))= .ok (.int (ts.map intOf)[i+1]):=by
        rw[show(1+(i:Int))=((i+1:Nat):Int)by lia];exact aFX ei e2
       have m1:=hin _ (zBg k1);obtain⟨wa,a3,a4⟩:=N.item _ m1.1 m1.2;have hc:(tsb (op2 (inR true) (op2 ixD (aD 1) (aD 3)) (op2 ixD (aD 0) (op2 ixD (aD 1) (op2 aCX (aD 3) (cD (.int 1))))))) [.sh (.lst (ll.map .lst)),.sh (.tup ts),s,.sh (.int (1+(i:Int)))]= .ok (!decide (((ts.map intOf)[i],(ts.map intOf)[i+1])∈ps)):=by
        simp[a1,a2,a3,jP,a4,-zGo]
       have hg:okE (gnm 3 (.int (1+(i:Int))) [.sh (.lst (ll.map .lst)),.sh (.tup ts),s,s']) aBZ=aBZ [.sh (.lst (ll.map .lst)),.sh (.tup ts),s,.sh (.int (1+(i:Int)))]:=by rw[fU,di];rfl
       rw[hg];unfold aBZ;rw[vB,hc,eF];simp only[e1,e2];cases c:decide (((ts.map intOf)[i],(ts.map intOf)[i+1])∈ps)with
       |true=>right;exact⟨_,rfl,⟨_,rfl⟩,rfl⟩
       |false=>left;exact⟨by simp,rfl⟩)
     have hfor2:∀o,forL (gnm 3) aBZ (dh 1 (ts.length:Int)) [.sh (.lst (ll.map .lst)),.sh (.tup ts),s,.no]=o->dU (gW v7 (aC (cD (.int 1)) (aC (opA fG (aC (aD 1) aJ)) aJ))) (gnm 3) aBZ [.sh (.lst (ll.map .lst)),.sh (.tup ts),s,.no]=o:=λ o h=>by
      have hi:gW v7 (aC (cD (.int 1)) (aC (opA fG (aC (aD 1) aJ)) aJ)) [.sh (.lst (ll.map .lst)),.sh (.tup ts),s,.no]= .ok (dh 1 (ts.length:Int)):=by simp[hr]
      rw[iG,hi,eF,h]
     rcases L2 with ⟨e2,i,hi,o2⟩|⟨ρ',e2,⟨s',rfl⟩,o2⟩
     .have:jC ps (ts.map intOf)=false:=by
       cases c:jC ps (ts.map intOf)with
       |false=>rfl
       |true=>
        rw[hlen]at hi;have k1:i<(ts.map intOf).length:=by lia
        have k2:i+1<(ts.map intOf).length:=by lia
        have z:=rE.mp c i _ _ (zAB k1) (zAB k2);rw[zAB k1,zAB k2]at o2;simp only at o2;rw[decide_eq_true z]at o2;cases o2
      simp only[bf,bK,bA,st];rw[aR,b1,bO,aR,hfor _ e,bO,aR,b3,bO,aR,hfor2 _ e2];simp[ut,this]
     .have:jC ps (ts.map intOf)=true:=rE.mpr λ i a b e1 e2'=>by
       have h2:=(zAK.mp e2').1
       have:=o2 i (by rw[hlen];lia)
       rw[e1,e2']at this;simpa using this
      simp only[bf,bK,bA,st];rw[aR,b1,bO,aR,hfor _ e,bO,aR,b3,bO,aR,hfor2 _ e2,bO];simp[ut,this,hall,hdd,hne]
    .have b3:ifS (tsb (op2 (eqR true) (opA oU (aC (opA mz (aC (aD 1) aJ)) aJ)) (opA fG (aC (aD 1) aJ)))) (retS (cD (.bl false))) Ou.nx [.sh (.lst (ll.map .lst)),.sh (.tup ts),s,.no]= .rt (.bl false):=by
      have:¬((ddI (ts.map intOf)).length:Int)=(ts.length:Int):=by lia
      simp[hset,this]
     simp only[bf,bK,bA,st];rw[aR,b1,bO,aR,hfor _ e,bO,aR,b3];simp[ut,hdd]
 |_=>
  simp only[bf,bK,bA];simp[ak,jc (jM hp),mR,ut]
theorem wX{α:Type}{f:α->D}{a:D->En->Rs En}{u:En->Ou}{r:D}{I:En->Prop}{P:α->Bool}:∀(xs:List α) (ρ:En),I ρ->
  (∀x∈xs,∀ρ,I ρ->(P x=true/\∃ρ',okE (a (f x) ρ) u= .nx ρ'/\I ρ')\/(P x=false/\okE (a (f x) ρ) u= .rt r))->
  (xs.all P=true/\∃ρ',forL a u (xs.map f) ρ= .nx ρ'/\I ρ')\/(xs.all P=false/\forL a u (xs.map f) ρ= .rt r)
 |[],ρ,h,_=>.inl ⟨rfl,ρ,rfl,h⟩
 |x::xs,ρ,h,H=>by
  rw[zA0,bw,zDm];have tnE:∀(r':Rs En) (k:En->Ou),okE r' (λ ρ1=>(u ρ1).tn k)=(okE r' u).tn k:=λ r' k=>by cases r'<;>rfl
  rw[tnE];rcases H x zAN ρ h with ⟨p,ρ',e,hI⟩|⟨p,e⟩
  .rw[e,nH,p,Bool.true_and]
   exact wX xs ρ' hI λ y hy=>H y (zAX _ hy)
  .rw[e,aJa,p]
   exact .inr ⟨rfl,rfl⟩
def aFF{a:D->En->Rs En}{u:En->Ou}{r:D}{I:En->Prop}{P:D->Bool}(xs:List D)(ρ:En)(h:I ρ)
  (H:∀x∈xs,∀ρ,I ρ->(P x=true/\∃ρ',okE (a x ρ) u= .nx ρ'/\I ρ')\/(P x=false/\okE (a x ρ) u= .rt r)):
  (xs.all P=true/\∃ρ',forL a u xs ρ= .nx ρ'/\I ρ')\/(xs.all P=false/\forL a u xs ρ= .rt r):=by
 have:=wX (f:=id) (a:=a) (u:=u) (r:=r) (P:=P) xs ρ h H
 rwa [zGQ]at this
def aFJ(neg:Bool)(h1:jX d<=60)(h2:aa d=true):eqR neg d d= .ok (.bl (if neg then false else true)):=by
 unfold eqR;rw[if_pos (by simp[h1,h2]),qG d h2];cases neg<;>rfl
def aFL(ns:List Int):jX (.tup (ns.map .int))<=60/\aa (.tup (ns.map .int))=true:=by
 obtain⟨h1,h2⟩:=vO ns;exact⟨by unfold jX;lia,by unfold aa;exact h2⟩
def yf{p q:Int×Int}:ltP p q=true↔p.1<q.1\/p.1=q.1/\p.2<q.2:=by
 unfold ltP;have e:HT.lexLt [p.1,p.2] [q.1,q.2]=true↔p.1<q.1\/p.1=q.1/\p.2<q.2:=by
  by_cases h1:p.1=q.1
  .by_cases h2:p.2=q.2
   .simp[HT.lexLt,h1,h2]
   .simp[HT.lexLt,h1,h2]
  .simp[HT.lexLt,h1]
 exact e
def aDh{ps:List (Int×Int)}{q:Int×Int}(h:uL ps=true)(l:∀p∈ps,ltP p q=true):uL (ps++[q])=true:=by
 rw[yL]at h ⊢;intro i a b e1 e2;by_cases hi:i+1<ps.length
 .rw[zAo (by lia)]at e1
  rw[zAo hi]at e2;exact h i a b e1 e2
 .have hj:=(zAK.mp e2).1
  rw[zAL,zEC]at hj;have hk:i+1=ps.length:=by lia
  rw[zAo (by lia)]at e1;rw[hk,zBL (zAP _),zEz]at e2;cases e2;exact l a (zAw e1)
structure Wi(n a b:Int)(ps:List (Int×Int)):Prop where
 ris:uL ps=true
 pr:∀p∈ps,0<=p.1/\p.1<p.2/\p.2<n/\(p.1<a\/p.1=a/\p.2<b)
def Wi.put(W:Wi n a b ps)(h0:0<=a)(h1:a<b)(h2:b<n):Wi n a (b+1) (ps++[(a,b)]):=by
 refine⟨aDh W.ris λ p hp=>?_,λ p hp=>?_⟩
 .obtain⟨_,_,_,h⟩:=W.pr p hp
  rw[yf];exact h
 .rcases zAq.mp hp with hp|hp
  .obtain⟨q1,q2,q3,q4⟩:=W.pr p hp
   exact⟨q1,q2,q3,by lia⟩
  .rw[zAu.mp hp]
   exact⟨h0,h1,h2,.inr ⟨rfl,by show b<b+1;lia⟩⟩
def Wi.on{a' b':Int}(W:Wi n a b ps)(h:a<a'\/a=a'/\b<=b'):Wi n a' b' ps:=⟨W.ris,λ p hp=>by
 obtain⟨q1,q2,q3,q4⟩:=W.pr p hp;exact⟨q1,q2,q3,by lia⟩⟩
def wbI:En->Ou:=ifS (tsb (op2 ltD (aY ao (aC (aD 0) (aC (op2 cX (op2 cX (cD (.int 3)) (op2 j9 (cD (.int 61)) (aD 5))) (aD 6)) (aC (cD (.int 8)) aJ)))) (aD 3))) (aFZ 4 (eU (aC (cP (aD 5)) (aC (cP (aD 6)) aJ)))) Ou.nx
def wbO:En->Ou:=dU (gW v7 (aC (op2 cX (aD 5) (cD (.int 1))) (aC (aD 2) aJ))) (gnm 6) wbI
def aBJ{most:Nat}(h1:most<=60):∃n ps,iR [.int c,.int most]= .ok (owD n ps)/\Ow n ps/\(∀p∈ps,p.1<p.2)/\n<=most:=by
 obtain⟨n,en,hn⟩:=gQ (c:=c) (k:=0) (b:=(most:Int)+1) (by decide) (by decide) (by lia) (by lia);obtain⟨th,et,_⟩:=gQ (c:=c) (k:=1) (b:=6) (by decide) (by decide) (by decide) (by decide);have hr1:=gM (j:=(n:Int)) (by lia) (by lia);have inner:∀(a:Int) (K0:Nat) (ps:List (Int×Int)) (s2:Slot),0<=a->a<n->K0<=3600->ps.length<=K0->Wi n a (a+1) ps->
   ∃ps' s2',forL (gnm 6) wbI (dh (a+1) n) [.sh (.int c),.sh (.int most),.sh (.int n),.sh (.int (1+th)),.ow (.lst (ps.map pD)),.sh (.int a),s2]= .nx [.sh (.int c),.sh (.int most),.sh (.int n),.sh (.int (1+th)),.ow (.lst (ps'.map pD)),.sh (.int a),s2']/\ps'.length<=K0+60/\Wi n a n ps':=by
  intro a K0 ps s2 ha0 ha1 hK hl W;obtain⟨ρ',e,ps',s',rfl,hl',W'⟩:=qC (a:=gnm 6) (u:=wbI) (ds:=dh (a+1) n)
   (λ k ρ=>∃(ps:List (Int×Int)) (s2:Slot),ρ=[.sh (.int c),.sh (.int most),.sh (.int n),.sh (.int (1+th)),.ow (.lst (ps.map pD)),.sh (.int a),s2]/\ps.length<=K0+k/\Wi n a (a+1+k) ps)
   (by
    rintro i d ρ hd ⟨ps,s2,rfl,hps,W⟩;obtain⟨rfl,hlt⟩:=mH hd;have hm:j9 (.int 61) (.int a)= .ok (.int (61*a)):=yc (by decide) (by decide);obtain⟨r,er,_⟩:=gQ (c:=c) (k:=3+61*a+(a+1+i)) (b:=8) (by lia) (by lia) (by decide) (by decide);have hz:ps.length<16777216:=by lia
    by_cases hlt2:(r:Int)<1+th
    .exact⟨_,by simp[wbI,hm,er,hlt2,aFZ,hz];rfl,ps++[(a,a+1+i)],_,by simp[pD];rfl,by simp;lia,by rw[show a+1+((i+1:Nat):Int)=a+1+(i:Int)+1 by lia];exact W.put ha0 (by lia) (by lia)⟩
    .exact⟨_,by simp[wbI,hm,er,hlt2];rfl,ps,_,rfl,by lia,W.on (by lia)⟩)
   (ρ:=[.sh (.int c),.sh (.int most),.sh (.int n),.sh (.int (1+th)),.ow (.lst (ps.map pD)),.sh (.int a),s2]) ⟨ps,s2,rfl,by lia,W.on (by lia)⟩
  rw[mG]at hl' W';exact⟨ps',s',e,by lia,W'.on (by lia)⟩
 obtain⟨ρ',e,ps,s1,s2,rfl,hl,W⟩:=qC (a:=gnm 5) (u:=wbO) (ds:=dh 0 n)
  (λ k ρ=>∃(ps:List (Int×Int)) (s1 s2:Slot),ρ=[.sh (.int c),.sh (.int most),.sh (.int n),.sh (.int (1+th)),.ow (.lst (ps.map pD)),s1,s2]/\ps.length<=60*k/\Wi n k 0 ps)
  (by
   rintro i d ρ hd ⟨ps,s1,s2,rfl,hps,W⟩;obtain⟨rfl,hlt⟩:=mH hd;have hr2:=yK (i:=0+(i:Int)+1) (j:=(n:Int)) (by lia) (by lia) (by lia) (by lia);obtain⟨ps',s2',e,hl',W'⟩:=inner (0+(i:Int)) (60*i) ps s2 (by lia) (by lia) (by lia) hps ⟨W.ris,λ p hp=>by obtain⟨q1,q2,q3,q4⟩:=W.pr p hp;exact⟨q1,q2,q3,by lia⟩⟩;refine⟨_,?_,ps',.sh (.int (0+(i:Int))),s2',rfl,by lia,W'.on (by lia)⟩;simp only[Int.zero_add]at hr2 e ⊢;simp[wbO,hr2,e])
  (ρ:=[.sh (.int c),.sh (.int most),.sh (.int n),.sh (.int (1+th)),.ow (.lst []),.no,.no]) ⟨[],.no,.no,rfl,by simp,rfl,λ p hp=>by cases hp⟩
 rw[mG]at hl;refine⟨n,ps,?_,⟨by lia,by lia,by lia,λ p hp=>by obtain⟨q1,q2,q3,q4⟩:=W.pr p hp;exact⟨q1,by lia,by lia,q3,by lia⟩,W.ris⟩,λ p hp=>(W.pr p hp).2.1,by lia⟩;have st:ak 7 [.int c,.int most]=[.sh (.int c),.sh (.int most),.no,.no,.no,.no,.no]:=rfl;have df:iK=bB (iC 2 (aY ao (aC (aD 0) (aC (cD (.int 0)) (aC (op2 cX (aD 1) (cD (.int 1))) aJ)))))
  (bB (iC 3 (op2 cX (cD (.int 1)) (aY ao (aC (aD 0) (aC (cD (.int 1)) (aC (cD (.int 6)) aJ))))))
  (bB (zT 4 (jG aJ)) (bB (dU (gW iW (aC (aD 2) aJ)) (gnm 5) wbO)
  (retS (eU (aC (cP (aD 2)) (aC (opA nu (aC (vW 4) aJ)) aJ))))))):=rfl
 simp only[iR,df,bA,st];simp[en,et,hr1,e,owD]
structure El(k:Nat)(d:D):Prop where
 p:pln d=true
 e:jX d<=k
 n:aa d=true
 i:imm d=true
structure Fn4(d:D):Prop where
 p:pln d=true
 s:aCZ d=true
 e:jX d<=60
 n:aa d=true
def upI(n:Int):List Int:=(zBM n.toNat).map λ(k:Nat)=>(k:Int)
def aAi(n:Int):dh 0 n=(upI n).map .int:=by
 unfold dh upI;rw[zBh,show(n-0).toNat=n.toNat by lia];exact zET λ k _=>by simp
def ud{x n:Int}:x∈upI n↔0<=x/\x<n:=by
 unfold upI;rw[zBH];constructor
 .rintro⟨k,hk,rfl⟩
  have:=zBb.mp hk
  lia
 .rintro⟨h0,h1⟩
  exact⟨x.toNat,zBb.mpr (by lia),by lia⟩
def tR(n:Int):(upI n).length=n.toNat:=by unfold upI;simp
def aDi{ps:List (Int×Int)}:uL ps=true↔ps.Pairwise λ p q=>p.1<q.1\/p.1=q.1/\p.2<q.2:=by
 constructor
 .intro h
  have h':=yL.mp h;clear h;induction ps with
  |nil=>exact .nil
  |cons p ps ih=>
   have hs:∀(i:Nat) (p q:Int×Int),ps[i]? =some p->ps[i+1]? =some q->ltP p q=true:=λ i a b e1 e2=>h' (i+1) a b e1 e2
   have hp:=ih hs;refine zAh.mpr ⟨λ q hq=>?_,hp⟩;cases ps with
   |nil=>cases hq
   |cons r rs=>
    have h1:=yf.mp (h' 0 p r rfl rfl);rcases zAT.mp hq with rfl|hq
    .exact h1
    .have h2:=(zAh.mp hp).1 q hq
     lia
 .intro h
  rw[yL];intro i p q e1 e2;rw[yf];obtain⟨h1,rfl⟩:=zAK.mp e1;obtain⟨h2,rfl⟩:=zAK.mp e2;exact zB7.mp h i (i+1) h1 h2 (zCj i)
def cC(ps:List (Int×Int))(x y:Int):Bool:=decide ((mn x y,mx x y)∈ps)
def gf(ps:List (Int×Int))(a b c d:Int):Bool:=cC ps a b&& !cC ps a c&&cC ps b c&& !cC ps a d&& !cC ps b d&&cC ps c d
def aHW(m:Nat):dh 0 (m:Int)=(zBM m).map λ(k:Nat)=>.int (k:Int):=by
 unfold dh;rw[show((m:Int)-0).toNat=m by omega];simp
def ix4{l:List Int}{j:Nat}(h:j<l.length):ixD (.tup (l.map .int)) (.int (j:Int))= .ok (.int (l.getD j 0)):=by
 have:=aFX (ws:=l) rfl (k:=j) (w:=l.getD j 0) (by simp[h])
 exact this
def cj(ps:List (Int×Int))(l:List Int)(k:Nat):List (Int×Int):=((zBM k).filter λ j=>cC ps (l.getD j 0) (l.getD k 0)).map λ(j:Nat)=>((j:Int),(k:Int))
def aIx{n:Int}{ps:List (Int×Int)}{l:List Int}{k:Nat}{s2:Slot}(hl:l.length=4)(hk:k<4):lbE [.sh (owD n ps),.sh (.tup (l.map .int)),s2,.sh (.int k)]= .ok (.lst ((cj ps l k).map pD)):=by
 have r1:=gM (j:=(k:Int)) (by omega) (by omega);rw[aHW]at r1;unfold lbE;refine yh (ds:=(zBM k).map λ(j:Nat)=>.int (j:Int)) (by simp[shE,mq,r1]) (by simp;omega) ?_;have hs:stE [none,some 3,some 1,some 0] (shE [.sh (owD n ps),.sh (.tup (l.map .int)),s2,.sh (.int k)])=[.no,.sh (.int k),.sh (.tup (l.map .int)),.sh (owD n ps)]:=by simp[stE,shE,mq]
 rw[hs];unfold cj;rw[zBh];refine pR (f:=λ(j:Nat)=>D.int (j:Int)) (t:=λ j=>cC ps (l.getD j 0) (l.getD k 0)) (g:=pD∘λ(j:Nat)=>((j:Int),(k:Int))) (zBM k) λ j hj=>⟨[.sh (.int j),.sh (.int k),.sh (.tup (l.map .int)),.sh (owD n ps)],by simp,?_,by simp[pD]⟩
 have hj':j<k:=zBb.mp hj;have i1:=ix4 (l:=l) (j:=j) (by omega);have i2:=ix4 (l:=l) (j:=k) (by omega);have hin:=aEj false (mn (l.getD j 0) (l.getD k 0),mx (l.getD j 0) (l.getD k 0)) ps;simp only[pD]at hin;have h1:(if l.getD k 0<l.getD j 0 then l.getD k 0 else l.getD j 0)=mn (l.getD j 0) (l.getD k 0):=rfl;have h2:(if l.getD k 0>l.getD j 0 then l.getD k 0 else l.getD j 0)=mx (l.getD j 0) (l.getD k 0):=rfl;generalize l.getD k 0=y at*;generalize l.getD j 0=x at*;simp[i1,i2,owD];simp only[gt_iff_lt]at h2;rw[h1,h2,hin];simp[cC]
theorem aCO:∀(a b:List (Int×Int)),lO (a.map pD) (b.map pD)=decide (a=b)
 |[],[]=>rfl
 |[],y::b=>by simp[lO]
 |x::a,[]=>by simp[lO]
 |x::a,y::b=>by
  have:=aCO a b
  obtain⟨x1,x2⟩:=x;obtain⟨y1,y2⟩:=y;simp only[zA0,pD,lO,eqD,this,List.cons.injEq,zGr];by_cases h:x1=y1<;>by_cases h2:x2=y2<;>simp[h,h2]
def aCq(a b:List (Int×Int)):eqR false (.lst (a.map pD)) (.lst (b.map pD))= .ok (.bl (decide (a=b))):=by
 obtain⟨h1,h2⟩:=m9 a;obtain⟨h3,h4⟩:=m9 b;unfold eqR;rw[if_pos (by simp[jX,aa,h2,h4];omega)];simp[eqD,aCO]
def tL{n:Int}{ps L:List (Int×Int)}{l:List Int}{k:Nat}(hl:l.length=4)(hk:k<4)(hL:L.length<=100):qF 2 lbE [.sh (owD n ps),.sh (.tup (l.map .int)),.ow (.lst (L.map pD)),.sh (.int k)]= .nx [.sh (owD n ps),.sh (.tup (l.map .int)),.ow (.lst ((L++cj ps l k).map pD)),.sh (.int k)]:=by
 have e:=aIx (n:=n) (ps:=ps) (s2:=.ow (.lst (L.map pD))) hl hk;have hb:(cj ps l k).length<=k:=by
  unfold cj;rw[zAF];exact zAk (zBa _ _) (by simp)
 unfold qF;simp only[zBc,zBu];rw[e,eF];unfold aHB;dsimp only;have hsz:zAV=16777216:=rfl;rw[if_pos (by simp only[zAF];omega),zCO];rfl
def aCz(ps:List (Int×Int))(a b c d:Int):decide ((((([]++cj ps [a,b,c,d] 0)++cj ps [a,b,c,d] 1)++cj ps [a,b,c,d] 2)++cj ps [a,b,c,d] 3)=[(0,1),(1,2),(2,3)])=gf ps a b c d:=by
 unfold cj gf;simp only[zBM,List.range.loop,List.getD_cons_zero,List.getD_cons_succ,zDp,List.filter_nil];generalize cC ps a b=t1;generalize cC ps a c=t2;generalize cC ps b c=t3;generalize cC ps a d=t4;generalize cC ps b d=t5;generalize cC ps c d=t6;cases t1<;>cases t2<;>cases t3<;>cases t4<;>cases t5<;>cases t6<;>rfl
def rR{n a b c d:Int}{ps:List (Int×Int)}:jE [owD n ps,.tup [.int a,.int b,.int c,.int d]]= .ok (.bl (gf ps a b c d)):=by
 have hr:iW [.int 4]= .ok [.int (0:Nat),.int (1:Nat),.int (2:Nat),.int (3:Nat)]:=by
  rw[show(4:Int)=((4:Nat):Int)from rfl,gM (by decide) (by decide),aHW];rfl
 have hb:∀k,(cj ps [a,b,c,d] k).length<=k:=λ k=>by
  unfold cj;rw[zAF];exact zAk (zBa _ _) (by simp)
 have st:ak 4 [owD n ps,.tup [.int a,.int b,.int c,.int d]]=[.sh (owD n ps),.sh (.tup ([a,b,c,d].map .int)),.no,.no]:=rfl;have h0:=hb 0;have h1:=hb 1;have h2:=hb 2;have h3:=hb 3;have x0:=tL (n:=n) (ps:=ps) (L:=[]) (l:=[a,b,c,d]) (k:=0) rfl (by decide) (by simp);have x1:=tL (n:=n) (ps:=ps) (L:=[]++cj ps [a,b,c,d] 0) (l:=[a,b,c,d]) (k:=1) rfl (by decide) (by simp;omega);have x2:=tL (n:=n) (ps:=ps) (L:=([]++cj ps [a,b,c,d] 0)++cj ps [a,b,c,d] 1) (l:=[a,b,c,d]) (k:=2) rfl (by decide) (by simp;omega);have x3:=tL (n:=n) (ps:=ps) (L:=(([]++cj ps [a,b,c,d] 0)++cj ps [a,b,c,d] 1)++cj ps [a,b,c,d] 2) (l:=[a,b,c,d]) (k:=3) rfl (by decide) (by simp;omega);have hloop:forL (gnm 3) (qF 2 lbE) [.int (0:Nat),.int (1:Nat),.int (2:Nat),.int (3:Nat)] [.sh (owD n ps),.sh (.tup ([a,b,c,d].map .int)),.ow (.lst []),.no]= .nx [.sh (owD n ps),.sh (.tup ([a,b,c,d].map .int)),.ow (.lst (((((([]++cj ps [a,b,c,d] 0)++cj ps [a,b,c,d] 1)++cj ps [a,b,c,d] 2)++cj ps [a,b,c,d] 3)).map pD)),.sh (.int (3:Nat))]:=by
  rw[bw,fU,di]
  show(qF 2 lbE [.sh (owD n ps),.sh (.tup ([a,b,c,d].map .int)),.ow (.lst (([]:List (Int×Int)).map pD)),.sh (.int (0:Nat))]).tn _=_
  rw[x0,nH,bw,fU,di]
  show(qF 2 lbE [.sh (owD n ps),.sh (.tup ([a,b,c,d].map .int)),.ow (.lst (([]++cj ps [a,b,c,d] 0).map pD)),.sh (.int (1:Nat))]).tn _=_
  rw[x1,nH,bw,fU,di]
  show(qF 2 lbE [.sh (owD n ps),.sh (.tup ([a,b,c,d].map .int)),.ow (.lst ((([]++cj ps [a,b,c,d] 0)++cj ps [a,b,c,d] 1).map pD)),.sh (.int (2:Nat))]).tn _=_
  rw[x2,nH,bw,fU,di]
  show(qF 2 lbE [.sh (owD n ps),.sh (.tup ([a,b,c,d].map .int)),.ow (.lst (((([]++cj ps [a,b,c,d] 0)++cj ps [a,b,c,d] 1)++cj ps [a,b,c,d] 2).map pD)),.sh (.int (3:Nat))]).tn _=_
  rw[x3,nH];rfl
 have he:=aCq ((((([]++cj ps [a,b,c,d] 0)++cj ps [a,b,c,d] 1)++cj ps [a,b,c,d] 2)++cj ps [a,b,c,d] 3)) [(0,1),(1,2),(2,3)];rw[aCz]at he;generalize (((([]++cj ps [a,b,c,d] 0)++cj ps [a,b,c,d] 1)++cj ps [a,b,c,d] 2)++cj ps [a,b,c,d] 3)=L at*;have he':eqR false (.lst (L.map pD)) (.lst [.tup [.int 0,.int 1],.tup [.int 1,.int 2],.tup [.int 2,.int 3]])= .ok (.bl (gf ps a b c d)):=he;have c1:zT 2 (jG aJ) [.sh (owD n ps),.sh (.tup ([a,b,c,d].map .int)),.no,.no]= .nx [.sh (owD n ps),.sh (.tup ([a,b,c,d].map .int)),.ow (.lst []),.no]:=by simp
 have c2:dU (gW iW (aC (cD (.int 4)) aJ)) (gnm 3) (qF 2 lbE) [.sh (owD n ps),.sh (.tup ([a,b,c,d].map .int)),.ow (.lst []),.no]= .nx [.sh (owD n ps),.sh (.tup ([a,b,c,d].map .int)),.ow (.lst (L.map pD)),.sh (.int (3:Nat))]:=by
  have hi:gW iW (aC (cD (.int 4)) aJ) [.sh (owD n ps),.sh (.tup ([a,b,c,d].map .int)),.ow (.lst []),.no]= .ok [.int (0:Nat),.int (1:Nat),.int (2:Nat),.int (3:Nat)]:=by rw[<-hr];rfl
  rw[iG,hi,eF,hloop]
 simp only[jE,fV,bA,st];rw[aR,c1,bO,aR,c2,bO];simp[he']
def aCr(a b c:Int):Bool:=decide ((ddI [a,b,c]).length=3)
def aC0(a b c:Int):mz [.lst [.int a,.int b,.int c]]= .ok (.set (ddI [a,b,c])):=by
 have:([.int a,.int b,.int c]:List D)=[a,b,c].map .int:=rfl
 rw[this];unfold mz;dsimp only;rw[il];rfl
def jL(n a b c:Int):List Int:=(upI n).filter λ d=>!decide (d∈[a,b,c])
def lfC(n:Int)(ps:List (Int×Int))(a b c:Int):List (List Int):=if aCr a b c=true then((jL n a b c).filter λ d=>gf ps a b c d).map λ d=>[a,b,c,d]else[]
def aGb{n a b c:Int}{ps:List (Int×Int)}{s1 s5:Slot}(h0:0<=n)(h1:n<=60):aGc [.sh (owD n ps),s1,.sh (.int a),.sh (.int b),.sh (.int c),s5]= .ok (.lst ((jL n a b c).map .int)):=by
 have r1:=gM (j:=n) (by omega) (by omega);rw[aAi]at r1;unfold aGc;refine yh (ds:=(upI n).map .int) (by simp[shE,mq,owD,r1]) (by rw[zAF,tR];omega) ?_;have hs:stE [none,some 2,some 3,some 4] (shE [.sh (owD n ps),s1,.sh (.int a),.sh (.int b),.sh (.int c),s5])=[.no,.sh (.int a),.sh (.int b),.sh (.int c)]:=by simp[stE,shE,mq]
 rw[hs];unfold jL;refine pR (f:=D.int) (t:=λ d=>!decide (d∈[a,b,c])) (g:=D.int) (upI n) λ d _=>⟨[.sh (.int d),.sh (.int a),.sh (.int b),.sh (.int c)],by simp,?_,by simp⟩
 have hi:=aEk true d [a,b,c];simp only[zA0,zED]at hi;simp[hi]
def aG9{n a b c:Int}{ps:List (Int×Int)}{s1:Slot}{rs:List Int}(hr:rs.length<=60):aGa [.sh (owD n ps),s1,.sh (.int a),.sh (.int b),.sh (.int c),.nw (.lst (rs.map .int))]= .ok (.lst (((rs.filter λ d=>gf ps a b c d).map λ d=>[a,b,c,d]).map tupI)):=by
 unfold aGa;refine yh (ds:=rs.map .int) (by simp[shE,mq]) (by rw[zAF];omega) ?_;have hs:stE [none,some 2,some 3,some 4,some 0] (shE [.sh (owD n ps),s1,.sh (.int a),.sh (.int b),.sh (.int c),.nw (.lst (rs.map .int))])=[.no,.sh (.int a),.sh (.int b),.sh (.int c),.sh (owD n ps)]:=by simp[stE,shE,mq]
 rw[hs,zBh];refine pR (f:=D.int) (t:=λ d=>gf ps a b c d) (g:=tupI∘λ d=>[a,b,c,d]) rs λ d _=>⟨[.sh (.int d),.sh (.int a),.sh (.int b),.sh (.int c),.sh (owD n ps)],by simp,?_,by simp[tupI]⟩
 have:=rR (n:=n) (ps:=ps) (a:=a) (b:=b) (c:=c) (d:=d)
 simp[this]
def aIv{n a b c:Int}{ps:List (Int×Int)}{L:List (List Int)}{s5:Slot}(h0:0<=n)(h1:n<=8)(hL:L.length<=10000):∃t5,lfI [.sh (owD n ps),.ow (.lst (L.map tupI)),.sh (.int a),.sh (.int b),.sh (.int c),s5]= .nx [.sh (owD n ps),.ow (.lst ((L++lfC n ps a b c).map tupI)),.sh (.int a),.sh (.int b),.sh (.int c),t5]:=by
 have hset:=aC0 a b c;have hx:oU [.set (ddI [a,b,c])]= .ok (.int (ddI [a,b,c]).length):=aAA;have he:∀k:Nat,eqR false (.int k) (.int 3)= .ok (.bl (decide (k=3))):=λ k=>by
  unfold eqR;simp only[jX,aa,eqD];by_cases h:k=3
  .subst h;rfl
  .have:¬((k:Int)=3):=by omega
   simp[h,this]
 have he:=he (ddI [a,b,c]).length;by_cases hd:aCr a b c=true
 .have hd':(ddI [a,b,c]).length=3:=by simpa[aCr]using hd
  have e1:=aGb (n:=n) (a:=a) (b:=b) (c:=c) (ps:=ps) (s1:=.ow (.lst (L.map tupI))) (s5:=s5) h0 (by omega);have hrl:(jL n a b c).length<=8:=by
   unfold jL;refine zAk (zBa _ _) ?_;rw[tR];omega
  have e2:=aG9 (n:=n) (a:=a) (b:=b) (c:=c) (ps:=ps) (s1:=.ow (.lst (L.map tupI))) (rs:=jL n a b c) (by omega);refine⟨.nw (.lst ((jL n a b c).map .int)),?_⟩;have c1:pC 5 aGc [.sh (owD n ps),.ow (.lst (L.map tupI)),.sh (.int a),.sh (.int b),.sh (.int c),s5]= .nx [.sh (owD n ps),.ow (.lst (L.map tupI)),.sh (.int a),.sh (.int b),.sh (.int c),.nw (.lst ((jL n a b c).map .int))]:=by
   rw[yD,e1,eF];rfl
  have c2:qF 1 aGa [.sh (owD n ps),.ow (.lst (L.map tupI)),.sh (.int a),.sh (.int b),.sh (.int c),.nw (.lst ((jL n a b c).map .int))]= .nx [.sh (owD n ps),.ow (.lst ((L++lfC n ps a b c).map tupI)),.sh (.int a),.sh (.int b),.sh (.int c),.nw (.lst ((jL n a b c).map .int))]:=by
   have hfl:(((jL n a b c).filter λ d=>gf ps a b c d).map λ d=>[a,b,c,d]).length<=8:=by
    rw[zAF];exact zAk (zBa _ _) hrl
   unfold qF;simp only[zBc,zBu];rw[e2,eF];unfold aHB;dsimp only;have hsz:zAV=16777216:=rfl;rw[if_pos (by rw[zAF,zAF (f:=tupI) (as:=zHO _ _)];omega)]
   have:lfC n ps a b c=((jL n a b c).filter λ d=>gf ps a b c d).map λ d=>[a,b,c,d]:=by unfold lfC;rw[if_pos hd]
   rw[this,zCO (f:=tupI)];rfl
  have hc:tsb (op2 (eqR false) (opA oU (aC (opA mz (aC (jG (aC (aD 2) (aC (aD 3) (aC (aD 4) aJ)))) aJ)) aJ)) (cD (.int 3))) [.sh (owD n ps),.ow (.lst (L.map tupI)),.sh (.int a),.sh (.int b),.sh (.int c),s5]= .ok true:=by
   simp[hset,hx,he,hd']
  unfold lfI;rw[vB,hc];simp only[eF,if_true];rw[aR,c1,bO,c2]
 .have hd':¬(ddI [a,b,c]).length=3:=by simpa[aCr]using hd
  refine⟨s5,?_⟩
  have:lfC n ps a b c=[]:=by unfold lfC;rw[if_neg hd]
  rw[this,zA9];have hc:tsb (op2 (eqR false) (opA oU (aC (opA mz (aC (jG (aC (aD 2) (aC (aD 3) (aC (aD 4) aJ)))) aJ)) aJ)) (cD (.int 3))) [.sh (owD n ps),.ow (.lst (L.map tupI)),.sh (.int a),.sh (.int b),.sh (.int c),s5]= .ok false:=by
   simp[hset,hx,he,hd']
  unfold lfI;rw[vB,hc];simp
theorem dW{α β:Type}{f:α->List β}{m:Nat}:∀xs:List α,(∀x∈xs,(f x).length<=m)->(xs.flatMap f).length<=xs.length*m
 |[],_=>by simp
 |x::xs,h=>by
  have h1:=h x zAN;have h2:=dW xs λ y hy=>h y (zAX _ hy)
  rw[zDc,zAL,zA7,zFT];omega
def tK{n a b c:Int}{ps:List (Int×Int)}(ha:a∈upI n)(hn:n<=8):(lfC n ps a b c).length<=7:=by
 unfold lfC;split
 .rw[zAF]
  refine zAk (zBa _ _) ?_;have h1:(jL n a b c).length<(upI n).length:=by
   unfold jL;rw[List.length_filter_lt_length_iff_exists];exact⟨a,ha,by simp⟩
  rw[tR]at h1;omega
 .simp
abbrev lfS(n:Int)(ps:List (Int×Int))(L:List (List Int))(s2 s3 s4 s5:Slot):En:=[.sh (owD n ps),.ow (.lst (L.map tupI)),s2,s3,s4,s5]
section
variable{n:Int}{ps:List (Int×Int)}(h0:0<=n)(h1:n<=8)
include h0 h1
theorem lf3{a b:Int}(ha:a∈upI n):∀(xs:List Int) (L:List (List Int)) (t4 t5:Slot),L.length+xs.length*7<=10000->
  ∃u4 u5,forL (gnm 4) lfI (xs.map .int) (lfS n ps L (.sh (.int a)) (.sh (.int b)) t4 t5)= .nx (lfS n ps (L++xs.flatMap (lfC n ps a b)) (.sh (.int a)) (.sh (.int b)) u4 u5)
 |[],L,t4,t5,_=>⟨t4,t5,by simp[forL]⟩
 |x::xs,L,t4,t5,h=>by
  rw[zA7,zFT]at h;obtain⟨u5,e⟩:=aIv (a:=a) (b:=b) (c:=x) (ps:=ps) (L:=L) (s5:=t5) h0 h1 (by omega);have hl:=tK (b:=b) (c:=x) (ps:=ps) ha h1;obtain⟨v4,v5,e2⟩:=lf3 ha xs (L++lfC n ps a b x) (.sh (.int x)) u5 (by rw[zAL];omega);refine⟨v4,v5,?_⟩;rw[zA0,bw,fU,di]
  show(lfI [.sh (owD n ps),.ow (.lst (L.map tupI)),.sh (.int a),.sh (.int b),.sh (.int x),t5]).tn _=_
  rw[e,nH,e2,zDc,zAe]
def aBG{L:List (List Int)}{s2 s3 s4 s5:Slot}:lfR (lfS n ps L s2 s3 s4 s5)= .ok ((upI n).map .int):=by
 have r1:=gM (j:=n) (by omega) (by omega);rw[aAi]at r1;unfold lfR;simp[owD,r1]
def up8:(upI n).length<=8:=by rw[tR];omega
theorem lf2{a:Int}(ha:a∈upI n):∀(xs:List Int) (L:List (List Int)) (t3 t4 t5:Slot),L.length+xs.length*56<=10000->
  ∃u3 u4 u5,forL (gnm 3) (dU lfR (gnm 4) lfI) (xs.map .int) (lfS n ps L (.sh (.int a)) t3 t4 t5)= .nx (lfS n ps (L++xs.flatMap λ b=>(upI n).flatMap (lfC n ps a b)) (.sh (.int a)) u3 u4 u5)
 |[],L,t3,t4,t5,_=>⟨t3,t4,t5,by simp[forL]⟩
 |x::xs,L,t3,t4,t5,h=>by
  rw[zA7,zFT]at h;have hu:=up8 h0 h1;obtain⟨u4,u5,e⟩:=lf3 h0 h1 (ps:=ps) (b:=x) ha (upI n) L t4 t5 (by omega);have hl:=dW (f:=lfC n ps a x) (m:=7) (upI n) λ c _=>tK ha h1
  obtain⟨v3,v4,v5,e2⟩:=lf2 ha xs (L++(upI n).flatMap (lfC n ps a x)) (.sh (.int x)) u4 u5 (by rw[zAL];omega);refine⟨v3,v4,v5,?_⟩;rw[zA0,bw,fU,di]
  show(dU lfR (gnm 4) lfI (lfS n ps L (.sh (.int a)) (.sh (.int x)) t4 t5)).tn _=_
  rw[iG,aBG h0 h1,eF,e,nH,e2,zDc,zAe]
theorem lf1:∀(xs:List Int) (L:List (List Int)) (t2 t3 t4 t5:Slot),(∀x∈xs,x∈upI n)->L.length+xs.length*448<=10000->
  ∃u2 u3 u4 u5,forL (gnm 2) (dU lfR (gnm 3) (dU lfR (gnm 4) lfI)) (xs.map .int) (lfS n ps L t2 t3 t4 t5)= .nx (lfS n ps (L++xs.flatMap λ a=>(upI n).flatMap λ b=>(upI n).flatMap (lfC n ps a b)) u2 u3 u4 u5)
 |[],L,t2,t3,t4,t5,_,_=>⟨t2,t3,t4,t5,by simp[forL]⟩
 |x::xs,L,t2,t3,t4,t5,hx,h=>by
  rw[zA7,zFT]at h;have hu:=up8 h0 h1;have ha:=hx x zAN;obtain⟨u3,u4,u5,e⟩:=lf2 h0 h1 (ps:=ps) ha (upI n) L t3 t4 t5 (by omega);have hl:=dW (f:=λ b=>(upI n).flatMap (lfC n ps x b)) (m:=56) (upI n) λ b _=>by
   have:=dW (f:=lfC n ps x b) (m:=7) (upI n) λ c _=>tK ha h1
   omega
  obtain⟨v2,v3,v4,v5,e2⟩:=lf1 xs (L++(upI n).flatMap λ b=>(upI n).flatMap (lfC n ps x b)) (.sh (.int x)) u3 u4 u5 (λ y hy=>hx y (zAX _ hy)) (by rw[zAL];omega);refine⟨v2,v3,v4,v5,?_⟩;rw[zA0,bw,fU,di]
  show(dU lfR (gnm 3) (dU lfR (gnm 4) lfI) (lfS n ps L (.sh (.int x)) t3 t4 t5)).tn _=_
  rw[iG,aBG h0 h1,eF,e,nH,e2,zDc,zAe]
end
def lfA(n:Int)(ps:List (Int×Int)):List (List Int):=(upI n).flatMap λ a=>(upI n).flatMap λ b=>(upI n).flatMap (lfC n ps a b)
def pU{n:Int}{ps:List (Int×Int)}(h0:0<=n)(h1:n<=8):gj [owD n ps]= .ok (.lst ((lfA n ps).map tupI))/\(lfA n ps).length<4000:=by
 have hu:=up8 h0 h1;obtain⟨u2,u3,u4,u5,e⟩:=lf1 h0 h1 (ps:=ps) (upI n) [] .no .no .no .no (λ _ h=>h) (by simp;omega);have st:ak 6 [owD n ps]=[.sh (owD n ps),.no,.no,.no,.no,.no]:=rfl;refine⟨?_,?_⟩
 .have c1:zT 1 (jG aJ) [.sh (owD n ps),.no,.no,.no,.no,.no]= .nx (lfS n ps [] .no .no .no .no):=by simp
  simp only[gj,dw,bA,st];rw[aR,c1,bO,aR,iG,aBG h0 h1,eF,e,bO,zBp];rfl
 .have h3:∀a∈upI n,((upI n).flatMap λ b=>(upI n).flatMap (lfC n ps a b)).length<=448:=λ a ha=>by
   have:=dW (f:=λ b=>(upI n).flatMap (lfC n ps a b)) (m:=56) (upI n) λ b _=>by
    have:=dW (f:=lfC n ps a b) (m:=7) (upI n) λ c _=>tK ha h1
    omega
   omega
  have:=dW (upI n) h3
  unfold lfA;omega
def iB{ps:List (Int×Int)}(low:∀p∈ps,p.1<p.2)(a b:Int):cC ps a b=true↔(a,b)∈dbl ps:=by
 unfold cC;rw[decide_eq_true_eq,jO];constructor
 .intro h
  rcases aG3 a b with ⟨e1,e2⟩|⟨e1,e2⟩
  .rw[e1,e2]at h;exact .inl h
  .rw[e1,e2]at h;exact .inr h
 .rintro(h|h)
  .have:=low _ h
   dsimp only at this;have e1:mn a b=a:=by unfold mn;rw[if_neg (by omega)]
   have e2:mx a b=b:=by unfold mx;rw[if_pos (by omega)]
   rw[e1,e2];exact h
  .have:=low _ h
   dsimp only at this;have e1:mn a b=b:=by unfold mn;rw[if_pos (by omega)]
   have e2:mx a b=a:=by unfold mx;rw[if_neg (by omega)]
   rw[e1,e2];exact h
def aDS{ps:List (Int×Int)}(low:∀p∈ps,p.1<p.2)(a b:Int):cC ps a b=cC ps b a:=by
 rw[zDZ,iB low,iB low,jO,jO];exact Or.comm
def aFh{ps:List (Int×Int)}(low:∀p∈ps,p.1<p.2)(a:Int):cC ps a a=false:=by
 cases h:cC ps a a with
 |false=>rfl
 |true=>
  rw[iB low,jO]at h;rcases h with h|h<;>(have:=low _ h;dsimp only at this;omega)
abbrev nr(ps:List (Int×Int))(a:Int):List Int:=mO (dbl ps) a
def kO{ps:List (Int×Int)}(low:∀p∈ps,p.1<p.2){a b:Int}:b∈nr ps a↔cC ps a b=true:=by
 rw[iB low];exact tG
def aHE(ps:List (Int×Int)):(dbl ps).length=2*ps.length:=by
 induction ps with
 |nil=>rfl
 |cons p ps ih=>rw[aAP,zA7,zA7,zA7,ih];omega
def aAz(ps:List (Int×Int))(a:Int):(nr ps a).length<=2*ps.length:=by
 unfold nr mO;rw[zAF,<-aHE];exact zBa _ _
section
variable{ρ:En}{fg:D->En->Rs En}{ft:En->Rs Bool}{inn:En->Rs (List D)}
theorem yX{α:Type}{f:α->D}{g:α->List D}:∀(l:List α),(∀x∈l,∃ρ1,fg (f x) ρ= .ok ρ1/\inn ρ1= .ok (g x))->nsL ρ fg lN inn (l.map f)= .ok (l.flatMap g)
 |[],_=>rfl
 |x::l,h=>by
  obtain⟨ρ1,e1,e2⟩:=h x zAN;rw[zA0,nsL,e1,cA];simp only[lN,cA,if_true];rw[e2,cA]
  have:=yX l λ z hz=>h z (zAX _ hz)
  rw[this,cA];rfl
theorem aBy{α:Type}{f:α->D}{t:α->Bool}{g:α->D}:∀(l:List α),(∀x∈l,∃ρ1,fg (f x) ρ= .ok ρ1/\ft ρ1= .ok (t x)/\inn ρ1= .ok [g x])->nsL ρ fg ft inn (l.map f)= .ok ((l.filter t).map g)
 |[],_=>rfl
 |x::l,h=>by
  obtain⟨ρ1,e1,e2,e3⟩:=h x zAN;have ih:=aBy l λ z hz=>h z (zAX _ hz)
  rw[zA0,nsL,e1,cA,e2,cA,ih];cases ht:t x with
  |true=>rw[if_pos rfl,e3,cA,cA,zDp,ht];rfl
  |false=>rw[if_neg zAG,zDp,ht];rfl
end
def thr(n:Int)(ps:List (Int×Int)):List (List Int):=(upI n).flatMap λ a=>(nr ps a).flatMap λ b=>((nr ps b).filter λ c=>!decide (c∈nr ps a)).map λ c=>[a,b,c]
def aAJ(ps:List (Int×Int)):List Int->List (List Int)
 |[a,b,c]=>((nr ps c).filter λ d=>!decide (d∈nr ps a)&& !decide (d∈nr ps b)).map λ d=>[a,b,c,d]
 |_=>[]
def fou(n:Int)(ps:List (Int×Int)):List (List Int):=(thr n ps).flatMap (aAJ ps)
def tV{n:Int}{ps:List (Int×Int)}{x:List Int}(O:Ow n ps)(h:x∈thr n ps):∃a b c,x=[a,b,c]/\(0<=a/\a<n)/\(0<=b/\b<n)/\(0<=c/\c<n):=by
 unfold thr at h;obtain⟨a,ha,h⟩:=zAm.mp h;obtain⟨b,hb,h⟩:=zAm.mp h;obtain⟨c,hc,rfl⟩:=zBH.mp h;have hr:∀{x y:Int},y∈nr ps x->0<=y/\y<n:=λ{x y} h=>by
  rcases jO.mp (tG.mp h)with z|z
  .have:=O.pr _ z;exact⟨this.2.2.1,this.2.2.2.1⟩
  .have:=O.pr _ z;exact⟨this.1,this.2.1⟩
 exact⟨a,b,c,rfl,ud.mp ha,hr hb,hr (zBX.mp hc).1⟩
def aK5{n:Int}{ps:List (Int×Int)}{ll:List (List D)}{s2 s3:Slot}(O:Ow n ps)(h36:ps.length<=36)(h8:n<=8)(hat:∀i:Int,0<=i->i<n->atD (ll.map .lst) i= .ok (.lst ((nr ps i).map .int))):
  E3 [.sh (owD n ps),.sh (.lst (ll.map .lst)),s2,s3]= .ok (.lst ((thr n ps).map tupI))/\(thr n ps).length<=50000:=by
 have hn0:=O.n0;have r1:=gM (j:=n) (by omega) (by omega);rw[aAi]at r1;have hl:(thr n ps).length<=50000:=by
  unfold thr
  have:=dW (f:=λ a=>(nr ps a).flatMap λ b=>((nr ps b).filter λ c=>!decide (c∈nr ps a)).map λ c=>[a,b,c]) (m:=5184) (upI n) λ a _=>by
   have:=dW (f:=λ b=>((nr ps b).filter λ c=>!decide (c∈nr ps a)).map λ c=>[a,b,c]) (m:=72) (nr ps a) λ b _=>by
    rw[zAF];refine zAk (zBa _ _) ?_
    have:=aAz ps b
    omega
   have h2:=aAz ps a;omega
  rw[tR]at this;omega
 refine⟨?_,hl⟩;have hr:∀{x y:Int},y∈nr ps x->0<=y/\y<n:=λ{x y} h=>by
  rcases jO.mp (tG.mp h)with z|z
  .have:=O.pr _ z;exact⟨this.2.2.1,this.2.2.2.1⟩
  .have:=O.pr _ z;exact⟨this.1,this.2.1⟩
 have hi:gW iW (aC (op2 ixD (aD 0) (cD (.int 0))) aJ) (shE [.sh (owD n ps),.sh (.lst (ll.map .lst)),s2,s3])= .ok ((upI n).map .int):=by simp[shE,mq,owD,r1]
 have hs:stE [none,none,none,some 1] (shE [.sh (owD n ps),.sh (.lst (ll.map .lst)),s2,s3])=[.no,.no,.no,.sh (.lst (ll.map .lst))]:=by simp[stE,shE,mq]
 have hns:nsL [.no,.no,.no,.sh (.lst (ll.map .lst))] (gnm 0) lN (nsI (fH (op2 ixD (aD 3) (aD 0))) (gnm 1) lN (nsI (fH (op2 ixD (aD 3) (aD 1))) (gnm 2) (tsb (op2 (inR true) (aD 2) (op2 ixD (aD 3) (aD 0)))) (aC8 (eU (aC (cP (aD 0)) (aC (cP (aD 1)) (aC (cP (aD 2)) aJ))))))) ((upI n).map .int)= .ok ((thr n ps).map tupI):=by
  rw[yX (g:=λ a=>((nr ps a).flatMap λ b=>((nr ps b).filter λ c=>!decide (c∈nr ps a)).map λ c=>[a,b,c]).map tupI)]
  .unfold thr
   rw[zEw]
  .intro a ha
   have ha':=ud.mp ha;have ea:=hat a ha'.1 ha'.2;refine⟨[.sh (.int a),.no,.no,.sh (.lst (ll.map .lst))],by simp,?_⟩;unfold nsI;rw[if_pos (by rfl)];have i1:fH (op2 ixD (aD 3) (aD 0)) [.sh (.int a),.no,.no,.sh (.lst (ll.map .lst))]= .ok ((nr ps a).map .int):=by simp[ea]
   rw[i1,cA,yX (g:=λ b=>(((nr ps b).filter λ c=>!decide (c∈nr ps a)).map λ c=>[a,b,c]).map tupI)]
   .rw[zEw]
   .intro b hb
    have hb':=hr hb;have eb:=hat b hb'.1 hb'.2;refine⟨[.sh (.int a),.sh (.int b),.no,.sh (.lst (ll.map .lst))],by simp,?_⟩;rw[if_pos (by rfl)];have i2:fH (op2 ixD (aD 3) (aD 1)) [.sh (.int a),.sh (.int b),.no,.sh (.lst (ll.map .lst))]= .ok ((nr ps b).map .int):=by simp[eb]
    rw[i2,cA,zBh];refine aBy (f:=D.int) (t:=λ c=>!decide (c∈nr ps a)) (g:=tupI∘λ c=>[a,b,c]) (nr ps b) λ c _=>⟨[.sh (.int a),.sh (.int b),.sh (.int c),.sh (.lst (ll.map .lst))],by simp,?_,?_⟩
    .have:=jP true c (nr ps a)
     simp[ea,this]
    .simp[aC8,tupI]
 unfold E3 aAE;rw[hi,cA,hs,hns];dsimp only;have hsz:zAV=16777216:=rfl;rw[if_pos (by rw[zAF];omega)]
def aK4{n:Int}{ps:List (Int×Int)}{ll:List (List D)}{s3:Slot}(O:Ow n ps)(h36:ps.length<=36)(hl:(thr n ps).length<=50000)(hat:∀i:Int,0<=i->i<n->atD (ll.map .lst) i= .ok (.lst ((nr ps i).map .int))):
  E4 [.sh (owD n ps),.sh (.lst (ll.map .lst)),.nw (.lst ((thr n ps).map tupI)),s3]= .ok (.lst ((fou n ps).map tupI)):=by
 have hlen:(fou n ps).length<=50000*72:=by
  unfold fou
  have:=dW (f:=aAJ ps) (m:=72) (thr n ps) λ x hx=>by
   obtain⟨a,b,c,rfl,_⟩:=tV O hx;unfold aAJ;rw[zAF];refine zAk (zBa _ _) ?_
   have:=aAz ps c
   omega
  omega
 have hi:fH (aD 2) (shE [.sh (owD n ps),.sh (.lst (ll.map .lst)),.nw (.lst ((thr n ps).map tupI)),s3])= .ok ((thr n ps).map tupI):=by simp[shE,mq]
 have hs:stE [none,none,none,none,some 1] (shE [.sh (owD n ps),.sh (.lst (ll.map .lst)),.nw (.lst ((thr n ps).map tupI)),s3])=[.no,.no,.no,.no,.sh (.lst (ll.map .lst))]:=by simp[stE,shE,mq]
 have hns:nsL [.no,.no,.no,.no,.sh (.lst (ll.map .lst))] (jd 3 (bG (gnm 0) (bG (gnm 1) (bG (gnm 2) kW)))) lN (inL (fH (op2 ixD (aD 4) (aD 2))) (gnm 3) (aHK (tsb (op2 (inR true) (aD 3) (op2 ixD (aD 4) (aD 0)))) (tsb (op2 (inR true) (aD 3) (op2 ixD (aD 4) (aD 1))))) (eU (aC (cP (aD 0)) (aC (cP (aD 1)) (aC (cP (aD 2)) (aC (cP (aD 3)) aJ)))))) ((thr n ps).map tupI)= .ok ((fou n ps).map tupI):=by
  rw[yX (g:=λ x=>(aAJ ps x).map tupI)]
  .unfold fou
   rw[zEw]
  .intro x hx
   obtain⟨a,b,c,rfl,ha,hb,hc⟩:=tV O hx;have ea:=hat a ha.1 ha.2;have eb:=hat b hb.1 hb.2;have ec:=hat c hc.1 hc.2;refine⟨[.sh (.int a),.sh (.int b),.sh (.int c),.no,.sh (.lst (ll.map .lst))],by simp[tupI],?_⟩;unfold inL;rw[if_pos (by rfl)];have i1:fH (op2 ixD (aD 4) (aD 2)) [.sh (.int a),.sh (.int b),.sh (.int c),.no,.sh (.lst (ll.map .lst))]= .ok ((nr ps c).map .int):=by simp[ec]
   rw[i1,cA];unfold aAJ;rw[zBh];refine pR (f:=D.int) (t:=λ d=>!decide (d∈nr ps a)&& !decide (d∈nr ps b)) (g:=tupI∘λ d=>[a,b,c,d]) (nr ps c) λ d _=>⟨[.sh (.int a),.sh (.int b),.sh (.int c),.sh (.int d),.sh (.lst (ll.map .lst))],by simp,?_,by simp[tupI]⟩
   have h1:=jP true d (nr ps a);have h2:=jP true d (nr ps b);by_cases z1:d∈nr ps a<;>simp[ea,eb,h1,h2,z1]
 unfold E4 aAE;rw[hi,cA,hs,hns];dsimp only;have hsz:zAV=16777216:=rfl;rw[if_pos (by rw[zAF];omega)]
def aFE{n:Int}{ps:List (Int×Int)}{x:List Int}(O:Ow n ps)(h:x∈fou n ps):∃a b c d,x=[a,b,c,d]:=by
 unfold fou at h;obtain⟨y,hy,h⟩:=zAm.mp h;obtain⟨a,b,c,rfl,_⟩:=tV O hy;unfold aAJ at h;obtain⟨d,_,rfl⟩:=zBH.mp h;exact⟨a,b,c,d,rfl⟩
def rD{n:Int}{ps:List (Int×Int)}(O:Ow n ps)(low:∀p∈ps,p.1<p.2)(h:n<=20):bY [owD n ps]= .ok .non:=by
 have hw:=wU O low;have hc:cB [owD n ps]= .ok .non:=by
  have st:ak 1 [owD n ps]=[.sh (owD n ps)]:=rfl;simp only[cB,dF,bA,st];simp[hw]
 have st:ak 1 [owD n ps]=[.sh (owD n ps)]:=rfl;have hg:¬(20<n):=by omega
 simp only[bY,bW,bA,st];unfold owD at hc ⊢;simp[hc,hg]
def aB1{n:Int}{ps:List (Int×Int)}(O:Ow n ps)(low:∀p∈ps,p.1<p.2)(h36:ps.length<=36)(h8:n<=8):bT [owD n ps]= .ok (ye (fou n ps)):=by
 obtain⟨ll,e1,N,hat⟩:=qN O;obtain⟨e3,hl⟩:=aK5 (s2:=.no) (s3:=.no) O h36 h8 hat;have e4:=aK4 (s3:=.no) O h36 hl hat;have e0:=rD O low (by omega);have st:ak 4 [owD n ps]=[.sh (owD n ps),.no,.no,.no]:=rfl;have hm:zu [.lst ((fou n ps).map tupI)]= .ok (ye (fou n ps)):=by
  unfold zu;dsimp only;rw[nj (λ ns hn=>by obtain⟨a,b,c,d,rfl⟩:=aFE O hn;simp)]
 have c0:xJ (aY bY (aC (aD 0) aJ)) [.sh (owD n ps),.no,.no,.no]= .nx [.sh (owD n ps),.no,.no,.no]:=by simp[e0]
 have c1:iC 1 (aY gJ (aC (aD 0) aJ)) [.sh (owD n ps),.no,.no,.no]= .nx [.sh (owD n ps),.sh (.lst (ll.map .lst)),.no,.no]:=by simp[e1]
 have c2:pC 2 E3 [.sh (owD n ps),.sh (.lst (ll.map .lst)),.no,.no]= .nx [.sh (owD n ps),.sh (.lst (ll.map .lst)),.nw (.lst ((thr n ps).map tupI)),.no]:=by rw[yD,e3,eF];rfl
 have c3:pC 3 E4 [.sh (owD n ps),.sh (.lst (ll.map .lst)),.nw (.lst ((thr n ps).map tupI)),.no]= .nx [.sh (owD n ps),.sh (.lst (ll.map .lst)),.nw (.lst ((thr n ps).map tupI)),.nw (.lst ((fou n ps).map tupI))]:=by rw[yD,e4,eF];rfl
 simp only[bT,fu,bA,st];rw[aR,c0,bO,aR,c1,bO,aR,c2,bO,aR,c3,bO];simp[hm]
theorem aCR(A:List (List Int)):∀k,zDK (lt2 A) k<=k/\∀j,j<=k->lt2 A j (zDK (lt2 A) k)=false
 |0=>⟨zAP _,λ j h=>by
  have:j=0:=by omega
  subst this;exact ug _⟩
 |k+1=>by
  obtain⟨h1,h2⟩:=aCR A k;unfold zDK;cases hb:lt2 A (k+1) (zDK (lt2 A) k)with
  |true=>
   rw[if_pos rfl];refine⟨zAP _,λ j hj=>?_⟩;by_cases e:j=k+1
   .subst e;exact ug _
   .have h3:=h2 j (by omega)
    exact aE7 (aCC hb) h3
  |false=>
   rw[if_neg zAG];refine⟨by omega,λ j hj=>?_⟩;by_cases e:j=k+1
   .subst e;exact hb
   .exact h2 j (by omega)
def rW(B:List (List Int)):D:=match j6 B with
 |[]=>.non
 |x::_=>tupI x
def aE1{A B:List (List Int)}(h:∀x,x∈A↔x∈B):ye A=rW B:=by
 unfold ye rW;have hp:=jt B;have hr:=lW B;by_cases hA:A.length=0
 .rw[if_pos hA]
  cases hB:j6 B with
  |nil=>rfl
  |cons y r=>
   have:y∈A:=(h y).mpr (hp.mem_iff.mp (by rw[hB];exact zAN))
   rw[zCt.mp hA]at this;cases this
 .rw[if_neg hA]
  obtain⟨b1,b2⟩:=aCR A (A.length-1);have hlt:zDK (lt2 A) (A.length-1)<A.length:=by omega
  have hm:A.getD (zDK (lt2 A) (A.length-1)) []∈A:=by
   rw[zCc,zAB hlt];exact zBg hlt
  cases hB:j6 B with
  |nil=>
   have:=hp.mem_iff.mpr ((h _).mp hm)
   rw[hB]at this;cases this
  |cons y r=>
   dsimp only;rw[hB]at hr hp;have hy:y∈A:=(h y).mpr (hp.mem_iff.mp zAN);obtain⟨j,hj,ej⟩:=zBW hy;have h1:=b2 j (by omega);unfold lt2 at h1;rw[zCc (i:=j),zAB hj,zG0,ej]at h1;have hmB:A.getD (zDK (lt2 A) (A.length-1)) []∈y::r:=hp.mem_iff.mpr ((h _).mp hm);congr 1;rcases zAT.mp hmB with e|hmr
   .exact e
   .have h2:=(zAh.mp hr).1 _ hmr
    exact uf _ _ h2 h1
def lC{ps:List (Int×Int)}{a b c d:Int}:gf ps a b c d=true↔cC ps a b=true/\cC ps a c=false/\cC ps b c=true/\cC ps a d=false/\cC ps b d=false/\cC ps c d=true:=by
 unfold gf;simp[and_assoc]
def aFW{ps:List (Int×Int)}(low:∀p∈ps,p.1<p.2){a b c d:Int}(h:gf ps a b c d=true):a≠b/\a≠c/\b≠c/\d≠a/\d≠b/\d≠c:=by
 obtain⟨h1,h2,h3,h4,h5,h6⟩:=lC.mp h;have ne:∀{x y:Int},cC ps x y=true->x≠y:=λ h e=>by subst e;rw[aFh low]at h;cases h
 refine⟨ne h1,λ e=>?_,ne h3,λ e=>?_,λ e=>?_,λ e=>ne h6 e.symm⟩
 .subst e;rw[h4]at h6;cases h6
 .subst e;rw[aDS low,h2]at h6;cases h6
 .subst e;rw[h4]at h1;cases h1
def dd3{a b c:Int}(h1:a≠b)(h2:a≠c)(h3:b≠c):aCr a b c=true:=by
 have e1:¬b=a:=λ e=>h1 e.symm
 have e2:¬c=a:=λ e=>h2 e.symm
 have e3:¬c=b:=λ e=>h3 e.symm
 simp[aCr,ddI,zDD,h1,h2,h3]
def aA3{n:Int}{ps:List (Int×Int)}(O:Ow n ps)(low:∀p∈ps,p.1<p.2){a b:Int}(h:cC ps a b=true):(0<=a/\a<n)/\0<=b/\b<n:=by
 rcases jO.mp ((iB low _ _).mp h)with z|z
 .have:=O.pr _ z;exact⟨⟨this.1,this.2.1⟩,this.2.2.1,this.2.2.2.1⟩
 .have:=O.pr _ z;exact⟨⟨this.2.2.1,this.2.2.2.1⟩,this.1,this.2.1⟩
def aGz{n:Int}{ps:List (Int×Int)}(O:Ow n ps)(low:∀p∈ps,p.1<p.2)(x:List Int):x∈fou n ps↔x∈lfA n ps:=by
 constructor
 .intro h
  unfold fou at h;obtain⟨y,hy,h⟩:=zAm.mp h;unfold thr at hy;obtain⟨a,ha,hy⟩:=zAm.mp hy;obtain⟨b,hb,hy⟩:=zAm.mp hy;obtain⟨c,hc,rfl⟩:=zBH.mp hy;unfold aAJ at h;obtain⟨d,hd,rfl⟩:=zBH.mp h;obtain⟨hc1,hc2⟩:=zBX.mp hc;obtain⟨hd1,hd2⟩:=zBX.mp hd;have nn:∀{x y:Int},¬y∈nr ps x->cC ps x y=false:=λ{x y} h=>by
   cases e:cC ps x y with
   |false=>rfl
   |true=>exact absurd ((kO low).mpr e) h
  simp only[zEh,decide_eq_false_iff_not,zAQ]at hc2 hd2;have t1:=(kO low).mp hb;have t3:=(kO low).mp hc1;have t6:=(kO low).mp hd1;have hB:gf ps a b c d=true:=lC.mpr ⟨t1,nn hc2,t3,nn hd2.1,nn hd2.2,t6⟩;obtain⟨n1,n2,n3,n4,n5,n6⟩:=aFW low hB;unfold lfA;refine zAm.mpr ⟨a,ha,zAm.mpr ⟨b,ud.mpr (aA3 O low t1).2,zAm.mpr ⟨c,ud.mpr (aA3 O low t3).2,?_⟩⟩⟩;unfold lfC;rw[if_pos (dd3 n1 n2 n3)];refine zBH.mpr ⟨d,zBX.mpr ⟨zBX.mpr ⟨ud.mpr (aA3 O low t6).2,?_⟩,hB⟩,rfl⟩;simp[n4,n5,n6]
 .intro h
  unfold lfA at h;obtain⟨a,ha,h⟩:=zAm.mp h;obtain⟨b,hb,h⟩:=zAm.mp h;obtain⟨c,hc,h⟩:=zAm.mp h;unfold lfC at h;split at h
  .obtain⟨d,hd,rfl⟩:=zBH.mp h
   obtain⟨hd1,hB⟩:=zBX.mp hd;obtain⟨t1,t2,t3,t4,t5,t6⟩:=lC.mp hB;have nn:∀{x y:Int},cC ps x y=false->¬y∈nr ps x:=λ{x y} h e=>by
    rw[(kO low).mp e]at h;cases h
   unfold fou;refine zAm.mpr ⟨[a,b,c],?_,?_⟩
   .unfold thr
    exact zAm.mpr ⟨a,ha,zAm.mpr ⟨b,(kO low).mpr t1,zBH.mpr ⟨c,zBX.mpr ⟨(kO low).mpr t3,by simpa using nn t2⟩,rfl⟩⟩⟩
   .unfold aAJ
    exact zBH.mpr ⟨d,zBX.mpr ⟨(kO low).mpr t6,by simpa using⟨nn t4,nn t5⟩⟩,rfl⟩
  .cases h
def fJ(n:Int)(ps:List (Int×Int)):D->Bool
 | .tup ts=>decide (ts.length=4)&&ts.all (bL n)&&decide ((ddI (ts.map intOf)).length=4)&&(match ts.map intOf with
  |[a,b,c,d]=>gf ps a b c d
  |_=>false)
 |_=>false
def yt{n:Int}{ts:List D}(h4:ts.length=4)(ha:ts.all (bL n)=true):∃a b c d:Int,ts=[.int a,.int b,.int c,.int d]/\(0<=a/\a<n)/\(0<=b/\b<n)/\(0<=c/\c<n)/\(0<=d/\d<n):=by
 match ts,h4 with
 |[w,x,y,z],_=>
  simp only[zDm,List.all_nil,zDl,zAQ]at ha;obtain⟨a,rfl,a1,a2⟩:=fP ha.1;obtain⟨b,rfl,b1,b2⟩:=fP ha.2.1;obtain⟨c,rfl,c1,c2⟩:=fP ha.2.2.1;obtain⟨d,rfl,d1,d2⟩:=fP ha.2.2.2;exact⟨a,b,c,d,rfl,⟨a1,a2⟩,⟨b1,b2⟩,⟨c1,c2⟩,⟨d1,d2⟩⟩
def aFD{n:Int}{ps:List (Int×Int)}(low:∀p∈ps,p.1<p.2){d:D}(h:fJ n ps d=true):ut n (dbl ps) d=true:=by
 cases d with
 |tup ts=>
  unfold fJ at h;simp only[zAQ,decide_eq_true_eq]at h;obtain⟨⟨⟨h1,h2⟩,h3⟩,h4⟩:=h;obtain⟨a,b,c,d,rfl,_⟩:=yt h1 h2;obtain⟨t1,t2,t3,t4,t5,t6⟩:=lC.mp (show gf ps a b c d=true from h4);rw[iB low]at t1 t3 t6;unfold ut;dsimp only;rw[h2,h3];simp[jC,intOf,t1,t3,t6]
 |_=>cases h
def nZ{n:Int}{ps:List (Int×Int)}(O:Ow n ps)(low:∀p∈ps,p.1<p.2):cB [owD n ps]= .ok .non:=by
 have hw:=wU O low;have st:ak 1 [owD n ps]=[.sh (owD n ps)]:=rfl;simp only[cB,dF,bA,st];simp[hw]
def aBR{n:Int}{ps:List (Int×Int)}(O:Ow n ps)(low:∀p∈ps,p.1<p.2){d:D}(hp:pln d=true)(hs:aCZ d=true):eO [owD n ps,d]= .ok (.bl (fJ n ps d)):=by
 obtain⟨ll,e1,N,hat⟩:=qN O;have e2:=vh O.n0 N hp hs;have e0:=nZ O low;have st:ak 7 [owD n ps,d]=[.sh (owD n ps),.sh d,.no,.no,.no,.no,.no]:=rfl;simp only[eO,fj,bA,st];cases hled:ut n (dbl ps) d with
 |false=>
  have:fJ n ps d=false:=by
   cases h:fJ n ps d with
   |false=>rfl
   |true=>rw[aFD low h]at hled;cases hled
  rw[hled]at e2;rw[this];simp[e0,e1,e2]
 |true=>
  rw[hled]at e2;cases d with
  |tup ts=>
   unfold ut at hled;simp only[zAQ,decide_eq_true_eq]at hled;obtain⟨⟨⟨h1,h2⟩,h3⟩,h4⟩:=hled;by_cases h5:ts.length=4
   .obtain⟨a,b,c,d,rfl,ha,hb,hc,hd⟩:=yt h5 h2
    have ea:=hat a ha.1 ha.2;have eb:=hat b hb.1 hb.2;have i1:=jP true c (nr ps a);have i2:=jP true d (nr ps a);have i3:=jP true d (nr ps b);simp only[zA0,zED,intOf,jC,zAQ,decide_eq_true_eq,and_true]at h4;have t1:=(iB low _ _).mpr h4.1;have t3:=(iB low _ _).mpr h4.2.1;have t6:=(iB low _ _).mpr h4.2.2;have hm:∀x y:Int,decide (y∈nr ps x)=cC ps x y:=λ x y=>by
     rw[zDZ,decide_eq_true_eq];exact kO low
    rw[hm]at i1 i2 i3;have hF:fJ n ps (.tup [.int a,.int b,.int c,.int d])=(!cC ps a c&&(!cC ps a d&& !cC ps b d)):=by
     unfold fJ;dsimp only;rw[h2];have h3':(ddI ([D.int a,.int b,.int c,.int d].map intOf)).length=4:=h3;rw[h3'];simp only[zA0,zED,intOf,gf,t1,t3,t6];cases cC ps a c<;>cases cC ps a d<;>cases cC ps b d<;>rfl
    rw[hF];cases z1:cC ps a c<;>cases z2:cC ps a d<;>cases z3:cC ps b d<;>simp[e0,e1,e2,ea,eb,i1,i2,i3,z1,z2,z3]
   .have:fJ n ps (.tup ts)=false:=by simp[fJ,h5]
    rw[this];have h5':¬(ts.length:Int)=4:=by omega
    simp[e0,e1,e2,h5']
  |_=>cases hled
def aG8{n:Int}{ps:List (Int×Int)}{x d:D}(hk:knd d=true):(bL n d=true/\yg [.sh (owD n ps),.sh x,.sh d]= .nx [.sh (owD n ps),.sh x,.sh d])\/(bL n d=false/\yg [.sh (owD n ps),.sh x,.sh d]= .rt (.bl false)):=by
 have h1:=yo hk;have h2:=pW hk;cases d with
 |int i=>
  by_cases z1:0<=i
  .by_cases z2:i<n
   .exact .inl ⟨by simp[bL,z1,z2],by simp[yg,owD,z1,z2]⟩
   .exact .inr ⟨by simp[bL,z2],by simp[yg,owD,z1,z2]⟩
  .exact .inr ⟨by simp[bL,z1],by simp[yg,owD,z1]⟩
 |bl b=>exact .inr ⟨rfl,by simp[yg,h1,h2,aBS,aHa]⟩
 |_=>exact .inr ⟨rfl,by simp[yg,h1,aBS]⟩
def uv{n:Int}{ps:List (Int×Int)}{d:D}(hp:pln d=true):gU [owD n ps,d]= .ok (.bl (fJ n ps d)):=by
 have hk:=jM hp;have ht:=jc hk;have st:ak 3 [owD n ps,d]=[.sh (owD n ps),.sh d,.no]:=rfl;simp only[gU,cU,bA,st];cases d with
 |tup ts=>
  by_cases h5:ts.length=4
  .have h5':(ts.length:Int)=4:=by omega
   have hl:=aFF (a:=gnm 2) (u:=yg) (r:=.bl false) (I:=λ ρ=>∃s,ρ=[.sh (owD n ps),.sh (.tup ts),s]) (P:=bL n) ts [.sh (owD n ps),.sh (.tup ts),.no] ⟨_,rfl⟩ (by
    rintro d hd ρ ⟨s,rfl⟩;have hkd:knd d=true:=jM (pI (by simpa[pln]using hp) hd);rcases aG8 (n:=n) (ps:=ps) (x:=.tup ts) hkd with ⟨a,b⟩|⟨a,b⟩
    .exact .inl ⟨a,_,by rw[fU,di];exact b,_,rfl⟩
    .exact .inr ⟨a,by rw[fU,di];exact b⟩)
   rcases hl with ⟨h2,ρ',e,s,rfl⟩|⟨h2,e⟩
   .obtain⟨a,b,c,d,rfl,_⟩:=yt h5 h2
    have hset:=zW (ns:=[a,b,c,d]) (by simp);have hset':mz [.tup [.int a,.int b,.int c,.int d]]= .ok (.set (ddI [a,b,c,d])):=hset;have hx:oU [.set (ddI [a,b,c,d])]= .ok (.int (ddI [a,b,c,d]).length):=aAA;have hb:=rR (n:=n) (ps:=ps) (a:=a) (b:=b) (c:=c) (d:=d);have hF:fJ n ps (.tup [.int a,.int b,.int c,.int d])=(decide ((ddI [a,b,c,d]).length=4)&&gf ps a b c d):=by
     unfold fJ;dsimp only;rw[h2];simp[intOf]
    rw[hF];by_cases z:(ddI [a,b,c,d]).length=4
    .simp[e,hset',hx,hb,z]
    .have z':¬((ddI [a,b,c,d]).length:Int)=4:=by omega
     simp[e,hset',hx,hb,z,z']
   .have:fJ n ps (.tup ts)=false:=by unfold fJ;dsimp only;rw[h2];simp
    rw[this];simp[h5',e]
  .have:fJ n ps (.tup ts)=false:=by simp[fJ,h5]
   rw[this];have h5':¬(ts.length:Int)=4:=by omega
   simp[h5']
 |_=>simp[ht,mR,fJ]
def aKU{n:Int}{ps:List (Int×Int)}(O:Ow n ps)(low:∀p∈ps,p.1<p.2)(h8:n<=8):ps.length<=36:=by
 have nd:ps.Nodup:=by
  have:=aDi.mp O.ris
  rw[List.nodup_iff_pairwise_ne];exact this.imp λ{a b} h e=>by subst e;omega
 have:=nd.length_le_of_subset (l₂:=(zBM 8).flatMap λ(b:Nat)=>(zBM b).map λ(a:Nat)=>((a:Int),(b:Int))) λ p hp=>by
  have h1:=O.pr p hp;have h2:=low p hp;refine zAm.mpr ⟨p.2.toNat,by simp;omega,zBH.mpr ⟨p.1.toNat,by simp;omega,?_⟩⟩;have e1:((p.1.toNat:Nat):Int)=p.1:=zCl (by omega);have e2:((p.2.toNat:Nat):Int)=p.2:=zCl (by omega);rw[e1,e2]
 have h28:((zBM 8).flatMap λ(b:Nat)=>(zBM b).map λ(a:Nat)=>((a:Int),(b:Int))).length=28:=by decide
 omega
def aAp{fe:En->Rs D}{ρ:En}{c w:Str}(h:fe (ρ.map shS)= .ex c)(hw:wdN c=some w):v8 wdN "told" fe ρ= .ok (.str w):=by
 unfold v8;rw[h];dsimp only;rw[hw]
def aCo(B:List (List Int)):aa (rW B)=true/\jX (rW B)<=60:=by
 unfold rW;cases j6 B with
 |nil=>exact⟨rfl,by decide⟩
 |cons x r=>have:=aFL x;exact⟨this.2,this.1⟩
def aG4{r:Nat}(hr:r<40):bT [.tup [.int (21+(r:Int)),.tup []]]= .ex "TooMany":=by
 have O:Ow (21+(r:Int)) []:=⟨by omega,by omega,by simp,by simp,rfl⟩;have hc:cB [.tup [.int (21+(r:Int)),.tup []]]= .ok .non:=nZ O (by simp);have hg:(20:Int)<21+(r:Int):=by omega
 have hp:bY [.tup [.int (21+(r:Int)),.tup []]]= .ex "TooMany":=by
  have st:ak 1 [.tup [.int (21+(r:Int)),.tup []]]=[.sh (.tup [.int (21+(r:Int)),.tup []])]:=rfl;simp only[bY,bW,bA,st];simp[hc,hg]
 have st:ak 4 [.tup [.int (21+(r:Int)),.tup []]]=[.sh (.tup [.int (21+(r:Int)),.tup []]),.no,.no,.no]:=rfl;simp only[bT,fu,bA,st];simp[hp]
def aG1(d:D):eO [.non,d]= .ex "NoWeb":=by
 have hc:cB [.non]= .ex "NoWeb":=by kernel_rfl
 have st:ak 7 [.non,d]=[.sh .non,.sh d,.no,.no,.no,.no,.no]:=rfl;simp only[eO,fj,bA,st];simp[hc]
abbrev lE(ns:List Int)(k c n:Int)(ps:List (Int×Int))(s5 s6 s7 s8 s9 s10:Slot):En:=[.sh (.scr ns),.sh (.int k),.sh (.int c),.sh (owD n ps),.sh (.lst ((lfA n ps).map tupI)),s5,s6,s7,s8,s9,s10]
def Fs(d:D):Prop:=pln d=true/\aCZ d=true
def aKN{ns:List Int}{k c n:Int}{ps:List (Int×Int)}(O:Ow n ps)(low:∀p∈ps,p.1<p.2){s5 s6 s7 s8 s10:Slot}{d:D}(h:Fs d):∃t10,lT (lE ns k c n ps s5 s6 s7 s8 (.sh d) s10)= .nx (lE ns k c n ps s5 s6 s7 s8 (.sh d) t10):=by
 have e1:=aBR O low h.1 h.2;have e2:=uv (n:=n) (ps:=ps) h.1;generalize fJ n ps d=b at e1 e2;have e3:eqR true (.bl b) (.bl b)= .ok (.bl false):=by cases b<;>rfl
 refine⟨.sh (.bl b),?_⟩;unfold lT;simp[e1,e2,e3]
def zz{n:Int}{ps:List (Int×Int)}{x:List Int}(h:x∈lfA n ps):∃a b c d,x=[a,b,c,d]:=by
 unfold lfA at h;obtain⟨a,ha,h⟩:=zAm.mp h;obtain⟨b,hb,h⟩:=zAm.mp h;obtain⟨c,hc,h⟩:=zAm.mp h;unfold lfC at h;split at h
 .obtain⟨d,hd,rfl⟩:=zBH.mp h
  exact⟨a,b,c,d,rfl⟩
 .cases h
def aA7{n:Int}{ps:List (Int×Int)}(hl:(lfA n ps).length<4000):oG [.lst ((lfA n ps).map tupI)]= .ok (.lst ((j6 (lfA n ps)).map tupI)):=by
 unfold oG;dsimp only;rw[nj (λ ns hn=>by obtain⟨a,b,c,d,rfl⟩:=zz hn;simp)];dsimp only;rw[if_pos hl]
def aIz{ns:List Int}{k c n:Int}{ps:List (Int×Int)}(O:Ow n ps)(low:∀p∈ps,p.1<p.2)(h8:n<=8){s5 s6 s7 s8 s9 s10:Slot}:lI1 (lE ns k c n ps s5 s6 s7 s8 s9 s10)= .nx (lE ns k c n ps s5 s6 s7 s8 s9 s10):=by
 obtain⟨_,hl⟩:=pU (ps:=ps) O.n0 h8;have e1:=aB1 O low (aKU O low h8) h8;rw[aE1 (aGz O low)]at e1;have e2:=aA7 hl;have hh:=aCo (lfA n ps);have e3:=aFJ true hh.2 hh.1;have e4:op2 ixD (op2 cX (opA oG (aC (aD 4) aJ)) (jG (aC (cD .non) aJ))) (cD (.int 0)) (lE ns k c n ps s5 s6 s7 s8 s9 s10)= .ok (rW (lfA n ps)):=by
  have hz:(j6 (lfA n ps)).length<4000:=by rw[(jt _).length_eq];exact hl
  unfold rW;cases hs:j6 (lfA n ps)with
  |nil=>
   rw[hs]at e2;simp[e2]
  |cons x r=>
   rw[hs]at e2 hz;simp only[zA7]at hz
   have:r.length+1+1<=16777216:=by omega
   simp[e2,this]
 have e0:aY bT (aC (aD 3) aJ) (lE ns k c n ps s5 s6 s7 s8 s9 s10)= .ok (rW (lfA n ps)):=by simp[e1]
 unfold lI1;rw[vB,aHp,aIo,e0,cA,e4,cA,e3];simp
def aKV{ns:List Int}{k c n:Int}{ps:List (Int×Int)}(h0:0<=n)(h8:n<=8){s5 s6 s7 s8 s9 s10:Slot}:∃a b d e:Int,w5 (lE ns k c n ps s5 s6 s7 s8 s9 s10)= .ok (tupI [a,b,d,e]):=by
 obtain⟨r0,f0,_⟩:=gQ (c:=c) (k:=7000+0) (b:=n+1) (by decide) (by decide) (by omega) (by omega);obtain⟨r1,f1,_⟩:=gQ (c:=c) (k:=7000+1) (b:=n+1) (by decide) (by decide) (by omega) (by omega);obtain⟨r2,f2,_⟩:=gQ (c:=c) (k:=7000+2) (b:=n+1) (by decide) (by decide) (by omega) (by omega);obtain⟨r3,f3,_⟩:=gQ (c:=c) (k:=7000+3) (b:=n+1) (by decide) (by decide) (by omega) (by omega);refine⟨r0,r1,r2,r3,?_⟩;have hr:iW [.int 4]= .ok [.int 0,.int 1,.int 2,.int 3]:=by
  rw[gM (by decide) (by decide)];rfl
 have hl:lcD (gW iW (aC (cD (.int 4)) aJ)) [none,some 2,some 3] (gnm 0) lN (aY ao (aC (aD 1) (aC (op2 cX (cD (.int 7000)) (aD 0)) (aC (op2 cX (op2 ixD (aD 2) (cD (.int 0))) (cD (.int 1))) aJ)))) (lE ns k c n ps s5 s6 s7 s8 s9 s10)= .ok (.lst [.int r0,.int r1,.int r2,.int r3]):=by
  refine yh (ds:=[.int 0,.int 1,.int 2,.int 3]) (by simp[shE,mq,hr]) (by simp) ?_;have hs:stE [none,some 2,some 3] (shE (lE ns k c n ps s5 s6 s7 s8 s9 s10))=[.no,.sh (.int c),.sh (owD n ps)]:=by simp[stE,shE,mq]
  rw[hs];simp only[Int.reduceAdd]at f0 f1 f2 f3;simp[lcL,owD,f0,f1,f2,f3]
 unfold w5;rw[aER,aAQ,hl];simp
def aIt{ns:List Int}{k:Int}(k0:0<=k){s2 s3 s4 s5 s6 s7 s8 s9 s10:Slot}:∃t2 t3 t4 t5 t6 t7 t8 t9 t10,lwK [.sh (.scr ns),.sh (.int k),s2,s3,s4,s5,s6,s7,s8,s9,s10]= .nx [.sh (.scr ns),.sh (.int k),t2,t3,t4,t5,t6,t7,t8,t9,t10]:=by
 obtain⟨c,e2⟩:=aHI (ns:=ns) k0;obtain⟨n,ps,e3,O,low,h8⟩:=aBJ (c:=c) (most:=8) (by decide);replace e3:iR [.int c,.int 8]= .ok (owD n ps):=e3;replace h8:n<=8:=h8;have h0:=O.n0;obtain⟨e4,hl⟩:=pU (ps:=ps) h0 h8;obtain⟨r1,f1,g1⟩:=gQ (c:=c) (k:=7100) (b:=((lfA n ps).length:Int)+1) (by decide) (by decide) (by omega) (by omega);obtain⟨r2,f2,g2⟩:=gQ (c:=c) (k:=7101) (b:=6) (by decide) (by decide) (by decide) (by decide);obtain⟨r3,f3,g3⟩:=gQ (c:=c) (k:=7200) (b:=40) (by decide) (by decide) (by decide) (by decide);obtain⟨a5,b5,c5,d5,e5⟩:=aKV (ns:=ns) (k:=k) (c:=c) (n:=n) (ps:=ps) (s5:=s5) (s6:=s6) (s7:=s7) (s8:=s8) (s9:=s9) (s10:=s10) h0 h8;obtain⟨h,eh,mh,_⟩:=aB6 (l:=(lfA n ps).map tupI++[tupI [a5,b5,c5,d5]]) (i:=(r1:Int)) (by omega) (by simp;omega);have hh:∃a b d e:Int,h= .tup [.int a,.int b,.int d,.int e]:=by
  rcases zAq.mp mh with z|z
  .obtain⟨x,hx,rfl⟩:=zBH.mp z
   obtain⟨a,b,d,e,rfl⟩:=zz hx;exact⟨a,b,d,e,rfl⟩
  .rw[zAu.mp z]
   exact⟨_,_,_,_,rfl⟩
 obtain⟨ha,hb,hc,hd,rfl⟩:=hh;obtain⟨od,eo,mo,_⟩:=aB6 (l:=[D.non,.bl true,.int n,.int (-1),.int ha,.str "0"]) (i:=(r2:Int)) (by omega) (by simp;omega);have pod:pln od=true:=by
  simp only[zAT,zBi,or_false]at mo;rcases mo with rfl|rfl|rfl|rfl|rfl|rfl<;>rfl
 have c2:iC 2 (aY cV (aC (aD 0) (aC (aD 1) aJ))) [.sh (.scr ns),.sh (.int k),s2,s3,s4,s5,s6,s7,s8,s9,s10]= .nx [.sh (.scr ns),.sh (.int k),.sh (.int c),s3,s4,s5,s6,s7,s8,s9,s10]:=by simp[e2]
 have c3:iC 3 (aY iR (aC (aD 2) (aC (cD (.int 8)) aJ))) [.sh (.scr ns),.sh (.int k),.sh (.int c),s3,s4,s5,s6,s7,s8,s9,s10]= .nx [.sh (.scr ns),.sh (.int k),.sh (.int c),.sh (owD n ps),s4,s5,s6,s7,s8,s9,s10]:=by simp[e3]
 have c4:iC 4 (aY gj (aC (aD 3) aJ)) [.sh (.scr ns),.sh (.int k),.sh (.int c),.sh (owD n ps),s4,s5,s6,s7,s8,s9,s10]= .nx (lE ns k c n ps s5 s6 s7 s8 s9 s10):=by simp[e4]
 have c5':=aIz (ns:=ns) (k:=k) (c:=c) O low h8 (s5:=s5) (s6:=s6) (s7:=s7) (s8:=s8) (s9:=s9) (s10:=s10);have c6:iC 5 w5 (lE ns k c n ps s5 s6 s7 s8 s9 s10)= .nx (lE ns k c n ps (.sh (tupI [a5,b5,c5,d5])) s6 s7 s8 s9 s10):=by
  show((w5 _).bo _)=_
  rw[e5,eF];rfl
 have hlen:((lfA n ps).length:Int)<4000:=by omega
 have c7:pC 6 w6 (lE ns k c n ps (.sh (tupI [a5,b5,c5,d5])) s6 s7 s8 s9 s10)= .nx (lE ns k c n ps (.sh (tupI [a5,b5,c5,d5])) (.nw (.tup [.int ha,.int hb,.int hc,.int hd])) s7 s8 s9 s10):=by
  have gi:vm (tupI [a5,b5,c5,d5])= .ok (tupI [a5,b5,c5,d5]):=rfl;have gh:vm (.tup [.int ha,.int hb,.int hc,.int hd])= .ok (.tup [.int ha,.int hb,.int hc,.int hd]):=rfl;have hz:(lfA n ps).length+1<=16777216:=by omega
  have eh':atD ((lfA n ps).map tupI++[.tup [.int a5,.int b5,.int c5,.int d5]]) (r1:Int)= .ok (.tup [.int ha,.int hb,.int hc,.int hd]):=eh;have gi':vm (.tup [.int a5,.int b5,.int c5,.int d5])= .ok (.tup [.int a5,.int b5,.int c5,.int d5]):=rfl;unfold w6;simp[gi,gh,f1,eh,hz]
 have c8:pC 7 w7 (lE ns k c n ps (.sh (tupI [a5,b5,c5,d5])) (.nw (.tup [.int ha,.int hb,.int hc,.int hd])) s7 s8 s9 s10)= .nx (lE ns k c n ps (.sh (tupI [a5,b5,c5,d5])) (.nw (.tup [.int ha,.int hb,.int hc,.int hd])) (.nw od) s8 s9 s10):=by
  have gi:vm (.int n)= .ok (.int n):=rfl;unfold w7;simp[owD,gi,f2,eo]
 obtain⟨th,hth⟩:∃th:List D,th=[.tup [.int ha,.int hb,.int hc,.int hd],tupI [a5,b5,c5,d5],.tup [.int hd,.int hc,.int hb,.int ha],.lst [.int ha,.int hb,.int hc,.int hd],.tup [.int ha,.int hb,.int hc],.tup [.int ha,.int hb,.int hc,.int hd,.int ha],.tup [.int ha,.int hb,.int hc,od],.tup [od,.int hb,.int hc,.int hd]]:=⟨_,rfl⟩
 have k1:cutD [D.int ha,.int hb,.int hc,.int hd] none (some 3)=[.int ha,.int hb,.int hc]:=rfl;have k2:cutD [D.int ha,.int hb,.int hc,.int hd] none (some 1)=[.int ha]:=rfl;have k3:cutD [D.int ha,.int hb,.int hc,.int hd] (some 1) none=[.int hb,.int hc,.int hd]:=rfl;have c9:pC 8 w8 (lE ns k c n ps (.sh (tupI [a5,b5,c5,d5])) (.nw (.tup [.int ha,.int hb,.int hc,.int hd])) (.nw od) s8 s9 s10)= .nx (lE ns k c n ps (.sh (tupI [a5,b5,c5,d5])) (.nw (.tup [.int ha,.int hb,.int hc,.int hd])) (.nw od) (.nw (.lst th)) s9 s10):=by
  have gi':vm (.tup [.int a5,.int b5,.int c5,.int d5])= .ok (.tup [.int a5,.int b5,.int c5,.int d5]):=rfl;rw[hth];unfold w8;have gi:vm (tupI [a5,b5,c5,d5])= .ok (tupI [a5,b5,c5,d5]):=rfl;simp[gi,k1,k2,k3]
 have c10:lTh (lE ns k c n ps (.sh (tupI [a5,b5,c5,d5])) (.nw (.tup [.int ha,.int hb,.int hc,.int hd])) (.nw od) (.nw (.lst th)) s9 s10)= .ok (th++[.non,.tup [],.tup [.int hb,.int hc,.int hd,.int ha],.dct [] []]):=by
  rw[hth];unfold lTh;simp[k2,k3]
 have hf:∀d∈th++[.non,.tup [],.tup [.int hb,.int hc,.int hd,.int ha],.dct [] []],Fs d:=by
  intro d hd;rw[hth]at hd;simp only[zEu,zBp,zAT,zBi,or_false]at hd;rcases hd with rfl|rfl|rfl|rfl|rfl|rfl|rfl|rfl|rfl|rfl|rfl|rfl<;>exact⟨by simp[pln,uQ,pod],by simp[aCZ]⟩
 obtain⟨ρ',ef,t9,t10,rfl⟩:=qC (a:=gnm 9) (u:=lT) (ds:=th++[.non,.tup [],.tup [.int hb,.int hc,.int hd,.int ha],.dct [] []]) (λ _ ρ=>∃t9 t10,ρ=lE ns k c n ps (.sh (tupI [a5,b5,c5,d5])) (.nw (.tup [.int ha,.int hb,.int hc,.int hd])) (.nw od) (.nw (.lst th)) t9 t10) (by
  rintro i d ρ hdd ⟨t9,t10,rfl⟩;obtain⟨u10,e⟩:=aKN (ns:=ns) (k:=k) (c:=c) O low (s5:=.sh (tupI [a5,b5,c5,d5])) (s6:=.nw (.tup [.int ha,.int hb,.int hc,.int hd])) (s7:=.nw od) (s8:=.nw (.lst th)) (s10:=t10) (hf d (zAw hdd));exact⟨_,by rw[fU,di];exact e,_,_,rfl⟩) (ρ:=lE ns k c n ps (.sh (tupI [a5,b5,c5,d5])) (.nw (.tup [.int ha,.int hb,.int hc,.int hd])) (.nw od) (.nw (.lst th)) s9 s10) ⟨_,_,rfl⟩
 have c11:dU lTh (gnm 9) lT (lE ns k c n ps (.sh (tupI [a5,b5,c5,d5])) (.nw (.tup [.int ha,.int hb,.int hc,.int hd])) (.nw od) (.nw (.lst th)) s9 s10)= .nx (lE ns k c n ps (.sh (tupI [a5,b5,c5,d5])) (.nw (.tup [.int ha,.int hb,.int hc,.int hd])) (.nw od) (.nw (.lst th)) t9 t10):=by
  rw[iG,c10,eF,ef]
 have hE1:eqR true (.str "many") (.str "many")= .ok (.bl false):=rfl;have hE2:eqR true (.str "web") (.str "web")= .ok (.bl false):=rfl;have c12:lI2 (lE ns k c n ps (.sh (tupI [a5,b5,c5,d5])) (.nw (.tup [.int ha,.int hb,.int hc,.int hd])) (.nw od) (.nw (.lst th)) t9 t10)= .nx (lE ns k c n ps (.sh (tupI [a5,b5,c5,d5])) (.nw (.tup [.int ha,.int hb,.int hc,.int hd])) (.nw od) (.nw (.lst th)) t9 t10):=by
  have hx:=aG4 (r:=r3) (by omega);have hr:v8 wdN "told" (aY bT (aC (eU (aC (op2 cX (cD (.int 21)) (aY ao (aC (aD 2) (aC (cD (.int 7200)) (aC (cD (.int 40)) aJ))))) (aC (eU aJ) aJ))) aJ)) (lE ns k c n ps (.sh (tupI [a5,b5,c5,d5])) (.nw (.tup [.int ha,.int hb,.int hc,.int hd])) (.nw od) (.nw (.lst th)) t9 t10)= .ok (.str "many"):=aAp (c:="TooMany") (by simp[shS,f3,hx]) (by kernel_rfl);unfold lI2;simp[hr,hE1]
 have c13:lI3 (lE ns k c n ps (.sh (tupI [a5,b5,c5,d5])) (.nw (.tup [.int ha,.int hb,.int hc,.int hd])) (.nw od) (.nw (.lst th)) t9 t10)= .nx (lE ns k c n ps (.sh (tupI [a5,b5,c5,d5])) (.nw (.tup [.int ha,.int hb,.int hc,.int hd])) (.nw od) (.nw (.lst th)) t9 t10):=by
  have hx:bT [.tup [.int 21,.lst []]]= .ex "NoWeb":=by kernel_rfl
  have hr:v8 wdN "told" (aY bT (aC (eU (aC (cD (.int 21)) (aC (jG aJ) aJ))) aJ)) (lE ns k c n ps (.sh (tupI [a5,b5,c5,d5])) (.nw (.tup [.int ha,.int hb,.int hc,.int hd])) (.nw od) (.nw (.lst th)) t9 t10)= .ok (.str "web"):=aAp (c:="NoWeb") (by simp[hx]) (by kernel_rfl);unfold lI3;simp[hr,hE2]
 have c14:lI4 (lE ns k c n ps (.sh (tupI [a5,b5,c5,d5])) (.nw (.tup [.int ha,.int hb,.int hc,.int hd])) (.nw od) (.nw (.lst th)) t9 t10)= .nx (lE ns k c n ps (.sh (tupI [a5,b5,c5,d5])) (.nw (.tup [.int ha,.int hb,.int hc,.int hd])) (.nw od) (.nw (.lst th)) t9 t10):=by
  have hx:=aG1 (.tup [.int ha,.int hb,.int hc,.int hd]);have hr:v8 wdN "told" (aY eO (aC (cD .non) (aC (aD 6) aJ))) (lE ns k c n ps (.sh (tupI [a5,b5,c5,d5])) (.nw (.tup [.int ha,.int hb,.int hc,.int hd])) (.nw od) (.nw (.lst th)) t9 t10)= .ok (.str "web"):=aAp (c:="NoWeb") (by simp[shS,hx]) (by kernel_rfl);unfold lI4;simp[hr,hE2]
 refine⟨.sh (.int c),.sh (owD n ps),.sh (.lst ((lfA n ps).map tupI)),.sh (tupI [a5,b5,c5,d5]),.nw (.tup [.int ha,.int hb,.int hc,.int hd]),.nw od,.nw (.lst th),t9,t10,?_⟩;unfold lwK;rw[aR,c2,bO,aR,c3,bO,aR,c4,bO,aR,c5',bO,aR,c6,bO,aR,c7,bO,aR,c8,bO,aR,c9,bO,aR,c11,bO,aR,c12,bO,aR,c13,bO,c14]
def aEa(ns:List Int)(hn:ns.length<=63):aF3 [.scr ns]= .ok (.bl true):=by
 have st:ak 11 [.scr ns]=[.sh (.scr ns),.no,.no,.no,.no,.no,.no,.no,.no,.no,.no]:=rfl;have hk:∃m:Int,(if (if (6:Int)<(ns.length:Int)then(6:Int)else(ns.length:Int))>1 then(if (6:Int)<(ns.length:Int)then(6:Int)else(ns.length:Int))else 1)=m/\0<=m/\m<=6:=⟨_,rfl,by split<;>split<;>omega,by split<;>split<;>omega⟩
 obtain⟨m,hm,m0,m1⟩:=hk;have hr:=gM (j:=m) (by omega) (by omega);obtain⟨ρ',e,t1,t2,t3,t4,t5,t6,t7,t8,t9,t10,rfl⟩:=qC (a:=gnm 1) (u:=lwK) (ds:=dh 0 m) (λ _ ρ=>∃t1 t2 t3 t4 t5 t6 t7 t8 t9 t10,ρ=[.sh (.scr ns),t1,t2,t3,t4,t5,t6,t7,t8,t9,t10]) (by
  rintro i d ρ hd ⟨t1,t2,t3,t4,t5,t6,t7,t8,t9,t10,rfl⟩;obtain⟨rfl,_⟩:=mH hd;obtain⟨u2,u3,u4,u5,u6,u7,u8,u9,u10,e⟩:=aIt (ns:=ns) (k:=0+(i:Int)) (by omega) (s2:=t2) (s3:=t3) (s4:=t4) (s5:=t5) (s6:=t6) (s7:=t7) (s8:=t8) (s9:=t9) (s10:=t10);exact⟨_,by rw[fU,di];exact e,_,_,_,_,_,_,_,_,_,_,rfl⟩) (ρ:=[.sh (.scr ns),.no,.no,.no,.no,.no,.no,.no,.no,.no,.no]) ⟨_,_,_,_,_,_,_,_,_,_,rfl⟩
 have c1:dU lwR (gnm 1) lwK [.sh (.scr ns),.no,.no,.no,.no,.no,.no,.no,.no,.no,.no]= .nx [.sh (.scr ns),t1,t2,t3,t4,t5,t6,t7,t8,t9,t10]:=by
  have hi:lwR [.sh (.scr ns),.no,.no,.no,.no,.no,.no,.no,.no,.no,.no]= .ok (dh 0 m):=by
   rw[<-hr,<-hm];rfl
  rw[iG,hi,eF,e]
 have w2:bT [.tup [.int 0,.tup []]]= .ok .non:=by kernel_rfl
 simp only[aF3,xO,bA,st];rw[aR,c1,bO];have hz:isD false .non .non= .ok (.bl true):=rfl;unfold lwZ;simp[w2,hz]
local macro_rules|`(tactic|walk_at "sc")=>`(tactic|exact⟨rfl,rfl,rfl,by decide+kernel,rfl,by decide+kernel,by decide+kernel⟩)
def top(i:Nat):Stmt:=PySem.Challenge.pw_fewways_k43_four_places.main.body.getD i (.Pass ⟨0,0,0,0⟩)
abbrev oK:Stmt:=top 16
abbrev qg:Stmt:=top 17
abbrev oM:Stmt:=top 18
abbrev qe:Stmt:=top 19
abbrev mD:Stmt:=top 20
abbrev dg:Stmt:=top 21
abbrev oN:Stmt:=top 22
abbrev uJ:Stmt:=top 23
abbrev mF:Stmt:=top 24
abbrev oO:Stmt:=top 25
abbrev ju:Stmt:=top 27
abbrev qi:Stmt:=top 30
abbrev gn:Stmt:=top 31
abbrev qj:Stmt:=top 32
abbrev jW:Stmt:=top 34
abbrev oH:Stmt:=top 35
abbrev qd:Stmt:=top 36
abbrev mC:Stmt:=top 37
abbrev jU:Stmt:=top 38
abbrev oJ:Stmt:=top 39
abbrev lz:Stmt:=top 40
abbrev jV:Stmt:=top 41
abbrev nM:Stmt:=top 42
def z8:aW ["thing"] ["thing"] (aF oK):=by walk_at "sc"
def aAf:aW ["thing"] ["thing"] (aF qg):=by walk_at "sc"
def z9:aW ["many","thing"] ["many","thing"] (aF oM):=by walk_at "sc"
def aAe:aW ["many","thing"] ["many","thing"] (aF qe):=by walk_at "sc"
def yI:aW ["things","at"] ["things"] (aF mD):=by walk_at "sc"
def nA:aW ["many","thing","pair"] ["many","thing"] (aF dg):=by walk_at "sc"
def za:aW ["many","thing"] ["many","thing"] (aF oN):=by walk_at "sc"
def aC2:aW ["thing"] ["thing"] (aF uJ):=by walk_at "sc"
def yJ:aW ["thing"] ["thing"] (aF mF):=by walk_at "sc"
def zb:aW ["web","many","ties","near","low","high"] ["web"] (aF oO):=by walk_at "sc"
def v6:aW ["near","thing","place","at"] ["near","thing"] (aF ju):=by walk_at "sc"
def aAg:aW ["web","thing","near","first","second","third","fourth"] ["web","thing"] (aF qi):=by walk_at "sc"
def qb:aW ["web"] ["web"] (aF gn):=by walk_at "sc"
def aAh:aW ["web","near","threes","fours"] ["web"] (aF qj):=by walk_at "sc"
def uI:aW ["_law_script","_law_k"] ["_law_script","_law_k"] (aF jW):=by walk_at "sc"
def z6:aW ["_law_cell","_law_k","_law_bound","_law_left","_law_j","_law_stir"] ["_law_cell","_law_k","_law_bound"] (aF oH):=by walk_at "sc"
def aAd:aW ["_law_cell","_law_most","_law_many","_law_thick","_law_ties","_law_one","_law_other"] ["_law_cell","_law_most"] (aF qd):=by walk_at "sc"
def yH:aW ["_law_error","_law_kinds","_law_words"] ["_law_error"] (aF mC):=by walk_at "sc"
def uG:aW ["_law_call","_law_word","_law_error"] ["_law_call"] (aF jU):=by walk_at "sc"
def z7:aW ["_law_web_here","_law_four","_law_ties","_law_k"] ["_law_web_here","_law_four"] (aF oJ):=by walk_at "sc"
def yG:aW ["_law_web_here","_law_found","_law_a","_law_b","_law_c","_law_rest"] ["_law_web_here"] (aF lz):=by walk_at "sc"
def uH:aW ["_law_web_here","_law_thing","_law_place"] ["_law_web_here","_law_thing"] (aF jV):=by walk_at "sc"
def aIH:aW ["_law_script","_law_k","_law_cell","_law_web_here","_law_fours_here","_law_drawn","_law_here","_law_odd","_law_things","_law_thing","_law_found"] ["_law_script"] (aF nM):=by walk_at "sc"
set_option genInjectivity false in
set_option genSizeOf false in
structure Adr where
 vH:Addr
 fW:zAt
 wu:Addr
 iQ:zAt
 vI:Addr
 fZ:zAt
 wj:Addr
 iM:zAt
 rn:Addr
 dD:zAt
 iu:Addr
 au:zAt
 vJ:Addr
 gA:zAt
 aAL:Addr
 jg:zAt
 sE:Addr
 dF:zAt
 vK:Addr
 gB:zAt
 qD:Addr
 bK:zAt
 ww:Addr
 fj:zAt
 lJ:Addr
 bW:zAt
 wy:Addr
 fu:zAt
 nT:Addr
 cG:zAt
 vD:Addr
 dC:zAt
 wg:Addr
 iK:zAt
 rm:Addr
 sJ:zAt
 nP:Addr
 nY:zAt
 vG:Addr
 fV:zAt
 rZ:Addr
 dw:zAt
 nQ:Addr
 cU:zAt
 aCL:Addr
 xO:zAt
 nG:Value
 lQ:Value
 gH:Addr
 km:Addr
 gD:Addr
 lA:Addr
 dG:Addr
 gC:Addr
 dm:Addr
 jA:Addr
 dj:Addr
 gF:Addr
 iz:Addr
 jB:Addr
 lB:Addr
def wdA(t:Adr):Addr->Option Str:=λ C=>(([t.km,t.gD,t.lA,t.dG,t.gC,t.dm,t.jA,t.dj,t.gF,t.iz,t.jB,t.lB]:List Addr).zip (["web","place","way","parting","many","forest","plan","one way","order","text","deed","row"]:List Str)).lookup C
structure Txt(K:zAA)(mg:Str->Option Value)(t:Adr):Prop where
 oW:Dnr K mg "is_whole" oK ["thing"] t.vH t.fW
 xH:Dnr K mg "is_many" qg ["thing"] t.wu t.iQ
 kZ:Dnr K mg "is_place" oM ["many","thing"] t.vI t.fZ
 xG:Dnr K mg "is_pair" qe ["many","thing"] t.wj t.iM
 sH:Dnr K mg "is_rising" mD ["things"] t.rn t.dD
 iy:Dnr K mg "are_rising_pairs" dg ["many","thing"] t.iu t.au
 vN:Dnr K mg "are_ties" oN ["many","thing"] t.vJ t.gA
 aAO:Dnr K mg "is_web" uJ ["thing"] t.aAL t.jg
 mU:Dnr K mg "check_web" mF ["thing"] t.sE t.dF
 oX:Dnr K mg "all_tied" oO ["web"] t.vK t.gB
 qH:Dnr K mg "goes_along" ju ["near","thing"] t.qD t.bK
 rC:Dnr K mg "is_four" qi ["web","thing"] t.ww t.fj
 lK:Dnr K mg "check_planned" gn ["web"] t.lJ t.bW
 jf:Dnr K mg "four_of" qj ["web"] t.wy t.fu
 nW:Dnr K mg "_law_cell_at" jW ["_law_script","_law_k"] t.nT t.cG
 dB:Dnr K mg "_law_draw" oH ["_law_cell","_law_k","_law_bound"] t.vD t.dC
 xF:Dnr K mg "_law_web" qd ["_law_cell","_law_most"] t.wg t.iK
 jQ:Dnr K mg "_law_class" mC ["_law_error"] t.rm t.sJ
 bH:Dnr K mg "_law_refused" jU ["_law_call"] t.nP t.nY
 oV:Dnr K mg "_law_bars" oJ ["_law_web_here","_law_four"] t.vG t.fV
 sG:Dnr K mg "_law_fours" lz ["_law_web_here"] t.rZ t.dw
 nU:Dnr K mg "_law_is_four" jV ["_law_web_here","_law_thing"] t.nQ t.cU
 aHe:Dnr K mg "law" nM ["_law_script"] t.aCL t.xO
 gO:mg "MOST_PLACES"=some t.nG
 v9:RelV (.int 60) t.nG
 fD:mg "MOST_PLANNED"=some t.lQ
 uN:RelV (.int 20) t.lQ
 ue:mg "FewError"=some (.ref t.gH)
 l_FewError:aZ mg "FewError"=t.gH
 iT:bQ K t.gH
 aCB:mg "NoWeb"=some (.ref t.km)
 aCE:aZ mg "NoWeb"=t.km
 o6:bQ K t.km
 aCe:mg "NoPlace"=some (.ref t.gD)
 aCj:aZ mg "NoPlace"=t.gD
 mV:bQ K t.gD
 aG5:mg "NoWay"=some (.ref t.lA)
 aGf:aZ mg "NoWay"=t.lA
 tD:bQ K t.lA
 zx:mg "NoParting"=some (.ref t.dG)
 aAF:aZ mg "NoParting"=t.dG
 jJ:bQ K t.dG
 wQ:mg "TooMany"=some (.ref t.gC)
 wR:aZ mg "TooMany"=t.gC
 jZ:bQ K t.gC
 aBE:mg "NoForest"=some (.ref t.dm)
 aBL:aZ mg "NoForest"=t.dm
 jq:bQ K t.dm
 aE4:mg "NoPlan"=some (.ref t.jA)
 aEe:aZ mg "NoPlan"=t.jA
 o8:bQ K t.jA
 aBD:mg "NoOneWay"=some (.ref t.dj)
 aBK:aZ mg "NoOneWay"=t.dj
 jo:bQ K t.dj
 aCf:mg "NoOrder"=some (.ref t.gF)
 aCk:aZ mg "NoOrder"=t.gF
 mW:bQ K t.gF
 aE3:mg "NoText"=some (.ref t.iz)
 aEd:aZ mg "NoText"=t.iz
 o7:bQ K t.iz
 aE5:mg "NoDeed"=some (.ref t.jB)
 aEf:aZ mg "NoDeed"=t.jB
 o9:bQ K t.jB
 aG6:mg "NoRow"=some (.ref t.lB)
 aGg:aZ mg "NoRow"=t.lB
 tE:bQ K t.lB
 yZ:mg "ValueError"=none
 aKK:mg "all"=none
 aBA:mg "bool"=none
 aH7:mg "int"=none
 aQ:mg "isinstance"=none
 ie:mg "len"=none
 aIs:mg "list"=none
 aH6:mg "max"=none
 aEX:mg "min"=none
 cO:mg "range"=none
 aEW:mg "set"=none
 aEV:mg "sorted"=none
 kJ:mg "tuple"=none
 cb:aB3 K t.gH [t.km,t.gD,t.lA,t.dG,t.gC,t.dm,t.jA,t.dj,t.gF,t.iz,t.jB,t.lB]=true
open PySem.Spec PyProof.Rows
section
variable{P:zAY}{w:World}{K:zAA}{mg:Str->Option Value}{base:Heap}{t:Adr}
def rN(T:Txt K mg t):cY P w K mg base (CX1 P w) 1 t.vH t.fW ["thing"] (spF K (aZ mg) 1 jF):=
 bR (k:=0) (f:=fW) T.oW z8 λ n _ _ _ _ _ _ _=>
  (aM (aj (jT (jR (aA 0) T.aQ T.aH7) (lq (aID (jR (aA 0) T.aQ T.aBA))))))
def yW(T:Txt K mg t):cY P w K mg base (CX1 P w) 1 t.rn t.dD ["things"] (spF K (aZ mg) 1 eG):=
 bR (k:=0) (f:=dD) T.sH yI λ n _ _ _ _ _ _ _=>
  (aK (dY (yC (aB aH (aB (gm T.ie (aB (aA 0) aG)) aG)) T.cO) (bI (ks:=[1]))
   (aM (cZ (fO (aDY (aN (aA 0) (aDc (aA 1) aH)) (aN (aA 0) (aA 1))))
    (aM (aj dq))
    bF)))
  (aM (aj dq)))
def rO(T:Txt K mg t):cY P w K mg base (CX1 P w) 1 t.vK t.gB ["web"] (spF K (aZ mg) 1 gJ):=
 bR (k:=0) (f:=gB) T.oX zb λ n _ _ _ _ _ _ _=>
  (aK (aD2 (aA 0) (uC (n:=2) (cI (bI (ks:=[1,2])) (cI (bI (ks:=[1,2])) pB))))
  (aK (aJp (N:=["place"]) (js:=[none]) (ks:=[0]) (dX (aB (aA 1) aG) T.cO) bx)
  (aK (dY (iV (aA 2)) (uC (n:=2) (cI (bI (ks:=[4,5])) (cI (bI (ks:=[4,5])) pB)))
   (aK (uA 3 (aA 4) (bj (aA 5)))
   (aM (uA 3 (aA 5) (bj (aA 4))))))
  (aM (aj (yE 3))))))
def uT(T:Txt K mg t):cY P w K mg base (CX1 P w) 1 t.nT t.cG ["_law_script","_law_k"] (spF K (aZ mg) 2 cV):=
 bR (k:=0) (f:=cG) T.nW uI λ n _ _ _ _ _ _ _=>
  (aK (cZ (aDY (aA 1) (gm T.ie (aB (aA 0) aG)))
   (aM (aj (bj (aN (aA 0) (aA 1)))))
   bF)
  (aM (aj aH)))
def cz(T:Txt K mg t):cY P w K mg base (CX1 P w) 1 t.vD t.dC ["_law_cell","_law_k","_law_bound"] (spF K (aZ mg) 3 ao):=
 bR (k:=0) (f:=dC) T.dB z6 λ n _ _ _ _ _ _ _=>
  (aK (cZ (aJo (aA 0) (aIC aH aH))
   (aK (dH (i:=3) (my (aA 0)))
   (aK (dY (dX (aB (aA 1) aG) T.cO) (bI (ks:=[4]))
    (aK (cZ (aDZ (aA 3) aH)
     (aM (aj aH))
     bF)
    (aM (dH (i:=3) (my (aBm (aA 3) (aA 2)))))))
   (aM (aj (q9 (aA 3) (aA 2))))))
   bF)
  (aK (dH (i:=5) (my (q9 (qZ (cL (cL (q9 (aA 0) aH) (qZ aH (aA 1))) aH) aH) aH)))
  (aK (dH (i:=5) (my (q9 (cL (cL (qZ (aA 5) (aA 5)) (qZ aH (aA 1))) aH) aH)))
  (aM (aj (q9 (aBm (q9 (qZ (aA 5) aH) aH) aH) (aA 2)))))))
def yV(T:Txt K mg t):FnH P w K mg base 1 t.rm t.sJ ["_law_error"] (spW (wdA t)):=
 aCs (c1:=.ref t.gH) (c2:=.ty "ValueError") (k1:=[.ref t.km,.ref t.gD,.ref t.lA]) (k2:=[.ref t.dG,.ref t.gC,.ref t.dm]) (k3:=[.ref t.jA,.ref t.dj,.ref t.gF]) (k4:=[.ref t.iz,.ref t.jB,.ref t.lB]) (l1:=["web","place","way","parting","many","forest","plan","one way"]) (l2:=["order","text","deed","row"]) T.jQ.F yH rfl rfl rfl rfl (λ cdv A outer s H=>⟨(fB rfl rfl rfl T.aQ (cg (v:=.ref t.gH) rfl T.ue rfl)),(fB rfl rfl rfl T.aQ (aBs (v:=.ty "ValueError") (u:=.type "ValueError") rfl T.yZ rfl rfl)),(aV (fB rfl rfl rfl T.aQ (cg (v:=.ref t.km) rfl T.aCB rfl)) (aV (fB rfl rfl rfl T.aQ (cg (v:=.ref t.gD) rfl T.aCe rfl)) (aV (fB rfl rfl rfl T.aQ (cg (v:=.ref t.lA) rfl T.aG5 rfl)) cu))),(aV (fB rfl rfl rfl T.aQ (cg (v:=.ref t.dG) rfl T.zx rfl)) (aV (fB rfl rfl rfl T.aQ (cg (v:=.ref t.gC) rfl T.wQ rfl)) (aV (fB rfl rfl rfl T.aQ (cg (v:=.ref t.dm) rfl T.aBE rfl)) cu))),(aV (fB rfl rfl rfl T.aQ (cg (v:=.ref t.jA) rfl T.aE4 rfl)) (aV (fB rfl rfl rfl T.aQ (cg (v:=.ref t.dj) rfl T.aBD rfl)) (aV (fB rfl rfl rfl T.aQ (cg (v:=.ref t.gF) rfl T.aCf rfl)) cu))),(aV (fB rfl rfl rfl T.aQ (cg (v:=.ref t.iz) rfl T.aE3 rfl)) (aV (fB rfl rfl rfl T.aQ (cg (v:=.ref t.jB) rfl T.aE5 rfl)) (aV (fB rfl rfl rfl T.aQ (cg (v:=.ref t.lB) rfl T.aG6 rfl)) cu))),(aV dN (aV dN (aV dN (aV dN (aV dN (aV dN (aV dN (aV dN cu)))))))),(aV dN (aV dN (aV dN (aV dN cu))))⟩) rfl rfl (by decide) λ C w h=>(aHS T.cb h).1
def rM(T:Txt K mg t):cY P w K mg base (CX1 P w) 1 t.vG t.fV ["_law_web_here","_law_four"] (spF K (aZ mg) 2 jE):=
 bR (k:=0) (f:=fV) T.oV z7 λ n _ _ _ _ _ _ _=>
  (aK (xg (i:=2) (aDX (aA8 aG)))
  (aK (dY (dX (aB aH aG) T.cO) (bI (ks:=[3]))
   (aM (wI 2 (aBk (N:=["_law_j","_law_k","_law_four","_law_web_here"]) (js:=[none,some 3,some 1,some 0]) (ks:=[0]) (dX (aB (aA 3) aG) T.cO) bx (uD (aJm (cJ (aB (aBi T.aEX (aB (aN (aA 2) (aA 0)) (aB (aN (aA 2) (aA 1)) aG))) (aB (aBj T.aH6 (aB (aN (aA 2) (aA 0)) (aB (aN (aA 2) (aA 1)) aG))) aG))) (aN (aA 3) aH))) (cJ (aB (bj (aA 0)) (aB (bj (aA 1)) aG)))))))
  (aM (aj (aHV (aIA 2) (lr (aB (cJ (aB aH (aB aH aG))) (aB (cJ (aB aH (aB aH aG))) (aB (cJ (aB aH (aB aH aG))) aG)))))))))
def aAy(T:Txt K mg t):cY P w K mg base (CX1 P w) 2 t.wu t.iQ ["thing"] (spF K (aZ mg) 1 mj):=
 bR (k:=1) (f:=iQ) T.xH aAf λ n _ _ _ _ _ _ _=>
  (aM (aj (jT (aq (rN T) T.oW (aB (aA 0) aG)) (lq (aFr aH (aA 0) (aBl T.gO T.v9 (λ _ _=>.int _)))))))
def mK(T:Txt K mg t):cY P w K mg base (CX1 P w) 2 t.vI t.fZ ["many","thing"] (spF K (aZ mg) 2 cQ):=
 bR (k:=1) (f:=fZ) T.kZ z9 λ n _ _ _ _ _ _ _=>
  (aM (aj (jT (aq (rN T) T.oW (aB (aA 1) aG)) (lq (aFq aH (aA 1) (aA 0))))))
def aAw(T:Txt K mg t):cY P w K mg base (CX1 P w) 2 t.wg t.iK ["_law_cell","_law_most"] (spF K (aZ mg) 2 iR):=
 bR (k:=1) (f:=iK) T.xF aAd λ n _ _ _ _ _ _ _=>
  (aK (dH (i:=2) (my (aq (cz T) T.dB (aB (aA 0) (aB aH (aB (cL (aA 1) aH) aG))))))
  (aK (dH (i:=3) (my (cL aH (aq (cz T) T.dB (aB (aA 0) (aB aH (aB aH aG)))))))
  (aK (xg (i:=4) (aDX (aA8 aG)))
  (aK (dY (dX (aB (aA 2) aG) T.cO) (bI (ks:=[5]))
   (aM (dY (yC (aB (cL (aA 5) aH) (aB (aA 2) aG)) T.cO) (bI (ks:=[6]))
    (aM (cZ (aDY (aq (cz T) T.dB (aB (aA 0) (aB (cL (cL aH (qZ aH (aA 5))) (aA 6)) (aB aH aG)))) (aA 3))
     (aM (aCY 4 (cJ (aB (bj (aA 5)) (aB (bj (aA 6)) aG)))))
     bF)))))
  (aM (aj (cJ (aB (bj (aA 2)) (aB (zX T.kJ (aB (yE 4) aG)) aG)))))))))
def yU(T:Txt K mg t):cY P w K mg base (CX1 P w) 2 t.rZ t.dw ["_law_web_here"] (spF K (aZ mg) 1 gj):=
 bR (k:=1) (f:=dw) T.sG yG λ n _ _ _ _ _ _ _=>
  (aK (xg (i:=1) (aDX (aA8 aG)))
  (aK (dY (dX (aB (aN (aA 0) aH) aG) T.cO) (bI (ks:=[2]))
   (aM (dY (dX (aB (aN (aA 0) aH) aG) T.cO) (bI (ks:=[3]))
    (aM (dY (dX (aB (aN (aA 0) aH) aG) T.cO) (bI (ks:=[4]))
     (aM (cZ (aDZ (yF T.ie (aB (aAa T.aEW (aB (lr (aB (aA 2) (aB (aA 3) (aB (aA 4) aG)))) aG)) aG)) aH)
      (aK (mX (i:=5) (aJj (N:=["_law_d","_law_a","_law_b","_law_c"]) (js:=[none,some 2,some 3,some 4]) (ks:=[0]) (dX (aB (aN (aA 0) aH) aG) T.cO) bx (uD (tZ (aA 0) (cJ (aB (aA 1) (aB (aA 2) (aB (aA 3) aG)))))) (bj (aA 0))))
      (aM (wI 1 (aBk (N:=["_law_d","_law_a","_law_b","_law_c","_law_web_here"]) (js:=[none,some 2,some 3,some 4,some 0]) (ks:=[0]) (iV (aA 5)) bx (uD (fM (aq (rM T) T.oV (aB (aA 4) (aB (cJ (aB (aA 1) (aB (aA 2) (aB (aA 3) (aB (aA 0) aG))))) aG))))) (cJ (aB (bj (aA 1)) (aB (bj (aA 2)) (aB (bj (aA 3)) (aB (bj (aA 0)) aG)))))))))
      bF)))))))
  (aM (aj (yE 1)))))
def uR(T:Txt K mg t):cY P w K mg base (CX1 P w) 2 t.nQ t.cU ["_law_web_here","_law_thing"] (spF K (aZ mg) 2 gU):=
 bR (k:=1) (f:=cU) T.nU uH λ n _ _ _ _ _ _ _=>
  (aK (cZ (SW.st (rJ (fO (fM (jR (aA 1) T.aQ T.kJ))) (oE (nJ (gm T.ie (aB (aA 1) aG)) aH))))
   (aM (aj dq))
   bF)
  (aK (dY (iV (aA 1)) (bI (ks:=[2]))
   (aM (cZ (SW.st (rJ (fO (fM (jR (aA 2) T.aQ T.aH7))) (rJ (fM (jR (aA 2) T.aQ T.aBA)) (oE (fO (aFk aH (aA 2) (aN (aA 0) aH)))))))
    (aM (aj dq))
    bF)))
  (aM (aj (jT (aHV (yF T.ie (aB (aAa T.aEW (aB (aA 1) aG)) aG)) aH) (lq (aq (rM T) T.oV (aB (aA 0) (aB (aA 1) aG)))))))))
def aAx(T:Txt K mg t):cY P w K mg base (CX1 P w) 3 t.wj t.iM ["many","thing"] (spF K (aZ mg) 2 jm):=
 bR (k:=2) (f:=iM) T.xG aAe λ n _ _ _ _ _ _ _=>
  (aK (cZ (SW.st (rJ (fO (fM (jR (aA 1) T.aQ T.kJ))) (oE (nJ (gm T.ie (aB (aA 1) aG)) aH))))
   (aM (aj dq))
   bF)
  (aM (aj (jT (aq (mK T) T.kZ (aB (aA 0) (aB (aN (aA 1) aH) aG))) (jT (aq (mK T) T.kZ (aB (aA 0) (aB (aN (aA 1) aH) aG))) (lq (aJs (aN (aA 1) aH) (aN (aA 1) aH))))))))
def vd(T:Txt K mg t):cY P w K mg base (CX1 P w) 3 t.qD t.bK ["near","thing"] (spF K (aZ mg) 2 bf):=
 bR (k:=2) (f:=bK) T.qH v6 λ n _ _ _ _ _ _ _=>
  (aK (cZ (SW.st (rJ (fO (fM (jR (aA 1) T.aQ T.kJ))) (oE (aDZ (gm T.ie (aB (aA 1) aG)) aH))))
   (aM (aj dq))
   bF)
  (aK (dY (iV (aA 1)) (bI (ks:=[2]))
   (aM (cZ (fO (fM (aq (mK T) T.kZ (aB (gm T.ie (aB (aA 0) aG)) (aB (aA 2) aG)))))
    (aM (aj dq))
    bF)))
  (aK (cZ (nJ (yF T.ie (aB (aAa T.aEW (aB (aA 1) aG)) aG)) (gm T.ie (aB (aA 1) aG)))
   (aM (aj dq))
   bF)
  (aK (dY (yC (aB aH (aB (gm T.ie (aB (aA 1) aG)) aG)) T.cO) (bI (ks:=[3]))
   (aM (cZ (tZ (aN (aA 1) (aA 3)) (aN (aA 0) (aN (aA 1) (aDc (aA 3) aH))))
    (aM (aj dq))
    bF)))
  (aM (aj dq))))))
def nC(T:Txt K mg t):cY P w K mg base (CX1 P w) 4 t.iu t.au ["many","thing"] (spF K (aZ mg) 2 bD):=
 bR (k:=3) (f:=au) T.iy nA λ n _ _ _ _ _ _ _=>
  (aK (cZ (fO (fM (jR (aA 1) T.aQ T.kJ)))
   (aM (aj dq))
   bF)
  (aK (dY (iV (aA 1)) (bI (ks:=[2]))
   (aM (cZ (fO (fM (aq (aAx T) T.xG (aB (aA 0) (aB (aA 2) aG)))))
    (aM (aj dq))
    bF)))
  (aM (aj (aq (yW T) T.sH (aB (aA 1) aG))))))
def zq(T:Txt K mg t):cY P w K mg base (CX1 P w) 5 t.vJ t.gA ["many","thing"] (spF K (aZ mg) 2 lF):=
 bR (k:=4) (f:=gA) T.vN za λ n _ _ _ _ _ _ _=>
  (aM (aj (jT (aq (nC T) T.iy (aB (aA 0) (aB (aA 1) aG))) (lq (aIF T.aKK (aB (aBk (N:=["low","high"]) (js:=[none,none]) (ks:=[0,1]) (iV (aA 1)) (uC (n:=2) (cI bx (cI bx pB))) qX (aJt (aA 0) (aA 1))) aG))))))
def aC9(T:Txt K mg t):cY P w K mg base (CX1 P w) 6 t.aAL t.jg ["thing"] (spF K (aZ mg) 1 qQ):=
 bR (k:=5) (f:=jg) T.aAO aC2 λ n _ _ _ _ _ _ _=>
  (aK (cZ (SW.st (rJ (fO (fM (jR (aA 0) T.aQ T.kJ))) (oE (nJ (gm T.ie (aB (aA 0) aG)) aH))))
   (aM (aj dq))
   bF)
  (aM (aj (jT (aq (aAy T) T.xH (aB (aN (aA 0) aH) aG)) (lq (aq (zq T) T.vN (aB (aN (aA 0) aH) (aB (aN (aA 0) aH) aG))))))))
def pN(T:Txt K mg t):cY P w K mg base (CX1 P w) 7 t.sE t.dF ["thing"] (spF K (aZ mg) 1 cB):=
 bR (k:=6) (f:=dF) T.mU yJ λ n _ _ _ _ _ _ _=>
  (aM (cZ (fO (fM (aq (aC9 T) T.aAO (aB (aA 0) aG))))
   (aM (zQ rfl T.aCB T.aCE T.o6 (aB qY aG)))
   bF))
def uU(T:Txt K mg t):cY P w K mg base (CX1 P w) 8 t.ww t.fj ["web","thing"] (spF K (aZ mg) 2 eO):=
 bR (k:=7) (f:=fj) T.rC aAg λ n _ _ _ _ _ _ _=>
  (aK (xm (aq (pN T) T.mU (aB (aA 0) aG)))
  (aK (dH (i:=2) (my (aq (rO T) T.oX (aB (aA 0) aG))))
  (aK (cZ (SW.st (rJ (fO (fM (aq (vd T) T.qH (aB (aA 2) (aB (aA 1) aG))))) (oE (nJ (gm T.ie (aB (aA 1) aG)) aH))))
   (aM (aj dq))
   bF)
  (aK (aD2 (aA 1) (uC (n:=4) (cI (bI (ks:=[3,4,5,6])) (cI (bI (ks:=[3,4,5,6])) (cI (bI (ks:=[3,4,5,6])) (cI (bI (ks:=[3,4,5,6])) pB))))))
  (aM (aj (jT (aAc (aA 5) (aN (aA 2) (aA 3))) (jT (aAc (aA 6) (aN (aA 2) (aA 3))) (lq (aAc (aA 6) (aN (aA 2) (aA 4))))))))))))
def qp(T:Txt K mg t):cY P w K mg base (CX1 P w) 8 t.lJ t.bW ["web"] (spF K (aZ mg) 1 bY):=
 bR (k:=7) (f:=bW) T.lK qb λ n _ _ _ _ _ _ _=>
  (aK (xm (aq (pN T) T.mU (aB (aA 0) aG)))
  (aM (cZ (aJn (aN (aA 0) aH) (aBl T.fD T.uN (λ _ _=>.int _)))
   (aM (zQ rfl T.wQ T.wR T.jZ (aB qY aG)))
   bF)))
def kE(T:Txt K mg t):cY P w K mg base (CX1 P w) 9 t.wy t.fu ["web"] (spF K (aZ mg) 1 bT):=
 bR (k:=8) (f:=fu) T.jf aAh λ n _ _ _ _ _ _ _=>
  (aK (xm (aq (qp T) T.lK (aB (aA 0) aG)))
  (aK (dH (i:=1) (my (aq (rO T) T.oX (aB (aA 0) aG))))
  (aK (mX (i:=2) (aJk (N:=["first","second","third","near"]) (js:=[none,none,none,some 1]) (ks:=[0]) (ks2:=[1]) (ks3:=[2]) (dX (aB (aN (aA 0) aH) aG) T.cO) bx qX (iV (aN (aA 3) (aA 0))) bx qX (iV (aN (aA 3) (aA 1))) bx (uD (tZ (aA 2) (aN (aA 3) (aA 0)))) (cJ (aB (bj (aA 0)) (aB (bj (aA 1)) (aB (bj (aA 2)) aG))))))
  (aK (mX (i:=3) (aJl (N:=["first","second","third","fourth","near"]) (js:=[none,none,none,none,some 1]) (ks:=[0,1,2]) (ks2:=[3]) (iV (aA 2)) (uC (n:=3) (cI bx (cI bx (cI bx pB)))) qX (iV (aN (aA 4) (aA 2))) bx (uD (SW.st (aHw (tZ (aA 3) (aN (aA 4) (aA 0))) (aFj (tZ (aA 3) (aN (aA 4) (aA 1))))))) (cJ (aB (bj (aA 0)) (aB (bj (aA 1)) (aB (bj (aA 2)) (aB (bj (aA 3)) aG)))))))
  (aM (aj (aDd T.aEX (aB (cN 3) aG))))))))
def iZ(T:Txt K mg t):cY P w K mg base (CX1 P w) 11 t.nP t.nY ["_law_call"] (spR P w K mg base 10 "told" (wdA t)):=
 aAm T.bH.F uG rfl rfl rfl rfl rfl rfl T.ue T.iT (yV T) T.jQ.m T.jQ.F.kp T.jQ.b (by decide) λ C w h=>(aHS T.cb h).2
def aDI(T:Txt K mg t):∀c w,wdN c=some w->wdA t (aZ mg c)=some w:=aJ8 (ns:=["NoWeb","NoPlace","NoWay","NoParting","TooMany","NoForest","NoPlan","NoOneWay","NoOrder","NoText","NoDeed","NoRow"]) T.cb (by simp only[zHO,T.aCE,T.aCj,T.aGf,T.aAF,T.wR,T.aBL,T.aEe,T.aBK,T.aCk,T.aEd,T.aEf,T.aGg])
def aKW(T:Txt K mg t){c Pt:Addr}{s:zAD}{H:Hp}(hr:dM 11 (zCb.deeper (zCq "law" (aF nM) s.heap.objs.size t.aCL (.ref c))))(Lx:sV (cxW P w K mg base ["_law_script","_law_k","_law_cell","_law_web_here","_law_fours_here","_law_drawn","_law_here","_law_odd","_law_things","_law_thing","_law_found"] "law" (aF nM) t.aCL (.ref c) zCb s H Pt) Pt)(n:List.Nodup (["_law_script","_law_k","_law_cell","_law_web_here","_law_fours_here","_law_drawn","_law_here","_law_odd","_law_things","_law_thing","_law_found"]:List Str)):
  SSs (ctW P w K mg base ["_law_script","_law_k","_law_cell","_law_web_here","_law_fours_here","_law_drawn","_law_here","_law_odd","_law_things","_law_thing","_law_found"] "law" (aF nM) t.aCL (.ref c) zCb s H Pt 11 hr) (cH nM) xO:=
  (aK (dY (dX (aB (aBj T.aH6 (aB aH (aB (aBi T.aEX (aB (gm T.ie (aB (aA 0) aG)) (aB aH aG))) aG))) aG) T.cO) (bI (ks:=[1]))
   (aK (dH (i:=2) (my (aq (uT T) T.nW (aB (aA 0) (aB (aA 1) aG)))))
   (aK (dH (i:=3) (my (aq (aAw T) T.xF (aB (aA 2) (aB aH aG)))))
   (aK (dH (i:=4) (my (aq (yU T) T.sG (aB (aA 3) aG))))
   (aK (cZ (nJ (aq (kE T) T.jf (aB (aA 3) aG)) (aN (cL (aA9 T.aEV (aB (aA 4) aG)) (lr (aB uE aG))) aH))
    (aM (aj dq))
    bF)
   (aK (dH (i:=5) (my (zX T.kJ (aB (aBk (N:=["_law_turn","_law_cell","_law_web_here"]) (js:=[none,some 2,some 3]) (ks:=[0]) (dX (aB aH aG) T.cO) bx qX (aq (cz T) T.dB (aB (aA 1) (aB (cL aH (aA 0)) (aB (cL (aN (aA 2) aH) aH) aG))))) aG))))
   (aK (mX (i:=6) (my (bj (aN (cL (aA 4) (lr (aB (aA 5) aG))) (aq (cz T) T.dB (aB (aA 2) (aB aH (aB (cL (gm T.ie (aB (aA 4) aG)) aH) aG))))))))
   (aK (mX (i:=7) (my (aN (lr (aB uE (aB dq (aB (bj (aN (aA 3) aH)) (aB (aIE aH) (aB (aN (cN 6) aH) (aB qY aG))))))) (aq (cz T) T.dB (aB (aA 2) (aB aH (aB aH aG)))))))
   (aK (mX (i:=8) (my (lr (aB (cN 6) (aB (bj (aA 5)) (aB (aIB (cN 6)) (aB (aFp T.aIs (aB (cN 6) aG)) (aB (j8 (cN 6) mZ (mY aH)) (aB (cL (cN 6) (j8 (cN 6) mZ (mY aH))) (aB (cL (j8 (cN 6) mZ (mY aH)) (cJ (aB (cN 7) aG))) (aB (cL (cJ (aB (cN 7) aG)) (j8 (cN 6) (mY aH) mZ)) aG)))))))))))
   (aK (dY (iV (cL (cN 8) (lr (aB uE (aB (cJ aG) (aB (cL (j8 (cN 6) (mY aH) mZ) (j8 (cN 6) mZ (mY aH))) (aB aFs aG))))))) (bI (ks:=[9]))
    (aK (dH (i:=10) (my (aq (uU T) T.rC (aB (aA 3) (aB (aA 9) aG)))))
    (aM (cZ (SW.st (rJ (fO (fM (jR (aA 10) T.aQ T.aBA))) (oE (nJ (aA 10) (aq (uR T) T.nU (aB (aA 3) (aB (aA 9) aG)))))))
     (aM (aj dq))
     bF))))
   (aK (cZ (nJ (aAb (k:=11) (k0:=10) (kb:=9) (wn:=wdN) (wd:=wdA t) (λ _=>iZ T) (zDS rfl) T.bH.m T.bH.F.kp T.bH.b (λ _=>⟨⟨_,Lx⟩,rfl,rfl,rfl⟩) ⟨rfl,rfl,rfl,by decide+kernel,by decide+kernel⟩ rfl (aDI T) (by decide) (λ _ _ _ _ _ _ _ _ _ _=>(aq (kE T) T.jf (aB (cJ (aB (cL aH (aq (cz T) T.dB (aB (aA 2) (aB aH (aB aH aG))))) (aB (cJ aG) aG))) aG))) (hfree:=λ _=>uw (sc:=aF nM) (by decide+kernel))) qY)
    (aM (aj dq))
    bF)
   (aK (cZ (nJ (aAb (k:=11) (k0:=10) (kb:=9) (wn:=wdN) (wd:=wdA t) (λ _=>iZ T) (zDS rfl) T.bH.m T.bH.F.kp T.bH.b (λ _=>⟨⟨_,Lx⟩,rfl,rfl,rfl⟩) ⟨rfl,rfl,rfl,by decide+kernel,by decide+kernel⟩ rfl (aDI T) (by decide) (λ _ _ _ _ _ _ _ _ _ _=>(aq (kE T) T.jf (aB (cJ (aB aH (aB (lr aG) aG))) aG))) (hfree:=λ _=>uw (sc:=aF nM) (by decide+kernel))) qY)
    (aM (aj dq))
    bF)
   (aM (cZ (nJ (aAb (k:=11) (k0:=10) (kb:=9) (wn:=wdN) (wd:=wdA t) (λ _=>iZ T) (zDS rfl) T.bH.m T.bH.F.kp T.bH.b (λ _=>⟨⟨_,Lx⟩,rfl,rfl,rfl⟩) ⟨rfl,rfl,rfl,by decide+kernel,by decide+kernel⟩ rfl (aDI T) (by decide) (λ _ _ _ _ _ _ _ _ _ _=>(aq (uU T) T.rC (aB uE (aB (aA 6) aG)))) (hfree:=λ _=>uw (sc:=aF nM) (by decide+kernel))) qY)
    (aM (aj dq))
    bF))))))))))))))
  (aM (aj (aJu (aq (kE T) T.jf (aB (cJ (aB aH (aB (cJ aG) aG))) aG)) uE))))
end
def aHm{K:zAA}{h:Heap}{mg:Str->Option Value}{tk_MOST_PLACES:Tok}{tk_MOST_PLANNED:Tok}{q_FewError:Addr}{q_NoWeb:Addr}{q_NoPlace:Addr}{q_NoWay:Addr}{q_NoParting:Addr}{q_TooMany:Addr}{q_NoForest:Addr}{q_NoPlan:Addr}{q_NoOneWay:Addr}{q_NoOrder:Addr}{q_NoText:Addr}{q_NoDeed:Addr}{q_NoRow:Addr}(X:K.In h)(G:h.Ns zA5 mg)
  (h0:∃f d,Enr K "is_whole" oK f d)
  (h1:∃f d,Enr K "is_many" qg f d)
  (h2:∃f d,Enr K "is_place" oM f d)
  (h3:∃f d,Enr K "is_pair" qe f d)
  (h4:∃f d,Enr K "is_rising" mD f d)
  (h5:∃f d,Enr K "are_rising_pairs" dg f d)
  (h6:∃f d,Enr K "are_ties" oN f d)
  (h7:∃f d,Enr K "is_web" uJ f d)
  (h8:∃f d,Enr K "check_web" mF f d)
  (h9:∃f d,Enr K "all_tied" oO f d)
  (h10:∃f d,Enr K "goes_along" ju f d)
  (h11:∃f d,Enr K "is_four" qi f d)
  (h12:∃f d,Enr K "check_planned" gn f d)
  (h13:∃f d,Enr K "four_of" qj f d)
  (h14:∃f d,Enr K "_law_cell_at" jW f d)
  (h15:∃f d,Enr K "_law_draw" oH f d)
  (h16:∃f d,Enr K "_law_web" qd f d)
  (h17:∃f d,Enr K "_law_class" mC f d)
  (h18:∃f d,Enr K "_law_refused" jU f d)
  (h19:∃f d,Enr K "_law_bars" oJ f d)
  (h20:∃f d,Enr K "_law_fours" lz f d)
  (h21:∃f d,Enr K "_law_is_four" jV f d)
  (h22:∃f d,Enr K "law" nM f d)
  (gO:zAg K zA5 "MOST_PLACES"=some (some (.int 60 tk_MOST_PLACES)))
  (fD:zAg K zA5 "MOST_PLANNED"=some (some (.int 20 tk_MOST_PLANNED)))
  (y_FewError:zAg K zA5 "FewError"=some (some (.ref q_FewError)))
  (iT:bQ K q_FewError)
  (y_NoWeb:zAg K zA5 "NoWeb"=some (some (.ref q_NoWeb)))
  (o6:bQ K q_NoWeb)
  (y_NoPlace:zAg K zA5 "NoPlace"=some (some (.ref q_NoPlace)))
  (mV:bQ K q_NoPlace)
  (y_NoWay:zAg K zA5 "NoWay"=some (some (.ref q_NoWay)))
  (tD:bQ K q_NoWay)
  (y_NoParting:zAg K zA5 "NoParting"=some (some (.ref q_NoParting)))
  (jJ:bQ K q_NoParting)
  (y_TooMany:zAg K zA5 "TooMany"=some (some (.ref q_TooMany)))
  (jZ:bQ K q_TooMany)
  (y_NoForest:zAg K zA5 "NoForest"=some (some (.ref q_NoForest)))
  (jq:bQ K q_NoForest)
  (y_NoPlan:zAg K zA5 "NoPlan"=some (some (.ref q_NoPlan)))
  (o8:bQ K q_NoPlan)
  (y_NoOneWay:zAg K zA5 "NoOneWay"=some (some (.ref q_NoOneWay)))
  (jo:bQ K q_NoOneWay)
  (y_NoOrder:zAg K zA5 "NoOrder"=some (some (.ref q_NoOrder)))
  (mW:bQ K q_NoOrder)
  (y_NoText:zAg K zA5 "NoText"=some (some (.ref q_NoText)))
  (o7:bQ K q_NoText)
  (y_NoDeed:zAg K zA5 "NoDeed"=some (some (.ref q_NoDeed)))
  (o9:bQ K q_NoDeed)
  (y_NoRow:zAg K zA5 "NoRow"=some (some (.ref q_NoRow)))
  (tE:bQ K q_NoRow)
  (cb:L2.aB3 K q_FewError [q_NoWeb,q_NoPlace,q_NoWay,q_NoParting,q_TooMany,q_NoForest,q_NoPlan,q_NoOneWay,q_NoOrder,q_NoText,q_NoDeed,q_NoRow]=true)
  (z_ValueError:zAg K zA5 "ValueError"=some none)
  (z_all:zAg K zA5 "all"=some none)
  (z_bool:zAg K zA5 "bool"=some none)
  (z_int:zAg K zA5 "int"=some none)
  (z_isinstance:zAg K zA5 "isinstance"=some none)
  (z_len:zAg K zA5 "len"=some none)
  (z_list:zAg K zA5 "list"=some none)
  (z_max:zAg K zA5 "max"=some none)
  (z_min:zAg K zA5 "min"=some none)
  (z_range:zAg K zA5 "range"=some none)
  (z_set:zAg K zA5 "set"=some none)
  (z_sorted:zAg K zA5 "sorted"=some none)
  (z_tuple:zAg K zA5 "tuple"=some none):
  ∃t,Txt K mg t:=by
 obtain⟨f0,d0,F0,a0⟩:=dnr X G h0 ["thing"];obtain⟨f1,d1,F1,a1⟩:=dnr X G h1 ["thing"];obtain⟨f2,d2,F2,a2⟩:=dnr X G h2 ["many","thing"];obtain⟨f3,d3,F3,a3⟩:=dnr X G h3 ["many","thing"];obtain⟨f4,d4,F4,a4⟩:=dnr X G h4 ["things"];obtain⟨f5,d5,F5,a5⟩:=dnr X G h5 ["many","thing"];obtain⟨f6,d6,F6,a6⟩:=dnr X G h6 ["many","thing"];obtain⟨f7,d7,F7,a7⟩:=dnr X G h7 ["thing"];obtain⟨f8,d8,F8,a8⟩:=dnr X G h8 ["thing"];obtain⟨f9,d9,F9,a9⟩:=dnr X G h9 ["web"];obtain⟨f10,d10,F10,a10⟩:=dnr X G h10 ["near","thing"];obtain⟨f11,d11,F11,a11⟩:=dnr X G h11 ["web","thing"];obtain⟨f12,d12,F12,a12⟩:=dnr X G h12 ["web"];obtain⟨f13,d13,F13,a13⟩:=dnr X G h13 ["web"];obtain⟨f14,d14,F14,a14⟩:=dnr X G h14 ["_law_script","_law_k"];obtain⟨f15,d15,F15,a15⟩:=dnr X G h15 ["_law_cell","_law_k","_law_bound"];obtain⟨f16,d16,F16,a16⟩:=dnr X G h16 ["_law_cell","_law_most"];obtain⟨f17,d17,F17,a17⟩:=dnr X G h17 ["_law_error"];obtain⟨f18,d18,F18,a18⟩:=dnr X G h18 ["_law_call"];obtain⟨f19,d19,F19,a19⟩:=dnr X G h19 ["_law_web_here","_law_four"];obtain⟨f20,d20,F20,a20⟩:=dnr X G h20 ["_law_web_here"];obtain⟨f21,d21,F21,a21⟩:=dnr X G h21 ["_law_web_here","_law_thing"];obtain⟨f22,d22,F22,a22⟩:=dnr X G h22 ["_law_script"]
 exact⟨⟨f0,_,f1,_,f2,_,f3,_,f4,_,f5,_,f6,_,f7,_,f8,_,f9,_,f10,_,f11,_,f12,_,f13,_,f14,_,f15,_,f16,_,f17,_,f18,_,f19,_,f20,_,f21,_,f22,_,_,_,q_FewError,q_NoWeb,q_NoPlace,q_NoWay,q_NoParting,q_TooMany,q_NoForest,q_NoPlan,q_NoOneWay,q_NoOrder,q_NoText,q_NoDeed,q_NoRow⟩,⟨F0,F1,F2,F3,F4,F5,F6,F7,F8,F9,F10,F11,F12,F13,F14,F15,F16,F17,F18,F19,F20,F21,F22,zAf X G gO,⟨_,rfl⟩,zAf X G fD,⟨_,rfl⟩,zAf X G y_FewError,(by unfold aZ;rw[zAf X G y_FewError]),iT,zAf X G y_NoWeb,(by unfold aZ;rw[zAf X G y_NoWeb]),o6,zAf X G y_NoPlace,(by unfold aZ;rw[zAf X G y_NoPlace]),mV,zAf X G y_NoWay,(by unfold aZ;rw[zAf X G y_NoWay]),tD,zAf X G y_NoParting,(by unfold aZ;rw[zAf X G y_NoParting]),jJ,zAf X G y_TooMany,(by unfold aZ;rw[zAf X G y_TooMany]),jZ,zAf X G y_NoForest,(by unfold aZ;rw[zAf X G y_NoForest]),jq,zAf X G y_NoPlan,(by unfold aZ;rw[zAf X G y_NoPlan]),o8,zAf X G y_NoOneWay,(by unfold aZ;rw[zAf X G y_NoOneWay]),jo,zAf X G y_NoOrder,(by unfold aZ;rw[zAf X G y_NoOrder]),mW,zAf X G y_NoText,(by unfold aZ;rw[zAf X G y_NoText]),o7,zAf X G y_NoDeed,(by unfold aZ;rw[zAf X G y_NoDeed]),o9,zAf X G y_NoRow,(by unfold aZ;rw[zAf X G y_NoRow]),tE,zBD X G z_ValueError,zBD X G z_all,zBD X G z_bool,zBD X G z_int,zBD X G z_isinstance,zBD X G z_len,zBD X G z_list,zBD X G z_max,zBD X G z_min,zBD X G z_range,zBD X G z_set,zBD X G z_sorted,zBD X G z_tuple,cb⟩⟩
def aJ5{l:zEq}{w:World}{K:zAA}{h:Heap}{mg:Str->Option Value}{fa Pt:Addr}(X:K.In h)(G:h.Ns zA5 mg)(hfa:mg "law"=some (.ref fa))(hB:yj K "law" Pt=true)(ht:∃t,Txt K mg t):L2.aCV l.prog w K mg fa Pt 11 63:=by
 obtain⟨t,T⟩:=ht;have e:=hfa.symm.trans T.aHe.m;cases e;exact aGe (f:=xO) (F:=aF3) X G hB T.aHe aIH (λ _ _ _ _ _ _ _ _=>.of_eq rfl) (λ base c s H hr Lx nd=>aKW T hr Lx nd) rfl aEa
def walk{l:zEq}{q:zAY}{loose:List Str}{XP:(Str->Option Value)->Heap->Prop}{YP:World->Heap->Prop}{d:DefRec}{K:Params->zAA}{Pt:Addr}(hn:l.most=some 63)(hdf:d.params.defaults=[])
  (hY:∀(w:World) (h:Heap),YP w h->(K w.params).In h/\h.get? Pt=some (zCU #[]))
  (F:∀(w:World) (mg:Str->Option Value) (fa:Addr) (h:Heap),(K w.params).In h->h.Ns zA5 mg->mg d.name=some (.ref fa)->L2.aCV l.prog w (K w.params) mg fa Pt 11 63):
  zGs q loose XP YP l.row.toRowW d [] (λ f vs=>zG1 f vs):=
 L2.aDJ hn (by decide) hdf ⟨rfl,by decide,by decide⟩ hY F
end VL.My
open PySem PySem.W PyProof.Rows
set_option maxRecDepth 100000 in
set_option maxHeartbeats 0 in
theorem PySem.Challenge.cw_fewways_k43_four_places_holds : PySem.Challenge.rw_fewways_k43_four_places.Holds := by
 w_on; o_law; k_head; (case hw=>w_witness2)
 k_fill
 refine VL.My.walk (l:=PySem.Challenge.rw_fewways_k43_four_places) rfl rfl (fun w h Y=>⟨PySem.W.km_in_of Y,PySem.W.km_tabs_of Y _ zAN⟩) ?F
 case F =>
  intro w mg fa h KX G hmg
  refine VL.My.aJ5 KX G hmg ?B ?T
  (case B=>kernel_rfl)
  case T =>
   refine' VL.My.aHm KX G (VL.enr ?a0 ?l0 ?c0 ?k0) (VL.enr ?a1 ?l1 ?c1 ?k1) (VL.enr ?a2 ?l2 ?c2 ?k2) (VL.enr ?a3 ?l3 ?c3 ?k3) (VL.enr ?a4 ?l4 ?c4 ?k4) (VL.enr ?a5 ?l5 ?c5 ?k5) (VL.enr ?a6 ?l6 ?c6 ?k6) (VL.enr ?a7 ?l7 ?c7 ?k7) (VL.enr ?a8 ?l8 ?c8 ?k8) (VL.enr ?a9 ?l9 ?c9 ?k9) (VL.enr ?a10 ?l10 ?c10 ?k10) (VL.enr ?a11 ?l11 ?c11 ?k11) (VL.enr ?a12 ?l12 ?c12 ?k12) (VL.enr ?a13 ?l13 ?c13 ?k13) (VL.enr ?a14 ?l14 ?c14 ?k14) (VL.enr ?a15 ?l15 ?c15 ?k15) (VL.enr ?a16 ?l16 ?c16 ?k16) (VL.enr ?a17 ?l17 ?c17 ?k17) (VL.enr ?a18 ?l18 ?c18 ?k18) (VL.enr ?a19 ?l19 ?c19 ?k19) (VL.enr ?a20 ?l20 ?c20 ?k20) (VL.enr ?a21 ?l21 ?c21 ?k21) (VL.enr ?a22 ?l22 ?c22 ?k22) ?gO ?fD ?y_FewError ?iT ?y_NoWeb ?o6 ?y_NoPlace ?mV ?y_NoWay ?tD ?y_NoParting ?jJ ?y_TooMany ?jZ ?y_NoForest ?jq ?y_NoPlan ?o8 ?y_NoOneWay ?jo ?y_NoOrder ?mW ?y_NoText ?o7 ?y_NoDeed ?o9 ?y_NoRow ?tE ?cb ?z_ValueError ?z_all ?z_bool ?z_int ?z_isinstance ?z_len ?z_list ?z_max ?z_min ?z_range ?z_set ?z_sorted ?z_tuple
   (case y_FewError=>k_is); (case iT=>unfold L2.bQ; k_exc)
   (case y_NoWeb=>k_is); (case o6=>unfold L2.bQ; k_exc)
   (case y_NoPlace=>k_is); (case mV=>unfold L2.bQ; k_exc)
   (case y_NoWay=>k_is); (case tD=>unfold L2.bQ; k_exc)
   (case y_NoParting=>k_is); (case jJ=>unfold L2.bQ; k_exc)
   (case y_TooMany=>k_is); (case jZ=>unfold L2.bQ; k_exc)
   (case y_NoForest=>k_is); (case jq=>unfold L2.bQ; k_exc)
   (case y_NoPlan=>k_is); (case o8=>unfold L2.bQ; k_exc)
   (case y_NoOneWay=>k_is); (case jo=>unfold L2.bQ; k_exc)
   (case y_NoOrder=>k_is); (case mW=>unfold L2.bQ; k_exc)
   (case y_NoText=>k_is); (case o7=>unfold L2.bQ; k_exc)
   (case y_NoDeed=>k_is); (case o9=>unfold L2.bQ; k_exc)
   (case y_NoRow=>k_is); (case tE=>unfold L2.bQ; k_exc)
   (case cb=>kernel_rfl)
   any_goals k_is
