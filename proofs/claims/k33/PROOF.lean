import PyProof.Rows.All
import KE.KDictOf
import PyProof.DictWalks
import Wide.All
import OpenK.AllK
import Wide.FinOn
import Lean
import PyProof.EqAt
import PyProof.EqKinds
import PyProof.TupleCall
import KE.LcSums
import PySem.Challenge.RW_fewways_k33_partings_and_bars_of_forests
open Array renaming length_toList->zA9,getElem?_toList->zBp,getD_eq_getD_getElem?->zCB,getD->zCi,getElem?_eq_some_iff->zCk,getElem?_eq_getElem->zCs,toList_push->zFP,replicate->zFc,getElem?_eq_none->zGW,toArray_toList->zGe,append_assoc->zHE,toList->zI7
open Array.Perm renaming refl->zGd
open Bool renaming and_eq_true->zAN,false_ne_true->zAX,false_eq_true->zAz,eq_iff_iff->zBI,not_eq_true'->zCA,true_and->zCl,and_true->zDb,or_eq_true->zDg,and_false->zDu,false_and->zDv,or_eq_false_iff->zEa,and_assoc->zEd,not_false->zEe,not_true->zFD,or_true->zIe
open Classical renaming byContradiction->zBK,propDecidable->zFe,not_imp->zG1
open False renaming elim->zAR
open ForInStep renaming yield->zBh
open Function renaming comp_def->zGh,comp->zH3
open Int renaming toNat_natCast->zCX,toNat_of_nonneg->zDA,emod_lt_of_pos->zDL,emod_nonneg->zDj,le_refl->zDk,le_trans->zE8,zero_add->zGs,lt_or_gt_of_ne->zH4
open LawfulBEq renaming eq_of_beq->zEB
open List renaming getElem?_eq_getElem->zAD,length_map->zAE,mem_cons_of_mem->zAF,mem_cons_self->zAH,mem_singleton->zAI,getElem?_eq_some_iff->zAJ,mem_cons->zAL,map_cons->zAM,size_toArray->zAP,mem_append_left->zAQ,mem_map->zAS,mem_append->zAU,replicate->zAW,map_append->zAZ,length_append->zA0,getElem?_map->zA2,getD_eq_getElem?_getD->zA3,mem_append_right->zA5,length_cons->zA6,mem_filter->zAa,nodup_append->zAb,nodup_iff_pairwise_ne->zAc,append_nil->zAe,not_mem_nil->zAf,pairwise_cons->zAg,map_map->zAi,nodup_cons->zAp,all_eq_true->zAr,append_assoc->zAt,range->zAu,map_congr_left->zAw,pairwise_iff_getElem->zAx,length_set->zBD,length_singleton->zBE,getElem?_set_ne->zBG,mem_of_getElem?->zBH,filter_cons->zBP,length_take->zBQ,flatten_cons->zBS,getElem?_set_self->zBT,lookup_cons->zBY,length_filter_le->zBZ,pairwise_map->zB0,mem_of_mem_take->zB8,cons_append->zB9,map_reverse->zBa,mem_reverse->zBb,perm_ext_iff_of_nodup->zBc,filterMap_cons->zBj,getElem_of_mem->zBk,replicate_succ->zBl,drop_eq_getElem_cons->zBn,getElem?_append_left->zBo,nil_append->zCC,take_of_length_le->zCD,any_eq_true->zCG,getElem_mem->zCH,append_of_mem->zCJ,zip_cons_cons->zCK,getLastD_eq_getLast?->zCO,mem_range->zCP,foldl_cons->zCT,getElem?_inj->zCU,length_nil->zCV,getElem?_cons_succ->zC3,getElem?_replicate->zC4,mem_filterMap->zCb,length_replicate->zCe,map_nil->zCf,filter_congr->zCm,reverse_cons->zCn,getElem?_append_right->zCp,mem_erase_of_ne->zCr,getElem_map->zCw,all_cons->zDH,getElem?_cons_zero->zDI,sum_cons->zDJ,getLast?_append->zD4,filter_eq_self->zDh,any_eq_false->zEE,length_erase_of_mem->zEF,drop_length->zES,mem_flatMap->zET,getElem?_eq_none->zE2,of_mem_zip->zE3,drop_zero->zEh,nodup_nil->zEi,getElem?_range->zEo,length_flatMap->zEp,length_pos_iff->zEq,length_reverse->zEr,map_id->zEs,mem_map_of_mem->zEt,any_cons->zFG,filter_append->zFH,lookup_append->zFI,ne_nil_of_mem->zFJ,length_range->zFU,reverse_perm->zFV,ext_getElem->zF3,getLast?_eq_some_getLast->zF4,length_drop->zF5,mem_flatten->zF6,forIn_cons->zFq,length_eq_zero_iff->zGX,filter_eq_nil_iff->zG3,length_pos_of_mem->zG4,all_map->zGk,concat_eq_append->zGl,eq_nil_or_concat->zGm,getElem_toArray->zGt,range_eq_range'->zGu,filter_sublist->zHG,range'->zHH,contains_cons->zHM,getElem_range->zHN,sum->zHO,zip_nil_right->zHP,all_eq_false->zH5,flatMap_cons->zH6,foldl->zH7,foldl_append->zH8,take_add_one->zH9,take_sublist->zHa,zip_nil_left->zHb,append_inj'->zHr,flatMap_def->zHs,getLast_mem->zHt,isEmpty_iff->zHu,nodup_range->zHv,range'_succ->zHw,zipIdx_cons->zHx,length_zip->zIM,range_succ->zIN,zipIdx_nil->zIO,forIn_nil->zIW,any_map->zIm,map_set->zIn
open List.Pairwise renaming imp_of_mem->zFF,nil->zFu
open List.Perm renaming refl->zBM,swap->zDe
open List.Sublist renaming refl->zGJ
open List.cons renaming injEq->zEJ,inj->zFg
open Nat renaming le_refl->zAT,lt_of_lt_of_le->zA4,ne_of_lt->zA8,zero_le->zAj,le_trans->zAn,le_of_lt->zB1,lt_irrefl->zBq,lt_succ_self->zBx,ne_of_gt->zCM,lt_succ_of_lt->zCY,le_of_lt_succ->zCq,lt_of_le_of_lt->zDM,le_succ->zDl,succ_pos->zDw,lt_trichotomy->zEK,mod_lt->zEL,le_of_not_lt->zEW,not_lt_zero->zE9,min_self->zF7,sub_zero->zF8,zero_add->zF9,not_lt->zGY,lt_trans->zGv,sub_self->zGw,le_max_right->zIP,lt_of_not_le->zIQ,le_antisymm->zIX,le_max_left->zIY
open Nat.succ renaming inj->zHy
open Ne renaming symm->zEG
open Option renaming map_eq_some_iff->zC7,map_some->zDE,bind_some->zHQ,getD_none->zHR,getD_some->zHS,map_none->zHc,none->zI9
open Option.some renaming inj->zAl
open Or renaming inr->zBy,inl->zC8
open Prod renaming fst->zFK,ext->zFh,snd->zFi
open Prod.mk renaming injEq->zD0
open PyProof.Rows renaming step_dedup->zAo,IntsAre->zBL,slot_tuple_getitem->zB7,seqObj->zBv,KeyOrd->zC1,callWith_type1->zC5,SortSt->zD2,kindOf->zD3,SortKind->zDd,get?_update_seq->zEC,firstMet->zEQ,envOfC->zEc,AllBare->zEu,lt_int->zFr,sortedHeap->zGE,failedOf->zG0,pendingOf->zG9,boot_range->zHI,listUpdate_at->zHW,subscriptTail->zHY,subscriptTail_builtinR->zHj,entry_tuple_getitem->zI0,seqEpoch_at->zI1,args_tuple_getitem->zIc,Subscript_->zIr
open PyProof.Rows.F renaming plain_set_update_loop->zC9,entry_set_update_loop->zDy
open PyProof.Rows.IntsAre renaming int_at->zEO,length->zE1
open PyProof.Rows.IsTup renaming new->zHq
open PyProof.Rows.KeyOrd renaming kle_refl->zDD,kle_trans->zEI,kle_of_klt->zFE,kle_antisymm->zGj
open PyProof.Rows.LSm renaming kept_iter->zIl
open PySem renaming wpAny_bind->zAB,Shared->zAG,wpAny_pure->zAK,sizeLine->zAY,starEach->zA1,Program->zA7,FuncData->zAd,mainGlobals->zAh,Around->zAk,bootBuiltins->zAq,compareOp->zAs,mem_of_lookup->zBA,wpAny_newObj_type->zBF,wpAny_call_entry->zBV,wpAny_callSpecial?_slot->zBW,wpAny_holding->zB2,wpAny_mono->zB5,intKind->zBe,foldedSetIterable->zBs,wpAny_field->zBt,wpAny_truthy_bool->zBu,sizeLine_eq->zBz,codeAny_builtin->zCI,behindInMarks->zCS,codeAny->zCZ,binaryOp->zC6,swapsWith->zCd,assignEach->zCg,wpAny_seqItems->zCh,Keyword->zCj,backTo->zCo,wpAny_loadPart'->zCt,wpAny_passesOwn->zCu,wpAny_setState_of->zCx,SetTable->zDK,Builtin->zDP,holding->zDR,letOwnedTupleGo->zDS,wpAny_Call_Name_kw->zDT,wpAny_pyIter_tuple->zDU,wpAny_setField_rec->zDV,keywordEach->zD7,sysModules->zD8,wpAny_loadPart_at->zD9,wpAny_pyIter_list->zDa,GenState->zDc,codeAny_mono->zDf,wpAny_askSetting->zDo,assign->zDp,NameKind->zDq,attributeBase->zDs,wpAny_standAt->zDt,IsPair->zDx,cellsFrom->zEA,sliceBounds->zED,wpAny_setField->zEV,wpAny_comprehension_free->zEZ,Result->zEb,lastMarks->zEy,pyNext->zEz,scanBound->zFA,wpAny_execs_nil->zFB,wpAny_typeOf->zFC,backToKw->zFM,call_meets->zFN,typeLookup->zFO,codeAny_call_builtin->zFS,wpAny_updateSeq_pair->zFT,firstArgMember->zFW,newFunctionEnv->zFX,callerA->zF2,plainId_quiet->zFk,tupleKind->zFl,wpAny_attempt->zFm,wpAny_onRaise->zFn,BindsTo->zFt,closureFor->zFz,intKind_is->zGA,newList->zGB,relabel->zGC,slot_list_getitem->zGD,wpAny_assign_Name->zGF,wpAny_rule->zGG,IsPart->zGI,checkBuiltinCall->zGT,noFill_tuple_add->zGU,wpAny_isInstance->zGV,excClassObj->zG7,getItem->zG8,richCompare->zGa,standAt->zGb,unsupported->zGc,isSubtype_type->zHB,recursionLimit->zHC,wpAny_runValue->zHD,wpAny_getItem_list_slice->zHJ,call->zHT,evalPart_none->zHV,seq_tuple_add->zHX,swappedStores->zHZ,swapsWithSole->zH0,wpAny_newList->zH1,richCompare_meets_room->zHi,Arguments->zHk,Paired->zIA,PassesOwn->zIB,builtinLookup_eq_fast->zIF,concat_meets->zIG,exec_Assign_Name_used->zIH,inplaceOp->zII,pyIter->zIJ,rawInt->zIK,seqIndex_neg->zIL,boot_len->zIS,wpAny_loadName_local->zIU,collect->zIZ,seqIndex_of->zI2,wpAny_isSubtype_exc->zI3,wpAny_letGo->zI4,wpAny_loadName_cell->zI5,wpAny_of_eq->zI6,Within->zIa,tupleKind_room_in1->zId,builtinsNs->zIu,setsByText->zIv,typeIs_int->zIw,wpAny_Name->zIx,wpAny_load->zIy,wpAny_pyIter_slot->zIz,wpAny_sequenceKey->zJA
open PySem.Around renaming under_plainId->zBw
open PySem.AutoSeq1 renaming sub_tuple_tuple->zFd
open PySem.Builtin.Frozenset renaming addrOf->zHl,newClass->zHm,sizeOf->zHn,slot0->zHo,updateFrom->zHp
open PySem.Builtin.List renaming listTooLong->zBg,listExtendWith->zEk,listLengthHint->zEl
open PySem.Builtin.Range renaming rangeSize->zBU,rangeFitsLong->zC0,small->zCc
open PySem.Builtin.Slice renaming slicePlaces->zCa,sliceAdjust->zDZ,sliceApplied->zEm,sliceFields->zIf,slicePartIndex->zIg
open PySem.Builtin.SmallTypes renaming nextOf->zBJ,ownedTupleIsFree->zBm,ownedTupleHandOut->zDi
open PySem.Builtin.Tuple renaming tupleExact->zBf,tupleCompareSizes->zEX,tupleItemsOf->zEn,tupleHashOf->zIh,tupleIsExact->zIi
open PySem.Calls renaming Name_function_global->zFo,evalArgs_plain->zGf
open PySem.Code renaming quiet_builtin->zHK
open PySem.F renaming slot_tuple_iterator_next->zCv,plainAttrs_list->zDB,plain_list_iadd->zDC,called_set->zDG,args_tuple_add_2->zDr,entry_tuple_add->zDz,slot_tuple_add->zEM,slot_list_append->zER,entry_list_iadd->zEY,slot_zip_next->zEf,typeOf_object_class->zEg,entry_proto_collect->zFY,plain_proto_collect->zFZ,type_list_append->zFs,slot_list_index->zFv,args_tuple_iterator_next_1->zGH,entry_tuple_iterator_next->zGN,plain_set_new->zGO,slot_set_iter->zGP,slot_list_extend->zGg,slot_gs_get->zGr,slot_list_iadd->zHF,sub_tuple_frozenset->zHL,sub_list_frozenset->zH2,args_zip_next_1->zIV,entry_zip_next->zI8,slot_int_rmul->zIj,sub_tuple_set->zIk
open PySem.Heap renaming get?_push_of_some->zAC,get?_push_size->zAO,lt_size->zAV,size_push->zBB,get?_update_ne->zC2,get?_update_self->zDW,SameBut->zE0,ExtBut->zFp,get?_update_other->zG2,IsTuple->zGi
open PySem.Heap.IsSliceOf renaming new->zFf
open PySem.Heap.SameBut renaming update->zB6
open PySem.NameKind renaming free->zCE,cell->zDX
open PySem.Obj renaming mapSeq->zCL,data_mapFields->zFQ,isFreed_of_fields->zGx,putSet->zHz,mapFields->zIo
open PySem.Operator renaming Add->zEv
open PySem.Paired renaming length->zGK
open PySem.SeqAt renaming EqAt->zCy
open PySem.SeqAt.EqAt renaming int_int->zE5,of_refs->zE6,same->zFL,int_str->zGR,str_int->zGS
open PySem.SeqAt.RcAt renaming lists_lengths->zF1,tuples->zGZ,lists->zG6
open PySem.SetTable renaming below->zAm,bits->zBC,insertAt->zBO,leap->zBX,runEnd->zB4,turns->zDN,has->zEP,Probe->zFa,grown->zFb,insertAt_perm->zFw,layClean->zGp,advance->zHA,fresh->zHU,fill->zHf,fits->zHg,slot->zHh
open PySem.SetTable.below renaming go->zD1
open PySem.SetTable.layClean renaming free->zCN
open PySem.SetTable.probe renaming go->zCF
open PySem.Shared renaming TypeIs->zIT,heap->zIb
open PySem.Str renaming ofString->zDF
open PySem.Value renaming none->zBR,ref->zBr,int->zCR,type->zCz,builtin->zEN,bool->zE7,isInt->zFj,notImplemented->zGq,str->zIE,float->zIs
open PySem.W renaming Frag->zAA,nsIn->zAv,mg_none_of->zAy,kia_one->zBN,findIn->zB3,emptyDict->zBd,mg_of->zBi,instObj->zCQ,fnOf->zCW,keepIn->zDO,ksm_same->zDQ,looks_findIn->zDY,hideAll->zD5,hideAll_get->zD6,codeIn->zDm,kitOne->zDn,kas_rev->zEU,lookIn->zE4,Looks->zEj,kitx_dict->zEw,methodObj->zEx,plainGet->zFR,OpenLaw->zF0,cellsFrom_some->zGL,KasT->zGQ,plainGet_of->zG5,kitx_tuple->zGn,of_hideAll->zGo,kas_place->zGy,kitx_list->zGz,InstAt->zHd,KdlSrc->zHe,WalkO->zIC,excIn->zID,isFn->zIR
open PySem.W.Looks renaming ld->zIp,now->zIq
open PySem.Walks renaming list->zGM,tuple->zIt
open Sum renaming inl->zFx,inr->zFy
open True renaming intro->zEH
noncomputable section
namespace PySem.W.Fast
def tw4280630953055558418:=0
def tw15812677769828936562:=0
def tw13974360720579697586:=0
def tw2653136886822309938:=0
def tw2006231529536922770:=0
def tw14394881289520667826:=0
def tw2979422262222475474:=0
def tw7918256667345563026:=0
def tw17779379094462505251:=0
def tw18024041711398913347:=0
def tw8053045370525252995:=0
def tw4087392988370680195:=0
def tw16990035490260730819:=0
def tw14719370207900461123:=0
def tw8905409040065353827:=0
def tw1889945036448904784:=0
def tw17159140418507564816:=0
def tw5966867553745733680:=0
def tw1748426483146951824:=0
def tw3798189685903441040:=0
def tw5288712378063557840:=0
def tw2814589137570691536:=0
def tw11377532141024094081:=0
def tw5558471722455124897:=0
def tw1837093213708253249:=0
def tw17624312928384540833:=0
def tw14735230522418742465:=0
def tw10982726326662274273:=0
def tw9643220384649578977:=0
def tw8595438974591829505:=0
def tw17467466940232687105:=0
def tw4500079418185236033:=0
def tw2994080584138395201:=0
def tw18428698127280247361:=0
def tw9064615925457847958:=0
def tw11715352506772901622:=0
def tw8259665031560834006:=0
def tw12076956479371268118:=0
def tw14532178359321016438:=0
def tw14068401501815205110:=0
def tw3955125952438502838:=0
def tw13033797208205471255:=0
def tw3923970149924184631:=0
def tw11044369288412622711:=0
def tw8505175448047703991:=0
def tw1504123027252295639:=0
def tw6747297824313117751:=0
def tw12718772110941686999:=0
def tw7851254605520669332:=0
def tw5150905392391853812:=0
def tw11886372209866591060:=0
def tw2415002490437616500:=0
def tw5727437517714915444:=0
def tw2797147224995596564:=0
def tw7985723109740080404:=0
def tw8995034418669670708:=0
def tw13176355122940217684:=0
def tw11999830106745985492:=0
def tw9001741826496744021:=0
def tw14561482805943182037:=0
def tw7063231528351581941:=0
def tw2291337768702052117:=0
def tw12168390189158681557:=0
def tw859614304811897877:=0
def tw10268096565506332725:=0
def tw8704931370894576789:=0
def tw5992807432703939925:=0
def tw15755194099952839093:=0
def tw4375246922507976181:=0
def tw15797385973991987733:=0
def tw2941296969969014986:=0
def tw1214017432290749770:=0
def tw5290731269606683306:=0
def tw17268942210038615850:=0
def tw3406394294762004394:=0
def tw450476075422773290:=0
def tw1157587740487747690:=0
def tw11597502632835296827:=0
def tw11235467446760610427:=0
def tw331628617664511675:=0
def tw14063840938478658267:=0
def tw852294814760539067:=0
def tw12497368925733367835:=0
def tw15102682038066868507:=0
def tw8812461836503441723:=0
def tw1225231433223767944:=0
def tw15755485238326412200:=0
def tw14452863077817638952:=0
def tw795593591420838952:=0
def tw11024937148244012136:=0
def tw8994069177256661160:=0
def tw13346684959235102920:=0
def tw9294144252373574888:=0
def tw16744415936793160936:=0
def tw611748759680938376:=0
def tw5164691391075925384:=0
def tw10111481496326881704:=0
def tw12155962062560474536:=0
def tw8782653146062114216:=0
def tw4296630638722391720:=0
def tw6043766644377225928:=0
def tw6803313669696883385:=0
def tw5772210662057132953:=0
def tw8405034648514629625:=0
def tw16375462319838979257:=0
def tw11881272473131331833:=0
def tw14548552835471891769:=0
def tw18251554694547300729:=0
def tw15168765052315519246:=0
def tw12485064940112885102:=0
def tw6253688342750850510:=0
def tw15306074913730123342:=0
def tw3661720207036306126:=0
def tw3148891406698851054:=0
def tw3012034317375749870:=0
def tw12564440389313680174:=0
def tw13976309062953838382:=0
def tw4981413183967195982:=0
def tw15201605833462568814:=0
def tw3882172790353282255:=0
def tw14276268640276589807:=0
def tw2733516927512862991:=0
def tw803286834227192239:=0
def tw13432561394897240847:=0
def tw6441542505121219631:=0
def tw9033813992819569548:=0
def tw17611330734415703148:=0
def tw9955666386143261996:=0
def tw11962010297109623084:=0
def tw17567269724658159116:=0
def tw11644883681436414604:=0
def tw15356646091838222028:=0
def tw17201793584011445100:=0
def tw4684075644869809133:=0
def tw5907624943511311373:=0
def tw7419227975516984397:=0
def tw3189561404869447053:=0
def tw14180509664495826381:=0
def tw11844929512279894605:=0
def tw11948989267747443341:=0
def tw14900972553859111725:=0
def tw981217566222175053:=0
def tw5874577574198537069:=0
def tw13995710117855887842:=0
def tw11165860468848798274:=0
def tw116399479555027618:=0
def tw14713475217230790370:=0
def tw4755494365261096738:=0
def tw7989236083449465666:=0
def tw3361183180798749538:=0
def tw7816893379484443682:=0
def tw11509728946964968610:=0
def tw17453115728286053570:=0
def tw3104202899729502434:=0
def tw2208140800031758626:=0
def tw17385982687376574754:=0
def tw10076267015164369282:=0
def tw9147543109892346035:=0
def tw5661854654294057491:=0
def tw6146059956001458099:=0
def tw10183346001083270163:=0
def tw18403702930652501600:=0
def tw7240915355464932992:=0
def tw12552128137900938304:=0
def tw5969611223638896064:=0
def tw5810761134981723680:=0
def tw11101432720134129585:=0
def tw5084026990665806801:=0
def tw4991039806792082513:=0
def tw10760828339781822705:=0
def tw14925655208553224465:=0
def tw7604831417485076849:=0
def tw11311293707162538385:=0
def tw11341159278469486033:=0
def tw1007191413114049041:=0
def tw3934444752056830577:=0
def tw4619921836546545489:=0
def tw7261051618793407142:=0
def tw13141671713843264454:=0
def tw8757162972176729318:=0
def tw4005836820453764422:=0
def tw15944024406195479910:=0
def tw16150545674250137063:=0
def tw18417541719606505031:=0
def tw3466351520677867175:=0
def tw6291614735460446919:=0
def tw17595666313247204103:=0
def tw3270641283538229095:=0
def tw4251840865277117319:=0
def tw17784171535795436487:=0
def tw10225109738375960551:=0
def tw3941341897354174439:=0
def tw8625964513247479847:=0
def tw8153010663495937127:=0
def tw7343997961575330983:=0
def tw7004300426946878727:=0
def tw12967451973930123623:=0
def tw13423871768766583524:=0
def tw7527040576115078916:=0
def tw5873769975771169668:=0
def tw2896988747396085668:=0
def tw2721719494112960452:=0
def tw12728583469352787908:=0
def tw16398184719930713124:=0
def tw12970914642854949188:=0
def tw2589193321799729540:=0
def tw120604032054233508:=0
def tw14530107232048747972:=0
def tw10970871117471743460:=0
def tw10814479110332481093:=0
def tw2444477951608969925:=0
def tw12636486053663280965:=0
def tw17322131554968359749:=0
def tw17696411060262931397:=0
def tw14028878373520944101:=0
def tw316452292617293861:=0
def tw17407469862356931685:=0
def tw10024829192934860037:=0
def tw7818509463170563397:=0
def tw17673931621969868101:=0
def tw8294172475506416037:=0
def tw5777355256136228293:=0
def tw9501155745168659674:=0
def tw16915396361475860922:=0
def tw3003893146379924954:=0
def tw11286262472981784186:=0
def tw5545049414097003226:=0
def tw13210212636880178010:=0
def tw221392264354754490:=0
def tw13159859194748575674:=0
def tw11857856315076576378:=0
def tw5625430050815162955:=0
def tw12231997782574448523:=0
def tw6524374727235913771:=0
def tw13505550673099496523:=0
def tw12351067534145473643:=0
def tw8670758327668064459:=0
def tw10223242750411269355:=0
def tw11106003330036679947:=0
def tw17376112724319215915:=0
def tw9430455146332367928:=0
def tw12364523974593057240:=0
def tw17752856940196707064:=0
def tw1676964965413601080:=0
def tw10724747545664853816:=0
def tw13930179581884361609:=0
def tw11983401378438987721:=0
def tw9453853342527578057:=0
def tw12726221382216461321:=0
def tw8634239070999518441:=0
def tw17741038626901481833:=0
def tw9076471332379120169:=0
def tw2716299477843581118:=0
def tw235379293485994270:=0
def tw10456570650597704126:=0
def tw5428012723892793790:=0
def tw1559824091512728158:=0
def tw14215231212598444702:=0
def tw11290805688524523166:=0
def tw3911700278226634526:=0
def tw15227065972021891134:=0
def tw4422507639330756831:=0
def tw9239000784271602943:=0
def tw959786709913656607:=0
def tw17427761322370228511:=0
def tw16891862060318413215:=0
def tw118326117414787711:=0
def tw17057955585571339007:=0
def tw727408126040381503:=0
def tw6325823052184813663:=0
def tw14675157442994855836:=0
def tw13979151198884511708:=0
def tw11007612290396184572:=0
def tw3060025808651827260:=0
def tw16648640283763485756:=0
def tw9852497063461351612:=0
def tw15589581896927370428:=0
def tw8793327581285173564:=0
def tw1570052494194064732:=0
def tw5143892415130179932:=0
def tw18444575893263893916:=0
def tw13151800462877979036:=0
def tw3123945567796582812:=0
def tw5947850704602967580:=0
def tw1537810648904908348:=0
def tw16295613416611326620:=0
def tw1189748742589190876:=0
def tw10860306808151782108:=0
def tw4432647223483710268:=0
def tw15490567358006017884:=0
def tw6984217151143198717:=0
def tw14719287468272622589:=0
def tw15866119042034426973:=0
def tw11311393264339392669:=0
def tw10174068724611893469:=0
def tw888405617805914493:=0
def tw15077571869236079069:=0
def tw8742448066486970973:=0
def tw7537853345266252381:=0
def tw7598094828934873757:=0
def tw6144187767340130045:=0
def tw3884003427860079453:=0
def tw12598413259841736573:=0
def tw2703564880511710848:=0
def tw9178027444243485127:=0
end PySem.W.Fast
abbrev gX:=List (Int×Int)
abbrev gV:=List (List Int)
abbrev hZ:=List (PySem.Addr×PySem.Obj)
abbrev hV:=List (Option Nat)
set_option bootstrap.genMatcherCode false
set_option compiler.extract_closed false
set_option Elab.async false
set_option linter.all false
set_option maxRecDepth 100000
namespace L2
open PySem PySem.Spec PyProof.Rows
abbrev Key:=Sum Int Str
def aMU:Key->Value->Bool
 | .inl k,v=>zFj k v
 | .inr x,v=>Value.isStrOf x v
def aP1(w:World):Key->Int
 | .inl k=>hashInt k
 | .inr x=>hashStr w x
def dB:∀{k:Key} {v:Value},aMU k v=true->(∃i t,k=zFx i/\v=zCR i t)\/(∃x t,k=zFy x/\v=zIE x t)
 | .inl i,v,h=>by
  obtain⟨t,e⟩:=Value.isInt_shape (k:=i) (v:=v) h;exact .inl ⟨i,t,rfl,e⟩
 | .inr x,v,h=>by
  obtain⟨t,e⟩:=Value.isStrOf_shape (x:=x) (v:=v) h;exact .inr ⟨x,t,rfl,e⟩
def aNh(a b:Int):decide ((zFx a:Key)=zFx b)=(a==b):=by
 by_cases e:a=b
 .subst e;simp
 .have h:¬(zFx a:Key)=zFx b:=λ q=>e (Sum.inl.inj q)
  rw[decide_eq_false h];exact(beq_eq_false_iff_ne.mpr e).symm
def aNe(a b:Str):decide ((zFy a:Key)=zFy b)=decide (a=b):=by
 by_cases e:a=b
 .subst e;simp
 .have h:¬(zFy a:Key)=zFy b:=λ q=>e (Sum.inr.inj q)
  rw[decide_eq_false h,decide_eq_false e]
def aNg(a:Int)(b:Str):decide ((zFx a:Key)=zFy b)=false:=decide_eq_false (λ q=>nomatch q)
def aNf(a:Str)(b:Int):decide ((zFy a:Key)=zFx b)=false:=decide_eq_false (λ q=>nomatch q)
def aBS(prog:zA7)(w:World):PySem.KeyKind prog w Key where
 is:=aMU
 hash:=aP1 w
 inj:=λ v a b ha hb=>by
  rcases dB ha with ⟨i,t,rfl,rfl⟩|⟨x,t,rfl,rfl⟩
  .rcases dB hb with ⟨j,u,rfl,e⟩|⟨y,u,rfl,e⟩
   .injection e with e1 _;rw[e1]
   .exact nomatch e
  .rcases dB hb with ⟨j,u,rfl,e⟩|⟨y,u,rfl,e⟩
   .exact nomatch e
   .injection e with e1 _;rw[e1]
 byValue:=λ k v h=>by
  rcases dB h with ⟨i,t,rfl,rfl⟩|⟨x,t,rfl,rfl⟩<;>rfl
 pyHash:=λ hv h=>by
  rcases dB hv with ⟨i,t,rfl,rfl⟩|⟨x,t,rfl,rfl⟩
  .exact wpAny_pyHash_int h
  .exact wpAny_pyHash_str h
 eqBool:=λ hu hv h=>by
  rcases dB hu with ⟨i,t,rfl,rfl⟩|⟨x,t,rfl,rfl⟩
  .rcases dB hv with ⟨j,u,rfl,rfl⟩|⟨y,u,rfl,rfl⟩
   .rw[aNh]at h;exact wpAny_eqBool_int h
   .rw[aNg]at h;exact zGR i t y u _ _ _ _ h
  .rcases dB hv with ⟨j,u,rfl,rfl⟩|⟨y,u,rfl,rfl⟩
   .rw[aNf]at h;exact zGS x t j u _ _ _ _ h
   .rw[aNe]at h;exact wpAny_eqBool_str h
 «strs»:=λ k x t v h=>by
  rcases dB h with ⟨i,u,rfl,e⟩|⟨y,u,rfl,e⟩
  .exact nomatch e
  .injection e with e1 _
   subst e1;cases v<;>rfl
inductive V where
 |non|bl (b:Bool)|int (i:Int)|str (x:Str)|byt (b:Array UInt8)|flt (b:UInt64)|ref (a:Addr)|ty (n:String)
 deriving DecidableEq
def RelV:V->Value->Prop
 | .non,u=>u=zBR
 | .bl b,u=>u=zE7 b
 | .int i,u=>∃t,u=zCR i t
 | .str x,u=>∃t,u=zIE x t
 | .byt b,u=>∃t,u=Value.bytes b t
 | .flt b,u=>∃t,u=zIs b t
 | .ref a,u=>u=zBr a
 | .ty n,u=>u=zCz n
abbrev Vals:List V->List Value->Prop:=zIA RelV
theorem Vals.length(r:Vals xs us):xs.length=us.length:=zGK r
theorem Vals.get:∀{xs:List V} {us:List Value} {i:Nat} {x:V},Vals xs us->xs[i]? =some x->∃u,us[i]? =some u/\RelV x u
 |_,_,_,_,.nil,e=>by simp at e
 |_,_,0,_,.cons r _,e=>by simp at e;subst e;exact⟨_,rfl,r⟩
 |_,_,i+1,x,.cons _ t,e=>by
  obtain⟨u,h1,h2⟩:=Vals.get (i:=i) (x:=x) t (by simpa using e);exact⟨u,by simpa using h1,h2⟩
theorem Vals.set(r:RelV x u):∀{xs:List V} {us:List Value} (i:Nat),Vals xs us->Vals (xs.set i x) (us.set i u)
 |_,_,_,.nil=>.nil
 |_,_,0,.cons _ t=>.cons r t
 |_,_,i+1,.cons q t=>.cons q (Vals.set r i t)
theorem Vals.append:∀{xs ys:List V} {us ws:List Value},Vals xs us->Vals ys ws->Vals (xs++ys) (us++ws)
 |_,_,_,_,.nil,s=>s
 |_,_,_,_,.cons r t,s=>.cons r (Vals.append t s)
theorem Vals.take:∀{xs:List V} {us:List Value} (n:Nat),Vals xs us->Vals (xs.take n) (us.take n)
 |_,_,0,_=>.nil
 |_,_,_+1,.nil=>.nil
 |_,_,n+1,.cons r t=>.cons r (Vals.take n t)
theorem Vals.drop:∀{xs:List V} {us:List Value} (n:Nat),Vals xs us->Vals (xs.drop n) (us.drop n)
 |_,_,0,r=>r
 |_,_,_+1,.nil=>.nil
 |_,_,n+1,.cons _ t=>Vals.drop n t
def aHL:Option V->Option Value->Prop
 |some v,some u=>RelV v u
 |none,none=>True
 |_,_=>False
def KV{κ:Type}:List (κ×V)->List (κ×Value)->Prop:=zIA λ(p:κ×V) (q:κ×Value)=>p.1=q.1/\RelV p.2 q.2
def kV:Key->V
 | .inl i=>.int i
 | .inr x=>.str x
inductive HO where
 |lst (xs:List V)
 |tup (xs:List V)
 |dK (kvs:List (Key×V))|dT (kvs:List (List Key×V))
 |set (S:Int->Bool) (n:Nat)
 |ins (C dx:Addr) (fs:List (Str×V))
 |own (x:Addr)
 |xd (fs:List (Str×V))
 |met (f x:Addr)
 |rng (lo hi:Int)
 |frz (o:Obj) (u:HO)
 |tbl (ps:Array Value)
 |ext (φ:Heap->Prop)
abbrev Hp:=Addr->Option HO
def upd(H:Hp)(a:Addr)(o:HO):Hp:=λ b=>if b=a then some o else H b
def aq:upd H a o a=some o:=by unfold upd;rw[if_pos rfl]
def bG(h:b≠a):upd H a o b=H b:=by unfold upd;rw[if_neg h]
def cU{H:Hp}{a b:Addr}{o:HO}(h:H a=some o)(h':H b=none):a≠b:=by
 intro e;subst e;rw[h]at h';cases h'
def NoD(h:Heap)(a:Addr):Prop:=∀o,h.get? a=some o->o.dict=none
theorem NoD.push(h:Heap){o:Obj}(hl:o.isFreed=false:=by rfl)(hd:o.dict=none:=by rfl):NoD (h.push o) h.objs.size:=λ u e=>by rw[zAO _ hl]at e;cases e;exact hd
def NoD.keep{h h':Heap}{a:Addr}{o:Obj}(n:NoD h a)(e:h.get? a=some o)(e':h'.get? a=some o):NoD h' a:=λ u q=>by rw[e']at q;cases q;exact n o e
section
variable(P:zA7)(w:World)
def dX(H:Hp)(h:Heap)(a:Addr):HO->Prop
 | .lst xs=>xs.length<=zAY/\∃(its:List Value) (n:Nat),Vals xs its/\h.get? a=some {cls:=.type "list",data:=.seq its.toArray n}
 | .tup xs=>(xs.length<=zAY/\NoD h a)/\∃its:List Value,Vals xs its/\IsTup h a its.toArray
 | .dK kvs=>kvs.length<=zAY/\(a==zD8)=false/\∃vs,KV kvs vs/\h.DictOf (aBS P w) a vs
 | .dT kvs=>kvs.length<=zAY/\(a==zD8)=false/\∃xs:List (List Key×Addr×Value),
   zIA (λ(p:List Key×V) (q:List Key×Addr×Value)=>p.1=q.1/\H q.2.1=some (.tup (p.1.map kV))/\RelV p.2 q.2.2) kvs xs/\
   ∃o es ep,h.get? a=some o/\o.ExactDict/\o.data= .dict es ep/\es.toList=xs.map (entryOfKey (zFl (aBS P w)))/\(xs.map (·.1)).Nodup
 | .set S n=>h.SetOf (zBe P w) a S n
 | .ins C dx fs=>H dx=some (.own a)/\fs.length<=1000/\dx≠a/\h.get? a=some (zCQ C dx)/\
   ∃mA,h.Ns1 dx mA/\(∀f,aHL (fs.lookup f) (mA f))/\zIa mA (fs.map (·.1))
 | .own _=>∃o,h.get? a=some o
 | .xd fs=>∃mA,h.Ns1 a mA/\∀f,aHL (fs.lookup f) (mA f)
 | .rng lo hi=>∃t u v,h.get? a=some {cls:=.type "range",data:=.fields #[.int lo t,.int hi u,.int 1 v]}
 | .frz o u=>h.get? a=some o/\dX H h a u
 | .tbl ps=>h.get? a=some {cls:=.none,data:=.fields ps}
 | .met f x=>h.get? a=some (zEx (.ref f) (.ref x))
 | .ext φ=>φ h/\(∃o,h.get? a=some o)/\∀h1 h2:Heap,φ h1->(∀o,h1.get? a=some o->h2.get? a=some o)->φ h2
def HOk(H:Hp)(h:Heap):Prop:=∀a o,H a=some o->dX P w H h a o
end
section
variable{P:zA7}{w:World}{H H':Hp}{h h':Heap}{a:Addr}{o:HO}
theorem dX.lt(x:dX P w H h a o):a<h.objs.size:=by
 cases o with
 |lst xs=>obtain⟨_,_,_,_,e⟩:=x;exact zAV e
 |tup xs=>obtain⟨_,_,_,p⟩:=x;exact p.lt
 |dK kvs=>obtain⟨_,_,_,_,o,_,_,e,_⟩:=x;exact zAV e
 |dT kvs=>obtain⟨_,_,_,_,o,_,_,e,_⟩:=x;exact zAV e
 |set S n=>obtain⟨o,_,_,_,e,_⟩:=x;exact zAV e
 |ins C dx fs=>obtain⟨_,_,_,e,_⟩:=x;exact zAV e
 |own y=>obtain⟨_,e⟩:=x;exact zAV e
 |xd fs=>obtain⟨_,⟨_,_,_,e,_⟩,_⟩:=x;exact zAV e
 |rng lo hi=>obtain⟨_,_,_,e⟩:=x;exact zAV e
 |frz ob u=>obtain⟨e,_⟩:=x;exact zAV e
 |tbl ps=>exact zAV (show h.get? a=some _ from x)
 |met f y=>exact zAV (show h.get? a=some _ from x)
 |ext φ=>obtain⟨_,⟨_,e⟩,_⟩:=x;exact zAV e
theorem Paired.mapP:∀{l₁:List α} {l₂:List β},zIA F l₁ l₂->(∀a b,F a b->G a b)->zIA G l₁ l₂
 |_,_,.nil,_=>.nil
 |_,_,.cons r t,f=>.cons (f _ _ r) (Paired.mapP t f)
def dX.stay(x:dX P w H h a o)(k:∀b u,(b=a\/H b=some (.own a))->h.get? b=some u->h'.get? b=some u)
  (ho:∀b,H b=some (.own a)->H' b=some (.own a))(ht:∀b xs,H b=some (.tup xs)->H' b=some (.tup xs)):dX P w H' h' a o:=by
 induction o with
 |lst xs=>obtain⟨z,its,n,r,e⟩:=x;exact⟨z,its,n,r,k _ _ (.inl rfl) e⟩
 |tup xs=>obtain⟨z,its,r,ob,e,c⟩:=x;exact⟨⟨z.1,z.2.keep e (k _ _ (.inl rfl) e)⟩,its,r,ob,k _ _ (.inl rfl) e,c⟩
 |dK kvs=>obtain⟨z,y,vs,r,ob,es,ep,e,c⟩:=x;exact⟨z,y,vs,r,ob,es,ep,k _ _ (.inl rfl) e,c⟩
 |dT kvs=>
  obtain⟨z,y,xs,r,ob,es,ep,e,c⟩:=x;exact⟨z,y,xs,Paired.mapP r λ p q z=>⟨z.1,ht _ _ z.2.1,z.2.2⟩,ob,es,ep,k _ _ (.inl rfl) e,c⟩
 |set S n=>obtain⟨ob,es,ep,t,e,c⟩:=x;exact⟨ob,es,ep,t,k _ _ (.inl rfl) e,c⟩
 |ins C dx fs=>
  obtain⟨d,z,ne,e,mA,⟨od,es,ep,e2,c⟩,r⟩:=x;exact⟨ho _ d,z,ne,k _ _ (.inl rfl) e,mA,⟨od,es,ep,k _ _ (.inr d) e2,c⟩,r⟩
 |own y=>obtain⟨ob,e⟩:=x;exact⟨ob,k _ _ (.inl rfl) e⟩
 |xd fs=>obtain⟨mA,⟨od,es,ep,e,c⟩,r⟩:=x;exact⟨mA,⟨od,es,ep,k _ _ (.inl rfl) e,c⟩,r⟩
 |rng lo hi=>obtain⟨t,u,v,e⟩:=x;exact⟨t,u,v,k _ _ (.inl rfl) e⟩
 |frz ob u ih=>obtain⟨e,q⟩:=x;exact⟨k _ _ (.inl rfl) e,ih q⟩
 |tbl ps=>
  have e:h.get? a=some {cls:=.none,data:=.fields ps}:=x;show h'.get? a=some {cls:=.none,data:=.fields ps};exact k a _ (.inl rfl) e
 |met f y=>
  have e:h.get? a=some (zEx (.ref f) (.ref y)):=x;show h'.get? a=some (zEx (.ref f) (.ref y));exact k a _ (.inl rfl) e
 |ext φ=>obtain⟨p,⟨o,e⟩,st⟩:=x;exact⟨st _ _ p λ o q=>k _ _ (.inl rfl) q,⟨o,k _ _ (.inl rfl) e⟩,st⟩
theorem HOk.lt(x:HOk P w H h)(e:H a=some o):a<h.objs.size:=(x a o e).lt
def HOk.fresh(x:HOk P w H h)(e:h.objs.size<=a):H a=none:=by
 cases q:H a with
 |none=>rfl
 |some u=>exact absurd (zA4 (x.lt q) e) (zBq _)
def HOk.kept(x:HOk P w H h)(k:∀b u,h.get? b=some u->h'.get? b=some u):HOk P w H h':=λ a o e=>
 (x a o e).stay (λ b u _ q=>k b u q) (λ _ q=>q) λ _ _ q=>q
def HOk.laid(x:HOk P w H h)(k:∀b u,h.get? b=some u->h'.get? b=some u)(hp:h.objs.size<=a)(new:dX P w (upd H a o) h' a o):HOk P w (upd H a o) h':=λ b u e=>by
 have hn:=x.fresh hp;by_cases hb:b=a
 .subst hb;rw[aq]at e;cases e;exact new
 .rw[bG hb]at e
  exact(x b u e).stay (λ c v _ q=>k c v q) (λ c q=>by rw[bG (cU q hn)];exact q) λ c xs q=>by rw[bG (cU q hn)];exact q
end
def Rd(H:Hp)(a:Addr)(u:HO):Prop:=H a=some u\/∃o,H a=some (.frz o u)
def Rd.ok(r:Rd H a u)(x:HOk P w H h):dX P w H h a u:=by
 rcases r with r|⟨o,r⟩
 .exact x a u r
 .obtain⟨_,q⟩:=x a _ r
  exact q
def Mut:Option HO->Prop
 |some (.lst _)=>True
 |some (.dK _)=>True
 |some (.dT _)=>True
 |some (.set _ _)=>True
 |some (.ins _ _ _)=>True
 |some (.ext _)=>True
 |_=>False
section
variable{P:zA7}{w:World}{H:Hp}{h h':Heap}{x e:Addr}{o':HO}
def HOk.write(ok:HOk P w H h)(mu:Mut (H x))(he:e=x\/H e=some (.own x))(k:∀b u,b≠e->h.get? b=some u->h'.get? b=some u)(heo:∃u,h'.get? e=some u)
  (new:dX P w (upd H x o') h' x o'):HOk P w (upd H x o') h':=λ b u q=>by
 have nown:∀c y,H c=some (.own y)->c≠x:=λ c y r z=>by subst z;rw[r]at mu;exact mu
 have ntup:∀c xs,H c=some (.tup xs)->c≠x:=λ c xs r z=>by subst z;rw[r]at mu;exact mu
 by_cases hb:b=x
 .subst hb;rw[aq]at q;cases q;exact new
 .rw[bG hb]at q
  by_cases hbe:b=e
  .have q':H b=some (.own x):=by
    rcases he with z|z
    .exact absurd (hbe.trans z) hb
    .rw[hbe];exact z
   rw[q]at q';cases q';obtain⟨v,hv⟩:=heo;exact⟨v,by rw[hbe];exact hv⟩
  .refine(ok b u q).stay (λ c v hc r=>k c v ?_ r) (λ c r=>by rw[bG (nown c b r)];exact r) λ c xs r=>by rw[bG (ntup c xs r)];exact r
   rcases hc with rfl|hc
   .exact hbe
   .rintro rfl
    rcases he with z|z
    .exact nown c b hc z
    .rw[hc]at z;cases z;exact hb rfl
end
structure Un(fs ex:List Addr)(H H':Hp)(h h':Heap):Prop where
 keep:∀b o,h.get? b=some o->H b=none->b∉fs->b∉ex->h'.get? b=some o
 slot:∀b o,h.get? b=some o->H b=none->b∈fs->b∉ex->∃sl,h'.get? b=some {o with slots:=sl}
 free:∀b o,h.get? b=some o->H b=none->b∉ex->H' b=none
 there:∀b o,h.get? b=some o->b∉ex->∃o',h'.get? b=some o'
 tups:∀b xs,H b=some (.tup xs)->H' b=some (.tup xs)
 frzs:∀b o u,H b=some (.frz o u)->H' b=some (.frz o u)
 tbls:∀b ps,H b=some (.tbl ps)->∃more,H' b=some (.tbl (ps++more))
section
variable{fs ex:List Addr}{H H1:Hp}{h h1 h':Heap}{a x e:Addr}{o:HO}
def Un.any(u:Un fs ex H H1 h h1)(q:h.get? b=some ob)(n:H b=none)(hx:b∉ex):∃sl,h1.get? b=some {ob with slots:=sl}:=by
 by_cases hb:b∈fs
 .exact u.slot b ob q n hb hx
 .exact⟨ob.slots,u.keep b ob q n hb hx⟩
def Un.kept(k:∀b u,h.get? b=some u->h'.get? b=some u):Un fs ex H H h h':=
 ⟨λ b ob q _ _ _=>k b ob q,λ b ob q _ _ _=>⟨ob.slots,k b ob q⟩,λ _ _ _ n _=>n,λ b ob q _=>⟨ob,k b ob q⟩,λ _ _ q=>q,λ _ _ _ q=>q,λ _ ps q=>⟨#[],by rw[q];simp⟩⟩
def Un.refl:Un fs ex H H h h:=Un.kept λ _ _ q=>q
def Un.laid(k:∀b u,h.get? b=some u->h'.get? b=some u)(hp:h.objs.size<=a)(hn:H a=none):Un fs ex H (upd H a o) h h' where
 keep:=λ b u q _ _ _=>k b u q
 slot:=λ b u q _ _ _=>⟨u.slots,k b u q⟩
 free:=λ b u q n _=>by rw[bG (zA8 (zA4 (zAV q) hp))];exact n
 there:=λ b u q _=>⟨u,k b u q⟩
 tups:=λ b xs q=>by rw[bG (cU q hn)];exact q
 frzs:=λ b u xs q=>by rw[bG (cU q hn)];exact q
 tbls:=λ b ps q=>⟨#[],by rw[bG (cU q hn),q];simp⟩
def Un.write(mu:Mut (H x))(he:e=x\/H e=some (.own x))(k:∀b u,b≠e->h.get? b=some u->h'.get? b=some u)(heo:∃u,h'.get? e=some u):Un fs ex H (upd H x o) h h':=by
 have hx:∀b,H b=none->b≠x:=λ b n z=>by subst z;rw[n]at mu;exact mu
 have hb:∀b,H b=none->b≠e:=λ b n z=>by
  subst z;rcases he with r|r
  .exact hx b n r
  .rw[n]at r;cases r
 have hm:∀b u,H b=some u->¬Mut (some u)->b≠x:=λ b u q nm z=>by subst z;rw[q]at mu;exact nm mu
 refine⟨λ b u q n _ _=>k b u (hb b n) q,λ b u q n _ _=>⟨u.slots,k b u (hb b n) q⟩,λ b u q n _=>by rw[bG (hx b n)];exact n,λ b u q _=>?_,
  λ b xs q=>by rw[bG (hm b _ q λ z=>z)];exact q,λ b u xs q=>by rw[bG (hm b _ q λ z=>z)];exact q,λ b ps q=>⟨#[],by rw[bG (hm b _ q λ z=>z),q];simp⟩⟩
 by_cases hbe:b=e
 .subst hbe;exact heo
 .exact⟨u,k b u hbe q⟩
end
def trk(h:Heap)(H:Hp):List Addr:=(zAu h.objs.size).filter λ a=>(H a).isSome
def aB3(h:Heap)(H:Hp):Heap:=zD5 h (trk h H)
def aGu(h:Heap)(H:Hp):(aB3 h H).objs.size=h.objs.size:=PySem.W.hideAll_size _ _
def aJD(e:h.get? b=some o)(n:H b=none):(aB3 h H).get? b=some o:=
 zD6 _ e λ hm=>by
  have q:(H b).isSome=true:=(zAa.mp hm).2;rw[n]at q;simp at q
def aKv(e:(aB3 h H).get? b=some o):h.get? b=some o/\H b=none:=by
 have e':h.get? b=some o:=zGo (trk h H) e;refine⟨e',?_⟩;cases q:H b with
 |none=>rfl
 |some x=>
  have hm:b∈trk h H:=zAa.mpr ⟨zCP.mpr (zAV e'),by simp[q]⟩;have z:(aB3 h H).get? b=none:=PySem.W.hideAll_none (trk h H) hm;rw[z]at e;cases e
def aLn(g h:Heap)(L:Addr):hZ:=(zAu h.objs.size).filterMap λ a=>if a=L\/(g.get? a).isSome=true then none else(h.get? a).map λ o=>(a,o)
def rest(g h:Heap)(L d:Addr):hZ:=(aLn g h L).filter λ p=>decide (p.1≠d)
structure Mod(K:zAA)(mg:Str->Option Value)(base:Heap):Prop where
 kin:K.In base
 glob:base.Ns zAh mg
 blt:∃mb,base.Ns zIu mb/\∀x:Str,x≠"__name__"->mb x=zAq x
 nolimit:base.NoLimit
structure Cx where
 prog:zA7
 w:World
 K:zAA
 mg:Str->Option Value
 base:Heap
 A:zAk
 N:List Str
 z4:zAG
 zS:Hp
 env:Env
 outer:List Env
 stack:List Env
 ex:List Addr
 fn:Str->Bool
 calm:Bool
 pn:hZ
 xe:Value->zAG->Prop
 ta:hZ:=[]
 tq:Str:=""
def frs(l:List Env):List Addr:=l.filterMap (·.frame)
abbrev Cx.fs(X:Cx):List Addr:=frs X.outer
def Vis(sc:Scope)(x:Str):Prop:=sc.names.lookup x=some .local\/sc.names.lookup x=some .cell\/sc.names.lookup x=some .free
def Loc(sc:Scope)(x:Str):Prop:=sc.names.lookup x=some .local\/sc.names.lookup x=some .cell
def Look(env:Env)(h:Heap)(m:Str->Option Value)(x:Str)(u:Value):Prop:=
 (env.kindOf x=some .local/\m x=some u)\/((env.kindOf x=some .cell\/env.kindOf x=some .free)/\∃c,env.cells.lookup x=some c/\h.IsCell c (some u))
structure Cx.Ok(X:Cx):Prop where
 mod:Mod X.K X.mg X.base
 kind:X.env.scope.kind= .function
 glob:X.env.globals=zAh
 blt:X.env.builtins=zIu
 above:X.z4.heap.objs.size<=X.env.locals
 inj:∀x y c,X.env.cells.lookup x=some c->X.env.cells.lookup y=some c->x=y
 has:∀x,(X.env.kindOf x=some .cell\/X.env.kindOf x=some .free)->∃c,X.env.cells.lookup x=some c
 cab:∀x c,X.fn x=true->X.env.cells.lookup x=some c->X.z4.heap.objs.size<=c
 hd:X.calm=true->X.A.handled=none
 frames:X.A.frames=some X.stack
 stk:X.stack=X.outer\/(X.stack=X.env::X.outer/\X.env.frame=some X.env.locals)
 exf:∀b∈X.ex,b≠X.env.locals/\∀x c,X.env.cells.lookup x=some c->c≠b
 bs:∀b o,X.base.get? b=some o->X.z4.heap.get? b=some o/\X.zS b=none
 bsz:X.base.objs.size<=X.z4.heap.objs.size
 noex:∀b o,X.base.get? b=some o->b∉X.ex
 exfs:∀b∈X.ex,b∉X.fs
 funs:X.z4.heap.FunFrames X.base X.outer
 frf:∀b∈X.fs,X.zS b=none
def aPK(q:Str)(oc:Obj):Prop:=∃vs t,oc.data= .fields vs/\vs[1]? =some (.str q t)
def TabOk(q:Str)(H:Hp)(ps:Array Value):Prop:=TriplesOk ps.toList/\∀pos cv,codeAmong pos ps.toList=some cv->∃c' oc,cv= .ref c'/\H c'=some (.frz oc (.own c'))/\aPK q oc
def TabOk.mono(t:TabOk q H ps)(f:∀b o u,H b=some (.frz o u)->H' b=some (.frz o u)):TabOk q H' ps:=⟨t.1,λ pos cv hc=>let⟨c',oc,z,a,b⟩:=t.2 pos cv hc;⟨c',oc,z,f _ _ _ a,b⟩⟩
structure Inv(X:Cx)(iX:hZ)(σ:List (Option V))(H:Hp)(s:zAG):Prop where
 ok:X.Ok
 os:s.os=X.z4.os
 bare:zEu s.gens
 base:Un X.fs X.ex X.zS H X.z4.heap s.heap
 loc:∃m,s.heap.Ns X.env.locals m/\∀(i:Nat) (x:Str) (v:V),X.N[i]? =some x->σ[i]? =some (some v)->Vis X.env.scope x->∃u,RelV v u/\Look X.env s.heap m x u
 cell:∀x c,X.env.cells.lookup x=some c->∃v,s.heap.IsCell c v
 free:H X.env.locals=none
 freeC:∀x c,X.env.cells.lookup x=some c->H c=none
 pin:∀p∈X.pn++iX,s.heap.get? p.1=some p.2/\H p.1=none/\p.1≠X.env.locals/\p.1∉X.fs/\∀v,p.2.data≠.cell v
 hok:HOk X.prog X.w H s.heap
 len:σ.length=X.N.length
 tab:∀p∈X.ta,H p.1=none/\p.1≠X.env.locals/\p.1∉X.fs/\(∀q∈X.pn++iX,q.1≠p.1)/\∃ps,s.heap.get? p.1=some {cls:=.none,data:=.fields ps}/\TabOk X.tq H ps
section
variable{X:Cx}{iX:hZ}{σ:List (Option V)}{H H':Hp}{s:zAG}{h':Heap}
def Cx.Ok.nofr(ok:X.Ok)(e:X.base.get? b=some o):b∉X.fs:=λ hb=>by
 have:=(ok.funs.mem hb).1
 rw[e]at this;cases this
theorem Inv.bs(I:Inv X iX σ H s):∀b o,X.base.get? b=some o->s.heap.get? b=some o/\H b=none:=λ b o e=>
 ⟨I.base.keep b o (I.ok.bs b o e).1 (I.ok.bs b o e).2 (I.ok.nofr e) (I.ok.noex b o e),I.base.free b o (I.ok.bs b o e).1 (I.ok.bs b o e).2 (I.ok.noex b o e)⟩
def Inv.bk(I:Inv X iX σ H s):∀b o,X.base.get? b=some o->s.heap.get? b=some o:=λ b o e=>(I.bs b o e).1
theorem Inv.mod(I:Inv X iX σ H s):Mod X.K X.mg X.base:=I.ok.mod
def Inv.kIn(I:Inv X iX σ H s):X.K.In s.heap:=I.ok.mod.kin.keeps I.bk
def Inv.fr(I:Inv X iX σ H s):∃m,Fr X.base X.env.locals s.heap m:=
 let⟨m,hn,_⟩:=I.loc
 ⟨m,hn,I.bk,zAn I.ok.bsz I.ok.above⟩
theorem Inv.lt(I:Inv X iX σ H s):X.env.locals<s.heap.objs.size:=let⟨_,hn,_⟩:=I.loc;hn.lt
def Inv.sz(I:Inv X iX σ H s):X.z4.heap.objs.size<=s.heap.objs.size:=zAn I.ok.above (zB1 I.lt)
def Inv.nofs(I:Inv X iX σ H s)(h:s.heap.objs.size<=a):a∉X.fs:=λ hb=>by
 obtain⟨_,o,ho,_⟩:=I.ok.funs.mem hb;exact absurd (zA4 (zAV ho) (zAn I.sz h)) (zBq _)
def Inv.cne(I:Inv X iX σ H s):∀x c,X.env.cells.lookup x=some c->c≠X.env.locals:=λ x c e z=>by
 obtain⟨v,o,ho,hd⟩:=I.cell x c e;obtain⟨m,⟨o',es,ep,ho',hd',_⟩,_⟩:=I.loc;rw[z,ho']at ho;cases ho;rw[hd']at hd;cases hd
theorem Inv.funs(I:Inv X iX σ H s):s.heap.FunFrames X.base X.outer:=by
 have all:∀(l:List Env),(∀b∈frs l,b∈X.fs)->X.z4.heap.FunFrames X.base l->s.heap.FunFrames X.base l:=by
  intro l;induction l with
  |nil=>intro _ _;trivial
  |cons env r ih=>
   intro hs hl;obtain⟨hk,⟨L,o,hf,hn,ho,hd⟩,hr⟩:=hl;have hL:L∈X.fs:=hs L (by unfold frs;rw[zBj,hf];exact zAH);obtain⟨sl,e⟩:=I.base.slot L o ho (I.ok.frf L hL) hL λ z=>I.ok.exfs L z hL
   exact⟨hk,⟨L,_,hf,hn,e,hd⟩,ih (λ b hb=>hs b (by unfold frs;rw[zBj,hf];exact zAF _ hb)) hr⟩
 exact all X.outer (λ _ hb=>hb) I.ok.funs
theorem Inv.stack(I:Inv X iX σ H s):s.heap.FunFrames X.base X.stack:=by
 rcases I.ok.stk with e|⟨e,hf⟩
 .rw[e];exact I.funs
 .rw[e]
  obtain⟨m,hn,_⟩:=I.loc;refine .cons (by rw[I.ok.kind];decide) hf hn ?_ I.funs;exact Heap.get?_none_of_le (zAn I.ok.bsz I.ok.above)
def Inv.stkSub(I:Inv X iX σ H s):∀b∈frs X.stack,b∈X.env.locals::X.fs:=λ b hb=>by
 rcases I.ok.stk with e|⟨e,hf⟩
 .rw[e]at hb;exact zAF _ hb
 .rw[e]at hb
  unfold frs at hb;rw[zBj,hf]at hb;exact hb
def Inv.stkFree(I:Inv X iX σ H s):∀b∈frs X.stack,H b=none:=λ b hb=>by
 rcases zAL.mp (I.stkSub b hb)with e|hb
 .rw[e];exact I.free
 .obtain⟨_,o,ho,_⟩:=I.ok.funs.mem hb
  exact I.base.free b o ho (I.ok.frf b hb) λ z=>I.ok.exfs b z hb
def Inv.step{g':Array zDc}{t':Nat}{d':Drawn}{ch:List Addr}(I:Inv X iX σ H s)
  (hch:∀b∈ch,(b∈X.ex\/X.z4.heap.objs.size<=b)/\b≠X.env.locals/\(∀x c,X.env.cells.lookup x=some c->c≠b)/\∀p∈X.ta++(X.pn++iX),p.1≠b)
  (keep:∀b o,b≠X.env.locals->b∉X.fs->b∉ch->s.heap.get? b=some o->H b=none->h'.get? b=some o)
  (slot:∀b o,b≠X.env.locals->b∈X.fs->b∉ch->s.heap.get? b=some o->H b=none->∃sl,h'.get? b=some {o with slots:=sl})(free:∀b o,b∉ch->s.heap.get? b=some o->H b=none->H' b=none)
  (there:∀b o,b∉ch->s.heap.get? b=some o->∃o',h'.get? b=some o')
  (tups:∀b xs,H b=some (.tup xs)->H' b=some (.tup xs))(frzs:∀b o u,H b=some (.frz o u)->H' b=some (.frz o u))(tbls:∀b ps,H b=some (.tbl ps)->∃more,H' b=some (.tbl (ps++more)))
  (ns:∀m,s.heap.Ns X.env.locals m->h'.Ns X.env.locals m)(hok:HOk X.prog X.w H' h')(hg:zEu g'):
  Inv X iX σ H' {s with heap:=h',gens:=g',drawn:=d',toks:=t'}:=by
 have neL:∀b o,X.z4.heap.get? b=some o->b≠X.env.locals:=λ b o e=>zA8 (zA4 (zAV e) I.ok.above)
 have neC:∀b o,X.z4.heap.get? b=some o->b∉X.ex->b∉ch:=λ b o e hx hb=>by
  rcases(hch b hb).1 with z|z
  .exact hx z
  .exact absurd (zA4 (zAV e) z) (zBq _)
 have dE:∀x c,X.env.cells.lookup x=some c->∀v,s.heap.IsCell c v->h'.IsCell c v:=λ x c e v ⟨o,ho,hd⟩=>by
  have nch:c∉ch:=λ z=>(hch c z).2.2.1 x c e rfl
  by_cases hc:c∈X.fs
  .obtain⟨sl,q⟩:=slot c o (I.cne x c e) hc nch ho (I.freeC x c e)
   exact⟨_,q,hd⟩
  .exact⟨o,keep c o (I.cne x c e) hc nch ho (I.freeC x c e),hd⟩
 refine⟨I.ok,I.os,hg,⟨λ b o e n hb hx=>?_,λ b o e n hb hx=>?_,λ b o e n hx=>?_,λ b o e hx=>?_,λ b xs e=>tups b xs (I.base.tups b xs e),λ b o xs e=>frzs b o xs (I.base.frzs b o xs e),λ b ps e=>?_⟩,?_,λ x c e=>?_,?_,λ x c e=>?_,λ p hp=>?_,hok,I.len,λ p hp=>?_⟩
 .exact keep b o (neL b o e) hb (neC b o e hx) (I.base.keep b o e n hb hx) (I.base.free b o e n hx)
 .obtain⟨sl,e1⟩:=I.base.slot b o e n hb hx
  obtain⟨sl',e2⟩:=slot b _ (neL b o e) hb (neC b o e hx) e1 (I.base.free b o e n hx);exact⟨sl',e2⟩
 .obtain⟨o',e1⟩:=I.base.there b o e hx
  exact free b o' (neC b o e hx) e1 (I.base.free b o e n hx)
 .obtain⟨o',e1⟩:=I.base.there b o e hx
  exact there b o' (neC b o e hx) e1
 .obtain⟨m1,e1⟩:=I.base.tbls b ps e
  obtain⟨m2,e2⟩:=tbls b _ e1;exact⟨m1++m2,by rw[e2,zHE]⟩
 .obtain⟨m,hn,hl⟩:=I.loc
  refine⟨m,ns m hn,λ i x v e1 e2 e3=>?_⟩;obtain⟨u,r,l⟩:=hl i x v e1 e2 e3;refine⟨u,r,?_⟩;rcases l with l|⟨k,c,e,z⟩
  .exact .inl l
  .exact .inr ⟨k,c,e,dE x c e _ z⟩
 .obtain⟨v,z⟩:=I.cell x c e
  exact⟨v,dE x c e v z⟩
 .obtain⟨m,⟨o,_,_,ho,_⟩,_⟩:=I.loc
  exact free _ o (λ z=>(hch _ z).2.1 rfl) ho I.free
 .obtain⟨v,o,ho,hd⟩:=I.cell x c e
  exact free c o (λ z=>(hch c z).2.2.1 x c e rfl) ho (I.freeC x c e)
 .obtain⟨e,n,ne,nf,d⟩:=I.pin p hp
  have nch:p.1∉ch:=λ z=>(hch p.1 z).2.2.2 p (zA5 _ hp) rfl
  exact⟨keep p.1 p.2 ne nf nch e n,free p.1 p.2 nch e n,ne,nf,d⟩
 .obtain⟨n,ne,nf,np,ps,e,t⟩:=I.tab p hp
  have nch:p.1∉ch:=λ z=>(hch p.1 z).2.2.2 p (zAQ _ hp) rfl
  exact⟨free p.1 _ nch e n,ne,nf,np,ps,keep p.1 _ ne nf nch e n,t.mono frzs⟩
def Inv.pinL(I:Inv X iX σ H s)(hp:p∈X.ta++(X.pn++iX)):p.1<s.heap.objs.size:=by
 rcases zAU.mp hp with z|z
 .obtain⟨_,_,_,_,_,e,_⟩:=I.tab p z
  exact zAV e
 .exact zAV (I.pin p z).1
def Inv.un{t':Nat}(I:Inv X iX σ H s)(u:Un X.fs [] H H' s.heap h')(hok:HOk X.prog X.w H' h'):Inv X iX σ H' {s with heap:=h',toks:=t'}:=by
 obtain⟨m,⟨o,es,ep,ho,r⟩,_⟩:=id I.loc;obtain⟨sl,hL⟩:=u.any ho I.free (by simp);exact I.step (g':=s.gens) (d':=s.drawn) (ch:=[]) (λ _ z=>nomatch z) (λ b o _ hb _ e n=>u.keep b o e n hb (by simp)) (λ b o _ hb _ e n=>u.slot b o e n hb (by simp)) (λ b o _ e n=>u.free b o e n (by simp)) (λ b o _ e=>u.there b o e (by simp)) u.tups u.frzs u.tbls (λ m' hm=>by
  obtain⟨o',es',ep',ho',r'⟩:=hm;rw[ho]at ho';cases ho';exact⟨_,es',ep',hL,r'⟩) hok I.bare
def Inv.call{g':Array zDc}{t':Nat}{d':Drawn}{ch:List Addr}(I:Inv X iX σ H s)(u:Un (frs X.stack) ch H H' s.heap h')(hok:HOk X.prog X.w H' h')(hg:zEu g')
  (hch:∀b∈ch,(b∈X.ex\/X.z4.heap.objs.size<=b)/\b≠X.env.locals/\(∀x c,X.env.cells.lookup x=some c->c≠b)/\∀p∈X.ta++(X.pn++iX),p.1≠b):
  Inv X iX σ H' {s with heap:=h',gens:=g',drawn:=d',toks:=t'}:=by
 obtain⟨m,⟨o,es,ep,ho,r⟩,_⟩:=id I.loc;obtain⟨sl,hL⟩:=u.any ho I.free λ z=>(hch _ z).2.1 rfl
 exact I.step (ch:=ch) hch (λ b o hL hb hc e n=>u.keep b o e n (λ z=>(zAL.mp (I.stkSub b z)).elim hL hb) hc) (λ b o _ _ hc e n=>u.any e n hc) (λ b o hc e n=>u.free b o e n hc) (λ b o hc e=>u.there b o e hc) u.tups u.frzs u.tbls (λ m' hm=>by
  obtain⟨o',es',ep',ho',r'⟩:=hm;rw[ho]at ho';cases ho';exact⟨_,es',ep',hL,r'⟩) hok hg
def Inv.turned{t':Nat}{it:Addr}(I:Inv X iX σ H s)(k:∀b o,b≠it->s.heap.get? b=some o->h'.get? b=some o)(hn:H it=none)(hL:it≠X.env.locals)
  (h1:it∈X.ex\/X.z4.heap.objs.size<=it)(h2:∀x c,X.env.cells.lookup x=some c->c≠it)(h3:∀p∈X.ta++(X.pn++iX),p.1≠it):Inv X iX σ H {s with heap:=h',toks:=t'}:=by
 have nit:∀b u,H b=some u->b≠it:=λ b u e z=>by rw[z,hn]at e;cases e
 refine I.step (g':=s.gens) (d':=s.drawn) (ch:=[it]) (λ b hb=>?_) (λ b o _ _ hc e _=>k b o (λ z=>hc (by simp[z])) e) (λ b o _ _ hc e _=>⟨o.slots,k b o (λ z=>hc (by simp[z])) e⟩) (λ _ _ _ _ n=>n)
  (λ b o hc e=>⟨o,k b o (λ z=>hc (by simp[z])) e⟩) (λ _ _ e=>e) (λ _ _ _ e=>e) (λ b ps e=>⟨#[],by rw[e];simp⟩) (λ m hm=>?_) (λ b u e=>?_) I.bare
 .have e:b=it:=by simpa using hb
  subst e;exact⟨h1,hL,h2,h3⟩
 .obtain⟨o,es,ep,ho,r⟩:=hm
  exact⟨o,es,ep,k _ o (zEG hL) ho,r⟩
 .refine(I.hok b u e).stay (λ c v hc q=>k c v ?_ q) (λ _ q=>q) λ _ _ q=>q
  rcases hc with z|z
  .rw[z];exact nit b u e
  .exact nit c _ z
def Inv.tok(I:Inv X iX σ H s)(t:Nat):Inv X iX σ H {s with toks:=t}:=I.un (h':=s.heap) (t':=t) Un.refl I.hok
theorem Inv.kept(I:Inv X iX σ H s)(k:∀b u,s.heap.get? b=some u->h'.get? b=some u):Inv X iX σ H {s with heap:=h',toks:=t'}:=I.un (Un.kept k) (I.hok.kept k)
theorem Inv.laid(I:Inv X iX σ H s)(k:∀b u,s.heap.get? b=some u->h'.get? b=some u)(hp:s.heap.objs.size<=a)(new:dX X.prog X.w (upd H a o) h' a o):
  Inv X iX σ (upd H a o) {s with heap:=h',toks:=t'}:=I.un (Un.laid k hp (I.hok.fresh hp)) (I.hok.laid k hp new)
theorem Inv.write(I:Inv X iX σ H s)(mu:Mut (H x))(he:e=x\/H e=some (.own x))(k:∀b u,b≠e->s.heap.get? b=some u->h'.get? b=some u)(heo:∃u,h'.get? e=some u)
  (new:dX X.prog X.w (upd H x o) h' x o):Inv X iX σ (upd H x o) {s with heap:=h',toks:=t'}:=I.un (Un.write mu he k heo) (I.hok.write mu he k heo new)
def Inv.weak(I:Inv X iX σ H s)(hl:σ'.length=σ.length)(w:∀(i:Nat) v,σ'[i]? =some (some v)->σ[i]? =some (some v)):Inv X iX σ' H s:=
 ⟨I.ok,I.os,I.bare,I.base,let⟨m,hn,hl'⟩:=I.loc;⟨m,hn,λ i x v e1 e2 e3=>hl' i x v e1 (w i v e2) e3⟩,I.cell,I.free,I.freeC,I.pin,I.hok,hl.trans I.len,I.tab⟩
def Inv.pins_of(I:Inv X iX σ H s)(h:∀p∈pins',s.heap.get? p.1=some p.2/\H p.1=none/\p.1≠X.env.locals/\p.1∉X.fs/\∀v,p.2.data≠.cell v)(h2:∀q∈pins',∀p∈X.ta,q.1≠p.1):Inv X pins' σ H s:=
 ⟨I.ok,I.os,I.bare,I.base,I.loc,I.cell,I.free,I.freeC,λ p hp=>(zAU.mp hp).elim (λ z=>I.pin p (zAQ _ z)) (h p),I.hok,I.len,λ p hp=>let⟨a,b,c,d,e⟩:=I.tab p hp;⟨a,b,c,λ q hq=>(zAU.mp hq).elim (λ z=>d q (zAQ _ z)) (λ z=>h2 q z p hp),e⟩⟩
def aCa{N:List Str}(hN:N.Nodup){i j:Nat}{x:Str}(a:N[i]? =some x)(b:N[j]? =some x):i=j:=by
 obtain⟨h1,e1⟩:=zAJ.mp a;obtain⟨h2,e2⟩:=zAJ.mp b;exact(List.getElem_inj hN).mp (e1.trans e2.symm)
def uo{M:Model}{A:zAk}{E:Value->zAG->Prop}{i:Nat}{x:Str}{v:V}{u:Value}{Q:Unit->zAG->Prop}(I:Inv X iX σ H s)(hN:X.N.Nodup)(hi:X.N[i]? =some x)(hx:Loc X.env.scope x)(r:RelV v u)
  (h:∀s',Inv X iX (σ.set i (some v)) H s'->(∃a,zE0 a s.heap s'.heap/\(a=X.env.locals\/X.env.cells.lookup x=some a))->Q () s')(hf:X.fn x=true\/X.env.scope.names.lookup x=some .local:=by first|exact .inl rfl|exact .inr rfl|assumption):wpAny M A (storeName X.env x u) Q E s:=by
 obtain⟨m,hn,hl⟩:=id I.loc;have hcls:(X.env.scope.kind== .class||(X.env.scope.kind== .module&&X.env.locals !=X.env.globals))=false:=by rw[I.ok.kind];rfl
 have hiσ:i<σ.length:=by rw[I.len];exact(zAJ.mp hi).1
 have cne:=I.cne;have b6:∀{a:Addr} {h':Heap},(∃o,s.heap.get? a=some o/\H a=none)->zE0 a s.heap h'->HOk X.prog X.w H h':=λ{a h'} ha hs b ob e=>by
  obtain⟨_,_,hfree⟩:=ha;refine(I.hok b ob e).stay (λ c w' hc q=>(hs.2 c ?_).trans q) (λ _ q=>q) λ _ _ q=>q
  rintro rfl;rcases hc with rfl|hc
  .rw[hfree]at e;cases e
  .rw[hfree]at hc;cases hc
 rcases hx with hk|hk
 .refine wpAny_storeName_local hk hn (λ h' hn' hs=>?_) hcls
  obtain⟨oL,_,_,hoL,_⟩:=id hn;refine h _ ⟨I.ok,I.os,I.bare,⟨λ b o e n hb hx=>?_,λ b o e n hb hx=>?_,I.base.free,λ b o e hx=>?_,I.base.tups,I.base.frzs,I.base.tbls⟩,⟨_,hn',λ j y v' e1 e2 e3=>?_⟩,λ y c e=>?_,I.free,I.freeC,λ p hp=>?_,b6 ⟨oL,hoL,I.free⟩ hs,by simpa using I.len,λ p hp=>?_⟩ ⟨_,hs,.inl rfl⟩
  .exact(hs.2 b (zA8 (zA4 (zAV e) I.ok.above))).trans (I.base.keep b o e n hb hx)
  .obtain⟨sl,e1⟩:=I.base.slot b o e n hb hx
   exact⟨sl,(hs.2 b (zA8 (zA4 (zAV e) I.ok.above))).trans e1⟩
  .obtain⟨o',e1⟩:=I.base.there b o e hx
   exact⟨o',(hs.2 b (zA8 (zA4 (zAV e) I.ok.above))).trans e1⟩
  .by_cases hj:j=i
   .subst hj
    rw[hi]at e1;cases e1;rw[zBT hiσ]at e2;cases e2;exact⟨u,r,.inl ⟨hk,by simp⟩⟩
   .rw[zBG (zEG hj)]at e2
    obtain⟨u',r',q⟩:=hl j y v' e1 e2 e3;refine⟨u',r',?_⟩;rcases q with ⟨k,e⟩|⟨k,c,e,z⟩
    .refine .inl ⟨k,?_⟩
     have:y≠x:=λ e=>hj (aCa hN e1 (e▸hi))
     simp[this,e]
    .exact .inr ⟨k,c,e,z.sameBut hs (cne y c e)⟩
  .obtain⟨w',z⟩:=I.cell y c e
   exact⟨w',z.sameBut hs (cne y c e)⟩
  .obtain⟨e,n,ne,nf,d⟩:=I.pin p hp
   exact⟨(hs.2 p.1 ne).trans e,n,ne,nf,d⟩
  .obtain⟨n,ne,nf,np,ps,e,t⟩:=I.tab p hp
   exact⟨n,ne,nf,np,ps,(hs.2 p.1 ne).trans e,t⟩
 .have hfn:X.fn x=true:=by
   rcases hf with z|z
   .exact z
   .rw[z]at hk;cases hk
  obtain⟨c,hc⟩:=I.ok.has x (.inl hk);obtain⟨w',z⟩:=I.cell x c hc;refine wpAny_storeName_cell I.ok.kind hk hc z (λ h' hc' hs=>?_);obtain⟨oc,hoc,hocd⟩:=id z;refine h {s with heap:=h'} ⟨I.ok,I.os,I.bare,⟨λ b o e n hb hx=>?_,λ b o e n hb hx=>?_,I.base.free,λ b o e hx=>?_,I.base.tups,I.base.frzs,I.base.tbls⟩,⟨m,hn.sameBut hs (zEG (cne x c hc)),λ j y v' e1 e2 e3=>?_⟩,λ y c' e=>?_,I.free,I.freeC,λ p hp=>?_,b6 ⟨oc,hoc,I.freeC x c hc⟩ hs,by simpa using I.len,λ p hp=>?_⟩ ⟨c,hs,.inr hc⟩
  .exact(hs.2 b (zA8 (zA4 (zAV e) (I.ok.cab x c hfn hc)))).trans (I.base.keep b o e n hb hx)
  .obtain⟨sl,e1⟩:=I.base.slot b o e n hb hx
   exact⟨sl,(hs.2 b (zA8 (zA4 (zAV e) (I.ok.cab x c hfn hc)))).trans e1⟩
  .obtain⟨o',e1⟩:=I.base.there b o e hx
   exact⟨o',(hs.2 b (zA8 (zA4 (zAV e) (I.ok.cab x c hfn hc)))).trans e1⟩
  .by_cases hj:j=i
   .subst hj
    rw[hi]at e1;cases e1;rw[zBT hiσ]at e2;cases e2;exact⟨u,r,.inr ⟨.inl hk,c,hc,hc'⟩⟩
   .rw[zBG (zEG hj)]at e2
    obtain⟨u',r',q⟩:=hl j y v' e1 e2 e3;refine⟨u',r',?_⟩;rcases q with q|⟨k,c',e,z'⟩
    .exact .inl q
    .refine .inr ⟨k,c',e,z'.sameBut hs ?_⟩
     rintro rfl;exact hj (aCa hN e1 (I.ok.inj _ _ _ e hc▸hi))
  .by_cases hcc:c'=c
   .subst hcc;exact⟨_,hc'⟩
   .obtain⟨w2,z2⟩:=I.cell y c' e
    exact⟨w2,z2.sameBut hs hcc⟩
  .obtain⟨e,n,ne,nf,d⟩:=I.pin p hp
   refine⟨(hs.2 p.1 ?_).trans e,n,ne,nf,d⟩;intro q;rw[q,hoc]at e;have q':oc=p.2:=zAl e;exact d w' (by rw[<-q'];exact hocd)
  .obtain⟨n,ne,nf,np,ps,e,t⟩:=I.tab p hp
   refine⟨n,ne,nf,np,ps,(hs.2 p.1 ?_).trans e,t⟩;intro q;rw[q,hoc]at e;rw[zAl e]at hocd;cases hocd
def xQ(I:Inv X iX σ H s)(hN:X.N.Nodup)(hi:X.N[i]? =some x)(hx:Loc X.env.scope x)(r:RelV v u)
  (h:∀s',Inv X iX (σ.set i (some v)) H s'->Q () s')(hf:X.fn x=true\/X.env.scope.names.lookup x=some .local:=by first|exact .inl rfl|exact .inr rfl|assumption):wpAny M A (storeName X.env x u) Q E s:=
 uo I hN hi hx r (λ s' I' _=>h s' I') hf
def Inv.call'(I:Inv X iX σ H s)(ho:s'.os=s.os)(u:Un (frs X.stack) ch H H' s.heap s'.heap)(hok:HOk X.prog X.w H' s'.heap)(hg:zEu s'.gens)
  (hch:∀b∈ch,(b∈X.ex\/X.z4.heap.objs.size<=b)/\b≠X.env.locals/\(∀x c,X.env.cells.lookup x=some c->c≠b)/\∀p∈X.ta++(X.pn++iX),p.1≠b):Inv X iX σ H' s':=by
 obtain⟨h',g',d',t',o'⟩:=s';have e:o'=s.os:=ho;subst e;exact I.call (g':=g') (t':=t') (d':=d') u hok hg hch
end
abbrev XK:=Value->Option Addr->Hp->Prop
abbrev St:=List (Option V)
abbrev VK:=V->Hp->Prop
abbrev TE:=St->Hp->VK->Prop
abbrev TT:=St->Hp->(Bool->Hp->Prop)->Prop
abbrev TA:=St->Hp->(List V->Hp->Prop)->Prop
structure Ends where
 nx:St->Hp->Prop
 rt:VK
 bk:St->Hp->Prop:=λ _ _=>False
 ct:St->Hp->Prop:=λ _ _=>False
abbrev TS:=Ends->St->Hp->Prop
def EP(X:Cx)(iX:hZ)(σ:St)(Q:VK)(u:Value)(s':zAG):Prop:=∃v H',Inv X iX σ H' s'/\RelV v u/\Q v H'
def TP(X:Cx)(iX:hZ)(σ:St)(Q:Bool->Hp->Prop)(b:Bool)(s':zAG):Prop:=∃H',Inv X iX σ H' s'/\Q b H'
def AP(X:Cx)(iX:hZ)(σ:St)(Q:List V->Hp->Prop)(us:List Value)(s':zAG):Prop:=∃vs H',Inv X iX σ H' s'/\Vals vs us/\Q vs H'
def SP(X:Cx)(iX:hZ)(D:Ends)(f:Flow)(s':zAG):Prop:=
 match f with
 | .next=>∃σ' H',Inv X iX σ' H' s'/\D.nx σ' H'
 | .brk=>∃σ' H',Inv X iX σ' H' s'/\D.bk σ' H'
 | .cont=>∃σ' H',Inv X iX σ' H' s'/\D.ct σ' H'
 | .ret u=>∃v σ' H',Inv X iX σ' H' s'/\RelV v u/\D.rt v H'
def PE(X:Cx)(e:Expr)(t:TE):Prop:=
 ∀(iX:hZ) (s:zAG) (σ:St) (H:Hp) (Q:VK),Inv X iX σ H s->t σ H Q->wpAny (model X.prog X.w) X.A (eval e X.env) (EP X iX σ Q) X.xe s
def PT(X:Cx)(e:Expr)(t:TT):Prop:=
 ∀(iX:hZ) (s:zAG) (σ:St) (H:Hp) (Q:Bool->Hp->Prop),Inv X iX σ H s->t σ H Q->wpAny (model X.prog X.w) X.A (isTrue e X.env (eval e X.env)) (TP X iX σ Q) X.xe s
def PW(X:Cx)(e:Expr)(t:TT):Prop:=
 ∀(whole:Sem Value) (iX:hZ) (s:zAG) (σ:St) (H:Hp) (Q:Bool->Hp->Prop),Inv X iX σ H s->t σ H Q->wpAny (model X.prog X.w) X.A (isTrue e X.env whole) (TP X iX σ Q) X.xe s
def PW.pt(h:PW X e t):PT X e t:=h _
def PA(X:Cx)(es:List Expr)(t:TA):Prop:=
 ∀(pos:Pos) (iX:hZ) (s:zAG) (σ:St) (H:Hp) (Q:List V->Hp->Prop),Inv X iX σ H s->t σ H Q->wpAny (model X.prog X.w) X.A (spliced (zCo pos (zA1 es X.env))) (AP X iX σ Q) X.xe s
def PS(X:Cx)(st:Stmt)(t:TS):Prop:=
 ∀(iX:hZ) (s:zAG) (σ:St) (H:Hp) (D:Ends),Inv X iX σ H s->t D σ H->wpAny (model X.prog X.w) X.A (exec st X.env) (SP X iX D) X.xe s
def PSs(X:Cx)(st:List Stmt)(t:TS):Prop:=
 ∀(iX:hZ) (s:zAG) (σ:St) (H:Hp) (D:Ends),Inv X iX σ H s->t D σ H->wpAny (model X.prog X.w) X.A (execs st X.env) (SP X iX D) X.xe s
def thn(h:wpAny M A t Q E s)(hQ:∀a s,Q a s->Q' a s):wpAny M A t Q' E s:=zB5 h hQ λ _ _ x=>x
section
variable{X:Cx}
def xO(i:Nat):TE:=λ σ H Q=>∃v,σ[i]? =some (some v)/\Q v H
def tC(v:V):TE:=λ _ H Q=>Q v H
abbrev _root_.Nd(x:PySem.Str):Prop:=(x==("__debug__":PySem.Str))=false
def mH(hN:X.N[i]? =some x)(hv:Vis X.env.scope x)(hd:Nd x:=by decide)(hcd:(x==("__classdict__":Str))=false:=by decide):PE X (.Name x pos) (xO i):=by
 intro iX s σ H Q I h;obtain⟨v,e,h⟩:=h;obtain⟨m,hn,hl⟩:=I.loc;obtain⟨u,r,l⟩:=hl i x v hN e hv;have fin:EP X iX σ Q u s:=⟨v,H,I,r,h⟩;rcases l with ⟨hk,hm⟩|⟨hk,c,hc,hcell⟩
 .exact zIx (zIU I.ok.kind hk hn hm fin) hd
 .rcases hk with hk|hk
  .exact zIx (zI5 I.ok.kind hk hc hcell fin) hd
  .exact zIx (wpAny_loadName_free I.ok.kind hk hc hcell fin hcd) hd
def aIS{i j pos}:PE X (.Constant (.int i) j pos) (tC (.int i)):=λ _ _ _ H _ I h=>wpAny_Constant_int ⟨.int i,H,I.tok _,⟨_,rfl⟩,h⟩
def aOc{b j pos}:PE X (.Constant (.bool b) j pos) (tC (.bl b)):=λ _ _ _ H _ I h=>Constant_bool ⟨.bl b,H,I,rfl,h⟩
def aNH{j pos}:PE X (.Constant .none j pos) (tC .non):=λ _ _ _ H _ I h=>Constant_none ⟨.non,H,I,rfl,h⟩
def aNE{x j pos}:PE X (.Constant (.str x) j pos) (tC (.str x)):=λ _ _ _ H _ I h=>Calls.Constant_str ⟨.str x,H,I.tok _,⟨_,rfl⟩,h⟩
def Gl(X:Cx)(x:Str):Prop:=X.env.kindOf x=some .globalImplicit
def aBT(I:Inv X iX σ H s)(hg:Gl X x)(hm:X.mg x=some u)(h:Q u s)
  (hd:Nd x:=by decide):wpAny (model X.prog X.w) X.A (eval (.Name x pos) X.env) Q E s:=
 zFo I.ok.kind hg (Calls.loadGlobal_global (by rw[I.ok.glob];exact I.mod.glob.keeps I.bk) hm h) hd
def sO(I:Inv X iX σ H s)(hg:Gl X x)(hm:X.mg x=none)(hv:zAq x=some u)(h:Q u s)
  (hn:x≠"__name__":=by decide)(hd:Nd x:=by decide):wpAny (model X.prog X.w) X.A (eval (.Name x pos) X.env) Q E s:=by
 obtain⟨mb,h1,h2⟩:=I.mod.blt;exact zFo I.ok.kind hg (Calls.loadGlobal_builtin (by rw[I.ok.glob];exact I.mod.glob.keeps I.bk) hm (by rw[I.ok.blt];exact h1.keeps I.bk) ((h2 x hn).trans hv) h) hd
def aK9(hg:Gl X x)(hm:X.mg x=some u)(r:RelV v u)(hd:Nd x:=by decide):PE X (.Name x pos) (tC v):=
 λ _ _ _ H _ I h=>aBT I hg hm ⟨v,H,I,r,h⟩ hd
def aKc(hg:Gl X x)(hm:X.mg x=none)(hv:zAq x=some u)(r:RelV v u)(hn:x≠"__name__":=by decide)(hd:Nd x:=by decide):PE X (.Name x pos) (tC v):=
 λ _ _ _ H _ I h=>sO I hg hm hv ⟨v,H,I,r,h⟩ hn hd
variable{a b:Expr}{ta tb:TE}{pos:Pos}
variable{tA tB':TT}{rest:List Expr}
def aPW(t u:TT):TT:=λ σ H Q=>t σ H λ c H1=>if c=true then u σ H1 Q else Q false H1
def tOr(t u:TT):TT:=λ σ H Q=>t σ H λ c H1=>if c=true then Q true H1 else u σ H1 Q
def aPR(t:TT):TT:=λ σ H Q=>t σ H λ c H1=>Q (!c) H1
def aKZ(ha:PT X a tA):PW X (.BoolOp .And [a] pos) tA:=by
 intro wh iX s σ H Q I h;refine isTrue_and (thn (ha iX s σ H Q I h) λ c s1 e=>?_);cases c with
 |true=>exact isTrue_and_nil e
 |false=>exact e
def aMq(ha:PT X a tA):PW X (.BoolOp .Or [a] pos) tA:=by
 intro wh iX s σ H Q I h;refine isTrue_or (thn (ha iX s σ H Q I h) λ c s1 e=>?_);cases c with
 |false=>exact isTrue_or_nil e
 |true=>exact e
def aMr(ha:PT X a tA)(hb:PW X (.BoolOp .And (b::rest) pos) tB'):PW X (.BoolOp .And (a::b::rest) pos) (aPW tA tB'):=by
 intro wh iX s σ H Q I h;refine isTrue_and (thn (ha iX s σ H _ I h) λ c s1 ⟨H1,I1,q1⟩=>?_);cases c with
 |true=>exact hb wh iX s1 σ H1 Q I1 q1
 |false=>exact⟨H1,I1,q1⟩
def aO8(ha:PT X a tA)(hb:PW X (.BoolOp .Or (b::rest) pos) tB'):PW X (.BoolOp .Or (a::b::rest) pos) (tOr tA tB'):=by
 intro wh iX s σ H Q I h;refine isTrue_or (thn (ha iX s σ H _ I h) λ c s1 ⟨H1,I1,q1⟩=>?_);cases c with
 |true=>exact⟨H1,I1,q1⟩
 |false=>exact hb wh iX s1 σ H1 Q I1 q1
def aMt(ha:PT X a tA):PT X (.UnaryOp .Not a pos) (aPR tA):=by
 intro iX s σ H Q I h;exact isTrue_not (ha iX s σ H (λ c H1=>Q (!c) H1) I h)
def aOU(ta tb:TE):TE:=λ σ H Q=>ta σ H λ x H1=>∃c,x= .bl c/\if c=true then tb σ H1 Q else Q (.bl false) H1
def aOQ(ta:TE):TE:=λ σ H Q=>ta σ H λ x H1=>∃c,x= .bl c/\Q (.bl (!c)) H1
def aNF{op}(h:PE X a t):PE X (.BoolOp op [a] pos) t:=λ iX s σ H Q I hw=>BoolOp_one (h iX s σ H Q I hw)
def aNJ(ha:PE X a ta)(hb:PE X (.BoolOp .And (b::rest) pos) tb):PE X (.BoolOp .And (a::b::rest) pos) (aOU ta tb):=by
 intro iX s σ H Q I h;refine BoolOp_and (thn (ha iX s σ H _ I h) λ v s1 ⟨x,H1,I1,r1,q1⟩=>?_);obtain⟨c,rfl,q1⟩:=q1;cases r1;refine zBu ?_;cases c with
 |true=>exact hb iX s1 σ H1 Q I1 q1
 |false=>exact⟨.bl false,H1,I1,rfl,q1⟩
def aNG(ha:PE X a ta):PE X (.UnaryOp .Not a pos) (aOQ ta):=by
 intro iX s σ H Q I h;refine UnaryOp_ (thn (ha iX s σ H _ I h) λ v s1 ⟨x,H1,I1,r1,q1⟩=>?_);obtain⟨c,rfl,q1⟩:=q1;cases r1;exact not_of (zBu ⟨.bl (!c),H1,I1,rfl,q1⟩)
def tIf(t:TT)(ta tb:TE):TE:=λ σ H Q=>t σ H λ c H1=>if c=true then ta σ H1 Q else tb σ H1 Q
def aIT(hc:PT X c tA)(ha:PE X a ta)(hb:PE X b tb):PE X (.IfExp c a b pos) (tIf tA ta tb):=by
 intro iX s σ H Q I h;refine wpAny_IfExp (thn (hc iX s σ H _ I h) λ d s1 ⟨H1,I1,q1⟩=>?_);cases d with
 |true=>exact ha iX s1 σ H1 Q I1 q1
 |false=>exact hb iX s1 σ H1 Q I1 q1
end
def SqL(K:zAA)(H:Hp)(a:Addr)(xs:List V):Prop:=
 Rd H a (.lst xs)\/
  ∃(o:Obj) (its:Array Value) (n:Nat),K.lookup a=some o/\o.cls= .type "list"/\o.dict=none/\o.data= .seq its n/\its.size<=zAY/\Vals xs its.toList
def SqT(K:zAA)(H:Hp)(a:Addr)(xs:List V):Prop:=
 Rd H a (.tup xs)\/
  ∃(o:Obj) (its:Array Value) (n:Nat),K.lookup a=some o/\o.cls= .type "tuple"/\o.dict=none/\o.data= .seq its n/\its.size<=zAY/\Vals xs its.toList
def aP4:Value->Option V
 | .none=>some .non
 | .bool b=>some (.bl b)
 | .int i _=>some (.int i)
 | .str x _=>some (.str x)
 | .bytes b _=>some (.byt b)
 | .float b _=>some (.flt b)
 | .ref a=>some (.ref a)
 | .type n=>some (.ty n)
 |_=>none
def RelV.abs(r:RelV x u):aP4 u=some x:=by
 cases x with
 |non=>cases r;rfl
 |bl _=>cases r;rfl
 |int _=>obtain⟨t,rfl⟩:=r;rfl
 |str _=>obtain⟨t,rfl⟩:=r;rfl
 |byt _=>obtain⟨t,rfl⟩:=r;rfl
 |flt _=>obtain⟨t,rfl⟩:=r;rfl
 |ref _=>cases r;rfl
 |ty _=>cases r;rfl
def RelV.inj(r:RelV x u)(q:RelV y u):x=y:=zAl (r.abs.symm.trans q.abs)
theorem Vals.inj:∀{xs ys:List V} {us:List Value},Vals xs us->Vals ys us->xs=ys
 |_,_,_,.nil,.nil=>rfl
 |_,_,_,.cons r t,.cons r' t'=>by rw[r.inj r',Vals.inj t t']
section
variable{X:Cx}{iX:hZ}{σ:St}{H:Hp}{s:zAG}{a:Addr}{xs ys:List V}
def SqL.of{K:zAA}(h:H a=some (.lst xs)):SqL K H a xs:=.inl (.inl h)
def SqT.of{K:zAA}(h:H a=some (.tup xs)):SqT K H a xs:=.inl (.inl h)
def Inv.list(I:Inv X iX σ H s)(h:SqL X.K H a xs):∃its:List Value,Vals xs its/\PlainL s.heap a its.toArray/\xs.length<=zAY:=by
 rcases h with h|⟨o,its,n,hk,hc,hd,hs,hz,r⟩
 .obtain⟨z,its,n,r,e⟩:=h.ok I.hok
  exact⟨its,r,⟨_,n,e,rfl,rfl,rfl⟩,z⟩
 .refine⟨its.toList,r,⟨o,n,I.kIn a o hk,hc,hd,by simpa using hs⟩,?_⟩
  have e:=r.length;simp only[zA9]at e;lia
def Inv.tuple(I:Inv X iX σ H s)(h:SqT X.K H a xs):∃its:List Value,Vals xs its/\IsTup s.heap a its.toArray/\xs.length<=zAY:=by
 rcases h with h|⟨o,its,n,hk,hc,hd,hs,hz,r⟩
 .obtain⟨z,its,r,p⟩:=h.ok I.hok
  exact⟨its,r,p,z.1⟩
 .refine⟨its.toList,r,⟨o,I.kIn a o hk,hc,n,by simpa using hs⟩,?_⟩
  have e:=r.length;simp only[zA9]at e;lia
def Inv.list_inj(I:Inv X iX σ H s)(h:SqL X.K H a xs)(h':SqL X.K H a ys):xs=ys:=by
 obtain⟨its,r,⟨o,n,e,_,_,d⟩,_⟩:=I.list h;obtain⟨its',r',⟨o',n',e',_,_,d'⟩,_⟩:=I.list h';rw[e]at e';cases e';rw[d]at d';injection d' with d1 _
 have:its=its':=by simpa using congrArg zI7 d1
 subst this;exact r.inj r'
def Inv.tuple_inj(I:Inv X iX σ H s)(h:SqT X.K H a xs)(h':SqT X.K H a ys):xs=ys:=by
 obtain⟨its,r,⟨o,e,_,n,d⟩,_⟩:=I.tuple h;obtain⟨its',r',⟨o',e',_,n',d'⟩,_⟩:=I.tuple h';rw[e]at e';cases e';rw[d]at d';injection d' with d1 _
 have:its=its':=by simpa using congrArg zI7 d1
 subst this;exact r.inj r'
end
section
variable{X:Cx}{st:Stmt}{rest:List Stmt}{t u:TS}{e:Expr}{te:TE}{pos:Pos}
def aOR:TS:=λ D σ H=>D.nx σ H
def aPP(t u:TS):TS:=λ D σ H=>t {D with nx:=u D} σ H
def aK2:PSs X [] aOR:=λ _ _ σ H _ I h=>zFB ⟨σ,H,I,h⟩
def aIF(h1:PS X st t)(h2:PSs X rest u):PSs X (st::rest) (aPP t u):=by
 intro iX s σ H D I h;refine wpAny_execs_cons (thn (h1 iX s σ H {D with nx:=u D} I h) λ f s1 q=>?_);cases f with
 |next=>
  obtain⟨σ',H',I',q⟩:=q;exact h2 iX s1 σ' H' D I' q
 |ret v=>exact q
 |brk=>exact q
 |cont=>exact q
def aK1(h1:PS X st t):PSs X [st] t:=by
 intro iX s σ H D I h;refine wpAny_execs_cons (thn (h1 iX s σ H D I h) λ f s1 q=>?_);cases f with
 |next=>exact zFB q
 |ret v=>exact q
 |brk=>exact q
 |cont=>exact q
def Inv.quiet(I:Inv X iX σ H s):interactive X.env=false:=by simp[interactive,I.ok.kind]
def aBw(te:TE):TS:=λ D σ H=>te σ H λ _ H1=>D.nx σ H1
def tX(he:PE X e te)(hs:zCd e none pos.line X.env=pure false:=by rfl):PS X (.Expr e pos) (aBw te):=by
 intro iX s σ H D I h;exact wpAny_Expr_any (thn (he iX s σ H _ I h) λ v s1 ⟨x,H1,I1,r1,q1⟩=>⟨σ,H1,I1,q1⟩) I.quiet hs
def aPQ(te:TE):TS:=λ D σ H=>te σ H D.rt
def aMu(he:PE X e te):PS X (.Return (some e) pos) (aPQ te):=by
 intro iX s σ H D I h;exact wpAny_Return_some (thn (he iX s σ H _ I h) λ v s1 ⟨x,H1,I1,r1,q1⟩=>⟨x,σ,H1,I1,r1,q1⟩)
def aPU(c:TT)(t u:TS):TS:=λ D σ H=>c σ H λ b H1=>if b=true then t D σ H1 else u D σ H1
def aO9(hc:PT X c tc)(ha:PSs X a t)(hb:PSs X b u):PS X (.If c a b pos) (aPU tc t u):=by
 intro iX s σ H D I h;refine wpAny_If (thn (hc iX s σ H _ I h) λ d s1 ⟨H1,I1,q1⟩=>?_);cases d with
 |true=>exact ha iX s1 σ H1 D I1 q1
 |false=>exact hb iX s1 σ H1 D I1 q1
end
abbrev TG:=V->St->Hp->(St->Hp->Prop)->Prop
abbrev TGs:=List V->St->Hp->(St->Hp->Prop)->Prop
def PG(X:Cx)(target:Expr)(t:TG):Prop:=
 ∀(iX:hZ) (s:zAG) (σ:St) (H:Hp) (v:V) (u:Value) (Q:St->Hp->Prop),Inv X iX σ H s->RelV v u->t v σ H Q->
  wpAny (model X.prog X.w) X.A (zDp target X.env u) (λ _ s'=>∃σ' H',Inv X iX σ' H' s'/\Q σ' H') X.xe s
def PGs(X:Cx)(ts:List Expr)(t:TGs):Prop:=
 ∀(iX:hZ) (s:zAG) (σ:St) (H:Hp) (vs:List V) (us:List Value) (Q:St->Hp->Prop),Inv X iX σ H s->Vals vs us->t vs σ H Q->
  wpAny (model X.prog X.w) X.A (assignInOrder ((zCg ts X.env).map (·.2)) us) (λ _ s'=>∃σ' H',Inv X iX σ' H' s'/\Q σ' H') X.xe s
abbrev aPC:=V->V->V->Hp->(Hp->Prop)->Prop
def aPH(X:Cx)(t:aPC):Prop:=
 ∀(iX:hZ) (s:zAG) (σ:St) (H:Hp) (o i v:V) (ov iv u:Value) (Q:Hp->Prop),Inv X iX σ H s->RelV o ov->RelV i iv->RelV v u->t o i v H Q->
  wpAny (model X.prog X.w) X.A (setItem ov iv u) (λ _ s'=>∃H',Inv X iX σ H' s'/\Q H') X.xe s
abbrev TIp:=V->V->Hp->VK->Prop
def PIp(X:Cx)(op:Operator)(t:TIp):Prop:=
 ∀(iX:hZ) (s:zAG) (σ:St) (H:Hp) (x y:V) (v u:Value) (Q:VK),Inv X iX σ H s->RelV x v->RelV y u->t x y H Q->
  wpAny (model X.prog X.w) X.A (zII op v u) (EP X iX σ Q) X.xe s
section
variable{X:Cx}{pos:Pos}
def qw(i:Nat):TG:=λ v σ H Q=>Q (σ.set i (some v)) H
def aK6(hN:X.N.Nodup)(hi:X.N[i]? =some x)(hx:Loc X.env.scope x)(hf:X.fn x=true\/X.env.scope.names.lookup x=some .local:=by first|exact .inl rfl|exact .inr rfl|assumption):PG X (.Name x pos) (qw i):=by
 intro iX s σ H v u Q I r h;exact zGF (xQ I hN hi hx r (λ s' I'=>⟨_,H,I',h⟩) hf)
def aNv:TGs:=λ vs σ H Q=>vs=[]/\Q σ H
def aJL(t:TG)(u:TGs):TGs:=λ vs σ H Q=>∃v r,vs=v::r/\t v σ H λ σ' H'=>u r σ' H' Q
def aK5:PGs X [] aNv:=by
 intro iX s σ H vs us Q I r h;obtain⟨e,h⟩:=h;subst e;cases r;exact assignInOrder_nil ⟨σ,H,I,h⟩
def aIQ(h1:PG X e t)(h2:PGs X es u)
  (hs:(zCg (e::es) X.env).map (·.2)=zDp e X.env::(zCg es X.env).map (·.2):=by rfl):PGs X (e::es) (aJL t u):=by
 intro iX s σ H vs us Q I r h;obtain⟨v,vr,e1,h⟩:=h;subst e1;cases r with
 |cons r rr=>
  rw[hs];refine assignInOrder_cons (thn (h1 iX s σ H _ _ _ I r h) λ _ s1 ⟨σ1,H1,I1,q1⟩=>?_);exact h2 iX s1 σ1 H1 _ _ Q I1 rr q1
def aL4(K:zAA)(n:Nat)(t:TGs):TG:=λ v σ H Q=>∃a xs,v= .ref a/\SqT K H a xs/\xs.length=n/\t xs σ H Q
def aMz(hc:X.calm=true)(h:PGs X es t)
  (hn:(zCg es X.env).length=n:=by rfl)(hst:(zCg es X.env).findIdx? (·.1)=none:=by rfl):PG X (.Tuple es k pos) (aL4 X.K n t):=by
 intro iX s σ H v u Q I r hw;obtain⟨a,xs,e1,hq,hl,hw⟩:=hw;subst e1;cases r;obtain⟨its,rv,ht,hz⟩:=I.tuple hq;refine assign_Tuple_tuple (I.ok.hd hc) ht (by simp[hn,<-hl,rv.length]) hst λ h' hx=>?_
 have I1:Inv X iX σ H {s with heap:=h'}:=I.kept (t':=s.toks) λ b o e=>hx b o (zA8 (zAV e)) e
 exact h iX _ σ H xs _ Q I1 (by simpa using rv) hw
def aOw(to ti:TE)(t:aPC):TG:=λ v σ H Q=>to σ H λ o H1=>ti σ H1 λ i H2=>t o i v H2 λ H3=>Q σ H3
def aNA(ho:PE X o to)(hi:PE X i ti)(hs:aPH X t)
  (ha:∀v,zDp (.Subscript o i pos) X.env v=(do
   let ov <-zDR [v] (eval o X.env);let iv <-zDR [v,ov] (eval i X.env)
   zGb pos
   zDR [v,ov,iv] (setItem ov iv v)
   release [v,ov,iv] []):=by intro _;rfl):PG X (.Subscript o i pos) (aOw to ti t):=by
 intro iX s σ H v u Q I r h;rw[ha];refine zAB (zB2 (thn (ho iX s σ H _ I h) λ ov s1 ⟨x,H1,I1,r1,q1⟩=>?_));refine zAB (zB2 (thn (hi iX s1 σ H1 _ I1 q1) λ iv s2 ⟨y,H2,I2,r2,q2⟩=>?_));refine zAB (zDt (zAB (zB2 (thn (hs iX s2 σ H2 x y v ov iv u _ I2 r1 r2 r q2) λ _ s3 ⟨H3,I3,q3⟩=>?_))));exact wpAny_release ⟨σ,H3,I3,q3⟩
def aDl(te:TE)(g:TG):TS:=λ D σ H=>te σ H λ x H1=>g x σ H1 D.nx
def aIL(he:PE X e te)(hg:PG X tg g)(hs:zH0 [tg] e pos.line X.env=pure false:=by rfl)(hw:zHZ [tg] e X.env=pure none:=by rfl)
  (h1:(zCg [tg] X.env).map (·.2)=[zDp tg X.env]:=by rfl):PS X (.Assign [tg] e pos) (aDl te g):=by
 intro iX s σ H D I h;refine wpAny_Assign_stores (thn (he iX s σ H _ I h) λ v s1 ⟨x,H1,I1,r1,q1⟩=>?_) hs hw;rw[h1];exact thn (hg iX s1 σ H1 x v _ I1 r1 q1) λ _ s2 q=>q
def aII(hN:X.N.Nodup)(hi:X.N[i]? =some x)(hx:Loc X.env.scope x)(he:PE X e te)(hs:zCd e (some (.Name x pos')) pos.line X.env=pure false:=by rfl)(hf:X.fn x=true\/X.env.scope.names.lookup x=some .local:=by first|exact .inl rfl|exact .inr rfl|assumption):
  PS X (.Assign [.Name x pos'] e pos) (aDl te (qw i)):=by
 intro iX s σ H D I h;refine wpAny_Assign_Name (thn (he iX s σ H _ I h) λ v s1 ⟨y,H1,I1,r1,q1⟩=>?_) hs;exact xQ I1 hN hi hx r1 (λ s2 I2=>⟨_,H1,I2,q1⟩) hf
def aOT(i:Nat)(te:TE)(ti:TIp):TS:=λ D σ H=>∃x,σ[i]? =some (some x)/\te σ H λ y H1=>ti x y H1 λ z H2=>D.nx (σ.set i (some z)) H2
def aIK(hN:X.N.Nodup)(hi:X.N[i]? =some x)(hx:Loc X.env.scope x)(he:PE X e te)(ho:PIp X op ti)(hf:X.fn x=true\/X.env.scope.names.lookup x=some .local:=by first|exact .inl rfl|exact .inr rfl|assumption):
  PS X (.AugAssign (.Name x pos') op e pos) (aOT i te ti):=by
 intro iX s σ H D I h;obtain⟨v,e1,h⟩:=h;obtain⟨m,hn,hl⟩:=I.loc;have vis:Vis X.env.scope x:=by rcases hx with k|k;exact .inl k;exact .inr (.inl k)
 obtain⟨u,r,l⟩:=hl i x v hi e1 vis;refine wpAny_AugAssign_Name ?_;have go:wpAny (model X.prog X.w) X.A (eval e X.env) (λ w z0=>wpAny (model X.prog X.w) X.A (zII op u w) (λ r zC=>wpAny (model X.prog X.w) X.A (storeName X.env x r) (λ _=>SP X iX D .next) X.xe zC) X.xe z0) X.xe s:=by
  refine thn (he iX s σ H _ I h) λ w s1 ⟨y,H1,I1,r1,q1⟩=>?_
  refine thn (ho iX s1 σ H1 v y u w _ I1 r r1 q1) λ z s2 ⟨zv,H2,I2,r2,q2⟩=>?_
  exact xQ I2 hN hi hx r2 (λ s3 I3=>⟨_,H2,I3,q2⟩) hf
 rcases l with ⟨hk,hm⟩|⟨hk,c,hc,hcell⟩
 .exact zIU I.ok.kind hk hn hm go
 .rcases hk with hk|hk
  .exact zI5 I.ok.kind hk hc hcell go
  .rcases hx with k|k
   .have:X.env.scope.names.lookup x=some .free:=hk
    rw[k]at this;cases this
   .have:X.env.scope.names.lookup x=some .free:=hk
    rw[k]at this;cases this
def ipI(f:Int->Int->Int):TIp:=λ x y H Q=>∃i j,x= .int i/\y= .int j/\Q (.int (f i j)) H
def aIt:PIp X .Add (ipI λ i j=>i+j):=by
 intro iX s σ H x y v u Q I r1 r2 h;obtain⟨i,j,e1,e2,q⟩:=h;subst e1;subst e2;obtain⟨t,rfl⟩:=r1;obtain⟨t',rfl⟩:=r2;exact iadd_int ⟨.int _,H,I.tok _,⟨_,rfl⟩,q⟩
end
section
variable{X:Cx}{pos:Pos}
def aM7(c:TT)(tb:TS):TS:=λ D σ H=>∃W:Nat->St->Hp->Prop,(∃m,W m σ H)/\∀m σ H,W m σ H->
 c σ H λ b H1=>if b=true then∃N:St->Hp->Prop,(∀σ' H',N σ' H'->∃m',m'<m/\W m' σ' H')/\tb {D with nx:=N,ct:=N,bk:=D.nx} σ H1 else D.nx σ H1
def aIG(hp:zIB (model X.prog X.w) X.A X.env X.xe)(hc:PT X c tc)(hb:PSs X body tb):PS X (.While c body [] pos) (aM7 tc tb):=by
 intro iX s σ H D I h;obtain⟨W,⟨m0,w0⟩,turn⟩:=h;refine wpAny_While (codeAny_whileLoop (λ n s'=>∃σ' H',Inv X iX σ' H' s'/\W n σ' H') ?_ m0 ⟨σ,H,I,w0⟩);rintro n s1 ⟨σ1,H1,I1,w1⟩;refine zCu hp (thn (hc iX s1 σ1 H1 _ I1 (turn n σ1 H1 w1)) λ b s2 ⟨H2,I2,q2⟩=>?_);cases b with
 |true=>
  obtain⟨N,hN,q2⟩:=q2;rw[if_pos rfl];refine zCu hp (thn (hb iX s2 σ1 H2 _ I2 q2) λ f s3 q3=>?_);cases f with
  |next=>
   obtain⟨σ3,H3,I3,n3⟩:=q3;obtain⟨m',hm,w3⟩:=hN σ3 H3 n3;exact⟨m',hm,σ3,H3,I3,w3⟩
  |cont=>
   obtain⟨σ3,H3,I3,n3⟩:=q3;obtain⟨m',hm,w3⟩:=hN σ3 H3 n3;exact⟨m',hm,σ3,H3,I3,w3⟩
  |brk=>exact q3
  |ret v=>exact q3
 |false=>
  rw[if_neg zAX];exact zFB ⟨σ1,H2,I2,q2⟩
end
structure It where
 go:Nat->Hp->Prop
 yld:Nat->Hp->V->Hp->Prop
 stop:Nat->Hp->Prop
def tD(X:Cx)(iX:hZ)(H:Hp)(b:Addr):Prop:=
 H b=none/\b≠X.env.locals/\b∉X.fs/\(b∈X.ex\/X.z4.heap.objs.size<=b)/\(∀x c,X.env.cells.lookup x=some c->c≠b)/\∀p∈X.ta++(X.pn++iX),p.1≠b
def Inv.fpOk(I:Inv X iX σ H s)(hb:s.heap.objs.size<=b)(hn:H' b=none):tD X iX H' b:=by
 refine⟨hn,zCM (zA4 I.lt hb),I.nofs hb,.inr (zAn I.sz hb),λ x c e z=>?_,λ p hp z=>?_⟩
 .obtain⟨v,q⟩:=I.cell x c e
  exact absurd (zA4 q.lt (by rw[z];exact hb)) (zBq _)
 .exact absurd (zA4 (I.pinL hp) (by rw[z];exact hb)) (zBq _)
structure Turn(P:zA7)(w:World)(K:zAA)(tg:Expr)(J:It)(fp:List Addr)(it:Addr)(tn:Nat->Heap->Prop):Prop where
 mem:it∈fp
 obj:∀i h,tn i h->∀b∈fp,∃o,h.get? b=some o/\∀v,o.data≠.cell v
 keep:∀i h h',tn i h->(∀b∈fp,∀o,h.get? b=some o->h'.get? b=some o)->tn i h'
 item:∀(X:Cx),X.prog=P->X.w=w->X.K=K->X.calm=true->∀(i:Nat) (iX:hZ) (s:zAG) (σ:St) (H:Hp) (E:Value->zAG->Prop),Inv X iX σ H s->(∀b∈fp,tD X iX H b)->tn i s.heap->J.go i H->
  wpAny (model P w) X.A (zEz (.ref it)) (λ r s1=>∃u,r=some u/\
   wpAny (model P w) X.A (zDS tg (.ref it) u) (λ _ s2=>∃x H',Inv X iX σ H' s2/\RelV x u/\J.yld i H x H'/\tn (i+1) s2.heap/\∀b∈fp,H' b=none) E s1) E s
 done:∀(X:Cx),X.prog=P->X.w=w->X.K=K->X.calm=true->∀(i:Nat) (iX:hZ) (s:zAG) (σ:St) (H:Hp) (E:Value->zAG->Prop),Inv X iX σ H s->(∀b∈fp,tD X iX H b)->tn i s.heap->J.stop i H->
  wpAny (model P w) X.A (zEz (.ref it)) (λ r s1=>r=none/\Inv X iX σ H s1) E s
 self:∀(A:zAk) (i:Nat) (s:zAG) (Q:Value->zAG->Prop) (E:Value->zAG->Prop),tn i s.heap->Q (.ref it) s->wpAny (model P w) A (zIJ (.ref it)) Q E s
abbrev TI:=St->Hp->(It->Hp->Prop)->Prop
def PIE(X:Cx)(iX:hZ)(σ:St)(tg:Expr)(R:It->Hp->Prop)(itv:Value)(s2:zAG):Prop:=
 ∃(it:Addr) (fp:List Addr) (tn:Nat->Heap->Prop) (J:It) (H':Hp),itv= .ref it/\Inv X iX σ H' s2/\Turn X.prog X.w X.K tg J fp it tn/\tn 0 s2.heap/\(∀b∈fp,tD X iX H' b)/\R J H'
def PI(X:Cx)(tg iter:Expr)(wi:TI):Prop:=
 ∀(iX:hZ) (s:zAG) (σ:St) (H:Hp) (R:It->Hp->Prop),Inv X iX σ H s->wi σ H R->
  wpAny (model X.prog X.w) X.A (eval iter X.env) (λ v s1=>wpAny (model X.prog X.w) X.A (zIJ v) (PIE X iX σ tg R) X.xe s1) X.xe s
def aJI(ho:s.heap.get? it=some o)(hc:o.cls= .type n)(hd:o.data= .fields vs)
    (hn:["enumerate","zip","dict_itemiterator","dict_reverseitemiterator","odict_iterator","itertools.zip_longest","itertools.pairwise"].contains n=false)(hQ:Q () s):wpAny M A (zDS tg (.ref it) u) Q E s:=by
  unfold zDS;cases tg<;>first
    |exact zAK hQ
    | (cases u <;> first
        |exact zAK hQ
        | (refine zAB (zIy ho ?_)
           rw[hc,hd];show wpAny M A (if (["enumerate","zip","dict_itemiterator","dict_reverseitemiterator","odict_iterator","itertools.zip_longest","itertools.pairwise"].contains n&&vs[0]? ==some (zIK _))=true then _ else _) Q E s;rw[if_neg (by intro h;rw[hn,zDv]at h;cases h)];exact zAK hQ))
def Itl(K:zAA)(a:Addr):It:=
 ⟨λ i H=>∃xs x,SqL K H a xs/\xs[i]? =some x,λ i H x H'=>H'=H/\∀xs,SqL K H a xs->xs[i]? =some x,λ i H=>∃xs,SqL K H a xs/\xs.length<=i⟩
def Itt(K:zAA)(a:Addr):It:=
 ⟨λ i H=>∃xs x,SqT K H a xs/\xs[i]? =some x,λ i H x H'=>H'=H/\∀xs,SqT K H a xs->xs[i]? =some x,λ i H=>∃xs,SqT K H a xs/\xs.length<=i⟩
def Itr(lo:Int)(n:Nat):It:=⟨λ i _=>i<n,λ i H x H'=>H'=H/\x= .int (lo+i),λ i _=>n<=i⟩
def aGO{P:zA7}{w:World}{K:zAA}{tg:Expr}(a it:Addr):Turn P w K tg (Itl K a) [it] it (λ i h=>h.IsListIter it a i) where
 mem:=by simp
 obj:=λ i h st b hb=>by
  have e:b=it:=by simpa using hb
  subst e;obtain⟨o,e,c,d⟩:=st;exact⟨o,e,λ v z=>by rw[d]at z;cases z⟩
 keep:=λ i h h' st k=>st.at λ o e=>k it (by simp) o e
 item:=by
  intro X hP hw hK hc i iX s σ H E I hf st hg;subst hP hw hK;obtain⟨xs,x,hq,hx⟩:=hg;obtain⟨its,rv,p,hz⟩:=I.list hq;obtain⟨u,hu,ru⟩:=rv.get hx;obtain⟨f0,f1,f2,f3,f4,f5⟩:=hf it (by simp);refine wpAny_pyNext_list_item st p.isList (x:=u) (by simpa using hu) λ h' st' sb=>?_
  have I1:Inv X iX σ H {s with heap:=h'}:=I.turned (t':=s.toks) (λ b o hb e=>(sb.2 b hb).trans e) f0 f1 f3 f4 f5;obtain⟨o,e,c,d⟩:=id st';exact⟨u,rfl,aJI (s:={s with heap:=h'}) e c d (by decide) ⟨x,H,I1,ru,⟨rfl,λ ys hy=>by rw[I.list_inj hy hq];exact hx⟩,st',λ b hb=>(hf b hb).1⟩⟩
 done:=by
  intro X hP hw hK hc i iX s σ H E I hf st hg;subst hP hw hK;obtain⟨xs,hq,hx⟩:=hg;obtain⟨its,rv,p,hz⟩:=I.list hq;obtain⟨f0,f1,f2,f3,f4,f5⟩:=hf it (by simp);have hl:=rv.length;exact wpAny_pyNext_list_end (I.ok.hd hc) st p.isList (by simp;lia) λ h' eb=>⟨rfl,I.turned (t':=s.toks) (λ b o hb e=>eb b o hb e) f0 f1 f3 f4 f5⟩
 self:=λ _ _ _ _ _ st h=>wpAny_pyIter_listiter st h
def aDh{P:zA7}{w:World}{K:zAA}{tg:Expr}(a it:Addr):Turn P w K tg (Itt K a) [it] it (λ i h=>h.IsTupleIter it a i) where
 mem:=by simp
 obj:=λ i h st b hb=>by
  have e:b=it:=by simpa using hb
  subst e;obtain⟨o,e,c,d⟩:=st;exact⟨o,e,λ v z=>by rw[d]at z;cases z⟩
 keep:=λ i h h' st k=>st.at λ o e=>k it (by simp) o e
 item:=by
  intro X hP hw hK hc i iX s σ H E I hf st hg;subst hP hw hK;obtain⟨xs,x,hq,hx⟩:=hg;obtain⟨its,rv,p,hz⟩:=I.tuple hq;obtain⟨u,hu,ru⟩:=rv.get hx;obtain⟨f0,f1,f2,f3,f4,f5⟩:=hf it (by simp);refine wpAny_pyNext_tuple_item st (show s.heap.IsTuple a its.toArray from p) (x:=u) (by simpa using hu) λ h' st' sb=>?_
  have I1:Inv X iX σ H {s with heap:=h'}:=I.turned (t':=s.toks) (λ b o hb e=>(sb.2 b hb).trans e) f0 f1 f3 f4 f5;obtain⟨o,e,c,d⟩:=id st';exact⟨u,rfl,aJI (s:={s with heap:=h'}) e c d (by decide) ⟨x,H,I1,ru,⟨rfl,λ ys hy=>by rw[I.tuple_inj hy hq];exact hx⟩,st',λ b hb=>(hf b hb).1⟩⟩
 done:=by
  intro X hP hw hK hc i iX s σ H E I hf st hg;subst hP hw hK;obtain⟨xs,hq,hx⟩:=hg;obtain⟨its,rv,p,hz⟩:=I.tuple hq;obtain⟨f0,f1,f2,f3,f4,f5⟩:=hf it (by simp);have hl:=rv.length;exact wpAny_pyNext_tuple_end (I.ok.hd hc) st (show s.heap.IsTuple a its.toArray from p) (by simp;lia) λ h' eb=>⟨rfl,I.turned (t':=s.toks) (λ b o hb e=>eb b o hb e) f0 f1 f3 f4 f5⟩
 self:=λ _ _ _ _ _ st h=>wpAny_pyIter_tupleiter st h
def aDi{P:zA7}{w:World}{K:zAA}{tg:Expr}(it:Addr)(lo:Int)(n:Nat):Turn P w K tg (Itr lo n) [it] it (λ i h=>IsRangeIter h it (lo+(i:Nat)*1) ((n:Int)-(i:Nat)) 1) where
 mem:=by simp
 obj:=λ i h st b hb=>by
  have e:b=it:=by simpa using hb
  subst e;exact⟨_,st,λ v z=>by
   have z':Data.fields _=Data.cell v:=z;cases z'⟩
 keep:=λ i h h' st k=>k it (by simp) _ st
 item:=by
  intro X hP hw hK hc i iX s σ H E I hf st hg;subst hP hw hK;obtain⟨f0,f1,f2,f3,f4,f5⟩:=hf it (by simp);have W:=Walks.range (prog:=X.prog) (w:=X.w) (I.ok.hd hc) it lo 1 n;refine W.item i s _ _ hg st λ v h' tk hv st' kk=>?_
  obtain⟨t,rfl⟩:=hv;have I1:Inv X iX σ H {s with heap:=h',toks:=tk}:=I.turned (λ b o hb e=>kk b o (by simpa using hb) e) f0 f1 f3 f4 f5;refine⟨_,rfl,aJI (s:={s with heap:=h',toks:=tk}) (n:="range_iterator") st' rfl rfl (by decide) ⟨.int (lo+i),H,I1,⟨t,?_⟩,⟨rfl,rfl⟩,st',λ b hb=>(hf b hb).1⟩⟩;rw[Int.mul_one]
 done:=by
  intro X hP hw hK hc i iX s σ H E I hf st hg;subst hP hw hK;obtain⟨f0,f1,f2,f3,f4,f5⟩:=hf it (by simp);exact wpAny_pyNext_range_end (I.ok.hd hc) st (by have:n<=i:=hg;lia) λ h' eb=>⟨rfl,I.turned (t':=s.toks) (λ b o hb e=>eb b o hb e) f0 f1 f3 f4 f5⟩
 self:=λ _ _ _ _ _ st h=>wpAny_pyIter_rangeiter st h
section
variable{X:Cx}{tg:Expr}
def aCU{iX:hZ}{σ:St}{H:Hp}{s:zAG}{R:It->Hp->Prop}{E:Value->zAG->Prop}{lo hi:Int}{t u v:Tok}{tk:Nat}(I:Inv X iX σ H s)(h1: -(2^62)<=lo)(h2:lo<2^62)(h3: -(2^62)<=hi)(h4:hi<2^62)
  (q:R (Itr lo (hi-lo).toNat) H):wpAny (model X.prog X.w) X.A (zIJ (.ref s.heap.objs.size)) (PIE X iX σ tg R) E {s with heap:=s.heap.push {cls:=.type "range",data:=.fields #[.int lo t,.int hi u,.int 1 v]},toks:=tk}:=by
 refine wpAny_pyIter_range (IsRange.new ..) (small_one h1 h2 h3 h4) ?_;have I1:Inv X iX σ H {s with heap:=s.heap.push {cls:=.type "range",data:=.fields #[.int lo t,.int hi u,.int 1 v]},toks:=tk}:=I.kept λ b o e=>zAC _ e
 refine⟨(s.heap.push {cls:=.type "range",data:=.fields #[.int lo t,.int hi u,.int 1 v]}).objs.size,[(s.heap.push {cls:=.type "range",data:=.fields #[.int lo t,.int hi u,.int 1 v]}).objs.size],_,_,H,rfl,
  I1.kept (t':=tk) λ b o e=>zAC _ e,aDi _ lo (hi-lo).toNat,?_,λ b hb=>?_,q⟩
 .have e1:lo+((0:Nat):Int)*1=lo:=by simp
  have e2:(((hi-lo).toNat:Nat):Int)-((0:Nat):Int)=zBU lo hi 1:=by rw[rangeSize_one];split<;>lia
  show IsRangeIter _ _ (lo+((0:Nat):Int)*1) ((((hi-lo).toNat:Nat):Int)-((0:Nat):Int)) 1;rw[e1,e2];exact zAO _ rfl
 .have e:b=(s.heap.push {cls:=.type "range",data:=.fields #[.int lo t,.int hi u,.int 1 v]}).objs.size:=by simpa using hb
  subst e;exact I1.fpOk (zAT _) (I1.hok.fresh (zAT _))
def aOv(ta:TA):TI:=λ σ H R=>ta σ H λ vs H1=>∃j:Int,vs=[.int j]/\-(2^62)<=j/\j<2^62/\R (Itr 0 j.toNat) H1
def aOu(ta:TA):TI:=λ σ H R=>ta σ H λ vs H1=>∃i j:Int,vs=[.int i,.int j]/\(-(2^62)<=i/\i<2^62/\-(2^62)<=j/\j<2^62)/\R (Itr i (j-i).toNat) H1
def aG7{a:Expr}{ta:TA}{p pos:Pos}(hg:Gl X "range")(hm:X.mg "range"=none)(ha:PA X [a] ta)(hs:zA1 [a] X.env=[(false,eval a X.env)]:=by rfl):PI X tg (.Call (.Name "range" p) [a] [] pos) (aOv ta):=by
 intro iX s σ H R I h;refine Call_ (sO I hg hm zHI (zC5 (thn (ha pos iX s σ H _ I h) λ us s1 ⟨vs,H1,I1,r1,q1⟩=>?_) hs rfl));obtain⟨j,e,q1,q2,q⟩:=q1;subst e;cases r1 with
 |cons r rr=>
  cases rr;obtain⟨t,rfl⟩:=r;exact call_range_1 (aCU I1 (by lia) (by lia) q1 q2 (by simpa using q))
def aG6(hg:Gl X "range")(hm:X.mg "range"=none)(ha:PA X [a,b] ta)(hs:zA1 [a,b] X.env=[(false,eval a X.env),(false,eval b X.env)]:=by rfl)(hs2:zA1 [b] X.env=[(false,eval b X.env)]:=by rfl):
  PI X tg (.Call (.Name "range" p) [a,b] [] pos) (aOu ta):=by
 intro iX s σ H R I h;refine Call_ (sO I hg hm zHI (zC5 (thn (ha pos iX s σ H _ I h) λ us s1 ⟨vs,H1,I1,r1,q1⟩=>?_) (by rw[hs,hs2]) (by rw[hs2];rfl)));obtain⟨i,j,e,⟨q1,q2,q3,q4⟩,q⟩:=q1;subst e;cases r1 with
 |cons r rr=>
  cases rr with
  |cons r' rr=>
   cases rr;obtain⟨t,rfl⟩:=r;obtain⟨t',rfl⟩:=r';exact call_range_2 (aCU I1 q1 q2 q3 q4 q)
def aPV(wi:TI)(g:TG)(tb:TS):TS:=λ D σ H=>wi σ H λ J H1=>∃W:Nat->Nat->St->Hp->Prop,(∃m,W 0 m σ H1)/\∀i m σ H,W i m σ H->
 (J.stop i H/\D.nx σ H)\/(J.go i H/\∃N:St->Hp->Prop,(∀σ' H',N σ' H'->∃m',m'<m/\W (i+1) m' σ' H')/\∀x H',J.yld i H x H'->g x σ H' λ σ2 H2=>tb {D with nx:=N,ct:=N,bk:=D.nx} σ2 H2)
def vG(fp:List Addr)(h:Heap):hZ:=fp.filterMap λ b=>(h.get? b).map λ o=>(b,o)
def nu(hb:b∈fp)(e:h.get? b=some o):(b,o)∈vG fp h:=zCb.mpr ⟨b,hb,by rw[e];rfl⟩
def aAO(hp:p∈vG fp h):p.1∈fp/\h.get? p.1=some p.2:=by
 obtain⟨b,hb,e⟩:=zCb.mp hp;cases q:h.get? b with
 |none=>rw[q]at e;cases e
 |some o=>
  rw[q]at e;have e':(b,o)=p:=zAl e;subst e';exact⟨hb,q⟩
def Inv.pinned(I:Inv X iX σ H s)(hf:∀b∈fp,tD X iX H b)(ho:∀b∈fp,∃o,s.heap.get? b=some o/\∀v,o.data≠.cell v):Inv X (iX++vG fp s.heap) σ H s:=
 I.pins_of (λ p hp=>(zAU.mp hp).elim (λ z=>I.pin p (zA5 _ z)) λ z=>by
  obtain⟨hb,e⟩:=aAO z;obtain⟨f0,f1,f2,_⟩:=hf p.1 hb;obtain⟨o,e',d⟩:=ho p.1 hb;rw[e]at e';cases e';exact⟨e,f0,f1,f2,d⟩) λ q hq p hp=>(zAU.mp hq).elim (λ z=>(I.tab p hp).2.2.2.1 q (zA5 _ z)) λ z=>((hf q.1 (aAO z).1).2.2.2.2.2 p (zAQ _ hp)).symm
def Inv.unpinned(I:Inv X (iX++pl) σ H s):Inv X iX σ H s:=I.pins_of (λ p hp=>I.pin p (zA5 _ (zAQ _ hp))) λ q hq p hp=>(I.tab p hp).2.2.2.1 q (zA5 _ (zAQ _ hq))
def aMv(hp:zIB (model X.prog X.w) X.A X.env X.xe)(hc:X.calm=true)(hi:PI X tg iter wi)(hg:PG X tg g)(hb:PSs X body tb)
  (hs:∀x,zBs iter X.env x=pure x:=by intro _;rfl):PS X (.For tg iter body [] pos) (aPV wi g tb):=by
 intro iX s σ H D I h;refine wpAny_For (thn (hi iX s σ H _ I h) λ v s1 h1=>thn h1 λ itv s2 h2=>?_) hs;obtain⟨it,fp,tn,J,H2,e,I2,T,st2,f2,W,⟨m0,w0⟩,turn⟩:=h2;subst e;have aI:∀{H':Hp},(∀b∈fp,H' b=none)->∀b∈fp,tD X iX H' b:=λ hn b hb=>⟨hn b hb,(f2 b hb).2⟩
 refine codeAny_forLoop_any (λ n s'=>∃i σ' H',Inv X iX σ' H' s'/\tn i s'.heap/\(∀b∈fp,H' b=none)/\W i n σ' H') ?_ m0 ⟨0,σ,H2,I2,st2,λ b hb=>(f2 b hb).1,w0⟩;rintro n s3 ⟨i,σ3,H3,I3,st3,fr3,w3⟩;rcases turn i n σ3 H3 w3 with ⟨stop,qn⟩|⟨go,N,hN,step⟩
 .refine zCu hp (thn (T.done X rfl rfl rfl hc i iX s3 σ3 H3 X.xe I3 (aI fr3) st3 stop) λ r s4 ⟨hr,I4⟩=>?_)
  subst hr;exact zFB ⟨σ3,H3,I4,qn⟩
 .refine zCu hp (thn (T.item X rfl rfl rfl hc i iX s3 σ3 H3 X.xe I3 (aI fr3) st3 go) λ r s4 ⟨u,hr,h4⟩=>?_)
  subst hr;refine zCu hp (thn h4 λ _ s5 ⟨x,H5,I5,r5,y5,st5,fr5⟩=>?_);have I5':=I5.pinned (aI fr5) (T.obj _ _ st5);refine zCu hp (thn (hg _ s5 σ3 H5 x u _ I5' r5 (step x H5 y5)) λ _ s6 ⟨σ6,H6,I6,q6⟩=>?_);refine zCu hp (thn (hb _ s6 σ6 H6 _ I6 q6) λ f s7 q7=>?_);have again:∀{σ7:St} {H7:Hp},Inv X (iX++vG fp s5.heap) σ7 H7 s7->N σ7 H7->∃m,m<n/\∃i σ' H',Inv X iX σ' H' s7/\tn i s7.heap/\(∀b∈fp,H' b=none)/\W i m σ' H':=λ{σ7 H7} I7 n7=>by
   obtain⟨m',hm,w7⟩:=hN σ7 H7 n7;refine⟨m',hm,i+1,σ7,H7,I7.unpinned,T.keep _ _ _ st5 λ b hb o e=>(I7.pin (b,o) (zA5 _ (zA5 _ (nu hb e)))).1,λ b hb=>?_,w7⟩;obtain⟨o,e,d⟩:=T.obj _ _ st5 b hb;exact(I7.pin (b,o) (zA5 _ (zA5 _ (nu hb e)))).2.1
  cases f with
  |next=>obtain⟨σ7,H7,I7,n7⟩:=q7;exact again I7 n7
  |cont=>obtain⟨σ7,H7,I7,n7⟩:=q7;exact again I7 n7
  |brk=>obtain⟨σ7,H7,I7,q7⟩:=q7;exact⟨σ7,H7,I7.unpinned,q7⟩
  |ret v=>obtain⟨x7,σ7,H7,I7,r7,q7⟩:=q7;exact⟨x7,σ7,H7,I7.unpinned,r7,q7⟩
end
abbrev R2:=V->V->Hp->VK->Prop
def OpR(X:Cx)(f:Value->Value->Sem Value)(r:R2):Prop:=
 ∀(iX:hZ) (s:zAG) (σ:St) (H:Hp) (x y:V) (v u:Value) (Q:VK),Inv X iX σ H s->RelV x v->RelV y u->r x y H Q->
  wpAny (model X.prog X.w) X.A (f v u) (EP X iX σ Q) X.xe s
def UnR(X:Cx)(f:Value->Sem Value)(r:V->Hp->VK->Prop):Prop:=
 ∀(iX:hZ) (s:zAG) (σ:St) (H:Hp) (x:V) (v:Value) (Q:VK),Inv X iX σ H s->RelV x v->r x H Q->
  wpAny (model X.prog X.w) X.A (f v) (EP X iX σ Q) X.xe s
def cX(X:Cx)(f:Value)(r:List V->Hp->VK->Prop):Prop:=
 ∀(iX:hZ) (s:zAG) (σ:St) (H:Hp) (xs:List V) (us:List Value) (Q:VK),Inv X iX σ H s->Vals xs us->r xs H Q->
  wpAny (model X.prog X.w) X.A (call f us) (EP X iX σ Q) X.xe s
def aP5(X:Cx)(r:V->Hp->(Bool->Hp->Prop)->Prop):Prop:=
 ∀(iX:hZ) (s:zAG) (σ:St) (H:Hp) (x:V) (v:Value) (Q:Bool->Hp->Prop),Inv X iX σ H s->RelV x v->r x H Q->
  wpAny (model X.prog X.w) X.A (truthy v) (TP X iX σ Q) X.xe s
def tOp(r:R2)(ta tb:TE):TE:=λ σ H Q=>ta σ H λ x H1=>tb σ H1 λ y H2=>r x y H2 Q
def tUn(r:V->Hp->VK->Prop)(ta:TE):TE:=λ σ H Q=>ta σ H λ x H1=>r x H1 Q
def rI(C:Int->Int->Prop)(g:Int->Int->V):R2:=λ x y H Q=>∃i j,x= .int i/\y= .int j/\C i j/\Q (g i j) H
def rI0(g:Int->Int->V):R2:=λ x y H Q=>∃i j,x= .int i/\y= .int j/\Q (g i j) H
def rU(g:Int->V):V->Hp->VK->Prop:=λ x H Q=>∃i,x= .int i/\Q (g i) H
section
variable{X:Cx}{a b:Expr}{ta tb:TE}{pos:Pos}
def aOG(ha:PE X a ta)(hb:PE X b tb){iX:hZ}{s:zAG}{σ:St}{H:Hp}{R:V->V->Hp->Prop}(I:Inv X iX σ H s)
  (h:ta σ H λ x H1=>tb σ H1 λ y H2=>R x y H2){Q:Value->zAG->Prop}{f:Value->Value->Sem Value}
  (hf:∀v u s2 x y H2,Inv X iX σ H2 s2->RelV x v->RelV y u->R x y H2->wpAny (model X.prog X.w) X.A (f v u) Q X.xe s2):
  wpAny (model X.prog X.w) X.A (eval a X.env) (λ v zI=>wpAny (model X.prog X.w) X.A (eval b X.env) (λ u z0=>wpAny (model X.prog X.w) X.A (f v u) Q X.xe z0) X.xe zI) X.xe s:=by
 refine thn (ha iX s σ H _ I h) λ v s1 ⟨x,H1,I1,r1,q1⟩=>?_
 refine thn (hb iX s1 σ H1 _ I1 q1) λ u s2 ⟨y,H2,I2,r2,q2⟩=>?_
 exact hf v u s2 x y H2 I2 r1 r2 q2
def aOa{op:Operator}{r:R2}(ho:OpR X (zC6 op) r)(ha:PE X a ta)(hb:PE X b tb):PE X (.BinOp a op b pos) (tOp r ta tb):=by
 intro iX s σ H Q I h;exact wpAny_BinOp (aOG ha hb I h λ v u s2 x y H2 I2 rx ry q=>ho iX s2 σ H2 x y v u Q I2 rx ry q)
def aMP(ho:UnR X (unaryOp op) r)(ha:PE X a ta):PE X (.UnaryOp op a pos) (tUn r ta):=by
 intro iX s σ H Q I h;exact UnaryOp_ (thn (ha iX s σ H _ I h) λ v s1 ⟨x,H1,I1,r1,q1⟩=>ho iX s1 σ H1 x v Q I1 r1 q1)
def opI{f:Value->Value->Sem Value}{C:Int->Int->Prop}{g:Int->Int->Int}
  (rule:∀(i j:Int) (t u:Tok) (s:zAG) (Q:Value->zAG->Prop) (E:Value->zAG->Prop),C i j->Q (.int (g i j) s.toks) {s with toks:=s.toks+1}->wpAny (model X.prog X.w) X.A (f (.int i t) (.int j u)) Q E s):
  OpR X f (rI C λ i j=>.int (g i j)):=by
 intro iX s σ H x y v u Q I rx ry h;obtain⟨i,j,rfl,rfl,hc,q⟩:=h;obtain⟨t,rfl⟩:=rx;obtain⟨t',rfl⟩:=ry;exact rule i j t t' s _ _ hc ⟨.int (g i j),H,I.tok _,⟨_,rfl⟩,q⟩
def aOi{f:Value->Value->Sem Value}{g:Int->Int->Int}
  (rule:∀(i j:Int) (t u:Tok) (s:zAG) (Q:Value->zAG->Prop) (E:Value->zAG->Prop),Q (.int (g i j) s.toks) {s with toks:=s.toks+1}->wpAny (model X.prog X.w) X.A (f (.int i t) (.int j u)) Q E s):
  OpR X f (rI0 λ i j=>.int (g i j)):=by
 intro iX s σ H x y v u Q I rx ry h;obtain⟨i,j,rfl,rfl,q⟩:=h;obtain⟨t,rfl⟩:=rx;obtain⟨t',rfl⟩:=ry;exact rule i j t t' s _ _ ⟨.int (g i j),H,I.tok _,⟨_,rfl⟩,q⟩
def aKs{f:Value->Value->Sem Value}{g:Int->Int->Bool}
  (rule:∀(i j:Int) (t u:Tok) (s:zAG) (Q:Value->zAG->Prop) (E:Value->zAG->Prop),Q (.bool (g i j)) s->wpAny (model X.prog X.w) X.A (f (.int i t) (.int j u)) Q E s):
  OpR X f (rI0 λ i j=>.bl (g i j)):=by
 intro iX s σ H x y v u Q I rx ry h;obtain⟨i,j,rfl,rfl,q⟩:=h;obtain⟨t,rfl⟩:=rx;obtain⟨t',rfl⟩:=ry;exact rule i j t t' s _ _ ⟨.bl (g i j),H,I,rfl,q⟩
def aPL(i j:Int):Prop:=0<j/\j<1073741824
def aPa(i j:Int):Prop:=0<=j/\j<=1000000/\i.natAbs<2^64
def aLw(i j:Int):Prop:=(-(2^64)<i/\i<2^64)\/(-(2^64)<j/\j<2^64)
def aLw.ok(h:aLw i j):IntMulOk i j:=by
 rcases h with ⟨h1,h2⟩|⟨h1,h2⟩
 .exact .of_left (intBits_le_64 h1 h2)
 .exact .of_right (intBits_le_64 h1 h2)
def aN4:OpR X (zC6 .Add) (rI0 λ i j=>.int (i+j)):=aOi λ _ _ _ _ _ _ _ q=>add_int q
def aNQ:OpR X (zC6 .Sub) (rI0 λ i j=>.int (i-j)):=aOi λ _ _ _ _ _ _ _ q=>sub_int q
def aNU:OpR X (zC6 .Mult) (rI aLw λ i j=>.int (i*j)):=opI λ _ _ _ _ _ _ _ hc q=>mul_int q hc.ok
def aKn:OpR X (zC6 .FloorDiv) (rI aPL λ i j=>.int (i / j)):=opI λ i j _ _ _ _ _ hc q=>by
 have h1:(0:Int)<j:=hc.1;have h2:j<1073741824:=hc.2;exact floordiv_int (by lia) (by rw[Int.fdiv_eq_ediv_of_nonneg i (by lia)];exact q) (.inl (PyProof.noPylong_small (by lia)))
def aNV:OpR X (zC6 .Mod) (rI (λ _ j=>0<j) λ i j=>.int (i%j)):=opI λ i j _ _ _ _ _ hc q=>by
 have h1:(0:Int)<j:=hc;exact mod_int' (by lia) (by rw[Int.fmod_eq_emod_of_nonneg i (by lia)];exact q)
def aNS:OpR X (zC6 .Pow) (rI aPa λ i j=>.int (i^j.toNat)):=opI λ _ _ _ _ _ _ _ hc q=>pow_int_small hc.1 hc.2.1 hc.2.2 q
def unI{f:Value->Sem Value}{g:Int->Int}
  (rule:∀(i:Int) (t:Tok) (s:zAG) (Q:Value->zAG->Prop) (E:Value->zAG->Prop),Q (.int (g i) s.toks) {s with toks:=s.toks+1}->wpAny (model X.prog X.w) X.A (f (.int i t)) Q E s):
  UnR X f (rU λ i=>.int (g i)):=by
 intro iX s σ H x v Q I rx h;obtain⟨i,rfl,q⟩:=h;obtain⟨t,rfl⟩:=rx;exact rule i t s _ _ ⟨.int (g i),H,I.tok _,⟨_,rfl⟩,q⟩
def aHT:UnR X (unaryOp .USub) (rU λ i=>.int (-i)):=unI λ _ _ _ _ _ q=>neg_int q
end
section
variable{X:Cx}{a b c:Expr}{ta tb tc:TE}{pos:Pos}
def aNz(I:Inv X iX σ H s)(q:Q (.bl k) H)(e:k=k'):EP X iX σ Q (.bool k') s:=by
 subst e;exact⟨.bl k,H,I,rfl,q⟩
def aOf:OpR X (zAs .Lt) (rI0 λ i j=>.bl (decide (i<j))):=aKs λ _ _ _ _ _ _ _ q=>lt_int q
def aOg:OpR X (zAs .LtE) (rI0 λ i j=>.bl (decide (i<=j))):=aKs λ _ _ _ _ _ _ _ q=>le_int q
def aMS:OpR X (zAs .Gt) (rI0 λ i j=>.bl (decide (j<i))):=aKs λ _ _ _ _ _ _ _ q=>gt_int q
def aOh:OpR X (zAs .GtE) (rI0 λ i j=>.bl (decide (j<=i))):=aKs λ _ _ _ _ _ _ _ q=>ge_int q
def aKj:OpR X (zAs .IsNot) (λ x y H Q=>y= .non/\Q (.bl (!decide (x= .non))) H):=by
 intro iX s σ H x y v u Q I rx ry h;obtain⟨rfl,q⟩:=h;cases ry;refine isnot_none_gen (aNz I q ?_);cases x<;>first
  |(cases rx;rfl)
  |(obtain⟨t,rfl⟩:=rx;rfl)
def isObj:HO->Bool
 | .lst _=>true
 | .ins _ _ _=>true
 |_=>false
def OpR.or(h:OpR X f r)(h':OpR X f r'):OpR X f (λ x y H Q=>r x y H Q\/r' x y H Q):=by
 intro iX s σ H x y v u Q I rx ry q;rcases q with q|q
 .exact h iX s σ H x y v u Q I rx ry q
 .exact h' iX s σ H x y v u Q I rx ry q
def aI5(b:Expr)(h:op≠.In:=by decide)(h2:op≠.NotIn:=by decide):zCS op b=false:=by
 have e1:(op==CmpOp.In)=false:=by cases op<;>first|rfl|exact absurd rfl h
 have e2:(op==CmpOp.NotIn)=false:=by cases op<;>first|rfl|exact absurd rfl h2
 cases b<;>simp[zCS,e1,e2]
def aKa{op:CmpOp}{r:R2}(ho:OpR X (zAs op) r)(ha:PE X a ta)(hb:PE X b tb)(hm:zCS op b=false):PE X (.Compare a [op] [b] pos) (tOp r ta tb):=by
 intro iX s σ H Q I h;exact wpAny_Compare1 (aOG ha hb I h λ v u s2 x y H2 I2 rx ry q=>ho iX s2 σ H2 x y v u Q I2 rx ry q) hm
def aHY(t:TE):TT:=λ σ H Q=>t σ H λ x H'=>∃k,x= .bl k/\Q k H'
def aK0(ho:OpR X (zAs op) r)(ha:PE X a ta)(hb:PE X b tb)(hm:zCS op b=false):PT X (.Compare a [op] [b] pos) (aHY (tOp r ta tb)):=by
 intro iX s σ H Q I h;refine wpAny_isTrue_Compare1 (thn (ha iX s σ H _ I h) λ v s1 ⟨x,H1,I1,r1,q1⟩=>thn (hb iX s1 σ H1 _ I1 q1) λ u s2 ⟨y,H2,I2,r2,q2⟩=>
  thn (ho iX s2 σ H2 x y v u _ I2 r1 r2 q2) λ c s3 ⟨z,H3,I3,r3,k,e,q3⟩=>?_) hm
 subst e;cases r3;exact zBu ⟨H3,I3,q3⟩
def aDk(r r':R2)(ta tb tc:TE):TE:=λ σ H Q=>ta σ H λ x H1=>tb σ H1 λ y H2=>r x y H2 λ z H3=>∃k,z= .bl k/\
 (if k=true then tc σ H3 λ w' H4=>r' y w' H4 Q else Q (.bl false) H3)
def aIU(ho:OpR X (zAs op) r)(ho':OpR X (zAs op') r')(ha:PE X a ta)(hb:PE X b tb)(hc:PE X c tc)
  (hm:zEy [op,op'] [b,c]=false:=by with_unfolding_all rfl):PE X (.Compare a [op,op'] [b,c] pos) (aDk r r' ta tb tc):=by
 intro iX s σ H Q I h;refine Compare_chain (thn (ha iX s σ H _ I h) λ v s1 ⟨x,H1,I1,r1,q1⟩=>chain_link (thn (hb iX s1 σ H1 _ I1 q1) λ u s2 ⟨y,H2,I2,r2,q2⟩=>
  thn (ho iX s2 σ H2 x y v u _ I2 r1 r2 q2) λ d s3 ⟨z,H3,I3,r3,k,e,q3⟩=>?_)) hm
 subst e;cases r3;refine zBu ?_;cases k with
 |false=>exact ite_ff ⟨.bl false,H3,I3,rfl,q3⟩
 |true=>exact ite_tt (chain_last (thn (hc iX s3 σ H3 _ I3 q3) λ w' s4 ⟨z',H4,I4,r4,q4⟩=>ho' iX s4 σ H4 y z' u w' Q I4 r2 r4 q4))
def aIE(ho:OpR X (zAs op) r)(ho':OpR X (zAs op') r')(ha:PE X a ta)(hb:PE X b tb)(hc:PE X c tc)
  (hm:zEy [op,op'] [b,c]=false:=by with_unfolding_all rfl):PT X (.Compare a [op,op'] [b,c] pos) (aHY (aDk r r' ta tb tc)):=by
 intro iX s σ H Q I h;refine isTrue_chain (thn (ha iX s σ H _ I h) λ v s1 ⟨x,H1,I1,r1,q1⟩=>test_link (thn (hb iX s1 σ H1 _ I1 q1) λ u s2 ⟨y,H2,I2,r2,q2⟩=>
  thn (ho iX s2 σ H2 x y v u _ I2 r1 r2 q2) λ d s3 ⟨z,H3,I3,r3,k,e,q3⟩=>?_)) hm
 subst e;cases r3;refine zBu ?_;cases k with
 |false=>
  obtain⟨k',e',q'⟩:=q3;cases e';exact ite_ff ⟨H3,I3,q'⟩
 |true=>
  refine ite_tt (test_last (thn (hc iX s3 σ H3 _ I3 q3) λ w' s4 ⟨z',H4,I4,r4,q4⟩=>thn (ho' iX s4 σ H4 y z' u w' _ I4 r2 r4 q4) λ d' s5 ⟨z2,H5,I5,r5,k2,e2,q5⟩=>?_));subst e2;cases r5;exact zBu ⟨H5,I5,q5⟩
def aOK(K:zAA)(x:V)(H:Hp)(k:Bool):Prop:=
 match x with
 | .non=>k=false
 | .bl b=>k=b
 | .int i=>k=(i !=0)
 | .str y=>y.length<=zAY/\k=((y.length:Int)!=0)
 | .byt y=>y.size<=zAY/\k=((y.size:Int)!=0)
 | .ref p=>(∃xs,SqL K H p xs/\k= !xs.isEmpty)\/(∃xs,SqT K H p xs/\k= !xs.isEmpty)\/∃kvs,H p=some (.dK kvs)/\k= !kvs.isEmpty
 |_=>False
def aEc(r:KV kvs vs):(!vs.isEmpty)= !kvs.isEmpty:=by
 cases r<;>rfl
def ye(r:Vals xs its):(!its.toArray.isEmpty)= !xs.isEmpty:=by
 cases r<;>simp
def vM:(zAY:Nat)<2^63:=by rw[zBz];decide
def aM6:aP5 X (λ x H Q=>∃k,aOK X.K x H k/\Q k H):=by
 intro iX s σ H x v Q I rx h;obtain⟨k,e,q⟩:=h;have hl:=vM;have hs:zAY=16777216:=zBz;cases x with
 |non=>
  cases rx;have e':k=false:=e;subst e';exact truthy_none ⟨H,I,q⟩
 |bl b=>
  cases rx;have e':k=b:=e;subst e';exact zBu ⟨H,I,q⟩
 |int i=>
  obtain⟨t,rfl⟩:=rx;have e':k=(i !=0):=e;subst e';exact PySem.P.truthy_int ⟨H,I,q⟩
 |str y=>
  obtain⟨t,rfl⟩:=rx;obtain⟨hy,e'⟩:y.length<=zAY/\k=((y.length:Int)!=0):=e;subst e';exact PySem.P.truthy_str (by lia) ⟨H,I.tok _,q⟩
 |byt y=>
  obtain⟨t,rfl⟩:=rx;obtain⟨hy,e'⟩:y.size<=zAY/\k=((y.size:Int)!=0):=e;subst e';exact PySem.W.truthy_bytes (by lia) ⟨H,I.tok _,q⟩
 |ref p=>
  cases rx;have e':(∃xs,SqL X.K H p xs/\k= !xs.isEmpty)\/(∃xs,SqT X.K H p xs/\k= !xs.isEmpty)\/∃kvs,H p=some (.dK kvs)/\k= !kvs.isEmpty:=e
  rcases e' with ⟨xs,hx,e'⟩|⟨xs,hx,e'⟩|⟨kvs,hx,e'⟩
  .subst e'
   obtain⟨its,r,pl,hz⟩:=I.list hx;have kQ:=r.length;exact wpAny_truthy_list pl.isList (by simp only[zAP];lia) ⟨H,I.tok _,by rw[ye r];exact q⟩
  .subst e'
   obtain⟨its,r,pl,hz⟩:=I.tuple hx;have kQ:=r.length;exact truthy_tuple pl (by simp only[zAP];lia) ⟨H,I.tok _,by rw[ye r];exact q⟩
  .subst e'
   obtain⟨hz,hS,vs,r,m⟩:kvs.length<=zAY/\(p==zD8)=false/\∃vs,KV kvs vs/\s.heap.DictOf (aBS X.prog X.w) p vs:=I.hok p _ hx
   have kQ:kvs.length=vs.length:=zGK r;exact wpAny_truthy_dict hS m (by lia) ⟨H,I.tok _,by rw[aEc r];exact q⟩
 |_=>exact(show False from e).elim
def aID(ha:PE X a ta)(he:∀whole,isTrue a X.env whole=(do let v <-whole;zGb a.pos;zDR [v] (truthy v))):
  PT X a (λ σ H Q=>ta σ H λ x H'=>∃k,aOK X.K x H' k/\Q k H'):=by
 intro iX s σ H Q I h;exact isTrue_plain (thn (ha iX s σ H _ I h) λ v s1 ⟨x,H1,I1,r1,q1⟩=>aM6 iX s1 σ H1 x v Q I1 r1 q1) (he _)
def vals1(r:Vals [x] us):∃u,us=[u]/\RelV x u:=by
 cases r with
 |cons r1 r2=>cases r2;exact⟨_,rfl,r1⟩
def vals2(r:Vals [x,y] us):∃u w',us=[u,w']/\RelV x u/\RelV y w':=by
 cases r with
 |cons r1 r2=>
  cases r2 with
  |cons r3 r4=>cases r4;exact⟨_,_,rfl,r1,r3⟩
def aHH(hc:X.calm=true):cX X (.builtin "max") (λ xs H Q=>∃i j,xs=[.int i,.int j]/\Q (.int (if j>i then j else i)) H):=by
 intro iX s σ H xs us Q I r h;obtain⟨i,j,rfl,q⟩:=h;obtain⟨u,w',rfl,⟨t,rfl⟩,⟨t',rfl⟩⟩:=vals2 r;refine max_two_ints (I.ok.hd hc) λ h' tk k=>⟨_,H,I.kept k,?_,q⟩
 by_cases hj:j>i
 .rw[if_pos hj,if_pos hj];exact⟨_,rfl⟩
 .rw[if_neg hj,if_neg hj];exact⟨_,rfl⟩
def aHG(hc:X.calm=true):cX X (.builtin "min") (λ xs H Q=>∃i j,xs=[.int i,.int j]/\Q (.int (if j<i then j else i)) H):=by
 intro iX s σ H xs us Q I r h;obtain⟨i,j,rfl,q⟩:=h;obtain⟨u,w',rfl,⟨t,rfl⟩,⟨t',rfl⟩⟩:=vals2 r;refine min_two_ints (I.ok.hd hc) λ h' tk k=>⟨_,H,I.kept k,?_,q⟩
 by_cases hj:j<i
 .rw[if_pos hj,if_pos hj];exact⟨_,rfl⟩
 .rw[if_neg hj,if_neg hj];exact⟨_,rfl⟩
end
structure aLs(h:Heap)(x dx C:Addr)(mA:Str->Option Value):Prop where
 obj:h.get? x=some (zCQ C dx)
 ns:h.Ns1 dx mA
 ne:dx≠x
def aGi{h:Heap}{dx:Addr}{mA:Str->Option Value}(n:h.Ns1 dx mA):∃od,h.get? dx=some od/\∀name,zE4 name od=some (mA name):=by
 obtain⟨o,es,ep,ho,hd,hk,_,hm⟩:=n;refine⟨o,ho,λ name=>?_⟩;have e:=hm name;unfold nsFind findBy at e;rw[<-Array.find?_toList]at e;unfold zE4;rw[hd];dsimp only;split
 .rename_i y q
  rw[q]at e;exact congrArg some e
 .rename_i q
  rw[q]at e;have a:es.toList.any (·.refKey)=false:=by
   rw[zEE];intro y hy;obtain⟨z,t,hkey⟩:=hk y (Array.mem_toList_iff.mp hy);simp[DictEntry.refKey,hkey]
  have a':¬es.toList.any (·.refKey)=true:=by rw[a];exact zAX
  rw[if_neg a'];exact congrArg some e
def aLs.look(I:aLs h x dx C mA):∃od,zHd h x (zCQ C dx) C (some od)/\∀name,zE4 name od=some (mA name):=
 let⟨od,ho,hl⟩:=aGi I.ns
 ⟨od,⟨I.obj,rfl,rfl,ho⟩,hl⟩
section
variable{prog:zA7}{w:World}{A:zAk}{E:Value->zAG->Prop}{s:zAG}{K:zAA}{x dx C f:Addr}{mA:Str->Option Value}{name:Str}
def aJK(X:K.In s.heap)(I:aLs s.heap x dx C mA)(hg:zFR K C name=true)
  (hf:zB3 K (.ref C) name=some (some (.ref f)))(ht:zIR K (.ref f)=true)(hv:mA name=none)(h:Q (.ref f,[.ref x]) s):
  wpAny (model prog w) A (getMethod (.ref x) name pl) Q E s:=by
 obtain⟨od,J,hl⟩:=I.look;exact PySem.W.method_fn X J (zG5 hg).1 (zG5 hg).2 hf (beq_iff_eq.mp ht) (by show(zE4 name od).map (·.isSome)=some false;rw[hl,hv];rfl) h
def make_map(X:K.In s.heap)(hm:PySem.W.makesIn K C=true)
  (hi:zB3 K (.ref C) "__init__"=some (some (.ref f)))(hf:PySem.W.typeIn K (.ref f)=some (.type "function"))
  (h:zCZ (model prog w) (A.under (.builtin "type.__call__" ⟨.ref C::vs,kw⟩)) (.call (.ref f) ⟨.ref (s.heap.objs.size+1)::vs,kw⟩) (PySem.W.InitBack (s.heap.objs.size+1) R)
   {s with heap:=(s.heap.push zBd).push (zCQ C s.heap.objs.size)}):
  zCZ (model prog w) A (.call (.ref C) ⟨vs,kw⟩) R s:=by
 obtain⟨hh,g,d,t,os⟩:=s;exact PySem.W.make_core (PySem.W.makes_of X hm) (zDY X hi) (λ self=>PySem.W.bind_fn X self hf) (.inl rfl) h
end
def aHL.none_of(r:aHL none o):o=none:=by
 cases o with
 |none=>rfl
 |some u=>exact(show False from r).elim
section
variable{P:zA7}{w:World}{H:Hp}{h:Heap}{a C dx:Addr}{fs:List (Str×V)}
def xG(hok:HOk P w H h)(e:H a=some (.ins C dx fs)):∃mA,aLs h a dx C mA/\(∀f,aHL (fs.lookup f) (mA f))/\zIa mA (fs.map (·.1))/\fs.length<=1000/\H dx=some (.own a):=by
 obtain⟨d,z,ne,ob,mA,n,r,q⟩:=(show dX P w H h a (.ins C dx fs)from hok a _ e);exact⟨mA,⟨ob,n,ne⟩,r,q,z,d⟩
end
structure Cls(K:zAA)(C:Addr):Prop where
 pg:zFR K C Str.empty=true
 hd:PySem.W.hasDictIn K C=true
 po:PySem.W.plainOver K C=true
 sa:zB3 K (.ref C) "__setattr__"=some (some (.builtin "object.__setattr__"))
def Cls.get{K:zAA}{C:Addr}(c:Cls K C)(f:Str):zFR K C f=true:=c.pg
def aOM(K:zAA)(C:Addr)(f:Str):Prop:=zB3 K (.ref C) f=some none
structure Meth(K:zAA)(C:Addr)(m:Str)(f:Addr):Prop where
 at_:zB3 K (.ref C) m=some (some (.ref f))
 fn:zIR K (.ref f)=true
 kp:zDO K (.ref f)=true
section
variable{X:Cx}{iX:hZ}{σ:St}{H:Hp}{s:zAG}{a C dx:Addr}{fs:List (Str×V)}{A:zAk}{E:Value->zAG->Prop}
def aEf(I:Inv X iX σ H s)(e:H a=some (.ins C dx fs))(c:Cls X.K C)(k:Meth X.K C m g)(l:fs.lookup m=none)
  (h:Q (.ref g,[.ref a]) s):wpAny (model X.prog X.w) A (getMethod (.ref a) m pl) Q E s:=by
 obtain⟨mA,O,r,_,_,_⟩:=xG I.hok e;have hn:mA m=none:=aHL.none_of (by rw[<-l];exact r m);exact aJK I.kIn O (c.get m) k.at_ k.fn hn h
def Inv.made(I:Inv X iX σ H s):Inv X iX σ (upd (upd H s.heap.objs.size (.own (s.heap.objs.size+1))) (s.heap.objs.size+1) (.ins C s.heap.objs.size []))
  {s with heap:=(s.heap.push zBd).push (zCQ C s.heap.objs.size)}:=by
 have e1:(s.heap.push zBd).get? s.heap.objs.size=some zBd:=zAO s.heap rfl;have e2:((s.heap.push zBd).push (zCQ C s.heap.objs.size)).get? (s.heap.objs.size+1)=some (zCQ C s.heap.objs.size):=by
  have:=zAO (s.heap.push zBd) (o:=zCQ C s.heap.objs.size) rfl
  rwa [zBB]at this
 have e3:(s.heap.push zBd).Ns s.heap.objs.size (λ _=>none):=⟨zBd,#[],_,e1,rfl,(λ e he=>absurd he (by simp)),λ _=>rfl⟩;have I1:=I.laid (a:=s.heap.objs.size) (o:=.own (s.heap.objs.size+1)) (h':=s.heap.push zBd) (t':=s.toks) (λ b u q=>zAC _ q) (zAT _) ⟨_,e1⟩;refine I1.laid (a:=s.heap.objs.size+1) (o:=.ins C s.heap.objs.size []) (t':=s.toks) (λ b u q=>zAC _ q) (Nat.le_of_eq (zBB _ _)) ?_;have ne:s.heap.objs.size≠s.heap.objs.size+1:=zA8 (zBx _);refine⟨by rw[bG ne,aq],zAj _,ne,e2,λ _=>none,(Heap.Ns1.of_empty e3).at λ o q=>zAC _ q,λ _=>zEH,λ y hy=>absurd rfl hy⟩
end
def tFld(K:zAA)(ta:TE)(f:Str):TE:=λ σ H Q=>ta σ H λ x H1=>∃a C dx fs v,x= .ref a/\H1 a=some (.ins C dx fs)/\Cls K C/\aOM K C f/\fs.lookup f=some v/\Q v H1
section
variable{X:Cx}{e:Expr}{f:Str}{pos:Pos}
def methcall_of(he:PE X e te)(I:Inv X iX σ H s)
  (h:te σ H λ x H1=>∃a C dx fs g,x= .ref a/\H1 a=some (.ins C dx fs)/\Cls X.K C/\Meth X.K C m g/\fs.lookup m=none/\
   ∀s1,Inv X iX σ H1 s1->wpAny (model X.prog X.w) X.A (callWith pos (.ref g) [.ref a] (zCo pos (zA1 args X.env)) (zFM pos (zD7 [] X.env))) Q X.xe s1)
  (ht:eval (.Call (.Attribute e m apos) args [] pos) X.env=(do
   let ov <-eval e X.env
   zGb apos.atName
   let(f,first) <-zDR [ov] (getMethod ov m pl)
   callWith pos f first (zCo pos (zA1 args X.env)) (zFM pos (zD7 [] X.env)))):
  wpAny (model X.prog X.w) X.A (eval (.Call (.Attribute e m apos) args [] pos) X.env) Q X.xe s:=by
 refine PySem.W.methodCall_KW (pl:=pl) (thn (he iX s σ H _ I h) λ u s1 ⟨x,H1,I1,rx,a,C,dx,fs,g,ex,ea,c,k,l,q⟩=>?_) ht;subst ex;obtain rfl:u=zBr a:=rx;exact aEf I1 ea c k l (q s1 I1)
end
section
variable{X:Cx}{iX:hZ}{σ:St}{H:Hp}{s:zAG}{A:zAk}{E:Value->zAG->Prop}{Q:Value->zAG->Prop}{c:Value}{b:Bool}
inductive v4(K:zAA)(H:Hp):V->Value->Prop where
 |non:v4 K H .non (.type "NoneType")
 |bl (x:Bool):v4 K H (.bl x) (.type "bool")
 |int (i:Int):v4 K H (.int i) (.type "int")
 |str (x:Str):v4 K H (.str x) (.type "str")
 |flt (x:UInt64):v4 K H (.flt x) (.type "float")
 |lst {a:Addr} {xs:List V} (e:H a=some (.lst xs)):v4 K H (.ref a) (.type "list")
 |frz {a:Addr} {o:Obj} {xs:List V} (e:H a=some (.frz o (.lst xs))):v4 K H (.ref a) (.type "list")
 |tup {a:Addr} {xs:List V} (e:H a=some (.tup xs)):v4 K H (.ref a) (.type "tuple")
 |dK {a:Addr} {kvs:List (Key×V)} (e:H a=some (.dK kvs)):v4 K H (.ref a) (.type "dict")
 |dT {a:Addr} {kvs:List (List Key×V)} (e:H a=some (.dT kvs)):v4 K H (.ref a) (.type "dict")
 |ins {a C dx:Addr} {fs:List (Str×V)} (e:H a=some (.ins C dx fs)) (cl:Cls K C) (ha:zB3 K (.ref C) "__class__"=some (some (.builtin "object.__class__")))
   (hn:PySem.W.specialIn K (.builtin "object.__class__") "__get__"=some (some (.builtin "getset_descriptor.__get__"))) (htk:PySem.W.takesIn K (.builtin "object.__class__")=some true)
   (hm:PySem.W.mroIn K C (.type "object")=some true):v4 K H (.ref a) (.ref C)
def aGp(I:Inv X iX σ H s)(rx:RelV x u)(ty:v4 X.K H x t)(e:zDn X.K t c=some b)(h:∀tk,Q (.bool b) {s with toks:=tk}):
  wpAny (model X.prog X.w) A (call (.builtin "isinstance") [u,c]) Q E s:=by
 cases ty with
 |non=>cases (show u=zBR from rx);exact zBN PySem.W.kitx_none I.kIn zEH e (λ z=>nomatch z) h
 |bl y=>cases (show u=zE7 y from rx);exact zBN PySem.W.kitx_bool I.kIn zEH e (λ z=>nomatch z) h
 |int i=>obtain⟨t,q⟩:=(show∃t,u=zCR i t from rx);cases q;exact zBN PySem.W.kitx_int I.kIn zEH e (λ z=>nomatch z) h
 |str y=>obtain⟨t,q⟩:=(show∃t,u=zIE y t from rx);cases q;exact zBN PySem.W.kitx_str I.kIn zEH e (λ z=>nomatch z) h
 |flt y=>obtain⟨t,q⟩:=(show∃t,u=zIs y t from rx);cases q;exact zBN PySem.W.kitx_float I.kIn zEH e (λ z=>nomatch z) h
 |@lst a xs ea=>
  cases (show u=zBr a from rx);obtain⟨_,_,n,_,h1⟩:=(show dX X.prog X.w H s.heap a (.lst xs)from I.hok a _ ea);exact zBN zGz I.kIn ⟨_,h1,rfl⟩ e (λ z=>nomatch z) h
 |@frz a ob xs ea=>
  cases (show u=zBr a from rx);obtain⟨_,_,_,n,_,h1⟩:=(show dX X.prog X.w H s.heap a (.frz ob (.lst xs))from I.hok a _ ea);exact zBN zGz I.kIn ⟨_,h1,rfl⟩ e (λ z=>nomatch z) h
 |@tup a xs ea=>
  cases (show u=zBr a from rx);obtain⟨_,_,_,p⟩:=(show dX X.prog X.w H s.heap a (.tup xs)from I.hok a _ ea);obtain⟨o,h1,h2,_⟩:=p;exact zBN zGn I.kIn ⟨o,h1,h2⟩ e (λ z=>nomatch z) h
 |@dK a kvs ea=>
  cases (show u=zBr a from rx);obtain⟨_,_,vs,_,p⟩:=(show dX X.prog X.w H s.heap a (.dK kvs)from I.hok a _ ea);obtain⟨o,es,ep,h1,h2,_⟩:=p;exact zBN zEw I.kIn ⟨o,h1,h2.1⟩ e (λ z=>nomatch z) h
 |@dT a kvs ea=>
  cases (show u=zBr a from rx);obtain⟨_,_,xs,_,o,es,ep,h1,h2,_⟩:=(show dX X.prog X.w H s.heap a (.dT kvs)from I.hok a _ ea);exact zBN zEw I.kIn ⟨o,h1,h2.1⟩ e (λ z=>nomatch z) h
 |@ins a C dx fs ea cl ha hn htk hm=>
  cases (show u=zBr a from rx);obtain⟨mA,O,_⟩:=xG I.hok ea;obtain⟨od,J,_⟩:=O.look;exact zBN (PySem.W.kitx_own (cl.get _) cl.hd ha hn htk hm) I.kIn J e (λ z=>nomatch z) h
end
structure lG(k:Nat)(A:zAk):Prop where
 hd:A.handled=none
 dp:A.depth+3*k+5<zHC
 un:A.units+16*k+200<cLine
def lG.mono(r:lG k A)(h:j<=k):lG j A:=⟨r.hd,by have:=r.dp;lia,by have:=r.un;lia⟩
theorem lG.deeper(r:lG (k+1) A)(env:Env):lG k (A.deeper env):=
 ⟨r.hd,by have:=r.dp;show A.depth+1+3*k+5<_;lia,by have:=r.un;show A.units+3+16*k+200<_;lia⟩
theorem lG.depth(r:lG k A):A.depth<zHC:=by have:=r.dp;lia
theorem lG.units(r:lG k A):A.units+64<cLine:=by have:=r.un;lia
def lG.units0(r:lG k A):A.units<cLine:=by have:=r.un;lia
def oZ:TA:=λ _ H Q=>Q [] H
def je(ta:TE)(tr:TA):TA:=λ σ H Q=>ta σ H λ x H1=>tr σ H1 λ xs H2=>Q (x::xs) H2
section
variable{X:Cx}{e:Expr}{es:List Expr}{te:TE}{t:TA}{pos:Pos}
def gR:PA X [] oZ:=λ _ _ _ _ H Q I h=>Calls.spliced_nil ⟨[],H,I,.nil,h⟩
def dI(ha:PE X e te)(hr:PA X es t)(hs:zA1 (e::es) X.env=(false,eval e X.env)::zA1 es X.env:=by rfl):PA X (e::es) (je te t):=by
 intro pos iX s σ H Q I h;rw[hs];show wpAny _ _ (spliced ((false,eval e X.env)::zCo pos (zA1 es X.env))) _ _ s;refine Calls.spliced_cons (thn (ha iX s σ H _ I h) λ u s1 ⟨x,H1,I1,r1,q1⟩=>?_);exact thn (hr pos iX s1 σ H1 _ I1 q1) λ us s2 ⟨xs,H2,I2,r2,q2⟩=>⟨x::xs,H2,I2,.cons r1 r2,q2⟩
def aPO(t:TA):TE:=λ σ H Q=>t σ H λ xs H1=>xs.length<=zAY/\∀p,H1 p=none->Q (.ref p) (upd H1 p (.tup xs))
def aPS(t:TA):TE:=λ σ H Q=>t σ H λ xs H1=>xs.length<=zAY/\∀p,H1 p=none->Q (.ref p) (upd H1 p (.lst xs))
def aND{x1}(h:PA X es t):PE X (.Tuple es x1 pos) (aPO t):=by
 intro iX s σ H Q I hq;refine wpAny_Tuple_spliced (thn (h pos iX s σ H _ I hq) λ us s1 ⟨xs,H1,I1,r,z,q⟩=>⟨by rw[<-r.length];exact z,?_⟩);have hf:H1 s1.heap.objs.size=none:=I1.hok.fresh (zAT _);refine⟨.ref s1.heap.objs.size,upd H1 s1.heap.objs.size (.tup xs),I1.laid (t':=s1.toks) (λ b u e=>zAC _ e) (zAT _) ?_,rfl,q _ hf⟩;exact⟨⟨z,NoD.push _⟩,us,r,⟨_,zAO _ rfl,rfl,_,rfl⟩⟩
def aNI(h:PA X es t):PE X (.List es pos) (aPS t):=by
 intro iX s σ H Q I hq;refine wpAny_List_spliced (thn (h pos iX s σ H _ I hq) λ us s1 ⟨xs,H1,I1,r,z,q⟩=>⟨by rw[<-r.length];exact z,?_⟩);have hf:H1 s1.heap.objs.size=none:=I1.hok.fresh (zAT _);refine⟨.ref s1.heap.objs.size,upd H1 s1.heap.objs.size (.lst xs),I1.laid (t':=s1.toks) (λ b u e=>zAC _ e) (zAT _) ?_,rfl,q _ hf⟩;exact⟨z,us,0,r,zAO _ rfl⟩
end
abbrev Sp:=List V->Hp->VK->XK->Prop
abbrev CXT:=List Env->Hp->zAG->XK->Value->zAG->Prop
structure aJp(P:zA7)(w:World)(K:zAA)(mg:Str->Option Value)(base:Heap)(A:zAk)(outer:List Env)(s:zAG)(H:Hp):Prop where
 frames:A.frames=some outer
 mod:Mod K mg base
 bs:∀b o,base.get? b=some o->s.heap.get? b=some o/\H b=none
 bsz:base.objs.size<=s.heap.objs.size
 funs:s.heap.FunFrames base outer
 frf:∀b∈frs outer,H b=none
 hok:HOk P w H s.heap
 bare:zEu s.gens
def CE(outer:List Env)(P:zA7)(w:World)(H:Hp)(s:zAG)(Q:VK)(u:Value)(s':zAG):Prop:=
 ∃v H',s'.os=s.os/\zEu s'.gens/\Un (frs outer) [] H H' s.heap s'.heap/\HOk P w H' s'.heap/\RelV v u/\Q v H'
def CR(CX:CXT)(outer:List Env)(P:zA7)(w:World)(H:Hp)(s:zAG)(Q:VK)(E:XK)(r:zEb)(s':zAG):Prop:=
 match r with
 | .ok (.ret u)=>CE outer P w H s Q u s'
 | .ok _=>False
 | .error e=>CX outer H s E e s'
structure bw(P:zA7)(w:World)(K:zAA)(mg:Str->Option Value)(base:Heap)(CX:CXT)(k:Nat)(f:Addr)(fd:zAd)(ps:List Str)(sp:Sp):Prop where
 len:∀vs H Q E,sp vs H Q E->vs.length=ps.length
 run:∀(A:zAk) (outer:List Env) (s:zAG) (H:Hp) (args:Args) (us:List Value) (vs:List V) (Q:VK) (E:XK),lG k A->aJp P w K mg base A outer s H->zFt s fd args (ps.zip us)->Vals vs us->sp vs H Q E->
  zCZ (model P w) A (.call (.ref f) args) (CR CX outer P w H s Q E) s
def bw.imp{P:zA7}{w:World}{K:zAA}{mg:Str->Option Value}{base:Heap}{CX:CXT}{k:Nat}{f:Addr}{fd:zAd}{ps:List Str}{sp sp':Sp}(F:bw P w K mg base CX k f fd ps sp)
  (h:∀vs H Q E,sp' vs H Q E->sp vs H Q E):bw P w K mg base CX k f fd ps sp':=
 ⟨λ vs H Q E q=>F.len vs H Q E (h _ _ _ _ q),λ A outer s H args us vs Q E hr he hb hv hs=>F.run A outer s H args us vs Q E hr he hb hv (h _ _ _ _ hs)⟩
section
variable{X:Cx}{iX:hZ}{σ:St}{H:Hp}{s s':zAG}
def Inv.env0(I:Inv X iX σ H s):aJp X.prog X.w X.K X.mg X.base X.A X.stack s H:=
 ⟨I.ok.frames,I.ok.mod,I.bs,zAn I.ok.bsz I.sz,I.stack,I.stkFree,I.hok,I.bare⟩
def Inv.after(I:Inv X iX σ H s)(h:CE X.stack X.prog X.w H s Q u s'):EP X iX σ Q u s':=by
 obtain⟨v,H',os,bare,un,hok,r,q⟩:=h;obtain⟨hh,g,d,t,os'⟩:=s';obtain rfl:os'=s.os:=os;exact⟨v,H',I.call (h':=hh) (g':=g) (d':=d) (t':=t) (ch:=[]) un hok bare (λ b z=>absurd z (by simp)),r,q⟩
end
def aMA(sp:Sp)(dvs:List V)(E:XK)(t:TA):TE:=λ σ H Q=>t σ H λ vs H1=>sp (vs++dvs) H1 Q E
def tMeth(C:Addr)(m:Str)(sp:Sp)(dvs:List V)(E:XK)(ta:TE)(t:TA):TE:=λ σ H Q=>ta σ H λ x H1=>∃a dx fs,x= .ref a/\H1 a=some (.ins C dx fs)/\fs.lookup m=none/\
 t σ H1 λ vs H2=>sp (x::(vs++dvs)) H2 Q E
def tMake(C:Addr)(sp:Sp)(dvs:List V)(E:XK)(t:TA):TE:=λ σ H Q=>t σ H λ vs H1=>∀x dx,H1 x=none->H1 dx=none->dx≠x->
 sp (.ref x::(vs++dvs)) (upd (upd H1 dx (.own x)) x (.ins C dx [])) (λ v H2=>v= .non/\Q (.ref x) H2) E
def Binds(K:zAA)(fd:zAd)(ps:List Str)(ds:List Value):Prop:=
 ∀(s:zAG) (us:List Value),K.In s.heap->(us++ds).length=ps.length->zFt s fd ⟨us,[]⟩ (ps.zip (us++ds))
def Binds.all{K:zAA}{fd:zAd}{ps:List Str}(h:∀us:List Value,us.length=ps.length->bindArgs fd ⟨us,[]⟩=pure (ps.zip us)):Binds K fd ps []:=λ s us _ hl=>by
 rw[zAe]at hl ⊢;exact .of_eq (h us hl)
def aBr(CX:CXT)(X:Cx)(E:XK):Prop:=∀(iX:hZ) (σ:St) (H:Hp) (s:zAG) (e:Value) (s':zAG),Inv X iX σ H s->CX X.stack H s E e s'->X.xe e s'
section
variable{X:Cx}{CX:CXT}{k:Nat}{f:Addr}{fd:zAd}{ps:List Str}{sp:Sp}{dvs:List V}{ds:List Value}{E:XK}{x:Str}{p pos:Pos}{e:Expr}{es:List Expr}{t:TA}
def aMj(F:bw X.prog X.w X.K X.mg X.base CX k f fd ps sp)(hr:lG k X.A)(hb:Binds X.K fd ps ds)(hd:Vals dvs ds)(hx:aBr CX X E)
  (I:Inv X iX σ H s)(r:Vals vs us)(h:sp (vs++dvs) H Q E):wpAny (model X.prog X.w) X.A (call (.ref f) us) (EP X iX σ Q) X.xe s:=by
 have r2:Vals (vs++dvs) (us++ds):=r.append hd;have hl:(us++ds).length=ps.length:=by rw[<-r2.length];exact F.len _ _ _ _ h
 refine wpAny_call (zDf (F.run X.A X.stack s H ⟨us,[]⟩ (us++ds) (vs++dvs) Q E hr I.env0 (hb s us I.kIn hl) r2 h) λ r s' hq=>?_);cases r with
 |error e=>exact hx iX σ H s e s' I hq
 |ok fl=>
  cases fl with
  |ret u=>exact I.after hq
  |next=>exact zAR hq
  |brk=>exact zAR hq
  |cont=>exact zAR hq
def aKb(F:bw X.prog X.w X.K X.mg X.base CX k f fd ps sp)(hr:lG k X.A)(hg:Gl X x)(hm:X.mg x=some (.ref f))(hk:zDO X.K (.ref f)=true)(hb:Binds X.K fd ps ds)(hd:Vals dvs ds)(hx:aBr CX X E)
  (ha:PA X (e::es) t)(hdb:Nd x:=by decide)(he:zA1 (e::es) X.env=(false,eval e X.env)::zA1 es X.env:=by rfl)(hpl:(zCo pos (zA1 es X.env)).any (·.1)=false:=by rfl):
  PE X (.Call (.Name x p) (e::es) [] pos) (aMA sp dvs E t):=by
 intro iX s σ H Q I h;refine zDT (aBT I hg hm ?_ hdb);refine PySem.W.callWith_K (h₀:=X.base) I.ok.mod.kin hk (thn (ha pos iX s σ H _ I h) λ us s1 ⟨vs,H1,I1,r,q⟩=>⟨I1.kIn,?_⟩) he hpl;exact aMj F hr hb hd hx I1 r q
end
structure aV(N P:List Str)(sc:Scope):Prop where
 kind:sc.kind= .function
 co:sc.isCoroutine=false
 gen:sc.isGenerator=false
 nd:N.Nodup
 pre:N.take P.length=P
 par:∀x∈P,sc.names.lookup x=some .local\/sc.names.lookup x=some .cell
 nofree:∀y∈sc.names,y.2≠.free
theorem aA9{zD3:Str->Option zDq}{x:Str}:∀{binds:List (Str×Value)} {m:Str->Option Value},(∀v,(x,v)∉binds)->bindL zD3 binds m x=m x
 |[],_,_=>rfl
 |(n,v)::r,m,h=>by
  unfold bindL;rw[aA9 λ w hw=>h w (zAF _ hw)];split
  .have:x≠n:=by rintro rfl;exact h v zAH
   simp[this]
  .rfl
theorem aAb{zD3:Str->Option zDq}{x:Str}:∀{binds:List (Str×Value)} {m:Str->Option Value},(∀v,(x,v)∉binds)->bindC zD3 binds m x=m x
 |[],_,_=>rfl
 |(n,v)::r,m,h=>by
  unfold bindC;rw[aAb λ w hw=>h w (zAF _ hw)];split
  .rfl
  .have:x≠n:=by rintro rfl;exact h v zAH
   simp[this]
theorem aAa{zD3:Str->Option zDq}{x:Str}{v:Value}:∀{P:List Str} {vs:List Value} {i:Nat} {m:Str->Option Value},P.Nodup->P[i]? =some x->vs[i]? =some v->zD3 x=some .local->
  bindL zD3 (P.zip vs) m x=some v
 |[],_,_,_,_,h,_,_=>by simp at h
 |_::_,[],_,_,_,_,h,_=>by simp at h
 |p::P,w::vs,0,m,nd,h1,h2,hk=>by
  simp at h1 h2;subst h1;subst h2;show bindL zD3 ((p,w)::P.zip vs) m p=_;unfold bindL;rw[aA9 λ v hv=>(zAp.mp nd).1 (zE3 hv).1,if_pos hk];simp
 |p::P,w::vs,i+1,m,nd,h1,h2,hk=>by
  show bindL zD3 ((p,w)::P.zip vs) m x=_;unfold bindL;exact aAa (i:=i) (zAp.mp nd).2 (by simpa using h1) (by simpa using h2) hk
theorem aAc{zD3:Str->Option zDq}{x:Str}{v:Value}:∀{P:List Str} {vs:List Value} {i:Nat} {m:Str->Option Value},P.Nodup->P[i]? =some x->vs[i]? =some v->zD3 x≠some .local->
  bindC zD3 (P.zip vs) m x=some v
 |[],_,_,_,_,h,_,_=>by simp at h
 |_::_,[],_,_,_,_,h,_=>by simp at h
 |p::P,w::vs,0,m,nd,h1,h2,hk=>by
  simp at h1 h2;subst h1;subst h2;show bindC zD3 ((p,w)::P.zip vs) m p=_;unfold bindC;rw[aAb λ v hv=>(zAp.mp nd).1 (zE3 hv).1,if_neg hk];simp
 |p::P,w::vs,i+1,m,nd,h1,h2,hk=>by
  show bindC zD3 ((p,w)::P.zip vs) m x=_;unfold bindC;exact aAc (i:=i) (zAp.mp nd).2 (by simpa using h1) (by simpa using h2) hk
def start(N:List Str)(vs:List V):St:=vs.map some++zAW (N.length-vs.length) none
def aDV(CX:CXT)(P:zA7)(w:World)(K:zAA)(mg:Str->Option Value)(base:Heap)(N:List Str)(qual:Str)(scope:Scope)(f:Addr)(cd:Value)(A:zAk)(outer:List Env)(s:zAG)(H:Hp)(E:XK):Cx where
 prog:=P
 w:=w
 K:=K
 mg:=mg
 base:=base
 A:=A.deeper (zEc qual scope s.heap.objs.size f cd)
 N:=N
 z4:=s
 zS:=H
 env:=zEc qual scope s.heap.objs.size f cd
 outer:=outer
 stack:=zEc qual scope s.heap.objs.size f cd::outer
 ex:=[]
 calm:=true
 fn:=λ _=>true
 pn:=[]
 xe:=λ e s'=>wpAny (model P w) (A.deeper (zEc qual scope s.heap.objs.size f cd)) (leaving (zEc qual scope s.heap.objs.size f cd) e) (λ _ s''=>CX outer H s E e s'') (λ e' s''=>CX outer H s E e' s'') s'
def uW{sc:Scope}{n:Nat}{x:Str}(h:sc.names.lookup x=some .cell):∃c,(zEA n sc.names []).lookup x=some c:=by
 have q:=zGL sc.names n [] (.inl h);exact Option.isSome_iff_exists.mp q
def aGs{CX:CXT}{P:zA7}{w:World}{K:zAA}{mg:Str->Option Value}{base:Heap}{N ps:List Str}{qual:Str}{scope:Scope}{f:Addr}{cd:Value}{A:zAk}{outer:List Env}{s s1:zAG}{H:Hp}{E:XK}{us:List Value}{vs:List V}
  (S:aV N ps scope)(hd:A.handled=none)(e0:aJp P w K mg base A outer s H)(hl:vs.length=ps.length)(r:Vals vs us)
  (x:InCallC s s.heap.objs.size (bindL (zEc qual scope s.heap.objs.size f cd).kindOf (ps.zip us) λ _=>none) (zEA (s.heap.objs.size+1) scope.names []) (bindC (zEc qual scope s.heap.objs.size f cd).kindOf (ps.zip us) λ _=>none) s1):
  Inv (aDV CX P w K mg base N qual scope f cd A outer s H E) [] (start N vs) H s1:=by
 have hpl:ps.length<=N.length:=by have:=congrArg List.length S.pre;rw[zBQ]at this;lia
 obtain⟨h1,tk,rfl,hk⟩:=x.done;have noA:∀b:Addr,b∉(aDV CX P w K mg base N qual scope f cd A outer s H E).ex:=λ b z=>absurd (show b∈([]:List Addr)from z) (by simp)
 refine⟨⟨e0.mod,S.kind,rfl,rfl,zAT _,λ y z c h1 h2=>?_,λ y hy=>?_,λ y c _ h=>?_,λ _=>hd,Around.frames_deeper e0.frames,.inr ⟨rfl,rfl⟩,λ b z=>absurd z (noA b),e0.bs,e0.bsz,λ b _ _=>noA b,λ b z=>absurd z (noA b),e0.funs,e0.frf⟩,
  rfl,e0.bare,Un.kept hk,⟨_,x.toInCall.ns,λ i y v h1 h2 h3=>?_⟩,λ y c h=>⟨_,x.cell y c h⟩,e0.hok.fresh (zAT _),λ y c h=>?_,λ p hp=>absurd (show p∈([]:hZ)from hp) (by simp),e0.hok.kept hk,?_,λ p hp=>absurd (show p∈([]:hZ)from hp) (by simp)⟩
 .exact name_of_addr x.apart (zBA h1) (zBA h2)
 .have hy:scope.names.lookup y=some .cell\/scope.names.lookup y=some .free:=hy
  rcases hy with hy|hy
  .exact uW hy
  .exact absurd rfl (S.nofree _ (zBA hy))
 .exact zB1 (x.above y c (zBA h))
 .have hi:i<vs.length:=by
   unfold start at h2;by_cases hi:i<vs.length
   .exact hi
   .rw[zCp (by simpa using hi)]at h2
    rw[zC4]at h2;split at h2<;>cases h2
  have ha:vs[i]? =some v:=by
   unfold start at h2;rw[zBo (by simpa using hi),zA2]at h2;cases e:vs[i]? with
   |none=>rw[e]at h2;cases h2
   |some a=>rw[e]at h2;cases h2;rfl
  obtain⟨u,hu,rv⟩:=r.get ha;have hp:ps[i]? =some y:=by
   rw[<-S.pre,List.getElem?_take_of_lt (by lia)];exact h1
  have ndP:ps.Nodup:=by rw[<-S.pre];exact S.nd.sublist (zHa _ _)
  refine⟨u,rv,?_⟩;rcases S.par y (zBH hp)with k|k
  .exact .inl ⟨k,aAa ndP hp hu k⟩
  .obtain⟨c,e⟩:=uW (n:=s.heap.objs.size+1) k
   refine .inr ⟨.inl k,c,e,?_⟩;have q:=x.cell y c e;rw[aAc ndP hp hu (by show scope.names.lookup y≠_;rw[k];decide)]at q;exact q
 .exact e0.hok.fresh (zB1 (x.above y c (zBA h)))
 .unfold start
  show _=N.length;rw[zA0,zAE,zCe];lia
def aOx{CX:CXT}{P:zA7}{w:World}{K:zAA}{mg:Str->Option Value}{base:Heap}{k:Nat}{f:Addr}{name qual:Str}{params:zHk}{body:List Stmt}{scope:Scope}{dV kV doc pm cdv ct oc:Value}{an od:Option Addr}
  {osl:Array (Option Value)}{N ps:List Str}{sp:Sp}(lk:K.lookup f=some ⟨oc,od,.func (zCW name qual params body scope dV kV doc pm an cdv ct),osl⟩)(hcd:zDm K cdv qual=true)(S:aV N ps scope)
  (len:∀vs H Q E,sp vs H Q E->vs.length=ps.length)
  (hbody:∀(A:zAk) (outer:List Env) (s:zAG) (H:Hp) (vs:List V) (Q:VK) (E:XK),lG k (A.deeper (zEc qual scope s.heap.objs.size f cdv))->sp vs H Q E->
   ∃t,PSs (aDV CX P w K mg base N qual scope f cdv A outer s H E) body t/\t {nx:=λ _ H'=>Q .non H',rt:=Q} (start N vs) H):
  bw P w K mg base CX (k+1) f (zCW name qual params body scope dV kV doc pm an cdv ct) ps sp:=by
 refine⟨len,λ A outer s H args us vs Q E hr e0 hb r hsp=>?_⟩;have hl:=len _ _ _ _ hsp;have KX:K.In s.heap:=e0.mod.kin.keeps λ b o e=>(e0.bs b o e).1
 have lim:s.heap.NoLimit:=e0.mod.nolimit.keeps λ b o e=>(e0.bs b o e).1
 have hkind:∀y∈ps.zip us,scope.names.lookup y.1=some .local\/(scope.names.lookup y.1=some .cell/\((zEA (s.heap.objs.size+1) scope.names []).lookup y.1).isSome=true):=λ⟨n,v⟩ hy=>by
  rcases S.par n (zE3 hy).1 with q|q
  .exact .inl q
  .exact .inr ⟨q,zGL _ _ _ (.inl q)⟩
 refine codeAny_call_function hr.depth (KX _ _ lk) rfl S.co S.gen rfl (PySem.W.codeRec_of KX hcd) (hb _ _ _ _ ?_);refine wpAny_newFunctionEnv_cells S.kind hkind λ env he s1 x=>?_
 subst he;refine⟨lim.keeps x.toInCall.keep,codeAny_func ?_⟩;obtain⟨t,ht,hq⟩:=hbody A outer s H vs Q E (hr.deeper _) hsp;have I:Inv (aDV CX P w K mg base N qual scope f cdv A outer s H E) [] (start N vs) H s1:=aGs S hr.hd e0 hl r x;refine zB5 (ht [] s1 (start N vs) H _ I hq) (λ fl s' hs=>?_) λ e s' hs=>hs
 have fin:∀{σ':St} {H':Hp} {v:V} {u:Value},Inv (aDV CX P w K mg base N qual scope f cdv A outer s H E) [] σ' H' s'->RelV v u->Q v H'->CE outer P w H s Q u s':=
  λ{σ' H' v u} J rv q=>⟨v,H',J.os,J.bare,J.base,J.hok,rv,q⟩
 cases fl with
 |ret u=>
  obtain⟨v,σ',H',J,rv,q⟩:=hs;exact fin J rv q
 |next=>
  obtain⟨σ',H',J,q⟩:=hs;exact fin (v:=V.non) (u:=zBR) J rfl q
 |brk=>
  obtain⟨_,_,_,q⟩:=hs;exact zAR q
 |cont=>
  obtain⟨_,_,_,q⟩:=hs;exact zAR q
section
variable{X:Cx}{x:Str}{p pos:Pos}{e:Expr}{es:List Expr}{t:TA}{id T:String}{r:List V->Hp->VK->Prop}
def tCB(r:List V->Hp->VK->Prop)(t:TA):TE:=λ σ H Q=>t σ H λ vs H1=>r vs H1 Q
def m8(hc:cX X (.builtin id) r)(hg:Gl X x)(hm:X.mg x=none)(hv:zAq x=some (.builtin id))(ha:PA X (e::es) t)(hn:x≠"__name__":=by decide)(hdb:Nd x:=by decide)
  (he:zA1 (e::es) X.env=(false,eval e X.env)::zA1 es X.env:=by rfl)(hpl:(zCo pos (zA1 es X.env)).any (·.1)=false:=by rfl):PE X (.Call (.Name x p) (e::es) [] pos) (tCB r t):=by
 intro iX s σ H Q I h;refine zDT (sO I hg hm hv ?_ hn hdb);exact PyProof.Rows.callWith_builtin1 (thn (ha pos iX s σ H _ I h) λ us s1 ⟨vs,H1,I1,r1,q1⟩=>hc iX s1 σ H1 vs us Q I1 r1 q1) he hpl
def gZ(hc:cX X (.type T) r)(hg:Gl X x)(hm:X.mg x=none)(hv:zAq x=some (.type T))(ha:PA X (e::es) t)(hn:x≠"__name__":=by decide)(hdb:Nd x:=by decide)
  (he:zA1 (e::es) X.env=(false,eval e X.env)::zA1 es X.env:=by rfl)(hpl:(zCo pos (zA1 es X.env)).any (·.1)=false:=by rfl):PE X (.Call (.Name x p) (e::es) [] pos) (tCB r t):=by
 intro iX s σ H Q I h;refine zDT (sO I hg hm hv ?_ hn hdb);exact zC5 (thn (ha pos iX s σ H _ I h) λ us s1 ⟨vs,H1,I1,r1,q1⟩=>hc iX s1 σ H1 vs us Q I1 r1 q1) he hpl
def aEI(hc:cX X (.type T) r)(hg:Gl X x)(hm:X.mg x=none)(hv:zAq x=some (.type T))(hn:x≠"__name__":=by decide)(hdb:Nd x:=by decide):
  PE X (.Call (.Name x p) [] [] pos) (tCB r oZ):=by
 intro iX s σ H Q I h;refine zDT (sO I hg hm hv ?_ hn hdb);exact PyProof.Rows.callWith_type0 (hc iX s σ H [] [] Q I .nil h)
end
end L2
namespace HT
open PySem PyProof.Rows
def lexLt:List Int->List Int->Bool
 |[],[]=>false
 |[],_::_=>true
 |_::_,[]=>false
 |x::xs,y::ys=>if x=y then lexLt xs ys else decide (x<y)
def kY(x y:Int)(xs ys:List Int):lexLt (x::xs) (y::ys)=if x=y then lexLt xs ys else decide (x<y):=rfl
def zr:lexLt [] []=false:=rfl
def yS(y:Int)(ys:List Int):lexLt [] (y::ys)=true:=rfl
def yU(x:Int)(xs:List Int):lexLt (x::xs) []=false:=rfl
def aDQ(A:zAk)(s:zAG)(a:Int)(t:Tok)(c:Int)(u:Tok):∃e,zCy A s (.int a t) (.int c u) e/\(e=true↔a=c):=
 ⟨(a==c),zE5 a t c u,by simp⟩
def aHv(A:zAk)(s:zAG)(a:Int)(t:Tok)(c:Int)(u:Tok)(prog:zA7)(w:World)(E:Value->zAG->Prop)(Q:Value->zAG->Prop)(h:Q (.bool (decide (a<c))) s):
  wpAny (model prog w) A (zGa .Lt (.int a t) (.int c u)) Q E s:=
 (zFr h:wpAny (model prog w) A (zAs .Lt (.int a t) (.int c u)) Q E s)
section
open PySem.SeqAt
open PySem.AutoSeq1(wpAny_loadPart')
open PySem.MeetsSeq PySem.MeetsSeq2 PySem.MeetsSeq3
def zW(l b:Addr)(items items2:Array Value)(n n2:Nat)(dd dd2:Option Addr)(sl sl2:Array (Option Value))(ns ms:List Int)(hi:zBL items.toList ns)(hj:zBL items2.toList ms):
  Meets (zDP.«tuple.__lt__» ⟨[.ref l,.ref b],[]⟩)
   (λ _ R s=>s.heap.get? l=some {cls:=.type "tuple",dict:=dd,data:=.seq items n,slots:=sl}/\s.heap.get? b=some {cls:=.type "tuple",dict:=dd2,data:=.seq items2 n2,slots:=sl2}/\
    R (.ok (.ret (.bool (lexLt ns ms)))) s):=
 .of_wp λ prog w A R s h=>by
  obtain⟨hp,g,d,tk,os⟩:=s;obtain⟨hl,hb,h⟩:=h;have f2:=zFd;have z1:items.size=ns.length:=by rw[<-hi.length];simp
  have z2:items2.size=ms.length:=by rw[<-hj.length];simp
  wp_walk using zCt hl,zCt hb,wpAny_forIn_list _ (λ rest b s'=>b.1=none/\s'=⟨hp,g,d,tk,os⟩/\∃(vs ws:List Value) (ns' ms':List Int),rest=vs.zip ws/\
   zBL vs ns'/\zBL ws ms'/\ns'.length+items2.size=ms'.length+items.size/\R (.ok (.ret (.bool (lexLt ns' ms')))) ⟨hp,g,d,tk,os⟩) _
  case turn=>
   rintro⟨y,x⟩ rest b s' ⟨hb',rfl,vs,ws,ns',ms',hz,hvi,hwi,kQ,hR⟩;cases hvi with
   |nil=>rw[zHb]at hz;cases hz
   |cons a t hvi'=>
    cases hwi with
    |nil=>rw[zHP]at hz;cases hz
    |cons c u hwi'=>
     rw[zCK]at hz;injection hz with hyx hrest
     injection hyx with hy hx
     subst hy hx;rw[kY]at hR;simp only[zA6]at kQ;obtain⟨e,he,hiff⟩:=aDQ A.in1 ⟨hp,g,d,tk,os⟩ a t c u;refine zAB (he prog w _ _ ?_);cases e with
     |true=>
      rw[if_pos (hiff.mp rfl)]at hR;wp_walk;exact⟨rfl,rfl,_,_,_,_,hrest,hvi',hwi',by lia,hR⟩
     |false=>
      rw[if_neg (λ q=>absurd (hiff.mpr q) zAX)]at hR;have hri:=aHv A.in1 ⟨hp,g,d,tk,os⟩ a t c u prog w;wp_walk using hri;exact⟨_,rfl,by simpa using hR⟩
  case fin=>
   rintro⟨b1,b2⟩ s' ⟨hb',rfl,vs,ws,ns',ms',hz,hvi,hwi,kQ,hR⟩;simp only at hb';subst hb';have hv:lexLt ns' ms'=decide (items.size<items2.size):=by
    cases hvi with
    |nil=>
     cases hwi with
     |nil=>
      simp only[zCV]at kQ;rw[zr];exact(decide_eq_false (by lia)).symm
     |cons c u hw=>
      simp only[zCV,zA6]at kQ;rw[yS];exact(decide_eq_true (by lia)).symm
    |cons a t hv=>
     cases hwi with
     |nil=>
      simp only[zCV,zA6]at kQ;rw[yU];exact(decide_eq_false (by lia)).symm
     |cons c u hw=>
      rw[zCK]at hz;cases hz
   rw[hv]at hR;wp_walk;exact⟨_,rfl,by simpa[zEX]using hR⟩
  case h=>
   exact⟨rfl,rfl,items.toList,items2.toList,ns,ms,rfl,hi,hj,by lia,h⟩
end
section
variable{prog:zA7}{w:World}{A:zAk}{E:Value->zAG->Prop}{s:zAG}
def aEW(hl:IsTup s.heap l items)(hb:IsTup s.heap b items2)(hi:zBL items.toList ns)(hj:zBL items2.toList ms)
  (hu:A.units<cLine)(h:Q (.bool (lexLt ns ms)) s):wpAny (model prog w) A (zAs .Lt (.ref l) (.ref b)) Q E s:=by
 obtain⟨⟨cls,dd,data,sl⟩,ho,hc,n,hd⟩:=id hl;obtain⟨⟨cls2,dd2,data2,sl2⟩,ho2,hc2,n2,hd2⟩:=id hb;simp only at hc hd hc2 hd2;subst hc hd hc2 hd2;exact zHi (op:=.Lt) ⟨_,ho,rfl⟩ ⟨_,ho2,rfl⟩ PySem.F.slot_tuple_lt PySem.F.entry_tuple_lt (PySem.F.args_tuple_lt_2 _ _) (zW l b items items2 n n2 dd dd2 sl sl2 ns ms hi hj)
  ⟨ho,ho2,show zE7 (lexLt ns ms)≠zGq/\Q (.bool (lexLt ns ms)) s from⟨(λ x=>nomatch x),h⟩⟩ hu
def aLg(ht:IsTup s.heap t vs.toArray)(hb:IsTup s.heap b ws.toArray)(hv:vs≠[])
  (h1:ws=[]->Q (.ref t) s)(h2:ws≠[]->Q (.ref s.heap.objs.size) {s with heap:=s.heap.push {cls:=.type "tuple",data:=.seq (vs++ws).toArray}})
  (hsz:vs.length+ws.length<=zAY):wpAny (model prog w) A (zC6 .Add (.ref t) (.ref b)) Q E s:=by
 obtain⟨⟨cls,dd,data,sl⟩,ho,hc,n,hd⟩:=id ht;obtain⟨⟨cls2,dd2,data2,sl2⟩,ho2,hc2,n2,hd2⟩:=id hb;simp only at hc hd hc2 hd2;subst hc hd hc2 hd2;have e:vs.toArray++ws.toArray=(vs++ws).toArray:=by simp
 by_cases hw:ws=[]
 .exact zIG ⟨_,ho,rfl⟩ ⟨_,ho2,rfl⟩ zGU zHX zEM zDz (zDr _ _)
   (tuple_addW1 t b vs.toArray ws.toArray n n2 dd dd2 sl sl2 (by simpa using hv) (by simp[hw])) ⟨ho,ho2,h1 hw⟩
 .refine zIG ⟨_,ho,rfl⟩ ⟨_,ho2,rfl⟩ zGU zHX zEM zDz (zDr _ _)
   (tuple_addW2 t b vs.toArray ws.toArray n n2 dd dd2 sl sl2 (by simpa using hv) (by simpa using hw) (by rw[zAP,zAP];exact hsz)) ⟨ho,ho2,?_⟩
  rw[e];exact h2 hw
def sIx(n d:Nat):Option Int->Nat
 |none=>d
 |some v=>if v<0 then(v+(n:Int)).toNat else min v.toNat n
def aMi(n d:Nat)(hd:d<=n)(o:Option Int):sIx n d o<=n:=by
 cases o with
 |none=>exact hd
 |some v=>
  show(if v<0 then(v+(n:Int)).toNat else min v.toNat n)<=n
  by_cases hv:v<0
  .rw[if_pos hv];lia
  .rw[if_neg hv];exact Nat.min_le_right _ _
def aGI(v:Int)(n d:Nat):(if v<0 then max (v+(n:Int)) 0 else min v (n:Int))=((sIx n d (some v):Nat):Int):=by
 show(if v<0 then max (v+(n:Int)) 0 else min v (n:Int))=(((if v<0 then(v+(n:Int)).toNat else min v.toNat n):Nat):Int)
 by_cases hv:v<0
 .simp only[if_pos hv];lia
 .simp only[if_neg hv];lia
def aEr(lo hi:Option Int)(n:Nat):zDZ lo hi 1 (n:Int)=(((sIx n 0 lo:Nat):Int),((sIx n n hi:Nat):Int)):=by
 have h1:¬((1:Int)<0):=by lia
 unfold zDZ;simp only[h1,if_false];refine zFh ?_ ?_
 .cases lo with
  |none=>rfl
  |some v=>exact aGI v n 0
 .cases hi with
  |none=>rfl
  |some v=>exact aGI v n n
def aEG(i j:Nat):zCa (i:Int) (j:Int) 1=j-i:=by
 unfold zCa;have h1:(1:Int)>0:=by lia
 simp only[h1,if_true,Int.ediv_one];split<;>lia
def xW(p:zGI v o)(h:Q o s):wpAny (model prog w) A (zIg v) Q E s:=by
 cases p with
 |none=>exact slicePart_none h
 |int i t=>exact slicePart_int h
def mY{sl:Addr}{vl vu:Value}{lo hi:Option Int}{n:Nat}{Q:Int×Int×Nat->zAG->Prop}(hs:s.heap.IsSliceOf sl vl vu .none)(pl:zGI vl lo)(pu:zGI vu hi)
  (h:Q (((sIx n 0 lo:Nat):Int),1,sIx n n hi-sIx n 0 lo) s):wpAny (model prog w) A (zEm (.ref sl) (pure (n:Int))) Q E s:=by
 obtain⟨os,hos,hcs,hds⟩:=id hs;unfold zEm zIf;refine zAB (zAB (zBt hos hds (x:=vl) rfl (zAB (zBt hos hds (x:=vu) rfl (zAB (zBt hos hds (x:=.none) rfl (zAK ?_)))))));refine zAB (slicePart_none ?_);show wpAny _ _ (if ((1:Int)==0)=true then _ else _) _ _ s;rw[if_neg (by decide)];refine zAB (xW pl (zAB (xW pu (zAB (zAK ?_)))));show wpAny _ _ (match zDZ lo hi 1 (n:Int)with|(lo,hi)=>pure (lo,(1:Int),zCa lo hi 1)) _ _ s;rw[aEr lo hi n];show wpAny _ _ (pure (((sIx n 0 lo:Nat):Int),(1:Int),zCa ((sIx n 0 lo:Nat):Int) ((sIx n n hi:Nat):Int) 1)) _ _ s;rw[aEG];exact zAK h
def aIP(xs:Array Value)(i k:Nat):((zAu k).filterMap λ(m:Nat)=>xs[((i:Int)+(m:Int)*1).toNat]?).toArray=((xs.toList.drop i).take k).toArray:=by
 have e:(λ(m:Nat)=>xs[((i:Int)+(m:Int)*1).toNat]?)=λ m=>xs[i+m]?:=by
  funext m
  have:((i:Int)+(m:Int)*1).toNat=i+m:=by lia
  rw[this]
 rw[e]
 have:=pick_run xs i k
 rw[List.filterMap_map]at this;have e2:((λ x=>xs[x]?)∘λ x=>i+x)=λ m=>xs[i+m]?:=rfl
 rw[e2]at this;rw[this]
def uI{t sl:Addr}{items:Array Value}{vl vu:Value}{lo hi:Option Int}{Q:Value->zAG->Prop}(ht:IsTup s.heap t items)(hs:s.heap.IsSliceOf sl vl vu .none)(pl:zGI vl lo)(pu:zGI vu hi)
  (hw:¬(sIx items.size 0 lo=0/\sIx items.size items.size hi=items.size))
  (h:Q (.ref s.heap.objs.size) {s with heap:=s.heap.push {cls:=.type "tuple",data:=.seq ((items.toList.drop (sIx items.size 0 lo)).take (sIx items.size items.size hi-sIx items.size 0 lo)).toArray}})
  (hsz:items.size<=zAY):wpAny (model prog w) A (zG8 (.ref t) (.ref sl)) Q E s:=by
 have b9:sizeOk (.seq ((items.toList.drop (sIx items.size 0 lo)).take (sIx items.size items.size hi-sIx items.size 0 lo)).toArray):=by
  show((items.toList.drop (sIx items.size 0 lo)).take (sIx items.size items.size hi-sIx items.size 0 lo)).toArray.size<=zAY
  rw[zAP,zBQ,zF5,zA9];lia
 have hj:sIx items.size items.size hi<=items.size:=aMi _ _ (zAT _) hi;obtain⟨os,hos,hcs,hds⟩:=id hs;have hTs:s.TypeIs (.ref sl) "slice":=⟨os,hos,hcs⟩;unfold zG8
 try with_reducible refine zB2 ?_
 first|refine zAB (zAK ?_)|skip
 refine zAB (zJA ht.typeIs (by decide) ?_);refine zAB (zBW (name:=zDF "__getitem__") ht.typeIs zB7
  (zBV zB7 ht.typeIs zI0 ?_ (zIc _ _)))
 show wpAny _ _ (zEn (.ref t)>>=_) _ _ s;refine zAB (tupleItemsOf_ ht ?_);refine zAB (zFC hTs ?_);rw[if_pos (by decide)];refine zAB (mY hs pl pu ?_);have hno:¬((((sIx items.size 0 lo:Nat):Int)==0&&(1:Int)==1&&(sIx items.size items.size hi-sIx items.size 0 lo)==items.size)=true):=by
  intro q;rw[zAN,zAN]at q;have q1:((sIx items.size 0 lo:Nat):Int)=0:=zEB q.1.1;have q2:sIx items.size items.size hi-sIx items.size 0 lo=items.size:=zEB q.2;exact hw ⟨by lia,by lia⟩
 show wpAny _ _ (if (((sIx items.size 0 lo:Nat):Int)==0&&(1:Int)==1&&(sIx items.size items.size hi-sIx items.size 0 lo)==items.size)=true then _ else _) _ _ s;rw[if_neg hno,aIP]
 first
  |exact zAB (m:=zBf _) (zBF (zAK ⟨_,rfl,zAK h⟩) b9)
  |exact zAB (m:=zBf _) (zBF (zAB (zAK (zAK ⟨_,rfl,zAK h⟩))) b9)
  |exact zAB (zAB (m:=zBf _) (zBF (zAK (zAK ⟨_,rfl,zAK h⟩)) b9))
  |exact zAB (zAB (m:=zBf _) (zBF (zAK ⟨_,rfl,zAK h⟩) b9))
end
end HT
namespace L2
open PySem PySem.Spec PyProof.Rows
abbrev TO:=St->Hp->(Option Int->Hp->Prop)->Prop
def PO(X:Cx)(e:Option Expr)(t:TO):Prop:=
 ∀(iX:hZ) (s:zAG) (σ:St) (H:Hp) (Q:Option Int->Hp->Prop),Inv X iX σ H s->t σ H Q->
  wpAny (model X.prog X.w) X.A (evalPart e X.env) (λ u s'=>∃o H',Inv X iX σ H' s'/\zGI u o/\Q o H') X.xe s
def aKB:TO:=λ _ H Q=>Q none H
def aOP(t:TE):TO:=λ σ H Q=>t σ H λ x H1=>∃i,x= .int i/\Q (some i) H1
def intsAre_of:∀{us:List Value},Vals (ns.map V.int) us->zBL us ns:=by
 induction ns with
 |nil=>intro us r;rw[zCf]at r;cases r;exact .nil
 |cons n ns ih=>
  intro us r;rw[zAM]at r;cases r with
  |cons r1 r2=>
   obtain⟨t,e⟩:=r1;subst e;exact .cons n t (ih r2)
section
variable{X:Cx}{e:Expr}{te:TE}{lo hi:Option Expr}{tl th:TO}{pos p2:Pos}
def aK4:PO X none aKB:=by
 intro iX s σ H Q I h;rw[zHV];exact zAK ⟨none,H,I,.none,h⟩
def aK3(h:PE X e te):PO X (some e) (aOP te):=by
 intro iX s σ H Q I hw;rw[evalPart_some];refine thn (h iX s σ H _ I hw) λ u s1 ⟨x,H1,I1,r1,q1⟩=>?_
 obtain⟨i,rfl,q⟩:=q1;obtain⟨t,rfl⟩:=r1;exact⟨some i,H1,I1,.int i t,q⟩
def SlR(X:Cx)(r:V->Option Int->Option Int->Hp->VK->Prop):Prop:=
 ∀(iX:hZ) (s:zAG) (σ:St) (H:Hp) (x:V) (v vl vu:Value) (lo hi:Option Int) (sl:Addr) (Q:VK),Inv X iX σ H s->RelV x v->s.heap.IsSliceOf sl vl vu .none->zGI vl lo->zGI vu hi->r x lo hi H Q->
  ∃T id,zFO (.type T) "__getitem__"=pure (some (.builtin id))/\s.TypeIs v T/\wpAny (model X.prog X.w) X.A (zG8 v (.ref sl)) (EP X iX σ Q) X.xe s
def SlR.or(h:SlR X r)(h':SlR X r'):SlR X (λ x lo hi H Q=>r x lo hi H Q\/r' x lo hi H Q):=by
 intro iX s σ H x v vl vu lo hi sl Q I rx hs pl pu q;rcases q with q|q
 .exact h iX s σ H x v vl vu lo hi sl Q I rx hs pl pu q
 .exact h' iX s σ H x v vl vu lo hi sl Q I rx hs pl pu q
def tSl(r:V->Option Int->Option Int->Hp->VK->Prop)(te:TE)(tl th:TO):TE:=λ σ H Q=>te σ H λ x H1=>tl σ H1 λ l H2=>th σ H2 λ u H3=>r x l u H3 Q
def aIR(hr:SlR X r)(he:PE X e te)(hl:PO X lo tl)(hu:PO X hi th):PE X (.Subscript e (.Slice lo hi none p2) pos) (tSl r te tl th):=by
 intro iX s σ H Q I h;refine zIr (thn (he iX s σ H _ I h) λ v s1 ⟨x,H1,I1,r1,q1⟩=>?_);refine wpAny_Slice (thn (hl iX s1 σ H1 _ I1 q1) λ vl s2 ⟨l,H2,I2,pl,q2⟩=>thn (hu iX s2 σ H2 _ I2 q2) λ vu s3 ⟨u,H3,I3,pu,q3⟩=>?_);rw[zHV];refine zAK ?_;have I4:Inv X iX σ H3 {s3 with heap:=s3.heap.push {cls:=.type "slice",data:=.fields #[vl,vu,.none]}}:=I3.kept (t':=s3.toks) λ b ob q=>zAC _ q
 obtain⟨T,id,hT,ht,hg⟩:=hr iX {s3 with heap:=s3.heap.push {cls:=.type "slice",data:=.fields #[vl,vu,.none]}} σ H3 x v vl vu l u s3.heap.objs.size Q I4 r1 (zFf ..) pl pu q3;show wpAny (model X.prog X.w) X.A (zHY e (.Slice lo hi none p2) v (.ref s3.heap.objs.size)) (EP X iX σ Q) X.xe {s3 with heap:=s3.heap.push {cls:=.type "slice",data:=.fields #[vl,vu,.none]}};exact tail_any (ops:=[.ref s3.heap.objs.size,v]) ht hT hg (by with_unfolding_all rfl)
def zQ(xs:List V)(lo hi:Option Int):List V:=(xs.drop (HT.sIx xs.length 0 lo)).take (HT.sIx xs.length xs.length hi-HT.sIx xs.length 0 lo)
def wI(xs:List V)(lo hi:Option Int):(zQ xs lo hi).length<=xs.length:=by
 unfold zQ;rw[zBQ,zF5];lia
def aKW(K:zAA):R2:=λ x y H Q=>∃a b ns ms,x= .ref a/\y= .ref b/\SqT K H a (ns.map V.int)/\SqT K H b (ms.map V.int)/\Q (.bl (HT.lexLt ns ms)) H
def aNX(hu:X.A.units<cLine):OpR X (zAs .Lt) (aKW X.K):=by
 intro iX s σ H x y v u Q I rx ry h;obtain⟨a,b,ns,ms,rfl,rfl,ha,hb,q⟩:=h;cases rx;cases ry;obtain⟨its,r1,p1,_⟩:=I.tuple ha;obtain⟨its2,r2,p2,_⟩:=I.tuple hb;have i1:zBL its.toArray.toList ns:=intsAre_of r1;have i2:zBL its2.toArray.toList ms:=intsAre_of r2;exact HT.aEW p1 p2 i1 i2 hu ⟨.bl (HT.lexLt ns ms),H,I,rfl,q⟩
def aO7(K:zAA):R2:=λ x y H Q=>∃a b xs ys,x= .ref a/\y= .ref b/\SqT K H a xs/\SqT K H b ys/\xs≠[]/\xs.length+ys.length<=zAY/\
 (ys=[]->Q (.ref a) H)/\(ys≠[]->∀p,H p=none->Q (.ref p) (upd H p (.tup (xs++ys))))
def Vals.nil_iff(r:Vals xs us):us=[]↔xs=[]:=by
 cases r with
 |nil=>simp
 |cons _ _=>simp
def aKp:OpR X (zC6 .Add) (aO7 X.K):=by
 intro iX s σ H x y v u Q I rx ry h;obtain⟨a,b,xs,ys,rfl,rfl,ha,hb,hx,hz,q1,q2⟩:=h;cases rx;cases ry;obtain⟨its,r1,p1,_⟩:=I.tuple ha;obtain⟨its2,r2,p2,_⟩:=I.tuple hb;refine HT.aLg p1 p2 (λ z=>hx (r1.nil_iff.mp z)) (λ z=>⟨.ref a,H,I,rfl,q1 (r2.nil_iff.mp z)⟩) (λ z=>?_) (by rw[<-r1.length,<-r2.length];exact hz);refine⟨.ref s.heap.objs.size,_,I.laid (t':=s.toks) (o:=.tup (xs++ys)) (λ b ob q=>zAC _ q) (zAT _) ?_,rfl,q2 (λ w=>z (r2.nil_iff.mpr w)) _ (I.hok.fresh (zAT _))⟩;exact⟨⟨by rw[zA0];exact hz,NoD.push _⟩,_,r1.append r2,zHq _ _⟩
end
def ixN(n:Nat)(i:Int):Option Nat:=if 0<=i then(if i<n then some i.toNat else none)else if -(n:Int)<=i then some (i+n).toNat else none
def atI{α:Type}(xs:List α)(i:Int):Option α:=(ixN xs.length i).bind λ j=>xs[j]?
def aFq(h:ixN n i=some j):seqIndex? i n=some j/\j<n/\-(n:Int)<=i/\i<n:=by
 unfold ixN at h;by_cases h0:0<=i
 .rw[if_pos h0]at h
  by_cases h1:i<n
  .rw[if_pos h1]at h
   have e:i.toNat=j:=zAl h;exact⟨by rw[zI2 h0 h1,e],by lia,by lia,h1⟩
  .rw[if_neg h1]at h;cases h
 .rw[if_neg h0]at h
  by_cases h1: -(n:Int)<=i
  .rw[if_pos h1]at h
   have e:(i+n).toNat=j:=zAl h;exact⟨by rw[zIL (by lia) h1,e],by lia,h1,by lia⟩
  .rw[if_neg h1]at h;cases h
def aBl(h:atI xs i=some v):∃j,seqIndex? i xs.length=some j/\xs[j]? =some v/\j<xs.length/\-(xs.length:Int)<=i/\i<xs.length:=by
 unfold atI at h;cases e:ixN xs.length i with
 |none=>rw[e]at h;cases h
 |some j=>
  rw[e]at h;obtain⟨h1,h2,h3,h4⟩:=aFq e;exact⟨j,h1,h,h2,h3,h4⟩
def aBq(b:Expr):Prop:=∀o i,subscripted b false o i=operate [o,i] (zG8 o i)
def IxR(X:Cx)(r:R2):Prop:=
 ∀(value slice:Expr) (iX:hZ) (s:zAG) (σ:St) (H:Hp) (x y:V) (v u:Value) (Q:VK),Inv X iX σ H s->RelV x v->RelV y u->r x y H Q->
  subscripted slice false v u=operate [v,u] (zG8 v u)->wpAny (model X.prog X.w) X.A (zHY value slice v u) (EP X iX σ Q) X.xe s
def MtR(X:Cx)(id:String)(r:V->List V->Hp->VK->Prop):Prop:=
 ∀(iX:hZ) (s:zAG) (σ:St) (H:Hp) (x:V) (xs:List V) (v:Value) (us:List Value) (Q:VK),Inv X iX σ H s->RelV x v->Vals xs us->r x xs H Q->
  wpAny (model X.prog X.w) X.A (call (.builtin id) (v::us)) (EP X iX σ Q) X.xe s
section
variable{X:Cx}{a b:Expr}{ta tb:TE}{pos:Pos}
def IxR.or(h:IxR X r)(h':IxR X r'):IxR X (λ x y H Q=>r x y H Q\/r' x y H Q):=by
 intro value slice iX s σ H x y v u Q I rx ry q hs;rcases q with q|q
 .exact h value slice iX s σ H x y v u Q I rx ry q hs
 .exact h' value slice iX s σ H x y v u Q I rx ry q hs
def aMQ{r:R2}(hr:IxR X r)(ha:PE X a ta)(hb:PE X b tb)(hs:aBq b):PE X (.Subscript a b pos) (tOp r ta tb):=by
 intro iX s σ H Q I h;exact zIr (aOG ha hb I h λ v u s2 x y H2 I2 rx ry q=>hr a b iX s2 σ H2 x y v u Q I2 rx ry q (hs _ _))
def aMo(K:zAA):R2:=λ x y H Q=>∃p xs i v,x= .ref p/\y= .int i/\SqL K H p xs/\atI xs i=some v/\Q v H
def aO4(K:zAA):R2:=λ x y H Q=>∃p xs i v,x= .ref p/\y= .int i/\SqT K H p xs/\atI xs i=some v/\Q v H
def aO5:R2:=λ x y H Q=>∃z i c,x= .str z/\y= .int i/\z.length<=zAY/\atI z.cps.toList i=some c/\Q (.str ⟨#[c]⟩) H
def aFo:IxR X (aMo X.K):=by
 intro value slice iX s σ H x y v u Q I rx ry h hs;obtain⟨p,xs,i,z,rfl,rfl,hq,he,q⟩:=h;cases rx;obtain⟨t,rfl⟩:=ry;obtain⟨its,r,pl,hz⟩:=I.list hq;obtain⟨j,h1,h2,h3,h4,h5⟩:=aBl he;obtain⟨w,ew,rw'⟩:=r.get h2;have hl:=r.length;have hn:=vM;have fin:EP X iX σ Q w s:=⟨z,H,I,rw',q⟩;by_cases h0:0<=i
 .have hj:i.toNat=j:=by
   rw[zI2 h0 h5]at h1;exact zAl h1
  exact item_listR pl.isList h0 (by lia) (by rw[hj];simpa using ew) fin hs
 .have hj:(i+(its.toArray.size:Int)).toNat=j:=by
   rw[zIL (by lia) h4]at h1;rw[zAP,<-hl];exact zAl h1
  exact zHj (x:=w) pl.isList.typeIs zGD.lookup
   (wpAny_getItem_list_neg (Q:=λ r s'=>r=w/\EP X iX σ Q r s') pl.isList (by lia) (by rw[zAP]<;>lia) (by lia) (by rw[hj];simpa using ew) ⟨rfl,fin⟩) hs
def aNl:IxR X (aO4 X.K):=by
 intro value slice iX s σ H x y v u Q I rx ry h hs;obtain⟨p,xs,i,z,rfl,rfl,hq,he,q⟩:=h;cases rx;obtain⟨t,rfl⟩:=ry;obtain⟨its,r,pl,hz⟩:=I.tuple hq;obtain⟨j,h1,h2,h3,h4,h5⟩:=aBl he;obtain⟨w,ew,rw'⟩:=r.get h2;have hl:=r.length;have hn:=vM;have fin:EP X iX σ Q w s:=⟨z,H,I,rw',q⟩;exact zHj (x:=w) pl.typeIs slot_tuple_getitem.lookup
  (getItem_tuple (j:=j) (Q:=λ r s'=>r=w/\EP X iX σ Q r s') pl (by lia) (by lia) (by rw[zAP,<-hl];exact h1) (by simpa using ew) ⟨rfl,fin⟩) hs
def aNm:IxR X aO5:=by
 intro value slice iX s σ H x y v u Q I rx ry h hs;obtain⟨z,i,c,rfl,rfl,hz,he,q⟩:=h;obtain⟨t,rfl⟩:=rx;obtain⟨t',rfl⟩:=ry;obtain⟨j,h1,h2,h3,h4,h5⟩:=aBl he;have hl:z.cps.toList.length=z.length:=by simp[Str.length]
 rw[hl]at h1 h4 h5;have hn:=vM;exact tail_any (typeIs_str s z t) slot_str_getitem.lookup (getItem_str (c:=c) (by
  have e1:decide (i < -(2^63:Int))=false:=decide_eq_false (by lia);have e2:decide (i ≥ 2^63)=false:=decide_eq_false (by lia);rw[e1,e2,Bool.or_false]) (by rw[h1];simpa using h2) ⟨.str ⟨#[c]⟩,H,I.tok _,⟨_,rfl⟩,q⟩) hs
def rIx(K:zAA):R2:=λ x y H Q=>aMo K x y H Q\/aO4 K x y H Q\/aO5 x y H Q
def aNn:IxR X (rIx X.K):=aFo.or (aNl.or aNm)
def aEU(its:List Value)(n j:Nat)(u:Value):zCL (·.setIfInBounds j u) {cls:=.type "list",data:=.seq its.toArray n}={cls:=.type "list",data:=.seq (its.set j u).toArray n}:=by
 simp[zCL]
theorem Inv.lst(I:Inv X iX σ H s)(h:H p=some (.lst xs)):
  ∃(its:List Value) (n:Nat),Vals xs its/\s.heap.get? p=some {cls:=.type "list",data:=.seq its.toArray n}/\xs.length<=zAY:=by
 obtain⟨z,its,n,r,e⟩:=I.hok p _ h;exact⟨its,n,r,e,z⟩
def Inv.lstUpd{iX:hZ}{σ:St}{H:Hp}{s:zAG}{p:Addr}{xs ys:List V}{its its':List Value}{n n':Nat}{f:Obj->Obj}(I:Inv X iX σ H s)(h:H p=some (.lst xs))
  (ho:s.heap.get? p=some {cls:=.type "list",data:=.seq its.toArray n})(hf:f {cls:=.type "list",data:=.seq its.toArray n}={cls:=.type "list",data:=.seq its'.toArray n'})(r:Vals ys its')(hz:ys.length<=zAY)(t:Nat):
  Inv X iX σ (upd H p (.lst ys)) {s with heap:=s.heap.update p f,toks:=t}:=by
 have e:(s.heap.update p f).get? p=some {cls:=.type "list",data:=.seq its'.toArray n'}:=by
  rw[zDW f ho (by rw[hf]<;>rfl),hf]
 refine I.write (x:=p) (e:=p) (by rw[h];trivial) (.inl rfl) (λ b u hb q=>(zG2 _ _ (zEG hb)).trans q) ⟨_,e⟩ ?_;exact⟨hz,its',n',r,e⟩
def aMF:V->V->V->Hp->(Hp->Prop)->Prop:=λ o i v H Q=>∃p xs k j,o= .ref p/\i= .int k/\H p=some (.lst xs)/\ixN xs.length k=some j/\Q (upd H p (.lst (xs.set j v)))
def set_list:aPH X aMF:=by
 intro iX s σ H o i v ov iv u Q I ro ri rv h;obtain⟨p,xs,k,j,rfl,rfl,hp,hj,q⟩:=h;cases ro;obtain⟨t,rfl⟩:=ri;obtain⟨its,n,r,ho,hz⟩:=I.lst hp;obtain⟨h1,h2,h3,h4⟩:=aFq hj;have hl:=r.length;have hn:=vM;have I':Inv X iX σ (upd H p (.lst (xs.set j v))) {s with heap:=s.heap.update p (zCL (·.setIfInBounds j u))}:=
  I.lstUpd hp ho (aEU its n j u) (r.set rv j) (by rw[zBD];exact hz) s.toks
 by_cases h0:0<=k
 .have hk:k.toNat=j:=by
   rw[zI2 h0 h4]at h1;exact zAl h1
  exact PySem.W.ki_setAt ho h0 (by lia) (by rw[zAP,<-hl];exact h4) (by rw[hk];exact⟨_,I',q⟩)
 .have hk:(k+(its.toArray.size:Int)).toNat=j:=by
   rw[zIL (by lia) h3]at h1;rw[zAP,<-hl];exact zAl h1
  exact PySem.W.ki_setBack ho (by lia) (by rw[zAP,<-hl];exact h3) (by lia) (by rw[hk];exact⟨_,I',q⟩)
def aAl(lo hi:Option Int)(n:Nat):(zED lo hi none n).1=((HT.sIx n 0 lo:Nat):Int)/\(zED lo hi none n).2.1=((HT.sIx n n hi:Nat):Int)/\(zED lo hi none n).2.2=1:=by
 refine⟨?_,?_,rfl⟩
 .cases lo with
  |none=>simp[zED,HT.sIx]
  |some i=>
   simp only[zED,HT.sIx,zHR,show(1:Int)>0 by decide,if_true];by_cases h:i<0
   .simp only[h,if_true]<;>lia
   .simp only[h,if_false]<;>lia
 .cases hi with
  |none=>simp[zED,HT.sIx]
  |some i=>
   simp only[zED,HT.sIx,zHR,show(1:Int)>0 by decide,if_true];by_cases h:i<0
   .simp only[h,if_true]<;>lia
   .simp only[h,if_false]<;>lia
def zZ(its:List Value)(lo hi:Option Int):slicePick its.toArray lo hi none=((its.drop (HT.sIx its.length 0 lo)).take (HT.sIx its.length its.length hi-HT.sIx its.length 0 lo)).toArray:=by
 obtain⟨h1,h2,h3⟩:=aAl lo hi its.toArray.size;unfold slicePick;rw[h1,h2,h3];simp only[sliceRange_one,pick_run,zAP]<;>rfl
def aO2(K:zAA):V->Option Int->Option Int->Hp->VK->Prop:=λ x lo hi H Q=>∃a xs,x= .ref a/\SqL K H a xs/\∀p,H p=none->Q (.ref p) (upd H p (.lst (zQ xs lo hi)))
def aKG:SlR X (aO2 X.K):=by
 intro iX s σ H x v vl vu lo hi sl Q I rx hs pl pu h;obtain⟨a,xs,rfl,hx,q⟩:=h;cases rx;obtain⟨its,r,ht,hz⟩:=I.list hx;have kQ:=r.length;refine⟨"list",_,zGD.lookup,ht.isList.typeIs,?_⟩;refine zHJ ht.isList hs pl pu .none (by simp) ?_ (by rw[zAP]<;>lia);rw[zZ,<-kQ];refine⟨.ref s.heap.objs.size,_,I.laid (t':=s.toks) (o:=.lst (zQ xs lo hi)) (λ b ob q=>zAC _ q) (zAT _) ?_,rfl,q _ (I.hok.fresh (zAT _))⟩;exact⟨zAn (wI xs lo hi) hz,_,0,(r.drop (HT.sIx xs.length 0 lo)).take (HT.sIx xs.length xs.length hi-HT.sIx xs.length 0 lo),zAO _ rfl⟩
def uY:cX X (.builtin "len") (λ xs H Q=>∃p ys,xs=[.ref p]/\(SqL X.K H p ys\/SqT X.K H p ys)/\Q (.int ys.length) H):=by
 intro iX s σ H xs us Q I r h;obtain⟨p,ys,rfl,hq,q⟩:=h;obtain⟨u,rfl,rx⟩:=vals1 r;cases rx;have hn:=vM;rcases hq with hq|hq
 .obtain⟨its,r',pl,hz⟩:=I.list hq
  have kQ:=r'.length;exact Calls.call_len_list pl.isList (by simp only[zAP]<;>lia) ⟨.int ys.length,H,I.tok _,⟨s.toks+1,by rw[zAP,kQ]⟩,q⟩
 .obtain⟨its,r',pl,hz⟩:=I.tuple hq
  have kQ:=r'.length;exact len_tuple pl (by simp only[zAP]<;>lia) ⟨.int ys.length,H,I.tok _,⟨s.toks+1,by rw[zAP,kQ]⟩,q⟩
def cX.or(h:cX X f r)(h':cX X f r'):cX X f (λ xs H Q=>r xs H Q\/r' xs H Q):=by
 intro iX s σ H xs us Q I rs q;rcases q with q|q
 .exact h iX s σ H xs us Q I rs q
 .exact h' iX s σ H xs us Q I rs q
def aBf:cX X (.type "list") (λ xs H Q=>∃p ys,xs=[.ref p]/\(SqL X.K H p ys\/SqT X.K H p ys)/\∀l,H l=none->Q (.ref l) (upd H l (.lst ys))):=by
 intro iX s σ H xs us Q I r h;obtain⟨p,ys,rfl,hq,q⟩:=h;obtain⟨u,rfl,rx⟩:=vals1 r;cases rx;have fin:∀(its:List Value),Vals ys its->ys.length<=zAY->∀(h':Heap) (c':Nat),(∀b o',s.heap.get? b=some o'->h'.get? b=some o')->
   h'.get? s.heap.objs.size=some {cls:=.type "list",dict:=none,data:=.seq its.toArray c',slots:=#[]}->EP X iX σ Q (.ref s.heap.objs.size) {s with heap:=h'}:=λ its r' hz h' c' kp e=>
  ⟨.ref s.heap.objs.size,_,I.laid (t':=s.toks) kp (zAT _) (show dX X.prog X.w _ h' _ (.lst ys)from⟨hz,its,c',r',e⟩),rfl,q _ (I.hok.fresh (zAT _))⟩
 rcases hq with hq|hq
 .obtain⟨its,r',pl,hz⟩:=I.list hq
  have kQ:=r'.length;obtain⟨o,ho,hc,n,hd⟩:=pl.isList;exact call_list_seq p (.inl rfl) ho hc hd (λ h' c' kp e=>fin its r' hz h' c' kp e) (by simp only[zAP]<;>lia)
 .obtain⟨its,r',pl,hz⟩:=I.tuple hq
  have kQ:=r'.length;obtain⟨o,ho,hc,n,hd⟩:=pl;exact call_list_seq p (.inr rfl) ho hc hd (λ h' c' kp e=>fin its r' hz h' c' kp e) (by simp only[zAP]<;>lia)
def zz:cX X (.type "tuple") (λ xs H Q=>∃p ys,xs=[.ref p]/\((SqL X.K H p ys/\∀l,H l=none->Q (.ref l) (upd H l (.tup ys)))\/(SqT X.K H p ys/\Q (.ref p) H))):=by
 intro iX s σ H xs us Q I r h;obtain⟨p,ys,rfl,h⟩:=h;obtain⟨u,rfl,rx⟩:=vals1 r;cases rx;rcases h with ⟨hq,q⟩|⟨hq,q⟩
 .obtain⟨its,r',pl,hz⟩:=I.list hq
  have kQ:=r'.length;refine call_tuple_list pl.isList (λ h' kp=>?_) (by simp only[zAP]<;>lia);have I1:Inv X iX σ H {s with heap:=h'}:=I.kept (t':=s.toks) kp;have I2:Inv X iX σ (upd H h'.objs.size (.tup ys)) {s with heap:=h'.push {cls:=.type "tuple",data:=.seq its.toArray}}:=
   I1.laid (t':=s.toks) (λ b o e=>zAC _ e) (zAT _) (show dX X.prog X.w _ _ _ (.tup ys)from⟨⟨hz,NoD.push _⟩,its,r',zHq _ _⟩)
  exact⟨.ref h'.objs.size,_,I2,rfl,q _ (I1.hok.fresh (zAT _))⟩
 .obtain⟨its,r',pl,hz⟩:=I.tuple hq
  exact call_tuple_same pl ⟨.ref p,H,I,rfl,q⟩
def tyV(K:zAA)(T:String)(x:V)(H:Hp):Prop:=match x with
 | .str _=>T="str"
 | .int _=>T="int"
 | .ref p=>(T="list"/\∃xs,SqL K H p xs)\/(T="tuple"/\∃o,K.lookup p=some o/\o.cls= .type "tuple"/\o.dict=none)\/
   (T="dict"/\((∃kvs,H p=some (.dK kvs))\/∃kvs,H p=some (.dT kvs)))\/(T="set"/\∃S n,H p=some (.set S n))
 |_=>False
def aM3(I:Inv X iX σ H s)(r:RelV x v)(ty:tyV X.K T x H):
  s.TypeIs v T/\∀a,v= .ref a->∃ob,s.heap.get? a=some ob/\ob.dict=none:=by
 cases x with
 |str z=>
  obtain⟨t,rfl⟩:=r;cases (show T="str" from ty);exact⟨typeIs_str s z t,λ _ e=>nomatch e⟩
 |int i=>
  obtain⟨t,rfl⟩:=r;cases (show T="int" from ty);exact⟨zIw s i t,λ _ e=>nomatch e⟩
 |ref p=>
  cases r;rcases ty with ⟨rfl,xs,hq⟩|⟨rfl,o,hk,hc,hd⟩|⟨rfl,hk⟩|⟨rfl,S,n,hk⟩
  .obtain⟨its,_,pl,_⟩:=I.list hq
   refine⟨pl.isList.typeIs,λ a e=>?_⟩;cases e;obtain⟨o,n,e,c,hd,_⟩:=pl;exact⟨o,e,hd⟩
  .refine⟨⟨o,I.kIn p o hk,hc⟩,λ a e=>?_⟩
   cases e;exact⟨o,I.kIn _ o hk,hd⟩
  .have z:∃o,s.heap.get? p=some o/\o.ExactDict:=by
    rcases hk with ⟨kvs,hk⟩|⟨kvs,hk⟩
    .obtain⟨_,_,_,_,o,_,_,e,ex,_⟩:=I.hok p _ hk
     exact⟨o,e,ex⟩
    .obtain⟨_,_,_,_,o,_,_,e,ex,_⟩:=I.hok p _ hk
     exact⟨o,e,ex⟩
   obtain⟨o,e,ex⟩:=z;refine⟨⟨o,e,ex.1⟩,λ a e2=>?_⟩;cases e2;exact⟨o,e,ex.2.1⟩
  .obtain⟨o,_,_,_,e,ex,_⟩:=I.hok p _ hk
   refine⟨⟨o,e,ex.1⟩,λ a e2=>?_⟩;cases e2;exact⟨o,e,ex.2.1⟩
 |_=>exact zAR ty
def tBM(K:zAA)(T:String)(r:V->List V->Hp->VK->Prop)(to:TE)(t:TA):TE:=λ σ H Q=>to σ H λ x H1=>tyV K T x H1/\t σ H1 λ xs H2=>r x xs H2 Q
variable{o e:Expr}{es:List Expr}{to:TE}{t:TA}{name:Str}{apos cpos:Pos}{T id:String}{r:V->List V->Hp->VK->Prop}
def aCY(pa:PlainAttrs T)(slot:Slot T name id)(hty:typeOf (.builtin id)=pure (.type "method_descriptor"))(hm:MtR X id r)(ho:PE X o to)(ha:PA X (e::es) t)
  (hbase:zDs o name X.env (eval o X.env)=eval o X.env:=by rfl)
  (hfew:((zCo cpos (zA1 (e::es) X.env)).all (λ x=>!x.1)&&(zFM cpos (zD7 [] X.env)).all (λ x=>x.1.isSome)
   &&decide ((e::es).length+([]:List zCj).length+(if ([]:List zCj).isEmpty then 0 else 1)<30))=true:=by rfl)
  (hline:(apos.endLine==cpos.line)=true:=by rfl)(hs:zA1 (e::es) X.env=(false,eval e X.env)::zA1 es X.env:=by rfl)(hplain:(zCo cpos (zA1 es X.env)).any (·.1)=false:=by rfl):
  PE X (.Call (.Attribute o name apos) (e::es) [] cpos) (tBM X.K T r to t):=by
 intro iX s σ H Q I h;refine wpAny_Call_method_late hbase hfew hline rfl (thn (ho iX s σ H _ I h) λ v s1 ⟨x,H1,I1,r1,ty,q1⟩=>?_);obtain⟨h1,h2⟩:=aM3 I1 r1 ty;refine⟨T,id,pa,slot,hty,h1,h2,?_⟩;have hA:=ha cpos iX s1 σ H1 _ I1 q1;rw[hs]at hA ⊢;refine Calls.callWith_builtin (by show(false||(zCo cpos (zA1 es X.env)).any (·.1))=false;rw[hplain]<;>rfl) (zGf ?_);exact thn hA λ us s2 ⟨vs,H2,I2,r2,q2⟩=>hm iX s2 σ H2 x vs v us Q I2 r1 r2 q2
end
def MtM(X:Cx)(id:String)(r:V->List V->Hp->VK->Prop):Prop:=
 ∀(iX:hZ) (s:zAG) (σ:St) (H:Hp) (x:V) (xs:List V) (v:Value) (us:List Value) (Q:VK),Inv X iX σ H s->RelV x v->Vals xs us->r x xs H Q->
  wpAny (model X.prog X.w) X.A (call (.builtin id) (v::us)) (EP X iX σ Q) X.xe s
def Vals.one:∀{x:V} {us:List Value},Vals [x] us->∃u,us=[u]/\RelV x u
 |_,_,.cons r .nil=>⟨_,rfl,r⟩
theorem Vals.reverse(h:Vals xs us):Vals xs.reverse us.reverse:=by
 induction h with
 |nil=>exact .nil
 |cons r t ih=>rw[zCn,zCn];exact Vals.append ih (.cons r .nil)
theorem Vals.rep(h:Vals xs us):∀k:Nat,Vals (zAW k xs).flatten (zAW k us).flatten
 |0=>.nil
 |k+1=>by
  rw[zBl,zBl,zBS,zBS];exact Vals.append h (Vals.rep h k)
theorem foldl_rep(its:List Value):∀(k:Nat) (acc:List Value),
  zH7 (λ x1 x2=>x1++x2) acc.toArray (zAW k its.toArray)=(acc++(zAW k its).flatten).toArray
 |0,acc=>by simp
 |k+1,acc=>by
  have e:acc.toArray++its.toArray=(acc++its).toArray:=by simp
  have e2:(acc++its)++(zAW k its).flatten=acc++(zAW (k+1) its).flatten:=by
   rw[zBl,zBS,zAt]
  rw[<-e2,<-foldl_rep its k (acc++its),<-e,zBl,zCT]
section
variable{X:Cx}{iX:hZ}{σ:St}{H:Hp}{s:zAG}{l:Addr}{xs ys:List V}
def Inv.lset{its its':List Value}{n:Nat}{f:Array Value->Array Value}{t':Nat}(I:Inv X iX σ H s)(hH:H l=some (.lst xs))
  (e:s.heap.get? l=some {cls:=.type "list",data:=.seq its.toArray n})(hf:f its.toArray=its'.toArray)(hv:Vals ys its')(hz:ys.length<=zAY):
  Inv X iX σ (upd H l (.lst ys)) {s with heap:=s.heap.update l (zCL f),toks:=t'}:=by
 have q:=PySem.IsL.update e f;rw[hf]at q;refine I.write (x:=l) (e:=l) (by rw[hH];exact trivial) (.inl rfl) (λ b' u hb hu=>(zG2 s.heap (zCL f) (zEG hb)).trans hu) ⟨_,q⟩ ?_;exact⟨hz,its',_,hv,q⟩
def Inv.lnew(I:Inv X iX σ H s)(hv:Vals ys its)(hz:ys.length<=zAY):
  Inv X iX σ (upd H s.heap.objs.size (.lst ys)) {s with heap:=s.heap.push {cls:=.type "list",data:=.seq its.toArray},toks:=t'}:=
 I.laid (λ _ _ q=>zAC _ q) (zAT _) ⟨hz,its,0,hv,zAO _ rfl⟩
theorem Inv.fresh(I:Inv X iX σ H s):H s.heap.objs.size=none:=I.hok.fresh (zAT _)
def Inv.lstM(I:Inv X iX σ H s)(hH:H l=some (.lst xs)):xs.length<=zAY/\∃(its:List Value) (n:Nat),Vals xs its/\xs.length=its.length/\s.heap.get? l=some {cls:=.type "list",data:=.seq its.toArray n}:=by
 obtain⟨z,its,n,r,e⟩:=I.hok l _ hH;exact⟨z,its,n,r,r.length,e⟩
def yN(h:n<=zAY):zBg n=false:=by
 unfold zBg;exact decide_eq_false (by lia)
end
section
variable{X:Cx}
def aKY:V->List V->Hp->VK->Prop:=λ x vs H Q=>∃l xs y,x= .ref l/\vs=[y]/\H l=some (.lst xs)/\xs.length<zAY/\Q .non (upd H l (.lst (xs++[y])))
def aAQ:MtM X "list.append" aKY:=by
 intro iX s σ H x vs v us Q I rx rv h;obtain⟨l,xs,y,rfl,rfl,hH,hz,q⟩:=h;cases rx;obtain⟨u,rfl,ru⟩:=rv.one;obtain⟨z,its,n,r,hl,e⟩:=I.lstM hH;refine zFN zER ⟨_,e,rfl⟩ F.entry_list_append (F.args_list_append_2 _ _) (PySem.list_append l its.toArray n u (by rw[zAP];lia)) ⟨e,?_⟩;refine⟨.non,_,I.lset (its':=its++[u]) hH e (by simp) (r.append (.cons ru .nil)) ?_,rfl,q⟩;rw[zA0,zBE];lia
def aPZ:R2:=λ x y H Q=>∃l b xs zs,x= .ref l/\y= .ref b/\H l=some (.lst xs)/\H b=some (.lst zs)/\xs.length+zs.length<=zAY/\∀p,H p=none->Q (.ref p) (upd H p (.lst (xs++zs)))
def aN3:OpR X (zC6 .Add) aPZ:=by
 intro iX s σ H x y v u Q I rx ry h;obtain⟨l,b,xs,zs,rfl,rfl,hH,hB,hz,q⟩:=h;cases rx;cases ry;obtain⟨z,its,n,r,hl,e⟩:=I.lstM hH;obtain⟨z2,its2,n2,r2,hl2,e2⟩:=I.lstM hB;refine PySem.P.add_list e e2 ?_ (by rw[zAP,zAP];lia);have ea:its.toArray++its2.toArray=(its++its2).toArray:=by simp
 rw[ea];exact⟨.ref _,_,I.lnew (t':=s.toks) (r.append r2) (by rw[zA0];lia),rfl,q _ I.fresh⟩
def aO3:R2:=λ x y H Q=>∃l k xs,x= .ref l/\y= .int k/\H l=some (.lst xs)/\-(2^63)<=k/\k<2^63/\xs.length*k.toNat<=zAY/\
 ∀p,H p=none->Q (.ref p) (upd H p (.lst (zAW k.toNat xs).flatten))
def len_rep(xs:List α)(k:Nat):(zAW k xs).flatten.length=k*xs.length:=by
 induction k with
 |zero=>simp
 |succ k ih=>rw[zBl,zBS,zA0,ih,Nat.succ_mul,Nat.add_comm]
def aNR:OpR X (zC6 .Mult) aO3:=by
 intro iX s σ H x y v u Q I rx ry h;obtain⟨l,k,xs,rfl,rfl,hH,h1,h2,hz,q⟩:=h;cases rx;obtain⟨t,rfl⟩:=ry;obtain⟨z,its,n,r,hl,e⟩:=I.lstM hH;have kQ:its.toArray.size*k.toNat<=zAY:=by rw[zAP,<-hl];exact hz
 have hcap:¬its.toArray.size*k.toNat>(2^63-1) / 8:=by
  have:(zAY:Nat)<=(2^63-1) / 8:=by decide
  lia
 have hfit:¬(!Builtin.List.listFitsIndex k)=true:=by
  rw[fitsIndex_both h1 h2];exact zAX
 have b5:¬zBg (its.toArray.size*k.toNat)=true:=by
  rw[yN kQ];exact zAX
 have hnew:zH7 (λ x1 x2=>x1++x2) #[] (zAW (if its.toArray.isEmpty=true then 0 else k.toNat) its.toArray)=(zAW k.toNat its).flatten.toArray:=by
  have f0:∀m:Nat,zH7 (λ x1 x2=>x1++x2) #[] (zAW m its.toArray)=(zAW m its).flatten.toArray:=λ m=>by
   have:=foldl_rep its m []
   rw[zCC]at this;exact this
  rw[f0];cases its with
  |nil=>simp
  |cons a r'=>rw[if_neg (by simp)]
 refine wpAny_binaryOp_repeat_ref (T:="list") (U:="int") (by decide) ⟨_,e,rfl⟩ (λ s'=>zIw s' k t) noFill_list_mul F.fills_int_mul zIj repeat_list F.slot_int_index.lookup
  (zFN zIj (zIw s k t) F.entry_int_rmul (F.args_int_rmul_2 _ _) (int___rmul___int_list k t l its.toArray n)
   ⟨e,rfl,⟨_,e,rfl⟩,zFN F.slot_list_mul ⟨_,e,rfl⟩ F.entry_list_mul (F.args_list_mul_2 _ _) (AutoListH.list___mul___list_int_3 l its.toArray n k t hfit hcap b5) ⟨e,?_⟩⟩)
 rw[hnew];exact⟨.ref _,_,I.lnew (t':=s.toks) (r.rep k.toNat) (by rw[len_rep,Nat.mul_comm];exact hz),rfl,q _ I.fresh⟩
end
end L2
namespace Att
open PySem PySem.W PySem.Calls PyProof.Rows
def wX:∀(ns:List Int) (vs:List Value),WellAll P h vs (ns.map WData.int)->zBL vs ns:=by
 intro ns;induction ns with
 |nil=>
  intro vs w;rw[zCf]at w;cases w;exact .nil
 |cons n ns ih=>
  intro vs w;rw[zAM]at w;cases w with
  |cons a b=>
   cases a;exact .cons _ _ (ih _ b)
def aGW{l:OpenLaw}{n:Nat}(hn:l.most=some n){P:Params}{h:Heap}{args:List WData}{vals:List Value}
  (hpre:l.row.toRowW.claim.pre args=true)(hwl:WellAll P h vals args):
  ∃a vs ns,vals=[zBr a]/\args=[WData.list (ns.map WData.int)]/\h.get? a=some {cls:=.type "list",data:=.seq vs.toArray}/\zBL vs ns/\ns.length<=n:=by
 have hsh:WShape.hasAll [] args [.list .int]=true:=(pre_splitW hpre).1;have hc:l.pre.holds [] {args:=args}=true:=(pre_splitW hpre).2;obtain⟨d,r,rfl,h1,h2⟩:=hasAllW_cons hsh;obtain rfl:=hasAllW_nil h2;obtain⟨xs,rfl,h3⟩:=hasW_list h1;obtain⟨ns,rfl⟩:=items_int h3;have kQ:ns.length<=n:=by
  unfold OpenLaw.pre at hc;have h4:(WTm.not (.lt (.lit (.int (n:Int))) (.len (.arg 0)))).holds [] {args:=[.list (ns.map .int)]}=true:=by
   have h4:=(holds_andW hc).1;rw[hn]at h4;exact h4
  have h5:=condW_of h4 (w_not (w_lt w_lit (w_len_list (w_arg rfl))));rw[zAE]at h5;refine zEW λ q=>?_
  have q':(n:Int)<((ns.length:Nat):Int):=by lia
  first
   |(rw[decide_eq_true q']at h5;exact absurd h5 (by decide))
   |(simp at h5;lia)
 cases hwl with
 |cons w1 w2=>
  cases w2;cases w1 with
  |list ho kX=>exact⟨_,_,ns,rfl,rfl,ho,wX ns _ kX,kQ⟩
def aG3(l:OpenLaw)(args:List WData):l.row.toRowW.claim.post args (.bool true) args=true:=
 postW_of (r:=l.row.toRowW) (X:=(true==true))
  (show WShape.has [] (.bool true) .bool=true by first|rfl|decide|simp[WShape.has,WShape.arms,WShape.armsAll])
  (show(WTm.eq .res (.lit (.bool true))).value [] {args:=args,res:=some (.bool true),after:=args}=some (.bool (true==true))from w_eq_bool (w_res rfl) w_lit) rfl
def aD3{l:OpenLaw}{n:Nat}{q:zA7}{loose:List Str}{XP:(Str->Option Value)->Heap->Prop}{YP:World->Heap->Prop}{d:DefRec}
  (hn:l.most=some n)(hdf:d.params.defaults=[])
  (call:∀(w:World) (z4 zI:zAG) (mg mb:Str->Option Value) (fa:Addr) (o:Obj) (pm cd doc:Value) (a:Addr) (vs:List Value) (ns:List Int),
   Ground q loose [] XP w z4 mg mb zI.heap->YP w zI.heap->
   zI.heap.get? fa=some o->o.data= .func (docDef d.name d.params d.body d.scope pm cd doc)->zI.heap.CodeRec cd d.name->mg d.name=some (.ref fa)->
   zI.heap.get? a=some {cls:=.type "list",data:=.seq vs.toArray}->zBL vs ns->ns.length<=n->zI.gens=#[]->
   zCZ (model l.prog w) zF2 (.call (.ref fa) ⟨[.ref a],[]⟩) (λ r s'=>r= .ok (.ret (.bool true))/\OldK zI.heap s'.heap/\s'.os=zI.os/\zEu s'.gens) zI):
  WalkO q loose XP YP l.row.toRowW d [] (λ f vs=>zHT f vs):=by
 intro w z4 zI mg mb G Y fa o pm cd doc dV kV ho hd hcd hD hmg hg args vals as hpre hlay hrd hwl hlo;obtain rfl:dV= .none:=Dflts.none hD hdf;obtain rfl:kV= .none:=Dflts.noKw hD;obtain⟨a,vs,ns,rfl,rfl,hobj,hints,kQ⟩:=aGW hn hpre hwl;refine enter_call (zDf (call w z4 zI mg mb fa o pm cd doc a vs ns G Y ho (fd_plain hd) hcd hmg hobj hints kQ hg) λ r s' hq=>?_);obtain⟨rfl,h2,h3,h4⟩:=hq;exact⟨.inl ⟨.bool true,.bool true,[],rfl,λ _=>rfl,.bool true,aG3 l _,λ _=>⟨zFu,λ _ hm=>(nomatch hm)⟩⟩,h2,h3,h4⟩
section
variable{prog:zA7}{w:World}{A:zAk}{E:Value->zAG->Prop}{s:zAG}{K:Frag}
def make_obj(X:K.In s.heap)(hm:makesIn K C=true)(hi:findIn K (.ref C) "__init__"=some (some (.ref fI)))(hf:isFn K (.ref fI)=true)
  (h:zCZ (model prog w) (A.under (.builtin "type.__call__" ⟨.ref C::rest,kw⟩)) (.call (.ref fI) ⟨.ref (s.heap.objs.size+1)::rest,kw⟩) (InitBack (s.heap.objs.size+1) R)
   {s with heap:=(s.heap.push emptyDict).push (instObj C s.heap.objs.size)}):zCZ (model prog w) A (.call (.ref C) ⟨rest,kw⟩) R s:=by
 obtain⟨hh,g,d,t,os⟩:=s;exact make_core (makes_of X hm) (looks_findIn X hi) (λ self=>bind_fn X self (beq_iff_eq.mp hf)) (.inl rfl) h
def get_field(X:K.In s.heap)(I:zHd s.heap x ox C (some (dictOf es n)))(hg:plainGet K C name=true)(hh:hasDictIn K C=true)(ha:findIn K (.ref C) name=some none)
  (hl:getL name es=some (some v))(hv:handedIn v=true)(h:Q v {s with toks:=s.toks+1}):wpAny (model prog w) A (getAttr (.ref x) name expr) Q E s:=
 get_value X I (plainGet_of hg).1 (findObj_own hh ha rfl hl) hv h
def ledger(h:Heap)(L d:Addr):hZ:=(zAu h.objs.size).filterMap λ a=>if a=L\/a=d then none else(h.get? a).map λ o=>(a,o)
end
end Att
namespace L2
open PySem PySem.Spec PyProof.Rows
theorem aAF:∀{vs:List Value} {ns:List Int},zBL vs ns->Vals (ns.map V.int) vs
 |_,_,.nil=>.nil
 |_,_,.cons n t h=>.cons ⟨t,rfl⟩ (aAF h)
def Only(H:Hp):Prop:=∀b,H b=none\/∃o xs,H b=some (.frz o (.lst xs))
def aIj{P:zA7}{w:World}{K:zAA}{mg mb:Str->Option Value}{CX:CXT}{k:Nat}{fa a:Addr}{fd:zAd}{x:Str}{sp:Sp}{zI:zAG}{vs:List Value}{ns:List Int}
  (KX:K.In zI.heap)(hns:zI.heap.Ns zAh mg)(hb:zI.heap.Ns zIu mb)(hbb:∀x:Str,x≠"__name__"->mb x=zAq x)(hlim:zI.heap.NoLimit)(hg:zI.gens=#[])
  (ha:zI.heap.get? a=some {cls:=.type "list",data:=.seq vs.toArray})(hi:zBL vs ns)(hl:ns.length<=zAY)(hr:lG k zF2)
  (F:∀base:Heap,K.In base->base.Ns zAh mg->bw P w K mg base CX k fa fd [x] sp)(hbind:∀(s:zAG) (u:Value),zFt s fd ⟨[u],[]⟩ [(x,u)])
  (hsp:∀H:Hp,Only H->SqL K H a (ns.map V.int)->sp [.ref a] H (λ v _=>v= .bl true) λ _ _ _=>False)
  (hCX:∀H e s',CX [] H zI (λ _ _ _=>False) e s'->False):
  zCZ (model P w) zF2 (.call (.ref fa) ⟨[.ref a],[]⟩) (λ r s'=>r= .ok (.ret (.bool true))/\OldK zI.heap s'.heap/\s'.os=zI.os/\zEu s'.gens) zI:=by
 have rv:=aAF hi;have lenV:=hi.length;have core:∀H:Hp,Only H->SqL K H a (ns.map V.int)->HOk P w H zI.heap->(∀b,H b≠none->b=a)->(H a≠none->K.lookup a=none)->
   zCZ (model P w) zF2 (.call (.ref fa) ⟨[.ref a],[]⟩) (λ r s'=>r= .ok (.ret (.bool true))/\OldK zI.heap s'.heap/\s'.os=zI.os/\zEu s'.gens) zI:=by
  intro H hO hS hok hA hK;have base_of:∀{b:Addr} {o:Obj},zI.heap.get? b=some o->H b=none->(aB3 zI.heap H).get? b=some o:=λ e n=>aJD e n
  have noA:∀{b:Addr} {o:Obj} {es:Array DictEntry} {ep:Nat},zI.heap.get? b=some o->o.data= .dict es ep->H b=none:=λ{b o es ep} e d=>by
   cases q:H b with
   |none=>rfl
   |some u=>
    have e':b=a:=hA b (by rw[q];simp);subst e';rw[ha]at e;cases e;have d':Data.seq vs.toArray _=Data.dict es ep:=d;cases d'
  have nsK:∀{b:Addr} {m:Str->Option Value},zI.heap.Ns b m->(aB3 zI.heap H).Ns b m:=λ{b m} ⟨o,es,ep,e,d,r⟩=>⟨o,es,ep,base_of e (noA e d),d,r⟩
  have hKb:K.In (aB3 zI.heap H):=λ b o e=>base_of (KX b o e) (by
   cases q:H b with
   |none=>rfl
   |some u=>
    have e':b=a:=hA b (by rw[q];simp);subst e';rw[hK (by rw[q];simp)]at e;cases e)
  have hM:Mod K mg (aB3 zI.heap H):=⟨hKb,nsK hns,⟨mb,nsK hb,hbb⟩,let⟨mc,h1,h2⟩:=hlim;⟨mc,nsK h1,h2⟩⟩;have e0:aJp P w K mg (aB3 zI.heap H) zF2 [] zI H:=⟨rfl,hM,λ b o e=>aKv e,Nat.le_of_eq (aGu _ _),trivial,λ b hb=>absurd (show b∈([]:List Addr)from hb) (by simp),hok,.of_eq hg⟩;refine zDf ((F _ hKb (nsK hns)).run zF2 [] zI H ⟨[.ref a],[]⟩ [.ref a] [.ref a] _ _ hr e0 (hbind zI (.ref a)) (.cons rfl .nil) (hsp H hO hS)) λ r s' h=>?_
  cases r with
  |error e=>exact(hCX H e s' h).elim
  |ok fl=>
   cases fl with
   |next=>exact zAR h
   |brk=>exact zAR h
   |cont=>exact zAR h
   |ret u=>
    obtain⟨v,H',os,bare,un,hok',r',q⟩:=h;have q':v= .bl true:=q;subst q';obtain rfl:u=zE7 true:=r';refine⟨rfl,OldK.of_keep λ b o e=>?_,os,bare⟩;cases q:H b with
    |none=>exact un.keep b o e q (by intro z;exact absurd (show b∈([]:List Addr)from z) (by simp)) (by simp)
    |some u=>
     rcases hO b with z|⟨ob,xs,z⟩
     .rw[q]at z;cases z
     .have z2:=un.frzs b ob _ z
      obtain⟨e1,_⟩:=hok b _ z;obtain⟨e2,_⟩:=hok' b _ z2;rw[e]at e1;cases e1;exact e2
 cases hk:K.lookup a with
 |some o=>
  have e:=KX a o hk;rw[ha]at e;cases e;refine core (λ _=>none) (λ _=>.inl rfl) (.inr ⟨_,vs.toArray,_,hk,rfl,rfl,rfl,by rw[zAP,lenV];exact hl,by simpa using rv⟩) (λ b u z=>by have z':(none:Option HO)=some u:=z;cases z') (λ b z=>absurd rfl z) λ z=>absurd rfl z
 |none=>
  refine core (λ b=>if b=a then some (.frz {cls:=.type "list",data:=.seq vs.toArray} (.lst (ns.map V.int)))else none) (λ b=>?_) (.inl (.inr ⟨{cls:=.type "list",data:=.seq vs.toArray},if_pos rfl⟩)) (λ b u z=>?_) (λ b z=>?_) λ _=>hk
  .by_cases hb:b=a
   .exact .inr ⟨_,_,if_pos hb⟩
   .exact .inl (if_neg hb)
  .by_cases hb:b=a
   .have z':=(if_pos hb).symm.trans z
    cases z';subst hb;exact⟨ha,by rw[zAE];exact hl,vs,_,rv,ha⟩
   .have z':=(if_neg hb).symm.trans z
    cases z'
  .by_cases hb:b=a
   .exact hb
   .exact absurd (if_neg hb) z
def aJy{l:zF0}{n k:Nat}{q:zA7}{loose:List Str}{XP:(Str->Option Value)->Heap->Prop}{YP:World->Heap->Prop}{d:DefRec}{K:Params->zAA}{CX:World->CXT}{sp:World->Sp}{x:Str}
  (hn:l.most=some n)(hn2:n<=zAY)(hdf:d.params.defaults=[])(hr:lG k zF2)
  (hY:∀(w:World) (h:Heap),YP w h->(K w.params).In h)
  (F:∀(w:World) (mg:Str->Option Value) (fa:Addr) (h:Heap),(K w.params).In h->h.Ns zAh mg->mg d.name=some (.ref fa)->
   ∃fd:zAd,(∀(s:zAG) (u:Value),zFt s fd ⟨[u],[]⟩ [(x,u)])/\
    ∀base:Heap,(K w.params).In base->base.Ns zAh mg->bw l.prog w (K w.params) mg base (CX w) k fa fd [x] (sp w))
  (hsp:∀(w:World) (H:Hp) (a:Addr) (ns:List Int),ns.length<=n->Only H->SqL (K w.params) H a (ns.map V.int)->sp w [.ref a] H (λ v _=>v= .bl true) λ _ _ _=>False)
  (hCX:∀(w:World) (H:Hp) (s:zAG) (e:Value) (s':zAG),CX w [] H s (λ _ _ _=>False) e s'->False):
  zIC q loose XP YP l.row.toRowW d [] (λ f vs=>zHT f vs):=by
 refine Att.aD3 hn hdf λ w z4 zI mg mb fa o pm cd doc a vs ns G Y ho hd hcd hmg hobj hints kQ hg=>?_
 have KX:=hY w _ Y;obtain⟨fd,hb,hF⟩:=F w mg fa _ KX G.T.g hmg;exact aIj KX G.T.g G.T.b G.T.builtins G.T.nolimit hg hobj hints (zAn kQ hn2) hr hF hb (λ H hO hS=>hsp w H a ns kQ hO hS) λ H e s'=>hCX w H zI e s'
def qX(s:Stmt):zHk:=match s with
 | .FunctionDef _ a _ _ _ _ _ _ _ _=>a
 |_=>{posonlyargs:=[],args:=[],vararg:=none,kwonlyargs:=[],kw_defaults:=[],kwarg:=none,defaults:=[]}
def jO(s:Stmt):List Stmt:=match s with
 | .FunctionDef _ _ b _ _ _ _ _ _ _=>b
 |_=>[]
def aN(s:Stmt):Scope:=match s with
 | .FunctionDef _ _ _ _ _ _ sc _ _ _=>sc
 |_=>{kind:=.function,names:=[],isGenerator:=false,isCoroutine:=false}
abbrev CX0:CXT:=λ _ _ _ _ _ _=>False
abbrev E0:XK:=λ _ _ _=>False
structure Fun(K:zAA)(x qual:Str)(st:Stmt)(f:Addr)(fd:zAd):Prop where
 ex:∃(oc:Value) (od:Option Addr) (kV doc pm:Value) (an:Option Addr) (cdv ct:Value) (osl:Array (Option Value)),
  fd=zCW x qual (qX st) (jO st) (aN st) .none kV doc pm an cdv ct/\K.lookup f=some ⟨oc,od,.func fd,osl⟩/\zDm K cdv qual=true
 kp:zDO K (.ref f)=true
section
variable{K:zAA}
def Fun.binds{x qual:Str}{st:Stmt}{f:Addr}{fd:zAd}{ps:List Str}(F:Fun K x qual st f fd)
  (h:∀(kV doc pm:Value) (an:Option Addr) (cdv ct:Value) (us:List Value),us.length=ps.length->bindArgs (zCW x qual (qX st) (jO st) (aN st) .none kV doc pm an cdv ct) ⟨us,[]⟩=pure (ps.zip us)):Binds K fd ps []:=by
 obtain⟨oc,od,kV,doc,pm,an,cdv,ct,osl,rfl,lk,hcd⟩:=F.ex;exact .all (h kV doc pm an cdv ct)
def aNw{x qual:Str}{st:Stmt}{f:Addr}{oc:Value}{od an:Option Addr}{osl:Array (Option Value)}{kV doc pm cdv ct:Value}(l:K.lookup f=some ⟨oc,od,.func (zCW x qual (qX st) (jO st) (aN st) .none kV doc pm an cdv ct),osl⟩)
  (c:zDm K cdv qual=true)(k:zDO K (.ref f)=true):Fun K x qual st f (zCW x qual (qX st) (jO st) (aN st) .none kV doc pm an cdv ct):=⟨⟨oc,od,kV,doc,pm,an,cdv,ct,osl,rfl,l,c⟩,k⟩
end
def aX(H H':Hp):Prop:=∀b o,H b=some o->H' b=some o
def aX.refl(H:Hp):aX H H:=λ _ _ h=>h
def aX.trans(a:aX H H1)(b:aX H1 H2):aX H H2:=λ c o h=>b c o (a c o h)
def aX.free(e:aX H H')(h:H' l=zI9):H l=zI9:=by
 cases q:H l with
 |none=>rfl
 |some o=>
  rw[e l o q]at h;cases h
end L2
set_option maxHeartbeats 4000000
namespace HT
open PySem PyProof.Rows
def lexLe:List Int->List Int->Bool
 |[],_=>true
 |_::_,[]=>false
 |x::xs,y::ys=>if x=y then lexLe xs ys else decide (x<=y)
def aE0(x y:Int)(xs ys:List Int):lexLe (x::xs) (y::ys)=if x=y then lexLe xs ys else decide (x<=y):=rfl
def aHw(A:zAk)(s:zAG)(a:Int)(t:Tok)(c:Int)(u:Tok)(prog:zA7)(w:World)(E:Value->zAG->Prop)(Q:Value->zAG->Prop)(h:Q (.bool (decide (a<=c))) s):
  wpAny (model prog w) A (zGa .LtE (.int a t) (.int c u)) Q E s:=
 (PyProof.Rows.le_int h:wpAny (model prog w) A (zAs .LtE (.int a t) (.int c u)) Q E s)
section
open PySem.SeqAt
open PySem.AutoSeq1(wpAny_loadPart')
open PySem.MeetsSeq PySem.MeetsSeq2 PySem.MeetsSeq3
def zX(l b:Addr)(items items2:Array Value)(n n2:Nat)(dd dd2:Option Addr)(sl sl2:Array (Option Value))(ns ms:List Int)(hi:zBL items.toList ns)(hj:zBL items2.toList ms):
  Meets (zDP.«tuple.__le__» ⟨[.ref l,.ref b],[]⟩)
   (λ _ R s=>s.heap.get? l=some {cls:=.type "tuple",dict:=dd,data:=.seq items n,slots:=sl}/\s.heap.get? b=some {cls:=.type "tuple",dict:=dd2,data:=.seq items2 n2,slots:=sl2}/\
    R (.ok (.ret (.bool (lexLe ns ms)))) s):=
 .of_wp λ prog w A R s h=>by
  obtain⟨hp,g,d,tk,os⟩:=s;obtain⟨hl,hb,h⟩:=h;have f2:=zFd;have z1:items.size=ns.length:=by rw[<-hi.length];simp
  have z2:items2.size=ms.length:=by rw[<-hj.length];simp
  wp_walk using zCt hl,zCt hb,wpAny_forIn_list _ (λ rest b s'=>b.1=none/\s'=⟨hp,g,d,tk,os⟩/\∃(vs ws:List Value) (ns' ms':List Int),rest=vs.zip ws/\
   zBL vs ns'/\zBL ws ms'/\ns'.length+items2.size=ms'.length+items.size/\R (.ok (.ret (.bool (lexLe ns' ms')))) ⟨hp,g,d,tk,os⟩) _
  case turn=>
   rintro⟨y,x⟩ rest b s' ⟨hb',rfl,vs,ws,ns',ms',hz,hvi,hwi,kQ,hR⟩;cases hvi with
   |nil=>rw[zHb]at hz;cases hz
   |cons a t hvi'=>
    cases hwi with
    |nil=>rw[zHP]at hz;cases hz
    |cons c u hwi'=>
     rw[zCK]at hz;injection hz with hyx hrest
     injection hyx with hy hx
     subst hy hx;rw[aE0]at hR;simp only[zA6]at kQ;obtain⟨e,he,hiff⟩:=aDQ A.in1 ⟨hp,g,d,tk,os⟩ a t c u;refine zAB (he prog w _ _ ?_);cases e with
     |true=>
      rw[if_pos (hiff.mp rfl)]at hR;wp_walk;exact⟨rfl,rfl,_,_,_,_,hrest,hvi',hwi',by lia,hR⟩
     |false=>
      rw[if_neg (λ q=>absurd (hiff.mpr q) zAX)]at hR;have hri:=aHw A.in1 ⟨hp,g,d,tk,os⟩ a t c u prog w;wp_walk using hri;exact⟨_,rfl,by simpa using hR⟩
  case fin=>
   rintro⟨b1,b2⟩ s' ⟨hb',rfl,vs,ws,ns',ms',hz,hvi,hwi,kQ,hR⟩;simp only at hb';subst hb';have hv:lexLe ns' ms'=decide (items.size<=items2.size):=by
    cases hvi with
    |nil=>
     simp only[zCV]at kQ;have e:lexLe [] ms'=true:=by cases ms'<;>rfl
     rw[e];exact(decide_eq_true (by lia)).symm
    |cons a t hv=>
     cases hwi with
     |nil=>
      simp only[zCV,zA6]at kQ;show false=_;exact(decide_eq_false (by lia)).symm
     |cons c u hw=>
      rw[zCK]at hz;cases hz
   rw[hv]at hR;wp_walk;exact⟨_,rfl,by simpa[zEX]using hR⟩
  case h=>
   exact⟨rfl,rfl,items.toList,items2.toList,ns,ms,rfl,hi,hj,by lia,h⟩
end
section
variable{prog:zA7}{w:World}{A:zAk}{E:Value->zAG->Prop}{s:zAG}
def aE2(hl:IsTup s.heap l items)(hb:IsTup s.heap b items2)(hi:zBL items.toList ns)(hj:zBL items2.toList ms)
  (hu:A.units<cLine)(h:Q (.bool (lexLe ns ms)) s):wpAny (model prog w) A (zAs .LtE (.ref l) (.ref b)) Q E s:=by
 obtain⟨⟨cls,dd,data,sl⟩,ho,hc,n,hd⟩:=id hl;obtain⟨⟨cls2,dd2,data2,sl2⟩,ho2,hc2,n2,hd2⟩:=id hb;simp only at hc hd hc2 hd2;subst hc hd hc2 hd2;exact zHi (op:=.LtE) ⟨_,ho,rfl⟩ ⟨_,ho2,rfl⟩ PySem.F.slot_tuple_le PySem.F.entry_tuple_le (PySem.F.args_tuple_le_2 _ _) (zX l b items items2 n n2 dd dd2 sl sl2 ns ms hi hj)
  ⟨ho,ho2,show zE7 (lexLe ns ms)≠zGq/\Q (.bool (lexLe ns ms)) s from⟨(λ x=>nomatch x),h⟩⟩ hu
def aJa{ws:List Value}(ht:IsTup s.heap t #[])(hb:IsTup s.heap b ws.toArray)(h1:Q (.ref b) s):wpAny (model prog w) A (zC6 .Add (.ref t) (.ref b)) Q E s:=by
 obtain⟨⟨cls,dd,data,sl⟩,ho,hc,n,hd⟩:=id ht;obtain⟨⟨cls2,dd2,data2,sl2⟩,ho2,hc2,n2,hd2⟩:=id hb;simp only at hc hd hc2 hd2;subst hc hd hc2 hd2;exact zIG ⟨_,ho,rfl⟩ ⟨_,ho2,rfl⟩ zGU zHX zEM zDz (zDr _ _)
   (tuple_addW0 t b #[] ws.toArray n n2 dd dd2 sl sl2 (by simp)) ⟨ho,ho2,h1⟩
def uJ{lo hi:Option Int}(ht:IsTup s.heap t items)(hs:s.heap.IsSliceOf sl vl vu .none)(pl:zGI vl lo)(pu:zGI vu hi)
  (h1:sIx items.size 0 lo=0)(h2:sIx items.size items.size hi=items.size)
  (h:Q (.ref t) s):wpAny (model prog w) A (zG8 (.ref t) (.ref sl)) Q E s:=by
 obtain⟨os,hos,hcs,hds⟩:=id hs;have hTs:s.TypeIs (.ref sl) "slice":=⟨os,hos,hcs⟩;obtain⟨ot,hot,hct,hdt⟩:=id ht;unfold zG8
 try with_reducible refine zB2 ?_
 first|refine zAB (zAK ?_)|skip
 refine zAB (zJA ht.typeIs (by decide) ?_);refine zAB (zBW (name:=zDF "__getitem__") ht.typeIs zB7
  (zBV zB7 ht.typeIs zI0 ?_ (zIc _ _)))
 show wpAny _ _ (zEn (.ref t)>>=_) _ _ s;refine zAB (tupleItemsOf_ ht ?_);refine zAB (zFC hTs ?_);rw[if_pos (by decide)];refine zAB (mY hs pl pu ?_);have hyes:(((sIx items.size 0 lo:Nat):Int)==0&&(1:Int)==1&&(sIx items.size items.size hi-sIx items.size 0 lo)==items.size)=true:=by
  rw[h1,h2];simp
 show wpAny _ _ (if (((sIx items.size 0 lo:Nat):Int)==0&&(1:Int)==1&&(sIx items.size items.size hi-sIx items.size 0 lo)==items.size)=true then _ else _) _ _ s;rw[if_pos hyes];unfold zIi;refine zAB (zAB (zFC ht.typeIs (zAK ?_)));rw[if_pos (by decide)];exact zAB (zGG (zAK ⟨_,rfl,zAK h⟩))
end
end HT
namespace L2
open PySem PySem.Spec PyProof.Rows
def aLP(t T:String):Bool:=decide (t=T)||(decide (t="bool")&&decide (T="int"))
def aLL{K:zAA}(ht:t∈["NoneType","bool","int","str","list","tuple","dict"])(hT:T∈["bool","int","str","list","tuple","dict"]):
  zDn K (.type t) (.type T)=some (aLP t T):=by
 simp only[zAL,zAf,or_false]at ht hT;rcases ht with rfl|rfl|rfl|rfl|rfl|rfl|rfl<;>rcases hT with rfl|rfl|rfl|rfl|rfl|rfl<;>kernel_rfl
def qu(t T:String)(b:Bool):Bool:=decide (t∈["NoneType","bool","int","str","list","tuple","dict"])&&decide (T∈["bool","int","str","list","tuple","dict"])&&(aLP t T==b)
def aE6{K:zAA}(h:qu t T b=true):zDn K (.type t) (.type T)=some b:=by
 unfold qu at h;rw[zAN,zAN]at h;rw[aLL (of_decide_eq_true h.1.1) (of_decide_eq_true h.1.2),zEB h.2]
def au(h:H p=none)(o:HO):aX H (upd H p o):=λ b u q=>by rw[bG (cU q h)];exact q
section
variable{X:Cx}
def aPY(K:zAA):List V->Hp->VK->Prop:=λ xs H Q=>∃x T t b,xs=[x,.ty T]/\v4 K H x (.type t)/\qu t T b=true/\Q (.bl b) H
def nH:cX X (.builtin "isinstance") (aPY X.K):=by
 intro iX s σ H xs us Q I r h;obtain⟨x,T,t,b,rfl,ty,ok,q⟩:=h;obtain⟨u,w',rfl,r1,r2⟩:=vals2 r;obtain rfl:w'=zCz T:=r2;exact aGp I r1 ty (aE6 ok) λ tk=>⟨.bl b,H,I.tok tk,rfl,q⟩
def aKX(K:zAA):R2:=λ x y H Q=>∃a b ns ms,x= .ref a/\y= .ref b/\SqT K H a (ns.map V.int)/\SqT K H b (ms.map V.int)/\Q (.bl (HT.lexLe ns ms)) H
def aNZ(hu:X.A.units<cLine):OpR X (zAs .LtE) (aKX X.K):=by
 intro iX s σ H x y v u Q I rx ry h;obtain⟨a,b,ns,ms,rfl,rfl,ha,hb,q⟩:=h;cases rx;cases ry;obtain⟨its,r1,p1,_⟩:=I.tuple ha;obtain⟨its2,r2,p2,_⟩:=I.tuple hb;have i1:zBL its.toArray.toList ns:=intsAre_of r1;have i2:zBL its2.toArray.toList ms:=intsAre_of r2;exact HT.aE2 p1 p2 i1 i2 hu ⟨.bl (HT.lexLe ns ms),H,I,rfl,q⟩
end
def mR(l:Addr)(H H':Hp):Prop:=∀b o,b≠l->H b=some o->H' b=some o
def aX.sqt{K:zAA}(e:aX H H')(h:SqT K H a xs):SqT K H' a xs:=by
 rcases h with (h|⟨o,h⟩)|h
 .exact .inl (.inl (e _ _ h))
 .exact .inl (.inr ⟨o,e _ _ h⟩)
 .exact .inr h
inductive D where
 |non|bl (b:Bool)|int (i:Int)|str (x:Str)|tup (l:List D)|lst (l:List D)|dct
mutual
inductive Rep(H:Hp):V->D->Prop where
 |non:Rep H .non .non
 |bl (b:Bool):Rep H (.bl b) (.bl b)
 |int (i:Int):Rep H (.int i) (.int i)
 |str (x:Str):Rep H (.str x) (.str x)
 |tup {a:Addr} {xs:List V} {ds:List D} (h:H a=some (.tup xs)) (r:aJl H xs ds):Rep H (.ref a) (.tup ds)
 |lst {a:Addr} {xs:List V} {ds:List D} (h:H a=some (.lst xs)) (r:aJl H xs ds):Rep H (.ref a) (.lst ds)
 |dct {a:Addr} (h:H a=some (.dK [])):Rep H (.ref a) .dct
inductive aJl(H:Hp):List V->List D->Prop where
 |nil:aJl H [] []
 |cons {x:V} {d:D} {xs:List V} {ds:List D} (h:Rep H x d) (r:aJl H xs ds):aJl H (x::xs) (d::ds)
end
def PE.weaken(h:PE X e t)(imp:∀σ H Q,t' σ H Q->t σ H Q):PE X e t':=λ iX s σ H Q I q=>h iX s σ H Q I (imp σ H Q q)
def OpR.weaken(h:OpR X f r)(imp:∀x y H Q,r' x y H Q->r x y H Q):OpR X f r':=λ iX s σ H x y v u Q I rx ry q=>h iX s σ H x y v u Q I rx ry (imp x y H Q q)
def New(H:Hp)(o:HO)(Q:VK):Prop:=∀p H',aX H H'->H' p=some o->H p=none->Q (.ref p) H'
def New.at(n:New H o Q)(hp:H p=none):Q (.ref p) (upd H p o):=n p _ (au hp o) aq hp
section
variable{X:Cx}{es:List Expr}{t:TA}{pos:Pos}
def aOO(t:TA):TE:=λ σ H Q=>t σ H λ xs H1=>xs.length<=zAY/\New H1 (.tup xs) Q
def aLz(t:TA):TE:=λ σ H Q=>t σ H λ xs H1=>xs.length<=zAY/\New H1 (.lst xs) Q
def aK7{x1}(h:PA X es t):PE X (.Tuple es x1 pos) (aOO t):=by
 have h':PA X es (λ σ H Q=>∃R:List V->Hp->Prop,t σ H R/\∀xs H',R xs H'->Q xs H'):=by
  intro pos iX s σ H Q I ⟨R,q,imp⟩;exact thn (h pos iX s σ H R I q) λ us s' ⟨vs,H',I',r,q'⟩=>⟨vs,H',I',r,imp _ _ q'⟩
 exact(aND h').weaken λ σ H Q q=>⟨_,q,λ xs H' ⟨z,n⟩=>⟨z,λ p hp=>n.at hp⟩⟩
def aBG(h:PA X es t):PE X (.List es pos) (aLz t):=by
 have h':PA X es (λ σ H Q=>∃R:List V->Hp->Prop,t σ H R/\∀xs H',R xs H'->Q xs H'):=by
  intro pos iX s σ H Q I ⟨R,q,imp⟩;exact thn (h pos iX s σ H R I q) λ us s' ⟨vs,H',I',r,q'⟩=>⟨vs,H',I',r,imp _ _ q'⟩
 exact(aNI h').weaken λ σ H Q q=>⟨_,q,λ xs H' ⟨z,n⟩=>⟨z,λ p hp=>n.at hp⟩⟩
def aMN:R2:=λ x y H Q=>∃l b xs zs,x= .ref l/\y= .ref b/\H l=some (.lst xs)/\H b=some (.lst zs)/\xs.length+zs.length<=zAY/\New H (.lst (xs++zs)) Q
def aKq:OpR X (zC6 .Add) aMN:=aN3.weaken λ x y H Q ⟨l,b,xs,zs,e1,e2,h1,h2,z,n⟩=>⟨l,b,xs,zs,e1,e2,h1,h2,z,λ p hp=>n.at hp⟩
def yC:V->List V->Hp->VK->Prop:=λ x vs H Q=>∃l xs y,x= .ref l/\vs=[y]/\H l=some (.lst xs)/\xs.length<zAY/\∀H',mR l H H'->H' l=some (.lst (xs++[y]))->Q .non H'
def yP:MtM X "list.append" yC:=λ iX s σ H x xs v us Q I rx rv ⟨l,ys,y,e1,e2,h,z,n⟩=>
 aAQ iX s σ H x xs v us Q I rx rv ⟨l,ys,y,e1,e2,h,z,n _ (λ b o ne hb=>by rw[bG ne];exact hb) aq⟩
end
def bR(scope:Scope)(env:Env):List (Str×Addr):=(scope.names.filterMap λ y=>if y.2== .free then(env.cells.lookup y.1).map λ c=>(y.1,c)else none).reverse
theorem zR(env:Env):∀(names:List (Str×zDq)) (acc:List (Str×Addr)),(∀y∈names,y.2= .free->∃c,env.cells.lookup y.1=some c)->
  (forIn names acc λ(x:Str×zDq) r=>if (x.2== .free)=true then do let c <-cellOf env x.1;pure (zBh ((x.1,c)::r))else pure (zBh r):Sem (List (Str×Addr)))=
   pure ((names.filterMap λ y=>if y.2== .free then(env.cells.lookup y.1).map λ c=>(y.1,c)else none).reverse++acc)
 |[],acc,_=>rfl
 |(n,k)::r,acc,h=>by
  rw[zFq];have ih:=λ acc'=>zR env r acc' λ y hy=>h y (zAF _ hy)
  by_cases hk:k= .free
  .subst hk
   obtain⟨c,hc⟩:=h (n,.free) zAH rfl;have hc':env.cells.lookup n=some c:=hc;simp only[beq_self_eq_true,if_true,cellOf,hc',zBj,zDE,zCn,zAt,List.singleton_append];exact ih _
  .have hb:(k==zCE)=false:=by simpa using hk
   simp only[hb,zAz,if_false,zBj];exact ih _
def mO(h:∀y∈scope.names,y.2= .free->∃c,env.cells.lookup y.1=some c):zFz scope env=pure (bR scope env):=by
 have e:=zR env scope.names [] h;rw[zAe]at e;have e2:zFz scope env=((forIn scope.names ([]:List (Str×Addr)) λ(x:Str×zDq) r=>if (x.2== .free)=true then do let c <-cellOf env x.1;pure (zBh ((x.1,c)::r))else pure (zBh r):Sem (List (Str×Addr)))>>=λ r=>pure r):=rfl;rw[e2,e];rfl
def wJ(h:(bR scope env).lookup x=some c):env.cells.lookup x=some c:=by
 have hm:=zBA h;unfold bR at hm;rw[zBb,zCb]at hm;obtain⟨y,hy,e⟩:=hm;split at e
 .cases q:env.cells.lookup y.1 with
  |none=>rw[q]at e;cases e
  |some c'=>
   rw[q]at e;have e':=zAl e;injection e' with e1 e2
   subst e1 e2;exact q
 .cases e
def aDZ(hx:scope.names.lookup x=some .free)(h:env.cells.lookup x=some c):(bR scope env).lookup x=some c:=by
 have hm:(x,zCE)∈scope.names:=zBA hx
 have:(x,c)∈bR scope env:=by
  unfold bR;rw[zBb,zCb];exact⟨_,hm,by simp[h]⟩
 cases q:(bR scope env).lookup x with
 |none=>
  exact absurd this (by
   intro hm'
   have:=List.lookup_eq_none_iff.mp q _ hm'
   simp at this)
 |some c'=>
  have:=wJ q
  rw[h]at this;exact this.symm▸rfl
def wR(scope:Scope)(C:Addr):List (Str×Addr):=zEA (C+1) scope.names []
theorem nG:∀(names:List (Str×zDq)) (n:Nat) (acc:List (Str×Addr)),zEA n names acc=zEA n names []++acc
 |[],_,_=>rfl
 |(x,k)::r,n,acc=>by
  unfold zEA;split
  .rw[nG r (n+1) ((x,n)::acc),nG r (n+1) [(x,n)],zAt];rfl
  .exact nG r n acc
theorem sZ:∀{names:List (Str×zDq)} {n:Nat} {x:Str} {c:Addr},(x,c)∈zEA n names []->(x,zDX)∈names
 |(y,k)::r,n,x,c,h=>by
  unfold zEA at h;split at h
  .rename_i hk
   rw[nG,zAU]at h;rcases h with h|h
   .exact zAF _ (sZ h)
   .have e:=zAI.mp h
    cases e;rw[zEB hk];exact zAH
  .exact zAF _ (sZ h)
 |[],_,_,_,h=>by cases h
def mq{l m:List (Str×Addr)}(h:(l++m).lookup x=some c):l.lookup x=some c\/(l.lookup x=none/\m.lookup x=some c):=by
 rw[zFI]at h;cases e:l.lookup x with
 |some c'=>rw[e]at h;exact .inl h
 |none=>rw[e]at h;exact .inr ⟨rfl,h⟩
def aF9{M:Model}{A:zAk}{E:Value->zAG->Prop}{s:zAG}{scope:Scope}{globals:Addr}{cl:List (Str×Addr)}{qual:Str}{env:Env}{Q:Env->zAG->Prop}
  (h:∀h':Heap,h'.Ns s.heap.objs.size (λ _=>none)->(∀b o,s.heap.get? b=some o->h'.get? b=some o)->CellsOk h' (s.heap.objs.size+1) (wR scope s.heap.objs.size)->
   Q {scope:=scope,locals:=s.heap.objs.size,globals:=globals,cells:=wR scope s.heap.objs.size++cl,qual:=qual,func:=none,code:=env.code,frame:=env.frame,builtins:=env.builtins} {s with heap:=h'}):
  wpAny M A (zFX scope globals cl [] qual none .none (some env)) Q E s:=by
 simp only[zFX,Option.isSome_some,if_true];refine zAB (wpAny_alloc ?_);refine zAB (wpAny_layCells _ (λ name kind cells=>by cases hkc:kind==zDX<;>simp[hkc]) _ _ _ _ ?_);have ok:=cellsFrom_ok scope.names (s.heap.push {cls:=.type "dict",data:=.dict #[]}) (s.heap.objs.size+1) [] ⟨λ _ _ hm=>(nomatch hm),zFu⟩ (by rw[zBB];exact zAT _);rw[zBB]at ok;rw[show({s with heap:=s.heap.push {cls:=.type "dict",data:=.dict #[]}}:zAG).heap.objs.size=s.heap.objs.size+1 from zBB ..,nG];refine zAK ?_;exact h _ ((Heap.Ns.new s.heap (.type "dict")).keeps (pushCells_keeps _ _)) (λ b o e=>pushCells_keeps _ _ b o (zAC _ e)) ok
def Cx.block(X:Cx)(scope:Scope)(C:Addr)(N:List Str)(fp:List Addr)(z4:zAG)(zS:Hp):Cx:=
  {prog:=X.prog,w:=X.w,K:=X.K,mg:=X.mg,base:=X.base,A:=X.A,N:=N,z4:=z4,zS:=zS,env:=compEnvC scope (wR scope C++bR scope X.env) C X.env,outer:=X.stack,stack:=X.stack,ex:=fp,
    fn:=λ x=>scope.names.lookup x==some .cell,calm:=X.calm,pn:=[],xe:=λ _ _=>False}
structure fJ(X:Cx)(scope:Scope)(N:List Str)(st:St->St)(ks:List Nat):Prop where
 kind:scope.kind= .function
 sep:∀y∈scope.names,y.2= .cell->scope.names.lookup y.1=some .cell
 loc:∀y∈scope.names,y.2= .local->scope.names.lookup y.1=some .local
 free:∀y∈scope.names,y.2= .free->X.env.kindOf y.1=some .cell\/X.env.kindOf y.1=some .free
 len:∀σ,(st σ).length=N.length
 val:∀σ (i:Nat) x v,N[i]? =some x->(st σ)[i]? =some (some v)->scope.names.lookup x=some .free/\i∉ks/\∃j:Nat,X.N[j]? =some x/\σ[j]? =some (some v)
def aBD(h:(zGC scope env).names.lookup x=some .cell\/(zGC scope env).names.lookup x=some .free):scope.names.lookup x=some .free\/scope.names.lookup x=some .cell:=by
 have go:∀names:List (Str×zDq),((names.map λ(n,k)=>if (k==zCE&&env.scope.kind== .function&&env.kindOf n==some .cell)then(n,zDX)else(n,k)).lookup x=some .cell\/
   (names.map λ(n,k)=>if (k==zCE&&env.scope.kind== .function&&env.kindOf n==some .cell)then(n,zDX)else(n,k)).lookup x=some .free)->names.lookup x=some .free\/names.lookup x=some .cell:=by
  intro names;induction names with
  |nil=>intro h;simp at h
  |cons y r ih=>
   obtain⟨n,k⟩:=y;intro h;rw[zAM]at h;by_cases hx:x==n
   .rw[zBY,hx]
    show some k=some .free\/some k=some .cell;by_cases hcc:(k==zCE&&env.scope.kind== .function&&env.kindOf n==some .cell)=true
    .rw[zAN,zAN]at hcc
     rw[zEB hcc.1.1];exact .inl rfl
    .simp only[if_neg hcc,zBY,hx]at h
     exact h.elim .inr .inl
   .have hx':(x==n)=false:=by simpa using hx
    rw[zBY,hx'];refine ih ?_;by_cases hcc:(k==zCE&&env.scope.kind== .function&&env.kindOf n==some .cell)=true
    .simp only[if_pos hcc,zBY,hx']at h
     exact h
    .simp only[if_neg hcc,zBY,hx']at h
     exact h
 exact go scope.names h
def aBE(h:scope.names.lookup x=some .free):(zGC scope env).names.lookup x=some .cell\/(zGC scope env).names.lookup x=some .free:=by
 have go:∀names:List (Str×zDq),names.lookup x=some .free->((names.map λ(n,k)=>if (k==zCE&&env.scope.kind== .function&&env.kindOf n==some .cell)then(n,zDX)else(n,k)).lookup x=some .cell\/
   (names.map λ(n,k)=>if (k==zCE&&env.scope.kind== .function&&env.kindOf n==some .cell)then(n,zDX)else(n,k)).lookup x=some .free):=by
  intro names;induction names with
  |nil=>intro h;simp at h
  |cons y r ih=>
   obtain⟨n,k⟩:=y;intro h;rw[zAM];by_cases hx:x==n
   .rw[zBY,hx]at h
    have hk:k= .free:=zAl h;by_cases hcc:(k==zCE&&env.scope.kind== .function&&env.kindOf n==some .cell)=true
    .simp only[if_pos hcc,zBY,hx]
     exact .inl trivial
    .simp only[if_neg hcc,zBY,hx]
     exact .inr (by rw[hk])
   .have hx':(x==n)=false:=by simpa using hx
    rw[zBY,hx']at h;by_cases hcc:(k==zCE&&env.scope.kind== .function&&env.kindOf n==some .cell)=true
    .simp only[if_pos hcc,zBY,hx']
     exact ih h
    .simp only[if_neg hcc,zBY,hx']
     exact ih h
 exact go scope.names h
section
variable{X:Cx}{iX:hZ}{σ:St}{H:Hp}{s:zAG}
theorem Inv.block{st:St->St}{D C:Addr}(I:Inv X iX σ H s)(B:fJ X scope N st ks)
  (hfp:∀b∈fp,tD X iX H b)(hob:∀b∈fp,∃ob,s.heap.get? b=some ob)
  (hD:s.heap.objs.size<=D)(hC:s.heap.objs.size<=C)(hDC:D≠C)(keep:∀b u,s.heap.get? b=some u->h'.get? b=some u)(hns:h'.Ns C λ _=>none)(hcs:CellsOk h' (C+1) (wR scope C))(hDo:∀c,C<c->D≠c)(oQ:dX X.prog X.w (upd H D o) h' D o):
  Inv (X.block scope C N fp s H) [] (st σ) (upd H D o) {s with heap:=h',toks:=tk}:=by
 have hHD:H D=none:=I.hok.fresh hD;have hcl:∀x c,(bR scope X.env).lookup x=some c->X.env.cells.lookup x=some c:=λ x c e=>wJ e
 have hol:∀x c,(wR scope C).lookup x=some c->C<c/\h'.IsCell c none:=λ x c e=>let⟨q1,q2⟩:=hcs.empty x c (zBA e);⟨q2,q1⟩
 have hlt:∀x c,(bR scope X.env).lookup x=some c->c<s.heap.objs.size:=λ x c e=>let⟨v,ic⟩:=I.cell x c (hcl x c e);ic.lt
 have cK:∀b∈fp,b<s.heap.objs.size:=λ b hb=>by
  obtain⟨ob,e⟩:=hob b hb;exact zAV e
 refine⟨⟨I.mod,?_,I.ok.glob,I.ok.blt,hC,λ x y c e1 e2=>?_,λ x hx=>?_,λ x c hf e=>?_,I.ok.hd,I.ok.frames,.inl rfl,λ b hb=>⟨?_,λ x c e z=>?_⟩,
  I.bs,?_,λ b ob e hb=>?_,λ b hb hs=>?_,I.stack,I.stkFree⟩,rfl,I.bare,Un.laid keep hD hHD,⟨_,hns,λ i x v e1 e2 hv=>?_⟩,λ x c e=>?_,?_,λ x c e=>?_,λ p hp=>absurd (show p∈([]:hZ)from hp) (by simp),I.hok.laid keep hD oQ,B.len σ,λ p hp=>absurd (show p∈([]:hZ)from hp) (by simp)⟩
 .show(zGC scope X.env).kind= .function
  exact B.kind
 .rcases mq e1 with a1|⟨_,a1⟩<;>rcases mq e2 with a2|⟨_,a2⟩
  .exact PySem.name_of_addr hcs.apart (zBA a1) (zBA a2)
  .exact absurd (hlt y c a2) (zGY.mpr (zAn hC (zB1 (hol x c a1).1)))
  .exact absurd (hlt x c a1) (zGY.mpr (zAn hC (zB1 (hol y c a2).1)))
  .exact I.ok.inj x y c (hcl x c a1) (hcl y c a2)
 .show∃c,(wR scope C++bR scope X.env).lookup x=some c
  rw[zFI];cases e:(wR scope C).lookup x with
  |some c=>exact⟨c,rfl⟩
  |none=>
   rcases aBD hx with hfree|hcell
   .obtain⟨c,hc⟩:=I.ok.has x (B.free (x,.free) (zBA hfree) rfl)
    exact⟨c,aDZ hfree hc⟩
   .obtain⟨c,hc⟩:=uW (n:=C+1) hcell
    rw[show(wR scope C).lookup x=some c from hc]at e;cases e
 .rcases mq e with a1|⟨a0,_⟩
  .exact zAn hC (zB1 (hol x c a1).1)
  .obtain⟨c',hc'⟩:=uW (n:=C+1) (zEB hf)
   rw[show(wR scope C).lookup x=some c' from hc']at a0;cases a0
 .exact zA8 (zA4 (cK b hb) hC)
 .rcases mq e with a1|⟨_,a1⟩
  .exact absurd (cK b hb) (zGY.mpr (by rw[<-z];exact zAn hC (zB1 (hol x c a1).1)))
  .exact(hfp b hb).2.2.2.2.1 x c (hcl x c a1) z
 .exact zAn I.ok.bsz I.sz
 .rcases(hfp b hb).2.2.2.1 with z|z
  .exact I.ok.noex b ob e z
  .exact absurd (zA4 (zAV (I.ok.bs b ob e).1) z) (zBq _)
 .rcases zAL.mp (I.stkSub b hs)with z|z
  .exact(hfp b hb).2.1 z
  .exact(hfp b hb).2.2.1 z
 .obtain⟨hfree,_,j,f1,f2⟩:=B.val σ i x v e1 e2
  obtain⟨m,hn,hl⟩:=I.loc;have hk:=B.free (x,.free) (zBA hfree) rfl;obtain⟨u,ru,hu⟩:=hl j x v f1 f2 (hk.elim (λ z=>.inr (.inl z)) λ z=>.inr (.inr z));rcases hu with ⟨k,_⟩|⟨_,c,ec,ic⟩
  .rcases hk with z|z
   .exact absurd (k.symm.trans z) (by decide)
   .exact absurd (k.symm.trans z) (by decide)
  .have hno:(wR scope C).lookup x=none:=by
    cases e:(wR scope C).lookup x with
    |none=>rfl
    |some c'=>
     have:=B.sep _ (sZ (zBA e)) rfl
     rw[hfree]at this;cases this
   refine⟨u,ru,.inr ⟨?_,c,by show(wR scope C++bR scope X.env).lookup x=some c;rw[zFI,hno];exact aDZ hfree ec,ic.keeps keep⟩⟩;rcases hv with z|z|z
   .have z':(zGC scope X.env).names.lookup x=some .local:=z
    rcases aBE (env:=X.env) hfree with y|y
    .exact absurd (z'.symm.trans y) (by decide)
    .exact absurd (z'.symm.trans y) (by decide)
   .exact .inl z
   .exact .inr z
 .rcases mq e with a1|⟨_,a1⟩
  .exact⟨_,(hol x c a1).2⟩
  .obtain⟨v,ic⟩:=I.cell x c (hcl x c a1)
   exact⟨v,ic.keeps keep⟩
 .show upd H D o C=none
  rw[bG (zEG hDC)];exact I.hok.fresh hC
 .show upd H D o c=none
  rcases mq e with a1|⟨_,a1⟩
  .rw[bG (zEG (hDo c (hol x c a1).1))]
   exact I.hok.fresh (zAn hC (zB1 (hol x c a1).1))
  .obtain⟨v,ic⟩:=I.cell x c (hcl x c a1)
   rw[bG (zA8 (zA4 ic.lt hD))];exact I.freeC x c (hcl x c a1)
end
section
variable{prog:zA7}{w:World}{A:zAk}{R:zEb->zAG->Prop}{s:zAG}
def aBa(I:Nat->zAG->Prop)
  (turn:∀n s,I n s->wpAny (model prog w) A (zEz it) (λ r zI=>match r with
   |none=>R (.ok .next) zI
   |some v=>wpAny (model prog w) A (zDS target it v) (λ _ zI=>wpAny (model prog w) A (zDp target env v) (λ _ z0=>
     wpAny (model prog w) A (forIn ifs true λ c r=>if r=true then do let ok <-isTrue c env (eval c env);pure (zBh ok)else pure (zBh r)) (λ ok zC=>
      if ok=true then wpAny (model prog w) A (eval elt env) (λ x y6=>
       wpAny (model prog w) A (call (.builtin "list.append") [acc,x]) (λ _ s₅=>∃m,m<n/\I m s₅) (λ _ _=>False) y6) (λ _ _=>False) zC
      else∃m,m<n/\I m zC) (λ _ _=>False) z0) (λ _ _=>False) zI) (λ _ _=>False) zI) (λ _ _=>False) s)
  (n:Nat)(h:I n s):zCZ (model prog w) A (.compLoop (.ListComp elt [⟨target,iter,ifs,0⟩] scope pos) 0 it acc env) R s:=by
 refine codeAny_loop rfl I (λ n s hI=>?_) n h;show wpAny _ A ((compTurn (.ListComp elt [⟨target,iter,ifs,0⟩] scope pos) 0 it acc env).onRaise (λ x=>do noteFrame x env;theTreesLotGoes x)) _ _ s;refine wpAny_noted ?_;rw[compTurn_list];refine zAB (zDt (zAB (zB5 (turn n s hI) (λ r zI zD=>?_) λ _ _ h'=>h'.elim)));cases r with
 |none=>exact zAK zD
 |some v=>
  refine zAB (zB5 zD (λ _ zI zD=>?_) λ _ _ h'=>h'.elim);refine zAB (zB5 zD (λ _ z0 yT=>zAB (zB5 yT (λ ok zC yB=>?_) λ _ _ h'=>h'.elim)) λ _ _ h'=>h'.elim);cases ok with
  |false=>exact zAK ⟨rfl,yB⟩
  |true=>
   exact zAB (zAB (zB5 yB (λ x y6 h₄=>zAB (zB5 h₄ (λ _ s₅ h₅=>zAK (zAK ⟨rfl,h₅⟩)) λ _ _ h'=>h'.elim)) λ _ _ h'=>h'.elim))
end
def ug(g:TG)(ks:List Nat):Prop:=∀v σ H (Q:St->Hp->Prop),g v σ H Q->g v σ H (λ σ' H'=>Q σ' H'/\σ'.length=σ.length/\∀k,k∉ks->σ'[k]? =σ[k]?)
def zU(g:TGs)(ks:List Nat):Prop:=∀vs σ H (Q:St->Hp->Prop),g vs σ H Q->g vs σ H (λ σ' H'=>Q σ' H'/\σ'.length=σ.length/\∀k,k∉ks->σ'[k]? =σ[k]?)
def aL1(h:i∈ks):ug (qw i) ks:=λ v σ H Q q=>⟨q,zBD,λ k hk=>zBG (λ(e:i=k)=>hk (e▸h))⟩
def aL0:zU aNv ks:=λ vs σ H Q ⟨e,q⟩=>⟨e,q,rfl,λ _ _=>rfl⟩
def aDd(g:TG):Prop:=∀v σ H (Q Q':St->Hp->Prop),(∀σ' H',Q σ' H'->Q' σ' H')->g v σ H Q->g v σ H Q'
def v5(g:TGs):Prop:=∀v σ H (Q Q':St->Hp->Prop),(∀σ' H',Q σ' H'->Q' σ' H')->g v σ H Q->g v σ H Q'
def aL3:aDd (qw i):=λ v σ H Q Q' imp q=>imp _ _ q
def aL2:v5 aNv:=λ v σ H Q Q' imp ⟨e,q⟩=>⟨e,imp _ _ q⟩
def aJJ(h1:aDd t)(h2:v5 u):v5 (aJL t u):=λ vs σ H Q Q' imp ⟨v,r,e,q⟩=>⟨v,r,e,h1 _ _ _ _ _ (λ σ' H' q'=>h2 _ _ _ _ _ imp q') q⟩
def aJF(h1:ug t ks)(m1:aDd t)(h2:zU u ks)(m2:v5 u):zU (aJL t u) ks:=λ vs σ H Q ⟨v,r,e,q⟩=>
 ⟨v,r,e,m1 _ _ _ _ _ (λ σ' H' ⟨q',l',k'⟩=>m2 _ _ _ _ _ (λ σ2 H2 ⟨q2,l2,k2⟩=>⟨q2,l2.trans l',λ k hk=>(k2 k hk).trans (k' k hk)⟩) (h2 _ _ _ _ q')) (h1 _ _ _ _ q)⟩
def aNt{K:zAA}(h:zU t ks):ug (aL4 K n t) ks:=λ v σ H Q ⟨a,xs,e1,e2,e3,q⟩=>⟨a,xs,e1,e2,e3,h _ _ _ _ q⟩
def aNu{K:zAA}(h:v5 t):aDd (aL4 K n t):=λ v σ H Q Q' imp ⟨a,xs,e1,e2,e3,q⟩=>⟨a,xs,e1,e2,e3,h _ _ _ _ _ imp q⟩
def aDb(X:Cx)(ifs:List Expr)(t:TT):Prop:=
 ∀(iX:hZ) (s:zAG) (σ:St) (H:Hp) (Q:Bool->Hp->Prop),Inv X iX σ H s->t σ H Q->
  wpAny (model X.prog X.w) X.A (forIn ifs true λ c r=>if r=true then do let ok <-isTrue c X.env (eval c X.env);pure (zBh ok)else pure (zBh r)) (TP X iX σ Q) X.xe s
def aPN:TT:=λ _ H Q=>Q true H
def aNC:aDb X [] aPN:=λ _ _ _ H _ I h=>wpAny_tests_nil ⟨H,I,h⟩
def aNB(h:PT X c t):aDb X [c] t:=λ iX s σ H Q I q=>wpAny_tests_one (h iX s σ H Q I q)
def tLC(wi:TI)(st:St->St)(g:TG)(tt:TT)(te:TE):TE:=λ σ H Q=>wi σ H λ J H1=>∀l,H1 l=none->∃W:Nat->Nat->List V->Hp->Prop,(∃m,W 0 m [] (upd H1 l (.lst [])))/\
 ∀i m acc H2,W i m acc H2->H2 l=some (.lst acc)/\acc.length<zAY/\((J.stop i H2/\Q (.ref l) H2)\/(J.go i H2/\∀x H3,J.yld i H2 x H3->g x (st σ) H3 λ σ4 H4=>tt σ4 H4 λ ok H5=>
  if ok=true then te σ4 H5 λ y H6=>H6 l=some (.lst acc)/\∃m',m'<m/\W (i+1) m' (acc++[y]) (upd H6 l (.lst (acc++[y])))else∃m',m'<m/\W (i+1) m' acc H5))
section
variable{X:Cx}{elt tg iter:Expr}{ifs:List Expr}{scope:Scope}{pos:Pos}{N:List Str}{st:St->St}{ks:List Nat}{wi:TI}{g:TG}{tt:TT}{te:TE}
def aCt(B:fJ X scope N st ks)(hc:X.calm=true)(hg:∀C fp z4 zS,PG (X.block scope C N fp z4 zS) tg g)(hgo:ug g ks)(ht:∀C fp z4 zS,aDb (X.block scope C N fp z4 zS) ifs tt)
  (he:∀C fp z4 zS,PE (X.block scope C N fp z4 zS) elt te){H1:Hp}{Q:VK}{RR:Value->Addr->zEb->zAG->Prop}
  (I:Inv X iX σ H1 z0)(T:Turn X.prog X.w X.K tg J fp it tn)(h0:tn 0 z0.heap)(hfp:∀b∈fp,tD X iX H1 b)
  (h:∀l,H1 l=none->∃W:Nat->Nat->List V->Hp->Prop,(∃m,W 0 m [] (upd H1 l (.lst [])))/\
   ∀i m acc H2,W i m acc H2->H2 l=some (.lst acc)/\acc.length<zAY/\((J.stop i H2/\Q (.ref l) H2)\/(J.go i H2/\∀x H3,J.yld i H2 x H3->g x (st σ) H3 λ σ4 H4=>tt σ4 H4 λ ok H5=>
    if ok=true then te σ4 H5 λ y H6=>H6 l=some (.lst acc)/\∃m',m'<m/\W (i+1) m' (acc++[y]) (upd H6 l (.lst (acc++[y])))else∃m',m'<m/\W (i+1) m' acc H5)))
  (hRR:∀D C H' s',(∃σ',Inv (X.block scope C N fp z0 H1) [] σ' H' s')->z0.heap.objs.size<=C->Q (.ref D) H'->RR (.ref D) C (.ok .next) s'):
  wpAny (model X.prog X.w) X.A (zGB []) (λ acc zC=>wpAny (model X.prog X.w) X.A (zFX scope X.env.globals (bR scope X.env) [] X.env.qual none .none (some X.env)) (λ cenv y6=>
   zCZ (model X.prog X.w) X.A (.compStart (.ListComp elt [⟨tg,iter,ifs,0⟩] scope pos) 0 (.ref it) acc {cenv with scope:=zGC scope X.env}) (RR acc cenv.locals) y6) E zC) E z0:=by
 refine zBF (aF9 λ zD y8 y9 y7=>?_);dsimp only at y8 y9 y7 ⊢;generalize hH2:z0.heap.push {cls:=.type "list",dict:=none,data:=.seq ([]:List Value).toArray}=P2 at y8 y9 y7 ⊢;have hC:P2.objs.size=z0.heap.objs.size+1:=by rw[<-hH2,zBB]
 have hDC:z0.heap.objs.size≠P2.objs.size:=by rw[hC];exact zA8 (zBx _)
 have kK:z0.heap.objs.size<=P2.objs.size:=by rw[hC];exact zDl _
 have old:∀b o,z0.heap.get? b=some o->zD.get? b=some o:=λ b o e=>y9 b o (hH2▸zAC _ e)
 have oQ:zD.get? z0.heap.objs.size=some {cls:=.type "list",dict:=none,data:=.seq ([]:List Value).toArray}:=y9 _ _ (hH2▸zAO _ rfl);generalize hCe:P2.objs.size=C at y8 y9 y7 hDC kK hC ⊢;have hHD:H1 z0.heap.objs.size=none:=I.hok.fresh (zAT _);have I0:Inv (X.block scope C N fp z0 H1) [] (st σ) (upd H1 z0.heap.objs.size (.lst [])) {z0 with heap:=zD,toks:=z0.toks}:=
  I.block B hfp (λ b hb=>by obtain⟨o,e,_⟩:=T.obj 0 _ h0 b hb;exact⟨o,e⟩) (zAT _) kK hDC old y8 y7 (λ c hc=>zA8 (zDM kK hc)) ⟨zAj _,[],0,.nil,oQ⟩
 obtain⟨W,⟨m0,w0⟩,step⟩:=h _ hHD;have h01:tn 0 zD:=T.keep 0 _ _ h0 λ b _ o e=>old b o e
 have aI:∀{H':Hp},(∀b∈fp,H' b=none)->∀b∈fp,tD (X.block scope C N fp z0 H1) [] H' b:=λ{H'} hn b hb=>
  ⟨hn b hb,(I0.ok.exf b hb).1,I0.ok.exfs b hb,.inl hb,λ x c e=>(I0.ok.exf b hb).2 x c e,λ p hp=>absurd (show p∈([]:hZ)from hp) (by simp)⟩
 have fr0:∀b∈fp,upd H1 z0.heap.objs.size (.lst []) b=none:=λ b hb=>by
  obtain⟨o,e,_⟩:=T.obj 0 _ h0 b hb;rw[bG (zA8 (zAV e))];exact(hfp b hb).1
 have loop:∀zC:zAG,zC={z0 with heap:=zD,toks:=z0.toks}->
   zCZ (model X.prog X.w) X.A (.compLoop (.ListComp elt [⟨tg,iter,ifs,0⟩] scope pos) 0 (.ref it) (.ref z0.heap.objs.size) (X.block scope C N fp z0 H1).env) (RR (.ref z0.heap.objs.size) C) zC:=by
  rintro zC rfl;refine aBa (λ n s'=>∃i acc H2,Inv (X.block scope C N fp z0 H1) [] (st σ) H2 s'/\tn i s'.heap/\(∀b∈fp,H2 b=none)/\W i n acc H2) ?_ m0 ⟨0,[],_,I0,h01,fr0,w0⟩;rintro n s3 ⟨i,acc,H2,I2,st2,fr2,w2⟩;obtain⟨hl,hz,alt⟩:=step i n acc H2 w2;rcases alt with ⟨stop,q⟩|⟨go,nxt⟩
  .refine thn (T.done (X.block scope C N fp z0 H1) rfl rfl rfl hc i [] s3 (st σ) H2 _ I2 (aI fr2) st2 stop) λ r s4 ⟨hr,I4⟩=>?_
   subst hr;exact hRR _ C H2 s4 ⟨_,I4⟩ kK q
  .refine thn (T.item (X.block scope C N fp z0 H1) rfl rfl rfl hc i [] s3 (st σ) H2 _ I2 (aI fr2) st2 go) λ r s4 ⟨u,hr,h4⟩=>?_
   subst hr;refine thn h4 λ _ s5 ⟨x,H5,I5,r5,y5,st5,fr5⟩=>?_
   have I5':=I5.pinned (aI fr5) (T.obj _ _ st5);refine thn (hg C fp z0 H1 _ s5 (st σ) H5 x u _ I5' r5 (hgo _ _ _ _ (nxt x H5 y5))) λ _ s6 ⟨σ6,H6,I6,q6,aLH,ag6⟩=>?_
   refine thn (ht C fp z0 H1 _ s6 σ6 H6 _ I6 q6) λ ok s7 ⟨H7,I7,q7⟩=>?_
   have again:∀{H9:Hp} {s9:zAG} {acc':List V},Inv (X.block scope C N fp z0 H1) ([]++vG fp s5.heap) σ6 H9 s9->(∃m',m'<n/\W (i+1) m' acc' H9)->
     ∃m,m<n/\∃i acc H2,Inv (X.block scope C N fp z0 H1) [] (st σ) H2 s9/\tn i s9.heap/\(∀b∈fp,H2 b=none)/\W i m acc H2:=λ{H9 s9 acc'} I9 ⟨m',hm,w9⟩=>by
    have cE:∀b∈fp,∀o,s5.heap.get? b=some o->s9.heap.get? b=some o/\H9 b=none:=λ b hb o e=>by
     have z:=I9.pin (b,o) (zA5 _ (zA5 _ (nu hb e)));exact⟨z.1,z.2.1⟩
    refine⟨m',hm,i+1,acc',H9,I9.unpinned.weak (by rw[aLH]) (λ k v e=>?_),T.keep _ _ _ st5 λ b hb o e=>(cE b hb o e).1,λ b hb=>?_,w9⟩
    .have hk:k<(st σ).length:=(zAJ.mp e).1
     have hkN:k<N.length:=by rw[<-B.len σ];exact hk
     obtain⟨_,hks,_⟩:=B.val σ k _ v (zAD hkN) e;rw[ag6 k hks];exact e
    .obtain⟨o,e,_⟩:=T.obj _ _ st5 b hb
     exact(cE b hb o e).2
   cases ok with
   |false=>
    rw[if_neg zAX]at q7 ⊢;exact again I7 q7
   |true=>
    rw[if_pos rfl]at q7 ⊢;refine thn (he C fp z0 H1 _ s7 σ6 H7 _ I7 q7) λ u8 s8 ⟨y,H8,I8,r8,hl8,q8⟩=>?_
    refine thn (aAQ _ s8 σ6 H8 (.ref z0.heap.objs.size) [y] (.ref z0.heap.objs.size) [u8] (λ _ H9=>H9=upd H8 z0.heap.objs.size (.lst (acc++[y]))) I8 rfl (.cons r8 .nil) ⟨_,acc,y,rfl,rfl,hl8,hz,rfl⟩) λ _ s9 ⟨_,H9,I9,_,e9⟩=>?_
    subst e9;exact again I9 q8
 exact codeAny_compStart_list (loop _ rfl) (T.self X.A 0 _ _ _ h01 (loop _ rfl))
def aBk(I:Inv X iX σ H1 z0)(hfp:∀b∈fp,tD X iX H1 b)(h:∃σ',Inv (X.block scope C N fp z0 H1) [] σ' H' s'):Inv X iX σ H' s':=by
 obtain⟨σ',J⟩:=h;exact I.call' (ch:=fp) J.os J.base J.hok J.bare λ b hb=>⟨(hfp b hb).2.2.2.1,(hfp b hb).2.1,(hfp b hb).2.2.2.2.1,(hfp b hb).2.2.2.2.2⟩
def aOb(B:fJ X scope N st ks)(hc:X.calm=true)(hi:PI X tg iter wi)(hg:∀C fp z4 zS,PG (X.block scope C N fp z4 zS) tg g)(hgo:ug g ks)(ht:∀C fp z4 zS,aDb (X.block scope C N fp z4 zS) ifs tt)
  (he:∀C fp z4 zS,PE (X.block scope C N fp z4 zS) elt te)(hs:∀x,zBs iter X.env x=pure x:=by intro _;rfl):PE X (.ListComp elt [⟨tg,iter,ifs,0⟩] scope pos) (tLC wi st g tt te):=by
 intro iX s σ H Q I h;have hcl:zFz scope X.env=pure (bR scope X.env):=mO λ y hy hk=>I.ok.has _ (B.free y hy hk)
 rw[eval_ListComp];refine zEZ (use:=none) rfl hs hcl B.kind B.loc (thn (hi iX s σ H _ I h) λ v s1 h1=>thn h1 λ itv s2 h2=>?_);obtain⟨it,fp,tn,J,H2,e,I2,T,st2,f2,hq⟩:=h2;subst e;refine aCt (RR:=λ acc C=>compPost (model X.prog X.w) X.A X.xe none (EP X iX σ Q) acc C) B hc hg hgo ht he I2 T st2 f2 hq ?_;intro D C H' s' hJ kK q;have I3:=aBk I2 f2 hJ;obtain⟨σ',J'⟩:=hJ;obtain⟨m,hn,_⟩:=id J'.loc;have hHC:H' C=none:=J'.free;refine⟨m,hn,λ h'' hs''=>⟨.ref D,H',?_,rfl,q⟩⟩;exact I3.turned (t':=s'.toks) (λ b o ne e=>(hs''.2 b ne).trans e) hHC (zCM (zA4 I2.lt kK)) (.inr (zAn I2.sz kK))
  (λ x c e z=>by obtain⟨v,ic⟩:=I2.cell x c e;exact absurd (zA4 ic.lt (by rw[z];exact kK)) (zBq _))
  (λ p hp z=>absurd (zA4 (I2.pinL hp) (by rw[z];exact kK)) (zBq _))
def aCX(hN:X.N.Nodup)(hx1:X.N[i]? =some x)(hx2:Loc X.env.scope x)(B:fJ X scope N st ks)(hc:X.calm=true)(hi:PI X tg iter wi)(hg:∀C fp z4 zS,PG (X.block scope C N fp z4 zS) tg g)(hgo:ug g ks)
  (ht:∀C fp z4 zS,aDb (X.block scope C N fp z4 zS) ifs tt)(he:∀C fp z4 zS,PE (X.block scope C N fp z4 zS) elt te)(hsw:zCd (.ListComp elt [⟨tg,iter,ifs,0⟩] scope pos) (some (.Name x pos')) spos.line X.env=pure true)
  (hs:∀x,zBs iter X.env x=pure x:=by intro _;rfl)(hf:X.fn x=true\/X.env.scope.names.lookup x=some .local:=by first|exact .inl rfl|exact .inr rfl|assumption):
  PS X (.Assign [.Name x pos'] (.ListComp elt [⟨tg,iter,ifs,0⟩] scope pos) spos) (aDl (tLC wi st g tt te) (qw i)):=by
 intro iX s σ H D I h;have hcl:zFz scope X.env=pure (bR scope X.env):=mO λ y hy hk=>I.ok.has _ (B.free y hy hk)
 rw[zIH _ _ _ _ hsw];refine zAB (zDt (zAB ?_));show wpAny _ _ (do let _ <-comprehension (.ListComp elt [⟨tg,iter,ifs,0⟩] scope pos) scope X.env _ (zGB []) false (eval iter X.env) (some (zDp (.Name x pos') X.env))) _ _ s;refine zAB (zB5 (zEZ (use:=some (zDp (.Name x pos') X.env)) (Q:=λ _ s'=>SP X iX D .next s') rfl hs hcl B.kind B.loc (thn (hi iX s σ H _ I h) λ v s1 h1=>thn h1 λ itv s2 h2=>?_)) (λ _ s' hq=>zAK (zAK hq)) λ _ _ e=>e);obtain⟨it,fp,tn,J,H2,e,I2,T,st2,f2,hq⟩:=h2;subst e;refine aCt (Q:=λ x H1=>qw i x σ H1 D.nx) (RR:=λ acc C=>compPost (model X.prog X.w) X.A X.xe (some (zDp (.Name x pos') X.env)) (λ _ s'=>SP X iX D .next s') acc C) B hc hg hgo ht he I2 T st2 f2 hq ?_;intro DD C H' s' hJ kK q;have I3:=aBk I2 f2 hJ;obtain⟨σ',J'⟩:=hJ;obtain⟨m,hn,_⟩:=id J'.loc;have hHC:H' C=none:=J'.free;have neL:C≠X.env.locals:=zCM (zA4 I2.lt kK);have neC:∀x c,X.env.cells.lookup x=some c->c≠C:=λ x c e z=>by obtain⟨v,ic⟩:=I2.cell x c e;exact absurd (zA4 ic.lt (by rw[z];exact kK)) (zBq _)
 show wpAny _ _ (zDp (.Name x pos') X.env (.ref DD)) _ _ _;refine zGF ?_;refine uo I3 hN hx1 hx2 (show RelV (.ref DD) (.ref DD)from rfl) (λ s4 I4 ⟨a,hsa,ha⟩=>?_) hf;have nea:C≠a:=by
  rcases ha with z|z
  .rw[z];exact neL
  .exact zEG (neC _ _ z)
 refine⟨m,hn.sameBut hsa nea,λ h'' hs''=>⟨_,H',?_,q⟩⟩;exact I4.turned (t':=s4.toks) (λ b o ne e=>(hs''.2 b ne).trans e) hHC neL (.inr (zAn I2.sz kK)) neC
  (λ p hp z=>absurd (zA4 (I2.pinL hp) (by rw[z];exact kK)) (zBq _))
end
def CX1(P:zA7)(w:World):CXT:=λ outer H s E e s'=>∃(ea:Addr) (cls a0:Value) (B:Heap) (H':Hp),e= .ref ea/\s'.os=s.os/\zEu s'.gens/\Un (frs outer) [] H H' s.heap s'.heap/\HOk P w H' B/\Heap.FlyingW B outer ea cls a0 s'.heap/\
 (∀b o,s.heap.get? b=some o->H b=none->b∉frs outer->B.get? b=some o)/\(∀b o,s.heap.get? b=some o->b∉frs outer->∃o',B.get? b=some o')/\E cls none H'
structure lF(X:Cx)(E:XK):Prop where
 stk:X.stack=X.env::X.outer
 fr:X.env.frame=some X.env.locals
 ex:X.ex=[]
 xe:X.xe=λ e s'=>wpAny (model X.prog X.w) X.A (leaving X.env e) (λ _ s''=>CX1 X.prog X.w X.outer X.zS X.z4 E e s'') (λ e' s''=>CX1 X.prog X.w X.outer X.zS X.z4 E e' s'') s'
def lF.of{K:zAA}:
  lF (aDV (CX1 P w) P w K mg base N qual scope f cd A outer z4 zS E) E:=⟨rfl,rfl,rfl,rfl⟩
section
variable{X:Cx}{E:XK}
def aJO{B h':Heap}(hX:X.ex=[])(I:Inv X iX σ H s)
  (a1:∀b o,s.heap.get? b=some o->H b=none->b∉frs X.stack->B.get? b=some o)(a2:∀b o,s.heap.get? b=some o->b∉frs X.stack->∃o',B.get? b=some o')
  (a3:B.StaysIn h')(a4:∀b o,b∈frs X.outer->s.heap.get? b=some o->H b=none->(∀vs,o.data≠.fields vs)->∃sl,h'.get? b=some {o with slots:=sl})
  (a5:∀b o,s.heap.get? b=some o->H b=none->H' b=none)(a6:∀b xs,H b=some (.tup xs)->H' b=some (.tup xs))(a7:∀b o u,H b=some (.frz o u)->H' b=some (.frz o u))(a8:∀b ps,H b=some (.tbl ps)->∃more,H' b=some (.tbl (ps++more))):
  Un (frs X.outer) [] X.zS H' X.z4.heap h'/\(∀b o,X.z4.heap.get? b=some o->X.zS b=none->b∉frs X.outer->B.get? b=some o)/\(∀b o,X.z4.heap.get? b=some o->b∉frs X.outer->∃o',B.get? b=some o'):=by
 have nx:∀b,b∉X.ex:=λ b z=>by rw[hX]at z;cases z
 have noS:∀b o,X.z4.heap.get? b=some o->b∉frs X.outer->b∉frs X.stack:=λ b o e nf hb=>by
  rcases zAL.mp (I.stkSub b hb)with z|z
  .exact absurd z (zA8 (zA4 (zAV e) I.ok.above))
  .exact nf z
 have bk:∀b o,X.z4.heap.get? b=some o->X.zS b=none->b∉frs X.outer->B.get? b=some o:=λ b o e n nf=>
  a1 b o (I.base.keep b o e n nf (nx b)) (I.base.free b o e n (nx b)) (noS b o e nf)
 have ba:∀b o,X.z4.heap.get? b=some o->b∉frs X.outer->∃o',B.get? b=some o':=λ b o e nf=>by
  obtain⟨o1,e1⟩:=I.base.there b o e (nx b);exact a2 b o1 e1 (noS b o e nf)
 have sl:∀b o,X.z4.heap.get? b=some o->X.zS b=none->b∈frs X.outer->∃sl,h'.get? b=some {o with slots:=sl}:=λ b o e n hb=>by
  obtain⟨sl1,e1⟩:=I.base.slot b o e n hb (nx b);obtain⟨_,o2,ho2,hnf⟩:=I.ok.funs.mem hb;rw[e]at ho2;cases ho2;obtain⟨sl2,e2⟩:=a4 b _ hb e1 (I.base.free b o e n (nx b)) hnf;exact⟨sl2,e2⟩
 refine⟨⟨λ b o e n nf _=>a3 b o (bk b o e n nf),λ b o e n hb _=>sl b o e n hb,λ b o e n _=>?_,λ b o e _=>?_,λ b xs e=>a6 b xs (I.base.tups b xs e),λ b o u e=>a7 b o u (I.base.frzs b o u e),λ b ps e=>?_⟩,bk,ba⟩
 .obtain⟨o1,e1⟩:=I.base.there b o e (nx b)
  exact a5 b o1 e1 (I.base.free b o e n (nx b))
 .by_cases hb:b∈frs X.outer
  .obtain⟨s2,e2⟩:=sl b o e (I.ok.frf b hb) hb
   exact⟨_,e2⟩
  .obtain⟨o',e'⟩:=ba b o e hb
   exact⟨o',a3 b o' e'⟩
 .obtain⟨m1,e1⟩:=I.base.tbls b ps e
  obtain⟨m2,e2⟩:=a8 b _ e1;exact⟨m1++m2,by rw[e2,zHE]⟩
def lF.pass(D:lF X E):aBr (CX1 X.prog X.w) X E:=by
 intro iX σ H s e s' I h;obtain⟨ea,cls,a0,B,H',rfl,os,bare,un,hok,fly,bk,ba,hE⟩:=h;rw[D.xe];have fly':=fly;rw[D.stk]at fly';have hfr:=I.ok.frames;rw[D.stk]at hfr;refine wpAny_leaves_onW (L:=X.env.locals) hfr D.fr fly' λ h' fl up=>?_
 have a4:∀b o,b∈frs X.outer->s.heap.get? b=some o->H b=none->(∀vs,o.data≠.fields vs)->∃sl,h'.get? b=some {o with slots:=sl}:=λ b o hb e n nf=>by
  have hb':b∈frs X.stack:=by
   rw[D.stk];unfold frs;rw[zBj,D.fr];exact zAF _ hb
  obtain⟨s1,e1⟩:=un.slot b o e n hb' (λ z=>nomatch z);obtain⟨s2,e2⟩:=up b _ e1 nf;exact⟨s2,e2⟩
 obtain⟨u1,u2,u3⟩:=aJO (B:=B) (h':=h') (H':=H') D.ex I bk ba fl.1 a4 (λ b o e n=>un.free b o e n (λ z=>nomatch z)) un.tups un.frzs un.tbls;exact⟨ea,cls,a0,B,H',rfl,os.trans I.os,bare,u1,hok,fl,u2,u3,hE⟩
def lF.raise(D:lF X E){ea:Addr}(I:Inv X iX σ H s)
  (hx:Heap.MadeExcOf s.heap h1 ea cls vs)(hE:E cls none H):X.xe (.ref ea) {s with heap:=h1}:=by
 rw[D.xe];have stk:s.heap.FunFrames X.base X.stack:=I.stack;have hin:∀env∈X.stack,∀a,env.frame=some a->a∈frs X.stack:=λ env he a ha=>zCb.mpr ⟨env,he,ha⟩
 have stk2:=PySem.W.funFrames_hide stk hin;have hfr:=I.ok.frames;rw[D.stk]at hfr;have stk3:s.heap.FunFrames (zD5 s.heap (frs X.stack)) (X.env::X.outer):=by rw[<-D.stk];exact stk2
 refine wpAny_leaves_madeW (L:=X.env.locals) (base:=zD5 s.heap (frs X.stack)) hfr D.fr (λ b o q=>zGo _ q) stk3 hx λ h' t fl tup bn up=>?_
 have hok:HOk X.prog X.w H (zD5 s.heap (frs X.stack)):=λ a o e=>by
  refine(I.hok a o e).stay (λ b u hb q=>zD6 _ q λ hm=>?_) (λ _ z=>z) λ _ _ z=>z
  have hn:=I.stkFree b hm;rcases hb with z|z
  .rw[z,e]at hn;cases hn
  .rw[z]at hn;cases hn
 obtain⟨u1,u2,u3⟩:=aJO (B:=zD5 s.heap (frs X.stack)) (h':=h') (H':=H) D.ex I (λ b o e n nf=>zD6 _ e nf) (λ b o e nf=>⟨o,zD6 _ e nf⟩) fl.1
  (λ b o hb e n nf=>up b o (hx.keeps b o e) nf) (λ b o e n=>n) (λ _ _ e=>e) (λ _ _ _ e=>e) (λ b ps e=>⟨#[],by rw[e];simp⟩)
 exact⟨ea,cls,.ref t,_,H,rfl,I.os,I.bare,u1,hok,fl,u2,u3,hE⟩
def lF.own(D:lF X E):zIB (model X.prog X.w) X.A X.env X.xe:=λ e s' h=>by
 rw[D.xe]at h ⊢;exact wpAny_leaving_again (SameStack.refl _) h
end
section
variable{P:zA7}{w:World}{K:zAA}{mg:Str->Option Value}{base:Heap}
def Fun.okX{st:Stmt}(F:Fun K x q st f fd)(S:aV N ps (aN st))(len:∀vs H Q E,sp vs H Q E->vs.length=ps.length)
  (hbody:∀(cdv:Value) (A:zAk) (outer:List Env) (s:zAG) (H:Hp) (vs:List V) (Q:VK) (E:XK),lG k (A.deeper (zEc q (aN st) s.heap.objs.size f cdv))->sp vs H Q E->
   ∃t,PSs (aDV (CX1 P w) P w K mg base N q (aN st) f cdv A outer s H E) (jO st) t/\t {nx:=λ _ H'=>Q .non H',rt:=Q} (start N vs) H):bw P w K mg base (CX1 P w) (k+1) f fd ps sp:=by
 obtain⟨oc,od,kV,doc,pm,an,cdv,ct,osl,rfl,lk,hcd⟩:=F.ex;exact aOx lk hcd S len λ A outer s H vs Q E hr hsp=>hbody cdv A outer s H vs Q E hr hsp
end
def mQ(K:zAA)(C:Addr):Prop:=zID K C [.type "ValueError",.type "Exception",.type "BaseException",.type "object"] "ValueError.__new__"=true
def aBI{K:zAA}(X:K.In h)(hm:mg x=some (.ref C))(q:mQ K C):OwnCls x C [.type "ValueError",.type "Exception",.type "BaseException",.type "object"] "ValueError.__new__" mg h:=by
 refine⟨hm,?_⟩;unfold mQ zID at q;split at q
 .rename_i dd cd sl ho
  split at q
  .rename_i C' bm k0 k1 k2 k3 n k5 hm' hs
   simp only[zAN,beq_iff_eq,zCA]at q;obtain⟨⟨⟨⟨⟨rfl,rfl⟩,hdel⟩,ht⟩,hok⟩,hni⟩:=q;obtain⟨nm,bs,mro,ns,qn,hd,sn,sub,ab,col,del⟩:=cd;dsimp only at hm' hdel hok hni;subst hm' hdel;have hsl:sl=#[k0,k1,k2,k3,some (.builtin "ValueError.__new__"),k5]:=by
    obtain⟨l⟩:=sl;simp only at hs;rw[hs]
   subst hsl;exact⟨bm,ns,nm,qn,bs,hd,sn,sub,ab,col,dd,k0,k1,k2,k3,k5,_,X _ _ ho,.of_isNs (PySem.W.isNs_of_in X hok),PySem.W.nsMap_none_of_in X hok hni,PySem.W.tail_of_in X ht⟩
  .cases q
 .cases q
def aM8(C:Addr)(E:XK)(ta:TA):TS:=λ _ σ H=>ta σ H λ vs H1=>vs.length<=zAY/\E (.ref C) none H1
section
variable{X:Cx}{E:XK}
def aIJ(D:lF X E)(hc:X.calm=true){rest:List Expr}(hm:X.mg x=some (.ref C))(hC:mQ X.K C)(hg:Gl X x)
  (ha:PA X (y3::rest) ta)(he:zA1 (y3::rest) X.env=(false,eval y3 X.env)::zA1 rest X.env:=by rfl)
  (hplain:(zCo cpos (zA1 rest X.env)).any (·.1)=false:=by rfl)(hd:Nd x:=by decide):
  PS X (.Raise (some (.Call (.Name x np) (y3::rest) [] cpos)) none pos) (aM8 C E ta):=by
 intro iX s σ H DD I h;obtain⟨tl,NN,nm,q,bs,hdct,sn,sub,ab,col,dd,k0,k1,k2,k3,k5,mN,hCo,hN,hni,T⟩:=(aBI (h:=X.base) I.mod.kin hm hC).obj;have FB:=PySem.F.excBase_ValueError;refine wpAny_Raise_call_subU (C:=C) (nm:=nm) (q:=q) (N:=NN) (bs:=bs) (bm:=tl) (hdct:=hdct) (sn:=sn) (sub:=sub) (ab:=ab) (col:=col) (dd:=dd) (k0:=k0) (k1:=k1) (k2:=k2) (k3:=k3) (k5:=k5)
  FB FB.hasB FB (mN:=mN) (T.hasType FB.hasBase) (I.ok.hd hc) (by rw[he];show(false||(zCo cpos (zA1 rest X.env)).any (·.1))=false;rw[hplain];rfl) hni
  (aBT I hg hm ⟨rfl,?_⟩ hd)
 have harg:=ha cpos iX s σ H _ I h;rw[he]at harg ⊢;refine zGf (zB5 harg (λ vs z0 yT=>?_) λ _ _ y=>y);obtain⟨xs,H2,I2,rv,hz,hE⟩:=yT;refine⟨rfl,by show vs.length<=zAY;rw[<-rv.length];exact hz,I2.bk _ _ hCo,hN.keeps I2.bk,T.keeps I2.bk,λ h' ea hx=>D.raise I2 hx hE⟩
end
section
variable{κ:Type}[DecidableEq κ]
end
end L2
namespace Att
open PySem PySem.W PySem.Calls PyProof.Rows
end Att
namespace L2
open PySem PySem.Spec PyProof.Rows
section
variable{κ:Type}[DecidableEq κ]
end
section
variable{X:Cx}
structure aPI(X:Cx)(P:Addr):Prop where
 ta:∃o,X.ta=[(P,o)]
 ex:P∈X.ex
 tq:X.tq=X.env.qual++"<lambda>"
 code:∃c,X.env.code= .ref c/\PySem.W.CodeHd X.base c P
 blt:X.base.BuiltinsAt X.mg P
 gne:zAh≠P
end
abbrev bmV:List Value:=[.type "ValueError",.type "Exception",.type "BaseException",.type "object"]
section
variable{prog:zA7}{w:World}{A:zAk}{E:Value->zAG->Prop}{h:Heap}{g:Array zDc}{d:Drawn}{t:Nat}{os:OsState}{a:Addr}{o:Obj}
 {nm q:Str}{C N:Addr}{bs bm:List Value}{hdct:Bool}{sn:List Str}{sub:List Value}{ab:Bool}{col:Option Bool}{dd:Option Addr}{k0 k1 k2 k3 k5:Option Value}{newId:String}{K:zAA}
def aDY{R:zEb->zAG->Prop}(hC:h.get? C=some (zG7 nm q C N bs bm hdct sn sub ab col dd k0 k1 k2 k3 k5 newId))(T:OwnTail h bmV bm)
  (hx:h.get? a=some o)(hc:o.cls= .ref C)(hq:R (.ok (.ret (.ref C))) ⟨h,g,d,t,os⟩):
  zCZ (model prog w) A (.call (.builtin "getset_descriptor.__get__") ⟨[.builtin "object.__class__",.ref a,.ref C],[]⟩) R ⟨h,g,d,t,os⟩:=by
 have hT5:(⟨h,g,d,t,os⟩:zAG).TypeIs (.builtin "object.__class__") "getset_descriptor":=zEg;have hcB:(zBr C::bm).contains (.type (".".intercalate ("object.__class__".cutAt '.').dropLast))=true:=by
  rw[F.owner_object_class,zHM,T.hasType (X:="object") (b:=true) (by decide+kernel)];rfl
 refine zFS zGr.plain F.entry_gs_get (zGr.check _ _ _ _ _ _ _ _ hT5 (F.args_gs_get _ _ _) ?_)
 repeat (any_goals (first|assumption|(with_reducible refine zD9 hx ?_;rw[hc])|(with_reducible refine zI3 hC ?_;rw[hcB])|wp_step))
 refine⟨zHK _ (by decide+kernel),zCI F.entry_object_class ?_⟩
 repeat (any_goals (first|assumption|(with_reducible refine zD9 hx ?_;rw[hc])|wp_step))
def aBd{M:Model}{nameV:Value}{Q:Unit->zAG->Prop}(hC:h.get? C=some (zG7 nm q C N bs bm hdct sn sub ab col dd k0 k1 k2 k3 k5 newId))(T:OwnTail h bmV bm)
  (hx:h.get? a=some o)(hc:o.cls= .ref C)(hq:Q () ⟨h,g,d,t,os⟩):wpAny M A (zGT "BaseException.__getattribute__" ⟨[.ref a,nameV],[]⟩) Q E ⟨h,g,d,t,os⟩:=by
 have hk:builtinKind "BaseException.__getattribute__"=some .slot:=by decide+kernel
 have dP:splitId "BaseException.__getattribute__"=some ("BaseException","__getattribute__"):=by decide+kernel
 have hcB:(zBr C::bm).contains (.type "BaseException")=true:=by rw[zHM,T.hasType (X:="BaseException") (b:=true) (by decide+kernel)];rfl
 have ha:=F.args_bexc_ga (.ref a) nameV;simp only[zGT,hk,dP];refine zAB ?_
 .unfold isInstance
  repeat (first|(with_reducible refine zD9 hx ?_;rw[hc])|(with_reducible refine zI3 hC ?_;rw[hcB])|wp_step)
  exact hq
def zx{tk:Tok}{Q:Fin->zAG->Prop}(hC:h.get? C=some (zG7 nm q C N bs bm hdct sn sub ab col dd k0 k1 k2 k3 k5 newId))(T:OwnTail h bmV bm)(lk:∀M:Model,zEj M h (zFO (.ref C) "__class__") (some (.builtin "object.__class__")))
  (hx:h.get? a=some o)(hc:o.cls= .ref C)(hq:Q (.done (.ret (.ref C))) ⟨h,g,d,t,os⟩):
  wpAny (model prog w) A (zDP.«object.__getattribute__» ⟨[.ref a,.str "__class__" tk],[]⟩) Q E ⟨h,g,d,t,os⟩:=by
 have hT5:(⟨h,g,d,t,os⟩:zAG).TypeIs (.builtin "object.__class__") "getset_descriptor":=zEg;have f5:=zEg;have f6:=zGr.lookup;have f7:=F.slot_gs_set.lookup
 repeat (any_goals (first|assumption|(with_reducible refine zD9 hx ?_;rw[hc])|with_reducible refine(lk _).here ?_|wp_step))
 refine aDY hC T hx hc ?_
 repeat (any_goals (first|assumption|wp_step))
def aBc{Q:Option Value->zAG->Prop}(hC:h.get? C=some (zG7 nm q C N bs bm hdct sn sub ab col dd k0 k1 k2 k3 k5 newId))(T:OwnTail h bmV bm)(lk:∀M:Model,zEj M h (zFO (.ref C) "__class__") (some (.builtin "object.__class__")))
  (lg:∀M:Model,zEj M h (zFO (.ref C) "__getattribute__") (some (.builtin "BaseException.__getattribute__")))(ln:∀M:Model,zEj M h (zFO (.ref C) "__getattr__") none)
  (hx:h.get? a=some o)(hc:o.cls= .ref C)(hq:Q (some (.ref C)) ⟨h,g,d,t+1,os⟩):wpAny (model prog w) A (getAttr? (.ref a) "__class__") Q E ⟨h,g,d,t,os⟩:=by
 have by_exc:∀{E:Value->zAG->Prop} {t:Nat} {tk:Tok} {Q:Value->zAG->Prop},Q (.ref C) ⟨h,g,d,t,os⟩->wpAny (model prog w) A (getAttrBy (.ref a) (.str "__class__" tk) false) Q E ⟨h,g,d,t,os⟩:=by
  intro E t tk Q hq;have FB:=PySem.F.excAttr_ValueError;have f3:=FB.ga.bind (.ref a);have hx0:(false&&onTheHeap (zEN "BaseException.__getattribute__"))=false:=rfl;have hx2:(zEN "BaseException.__getattribute__"==zEN "object.__getattribute__")=false:=by decide+kernel
  have hx1:(onTheHeap (zBr C)&&zEN "BaseException.__getattribute__"==zEN "object.__getattribute__")=false:=by rw[hx2];rfl
  repeat (any_goals (first|assumption|(with_reducible refine zD9 hx ?_;rw[hc])|with_reducible refine(lg _).here ?_|with_reducible refine(ln _).here ?_|wp_step))
  refine zFS FB.ga.plain F.entry_bexc_ga (aBd hC T hx hc (zx hC T lk hx hc ?_))
  repeat (any_goals (first|assumption|wp_step))
 unfold getAttr? getAttrBy?
 repeat (any_goals (first|assumption|with_reducible apply by_exc|wp_step))
def aIl(hE:mQ K C)(ha:zB3 K (.ref C) "__class__"=some (some (.builtin "object.__class__")))(hgt:zB3 K (.ref C) "__getattribute__"=some (some (.builtin "BaseException.__getattribute__")))
  (hga:zB3 K (.ref C) "__getattr__"=some none):PySem.W.KitX K (.ref a) (.ref C) (λ h=>∃o,h.get? a=some o/\o.cls= .ref C) where
 ty:=λ M h _ ⟨o,h1,h2⟩=>h2▸(zIp h1).andThen .now
 it:=λ M h X _=>by
  obtain⟨bm,NN,nm,q,bs,hdct,sn,sub,ab,col,dd,k0,k1,k2,k3,k5,mN,hC,_⟩:=(aBI (h:=h) (mg:=λ _=>some (.ref C)) (x:="x") X rfl hE).obj;intro A' Q' E' s' k q;unfold isType loadHead;exact zAB (wpAny_loadPart (k _ _ hC) (zAK q))
 ne:=λ h tp dd its n sl X htp=>by
  obtain⟨bm,NN,nm,q,bs,hdct,sn,sub,ab,col,dd,k0,k1,k2,k3,k5,mN,hC,_⟩:=(aBI (h:=h) (mg:=λ _=>some (.ref C)) (x:="x") X rfl hE).obj;refine Bool.eq_false_iff.mpr λ z=>?_
  have e:C=tp:=Value.ref.inj (beq_iff_eq.mp z);subst e;rw[hC]at htp;exact absurd (congrArg Obj.cls (zAl htp)) (by show zCz "type"≠zCz "tuple";decide+kernel)
 ca:=λ{prog w A E Q s} X ⟨o,h1,h2⟩ k=>by
  obtain⟨h,g,d,t,os⟩:=s;obtain⟨bm,NN,nm,q,bs,hdct,sn,sub,ab,col,dd,k0,k1,k2,k3,k5,mN,hC,hN,hni,T⟩:=(aBI (h:=h) (mg:=λ _=>some (.ref C)) (x:="x") X rfl hE).obj;exact aBc hC T (λ M=>zDY X ha) (λ M=>zDY X hgt) (λ M=>zDY X hga) h1 h2 k
end
def excφ(a C:Addr):Heap->Prop:=λ h=>∃o,h.get? a=some o/\o.cls= .ref C
structure aP9(K:zAA)(C:Addr):Prop where
 ex:mQ K C
 ca:zB3 K (.ref C) "__class__"=some (some (.builtin "object.__class__"))
 gt:zB3 K (.ref C) "__getattribute__"=some (some (.builtin "BaseException.__getattribute__"))
 ga:zB3 K (.ref C) "__getattr__"=some none
section
variable{X:Cx}
def aMK(K:zAA):List V->Hp->VK->Prop:=λ xs H Q=>∃a C y c b,xs=[.ref a,y]/\RelV y c/\H a=some (.ext (excφ a C))/\aP9 K C/\zDn K (.ref C) c=some b/\Q (.bl b) H
def aHK:cX X (.builtin "isinstance") (aMK X.K):=by
 intro iX s σ H xs us Q I r h;obtain⟨a,C,y,c,b,rfl,ry,ha,kc,e,q⟩:=h;obtain⟨u,w',rfl,r1,r2⟩:=vals2 r;cases r1;have hc:w'=c:=by
  cases y<;>first
   |(cases r2;cases ry;rfl)
   |(obtain⟨t1,rfl⟩:=r2;obtain⟨t2,rfl⟩:=ry;exact absurd e (by simp[zDn,PySem.W.kitCls]))
 subst hc;obtain⟨p,_⟩:excφ a C s.heap/\_:=I.hok a _ ha;exact zBN (aIl kc.ex kc.ca kc.gt kc.ga) I.kIn p e (λ z=>nomatch z) λ tk=>⟨.bl b,H,I.tok tk,rfl,q⟩
end
structure aPF(k:Nat)(A:zAk):Prop where
 dp:A.depth+3*k+5<zHC
 un:A.units+16*k+200<cLine
structure FnH(P:zA7)(w:World)(K:zAA)(mg:Str->Option Value)(base:Heap)(k:Nat)(f:Addr)(fd:zAd)(ps:List Str)(sp:Sp):Prop where
 len:∀vs H Q E,sp vs H Q E->vs.length=ps.length
 run:∀(A:zAk) (outer:List Env) (s:zAG) (H:Hp) (args:Args) (us:List Value) (vs:List V) (Q:VK) (E:XK),aPF k A->aJp P w K mg base A outer s H->zFt s fd args (ps.zip us)->Vals vs us->sp vs H Q E->
  zCZ (model P w) A (.call (.ref f) args) (CR CX0 outer P w H s Q E) s
mutual
def eqD:D->D->Bool
 | .non,.non=>true
 | .bl a,.bl b=>a==b
 | .bl a,.int b=>(if a then 1 else 0)==b
 | .int a,.bl b=>a==(if b then 1 else 0)
 | .int a,.int b=>a==b
 | .str a,.str b=>a==b
 | .tup l,.tup m=>jU l m
 | .lst l,.lst m=>jU l m
 |_,_=>false
def jU:List D->List D->Bool
 |[],[]=>true
 |x::xs,y::ys=>eqD x y&&jU xs ys
 |_,_=>false
end
mutual
def lB:D->Nat
 | .tup l=>dC l+1
 | .lst l=>dC l+1
 |_=>0
def dC:List D->Nat
 |[]=>0
 |d::r=>max (lB d) (dC r)
end
mutual
def bC:D->Bool
 | .tup l=>bD l
 | .lst l=>bD l
 | .dct=>false
 |_=>true
def bD:List D->Bool
 |[]=>true
 |d::r=>bC d&&bD r
end
section
def inD(d:D)(es:List D):Bool:=es.any λ e=>eqD e d
end
def aPT(K:zAA)(c:V):TE:=tCB (aMK K) (je (xO 0) (je (tC c) oZ))
section
variable{X:Cx}{n0 n1 n2 odd:Str}{c1 c2:V}{k1 k2 k3 k4:List V}{l1 l2:List Str}{a1 a2:Expr}{as1 as2 e1 e2 e3 e4 w1 w2:List Expr}{kw1 kw2:List zCj}{Q:VK}{H:Hp}{vs:List V}
 {p1 p2 p3 p4 p5 p6 p7 p8 p9 p10 p11 p12 p13 p14 p15 p16 p17 p18 p19 p20 p21 p22 p23 p24 p25 p26 p27 p28 p29 p30 p31 p32 p33 p34 p35 p36 p37 p38 p39 p40:Pos}{q1 q2 q3 q4 q5 q6 q7:Pos}{j1 j2 j3 j4 j5:Nat}{E0:XK}{wd:Addr->Option Str}
end
structure aBo(d:Nat)(e tg iter:Expr)(ifs:List Expr)(body:Env->Addr->Sem Unit):Prop where
 under:∀(A:zAk) (it:Value) (D:Addr) (env:Env),A.under (.compLoop e d it (.ref D) env)=A
 den:∀(prog:zA7) (w:World) (it:Value) (D:Addr) (env:Env),(model prog w).den (.compLoop e d it (.ref D) env)=(compTurn e d it (.ref D) env).onRaise (λ x=>do noteFrame x env;theTreesLotGoes x)
 turn:∀(it:Value) (D:Addr) (env:Env),compTurn e d it (.ref D) env=(do
   zGb iter.pos
   match <-zEz it with
   |none=>pure (.done .next)
   |some v=>
    zDS tg it v
    zDp tg env v
    let mut ok:=true
    for c in ifs do if ok then ok <-isTrue c env (eval c env)
    if ok then
     body env D
    again (.compLoop e d it (.ref D) env))
section
variable{s:zAG}{A:zAk}{prog:zA7}{w:World}{R:zEb->zAG->Prop}
def aBb{D:Addr}(hb:aBo d e tg iter ifs body)(I:Nat->zAG->Prop)
  (one:∀n s,I n s->wpAny (model prog w) A (zEz it) (λ r zI=>match r with
   |none=>R (.ok .next) zI
   |some v=>wpAny (model prog w) A (zDS tg it v) (λ _ zI=>wpAny (model prog w) A (zDp tg env v) (λ _ z0=>
     wpAny (model prog w) A (forIn ifs true λ c r=>if r=true then do let ok <-isTrue c env (eval c env);pure (zBh ok)else pure (zBh r)) (λ ok zC=>if ok=true then wpAny (model prog w) A (body env D) (λ _ s₅=>∃m,m<n/\I m s₅) (λ _ _=>False) zC
      else∃m,m<n/\I m zC) (λ _ _=>False) z0) (λ _ _=>False) zI) (λ _ _=>False) zI) (λ _ _=>False) s)
  (n:Nat)(h:I n s):zCZ (model prog w) A (.compLoop e d it (.ref D) env) R s:=by
 refine codeAny_loop rfl I (λ n s hJ=>?_) n h;rw[hb.under,hb.den];refine wpAny_noted ?_;rw[hb.turn];refine zAB (zDt (zAB (zB5 (one n s hJ) (λ r zI zD=>?_) λ _ _ h'=>h'.elim)));cases r with
 |none=>exact zAK zD
 |some v=>
  refine zAB (zB5 zD (λ _ zI zD=>?_) λ _ _ h'=>h'.elim);refine zAB (zB5 zD (λ _ z0 yT=>zAB (zB5 yT (λ ok zC yB=>?_) λ _ _ h'=>h'.elim)) λ _ _ h'=>h'.elim);cases ok with
  |false=>exact zAK (And.intro rfl yB)
  |true=>exact zAB (zB5 yB (λ _ y6 h₄=>zAK ⟨rfl,h₄⟩) λ _ _ h'=>h'.elim)
end
def aBp(d:Nat)(e:Expr):Prop:=∀{prog:zA7} {w:World} {A:zAk} {R:zEb->zAG->Prop} {s:zAG} {it acc:Value} {env:Env},
  zCZ (model prog w) A (.compLoop e d it acc env) R s->
  wpAny (model prog w) A (zIJ it) (λ it' s'=>zCZ (model prog w) A (.compLoop e d it' acc env) R s') (notedBy (model prog w) A env λ x s'=>R (.error x) s') s->
  zCZ (model prog w) A (.compStart e d it acc env) R s
structure aJr(prog:zA7)(w:World)(mk:Sem Value)(obs:Obj->Prop)(o:Addr->HO):Prop where
 make:∀{A:zAk} {Q:Value->zAG->Prop} {E:Value->zAG->Prop} {s:zAG},(∀ob,obs ob->Q (.ref s.heap.objs.size) {s with heap:=s.heap.push ob})->wpAny (model prog w) A mk Q E s
 live:∀ob,obs ob->ob.isFreed=false
 ok:∀{H:Hp} {h:Heap} {a:Addr} {ob:Obj},obs ob->h.get? a=some ob->zD8<a->dX prog w H h a (o a)
def PB(X:Cx)(body:Env->Addr->Sem Unit)(tb:Addr->St->Hp->(Hp->Prop)->Prop):Prop:=
 ∀(D:Addr) (iX:hZ) (s:zAG) (σ:St) (H:Hp) (Q:Hp->Prop),Inv X iX σ H s->tb D σ H Q->wpAny (model X.prog X.w) X.A (body X.env D) (λ _ s'=>∃H',Inv X iX σ H' s'/\Q H') X.xe s
def aP3(I:Inv X iX σ H s):zD8<s.heap.objs.size:=
 zGv (by decide) (I.mod.glob.keeps I.bk).lt
def aOS(o:Addr->HO)(wi:TI)(st:St->St)(g:TG)(tt:TT)(tb:Addr->St->Hp->(Hp->Prop)->Prop):TE:=λ σ H Q=>wi σ H λ J H1=>∀l,H1 l=none->∃W:Nat->Nat->Hp->Prop,(∃m,W 0 m (upd H1 l (o l)))/\
 ∀i m H2,W i m H2->((J.stop i H2/\Q (.ref l) H2)\/(J.go i H2/\∀x H3,J.yld i H2 x H3->g x (st σ) H3 λ σ4 H4=>tt σ4 H4 λ ok H5=>
  if ok=true then tb l σ4 H5 λ H6=>∃m',m'<m/\W (i+1) m' H6 else∃m',m'<m/\W (i+1) m' H5))
section
variable{X:Cx}{e tg iter:Expr}{ifs:List Expr}{scope:Scope}{N:List Str}{st:St->St}{ks:List Nat}{wi:TI}{g:TG}{tt:TT}{body:Env->Addr->Sem Unit}{tb:Addr->St->Hp->(Hp->Prop)->Prop}{pos:Pos}{mk:Sem Value}{obs:Obj->Prop}{o:Addr->HO}
def aJ9(B:fJ X scope N st ks)(hc:X.calm=true)(hT:aBo 0 e tg iter ifs body)(hS:aBp 0 e)(hA:aJr X.prog X.w mk obs o)(hg:∀C fp z4 zS,PG (X.block scope C N fp z4 zS) tg g)(hgo:ug g ks)(ht:∀C fp z4 zS,aDb (X.block scope C N fp z4 zS) ifs tt)
  (he:∀C fp z4 zS,PB (X.block scope C N fp z4 zS) body tb){Q:VK}{RR:Value->Addr->zEb->zAG->Prop}
  (I:Inv X iX σ H1 z0)(T:Turn X.prog X.w X.K tg J fp it tn)(h0:tn 0 z0.heap)(hfp:∀b∈fp,tD X iX H1 b)
  (h:∀l,H1 l=none->∃W:Nat->Nat->Hp->Prop,(∃m,W 0 m (upd H1 l (o l)))/\
   ∀i m H2,W i m H2->((J.stop i H2/\Q (.ref l) H2)\/(J.go i H2/\∀x H3,J.yld i H2 x H3->g x (st σ) H3 λ σ4 H4=>tt σ4 H4 λ ok H5=>
    if ok=true then tb l σ4 H5 λ H6=>∃m',m'<m/\W (i+1) m' H6 else∃m',m'<m/\W (i+1) m' H5)))
  (hRR:∀D C H' s',(∃σ',Inv (X.block scope C N fp z0 H1) [] σ' H' s')->z0.heap.objs.size<=C->Q (.ref D) H'->RR (.ref D) C (.ok .next) s'):
  wpAny (model X.prog X.w) X.A mk (λ acc zC=>wpAny (model X.prog X.w) X.A (zFX scope X.env.globals (bR scope X.env) [] X.env.qual none .none (some X.env)) (λ cenv y6=>
   zCZ (model X.prog X.w) X.A (.compStart e 0 (.ref it) acc {cenv with scope:=zGC scope X.env}) (RR acc cenv.locals) y6) E zC) E z0:=by
 refine hA.make λ ob hob=>aF9 λ zD y8 y9 y7=>?_
 dsimp only at y8 y9 y7 ⊢;generalize hH2:z0.heap.push ob=P2 at y8 y9 y7 ⊢;have hC:P2.objs.size=z0.heap.objs.size+1:=by rw[<-hH2,zBB]
 have hDC:z0.heap.objs.size≠P2.objs.size:=by rw[hC];exact zA8 (zBx _)
 have kK:z0.heap.objs.size<=P2.objs.size:=by rw[hC];exact zDl _
 have old:∀b o,z0.heap.get? b=some o->zD.get? b=some o:=λ b o e=>y9 b o (hH2▸zAC _ e)
 have oQ:zD.get? z0.heap.objs.size=some ob:=y9 _ _ (hH2▸zAO _ (hA.live ob hob));generalize hCe:P2.objs.size=C at y8 y9 y7 hDC kK hC ⊢;have hHD:H1 z0.heap.objs.size=none:=I.hok.fresh (zAT _);have I0:Inv (X.block scope C N fp z0 H1) [] (st σ) (upd H1 z0.heap.objs.size (o z0.heap.objs.size)) {z0 with heap:=zD,toks:=z0.toks}:=
  I.block B hfp (λ b hb=>by obtain⟨o,e,_⟩:=T.obj 0 _ h0 b hb;exact⟨o,e⟩) (zAT _) kK hDC old y8 y7 (λ c hc=>zA8 (zDM kK hc)) (hA.ok hob oQ (aP3 I))
 obtain⟨W,⟨m0,w0⟩,step⟩:=h _ hHD;have h01:tn 0 zD:=T.keep 0 _ _ h0 λ b _ o e=>old b o e
 have aI:∀{H':Hp},(∀b∈fp,H' b=none)->∀b∈fp,tD (X.block scope C N fp z0 H1) [] H' b:=λ{H'} hn b hb=>
  ⟨hn b hb,(I0.ok.exf b hb).1,I0.ok.exfs b hb,.inl hb,λ x c e=>(I0.ok.exf b hb).2 x c e,λ p hp=>absurd (show p∈([]:hZ)from hp) (by simp)⟩
 have fr0:∀b∈fp,upd H1 z0.heap.objs.size (o z0.heap.objs.size) b=none:=λ b hb=>by
  obtain⟨o,e,_⟩:=T.obj 0 _ h0 b hb;rw[bG (zA8 (zAV e))];exact(hfp b hb).1
 have loop:∀sx:zAG,sx={z0 with heap:=zD,toks:=z0.toks}->
   zCZ (model X.prog X.w) X.A (.compLoop e 0 (.ref it) (.ref z0.heap.objs.size) (X.block scope C N fp z0 H1).env) (RR (.ref z0.heap.objs.size) C) sx:=by
  rintro sx rfl;refine aBb hT (λ n s'=>∃i H2,Inv (X.block scope C N fp z0 H1) [] (st σ) H2 s'/\tn i s'.heap/\(∀b∈fp,H2 b=none)/\W i n H2) ?_ m0 ⟨0,_,I0,h01,fr0,w0⟩;rintro n s3 ⟨i,H2,I2,st2,fr2,w2⟩;rcases step i n H2 w2 with ⟨stop,q⟩|⟨go,nxt⟩
  .refine thn (T.done (X.block scope C N fp z0 H1) rfl rfl rfl hc i [] s3 (st σ) H2 _ I2 (aI fr2) st2 stop) λ r s4 ⟨hr,I4⟩=>?_
   subst hr;exact hRR _ C H2 s4 ⟨_,I4⟩ kK q
  .refine thn (T.item (X.block scope C N fp z0 H1) rfl rfl rfl hc i [] s3 (st σ) H2 _ I2 (aI fr2) st2 go) λ r s4 ⟨u,hr,h4⟩=>?_
   subst hr;refine thn h4 λ _ s5 ⟨x,H5,I5,r5,y5,st5,fr5⟩=>?_
   have I5p:=I5.pinned (aI fr5) (T.obj _ _ st5);refine thn (hg C fp z0 H1 _ s5 (st σ) H5 x u _ I5p r5 (hgo _ _ _ _ (nxt x H5 y5))) λ _ s6 ⟨σ6,H6,I6,q6,aLH,ag6⟩=>?_
   refine thn (ht C fp z0 H1 _ s6 σ6 H6 _ I6 q6) λ ok s7 ⟨H7,I7,q7⟩=>?_
   have again:∀{H9:Hp} {s9:zAG},Inv (X.block scope C N fp z0 H1) ([]++vG fp s5.heap) σ6 H9 s9->(∃m',m'<n/\W (i+1) m' H9)->
     ∃m,m<n/\∃i H2,Inv (X.block scope C N fp z0 H1) [] (st σ) H2 s9/\tn i s9.heap/\(∀b∈fp,H2 b=none)/\W i m H2:=λ{H9 s9} I9 ⟨m',hm,w9⟩=>by
    have cE:∀b∈fp,∀o,s5.heap.get? b=some o->s9.heap.get? b=some o/\H9 b=none:=λ b hb o e=>by
     have z:=I9.pin (b,o) (zA5 _ (zA5 _ (nu hb e)));exact⟨z.1,z.2.1⟩
    refine⟨m',hm,i+1,H9,I9.unpinned.weak (by rw[aLH]) (λ k v e=>?_),T.keep _ _ _ st5 λ b hb o e=>(cE b hb o e).1,λ b hb=>?_,w9⟩
    .have hk:k<(st σ).length:=(zAJ.mp e).1
     have hkN:k<N.length:=by rw[<-B.len σ];exact hk
     obtain⟨_,hks,_⟩:=B.val σ k _ v (zAD hkN) e;rw[ag6 k hks];exact e
    .obtain⟨o,e,_⟩:=T.obj _ _ st5 b hb
     exact(cE b hb o e).2
   cases ok with
   |false=>
    rw[if_neg zAX]at q7 ⊢;exact again I7 q7
   |true=>
    rw[if_pos rfl]at q7 ⊢;exact thn (he C fp z0 H1 _ _ s7 σ6 H7 _ I7 q7) λ _ s8 ⟨H8,I8,q8⟩=>again I8 q8
 exact hS (loop _ rfl) (T.self X.A 0 _ _ _ h01 (loop _ rfl))
def aIH(hN:X.N.Nodup)(hx1:X.N[i]? =some x)(hx2:Loc X.env.scope x)(B:fJ X scope N st ks)(hc:X.calm=true)(hi:PI X tg iter wi)(hg:∀C fp z4 zS,PG (X.block scope C N fp z4 zS) tg g)(hgo:ug g ks)
  (ht:∀C fp z4 zS,aDb (X.block scope C N fp z4 zS) ifs tt)(hT:aBo 0 e tg iter ifs body)(hS:aBp 0 e)(hA:aJr X.prog X.w mk obs o)(he:∀C fp z4 zS,PB (X.block scope C N fp z4 zS) body tb)(hsw:zCd e (some (.Name x pos')) spos.line X.env=pure true)
  (hcs:clausesOf e=⟨tg,iter,ifs,0⟩::gs)(hev:∀use,evalThenUse e X.env use=(do let _ <-comprehension e scope X.env (firstIterPos (⟨tg,iter,ifs,0⟩::gs) pos) mk false (eval iter X.env) (some use)))(hs:∀x,zBs iter X.env x=pure x:=by intro _;rfl)(hf:X.fn x=true\/X.env.scope.names.lookup x=some .local:=by first|exact .inl rfl|exact .inr rfl|assumption):
  PS X (.Assign [.Name x pos'] e spos) (aDl (aOS o wi st g tt tb) (qw i)):=by
 intro iX s σ H D I h;have hcl:zFz scope X.env=pure (bR scope X.env):=mO λ y hy hk=>I.ok.has _ (B.free y hy hk)
 rw[zIH _ _ _ _ hsw];refine zAB (zDt (zAB ?_));rw[hev];refine zAB (zB5 (zEZ (use:=some (zDp (.Name x pos') X.env)) (Q:=λ _ s'=>SP X iX D .next s') hcs hs hcl B.kind B.loc (thn (hi iX s σ H _ I h) λ v s1 h1=>thn h1 λ itv s2 h2=>?_)) (λ _ s' hq=>zAK (zAK hq)) λ _ _ e=>e);obtain⟨it,fp,tn,J,H2,e,I2,T,st2,f2,hq⟩:=h2;subst e;refine aJ9 (Q:=λ x H1=>qw i x σ H1 D.nx) (RR:=λ acc C=>compPost (model X.prog X.w) X.A X.xe (some (zDp (.Name x pos') X.env)) (λ _ s'=>SP X iX D .next s') acc C) B hc hT hS hA hg hgo ht he I2 T st2 f2 hq ?_;intro DD C H' s' hJ kK q;have I3:=aBk I2 f2 hJ;obtain⟨σ',J'⟩:=hJ;obtain⟨m,hn,_⟩:=id J'.loc;have hHC:H' C=none:=J'.free;have neL:C≠X.env.locals:=zCM (zA4 I2.lt kK);have neC:∀x c,X.env.cells.lookup x=some c->c≠C:=λ x c e z=>by obtain⟨v,ic⟩:=I2.cell x c e;exact absurd (zA4 ic.lt (by rw[z];exact kK)) (zBq _)
 show wpAny _ _ (zDp (.Name x pos') X.env (.ref DD)) _ _ _;refine zGF ?_;refine uo I3 hN hx1 hx2 (show RelV (.ref DD) (.ref DD)from rfl) (λ s4 I4 ⟨a,hsa,ha⟩=>?_) hf;have nea:C≠a:=by
  rcases ha with z|z
  .rw[z];exact neL
  .exact zEG (neC _ _ z)
 refine⟨m,hn.sameBut hsa nea,λ h'' hs''=>⟨_,H',?_,q⟩⟩;exact I4.turned (t':=s4.toks) (λ b o ne e=>(hs''.2 b ne).trans e) hHC neL (.inr (zAn I2.sz kK)) neC
  (λ p hp z=>absurd (zA4 (I2.pinL hp) (by rw[z];exact kK)) (zBq _))
end
def zM(kx vx:Expr)(env:Env)(D:Addr):Sem Unit:=do
 let kv <-eval kx env;let vv <-zDR [kv] (eval vx env);zGb {kx.pos with endLine:=vx.pos.endLine,endCol:=vx.pos.endCol}
 zDR [kv,vv] (dictSet D kv vv)
def aGP(kx vx tg iter:Expr)(ifs:List Expr)(scope:Scope)(pos:Pos):aBo 0 (.DictComp kx vx [⟨tg,iter,ifs,0⟩] scope pos) tg iter ifs (zM kx vx):=
 ⟨λ _ _ _ _=>rfl,λ _ _ _ _ _=>rfl,λ _ _ _=>rfl⟩
def aDm(kx vx tg iter:Expr)(ifs:List Expr)(scope:Scope)(pos:Pos):aBp 0 (.DictComp kx vx [⟨tg,iter,ifs,0⟩] scope pos):=λ h0 h=>codeAny_compStart_dict h0 h
end L2
namespace VL
open PySem PySem.Spec PyProof.Rows L2
inductive D where
 |non|bl (b:Bool)|int (i:Int)|str (x:Str)|tup (l:List D)|lst (l:List D)|dct (ks vs:List D)|set (l:List Int)|scr (l:List Int)|fn (x:Str)
instance:Inhabited D:=⟨.non⟩
def kD:Key->D
 | .inl i=>.int i
 | .inr x=>.str x
variable{K:zAA}
def qK(K:zAA)(H:Hp)(a:Addr)(ns:List Int):Prop:=(∃o,H a=some (.frz o (.lst (ns.map V.int))))\/
 ∃(o:Obj) (its:Array Value) (n:Nat),K.lookup a=some o/\o.cls= .type "list"/\o.dict=none/\o.data= .seq its n/\its.size<=zAY/\Vals (ns.map V.int) its.toList
def qK.sq(h:qK K H a ns):SqL K H a (ns.map V.int):=by
 rcases h with h|h
 .exact .inl (.inr h)
 .exact .inr h
def hsh(ns:List Int):Int:=reduceHash (zIh (ns.map hashInt))
def dxO(a:Addr)(es:List (List Int×Addr×V)):HO:=.ext λ h=>es.length<=zAY/\(a==zD8)=false/\∃(xs:List (List Int×Addr×Value)) (o:Obj) (ts:Array DictEntry) (ep:Nat),zIA (λ e x=>e.1=x.1/\e.2.1=x.2.1/\RelV e.2.2 x.2.2) es xs/\
 h.get? a=some o/\o.ExactDict/\o.data= .dict ts ep/\ts.toList=xs.map λ x=>⟨hsh x.1,.ref x.2.1,x.2.2⟩
structure DxK(K:zAA)(H:Hp)(a:Addr)(es:List (List Int×Addr×V)):Prop where
 at_:H a=some (dxO a es)
 ks:∀e∈es,SqT K H e.2.1 (e.1.map V.int)
 nd:(es.map (·.1)).Nodup
mutual
inductive Rp(K:zAA):(Addr->Prop)->Hp->V->D->Prop where
 |non {A:Addr->Prop} {H:Hp}:Rp K A H .non .non
 |bl {A:Addr->Prop} {H:Hp} (b:Bool):Rp K A H (.bl b) (.bl b)
 |int {A:Addr->Prop} {H:Hp} (i:Int):Rp K A H (.int i) (.int i)
 |str {A:Addr->Prop} {H:Hp} (x:Str):Rp K A H (.str x) (.str x)
 |tup {A:Addr->Prop} {H:Hp} {a:Addr} {xs:List V} {ds:List D} (h:SqT K H a xs) (r:Rps K A H xs ds):Rp K A H (.ref a) (.tup ds)
 |lst {A:Addr->Prop} {H:Hp} {a:Addr} {xs:List V} {ds:List D} (h:H a=some (.lst xs)) (m:A a) (r:Rps K (λ p=>A p/\p≠a) H xs ds):Rp K A H (.ref a) (.lst ds)
 |dK {A:Addr->Prop} {H:Hp} {a:Addr} {kvs:List (Key×V)} {ds:List D} (h:H a=some (.dK kvs)) (m:A a) (r:Rps K (λ p=>A p/\p≠a) H (kvs.map (·.2)) ds):Rp K A H (.ref a) (.dct (kvs.map λ p=>kD p.1) ds)
 |dT {A:Addr->Prop} {H:Hp} {a:Addr} {es:List (List Int×Addr×V)} {ds:List D} (h:DxK K H a es) (m:A a) (r:Rps K (λ p=>A p/\p≠a) H (es.map (·.2.2)) ds):Rp K A H (.ref a) (.dct (.non::es.map λ e=>.tup (e.1.map .int)) ds)
 |set {A:Addr->Prop} {H:Hp} {a:Addr} {S:Int->Bool} {l:List Int} (h:H a=some (.set S l.length)) (m:A a) (hS:∀i,S i=decide (i∈l)) (nd:l.Nodup):Rp K A H (.ref a) (.set l)
 |scr {A:Addr->Prop} {H:Hp} {a:Addr} {ns:List Int} (h:qK K H a ns):Rp K A H (.ref a) (.scr ns)
 |fn {A:Addr->Prop} {H:Hp} {a:Addr} {x:Str} (h:zAv K zAh x=some (some (.ref a))):Rp K A H (.ref a) (.fn x)
inductive Rps(K:zAA):(Addr->Prop)->Hp->List V->List D->Prop where
 |nil {A:Addr->Prop} {H:Hp}:Rps K A H [] []
 |cons {A:Addr->Prop} {H:Hp} {x:V} {d:D} {xs:List V} {ds:List D} (h:Rp K A H x d) (r:Rps K A H xs ds):Rps K A H (x::xs) (d::ds)
end
def qK.mono(s:aX H H')(h:qK K H a ns):qK K H' a ns:=by
 rcases h with ⟨o,h⟩|h
 .exact .inl ⟨o,s _ _ h⟩
 .exact .inr h
def DxK.mono(h:DxK K H a es)(s:aX H H'):DxK K H' a es:=⟨s _ _ h.at_,λ e he=>s.sqt (h.ks e he),h.nd⟩
def Rp.mono'(s:aX H H')(r:Rp K A H x d)(hA:∀p o,H p=some o->A p->A' p):Rp K A' H' x d:=
 Rp.rec (motive_1:=λ A H x d _=>∀H',aX H H'->∀A':Addr->Prop,(∀p o,H p=some o->A p->A' p)->Rp K A' H' x d) (motive_2:=λ A H xs ds _=>∀H',aX H H'->∀A':Addr->Prop,(∀p o,H p=some o->A p->A' p)->Rps K A' H' xs ds)
  (λ _ _ _ _=>.non) (λ b _ _ _ _=>.bl b) (λ i _ _ _ _=>.int i) (λ x _ _ _ _=>.str x) (λ h _ ih _ s _ hA=>.tup (s.sqt h) (ih _ s _ hA))
  (λ h m _ ih _ s _ hA=>.lst (s _ _ h) (hA _ _ h m) (ih _ s _ λ p o e z=>⟨hA p o e z.1,z.2⟩)) (λ h m _ ih _ s _ hA=>.dK (s _ _ h) (hA _ _ h m) (ih _ s _ λ p o e z=>⟨hA p o e z.1,z.2⟩))
  (λ h m _ ih _ s _ hA=>.dT (h.mono s) (hA _ _ h.at_ m) (ih _ s _ λ p o e z=>⟨hA p o e z.1,z.2⟩)) (λ h m hS nd _ s _ hA=>.set (s _ _ h) (hA _ _ h m) hS nd) (λ h _ s _ _=>.scr (h.mono s)) (λ h _ _ _ _=>.fn h) (λ _ _ _ _=>.nil) (λ _ _ ih ir _ s _ hA=>.cons (ih _ s _ hA) (ir _ s _ hA)) r H' s A' hA
def Rps.mono'(s:aX H H')(r:Rps K A H xs ds)(hA:∀p o,H p=some o->A p->A' p):Rps K A' H' xs ds:=
 Rps.rec (motive_1:=λ A H x d _=>∀H',aX H H'->∀A':Addr->Prop,(∀p o,H p=some o->A p->A' p)->Rp K A' H' x d) (motive_2:=λ A H xs ds _=>∀H',aX H H'->∀A':Addr->Prop,(∀p o,H p=some o->A p->A' p)->Rps K A' H' xs ds)
  (λ _ _ _ _=>.non) (λ b _ _ _ _=>.bl b) (λ i _ _ _ _=>.int i) (λ x _ _ _ _=>.str x) (λ h _ ih _ s _ hA=>.tup (s.sqt h) (ih _ s _ hA))
  (λ h m _ ih _ s _ hA=>.lst (s _ _ h) (hA _ _ h m) (ih _ s _ λ p o e z=>⟨hA p o e z.1,z.2⟩)) (λ h m _ ih _ s _ hA=>.dK (s _ _ h) (hA _ _ h m) (ih _ s _ λ p o e z=>⟨hA p o e z.1,z.2⟩))
  (λ h m _ ih _ s _ hA=>.dT (h.mono s) (hA _ _ h.at_ m) (ih _ s _ λ p o e z=>⟨hA p o e z.1,z.2⟩)) (λ h m hS nd _ s _ hA=>.set (s _ _ h) (hA _ _ h m) hS nd) (λ h _ s _ _=>.scr (h.mono s)) (λ h _ _ _ _=>.fn h) (λ _ _ _ _=>.nil) (λ _ _ ih ir _ s _ hA=>.cons (ih _ s _ hA) (ir _ s _ hA)) r H' s A' hA
def Rp.mono(s:aX H H')(hA:∀p o,H p=some o->A p->A' p)(r:Rp K A H x d):Rp K A' H' x d:=r.mono' s hA
def Rps.mono(s:aX H H')(hA:∀p o,H p=some o->A p->A' p)(r:Rps K A H x d):Rps K A' H' x d:=r.mono' s hA
def Rp.up(s:aX H H')(r:Rp K A H x d):Rp K A H' x d:=r.mono s λ _ _ _ h=>h
def Rp.wk(hA:∀p o,H p=some o->A p->A' p)(r:Rp K A H x d):Rp K A' H x d:=r.mono (aX.refl H) hA
def Rps.up(s:aX H H')(r:Rps K A H x d):Rps K A H' x d:=r.mono s λ _ _ _ h=>h
def Rps.wk(hA:∀p o,H p=some o->A p->A' p)(r:Rps K A H x d):Rps K A' H x d:=r.mono (aX.refl H) hA
def lU:HO->Bool
 | .lst _=>true| .dK _=>true| .dT _=>true| .set _ _=>true| .ext _=>true|_=>false
def qL(s:mR l H H')(hl:H l=some o)(ho:lU o=true)(h:SqT K H a xs):SqT K H' a xs:=by
 rcases h with (h|⟨u,h⟩)|h
 .refine .inl (.inl (s _ _ (λ e=>?_) h))
  subst e;rw[hl]at h;cases h;cases ho
 .refine .inl (.inr ⟨u,s _ _ (λ e=>?_) h⟩)
  subst e;rw[hl]at h;cases h;cases ho
 .exact .inr h
def aFQ(s:mR l H H')(hl:H l=some o)(ho:lU o=true)(h:qK K H a ns):qK K H' a ns:=by
 rcases h with ⟨u,h⟩|h
 .exact .inl ⟨u,s _ _ (λ e=>by subst e;rw[hl]at h;cases h;cases ho) h⟩
 .exact .inr h
def DxK.but(h:DxK K H a es)(s:mR l H H')(hl:H l=some o)(ho:lU o=true)(ne:a≠l):DxK K H' a es:=
 ⟨s _ _ ne h.at_,λ e he=>qL s hl ho (h.ks e he),h.nd⟩
def Rp.but'(s:mR l H H')(hl:H l=some o)(ho:lU o=true)(r:Rp K A H x d)(hA:¬A l):Rp K A H' x d:=
 Rp.rec (motive_1:=λ A H x d _=>∀H',mR l H H'->∀o:HO,H l=some o->lU o=true->¬A l->Rp K A H' x d) (motive_2:=λ A H xs ds _=>∀H',mR l H H'->∀o:HO,H l=some o->lU o=true->¬A l->Rps K A H' xs ds)
  (λ _ _ _ _ _ _=>.non) (λ b _ _ _ _ _ _=>.bl b) (λ i _ _ _ _ _ _=>.int i) (λ x _ _ _ _ _ _=>.str x) (λ h _ ih _ s o hl ho hA=>.tup (qL s hl ho h) (ih _ s o hl ho hA))
  (λ h m _ ih _ s o hl ho hA=>.lst (s _ _ (λ e=>hA (e▸m)) h) m (ih _ s o hl ho λ z=>hA z.1)) (λ h m _ ih _ s o hl ho hA=>.dK (s _ _ (λ e=>hA (e▸m)) h) m (ih _ s o hl ho λ z=>hA z.1))
  (λ h m _ ih _ s o hl ho hA=>.dT (h.but s hl ho λ e=>hA (e▸m)) m (ih _ s o hl ho λ z=>hA z.1)) (λ h m hS nd _ s o hl ho hA=>.set (s _ _ (λ e=>hA (e▸m)) h) m hS nd) (λ h _ s o hl ho _=>.scr (aFQ s hl ho h)) (λ h _ _ _ _ _ _=>.fn h) (λ _ _ _ _ _ _=>.nil) (λ _ _ ih ir _ s o hl ho hA=>.cons (ih _ s o hl ho hA) (ir _ s o hl ho hA)) r H' s o hl ho hA
def Rps.but'(s:mR l H H')(hl:H l=some o)(ho:lU o=true)(r:Rps K A H xs ds)(hA:¬A l):Rps K A H' xs ds:=
 Rps.rec (motive_1:=λ A H x d _=>∀H',mR l H H'->∀o:HO,H l=some o->lU o=true->¬A l->Rp K A H' x d) (motive_2:=λ A H xs ds _=>∀H',mR l H H'->∀o:HO,H l=some o->lU o=true->¬A l->Rps K A H' xs ds)
  (λ _ _ _ _ _ _=>.non) (λ b _ _ _ _ _ _=>.bl b) (λ i _ _ _ _ _ _=>.int i) (λ x _ _ _ _ _ _=>.str x) (λ h _ ih _ s o hl ho hA=>.tup (qL s hl ho h) (ih _ s o hl ho hA))
  (λ h m _ ih _ s o hl ho hA=>.lst (s _ _ (λ e=>hA (e▸m)) h) m (ih _ s o hl ho λ z=>hA z.1)) (λ h m _ ih _ s o hl ho hA=>.dK (s _ _ (λ e=>hA (e▸m)) h) m (ih _ s o hl ho λ z=>hA z.1))
  (λ h m _ ih _ s o hl ho hA=>.dT (h.but s hl ho λ e=>hA (e▸m)) m (ih _ s o hl ho λ z=>hA z.1)) (λ h m hS nd _ s o hl ho hA=>.set (s _ _ (λ e=>hA (e▸m)) h) m hS nd) (λ h _ s o hl ho _=>.scr (aFQ s hl ho h)) (λ h _ _ _ _ _ _=>.fn h) (λ _ _ _ _ _ _=>.nil) (λ _ _ ih ir _ s o hl ho hA=>.cons (ih _ s o hl ho hA) (ir _ s o hl ho hA)) r H' s o hl ho hA
def Rp.but(s:mR l H H')(hl:H l=some o)(ho:lU o=true)(hA:¬A l)(r:Rp K A H x d):Rp K A H' x d:=r.but' s hl ho hA
def Rps.but(s:mR l H H')(hl:H l=some o)(ho:lU o=true)(hA:¬A l)(r:Rps K A H x d):Rps K A H' x d:=r.but' s hl ho hA
mutual
def imm:D->Bool
 | .tup l=>pW l
 | .lst _=>false
 | .dct _ _=>false
 | .set _=>false
 |_=>true
def pW:List D->Bool
 |[]=>true
 |d::r=>imm d&&pW r
end
def qR(e:pW (d::r)=true):imm d=true/\pW r=true:=by
 simp only[pW,zAN]at e;exact e
def aFt(e:imm (.tup l)=true):pW l=true:=by simpa[imm]using e
def aFw(e:imm (.lst l)=true):False:=by simp[imm]at e
def xH(e:imm (.dct l k)=true):False:=by simp[imm]at e
def aFu(e:imm (.set l)=true):False:=by simp[imm]at e
def Rp.imm'(r:Rp K A H x d)(e:VL.imm d=true):Rp K A' H x d:=
 Rp.rec (motive_1:=λ _ H x d _=>VL.imm d=true->Rp K A' H x d) (motive_2:=λ _ H xs ds _=>pW ds=true->Rps K A' H xs ds)
  (λ _=>.non) (λ b _=>.bl b) (λ i _=>.int i) (λ x _=>.str x) (λ h _ ih e=>.tup h (ih (aFt e)))
  (λ _ _ _ _ e=>(aFw e).elim) (λ _ _ _ _ e=>(xH e).elim) (λ _ _ _ _ e=>(xH e).elim) (λ _ _ _ _ e=>(aFu e).elim) (λ h _=>.scr h) (λ h _=>.fn h) (λ _=>.nil) (λ _ _ ih ir e=>.cons (ih (qR e).1) (ir (qR e).2)) r e
def Rps.imm'(r:Rps K A H xs ds)(e:pW ds=true):Rps K A' H xs ds:=
 Rps.rec (motive_1:=λ _ H x d _=>VL.imm d=true->Rp K A' H x d) (motive_2:=λ _ H xs ds _=>pW ds=true->Rps K A' H xs ds)
  (λ _=>.non) (λ b _=>.bl b) (λ i _=>.int i) (λ x _=>.str x) (λ h _ ih e=>.tup h (ih (aFt e)))
  (λ _ _ _ _ e=>(aFw e).elim) (λ _ _ _ _ e=>(xH e).elim) (λ _ _ _ _ e=>(xH e).elim) (λ _ _ _ _ e=>(aFu e).elim) (λ h _=>.scr h) (λ h _=>.fn h) (λ _=>.nil) (λ _ _ ih ir e=>.cons (ih (qR e).1) (ir (qR e).2)) r e
theorem Rp.imm(r:Rp K A H x d)(h:VL.imm d=true):Rp K A' H x d:=r.imm' h
def Rps.imm(r:Rps K A H x d)(h:pW d=true):Rps K A' H x d:=r.imm' h
def Rp.int_inv(r:Rp K A H v (.int i)):v= .int i:=by cases r;rfl
def Rp.bl_inv(r:Rp K A H v (.bl b)):v= .bl b:=by cases r;rfl
def Rp.tup_inv(r:Rp K A H v (.tup ds)):∃a xs,v= .ref a/\SqT K H a xs/\Rps K A H xs ds:=by cases r with|tup h r=>exact⟨_,_,rfl,h,r⟩
def Rp.lst_inv(r:Rp K A H v (.lst ds)):∃a xs,v= .ref a/\H a=some (.lst xs)/\A a/\Rps K (λ p=>A p/\p≠a) H xs ds:=by cases r with|lst h m r=>exact⟨_,_,rfl,h,m,r⟩
def Rp.scr_inv(r:Rp K A H v (.scr ns)):∃a,v= .ref a/\qK K H a ns:=by cases r with|scr h=>exact⟨_,rfl,h⟩
def Rps.one_inv(r:Rps K A H vs [d]):∃v,vs=[v]/\Rp K A H v d:=by cases r with|cons h r=>cases r;exact⟨_,rfl,h⟩
section
variable{A:Addr->Prop}{H:Hp}
theorem Rps.length:∀{xs:List V} {ds:List D},Rps K A H xs ds->xs.length=ds.length:=by
 intro xs ds h;induction xs generalizing ds with
 |nil=>cases h;rfl
 |cons x xs ih=>cases h with|cons _ r=>exact congrArg (·+1) (ih r)
theorem Rps.get:∀{xs:List V} {ds:List D} {i:Nat} {x:V},Rps K A H xs ds->xs[i]? =some x->∃d,ds[i]? =some d/\Rp K A H x d
 |_,_,_,_,.nil,e=>by simp at e
 |_,_,0,_,.cons h _,e=>by simp at e;subst e;exact⟨_,rfl,h⟩
 |_,_,i+1,x,.cons _ r,e=>by
  obtain⟨d,h1,h2⟩:=Rps.get (i:=i) (x:=x) r (by simpa using e);exact⟨d,by simpa using h1,h2⟩
theorem Rps.getD:∀{xs:List V} {ds:List D} {i:Nat} {d:D},Rps K A H xs ds->ds[i]? =some d->∃x,xs[i]? =some x/\Rp K A H x d
 |_,_,_,_,.nil,e=>by simp at e
 |_,_,0,_,.cons h _,e=>by simp at e;subst e;exact⟨_,rfl,h⟩
 |_,_,i+1,d,.cons _ r,e=>by
  obtain⟨x,h1,h2⟩:=Rps.getD (i:=i) (d:=d) r (by simpa using e);exact⟨x,by simpa using h1,h2⟩
def Rps.append:∀{xs ys:List V} {ds es:List D},Rps K A H xs ds->Rps K A H ys es->Rps K A H (xs++ys) (ds++es):=by
 intro xs ys ds es h s;induction xs generalizing ds with
 |nil=>cases h;exact s
 |cons x xs ih=>cases h with|cons h r=>exact .cons h (ih r)
theorem Rps.take:∀{xs:List V} {ds:List D} (n:Nat),Rps K A H xs ds->Rps K A H (xs.take n) (ds.take n)
 |_,_,0,_=>.nil
 |_,_,_+1,.nil=>.nil
 |_,_,n+1,.cons h r=>.cons h (Rps.take n r)
theorem Rps.drop:∀{xs:List V} {ds:List D} (n:Nat),Rps K A H xs ds->Rps K A H (xs.drop n) (ds.drop n)
 |_,_,0,r=>r
 |_,_,_+1,.nil=>.nil
 |_,_,n+1,.cons _ r=>Rps.drop n r
theorem Rps.reverse:∀{xs:List V} {ds:List D},Rps K A H xs ds->Rps K A H xs.reverse ds.reverse:=by
 intro xs ds h;induction xs generalizing ds with
 |nil=>cases h;exact .nil
 |cons x xs ih=>
  cases h with
  |cons h r=>
   rw[zCn,zCn];exact Rps.append (ih r) (.cons h .nil)
theorem Rps.set(h:Rp K A H x d):∀{xs:List V} {ds:List D} (n:Nat),Rps K A H xs ds->Rps K A H (xs.set n x) (ds.set n d)
 |_,_,_,.nil=>.nil
 |_,_,0,.cons _ r=>.cons h r
 |_,_,n+1,.cons k r=>.cons k (Rps.set h n r)
theorem Rps.ints:∀{ns:List Int},Rps K A H (ns.map V.int) (ns.map D.int)
 |[]=>.nil
 |n::ns=>.cons (.int n) Rps.ints
theorem Rps.ints_of:∀{xs:List V} {ns:List Int},Rps K A H xs (ns.map D.int)->xs=ns.map V.int
 |_,[],.nil=>rfl
 |_,n::ns,.cons h r=>by
  cases h;rw[zAM,Rps.ints_of r]
end
def aO(h:a=b):a=b:=h
inductive Rs(α:Type) where
 |ok (a:α)|ex (c:Str)|st
noncomputable def Rs.bd{α β:Type}:Rs α->(α->Rs β)->Rs β
 | .ok a,f=>f a
 | .ex c,_=>.ex c
 | .st,_=>.st
@[simp] def aZ(a:α)(f:α->Rs β):(Rs.ok a).bd f=f a:=aO rfl
def dW{r:Rs α}(h:r.bd f= .ok b):∃a,r= .ok a/\f a= .ok b:=by
 cases r with
 |ok a=>exact⟨a,rfl,h⟩
 |ex c=>cases h
 |st=>cases h
abbrev eB:=List (List D)
inductive Slot where
 |no|sh (d:D)|nw (d:D)|ow (d:D)|oz (d:D)|o2 (l:eB)
abbrev En:=List Slot
abbrev Lab:=Addr->Nat×Nat
abbrev Mode:=Option (List Nat)
def inM(m:Mode)(n:Nat):Prop:=match m with
 |none=>True
 |some L=>n∈L
def jn:Mode->Mode->Mode
 |some a,some b=>some (a++b)
 |_,_=>none
def aOr(h:inM a n):inM (jn a b) n:=by
 cases a with
 |none=>cases b<;>exact trivial
 |some L=>
  cases b with
  |none=>exact trivial
  |some M=>exact zAQ _ h
def aOq(h:inM b n):inM (jn a b) n:=by
 cases a with
 |none=>cases b<;>exact trivial
 |some L=>
  cases b with
  |none=>exact trivial
  |some M=>exact zA5 _ h
def fpM(m:Mode)(lab:Lab)(H:Hp):Addr->Prop:=λ p=>H p=none\/inM m (lab p).1
def aJN(h:fpM a lab H p):fpM (jn a b) lab H p:=h.imp id aOr
def aJM(h:fpM b lab H p):fpM (jn a b) lab H p:=h.imp id aOq
def pX(s:aX H H')(h:fpM m lab H' p):fpM m lab H p:=h.imp (λ z=>s.free z) id
structure Gx where
 H0:Hp
 E:XK
 cl:Str->Addr
def aGf:D->Bool
 | .lst _=>true
 | .dct _ _=>true
 | .set _=>true
 |_=>false
def jG(K:zAA)(H:Hp)(lab:Lab)(i:Nat)(v:V):Slot->Prop
 | .no=>True
 | .sh d=>Rp K (λ p=>(lab p).1<=1) H v d
 | .nw d=>Rp K (λ p=>(lab p).1=1) H v d
 | .ow d=>Rp K (λ p=>(lab p).1=1\/(lab p).1=i+2) H v d/\(aGf d=true->∃a,v= .ref a/\(lab a).1=i+2)
 | .oz d=>∃a xs ds,v= .ref a/\d= .lst ds/\H a=some (.lst xs)/\(lab a).1=i+2/\Rps K (λ p=>(lab p).1<=1) H xs ds
 | .o2 l=>∃a xs,v= .ref a/\H a=some (.lst xs)/\lab a=(i+2,0)/\xs.length=l.length/\∀(j:Nat) x ds,xs[j]? =some x->l[j]? =some ds->Rp K (λ p=>lab p=(i+2,j+1)) H x (.lst ds)
structure RR(K:zAA)(G:Gx)(U:List (V×D))(ρ:En)(σ:L2.St)(H:Hp)(lab:Lab):Prop where
 len:σ.length=ρ.length
 sl:∀(i:Nat) (s:Slot),ρ[i]? =some s->s= .no\/∃v,σ[i]? =some (some v)/\jG K H lab i v s
 old:aX G.H0 H
 new:∀p,(lab p).1≠0->G.H0 p=none
 tm:∀q∈U,Rp K (λ p=>(lab p).1<=1) H q.1 q.2
theorem jG.up(s:aX H H')(h:jG K H lab i v x):jG K H' lab i v x:=by
 cases x with
 |no=>exact trivial
 |sh d=>exact Rp.up s h
 |nw d=>exact Rp.up s h
 |ow d=>exact⟨Rp.up s h.1,h.2⟩
 |oz d=>
  obtain⟨a,xs,ds,e1,e2,e3,e4,e5⟩:=h;exact⟨a,xs,ds,e1,e2,s _ _ e3,e4,e5.up s⟩
 |o2 l=>
  obtain⟨a,xs,e1,e2,e3,e4,e5⟩:=h;exact⟨a,xs,e1,s _ _ e2,e3,e4,λ j x ds f1 f2=>(e5 j x ds f1 f2).up s⟩
def aHp(r:Rp K A H (.ref a) d)(hm:aGf d=true):∃o,H a=some o/\lU o=true/\A a:=by
 cases r with
 |lst h m _=>exact⟨_,h,rfl,m⟩
 |dK h m _=>exact⟨_,h,rfl,m⟩
 |dT h m _=>exact⟨_,h.at_,rfl,m⟩
 |set h m _ _=>exact⟨_,h,rfl,m⟩
 |tup _ _=>cases hm
 |scr _=>cases hm
 |fn _=>cases hm
def aMk(r:Rp K A H v d)(hm:aGf d=true):∃a,v= .ref a:=by
 cases r with
 |lst h m _=>exact⟨_,rfl⟩
 |dK h m _=>exact⟨_,rfl⟩
 |dT h m _=>exact⟨_,rfl⟩
 |set h m _ _=>exact⟨_,rfl⟩
 |_=>cases hm
theorem jG.lab{lab lab':Lab}(hl:∀p o,H p=some o->lab' p=lab p)(h:jG K H lab i v x):jG K H lab' i v x:=by
 cases x with
 |no=>exact trivial
 |sh d=>exact Rp.wk (λ p o e q=>(hl p o e).symm▸q) h
 |nw d=>exact Rp.wk (λ p o e q=>(hl p o e).symm▸q) h
 |ow d=>
  obtain⟨h,t⟩:=h;refine⟨Rp.wk (λ p o e q=>(hl p o e).symm▸q) h,λ m=>?_⟩;obtain⟨a,rfl,ea⟩:=t m;obtain⟨o,ho,_⟩:=aHp h m;exact⟨a,rfl,(congrArg (·.1) (hl a o ho)).trans ea⟩
 |oz d=>
  obtain⟨a,xs,ds,e1,e2,e3,e4,e5⟩:=h;exact⟨a,xs,ds,e1,e2,e3,(congrArg (·.1) (hl _ _ e3)).trans e4,Rps.wk (λ p o e q=>(hl p o e).symm▸q) e5⟩
 |o2 l=>
  obtain⟨a,xs,e1,e2,e3,e4,e5⟩:=h;exact⟨a,xs,e1,e2,(hl _ _ e2).trans e3,e4,λ j x ds f1 f2=>Rp.wk (λ p o e q=>(hl p o e).symm▸q) (e5 j x ds f1 f2)⟩
section
variable{G:Gx}{U:List (V×D)}{ρ:En}{σ:L2.St}{H H':Hp}{lab lab':Lab}
theorem RR.up(R:RR K G U ρ σ H lab)(s:aX H H'):RR K G U ρ σ H' lab:=
 ⟨R.len,λ i x e=>(R.sl i x e).imp id λ⟨v,e1,e2⟩=>⟨v,e1,e2.up s⟩,R.old.trans s,R.new,λ q hq=>(R.tm q hq).up s⟩
def RR.relab(R:RR K G U ρ σ H lab)(hl:∀p o,H p=some o->lab' p=lab p)(hn:∀p,(lab' p).1≠0->G.H0 p=none):RR K G U ρ σ H lab':=
 ⟨R.len,λ i x e=>(R.sl i x e).imp id λ⟨v,e1,e2⟩=>⟨v,e1,e2.lab hl⟩,R.old,hn,λ q hq=>Rp.wk (λ p o e z=>by rw[hl p o e];exact z) (R.tm q hq)⟩
def RR.drop(R:RR K G (U'++U) ρ σ H lab):RR K G U ρ σ H lab:=⟨R.len,R.sl,R.old,R.new,λ z hz=>R.tm z (zA5 _ hz)⟩
def RR.put(R:RR K G U ρ σ H lab)(h:jG K H lab i v s):RR K G U (ρ.set i s) (σ.set i (some v)) H lab:=by
 refine⟨by rw[zBD,zBD,R.len],λ j x e=>?_,R.old,R.new,R.tm⟩;by_cases hj:i=j
 .subst hj
  have hi:i<ρ.length:=by
   have:=(zAJ.mp e).1
   rwa [zBD]at this
  rw[zBT hi]at e;cases e;exact .inr ⟨v,by rw[zBT (by rw[R.len];exact hi)],h⟩
 .rw[zBG hj]at e
  rcases R.sl j x e with z|⟨u,e1,e2⟩
  .exact .inl z
  .exact .inr ⟨u,by rw[zBG hj];exact e1,e2⟩
def cJ(H:Hp)(n:Nat)(lab:Lab):Lab:=λ p=>match H p with
 |none=>(n,0)
 |some _=>lab p
def bf(h:H p=some o):cJ H n lab p=lab p:=by unfold cJ;rw[h]
def yO(h:H p=none):cJ H n lab p=(n,0):=by unfold cJ;rw[h]
def RR.fresh{P:Nat->Prop}(h1:P 1)(hm:∀k,inM m k->P k)(R:RR K G U ρ σ H lab)(s:aX H H')(r:Rp K (fpM m lab H) H' v d):
  RR K G U ρ σ H' (cJ H 1 lab)/\Rp K (λ p=>P (cJ H 1 lab p).1) H' v d:=by
 refine⟨(R.relab (λ p o e=>bf e) λ p hp=>?_).up s,Rp.wk (λ p o e z=>?_) r⟩
 .cases e:H p with
  |none=>exact R.old.free e
  |some o=>rw[bf e]at hp;exact R.new p hp
 .rcases z with z|z
  .rw[yO z];exact h1
  .cases e:H p with
   |none=>rw[yO e];exact h1
   |some o=>rw[bf e];exact hm _ z
def RR.freshO(i:Nat)(hm:∀k,inM m k->k=1\/k=i+2)(R:RR K G U ρ σ H lab)(s:aX H H')(r:Rp K (fpM m lab H) H' v d)(ht:aGf d=true->∃a,v= .ref a/\H a=none):
  ∃lab',RR K G U ρ σ H' lab'/\jG K H' lab' i v (.ow d):=by
 obtain⟨R',r'⟩:=R.fresh (P:=λ k=>k=1\/k=i+2) (.inl rfl) hm s r;cases hd:aGf d with
 |false=>exact⟨_,R',r',λ z=>absurd z (by simp[hd])⟩
 |true=>
  obtain⟨a,rfl,ha⟩:=ht hd;refine⟨λ p=>if p=a then(i+2,0)else cJ H 1 lab p,?_,Rp.wk (λ p o e z=>?_) r',λ _=>⟨a,rfl,by show(if a=a then((i+2,0):Nat×Nat)else cJ H 1 lab a).1=i+2;rw[if_pos rfl]⟩⟩
  .refine(R.relab (lab':=λ p=>if p=a then(i+2,0)else cJ H 1 lab p) (λ p o e=>?_) λ p hp=>?_).up s
   .rw[if_neg (λ z=>by subst z;rw[ha]at e;cases e),bf e]
   .by_cases z:p=a
    .subst z;exact R.old.free ha
    .rw[if_neg z]at hp;exact R'.new p hp
  .dsimp only
   by_cases q:p=a
   .rw[if_pos q];exact .inr rfl
   .rw[if_neg q];exact z
def aMR(h:jG K H lab i v (.oz d)):Rp K (λ p=>(lab p).1<=1\/(lab p).1=i+2) H v d:=by
 obtain⟨a,xs,ds,rfl,rfl,h1,h2,h3⟩:=h;exact .lst h1 (.inr h2) (h3.wk λ p o e z=>⟨.inl z,λ q=>by subst q;lia⟩)
end
structure Ct where
 ι:Type
 X:ι->Cx
 prog:zA7
 w:World
 K:zAA
 mg:Str->Option Value
 base:Heap
 k:Nat
 G:Gx
 cx:∀i,(X i).prog=prog/\(X i).w=w/\(X i).K=K/\(X i).mg=mg/\(X i).base=base
 calm:∀i,(X i).calm=true
 room:∀i,lG k (X i).A
 own:∀i,zIB (model (X i).prog (X i).w) (X i).A (X i).env (X i).xe
 pass:∀i,aBr (CX1 (X i).prog (X i).w) (X i) G.E
 dOk:Bool
 dcx:dOk=true->∀i,lF (X i) G.E
def Ct.hK(C:Ct)(i:C.ι):(C.X i).K=C.K:=(C.cx i).2.2.1
def WR{α:Type}(G:Gx)(r:Rs α)(P:α->Prop):Prop:=match r with
 | .ok a=>P a
 | .ex c=>∀H',aX G.H0 H'->G.E (.ref (G.cl c)) none H'
 | .st=>False
theorem WR.bd(h:WR G (r.bd k) P):WR G r (λ a=>WR G (k a) P):=by
 cases r with
 |ok a=>exact h
 |ex c=>exact h
 |st=>exact h
def WR.imp(h:WR G r P)(f:∀a,r= .ok a->P a->P' a):WR G r P':=by
 cases r with
 |ok a=>exact f a rfl h
 |ex c=>exact h
 |st=>exact h
abbrev QE(K:zAA)(m:Mode)(lab:Lab)(H:Hp)(Q:VK):D->Prop:=λ d=>∀v H',aX H H'->Rp K (fpM m lab H) H' v d->Q v H'
abbrev QA(K:zAA)(m:Mode)(lab:Lab)(H:Hp)(Q:List V->Hp->Prop):List D->Prop:=λ ds=>∀vs H',aX H H'->Rps K (fpM m lab H) H' vs ds->Q vs H'
abbrev QT(H:Hp)(Q:Bool->Hp->Prop):Bool->Prop:=λ b=>∀H',aX H H'->Q b H'
def jW(K:zAA)(G:Gx)(m:Mode)(t:TE)(f:En->Rs D):Prop:=∀U σ H ρ lab (Q:VK),RR K G U ρ σ H lab->WR G (f ρ) (QE K m lab H Q)->t σ H Q
def aLq(K:zAA)(G:Gx)(m:Mode)(t:TA)(f:En->Rs (List D)):Prop:=∀U σ H ρ lab (Q:List V->Hp->Prop),RR K G U ρ σ H lab->WR G (f ρ) (QA K m lab H Q)->t σ H Q
def aEt(K:zAA)(G:Gx)(t:TT)(f:En->Rs Bool):Prop:=∀U σ H ρ lab (Q:Bool->Hp->Prop),RR K G U ρ σ H lab->WR G (f ρ) (QT H Q)->t σ H Q
def SE(C:Ct)(m:Mode)(e:Expr)(f:En->Rs D):Prop:=∃t,(∀i,PE (C.X i) e t)/\jW C.K C.G m t f
def SA(C:Ct)(m:Mode)(es:List Expr)(f:En->Rs (List D)):Prop:=∃t,(∀i,PA (C.X i) es t)/\aLq C.K C.G m t f
def ST(C:Ct)(e:Expr)(f:En->Rs Bool):Prop:=∃t,(∀i,PT (C.X i) e t)/\aEt C.K C.G t f
def SW(C:Ct)(e:Expr)(f:En->Rs Bool):Prop:=∃t,(∀i,PW (C.X i) e t)/\aEt C.K C.G t f
def SW.st(h:SW C e f):ST C e f:=let⟨t,h1,h2⟩:=h;⟨t,λ i=>(h1 i).pt,h2⟩
def eE(i:Nat):En->Rs D:=λ ρ=>match ρ[i]? with
 |some (.sh d)=>.ok d
 |some (.nw d)=>.ok d
 |some (.ow d)=>.ok d
 |some (.oz d)=>.ok d
 |some (.o2 l)=>.ok (.lst (l.map .lst))
 |_=>.st
def aD(i:Nat):En->Rs D:=λ ρ=>match ρ[i]? with
 |some (.sh d)=>.ok d
 |some (.nw d)=>.ok d
 |_=>.st
def nQ(i:Nat):En->Rs D:=λ ρ=>match ρ[i]? with
 |some (.nw d)=>.ok d
 |_=>.st
def wL(i:Nat):En->Rs D:=λ ρ=>match ρ[i]? with
 |some (.ow d)=>.ok d
 |some (.o2 l)=>.ok (.lst (l.map .lst))
 |_=>.st
def cD(d:D):En->Rs D:=λ _=>.ok d
def aI4{K:zAA}{H:Hp}{lab:Lab}{i:Nat}{v:V}{l:eB}(h:jG K H lab i v (.o2 l)):Rp K (λ p=>(lab p).1=i+2) H v (.lst (l.map .lst)):=by
 obtain⟨a,xs,rfl,ha,hla,kQ,hin⟩:=h;refine .lst ha (by rw[hla]) ?_;have go:∀(xs:List V) (l:eB) (n:Nat),xs.length=l.length->0<n->(∀(j:Nat) x ds,xs[j]? =some x->l[j]? =some ds->Rp K (λ p=>lab p=(i+2,n+j)) H x (.lst ds))->Rps K (λ p=>(lab p).1=i+2/\p≠a) H xs (l.map .lst):=by
  intro xs;induction xs with
  |nil=>intro l n hl _ _;cases l with|nil=>exact .nil|cons _ _=>simp at hl
  |cons x xs ih=>
   intro l n hl hn h;cases l with
   |nil=>simp at hl
   |cons ds l=>
    refine .cons (Rp.wk (λ p o e z=>⟨by rw[z],λ e=>by rw[e,hla]at z;have z2:(0:Nat)=n+0:=congrArg zFi z;lia⟩) (h 0 x ds rfl rfl)) (ih l (n+1) (by simpa using hl) (by lia) λ j y es e1 e2=>?_);have z:=h (j+1) y es (by simpa using e1) (by simpa using e2);rw[show n+1+j=n+(j+1)by lia];exact z
 exact go xs l 1 kQ (by lia) λ j x ds e1 e2=>by have z:=hin j x ds e1 e2;rw[show 1+j=j+1 by lia];exact z
section
variable{C:Ct}{pos:Pos}
def aFK(K:zAA)(G:Gx)(i:Nat):jW K G (some [0,1,i+2]) (xO i) (eE i):=by
 intro U σ H ρ lab Q R W;unfold eE at W;cases e:ρ[i]? with
 |none=>rw[e]at W;exact W.elim
 |some s=>
  rw[e]at W;rcases R.sl i s e with rfl|⟨v,ev,hv⟩
  .exact zAR W
  .cases s with
   |no=>exact zAR W
   |sh d=>exact⟨v,ev,W v H (aX.refl H) (Rp.wk (λ p o e z=>.inr (by show(lab p).1∈[0,1,i+2];rcases(show(lab p).1=0\/(lab p).1=1 by lia)with q|q<;>rw[q]<;>simp)) hv)⟩
   |nw d=>exact⟨v,ev,W v H (aX.refl H) (Rp.wk (λ p o e z=>.inr (by show(lab p).1∈[0,1,i+2];rw[z];simp)) hv)⟩
   |ow d=>exact⟨v,ev,W v H (aX.refl H) (Rp.wk (λ p o e z=>.inr (by show(lab p).1∈[0,1,i+2];rcases z with q|q<;>rw[q]<;>simp)) hv.1)⟩
   |oz d=>exact⟨v,ev,W v H (aX.refl H) (Rp.wk (λ p o e z=>.inr (by show(lab p).1∈[0,1,i+2];rcases(show(lab p).1=0\/(lab p).1=1\/(lab p).1=i+2 by lia)with q|q|q<;>rw[q]<;>simp)) (aMR hv))⟩
   |o2 l=>exact⟨v,ev,W v H (aX.refl H) (Rp.wk (λ p o e z=>.inr (by show(lab p).1∈[0,1,i+2];rw[z];simp)) (aI4 hv))⟩
def aHa(K:zAA)(G:Gx)(i:Nat):jW K G (some [0,1]) (xO i) (aD i):=by
 intro U σ H ρ lab Q R W;unfold aD at W;cases e:ρ[i]? with
 |none=>rw[e]at W;exact W.elim
 |some s=>
  rw[e]at W;rcases R.sl i s e with rfl|⟨v,ev,hv⟩
  .exact zAR W
  .cases s with
   |sh d=>exact⟨v,ev,W v H (aX.refl H) (Rp.wk (λ p o e z=>.inr (by show(lab p).1∈[0,1];rcases(show(lab p).1=0\/(lab p).1=1 by lia)with q|q<;>rw[q]<;>simp)) hv)⟩
   |nw d=>exact⟨v,ev,W v H (aX.refl H) (Rp.wk (λ p o e z=>.inr (by show(lab p).1∈[0,1];rw[z];simp)) hv)⟩
   |_=>exact zAR W
def aHc(K:zAA)(G:Gx)(i:Nat):jW K G (some [1]) (xO i) (nQ i):=by
 intro U σ H ρ lab Q R W;unfold nQ at W;cases e:ρ[i]? with
 |none=>rw[e]at W;exact W.elim
 |some s=>
  rw[e]at W;rcases R.sl i s e with rfl|⟨v,ev,hv⟩
  .exact zAR W
  .cases s with
   |nw d=>exact⟨v,ev,W v H (aX.refl H) (Rp.wk (λ p o e z=>.inr (by show(lab p).1∈[1];rw[z];simp)) hv)⟩
   |_=>exact zAR W
def aHb(K:zAA)(G:Gx)(i:Nat):jW K G (some [1,i+2]) (xO i) (wL i):=by
 intro U σ H ρ lab Q R W;unfold wL at W;cases e:ρ[i]? with
 |none=>rw[e]at W;exact W.elim
 |some s=>
  rw[e]at W;rcases R.sl i s e with rfl|⟨v,ev,hv⟩
  .exact zAR W
  .cases s with
   |ow d=>exact⟨v,ev,W v H (aX.refl H) (Rp.wk (λ p o e z=>.inr (by show(lab p).1∈[1,i+2];rcases z with q|q<;>rw[q]<;>simp)) hv.1)⟩
   |o2 l=>exact⟨v,ev,W v H (aX.refl H) (Rp.wk (λ p o e z=>.inr (by show(lab p).1∈[1,i+2];rw[z];simp)) (aI4 hv))⟩
   |_=>exact zAR W
def fB(i:Nat)(hN:∀j,(C.X j).N[i]? =some x:=by intro _;rfl)(hv:∀j,Vis (C.X j).env.scope x:=by intro _;first|exact zC8 rfl|exact zBy (zC8 rfl)|exact zBy (zBy rfl))(hd:Nd x:=by decide)
  (hcd:(x==("__classdict__":Str))=false:=by decide):SE C (some [0,1,i+2]) (.Name x pos) (eE i):=⟨_,λ j=>mH (hN j) (hv j) hd hcd,aFK _ _ i⟩
def aA(i:Nat)(hN:∀j,(C.X j).N[i]? =some x:=by intro _;rfl)(hv:∀j,Vis (C.X j).env.scope x:=by intro _;first|exact zC8 rfl|exact zBy (zC8 rfl)|exact zBy (zBy rfl))(hd:Nd x:=by decide)
  (hcd:(x==("__classdict__":Str))=false:=by decide):SE C (some [0,1]) (.Name x pos) (aD i):=⟨_,λ j=>mH (hN j) (hv j) hd hcd,aHa _ _ i⟩
def jL(i:Nat)(hN:∀j,(C.X j).N[i]? =some x:=by intro _;rfl)(hv:∀j,Vis (C.X j).env.scope x:=by intro _;first|exact zC8 rfl|exact zBy (zC8 rfl)|exact zBy (zBy rfl))(hd:Nd x:=by decide)
  (hcd:(x==("__classdict__":Str))=false:=by decide):SE C (some [1]) (.Name x pos) (nQ i):=⟨_,λ j=>mH (hN j) (hv j) hd hcd,aHc _ _ i⟩
def tQ(i:Nat)(hN:∀j,(C.X j).N[i]? =some x:=by intro _;rfl)(hv:∀j,Vis (C.X j).env.scope x:=by intro _;first|exact zC8 rfl|exact zBy (zC8 rfl)|exact zBy (zBy rfl))(hd:Nd x:=by decide)
  (hcd:(x==("__classdict__":Str))=false:=by decide):SE C (some [1,i+2]) (.Name x pos) (wL i):=⟨_,λ j=>mH (hN j) (hv j) hd hcd,aHb _ _ i⟩
def aM:SE C (some []) (.Constant (.int i) j pos) (cD (.int i)):=⟨_,λ _=>aIS,λ U σ H ρ lab Q R W=>W _ H (aX.refl H) (.int i)⟩
def gC:SE C (some []) (.Constant (.bool b) j pos) (cD (.bl b)):=⟨_,λ _=>aOc,λ U σ H ρ lab Q R W=>W _ H (aX.refl H) (.bl b)⟩
def aHi:SE C (some []) (.Constant .none j pos) (cD .non):=⟨_,λ _=>aNH,λ U σ H ρ lab Q R W=>W _ H (aX.refl H) .non⟩
def rJ:SE C (some []) (.Constant (.str x) j pos) (cD (.str x)):=⟨_,λ _=>aNE,λ U σ H ρ lab Q R W=>W _ H (aX.refl H) (.str x)⟩
def aKQ(hm:C.mg x=some u)(r:RelV v u)(hd:∀A H,Rp C.K A H v d)(hdb:Nd x:=by decide)(hg:∀i,Gl (C.X i) x:=by intro _;rfl):SE C (some []) (.Name x pos) (cD d):=
 ⟨_,λ i=>aK9 (hg i) (by rw[(C.cx i).2.2.2.1];exact hm) r hdb,λ U σ H ρ lab Q R W=>W _ H (aX.refl H) (hd _ _)⟩
def uK(d:D):Rs D:=if imm d=true then .ok d else .st
def bH(f:En->Rs D):En->Rs D:=λ ρ=>(f ρ).bd uK
def bZ(h:SE C m e f):SE C (some []) e (bH f):=by
 obtain⟨t,h1,h2⟩:=h;refine⟨t,h1,λ U σ H ρ lab Q R W=>h2 U σ H ρ lab Q R (W.bd.imp λ d _ w v H' s r=>?_)⟩;unfold uK at w;by_cases hd:imm d=true
 .rw[if_pos hd]at w
  exact w v H' s (r.imm hd)
 .rw[if_neg hd]at w
  exact zAR w
def aJ:En->Rs (List D):=λ _=>.ok []
def aC(f:En->Rs D)(g:En->Rs (List D)):En->Rs (List D):=λ ρ=>(f ρ).bd λ d=>(g ρ).bd λ ds=>.ok (d::ds)
variable{m m1 m2:Mode}{e a b:Expr}{es:List Expr}{f fa fb:En->Rs D}{g:En->Rs (List D)}
def aF:SA C (some []) [] aJ:=⟨_,λ _=>gR,λ U σ H ρ lab Q R W=>W _ H (aX.refl H) .nil⟩
def aB(h:SE C m1 e f)(hr:SA C m2 es g)(hs:∀i,zA1 (e::es) (C.X i).env=(false,eval e (C.X i).env)::zA1 es (C.X i).env:=by intro _;rfl):SA C (jn m1 m2) (e::es) (aC f g):=by
 obtain⟨t,h1,h2⟩:=h;obtain⟨u,k1,k2⟩:=hr;refine⟨_,λ i=>dI (h1 i) (k1 i) (hs i),λ U σ H ρ lab Q R W=>?_⟩;refine h2 U σ H ρ lab _ R (W.bd.imp λ d _ w x H1 s1 r1=>?_);refine k2 U σ H1 ρ lab _ (R.up s1) (w.bd.imp λ ds _ w xs H2 s2 r2=>?_);exact w (x::xs) H2 (s1.trans s2) (.cons (r1.mono s2 λ p o _ z=>aJN z) (r2.wk λ p o _ z=>aJM (pX s1 z)))
def gM(g:En->Rs (List D)):En->Rs D:=λ ρ=>(g ρ).bd λ ds=>if ds.length<=zAY then .ok (.tup ds)else .st
def fj(g:En->Rs (List D)):En->Rs D:=λ ρ=>(g ρ).bd λ ds=>if ds.length<=zAY then .ok (.lst ds)else .st
def dF{x1}(h:SA C m es g):SE C m (.Tuple es x1 pos) (gM g):=by
 obtain⟨t,h1,h2⟩:=h;refine⟨_,λ i=>aK7 (h1 i),λ U σ H ρ lab Q R W=>h2 U σ H ρ lab _ R (W.bd.imp λ ds _ w xs H1 s1 r1=>?_)⟩;by_cases hz:ds.length<=zAY
 .rw[if_pos hz]at w
  exact⟨by rw[r1.length];exact hz,λ p H' s hp _=>w _ H' (s1.trans s) (.tup (SqT.of hp) (r1.up s))⟩
 .rw[if_neg hz]at w
  exact zAR w
def aAs(h:SA C m es g):SE C m (.List es pos) (fj g):=by
 obtain⟨t,h1,h2⟩:=h;refine⟨_,λ i=>aBG (h1 i),λ U σ H ρ lab Q R W=>h2 U σ H ρ lab _ R (W.bd.imp λ ds _ w xs H1 s1 r1=>?_)⟩;by_cases hz:ds.length<=zAY
 .rw[if_pos hz]at w
  exact⟨by rw[r1.length];exact hz,λ p H' s hp hn=>w _ H' (s1.trans s) (.lst hp (.inl (s1.free hn)) ((r1.wk λ q o e z=>⟨z,λ e'=>by subst e';rw[hn]at e;cases e⟩).up s))⟩
 .rw[if_neg hz]at w
  exact zAR w
def aPM(H:Hp)(v:V)(d:D):Prop:=aGf d=true->∃a,v= .ref a/\H a=none
def aOL(K:zAA)(G:Gx)(m:Mode)(t:TE)(f:En->Rs D):Prop:=∀U σ H ρ lab (Q:VK),RR K G U ρ σ H lab->WR G (f ρ) (λ d=>∀v H',aX H H'->Rp K (fpM m lab H) H' v d->aPM H v d->Q v H')->t σ H Q
def SF(C:Ct)(m:Mode)(e:Expr)(f:En->Rs D):Prop:=∃t,(∀i,PE (C.X i) e t)/\aOL C.K C.G m t f
def jW.toF{K:zAA}{G:Gx}{t:TE}{f:En->Rs D}(h:jW K G (some []) t f):aOL K G (some []) t f:=λ U σ H ρ lab Q R W=>
 h U σ H ρ lab Q R (W.imp λ d _ w v H' s r=>w v H' s r λ hm=>by
  obtain⟨a,rfl⟩:=aMk r hm;obtain⟨o,_,_,z⟩:=aHp r hm;rcases z with z|z
  .exact⟨a,rfl,z⟩
  .cases z)
def aMc(h:SE C (some []) e f):SF C (some []) e f:=let⟨t,h1,h2⟩:=h;⟨t,h1,h2.toF⟩
def mC(h:SA C m es g):SF C m (.List es pos) (fj g):=by
 obtain⟨t,h1,h2⟩:=h;refine⟨_,λ i=>aBG (h1 i),λ U σ H ρ lab Q R W=>h2 U σ H ρ lab _ R (W.bd.imp λ ds _ w xs H1 s1 r1=>?_)⟩;by_cases hz:ds.length<=zAY
 .rw[if_pos hz]at w
  exact⟨by rw[r1.length];exact hz,λ p H' s hp hn=>w _ H' (s1.trans s) (.lst hp (.inl (s1.free hn)) ((r1.wk λ q o e z=>⟨z,λ e'=>by subst e';rw[hn]at e;cases e⟩).up s)) λ _=>⟨p,rfl,s1.free hn⟩⟩
 .rw[if_neg hz]at w
  exact zAR w
def OpS(K:zAA)(r:R2)(fd:D->D->Rs D):Prop:=∀(A:Addr->Prop) x y d e H (Q:VK) z,Rp K A H x d->Rp K A H y e->fd d e= .ok z->(∀v H',aX H H'->Rp K (λ p=>H p=none\/A p) H' v z->Q v H')->r x y H Q
def UnS(K:zAA)(r:V->Hp->VK->Prop)(fd:D->Rs D):Prop:=∀(A:Addr->Prop) x d H (Q:VK) z,Rp K A H x d->fd d= .ok z->(∀v H',aX H H'->Rp K (λ p=>H p=none\/A p) H' v z->Q v H')->r x H Q
def um(K:zAA)(r:List V->Hp->VK->Prop)(fd:List D->Rs D):Prop:=∀(A:Addr->Prop) xs ds H (Q:VK) z,Rps K A H xs ds->fd ds= .ok z->(∀v H',aX H H'->Rp K (λ p=>H p=none\/A p) H' v z->Q v H')->r xs H Q
def okD(r:Rs D):Rs D:=match r with
 | .ok d=>.ok d
 |_=>.st
def op2(fd:D->D->Rs D)(fa fb:En->Rs D):En->Rs D:=λ ρ=>(fa ρ).bd λ x=>(fb ρ).bd λ y=>okD (fd x y)
def op1(fd:D->Rs D)(fa:En->Rs D):En->Rs D:=λ ρ=>(fa ρ).bd λ x=>okD (fd x)
def opA(fd:List D->Rs D)(fa:En->Rs (List D)):En->Rs D:=λ ρ=>(fa ρ).bd λ x=>okD (fd x)
theorem WR.okD(h:WR G (okD r) P):∃z,r= .ok z/\P z:=by
 cases r with
 |ok z=>exact⟨z,rfl,h⟩
 |ex c=>exact zAR h
 |st=>exact zAR h
def aAn{K:zAA}{G:Gx}{r:R2}{ta tb:TE}{fd:D->D->Rs D}(hs:OpS K r fd)(h1:jW K G m1 ta fa)(h2:jW K G m2 tb fb):jW K G (jn m1 m2) (tOp r ta tb) (op2 fd fa fb):=by
 intro U σ H ρ lab Q R W;refine h1 U σ H ρ lab _ R (W.bd.imp λ d _ w x H1 s1 r1=>?_);refine h2 U σ H1 ρ lab _ (R.up s1) (w.bd.imp λ e _ w y H2 s2 r2=>?_);obtain⟨z,ez,w⟩:=w.okD;refine hs (fpM (jn m1 m2) lab H) x y d e H2 Q z (r1.mono s2 λ p o _ q=>aJN q) (r2.wk λ p o _ q=>aJM (pX s1 q)) ez λ v H' s r=>w v H' ((s1.trans s2).trans s) (r.wk λ p o _ q=>?_)
 rcases q with q|q
 .exact .inl ((s1.trans s2).free q)
 .exact q
def aKH{K:zAA}{G:Gx}{r:V->Hp->VK->Prop}{ta:TE}{fd:D->Rs D}(hs:UnS K r fd)(h1:jW K G m ta fa):jW K G m (tUn r ta) (op1 fd fa):=by
 intro U σ H ρ lab Q R W;refine h1 U σ H ρ lab _ R (W.bd.imp λ d _ w x H1 s1 r1=>?_);obtain⟨z,ez,w⟩:=w.okD;refine hs (fpM m lab H) x d H1 Q z r1 ez λ v H' s r=>w v H' (s1.trans s) (r.wk λ p o _ q=>?_)
 rcases q with q|q
 .exact .inl (s1.free q)
 .exact q
def aFN{K:zAA}{G:Gx}{r:List V->Hp->VK->Prop}{ta:TA}{fd:List D->Rs D}(hs:um K r fd)(h1:aLq K G m ta g):jW K G m (tCB r ta) (opA fd g):=by
 intro U σ H ρ lab Q R W;refine h1 U σ H ρ lab _ R (W.bd.imp λ d _ w x H1 s1 r1=>?_);obtain⟨z,ez,w⟩:=w.okD;refine hs (fpM m lab H) x d H1 Q z r1 ez λ v H' s r=>w v H' (s1.trans s) (r.wk λ p o _ q=>?_)
 rcases q with q|q
 .exact .inl (s1.free q)
 .exact q
def gO(h:SE C m e f)(hi:∀ρ d,f ρ= .ok d->imm d=true):SE C (some []) e f:=by
 obtain⟨t,h1,h2⟩:=h;exact⟨t,h1,λ U σ H ρ lab Q R W=>h2 U σ H ρ lab Q R (W.imp λ d ed w v H' s r=>w v H' s (r.imm (hi ρ d ed)))⟩
def lW(h:∀x y z,fd x y= .ok z->imm z=true)(e:op2 fd fa fb ρ= .ok d):imm d=true:=by
 obtain⟨x,_,e⟩:=dW e;obtain⟨y,_,e⟩:=dW e;unfold okD at e;split at e
 .rename_i z hz
  cases e;exact h x y _ hz
 .cases e
def aLV(h:∀x z,fd x= .ok z->imm z=true)(e:op1 fd fa ρ= .ok d):imm d=true:=by
 obtain⟨x,_,e⟩:=dW e;unfold okD at e;split at e
 .rename_i z hz
  cases e;exact h x _ hz
 .cases e
def qT(h:∀x z,fd x= .ok z->imm z=true)(e:opA fd g ρ= .ok d):imm d=true:=by
 obtain⟨x,_,e⟩:=dW e;unfold okD at e;split at e
 .rename_i z hz
  cases e;exact h x _ hz
 .cases e
def aAK(ro:∀i,OpR (C.X i) (zC6 op) r)(hs:OpS C.K r fd)(ha:SE C m1 a fa)(hb:SE C m2 b fb):SE C (jn m1 m2) (.BinOp a op b pos) (op2 fd fa fb):=by
 obtain⟨t,h1,h2⟩:=ha;obtain⟨u,k1,k2⟩:=hb;exact⟨_,λ i=>aOa (ro i) (h1 i) (k1 i),aAn hs h2 k2⟩
def aOW(ro:∀i,UnR (C.X i) (unaryOp op) r)(hs:UnS C.K r fd)(ha:SE C m a fa):SE C m (.UnaryOp op a pos) (op1 fd fa):=by
 obtain⟨t,h1,h2⟩:=ha;exact⟨_,λ i=>aMP (ro i) (h1 i),aKH hs h2⟩
def aAt(ro:∀i,OpR (C.X i) (zAs op) r)(hs:OpS C.K r fd)(ha:SE C m1 a fa)(hb:SE C m2 b fb)(hm:zCS op b=false:=by first|exact aI5 _|(with_unfolding_all rfl)):
  SE C (jn m1 m2) (.Compare a [op] [b] pos) (op2 fd fa fb):=by
 obtain⟨t,h1,h2⟩:=ha;obtain⟨u,k1,k2⟩:=hb;exact⟨_,λ i=>aKa (ro i) (h1 i) (k1 i) hm,aAn hs h2 k2⟩
variable{p:Pos}{x:Str}{id T:String}
def mZ(ro:∀i,cX (C.X i) (.builtin id) r)(hs:um C.K r fd)(hg:∀i,Gl (C.X i) x)(hm:C.mg x=none)(hv:zAq x=some (.builtin id))(ha:SA C m (e::es) g)
  (hn:x≠"__name__":=by decide)(hdb:Nd x:=by decide)(he:∀i,zA1 (e::es) (C.X i).env=(false,eval e (C.X i).env)::zA1 es (C.X i).env:=by intro _;rfl)
  (hpl:∀i,(zCo pos (zA1 es (C.X i).env)).any (·.1)=false:=by intro _;rfl):SE C m (.Call (.Name x p) (e::es) [] pos) (opA fd g):=by
 obtain⟨t,h1,h2⟩:=ha;exact⟨_,λ i=>m8 (ro i) (hg i) (by rw[(C.cx i).2.2.2.1];exact hm) hv (h1 i) hn hdb (he i) (hpl i),aFN hs h2⟩
def aCH(ro:∀i,cX (C.X i) (.type T) r)(hs:um C.K r fd)(hg:∀i,Gl (C.X i) x)(hm:C.mg x=none)(hv:zAq x=some (.type T))(ha:SA C m (e::es) g)
  (hn:x≠"__name__":=by decide)(hdb:Nd x:=by decide)(he:∀i,zA1 (e::es) (C.X i).env=(false,eval e (C.X i).env)::zA1 es (C.X i).env:=by intro _;rfl)
  (hpl:∀i,(zCo pos (zA1 es (C.X i).env)).any (·.1)=false:=by intro _;rfl):SE C m (.Call (.Name x p) (e::es) [] pos) (opA fd g):=by
 obtain⟨t,h1,h2⟩:=ha;exact⟨_,λ i=>gZ (ro i) (hg i) (by rw[(C.cx i).2.2.2.1];exact hm) hv (h1 i) hn hdb (he i) (hpl i),aFN hs h2⟩
def aAD(f g:En->Rs D):En->Rs D:=λ ρ=>(f ρ).bd λ d=>match d with
 | .bl true=>g ρ
 | .bl false=>.ok (.bl false)
 |_=>.st
def aN7:D->Rs D
 | .bl b=>.ok (.bl (!b))
 |_=>.st
variable{rest:List Expr}
def rM{op}(h:SE C m a fa):SE C m (.BoolOp op [a] pos) fa:=by
 obtain⟨t,h1,h2⟩:=h;exact⟨_,λ i=>aNF (h1 i),h2⟩
def pB(ha:SE C m1 a fa)(hb:SE C m2 (.BoolOp .And (b::rest) pos) fb):SE C m2 (.BoolOp .And (a::b::rest) pos) (aAD fa fb):=by
 obtain⟨t,h1,h2⟩:=ha;obtain⟨u,k1,k2⟩:=hb;refine⟨_,λ i=>aNJ (h1 i) (k1 i),λ U σ H ρ lab Q R W=>h2 U σ H ρ lab _ R (W.bd.imp λ d _ w x H1 s1 r1=>?_)⟩;cases r1 with
 |bl c=>
  refine⟨c,rfl,?_⟩;cases c with
  |true=>
   rw[if_pos rfl];exact k2 U σ H1 ρ lab Q (R.up s1) (w.imp λ z _ w v H' s r=>w v H' (s1.trans s) (r.wk λ p o _ q=>pX s1 q))
  |false=>
   rw[if_neg zAX];exact w _ H1 s1 (.bl false)
 |_=>exact zAR w
def aMf(ha:SE C m a fa):SE C (some []) (.UnaryOp .Not a pos) (op1 aN7 fa):=by
 obtain⟨t,h1,h2⟩:=ha;refine⟨_,λ i=>aNG (h1 i),λ U σ H ρ lab Q R W=>h2 U σ H ρ lab _ R (W.bd.imp λ d _ w x H1 s1 r1=>?_)⟩;obtain⟨z,ez,w⟩:=w.okD;cases r1 with
 |bl c=>cases ez;exact⟨c,rfl,w _ H1 s1 (.bl _)⟩
 |_=>cases ez
def ifD(c:En->Rs Bool)(f g:En->Rs D):En->Rs D:=λ ρ=>(c ρ).bd λ k=>if k=true then f ρ else g ρ
def aOZ(hc:ST C c fc)(ha:SE C m1 a fa)(hb:SE C m2 b fb):SE C (jn m1 m2) (.IfExp c a b pos) (ifD fc fa fb):=by
 obtain⟨tc,c1,c2⟩:=hc;obtain⟨t,h1,h2⟩:=ha;obtain⟨u,k1,k2⟩:=hb;refine⟨_,λ i=>aIT (c1 i) (h1 i) (k1 i),λ U σ H ρ lab Q R W=>c2 U σ H ρ lab _ R (W.bd.imp λ k _ w H1 s1=>?_)⟩;cases k with
 |true=>
  rw[if_pos rfl]at w ⊢;exact h2 U σ H1 ρ lab Q (R.up s1) (w.imp λ z _ w v H' s r=>w v H' (s1.trans s) (r.wk λ p o _ q=>aJN (pX s1 q)))
 |false=>
  rw[if_neg zAX]at w ⊢;exact k2 U σ H1 ρ lab Q (R.up s1) (w.imp λ z _ w v H' s r=>w v H' (s1.trans s) (r.wk λ p o _ q=>aJM (pX s1 q)))
def chD(fd fd':D->D->Rs D)(fa fb fc:En->Rs D):En->Rs D:=λ ρ=>(fa ρ).bd λ x=>(fb ρ).bd λ y=>(okD (fd x y)).bd λ z=>match z with
 | .bl true=>(fc ρ).bd λ w=>okD (fd' y w)
 | .bl false=>.ok (.bl false)
 |_=>.st
def aAI{K:zAA}{G:Gx}{r r':R2}{ta tb tc:TE}{fd fd':D->D->Rs D}{fc:En->Rs D}{m3:Mode}(hs:OpS K r fd)(hs':OpS K r' fd')(hi:∀x y z,fd' x y= .ok z->imm z=true)(h1:jW K G m1 ta fa)(h2:jW K G m2 tb fb)(h3:jW K G m3 tc fc):
  jW K G (some []) (aDk r r' ta tb tc) (chD fd fd' fa fb fc):=by
 intro U σ H ρ lab Q R W;refine h1 U σ H ρ lab _ R (W.bd.imp λ d _ w x H1 s1 r1=>?_);refine h2 U σ H1 ρ lab _ (R.up s1) (w.bd.imp λ e _ w y H2 s2 r2=>?_);obtain⟨z,ez,w⟩:=w.bd.okD;refine hs (λ _=>True) x y d e H2 _ z (r1.mono s2 λ p o _ q=>trivial) (r2.wk λ p o _ q=>trivial) ez λ v H3 s3 r3=>?_
 cases r3 with
 |bl c=>
  refine⟨c,rfl,?_⟩;cases c with
  |false=>
   rw[if_neg zAX];exact w _ H3 ((s1.trans s2).trans s3) (.bl false)
  |true=>
   rw[if_pos rfl];refine h3 U σ H3 ρ lab _ ((R.up s1).up (s2.trans s3)) (w.bd.imp λ e' _ w y' H4 s4 r4=>?_);obtain⟨z',ez',w⟩:=w.okD;exact hs' (λ _=>True) y y' e e' H4 Q z' (r2.mono (s3.trans s4) λ p o _ q=>trivial) (r4.wk λ p o _ q=>trivial) ez' λ v H5 s5 r5=>w v H5 ((((s1.trans s2).trans s3).trans s4).trans s5) (r5.imm (hi _ _ _ ez'))
 |_=>exact zAR w
def aCG(ro:∀i,OpR (C.X i) (zAs op) r)(hs:OpS C.K r fd)(ro':∀i,OpR (C.X i) (zAs op') r')(hs':OpS C.K r' fd')(hi:∀x y z,fd' x y= .ok z->imm z=true)
  (ha:SE C m1 a fa)(hb:SE C m2 b fb)(hc:SE C m3 c fc)(hm:zEy [op,op'] [b,c]=false:=by with_unfolding_all rfl):SE C (some []) (.Compare a [op,op'] [b,c] pos) (chD fd fd' fa fb fc):=by
 obtain⟨t,h1,h2⟩:=ha;obtain⟨u,k1,k2⟩:=hb;obtain⟨v,l1,l2⟩:=hc;exact⟨_,λ i=>aIU (ro i) (ro' i) (h1 i) (k1 i) (l1 i) hm,aAI hs hs' hi h2 k2 l2⟩
def aHW:D->Rs Bool
 | .non=>.ok false
 | .bl b=>.ok b
 | .int i=>.ok (i !=0)
 | .tup l=>.ok (!l.isEmpty)
 | .lst l=>.ok (!l.isEmpty)
 |_=>.st
def blD:D->Rs Bool
 | .bl b=>.ok b
 |_=>.st
def tst(f:En->Rs D):En->Rs Bool:=λ ρ=>(f ρ).bd aHW
def tsb(f:En->Rs D):En->Rs Bool:=λ ρ=>(f ρ).bd blD
def yd{K:zAA}{A:Addr->Prop}{H:Hp}{xs:List V}{ds:List D}(r:Rps K A H xs ds):(!ds.isEmpty)= !xs.isEmpty:=by cases r<;>rfl
def cH(ha:SE C m a fa)(he:∀i whole,isTrue a (C.X i).env whole=(do let v <-whole;zGb a.pos;zDR [v] (truthy v)):=by intro _ _;rfl):ST C a (tst fa):=by
 obtain⟨t,h1,h2⟩:=ha;refine⟨λ σ H Q=>t σ H λ x H'=>∃k,aOK C.K x H' k/\Q k H',λ i=>by rw[<-C.hK i];exact aID (h1 i) (he i),λ U σ H ρ lab Q R W=>h2 U σ H ρ lab _ R (W.bd.imp λ d _ w x H1 s1 r1=>?_)⟩;cases r1 with
 |non=>exact⟨false,rfl,w H1 s1⟩
 |bl b=>exact⟨b,rfl,w H1 s1⟩
 |int i=>exact⟨i !=0,rfl,w H1 s1⟩
 |tup h r=>exact⟨_,.inr (.inl ⟨_,h,rfl⟩),by rw[<-yd r];exact w H1 s1⟩
 |lst h m r=>exact⟨_,.inl ⟨_,SqL.of h,rfl⟩,by rw[<-yd r];exact w H1 s1⟩
 |_=>exact zAR w
def aFL{K:zAA}{G:Gx}{t:TE}{f:En->Rs D}(h:jW K G m t f):aEt K G (aHY t) (tsb f):=λ U σ H ρ lab Q R W=>h U σ H ρ lab _ R (W.bd.imp λ d _ w x H1 s1 r1=>by
 cases r1 with
 |bl b=>exact⟨b,rfl,w H1 s1⟩
 |_=>exact zAR w)
def lu(ro:∀i,OpR (C.X i) (zAs op) r)(hs:OpS C.K r fd)(ha:SE C m1 a fa)(hb:SE C m2 b fb)(hm:zCS op b=false:=by first|exact aI5 _|(with_unfolding_all rfl)):
  ST C (.Compare a [op] [b] pos) (tsb (op2 fd fa fb)):=by
 obtain⟨t,h1,h2⟩:=ha;obtain⟨u,k1,k2⟩:=hb;exact⟨_,λ i=>aK0 (ro i) (h1 i) (k1 i) hm,aFL (aAn hs h2 k2)⟩
def aH4(ro:∀i,OpR (C.X i) (zAs op) r)(hs:OpS C.K r fd)(ro':∀i,OpR (C.X i) (zAs op') r')(hs':OpS C.K r' fd')(hi:∀x y z,fd' x y= .ok z->imm z=true)
  (ha:SE C m1 a fa)(hb:SE C m2 b fb)(hc:SE C m3 c fc)(hm:zEy [op,op'] [b,c]=false:=by with_unfolding_all rfl):ST C (.Compare a [op,op'] [b,c] pos) (tsb (chD fd fd' fa fb fc)):=by
 obtain⟨t,h1,h2⟩:=ha;obtain⟨u,k1,k2⟩:=hb;obtain⟨v,l1,l2⟩:=hc;exact⟨_,λ i=>aIE (ro i) (ro' i) (h1 i) (k1 i) (l1 i) hm,aFL (aAI hs hs' hi h2 k2 l2)⟩
variable{ga gb:En->Rs Bool}
def aEq(f g:En->Rs Bool):En->Rs Bool:=λ ρ=>(f ρ).bd λ k=>if k=true then g ρ else .ok false
def orT(f g:En->Rs Bool):En->Rs Bool:=λ ρ=>(f ρ).bd λ k=>if k=true then .ok true else g ρ
def gU(f:En->Rs Bool):En->Rs Bool:=λ ρ=>(f ρ).bd λ k=>.ok (!k)
def aFB(ha:ST C a ga):SW C (.BoolOp .And [a] pos) ga:=let⟨t,h1,h2⟩:=ha;⟨t,λ i=>aKZ (h1 i),h2⟩
def lr(ha:ST C a ga):SW C (.BoolOp .Or [a] pos) ga:=let⟨t,h1,h2⟩:=ha;⟨t,λ i=>aMq (h1 i),h2⟩
def aHZ(ha:ST C a ga)(hb:SW C (.BoolOp .And (b::rest) pos) gb):SW C (.BoolOp .And (a::b::rest) pos) (aEq ga gb):=by
 obtain⟨t,h1,h2⟩:=ha;obtain⟨u,k1,k2⟩:=hb;refine⟨_,λ i=>aMr (h1 i) (k1 i),λ U σ H ρ lab Q R W=>h2 U σ H ρ lab _ R (W.bd.imp λ k _ w H1 s1=>?_)⟩;cases k with
 |true=>
  rw[if_pos rfl]at w ⊢;exact k2 U σ H1 ρ lab Q (R.up s1) (w.imp λ z _ w H' s=>w H' (s1.trans s))
 |false=>
  rw[if_neg zAX]at w ⊢;exact w H1 s1
def mV(ha:ST C a ga)(hb:SW C (.BoolOp .Or (b::rest) pos) gb):SW C (.BoolOp .Or (a::b::rest) pos) (orT ga gb):=by
 obtain⟨t,h1,h2⟩:=ha;obtain⟨u,k1,k2⟩:=hb;refine⟨_,λ i=>aO8 (h1 i) (k1 i),λ U σ H ρ lab Q R W=>h2 U σ H ρ lab _ R (W.bd.imp λ k _ w H1 s1=>?_)⟩;cases k with
 |false=>
  rw[if_neg zAX]at w ⊢;exact k2 U σ H1 ρ lab Q (R.up s1) (w.imp λ z _ w H' s=>w H' (s1.trans s))
 |true=>
  rw[if_pos rfl]at w ⊢;exact w H1 s1
def cT(ha:ST C a ga):ST C (.UnaryOp .Not a pos) (gU ga):=by
 obtain⟨t,h1,h2⟩:=ha;exact⟨_,λ i=>aMt (h1 i),λ U σ H ρ lab Q R W=>h2 U σ H ρ lab _ R (W.bd.imp λ k _ w H1 s1=>w H1 s1)⟩
end
inductive Ou where
 |nx (ρ:En)|rt (d:D)|bk (ρ:En)|ct (ρ:En)|ex (c:Str)|st
noncomputable def Rs.bo{α:Type}:Rs α->(α->Ou)->Ou
 | .ok a,f=>f a
 | .ex c,_=>.ex c
 | .st,_=>.st
@[simp] def bF(a:α)(f:α->Ou):(Rs.ok a).bo f=f a:=aO rfl
noncomputable def Ou.sq:Ou->(En->Ou)->Ou
 | .nx ρ,f=>f ρ
 |o,_=>o
@[simp] def aU(ρ:En)(f:En->Ou):(Ou.nx ρ).sq f=f ρ:=aO rfl
@[simp] def sq_rt(d:D)(f:En->Ou):(Ou.rt d).sq f= .rt d:=aO rfl
@[simp] def sq_ex(c:Str)(f:En->Ou):(Ou.ex c).sq f= .ex c:=aO rfl
def WS(K:zAA)(G:Gx)(U:List (V×D))(o:Ou)(De:Ends):Prop:=match o with
 | .nx ρ=>∀σ H lab,RR K G U ρ σ H lab->De.nx σ H
 | .bk ρ=>∀σ H lab,RR K G U ρ σ H lab->De.bk σ H
 | .ct ρ=>∀σ H lab,RR K G U ρ σ H lab->De.ct σ H
 | .rt d=>∀v H,aX G.H0 H->Rp K (λ p=>G.H0 p=none) H v d->De.rt v H
 | .ex c=>∀H',aX G.H0 H'->G.E (.ref (G.cl c)) none H'
 | .st=>False
theorem WS.bo{K:zAA}(h:WS K G U (r.bo k) De):WR G r (λ a=>WS K G U (k a) De):=by
 cases r with
 |ok a=>exact h
 |ex c=>exact h
 |st=>exact h
def aPD(K:zAA)(G:Gx)(t:TS)(f:En->Ou):Prop:=∀U σ H ρ lab (De:Ends),RR K G U ρ σ H lab->WS K G U (f ρ) De->t De σ H
def SS(C:Ct)(s:Stmt)(f:En->Ou):Prop:=∃t,(∀i,PS (C.X i) s t)/\aPD C.K C.G t f
def SSs(C:Ct)(s:List Stmt)(f:En->Ou):Prop:=∃t,(∀i,PSs (C.X i) s t)/\aPD C.K C.G t f
section
variable{C:Ct}{pos:Pos}{s:Stmt}{ss:List Stmt}{f g:En->Ou}{e:Expr}{m:Mode}{fe:En->Rs D}
def bB:SSs C [] .nx:=⟨_,λ _=>aK2,λ U σ H ρ lab De R W=>W σ H lab R⟩
def aY(f g:En->Ou):En->Ou:=λ ρ=>(f ρ).sq g
def aH(h:SS C s f):SSs C [s] f:=let⟨t,h1,h2⟩:=h;⟨t,λ i=>aK1 (h1 i),h2⟩
def aG(h:SS C s f)(k:SSs C ss g):SSs C (s::ss) (aY f g):=by
 obtain⟨t,h1,h2⟩:=h;obtain⟨u,k1,k2⟩:=k;refine⟨_,λ i=>aIF (h1 i) (k1 i),λ U σ H ρ lab De R W=>h2 U σ H ρ lab _ R ?_⟩;unfold aY at W;cases h:f ρ with
 |nx ρ'=>rw[h]at W;exact λ σ' H' lab' R'=>k2 U σ' H' ρ' lab' De R' W
 |rt d=>rw[h]at W;exact W
 |bk ρ'=>rw[h]at W;exact W
 |ct ρ'=>rw[h]at W;exact W
 |ex c=>rw[h]at W;exact W
 |st=>rw[h]at W;exact W
def frz(i:Nat)(ρ:En):En:=match ρ[i]? with
 |some (.ow d)=>ρ.set i (.nw d)
 |some (.o2 l)=>ρ.set i (.nw (.lst (l.map .lst)))
 |_=>ρ
def aOj:Mode->Bool
 |some L=>L.all (·!=0)
 |none=>false
def retS(fe:En->Rs D):En->Ou:=λ ρ=>(fe ρ).bo .rt
def aW(he:SE C m e fe)(hm:aOj m=true:=by rfl):SS C (.Return (some e) pos) (retS fe):=by
 obtain⟨t,h1,h2⟩:=he;refine⟨_,λ i=>aMu (h1 i),λ U σ H ρ lab De R W=>h2 U σ H ρ lab _ R (W.bo.imp λ d _ w v H' s r=>w v H' (R.old.trans s) (r.wk λ p o _ z=>?_))⟩;rcases z with z|z
 .exact R.old.free z
 .cases m with
  |none=>cases hm
  |some L=>
   refine R.new p λ e0=>?_
   have:=zAr.mp hm _ z
   rw[e0]at this;simp at this
def qG(fe:En->Rs D):En->Ou:=λ ρ=>(fe ρ).bo λ _=>.nx ρ
def tL(he:SE C m e fe)(hs:∀i,zCd e none pos.line (C.X i).env=pure false:=by intro _;rfl):SS C (.Expr e pos) (qG fe):=by
 obtain⟨t,h1,h2⟩:=he;exact⟨_,λ i=>tX (h1 i) (hs i),λ U σ H ρ lab De R W=>h2 U σ H ρ lab _ R (W.bo.imp λ d _ w v H' s r=>w σ H' lab (R.up s))⟩
def ifS(c:En->Rs Bool)(f g:En->Ou):En->Ou:=λ ρ=>(c ρ).bo λ k=>if k=true then f ρ else g ρ
def bx{a b:List Stmt}(hc:ST C c fc)(ha:SSs C a f)(hb:SSs C b g):SS C (.If c a b pos) (ifS fc f g):=by
 obtain⟨tc,c1,c2⟩:=hc;obtain⟨t,h1,h2⟩:=ha;obtain⟨u,k1,k2⟩:=hb;refine⟨_,λ i=>aO9 (c1 i) (h1 i) (k1 i),λ U σ H ρ lab De R W=>c2 U σ H ρ lab _ R (W.bo.imp λ k _ w H1 s1=>?_)⟩;cases k with
 |true=>rw[if_pos rfl]at w ⊢;exact h2 U σ H1 ρ lab De (R.up s1) w
 |false=>rw[if_neg zAX]at w ⊢;exact k2 U σ H1 ρ lab De (R.up s1) w
def SV(C:Ct)(i:Nat)(s:Stmt)(m:Mode)(f:En->Rs D):Prop:=∃t,(∀j,PS (C.X j) s (aDl t (qw i)))/\jW C.K C.G m t f
def jy(he:SE C m e fe)(hN:∀j,(C.X j).N[i]? =some x:=by intro _;rfl)(hx:∀j,Loc (C.X j).env.scope x:=by intro _;first|exact zC8 rfl|exact zBy rfl)(hs:∀j,zCd e (some (.Name x pos')) pos.line (C.X j).env=pure false:=by intro _;rfl)(hf:∀j,(C.X j).fn x=true\/(C.X j).env.scope.names.lookup x=some .local:=by intro _;first|exact .inl rfl|exact .inr rfl)(nd:∀j,(C.X j).N.Nodup:=by intro _;assumption):
  SV C i (.Assign [.Name x pos'] e pos) m fe:=by
 obtain⟨t,h1,h2⟩:=he;exact⟨t,λ j=>aII (nd j) (hN j) (hx j) (h1 j) (hs j) (hf j),h2⟩
def SVF(C:Ct)(i:Nat)(s:Stmt)(m:Mode)(f:En->Rs D):Prop:=∃t,(∀j,PS (C.X j) s (aDl t (qw i)))/\aOL C.K C.G m t f
def mW(he:SF C m e fe)(hN:∀j,(C.X j).N[i]? =some x:=by intro _;rfl)(hx:∀j,Loc (C.X j).env.scope x:=by intro _;first|exact zC8 rfl|exact zBy rfl)(hs:∀j,zCd e (some (.Name x pos')) pos.line (C.X j).env=pure false:=by intro _;rfl)(hf:∀j,(C.X j).fn x=true\/(C.X j).env.scope.names.lookup x=some .local:=by intro _;first|exact .inl rfl|exact .inr rfl)(nd:∀j,(C.X j).N.Nodup:=by intro _;assumption):
  SVF C i (.Assign [.Name x pos'] e pos) m fe:=by
 obtain⟨t,h1,h2⟩:=he;exact⟨t,λ j=>aII (nd j) (hN j) (hx j) (h1 j) (hs j) (hf j),h2⟩
def aF6(P:Nat->Bool):Mode->Bool
 |some L=>L.all P
 |none=>false
def qO(h:aF6 P m=true):∀k,inM m k->P k=true:=by
 intro k hk;cases m with
 |none=>cases h
 |some L=>exact zAr.mp h k hk
abbrev okS:Mode->Bool:=aF6 λ k=>decide (k<=1)
abbrev okN:Mode->Bool:=aF6 λ k=>k==1
abbrev okO(i:Nat):Mode->Bool:=aF6 λ k=>k==1||k==i+2
def eF(i:Nat)(fe:En->Rs D):En->Ou:=λ ρ=>(fe ρ).bo λ d=>.nx (ρ.set i (.sh d))
def ur(i:Nat)(fe:En->Rs D):En->Ou:=λ ρ=>(fe ρ).bo λ d=>.nx (ρ.set i (.nw d))
def iT(i:Nat)(fe:En->Rs D):En->Ou:=λ ρ=>(fe ρ).bo λ d=>.nx (ρ.set i (.ow d))
def RR.shared{K:zAA}(hm:okS m=true)(R:RR K G U ρ σ H lab)(s:aX H H')(r:Rp K (fpM m lab H) H' v d):
  RR K G U ρ σ H' (cJ H 1 lab)/\Rp K (λ p=>(cJ H 1 lab p).1<=1) H' v d:=R.fresh (P:=λ k=>k<=1) (by decide) (λ k hk=>of_decide_eq_true (qO hm k hk)) s r
def bz{i:Nat}(h:SV C i s m fe)(hm:okS m=true:=by rfl):SS C s (eF i fe):=by
 obtain⟨t,h1,h2⟩:=h;refine⟨_,h1,λ U σ H ρ lab De R W=>h2 U σ H ρ lab _ R (W.bo.imp λ d _ w v H' s r=>?_)⟩;obtain⟨R',r'⟩:=R.shared hm s r;exact w _ _ _ (R'.put (s:=.sh d) r')
def nU(h:SV C i s m fe)(hm:okN m=true:=by rfl):SS C s (ur i fe):=by
 obtain⟨t,h1,h2⟩:=h;refine⟨_,h1,λ U σ H ρ lab De R W=>h2 U σ H ρ lab _ R (W.bo.imp λ d _ w v H' s r=>?_)⟩;obtain⟨R',r'⟩:=R.fresh (P:=λ k=>k=1) rfl (λ k hk=>beq_iff_eq.mp (qO hm k hk)) s r;exact w _ _ _ (R'.put (s:=.nw d) r')
def fK(h:SVF C i s m fe)(hm:okO i m=true:=by rfl):SS C s (iT i fe):=by
 obtain⟨t,h1,h2⟩:=h;refine⟨_,h1,λ U σ H ρ lab De R W=>h2 U σ H ρ lab _ R (W.bo.imp λ d _ w v H' s r ht=>?_)⟩;obtain⟨lab',R',r'⟩:=R.freshO i (λ k hk=>by have:=qO hm k hk;simpa using this) s r ht;exact w _ _ _ (R'.put (s:=.ow d) r')
def aLp(K:zAA)(G:Gx)(g:TG)(fg:D->En->Rs En):Prop:=∀U v d σ H ρ lab (Q:L2.St->Hp->Prop) ρ',RR K G U ρ σ H lab->Rp K (λ p=>(lab p).1<=1) H v d->fg d ρ= .ok ρ'->(∀σ',RR K G U ρ' σ' H lab->Q σ' H)->g v σ H Q
def aPE(K:zAA)(G:Gx)(g:TGs)(fg:List D->En->Rs En):Prop:=∀U vs ds σ H ρ lab (Q:L2.St->Hp->Prop) ρ',RR K G U ρ σ H lab->Rps K (λ p=>(lab p).1<=1) H vs ds->fg ds ρ= .ok ρ'->(∀σ',RR K G U ρ' σ' H lab->Q σ' H)->g vs σ H Q
def SG(C:Ct)(tg:Expr)(ks:List Nat)(fg:D->En->Rs En):Prop:=∃g,(∀i,PG (C.X i) tg g)/\aLp C.K C.G g fg/\ug g ks/\aDd g
def SGs(C:Ct)(tg:List Expr)(ks:List Nat)(fg:List D->En->Rs En):Prop:=∃g,(∀i,PGs (C.X i) tg g)/\aPE C.K C.G g fg/\zU g ks/\v5 g
def gnm(i:Nat):D->En->Rs En:=λ d ρ=>.ok (ρ.set i (.sh d))
def fP:List D->En->Rs En:=λ ds ρ=>match ds with
 |[]=>.ok ρ
 |_=>.st
def aa(f:D->En->Rs En)(g:List D->En->Rs En):List D->En->Rs En:=λ ds ρ=>match ds with
 |d::r=>(f d ρ).bd (g r)
 |_=>.st
def fD(n:Nat)(g:List D->En->Rs En):D->En->Rs En:=λ d ρ=>match d with
 | .tup ds=>if ds.length=n then g ds ρ else .st
 |_=>.st
variable{ks:List Nat}{fg:D->En->Rs En}{fgs:List D->En->Rs En}{tg:Expr}{tgs:List Expr}
def ak(hN:∀j,(C.X j).N[i]? =some x:=by intro _;rfl)(hx:∀j,Loc (C.X j).env.scope x:=by intro _;first|exact zC8 rfl|exact zBy rfl)(hf:∀j,(C.X j).fn x=true\/(C.X j).env.scope.names.lookup x=some .local:=by intro _;first|exact .inl rfl|exact .inr rfl)(nd:∀j,(C.X j).N.Nodup:=by intro _;assumption)(hk:i∈ks:=by decide):SG C (.Name x pos) ks (gnm i):=
 ⟨_,λ j=>aK6 (nd j) (hN j) (hx j) (hf j),λ U v d σ H ρ lab Q ρ' R r e q=>by cases e;exact q _ (R.put (s:=.sh d) r),aL1 hk,aL3⟩
def iB:SGs C [] ks fP:=by
 refine⟨_,λ _=>aK5,λ U vs ds σ H ρ lab Q ρ' R r e q=>?_,aL0,aL2⟩;cases r with
 |nil=>cases e;exact⟨rfl,q _ R⟩
 |cons _ _=>cases e
def bV(h:SG C tg ks fg)(k:SGs C tgs ks fgs)(hs:∀i,(zCg (tg::tgs) (C.X i).env).map (·.2)=zDp tg (C.X i).env::(zCg tgs (C.X i).env).map (·.2):=by intro _;rfl):SGs C (tg::tgs) ks (aa fg fgs):=by
 obtain⟨g,h1,h2,h3,h4⟩:=h;obtain⟨u,k1,k2,k3,k4⟩:=k;refine⟨_,λ i=>aIQ (h1 i) (k1 i) (hs i),λ U vs ds σ H ρ lab Q ρ' R r e q=>?_,aJF h3 h4 k3 k4,aJJ h4 k4⟩;cases r with
 |nil=>cases e
 |cons h r=>
  obtain⟨ρ1,e1,e2⟩:=dW e;exact⟨_,_,rfl,h2 U _ _ σ H ρ lab _ ρ1 R h e1 λ σ1 R1=>k2 U _ _ σ1 H ρ1 lab Q ρ' R1 r e2 q⟩
def kE(h:SGs C tgs ks fgs)(hn:∀i,(zCg tgs (C.X i).env).length=n:=by intro _;rfl)(hst:∀i,(zCg tgs (C.X i).env).findIdx? (·.1)=none:=by intro _;rfl):SG C (.Tuple tgs k pos) ks (fD n fgs):=by
 obtain⟨u,k1,k2,k3,k4⟩:=h;refine⟨aL4 C.K n u,λ i=>by rw[<-C.hK i];exact aMz (C.calm i) (k1 i) (hn i) (hst i),λ U v d σ H ρ lab Q ρ' R r e q=>?_,aNt k3,aNu k4⟩;cases r with
 |tup h r=>
  unfold fD at e;dsimp only at e;split at e
  .rename_i hl
   exact⟨_,_,rfl,h,by rw[r.length];exact hl,k2 U _ _ σ H ρ lab Q ρ' R r e q⟩
  .cases e
 |_=>cases e
def aAB(fe:En->Rs D)(fg:D->En->Rs En):En->Ou:=λ ρ=>(fe ρ).bo λ d=>match fg d ρ with
 | .ok ρ'=>.nx ρ'
 |_=>.st
def xU(he:SE C m e fe)(hg:SG C tg ks fg)(hm:okS m=true:=by rfl)(hs:∀i,zH0 [tg] e pos.line (C.X i).env=pure false:=by intro _;rfl)(hw:∀i,zHZ [tg] e (C.X i).env=pure none:=by intro _;rfl)
  (h1:∀i,(zCg [tg] (C.X i).env).map (·.2)=[zDp tg (C.X i).env]:=by intro _;rfl):SS C (.Assign [tg] e pos) (aAB fe fg):=by
 obtain⟨t,p1,p2⟩:=he;obtain⟨g,q1,q2,_,_⟩:=hg;refine⟨_,λ i=>aIL (p1 i) (q1 i) (hs i) (hw i) (h1 i),λ U σ H ρ lab De R W=>p2 U σ H ρ lab _ R (W.bo.imp λ d _ w v H' s r=>?_)⟩;obtain⟨R',r'⟩:=R.shared hm s r;cases hgd:fg d ρ with
 |ok ρ'=>rw[hgd]at w;exact q2 U v d σ H' ρ _ _ ρ' R' r' hgd λ σ' R2=>w σ' H' _ R2
 |ex c=>rw[hgd]at w;exact zAR w
 |st=>rw[hgd]at w;exact zAR w
def JL(K:zAA)(lab:Lab)(J:It)(H:Hp)(ds:List D):Prop:=∀i,(ds.length<=i->J.stop i H)/\(i<ds.length->J.go i H/\∀x H',J.yld i H x H'->aX H H'/\∃d,ds[i]? =some d/\Rp K (λ p=>(lab p).1<=1) H' x d)
def aLo(K:zAA)(G:Gx)(wi:TI)(f:En->Rs (List D)):Prop:=∀U σ H ρ lab (Rr:It->Hp->Prop),RR K G U ρ σ H lab->
 WR G (f ρ) (λ ds=>∀J H1 lab1 U1,aX H H1->(∀p o,H p=some o->lab1 p=lab p)->RR K G (U1++U) ρ σ H1 lab1->(∀lab' H',(∀q∈U1,Rp K (λ p=>(lab' p).1<=1) H' q.1 q.2)->JL K lab' J H' ds)->Rr J H1)->wi σ H Rr
def SI(C:Ct)(tg iter:Expr)(f:En->Rs (List D)):Prop:=∃wi,(∀i,PI (C.X i) tg iter wi)/\aLo C.K C.G wi f
def aOt(K:zAA)(tl:TE):TI:=λ σ H R=>tl σ H λ x H1=>∃a,x= .ref a/\(((∃xs,SqL K H1 a xs)/\R (Itl K a) H1)\/((∃xs,SqT K H1 a xs)/\R (Itt K a) H1))
def aMy(hl:PE X l tl):PI X tg l (aOt X.K tl):=by
 intro iX s σ H R I h;refine thn (hl iX s σ H _ I h) λ v s1 ⟨x,H1,I1,r1,a,e,q1⟩=>?_
 subst e;cases r1;have hp:∀b∈[s1.heap.objs.size],tD X iX H1 b:=λ b hb=>by
  have e:b=s1.heap.objs.size:=by simpa using hb
  rw[e];exact I1.fpOk (zAT _) (I1.hok.fresh (zAT _))
 rcases q1 with ⟨⟨xs,hq⟩,q⟩|⟨⟨xs,hq⟩,q⟩
 .obtain⟨its,rv,p,hz⟩:=I1.list hq
  refine zDa p.isList ?_;exact⟨_,_,_,_,H1,rfl,I1.kept (t':=s1.toks) λ b o e=>zAC _ e,aGO a _,⟨_,zAO _ rfl,rfl,rfl⟩,hp,q⟩
 .obtain⟨its,rv,p,hz⟩:=I1.tuple hq
  refine zDU (show s1.heap.IsTuple a its.toArray from p) ?_;exact⟨_,_,_,_,H1,rfl,I1.kept (t':=s1.toks) λ b o e=>zAC _ e,aDh a _,⟨_,zAO _ rfl,rfl,rfl⟩,hp,q⟩
def itD:D->Rs (List D)
 | .tup l=>.ok l
 | .lst l=>.ok l
 | .scr l=>.ok (l.map .int)
 |_=>.st
def bu(fe:En->Rs D):En->Rs (List D):=λ ρ=>(fe ρ).bd itD
def aFn{K:zAA}(h:SqL K H a xs)(r:Rps K (λ p=>(lab p).1<=1) H xs ds):JL K lab (Itl K a) H ds:=by
 have hl:=r.length;refine λ i=>⟨λ hi=>⟨xs,h,by lia⟩,λ hi=>⟨⟨xs,xs[i]'(by lia),h,by simp[hl,hi]⟩,λ x H' y=>?_⟩⟩
 obtain⟨e,y⟩:=y;subst e;obtain⟨d,h1,h2⟩:=r.get (y xs h);exact⟨aX.refl _,d,h1,h2⟩
def aNk{K:zAA}(h:SqT K H a xs)(r:Rps K (λ p=>(lab p).1<=1) H xs ds):JL K lab (Itt K a) H ds:=by
 have hl:=r.length;refine λ i=>⟨λ hi=>⟨xs,h,by lia⟩,λ hi=>⟨⟨xs,xs[i]'(by lia),h,by simp[hl,hi]⟩,λ x H' y=>?_⟩⟩
 obtain⟨e,y⟩:=y;subst e;obtain⟨d,h1,h2⟩:=r.get (y xs h);exact⟨aX.refl _,d,h1,h2⟩
def bj(he:SE C m e fe)(hm:okS m=true:=by rfl):SI C tg e (bu fe):=by
 obtain⟨t,p1,p2⟩:=he;refine⟨aOt C.K t,λ i=>by rw[<-C.hK i];exact aMy (p1 i),λ U σ H ρ lab Rr R W=>p2 U σ H ρ lab _ R (W.bd.imp λ d _ w v H1 s r=>?_)⟩;obtain⟨R',r'⟩:=R.shared hm s r;cases d with
 |tup l=>
  cases r' with
  |tup h q=>
   rename_i a xs;refine⟨_,rfl,.inr ⟨⟨_,h⟩,w _ H1 _ [(.ref a,.tup l)] s (λ p o e=>bf e) ⟨R'.len,R'.sl,R'.old,R'.new,λ z hz=>?_⟩ λ lab' H' hq=>?_⟩⟩
   .rcases zAL.mp hz with rfl|hz
    .exact .tup h q
    .exact R'.tm z hz
   .have z:=hq _ (zAH ..)
    cases z with
    |tup h' q'=>exact aNk h' q'
 |lst l=>
  cases r' with
  |lst h mm q=>
   rename_i a xs;refine⟨_,rfl,.inl ⟨⟨_,SqL.of h⟩,w _ H1 _ [(.ref a,.lst l)] s (λ p o e=>bf e) ⟨R'.len,R'.sl,R'.old,R'.new,λ z hz=>?_⟩ λ lab' H' hq=>?_⟩⟩
   .rcases zAL.mp hz with rfl|hz
    .exact .lst h mm q
    .exact R'.tm z hz
   .have z:=hq _ (zAH ..)
    cases z with
    |lst h' _ q'=>exact aFn (SqL.of h') (q'.wk λ _ _ _ z=>z.1)
 |scr l=>
  cases r' with
  |scr h=>
   rename_i a;refine⟨_,rfl,.inl ⟨⟨_,h.sq⟩,w _ H1 _ [(.ref a,.scr l)] s (λ p o e=>bf e) ⟨R'.len,R'.sl,R'.old,R'.new,λ z hz=>?_⟩ λ lab' H' hq=>?_⟩⟩
   .rcases zAL.mp hz with rfl|hz
    .exact .scr h
    .exact R'.tm z hz
   .have z:=hq _ (zAH ..)
    cases z with
    |scr h'=>exact aFn h'.sq Rps.ints
 |_=>exact zAR w
end
section
variable{C:Ct}{pos:Pos}{s:Stmt}{ss:List Stmt}{f:En->Ou}{e a b:Expr}{es:List Expr}{m:Mode}{fa:En->Rs D}{ks:List Nat}{fg:D->En->Rs En}{tg:Expr}{fi:En->Rs (List D)}{ga:En->Rs (List D)}
def bN(lo hi:Int):List D:=(zAu (hi-lo).toNat).map λ(k:Nat)=>.int (lo+(k:Int))
def kW:List D->Rs (List D)
 |[.int j]=>if -(2^62)<=j/\j<2^62 then .ok (bN 0 j)else .st
 |_=>.st
def aDv:List D->Rs (List D)
 |[.int i,.int j]=>if (-(2^62)<=i/\i<2^62)/\(-(2^62)<=j/\j<2^62)then .ok (bN i j)else .st
 |_=>.st
def ig(r:List D->Rs (List D))(ga:En->Rs (List D)):En->Rs (List D):=λ ρ=>(ga ρ).bd r
def aIo{K:zAA}{lo hi:Int}:JL K lab (Itr lo (hi-lo).toNat) H (bN lo hi):=by
 have hl:(bN lo hi).length=(hi-lo).toNat:=by unfold bN;simp
 refine λ i=>⟨λ h=>by show(hi-lo).toNat<=i;lia,λ h=>⟨by show i<(hi-lo).toNat;lia,λ x H' y=>?_⟩⟩
 obtain⟨e,rfl⟩:=y;subst e;refine⟨aX.refl _,.int (lo+i),?_,.int _⟩;unfold bN;rw[zA2,zEo (by lia)];rfl
def jK(ha:SA C m [a] ga)(hm:C.mg "range"=none)(hs:∀i,zA1 [a] (C.X i).env=[(false,eval a (C.X i).env)]:=by intro _;rfl)(hg:∀i,Gl (C.X i) "range":=by intro _;rfl):SI C tg (.Call (.Name "range" p) [a] [] pos) (ig kW ga):=by
 obtain⟨t,h1,h2⟩:=ha;refine⟨_,λ i=>aG7 (hg i) (by rw[(C.cx i).2.2.2.1];exact hm) (h1 i) (hs i),λ U σ H ρ lab Rr R W=>h2 U σ H ρ lab _ R (W.bd.imp λ ds _ w vs H1 s r=>?_)⟩;unfold kW at w;split at w
 .rename_i j _
  split at w
  .rename_i hj
   cases r with
   |cons h r=>
    cases h;cases r;refine⟨j,rfl,hj.1,hj.2,?_⟩;have z:=w (Itr 0 (j-0).toNat) H1 lab [] s (λ _ _ _=>rfl) (R.up s) λ lab' H' _=>aIo
    rwa [Int.sub_zero]at z
  .exact zAR w
 .exact zAR w
def aFO(ha:SA C m [a,b] ga)(hm:C.mg "range"=none)(hs:∀i,zA1 [a,b] (C.X i).env=[(false,eval a (C.X i).env),(false,eval b (C.X i).env)]:=by intro _;rfl)(hs2:∀i,zA1 [b] (C.X i).env=[(false,eval b (C.X i).env)]:=by intro _;rfl)(hg:∀i,Gl (C.X i) "range":=by intro _;rfl):SI C tg (.Call (.Name "range" p) [a,b] [] pos) (ig aDv ga):=by
 obtain⟨t,h1,h2⟩:=ha;refine⟨_,λ i=>aG6 (hg i) (by rw[(C.cx i).2.2.2.1];exact hm) (h1 i) (hs i) (hs2 i),λ U σ H ρ lab Rr R W=>h2 U σ H ρ lab _ R (W.bd.imp λ ds _ w vs H1 s r=>?_)⟩;unfold aDv at w;split at w
 .rename_i i j _
  split at w
  .rename_i hj
   cases r with
   |cons h r=>
    cases h;cases r with
    |cons h r=>
     cases h;cases r;exact⟨i,j,rfl,⟨hj.1.1,hj.1.2,hj.2.1,hj.2.2⟩,w (Itr i (j-i).toNat) H1 lab [] s (λ _ _ _=>rfl) (R.up s) λ lab' H' _=>aIo⟩
  .exact zAR w
 .exact zAR w
def forL(fg:D->En->Rs En)(b:En->Ou):List D->En->Ou
 |[],ρ=>.nx ρ
 |d::ds,ρ=>match fg d ρ with
  | .ok ρ1=>match b ρ1 with
   | .nx ρ2=>forL fg b ds ρ2
   | .ct ρ2=>forL fg b ds ρ2
   | .bk ρ2=>.nx ρ2
   |o=>o
  |_=>.st
def gB(fi:En->Rs (List D))(fg:D->En->Rs En)(b:En->Ou):En->Ou:=λ ρ=>(fi ρ).bo λ ds=>forL fg b ds ρ
def cI(hi:SI C tg e fi)(hg:SG C tg ks fg)(hb:SSs C ss f)(hs:∀i,∀x,zBs e (C.X i).env x=pure x:=by intro _ _;rfl):SS C (.For tg e ss [] pos) (gB fi fg f):=by
 obtain⟨wi,i1,i2⟩:=hi;obtain⟨gg,g1,g2,_,g4⟩:=hg;obtain⟨tb,b1,b2⟩:=hb;refine⟨_,λ i=>aMv (C.own i) (C.calm i) (i1 i) (g1 i) (b1 i) (hs i),λ U σ H ρ lab De R W=>i2 U σ H ρ lab _ R (W.bo.imp λ ds _ w J H1 lab1 U1 s1 _ R1 jl=>?_)⟩;refine⟨λ i n σ' H'=>∃ρ' lab',RR C.K C.G (U1++U) ρ' σ' H' lab'/\n=ds.length-i/\i<=ds.length/\WS C.K C.G U (forL fg f (ds.drop i) ρ') De,⟨ds.length,ρ,lab1,R1,by lia,by lia,w⟩,?_⟩;rintro i n σ' H' ⟨ρ',lab',R',rfl,hi,w'⟩;have jj:=jl lab' H' λ q hq=>R'.tm q (zAQ _ hq)
 by_cases hlt:i<ds.length
 .obtain⟨go,yl⟩:=(jj i).2 hlt
  refine .inr ⟨go,λ σ2 H2=>∃ρ2 lab2,RR C.K C.G (U1++U) ρ2 σ2 H2 lab2/\WS C.K C.G U (forL fg f (ds.drop (i+1)) ρ2) De,λ σ2 H2 ⟨ρ2,lab2,R2,w2⟩=>⟨ds.length-(i+1),by lia,ρ2,lab2,R2,rfl,hlt,w2⟩,λ x H2 hy=>?_⟩;obtain⟨s2,d,ed,rx⟩:=yl x H2 hy;replace R':=R'.up s2;have ed2:ds.drop i=d::ds.drop (i+1):=by
   rw[zBn hlt]
   have:=zAD hlt
   rw[ed]at this;cases this;rfl
  rw[ed2]at w';unfold forL at w';cases eg:fg d ρ' with
  |ex c=>rw[eg]at w';exact zAR w'
  |st=>rw[eg]at w';exact zAR w'
  |ok ρ1=>
   rw[eg]at w';refine g2 (U1++U) x d σ' H2 ρ' lab' _ ρ1 R' rx eg λ σ1 R1'=>b2 (U1++U) σ1 H2 ρ1 lab' _ R1' ?_
   dsimp only at w';cases eb:f ρ1 with
   |nx ρ2=>rw[eb]at w';exact λ σ2 H3 lab2 R2=>⟨ρ2,lab2,R2,w'⟩
   |ct ρ2=>rw[eb]at w';exact λ σ2 H3 lab2 R2=>⟨ρ2,lab2,R2,w'⟩
   |bk ρ2=>rw[eb]at w';exact λ σ2 H3 lab2 R2=>w' σ2 H3 lab2 R2.drop
   |rt d=>rw[eb]at w';exact w'
   |ex c=>rw[eb]at w';exact w'
   |st=>rw[eb]at w';exact w'
 .have e:i=ds.length:=by lia
  subst e;rw[zES]at w';exact .inl ⟨(jj _).1 (zAT _),w' σ' H' lab' R'.drop⟩
def itW(c:En->Rs Bool)(b:En->Ou):Nat->En->Ou
 |0,_=>.st
 |n+1,ρ=>(c ρ).bo λ k=>if k=true then(match b ρ with
   | .nx ρ2=>itW c b n ρ2
   | .ct ρ2=>itW c b n ρ2
   | .bk ρ2=>.nx ρ2
   |o=>o)else .nx ρ
def fuel:Nat:=1000000
def rB(c:En->Rs Bool)(b:En->Ou):En->Ou:=itW c b fuel
def xT(hc:ST C c fc)(hb:SSs C ss f):SS C (.While c ss [] pos) (rB fc f):=by
 obtain⟨tc,c1,c2⟩:=hc;obtain⟨tb,b1,b2⟩:=hb;refine⟨_,λ i=>aIG (C.own i) (c1 i) (b1 i),λ U σ H ρ lab De R W=>?_⟩;refine⟨λ n σ' H'=>∃ρ' lab',RR C.K C.G U ρ' σ' H' lab'/\WS C.K C.G U (itW fc f n ρ') De,⟨fuel,ρ,lab,R,W⟩,?_⟩;rintro n σ' H' ⟨ρ',lab',R',w'⟩;cases n with
 |zero=>exact zAR w'
 |succ n=>
  refine c2 U σ' H' ρ' lab' _ R' (WS.bo (show WS C.K C.G U ((fc ρ').bo _) De from w') |>.imp λ k _ w H1 s1=>?_);cases k with
  |false=>
   rw[if_neg zAX]at w ⊢;exact w σ' H1 lab' (R'.up s1)
  |true=>
   rw[if_pos rfl]at w ⊢;refine⟨λ σ2 H2=>∃ρ2 lab2,RR C.K C.G U ρ2 σ2 H2 lab2/\WS C.K C.G U (itW fc f n ρ2) De,λ σ2 H2 ⟨ρ2,lab2,R2,w2⟩=>⟨n,zBx n,ρ2,lab2,R2,w2⟩,?_⟩;refine b2 U σ' H1 ρ' lab' _ (R'.up s1) ?_;cases eb:f ρ' with
   |nx ρ2=>rw[eb]at w;exact λ σ2 H3 lab2 R2=>⟨ρ2,lab2,R2,w⟩
   |ct ρ2=>rw[eb]at w;exact λ σ2 H3 lab2 R2=>⟨ρ2,lab2,R2,w⟩
   |bk ρ2=>rw[eb]at w;exact w
   |rt d=>rw[eb]at w;exact w
   |ex c=>rw[eb]at w;exact w
   |st=>rw[eb]at w;exact w
def mG(x:Str)(ga:En->Rs (List D)):En->Ou:=λ ρ=>(ga ρ).bo λ ds=>if ds.length<=zAY then .ex x else .st
def jz{rest:List Expr}(hd:C.dOk=true)(hm:C.mg x=some (.ref Ca))(hcl:C.G.cl x=Ca)(hC:mQ C.K Ca)(ha:SA C m (y3::rest) ga)(he:∀i,zA1 (y3::rest) (C.X i).env=(false,eval y3 (C.X i).env)::zA1 rest (C.X i).env:=by intro _;rfl)(hplain:∀i,(zCo cpos (zA1 rest (C.X i).env)).any (·.1)=false:=by intro _;rfl)(hdb:Nd x:=by decide)(hg:∀i,Gl (C.X i) x:=by intro _;rfl):SS C (.Raise (some (.Call (.Name x np) (y3::rest) [] cpos)) none pos) (mG x ga):=by
 obtain⟨t,h1,h2⟩:=ha;refine⟨_,λ i=>aIJ (C.dcx hd i) (C.calm i) (by rw[(C.cx i).2.2.2.1];exact hm) (by rw[C.hK i];exact hC) (hg i) (h1 i) (he i) (hplain i) hdb,λ U σ H ρ lab De R W=>h2 U σ H ρ lab _ R (W.bo.imp λ ds _ w vs H1 s r=>?_)⟩;by_cases hz:ds.length<=zAY
 .rw[if_pos hz]at w
  refine⟨by rw[r.length];exact hz,?_⟩
  have:=w H1 (R.old.trans s)
  rwa [hcl]at this
 .rw[if_neg hz]at w
  exact zAR w
def spF(K:zAA)(cl:Str->Addr)(n:Nat)(F:List D->Rs D):Sp:=λ vs H Q E=>∃ds,vs.length=n/\Rps K (λ _=>True) H vs ds/\WR ⟨H,E,cl⟩ (F ds) (λ d=>∀v H',aX H H'->Rp K (λ p=>H p=none) H' v d->Q v H')
def aP(F:List D->Rs D)(ga:En->Rs (List D)):En->Rs D:=λ ρ=>(ga ρ).bd F
def aHe{K:zAA}(hn:∀ρ ds,ga ρ= .ok ds->ds.length=n)(h:aLq K G m t ga):jW K G (some []) (aMA (spF K G.cl n F) [] G.E t) (aP F ga):=by
 intro U σ H ρ lab Q R W;refine h U σ H ρ lab _ R (W.bd.imp λ ds eds w vs H1 s r=>⟨ds,by rw[zAe,r.length];exact hn ρ ds eds,by rw[zAe];exact r.wk λ _ _ _ _=>trivial,?_⟩);cases hF:F ds with
 |ok d=>
  rw[hF]at w;exact λ v H' s' r'=>w v H' (s.trans s') (r'.wk λ p o _ z=>.inl (s.free z))
 |ex c=>rw[hF]at w;exact λ H' s'=>w H' ((R.old.trans s).trans s')
 |st=>rw[hF]at w;exact w
variable{k:Nat}{fn:Addr}{fd:zAd}{ps:List Str}{x:Str}{p:Pos}{F:List D->Rs D}{n:Nat}
def aKR(hF:bw C.prog C.w C.K C.mg C.base (CX1 C.prog C.w) k fn fd ps (spF C.K C.G.cl n F))(hr:k<=C.k)(hm:C.mg x=some (.ref fn))(hk:zDO C.K (.ref fn)=true)(hb:Binds C.K fd ps [])(ha:SA C m (e::es) ga)(hn:∀ρ ds,ga ρ= .ok ds->ds.length=n)(hdb:Nd x:=by decide)(he:∀i,zA1 (e::es) (C.X i).env=(false,eval e (C.X i).env)::zA1 es (C.X i).env:=by intro _;rfl)(hpl:∀i,(zCo pos (zA1 es (C.X i).env)).any (·.1)=false:=by intro _;rfl)(hg:∀i,Gl (C.X i) x:=by intro _;rfl):SE C (some []) (.Call (.Name x p) (e::es) [] pos) (aP F ga):=by
 obtain⟨t,h1,h2⟩:=ha;refine⟨_,λ i=>?_,aHe hn h2⟩;obtain⟨e1,e2,e3,e4,e5⟩:=C.cx i;refine aKb (CX:=CX1 (C.X i).prog (C.X i).w) (by rw[e1,e2,e3,e4,e5];exact hF) ((C.room i).mono hr) (hg i) (by rw[e4];exact hm) (by rw[e3];exact hk) (by rw[e3];exact hb) .nil (C.pass i) (h1 i) hdb (he i) (hpl i)
def aLG(h:aJ ρ= .ok ds):ds.length=0:=by cases h;rfl
def aIe(h:∀ρ ds,ga ρ= .ok ds->ds.length=n):∀ρ ds,aC fa ga ρ= .ok ds->ds.length=n+1:=λ ρ ds e=>by
 obtain⟨d,_,e⟩:=dW e;obtain⟨r,er,e⟩:=dW e;cases e;rw[zA6,h ρ r er]
end
def bR(mg:Str->Option Value):Str->Addr:=λ x=>match mg x with
 |some (.ref a)=>a
 |_=>0
abbrev ctD(P:zA7)(w:World)(K:zAA)(mg:Str->Option Value)(base:Heap)(N:List Str)(q:Str)(sc:Scope)(f:Addr)(cdv:Value)(A:zAk)(outer:List Env)(s:zAG)(H:Hp)(E:XK)(k:Nat)(hr:lG k (A.deeper (zEc q sc s.heap.objs.size f cdv))):Ct where
 ι:=Unit
 X:=λ _=>aDV (CX1 P w) P w K mg base N q sc f cdv A outer s H E
 prog:=P
 w:=w
 K:=K
 mg:=mg
 base:=base
 k:=k
 G:=⟨H,E,bR mg⟩
 cx:=λ _=>⟨rfl,rfl,rfl,rfl,rfl⟩
 calm:=λ _=>rfl
 room:=λ _=>hr
 own:=λ _=>lF.own lF.of
 pass:=λ _=>lF.pass lF.of
 dOk:=true
 dcx:=λ _ _=>lF.of
def aj(n:Nat)(ds:List D):En:=ds.map .sh++zAW (n-ds.length) .no
def cu(n:Nat)(f:En->Ou):List D->Rs D:=λ ds=>match f (aj n ds)with
 | .nx _=>.ok .non
 | .rt d=>.ok d
 | .ex c=>.ex c
 |_=>.st
theorem RR.start{K:zAA}(r:Rps K (λ _=>True) H vs ds):RR K ⟨H,E,cl⟩ [] (aj N.length ds) (start N vs) H (λ _=>(0,0)):=by
 have hl:=r.length;refine⟨by unfold aj L2.start;simp[hl],λ i s e=>?_,aX.refl H,λ p hp=>absurd rfl hp,λ q hq=>by cases hq⟩;unfold aj at e;by_cases hi:i<ds.length
 .rw[zBo (by simpa using hi),zA2]at e
  cases ed:ds[i]? with
  |none=>rw[ed]at e;cases e
  |some d=>
   rw[ed]at e;cases e;obtain⟨x,ex,rx⟩:=r.getD ed;refine .inr ⟨x,?_,rx.wk λ _ _ _ _=>zAj _⟩;unfold L2.start;rw[zBo (by simpa[hl]using hi),zA2,ex];rfl
 .rw[zCp (by simpa using hi),zC4]at e
  split at e
  .cases e;exact .inl rfl
  .cases e
section
variable{P:zA7}{w:World}{K:zAA}{mg:Str->Option Value}{base:Heap}
def aNy{x q:Str}{st:Stmt}(F:L2.Fun K x q st fn fd)(S:aV N ps (aN st))
  (hb:∀cdv A outer s H E hr,SSs (ctD P w K mg base N q (aN st) fn cdv A outer s H E k hr) (jO st) f):
  bw P w K mg base (CX1 P w) (k+1) fn fd ps (spF K (bR mg) ps.length (cu N.length f)):=by
 refine F.okX S (λ vs H Q E ⟨ds,hl,_⟩=>hl) λ cdv A outer s H vs Q E hr ⟨ds,hl,r,W⟩=>?_
 obtain⟨t,h1,h2⟩:=hb cdv A outer s H E hr;refine⟨t,h1 (),h2 [] _ H _ _ _ (RR.start r) ?_⟩;unfold cu at W;cases e:f (aj N.length ds)with
 |nx ρ=>rw[e]at W;exact λ σ' H' lab R=>W .non H' R.old .non
 |rt d=>rw[e]at W;exact λ v H' s r=>W v H' s r
 |ex c=>rw[e]at W;exact W
 |bk ρ=>rw[e]at W;exact zAR W
 |ct ρ=>rw[e]at W;exact zAR W
 |st=>rw[e]at W;exact zAR W
def aL6{st:Stmt}(F:L2.Fun K x q st fn fd)(S:aV N ps (aN st))
  (hb:∀cdv A outer s H E hr,SSs (ctD P w K mg base N q (aN st) fn cdv A outer s H E k hr) (jO st) f)(hn:ps.length=n)(hF:cu N.length f=FF):
  bw P w K mg base (CX1 P w) (k+1) fn fd ps (spF K (bR mg) n FF):=by
 subst hn hF;exact aNy F S hb
end
def OpR.or(h:OpR X f r)(h':OpR X f r'):OpR X f (λ x y H Q=>r x y H Q\/r' x y H Q):=by
 intro iX s σ H x y v u Q I rx ry q;rcases q with q|q
 .exact h iX s σ H x y v u Q I rx ry q
 .exact h' iX s σ H x y v u Q I rx ry q
def OpS.or{K:zAA}(h:OpS K r fd)(h':OpS K r' fd'):OpS K (λ x y H Q=>r x y H Q\/r' x y H Q) (λ d e=>match fd d e with
  | .ok z=>.ok z
  |_=>fd' d e):=by
 intro A x y d e H Q z rx ry ez q;dsimp only at ez;cases hd:fd d e with
 |ok w=>rw[hd]at ez;cases ez;exact .inl (h A x y d e H Q _ rx ry hd q)
 |ex c=>rw[hd]at ez;exact .inr (h' A x y d e H Q z rx ry ez q)
 |st=>rw[hd]at ez;exact .inr (h' A x y d e H Q z rx ry ez q)
section
variable{K:zAA}
def i2(p:Int->Int->Bool)(g:Int->Int->D):D->D->Rs D
 | .int i,.int j=>if p i j=true then .ok (g i j)else .st
 |_,_=>.st
def aEK{g:Int->Int->Int}(hp:∀i j,p i j=true->c i j):OpS K (rI c λ i j=>.int (g i j)) (i2 p λ i j=>.int (g i j)):=by
 intro A x y d e H Q z rx ry ez q;unfold i2 at ez;split at ez
 .rename_i i j
  split at ez
  .rename_i h
   cases ez;obtain rfl:=rx.int_inv;obtain rfl:=ry.int_inv;exact⟨i,j,rfl,rfl,hp i j h,q _ H (aX.refl H) (.int _)⟩
  .cases ez
 .cases ez
def aKh{g:Int->Int->Int}:OpS K (rI0 λ i j=>.int (g i j)) (i2 (λ _ _=>true) λ i j=>.int (g i j)):=by
 intro A x y d e H Q z rx ry ez q;unfold i2 at ez;split at ez
 .rename_i i j
  cases ez;obtain rfl:=rx.int_inv;obtain rfl:=ry.int_inv;exact⟨i,j,rfl,rfl,q _ H (aX.refl H) (.int _)⟩
 .cases ez
def yJ{g:Int->Int->Bool}:OpS K (rI0 λ i j=>.bl (g i j)) (i2 (λ _ _=>true) λ i j=>.bl (g i j)):=by
 intro A x y d e H Q z rx ry ez q;unfold i2 at ez;split at ez
 .rename_i i j
  cases ez;obtain rfl:=rx.int_inv;obtain rfl:=ry.int_inv;exact⟨i,j,rfl,rfl,q _ H (aX.refl H) (.bl _)⟩
 .cases ez
def aB1{g:Int->Int->Int}:∀x y z,i2 p (λ i j=>.int (g i j)) x y= .ok z->imm z=true:=by
 intro x y z e;unfold i2 at e;split at e
 .split at e
  .cases e;rfl
  .cases e
 .cases e
def aEe{g:Int->Int->Bool}:∀x y z,i2 p (λ i j=>.bl (g i j)) x y= .ok z->imm z=true:=by
 intro x y z e;unfold i2 at e;split at e
 .split at e
  .cases e;rfl
  .cases e
 .cases e
def fX:D->D->Rs D
 | .int i,.int j=>.ok (.int (i+j))
 | .lst l,.lst m=>if l.length+m.length<=zAY then .ok (.lst (l++m))else .st
 | .tup l,.tup m=>if l.length+m.length<=zAY then .ok (.tup (l++m))else .st
 |_,_=>.st
def aMM(K:zAA):R2:=λ x y H Q=>∃a b xs ys,x= .ref a/\y= .ref b/\SqT K H a xs/\SqT K H b ys/\xs.length+ys.length<=zAY/\
 (xs=[]->Q (.ref b) H)/\(ys=[]->Q (.ref a) H)/\New H (.tup (xs++ys)) Q
def aKo:OpR X (zC6 .Add) (aMM X.K):=by
 intro iX s σ H x y v u Q I rx ry h;obtain⟨a,b,xs,ys,rfl,rfl,ha,hb,hz,q0,q1,q2⟩:=h;by_cases hx:xs=[]
 .subst hx
  cases rx;cases ry;obtain⟨its,r1,p1,_⟩:=I.tuple ha;obtain⟨its2,r2,p2,_⟩:=I.tuple hb;cases r1;exact HT.aJa p1 p2 ⟨.ref b,H,I,rfl,q0 rfl⟩
 .exact aKp iX s σ H _ _ v u Q I rx ry ⟨a,b,xs,ys,rfl,rfl,ha,hb,hx,hz,q1,λ _ p hp=>q2.at hp⟩
def aIB(K:zAA):R2:=λ x y H Q=>rI0 (λ i j=>.int (i+j)) x y H Q\/(aMN x y H Q\/aMM K x y H Q)
def aKr:OpR X (zC6 .Add) (aIB X.K):=OpR.or aN4 (OpR.or aKq aKo)
def aNO:OpS K (aIB K) fX:=by
 intro A x y d e H Q z rx ry ez q;unfold fX at ez;split at ez
 .cases ez;obtain rfl:=rx.int_inv;obtain rfl:=ry.int_inv;exact .inl ⟨_,_,rfl,rfl,q _ H (aX.refl H) (.int _)⟩
 .split at ez
  .rename_i hl
   cases ez;obtain⟨_,_,rfl,h1,m1,r1⟩:=rx.lst_inv;obtain⟨_,_,rfl,h2,m2,r2⟩:=ry.lst_inv;refine .inr (.inl ⟨_,_,_,_,rfl,rfl,h1,h2,by rw[r1.length,r2.length];exact hl,λ p H' s hp hn=>q _ H' s (.lst hp (.inl hn) ?_)⟩);exact(((r1.wk λ _ _ _ z=>z.1).append (r2.wk λ _ _ _ z=>z.1)).wk (A':=λ q=>(H q=none\/A q)/\q≠p) λ q o e z=>⟨.inr z,λ e'=>by subst e';rw[hn]at e;cases e⟩).up s
  .cases ez
 .split at ez
  .rename_i hl
   cases ez;obtain⟨_,_,rfl,h1,r1⟩:=rx.tup_inv;obtain⟨_,_,rfl,h2,r2⟩:=ry.tup_inv;have r1':=r1.wk (A':=λ p=>H p=none\/A p) λ _ _ _ z=>.inr z
   have r2':=r2.wk (A':=λ p=>H p=none\/A p) λ _ _ _ z=>.inr z
   refine .inr (.inr ⟨_,_,_,_,rfl,rfl,h1,h2,by rw[r1.length,r2.length];exact hl,λ e=>?_,λ e=>?_,λ p H' s hp hn=>q _ H' s (.tup (SqT.of hp) ((r1'.append r2').up s))⟩)
   .subst e
    cases r1';exact q _ H (aX.refl H) (.tup h2 r2')
   .subst e
    cases r2';rw[zAe]at q;exact q _ H (aX.refl H) (.tup h1 r1')
  .cases ez
 .cases ez
def pQ:D->D->Rs D
 | .int i,.int j=>if (decide (-(2^64)<i)&&decide (i<2^64))||(decide (-(2^64)<j)&&decide (j<2^64))then .ok (.int (i*j))else .st
 | .lst l,.int k=>if decide (-(2^63)<=k)&&decide (k<2^63)&&decide (l.length*k.toNat<=zAY)&&pW l then .ok (.lst (zAW k.toNat l).flatten)else .st
 |_,_=>.st
theorem Rps.rep(r:Rps K A H xs ds):∀k:Nat,Rps K A H (zAW k xs).flatten (zAW k ds).flatten
 |0=>.nil
 |k+1=>by
  rw[zBl,zBl,zBS,zBS];exact r.append (Rps.rep r k)
def aMI:R2:=λ x y H Q=>rI aLw (λ i j=>.int (i*j)) x y H Q\/aO3 x y H Q
def aKm:OpR X (zC6 .Mult) aMI:=OpR.or aNU aNR
def aNL:OpS K aMI pQ:=by
 intro A x y d e H Q z rx ry ez q;unfold pQ at ez;split at ez
 .split at ez
  .rename_i hc
   cases ez;obtain rfl:=rx.int_inv;obtain rfl:=ry.int_inv;refine .inl ⟨_,_,rfl,rfl,?_,q _ H (aX.refl H) (.int _)⟩;simp only[zDg,zAN,decide_eq_true_eq]at hc;exact hc
  .cases ez
 .split at ez
  .rename_i hc
   simp only[zAN,decide_eq_true_eq]at hc;cases ez;obtain⟨_,_,rfl,h1,m1,r1⟩:=rx.lst_inv;obtain rfl:=ry.int_inv;refine .inr ⟨_,_,_,rfl,rfl,h1,hc.1.1.1,hc.1.1.2,by rw[r1.length];exact hc.1.2,λ p hp=>q _ _ (au hp _) (.lst aq (.inl hp) ?_)⟩;exact((r1.rep _).wk (A':=λ q=>(H q=none\/A q)/\q≠p) λ q o e z=>⟨.inr z.1,λ e'=>by subst e';rw[hp]at e;cases e⟩).up (au hp _)
  .cases ez
 .cases ez
def intsOf:List D->Option (List Int)
 |[]=>some []
 | .int i::r=>(intsOf r).map (i::·)
 |_=>none
theorem cO:∀{l:List D} {ns:List Int},intsOf l=some ns->l=ns.map .int
 |[],ns,h=>by cases h;rfl
 | .int i::r,ns,h=>by
  simp only[intsOf,zC7]at h;obtain⟨ms,h1,rfl⟩:=h;rw[cO h1];rfl
 | .non::_,_,h=>by cases h
 | .bl _::_,_,h=>by cases h
 | .str _::_,_,h=>by cases h
 | .tup _::_,_,h=>by cases h
 | .lst _::_,_,h=>by cases h
 | .dct _ _::_,_,h=>by cases h
 | .set _::_,_,h=>by cases h
 | .scr _::_,_,h=>by cases h
theorem dq:∀ns:List Int,intsOf (ns.map .int)=some ns
 |[]=>rfl
 |n::ns=>by simp only[zAM,intsOf,dq ns,zDE]
def ltT(p:List Int->List Int->Bool):D->D->Rs D
 | .tup l,.tup m=>match intsOf l,intsOf m with
  |some ns,some ms=>.ok (.bl (p ns ms))
  |_,_=>.st
 |_,_=>.st
def aFS(r:Rp K A H x (.tup l))(e:intsOf l=some ns):∃a,x= .ref a/\SqT K H a (ns.map V.int):=by
 have:=cO e
 subst this;cases r with
 |tup h r=>
  have:=r.ints_of
  subst this;exact⟨_,rfl,h⟩
def aF3(hr:∀x y H Q,(∃a b ns ms,x= .ref a/\y= .ref b/\SqT K H a (ns.map V.int)/\SqT K H b (ms.map V.int)/\Q (.bl (p ns ms)) H)->r x y H Q):OpS K r (ltT p):=by
 intro A x y d e H Q z rx ry ez q;unfold ltT at ez;split at ez
 .split at ez
  .rename_i ns ms e1 e2
   cases ez;obtain⟨a,rfl,ha⟩:=aFS rx e1;obtain⟨b,rfl,hb⟩:=aFS ry e2;exact hr _ _ _ _ ⟨a,b,ns,ms,rfl,rfl,ha,hb,q _ H (aX.refl H) (.bl _)⟩
  .cases ez
 .cases ez
def ltD:D->D->Rs D:=λ d e=>match i2 (λ _ _=>true) (λ i j=>.bl (decide (i<j))) d e with
 | .ok z=>.ok z
 |_=>ltT HT.lexLt d e
def leD:D->D->Rs D:=λ d e=>match i2 (λ _ _=>true) (λ i j=>.bl (decide (i<=j))) d e with
 | .ok z=>.ok z
 |_=>ltT HT.lexLe d e
def gtD:D->D->Rs D:=i2 (λ _ _=>true) (λ i j=>.bl (decide (j<i)))
def geD:D->D->Rs D:=i2 (λ _ _=>true) (λ i j=>.bl (decide (j<=i)))
def aNW(hu:X.A.units<cLine):OpR X (zAs .Lt) (λ x y H Q=>rI0 (λ i j=>.bl (decide (i<j))) x y H Q\/aKW X.K x y H Q):=OpR.or aOf (aNX hu)
def aNY(hu:X.A.units<cLine):OpR X (zAs .LtE) (λ x y H Q=>rI0 (λ i j=>.bl (decide (i<=j))) x y H Q\/aKX X.K x y H Q):=OpR.or aOg (aNZ hu)
def aF4:OpS K (λ x y H Q=>rI0 (λ i j=>.bl (decide (i<j))) x y H Q\/aKW K x y H Q) ltD:=OpS.or yJ (aF3 λ _ _ _ _ h=>h)
def aF5:OpS K (λ x y H Q=>rI0 (λ i j=>.bl (decide (i<=j))) x y H Q\/aKX K x y H Q) leD:=OpS.or yJ (aF3 λ _ _ _ _ h=>h)
def aFv(e:ltT p x y= .ok z):imm z=true:=by
 unfold ltT at e;split at e
 .split at e
  .cases e;rfl
  .cases e
 .cases e
def aEd:∀x y z,ltD x y= .ok z->imm z=true:=by
 intro x y z e;unfold ltD at e;split at e
 .rename_i w hw;cases e;exact aEe _ _ _ hw
 .exact aFv e
def aNr:∀x y z,leD x y= .ok z->imm z=true:=by
 intro x y z e;unfold leD at e;split at e
 .rename_i w hw;cases e;exact aEe _ _ _ hw
 .exact aFv e
def isD(neg:Bool):D->D->Rs D
 | .bl a,.bl b=>if neg then .st else .ok (.bl (a==b))
 |d,.non=>match d with
  | .non=>.ok (.bl (!neg))
  |_=>.ok (.bl neg)
 |_,_=>.st
def aMl(r:Rp K A H x d)(h:d≠.non):x≠.non:=by
 cases r with
 |non=>exact absurd rfl h
 |_=>exact λ e=>by cases e
def aIZ:OpS K (λ x y H Q=>y= .non/\Q (.bl (!decide (x= .non))) H) (isD true):=by
 intro A x y d e H Q z rx ry ez q;unfold isD at ez;split at ez
 .cases ez
 .cases ry
  split at ez
  .cases ez;cases rx;exact⟨rfl,by rw[decide_eq_true rfl];exact q _ H (aX.refl H) (.bl _)⟩
  .rename_i hn
   cases ez;exact⟨rfl,by rw[decide_eq_false (aMl rx hn)];exact q _ H (aX.refl H) (.bl _)⟩
 .cases ez
def aCc:D->Rs D
 | .int i=>.ok (.int (-i))
 |_=>.st
def aM2:UnS K (rU λ i=>.int (-i)) aCc:=by
 intro A x d H Q z rx ez q;cases rx with
 |int i=>cases ez;exact⟨i,rfl,q _ H (aX.refl H) (.int _)⟩
 |_=>cases ez
def aLW:∀x z,aCc x= .ok z->imm z=true:=by
 intro x z e;cases x with
 |int i=>cases e;rfl
 |_=>cases e
def atD(l:List D)(i:Int):Rs D:=match atI l i with
 |some d=>.ok d
 |none=>.st
def ixD:D->D->Rs D
 | .tup l,.int i=>atD l i
 | .lst l,.int i=>atD l i
 | .scr l,.int i=>atD (l.map .int) i
 |_,_=>.st
theorem Rps.at(r:Rps K A H xs ds)(e:atI ds i=some d):∃x,atI xs i=some x/\Rp K A H x d:=by
 unfold atI at e ⊢;rw[r.length];cases h:ixN ds.length i with
 |none=>rw[h]at e;cases e
 |some j=>
  rw[h]at e;obtain⟨x,e1,e2⟩:=r.getD (i:=j) (d:=d) e;exact⟨x,e1,e2⟩
def aOe:OpS K (rIx K) ixD:=by
 intro A x y d e H Q z rx ry ez q;unfold ixD at ez;split at ez
 .unfold atD at ez
  split at ez
  .rename_i w hw
   cases ez;obtain⟨_,_,rfl,h,r⟩:=rx.tup_inv;obtain rfl:=ry.int_inv;obtain⟨v,e1,e2⟩:=r.at hw;exact .inr (.inl ⟨_,_,_,v,rfl,rfl,h,e1,q v H (aX.refl H) (e2.wk λ _ _ _ z=>.inr z)⟩)
  .cases ez
 .unfold atD at ez
  split at ez
  .rename_i w hw
   cases ez;obtain⟨_,_,rfl,h,m,r⟩:=rx.lst_inv;obtain rfl:=ry.int_inv;obtain⟨v,e1,e2⟩:=r.at hw;exact .inl ⟨_,_,_,v,rfl,rfl,SqL.of h,e1,q v H (aX.refl H) (e2.wk λ _ _ _ z=>.inr z.1)⟩
  .cases ez
 .unfold atD at ez
  split at ez
  .rename_i w hw
   cases ez;obtain⟨_,rfl,h⟩:=rx.scr_inv;obtain rfl:=ry.int_inv;obtain⟨v,e1,e2⟩:=(Rps.ints (K:=K) (A:=A) (H:=H)).at hw;exact .inl ⟨_,_,_,v,rfl,rfl,h.sq,e1,q v H (aX.refl H) (e2.wk λ _ _ _ z=>.inr z)⟩
  .cases ez
 .cases ez
def eX:List D->Rs D
 |[.tup l]=>.ok (.int l.length)
 |[.lst l]=>.ok (.int l.length)
 |[.scr l]=>.ok (.int l.length)
 |_=>.st
def aJ5:um K (λ xs H Q=>∃p ys,xs=[.ref p]/\(SqL K H p ys\/SqT K H p ys)/\Q (.int ys.length) H) eX:=by
 intro A xs ds H Q z r ez q;unfold eX at ez;split at ez
 .cases ez
  obtain⟨_,rfl,h0⟩:=r.one_inv;obtain⟨_,_,rfl,h,r⟩:=h0.tup_inv;exact⟨_,_,rfl,.inr h,by rw[r.length];exact q _ H (aX.refl H) (.int _)⟩
 .cases ez
  obtain⟨_,rfl,h0⟩:=r.one_inv;obtain⟨_,_,rfl,h,m,r⟩:=h0.lst_inv;exact⟨_,_,rfl,.inl (SqL.of h),by rw[r.length];exact q _ H (aX.refl H) (.int _)⟩
 .cases ez
  obtain⟨_,rfl,h0⟩:=r.one_inv;obtain⟨_,rfl,h⟩:=h0.scr_inv;exact⟨_,_,rfl,.inl h.sq,by rw[zAE];exact q _ H (aX.refl H) (.int _)⟩
 .cases ez
def aFx:∀x z,eX x= .ok z->imm z=true:=by
 intro x z e;unfold eX at e;split at e<;>first|(cases e;rfl)|cases e
def tyD:D->String
 | .non=>"NoneType"| .bl _=>"bool"| .int _=>"int"| .str _=>"str"| .tup _=>"tuple"| .lst _=>"list"| .dct _ _=>"dict"| .set _=>"set"| .scr _=>"script"| .fn _=>"function"
def jd(T:String):D->Rs D:=λ d=>if qu (tyD d) T true=true then .ok (.bl true)else if qu (tyD d) T false=true then .ok (.bl false)else .st
def aMJ(K:zAA)(T:String):List V->Hp->VK->Prop:=λ xs H Q=>∃x d A b,xs=[x,.ty T]/\Rp K A H x d/\qu (tyD d) T b=true/\Q (.bl b) H
def aHJ:cX X (.builtin "isinstance") (aMJ X.K T):=by
 intro iX s σ H xs us Q I rv h;obtain⟨x,d,A,b,rfl,rd,ok,q⟩:=h;cases rd with
 |tup h r=>
  obtain⟨u,w',rfl,ru,rw'⟩:=vals2 rv;cases ru;cases rw';obtain⟨its,_,⟨o,h1,h2,_⟩,_⟩:=I.tuple h;exact zBN zGn I.kIn ⟨o,h1,h2⟩ (aE6 ok) (λ z=>nomatch z) λ tk=>⟨.bl b,H,I.tok _,rfl,q⟩
 |set h m hS nd=>cases b<;>simp[qu,tyD]at ok
 |scr h=>cases b<;>simp[qu,tyD]at ok
 |fn h=>cases b<;>simp[qu,tyD]at ok
 |non=>exact nH iX s σ H _ us Q I rv ⟨_,T,_,b,rfl,.non,ok,q⟩
 |bl c=>exact nH iX s σ H _ us Q I rv ⟨_,T,_,b,rfl,.bl c,ok,q⟩
 |int c=>exact nH iX s σ H _ us Q I rv ⟨_,T,_,b,rfl,.int c,ok,q⟩
 |str c=>exact nH iX s σ H _ us Q I rv ⟨_,T,_,b,rfl,.str c,ok,q⟩
 |lst h m r=>exact nH iX s σ H _ us Q I rv ⟨_,T,_,b,rfl,.lst h,ok,q⟩
 |dK h m r=>exact nH iX s σ H _ us Q I rv ⟨_,T,_,b,rfl,.dK h,ok,q⟩
 |dT h m r=>
  obtain⟨u,w',rfl,ru,rw'⟩:=vals2 rv;cases ru;cases rw';obtain⟨⟨_,_,_,o,_,_,_,h1,h2,_⟩,_⟩:=(show dX X.prog X.w H s.heap _ (dxO _ _)from I.hok _ _ h.at_);exact zBN zEw I.kIn ⟨o,h1,h2.1⟩ (aE6 ok) (λ z=>nomatch z) λ tk=>⟨.bl b,H,I.tok _,rfl,q⟩
end
section
variable{C:Ct}{pos p p2:Pos}{m:Mode}{a:Expr}{fa:En->Rs D}
def iW(ha:SE C m a fa)(hm:C.mg "isinstance"=none)(hmT:C.mg x=none)(hn:x≠"__name__":=by decide)(hd:Nd x:=by decide)(he:∀i,zA1 [a,.Name x p2] (C.X i).env=(false,eval a (C.X i).env)::zA1 [.Name x p2] (C.X i).env:=by intro _;rfl)(hpl:∀i,(zCo pos (zA1 [.Name x p2] (C.X i).env)).any (·.1)=false:=by intro _;rfl)(hg:∀i,Gl (C.X i) "isinstance":=by intro _;rfl)(hv:zAq "isinstance"=some (.builtin "isinstance"):=by decide+kernel)(hgT:∀i,Gl (C.X i) x:=by intro _;rfl)(hvT:zAq x=some (.type T):=by decide+kernel):
  SE C (some []) (.Call (.Name "isinstance" p) [a,.Name x p2] [] pos) (op1 (jd T) fa):=by
 obtain⟨t,h1,h2⟩:=ha;refine⟨tCB (aMJ C.K T) (je t (je (tC (.ty T)) oZ)),λ i=>?_,λ U σ H ρ lab Q R W=>?_⟩
 .rw[<-C.hK i]
  exact m8 aHJ (hg i) (by rw[(C.cx i).2.2.2.1];exact hm) hv (dI (h1 i) (dI (aKc (v:=.ty T) (hgT i) (by rw[(C.cx i).2.2.2.1];exact hmT) hvT rfl hn hd) gR) (he i)) (by decide) (by decide) (he i) (hpl i)
 .refine h2 U σ H ρ lab _ R (W.bd.imp λ d _ w x H1 s1 r1=>?_)
  obtain⟨z,ez,w⟩:=w.okD;unfold jd at ez;split at ez
  .rename_i h;cases ez;exact⟨x,d,_,true,rfl,r1,h,w _ H1 s1 (.bl _)⟩
  .split at ez
   .rename_i h;cases ez;exact⟨x,d,_,false,rfl,r1,h,w _ H1 s1 (.bl _)⟩
   .cases ez
end
def oW:Slot->Slot
 | .ow d=>.sh d
 | .nw d=>.sh d
 | .oz d=>.sh d
 | .o2 l=>.sh (.lst (l.map .lst))
 |s=>s
def shE(ρ:En):En:=ρ.map oW
def stV(js:hV)(σ:L2.St):L2.St:=js.map λ o=>o.bind λ j=>(σ[j]?).join
def stE(js:hV)(ρ:En):En:=js.map λ o=>match o with
 |none=>.no
 |some j=>(ρ[j]?).getD .no
def aKU{K:zAA}(h:jG K H lab i v s):∃d,(s= .no\/oW s= .sh d)/\(s= .no\/Rp K (λ _=>True) H v d):=by
 cases s with
 |no=>exact⟨.non,.inl rfl,.inl rfl⟩
 |sh d=>exact⟨d,.inr rfl,.inr (Rp.wk (λ _ _ _ _=>trivial) h)⟩
 |nw d=>exact⟨d,.inr rfl,.inr (Rp.wk (λ _ _ _ _=>trivial) h)⟩
 |ow d=>exact⟨d,.inr rfl,.inr (Rp.wk (λ _ _ _ _=>trivial) h.1)⟩
 |oz d=>exact⟨d,.inr rfl,.inr (Rp.wk (λ _ _ _ _=>trivial) (aMR h))⟩
 |o2 l=>exact⟨_,.inr rfl,.inr (Rp.wk (λ _ _ _ _=>trivial) (aI4 h))⟩
theorem RR.shE{K:zAA}(R:RR K G U ρ σ H lab):RR K G U (shE ρ) σ H (λ _=>(0,0)):=by
 refine⟨by unfold VL.shE;rw[zAE];exact R.len,λ i s e=>?_,R.old,λ p hp=>absurd rfl hp,λ q hq=>(R.tm q hq).wk λ _ _ _ _=>zAj _⟩;unfold VL.shE at e;rw[zA2]at e;cases e0:ρ[i]? with
 |none=>rw[e0]at e;cases e
 |some s0=>
  rw[e0]at e;cases e;rcases R.sl i s0 e0 with rfl|⟨v,ev,hv⟩
  .exact .inl rfl
  .obtain⟨d,h1,h2⟩:=aKU hv
   rcases h1 with rfl|h1
   .exact .inl rfl
   .rcases h2 with rfl|h2
    .exact .inl rfl
    .exact .inr ⟨v,ev,by rw[h1];exact h2.wk λ _ _ _ _=>zAj _⟩
def aH5{i:Nat}(e:(stE js ρ)[i]? =some s):s= .no\/∃j,js[i]? =some (some j)/\ρ[j]? =some s:=by
 unfold stE at e;rw[zA2]at e;cases ej:js[i]? with
 |none=>rw[ej]at e;cases e
 |some o=>
  rw[ej]at e;cases o with
  |none=>cases e;exact .inl rfl
  |some j=>
   cases er:ρ[j]? with
   |none=>simp[er]at e;exact .inl e.symm
   |some s'=>simp[er]at e;subst e;exact .inr ⟨j,rfl,er⟩
def RR.block{K:zAA}{U:List (V×D)}(R:RR K G U (VL.shE ρ) σ H lab)(hz:∀p,(lab p).1<=1)(hl:H l=none):
  RR K G U (stE js (VL.shE ρ)) (stV js σ) H (λ p=>if p=l then(2,0)else(0,0)):=by
 have nl:∀p o,H p=some o->p≠l:=λ p o e z=>by subst z;rw[hl]at e;cases e
 refine⟨by unfold stE stV;rw[zAE,zAE],λ i s e=>?_,R.old,λ p hp=>?_,λ q hq=>(R.tm q hq).wk λ p o e _=>by rw[if_neg (nl p o e)];exact zAj _⟩
 .rcases aH5 e with rfl|⟨j,ej,es⟩
  .exact .inl rfl
  .rcases R.sl j s es with rfl|⟨v,ev,hv⟩
   .exact .inl rfl
   .refine .inr ⟨v,?_,?_⟩
    .unfold stV
     rw[zA2,ej];simp[ev]
    .unfold VL.shE at es
     rw[zA2]at es;cases e0:ρ[j]? with
     |none=>rw[e0]at es;cases es
     |some s0=>
      rw[e0]at es;cases es;cases s0 with
      |no=>trivial
      |oz d=>exact Rp.wk (λ p o e _=>by show(if p=l then((2,0):Nat×Nat)else(0,0)).1<=1;rw[if_neg (nl p o e)];exact zAj _) hv
      |nw d=>exact Rp.wk (λ p o e _=>by show(if p=l then((2,0):Nat×Nat)else(0,0)).1<=1;rw[if_neg (nl p o e)];exact zAj _) hv
      |sh d=>exact Rp.wk (λ p o e _=>by show(if p=l then((2,0):Nat×Nat)else(0,0)).1<=1;rw[if_neg (nl p o e)];exact zAj _) hv
      |ow d=>exact Rp.wk (λ p o e _=>by show(if p=l then((2,0):Nat×Nat)else(0,0)).1<=1;rw[if_neg (nl p o e)];exact zAj _) hv
      |o2 d=>exact Rp.wk (λ p o e _=>by show(if p=l then((2,0):Nat×Nat)else(0,0)).1<=1;rw[if_neg (nl p o e)];exact zAj _) hv
 .by_cases hp':p=l
  .subst hp';exact R.old.free hl
  .exact absurd (show(if p=l then((2,0):Nat×Nat)else(0,0)).1=0 by rw[if_neg hp']) hp
def aP2(XN N:List Str)(js:hV)(ks:List Nat)(sc:Scope):Bool:=(zAu js.length).all λ i=>match js[i]? with
 |some (some j)=>match N[i]?,XN[j]? with
  |some x,some y=>x==y&&sc.names.lookup x==some .free&& !ks.contains i
  |_,_=>false
 |_=>true
def aBi(h1:sc.kind= .function)(h2:(sc.names.all λ y=>y.2 != .cell||sc.names.lookup y.1==some .cell)=true)(h3:(sc.names.all λ y=>y.2 != .local||sc.names.lookup y.1==some .local)=true)
  (h4:(sc.names.all λ y=>y.2 != .free||(X.env.kindOf y.1==some .cell||X.env.kindOf y.1==some .free))=true)(h5:js.length=N.length)(h6:aP2 X.N N js ks sc=true):fJ X sc N (stV js) ks:=by
 refine⟨h1,λ y hy e=>?_,λ y hy e=>?_,λ y hy e=>?_,λ σ=>by unfold stV;rw[zAE];exact h5,λ σ i x v e1 e2=>?_⟩
 .have:=zAr.mp h2 y hy
  rw[e]at this;simpa using this
 .have:=zAr.mp h3 y hy
  rw[e]at this;simpa using this
 .have:=zAr.mp h4 y hy
  rw[e]at this;simpa using this
 .unfold stV at e2
  rw[zA2]at e2;cases ej:js[i]? with
  |none=>rw[ej]at e2;cases e2
  |some o=>
   rw[ej]at e2;cases o with
   |none=>cases e2
   |some j=>
    have hi:i<js.length:=(zAJ.mp ej).1
    have:=zAr.mp h6 i (zCP.mpr hi)
    rw[ej,e1]at this;dsimp only at this;cases ey:X.N[j]? with
    |none=>rw[ey]at this;cases this
    |some y=>
     rw[ey]at this;simp only[zAN,beq_iff_eq,zCA]at this;obtain⟨⟨h,h'⟩,h''⟩:=this;subst h;refine⟨h',λ hk=>?_,j,ey,?_⟩
     .rw[List.contains_iff_mem.mpr hk]at h'';cases h''
     .simp only[zDE,zHQ,Option.some.injEq]at e2
      cases es:σ[j]? with
      |none=>rw[es]at e2;cases e2
      |some w=>rw[es]at e2;simp at e2;subst e2;rfl
abbrev Ct.blk(C:Ct)(sc:Scope)(N:List Str):Ct where
 ι:=C.ι×Addr×List Addr×zAG×Hp
 X:=λ i=>(C.X i.1).block sc i.2.1 N i.2.2.1 i.2.2.2.1 i.2.2.2.2
 prog:=C.prog
 w:=C.w
 K:=C.K
 mg:=C.mg
 base:=C.base
 k:=C.k
 G:={C.G with E:=λ _ _ _=>False}
 cx:=λ i=>C.cx i.1
 calm:=λ i=>C.calm i.1
 room:=λ i=>C.room i.1
 own:=λ i=>PassesOwn.never
 pass:=λ i iX σ H s e s' I h=>by obtain⟨_,_,_,_,_,_,_,_,_,_,_,_,_,hE⟩:=h;exact hE
 dOk:=false
 dcx:=λ h=>absurd h zAX
def lcL(ρ:En)(fg:D->En->Rs En)(ft:En->Rs Bool)(fe:En->Rs D):List D->Rs (List D)
 |[]=>.ok []
 |d::ds=>(fg d ρ).bd λ ρ1=>(ft ρ1).bd λ k=>if k=true then(fe ρ1).bd λ y=>(lcL ρ fg ft fe ds).bd λ ys=>.ok (y::ys)else lcL ρ fg ft fe ds
def lcD(fi:En->Rs (List D))(js:hV)(fg:D->En->Rs En)(ft:En->Rs Bool)(fe:En->Rs D):En->Rs D:=λ ρ=>(fi (shE ρ)).bd λ ds=>
 if ds.length<zAY then(match lcL (stE js (shE ρ)) fg ft fe ds with
  | .ok l=>.ok (.lst l)
  |_=>.st)else .st
def aJk(C:Ct)(ifs:List Expr)(f:En->Rs Bool):Prop:=∃t,(∀i,aDb (C.X i) ifs t)/\aEt C.K C.G t f
def ju:En->Rs Bool:=λ _=>.ok true
def lw:aJk C [] ju:=⟨_,λ _=>aNC,λ U σ H ρ lab Q R W=>W H (aX.refl H)⟩
def rG(h:ST C c f):aJk C [c] f:=let⟨t,h1,h2⟩:=h;⟨t,λ i=>aNB (h1 i),h2⟩
def aCu(h:lcL ρ fg ft fe (d::ds)= .ok l):
  ∃ρ1 k,fg d ρ= .ok ρ1/\ft ρ1= .ok k/\((k=true/\∃y ys,fe ρ1= .ok y/\lcL ρ fg ft fe ds= .ok ys/\l=y::ys)\/(k=false/\lcL ρ fg ft fe ds= .ok l)):=by
 unfold lcL at h;obtain⟨ρ1,e1,h⟩:=dW h;obtain⟨k,e2,h⟩:=dW h;refine⟨ρ1,k,e1,e2,?_⟩;cases k with
 |true=>
  rw[if_pos rfl]at h;obtain⟨y,e3,h⟩:=dW h;obtain⟨ys,e4,h⟩:=dW h;cases h;exact .inl ⟨rfl,y,ys,e3,e4,rfl⟩
 |false=>
  rw[if_neg zAX]at h;exact .inr ⟨rfl,h⟩
def RR.but_blk{K:zAA}{U:List (V×D)}(R:RR K G U (stE js (VL.shE ρ)) σ H (λ p=>if p=l then(2,0)else(0,0)))(B:mR l H H')(hl:H l=some o)(ho:lU o=true)(h0:G.H0 l=none):
  RR K G U (stE js (VL.shE ρ)) σ H' (λ p=>if p=l then(2,0)else(0,0)):=by
 have bS:¬((λ p=>if p=l then((2,0):Nat×Nat)else(0,0)) l).1<=1:=by simp
 refine⟨R.len,λ j s e=>?_,λ b o hb=>?_,R.new,λ q hq=>(R.tm q hq).but B hl ho bS⟩
 .rcases R.sl j s e with z|⟨u,e1,e2⟩
  .exact .inl z
  .refine .inr ⟨u,e1,?_⟩
   rcases aH5 e with rfl|⟨jx,ej,es⟩
   .trivial
   .unfold VL.shE at es
    rw[zA2]at es;cases e0:ρ[jx]? with
    |none=>rw[e0]at es;cases es
    |some s0=>rw[e0]at es;cases es;cases s0<;>first|trivial|exact Rp.but B hl ho bS e2
 .exact B b o (λ z=>by subst z;rw[h0]at hb;cases hb) (R.old b o hb)
def RR.blk0{K:zAA}(R:RR K G U (VL.shE ρ) σ H lab)(hG:G'.H0=G.H0):RR K G' U (VL.shE ρ) σ H (λ _=>(0,0)):=by
 refine⟨R.len,λ i s e=>?_,by rw[hG];exact R.old,λ p hp=>absurd rfl hp,λ q hq=>(R.tm q hq).wk λ _ _ _ _=>zAj _⟩;rcases R.sl i s e with rfl|⟨v,ev,hv⟩
 .exact .inl rfl
 .unfold VL.shE at e
  rw[zA2]at e;cases e0:ρ[i]? with
  |none=>rw[e0]at e;cases e
  |some s0=>rw[e0]at e;cases e;cases s0<;>first|exact .inl rfl|exact .inr ⟨v,ev,Rp.wk (λ _ _ _ _=>zAj _) hv⟩
section
variable{K:zAA}{G:Gx}{wi:TI}{fi:En->Rs (List D)}{js:hV}{g:TG}{fg:D->En->Rs En}{tt:TT}{ft:En->Rs Bool}{te:TE}{fe:En->Rs D}
def aHd(hi:aLo K G wi fi)(hg:aLp K {G with E:=λ _ _ _=>False} g fg)(ht:aEt K {G with E:=λ _ _ _=>False} tt ft)(he:jW K {G with E:=λ _ _ _=>False} (some []) te fe):
  jW K G (some []) (tLC wi (stV js) g tt te) (lcD fi js fg ft fe):=by
 intro U σ H ρ lab Q R W;refine hi U σ H _ _ _ R.shE (W.bd.imp λ ds _ w J H1 lab1 U1 s1 _ R1 jl=>?_);intro l hl;obtain⟨kQ,out,qV,w⟩:ds.length<zAY/\∃out,lcL (stE js (VL.shE ρ)) fg ft fe ds= .ok out/\QE K (some []) lab H Q (.lst out):=by
  by_cases kQ:ds.length<zAY
  .rw[if_pos kQ]at w
   cases qV:lcL (stE js (VL.shE ρ)) fg ft fe ds with
   |ok out=>rw[qV]at w;exact⟨kQ,out,rfl,w⟩
   |ex c=>rw[qV]at w;exact zAR w
   |st=>rw[qV]at w;exact zAR w
  .rw[if_neg kQ]at w
   exact zAR w
 have R0:RR K {G with E:=λ _ _ _=>False} (U1++U) (VL.shE ρ) σ H1 (λ _=>(0,0)):=R1.blk0 rfl;have RB:=R0.block (js:=js) (λ _=>zAj _) hl;have hHl:H l=none:=s1.free hl;have bS:¬((λ p=>if p=l then((2,0):Nat×Nat)else(0,0)) l).1<=1:=by simp
 refine⟨λ i n acc H2=>∃pre,n=ds.length-i/\i<=ds.length/\H2 l=some (.lst acc)/\RR K {G with E:=λ _ _ _=>False} (U1++U) (stE js (VL.shE ρ)) (stV js σ) H2 (λ p=>if p=l then(2,0)else(0,0))/\aX H H2/\acc.length<=i/\
  Rps K (λ p=>H p=none/\p≠l) H2 acc pre/\∃post,lcL (stE js (VL.shE ρ)) fg ft fe (ds.drop i)= .ok post/\out=pre++post,⟨ds.length,[],by lia,by lia,aq,RB.up (au hl _),s1.trans (au hl _),zAT _,.nil,out,qV,rfl⟩,?_⟩
 rintro i n acc H2 ⟨pre,rfl,hi,hH2,R2,s2,oQ,rpre,post,hpost,eout⟩;refine⟨hH2,by lia,?_⟩;have jj:=jl _ H2 λ q hq=>R2.tm q (zAQ _ hq)
 by_cases hlt:i<ds.length
 .obtain⟨go,yl⟩:=(jj i).2 hlt
  refine .inr ⟨go,λ x H3 hy=>?_⟩;obtain⟨s3,d,ed,rx⟩:=yl x H3 hy;replace R2:=R2.up s3;replace hH2:=s3 _ _ hH2;replace s2:=s2.trans s3;replace rpre:=rpre.up s3;have ed2:ds.drop i=d::ds.drop (i+1):=by
   rw[zBn hlt]
   have:=zAD hlt
   rw[ed]at this;cases this;rfl
  rw[ed2]at hpost;obtain⟨ρ1,k,e1,e2,e3⟩:=aCu hpost;refine hg (U1++U) x d _ H3 _ _ _ ρ1 R2 rx e1 λ σ4 R4=>?_
  refine ht (U1++U) σ4 H3 ρ1 _ _ R4 ?_;rw[e2];intro H5 s5;rcases e3 with ⟨rfl,y,ys,e3,e4,rfl⟩|⟨rfl,e4⟩
  .rw[if_pos rfl]
   refine he (U1++U) σ4 H5 ρ1 _ _ (R4.up s5) ?_;rw[e3];intro v H6 s6 r6;have hl6:H6 l=some (.lst acc):=s6 _ _ (s5 _ _ hH2);have B:mR l H6 (upd H6 l (.lst (acc++[v]))):=λ b o ne hb=>by rw[bG ne];exact hb
   refine⟨hl6,ds.length-(i+1),by lia,pre++[y],rfl,hlt,aq,?_,?_,by rw[zA0];simp;lia,?_,ys,e4,by rw[eout];simp⟩
   .exact(R2.up (s5.trans s6)).but_blk B hl6 rfl (R1.old.free hl)
   .exact λ b o hb=>B b o (λ z=>by subst z;rw[hHl]at hb;cases hb) (((s2.trans s5).trans s6) b o hb)
   .refine((rpre.up (s5.trans s6)).append (.cons (r6.wk λ p o _ z=>?_) .nil)).but B hl6 rfl λ z=>z.2 rfl
    rcases z with z|z
    .exact⟨(s2.trans s5).free z,λ e=>by subst e;rw[s5 _ _ hH2]at z;cases z⟩
    .cases z
  .rw[if_neg zAX]
   exact⟨ds.length-(i+1),by lia,pre,rfl,hlt,s5 _ _ hH2,R2.up s5,s2.trans s5,by lia,rpre.up s5,post,e4,eout⟩
 .have ei:i=ds.length:=by lia
  subst ei;rw[zES]at hpost;cases hpost;rw[zAe]at eout;subst eout;exact .inl ⟨(jj _).1 (zAT _),w _ H2 s2 (.lst hH2 (.inl hHl) (rpre.wk λ p o _ z=>⟨.inl z.1,z.2⟩))⟩
end
section
variable{C:Ct}{pos:Pos}{elt tg iter:Expr}{ifs:List Expr}{sc:Scope}{N:List Str}{js:hV}{ks:List Nat}{fi:En->Rs (List D)}{fg:D->En->Rs En}{ft:En->Rs Bool}{fe:En->Rs D}
def bh{C:Ct}(nd:N.Nodup:=by decide+kernel)(hk:i∈ks:=by decide)(hN:∀j,((C.blk sc N).X j).N[i]? =some x:=by intro _;rfl)(hx:∀j,Loc ((C.blk sc N).X j).env.scope x:=by intro _;first|exact zC8 rfl|exact zBy rfl)
  (hf:∀j,((C.blk sc N).X j).fn x=true\/((C.blk sc N).X j).env.scope.names.lookup x=some .local:=by intro _;first|exact .inl rfl|exact .inr rfl):SG (C.blk sc N) (.Name x pos) ks (gnm i):=
 ak hN hx hf (λ _=>nd) hk
def pA(hi:SI C tg iter fi)(hg:SG (C.blk sc N) tg ks fg)(ht:aJk (C.blk sc N) ifs ft)(he:SE (C.blk sc N) (some []) elt fe)(hs:∀i x,zBs iter (C.X i).env x=pure x:=by intro _ _;rfl)(hB:∀i,fJ (C.X i) sc N (stV js) ks:=by intro _;exact aBi rfl rfl rfl rfl rfl rfl):SE C (some []) (.ListComp elt [⟨tg,iter,ifs,0⟩] sc pos) (lcD fi js fg ft fe):=by
 obtain⟨wi,i1,i2⟩:=hi;obtain⟨g,g1,g2,g3,g4⟩:=hg;obtain⟨tt,t1,t2⟩:=ht;obtain⟨te,e1,e2⟩:=he;exact⟨_,λ i=>aOb (hB i) (C.calm i) (i1 i) (λ c fp z4 zS=>g1 (i,c,fp,z4,zS)) g3 (λ c fp z4 zS=>t1 (i,c,fp,z4,zS)) (λ c fp z4 zS=>e1 (i,c,fp,z4,zS)) (hs i),aHd i2 g2 t2 e2⟩
def aFC(hi:SI C tg iter fi)(hg:SG (C.blk sc N) tg ks fg)(ht:aJk (C.blk sc N) ifs ft)(he:SE (C.blk sc N) (some []) elt fe)(hN:∀j,(C.X j).N[i]? =some x:=by intro _;rfl)(hx:∀j,Loc (C.X j).env.scope x:=by intro _;first|exact zC8 rfl|exact zBy rfl)(hsw:∀j,zCd (.ListComp elt [⟨tg,iter,ifs,0⟩] sc pos) (some (.Name x pos')) spos.line (C.X j).env=pure true:=by intro _;rfl)(hs:∀i x,zBs iter (C.X i).env x=pure x:=by intro _ _;rfl)(hf:∀j,(C.X j).fn x=true\/(C.X j).env.scope.names.lookup x=some .local:=by intro _;first|exact .inl rfl|exact .inr rfl)(nd:∀j,(C.X j).N.Nodup:=by intro _;assumption)(hB:∀i,fJ (C.X i) sc N (stV js) ks:=by intro _;exact aBi rfl rfl rfl rfl rfl rfl):
  SV C i (.Assign [.Name x pos'] (.ListComp elt [⟨tg,iter,ifs,0⟩] sc pos) spos) (some []) (lcD fi js fg ft fe):=by
 obtain⟨wi,i1,i2⟩:=hi;obtain⟨g,g1,g2,g3,g4⟩:=hg;obtain⟨tt,t1,t2⟩:=ht;obtain⟨te,e1,e2⟩:=he;exact⟨_,λ j=>aCX (nd j) (hN j) (hx j) (hB j) (C.calm j) (i1 j) (λ c fp z4 zS=>g1 (j,c,fp,z4,zS)) g3 (λ c fp z4 zS=>t1 (j,c,fp,z4,zS)) (λ c fp z4 zS=>e1 (j,c,fp,z4,zS)) (hsw j) (hs j) (hf j),aHd i2 g2 t2 e2⟩
end
def RR.mut{K:zAA}(R:RR K G U ρ σ H lab)(ev:σ[i]? =some (some v))(hl:H l=some o)(ho:lU o=true)(aT:(lab l).1=i+2)
  (B:mR l H H')(h':jG K H' lab i v s'):RR K G U (ρ.set i s') σ H' lab:=by
 refine⟨by rw[zBD];exact R.len,λ j x e=>?_,λ b u hb=>B b u (λ z=>?_) (R.old b u hb),R.new,λ q hq=>(R.tm q hq).but B hl ho λ z=>by lia⟩
 .by_cases hj:i=j
  .subst hj
   have hi:i<ρ.length:=by
    have:=(zAJ.mp e).1
    rwa [zBD]at this
   rw[zBT hi]at e;cases e;exact .inr ⟨v,ev,h'⟩
  .rw[zBG hj]at e
   rcases R.sl j x e with z|⟨u,e1,e2⟩
   .exact .inl z
   .refine .inr ⟨u,e1,?_⟩
    cases x with
    |no=>trivial
    |sh d=>exact Rp.but B hl ho (λ z=>by lia) e2
    |nw d=>exact Rp.but B hl ho (λ z=>by lia) e2
    |ow d=>exact⟨Rp.but B hl ho (λ z=>by lia) e2.1,e2.2⟩
    |oz d=>
     obtain⟨a,xs,ds,q1,q2,q3,q4,q5⟩:=e2;exact⟨a,xs,ds,q1,q2,B a _ (λ z=>by subst z;exact hj (by lia)) q3,q4,Rps.but B hl ho (λ z=>by lia) q5⟩
    |o2 ll=>
     obtain⟨a,xs,q1,q2,q3,q4,q5⟩:=e2;refine⟨a,xs,q1,B a _ (λ z=>?_) q2,q3,q4,λ jj y ds f1 f2=>(q5 jj y ds f1 f2).but B hl ho λ z=>?_⟩
     .rw[z]at q3;rw[q3]at aT;exact hj (by simpa using aT.symm)
     .rw[z]at aT;exact hj (by simpa using aT.symm)
 .subst z
  have:=R.new b (by rw[aT];lia)
  rw[this]at hb;cases hb
section
variable{C:Ct}{pos apos cpos p:Pos}{e a:Expr}{fe fa:En->Rs D}{i:Nat}{x:Str}{m:Mode}
def lC(i:Nat)(fe:En->Rs D):En->Ou:=λ ρ=>match ρ[i]? with
 |some (.ow (.lst ds))=>(fe ρ).bo λ d=>if ds.length<zAY then .nx (ρ.set i (.ow (.lst (ds++[d]))))else .st
 |_=>.st
def fL(i:Nat)(he:SE C m e fe)(hm:okN m=true:=by rfl)(hN:∀j,(C.X j).N[i]? =some x:=by intro _;rfl)(hv:∀j,Vis (C.X j).env.scope x:=by intro _;first|exact zC8 rfl|exact zBy (zC8 rfl)|exact zBy (zBy rfl))(hd:Nd x:=by decide)
  (hcd:(x==("__classdict__":Str))=false:=by decide)(hs1:∀j,zA1 [e] (C.X j).env=[(false,eval e (C.X j).env)]:=by intro _;rfl)
  (hbase:∀j,zDs (.Name x p) "append" (C.X j).env (eval (.Name x p) (C.X j).env)=eval (.Name x p) (C.X j).env:=by intro _;rfl)
  (hfew:∀j,((zCo cpos (zA1 [e] (C.X j).env)).all (λ x=>!x.1)&&(zFM cpos (zD7 [] (C.X j).env)).all (λ x=>x.1.isSome)&&decide ([e].length+([]:List zCj).length+(if ([]:List zCj).isEmpty then 0 else 1)<30))=true:=by intro _;rfl)
  (hline:(apos.endLine==cpos.line)=true:=by rfl)
  (hsw:∀j,zCd (.Call (.Attribute (.Name x p) "append" apos) [e] [] cpos) none pos.line (C.X j).env=pure false:=by intro _;rfl):
  SS C (.Expr (.Call (.Attribute (.Name x p) "append" apos) [e] [] cpos) pos) (lC i fe):=by
 obtain⟨t,h1,h2⟩:=he;refine⟨aBw (tBM C.K "list" yC (xO i) (je t oZ)),λ j=>tX (by rw[<-C.hK j];exact aCY zDB zER zFs yP (mH (hN j) (hv j) hd hcd) (dI (h1 j) gR (hs1 j)) (hbase j) (hfew j) hline (hs1 j) rfl) (hsw j),λ U σ H ρ lab De R W=>?_⟩;unfold lC at W;cases es:ρ[i]? with
 |none=>rw[es]at W;exact zAR W
 |some s=>
  rw[es]at W;split at W
  .rename_i ds hs
   cases hs;rcases R.sl i _ es with z|⟨v,ev,hv'⟩
   .cases z
   .obtain⟨hv1,htop⟩:=hv'
    obtain⟨a0,ea0,la0⟩:=htop rfl;subst ea0;cases hv1 with
    |lst h mm r=>
     rename_i xs;refine⟨.ref a0,ev,.inl ⟨rfl,xs,SqL.of h⟩,h2 U σ H ρ lab _ R (W.bo.imp λ d _ w y H2 s2 r2=>?_)⟩;by_cases hz:ds.length<zAY
     .rw[if_pos hz]at w
      refine⟨a0,xs,y,rfl,rfl,s2 _ _ h,by rw[r.length];exact hz,λ H3 B h3=>?_⟩;obtain⟨R',r'⟩:=R.fresh (P:=λ k=>k=1) rfl (λ k hk=>beq_iff_eq.mp (qO hm k hk)) s2 r2;have la:(cJ H 1 lab a0).1=i+2:=by rw[bf h];exact la0
      refine w σ H3 _ (R'.mut ev (s2 _ _ h) rfl la B ⟨.lst h3 (.inr la) ?_,λ _=>⟨a0,rfl,la⟩⟩);have ra:Rps C.K (λ p=>((cJ H 1 lab p).1=1\/(cJ H 1 lab p).1=i+2)/\p≠a0) H2 (xs++[y]) (ds++[d]):=by
       refine(r.mono s2 λ p o e z=>⟨by rw[bf e];exact z.1,z.2⟩).append (.cons (r'.wk λ p o e z=>⟨.inl z,λ q=>?_⟩) .nil);subst q;rw[la]at z;lia
      exact ra.but B (s2 _ _ h) rfl λ z=>z.2 rfl
     .rw[if_neg hz]at w
      exact zAR w
  .exact zAR W
def at2(ll:eB):D->Option (Nat×List D)
 | .int n=>(ixN ll.length n).bind λ j=>(ll[j]?).map λ ds=>(j,ds)
 |_=>none
def qI(i:Nat)(fa fe:En->Rs D):En->Ou:=λ ρ=>match ρ[i]? with
 |some (.o2 ll)=>(fa ρ).bo λ k=>match at2 ll k with
  |some (j,ds)=>(fe ρ).bo λ d=>if ds.length<zAY then .nx (ρ.set i (.o2 (ll.set j (ds++[d]))))else .st
  |none=>.st
 |_=>.st
def aJe(h:at2 ll k=some (j,ds)):∃n,k= .int n/\ixN ll.length n=some j/\ll[j]? =some ds:=by
 cases k with
 |int n=>
  simp only[at2,Option.bind_eq_some_iff,zC7]at h;obtain⟨j',h1,ds',h2,h3⟩:=h;cases h3;exact⟨n,rfl,h1,h2⟩
 |_=>cases h
def rE(i:Nat){p2:Pos}(ha:SE C m a fa)(he:SE C (some []) e fe)(hN:∀j,(C.X j).N[i]? =some x:=by intro _;rfl)(hv:∀j,Vis (C.X j).env.scope x:=by intro _;first|exact zC8 rfl|exact zBy (zC8 rfl)|exact zBy (zBy rfl))(hd:Nd x:=by decide)
  (hcd:(x==("__classdict__":Str))=false:=by decide)(hs1:∀j,zA1 [e] (C.X j).env=[(false,eval e (C.X j).env)]:=by intro _;rfl)(hp:aBq a:=by exact λ _ _=>rfl)
  (hbase:∀j,zDs (.Subscript (.Name x p) a p2) "append" (C.X j).env (eval (.Subscript (.Name x p) a p2) (C.X j).env)=eval (.Subscript (.Name x p) a p2) (C.X j).env:=by intro _;rfl)
  (hfew:∀j,((zCo cpos (zA1 [e] (C.X j).env)).all (λ x=>!x.1)&&(zFM cpos (zD7 [] (C.X j).env)).all (λ x=>x.1.isSome)&&decide ([e].length+([]:List zCj).length+(if ([]:List zCj).isEmpty then 0 else 1)<30))=true:=by intro _;rfl)
  (hline:(apos.endLine==cpos.line)=true:=by rfl)
  (hsw:∀j,zCd (.Call (.Attribute (.Subscript (.Name x p) a p2) "append" apos) [e] [] cpos) none pos.line (C.X j).env=pure false:=by intro _;rfl):
  SS C (.Expr (.Call (.Attribute (.Subscript (.Name x p) a p2) "append" apos) [e] [] cpos) pos) (qI i fa fe):=by
 obtain⟨t,h1,h2⟩:=he;obtain⟨ta,a1,a2⟩:=ha;refine⟨aBw (tBM C.K "list" yC (tOp (aMo C.K) (xO i) ta) (je t oZ)),λ j=>tX (by rw[<-C.hK j];exact aCY zDB zER zFs yP (aMQ aFo (mH (hN j) (hv j) hd hcd) (a1 j) hp) (dI (h1 j) gR (hs1 j)) (hbase j) (hfew j) hline (hs1 j) rfl) (hsw j),λ U σ H ρ lab De R W=>?_⟩;unfold qI at W;cases es:ρ[i]? with
 |none=>rw[es]at W;exact zAR W
 |some s=>
  rw[es]at W;cases s with
  |o2 ll=>
   dsimp only at W;rcases R.sl i _ es with z|⟨v,ev,top,xs,rfl,ht,hlt,kQ,hin⟩
   .cases z
   .refine⟨.ref top,ev,a2 U σ H ρ lab _ R (W.bo.imp λ k _ w kv H1 s1 r1=>?_)⟩
    cases hk:at2 ll k with
    |none=>rw[hk]at w;exact zAR w
    |some q=>
     obtain⟨j,ds⟩:=q;rw[hk]at w;dsimp only at w;obtain⟨n,rfl,hj,hds⟩:=aJe hk;cases r1;have hjx:∃xj,xs[j]? =some xj:=by
      have:j<xs.length:=by rw[kQ];exact(zAJ.mp hds).1
      exact⟨_,zAD this⟩
     obtain⟨xj,hxj⟩:=hjx;have hr:=hin j xj ds hxj hds;cases hr with
     |lst hl ml rl=>
      rename_i l ys;refine⟨top,xs,n,.ref l,rfl,rfl,SqL.of (s1 _ _ ht),by unfold atI;rw[kQ,hj];exact hxj,.inl ⟨rfl,ys,SqL.of (s1 _ _ hl)⟩,h2 U σ H1 ρ lab _ (R.up s1) (w.bo.imp λ d _ w y H2 s2 r2=>?_)⟩;by_cases hz:ds.length<zAY
      .rw[if_pos hz]at w
       have s12:=s1.trans s2;refine⟨l,ys,y,rfl,rfl,s12 _ _ hl,by rw[rl.length];exact hz,λ H3 B h3=>?_⟩;have ltop:l≠top:=λ e=>by rw[e,hlt]at ml;cases ml
       let lab':Lab:=λ p=>match H1 p with
        |none=>(i+2,j+1)
        |some _=>lab p
       have lo:∀{p o},H1 p=some o->lab' p=lab p:=λ{p o} e=>by show(match H1 p with|none=>_|some _=>_)=_;rw[e]
       have ln:∀{p},H1 p=none->lab' p=(i+2,j+1):=λ{p} e=>by show(match H1 p with|none=>_|some _=>_)=_;rw[e]
       have R':RR C.K C.G U ρ σ H2 lab':=((R.up s1).relab (λ p o e=>lo e) λ p hp=>by
        cases e:H1 p with
        |none=>exact(R.old.trans s1).free e
        |some o=>rw[lo e]at hp;exact R.new p hp).up s2
       have bX:lab' l=(i+2,j+1):=by rw[lo (s1 _ _ hl)];exact ml
       refine w σ H3 lab' (R'.mut ev (s12 _ _ hl) rfl (by rw[bX]) B ⟨top,xs,rfl,B _ _ (zEG ltop) (s12 _ _ ht),by rw[lo (s1 _ _ ht)];exact hlt,by rw[zBD];exact kQ,λ jj z dz f1 f2=>?_⟩);by_cases hjj:j=jj
       .subst hjj
        rw[hxj]at f1;cases f1;rw[zBT (zAJ.mp hds).1]at f2;cases f2;refine .lst h3 bX ?_;have ra:Rps C.K (λ p=>lab' p=(i+2,j+1)/\p≠l) H2 (ys++[y]) (ds++[d]):=by
         refine(rl.mono s12 λ p o e z=>⟨by rw[lo (s1 _ _ e)];exact z.1,z.2⟩).append (.cons (r2.wk λ p o e z=>?_) .nil);rcases z with z|z
         .exact⟨ln z,λ q=>by subst q;rw[s1 _ _ hl]at z;cases z⟩
         .cases z
        exact ra.but B (s12 _ _ hl) rfl λ z=>z.2 rfl
       .rw[zBG hjj]at f2
        refine((hin jj z dz f1 f2).mono s12 (A':=λ p=>lab' p=(i+2,jj+1)) λ p o e q=>by rw[lo (s1 _ _ e)];exact q).but B (s12 _ _ hl) rfl λ q=>?_
        rw[bX]at q;simp only[zD0]at q;lia
      .rw[if_neg hz]at w
       exact zAR w
  |_=>exact zAR W
end
mutual
def eqD:D->D->Bool
 | .non,.non=>true
 | .bl a,.bl b=>a==b
 | .bl a,.int b=>(if a then 1 else 0)==b
 | .int a,.bl b=>a==(if b then 1 else 0)
 | .int a,.int b=>a==b
 | .str a,.str b=>a==b
 | .tup l,.tup m=>jU l m
 | .lst l,.lst m=>jU l m
 |_,_=>false
def jU:List D->List D->Bool
 |[],[]=>true
 |x::xs,y::ys=>eqD x y&&jU xs ys
 |_,_=>false
end
mutual
def lB:D->Nat
 | .tup l=>dC l+1
 | .lst l=>dC l+1
 |_=>0
def dC:List D->Nat
 |[]=>0
 |d::r=>max (lB d) (dC r)
end
mutual
def bC:D->Bool
 | .tup l=>bD l
 | .lst l=>bD l
 | .dct _ _=>false
 | .set _=>false
 | .scr _=>false
 | .fn _=>false
 |_=>true
def bD:List D->Bool
 |[]=>true
 |d::r=>bC d&&bD r
end
mutual
theorem zF:∀d:D,bC d=true->eqD d d=true
 | .non,_=>by simp[eqD]
 | .bl b,_=>by simp[eqD]
 | .int i,_=>by simp[eqD]
 | .str x,_=>by simp[eqD]
 | .tup l,h=>by exact vU l (by simpa[bC]using h)
 | .lst l,h=>by exact vU l (by simpa[bC]using h)
 | .dct _ _,h=>by simp[bC]at h
 | .set _,h=>by simp[bC]at h
 | .scr _,h=>by simp[bC]at h
theorem vU:∀l:List D,bD l=true->jU l l=true
 |[],_=>by simp[jU]
 |d::r,h=>by
  simp only[bD,zAN]at h;simp only[jU,zAN];exact⟨zF d h.1,vU r h.2⟩
end
structure nM(K:zAA)(H:Hp)(s:zAG):Prop where
 tup:∀{a:Addr} {xs:List V},SqT K H a xs->∃its:List Value,Vals xs its/\s.heap.IsTuple a its.toArray
 lst:∀{a:Addr} {xs:List V},H a=some (.lst xs)->∃its:List Value,Vals xs its/\s.heap.IsList a its.toArray
 inj:∀{a:Addr} {xs ys:List V},SqT K H a xs->SqT K H a ys->xs=ys
 ne:∀{a:Addr} {xs ys:List V},SqT K H a xs->H a=some (.lst ys)->False
def Inv.seqOk(I:L2.Inv X iX σ H s):nM X.K H s where
 tup:=λ h=>let⟨its,r,p,_⟩:=I.tuple h;⟨its,r,p⟩
 lst:=λ h=>let⟨its,r,p,_⟩:=I.list (SqL.of h);⟨its,r,p.isList⟩
 inj:=λ h h'=>I.tuple_inj h h'
 ne:=λ h h'=>by
  obtain⟨its,_,⟨o,e,c,_⟩,_⟩:=I.tuple h;obtain⟨its2,_,⟨o2,n2,e2,c2,_⟩,_⟩:=I.list (SqL.of h');rw[e]at e2;cases e2;rw[c]at c2;injection c2 with c3
  exact absurd c3 (by decide)
section
variable{K:zAA}{H:Hp}{s:zAG}
def ndP:D->Prop
 | .dct _ _=>False
 | .set _=>False
 | .scr _=>False
 | .fn _=>False
 |_=>True
def ndx{d:D}(h:bC d=true):ndP d:=by cases d<;>first|exact zEH|(simp[bC]at h)
def bY(h:bC (.dct a b)=true):False:=by simp[bC]at h
def fM(h:bC (.set a)=true):False:=by simp[bC]at h
def fO(h:bC (.scr a)=true):False:=by simp[bC]at h
def iI(h:bC (.fn a)=true):False:=by simp[bC]at h
def jk(h:bC (.tup a)=true):bD a=true:=by simpa[bC]using h
def jm(h:bC (.lst a)=true):bD a=true:=by simpa[bC]using h
def lL(h:bD (d::a)=true):bC d=true/\bD a=true:=by
 simp only[bD,zAN]at h;exact h
def aLv(K:zAA)(s:zAG)(H:Hp)(x:V)(d:D):Prop:=nM K H s->∀(A':Addr->Prop) (e:D),Rp K A' H x e->bC d=true->bC e=true->d=e
def aDc(K:zAA)(s:zAG)(H:Hp)(xs:List V)(ds:List D):Prop:=nM K H s->∀(A':Addr->Prop) (es:List D),Rps K A' H xs es->bD ds=true->bD es=true->ds=es
def aLT(ha:SqT K H a xs)(ih:aDc K s H xs ds):aLv K s H (.ref a) (.tup ds):=λ ok A' e h n1 n2=>by
 cases h with
 |tup hb r'=>
  have e:=ok.inj ha hb;subst e;rw[ih ok _ _ r' (jk n1) (jk n2)]
 |lst hb _ _=>exact(ok.ne ha hb).elim
 |_=>exact zAR (ndx n2)
def aLU(ha:H a=some (.lst xs))(ih:aDc K s H xs ds):aLv K s H (.ref a) (.lst ds):=λ ok A' e h n1 n2=>by
 cases h with
 |tup hb r'=>exact(ok.ne hb ha).elim
 |lst hb _ r'=>
  rw[ha]at hb;cases hb;rw[ih ok _ _ r' (jm n1) (jm n2)]
 |_=>exact zAR (ndx n2)
def aIv(h1:aLv K s H x d)(h2:aDc K s H xs ds):aDc K s H (x::xs) (d::ds):=λ ok A' es h n1 n2=>by
 cases h with
 |cons k r'=>rw[h1 ok _ _ k (lL n1).1 (lL n2).1,h2 ok _ _ r' (lL n1).2 (lL n2).2]
def Rp.inj(ok:nM K H s)(r:Rp K A H x d)(h:Rp K A' H x e)(n1:bC d=true)(n2:bC e=true):d=e:=
 Rp.rec (motive_1:=λ _ H x d _=>aLv K s H x d) (motive_2:=λ _ H xs ds _=>aDc K s H xs ds)
  (λ _ _ _ h _ _=>by cases h;rfl) (λ _ _ _ _ h _ _=>by cases h;rfl) (λ _ _ _ _ h _ _=>by cases h;rfl) (λ _ _ _ _ h _ _=>by cases h;rfl) (λ ha _ ih=>aLT ha ih) (λ ha _ _ ih=>aLU ha ih)
  (λ _ _ _ _ _ _ _ _ n1 _=>(bY n1).elim) (λ _ _ _ _ _ _ _ _ n1 _=>(bY n1).elim) (λ _ _ _ _ _ _ _ _ n1 _=>(fM n1).elim) (λ _ _ _ _ _ n1 _=>(fO n1).elim) (λ _ _ _ _ _ n1 _=>(iI n1).elim)
  (λ _ _ _ h _ _=>by cases h;rfl) (λ _ _ h1 h2=>aIv h1 h2) r ok A' e h n1 n2
end
theorem aDP:∀(l m:List D),jU l m=((zAu (min l.length m.length)).all (λ j=>match l[j]?,m[j]? with|some a,some b=>eqD a b|_,_=>true)&&l.length==m.length)
 |[],[]=>by simp[jU]
 |[],y::ys=>by simp[jU]
 |x::xs,[]=>by simp[jU]
 |x::xs,y::ys=>by
  have ih:=aDP xs ys;simp only[jU,ih,zA6,Nat.succ_min_succ,List.range_succ_eq_map,zDH,zGk,zDI,zGh,zC3,Nat.succ_eq_add_one,Nat.add_one_inj,zEd];congr 1;congr 1;simp
theorem aA6:∀{l:List D} {d:D},d∈l->lB d<=dC l
 |x::r,d,h=>by
  simp only[dC];rcases zAL.mp h with rfl|h
  .exact zIY _ _
  .exact zAn (aA6 h) (zIP _ _)
theorem sH:∀{l:List D} {d:D},d∈l->bD l=true->bC d=true
 |x::r,d,h,n=>by
  simp only[bD,zAN]at n;rcases zAL.mp h with rfl|h
  .exact n.1
  .exact sH h n.2
def kh(hn:n=ds.length)(hm:m=es.length):((zAu (min n m)).all (λ j=>match ds[j]?,es[j]? with|some a,some b=>eqD a b|_,_=>true)&&n==m)=jU ds es:=by
 subst hn hm;exact(aDP ds es).symm
section
variable{K:zAA}{H:Hp}{s:zAG}
def aJn(K:zAA)(H:Hp)(s:zAG)(n:Nat):Prop:=∀(A1 A2:Addr->Prop) (x y:V) (d e:D) (A:zAk) (u v:Value),Rp K A1 H x d->Rp K A2 H y e->RelV x u->RelV y v->lB d<=n->bC d=true->bC e=true->A.units+n<cLine->zCy A s u v (eqD d e)
def aJo(K:zAA)(H:Hp)(s:zAG)(n:Nat):Prop:=∀(A1 A2:Addr->Prop) (xs ys:List V) (ds es:List D) (A:zAk) (us vs:List Value),Rps K A1 H xs ds->Rps K A2 H ys es->Vals xs us->Vals ys vs->dC ds<=n->bD ds=true->bD es=true->A.units+n<cLine->
  ∀(j:Nat) (h1:j<us.toArray.size) (h2:j<vs.toArray.size),zCy A s us.toArray[j] vs.toArray[j] (match ds[j]?,es[j]? with|some a,some b=>eqD a b|_,_=>true)
def zB(ok:nM K H s)(n:Nat)(IH:∀k,n=k+1->aJo K H s k):aJn K H s n:=by
 intro A1 A2 x y d e A u v r1 r2 ru rv hd nd ne hu;have hu0:A.units<cLine:=by lia
 cases r1 with
 |tup h1 q1=>
  rename_i a xs ds;cases ru;obtain⟨its,w1,t1⟩:=ok.tup h1;cases r2 with
  |tup h2 q2=>
   rename_i b ys es;cases rv;obtain⟨its2,w2,t2⟩:=ok.tup h2;by_cases hab:a=b
   .subst hab
    have e:=Rp.inj ok (Rp.tup h1 q1) (Rp.tup h2 q2) nd ne;rw[<-e,zF _ nd];exact zFL _
   .simp only[lB]at hd
    obtain⟨k,rfl⟩:∃k,n=k+1:=⟨n-1,by lia⟩
    have z:=zGZ t1 t2 hu0 (IH k rfl _ _ _ _ _ _ _ _ _ q1 q2 w1 w2 (by lia) (jk nd) (jk ne) (by show A.units+1+k<cLine;lia));rw[kh (by rw[zAP,<-w1.length,q1.length]) (by rw[zAP,<-w2.length,q2.length])]at z;simp only[eqD];exact zE6 hab z
  |lst h2 mm2 q2=>
   cases rv;obtain⟨its2,w2,t2⟩:=ok.lst h2;simp only[eqD];exact SeqAt.EqAt.tuple_list t1 t2 hu0
  |non=>cases rv;exact SeqAt.EqAt.tuple_none t1 hu0
  |bl b=>cases rv;exact SeqAt.EqAt.tuple_bool b t1 hu0
  |int i=>obtain⟨tk,rfl⟩:=rv;exact SeqAt.EqAt.tuple_int i tk t1 hu0
  |str i=>obtain⟨tk,rfl⟩:=rv;exact SeqAt.EqAt.tuple_str i tk t1 hu0
  |_=>exact zAR (ndx ne)
 |lst h1 mm1 q1=>
  rename_i a xs ds;cases ru;obtain⟨its,w1,t1⟩:=ok.lst h1;cases r2 with
  |lst h2 mm2 q2=>
   rename_i b ys es;cases rv;obtain⟨its2,w2,t2⟩:=ok.lst h2;by_cases hab:a=b
   .subst hab
    have e:=Rp.inj ok (Rp.lst h1 mm1 q1) (Rp.lst h2 mm2 q2) nd ne;rw[<-e,zF _ nd];exact zFL _
   .simp only[lB]at hd
    obtain⟨k,rfl⟩:∃k,n=k+1:=⟨n-1,by lia⟩
    have l1:its.toArray.size=ds.length:=by rw[zAP,<-w1.length,q1.length]
    have l2:its2.toArray.size=es.length:=by rw[zAP,<-w2.length,q2.length]
    by_cases hl:its.toArray.size=its2.toArray.size
    .have z:=zG6 t1 t2 hl hu0 (IH k rfl _ _ _ _ _ _ _ _ _ q1 q2 w1 w2 (by lia) (jm nd) (jm ne) (by show A.units+1+k<cLine;lia))
     have z':=kh (ds:=ds) (es:=es) l1 l2;rw[<-hl,zF7,beq_self_eq_true,zDb]at z';rw[z']at z;simp only[eqD];exact zE6 hab z
    .have z:=zF1 t1 t2 (by simpa using hl) hu0
     have z':=kh (ds:=ds) (es:=es) l1 l2;rw[beq_eq_false_iff_ne.mpr hl,zDu]at z';simp only[eqD];rw[<-z'];exact zE6 hab z
  |tup h2 q2=>
   cases rv;obtain⟨its2,w2,t2⟩:=ok.tup h2;simp only[eqD];exact SeqAt.EqAt.list_tuple t1 t2 hu0
  |non=>cases rv;exact SeqAt.EqAt.list_none t1 hu0
  |bl b=>cases rv;exact SeqAt.EqAt.list_bool b t1 hu0
  |int i=>obtain⟨tk,rfl⟩:=rv;exact SeqAt.EqAt.list_int i tk t1 hu0
  |str i=>obtain⟨tk,rfl⟩:=rv;exact SeqAt.EqAt.list_str i tk t1 hu0
  |_=>exact zAR (ndx ne)
 |non=>
  cases ru;cases r2 with
  |tup h2 q2=>cases rv;obtain⟨_,_,t2⟩:=ok.tup h2;exact SeqAt.EqAt.none_tuple t2 hu0
  |lst h2 mm2 q2=>cases rv;obtain⟨_,_,t2⟩:=ok.lst h2;exact SeqAt.EqAt.none_list t2 hu0
  |dK _ _ _=>exact(bY ne).elim
  |dT _ _ _=>exact(bY ne).elim
  |set _ _ _ _=>exact(fM ne).elim
  |scr _=>exact(fO ne).elim
  |fn _=>exact(iI ne).elim
  |non=>cases rv;exact zFL _
  |bl b=>cases rv;exact SeqAt.EqAt.none_bool b
  |int i=>obtain⟨tk,rfl⟩:=rv;exact SeqAt.EqAt.none_int i tk
  |str i=>obtain⟨tk,rfl⟩:=rv;exact SeqAt.EqAt.none_str i tk
 |bl a=>
  cases ru;cases r2 with
  |tup h2 q2=>cases rv;obtain⟨_,_,t2⟩:=ok.tup h2;exact SeqAt.EqAt.bool_tuple a t2 hu0
  |lst h2 mm2 q2=>cases rv;obtain⟨_,_,t2⟩:=ok.lst h2;exact SeqAt.EqAt.bool_list a t2 hu0
  |dK _ _ _=>exact(bY ne).elim
  |dT _ _ _=>exact(bY ne).elim
  |set _ _ _ _=>exact(fM ne).elim
  |scr _=>exact(fO ne).elim
  |fn _=>exact(iI ne).elim
  |non=>cases rv;exact SeqAt.EqAt.bool_none a
  |bl b=>cases rv;exact SeqAt.EqAt.bool_bool a b
  |int i=>obtain⟨tk,rfl⟩:=rv;exact SeqAt.EqAt.bool_int a i tk
  |str i=>obtain⟨tk,rfl⟩:=rv;exact SeqAt.EqAt.bool_str a i tk
 |int a=>
  obtain⟨tu,rfl⟩:=ru;cases r2 with
  |tup h2 q2=>cases rv;obtain⟨_,_,t2⟩:=ok.tup h2;exact SeqAt.EqAt.int_tuple a tu t2 hu0
  |lst h2 mm2 q2=>cases rv;obtain⟨_,_,t2⟩:=ok.lst h2;exact SeqAt.EqAt.int_list a tu t2 hu0
  |dK _ _ _=>exact(bY ne).elim
  |dT _ _ _=>exact(bY ne).elim
  |set _ _ _ _=>exact(fM ne).elim
  |scr _=>exact(fO ne).elim
  |fn _=>exact(iI ne).elim
  |non=>cases rv;exact SeqAt.EqAt.int_none a tu
  |bl b=>cases rv;exact SeqAt.EqAt.int_bool a tu b
  |int i=>obtain⟨tk,rfl⟩:=rv;exact zE5 a tu i tk
  |str i=>obtain⟨tk,rfl⟩:=rv;exact zGR a tu i tk
 |str a=>
  obtain⟨tu,rfl⟩:=ru;cases r2 with
  |tup h2 q2=>cases rv;obtain⟨_,_,t2⟩:=ok.tup h2;exact SeqAt.EqAt.str_tuple a tu t2 hu0
  |lst h2 mm2 q2=>cases rv;obtain⟨_,_,t2⟩:=ok.lst h2;exact SeqAt.EqAt.str_list a tu t2 hu0
  |dK _ _ _=>exact(bY ne).elim
  |dT _ _ _=>exact(bY ne).elim
  |set _ _ _ _=>exact(fM ne).elim
  |scr _=>exact(fO ne).elim
  |fn _=>exact(iI ne).elim
  |non=>cases rv;exact SeqAt.EqAt.str_none a tu
  |bl b=>cases rv;exact SeqAt.EqAt.str_bool a tu b
  |int i=>obtain⟨tk,rfl⟩:=rv;exact zGS a tu i tk
  |str i=>obtain⟨tk,rfl⟩:=rv;exact SeqAt.EqAt.str_str a tu i tk
 |_=>exact zAR (ndx nd)
def aA0(ok:nM K H s)(n:Nat)(IH:aJn K H s n):aJo K H s n:=by
 intro A1 A2 xs ys ds es A us vs q1 q2 w1 w2 hd nd ne hu j h1 h2;have hj1:j<us.length:=by simpa using h1
 have hj2:j<vs.length:=by simpa using h2
 have hx:j<xs.length:=by rw[w1.length];exact hj1
 have hy:j<ys.length:=by rw[w2.length];exact hj2
 have ex:=zAD hx;have ey:=zAD hy;obtain⟨d,ed,rd⟩:=q1.get ex;obtain⟨e,ee,re⟩:=q2.get ey;obtain⟨u,eu,ru⟩:=w1.get ex;obtain⟨v,ev,rv⟩:=w2.get ey;have e1:us.toArray[j]=u:=by
  rw[zGt];exact zAl ((zAD hj1).symm.trans eu)
 have e2:vs.toArray[j]=v:=by
  rw[zGt];exact zAl ((zAD hj2).symm.trans ev)
 rw[e1,e2,ed,ee];exact IH _ _ _ _ _ _ _ _ _ rd re ru rv (zAn (aA6 (zBH ed)) hd) (sH (zBH ed) nd) (sH (zBH ee) ne) hu
theorem aJT(ok:nM K H s):∀n,aJn K H s n
 |0=>zB ok 0 λ k h=>absurd h (by simp)
 |n+1=>zB ok (n+1) λ k h=>by
  have h':=zHy h;subst h';exact aA0 ok n (aJT ok n)
def aOB(ok:nM K H s):∀{A1 A2:Addr->Prop} {x y:V} {d e:D} (n:Nat) {A:zAk} {u v:Value},Rp K A1 H x d->Rp K A2 H y e->RelV x u->RelV y v->lB d<=n->bC d=true->bC e=true->A.units+n<cLine->zCy A s u v (eqD d e)
 |_,_,_,_,_,_,n,A,u,v,r1,r2,ru,rv,hd,nd,ne,hu=>aJT ok n _ _ _ _ _ _ _ _ _ r1 r2 ru rv hd nd ne hu
def aMX(ok:nM K H s):∀{A1 A2:Addr->Prop} {xs ys:List V} {ds es:List D} (n:Nat) {A:zAk} {us vs:List Value},Rps K A1 H xs ds->Rps K A2 H ys es->Vals xs us->Vals ys vs->dC ds<=n->bD ds=true->bD es=true->A.units+n<cLine->
  ∀(j:Nat) (h1:j<us.toArray.size) (h2:j<vs.toArray.size),zCy A s us.toArray[j] vs.toArray[j] (match ds[j]?,es[j]? with|some a,some b=>eqD a b|_,_=>true)
 |_,_,xs,ys,ds,es,n,A,us,vs,q1,q2,w1,w2,hd,nd,ne,hu,j,h1,h2=>aA0 ok n (aJT ok n) _ _ _ _ _ _ _ _ _ q1 q2 w1 w2 hd nd ne hu j h1 h2
def aHx(ok:nM K H s)(n:Nat)(r1:Rp K A1 H x d)(r2:Rp K A2 H y e)(ru:RelV x u)(rv:RelV y v)(hd:lB d<=n)(nd:bC d=true)(ne:bC e=true)(hu:A.units+n<cLine):
  SeqAt.RcAt A s u v (eqD d e)/\SeqAt.RcNeAt A s u v (!eqD d e):=by
 have hu0:A.units<cLine:=by lia
 cases r1 with
 |tup h1 q1=>
  rename_i a xs ds;cases ru;obtain⟨its,w1,t1⟩:=ok.tup h1;cases r2 with
  |tup h2 q2=>
   rename_i b ys es;cases rv;obtain⟨its2,w2,t2⟩:=ok.tup h2;simp only[lB]at hd;obtain⟨k,rfl⟩:∃k,n=k+1:=⟨n-1,by lia⟩
   have he:=aMX ok (A:=A.in1) k q1 q2 w1 w2 (by lia) (jk nd) (jk ne) (by show A.units+1+k<cLine;lia);have z:=zGZ t1 t2 hu0 he;have z2:=SeqAt.RcNeAt.tuples t1 t2 hu0 he;rw[kh (by rw[zAP,<-w1.length,q1.length]) (by rw[zAP,<-w2.length,q2.length])]at z z2;simp only[eqD];exact⟨z,z2⟩
  |lst h2 mm2 q2=>
   cases rv;obtain⟨its2,w2,t2⟩:=ok.lst h2;simp only[eqD];exact⟨SeqAt.RcAt.tuple_list t1 t2 hu0,SeqAt.RcNeAt.tuple_list t1 t2 hu0⟩
  |non=>cases rv;exact⟨SeqAt.RcAt.tuple_none t1 hu0,SeqAt.RcNeAt.tuple_none t1 hu0⟩
  |bl b=>cases rv;exact⟨SeqAt.RcAt.tuple_bool b t1 hu0,SeqAt.RcNeAt.tuple_bool b t1 hu0⟩
  |int i=>obtain⟨tk,rfl⟩:=rv;exact⟨SeqAt.RcAt.tuple_int i tk t1 hu0,SeqAt.RcNeAt.tuple_int i tk t1 hu0⟩
  |str i=>obtain⟨tk,rfl⟩:=rv;exact⟨SeqAt.RcAt.tuple_str i tk t1 hu0,SeqAt.RcNeAt.tuple_str i tk t1 hu0⟩
  |_=>exact zAR (ndx ne)
 |lst h1 mm1 q1=>
  rename_i a xs ds;cases ru;obtain⟨its,w1,t1⟩:=ok.lst h1;cases r2 with
  |lst h2 mm2 q2=>
   rename_i b ys es;cases rv;obtain⟨its2,w2,t2⟩:=ok.lst h2;simp only[lB]at hd;obtain⟨k,rfl⟩:∃k,n=k+1:=⟨n-1,by lia⟩
   have l1:its.toArray.size=ds.length:=by rw[zAP,<-w1.length,q1.length]
   have l2:its2.toArray.size=es.length:=by rw[zAP,<-w2.length,q2.length]
   have z':=kh (ds:=ds) (es:=es) l1 l2;by_cases hl:its.toArray.size=its2.toArray.size
   .have he:=aMX ok (A:=A.in1) k q1 q2 w1 w2 (by lia) (jm nd) (jm ne) (by show A.units+1+k<cLine;lia)
    have z:=zG6 t1 t2 hl hu0 he;have z2:=SeqAt.RcNeAt.lists t1 t2 hl hu0 he;rw[<-hl,zF7,beq_self_eq_true,zDb]at z';rw[z']at z z2;simp only[eqD];exact⟨z,z2⟩
   .rw[beq_eq_false_iff_ne.mpr hl,zDu]at z'
    simp only[eqD];rw[<-z'];exact⟨zF1 t1 t2 (by simpa using hl) hu0,SeqAt.RcNeAt.lists_lengths t1 t2 (by simpa using hl) hu0⟩
  |tup h2 q2=>
   cases rv;obtain⟨its2,w2,t2⟩:=ok.tup h2;simp only[eqD];exact⟨SeqAt.RcAt.list_tuple t1 t2 hu0,SeqAt.RcNeAt.list_tuple t1 t2 hu0⟩
  |non=>cases rv;exact⟨SeqAt.RcAt.list_none t1 hu0,SeqAt.RcNeAt.list_none t1 hu0⟩
  |bl b=>cases rv;exact⟨SeqAt.RcAt.list_bool b t1 hu0,SeqAt.RcNeAt.list_bool b t1 hu0⟩
  |int i=>obtain⟨tk,rfl⟩:=rv;exact⟨SeqAt.RcAt.list_int i tk t1 hu0,SeqAt.RcNeAt.list_int i tk t1 hu0⟩
  |str i=>obtain⟨tk,rfl⟩:=rv;exact⟨SeqAt.RcAt.list_str i tk t1 hu0,SeqAt.RcNeAt.list_str i tk t1 hu0⟩
  |_=>exact zAR (ndx ne)
 |non=>
  cases ru;cases r2 with
  |tup h2 q2=>cases rv;obtain⟨_,_,t2⟩:=ok.tup h2;exact⟨SeqAt.RcAt.none_tuple t2 hu0,SeqAt.RcNeAt.none_tuple t2 hu0⟩
  |lst h2 mm2 q2=>cases rv;obtain⟨_,_,t2⟩:=ok.lst h2;exact⟨SeqAt.RcAt.none_list t2 hu0,SeqAt.RcNeAt.none_list t2 hu0⟩
  |dK _ _ _=>exact(bY ne).elim
  |dT _ _ _=>exact(bY ne).elim
  |set _ _ _ _=>exact(fM ne).elim
  |scr _=>exact(fO ne).elim
  |fn _=>exact(iI ne).elim
  |non=>cases rv;exact⟨SeqAt.RcAt.none_none,SeqAt.RcNeAt.none_none⟩
  |bl b=>cases rv;exact⟨SeqAt.RcAt.none_bool b,SeqAt.RcNeAt.none_bool b⟩
  |int i=>obtain⟨tk,rfl⟩:=rv;exact⟨SeqAt.RcAt.none_int i tk,SeqAt.RcNeAt.none_int i tk⟩
  |str i=>obtain⟨tk,rfl⟩:=rv;exact⟨SeqAt.RcAt.none_str i tk,SeqAt.RcNeAt.none_str i tk⟩
 |bl a=>
  cases ru;cases r2 with
  |tup h2 q2=>cases rv;obtain⟨_,_,t2⟩:=ok.tup h2;exact⟨SeqAt.RcAt.bool_tuple a t2 hu0,SeqAt.RcNeAt.bool_tuple a t2 hu0⟩
  |lst h2 mm2 q2=>cases rv;obtain⟨_,_,t2⟩:=ok.lst h2;exact⟨SeqAt.RcAt.bool_list a t2 hu0,SeqAt.RcNeAt.bool_list a t2 hu0⟩
  |dK _ _ _=>exact(bY ne).elim
  |dT _ _ _=>exact(bY ne).elim
  |set _ _ _ _=>exact(fM ne).elim
  |scr _=>exact(fO ne).elim
  |fn _=>exact(iI ne).elim
  |non=>cases rv;exact⟨SeqAt.RcAt.bool_none a,SeqAt.RcNeAt.bool_none a⟩
  |bl b=>cases rv;exact⟨SeqAt.RcAt.bool_bool a b,SeqAt.RcNeAt.bool_bool a b⟩
  |int i=>obtain⟨tk,rfl⟩:=rv;exact⟨SeqAt.RcAt.bool_int a i tk,SeqAt.RcNeAt.bool_int a i tk⟩
  |str i=>obtain⟨tk,rfl⟩:=rv;exact⟨SeqAt.RcAt.bool_str a i tk,SeqAt.RcNeAt.bool_str a i tk⟩
 |int a=>
  obtain⟨tu,rfl⟩:=ru;cases r2 with
  |tup h2 q2=>cases rv;obtain⟨_,_,t2⟩:=ok.tup h2;exact⟨SeqAt.RcAt.int_tuple a tu t2 hu0,SeqAt.RcNeAt.int_tuple a tu t2 hu0⟩
  |lst h2 mm2 q2=>cases rv;obtain⟨_,_,t2⟩:=ok.lst h2;exact⟨SeqAt.RcAt.int_list a tu t2 hu0,SeqAt.RcNeAt.int_list a tu t2 hu0⟩
  |dK _ _ _=>exact(bY ne).elim
  |dT _ _ _=>exact(bY ne).elim
  |set _ _ _ _=>exact(fM ne).elim
  |scr _=>exact(fO ne).elim
  |fn _=>exact(iI ne).elim
  |non=>cases rv;exact⟨SeqAt.RcAt.int_none a tu,SeqAt.RcNeAt.int_none a tu⟩
  |bl b=>cases rv;exact⟨SeqAt.RcAt.int_bool a tu b,SeqAt.RcNeAt.int_bool a tu b⟩
  |int i=>obtain⟨tk,rfl⟩:=rv;exact⟨SeqAt.RcAt.int_int a tu i tk,SeqAt.RcNeAt.int_int a tu i tk⟩
  |str i=>obtain⟨tk,rfl⟩:=rv;exact⟨SeqAt.RcAt.int_str a tu i tk,SeqAt.RcNeAt.int_str a tu i tk⟩
 |str a=>
  obtain⟨tu,rfl⟩:=ru;cases r2 with
  |tup h2 q2=>cases rv;obtain⟨_,_,t2⟩:=ok.tup h2;exact⟨SeqAt.RcAt.str_tuple a tu t2 hu0,SeqAt.RcNeAt.str_tuple a tu t2 hu0⟩
  |lst h2 mm2 q2=>cases rv;obtain⟨_,_,t2⟩:=ok.lst h2;exact⟨SeqAt.RcAt.str_list a tu t2 hu0,SeqAt.RcNeAt.str_list a tu t2 hu0⟩
  |dK _ _ _=>exact(bY ne).elim
  |dT _ _ _=>exact(bY ne).elim
  |set _ _ _ _=>exact(fM ne).elim
  |scr _=>exact(fO ne).elim
  |fn _=>exact(iI ne).elim
  |non=>cases rv;exact⟨SeqAt.RcAt.str_none a tu,SeqAt.RcNeAt.str_none a tu⟩
  |bl b=>cases rv;exact⟨SeqAt.RcAt.str_bool a tu b,SeqAt.RcNeAt.str_bool a tu b⟩
  |int i=>obtain⟨tk,rfl⟩:=rv;exact⟨SeqAt.RcAt.str_int a tu i tk,SeqAt.RcNeAt.str_int a tu i tk⟩
  |str i=>obtain⟨tk,rfl⟩:=rv;exact⟨SeqAt.RcAt.str_str a tu i tk,SeqAt.RcNeAt.str_str a tu i tk⟩
 |_=>exact zAR (ndx nd)
end
section
variable{K:zAA}{H:Hp}{s:zAG}
open Classical in
def qi(K:zAA)(H:Hp)(d:D)(u:Value):Bool:=if h:∃e,bC e=true/\∃y,RelV y u/\Rp K (λ _=>True) H y e then eqD (choose h) d else false
def aGG(ok:nM K H s)(r:RelV y u)(h:Rp K A H y e)(ne:bC e=true):qi K H d u=eqD e d:=by
 have hx:∃e,bC e=true/\∃y,RelV y u/\Rp K (λ _=>True) H y e:=⟨e,ne,y,r,h.wk λ _ _ _ _=>trivial⟩
 unfold qi;rw[dif_pos hx];obtain⟨n',y',r',h'⟩:=Classical.choose_spec hx;have e1:=RelV.inj r r';subst e1;rw[Rp.inj ok h' h n' ne]
def inD(d:D)(es:List D):Bool:=es.any λ e=>eqD e d
def ue(ok:nM K H s):∀{A:Addr->Prop} {xs:List V} {es:List D} {us:List Value},Rps K A H xs es->Vals xs us->bD es=true->us.any (qi K H d)=inD d es:=by
 intro A xs es us h v n;induction v generalizing es with
 |nil=>cases h;rfl
 |cons k t ih=>
  cases h with
  |cons h r=>
   simp only[bD,zAN]at n;unfold inD;rw[zFG,zFG,aGG ok k h n.1,ih r n.2];rfl
def xJ(ok:nM K H s)(rx:Rp K A0 H x d)(rv:RelV x v)(hu:A.units+n<cLine)(nd:bC d=true):∀{A1:Addr->Prop} {xs:List V} {es:List D} {us:List Value},Rps K A1 H xs es->Vals xs us->dC es<=n->bD es=true->∀u∈us,zCy A s u v (qi K H d u):=by
 intro A1 xs es us h v' hd ne u hm;induction v' generalizing es with
 |nil=>cases hm
 |cons k t ih=>
  cases h with
  |cons h r=>
   simp only[dC]at hd;simp only[bD,zAN]at ne;rcases zAL.mp hm with z|z
   .subst z
    rw[aGG ok k h ne.1];exact aOB ok n h rx k rv (zAn (zIY _ _) hd) ne.1 nd hu
   .exact ih r (zAn (zIP _ _) hd) ne.2 z
end
section
variable{X:Cx}
def aIA(K:zAA)(neg:Bool):R2:=λ x y H Q=>∃A B d e,Rp K A H x d/\Rp K B H y e/\lB d<=60/\bC d=true/\bC e=true/\Q (.bl (if neg then !eqD d e else eqD d e)) H
def aN2(hu:X.A.units+64<cLine):OpR X (zAs .Eq) (aIA X.K false):=by
 intro iX s σ H x y v u Q I rx ry h;obtain⟨A,B,d,e,r1,r2,hd,nd,ne,q⟩:=h;exact(aHx (Inv.seqOk I) 60 r1 r2 rx ry hd nd ne (by lia)).1 X.prog X.w X.xe _ ⟨.bl (eqD d e),H,I,rfl,q⟩
def aNT(hu:X.A.units+64<cLine):OpR X (zAs .NotEq) (aIA X.K true):=by
 intro iX s σ H x y v u Q I rx ry h;obtain⟨A,B,d,e,r1,r2,hd,nd,ne,q⟩:=h;exact(aHx (Inv.seqOk I) 60 r1 r2 rx ry hd nd ne (by lia)).2 X.prog X.w X.xe _ ⟨.bl (!eqD d e),H,I,rfl,q⟩
def aGZ(K:zAA)(neg:Bool):R2:=λ x y H Q=>∃A B d a es,Rp K A H x d/\y= .ref a/\(Rp K B H (.ref a) (.lst es)\/Rp K B H (.ref a) (.tup es))/\dC es<=60/\bC d=true/\bD es=true/\Q (.bl (if neg then !inD d es else inD d es)) H
def aN0(hu:X.A.units+64<cLine):OpR X (zAs .In) (aGZ X.K false):=by
 intro iX s σ H x y v u Q I rx ry h;obtain⟨A,B,d,a,es,rd,rfl,ra,hd,nd,ne,q⟩:=h;cases ry;have ok:=Inv.seqOk I;have hu1:X.A.in1.units+60<cLine:=by show X.A.units+1+60<cLine;lia
 rcases ra with ra|ra
 .cases ra with
  |lst ha _ r=>
   obtain⟨its,rv,tl⟩:=ok.lst ha;refine SeqAt.in_listAt (qi X.K H d) tl (λ w hw=>xJ ok rd rx hu1 nd r rv hd ne w (by simpa using hw)) ⟨.bl _,H,I,rfl,?_⟩;rw[show its.toArray.any (qi X.K H d)=its.any (qi X.K H d)by simp,ue ok r rv ne];exact q
 .cases ra with
  |tup ha r=>
   obtain⟨its,rv,tl⟩:=ok.tup ha;refine SeqAt.in_tupleAt (qi X.K H d) tl (λ w hw=>xJ ok rd rx hu1 nd r rv hd ne w (by simpa using hw)) ⟨.bl _,H,I,rfl,?_⟩;rw[show its.toArray.any (qi X.K H d)=its.any (qi X.K H d)by simp,ue ok r rv ne];exact q
def aGc(hu:X.A.units+64<cLine):OpR X (zAs .NotIn) (aGZ X.K true):=by
 intro iX s σ H x y v u Q I rx ry h;obtain⟨A,B,d,a,es,rd,rfl,ra,hd,nd,ne,q⟩:=h;cases ry;have ok:=Inv.seqOk I;have hu1:X.A.in1.units+60<cLine:=by show X.A.units+1+60<cLine;lia
 rcases ra with ra|ra
 .cases ra with
  |lst ha _ r=>
   obtain⟨its,rv,tl⟩:=ok.lst ha;refine SeqAt.notIn_listAt (qi X.K H d) tl (λ w hw=>xJ ok rd rx hu1 nd r rv hd ne w (by simpa using hw)) ⟨.bl _,H,I,rfl,?_⟩;rw[show its.toArray.any (qi X.K H d)=its.any (qi X.K H d)by simp,ue ok r rv ne];exact q
 .cases ra with
  |tup ha r=>
   obtain⟨its,rv,tl⟩:=ok.tup ha;refine SeqAt.notIn_tupleAt (qi X.K H d) tl (λ w hw=>xJ ok rd rx hu1 nd r rv hd ne w (by simpa using hw)) ⟨.bl _,H,I,rfl,?_⟩;rw[show its.toArray.any (qi X.K H d)=its.any (qi X.K H d)by simp,ue ok r rv ne];exact q
end
section
variable{K:zAA}
def eqR(neg:Bool):D->D->Rs D:=λ d e=>if decide (lB d<=60)&&bC d&&bC e then .ok (.bl (if neg then !eqD d e else eqD d e))else .st
def inR(neg:Bool):D->D->Rs D:=λ d e=>match e with
 | .lst es=>if decide (dC es<=60)&&bC d&&bD es then .ok (.bl (if neg then !inD d es else inD d es))else .st
 | .tup es=>if decide (dC es<=60)&&bC d&&bD es then .ok (.bl (if neg then !inD d es else inD d es))else .st
 |_=>.st
def os_eq:OpS K (aIA K n) (eqR n):=by
 intro A x y d e H Q z rx ry ez q;unfold eqR at ez;split at ez
 .rename_i h
  simp only[zAN,decide_eq_true_eq]at h;cases ez;exact⟨A,A,d,e,rx,ry,h.1.1,h.1.2,h.2,q _ H (aX.refl H) (.bl _)⟩
 .cases ez
def aI0:OpS K (aGZ K n) (inR n):=by
 intro A x y d e H Q z rx ry ez q;unfold inR at ez;split at ez
 .split at ez
  .rename_i h
   simp only[zAN,decide_eq_true_eq]at h;cases ez;cases ry with
   |lst ha mm r=>exact⟨A,A,d,_,_,rx,rfl,.inl (.lst ha mm r),h.1.1,h.1.2,h.2,q _ H (aX.refl H) (.bl _)⟩
  .cases ez
 .split at ez
  .rename_i h
   simp only[zAN,decide_eq_true_eq]at h;cases ez;cases ry with
   |tup ha r=>exact⟨A,A,d,_,_,rx,rfl,.inr (.tup ha r),h.1.1,h.1.2,h.2,q _ H (aX.refl H) (.bl _)⟩
  .cases ez
 .cases ez
def aJA:∀x y z,eqR n x y= .ok z->imm z=true:=by
 intro x y z e;unfold eqR at e;split at e
 .cases e;rfl
 .cases e
end
section
variable{K:zAA}
def boolsOf:List D->Option (List Bool)
 |[]=>some []
 | .bl i::r=>(boolsOf r).map (i::·)
 |_=>none
theorem uZ:∀{l:List D} {ns:List Bool},boolsOf l=some ns->l=ns.map .bl
 |[],ns,h=>by cases h;rfl
 | .bl i::r,ns,h=>by
  simp only[boolsOf,zC7]at h;obtain⟨ms,h1,rfl⟩:=h;rw[uZ h1];rfl
 | .non::_,_,h=>by cases h
 | .int _::_,_,h=>by cases h
 | .str _::_,_,h=>by cases h
 | .tup _::_,_,h=>by cases h
 | .lst _::_,_,h=>by cases h
 | .dct _ _::_,_,h=>by cases h
 | .set _::_,_,h=>by cases h
 | .scr _::_,_,h=>by cases h
theorem wK:∀ns:List Bool,boolsOf (ns.map .bl)=some ns
 |[]=>rfl
 |n::ns=>by simp only[zAM,boolsOf,wK ns,zDE]
theorem vY{X:Cx}:∀{bs:List Bool} {us:List Value},Vals (bs.map V.bl) us->LSm.BoolsAre us bs
 |[],_,.nil=>.nil
 |b::bs,_,.cons r t=>by
  have e:_=zE7 b:=r;subst e;exact .cons b (vY (X:=X) t)
theorem Rps.bools_of:∀{xs:List V} {bs:List Bool},Rps K A H xs (bs.map D.bl)->xs=bs.map V.bl
 |_,[],.nil=>rfl
 |_,n::ns,.cons h r=>by
  cases h;rw[zAM,Rps.bools_of r]
def qj(f:List Bool->Bool):List D->Rs D
 |[.lst l]=>match boolsOf l with
  |some bs=>.ok (.bl (f bs))
  |none=>.st
 |_=>.st
def aJc{X:Cx}(hc:X.calm=true):cX X (.builtin "all") (λ xs H Q=>∃(p:Addr) (bs:List Bool),xs=[.ref p]/\H p=some (.lst (bs.map V.bl))/\Q (.bl (bs.all id)) H):=by
 intro iX s σ H xs us Q I r h;obtain⟨p,bs,rfl,hp,q⟩:=h;obtain⟨u,rfl,ru⟩:=vals1 r;cases ru;obtain⟨its,rv,pl,hz⟩:=I.list (SqL.of hp);have hb:=vY (X:=X) rv;have hl:=pl.isList;have hlt:p<s.heap.objs.size:=by obtain⟨_,e,_⟩:=hl;exact zAV e
 refine call_all_walk (zDa hl ?_);refine⟨s.heap.objs.size,[s.heap.objs.size,p],[s.heap.objs.size],its.toArray.size,_,_,λ i=>(bs[i]?).getD true,rfl,zGM (A:=X.A.in1) (I.ok.hd hc) _ p (zA8 hlt) its.toArray,
  ⟨⟨_,zAO _ rfl,rfl,rfl⟩,hl.push _⟩,λ i v s' Q' E' hP hQ=>?_,λ h' tk hk=>?_⟩
 .obtain⟨b,e,rfl⟩:=hb.get i v (by simpa using hP)
  simp only[e,zHS]at hQ;exact zBu hQ
 .have e:((zAu its.toArray.size).all λ i=>(bs[i]?).getD true)=bs.all id:=by
   rw[zAP,hb.length];exact LSm.range_all bs
  rw[e];exact⟨.bl _,H,I.kept (zIl hk),rfl,q⟩
def aJb{X:Cx}(hc:X.calm=true):cX X (.builtin "any") (λ xs H Q=>∃(p:Addr) (bs:List Bool),xs=[.ref p]/\H p=some (.lst (bs.map V.bl))/\Q (.bl (bs.any id)) H):=by
 intro iX s σ H xs us Q I r h;obtain⟨p,bs,rfl,hp,q⟩:=h;obtain⟨u,rfl,ru⟩:=vals1 r;cases ru;obtain⟨its,rv,pl,hz⟩:=I.list (SqL.of hp);have hb:=vY (X:=X) rv;have hl:=pl.isList;have hlt:p<s.heap.objs.size:=by obtain⟨_,e,_⟩:=hl;exact zAV e
 refine call_any_walk (zDa hl ?_);refine⟨s.heap.objs.size,[s.heap.objs.size,p],[s.heap.objs.size],its.toArray.size,_,_,λ i=>(bs[i]?).getD false,rfl,zGM (A:=X.A.in1) (I.ok.hd hc) _ p (zA8 hlt) its.toArray,
  ⟨⟨_,zAO _ rfl,rfl,rfl⟩,hl.push _⟩,λ i v s' Q' E' hP hQ=>?_,λ h' tk hk=>?_⟩
 .obtain⟨b,e,rfl⟩:=hb.get i v (by simpa using hP)
  simp only[e,zHS]at hQ;exact zBu hQ
 .have e:((zAu its.toArray.size).any λ i=>(bs[i]?).getD false)=bs.any id:=by
   rw[zAP,hb.length];exact LSm.range_any bs
  rw[e];exact⟨.bl _,H,I.kept (zIl hk),rfl,q⟩
def aJ6:um K (λ xs H Q=>∃(p:Addr) (bs:List Bool),xs=[.ref p]/\H p=some (.lst (bs.map V.bl))/\Q (.bl (f bs)) H) (qj f):=by
 intro A xs ds H Q z r ez q;unfold qj at ez;split at ez
 .split at ez
  .rename_i l bs e
   cases ez
   have:=uZ e
   subst this;cases r with
   |cons h r=>
    cases r;cases h with
    |lst h m r=>
     have:=r.bools_of
     subst this;exact⟨_,bs,rfl,h,q _ H (aX.refl H) (.bl _)⟩
  .cases ez
 .cases ez
def aFy:∀x z,qj f x= .ok z->imm z=true:=by
 intro x z e;unfold qj at e;split at e
 .split at e
  .cases e;rfl
  .cases e
 .cases e
def mmD(f:Int->Int->Int):List D->Rs D
 |[.int i,.int j]=>.ok (.int (f i j))
 |_=>.st
def aM0:um K (λ xs H Q=>∃i j,xs=[.int i,.int j]/\Q (.int (f i j)) H) (mmD f):=by
 intro A xs ds H Q z r ez q;unfold mmD at ez;split at ez
 .cases ez
  cases r with
  |cons h r=>
   cases h;cases r with
   |cons h r=>
    cases h;cases r;exact⟨_,_,rfl,q _ H (aX.refl H) (.int _)⟩
 .cases ez
def aIy:∀x z,mmD f x= .ok z->imm z=true:=by
 intro x z e;unfold mmD at e;split at e
 .cases e;rfl
 .cases e
def gw:List D->Rs D
 |[.lst l]=>.ok (.tup l)
 |[.tup l]=>.ok (.tup l)
 |_=>.st
def aCk:List D->Rs D
 |[.lst l]=>.ok (.lst l)
 |[.tup l]=>.ok (.lst l)
 |_=>.st
def aJ4:um K (λ xs H Q=>∃p ys,xs=[.ref p]/\((SqL K H p ys/\∀l,H l=none->Q (.ref l) (upd H l (.tup ys)))\/(SqT K H p ys/\Q (.ref p) H))) gw:=by
 intro A xs ds H Q z r ez q;unfold gw at ez;split at ez
 .cases ez
  cases r with
  |cons h r=>
   cases r;cases h with
   |lst h m r=>exact⟨_,_,rfl,.inl ⟨SqL.of h,λ l hl=>q _ _ (au hl _) (.tup (SqT.of aq) ((r.wk λ _ _ _ z=>.inr z.1).up (au hl _)))⟩⟩
 .cases ez
  cases r with
  |cons h r=>
   cases r;cases h with
   |tup h r=>exact⟨_,_,rfl,.inr ⟨h,q _ H (aX.refl H) (.tup h (r.wk λ _ _ _ z=>.inr z))⟩⟩
 .cases ez
def aLc:um K (λ xs H Q=>∃p ys,xs=[.ref p]/\(SqL K H p ys\/SqT K H p ys)/\∀l,H l=none->Q (.ref l) (upd H l (.lst ys))) aCk:=by
 intro A xs ds H Q z r ez q;unfold aCk at ez;split at ez
 .cases ez
  cases r with
  |cons h r=>
   cases r;cases h with
   |lst h m r=>exact⟨_,_,rfl,.inl (SqL.of h),λ l hl=>q _ _ (au hl _) (.lst aq (.inl hl) ((r.wk λ p o e z=>⟨.inr z.1,λ e'=>by subst e';rw[hl]at e;cases e⟩).up (au hl _)))⟩
 .cases ez
  cases r with
  |cons h r=>
   cases r;cases h with
   |tup h r=>exact⟨_,_,rfl,.inr h,λ l hl=>q _ _ (au hl _) (.lst aq (.inl hl) ((r.wk λ p o e z=>⟨.inr z,λ e'=>by subst e';rw[hl]at e;cases e⟩).up (au hl _)))⟩
 .cases ez
end
def cutD(l:List D)(lo hi:Option Int):List D:=(l.drop (HT.sIx l.length 0 lo)).take (HT.sIx l.length l.length hi-HT.sIx l.length 0 lo)
def Rps.cut{K:zAA}(r:Rps K A H xs ds)(lo hi:Option Int):Rps K A H (zQ xs lo hi) (cutD ds lo hi):=by
 unfold zQ cutD;rw[r.length];exact(r.drop _).take _
def slD(d:D)(lo hi:Option Int):Rs D:=match d with
 | .tup l=>.ok (.tup (cutD l lo hi))
 | .lst l=>.ok (.lst (cutD l lo hi))
 |_=>.st
def aO1(K:zAA):V->Option Int->Option Int->Hp->VK->Prop:=λ x lo hi H Q=>(∃a xs,x= .ref a/\SqT K H a xs/\∀c H',aX H H'->SqT K H' c (zQ xs lo hi)->Q (.ref c) H')\/aO2 K x lo hi H Q
def aKF:SlR X (λ x lo hi H Q=>∃a xs,x= .ref a/\SqT X.K H a xs/\∀c H',aX H H'->SqT X.K H' c (zQ xs lo hi)->Q (.ref c) H'):=by
 intro iX s σ H x v vl vu lo hi sl Q I rx hs pl pu h;obtain⟨a,xs,rfl,hx,q⟩:=h;cases rx;obtain⟨its,r,ht,hz⟩:=I.tuple hx;have kQ:its.toArray.size=xs.length:=by rw[zAP];exact r.length.symm
 refine⟨"tuple",_,zB7.lookup,ht.typeIs,?_⟩;by_cases hw:HT.sIx xs.length 0 lo=0/\HT.sIx xs.length xs.length hi=xs.length
 .refine HT.uJ ht hs pl pu (by rw[kQ];exact hw.1) (by rw[kQ];exact hw.2) ⟨.ref a,H,I,rfl,q a H (aX.refl H) ?_⟩
  have:zQ xs lo hi=xs:=by
   unfold zQ;rw[hw.1,hw.2,zEh,zF8,List.take_length]
  rw[this];exact hx
 .refine HT.uI ht hs pl pu (by rw[kQ];exact hw) ?_ (by rw[kQ];exact hz)
  rw[kQ];refine⟨.ref s.heap.objs.size,_,I.laid (t':=s.toks) (o:=.tup (zQ xs lo hi)) (λ b ob q=>zAC _ q) (zAT _) ?_,rfl,q _ _ (au (I.hok.fresh (zAT _)) _) (SqT.of aq)⟩;exact⟨⟨zAn (wI xs lo hi) hz,NoD.push _⟩,_,(r.drop (HT.sIx xs.length 0 lo)).take (HT.sIx xs.length xs.length hi-HT.sIx xs.length 0 lo),zHq _ _⟩
def aPX:SlR X (aO1 X.K):=aKF.or aKG
section
variable{C:Ct}{pos p2:Pos}{m:Mode}{a e:Expr}{fa fe:En->Rs D}{lo hi:Option Expr}
def aP6(K:zAA)(G:Gx)(t:TO)(f:En->Rs (Option Int)):Prop:=∀U σ H ρ lab (Q:Option Int->Hp->Prop),RR K G U ρ σ H lab->WR G (f ρ) (λ o=>∀H',aX H H'->Q o H')->t σ H Q
def SO(C:Ct)(e:Option Expr)(f:En->Rs (Option Int)):Prop:=∃t,(∀i,PO (C.X i) e t)/\aP6 C.K C.G t f
def aF8:En->Rs (Option Int):=λ _=>.ok none
def aF7(fe:En->Rs D):En->Rs (Option Int):=λ ρ=>(fe ρ).bd λ d=>match d with
 | .int i=>.ok (some i)
 |_=>.st
def aFJ:SO C none aF8:=⟨_,λ _=>aK4,λ U σ H ρ lab Q R W=>W H (aX.refl H)⟩
def aFI(h:SE C m e fe):SO C (some e) (aF7 fe):=by
 obtain⟨t,h1,h2⟩:=h;refine⟨_,λ i=>aK3 (h1 i),λ U σ H ρ lab Q R W=>h2 U σ H ρ lab _ R (W.bd.imp λ d _ w x H1 s r=>?_)⟩;cases r with
 |int i=>exact⟨i,rfl,w H1 s⟩
 |_=>exact zAR w
def aAm(fa:En->Rs D)(fl fh:En->Rs (Option Int)):En->Rs D:=λ ρ=>(fa ρ).bd λ d=>(fl ρ).bd λ l=>(fh ρ).bd λ h=>okD (slD d l h)
def aCD{fl fh:En->Rs (Option Int)}(ha:SE C m a fa)(hl:SO C lo fl)(hh:SO C hi fh):SE C m (.Subscript a (.Slice lo hi none p2) pos) (aAm fa fl fh):=by
 obtain⟨t,h1,h2⟩:=ha;obtain⟨tl,l1,l2⟩:=hl;obtain⟨th,k1,k2⟩:=hh;refine⟨tSl (aO1 C.K) t tl th,λ i=>by rw[<-C.hK i];exact aIR aPX (h1 i) (l1 i) (k1 i),λ U σ H ρ lab Q R W=>h2 U σ H ρ lab _ R (W.bd.imp λ d _ w x H1 s1 r1=>?_)⟩;refine l2 U σ H1 ρ lab _ (R.up s1) (w.bd.imp λ ol _ w H2 s2=>?_);refine k2 U σ H2 ρ lab _ ((R.up s1).up s2) (w.bd.imp λ oh _ w H3 s3=>?_);obtain⟨z,ez,w⟩:=w.okD;have s:=s1.trans (s2.trans s3);have r3:=r1.up (s2.trans s3);cases d with
 |tup l=>
  cases ez;cases r3 with
  |tup h r=>exact .inl ⟨_,_,rfl,h,λ c H' s' hc=>w _ H' (s.trans s') (.tup hc ((r.cut ol oh).up s'))⟩
 |lst l=>
  cases ez;cases r3 with
  |lst h mm r=>
   exact .inr ⟨_,_,rfl,SqL.of h,λ p hp=>w _ _ (s.trans (au hp _)) (.lst aq (.inl (s.free hp)) (((r.cut ol oh).wk λ q o e z=>⟨z.1,λ e'=>by subst e';rw[hp]at e;cases e⟩).up (au hp _)))⟩
 |_=>cases ez
def aLi(fd:D->D->Rs D)(i:Nat)(fe:En->Rs D):En->Ou:=λ ρ=>(op2 fd (eE i) fe ρ).bo λ d=>.nx (ρ.set i (.sh d))
def aH6(he:SE C m e fe)(ho:∀j,PIp (C.X j) op (ipI f))(hN:∀j,(C.X j).N[i]? =some x:=by intro _;rfl)(hx:∀j,Loc (C.X j).env.scope x:=by intro _;first|exact zC8 rfl|exact zBy rfl)(hf:∀j,(C.X j).fn x=true\/(C.X j).env.scope.names.lookup x=some .local:=by intro _;first|exact .inl rfl|exact .inr rfl)(nd:∀j,(C.X j).N.Nodup:=by intro _;assumption):SS C (.AugAssign (.Name x pos') op e pos) (aLi (i2 (λ _ _=>true) λ a b=>.int (f a b)) i fe):=by
 obtain⟨t,h1,h2⟩:=he;refine⟨_,λ j=>aIK (nd j) (hN j) (hx j) (h1 j) (ho j) (hf j),λ U σ H ρ lab De R W=>?_⟩;have w0:=(WS.bo W).bd;refine aFK C.K C.G i U σ H ρ lab (λ v H'=>t σ H' λ y H1=>ipI f v y H1 λ z H2=>De.nx (σ.set i (some z)) H2) R (w0.imp λ d _ w v H' s r=>h2 U σ H' ρ lab _ (R.up s) (w.bd.imp λ e _ w y H1 s1 r1=>?_));obtain⟨z,ez,w⟩:=w.okD;unfold i2 at ez;split at ez
 .cases ez
  cases r;cases r1;exact⟨_,_,rfl,rfl,w _ _ _ (((R.up s).up s1).put (s:=.sh (.int _)) (Rp.int _))⟩
 .cases ez
end
section
variable{C:Ct}{pos p:Pos}{m m1 m2 m3:Mode}{a b c e:Expr}{fa fb fc:En->Rs D}{ga:En->Rs (List D)}
def Ct.u0(C:Ct)(i:C.ι):(C.X i).A.units<cLine:=(C.room i).units0
def Ct.u64(C:Ct)(i:C.ι):(C.X i).A.units+64<cLine:=(C.room i).units
def Ct.ltR(C:Ct)(i:C.ι):OpR (C.X i) (zAs .Lt) (λ x y H Q=>rI0 (λ i j=>.bl (decide (i<j))) x y H Q\/aKW C.K x y H Q):=by have h:=aNW (X:=C.X i) (C.u0 i);rw[C.hK i]at h;exact h
def Ct.leR(C:Ct)(i:C.ι):OpR (C.X i) (zAs .LtE) (λ x y H Q=>rI0 (λ i j=>.bl (decide (i<=j))) x y H Q\/aKX C.K x y H Q):=by have h:=aNY (X:=C.X i) (C.u0 i);rw[C.hK i]at h;exact h
def Ct.eqRl(C:Ct)(i:C.ι):OpR (C.X i) (zAs .Eq) (aIA C.K false):=by have h:=aN2 (X:=C.X i) (C.u64 i);rw[C.hK i]at h;exact h
def Ct.neRl(C:Ct)(i:C.ι):OpR (C.X i) (zAs .NotEq) (aIA C.K true):=by have h:=aNT (X:=C.X i) (C.u64 i);rw[C.hK i]at h;exact h
def Ct.inRl(C:Ct)(i:C.ι):OpR (C.X i) (zAs .In) (aGZ C.K false):=by have h:=aN0 (X:=C.X i) (C.u64 i);rw[C.hK i]at h;exact h
def Ct.ninRl(C:Ct)(i:C.ι):OpR (C.X i) (zAs .NotIn) (aGZ C.K true):=by have h:=aGc (X:=C.X i) (C.u64 i);rw[C.hK i]at h;exact h
def Ct.aD9(C:Ct)(i:C.ι):OpR (C.X i) (zC6 .Add) (aIB C.K):=by have h:=aKr (X:=C.X i);rw[C.hK i]at h;exact h
def aAj:D->D->Rs D:=i2 (λ _ _=>true) λ i j=>.int (i-j)
def lX:D->D->Rs D:=i2 (λ _ j=>decide (0<j)&&decide (j<1073741824)) λ i j=>.int (i / j)
def vL:D->D->Rs D:=i2 (λ _ j=>decide (0<j)) λ i j=>.int (i%j)
def aMw:D->D->Rs D:=i2 (λ i j=>decide (0<=j)&&decide (j<=1000000)&&decide (i.natAbs<2^64)) λ i j=>.int (i^j.toNat)
def iY(ha:SE C m1 a fa)(hb:SE C m2 b fb):SE C (jn m1 m2) (.BinOp a .Add b pos) (op2 fX fa fb):=aAK C.aD9 aNO ha hb
def xg(ha:SE C m1 a fa)(hb:SE C m2 b fb):SE C (jn m1 m2) (.BinOp a .Mult b pos) (op2 pQ fa fb):=aAK (λ _=>aKm) aNL ha hb
def xZ(ha:SE C m1 a fa)(hb:SE C m2 b fb):SE C (some []) (.BinOp a .Sub b pos) (op2 aAj fa fb):=gO (aAK (λ _=>aNQ) aKh ha hb) λ _ _ h=>lW aB1 h
def wu(ha:SE C m1 a fa)(hb:SE C m2 b fb):SE C (some []) (.BinOp a .FloorDiv b pos) (op2 lX fa fb):=gO (aAK (λ _=>aKn) (aEK λ i j h=>by simpa[aPL]using h) ha hb) λ _ _ h=>lW aB1 h
def ut(ha:SE C m1 a fa)(hb:SE C m2 b fb):SE C (some []) (.BinOp a .Mod b pos) (op2 vL fa fb):=gO (aAK (λ _=>aNV) (aEK λ i j h=>by simpa using h) ha hb) λ _ _ h=>lW aB1 h
def aMe(ha:SE C m1 a fa)(hb:SE C m2 b fb):SE C (some []) (.BinOp a .Pow b pos) (op2 aMw fa fb):=gO (aAK (λ _=>aNS) (aEK λ i j h=>by simp only[zAN,decide_eq_true_eq]at h;exact⟨h.1.1,h.1.2,h.2⟩) ha hb) λ _ _ h=>lW aB1 h
def aHj(ha:SE C m a fa):SE C (some []) (.UnaryOp .USub a pos) (op1 aCc fa):=gO (aOW (λ _=>aHT) aM2 ha) λ _ _ h=>aLV aLW h
def aOY(ha:SE C m1 a fa)(hb:SE C m2 b fb):SE C (some []) (.Compare a [.Lt] [b] pos) (op2 ltD fa fb):=gO (aAt C.ltR aF4 ha hb) λ _ _ h=>lW aEd h
def aO0(ha:SE C m1 a fa)(hb:SE C m2 b fb):SE C (some []) (.Compare a [.Gt] [b] pos) (op2 gtD fa fb):=gO (aAt (λ _=>aMS) yJ ha hb) λ _ _ h=>lW aEe h
def aCF(ha:SE C m1 a fa)(hb:SE C m2 b fb):SE C (some []) (.Compare a [.Eq] [b] pos) (op2 (eqR false) fa fb):=gO (aAt C.eqRl os_eq ha hb) λ _ _ h=>lW aJA h
def aOX(ha:SE C m1 a fa)(hb:SE C m2 b fb):SE C (some []) (.Compare a [.NotEq] [b] pos) (op2 (eqR true) fa fb):=gO (aAt C.neRl os_eq ha hb) λ _ _ h=>lW aJA h
def aBz(ha:SE C m1 a fa)(hb:SE C m2 b fb):ST C (.Compare a [.Lt] [b] pos) (tsb (op2 ltD fa fb)):=lu C.ltR aF4 ha hb
def aMB(ha:SE C m1 a fa)(hb:SE C m2 b fb):ST C (.Compare a [.Gt] [b] pos) (tsb (op2 gtD fa fb)):=lu (λ _=>aMS) yJ ha hb
def aMC(ha:SE C m1 a fa)(hb:SE C m2 b fb):ST C (.Compare a [.GtE] [b] pos) (tsb (op2 geD fa fb)):=lu (λ _=>aOh) yJ ha hb
def tK(ha:SE C m1 a fa)(hb:SE C m2 b fb):ST C (.Compare a [.Eq] [b] pos) (tsb (op2 (eqR false) fa fb)):=lu C.eqRl os_eq ha hb
def aAH(ha:SE C m1 a fa)(hb:SE C m2 b fb):ST C (.Compare a [.NotEq] [b] pos) (tsb (op2 (eqR true) fa fb)):=lu C.neRl os_eq ha hb
def aH3(ha:SE C m1 a fa)(hb:SE C m2 b fb)(hm:zCS .In b=false:=by with_unfolding_all rfl):ST C (.Compare a [.In] [b] pos) (tsb (op2 (inR false) fa fb)):=lu C.inRl aI0 ha hb hm
def xR(ha:SE C m1 a fa)(hb:SE C m2 b fb)(hm:zCS .NotIn b=false:=by with_unfolding_all rfl):ST C (.Compare a [.NotIn] [b] pos) (tsb (op2 (inR true) fa fb)):=lu C.ninRl aI0 ha hb hm
def aH2(ha:SE C m1 a fa)(hb:SE C m2 b fb):ST C (.Compare a [.IsNot] [b] pos) (tsb (op2 (isD true) fa fb)):=lu (λ _=>aKj) aIZ ha hb
def aKP(ha:SE C m1 a fa)(hb:SE C m2 b fb)(hc:SE C m3 c fc)(hm:zEy [.LtE,.LtE] [b,c]=false:=by with_unfolding_all rfl):SE C (some []) (.Compare a [.LtE,.LtE] [b,c] pos) (chD leD leD fa fb fc):=aCG C.leR aF5 C.leR aF5 aNr ha hb hc hm
def aKO(ha:SE C m1 a fa)(hb:SE C m2 b fb)(hc:SE C m3 c fc)(hm:zEy [.LtE,.Lt] [b,c]=false:=by with_unfolding_all rfl):SE C (some []) (.Compare a [.LtE,.Lt] [b,c] pos) (chD leD ltD fa fb fc):=aCG C.leR aF5 C.ltR aF4 aEd ha hb hc hm
def aFF(ha:SE C m1 a fa)(hb:SE C m2 b fb)(hc:SE C m3 c fc)(hm:zEy [.LtE,.Lt] [b,c]=false:=by with_unfolding_all rfl):ST C (.Compare a [.LtE,.Lt] [b,c] pos) (tsb (chD leD ltD fa fb fc)):=aH4 C.leR aF5 C.ltR aF4 aEd ha hb hc hm
def aL(ha:SE C m1 a fa)(hb:SE C m2 b fb)(hp:aBq b:=by exact λ _ _=>rfl):SE C m1 (.Subscript a b pos) (op2 ixD fa fb):=by
 obtain⟨t,h1,h2⟩:=ha;obtain⟨u,k1,k2⟩:=hb;refine⟨tOp (rIx C.K) t u,λ i=>by rw[<-C.hK i];exact aMQ aNn (h1 i) (k1 i) hp,λ U σ H ρ lab Q R W=>?_⟩;refine h2 U σ H ρ lab _ R (W.bd.imp λ d _ w x H1 s1 r1=>?_);refine k2 U σ H1 ρ lab _ (R.up s1) (w.bd.imp λ e _ w y H2 s2 r2=>?_);obtain⟨z,ez,w⟩:=w.okD;have hi:imm e=true:=by
  unfold ixD at ez;split at ez<;>first|rfl|cases ez
 refine aOe (fpM m1 lab H) x y d e H2 Q z (r1.up s2) (r2.imm hi) ez λ v H' s r=>w v H' ((s1.trans s2).trans s) (r.wk λ p o _ q=>?_)
 rcases q with q|q
 .exact .inl ((s1.trans s2).free q)
 .exact q
def dm(hm:C.mg "len"=none)(ha:SA C m [a] ga)(he:∀i,zA1 [a] (C.X i).env=[(false,eval a (C.X i).env)]:=by intro _;rfl)(hg:∀i,Gl (C.X i) "len":=by intro _;rfl):SE C (some []) (.Call (.Name "len" p) [a] [] pos) (opA eX ga):=
 gO (mZ (λ i=>by have h:=uY (X:=C.X i);rw[C.hK i]at h;exact h) aJ5 hg hm zIS ha (by decide) (by decide) he) λ _ _ h=>qT aFx h
def aHk(hm:C.mg "all"=none)(ha:SA C m [a] ga)(he:∀i,zA1 [a] (C.X i).env=[(false,eval a (C.X i).env)]:=by intro _;rfl)(hg:∀i,Gl (C.X i) "all":=by intro _;rfl)(hv:zAq "all"=some (.builtin "all"):=by decide+kernel):SE C (some []) (.Call (.Name "all" p) [a] [] pos) (opA (qj λ bs=>bs.all id) ga):=
 gO (mZ (λ i=>aJc (C.calm i)) aJ6 hg hm hv ha (by decide) (by decide) he) λ _ _ h=>qT aFy h
def aKS(hm:C.mg "any"=none)(ha:SA C m [a] ga)(he:∀i,zA1 [a] (C.X i).env=[(false,eval a (C.X i).env)]:=by intro _;rfl)(hg:∀i,Gl (C.X i) "any":=by intro _;rfl)(hv:zAq "any"=some (.builtin "any"):=by decide+kernel):SE C (some []) (.Call (.Name "any" p) [a] [] pos) (opA (qj λ bs=>bs.any id) ga):=
 gO (mZ (λ i=>aJb (C.calm i)) aJ6 hg hm hv ha (by decide) (by decide) he) λ _ _ h=>qT aFy h
def tU(hm:C.mg "min"=none)(ha:SA C m [a,b] ga)(he:∀i,zA1 [a,b] (C.X i).env=(false,eval a (C.X i).env)::zA1 [b] (C.X i).env:=by intro _;rfl)(hpl:∀i,(zCo pos (zA1 [b] (C.X i).env)).any (·.1)=false:=by intro _;rfl)(hg:∀i,Gl (C.X i) "min":=by intro _;rfl)(hv:zAq "min"=some (.builtin "min"):=by decide+kernel):SE C (some []) (.Call (.Name "min" p) [a,b] [] pos) (opA (mmD λ i j=>if j<i then j else i) ga):=
 gO (mZ (λ i=>aHG (C.calm i)) aM0 hg hm hv ha (by decide) (by decide) he hpl) λ _ _ h=>qT aIy h
def wj(hm:C.mg "max"=none)(ha:SA C m [a,b] ga)(he:∀i,zA1 [a,b] (C.X i).env=(false,eval a (C.X i).env)::zA1 [b] (C.X i).env:=by intro _;rfl)(hpl:∀i,(zCo pos (zA1 [b] (C.X i).env)).any (·.1)=false:=by intro _;rfl)(hg:∀i,Gl (C.X i) "max":=by intro _;rfl)(hv:zAq "max"=some (.builtin "max"):=by decide+kernel):SE C (some []) (.Call (.Name "max" p) [a,b] [] pos) (opA (mmD λ i j=>if j>i then j else i) ga):=
 gO (mZ (λ i=>aHH (C.calm i)) aM0 hg hm hv ha (by decide) (by decide) he hpl) λ _ _ h=>qT aIy h
def iC(hm:C.mg "tuple"=none)(ha:SA C m [a] ga)(he:∀i,zA1 [a] (C.X i).env=[(false,eval a (C.X i).env)]:=by intro _;rfl)(hg:∀i,Gl (C.X i) "tuple":=by intro _;rfl)(hv:zAq "tuple"=some (.type "tuple"):=by decide+kernel):SE C m (.Call (.Name "tuple" p) [a] [] pos) (opA gw ga):=
 aCH (λ i=>by have h:=zz (X:=C.X i);rw[C.hK i]at h;exact h) aJ4 hg hm hv ha (by decide) (by decide) he
def aKM(hm:C.mg "list"=none)(ha:SA C m [a] ga)(he:∀i,zA1 [a] (C.X i).env=[(false,eval a (C.X i).env)]:=by intro _;rfl)(hg:∀i,Gl (C.X i) "list":=by intro _;rfl)(hv:zAq "list"=some (.type "list"):=by decide+kernel):SE C m (.Call (.Name "list" p) [a] [] pos) (opA aCk ga):=
 aCH (λ i=>by have h:=aBf (X:=C.X i);rw[C.hK i]at h;exact h) aLc hg hm hv ha (by decide) (by decide) he
def aFH(K:zAA):Sp:=λ vs H Q E=>∃a ns,vs=[.ref a]/\qK K H a ns/\ns.length<=63/\∀H',Q (.bl true) H'
def aLJ{K:zAA}(h:∀ns:List Int,ns.length<=63->F [.scr ns]= .ok (.bl true)):∀vs H Q E,aFH K vs H Q E->spF K cl 1 F vs H Q E:=by
 rintro vs H Q E ⟨a,ns,rfl,hs,hl,q⟩;refine⟨[.scr ns],rfl,.cons (.scr hs) .nil,?_⟩;rw[h ns hl];intro v H' s r;cases r;exact q H'
def aMg{K:zAA}{a:Addr}(hO:Only H)(h:SqL K H a (ns.map V.int)):qK K H a ns:=by
 rcases h with (h|⟨o,h⟩)|h
 .rcases hO a with z|⟨o,xs,z⟩
  .rw[h]at z;cases z
  .rw[h]at z;cases z
 .exact .inl ⟨o,h⟩
 .exact .inr h
end
section
theorem aAU:∀{ns:List Int} {us:List Value},Vals (ns.map V.int) us->∃ts:List (Int×Tok),us=ts.map (λ q=>zCR q.1 q.2)/\ts.map zFK=ns
 |[],_,.nil=>⟨[],rfl,rfl⟩
 |n::ns,_,.cons r t=>by
  obtain⟨tk,e⟩:∃tk,_=zCR n tk:=r
  obtain⟨ts,e1,e2⟩:=aAU t;subst e;exact⟨(n,tk)::ts,by rw[e1];rfl,by rw[<-e2];rfl⟩
end
def shS:Slot->Slot
 | .no=>.no
 | .sh d=>.sh d
 | .nw d=>.sh d
 | .ow d=>.sh d
 | .oz d=>.sh d
 | .o2 l=>.sh (.lst (l.map .lst))
end VL
namespace L2
open PySem PySem.Spec PyProof.Rows
def cxW(P:zA7)(w:World)(K:zAA)(mg:Str->Option Value)(base:Heap)(N:List Str)(qual:Str)(scope:Scope)(f:Addr)(cd:Value)(A:zAk)(s:zAG)(H:Hp)(Pt:Addr):Cx where
 prog:=P
 w:=w
 K:=K
 mg:=mg
 base:=base
 A:=A.deeper (zEc qual scope s.heap.objs.size f cd)
 N:=N
 z4:=s
 zS:=H
 env:=zEc qual scope s.heap.objs.size f cd
 outer:=[]
 stack:=[zEc qual scope s.heap.objs.size f cd]
 ex:=[Pt]
 calm:=true
 fn:=λ _=>true
 pn:=[]
 xe:=λ _ _=>False
 ta:=[(Pt,PySem.W.tabObj #[])]
 tq:=qual++".<locals>."++"<lambda>"
end L2
namespace VL
open PySem PySem.Spec PyProof.Rows L2
end VL
namespace L2
open PySem PySem.Spec PyProof.Rows
def pe_isi{X:Cx}{n0:Str}{e:Expr}{c:V}{p p' pos:Pos}(hN:X.N[0]? =some n0)(hv:X.env.scope.names.lookup n0=some .local)(hg:Gl X "isinstance")(hm:X.mg "isinstance"=none)(hc:PE X e (tC c))(hse:zA1 [e] X.env=(false,eval e X.env)::zA1 [] X.env:=by rfl)
  (hpl:(zCo pos (zA1 [e] X.env)).any (·.1)=false:=by rfl)(d:Nd n0:=by decide)(d':(n0==("__classdict__":Str))=false:=by decide):PE X (.Call (.Name "isinstance" p) [.Name n0 p',e] [] pos) (aPT X.K c):=
 m8 aHK hg hm rfl (dI (mH hN (.inl hv) d d') (dI hc gR hse)) (hpl:=hpl)
section
variable{P:zA7}{w:World}{K:zAA}{mg:Str->Option Value}{base:Heap}{x q n0 n1 n2 odd:Str}{st:Stmt}{f:Addr}{fd:zAd}{k:Nat}{wd:Addr->Option Str}{c1 c2:V}{k1 k2 k3 k4:List V}{l1 l2:List Str}{a1 a2:Expr}{as1 as2 e1 e2 e3 e4 w1 w2:List Expr}{kw1 kw2:List zCj}
 {p1 p2 p3 p4 p5 p6 p7 p8 p9 p10 p11 p12 p13 p14 p15 p16 p17 p18 p19 p20 p21 p22 p23 p24 p25 p26 p27 p28 p29 p30 p31 p32 p33 p34 p35 p36 p37 p38 p39 p40:Pos}{q1 q2 q3 q4 q5 q6 q7:Pos}{j1 j2 j3 j4 j5:Nat}
end
structure LawOk(P:zA7)(w:World)(K:zAA)(mg:Str->Option Value)(fa Pt:Addr)(k n:Nat):Prop where
 ex:∃(x name qual:Str) (params:zHk) (body:List Stmt) (scope:Scope) (dV kV doc pm ct oc:Value) (an od:Option Addr) (c:Addr) (osl:Array (Option Value)) (N:List Str),
  K.lookup Pt=none/\PySem.W.codeHdIn K c Pt=true/\K.lookup fa=some ⟨oc,od,.func (zCW name qual params body scope dV kV doc pm an (.ref c) ct),osl⟩/\zDm K (.ref c) qual=true/\aV N [x] scope/\
  (∀(s:zAG) (u:Value),zFt s (zCW name qual params body scope dV kV doc pm an (.ref c) ct) ⟨[u],[]⟩ [(x,u)])/\
  ∀(a:Addr) (ns:List Int),ns.length<=n->∀(base:Heap) (s:zAG) (H:Hp),lG k (callerA.deeper (zEc qual scope s.heap.objs.size fa (.ref c)))->aPI (cxW P w K mg base N qual scope fa (.ref c) zF2 s H Pt) Pt->Only H->SqL K H a (ns.map V.int)->
   ∃t,PSs (cxW P w K mg base N qual scope fa (.ref c) zF2 s H Pt) body t/\t {nx:=λ _ _=>False,rt:=λ v _=>v= .bl true} (start N [.ref a]) H
end L2
namespace VL
open PySem PySem.Spec PyProof.Rows L2
section
variable{O:zC1}{kz:Nat->O.α}{n:Nat}
def Wr{α:Type}(kz:Nat->O.α)(n:Nat):zGQ α->(α->Prop)->Prop
 | .ret a,Q=>Q a
 | .ask i j k,Q=>i<n/\j<n/\Wr kz n (k (O.blt (kz i) (kz j))) Q
theorem Wr.bindI:∀{t:zGQ α},Wr kz n t (λ a=>Wr kz n (g a) Q)->Wr kz n (t.bind g) Q
 | .ret _,h=>h
 | .ask _ _ _,⟨h1,h2,h3⟩=>⟨h1,h2,Wr.bindI h3⟩
abbrev Pm(n:Nat)(p:Array Nat):Prop:=p.Perm (zAu n).toArray
def Pm.sz(h:Pm n p):p.size=n:=by
 have:=h.size_eq
 simpa using this
def Pm.in(h:Pm n p)(hi:i<n):p.getD i 0<n:=by
 have hs:i<p.size:=by rw[h.sz];exact hi
 have e:p.getD i 0=p[i]:=by simp[zCi,hs]
 rw[e];have hm:p[i]∈(zAu n).toArray:=h.mem_iff.mp (Array.getElem_mem hs);simpa using hm
def Kp(kz:Nat->O.α)(p:Array Nat)(i:Nat):O.α:=kz (p.getD i 0)
def aDC(h:p[i]? =q[j]?):Kp kz p i=Kp kz q j:=by
 unfold Kp;congr 1;rw[zCB,zCB,h]
def aIk(hs:c<p.size)(hd:d<=c)(k:Nat):
  Kp kz (bubble p c d) k=if k=c-d then Kp kz p c else if c-d<k/\k<=c then Kp kz p (k-1)else Kp kz p k:=by
 have e:=getElem?_bubble hs d hd k;by_cases u1:k=c-d
 .rw[if_pos u1]at e ⊢
  exact aDC e
 .rw[if_neg u1]at e ⊢
  by_cases u2:c-d<k/\k<=c
  .rw[if_pos u2]at e ⊢
   exact aDC e
  .rw[if_neg u2]at e ⊢
   exact aDC e
def aE5(hj:j<=p.size)(k:Nat):Kp kz (zEU p i j) k=if i<=k/\k<j then Kp kz p (i+j-1-k)else Kp kz p k:=by
 unfold zEU;have e:=getElem?_mirror_all (i:=i) hj k;by_cases u1:i<=k/\k<j
 .rw[if_pos u1]at e ⊢
  exact aDC e
 .rw[if_neg u1]at e ⊢
  exact aDC e
def qP(hj:j<=p.size)(he:∀k,i<=k->k<j->Kp kz p k=Kp kz p (j-1))(k:Nat):Kp kz (zEU p i j) k=Kp kz p k:=by
 rw[aE5 hj];split
 .rw[he _ (by lia) (by lia),he k (by lia) (by lia)]
 .rfl
def Up(kz:Nat->O.α)(p:Array Nat)(k:Nat):Prop:=∀i j,i<=j->j<k->O.kle (Kp kz p i) (Kp kz p j)
def Dn(kz:Nat->O.α)(p:Array Nat)(k:Nat):Prop:=∀i j,i<=j->j<k->O.kle (Kp kz p j) (Kp kz p i)
def xx(h:Pm n p)(i j:Nat):Pm n (zEU p i j):=(mirror_perm _ _ _ _).trans h
def Up.succ(h:Up kz p m)(hm:1<=m)(hl:O.kle (Kp kz p (m-1)) (Kp kz p m)):Up kz p (m+1):=by
 intro i j hij hj;by_cases q:j<m
 .exact h i j hij q
 .have q':j=m:=by lia
  subst q';by_cases q2:i=j
  .rw[q2];exact zDD _
  .exact zEI (h i (j-1) (by lia) (by lia)) hl
def Dn.succ(h:Dn kz p m)(hm:1<=m)(hl:O.kle (Kp kz p m) (Kp kz p (m-1))):Dn kz p (m+1):=by
 intro i j hij hj;by_cases q:j<m
 .exact h i j hij q
 .have q':j=m:=by lia
  subst q';by_cases q2:i=j
  .rw[q2];exact zDD _
  .exact zEI hl (h i (j-1) (by lia) (by lia))
theorem aDf(hp:Pm n p)(hr:r<=n):∀(f m:Nat),1<=m->m+f=r->Up kz p m->
  (∀m',1<=m'->m'<=r->Up kz p m'->(m'=r\/O.klt (Kp kz p m') (Kp kz p (m'-1)))->Q m')->Wr kz n (PySem.W.kas_asc p f m) Q
 |0,m,h1,hm,hu,k=>k m h1 (by lia) hu (.inl (by lia))
 |f+1,m,h1,hm,hu,k=>by
  refine⟨hp.in (by lia),hp.in (by lia),?_⟩;have hd:O.blt (kz (p.getD m 0)) (kz (p.getD (m-1) 0))=O.blt (Kp kz p m) (Kp kz p (m-1)):=rfl;rw[hd];cases hb:O.blt (Kp kz p m) (Kp kz p (m-1))with
  |true=>exact k m h1 (by lia) hu (.inr hb)
  |false=>exact aDf hp hr f (m+1) (by lia) (by lia) (hu.succ h1 hb) k
theorem w5(hr:r<=n):∀(f:Nat) (p:Array Nat) (m e:Nat),Pm n p->1<=m->m+f=r->Dn kz p m->e+1<=m->(∀i,m-(e+1)<=i->i<m->Kp kz p i=Kp kz p (m-1))->
  (∀p' m' e',Pm n p'->1<=m'->m'<=r->Dn kz p' m'->e'+1<=m'->(∀i,m'-(e'+1)<=i->i<m'->Kp kz p' i=Kp kz p' (m'-1))->Q (p',m',e'))->Wr kz n (PySem.W.kas_desc f p m e) Q
 |0,p,m,e,hp,h1,hm,hd,he,hq,k=>k p m e hp h1 (by lia) hd he hq
 |f+1,p,m,e,hp,h1,hm,hd,he,hq,k=>by
  have hsz:m<=p.size:=by rw[hp.sz];lia
  refine⟨hp.in (by lia),hp.in (by lia),?_⟩;have hx:O.blt (kz (p.getD m 0)) (kz (p.getD (m-1) 0))=O.blt (Kp kz p m) (Kp kz p (m-1)):=rfl;rw[hx];cases hb:O.blt (Kp kz p m) (Kp kz p (m-1))with
  |true=>
   have hd':Dn kz p (m+1):=hd.succ h1 (zFE hb);dsimp only;rw[if_pos rfl];by_cases hz:e>0
   .rw[if_pos hz]
    refine w5 hr f _ (m+1) 0 (xx hp _ _) (by lia) (by lia) (λ i j hij hj=>?_) (by lia) (λ i u v=>by congr 1;lia) k;rw[qP hsz hq,qP hsz hq];exact hd' i j hij hj
   .rw[if_neg hz]
    exact w5 hr f p (m+1) 0 hp (by lia) (by lia) hd' (by lia) (λ i u v=>by congr 1;lia) k
  |false=>
   dsimp only;rw[if_neg (by simp)];refine⟨hp.in (by lia),hp.in (by lia),?_⟩;have hy:O.blt (kz (p.getD (m-1) 0)) (kz (p.getD m 0))=O.blt (Kp kz p (m-1)) (Kp kz p m):=rfl;rw[hy];cases hc:O.blt (Kp kz p (m-1)) (Kp kz p m)with
   |true=>exact k p m e hp h1 (by lia) hd he hq
   |false=>
    dsimp only;rw[if_neg (by simp)];have hee:Kp kz p m=Kp kz p (m-1):=zGj hc hb;refine w5 hr f p (m+1) (e+1) hp (by lia) (by lia) (hd.succ h1 hc) (by lia) (λ i u v=>?_) k;rw[show m+1-1=m by lia];by_cases hi:i=m
    .rw[hi]
    .rw[hee]
     exact hq i (by lia) (by lia)
def aEu(hr:r<=n)(hp:Pm n p)(h1:1<=m)(hm:m<=r)(hd:Dn kz p m)(k:∀m' p',Pm n p'->1<=m'->m'<=r->Up kz p' m'->Q (m',p')):Wr kz n (PySem.W.kas_tail3 m r p) Q:=by
 have hsz:m<=p.size:=by rw[hp.sz];lia
 refine Wr.bindI (aDf (xx hp 0 m) hr (r-m) m h1 (by lia) (λ i j hij hj=>?_) λ m' a1 a2 a3 _=>k m' _ (xx hp 0 m) a1 a2 a3);rw[aE5 hsz,aE5 hsz,if_pos (by lia),if_pos (by lia)];exact hd _ _ (by lia) (by lia)
def v6(hr:r<=n)(hp:Pm n p)(hm:m+1<=r)(hd:Dn kz p (m+1))(k:∀m' p',Pm n p'->1<=m'->m'<=r->Up kz p' m'->Q (m',p')):Wr kz n (PySem.W.kas_descPart m r p) Q:=by
 refine Wr.bindI (w5 hr (r-(m+1)) p (m+1) 0 hp (by lia) (by lia) hd (by lia) (λ i u v=>by congr 1;lia) λ p' m' e' a1 a2 a3 a4 a5 a6=>?_);have hsz:m'<=p'.size:=by rw[a1.sz];lia
 dsimp only;by_cases hz:e'>0
 .rw[if_pos hz]
  refine aEu hr (xx a1 _ _) a2 a3 (λ i j hij hj=>?_) k;rw[qP hsz a6,qP hsz a6];exact a4 i j hij hj
 .rw[if_neg hz]
  exact aEu hr a1 a2 a3 a4 k
def aHP(hr:r<=n)(hp:Pm n p)(h1:1<=r)(k:∀m' p',Pm n p'->1<=m'->m'<=r->Up kz p' m'->Q (m',p')):Wr kz n (PySem.W.kas_count r p) Q:=by
 refine Wr.bindI (aDf hp hr (r-1) 1 (zAT 1) (by lia) (λ i j hij hj=>by rw[show i=j by lia];exact zDD _) λ m a1 a2 a3 a4=>?_);by_cases hm:m=r
 .rw[if_pos (by simpa using hm)]
  exact k m p hp a1 a2 a3
 .rw[if_neg (by simpa using hm)]
  have hl:O.klt (Kp kz p m) (Kp kz p (m-1)):=a4.resolve_left hm;by_cases hg:m>1
  .rw[if_pos hg]
   refine⟨hp.in (by lia),hp.in (by lia),?_⟩;have hx:O.blt (kz (p.getD 0 0)) (kz (p.getD (m-1) 0))=O.blt (Kp kz p 0) (Kp kz p (m-1)):=rfl;rw[hx];cases hb:O.blt (Kp kz p 0) (Kp kz p (m-1))with
   |true=>exact k m p hp a1 a2 a3
   |false=>
    dsimp only;rw[if_neg (by simp)];have hsz:m<=p.size:=by rw[hp.sz];lia
    have kX:∀i,0<=i->i<m->Kp kz p i=Kp kz p (m-1):=λ i _ hi=>zGj (a3 i (m-1) (by lia) (by lia)) (zEI hb (a3 0 i (by lia) hi))
    refine v6 hr (xx hp 0 m) (by lia) (λ i j hij hj=>?_) k;rw[qP hsz kX,qP hsz kX];by_cases hjm:j<m
    .rw[kX i (by lia) (by lia),kX j (by lia) hjm];exact zDD _
    .have hj':j=m:=by lia
     subst hj';by_cases hi:i=j
     .rw[hi];exact zDD _
     .rw[kX i (by lia) (by lia)];exact zFE hl
  .rw[if_neg hg]
   have hm1:m=1:=by lia
   subst hm1;refine v6 hr hp (by lia) (λ i j hij hj=>?_) k;by_cases hi:i=j
   .rw[hi];exact zDD _
   .have e1:i=0:=by lia
    have e2:j=1:=by lia
    subst e1 e2;exact zFE hl
theorem xM(hp:Pm n p)(hc:c<n)(hu:Up kz p c):∀(f l r:Nat),l<=r->r<=c->r-l<=f->(∀i,i<l->O.kle (Kp kz p i) (Kp kz p c))->(∀i,r<=i->i<c->O.klt (Kp kz p c) (Kp kz p i))->
  (∀l',l'<=c->(∀i,i<l'->O.kle (Kp kz p i) (Kp kz p c))->(∀i,l'<=i->i<c->O.klt (Kp kz p c) (Kp kz p i))->Q l')->Wr kz n (zGy p c f l r) Q
 |0,l,r,a1,a2,a3,a4,a5,k=>by
  have e:l=r:=by lia
  subst e;exact k l a2 a4 a5
 |f+1,l,r,a1,a2,a3,a4,a5,k=>by
  unfold zGy;by_cases hg:l ≥ r
  .rw[if_pos hg]
   have e:l=r:=by lia
   subst e;exact k l a2 a4 a5
  .rw[if_neg hg]
   refine⟨hp.in hc,hp.in (by lia),?_⟩;have hx:O.blt (kz (p.getD c 0)) (kz (p.getD ((l+r) / 2) 0))=O.blt (Kp kz p c) (Kp kz p ((l+r) / 2)):=rfl;rw[hx];cases hb:O.blt (Kp kz p c) (Kp kz p ((l+r) / 2))with
   |true=>exact xM hp hc hu f l ((l+r) / 2) (by lia) (by lia) (by lia) a4 (λ i u v=>KeyOrd.klt_of_klt_of_kle hb (hu _ _ u v)) k
   |false=>exact xM hp hc hu f ((l+r) / 2+1) r (by lia) a2 (by lia) (λ i u=>zEI (hu i ((l+r) / 2) (by lia) (by lia)) hb) a5 k
theorem aHQ:∀(f:Nat) (p:Array Nat) (c:Nat),Pm n p->c+f=n->Up kz p c->(∀p',Pm n p'->Up kz p' n->Q p')->Wr kz n (PySem.W.kas_bin f p c) Q
 |0,p,c,hp,hc,hu,k=>k p hp (by rw[show n=c by lia];exact hu)
 |f+1,p,c,hp,hc,hu,k=>by
  refine Wr.bindI (xM hp (by lia) hu c 0 c (by lia) (zAT c) (by lia) (λ i u=>by lia) (λ i u v=>by lia) λ l a1 a2 a3=>?_);refine aHQ f _ (c+1) ((bubble_perm _ _ _).trans hp) (by lia) (λ i j hij hj=>?_) k;have hs:c<p.size:=by rw[hp.sz];lia
  rw[aIk hs (by lia),aIk hs (by lia),show c-(c-l)=l by lia]
  repeat' split
  all_goals first
   |(exfalso;lia)
   |exact O.irrefl _
   |exact a2 _ (by lia)
   |exact KeyOrd.klt_asymm (a3 _ (by lia) (by lia))
   |exact hu _ _ (by lia) (by lia)
def aJv(h1:1<=n)(k:∀p,Pm n p->Up kz p n->Q p):Wr kz n (PySem.W.kas_sort n) Q:=by
 refine Wr.bindI (aHP (zAT n) (zGd _) h1 λ m p a1 a2 a3 a4=>?_);dsimp only;by_cases hm:m<n
 .rw[if_pos hm]
  exact aHQ _ p _ a1 (by lia) (by rw[show max m 1=m by lia];exact a4) k
 .rw[if_neg hm]
  exact k p a1 (by rw[show n=m by lia];exact a4)
theorem aBt{I:zAG->Prop}(hc:∀i j (C:Bool->zAG->Prop) s,I s->i<n->j<n->(∀s',I s'->C (O.blt (kz i) (kz j)) s')->cmp i j C s):
  ∀(t:zGQ α) (s:zAG),I s->Wr kz n t (λ a=>∀s',I s'->Q a s')->t.kasWp cmp Q s
 | .ret a,s,hI,h=>h s hI
 | .ask i j k,s,hI,⟨h1,h2,h3⟩=>hc i j _ s hI h1 h2 λ s' hI'=>aBt hc _ s' hI' h3
end
theorem yR:∀a:List Int,HT.lexLt a a=false
 |[]=>rfl
 |x::a=>by rw[HT.kY,if_pos rfl];exact yR a
theorem uE:∀a b c:List Int,HT.lexLt a b=true->HT.lexLt b c=true->HT.lexLt a c=true
 |[],[],c,h,_=>by cases h
 |[],_::_,[],_,h=>by cases h
 |[],_::_,_::_,_,_=>rfl
 |_::_,[],_,h,_=>by cases h
 |_::_,_::_,[],_,h=>by cases h
 |x::a,y::b,z::c,h1,h2=>by
  rw[HT.kY]at h1 h2 ⊢;by_cases e1:x=y
  .subst e1
   rw[if_pos rfl]at h1;by_cases e2:x=z
   .rw[if_pos e2]at h2 ⊢
    exact uE a b c h1 h2
   .rw[if_neg e2]at h2 ⊢
    exact h2
  .rw[if_neg e1]at h1
   simp only[decide_eq_true_eq]at h1;by_cases e2:y=z
   .subst e2
    rw[if_neg e1];simpa using h1
   .rw[if_neg e2]at h2
    simp only[decide_eq_true_eq]at h2;rw[if_neg (by lia)];simp only[decide_eq_true_eq];lia
theorem yQ:∀a b:List Int,HT.lexLt a b=false->HT.lexLt b a=false->a=b
 |[],[],_,_=>rfl
 |[],_::_,h,_=>by cases h
 |_::_,[],_,h=>by cases h
 |x::a,y::b,h1,h2=>by
  rw[HT.kY]at h1 h2;by_cases e:x=y
  .subst e
   rw[if_pos rfl]at h1 h2;rw[yQ a b h1 h2]
  .rw[if_neg e]at h1
   rw[if_neg λ q=>e q.symm]at h2;simp only[decide_eq_false_iff_not]at h1 h2;lia
def aIa(a b c:List Int)(h:HT.lexLt a c=true):HT.lexLt a b=true\/HT.lexLt b c=true:=by
 cases e1:HT.lexLt a b with
 |true=>exact .inl rfl
 |false=>
  right;cases e2:HT.lexLt b a with
  |true=>exact uE b a c e2 h
  |false=>rw[<-yQ a b e1 e2];exact h
def aEZ:zC1:=⟨List Int,HT.lexLt,yR,uE,aIa,yQ⟩
inductive eY(h:Heap):List Value->List (List Int)->Prop where
 |nil:eY h [] []
 |cons {x:Addr} {o:Obj} {xs:Array Value} {k:Nat} {ns:List Int} {vs:List Value} {nss:gV} (ho:h.get? x=some o) (hc:o.cls= .type "tuple") (hd:o.data= .seq xs k) (hi:zBL xs.toList ns) (hne:ns≠[]) (r:eY h vs nss):eY h (.ref x::vs) (ns::nss)
theorem eY.mono(k:∀x o,h.get? x=some o->o.cls= .type "tuple"->h'.get? x=some o):∀{vs:List Value} {nss:gV},eY h vs nss->eY h' vs nss
 |_,_,.nil=>.nil
 |_,_,.cons ho hc hd hi hne r=>.cons (k _ _ ho hc) hc hd hi hne (eY.mono k r)
theorem eY.at:∀{vs:List Value} {nss:gV} {i:Nat},eY h vs nss->i<vs.length->∃x o xs k,vs.getD i zBR= .ref x/\h.get? x=some o/\o.cls= .type "tuple"/\o.data= .seq xs k/\zBL xs.toList (nss.getD i [])/\nss.getD i []≠[]
 |_,_,_,.nil,hi=>by simp at hi
 |_,_,0,.cons ho hc hd hi hne _,_=>⟨_,_,_,_,rfl,ho,hc,hd,hi,hne⟩
 |_,_,i+1,.cons _ _ _ _ _ r,hi=>by
  obtain⟨x,o,xs,k,q⟩:=eY.at (i:=i) r (by simpa using hi);exact⟨x,o,xs,k,by simpa using q⟩
theorem eY.firsts:∀{vs:List Value} {nss:gV},eY h vs nss->∃fs,PySem.W.KatTups h vs fs/\fs.length=vs.length/\∀f∈fs,∃n t,f=zCR n t
 |_,_,.nil=>⟨[],.nil,rfl,λ f hf=>by simp at hf⟩
 |_,_,.cons (xs:=xs) ho hc hd hi hne r=>by
  obtain⟨fs,h1,h2,h3⟩:=eY.firsts r;obtain⟨l,rfl⟩:∃l:List Value,xs=l.toArray:=⟨xs.toList,by simp⟩
  rw[show l.toArray.toList=l by simp]at hi;cases hi with
  |nil=>exact absurd rfl hne
  |cons n t q=>
   rename_i l' ns';refine⟨.int n t::fs,.cons ho hc hd (by simp) h1,by simp[h2],λ f hf=>?_⟩;rcases zAL.mp hf with rfl|hf
   .exact⟨n,t,rfl⟩
   .exact h3 f hf
section
variable{prog:zA7}{w:World}{A:zAk}{E:Value->zAG->Prop}{s:zAG}
def aDH:∀{xs ys:List Value} {ns ms:List Int} (i:Nat),zBL xs ns->zBL ys ms->fin=decide (xs.length<ys.length)->Q (HT.lexLt ns ms) s->PySem.W.KatLex prog w A b fin Q (xs.zip ys) i s:=by
 intro xs ys ns ms i hx;induction hx generalizing ys ms i with
 |nil=>intro hy hf q;cases hy<;>(subst hf;exact q)
 |@cons x t xs ns r ih=>
  intro hy hf q;cases hy with
  |nil=>subst hf;exact q
  |@cons y u ys ms r'=>?_
  rw[zCK];refine PySem.W.kat_cons (wpAny_eqBool_int ?_);rw[HT.kY]at q;by_cases e:x=y
  .rw[if_pos e]at q
   rw[show(x==y)=true by simpa using e];exact PySem.W.kat_yes (ih (i+1) r' (by rw[hf];simp) q)
  .rw[if_neg e]at q
   rw[show(x==y)=false by simpa using e];refine PySem.W.kat_no ?_;cases hb:(b&&i==0)with
   |true=>exact oneLt_int q
   |false=>exact PySem.W.kat_one _ _ (zFr q)
def aE8(hx:s.heap.get? x=some ox)(dx:ox.data= .seq xs n)(hy:s.heap.get? y=some oy)(dy:oy.data= .seq ys k)(hi:zBL xs.toList ns)(hj:zBL ys.toList ms)
  (q:Q (HT.lexLt ns ms) s):wpAny (model prog w) A (keyLt' (tuples' b) (.ref x) (.ref y)) Q E s:=
 PySem.W.kat_lt hx dx hy dy (aDH 0 hi hj (by simp) q)
def qe(vs:List Value)(p:Array Nat):Array Value:=(p.toList.map λ i=>vs.getD i zBR).toArray
def aJs(h:vs.length<2):(vs.toArray.zip vs.toArray).map (·.2)=qe vs (zAu vs.length).toArray:=by
 cases vs with
 |nil=>simp[qe]
 |cons v t=>
  cases t with
  |nil=>simp[qe]
  |cons u t=>exact absurd h (zGY.mpr (Nat.le_add_left 2 t.length))
def aEY(ho:s.heap.get? a=some (zBv "list" vs.toArray c))(ht:eY s.heap vs nss)(h64:vs.length<64)
  (h:∀p:Array Nat,Pm vs.length p->Up (O:=aEZ) (λ i=>nss.getD i []) p vs.length->P (.done (.ret .none)) {s with heap:=zGE s.heap a vs (qe vs p)}):
  wpAny (model prog w) A (zDP.«list.sort» ⟨[.ref a],[]⟩) P E s:=by
 have hlt:a<s.heap.objs.size:=zAV ho;have hz:vs.length<=zAY:=by rw[zBz];lia
 obtain⟨e1,ho1⟩:∃e1,(s.heap.update a (zCL λ _=>(#[]:Array Value))).get? a=some (zBv "list" #[] e1):=⟨_,zEC ho λ _=>#[]⟩
 have keep:∀x o,s.heap.get? x=some o->o.cls= .type "tuple"->(((s.heap.update a (zCL λ _=>(#[]:Array Value))).push (zBv "tuple" vs.toArray 0)).push (zBv "list" #[] 0)).get? x=some o:=λ x o e q=>by
  have hxa:x≠a:=λ z=>by
   subst z;rw[ho]at e;cases e;exact absurd q (show¬(zCz "list"=zCz "tuple")by decide)
  refine zAC _ (zAC _ ?_);rw[zC2 _ _ _ _ hxa];exact e
 have ho6:(((s.heap.update a (zCL λ _=>(#[]:Array Value))).push (zBv "tuple" vs.toArray 0)).push (zBv "list" #[] 0)).get? a=some (zBv "list" #[] e1):=zAC _ (zAC _ ho1);have ht6:=ht.mono keep;rw[list_sort_plain];refine zAB (listItems_at ho rfl (zAB (zHW ho rfl ?_ (by rw[zAP];exact hz) (zAj _))));refine zAB (zI1 ho1 rfl (zAB (wpAny_newTuple ?_ (by show vs.length<=_;exact hz))));refine zAB (zH1 (zB2 ?_) (zAj _));show wpAny (model prog w) A _ P E {s with heap:=((s.heap.update a (zCL λ _=>(#[]:Array Value))).push (zBv "tuple" vs.toArray 0)).push (zBv "list" #[] 0)};dsimp only;have hsz:∀p:Array Nat,Pm vs.length p->(qe vs p).size=vs.length:=λ p a1=>by unfold qe;rw[zAP,zAE,zA9,a1.sz]
 by_cases h2:vs.toArray.size<2
 .rw[if_pos h2,if_pos h2]
  refine zAB (zAK ?_);rw[StateT.run_pure];refine zAB (zAK ?_);have h2':vs.length<2:=by simpa using h2
  have a1:Pm vs.length (zAu vs.length).toArray:=zGd _;have a3:=aJs h2';dsimp only;refine zAB (zI1 ho6 rfl ?_);show wpAny (model prog w) A (Builtin.List.listUpdate (.ref a) (λ _=>(vs.toArray.zip vs.toArray).map (·.2))>>=_) P E _;rw[a3];refine zAB (zHW ho6 rfl ?_ (zAj _) (by show(qe vs _).size<=_;rw[hsz _ a1];lia));simp only[bne_self_eq_false,zAz,if_false];exact zAK (h _ a1 λ i j hij hj=>by rw[show i=j by lia];exact yR _)
 .rw[if_neg h2,if_neg h2]
  have h2':2<=vs.length:=zEW (show¬vs.length<2 by simpa using h2);obtain⟨fs,f1,f2,f3⟩:=ht6.firsts;refine zAB (PySem.W.kat_kind (T:=.type "int") f1 (by lia) (λ v hv=>?_) (by decide) ?_)
  .obtain⟨n,t,rfl⟩:=f3 v hv
   exact zIq
  rw[show(zCz "int" !=zCz "tuple")=true by decide];refine zAB (zB5 (PySem.W.kat_run (κ:=tuples' true) (ks:=vs) (vs:=vs) (Q:=λ st s'=>s'={s with heap:=((s.heap.update a (zCL λ _=>(#[]:Array Value))).push (zBv "tuple" vs.toArray 0)).push (zBv "list" #[] 0)}/\∃p:Array Nat,Pm vs.length p/\Up (O:=aEZ) (λ i=>nss.getD i []) p vs.length/\(arrOf st).map (·.2)=qe vs p/\zG0 st=none)
   (G:=λ p s'=>s'={s with heap:=((s.heap.update a (zCL λ _=>(#[]:Array Value))).push (zBv "tuple" vs.toArray 0)).push (zBv "list" #[] 0)}/\Pm vs.length p/\Up (O:=aEZ) (λ i=>nss.getD i []) p vs.length)
   rfl h2' h64 (λ p st s' _ b2 b3 b4=>⟨b4.1,p,b4.2.1,b4.2.2,PySem.W.kat_snds rfl b2,b3⟩) ?_) (λ r s' hr=>?_) λ _ _ e=>e)
  .refine aBt (O:=aEZ) (kz:=λ i=>nss.getD i []) (n:=vs.length) (I:=λ s'=>s'={s with heap:=((s.heap.update a (zCL λ _=>(#[]:Array Value))).push (zBv "tuple" vs.toArray 0)).push (zBv "list" #[] 0)}) (λ i j C s' hI hi hj hC=>?_) _ _ rfl (aJv (by lia) λ p a1 a2 s' hs'=>⟨hs',a1,a2⟩)
   subst hI;unfold PySem.W.kas_ask;obtain⟨x,ox,xs,kx,x1,x2,_,x4,x5,_⟩:=ht6.at hi;obtain⟨y,oy,ys,ky,y1,y2,_,y4,y5,_⟩:=ht6.at hj;rw[x1,y1];exact aE8 x2 x4 y2 y4 x5 y5 (hC _ rfl)
  .obtain⟨⟨⟩,st⟩:=r
   obtain⟨e,p,b1,b2,b3,b4⟩:=hr;subst e;refine zAB (zI1 ho6 rfl ?_);rw[b3,b4];refine zAB (zHW ho6 rfl ?_ (zAj _) (by show(qe vs p).size<=_;rw[hsz p b1];lia));simp only[bne_self_eq_false,zAz,if_false];exact zAK (h p b1 b2)
end
theorem sub_len[BEq α][LawfulBEq α]:∀{l l':List α},l.Nodup->(∀x∈l,x∈l')->l.length<=l'.length
 |[],_,_,_=>zAj _
 |x::l,l',nd,h=>by
  have hx:x∈l':=h x zAH;have ih:=sub_len (l:=l) (l':=l'.erase x) (zAp.mp nd).2 λ y hy=>(zCr λ e=>by subst e;exact(zAp.mp nd).1 hy).mpr (h y (zAF _ hy))
  rw[zEF hx]at ih
  have:0<l'.length:=zG4 hx
  rw[zA6];lia
def Ris(xs:Array Nat):Prop:=∀i j,i<j->j<xs.size->xs.getD i 0<xs.getD j 0
theorem aBj(hr:Ris xs):∀(f lo hi:Nat),lo<=hi->hi<=xs.size->hi-lo<=f->(∀i,i<lo->xs.getD i 0<j)->(∀i,hi<=i->i<xs.size->j<=xs.getD i 0)->
  zD1 xs j f lo hi<=xs.size/\(∀i,i<zD1 xs j f lo hi->xs.getD i 0<j)/\∀i,zD1 xs j f lo hi<=i->i<xs.size->j<=xs.getD i 0
 |0,lo,hi,h1,h2,h3,h4,h5=>by
  have e:lo=hi:=by lia
  subst e;exact⟨h2,h4,h5⟩
 |f+1,lo,hi,h1,h2,h3,h4,h5=>by
  unfold zD1;by_cases hl:lo<hi
  .rw[if_pos hl]
   dsimp only;have hm:(lo+hi) / 2<xs.size:=by lia
   have e:xs.getD ((lo+hi) / 2) j=xs.getD ((lo+hi) / 2) 0:=by simp[zCi,hm]
   rw[e];by_cases hc:xs.getD ((lo+hi) / 2) 0<j
   .rw[if_pos hc]
    refine aBj hr f _ hi (by lia) h2 (by lia) (λ i hi'=>?_) h5;by_cases q:i=(lo+hi) / 2
    .rw[q];exact hc
    .exact zGv (hr i ((lo+hi) / 2) (by lia) hm) hc
   .rw[if_neg hc]
    refine aBj hr f lo _ (by lia) (by lia) (by lia) h4 λ i q1 q2=>?_
    by_cases q:i=(lo+hi) / 2
    .rw[q];lia
    .have:=hr ((lo+hi) / 2) i (by lia) q2
     lia
  .rw[if_neg hl]
   have e:lo=hi:=by lia
   subst e;exact⟨h2,h4,h5⟩
def uc(hr:Ris xs)(j:Nat):zAm xs j<=xs.size/\(∀i,i<zAm xs j->xs.getD i 0<j)/\∀i,zAm xs j<=i->i<xs.size->j<=xs.getD i 0:=
 aBj hr xs.size 0 xs.size (zAj _) (zAT _) (by lia) (λ i h=>by lia) λ i h1 h2=>by lia
structure gr(t:zDK)(n:Nat):Prop where
 dum:t.dummies=#[]
 siz:t.place.size=n
 ris:Ris t.place
 top:∀i,i<n->t.place.getD i 0<=t.mask
 msk:t.mask=7/\n<5\/t.mask=31/\n<19\/t.mask=127/\n<77
 pla:t.plain=true
def gr.fresh(led:Bool):gr (zHU 0 0 led) 0:=⟨rfl,rfl,λ i j _ h=>by simp[zHU]at h,λ i h=>by lia,.inl ⟨rfl,by lia⟩,rfl⟩
def gr.few(h:gr t n):n<t.mask:=by
 rcases h.msk with ⟨e,l⟩|⟨e,l⟩|⟨e,l⟩<;>lia
theorem gr.fill(h:gr t n):t.fill=n:=by unfold zHf;rw[h.dum,h.siz];rfl
theorem gr.fits(h:gr t n):t.fits n=true:=by
 unfold zHg;rw[h.fill,h.siz]
 have:=h.few
 simp;lia
def aAk(h:gr t n)(j:Nat):t.slot j= .empty\/∃i,i<n/\t.slot j= .live i/\t.place.getD i 0=j:=by
 unfold zHh;dsimp only;by_cases e:(t.place[zAm t.place j]? ==some j)=true
 .rw[if_pos e]
  have e':=beq_iff_eq.mp e;obtain⟨h1,h2⟩:=zCk.mp e';exact .inr ⟨_,by rw[<-h.siz];exact h1,rfl,by simp[zCi,h1,h2]⟩
 .rw[if_neg e]
  have:zEP t.dummies j=false:=by rw[h.dum];unfold zEP;simp
  rw[this];exact .inl (by simp)
def aH9(h:gr t n)(e:t.slot j= .empty):∀i,i<n->t.place.getD i 0≠j:=by
 intro i hi q;obtain⟨b1,b2,b3⟩:=uc h.ris j;have hb:zAm t.place j=i:=by
  rcases zEK (zAm t.place j) i with z|z|z
  .have z1:=b3 _ (zAT _) (by rw[h.siz];lia)
   have z2:=h.ris _ i z (by rw[h.siz];exact hi);lia
  .exact z
  .have:=b2 i z
   lia
 have hi':i<t.place.size:=by rw[h.siz];exact hi
 have e2:t.place[i]? =some j:=by rw[zCk];exact⟨hi',by rw[<-q];simp[zCi,hi']⟩
 unfold zHh at e;dsimp only at e;rw[hb,e2]at e;simp at e
def oX(mask:Nat):Nat->Nat×Nat->Nat×Nat
 |0,st=>st
 |k+1,st=>oX mask k (zBX mask st.1 st.2)
theorem aCo(mask:Nat):∀(k:Nat) (st:Nat×Nat),(oX mask k st).2=st.2 / 32^k
 |0,st=>by simp[oX]
 |k+1,st=>by
  show(oX mask k (zBX mask st.1 st.2)).2=_
  rw[aCo mask k];show st.2 / 32 / 32^k=_;rw[Nat.div_div_eq_div_mul,Nat.pow_succ,Nat.mul_comm]
theorem aCr(mask:Nat):∀(j k:Nat) (st:Nat×Nat),oX mask (j+k) st=oX mask k (oX mask j st)
 |0,k,st=>by rw[zF9];rfl
 |j+1,k,st=>by
  rw[show j+1+k=(j+k)+1 by lia];exact aCr mask j k _
def orb(M:Nat):Nat->Nat->Nat
 |0,i=>i
 |k+1,i=>orb M k ((i*5+1)%M)
theorem ww(M:Nat):∀(j k i:Nat),orb M (j+k) i=orb M k (orb M j i)
 |0,k,i=>by rw[zF9];rfl
 |j+1,k,i=>by
  rw[show j+1+k=(j+k)+1 by lia];exact ww M j k _
theorem aCp(mask:Nat):∀(k i:Nat),oX mask k (i,0)=(orb (mask+1) k i,0)
 |0,i=>rfl
 |k+1,i=>by
  show oX mask k (zBX mask i 0)=_
  have:zBX mask i 0=((i*5+1)%(mask+1),0):=by simp[zBX]
  rw[this];exact aCp mask k _
def aGb:∀M∈[8,32,128],(∀t∈zAu M,∃k∈zAu M,orb M k 0=t)/\orb M M 0=0:=by decide+kernel
def aKi(hm:mask=7\/mask=31\/mask=127)(hi:i<=mask)(ht:t<=mask):∃k,k<=mask/\orb (mask+1) k i=t:=by
 have hM:mask+1∈[8,32,128]:=by rcases hm with e|e|e<;>subst e<;>decide
 obtain⟨h1,h2⟩:=aGb _ hM;obtain⟨a,ha,ea⟩:=h1 i (by simp;lia);obtain⟨b,hb,eb⟩:=h1 t (by simp;lia);simp only[zCP]at ha hb;by_cases hab:a<=b
 .refine⟨b-a,by lia,?_⟩
  rw[<-ea,<-ww,show a+(b-a)=b by lia,eb]
 .refine⟨mask+1-a+b,by lia,?_⟩
  rw[<-ea,<-ww,show a+(mask+1-a+b)=(mask+1)+b by lia,ww,h2,eb]
def aLh(h:Int):zBC h<2^64:=by
 unfold zBC;have h1:=zDj h (show(2^64:Int)≠0 by decide);have h2:=zDL h (show(0:Int)<2^64 by decide);lia
def aCq(hm:mask=7\/mask=31\/mask=127)(h:Int)(ht:t<=mask)(yY:Nat):∃k,k<mask+15/\(oX mask k (yY,zBC h)).1=t:=by
 have e1:(oX mask 13 (yY,zBC h)).2=0:=by
  rw[aCo]
  have:=aLh h
  exact Nat.div_eq_of_lt (zGv this (by decide))
 have e2:(oX mask 13 (yY,zBC h)).1<=mask:=by
  show(oX mask 12 (zBX mask yY (zBC h))).1<=mask
  have go:∀k (st:Nat×Nat),st.1<=mask->(oX mask k st).1<=mask:=by
   intro k;induction k with
   |zero=>intro st q;exact q
   |succ k ih=>
    intro st q;refine ih _ ?_
    show(st.1*5+1+st.2 / 32)%(mask+1)<=mask
    exact zCq (zEL _ (zDw _))
  refine go 12 _ ?_
  show(yY*5+1+zBC h / 32)%(mask+1)<=mask
  exact zCq (zEL _ (zDw _))
 obtain⟨k,hk,ek⟩:=aKi hm e2 ht;refine⟨13+k,by lia,?_⟩;rw[aCr];have e3:oX mask 13 (yY,zBC h)=((oX mask 13 (yY,zBC h)).1,0):=by rw[<-e1]
 rw[e3,aCp];exact ek
def aAL(hi:i<=mask):i<=zB4 mask i/\zB4 mask i<=mask/\zB4 mask i<=i+9:=by
 unfold zB4;split<;>lia
section
variable{t:zDK}{n:Nat}{hashAt:Nat->Int}{h:Int}
abbrev aFR(t:zDK)(i pert:Nat):zFa:={j:=i,more:=zB4 t.mask i-i,i:=i,perturb:=pert,dummy:=none}
def aJH(fuel:Nat)(p:zFa):zCF t hashAt h (fuel+1) p=(match t.slot p.j with
  | .empty=>some (.empty p.j p.dummy)
  | .dummy=>zCF t hashAt h fuel (t.advance {p with dummy:=some p.j})
  | .live i=>if hashAt i==h then some (.candidate p.j i (t.advance p))else zCF t hashAt h fuel (t.advance p)):=rfl
theorem aJG(T:gr t n)(hh:∀i,i<n->hashAt i≠h):∀(m fuel:Nat) (p:zFa),p.more=m->p.dummy=none->
  (∃j,p.j<=j/\j<=p.j+m/\t.slot j= .empty/\zCF t hashAt h (fuel+m+1) p=some (.empty j none))\/
  (t.slot p.j≠.empty/\zCF t hashAt h (fuel+m+1) p=zCF t hashAt h fuel (aFR t (zBX t.mask p.i p.perturb).1 (zBX t.mask p.i p.perturb).2))
 |0,fuel,p,hm,hd=>by
  rw[show fuel+0+1=fuel+1 from rfl,aJH];rcases aAk T p.j with e|⟨i,hi,e,_⟩
  .rw[e]
   exact .inl ⟨p.j,zAT _,zAT _,e,by rw[hd]⟩
  .rw[e]
   right;refine⟨by simp,?_⟩;dsimp only;rw[if_neg (by simpa using hh i hi)];congr 1;unfold zHA;rw[if_neg (by lia)];simp[aFR,hd]
 |m+1,fuel,p,hm,hd=>by
  rw[aJH];rcases aAk T p.j with e|⟨i,hi,e,_⟩
  .rw[e]
   exact .inl ⟨p.j,zAT _,by lia,e,by rw[hd]⟩
  .rw[e]
   dsimp only;rw[if_neg (by simpa using hh i hi)];have ha:t.advance p={p with j:=p.j+1,more:=p.more-1}:=by
    unfold zHA;rw[if_pos (by lia)]
   rw[ha];rcases aJG T hh m fuel {p with j:=p.j+1,more:=p.more-1} (by show p.more-1=m;lia) hd with ⟨j,q1,q2,q3,q4⟩|⟨q1,q2⟩
   .exact .inl ⟨j,by show p.j<=j;have:p.j+1<=j:=q1;lia,by have:j<=p.j+1+m:=q2;lia,q3,q4⟩
   .exact .inr ⟨by simp,q2⟩
theorem aGA(T:gr t n)(hh:∀i,i<n->hashAt i≠h):∀(N fuel i pert:Nat),i<=t.mask->10*N<=fuel->
  (∃j,j<=t.mask/\t.slot j= .empty/\zCF t hashAt h fuel (aFR t i pert)=some (.empty j none))\/∀k,k<N->t.slot (oX t.mask k (i,pert)).1≠.empty
 |0,fuel,i,pert,hi,hf=>.inr λ k hk=>by lia
 |N+1,fuel,i,pert,hi,hf=>by
  obtain⟨r1,r2,r3⟩:=aAL hi;obtain⟨f',rfl⟩:∃f',fuel=f'+(zB4 t.mask i-i)+1:=⟨fuel-(zB4 t.mask i-i)-1,by lia⟩
  rcases aJG T hh (zB4 t.mask i-i) f' (aFR t i pert) rfl rfl with ⟨j,q1,q2,q3,q4⟩|⟨q1,q2⟩
  .exact .inl ⟨j,by have:j<=i+(zB4 t.mask i-i):=q2;lia,q3,q4⟩
  .have hl:(zBX t.mask i pert).1<=t.mask:=zCq (zEL _ (zDw _))
   rcases aGA T hh N f' _ (zBX t.mask i pert).2 hl (by lia)with ⟨j,s1,s2,s3⟩|s
   .exact .inl ⟨j,s1,s2,q2.trans s3⟩
   .right
    intro k hk;cases k with
    |zero=>exact q1
    |succ k=>exact s k (by lia)
def gr.mask3(T:gr t n):t.mask=7\/t.mask=31\/t.mask=127:=by
 rcases T.msk with ⟨e,_⟩|⟨e,_⟩|⟨e,_⟩
 .exact .inl e
 .exact .inr (.inl e)
 .exact .inr (.inr e)
def aEF(T:gr t n)(hh:∀i,i<n->hashAt i≠h):∃j,j<=t.mask/\t.slot j= .empty/\t.probe hashAt h (t.probeStart h)=some (.empty j none):=by
 have hs:zBC h%(t.mask+1)<=t.mask:=zCq (zEL _ (zDw _));rcases aGA T hh (t.mask+15) (10*zDN t.mask) _ (zBC h) hs (by unfold zDN;lia)with z|z
 .exact z
 .exfalso
  have kX:∀x∈zAu (t.mask+1),x∈t.place.toList:=by
   intro x hx;simp only[zCP]at hx;obtain⟨k,hk,ek⟩:=aCq T.mask3 h (t:=x) (by lia) (zBC h%(t.mask+1))
   have:=z k hk
   rw[ek]at this;rcases aAk T x with e|⟨i,hi,_,e⟩
   .exact absurd e this
   .rw[<-e]
    have hi':i<t.place.size:=by rw[T.siz];exact hi
    rw[show t.place.getD i 0=t.place[i]by simp[zCi,hi']];exact Array.getElem_mem_toList hi'
  have:=sub_len zHv kX
  have h2:=T.few;rw[zFU,zA9,T.siz]at this;lia
end
def xG(xs:Array α)(p:Nat)(x d:α)(hp:p<=xs.size)(i:Nat):(zBO xs p x).getD i d=if i<p then xs.getD i d else if i=p then x else xs.getD (i-1) d:=by
 have e:∀(ys:Array α) i,ys.getD i d=(ys.toList[i]?).getD d:=λ ys i=>by rw[zCB,zBp]
 rw[e,e,e,SetTable.toList_insertAt];have hl:p<=xs.toList.length:=by simpa using hp
 by_cases h1:i<p
 .rw[if_pos h1,zBo (by rw[zBQ];lia),List.getElem?_take,if_pos h1]
 .rw[if_neg h1,zCp (by rw[zBQ];lia),zBQ,Nat.min_eq_left hl]
  by_cases h2:i=p
  .rw[if_pos h2,h2,zGw]
   rfl
  .rw[if_neg h2,show i-p=(i-p-1)+1 by lia,zC3,List.getElem?_drop]
   congr 2;lia
def uG(xs:Array α)(p:Nat)(x:α):(zBO xs p x).size=xs.size+1:=by
 rw[<-zA9,(zFw xs p x).length_eq,zFP];simp
def v8{t:zDK}(hf:t.fill=n):t.tooFull=decide (t.mask*3<=n*5):=by unfold SetTable.tooFull;rw[hf]
structure qJ(t:zDK)(n:Nat):Prop where
 dum:t.dummies=#[]
 siz:t.place.size=n
 ris:Ris t.place
 top:∀i,i<n->t.place.getD i 0<=t.mask
 msk:t.mask=7/\n<=5\/t.mask=31/\n<=19\/t.mask=127/\n<77
 pla:t.plain=true
theorem qJ.fill(h:qJ t n):t.fill=n:=by unfold zHf;rw[h.dum,h.siz];rfl
theorem qJ.fits(h:qJ t n):t.fits n=true:=by
 unfold zHg;rw[h.fill,h.siz]
 have:=h.msk
 simp;lia
def aMs(T:gr t n)(h64:n<76)(hj:j<=t.mask)(he:t.slot j= .empty):qJ (t.put j).1 (n+1)/\(t.put j).2=zAm t.place j/\(t.put j).2<=n/\(t.put j).1.mask=t.mask/\(t.put j).1.led=t.led:=by
 have hno:=aH9 T he;obtain⟨b1,b2,b3⟩:=uc T.ris j;have hsz:=T.siz;have hg:=xG t.place (zAm t.place j) j 0 b1;refine⟨⟨?_,?_,?_,?_,?_,T.pla⟩,rfl,by rw[<-hsz];exact b1,rfl,rfl⟩
 .show(if zEP t.dummies j then SetTable.eraseAt t.dummies (zAm t.dummies j)else t.dummies)=#[]
  rw[T.dum]
  have:zEP #[] j=false:=by unfold zEP;simp
  rw[this];rfl
 .show(zBO t.place _ j).size=n+1
  rw[uG,hsz]
 .intro a b hab hb
  have hb':b<n+1:=by
   have:b<(zBO t.place (zAm t.place j) j).size:=hb
   rw[uG,hsz]at this;exact this
  show(zBO t.place (zAm t.place j) j).getD a 0<(zBO t.place (zAm t.place j) j).getD b 0
  rw[hg,hg];by_cases a1:a<zAm t.place j
  .rw[if_pos a1]
   by_cases c1:b<zAm t.place j
   .rw[if_pos c1];exact T.ris a b hab (by lia)
   .rw[if_neg c1]
    by_cases c2:b=zAm t.place j
    .rw[if_pos c2];exact b2 a a1
    .rw[if_neg c2]
     exact T.ris a (b-1) (by lia) (by lia)
  .rw[if_neg a1,if_neg (show¬b<zAm t.place j by lia),if_neg (show¬b=zAm t.place j by lia)]
   by_cases a2:a=zAm t.place j
   .rw[if_pos a2]
    have q1:=b3 (b-1) (by lia) (by lia);have q2:=hno (b-1) (by lia);lia
   .rw[if_neg a2]
    exact T.ris (a-1) (b-1) (by lia) (by lia)
 .intro i hi
  show(zBO t.place (zAm t.place j) j).getD i 0<=t.mask
  rw[hg];split
  .exact T.top i (by lia)
  .split
   .exact hj
   .exact T.top (i-1) (by lia)
 .have:=T.msk
  show t.mask=7/\n+1<=5\/t.mask=31/\n+1<=19\/t.mask=127/\n+1<77;lia
def qJ.still{t:zDK}(h:qJ t n)(hf:t.tooFull=false):gr t n:=by
 rw[v8 h.fill]at hf;simp only[decide_eq_false_iff_not]at hf;refine⟨h.dum,h.siz,h.ris,h.top,?_,h.pla⟩;rcases h.msk with ⟨e,l⟩|⟨e,l⟩|⟨e,l⟩<;>rw[e]at hf
 .exact .inl ⟨e,by lia⟩
 .exact .inr (.inl ⟨e,by lia⟩)
 .exact .inr (.inr ⟨e,by lia⟩)
def qJ.full{t:zDK}(h:qJ t n)(h64:n<=76)(hf:t.tooFull=true):n=5\/n=19:=by
 rw[v8 h.fill]at hf;simp only[decide_eq_true_eq]at hf
 have:=h.msk
 lia
def heldBy(owner:Array (Option Nat)):List Nat:=owner.toList.filterMap id
theorem yj:∀(l:hV) (j x:Nat),l[j]? =some none->((l.set j (some x)).filterMap id).Perm (x::l.filterMap id)
 |[],j,x,h=>by simp at h
 |a::l,0,x,h=>by
  simp at h;subst h;exact zBM _
 |none::l,j+1,x,h=>by
  have ih:=yj l j x (by simpa using h);simpa using ih
 |some a::l,j+1,x,h=>by
  have ih:=yj l j x (by simpa using h)
  have:(((some a::l).set (j+1) (some x)).filterMap id).Perm (a::x::l.filterMap id):=by
   simpa using ih.cons a
  exact this.trans (zDe _ _ _)
theorem aAW:∀(l:hV),(∀j,j<l.length->∃x,l[j]? =some (some x))->(l.filterMap id).length=l.length
 |[],_=>rfl
 |a::l,h=>by
  obtain⟨x,e⟩:=h 0 (by simp);have ex:a=some x:=by simpa using e
  subst ex;have ih:=aAW l λ j hj=>by simpa using h (j+1) (by simpa using hj)
  simp[ih]
theorem aGD(ho:owner.size=mask+1):∀(N i pert:Nat),i<=mask->
  (∃j,owner.toList[j]? =some none/\zCN mask owner N i pert=some j)\/∀k,k<N->∃x,owner.toList[(oX mask k (i,pert)).1]? =some (some x)
 |0,i,pert,hi=>.inr λ k hk=>by lia
 |N+1,i,pert,hi=>by
  obtain⟨r1,r2,r3⟩:=aAL hi;have e8:zCN mask owner (N+1) i pert=(match (zAu (zB4 mask i+1-i)).find? λ k=>(owner.getD (i+k) (some 0)).isNone with
   |some k=>some (i+k)
   |none=>zCN mask owner N (zBX mask i pert).1 (zBX mask i pert).2):=rfl
  rw[e8];cases hf:(zAu (zB4 mask i+1-i)).find? λ k=>(owner.getD (i+k) (some 0)).isNone with
  |some k=>
   left;have h1:=List.mem_of_find?_eq_some hf;have h2:=List.find?_some hf;simp only[zCP]at h1;have hlt:i+k<owner.size:=by lia
   refine⟨i+k,?_,rfl⟩;have e:owner.getD (i+k) (some 0)=owner[i+k]:=by simp[zCi,hlt]
   rw[e]at h2;rw[zBp,zCk];exact⟨hlt,by simpa using h2⟩
  |none=>
   have h0:=List.find?_eq_none.mp hf 0 (by simp;lia);have hlt:i<owner.size:=by lia
   have e:owner.getD (i+0) (some 0)=owner[i]:=by simp[zCi,hlt]
   rw[e]at h0;have hl:(zBX mask i pert).1<=mask:=zCq (zEL _ (zDw _));rcases aGD ho N _ (zBX mask i pert).2 hl with ⟨j,s1,s2⟩|s
   .exact .inl ⟨j,s1,s2⟩
   .right
    intro k hk;cases k with
    |zero=>
     show∃x,owner.toList[i]? =some (some x)
     rw[zBp];cases q:owner[i]with
     |none=>rw[q]at h0;simp at h0
     |some x=>exact⟨x,by rw[zCk];exact⟨hlt,q⟩⟩
    |succ k=>exact s k (by lia)
def aGv(hm:mask=7\/mask=31\/mask=127)(ho:owner.size=mask+1)(hfew:(heldBy owner).length<mask+1)(h:Int):
  ∃j,owner.toList[j]? =some none/\zCN mask owner (zDN mask) (zBC h%(mask+1)) (zBC h)=some j:=by
 rcases aGD ho (zDN mask) _ (zBC h) (zCq (zEL (zBC h) (zDw mask)))with z|z
 .exact z
 .exfalso
  have:=aAW owner.toList λ j hj=>by
   rw[zA9,ho]at hj;obtain⟨k,hk,ek⟩:=aCq hm h (t:=j) (by lia) (zBC h%(mask+1));obtain⟨x,e⟩:=z k (by unfold zDN;lia);rw[ek]at e;exact⟨x,e⟩
  unfold heldBy at hfew;rw[this,zA9]at hfew;lia
def xF(mask:Nat)(acc:Option (Array (Option Nat)×Nat))(h:Int):Option (Array (Option Nat)×Nat):=do
 let(owner,k) <-acc
 let j <-zCN mask owner (zDN mask) (zBC h%(mask+1)) (zBC h)
 pure (owner.setIfInBounds j (some k),k+1)
theorem aCv(hm:mask=7\/mask=31\/mask=127):∀(hs:List Int) (owner:Array (Option Nat)) (k:Nat),owner.size=mask+1->(heldBy owner).Perm (zAu k)->k+hs.length<=mask->
  ∃owner',hs.foldl (xF mask) (some (owner,k))=some (owner',k+hs.length)/\owner'.size=mask+1/\(heldBy owner').Perm (zAu (k+hs.length))
 |[],owner,k,ho,hp,hl=>⟨owner,rfl,ho,hp⟩
 |h::hs,owner,k,ho,hp,hl=>by
  rw[zA6]at hl;obtain⟨j,e1,e2⟩:=aGv hm ho (by rw[hp.length_eq,zFU];lia) h;have hst:xF mask (some (owner,k)) h=some (owner.setIfInBounds j (some k),k+1):=by
   unfold xF;simp[e2]
  rw[zCT,hst];obtain⟨o',f1,f2,f3⟩:=aCv hm hs (owner.setIfInBounds j (some k)) (k+1) (by simpa using ho) (by
   unfold heldBy;rw[Array.toList_setIfInBounds];refine(yj owner.toList j k e1).trans ?_;rw[zIN];exact(List.Perm.cons k hp).trans (List.perm_append_singleton k _).symm) (by lia)
  refine⟨o',?_,f2,?_⟩
  .rw[f1,zA6,show k+1+hs.length=k+(hs.length+1)by lia]
  .rw[zA6,show k+(hs.length+1)=k+1+hs.length by lia]
   exact f3
def aJE(m:Nat):heldBy (zFc m none)=[]:=by
 unfold heldBy;rw[Array.toList_replicate];induction m with
 |zero=>rfl
 |succ m ih=>rw[zBl];simpa using ih
def aCw(hm:mask=7\/mask=31\/mask=127)(hs:Array Int)(hl:hs.size<=mask):∃owner,zGp mask hs=some owner/\owner.size=mask+1/\(heldBy owner).Perm (zAu hs.size):=by
 obtain⟨o',f1,f2,f3⟩:=aCv hm hs.toList (zFc (mask+1) none) 0 (by simp) (by rw[aJE];exact zBM _) (by simpa using hl);refine⟨o',?_,f2,by simpa using f3⟩;have e:zGp mask hs=(hs.foldl (xF mask) (some (zFc (mask+1) none,0))).map (·.1):=rfl;rw[e,<-Array.foldl_toList,f1];rfl
def mK(owner:Array (Option Nat))(m:Nat):List (Nat×Nat):=(zAu m).filterMap λ j=>(owner.getD j none).map (j,·)
theorem aCi:∀(l:hV) (b:Nat) (f:Nat->Option Nat),(∀i,i<l.length->f (b+i)=(l[i]?).getD none)->
  ((zHH b l.length).filterMap λ j=>(f j).map (j,·)).map (·.2)=l.filterMap id
 |[],_,_,_=>rfl
 |a::l,b,f,h=>by
  have h0:=h 0 (by simp);simp at h0;have ih:=aCi l (b+1) f λ i hi=>by
   have:=h (i+1) (by simpa using hi)
   rw[show b+(i+1)=b+1+i by lia]at this;simpa using this
  rw[zA6,zHw,zBj,h0];cases a with
  |none=>simpa using ih
  |some x=>simpa using ih
def aEX(owner:Array (Option Nat)):(mK owner owner.size).map (·.2)=heldBy owner:=by
 have:=aCi owner.toList 0 (λ j=>owner.getD j none) λ i hi=>by
  rw[zF9,zCB,zBp]
 unfold mK heldBy;rw[zGu,<-this,zA9]
theorem aCj(f:Nat->Option Nat):∀(m b:Nat),(((zHH b m).filterMap λ j=>(f j).map (j,·)).map (·.1)).Pairwise (·< ·)/\∀x∈((zHH b m).filterMap λ j=>(f j).map (j,·)).map (·.1),b<=x/\x<b+m
 |0,b=>⟨.nil,λ x hx=>by simp at hx⟩
 |m+1,b=>by
  obtain⟨ih1,ih2⟩:=aCj f m (b+1);rw[zHw,zBj];cases hf:f b with
  |none=>
   simp only[zHc];exact⟨ih1,λ x hx=>by have:=ih2 x hx;lia⟩
  |some y=>
   simp only[zDE,zAM];refine⟨zAg.mpr ⟨λ x hx=>by have:=ih2 x hx;lia,ih1⟩,λ x hx=>?_⟩;rcases zAL.mp hx with e|hx
   .lia
   .have:=ih2 x hx
    lia
def aMm{l:List Nat}(h:l.Pairwise (·< ·)):Ris l.toArray:=by
 intro i j hij hj;have hj':j<l.length:=by simpa using hj
 have e:∀k,k<l.length->l.toArray.getD k 0=l[k]!:=λ k hk=>by simp[zCi,hk]
 have:=zAx.mp h i j (by lia) hj' hij
 simp[zCi,hj',show i<l.length by lia];exact this
def aHu{t:zDK}(hp:t.plain=true)(hn:n=5\/n=19)(hs:Array Int)(hl:hs.size=n):
  ∃t' order,t.relaid hs (zFb n)=some (t',order)/\gr t' n/\t'.led=t.led/\order.toList.Perm (zAu n):=by
 have hm:∃mask,SetTable.sizeAbove (zFb n)-1=mask/\(mask=31/\n=5\/mask=127/\n=19):=by
  rcases hn with e|e<;>subst e
  .exact⟨31,by decide,.inl ⟨rfl,rfl⟩⟩
  .exact⟨127,by decide,.inr ⟨rfl,rfl⟩⟩
 obtain⟨mask,em,hmn⟩:=hm;have hm3:mask=7\/mask=31\/mask=127:=by lia
 obtain⟨owner,o1,o2,o3⟩:=aCw hm3 hs (by lia);have hsnd:=aEX owner;obtain⟨r1,r2⟩:=aCj (λ j=>owner.getD j none) (mask+1) 0;rw[<-zGu]at r1 r2;have kQ:((mK owner (mask+1)).map (·.1)).length=n:=by
  rw[zAE,<-zAE (f:=(·.2)),<-o2,hsnd,o3.length_eq,zFU,hl]
 refine⟨{mask:=mask,place:=((mK owner (mask+1)).map (·.1)).toArray,dummies:=#[],finger:=t.finger,led:=t.led,moves:=t.movedTo mask,plain:=t.plain},((mK owner (mask+1)).map (·.2)).toArray,?_,⟨rfl,?_,aMm r1,?_,?_,hp⟩,rfl,?_⟩
 .unfold SetTable.relaid SetTable.laid
  rw[em,o1];rfl
 .simpa using kQ
 .intro i hi
  have hi':i<((mK owner (mask+1)).map (·.1)).length:=by rw[kQ];exact hi
  show((mK owner (mask+1)).map (·.1)).toArray.getD i 0<=mask
  have:((mK owner (mask+1)).map (·.1)).toArray.getD i 0=((mK owner (mask+1)).map (·.1))[i]:=by
   rw[zCB,List.getElem?_toArray,zAD hi'];rfl
  rw[this]
  have:=r2 _ (zCH hi')
  lia
 .show mask=7/\n<5\/mask=31/\n<19\/mask=127/\n<77
  lia
 .show((mK owner (mask+1)).map (·.2)).Perm (zAu n)
  rw[<-o2,hsnd,<-hl];exact o3
abbrev bW(es:Array (Int×Value))(ep:Nat)(t:zDK):Obj:={cls:=.type "set",dict:=none,data:=.set es ep t}
structure TupAt(h:Heap)(x:Addr)(ns:List Int):Prop where
 ex:∃o xs k,h.get? x=some o/\o.cls= .type "tuple"/\o.data= .seq xs k/\zBL xs.toList ns
section
variable{prog:zA7}{w:World}{A:zAk}{E:Value->zAG->Prop}{s:zAG}
def aH1(ho:s.heap.get? a=some (bW es ep t))(hz:es'.size<=4000)
  (h:(s.heap.update a (zHz es' t')).get? a=some (bW es' (ep+1) t')->Q () {s with heap:=s.heap.update a (zHz es' t')}):wpAny (model prog w) A (storeSet a es' t') Q E s:=by
 refine wpAny_storeSet_of ho rfl (h ?_) (by rw[zBz];lia)
 have:=zDW (zHz es' t') ho (by rw[putSet_of es' t' rfl];rfl)
 rw[putSet_of es' t' rfl]at this;exact this
end
end VL
namespace PySem
section
variable{prog:zA7}{w:World}{A:zAk}{E:Value->zAG->Prop}{s:zAG}
def aHg(a:Value)(h:Q₁ (.ref s.heap.objs.size) {s with heap:=s.heap.push (VL.bW #[] 0 (.fresh 0 0 (!w.params.followText "set-order")))}):
  zCZ (model prog w) A (.call (.builtin "set.__new__") ⟨[.type "set",a],[]⟩) (wants Q₁ E) s:=by
 refine codeAny_of_tree ?_;show wpAny _ A.in1 (zGT "set.__new__" ⟨[.type "set",a],[]⟩>>=λ _=>again (.builtin "set.__new__" ⟨[.type "set",a],[]⟩)) _ _ s;refine zAB (zI6 (F.newCall_set_1 a) (zAK ⟨zFk zGO _,zCI PySem.F.entry_set_new ?_⟩));rw[zBw zGO _];unfold zDP.«set.__new__» zHm;have aS:=sub_set_self;obtain⟨hp,g,d,tk,os⟩:=s;dsimp only;wp_walk;refine zDo (zAK ?_);dsimp only;simp only[newObj];exact zAB (wpAny_alloc (zAK (zAK h)))
set_option maxHeartbeats 3200000 in
def lY{l:Addr}{T:String}{oI:Obj}{Φ:Heap->Prop}{Q:Value->zAG->Prop}(hty:s.TypeIs (.ref l) T)(hsls:isSubtype (.type T) (.type "set")=pure false)(hslf:isSubtype (.type T) (.type "frozenset")=pure false)(hne:(zCz T==zCz "dict")=false)
  (hit:∀(zD:Heap) (yA:zAk) (x9:Value->zAG->Prop) (Q₁:Value->zAG->Prop),(∀b o,s.heap.get? b=some o->zD.get? b=some o)->Q₁ (.ref zD.objs.size) {s with heap:=zD.push oI}->wpAny (model prog w) yA (zIJ (.ref l)) Q₁ x9 {s with heap:=zD})
  (hrun:∀R:zEb->zAG->Prop,(∀h' tk,Φ h'->(∀b o,s.heap.get? b=some o->h'.get? b=some o)->R (.ok (.ret .none)) {s with heap:=h',toks:=tk})->
   zCZ (model prog w) A.in1.in1 (.builtin "set.update.loop" ⟨[.ref s.heap.objs.size,.ref (s.heap.push (VL.bW #[] 0 (.fresh 0 0 (!w.params.followText "set-order")))).objs.size],[]⟩) R {s with heap:=(s.heap.push (VL.bW #[] 0 (.fresh 0 0 (!w.params.followText "set-order")))).push oI})
  (h:∀h' tk,Φ h'->(∀b o,s.heap.get? b=some o->h'.get? b=some o)->Q (.ref s.heap.objs.size) {s with heap:=h',toks:=tk}):
  wpAny (model prog w) A (call (.type "set") [.ref l]) Q E s:=by
 obtain⟨c,tl,hmro⟩:=zDG.mro;have hmade:=zDG.made;have aS:=zDG.sub
 refine wpAny_call (codeAny_of_tree ?_);show wpAny _ _ (callAny (.type "set") _) _ _ _;refine zAK ⟨zHK _ (by decide+kernel),zCI PySem.F.entry_type_call ?_⟩;rw[Around.under_plain (weight_type_call_type "set" [.ref l] []) rfl];have h1:=zDG.notType;have h2:=zDG.canCreate
 have hct:=F.typeCall_set_1 (.ref l);repeat (any_goals (first|assumption|wp_step))
 generalize hled:(!w.params.followText "set-order")=led at hrun;refine zDf (aHg (.ref l) (E:=E) (Q₁:=λ obj zI=>obj= .ref s.heap.objs.size/\zI={s with heap:=s.heap.push (VL.bW #[] 0 (.fresh 0 0 led))}) ⟨rfl,by rw[hled]⟩) λ r zI hr=>?_
 cases r with
 |error e=>exact hr
 |ok fl=>
  cases fl with
  |ret obj=>
   obtain⟨rfl,rfl⟩:=hr;have hS:(s.heap.push (VL.bW #[] 0 (.fresh 0 0 led))).get? s.heap.objs.size=some (VL.bW #[] 0 (.fresh 0 0 led)):=zAO _ rfl;have hT:zIT {s with heap:=s.heap.push (VL.bW #[] 0 (.fresh 0 0 led))} (.ref s.heap.objs.size) "set":=⟨_,hS,rfl⟩;have hli:=zDG.init.lookup;have hbi:=zDG.init.bind (.ref s.heap.objs.size)
   repeat (any_goals (first|assumption|wp_step))
   refine zDf (zFS (R:=wants (λ r z0=>r= .none/\∃h' tk,z0={s with heap:=h',toks:=tk}/\Φ h'/\(∀b o,s.heap.get? b=some o->h'.get? b=some o)) E) zDG.init.plain F.entry_set_init (check_set_init_1 hT ?_)) λ r₂ z0 hr₂=>?_
   .obtain⟨ol,hol,hcl⟩:=hty
    obtain⟨ocls,odict,odata,oslots⟩:=ol;simp only at hcl;subst hcl;have hol':(s.heap.push (VL.bW #[] 0 (.fresh 0 0 led))).get? l=some {cls:=.type T,dict:=odict,data:=odata,slots:=oslots}:=zAC _ hol;unfold zDP.«set.__init__» noKeywords zHp;generalize hPI:zIJ=PI;wp_walk;subst hPI;refine hit _ _ _ _ (λ b o e=>zAC _ e) (zAB (zHD (hrun _ λ h' tk g1 g2=>?_)));show wpAny _ _ _ _ _ _;refine zAK ?_;show wpAny _ _ (ret zBR) _ _ _;exact zAK ⟨rfl,h',tk,rfl,g1,g2⟩
   .cases r₂ with
    |error e=>exact hr₂
    |ok fl₂=>
     cases fl₂ with
     |ret r=>
      obtain⟨rfl,h',tk,rfl,g1,g2⟩:=hr₂
      repeat (any_goals (first|assumption|wp_step))
      exact h _ _ g1 g2
     |_=>exact hr₂.elim
  |_=>exact hr.elim
end
end PySem
namespace VL
open PySem PySem.Spec PyProof.Rows L2
theorem aDL:∀{l:List α} {i:Nat} (h:i<l.length),(l[i]::l.eraseIdx i).Perm l
 |a::l,0,_=>zBM _
 |a::l,i+1,h=>by
  have h':i<l.length:=by simpa using h
  have ih:=aDL (l:=l) (i:=i) h'
  show(l[i]::a::l.eraseIdx i).Perm (a::l)
  exact(zDe _ _ _).trans (ih.cons a)
theorem aF1(next:Nat->Nat):∀(f k:Nat) (left:List α) (out:Array α),left.length<=f->(pickOrder.go next f k left out).toList.Perm (out.toList++left)
 |0,k,left,out,h=>by
  have:left=[]:=zGX.mp (by omega)
  subst this;rw[zAe];exact zBM _
 |f+1,k,left,out,h=>by
  unfold pickOrder.go;cases left with
  |nil=>simp
  |cons a l=>
   have hlt:next k%(a::l).length<(a::l).length:=zEL _ (by simp)
   rw[zAD hlt];dsimp only;refine(aF1 next f (k+1) _ _ (by rw[List.length_eraseIdx];simp only[hlt,if_true];simp at h ⊢;omega)).trans ?_;rw[zFP,zAt];exact List.Perm.append_left _ (aDL hlt)
def aG5(next:Nat->Nat)(xs:Array α):(pickOrder next xs).toList.Perm xs.toList:=by
 have:=aF1 next xs.size 0 xs.toList #[] (by simp)
 unfold pickOrder;simpa using this
def sG(w:World)(d:Addr)(ep:Nat)(es:Array (Int×Value)):Array (Int×Value):=if w.params.followText "set-order" then pickOrder (w.params.setOrder d ep) es else es
def qN(w:World)(d:Addr)(ep:Nat)(es:Array (Int×Value)):(sG w d ep es).toList.Perm es.toList:=by
 unfold sG;split
 .exact aG5 _ _
 .exact zBM _
def slotAt(w:World)(t:zDK):Nat->Nat
 |0=>0
 |i+1=>if w.params.followText "set-order" then 0 else t.place.getD i 0+1
def aEo(T:gr t n)(hf:w.params.followText "set-order"=false):∀i,i<=n->zAm t.place (slotAt w t i)=i
 |0,_=>by
  obtain⟨b1,b2,b3⟩:=uc T.ris 0;show zAm t.place 0=0;cases h:zAm t.place 0 with
  |zero=>rfl
  |succ k=>
   rw[h]at b2
   have:=b2 0 (by omega)
   omega
 |i+1,hi=>by
  unfold slotAt;rw[hf];simp only[zAz,if_false];obtain⟨b1,b2,b3⟩:=uc T.ris (t.place.getD i 0+1);have hs:=T.siz;rcases zEK (zAm t.place (t.place.getD i 0+1)) (i+1)with z|z|z
  .have:=b3 i (by omega) (by omega)
   omega
  .exact z
  .have h1:=b2 (i+1) (by omega)
   have h2:=T.ris i (i+1) (by omega) (by omega);omega
section
variable{prog:zA7}{w:World}{A:zAk}{E:Value->zAG->Prop}{s:zAG}{d:Addr}{es:Array (Int×Value)}{ep:Nat}{t:zDK}
def xY(ho:s.heap.get? d=some (bW es ep t))(T:gr t es.size)(hled:t.led= !w.params.followText "set-order")(hi:i<=es.size)
  (h:Q (((sG w d ep es)[i]?).map λ e=>(e.2,slotAt w t (i+1))) s):wpAny (model prog w) A (setNext d (slotAt w t i) i ep) Q E s:=by
 unfold setNext;refine zAB (zCx ho rfl T.fits ?_);dsimp only;unfold zIv;refine zAB (zAB (zDo (zAK ?_)));show wpAny _ _ (if w.params.followText "set-order"=true then _ else _) _ _ _;unfold sG at h;cases hf:w.params.followText "set-order" with
 |true=>
  rw[hf]at h;simp only[if_true]at h ⊢;simp only[bne_self_eq_false,zAz,if_false];unfold setWalk;refine zAB (zAB (zCx ho rfl T.fits ?_));dsimp only;unfold zIv;refine zAB (zAB (zDo (zAK ?_)));show wpAny _ _ (if w.params.followText "set-order"=true then _ else _) _ _ _;rw[hf];simp only[if_true];refine zAB (zDo (zAK (zAK ?_)));have e1:slotAt w t (i+1)=slotAt w t i:=by
   unfold slotAt;cases i with
   |zero=>simp[hf]
   |succ i=>simp[hf]
  rw[e1]at h;exact h
 |false=>
  rw[hf]at h hled;simp only[zAz,if_false]at h ⊢;have hd:(!t.plain&&decide (es.size>1))=false:=by rw[T.pla];rfl
  show wpAny _ _ (if (!t.plain&&decide (es.size>1))=true then _ else _) _ _ _;rw[hd];simp only[zAz,if_false];refine zAB ?_;show wpAny _ _ (if (!t.led&& !es.isEmpty)=true then _ else _) _ _ _;rw[hled];simp only[zEe,zFD,zDv,zAz,if_false];refine zAK ?_;rw[aEo T hf i hi];have hslot:slotAt w t (i+1)=t.place.getD i 0+1:=by unfold slotAt;rw[hf];rfl
  rw[hslot]at h;by_cases hlt:i<es.size
  .have h1:es[i]? =some es[i]:=zCs hlt
   have hlt2:i<t.place.size:=by rw[T.siz];exact hlt
   have h2:t.place[i]? =some (t.place.getD i 0):=by
    rw[zCs hlt2];simp[zCi,hlt2]
   rw[h1,h2];rw[h1]at h;exact zAK h
  .have h1:es[i]? =none:=zGW (by omega)
   rw[h1];rw[h1]at h;exact zAK h
def cA:PySem.Slot "set_iterator" "__next__" "set_iterator.__next__":=
 .of (owner:="set_iterator") (n:="__next__") (by rw[typeLookup_type,zIF];kernel_rfl) (by decide+kernel) (by decide+kernel) (by decide+kernel) (.inl (by decide+kernel)) (by rw[zHB];kernel_rfl)
def lJ:PySem.Slot "set_iterator" "__iter__" "set_iterator.__iter__":=
 .of (owner:="set_iterator") (n:="__iter__") (by rw[typeLookup_type,zIF];kernel_rfl) (by decide+kernel) (by decide+kernel) (by decide+kernel) (.inl (by decide+kernel)) (by rw[zHB];kernel_rfl)
def km:entryFor table "set_iterator.__next__"=some zDP.«set_iterator.__next__»:=entryFor_of_fast (by kernel_rfl)
def sV:entryFor table "set_iterator.__iter__"=some zDP.«dict_keyiterator.__iter__»:=entryFor_alias (id':="dict_keyiterator.__iter__") (by kernel_rfl) rfl (by decide+kernel) (by kernel_rfl)
def wY:entryFor table "set.__iter__"=some zDP.«frozenset.__iter__»:=entryFor_alias (id':="frozenset.__iter__") (by kernel_rfl) rfl (by decide+kernel) (by kernel_rfl)
def lZ(a:Value):argsOk "set_iterator.__next__" ⟨[a],[]⟩:=by unfold argsOk;kernel_rfl
def ud(a:Value):argsOk "set_iterator.__iter__" ⟨[a],[]⟩:=by unfold argsOk;kernel_rfl
end
section
variable{prog:zA7}{w:World}{A:zAk}{E:Value->zAG->Prop}{s:zAG}{d I:Addr}{es:Array (Int×Value)}{ep:Nat}{t:zDK}{i':Nat}
abbrev aIs(d:Addr)(sl i n ep:Nat):Obj:={cls:=.type "set_iterator",data:=.fields #[.int sl 0,.int i 0,.ref d,.int n 0,.int ep 0]}
def aLu(h:Heap)(I d:Addr)(sl i n ep:Nat):Prop:=h.get? I=some (aIs d sl i n ep)
def aIq{h:Heap}{sl i n ep k:Nat}(e:h.get? I=some {cls:=.type "set_iterator",data:=.fields vs}):(h.update I (zIo (·.setIfInBounds k x))).get? I=some {cls:=.type "set_iterator",data:=.fields (vs.setIfInBounds k x)}:=by
 have:=zDW (zIo (·.setIfInBounds k x)) e (zGx (zFQ rfl _))
 rw[this];rfl
def aDq(hI:aLu s.heap I d (slotAt w t i') i' es.size ep)(ho:s.heap.get? d=some (bW es ep t))(T:gr t es.size)(hled:t.led= !w.params.followText "set-order"){v:Value}(hi:i'<es.size)(hv:((sG w d ep es)[i']?).map (·.2)=some v){Q:Option Value->zAG->Prop}
  (h:∀h',aLu h' I d (slotAt w t (i'+1)) (i'+1) es.size ep->zE0 I s.heap h'->Q (some v) {s with heap:=h'}):wpAny (model prog w) A (zEz (.ref I)) Q E s:=by
 have hT:s.TypeIs (.ref I) "set_iterator":=⟨_,hI,rfl⟩;unfold zEz;refine zAB (zFm (zBW (name:=zDF "__next__") hT cA (zBV cA hT km ?_ (lZ _))));show wpAny _ _ (fieldsOf (.ref I)>>=_) _ _ s;refine zAB (wpAny_fieldsOf hI rfl ?_);dsimp only;refine zAB ?_;unfold setEntries;refine zAB (zCx ho rfl T.fits (zAK ?_));simp only[bne_self_eq_false,zAz,if_false];refine zAB ?_;simp only[zCX];refine xY ho T hled (zB1 hi) ?_;cases hq:(sG w d ep es)[i']? with
 |none=>rw[hq]at hv;cases hv
 |some e=>
  rw[hq]at hv;cases hv;dsimp only[zDE];refine zAB (zEV hI rfl (by simp) ?_);have e1:=aIq (h:=s.heap) (I:=I) (k:=0) (x:=zIK (slotAt w t (i'+1))) (sl:=0) (i:=0) (n:=0) (ep:=0) hI;refine zAB (zEV e1 rfl (by simp) ?_);have e2:=aIq (k:=1) (x:=zIK (i'+1)) (sl:=0) (i:=0) (n:=0) (ep:=0) e1;exact zAK ⟨_,rfl,zAK (h _ e2 ((zB6 ..).trans (zB6 ..)))⟩
def aGU(hh:A.handled=none)(hI:aLu s.heap I d (slotAt w t es.size) es.size es.size ep)(ho:s.heap.get? d=some (bW es ep t))(T:gr t es.size)(hled:t.led= !w.params.followText "set-order")
  (h:∀h',zFp I s.heap h'->Q none {s with heap:=h'}):wpAny (model prog w) A (zEz (.ref I)) Q E s:=by
 have hT:s.TypeIs (.ref I) "set_iterator":=⟨_,hI,rfl⟩;unfold zEz;refine zAB (zFm (zBW (name:=zDF "__next__") hT cA (zBV cA hT km ?_ (lZ _))));show wpAny _ _ (fieldsOf (.ref I)>>=_) _ _ s;refine zAB (wpAny_fieldsOf hI rfl ?_);dsimp only;refine zAB ?_;unfold setEntries;refine zAB (zCx ho rfl T.fits (zAK ?_));simp only[bne_self_eq_false,zAz,if_false];refine zAB ?_;simp only[zCX];refine xY ho T hled (zAT _) ?_;have hq:(sG w d ep es)[es.size]? =none:=zGW (by
  have:=(qN w d ep es).length_eq
  rw[zA9,zA9]at this;lia)
 rw[hq];dsimp only[zHc];refine zAB (zEV hI rfl (by simp) ?_);show wpAny _ _ (newExc (.type "StopIteration") []>>=_) _ _ _;refine zAB ?_;simp only[newExc,newTuple];refine zAB (zBF (zAB (m:=zFW _ _) (zI6 (a:=zBR) (by first|rfl|(simp only[zFW];rfl)) (zBF ?_ (by size_fits)))) (by size_fits));simp only[raiseNew];refine zAB (wpAny_handled ?_);rw[show A.in1.handled=none from hh];refine zAB (zAK (wpAny_throw ?_));refine zAB (zGV (T:="StopIteration") (b:=true) ⟨_,zAO _ rfl,rfl⟩ isSubtype_stop ?_);exact zAK (h _ (((zB6 ..).extBut.push _).push _))
def aGN(hh:A.handled=none)(I d:Addr)(hne:d≠I)(es:Array (Int×Value))(ep:Nat)(t:zDK)(T:gr t es.size)(hled:t.led= !w.params.followText "set-order"):
  Walks prog w A I [I,d] [I] es.size (λ i v=>((sG w d ep es)[i]?).map (·.2)=some v) (λ i h=>aLu h I d (slotAt w t i) i es.size ep/\h.get? d=some (bW es ep t)) where
 sub:=λ b hb=>by simp at hb;simp[hb]
 frame:=λ _ _ _ st hk=>⟨hk I (by simp) _ st.1,hk d (by simp) _ st.2⟩
 item:=λ i s Q E hi st hQ=>by
  have hl:i<(sG w d ep es).size:=by
   have:=(qN w d ep es).length_eq
   rw[zA9,zA9]at this;lia
  have hv:((sG w d ep es)[i]?).map (·.2)=some (sG w d ep es)[i].2:=by rw[zCs hl];rfl
  refine aDq st.1 st.2 T hled hi hv λ h' hI' hs'=>?_
  exact hQ _ h' s.toks hv ⟨hI',by rw[hs'.2 d hne];exact st.2⟩ λ b o hb e=>hs'.extBut b o (λ h=>hb (by simp[h])) e
 done:=λ s Q E st hQ=>aGU hh st.1 st.2 T hled λ h' he'=>hQ h' s.toks λ b o hb e=>he' b o (λ h=>hb (by simp[h])) e
 self:=λ i s Q E st hQ=>by
  have hT:s.TypeIs (.ref I) "set_iterator":=⟨_,st.1,rfl⟩;refine zIz hT lJ (zBV lJ hT sV ?_ (ud _));show wpAny _ _ (ret (.ref I)) _ _ s;exact zAK ⟨_,rfl,"set_iterator",_,hT,cA.lookup,hQ⟩
def aEE(ho:s.heap.get? d=some (bW es ep t))(T:gr t es.size)(h:Q (.ref s.heap.objs.size) {s with heap:=s.heap.push (aIs d 0 0 es.size ep)}):wpAny (model prog w) A (zIJ (.ref d)) Q E s:=by
 have hT:s.TypeIs (.ref d) "set":=⟨_,ho,rfl⟩;refine zIz hT zGP (zBV zGP hT wY ?_ (PySem.F.args_set_iter_1 _));unfold zDP.«frozenset.__iter__» zHo slotArgs;simp only[List.isEmpty_nil,zFD,zAz,↓reduceIte,bind_assoc,zCV,bne_self_eq_false];unfold zHl zHn;refine zAB (zAK (zAB (zAK (zAB (zAB (wpAny_setEntries_of ho rfl T.fits (zAK ?_)))))));unfold setDrawn;refine zAB (zAB (zCx ho rfl T.fits ?_));dsimp only;unfold zIv;refine zAB (zAB (zDo (zAK (zAK ?_))));have hd:(!w.params.followText "set-order"&&(!t.plain&&decide (es.size>1)))=false:=by rw[T.pla];simp
 show wpAny _ _ (if (!w.params.followText "set-order"&&(!t.plain&&decide (es.size>1)))=true then _ else _) _ _ _;rw[hd];simp only[zAz,if_false];refine zAB (zAK (zAB (wpAny_setEpoch_of ho rfl T.fits ?_)));simp only[newFields];refine zAB (zBF (zAK ⟨_,rfl,"set_iterator",_,⟨_,zAO _ rfl,rfl⟩,cA.lookup,?_⟩));exact h
def aJC(hT:s.TypeIs (.ref r) "set")(h:Q false s):wpAny (model prog w) A (zEl (.ref r)) Q E s:=by
 unfold zEl;refine zAB (wpAny_specialOf hT PySem.F.slot_set_len.lookup ?_);generalize hid:("set.__len__":String)=id0;wp_delta;rw[show splitId id0=some ("set","__len__")from by subst hid;decide+kernel];subst hid;refine zAB (zGV (T:="set") (b:=true) hT (by rw[zHB];kernel_rfl) ?_);refine wpAny_ite_split (λ hab=>absurd hab (by decide)) λ _=>wpAny_ite_split (λ _=>?_) λ hab=>absurd (by decide+kernel) hab
 exact zAB (zFC hT (zAK h))
def aKE(T:gr t es.size)(hled:t.led= !w.params.followText "set-order"):zHe prog w "set" d d es.size (λ i v=>((sG w d ep es)[i]?).map (·.2)=some v) (λ h=>h.get? d=some (bW es ep t)) where
 type:=λ _ hm=>⟨_,hm,rfl⟩
 there:=λ _ hm=>⟨zAV hm,zAV hm⟩
 keep:=λ _ _ hm hk=>hk d (.inl rfl) _ hm
 notList:=by decide
 notTuple:=by decide
 hint:=λ _ _ _ _ hm hq=>aJC ⟨_,hm,rfl⟩ hq
 iter:=λ A s hh hm=>⟨aIs d 0 0 es.size ep,_,(λ _ _ hq=>aEE hm T hq),aGN hh _ d (zA8 (zAV hm)) es ep t T hled,⟨zAO _ rfl,zAC _ hm⟩⟩
end
section
variable{prog:zA7}{w:World}{A:zAk}{E:Value->zAG->Prop}{s:zAG}{T:String}{r d:Addr}{n:Nat}{P:Nat->Value->Prop}{OK:Heap->Prop}
def aDW(K:zHe prog w T r d n P OK)(hh:A.handled=none)(hok:OK s.heap)(hn:n<=zAY)
  (h:∀h' tk vs,s.heap.objs.size<h'.objs.size->(∀b o,s.heap.get? b=some o->h'.get? b=some o)->vs.length=n->(∀(j:Nat) v,vs[j]? =some v->P j v)->Q vs {s with heap:=h',toks:=tk}):wpAny (model prog w) A (zIZ (.ref r)) Q E s:=by
 have hlt:=K.there _ hok;unfold zIZ;refine zAB (zHD (zCI zFY ?_));rw[zBw zFZ _];show wpAny _ A.in1 (zGB []>>=λ l=>again (.builtin "list.__iadd__" ⟨[l,.ref r],[]⟩)) _ _ s;refine zAB (zBF (zAK ⟨zFk zDC _,zCI zEY ?_⟩));rw[zBw zDC _];show wpAny _ A.in1 (zEk (.ref s.heap.objs.size) (.ref r) (.ref s.heap.objs.size)) _ _ _;have fin:∀h' tk acc' c',(∀b o,b≠s.heap.objs.size->(s.heap.push (zBv "list" #[] 0)).get? b=some o->h'.get? b=some o)->h'.get? s.heap.objs.size=some {cls:=.type "list",dict:=none,data:=.seq acc' c',slots:=#[]}->ItemsOf P acc' n->
   wpAny (model prog w) A (do match (zBr s.heap.objs.size)with
    | .ref a=>match (<-load a).data with
     | .seq xs _=>pure xs.toList
     |_=>zGc "internal:collect"
    |_=>zGc "internal:collect") Q E {s with heap:=h',toks:=tk}:=λ h' tk acc' c' hk hS' oQ=>
  zAB (zIy hS' (zAK (h h' tk acc'.toList (zAV hS') (λ b o e=>hk b o (zA8 (zAV e)) (zAC _ e)) (by rw[zA9];exact oQ.1) λ j v e=>oQ.2 j v (by rw[<-zBp];exact e))))
 refine zB5 (PySem.W.kdl_extend (A:=A) (s:={s with heap:=s.heap.push (zBv "list" #[] 0)}) (R:=λ r s'=>∃h' tk acc' c',r= .ok (.ret (.ref s.heap.objs.size))/\s'={s with heap:=h',toks:=tk}/\(∀b o,b≠s.heap.objs.size->(s.heap.push (zBv "list" #[] 0)).get? b=some o->h'.get? b=some o)/\h'.get? s.heap.objs.size=some {cls:=.type "list",dict:=none,data:=.seq acc' c',slots:=#[]}/\ItemsOf P acc' n)
  K hh (K.keep _ _ hok λ b _ o e=>zAC _ e) s.heap.objs.size (zCM hlt.1) (zCM hlt.2) (.ref s.heap.objs.size) 0 (zAO _ rfl) (λ h' tk acc' c' hk hS' oQ=>⟨h',tk,acc',c',rfl,rfl,hk,hS',oQ⟩) hn) (λ f s' hf=>?_) λ e s' he=>?_
 .cases f with
  |done f=>
   obtain⟨h',tk,acc',c',q1,q2,q3,q4,q5⟩:=hf;cases q1;subst q2;exact fin h' tk acc' c' q3 q4 q5
  |again c=>
   refine⟨hf.1,zDf hf.2 λ r s' hr=>?_⟩;obtain⟨h',tk,acc',c',q1,q2,q3,q4,q5⟩:=hr;subst q1 q2;exact fin h' tk acc' c' q3 q4 q5
 .obtain⟨h',tk,acc',c',q1,_⟩:=he
  cases q1
end
def aLr(h:Heap)(p:Value×List Int):Prop:=∃x o xs k,p.1= .ref x/\h.get? x=some o/\o.cls= .type "tuple"/\o.data= .seq xs k/\zBL xs.toList p.2/\p.2≠[]
theorem eY.all:∀{vs:List Value} {nss:gV},eY h vs nss->∀p∈vs.zip nss,aLr h p
 |_,_,.nil,p,hp=>by simp at hp
 |_,_,.cons ho hc hd hi hne r,p,hp=>by
  rw[zCK]at hp;rcases zAL.mp hp with e|hp
  .subst e;exact⟨_,_,_,_,rfl,ho,hc,hd,hi,hne⟩
  .exact r.all p hp
theorem aEx:∀{zs:List (Value×List Int)},(∀p∈zs,aLr h p)->eY h (zs.map (·.1)) (zs.map (·.2))
 |[],_=>.nil
 |p::zs,hz=>by
  obtain⟨x,o,xs,k,e1,e2,e3,e4,e5,e6⟩:=hz p zAH;rw[zAM,zAM,e1];exact .cons e2 e3 e4 e5 e6 (aEx λ q hq=>hz q (zAF _ hq))
def nj(h:l.Perm m'):∀{m:List α},m'=m.map f->∃m2:List α,m2.Perm m/\l=m2.map f:=by
 induction h with
 |nil=>intro m e;exact⟨m,zBM _,e⟩
 |cons x p ih=>
  intro m e;cases m with
  |nil=>cases e
  |cons a m=>
   rw[zAM]at e;injection e with e1 e2
   obtain⟨m2,q1,q2⟩:=ih e2;exact⟨a::m2,q1.cons a,by rw[zAM,q2,e1]⟩
 |swap x y l=>
  intro m e;cases m with
  |nil=>cases e
  |cons a m=>
   cases m with
   |nil=>rw[zAM]at e;injection e with _ e2;cases e2
   |cons b m=>
    rw[zAM,zAM]at e;injection e with e1 e2
    injection e2 with e2 e3
    exact⟨b::a::m,zDe _ _ _,by rw[zAM,zAM,e1,e2,e3]⟩
 |trans p q ih1 ih2=>
  intro m e;obtain⟨m2,a1,a2⟩:=ih2 e;obtain⟨m3,b1,b2⟩:=ih1 a2;exact⟨m3,b1.trans a1,b2⟩
def uf(l:gV):Prop:=l.Pairwise λ a b=>HT.lexLt b a=false
section
variable{prog:zA7}{w:World}{A:zAk}{E:Value->zAG->Prop}{s:zAG}
def aCA{Q:Value->zAG->Prop}(hz:∀p∈zs,aLr s.heap p)(h64:zs.length<64)
  (h:∀(zs':List (Value×List Int)) h' e,zs'.Perm zs->uf (zs'.map (·.2))->(∀b o,s.heap.get? b=some o->h'.get? b=some o)->h'.get? s.heap.objs.size=some (zBv "list" (zs'.map (·.1)).toArray e)->Q (.ref s.heap.objs.size) {s with heap:=h'}):
  wpAny (model prog w) A (zGB (zs.map (·.1))>>=λ l=>zDR [l] (call (.builtin "list.sort") [l])>>=λ _=>ret l) (λ fin s'=>∃r,fin= .done (.ret r)/\Q r s') E s:=by
 have kQ:(zs.map (·.1)).length=zs.length:=zAE _;refine zAB (zH1 ?_ (by rw[zBz];omega));have hoL:(s.heap.push (zBv "list" (zs.map (·.1)).toArray 0)).get? s.heap.objs.size=some (zBv "list" (zs.map (·.1)).toArray 0):=zAO _ rfl;refine zAB (zB2 (zBV slot_list_sort ⟨_,hoL,rfl⟩ entry_list_sort ?_ (args_list_sort _)));refine aEY (s:={s with heap:=s.heap.push (zBv "list" (zs.map (·.1)).toArray 0)}) hoL (aEx λ p hp=>?_) (by omega) λ p a1 a2=>⟨_,rfl,?_⟩
 .obtain⟨x,o,xs,k,e1,e2,e3⟩:=hz p hp
  exact⟨x,o,xs,k,e1,zAC _ e2,e3⟩
 rw[kQ]at a1 a2;have dL:p.toList.map (λ i=>(zs.map (·.1)).getD i zBR)=(p.toList.map λ i=>zs.getD i (zBR,[])).map (·.1):=by
  rw[zAi];refine zAw λ i hi=>?_
  show(zs.map (·.1)).getD i zBR=(zs.getD i (zBR,[])).1
  rw[zA3,zA3,zA2];cases zs[i]?<;>rfl
 have pV:(p.toList.map λ i=>zs.getD i (zBR,[])).Perm zs:=by
  have h1:p.toList.Perm (zAu zs.length):=by
   have:=Array.perm_iff_toList_perm.mp a1
   simpa using this
  refine(h1.map _).trans ?_
  have:(zAu zs.length).map (λ i=>zs.getD i (zBR,[]))=zs:=by
   refine zF3 (by simp) λ i h1 h2=>?_
   rw[zCw,zHN,zA3,zAD h2];rfl
  rw[this]
 have hne:∀b o,s.heap.get? b=some o->b≠s.heap.objs.size:=λ b o e=>zA8 (zAV e)
 obtain⟨e1,he1⟩:∃e1,((s.heap.push (zBv "list" (zs.map (·.1)).toArray 0)).update s.heap.objs.size (zCL λ _=>(#[]:Array Value))).get? s.heap.objs.size=some (zBv "list" #[] e1):=⟨_,zEC hoL λ _=>#[]⟩
 have g1:=zAC (zBv "list" #[] 0) (zAC (zBv "tuple" (zs.map (·.1)).toArray 0) he1);have g2:=zEC g1 (λ _=>qe (zs.map (·.1)) p);generalize (if ((qe (zs.map (·.1)) p).size==(#[]:Array Value).size)=true then e1 else e1+1)=c1 at g2;have cS:(zGE (s.heap.push (zBv "list" (zs.map (·.1)).toArray 0)) s.heap.objs.size (zs.map (·.1)) (qe (zs.map (·.1)) p)).get? s.heap.objs.size=some (zBv "list" (qe (zs.map (·.1)) p) c1):=g2;have qV:qe (zs.map (·.1)) p=((p.toList.map λ i=>zs.getD i (zBR,[])).map (·.1)).toArray:=by unfold qe;rw[dL]
 have hris:uf ((p.toList.map λ i=>zs.getD i (zBR,[])).map (·.2)):=by
  unfold uf;rw[zAi];refine zAx.mpr λ i j hi hj hij=>?_
  rw[zAE,zA9,a1.sz]at hi hj;have hk:∀k (hk:k<zs.length),Kp (O:=aEZ) (λ i=>(zs.map (·.2)).getD i []) p k=(zs.getD (p.getD k 0) (zBR,[])).2:=λ k hk=>by
   show(zs.map (·.2)).getD (p.getD k 0) []=_
   rw[zA3,zA3,zA2];cases zs[p.getD k 0]?<;>rfl
  have hg:∀k (hk:k<p.toList.length),p.toList[k]=p.getD k 0:=λ k hk=>by
   have:k<p.size:=by simpa using hk
   simp[zCi,this]
  have this:HT.lexLt (Kp (O:=aEZ) (λ i=>(zs.map (·.2)).getD i []) p j) (Kp (O:=aEZ) (λ i=>(zs.map (·.2)).getD i []) p i)=false:=a2 i j (zB1 hij) hj;rw[hk i hi,hk j hj]at this;rw[zCw,zCw,hg,hg];exact this
 have dA:∀b o,s.heap.get? b=some o->(zGE (s.heap.push (zBv "list" (zs.map (·.1)).toArray 0)) s.heap.objs.size (zs.map (·.1)) (qe (zs.map (·.1)) p)).get? b=some o:=λ b o e=>by
  unfold zGE;rw[zC2 _ _ _ _ (hne b o e)];refine zAC _ (zAC _ ?_);rw[zC2 _ _ _ _ (hne b o e)];exact zAC _ e
 rw[qV]at cS dA;have hq:=h (p.toList.map λ i=>zs.getD i (zBR,[])) _ c1 pV hris dA cS;rw[<-qV]at hq;exact zAK ⟨_,rfl,hq⟩
def tM(h:wpAny (model prog w) A.in1 (zIZ v) (λ vs s'=>wpAny (model prog w) A.in1 (zGB vs>>=λ l=>zDR [l] (call (.builtin "list.sort") [l])>>=λ _=>ret l) (λ fin s'=>∃r,fin= .done (.ret r)/\Q r s') E s') E s):
  wpAny (model prog w) A (call (.builtin "sorted") [v]) Q E s:=by
 refine Calls.call_function_entry kind_sorted plain_sorted entry_sorted (args_sorted1 _) ?_;unfold zDP.«sorted»;refine zAB (m:=checkCount "sorted" 1 1 _) (zAK (zAB ?_));exact h
end
inductive jV(K:zAA)(H:Hp):List V->List (List Int)->Prop where
 |nil:jV K H [] []
 |cons {a:Addr} {ns:List Int} {vs:List V} {nss:gV} (h:SqT K H a (ns.map V.int)) (hne:ns≠[]) (r:jV K H vs nss):jV K H (.ref a::vs) (ns::nss)
def vD:V->Value
 | .ref a=>.ref a
 |_=>.none
def jV.vals{K:zAA}:∀{vs:List V} {nss:gV} {us:List Value},jV K H vs nss->Vals vs us->us=vs.map vD:=by
 intro vs nss us t v;induction v generalizing nss with
 |nil=>rfl
 |cons q s ih=>
  cases t with
  |cons _ _ r=>
   cases q;rw[zAM,ih r];rfl
theorem jV.len{K:zAA}:∀{vs:List V} {nss:gV},jV K H vs nss->vs.length=nss.length
 |_,_,.nil=>rfl
 |_,_,.cons _ _ r=>by rw[zA6,zA6,r.len]
theorem jV.refs{K:zAA}:∀{vs:List V} {nss:gV},jV K H vs nss->∀v∈vs,RelV v (vD v)
 |_,_,.nil,v,hv=>by simp at hv
 |_,_,.cons _ _ r,v,hv=>by
  rcases zAL.mp hv with e|hv
  .subst e;exact rfl
  .exact r.refs v hv
theorem jV.at(I:Inv X iX σ H s):∀{vs:List V} {nss:gV},jV X.K H vs nss->eY s.heap (vs.map vD) nss
 |_,_,.nil=>.nil
 |_,_,.cons h hne r=>by
  obtain⟨its,rv,⟨o,ho,hc,n,hd⟩,_⟩:=I.tuple h;exact .cons ho hc hd (by simpa using intsAre_of rv) hne (r.at I)
theorem aAE:∀{vs:List V},(∀v∈vs,RelV v (vD v))->Vals vs (vs.map vD)
 |[],_=>.nil
 |v::vs,h=>.cons (h v zAH) (aAE λ u hu=>h u (zAF _ hu))
section
variable{X:Cx}
def aJj(H:Hp)(vs:List V)(nss:gV)(Q:VK):Prop:=∀zs:List (V×List Int),zs.Perm (vs.zip nss)->uf (zs.map (·.2))->New H (.lst (zs.map (·.1))) Q
def aDo{iX:hZ}(I:Inv X iX σ H s)(ht:jV X.K H vs nss)(h64:vs.length<64)(q:aJj H vs nss Q)
  (hs1:∃h1 tk,s1={s with heap:=h1,toks:=tk}/\s.heap.objs.size<=h1.objs.size/\∀b o,s.heap.get? b=some o->h1.get? b=some o){zs:List (Value×List Int)}(hz:zs.Perm ((vs.map vD).zip nss))(hus:us=zs.map (·.1)):
  wpAny (model X.prog X.w) X.A.in1 (zGB us>>=λ l=>zDR [l] (call (.builtin "list.sort") [l])>>=λ _=>ret l) (λ fin s'=>∃r,fin= .done (.ret r)/\EP X iX σ Q r s') X.xe s1:=by
 obtain⟨h1,tk,rfl,hsz,keep⟩:=hs1;subst hus;have kX:∀p∈zs,aLr h1 p:=λ p hp=>by
  obtain⟨x,o,xs,k,e1,e2,e3⟩:=(ht.at I).all p (hz.mem_iff.mp hp);exact⟨x,o,xs,k,e1,keep _ _ e2,e3⟩
 have kQ:zs.length<64:=by
  rw[hz.length_eq,zIM,zAE,<-ht.len,zF7];exact h64
 refine aCA (s:={s with heap:=h1,toks:=tk}) kX kQ λ zs' h' e a1 a2 a3 a4=>?_
 have dL:(vs.map vD).zip nss=(vs.zip nss).map λ p=>(vD p.1,p.2):=by rw[List.zip_map_left];rfl
 obtain⟨ws,w1,w2⟩:=nj (f:=λ p:V×List Int=>(vD p.1,p.2)) (a1.trans hz) dL;have hfr:H h1.objs.size=none:=I.hok.fresh hsz;have aE:∀v∈ws.map (·.1),RelV v (vD v):=λ v hv=>by
  obtain⟨p,hp,rfl⟩:=zAS.mp hv;exact ht.refs p.1 (zE3 (w1.mem_iff.mp hp)).1
 have hws:zs'.map (·.1)=(ws.map (·.1)).map vD:=by rw[w2,zAi,zAi];rfl
 have hwl:(ws.map (·.1)).length<=zAY:=by
  rw[zAE,w1.length_eq,zIM,<-ht.len,zF7,zBz];lia
 refine⟨.ref h1.objs.size,upd H h1.objs.size (.lst (ws.map (·.1))),I.laid (t':=tk) (λ b o e=>a3 b o (keep b o e)) hsz ⟨hwl,(ws.map (·.1)).map vD,e,aAE aE,?_⟩,rfl,(q ws w1 ?_).at hfr⟩
 .rw[<-hws];exact a4
 .have:ws.map (·.2)=zs'.map (·.2):=by rw[w2,zAi];rfl
  rw[this];exact a2
def aEB(K:zAA):List V->Hp->VK->Prop:=λ xs H Q=>∃p vs nss,xs=[.ref p]/\SqL K H p vs/\jV K H vs nss/\vs.length<64/\aJj H vs nss Q
def aAA:cX X (.builtin "sorted") (aEB X.K):=by
 intro iX s σ H xs us Q I r h;obtain⟨p,vs,nss,rfl,hp,ht,h64,q⟩:=h;obtain⟨u,rfl,ru⟩:=vals1 r;cases ru;obtain⟨its,rv,pl,hz⟩:=I.list hp;have e:=ht.vals rv;subst e;have hl2:(vs.map vD).length=nss.length:=by rw[zAE];exact ht.len
 refine tM (collect_list pl.isList ?_ (by rw[zAE];exact hz));refine aDo I ht h64 q ⟨_,_,rfl,?_,λ b o e=>?_⟩ (zBM _) ?_
 .rw[Heap.size_update,size_push']
  exact zDl _
 .rw[zC2 _ _ _ _ (zA8 (zAV e))]
  exact zAC _ e
 .exact(List.map_fst_zip (by lia)).symm
end
def aGt(a:List Int):gV->List (List Int)
 |[]=>[a]
 |b::l=>if HT.lexLt b a then b::aGt a l else a::b::l
def o9:gV->List (List Int)
 |[]=>[]
 |a::l=>aGt a (o9 l)
theorem vP(a:List Int):∀l,(aGt a l).Perm (a::l)
 |[]=>zBM _
 |b::l=>by
  unfold aGt;split
  .exact((vP a l).cons b).trans (zDe _ _ _)
  .exact zBM _
theorem nW:∀l,(o9 l).Perm l
 |[]=>zBM _
 |a::l=>(vP a _).trans ((nW l).cons a)
def aLC(h:HT.lexLt a b=true):HT.lexLt b a=false:=by
 cases e:HT.lexLt b a with
 |false=>rfl
 |true=>have:=uE a b a h e;rw[yR]at this;cases this
def aN8(h1:HT.lexLt b a=false)(h2:HT.lexLt c b=false):HT.lexLt c a=false:=by
 cases e:HT.lexLt c a with
 |false=>rfl
 |true=>
  rcases aIa c b a e with z|z
  .rw[h2]at z;cases z
  .rw[h1]at z;cases z
theorem yf(a:List Int):∀l,uf l->uf (aGt a l)
 |[],_=>zAg.mpr ⟨λ _ h=>by simp at h,.nil⟩
 |b::l,h=>by
  obtain⟨h1,h2⟩:=zAg.mp h;unfold aGt;cases e:HT.lexLt b a with
  |true=>
   rw[if_pos rfl];refine zAg.mpr ⟨λ x hx=>?_,yf a l h2⟩;rcases zAL.mp ((vP a l).mem_iff.mp hx)with q|q
   .subst q;exact aLC e
   .exact h1 x q
  |false=>
   rw[if_neg (by simp)];refine zAg.mpr ⟨λ x hx=>?_,h⟩;rcases zAL.mp hx with q|q
   .subst q;exact e
   .exact aN8 e (h1 x q)
theorem o8:∀l,uf (o9 l)
 |[]=>.nil
 |a::l=>yf a _ (o8 l)
theorem aAM:∀{a b:gV},a.Perm b->uf a->uf b->a=b
 |[],b,p,_,_=>p.nil_eq
 |x::a,b,p,h1,h2=>by
  cases b with
  |nil=>exact absurd p.length_eq (by simp)
  |cons y b=>
   have hxy:x=y:=by
    obtain⟨q1,_⟩:=zAg.mp h1;obtain⟨q2,_⟩:=zAg.mp h2;have m1:x∈y::b:=p.mem_iff.mp zAH;have m2:y∈x::a:=p.mem_iff.mpr zAH;rcases zAL.mp m1 with e|m1
    .exact e
    .rcases zAL.mp m2 with e|m2
     .exact e.symm
     .exact yQ _ _ (q2 x m1) (q1 y m2)
   subst hxy;rw[aAM (List.Perm.cons_inv p) (zAg.mp h1).2 (zAg.mp h2).2]
abbrev tupI(ns:List Int):D:=.tup (ns.map .int)
def oY:List D->Option gV
 |[]=>some []
 | .tup l::r=>match intsOf l,oY r with
  |some (n::ns),some nss=>some ((n::ns)::nss)
  |_,_=>none
 |_=>none
theorem v7:∀{l:List D} {nss:gV},oY l=some nss->l=nss.map tupI/\∀ns∈nss,ns≠[]
 |[],nss,h=>by cases h;exact⟨rfl,λ ns h=>by simp at h⟩
 | .tup l::r,nss,h=>by
  unfold oY at h;split at h
  .rename_i n ns nss' e1 e2
   cases h;obtain⟨q1,q2⟩:=v7 e2;rw[cO e1,q1];refine⟨rfl,λ ms hm=>?_⟩;rcases zAL.mp hm with e|hm
   .subst e;simp
   .exact q2 ms hm
  .cases h
 | .non::_,_,h=>by cases h
 | .int _::_,_,h=>by cases h
 | .bl _::_,_,h=>by cases h
 | .str _::_,_,h=>by cases h
 | .lst _::_,_,h=>by cases h
 | .dct _ _::_,_,h=>by cases h
 | .set _::_,_,h=>by cases h
 | .scr _::_,_,h=>by cases h
theorem rC:∀{nss:gV},(∀ns∈nss,ns≠[])->oY (nss.map tupI)=some nss
 |[],_=>rfl
 |[]::nss,h=>absurd rfl (h [] zAH)
 |(n::ns)::nss,h=>by
  have ih:=rC λ ms hm=>h ms (zAF _ hm)
  rw[zAM];unfold oY;rw[ih,show intsOf (List.map D.int (n::ns))=some (n::ns)from dq _]
theorem aBv{K:zAA}:∀{xs:List V} {nss:gV},Rps K A H xs (nss.map tupI)->(∀ns∈nss,ns≠[])->jV K H xs nss
 |_,[],.nil,_=>.nil
 |_,ns::nss,.cons h r,hne=>by
  cases h with
  |tup h r'=>
   have e:=r'.ints_of;subst e;exact .cons h (hne ns zAH) (aBv r λ ms hm=>hne ms (zAF _ hm))
theorem aHn{K:zAA}:∀{zs:List (V×List Int)},(∀p∈zs,∃a,p.1= .ref a/\SqT K H a (p.2.map V.int))->Rps K A H (zs.map (·.1)) ((zs.map (·.2)).map tupI)
 |[],_=>.nil
 |p::zs,h=>by
  obtain⟨a,e1,e2⟩:=h p zAH;rw[zAM,zAM,zAM,e1];exact .cons (.tup e2 .ints) (aHn λ q hq=>h q (zAF _ hq))
theorem jV.all{K:zAA}:∀{vs:List V} {nss:gV},jV K H vs nss->∀p∈vs.zip nss,∃a,p.1= .ref a/\SqT K H a (p.2.map V.int)
 |_,_,.nil,p,hp=>by simp at hp
 |_,_,.cons h _ r,p,hp=>by
  rw[zCK]at hp;rcases zAL.mp hp with e|hp
  .subst e;exact⟨_,rfl,h⟩
  .exact r.all p hp
def aH8{K:zAA}(ht:jV K H vs nss)(q:∀v H',aX H H'->Rp K (λ p=>H p=none) H' v (.lst ((o9 nss).map tupI))->Q v H'):aJj H vs nss Q:=by
 intro zs hz hr p H' s hp hn;have e:zs.map (·.2)=o9 nss:=aAM (((hz.map (·.2)).trans (by rw[List.map_snd_zip (by rw[ht.len];exact zAT _)])).trans (nW nss).symm) hr (o8 nss);refine q _ H' s (.lst hp hn ?_);rw[<-e];exact aHn λ p hp=>by
  obtain⟨a,e1,e2⟩:=ht.all p (hz.mem_iff.mp hp);exact⟨a,e1,s.sqt e2⟩
def insI(a:Int):List Int->List Int
 |[]=>[a]
 |b::l=>if b<a then b::insI a l else a::b::l
def sortI:List Int->List Int
 |[]=>[]
 |a::l=>insI a (sortI l)
theorem insI_perm(a:Int):∀l,(insI a l).Perm (a::l)
 |[]=>zBM _
 |b::l=>by
  unfold insI;split
  .exact((insI_perm a l).cons b).trans (zDe _ _ _)
  .exact zBM _
theorem sortI_perm:∀l,(sortI l).Perm l
 |[]=>zBM _
 |a::l=>(insI_perm a _).trans ((sortI_perm l).cons a)
theorem aDJ(a:Int):∀l:List Int,l.Pairwise (·<=·)->(insI a l).Pairwise (·<=·)
 |[],_=>zAg.mpr ⟨λ _ h=>by simp at h,.nil⟩
 |b::l,h=>by
  obtain⟨h1,h2⟩:=zAg.mp h;unfold insI;by_cases e:b<a
  .rw[if_pos e]
   refine zAg.mpr ⟨λ x hx=>?_,aDJ a l h2⟩;rcases zAL.mp ((insI_perm a l).mem_iff.mp hx)with q|q
   .lia
   .exact h1 x q
  .rw[if_neg e]
   refine zAg.mpr ⟨λ x hx=>?_,h⟩;rcases zAL.mp hx with q|q
   .lia
   .have:=h1 x q;lia
theorem eG:∀l,(sortI l).Pairwise (·<=·)
 |[]=>.nil
 |a::l=>aDJ a _ (eG l)
theorem nR:∀{us:List Value} {ns:List Int},zBL us ns->Vals (ns.map V.int) us
 |_,_,.nil=>.nil
 |_,_,.cons n t r=>.cons ⟨t,rfl⟩ (nR r)
section
variable{X:Cx}
def aED(K:zAA):List V->Hp->VK->Prop:=λ xs H Q=>∃p ns,xs=[.ref p]/\SqL K H p (ns.map V.int)/\ns.length<64/\New H (.lst ((sortI ns).map V.int)) Q
def aBe:cX X (.builtin "sorted") (aED X.K):=by
 intro iX s σ H xs us Q I r h;obtain⟨p,ns,rfl,hp,h64,q⟩:=h;obtain⟨u,rfl,ru⟩:=vals1 r;cases ru;obtain⟨its,rv,pl,hz⟩:=I.list hp;have hI:zBL its ns:=intsAre_of rv;have kQ:its.length<64:=by
  have:=rv.length
  rw[zAE]at this;lia
 refine sorted_ints pl.isList hI kQ λ out ns' h1 h2 h3=>?_
 have e:ns'=sortI ns:=zDQ (h2.trans (sortI_perm ns).symm) h3 (eG ns);subst e;obtain⟨e,he⟩:=sortedAll_at s.heap its out;have hfr:H (s.heap.objs.size+1)=none:=I.hok.fresh (zDl _);refine⟨.ref (s.heap.objs.size+1),upd H (s.heap.objs.size+1) (.lst ((sortI ns).map V.int)),I.laid (t':=s.toks) (λ b o q=>sortedAll_old q) (zDl _) ?_,rfl,q.at hfr⟩;refine⟨?_,out.toList,e,nR h1,?_⟩
 .rw[zAE,h2.length_eq]
  exact zAn (zB1 h64) (by decide)
 .rw[zGe]
  exact he
end
def aJq(K:zAA)(r:List V->Hp->VK->Prop)(fd:List D->Rs D):Prop:=∀(A:Addr->Prop) xs ds H (Q:VK) z,Rps K A H xs ds->fd ds= .ok z->(∀v H',aX H H'->Rp K (λ p=>H p=none) H' v z->Q v H')->r xs H Q
def aFM{K:zAA}(hs:aJq K r fd)(h1:aLq K G m ta g):jW K G (some []) (tCB r ta) (opA fd g):=by
 intro U σ H ρ lab Q R W;refine h1 U σ H ρ lab _ R (W.bd.imp λ d _ w x H1 s1 r1=>?_);obtain⟨z,ez,w⟩:=w.okD;exact hs (fpM m lab H) x d H1 Q z r1 ez λ v H' s r=>w v H' (s1.trans s) (r.wk λ p o _ q=>.inl (s1.free q))
def iU:List D->Rs D
 |[.lst l]=>match oY l with
  |some nss=>if nss.length<64 then .ok (.lst ((o9 nss).map tupI))else .st
  |none=>match intsOf l with
   |some ns=>if ns.length<64 then .ok (.lst ((sortI ns).map .int))else .st
   |none=>.st
 |_=>.st
def aHB{K:zAA}:aJq K (λ xs H Q=>aEB K xs H Q\/aED K xs H Q) iU:=by
 intro A xs ds H Q z r ez q;unfold iU at ez;split at ez
 .cases r with
  |cons h r=>
   cases r;cases h with
   |lst h m r=>
    split at ez
    .rename_i nss e
     obtain⟨e1,e2⟩:=v7 e;subst e1;split at ez
     .rename_i hl
      cases ez;have ht:=aBv r e2;exact .inl ⟨_,_,nss,rfl,SqL.of h,ht,by rw[ht.len];exact hl,aH8 ht q⟩
     .cases ez
    .split at ez
     .rename_i ns e
      have e1:=cO e;subst e1;split at ez
      .rename_i hl
       cases ez;have e2:=r.ints_of;subst e2;exact .inr ⟨_,ns,rfl,SqL.of h,hl,λ p H' s hp hn=>q _ H' s (.lst hp hn .ints)⟩
      .cases ez
     .cases ez
 .cases ez
section
variable{C:Ct}{pos p:Pos}{m:Mode}{a:Expr}{ga:En->Rs (List D)}
def iV(hm:C.mg "sorted"=none)(ha:SA C m [a] ga)(he:∀i,zA1 [a] (C.X i).env=[(false,eval a (C.X i).env)]:=by intro _;rfl)(hg:∀i,Gl (C.X i) "sorted":=by intro _;rfl)(hv:zAq "sorted"=some (.builtin "sorted"):=by decide+kernel):SE C (some []) (.Call (.Name "sorted" p) [a] [] pos) (opA iU ga):=by
 obtain⟨t,h1,h2⟩:=ha;refine⟨_,λ i=>m8 (r:=λ xs H Q=>aEB C.K xs H Q\/aED C.K xs H Q) (by rw[<-C.hK i];exact aAA.or aBe) (hg i) (by rw[(C.cx i).2.2.2.1];exact hm) hv (h1 i) (by decide) (by decide) (he i) rfl,aFM aHB h2⟩
end
structure Mg{β:Type}(r:β->β->Prop)(T out ra rb:List β):Prop where
 pm:(out++(ra++rb)).Perm T
 so:out.Pairwise r
 lo:∀x∈out,∀y∈ra++rb,r x y
 sa:ra.Pairwise r
 sb:rb.Pairwise r
section
variable{β:Type}{r:β->β->Prop}{T:List β}
def Mf(r:β->β->Prop)(T o:List β):Prop:=o.Perm T/\o.Pairwise r
end
structure Eg(st st':zD2):Prop where
 k:zD3 st'=zD3 st
 a:arrOf st'=arrOf st
 p:zG9 st'=zG9 st
 f:zG0 st'=zG0 st
def aJW{a:Array Keyed}{i:Nat}(h:i<a.size):a.toList.drop i=a[i]::a.toList.drop (i+1):=by
 rw[zBn (by simpa using h)];rfl
abbrev LS:=Option (Array Keyed)×Array Keyed×Nat×Nat×Nat×Nat×Nat
section
variable{O:zC1}{kf:Keyed->O.α}{T:List Keyed}{a b out:Array Keyed}{ia ib mg ac bc m0:Nat}{st:zD2}{Q:ForInStep LS->zD2->Prop}
abbrev rK(O:zC1)(kf:Keyed->O.α)(x y:Keyed):Prop:=O.kle (kf x) (kf y)
abbrev Ml(O:zC1)(kf:Keyed->O.α)(T:List Keyed)(a b out:Array Keyed)(ia ib:Nat):Prop:=Mg (rK O kf) T out.toList (a.toList.drop ia) (b.toList.drop ib)
structure Tu(O:zC1)(kf:Keyed->O.α)(T:List Keyed)(a b:Array Keyed)(m0:Nat)(st:zD2)(Q:ForInStep LS->zD2->Prop):Prop where
 ret:∀o out ia ib mg ac bc st',Eg st st'->Mf (rK O kf) T o.toList->Q (.done (some o,out,ia,ib,mg,ac,bc)) st'
 on:∀out ia ib mg ac bc st',Eg st st'->Ml O kf T a b out ia ib->ia+1<a.size->ib<b.size->m0<ia+ib->Q (.done (none,out,ia,ib,mg,ac,bc)) st'/\Q (.yield (none,out,ia,ib,mg,ac,bc)) st'
end
abbrev HS:=Option (Array Keyed)×Nat×Nat×Array Keyed×Nat×Nat×Nat
section
variable{O:zC1}{kf:Keyed->O.α}{T:List Keyed}{a b out:Array Keyed}{na nb mg ac bc m0:Nat}{st:zD2}{Q:ForInStep HS->zD2->Prop}
abbrev rH(O:zC1)(kf:Keyed->O.α)(x y:Keyed):Prop:=O.kle (kf y) (kf x)
abbrev Mh(O:zC1)(kf:Keyed->O.α)(T:List Keyed)(a b out:Array Keyed)(na nb:Nat):Prop:=Mg (rH O kf) T out.toList (a.toList.take na).reverse (b.toList.take nb).reverse
structure Th(O:zC1)(kf:Keyed->O.α)(T:List Keyed)(a b:Array Keyed)(m0:Nat)(st:zD2)(Q:ForInStep HS->zD2->Prop):Prop where
 ret:∀o na nb out mg ac bc st',Eg st st'->Mf (rK O kf) T o.toList->Q (.done (some o,na,nb,out,mg,ac,bc)) st'
 on:∀na nb out mg ac bc st',Eg st st'->Mh O kf T a b out na nb->0<na->1<nb->na<=a.size->nb<=b.size->na+nb<m0->Q (.done (none,na,nb,out,mg,ac,bc)) st'/\Q (.yield (none,na,nb,out,mg,ac,bc)) st'
end
structure Ea(st st':zD2):Prop where
 k:zD3 st'=zD3 st
 p:zG9 st'=zG9 st
 f:zG0 st'=zG0 st
section
variable{κ:zDd}{G:Keyed->Prop}{st:zD2}{P R:List Keyed}{lo:Nat}
structure Sg(κ:zDd)(G:Keyed->Prop)(st:zD2)(lo:Nat)(P R:List Keyed):Prop where
 k:zD3 st=κ
 l:(arrOf st).toList=P++R
 p:P.length=lo
 g:∀x∈R,G x
end
def Pr(O:zC1)(kf:Keyed->O.α):Nat->List (List Keyed)->List (Nat×Nat×Nat)->Prop
 |_,[],[]=>True
 |o,x::segs,p::ps=>p.1=o/\p.2.1=x.length/\0<x.length/\x.Pairwise (rK O kf)/\Pr O kf (o+x.length) segs ps
 |_,_,_=>False
section
variable{κ:zDd}{O:zC1}{kf:Keyed->O.α}{st:zD2}{T R:List Keyed}{segs:List (List Keyed)}
structure Rn(κ:zDd)(O:zC1)(kf:Keyed->O.α)(T:List Keyed)(st:zD2)(segs:List (List Keyed))(R:List Keyed):Prop where
 k:zD3 st=κ
 f:zG0 st=none
 l:(arrOf st).toList=segs.flatten++R
 pm:(arrOf st).toList.Perm T
 pr:Pr O kf 0 segs (zG9 st).toList
end
def ddI(ns:List Int):List Int:=ns.foldl zAo []
def aJ2(ns:List Int)(n:Int):ddI (ns++[n])=zAo (ddI ns) n:=by unfold ddI;rw[zH8];rfl
def aJ0(ns:List Int):zEQ (λ i=>ns.getD i 0) ns.length=ddI ns:=by
 unfold zEQ ddI;congr 1;refine zF3 (by simp) λ i h1 h2=>?_
 rw[zCw,zHN,zA3,zAD h2];rfl
def aLa(hl:l.Nodup)(n:Int):(zAo l n).Nodup/\∀x,x∈zAo l n↔x∈l\/x=n:=by
 unfold zAo;by_cases h:l.any (·==n)=true
 .rw[if_pos h]
  have:n∈l:=by simpa using h
  exact⟨hl,λ x=>⟨.inl,λ q=>q.elim id λ e=>e▸this⟩⟩
 .rw[if_neg h]
  have:n∉l:=by simpa using h
  refine⟨zAb.mpr ⟨hl,by simp,λ x hx y hy e=>?_⟩,λ x=>by simp⟩;rw[zAI]at hy;subst hy;subst e;exact this hx
theorem aJZ:∀(ns acc:List Int),acc.Nodup->(ns.foldl zAo acc).Nodup/\∀x,x∈ns.foldl zAo acc↔x∈acc\/x∈ns
 |[],acc,h=>⟨h,λ x=>by simp⟩
 |n::ns,acc,h=>by
  obtain⟨h1,h2⟩:=aLa h n;obtain⟨h3,h4⟩:=aJZ ns _ h1;refine⟨h3,λ x=>?_⟩;rw[zCT,h4,h2,zAL];constructor
  .rintro((a|a)|a)
   .exact .inl a
   .exact .inr (.inl a)
   .exact .inr (.inr a)
  .rintro(a|a|a)
   .exact .inl (.inl a)
   .exact .inl (.inr a)
   .exact .inr a
def iw(ns:List Int):(ddI ns).Nodup:=(aJZ ns [] (by simp)).1
def uD(ns:List Int)(x:Int):x∈ddI ns↔x∈ns:=by
 have:=(aJZ ns [] (by simp)).2 x
 unfold ddI;simpa using this
def aB9(ns:List Int)(h:ns.Nodup):(ddI ns).length=ns.length:=
 zIX (sub_len (iw ns) λ x hx=>(uD ns x).mp hx) (sub_len h λ x hx=>(uD ns x).mpr hx)
def aEm(ns:List Int):(ddI ns).length<=ns.length:=sub_len (iw ns) λ x hx=>(uD ns x).mp hx
section
variable{X:Cx}
def aHz(K:zAA):List V->Hp->VK->Prop:=λ xs H Q=>∃p ns,xs=[.ref p]/\(SqL K H p (ns.map V.int)\/SqT K H p (ns.map V.int))/\ns.length<4000/\∀a H',aX H H'->H' a=some (.set (λ k=>(ddI ns).any (·==k)) (ddI ns).length)->H a=none->Q (.ref a) H'
def aCC(I:Inv X iX σ H s)(q:∀a H',aX H H'->H' a=some (.set (λ k=>(ddI ns).any (·==k)) (ddI ns).length)->H a=none->Q (.ref a) H')
  (g1:h'.SetOf (zBe X.prog X.w) s.heap.objs.size (λ k'=>(zEQ (λ i=>ns.getD i 0) ns.length).any (·==k')) (zEQ (λ i=>ns.getD i 0) ns.length).length)(g2:∀b o,s.heap.get? b=some o->h'.get? b=some o):EP X iX σ Q (.ref s.heap.objs.size) {s with heap:=h',toks:=tk}:=by
 rw[aJ0]at g1;have hfr:H s.heap.objs.size=none:=I.hok.fresh (zAT _);exact⟨.ref s.heap.objs.size,upd H s.heap.objs.size (.set (λ k=>(ddI ns).any (·==k)) (ddI ns).length),I.laid (t':=tk) g2 (zAT _) g1,rfl,q _ _ (au hfr _) aq hfr⟩
def aCB{s:zAG}{St:Nat->zAG->Prop}(hl:l<s.heap.objs.size)(hi:zBL its ns)(hz:ns.length<4000)
  (W:WalksS prog w A.in1 (s.heap.objs.size+1) [s.heap.objs.size+1,l] [s.heap.objs.size+1] (λ a b=>b=a) its.toArray.size (λ i v=>its.toArray[i]? =some v) St)(st:St 0 {s with heap:=(s.heap.push (bW #[] 0 (.fresh 0 0 led))).push oI})
  (R:zEb->zAG->Prop)(hR:∀h' tk,h'.SetOf (zBe prog w) s.heap.objs.size (λ k'=>(zEQ (λ i=>ns.getD i 0) ns.length).any (·==k')) (zEQ (λ i=>ns.getD i 0) ns.length).length->(∀b o,s.heap.get? b=some o->h'.get? b=some o)->R (.ok (.ret .none)) {s with heap:=h',toks:=tk}):
  zCZ (model prog w) A (.builtin "set.update.loop" ⟨[.ref s.heap.objs.size,.ref (s.heap.objs.size+1)],[]⟩) R {s with heap:=(s.heap.push (bW #[] 0 (.fresh 0 0 led))).push oI}:=by
 have kQ:its.length=ns.length:=zE1 hi;have hSf:s.heap.objs.size∉[s.heap.objs.size+1,l]:=by
  simp only[zAL,zAf,or_false,not_or];exact⟨zA8 (zBx _),zCM hl⟩
 have hsz:its.toArray.size=ns.length:=by rw[zAP];exact kQ
 refine PyProof.Rows.codeAny_set_update_loopS W s.heap.objs.size hSf (λ i=>ns.getD i 0) (λ i v hv=>zEO hi i v (by simpa using hv)) (by rw[hsz];unfold zFA;lia) (its.toArray.size-0) 0 _ (by lia) (zAj _) st ?_ λ s' hm hS'=>?_
 .have hget:((s.heap.push (bW #[] 0 (.fresh 0 0 led))).push oI).get? s.heap.objs.size=some (bW #[] 0 (.fresh 0 0 led)):=zAC _ (zAO _ rfl)
  exact PyProof.Rows.SetOf_congr ((PyProof.Rows.setObjOf_fresh (knd:=zBe prog w) led).setOf hget (by unfold zFA;lia)) (λ _=>rfl) rfl
 .obtain⟨h',g',d',tk',os'⟩:=s'
  have eg:g'=s.gens:=hm.gens;have ed:d'=s.drawn:=hm.drawn;have eo:os'=s.os:=hm.os;subst eg;subst ed;subst eo;rw[hsz]at hS';refine hR h' tk' hS' λ b o e=>hm.heap b o ?_ (zAC _ (zAC _ e))
  have hb:=zAV e;simp only[zAL,zAf,or_false,not_or];exact⟨zA8 hb,zA8 (zCY hb)⟩
def aHE(hc:X.calm=true):cX X (.type "set") (aHz X.K):=by
 intro iX s σ H xs us Q I r h;obtain⟨p,ns,rfl,hp,hz,q⟩:=h;obtain⟨u,rfl,ru⟩:=vals1 r;cases ru;have hh:X.A.in1.in1.in1.handled=none:=I.ok.hd hc;have hsz:∀o:Obj,(s.heap.push o).objs.size=s.heap.objs.size+1:=λ o=>zBB _ _
 rcases hp with hp|hp
 .obtain⟨its,rv,pl,_⟩:=I.list hp
  have hI:zBL its ns:=intsAre_of rv;have hl0:=pl.isList;obtain⟨ol,hol,hcl,nl,hdl⟩:=pl.isList;have hlS:p<s.heap.objs.size:=zAV hol;refine PySem.lY (T:="list") (Φ:=λ h'=>h'.SetOf (zBe X.prog X.w) s.heap.objs.size (λ k'=>(zEQ (λ i=>ns.getD i 0) ns.length).any (·==k')) (zEQ (λ i=>ns.getD i 0) ns.length).length) ⟨ol,hol,hcl⟩ F.sub_list_set zH2 (by decide)
   (λ zD yA x9 Q₁ k q=>zDa (s:={s with heap:=zD}) (items:=its.toArray) ⟨ol,k _ _ hol,hcl,nl,hdl⟩ q) (λ R hR=>?_) λ h' tk g1 g2=>aCC I q g1 g2
  rw[hsz];refine aCB hlS hI hz ((zGM hh _ p (zA8 (zCY hlS)) its.toArray).toS) ⟨?_,?_⟩ R hR
  .have e:=zAO (s.heap.push (bW #[] 0 (.fresh 0 0 (!X.w.params.followText "set-order")))) (o:={cls:=.type "list_iterator",data:=.fields #[.ref p,.int 0 0]}) rfl
   rw[hsz]at e;exact⟨_,e,rfl,rfl⟩
  .exact⟨ol,zAC _ (zAC _ hol),hcl,nl,hdl⟩
 .obtain⟨its,rv,pl,_⟩:=I.tuple hp
  have hI:zBL its ns:=intsAre_of rv;obtain⟨ol,hol,hcl,nl,hdl⟩:=id pl;have hlS:p<s.heap.objs.size:=zAV hol;refine PySem.lY (T:="tuple") (Φ:=λ h'=>h'.SetOf (zBe X.prog X.w) s.heap.objs.size (λ k'=>(zEQ (λ i=>ns.getD i 0) ns.length).any (·==k')) (zEQ (λ i=>ns.getD i 0) ns.length).length) ⟨ol,hol,hcl⟩ zIk zHL (by decide)
   (λ zD yA x9 Q₁ k q=>zDU (s:={s with heap:=zD}) (items:=its.toArray) ⟨ol,k _ _ hol,hcl,nl,hdl⟩ q) (λ R hR=>?_) λ h' tk g1 g2=>aCC I q g1 g2
  rw[hsz];refine aCB hlS hI hz ((zIt hh _ p (zA8 (zCY hlS)) its.toArray).toS) ⟨?_,?_⟩ R hR
  .have e:=zAO (s.heap.push (bW #[] 0 (.fresh 0 0 (!X.w.params.followText "set-order")))) (o:={cls:=.type "tuple_iterator",data:=.fields #[.ref p,.int 0 0]}) rfl
   rw[hsz]at e;exact⟨_,e,rfl,rfl⟩
  .exact⟨ol,zAC _ (zAC _ hol),hcl,nl,hdl⟩
def aHI:cX X (.builtin "len") (λ xs H Q=>∃p S n,xs=[.ref p]/\H p=some (.set S n)/\Q (.int n) H):=by
 intro iX s σ H xs us Q I r h;obtain⟨p,S,n,rfl,hp,q⟩:=h;obtain⟨u,rfl,ru⟩:=vals1 r;cases ru;obtain⟨o,es,ep,t,ho,hex,hd,_,_,hb,hf,hn⟩:=I.hok p _ hp
 have:(es.size:Int)<2^63:=by unfold zFA at hb;lia
 refine PySem.call_len_set ho hex hd hf this ⟨.int n,H,(I.tok _).tok _,?_,q⟩;exact⟨_,by rw[hn]⟩
end
def aHq{K:zAA}(nd:l.Nodup)(h:H a=some (.set (λ k=>l.any (·==k)) l.length))(m:A a):Rp K A H (.ref a) (.set l):=.set h m (λ i=>by
 rw[zBI];simp) nd
def aDr:List D->Rs D
 |[.lst l]=>match intsOf l with
  |some ns=>if ns.length<4000 then .ok (.set (ddI ns))else .st
  |none=>.st
 |[.tup l]=>match intsOf l with
  |some ns=>if ns.length<4000 then .ok (.set (ddI ns))else .st
  |none=>.st
 |_=>.st
def aOF{K:zAA}:aJq K (aHz K) aDr:=by
 intro A xs ds H Q z r ez q;unfold aDr at ez;split at ez
 .cases r with
  |cons h r=>
   cases r;cases h with
   |lst h m r=>
    split at ez
    .rename_i ns e
     have e1:=cO e;subst e1;split at ez
     .rename_i hl
      cases ez;have e2:=r.ints_of;subst e2;exact⟨_,ns,rfl,.inl (SqL.of h),hl,λ a H' s ha hn=>q _ H' s (aHq (iw ns) ha hn)⟩
     .cases ez
    .cases ez
 .cases r with
  |cons h r=>
   cases r;cases h with
   |tup h r=>
    split at ez
    .rename_i ns e
     have e1:=cO e;subst e1;split at ez
     .rename_i hl
      cases ez;have e2:=r.ints_of;subst e2;exact⟨_,ns,rfl,.inr h,hl,λ a H' s ha hn=>q _ H' s (aHq (iw ns) ha hn)⟩
     .cases ez
    .cases ez
 .cases ez
def aE1:List D->Rs D
 |[.set l]=>.ok (.int l.length)
 |ds=>eX ds
def aLd{K:zAA}:um K (λ xs H Q=>(∃p ys,xs=[.ref p]/\(SqL K H p ys\/SqT K H p ys)/\Q (.int ys.length) H)\/∃p S n,xs=[.ref p]/\H p=some (.set S n)/\Q (.int n) H) aE1:=by
 intro A xs ds H Q z r ez q;unfold aE1 at ez;split at ez
 .cases ez
  cases r with
  |cons h r=>
   cases r;cases h with
   |set h m hS nd=>exact .inr ⟨_,_,_,rfl,h,q _ H (aX.refl H) (.int _)⟩
 .exact .inl (aJ5 A xs _ H Q z r ez q)
def aIz:∀x z,aE1 x= .ok z->imm z=true:=by
 intro x z e;unfold aE1 at e;split at e
 .cases e;rfl
 .exact aFx _ _ e
section
variable{C:Ct}{pos p:Pos}{m:Mode}{a:Expr}{ga:En->Rs (List D)}
def aMd(hm:C.mg "set"=none)(ha:SA C m [a] ga)(he:∀i,zA1 [a] (C.X i).env=[(false,eval a (C.X i).env)]:=by intro _;rfl)(hg:∀i,Gl (C.X i) "set":=by intro _;rfl)(hv:zAq "set"=some (.type "set"):=by decide+kernel):SE C (some []) (.Call (.Name "set" p) [a] [] pos) (opA aDr ga):=by
 obtain⟨t,h1,h2⟩:=ha;refine⟨_,λ i=>gZ (r:=aHz C.K) (by rw[<-C.hK i];exact aHE (C.calm i)) (hg i) (by rw[(C.cx i).2.2.2.1];exact hm) hv (h1 i) (by decide) (by decide) (he i) rfl,aFM aOF h2⟩
def aKN(hm:C.mg "len"=none)(ha:SA C m [a] ga)(he:∀i,zA1 [a] (C.X i).env=[(false,eval a (C.X i).env)]:=by intro _;rfl)(hg:∀i,Gl (C.X i) "len":=by intro _;rfl):SE C (some []) (.Call (.Name "len" p) [a] [] pos) (opA aE1 ga):=
 gO (mZ (λ i=>by have h:=(uY (X:=C.X i)).or aHI;rw[C.hK i]at h;exact h) aLd hg hm zIS ha (by decide) (by decide) he) λ _ _ h=>qT aIz h
end
section
variable{K:zAA}{G:Gx}{wi:TI}{fi:En->Rs (List D)}{g:TG}{fg:D->En->Rs En}{tt:TT}
def aM9(hi:aLo K G wi fi)(hg:aLp K {G with E:=λ _ _ _=>False} g fg)(hfg:∀d,∃ρ1,fg d [.no]= .ok ρ1)(ht:aEt K {G with E:=λ _ _ _=>False} tt ju)(R:RR K G U ρ σ H lab)
  (W:WR G (fi (shE ρ)) (λ ds=>ds.length<zAY/\∀(l:Addr) (as:List Addr) H',aX H H'->H l=none->H' l=some (.lst (as.map V.ref))->(l::as).Nodup->as.length=ds.length->(∀a∈as,H a=none/\H' a=some (.lst []))->Q (.ref l) H')):
  tLC wi (stV [none]) g tt (aLz oZ) σ H Q:=by
 refine hi U σ H _ _ _ R.shE (W.imp λ ds _ w J H1 lab1 U1 s1 _ R1 jl=>?_);obtain⟨kQ,w⟩:=w;intro l hl;have hHl:H l=none:=s1.free hl;have nl:∀p o,H1 p=some o->p≠l:=λ p o e z=>by subst z;rw[hl]at e;cases e
 have RB:RR K {G with E:=λ _ _ _=>False} (U1++U) [.no] (stV [none] σ) H1 (λ p=>if p=l then(2,0)else(0,0)):=by
  refine⟨rfl,λ i s e=>?_,R1.old,λ p hp=>?_,λ q hq=>(R1.tm q hq).wk λ p o e _=>by rw[if_neg (nl p o e)];exact zAj _⟩
  .match i,e with
   |0,e=>cases e;exact .inl rfl
   |i+1,e=>simp at e
  .by_cases z:p=l
   .subst z;exact R1.old.free hl
   .exact absurd (show(if p=l then((2,0):Nat×Nat)else(0,0)).1=0 by rw[if_neg z]) hp
 have bX:¬((λ p=>if p=l then((2,0):Nat×Nat)else(0,0)) l).1<=1:=by simp
 refine⟨λ i n acc H2=>∃as:List Addr,n=ds.length-i/\i<=ds.length/\acc=as.map V.ref/\H2 l=some (.lst acc)/\RR K {G with E:=λ _ _ _=>False} (U1++U) [.no] (stV [none] σ) H2 (λ p=>if p=l then(2,0)else(0,0))/\aX H H2/\as.length=i/\(l::as).Nodup/\∀a∈as,H a=none/\H2 a=some (.lst []),
  ⟨ds.length,[],by omega,by omega,rfl,aq,RB.up (au hl _),s1.trans (au hl _),rfl,by simp,λ a h=>by simp at h⟩,?_⟩
 rintro i n acc H2 ⟨as,rfl,hi',rfl,hH2,R2,s2,hlen2,hnd,hal⟩;refine⟨hH2,by rw[zAE];omega,?_⟩;have jj:=jl _ H2 λ q hq=>R2.tm q (zAQ _ hq)
 by_cases hlt:i<ds.length
 .obtain⟨go,yl⟩:=(jj i).2 hlt
  refine .inr ⟨go,λ x H3 hy=>?_⟩;obtain⟨s3,d,ed,rx⟩:=yl x H3 hy;replace R2:=R2.up s3;replace hH2:=s3 _ _ hH2;replace s2:=s2.trans s3;replace hal:=λ a ha=>(⟨(hal a ha).1,s3 _ _ (hal a ha).2⟩:H a=none/\H3 a=some (.lst []))
  obtain⟨ρ1,e1⟩:=hfg d;refine hg (U1++U) x d _ H3 _ _ _ ρ1 R2 rx e1 λ σ4 R4=>?_
  refine ht (U1++U) σ4 H3 ρ1 _ _ R4 λ H5 s5=>?_
  rw[if_pos rfl];refine⟨zAj _,λ p H6 s6 hp hn=>?_⟩;have hl6:H6 l=some (.lst (as.map V.ref)):=s6 _ _ (s5 _ _ hH2);have hpl:p≠l:=λ z=>by subst z;rw[s5 _ _ hH2]at hn;cases hn
  have hpa:p∉as:=λ z=>by
   have:=s5 _ _ (hal p z).2
   rw[hn]at this;cases this
  have hpH:H p=none:=(s2.trans s5).free hn;have B:mR l H6 (upd H6 l (.lst (as.map V.ref++[.ref p]))):=λ b o ne hb=>by rw[bG ne];exact hb
  refine⟨hl6,ds.length-(i+1),by omega,as++[p],rfl,hlt,by rw[zAZ];rfl,aq,?_,?_,by rw[zA0];simp;omega,?_,λ a ha=>?_⟩
  .have R6:=R2.up (s5.trans s6)
   refine⟨R6.len,λ j s e=>?_,λ b o hb=>?_,R6.new,λ q hq=>(R6.tm q hq).but B hl6 rfl bX⟩
   .match j,e with
    |0,e=>cases e;exact .inl rfl
    |j+1,e=>simp at e
   .exact B b o (λ z=>by subst z;rw[R1.old.free hl]at hb;cases hb) (R6.old b o hb)
  .exact λ b o hb=>B b o (λ z=>by subst z;rw[hHl]at hb;cases hb) (((s2.trans s5).trans s6) b o hb)
  .obtain⟨n1,n2⟩:=zAp.mp hnd
   refine zAp.mpr ⟨λ z=>?_,zAb.mpr ⟨n2,by simp,λ x hx y hy e=>?_⟩⟩
   .rcases zAU.mp z with z|z
    .exact n1 z
    .exact hpl (zAI.mp z).symm
   .rw[zAI]at hy
    subst hy;subst e;exact hpa hx
  .rcases zAU.mp ha with z|z
   .refine⟨(hal a z).1,?_⟩
    rw[bG λ q=>by subst q;exact(zAp.mp hnd).1 z];exact s6 _ _ (s5 _ _ (hal a z).2)
   .rw[zAI]at z
    subst z;exact⟨hpH,by rw[bG hpl];exact hp⟩
 .have ei:i=ds.length:=by omega
  exact .inl ⟨by rw[ei];exact(jj _).1 (zAT _),w l as H2 s2 hHl hH2 hnd (by omega) hal⟩
end
section
variable{C:Ct}{pos lpos:Pos}{tg iter:Expr}{sc:Scope}{N:List Str}{js:hV}{ks:List Nat}{fi:En->Rs (List D)}{fg:D->En->Rs En}
def llS(i:Nat)(fi:En->Rs (List D))(js:hV)(fg:D->En->Rs En):En->Ou:=λ ρ=>(fi (shE ρ)).bo λ ds=>if ds.length<zAY then .nx (ρ.set i (.o2 (zAW ds.length [])))else .st
def aMD(hi:SI C tg iter fi)(hg:SG (C.blk sc N) tg ks fg)(hj:js=[none]:=by rfl)(hfg:∀d,∃ρ1,fg d [.no]= .ok ρ1:=by intro _;exact⟨_,rfl⟩)(hN:∀j,(C.X j).N[i]? =some x:=by intro _;rfl)(hx:∀j,Loc (C.X j).env.scope x:=by intro _;first|exact zC8 rfl|exact zBy rfl)(hsw:∀j,zCd (.ListComp (.List [] lpos) [⟨tg,iter,[],0⟩] sc pos) (some (.Name x pos')) spos.line (C.X j).env=pure true:=by intro _;rfl)(hs:∀i x,zBs iter (C.X i).env x=pure x:=by intro _ _;rfl)(hf:∀j,(C.X j).fn x=true\/(C.X j).env.scope.names.lookup x=some .local:=by intro _;first|exact .inl rfl|exact .inr rfl)(nd:∀j,(C.X j).N.Nodup:=by intro _;assumption)(hB:∀i,fJ (C.X i) sc N (stV js) ks:=by intro _;exact aBi rfl rfl rfl rfl rfl rfl):
  SS C (.Assign [.Name x pos'] (.ListComp (.List [] lpos) [⟨tg,iter,[],0⟩] sc pos) spos) (llS i fi js fg):=by
 subst hj;obtain⟨wi,i1,i2⟩:=hi;obtain⟨g,g1,g2,g3,g4⟩:=hg;obtain⟨tt,t1,t2⟩:=lw (C:=C.blk sc N);refine⟨_,λ j=>aCX (nd j) (hN j) (hx j) (hB j) (C.calm j) (i1 j) (λ c fp z4 zS=>g1 (j,c,fp,z4,zS)) g3 (λ c fp z4 zS=>t1 (j,c,fp,z4,zS)) (λ c fp z4 zS=>aBG gR) (hsw j) (hs j) (hf j),λ U σ H ρ lab De R W=>?_⟩;refine aM9 i2 g2 hfg t2 R (W.bo.imp λ ds _ w=>?_);by_cases hl:ds.length<zAY
 .rw[if_pos hl]at w
  refine⟨hl,λ l as H' s hn hH hnd kQ hal=>?_⟩;have aT:∀p o,H p=some o->(λ p=>if p=l then(i+2,0)else if p∈as then(i+2,as.idxOf p+1)else cJ H 1 lab p) p=lab p:=λ p o e=>by
   dsimp only;have z1:p≠l:=λ z=>by subst z;rw[hn]at e;cases e
   have z2:p∉as:=λ z=>by rw[(hal p z).1]at e;cases e
   rw[if_neg z1,if_neg z2,bf e]
  have R':RR C.K C.G U ρ σ H' (λ p=>if p=l then(i+2,0)else if p∈as then(i+2,as.idxOf p+1)else cJ H 1 lab p):=by
   refine(R.relab aT λ p hp=>?_).up s;cases e:H p with
   |none=>exact R.old.free e
   |some o=>
    have:=aT p o e
    dsimp only at this hp;rw[this]at hp;exact R.new p hp
  refine w _ _ _ (R'.put (s:=.o2 (zAW ds.length [])) ⟨l,as.map V.ref,rfl,hH,by dsimp only;rw[if_pos rfl],by rw[zAE,zCe];exact kQ,λ j x es e1 e2=>?_⟩);rw[zA2,zC7]at e1;obtain⟨a,e1,rfl⟩:=e1;have ees:es=[]:=by
   rw[zC4]at e2;split at e2
   .cases e2;rfl
   .cases e2
  subst ees;have ha:a∈as:=zBH e1;have hla:a≠l:=λ z=>by subst z;exact(zAp.mp hnd).1 ha
  have hj2:j<as.length:=(zAJ.mp e1).1;refine .lst (hal a ha).2 ?_ .nil
  show(if a=l then(i+2,0)else if a∈as then(i+2,as.idxOf a+1)else cJ H 1 lab a)=(i+2,j+1)
  rw[if_neg hla,if_pos ha];have hix:as.idxOf a<as.length:=List.idxOf_lt_length_iff.mpr ha
  have:as[as.idxOf a]? =some a:=by rw[zAD hix];exact congrArg some (List.getElem_idxOf hix)
  have:=(zCU hix (zAp.mp hnd).2).mp (this.trans e1.symm)
  rw[this]
 .rw[if_neg hl]at w
  exact zAR w
end
def aLH:∀{us:List α},us.length=6->∃a0 a1 a2 a3 a4 a5,us=[a0,a1,a2,a3,a4,a5]
 |[a0,a1,a2,a3,a4,a5],_=>⟨a0,a1,a2,a3,a4,a5,rfl⟩
def jT(j:Int):List Int:=(zAu j.toNat).map λ(k:Nat)=>0+(k:Int)
def aMn:List V->Hp->VK->Prop:=λ xs H Q=>∃j:Int,xs=[.int j]/\∀p,H p=none->Q (.ref p) (upd H p (.rng 0 j))
def aD1:cX X (.type "range") aMn:=by
 intro iX s σ H vs us Q I rv h;obtain⟨j,rfl,q⟩:=h;obtain⟨u,rfl,ru⟩:=rv.one;obtain⟨t,rfl⟩:=ru;exact call_range_1 ⟨.ref s.heap.objs.size,_,I.laid (a:=s.heap.objs.size) (o:=.rng 0 j) (t':=s.toks+1+1) (λ _ _ q=>zAC _ q) (zAT _) ⟨_,_,_,zAO _ rfl⟩,rfl,q _ (I.hok.fresh (zAT _))⟩
def aCV:List V->Hp->VK->Prop:=λ xs H Q=>∃(p:Addr) (j:Int),xs=[.ref p]/\H p=some (.rng 0 j)/\-(2^62)<=j/\j<=10000/\∀l H',aX H H'->H l=none->H' l=some (.lst ((jT j).map V.int))->Q (.ref l) H'
def aEv:∀{ns:List Int} {us:List Value},ns.length=us.length->(∀(k:Nat) i,ns[k]? =some i->∃tk,us[k]? =some (.int i tk))->Vals (ns.map V.int) us:=by
 intro ns;induction ns with
 |nil=>intro us hl _;rw[List.eq_nil_of_length_eq_zero hl.symm];exact .nil
 |cons n ns ih=>
  intro us hl h;obtain⟨tk,e⟩:=h 0 n rfl;cases us with
  |nil=>cases e
  |cons u us=>
   have e':u= .int n tk:=zAl e;subst e';exact .cons ⟨tk,rfl⟩ (ih (zHy hl) λ k i hi=>h (k+1) i hi)
def aBg(hc:X.calm=true):cX X (.type "list") aCV:=by
 intro iX s σ H vs us Q I rv h;obtain⟨p,j,rfl,hp,h1,h2,q⟩:=h;obtain⟨u,rfl,ru⟩:=rv.one;cases ru;obtain⟨t,u,v,hg⟩:=I.hok p _ hp;have hsz:zBU 0 j 1=(j.toNat:Int):=by
  unfold zBU;simp only[show(1:Int)>0 by decide,if_true];split<;>lia
 refine call_list_range (n:=j.toNat) (I.ok.hd hc) hg ?_ hsz (by lia) λ h' tk acc c' hk hS oQ=>?_
 .have fl:∀x:Int,-(2^62)<=x->x<=2^62->zC0 x=true:=λ x hx1 hx2=>by
   unfold zC0;simp;lia
  unfold zCc;rw[hsz,fl 0 (by lia) (by lia),fl j (by lia) (by lia),fl 1 (by lia) (by lia),fl _ (by lia) (by lia),if_pos (by decide),fl (j+(1-1)) (by lia) (by lia),zIe];rfl
 .have hfr:=I.hok.fresh (zAT s.heap.objs.size)
  have hv:Vals ((jT j).map V.int) acc.toList:=by
   have hl:(jT j).length=acc.toList.length:=by rw[show acc.toList.length=acc.size from zA9,oQ.1];simp[jT]
   refine aEv hl λ k i hi=>?_
   have hk2:k<acc.size:=by rw[oQ.1];have:=(zAJ.mp hi).1;simpa[jT]using this
   obtain⟨tk,e⟩:=oQ.2 k acc[k] (zCs hk2);refine⟨tk,?_⟩;have ei:i=0+(k:Int)*1:=by
    unfold jT at hi;rw[zA2]at hi;cases c:(zAu j.toNat)[k]? with
    |none=>rw[c]at hi;cases hi
    |some m=>
     rw[c]at hi;cases hi
     have:=zAJ.mp c
     have:m=k:=by simpa using this.2.symm
     subst this
     show(0:Int)+(m:Int)=0+(m:Int)*1
     lia
   rw[ei,<-e];simp[hk2]
  refine⟨.ref s.heap.objs.size,upd H s.heap.objs.size (.lst ((jT j).map V.int)),I.laid (t':=tk) hk (zAT _) ⟨?_,acc.toList,c',hv,by simpa using hS⟩,rfl,q _ _ (au hfr _) hfr aq⟩;simp[jT]
  have:zAY=16777216:=zBz
  lia
def lrR:D->Rs D
 | .int j=>if -(2^62)<=j/\j<=10000 then .ok (.lst (bN 0 j))else .st
 |_=>.st
def lrD(fa:En->Rs D):En->Rs D:=λ ρ=>(fa ρ).bd lrR
def vB(j:Int):bN 0 j=(jT j).map D.int:=by
 unfold bN jT;rw[zAi,Int.sub_zero];rfl
section
variable{C:Ct}{pos pos2 p p2:Pos}{a:Expr}{fa:En->Rs D}{m:Mode}
def rN(hmL:C.mg "list"=none)(hmR:C.mg "range"=none)(ha:SE C m a fa)(hs:∀i,zA1 [a] (C.X i).env=[(false,eval a (C.X i).env)]:=by intro _;rfl)(hs2:∀i,zA1 [.Call (.Name "range" p2) [a] [] pos2] (C.X i).env=[(false,eval (.Call (.Name "range" p2) [a] [] pos2) (C.X i).env)]:=by intro _;rfl)(hgL:∀i,Gl (C.X i) "list":=by intro _;rfl)(hvL:zAq "list"=some (.type "list"):=by decide+kernel)(hgR:∀i,Gl (C.X i) "range":=by intro _;rfl):SE C (some []) (.Call (.Name "list" p) [.Call (.Name "range" p2) [a] [] pos2] [] pos) (lrD fa):=by
 obtain⟨t,h1,h2⟩:=ha;refine⟨tCB aCV (je (tCB aMn (je t oZ)) oZ),λ i=>gZ (aBg (C.calm i)) (hgL i) (by rw[(C.cx i).2.2.2.1];exact hmL) hvL (dI (gZ aD1 (hgR i) (by rw[(C.cx i).2.2.2.1];exact hmR) zHI (dI (h1 i) gR (hs i)) (by decide) (by decide) (hs i) rfl) gR (hs2 i)) (by decide) (by decide) (hs2 i) rfl,λ U σ H ρ lab Q R W=>?_⟩;refine h2 U σ H ρ lab _ R (W.bd.imp λ d _ w y H1 s1 r1=>?_);unfold lrR at w;split at w
 .rename_i j _
  by_cases hz: -(2^62)<=j/\j<=10000
  .rw[if_pos hz]at w
   have ey:=r1.int_inv;subst ey;refine⟨j,rfl,λ q hq=>⟨q,j,rfl,aq,hz.1,hz.2,λ l H' s' hl hH'=>?_⟩⟩;have s0:=(s1.trans (au hq _)).trans s';have hlH:H l=none:=(s1.trans (au hq _)).free hl;refine w _ H' s0 (.lst hH' (.inl hlH) ?_);rw[vB];exact Rps.ints
  .rw[if_neg hz]at w
   exact zAR w
 .exact zAR w
end
def aMO:V->List V->Hp->VK->Prop:=λ x vs H Q=>∃(l:Addr) (S:Int->Bool) (n:Nat) (i:Int),x= .ref l/\vs=[.int i]/\H l=some (.set S n)/\n+1<zFA/\∀H',mR l H H'->H' l=some (.set (λ k=>S k||decide (k=i)) (if S i=true then n else n+1))->Q .non H'
def aKy:MtM X "set.add" aMO:=by
 intro iX s σ H x vs v us Q I rx rv h;obtain⟨l,S,n,i,rfl,rfl,hH,hn,q⟩:=h;cases rx;obtain⟨u,rfl,ru⟩:=rv.one;obtain⟨t,rfl⟩:=ru;have hS:s.heap.SetOf (zBe X.prog X.w) l S n:=I.hok l _ hH;refine call_set_add (k:=i) (by simp[zBe,zFj]) rfl hS hn λ h' hsb hS'=>⟨.non,_,?_,rfl,q _ (λ b o ne hb=>by rw[bG ne];exact hb) aq⟩
 refine I.write (x:=l) (e:=l) (by rw[hH];exact trivial) (.inl rfl) (λ b' u hb hu=>(hsb.2 b' hb).trans hu) ?_ hS';obtain⟨o,_,_,_,ho,_⟩:=hS';exact⟨o,ho⟩
def aGz(ds:List Int)(z:Int):(zAo ds z).length=if decide (z∈ds)=true then ds.length else ds.length+1:=by
 unfold zAo;by_cases h:z∈ds
 .rw[if_pos (by simpa using h),if_pos (by simpa using h)]
 .rw[if_neg (by simpa using h),if_neg (by simpa using h),zA0,zBE]
def aA7(ds:List Int)(z k:Int):(decide (k∈ds)||decide (k=z))=decide (k∈zAo ds z):=by
 unfold zAo;rw[zBI];split
 .rename_i h
  have h':z∈ds:=by simpa using h
  simp only[zDg,decide_eq_true_eq];exact⟨λ q=>q.elim id λ e=>e▸h',.inl⟩
 .simp
def aDU{z:Int}(nd:ds.Nodup):(zAo ds z).Nodup:=by
 unfold zAo;split
 .exact nd
 .rename_i h
  have h':¬z∈ds:=by simpa using h
  refine zAb.mpr ⟨nd,by simp,λ a ha b hb e=>?_⟩;rw[zAI]at hb;subst hb;subst e;exact h' ha
def aD9(ρ:En)(i:Nat)(ds:List Int):D->Ou
 | .int z=>if ds.length<4000 then .nx (ρ.set i (.ow (.set (zAo ds z))))else .st
 |_=>.st
def aJi(i:Nat)(fe:En->Rs D):En->Ou:=λ ρ=>match ρ[i]? with
 |some (.ow (.set ds))=>(fe ρ).bo λ d=>aD9 ρ i ds d
 |_=>.st
section
variable{C:Ct}{pos apos cpos p:Pos}{e:Expr}{fe:En->Rs D}{i:Nat}{x:Str}{m:Mode}
def aH7(i:Nat)(he:SE C m e fe)(hm:okN m=true:=by rfl)(hN:∀j,(C.X j).N[i]? =some x:=by intro _;rfl)(hv:∀j,Vis (C.X j).env.scope x:=by intro _;first|exact zC8 rfl|exact zBy (zC8 rfl)|exact zBy (zBy rfl))(hd:Nd x:=by decide)
  (hcd:(x==("__classdict__":Str))=false:=by decide)(hs1:∀j,zA1 [e] (C.X j).env=[(false,eval e (C.X j).env)]:=by intro _;rfl)
  (hbase:∀j,zDs (.Name x p) "add" (C.X j).env (eval (.Name x p) (C.X j).env)=eval (.Name x p) (C.X j).env:=by intro _;rfl)
  (hfew:∀j,((zCo cpos (zA1 [e] (C.X j).env)).all (λ x=>!x.1)&&(zFM cpos (zD7 [] (C.X j).env)).all (λ x=>x.1.isSome)&&decide ([e].length+([]:List zCj).length+(if ([]:List zCj).isEmpty then 0 else 1)<30))=true:=by intro _;rfl)
  (hline:(apos.endLine==cpos.line)=true:=by rfl)
  (hsw:∀j,zCd (.Call (.Attribute (.Name x p) "add" apos) [e] [] cpos) none pos.line (C.X j).env=pure false:=by intro _;rfl):
  SS C (.Expr (.Call (.Attribute (.Name x p) "add" apos) [e] [] cpos) pos) (aJi i fe):=by
 obtain⟨t,h1,h2⟩:=he;refine⟨aBw (tBM C.K "set" aMO (xO i) (je t oZ)),λ j=>tX (by rw[<-C.hK j];exact aCY PySem.F.plainAttrs_set PySem.F.slot_set_add PySem.F.type_set_add aKy (mH (hN j) (hv j) hd hcd) (dI (h1 j) gR (hs1 j)) (hbase j) (hfew j) hline (hs1 j) rfl) (hsw j),λ U σ H ρ lab De R W=>?_⟩;unfold aJi at W;cases es:ρ[i]? with
 |none=>rw[es]at W;exact zAR W
 |some s=>
  rw[es]at W;split at W
  .rename_i ds hs
   cases hs;rcases R.sl i _ es with z|⟨v,ev,hv'⟩
   .cases z
   .obtain⟨hv1,htop⟩:=hv'
    obtain⟨a0,ea0,la0⟩:=htop rfl;subst ea0;cases hv1 with
    |set h mm hS nd=>
     rename_i S;refine⟨.ref a0,ev,.inr (.inr (.inr ⟨rfl,S,_,h⟩)),h2 U σ H ρ lab _ R (W.bo.imp λ d _ w y H2 s2 r2=>?_)⟩;unfold aD9 at w;split at w
     .rename_i z _
      by_cases hz:ds.length<4000
      .rw[if_pos hz]at w
       have ey:=r2.int_inv;subst ey;have hb:zFA=4096:=rfl;refine⟨a0,S,ds.length,z,rfl,rfl,s2 _ _ h,by omega,λ H3 B h3=>?_⟩;refine w σ H3 _ ((R.up s2).mut ev (s2 _ _ h) rfl la0 B ⟨?_,λ _=>⟨a0,rfl,la0⟩⟩);have e1:(if S z=true then ds.length else ds.length+1)=(zAo ds z).length:=by
        rw[hS z];exact(aGz ds z).symm
       rw[e1]at h3;exact .set h3 (.inr la0) (λ k=>by rw[hS k];exact aA7 ds z k) (aDU nd)
      .rw[if_neg hz]at w
       exact zAR w
     .exact zAR w
  .exact zAR W
end
def aMH:List V->Hp->VK->Prop:=λ xs H Q=>xs=[]/\∀p,H p=none->Q (.ref p) (upd H p (.set (λ _=>false) 0))
def aHF:cX X (.type "set") aMH:=by
 intro iX s σ H vs us Q I rv h;obtain⟨rfl,q⟩:=h;cases rv;refine call_set_0 λ led=>⟨.ref s.heap.objs.size,_,I.laid (a:=s.heap.objs.size) (o:=.set (λ _=>false) 0) (t':=s.toks) (λ _ _ q=>zAC _ q) (zAT _) ?_,rfl,q _ (I.hok.fresh (zAT _))⟩
 exact⟨_,#[],0,_,zAO _ rfl,⟨rfl,rfl,rfl⟩,rfl,λ e he=>by simp at he,λ k=>by simp,by decide,by rfl,rfl⟩
def aO6(neg:Bool):R2:=λ x y H Q=>∃(i:Int) (a:Addr) (S:Int->Bool) (n:Nat),x= .int i/\y= .ref a/\H a=some (.set S n)/\Q (.bl (if neg then !S i else S i)) H
def aKk:OpR X (zAs .NotIn) (aO6 true):=by
 intro iX s σ H x y v u Q I rx ry h;obtain⟨i,a,S,n,rfl,rfl,hH,q⟩:=h;obtain⟨t,rfl⟩:=rx;cases ry;have hS:s.heap.SetOf (zBe X.prog X.w) a S n:=I.hok a _ hH;exact wpAny_notInSet_of (k:=i) (by simp[zBe,zFj]) rfl hS ⟨.bl (!S i),H,I.tok _,rfl,q⟩
def inX(neg:Bool):D->D->Rs D
 | .int i,.set l=>.ok (.bl (if neg then !decide (i∈l)else decide (i∈l)))
 |d,e=>inR neg d e
def aNM{K:zAA}:OpS K (λ x y H Q=>aGZ K n x y H Q\/aO6 n x y H Q) (inX n):=by
 intro A x y d e H Q z rx ry ez q;unfold inX at ez;split at ez
 .cases ez
  have ex:=rx.int_inv;subst ex;cases ry with
  |set h m hS nd=>exact .inr ⟨_,_,_,_,rfl,rfl,h,by rw[hS];exact q _ H (aX.refl H) (.bl _)⟩
 .exact .inl (aI0 A x y d e H Q z rx ry ez q)
section
variable{C:Ct}{pos p:Pos}{a b:Expr}{fa fb:En->Rs D}{m1 m2:Mode}
def aFE(ha:SE C m1 a fa)(hb:SE C m2 b fb)(hm:zCS .NotIn b=false:=by with_unfolding_all rfl):ST C (.Compare a [.NotIn] [b] pos) (tsb (op2 (inX true) fa fb)):=lu (λ i=>(C.ninRl i).or aKk) aNM ha hb hm
def aFP(hm:C.mg "set"=none)(hg:∀i,Gl (C.X i) "set":=by intro _;rfl)(hv:zAq "set"=some (.type "set"):=by decide+kernel):SE C (some []) (.Call (.Name "set" p) [] [] pos) (cD (.set [])):=by
 refine⟨tCB aMH oZ,λ i=>aEI aHF (hg i) (by rw[(C.cx i).2.2.2.1];exact hm) hv,λ U σ H ρ lab Q R W=>?_⟩;exact⟨rfl,λ q hq=>W _ _ (au hq _) (.set aq (.inl hq) (λ _=>by simp) (by simp))⟩
end
section
variable{prog:zA7}{w:World}{A:zAk}{E:Value->zAG->Prop}{s:zAG}{r:Addr}{a b c:Int}{t u v:Tok}{n:Nat}
def PR(a c:Int):Nat->Value->Prop:=λ i v=>∃t,v= .int (a+i*c) t
def aDX(hh:A.handled=none)(hr:IsRange s.heap r a b c t u v)(hsmall:zCc a b c=true)(hn:zBU a b c=n)(kQ:n<=2^24)
  (h:∀h' tk vs,s.heap.objs.size<h'.objs.size->(∀b o,s.heap.get? b=some o->h'.get? b=some o)->vs.length=n->(∀(j:Nat) v,vs[j]? =some v->PR a c j v)->Q vs {s with heap:=h',toks:=tk}):wpAny (model prog w) A (zIZ (.ref r)) Q E s:=by
 unfold zIZ;refine zAB (zHD (zCI zFY ?_));rw[zBw zFZ _];show wpAny _ A.in1 (zGB []>>=λ l=>again (.builtin "list.__iadd__" ⟨[l,.ref r],[]⟩)) _ _ s;refine zAB (zBF (zAK ⟨zFk zDC _,zCI zEY ?_⟩));rw[zBw zDC _];show wpAny _ A.in1 (zEk (.ref s.heap.objs.size) (.ref r) (.ref s.heap.objs.size)) _ _ _;have fin:∀h' tk acc' c',(∀b o,b≠s.heap.objs.size->(s.heap.push (zBv "list" #[] 0)).get? b=some o->h'.get? b=some o)->h'.get? s.heap.objs.size=some {cls:=.type "list",dict:=none,data:=.seq acc' c',slots:=#[]}->ItemsOf (PR a c) acc' n->
   wpAny (model prog w) A (do match (zBr s.heap.objs.size)with
    | .ref a=>match (<-load a).data with
     | .seq xs _=>pure xs.toList
     |_=>zGc "internal:collect"
    |_=>zGc "internal:collect") Q E {s with heap:=h',toks:=tk}:=λ h' tk acc' c' hk hS' oQ=>
  zAB (zIy hS' (zAK (h h' tk acc'.toList (zAV hS') (λ b o e=>hk b o (zA8 (zAV e)) (zAC _ e)) (by rw[zA9];exact oQ.1) λ j v e=>oQ.2 j v (by rw[<-zBp];exact e))))
 refine zB5 (wpAny_extend_range (A:=A) (s:={s with heap:=s.heap.push (zBv "list" #[] 0)}) (R:=λ r s'=>∃h' tk acc' c',r= .ok (.ret (.ref s.heap.objs.size))/\s'={s with heap:=h',toks:=tk}/\(∀b o,b≠s.heap.objs.size->(s.heap.push (zBv "list" #[] 0)).get? b=some o->h'.get? b=some o)/\h'.get? s.heap.objs.size=some {cls:=.type "list",dict:=none,data:=.seq acc' c',slots:=#[]}/\ItemsOf (PR a c) acc' n)
  hh (zAC _ hr) hsmall hn kQ s.heap.objs.size (.ref s.heap.objs.size) 0 (zAO _ rfl) (λ h' tk acc' c' hk hS' oQ=>⟨h',tk,acc',c',rfl,rfl,hk,hS',oQ⟩)) (λ f s' hf=>?_) λ e s' he=>?_
 .cases f with
  |done f=>
   obtain⟨h',tk,acc',c',q1,q2,q3,q4,q5⟩:=hf;cases q1;subst q2;exact fin h' tk acc' c' q3 q4 q5
  |again c=>
   refine⟨hf.1,zDf hf.2 λ r s' hr=>?_⟩;obtain⟨h',tk,acc',c',q1,q2,q3,q4,q5⟩:=hr;subst q1 q2;exact fin h' tk acc' c' q3 q4 q5
 .obtain⟨h',tk,acc',c',q1,_⟩:=he
  cases q1
end
def wW(r:Addr)(a b c:Int)(t u v:Tok)(n:Nat)(hsmall:zCc a b c=true)(hn:zBU a b c=n)(kQ:n<=10000):
  Meets (zDP.«tuple.__new__» ⟨[.type "tuple",.ref r],[]⟩)
   (λ A R s=>A.handled=none/\IsRange s.heap r a b c t u v/\∀(h':Heap) (tk:Nat) (vs:List Value),s.heap.objs.size<h'.objs.size->(∀b o',s.heap.get? b=some o'->h'.get? b=some o')->vs.length=n->(∀(j:Nat) v,vs[j]? =some v->PR a c j v)->
    R (.ok (.ret (.ref h'.objs.size))) {s with heap:=h'.push {cls:=.type "tuple",data:=.seq vs.toArray},toks:=tk}):=
 .of_wp λ prog w A R s h=>by
  obtain⟨hp,g,d,tk,os⟩:=s;obtain⟨hh,ht,h⟩:=h;have aS:=sub_tuple_self;have hinit:=init_tuple_lookup;have hmh:=madeHere_tuple;have hT:zIT ⟨hp,g,d,tk,os⟩ (.ref r) "range":=⟨_,ht,rfl⟩;wp_walk using zCt ht,zFC hT,aDX (A:=A.in1) (show A.in1.handled=none from hh) ht hsmall hn (zAn kQ (by decide));intro h' tk' vs hlt hk hl hv;show wpAny _ _ (zBf vs.toArray>>=λ v=>ret v) _ _ _;unfold zBf;refine zAB (zBF ?_ (by show vs.toArray.size<=zAY;rw[zAP,hl,zBz];lia));exact zAK ⟨_,rfl,h h' tk' vs hlt hk hl hv⟩
def aFW:List V->Hp->VK->Prop:=λ xs H Q=>∃(p:Addr) (j:Int),xs=[.ref p]/\H p=some (.rng 0 j)/\-(2^62)<=j/\j<=10000/\∀l H',aX H H'->H l=none->H' l=some (.tup ((jT j).map V.int))->Q (.ref l) H'
def aGT(h1: -(2^62)<=j)(h2:j<=10000):zBU 0 j 1=(j.toNat:Int)/\zCc 0 j 1=true:=by
 have hsz:zBU 0 j 1=(j.toNat:Int):=by
  unfold zBU;simp only[show(1:Int)>0 by decide,if_true];split<;>lia
 refine⟨hsz,?_⟩;have fl:∀x:Int,-(2^62)<=x->x<=2^62->zC0 x=true:=λ x hx1 hx2=>by
  unfold zC0;simp;lia
 unfold zCc;rw[hsz,fl 0 (by lia) (by lia),fl j (by lia) (by lia),fl 1 (by lia) (by lia),fl _ (by lia) (by lia),if_pos (by decide),fl (j+(1-1)) (by lia) (by lia),zIe];rfl
def aD0(hc:X.calm=true):cX X (.type "tuple") aFW:=by
 intro iX s σ H vs us Q I rv h;obtain⟨p,j,rfl,hp,h1,h2,q⟩:=h;obtain⟨u,rfl,ru⟩:=rv.one;cases ru;obtain⟨t,u,v,hg⟩:=I.hok p _ hp;obtain⟨hsz,hsm⟩:=aGT h1 h2;refine callType_new PySem.F.called_tuple (by decide) (PySem.F.typeCall_tuple_1 _) (PySem.F.newCall_tuple_1 _) (λ obj=>PySem.F.args_object_init_2 obj _) PySem.F.entry_tuple_new
  (wW p 0 j 1 t u v j.toNat hsm hsz (by lia)) ⟨I.ok.hd hc,hg,λ h' tk vs hlt hk hl hv=>⟨⟨_,zAO _ rfl,rfl⟩,?_⟩⟩
 have hle:s.heap.objs.size<=h'.objs.size:=zB1 hlt;have hv2:Vals ((jT j).map V.int) vs:=by
  have hl2:(jT j).length=vs.length:=by rw[hl];simp[jT]
  refine aEv hl2 λ k i hi=>?_
  have hk2:k<vs.length:=by rw[<-hl2];exact(zAJ.mp hi).1
  obtain⟨tk,e⟩:=hv k vs[k] (zAD hk2);refine⟨tk,?_⟩;have ei:i=0+(k:Int)*1:=by
   unfold jT at hi;rw[zA2]at hi;cases c:(zAu j.toNat)[k]? with
   |none=>rw[c]at hi;cases hi
   |some m=>
    rw[c]at hi;cases hi
    have:=zAJ.mp c
    have:m=k:=by simpa using this.2.symm
    subst this
    show(0:Int)+(m:Int)=0+(m:Int)*1
    lia
  rw[ei,<-e];exact zAD hk2
 have hfr:H h'.objs.size=none:=I.hok.fresh hle;refine⟨.ref h'.objs.size,upd H h'.objs.size (.tup ((jT j).map V.int)),I.laid (t':=tk) (λ b o e=>zAC _ (hk b o e)) hle ⟨⟨?_,NoD.push _⟩,vs,hv2,?_⟩,rfl,q _ _ (au hfr _) hfr aq⟩
 .simp[jT]
  have:zAY=16777216:=zBz
  lia
 .exact⟨_,zAO _ rfl,rfl,0,rfl⟩
def trR:D->Rs D
 | .int j=>if -(2^62)<=j/\j<=10000 then .ok (.tup (bN 0 j))else .st
 |_=>.st
def trD(fa:En->Rs D):En->Rs D:=λ ρ=>(fa ρ).bd trR
section
variable{C:Ct}{pos pos2 p p2:Pos}{a:Expr}{fa:En->Rs D}{m:Mode}
def aGV(hmL:C.mg "tuple"=none)(hmR:C.mg "range"=none)(ha:SE C m a fa)(hs:∀i,zA1 [a] (C.X i).env=[(false,eval a (C.X i).env)]:=by intro _;rfl)(hs2:∀i,zA1 [.Call (.Name "range" p2) [a] [] pos2] (C.X i).env=[(false,eval (.Call (.Name "range" p2) [a] [] pos2) (C.X i).env)]:=by intro _;rfl)(hgL:∀i,Gl (C.X i) "tuple":=by intro _;rfl)(hvL:zAq "tuple"=some (.type "tuple"):=by decide+kernel)(hgR:∀i,Gl (C.X i) "range":=by intro _;rfl):SE C (some []) (.Call (.Name "tuple" p) [.Call (.Name "range" p2) [a] [] pos2] [] pos) (trD fa):=by
 obtain⟨t,h1,h2⟩:=ha;refine⟨tCB aFW (je (tCB aMn (je t oZ)) oZ),λ i=>gZ (aD0 (C.calm i)) (hgL i) (by rw[(C.cx i).2.2.2.1];exact hmL) hvL (dI (gZ aD1 (hgR i) (by rw[(C.cx i).2.2.2.1];exact hmR) zHI (dI (h1 i) gR (hs i)) (by decide) (by decide) (hs i) rfl) gR (hs2 i)) (by decide) (by decide) (hs2 i) rfl,λ U σ H ρ lab Q R W=>?_⟩;refine h2 U σ H ρ lab _ R (W.bd.imp λ d _ w y H1 s1 r1=>?_);unfold trR at w;split at w
 .rename_i j _
  by_cases hz: -(2^62)<=j/\j<=10000
  .rw[if_pos hz]at w
   have ey:=r1.int_inv;subst ey;refine⟨j,rfl,λ q hq=>⟨q,j,rfl,aq,hz.1,hz.2,λ l H' s' hl hH'=>?_⟩⟩;refine w _ H' ((s1.trans (au hq _)).trans s') (.tup (SqT.of hH') ?_);rw[vB];exact Rps.ints
  .rw[if_neg hz]at w
   exact zAR w
 .exact zAR w
end
section
variable{prog:zA7}{w:World}{A:zAk}{E:Value->zAG->Prop}{s:zAG}{it t:Addr}{i:Nat}{items:Array Value}
theorem NoD.at{h:Heap}{a:Addr}{o:Obj}(e:h.get? a=some o)(hd:o.dict=none:=by rfl):L2.NoD h a:=λ u q=>by rw[e]at q;cases q;exact hd
def sI(hit:s.heap.IsTupleIter it t i)(ht:s.heap.IsTuple t items)(hx:items[i]? =some x)
  (hQ:∀h',h'.IsTupleIter it t (i+1)->zE0 it s.heap h'->Q x {s with heap:=h'}):wpAny (model prog w) A (zBJ (.ref it)) Q E s:=by
 obtain⟨o,ho,hc,hd⟩:=id hit;obtain⟨ol,hol,_,nl,hdl⟩:=ht;unfold zBJ;refine zAB (zBW (name:=zDF "__next__") hit.typeIs zCv (zBV zCv hit.typeIs zGN ?_ (zGH _)));show wpAny _ _ (field (.ref it) 0>>=_) _ _ s;refine zAB (zBt ho hd (x:=.ref t) rfl ?_);show wpAny _ _ (if (zBr t==zBR)=true then _ else _) _ _ s;rw[if_neg (show¬((zBr t==zBR)=true)from zAX)];show wpAny _ _ (field (.ref it) 1>>=_) _ _ s;refine zAB (zBt ho hd (x:=.int i 0) rfl ?_);show wpAny _ _ (seqItems? (.ref t)>>=_) _ _ s;refine zAB (zCh hol hdl ?_);simp only[zCX,hx];refine zAB (zEV ho hd (by simp) (zAK ⟨x,rfl,zAK (hQ _ ⟨_,zDW _ ho (zGx (zFQ hd _)),(Obj.cls_mapFields ..).trans hc,by rw[zFQ hd];simp[zIK]⟩ (zB6 ..))⟩))
def aAP(hh:A.handled=none)(hit:s.heap.IsTupleIter it t i)(ht:s.heap.IsTuple t items)(hx:items[i]? =none)
  (hE:∀h' e,zFp it s.heap h'->(∃o,h'.get? e=some o/\o.cls= .type "StopIteration")->E (.ref e) {s with heap:=h'}):wpAny (model prog w) A (zBJ (.ref it)) Q E s:=by
 obtain⟨o,ho,hc,hd⟩:=id hit;obtain⟨ol,hol,_,nl,hdl⟩:=ht;unfold zBJ;refine zAB (zBW (name:=zDF "__next__") hit.typeIs zCv (zBV zCv hit.typeIs zGN ?_ (zGH _)));show wpAny _ _ (field (.ref it) 0>>=_) _ _ s;refine zAB (zBt ho hd (x:=.ref t) rfl ?_);show wpAny _ _ (if (zBr t==zBR)=true then _ else _) _ _ s;rw[if_neg (show¬((zBr t==zBR)=true)from zAX)];show wpAny _ _ (field (.ref it) 1>>=_) _ _ s;refine zAB (zBt ho hd (x:=.int i 0) rfl ?_);show wpAny _ _ (seqItems? (.ref t)>>=_) _ _ s;refine zAB (zCh hol hdl ?_);simp only[zCX,hx];refine zAB (zGG (zAB (zEV ho hd (by simp) ?_)));show wpAny _ _ (newExc (.type "StopIteration") []>>=_) _ _ _;refine zAB ?_;simp only[newExc,newTuple];refine zAB (zBF ?_ (by size_fits));refine zAB (m:=zFW _ _) (zI6 (a:=zBR) (by simp only[zFW];rfl) ?_);refine zBF ?_ (by size_fits);simp only[raiseNew];refine zAB (wpAny_handled ?_);first|rw[show A.in1.handled=none from hh]|rw[hh]
 refine zAB (zAK (wpAny_throw ?_));exact hE _ _ (((zB6 ..).extBut.push _).push _) ⟨_,zAO _ rfl,rfl⟩
end
def aIu{X:Cx}{iX:hZ}{σ:List (Option V)}{H:Hp}{s:zAG}{h':Heap}{ch:List Addr}{p t':Nat}{o:HO}(I:Inv X iX σ H s)(hf:∀b∈ch,tD X iX H b)(k:∀b u,b∉ch->s.heap.get? b=some u->h'.get? b=some u)
  (hp:s.heap.objs.size<=p)(new:dX X.prog X.w (upd H p o) h' p o):Inv X iX σ (upd H p o) {s with heap:=h',toks:=t'}:=by
 have hn:=I.hok.fresh hp;have nch:∀b u,H b=some u->b∉ch:=λ b u e z=>by have:=(hf b z).1;rw[e]at this;cases this
 refine I.call (g':=s.gens) (d':=s.drawn) (ch:=ch) ⟨λ b u q _ _ hx=>k b u hx q,λ b u q _ _ hx=>⟨u.slots,k b u hx q⟩,λ b u q n _=>?_,λ b u q hx=>⟨u,k b u hx q⟩,λ b xs q=>?_,λ b u xs q=>?_,λ b ps q=>⟨#[],?_⟩⟩ (λ b u e=>?_) I.bare
  λ b hb=>let⟨_,f1,_,f3,f4,f5⟩:=hf b hb;⟨f3,f1,f4,f5⟩
 .rw[bG (zA8 (zA4 (zAV q) hp))];exact n
 .rw[bG (cU q hn)];exact q
 .rw[bG (cU q hn)];exact q
 .rw[bG (cU q hn),q];simp
 .by_cases hb:b=p
  .subst hb;rw[aq]at e;cases e;exact new
  .rw[bG hb]at e
   refine(I.hok b u e).stay (λ c v hc q=>k c v ?_ q) (λ c q=>by rw[bG (cU q hn)];exact q) λ c xs q=>by rw[bG (cU q hn)];exact q
   rcases hc with rfl|hc
   .exact nch _ _ e
   .exact nch _ _ hc
theorem aIp:∀{k:List Int} {us:List Value},Vals (k.map V.int) us->ItemsAre (zBe P w) k us
 |[],_,r=>by cases r;exact .nil
 |i::k,_,r=>by
  cases r with
  |cons h t=>obtain⟨t0,rfl⟩:=h;exact .cons (by simp[zBe,zFj]) (aIp t)
abbrev Ent:=List Int×Addr×V
def DxP(es:List Ent)(xs:List (List Int×Addr×Value)):Prop:=zIA (λ(e:Ent) x=>e.1=x.1/\e.2.1=x.2.1/\RelV e.2.2 x.2.2) es xs
def DxP.mem(p:DxP es xs):∀x∈xs,∃e∈es,e.1=x.1/\e.2.1=x.2.1:=by
 unfold DxP at p;induction p with
 |nil=>intro x hx;cases hx
 |cons h t ih=>
  intro x hx;rcases zAL.mp hx with rfl|hx
  .exact⟨_,zAH ..,h.1,h.2.1⟩
  .obtain⟨e,he,q⟩:=ih x hx;exact⟨e,zAF _ he,q⟩
def DxP.keys(p:DxP es xs):es.map (·.1)=xs.map (·.1):=by
 unfold DxP at p;induction p with
 |nil=>rfl
 |cons h t ih=>rw[zAM,zAM,ih,h.1]
theorem aGK(k:List Int):∀(xs:List (List Int×β)),(xs.find? λ x=>decide (x.1=k)).isSome=(xs.map (·.1)).any (·==k)
 |[]=>rfl
 |x::xs=>by
  rw[zAM,zFG,<-aGK k xs,List.find?_cons];by_cases e:x.1=k
  .simp[e]
  .have:(x.1==k)=false:=by simpa using e
   simp[e,this]
def DxP.has(p:DxP es xs)(k:List Int):(atKey xs k).isSome=(es.map (·.1)).any (·==k):=by
 unfold atKey;rw[Option.isSome_map,aGK,p.keys]
def DxP.snoc(p:DxP es xs)(h:e.1=x.1/\e.2.1=x.2.1/\RelV e.2.2 x.2.2):DxP (es++[e]) (xs++[x]):=by
 unfold DxP at p ⊢;induction p with
 |nil=>exact .cons h .nil
 |cons q t ih=>exact .cons q ih
def DxP.same(p:DxP es xs)(k:List Int):(∀e∈es,e.2.2= .bl true)->DxP es (xs.map (putAt k (.bool true))):=by
 unfold DxP at p ⊢;induction p with
 |nil=>intro _;exact .nil
 |cons q t ih=>
  intro h;refine .cons ?_ (ih λ e he=>h e (zAF _ he));unfold putAt;split
  .exact⟨q.1,q.2.1,by rw[h _ (zAH ..)];exact rfl⟩
  .exact q
def yE(es:List Ent)(k:List Int)(b:Addr):List Ent:=if (es.map (·.1)).any (·==k)then es else es++[(k,b,.bl true)]
def DxP.put(p:DxP es xs)(k:List Int)(b:Addr)(h:∀e∈es,e.2.2= .bl true):DxP (yE es k b) (storedH xs k b (.bool true)):=by
 unfold yE storedH;rw[p.has];split
 .exact p.same k h
 .exact p.snoc ⟨rfl,rfl,rfl⟩
section
variable{X:Cx}{iX:hZ}{σ:L2.St}{H:Hp}{s:zAG}{a b:Addr}{k:List Int}{es:List Ent}
def aLM(I:Inv X iX σ H s)(h:SqT X.K H b (k.map V.int)):(zFl (zBe X.prog X.w)).is s.heap k b:=by
 obtain⟨its,rv,⟨o,h1,h2,n,h3⟩,hz⟩:=I.tuple h;exact⟨o,its.toArray,n,h1,h2,h3,by simpa using aIp rv⟩
def aMZ(I:Inv X iX σ H s)(h:DxK X.K H a es):es.length<=zAY/\(a==zD8)=false/\∃xs,DxP es xs/\s.heap.DictOfH (zFl (zBe X.prog X.w)) a xs:=by
 obtain⟨⟨hl,hd,xs,o,ts,ep,pr,h1,h2,h3,h4⟩,_⟩:=(show dX X.prog X.w H s.heap a (dxO a es)from I.hok a _ h.at_);refine⟨hl,hd,xs,pr,o,ts,ep,h1,h2,h3,h4,λ x hx=>?_,by rw[<-DxP.keys pr];exact h.nd⟩;obtain⟨e,he,e1,e2⟩:=DxP.mem pr x hx;rw[<-e1,<-e2];exact aLM I (h.ks e he)
def aOC(hl:es.length<=zAY)(hd:(a==zD8)=false)(pr:DxP es xs)(dd:h'.DictOfH (zFl (zBe X.prog X.w)) a xs):dX X.prog X.w H' h' a (dxO a es):=by
 obtain⟨o,ts,ep,h1,h2,h3,h4,_,_⟩:=dd;exact⟨⟨hl,hd,xs,o,ts,ep,pr,h1,h2,h3,h4⟩,⟨o,h1⟩,λ g1 g2 ⟨hl,hd,xs,o,ts,ep,pr,h1,r⟩ k=>⟨hl,hd,xs,o,ts,ep,pr,k o h1,r⟩⟩
def aON(K:zAA)(tk tv:TE):Addr->L2.St->Hp->(Hp->Prop)->Prop:=λ D σ H Q=>tk σ H λ y H1=>tv σ H1 λ v H2=>∃b k es,y= .ref b/\v= .bl true/\SqT K H2 b (k.map V.int)/\DxK K H2 D es/\(∀e∈es,e.2.2= .bl true)/\es.length<zAY/\Q (upd H2 D (dxO D (yE es k b)))
def aCl(es:List Ent)(k:List Int)(b:Addr):(yE es k b).length<=es.length+1:=by
 unfold yE;split
 .omega
 .rw[zA0];exact zAT _
def aOd(hu:X.A.units<cLine)(hk:PE X kx tk)(hv:PE X vx tv):PB X (zM kx vx) (aON X.K tk tv):=by
 intro D iX s σ H Q I h;unfold zM;refine zAB (thn (hk iX s σ H _ I h) λ u s1 ⟨y,H1,I1,r1,q1⟩=>zAB (zB2 (thn (hv iX s1 σ H1 _ I1 q1) λ u2 s2 ⟨v,H2,I2,r2,b,k,es,ey,ev,hb,hD,hes,hl,q⟩=>?_)));subst ey ev;cases r1;cases r2;refine zAB (zDt (zB2 ?_));obtain⟨z,hd,xs,pr,dd⟩:=aMZ I2 hD;refine wpAny_dictSet_heap (hsz:=by rw[<-zGK pr];exact z) (show(zFl (zBe X.prog X.w)).room X.A from hu) (aLM I2 hb) dd λ h' dd' hs=>⟨_,?_,q⟩
 obtain⟨o,ts,ep,h1,r⟩:=id dd';exact I2.write (x:=D) (e:=D) (by rw[hD.at_];exact trivial) (.inl rfl) (λ b' u hb hu=>(hs.2 b' hb).trans hu) ⟨o,h1⟩ (aOC (zAn (aCl es k b) hl) hd (pr.put k b hes) dd')
def aG0(K:zAA)(neg:Bool):R2:=λ x y H Q=>∃b a k es,x= .ref b/\y= .ref a/\SqT K H b (k.map V.int)/\(DxK K H a es\/(es=[]/\H a=some (.dK [])))/\Q (.bl (neg !=(es.map (·.1)).any (·==k))) H
def aMY(I:Inv X iX σ H s)(h:DxK X.K H a es\/(es=[]/\H a=some (.dK []))):(a==zD8)=false/\∃xs,DxP es xs/\s.heap.DictOfH (zFl (zBe X.prog X.w)) a xs:=by
 rcases h with h|⟨rfl,h⟩
 .exact(aMZ I h).2
 .obtain⟨_,hd,vs,kv,o,ts,ep,h1,h2,h3,h4⟩:=(show dX X.prog X.w H s.heap a (.dK [])from I.hok a _ h)
  cases kv;exact⟨hd,[],.nil,o,ts,ep,h1,h2,h3,by generalize ts.toList=l at h4;obtain⟨_,h4,_⟩:=h4;cases h4;rfl,λ x hx=>(by cases hx),zEi⟩
def aN1(hu:X.A.units+1<cLine):OpR X (zAs .In) (aG0 X.K false):=by
 intro iX s σ H x y v u Q I rx ry ⟨b,a,k,es,ex,ey,hb,hD,q⟩;subst ex ey;cases rx;cases ry;obtain⟨hd,xs,pr,dd⟩:=aMY I hD;refine wpAny_in_heap (zId hu) (aLM I hb) hd dd ?_;rw[pr.has k];exact⟨.bl ((es.map λ e:Ent=>e.1).any (·==k)),H,I.tok _,rfl,by simpa using q⟩
def aKl(hu:X.A.units+1<cLine):OpR X (zAs .NotIn) (aG0 X.K true):=by
 intro iX s σ H x y v u Q I rx ry ⟨b,a,k,es,ex,ey,hb,hD,q⟩;subst ex ey;cases rx;cases ry;obtain⟨hd,xs,pr,dd⟩:=aMY I hD;refine wpAny_notIn_heap (zId hu) (aLM I hb) hd dd ?_;rw[pr.has k];exact⟨.bl (!(es.map λ e:Ent=>e.1).any (·==k)),H,I.tok _,rfl,by simpa using q⟩
end
def aDE:D->Option (List Int)
 | .tup l=>intsOf l
 |_=>none
def aAR:List D->Option gV
 |[]=>some []
 |d::ds=>match aDE d,aAR ds with
  |some k,some ks=>some (k::ks)
  |_,_=>none
def aIm:List D->Option gV
 |[]=>some []
 | .non::ks=>aAR ks
 |_=>none
def aNq(neg:Bool):Option (List Int)->Option gV->Rs D
 |some k,some kk=>.ok (.bl (neg !=kk.any (·==k)))
 |_,_=>.st
def inK(neg:Bool)(d e:D):Rs D:=match e with
 | .dct ks _=>aNq neg (aDE d) (aIm ks)
 |_=>.st
def aAT(h:aDE d=some k):d= .tup (k.map .int):=by
 cases d with
 |tup l=>rw[cO (show intsOf l=some k from h)]
 |_=>cases h
def aDD(k:List Int):aDE (.tup (k.map .int))=some k:=dq k
theorem vO:∀(ks:gV),aAR (ks.map λ k=>.tup (k.map .int))=some ks
 |[]=>rfl
 |k::ks=>by
  rw[zAM];unfold aAR;rw[aDD,vO ks]
def aNN{K:zAA}:OpS K (aG0 K n) (inK n):=by
 intro A x y d e H Q z rx ry ez q;cases e with
 |dct ks vs=>
  replace ez:aNq n (aDE d) (aIm ks)= .ok z:=ez;cases hk:aDE d with
  |none=>rw[hk]at ez;cases ez
  |some k=>
   cases hks:aIm ks with
   |none=>rw[hk,hks]at ez;cases ez
   |some kk=>
    rw[hk,hks]at ez;cases ez;rw[aAT hk]at rx;obtain⟨b,xs,rfl,h1,h2⟩:=rx.tup_inv;have exs:=h2.ints_of;subst exs;have Z:∀a es,(DxK K H a es\/(es=[]/\H a=some (.dK [])))->es.map (·.1)=kk->aG0 K n (.ref b) (.ref a) H Q:=λ a es h hes=>
     ⟨b,a,k,es,rfl,rfl,h1,h,by rw[hes];exact q _ H (aX.refl H) (.bl _)⟩
    cases ry with
    |dT h m r=>
     refine Z _ _ (.inl h) ?_;rename_i es;have e2:(es.map λ e=>D.tup (e.1.map .int))=(es.map (·.1)).map λ k=>D.tup (k.map .int):=by rw[zAi];rfl
     replace hks:aAR (es.map λ e=>D.tup (e.1.map .int))=some kk:=hks;rw[e2,vO]at hks;exact zAl hks
    |dK h m r=>
     rename_i kvs;cases kvs with
     |nil=>cases hks;exact Z _ [] (.inr ⟨rfl,h⟩) rfl
     |cons p ps=>
      obtain⟨p1,p2⟩:=p;cases p1<;>cases hks
 |_=>cases ez
section
variable{C:Ct}{m1 m2:Mode}{a b:Expr}{fa fb:En->Rs D}{pos:Pos}
def Ct.inK(C:Ct)(i:C.ι):OpR (C.X i) (zAs .In) (aG0 C.K false):=by rw[<-C.hK i];exact aN1 (by have:=(C.room i).un;omega)
def Ct.ninK(C:Ct)(i:C.ι):OpR (C.X i) (zAs .NotIn) (aG0 C.K true):=by rw[<-C.hK i];exact aKl (by have:=(C.room i).un;omega)
def aKC(ha:SE C m1 a fa)(hb:SE C m2 b fb)(hm:zCS .NotIn b=false:=by with_unfolding_all rfl):ST C (.Compare a [.NotIn] [b] pos) (tsb (op2 (inK true) fa fb)):=lu C.ninK aNN ha hb hm
end
def aOJ:aJr prog w newDict (λ ob=>ob={cls:=.type "dict",data:=.dict #[]}) (λ l=>dxO l []) where
 make:=λ h=>zBF (h _ rfl)
 live:=by rintro ob rfl;rfl
 ok:=by
  rintro H h a ob rfl hg hb;exact⟨⟨zAj _,beq_eq_false_iff_ne.mpr (zEG (zA8 hb)),[],_,#[],0,.nil,hg,⟨rfl,rfl,rfl⟩,rfl,rfl⟩,⟨_,hg⟩,λ g1 g2 ⟨hl,hd,xs,o,ts,ep,pr,h1,r⟩ k=>⟨hl,hd,xs,o,ts,ep,pr,k o h1,r⟩⟩
def o6(acc:gV)(k:List Int):gV:=if acc.any (·==k)then acc else acc++[k]
def ddL(ks:gV):gV:=ks.foldl o6 []
def aJ1(ks:gV)(k:List Int):ddL (ks++[k])=o6 (ddL ks) k:=by unfold ddL;rw[zH8];rfl
def pairE(fk fv:En->Rs D):En->Rs D:=λ ρ=>(fk ρ).bd λ k=>(fv ρ).bd λ v=>.ok (.tup [k,v])
def aAS:D->Option (List Int)
 | .tup [k,.bl true]=>aDE k
 |_=>none
def cL:List D->Option gV
 |[]=>some []
 |d::ds=>match aAS d,cL ds with
  |some k,some ks=>some (k::ks)
  |_,_=>none
def sY(ks:gV):D:=.dct (.non::ks.map λ k=>.tup (k.map .int)) (ks.map λ _=>.bl true)
def dcD(fi:En->Rs (List D))(js:hV)(fg:D->En->Rs En)(ft:En->Rs Bool)(fk fv:En->Rs D):En->Rs D:=λ ρ=>(fi (shE ρ)).bd λ ds=>
 if ds.length<zAY then(match lcL (stE js (shE ρ)) fg ft (pairE fk fv) ds with
  | .ok l=>(match cL l with
   |some ks=>.ok (sY (ddL ks))
   |none=>.st)
  |_=>.st)else .st
theorem yW:∀{l m:List D} {ks:gV},cL (l++m)=some ks->∃k1 k2,cL l=some k1/\cL m=some k2/\ks=k1++k2
 |[],m,ks,h=>⟨[],ks,rfl,h,rfl⟩
 |d::l,m,ks,h=>by
  rw[zB9]at h;unfold cL at h;cases h1:aAS d with
  |none=>rw[h1]at h;cases h
  |some k=>
   cases h2:cL (l++m)with
   |none=>rw[h1,h2]at h;cases h
   |some kk=>
    rw[h1,h2]at h;cases h;obtain⟨k1,k2,e1,e2,rfl⟩:=yW h2;exact⟨k::k1,k2,by unfold cL;rw[h1,e1],e2,rfl⟩
def aE7(h:cL (y::ys)=some ks):∃k kk,y= .tup [.tup (k.map .int),.bl true]/\cL ys=some kk/\ks=k::kk:=by
 unfold cL at h;cases h1:aAS y with
 |none=>rw[h1]at h;cases h
 |some k=>
  cases h2:cL ys with
  |none=>rw[h1,h2]at h;cases h
  |some kk=>
   rw[h1,h2]at h;cases h;refine⟨k,kk,?_,rfl,rfl⟩;unfold aAS at h1;split at h1
   .rw[aAT h1]
   .cases h1
theorem vg(kk:List Int):∀{l:List D} {k1:gV},cL l=some k1->cL (l++[.tup [.tup (kk.map .int),.bl true]])=some (k1++[kk])
 |[],_,h=>by
  cases h
  have:aAS (.tup [.tup (kk.map .int),.bl true])=some kk:=aDD kk
  rw[zCC,zCC];unfold cL;rw[this];rfl
 |d::l,k1,h=>by
  rw[zB9];unfold cL at h ⊢;cases h1:aAS d with
  |none=>rw[h1]at h;cases h
  |some k=>
   cases h2:cL l with
   |none=>rw[h1,h2]at h;cases h
   |some k9=>rw[h1,h2]at h;cases h;rw[vg kk h2];rfl
theorem aHo{K:zAA}:∀(es:List Ent),(∀e∈es,e.2.2= .bl true)->Rps K A H (es.map (·.2.2)) (es.map λ _=>.bl true)
 |[],_=>.nil
 |e::es,h=>by
  have e1:e.2.2= .bl true:=h e (zAH ..);refine .cons ?_ (aHo es λ z hz=>h z (zAF _ hz));show Rp K A H e.2.2 (.bl true);rw[e1];exact .bl true
section
variable{K:zAA}{G:Gx}{wi:TI}{fi:En->Rs (List D)}{js:hV}{g:TG}{fg:D->En->Rs En}{tt:TT}{ft:En->Rs Bool}{tk tv:TE}{fk fv:En->Rs D}
def aIW(h:pairE fk fv ρ= .ok y):∃k v,fk ρ= .ok k/\fv ρ= .ok v/\y= .tup [k,v]:=by
 obtain⟨k,h1,h2⟩:=dW h;obtain⟨v,h3,h4⟩:=dW h2;exact⟨k,v,h1,h3,by cases h4;rfl⟩
def aMa(hi:aLo K G wi fi)(hg:aLp K {G with E:=λ _ _ _=>False} g fg)(ht:aEt K {G with E:=λ _ _ _=>False} tt ft)(hk:jW K {G with E:=λ _ _ _=>False} (some []) tk fk)(hv:jW K {G with E:=λ _ _ _=>False} (some []) tv fv):
  jW K G (some []) (aOS (λ l=>dxO l []) wi (stV js) g tt (aON K tk tv)) (dcD fi js fg ft fk fv):=by
 intro U σ H ρ lab Q R W;refine hi U σ H _ _ _ R.shE (W.bd.imp λ ds _ w J H1 lab1 U1 s1 _ R1 jl=>?_);intro l hl;obtain⟨kQ,out,ks,qV,hks,w⟩:ds.length<zAY/\∃out ks,lcL (stE js (VL.shE ρ)) fg ft (pairE fk fv) ds= .ok out/\cL out=some ks/\QE K (some []) lab H Q (sY (ddL ks)):=by
  by_cases kQ:ds.length<zAY
  .rw[if_pos kQ]at w
   cases qV:lcL (stE js (VL.shE ρ)) fg ft (pairE fk fv) ds with
   |ok out=>
    rw[qV]at w;dsimp only at w;cases hns:cL out with
    |some ns=>rw[hns]at w;exact⟨kQ,out,ns,rfl,hns,w⟩
    |none=>rw[hns]at w;exact zAR w
   |ex c=>rw[qV]at w;exact zAR w
   |st=>rw[qV]at w;exact zAR w
  .rw[if_neg kQ]at w
   exact zAR w
 have R0:RR K {G with E:=λ _ _ _=>False} (U1++U) (VL.shE ρ) σ H1 (λ _=>(0,0)):=R1.blk0 rfl;have RB:=R0.block (js:=js) (λ _=>zAj _) hl;have hHl:H l=none:=s1.free hl;have h0l:G.H0 l=none:=R1.old.free hl;refine⟨λ i n H2=>∃(es:List Ent) (pre:List D) (kp:gV),n=ds.length-i/\i<=ds.length/\DxK K H2 l es/\(∀e∈es,e.2.2= .bl true)/\es.length<=i/\cL pre=some kp/\es.map (·.1)=ddL kp/\RR K {G with E:=λ _ _ _=>False} (U1++U) (stE js (VL.shE ρ)) (stV js σ) H2 (λ p=>if p=l then(2,0)else(0,0))/\aX H H2/\
  ∃post,lcL (stE js (VL.shE ρ)) fg ft (pairE fk fv) (ds.drop i)= .ok post/\out=pre++post,⟨ds.length,[],[],[],by omega,by omega,⟨aq,λ e he=>(by cases he),zEi⟩,λ e he=>(by cases he),zAT _,rfl,rfl,RB.up (au hl _),s1.trans (au hl _),out,qV,rfl⟩,?_⟩
 rintro i n H2 ⟨es,pre,kp,rfl,hi,hD,hes,hei,hkp,hek,R2,s2,post,hpost,eout⟩;have jj:=jl _ H2 λ q hq=>R2.tm q (zAQ _ hq)
 by_cases hlt:i<ds.length
 .obtain⟨go,yl⟩:=(jj i).2 hlt
  refine .inr ⟨go,λ x H3 hy=>?_⟩;obtain⟨s3,d,ed,rx⟩:=yl x H3 hy;replace R2:=R2.up s3;replace hD:=hD.mono s3;replace s2:=s2.trans s3;have ed2:ds.drop i=d::ds.drop (i+1):=by
   rw[zBn hlt]
   have:=zAD hlt
   rw[ed]at this;cases this;rfl
  rw[ed2]at hpost;obtain⟨ρ1,k,e1,e2,e3⟩:=aCu hpost;refine hg (U1++U) x d _ H3 _ _ _ ρ1 R2 rx e1 λ σ4 R4=>?_
  refine ht (U1++U) σ4 H3 ρ1 _ _ R4 ?_;rw[e2];intro H5 s5;rcases e3 with ⟨rfl,y,ys,e3,e4,rfl⟩|⟨rfl,e4⟩
  .rw[if_pos rfl]
   obtain⟨kd,vd,e5,e6,rfl⟩:=aIW e3;have hks2:∃k2,cL (.tup [kd,vd]::ys)=some k2/\ks=kp++k2:=by
    rw[eout]at hks;obtain⟨k1,k2,q1,q2,q3⟩:=yW hks;rw[hkp]at q1;cases q1;exact⟨k2,q2,q3⟩
   obtain⟨k2,q1,q2⟩:=hks2;obtain⟨kk,k3,q3,q4,rfl⟩:=aE7 q1;injection q3 with q3
   injection q3 with q5 q6
   injection q6 with q6
   subst q5 q6;refine hk (U1++U) σ4 H5 ρ1 _ _ (R4.up s5) ?_;rw[e5];intro v H6 s6 r6;refine hv (U1++U) σ4 H6 ρ1 _ _ ((R4.up s5).up s6) ?_;rw[e6];intro v2 H7 s7 r7;obtain⟨b,xs,rfl,hb,rxs⟩:=(r6.up s7).tup_inv;have ex:=rxs.ints_of;subst ex;have ev:=r7.bl_inv;subst ev;have hD7:=hD.mono ((s5.trans s6).trans s7);have B:mR l H7 (upd H7 l (dxO l (yE es kk b))):=λ b o ne hb=>by rw[bG ne];exact hb
   refine⟨b,kk,es,rfl,rfl,hb,hD7,hes,by omega,ds.length-(i+1),by omega,yE es kk b,pre++[.tup [.tup (kk.map .int),.bl true]],kp++[kk],rfl,hlt,⟨aq,λ e he=>?_,?_⟩,λ e he=>?_,by have:=aCl es kk b;omega,?_,?_,(R2.up ((s5.trans s6).trans s7)).but_blk B hD7.at_ rfl h0l,?_,ys,e4,by rw[eout];simp⟩
   .unfold yE at he
    split at he
    .exact qL B hD7.at_ rfl (hD7.ks e he)
    .rcases zAU.mp he with he|he
     .exact qL B hD7.at_ rfl (hD7.ks e he)
     .rw[zAI.mp he];exact qL B hD7.at_ rfl hb
   .unfold yE
    split
    .exact hD7.nd
    .rename_i hn
     rw[zAZ,zAb];refine⟨hD7.nd,by simp,λ a ha c hc z=>hn ?_⟩;rw[show c=kk by simpa using hc]at z;subst z;exact zCG.mpr ⟨a,ha,by simp⟩
   .unfold yE at he
    split at he
    .exact hes e he
    .rcases zAU.mp he with he|he
     .exact hes e he
     .rw[zAI.mp he]
   .exact vg kk hkp
   .rw[aJ1,<-hek]
    unfold yE o6;split
    .rfl
    .rw[zAZ];rfl
   .exact λ b o hb=>B b o (λ z=>by subst z;rw[hHl]at hb;cases hb) ((((s2.trans s5).trans s6).trans s7) b o hb)
  .rw[if_neg zAX]
   exact⟨ds.length-(i+1),by omega,es,pre,kp,rfl,hlt,hD.mono s5,hes,by omega,hkp,hek,R2.up s5,s2.trans s5,post,e4,eout⟩
 .have ei:i=ds.length:=by omega
  subst ei;rw[zES]at hpost;cases hpost;rw[zAe]at eout;subst eout;rw[hks]at hkp;cases hkp;refine .inl ⟨(jj _).1 (zAT _),w _ H2 s2 ?_⟩;have e1:sY (ddL ks)= .dct (.non::es.map λ e=>.tup (e.1.map .int)) (es.map λ _=>.bl true):=by
   unfold sY;rw[<-hek,zAi,zAi];rfl
  rw[e1];exact .dT hD (.inl hHl) (aHo es hes)
end
def aGy(p:Int×Tok):Int×Value:=(hashInt p.1,.int p.1 p.2)
def aDa(h:Heap)(a:Addr)(led:Bool)(ks:List Int):Prop:=∃es ep t,h.get? a=some (bW es ep t)/\gr t es.size/\t.led=led/\∃tks:List (Int×Tok),tks.map (·.1)=ks/\es.toList.Perm (tks.map aGy)
section
variable{prog:zA7}{w:World}{A:zAk}{E:Value->zAG->Prop}{s:zAG}{a:Addr}{led:Bool}{ks:List Int}
def aEj{es:Array (Int×Value)}{tks:List (Int×Tok)}(hp:es.toList.Perm (tks.map aGy)):ElemsOf (zBe prog w) es.toList:=λ e he=>by
 obtain⟨p,_,rfl⟩:=zAS.mp (hp.mem_iff.mp he);exact⟨⟨p.1,zGA _ _ _ _,rfl⟩,rfl⟩
def aGl(T:gr t es.size)(h63:es.size<63)(h:Int)(x:Value):∃j,layNew t es h x=(zBO es (t.put j).2 (h,x),(t.put j).1,false,false)/\qJ (t.put j).1 (es.size+1)/\(t.put j).1.led=t.led:=by
 obtain⟨j,j1,j2,j3⟩:=aEF (hashAt:=λ _=>h+1) T (h:=h) λ i hi=>by omega
 obtain⟨P,p1,p2,p3,p4⟩:=aMs T (by lia) j1 j2;have hes:(zBO es (t.put j).2 (h,x)).size=es.size+1:=uG _ _ _;refine⟨j,?_,P,p4⟩;have hf:t.freeSlot h=some (j,false):=by unfold SetTable.freeSlot;rw[j3];rfl
 unfold layNew SetTable.orStandIn;rw[hf];dsimp only;rw[hes,P.fits];rfl
def aCT(P:qJ t n)(hn:es.size=n)(h5:n=5\/n=19):∃es' t',relayAll t es (zFb es.size)=(es',t',false)/\gr t' es'.size/\t'.led=t.led/\es'.toList.Perm es.toList:=by
 obtain⟨t',order,r1,r2,r3,r4⟩:=aHu P.pla h5 (es.map (·.1)) (by rw[Array.size_map];exact hn);have pV:(order.filterMap (es[·]?)).toList.Perm es.toList:=by
  rw[Array.toList_filterMap];refine(r4.filterMap _).trans ?_;rw[<-hn,filterMap_getElem?_range]
 have hes:(order.filterMap (es[·]?)).size=n:=by rw[<-zA9,pV.length_eq,zA9,hn]
 refine⟨order.filterMap (es[·]?),t',?_,by rw[hes];exact r2,r3,pV⟩;unfold relayAll;rw[hn,r1];have hc:coversAll order n=true:=List.isPerm_iff.mpr r4;dsimp only;rw[hes,hc,r2.fits];rfl
def aKK(S:aDa s.heap a led ks)(h63:ks.length<63)
  (q:∀h' b,zE0 a s.heap h'->aDa h' a led (zAo ks k)->Q b {s with heap:=h',toks:=s.toks+1}):wpAny (model prog w) A (setAdd a (.int k tk)) Q E s:=by
 obtain⟨es,ep,t,ho,T,hl,tks,hk,hp⟩:=S;have hel:ElemsOf (zBe prog w) es.toList:=aEj hp;have hsz:es.size=ks.length:=by rw[<-zA9,hp.length_eq,zAE,<-hk,zAE]
 have hb:es.size<zFA:=by rw[hsz];unfold zFA;omega
 have hany:∀e∈es.toList,(zBe prog w).is k e.2=true->k∈ks:=λ e he hi=>by
  obtain⟨p,hpm,rfl⟩:=zAS.mp (hp.mem_iff.mp he)
  have:k=p.1:=(zBe prog w).inj _ k p.1 hi (zGA _ _ _ _)
  rw[this,<-hk];exact zEt hpm
 unfold setAdd;refine zB2 (zAB ((zBe prog w).pyHash (k:=k) (zGA _ _ _ _) ?_));unfold setAddHashed setAddHashedIn;refine zB2 (zAB (zCx (s:={s with toks:=s.toks+1}) ho rfl T.fits ?_));dsimp only;rw[byScan_of (knd:=zBe prog w) rfl hb hel];simp only[↓reduceIte];unfold setAddByScan;refine zAB (zAB (zGG (zAB (wpAny_setScan_of (knd:=zBe prog w) (s:={s with toks:=s.toks+1}) (zGA _ _ _ _) ho rfl T.fits hel ?_))));cases hr:List.findIdx? (λ e=>(zBe prog w).is k e.2) es.toList with
 |some j=>
  obtain⟨hj,hpj,_⟩:=List.findIdx?_eq_some_iff_getElem.mp hr;have hin:=hany _ (zCH hj) hpj;dsimp only;refine zAK (zAK (q s.heap _ (Heap.SameBut.refl a s.heap) ?_))
  have:zAo ks k=ks:=by unfold zAo;rw[if_pos (zCG.mpr ⟨k,hin,by simp⟩)]
  rw[this];exact⟨es,ep,t,ho,T,hl,tks,hk,hp⟩
 |none=>
  have hno:k∉ks:=λ hin=>by
   rw[<-hk]at hin;obtain⟨p,hpm,e⟩:=zAS.mp hin;have he:aGy p∈es.toList:=hp.mem_iff.mpr (zEt hpm)
   have:=List.findIdx?_eq_none_iff.mp hr _ he
   rw[<-e]at this;have z:(zBe prog w).is p.1 (.int p.1 p.2)=false:=this;rw[zGA]at z;cases z
  have hstep:zAo ks k=ks++[k]:=by
   unfold zAo;rw[if_neg];intro h;obtain⟨y,hy,e⟩:=zCG.mp h;exact hno (by rw[<-zEB e];exact hy)
  obtain⟨j,hL,P,pl⟩:=aGl T (by omega) ((zBe prog w).hash k) (.int k tk);have hes:(zBO es (t.put j).2 ((zBe prog w).hash k,zCR k tk)).size=es.size+1:=uG _ _ _;have pV:(zBO es (t.put j).2 ((zBe prog w).hash k,zCR k tk)).toList.Perm ((tks++[(k,tk)]).map aGy):=by
   have:=zFw es (t.put j).2 ((zBe prog w).hash k,zCR k tk)
   rw[zFP]at this;rw[zAZ];exact this.trans (hp.append_right _)
  have htk:(tks++[(k,tk)]).map (·.1)=zAo ks k:=by rw[hstep,zAZ,hk];rfl
  dsimp only;rw[hL];dsimp only;refine zAB (zAK ?_);rw[P.pla];simp only[↓reduceIte];refine zAB (zAK ?_);simp only[↓reduceIte];generalize zBO es (t.put j).2 ((zBe prog w).hash k,zCR k tk)=es1 at hes pV ⊢;generalize (t.put j).1=t1 at P pl ⊢;refine zAB (aH1 (s:={s with toks:=s.toks+1}) ho (by omega) λ e1=>?_);simp only[zEe,zCl];cases hf:t1.tooFull with
  |true=>
   obtain⟨es2,t2,hR,T2,l2,p2⟩:=aCT P hes (P.full (by omega) hf);simp only[↓reduceIte];rw[hR];dsimp only;refine zAB (zAK ?_);have hz2:es2.size<=63:=by rw[<-zA9,p2.length_eq,zA9];omega
   refine zAB (aH1 e1 (by lia) λ e2=>zAK (zAK (q _ _ ((zB6 s.heap a _).trans (zB6 _ a _)) ⟨es2,_,t2,e2,T2,l2.trans (pl.trans hl),_,htk,p2.trans pV⟩)))
  |false=>
   simp only[zAz,if_false];exact zAK (zAK (q _ _ (zB6 ..) ⟨es1,_,t1,e1,by rw[hes];exact P.still hf,pl.trans hl,_,htk,pV⟩))
def aAJ{St:Nat->zAG->Prop}(W:WalksS prog w A.in1 I fp wr G n (λ i v=>vs.toArray[i]? =some v) St)(hSf:S∉fp)(hi:zBL vs ns)(hn:n=vs.length)(h64:n<64)(led:Bool):
  ∀(k i:Nat) (s:zAG),n-i=k->i<=n->St i s->aDa s.heap S led (ddI (ns.take i))->(∀s',Moved (S::wr) G s s'->aDa s'.heap S led (ddI ns)->R (.ok (.ret .none)) s')->
   zCZ (model prog w) A (.builtin "set.update.loop" ⟨[.ref S,.ref I],[]⟩) R s:=by
 have hSw:S∉wr:=λ h=>hSf (W.sub _ h)
 have hsb:∀b∈wr,b∈S::wr:=λ b hb=>zAF _ hb
 have kQ:vs.length=ns.length:=zE1 hi;have keep:∀{h h':Heap} {ks:List Int},aDa h S led ks->(∀o,h.get? S=some o->h'.get? S=some o)->aDa h' S led ks:=λ⟨es,ep,t,e,r⟩ k=>⟨es,ep,t,k _ e,r⟩
 intro k;induction k with
 |zero=>
  intro i s hk hi' hst hS hR;have hin':i=n:=by omega
  subst hin';refine zCI zDy ?_;rw[zBw zC9 _];show wpAny _ A.in1 (zEz (.ref I)>>=_) _ _ s;refine zAB (W.done s _ _ hst λ s' hm=>zAK (hR s' (hm.mono hsb) ?_));rw[zCD (by omega)]at hS;exact keep hS λ o e=>hm.heap S _ hSw e
 |succ k ih=>
  intro i s hk hi' hst hS hR;have hlt:i<n:=by omega
  refine zCI zDy ?_;rw[zBw zC9 _];show wpAny _ A.in1 (zEz (.ref I)>>=_) _ _ s;refine zAB (W.item i s _ _ hlt hst λ v s' hP' hst' hm=>?_);have hP:vs[i]? =some v:=by simpa using hP'
  obtain⟨t,rfl⟩:=zEO hi i v hP;have hS':aDa s'.heap S led (ddI (ns.take i)):=keep hS λ o e=>hm.heap S _ hSw e
  have hle:(ddI (ns.take i)).length<63:=by
   have h1:=aEm (ns.take i);rw[zBQ]at h1;omega
  have hnx:zAo (ddI (ns.take i)) (ns.getD i 0)=ddI (ns.take (i+1)):=by
   have hx:ns[i]? =some (ns.getD i 0):=by
    rw[zA3,zAD (by omega)];rfl
   rw[zH9,hx,<-aJ2];rfl
  show wpAny _ A.in1 (zDR [zCR (ns.getD i 0) t] (setAdd S (.int (ns.getD i 0) t))>>=_) _ _ s';refine zAB (zB2 (aKK hS' hle λ h' b c1 c3=>?_));have kp:∀b o,b≠S->s'.heap.get? b=some o->h'.get? b=some o:=λ b o hb e=>by rw[c1.2 b hb];exact e
  rw[hnx]at c3;refine zAK ⟨zFk zC9 _,ih (i+1) _ (by omega) hlt (W.frame _ s' _ _ hst' (zDl _) λ b hb o e=>kp b o (λ z=>hSf (z▸hb)) e) c3 λ s'' hm'' hS''=>?_⟩;exact hR s'' (Moved.trans W.gtrans ((hm.mono hsb).then_heap (zDl _) λ b o hb e=>kp b o (λ z=>hb (z▸zAH)) e) hm'') hS''
def aBQ{Q:Value->zAG->Prop}(hI:zBL vs ns)(h64:vs.length<64)
  (h:∀(out:List Value) h' e,Vals ((sortI ns).map V.int) out->(∀b o,s.heap.get? b=some o->h'.get? b=some o)->h'.get? s.heap.objs.size=some (zBv "list" out.toArray e)->Q (.ref s.heap.objs.size) {s with heap:=h'}):
  wpAny (model prog w) A (zGB vs>>=λ l=>zDR [l] (call (.builtin "list.sort") [l])>>=λ _=>ret l) (λ fin s'=>∃r,fin= .done (.ret r)/\Q r s') E s:=by
 refine zAB (zH1 ?_ (by rw[zBz];omega));have hoL:(s.heap.push (zBv "list" vs.toArray 0)).get? s.heap.objs.size=some (zBv "list" vs.toArray 0):=zAO _ rfl;refine zAB (zB2 (zBV slot_list_sort ⟨_,hoL,rfl⟩ entry_list_sort (list_sort_tree (s:={s with heap:=s.heap.push (zBv "list" vs.toArray 0)}) hoL hI h64 λ out ns' a1 a2 a3=>⟨_,rfl,zAK ⟨_,rfl,?_⟩⟩) (args_list_sort _)));have e:ns'=sortI ns:=zDQ (a2.trans (sortI_perm ns).symm) a3 (eG ns);subst e;have hne:∀b o,s.heap.get? b=some o->b≠s.heap.objs.size:=λ b o e=>zA8 (zAV e)
 have g0:=zEC hoL λ _=>(#[]:Array Value)
 have g1:=zAC (zBv "list" #[] 0) (zAC (zBv "tuple" vs.toArray 0) g0);have g2:=zEC g1 (λ _=>out);refine h out.toList _ _ (nR a1) (λ b o e=>?_) (by rw[zGe];exact g2);unfold zGE;rw[zC2 _ _ _ _ (hne b o e)];refine zAC _ (zAC _ ?_);rw[zC2 _ _ _ _ (hne b o e)];exact zAC _ e
end
section
variable{X:Cx}
def aArφ(w:World)(a:Addr)(ks:List Int):Heap->Prop:=λ h=>aDa h a (!w.params.followText "set-order") ks
def aMG(K:zAA)(w:World):List V->Hp->VK->Prop:=λ xs H Q=>∃p ns,xs=[.ref p]/\SqL K H p (ns.map V.int)/\ns.length<64/\∀a H',aX H H'->H' a=some (.ext (aArφ w a (ddI ns)))->H a=none->Q (.ref a) H'
def aHD(hc:X.calm=true):cX X (.type "set") (aMG X.K X.w):=by
 intro iX s σ H xs us Q I r h;obtain⟨p,ns,rfl,hp,hz,q⟩:=h;obtain⟨u,rfl,ru⟩:=vals1 r;cases ru;have hh:X.A.in1.in1.in1.handled=none:=I.ok.hd hc;obtain⟨its,rv,pl,_⟩:=I.list hp;have hI:zBL its ns:=intsAre_of rv;have kQ:its.length=ns.length:=zE1 hI;obtain⟨ol,hol,hcl,nl,hdl⟩:=pl.isList;have hlS:p<s.heap.objs.size:=zAV hol;refine PySem.lY (T:="list") (Φ:=aArφ X.w s.heap.objs.size (ddI ns)) ⟨ol,hol,hcl⟩ F.sub_list_set zH2 (by decide)
  (λ zD yA x9 Q₁ k q=>zDa (s:={s with heap:=zD}) (items:=its.toArray) ⟨ol,k _ _ hol,hcl,nl,hdl⟩ q) (λ R hR=>?_) λ h' tk g1 g2=>?_
 .generalize hled:(!X.w.params.followText "set-order")=led at hR ⊢
  have hS:(s.heap.push (bW #[] 0 (.fresh 0 0 led))).get? s.heap.objs.size=some (bW #[] 0 (.fresh 0 0 led)):=zAO _ rfl;have hl1:(s.heap.push (bW #[] 0 (.fresh 0 0 led))).IsList p its.toArray:=⟨ol,zAC _ hol,hcl,nl,hdl⟩;have dS:p≠(s.heap.push (bW #[] 0 (.fresh 0 0 led))).objs.size:=by rw[zBB];exact zA8 (zCY hlS)
  have hSf:s.heap.objs.size∉[(s.heap.push (bW #[] 0 (.fresh 0 0 led))).objs.size,p]:=by
   rw[zBB];simp only[zAL,zAf,or_false,not_or];exact⟨zA8 (zBx _),zCM hlS⟩
  refine aAJ ((zGM hh _ p dS its.toArray).toS) hSf hI (by simp) (by simpa[kQ]using hz) led (its.toArray.size-0) 0 _ (by simp) (zAj _) ⟨⟨_,zAO _ rfl,rfl,rfl⟩,(hl1.push _)⟩
   ⟨#[],0,_,zAC _ hS,gr.fresh led,rfl,[],rfl,zBM _⟩ λ s' hm hS'=>?_
  obtain⟨h',g',d',tk',os'⟩:=s';have eg:g'=s.gens:=hm.gens;have ed:d'=s.drawn:=hm.drawn;have eo:os'=s.os:=hm.os;subst eg;subst ed;subst eo;refine hR h' tk' (by unfold aArφ;rw[hled];exact hS') λ b o e=>hm.heap b o ?_ (zAC _ (zAC _ e))
  have hb:=zAV e;rw[zBB];simp only[zAL,zAf,or_false,not_or];exact⟨zA8 hb,zA8 (zCY hb)⟩
 .have hfr:H s.heap.objs.size=none:=I.hok.fresh (zAT _)
  obtain⟨es,ep,t,ge,r⟩:=id g1;exact⟨.ref s.heap.objs.size,upd H s.heap.objs.size (.ext (aArφ X.w s.heap.objs.size (ddI ns))),I.laid (t':=tk) g2 (zAT _) ⟨g1,⟨_,ge⟩,λ h1 h2 ⟨es,ep,t,e1,e2⟩ k=>⟨es,ep,t,k _ e1,e2⟩⟩,rfl,q _ _ (au hfr _) aq hfr⟩
def aEC(w:World):List V->Hp->VK->Prop:=λ xs H Q=>∃a ks,xs=[.ref a]/\H a=some (.ext (aArφ w a ks))/\ks.length<64/\New H (.lst ((sortI ks).map V.int)) Q
theorem ints_of:∀(tks:List (Int×Tok)),zBL (tks.map λ p=>zCR p.1 p.2) (tks.map (·.1))
 |[]=>.nil
 |p::r=>.cons _ _ (ints_of r)
def uX(hc:X.calm=true):cX X (.builtin "sorted") (aEC X.w):=by
 intro iX s σ H xs us Q I r h;obtain⟨a,ks,rfl,ha,h64,q⟩:=h;obtain⟨u,rfl,ru⟩:=vals1 r;cases ru;obtain⟨⟨es,ep,t,e1,e2,e3,tks,hk,e4⟩,_,_⟩:=I.hok a _ ha;have hsz:es.size=ks.length:=by rw[<-zA9,e4.length_eq,zAE,<-hk,zAE]
 have hh:X.A.in1.handled=none:=I.ok.hd hc;refine tM (aDW (aKE (ep:=ep) e2 e3) hh e1 (by rw[hsz,zBz];omega) λ h1 tk vs1 k0 k1 k2 k3=>?_);have pV:(sG X.w a ep es).toList.Perm (tks.map aGy):=(qN X.w a ep es).trans e4;obtain⟨zs,z1,z2⟩:=nj (f:=aGy) pV rfl;have hvs:vs1=zs.map λ p=>zCR p.1 p.2:=by
  have e5:(sG X.w a ep es).toList.map (·.2)=zs.map λ p=>zCR p.1 p.2:=by rw[z2,zAi];rfl
  have kQ:(sG X.w a ep es).toList.length=es.size:=by rw[(qN X.w a ep es).length_eq,zA9]
  rw[<-e5];refine zF3 (by rw[k2,zAE,kQ]) λ i g1 g2=>?_
  have:=k3 i _ (zAD g1)
  rw[<-zBp,<-zA2,zAD g2]at this;exact(zAl this).symm
 subst hvs;have hps:(zs.map (·.1)).Perm ks:=by rw[<-hk];exact z1.map _
 have hss:sortI (zs.map (·.1))=sortI ks:=zDQ (((sortI_perm _).trans hps).trans (sortI_perm ks).symm) (eG _) (eG _);refine aBQ (s:={s with heap:=h1,toks:=tk}) (ints_of zs) (by rw[k2];omega) λ out h' e a1 a2 a3=>?_
 rw[hss]at a1;have hle:s.heap.objs.size<=h1.objs.size:=zB1 k0;have hfr:H h1.objs.size=none:=I.hok.fresh hle;exact⟨.ref h1.objs.size,upd H h1.objs.size (.lst ((sortI ks).map V.int)),I.laid (t':=tk) (λ b o e=>a2 b o (k1 b o e)) hle ⟨by rw[zAE,(sortI_perm ks).length_eq];exact zAn (zB1 h64) (by decide),out,e,a1,a3⟩,rfl,q.at hfr⟩
end
def ou:List D->Rs D
 |[.lst l]=>match intsOf l with
  |some ns=>if ns.length<64 then .ok (.lst ((sortI (ddI ns)).map .int))else .st
  |none=>.st
 |_=>.st
section
variable{C:Ct}{pos pos2 p p2:Pos}{m:Mode}{a:Expr}{ga:En->Rs (List D)}
def z9(hm:C.mg "sorted"=none)(hm2:C.mg "set"=none)(ha:SA C m [a] ga)(he:∀i,zA1 [a] (C.X i).env=[(false,eval a (C.X i).env)]:=by intro _;rfl)(he2:∀i,zA1 [Expr.Call (.Name "set" p2) [a] [] pos2] (C.X i).env=[(false,eval (.Call (.Name "set" p2) [a] [] pos2) (C.X i).env)]:=by intro _;rfl)(hg:∀i,Gl (C.X i) "sorted":=by intro _;rfl)(hv:zAq "sorted"=some (.builtin "sorted"):=by decide+kernel)(hg2:∀i,Gl (C.X i) "set":=by intro _;rfl)(hv2:zAq "set"=some (.type "set"):=by decide+kernel):
  SE C (some []) (.Call (.Name "sorted" p) [.Call (.Name "set" p2) [a] [] pos2] [] pos) (opA ou ga):=by
 obtain⟨t,h1,h2⟩:=ha;have hw:∀i,(C.X i).w=C.w:=λ i=>(C.cx i).2.1
 refine⟨tCB (aEC C.w) (je (tCB (aMG C.K C.w) t) oZ),λ i=>m8 (by rw[<-hw i];exact uX (C.calm i)) (hg i) (by rw[(C.cx i).2.2.2.1];exact hm) hv
  (dI (gZ (by rw[<-C.hK i,<-hw i];exact aHD (C.calm i)) (hg2 i) (by rw[(C.cx i).2.2.2.1];exact hm2) hv2 (h1 i) (by decide) (by decide) (he i) rfl) gR (he2 i)) (by decide) (by decide) (he2 i) rfl,λ U σ H ρ lab Q R W=>?_⟩
 refine h2 U σ H ρ lab _ R (W.bd.imp λ ds _ w xs H1 s1 r1=>?_);obtain⟨z,ez,w⟩:=w.okD;unfold ou at ez;split at ez
 .obtain⟨v,rfl,rd⟩:=r1.one_inv
  obtain⟨b,ys,rfl,hb,mb,rb⟩:=rd.lst_inv;split at ez
  .rename_i ns e
   split at ez
   .rename_i hl
    cases ez;rw[cO e]at rb;have ey:=rb.ints_of;subst ey;refine⟨b,ns,rfl,SqL.of hb,hl,λ c H2 s2 hc2 hn2=>⟨c,ddI ns,rfl,hc2,zDM (aEm ns) hl,λ q H3 s3 hq hn3=>w _ H3 ((s1.trans s2).trans s3) (.lst hq (.inl ((s1.trans s2).free hn3)) Rps.ints)⟩⟩
   .cases ez
  .cases ez
 .cases ez
end
abbrev aPJ:=List (Str×(List D->Rs D))
def fnOf(tab:aPJ):Rs D->Option (List D->Rs D)
 | .ok (.fn x)=>tab.lookup x
 |_=>none
end VL
namespace HT
open PySem PySem.Spec PyProof.Rows
end HT
namespace VL
open PySem PySem.Spec PyProof.Rows L2
end VL
namespace PySem.AutoSeq1
set_option maxRecDepth 8000 in
def aET(l:Addr)(items:Array Value)(n:Nat)(b:Addr)(items2:Array Value)(n2:Nat)(dd:Option Addr)(sl:Array (Option Value))(hs0:¬(!items.isEmpty&&zBg (items.size+items2.size))=true)(hs1:items.size<=zAY)(hs2:items.size+items2.size<=zAY+1):
  Meets (zDP.«list.extend» ⟨[.ref l,.ref b],[]⟩) (λ _ R s=>s.heap.get? l=some {cls:=.type "list",dict:=none,data:=.seq items n,slots:=#[]}/\s.heap.get? b=some {cls:=.type "tuple",dict:=dd,data:=.seq items2 n2,slots:=sl}/\
   R (.ok (.ret zBR)) {s with heap:=s.heap.update l (zCL λ x=>x++items2),toks:=s.toks}):=
 .of_wp λ prog w A R s h=>by
  obtain⟨hp,g,d,tk,os⟩:=s;obtain⟨hl,hb,h⟩:=h;have f1:=idx_int;have f2:=sub_tuple_tuple;have f3:=sub_list_list;have f4:=sub_tuple_list;have f5:=sub_list_tuple;have hz':(items++items2).size<=zAY+1:=by rw[Array.size_append];exact hs2
  wp_walk using(wpAny_updateSeq hl rfl (hz:=hs1) (_hz':=hz')),zCt hl,zCt hb;exact⟨_,rfl,h⟩
end PySem.AutoSeq1
namespace VL
open PySem PySem.Spec PyProof.Rows L2
def aML(K:zAA):V->List V->Hp->VK->Prop:=λ x vs H Q=>∃l b xs zs,x= .ref l/\vs=[.ref b]/\H l=some (.lst xs)/\SqT K H b zs/\xs.length+zs.length<=zAY/\∀H',mR l H H'->H' l=some (.lst (xs++zs))->Q .non H'
def aKx:MtM X "list.extend" (aML X.K):=by
 intro iX s σ H x vs v us Q I rx rv h;obtain⟨l,b,xs,zs,rfl,rfl,hH,hB,hz,q⟩:=h;cases rx;obtain⟨u,rfl,ru⟩:=rv.one;cases ru;obtain⟨z,its,n,r,hl,e⟩:=I.lstM hH;obtain⟨its2,r2,⟨⟨c2,dd,dt,sl⟩,e2,hc2,n2,hd2⟩,z2⟩:=I.tuple hB;replace hc2:c2= .type "tuple":=hc2;replace hd2:dt= .seq its2.toArray n2:=hd2;subst hc2 hd2;have l1:=r.length;have l2:=r2.length;have hsz:its.toArray.size+its2.toArray.size<=zAY:=by rw[zAP,zAP];lia
 have b5:¬(!its.toArray.isEmpty&&zBg (its.toArray.size+its2.toArray.size))=true:=by
  rw[yN hsz,zDu];exact zAX
 refine zFN zGg ⟨_,e,rfl⟩ F.entry_list_extend (F.args_list_extend_2 _ _) (AutoSeq1.aET l its.toArray n b its2.toArray n2 dd sl b5 (by lia) (by lia)) ⟨e,e2,?_⟩;refine⟨.non,_,I.lset (its':=its++its2) hH e (by simp) (r.append r2) ?_,rfl,q _ (λ b o ne hb=>by rw[bG ne];exact hb) aq⟩;rw[zA0];lia
section
variable{C:Ct}{pos apos cpos p:Pos}{e:Expr}{fe:En->Rs D}{i:Nat}{x:Str}{m:Mode}
def aJS(ds:List D)(k:List D->Ou):D->Ou
 | .tup es=>if ds.length+es.length<=zAY then k (ds++es)else .st
 |_=>.st
def aOA(i:Nat)(fe:En->Rs D):En->Ou:=λ ρ=>match ρ[i]? with
 |some (.ow (.lst ds))=>(fe ρ).bo (aJS ds λ l=>.nx (ρ.set i (.ow (.lst l))))
 |_=>.st
def aDn(i:Nat)(he:SE C m e fe)(hm:okN m=true:=by rfl)(hN:∀j,(C.X j).N[i]? =some x:=by intro _;rfl)(hv:∀j,Vis (C.X j).env.scope x:=by intro _;first|exact zC8 rfl|exact zBy (zC8 rfl)|exact zBy (zBy rfl))(hd:Nd x:=by decide)
  (hcd:(x==("__classdict__":Str))=false:=by decide)(hs1:∀j,zA1 [e] (C.X j).env=[(false,eval e (C.X j).env)]:=by intro _;rfl)
  (hbase:∀j,zDs (.Name x p) "extend" (C.X j).env (eval (.Name x p) (C.X j).env)=eval (.Name x p) (C.X j).env:=by intro _;rfl)
  (hfew:∀j,((zCo cpos (zA1 [e] (C.X j).env)).all (λ x=>!x.1)&&(zFM cpos (zD7 [] (C.X j).env)).all (λ x=>x.1.isSome)&&decide ([e].length+([]:List zCj).length+(if ([]:List zCj).isEmpty then 0 else 1)<30))=true:=by intro _;rfl)
  (hline:(apos.endLine==cpos.line)=true:=by rfl)
  (hsw:∀j,zCd (.Call (.Attribute (.Name x p) "extend" apos) [e] [] cpos) none pos.line (C.X j).env=pure false:=by intro _;rfl):
  SS C (.Expr (.Call (.Attribute (.Name x p) "extend" apos) [e] [] cpos) pos) (aOA i fe):=by
 obtain⟨t,h1,h2⟩:=he;refine⟨aBw (tBM C.K "list" (aML C.K) (xO i) (je t oZ)),λ j=>tX (by rw[<-C.hK j];exact aCY zDB zGg PySem.F.type_list_extend aKx (mH (hN j) (hv j) hd hcd) (dI (h1 j) gR (hs1 j)) (hbase j) (hfew j) hline (hs1 j) rfl) (hsw j),λ U σ H ρ lab De R W=>?_⟩;unfold aOA at W;cases es:ρ[i]? with
 |none=>rw[es]at W;exact zAR W
 |some s=>
  rw[es]at W;split at W
  .rename_i ds hs
   cases hs;rcases R.sl i _ es with z|⟨v,ev,hv'⟩
   .cases z
   .obtain⟨hv1,htop⟩:=hv'
    obtain⟨a0,ea0,la0⟩:=htop rfl;subst ea0;obtain⟨a1,xs,ea1,h,mm,r⟩:=hv1.lst_inv;cases ea1;refine⟨.ref a0,ev,.inl ⟨rfl,xs,SqL.of h⟩,h2 U σ H ρ lab _ R (W.bo.imp λ d _ w y H2 s2 r2=>?_)⟩;cases d with
    |tup es'=>
     dsimp only[aJS]at w;by_cases hz:ds.length+es'.length<=zAY
     .rw[if_pos hz]at w
      obtain⟨R',r'⟩:=R.fresh (P:=λ k=>k=1) rfl (λ k hk=>beq_iff_eq.mp (qO hm k hk)) s2 r2;have la:(cJ H 1 lab a0).1=i+2:=by rw[bf h];exact la0
      obtain⟨b,zs,rfl,hb,rb⟩:=r'.tup_inv;refine⟨a0,b,xs,zs,rfl,rfl,s2 _ _ h,hb,by rw[r.length,rb.length];exact hz,λ H3 B h3=>?_⟩;refine w σ H3 _ (R'.mut ev (s2 _ _ h) rfl la B ⟨.lst h3 (.inr la) ?_,λ _=>⟨a0,rfl,la⟩⟩);have ra:Rps C.K (λ p=>((cJ H 1 lab p).1=1\/(cJ H 1 lab p).1=i+2)/\p≠a0) H2 (xs++zs) (ds++es'):=by
       refine(r.mono s2 λ p o e z=>⟨by rw[bf e];exact z.1,z.2⟩).append (rb.wk λ p o e z=>⟨.inl z,λ q=>?_⟩);subst q;have z1:(cJ H 1 lab p).1=1:=z;lia
      exact ra.but B (s2 _ _ h) rfl λ z=>z.2 rfl
     .rw[if_neg hz]at w
      exact zAR w
    |_=>exact zAR w
  .exact zAR W
end
def Enr(K:zAA)(x:Str)(st:Stmt)(f:Addr)(fd:zAd):Prop:=L2.Fun K x x st f fd/\zAv K zAh x=some (some (.ref f))
def enr{K:zAA}{st:Stmt}{oc kV dc pm cd ct:Value}(a:zAv K zAh x=some (some (.ref f)))
  (l:K.lookup f=some ⟨oc,od,.func (zCW x x (qX st) (jO st) (aN st) .none kV dc pm an cd ct),sl⟩)(c:zDm K cd x=true)(k:zDO K (.ref f)=true):∃f fd,Enr K x st f fd:=⟨f,_,aNw (st:=st) l c k,a⟩
structure Dnr(K:zAA)(mg:Str->Option Value)(x:Str)(st:Stmt)(ps:List Str)(f:Addr)(d:zAd):Prop where
 F:L2.Fun K x x st f d
 m:mg x=some (.ref f)
 b:L2.Binds K d ps []
section
variable{C:Ct}
def aR{st:Stmt}(hF:bw C.prog C.w C.K C.mg C.base (CX1 C.prog C.w) k fn fd ps (spF C.K C.G.cl n F))(D:Dnr C.K C.mg x st ps fn fd)(ha:SA C m (e::es) ga)(hr:k<=C.k:=by exact Nat.le_of_ble_eq_true rfl)(hg:∀i,Gl (C.X i) x:=by intro _;rfl)
  (hn:∀ρ ds,ga ρ= .ok ds->ds.length=n:=by repeat (first|exact λ _ _ h=>aLG h|apply aIe))(hdb:Nd x:=by decide)(he:∀i,zA1 (e::es) (C.X i).env=(false,eval e (C.X i).env)::zA1 es (C.X i).env:=by intro _;rfl)
  (hpl:∀i,(zCo pos (zA1 es (C.X i).env)).any (·.1)=false:=by intro _;rfl):SE C (some []) (.Call (.Name x p) (e::es) [] pos) (aP F ga):=aKR hF hr D.m D.F.kp D.b ha hn hdb he hpl hg
end
def ao{P:zA7}{w:World}{K:zAA}{st:Stmt}(D:Dnr K mg q st ps fn fd)(S:aV N ps (aN st))(hb:N.Nodup->∀cdv A outer s H E hr,SSs (ctD P w K mg base N q (aN st) fn cdv A outer s H E k hr) (jO st) f)(hn:ps.length=n:=by rfl)(hF:cu N.length f=FF:=by rfl):
  bw P w K mg base (CX1 P w) (k+1) fn fd ps (spF K (bR mg) n FF):=aL6 D.F S (hb S.nd) hn hF
def aEs(items:Array Value)(nss:Nat->List Int)(h:Heap):Prop:=∀i v,items[i]? =some v->∃x its,v= .ref x/\IsTup h x its/\zBL its.toList (nss i)
def aEA(items:Array Value):List Addr:=items.toList.filterMap λ v=>match v with| .ref x=>some x|_=>none
def aDz{items:Array Value}{i:Nat}(h:items[i]? =some (zBr x)):x∈aEA items:=by
 unfold aEA;rw[zCb];exact⟨.ref x,by have:=zBH (l:=items.toList) (i:=i) (by simpa using h);exact this,rfl⟩
def aEs.keep(T:aEs items nss h)(k:∀b∈aEA items,∀o,h.get? b=some o->h'.get? b=some o):aEs items nss h':=λ i v e=>by
 obtain⟨x,its,rfl,⟨o,h1,h2⟩,h3⟩:=T i v e;exact⟨x,its,rfl,⟨o,k x (aDz e) o h1,h2⟩,h3⟩
def TupIter.ext{hp h':Heap}{it t i c}(h:Heap.IsTupleIter hp it t i)(e:zFp c hp h')(n:it≠c):h'.IsTupleIter it t i:=h.at λ o q=>e it o n q
def IsTup.ext{hp h':Heap}{t c xs}(h:zGi hp t xs)(e:zFp c hp h')(n:t≠c):h'.IsTuple t xs:=let⟨o,q,r⟩:=h;⟨o,e t o n q,r⟩
section
variable{prog:zA7}{w:World}{A:zAk}{E:Value->zAG->Prop}{s:zAG}{z TI TO i1 i2 l1 l2:Addr}{k:Nat}{xs ys:Array Value}{x y a b:Value}
def aGM{Q:Value->zAG->Prop}(D:ZipApart z TI TO i1 i2 l1 l2)(hz:IsZip s.heap z TI TO .none)(hTI:zDx s.heap TI (.ref i1) (.ref i2))(hTO:zDx s.heap TO a b)
  (p1:s.heap.IsTupleIter i1 l1 k)(p2:s.heap.IsTupleIter i2 l2 k)(t1:s.heap.IsTuple l1 xs)(t2:s.heap.IsTuple l2 ys)(hx:xs[k]? =some x)(hy:ys[k]? =some y)
  (hQ:∀h',IsZip h' z TI TO (zIK s.heap.objs.size)->zDx h' TO x y->h'.IsTupleIter i1 l1 (k+1)->h'.IsTupleIter i2 l2 (k+1)->zDx h' s.heap.objs.size x y->
   (∀c o,c∉[z,TO,i1,i2]->s.heap.get? c=some o->h'.get? c=some o)->Q (.ref s.heap.objs.size) {s with heap:=h'}):
  wpAny (model prog w) A (zDP.«zip.__next__» ⟨[.ref z],[]⟩) (λ fin s'=>∃v,fin= .done (.ret v)/\Q v s') E s:=by
 show wpAny _ _ (field (.ref z) 2>>=_) _ _ _;refine zAB (zBt hz rfl (x:=.bool false) rfl ?_);show wpAny _ _ (field (.ref z) 3>>=_) _ _ _;refine zAB (zBt hz rfl (x:=.ref TI) rfl (zAB (zCh hTI rfl ?_)));show wpAny _ _ (zBm (.ref z)>>=_) _ _ _;refine zAB ?_;unfold zBm;refine zAB (zBt hz rfl (x:=.none) rfl (zAK ?_));simp only[if_true];refine zAB (zGG (zAB (zBt hz rfl (x:=.ref TO) rfl (zAB (zDV hz (by simp) λ j1 (z1:IsZip j1 z TI TO .ellipsis) s1=>zAB ?_)))));simp only[zHx,zIO,zFq,zIW];refine zAB (zAB (zFn ?_));show wpAny _ _ (zBJ (.ref i1)>>=_) _ _ _;refine zAB (sI (TupIter.ext p1 s1.extBut D.i1z) (IsTup.ext t1 s1.extBut D.l1z) hx λ j2 q2 s2=>zAK ?_);have o2:zDx j2 TO a b:=s2.extBut _ _ D.TOi1 (s1.extBut _ _ D.TOz hTO);refine zAB (zCh o2 rfl (zAB (zFT o2 λ j3 (o3:zDx j3 TO x b) s3=>zAB (zI4 (zAK (zAB (zAB (zFn ?_))))))));show wpAny _ _ (zBJ (.ref i2)>>=_) _ _ _;refine zAB (sI (TupIter.ext (TupIter.ext (TupIter.ext p2 s1.extBut D.i2z) s2.extBut D.i12.symm) s3.extBut D.TOi2.symm) (IsTup.ext (IsTup.ext (IsTup.ext t2 s1.extBut D.l2z) s2.extBut D.l2i1) s3.extBut D.l2TO) hy λ j4 q4 s4=>zAK ?_);have o4:zDx j4 TO x b:=s4.extBut _ _ D.TOi2 o3;refine zAB (zCh o4 rfl (zAB (zFT o4 λ j5 (o5:zDx j5 TO x y) s5=>zAB (zI4 (zAK (zAK (zAB (zCh o5 rfl (zAB (wpAny_newTuple ?_))))))))));have sz:j5.objs.size=s.heap.objs.size:=by rw[s5.1,s4.1,s3.1,s2.1,s1.1]
 have z5:IsZip j5 z TI TO .ellipsis:=s5.extBut _ _ D.TOz.symm (s4.extBut _ _ D.i2z.symm (s3.extBut _ _ D.TOz.symm (s2.extBut _ _ D.i1z.symm z1)));have k5:∀c o,c∉[z,TO,i1,i2]->s.heap.get? c=some o->j5.get? c=some o:=λ c o n e=>by
  simp only[zAL,zAf,or_false,not_or]at n;exact s5.extBut _ _ n.2.1 (s4.extBut _ _ n.2.2.2 (s3.extBut _ _ n.2.1 (s2.extBut _ _ n.2.2.1 (s1.extBut _ _ n.1 e))))
 have q15:j5.IsTupleIter i1 l1 (k+1):=TupIter.ext (TupIter.ext (TupIter.ext q2 s3.extBut D.TOi1.symm) s4.extBut D.i12) s5.extBut D.TOi1.symm;have q25:j5.IsTupleIter i2 l2 (k+1):=TupIter.ext q4 s5.extBut D.TOi2.symm;have lz:z<j5.objs.size:=zAV z5;show wpAny _ _ (zDi (.ref z) (.ref j5.objs.size)>>=_) _ _ _;refine zAB ?_;unfold zDi;have z6:IsZip (j5.push {cls:=.type "tuple",data:=.seq #[x,y]}) z TI TO .ellipsis:=zAC _ z5;refine zAB (zDV z6 (by simp) λ j7 (z7:IsZip j7 z TI TO (zIK j5.objs.size)) s7=>zDV z7 (by simp) λ j8 (z8:IsZip j8 z TI TO (zIK j5.objs.size)) s8=>?_);have up:∀c o,c≠z->j5.get? c=some o->j8.get? c=some o:=λ c o n e=>s8.extBut _ _ n (s7.extBut _ _ n (zAC _ e))
 have t8:zDx j8 j5.objs.size x y:=s8.extBut _ _ (zCM lz) (s7.extBut _ _ (zCM lz) (zAO _ rfl));rw[sz]at z8 t8;refine zAK ⟨_,rfl,?_⟩;show Q (.ref j5.objs.size) _;rw[sz];exact hQ j8 z8 (up _ _ D.TOz o5) (q15.at λ o e=>up _ o D.i1z e) (q25.at λ o e=>up _ o D.i2z e) t8 λ c o n e=>up c o (λ q=>n (by simp[q])) (k5 c o n e)
def aHO{Q:Fin->zAG->Prop}(hh:A.handled=none)(D:ZipApart z TI TO i1 i2 l1 l2)(hz:IsZip s.heap z TI TO .none)(hTI:zDx s.heap TI (.ref i1) (.ref i2))(hTO:zDx s.heap TO a b)
  (p1:s.heap.IsTupleIter i1 l1 k)(p2:s.heap.IsTupleIter i2 l2 k)(t1:s.heap.IsTuple l1 xs)(t2:s.heap.IsTuple l2 ys)(cS:xs[k]? =none\/ys[k]? =none)
  (hE:∀h' e,(∀c o,c∉[z,TO,i1,i2]->s.heap.get? c=some o->h'.get? c=some o)->(∃o,h'.get? e=some o/\o.cls= .type "StopIteration")->E (.ref e) {s with heap:=h'}):
  wpAny (model prog w) A (zDP.«zip.__next__» ⟨[.ref z],[]⟩) Q E s:=by
 show wpAny _ _ (field (.ref z) 2>>=_) _ _ _;refine zAB (zBt hz rfl (x:=.bool false) rfl ?_);show wpAny _ _ (field (.ref z) 3>>=_) _ _ _;refine zAB (zBt hz rfl (x:=.ref TI) rfl (zAB (zCh hTI rfl ?_)));show wpAny _ _ (zBm (.ref z)>>=_) _ _ _;refine zAB ?_;unfold zBm;refine zAB (zBt hz rfl (x:=.none) rfl (zAK ?_));simp only[if_true];refine zAB (zGG (zAB (zBt hz rfl (x:=.ref TO) rfl (zAB (zDV hz (by simp) λ j1 (z1:IsZip j1 z TI TO .ellipsis) s1=>zAB ?_)))));simp only[zHx,zIO,zFq,zIW];refine zAB (zAB (zFn ?_));show wpAny _ _ (zBJ (.ref i1)>>=_) _ _ _;have fin:∀{j:Heap} {e:Addr},IsZip j z TI TO .ellipsis->(∀c o,c∉[z,TO,i1,i2]->s.heap.get? c=some o->j.get? c=some o)->(∃o,j.get? e=some o/\o.cls= .type "StopIteration")->wpAny (model prog w) A (setField (.ref z) 0 .none) (λ _ s'=>E (.ref e) s') E {s with heap:=j}:=λ{j e} zj kj ⟨oe,he,ce⟩=>by
  have ne:e≠z:=λ q=>by subst q;rw[zj]at he;cases he;simp at ce
  exact zDV zj (by simp) λ j' _ sj=>hE j' e (λ c o n q=>sj.extBut _ _ (λ q=>n (by simp[q])) (kj c o n q)) ⟨oe,sj.extBut _ _ ne he,ce⟩
 cases hx:xs[k]? with
 |none=>
  refine zAB (aAP hh (TupIter.ext p1 s1.extBut D.i1z) (IsTup.ext t1 s1.extBut D.l1z) hx λ j2 e s2 he=>?_);refine fin (s2 _ _ D.i1z.symm z1) (λ c o n q=>?_) he;simp only[zAL,zAf,or_false,not_or]at n;exact s2 _ _ n.2.2.1 (s1.extBut _ _ n.1 q)
 |some x=>
  have hy:ys[k]? =none:=by rcases cS with h|h;rw[hx]at h;cases h;exact h
  refine zAB (sI (TupIter.ext p1 s1.extBut D.i1z) (IsTup.ext t1 s1.extBut D.l1z) hx λ j2 q2 s2=>zAK ?_);have o2:zDx j2 TO a b:=s2.extBut _ _ D.TOi1 (s1.extBut _ _ D.TOz hTO);refine zAB (zCh o2 rfl (zAB (zFT o2 λ j3 (o3:zDx j3 TO x b) s3=>zAB (zI4 (zAK (zAB (zAB (zFn ?_))))))));show wpAny _ _ (zBJ (.ref i2)>>=_) _ _ _;refine zAB (aAP hh (TupIter.ext (TupIter.ext (TupIter.ext p2 s1.extBut D.i2z) s2.extBut D.i12.symm) s3.extBut D.TOi2.symm) (IsTup.ext (IsTup.ext (IsTup.ext t2 s1.extBut D.l2z) s2.extBut D.l2i1) s3.extBut D.l2TO) hy λ j4 e s4 he=>?_);refine fin (s4 _ _ D.i2z.symm (s3.extBut _ _ D.TOz.symm (s2.extBut _ _ D.i1z.symm z1))) (λ c o n q=>?_) he;simp only[zAL,zAf,or_false,not_or]at n;exact s4 _ _ n.2.2.2 (s3.extBut _ _ n.2.1 (s2.extBut _ _ n.2.2.1 (s1.extBut _ _ n.1 q)))
def aES(l1 l2:Addr)(xs ys:Array Value):
  Meets (zDP.«zip.__new__» ⟨[.type "zip",.ref l1,.ref l2],[]⟩) (λ _ R s=>s.heap.IsTuple l1 xs/\s.heap.IsTuple l2 ys/\
   ∀h1 h2 h3 h4,h1=s.heap.push {cls:=.type "tuple_iterator",data:=.fields #[.ref l1,.int 0 0]}->h2=h1.push {cls:=.type "tuple_iterator",data:=.fields #[.ref l2,.int 0 0]}->h3=h2.push {cls:=.type "tuple",data:=.seq #[.ref s.heap.objs.size,.ref h1.objs.size]}->h4=h3.push {cls:=.type "tuple",data:=.seq #[.none,.none]}->
   R (.ok (.ret (.ref h4.objs.size))) {s with heap:=h4.push {cls:=.type "zip",data:=.fields #[.none,.bool false,.bool false,.ref h2.objs.size,.ref h3.objs.size]}}):=
 .of_wp λ prog w A R s h=>by
  obtain⟨hp,g,d,tk,os⟩:=s;obtain⟨u1,u2,h⟩:=h;have aS:=sub_zip;have v1:zGi (zIb ⟨hp,g,d,tk,os⟩) l1 xs:=u1;have v2:zGi (zIb ⟨hp.push {cls:=.type "tuple_iterator",data:=.fields #[.ref l1,.int 0 0]},g,d,tk,os⟩) l2 ys:=let⟨o,q,r⟩:=u2;⟨o,zAC _ q,r⟩
  wp_walk using zDU v1,zDU v2;exact⟨_,rfl,h _ _ _ _ rfl rfl rfl rfl⟩
def aHC{Q:Value->zAG->Prop}(t1:s.heap.IsTuple l1 xs)(t2:s.heap.IsTuple l2 ys)
  (h:∀h' n,n=s.heap.objs.size->IsZip h' (n+4) (n+2) (n+3) .none->zDx h' (n+2) (.ref n) (.ref (n+1))->zDx h' (n+3) .none .none->h'.IsTupleIter n l1 0->h'.IsTupleIter (n+1) l2 0->
   (∀c o,s.heap.get? c=some o->h'.get? c=some o)->Q (.ref (n+4)) {s with heap:=h'}):
  wpAny (model prog w) A (call (.type "zip") [.ref l1,.ref l2]) Q E s:=by
 refine callType_new F.called_zip (by decide) (F.typeCall_zip_2 _ _) (F.newCall_zip_2 _ _) (λ obj=>F.args_object_init_3 obj _ _) F.entry_zip_new (aES l1 l2 xs ys) ⟨t1,t2,λ h1 h2 h3 h4 e1 e2 e3 e4=>?_⟩;have n1:h1.objs.size=s.heap.objs.size+1:=by rw[e1,zBB]
 have n2:h2.objs.size=s.heap.objs.size+2:=by rw[e2,zBB,n1]
 have n3:h3.objs.size=s.heap.objs.size+3:=by rw[e3,zBB,n2]
 have n4:h4.objs.size=s.heap.objs.size+4:=by rw[e4,zBB,n3]
 have up1:∀c o,s.heap.get? c=some o->h1.get? c=some o:=λ c o q=>by rw[e1];exact zAC _ q
 have up2:∀c o,h1.get? c=some o->h2.get? c=some o:=λ c o q=>by rw[e2];exact zAC _ q
 have up3:∀c o,h2.get? c=some o->h3.get? c=some o:=λ c o q=>by rw[e3];exact zAC _ q
 have up4:∀c o,h3.get? c=some o->h4.get? c=some o:=λ c o q=>by rw[e4];exact zAC _ q
 have g1:=zAO s.heap (o:={cls:=.type "tuple_iterator",data:=.fields #[.ref l1,.int 0 0]}) rfl;have g2:=zAO h1 (o:={cls:=.type "tuple_iterator",data:=.fields #[.ref l2,.int 0 0]}) rfl;have g3:=zAO h2 (o:={cls:=.type "tuple",data:=.seq #[.ref s.heap.objs.size,.ref h1.objs.size]}) rfl;have g4:=zAO h3 (o:={cls:=.type "tuple",data:=.seq #[.none,.none]}) rfl;rw[<-e1]at g1;rw[<-e2]at g2;rw[<-e3]at g3;rw[<-e4]at g4;have g5:=zAO h4 (o:={cls:=.type "zip",data:=.fields #[.none,.bool false,.bool false,.ref h2.objs.size,.ref h3.objs.size]}) rfl;show _/\_;rw[n2,n3,n4]at g5;rw[n3]at g4;rw[n1,n2]at g3;rw[n1]at g2;rw[n4,n2,n3];exact⟨⟨_,g5,rfl⟩,h _ _ rfl g5 (zAC _ (up4 _ _ g3)) (zAC _ g4) ⟨_,zAC _ (up4 _ _ (up3 _ _ (up2 _ _ g1))),rfl,rfl⟩ ⟨_,zAC _ (up4 _ _ (up3 _ _ g2)),rfl,rfl⟩
  λ c o q=>zAC _ (up4 _ _ (up3 _ _ (up2 _ _ (up1 _ _ q))))⟩
end
def aGr{X:Cx}{iX:hZ}{σ:List (Option V)}{H:Hp}{s:zAG}{h':Heap}{ch:List Addr}{t':Nat}(I:Inv X iX σ H s)(hf:∀b∈ch,tD X iX H b)(k:∀b u,b∉ch->s.heap.get? b=some u->h'.get? b=some u):
  Inv X iX σ H {s with heap:=h',toks:=t'}:=by
 have nch:∀b u,H b=some u->b∉ch:=λ b u e z=>by have:=(hf b z).1;rw[e]at this;cases this
 refine I.call (g':=s.gens) (d':=s.drawn) (ch:=ch) ⟨λ b u q _ _ hx=>k b u hx q,λ b u q _ _ hx=>⟨u.slots,k b u hx q⟩,λ b u q n _=>n,λ b u q hx=>⟨u,k b u hx q⟩,λ b xs q=>q,λ b u xs q=>q,λ b ps q=>⟨#[],by rw[q];simp⟩⟩ (λ b u e=>?_) I.bare
  λ b hb=>let⟨_,f1,_,f3,f4,f5⟩:=hf b hb;⟨f3,f1,f4,f5⟩
 refine(I.hok b u e).stay (λ c v hc q=>k c v ?_ q) (λ c q=>q) λ c xs q=>q
 rcases hc with rfl|hc
 .exact nch _ _ e
 .exact nch _ _ hc
def Itz(K:zAA)(a b:Addr):It:=
 ⟨λ i H=>∃xs ys x y,SqT K H a xs/\SqT K H b ys/\xs[i]? =some x/\ys[i]? =some y,λ i H v H'=>∃p x y,v= .ref p/\H p=none/\H'=upd H p (.tup [x,y])/\(∀xs,SqT K H a xs->xs[i]? =some x)/\∀ys,SqT K H b ys->ys[i]? =some y,λ i H=>∃xs ys,SqT K H a xs/\SqT K H b ys/\(xs.length<=i\/ys.length<=i)⟩
def aHU{P:zA7}{w:World}{K:zAA}{elts:List Expr}{x1:Nat}{ps:Pos}(a b z TI TO i1 i2:Addr)(D:ZipApart z TI TO i1 i2 a b):
  Turn P w K (.Tuple elts x1 ps) (Itz K a b) [z,TI,TO,i1,i2] z (λ i h=>IsZip h z TI TO .none/\zDx h TI (.ref i1) (.ref i2)/\(∃u v,zDx h TO u v)/\h.IsTupleIter i1 a i/\h.IsTupleIter i2 b i) where
 mem:=by simp
 obj:=λ i h ⟨e1,e2,⟨u,v,e3⟩,⟨o4,e4,_,d4⟩,o5,e5,_,d5⟩ c hc=>by
  simp only[zAL,zAf,or_false]at hc;rcases hc with rfl|rfl|rfl|rfl|rfl
  .exact⟨_,e1,λ v z=>by cases z⟩
  .exact⟨_,e2,λ v z=>by cases z⟩
  .exact⟨_,e3,λ v z=>by cases z⟩
  .exact⟨o4,e4,λ v z=>by rw[d4]at z;cases z⟩
  .exact⟨o5,e5,λ v z=>by rw[d5]at z;cases z⟩
 keep:=λ i h h' ⟨e1,e2,⟨u,v,e3⟩,e4,e5⟩ k=>⟨k _ (by simp) _ e1,k _ (by simp) _ e2,⟨u,v,k _ (by simp) _ e3⟩,e4.at λ o q=>k _ (by simp) o q,e5.at λ o q=>k _ (by simp) o q⟩
 item:=by
  intro X hP hw hK hc i iX s σ H E I hf st hg;subst hP hw hK;obtain⟨xs,ys,x,y,q1,q2,hx,hy⟩:=hg;obtain⟨its,rv,p,hz⟩:=I.tuple q1;obtain⟨its2,rv2,p2,hz2⟩:=I.tuple q2;obtain⟨u,hu,ru⟩:=rv.get hx;obtain⟨u2,hu2,ru2⟩:=rv2.get hy;obtain⟨e1,e2,⟨c,d,e3⟩,e4,e5⟩:=st;have hT:s.TypeIs (.ref z) "zip":=⟨_,e1,rfl⟩;unfold zEz;refine zAB (zFm (zBW (name:=zDF "__next__") hT zEf (zBV zEf hT zI8 (aGM D e1 e2 e3 e4 e5 p p2 (x:=u) (y:=u2) (by simpa using hu) (by simpa using hu2) λ h' f1 f2 f3 f4 f5 k=>zAK ⟨_,rfl,?_⟩) (zIV _))));have lt:∀{c o},s.heap.get? c=some o->c≠s.heap.objs.size:=λ e=>zA8 (zAV e)
  have n1:i1≠s.heap.objs.size:=by obtain⟨_,e,_⟩:=e4;exact lt e
  have n2:i2≠s.heap.objs.size:=by obtain⟨_,e,_⟩:=e5;exact lt e
  refine wpAny_letOwnedTupleGo_zip f1 λ h2 z2 s2=>⟨.ref s.heap.objs.size,upd H s.heap.objs.size (.tup [x,y]),?_,rfl,⟨_,x,y,rfl,I.hok.fresh (zAT _),rfl,λ l hl=>by rw[I.tuple_inj hl q1];exact hx,λ l hl=>by rw[I.tuple_inj hl q2];exact hy⟩,
   ⟨z2,s2.extBut _ _ D.TIz (k _ _ (by simp[D.TIz,D.TITO,D.TIi1,D.TIi2]) e2),⟨_,_,s2.extBut _ _ D.TOz f2⟩,TupIter.ext f3 s2.extBut D.i1z,TupIter.ext f4 s2.extBut D.i2z⟩,λ c hc=>?_⟩
  .refine aIu (s:=s) (h':=h2) (t':=s.toks) (ch:=[z,TI,TO,i1,i2]) I hf (λ c v hc q=>(s2.2 c λ e=>hc (by simp[e])).trans (k c v (λ m=>hc ?_) q)) (zAT _) ⟨⟨by simp[zBz],NoD.at ((s2.2 _ (lt e1).symm).trans f5)⟩,[u,u2],.cons ru (.cons ru2 .nil),_,(s2.2 _ (lt e1).symm).trans f5,rfl,_,rfl⟩
   simp only[zAL,zAf,or_false]at m ⊢;rcases m with m|m|m|m<;>simp[m]
  .have:=(hf c hc).1
   rw[bG]
   .exact this
   .rintro rfl
    simp only[zAL,zAf,or_false]at hc;rcases hc with m|m|m|m|m
    .exact lt e1 m.symm
    .exact lt e2 m.symm
    .exact lt e3 m.symm
    .exact n1 m.symm
    .exact n2 m.symm
 done:=by
  intro X hP hw hK hc i iX s σ H E I hf st hg;subst hP hw hK;obtain⟨xs,ys,q1,q2,hx⟩:=hg;obtain⟨its,rv,p,hz⟩:=I.tuple q1;obtain⟨its2,rv2,p2,hz2⟩:=I.tuple q2;obtain⟨e1,e2,⟨c,d,e3⟩,e4,e5⟩:=st;have hT:s.TypeIs (.ref z) "zip":=⟨_,e1,rfl⟩;have hl:=rv.length;have hl2:=rv2.length;unfold zEz;refine zAB (zFm (zBW (name:=zDF "__next__") hT zEf (zBV zEf hT zI8 (aHO (I.ok.hd hc) D e1 e2 e3 e4 e5 p p2 (by simp;lia) λ h' e k he=>?_) (zIV _))));obtain⟨o,ho,hc⟩:=he;refine zAB (zGV (T:="StopIteration") (b:=true) ⟨o,ho,hc⟩ isSubtype_stop ?_);refine zAK ⟨rfl,aGr (t':=s.toks) (ch:=[z,TI,TO,i1,i2]) I hf λ c v hc q=>k c v (λ m=>hc ?_) q⟩;simp only[zAL,zAf,or_false]at m ⊢;rcases m with m|m|m|m<;>simp[m]
 self:=λ _ _ _ _ _ st h=>wpAny_pyIter_zip st.1 h
def aOs(K:zAA)(tl:TA):TI:=λ σ H R=>tl σ H λ xs H1=>∃a b,xs=[.ref a,.ref b]/\(∃ys,SqT K H1 a ys)/\(∃ys,SqT K H1 b ys)/\R (Itz K a b) H1
def aMx{X:Cx}{elts:List Expr}{x1:Nat}{ps p pos:Pos}{l m:Expr}{tl:TA}(hl:PA X [l,m] tl)(hg:Gl X "zip")(hm:X.mg "zip"=none)(hv:zAq "zip"=some (.type "zip"))
  (hs:zA1 [l,m] X.env=[(false,eval l X.env),(false,eval m X.env)]:=by rfl)(hs2:zA1 [m] X.env=[(false,eval m X.env)]:=by rfl):PI X (.Tuple elts x1 ps) (.Call (.Name "zip" p) [l,m] [] pos) (aOs X.K tl):=by
 intro iX s σ H R I h;refine zDT (sO I hg hm hv ?_ (by decide) (by decide));refine zC5 (thn (hl pos iX s σ H _ I h) λ us s1 ⟨vs,H1,I1,r1,a,b,e,⟨ys,hy⟩,⟨ys2,hy2⟩,q⟩=>?_) (by rw[hs,hs2]) (by rw[hs2];rfl);subst e;obtain⟨u,u2,rfl,ru,ru2⟩:∃u u2,us=[u,u2]/\RelV (.ref a) u/\RelV (.ref b) u2:=by
  cases r1 with
  |cons r rr=>
   cases rr with
   |cons r' rr=>cases rr;exact⟨_,_,rfl,r,r'⟩
 cases ru;cases ru2;obtain⟨its,rv,pp,hz⟩:=I1.tuple hy;obtain⟨its2,rv2,pp2,hz2⟩:=I1.tuple hy2;have ha:a<s1.heap.objs.size:=let⟨o,ho,_⟩:=pp;zAV ho
 have hb:b<s1.heap.objs.size:=let⟨o,ho,_⟩:=pp2;zAV ho
 refine aHC pp pp2 λ h' n en e1 e2 e3 e4 e5 hk=>wpAny_pyIter_zip e1 ?_
 rw[<-en]at ha hb;refine⟨_,[n+4,n+2,n+3,n,n+1],_,_,H1,rfl,I1.kept (t':=s1.toks) hk,aHU a b (n+4) (n+2) (n+3) n (n+1) ⟨by lia,by lia,by lia,by lia,by lia,by lia,by lia,by lia,by lia,by lia,by lia,by lia,by lia,by lia,by lia,by lia,by lia,by lia⟩,⟨e1,e2,⟨_,_,e3⟩,e4,e5⟩,λ c hc=>?_,q⟩;have hle:s1.heap.objs.size<=c:=by
  simp only[zAL,zAf,or_false]at hc;lia
 exact I1.fpOk hle (I1.hok.fresh hle)
def aDe(l m:List D):List D:=(l.zip m).map λ p=>.tup [p.1,p.2]
def aJt:List D->Rs (List D)
 |[.tup l,.tup m]=>.ok (aDe l m)
 |_=>.st
def aNj{K:zAA}{lab:Lab}{H:Hp}{a b:Addr}{xs ys:List V}{ds es:List D}(h:SqT K H a xs)(r:Rps K (λ p=>(lab p).1<=1) H xs ds)(h2:SqT K H b ys)(r2:Rps K (λ p=>(lab p).1<=1) H ys es):JL K lab (Itz K a b) H (aDe ds es):=by
 have hl:=r.length;have hl2:=r2.length;have hle:(aDe ds es).length=min ds.length es.length:=by simp[aDe]
 refine λ i=>⟨λ hi=>⟨xs,ys,h,h2,by lia⟩,λ hi=>⟨⟨xs,ys,xs[i]'(by lia),ys[i]'(by lia),h,h2,by simp,by simp⟩,λ x H' y=>?_⟩⟩
 obtain⟨p,y,y2,rfl,hp,rfl,hy,hy2⟩:=y;obtain⟨d,g1,g2⟩:=r.get (hy xs h);obtain⟨d2,g3,g4⟩:=r2.get (hy2 ys h2);refine⟨au hp _,.tup [d,d2],?_,.tup (.inl (.inl aq)) (.cons (g2.up (au hp _)) (.cons (g4.up (au hp _)) .nil))⟩;unfold aDe;rw[zA2,List.getElem?_zip_eq_some (z:=(d,d2)) |>.mpr ⟨g1,g3⟩];rfl
section
variable{C:Ct}{m:Mode}{a b:Expr}{ga:En->Rs (List D)}{elts:List Expr}{x1:Nat}{ps p pos:Pos}
def aMb(ha:SA C m [a,b] ga)(hm:C.mg "zip"=none)(ho:okS m=true:=by rfl)(hs:∀i,zA1 [a,b] (C.X i).env=[(false,eval a (C.X i).env),(false,eval b (C.X i).env)]:=by intro _;rfl)(hs2:∀i,zA1 [b] (C.X i).env=[(false,eval b (C.X i).env)]:=by intro _;rfl)(hg:∀i,Gl (C.X i) "zip":=by intro _;rfl)(hv:zAq "zip"=some (.type "zip"):=by decide+kernel):
  SI C (.Tuple elts x1 ps) (.Call (.Name "zip" p) [a,b] [] pos) (ig aJt ga):=by
 obtain⟨t,p1,p2⟩:=ha;refine⟨aOs C.K t,λ i=>by rw[<-C.hK i];exact aMx (p1 i) (hg i) (by rw[(C.cx i).2.2.2.1];exact hm) hv (hs i) (hs2 i),λ U σ H ρ lab Rr R W=>p2 U σ H ρ lab _ R (W.bd.imp λ ds _ w vs H1 s r=>?_)⟩;unfold aJt at w;split at w
 .rename_i l k _
  cases r with
  |cons r1 rr=>
   obtain⟨v2,rfl,r2⟩:=rr.one_inv;obtain⟨R',r1'⟩:=R.shared ho s r1;obtain⟨_,r2'⟩:=R.shared ho s r2;obtain⟨b,xs,rfl,h,q⟩:=r1'.tup_inv;obtain⟨b2,xs2,rfl,h2,q2⟩:=r2'.tup_inv;refine⟨b,b2,rfl,⟨xs,h⟩,⟨xs2,h2⟩,w _ H1 _ [(.ref b,.tup l),(.ref b2,.tup k)] s (λ p o e=>bf e) ⟨R'.len,R'.sl,R'.old,R'.new,λ z hz=>?_⟩ λ lab' H' hq=>?_⟩
   .rcases zAL.mp hz with rfl|hz
    .exact .tup h q
    .rcases zAL.mp hz with rfl|hz
     .exact .tup h2 q2
     .exact R'.tm z hz
   .have z:=hq _ (zAH ..)
    have z2:=hq _ (zAF _ (zAH ..));cases z with
    |tup h' q'=>
     cases z2 with
     |tup h2' q2'=>exact aNj h' q' h2' q2'
 .exact zAR w
end
def putN(ds:List D):D->Option Nat
 | .int n=>ixN ds.length n
 |_=>none
def aIC(i:Nat)(fk fe:En->Rs D):En->Ou:=λ ρ=>match ρ[i]? with
 |some (.ow (.lst ds))=>(fe ρ).bo λ d=>(fk ρ).bo λ k=>match putN ds k with
  |some j=>.nx (ρ.set i (.ow (.lst (ds.set j d))))
  |none=>.st
 |_=>.st
def aG1(h:putN ds k=some j):∃n,k= .int n/\ixN ds.length n=some j:=by
 cases k with
 |int n=>exact⟨n,rfl,h⟩
 |_=>cases h
section
variable{C:Ct}{pos tpos p:Pos}{ek e:Expr}{fk fe:En->Rs D}{x:Str}{m m1:Mode}
def aFG(i:Nat)(hk:SE C m1 ek fk)(he:SE C m e fe)(hm:okN m=true:=by rfl)(hN:∀j,(C.X j).N[i]? =some x:=by intro _;rfl)(hv:∀j,Vis (C.X j).env.scope x:=by intro _;first|exact zC8 rfl|exact zBy (zC8 rfl)|exact zBy (zBy rfl))(hd:Nd x:=by decide)
  (hcd:(x==("__classdict__":Str))=false:=by decide)(ha:∀j v,zDp (.Subscript (.Name x p) ek tpos) (C.X j).env v=(do
   let ov <-zDR [v] (eval (.Name x p) (C.X j).env);let iv <-zDR [v,ov] (eval ek (C.X j).env)
   zGb tpos
   zDR [v,ov,iv] (setItem ov iv v)
   release [v,ov,iv] []):=by intro _ _;rfl)(hs:∀j,zH0 [.Subscript (.Name x p) ek tpos] e pos.line (C.X j).env=pure false:=by intro _;rfl)(hw:∀j,zHZ [.Subscript (.Name x p) ek tpos] e (C.X j).env=pure none:=by intro _;rfl)
  (h1:∀j,(zCg [.Subscript (.Name x p) ek tpos] (C.X j).env).map (·.2)=[zDp (.Subscript (.Name x p) ek tpos) (C.X j).env]:=by intro _;rfl):
  SS C (.Assign [.Subscript (.Name x p) ek tpos] e pos) (aIC i fk fe):=by
 obtain⟨tk,k1,k2⟩:=hk;obtain⟨te,e1,e2⟩:=he;refine⟨aDl te (aOw (xO i) tk aMF),λ j=>aIL (e1 j) (aNA (mH (hN j) (hv j) hd hcd) (k1 j) set_list (ha j)) (hs j) (hw j) (h1 j),λ U σ H ρ lab De R W=>?_⟩;unfold aIC at W;cases es:ρ[i]? with
 |none=>rw[es]at W;exact zAR W
 |some s=>
  rw[es]at W;split at W
  .rename_i ds hs
   cases hs;rcases R.sl i _ es with z|⟨v,ev,hv'⟩
   .cases z
   .obtain⟨hv1,htop⟩:=hv'
    obtain⟨a0,ea0,la0⟩:=htop rfl;subst ea0;cases hv1 with
    |lst h mm r=>
     rename_i xs;refine e2 U σ H ρ lab _ R (W.bo.imp λ d _ w y H2 s2 r2=>⟨.ref a0,ev,?_⟩);refine k2 U σ H2 ρ lab _ (R.up s2) (w.bo.imp λ k _ w kv H3 s3 r3=>?_);cases hj:putN ds k with
     |none=>rw[hj]at w;exact zAR w
     |some j=>
      rw[hj]at w;dsimp only at w;obtain⟨n,rfl,hj⟩:=aG1 hj;have ey:=r3.int_inv;subst ey;have h3:H3 a0=some (.lst xs):=(s2.trans s3) _ _ h;refine⟨a0,xs,n,j,rfl,rfl,h3,by rw[r.length];exact hj,?_⟩;obtain⟨R',r'⟩:=R.fresh (P:=λ k=>k=1) rfl (λ k hk=>beq_iff_eq.mp (qO hm k hk)) s2 r2;have la:(cJ H 1 lab a0).1=i+2:=by rw[bf h];exact la0
      have B:mR a0 H3 (upd H3 a0 (.lst (xs.set j y))):=λ b' o ne hb=>by rw[bG ne];exact hb
      refine w σ _ _ ((R'.up s3).mut ev h3 rfl la B ⟨.lst aq (.inr la) ?_,λ _=>⟨a0,rfl,la⟩⟩);have ra:Rps C.K (λ p=>((cJ H 1 lab p).1=1\/(cJ H 1 lab p).1=i+2)/\p≠a0) H3 (xs.set j y) (ds.set j d):=by
       refine Rps.set ((r'.up s3).wk λ p o e z=>⟨.inl z,λ q=>?_⟩) j (r.mono (s2.trans s3) λ p o e z=>⟨by rw[bf e];exact z.1,z.2⟩);subst q;rw[la]at z;lia
      exact ra.but B h3 rfl λ z=>z.2 rfl
  .exact zAR W
end
def aB2(i:Int):List Int->Option Nat
 |[]=>none
 |a::l=>if a=i then some 0 else(aB2 i l).map (·+1)
theorem aAV:∀{l:List Int} {j:Nat},aB2 i l=some j->(l.map λ a=>a==i)[j]? =some true/\∀m,m<j->(l.map λ a=>a==i)[m]? =some false
 |a::l,j,h=>by
  unfold aB2 at h;split at h
  .rename_i e
   cases h;exact⟨by simp[e],λ m hm=>absurd hm (zE9 _)⟩
  .rename_i e
   obtain⟨k,h1,rfl⟩:=zC7.mp h;obtain⟨h2,h3⟩:=aAV h1;refine⟨h2,λ m hm=>?_⟩;cases m with
   |zero=>simp[e]
   |succ m=>exact h3 m (by lia)
def yg(l:List D):D->Rs D
 | .int i=>match intsOf l with
  |some is=>(match aB2 i is with
   |some j=>.ok (.int (j:Nat))
   |none=>.st)
  |none=>.st
 |_=>.st
def isL:D->Option (List D)
 | .lst l=>some l
 |_=>none
def opL(fd:List D->D->Rs D)(fo fe:En->Rs D):En->Rs D:=λ ρ=>(fo ρ).bd λ d=>match isL d with
 |some l=>(fe ρ).bd λ e=>okD (fd l e)
 |none=>.st
def aIb{K:zAA}(r:Rp K A H x (.lst l))(h:intsOf l=some is):∃a,x= .ref a/\H a=some (.lst (is.map V.int)):=by
 rw[cO h]at r;obtain⟨a,xs,rfl,h1,_,r1⟩:=r.lst_inv;have e:=r1.ints_of;subst e;exact⟨a,rfl,h1⟩
def aFX:V->List V->Hp->VK->Prop:=λ x xs H Q=>∃(a:Addr) (i:Int) (is:List Int) (j:Nat),x= .ref a/\xs=[.int i]/\H a=some (.lst (is.map V.int))/\(is.map λ e=>e==i)[j]? =some true/\(∀m,m<j->(is.map λ e=>e==i)[m]? =some false)/\Q (.int (j:Nat)) H
def eqV(i:Int):Value->Bool
 | .int n _=>n==i
 |_=>false
def aGg{X:Cx}:MtR X "list.index" aFX:=by
 intro iX s σ H x xs v us Q I rx rxs h;obtain⟨a,i,is,j,rfl,rfl,ha,e1,e2,q⟩:=h;cases rx;obtain⟨u,rfl,ru⟩:=vals1 rxs;obtain⟨t,rfl⟩:=ru;obtain⟨its,rv,pl,hz⟩:=I.list (SqL.of ha);obtain⟨ts,rfl,hts⟩:=aAU rv;subst hts;obtain⟨⟨cls,dd,data,sl⟩,ho,hc,n,hdd⟩:=id pl.isList;simp only at hc hdd;subst hc hdd;have em:(ts.map zFK).map (λ e=>e==i)=ts.map λ q=>q.1==i:=by rw[zAi];rfl
 rw[em]at e1 e2;have hj:j<ts.length:=by
  have:=(zAJ.mp e1).1
  simpa using this
 have kQ:ts.length<=zAY:=by simpa using hz
 have hz':zAY<2^62:=by decide
 refine zFN zFv ⟨_,ho,rfl⟩ PySem.F.entry_list_index (PySem.F.args_list_index_2 _ _) (SeqAt.list_indexAt a _ n dd sl (.int i t) (eqV i) j (by simpa using hj) (by omega) ?_ λ m hm hmj=>?_)
  ⟨ho,λ w hw=>?_,⟨.int _,H,I.tok _,⟨_,rfl⟩,q⟩⟩
 .rw[zA2,zAD hj]at e1
  simpa[eqV]using e1
 .have h2:=e2 m hmj
  have hm':m<ts.length:=by simpa using hm
  rw[zA2,zAD hm']at h2;simpa[eqV]using h2
 .have hw':w∈ts.map λ q=>zCR q.1 q.2:=by simpa using hw
  obtain⟨q,_,rfl⟩:=zAS.mp hw';exact zE5 q.1 q.2 i t
section
variable{C:Ct}{m m1:Mode}{o e:Expr}{fo fe:En->Rs D}{apos cpos:Pos}
def aCE(ho:SE C m o fo)(he:SE C m1 e fe)(hs1:∀j,zA1 [e] (C.X j).env=[(false,eval e (C.X j).env)]:=by intro _;rfl)(hbase:∀j,zDs o "index" (C.X j).env (eval o (C.X j).env)=eval o (C.X j).env:=by intro _;rfl)
  (hfew:∀j,((zCo cpos (zA1 [e] (C.X j).env)).all (λ x=>!x.1)&&(zFM cpos (zD7 [] (C.X j).env)).all (λ x=>x.1.isSome)&&decide ([e].length+([]:List zCj).length+(if ([]:List zCj).isEmpty then 0 else 1)<30))=true:=by intro _;rfl)
  (hline:(apos.endLine==cpos.line)=true:=by rfl):SE C (some []) (.Call (.Attribute o "index" apos) [e] [] cpos) (opL yg fo fe):=by
 obtain⟨t,h1,h2⟩:=ho;obtain⟨u,k1,k2⟩:=he;refine⟨tBM C.K "list" aFX t (je u oZ),λ j=>by rw[<-C.hK j];exact aCY zDB zFv PySem.F.type_list_index aGg (h1 j) (dI (k1 j) gR (hs1 j)) (hbase j) (hfew j) hline (hs1 j) rfl,λ U σ H ρ lab Q R W=>?_⟩;refine h2 U σ H ρ lab _ R (W.bd.imp λ d _ w x H1 s1 r1=>?_);cases d with
 |lst l=>
  obtain⟨a,xs,rfl,ha,_⟩:=r1.lst_inv;replace w:WR C.G ((fe ρ).bd λ e=>okD (yg l e)) (QE C.K (some []) lab H Q):=w;refine⟨.inl ⟨rfl,xs,SqL.of ha⟩,k2 U σ H1 ρ lab _ (R.up s1) (w.bd.imp λ e _ w y H2 s2 r2=>?_)⟩;obtain⟨z,ez,wz⟩:=w.okD;cases e with
  |int i=>
   unfold yg at ez;dsimp only at ez;cases hi:intsOf l with
   |none=>rw[hi]at ez;cases ez
   |some is=>
    rw[hi]at ez;dsimp only at ez;have ey:=r2.int_inv;subst ey;obtain⟨a',ea,hl⟩:=aIb (r1.up s2) hi;cases ea;cases hj:aB2 i is with
    |none=>rw[hj]at ez;cases ez
    |some j=>
     rw[hj]at ez;cases ez;obtain⟨q1,q2⟩:=aAV hj;exact⟨a,i,is,j,rfl,rfl,hl,q1,q2,wz _ H2 (s1.trans s2) (.int _)⟩
  |_=>cases ez
 |_=>exact zAR w
end
end VL
namespace PySem
open Sem(wp)
section
variable{prog:zA7}{w:World}
inductive aBs{K:Type}[DecidableEq K](knd:KeyKind prog w K)(h:Heap):List Value->List (K×Value)->Prop where
 |nil:aBs knd h [] []
 |cons {x:Addr} {o:Obj} {n:Nat} {kv v:Value} {k:K} {us:List Value} {ps:List (K×Value)} (ho:h.get? x=some o) (hc:o.cls= .type "tuple") (hd:o.data= .seq #[kv,v] n) (hk:knd.is k kv=true) (r:aBs knd h us ps):aBs knd h (.ref x::us) ((k,v)::ps)
end
end PySem
namespace VL
open PySem PySem.Spec PyProof.Rows L2
section
variable{K:Type}[DecidableEq K]
end
end VL
namespace L2
open PySem PySem.Spec PyProof.Rows
section
variable{X:Cx}{n0 n1 n2 odd:Str}{c1 c2:V}{k1 k2 k3 k4:List V}{l1 l2:List Str}{a1 a2:Expr}{as1 as2 e1 e2 e3 e4 w1 w2:List Expr}{kw1 kw2:List zCj}{Q:VK}{H:Hp}{vs:List V}
 {p1 p2 p3 p4 p5 p6 p7 p8 p9 p10 p11 p12 p13 p14 p15 p16 p17 p18 p19 p20 p21 p22 p23 p24 p25 p26 p27 p28 p29 p30 p31 p32 p33 p34 p35 p36 p37 p38 p39 p40:Pos}{q1 q2 q3 q4 q5 q6 q7:Pos}{j1 j2 j3 j4 j5:Nat}{E0:XK}{wd:Addr->Option Str}
end
section
variable{P:zA7}{w:World}{K:zAA}{mg:Str->Option Value}{base:Heap}{x q n0 n1 n2 odd:Str}{st:Stmt}{f:Addr}{fd:zAd}{k:Nat}{wd:Addr->Option Str}{c1 c2:V}{k1 k2 k3 k4:List V}{l1 l2:List Str}{a1 a2:Expr}{as1 as2 e1 e2 e3 e4 w1 w2:List Expr}{kw1 kw2:List zCj}
 {p1 p2 p3 p4 p5 p6 p7 p8 p9 p10 p11 p12 p13 p14 p15 p16 p17 p18 p19 p20 p21 p22 p23 p24 p25 p26 p27 p28 p29 p30 p31 p32 p33 p34 p35 p36 p37 p38 p39 p40:Pos}{q1 q2 q3 q4 q5 q6 q7:Pos}{j1 j2 j3 j4 j5:Nat}
end
section
variable{X:Cx}{n0 n1 n2 odd:Str}{c1 c2:V}{k1 k2 k3 k4:List V}{l1 l2:List Str}{a1 a2:Expr}{as1 as2 e1 e2 e3 e4 w1 w2:List Expr}{kw1 kw2:List zCj}{Q:VK}{H:Hp}{vs:List V}
 {p1 p2 p3 p4 p5 p6 p7 p8 p9 p10 p11 p12 p13 p14 p15 p16 p17 p18 p19 p20 p21 p22 p23 p24 p25 p26 p27 p28 p29 p30 p31 p32 p33 p34 p35 p36 p37 p38 p39 p40:Pos}{q1 q2 q3 q4 q5 q6 q7:Pos}{j1 j2 j3 j4 j5:Nat}{E0:XK}{wd:Addr->Option Str}
end
section
variable{P:zA7}{w:World}{K:zAA}{mg:Str->Option Value}{base:Heap}{x q n0 n1 n2 odd:Str}{st:Stmt}{f:Addr}{fd:zAd}{k:Nat}{wd:Addr->Option Str}{c1 c2:V}{k1 k2 k3 k4:List V}{l1 l2:List Str}{a1 a2:Expr}{as1 as2 e1 e2 e3 e4 w1 w2:List Expr}{kw1 kw2:List zCj}
 {p1 p2 p3 p4 p5 p6 p7 p8 p9 p10 p11 p12 p13 p14 p15 p16 p17 p18 p19 p20 p21 p22 p23 p24 p25 p26 p27 p28 p29 p30 p31 p32 p33 p34 p35 p36 p37 p38 p39 p40:Pos}{q1 q2 q3 q4 q5 q6 q7:Pos}{j1 j2 j3 j4 j5:Nat}
end
end L2
namespace VL
open PySem PySem.Spec PyProof.Rows L2
def dnr{K:zAA}{h:Heap}{mg:Str->Option Value}{x:Str}{st:Stmt}(X:K.In h)(G:h.Ns zAh mg)(e:∃f d,Enr K x st f d)(ps:List Str)
  (hb:∀(kV doc pm:Value) (an:Option Addr) (cdv ct:Value) (us:List Value),us.length=ps.length->bindArgs (zCW x x (qX st) (jO st) (aN st) .none kV doc pm an cdv ct) ⟨us,[]⟩=pure (ps.zip us):=by
   intro _ _ _ _ _ _ us hl;repeat' first|rfl|(simp at hl;done)|rcases us with _|⟨_,us⟩):∃f d,Dnr K mg x st ps f d/\zAv K zAh x=some (some (.ref f)):=by
 obtain⟨f,d,F,a⟩:=e;exact⟨f,d,⟨F,zBi X G a,F.binds hb⟩,a⟩
def aFV:D->Rs D
 | .lst l=>.ok (.lst l.reverse)
 |_=>.st
def aLy(K:zAA)(te:TE):TE:=λ σ H Q=>te σ H λ x H1=>∃a xs,x= .ref a/\SqL K H1 a xs/\∀p,H1 p=none->Q (.ref p) (upd H1 p (.lst xs.reverse))
def aK8{X:Cx}(he:PE X e te):PE X (.Subscript e (.Slice none none (some (.UnaryOp .USub (.Constant (.int 1) j p3) p4)) p2) pos) (aLy X.K te):=by
 intro iX s σ H Q I h;refine zIr (thn (he iX s σ H _ I h) λ v s1 ⟨x,H1,I1,r1,q1⟩=>?_);obtain⟨a,xs,rfl,hx,q⟩:=q1;cases r1;have hm:PE X (.UnaryOp .USub (.Constant (.int 1) j p3) p4) (tUn (rU λ i=>.int (-i)) (tC (.int 1))):=aMP aHT aIS;refine wpAny_Slice ?_;rw[zHV];refine zAK (zAK ?_);rw[evalPart_some];refine thn (hm iX s1 σ H1 (λ z H2=>z= .int (-1)/\H2=H1) I1 ⟨1,rfl,rfl,rfl⟩) λ u s2 ⟨z,H2,I2,r2,ez,eH⟩=>?_
 subst ez eH;obtain⟨tk,rfl⟩:=r2;have I4:Inv X iX σ H2 {s2 with heap:=s2.heap.push {cls:=.type "slice",data:=.fields #[.none,.none,.int (-1) tk]}}:=I2.kept (t':=s2.toks) λ b ob q=>zAC _ q
 obtain⟨its,r,ht,hz⟩:=I4.list hx;have kQ:its.toArray.size=xs.length:=by rw[zAP];exact r.length.symm
 show wpAny (model X.prog X.w) X.A (zHY e _ (.ref a) (.ref s2.heap.objs.size)) (EP X iX σ Q) X.xe _;refine tail_any (ops:=[.ref a,.ref s2.heap.objs.size]) ht.isList.typeIs zGD.lookup ?_ (by with_unfolding_all rfl);refine zHJ ht.isList (zFf ..) .none .none (.int _ _) (by decide) ?_ (by rw[kQ];exact hz);rw[PySem.W.krv_pick];refine⟨.ref _,_,I4.laid (t':=s2.toks) (o:=.lst xs.reverse) (λ b ob q=>zAC _ q) (zAT _) ?_,rfl,q _ (I4.hok.fresh (zAT _))⟩;exact⟨by rw[zEr];exact hz,_,0,r.reverse,zAO _ rfl⟩
section
variable{C:Ct}{pos p2 p3 p4:Pos}{m:Mode}{e:Expr}{fe:En->Rs D}
def aKL(h:SE C m e fe):SE C m (.Subscript e (.Slice none none (some (.UnaryOp .USub (.Constant (.int 1) j p3) p4)) p2) pos) (op1 aFV fe):=by
 obtain⟨t,h1,h2⟩:=h;refine⟨aLy C.K t,λ i=>by rw[<-C.hK i];exact aK8 (h1 i),λ U σ H ρ lab Q R W=>h2 U σ H ρ lab _ R (W.bd.imp λ d _ w x H1 s1 r1=>?_)⟩;obtain⟨z,ez,w⟩:=w.okD;cases d with
 |lst l=>
  cases ez;obtain⟨a,xs,rfl,h,mm,r⟩:=r1.lst_inv;exact⟨a,xs,rfl,SqL.of h,λ p hp=>w _ _ (s1.trans (au hp _)) (.lst aq (.inl (s1.free hp)) ((r.reverse.wk λ q o e z=>⟨z.1,λ e'=>by subst e';rw[hp]at e;cases e⟩).up (au hp _)))⟩
 |_=>cases ez
end
end VL
namespace L2
open PySem PySem.Spec PyProof.Rows
end L2
namespace VL
open PySem PySem.Spec PyProof.Rows L2
section
variable{C:Ct}{pos pos' spos:Pos}{x:Str}{i:Nat}{kx vx tg iter:Expr}{ifs:List Expr}{sc:Scope}{N:List Str}{js:hV}{ks:List Nat}{fi:En->Rs (List D)}{fg:D->En->Rs En}{ft:En->Rs Bool}{fk fv:En->Rs D}
def aOV(hi:SI C tg iter fi)(hg:SG (C.blk sc N) tg ks fg)(ht:aJk (C.blk sc N) ifs ft)(hk:SE (C.blk sc N) (some []) kx fk)(hv:SE (C.blk sc N) (some []) vx fv)(hN:∀j,(C.X j).N[i]? =some x:=by intro _;rfl)(hx:∀j,Loc (C.X j).env.scope x:=by intro _;first|exact zC8 rfl|exact zBy rfl)(hsw:∀j,zCd (.DictComp kx vx [⟨tg,iter,ifs,0⟩] sc pos) (some (.Name x pos')) spos.line (C.X j).env=pure true:=by intro _;rfl)
  (hs:∀i x,zBs iter (C.X i).env x=pure x:=by intro _ _;rfl)(hf:∀j,(C.X j).fn x=true\/(C.X j).env.scope.names.lookup x=some .local:=by intro _;first|exact .inl rfl|exact .inr rfl)(nd:∀j,(C.X j).N.Nodup:=by intro _;assumption)(hB:∀i,fJ (C.X i) sc N (stV js) ks:=by intro _;exact aBi rfl rfl rfl rfl rfl rfl):
  SV C i (.Assign [.Name x pos'] (.DictComp kx vx [⟨tg,iter,ifs,0⟩] sc pos) spos) (some []) (dcD fi js fg ft fk fv):=by
 obtain⟨wi,i1,i2⟩:=hi;obtain⟨g,g1,g2,g3,g4⟩:=hg;obtain⟨tt,t1,t2⟩:=ht;obtain⟨tk,k1,k2⟩:=hk;obtain⟨tv,v1,v2⟩:=hv;refine⟨_,λ j=>aIH (pos:=pos) (nd j) (hN j) (hx j) (hB j) (C.calm j) (i1 j) (λ c fp z4 zS=>g1 (j,c,fp,z4,zS)) g3 (λ c fp z4 zS=>t1 (j,c,fp,z4,zS)) (aGP kx vx tg iter ifs sc pos) (aDm kx vx tg iter ifs sc pos) aOJ ?_ (hsw j) rfl (λ _=>rfl) (hs j) (hf j),aMa i2 g2 t2 k2 v2⟩;intro c fp z4 zS
 have:=aOd (X:=(C.X j).block sc c N fp z4 zS) (by have:=(C.room j).un;show(C.X j).A.units<cLine;omega) (k1 (j,c,fp,z4,zS)) (v1 (j,c,fp,z4,zS))
 rw[show((C.X j).block sc c N fp z4 zS).K=C.K from C.hK j]at this;exact this
end
def aP8(A:zAk)(s:zAG)(v u:Value)(b:Bool):Prop:=∀(prog:zA7) (w:World) (E:Value->zAG->Prop) (Q:Value->zAG->Prop),Q (.bool b) s->wpAny (model prog w) A (zGa .Gt v u) Q E s
inductive aHN(A:zAk)(s:zAG):List Value->List Value->Bool->Prop
 |nn:aHN A s [] [] false
 |nc:aHN A s [] (v::vs) false
 |cn:aHN A s (v::vs) [] true
 |eq:zCy A s v u true->aHN A s vs us b->aHN A s (v::vs) (u::us) b
 |un:zCy A s v u false->aP8 A s v u b->aHN A s (v::vs) (u::us) b
section
open PySem.SeqAt
open PySem.AutoSeq1(wpAny_loadPart')
open PySem.MeetsSeq PySem.MeetsSeq2 PySem.MeetsSeq3
end
section
structure Cmp(f:D->D->Option Bool)(l:List D):Prop where
 n0:0<l.length
 im:pW l=true
 nd:bD l=true
 dp:dC l<=40
 cm:∀x∈l,∀y∈l,(f x y).isSome=true
instance:Decidable (Cmp f l):=if h:0<l.length/\pW l=true/\bD l=true/\dC l<=40/\∀x∈l,∀y∈l,(f x y).isSome=true then .isTrue ⟨h.1,h.2.1,h.2.2.1,h.2.2.2.1,h.2.2.2.2⟩else .isFalse λ z=>h ⟨z.n0,z.im,z.nd,z.dp,z.cm⟩
end
def aP7(A:zAk)(s:zAG)(v u:Value)(b:Bool):Prop:=∀(prog:zA7) (w:World) (E:Value->zAG->Prop) (Q:Value->zAG->Prop),Q (.bool b) s->wpAny (model prog w) A (zGa .Lt v u) Q E s
inductive aHM(A:zAk)(s:zAG):List Value->List Value->Bool->Prop
 |nn:aHM A s [] [] false
 |nc:aHM A s [] (v::vs) true
 |cn:aHM A s (v::vs) [] false
 |eq:zCy A s v u true->aHM A s vs us b->aHM A s (v::vs) (u::us) b
 |un:zCy A s v u false->aP7 A s v u b->aHM A s (v::vs) (u::us) b
section
open PySem.SeqAt
open PySem.AutoSeq1(wpAny_loadPart')
open PySem.MeetsSeq PySem.MeetsSeq2 PySem.MeetsSeq3
end
section
variable{X:Cx}
def aHy(K:zAA)(w:World):List V->Hp->VK->Prop:=λ xs H Q=>∃p ns,xs=[.ref p]/\SqT K H p (ns.map V.int)/\ns.length<64/\∀a H',aX H H'->H' a=some (.ext (aArφ w a (ddI ns)))->H a=none->Q (.ref a) H'
def aEn(hc:X.calm=true):cX X (.type "set") (aHy X.K X.w):=by
 intro iX s σ H xs us Q I r h;obtain⟨p,ns,rfl,hp,hz,q⟩:=h;obtain⟨u,rfl,ru⟩:=vals1 r;cases ru;have hh:X.A.in1.in1.in1.handled=none:=I.ok.hd hc;obtain⟨its,rv,pl,_⟩:=I.tuple hp;have hI:zBL its ns:=intsAre_of rv;have kQ:its.length=ns.length:=zE1 hI;obtain⟨ol,hol,hcl,nl,hdl⟩:=pl;have hlS:p<s.heap.objs.size:=zAV hol;refine PySem.lY (T:="tuple") (Φ:=aArφ X.w s.heap.objs.size (ddI ns)) ⟨ol,hol,hcl⟩ zIk zHL (by decide)
  (λ zD yA x9 Q₁ k q=>zDU (s:={s with heap:=zD}) (items:=its.toArray) ⟨ol,k _ _ hol,hcl,nl,hdl⟩ q) (λ R hR=>?_) λ h' tk g1 g2=>?_
 .generalize hled:(!X.w.params.followText "set-order")=led at hR ⊢
  have hS:(s.heap.push (bW #[] 0 (.fresh 0 0 led))).get? s.heap.objs.size=some (bW #[] 0 (.fresh 0 0 led)):=zAO _ rfl;have hl1:(s.heap.push (bW #[] 0 (.fresh 0 0 led))).IsTuple p its.toArray:=⟨ol,zAC _ hol,hcl,nl,hdl⟩;have dS:p≠(s.heap.push (bW #[] 0 (.fresh 0 0 led))).objs.size:=by rw[zBB];exact zA8 (zCY hlS)
  have hSf:s.heap.objs.size∉[(s.heap.push (bW #[] 0 (.fresh 0 0 led))).objs.size,p]:=by
   rw[zBB];simp only[zAL,zAf,or_false,not_or];exact⟨zA8 (zBx _),zCM hlS⟩
  refine aAJ ((zIt hh _ p dS its.toArray).toS) hSf hI (by simp) (by simpa[kQ]using hz) led (its.toArray.size-0) 0 _ (by simp) (zAj _) ⟨⟨_,zAO _ rfl,rfl,rfl⟩,(hl1.push _)⟩
   ⟨#[],0,_,zAC _ hS,gr.fresh led,rfl,[],rfl,zBM _⟩ λ s' hm hS'=>?_
  obtain⟨h',g',d',tk',os'⟩:=s';have eg:g'=s.gens:=hm.gens;have ed:d'=s.drawn:=hm.drawn;have eo:os'=s.os:=hm.os;subst eg;subst ed;subst eo;refine hR h' tk' (by unfold aArφ;rw[hled];exact hS') λ b o e=>hm.heap b o ?_ (zAC _ (zAC _ e))
  have hb:=zAV e;rw[zBB];simp only[zAL,zAf,or_false,not_or];exact⟨zA8 hb,zA8 (zCY hb)⟩
 .have hfr:H s.heap.objs.size=none:=I.hok.fresh (zAT _)
  obtain⟨es,ep,t,ge,r⟩:=id g1;exact⟨.ref s.heap.objs.size,upd H s.heap.objs.size (.ext (aArφ X.w s.heap.objs.size (ddI ns))),I.laid (t':=tk) g2 (zAT _) ⟨g1,⟨_,ge⟩,λ h1 h2 ⟨es,ep,t,e1,e2⟩ k=>⟨es,ep,t,k _ e1,e2⟩⟩,rfl,q _ _ (au hfr _) aq hfr⟩
end
def mX:List D->Rs D
 |[.tup l]=>match intsOf l with
  |some ns=>if ns.length<64 then .ok (.lst ((sortI (ddI ns)).map .int))else .st
  |none=>.st
 |_=>.st
section
variable{C:Ct}{pos pos2 p p2:Pos}{m:Mode}{a:Expr}{ga:En->Rs (List D)}
def xf(hm:C.mg "sorted"=none)(hm2:C.mg "set"=none)(ha:SA C m [a] ga)(he:∀i,zA1 [a] (C.X i).env=[(false,eval a (C.X i).env)]:=by intro _;rfl)(he2:∀i,zA1 [Expr.Call (.Name "set" p2) [a] [] pos2] (C.X i).env=[(false,eval (.Call (.Name "set" p2) [a] [] pos2) (C.X i).env)]:=by intro _;rfl)(hg:∀i,Gl (C.X i) "sorted":=by intro _;rfl)(hv:zAq "sorted"=some (.builtin "sorted"):=by decide+kernel)(hg2:∀i,Gl (C.X i) "set":=by intro _;rfl)(hv2:zAq "set"=some (.type "set"):=by decide+kernel):
  SE C (some []) (.Call (.Name "sorted" p) [.Call (.Name "set" p2) [a] [] pos2] [] pos) (opA mX ga):=by
 obtain⟨t,h1,h2⟩:=ha;have hw:∀i,(C.X i).w=C.w:=λ i=>(C.cx i).2.1
 refine⟨tCB (aEC C.w) (je (tCB (aHy C.K C.w) t) oZ),λ i=>m8 (by rw[<-hw i];exact uX (C.calm i)) (hg i) (by rw[(C.cx i).2.2.2.1];exact hm) hv
  (dI (gZ (by rw[<-C.hK i,<-hw i];exact aEn (C.calm i)) (hg2 i) (by rw[(C.cx i).2.2.2.1];exact hm2) hv2 (h1 i) (by decide) (by decide) (he i) rfl) gR (he2 i)) (by decide) (by decide) (he2 i) rfl,λ U σ H ρ lab Q R W=>?_⟩
 refine h2 U σ H ρ lab _ R (W.bd.imp λ ds _ w xs H1 s1 r1=>?_);obtain⟨z,ez,w⟩:=w.okD;unfold mX at ez;split at ez
 .obtain⟨v,rfl,rd⟩:=r1.one_inv
  obtain⟨b,ys,rfl,hb,rb⟩:=rd.tup_inv;split at ez
  .rename_i ns e
   split at ez
   .rename_i hl
    cases ez;rw[cO e]at rb;have ey:=rb.ints_of;subst ey;refine⟨b,ns,rfl,hb,hl,λ c H2 s2 hc2 hn2=>⟨c,ddI ns,rfl,hc2,zDM (aEm ns) hl,λ q H3 s3 hq hn3=>w _ H3 ((s1.trans s2).trans s3) (.lst hq (.inl ((s1.trans s2).free hn3)) Rps.ints)⟩⟩
   .cases ez
  .cases ez
 .cases ez
end
def aHR{M:Model}{A:zAk}{E:Value->zAG->Prop}{s:zAG}{a b:Value}{Q:Value->zAG->Prop}(ha:s.TypeIs a "list")(hb:s.TypeIs b "list")(h:wpAny M A (call (.builtin "list.__iadd__") [a,b]) Q E s):wpAny M A (zII .Add a b) Q E s:=by
 have t1:zFO (.type "list") (dunderI zEv.info.snd)=pure (some (.builtin "list.__iadd__")):=zHF.lookup;have t2:seqSlot? (.type "list") (dunderI zEv.info.snd)=pure (some (.builtin "list.__iadd__")):=by rfl
 have f1:fillsNumberSlot (.type "list") zEv.info.snd=pure false:=by rfl
 unfold zII;refine zB2 ?_;wp_walk using(wpAny_binaryOp1_none (nm:=zEv.info.snd) ha hb f1),h
def ipL:TIp:=λ x y H Q=>∃l b xs zs,x= .ref l/\y= .ref b/\H l=some (.lst xs)/\H b=some (.lst zs)/\xs.length+zs.length<=zAY/\∀H',mR l H H'->H' l=some (.lst (xs++zs))->Q (.ref l) H'
def aLQ{X:Cx}:PIp X .Add ipL:=by
 intro iX s σ H x y v u Q I rx ry h;obtain⟨l,b,xs,zs,rfl,rfl,hH,hB,hz,q⟩:=h;cases rx;cases ry;obtain⟨z,its,n,r,hl,e⟩:=I.lstM hH;obtain⟨z2,its2,n2,r2,hl2,e2⟩:=I.lstM hB;have hsz:its.toArray.size+its2.toArray.size<=zAY:=by rw[zAP,zAP];lia
 have b5:¬(!its.toArray.isEmpty&&zBg (its.toArray.size+its2.toArray.size))=true:=by
  rw[yN hsz,zDu];exact zAX
 refine aHR ⟨_,e,rfl⟩ ⟨_,e2,rfl⟩ (zFN zHF ⟨_,e,rfl⟩ zEY (F.args_list_iadd_2 _ _)
  (AutoSeq1.list___iadd___list_list_0 l its.toArray n b its2.toArray n2 b5 (by rw[zAP];lia) (by lia)) ⟨e,e2,?_⟩)
 refine⟨.ref l,_,I.lset (its':=its++its2) hH e (by simp) (r.append r2) ?_,rfl,q _ (λ b o ne hb=>by rw[bG ne];exact hb) aq⟩;rw[zA0];lia
def aLj(i:Nat)(fe:En->Rs D):En->Ou:=λ ρ=>match ρ[i]? with
 |some (.ow (.lst ds))=>(fe ρ).bo λ d=>match d with
  | .lst es=>if ds.length+es.length<=zAY/\pW es=true then .nx (ρ.set i (.ow (.lst (ds++es))))else .st
  |_=>.st
 |_=>.st
section
variable{C:Ct}{pos p:Pos}{i:Nat}{x:Str}{e:Expr}{m:Mode}{fe:En->Rs D}
def aKD(i:Nat)(he:SE C m e fe)(hN:∀j,(C.X j).N[i]? =some x:=by intro _;rfl)(hx:∀j,Loc (C.X j).env.scope x:=by intro _;first|exact zC8 rfl|exact zBy rfl)(hf:∀j,(C.X j).fn x=true\/(C.X j).env.scope.names.lookup x=some .local:=by intro _;first|exact .inl rfl|exact .inr rfl)
  (hnd:∀j,(C.X j).N.Nodup:=by intro _;assumption):SS C (.AugAssign (.Name x p) .Add e pos) (aLj i fe):=by
 obtain⟨t,h1,h2⟩:=he;refine⟨aOT i t ipL,λ j=>aIK (hnd j) (hN j) (hx j) (h1 j) aLQ (hf j),λ U σ H ρ lab De R W=>?_⟩;unfold aLj at W;split at W
 .rename_i ds e1
  rcases R.sl i _ e1 with z|⟨v,ev,hv1,htop⟩
  .cases z
  obtain⟨a0,ea0,la0⟩:=htop rfl;subst ea0;refine⟨.ref a0,ev,h2 U σ H ρ lab _ R (W.bo.imp λ d _ w y H2 s2 r2=>?_)⟩;split at w
  .rename_i es
   split at w
   .rename_i hz
    obtain⟨a1,xs,ea1,h,mm,r⟩:=hv1.lst_inv;cases ea1;obtain⟨b,zs,eb,hb,mb,rb⟩:=r2.lst_inv;subst eb;refine⟨a0,b,xs,zs,rfl,rfl,s2 _ _ h,hb,by rw[r.length,rb.length];exact hz.1,λ H3 B h3=>?_⟩;have eσ:σ.set i (some (.ref a0))=σ:=by
     refine List.ext_getElem? λ j=>?_
     by_cases q:i=j
     .subst q
      rw[zBT (zAJ.mp ev).1,ev]
     .rw[zBG q]
    show De.nx (σ.set i (some (.ref a0))) H3;rw[eσ];have R2:=R.up s2;refine w σ H3 lab (R2.mut ev (s2 _ _ h) rfl la0 B ⟨.lst h3 (.inr la0) ?_,λ _=>⟨a0,rfl,la0⟩⟩);exact((r.up s2).append (rb.imm hz.2)).but B (s2 _ _ h) rfl λ z=>z.2 rfl
   .exact zAR w
  .exact zAR w
 .exact zAR W
end
theorem intsAre_of:∀{vs:List Value} {ns:List Int},vs.length=ns.length->(∀(i:Nat) v,vs[i]? =some v->∃t,v= .int (ns.getD i 0) t)->zBL vs ns
 |[],[],_,_=>.nil
 |[],_::_,h,_=>by cases h
 |_::_,[],h,_=>by cases h
 |v::vs,n::ns,h,hv=>by
  obtain⟨t,e⟩:=hv 0 v rfl;have e2:v= .int n t:=e;subst e2;exact .cons _ _ (intsAre_of (by simpa using h) λ i v e=>by
   obtain⟨t,e⟩:=hv (i+1) v (by simpa using e);exact⟨t,by simpa using e⟩)
section
variable{ρ:En}{i:Nat}{f g:En->Rs D}{fb gb:En->Rs Bool}{ga:En->Rs (List D)}{u v:En->Ou}{d:D}
@[simp] def varD_ap:eE i ρ=match ρ[i]? with
 |some (.sh d)=>.ok d
 |some (.nw d)=>.ok d
 |some (.ow d)=>.ok d
 |some (.oz d)=>.ok d
 |some (.o2 l)=>.ok (.lst (l.map .lst))
 |_=>.st:=aO rfl
@[simp] def aAe:aD i ρ=match ρ[i]? with
 |some (.sh d)=>.ok d
 |some (.nw d)=>.ok d
 |_=>.st:=aO rfl
@[simp] def varN_ap:nQ i ρ=match ρ[i]? with
 |some (.nw d)=>.ok d
 |_=>.st:=aO rfl
@[simp] def varO_ap:wL i ρ=match ρ[i]? with
 |some (.ow d)=>.ok d
 |some (.o2 l)=>.ok (.lst (l.map .lst))
 |_=>.st:=aO rfl
@[simp] def aD2:cD d ρ= .ok d:=aO rfl
@[simp] def nq:aJ ρ= .ok []:=aO rfl
@[simp] def bQ:aC f ga ρ=(f ρ).bd λ d=>(ga ρ).bd λ ds=>.ok (d::ds):=aO rfl
@[simp] def szl:zAY=16777216:=zBz
@[simp] def aEy:gM ga ρ=(ga ρ).bd λ ds=>if ds.length<=16777216 then .ok (.tup ds)else .st:=by unfold gM;rw[szl]
@[simp] def aLE:fj ga ρ=(ga ρ).bd λ ds=>if ds.length<=16777216 then .ok (.lst ds)else .st:=by unfold fj;rw[szl]
@[simp] def dM:okD (.ok d)= .ok d:=aO rfl
@[simp] def iH:op2 fd f g ρ=(f ρ).bd λ x=>(g ρ).bd λ y=>okD (fd x y):=aO rfl
@[simp] def aI2:op1 fd f ρ=(f ρ).bd λ x=>okD (fd x):=aO rfl
@[simp] def iG:opA fd ga ρ=(ga ρ).bd λ x=>okD (fd x):=aO rfl
@[simp] def nJ:aP F ga ρ=(ga ρ).bd F:=aO rfl
def aOH(d:D)(r:Rs D):Rs D:=match d with
 | .bl true=>r
 | .bl false=>.ok (.bl false)
 |_=>.st
@[simp] def aBn:aOH (.bl b) r=if b=true then r else .ok (.bl false):=by cases b<;>rfl
@[simp] def xK:aAD f g ρ=(f ρ).bd λ d=>aOH d (g ρ):=aO rfl
@[simp] def notD_bl:aN7 (.bl b)= .ok (.bl (!b)):=aO rfl
@[simp] def ifD_ap:ifD fb f g ρ=(fb ρ).bd λ k=>if k=true then f ρ else g ρ:=aO rfl
def chR(d:D)(r:Rs D):Rs D:=match d with
 | .bl true=>r
 | .bl false=>.ok (.bl false)
 |_=>.st
@[simp] def chR_bl:chR (.bl b) r=if b=true then r else .ok (.bl false):=by cases b<;>rfl
@[simp] def chD_ap:chD fd fd' f g h ρ=(f ρ).bd λ x=>(g ρ).bd λ y=>(okD (fd x y)).bd λ z=>chR z ((h ρ).bd λ w=>okD (fd' y w)):=aO rfl
@[simp] def aEz:aHW (.bl b)= .ok b:=aO rfl
@[simp] def aHV:aHW (.lst l)= .ok (!l.isEmpty):=aO rfl
@[simp] def zT:blD (.bl b)= .ok b:=aO rfl
@[simp] def aAf:tst f ρ=(f ρ).bd aHW:=aO rfl
@[simp] def rD:tsb f ρ=(f ρ).bd blD:=aO rfl
@[simp] def aGL:aEq fb gb ρ=(fb ρ).bd λ k=>if k=true then gb ρ else .ok false:=aO rfl
@[simp] def aEL:orT fb gb ρ=(fb ρ).bd λ k=>if k=true then .ok true else gb ρ:=aO rfl
@[simp] def aBP:gU fb ρ=(fb ρ).bd λ k=>.ok (!k):=aO rfl
@[simp] def aK:aY u v ρ=(u ρ).sq v:=aO rfl
@[simp] def jM:retS f ρ=(f ρ).bo .rt:=aO rfl
@[simp] def dropS_ap:qG f ρ=(f ρ).bo λ _=>.nx ρ:=aO rfl
@[simp] def fu:ifS fb u v ρ=(fb ρ).bo λ k=>if k=true then u ρ else v ρ:=aO rfl
@[simp] def aAq:eF i f ρ=(f ρ).bo λ d=>.nx (ρ.set i (.sh d)):=aO rfl
@[simp] def wg:ur i f ρ=(f ρ).bo λ d=>.nx (ρ.set i (.nw d)):=aO rfl
@[simp] def aKJ:iT i f ρ=(f ρ).bo λ d=>.nx (ρ.set i (.ow d)):=aO rfl
@[simp] def sU:gnm i d ρ= .ok (ρ.set i (.sh d)):=aO rfl
@[simp] def gnil_nil:fP [] ρ= .ok ρ:=aO rfl
@[simp] def gcons_cons:aa a b (d::ds) ρ=(a d ρ).bd (b ds):=aO rfl
@[simp] def gtup_tup:fD n b (.tup ds) ρ=if ds.length=n then b ds ρ else .st:=aO rfl
def nxO(r:Rs En):Ou:=match r with
 | .ok ρ=>.nx ρ
 |_=>.st
@[simp] def nxO_ok:nxO (.ok ρ)= .nx ρ:=aO rfl
@[simp] def aLl:aAB f a ρ=(f ρ).bo λ d=>nxO (a d ρ):=aO rfl
@[simp] def itD_tup:itD (.tup l)= .ok l:=aO rfl
@[simp] def aLO:itD (.lst l)= .ok l:=aO rfl
@[simp] def aFs:bu f ρ=(f ρ).bd itD:=aO rfl
@[simp] def cM:gB ga a u ρ=(ga ρ).bo λ ds=>forL a u ds ρ:=aO rfl
@[simp] def forL_nil:forL a u [] ρ= .nx ρ:=aO rfl
noncomputable def Ou.tn(o:Ou)(k:En->Ou):Ou:=match o with
 | .nx ρ2=>k ρ2
 | .ct ρ2=>k ρ2
 | .bk ρ2=>.nx ρ2
 |o=>o
@[simp] def lH:(Ou.nx ρ).tn k=k ρ:=aO rfl
@[simp] def aLx:(Ou.rt d).tn k= .rt d:=aO rfl
@[simp] def tn_ex:(Ou.ex c).tn k= .ex c:=aO rfl
def okE(r:Rs En)(k:En->Ou):Ou:=match r with
 | .ok ρ=>k ρ
 |_=>.st
@[simp] def mJ:okE (.ok ρ) k=k ρ:=aO rfl
def cC:forL a u (d::ds) ρ=okE (a d ρ) λ ρ1=>(u ρ1).tn (forL a u ds):=by
 unfold forL;cases a d ρ with
 |ok ρ1=>simp only[mJ];cases u ρ1<;>rfl
 |ex c=>rfl
 |st=>rfl
@[simp] def oNone_ap:aF8 ρ= .ok none:=aO rfl
@[simp] def oSome_ap:aF7 f ρ=(f ρ).bd λ d=>match d with
 | .int i=>.ok (some i)
 |_=>.st:=aO rfl
@[simp] def sliceD_ap:aAm f a b ρ=(f ρ).bd λ d=>(a ρ).bd λ l=>(b ρ).bd λ h=>okD (slD d l h):=aO rfl
@[simp] def slD_tup:slD (.tup l) a b= .ok (.tup (cutD l a b)):=aO rfl
@[simp] def slD_lst:slD (.lst l) a b= .ok (.lst (cutD l a b)):=aO rfl
@[simp] def aLX:bH f ρ=(f ρ).bd uK:=aO rfl
@[simp] def rngA_ap:ig r ga ρ=(ga ρ).bd r:=aO rfl
@[simp] def raiseS_ap:mG x ga ρ=(ga ρ).bo λ ds=>if ds.length<=16777216 then .ex x else .st:=by unfold mG;rw[szl]
@[simp] def aJu:ju ρ= .ok true:=aO rfl
end
section
variable{d e:D}{i j:Int}{l:List D}
def aGC(h:imm d=true):uK d= .ok d:=by unfold uK;rw[if_pos h]
@[simp] def gImm_int:uK (.int i)= .ok (.int i):=aO rfl
@[simp] def addD_int:fX (.int i) (.int j)= .ok (.int (i+j)):=aO rfl
@[simp] def subD_int:aAj (.int i) (.int j)= .ok (.int (i-j)):=aO rfl
def qW(h0:0<j)(h1:j<1073741824):lX (.int i) (.int j)= .ok (.int (i / j)):=by unfold lX i2;dsimp only;rw[if_pos (by simp[h0,h1])]
def pR(h0:0<j):vL (.int i) (.int j)= .ok (.int (i%j)):=by unfold vL i2;dsimp only;rw[if_pos (by simp[h0])]
def aEQ(h0: -(2^64)<i)(h1:i<2^64):pQ (.int i) (.int j)= .ok (.int (i*j)):=by unfold pQ;dsimp only;rw[if_pos (by simp only[zDg,zAN,decide_eq_true_eq];exact .inl ⟨h0,h1⟩)]
def aI7(h0: -(2^64)<j)(h1:j<2^64):pQ (.int i) (.int j)= .ok (.int (i*j)):=by unfold pQ;dsimp only;rw[if_pos (by simp only[zDg,zAN,decide_eq_true_eq];exact .inr ⟨h0,h1⟩)]
@[simp] def aCb:aCc (.int i)= .ok (.int (-i)):=aO rfl
@[simp] def aFg:ltD (.int i) (.int j)= .ok (.bl (decide (i<j))):=aO rfl
@[simp] def leD_int:leD (.int i) (.int j)= .ok (.bl (decide (i<=j))):=aO rfl
@[simp] def aLZ:gtD (.int i) (.int j)= .ok (.bl (decide (j<i))):=aO rfl
@[simp] def geD_int:geD (.int i) (.int j)= .ok (.bl (decide (j<=i))):=aO rfl
def aLD(ns ms:List Int):ltD (.tup (ns.map .int)) (.tup (ms.map .int))= .ok (.bl (HT.lexLt ns ms)):=by
 unfold ltD ltT i2;simp only[dq]
@[simp] def aCn:eX [.tup l]= .ok (.int l.length):=aO rfl
@[simp] def aIf:eX [.lst l]= .ok (.int l.length):=aO rfl
@[simp] def lenD_scr:eX [.scr x]= .ok (.int x.length):=aO rfl
@[simp] def aDj:gw [.lst l]= .ok (.tup l):=aO rfl
@[simp] def listD_tup:aCk [.tup l]= .ok (.lst l):=aO rfl
@[simp] def mmD_int:mmD f [.int i,.int j]= .ok (.int (f i j)):=aO rfl
@[simp] def aFr:ixD (.tup l) (.int i)=atD l i:=aO rfl
@[simp] def aBW:ixD (.lst l) (.int i)=atD l i:=aO rfl
@[simp] def ixD_scr:ixD (.scr x) (.int i)=atD (x.map .int) i:=aO rfl
def fW{k:Nat}(h:l[k]? =some d):atD l (k:Int)= .ok d:=by
 have hk:=(zAJ.mp h).1;unfold atD atI ixN;rw[if_pos (by omega),if_pos (by omega)];simp[h]
def aJd(h0:0<=i)(h1:i<l.length):∃d,atD l i= .ok d/\d∈l/\l[i.toNat]? =some d:=by
 have hk:i.toNat<l.length:=by omega
 have e:=zAD hk;refine⟨_,?_,zCH hk,e⟩
 have:=fW e
 rwa [zDA h0]at this
@[simp] def aPB{r:List D}:atD (d::r) 0= .ok d:=fW (k:=0) rfl
@[simp] def aPA{r:List D}:atD (d::e::r) 1= .ok e:=fW (k:=1) rfl
@[simp] def aL8:eqR n (.int i) (.int j)= .ok (.bl (if n then !(i==j)else i==j)):=aO rfl
def knd:D->Bool
 | .set _=>false
 | .scr _=>false
 | .fn _=>false
 |_=>true
def aBX(hT:T∈["bool","int","str","list","tuple","dict"])(h:knd d=true):jd T d= .ok (.bl (aLP (tyD d) T)):=by
 have ht:tyD d∈["NoneType","bool","int","str","list","tuple","dict"]:=by cases d<;>simp_all [tyD,knd]
 unfold jd qu;cases e:aLP (tyD d) T<;>simp[ht,hT]
def yc:D->Bool
 | .int _=>true
 | .bl _=>true
 |_=>false
def aOp:D->Bool
 | .bl _=>true
 |_=>false
def mL:D->Bool
 | .tup _=>true
 |_=>false
def qQ(h:knd d=true):jd "int" d= .ok (.bl (yc d)):=by
 rw[aBX (by simp) h];cases d<;>first|rfl|(simp[knd]at h)
def yX(h:knd d=true):jd "bool" d= .ok (.bl (aOp d)):=by
 rw[aBX (by simp) h];cases d<;>first|rfl|(simp[knd]at h)
def il(h:knd d=true):jd "tuple" d= .ok (.bl (mL d)):=by
 rw[aBX (by simp) h];cases d<;>first|rfl|(simp[knd]at h)
@[simp] def isi_tuple_tup:jd "tuple" (.tup l)= .ok (.bl true):=il rfl
@[simp] def isi_int_int:jd "int" (.int i)= .ok (.bl true):=qQ rfl
@[simp] def isi_bool_int:jd "bool" (.int i)= .ok (.bl false):=yX rfl
@[simp] def isi_bool_bl:jd "bool" (.bl b)= .ok (.bl true):=yX rfl
end
@[simp] def bA:cu n u ds=match u (aj n ds)with
 | .nx _=>.ok .non
 | .rt d=>.ok d
 | .ex c=>.ex c
 |_=>.st:=aO rfl
def jh(h0: -(2^62)<=j)(h1:j<2^62):kW [.int j]= .ok (bN 0 j):=by unfold kW;dsimp only;rw[if_pos ⟨h0,h1⟩]
def aFU(h0: -(2^62)<=i)(h1:i<2^62)(h2: -(2^62)<=j)(h3:j<2^62):aDv [.int i,.int j]= .ok (bN i j):=by unfold aDv;dsimp only;rw[if_pos ⟨⟨h0,h1⟩,h2,h3⟩]
def aCg{lo hi:Int}:d∈bN lo hi↔∃k:Int,d= .int k/\lo<=k/\k<hi:=by
 unfold bN;rw[zAS];constructor
 .rintro⟨n,hn,rfl⟩
  have:=zCP.mp hn
  exact⟨lo+n,rfl,by omega,by omega⟩
 .rintro⟨k,rfl,h1,h2⟩
  exact⟨(k-lo).toNat,zCP.mpr (by omega),by congr 1;omega⟩
def my(I:Nat->En->Prop)(hs:∀(i:Nat) d ρ,ds[i]? =some d->I i ρ->∃ρ2,okE (a d ρ) (λ ρ1=>u ρ1)= .nx ρ2/\I (i+1) ρ2)(h0:I 0 ρ):∃ρ',forL a u ds ρ= .nx ρ'/\I ds.length ρ':=by
 have go:∀(n:Nat) (ρ:En),n<=ds.length->I (ds.length-n) ρ->∃ρ',forL a u (ds.drop (ds.length-n)) ρ= .nx ρ'/\I ds.length ρ':=by
  intro n;induction n with
  |zero=>intro ρ _ h;exact⟨ρ,by rw[zF8,zES];rfl,h⟩
  |succ n ih=>
   intro ρ hn h;have hlt:ds.length-(n+1)<ds.length:=by omega
   rw[zBn hlt,cC];obtain⟨ρ2,e,h2⟩:=hs _ _ ρ (zAD hlt) h;rw[show ds.length-(n+1)+1=ds.length-n by omega]at h2 ⊢;cases ea:a ds[ds.length-(n+1)] ρ with
   |ok ρ1=>
    rw[ea]at e;simp only[mJ]at e ⊢;rw[e,lH];exact ih ρ2 (by omega) h2
   |ex c=>rw[ea]at e;cases e
   |st=>rw[ea]at e;cases e
 have:=go ds.length ρ (zAT _) (by rw[zGw];exact h0)
 rwa [zGw,zEh]at this
end VL
namespace VL.My
open PySem L2
def jD:En->Ou:=
  (retS (aAD (op1 (jd "int") (aD 0)) (op1 aN7 (op1 (jd "bool") (aD 0)))))
def lE:List D->Rs D:=cu 1 jD
def fH:En->Ou:=
  (aY (gB (ig aDv (aC (cD (.int 1)) (aC (opA eX (aC (aD 0) aJ)) aJ))) (gnm 1)
   (ifS (gU (tsb (op2 ltD (op2 ixD (aD 0) (op2 aAj (aD 1) (cD (.int 1)))) (op2 ixD (aD 0) (aD 1)))))
    (retS (cD (.bl false)))
    Ou.nx))
  (retS (cD (.bl true))))
def di:List D->Rs D:=cu 2 fH
def nD:En->Ou:=
  (retS (gM (aC (opA (mmD λ i j=>if j<i then j else i) (aC (aD 0) (aC (aD 1) aJ))) (aC (opA (mmD λ i j=>if j>i then j else i) (aC (aD 0) (aC (aD 1) aJ))) aJ))))
def uh:List D->Rs D:=cu 2 nD
def jF:En->Ou:=
  (aY (aAB (aD 0) (fD 2 (aa (gnm 1) (aa (gnm 2) fP))))
  (aY (llS 3 (ig kW (aC (aD 1) aJ)) [none] (gnm 0))
  (aY (gB (bu (aD 2)) (fD 2 (aa (gnm 4) (aa (gnm 5) fP)))
   (aY (qI 3 (aD 4) (bH (aD 5)))
   (qI 3 (aD 5) (bH (aD 4)))))
  (retS (wL 3)))))
def cW:List D->Rs D:=cu 6 jF
def pwI:En->Ou:=ifS (tsb (op2 (inR true) (aD 5) (eE 2))) (lC 2 (bH (aD 5))) Ou.nx
def pwW:En->Ou:=aY (ur 4 (bH (op2 ixD (eE 2) (aD 3)))) (aY (gB (bu (op2 ixD (aD 0) (nQ 4))) (gnm 5) pwI) (aLi (i2 (λ _ _=>true) λ a b=>.int (a+b)) 3 (cD (.int 1))))
def pwT:En->Rs Bool:=tsb (op2 ltD (aD 3) (opA eX (aC (eE 2) aJ)))
def gf:En->Ou:=aY (iT 2 (fj (aC (bH (aD 1)) aJ))) (aY (eF 3 (cD (.int 0))) (aY (rB pwT pwW) (retS (opA gw (aC (opA iU (aC (eE 2) aJ)) aJ)))))
def jX:List D->Rs D:=cu 6 gf
def wfW:En->Ou:=aY (lC 2 (bH (op2 ixD (aD 3) (cD (.int 0))))) (eF 3 (lcD (bu (op2 ixD (aD 0) (op2 ixD (aD 2) (op1 aCc (cD (.int 1)))))) [none,some 2] (gnm 0) (tsb (op2 (inR true) (aD 0) (aD 1))) (bH (aD 0))))
def iy:En->Ou:=aY (iT 2 (fj (aC (bH (aD 1)) aJ))) (aY (eF 3 (op2 ixD (aD 0) (aD 1))) (aY (rB (tst (aD 3)) wfW) (retS (opA gw (aC (wL 2) aJ)))))
def jH:List D->Rs D:=cu 4 iy
def dG:En->Ou:=
  (aY (ifS (tsb (op2 ltD (aD 1) (opA eX (aC (aD 0) aJ))))
   (retS (bH (op2 ixD (aD 0) (aD 1))))
   Ou.nx)
  (retS (cD (.int 0))))
def eU:List D->Rs D:=cu 2 dG
def fG:En->Ou:=
  (aY (ifS (tsb (op2 geD (aD 0) (op2 aMw (cD (.int 10)) (cD (.int 18)))))
   (aY (eF 3 (aD 0))
   (aY (gB (ig kW (aC (aD 1) aJ)) (gnm 4)
    (aY (ifS (tsb (op2 (eqR false) (aD 3) (cD (.int 0))))
     (retS (cD (.int 0)))
     Ou.nx)
    (eF 3 (op2 lX (aD 3) (aD 2)))))
   (retS (op2 vL (aD 3) (aD 2)))))
   Ou.nx)
  (aY (eF 5 (op2 vL (op2 pQ (op2 fX (op2 fX (op2 vL (aD 0) (cD (.int 1000000007))) (op2 pQ (cD (.int 1009)) (aD 1))) (cD (.int 17))) (cD (.int 69621))) (cD (.int 2147483647))))
  (aY (eF 5 (op2 vL (op2 fX (op2 fX (op2 pQ (aD 5) (aD 5)) (op2 pQ (cD (.int 40503)) (aD 1))) (cD (.int 5))) (cD (.int 2147483629))))
  (retS (op2 vL (op2 lX (op2 vL (op2 pQ (aD 5) (cD (.int 48271))) (cD (.int 2147483647))) (cD (.int 32))) (aD 2))))))
def aQ:List D->Rs D:=cu 6 fG
def lsB:En->Ou:=aY (aIC 1 (aD 3) (opA (mmD λ i j=>if j<i then j else i) (aC (op2 ixD (eE 1) (aD 3)) (aC (op2 ixD (eE 1) (aD 4)) aJ)))) (aIC 1 (aD 4) (bH (op2 ixD (eE 1) (aD 3))))
def lsO:En->Ou:=gB (bu (op2 ixD (aD 0) (cD (.int 1)))) (fD 2 (aa (gnm 3) (aa (gnm 4) fP))) lsB
def lsI:En->Rs D:=opA gw (aC (lcD (ig kW (aC (op2 ixD (aD 1) (cD (.int 0))) aJ)) [none,some 2,some 0] (gnm 0) (tsb (op2 (eqR false) (op2 ixD (aD 1) (aD 0)) (aD 2))) (bH (aD 0))) aJ)
def lsR:En->Rs D:=lcD (bu (opA ou (aC (aD 1) aJ))) [none,some 0,some 1] (gnm 0) ju lsI
def gj:En->Ou:=aY (iT 1 (lrD (op2 ixD (aD 0) (cD (.int 0))))) (aY (gB (ig kW (aC (op2 ixD (aD 0) (cD (.int 0))) aJ)) (gnm 2) lsO) (retS lsR))
def jY:List D->Rs D:=cu 5 gj
def llK:En->Rs D:=lcD (ig kW (aC (op2 ixD (aD 0) (cD (.int 0))) aJ)) [none,some 1] (gnm 0) (tsb (op2 (inR true) (aD 0) (aD 1))) (bH (aD 0))
def llT:En->Rs D:=lcD (bu (op2 ixD (aD 0) (cD (.int 1)))) [none,some 2] (gnm 0) (aEq (tsb (op2 (inR false) (op2 ixD (aD 0) (cD (.int 0))) (aD 1))) (tsb (op2 (inR false) (op2 ixD (aD 0) (cD (.int 1))) (aD 1)))) (bH (aD 0))
def llL:En->Rs D:=lcD (bu (aD 3)) [none,none,some 2] (fD 2 (aa (gnm 0) (aa (gnm 1) fP))) ju (gM (aC (opL yg (aD 2) (aD 0)) (aC (opL yg (aD 2) (aD 1)) aJ)))
def jA:En->Ou:=aY (ur 2 llK) (aY (ur 3 llT) (retS (gM (aC (opA eX (aC (nQ 2) aJ)) (aC (opA gw (aC llL aJ)) aJ)))))
def lD:List D->Rs D:=cu 4 jA
def lgA:En->Ou:=ifS (orT (gU (tst (op1 (jd "tuple") (aD 1)))) (tsb (op2 (eqR false) (aD 1) (gM aJ)))) (retS (cD (.bl false))) Ou.nx
def lgB:En->Ou:=ifS (orT (gU (tst (op1 (jd "int") (aD 2)))) (orT (tst (op1 (jd "bool") (aD 2))) (gU (tsb (chD leD ltD (cD (.int 0)) (aD 2) (op2 ixD (aD 0) (cD (.int 0)))))))) (retS (cD (.bl false))) Ou.nx
def lgC:En->Ou:=ifS (tsb (op2 (eqR true) (opA aE1 (aC (opA aDr (aC (aD 1) aJ)) aJ)) (opA eX (aC (aD 1) aJ)))) (retS (cD (.bl false))) Ou.nx
def lgD:En->Ou:=ifS (tsb (op2 (inR true) (gM (aC (opA (mmD λ i j=>if j<i then j else i) (aC (aD 3) (aC (aD 4) aJ))) (aC (opA (mmD λ i j=>if j>i then j else i) (aC (aD 3) (aC (aD 4) aJ))) aJ))) (op2 ixD (aD 0) (cD (.int 1))))) (retS (cD (.bl false))) Ou.nx
def lgZ:En->Rs (List D):=ig aJt (aC (aD 1) (aC (aAm (aD 1) (aF7 (cD (.int 1))) aF8) aJ))
def jC:En->Ou:=aY lgA (aY (gB (bu (aD 1)) (gnm 2) lgB) (aY lgC (aY (gB lgZ (fD 2 (aa (gnm 3) (aa (gnm 4) fP))) lgD) (retS (cD (.bl true))))))
def oK:List D->Rs D:=cu 5 jC
def jB:En->Ou:=
  (aY (gB (bu (aD 0)) (gnm 2)
   (ifS (tsb (op2 (eqR false) (lcD (bu (aD 1)) [none,some 2] (gnm 0) (orT (tsb (op2 (eqR false) (aD 1) (op2 ixD (aD 0) (cD (.int 0))))) (tsb (op2 (eqR false) (aD 1) (op2 ixD (aD 0) (op1 aCc (cD (.int 1))))))) (bH (aD 0))) (fj aJ)))
    (retS (cD (.bl false)))
    Ou.nx))
  (retS (cD (.bl true))))
def jJ:List D->Rs D:=cu 3 jB
def wpB:En->Ou:=ifS (orT (gU (tst (op1 (jd "int") (aD 2)))) (orT (tst (op1 (jd "bool") (aD 2))) (gU (tsb (chD leD ltD (cD (.int 0)) (aD 2) (op2 ixD (aD 0) (cD (.int 0)))))))) (retS (cD (.bl false))) Ou.nx
def cZ:En->Ou:=aY (ifS (gU (tst (op1 (jd "tuple") (aD 1)))) (retS (cD (.bl false))) Ou.nx) (aY (gB (bu (aD 1)) (gnm 2) wpB) (retS (op2 (eqR false) (opA aCk (aC (aD 1) aJ)) (opA mX (aC (aD 1) aJ)))))
def cj:List D->Rs D:=cu 3 cZ
def jq:En->Ou:=
  (retS (aAD (aP lE (aC (aD 0) aJ)) (chD leD leD (cD (.int 0)) (aD 0) (cD (.int 60)))))
def q9:List D->Rs D:=cu 1 jq
def jE:En->Ou:=
  (retS (aAD (aP lE (aC (aD 1) aJ)) (chD leD ltD (cD (.int 0)) (aD 1) (aD 0))))
def du:List D->Rs D:=cu 2 jE
def paF:En->Ou:=aJi 3 (bH (aD 6))
def paB:En->Ou:=ifS (tsb (op2 (inX true) (aD 4) (eE 3))) (aY (eF 5 (aP jX (aC (aD 0) (aC (aD 4) aJ)))) (aY (lC 2 (bH (aD 5))) (gB (bu (aD 5)) (gnm 6) paF))) Ou.nx
def eN:En->Ou:=aY (iT 2 (fj aJ)) (aY (iT 3 (cD (.set []))) (aY (gB (bu (aD 1)) (gnm 4) paB) (retS (wL 2))))
def eQ:List D->Rs D:=cu 7 eN
def huI:En->Ou:=ifS (tsb (op2 (eqR true) (aD 8) (aD 7))) (aY (aJi 2 (bH (aD 8))) (lC 3 (gM (aC (bH (aD 8)) (aC (bH (aD 6)) aJ))))) Ou.nx
def huW:En->Ou:=aY (aAB (bH (op2 ixD (eE 3) (aD 4))) (fD 2 (aa (gnm 6) (aa (gnm 7) fP)))) (aY (gB (bu (op2 ixD (aD 1) (aD 6))) (gnm 8) huI) (aLi (i2 (λ _ _=>true) λ a b=>.int (a+b)) 4 (cD (.int 1))))
def huT:En->Rs Bool:=tsb (op2 ltD (aD 4) (opA eX (aC (eE 3) aJ)))
def huB:En->Ou:=aY (ifS (tsb (op2 (inX true) (aD 5) (eE 2))) (lC 3 (gM (aC (bH (aD 5)) (aC (cD .non) aJ)))) Ou.nx) (rB huT huW)
def vW:En->Ou:=aY (eF 1 (aP cW (aC (aD 0) aJ))) (aY (iT 2 (cD (.set []))) (aY (iT 3 (fj aJ)) (aY (eF 4 (cD (.int 0))) (aY (gB (ig kW (aC (op2 ixD (aD 0) (cD (.int 0))) aJ)) (gnm 5) huB) (retS (wL 3))))))
def zV:List D->Rs D:=cu 9 vW
def iz:En->Ou:=
  (aY (eF 3 (aP aQ (aC (aD 0) (aC (aD 2) (aC (cD (.int 6)) aJ)))))
  (aY (iT 4 (fj aJ))
  (aY (gB (ig kW (aC (aD 1) aJ)) (gnm 5)
   (ifS (orT (tsb (op2 (eqR false) (aD 3) (cD (.int 0)))) (aEq (tsb (op2 gtD (aD 3) (cD (.int 1)))) (tsb (op2 (eqR false) (aP aQ (aC (aD 0) (aC (op2 fX (op2 fX (aD 2) (cD (.int 1))) (aD 5)) (aC (op2 fX (cD (.int 1)) (aD 3)) aJ)))) (cD (.int 0))))))
    (lC 4 (bH (aD 5)))
    Ou.nx))
  (retS (opA gw (aC (wL 4) aJ))))))
def oJ:List D->Rs D:=cu 6 iz
def gh:En->Ou:=
  (retS (op2 aAj (opA eX (aC (aP jY (aC (aP lD (aC (aD 0) (aC (aD 1) aJ))) aJ)) aJ)) (opA eX (aC (lcD (bu (aD 1)) [none,some 2] (gnm 0) (tsb (op2 (inR true) (aD 0) (aD 1))) (bH (aD 0))) aJ))))
def gq:List D->Rs D:=cu 3 gh
def lpA:En->Rs D:=lcD (bu (aD 1)) [none,some 0] (gnm 0) ju (aP oK (aC (aD 1) (aC (aD 0) aJ)))
def lpI:En->Ou:=ifS (orT (gU (tst (op1 (jd "tuple") (aD 1)))) (gU (tst (opA (qj λ bs=>bs.all id) (aC lpA aJ))))) (retS (cD (.bl false))) Ou.nx
def lpE:En->Ou:=aOA 2 (bH (aD 3))
def cP:En->Ou:=aY lpI (aY (iT 2 (fj aJ)) (aY (gB (bu (aD 1)) (gnm 3) lpE) (retS (op2 (eqR false) (opA iU (aC (eE 2) aJ)) (lrD (op2 ixD (aD 0) (cD (.int 0))))))))
def dY:List D->Rs D:=cu 4 cP
def foB:En->Ou:=aY (ur 7 (op2 ixD (fj (aC (op2 aAj (aD 6) (cD (.int 1))) (aC (op2 lX (aD 6) (cD (.int 2))) (aC (op2 lX (aD 6) (cD (.int 4))) (aC (aP aQ (aC (aD 0) (aC (op2 fX (cD (.int 300)) (aD 6)) (aC (aD 6) aJ)))) aJ))))) (aD 3)))
   (aY (ifS (tsb (op2 (eqR false) (aP aQ (aC (aD 0) (aC (op2 fX (cD (.int 400)) (aD 6)) (aC (cD (.int 3)) aJ)))) (cD (.int 0))))
    (ur 7 (aP aQ (aC (aD 0) (aC (op2 fX (cD (.int 500)) (aD 6)) (aC (aD 6) aJ)))))
    Ou.nx)
   (ifS (tsb (op2 gtD (aP aQ (aC (aD 0) (aC (op2 fX (cD (.int 600)) (aD 6)) (aC (cD (.int 9)) aJ)))) (cD (.int 0))))
    (lC 5 (gM (aC (opA (mmD λ i j=>if j<i then j else i) (aC (op2 ixD (nQ 4) (nQ 7)) (aC (op2 ixD (nQ 4) (aD 6)) aJ))) (aC (opA (mmD λ i j=>if j>i then j else i) (aC (op2 ixD (nQ 4) (nQ 7)) (aC (op2 ixD (nQ 4) (aD 6)) aJ))) aJ))))
    Ou.nx))
def foO:En->Rs D:=lcD (bu (opA iU (aC (lcD (ig kW (aC (aD 2) aJ)) [none,some 0] (gnm 0) ju (gM (aC (aP aQ (aC (aD 1) (aC (op2 fX (cD (.int 200)) (aD 0)) (aC (cD (.int 97)) aJ)))) (aC (bH (aD 0)) aJ)))) aJ))) [none] (gnm 0) ju (bH (op2 ixD (aD 0) (cD (.int 1))))
def fQ:En->Ou:=aY (eF 2 (aP aQ (aC (aD 0) (aC (cD (.int 0)) (aC (op2 fX (aD 1) (cD (.int 1))) aJ))))) (aY (eF 3 (aP aQ (aC (aD 0) (aC (cD (.int 1)) (aC (cD (.int 4)) aJ))))) (aY (ur 4 foO) (aY (iT 5 (fj aJ)) (aY (gB (ig aDv (aC (cD (.int 1)) (aC (aD 2) aJ))) (gnm 6) foB) (retS (gM (aC (bH (aD 2)) (aC (opA gw (aC (opA iU (aC (eE 5) aJ)) aJ)) aJ))))))))
def iM:List D->Rs D:=cu 8 fQ
def ipE:En->Ou:=ifS (orT (gU (tst (op1 (jd "tuple") (aD 1)))) (tsb (op2 (eqR true) (opA eX (aC (aD 1) aJ)) (cD (.int 2))))) (retS (cD (.bl false))) Ou.nx
def jo:En->Ou:=aY ipE (retS (aAD (aP du (aC (aD 0) (aC (op2 ixD (aD 1) (cD (.int 0))) aJ))) (aAD (aP du (aC (aD 0) (aC (op2 ixD (aD 1) (cD (.int 1))) aJ))) (op2 (eqR true) (op2 ixD (aD 1) (cD (.int 0))) (op2 ixD (aD 1) (cD (.int 1)))))))
def nO:List D->Rs D:=cu 2 jo
def dD:En->Ou:=
  (aY (ifS (gU (tst (op1 (jd "tuple") (aD 1))))
   (retS (cD (.bl false)))
   Ou.nx)
  (aY (gB (bu (aD 1)) (gnm 2)
   (ifS (gU (tst (aP du (aC (aD 0) (aC (aD 2) aJ)))))
    (retS (cD (.bl false)))
    Ou.nx))
  (retS (aP di (aC (aD 1) aJ)))))
def fZ:List D->Rs D:=cu 3 dD
def joA:En->Rs D:=lcD (bu (aAm (op2 ixD (aD 2) (aD 5)) aF8 (aF7 (aD 7)))) [none,some 5] (gnm 0) ju (aP uh (aC (aD 1) (aC (aD 0) aJ)))
def joB:En->Ou:=aY (eF 7 (ifD (tsb (op2 (inR false) (aD 5) (aD 1))) (cD (.int 1)) (cD (.int 2)))) (aY (aLj 3 joA) (ifS (tsb (op2 geD (opA eX (aC (op2 ixD (eE 2) (aD 5)) aJ)) (aD 7))) (lC 4 (bH (aD 5))) (ifS (tsb (op2 (isD true) (aD 6) (cD .non))) (qI 2 (aD 6) (bH (aD 5))) Ou.nx)))
def gk:En->Ou:=aY (llS 2 (ig kW (aC (op2 ixD (aD 0) (cD (.int 0))) aJ)) [none] (gnm 0)) (aY (iT 3 (fj aJ)) (aY (iT 4 (fj aJ)) (aY (gB (bu (op1 aFV (aP zV (aC (aD 0) aJ)))) (fD 2 (aa (gnm 5) (aa (gnm 6) fP))) joB) (retS (gM (aC (opA gw (aC (opA iU (aC (eE 3) aJ)) aJ)) (aC (opA gw (aC (opA iU (aC (eE 4) aJ)) aJ)) aJ)))))))
def lq:List D->Rs D:=cu 8 gk
def bO:En->Ou:=
  (aY (ifS (gU (tst (op1 (jd "tuple") (aD 1))))
   (retS (cD (.bl false)))
   Ou.nx)
  (aY (gB (bu (aD 1)) (gnm 2)
   (ifS (gU (tst (aP nO (aC (aD 0) (aC (aD 2) aJ)))))
    (retS (cD (.bl false)))
    Ou.nx))
  (retS (aP di (aC (aD 1) aJ)))))
def bT:List D->Rs D:=cu 3 bO
def dR:En->Ou:=
  (ifS (gU (tst (aP fZ (aC (aD 0) (aC (aD 1) aJ)))))
   (mG "NoPlace" (aC (cD (.str "these are no places of the web")) aJ))
   Ou.nx)
def iQ:List D->Rs D:=cu 2 dR
def gY:En->Ou:=
  (retS (aAD (aP bT (aC (aD 0) (aC (aD 1) aJ))) (opA (qj λ bs=>bs.all id) (aC (lcD (bu (aD 1)) [none,none] (fD 2 (aa (gnm 0) (aa (gnm 1) fP))) ju (op2 ltD (aD 0) (aD 1))) aJ))))
def dH:List D->Rs D:=cu 2 gY
def nF:En->Ou:=
  (aY (ifS (orT (gU (tst (op1 (jd "tuple") (aD 0)))) (tsb (op2 (eqR true) (opA eX (aC (aD 0) aJ)) (cD (.int 2)))))
   (retS (cD (.bl false)))
   Ou.nx)
  (retS (aAD (aP q9 (aC (op2 ixD (aD 0) (cD (.int 0))) aJ)) (aP dH (aC (op2 ixD (aD 0) (cD (.int 0))) (aC (op2 ixD (aD 0) (cD (.int 1))) aJ))))))
def ul:List D->Rs D:=cu 1 nF
def kdC:En->Rs D:=dcD (bu (op2 ixD (aD 0) (cD (.int 1)))) [none] (gnm 0) ju (bH (aD 0)) (cD (.bl true))
def kdB:En->Ou:=ifS (tsb (op2 (inK true) (aD 3) (aD 2))) (mG "NoParting" (aC (cD (.str "a tie is none of the web")) aJ)) Ou.nx
def fV:En->Ou:=aY (ifS (gU (tst (aP dH (aC (op2 ixD (aD 0) (cD (.int 0))) (aC (aD 1) aJ))))) (mG "NoParting" (aC (cD (.str "these are no ties, or they do not rise")) aJ)) Ou.nx) (aY (eF 2 kdC) (gB (bu (aD 1)) (gnm 3) kdB))
def dw:List D->Rs D:=cu 4 fV
def gn:En->Ou:=
  (ifS (gU (tst (aP ul (aC (aD 0) aJ))))
   (mG "NoWeb" (aC (cD (.str "this is no web")) aJ))
   Ou.nx)
def dj:List D->Rs D:=cu 1 gn
def qY:En->Ou:=
  (aY (qG (aP dj (aC (aD 0) aJ)))
  (retS (aP eQ (aC (aP cW (aC (aD 0) aJ)) (aC (lrD (op2 ixD (aD 0) (cD (.int 0)))) aJ)))))
def qZ:List D->Rs D:=cu 1 qY
def pxR:En->Ou:=mG "NoParting" (aC (cD (.str "three of the ties are at one place")) aJ)
def pxQ:En->Ou:=mG "NoParting" (aC (cD (.str "some of the ties close a ring")) aJ)
def pxB:En->Ou:=aY (ifS (tst (opA (qj λ bs=>bs.any id) (aC (lcD (bu (aD 5)) [none,some 3] (gnm 0) ju (op2 gtD (opA eX (aC (op2 ixD (aD 1) (aD 0)) aJ)) (cD (.int 2)))) aJ))) pxR Ou.nx)
 (aY (ur 6 (lcD (bu (aD 5)) [none,some 3] (gnm 0) (tsb (op2 ltD (opA eX (aC (op2 ixD (aD 1) (aD 0)) aJ)) (cD (.int 2)))) (bH (aD 0))))
 (aY (ifS (gU (tst (nQ 6))) pxQ Ou.nx) (lC 4 (aP jH (aC (aD 3) (aC (op2 ixD (nQ 6) (cD (.int 0))) aJ))))))
def cY:En->Ou:=aY (qG (aP dj (aC (aD 0) aJ))) (aY (qG (aP dw (aC (aD 0) (aC (aD 1) aJ))))
  (aY (eF 2 (gM (aC (op2 ixD (aD 0) (cD (.int 0))) (aC (aD 1) aJ)))) (aY (eF 3 (aP cW (aC (aD 2) aJ))) (aY (iT 4 (fj aJ)) (aY (gB (bu (aP qZ (aC (aD 2) aJ))) (gnm 5) pxB)
  (retS (opA gw (aC (opA iU (aC (eE 4) aJ)) aJ))))))))
def gH:List D->Rs D:=cu 7 cY
def gm:En->Ou:=
  (retS (op2 (eqR false) (opA eX (aC (aP qZ (aC (aD 0) aJ)) aJ)) (op2 aAj (op2 ixD (aD 0) (cD (.int 0))) (opA eX (aC (op2 ixD (aD 0) (cD (.int 1))) aJ)))))
def jZ:List D->Rs D:=cu 1 gm
def dU:En->Ou:=
  (ifS (gU (tst (aP jZ (aC (aD 0) aJ))))
   (mG "NoForest" (aC (cD (.str "the web has a ring")) aJ))
   Ou.nx)
def iR:List D->Rs D:=cu 1 dU
def dO:En->Ou:=
  (aY (qG (aP iR (aC (aD 0) aJ)))
  (aY (qG (aP iQ (aC (op2 ixD (aD 0) (cD (.int 0))) (aC (aD 1) aJ))))
  (retS (aP lq (aC (aD 0) (aC (aD 1) aJ))))))
def dZ:List D->Rs D:=cu 2 dO
def cg:En->Ou:=
  (aY (aAB (aP dZ (aC (aD 0) (aC (aD 1) aJ))) (fD 2 (aa (gnm 2) (aa (gnm 3) fP))))
  (retS (op2 aAj (op2 ixD (aD 0) (cD (.int 0))) (opA eX (aC (aD 2) aJ)))))
def gJ:List D->Rs D:=cu 4 cg
def cQ:En->Ou:=
  (aY (aAB (aP dZ (aC (aD 0) (aC (aD 1) aJ))) (fD 2 (aa (gnm 2) (aa (gnm 3) fP))))
  (retS (aP gH (aC (aD 0) (aC (aD 2) aJ)))))
def cR:List D->Rs D:=cu 4 cQ
def fU:En->Ou:=
  (aY (aAB (aP dZ (aC (aD 0) (aC (aD 1) aJ))) (fD 2 (aa (gnm 2) (aa (gnm 3) fP))))
  (retS (bH (aD 3))))
def fY:List D->Rs D:=cu 4 fU
def lwR:En->Rs (List D):=(ig kW (aC (opA (mmD λ i j=>if j>i then j else i) (aC (cD (.int 1)) (aC (opA (mmD λ i j=>if j<i then j else i) (aC (opA eX (aC (aD 0) aJ)) (aC (cD (.int 6)) aJ))) aJ))) aJ))
def lIt:En->Rs (List D):=(bu (fj (aC (gM aJ) (aC (aP oJ (aC (aD 2) (aC (op2 ixD (aD 3) (cD (.int 0))) (aC (cD (.int 5000)) aJ)))) (aC (trD (op2 ixD (aD 3) (cD (.int 0)))) aJ)))))
def lB0:En->Ou:=(eF 5 (aP cR (aC (aD 3) (aC (aD 4) aJ))))
def lB1:En->Ou:=(eF 6 (aP fY (aC (aD 3) (aC (aD 4) aJ))))
def lB2:En->Ou:=(ifS (orT (gU (tst (aP dY (aC (aD 3) (aC (aD 5) aJ))))) (orT (gU (tst (aP jJ (aC (aD 4) (aC (aD 5) aJ))))) (gU (tst (aP cj (aC (aD 3) (aC (aD 6) aJ))))))) (retS (cD (.bl false))) Ou.nx)
def lB3:En->Ou:=(ifS (orT (tsb (op2 (eqR true) (aP gq (aC (aD 3) (aC (aD 6) (aC (aD 4) aJ)))) (opA eX (aC (aD 5) aJ)))) (tsb (op2 (eqR true) (aP gJ (aC (aD 3) (aC (aD 4) aJ))) (opA eX (aC (aD 5) aJ))))) (retS (cD (.bl false))) Ou.nx)
def l4:En->Ou:=aY lB0 (aY lB1 (aY lB2 lB3))
def lwK:En->Ou:=aY (eF 2 (aP eU (aC (aD 0) (aC (aD 1) aJ)))) (aY (eF 3 (aP iM (aC (aD 2) (aC (op2 ixD (fj (aC (cD (.int 12)) (aC (cD (.int 30)) (aC (cD (.int 60)) aJ)))) (aP aQ (aC (aD 2) (aC (cD (.int 2)) (aC (cD (.int 3)) aJ))))) aJ)))) (gB lIt (gnm 4) l4))
def lwZ:En->Rs D:=(aAD (op2 (eqR false) (aP cR (aC (gM (aC (cD (.int 0)) (aC (gM aJ) aJ))) (aC (gM aJ) aJ))) (gM aJ)) (op2 (eqR false) (aP fY (aC (gM (aC (cD (.int 1)) (aC (gM aJ) aJ))) (aC (gM aJ) aJ))) (gM aJ)))
def zP:En->Ou:=aY (gB lwR (gnm 1) lwK) (retS lwZ)
def aJm:List D->Rs D:=cu 7 zP
theorem aA4(hb:0<b)(hb2:b<1073741824):∀(ds:List D) (x:Int) (s:Slot),(∀d∈ds,∃n:Int,d= .int n)->
  (∃y s',forL (gnm 4) (aY (ifS (tsb (op2 (eqR false) (aD 3) (cD (.int 0)))) (retS (cD (.int 0))) Ou.nx) (eF 3 (op2 lX (aD 3) (aD 2)))) ds [.sh (.int c),.sh (.int k),.sh (.int b),.sh (.int x),s,.no]= .nx [.sh (.int c),.sh (.int k),.sh (.int b),.sh (.int y),s',.no])\/
  forL (gnm 4) (aY (ifS (tsb (op2 (eqR false) (aD 3) (cD (.int 0)))) (retS (cD (.int 0))) Ou.nx) (eF 3 (op2 lX (aD 3) (aD 2)))) ds [.sh (.int c),.sh (.int k),.sh (.int b),.sh (.int x),s,.no]= .rt (.int 0)
 |[],x,s,_=>.inl ⟨x,s,rfl⟩
 |d::ds,x,s,h=>by
  have ih:=aA4 hb hb2 (c:=c) (k:=k) ds (x / b) (.sh d) λ e he=>h e (zAF _ he)
  rw[cC];by_cases hx:x=0
  .subst hx
   right;simp
  .simp[hx,qW hb hb2]
   exact ih
def aGH(hk0:0<=k)(hk1:k<2^40)(hb:0<b)(hb2:b<1073741824):∃r:Int,aQ [.int c,.int k,.int b]= .ok (.int r)/\0<=r/\r<b:=by
 have hp:aMw (.int 10) (.int 18)= .ok (.int 1000000000000000000):=rfl;by_cases hc:(1000000000000000000:Int)<=c
 .have hr:=jh (j:=k) (by lia) (by lia)
  have hl:=aA4 hb hb2 (c:=c) (k:=k) (bN 0 k) c .no λ d hd=>let⟨n,e,_⟩:=aCg.mp hd;⟨n,e⟩
  rcases hl with ⟨y,s',e⟩|e
  .refine⟨y%b,?_,zDj _ (by lia),zDL _ hb⟩
   simp[aQ,fG,aj,hp,hc,hr,e,pR hb]
  .refine⟨0,?_,by lia,hb⟩
   simp[aQ,fG,aj,hp,hc,hr,e]
 .have s1:∀z:Int,0<=z%2147483647/\z%2147483647<2147483647:=λ z=>⟨zDj _ (by decide),zDL _ (by decide)⟩
  have s2:∀z:Int,0<=z%2147483629/\z%2147483629<2147483629:=λ z=>⟨zDj _ (by decide),zDL _ (by decide)⟩
  have m1:∀z,pQ (.int 1009) (.int z)= .ok (.int (1009*z)):=λ z=>aEQ (by decide) (by decide)
  have m2:∀z,pQ (.int z) (.int 69621)= .ok (.int (z*69621)):=λ z=>aI7 (by decide) (by decide)
  have m3:∀z,pQ (.int 40503) (.int z)= .ok (.int (40503*z)):=λ z=>aEQ (by decide) (by decide)
  have m4:∀z,pQ (.int z) (.int 48271)= .ok (.int (z*48271)):=λ z=>aI7 (by decide) (by decide)
  have m5:∀z:Int,pQ (.int (z%2147483647)) (.int (z%2147483647))= .ok (.int (z%2147483647*(z%2147483647))):=λ z=>aEQ (by have:=s1 z;lia) (by have:=s1 z;lia)
  have d1:∀z,vL (.int z) (.int 1000000007)= .ok (.int (z%1000000007)):=λ z=>pR (by decide)
  have d2:∀z,vL (.int z) (.int 2147483647)= .ok (.int (z%2147483647)):=λ z=>pR (by decide)
  have d3:∀z,vL (.int z) (.int 2147483629)= .ok (.int (z%2147483629)):=λ z=>pR (by decide)
  have d4:∀z,lX (.int z) (.int 32)= .ok (.int (z / 32)):=λ z=>qW (by decide) (by decide)
  have d5:∀z,vL (.int z) (.int b)= .ok (.int (z%b)):=λ z=>pR hb
  simp[aQ,fG,aj,hp,hc,m1,m2,m3,m4,m5,d1,d2,d3,d4,d5,-Int.emod_emod_of_dvd];exact⟨zDj _ (by lia),zDL _ hb⟩
def ji(hk0:0<=k)(hk1:k<2^40)(hb:0<b)(hb2:b<1073741824):∃r:Nat,aQ [.int c,.int k,.int b]= .ok (.int r)/\(r:Int)<b:=by
 obtain⟨r,e,h0,h1⟩:=aGH (c:=c) hk0 hk1 hb hb2;exact⟨r.toNat,by rw[zDA h0];exact e,by lia⟩
def aLf(h:0<=k):∃c:Int,eU [.scr ns,.int k]= .ok (.int c):=by
 by_cases hk:k<ns.length
 .obtain⟨d,e,hm,_⟩:=aJd (l:=ns.map .int) (i:=k) h (by simpa using hk)
  obtain⟨c,_,rfl⟩:=zAS.mp hm;exact⟨c,by simp[eU,dG,aj,hk,e]⟩
 .exact⟨0,by simp[eU,dG,aj,hk]⟩
mutual
def pln:D->Bool
 | .tup l=>qd l
 | .lst l=>qd l
 | .set _=>false
 | .scr _=>false
 | .fn _=>false
 |_=>true
def qd:List D->Bool
 |[]=>true
 |d::r=>pln d&&qd r
end
def iD(h:pln d=true):knd d=true:=by cases d<;>first|rfl|(simp[pln]at h)
theorem pL:∀{l:List D} {d:D},qd l=true->d∈l->pln d=true
 |x::r,d,h,hm=>by
  simp only[qd,zAN]at h;rcases zAL.mp hm with rfl|hm
  .exact h.1
  .exact pL h.2 hm
theorem tY:∀{l:List D},(∀d∈l,pln d=true)->qd l=true
 |[],_=>rfl
 |x::r,h=>by
  simp only[qd,zAN];exact⟨h x (zAH ..),tY λ d hd=>h d (zAF _ hd)⟩
def aDg:D->Bool
 | .int _=>true
 |_=>false
def aFe:D->Bool
 | .int i=>decide (0<=i)&&decide (i<=60)
 |_=>false
def bJ(m:Int):D->Bool
 | .int i=>decide (0<=i)&&decide (i<m)
 |_=>false
def vh(h:knd d=true):lE [d]= .ok (.bl (aDg d)):=by
 simp[lE,jD,aj,qQ h,yX h];cases d<;>rfl
def aEb(h:knd d=true):q9 [d]= .ok (.bl (aFe d)):=by
 simp[q9,jq,aj,vh h];cases d<;>simp[aDg,aFe]
 rename_i i;by_cases h0:0<=i<;>simp[h0]
def pU(h:knd d=true):du [.int m,d]= .ok (.bl (bJ m d)):=by
 simp[du,jE,aj,vh h];cases d<;>simp[aDg,bJ]
 rename_i i;by_cases h0:0<=i<;>simp[h0]
def jQ(m:Int):D->Bool
 | .tup [.int a,.int b]=>decide (0<=a)&&decide (a<m)&&decide (0<=b)&&decide (b<m)&& !(a==b)
 |_=>false
def qM(h:bJ m d=true):∃i:Int,d= .int i/\0<=i/\i<m:=by
 cases d with
 |int i=>simp[bJ]at h;exact⟨i,rfl,h.1,h.2⟩
 |_=>simp[bJ]at h
def tG(h:mL d=true):∃l,d= .tup l:=by cases d<;>first|exact⟨_,rfl⟩|(cases h)
def aM5(h:l.length=2):∃x y,l=[x,y]:=by
 match l,h with
 |[x,y],_=>exact⟨x,y,rfl⟩
def aIY(h:mL d=false):jQ m d=false:=by cases d<;>first|rfl|(cases h)
def aGa(h:l.length≠2):jQ m (.tup l)=false:=by
 match l,h with
 |[],_=>rfl
 |[x],_=>cases x<;>rfl
 |[x,y],h=>exact absurd rfl h
 |x::y::z::r,_=>cases x<;>first|rfl|(cases y<;>rfl)
def aKf(h:bJ m x=false):jQ m (.tup [x,y])=false:=by
 cases x with
 |int i=>
  cases y with
  |int j=>
   show((((decide (0<=i)&&decide (i<m))&&decide (0<=j))&&decide (j<m))&& !(i==j))=false
   rw[show(decide (0<=i)&&decide (i<m))=false from h];rfl
  |_=>rfl
 |_=>rfl
def aKe(h:bJ m y=false):jQ m (.tup [.int i,y])=false:=by
 cases y with
 |int j=>
  show((((decide (0<=i)&&decide (i<m))&&decide (0<=j))&&decide (j<m))&& !(i==j))=false
  rw[zEd (decide (0<=i)&&decide (i<m)),show(decide (0<=j)&&decide (j<m))=false from h,zDu];rfl
 |_=>rfl
def aIX(h1:bJ m (.int i)=true)(h2:bJ m (.int j)=true):jQ m (.tup [.int i,.int j])= !(i==j):=by
 show((((decide (0<=i)&&decide (i<m))&&decide (0<=j))&&decide (j<m))&& !(i==j))= !(i==j)
 rw[zEd (decide (0<=i)&&decide (i<m)),show(decide (0<=j)&&decide (j<m))=true from h2,show(decide (0<=i)&&decide (i<m))=true from h1];rfl
def aNo(hk:knd d=true)(h:mL d=false):ipE [s,.sh d]= .rt (.bl false):=by simp[ipE,il hk,h]
def aLS(h:l.length≠2):ipE [s,.sh (.tup l)]= .rt (.bl false):=by
 have:¬((l.length:Int)=2):=by omega
 simp[ipE,this]
def aLR:ipE [s,.sh (.tup [x,y])]= .nx [s,.sh (.tup [x,y])]:=by simp[ipE]
def aEa(h:pln d=true):nO [.int m,d]= .ok (.bl (jQ m d)):=by
 have st:aj 2 [.int m,d]=[.sh (.int m),.sh d]:=rfl;simp only[nO,jo,bA,st];cases ht:mL d with
 |false=>rw[aK,aNo (iD h) ht,aIY ht];rfl
 |true=>
  obtain⟨l,rfl⟩:=tG ht;by_cases hl:l.length=2
  .obtain⟨x,y,rfl⟩:=aM5 hl
   simp only[pln,qd,zAN]at h;have hx:=pU (m:=m) (iD h.1);have hy:=pU (m:=m) (iD h.2.1);have ex:aP du (aC (aD 0) (aC (op2 ixD (aD 1) (cD (.int 0))) aJ)) [.sh (.int m),.sh (.tup [x,y])]= .ok (.bl (bJ m x)):=by simp[hx]
   have ey:aP du (aC (aD 0) (aC (op2 ixD (aD 1) (cD (.int 1))) aJ)) [.sh (.int m),.sh (.tup [x,y])]= .ok (.bl (bJ m y)):=by simp[hy]
   rw[aK,aLR,aU,jM,xK,ex,aZ,aBn,xK,ey,aZ,aBn];cases c1:bJ m x with
   |false=>rw[aKf c1];rfl
   |true=>
    obtain⟨i,rfl,_,_⟩:=qM c1;cases c2:bJ m y with
    |false=>rw[aKe c2];rfl
    |true=>
     obtain⟨j,rfl,_,_⟩:=qM c2;rw[aIX c1 c2];rfl
  .rw[aK,aLS hl,aGa hl];rfl
def pD(p:Int×Int):D:=.tup [.int p.1,.int p.2]
def ltP(p q:Int×Int):Bool:=HT.lexLt [p.1,p.2] [q.1,q.2]
def vC:gX->Bool
 |[]=>true
 |[_]=>true
 |p::q::r=>ltP p q&&vC (q::r)
def aNa(p q:Int×Int):ltD (pD p) (pD q)= .ok (.bl (ltP p q)):=aLD [p.1,p.2] [q.1,q.2]
theorem qU:∀(ds:List D) (ok:Nat->Bool) (I:En->Prop) (ρ:En),I ρ->(∀(i:Nat) d ρ,ds[i]? =some d->I ρ->okE (a d ρ) u= .rt r/\ok i=false\/∃ρ',okE (a d ρ) u= .nx ρ'/\I ρ'/\ok i=true)->
  (forL a u ds ρ= .rt r/\∃i,i<ds.length/\ok i=false)\/(∃ρ',forL a u ds ρ= .nx ρ'/\I ρ'/\∀i,i<ds.length->ok i=true)
 |[],ok,I,ρ,h,_=>.inr ⟨ρ,rfl,h,λ i hi=>absurd hi (zE9 _)⟩
 |d::ds,ok,I,ρ,h,hs=>by
  rw[cC];rcases hs 0 d ρ rfl h with ⟨e,o⟩|⟨ρ',e,h',o⟩
  .left
   refine⟨?_,0,by simp,o⟩;cases ea:a d ρ with
   |ok ρ1=>rw[ea]at e;simp at e ⊢;rw[e];rfl
   |ex c=>rw[ea]at e;cases e
   |st=>rw[ea]at e;cases e
  .have ih:=qU ds (λ i=>ok (i+1)) I ρ' h' λ i d2 ρ2 e2 h2=>hs (i+1) d2 ρ2 (by simpa using e2) h2
   have e3:okE (a d ρ) (λ ρ1=>(u ρ1).tn (forL a u ds))=forL a u ds ρ':=by
    cases ea:a d ρ with
    |ok ρ1=>rw[ea]at e;simp at e ⊢;rw[e];rfl
    |ex c=>rw[ea]at e;cases e
    |st=>rw[ea]at e;cases e
   rw[e3];rcases ih with ⟨e4,i,hi,o4⟩|⟨ρ4,e4,h4,o4⟩
   .exact .inl ⟨e4,i+1,by simpa using hi,o4⟩
   .refine .inr ⟨ρ4,e4,h4,λ i hi=>?_⟩
    cases i with
    |zero=>exact o
    |succ i=>exact o4 i (by simpa using hi)
def m6{i:Nat}(h:(bN lo hi)[i]? =some d):d= .int (lo+i)/\lo+i<hi:=by
 unfold bN at h;rw[zA2]at h;by_cases hi2:i<(hi-lo).toNat
 .rw[zEo hi2]at h
  cases h;exact⟨rfl,by omega⟩
 .rw[zE2 (by simpa using hi2)]at h
  cases h
def gD:(bN lo hi).length=(hi-lo).toNat:=by unfold bN;simp
section
variable{α:Type}{f:α->D}{lt:α->α->Bool}
def sE(lt:α->α->Bool):List α->Bool
 |[]=>true
 |[_]=>true
 |p::q::r=>lt p q&&sE lt (q::r)
theorem m7:∀{ps:List α},sE lt ps=true↔∀(i:Nat) (p q:α),ps[i]? =some p->ps[i+1]? =some q->lt p q=true
 |[]=>by simp[sE]
 |[x]=>by
  simp only[sE,true_iff];intro i p q _ h2;simp at h2
 |x::y::r=>by
  have ih:=m7 (ps:=y::r);unfold sE;rw[zAN,ih];constructor
  .rintro⟨h1,h2⟩ i p q e1 e2
   cases i with
   |zero=>simp at e1 e2;subst e1 e2;exact h1
   |succ i=>exact h2 i p q (by simpa using e1) (by simpa using e2)
  .intro h
   exact⟨h 0 x y rfl rfl,λ i p q e1 e2=>h (i+1) p q (by simpa using e1) (by simpa using e2)⟩
def vm(hlt:∀a b,ltD (f a) (f b)= .ok (.bl (lt a b)))(hl:ps.length<=100000):di [.tup (ps.map f)]= .ok (.bl (sE lt ps)):=by
 have hr:=aFU (i:=1) (j:=(ps.length:Int)) (by decide) (by decide) (by omega) (by omega);have kQ:(bN 1 (ps.length:Int)).length=ps.length-1:=by rw[gD];omega
 have L:=qU (a:=gnm 1) (u:=ifS (gU (tsb (op2 ltD (op2 ixD (aD 0) (op2 aAj (aD 1) (cD (.int 1)))) (op2 ixD (aD 0) (aD 1))))) (retS (cD (.bl false))) Ou.nx) (r:=.bl false)
  (bN 1 (ps.length:Int)) (λ i=>match ps[i]?,ps[i+1]? with|some p,some q=>lt p q|_,_=>true) (λ ρ=>∃s,ρ=[.sh (.tup (ps.map f)),s]) [.sh (.tup (ps.map f)),.no] ⟨_,rfl⟩ (by
   rintro i d ρ hd ⟨s,rfl⟩;obtain⟨rfl,h2⟩:=m6 hd;have e1:ps[i]? =some ps[i]:=zAD (by omega);have e2:ps[i+1]? =some ps[i+1]:=zAD (by omega);have a1:atD (ps.map f) (1+(i:Int)-1)= .ok (f ps[i]):=by
    rw[show(1+(i:Int)-1)=(i:Int)by omega];exact fW (by rw[zA2,e1];rfl)
   have a2:atD (ps.map f) (1+(i:Int))= .ok (f ps[i+1]):=by
    rw[show(1+(i:Int))=((i+1:Nat):Int)by omega];exact fW (by rw[zA2,e2];rfl)
   simp only[e1,e2];cases c:lt ps[i] ps[i+1]with
   |true=>right;exact⟨_,by simp[a1,a2,hlt,c];rfl,⟨_,rfl⟩,rfl⟩
   |false=>left;exact⟨by simp[a1,a2,hlt,c],rfl⟩)
 have st:aj 2 [.tup (ps.map f)]=[.sh (.tup (ps.map f)),.no]:=rfl;rcases L with ⟨e,i,hi,o⟩|⟨ρ',e,⟨s,rfl⟩,o⟩
 .have:sE lt ps=false:=by
   cases c:sE lt ps with
   |false=>rfl
   |true=>
    rw[kQ]at hi;have z:=m7.mp c i ps[i] ps[i+1] (zAD (by omega)) (zAD (by omega));rw[zAD (by omega),zAD (by omega)]at o;simp only at o;rw[z]at o;cases o
  rw[this];simp only[di,fH,bA,st];simp[hr,e]
 .have:sE lt ps=true:=m7.mpr λ i p q e1 e2=>by
   have h2:=(zAJ.mp e2).1
   have:=o i (by rw[kQ];omega)
   rw[e1,e2]at this;exact this
  rw[this];simp only[di,fH,bA,st];simp[hr,e]
end
theorem aDy:∀ps:gX,vC ps=sE ltP ps
 |[]=>rfl
 |[_]=>rfl
 |p::q::r=>by unfold vC sE;rw[aDy (q::r)]
def aBY(hl:ps.length<=100000):di [.tup (ps.map pD)]= .ok (.bl (vC ps)):=by
 rw[aDy];exact vm aNa hl
def ltI(a b:Int):Bool:=decide (a<b)
def aDI(hl:ps.length<=100000):di [.tup (ps.map .int)]= .ok (.bl (sE ltI ps)):=vm (λ a b=>by rw[aFg];rfl) hl
def aBC:vC ps=true↔∀(i:Nat) (p q:Int×Int),ps[i]? =some p->ps[i+1]? =some q->ltP p q=true:=by rw[aDy];exact m7
def aG2:D->Int×Int
 | .tup [.int a,.int b]=>(a,b)
 |_=>(0,0)
def yI(h:jQ m d=true):∃a b:Int,d= .tup [.int a,.int b]/\0<=a/\a<m/\0<=b/\b<m/\a≠b:=by
 unfold jQ at h;split at h
 .rename_i a b
  simp at h;exact⟨a,b,rfl,h.1.1.1.1,h.1.1.1.2,h.1.1.2,h.1.2,h.2⟩
 .cases h
theorem aIM:∀{ts:List D},ts.all (jQ m)=true->(ts.map aG2).map pD=ts
 |[],_=>rfl
 |t::ts,h=>by
  rw[zDH,zAN]at h;obtain⟨a,b,rfl,_⟩:=yI h.1;simp only[zAM];rw[aIM h.2];rfl
def rpB(m:Int):D->Bool
 | .tup ts=>ts.all (jQ m)&&vC (ts.map aG2)
 |_=>false
def xX:D->Bool
 | .tup l=>decide (l.length<=100000)
 |_=>true
def jg(h:pln d=true)(hs:xX d=true):bT [.int m,d]= .ok (.bl (rpB m d)):=by
 cases d with
 |tup ts=>
  have hp:qd ts=true:=by simpa[pln]using h
  have hl:ts.length<=100000:=by simpa[xX]using hs
  have L:=qU (a:=gnm 2) (u:=ifS (gU (tst (aP nO (aC (aD 0) (aC (aD 2) aJ))))) (retS (cD (.bl false))) Ou.nx) (r:=.bl false)
   ts (λ i=>match ts[i]? with|some t=>jQ m t|none=>true) (λ ρ=>∃s,ρ=[.sh (.int m),.sh (.tup ts),s]) [.sh (.int m),.sh (.tup ts),.no] ⟨_,rfl⟩ (by
    rintro i d ρ hd ⟨s,rfl⟩;have e:=aEa (m:=m) (pL hp (zBH hd));simp only[hd];cases c:jQ m d with
    |true=>right;exact⟨_,by simp[e,c];rfl,⟨_,rfl⟩,rfl⟩
    |false=>left;exact⟨by simp[e,c],rfl⟩)
  have st:aj 3 [.int m,.tup ts]=[.sh (.int m),.sh (.tup ts),.no]:=rfl;rcases L with ⟨e,i,hi,o⟩|⟨ρ',e,⟨s,rfl⟩,o⟩
  .have:ts.all (jQ m)=false:=by
    rw[zH5];rw[zAD hi]at o;exact⟨ts[i],zCH hi,by simpa using o⟩
   simp only[bT,bO,bA,st];simp[e,rpB,this]
  .have:ts.all (jQ m)=true:=by
    rw[zAr];intro t ht;obtain⟨i,hi,rfl⟩:=zBk ht
    have:=o i hi
    rw[zAD hi]at this;exact this
   have er:=aBY (ps:=ts.map aG2) (by rw[zAE];exact hl);rw[aIM this]at er;simp only[bT,bO,bA,st];simp[e,rpB,this,er]
 |_=>simp[bT,bO,aj,il (iD h),mL,rpB]
structure Ow(n:Int)(ps:gX):Prop where
 n0:0<=n
 n1:n<=60
 len:ps.length<=3600
 pr:∀p∈ps,0<=p.1/\p.1<n/\0<=p.2/\p.2<n/\p.1≠p.2
 ris:vC ps=true
def owD(n:Int)(ps:gX):D:=.tup [.int n,.tup (ps.map pD)]
def Ow.rp(h:Ow n ps):rpB n (.tup (ps.map pD))=true:=by
 have e:(ps.map pD).map aG2=ps:=by rw[zAi];exact(zAw λ p _=>rfl).trans (zEs ps)
 unfold rpB;dsimp only;rw[e,h.ris,zDb,zAr];intro d hd;obtain⟨p,hp,rfl⟩:=zAS.mp hd;obtain⟨a,b,c,d,e⟩:=h.pr p hp;simp[pD,jQ,a,b,c,d,e]
theorem aF0:∀ps:gX,qd (ps.map pD)=true
 |[]=>rfl
 |p::ps=>by simp only[zAM,qd,aF0 ps,zDb];rfl
theorem uU:∀ns:List Int,dC (ns.map .int)=0/\bD (ns.map .int)=true
 |[]=>⟨rfl,rfl⟩
 |n::ns=>by
  obtain⟨h1,h2⟩:=uU ns;simp[dC,lB,bD,bC,h1,h2]
theorem aA5:∀ps:gX,dC (ps.map pD)<=1/\bD (ps.map pD)=true
 |[]=>⟨by simp[dC],rfl⟩
 |p::ps=>by
  obtain⟨h1,h2⟩:=aA5 ps;simp[dC,lB,bD,bC,h2,pD,h1]
def uH(neg:Bool)(y:Int)(ns:List Int):inR neg (.int y) (.lst (ns.map .int))= .ok (.bl (if neg then !decide (y∈ns)else decide (y∈ns))):=by
 obtain⟨h1,h2⟩:=uU ns;have e:inD (.int y) (ns.map .int)=decide (y∈ns):=by
  unfold inD;rw[zBI];simp[zCG,eqD]
 unfold inR;dsimp only;rw[h1,h2,e];rfl
def aIw(neg:Bool)(q:Int×Int)(ps:gX):inR neg (pD q) (.tup (ps.map pD))= .ok (.bl (if neg then !decide (q∈ps)else decide (q∈ps))):=by
 obtain⟨h1,h2⟩:=aA5 ps;have e:inD (pD q) (ps.map pD)=decide (q∈ps):=by
  unfold inD;rw[zBI];simp only[zIm,zCG,zH3,decide_eq_true_eq];constructor
  .rintro⟨p,hp,h⟩
   simp[pD,eqD,jU]at h
   have:p=q:=zFh h.1 h.2
   exact this▸hp
  .intro h
   exact⟨q,h,by simp[pD,eqD,jU]⟩
 unfold inR;dsimp only;have h3:decide (dC (ps.map pD)<=60)=true:=by simp;lia
 have h4:bC (pD q)=true:=rfl;rw[h2,e,h3,h4];rfl
theorem aFk:∀(ds:List D),(∀d∈ds,∃ρ1,fg d ρ= .ok ρ1/\fe ρ1= .ok (g d))->lcL ρ fg ju fe ds= .ok (ds.map g)
 |[],_=>rfl
 |d::ds,h=>by
  obtain⟨ρ1,e1,e2⟩:=h d zAH;have ih:=aFk ds λ e he=>h e (zAF _ he)
  unfold lcL;rw[e1,aZ,aJu,aZ,if_pos rfl,e2,aZ,ih,aZ];rfl
def u9(f:α->Bool)(l:List α):boolsOf (l.map λ x=>D.bl (f x))=some (l.map f):=by
 have:=wK (l.map f)
 rwa [zAi]at this
def aD8(f:α->Bool)(l:List α):qj (λ bs=>bs.all id) [.lst (l.map λ x=>D.bl (f x))]= .ok (.bl (l.all f)):=by
 unfold qj;dsimp only;rw[u9];dsimp only;rw[zGk];rfl
theorem lO:∀(l:List α),(∀x∈l,∃ρ1,fg (f x) ρ= .ok ρ1/\ft ρ1= .ok (t x)/\fe ρ1= .ok (g x))->lcL ρ fg ft fe (l.map f)= .ok ((l.filter t).map g)
 |[],_=>rfl
 |x::l,h=>by
  obtain⟨ρ1,e1,e2,e3⟩:=h x zAH;have ih:=lO l λ y hy=>h y (zAF _ hy)
  rw[zAM];unfold lcL;rw[e1,aZ,e2,aZ,e3,aZ,ih,aZ,zBP];cases t x<;>rfl
theorem aIh{ρ:En}:∀(ps:gX),lcL [.no,.no] (fD 2 (aa (gnm 0) (aa (gnm 1) fP))) ju (op2 ltD (aD 0) (aD 1)) (ps.map pD)= .ok (ps.map λ p=>.bl (decide (p.1<p.2)))
 |[]=>rfl
 |p::ps=>by
  unfold lcL;simp[pD,aIh (ρ:=ρ) ps]
def aD5{n:Int}(h:Ow n ps)(low:∀p∈ps,p.1<p.2):dH [.int n,.tup (ps.map pD)]= .ok (.bl true):=by
 have hl:=h.len;have e:=jg (m:=n) (d:=.tup (ps.map pD)) (by simpa[pln]using aF0 ps) (by simp[xX];lia);rw[h.rp]at e;have el:=aIh (ρ:=[]) ps;have ei:lcD (bu (aD 1)) [none,none] (fD 2 (aa (gnm 0) (aa (gnm 1) fP))) ju (op2 ltD (aD 0) (aD 1)) [.sh (.int n),.sh (.tup (ps.map pD))]= .ok (.lst (ps.map λ p=>.bl (decide (p.1<p.2)))):=by
  have hi:bu (aD 1) (shE [.sh (.int n),.sh (.tup (ps.map pD))])= .ok (ps.map pD):=by simp[shE,oW]
  unfold lcD;rw[hi,aZ,if_pos (by rw[szl,zAE];lia)]
  show(match lcL [.no,.no] _ ju _ (ps.map pD)with| .ok l=>Rs.ok (D.lst l)|_=>Rs.st)=_
  rw[el]
 have ha:opA (qj λ bs=>bs.all id) (aC (lcD (bu (aD 1)) [none,none] (fD 2 (aa (gnm 0) (aa (gnm 1) fP))) ju (op2 ltD (aD 0) (aD 1))) aJ) [.sh (.int n),.sh (.tup (ps.map pD))]= .ok (.bl true):=by
  rw[iG,bQ,ei,aZ,nq,aZ,aZ,aD8,dM];rw[zAr.mpr λ p hp=>decide_eq_true (low p hp)]
 have st:aj 2 [.int n,.tup (ps.map pD)]=[.sh (.int n),.sh (.tup (ps.map pD))]:=rfl;have ec:aP bT (aC (aD 0) (aC (aD 1) aJ)) [.sh (.int n),.sh (.tup (ps.map pD))]= .ok (.bl true):=by rw[nJ];exact e
 simp only[dH,gY,bA,st];rw[jM,xK,ec,ha];rfl
def aGq(h:Ow n ps)(low:∀p∈ps,p.1<p.2):ul [owD n ps]= .ok (.bl true):=by
 have e1:=aEb (d:=.int n) rfl;have e2:=aD5 h low;have e3:aFe (.int n)=true:=by simp[aFe,h.n0,h.n1]
 rw[e3]at e1;simp[ul,nF,owD,aj,e1,e2]
def mn(a b:Int):Int:=if b<a then b else a
def mx(a b:Int):Int:=if b>a then b else a
def mnmx_in(h1:0<=a)(h2:a<n)(h3:0<=b)(h4:b<n)(ne:a≠b):0<=mn a b/\mn a b<mx a b/\mx a b<n:=by
 by_cases h:b<a
 .rw[mn,mx,if_pos h,if_neg (by lia)]
  exact⟨h3,h,h2⟩
 .rw[mn,mx,if_neg h,if_pos (by lia)]
  exact⟨h1,by lia,h4⟩
def aKz(a b:Int):(mn a b=a/\mx a b=b)\/(mn a b=b/\mx a b=a):=by
 by_cases h:b<a
 .rw[mn,mx,if_pos h,if_neg (by lia)]
  exact .inr ⟨rfl,rfl⟩
 .rw[mn,mx,if_neg h]
  by_cases h2:b>a
  .rw[if_pos h2];exact .inl ⟨rfl,rfl⟩
  .rw[if_neg h2];exact .inl ⟨rfl,by lia⟩
def intOf:D->Int
 | .int i=>i
 |_=>0
def ik(h1:fi (shE ρ)= .ok ds)(h2:ds.length<16777216)(h3:lcL (stE js (shE ρ)) fg ft fe ds= .ok out):lcD fi js fg ft fe ρ= .ok (.lst out):=by
 unfold lcD;rw[h1,aZ,if_pos (by rw[szl];exact h2),h3]
def sS(l:List α)(h:∀x∈l,∃ρ1,fg (f x) ρ= .ok ρ1/\fe ρ1= .ok (g x)):lcL ρ fg ju fe (l.map f)= .ok (l.map g):=by
 have:=lO (ρ:=ρ) (fg:=fg) (ft:=ju) (fe:=fe) (f:=f) (g:=g) (t:=λ _=>true) l λ x hx=>by
  obtain⟨ρ1,h1,h2⟩:=h x hx;exact⟨ρ1,h1,rfl,h2⟩
 rwa [zDh.mpr λ _ _=>rfl]at this
def aJh{α:Type}{f:α->Bool}{l:List α}(h:fe ρ= .ok (.lst (l.map λ x=>.bl (f x)))):opA (qj λ bs=>bs.all id) (aC fe aJ) ρ= .ok (.bl (l.all f)):=by
 rw[iG,bQ,h,aZ,nq,aZ,aZ,aD8,dM]
def aDK(neg:Bool)(y:Int)(ns:List Int):inR neg (.int y) (.tup (ns.map .int))= .ok (.bl (if neg then !decide (y∈ns)else decide (y∈ns))):=uH neg y ns
def cG(ll:eB)(p:Int×Int):eB:=ll.set p.1.toNat (ll.getD p.1.toNat []++[.int p.2])
theorem vR:∀(ps:gX) (ll:eB),(ps.foldl cG ll).length=ll.length
 |[],_=>rfl
 |p::ps,ll=>by rw[zCT,vR ps];unfold cG;rw[zBD]
def jR(ps:gX)(i:Int):List Int:=(ps.filter λ p=>p.1==i).map (·.2)
theorem aAX:∀(ps:gX) (ll:eB) (i:Nat),(∀p∈ps,0<=p.1/\p.1<ll.length)->i<ll.length->(ps.foldl cG ll).getD i []=ll.getD i []++(jR ps i).map .int
 |[],ll,i,_,_=>by simp[jR]
 |p::ps,ll,i,h,hi=>by
  obtain⟨h0,h1⟩:=h p zAH;rw[zCT,aAX ps (cG ll p) i (λ q hq=>by unfold cG;rw[zBD];exact h q (zAF _ hq)) (by unfold cG;rw[zBD];exact hi)];unfold cG jR;by_cases c:p.1=i
  .have hk:p.1.toNat=i:=by lia
   rw[hk,List.filter_cons_of_pos (by simpa using c)];simp[hi]
  .have hk:p.1.toNat≠i:=by lia
   rw[List.filter_cons_of_neg (by simpa using c)];simp[zBG hk]
def wy:b∈jR ps a↔(a,b)∈ps:=by
 unfold jR;simp only[zAS,zAa];constructor
 .rintro⟨p,⟨h1,h2⟩,rfl⟩
  have:p.1=a:=by simpa using h2
  rw[<-this];exact h1
 .intro h
  exact⟨(a,b),⟨h,by simp⟩,rfl⟩
def dbl(ps:gX):gX:=ps.flatMap λ p=>[p,(p.2,p.1)]
def b8:(a,b)∈dbl ps↔(a,b)∈ps\/(b,a)∈ps:=by
 unfold dbl;simp only[zET,zAL,zAf,or_false];constructor
 .rintro⟨p,hp,h|h⟩
  .rw[h];exact .inl hp
  .cases h;exact .inr hp
 .rintro(h|h)
  .exact⟨_,h,.inl rfl⟩
  .exact⟨_,h,.inr rfl⟩
def zO(p:Int×Int)(ps:gX):dbl (p::ps)=p::(p.2,p.1)::dbl ps:=rfl
def aBm(hi:ρ[i]? =some (.o2 ll))(hf:f ρ= .ok (.int a))(hg:g ρ= .ok (.int b))(h0:0<=a)(h1:a<ll.length)(hz:(ll.getD a.toNat []).length<16777216):
  qI i f g ρ= .nx (ρ.set i (.o2 (cG ll (a,b)))):=by
 have hk:a.toNat<ll.length:=by lia
 have ha:at2 ll (.int a)=some (a.toNat,ll.getD a.toNat []):=by
  have hx:ixN ll.length a=some a.toNat:=by
   unfold ixN;rw[if_pos (by lia),if_pos (by lia)]
  simp only[at2,hx,zHQ];rw[zAD hk];simp[hk]
 unfold qI;rw[hi];dsimp only;rw[hf,bF,ha];dsimp only;rw[hg,bF,if_pos (by rw[zBz];exact hz)];rfl
def tH(ll:eB)(p:Int×Int):(cG ll p).length=ll.length:=by unfold cG;rw[zBD]
def aFD(h:∀l∈ll,l.length<=m):∀l∈cG ll p,l.length<=m+1:=by
 intro l hl;unfold cG at hl;rcases List.mem_or_eq_of_mem_set hl with z|z
 .exact Nat.le_succ_of_le (h l z)
 .subst z
  rw[zA0,zBE]
  have:(ll.getD p.1.toNat []).length<=m:=by
   by_cases hk:p.1.toNat<ll.length
   .exact h _ (by simp[hk])
   .simp[zE2 (zEW hk)]
  lia
def aGB{ll:eB}(h:∀l∈ll,l.length<=m)(k:Nat):(ll.getD k []).length<=m:=by
 by_cases hk:k<ll.length
 .exact h _ (by simp[hk])
 .simp[zE2 (zEW hk)]
def atB:En->Ou:=aY (qI 3 (aD 4) (bH (aD 5))) (qI 3 (aD 5) (bH (aD 4)))
theorem aAG{w s1 s2:Slot}:∀(ps:gX) (ll:eB) (s4 s5:Slot),(∀p∈ps,0<=p.1/\p.1<ll.length/\0<=p.2/\p.2<ll.length)->(∀l∈ll,l.length+2*ps.length<=10000)->
  ∃s4' s5',forL (fD 2 (aa (gnm 4) (aa (gnm 5) fP))) atB (ps.map pD) [w,s1,s2,.o2 ll,s4,s5]= .nx [w,s1,s2,.o2 ((dbl ps).foldl cG ll),s4',s5']
 |[],ll,s4,s5,_,_=>⟨s4,s5,rfl⟩
 |p::ps,ll,s4,s5,h,hl=>by
  obtain⟨a0,a1,b0,b1⟩:=h p zAH;have hb0:∀l∈ll,l.length<=10000-2*(ps.length+1):=λ l hm=>by
   have:=hl l hm
   rw[zA6]at this;lia
  have hb1:=aFD (p:=p) hb0;have hb2:=aFD (p:=(p.2,p.1)) hb1;by_cases hne:ll=[]
  .subst hne
   simp at a1;lia
  have hbig:2*(ps.length+1)<=10000:=by
   obtain⟨l,hm⟩:=List.exists_mem_of_ne_nil ll hne
   have:=hl l hm
   rw[zA6]at this;lia
  obtain⟨s4',s5',e⟩:=aAG (w:=w) (s1:=s1) (s2:=s2) ps (cG (cG ll p) (p.2,p.1)) (.sh (.int p.1)) (.sh (.int p.2)) (λ q hq=>by rw[tH,tH];exact h q (zAF _ hq)) (λ l hm=>by have:=hb2 l hm;lia);refine⟨s4',s5',?_⟩;rw[zAM,cC,zO,zCT,zCT];have hg:okE (fD 2 (aa (gnm 4) (aa (gnm 5) fP)) (pD p) [w,s1,s2,.o2 ll,s4,s5]) (λ ρ1=>(atB ρ1).tn (forL (fD 2 (aa (gnm 4) (aa (gnm 5) fP))) atB (ps.map pD)))=
    (atB [w,s1,s2,.o2 ll,.sh (.int p.1),.sh (.int p.2)]).tn (forL (fD 2 (aa (gnm 4) (aa (gnm 5) fP))) atB (ps.map pD)):=by
   simp[pD]
  have c1:qI 3 (aD 4) (bH (aD 5)) [w,s1,s2,.o2 ll,.sh (.int p.1),.sh (.int p.2)]= .nx [w,s1,s2,.o2 (cG ll p),.sh (.int p.1),.sh (.int p.2)]:=
   aBm (a:=p.1) (b:=p.2) rfl (by simp) (by simp) a0 a1 (by have:=aGB hb0 p.1.toNat;lia)
  have c2:qI 3 (aD 5) (bH (aD 4)) [w,s1,s2,.o2 (cG ll p),.sh (.int p.1),.sh (.int p.2)]= .nx [w,s1,s2,.o2 (cG (cG ll p) (p.2,p.1)),.sh (.int p.1),.sh (.int p.2)]:=
   aBm (a:=p.2) (b:=p.1) rfl (by simp) (by simp) b0 (by rw[tH];exact b1) (by have:=aGB hb1 p.2.toNat;lia)
  have hc:atB [w,s1,s2,.o2 ll,.sh (.int p.1),.sh (.int p.2)]= .nx [w,s1,s2,.o2 (cG (cG ll p) (p.2,p.1)),.sh (.int p.1),.sh (.int p.2)]:=by
   unfold atB;rw[aK,c1,aU,c2]
  rw[hg,hc,lH];exact e
structure aLt(n:Int)(es:gX)(ll:eB):Prop where
 len:ll.length=n.toNat
 item:∀i:Int,0<=i->i<n->∃ws:List Int,atD (ll.map .lst) i= .ok (.lst (ws.map .int))/\∀b,b∈ws↔(i,b)∈es
def oH(h:Ow n ps):∃ll,cW [owD n ps]= .ok (.lst (ll.map .lst))/\aLt n (dbl ps) ll/\∀i:Int,0<=i->i<n->atD (ll.map .lst) i= .ok (.lst ((jR (dbl ps) i).map .int)):=by
 have hn0:=h.n0;have hn1:=h.n1;have hr:=jh (j:=n) (by lia) (by lia);have kQ:(bN 0 n).length=n.toNat:=by rw[gD];lia
 have hps:=h.len;have hin:∀p∈ps,0<=p.1/\p.1<(zAW n.toNat ([]:List D)).length/\0<=p.2/\p.2<(zAW n.toNat ([]:List D)).length:=λ p hp=>by
  obtain⟨a,b,c,d,_⟩:=h.pr p hp;rw[zCe];lia
 have dQ:∀p∈dbl ps,0<=p.1/\p.1<(zAW n.toNat ([]:List D)).length:=λ p hp=>by
  rcases b8.mp (show(p.1,p.2)∈dbl ps from hp)with z|z
  .have:=hin _ z;exact⟨this.1,this.2.1⟩
  .have:=hin _ z;exact⟨this.2.2.1,this.2.2.2⟩
 obtain⟨s4,s5,e⟩:=aAG (w:=.sh (owD n ps)) (s1:=.sh (.int n)) (s2:=.sh (.tup (ps.map pD))) ps (zAW n.toNat []) .no .no hin (λ l hl=>by
  rw[(List.mem_replicate.mp hl).2];simp;lia)
 have item:∀i:Int,0<=i->i<n->atD (((dbl ps).foldl cG (zAW n.toNat [])).map .lst) i= .ok (.lst ((jR (dbl ps) i).map .int)):=by
  intro i h0 h1;have hk:i.toNat<(zAW n.toNat ([]:List D)).length:=by rw[zCe];lia
  have hg:=aAX (dbl ps) (zAW n.toNat []) i.toNat dQ hk;have hk2:i.toNat<((dbl ps).foldl cG (zAW n.toNat [])).length:=by rw[vR];exact hk
  have hi:((i.toNat:Nat):Int)=i:=zDA h0;rw[hi]at hg;rw[<-hi];refine fW ?_;rw[hi,zA2,zAD hk2]
  have:((dbl ps).foldl cG (zAW n.toNat []))[i.toNat]=(jR (dbl ps) i).map .int:=by
   have e1:((dbl ps).foldl cG (zAW n.toNat [])).getD i.toNat []=((dbl ps).foldl cG (zAW n.toNat []))[i.toNat]:=by simp[hk2]
   rw[<-e1,hg];have e2:(zAW n.toNat ([]:List D)).getD i.toNat []=[]:=by
    rw[zA3,zC4];split<;>rfl
   rw[e2,zCC]
  rw[this];rfl
 refine⟨(dbl ps).foldl cG (zAW n.toNat []),?_,⟨by rw[vR,zCe],λ i h0 h1=>⟨jR (dbl ps) i,item i h0 h1,λ b=>wy⟩⟩,item⟩
 .have hz:n.toNat<16777216:=by lia
  have a0:aAB (aD 0) (fD 2 (aa (gnm 1) (aa (gnm 2) fP))) [.sh (owD n ps),.no,.no,.no,.no,.no]= .nx [.sh (owD n ps),.sh (.int n),.sh (.tup (ps.map pD)),.no,.no,.no]:=by
   simp[owD]
  have a1:llS 3 (ig kW (aC (aD 1) aJ)) [none] (gnm 0) [.sh (owD n ps),.sh (.int n),.sh (.tup (ps.map pD)),.no,.no,.no]= .nx [.sh (owD n ps),.sh (.int n),.sh (.tup (ps.map pD)),.o2 (zAW n.toNat []),.no,.no]:=by
   unfold llS;simp[shE,oW,hr,kQ,hz]
  have a2:gB (bu (aD 2)) (fD 2 (aa (gnm 4) (aa (gnm 5) fP))) atB [.sh (owD n ps),.sh (.int n),.sh (.tup (ps.map pD)),.o2 (zAW n.toNat []),.no,.no]= .nx [.sh (owD n ps),.sh (.int n),.sh (.tup (ps.map pD)),.o2 ((dbl ps).foldl cG (zAW n.toNat [])),s4,s5]:=by
   have hi:bu (aD 2) [.sh (owD n ps),.sh (.int n),.sh (.tup (ps.map pD)),.o2 (zAW n.toNat []),.no,.no]= .ok (ps.map pD):=by simp
   rw[cM,hi,bF];exact e
  have a3:retS (wL 3) [.sh (owD n ps),.sh (.int n),.sh (.tup (ps.map pD)),.o2 ((dbl ps).foldl cG (zAW n.toNat [])),s4,s5]= .rt (.lst (((dbl ps).foldl cG (zAW n.toNat [])).map .lst)):=by simp
  have st:aj 6 [owD n ps]=[.sh (owD n ps),.no,.no,.no,.no,.no]:=rfl;have df:jF=aY (aAB (aD 0) (fD 2 (aa (gnm 1) (aa (gnm 2) fP)))) (aY (llS 3 (ig kW (aC (aD 1) aJ)) [none] (gnm 0)) (aY (gB (bu (aD 2)) (fD 2 (aa (gnm 4) (aa (gnm 5) fP))) atB) (retS (wL 3)))):=rfl;simp only[cW,df,bA,st];rw[aK,a0,aU,aK,a1,aU,aK,a2,aU,a3]
def aD7(h:Ow n ps):∃ll,cW [owD n ps]= .ok (.lst (ll.map .lst))/\aLt n (dbl ps) ll:=let⟨ll,a,b,_⟩:=oH h;⟨ll,a,b⟩
def b7(ps:gX):List Int->Bool
 |a::b::r=>decide ((a,b)∈ps)&&b7 ps (b::r)
 |_=>true
theorem jt:∀{ws:List Int},b7 ps ws=true↔∀(i:Nat) (a b:Int),ws[i]? =some a->ws[i+1]? =some b->(a,b)∈ps
 |[]=>by simp[b7]
 |[x]=>by
  simp only[b7,true_iff];intro i p q _ h2;simp at h2
 |x::y::r=>by
  have ih:=jt (ps:=ps) (ws:=y::r);unfold b7;rw[zAN,ih,decide_eq_true_eq];constructor
  .rintro⟨h1,h2⟩ i p q e1 e2
   cases i with
   |zero=>simp at e1 e2;subst e1 e2;exact h1
   |succ i=>exact h2 i p q (by simpa using e1) (by simpa using e2)
  .intro h
   exact⟨h 0 x y rfl rfl,λ i p q e1 e2=>h (i+1) p q (by simpa using e1) (by simpa using e2)⟩
def sJ(n:Int)(ps:gX):D->Bool
 | .tup ts=>!ts.isEmpty&&ts.all (bJ n)&&decide ((ddI (ts.map intOf)).length=ts.length)&&b7 ps (ts.map intOf)
 |_=>false
theorem ni:∀{ts:List D},ts.all (bJ n)=true->(ts.map intOf).map D.int=ts/\∀x∈ts.map intOf,0<=x/\x<n
 |[],_=>⟨rfl,λ x hx=>by simp at hx⟩
 |t::ts,h=>by
  rw[zDH,zAN]at h;obtain⟨i,rfl,h0,h1⟩:=qM h.1;obtain⟨e,q⟩:=ni h.2;refine⟨by simp only[zAM];rw[e];rfl,λ x hx=>?_⟩;rw[zAM]at hx;rcases zAL.mp hx with z|z
  .subst z;exact⟨h0,h1⟩
  .exact q x z
@[simp] def aHh(h:ns.length<4000):aDr [.tup (ns.map .int)]= .ok (.set (ddI ns)):=by
 unfold aDr;dsimp only;rw[dq];dsimp only;rw[if_pos h]
@[simp] def lenX_set:aE1 [.set l]= .ok (.int l.length):=aO rfl
def aKI:D->Bool
 | .tup l=>decide (l.length<4000)
 |_=>true
theorem vQ{α:Type}{f:α->D}{a:D->En->Rs En}{u:En->Ou}{r:D}{I:En->Prop}{P:α->Bool}:∀(xs:List α) (ρ:En),I ρ->
  (∀x∈xs,∀ρ,I ρ->(P x=true/\∃ρ',okE (a (f x) ρ) u= .nx ρ'/\I ρ')\/(P x=false/\okE (a (f x) ρ) u= .rt r))->
  (xs.all P=true/\∃ρ',forL a u (xs.map f) ρ= .nx ρ'/\I ρ')\/(xs.all P=false/\forL a u (xs.map f) ρ= .rt r)
 |[],ρ,h,_=>.inl ⟨rfl,ρ,rfl,h⟩
 |x::xs,ρ,h,H=>by
  rw[zAM,cC,zDH];have tnE:∀(r':Rs En) (k:En->Ou),okE r' (λ ρ1=>(u ρ1).tn k)=(okE r' u).tn k:=λ r' k=>by cases r'<;>rfl
  rw[tnE];rcases H x zAH ρ h with ⟨p,ρ',e,hI⟩|⟨p,e⟩
  .rw[e,lH,p,zCl]
   exact vQ xs ρ' hI λ y hy=>H y (zAF _ hy)
  .rw[e,aLx,p]
   exact .inr ⟨rfl,rfl⟩
def aDM{a:D->En->Rs En}{u:En->Ou}{r:D}{I:En->Prop}{P:D->Bool}(xs:List D)(ρ:En)(h:I ρ)
  (H:∀x∈xs,∀ρ,I ρ->(P x=true/\∃ρ',okE (a x ρ) u= .nx ρ'/\I ρ')\/(P x=false/\okE (a x ρ) u= .rt r)):
  (xs.all P=true/\∃ρ',forL a u xs ρ= .nx ρ'/\I ρ')\/(xs.all P=false/\forL a u xs ρ= .rt r):=by
 have:=vQ (f:=id) (a:=a) (u:=u) (r:=r) (P:=P) xs ρ h H
 rwa [zEs]at this
def aHA{l:List D}{k:Nat}(h:k<=l.length):cutD l (some (k:Int)) none=l.drop k:=by
 have e1:HT.sIx l.length 0 (some (k:Int))=k:=by simp[HT.sIx];lia
 have e2:HT.sIx l.length l.length none=l.length:=rfl;unfold cutD;rw[e1,e2,zCD (by rw[zF5];exact zAT _)]
def aLb{l:List D}{k:Nat}(h:k<=l.length):cutD l none (some (k:Int))=l.take k:=by
 have e1:HT.sIx l.length l.length (some (k:Int))=k:=by simp[HT.sIx];lia
 have e2:HT.sIx l.length 0 none=0:=rfl;unfold cutD;rw[e1,e2,zEh,zF8]
theorem aB6{a:D->En->Rs En}{u:En->Ou}{I:En->Prop}:∀(ds:List D) (ρ:En),I ρ->(∀d∈ds,∀ρ,I ρ->∃ρ',okE (a d ρ) u= .nx ρ'/\I ρ')->∃ρ',forL a u ds ρ= .nx ρ'/\I ρ'
 |[],ρ,h,_=>⟨ρ,rfl,h⟩
 |d::ds,ρ,h,H=>by
  rw[cC];have tnE:∀(r':Rs En) (k:En->Ou),okE r' (λ ρ1=>(u ρ1).tn k)=(okE r' u).tn k:=λ r' k=>by cases r'<;>rfl
  rw[tnE];obtain⟨ρ',e,hI⟩:=H d zAH ρ h;rw[e,lH];exact aB6 ds ρ' hI λ y hy=>H y (zAF _ hy)
theorem yF:∀ws:List Int,qd (ws.map .int)=true
 |[]=>rfl
 |_::ws=>by simp only[zAM,qd,yF ws,pln];rfl
theorem aB0:∀{l:List D},(∀d∈l,imm d=true)->pW l=true
 |[],_=>rfl
 |x::r,h=>by
  simp only[pW,zAN];exact⟨h x (zAH ..),aB0 λ d hd=>h d (zAF _ hd)⟩
theorem zN:∀{l:List D},(∀d∈l,lB d<=k)->dC l<=k
 |[],_=>zAj _
 |x::r,h=>by
  unfold dC;exact Nat.max_le.mpr ⟨h x zAH,zN λ d hd=>h d (zAF _ hd)⟩
theorem vK:∀{l:List D},(∀d∈l,bC d=true)->bD l=true
 |[],_=>rfl
 |x::r,h=>by
  unfold bD;rw[h x zAH,vK λ d hd=>h d (zAF _ hd)];rfl
structure El(k:Nat)(d:D):Prop where
 p:pln d=true
 e:lB d<=k
 n:bC d=true
 i:imm d=true
theorem El.tup(h:∀d∈l,El k d):El (k+1) (.tup l):=⟨by unfold pln;exact tY λ d hd=>(h d hd).p,by unfold lB;exact Nat.succ_le_succ (zN λ d hd=>(h d hd).e),by unfold bC;exact vK λ d hd=>(h d hd).n,by unfold imm;exact aB0 λ d hd=>(h d hd).i⟩
theorem El.int{k:Nat}{i:Int}:El k (.int i):=⟨rfl,zAj _,rfl,rfl⟩
def El.ints{k:Nat}{ws:List Int}:∀d∈ws.map D.int,El k d:=λ d hd=>by obtain⟨w,_,rfl⟩:=zAS.mp hd;exact .int
def El.g(h:El k d):uK d= .ok d:=aGC h.i
def aLk(h:l≠[]):atD l (-1)= .ok (l.getLast h):=by
 have hk:0<l.length:=zEq.mpr h;unfold atD atI ixN;rw[if_neg (by decide),if_pos (by lia)];have e:((-1:Int)+(l.length:Int)).toNat=l.length-1:=by lia
 rw[e,List.getLast_eq_getElem];simp[zAD (show l.length-1<l.length by lia)]
def aD4(h:ws≠[]):atD (ws.map .int) (-1)= .ok (.int (ws.getLast h)):=by
 rw[aLk (by simpa using h),List.getLast_map]
structure Fn4(d:D):Prop where
 p:pln d=true
 s:aKI d=true
 e:lB d<=60
 n:bC d=true
def El.fn(h:∀d∈l,El k d)(hk:k<60)(hl:l.length<4000):Fn4 (.tup l):=let q:=El.tup h;⟨q.p,by simpa[aKI]using hl,zAn q.e hk,q.n⟩
theorem vZ:∀ws:List Int,b7 es ws=(ws.zip (ws.drop 1)).all λ p=>decide (p∈es)
 |[]=>rfl
 |[_]=>rfl
 |a::b::r=>by
  have ih:=vZ (es:=es) (b::r);unfold b7;rw[ih];rfl
def aJ3(low:∀p∈ps,p.1<p.2):(a,b)∈dbl ps↔(mn a b,mx a b)∈ps:=by
 rw[b8];constructor
 .rintro(h|h)
  .have:=low _ h
   have e1:mn a b=a:=by unfold mn;rw[if_neg (by simp at this;lia)]
   have e2:mx a b=b:=by unfold mx;rw[if_pos (by simp at this;lia)]
   rw[e1,e2];exact h
  .have:=low _ h
   have e1:mn a b=b:=by unfold mn;rw[if_pos (by simp at this;lia)]
   have e2:mx a b=a:=by unfold mx;rw[if_neg (by simp at this;lia)]
   rw[e1,e2];exact h
 .intro h
  rcases aKz a b with ⟨e1,e2⟩|⟨e1,e2⟩
  .rw[e1,e2]at h;exact .inl h
  .rw[e1,e2]at h;exact .inr h
def aNd{s:Slot}{w:D}(hk:knd d=true):lgB [.sh (.tup [.int n,w]),s,.sh d,.no,.no]=if bJ n d=true then .nx [.sh (.tup [.int n,w]),s,.sh d,.no,.no]else .rt (.bl false):=by
 unfold lgB;cases d with
 |int i=>
  by_cases h1:0<=i<;>by_cases h2:i<n<;>simp[bJ,h1,h2]
 |bl b=>simp[bJ,qQ (d:=.bl b) rfl,yc]
 |scr x=>cases hk
 |set x=>cases hk
 |fn x=>cases hk
 |_=>simp[bJ,qQ hk,yc]
def aDA(h:Ow n ps)(low:∀p∈ps,p.1<p.2)(hp:pln d=true)(hs:aKI d=true)(h1:lB d<=60)(h2:bC d=true):oK [owD n ps,d]= .ok (.bl (sJ n (dbl ps) d)):=by
 have st:aj 5 [owD n ps,d]=[.sh (owD n ps),.sh d,.no,.no,.no]:=rfl;simp only[oK,jC,bA,st];cases ht:mL d with
 |false=>
  have b1:lgA [.sh (owD n ps),.sh d,.no,.no,.no]= .rt (.bl false):=by simp[lgA,il (iD hp),ht]
  have e:sJ n (dbl ps) d=false:=by cases d<;>first|rfl|(cases ht)
  rw[aK,b1,e];rfl
 |true=>
  obtain⟨ts,rfl⟩:=tG ht;have hp':qd ts=true:=by simpa[pln]using hp
  have hl:ts.length<4000:=by simpa[aKI]using hs
  have hq:eqR false (.tup ts) (.tup [])= .ok (.bl ts.isEmpty):=by
   unfold eqR;have e0:bC (.tup [])=true:=rfl;rw[if_pos (by rw[h2,e0,decide_eq_true h1];rfl)];cases ts<;>rfl
  cases hne:ts.isEmpty with
  |true=>
   have b1:lgA [.sh (owD n ps),.sh (.tup ts),.no,.no,.no]= .rt (.bl false):=by simp[lgA,hq,hne]
   rw[aK,b1];simp[sJ,hne]
  |false=>
   have b1:lgA [.sh (owD n ps),.sh (.tup ts),.no,.no,.no]= .nx [.sh (owD n ps),.sh (.tup ts),.no,.no,.no]:=by simp[lgA,hq,hne]
   rw[aK,b1,aU,aK];have hi:bu (aD 1) [.sh (owD n ps),.sh (.tup ts),.no,.no,.no]= .ok ts:=by simp
   rw[cM,hi,bF];rcases aDM (a:=gnm 2) (u:=lgB) (r:=.bl false) (P:=bJ n) (I:=λ ρ=>∃s,ρ=[.sh (owD n ps),.sh (.tup ts),s,.no,.no]) ts [.sh (owD n ps),.sh (.tup ts),.no,.no,.no] ⟨_,rfl⟩ (by
     rintro x hx ρ ⟨s,rfl⟩;have e:=aNd (n:=n) (d:=x) (s:=.sh (.tup ts)) (w:=.tup (ps.map pD)) (iD (pL hp' hx));rw[sU,mJ];cases c:bJ n x with
     |true=>rw[c,if_pos rfl]at e;exact .inl ⟨rfl,_,e,_,rfl⟩
     |false=>rw[c,if_neg (by simp)]at e;exact .inr ⟨rfl,e⟩)with ⟨kX,ρ',e,s,rfl⟩|⟨kX,e⟩
   .rw[e,aU]
    obtain⟨ei,hin⟩:=ni kX;have hwl:(ts.map intOf).length=ts.length:=zAE _;have hset:aDr [.tup ts]= .ok (.set (ddI (ts.map intOf))):=by
     have:=aHh (ns:=ts.map intOf) (by lia)
     rwa [ei]at this
    by_cases hdd:(ddI (ts.map intOf)).length=ts.length
    .have b3:lgC [.sh (owD n ps),.sh (.tup ts),s,.no,.no]= .nx [.sh (owD n ps),.sh (.tup ts),s,.no,.no]:=by simp[lgC,hset,hdd]
     rw[aK,b3,aU,aK];have hz:lgZ [.sh (owD n ps),.sh (.tup ts),s,.no,.no]= .ok (((ts.map intOf).zip ((ts.map intOf).drop 1)).map pD):=by
      have hc:cutD ts (some 1) none=ts.drop 1:=aHA (k:=1) (by cases ts with
       |nil=>cases hne
       |cons _ _=>simp)
      have e1:aDe ts (ts.drop 1)=((ts.map intOf).zip ((ts.map intOf).drop 1)).map pD:=by
       have e2:ts=(ts.map intOf).map D.int:=ei.symm;generalize ts.map intOf=ws at e2;subst e2;unfold aDe;rw[<-List.map_drop,List.zip_map,zAi];rfl
      simp[lgZ,hc,aJt,e1,-List.drop_one]
     rw[cM,hz,bF];rcases vQ (f:=pD) (a:=fD 2 (aa (gnm 3) (aa (gnm 4) fP))) (u:=lgD) (r:=.bl false) (P:=λ p=>decide (p∈dbl ps)) (I:=λ ρ=>∃s3 s4,ρ=[.sh (owD n ps),.sh (.tup ts),s,s3,s4]) ((ts.map intOf).zip ((ts.map intOf).drop 1)) [.sh (owD n ps),.sh (.tup ts),s,.no,.no] ⟨_,_,rfl⟩ (by
       rintro⟨a,b⟩ hx ρ ⟨s3,s4,rfl⟩;have g:okE (fD 2 (aa (gnm 3) (aa (gnm 4) fP)) (pD (a,b)) [.sh (owD n ps),.sh (.tup ts),s,s3,s4]) lgD=lgD [.sh (owD n ps),.sh (.tup ts),s,.sh (.int a),.sh (.int b)]:=by simp[pD]
       have hc:inR true (.tup [.int (mn a b),.int (mx a b)]) (.tup (ps.map pD))= .ok (.bl (!decide ((mn a b,mx a b)∈ps))):=aIw true (mn a b,mx a b) ps;have e:lgD [.sh (owD n ps),.sh (.tup ts),s,.sh (.int a),.sh (.int b)]=if decide ((mn a b,mx a b)∈ps)=true then .nx [.sh (owD n ps),.sh (.tup ts),s,.sh (.int a),.sh (.int b)]else .rt (.bl false):=by
        unfold lgD;unfold mn mx at hc ⊢;simp only[gt_iff_lt]at hc ⊢;simp[owD,hc]
       have e2:decide ((a,b)∈dbl ps)=decide ((mn a b,mx a b)∈ps):=by rw[zBI,decide_eq_true_eq,decide_eq_true_eq];exact aJ3 low
       rw[g,e,e2];cases c:decide ((mn a b,mx a b)∈ps)with
       |true=>exact .inl ⟨rfl,_,rfl,_,_,rfl⟩
       |false=>exact .inr ⟨rfl,rfl⟩)with ⟨hz2,ρ',e2,s3,s4,rfl⟩|⟨hz2,e2⟩
     .rw[e2,aU]
      have:=vZ (es:=dbl ps) (ts.map intOf)
      rw[hz2]at this;simp[sJ,hne,kX,hdd,this]
     .rw[e2]
      have:=vZ (es:=dbl ps) (ts.map intOf)
      rw[hz2]at this;simp[sJ,this]
    .have b3:lgC [.sh (owD n ps),.sh (.tup ts),s,.no,.no]= .rt (.bl false):=by
      have hdi:¬((ddI (ts.map intOf)).length:Int)=(ts.length:Int):=by lia
      simp[lgC,hset,hdi]
     rw[aK,b3];simp[sJ,hdd]
   .rw[e]
    simp[sJ,kX]
theorem aIr{c:En->Rs Bool}{b:En->Ou}{I:Nat->En->Prop}(st:∀m ρ,I m ρ->c ρ= .ok false\/(c ρ= .ok true/\∃ρ' m',b ρ= .nx ρ'/\m'<m/\I m' ρ')):
  ∀(n m:Nat) (ρ:En),m<n->I m ρ->∃ρ' m',itW c b n ρ= .nx ρ'/\I m' ρ'/\c ρ'= .ok false
 |0,_,_,h,_=>absurd h (zE9 _)
 |n+1,m,ρ,h,hI=>by
  rcases st m ρ hI with e|⟨e,ρ',m',e2,hm,hI'⟩
  .exact⟨ρ,m,by unfold itW;rw[e];rfl,hI,e⟩
  .obtain⟨ρ2,m2,e3,r⟩:=aIr st n m' ρ' (by lia) hI'
   refine⟨ρ2,m2,?_,r⟩;unfold itW;rw[e,bF,if_pos rfl,e2];exact e3
def xN{c:En->Rs Bool}{b:En->Ou}(I:Nat->En->Prop)(st:∀m ρ,I m ρ->c ρ= .ok false\/(c ρ= .ok true/\∃ρ' m',b ρ= .nx ρ'/\m'<m/\I m' ρ')){m:Nat}{ρ:En}(hm:m<1000000)(h:I m ρ):
  ∃ρ' m',rB c b ρ= .nx ρ'/\I m' ρ'/\c ρ'= .ok false:=aIr st fuel m ρ hm h
def upI(n:Int):List Int:=(zAu n.toNat).map λ(k:Nat)=>(k:Int)
def vA(n:Int):bN 0 n=(upI n).map .int:=by
 unfold bN upI;rw[zAi,show(n-0).toNat=n.toNat by lia];exact zAw λ k _=>by simp
def jP(n:Int):(upI n).Nodup:=by
 unfold upI;rw[zAc,zB0];exact zHv.imp λ h e=>h (by lia)
def bI:x∈upI n↔0<=x/\x<n:=by
 unfold upI;rw[zAS];constructor
 .rintro⟨k,hk,rfl⟩
  have:=zCP.mp hk
  lia
 .rintro⟨h0,h1⟩
  exact⟨x.toNat,zCP.mpr (by lia),by lia⟩
def cF(n:Int):(upI n).length=n.toNat:=by unfold upI;simp
theorem sy:∀{ws:List Int} (h:ws≠[]),b7 es ws=true->(ws.getLast h,v)∈es->b7 es (ws++[v])=true
 |[a],_,_,h2=>by simpa[b7]using h2
 |a::b::r,_,h1,h2=>by
  simp only[b7,zAN,decide_eq_true_eq]at h1
  have:=sy (ws:=b::r) (by simp) h1.2 (by simpa using h2)
  rw[zB9,zB9,b7,zAN,decide_eq_true_eq];exact⟨h1.1,by simpa using this⟩
def aEH{left ws:List Int}(h1:left.Nodup)(h2:ws.Nodup)(h3:∀w∈ws,w∈left):(ws++left.filter λ x=>!decide (x∈ws)).Perm left:=by
 rw[zBc]
 .intro a
  rw[zAU,zAa];constructor
  .rintro(h|h)
   .exact h3 a h
   .exact h.1
  .intro h
   by_cases hw:a∈ws
   .exact .inl hw
   .exact .inr ⟨h,by simp[hw]⟩
 .rw[zAb]
  refine⟨h2,h1.filter _,λ a ha b hb e=>?_⟩;subst e
  have:=(zAa.mp hb).2
  simp[ha]at this
 .exact h1
def rowOf:D->List Int
 | .tup ts=>ts.map intOf
 |_=>[]
def aC3(n:Int)(l:List Int):Bool:=eqD (.lst ((sortI l).map .int)) (.lst (bN 0 n))
def uq(h:l.length<64):iU [.lst (l.map .int)]= .ok (.lst ((sortI l).map .int)):=by
 cases l with
 |nil=>rfl
 |cons i r=>
  have e:oY ((i::r).map D.int)=none:=rfl;unfold iU;dsimp only;rw[e];dsimp only;rw[dq];dsimp only;rw[if_pos h]
def aKt:eqR false (.lst ((sortI l).map .int)) (.lst (bN 0 n))= .ok (.bl (aC3 n l)):=by
 obtain⟨h1,h2⟩:=uU (sortI l);have h3:bD (bN 0 n)=true:=by rw[vB];exact(uU _).2
 unfold eqR aC3;simp[bC,lB,h1,h2,h3]
def aIc(hf:f ρ= .ok (.int n))(h0:0<=n)(h1:n<=60):lrD f ρ= .ok (.lst (bN 0 n)):=by
 unfold lrD;rw[hf,aZ];unfold lrR;simp;lia
theorem aA1:∀(a b:List Int),jU (a.map .int) (b.map .int)=decide (a=b)
 |[],[]=>rfl
 |[],y::b=>by simp[jU]
 |x::a,[]=>by simp[jU]
 |x::a,y::b=>by
  have:=aA1 a b
  simp only[zAM,jU,eqD,this,zEJ];by_cases h:x=y<;>simp[h]
def aHr{B:D->Bool}(hr:∀d,B d=true->tupI (rowOf d)=d){rs:List D}(h:rs.all B=true):(rs.map rowOf).map tupI=rs:=by
 rw[zAi]
 conv=>rhs;rw[<-zEs rs]
 refine zAw λ d hd=>hr d (zAr.mp h d hd)
def aLI(h:sJ n es (.tup ts)=true):tupI (rowOf (.tup ts))= .tup ts:=by
 simp only[sJ,zAN]at h;show D.tup ((ts.map intOf).map .int)=D.tup ts;rw[(ni h.1.1.2).1]
def aJQ:∀{l:gV},(∀r∈l,r≠[])->l.length<=l.flatten.length:=by
 intro l;induction l with
 |nil=>intro _;simp
 |cons a l ih=>
  intro h;have h1:0<a.length:=zEq.mpr (h a zAH)
  have:=ih λ x hx=>h x (zAF _ hx)
  rw[zBS,zA0,zA6];lia
def aGS(h:∀r∈f,r≠[])(hl:f.length<64):iU [.lst (f.map tupI)]= .ok (.lst ((o9 f).map tupI)):=by
 unfold iU;dsimp only;rw[rC h];dsimp only;rw[if_pos hl]
def yM{i j:Nat}{l m:List Int}(hf:f (shE ρ)= .ok (l.map .int))(hs:stE js (shE ρ)=[.no,.sh (.tup (m.map .int))]\/stE js (shE ρ)=[.no,.sh (.lst (m.map .int))])(hl:l.length<=1000):
  lcD f js (gnm 0) (tsb (op2 (inR true) (aD 0) (aD 1))) (bH (aD 0)) ρ= .ok (.lst ((l.filter λ x=>!decide (x∈m)).map .int)):=by
 refine ik hf (by rw[zAE];lia) ?_;rcases hs with hs|hs<;>rw[hs]
 .refine lO (fg:=gnm 0) (f:=D.int) (g:=D.int) (t:=λ x=>!decide (x∈m)) l λ x _=>⟨[.sh (.int x),.sh (.tup (m.map .int))],rfl,?_,by simp⟩
  have a2:aD 1 [.sh (.int x),.sh (.tup (m.map .int))]= .ok (.tup (m.map .int)):=rfl;have a3:aD 0 [.sh (.int x),.sh (.tup (m.map .int))]= .ok (.int x):=rfl;rw[rD,iH,a3,aZ,a2,aZ,aDK,dM,aZ];rfl
 .refine lO (fg:=gnm 0) (f:=D.int) (g:=D.int) (t:=λ x=>!decide (x∈m)) l λ x _=>⟨[.sh (.int x),.sh (.lst (m.map .int))],rfl,?_,by simp⟩
  have a2:aD 1 [.sh (.int x),.sh (.lst (m.map .int))]= .ok (.lst (m.map .int)):=rfl;have a3:aD 0 [.sh (.int x),.sh (.lst (m.map .int))]= .ok (.int x):=rfl;rw[rD,iH,a3,aZ,a2,aZ,uH,dM,aZ];rfl
def uV(h:Ow n ps)(low:∀p∈ps,p.1<p.2):dj [owD n ps]= .ok .non:=by
 have st:aj 1 [owD n ps]=[.sh (owD n ps)]:=rfl;simp only[dj,gn,bA,st];simp[aGq h low]
def aCm:D->Nat
 | .tup l=>l.length
 |_=>0
def aIg(d:D)(h:sJ n es d=true):tupI (rowOf d)=d:=by
 cases d with
 |tup ts=>exact aLI h
 |_=>cases h
theorem aGE:∀rs:List D,((rs.map rowOf).flatten).length<=(rs.map aCm).sum
 |[]=>zAT _
 |r::rs=>by
  have:=aGE rs
  have e:(rowOf r).length<=aCm r:=by cases r<;>simp[rowOf,aCm]
  simp only[zAM,zBS,zA0,zDJ];lia
def aAN(n:Int)(es:gX):D->Bool
 | .tup rs=>rs.all (sJ n es)&&aC3 n ((rs.map rowOf).flatten)
 |_=>false
structure Fi(d:D):Prop where
 p:pln d=true
 r:∀l,d= .tup l->∀e∈l,Fn4 e
 z:∀l,d= .tup l->(l.map aCm).sum<64/\l.length<4000
inductive Cn(es:gX)(a:Int):Int->Prop where
 |refl:Cn es a a
 |step {b c:Int} (h:Cn es a b) (e:(b,c)∈es):Cn es a c
def Cn.trans(h:Cn es a b)(k:Cn es b c):Cn es a c:=by
 induction k with
 |refl=>exact h
 |step _ e ih=>exact ih.step e
def Sym(es:gX):Prop:=∀a b,(a,b)∈es->(b,a)∈es
def gG(ps:gX):Sym (dbl ps):=λ a b h=>b8.mpr (b8.mp h).symm
def Cn.symm(S:Sym es)(h:Cn es a b):Cn es b a:=by
 induction h with
 |refl=>exact .refl
 |step _ e ih=>exact Cn.trans (.step .refl (S _ _ e)) ih
def Cn.inn(hin:∀x y,(x,y)∈es->0<=y/\y<n)(h:Cn es a b)(ha:0<=a/\a<n):0<=b/\b<n:=by
 induction h with
 |refl=>exact ha
 |step _ e _=>exact hin _ _ e
theorem aAd:∀{l m:List Int},b7 es (l++m)=true->b7 es l=true
 |[],_,_=>rfl
 |[a],_,_=>rfl
 |a::b::r,m,h=>by
  rw[zB9,zB9,b7,zAN]at h;rw[b7,zAN];exact⟨h.1,aAd (l:=b::r) (by simpa using h.2)⟩
structure aPG(es:gX)(a b:Int)(l:List Int):Prop where
 hd:l.head?=some a
 lt:l.getLast?=some b
 al:b7 es l=true
def Cn.path(h:Cn es a b):∃l,aPG es a b l/\l.Nodup:=by
 induction h with
 |refl=>exact⟨[a],⟨rfl,rfl,rfl⟩,by simp⟩
 |step _ e ih=>
  rename_i b c _;obtain⟨l,P,nd⟩:=ih;have hne:l≠[]:=by intro z;have:=P.hd;rw[z]at this;cases this
  by_cases hc:c∈l
  .obtain⟨l1,l2,rfl⟩:=zCJ hc
   refine⟨l1++[c],⟨?_,by simp,aAd (m:=l2) (by rw[zAt];exact P.al)⟩,?_⟩
   .have:=P.hd
    cases l1 with
    |nil=>simpa using this
    |cons x r=>simpa using this
   .have e2:l1++c::l2=(l1++[c])++l2:=by simp
    rw[e2]at nd;exact(zAb.mp nd).1
  .refine⟨l++[c],⟨?_,by simp,?_⟩,?_⟩
   .have:=P.hd
    cases l with
    |nil=>exact absurd rfl hne
    |cons x r=>simpa using this
   .refine sy hne P.al ?_
    have:=P.lt
    rw[zF4 hne]at this;rw[zAl this];exact e
   .rw[zAb]
    exact⟨nd,by simp,λ x hx y hy z=>by rw[zAI.mp hy]at z;subst z;exact hc hx⟩
theorem aCZ:∀{l:List Int},b7 es (a::l)=true->∀x∈a::l,Cn es a x
 |[],_,x,hx=>by rw[zAI.mp hx];exact .refl
 |b::r,h,x,hx=>by
  rw[b7,zAN,decide_eq_true_eq]at h;rcases zAL.mp hx with rfl|hx
  .exact .refl
  .exact Cn.trans (.step .refl h.1) (aCZ h.2 x hx)
def prB(p:Prop):Bool:=@decide p (zFe p)
def aBF:prB p=true↔p:=@decide_eq_true_iff p (zFe p)
def bM(n:Int)(es:gX)(a:Int):List Int:=(upI n).filter λ b=>prB (Cn es a b)
def dN:b∈bM n es a↔(0<=b/\b<n)/\Cn es a b:=by
 unfold bM;rw[zAa,bI,aBF]
def bK(es:gX)(a:Int):Bool:=prB (∀b,0<=b->Cn es a b->a<=b)
def cB:bK es a=true↔∀b,0<=b->Cn es a b->a<=b:=aBF
def az(n:Int)(es:gX):gV:=((upI n).filter (bK es)).map (bM n es)
def nT(n:Int):(upI n).Pairwise (·< ·):=by
 unfold upI;rw[zB0];exact List.pairwise_lt_range.imp λ h=>by lia
theorem aDx:∀{l m:List Int},l.Pairwise (·< ·)->m.Pairwise (·< ·)->(∀x,x∈l↔x∈m)->l=m
 |[],[],_,_,_=>rfl
 |[],b::m,_,_,h=>by have:=(h b).mpr zAH;cases this
 |a::l,[],_,_,h=>by have:=(h a).mp zAH;cases this
 |a::l,b::m,h1,h2,h=>by
  obtain⟨p1,p2⟩:=zAg.mp h1;obtain⟨q1,q2⟩:=zAg.mp h2;have e:a=b:=by
   rcases zAL.mp ((h a).mp zAH)with z|z
   .exact z
   .rcases zAL.mp ((h b).mpr zAH)with y|y
    .exact y.symm
    .have:=q1 a z;have:=p1 b y;lia
  subst e;rw[aDx p2 q2 λ x=>?_];constructor
  .intro hx
   rcases zAL.mp ((h x).mp (zAF _ hx))with z|z
   .subst z;have:=p1 x hx;lia
   .exact z
  .intro hx
   rcases zAL.mp ((h x).mpr (zAF _ hx))with z|z
   .subst z;have:=q1 x hx;lia
   .exact z
def tO(nd:l.Nodup):(sortI l).Pairwise (·< ·):=by
 have h1:=eG l;have h2:(sortI l).Nodup:=(sortI_perm l).nodup_iff.mpr nd;rw[zAc]at h2;exact(h1.and h2).imp λ⟨a,b⟩=>by lia
def aDp(nd:l.Nodup)(h:∀x,x∈l↔(0<=x/\x<n)/\Cn es a x):sortI l=bM n es a:=
 aDx (tO nd) ((nT n).filter _) λ x=>by rw[(sortI_perm l).mem_iff,h,dN]
abbrev wE(ll:eB)(a:Int)(part:List Int)(k:Int)(s4 s5:Slot):En:=[.sh (.lst (ll.map .lst)),.sh (.int a),.ow (.lst (part.map .int)),.sh (.int k),s4,s5]
structure Pw(n:Int)(es:gX)(a:Int)(part:List Int):Prop where
 nd:part.Nodup
 cn:∀x∈part,Cn es a x
 inn:∀x∈part,0<=x/\x<n
 st:a∈part
section
variable{n:Int}{es:gX}{ll:eB}{a k:Int}{part:List Int}{s4 s5:Slot}
def Pw.len(P:Pw n es a part):part.length<=n.toNat:=by
 have:=sub_len (l':=upI n) P.nd λ x hx=>bI.mpr (P.inn x hx)
 rwa [cF]at this
theorem yD(hn:n<=60)(hin:∀x y,(x,y)∈es->0<=y/\y<n):∀(us:List Int) (part:List Int) (s5:Slot),(∀u∈us,(p,u)∈es)->p∈part->Pw n es a part->
  ∃part' s5',forL (gnm 5) pwI (us.map .int) (wE ll a part k s4 s5)= .nx (wE ll a part' k s4 s5')/\Pw n es a part'/\(∃m,part'=part++m)/\∀u∈us,u∈part'
 |[],part,s5,_,_,P=>⟨part,s5,rfl,P,⟨[],by simp⟩,λ u hu=>by cases hu⟩
 |u::us,part,s5,h,hp,P=>by
  have hu:=h u zAH;have hl:=P.len;rw[zAM,cC,sU,mJ]
  show∃part' s5',(pwI (wE ll a part k s4 (.sh (.int u)))).tn _=_/\_
  have hi:=uH true u part;by_cases hm:u∈part
  .have e:pwI (wE ll a part k s4 (.sh (.int u)))= .nx (wE ll a part k s4 (.sh (.int u))):=by simp[pwI,hi,hm]
   rw[e,lH];obtain⟨part',s5',e2,P',⟨m,hm'⟩,h2⟩:=yD hn hin us part (.sh (.int u)) (λ v hv=>h v (zAF _ hv)) hp P;refine⟨part',s5',e2,P',⟨m,hm'⟩,λ v hv=>?_⟩;rcases zAL.mp hv with rfl|hv
   .rw[hm'];exact zAQ _ hm
   .exact h2 v hv
  .have hz:part.length<16777216:=by lia
   have e:pwI (wE ll a part k s4 (.sh (.int u)))= .nx (wE ll a (part++[u]) k s4 (.sh (.int u))):=by simp[pwI,hi,hm,lC,hz]
   rw[e,lH];have P1:Pw n es a (part++[u]):=by
    refine⟨?_,λ x hx=>?_,λ x hx=>?_,zAQ _ P.st⟩
    .rw[zAb]
     exact⟨P.nd,by simp,λ x hx y hy z=>by rw[zAI.mp hy]at z;subst z;exact hm hx⟩
    .rcases zAU.mp hx with hx|hx
     .exact P.cn x hx
     .rw[zAI.mp hx];exact(P.cn p hp).step hu
    .rcases zAU.mp hx with hx|hx
     .exact P.inn x hx
     .rw[zAI.mp hx];exact hin _ _ hu
   obtain⟨part',s5',e2,P',⟨m,hm'⟩,h2⟩:=yD hn hin us (part++[u]) (.sh (.int u)) (λ v hv=>h v (zAF _ hv)) (zAQ _ hp) P1;refine⟨part',s5',e2,P',⟨[u]++m,by rw[hm',zAt]⟩,λ v hv=>?_⟩;rcases zAL.mp hv with rfl|hv
   .rw[hm'];exact zAQ _ (by simp)
   .exact h2 v hv
def aBH(hn:n<=60)(N:aLt n es ll)(hin:∀x y,(x,y)∈es->0<=y/\y<n)(h0:0<=a)(h1:a<n):jX [.lst (ll.map .lst),.int a]= .ok (tupI (bM n es a)):=by
 have st:aj 6 [.lst (ll.map .lst),.int a]=[.sh (.lst (ll.map .lst)),.sh (.int a),.no,.no,.no,.no]:=rfl;obtain⟨ρ',m',e,⟨part,k,s4,s5,rfl,P,hk,hcl,_⟩,ht⟩:=xN (c:=pwT) (b:=pwW)
  (λ m ρ=>∃(part:List Int) (k:Nat) (s4 s5:Slot),ρ=wE ll a part k s4 s5/\Pw n es a part/\k<=part.length/\(∀i x,i<k->part[i]? =some x->∀y,(x,y)∈es->y∈part)/\m=n.toNat-k)
  (by
   rintro m ρ ⟨part,k,s4,s5,rfl,P,hk,hcl,rfl⟩;have hl:=P.len;by_cases hlt:k<part.length
   .right
    have hx:=zAD hlt;have ha:atD (part.map .int) (k:Int)= .ok (.int part[k]):=fW (by rw[zA2,hx];rfl);have hp:=P.inn _ (zCH hlt);obtain⟨us,e1,e2⟩:=N.item _ hp.1 hp.2;obtain⟨part',s5',e3,P',⟨m,hm⟩,h2⟩:=yD (ll:=ll) (k:=(k:Int)) (s4:=.nw (.int part[k])) hn hin us part s5 (λ u hu=>(e2 u).mp hu) (zCH hlt) P;have c0:pwT (wE ll a part k s4 s5)= .ok true:=by simp[pwT,hlt]
    have c1:ur 4 (bH (op2 ixD (eE 2) (aD 3))) (wE ll a part k s4 s5)= .nx (wE ll a part k (.nw (.int part[k])) s5):=by simp[ha]
    have c2:gB (bu (op2 ixD (aD 0) (nQ 4))) (gnm 5) pwI (wE ll a part k (.nw (.int part[k])) s5)= .nx (wE ll a part' k (.nw (.int part[k])) s5'):=by
     have hi:bu (op2 ixD (aD 0) (nQ 4)) (wE ll a part k (.nw (.int part[k])) s5)= .ok (us.map .int):=by simp[e1]
     rw[cM,hi,bF,e3]
    have c3:aLi (i2 (λ _ _=>true) λ a b=>.int (a+b)) 3 (cD (.int 1)) (wE ll a part' k (.nw (.int part[k])) s5')= .nx (wE ll a part' ((k:Int)+1) (.nw (.int part[k])) s5'):=rfl;refine⟨c0,wE ll a part' ((k+1:Nat):Int) (.nw (.int part[k])) s5',n.toNat-(k+1),?_,by lia,part',k+1,_,_,rfl,P',?_,λ i x hi hx' y hy=>?_,rfl⟩
    .rw[pwW,aK,c1,aU,aK,c2,aU,c3]
     rfl
    .rw[hm,zA0];lia
    .by_cases hik:i=k
     .subst hik
      rw[hm,zBo hlt,hx]at hx';cases hx';exact h2 y ((e2 y).mpr hy)
     .rw[hm,zBo (by lia)]at hx'
      rw[hm];exact zAQ _ (hcl i x (by lia) hx' y hy)
   .left
    simp[pwT,show¬k<part.length from hlt])
  (m:=n.toNat-0) (ρ:=wE ll a [a] (0:Nat) .no .no) (by lia) ⟨[a],0,.no,.no,rfl,⟨by simp,λ x hx=>by rw[zAI.mp hx];exact .refl,λ x hx=>by rw[zAI.mp hx];exact⟨h0,h1⟩,by simp⟩,by simp,λ i x hi=>absurd hi (zE9 _),rfl⟩
 have hlt:¬k<part.length:=λ z=>by
  have:pwT (wE ll a part k s4 s5)= .ok true:=by simp[pwT,z]
  rw[this]at ht;cases ht
 have go:∀x,Cn es a x->x∈part:=λ x hc=>by
  induction hc with
  |refl=>exact P.st
  |step hb he ih=>
   obtain⟨i,hi,hx⟩:=zBk ih;exact hcl i _ (by lia) (by rw[zAD hi,hx]) _ he
 have kX:∀x,x∈part↔(0<=x/\x<n)/\Cn es a x:=λ x=>⟨λ hx=>⟨P.inn x hx,P.cn x hx⟩,λ h=>go x h.2⟩
 have hs:=uq (l:=part) (by have:=P.len;lia);rw[aDp P.nd kX]at hs;have c0:iT 2 (fj (aC (bH (aD 1)) aJ)) [.sh (.lst (ll.map .lst)),.sh (.int a),.no,.no,.no,.no]= .nx [.sh (.lst (ll.map .lst)),.sh (.int a),.ow (.lst [.int a]),.no,.no,.no]:=by simp
 have c1:eF 3 (cD (.int 0)) [.sh (.lst (ll.map .lst)),.sh (.int a),.ow (.lst [.int a]),.no,.no,.no]= .nx (wE ll a [a] (0:Nat) .no .no):=rfl;simp only[jX,gf,bA,st];rw[aK,c0,aU,aK,c1,aU,aK,e,aU];have hd:eE 2 (wE ll a part k s4 s5)= .ok (.lst (part.map .int)):=rfl;rw[jM,iG,bQ,iG,bQ,hd];simp[hs,tupI]
end
abbrev qE(ll:eB)(w:D)(rws:gV)(seen:List Int)(s4 s5 s6:Slot):En:=[.sh (.lst (ll.map .lst)),.sh w,.ow (.lst (rws.map tupI)),.ow (.set seen),s4,s5,s6]
section
variable{n:Int}{es:gX}{ll:eB}{w:D}{rws:gV}{s4 s5 s6:Slot}
theorem aC2:∀(us:List Int) (seen:List Int) (s6:Slot),(∀u∈us,0<=u/\u<n)->seen.Nodup->(∀u∈seen,0<=u/\u<n)->n<=60->
  ∃seen' s6',forL (gnm 6) paF (us.map .int) (qE ll w rws seen s4 s5 s6)= .nx (qE ll w rws seen' s4 s5 s6')/\seen'.Nodup/\(∀x,x∈seen'↔x∈seen\/x∈us)/\(∀u∈seen',0<=u/\u<n)
 |[],seen,s6,_,nd,hin,_=>⟨seen,s6,rfl,nd,λ x=>by simp,hin⟩
 |u::us,seen,s6,h,nd,hin,hn=>by
  have hl:seen.length<=n.toNat:=by
   have:=sub_len (l':=upI n) nd λ x hx=>bI.mpr (hin x hx)
   rwa [cF]at this
  have nd':=aDU (z:=u) nd;have hm':∀x,x∈zAo seen u↔x∈seen\/x=u:=λ x=>by
   have:=aA7 seen u x
   rw[zBI]at this;simpa using this.symm
  obtain⟨seen',s6',e,q1,q2,q3⟩:=aC2 us (zAo seen u) (.sh (.int u)) (λ v hv=>h v (zAF _ hv)) nd' (λ x hx=>by
   rcases(hm' x).mp hx with z|z
   .exact hin x z
   .rw[z];exact h u zAH) hn
  refine⟨seen',s6',?_,q1,λ x=>?_,q3⟩
  .rw[zAM,cC,sU,mJ]
   show(paF (qE ll w rws seen s4 s5 (.sh (.int u)))).tn _=_
   have e1:paF (qE ll w rws seen s4 s5 (.sh (.int u)))= .nx (qE ll w rws (zAo seen u) s4 s5 (.sh (.int u))):=by
    have hv:bH (aD 6) (qE ll w rws seen s4 s5 (.sh (.int u)))= .ok (.int u):=by simp
    show((bH (aD 6) (qE ll w rws seen s4 s5 (.sh (.int u)))).bo λ d=>aD9 (qE ll w rws seen s4 s5 (.sh (.int u))) 3 seen d)=_
    rw[hv,bF];unfold aD9;dsimp only;rw[if_pos (by lia)];rfl
   rw[e1,lH,e]
  .rw[q2,hm',zAL]
   constructor
   .rintro((z|z)|z)
    .exact .inl z
    .exact .inr (.inl z)
    .exact .inr (.inr z)
   .rintro(z|z|z)
    .exact .inl (.inl z)
    .exact .inl (.inr z)
    .exact .inr z
def aEw(k:Nat):upI ((k+1:Nat):Int)=upI (k:Int)++[(k:Int)]:=by
 unfold upI;rw[zCX,zCX,zIN,zAZ];rfl
def yG(hn0:0<=n)(hn:n<=60)(S:Sym es)(N:aLt n es ll)(hin:∀x y,(x,y)∈es->0<=y/\y<n):eQ [.lst (ll.map .lst),.lst (bN 0 n)]= .ok (.lst ((az n es).map tupI)):=by
 have st:aj 7 [.lst (ll.map .lst),.lst (bN 0 n)]=[.sh (.lst (ll.map .lst)),.sh (.lst (bN 0 n)),.no,.no,.no,.no,.no]:=rfl;obtain⟨ρ',e,seen,s4,s5,s6,rfl,_⟩:=my (a:=gnm 4) (u:=paB) (ds:=bN 0 n)
  (λ k ρ=>∃(seen:List Int) (s4 s5 s6:Slot),ρ=qE ll (.lst (bN 0 n)) (((upI (k:Int)).filter (bK es)).map (bM n es)) seen s4 s5 s6/\seen.Nodup/\(∀x,x∈seen↔(0<=x/\x<n)/\∃j,(0<=j/\j<(k:Int))/\Cn es j x))
  (by
   rintro i d ρ hd ⟨seen,s4,s5,s6,rfl,nd,hs⟩;obtain⟨rfl,hlt⟩:=m6 hd;rw[zGs]at hlt ⊢;have hk:0<=(i:Int)/\(i:Int)<n:=⟨by lia,hlt⟩;have hg:okE (gnm 4 (.int (i:Int)) (qE ll (.lst (bN 0 n)) (((upI (i:Int)).filter (bK es)).map (bM n es)) seen s4 s5 s6)) (λ ρ1=>paB ρ1)=paB (qE ll (.lst (bN 0 n)) (((upI (i:Int)).filter (bK es)).map (bM n es)) seen (.sh (.int (i:Int))) s5 s6):=rfl;rw[hg];have hlb:bK es (i:Int)= !decide ((i:Int)∈seen):=by
    rw[zBI,cB];constructor
    .intro h
     simp only[zCA,decide_eq_false_iff_not];intro hm;obtain⟨_,j,hj,hc⟩:=(hs _).mp hm
     have:=h j hj.1 (hc.symm S)
     lia
    .intro h b hb hc
     simp only[zCA,decide_eq_false_iff_not]at h
     have:=λ z:b<(i:Int)=>h ((hs _).mpr ⟨hk,b,⟨hb,z⟩,hc.symm S⟩)
     lia
   have hx:inX true (.int (i:Int)) (.set seen)= .ok (.bl (!decide ((i:Int)∈seen))):=rfl;have hrl:(((upI (i:Int)).filter (bK es)).map (bM n es)).length<16777216:=by
    rw[zAE]
    have:=zBZ (bK es) (upI (i:Int))
    rw[cF]at this;lia
   by_cases hm:(i:Int)∈seen
   .have hb:paB (qE ll (.lst (bN 0 n)) (((upI (i:Int)).filter (bK es)).map (bM n es)) seen (.sh (.int (i:Int))) s5 s6)= .nx (qE ll (.lst (bN 0 n)) (((upI (i:Int)).filter (bK es)).map (bM n es)) seen (.sh (.int (i:Int))) s5 s6):=by
     simp[paB,hx,hm]
    refine⟨_,hb,seen,.sh (.int (i:Int)),s5,s6,?_,nd,λ x=>?_⟩
    .rw[aEw,zFH,zBP,hlb]
     simp[hm]
    .rw[hs]
     constructor
     .rintro⟨h1,j,h2,h3⟩
      exact⟨h1,j,⟨h2.1,by lia⟩,h3⟩
     .rintro⟨h1,j,h2,h3⟩
      by_cases hj:j<(i:Int)
      .exact⟨h1,j,⟨h2.1,hj⟩,h3⟩
      .have hj':j=(i:Int):=by lia
       subst hj';obtain⟨_,j',h4,h5⟩:=(hs _).mp hm;exact⟨h1,j',h4,h5.trans h3⟩
   .have hp:=aBH hn N hin hk.1 hk.2
    have hsin:∀u∈seen,0<=u/\u<n:=λ u hu=>((hs u).mp hu).1
    obtain⟨seen',s6',e,q1,q2,q3⟩:=aC2 (ll:=ll) (w:=.lst (bN 0 n)) (rws:=((upI (i:Int)).filter (bK es)).map (bM n es)++[bM n es (i:Int)]) (s4:=.sh (.int (i:Int))) (s5:=.sh (tupI (bM n es (i:Int)))) (bM n es (i:Int)) seen s6 (λ u hu=>(dN.mp hu).1) nd hsin hn;have gi:uK (tupI (bM n es (i:Int)))= .ok (tupI (bM n es (i:Int))):=(El.tup (k:=0) El.ints).g;have hb:paB (qE ll (.lst (bN 0 n)) (((upI (i:Int)).filter (bK es)).map (bM n es)) seen (.sh (.int (i:Int))) s5 s6)= .nx (qE ll (.lst (bN 0 n)) (((upI (i:Int)).filter (bK es)).map (bM n es)++[bM n es (i:Int)]) seen' (.sh (.int (i:Int))) (.sh (tupI (bM n es (i:Int)))) s6'):=by
     have t1:tsb (op2 (inX true) (aD 4) (eE 3)) (qE ll (.lst (bN 0 n)) (((upI (i:Int)).filter (bK es)).map (bM n es)) seen (.sh (.int (i:Int))) s5 s6)= .ok true:=by simp[hx,hm]
     have t2:eF 5 (aP jX (aC (aD 0) (aC (aD 4) aJ))) (qE ll (.lst (bN 0 n)) (((upI (i:Int)).filter (bK es)).map (bM n es)) seen (.sh (.int (i:Int))) s5 s6)= .nx (qE ll (.lst (bN 0 n)) (((upI (i:Int)).filter (bK es)).map (bM n es)) seen (.sh (.int (i:Int))) (.sh (tupI (bM n es (i:Int)))) s6):=by simp[hp]
     have t3:lC 2 (bH (aD 5)) (qE ll (.lst (bN 0 n)) (((upI (i:Int)).filter (bK es)).map (bM n es)) seen (.sh (.int (i:Int))) (.sh (tupI (bM n es (i:Int)))) s6)= .nx (qE ll (.lst (bN 0 n)) (((upI (i:Int)).filter (bK es)).map (bM n es)++[bM n es (i:Int)]) seen (.sh (.int (i:Int))) (.sh (tupI (bM n es (i:Int)))) s6):=by
      generalize ((upI (i:Int)).filter (bK es)).map (bM n es)=R at hrl ⊢;have hv:bH (aD 5) (qE ll (.lst (bN 0 n)) R seen (.sh (.int (i:Int))) (.sh (tupI (bM n es (i:Int)))) s6)= .ok (tupI (bM n es (i:Int))):=by simp[gi]
      show((bH (aD 5) (qE ll (.lst (bN 0 n)) R seen (.sh (.int (i:Int))) (.sh (tupI (bM n es (i:Int)))) s6)).bo λ d=>if (R.map tupI).length<zAY then .nx [.sh (.lst (ll.map .lst)),.sh (.lst (bN 0 n)),.ow (.lst (R.map tupI++[d])),.ow (.set seen),.sh (.int (i:Int)),.sh (tupI (bM n es (i:Int))),s6]else .st)=_
      rw[hv,bF,if_pos (by rw[szl,zAE];exact hrl)];simp[zAZ]
     have t4:bu (aD 5) (qE ll (.lst (bN 0 n)) (((upI (i:Int)).filter (bK es)).map (bM n es)++[bM n es (i:Int)]) seen (.sh (.int (i:Int))) (.sh (tupI (bM n es (i:Int)))) s6)= .ok ((bM n es (i:Int)).map .int):=by simp[tupI]
     rw[paB,fu,t1,bF,if_pos rfl,aK,t2,aU,aK,t3,aU,cM,t4,bF,e]
    refine⟨_,hb,seen',.sh (.int (i:Int)),.sh (tupI (bM n es (i:Int))),s6',?_,q1,λ x=>?_⟩
    .rw[aEw,zFH,zBP,hlb]
     simp[hm]
    .rw[q2,hs,dN]
     constructor
     .rintro(⟨h1,j,h2,h3⟩|⟨h1,h2⟩)
      .exact⟨h1,j,⟨h2.1,by lia⟩,h3⟩
      .exact⟨h1,(i:Int),⟨by lia,by lia⟩,h2⟩
     .rintro⟨h1,j,h2,h3⟩
      by_cases hj:j<(i:Int)
      .exact .inl ⟨h1,j,⟨h2.1,hj⟩,h3⟩
      .have hj':j=(i:Int):=by lia
       subst hj';exact .inr ⟨h1,h3⟩)
  (ρ:=qE ll (.lst (bN 0 n)) [] [] .no .no .no) ⟨[],.no,.no,.no,rfl,zEi,λ x=>⟨λ h=>(nomatch h),λ⟨_,j,h,_⟩=>absurd h.2 (by have:=h.1;lia)⟩⟩
 have c0:iT 2 (fj aJ) [.sh (.lst (ll.map .lst)),.sh (.lst (bN 0 n)),.no,.no,.no,.no,.no]= .nx [.sh (.lst (ll.map .lst)),.sh (.lst (bN 0 n)),.ow (.lst []),.no,.no,.no,.no]:=by simp
 have c1:iT 3 (cD (.set [])) [.sh (.lst (ll.map .lst)),.sh (.lst (bN 0 n)),.ow (.lst []),.no,.no,.no,.no]= .nx (qE ll (.lst (bN 0 n)) [] [] .no .no .no):=rfl;have hi:bu (aD 1) (qE ll (.lst (bN 0 n)) [] [] .no .no .no)= .ok (bN 0 n):=by simp
 have hln:(((bN 0 n).length:Nat):Int)=n:=by rw[gD];lia
 rw[hln]at e;simp only[eQ,eN,bA,st];rw[aK,c0,aU,aK,c1,aU,aK,cM,hi,bF,e,aU];simp[az]
def aC0(h:Ow n ps)(low:∀p∈ps,p.1<p.2):qZ [owD n ps]= .ok (.lst ((az n (dbl ps)).map tupI)):=by
 obtain⟨ll,e,N⟩:=aD7 h;have st:aj 1 [owD n ps]=[.sh (owD n ps)]:=rfl;have hp:=yG h.n0 h.n1 (gG ps) N (λ x y m=>by
  rcases b8.mp m with z|z
  .have:=h.pr _ z;exact⟨this.2.2.1,this.2.2.2.1⟩
  .have:=h.pr _ z;exact⟨this.1,this.2.1⟩)
 have hlr:=aIc (f:=op2 ixD (aD 0) (cD (.int 0))) (ρ:=[.sh (owD n ps)]) (n:=n) (by simp[owD]) h.n0 h.n1;have c0:qG (aP dj (aC (aD 0) aJ)) [.sh (owD n ps)]= .nx [.sh (owD n ps)]:=by simp[uV h low]
 have c1:aP eQ (aC (aP cW (aC (aD 0) aJ)) (aC (lrD (op2 ixD (aD 0) (cD (.int 0)))) aJ)) [.sh (owD n ps)]= .ok (.lst ((az n (dbl ps)).map tupI)):=by
  rw[nJ,bQ,nJ,bQ,bQ,hlr];simp[e,hp]
 have df:qY=aY (qG (aP dj (aC (aD 0) aJ))) (retS (aP eQ (aC (aP cW (aC (aD 0) aJ)) (aC (lrD (op2 ixD (aD 0) (cD (.int 0)))) aJ)))):=rfl;simp only[qZ,df,bA,st];rw[aK,c0,aU,jM,c1];rfl
end
def gL(L:List Int)(i:Int):Int:=L.getD i.toNat 0
def qt(L:List Int)(p:Int×Int):List Int:=(L.set p.1.toNat (mn (gL L p.1) (gL L p.2))).set p.2.toNat (mn (gL L p.1) (gL L p.2))
def aIn(L:List Int)(p:Int×Int):(qt L p).length=L.length:=by unfold qt;rw[zBD,zBD]
def aOn(a b:Int):mn a b<=a/\mn a b<=b/\(mn a b=a\/mn a b=b):=by
 unfold mn;split<;>lia
def aEg(hi:i<L.length)(x:Int)(h0:0<=x):gL (L.set i v) x=if x.toNat=i then v else gL L x:=by
 unfold gL;rw[zA3,zA3];split
 .rename_i e
  rw[e,zBT hi];rfl
 .rename_i e
  rw[zBG (λ z=>e z.symm)]
def aL5(h1:0<=p.1/\p.1.toNat<L.length)(h2:0<=p.2/\p.2.toNat<L.length)(x:Int)(h0:0<=x):gL (qt L p) x=if x=p.1\/x=p.2 then mn (gL L p.1) (gL L p.2)else gL L x:=by
 unfold qt;rw[aEg (by rw[zBD];exact h2.2) x h0,aEg h1.2 x h0];by_cases e2:x=p.2
 .subst e2;simp
 .have:x.toNat≠p.2.toNat:=by lia
  rw[if_neg this];by_cases e1:x=p.1
  .subst e1;simp
  .have:x.toNat≠p.1.toNat:=by lia
   rw[if_neg this,if_neg (by lia)]
structure Lb(n:Int)(es:gX)(L:List Int):Prop where
 len:L.length=n.toNat
 cn:∀x,0<=x->x<n->Cn es x (gL L x)/\gL L x<=x/\0<=gL L x
section
variable{n:Int}{ps:gX}{L:List Int}{s2 s3 s4:Slot}
def Lb.join(B:Lb n (dbl ps) L)(hp:p∈ps)(h:0<=p.1/\p.1<n/\0<=p.2/\p.2<n):Lb n (dbl ps) (qt L p)/\(∀x,0<=x->x<n->gL (qt L p) x<=gL L x)/\gL (qt L p) p.1<=gL L p.2/\gL (qt L p) p.2<=gL L p.1:=by
 have hl:=B.len;have g:=λ x h0=>aL5 (L:=L) (p:=p) ⟨h.1,by lia⟩ ⟨h.2.2.1,by lia⟩ x h0
 obtain⟨m1,m2,m3⟩:=aOn (gL L p.1) (gL L p.2);have c1:=B.cn p.1 h.1 h.2.1;have c2:=B.cn p.2 h.2.2.1 h.2.2.2;have e12:(p.1,p.2)∈dbl ps:=b8.mpr (.inl hp);have e21:(p.2,p.1)∈dbl ps:=b8.mpr (.inr hp);have k1:Cn (dbl ps) p.1 (mn (gL L p.1) (gL L p.2)):=by
  rcases m3 with z|z
  .rw[z];exact c1.1
  .rw[z];exact Cn.trans (.step .refl e12) c2.1
 have k2:Cn (dbl ps) p.2 (mn (gL L p.1) (gL L p.2)):=Cn.trans (.step .refl e21) k1;refine⟨⟨by rw[aIn];exact hl,λ x h0 h1=>?_⟩,λ x h0 h1=>?_,?_,?_⟩
 .rw[g x h0]
  split
  .rename_i e
   rcases e with rfl|rfl
   .exact⟨k1,by lia,by lia⟩
   .exact⟨k2,by lia,by lia⟩
  .exact B.cn x h0 h1
 .rw[g x h0]
  split
  .rename_i e
   rcases e with rfl|rfl
   .exact m1
   .exact m2
  .exact zDk _
 .rw[g p.1 h.1,if_pos (.inl rfl)];exact m2
 .rw[g p.2 h.2.2.1,if_pos (.inr rfl)];exact m1
def aGJ(h0:0<=x)(h1:x.toNat<L.length):atD (L.map .int) x= .ok (.int (gL L x)):=by
 have:=fW (l:=L.map D.int) (k:=x.toNat) (d:=.int (gL L x)) (by rw[zA2,zAD h1];unfold gL;rw[zA3,zAD h1];rfl)
 rwa [zDA h0]at this
def aFZ(hk:fk [w,.ow (.lst (L.map .int)),s2,s3,s4]= .ok (.int k))(he:fe [w,.ow (.lst (L.map .int)),s2,s3,s4]= .ok (.int v))(h0:0<=k)(h1:k.toNat<L.length):
  aIC 1 fk fe [w,.ow (.lst (L.map .int)),s2,s3,s4]= .nx [w,.ow (.lst ((L.set k.toNat v).map .int)),s2,s3,s4]:=by
 have e:putN (L.map .int) (.int k)=some k.toNat:=by
  show ixN (L.map D.int).length k=_;unfold ixN;rw[zAE,if_pos (by lia),if_pos (by lia)]
 show((fe [w,.ow (.lst (L.map .int)),s2,s3,s4]).bo λ d=>(fk [w,.ow (.lst (L.map .int)),s2,s3,s4]).bo λ k=>match putN (L.map .int) k with
  |some j=>.nx [w,.ow (.lst ((L.map .int).set j d)),s2,s3,s4]
  |none=>.st)=_
 rw[he,bF,hk,bF,e];simp[zIn]
def aNb(hl:L.length=n.toNat)(h:0<=p.1/\p.1<n/\0<=p.2/\p.2<n):
  lsB [w,.ow (.lst (L.map .int)),s2,.sh (.int p.1),.sh (.int p.2)]= .nx [w,.ow (.lst ((qt L p).map .int)),s2,.sh (.int p.1),.sh (.int p.2)]:=by
 have a1:=aGJ (L:=L) h.1 (by lia);have a2:=aGJ (L:=L) h.2.2.1 (by lia);have b1:=aFZ (L:=L) (w:=w) (s2:=s2) (s3:=.sh (.int p.1)) (s4:=.sh (.int p.2)) (fk:=aD 3) (fe:=opA (mmD λ i j=>if j<i then j else i) (aC (op2 ixD (eE 1) (aD 3)) (aC (op2 ixD (eE 1) (aD 4)) aJ))) (k:=p.1) (v:=mn (gL L p.1) (gL L p.2)) (by simp) (by simp[a1,a2,mn]) h.1 (by lia);have hl2:(L.set p.1.toNat (mn (gL L p.1) (gL L p.2))).length=L.length:=zBD;have a3:=aGJ (L:=L.set p.1.toNat (mn (gL L p.1) (gL L p.2))) h.1 (by lia);rw[aEg (by lia) p.1 h.1,if_pos rfl]at a3;have b2:=aFZ (L:=L.set p.1.toNat (mn (gL L p.1) (gL L p.2))) (w:=w) (s2:=s2) (s3:=.sh (.int p.1)) (s4:=.sh (.int p.2)) (fk:=aD 4) (fe:=bH (op2 ixD (eE 1) (aD 3))) (k:=p.2) (v:=mn (gL L p.1) (gL L p.2)) (by simp) (by rw[zIn]at a3;simp[a3]) h.2.2.1 (by lia);rw[lsB,aK,b1,aU,b2];rfl
theorem aCh(hpr:∀p∈ps,0<=p.1/\p.1<n/\0<=p.2/\p.2<n):∀(qs:gX) (L:List Int) (s3 s4:Slot),(∀q∈qs,q∈ps)->Lb n (dbl ps) L->
  ∃L' s3' s4',forL (fD 2 (aa (gnm 3) (aa (gnm 4) fP))) lsB (qs.map pD) [w,.ow (.lst (L.map .int)),s2,s3,s4]= .nx [w,.ow (.lst (L'.map .int)),s2,s3',s4']/\Lb n (dbl ps) L'/\(∀x,0<=x->x<n->gL L' x<=gL L x)/\∀q∈qs,gL L' q.1<=gL L q.2/\gL L' q.2<=gL L q.1
 |[],L,s3,s4,_,B=>⟨L,s3,s4,rfl,B,λ _ _ _=>zDk _,λ q hq=>by cases hq⟩
 |q::qs,L,s3,s4,h,B=>by
  have hq:=h q zAH;have hr:=hpr q hq;obtain⟨B1,m1,m2,m3⟩:=B.join hq hr;obtain⟨L',s3',s4',e,B',k1,k2⟩:=aCh (w:=w) hpr qs (qt L q) (.sh (.int q.1)) (.sh (.int q.2)) (λ x hx=>h x (zAF _ hx)) B1;refine⟨L',s3',s4',?_,B',λ x h0 h1=>zE8 (k1 x h0 h1) (m1 x h0 h1),λ x hx=>?_⟩
  .rw[zAM,cC]
   have g:okE (fD 2 (aa (gnm 3) (aa (gnm 4) fP)) (pD q) [w,.ow (.lst (L.map .int)),s2,s3,s4]) (λ ρ1=>(lsB ρ1).tn (forL (fD 2 (aa (gnm 3) (aa (gnm 4) fP))) lsB (qs.map pD)))=(lsB [w,.ow (.lst (L.map .int)),s2,.sh (.int q.1),.sh (.int q.2)]).tn (forL (fD 2 (aa (gnm 3) (aa (gnm 4) fP))) lsB (qs.map pD)):=by simp[pD]
   rw[g,aNb B.len hr,lH,e]
  .rcases zAL.mp hx with rfl|hx
   .exact⟨zE8 (k1 _ hr.1 hr.2.1) m2,zE8 (k1 _ hr.2.2.1 hr.2.2.2) m3⟩
   .have hx':=hpr x (h x (zAF _ hx))
    exact⟨zE8 (k2 x hx).1 (m1 _ hx'.2.2.1 hx'.2.2.2),zE8 (k2 x hx).2 (m1 _ hx'.1 hx'.2.1)⟩
def Rd1(n:Int)(es:gX)(t:Nat)(L:List Int):Prop:=∀(l:List Int) (a b:Int),0<=a->a<n->aPG es a b l->l.length<=t+1->gL L a<=b
def aKd(hin:∀x y,(x,y)∈es->0<=y/\y<n)(h:b7 es (a::b::r)=true):(a,b)∈es/\0<=b/\b<n:=by
 rw[b7,zAN,decide_eq_true_eq]at h;exact⟨h.1,hin _ _ h.1⟩
def aE3(h:Ow n ps):∃L s2 s3 s4,forL (gnm 2) lsO (bN 0 n) [.sh (owD n ps),.ow (.lst ((upI n).map .int)),.no,.no,.no]= .nx [.sh (owD n ps),.ow (.lst (L.map .int)),s2,s3,s4]/\Lb n (dbl ps) L/\∀a,0<=a->a<n->∀b,Cn (dbl ps) a b->gL L a<=b:=by
 have hpr:∀p∈ps,0<=p.1/\p.1<n/\0<=p.2/\p.2<n:=λ p hp=>by have:=h.pr p hp;exact⟨this.1,this.2.1,this.2.2.1,this.2.2.2.1⟩
 have hin:∀x y,(x,y)∈dbl ps->0<=y/\y<n:=λ x y m=>by
  rcases b8.mp m with z|z
  .have:=h.pr _ z;exact⟨this.2.2.1,this.2.2.2.1⟩
  .have:=h.pr _ z;exact⟨this.1,this.2.1⟩
 have g0:∀x,0<=x->x<n->gL (upI n) x=x:=λ x h0 h1=>by
  unfold gL upI;rw[zA3,zA2,zEo (by lia)]
  show(((x.toNat:Nat):Int))=x
  lia
 obtain⟨ρ',e,L,s2,s3,s4,rfl,B,hR⟩:=my (a:=gnm 2) (u:=lsO) (ds:=bN 0 n)
  (λ t ρ=>∃(L:List Int) (s2 s3 s4:Slot),ρ=[.sh (owD n ps),.ow (.lst (L.map .int)),s2,s3,s4]/\Lb n (dbl ps) L/\Rd1 n (dbl ps) t L)
  (by
   rintro i d ρ hd ⟨L,s2,s3,s4,rfl,B,hR⟩;obtain⟨rfl,hlt⟩:=m6 hd;obtain⟨L',s3',s4',e,B',k1,k2⟩:=aCh (w:=.sh (owD n ps)) (s2:=.sh (.int (0+(i:Int)))) hpr ps L s3 s4 (λ _ h=>h) B;refine⟨[.sh (owD n ps),.ow (.lst (L'.map .int)),.sh (.int (0+(i:Int))),s3',s4'],?_,L',_,_,_,rfl,B',λ l a b h0 h1 P hl=>?_⟩
   .show lsO [.sh (owD n ps),.ow (.lst (L.map .int)),.sh (.int (0+(i:Int))),s3,s4]=_
    have hi:bu (op2 ixD (aD 0) (cD (.int 1))) [.sh (owD n ps),.ow (.lst (L.map .int)),.sh (.int (0+(i:Int))),s3,s4]= .ok (ps.map pD):=by simp[owD]
    rw[lsO,cM,hi,bF,e]
   .match l,P,hl with
    |[],P,_=>cases P.hd
    |[x],P,_=>
     have e1:=P.hd;have e2:=P.lt;cases e1;cases e2;exact(B'.cn a h0 h1).2.1
    |x::y::r,P,hl=>
     have e1:=P.hd;cases e1;obtain⟨q1,q2⟩:=aKd hin P.al;have hy:=hR (y::r) y b q2.1 q2.2 ⟨rfl,by have:=P.lt;simpa using this,by have:=P.al;rw[b7,zAN]at this;exact this.2⟩ (by simp at hl ⊢;lia)
     have:gL L' a<=gL L y:=by
      rcases b8.mp q1 with z|z
      .exact(k2 _ z).1
      .exact(k2 _ z).2
     lia)
  (ρ:=[.sh (owD n ps),.ow (.lst ((upI n).map .int)),.no,.no,.no]) ⟨upI n,.no,.no,.no,rfl,⟨cF n,λ x h0 h1=>by rw[g0 x h0 h1];exact⟨.refl,zDk _,h0⟩⟩,λ l a b h0 h1 P hl=>by
   rw[g0 a h0 h1]
   match l,P,hl with
   |[],P,_=>cases P.hd
   |[x],P,_=>
    have e1:=P.hd;have e2:=P.lt;cases e1;cases e2;exact zDk _
   |x::y::r,P,hl=>simp at hl⟩
 refine⟨L,s2,s3,s4,e,B,λ a h0 h1 b hc=>?_⟩;obtain⟨l,P,nd⟩:=hc.path;refine hR l a b h0 h1 P ?_;have aS:∀x∈l,x∈upI n:=λ x hx=>by
  cases l with
  |nil=>cases hx
  |cons y r=>
   have e1:=P.hd;cases e1;exact bI.mpr ((aCZ P.al x hx).inn hin ⟨h0,h1⟩)
 have:=sub_len nd aS
 rw[cF]at this;rw[gD];lia
def aBV(h:Ow n ps):jY [owD n ps]= .ok (.lst ((az n (dbl ps)).map tupI)):=by
 obtain⟨L,s2,s3,s4,e,B,hmin⟩:=aE3 h;have hn0:=h.n0;have hn1:=h.n1;have hLl:=B.len;have st:aj 5 [owD n ps]=[.sh (owD n ps),.no,.no,.no,.no]:=rfl;have hlr:=aIc (f:=op2 ixD (aD 0) (cD (.int 0))) (ρ:=[.sh (owD n ps),.no,.no,.no,.no]) (n:=n) (by simp[owD]) h.n0 h.n1;have hr:=jh (j:=n) (by lia) (by lia);have hS:sortI (ddI L)=(upI n).filter (bK (dbl ps)):=by
  refine aDx (tO (iw L)) ((nT n).filter _) λ x=>?_
  rw[(sortI_perm _).mem_iff,uD,zAa,bI,cB];constructor
  .intro hx
   obtain⟨i,hi,rfl⟩:=zBk hx;have hg:gL L (i:Int)=L[i]:=by unfold gL;rw[zCX,zA3,zAD hi];rfl
   have c:=B.cn (i:Int) (by lia) (by lia);rw[hg]at c;refine⟨⟨c.2.2,by lia⟩,λ b hb hc=>?_⟩
   have:=hmin (i:Int) (by lia) (by lia) b (c.1.trans hc)
   rwa [hg]at this
  .rintro⟨⟨h0,h1⟩,hl⟩
   have c:=B.cn x h0 h1;have e1:=hl _ c.2.2 c.1;have e2:gL L x=x:=by lia
   rw[<-e2];unfold gL;rw[zA3,zAD (show x.toNat<L.length by lia)];exact zCH _
 have c0:iT 1 (lrD (op2 ixD (aD 0) (cD (.int 0)))) [.sh (owD n ps),.no,.no,.no,.no]= .nx [.sh (owD n ps),.ow (.lst ((upI n).map .int)),.no,.no,.no]:=by
  rw[aKJ,hlr,bF,vA];rfl
 have c1:gB (ig kW (aC (op2 ixD (aD 0) (cD (.int 0))) aJ)) (gnm 2) lsO [.sh (owD n ps),.ow (.lst ((upI n).map .int)),.no,.no,.no]= .nx [.sh (owD n ps),.ow (.lst (L.map .int)),s2,s3,s4]:=by
  have hi:ig kW (aC (op2 ixD (aD 0) (cD (.int 0))) aJ) [.sh (owD n ps),.ow (.lst ((upI n).map .int)),.no,.no,.no]= .ok (bN 0 n):=by simp[owD,hr]
  rw[cM,hi,bF,e]
 have c2:lsR [.sh (owD n ps),.ow (.lst (L.map .int)),s2,s3,s4]= .ok (.lst ((az n (dbl ps)).map tupI)):=by
  have hs:ou [.lst (L.map .int)]= .ok (.lst ((sortI (ddI L)).map .int)):=by
   unfold ou;dsimp only;rw[dq];dsimp only;rw[if_pos (by lia)]
  rw[hS]at hs;refine ik (ds:=((upI n).filter (bK (dbl ps))).map .int) (by simp[shE,oW,hs]) (by
   rw[zAE]
   have:=zBZ (bK (dbl ps)) (upI n)
   rw[cF]at this;lia) ?_
  unfold az;rw[zAi];refine sS _ λ a ha=>⟨[.sh (.int a),.sh (owD n ps),.sh (.lst (L.map .int))],rfl,?_⟩
  obtain⟨ha1,ha2⟩:=zAa.mp ha;have ha0:=bI.mp ha1;rw[cB]at ha2;have hc:lcD (ig kW (aC (op2 ixD (aD 1) (cD (.int 0))) aJ)) [none,some 2,some 0] (gnm 0) (tsb (op2 (eqR false) (op2 ixD (aD 1) (aD 0)) (aD 2))) (bH (aD 0)) [.sh (.int a),.sh (owD n ps),.sh (.lst (L.map .int))]= .ok (.lst ((bM n (dbl ps) a).map .int)):=by
   refine ik (ds:=(upI n).map .int) (by rw[<-vA];simp[shE,oW,owD,hr]) (by rw[zAE,cF];lia) ?_;have ef:bM n (dbl ps) a=(upI n).filter λ b=>gL L b==a:=by
    unfold bM;refine zCm λ b hb=>?_
    have hb0:=bI.mp hb;have c:=B.cn b hb0.1 hb0.2;rw[zBI,aBF,beq_iff_eq];constructor
    .intro hab
     have q1:=ha2 _ c.2.2 (hab.trans c.1);have q2:=hmin b hb0.1 hb0.2 a (hab.symm (gG ps));lia
    .intro hg
     rw[hg]at c;exact c.1.symm (gG ps)
   rw[ef];refine lO (upI n) λ b hb=>⟨[.sh (.int b),.sh (.lst (L.map .int)),.sh (.int a)],rfl,?_,?_⟩
   .have hb0:=bI.mp hb
    have:=aGJ (L:=L) hb0.1 (by lia)
    simp[this]
   .simp
  rw[lsI,iG,bQ,hc];simp[tupI]
 simp only[jY,gj,bA,st];rw[aK,c0,aU,aK,c1,aU,jM,c2];rfl
end
def pl(p:Int×Int):List Int:=[p.1,p.2]
def aJz(p:Int×Int):tupI (pl p)=pD p:=rfl
def aIO{p q:Int×Int}(h:pl p=pl q):p=q:=by
 unfold pl at h;injection h with h1 h2
 injection h2 with h2 _
 exact zFh h1 h2
def zY{ps:gX}(nd:ps.Nodup):∃qs:gX,o9 (ps.map pl)=qs.map pl/\qs.Perm ps/\vC qs=true:=by
 obtain⟨qs,q1,q2⟩:=nj (f:=pl) (nW (ps.map pl)) rfl;refine⟨qs,q2,q1,aBC.mpr λ i p q e1 e2=>?_⟩;have hr:=o8 (ps.map pl);rw[q2]at hr;have hnd:qs.Nodup:=q1.nodup_iff.mpr nd;have h1:=(zAJ.mp e1).1;have h2:=(zAJ.mp e2).1;have f1:(qs.map pl)[i]'(by simpa using h1)=pl p:=by
  rw[zCw,(zAJ.mp e1).2]
 have f2:(qs.map pl)[i+1]'(by simpa using h2)=pl q:=by
  rw[zCw,(zAJ.mp e2).2]
 have z:=zAx.mp hr i (i+1) (by simpa using h1) (by simpa using h2) (by omega);rw[f1,f2]at z;have hne:p≠q:=λ e=>by
  subst e
  have:=(zCU h1 hnd).mp (e1.trans e2.symm)
  omega
 show HT.lexLt (pl p) (pl q)=true;cases c:HT.lexLt (pl p) (pl q)with
 |true=>rfl
 |false=>exact absurd (aIO (yQ _ _ c z)) hne
def aGQ(ps:gX):oY (ps.map pD)=some (ps.map pl):=by
 have:=rC (nss:=ps.map pl) λ ns h=>by
  obtain⟨p,_,rfl⟩:=zAS.mp h;simp[pl]
 rw[zAi]at this;exact this
def rF{ps:gX}(nd:ps.Nodup)(h:ps.length<64):∃qs:gX,iU [.lst (ps.map pD)]= .ok (.lst (qs.map pD))/\qs.Perm ps/\vC qs=true:=by
 obtain⟨qs,q1,q2,q3⟩:=zY nd;refine⟨qs,?_,q2,q3⟩;unfold iU;dsimp only;rw[aGQ];dsimp only;rw[if_pos (by rw[zAE];exact h),q1,zAi];exact congrArg (λ l=>Rs.ok (D.lst l)) (zAw λ p _=>aJz p)
def mnI(a b:Int):Int:=if b<a then b else a
def mxI(a b:Int):Int:=if b>a then b else a
def aP0{a b a' b':Int}(h:mnI a b=mnI a' b')(h':mxI a b=mxI a' b'):b=a'\/b=b':=by
 unfold mnI at h;unfold mxI at h';split at h<;>split at h<;>split at h'<;>split at h'<;>lia
def aOm{a b:Int}(h:a≠b):mnI a b<mxI a b:=by
 unfold mnI mxI;split<;>split<;>lia
def aI8{a b:Int}(P:Int->Prop)(ha:P a)(hb:P b):P (mnI a b)/\P (mxI a b):=by
 unfold mnI mxI;constructor<;>split<;>assumption
abbrev foV(c most n kd:Int)(O:List Int)(ps:gX)(s6 s7:Slot):En:=[.sh (.int c),.sh (.int most),.sh (.int n),.sh (.int kd),.nw (.lst (O.map .int)),.ow (.lst (ps.map pD)),s6,s7]
section
variable{c most n kd:Int}{O:List Int}
def aI1{s4 s5 s6 s7:Slot}(h0:0<=n)(h1:n<=60):∃O:List Int,foO [.sh (.int c),.sh (.int most),.sh (.int n),.sh (.int kd),s4,s5,s6,s7]= .ok (.lst (O.map .int))/\O.Perm (upI n):=by
 have hr:=jh (j:=n) (by lia) (by lia);have hd:∀i:Int,∃r:Int,0<=i->i<n->aQ [.int c,.int (200+i),.int 97]= .ok (.int r):=λ i=>by
  by_cases q:0<=i/\i<n
  .obtain⟨r,e,_⟩:=ji (c:=c) (k:=200+i) (b:=97) (by lia) (by lia) (by decide) (by decide)
   exact⟨r,λ _ _=>e⟩
  .exact⟨0,λ a b=>absurd ⟨a,b⟩ q⟩
 obtain⟨f,hf⟩:=Classical.skolem.mp hd;have e1:∀ρ:En,ρ=shE [.sh (.int c),.sh (.int most),.sh (.int n),.sh (.int kd),s4,s5,s6,s7]->lcD (ig kW (aC (aD 2) aJ)) [none,some 0] (gnm 0) ju (gM (aC (aP aQ (aC (aD 1) (aC (op2 fX (cD (.int 200)) (aD 0)) (aC (cD (.int 97)) aJ)))) (aC (bH (aD 0)) aJ))) ρ= .ok (.lst (((upI n).map λ i=>(f i,i)).map pD)):=λ ρ e=>by
  subst e;refine ik (ds:=(upI n).map .int) (by rw[<-vA];simp[shE,oW,shS,hr]) (by rw[zAE,cF];lia) ?_;rw[zAi];refine sS (f:=D.int) (g:=λ i=>pD (f i,i)) (upI n) λ i hi=>⟨[.sh (.int i),.sh (.int c)],rfl,?_⟩
  have hi':=bI.mp hi;simp[hf i hi'.1 hi'.2,pD]
 have nd:((upI n).map λ i=>(f i,i)).Nodup:=by
  rw[zAc,zB0];exact(nT n).imp λ{a b} h e=>by
   have:=congrArg zFi e
   dsimp only at this;lia
 obtain⟨qs,q1,q2,q3⟩:=rF nd (by rw[zAE,cF];lia);have hql:qs.length<=60:=by rw[q2.length_eq,zAE,cF];lia
 refine⟨qs.map (·.2),?_,?_⟩
 .unfold foO
  refine ik (ds:=qs.map pD) ?_ (by rw[zAE];lia) ?_
  .rw[aFs,iG,bQ,e1 _ rfl]
   simp[q1,-zAi]
  .rw[zAi]
   refine sS (f:=pD) (g:=λ p=>.int p.2) qs λ p hp=>⟨[.sh (pD p)],rfl,?_⟩
   simp[pD]
 .have:=q2.map (·.2)
  rw[zAi]at this;simpa[zGh]using this
inductive Fr:gX->Prop where
 |nil:Fr []
 |snoc {ps:gX} {a b:Int} (h:Fr ps) (ne:a≠b) (no:∀p∈ps,p.1≠b/\p.2≠b):Fr (ps++[(mnI a b,mxI a b)])
structure Fo(O:List Int)(v:Nat)(ps:gX):Prop where
 nd:ps.Nodup
 fr:Fr ps
 at_:∀p∈ps,∃(i j:Nat) (a b:Int),i<j/\j<v/\O[i]? =some a/\O[j]? =some b/\p=(mnI a b,mxI a b)
def Fo.up{ps:gX}{v:Nat}(F:Fo O v ps):Fo O (v+1) ps:=⟨F.nd,F.fr,λ p hp=>by
 obtain⟨i,j,a,b,h1,h2,h3⟩:=F.at_ p hp;exact⟨i,j,a,b,h1,by lia,h3⟩⟩
theorem Fo.snoc{ps:gX}{v i:Nat}{a b:Int}(hO:O.Nodup)(F:Fo O v ps)(hi:i<v)(ha:O[i]? =some a)(hb:O[v]? =some b):Fo O (v+1) (ps++[(mnI a b,mxI a b)]):=by
 have hne:∀{k:Nat} {x:Int},k<v->O[k]? =some x->x≠b:=λ{k x} hk hx e=>by
  subst e
  have:=(zCU (zAJ.mp hb).1 hO).mp (hb.trans hx.symm)
  lia
 refine⟨?_,.snoc F.fr (hne hi ha) λ p hp=>?_,λ p hp=>?_⟩
 rotate_left
 .obtain⟨i',j',a',b',h1,h2,h3,h4,rfl⟩:=F.at_ p hp
  exact aI8 (λ x=>x≠b) (hne (by lia) h3) (hne h2 h4)
 rotate_left
 .rw[zAb]
  refine⟨F.nd,by simp,λ p hp q hq e=>?_⟩;rw[zAI]at hq;subst hq;obtain⟨i',j',a',b',h1,h2,h3,h4,rfl⟩:=F.at_ p hp;have hv:=(zAJ.mp hb).1;rcases aP0 (congrArg zFK e).symm (congrArg zFi e).symm with z|z
  .subst z
   have:=(zCU hv hO).mp (hb.trans h3.symm)
   lia
  .subst z
   have:=(zCU hv hO).mp (hb.trans h4.symm)
   lia
 .rcases zAU.mp hp with z|z
  .exact F.up.at_ p z
  .rw[zAI]at z
   exact⟨i,v,a,b,hi,by lia,ha,hb,z⟩
def aNx{ps:gX}{v:Nat}{s7:Slot}(hO:O.Nodup)(hv:v<O.length)(hv0:0<v)(hv2:v<60)(hk0:0<=kd)(hk:kd<4)(hl:ps.length<=v)(F:Fo O v ps):
  ∃ps' s7',foB (foV c most n kd O ps (.sh (.int (v:Int))) s7)= .nx (foV c most n kd O ps' (.sh (.int (v:Int))) s7')/\ps'.length<=v+1/\Fo O (v+1) ps':=by
 obtain⟨r3,e3,h3⟩:=ji (c:=c) (k:=300+(v:Int)) (b:=(v:Int)) (by lia) (by lia) (by lia) (by lia);obtain⟨r4,e4,h4⟩:=ji (c:=c) (k:=400+(v:Int)) (b:=3) (by lia) (by lia) (by decide) (by decide);obtain⟨r5,e5,h5⟩:=ji (c:=c) (k:=500+(v:Int)) (b:=(v:Int)) (by lia) (by lia) (by lia) (by lia);obtain⟨r6,e6,h6⟩:=ji (c:=c) (k:=600+(v:Int)) (b:=9) (by lia) (by lia) (by decide) (by decide);have f2:lX (.int (v:Int)) (.int 2)= .ok (.int ((v:Int) / 2)):=qW (by decide) (by decide);have f4:lX (.int (v:Int)) (.int 4)= .ok (.int ((v:Int) / 4)):=qW (by decide) (by decide);obtain⟨d,ed,hd,_⟩:=aJd (l:=[.int ((v:Int)-1),.int ((v:Int) / 2),.int ((v:Int) / 4),.int (r3:Int)]) (i:=kd) hk0 (by simpa using hk);obtain⟨u,rfl,hu⟩:∃u:Nat,d= .int (u:Int)/\u<v:=by
  simp only[zAL,zAf,or_false]at hd;rcases hd with rfl|rfl|rfl|rfl
  .exact⟨v-1,by congr 1;lia,by lia⟩
  .exact⟨v / 2,by congr 1,by lia⟩
  .exact⟨v / 4,by congr 1,by lia⟩
  .exact⟨r3,rfl,by lia⟩
 have g1:ur 7 (op2 ixD (fj (aC (op2 aAj (aD 6) (cD (.int 1))) (aC (op2 lX (aD 6) (cD (.int 2))) (aC (op2 lX (aD 6) (cD (.int 4))) (aC (aP aQ (aC (aD 0) (aC (op2 fX (cD (.int 300)) (aD 6)) (aC (aD 6) aJ)))) aJ))))) (aD 3)) (foV c most n kd O ps (.sh (.int (v:Int))) s7)= .nx (foV c most n kd O ps (.sh (.int (v:Int))) (.nw (.int (u:Int)))):=by simp[e3,f2,f4,ed]
 obtain⟨t,ht,g2⟩:∃t:Nat,t<v/\ifS (tsb (op2 (eqR false) (aP aQ (aC (aD 0) (aC (op2 fX (cD (.int 400)) (aD 6)) (aC (cD (.int 3)) aJ)))) (cD (.int 0)))) (ur 7 (aP aQ (aC (aD 0) (aC (op2 fX (cD (.int 500)) (aD 6)) (aC (aD 6) aJ))))) Ou.nx (foV c most n kd O ps (.sh (.int (v:Int))) (.nw (.int (u:Int))))= .nx (foV c most n kd O ps (.sh (.int (v:Int))) (.nw (.int (t:Int)))):=by
  by_cases q:r4=0
  .exact⟨r5,by lia,by simp[e4,e5,q]⟩
  .exact⟨u,hu,by simp[e4,q]⟩
 have htl:t<O.length:=by lia
 obtain⟨a,ha⟩:∃a,O[t]? =some a:=⟨_,zAD htl⟩
 obtain⟨b,hb⟩:∃b,O[v]? =some b:=⟨_,zAD hv⟩
 have xa:atD (O.map .int) (t:Int)= .ok (.int a):=fW (by rw[zA2,ha];rfl);have xb:atD (O.map .int) (v:Int)= .ok (.int b):=fW (by rw[zA2,hb];rfl);have hz:ps.length<16777216:=by lia
 by_cases q:0<r6
 .refine⟨ps++[(mnI a b,mxI a b)],.nw (.int (t:Int)),?_,by simp;lia,F.snoc hO ht ha hb⟩
  rw[foB,aK,g1,aU,aK,g2,aU];simp[e6,q,xa,xb,lC,hz,pD,mnI,mxI]
 .refine⟨ps,.nw (.int (t:Int)),?_,by lia,F.up⟩
  rw[foB,aK,g1,aU,aK,g2,aU];simp[e6,q]
def zu{most:Nat}(h1:most<=60):∃n ps,iM [.int c,.int most]= .ok (owD n ps)/\Ow n ps/\(∀p∈ps,p.1<p.2)/\n<=most/\∃rs,ps.Perm rs/\Fr rs:=by
 obtain⟨n,en,hn⟩:=ji (c:=c) (k:=0) (b:=(most:Int)+1) (by decide) (by decide) (by lia) (by lia);obtain⟨kd,ek,hk⟩:=ji (c:=c) (k:=1) (b:=4) (by decide) (by decide) (by decide) (by decide);obtain⟨O,eO,hO⟩:=aI1 (c:=c) (most:=most) (n:=n) (kd:=kd) (s4:=.no) (s5:=.no) (s6:=.no) (s7:=.no) (by lia) (by lia);have hnd:O.Nodup:=hO.nodup_iff.mpr (by
  rw[zAc];exact(nT n).imp λ h=>by lia)
 have kQ:O.length=n:=by rw[hO.length_eq,cF];lia
 have aE:∀a∈O,0<=a/\a<(n:Int):=λ a ha=>bI.mp (hO.mem_iff.mp ha)
 have hr:=aFU (i:=1) (j:=(n:Int)) (by decide) (by decide) (by lia) (by lia);have hrl:(bN 1 (n:Int)).length<=60:=by rw[gD];lia
 obtain⟨ρ',e,ps,s6,s7,rfl,hl,F⟩:=my (a:=gnm 6) (u:=foB) (ds:=bN 1 n)
  (λ i ρ=>∃(ps:gX) (s6 s7:Slot),ρ=foV c most n kd O ps s6 s7/\ps.length<=i+1/\Fo O (i+1) ps)
  (by
   rintro i d ρ hd ⟨ps,s6,s7,rfl,hps,F⟩;obtain⟨rfl,hlt⟩:=m6 hd;have hi:((1:Int)+(i:Int))=((i+1:Nat):Int):=by lia
   rw[hi];obtain⟨ps',s7',e,l',F'⟩:=aNx (c:=c) (most:=most) (n:=n) (kd:=kd) (v:=i+1) (s7:=s7) hnd (by lia) (by lia) (by lia) (by lia) hk hps F;exact⟨_,e,ps',_,s7',rfl,l',F'⟩)
  (ρ:=foV c most n kd O [] .no .no) ⟨[],.no,.no,rfl,by simp,⟨by simp,.nil,λ p hp=>(nomatch hp)⟩⟩
 have hps60:ps.length<=61:=by lia
 obtain⟨qs,q1,q2,q3⟩:=rF F.nd (by lia);have hq:∀p∈qs,(0<=p.1/\p.1<(n:Int))/\(0<=p.2/\p.2<(n:Int))/\p.1<p.2:=λ p hp=>by
  obtain⟨i,j,a,b,h1,h2,h3,h4,rfl⟩:=F.at_ p (q2.mem_iff.mp hp);have hne:a≠b:=λ e=>by
   subst e
   have:=(zCU (zAJ.mp h3).1 hnd).mp (h3.trans h4.symm)
   lia
  obtain⟨m1,m2⟩:=aI8 (λ x=>0<=x/\x<(n:Int)) (aE a (zBH h3)) (aE b (zBH h4));exact⟨m1,m2,aOm hne⟩
 have hpl:ps.length<=n:=by
  rcases Nat.eq_zero_or_pos n with z|z
  .have:ps=[]:=by
    cases ps with
    |nil=>rfl
    |cons p ps=>
     obtain⟨m1,_⟩:=hq p (q2.mem_iff.mpr zAH);lia
   rw[this];exact zAj _
  .rw[gD]at hl
   lia
 refine⟨n,qs,?_,⟨by lia,by lia,by rw[q2.length_eq];lia,λ p hp=>?_,q3⟩,λ p hp=>(hq p hp).2.2,by lia,ps,q2,F.fr⟩
 .have st:aj 8 [.int c,.int most]=[.sh (.int c),.sh (.int most),.no,.no,.no,.no,.no,.no]:=rfl
  have g1:eF 2 (aP aQ (aC (aD 0) (aC (cD (.int 0)) (aC (op2 fX (aD 1) (cD (.int 1))) aJ)))) [.sh (.int c),.sh (.int most),.no,.no,.no,.no,.no,.no]= .nx [.sh (.int c),.sh (.int most),.sh (.int n),.no,.no,.no,.no,.no]:=by simp[en]
  have g2:eF 3 (aP aQ (aC (aD 0) (aC (cD (.int 1)) (aC (cD (.int 4)) aJ)))) [.sh (.int c),.sh (.int most),.sh (.int n),.no,.no,.no,.no,.no]= .nx [.sh (.int c),.sh (.int most),.sh (.int n),.sh (.int kd),.no,.no,.no,.no]:=by simp[ek]
  have g3:ur 4 foO [.sh (.int c),.sh (.int most),.sh (.int n),.sh (.int kd),.no,.no,.no,.no]= .nx [.sh (.int c),.sh (.int most),.sh (.int n),.sh (.int kd),.nw (.lst (O.map .int)),.no,.no,.no]:=by rw[wg,eO];rfl
  have g4:iT 5 (fj aJ) [.sh (.int c),.sh (.int most),.sh (.int n),.sh (.int kd),.nw (.lst (O.map .int)),.no,.no,.no]= .nx (foV c most n kd O [] .no .no):=rfl;have g5:ig aDv (aC (cD (.int 1)) (aC (aD 2) aJ)) (foV c most n kd O [] .no .no)= .ok (bN 1 n):=by simp[hr]
  simp only[iM,fQ,bA,st];rw[aK,g1,aU,aK,g2,aU,aK,g3,aU,aK,g4,aU,aK,cM,g5,bF,e,aU];simp[q1,owD]
 .obtain⟨⟨a1,a2⟩,⟨b1,b2⟩,lt⟩:=hq p hp
  exact⟨a1,a2,b1,b2,by lia⟩
end
def aFf:ltP p q=true↔p.1<q.1\/p.1=q.1/\p.2<q.2:=by
 unfold ltP;have e:HT.lexLt [p.1,p.2] [q.1,q.2]=true↔p.1<q.1\/p.1=q.1/\p.2<q.2:=by
  by_cases h1:p.1=q.1
  .by_cases h2:p.2=q.2
   .simp[HT.lexLt,h1,h2]
   .simp[HT.lexLt,h1,h2]
  .simp[HT.lexLt,h1]
 exact e
def xu{ps:gX}:vC ps=true↔ps.Pairwise λ p q=>p.1<q.1\/p.1=q.1/\p.2<q.2:=by
 constructor
 .intro h
  have h':=aBC.mp h;clear h;induction ps with
  |nil=>exact .nil
  |cons p ps ih=>
   have hs:∀(i:Nat) (p q:Int×Int),ps[i]? =some p->ps[i+1]? =some q->ltP p q=true:=λ i a b e1 e2=>h' (i+1) a b e1 e2
   have hp:=ih hs;refine zAg.mpr ⟨λ q hq=>?_,hp⟩;cases ps with
   |nil=>cases hq
   |cons r rs=>
    have h1:=aFf.mp (h' 0 p r rfl rfl);rcases zAL.mp hq with rfl|hq
    .exact h1
    .have h2:=(zAg.mp hp).1 q hq
     lia
 .intro h
  rw[aBC];intro i p q e1 e2;rw[aFf];obtain⟨h1,rfl⟩:=zAJ.mp e1;obtain⟨h2,rfl⟩:=zAJ.mp e2;exact zAx.mp h i (i+1) h1 h2 (zBx i)
def aG8(h0:0<=n)(h1:n<=60):(az n (dbl ps)).length<=60:=by
 unfold az;rw[zAE]
 have:=zBZ (bK (dbl ps)) (upI n)
 rw[cF]at this;lia
def aBZ{n:Int}{ps:gX}(h:Ow n ps)(low:∀p∈ps,p.1<p.2):jZ [owD n ps]= .ok (.bl (((az n (dbl ps)).length:Int)==n-(ps.length:Int))):=by
 have e:=aC0 h low;have st:aj 1 [owD n ps]=[.sh (owD n ps)]:=rfl;have h0:ixD (owD n ps) (.int 0)= .ok (.int n):=by simp[owD]
 have h1:ixD (owD n ps) (.int 1)= .ok (.tup (ps.map pD)):=by simp[owD]
 simp only[jZ,gm,bA,st];simp[e,h0,h1]
theorem pM:∀{ts:List D},ts.all (bJ n)=true->(ts.map intOf).map D.int=ts
 |[],_=>rfl
 |t::ts,h=>by
  rw[zDH,zAN]at h;obtain⟨a,rfl,_⟩:=qM h.1;rw[zAM,zAM,pM h.2];rfl
def wQ(m:Int):D->Bool
 | .tup ts=>ts.all (bJ m)&&sE ltI (ts.map intOf)
 |_=>false
def aAC(h:pln d=true)(hs:xX d=true):fZ [.int m,d]= .ok (.bl (wQ m d)):=by
 cases d with
 |tup ts=>
  have hp:qd ts=true:=by simpa[pln]using h
  have hl:ts.length<=100000:=by simpa[xX]using hs
  have L:=qU (a:=gnm 2) (u:=ifS (gU (tst (aP du (aC (aD 0) (aC (aD 2) aJ))))) (retS (cD (.bl false))) Ou.nx) (r:=.bl false)
   ts (λ i=>match ts[i]? with|some t=>bJ m t|none=>true) (λ ρ=>∃s,ρ=[.sh (.int m),.sh (.tup ts),s]) [.sh (.int m),.sh (.tup ts),.no] ⟨_,rfl⟩ (by
    rintro i d ρ hd ⟨s,rfl⟩;have e:=pU (m:=m) (iD (pL hp (zBH hd)));simp only[hd];cases c:bJ m d with
    |true=>right;exact⟨_,by simp[e,c];rfl,⟨_,rfl⟩,rfl⟩
    |false=>left;exact⟨by simp[e,c],rfl⟩)
  have st:aj 3 [.int m,.tup ts]=[.sh (.int m),.sh (.tup ts),.no]:=rfl;rcases L with ⟨e,i,hi,o⟩|⟨ρ',e,⟨s,rfl⟩,o⟩
  .have:ts.all (bJ m)=false:=by
    rw[zH5];rw[zAD hi]at o;exact⟨ts[i],zCH hi,by simpa using o⟩
   simp only[fZ,dD,bA,st];simp[e,wQ,this]
  .have:ts.all (bJ m)=true:=by
    rw[zAr];intro t ht;obtain⟨i,hi,rfl⟩:=zBk ht
    have:=o i hi
    rw[zAD hi]at this;exact this
   have er:=aDI (ps:=ts.map intOf) (by rw[zAE];exact hl);rw[pM this]at er;simp only[fZ,dD,bA,st];simp[e,wQ,this,er]
 |_=>simp[fZ,dD,aj,il (iD h),mL,wQ]
def wZ(h:pln d=true)(hs:xX d=true):iQ [.int m,d]=if wQ m d=true then .ok .non else .ex "NoPlace":=by
 have st:aj 2 [.int m,d]=[.sh (.int m),.sh d]:=rfl;simp only[iQ,dR,bA,st];cases c:wQ m d<;>simp[aAC h hs,c]
theorem aFz{x:Int}:∀{l:List Int},x∈l->∃j,aB2 x l=some j/\l[j]? =some x
 |a::l,h=>by
  unfold aB2;by_cases c:a=x
  .subst c
   exact⟨0,if_pos rfl,rfl⟩
  .rw[if_neg c]
   obtain⟨j,h1,h2⟩:=aFz ((zAL.mp h).resolve_left λ z=>c z.symm);exact⟨j+1,by rw[h1];rfl,h2⟩
def bL(n:Int)(ws:List Int):List Int:=(upI n).filter λ x=>!decide (x∈ws)
def ixK(ks:List Int)(x:Int):Int:=((aB2 x ks).getD 0:Nat)
def o7(ks:List Int)(p:Int×Int):Bool:=decide (p.1∈ks)&&decide (p.2∈ks)
def lN(ks:List Int)(ps:gX):gX:=(ps.filter (o7 ks)).map λ p=>(ixK ks p.1,ixK ks p.2)
section
variable{n:Int}{ps:gX}{ws ks:List Int}
def aDF:(bL n ws).Pairwise (·< ·):=(nT n).filter _
def aDG(h0:0<=n):((bL n ws).length:Int)<=n:=by
 have:=zBZ (λ x=>!decide (x∈ws)) (upI n)
 rw[cF]at this;unfold bL;lia
def aFp{x:Int}(h:x∈ks):∃j:Nat,aB2 x ks=some j/\ixK ks x=(j:Int)/\ks[j]? =some x:=by
 obtain⟨j,h1,h2⟩:=aFz h;exact⟨j,h1,by unfold ixK;rw[h1];rfl,h2⟩
def lR(hr:ks.Pairwise (·< ·)){x y:Int}(hx:x∈ks)(hy:y∈ks)(h:x<y):ixK ks x<ixK ks y:=by
 obtain⟨i,_,e1,f1⟩:=aFp hx;obtain⟨j,_,e2,f2⟩:=aFp hy;rw[e1,e2];have hi:=(zAJ.mp f1).1;have hj:=(zAJ.mp f2).1;by_cases c:i<j
 .lia
 .exfalso
  have g1:=(zAJ.mp f1).2;have g2:=(zAJ.mp f2).2;by_cases c2:i=j
  .subst c2
   rw[g1]at g2;lia
  .have:=zAx.mp hr j i hj hi (by lia)
   lia
def aMV{x:Int}(h:x∈ks):0<=ixK ks x/\ixK ks x<(ks.length:Int):=by
 obtain⟨j,_,e,f⟩:=aFp h
 have:=(zAJ.mp f).1
 rw[e];lia
def mj{p:Int×Int}(h:p∈ps.filter (o7 ks)):p∈ps/\p.1∈ks/\p.2∈ks:=by
 obtain⟨h1,h2⟩:=zAa.mp h;unfold o7 at h2;rw[zAN,decide_eq_true_eq,decide_eq_true_eq]at h2;exact⟨h1,h2⟩
def aFj(h:Ow n ps)(low:∀p∈ps,p.1<p.2):Ow ((bL n ws).length:Int) (lN (bL n ws) ps)/\∀p∈lN (bL n ws) ps,p.1<p.2:=by
 have hr:=aDF (n:=n) (ws:=ws);have hl:=aDG (ws:=ws) h.n0;have hn1:=h.n1;refine⟨⟨by lia,by lia,?_,λ p hp=>?_,?_⟩,λ p hp=>?_⟩
 .unfold lN
  rw[zAE];exact zAn (zBZ _ _) h.len
 .obtain⟨q,hq,rfl⟩:=zAS.mp hp
  obtain⟨h1,h2,h3⟩:=mj hq;have a1:=aMV h2;have a2:=aMV h3;have a3:=lR hr h2 h3 (low q h1);exact⟨a1.1,a1.2,a2.1,a2.2,by show ixK _ q.1≠ixK _ q.2;lia⟩
 .rw[xu]
  unfold lN;rw[zB0];have hps:=(xu.mp h.ris).filter (o7 (bL n ws));refine hps.imp_of_mem λ{p q} hp hq hpq=>?_
  obtain⟨_,p1,p2⟩:=mj hp;obtain⟨_,q1,q2⟩:=mj hq;rcases hpq with z|⟨z1,z2⟩
  .exact .inl (lR hr p1 q1 z)
  .exact .inr ⟨by show ixK _ p.1=ixK _ q.1;rw[z1],lR hr p2 q2 z2⟩
 .obtain⟨q,hq,rfl⟩:=zAS.mp hp
  obtain⟨h1,h2,h3⟩:=mj hq;exact lR hr h2 h3 (low q h1)
def aLN{ρ:En}{fi:En->Rs (List D)}{js:hV}(h0:0<=n)(h1:n<=60)(hf:fi (shE ρ)= .ok (bN 0 n))(hs:stE js (shE ρ)=[.no,.sh (tupI ws)]):
  lcD fi js (gnm 0) (tsb (op2 (inR true) (aD 0) (aD 1))) (bH (aD 0)) ρ= .ok (.lst ((bL n ws).map .int)):=by
 rw[vA]at hf;exact yM (i:=0) (j:=0) hf (.inl hs) (by rw[cF];lia)
def aG4(ws:List Int):pln (tupI ws)=true:=by unfold tupI pln;exact yF ws
def aCy(h:Ow n ps):lD [owD n ps,tupI ws]= .ok (owD ((bL n ws).length:Int) (lN (bL n ws) ps)):=by
 have hn0:=h.n0;have hn1:=h.n1;have hkl:=aDG (ws:=ws) hn0;have hps:=h.len;have st:aj 4 [owD n ps,tupI ws]=[.sh (owD n ps),.sh (tupI ws),.no,.no]:=rfl;have hr:=jh (j:=n) (by lia) (by lia);have c0:llK [.sh (owD n ps),.sh (tupI ws),.no,.no]= .ok (.lst ((bL n ws).map .int)):=aLN hn0 hn1 (by simp[shE,oW,owD,hr]) rfl;have c1:llT [.sh (owD n ps),.sh (tupI ws),.nw (.lst ((bL n ws).map .int)),.no]= .ok (.lst ((ps.filter (o7 (bL n ws))).map pD)):=by
  refine ik (ds:=ps.map pD) (by simp[shE,oW,owD]) (by rw[zAE];lia) (lO ps λ p hp=>⟨[.sh (pD p),.sh (.lst ((bL n ws).map .int))],rfl,?_,?_⟩)
  .have i1:=uH false p.1 (bL n ws)
   have i2:=uH false p.2 (bL n ws);simp only[aGL,rD,iH,aAe,aD2,zDI,zC3,aZ,pD,aFr,aPB,aPA,dM,i1,i2,zT];unfold o7;cases decide (p.1∈bL n ws)<;>rfl
  .have:uK (pD p)= .ok (pD p):=rfl
   simp[this]
 have c2:llL [.sh (owD n ps),.sh (tupI ws),.nw (.lst ((bL n ws).map .int)),.nw (.lst ((ps.filter (o7 (bL n ws))).map pD))]= .ok (.lst ((lN (bL n ws) ps).map pD)):=by
  refine ik (ds:=(ps.filter (o7 (bL n ws))).map pD) (by simp[shE,oW]) (by rw[zAE];have:=zBZ (o7 (bL n ws)) ps;lia) ?_;unfold lN;rw[zAi];refine sS _ λ p hp=>⟨[.sh (.int p.1),.sh (.int p.2),.sh (.lst ((bL n ws).map .int))],?_,?_⟩
  .show fD 2 (aa (gnm 0) (aa (gnm 1) fP)) (pD p) [.no,.no,.sh (.lst ((bL n ws).map .int))]=_
   simp[pD]
  .obtain⟨_,h2,h3⟩:=mj hp
   have ixf:∀(x:Int),x∈bL n ws->yg ((bL n ws).map .int) (.int x)= .ok (.int (ixK (bL n ws) x)):=λ x hx=>by
    obtain⟨j,a1,a2,_⟩:=aFp hx;unfold yg;dsimp only;rw[dq];dsimp only;rw[a1,a2]
   have o1:opL yg (aD 2) (aD 0) [.sh (.int p.1),.sh (.int p.2),.sh (.lst ((bL n ws).map .int))]= .ok (.int (ixK (bL n ws) p.1)):=by
    show okD (yg ((bL n ws).map .int) (.int p.1))=_;rw[ixf _ h2];rfl
   have o2:opL yg (aD 2) (aD 1) [.sh (.int p.1),.sh (.int p.2),.sh (.lst ((bL n ws).map .int))]= .ok (.int (ixK (bL n ws) p.2)):=by
    show okD (yg ((bL n ws).map .int) (.int p.2))=_;rw[ixf _ h3];rfl
   rw[aEy,bQ,o1,bQ,o2];rfl
 simp only[lD,jA,bA,st];rw[aK,wg,c0,bF,aU,aK,wg]
 show(match ((llT [.sh (owD n ps),.sh (tupI ws),.nw (.lst ((bL n ws).map .int)),.no]).bo λ d=>Ou.nx [.sh (owD n ps),.sh (tupI ws),.nw (.lst ((bL n ws).map .int)),.nw d]).sq _ with| .nx _=>Rs.ok D.non| .rt d=>.ok d| .ex c=>.ex c|_=>.st)=_
 rw[c1,bF,aU,jM,aEy,bQ,bQ,iG,iG,bQ,bQ,c2];simp[owD]
end
def aME{ws:List Int}:sE ltI ws=true↔ws.Pairwise (·< ·):=by
 constructor
 .intro h
  have h':=m7.mp h;clear h;induction ws with
  |nil=>exact .nil
  |cons x ws ih=>
   have hp:=ih λ i a b e1 e2=>h' (i+1) a b e1 e2
   refine zAg.mpr ⟨λ y hy=>?_,hp⟩;cases ws with
   |nil=>cases hy
   |cons z zs=>
    have h1:x<z:=of_decide_eq_true (h' 0 x z rfl rfl);rcases zAL.mp hy with rfl|hy
    .exact h1
    .have:=(zAg.mp hp).1 y hy
     lia
 .intro h
  rw[m7];intro i p q e1 e2;obtain⟨h1,rfl⟩:=zAJ.mp e1;obtain⟨h2,rfl⟩:=zAJ.mp e2;exact decide_eq_true (zAx.mp h i (i+1) h1 h2 (zBx i))
theorem ints_of:∀ws:List Int,(ws.map D.int).map intOf=ws
 |[]=>rfl
 |w::ws=>by rw[zAM,zAM,ints_of ws];rfl
def aIN{n:Int}{ws:List Int}(hr:ws.Pairwise (·< ·))(hin:∀x∈ws,0<=x/\x<n):wQ n (tupI ws)=true:=by
 unfold tupI wQ;dsimp only;rw[ints_of,aME.mpr hr,zDb,zAr];intro d hd;obtain⟨x,hx,rfl⟩:=zAS.mp hd
 have:=hin x hx
 simp[bJ,this]
def aNP{t u:En->Rs Bool}{ρ:En}(h1:∃b,t ρ= .ok b)(h2:∃b,u ρ= .ok b):∃b,orT t u ρ= .ok b:=by
 obtain⟨b1,e1⟩:=h1;obtain⟨b2,e2⟩:=h2;rw[aEL,e1,e2];cases b1
 .exact⟨b2,rfl⟩
 .exact⟨true,rfl⟩
def aLm{t u:En->Rs Bool}{ρ:En}(h1:∃b,t ρ= .ok b)(h2:∃b,u ρ= .ok b):∃b,aEq t u ρ= .ok b:=by
 obtain⟨b1,e1⟩:=h1;obtain⟨b2,e2⟩:=h2;rw[aGL,e1,e2];cases b1
 .exact⟨false,rfl⟩
 .exact⟨b2,rfl⟩
def smB:En->Ou:=ifS (orT (tsb (op2 (eqR false) (aD 3) (cD (.int 0)))) (aEq (tsb (op2 gtD (aD 3) (cD (.int 1)))) (tsb (op2 (eqR false) (aP aQ (aC (aD 0) (aC (op2 fX (op2 fX (aD 2) (cD (.int 1))) (aD 5)) (aC (op2 fX (cD (.int 1)) (aD 3)) aJ)))) (cD (.int 0)))))) (lC 4 (bH (aD 5))) Ou.nx
def aCx{c a n:Int}(h0:0<=n)(h1:n<=60)(ha:0<=a)(ha2:a<=100000):∃ws:List Int,oJ [.int c,.int n,.int a]= .ok (tupI ws)/\ws.Pairwise (·< ·)/\(∀x∈ws,0<=x/\x<n)/\ws.length<=60:=by
 obtain⟨k,ek,hk6⟩:=ji (c:=c) (k:=a) (b:=6) ha (by lia) (by decide) (by decide);have hr:=jh (j:=n) (by lia) (by lia);obtain⟨ρ',e,ws,s5,rfl,w1,w2,w3⟩:=my (a:=gnm 5) (u:=smB) (ds:=bN 0 n)
  (λ i ρ=>∃(ws:List Int) (s5:Slot),ρ=[.sh (.int c),.sh (.int n),.sh (.int a),.sh (.int k),.ow (.lst (ws.map .int)),s5]/\ws.Pairwise (·< ·)/\(∀x∈ws,0<=x/\x<(i:Int))/\ws.length<=i)
  (by
   rintro i d ρ hd ⟨ws,s5,rfl,w1,w2,w3⟩;obtain⟨rfl,hlt⟩:=m6 hd;obtain⟨r,er,_⟩:=ji (c:=c) (k:=a+1+(0+(i:Int))) (b:=1+(k:Int)) (by lia) (by lia) (by lia) (by lia);have hz:ws.length<16777216:=by lia
   have yes:∃ws':List Int,lC 4 (bH (aD 5)) [.sh (.int c),.sh (.int n),.sh (.int a),.sh (.int k),.ow (.lst (ws.map .int)),.sh (.int (0+(i:Int)))]= .nx [.sh (.int c),.sh (.int n),.sh (.int a),.sh (.int k),.ow (.lst (ws'.map .int)),.sh (.int (0+(i:Int)))]/\ws'.Pairwise (·< ·)/\(∀x∈ws',0<=x/\x<((i+1:Nat):Int))/\ws'.length<=i+1:=by
    refine⟨ws++[0+(i:Int)],by simp[lC,hz],?_,λ x hx=>?_,by simp;lia⟩
    .rw[List.pairwise_append]
     exact⟨w1,by simp,λ x hx y hy=>by rw[zAI.mp hy];have:=w2 x hx;lia⟩
    .rcases zAU.mp hx with z|z
     .have:=w2 x z;lia
     .rw[zAI.mp z];lia
   have no:∀x∈ws,0<=x/\x<((i+1:Nat):Int):=λ x hx=>by have:=w2 x hx;lia
   show∃ρ2,smB [.sh (.int c),.sh (.int n),.sh (.int a),.sh (.int k),.ow (.lst (ws.map .int)),.sh (.int (0+(i:Int)))]= .nx ρ2/\_
   unfold smB;rw[fu];obtain⟨b,eb⟩:∃b,orT (tsb (op2 (eqR false) (aD 3) (cD (.int 0)))) (aEq (tsb (op2 gtD (aD 3) (cD (.int 1)))) (tsb (op2 (eqR false) (aP aQ (aC (aD 0) (aC (op2 fX (op2 fX (aD 2) (cD (.int 1))) (aD 5)) (aC (op2 fX (cD (.int 1)) (aD 3)) aJ)))) (cD (.int 0))))) [.sh (.int c),.sh (.int n),.sh (.int a),.sh (.int k),.ow (.lst (ws.map .int)),.sh (.int (0+(i:Int)))]= .ok b:=by
    have g:∀ρ:En,ρ=[.sh (.int c),.sh (.int n),.sh (.int a),.sh (.int k),.ow (.lst (ws.map .int)),.sh (.int (0+(i:Int)))]->tsb (op2 (eqR false) (aP aQ (aC (aD 0) (aC (op2 fX (op2 fX (aD 2) (cD (.int 1))) (aD 5)) (aC (op2 fX (cD (.int 1)) (aD 3)) aJ)))) (cD (.int 0))) ρ= .ok ((r:Int)==0):=λ ρ e=>by
     subst e;rw[rD,iH,nJ]
     have:aC (aD 0) (aC (op2 fX (op2 fX (aD 2) (cD (.int 1))) (aD 5)) (aC (op2 fX (cD (.int 1)) (aD 3)) aJ)) [.sh (.int c),.sh (.int n),.sh (.int a),.sh (.int k),.ow (.lst (ws.map .int)),.sh (.int (0+(i:Int)))]= .ok [.int c,.int (a+1+(0+(i:Int))),.int (1+(k:Int))]:=rfl
     rw[this,aZ,er];rfl
    exact aNP ⟨((k:Int)==0),by simp⟩ (aLm ⟨decide ((k:Int)>1),by simp⟩ ⟨_,g _ rfl⟩)
   rw[eb,bF];cases b with
   |true=>
    obtain⟨ws',e,q1,q2,q3⟩:=yes;rw[if_pos rfl,e];exact⟨_,rfl,ws',_,rfl,q1,q2,q3⟩
   |false=>
    rw[if_neg (by simp)];exact⟨_,rfl,ws,_,rfl,w1,no,by lia⟩)
  (ρ:=[.sh (.int c),.sh (.int n),.sh (.int a),.sh (.int k),.ow (.lst []),.no]) ⟨[],.no,rfl,.nil,λ x hx=>(nomatch hx),by simp⟩
 have hln:(((bN 0 n).length:Nat):Int)=n:=by rw[gD];lia
 rw[hln]at w2;rw[gD]at w3;refine⟨ws,?_,w1,w2,by lia⟩;have st:aj 6 [.int c,.int n,.int a]=[.sh (.int c),.sh (.int n),.sh (.int a),.no,.no,.no]:=rfl;have df:iz=aY (eF 3 (aP aQ (aC (aD 0) (aC (aD 2) (aC (cD (.int 6)) aJ))))) (aY (iT 4 (fj aJ)) (aY (gB (ig kW (aC (aD 1) aJ)) (gnm 5) smB) (retS (opA gw (aC (wL 4) aJ))))):=rfl;simp only[oJ,df,bA,st];simp[ek,hr,e,tupI]
def aBJ(es ws:List Int):List Int:=ws.filter λ x=>!decide (x∈es)
def aAp(n:Int)(ps:gX)(es ws:List Int):Int:=((az ((bL n ws).length:Int) (dbl (lN (bL n ws) ps))).length:Int)-((aBJ es ws).length:Int)
section
variable{n:Int}{ps:gX}{ws es:List Int}
def aNK{ρ:En}{fi:En->Rs (List D)}{js:hV}(hf:fi (shE ρ)= .ok (ws.map .int))(hs:stE js (shE ρ)=[.no,.sh (tupI es)])(hl:ws.length<=1000):
  lcD fi js (gnm 0) (tsb (op2 (inR true) (aD 0) (aD 1))) (bH (aD 0)) ρ= .ok (.lst ((aBJ es ws).map .int)):=
 yM (i:=0) (j:=0) hf (.inl hs) (by lia)
def aBU(h:Ow n ps)(low:∀p∈ps,p.1<p.2)(hl:ws.length<=1000):gq [owD n ps,tupI ws,tupI es]= .ok (.int (aAp n ps es ws)):=by
 have st:aj 3 [owD n ps,tupI ws,tupI es]=[.sh (owD n ps),.sh (tupI ws),.sh (tupI es)]:=rfl;have hwo:=aCy (ws:=ws) h;obtain⟨h',low'⟩:=aFj (ws:=ws) h low;have hp:=aBV h';have lc:lcD (bu (aD 1)) [none,some 2] (gnm 0) (tsb (op2 (inR true) (aD 0) (aD 1))) (bH (aD 0)) [.sh (owD n ps),.sh (tupI ws),.sh (tupI es)]= .ok (.lst ((aBJ es ws).map .int)):=aNK (by simp[shE,oW,tupI]) rfl hl;have r1:opA eX (aC (aP jY (aC (aP lD (aC (aD 0) (aC (aD 1) aJ))) aJ)) aJ) [.sh (owD n ps),.sh (tupI ws),.sh (tupI es)]= .ok (.int ((az ((bL n ws).length:Int) (dbl (lN (bL n ws) ps))).length:Int)):=by simp[hwo,hp]
 have r2:opA eX (aC (lcD (bu (aD 1)) [none,some 2] (gnm 0) (tsb (op2 (inR true) (aD 0) (aD 1))) (bH (aD 0))) aJ) [.sh (owD n ps),.sh (tupI ws),.sh (tupI es)]= .ok (.int ((aBJ es ws).length:Int)):=by
  rw[iG,bQ,lc];simp
 simp only[gq,gh,bA,st];rw[jM,iH,r1,aZ,r2];simp[aAp]
end
theorem aFh{w t:Slot}:∀(rws:gV) (acc:List Int) (s:Slot),acc.length+rws.flatten.length<10000->
  ∃s',forL (gnm 3) lpE (rws.map tupI) [w,t,.ow (.lst (acc.map .int)),s]= .nx [w,t,.ow (.lst ((acc++rws.flatten).map .int)),s']
 |[],acc,s,_=>⟨s,by simp⟩
 |r::rws,acc,s,h=>by
  rw[zBS,zA0]at h;obtain⟨s',e⟩:=aFh (w:=w) (t:=t) rws (acc++r) (.sh (tupI r)) (by rw[zA0];lia);refine⟨s',?_⟩;have gi:uK (tupI r)= .ok (tupI r):=(El.tup (k:=0) El.ints).g;have b:lpE [w,t,.ow (.lst (acc.map .int)),.sh (tupI r)]= .nx [w,t,.ow (.lst ((acc++r).map .int)),.sh (tupI r)]:=by
   have hv:bH (aD 3) [w,t,.ow (.lst (acc.map .int)),.sh (tupI r)]= .ok (tupI r):=by simp[gi]
   show((bH (aD 3) [w,t,.ow (.lst (acc.map .int)),.sh (tupI r)]).bo (aJS (acc.map .int) λ l=>.nx [w,t,.ow (.lst l),.sh (tupI r)]))=_
   rw[hv,bF];show aJS (acc.map .int) _ (.tup (r.map .int))=_;unfold aJS;dsimp only;rw[if_pos (by rw[szl,zAE,zAE];lia),zAZ]
  rw[zAM,cC,sU,mJ]
  show(lpE [w,t,.ow (.lst (acc.map .int)),.sh (tupI r)]).tn _=_
  rw[b,lH,e,zBS,zAt]
def uF(h:Ow n ps)(low:∀p∈ps,p.1<p.2)(F:Fi d):dY [owD n ps,d]= .ok (.bl (aAN n (dbl ps) d)):=by
 have st:aj 4 [owD n ps,d]=[.sh (owD n ps),.sh d,.no,.no]:=rfl;simp only[dY,cP,bA,st];rw[aK];cases ht:mL d with
 |false=>
  have e:aAN n (dbl ps) d=false:=by cases d<;>first|rfl|(cases ht)
  have c:lpI [.sh (owD n ps),.sh d,.no,.no]= .rt (.bl false):=by simp[lpI,il (iD F.p),ht]
  rw[c,e];rfl
 |true=>
  obtain⟨rs,rfl⟩:=tG ht;have ea:lpA [.sh (owD n ps),.sh (.tup rs),.no,.no]= .ok (.lst (rs.map λ r=>.bl (sJ n (dbl ps) r))):=by
   refine ik (ds:=rs) (by simp[shE,oW]) (by have:=(F.z rs rfl).2;lia) (aFk rs λ r hr=>⟨[.sh r,.sh (owD n ps)],rfl,?_⟩);have f:=F.r rs rfl r hr
   have:=aDA h low f.p f.s f.e f.n
   simp[this]
  have eb:=aJh ea;have c:lpI [.sh (owD n ps),.sh (.tup rs),.no,.no]=if rs.all (sJ n (dbl ps))=true then .nx [.sh (owD n ps),.sh (.tup rs),.no,.no]else .rt (.bl false):=by
   unfold lpI;rw[fu,aEL,aBP,aAf,aBP,aAf,eb];cases rs.all (sJ n (dbl ps))<;>simp
  rw[c];cases kX:rs.all (sJ n (dbl ps))with
  |false=>
   simp[aAN,kX]
  |true=>
   rw[if_pos rfl,aU,aK];have c1:iT 2 (fj aJ) [.sh (owD n ps),.sh (.tup rs),.no,.no]= .nx [.sh (owD n ps),.sh (.tup rs),.ow (.lst []),.no]:=by simp
   have er:=aHr aIg kX;have hz:=zDM (aGE rs) (F.z rs rfl).1;obtain⟨s',e⟩:=aFh (w:=.sh (owD n ps)) (t:=.sh (.tup rs)) (rs.map rowOf) [] .no (by simp only[zCV];lia);rw[er,zCC]at e;have hi:bu (aD 1) [.sh (owD n ps),.sh (.tup rs),.ow (.lst []),.no]= .ok rs:=by simp
   rw[c1,aU,aK,cM,hi,bF];have e':forL (gnm 3) lpE rs [.sh (owD n ps),.sh (.tup rs),.ow (.lst []),.no]= .nx [.sh (owD n ps),.sh (.tup rs),.ow (.lst ((rs.map rowOf).flatten.map .int)),s']:=e;rw[e',aU];have hs:=uq (l:=(rs.map rowOf).flatten) hz;have hlr:=aIc (f:=op2 ixD (aD 0) (cD (.int 0))) (ρ:=[.sh (owD n ps),.sh (.tup rs),.ow (.lst ((rs.map rowOf).flatten.map .int)),s']) (n:=n) (by simp[owD]) h.n0 h.n1;have hv:opA iU (aC (eE 2) aJ) [.sh (owD n ps),.sh (.tup rs),.ow (.lst ((rs.map rowOf).flatten.map .int)),s']= .ok (.lst ((sortI (rs.map rowOf).flatten).map .int)):=by
    have hd:eE 2 [.sh (owD n ps),.sh (.tup rs),.ow (.lst ((rs.map rowOf).flatten.map .int)),s']= .ok (.lst ((rs.map rowOf).flatten.map .int)):=rfl;rw[iG,bQ,hd,aZ,nq,aZ,aZ,hs,dM]
   rw[jM,iH,hv,aZ,hlr,aZ,aKt,dM,bF];simp only[aAN,kX,zCl]
def hdI(r:List Int):Int:=r.headD 0
def laI(r:List Int):Int:=r.getLastD 0
def aOz{r:List Int}(h:r≠[]):atD (r.map .int) 0= .ok (.int (hdI r)):=by
 cases r with
 |nil=>exact absurd rfl h
 |cons a r=>exact fW (k:=0) rfl
def aOy{r:List Int}(h:r≠[]):atD (r.map .int) (-1)= .ok (.int (laI r)):=by
 rw[aD4 h];cases r with
 |nil=>exact absurd rfl h
 |cons a r=>rfl
def aAg(rws:gV):List Int:=rws.flatMap λ r=>[hdI r,laI r]
def aFd{x:Int}{rws:gV}:x∈aAg rws↔∃r∈rws,x=hdI r\/x=laI r:=by
 unfold aAg;rw[zET];constructor
 .rintro⟨r,h1,h2⟩;exact⟨r,h1,by simpa using h2⟩
 .rintro⟨r,h1,h2⟩;exact⟨r,h1,by simpa using h2⟩
section
variable{es:List Int}{rws:gV}
def aGw(l:gV):eqR false (.lst (l.map tupI)) (.lst [])= .ok (.bl l.isEmpty):=by
 have eT:∀d∈l.map tupI,El 1 d:=λ d hd=>by
  obtain⟨r,_,rfl⟩:=zAS.mp hd;exact .tup El.ints
 have h1:=zN (k:=1) λ d hd=>(eT d hd).e
 have h2:bD (l.map tupI)=true:=vK λ d hd=>(eT d hd).n
 have e:eqD (.lst (l.map tupI)) (.lst [])=l.isEmpty:=by cases l<;>simp[eqD,jU]
 unfold eqR;rw[if_pos (by simp[lB,dC,bC,bD,h2];lia),e];rfl
def lkL:En->Rs D:=lcD (bu (aD 1)) [none,some 2] (gnm 0) (orT (tsb (op2 (eqR false) (aD 1) (op2 ixD (aD 0) (cD (.int 0))))) (tsb (op2 (eqR false) (aD 1) (op2 ixD (aD 0) (op1 aCc (cD (.int 1))))))) (bH (aD 0))
def lkB:En->Ou:=ifS (tsb (op2 (eqR false) lkL (fj aJ))) (retS (cD (.bl false))) Ou.nx
def aNc{s0:Slot}{x:Int}(hn:∀r∈rws,r≠[])(hl:rws.length<=1000):lkB [s0,.sh (.tup (rws.map tupI)),.sh (.int x)]=if x∈aAg rws then .nx [s0,.sh (.tup (rws.map tupI)),.sh (.int x)]else .rt (.bl false):=by
 have c:lkL [s0,.sh (.tup (rws.map tupI)),.sh (.int x)]= .ok (.lst ((rws.filter λ r=>x==hdI r||x==laI r).map tupI)):=by
  refine ik (ds:=rws.map tupI) (by simp[shE,oW]) (by rw[zAE];lia) (lO rws λ r hr=>⟨[.sh (tupI r),.sh (.int x)],rfl,?_,?_⟩)
  .have a1:=aOz (hn r hr)
   have a2:=aOy (hn r hr);simp only[aEL,rD,iH,aAe,aD2,aI2,zDI,zC3,aZ,tupI,aFr,a1,a2,dM,aCb,aL8,zT,zAz,if_false];cases x==hdI r<;>rfl
  .have:uK (tupI r)= .ok (tupI r):=(El.tup (k:=0) El.ints).g
   simp[this]
 have q:=aGw (rws.filter λ r=>x==hdI r||x==laI r);have hz:(rws.filter λ r=>x==hdI r||x==laI r).isEmpty= !decide (x∈aAg rws):=by
  rw[zBI,zHu,zG3];simp only[zDg,beq_iff_eq,zCA,decide_eq_false_iff_not,aFd];exact⟨λ h ⟨r,h1,h2⟩=>h r h1 h2,λ h r h1 h2=>h ⟨r,h1,h2⟩⟩
 rw[lkB,fu,rD,iH,c,aZ];simp only[aLE,nq,aZ];rw[if_pos (by simp)];simp only[aZ,q,hz,dM,zT,bF];by_cases h:x∈aAg rws<;>simp[h]
theorem aFi{s0:Slot}(hn:∀r∈rws,r≠[])(hl:rws.length<=1000):∀(es:List Int) (s2:Slot),((es.all λ x=>decide (x∈aAg rws))=true/\∃s2',forL (gnm 2) lkB (es.map .int) [s0,.sh (.tup (rws.map tupI)),s2]= .nx [s0,.sh (.tup (rws.map tupI)),s2'])\/((es.all λ x=>decide (x∈aAg rws))=false/\forL (gnm 2) lkB (es.map .int) [s0,.sh (.tup (rws.map tupI)),s2]= .rt (.bl false))
 |[],s2=>.inl ⟨rfl,s2,rfl⟩
 |x::es,s2=>by
  have hg:gnm 2 (.int x) [s0,.sh (.tup (rws.map tupI)),s2]= .ok [s0,.sh (.tup (rws.map tupI)),.sh (.int x)]:=rfl;rw[zAM,cC,hg,mJ,aNc hn hl,zDH];by_cases h:x∈aAg rws
  .rw[if_pos h,lH,decide_eq_true h,zCl]
   exact aFi hn hl es _
  .rw[if_neg h,aLx,decide_eq_false h,zDv]
   exact .inr ⟨rfl,rfl⟩
def aCz(hn:∀r∈rws,r≠[])(hl:rws.length<=1000):jJ [tupI es,.tup (rws.map tupI)]= .ok (.bl (es.all λ x=>decide (x∈aAg rws))):=by
 have st:aj 3 [tupI es,.tup (rws.map tupI)]=[.sh (tupI es),.sh (.tup (rws.map tupI)),.no]:=rfl;have df:jB=aY (gB (bu (aD 0)) (gnm 2) lkB) (retS (cD (.bl true))):=rfl;have c0:bu (aD 0) [.sh (tupI es),.sh (.tup (rws.map tupI)),.no]= .ok (es.map .int):=by simp[tupI]
 simp only[jJ,df,bA,st];rw[aK,cM,c0,bF];rcases aFi (s0:=.sh (tupI es)) hn hl es .no with ⟨h,s2',e⟩|⟨h,e⟩
 .rw[e,h];rfl
 .rw[e,h];rfl
end
section
variable{n:Int}{ps:gX}{d:D}
theorem zE:∀a b:List Int,jU (a.map .int) (b.map .int)=decide (a=b)
 |[],[]=>rfl
 |[],_::_=>rfl
 |_::_,[]=>rfl
 |x::a,y::b=>by
  rw[zAM,zAM,jU,zE a b];by_cases h:x=y<;>by_cases h2:a=b<;>simp[eqD,h,h2]
theorem vV:∀l:List Int,dC (l.map .int)=0/\bD (l.map .int)=true
 |[]=>⟨rfl,rfl⟩
 |x::l=>by
  obtain⟨h1,h2⟩:=vV l;exact⟨by rw[zAM,dC,h1];rfl,by rw[zAM,bD,h2];rfl⟩
def aGx(a b:List Int):eqR false (.lst (a.map .int)) (.lst (b.map .int))= .ok (.bl (decide (a=b))):=by
 unfold eqR;obtain⟨h1,h2⟩:=vV a;obtain⟨h3,h4⟩:=vV b;rw[if_pos (by simp[lB,bC,h1,h2,h4])];simp[eqD,zE]
def aDw(l:List Int):decide (l=sortI (ddI l))=sE ltI l:=by
 rw[zBI,decide_eq_true_eq,aME];constructor
 .intro h
  have nd:(sortI (ddI l)).Nodup:=(sortI_perm _).nodup_iff.mpr (iw _);rw[zAc]at nd;rw[h];exact((eG _).and nd).imp λ⟨a,b⟩=>by lia
 .intro h
  have nd:l.Nodup:=by rw[zAc];exact h.imp λ{a b} z=>by lia
  have p1:(ddI l).Perm l:=(zBc (iw l) nd).mpr λ x=>uD l x
  exact zDQ ((p1.symm).trans (sortI_perm _).symm) (h.imp λ{a b} z=>Int.le_of_lt z) (eG _)
def aM1{s:Slot}{w:D}(hk:knd d=true):wpB [.sh (.tup [.int n,w]),s,.sh d]=if bJ n d=true then .nx [.sh (.tup [.int n,w]),s,.sh d]else .rt (.bl false):=by
 unfold wpB;cases d with
 |int i=>
  by_cases h1:0<=i<;>by_cases h2:i<n<;>simp[bJ,h1,h2]
 |bl b=>simp[bJ,qQ (d:=.bl b) rfl,yc]
 |scr x=>cases hk
 |set x=>cases hk
 |fn x=>cases hk
 |_=>simp[bJ,qQ hk,yc]
def aHf:D->Bool
 | .tup l=>decide (l.length<64)
 |_=>true
def vN(hp:pln d=true)(hs:aHf d=true):cj [owD n ps,d]= .ok (.bl (wQ n d)):=by
 have st:aj 3 [owD n ps,d]=[.sh (owD n ps),.sh d,.no]:=rfl;simp only[cj,cZ,bA,st];cases ht:mL d with
 |false=>
  have e:wQ n d=false:=by cases d<;>first|rfl|(cases ht)
  simp[il (iD hp),ht,e]
 |true=>
  obtain⟨ts,rfl⟩:=tG ht;have hp':qd ts=true:=by simpa[pln]using hp
  have hl:ts.length<64:=by simpa[aHf]using hs
  have b1:ifS (gU (tst (op1 (jd "tuple") (aD 1)))) (retS (cD (.bl false))) Ou.nx [.sh (owD n ps),.sh (.tup ts),.no]= .nx [.sh (owD n ps),.sh (.tup ts),.no]:=by simp
  have hi:bu (aD 1) [.sh (owD n ps),.sh (.tup ts),.no]= .ok ts:=by simp
  rw[aK,b1,aU,aK,cM,hi,bF];rcases aDM (a:=gnm 2) (u:=wpB) (r:=.bl false) (P:=bJ n) (I:=λ ρ=>∃s,ρ=[.sh (owD n ps),.sh (.tup ts),s]) ts [.sh (owD n ps),.sh (.tup ts),.no] ⟨_,rfl⟩ (by
    rintro x hx ρ ⟨s,rfl⟩;have e:=aM1 (n:=n) (d:=x) (s:=.sh (.tup ts)) (w:=.tup (ps.map pD)) (iD (pL hp' hx));rw[sU,mJ];cases c:bJ n x with
    |true=>rw[c,if_pos rfl]at e;exact .inl ⟨rfl,_,e,_,rfl⟩
    |false=>rw[c,if_neg (by simp)]at e;exact .inr ⟨rfl,e⟩)with ⟨kX,ρ',e,s,rfl⟩|⟨kX,e⟩
  .rw[e,aU]
   have ei:=pM kX;have h1:mX [.tup ts]= .ok (.lst ((sortI (ddI (ts.map intOf))).map .int)):=by
    unfold mX;dsimp only;rw[<-ei,dq];dsimp only;rw[if_pos (by simpa using hl),ei]
   have h2:=aGx (ts.map intOf) (sortI (ddI (ts.map intOf)));rw[ei,aDw]at h2;simp[h1,h2,wQ,kX]
  .rw[e]
   simp[wQ,kX]
end
def aLF(ws:List Int):List Int:=if HT.lexLt ws.reverse ws=true then ws.reverse else ws
def nb(ps:gX)(i:Int):List Int:=jR (dbl ps) i
def gW{ps:gX}{a b:Int}:b∈nb ps a↔(a,b)∈dbl ps:=wy
theorem aA8:∀{ps:gX},ps.Nodup->(∀p∈ps,p.1<p.2)->(dbl ps).Nodup
 |[],_,_=>zEi
 |p::ps,h,low=>by
  obtain⟨h1,h2⟩:=zAp.mp h;have ih:=aA8 h2 λ q hq=>low q (zAF _ hq)
  have lp:=low p zAH;have no:∀q∈ps,q≠(p.2,p.1):=λ q hq e=>by
   have:=low q (zAF _ hq)
   rw[e]at this;dsimp only at this;lia
  rw[zO];refine zAp.mpr ⟨λ z=>?_,zAp.mpr ⟨λ z=>?_,ih⟩⟩
  .rcases zAL.mp z with e|z
   .have:=congrArg zFK e
    dsimp only at this;lia
   .rcases b8.mp (show(p.1,p.2)∈dbl ps from z)with z|z
    .exact h1 z
    .exact no _ z rfl
  .rcases b8.mp z with z|z
   .exact no _ z rfl
   .exact h1 z
def aCd(h:ps.Nodup)(low:∀p∈ps,p.1<p.2)(a:Int):(nb ps a).Nodup:=by
 unfold nb jR List.Nodup;rw[zB0];refine zFF ?_ ((aA8 h low).filter _);intro p q hp hq ne e;have e1:p.1=a:=by simpa using(zAa.mp hp).2
 have e2:q.1=a:=by simpa using(zAa.mp hq).2
 exact ne (zFh (e1.trans e2.symm) e)
def aFa(low:∀p∈ps,p.1<p.2)(a:Int):a∉nb ps a:=λ h=>by
 rcases b8.mp (gW.mp h)with z|z<;>·have:=low _ z;dsimp only at this;lia
def uC(h:b∈nb ps a):a∈nb ps b:=gW.mpr (gG ps _ _ (gW.mp h))
def nxt(ps:gX)(ws:List Int):List Int:=(nb ps (ws.getLastD 0)).filter λ x=>!decide (x∈ws)
def goW(ps:gX):Nat->List Int->List Int
 |0,ws=>ws
 |k+1,ws=>goW ps k (ws++nxt ps ws)
theorem ym(h:nxt ps ws=[]):∀k,goW ps k ws=ws
 |0=>rfl
 |k+1=>by rw[goW,h,zAe];exact ym h k
theorem aB5:∀(j k:Nat) (ws:List Int),goW ps (j+k) ws=goW ps k (goW ps j ws)
 |0,k,ws=>by rw[zF9];rfl
 |j+1,k,ws=>by rw[show j+1+k=(j+k)+1 by lia,goW,goW];exact aB5 j k _
structure Pt(n:Int)(ps:gX)(P:List Int)(e:Int):Prop where
 inn:∀x∈P,0<=x/\x<n
 two:∀x∈P,(nb ps x).length<=2
 cl:∀x∈P,∀y∈nb ps x,y∈P
 e1:e∈P
 e2:(nb ps e).length<2
structure Jw(ps:gX)(P:List Int)(e:Int)(ws:List Int):Prop where
 hd:∃r,ws=e::r
 nd:ws.Nodup
 sub:∀x∈ws,x∈P
 al:b7 (dbl ps) ws=true
def fC(ws:List Int):ws=[]\/∃r l,ws=r++[l]:=by
 rcases zGm ws with h|⟨r,l,h⟩
 .exact .inl h
 .exact .inr ⟨r,l,by rw[h,zGl]⟩
def Jw.ne(J:Jw ps P e ws):ws≠[]:=by obtain⟨r,rfl⟩:=J.hd;simp
def aDB{ws:List Int}(h:ws≠[]):ws.getLastD 0=ws.getLast h:=by rw[zCO,zF4 h];rfl
def Jw.one(h:Pt n ps P e):Jw ps P e [e]:=⟨⟨[],rfl⟩,by simp,λ x hx=>by rw[zAI.mp hx];exact h.e1,by rfl⟩
def aJP{l:List Int}{f:Int->Bool}{x:Int}(h:x∈l)(hf:f x=false):(l.filter f).length<l.length:=by
 rw[List.length_filter_lt_length_iff_exists];exact⟨x,h,by simp[hf]⟩
def Jw.le1(h:Pt n ps P e)(J:Jw ps P e ws):(nxt ps ws).length<=1:=by
 rcases fC ws with rfl|⟨r,l,rfl⟩
 .exact absurd rfl J.ne
 .have hl:(r++[l]).getLastD 0=l:=by rw[zCO,zD4];rfl
  rcases fC r with rfl|⟨dd,p,rfl⟩
  .obtain⟨r,e'⟩:=J.hd
   have:l=e:=by simpa using(zFg e').1
   subst this;have h1:=zBZ (λ x=>!decide (x∈[]++[l])) (nb ps l);have h2:=h.e2;unfold nxt;rw[hl];lia
  .have hp:(p,l)∈dbl ps:=jt.mp J.al dd.length p l (by simp) (by simp)
   have hm:p∈nb ps l:=uC (gW.mpr hp);have h1:=aJP (f:=λ x=>!decide (x∈dd++[p]++[l])) hm (by simp);have h2:=h.two l (J.sub l (by simp));unfold nxt;rw[hl];lia
def Jw.step(h:Pt n ps P e)(J:Jw ps P e ws)(hx:x∈nxt ps ws):nxt ps ws=[x]/\Jw ps P e (ws++[x]):=by
 have h1:=J.le1 h;have en:nxt ps ws=[x]:=by
  match hn:nxt ps ws,hx,h1 with
  |[y],hx,_=>rw[zAI.mp hx]
  |y::z::l,_,h1=>simp at h1
  |[],hx,_=>cases hx
 refine⟨en,?_⟩;obtain⟨m1,m2⟩:=zAa.mp hx;rw[aDB J.ne]at m1;have hno:x∉ws:=by simpa using m2
 obtain⟨r,er⟩:=J.hd;refine⟨⟨r++[x],by rw[er];rfl⟩,?_,λ y hy=>?_,sy J.ne J.al (gW.mp m1)⟩
 .rw[zAb]
  exact⟨J.nd,by simp,λ y hy z hz e=>by rw[zAI.mp hz]at e;subst e;exact hno hy⟩
 .rcases zAU.mp hy with z|z
  .exact J.sub y z
  .rw[zAI.mp z]
   exact h.cl _ (J.sub _ (zHt J.ne)) x m1
theorem Jw.goW(h:Pt n ps P e):∀(k:Nat) {ws:List Int},Jw ps P e ws->Jw ps P e (VL.My.goW ps k ws)
 |0,_,J=>J
 |k+1,ws,J=>by
  unfold VL.My.goW
  match hn:nxt ps ws with
  |[]=>rw[zAe];exact Jw.goW h k J
  |x::l=>
   obtain⟨e1,J'⟩:=J.step h (x:=x) (by rw[hn];exact zAH);rw[<-hn,e1];exact Jw.goW h k J'
def Jw.len(J:Jw ps P e ws):ws.length<=P.length:=sub_len J.nd J.sub
theorem aB4(h:Pt n ps P e):∀(k:Nat) {ws:List Int},Jw ps P e ws->P.length<=ws.length+k->nxt ps (goW ps k ws)=[]
 |0,ws,J,hl=>by
  show nxt ps ws=[]
  match hn:nxt ps ws with
  |[]=>rfl
  |x::l=>
   obtain⟨e1,J'⟩:=J.step h (x:=x) (by rw[hn];exact zAH)
   have:=J'.len
   rw[zA0,zBE]at this;lia
 |k+1,ws,J,hl=>by
  unfold goW
  match hn:nxt ps ws with
  |[]=>rw[zAe,ym hn];exact hn
  |x::l=>
   obtain⟨e1,J'⟩:=J.step h (x:=x) (by rw[hn];exact zAH);rw[<-hn,e1];exact aB4 h k J' (by rw[zA0,zBE];lia)
def aEp{ws:List Int}(nd:ws.Nodup){i j:Nat}{x:Int}(h1:ws[i]? =some x)(h2:ws[j]? =some x):i=j:=
 (zCU (zAJ.mp h1).1 nd).mp (h1.trans h2.symm)
def Jw.last(h:Pt n ps P e)(hnd:ps.Nodup)(low:∀p∈ps,p.1<p.2)(J:Jw ps P e ws)(hn:nxt ps ws=[]):(nb ps (ws.getLast J.ne)).length<2:=by
 refine zIQ λ h2=>?_
 rcases fC ws with hw|⟨r,l,hw⟩
 .exact absurd hw J.ne
 .have hl:ws.getLast J.ne=l:=by simp[hw]
  rw[hl]at h2;have kX:∀x∈nb ps l,x∈ws:=λ x hx=>by
   refine zBK λ z=>?_
   have:x∈nxt ps ws:=zAa.mpr ⟨by rw[aDB J.ne,hl];exact hx,by simp[z]⟩
   rw[hn]at this;cases this
  rcases fC r with hr|⟨dd,p,hr⟩
  .obtain⟨r',e'⟩:=J.hd
   rw[hw,hr]at e'
   have:l=e:=by simpa using(zFg e').1
   subst this
   have:=h.e2
   lia
  .rw[hr]at hw
   have hpi:ws[dd.length]? =some p:=by rw[hw];simp
   have hli:ws[dd.length+1]? =some l:=by rw[hw];simp
   obtain⟨x,hx,hxp⟩:∃x∈nb ps l,x≠p:=by
    refine zBK λ z=>?_
    have:=sub_len (aCd hnd low l) (l':=[p]) λ y hy=>by
     refine zAI.mpr (zBK λ w=>z ⟨y,hy,w⟩)
    simp at this;lia
   have hxl:x≠l:=λ z=>by subst z;exact aFa low _ hx
   obtain⟨i,hi⟩:=List.getElem?_of_mem (kX x hx);have hws:ws.length=dd.length+2:=by rw[hw];simp
   have hi':i<ws.length:=(zAJ.mp hi).1;have hne1:i≠dd.length:=λ z=>by subst z;rw[hpi]at hi;exact hxp (zAl hi).symm
   have hne2:i≠dd.length+1:=λ z=>by subst z;rw[hli]at hi;exact hxl (zAl hi).symm
   have hid:i<dd.length:=by lia
   obtain⟨y,hy⟩:∃y,ws[i+1]? =some y:=⟨_,zAD (by lia)⟩
   have hyn:y∈nb ps x:=gW.mpr (jt.mp J.al i x y hi hy);have hln:l∈nb ps x:=uC hx;have hyl:y≠l:=λ z=>by subst z;have:=aEp J.nd hy hli;lia
   have hxP:x∈P:=J.sub x (kX x hx);by_cases i0:i=0
   .subst i0
    obtain⟨r',e'⟩:=J.hd
    have:x=e:=by rw[e']at hi;simpa using hi.symm
    subst this
    have:=sub_len (l:=[y,l]) (l':=nb ps x) (by simp[hyl]) λ z hz=>by
     simp only[zAL,zAf,or_false]at hz;rcases hz with rfl|rfl
     .exact hyn
     .exact hln
    have h3:=h.e2;simp at this;lia
   .obtain⟨u,hu⟩:∃u,ws[i-1]? =some u:=⟨_,zAD (by lia)⟩
    have hun:u∈nb ps x:=uC (gW.mpr (jt.mp J.al (i-1) u x hu (by rw[show i-1+1=i by lia];exact hi)));have huy:u≠y:=λ z=>by subst z;have:=aEp J.nd hu hy;lia
    have hul:u≠l:=λ z=>by subst z;have:=aEp J.nd hu hli;lia
    have:=sub_len (l:=[u,y,l]) (l':=nb ps x) (by simp[hyl,huy,hul]) λ z hz=>by
     simp only[zAL,zAf,or_false]at hz;rcases hz with rfl|rfl|rfl
     .exact hun
     .exact hyn
     .exact hln
    have h3:=h.two x hxP;simp at this;lia
def aGj(h:(e::r).getLast (by simp)=l)(hl:e<=l)(nd:(e::r).Nodup):aLF (e::r)=e::r:=by
 unfold aLF;rcases fC r with rfl|⟨r',l',rfl⟩
 .simp[yR]
 .have e1:l'=l:=by rw[<-h,List.getLast_cons (by simp)];simp
  subst e1;have ne:e≠l':=λ z=>by subst z;simp at nd
  have e2:(e::(r'++[l'])).reverse=l'::(e::r').reverse:=by simp
  rw[e2,if_neg]
  have:¬(l'<e):=by lia
  simp[HT.lexLt,this];lia
def Lx(n:Int)(ps:gX)(ll:eB):Prop:=∀i:Int,0<=i->i<n->atD (ll.map .lst) i= .ok (.lst ((nb ps i).map .int))
abbrev vE(ll:eB)(e:Int)(ws as:List Int):En:=[.sh (.lst (ll.map .lst)),.sh (.int e),.ow (.lst (ws.map .int)),.sh (.lst (as.map .int))]
def aN6(hf:fi (shE ρ)= .ok ((nb ps (ws.getLastD 0)).map .int))(hs:stE js (shE ρ)=[.no,.sh (.tup (ws.map .int))]\/stE js (shE ρ)=[.no,.sh (.lst (ws.map .int))])(hl:(nb ps (ws.getLastD 0)).length<=1000):
  lcD fi js (gnm 0) (tsb (op2 (inR true) (aD 0) (aD 1))) (bH (aD 0)) ρ= .ok (.lst ((nxt ps ws).map .int)):=yM (i:=0) (j:=0) hf hs hl
def aBu(h:Pt n ps P e)(hl:P.length<=60)(low:∀p∈ps,p.1<p.2)(L:Lx n ps ll):jH [.lst (ll.map .lst),.int e]= .ok (tupI (goW ps (P.length-1) [e])):=by
 have st:aj 4 [.lst (ll.map .lst),.int e]=[.sh (.lst (ll.map .lst)),.sh (.int e),.no,.no]:=rfl;have e8:nxt ps [e]=nb ps e:=by
  show List.filter (λ x=>!decide (x∈[e])) (nb ps e)=nb ps e;rw[zDh];intro x hx
  have:x≠e:=λ z=>by subst z;exact aFa low _ hx
  simp[this]
 obtain⟨ρ',m',e',⟨ws,k,rfl,J,ek,lk,_⟩,ht⟩:=xN (c:=tst (aD 3)) (b:=wfW)
  (λ m ρ=>∃(ws:List Int) (k:Nat),ρ=vE ll e ws (nxt ps ws)/\Jw ps P e ws/\ws=goW ps k [e]/\ws.length=k+1/\m=P.length-ws.length)
  (by
   rintro m ρ ⟨ws,k,rfl,J,ek,lk,rfl⟩;have hpl:=J.len
   match hn:nxt ps ws with
   |[]=>left;simp
   |x::r=>
    right;obtain⟨e1,J'⟩:=J.step h (x:=x) (by rw[hn];exact zAH);have kQ:=J'.len;rw[zA0,zBE]at kQ;have e2:x::r=[x]:=hn.symm.trans e1;have b1:lC 2 (bH (op2 ixD (aD 3) (cD (.int 0)))) (vE ll e ws (x::r))= .nx (vE ll e (ws++[x]) (x::r)):=by
     show((bH (op2 ixD (aD 3) (cD (.int 0))) (vE ll e ws (x::r))).bo λ d=>if (ws.map D.int).length<zAY then .nx [.sh (.lst (ll.map .lst)),.sh (.int e),.ow (.lst (ws.map .int++[d])),.sh (.lst ((x::r).map .int))]else .st)=_
     have hv:bH (op2 ixD (aD 3) (cD (.int 0))) (vE ll e ws (x::r))= .ok (.int x):=by simp
     rw[hv,bF,if_pos (by rw[szl,zAE];lia)];simp[zAZ]
    have hx:=h.inn x (J'.sub x (by simp));have bE:(ws++[x]).getLastD 0=x:=by rw[zCO,zD4];rfl
    have hat:atD ((ws++[x]).map .int) (-1)= .ok (.int x):=by
     rw[aD4 (ws:=ws++[x]) (by simp)];simp
    have b2:lcD (bu (op2 ixD (aD 0) (op2 ixD (aD 2) (op1 aCc (cD (.int 1)))))) [none,some 2] (gnm 0) (tsb (op2 (inR true) (aD 0) (aD 1))) (bH (aD 0)) (vE ll e (ws++[x]) (x::r))= .ok (.lst ((nxt ps (ws++[x])).map .int)):=by
     refine aN6 ?_ (.inr rfl) ?_
     .rw[bE]
      simp only[shE,zAM,zCf,oW,aFs,iH,aI2,aAe,aD2,aZ,aCb,dM,zDI,zC3,aBW,hat,L x hx.1 hx.2,aLO]
     .rw[bE]
      have:=h.two x (J'.sub x (by simp))
      lia
    refine⟨by simp,vE ll e (ws++[x]) (nxt ps (ws++[x])),P.length-(ws.length+1),?_,by lia,ws++[x],k+1,rfl,J',?_,by simp[lk],by simp⟩
    .rw[wfW,aK,b1,aU,aAq,b2,bF]
     rfl
    .rw[aB5,<-ek,goW,goW,e1])
  (m:=P.length-1) (ρ:=vE ll e [e] (nxt ps [e])) (by lia) ⟨[e],0,rfl,Jw.one h,rfl,rfl,by simp⟩
 have hn:nxt ps ws=[]:=by
  cases hq:nxt ps ws with
  |nil=>rfl
  |cons x r=>rw[hq]at ht;simp at ht
 have hw:goW ps (P.length-1) [e]=ws:=by
  have hpl:=J.len;rw[show P.length-1=k+(P.length-1-k)by lia,aB5,<-ek,ym hn]
 have hei:=h.inn e h.e1;have c0:iT 2 (fj (aC (bH (aD 1)) aJ)) [.sh (.lst (ll.map .lst)),.sh (.int e),.no,.no]= .nx [.sh (.lst (ll.map .lst)),.sh (.int e),.ow (.lst [.int e]),.no]:=by simp
 have c1:eF 3 (op2 ixD (aD 0) (aD 1)) [.sh (.lst (ll.map .lst)),.sh (.int e),.ow (.lst [.int e]),.no]= .nx (vE ll e [e] (nxt ps [e])):=by
  rw[e8];simp[L e hei.1 hei.2]
 simp only[jH,iy,bA,st];rw[aK,c0,aU,aK,c1,aU,aK,e',aU,hw];simp
def gQ(h:P∈az n (dbl ps)):∃a,(0<=a/\a<n)/\P=bM n (dbl ps) a:=by
 obtain⟨a,ha,rfl⟩:=zAS.mp h;exact⟨a,bI.mp (zAa.mp ha).1,rfl⟩
def aJ7(n:Int)(es:gX)(a:Int):(bM n es a).Pairwise (·< ·):=(nT n).filter _
def aC1(h:P∈az n (dbl ps)):P.Pairwise (·< ·):=by
 obtain⟨a,_,rfl⟩:=gQ h;exact aJ7 ..
def yH(h:P∈az n (dbl ps)):∀x∈P,0<=x/\x<n:=λ x hx=>by
 obtain⟨a,_,rfl⟩:=gQ h;exact(dN.mp hx).1
def aIV(h:P∈az n (dbl ps))(hn:n<=60):P.length<=60:=by
 obtain⟨a,_,rfl⟩:=gQ h
 have:=zBZ (λ b=>prB (Cn (dbl ps) a b)) (upI n)
 rw[cF]at this;unfold bM;lia
def aF2(O:Ow n ps)(h:P∈az n (dbl ps)):∀x∈P,∀y∈nb ps x,y∈P:=λ x hx y hy=>by
 obtain⟨a,_,rfl⟩:=gQ h;obtain⟨_,hc⟩:=dN.mp hx;have he:=gW.mp hy;refine dN.mpr ⟨?_,hc.step he⟩;rcases b8.mp he with z|z
 .have:=O.pr _ z;exact⟨this.2.2.1,this.2.2.2.1⟩
 .have:=O.pr _ z;exact⟨this.1,this.2.1⟩
def dg(ps:gX)(x:Int):Int:=((nb ps x).length:Int)
def gF(ps:gX)(P:List Int):List Int:=P.filter λ x=>decide (dg ps x<2)
def oG(ps:gX)(P:List Int):Bool:=P.any (λ x=>decide (2<dg ps x))||(gF ps P).isEmpty
def gK(ps:gX)(P:List Int):List Int:=goW ps (P.length-1) [(gF ps P).headD 0]
def aB7(O:Ow n ps)(h:P∈az n (dbl ps))(hb:oG ps P=false):∃e r,gF ps P=e::r/\Pt n ps P e/\∀x∈gF ps P,e<=x:=by
 obtain⟨b1,b2⟩:=zEa.mp hb;cases he:gF ps P with
 |nil=>rw[he]at b2;cases b2
 |cons e r=>
  have hm:e∈gF ps P:=by rw[he];exact zAH
  obtain⟨m1,m2⟩:=zAa.mp hm;have hs:=(aC1 h).filter (λ x=>decide (dg ps x<2));have hs':(e::r).Pairwise (·< ·):=by rw[<-he];exact hs
  refine⟨e,r,rfl,⟨yH h,λ x hx=>?_,aF2 O h,m1,?_⟩,λ x hx=>?_⟩
  .have:=zEE.mp b1 x hx
   simp only[decide_eq_true_eq]at this;unfold dg at this;lia
  .simp only[decide_eq_true_eq]at m2
   unfold dg at m2;lia
  .rcases zAL.mp hx with rfl|hx
   .exact zDk _
   .have:=(zAg.mp hs').1 x hx
    lia
def m9(h:Ow n ps):ps.Nodup:=by
 refine(xu.mp h.ris).imp λ{a b} q e=>?_
 subst e;lia
def aJw(O:Ow n ps)(low:∀p∈ps,p.1<p.2)(h:P∈az n (dbl ps))(hb:oG ps P=false):aLF (gK ps P)=gK ps P/\gK ps P≠[]/\(gK ps P).Nodup/\∀x∈gK ps P,x∈P:=by
 obtain⟨e,r,he,hp,hle⟩:=aB7 O h hb;have hw:gK ps P=goW ps (P.length-1) [e]:=by unfold gK;rw[he];rfl
 have J:=(Jw.one hp).goW hp (P.length-1);have hn:nxt ps (goW ps (P.length-1) [e])=[]:=aB4 hp _ (Jw.one hp) (by simp;lia);have hl:=J.last hp (m9 O) low hn;rw[hw];refine⟨?_,J.ne,J.nd,J.sub⟩;obtain⟨r',er⟩:=J.hd;have bE:(goW ps (P.length-1) [e]).getLast J.ne∈gF ps P:=zAa.mpr ⟨J.sub _ (zHt _),by
  simp only[decide_eq_true_eq];unfold dg;lia⟩
 have key:∀(W:List Int) (hW:W≠[]),W=e::r'->W.Nodup->e<=W.getLast hW->aLF W=W:=by
  rintro W hW rfl nd hx;exact aGj rfl hx nd
 exact key _ J.ne er J.nd (hle _ bE)
def aJf(f:α->Bool)(l:List α):qj (λ bs=>bs.any id) [.lst (l.map λ x=>D.bl (f x))]= .ok (.bl (l.any f)):=by
 unfold qj;dsimp only;rw[u9];dsimp only;rw[zIm];rfl
def aJY(L:Lx n ps ll)(h:0<=x/\x<n):opA eX (aC (op2 ixD (aD 1) (aD 0)) aJ) [.sh (.int x),.sh (.lst (ll.map .lst))]= .ok (.int (dg ps x)):=by
 have a0:aD 0 [.sh (.int x),.sh (.lst (ll.map .lst))]= .ok (.int x):=rfl;have a1:aD 1 [.sh (.int x),.sh (.lst (ll.map .lst))]= .ok (.lst (ll.map .lst)):=rfl;rw[iG,bQ,iH,a1,aZ,a0,aZ,aBW,L x h.1 h.2,dM,aZ,nq,aZ,aZ,aIf,dM,zAE];rfl
def aKg{ρ:En}{fi:En->Rs (List D)}{js:hV}{P:List Int}{ll:eB}(hf:fi (shE ρ)= .ok (P.map .int))(hs:stE js (shE ρ)=[.no,.sh (.lst (ll.map .lst))])(L:Lx n ps ll)(hl:P.length<=1000)(hin:∀x∈P,0<=x/\x<n):
  lcD fi js (gnm 0) ju (op2 gtD (opA eX (aC (op2 ixD (aD 1) (aD 0)) aJ)) (cD (.int 2))) ρ= .ok (.lst (P.map λ x=>.bl (decide (2<dg ps x)))):=by
 refine ik hf (by rw[zAE];lia) ?_;rw[hs];refine sS (f:=D.int) P λ x hx=>⟨[.sh (.int x),.sh (.lst (ll.map .lst))],rfl,?_⟩
 rw[iH,aJY L (hin x hx),aZ,aD2,aZ,aLZ,dM]
def aL9(hf:fi (shE ρ)= .ok (P.map .int))(hs:stE js (shE ρ)=[.no,.sh (.lst (ll.map .lst))])(L:Lx n ps ll)(hl:P.length<=1000)(hin:∀x∈P,0<=x/\x<n):
  lcD fi js (gnm 0) (tsb (op2 ltD (opA eX (aC (op2 ixD (aD 1) (aD 0)) aJ)) (cD (.int 2)))) (bH (aD 0)) ρ= .ok (.lst ((gF ps P).map .int)):=by
 refine ik hf (by rw[zAE];lia) ?_;rw[hs];refine lO (f:=D.int) (g:=D.int) P λ x hx=>⟨[.sh (.int x),.sh (.lst (ll.map .lst))],rfl,?_,by simp⟩
 rw[rD,iH,aJY L (hin x hx),aZ,aD2,aZ,aFg,dM,aZ,zT]
abbrev xE(w t b:D)(ll:eB)(R:gV)(s5 s6:Slot):En:=[.sh w,.sh t,.sh b,.sh (.lst (ll.map .lst)),.ow (.lst (R.map tupI)),s5,s6]
def aMp{w t b:D}{ll:eB}(O:Ow n ps)(low:∀p∈ps,p.1<p.2)(L:Lx n ps ll)(h:P∈az n (dbl ps))(hR:R.length<=100):pxB (xE w t b ll R (.sh (tupI P)) s6)=if oG ps P=true then .ex "NoParting" else .nx (xE w t b ll (R++[gK ps P]) (.sh (tupI P)) (.nw (.lst ((gF ps P).map .int)))):=by
 have hpl:=aIV h O.n1;have hi:bu (aD 5) (shE (xE w t b ll R (.sh (tupI P)) s6))= .ok (P.map .int):=rfl;have hs:stE [none,some 3] (shE (xE w t b ll R (.sh (tupI P)) s6))=[.no,.sh (.lst (ll.map .lst))]:=rfl;have a1:=aKg hi hs L (by lia) (yH h);have a2:=aL9 hi hs L (by lia) (yH h);have t1:tst (opA (qj λ bs=>bs.any id) (aC (lcD (bu (aD 5)) [none,some 3] (gnm 0) ju (op2 gtD (opA eX (aC (op2 ixD (aD 1) (aD 0)) aJ)) (cD (.int 2)))) aJ)) (xE w t b ll R (.sh (tupI P)) s6)= .ok (P.any λ x=>decide (2<dg ps x)):=by
  rw[aAf,iG,bQ,a1,aZ,nq,aZ,aZ,aJf,dM,aZ,aEz]
 rw[pxB,aK,fu,t1,bF];cases h1:P.any λ x=>decide (2<dg ps x)with
 |true=>
  rw[if_pos rfl]
  have:oG ps P=true:=by unfold oG;rw[h1];rfl
  rw[if_pos this];simp[pxR]
 |false=>
  rw[if_neg zAX,aU,aK,wg,a2,bF];show Ou.sq (.nx (xE w t b ll R (.sh (tupI P)) (.nw (.lst ((gF ps P).map .int))))) _=_;rw[aU,aK,fu];have t2:gU (tst (nQ 6)) (xE w t b ll R (.sh (tupI P)) (.nw (.lst ((gF ps P).map .int))))= .ok (gF ps P).isEmpty:=by
   show((aHW (.lst ((gF ps P).map .int))).bd λ k=>.ok (!k))=_
   rw[aHV,aZ];cases gF ps P<;>rfl
  rw[t2,bF];cases h2:(gF ps P).isEmpty with
  |true=>
   rw[if_pos rfl]
   have:oG ps P=true:=by unfold oG;rw[h1,h2];rfl
   rw[if_pos this];simp[pxQ]
  |false=>
   have hb:oG ps P=false:=by unfold oG;rw[h1,h2];rfl
   rw[if_neg zAX,aU,hb,if_neg zAX];obtain⟨e,r,he,hp,_⟩:=aB7 O h hb;have hw:gK ps P=goW ps (P.length-1) [e]:=by unfold gK;rw[he];rfl
   have a3:aP jH (aC (aD 3) (aC (op2 ixD (nQ 6) (cD (.int 0))) aJ)) (xE w t b ll R (.sh (tupI P)) (.nw (.lst ((gF ps P).map .int))))= .ok (tupI (gK ps P)):=by
    rw[he,hw,<-aBu hp hpl low L];simp
   show((aP jH (aC (aD 3) (aC (op2 ixD (nQ 6) (cD (.int 0))) aJ)) (xE w t b ll R (.sh (tupI P)) (.nw (.lst ((gF ps P).map .int))))).bo λ d=>if (R.map tupI).length<zAY then .nx [.sh w,.sh t,.sh b,.sh (.lst (ll.map .lst)),.ow (.lst (R.map tupI++[d])),.sh (tupI P),.nw (.lst ((gF ps P).map .int))]else .st)=_
   rw[a3,bF,if_pos (by rw[szl,zAE];lia)];simp[zAZ]
theorem aFY(O:Ow n ps)(low:∀p∈ps,p.1<p.2)(L:Lx n ps ll):∀(Ps:gV) (R:gV) (s5 s6:Slot),(∀P∈Ps,P∈az n (dbl ps))->R.length+Ps.length<=100->
  if Ps.any (oG ps)=true then forL (gnm 5) pxB (Ps.map tupI) (xE w t b ll R s5 s6)= .ex "NoParting" else∃s5' s6',forL (gnm 5) pxB (Ps.map tupI) (xE w t b ll R s5 s6)= .nx (xE w t b ll (R++Ps.map (gK ps)) s5' s6')
 |[],R,s5,s6,_,_=>by
  rw[if_neg (by simp)];exact⟨s5,s6,by simp⟩
 |P::Ps,R,s5,s6,hP,hl=>by
  rw[zA6]at hl;have h1:=aMp (w:=w) (t:=t) (b:=b) (R:=R) (s6:=s6) O low L (hP P zAH) (by lia);have hg:okE (gnm 5 (tupI P) (xE w t b ll R s5 s6)) (λ ρ1=>(pxB ρ1).tn (forL (gnm 5) pxB (Ps.map tupI)))=(pxB (xE w t b ll R (.sh (tupI P)) s6)).tn (forL (gnm 5) pxB (Ps.map tupI)):=rfl;rw[zAM,cC,hg,h1,zFG];cases hb:oG ps P with
  |true=>
   rw[Bool.true_or,if_pos rfl,if_pos rfl];rfl
  |false=>
   rw[Bool.false_or,if_neg zAX,lH];have ih:=aFY (w:=w) (t:=t) (b:=b) O low L Ps (R++[gK ps P]) (.sh (tupI P)) (.nw (.lst ((gF ps P).map .int))) (λ Q hQ=>hP Q (zAF _ hQ)) (by rw[zA0,zBE];lia);rw[zAt]at ih;exact ih
def aJg(Q:Ow n qs)(bP:∀p∈qs,p.1<p.2)(hc:dw [owD n qs,.tup (ps.map pD)]= .ok .non)(O:Ow n ps)(low:∀p∈ps,p.1<p.2):
  gH [owD n qs,.tup (ps.map pD)]=if (az n (dbl ps)).any (oG ps)=true then .ex "NoParting" else .ok (.tup ((o9 ((az n (dbl ps)).map (gK ps))).map tupI)):=by
 have st:aj 7 [owD n qs,.tup (ps.map pD)]=[.sh (owD n qs),.sh (.tup (ps.map pD)),.no,.no,.no,.no,.no]:=rfl;obtain⟨ll,e1,N,L⟩:=oH O;have hpl:(az n (dbl ps)).length<=60:=aG8 O.n0 O.n1;have c0:qG (aP dj (aC (aD 0) aJ)) [.sh (owD n qs),.sh (.tup (ps.map pD)),.no,.no,.no,.no,.no]= .nx [.sh (owD n qs),.sh (.tup (ps.map pD)),.no,.no,.no,.no,.no]:=by simp[uV Q bP]
 have c1:qG (aP dw (aC (aD 0) (aC (aD 1) aJ))) [.sh (owD n qs),.sh (.tup (ps.map pD)),.no,.no,.no,.no,.no]= .nx [.sh (owD n qs),.sh (.tup (ps.map pD)),.no,.no,.no,.no,.no]:=by simp[hc]
 have c2:eF 2 (gM (aC (op2 ixD (aD 0) (cD (.int 0))) (aC (aD 1) aJ))) [.sh (owD n qs),.sh (.tup (ps.map pD)),.no,.no,.no,.no,.no]= .nx [.sh (owD n qs),.sh (.tup (ps.map pD)),.sh (owD n ps),.no,.no,.no,.no]:=by simp[owD]
 have c3:eF 3 (aP cW (aC (aD 2) aJ)) [.sh (owD n qs),.sh (.tup (ps.map pD)),.sh (owD n ps),.no,.no,.no,.no]= .nx [.sh (owD n qs),.sh (.tup (ps.map pD)),.sh (owD n ps),.sh (.lst (ll.map .lst)),.no,.no,.no]:=by simp[e1]
 have c4:iT 4 (fj aJ) [.sh (owD n qs),.sh (.tup (ps.map pD)),.sh (owD n ps),.sh (.lst (ll.map .lst)),.no,.no,.no]= .nx (xE (owD n qs) (.tup (ps.map pD)) (owD n ps) ll [] .no .no):=by simp
 have hi:bu (aP qZ (aC (aD 2) aJ)) (xE (owD n qs) (.tup (ps.map pD)) (owD n ps) ll [] .no .no)= .ok ((az n (dbl ps)).map tupI):=by simp[aC0 O low]
 have lp:=aFY (w:=owD n qs) (t:=.tup (ps.map pD)) (b:=owD n ps) O low L (az n (dbl ps)) [] .no .no (λ P h=>h) (by simp;lia);simp only[gH,cY,bA,st];rw[aK,c0,aU,aK,c1,aU,aK,c2,aU,aK,c3,aU,aK,c4,aU,aK,cM,hi,bF];by_cases hb:(az n (dbl ps)).any (oG ps)=true
 .rw[if_pos hb]at lp ⊢
  rw[lp];rfl
 .rw[if_neg hb]at lp ⊢
  obtain⟨s5,s6,e⟩:=lp;rw[e,aU,zCC,jM,iG,bQ,iG,bQ];have hv:eE 4 (xE (owD n qs) (.tup (ps.map pD)) (owD n ps) ll ((az n (dbl ps)).map (gK ps)) s5 s6)= .ok (.lst (((az n (dbl ps)).map (gK ps)).map tupI)):=rfl;have hso:iU [.lst (((az n (dbl ps)).map (gK ps)).map tupI)]= .ok (.lst ((o9 ((az n (dbl ps)).map (gK ps))).map tupI)):=aGS (λ r hr=>by
   obtain⟨P,hP,rfl⟩:=zAS.mp hr;have hbP:oG ps P=false:=by
    cases z:oG ps P with
    |false=>rfl
    |true=>exact absurd (zCG.mpr ⟨P,hP,z⟩) hb
   exact(aJw O low hP hbP).2.1) (by rw[zAE];lia)
  rw[hv,aZ,nq,aZ,aZ,hso,dM,aZ,aZ,aZ,aDj,dM,bF]
theorem aEk:∀(ks acc:gV) (x:List Int),x∈ks.foldl o6 acc↔x∈acc\/x∈ks
 |[],acc,x=>by simp
 |k::ks,acc,x=>by
  rw[zCT,aEk ks];unfold o6;split
  .rename_i h
   obtain⟨y,hy,e⟩:=zCG.mp h;have e':=zEB e;subst e';rw[zAL];constructor
   .rintro(h1|h1)
    .exact .inl h1
    .exact .inr (.inr h1)
   .rintro(h1|rfl|h1)
    .exact .inl h1
    .exact .inl hy
    .exact .inr h1
  .rw[zAU,zAI,zAL,or_assoc]
def aGn(ps:gX)(q:Int×Int):(ddL (ps.map pl)).any (·==pl q)=decide (q∈ps):=by
 rw[zBI,zCG,decide_eq_true_eq];constructor
 .rintro⟨x,hx,e⟩
  rcases(aEk (ps.map pl) [] x).mp hx with h|h
  .cases h
  .obtain⟨p,hp,rfl⟩:=zAS.mp h
   rw[<-aIO (zEB e)];exact hp
 .intro h
  exact⟨pl q,(aEk (ps.map pl) [] _).mpr (.inr (zEt h)),beq_self_eq_true _⟩
theorem aFl:∀ps:gX,cL (ps.map λ p=>.tup [pD p,.bl true])=some (ps.map pl)
 |[]=>rfl
 |p::ps=>by
  rw[zAM,zAM];unfold cL;rw[aFl ps];rfl
def aNp(ps:gX)(q:Int×Int):inK true (pD q) (sY (ddL (ps.map pl)))= .ok (.bl (!decide (q∈ps))):=by
 show aNq true (aDE (pD q)) (aAR ((ddL (ps.map pl)).map λ k=>.tup (k.map .int)))=_;rw[vO];show Rs.ok (D.bl (true !=(ddL (ps.map pl)).any (·==pl q)))=_;rw[aGn];cases decide (q∈ps)<;>rfl
def aOD(h1:fi (shE ρ)= .ok ds)(h2:ds.length<16777216)(h3:lcL (stE js (shE ρ)) fg ft (pairE fk fv) ds= .ok out)(h4:cL out=some ks):dcD fi js fg ft fk fv ρ= .ok (sY (ddL ks)):=by
 unfold dcD;rw[h1,aZ,if_pos (by rw[szl];exact h2),h3];simp only[h4]
def jf:D->List (Int×Int)
 | .tup ts=>ts.map aG2
 |_=>[]
def ckB(n:Int)(ws:gX)(d:D):Bool:=rpB n d&&(jf d).all λ q=>decide (q.1<q.2)&&decide (q∈ws)
def aCS(h:rpB n d=true):d= .tup ((jf d).map pD)/\vC (jf d)=true/\∀q∈jf d,0<=q.1/\q.1<n/\0<=q.2/\q.2<n/\q.1≠q.2:=by
 cases d with
 |tup ts=>
  rw[rpB,zAN]at h;refine⟨by rw[jf,aIM h.1],h.2,λ q hq=>?_⟩;obtain⟨t,ht,rfl⟩:=zAS.mp hq;obtain⟨a,b,rfl,z⟩:=yI (zAr.mp h.1 t ht);exact z
 |_=>cases h
def aD6(hp:pln d=true)(hs:xX d=true):dH [.int n,d]= .ok (.bl (rpB n d&&(jf d).all λ q=>decide (q.1<q.2))):=by
 have e:=jg (m:=n) hp hs;have st:aj 2 [.int n,d]=[.sh (.int n),.sh d]:=rfl;have ec:aP bT (aC (aD 0) (aC (aD 1) aJ)) [.sh (.int n),.sh d]= .ok (.bl (rpB n d)):=by rw[nJ];exact e
 simp only[dH,gY,bA,st];rw[jM,xK,ec,aZ,aBn];cases hr:rpB n d with
 |false=>rfl
 |true=>
  obtain⟨ed,_,_⟩:=aCS hr;rw[if_pos rfl,zCl];have hl:(jf d).length<=100000:=by
   rw[ed]at hs;simpa[xX]using hs
  generalize hq:jf d=qs at ed hl ⊢;subst ed;have ei:lcD (bu (aD 1)) [none,none] (fD 2 (aa (gnm 0) (aa (gnm 1) fP))) ju (op2 ltD (aD 0) (aD 1)) [.sh (.int n),.sh (.tup (qs.map pD))]= .ok (.lst (qs.map λ p=>.bl (decide (p.1<p.2)))):=ik (ds:=qs.map pD) (by simp[shE,oW]) (by rw[zAE];lia) (aIh (ρ:=[]) qs);rw[aJh ei,bF]
theorem aFm{w t:D}{ws:gX}:∀(qs:gX) (s:Slot),∃s',forL (gnm 3) kdB (qs.map pD) [.sh w,.sh t,.sh (sY (ddL (ws.map pl))),s]=if (qs.all λ q=>decide (q∈ws))=true then .nx [.sh w,.sh t,.sh (sY (ddL (ws.map pl))),s']else .ex "NoParting"
 |[],s=>⟨s,rfl⟩
 |q::qs,s=>by
  obtain⟨s',ih⟩:=aFm (w:=w) (t:=t) (ws:=ws) qs (.sh (pD q));refine⟨s',?_⟩;have hg:okE (gnm 3 (pD q) [.sh w,.sh t,.sh (sY (ddL (ws.map pl))),s]) (λ ρ1=>(kdB ρ1).tn (forL (gnm 3) kdB (qs.map pD)))=(kdB [.sh w,.sh t,.sh (sY (ddL (ws.map pl))),.sh (pD q)]).tn (forL (gnm 3) kdB (qs.map pD)):=rfl;have ht:tsb (op2 (inK true) (aD 3) (aD 2)) [.sh w,.sh t,.sh (sY (ddL (ws.map pl))),.sh (pD q)]= .ok (!decide (q∈ws)):=by
   show((okD (inK true (pD q) (sY (ddL (ws.map pl))))).bd blD)=_
   rw[aNp,dM,aZ,zT]
  rw[zAM,cC,hg,kdB,fu,ht,bF,zDH];by_cases hq:q∈ws
  .rw[decide_eq_true hq,zFD,if_neg zAX,lH,zCl]
   exact ih
  .rw[decide_eq_false hq,zEe,if_pos rfl,zDv,if_neg zAX]
   simp
def zy(W:Ow n ws)(hp:pln d=true)(hs:xX d=true):dw [owD n ws,d]=if ckB n ws d=true then .ok .non else .ex "NoParting":=by
 have st:aj 4 [owD n ws,d]=[.sh (owD n ws),.sh d,.no,.no]:=rfl;have e1:=aD6 (n:=n) hp hs;have t1:gU (tst (aP dH (aC (op2 ixD (aD 0) (cD (.int 0))) (aC (aD 1) aJ)))) [.sh (owD n ws),.sh d,.no,.no]= .ok (!(rpB n d&&(jf d).all λ q=>decide (q.1<q.2))):=by
  have:aP dH (aC (op2 ixD (aD 0) (cD (.int 0))) (aC (aD 1) aJ)) [.sh (owD n ws),.sh d,.no,.no]=dH [.int n,d]:=by simp[owD]
  rw[aBP,aAf,this,e1,aZ,aEz,aZ]
 have hck:ckB n ws d=((rpB n d&&(jf d).all λ q=>decide (q.1<q.2))&&(jf d).all λ q=>decide (q∈ws)):=by
  unfold ckB;rw[zEd];congr 1;rw[zBI];simp only[zAr,zAN];exact⟨λ h=>⟨λ q hq=>(h q hq).1,λ q hq=>(h q hq).2⟩,λ h q hq=>⟨h.1 q hq,h.2 q hq⟩⟩
 simp only[dw,fV,bA,st];rw[aK,fu,t1,bF,hck];cases hr:rpB n d&&(jf d).all λ q=>decide (q.1<q.2)with
 |false=>
  rw[zEe,if_pos rfl,zDv,if_neg zAX];simp
 |true=>
  rw[zFD,if_neg zAX,aU,zCl];obtain⟨ed,_,_⟩:=aCS (Bool.and_eq_true_iff.mp hr).1;have hwl:=W.len;have k1:kdC [.sh (owD n ws),.sh d,.no,.no]= .ok (sY (ddL (ws.map pl))):=aOD (ds:=ws.map pD) (out:=ws.map λ p=>.tup [pD p,.bl true]) (by simp[shE,oW,owD]) (by rw[zAE];lia) (sS ws λ p _=>⟨[.sh (pD p)],rfl,by
   have gi:uK (pD p)= .ok (pD p):=aGC rfl;unfold pairE;simp[gi]⟩) (aFl ws)
  obtain⟨s',lp⟩:=aFm (w:=owD n ws) (t:=d) (ws:=ws) (jf d) .no;have hi:bu (aD 1) [.sh (owD n ws),.sh d,.sh (sY (ddL (ws.map pl))),.no]= .ok ((jf d).map pD):=by
   show itD d=_
   conv=>lhs;rw[ed]
   rfl
  rw[aK,aAq,k1,bF]
  show(match (Ou.nx [.sh (owD n ws),.sh d,.sh (sY (ddL (ws.map pl))),.no]).sq _ with
   | .nx _=>Rs.ok D.non
   | .rt d=>.ok d
   | .ex c=>.ex c
   |_=>.st)=_
  rw[aU,cM,hi,bF,lp];cases (jf d).all λ q=>decide (q∈ws)with
  |true=>rw[if_pos rfl,if_pos rfl]
  |false=>rw[if_neg zAX,if_neg zAX]
def aJ8(W:Ow n ws)(low:∀p∈ws,p.1<p.2)(h:∀q∈qs,q∈ws):ckB n ws (.tup (qs.map pD))=vC qs:=by
 have e1:(qs.map pD).map aG2=qs:=by rw[zAi];exact(zAw λ q _=>rfl).trans (zEs qs)
 have e2:(qs.map pD).all (jQ n)=true:=by
  rw[zGk,zAr];intro q hq;obtain⟨a,b,c,d,e⟩:=W.pr q (h q hq);simp[zH3,pD,jQ,a,b,c,d,e]
 have e3:(qs.all λ q=>decide (q.1<q.2)&&decide (q∈ws))=true:=zAr.mpr λ q hq=>by simp[low q (h q hq),h q hq]
 unfold ckB rpB jf;dsimp only;rw[e1,e2,e3,zCl,zDb]
theorem eV{α:Type}[DecidableEq α]:∀{l m:List α},l.Nodup->(∀x∈l,x∈m)->l.length<=m.length
 |[],_,_,_=>zAj _
 |x::l,m,h,hs=>by
  obtain⟨h1,h2⟩:=zAp.mp h;have hx:=hs x zAH
  have:=eV (m:=m.erase x) h2 λ y hy=>(zCr (λ e:y=x=>h1 (e▸hy))).mpr (hs y (zAF _ hy))
  have hp:=zG4 hx;rw[zEF hx]at this;rw[zA6];lia
def aGk{ps:gX}(h:ps.Nodup)(low:∀p∈ps,p.1<p.2)(a:Int):(jR (dbl ps) a).Nodup:=aCd h low a
section
variable{ps qs:gX}{S:List Int}
def inN(S:List Int)(ps:gX):Nat:=(ps.filter λ p=>decide (p.1∈S)&&decide (p.2∈S)).length
def Ac(ps:gX):Prop:=∀S:List Int,S.Nodup->S≠[]->inN S ps+1<=S.length
def aIx(h:ps.Perm qs):inN S ps=inN S qs:=(h.filter _).length_eq
def Ac.perm(h:ps.Perm qs)(A:Ac qs):Ac ps:=λ S nd ne=>by rw[aIx h];exact A S nd ne
def qp(a b:Int):(mnI a b=a/\mxI a b=b)\/(mnI a b=b/\mxI a b=a):=by
 unfold mnI mxI;split<;>split
 .lia
 .exact .inr ⟨rfl,rfl⟩
 .exact .inl ⟨rfl,rfl⟩
 .have:a=b:=by lia
  exact .inl ⟨rfl,this⟩
def aI9{a b:Int}:(decide (mnI a b∈S)&&decide (mxI a b∈S))=(decide (a∈S)&&decide (b∈S)):=by
 rcases qp a b with ⟨h1,h2⟩|⟨h1,h2⟩
 .rw[h1,h2]
 .rw[h1,h2,Bool.and_comm]
def Fr.ac(h:Fr ps):Ac ps:=by
 induction h with
 |nil=>
  intro S _ ne
  have:=zEq.mpr ne
  show 0+1<=S.length;lia
 |@snoc ps a b h ne no ih=>
  intro S nd hS;unfold inN;rw[zFH,zA0,zBP,List.filter_nil];dsimp only;rw[aI9];by_cases c:a∈S/\b∈S
  .rw[if_pos (by simp[c])]
   have e:(ps.filter λ p=>decide (p.1∈S)&&decide (p.2∈S))=ps.filter λ p=>decide (p.1∈S.erase b)&&decide (p.2∈S.erase b):=zCm λ p hp=>by
    simp only[zCr (no p hp).1,zCr (no p hp).2]
   have h1:=ih (S.erase b) (nd.erase b) (zFJ ((zCr ne).mpr c.1));unfold inN at h1;rw[zEF c.2]at h1;rw[e];simp only[zA6,zCV];lia
  .rw[if_neg (by simpa using c)]
   have:=ih S nd hS
   unfold inN at this;simpa using this
end
section
variable{n:Int}{ps qs:gX}
def Cn.sub(h:Cn es a b)(s:∀p∈es,p∈es'):Cn es' a b:=by
 induction h with
 |refl=>exact .refl
 |step _ e ih=>exact ih.step (s _ e)
def aER{a b x y:Int}:(x,y)∈dbl (ps++[(mnI a b,mxI a b)])↔(x,y)∈dbl ps\/(x=a/\y=b)\/(x=b/\y=a):=by
 rw[b8,b8,zAU,zAU,zAI,zAI,zD0,zD0];rcases qp a b with ⟨h1,h2⟩|⟨h1,h2⟩
 .rw[h1,h2]
  constructor
  .rintro((h|h)|(h|h))
   .exact .inl (.inl h)
   .exact .inr (.inl h)
   .exact .inl (.inr h)
   .exact .inr (.inr ⟨h.2,h.1⟩)
  .rintro((h|h)|(h|h))
   .exact .inl (.inl h)
   .exact .inr (.inl h)
   .exact .inl (.inr h)
   .exact .inr (.inr ⟨h.2,h.1⟩)
 .rw[h1,h2]
  constructor
  .rintro((h|h)|(h|h))
   .exact .inl (.inl h)
   .exact .inr (.inr h)
   .exact .inl (.inr h)
   .exact .inr (.inl ⟨h.2,h.1⟩)
  .rintro((h|h)|(h|h))
   .exact .inl (.inl h)
   .exact .inr (.inl h)
   .exact .inr (.inr ⟨h.2,h.1⟩)
   .exact .inl (.inr h)
def alone(no:∀p∈ps,p.1≠b/\p.2≠b)(h:Cn (dbl ps) x y):x=b↔y=b:=by
 induction h with
 |refl=>exact Iff.rfl
 |@step u v _ e ih=>
  have:u≠b/\v≠b:=by
   rcases b8.mp e with z|z
   .exact⟨(no _ z).1,(no _ z).2⟩
   .exact⟨(no _ z).2,(no _ z).1⟩
  rw[ih];exact⟨λ z=>absurd z this.1,λ z=>absurd z this.2⟩
def aLe(no:∀p∈ps,p.1≠b/\p.2≠b)(h:Cn (dbl (ps++[(mnI a b,mxI a b)])) x y):Cn (dbl ps) x y\/(Cn (dbl ps) x a/\y=b)\/(x=b/\Cn (dbl ps) a y):=by
 induction h with
 |refl=>exact .inl .refl
 |@step u v _ e ih=>
  rcases aER.mp e with e2|⟨rfl,rfl⟩|⟨rfl,rfl⟩
  .rcases ih with h|⟨h,e3⟩|⟨e3,h⟩
   .exact .inl (h.step e2)
   .exact .inr (.inl ⟨h,(alone no (.step .refl e2)).mp e3⟩)
   .exact .inr (.inr ⟨e3,h.step e2⟩)
  .rcases ih with h|⟨h,e1⟩|⟨h,k⟩
   .exact .inr (.inl ⟨h,rfl⟩)
   .exact .inr (.inl ⟨h,rfl⟩)
   .subst h;exact .inl .refl
  .rcases ih with h|⟨h,_⟩|⟨h,k⟩
   .have:=(alone no h).mpr rfl
    subst this;exact .inr (.inr ⟨rfl,.refl⟩)
   .exact .inl h
   .exact .inr (.inr ⟨h,.refl⟩)
def aCs(hin:∀p∈ps,(0<=p.1/\p.1<n)/\(0<=p.2/\p.2<n))(ha:0<=a/\a<n):∃m,(0<=m/\m<n)/\Cn (dbl ps) a m/\bK (dbl ps) m=true:=by
 have dQ:∀x y,(x,y)∈dbl ps->0<=y/\y<n:=λ x y h=>by
  rcases b8.mp h with z|z
  .exact(hin _ z).2
  .exact(hin _ z).1
 have:∀k:Nat,∀a:Int,(0<=a/\a<n)->a.toNat<=k->∃m,(0<=m/\m<n)/\Cn (dbl ps) a m/\bK (dbl ps) m=true:=by
  intro k;induction k with
  |zero=>exact λ a ha hk=>⟨a,ha,.refl,cB.mpr λ b hb _=>by lia⟩
  |succ k ih=>
   intro a ha hk;by_cases c:bK (dbl ps) a=true
   .exact⟨a,ha,.refl,c⟩
   .rw[cB]at c
    obtain⟨b,hb⟩:=Classical.not_forall.mp c;obtain⟨hb0,hb⟩:=zG1.mp hb;obtain⟨hb1,hb⟩:=zG1.mp hb;obtain⟨m,h1,h2,h3⟩:=ih b (hb1.inn dQ ha) (by lia);exact⟨m,h1,hb1.trans h2,h3⟩
 exact this a.toNat a ha (zAT _)
def aL7{l:List Int}{p:Int->Bool}{M:Int}(nd:l.Nodup)(hm:M∈l)(hp:p M=true):(l.filter λ x=>p x&& !decide (x=M)).length+1=(l.filter p).length:=by
 induction l with
 |nil=>cases hm
 |cons x l ih=>
  obtain⟨h1,h2⟩:=zAp.mp nd;by_cases c:x=M
  .subst c
   have e:(l.filter λ y=>p y&& !decide (y=x))=l.filter p:=zCm λ y hy=>by
    have:y≠x:=λ e=>h1 (e▸hy)
    simp[this]
   simp[hp,e]
  .have hm':M∈l:=(zAL.mp hm).resolve_left λ e=>c e.symm
   have:=ih h2 hm'
   by_cases d:p x=true
   .simp[d,c];exact this
   .simp[d];exact this
def Fr.parts(h:Fr ps)(hin:∀p∈ps,(0<=p.1/\p.1<n)/\(0<=p.2/\p.2<n)):((upI n).filter (bK (dbl ps))).length+ps.length=n.toNat:=by
 induction h with
 |nil=>
  have e:(upI n).filter (bK (dbl []))=upI n:=zDh.mpr λ x hx=>cB.mpr λ b hb h=>by
   have:∀y,Cn (dbl []) x y->y=x:=λ y h=>by
    induction h with
    |refl=>rfl
    |step _ e _=>cases e
   rw[this b h];exact zDk _
  rw[e,cF];rfl
 |@snoc ps a b h ne no ih=>
  have hin':∀p∈ps,(0<=p.1/\p.1<n)/\(0<=p.2/\p.2<n):=λ p hp=>hin p (zAQ _ hp)
  have hab:(0<=a/\a<n)/\(0<=b/\b<n):=by
   have:=hin (mnI a b,mxI a b) (by simp)
   dsimp only at this;rcases qp a b with ⟨h1,h2⟩|⟨h1,h2⟩
   .rw[h1,h2]at this;exact this
   .rw[h1,h2]at this;exact⟨this.2,this.1⟩
  obtain⟨m,hm1,hm2,hm3⟩:=aCs hin' hab.1;have hmb:m≠b:=λ z=>ne ((alone no hm2).mpr z)
  have S:=gG ps;have S':=gG (ps++[(mnI a b,mxI a b)]);have sub:∀p∈dbl ps,p∈dbl (ps++[(mnI a b,mxI a b)]):=λ p hp=>aER.mpr (.inl hp)
  have tie:Cn (dbl (ps++[(mnI a b,mxI a b)])) m b:=((hm2.sub sub).symm S').step (aER.mpr (.inr (.inl ⟨rfl,rfl⟩)));have lb:bK (dbl ps) b=true:=cB.mpr λ y _ h=>by rw[(alone no h).mp rfl];exact zDk _
  have key:∀x∈upI n,bK (dbl (ps++[(mnI a b,mxI a b)])) x=(bK (dbl ps) x&& !decide (x=if m<b then b else m)):=λ x hx=>by
   have hx:=bI.mp hx;rw[zBI,zAN,cB,cB];constructor
   .intro h
    refine⟨λ y hy hc=>h y hy (hc.sub sub),?_⟩;rw[zCA,decide_eq_false_iff_not];intro e;split at e
    .subst e
     have:=h m hm1.1 (tie.symm S')
     lia
    .subst e
     have:=h b hab.2.1 tie
     lia
   .rintro⟨h,hM⟩ y hy hc
    rw[zCA,decide_eq_false_iff_not]at hM;rcases aLe no hc with h1|⟨h1,rfl⟩|⟨rfl,h1⟩
    .exact h y hy h1
    .have e1:=h m hm1.1 (h1.trans hm2)
     have e2:=cB.mp hm3 x hx.1 ((hm2.symm S).trans (h1.symm S));split at hM<;>lia
    .have e1:=cB.mp hm3 y hy ((hm2.symm S).trans h1)
     split at hM<;>lia
  rw[zCm key];have hM:(if m<b then b else m)∈upI n:=by
   split
   .exact bI.mpr hab.2
   .exact bI.mpr hm1
  have hp:bK (dbl ps) (if m<b then b else m)=true:=by
   split
   .exact lb
   .exact hm3
  have:=aL7 (jP n) hM hp
  have:=ih hin'
  rw[zA0,zBE];lia
def yV(h:∀p,p∈ps↔p∈qs):bK (dbl ps)=bK (dbl qs):=by
 have e:∀p,p∈dbl ps↔p∈dbl qs:=λ⟨x,y⟩=>by rw[b8,b8,h,h]
 funext x;rw[zBI,cB,cB];exact⟨λ k y hy hc=>k y hy (hc.sub λ p hp=>(e p).mpr hp),λ k y hy hc=>k y hy (hc.sub λ p hp=>(e p).mp hp)⟩
def yZ(h:Ow n ps)(low:∀p∈ps,p.1<p.2)(hp:ps.Perm qs)(F:Fr qs):jZ [owD n ps]= .ok (.bl true):=by
 rw[aBZ h low];have e:=F.parts (n:=n) λ p hq=>by
  obtain⟨a,b,c,d,_⟩:=h.pr p (hp.mem_iff.mpr hq);exact⟨⟨a,b⟩,c,d⟩
 have hl:(az n (dbl ps)).length=((upI n).filter (bK (dbl qs))).length:=by
  unfold az;rw[zAE,yV λ p=>hp.mem_iff]
 have h0:=h.n0
 have:(((az n (dbl ps)).length:Int)==n-(ps.length:Int))=true:=by
  rw[beq_iff_eq,hl,hp.length_eq];lia
 rw[this]
end
abbrev Hr:=Int×Option Int
def upD:Option Int->D
 |none=>.non
 |some u=>.int u
def hrD(r:Hr):D:=.tup [.int r.1,upD r.2]
structure Hg(n:Int)(ps:gX)(A T:List Hr):Prop where
 nd:((A++T).map (·.1)).Nodup
 inn:∀r∈A++T,0<=r.1/\r.1<n
 tie:∀r∈A++T,∀u,r.2=some u->(r.1,u)∈dbl ps
 ord:∀X r Y,A++T=X++r::Y->∀u,r.2=some u->u∈X.map (·.1)
 cl:∀r∈A,∀q,(r.1,q)∈dbl ps->r.2=some q\/(q,some r.1)∈A
 hd:T=[]\/∃t T',T=(t,none)::T'/\∀r∈T',∃u,r.2=some u/\u∈T.map (·.1)
theorem aCW{α:Type}{R:α->α->Prop}:∀{l:List α},(∀X r Y,l=X++r::Y->∀s∈Y,R r s)->l.Pairwise R
 |[],_=>.nil
 |a::l,h=>.cons (h [] a l rfl) (aCW λ X r Y e=>h (a::X) r Y (by rw[e];rfl))
section
variable{n:Int}{ps:gX}
def w6(low:∀p∈ps,p.1<p.2){x y:Int}(h:(x,y)∈dbl ps):(mnI x y,mxI x y)∈ps:=by
 unfold mnI mxI;rcases b8.mp h with z|z
 .have:=low _ z
  dsimp only at this;rw[if_neg (by lia),if_pos (by lia)];exact z
 .have:=low _ z
  dsimp only at this;rw[if_pos (by lia),if_neg (by lia)];exact z
def aFc{a b c d:Int}(h:(mnI a b,mxI a b)=(mnI c d,mxI c d)):(a=c/\b=d)\/(a=d/\b=c):=by
 rw[zD0]at h;obtain⟨h1,h2⟩:=h;rcases qp a b with ⟨e1,e2⟩|⟨e1,e2⟩<;>rcases qp c d with ⟨e3,e4⟩|⟨e3,e4⟩<;>rw[e1,e3]at h1<;>rw[e2,e4]at h2
 .exact .inl ⟨h1,h2⟩
 .exact .inr ⟨h1,h2⟩
 .exact .inr ⟨h2,h1⟩
 .exact .inl ⟨h2,h1⟩
def aKA(r:Hr):Int×Int:=(mnI r.1 (r.2.getD 0),mxI r.1 (r.2.getD 0))
def Hg.row(h:Hg n ps A T){r s:Hr}(hr:r∈A++T)(hs:s∈A++T)(e:r.1=s.1):r=s:=by
 have:=h.nd
 rw[zAc,zB0]at this;exact zBK λ z=>by
  obtain⟨i,hi,rfl⟩:=zBk hr;obtain⟨j,hj,rfl⟩:=zBk hs;rcases zEK i j with k|k|k
  .exact zAx.mp this i j hi hj k e
  .subst k;exact z rfl
  .exact zAx.mp this j i hj hi k e.symm
def Hg.apart(h:Hg n ps A T){x:Int}(h1:x∈A.map (·.1))(h2:x∈T.map (·.1)):False:=by
 have:=h.nd
 rw[zAZ,zAb]at this;exact this.2.2 x h1 x h2 rfl
def Hg.fresh(h:Hg n ps A T)(low:∀p∈ps,p.1<p.2)(Ac':Ac ps)(hr:r∈T)(ht:(r.1,q)∈dbl ps)(hu:r.2≠some q)(hn:(q,some r.1)∉T):q∉(A++T).map (·.1):=by
 have hrT:r.1∈T.map (·.1):=zAS.mpr ⟨r,hr,rfl⟩;intro hq;rw[zAZ]at hq;rcases zAU.mp hq with hq|hq
 .obtain⟨s,hs,rfl⟩:=zAS.mp hq
  rcases h.cl s hs r.1 (gG ps _ _ ht)with e|e
  .obtain⟨X,Y,rfl⟩:=zCJ hs
   have:=h.ord X s (Y++T) (by simp) r.1 e
   exact h.apart (by rw[zAZ];exact zAQ _ this) hrT
  .exact h.apart (zAS.mpr ⟨_,e,rfl⟩) hrT
 .rcases h.hd with z|⟨t,T',rfl,hT⟩
  .rw[z]at hr;cases hr
  have ndT:(((t,none)::T').map (·.1)).Nodup:=by
   have:=h.nd
   rw[zAZ,zAb]at this;exact this.2.1
  have sub:∀{s:Hr},s∈T'->s∈A++(t,none)::T':=λ hs=>zA5 _ (zAF _ hs)
  have tR:∀{s:Hr} {u:Int},s.2=some u->aKA s=(mnI s.1 u,mxI s.1 u):=λ{s u} e=>by unfold aKA;rw[e];rfl
  have hL:(T'.map aKA++[(mnI r.1 q,mxI r.1 q)]).Nodup:=by
   rw[zAb];refine⟨?_,by simp,λ a ha b hb e=>?_⟩
   .rw[zAc,zB0]
    refine aCW λ X s Y e s' hs' z=>?_
    have hs:s∈T':=by rw[e];simp
    have hs2:s'∈T':=by rw[e];simp[hs']
    obtain⟨u,eu,_⟩:=hT s hs;obtain⟨u',eu',_⟩:=hT s' hs2;rw[tR eu,tR eu']at z;have ne:s.1≠s'.1:=λ z2=>by
     rw[e]at ndT;rw[zAM,zAZ,zAM]at ndT
     have:=(zAp.mp (zAb.mp (zAp.mp ndT).2).2.1).1
     exact this (by rw[z2];exact zAS.mpr ⟨s',hs',rfl⟩)
    rcases aFc z with ⟨z1,_⟩|⟨z1,z2⟩
    .exact ne z1
    .have:=h.ord (A++(t,none)::X) s Y (by rw[e];simp) u eu
     rw[z2]at this;have nd:=h.nd;rw[e]at nd;rw[show A++(t,none)::(X++s::Y)=(A++(t,none)::X)++s::Y by simp,zAZ,zAb]at nd;exact nd.2.2 _ this _ (zAS.mpr ⟨s',zAF _ hs',rfl⟩) rfl
   .rw[zAI]at hb
    subst hb;obtain⟨s,hs,rfl⟩:=zAS.mp ha;obtain⟨u,eu,_⟩:=hT s hs;rw[tR eu]at e;rcases aFc e with ⟨z1,z2⟩|⟨z1,z2⟩
    .have:=h.row (sub hs) (zA5 A hr) z1
     subst this;rw[z2]at eu;exact hu eu
    .refine hn (zAF _ ?_)
     have:s=(q,some r.1):=zFh z1 (by rw[eu,z2])
     rw[<-this];exact hs
  have hin:∀p∈T'.map aKA++[(mnI r.1 q,mxI r.1 q)],p∈ps.filter λ p=>decide (p.1∈((t,none)::T').map (·.1))&&decide (p.2∈((t,none)::T').map (·.1)):=λ p hp=>by
   rcases zAU.mp hp with z|z
   .obtain⟨s,hs,rfl⟩:=zAS.mp z
    obtain⟨u,eu,hm⟩:=hT s hs;rw[tR eu];refine zAa.mpr ⟨w6 low (h.tie s (sub hs) u eu),?_⟩;dsimp only;rw[aI9,zAN,decide_eq_true_eq,decide_eq_true_eq];exact⟨zAS.mpr ⟨s,zAF _ hs,rfl⟩,hm⟩
   .rw[zAI.mp z]
    refine zAa.mpr ⟨w6 low ht,?_⟩;dsimp only;rw[aI9,zAN,decide_eq_true_eq,decide_eq_true_eq];exact⟨hrT,hq⟩
  have h1:=eV hL hin;have h2:=Ac' (((t,none)::T').map (·.1)) ndT (by simp);unfold inN at h2;rw[zA0,zAE,zBE]at h1;rw[zAE,zA6]at h2;lia
def xV{α:Type}{l X Y:List α}{a r:α}(e:l++[a]=X++r::Y):(X=l/\r=a/\Y=[])\/∃Y',Y=Y'++[a]/\l=X++r::Y':=by
 rcases zGm Y with rfl|⟨Y',b,rfl⟩
 .have:=zHr e rfl
  rw[zEJ]at this;exact .inl ⟨this.1.symm,this.2.1.symm,rfl⟩
 .have e2:l++[a]=(X++r::Y')++[b]:=by rw[e];simp
  have:=zHr e2 rfl
  rw[zEJ]at this;exact .inr ⟨Y',by rw[this.2.1,zGl],this.1⟩
def Hg.snoc(h:Hg n ps A T)(hr:r∈T)(hq:0<=q/\q<n)(ht:(r.1,q)∈dbl ps)(hn:q∉(A++T).map (·.1)):Hg n ps A (T++[(q,some r.1)]):=by
 have hrT:r.1∈T.map (·.1):=zAS.mpr ⟨r,hr,rfl⟩;refine⟨?_,λ s hs=>?_,λ s hs u eu=>?_,λ X s Y e u eu=>?_,h.cl,.inr ?_⟩
 .rw[<-zAt,zAZ,zAb]
  exact⟨h.nd,by simp,λ x hx y hy e=>by rw[zAM,zCf,zAI]at hy;subst hy;subst e;exact hn hx⟩
 .rw[<-zAt]at hs
  rcases zAU.mp hs with z|z
  .exact h.inn s z
  .rw[zAI.mp z];exact hq
 .rw[<-zAt]at hs
  rcases zAU.mp hs with z|z
  .exact h.tie s z u eu
  .rw[zAI.mp z]at eu ⊢
   cases eu;exact gG ps _ _ ht
 .rw[<-zAt]at e
  rcases xV e with ⟨rfl,rfl,_⟩|⟨Y',_,e2⟩
  .cases eu
   rw[zAZ];exact zA5 _ hrT
  .exact h.ord X s Y' e2 u eu
 .rcases h.hd with z|⟨t,T',rfl,hT⟩
  .rw[z]at hr;cases hr
  .refine⟨t,T'++[(q,some r.1)],rfl,λ s hs=>?_⟩
   rcases zAU.mp hs with z|z
   .obtain⟨u,e1,e2⟩:=hT s z
    exact⟨u,e1,by rw[zAZ];exact zAQ _ e2⟩
   .rw[zAI.mp z]
    exact⟨r.1,rfl,by rw[zAZ];exact zAQ _ hrT⟩
def Hg.len(h:Hg n ps A T):(A++T).length<=n.toNat:=by
 have:=eV (m:=upI n) h.nd λ x hx=>by
  obtain⟨r,hr,rfl⟩:=zAS.mp hx;exact bI.mpr (h.inn r hr)
 rwa [zAE,cF]at this
end
section
variable{n:Int}{ps:gX}
abbrev huE(n:Int)(ps:gX)(ll:eB)(seen:List Int)(rows:List Hr)(k:Int)(s5 s6 s7 s8:Slot):En:=[.sh (owD n ps),.sh (.lst (ll.map .lst)),.ow (.set seen),.ow (.lst (rows.map hrD)),.sh (.int k),s5,s6,s7,s8]
structure Sn(seen:List Int)(rows:List Hr):Prop where
 nd:seen.Nodup
 iff:∀x,x∈seen↔∃u,(x,some u)∈rows
def Sn.len(S:Sn seen (A++T))(h:Hg n ps A T):seen.length<=n.toNat:=by
 have:=eV (m:=upI n) S.nd λ x hx=>by
  obtain⟨u,hu⟩:=(S.iff x).mp hx;exact bI.mpr (h.inn _ hu)
 rwa [cF]at this
theorem yh(O:Ow n ps)(low:∀p∈ps,p.1<p.2)(Ac':Ac ps):∀(us:List Int) (T:List Hr) (seen:List Int) (s8:Slot),r∈T->us.Nodup->(∀u∈us,(r.1,u)∈dbl ps)->(∀u∈us,(u,some r.1)∉T)->Hg n ps A T->Sn seen (A++T)->
  ∃M seen' s8',forL (gnm 8) huI (us.map .int) (huE n ps ll seen (A++T) k s5 (.sh (.int r.1)) (.sh (upD r.2)) s8)= .nx (huE n ps ll seen' (A++(T++M)) k s5 (.sh (.int r.1)) (.sh (upD r.2)) s8')/\Hg n ps A (T++M)/\Sn seen' (A++(T++M))/\(∀u∈us,r.2=some u\/(u,some r.1)∈T++M)/\∀s∈M,s.2=some r.1
 |[],T,seen,s8,_,_,_,_,h,S=>⟨[],seen,s8,by simp,by simpa using h,by simpa using S,λ u hu=>(nomatch hu),λ s hs=>(nomatch hs)⟩
 |q::us,T,seen,s8,hr,nd,ht,hn,h,S=>by
  obtain⟨nd1,nd2⟩:=zAp.mp nd;have tq:=ht q zAH;have hq:0<=q/\q<n:=by
   rcases b8.mp tq with z|z
   .have:=O.pr _ z;exact⟨this.2.2.1,this.2.2.2.1⟩
   .have:=O.pr _ z;exact⟨this.1,this.2.1⟩
  have kQ:=h.len;have hsl:=S.len h;have hn1:=O.n1;rw[zAM,cC,sU,mJ]
  show∃M seen' s8',(huI (huE n ps ll seen (A++T) k s5 (.sh (.int r.1)) (.sh (upD r.2)) (.sh (.int q)))).tn _=_/\_
  by_cases c:r.2=some q
  .have e:huI (huE n ps ll seen (A++T) k s5 (.sh (.int r.1)) (.sh (upD r.2)) (.sh (.int q)))= .nx (huE n ps ll seen (A++T) k s5 (.sh (.int r.1)) (.sh (upD r.2)) (.sh (.int q))):=by
    simp[huI,c,upD]
   rw[e,lH];obtain⟨M,seen',s8',e1,h1,h2,h3,h4⟩:=yh O low Ac' us T seen (.sh (.int q)) hr nd2 (λ u hu=>ht u (zAF _ hu)) (λ u hu=>hn u (zAF _ hu)) h S;refine⟨M,seen',s8',e1,h1,h2,λ u hu=>?_,h4⟩;rcases zAL.mp hu with rfl|hu
   .exact .inl c
   .exact h3 u hu
  .have fr:=h.fresh low Ac' hr tq c (hn q zAH)
   have hg:=h.snoc hr hq tq fr;have hns:q∉seen:=λ z=>by
    obtain⟨u,hu⟩:=(S.iff q).mp z;exact fr (zAS.mpr ⟨_,hu,rfl⟩)
   have ed:zAo seen q=seen++[q]:=by
    unfold zAo;simp[hns]
   have S':Sn (seen++[q]) (A++(T++[(q,some r.1)])):=by
    refine⟨by rw[zAb];exact⟨S.nd,by simp,λ x hx y hy e=>by rw[zAI.mp hy]at e;subst e;exact hns hx⟩,λ x=>?_⟩;rw[zAU,S.iff,zAI];constructor
    .rintro(⟨u,hu⟩|rfl)
     .exact⟨u,by rw[<-zAt];exact zAQ _ hu⟩
     .exact⟨r.1,by simp⟩
    .rintro⟨u,hu⟩
     rw[<-zAt]at hu;rcases zAU.mp hu with z|z
     .exact .inl ⟨u,z⟩
     .rw[zAI]at z
      cases z;exact .inr rfl
   have a0:tsb (op2 (eqR true) (aD 8) (aD 7)) (huE n ps ll seen (A++T) k s5 (.sh (.int r.1)) (.sh (upD r.2)) (.sh (.int q)))= .ok true:=by
    obtain⟨r1,r2⟩:=r;cases r2 with
    |none=>simp[upD];rfl
    |some u=>
     have:q≠u:=λ z=>c (by rw[z])
     simp[upD,this]
   have a1:aJi 2 (bH (aD 8)) (huE n ps ll seen (A++T) k s5 (.sh (.int r.1)) (.sh (upD r.2)) (.sh (.int q)))= .nx (huE n ps ll (seen++[q]) (A++T) k s5 (.sh (.int r.1)) (.sh (upD r.2)) (.sh (.int q))):=by
    have hv:bH (aD 8) (huE n ps ll seen (A++T) k s5 (.sh (.int r.1)) (.sh (upD r.2)) (.sh (.int q)))= .ok (.int q):=by simp
    show((bH (aD 8) (huE n ps ll seen (A++T) k s5 (.sh (.int r.1)) (.sh (upD r.2)) (.sh (.int q)))).bo λ d=>aD9 (huE n ps ll seen (A++T) k s5 (.sh (.int r.1)) (.sh (upD r.2)) (.sh (.int q))) 2 seen d)=_
    rw[hv,bF];unfold aD9;dsimp only;rw[if_pos (by lia),ed];rfl
   have a2:lC 3 (gM (aC (bH (aD 8)) (aC (bH (aD 6)) aJ))) (huE n ps ll (seen++[q]) (A++T) k s5 (.sh (.int r.1)) (.sh (upD r.2)) (.sh (.int q)))= .nx (huE n ps ll (seen++[q]) (A++(T++[(q,some r.1)])) k s5 (.sh (.int r.1)) (.sh (upD r.2)) (.sh (.int q))):=by
    have hz:((A++T).map hrD).length<16777216:=by rw[zAE];lia
    have hv:gM (aC (bH (aD 8)) (aC (bH (aD 6)) aJ)) (huE n ps ll (seen++[q]) (A++T) k s5 (.sh (.int r.1)) (.sh (upD r.2)) (.sh (.int q)))= .ok (hrD (q,some r.1)):=by simp[hrD,upD]
    show((gM (aC (bH (aD 8)) (aC (bH (aD 6)) aJ)) (huE n ps ll (seen++[q]) (A++T) k s5 (.sh (.int r.1)) (.sh (upD r.2)) (.sh (.int q)))).bo λ d=>if ((A++T).map hrD).length<zAY then .nx ((huE n ps ll (seen++[q]) (A++T) k s5 (.sh (.int r.1)) (.sh (upD r.2)) (.sh (.int q))).set 3 (.ow (.lst ((A++T).map hrD++[d]))))else .st)=_
    rw[hv,bF,if_pos (by rw[szl];exact hz)];simp
   have e:huI (huE n ps ll seen (A++T) k s5 (.sh (.int r.1)) (.sh (upD r.2)) (.sh (.int q)))= .nx (huE n ps ll (seen++[q]) (A++(T++[(q,some r.1)])) k s5 (.sh (.int r.1)) (.sh (upD r.2)) (.sh (.int q))):=by
    rw[huI,fu,a0,bF,if_pos rfl,aK,a1,aU,a2]
   rw[e,lH];obtain⟨M,seen',s8',e1,h1,h2,h3,h4⟩:=yh O low Ac' us (T++[(q,some r.1)]) (seen++[q]) (.sh (.int q)) (zAQ _ hr) nd2 (λ u hu=>ht u (zAF _ hu)) (λ u hu z=>by
    rcases zAU.mp z with z|z
    .exact hn u (zAF _ hu) z
    .rw[zAI]at z
     cases z;exact nd1 hu) hg S'
   rw[zAt]at e1 h1 h2 h3;refine⟨[(q,some r.1)]++M,seen',s8',e1,h1,h2,λ u hu=>?_,λ s hs=>?_⟩
   .rcases zAL.mp hu with rfl|hu
    .exact .inr (by simp)
    .exact h3 u hu
   .rcases zAU.mp hs with z|z
    .rw[zAI.mp z]
    .exact h4 s z
def aHS{c:En->Rs Bool}{b:En->Ou}{ρ:En}(h:c ρ= .ok false):rB c b ρ= .nx ρ:=by
 show itW c b (999999+1) ρ= .nx ρ;unfold itW;rw[h];rfl
structure Hw(n:Int)(ps:gX)(A T1 T2:List Hr):Prop where
 g:Hg n ps A (T1++T2)
 pr:∀r∈T1,∀q,(r.1,q)∈dbl ps->r.2=some q\/(q,some r.1)∈T1++T2
 up:∀r∈T1++T2,∀u,r.2=some u->u∈T1.map (·.1)
def aNs{T1 T2:List Hr}(O:Ow n ps)(low:∀p∈ps,p.1<p.2)(Ac':Ac ps)(L:∀i:Int,0<=i->i<n->atD (ll.map .lst) i= .ok (.lst ((jR (dbl ps) i).map .int)))(h:Hw n ps A T1 (r::T2))(S:Sn seen (A++(T1++r::T2))):
  ∃M seen' s6' s7' s8',huW (huE n ps ll seen (A++(T1++r::T2)) ((A.length+T1.length:Nat):Int) s5 s6 s7 s8)= .nx (huE n ps ll seen' (A++((T1++[r])++(T2++M))) ((A.length+(T1++[r]).length:Nat):Int) s5 s6' s7' s8')/\Hw n ps A (T1++[r]) (T2++M)/\Sn seen' (A++((T1++[r])++(T2++M))):=by
 have hrT:r∈T1++r::T2:=by simp
 have hri:=h.g.inn r (zA5 _ hrT);have nd:=h.g.nd;rw[show A++(T1++r::T2)=(A++T1)++r::T2 by simp,zAZ,zAb]at nd;have hp:r.1∉T1.map (·.1):=λ z=>nd.2.2 r.1 (by rw[zAZ];exact zA5 _ z) r.1 (by simp) rfl
 obtain⟨M,seen',s8',e,h1,h2,h3,h4⟩:=yh (ll:=ll) (k:=((A.length+T1.length:Nat):Int)) (s5:=s5) (r:=r) O low Ac' (jR (dbl ps) r.1) (T1++r::T2) seen s8 hrT (aGk (m9 O) low r.1) (λ u hu=>wy.mp hu) (λ u hu z=>hp (h.up _ z r.1 rfl)) h.g S;have eq:(T1++r::T2)++M=(T1++[r])++(T2++M):=by simp
 rw[eq]at e h1 h2 h3;have ea:(((A++(T1++r::T2)).map hrD)[A.length+T1.length]?)=some (hrD r):=by
  rw[zA2,show A++(T1++r::T2)=(A++T1)++r::T2 by simp,zCp (by simp)];simp
 have ea':=fW ea;have im:uK (hrD r)= .ok (hrD r):=by
  obtain⟨r1,r2⟩:=r;cases r2<;>rfl
 have c1:aAB (bH (op2 ixD (eE 3) (aD 4))) (fD 2 (aa (gnm 6) (aa (gnm 7) fP))) (huE n ps ll seen (A++(T1++r::T2)) ((A.length+T1.length:Nat):Int) s5 s6 s7 s8)= .nx (huE n ps ll seen (A++(T1++r::T2)) ((A.length+T1.length:Nat):Int) s5 (.sh (.int r.1)) (.sh (upD r.2)) s8):=by
  have hv:bH (op2 ixD (eE 3) (aD 4)) (huE n ps ll seen (A++(T1++r::T2)) ((A.length+T1.length:Nat):Int) s5 s6 s7 s8)= .ok (hrD r):=by
   have v1:eE 3 (huE n ps ll seen (A++(T1++r::T2)) ((A.length+T1.length:Nat):Int) s5 s6 s7 s8)= .ok (.lst ((A++(T1++r::T2)).map hrD)):=rfl;have v2:aD 4 (huE n ps ll seen (A++(T1++r::T2)) ((A.length+T1.length:Nat):Int) s5 s6 s7 s8)= .ok (.int ((A.length+T1.length:Nat):Int)):=rfl;rw[aLX,iH,v1,aZ,v2,aZ,aBW,ea',dM,aZ,im]
  rw[aLl,hv,bF];simp[hrD]
 have c2:gB (bu (op2 ixD (aD 1) (aD 6))) (gnm 8) huI (huE n ps ll seen (A++(T1++r::T2)) ((A.length+T1.length:Nat):Int) s5 (.sh (.int r.1)) (.sh (upD r.2)) s8)= .nx (huE n ps ll seen' (A++((T1++[r])++(T2++M))) ((A.length+T1.length:Nat):Int) s5 (.sh (.int r.1)) (.sh (upD r.2)) s8'):=by
  have hi:bu (op2 ixD (aD 1) (aD 6)) (huE n ps ll seen (A++(T1++r::T2)) ((A.length+T1.length:Nat):Int) s5 (.sh (.int r.1)) (.sh (upD r.2)) s8)= .ok ((jR (dbl ps) r.1).map .int):=by simp[L _ hri.1 hri.2,-zAZ]
  rw[cM,hi,bF,e]
 refine⟨M,seen',.sh (.int r.1),.sh (upD r.2),s8',?_,⟨h1,λ s hs q hq=>?_,λ s hs u eu=>?_⟩,h2⟩
 .rw[huW,aK,c1,aU,aK,c2,aU]
  show Ou.nx (huE n ps ll seen' (A++((T1++[r])++(T2++M))) (((A.length+T1.length:Nat):Int)+1) s5 (.sh (.int r.1)) (.sh (upD r.2)) s8')=_;rw[show(((A.length+T1.length:Nat):Int)+1)=((A.length+(T1++[r]).length:Nat):Int)by simp;lia]
 .rcases zAU.mp hs with z|z
  .rcases h.pr s z q hq with e|e
   .exact .inl e
   .exact .inr (by rw[<-eq];exact zAQ _ e)
  .rw[zAI.mp z]at hq ⊢
   exact h3 q (wy.mpr hq)
 .rw[<-eq]at hs
  rw[zAZ];rcases zAU.mp hs with z|z
  .exact zAQ _ (h.up s z u eu)
  .rw[h4 s z]at eu
   cases eu;exact zA5 _ (by simp)
def aJB{T:List Hr}(O:Ow n ps)(low:∀p∈ps,p.1<p.2)(Ac':Ac ps)(L:∀i:Int,0<=i->i<n->atD (ll.map .lst) i= .ok (.lst ((jR (dbl ps) i).map .int)))(h:Hw n ps A [] T)(S:Sn seen (A++T)):
  ∃T' seen' s6' s7' s8',rB huT huW (huE n ps ll seen (A++T) (A.length:Int) s5 s6 s7 s8)= .nx (huE n ps ll seen' (A++T') ((A++T').length:Int) s5 s6' s7' s8')/\Hw n ps A T' []/\Sn seen' (A++T')/\∃M,T'=T++M:=by
 have hn1:=O.n1;obtain⟨ρ',m',e,⟨T1,T2,seen',s6',s7',s8',rfl,h',S',hm,M,hM⟩,ht⟩:=xN (c:=huT) (b:=huW)
  (λ m ρ=>∃(T1 T2:List Hr) (seen':List Int) (s6 s7 s8:Slot),ρ=huE n ps ll seen' (A++(T1++T2)) ((A.length+T1.length:Nat):Int) s5 s6 s7 s8/\Hw n ps A T1 T2/\Sn seen' (A++(T1++T2))/\m=n.toNat-(A.length+T1.length)/\∃M,T1++T2=T++M)
  (by
   rintro m ρ ⟨T1,T2,seen',s6,s7,s8,rfl,h',S',rfl,M,hM⟩;have kQ:=h'.g.len;rw[zA0,zA0]at kQ;cases T2 with
   |nil=>
    left;simp[huT]
   |cons r T2=>
    right;rw[zA6]at kQ;refine⟨by simp[huT];lia,?_⟩;obtain⟨M',seen2,t6,t7,t8,e,q1,q2⟩:=aNs (s5:=s5) (s6:=s6) (s7:=s7) (s8:=s8) O low Ac' L h' S';refine⟨_,n.toNat-(A.length+(T1++[r]).length),e,by simp;lia,_,_,_,_,_,_,rfl,q1,q2,rfl,M++M',?_⟩;rw[<-zAt T,<-hM];simp)
  (m:=n.toNat-(A.length+([]:List Hr).length)) (ρ:=huE n ps ll seen (A++T) (A.length:Int) s5 s6 s7 s8) (by lia) ⟨[],T,seen,s6,s7,s8,by simp,h,by simpa using S,rfl,[],by simp⟩
 have:T2=[]:=by
  cases T2 with
  |nil=>rfl
  |cons r T2=>
   have:huT (huE n ps ll seen' (A++(T1++r::T2)) ((A.length+T1.length:Nat):Int) s5 s6' s7' s8')= .ok true:=by simp[huT];lia
   rw[this]at ht;cases ht
 subst this;rw[zAe]at e hM S';refine⟨T1,seen',s6',s7',s8',?_,h',S',M,hM⟩;rw[e,zA0]
structure tB(n:Int)(ps:gX)(rows:List Hr):Prop where
 pm:(rows.map (·.1)).Perm (upI n)
 tie:∀r∈rows,∀u,r.2=some u->(r.1,u)∈dbl ps
 ord:∀X r Y,rows=X++r::Y->∀u,r.2=some u->u∈X.map (·.1)
 cl:∀r∈rows,∀q,(r.1,q)∈dbl ps->r.2=some q\/(q,some r.1)∈rows
def aLY(O:Ow n ps)(low:∀p∈ps,p.1<p.2)(Ac':Ac ps):∃rows,zV [owD n ps]= .ok (.lst (rows.map hrD))/\tB n ps rows:=by
 obtain⟨ll,el,_,L⟩:=oH O;have hn0:=O.n0;have hn1:=O.n1;have hx:ixD (owD n ps) (.int 0)= .ok (.int n):=by simp[owD]
 have st:aj 9 [owD n ps]=[.sh (owD n ps),.no,.no,.no,.no,.no,.no,.no,.no]:=rfl;have hr:=jh (j:=n) (by lia) (by lia);have c1:eF 1 (aP cW (aC (aD 0) aJ)) [.sh (owD n ps),.no,.no,.no,.no,.no,.no,.no,.no]= .nx [.sh (owD n ps),.sh (.lst (ll.map .lst)),.no,.no,.no,.no,.no,.no,.no]:=by simp[el]
 have c2:iT 2 (cD (.set [])) [.sh (owD n ps),.sh (.lst (ll.map .lst)),.no,.no,.no,.no,.no,.no,.no]= .nx [.sh (owD n ps),.sh (.lst (ll.map .lst)),.ow (.set []),.no,.no,.no,.no,.no,.no]:=by simp
 have c3:iT 3 (fj aJ) [.sh (owD n ps),.sh (.lst (ll.map .lst)),.ow (.set []),.no,.no,.no,.no,.no,.no]= .nx [.sh (owD n ps),.sh (.lst (ll.map .lst)),.ow (.set []),.ow (.lst []),.no,.no,.no,.no,.no]:=by simp
 have c4:eF 4 (cD (.int 0)) [.sh (owD n ps),.sh (.lst (ll.map .lst)),.ow (.set []),.ow (.lst []),.no,.no,.no,.no,.no]= .nx (huE n ps ll [] [] 0 .no .no .no .no):=by simp
 have hi:ig kW (aC (op2 ixD (aD 0) (cD (.int 0))) aJ) (huE n ps ll [] [] 0 .no .no .no .no)= .ok (bN 0 n):=by simp[hx,hr]
 obtain⟨ρ',e,A,seen,s5,s6,s7,s8,rfl,h,S,kX,_⟩:=my (ds:=bN 0 n) (a:=gnm 5) (u:=huB) (ρ:=huE n ps ll [] [] 0 .no .no .no .no)
  (λ i ρ=>∃(A:List Hr) (seen:List Int) (s5 s6 s7 s8:Slot),ρ=huE n ps ll seen A (A.length:Int) s5 s6 s7 s8/\Hw n ps A [] []/\Sn seen A/\(∀x:Int,0<=x->x<i->x∈A.map (·.1))/\∀r∈A,r.2=none->r.1<i) (by
   rintro i d ρ hd ⟨A,seen,s5,s6,s7,s8,rfl,h,S,kX,hrt⟩;obtain⟨rfl,hlt⟩:=m6 hd;rw[zGs]at hlt;rw[sU,mJ,zGs]
   show∃ρ2,huB (huE n ps ll seen A (A.length:Int) (.sh (.int (i:Int))) s6 s7 s8)= .nx ρ2/\_
   have kQ:=h.g.len;rw[zAe,zAe]at kQ;have t0:tsb (op2 (inX true) (aD 5) (eE 2)) (huE n ps ll seen A (A.length:Int) (.sh (.int (i:Int))) s6 s7 s8)= .ok (!decide ((i:Int)∈seen)):=by
    have hx2:inX true (.int (i:Int)) (.set seen)= .ok (.bl (!decide ((i:Int)∈seen))):=rfl;simp[hx2]
   have Aend:∀(T':List Hr),Hw n ps A T' []->Hw n ps (A++T') [] []:=λ T' h'=>by
    have g:=h'.g;rw[zAe]at g;refine⟨⟨by simpa using g.nd,by simpa using g.inn,by simpa using g.tie,by simpa using g.ord,λ s hs q hq=>?_,.inl rfl⟩,λ s hs=>(nomatch hs),λ s hs=>(nomatch hs)⟩;rcases zAU.mp hs with z|z
    .rcases g.cl s z q hq with e|e
     .exact .inl e
     .exact .inr (zAQ _ e)
    .rcases h'.pr s z q hq with e|e
     .exact .inl e
     .rw[zAe]at e
      exact .inr (zA5 _ e)
   by_cases c:(i:Int)∈seen
   .refine⟨_,?_,A,seen,.sh (.int (i:Int)),s6,s7,s8,rfl,h,S,λ x h0 h1=>?_,λ r hr hn=>by have:=hrt r hr hn;lia⟩
    .have e0:ifS (tsb (op2 (inX true) (aD 5) (eE 2))) (lC 3 (gM (aC (bH (aD 5)) (aC (cD .non) aJ)))) Ou.nx (huE n ps ll seen A (A.length:Int) (.sh (.int (i:Int))) s6 s7 s8)= .nx (huE n ps ll seen A (A.length:Int) (.sh (.int (i:Int))) s6 s7 s8):=by
      rw[fu,t0,bF,if_neg (by simp[c])]
     rw[huB,aK,e0,aU];exact aHS (by simp[huT])
    .by_cases z:x<i
     .exact kX x h0 z
     .have:x=(i:Int):=by lia
      subst this;obtain⟨u,hu⟩:=(S.iff _).mp c;exact zAS.mpr ⟨_,hu,rfl⟩
   .have hni:(i:Int)∉A.map (·.1):=λ z=>by
     obtain⟨r,hr,e⟩:=zAS.mp z;cases e2:r.2 with
     |none=>have:=hrt r hr e2;lia
     |some u=>exact c ((S.iff _).mpr ⟨u,by rw[<-e,<-e2];exact hr⟩)
    have gA:=h.g;rw[zAe]at gA;have h1:Hw n ps A [] [((i:Int),none)]:=by
     refine⟨⟨?_,λ r hr=>?_,λ r hr u eu=>?_,λ X r Y e u eu=>?_,gA.cl,.inr ⟨_,[],rfl,λ r hr=>(nomatch hr)⟩⟩,λ r hr=>(nomatch hr),λ r hr u eu=>?_⟩
     .have:=gA.nd
      rw[zAe]at this;rw[zCC,zAZ,zAb];exact⟨this,by simp,λ x hx y hy e=>by rw[zAM,zCf,zAI]at hy;subst hy;subst e;exact hni hx⟩
     .rcases zAU.mp hr with z|z
      .exact gA.inn r (zAQ _ z)
      .rw[zAI.mp z];exact⟨by lia,hlt⟩
     .rcases zAU.mp hr with z|z
      .exact gA.tie r (zAQ _ z) u eu
      .rw[zAI.mp z]at eu;cases eu
     .rcases xV e with ⟨_,rfl,_⟩|⟨Y',_,e2⟩
      .cases eu
      .exact gA.ord X r Y' (by rw[zAe];exact e2) u eu
     .rw[zAI.mp hr]at eu;cases eu
    have S1:Sn seen (A++[((i:Int),none)]):=⟨S.nd,λ x=>by
     rw[S.iff];constructor
     .rintro⟨u,hu⟩
      exact⟨u,zAQ _ hu⟩
     .rintro⟨u,hu⟩
      rcases zAU.mp hu with z|z
      .exact⟨u,z⟩
      .rw[zAI]at z;cases z⟩
    have e0:ifS (tsb (op2 (inX true) (aD 5) (eE 2))) (lC 3 (gM (aC (bH (aD 5)) (aC (cD .non) aJ)))) Ou.nx (huE n ps ll seen A (A.length:Int) (.sh (.int (i:Int))) s6 s7 s8)= .nx (huE n ps ll seen (A++[((i:Int),none)]) (A.length:Int) (.sh (.int (i:Int))) s6 s7 s8):=by
     rw[fu,t0,bF,if_pos (by simp[c])];have hz:A.length<16777216:=by lia
     simp[lC,hz,hrD,upD]
    obtain⟨T',seen',t6,t7,t8,e,h',S',M,hM⟩:=aJB (ll:=ll) (T:=[((i:Int),none)]) (s5:=.sh (.int (i:Int))) (s6:=s6) (s7:=s7) (s8:=s8) O low Ac' L h1 S1;refine⟨_,by rw[huB,aK,e0,aU];exact e,A++T',seen',_,t6,t7,t8,rfl,Aend T' h',S',λ x h0 h1=>?_,λ r hr hn=>?_⟩
    .rw[zAZ]
     by_cases z:x<i
     .exact zAQ _ (kX x h0 z)
     .have:x=(i:Int):=by lia
      subst this;rw[hM];exact zA5 _ (by simp)
    .rcases zAU.mp hr with z|z
     .have:=hrt r z hn;lia
     .have hd:=h'.g.hd
      rw[zAe]at hd;rcases hd with q|⟨t,T2,q,qq⟩
      .rw[q]at z;cases z
      .rw[q]at z
       rcases zAL.mp z with z|z
       .rw[q]at hM
        have:t=(i:Int):=by
         rw[zB9,zEJ]at hM;exact congrArg zFK hM.1
        rw[z];dsimp only;lia
       .obtain⟨u,eu,_⟩:=qq r z
        rw[eu]at hn;cases hn) ⟨[],[],.no,.no,.no,.no,rfl,⟨⟨by simp,λ r hr=>(nomatch hr),λ r hr=>(nomatch hr),λ X r Y e=>by simp at e,λ r hr=>(nomatch hr),.inl rfl⟩,λ r hr=>(nomatch hr),λ r hr=>(nomatch hr)⟩,⟨by simp,λ x=>by simp⟩,λ x h0 h1=>by lia,λ r hr=>(nomatch hr)⟩
 have g:=h.g;simp only[zAe]at g;have hl:((bN 0 n).length:Int)=n:=by rw[gD];lia
 have nd:=g.nd;have ord:=g.ord;have tie:=g.tie;rw[zAe]at nd ord tie;refine⟨A,?_,⟨?_,tie,ord,g.cl⟩⟩
 .simp only[zV,vW,bA,st]
  rw[aK,c1,aU,aK,c2,aU,aK,c3,aU,aK,c4,aU,aK,cM,hi,bF,e,aU];rfl
 .refine(zBc nd (jP n)).mpr λ x=>⟨λ hx=>?_,λ hx=>?_⟩
  .obtain⟨r,hr,rfl⟩:=zAS.mp hx
   exact bI.mpr (g.inn r (zAQ _ hr))
  .have:=bI.mp hx
   exact kX x this.1 (by rw[hl];exact this.2)
end
section
variable{n:Int}{ps:gX}
def room(es:List Int)(p:Int):Nat:=if p∈es then 1 else 2
def eZ(p c:Int):Int×Int:=(mnI p c,mxI p c)
def aOE(l:List D)(k:Nat):cutD l none (some (k:Int))=l.take k:=by
 by_cases h:k<=l.length
 .exact aLb h
 .have e1:HT.sIx l.length l.length (some (k:Int))=l.length:=by simp[HT.sIx];lia
  have e2:HT.sIx l.length 0 none=0:=rfl;unfold cutD;rw[e1,e2,zEh,zF8,zCD (zAT _),zCD (by lia)]
def aGR(p c:Int):uh [.int p,.int c]= .ok (pD (eZ p c)):=by
 have st:aj 2 [.int p,.int c]=[.sh (.int p),.sh (.int c)]:=rfl;simp only[uh,nD,bA,st];simp[pD,eZ,mnI,mxI]
abbrev joE(n:Int)(ps:gX)(es:List Int)(ll:eB)(T:gX)(Fd:List Int)(s5 s6 s7:Slot):En:=[.sh (owD n ps),.sh (tupI es),.o2 ll,.ow (.lst (T.map pD)),.ow (.lst (Fd.map .int)),s5,s6,s7]
structure Wt(n:Int)(ll:eB)(W:Int->List Int):Prop where
 len:ll.length=n.toNat
 at_:∀x:Int,0<=x->x<n->ll.getD x.toNat []=(W x).map .int
def Wt.ix(h:Wt n ll W){x:Int}(h0:0<=x)(h1:x<n):atD (ll.map .lst) x= .ok (.lst ((W x).map .int)):=by
 have hk:x.toNat<ll.length:=by rw[h.len];lia
 have ex:((x.toNat:Nat):Int)=x:=zDA h0
 have:=fW (l:=ll.map .lst) (k:=x.toNat) (d:=.lst ((W x).map .int)) (by
  rw[zA2,zAD hk,<-h.at_ x h0 h1,zA3,zAD hk];rfl)
 rwa [ex]at this
def Wt.put(h:Wt n ll W){x c:Int}(h0:0<=x)(h1:x<n):Wt n (cG ll (x,c)) (λ y=>if y=x then W x++[c]else W y):=by
 refine⟨by rw[tH];exact h.len,λ y y0 y1=>?_⟩;have hk:x.toNat<ll.length:=by rw[h.len];lia
 unfold cG;dsimp only;by_cases e:y=x
 .subst e
  rw[if_pos rfl,zA3,zBT hk,h.at_ y y0 y1];simp
 .rw[if_neg e,zA3,zBG (by lia),<-zA3,h.at_ y y0 y1]
structure Jo(n:Int)(es:List Int)(Z:List Hr)(W:Int->List Int)(T:gX)(Fd:List Int):Prop where
 w:∀x c,c∈W x↔(c,some x)∈Z/\c∉Fd
 nd:∀x,(W x).Nodup
 fnd:Fd.Nodup
 fz:∀p∈Fd,p∈Z.map (·.1)
 fi:∀p∈Z.map (·.1),p∈Fd↔room es p<=(W p).length
 t:T=(Z.map (·.1)).flatMap λ p=>((W p).take (room es p)).map (eZ p)
def Jo.len(J:Jo n es Z W T Fd)(hz:(Z.map (·.1)).Nodup)(hi:∀r∈Z,0<=r.1/\r.1<n)(x:Int):(W x).length<=n.toNat:=by
 have:=eV (m:=upI n) (J.nd x) λ c hc=>bI.mpr (hi _ ((J.w x c).mp hc).1)
 rwa [cF]at this
theorem aH0{f:Int->Nat}{k:Nat}(h:∀x,f x<=k):∀l:List Int,(l.map f).sum<=k*l.length
 |[]=>zAj _
 |x::l=>by
  have:=aH0 h l
  have:=h x
  rw[zAM,zDJ,zA6,Nat.mul_succ];lia
def Jo.tlen(J:Jo n es Z W T Fd):T.length<=2*Z.length:=by
 rw[J.t,zEp]
 have:=aH0 (f:=λ p=>(((W p).take (room es p)).map (eZ p)).length) (k:=2) (λ x=>by
  rw[zAE,zBQ];unfold room;split<;>lia) (Z.map (·.1))
 rwa [zAE]at this
def aNi(hn0:0<=n)(hn:n<=60)(J:Jo n es Z W T Fd)(H:Wt n ll W)(hz:(Z.map (·.1)).Nodup)(hi:∀s∈Z,0<=s.1/\s.1<n)(hr:0<=r.1/\r.1<n)(hp:r.1∉Z.map (·.1))(hu:∀u,r.2=some u->(0<=u/\u<n)/\u≠r.1/\u∉Z.map (·.1))(hlz:Z.length<=100):
  ∃ll' W' T' Fd' s7',joB (joE n ps es ll T Fd (.sh (.int r.1)) (.sh (upD r.2)) s7)= .nx (joE n ps es ll' T' Fd' (.sh (.int r.1)) (.sh (upD r.2)) s7')/\Jo n es (Z++[r]) W' T' Fd'/\Wt n ll' W':=by
 have hwl:=J.len hz hi r.1;have hwl2:=λ u=>J.len hz hi u
 have htl:=J.tlen;have hfl:Fd.length<=Z.length:=by
  have:=eV J.fnd J.fz
  rwa [zAE]at this
 have c1:eF 7 (ifD (tsb (op2 (inR false) (aD 5) (aD 1))) (cD (.int 1)) (cD (.int 2))) (joE n ps es ll T Fd (.sh (.int r.1)) (.sh (upD r.2)) s7)= .nx (joE n ps es ll T Fd (.sh (.int r.1)) (.sh (upD r.2)) (.sh (.int (room es r.1:Int)))):=by
  have:=aDK false r.1 es
  have h2:inR false (.int r.1) (tupI es)= .ok (.bl (decide (r.1∈es))):=this;unfold room;by_cases c:r.1∈es
  .simp[h2,c]
  .simp[h2,c]
 have a1:joA (joE n ps es ll T Fd (.sh (.int r.1)) (.sh (upD r.2)) (.sh (.int (room es r.1:Int))))= .ok (.lst ((((W r.1).take (room es r.1)).map (eZ r.1)).map pD)):=by
  unfold joA;rw[zAi];refine ik (ds:=((W r.1).take (room es r.1)).map .int) ?_ (by rw[zAE,zBQ];lia) (sS _ λ c hc=>⟨[.sh (.int c),.sh (.int r.1)],rfl,?_⟩)
  .have ct:=aOE ((W r.1).map .int) (room es r.1)
   simp[shE,oW,H.ix hr.1 hr.2,ct]
  .simp[aGR]
 have c2:aLj 3 joA (joE n ps es ll T Fd (.sh (.int r.1)) (.sh (upD r.2)) (.sh (.int (room es r.1:Int))))= .nx (joE n ps es ll (T++((W r.1).take (room es r.1)).map (eZ r.1)) Fd (.sh (.int r.1)) (.sh (upD r.2)) (.sh (.int (room es r.1:Int)))):=by
  show((joA (joE n ps es ll T Fd (.sh (.int r.1)) (.sh (upD r.2)) (.sh (.int (room es r.1:Int))))).bo λ d=>match d with
   | .lst es'=>if (T.map pD).length+es'.length<=zAY/\pW es'=true then .nx ((joE n ps es ll T Fd (.sh (.int r.1)) (.sh (upD r.2)) (.sh (.int (room es r.1:Int)))).set 3 (.ow (.lst (T.map pD++es'))))else .st
   |_=>.st)=_
  rw[a1,bF];dsimp only;rw[if_pos ⟨by rw[szl,zAE,zAE,zAE,zBQ];lia,aB0 λ d hd=>by
   obtain⟨p,_,rfl⟩:=zAS.mp hd;rfl⟩]
  simp
 have t3:tsb (op2 geD (opA eX (aC (op2 ixD (eE 2) (aD 5)) aJ)) (aD 7)) (joE n ps es ll (T++((W r.1).take (room es r.1)).map (eZ r.1)) Fd (.sh (.int r.1)) (.sh (upD r.2)) (.sh (.int (room es r.1:Int))))= .ok (decide (room es r.1<=(W r.1).length)):=by
  simp[H.ix hr.1 hr.2]
 have tw:∀W':Int->List Int,(∀p∈Z.map (·.1),W' p=W p)->W' r.1=W r.1->T++((W r.1).take (room es r.1)).map (eZ r.1)=((Z++[r]).map (·.1)).flatMap λ p=>((W' p).take (room es p)).map (eZ p):=λ W' h1 h2=>by
  rw[zAZ,List.flatMap_append,J.t];congr 1
  .rw[zHs,zHs]
   congr 1;exact zAw λ p hp=>by rw[h1 p hp]
  .simp[h2]
 by_cases c:room es r.1<=(W r.1).length
 .refine⟨ll,W,T++((W r.1).take (room es r.1)).map (eZ r.1),Fd++[r.1],.sh (.int (room es r.1:Int)),?_,⟨λ x c'=>?_,J.nd,?_,λ p hp'=>?_,λ p hp'=>?_,tw W (λ _ _=>rfl) rfl⟩,H⟩
  .rw[joB,aK,c1,aU,aK,c2,aU,fu,t3,bF,if_pos (by simpa using c)]
   have hz:Fd.length<16777216:=by lia
   simp[lC,hz]
  .rw[J.w,zAU,zAU,zAI,zAI]
   constructor
   .rintro⟨h1,h2⟩
    refine⟨.inl h1,λ z=>?_⟩;rcases z with z|z
    .exact h2 z
    .exact hp (zAS.mpr ⟨_,h1,z⟩)
   .rintro⟨h1|h1,h2⟩
    .exact⟨h1,λ z=>h2 (.inl z)⟩
    .exact absurd (.inr (congrArg zFK h1)) h2
  .rw[zAb]
   exact⟨J.fnd,by simp,λ x hx y hy e=>by rw[zAI.mp hy]at e;subst e;exact hp (J.fz _ hx)⟩
  .rw[zAZ]
   rcases zAU.mp hp' with z|z
   .exact zAQ _ (J.fz p z)
   .rw[zAI.mp z];simp
  .rw[zAZ]at hp'
   rw[zAU,zAI];rcases zAU.mp hp' with z|z
   .rw[J.fi p z]
    exact⟨λ q=>q.elim id λ e=>absurd (e▸z) hp,.inl⟩
   .rw[zAM,zCf,zAI]at z
    subst z;exact⟨λ _=>c,λ _=>.inr rfl⟩
 .cases hu2:r.2 with
  |none=>
   refine⟨ll,W,T++((W r.1).take (room es r.1)).map (eZ r.1),Fd,.sh (.int (room es r.1:Int)),?_,⟨λ x c'=>?_,J.nd,J.fnd,λ p hp'=>?_,λ p hp'=>?_,tw W (λ _ _=>rfl) rfl⟩,H⟩
   .rw[hu2]at c1 c2 t3
    have e6:tsb (op2 (isD true) (aD 6) (cD .non)) (joE n ps es ll (T++((W r.1).take (room es r.1)).map (eZ r.1)) Fd (.sh (.int r.1)) (.sh (upD none)) (.sh (.int (room es r.1:Int))))= .ok false:=rfl;rw[joB,aK,c1,aU,aK,c2,aU,fu,t3,bF,if_neg (by simpa using c),fu,e6];rfl
   .rw[J.w,zAU,zAI]
    constructor
    .rintro⟨h1,h2⟩
     exact⟨.inl h1,h2⟩
    .rintro⟨h1|h1,h2⟩
     .exact⟨h1,h2⟩
     .have:=congrArg zFi h1
      rw[hu2]at this;cases this
   .rw[zAZ]
    exact zAQ _ (J.fz p hp')
   .rw[zAZ]at hp'
    rcases zAU.mp hp' with z|z
    .exact J.fi p z
    .rw[zAM,zCf,zAI]at z
     subst z;exact⟨λ q=>absurd (J.fz _ q) hp,λ q=>absurd q c⟩
  |some u=>
   obtain⟨hu0,hu1,hu3⟩:=hu u hu2;refine⟨cG ll (u,r.1),λ y=>if y=u then W u++[r.1]else W y,T++((W r.1).take (room es r.1)).map (eZ r.1),Fd,.sh (.int (room es r.1:Int)),?_,⟨λ x c'=>?_,λ x=>?_,J.fnd,λ p hp'=>?_,λ p hp'=>?_,tw (λ y=>if y=u then W u++[r.1]else W y) (λ p hp'=>if_neg λ e:p=u=>hu3 (e▸hp')) (if_neg λ e:r.1=u=>hu1 e.symm)⟩,H.put hu0.1 hu0.2⟩
   .rw[hu2]at c1 c2 t3
    have e6:tsb (op2 (isD true) (aD 6) (cD .non)) (joE n ps es ll (T++((W r.1).take (room es r.1)).map (eZ r.1)) Fd (.sh (.int r.1)) (.sh (upD (some u))) (.sh (.int (room es r.1:Int))))= .ok true:=rfl;rw[joB,aK,c1,aU,aK,c2,aU,fu,t3,bF,if_neg (by simpa using c),fu,e6,bF,if_pos rfl];have hl:(ll.getD u.toNat []).length<16777216:=by
     rw[H.at_ u hu0.1 hu0.2,zAE]
     have:=hwl2 u
     lia
    exact aBm (a:=u) (b:=r.1) rfl (by simp[upD]) (by simp) hu0.1 (by rw[H.len];lia) hl
   .rw[zAU,zAI]
    by_cases e:x=u
    .subst e
     rw[if_pos rfl,zAU,J.w,zAI];constructor
     .rintro(⟨h1,h2⟩|rfl)
      .exact⟨.inl h1,h2⟩
      .exact⟨.inr (zFh rfl hu2.symm),λ z=>hp (J.fz _ z)⟩
     .rintro⟨h1|h1,h2⟩
      .exact .inl ⟨h1,h2⟩
      .exact .inr (congrArg zFK h1)
    .rw[if_neg e,J.w]
     constructor
     .rintro⟨h1,h2⟩
      exact⟨.inl h1,h2⟩
     .rintro⟨h1|h1,h2⟩
      .exact⟨h1,h2⟩
      .have:=congrArg zFi h1
       rw[hu2]at this;cases this;exact absurd rfl e
   .split
    .rw[zAb]
     exact⟨J.nd u,by simp,λ a ha b hb e=>by rw[zAI.mp hb]at e;subst e;exact hp (zAS.mpr ⟨_,((J.w u _).mp ha).1,rfl⟩)⟩
    .exact J.nd x
   .rw[zAZ]
    exact zAQ _ (J.fz p hp')
   .rw[zAZ]at hp'
    rcases zAU.mp hp' with z|z
    .rw[if_neg λ e:p=u=>hu3 (e▸z)]
     exact J.fi p z
    .rw[zAM,zCf,zAI]at z
     subst z;rw[if_neg λ e:r.1=u=>hu1 e.symm];exact⟨λ q=>absurd (J.fz _ q) hp,λ q=>absurd q c⟩
def aGo(O:Ow n ps)(low:∀p∈ps,p.1<p.2)(Ac':Ac ps)(es:List Int):∃rows W T Fd,tB n ps rows/\Jo n es rows.reverse W T Fd/\∀(hT:T.Nodup) (hl:T.length<64),∃qs:gX,lq [owD n ps,tupI es]= .ok (.tup [.tup (qs.map pD),tupI (sortI Fd)])/\qs.Perm T/\vC qs=true:=by
 obtain⟨rows,eh,Hu⟩:=aLY O low Ac';have hn0:=O.n0;have hn1:=O.n1;have hx:ixD (owD n ps) (.int 0)= .ok (.int n):=by simp[owD]
 have st:aj 8 [owD n ps,tupI es]=[.sh (owD n ps),.sh (tupI es),.no,.no,.no,.no,.no,.no]:=rfl;have hr:=jh (j:=n) (by lia) (by lia);have kQ:(bN 0 n).length=n.toNat:=by rw[gD];lia
 have hz:n.toNat<16777216:=by lia
 have c1:llS 2 (ig kW (aC (op2 ixD (aD 0) (cD (.int 0))) aJ)) [none] (gnm 0) [.sh (owD n ps),.sh (tupI es),.no,.no,.no,.no,.no,.no]= .nx [.sh (owD n ps),.sh (tupI es),.o2 (zAW n.toNat []),.no,.no,.no,.no,.no]:=by
  unfold llS;simp[shE,oW,hx,hr,kQ,hz]
 have c2:iT 3 (fj aJ) [.sh (owD n ps),.sh (tupI es),.o2 (zAW n.toNat []),.no,.no,.no,.no,.no]= .nx [.sh (owD n ps),.sh (tupI es),.o2 (zAW n.toNat []),.ow (.lst []),.no,.no,.no,.no]:=by simp
 have c3:iT 4 (fj aJ) [.sh (owD n ps),.sh (tupI es),.o2 (zAW n.toNat []),.ow (.lst []),.no,.no,.no,.no]= .nx (joE n ps es (zAW n.toNat []) [] [] .no .no .no):=by simp
 have hi:bu (op1 aFV (aP zV (aC (aD 0) aJ))) (joE n ps es (zAW n.toNat []) [] [] .no .no .no)= .ok (rows.reverse.map hrD):=by
  have rv:aFV (.lst (rows.map hrD))= .ok (.lst (rows.map hrD).reverse):=rfl;simp[eh,rv]
 have hrl:rows.length=n.toNat:=by
  have:=Hu.pm.length_eq
  rwa [zAE,cF]at this
 have hin:∀s∈rows,0<=s.1/\s.1<n:=λ s hs=>bI.mp (Hu.pm.mem_iff.mp (zAS.mpr ⟨s,hs,rfl⟩))
 have hnd:(rows.map (·.1)).Nodup:=Hu.pm.nodup_iff.mpr (jP n);have rnd:(rows.reverse.map (·.1)).Nodup:=by rw[zBa];exact(zFV _).nodup_iff.mpr hnd
 obtain⟨ρ',e,ll,W,T,Fd,s5,s6,s7,rfl,J,H⟩:=my (ds:=rows.reverse.map hrD) (a:=fD 2 (aa (gnm 5) (aa (gnm 6) fP))) (u:=joB) (ρ:=joE n ps es (zAW n.toNat []) [] [] .no .no .no)
  (λ i ρ=>∃(ll:eB) (W:Int->List Int) (T:gX) (Fd:List Int) (s5 s6 s7:Slot),ρ=joE n ps es ll T Fd s5 s6 s7/\Jo n es (rows.reverse.take i) W T Fd/\Wt n ll W) (by
   rintro i d ρ hd ⟨ll,W,T,Fd,s5,s6,s7,rfl,J,H⟩;rw[zA2]at hd;cases er:rows.reverse[i]? with
   |none=>rw[er]at hd;cases hd
   |some r=>
    rw[er]at hd;cases hd;have hil:=(zAJ.mp er).1;have sp:rows.reverse=rows.reverse.take i++r::rows.reverse.drop (i+1):=by
     have h1:=List.take_append_drop i rows.reverse;rw[zBn hil]at h1;have h2:=zAD hil;rw[er]at h2;cases h2;exact h1.symm
    have nd2:=rnd;rw[sp,zAZ,zAb,zAM]at nd2;have rm:r∈rows:=by
     have:r∈rows.reverse:=zBH er
     simpa using this
    have hp:r.1∉(rows.reverse.take i).map (·.1):=λ z=>nd2.2.2 _ z _ zAH rfl
    have hu:∀u,r.2=some u->(0<=u/\u<n)/\u≠r.1/\u∉(rows.reverse.take i).map (·.1):=λ u eu=>by
     have sp2:rows=(rows.reverse.drop (i+1)).reverse++r::(rows.reverse.take i).reverse:=by
      have:=congrArg List.reverse sp
      rw[List.reverse_reverse,List.reverse_append,zCn,zAt]at this;exact this
     have hm:=Hu.ord _ _ _ sp2 u eu;rw[zBa,zBb]at hm;refine⟨?_,λ z=>?_,λ z=>nd2.2.2 _ z _ (zAF _ hm) rfl⟩
     .obtain⟨s,hs,rfl⟩:=zAS.mp hm
      exact hin s (by have:=List.mem_of_mem_drop hs;simpa using this)
     .subst z
      exact(zAp.mp nd2.2.1).1 hm
    obtain⟨ll',W',T',Fd',s7',e,J',H'⟩:=aNi (ps:=ps) (s7:=s7) hn0 hn1 J H nd2.1 (λ s hs=>hin s (by have:=zB8 hs;simpa using this)) (hin r rm) hp hu (by rw[zBQ,zEr];lia);refine⟨_,by simp[hrD];exact e,ll',W',T',Fd',_,_,s7',rfl,?_,H'⟩;rw[zH9,er];exact J') ⟨_,λ _=>[],[],[],_,_,_,rfl,⟨λ x c=>by simp,λ x=>by simp,by simp,λ p hp=>(nomatch hp),λ p hp=>(nomatch hp),by simp⟩,⟨by simp,λ x h0 h1=>by
   rw[zA3,zC4];split<;>rfl⟩⟩
 rw[zCD (by rw[zAE];exact zAT _)]at J;refine⟨rows,W,T,Fd,Hu,J,λ hT hl=>?_⟩;have hfl:Fd.length<=rows.length:=by
  have:=eV J.fnd J.fz
  rwa [zAE,zEr]at this
 obtain⟨qs,q1,q2,q3⟩:=rF hT hl;have q4:=uq (l:=Fd) (by lia);refine⟨qs,?_,q2,q3⟩;simp only[lq,gk,bA,st];rw[aK,c1,aU,aK,c2,aU,aK,c3,aU,aK,cM,hi,bF,e,aU];simp[q1,q4,tupI]
end
section
variable{n:Int}{ps:gX}
def dgr(F:gX)(x:Int):Nat:=(F.filter λ t=>decide (t.1=x)||decide (t.2=x)).length
theorem aAi{f g:Int->Nat}:∀l:List Int,(l.map λ x=>f x+g x).sum=(l.map f).sum+(l.map g).sum
 |[]=>rfl
 |x::l=>by
  have:=aAi (f:=f) (g:=g) l
  simp only[zAM,zDJ];lia
theorem xP{f g:Int->Nat}:∀{l:List Int},(∀x∈l,f x<=g x)->(l.map f).sum<=(l.map g).sum
 |[],_=>zAT _
 |x::l,h=>by
  have:=xP λ y hy=>h y (zAF _ hy)
  have:=h x zAH
  simp only[zAM,zDJ];lia
theorem aBy{f:Int->Nat}{q:Int->Bool}:∀l:List Int,(l.map f).sum=((l.filter q).map f).sum+((l.filter λ x=>!q x).map f).sum
 |[]=>rfl
 |x::l=>by
  have:=aBy (f:=f) (q:=q) l
  cases c:q x<;>simp[c]<;>lia
def aDT(t:Int×Int)(F:gX)(x:Int):dgr (t::F) x=dgr F x+(if t.1=x\/t.2=x then 1 else 0):=by
 unfold dgr;rw[zBP];by_cases c:t.1=x\/t.2=x
 .rw[if_pos (by simpa using c),if_pos c,zA6]
 .rw[if_neg (by simpa using c),if_neg c]
  rfl
def pP(Fd:List Int)(t:Int×Int):Bool:=!(decide (t.1∈Fd)||decide (t.2∈Fd))
def aLA(a b:Int):eZ a b=eZ b a:=by
 unfold eZ;rcases qp a b with ⟨h1,h2⟩|⟨h1,h2⟩<;>rcases qp b a with ⟨h3,h4⟩|⟨h3,h4⟩<;>rw[h1,h2,h3,h4]
 .unfold mnI at h1 h3
  split at h1<;>split at h3<;>·rw[zD0];lia
 .unfold mnI at h1 h3
  split at h1<;>split at h3<;>·rw[zD0];lia
def aFA{x y:Int}(h:x<y):eZ x y=(x,y):=by
 unfold eZ mnI mxI;rw[if_neg (by lia),if_pos (by lia)]
def tB.nd(Hu:tB n ps rows):(rows.map (·.1)).Nodup:=Hu.pm.nodup_iff.mpr (jP n)
def tB.row(Hu:tB n ps rows){r s:Hr}(hr:r∈rows)(hs:s∈rows)(e:r.1=s.1):r=s:=by
 have:=Hu.nd
 rw[zAc,zB0]at this;refine zBK λ z=>?_
 obtain⟨i,hi,rfl⟩:=zBk hr;obtain⟨j,hj,rfl⟩:=zBk hs;rcases zEK i j with k|k|k
 .exact zAx.mp this i j hi hj k e
 .subst k;exact z rfl
 .exact zAx.mp this j i hj hi k e.symm
def tB.no2(Hu:tB n ps rows)(h1:(c,some p)∈rows)(h2:(p,some c)∈rows):False:=by
 obtain⟨X,Y,e⟩:=zCJ h1;obtain⟨s,hs,es⟩:=zAS.mp (Hu.ord X _ Y e p rfl);have hs2:s∈rows:=by rw[e];exact zAQ _ hs
 have:=Hu.row hs2 h2 es
 subst this;obtain⟨X1,X2,e2⟩:=zCJ hs;have e3:rows=X1++(p,some c)::(X2++(c,some p)::Y):=by rw[e,e2];simp
 have hc:=Hu.ord X1 _ _ e3 c rfl;have nd:=Hu.nd;rw[e3,zAZ,zAb]at nd;exact nd.2.2 c hc c (by simp) rfl
def tB.up_in(Hu:tB n ps rows)(h1:(c,some p)∈rows):p∈rows.map (·.1):=by
 obtain⟨X,Y,e⟩:=zCJ h1;rw[e,zAZ];exact zAQ _ (Hu.ord X _ Y e p rfl)
def Jo.mem{rows:List Hr}(J:Jo n es rows.reverse W T Fd){t:Int×Int}:t∈T↔∃p∈rows.map (·.1),∃c∈(W p).take (room es p),t=eZ p c:=by
 rw[J.t,zET];constructor
 .rintro⟨p,hp,ht⟩
  obtain⟨c,hc,rfl⟩:=zAS.mp ht;exact⟨p,by rw[zBa,zBb]at hp;exact hp,c,hc,rfl⟩
 .rintro⟨p,hp,c,hc,rfl⟩
  exact⟨p,by rw[zBa,zBb];exact hp,zAS.mpr ⟨c,hc,rfl⟩⟩
def Jo.wr{rows:List Hr}(J:Jo n es rows.reverse W T Fd):c∈W x↔(c,some x)∈rows/\c∉Fd:=by
 rw[J.w,zBb]
def Jo.nodup(Hu:tB n ps rows)(J:Jo n es rows.reverse W T Fd):T.Nodup:=by
 rw[J.t,zAc,List.pairwise_flatMap];refine⟨λ p hp=>?_,?_⟩
 .rw[zB0]
  have:=((J.nd p).sublist (zHa (room es p) (W p)))
  rw[zAc]at this;exact this.imp λ{a b} ne e=>by
   rcases aFc e with ⟨_,z⟩|⟨z1,z2⟩
   .exact ne z
   .exact ne (z2.trans z1)
 .have nd:(rows.reverse.map (·.1)).Nodup:=by rw[zBa];exact(zFV _).nodup_iff.mpr Hu.nd
  rw[zAc]at nd;refine nd.imp λ{p p'} ne t ht t' ht' e=>?_
  obtain⟨c,hc,rfl⟩:=zAS.mp ht;obtain⟨c',hc',rfl⟩:=zAS.mp ht';rcases aFc e with ⟨z,_⟩|⟨z1,z2⟩
  .exact ne z
  .subst z1 z2
   exact Hu.no2 (J.wr.mp (zB8 hc)).1 (J.wr.mp (zB8 hc')).1
def Jo.sub(Hu:tB n ps rows)(low:∀p∈ps,p.1<p.2)(J:Jo n es rows.reverse W T Fd):∀t∈T,t∈ps:=λ t ht=>by
 obtain⟨p,_,c,hc,rfl⟩:=J.mem.mp ht;exact w6 low (gG ps _ _ (Hu.tie _ (J.wr.mp (zB8 hc)).1 p rfl))
def aHt(es:List Int)(x:Int):1<=room es x:=by unfold room;split<;>lia
def Jo.less(Hu:tB n ps rows)(J:Jo n es rows.reverse W T Fd)(h:x∉Fd):(W x).length<room es x:=by
 by_cases c:x∈rows.map (·.1)
 .have:=J.fi x (by rw[zBa,zBb];exact c)
  exact zIQ λ z=>h (this.mpr z)
 .have:W x=[]:=by
   rw[List.eq_nil_iff_forall_not_mem];exact λ c' hc=>c (Hu.up_in (J.wr.mp hc).1)
  rw[this];exact aHt es x
def aHX{p c x:Int}(h:(decide ((eZ p c).1=x)||decide ((eZ p c).2=x))=true):p=x\/c=x:=by
 unfold eZ at h;simp at h;rcases qp p c with ⟨h1,h2⟩|⟨h1,h2⟩<;>rw[h1,h2]at h
 .exact h
 .exact h.symm
def Jo.deg(Hu:tB n ps rows)(J:Jo n es rows.reverse W T Fd)(x:Int):dgr T x<=room es x:=by
 have nd:=(J.nodup Hu).filter λ t=>decide (t.1=x)||decide (t.2=x)
 have hx:∀t∈T.filter (λ t=>decide (t.1=x)||decide (t.2=x)),t∈((W x).take (room es x)).map (eZ x)\/∃p,t=eZ p x/\(x,some p)∈rows/\x∉Fd:=λ t ht=>by
  obtain⟨h1,h2⟩:=zAa.mp ht;obtain⟨p,_,c,hc,rfl⟩:=J.mem.mp h1;rcases aHX h2 with rfl|rfl
  .exact .inl (zAS.mpr ⟨c,hc,rfl⟩)
  .exact .inr ⟨p,rfl,J.wr.mp (zB8 hc)⟩
 unfold dgr;by_cases c:x∈Fd
 .have:=eV nd λ t ht=>(hx t ht).resolve_right λ⟨p,_,_,z⟩=>z c
  rw[zAE,zBQ]at this;lia
 .have hl:=J.less Hu c
  by_cases h:∃u,(x,some u)∈rows
  .obtain⟨u,hu⟩:=h
   have:=eV (m:=(W x).map (eZ x)++[eZ u x]) nd λ t ht=>by
    rcases hx t ht with z|⟨p,rfl,z,_⟩
    .obtain⟨c',hc',rfl⟩:=zAS.mp z
     exact zAQ _ (zAS.mpr ⟨c',zB8 hc',rfl⟩)
    .have:=congrArg zFi (Hu.row z hu rfl)
     dsimp only at this;cases this;simp
   rw[zA0,zAE,zBE]at this;lia
  .have:=eV (m:=(W x).map (eZ x)) nd λ t ht=>by
    rcases hx t ht with z|⟨p,_,z,_⟩
    .obtain⟨c',hc',rfl⟩:=zAS.mp z
     exact zAS.mpr ⟨c',zB8 hc',rfl⟩
    .exact absurd ⟨p,z⟩ h
   rw[zAE]at this;lia
end
theorem Fr.sub{rs:gX}(F:Fr rs):∀{sub:gX},sub.Sublist rs->Fr sub:=by
 induction F with
 |nil=>
  intro sub h;rw[List.sublist_nil.mp h];exact .nil
 |@snoc ps a b h ne no ih=>
  intro sub hs;obtain⟨s1,s2,rfl,h1,h2⟩:=List.sublist_append_iff.mp hs;cases s2 with
  |nil=>rw[zAe];exact ih h1
  |cons c r=>
   have hl:=h2.length_le;have hm:=h2.subset zAH;rw[zA6,zBE]at hl;rw[zGX.mp (show r.length=0 by lia),zAI.mp hm];exact .snoc (ih h1) ne λ p hp=>no p (h1.subset hp)
def aE9{ks:List Int}(hr:ks.Pairwise (·< ·)){x y:Int}(hx:x∈ks)(hy:y∈ks)(h:x≠y):ixK ks x≠ixK ks y:=by
 rcases zH4 h with z|z
 .have:=lR hr hx hy z
  lia
 .have:=lR hr hy hx z
  lia
theorem Fr.map{l:gX}{ks:List Int}(hr:ks.Pairwise (·< ·))(F:Fr l):(∀p∈l,p.1∈ks/\p.2∈ks)->Fr (l.map λ p=>(ixK ks p.1,ixK ks p.2)):=by
 induction F with
 |nil=>exact λ _=>.nil
 |@snoc ps a b h ne no ih=>
  intro hm;have ih:=ih λ p hp=>hm p (zAQ _ hp)
  have hab:a∈ks/\b∈ks:=by
   have:=hm (mnI a b,mxI a b) (by simp)
   dsimp only at this;rcases qp a b with ⟨h1,h2⟩|⟨h1,h2⟩<;>rw[h1,h2]at this
   .exact this
   .exact⟨this.2,this.1⟩
  have e:(ixK ks (mnI a b),ixK ks (mxI a b))=(mnI (ixK ks a) (ixK ks b),mxI (ixK ks a) (ixK ks b)):=by
   unfold mnI mxI;rcases zH4 ne with z|z
   .have:=lR hr hab.1 hab.2 z
    rw[if_neg (by lia),if_pos (by lia),if_neg (by lia),if_pos (by lia)]
   .have:=lR hr hab.2 hab.1 z
    rw[if_pos (by lia),if_neg (by lia),if_pos (by lia),if_neg (by lia)]
  rw[zAZ,zAM,zCf,e];refine .snoc ih (aE9 hr hab.1 hab.2 ne) λ p hp=>?_
  obtain⟨q,hq,rfl⟩:=zAS.mp hp;obtain⟨h1,h2⟩:=hm q (zAQ _ hq);exact⟨aE9 hr h1 hab.2 (no q hq).1,aE9 hr h2 hab.2 (no q hq).2⟩
def uL{n:Int}{ps rs:gX}(h:Ow n ps)(hp:ps.Perm rs)(F:Fr rs):(az n (dbl ps)).length+ps.length=n.toNat:=by
 have e:=F.parts (n:=n) λ p hq=>by
  obtain⟨a,b,c,d,_⟩:=h.pr p (hp.mem_iff.mpr hq);exact⟨⟨a,b⟩,c,d⟩
 have hl:(az n (dbl ps)).length=((upI n).filter (bK (dbl rs))).length:=by
  unfold az;rw[zAE,yV λ p=>hp.mem_iff]
 rw[hl,hp.length_eq];exact e
def aAo{n:Int}{ps rs:gX}{es ws:List Int}(h:Ow n ps)(low:∀p∈ps,p.1<p.2)(hp:ps.Perm rs)(F:Fr rs)(nd:ws.Nodup)(hw:∀x∈ws,0<=x/\x<n):
  aAp n ps es ws=n-(ws.length:Int)-((ps.filter (pP ws)).length:Int)-((aBJ es ws).length:Int):=by
 obtain⟨O',low'⟩:=aFj (ws:=ws) h low;have hn0:=h.n0;have hk:ws.length+(bL n ws).length=n.toNat:=by
  have:=(aEH (jP n) nd λ x hx=>bI.mpr (hw x hx)).length_eq
  rw[zA0,cF]at this;exact this
 have e1:ps.filter (o7 (bL n ws))=ps.filter (pP ws):=zCm λ p hp=>by
  obtain⟨a,b,c,d,_⟩:=h.pr p hp;have k1:p.1∈bL n ws↔p.1∉ws:=by
   unfold bL;rw[zAa,bI];simp[a,b]
  have k2:p.2∈bL n ws↔p.2∉ws:=by
   unfold bL;rw[zAa,bI];simp[c,d]
  rw[zBI];unfold o7 pP;rw[zAN,decide_eq_true_eq,decide_eq_true_eq,k1,k2];simp
 have pm:(lN (bL n ws) ps).Perm (lN (bL n ws) rs):=(hp.filter _).map _;have FL:Fr (lN (bL n ws) rs):=(F.sub zHG).map aDF λ p hp=>(mj hp).2
 have hc:=uL O' pm FL;have hl:(lN (bL n ws) ps).length=(ps.filter (pP ws)).length:=by
  unfold lN;rw[zAE,e1]
 unfold aAp;rw[hl]at hc;lia
def Jo.count{n:Int}{ps T:gX}{es Fd:List Int}{W:Int->List Int}{rows:List Hr}(O:Ow n ps)(Hu:tB n ps rows)(low:∀p∈ps,p.1<p.2)(nd:ps.Nodup)(J:Jo n es rows.reverse W T Fd):T.length=(Fd.map (room es)).sum+(ps.filter (pP Fd)).length:=by
 have ndP:(rows.reverse.map (·.1)).Nodup:=by rw[zBa];exact(zFV _).nodup_iff.mpr Hu.nd
 have e1:T.length=((rows.reverse.map (·.1)).map λ p=>((W p).take (room es p)).length).sum:=by
  rw[J.t,zEp];exact congrArg zHO (zAw λ p _=>by rw[zAE])
 rw[aBy (q:=λ p=>decide (p∈Fd))]at e1;have pm:((rows.reverse.map (·.1)).filter λ p=>decide (p∈Fd)).Perm Fd:=(zBc (ndP.filter _) J.fnd).mpr λ p=>by
  rw[zAa,decide_eq_true_eq];exact⟨λ h=>h.2,λ h=>⟨J.fz p h,h⟩⟩
 have e2:(((rows.reverse.map (·.1)).filter λ p=>decide (p∈Fd)).map λ p=>((W p).take (room es p)).length).sum=(Fd.map (room es)).sum:=by
  rw[(pm.map _).sum_nat];refine congrArg zHO (zAw λ p hp=>?_)
  have:=(J.fi p (J.fz p hp)).mp hp
  rw[zBQ];lia
 have aE:∀t,t∈(((rows.reverse.map (·.1)).filter λ p=>!decide (p∈Fd)).flatMap λ p=>((W p).take (room es p)).map (eZ p))↔∃p,p∉Fd/\p∈rows.map (·.1)/\∃c∈(W p).take (room es p),t=eZ p c:=λ t=>by
  rw[zET];constructor
  .rintro⟨p,hp,ht⟩
   obtain⟨h1,h2⟩:=zAa.mp hp;obtain⟨c,hc,rfl⟩:=zAS.mp ht;rw[zBa,zBb]at h1;exact⟨p,by simpa using h2,h1,c,hc,rfl⟩
  .rintro⟨p,h1,h2,c,hc,rfl⟩
   exact⟨p,zAa.mpr ⟨by rw[zBa,zBb];exact h2,by simpa using h1⟩,zAS.mpr ⟨c,hc,rfl⟩⟩
 have nd2:(((rows.reverse.map (·.1)).filter λ p=>!decide (p∈Fd)).flatMap λ p=>((W p).take (room es p)).map (eZ p)).Nodup:=by
  have hT:=J.nodup Hu;rw[J.t]at hT;refine hT.sublist ?_;generalize rows.reverse.map (·.1)=l;induction l with
  |nil=>exact zGJ _
  |cons a l ih=>
   rw[zBP,zH6];split
   .rw[zH6]
    exact(zGJ _).append ih
   .exact ih.trans (List.sublist_append_right _ _)
 have h3:(ps.filter (pP Fd)).length=(((rows.reverse.map (·.1)).filter λ p=>!decide (p∈Fd)).flatMap λ p=>((W p).take (room es p)).map (eZ p)).length:=by
  refine zIX (eV (nd.filter _) λ t ht=>?_) (eV nd2 λ t ht=>?_)
  .obtain⟨hp,h5⟩:=zAa.mp ht
   have hl:=low t hp;obtain⟨x,y⟩:=t;simp only[pP,zCA,zEa,decide_eq_false_iff_not]at h5;dsimp only at hl;obtain⟨x0,x1,y0,y1,_⟩:=O.pr _ hp;have key:∀c p,(c,some p)∈rows->c∉Fd->p∉Fd->eZ p c=(x,y)->∃p,p∉Fd/\p∈rows.map (·.1)/\∃c∈(W p).take (room es p),(x,y)=eZ p c:=λ c p h1 h2 h3 e=>
    ⟨p,h3,Hu.up_in h1,c,by rw[zCD (zB1 (J.less Hu h3))];exact J.wr.mpr ⟨h1,h2⟩,e.symm⟩
   rw[aE];have hxm:x∈rows.map (·.1):=Hu.pm.mem_iff.mpr (bI.mpr ⟨x0,x1⟩);obtain⟨r,hr,rfl⟩:=zAS.mp hxm;rcases Hu.cl r hr y (b8.mpr (.inl hp))with z|z
   .exact key r.1 y (by rw[<-z];exact hr) h5.1 h5.2 (by rw[aLA,aFA hl])
   .exact key y r.1 z h5.2 h5.1 (aFA hl)
  .obtain⟨p,h1,h2,c,hc,rfl⟩:=(aE t).mp ht
   obtain⟨h4,h5⟩:=J.wr.mp (zB8 hc);refine zAa.mpr ⟨w6 low (gG ps _ _ (Hu.tie _ h4 p rfl)),?_⟩;unfold pP eZ;rcases qp p c with ⟨e1,e2⟩|⟨e1,e2⟩<;>simp[e1,e2,h1,h5]
 rw[zEp]at h3;simp only[zAE]at h3;rw[e2]at e1;lia
theorem aBx(es:List Int):∀l:List Int,(l.map (room es)).sum=l.length+(aBJ es l).length
 |[]=>rfl
 |x::l=>by
  have:=aBx es l
  unfold aBJ at this ⊢;rw[zAM,zDJ,zBP,zA6];unfold room at this ⊢;by_cases c:x∈es
  .rw[if_pos c,if_neg (by simpa using c)]
   lia
  .rw[if_neg c,if_pos (by simpa using c),zA6]
   lia
structure Pq(n:Int)(es:gX)(left:List Int)(rws:gV):Prop where
 nd:left.Nodup
 ne:∀r∈rws,r≠[]
 al:∀r∈rws,b7 es r=true
 pm:(rws.flatten++left).Perm (upI n)
section
variable{n:Int}{es:gX}{rws:gV}
def aI3{l:List Int}:aC3 n l=true↔sortI l=upI n:=by
 unfold aC3;rw[vA];show jU ((sortI l).map .int) ((upI n).map .int)=true↔_;rw[aA1,decide_eq_true_eq]
def aKV(rws:gV):(rws.map tupI).map rowOf=rws:=by
 rw[zAi]
 conv=>rhs;rw[<-zEs rws]
 exact zAw λ r _=>ints_of r
def Pq.flat(P:Pq n es [] rws):rws.flatten.Perm (upI n):=by
 have:=P.pm
 rwa [zAe]at this
def Pq.mem(P:Pq n es [] rws){r:List Int}(hr:r∈rws){x:Int}(hx:x∈r):0<=x/\x<n:=bI.mp (P.flat.mem_iff.mp (zF6.mpr ⟨r,hr,hx⟩))
def Pq.lenF(P:Pq n es [] rws):rws.flatten.length=n.toNat:=by rw[P.flat.length_eq,cF]
theorem aFT{r:List Int}:∀{rws:gV},r∈rws->r.length<=rws.flatten.length
 |a::l,h=>by
  rw[zBS,zA0];rcases zAL.mp h with rfl|h
  .lia
  .have:=aFT h
   lia
theorem aHs{r:List Int}:∀{rws:gV},rws.flatten.Nodup->r∈rws->r.Nodup
 |a::l,h,hr=>by
  rw[zBS,zAb]at h;rcases zAL.mp hr with rfl|hr
  .exact h.1
  .exact aHs h.2.1 hr
def aG9(P:Pq n es [] rws):aAN n es (.tup (rws.map tupI))=true:=by
 unfold aAN;dsimp only;rw[aKV,zAN,zAr];have hnd:rws.flatten.Nodup:=P.flat.nodup_iff.mpr (jP n);refine⟨λ d hd=>?_,aI3.mpr ?_⟩
 .obtain⟨r,hr,rfl⟩:=zAS.mp hd
  have h1:(r.map D.int).isEmpty=false:=by
   cases r with
   |nil=>exact absurd rfl (P.ne _ hr)
   |cons _ _=>rfl
  have h2:(r.map D.int).all (bJ n)=true:=by
   rw[zAr];intro d hd;obtain⟨x,hx,rfl⟩:=zAS.mp hd
   have:=P.mem hr hx
   simp[bJ,this]
  have h3:=aB9 r (aHs hnd hr)
  show(!(r.map D.int).isEmpty&&(r.map D.int).all (bJ n)&&decide ((ddI ((r.map D.int).map intOf)).length=(r.map D.int).length)&&b7 es ((r.map D.int).map intOf))=true
  rw[ints_of,h1,h2,h3,P.al r hr];simp
 .exact zDQ ((sortI_perm _).trans P.flat) (eG _) ((nT n).imp λ h=>Int.le_of_lt h)
def Pq.fi(P:Pq n es [] rws)(h:n<=60):Fi (.tup (rws.map tupI))/\Fi (.tup (rws.map tupI++[tupI [0]])):=by
 have hl:=aJQ P.ne;have hf:=P.lenF;have hs:(rws.map λ r=>aCm (tupI r)).sum=rws.flatten.length:=by
  rw[List.length_flatten];exact congrArg zHO (zAw λ r _=>by simp[tupI,aCm])
 have hrow:∀r∈rws,Fn4 (tupI r):=λ r hr=>El.fn (k:=0) El.ints (by decide) (by have:=aFT hr;rw[zAE];lia)
 have hp:∀d∈rws.map tupI,Fn4 d:=λ d hd=>by
  obtain⟨r,hr,rfl⟩:=zAS.mp hd;exact hrow r hr
 have h0:Fn4 (tupI [0]):=El.fn (k:=0) El.ints (by decide) (by decide);have hp2:∀d∈rws.map tupI++[tupI [0]],Fn4 d:=λ d hd=>by
  rcases zAU.mp hd with z|z
  .exact hp d z
  .rw[zAI.mp z];exact h0
 refine⟨⟨by unfold pln;exact tY λ d hd=>(hp d hd).p,λ l e=>by cases e;exact hp,λ l e=>by
  cases e;refine⟨?_,by rw[zAE];lia⟩;rw[zAi]
  show(rws.map λ r=>aCm (tupI r)).sum<64
  lia⟩,⟨by unfold pln;exact tY λ d hd=>(hp2 d hd).p,λ l e=>by cases e;exact hp2,λ l e=>by
  cases e;refine⟨?_,by simp;lia⟩;rw[zAZ,List.sum_append,zAi]
  show(rws.map λ r=>aCm (tupI r)).sum+1<64
  lia⟩⟩
end
def aEO(low:∀p∈qs,p.1<p.2)(x:Int):(nb qs x).length=dgr qs x:=by
 unfold nb;induction qs with
 |nil=>rfl
 |cons q l ih=>
  have ih:=ih λ p hp=>low p (zAF _ hp)
  have hq:=low q zAH;rw[aDT,zO];unfold jR at ih ⊢;rw[zAE]at ih ⊢;by_cases c1:q.1=x
  .have c2:¬q.2=x:=by lia
   simp only[zBP,c1,c2,beq_self_eq_true,if_true,zA6,ih,true_or,if_pos];rw[if_neg (by simpa using c2)];lia
  .by_cases c2:q.2=x
   .rw[zBP,if_neg (by simpa using c1),zBP,if_pos (by simpa using c2),zA6,ih,if_pos (.inr c2)]
   .rw[zBP,if_neg (by simpa using c1),zBP,if_neg (by simpa using c2),ih,if_neg (by rintro(z|z);exact c1 z;exact c2 z)]
    rfl
theorem jr:∀{A B:List Int} {x s:Int},b7 es (A++x::s::B)=true->(x,s)∈es
 |[],B,x,s,h=>by
  rw[zCC,b7,zAN,decide_eq_true_eq]at h;exact h.1
 |[a],B,x,s,h=>by
  rw[zB9,zCC,b7,zAN]at h;exact jr (A:=[]) h.2
 |a::b::A,B,x,s,h=>by
  rw[zB9,zB9,b7,zAN]at h;exact jr (A:=b::A) h.2
def Jw.closed{n:Int}{qs:gX}{P ws:List Int}{e:Int}(h:Pt n qs P e)(hnd:qs.Nodup)(low:∀p∈qs,p.1<p.2)(J:Jw qs P e ws)(hn:nxt qs ws=[]):∀x∈ws,∀y∈nb qs x,y∈ws:=by
 intro x hx y hy;obtain⟨A,B,eA⟩:=zCJ hx;cases B with
 |nil=>
  have hl:ws.getLastD 0=x:=by rw[eA,zCO,zD4];rfl
  refine zBK λ z=>?_
  have:y∈nxt qs ws:=by
   unfold nxt;rw[hl];exact zAa.mpr ⟨hy,by simpa using z⟩
  rw[hn]at this;cases this
 |cons s B=>
  have al:=J.al;rw[eA]at al;have hs:s∈nb qs x:=gW.mpr (jr al);have hsw:s∈ws:=by rw[eA];simp
  rcases fC A with rfl|⟨A',p,rfl⟩
  .obtain⟨r,er⟩:=J.hd
   rw[eA]at er;have ex:x=e:=(zFg er).1;subst ex;have h2:=h.e2;refine zBK λ z=>?_
   have hys:s≠y:=λ q=>z (q▸hsw)
   have:=eV (l:=[s,y]) (m:=nb qs x) (by simp[hys]) λ w hw=>by
    simp only[zAL,zAf,or_false]at hw;rcases hw with rfl|rfl
    .exact hs
    .exact hy
   simp at this;lia
  .have al2:b7 (dbl qs) (A'++p::x::(s::B))=true:=by
    have:A'++[p]++x::s::B=A'++p::x::s::B:=by simp
    rw[<-this];exact al
   have hp:p∈nb qs x:=uC (gW.mpr (jr al2));have hpw:p∈ws:=by rw[eA];simp
   have hps:p≠s:=λ q=>by
    have nd:=J.nd;rw[eA,zAb]at nd;exact nd.2.2 p (by simp) s (by simp) q
   have h2:=h.two x (J.sub x hx);refine zBK λ z=>?_
   have hyp:p≠y:=λ q=>z (q▸hpw)
   have hys:s≠y:=λ q=>z (q▸hsw)
   have:=eV (l:=[p,s,y]) (m:=nb qs x) (by simp[hps,hyp,hys]) λ w hw=>by
    simp only[zAL,zAf,or_false]at hw;rcases hw with rfl|rfl|rfl
    .exact hp
    .exact hs
    .exact hy
   simp at this;lia
def Jw.tip{n:Int}{qs:gX}{P ws:List Int}{e x:Int}(hx:x∈ws)(J:Jw qs P e ws)(hd:(nb qs x).length<=1):x=hdI ws\/x=laI ws:=by
 obtain⟨A,B,eA⟩:=zCJ hx;cases A with
 |nil=>left;rw[eA];rfl
 |cons a A=>
  cases B with
  |nil=>
   right;rw[eA];unfold laI;rw[zCO,zD4];rfl
  |cons s B=>
   exfalso;have al:=J.al;rw[eA]at al;have hs:s∈nb qs x:=gW.mpr (jr al);rcases fC (a::A)with z|⟨A',p,z⟩
   .cases z
   .rw[z]at al eA
    have al2:b7 (dbl qs) (A'++p::x::(s::B))=true:=by
     have:A'++[p]++x::s::B=A'++p::x::s::B:=by simp
     rw[<-this];exact al
    have hp:p∈nb qs x:=uC (gW.mpr (jr al2));have hps:p≠s:=λ q=>by
     have nd:=J.nd;rw[eA,zAb]at nd;exact nd.2.2 p (by simp) s (by simp) q
    have:=eV (l:=[p,s]) (m:=nb qs x) (by simp[hps]) λ w hw=>by
     simp only[zAL,zAf,or_false]at hw;rcases hw with rfl|rfl
     .exact hp
     .exact hs
    simp at this;lia
def aJx{n:Int}{qs:gX}{P:List Int}(O:Ow n qs)(low:∀p∈qs,p.1<p.2)(h:P∈az n (dbl qs))(hb:oG qs P=false):∃e,Jw qs P e (gK qs P)/\∀x,x∈gK qs P↔x∈P:=by
 obtain⟨e,r,he,hp,_⟩:=aB7 O h hb;have hw:gK qs P=goW qs (P.length-1) [e]:=by unfold gK;rw[he];rfl
 have J:Jw qs P e (gK qs P):=by rw[hw];exact Jw.goW hp _ (Jw.one hp)
 have hn:nxt qs (gK qs P)=[]:=by
  rw[hw];exact aB4 hp _ (Jw.one hp) (by simp;lia)
 have cl:=J.closed hp (m9 O) low hn;refine⟨e,J,λ x=>⟨J.sub x,λ hx=>?_⟩⟩;have hew:e∈gK qs P:=by obtain⟨r,er⟩:=J.hd;rw[er];exact zAH
 obtain⟨a,_,rfl⟩:=gQ h;have h1:=(dN.mp hp.e1).2;have h2:=(dN.mp hx).2;have hc:Cn (dbl qs) e x:=(h1.symm (gG qs)).trans h2;have go:∀y,Cn (dbl qs) e y->y∈gK qs (bM n (dbl qs) a):=λ y hy=>by
  induction hy with
  |refl=>exact hew
  |step _ e1 ih=>exact cl _ ih _ (gW.mpr e1)
 exact go x hc
theorem aAh{a:Int}:∀{P:List Int},P.Nodup->(P.map λ x=>if a=x then 1 else 0).sum<=1
 |[],_=>zAj _
 |x::P,h=>by
  obtain⟨h1,h2⟩:=zAp.mp h;rw[zAM,zDJ];by_cases c:a=x
  .subst c
   have:(P.map λ x=>if a=x then 1 else 0).sum=0:=by
    rw[show(P.map λ x=>if a=x then 1 else 0)=P.map λ _=>0 from zAw λ y hy=>if_neg λ e:a=y=>h1 (e▸hy)];clear h h1 h2;induction P with
    |nil=>rfl
    |cons _ _ ih=>simpa using ih
   rw[if_pos rfl,this];exact zAT _
  .rw[if_neg c]
   have:=aAh (a:=a) h2
   lia
theorem sum_in{P:List Int}(nd:P.Nodup):∀{F:gX},(∀t∈F,t.1∈P↔t.2∈P)->(P.map (dgr F)).sum<=2*inN P F
 |[],_=>by
  have:(P.map (dgr [])).sum=0:=by
   rw[show P.map (dgr [])=P.map λ _=>0 from rfl];clear nd;induction P with
   |nil=>rfl
   |cons _ _ ih=>simpa using ih
  lia
 |t::F,h=>by
  have ih:=sum_in nd λ s hs=>h s (zAF _ hs)
  have ht:=h t zAH;have e:(P.map (dgr (t::F))).sum=(P.map (dgr F)).sum+(P.map λ x=>if t.1=x\/t.2=x then 1 else 0).sum:=by
   rw[<-aAi];exact congrArg zHO (zAw λ x _=>aDT t F x)
  have hi:inN P (t::F)=inN P F+if t.1∈P/\t.2∈P then 1 else 0:=by
   unfold inN;rw[zBP];by_cases c:t.1∈P/\t.2∈P
   .rw[if_pos (by simpa using c),if_pos c,zA6]
   .rw[if_neg (by simpa using c),if_neg c]
    rfl
  rw[e,hi];by_cases c:t.1∈P
  .rw[if_pos ⟨c,ht.mp c⟩]
   have s1:=aAh (a:=t.1) nd;have s2:=aAh (a:=t.2) nd;have s3:=xP (l:=P) (f:=λ x=>if t.1=x\/t.2=x then 1 else 0) (g:=λ x=>(if t.1=x then 1 else 0)+(if t.2=x then 1 else 0)) λ x _=>by
    by_cases a1:t.1=x<;>by_cases a2:t.2=x<;>simp[a1,a2]
   rw[aAi]at s3;lia
  .have c2:t.2∉P:=λ z=>c (ht.mpr z)
   have:(P.map λ x=>if t.1=x\/t.2=x then 1 else 0).sum=0:=by
    rw[show(P.map λ x=>if t.1=x\/t.2=x then 1 else 0)=P.map λ _=>0 from zAw λ y hy=>if_neg (by rintro(z|z);exact c (z▸hy);exact c2 (z▸hy))];clear nd ih e hi ht c c2 h;induction P with
    |nil=>rfl
    |cons _ _ ih=>simpa using ih
   rw[this];lia
def aKw{n:Int}{qs:gX}{P:List Int}(O:Ow n qs)(low:∀p∈qs,p.1<p.2)(A:Ac qs)(hd:∀x,dgr qs x<=2)(h:P∈az n (dbl qs)):oG qs P=false:=by
 unfold oG;rw[zEa];constructor
 .rw[zEE]
  intro x hx
  have:=hd x
  rw[<-aEO low]at this;unfold dg;simp;lia
 .cases c:(gF qs P).isEmpty with
  |false=>rfl
  |true=>
   exfalso;have nd:P.Nodup:=by
    rw[zAc];exact(aC1 h).imp λ{a b} z=>by lia
   have hne:P≠[]:=by
    obtain⟨a,ha,rfl⟩:=gQ h;exact zFJ (dN.mpr ⟨ha,.refl⟩)
   have h1:=A P nd hne;have cl:=aF2 O h;have h2:=sum_in nd (F:=qs) λ t ht=>⟨λ z=>cl t.1 z t.2 (gW.mpr (b8.mpr (.inl ht))),λ z=>cl t.2 z t.1 (gW.mpr (b8.mpr (.inr ht)))⟩
   have h3:=xP (l:=P) (f:=λ _=>2) (g:=dgr qs) λ x hx=>by
    rw[zHu]at c;unfold gF at c
    have:=zG3.mp c x hx
    unfold dg at this;rw[aEO low]at this;simp at this;lia
   have h4:(P.map λ _=>2).sum=2*P.length:=by
    clear h h1 h2 h3 cl c nd hne;induction P with
    |nil=>rfl
    |cons _ _ ih=>rw[zAM,zDJ,ih,zA6];lia
   lia
def aEh{n:Int}{ps:gX}(O:Ow n ps)(A:Ac ps):(ps.length:Int)<=n:=by
 have hn0:=O.n0;cases hp:ps with
 |nil=>simpa using hn0
 |cons p l=>
  have hm:p∈ps:=by rw[hp];exact zAH
  obtain⟨a,b,_⟩:=O.pr p hm;have h:=A (upI n) (jP n) (zFJ (bI.mpr ⟨a,b⟩));have e:inN (upI n) ps=ps.length:=by
   unfold inN;rw[zDh.mpr λ q hq=>by
    obtain⟨a,b,c,d,_⟩:=O.pr q hq;rw[zAN,decide_eq_true_eq,decide_eq_true_eq,bI,bI];exact⟨⟨a,b⟩,c,d⟩]
  rw[e,cF]at h;rw[<-hp];lia
def aJX{F G:gX}(h:F.Perm G)(x:Int):dgr F x=dgr G x:=(h.filter _).length_eq
def aEJ{n:Int}{qs:gX}{f:List Int->List Int}(O:Ow n qs)(hf:∀P∈az n (dbl qs),(f P).Nodup/\∀x,x∈f P↔x∈P):((az n (dbl qs)).map f).flatten.Perm (upI n):=by
 have hin:∀p∈qs,(0<=p.1/\p.1<n)/\(0<=p.2/\p.2<n):=λ p hp=>by
  obtain⟨a,b,c,d,_⟩:=O.pr p hp;exact⟨⟨a,b⟩,c,d⟩
 have S:=gG qs;refine(zBc ?_ (jP n)).mpr λ x=>?_
 .rw[zAc,List.pairwise_flatten]
  refine⟨λ r hr=>?_,?_⟩
  .obtain⟨P,hP,rfl⟩:=zAS.mp hr
   exact(hf P hP).1.imp λ h=>h
  .unfold az
   rw[zAi,zB0];refine zFF (R:=λ a b=>a<b) (λ{a b} ha hb hab=>?_) ((nT n).filter _);intro x hx y hy e;subst e;obtain⟨ha1,ha2⟩:=zAa.mp ha;obtain⟨hb1,hb2⟩:=zAa.mp hb;have h1:=(dN.mp (((hf _ (zAS.mpr ⟨a,ha,rfl⟩)).2 x).mp hx)).2;have h2:=(dN.mp (((hf _ (zAS.mpr ⟨b,hb,rfl⟩)).2 x).mp hy)).2
   have:=cB.mp hb2 a (bI.mp ha1).1 (h2.trans (h1.symm S))
   lia
 .rw[zF6]
  constructor
  .rintro⟨r,hr,hx⟩
   obtain⟨P,hP,rfl⟩:=zAS.mp hr;obtain⟨a,_,rfl⟩:=gQ hP;exact bI.mpr (dN.mp (((hf _ hP).2 x).mp hx)).1
  .intro hx
   obtain⟨m,hm,hc,hl⟩:=aCs hin (bI.mp hx);have hP:bM n (dbl qs) m∈az n (dbl qs):=zAS.mpr ⟨m,zAa.mpr ⟨bI.mpr hm,hl⟩,rfl⟩;exact⟨_,zAS.mpr ⟨_,hP,rfl⟩,((hf _ hP).2 x).mpr (dN.mpr ⟨bI.mp hx,hc.symm S⟩)⟩
def aEi{n:Int}{ps rs:gX}{es:List Int}(O:Ow n ps)(low:∀p∈ps,p.1<p.2)(hp:ps.Perm rs)(F:Fr rs)(er:es.Pairwise (·< ·))(ei:∀x∈es,0<=x/\x<n):
  ∃(rws:gV) (ws:List Int),cR [owD n ps,tupI es]= .ok (.tup (rws.map tupI))/\fY [owD n ps,tupI es]= .ok (tupI ws)/\gJ [owD n ps,tupI es]= .ok (.int (rws.length:Int))/\
   dY [owD n ps,.tup (rws.map tupI)]= .ok (.bl true)/\jJ [tupI es,.tup (rws.map tupI)]= .ok (.bl true)/\cj [owD n ps,tupI ws]= .ok (.bl true)/\gq [owD n ps,tupI ws,tupI es]= .ok (.int (rws.length:Int)):=by
 have A:Ac ps:=F.ac.perm hp;have hpl:=aEh O A;have hn0:=O.n0;have hn1:=O.n1;have he:es.length<=60:=by
  have:=eV (l:=es) (m:=upI n) (by rw[zAc];exact er.imp λ{a b} z=>by lia) λ x hx=>bI.mpr (ei x hx)
  rw[cF]at this;lia
 obtain⟨rows,W,T,Fd,Hu,J,hj⟩:=aGo O low A es;have hT:=J.nodup Hu;have aS:=J.sub Hu low;have hTl:T.length<=ps.length:=eV hT aS;obtain⟨qs,ej,hq,hqr⟩:=hj hT (by lia);have hqs:∀q∈qs,q∈ps:=λ q h=>aS q (hq.mem_iff.mp h)
 have hql:qs.length=T.length:=hq.length_eq;have Q:Ow n qs:=⟨hn0,hn1,by lia,λ q h=>O.pr q (hqs q h),hqr⟩;have bP:∀q∈qs,q.1<q.2:=λ q h=>low q (hqs q h)
 have hqn:=m9 Q;have hrn:rs.Nodup:=hp.nodup_iff.mp (m9 O);have pm:qs.Perm (rs.filter λ q=>decide (q∈qs)):=(zBc hqn (hrn.filter _)).mpr λ q=>by
  rw[zAa,decide_eq_true_eq];exact⟨λ h=>⟨hp.mem_iff.mp (hqs q h),h⟩,λ h=>h.2⟩
 have FQ:Fr (rs.filter λ q=>decide (q∈qs)):=F.sub zHG;have AQ:Ac qs:=FQ.ac.perm pm;have dg:∀x,dgr qs x<=room es x:=λ x=>by rw[aJX hq x];exact J.deg Hu x
 have nb0:∀P∈az n (dbl qs),oG qs P=false:=λ P h=>aKw Q bP AQ (λ x=>by
  have:=dg x
  unfold room at this;split at this<;>lia) h
 have hct:dw [owD n ps,.tup (qs.map pD)]= .ok .non:=by
  rw[zy (d:=.tup (qs.map pD)) O (by unfold pln;exact tY λ d hd=>by obtain⟨q,_,rfl⟩:=zAS.mp hd;rfl) (by simp[xX];lia),aJ8 O low hqs,hqr,if_pos rfl]
 have ea:=aJg O low hct Q bP;rw[if_neg (by rw[Bool.not_eq_true,zEE];exact λ P h=>by rw[nb0 P h];decide)]at ea;have hw:∀P∈az n (dbl qs),∃e,Jw qs P e (gK qs P)/\∀x,x∈gK qs P↔x∈P:=λ P h=>aJx Q bP h (nb0 P h)
 have hsp:=nW ((az n (dbl qs)).map (gK qs));generalize hR:o9 ((az n (dbl qs)).map (gK qs))=rws at ea hsp;have aE:∀r∈rws,∃P e,P∈az n (dbl qs)/\r=gK qs P/\Jw qs P e r/\∀x,x∈r↔x∈P:=λ r hr=>by
  obtain⟨P,hP,rfl⟩:=zAS.mp (hsp.mem_iff.mp hr);obtain⟨e,a,b⟩:=hw P hP;exact⟨P,e,hP,rfl,a,b⟩
 have kQ:rws.length+T.length=n.toNat:=by
  rw[hsp.length_eq,zAE,<-hql];exact uL Q pm FQ
 have hfl:rws.flatten.Perm (upI n):=hsp.flatten.trans (aEJ Q λ P h=>by
  obtain⟨e,a,b⟩:=hw P h;exact⟨a.nd,b⟩)
 have PQ:Pq n (dbl ps) [] rws:=⟨.nil,λ r hr=>by
  obtain⟨P,e,_,_,a,_⟩:=aE r hr;exact a.ne,λ r hr=>by
  obtain⟨P,e,_,_,a,_⟩:=aE r hr;exact jt.mpr λ i x y h1 h2=>by
   have:=jt.mp a.al i x y h1 h2
   rw[b8]at this ⊢;exact this.imp (hqs _) (hqs _),by rw[zAe];exact hfl⟩
 have hki:jJ [tupI es,.tup (rws.map tupI)]= .ok (.bl true):=by
  rw[aCz PQ.ne (by lia),zAr.mpr];intro x hx;rw[decide_eq_true_eq,aFd];obtain⟨r,hr,hxr⟩:=zF6.mp (hfl.mem_iff.mpr (bI.mpr (ei x hx)));obtain⟨P,e,_,_,a,_⟩:=aE r hr;refine⟨r,hr,Jw.tip (n:=n) hxr a ?_⟩
  have:=dg x
  unfold room at this;rw[if_pos hx]at this;rw[aEO bP];exact this
 have hfi:∀x∈Fd,0<=x/\x<n:=λ x hx=>by
  have:=J.fz x hx
  rw[zBa,zBb]at this;exact bI.mp (Hu.pm.mem_iff.mp this)
 have hsI:=sortI_perm Fd;have hsr:(sortI Fd).Pairwise (·< ·):=by
  have h1:=eG Fd;have h2:(sortI Fd).Pairwise (·≠·):=zAc.mp (hsI.nodup_iff.mpr J.fnd);exact(h1.and h2).imp λ{a b} z=>by lia
 have hsi:∀x∈sortI Fd,0<=x/\x<n:=λ x hx=>hfi x (hsI.mem_iff.mp hx)
 have hFl:Fd.length<=n.toNat:=by
  have:=eV (m:=upI n) J.fnd λ x hx=>bI.mpr (hfi x hx)
  rwa [cF]at this
 have hpi:cj [owD n ps,tupI (sortI Fd)]= .ok (.bl true):=by
  rw[vN (aG4 _) (by simp[aHf,tupI,hsI.length_eq];lia),aIN hsr hsi]
 have hsh:gq [owD n ps,tupI (sortI Fd),tupI es]= .ok (.int (rws.length:Int)):=by
  rw[aBU O low (by rw[hsI.length_eq];lia),aAo O low hp F (hsI.nodup_iff.mpr J.fnd) hsi];have c1:=J.count O Hu low (m9 O);rw[aBx]at c1;have c2:(ps.filter (pP (sortI Fd)))=ps.filter (pP Fd):=zCm λ t _=>by
   unfold pP;simp only[hsI.mem_iff]
  have c3:(aBJ es (sortI Fd)).length=(aBJ es Fd).length:=(hsI.filter _).length_eq;rw[c2,c3,hsI.length_eq];congr 2;lia
 have hx:ixD (owD n ps) (.int 0)= .ok (.int n):=by simp[owD]
 have f1:=yZ O low hp F;have f2:iR [owD n ps]= .ok .non:=by
  have st:aj 1 [owD n ps]=[.sh (owD n ps)]:=rfl;simp only[iR,dU,bA,st];simp[f1]
 have f3:=wZ (m:=n) (d:=tupI es) (yF es) (by simp[tupI,xX];lia);rw[aIN er ei,if_pos rfl]at f3;have f4:dZ [owD n ps,tupI es]= .ok (.tup [.tup (qs.map pD),tupI (sortI Fd)]):=by
  have st:aj 2 [owD n ps,tupI es]=[.sh (owD n ps),.sh (tupI es)]:=rfl;simp only[dZ,dO,bA,st];simp[f2,hx,f3,ej]
 have st:aj 4 [owD n ps,tupI es]=[.sh (owD n ps),.sh (tupI es),.no,.no]:=rfl;have ln:eX [.tup (qs.map pD)]= .ok (.int (T.length:Int)):=by simp[hql]
 have gi:uK (tupI (sortI Fd))= .ok (tupI (sortI Fd)):=(El.tup (k:=0) El.ints).g;refine⟨rws,sortI Fd,?_,?_,?_,?_,hki,hpi,hsh⟩
 .simp only[cR,cQ,bA,st]
  simp[f4,ea]
 .simp only[fY,fU,bA,st]
  simp[f4,gi]
 .simp only[gJ,cg,bA,st]
  simp[f4,hx,ln,-aCn];lia
 .rw[uF O low (PQ.fi hn1).1,aG9 PQ]
abbrev lV(ns:List Int)(k c n:Int)(ps:gX)(s4 s5 s6:Slot):En:=[.sh (.scr ns),.sh (.int k),.sh (.int c),.sh (owD n ps),s4,s5,s6]
def aOo{ns:List Int}{k c n:Int}{ps rs:gX}{s5 s6:Slot}{es:List Int}(O:Ow n ps)(low:∀p∈ps,p.1<p.2)(hp:ps.Perm rs)(F:Fr rs)(er:es.Pairwise (·< ·))(ei:∀x∈es,0<=x/\x<n):∃t5 t6,l4 (lV ns k c n ps (.sh (tupI es)) s5 s6)= .nx (lV ns k c n ps (.sh (tupI es)) t5 t6):=by
 obtain⟨rws,ws,e1,e2,e3,e4,e5,e6,e7⟩:=aEi O low hp F er ei;have ln:eX [.tup (rws.map tupI)]= .ok (.int (rws.length:Int)):=by simp
 refine⟨.sh (.tup (rws.map tupI)),.sh (tupI ws),?_⟩;have c0:lB0 (lV ns k c n ps (.sh (tupI es)) s5 s6)= .nx (lV ns k c n ps (.sh (tupI es)) (.sh (.tup (rws.map tupI))) s6):=by simp[lB0,e1]
 have c1:lB1 (lV ns k c n ps (.sh (tupI es)) (.sh (.tup (rws.map tupI))) s6)= .nx (lV ns k c n ps (.sh (tupI es)) (.sh (.tup (rws.map tupI))) (.sh (tupI ws))):=by simp[lB1,e2]
 have c2:lB2 (lV ns k c n ps (.sh (tupI es)) (.sh (.tup (rws.map tupI))) (.sh (tupI ws)))= .nx (lV ns k c n ps (.sh (tupI es)) (.sh (.tup (rws.map tupI))) (.sh (tupI ws))):=by simp[lB2,e4,e5,e6]
 have c3:lB3 (lV ns k c n ps (.sh (tupI es)) (.sh (.tup (rws.map tupI))) (.sh (tupI ws)))= .nx (lV ns k c n ps (.sh (tupI es)) (.sh (.tup (rws.map tupI))) (.sh (tupI ws))):=by simp[lB3,e7,e3,ln,-aCn]
 rw[l4,aK,c0,aU,aK,c1,aU,aK,c2,aU,c3]
def aN9{ns:List Int}{k:Int}{s2 s3 s4 s5 s6:Slot}(hk:0<=k):∃t2 t3 t4 t5 t6,lwK [.sh (.scr ns),.sh (.int k),s2,s3,s4,s5,s6]= .nx [.sh (.scr ns),.sh (.int k),t2,t3,t4,t5,t6]:=by
 obtain⟨c,ec⟩:=aLf (ns:=ns) hk;obtain⟨j,ej,j0,j1⟩:=aGH (c:=c) (k:=2) (b:=3) (by decide) (by decide) (by decide) (by decide);obtain⟨m,hm,em⟩:∃m:Nat,m<=60/\ixD (.lst [.int 12,.int 30,.int 60]) (.int j)= .ok (.int (m:Int)):=by
  have:j=0\/j=1\/j=2:=by lia
  rcases this with rfl|rfl|rfl
  .exact⟨12,by decide,rfl⟩
  .exact⟨30,by decide,rfl⟩
  .exact⟨60,by decide,rfl⟩
 obtain⟨n,ps,ew,O,low,hn,rs,hp,F⟩:=zu (c:=c) (most:=m) hm;obtain⟨u,eu,u1,u2,_⟩:=aCx (c:=c) (n:=n) (a:=5000) O.n0 O.n1 (by decide) (by decide);have hx:ixD (owD n ps) (.int 0)= .ok (.int n):=by simp[owD]
 have hn0:=O.n0;have hn1:=O.n1;have c2:eF 2 (aP eU (aC (aD 0) (aC (aD 1) aJ))) [.sh (.scr ns),.sh (.int k),s2,s3,s4,s5,s6]= .nx [.sh (.scr ns),.sh (.int k),.sh (.int c),s3,s4,s5,s6]:=by simp[ec]
 have c3:eF 3 (aP iM (aC (aD 2) (aC (op2 ixD (fj (aC (cD (.int 12)) (aC (cD (.int 30)) (aC (cD (.int 60)) aJ)))) (aP aQ (aC (aD 2) (aC (cD (.int 2)) (aC (cD (.int 3)) aJ))))) aJ))) [.sh (.scr ns),.sh (.int k),.sh (.int c),s3,s4,s5,s6]= .nx (lV ns k c n ps s4 s5 s6):=by
  have v:op2 ixD (fj (aC (cD (.int 12)) (aC (cD (.int 30)) (aC (cD (.int 60)) aJ)))) (aP aQ (aC (aD 2) (aC (cD (.int 2)) (aC (cD (.int 3)) aJ)))) [.sh (.scr ns),.sh (.int k),.sh (.int c),s3,s4,s5,s6]= .ok (.int (m:Int)):=by
   have a:fj (aC (cD (.int 12)) (aC (cD (.int 30)) (aC (cD (.int 60)) aJ))) [.sh (.scr ns),.sh (.int k),.sh (.int c),s3,s4,s5,s6]= .ok (.lst [.int 12,.int 30,.int 60]):=rfl;have b:aP aQ (aC (aD 2) (aC (cD (.int 2)) (aC (cD (.int 3)) aJ))) [.sh (.scr ns),.sh (.int k),.sh (.int c),s3,s4,s5,s6]= .ok (.int j):=by simp[ej]
   rw[iH,a,b,aZ,aZ,em,dM]
  rw[aAq,nJ,bQ,bQ,v];simp[ew]
 have hi:lIt (lV ns k c n ps s4 s5 s6)= .ok [tupI [],tupI u,tupI (upI n)]:=by
  have t1:trD (op2 ixD (aD 3) (cD (.int 0))) (lV ns k c n ps s4 s5 s6)= .ok (tupI (upI n)):=by
   have v:op2 ixD (aD 3) (cD (.int 0)) (lV ns k c n ps s4 s5 s6)= .ok (.int n):=by simp[hx]
   unfold trD;rw[v,aZ];unfold trR;dsimp only;rw[if_pos (by lia),vA,tupI]
  simp[lIt,hx,eu,t1]
  try rfl
 obtain⟨ρ',e,t4,t5,t6,rfl⟩:=aB6 (a:=gnm 4) (u:=l4) (I:=λ ρ=>∃t4 t5 t6,ρ=lV ns k c n ps t4 t5 t6) [tupI [],tupI u,tupI (upI n)] (lV ns k c n ps s4 s5 s6) ⟨_,_,_,rfl⟩ (by
  rintro d hd ρ ⟨t4,t5,t6,rfl⟩;obtain⟨es,rfl,h1,h2⟩:∃es,d=tupI es/\es.Pairwise (·< ·)/\∀x∈es,0<=x/\x<n:=by
   simp only[zAL,zAf,or_false]at hd;rcases hd with rfl|rfl|rfl
   .exact⟨[],rfl,.nil,λ x hx=>(nomatch hx)⟩
   .exact⟨u,rfl,u1,u2⟩
   .exact⟨upI n,rfl,nT n,λ x hx=>bI.mp hx⟩
  obtain⟨u5,u6,e⟩:=aOo (ns:=ns) (k:=k) (c:=c) (s5:=t5) (s6:=t6) O low hp F h1 h2;exact⟨_,e,_,_,_,rfl⟩)
 refine⟨.sh (.int c),.sh (owD n ps),t4,t5,t6,?_⟩;rw[lwK,aK,c2,aU,aK,c3,aU,cM,hi,bF,e]
def aIi(ns:List Int)(hl:ns.length<=63):aJm [.scr ns]= .ok (.bl true):=by
 have st:aj 7 [.scr ns]=[.sh (.scr ns),.no,.no,.no,.no,.no,.no]:=rfl;let m:Int:=if (if (6:Int)<ns.length then(6:Int)else ns.length)>1 then(if (6:Int)<ns.length then(6:Int)else ns.length)else 1
 have hm:1<=m/\m<=6:=by
  show 1<=(if (if (6:Int)<ns.length then(6:Int)else ns.length)>1 then(if (6:Int)<ns.length then(6:Int)else ns.length)else 1)/\(if (if (6:Int)<ns.length then(6:Int)else ns.length)>1 then(if (6:Int)<ns.length then(6:Int)else ns.length)else 1)<=6;split<;>split<;>lia
 have hr:=jh (j:=m) (by lia) (by lia);have hR:lwR [.sh (.scr ns),.no,.no,.no,.no,.no,.no]= .ok (bN 0 m):=by
  rw[<-hr];unfold lwR;simp[m]
 obtain⟨ρ',el,t1,t2,t3,t4,t5,t6,rfl⟩:=aB6 (a:=gnm 1) (u:=lwK) (I:=λ ρ=>∃t1 t2 t3 t4 t5 t6,ρ=[.sh (.scr ns),t1,t2,t3,t4,t5,t6]) (bN 0 m) [.sh (.scr ns),.no,.no,.no,.no,.no,.no] ⟨.no,.no,.no,.no,.no,.no,rfl⟩ (by
  rintro d hd ρ ⟨t1,t2,t3,t4,t5,t6,rfl⟩;obtain⟨k,rfl,k0,k1⟩:=aCg.mp hd;obtain⟨u2,u3,u4,u5,u6,e⟩:=aN9 (ns:=ns) (k:=k) (s2:=t2) (s3:=t3) (s4:=t4) (s5:=t5) (s6:=t6) k0;exact⟨_,e,_,_,_,_,_,_,rfl⟩)
 have z1:cR [.tup [.int 0,.tup []],.tup []]= .ok (.tup []):=by kernel_rfl
 have z2:fY [.tup [.int 1,.tup []],.tup []]= .ok (.tup []):=by kernel_rfl
 simp only[aJm,zP,bA,st];rw[aK,cM,hR,bF,el,aU];unfold lwZ;have z3:eqR false (.tup []) (.tup [])= .ok (.bl true):=rfl;simp[z1,z2,z3,aOH]
local macro_rules|`(tactic|walk_at "sc")=>`(tactic|exact⟨rfl,rfl,rfl,by decide+kernel,rfl,by decide+kernel,by decide+kernel⟩)
def top(i:Nat):Stmt:=PySem.Challenge.pw_fewways_k33_partings_and_bars_of_forests.main.body.getD i (.Pass ⟨0,0,0,0⟩)
abbrev rY:Stmt:=top 8
abbrev uz:Stmt:=top 9
abbrev rZ:Stmt:=top 10
abbrev uy:Stmt:=top 11
abbrev pI:Stmt:=top 12
abbrev gP:Stmt:=top 13
abbrev rn:Stmt:=top 14
abbrev n8:Stmt:=top 15
abbrev xr:Stmt:=top 16
abbrev pK:Stmt:=top 17
abbrev kJ:Stmt:=top 18
abbrev xq:Stmt:=top 19
abbrev rz:Stmt:=top 20
abbrev pC:Stmt:=top 21
abbrev mD:Stmt:=top 22
abbrev aBB:Stmt:=top 23
abbrev n6:Stmt:=top 25
abbrev rO:Stmt:=top 26
abbrev j6:Stmt:=top 27
abbrev pJ:Stmt:=top 29
abbrev kO:Stmt:=top 30
abbrev aDu:Stmt:=top 31
abbrev pH:Stmt:=top 32
abbrev kI:Stmt:=top 33
abbrev jb:Stmt:=top 34
abbrev ie:Stmt:=top 35
abbrev nZ:Stmt:=top 36
abbrev mF:Stmt:=top 38
abbrev rW:Stmt:=top 39
abbrev pG:Stmt:=top 40
abbrev rQ:Stmt:=top 41
abbrev rP:Stmt:=top 42
abbrev pF:Stmt:=top 43
abbrev rT:Stmt:=top 44
abbrev iZ:Stmt:=top 45
abbrev rR:Stmt:=top 46
abbrev j9:Stmt:=top 47
abbrev nY:Stmt:=top 48
abbrev aHm:Stmt:=top 49
def aCO:aV ["thing"] ["thing"] (aN rY):=by walk_at "sc"
def aDt:aV ["thing"] ["thing"] (aN uz):=by walk_at "sc"
def aCP:aV ["many","thing"] ["many","thing"] (aN rZ):=by walk_at "sc"
def aDs:aV ["many","thing"] ["many","thing"] (aN uy):=by walk_at "sc"
def aAy:aV ["things","at"] ["things"] (aN pI):=by walk_at "sc"
def qb:aV ["many","thing","pair"] ["many","thing"] (aN gP):=by walk_at "sc"
def aCQ:aV ["many","thing"] ["many","thing"] (aN rn):=by walk_at "sc"
def zf:aV ["many","thing","place"] ["many","thing"] (aN n8):=by walk_at "sc"
def aGY:aV ["thing"] ["thing"] (aN xr):=by walk_at "sc"
def aBA:aV ["thing"] ["thing"] (aN pK):=by walk_at "sc"
def wN:aV ["many","thing"] ["many","thing"] (aN kJ):=by walk_at "sc"
def aGX:aV ["one","other"] ["one","other"] (aN xq):=by walk_at "sc"
def aCR:aV ["web","many","ties","near","low","high"] ["web"] (aN rz):=by walk_at "sc"
def aAu:aV ["near","start","part","at","place","other"] ["near","start"] (aN pC):=by walk_at "sc"
def xm:aV ["near","places","found","seen","place","part","other"] ["near","places"] (aN mD):=by walk_at "sc"
def aHl:aV ["web"] ["web"] (aN aBB):=by walk_at "sc"
def zc:aV ["web","thing","known","tie"] ["web","thing"] (aN n6):=by walk_at "sc"
def aCI:aV ["near","end","way","ahead"] ["near","end"] (aN rO):=by walk_at "sc"
def uv:aV ["web","ties","bare","near","ways","part","ends"] ["web","ties"] (aN j6):=by walk_at "sc"
def aAz:aV ["web"] ["web"] (aN pJ):=by walk_at "sc"
def wO:aV ["web"] ["web"] (aN kO):=by walk_at "sc"
def aKT:aV ["web","near","seen","rows","at","top","place","upper","other"] ["web"] (aN aDu):=by walk_at "sc"
def aAx:aV ["web","ends","waiting","ties","filled","place","upper","room"] ["web","ends"] (aN pH):=by walk_at "sc"
def wM:aV ["web","ends"] ["web","ends"] (aN kI):=by walk_at "sc"
def ux:aV ["web","ends","ties","bar"] ["web","ends"] (aN jb):=by walk_at "sc"
def tW:aV ["web","ends","ties","bar"] ["web","ends"] (aN ie):=by walk_at "sc"
def zb:aV ["web","ends","ties","bar"] ["web","ends"] (aN nZ):=by walk_at "sc"
def xn:aV ["_law_script","_law_k"] ["_law_script","_law_k"] (aN mF):=by walk_at "sc"
def aCN:aV ["_law_cell","_law_k","_law_bound","_law_left_here","_law_j","_law_stir"] ["_law_cell","_law_k","_law_bound"] (aN rW):=by walk_at "sc"
def aAw:aV ["_law_web","_law_least","_law_turn","_law_one","_law_other"] ["_law_web"] (aN pG):=by walk_at "sc"
def aCK:aV ["_law_web","_law_places","_law_stays","_law_ties"] ["_law_web","_law_places"] (aN rQ):=by walk_at "sc"
def aCJ:aV ["_law_cell","_law_many","_law_at","_law_kind","_law_found","_law_place"] ["_law_cell","_law_many","_law_at"] (aN rP):=by walk_at "sc"
def aAv:aV ["_law_web","_law_bar","_law_ends"] ["_law_web","_law_bar","_law_ends"] (aN pF):=by walk_at "sc"
def aCM:aV ["_law_web","_law_thing","_law_place","_law_one","_law_other"] ["_law_web","_law_thing"] (aN rT):=by walk_at "sc"
def tV:aV ["_law_web","_law_thing","_law_places","_law_way"] ["_law_web","_law_thing"] (aN iZ):=by walk_at "sc"
def aCL:aV ["_law_ends","_law_parting","_law_place"] ["_law_ends","_law_parting"] (aN rR):=by walk_at "sc"
def uw:aV ["_law_web","_law_thing","_law_place"] ["_law_web","_law_thing"] (aN j9):=by walk_at "sc"
def za:aV ["_law_cell","_law_most","_law_many","_law_kind","_law_order","_law_ties","_law_place","_law_over"] ["_law_cell","_law_most"] (aN nY):=by walk_at "sc"
def aMh:aV ["_law_script","_law_k","_law_cell","_law_web","_law_ends","_law_parting","_law_bar"] ["_law_script"] (aN aHm):=by walk_at "sc"
set_option genInjectivity false in
set_option genSizeOf false in
structure Adr where
 yw:Addr
 jD:zAd
 aAZ:Addr
 jq:zAd
 yx:Addr
 jE:zAd
 aAY:Addr
 jo:zAd
 vz:Addr
 fH:zAd
 kZ:Addr
 bO:zAd
 yz:Addr
 gY:zAd
 uP:Addr
 dD:zAd
 aDO:Addr
 nF:zAd
 wB:Addr
 gn:zAd
 pZ:Addr
 dR:zAd
 aDN:Addr
 nD:zAd
 zA:Addr
 jF:zAd
 vo:Addr
 gf:zAd
 qx:Addr
 eN:zAd
 aGF:Addr
 qY:zAd
 uO:Addr
 fV:zAd
 yo:Addr
 iy:zAd
 oM:Addr
 cY:zAd
 wA:Addr
 gm:zAd
 ph:Addr
 dU:zAd
 aJR:Addr
 vW:zAd
 vy:Addr
 gk:zAd
 pY:Addr
 dO:zAd
 oO:Addr
 cg:zAd
 nA:Addr
 cQ:zAd
 uN:Addr
 fU:zAd
 qy:Addr
 dG:zAd
 yu:Addr
 fG:zAd
 vq:Addr
 gj:zAd
 yq:Addr
 jA:zAd
 yp:Addr
 iz:zAd
 vp:Addr
 gh:zAd
 yt:Addr
 jC:zAd
 mz:Addr
 cP:zAd
 yr:Addr
 jB:zAd
 oN:Addr
 cZ:zAd
 uM:Addr
 fQ:zAd
 aMW:Addr
 zP:zAd
 ql:Value
 su:Addr
 aBh:Addr
 vX:Addr
 qH:Addr
 sr:Addr
structure Txt(K:zAA)(mg:Str->Option Value)(t:Adr):Prop where
 sW:Dnr K mg "is_whole" rY ["thing"] t.yw t.jD
 aA3:Dnr K mg "is_many" uz ["thing"] t.aAZ t.jq
 oA:Dnr K mg "is_place" rZ ["many","thing"] t.yx t.jE
 aA2:Dnr K mg "is_pair" uy ["many","thing"] t.aAY t.jo
 pq:Dnr K mg "is_rising" pI ["things"] t.vz t.fH
 lA:Dnr K mg "are_rising_pairs" gP ["many","thing"] t.kZ t.bO
 sX:Dnr K mg "are_ties" rn ["many","thing"] t.yz t.gY
 uT:Dnr K mg "are_places" n8 ["many","thing"] t.uP t.dD
 aDS:Dnr K mg "is_web" xr ["thing"] t.aDO t.nF
 qC:Dnr K mg "check_web" pK ["thing"] t.wB t.gn
 qD:Dnr K mg "check_places" kJ ["many","thing"] t.pZ t.dR
 aDR:Dnr K mg "tie_of" xq ["one","other"] t.aDN t.nD
 oF:Dnr K mg "all_tied" rz ["web"] t.zA t.jF
 wC:Dnr K mg "part_with" pC ["near","start"] t.vo t.gf
 qz:Dnr K mg "parts_among" mD ["near","places"] t.qx t.eN
 aB8:Dnr K mg "parts" aBB ["web"] t.aGF t.qY
 uR:Dnr K mg "check_ties" n6 ["web","thing"] t.uO t.fV
 zG:Dnr K mg "way_from" rO ["near","end"] t.yo t.iy
 oR:Dnr K mg "parting_along" j6 ["web","ties"] t.oM t.cY
 wH:Dnr K mg "is_forest" pJ ["web"] t.wA t.gm
 qF:Dnr K mg "check_forest" kO ["web"] t.ph t.dU
 aJV:Dnr K mg "hung" aDu ["web"] t.aJR t.vW
 wG:Dnr K mg "joined_up" pH ["web","ends"] t.vy t.gk
 iK:Dnr K mg "checked_join" kI ["web","ends"] t.pY t.dO
 oV:Dnr K mg "forest_fewest" jb ["web","ends"] t.oO t.cg
 iu:Dnr K mg "forest_parting" ie ["web","ends"] t.nA t.cQ
 oE:Dnr K mg "forest_bar" nZ ["web","ends"] t.uN t.fU
 rA:Dnr K mg "_law_cell_at" mF ["_law_script","_law_k"] t.qy t.dG
 cV:Dnr K mg "_law_draw" rW ["_law_cell","_law_k","_law_bound"] t.yu t.fG
 wF:Dnr K mg "_law_parts" pG ["_law_web"] t.vq t.gj
 zJ:Dnr K mg "_law_left" rQ ["_law_web","_law_places"] t.yq t.jA
 zH:Dnr K mg "_law_some" rP ["_law_cell","_law_many","_law_at"] t.yp t.iz
 wD:Dnr K mg "_law_shown" pF ["_law_web","_law_bar","_law_ends"] t.vp t.gh
 zL:Dnr K mg "_law_goes" rT ["_law_web","_law_thing"] t.yt t.jC
 nC:Dnr K mg "_law_is_parting" iZ ["_law_web","_law_thing"] t.mz t.cP
 zK:Dnr K mg "_law_kept" rR ["_law_ends","_law_parting"] t.yr t.jB
 oU:Dnr K mg "_law_is_places" j9 ["_law_web","_law_thing"] t.oN t.cZ
 uQ:Dnr K mg "_law_forest" nY ["_law_cell","_law_most"] t.uM t.fQ
 aJU:Dnr K mg "law" aHm ["_law_script"] t.aMW t.zP
 jN:mg "MOST_PLACES"=some t.ql
 zg:RelV (.int 60) t.ql
 m_FewError:mg "FewError"=some (.ref t.su)
 l_FewError:bR mg "FewError"=t.su
 nP:mQ K t.su
 aLB:mg "NoWeb"=some (.ref t.aBh)
 aLK:bR mg "NoWeb"=t.aBh
 tE:mQ K t.aBh
 aGh:mg "NoPlace"=some (.ref t.vX)
 aGm:bR mg "NoPlace"=t.vX
 mU:mQ K t.vX
 lM:mg "NoParting"=some (.ref t.qH)
 lQ:bR mg "NoParting"=t.qH
 dh:mQ K t.qH
 aEV:mg "NoForest"=some (.ref t.sr)
 aE4:bR mg "NoForest"=t.sr
 jw:mQ K t.sr
 aMT:mg "all"=none
 aOl:mg "any"=none
 aEP:mg "bool"=none
 aI6:mg "int"=none
 bU:mg "isinstance"=none
 g8:mg "len"=none
 aBR:mg "list"=none
 aFb:mg "max"=none
 aCf:mg "min"=none
 dJ:mg "range"=none
 aCe:mg "set"=none
 iJ:mg "sorted"=none
 cz:mg "tuple"=none
 aOk:mg "zip"=none
section
variable{P:zA7}{w:World}{K:zAA}{mg:Str->Option Value}{base:Heap}{t:Adr}
def v9(T:Txt K mg t):bw P w K mg base (CX1 P w) 1 t.yw t.jD ["thing"] (spF K (bR mg) 1 lE):=
 ao (k:=0) (f:=jD) T.sW aCO λ n _ _ _ _ _ _ _=>
  (aH (aW (pB (iW (aA 0) T.bU T.aI6) (rM (aMf (iW (aA 0) T.bU T.aEP))))))
def uA(T:Txt K mg t):bw P w K mg base (CX1 P w) 1 t.vz t.fH ["things"] (spF K (bR mg) 1 di):=
 ao (k:=0) (f:=fH) T.pq aAy λ n _ _ _ _ _ _ _=>
  (aG (cI (aFO (aB aM (aB (dm T.g8 (aB (aA 0) aF)) aF)) T.dJ) (ak (ks:=[1]))
   (aH (bx (cT (aBz (aL (aA 0) (xZ (aA 1) aM)) (aL (aA 0) (aA 1))))
    (aH (aW gC))
    bB)))
  (aH (aW gC)))
def aGd(T:Txt K mg t):bw P w K mg base (CX1 P w) 1 t.aDN t.nD ["one","other"] (spF K (bR mg) 2 uh):=
 ao (k:=0) (f:=nD) T.aDR aGX λ n _ _ _ _ _ _ _=>
  (aH (aW (dF (aB (tU T.aCf (aB (aA 0) (aB (aA 1) aF))) (aB (wj T.aFb (aB (aA 0) (aB (aA 1) aF))) aF)))))
def pO(T:Txt K mg t):bw P w K mg base (CX1 P w) 1 t.zA t.jF ["web"] (spF K (bR mg) 1 cW):=
 ao (k:=0) (f:=jF) T.oF aCR λ n _ _ _ _ _ _ _=>
  (aG (xU (aA 0) (kE (n:=2) (bV (ak (ks:=[1,2])) (bV (ak (ks:=[1,2])) iB))))
  (aG (aMD (N:=["place"]) (js:=[none]) (ks:=[0]) (jK (aB (aA 1) aF) T.dJ) bh)
  (aG (cI (bj (aA 2)) (kE (n:=2) (bV (ak (ks:=[4,5])) (bV (ak (ks:=[4,5])) iB)))
   (aG (rE 3 (aA 4) (bZ (aA 5)))
   (aH (rE 3 (aA 5) (bZ (aA 4))))))
  (aH (aW (tQ 3))))))
def aBK(T:Txt K mg t):bw P w K mg base (CX1 P w) 1 t.vo t.gf ["near","start"] (spF K (bR mg) 2 jX):=
 ao (k:=0) (f:=gf) T.wC aAu λ n _ _ _ _ _ _ _=>
  (aG (fK (i:=2) (mW (mC (aB (bZ (aA 1)) aF))))
  (aG (bz (i:=3) (jy aM))
  (aG (xT (aBz (aA 3) (dm T.g8 (aB (fB 2) aF)))
   (aG (nU (i:=4) (jy (bZ (aL (fB 2) (aA 3)))))
   (aG (cI (bj (aL (aA 0) (jL 4))) (ak (ks:=[5]))
    (aH (bx (xR (aA 5) (fB 2))
     (aH (fL 2 (bZ (aA 5))))
     bB)))
   (aH (aH6 (i:=3) aM (λ _=>aIt))))))
  (aH (aW (iC T.cz (aB (iV T.iJ (aB (fB 2) aF)) aF)))))))
def aC4(T:Txt K mg t):bw P w K mg base (CX1 P w) 1 t.yo t.iy ["near","end"] (spF K (bR mg) 2 jH):=
 ao (k:=0) (f:=iy) T.zG aCI λ n _ _ _ _ _ _ _=>
  (aG (fK (i:=2) (mW (mC (aB (bZ (aA 1)) aF))))
  (aG (bz (i:=3) (jy (aL (aA 0) (aA 1))))
  (aG (xT (cH (aA 3))
   (aG (fL 2 (bZ (aL (aA 3) aM)))
   (aH (bz (i:=3) (aFC (N:=["place","way"]) (js:=[none,some 2]) (ks:=[0]) (bj (aL (aA 0) (aL (aA 2) (aHj aM)))) bh (rG (xR (aA 0) (aA 1))) (bZ (aA 0)))))))
  (aH (aW (iC T.cz (aB (tQ 2) aF)))))))
def yL(T:Txt K mg t):bw P w K mg base (CX1 P w) 1 t.qy t.dG ["_law_script","_law_k"] (spF K (bR mg) 2 eU):=
 ao (k:=0) (f:=dG) T.rA xn λ n _ _ _ _ _ _ _=>
  (aG (bx (aBz (aA 1) (dm T.g8 (aB (aA 0) aF)))
   (aH (aW (bZ (aL (aA 0) (aA 1)))))
   bB)
  (aH (aW aM)))
def cN(T:Txt K mg t):bw P w K mg base (CX1 P w) 1 t.yu t.fG ["_law_cell","_law_k","_law_bound"] (spF K (bR mg) 3 aQ):=
 ao (k:=0) (f:=fG) T.cV aCN λ n _ _ _ _ _ _ _=>
  (aG (bx (aMC (aA 0) (aMe aM aM))
   (aG (bz (i:=3) (jy (aA 0)))
   (aG (cI (jK (aB (aA 1) aF) T.dJ) (ak (ks:=[4]))
    (aG (bx (tK (aA 3) aM)
     (aH (aW aM))
     bB)
    (aH (bz (i:=3) (jy (wu (aA 3) (aA 2)))))))
   (aH (aW (ut (aA 3) (aA 2))))))
   bB)
  (aG (bz (i:=5) (jy (ut (xg (iY (iY (ut (aA 0) aM) (xg aM (aA 1))) aM) aM) aM)))
  (aG (bz (i:=5) (jy (ut (iY (iY (xg (aA 5) (aA 5)) (xg aM (aA 1))) aM) aM)))
  (aH (aW (ut (wu (ut (xg (aA 5) aM) aM) aM) (aA 2)))))))
def aBM(T:Txt K mg t):bw P w K mg base (CX1 P w) 1 t.vq t.gj ["_law_web"] (spF K (bR mg) 1 jY):=
 ao (k:=0) (f:=gj) T.wF aAw λ n _ _ _ _ _ _ _=>
  (aG (fK (i:=1) (mW (aMc (rN T.aBR T.dJ (aL (aA 0) aM)))))
  (aG (cI (jK (aB (aL (aA 0) aM) aF) T.dJ) (ak (ks:=[2]))
   (aH (cI (bj (aL (aA 0) aM)) (kE (n:=2) (bV (ak (ks:=[3,4])) (bV (ak (ks:=[3,4])) iB)))
    (aG (aFG 1 (aA 3) (tU T.aCf (aB (aL (fB 1) (aA 3)) (aB (aL (fB 1) (aA 4)) aF))))
    (aH (aFG 1 (aA 4) (bZ (aL (fB 1) (aA 3)))))))))
  (aH (aW (pA (N:=["_law_low","_law_web","_law_least"]) (js:=[none,some 0,some 1]) (ks:=[0]) (bj (z9 T.iJ T.aCe (aB (aA 1) aF))) bh lw (iC T.cz (aB (pA (N:=["_law_place","_law_least","_law_low"]) (js:=[none,some 2,some 0]) (ks:=[0]) (jK (aB (aL (aA 1) aM) aF) T.dJ) bh (rG (tK (aL (aA 1) (aA 0)) (aA 2))) (bZ (aA 0))) aF)))))))
def aC7(T:Txt K mg t):bw P w K mg base (CX1 P w) 1 t.yq t.jA ["_law_web","_law_places"] (spF K (bR mg) 2 lD):=
 ao (k:=0) (f:=jA) T.zJ aCK λ n _ _ _ _ _ _ _=>
  (aG (nU (i:=2) (jy (pA (N:=["_law_place","_law_places"]) (js:=[none,some 1]) (ks:=[0]) (jK (aB (aL (aA 0) aM) aF) T.dJ) bh (rG (xR (aA 0) (aA 1))) (bZ (aA 0)))))
  (aG (nU (i:=3) (aFC (N:=["_law_tie","_law_stays"]) (js:=[none,some 2]) (ks:=[0]) (bj (aL (aA 0) aM)) bh (rG (SW.st (aHZ (aH3 (aL (aA 0) aM) (aA 1)) (aFB (aH3 (aL (aA 0) aM) (aA 1)))))) (bZ (aA 0))))
  (aH (aW (dF (aB (dm T.g8 (aB (jL 2) aF)) (aB (iC T.cz (aB (pA (N:=["_law_one","_law_other","_law_stays"]) (js:=[none,none,some 2]) (ks:=[0,1]) (bj (aA 3)) (kE (n:=2) (bV bh (bV bh iB))) lw (dF (aB (aCE (aA 2) (aA 0)) (aB (aCE (aA 2) (aA 1)) aF)))) aF)) aF)))))))
def aC9(T:Txt K mg t):bw P w K mg base (CX1 P w) 1 t.yt t.jC ["_law_web","_law_thing"] (spF K (bR mg) 2 oK):=
 ao (k:=0) (f:=jC) T.zL aCM λ n _ _ _ _ _ _ _=>
  (aG (bx (SW.st (mV (cT (cH (iW (aA 1) T.bU T.cz))) (lr (tK (aA 1) (dF aF)))))
   (aH (aW gC))
   bB)
  (aG (cI (bj (aA 1)) (ak (ks:=[2]))
   (aH (bx (SW.st (mV (cT (cH (iW (aA 2) T.bU T.aI6))) (mV (cH (iW (aA 2) T.bU T.aEP)) (lr (cT (aFF aM (aA 2) (aL (aA 0) aM)))))))
    (aH (aW gC))
    bB)))
  (aG (bx (aAH (aKN T.g8 (aB (aMd T.aCe (aB (aA 1) aF)) aF)) (dm T.g8 (aB (aA 1) aF)))
   (aH (aW gC))
   bB)
  (aG (cI (aMb (aB (aA 1) (aB (aCD (aA 1) (aFI aM) aFJ) aF)) T.aOk) (kE (n:=2) (bV (ak (ks:=[3,4])) (bV (ak (ks:=[3,4])) iB)))
   (aH (bx (xR (dF (aB (tU T.aCf (aB (aA 3) (aB (aA 4) aF))) (aB (wj T.aFb (aB (aA 3) (aB (aA 4) aF))) aF))) (aL (aA 0) aM))
    (aH (aW gC))
    bB)))
  (aH (aW gC))))))
def aC8(T:Txt K mg t):bw P w K mg base (CX1 P w) 1 t.yr t.jB ["_law_ends","_law_parting"] (spF K (bR mg) 2 jJ):=
 ao (k:=0) (f:=jB) T.zK aCL λ n _ _ _ _ _ _ _=>
  (aG (cI (bj (aA 0)) (ak (ks:=[2]))
   (aH (bx (tK (pA (N:=["_law_way","_law_place"]) (js:=[none,some 2]) (ks:=[0]) (bj (aA 1)) bh (rG (SW.st (mV (tK (aA 1) (aL (aA 0) aM)) (lr (tK (aA 1) (aL (aA 0) (aHj aM))))))) (bZ (aA 0))) (aAs aF))
    (aH (aW gC))
    bB)))
  (aH (aW gC)))
def vI(T:Txt K mg t):bw P w K mg base (CX1 P w) 1 t.oN t.cZ ["_law_web","_law_thing"] (spF K (bR mg) 2 cj):=
 ao (k:=0) (f:=cZ) T.oU uw λ n _ _ _ _ _ _ _=>
  (aG (bx (cT (cH (iW (aA 1) T.bU T.cz)))
   (aH (aW gC))
   bB)
  (aG (cI (bj (aA 1)) (ak (ks:=[2]))
   (aH (bx (SW.st (mV (cT (cH (iW (aA 2) T.bU T.aI6))) (mV (cH (iW (aA 2) T.bU T.aEP)) (lr (cT (aFF aM (aA 2) (aL (aA 0) aM)))))))
    (aH (aW gC))
    bB)))
  (aH (aW (aCF (aKM T.aBR (aB (aA 1) aF)) (xf T.iJ T.aCe (aB (aA 1) aF)))))))
def aEN(T:Txt K mg t):bw P w K mg base (CX1 P w) 2 t.aAZ t.jq ["thing"] (spF K (bR mg) 1 q9):=
 ao (k:=1) (f:=jq) T.aA3 aDt λ n _ _ _ _ _ _ _=>
  (aH (aW (pB (aR (v9 T) T.sW (aB (aA 0) aF)) (rM (aKP aM (aA 0) (aKQ T.jN T.zg (λ _ _=>.int _)))))))
def pN(T:Txt K mg t):bw P w K mg base (CX1 P w) 2 t.yx t.jE ["many","thing"] (spF K (bR mg) 2 du):=
 ao (k:=1) (f:=jE) T.oA aCP λ n _ _ _ _ _ _ _=>
  (aH (aW (pB (aR (v9 T) T.sW (aB (aA 1) aF)) (rM (aKO aM (aA 1) (aA 0))))))
def yK(T:Txt K mg t):bw P w K mg base (CX1 P w) 2 t.qx t.eN ["near","places"] (spF K (bR mg) 2 eQ):=
 ao (k:=1) (f:=eN) T.qz xm λ n _ _ _ _ _ _ _=>
  (aG (fK (i:=2) (mW (mC aF)))
  (aG (fK (i:=3) (mW (aMc (aFP T.aCe))))
  (aG (cI (bj (aA 1)) (ak (ks:=[4]))
   (aH (bx (aFE (aA 4) (fB 3))
    (aG (bz (i:=5) (jy (aR (aBK T) T.wC (aB (aA 0) (aB (aA 4) aF)))))
    (aG (fL 2 (bZ (aA 5)))
    (aH (cI (bj (aA 5)) (ak (ks:=[6]))
     (aH (aH7 3 (bZ (aA 6))))))))
    bB)))
  (aH (aW (tQ 2))))))
def aKu(T:Txt K mg t):bw P w K mg base (CX1 P w) 2 t.aJR t.vW ["web"] (spF K (bR mg) 1 zV):=
 ao (k:=1) (f:=vW) T.aJV aKT λ n _ _ _ _ _ _ _=>
  (aG (bz (i:=1) (jy (aR (pO T) T.oF (aB (aA 0) aF))))
  (aG (fK (i:=2) (mW (aMc (aFP T.aCe))))
  (aG (fK (i:=3) (mW (mC aF)))
  (aG (bz (i:=4) (jy aM))
  (aG (cI (jK (aB (aL (aA 0) aM) aF) T.dJ) (ak (ks:=[5]))
   (aG (bx (aFE (aA 5) (fB 2))
    (aH (fL 3 (dF (aB (bZ (aA 5)) (aB aHi aF)))))
    bB)
   (aH (xT (aBz (aA 4) (dm T.g8 (aB (fB 3) aF)))
    (aG (xU (bZ (aL (fB 3) (aA 4))) (kE (n:=2) (bV (ak (ks:=[6,7])) (bV (ak (ks:=[6,7])) iB))))
    (aG (cI (bj (aL (aA 1) (aA 6))) (ak (ks:=[8]))
     (aH (bx (aAH (aA 8) (aA 7))
      (aG (aH7 2 (bZ (aA 8)))
      (aH (fL 3 (dF (aB (bZ (aA 8)) (aB (bZ (aA 6)) aF))))))
      bB)))
    (aH (aH6 (i:=4) aM (λ _=>aIt)))))))))
  (aH (aW (tQ 3))))))))
def aC6(T:Txt K mg t):bw P w K mg base (CX1 P w) 2 t.yp t.iz ["_law_cell","_law_many","_law_at"] (spF K (bR mg) 3 oJ):=
 ao (k:=1) (f:=iz) T.zH aCJ λ n _ _ _ _ _ _ _=>
  (aG (bz (i:=3) (jy (aR (cN T) T.cV (aB (aA 0) (aB (aA 2) (aB aM aF))))))
  (aG (fK (i:=4) (mW (mC aF)))
  (aG (cI (jK (aB (aA 1) aF) T.dJ) (ak (ks:=[5]))
   (aH (bx (SW.st (mV (tK (aA 3) aM) (lr (SW.st (aHZ (aMB (aA 3) aM) (aFB (tK (aR (cN T) T.cV (aB (aA 0) (aB (iY (iY (aA 2) aM) (aA 5)) (aB (iY aM (aA 3)) aF)))) aM)))))))
    (aH (fL 4 (bZ (aA 5))))
    bB)))
  (aH (aW (iC T.cz (aB (tQ 4) aF)))))))
def aBL(T:Txt K mg t):bw P w K mg base (CX1 P w) 2 t.vp t.gh ["_law_web","_law_bar","_law_ends"] (spF K (bR mg) 3 gq):=
 ao (k:=1) (f:=gh) T.wD aAv λ n _ _ _ _ _ _ _=>
  (aH (aW (xZ (dm T.g8 (aB (aR (aBM T) T.wF (aB (aR (aC7 T) T.zJ (aB (aA 0) (aB (aA 1) aF))) aF)) aF)) (dm T.g8 (aB (pA (N:=["_law_place","_law_ends"]) (js:=[none,some 2]) (ks:=[0]) (bj (aA 1)) bh (rG (xR (aA 0) (aA 1))) (bZ (aA 0))) aF)))))
def tZ(T:Txt K mg t):bw P w K mg base (CX1 P w) 2 t.mz t.cP ["_law_web","_law_thing"] (spF K (bR mg) 2 dY):=
 ao (k:=1) (f:=cP) T.nC tV λ n _ _ _ _ _ _ _=>
  (aG (bx (SW.st (mV (cT (cH (iW (aA 1) T.bU T.cz))) (lr (cT (cH (aHk T.aMT (aB (pA (N:=["_law_way","_law_web"]) (js:=[none,some 0]) (ks:=[0]) (bj (aA 1)) bh lw (aR (aC9 T) T.zL (aB (aA 1) (aB (aA 0) aF)))) aF)))))))
   (aH (aW gC))
   bB)
  (aG (fK (i:=2) (mW (mC aF)))
  (aG (cI (bj (aA 1)) (ak (ks:=[3]))
   (aH (aDn 2 (bZ (aA 3)))))
  (aH (aW (aCF (iV T.iJ (aB (fB 2) aF)) (rN T.aBR T.dJ (aL (aA 0) aM))))))))
def zm(T:Txt K mg t):bw P w K mg base (CX1 P w) 2 t.uM t.fQ ["_law_cell","_law_most"] (spF K (bR mg) 2 iM):=
 ao (k:=1) (f:=fQ) T.uQ za λ n _ _ _ _ _ _ _=>
  (aG (bz (i:=2) (jy (aR (cN T) T.cV (aB (aA 0) (aB aM (aB (iY (aA 1) aM) aF))))))
  (aG (bz (i:=3) (jy (aR (cN T) T.cV (aB (aA 0) (aB aM (aB aM aF))))))
  (aG (nU (i:=4) (aFC (N:=["_law_row"]) (js:=[none]) (ks:=[0]) (bj (iV T.iJ (aB (pA (N:=["_law_place","_law_cell"]) (js:=[none,some 0]) (ks:=[0]) (jK (aB (aA 2) aF) T.dJ) bh lw (dF (aB (aR (cN T) T.cV (aB (aA 1) (aB (iY aM (aA 0)) (aB aM aF)))) (aB (bZ (aA 0)) aF)))) aF))) bh lw (bZ (aL (aA 0) aM))))
  (aG (fK (i:=5) (mW (mC aF)))
  (aG (cI (aFO (aB aM (aB (aA 2) aF)) T.dJ) (ak (ks:=[6]))
   (aG (nU (i:=7) (jy (aL (aAs (aB (xZ (aA 6) aM) (aB (wu (aA 6) aM) (aB (wu (aA 6) aM) (aB (aR (cN T) T.cV (aB (aA 0) (aB (iY aM (aA 6)) (aB (aA 6) aF)))) aF))))) (aA 3))))
   (aG (bx (tK (aR (cN T) T.cV (aB (aA 0) (aB (iY aM (aA 6)) (aB aM aF)))) aM)
    (aH (nU (i:=7) (jy (aR (cN T) T.cV (aB (aA 0) (aB (iY aM (aA 6)) (aB (aA 6) aF)))))))
    bB)
   (aH (bx (aMB (aR (cN T) T.cV (aB (aA 0) (aB (iY aM (aA 6)) (aB aM aF)))) aM)
    (aH (fL 5 (dF (aB (tU T.aCf (aB (aL (jL 4) (jL 7)) (aB (aL (jL 4) (aA 6)) aF))) (aB (wj T.aFb (aB (aL (jL 4) (jL 7)) (aB (aL (jL 4) (aA 6)) aF))) aF)))))
    bB)))))
  (aH (aW (dF (aB (bZ (aA 2)) (aB (iC T.cz (aB (iV T.iJ (aB (fB 5) aF)) aF)) aF))))))))))
def aEM(T:Txt K mg t):bw P w K mg base (CX1 P w) 3 t.aAY t.jo ["many","thing"] (spF K (bR mg) 2 nO):=
 ao (k:=2) (f:=jo) T.aA2 aDs λ n _ _ _ _ _ _ _=>
  (aG (bx (SW.st (mV (cT (cH (iW (aA 1) T.bU T.cz))) (lr (aAH (dm T.g8 (aB (aA 1) aF)) aM))))
   (aH (aW gC))
   bB)
  (aH (aW (pB (aR (pN T) T.oA (aB (aA 0) (aB (aL (aA 1) aM) aF))) (pB (aR (pN T) T.oA (aB (aA 0) (aB (aL (aA 1) aM) aF))) (rM (aOX (aL (aA 1) aM) (aL (aA 1) aM))))))))
def zq(T:Txt K mg t):bw P w K mg base (CX1 P w) 3 t.uP t.dD ["many","thing"] (spF K (bR mg) 2 fZ):=
 ao (k:=2) (f:=dD) T.uT zf λ n _ _ _ _ _ _ _=>
  (aG (bx (cT (cH (iW (aA 1) T.bU T.cz)))
   (aH (aW gC))
   bB)
  (aG (cI (bj (aA 1)) (ak (ks:=[2]))
   (aH (bx (cT (cH (aR (pN T) T.oA (aB (aA 0) (aB (aA 2) aF)))))
    (aH (aW gC))
    bB)))
  (aH (aW (aR (uA T) T.pq (aB (aA 1) aF))))))
def aBN(T:Txt K mg t):bw P w K mg base (CX1 P w) 3 t.vy t.gk ["web","ends"] (spF K (bR mg) 2 lq):=
 ao (k:=2) (f:=gk) T.wG aAx λ n _ _ _ _ _ _ _=>
  (aG (aMD (N:=["place"]) (js:=[none]) (ks:=[0]) (jK (aB (aL (aA 0) aM) aF) T.dJ) bh)
  (aG (fK (i:=3) (mW (mC aF)))
  (aG (fK (i:=4) (mW (mC aF)))
  (aG (cI (bj (aKL (aR (aKu T) T.aJV (aB (aA 0) aF)))) (kE (n:=2) (bV (ak (ks:=[5,6])) (bV (ak (ks:=[5,6])) iB)))
   (aG (bz (i:=7) (jy (aOZ (aH3 (aA 5) (aA 1)) aM aM)))
   (aG (aKD 3 (pA (N:=["other","place"]) (js:=[none,some 5]) (ks:=[0]) (bj (aCD (aL (aA 2) (aA 5)) aFJ (aFI (aA 7)))) bh lw (aR (aGd T) T.aDR (aB (aA 1) (aB (aA 0) aF)))))
   (aH (bx (aMC (dm T.g8 (aB (aL (fB 2) (aA 5)) aF)) (aA 7))
    (aH (fL 4 (bZ (aA 5))))
    (aH (bx (aH2 (aA 6) aHi)
     (aH (rE 2 (aA 6) (bZ (aA 5))))
     bB)))))))
  (aH (aW (dF (aB (iC T.cz (aB (iV T.iJ (aB (fB 3) aF)) aF)) (aB (iC T.cz (aB (iV T.iJ (aB (fB 4) aF)) aF)) aF)))))))))
def qg(T:Txt K mg t):bw P w K mg base (CX1 P w) 4 t.kZ t.bO ["many","thing"] (spF K (bR mg) 2 bT):=
 ao (k:=3) (f:=bO) T.lA qb λ n _ _ _ _ _ _ _=>
  (aG (bx (cT (cH (iW (aA 1) T.bU T.cz)))
   (aH (aW gC))
   bB)
  (aG (cI (bj (aA 1)) (ak (ks:=[2]))
   (aH (bx (cT (cH (aR (aEM T) T.aA2 (aB (aA 0) (aB (aA 2) aF)))))
    (aH (aW gC))
    bB)))
  (aH (aW (aR (uA T) T.pq (aB (aA 1) aF))))))
def wU(T:Txt K mg t):bw P w K mg base (CX1 P w) 4 t.pZ t.dR ["many","thing"] (spF K (bR mg) 2 iQ):=
 ao (k:=3) (f:=dR) T.qD wN λ n _ _ _ _ _ _ _=>
  (aH (bx (cT (cH (aR (zq T) T.uT (aB (aA 0) (aB (aA 1) aF)))))
   (aH (jz rfl T.aGh T.aGm T.mU (aB rJ aF)))
   bB))
def vf(T:Txt K mg t):bw P w K mg base (CX1 P w) 5 t.yz t.gY ["many","thing"] (spF K (bR mg) 2 dH):=
 ao (k:=4) (f:=gY) T.sX aCQ λ n _ _ _ _ _ _ _=>
  (aH (aW (pB (aR (qg T) T.lA (aB (aA 0) (aB (aA 1) aF))) (rM (aHk T.aMT (aB (pA (N:=["low","high"]) (js:=[none,none]) (ks:=[0,1]) (bj (aA 1)) (kE (n:=2) (bV bh (bV bh iB))) lw (aOY (aA 0) (aA 1))) aF))))))
def aGe(T:Txt K mg t):bw P w K mg base (CX1 P w) 6 t.aDO t.nF ["thing"] (spF K (bR mg) 1 ul):=
 ao (k:=5) (f:=nF) T.aDS aGY λ n _ _ _ _ _ _ _=>
  (aG (bx (SW.st (mV (cT (cH (iW (aA 0) T.bU T.cz))) (lr (aAH (dm T.g8 (aB (aA 0) aF)) aM))))
   (aH (aW gC))
   bB)
  (aH (aW (pB (aR (aEN T) T.aA3 (aB (aL (aA 0) aM) aF)) (rM (aR (vf T) T.sX (aB (aL (aA 0) aM) (aB (aL (aA 0) aM) aF))))))))
def zp(T:Txt K mg t):bw P w K mg base (CX1 P w) 6 t.uO t.fV ["web","thing"] (spF K (bR mg) 2 dw):=
 ao (k:=5) (f:=fV) T.uR zc λ n _ _ _ _ _ _ _=>
  (aG (bx (cT (cH (aR (vf T) T.sX (aB (aL (aA 0) aM) (aB (aA 1) aF)))))
   (aH (jz rfl T.lM T.lQ T.dh (aB rJ aF)))
   bB)
  (aG (bz (i:=2) (aOV (N:=["tie"]) (js:=[none]) (ks:=[0]) (bj (aL (aA 0) aM)) bh lw (bZ (aA 0)) gC))
  (aH (cI (bj (aA 1)) (ak (ks:=[3]))
   (aH (bx (aKC (aA 3) (aA 2))
    (aH (jz rfl T.lM T.lQ T.dh (aB rJ aF)))
    bB))))))
def uB(T:Txt K mg t):bw P w K mg base (CX1 P w) 7 t.wB t.gn ["thing"] (spF K (bR mg) 1 dj):=
 ao (k:=6) (f:=gn) T.qC aBA λ n _ _ _ _ _ _ _=>
  (aH (bx (cT (cH (aR (aGe T) T.aDS (aB (aA 0) aF))))
   (aH (jz rfl T.aLB T.aLK T.tE (aB rJ aF)))
   bB))
def aC5(T:Txt K mg t):bw P w K mg base (CX1 P w) 8 t.aGF t.qY ["web"] (spF K (bR mg) 1 qZ):=
 ao (k:=7) (f:=qY) T.aB8 aHl λ n _ _ _ _ _ _ _=>
  (aG (tL (aR (uB T) T.qC (aB (aA 0) aF)))
  (aH (aW (aR (yK T) T.qz (aB (aR (pO T) T.oF (aB (aA 0) aF)) (aB (rN T.aBR T.dJ (aL (aA 0) aM)) aF))))))
def vH(T:Txt K mg t):bw P w K mg base (CX1 P w) 9 t.oM t.cY ["web","ties"] (spF K (bR mg) 2 gH):=
 ao (k:=8) (f:=cY) T.oR uv λ n _ _ _ _ _ _ _=>
  (aG (tL (aR (uB T) T.qC (aB (aA 0) aF)))
  (aG (tL (aR (zp T) T.uR (aB (aA 0) (aB (aA 1) aF))))
  (aG (bz (i:=2) (jy (dF (aB (aL (aA 0) aM) (aB (aA 1) aF)))))
  (aG (bz (i:=3) (jy (aR (pO T) T.oF (aB (aA 2) aF))))
  (aG (fK (i:=4) (mW (mC aF)))
  (aG (cI (bj (aR (aC5 T) T.aB8 (aB (aA 2) aF))) (ak (ks:=[5]))
   (aG (bx (cH (aKS T.aOl (aB (pA (N:=["place","near"]) (js:=[none,some 3]) (ks:=[0]) (bj (aA 5)) bh lw (aO0 (dm T.g8 (aB (aL (aA 1) (aA 0)) aF)) aM)) aF)))
    (aH (jz rfl T.lM T.lQ T.dh (aB rJ aF)))
    bB)
   (aG (nU (i:=6) (aFC (N:=["place","near"]) (js:=[none,some 3]) (ks:=[0]) (bj (aA 5)) bh (rG (aBz (dm T.g8 (aB (aL (aA 1) (aA 0)) aF)) aM)) (bZ (aA 0))))
   (aG (bx (cT (cH (jL 6)))
    (aH (jz rfl T.lM T.lQ T.dh (aB rJ aF)))
    bB)
   (aH (fL 4 (aR (aC4 T) T.zG (aB (aA 3) (aB (aL (jL 6) aM) aF)))))))))
  (aH (aW (iC T.cz (aB (iV T.iJ (aB (fB 4) aF)) aF))))))))))
def aBO(T:Txt K mg t):bw P w K mg base (CX1 P w) 9 t.wA t.gm ["web"] (spF K (bR mg) 1 jZ):=
 ao (k:=8) (f:=gm) T.wH aAz λ n _ _ _ _ _ _ _=>
  (aH (aW (aCF (dm T.g8 (aB (aR (aC5 T) T.aB8 (aB (aA 0) aF)) aF)) (xZ (aL (aA 0) aM) (dm T.g8 (aB (aL (aA 0) aM) aF))))))
def wV(T:Txt K mg t):bw P w K mg base (CX1 P w) 10 t.ph t.dU ["web"] (spF K (bR mg) 1 iR):=
 ao (k:=9) (f:=dU) T.qF wO λ n _ _ _ _ _ _ _=>
  (aH (bx (cT (cH (aR (aBO T) T.wH (aB (aA 0) aF))))
   (aH (jz rfl T.aEV T.aE4 T.jw (aB rJ aF)))
   bB))
def jc(T:Txt K mg t):bw P w K mg base (CX1 P w) 11 t.pY t.dO ["web","ends"] (spF K (bR mg) 2 dZ):=
 ao (k:=10) (f:=dO) T.iK wM λ n _ _ _ _ _ _ _=>
  (aG (tL (aR (wV T) T.qF (aB (aA 0) aF)))
  (aG (tL (aR (wU T) T.qD (aB (aL (aA 0) aM) (aB (aA 1) aF))))
  (aH (aW (aR (aBN T) T.wG (aB (aA 0) (aB (aA 1) aF)))))))
def vJ(T:Txt K mg t):bw P w K mg base (CX1 P w) 12 t.oO t.cg ["web","ends"] (spF K (bR mg) 2 gJ):=
 ao (k:=11) (f:=cg) T.oV ux λ n _ _ _ _ _ _ _=>
  (aG (xU (aR (jc T) T.iK (aB (aA 0) (aB (aA 1) aF))) (kE (n:=2) (bV (ak (ks:=[2,3])) (bV (ak (ks:=[2,3])) iB))))
  (aH (aW (xZ (aL (aA 0) aM) (dm T.g8 (aB (aA 2) aF))))))
def lK(T:Txt K mg t):bw P w K mg base (CX1 P w) 12 t.nA t.cQ ["web","ends"] (spF K (bR mg) 2 cR):=
 ao (k:=11) (f:=cQ) T.iu tW λ n _ _ _ _ _ _ _=>
  (aG (xU (aR (jc T) T.iK (aB (aA 0) (aB (aA 1) aF))) (kE (n:=2) (bV (ak (ks:=[2,3])) (bV (ak (ks:=[2,3])) iB))))
  (aH (aW (aR (vH T) T.oR (aB (aA 0) (aB (aA 2) aF))))))
def qm(T:Txt K mg t):bw P w K mg base (CX1 P w) 12 t.uN t.fU ["web","ends"] (spF K (bR mg) 2 fY):=
 ao (k:=11) (f:=fU) T.oE zb λ n _ _ _ _ _ _ _=>
  (aG (xU (aR (jc T) T.iK (aB (aA 0) (aB (aA 1) aF))) (kE (n:=2) (bV (ak (ks:=[2,3])) (bV (ak (ks:=[2,3])) iB))))
  (aH (aW (bZ (aA 3)))))
def aN5(T:Txt K mg t):bw P w K mg base (CX1 P w) 13 t.aMW t.zP ["_law_script"] (spF K (bR mg) 1 aJm):=
 ao (k:=12) (f:=zP) T.aJU aMh λ n _ _ _ _ _ _ _=>
  (aG (cI (jK (aB (wj T.aFb (aB aM (aB (tU T.aCf (aB (dm T.g8 (aB (aA 0) aF)) (aB aM aF))) aF))) aF) T.dJ) (ak (ks:=[1]))
   (aG (bz (i:=2) (jy (aR (yL T) T.rA (aB (aA 0) (aB (aA 1) aF)))))
   (aG (bz (i:=3) (jy (aR (zm T) T.uQ (aB (aA 2) (aB (aL (aAs (aB aM (aB aM (aB aM aF)))) (aR (cN T) T.cV (aB (aA 2) (aB aM (aB aM aF))))) aF)))))
   (aH (cI (bj (aAs (aB (dF aF) (aB (aR (aC6 T) T.zH (aB (aA 2) (aB (aL (aA 3) aM) (aB aM aF)))) (aB (aGV T.cz T.dJ (aL (aA 3) aM)) aF))))) (ak (ks:=[4]))
    (aG (bz (i:=5) (jy (aR (lK T) T.iu (aB (aA 3) (aB (aA 4) aF)))))
    (aG (bz (i:=6) (jy (aR (qm T) T.oE (aB (aA 3) (aB (aA 4) aF)))))
    (aG (bx (SW.st (mV (cT (cH (aR (tZ T) T.nC (aB (aA 3) (aB (aA 5) aF))))) (mV (cT (cH (aR (aC8 T) T.zK (aB (aA 4) (aB (aA 5) aF))))) (lr (cT (cH (aR (vI T) T.oU (aB (aA 3) (aB (aA 6) aF)))))))))
     (aH (aW gC))
     bB)
    (aH (bx (SW.st (mV (aAH (aR (aBL T) T.wD (aB (aA 3) (aB (aA 6) (aB (aA 4) aF)))) (dm T.g8 (aB (aA 5) aF))) (lr (aAH (aR (vJ T) T.oV (aB (aA 3) (aB (aA 4) aF))) (dm T.g8 (aB (aA 5) aF))))))
     (aH (aW gC))
     bB))))))))))
  (aH (aW (pB (aCF (aR (lK T) T.iu (aB (dF (aB aM (aB (dF aF) aF))) (aB (dF aF) aF))) (dF aF)) (rM (aCF (aR (qm T) T.oE (aB (dF (aB aM (aB (dF aF) aF))) (aB (dF aF) aF))) (dF aF)))))))
end
def aM4{K:zAA}{h:Heap}{mg:Str->Option Value}{tk_MOST_PLACES:Tok}{q_FewError:Addr}{q_NoWeb:Addr}{q_NoPlace:Addr}{q_NoParting:Addr}{q_NoForest:Addr}(X:K.In h)(G:h.Ns zAh mg)
  (h0:∃f d,Enr K "is_whole" rY f d)
  (h1:∃f d,Enr K "is_many" uz f d)
  (h2:∃f d,Enr K "is_place" rZ f d)
  (h3:∃f d,Enr K "is_pair" uy f d)
  (h4:∃f d,Enr K "is_rising" pI f d)
  (h5:∃f d,Enr K "are_rising_pairs" gP f d)
  (h6:∃f d,Enr K "are_ties" rn f d)
  (h7:∃f d,Enr K "are_places" n8 f d)
  (h8:∃f d,Enr K "is_web" xr f d)
  (h9:∃f d,Enr K "check_web" pK f d)
  (h10:∃f d,Enr K "check_places" kJ f d)
  (h11:∃f d,Enr K "tie_of" xq f d)
  (h12:∃f d,Enr K "all_tied" rz f d)
  (h13:∃f d,Enr K "part_with" pC f d)
  (h14:∃f d,Enr K "parts_among" mD f d)
  (h15:∃f d,Enr K "parts" aBB f d)
  (h16:∃f d,Enr K "check_ties" n6 f d)
  (h17:∃f d,Enr K "way_from" rO f d)
  (h18:∃f d,Enr K "parting_along" j6 f d)
  (h19:∃f d,Enr K "is_forest" pJ f d)
  (h20:∃f d,Enr K "check_forest" kO f d)
  (h21:∃f d,Enr K "hung" aDu f d)
  (h22:∃f d,Enr K "joined_up" pH f d)
  (h23:∃f d,Enr K "checked_join" kI f d)
  (h24:∃f d,Enr K "forest_fewest" jb f d)
  (h25:∃f d,Enr K "forest_parting" ie f d)
  (h26:∃f d,Enr K "forest_bar" nZ f d)
  (h27:∃f d,Enr K "_law_cell_at" mF f d)
  (h28:∃f d,Enr K "_law_draw" rW f d)
  (h29:∃f d,Enr K "_law_parts" pG f d)
  (h30:∃f d,Enr K "_law_left" rQ f d)
  (h31:∃f d,Enr K "_law_some" rP f d)
  (h32:∃f d,Enr K "_law_shown" pF f d)
  (h33:∃f d,Enr K "_law_goes" rT f d)
  (h34:∃f d,Enr K "_law_is_parting" iZ f d)
  (h35:∃f d,Enr K "_law_kept" rR f d)
  (h36:∃f d,Enr K "_law_is_places" j9 f d)
  (h37:∃f d,Enr K "_law_forest" nY f d)
  (h38:∃f d,Enr K "law" aHm f d)
  (jN:zAv K zAh "MOST_PLACES"=some (some (.int 60 tk_MOST_PLACES)))
  (y_FewError:zAv K zAh "FewError"=some (some (.ref q_FewError)))
  (nP:mQ K q_FewError)
  (y_NoWeb:zAv K zAh "NoWeb"=some (some (.ref q_NoWeb)))
  (tE:mQ K q_NoWeb)
  (y_NoPlace:zAv K zAh "NoPlace"=some (some (.ref q_NoPlace)))
  (mU:mQ K q_NoPlace)
  (y_NoParting:zAv K zAh "NoParting"=some (some (.ref q_NoParting)))
  (dh:mQ K q_NoParting)
  (y_NoForest:zAv K zAh "NoForest"=some (some (.ref q_NoForest)))
  (jw:mQ K q_NoForest)
  (z_all:zAv K zAh "all"=some none)
  (z_any:zAv K zAh "any"=some none)
  (z_bool:zAv K zAh "bool"=some none)
  (z_int:zAv K zAh "int"=some none)
  (z_isinstance:zAv K zAh "isinstance"=some none)
  (z_len:zAv K zAh "len"=some none)
  (z_list:zAv K zAh "list"=some none)
  (z_max:zAv K zAh "max"=some none)
  (z_min:zAv K zAh "min"=some none)
  (z_range:zAv K zAh "range"=some none)
  (z_set:zAv K zAh "set"=some none)
  (z_sorted:zAv K zAh "sorted"=some none)
  (z_tuple:zAv K zAh "tuple"=some none)
  (z_zip:zAv K zAh "zip"=some none):
  ∃t,Txt K mg t:=by
 obtain⟨f0,d0,F0,a0⟩:=dnr X G h0 ["thing"];obtain⟨f1,d1,F1,a1⟩:=dnr X G h1 ["thing"];obtain⟨f2,d2,F2,a2⟩:=dnr X G h2 ["many","thing"];obtain⟨f3,d3,F3,a3⟩:=dnr X G h3 ["many","thing"];obtain⟨f4,d4,F4,a4⟩:=dnr X G h4 ["things"];obtain⟨f5,d5,F5,a5⟩:=dnr X G h5 ["many","thing"];obtain⟨f6,d6,F6,a6⟩:=dnr X G h6 ["many","thing"];obtain⟨f7,d7,F7,a7⟩:=dnr X G h7 ["many","thing"];obtain⟨f8,d8,F8,a8⟩:=dnr X G h8 ["thing"];obtain⟨f9,d9,F9,a9⟩:=dnr X G h9 ["thing"];obtain⟨f10,d10,F10,a10⟩:=dnr X G h10 ["many","thing"];obtain⟨f11,d11,F11,a11⟩:=dnr X G h11 ["one","other"];obtain⟨f12,d12,F12,a12⟩:=dnr X G h12 ["web"];obtain⟨f13,d13,F13,a13⟩:=dnr X G h13 ["near","start"];obtain⟨f14,d14,F14,a14⟩:=dnr X G h14 ["near","places"];obtain⟨f15,d15,F15,a15⟩:=dnr X G h15 ["web"];obtain⟨f16,d16,F16,a16⟩:=dnr X G h16 ["web","thing"];obtain⟨f17,d17,F17,a17⟩:=dnr X G h17 ["near","end"];obtain⟨f18,d18,F18,a18⟩:=dnr X G h18 ["web","ties"];obtain⟨f19,d19,F19,a19⟩:=dnr X G h19 ["web"];obtain⟨f20,d20,F20,a20⟩:=dnr X G h20 ["web"];obtain⟨f21,d21,F21,a21⟩:=dnr X G h21 ["web"];obtain⟨f22,d22,F22,a22⟩:=dnr X G h22 ["web","ends"];obtain⟨f23,d23,F23,a23⟩:=dnr X G h23 ["web","ends"];obtain⟨f24,d24,F24,a24⟩:=dnr X G h24 ["web","ends"];obtain⟨f25,d25,F25,a25⟩:=dnr X G h25 ["web","ends"];obtain⟨f26,d26,F26,a26⟩:=dnr X G h26 ["web","ends"];obtain⟨f27,d27,F27,a27⟩:=dnr X G h27 ["_law_script","_law_k"];obtain⟨f28,d28,F28,a28⟩:=dnr X G h28 ["_law_cell","_law_k","_law_bound"];obtain⟨f29,d29,F29,a29⟩:=dnr X G h29 ["_law_web"];obtain⟨f30,d30,F30,a30⟩:=dnr X G h30 ["_law_web","_law_places"];obtain⟨f31,d31,F31,a31⟩:=dnr X G h31 ["_law_cell","_law_many","_law_at"];obtain⟨f32,d32,F32,a32⟩:=dnr X G h32 ["_law_web","_law_bar","_law_ends"];obtain⟨f33,d33,F33,a33⟩:=dnr X G h33 ["_law_web","_law_thing"];obtain⟨f34,d34,F34,a34⟩:=dnr X G h34 ["_law_web","_law_thing"];obtain⟨f35,d35,F35,a35⟩:=dnr X G h35 ["_law_ends","_law_parting"];obtain⟨f36,d36,F36,a36⟩:=dnr X G h36 ["_law_web","_law_thing"];obtain⟨f37,d37,F37,a37⟩:=dnr X G h37 ["_law_cell","_law_most"];obtain⟨f38,d38,F38,a38⟩:=dnr X G h38 ["_law_script"]
 exact⟨⟨f0,_,f1,_,f2,_,f3,_,f4,_,f5,_,f6,_,f7,_,f8,_,f9,_,f10,_,f11,_,f12,_,f13,_,f14,_,f15,_,f16,_,f17,_,f18,_,f19,_,f20,_,f21,_,f22,_,f23,_,f24,_,f25,_,f26,_,f27,_,f28,_,f29,_,f30,_,f31,_,f32,_,f33,_,f34,_,f35,_,f36,_,f37,_,f38,_,_,q_FewError,q_NoWeb,q_NoPlace,q_NoParting,q_NoForest⟩,⟨F0,F1,F2,F3,F4,F5,F6,F7,F8,F9,F10,F11,F12,F13,F14,F15,F16,F17,F18,F19,F20,F21,F22,F23,F24,F25,F26,F27,F28,F29,F30,F31,F32,F33,F34,F35,F36,F37,F38,zBi X G jN,⟨_,rfl⟩,zBi X G y_FewError,(by unfold bR;rw[zBi X G y_FewError]),nP,zBi X G y_NoWeb,(by unfold bR;rw[zBi X G y_NoWeb]),tE,zBi X G y_NoPlace,(by unfold bR;rw[zBi X G y_NoPlace]),mU,zBi X G y_NoParting,(by unfold bR;rw[zBi X G y_NoParting]),dh,zBi X G y_NoForest,(by unfold bR;rw[zBi X G y_NoForest]),jw,zAy X G z_all,zAy X G z_any,zAy X G z_bool,zAy X G z_int,zAy X G z_isinstance,zAy X G z_len,zAy X G z_list,zAy X G z_max,zAy X G z_min,zAy X G z_range,zAy X G z_set,zAy X G z_sorted,zAy X G z_tuple,zAy X G z_zip⟩⟩
def aOI{l:zF0}{w:World}{K:zAA}{h:Heap}{mg:Str->Option Value}{fa:Addr}(X:K.In h)(G:h.Ns zAh mg)(hfa:mg "law"=some (.ref fa))(ht:∃t,Txt K mg t):
  ∃fd:zAd,(∀(s:zAG) (v:Value),zFt s fd ⟨[v],[]⟩ [("_law_script",v)])/\∀base:Heap,K.In base->base.Ns zAh mg->bw l.prog w K mg base (CX1 l.prog w) 13 fa fd ["_law_script"] (aFH K):=by
 obtain⟨t,T⟩:=ht;have e:=hfa.symm.trans T.aJU.m;cases e;refine⟨t.zP,λ s v=>?_,λ base _ _=>(aN5 T).imp (aLJ aIi)⟩;obtain⟨oc,od,kV,doc,pm,an,cdv,ct,osl,e,lk,hcd⟩:=T.aJU.F.ex;rw[e];exact .of_eq rfl
def walk{l:zF0}{q:zA7}{loose:List Str}{XP:(Str->Option Value)->Heap->Prop}{YP:World->Heap->Prop}{d:DefRec}{K:Params->zAA}(hn:l.most=some 63)(hdf:d.params.defaults=[])
  (hY:∀(w:World) (h:Heap),YP w h->(K w.params).In h)
  (F:∀(w:World) (mg:Str->Option Value) (fa:Addr) (h:Heap),(K w.params).In h->h.Ns zAh mg->mg d.name=some (.ref fa)->
   ∃fd:zAd,(∀(s:zAG) (u:Value),zFt s fd ⟨[u],[]⟩ [("_law_script",u)])/\∀base:Heap,(K w.params).In base->base.Ns zAh mg->bw l.prog w (K w.params) mg base (CX1 l.prog w) 13 fa fd ["_law_script"] (aFH (K w.params))):
  zIC q loose XP YP l.row.toRowW d [] (λ f vs=>zHT f vs):=
 L2.aJy (n:=63) (k:=13) (x:="_law_script") (CX:=λ w=>CX1 l.prog w) (sp:=λ w=>aFH (K w.params)) hn (by decide) hdf ⟨rfl,by decide,by decide⟩ hY F (λ _ _ a ns hl hO hS=>⟨a,ns,rfl,aMg hO hS,hl,λ _=>rfl⟩) λ _ _ _ _ _ ⟨_,_,_,_,_,_,_,_,_,_,_,_,_,z⟩=>z
end VL.My
open PySem PySem.W PyProof.Rows
set_option maxRecDepth 100000 in
set_option maxHeartbeats 0 in
theorem PySem.Challenge.cw_fewways_k33_partings_and_bars_of_forests_holds : PySem.Challenge.rw_fewways_k33_partings_and_bars_of_forests.Holds := by
 w_on; o_law; k_head; (case hw=>w_witness2)
 k_fill
 refine VL.My.walk (l:=PySem.Challenge.rw_fewways_k33_partings_and_bars_of_forests) rfl rfl (fun w h Y=>PySem.W.kIn_of Y) ?F
 case F =>
  intro w mg fa h KX G hmg
  refine VL.My.aOI KX G hmg ?T
  case T =>
   refine' VL.My.aM4 KX G (VL.enr ?a0 ?l0 ?c0 ?k0) (VL.enr ?a1 ?l1 ?c1 ?k1) (VL.enr ?a2 ?l2 ?c2 ?k2) (VL.enr ?a3 ?l3 ?c3 ?k3) (VL.enr ?a4 ?l4 ?c4 ?k4) (VL.enr ?a5 ?l5 ?c5 ?k5) (VL.enr ?a6 ?l6 ?c6 ?k6) (VL.enr ?a7 ?l7 ?c7 ?k7) (VL.enr ?a8 ?l8 ?c8 ?k8) (VL.enr ?a9 ?l9 ?c9 ?k9) (VL.enr ?a10 ?l10 ?c10 ?k10) (VL.enr ?a11 ?l11 ?c11 ?k11) (VL.enr ?a12 ?l12 ?c12 ?k12) (VL.enr ?a13 ?l13 ?c13 ?k13) (VL.enr ?a14 ?l14 ?c14 ?k14) (VL.enr ?a15 ?l15 ?c15 ?k15) (VL.enr ?a16 ?l16 ?c16 ?k16) (VL.enr ?a17 ?l17 ?c17 ?k17) (VL.enr ?a18 ?l18 ?c18 ?k18) (VL.enr ?a19 ?l19 ?c19 ?k19) (VL.enr ?a20 ?l20 ?c20 ?k20) (VL.enr ?a21 ?l21 ?c21 ?k21) (VL.enr ?a22 ?l22 ?c22 ?k22) (VL.enr ?a23 ?l23 ?c23 ?k23) (VL.enr ?a24 ?l24 ?c24 ?k24) (VL.enr ?a25 ?l25 ?c25 ?k25) (VL.enr ?a26 ?l26 ?c26 ?k26) (VL.enr ?a27 ?l27 ?c27 ?k27) (VL.enr ?a28 ?l28 ?c28 ?k28) (VL.enr ?a29 ?l29 ?c29 ?k29) (VL.enr ?a30 ?l30 ?c30 ?k30) (VL.enr ?a31 ?l31 ?c31 ?k31) (VL.enr ?a32 ?l32 ?c32 ?k32) (VL.enr ?a33 ?l33 ?c33 ?k33) (VL.enr ?a34 ?l34 ?c34 ?k34) (VL.enr ?a35 ?l35 ?c35 ?k35) (VL.enr ?a36 ?l36 ?c36 ?k36) (VL.enr ?a37 ?l37 ?c37 ?k37) (VL.enr ?a38 ?l38 ?c38 ?k38) ?jN ?y_FewError ?nP ?y_NoWeb ?tE ?y_NoPlace ?mU ?y_NoParting ?dh ?y_NoForest ?jw ?z_all ?z_any ?z_bool ?z_int ?z_isinstance ?z_len ?z_list ?z_max ?z_min ?z_range ?z_set ?z_sorted ?z_tuple ?z_zip
   (case y_FewError=>k_is); (case nP=>unfold L2.mQ; k_exc)
   (case y_NoWeb=>k_is); (case tE=>unfold L2.mQ; k_exc)
   (case y_NoPlace=>k_is); (case mU=>unfold L2.mQ; k_exc)
   (case y_NoParting=>k_is); (case dh=>unfold L2.mQ; k_exc)
   (case y_NoForest=>k_is); (case jw=>unfold L2.mQ; k_exc)
   any_goals k_is
