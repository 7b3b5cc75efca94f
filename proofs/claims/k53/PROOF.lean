import PyProof.Rows.All
import KE.KDictOf
import PyProof.DictWalks
import Wide.All
import OpenK.AllK
import Wide.FinOn
import Lean
import PyProof.EqAt
import PyProof.EqKinds
import PyProof.TupleCall
import KE.LcSums
import PySem.Challenge.RW_fewways_k53_orders_or_rings
open Array renaming getElem?_eq_getElem->zAH,length_toList->zAL,getElem?_toList->zAR,toList_append->zA2,toList_push->zBS,getD_eq_getD_getElem?->zBb,getElem?_eq_some_iff->zCA,toList_setIfInBounds->zCY,getD->zC0,toList_reverse->zDj,replicate->zDz,toList_map->zFf,getElem_mem_toList->zGZ,getElem?_eq_none->zGg,toList_filterMap->zGh,toList_replicate->zGi,toList_modify->zHH,append_assoc->zHW,foldl_toList->zHX,forIn_toList->zHY,toList_zip->zHu,toList->zIz
open Array.Perm renaming refl->zGw
open Bool renaming false_ne_true->zAS,false_eq_true->zAZ,and_eq_true->zAa,not_true->zCg,eq_iff_iff->zCu,not_eq_true'->zDB,not_false->zES,and_true->zFZ,or_eq_true->zGF,and_assoc->zG0,and_false->zG1,eq_false_iff->zHv,false_and->zIm,or_true->zJI
open Classical renaming byContradiction->zEB
open False renaming elim->zAU
open ForInStep renaming yield->zBi,done->zHZ
open Int renaming toNat_of_nonneg->zBq,emod_lt_of_pos->zDZ,emod_nonneg->zEG,toNat_natCast->zFg,zero_add->zFm
open LawfulBEq renaming eq_of_beq->zFy
open List renaming getElem?_eq_getElem->zAC,length_map->zAE,map_cons->zAG,getElem?_eq_some_iff->zAI,size_toArray->zAK,mem_cons->zAM,mem_singleton->zAN,mem_cons_of_mem->zAO,replicate->zAP,getElem?_map->zAQ,mem_cons_self->zAT,length_append->zAV,length_take->zA3,length_cons->zA6,mem_append->zA9,pairwise_cons->zAb,append_assoc->zAd,take_append_drop->zAf,getElem?_append_left->zAg,mem_append_right->zAi,getElem?_cons_succ->zAj,map_map->zAk,mem_map->zAl,length_drop->zAp,range->zAr,getElem?_cons_zero->zAs,append_nil->zAx,nodup_append->zAy,take_of_length_le->zBE,getElem?_append_right->zBF,mem_of_getElem?->zBG,nodup_cons->zBH,pairwise_iff_getElem->zBI,length_set->zBL,pairwise_append->zBM,getD_eq_getElem?_getD->zBN,mem_append_left->zBP,mem_of_mem_drop->zBQ,mem_of_mem_take->zBR,lookup_cons->zBT,foldl_cons->zBV,getElem?_take_of_lt->zBW,mem_filter->zBX,zip_cons_cons->zBZ,all_eq_true->zB6,mem_reverse->zB7,getElem?_drop->zBa,map_append->zBc,nil_append->zBd,getElem?_set_ne->zBj,getElem?_set_self->zBm,filterMap_cons->zBp,getElem_take->zBr,length_replicate->zBs,flatten_cons->zCD,getElem_of_mem->zCE,replicate_succ->zCF,mem_range->zCG,length_nil->zCH,mem_filterMap->zCJ,not_mem_nil->zCL,getElem?_replicate->zCN,length_eq_zero_iff->zCO,drop_of_length_le->zCV,flatten_singleton->zCW,getElem_mem->zC1,min?_eq_some_iff->zC2,pairwise_reverse->zC3,drop_eq_getElem_cons->zC7,drop_zero->zC8,getLast_eq_getElem->zCh,length_reverse->zCi,map_congr_left->zCj,reverse_append->zCk,min?->zCm,filter_eq_nil_iff->zCn,length_singleton->zCw,of_mem_zip->zCx,getElem?_inj->zDC,pairwise_map->zDD,getElem_toArray->zDG,getElem?_zip_eq_some->zDK,take_take->zDL,getElem_map->zDM,flatten_append->zDQ,find?_cons->zDW,pairwise_singleton->zDX,take_succ_eq_append_getElem->zD1,erase_eq_eraseIdx_of_idxOf->zD4,reverse_cons->zD5,reverse_perm->zD6,take_zero->zD8,filter_cons->zDk,getLast_mem->zDl,take_append->zDm,take_append_of_le_length->zDn,reverse_reverse->zDp,any_cons->zDy,length_zip->zEF,nodup_iff_pairwise_ne->zEL,drop_drop->zET,length_range->zE0,map_take->zE4,append_inj'->zEb,cons_append->zEc,getElem?_eq_none->zEp,length_filter_le->zEq,map_nil->zEr,mem_iff_getElem?->zEs,getElem?_range->zFO,map_id->zFP,lookup_append->zF0,map_drop->zF1,ext_getElem?->zF9,foldl->zFa,foldl_append->zFb,getElem_drop->zFc,zip_map_left->zFd,any_eq_true->zFn,drop_append_of_le_length->zFo,drop_length->zFp,ext_getElem->zFq,isEmpty_map->zFr,map_snd_zip->zFs,mem_flatMap->zFt,perm_middle->zFu,mem_of_find?_eq_some->zG3,mem_or_eq_of_mem_set->zG4,idxOf_lt_length_iff->zG8,concat_eq_append->zGy,eq_nil_or_concat->zGz,getElem?_reverse->zHA,mem_of_mem_erase->zHB,perm_append_comm->zHC,length_eraseIdx->zHJ,mem_erase_of_ne->zHK,range_eq_range'->zHL,filter_eq_self->zH2,length->zH3,range'->zH4,contains_cons->zHe,find?_eq_none->zHf,getElem?_take->zHg,getElem_range->zHh,mem_replicate->zHi,zip_nil_right->zHj,drop_sublist->zHx,filter_congr->zHy,getElem?_set->zHz,take_sublist->zIA,zip_nil_left->zIB,flatten_nil->zIV,isEmpty_iff->zIW,map_fst_zip->zIX,map_reverse->zIY,nodup_range->zIZ,range'_succ->zI0,take_left'->zIg,zip_append->zIh,drop_left->zIo,nodup_nil->zIp,all_cons->zJA,min?_mem->zJB,all_map->zJR
open List.Pairwise renaming nil->zGN,imp_of_mem->zJQ
open List.Perm renaming refl->zAq,swap->zEC,append_left->zGO,cons->zH1
open Nat renaming le_refl->zAW,lt_of_lt_of_le->zA8,ne_of_lt->zAc,zero_le->zAo,le_trans->zBB,add_sub_cancel_left->zB3,lt_succ_self->zBf,lt_irrefl->zBo,lt_succ_of_lt->zBt,le_of_lt->zCQ,le_of_lt_succ->zCR,min_eq_left->zCc,ne_of_gt->zCz,mod_lt->zDF,succ_pos->zDT,zero_add->zDU,add_zero->zEU,min_self->zEV,le_add_right->zEf,mod_eq_of_lt->zEg,lt_trans->zEx,not_lt_zero->zEy,le_succ->zFR,add_assoc->zF6,lt_trichotomy->zFh,not_lt->zGj,sub_self->zHM,sub_zero->zHN,lt_of_le_of_lt->zIC,add_sub_assoc->zI1,le_max_right->zIi,le_of_not_lt->zIj,le_max_left->zIq,mod_add_mod->zIr
open Nat.succ renaming inj->zI2
open Ne renaming symm->zE1
open Option renaming map_eq_some_iff->zCS,map_some->zCr,bind_some->zDH,getD_none->zHk,map_none->zID,none->zJC
open Option.some renaming inj->zAh
open Or renaming inr->zCT,inl->zDE
open Prod renaming ext->zEz,fst->zFA,snd->zHl
open PyProof.Rows renaming wpS_bind->zAX,wpS_pure->zA5,pendingOf->zAw,SortSt->zBD,IntsAre->zB2,seqObj->zBg,wpS_forRange->zBh,slot_tuple_getitem->zBx,kindOf->zBz,KeyOrd->zCZ,failedOf->zC5,wpS_modify->zDO,wpS_mono->zDP,SortKind->zDY,callWith_type1->zD7,get?_update_seq->zD9,reverseSlice'->zDc,firstMet->zE7,wpS_get->zEe,sortedHeap->zEj,step_dedup->zEk,listUpdate_at->zFC,seqEpoch_at->zFD,envOfC->zFH,AllBare->zFQ,subscriptTail->zGB,wpS_lift->zGE,lt_int->zGH,minRun'->zGV,Subscript_->zH9,subscriptTail_builtinR->zIM,entry_tuple_getitem->zIt,getElem?_mirror_all->zIu,args_tuple_getitem->zJG,boot_range->zJX
open PyProof.Rows.F renaming plain_set_update_loop->zCo,entry_set_update_loop->zEW
open PyProof.Rows.IntsAre renaming int_at->zH5
open PyProof.Rows.IsTup renaming new->zIU
open PyProof.Rows.KeyOrd renaming kle_of_klt->zAe,kle_trans->zAm,kle_refl->zBl,kle_antisymm->zDx,klt_of_klt_of_kle->zGM,kle->zH0
open PyProof.Rows.SortSt renaming mk'->zH8
open PySem renaming wpAny_bind->zAB,Shared->zAF,wpAny_pure->zAJ,sizeLine->zA0,starEach->zA4,Program->zA7,Around->zAt,mainGlobals->zAv,FuncData->zBA,mem_of_lookup->zBJ,compareOp->zBK,bootBuiltins->zBO,wpAny_mono->zB8,wpAny_setState_of->zBk,wpAny_newObj_type->zBw,foldedSetIterable->zCI,wpAny_holding->zCK,sizeLine_eq->zCP,SetTable->zC4,wpAny_call_entry->zCa,codeAny->zCf,binaryOp->zCl,behindInMarks->zCq,backTo->zCs,swapsWith->zCt,Keyword->zCy,codeAny_builtin->zDI,wpAny_passesOwn->zDJ,wpAny_truthy_bool->zDN,sysModules->zD3,holding->zDa,letOwnedTupleGo->zDb,wpAny_callSpecial?_slot->zDd,assignEach->zDs,keywordEach->zDt,wpAny_loadPart_at->zDu,GenState->zDw,wpAny_askSetting->zEJ,wpAny_forIn_list->zEK,NameKind->zEP,attributeBase->zER,cellsFrom->zEY,sliceBounds->zEZ,codeAny_mono->zE6,wpAny_pyIter_tuple->zE8,Builtin->zE9,ofAClassStatement->zEi,wpAny_comprehension_free->zEl,wpAny_pyIter_list->zEm,wpAny_rule->zEn,getItem->zFB,wpAny_standAt->zFE,Result->zFF,assign->zFU,intKind->zFV,wpAny_execs_nil->zFW,wpAny_loadPart'->zFX,wpAny_typeOf->zFY,backToKw->zF3,call_meets->zF4,typeLookup->zF5,codeAny_call_builtin->zF8,newFunctionEnv->zFe,callerA->zFk,newList->zFl,intItems->zFz,pyNext->zGA,wpAny_Call_Name_kw->zGC,wpAny_newList->zGD,BindsTo->zGL,closureFor->zGU,relabel->zGW,slot_list_getitem->zGX,wpAny_assign_Name->zGY,IsPart->zG2,seqIndex_neg->zG7,checkBuiltinCall->zGe,noFill_tuple_add->zGf,excClassObj->zGp,hashByValue->zGq,richCompare->zGr,seqIndex_of->zGs,subscripted->zGt,valueAt->zGu,wpAny_specialOf->zGv,isSubtype_type->zHT,recursionLimit->zHU,wpAny_setField->zHV,pyIter->zHa,wpAny_getItem_list_slice->zHb,call->zHm,evalPart_none->zHp,plainId_quiet->zHq,seq_tuple_add->zHr,standAt->zHs,wpAny_attempt->zHt,richCompare_meets_room->zIL,wpAny_getItem_list_neg->zIN,Arguments->zIO,Paired->zI4,PassesOwn->zI5,builtinLookup_eq_fast->zI8,concat_meets->zI9,exec_Assign_Name_used->zIa,isSubtype->zIb,lastMarks->zIc,setSearch->zId,tupleKind->zIe,wpAny_eqIsQuiet_tuple->zIf,boot_len->zIl,intItems_at->zIv,wpAny_field->zIw,wpAny_isSubtype_exc->zIx,wpAny_of_eq->zIy,Within->zJF,numAt_eq->zJH,argBest_lt->zJW,builtinsNs->zJY,searchCouldBeSeen->zJZ,setsByText->zJ0,typeIs_int->zJ1,wpAny_Name->zJ2,wpAny_pyIter_slot->zJ3,wpAny_sequenceKey->zJ4,wpAny_truthy_dict->zJ5
open PySem.Around renaming under_plainId->zDA
open PySem.AutoSeq1 renaming sub_tuple_tuple->zFw,list_insert_list_int_val_1->zJD
open PySem.Builtin.Frozenset renaming addrOf->zIP,newClass->zIQ,sizeOf->zIR,slot0->zIS,updateFrom->zIT
open PySem.Builtin.List renaming listFitsIndex->zDe,listTooLong->zDv,listUpdate->zEE,listLengthHint->zFL
open PySem.Builtin.Range renaming rangeSize->zEA,rangeFitsLong->zFI,small->zJJ
open PySem.Builtin.Slice renaming slicePlaces->zCp,sliceAdjust->zDh,sliceApplied->zFM,sliceFields->zJK,slicePartIndex->zJL
open PySem.Builtin.Tuple renaming tupleExact->zCv,tupleCompareSizes->zEh,tupleItemsOf->zFN,tupleHashOf->zJM,tupleIsExact->zJN
open PySem.Calls renaming Name_function_global->zGG,evalArgs_plain->zGx
open PySem.CmpOf renaming ints_lt->zIn
open PySem.Code renaming quiet_builtin->zHc
open PySem.F renaming plainAttrs_list->zCd,called_set->zDV,args_tuple_add_2->zEQ,entry_tuple_add->zEX,slot_tuple_add->zE2,slot_list_append->zEa,typeOf_object_class->zFJ,slot_list_insert->zGI,slot_list_remove->zGJ,type_list_append->zGK,plain_list_iadd->zGP,slot_list_index->zGQ,plain_set_new->zG9,slot_set_iter->zGa,slot_gs_get->zHI,sub_tuple_frozenset->zHd,sub_list_frozenset->zHw,slot_int_rmul->zJO,sub_tuple_set->zJP
open PySem.Heap renaming get?_push_of_some->zAD,get?_push_size->zAY,lt_size->zA1,size_push->zBe,get?_update_ne->zCU,SameBut->zEO,get?_update_self->zEo,get?_update_other->zGl
open PySem.Heap.IsSliceOf renaming new->zFx
open PySem.Heap.SameBut renaming update->zC6
open PySem.MeetsSeq renaming list_remove->zJE
open PySem.MeetsSeq.EqGives renaming int->zHD
open PySem.NameKind renaming free->zCX,cell->zDf
open PySem.Obj renaming mapSeq->zBn,putSet->zI3,mapFields->zJS
open PySem.Paired renaming length->zG5
open PySem.SeqAt renaming EqAt->zDR
open PySem.SeqAt.EqAt renaming int_int->zEu,of_refs->zEv,same->zF2,int_str->zGc,str_int->zGd
open PySem.SeqAt.RcAt renaming lists_lengths->zFj,tuples->zGk,lists->zGn
open PySem.SetTable renaming runEnd->zAn,below->zAu,leap->zAz,bits->zBC,turns->zBU,insertAt->zB5,Probe->zCM,grown->zD0,layClean->zEM,toList_insertAt->zEN,has->zE5,sizeAbove->zFG,insertAt_perm->zGS,advance->zHQ,gaveWay->zHR,relaid->zH7,fresh->zHn,fill->zIG,fits->zIH,laid->zII,slot->zIJ
open PySem.SetTable.below renaming go->zDo
open PySem.SetTable.layClean renaming free->zB1
open PySem.SetTable.probe renaming go->zBv
open PySem.Str renaming ofString->zFv
open PySem.Value renaming ref->zB9,type->zBy,none->zCC,int->zED,builtin->zE3,bool->zEw,str->zGo,notImplemented->zHG,isStrOf->zIs,float->zJU,isInt->zJV
open PySem.W renaming Frag->zAA,mg_none_of->zBY,nsIn->zB0,kia_one->zB4,findIn->zBu,emptyDict->zCB,instObj->zC9,fnOf->zCb,keepIn->zD2,looks_findIn->zDg,mg_of->zDi,hideAll->zDq,hideAll_get->zDr,codeIn->zEH,kitOne->zEI,kas_rev->zEd,lookIn->zEt,Looks->zFK,kitx_dict->zFS,methodObj->zFT,plainGet->zF7,OpenLaw->zFi,cellsFrom_some->zG6,KasT->zGb,plainGet_of->zGm,kitx_tuple->zHE,of_hideAll->zHF,kas_place->zHO,kitx_list->zHP,kat_kind->zH6,InstAt->zIE,KdlSrc->zIF,WalkO->zI6,excIn->zI7,isFn->zIk
open PySem.W.Looks renaming now->zGR,ld->zJT
open PySem.Walks renaming tuple->zHS,list->zHo
open StateT renaming run_pure->zIK
open Sum renaming inl->zCe,inr->zGT
open True renaming intro->zDS
noncomputable section
namespace PySem.W.Fast
def tw16090939577955488906:=0
def tw8809855073283684938:=0
def tw18002856763433993674:=0
def tw335132948203206186:=0
def tw8653561185118561098:=0
def tw13172197503537971018:=0
def tw8397018125108894186:=0
def tw1630632941967049514:=0
def tw6645845696033786891:=0
def tw5464349399943404843:=0
def tw11212764452576881387:=0
def tw13955191645348708395:=0
def tw16797282332171893451:=0
def tw17776496037175787704:=0
def tw3960093498302223864:=0
def tw5894748960857616504:=0
def tw8087041477477368985:=0
def tw15972910441465685689:=0
def tw18237210168266017241:=0
def tw3607366463535658553:=0
def tw7232166182932297561:=0
def tw10086655581134820089:=0
def tw1694021163261077017:=0
def tw1936565427451184089:=0
def tw5882906159505666009:=0
def tw2203462674706549518:=0
def tw12555842602806770958:=0
def tw6842302145518609486:=0
def tw10568441480786165327:=0
def tw12003487272451391759:=0
def tw16403477604287362031:=0
def tw5187038325774223599:=0
def tw16463048784675661148:=0
def tw5781565181486739228:=0
def tw15051512808665315548:=0
def tw2907604934419461596:=0
def tw1225727553506632700:=0
def tw6477907301662381340:=0
def tw18416149988309350332:=0
def tw16649720401225213756:=0
def tw5146528334732279933:=0
def tw7336345020826552701:=0
def tw11219844087630223421:=0
def tw1074894370341875037:=0
def tw16800109562543707357:=0
def tw11731046108259881853:=0
def tw13997163361304087346:=0
def tw442518817808556722:=0
def tw7395732910113777682:=0
def tw15041312587474451090:=0
def tw6920683834033498194:=0
def tw15006398573094380115:=0
def tw4522299017319604979:=0
def tw8980616228514465203:=0
def tw719219241895321088:=0
def tw7324669025240187104:=0
def tw9072049959754239872:=0
def tw8724534101550625472:=0
def tw2952727551153069792:=0
def tw7893238857381620097:=0
def tw5828229671898631201:=0
def tw15374381932405132929:=0
def tw14769927571888408289:=0
def tw8659031833288405537:=0
def tw1786155335987232673:=0
def tw9683192835754919510:=0
def tw17825471934938390774:=0
def tw2906476439124107222:=0
def tw682012425325329462:=0
def tw5402992760588586038:=0
def tw7234108388959011190:=0
def tw3849672349775249942:=0
def tw13406982806145973782:=0
def tw16961762875044520502:=0
def tw7695726986152710007:=0
def tw4618958362291086884:=0
def tw3335656289358670980:=0
def tw6629483118836413380:=0
def tw13434626503434729412:=0
def tw17062313700480854404:=0
def tw15122178493755214756:=0
def tw18341436603462200196:=0
def tw11468457685819400165:=0
def tw7756643866128714245:=0
def tw5325999432488684410:=0
def tw511797508917729978:=0
def tw17365398931597374586:=0
def tw16983608602841447482:=0
def tw14606880743697393498:=0
def tw6541952670721145146:=0
def tw16234206015724459098:=0
def tw14654829788251165434:=0
def tw4861651413749442746:=0
def tw8208670191051459130:=0
def tw12758441687824817947:=0
def tw8059308712367446139:=0
def tw2811643712838680091:=0
def tw11433542005293055515:=0
def tw7832248292362356347:=0
def tw7971432856082787304:=0
def tw15302372371266756648:=0
def tw14407243881568263336:=0
def tw10522419735047915113:=0
def tw15925486250351154665:=0
def tw227068650396192777:=0
def tw8029437144709747817:=0
def tw8807391559436898857:=0
def tw890050352745092361:=0
def tw11050333825445825769:=0
def tw4180167217006635838:=0
def tw15442167646396943038:=0
def tw16237491888350613726:=0
def tw5670796627164010494:=0
def tw12737170469084747263:=0
def tw5448090607174824031:=0
def tw13338668362162634783:=0
def tw14758220347005578367:=0
def tw1031335191353466783:=0
def tw16918936375135464799:=0
def tw15613041329956039679:=0
def tw2263330799275648447:=0
def tw1322201089479885183:=0
def tw5819339887455700511:=0
def tw13614925542797309644:=0
def tw17347509449164923404:=0
def tw15918892325924976940:=0
def tw11744050655379093804:=0
def tw6728857304918566284:=0
def tw5878101858870208428:=0
def tw5313865614787571052:=0
def tw11583170291973249709:=0
def tw4530134920020207181:=0
def tw4899656972241111085:=0
def tw7669734671466098829:=0
def tw431645217176390050:=0
def tw3816307950086399426:=0
def tw15116736541426333506:=0
def tw16086349345967403938:=0
def tw14180062889579053986:=0
def tw7147715563000060131:=0
def tw6483468647231886243:=0
def tw3370827940449635024:=0
def tw10520480581367255152:=0
def tw4243024166698478608:=0
def tw14589760948500659664:=0
def tw7821027595104095729:=0
def tw17809916923832410033:=0
def tw9166900055181215569:=0
def tw2013348436923267793:=0
def tw1198906966222449073:=0
def tw9299562634008547857:=0
def tw615867858741830822:=0
def tw15725179740131238470:=0
def tw7518300319988887558:=0
def tw69223821583274375:=0
def tw15825977311569881447:=0
def tw9739496229899432679:=0
def tw8817084117562835495:=0
def tw1106613613962405287:=0
def tw4760579909530120468:=0
def tw9809517073777941172:=0
def tw1764451335010471476:=0
def tw7020348079422487476:=0
def tw4814949338774993268:=0
def tw5444705013104191701:=0
def tw428480331946686965:=0
def tw14491373868947804917:=0
def tw14197211141384393333:=0
def tw12490107457311565973:=0
def tw15220192593369620341:=0
def tw6324122356547505685:=0
def tw17253138872401325922:=0
def tw14143871589471419577:=0
end PySem.W.Fast
abbrev gV:=List (Int×Int)
abbrev hZ:=List (List Int)
abbrev hV:=List (PySem.Addr×PySem.Obj)
abbrev iX:=Array (Int×PySem.Value)
abbrev kQ:=List (PySem.Value×List Int)
abbrev kX:=List (Option Nat)
set_option bootstrap.genMatcherCode false
set_option compiler.extract_closed false
set_option Elab.async false
set_option linter.all false
set_option maxRecDepth 100000
namespace L2
open PySem PySem.Spec PyProof.Rows
abbrev Key:=Sum Int Str
def w6:Key->Value->Bool
 | .inl k,v=>zJV k v
 | .inr x,v=>zIs x v
def aMw(w:World):Key->Int
 | .inl k=>hashInt k
 | .inr x=>hashStr w x
def bZ:∀{k:Key} {v:Value},w6 k v=true->(∃i t,k=zCe i/\v=zED i t)\/(∃x t,k=zGT x/\v=zGo x t)
 | .inl i,v,h=>by
  obtain⟨t,e⟩:=Value.isInt_shape (k:=i) (v:=v) h;exact .inl ⟨i,t,rfl,e⟩
 | .inr x,v,h=>by
  obtain⟨t,e⟩:=Value.isStrOf_shape (x:=x) (v:=v) h;exact .inr ⟨x,t,rfl,e⟩
def aDm(i:Int)(t:Tok):w6 (.inl i) (.int i t)=true:=by simp[w6,zJV]
def aDl(x:Str)(t:Tok):w6 (.inr x) (.str x t)=true:=by simp[w6,zIs]
def aLC(a b:Int):decide ((zCe a:Key)=zCe b)=(a==b):=by
 by_cases e:a=b
 .subst e;simp
 .have h:¬(zCe a:Key)=zCe b:=λ q=>e (Sum.inl.inj q)
  rw[decide_eq_false h];exact(beq_eq_false_iff_ne.mpr e).symm
def aKz(a b:Str):decide ((zGT a:Key)=zGT b)=decide (a=b):=by
 by_cases e:a=b
 .subst e;simp
 .have h:¬(zGT a:Key)=zGT b:=λ q=>e (Sum.inr.inj q)
  rw[decide_eq_false h,decide_eq_false e]
def aLB(a:Int)(b:Str):decide ((zCe a:Key)=zGT b)=false:=decide_eq_false (λ q=>nomatch q)
def aLA(a:Str)(b:Int):decide ((zGT a:Key)=zCe b)=false:=decide_eq_false (λ q=>nomatch q)
def cC(prog:zA7)(w:World):PySem.KeyKind prog w Key where
 is:=w6
 hash:=aMw w
 inj:=λ v a b ha hb=>by
  rcases bZ ha with ⟨i,t,rfl,rfl⟩|⟨x,t,rfl,rfl⟩
  .rcases bZ hb with ⟨j,u,rfl,e⟩|⟨y,u,rfl,e⟩
   .injection e with e1 _;rw[e1]
   .exact nomatch e
  .rcases bZ hb with ⟨j,u,rfl,e⟩|⟨y,u,rfl,e⟩
   .exact nomatch e
   .injection e with e1 _;rw[e1]
 byValue:=λ k v h=>by
  rcases bZ h with ⟨i,t,rfl,rfl⟩|⟨x,t,rfl,rfl⟩<;>rfl
 pyHash:=λ hv h=>by
  rcases bZ hv with ⟨i,t,rfl,rfl⟩|⟨x,t,rfl,rfl⟩
  .exact wpAny_pyHash_int h
  .exact wpAny_pyHash_str h
 eqBool:=λ hu hv h=>by
  rcases bZ hu with ⟨i,t,rfl,rfl⟩|⟨x,t,rfl,rfl⟩
  .rcases bZ hv with ⟨j,u,rfl,rfl⟩|⟨y,u,rfl,rfl⟩
   .rw[aLC]at h;exact wpAny_eqBool_int h
   .rw[aLB]at h;exact zGc i t y u _ _ _ _ h
  .rcases bZ hv with ⟨j,u,rfl,rfl⟩|⟨y,u,rfl,rfl⟩
   .rw[aLA]at h;exact zGd x t j u _ _ _ _ h
   .rw[aKz]at h;exact wpAny_eqBool_str h
 «strs»:=λ k x t v h=>by
  rcases bZ h with ⟨i,u,rfl,e⟩|⟨y,u,rfl,e⟩
  .exact nomatch e
  .injection e with e1 _
   subst e1;cases v<;>rfl
def aAb(prog:zA7)(w:World)(i:Int)(t:Tok):(cC prog w).is (.inl i) (.int i t)=true:=aDm i t
def aAa(prog:zA7)(w:World)(x:Str)(t:Tok):(cC prog w).is (.inr x) (.str x t)=true:=aDl x t
inductive V where
 |non|bl (b:Bool)|int (i:Int)|str (x:Str)|byt (b:Array UInt8)|flt (b:UInt64)|ref (a:Addr)|ty (n:String)
 deriving DecidableEq
def RelV:V->Value->Prop
 | .non,u=>u=zCC
 | .bl b,u=>u=zEw b
 | .int i,u=>∃t,u=zED i t
 | .str x,u=>∃t,u=zGo x t
 | .byt b,u=>∃t,u=Value.bytes b t
 | .flt b,u=>∃t,u=zJU b t
 | .ref a,u=>u=zB9 a
 | .ty n,u=>u=zBy n
abbrev Vals:List V->List Value->Prop:=zI4 RelV
theorem Vals.length(r:Vals xs us):xs.length=us.length:=zG5 r
theorem Vals.get:∀{xs:List V} {us:List Value} {i:Nat} {x:V},Vals xs us->xs[i]? =some x->∃u,us[i]? =some u/\RelV x u
 |_,_,_,_,.nil,e=>by simp at e
 |_,_,0,_,.cons r _,e=>by simp at e;subst e;exact⟨_,rfl,r⟩
 |_,_,i+1,x,.cons _ t,e=>by
  obtain⟨u,h1,h2⟩:=Vals.get (i:=i) (x:=x) t (by simpa using e);exact⟨u,by simpa using h1,h2⟩
theorem Vals.set(r:RelV x u):∀{xs:List V} {us:List Value} (i:Nat),Vals xs us->Vals (xs.set i x) (us.set i u)
 |_,_,_,.nil=>.nil
 |_,_,0,.cons _ t=>.cons r t
 |_,_,i+1,.cons q t=>.cons q (Vals.set r i t)
theorem Vals.append:∀{xs ys:List V} {us ws:List Value},Vals xs us->Vals ys ws->Vals (xs++ys) (us++ws)
 |_,_,_,_,.nil,s=>s
 |_,_,_,_,.cons r t,s=>.cons r (Vals.append t s)
theorem Vals.take:∀{xs:List V} {us:List Value} (n:Nat),Vals xs us->Vals (xs.take n) (us.take n)
 |_,_,0,_=>.nil
 |_,_,_+1,.nil=>.nil
 |_,_,n+1,.cons r t=>.cons r (Vals.take n t)
theorem Vals.drop:∀{xs:List V} {us:List Value} (n:Nat),Vals xs us->Vals (xs.drop n) (us.drop n)
 |_,_,0,r=>r
 |_,_,_+1,.nil=>.nil
 |_,_,n+1,.cons _ t=>Vals.drop n t
def tH:Option V->Option Value->Prop
 |some v,some u=>RelV v u
 |none,none=>True
 |_,_=>False
def KV{κ:Type}:List (κ×V)->List (κ×Value)->Prop:=zI4 λ(p:κ×V) (q:κ×Value)=>p.1=q.1/\RelV p.2 q.2
def kV:Key->V
 | .inl i=>.int i
 | .inr x=>.str x
inductive HO where
 |lst (xs:List V)
 |tup (xs:List V)
 |dK (kvs:List (Key×V))|dT (kvs:List (List Key×V))
 |set (S:Int->Bool) (n:Nat)
 |ins (C dx:Addr) (fs:List (Str×V))
 |own (x:Addr)
 |xd (fs:List (Str×V))
 |met (f x:Addr)
 |rng (lo hi:Int)
 |frz (o:Obj) (u:HO)
 |tbl (ps:Array Value)
 |ext (φ:Heap->Prop)
abbrev Hp:=Addr->Option HO
def upd(H:Hp)(a:Addr)(o:HO):Hp:=λ b=>if b=a then some o else H b
def aa:upd H a o a=some o:=by unfold upd;rw[if_pos rfl]
def bF(h:b≠a):upd H a o b=H b:=by unfold upd;rw[if_neg h]
def fM{H:Hp}{a b:Addr}{o:HO}(h:H a=some o)(h':H b=none):a≠b:=by
 intro e;subst e;rw[h]at h';cases h'
def NoD(h:Heap)(a:Addr):Prop:=∀o,h.get? a=some o->o.dict=none
theorem NoD.push(h:Heap){o:Obj}(hl:o.isFreed=false:=by rfl)(hd:o.dict=none:=by rfl):NoD (h.push o) h.objs.size:=λ u e=>by rw[zAY _ hl]at e;cases e;exact hd
def NoD.keep{h h':Heap}{a:Addr}{o:Obj}(n:NoD h a)(e:h.get? a=some o)(e':h'.get? a=some o):NoD h' a:=λ u q=>by rw[e']at q;cases q;exact n o e
section
variable(P:zA7)(w:World)
def bu(H:Hp)(h:Heap)(a:Addr):HO->Prop
 | .lst xs=>xs.length<=zA0/\∃(its:List Value) (n:Nat),Vals xs its/\h.get? a=some {cls:=.type "list",data:=.seq its.toArray n}
 | .tup xs=>(xs.length<=zA0/\NoD h a)/\∃its:List Value,Vals xs its/\IsTup h a its.toArray
 | .dK kvs=>kvs.length<=zA0/\(a==zD3)=false/\∃vs,KV kvs vs/\h.DictOf (cC P w) a vs
 | .dT kvs=>kvs.length<=zA0/\(a==zD3)=false/\∃xs:List (List Key×Addr×Value),
   zI4 (λ(p:List Key×V) (q:List Key×Addr×Value)=>p.1=q.1/\H q.2.1=some (.tup (p.1.map kV))/\RelV p.2 q.2.2) kvs xs/\
   ∃o es ep,h.get? a=some o/\o.ExactDict/\o.data= .dict es ep/\es.toList=xs.map (entryOfKey (zIe (cC P w)))/\(xs.map (·.1)).Nodup
 | .set S n=>h.SetOf (zFV P w) a S n
 | .ins C dx fs=>H dx=some (.own a)/\fs.length<=1000/\dx≠a/\h.get? a=some (zC9 C dx)/\
   ∃mA,h.Ns1 dx mA/\(∀f,tH (fs.lookup f) (mA f))/\zJF mA (fs.map (·.1))
 | .own _=>∃o,h.get? a=some o
 | .xd fs=>∃mA,h.Ns1 a mA/\∀f,tH (fs.lookup f) (mA f)
 | .rng lo hi=>∃t u v,h.get? a=some {cls:=.type "range",data:=.fields #[.int lo t,.int hi u,.int 1 v]}
 | .frz o u=>h.get? a=some o/\bu H h a u
 | .tbl ps=>h.get? a=some {cls:=.none,data:=.fields ps}
 | .met f x=>h.get? a=some (zFT (.ref f) (.ref x))
 | .ext φ=>φ h/\(∃o,h.get? a=some o)/\∀h1 h2:Heap,φ h1->(∀o,h1.get? a=some o->h2.get? a=some o)->φ h2
def HOk(H:Hp)(h:Heap):Prop:=∀a o,H a=some o->bu P w H h a o
end
section
variable{P:zA7}{w:World}{H H':Hp}{h h':Heap}{a:Addr}{o:HO}
theorem bu.lt(x:bu P w H h a o):a<h.objs.size:=by
 cases o with
 |lst xs=>obtain⟨_,_,_,_,e⟩:=x;exact zA1 e
 |tup xs=>obtain⟨_,_,_,p⟩:=x;exact p.lt
 |dK kvs=>obtain⟨_,_,_,_,o,_,_,e,_⟩:=x;exact zA1 e
 |dT kvs=>obtain⟨_,_,_,_,o,_,_,e,_⟩:=x;exact zA1 e
 |set S n=>obtain⟨o,_,_,_,e,_⟩:=x;exact zA1 e
 |ins C dx fs=>obtain⟨_,_,_,e,_⟩:=x;exact zA1 e
 |own y=>obtain⟨_,e⟩:=x;exact zA1 e
 |xd fs=>obtain⟨_,⟨_,_,_,e,_⟩,_⟩:=x;exact zA1 e
 |rng lo hi=>obtain⟨_,_,_,e⟩:=x;exact zA1 e
 |frz ob u=>obtain⟨e,_⟩:=x;exact zA1 e
 |tbl ps=>exact zA1 (show h.get? a=some _ from x)
 |met f y=>exact zA1 (show h.get? a=some _ from x)
 |ext φ=>obtain⟨_,⟨_,e⟩,_⟩:=x;exact zA1 e
theorem Paired.mapP:∀{l₁:List α} {l₂:List β},zI4 F l₁ l₂->(∀a b,F a b->G a b)->zI4 G l₁ l₂
 |_,_,.nil,_=>.nil
 |_,_,.cons r t,f=>.cons (f _ _ r) (Paired.mapP t f)
def bu.stay(x:bu P w H h a o)(k:∀b u,(b=a\/H b=some (.own a))->h.get? b=some u->h'.get? b=some u)
  (ho:∀b,H b=some (.own a)->H' b=some (.own a))(ht:∀b xs,H b=some (.tup xs)->H' b=some (.tup xs)):bu P w H' h' a o:=by
 induction o with
 |lst xs=>obtain⟨z,its,n,r,e⟩:=x;exact⟨z,its,n,r,k _ _ (.inl rfl) e⟩
 |tup xs=>obtain⟨z,its,r,ob,e,c⟩:=x;exact⟨⟨z.1,z.2.keep e (k _ _ (.inl rfl) e)⟩,its,r,ob,k _ _ (.inl rfl) e,c⟩
 |dK kvs=>obtain⟨z,y,vs,r,ob,es,ep,e,c⟩:=x;exact⟨z,y,vs,r,ob,es,ep,k _ _ (.inl rfl) e,c⟩
 |dT kvs=>
  obtain⟨z,y,xs,r,ob,es,ep,e,c⟩:=x;exact⟨z,y,xs,Paired.mapP r λ p q z=>⟨z.1,ht _ _ z.2.1,z.2.2⟩,ob,es,ep,k _ _ (.inl rfl) e,c⟩
 |set S n=>obtain⟨ob,es,ep,t,e,c⟩:=x;exact⟨ob,es,ep,t,k _ _ (.inl rfl) e,c⟩
 |ins C dx fs=>
  obtain⟨d,z,ne,e,mA,⟨od,es,ep,e2,c⟩,r⟩:=x;exact⟨ho _ d,z,ne,k _ _ (.inl rfl) e,mA,⟨od,es,ep,k _ _ (.inr d) e2,c⟩,r⟩
 |own y=>obtain⟨ob,e⟩:=x;exact⟨ob,k _ _ (.inl rfl) e⟩
 |xd fs=>obtain⟨mA,⟨od,es,ep,e,c⟩,r⟩:=x;exact⟨mA,⟨od,es,ep,k _ _ (.inl rfl) e,c⟩,r⟩
 |rng lo hi=>obtain⟨t,u,v,e⟩:=x;exact⟨t,u,v,k _ _ (.inl rfl) e⟩
 |frz ob u ih=>obtain⟨e,q⟩:=x;exact⟨k _ _ (.inl rfl) e,ih q⟩
 |tbl ps=>
  have e:h.get? a=some {cls:=.none,data:=.fields ps}:=x;show h'.get? a=some {cls:=.none,data:=.fields ps};exact k a _ (.inl rfl) e
 |met f y=>
  have e:h.get? a=some (zFT (.ref f) (.ref y)):=x;show h'.get? a=some (zFT (.ref f) (.ref y));exact k a _ (.inl rfl) e
 |ext φ=>obtain⟨p,⟨o,e⟩,st⟩:=x;exact⟨st _ _ p λ o q=>k _ _ (.inl rfl) q,⟨o,k _ _ (.inl rfl) e⟩,st⟩
theorem HOk.lt(x:HOk P w H h)(e:H a=some o):a<h.objs.size:=(x a o e).lt
def HOk.fresh(x:HOk P w H h)(e:h.objs.size<=a):H a=none:=by
 cases q:H a with
 |none=>rfl
 |some u=>exact absurd (zA8 (x.lt q) e) (zBo _)
def HOk.kept(x:HOk P w H h)(k:∀b u,h.get? b=some u->h'.get? b=some u):HOk P w H h':=λ a o e=>
 (x a o e).stay (λ b u _ q=>k b u q) (λ _ q=>q) λ _ _ q=>q
def HOk.laid(x:HOk P w H h)(k:∀b u,h.get? b=some u->h'.get? b=some u)(hp:h.objs.size<=a)(new:bu P w (upd H a o) h' a o):HOk P w (upd H a o) h':=λ b u e=>by
 have hn:=x.fresh hp;by_cases hb:b=a
 .subst hb;rw[aa]at e;cases e;exact new
 .rw[bF hb]at e
  exact(x b u e).stay (λ c v _ q=>k c v q) (λ c q=>by rw[bF (fM q hn)];exact q) λ c xs q=>by rw[bF (fM q hn)];exact q
end
def Rd(H:Hp)(a:Addr)(u:HO):Prop:=H a=some u\/∃o,H a=some (.frz o u)
def Rd.ok(r:Rd H a u)(x:HOk P w H h):bu P w H h a u:=by
 rcases r with r|⟨o,r⟩
 .exact x a u r
 .obtain⟨_,q⟩:=x a _ r
  exact q
def Mut:Option HO->Prop
 |some (.lst _)=>True
 |some (.dK _)=>True
 |some (.dT _)=>True
 |some (.set _ _)=>True
 |some (.ins _ _ _)=>True
 |some (.ext _)=>True
 |_=>False
section
variable{P:zA7}{w:World}{H:Hp}{h h':Heap}{x e:Addr}{o':HO}
def HOk.write(ok:HOk P w H h)(mu:Mut (H x))(he:e=x\/H e=some (.own x))(k:∀b u,b≠e->h.get? b=some u->h'.get? b=some u)(heo:∃u,h'.get? e=some u)
  (new:bu P w (upd H x o') h' x o'):HOk P w (upd H x o') h':=λ b u q=>by
 have nown:∀c y,H c=some (.own y)->c≠x:=λ c y r z=>by subst z;rw[r]at mu;exact mu
 have ntup:∀c xs,H c=some (.tup xs)->c≠x:=λ c xs r z=>by subst z;rw[r]at mu;exact mu
 by_cases hb:b=x
 .subst hb;rw[aa]at q;cases q;exact new
 .rw[bF hb]at q
  by_cases hbe:b=e
  .have q':H b=some (.own x):=by
    rcases he with z|z
    .exact absurd (hbe.trans z) hb
    .rw[hbe];exact z
   rw[q]at q';cases q';obtain⟨v,hv⟩:=heo;exact⟨v,by rw[hbe];exact hv⟩
  .refine(ok b u q).stay (λ c v hc r=>k c v ?_ r) (λ c r=>by rw[bF (nown c b r)];exact r) λ c xs r=>by rw[bF (ntup c xs r)];exact r
   rcases hc with rfl|hc
   .exact hbe
   .rintro rfl
    rcases he with z|z
    .exact nown c b hc z
    .rw[hc]at z;cases z;exact hb rfl
end
structure Un(fs ex:List Addr)(H H':Hp)(h h':Heap):Prop where
 keep:∀b o,h.get? b=some o->H b=none->b∉fs->b∉ex->h'.get? b=some o
 slot:∀b o,h.get? b=some o->H b=none->b∈fs->b∉ex->∃sl,h'.get? b=some {o with slots:=sl}
 free:∀b o,h.get? b=some o->H b=none->b∉ex->H' b=none
 there:∀b o,h.get? b=some o->b∉ex->∃o',h'.get? b=some o'
 tups:∀b xs,H b=some (.tup xs)->H' b=some (.tup xs)
 frzs:∀b o u,H b=some (.frz o u)->H' b=some (.frz o u)
 tbls:∀b ps,H b=some (.tbl ps)->∃more,H' b=some (.tbl (ps++more))
section
variable{fs ex:List Addr}{H H1:Hp}{h h1 h':Heap}{a x e:Addr}{o:HO}
def Un.any(u:Un fs ex H H1 h h1)(q:h.get? b=some ob)(n:H b=none)(hx:b∉ex):∃sl,h1.get? b=some {ob with slots:=sl}:=by
 by_cases hb:b∈fs
 .exact u.slot b ob q n hb hx
 .exact⟨ob.slots,u.keep b ob q n hb hx⟩
def Un.kept(k:∀b u,h.get? b=some u->h'.get? b=some u):Un fs ex H H h h':=
 ⟨λ b ob q _ _ _=>k b ob q,λ b ob q _ _ _=>⟨ob.slots,k b ob q⟩,λ _ _ _ n _=>n,λ b ob q _=>⟨ob,k b ob q⟩,λ _ _ q=>q,λ _ _ _ q=>q,λ _ ps q=>⟨#[],by rw[q];simp⟩⟩
def Un.refl:Un fs ex H H h h:=Un.kept λ _ _ q=>q
def Un.laid(k:∀b u,h.get? b=some u->h'.get? b=some u)(hp:h.objs.size<=a)(hn:H a=none):Un fs ex H (upd H a o) h h' where
 keep:=λ b u q _ _ _=>k b u q
 slot:=λ b u q _ _ _=>⟨u.slots,k b u q⟩
 free:=λ b u q n _=>by rw[bF (zAc (zA8 (zA1 q) hp))];exact n
 there:=λ b u q _=>⟨u,k b u q⟩
 tups:=λ b xs q=>by rw[bF (fM q hn)];exact q
 frzs:=λ b u xs q=>by rw[bF (fM q hn)];exact q
 tbls:=λ b ps q=>⟨#[],by rw[bF (fM q hn),q];simp⟩
def Un.write(mu:Mut (H x))(he:e=x\/H e=some (.own x))(k:∀b u,b≠e->h.get? b=some u->h'.get? b=some u)(heo:∃u,h'.get? e=some u):Un fs ex H (upd H x o) h h':=by
 have hx:∀b,H b=none->b≠x:=λ b n z=>by subst z;rw[n]at mu;exact mu
 have hb:∀b,H b=none->b≠e:=λ b n z=>by
  subst z;rcases he with r|r
  .exact hx b n r
  .rw[n]at r;cases r
 have hm:∀b u,H b=some u->¬Mut (some u)->b≠x:=λ b u q nm z=>by subst z;rw[q]at mu;exact nm mu
 refine⟨λ b u q n _ _=>k b u (hb b n) q,λ b u q n _ _=>⟨u.slots,k b u (hb b n) q⟩,λ b u q n _=>by rw[bF (hx b n)];exact n,λ b u q _=>?_,
  λ b xs q=>by rw[bF (hm b _ q λ z=>z)];exact q,λ b u xs q=>by rw[bF (hm b _ q λ z=>z)];exact q,λ b ps q=>⟨#[],by rw[bF (hm b _ q λ z=>z),q];simp⟩⟩
 by_cases hbe:b=e
 .subst hbe;exact heo
 .exact⟨u,k b u hbe q⟩
end
def trk(h:Heap)(H:Hp):List Addr:=(zAr h.objs.size).filter λ a=>(H a).isSome
def zP(h:Heap)(H:Hp):Heap:=zDq h (trk h H)
def aDs(h:Heap)(H:Hp):(zP h H).objs.size=h.objs.size:=PySem.W.hideAll_size _ _
def aFz(e:h.get? b=some o)(n:H b=none):(zP h H).get? b=some o:=
 zDr _ e λ hm=>by
  have q:(H b).isSome=true:=(zBX.mp hm).2;rw[n]at q;simp at q
def aIG(e:(zP h H).get? b=some o):h.get? b=some o/\H b=none:=by
 have e':h.get? b=some o:=zHF (trk h H) e;refine⟨e',?_⟩;cases q:H b with
 |none=>rfl
 |some x=>
  have hm:b∈trk h H:=zBX.mpr ⟨zCG.mpr (zA1 e'),by simp[q]⟩;have z:(zP h H).get? b=none:=PySem.W.hideAll_none (trk h H) hm;rw[z]at e;cases e
def aIv(g h:Heap)(L:Addr):hV:=(zAr h.objs.size).filterMap λ a=>if a=L\/(g.get? a).isSome=true then none else(h.get? a).map λ o=>(a,o)
def rest(g h:Heap)(L d:Addr):hV:=(aIv g h L).filter λ p=>decide (p.1≠d)
structure Mod(K:zAA)(mg:Str->Option Value)(base:Heap):Prop where
 kin:K.In base
 glob:base.Ns zAv mg
 blt:∃mb,base.Ns zJY mb/\∀x:Str,x≠"__name__"->mb x=zBO x
 nolimit:base.NoLimit
structure Cx where
 prog:zA7
 w:World
 K:zAA
 mg:Str->Option Value
 base:Heap
 A:zAt
 N:List Str
 z5:zAF
 z3:Hp
 env:Env
 outer:List Env
 stack:List Env
 ex:List Addr
 fn:Str->Bool
 calm:Bool
 pn:hV
 xe:Value->zAF->Prop
 ta:hV:=[]
 tq:Str:=""
def frs(l:List Env):List Addr:=l.filterMap (·.frame)
abbrev Cx.fs(X:Cx):List Addr:=frs X.outer
def Vis(sc:Scope)(x:Str):Prop:=sc.names.lookup x=some .local\/sc.names.lookup x=some .cell\/sc.names.lookup x=some .free
def Loc(sc:Scope)(x:Str):Prop:=sc.names.lookup x=some .local\/sc.names.lookup x=some .cell
def Look(env:Env)(h:Heap)(m:Str->Option Value)(x:Str)(u:Value):Prop:=
 (env.kindOf x=some .local/\m x=some u)\/((env.kindOf x=some .cell\/env.kindOf x=some .free)/\∃c,env.cells.lookup x=some c/\h.IsCell c (some u))
structure Cx.Ok(X:Cx):Prop where
 mod:Mod X.K X.mg X.base
 kind:X.env.scope.kind= .function
 glob:X.env.globals=zAv
 blt:X.env.builtins=zJY
 above:X.z5.heap.objs.size<=X.env.locals
 inj:∀x y c,X.env.cells.lookup x=some c->X.env.cells.lookup y=some c->x=y
 has:∀x,(X.env.kindOf x=some .cell\/X.env.kindOf x=some .free)->∃c,X.env.cells.lookup x=some c
 cab:∀x c,X.fn x=true->X.env.cells.lookup x=some c->X.z5.heap.objs.size<=c
 hd:X.calm=true->X.A.handled=none
 frames:X.A.frames=some X.stack
 stk:X.stack=X.outer\/(X.stack=X.env::X.outer/\X.env.frame=some X.env.locals)
 exf:∀b∈X.ex,b≠X.env.locals/\∀x c,X.env.cells.lookup x=some c->c≠b
 bs:∀b o,X.base.get? b=some o->X.z5.heap.get? b=some o/\X.z3 b=none
 bsz:X.base.objs.size<=X.z5.heap.objs.size
 noex:∀b o,X.base.get? b=some o->b∉X.ex
 exfs:∀b∈X.ex,b∉X.fs
 funs:X.z5.heap.FunFrames X.base X.outer
 frf:∀b∈X.fs,X.z3 b=none
def aMg(q:Str)(oc:Obj):Prop:=∃vs t,oc.data= .fields vs/\vs[1]? =some (.str q t)
def TabOk(q:Str)(H:Hp)(ps:Array Value):Prop:=TriplesOk ps.toList/\∀pos cv,codeAmong pos ps.toList=some cv->∃c' oc,cv= .ref c'/\H c'=some (.frz oc (.own c'))/\aMg q oc
def TabOk.mono(t:TabOk q H ps)(f:∀b o u,H b=some (.frz o u)->H' b=some (.frz o u)):TabOk q H' ps:=⟨t.1,λ pos cv hc=>let⟨c',oc,z,a,b⟩:=t.2 pos cv hc;⟨c',oc,z,f _ _ _ a,b⟩⟩
structure Inv(X:Cx)(kK:hV)(Z:List (Option V))(H:Hp)(s:zAF):Prop where
 ok:X.Ok
 os:s.os=X.z5.os
 bare:zFQ s.gens
 base:Un X.fs X.ex X.z3 H X.z5.heap s.heap
 loc:∃m,s.heap.Ns X.env.locals m/\∀(i:Nat) (x:Str) (v:V),X.N[i]? =some x->Z[i]? =some (some v)->Vis X.env.scope x->∃u,RelV v u/\Look X.env s.heap m x u
 cell:∀x c,X.env.cells.lookup x=some c->∃v,s.heap.IsCell c v
 free:H X.env.locals=none
 freeC:∀x c,X.env.cells.lookup x=some c->H c=none
 pin:∀p∈X.pn++kK,s.heap.get? p.1=some p.2/\H p.1=none/\p.1≠X.env.locals/\p.1∉X.fs/\∀v,p.2.data≠.cell v
 hok:HOk X.prog X.w H s.heap
 len:Z.length=X.N.length
 tab:∀p∈X.ta,H p.1=none/\p.1≠X.env.locals/\p.1∉X.fs/\(∀q∈X.pn++kK,q.1≠p.1)/\∃ps,s.heap.get? p.1=some {cls:=.none,data:=.fields ps}/\TabOk X.tq H ps
section
variable{X:Cx}{kK:hV}{Z:List (Option V)}{H H':Hp}{s:zAF}{h':Heap}
def Cx.Ok.nofr(ok:X.Ok)(e:X.base.get? b=some o):b∉X.fs:=λ hb=>by
 have:=(ok.funs.mem hb).1
 rw[e]at this;cases this
theorem Inv.bs(I:Inv X kK Z H s):∀b o,X.base.get? b=some o->s.heap.get? b=some o/\H b=none:=λ b o e=>
 ⟨I.base.keep b o (I.ok.bs b o e).1 (I.ok.bs b o e).2 (I.ok.nofr e) (I.ok.noex b o e),I.base.free b o (I.ok.bs b o e).1 (I.ok.bs b o e).2 (I.ok.noex b o e)⟩
def Inv.bk(I:Inv X kK Z H s):∀b o,X.base.get? b=some o->s.heap.get? b=some o:=λ b o e=>(I.bs b o e).1
theorem Inv.mod(I:Inv X kK Z H s):Mod X.K X.mg X.base:=I.ok.mod
def Inv.kIn(I:Inv X kK Z H s):X.K.In s.heap:=I.ok.mod.kin.keeps I.bk
def Inv.fr(I:Inv X kK Z H s):∃m,Fr X.base X.env.locals s.heap m:=
 let⟨m,hn,_⟩:=I.loc
 ⟨m,hn,I.bk,zBB I.ok.bsz I.ok.above⟩
theorem Inv.lt(I:Inv X kK Z H s):X.env.locals<s.heap.objs.size:=let⟨_,hn,_⟩:=I.loc;hn.lt
def Inv.sz(I:Inv X kK Z H s):X.z5.heap.objs.size<=s.heap.objs.size:=zBB I.ok.above (zCQ I.lt)
def Inv.nofs(I:Inv X kK Z H s)(h:s.heap.objs.size<=a):a∉X.fs:=λ hb=>by
 obtain⟨_,o,ho,_⟩:=I.ok.funs.mem hb;exact absurd (zA8 (zA1 ho) (zBB I.sz h)) (zBo _)
def Inv.cne(I:Inv X kK Z H s):∀x c,X.env.cells.lookup x=some c->c≠X.env.locals:=λ x c e z=>by
 obtain⟨v,o,ho,hd⟩:=I.cell x c e;obtain⟨m,⟨o',es,ep,ho',hd',_⟩,_⟩:=I.loc;rw[z,ho']at ho;cases ho;rw[hd']at hd;cases hd
theorem Inv.funs(I:Inv X kK Z H s):s.heap.FunFrames X.base X.outer:=by
 have all:∀(l:List Env),(∀b∈frs l,b∈X.fs)->X.z5.heap.FunFrames X.base l->s.heap.FunFrames X.base l:=by
  intro l;induction l with
  |nil=>intro _ _;trivial
  |cons env r ih=>
   intro hs hl;obtain⟨hk,⟨L,o,hf,hn,ho,hd⟩,hr⟩:=hl;have hL:L∈X.fs:=hs L (by unfold frs;rw[zBp,hf];exact zAT);obtain⟨sl,e⟩:=I.base.slot L o ho (I.ok.frf L hL) hL λ z=>I.ok.exfs L z hL
   exact⟨hk,⟨L,_,hf,hn,e,hd⟩,ih (λ b hb=>hs b (by unfold frs;rw[zBp,hf];exact zAO _ hb)) hr⟩
 exact all X.outer (λ _ hb=>hb) I.ok.funs
theorem Inv.stack(I:Inv X kK Z H s):s.heap.FunFrames X.base X.stack:=by
 rcases I.ok.stk with e|⟨e,hf⟩
 .rw[e];exact I.funs
 .rw[e]
  obtain⟨m,hn,_⟩:=I.loc;refine .cons (by rw[I.ok.kind];decide) hf hn ?_ I.funs;exact Heap.get?_none_of_le (zBB I.ok.bsz I.ok.above)
def Inv.stkSub(I:Inv X kK Z H s):∀b∈frs X.stack,b∈X.env.locals::X.fs:=λ b hb=>by
 rcases I.ok.stk with e|⟨e,hf⟩
 .rw[e]at hb;exact zAO _ hb
 .rw[e]at hb
  unfold frs at hb;rw[zBp,hf]at hb;exact hb
def Inv.stkFree(I:Inv X kK Z H s):∀b∈frs X.stack,H b=none:=λ b hb=>by
 rcases zAM.mp (I.stkSub b hb)with e|hb
 .rw[e];exact I.free
 .obtain⟨_,o,ho,_⟩:=I.ok.funs.mem hb
  exact I.base.free b o ho (I.ok.frf b hb) λ z=>I.ok.exfs b z hb
def Inv.step{g':Array zDw}{t':Nat}{d':Drawn}{ch:List Addr}(I:Inv X kK Z H s)
  (hch:∀b∈ch,(b∈X.ex\/X.z5.heap.objs.size<=b)/\b≠X.env.locals/\(∀x c,X.env.cells.lookup x=some c->c≠b)/\∀p∈X.ta++(X.pn++kK),p.1≠b)
  (keep:∀b o,b≠X.env.locals->b∉X.fs->b∉ch->s.heap.get? b=some o->H b=none->h'.get? b=some o)
  (slot:∀b o,b≠X.env.locals->b∈X.fs->b∉ch->s.heap.get? b=some o->H b=none->∃sl,h'.get? b=some {o with slots:=sl})(free:∀b o,b∉ch->s.heap.get? b=some o->H b=none->H' b=none)
  (there:∀b o,b∉ch->s.heap.get? b=some o->∃o',h'.get? b=some o')
  (tups:∀b xs,H b=some (.tup xs)->H' b=some (.tup xs))(frzs:∀b o u,H b=some (.frz o u)->H' b=some (.frz o u))(tbls:∀b ps,H b=some (.tbl ps)->∃more,H' b=some (.tbl (ps++more)))
  (ns:∀m,s.heap.Ns X.env.locals m->h'.Ns X.env.locals m)(hok:HOk X.prog X.w H' h')(hg:zFQ g'):
  Inv X kK Z H' {s with heap:=h',gens:=g',drawn:=d',toks:=t'}:=by
 have neL:∀b o,X.z5.heap.get? b=some o->b≠X.env.locals:=λ b o e=>zAc (zA8 (zA1 e) I.ok.above)
 have neC:∀b o,X.z5.heap.get? b=some o->b∉X.ex->b∉ch:=λ b o e hx hb=>by
  rcases(hch b hb).1 with z|z
  .exact hx z
  .exact absurd (zA8 (zA1 e) z) (zBo _)
 have e7:∀x c,X.env.cells.lookup x=some c->∀v,s.heap.IsCell c v->h'.IsCell c v:=λ x c e v ⟨o,ho,hd⟩=>by
  have nch:c∉ch:=λ z=>(hch c z).2.2.1 x c e rfl
  by_cases hc:c∈X.fs
  .obtain⟨sl,q⟩:=slot c o (I.cne x c e) hc nch ho (I.freeC x c e)
   exact⟨_,q,hd⟩
  .exact⟨o,keep c o (I.cne x c e) hc nch ho (I.freeC x c e),hd⟩
 refine⟨I.ok,I.os,hg,⟨λ b o e n hb hx=>?_,λ b o e n hb hx=>?_,λ b o e n hx=>?_,λ b o e hx=>?_,λ b xs e=>tups b xs (I.base.tups b xs e),λ b o xs e=>frzs b o xs (I.base.frzs b o xs e),λ b ps e=>?_⟩,?_,λ x c e=>?_,?_,λ x c e=>?_,λ p hp=>?_,hok,I.len,λ p hp=>?_⟩
 .exact keep b o (neL b o e) hb (neC b o e hx) (I.base.keep b o e n hb hx) (I.base.free b o e n hx)
 .obtain⟨sl,e1⟩:=I.base.slot b o e n hb hx
  obtain⟨sl',e2⟩:=slot b _ (neL b o e) hb (neC b o e hx) e1 (I.base.free b o e n hx);exact⟨sl',e2⟩
 .obtain⟨o',e1⟩:=I.base.there b o e hx
  exact free b o' (neC b o e hx) e1 (I.base.free b o e n hx)
 .obtain⟨o',e1⟩:=I.base.there b o e hx
  exact there b o' (neC b o e hx) e1
 .obtain⟨m1,e1⟩:=I.base.tbls b ps e
  obtain⟨m2,e2⟩:=tbls b _ e1;exact⟨m1++m2,by rw[e2,zHW]⟩
 .obtain⟨m,hn,hl⟩:=I.loc
  refine⟨m,ns m hn,λ i x v e1 e2 e3=>?_⟩;obtain⟨u,r,l⟩:=hl i x v e1 e2 e3;refine⟨u,r,?_⟩;rcases l with l|⟨k,c,e,z⟩
  .exact .inl l
  .exact .inr ⟨k,c,e,e7 x c e _ z⟩
 .obtain⟨v,z⟩:=I.cell x c e
  exact⟨v,e7 x c e v z⟩
 .obtain⟨m,⟨o,_,_,ho,_⟩,_⟩:=I.loc
  exact free _ o (λ z=>(hch _ z).2.1 rfl) ho I.free
 .obtain⟨v,o,ho,hd⟩:=I.cell x c e
  exact free c o (λ z=>(hch c z).2.2.1 x c e rfl) ho (I.freeC x c e)
 .obtain⟨e,n,ne,nf,d⟩:=I.pin p hp
  have nch:p.1∉ch:=λ z=>(hch p.1 z).2.2.2 p (zAi _ hp) rfl
  exact⟨keep p.1 p.2 ne nf nch e n,free p.1 p.2 nch e n,ne,nf,d⟩
 .obtain⟨n,ne,nf,np,ps,e,t⟩:=I.tab p hp
  have nch:p.1∉ch:=λ z=>(hch p.1 z).2.2.2 p (zBP _ hp) rfl
  exact⟨free p.1 _ nch e n,ne,nf,np,ps,keep p.1 _ ne nf nch e n,t.mono frzs⟩
def Inv.pinL(I:Inv X kK Z H s)(hp:p∈X.ta++(X.pn++kK)):p.1<s.heap.objs.size:=by
 rcases zA9.mp hp with z|z
 .obtain⟨_,_,_,_,_,e,_⟩:=I.tab p z
  exact zA1 e
 .exact zA1 (I.pin p z).1
def Inv.un{t':Nat}(I:Inv X kK Z H s)(u:Un X.fs [] H H' s.heap h')(hok:HOk X.prog X.w H' h'):Inv X kK Z H' {s with heap:=h',toks:=t'}:=by
 obtain⟨m,⟨o,es,ep,ho,r⟩,_⟩:=id I.loc;obtain⟨sl,hL⟩:=u.any ho I.free (by simp);exact I.step (g':=s.gens) (d':=s.drawn) (ch:=[]) (λ _ z=>nomatch z) (λ b o _ hb _ e n=>u.keep b o e n hb (by simp)) (λ b o _ hb _ e n=>u.slot b o e n hb (by simp)) (λ b o _ e n=>u.free b o e n (by simp)) (λ b o _ e=>u.there b o e (by simp)) u.tups u.frzs u.tbls (λ m' hm=>by
  obtain⟨o',es',ep',ho',r'⟩:=hm;rw[ho]at ho';cases ho';exact⟨_,es',ep',hL,r'⟩) hok I.bare
def Inv.call{g':Array zDw}{t':Nat}{d':Drawn}{ch:List Addr}(I:Inv X kK Z H s)(u:Un (frs X.stack) ch H H' s.heap h')(hok:HOk X.prog X.w H' h')(hg:zFQ g')
  (hch:∀b∈ch,(b∈X.ex\/X.z5.heap.objs.size<=b)/\b≠X.env.locals/\(∀x c,X.env.cells.lookup x=some c->c≠b)/\∀p∈X.ta++(X.pn++kK),p.1≠b):
  Inv X kK Z H' {s with heap:=h',gens:=g',drawn:=d',toks:=t'}:=by
 obtain⟨m,⟨o,es,ep,ho,r⟩,_⟩:=id I.loc;obtain⟨sl,hL⟩:=u.any ho I.free λ z=>(hch _ z).2.1 rfl
 exact I.step (ch:=ch) hch (λ b o hL hb hc e n=>u.keep b o e n (λ z=>(zAM.mp (I.stkSub b z)).elim hL hb) hc) (λ b o _ _ hc e n=>u.any e n hc) (λ b o hc e n=>u.free b o e n hc) (λ b o hc e=>u.there b o e hc) u.tups u.frzs u.tbls (λ m' hm=>by
  obtain⟨o',es',ep',ho',r'⟩:=hm;rw[ho]at ho';cases ho';exact⟨_,es',ep',hL,r'⟩) hok hg
def Inv.turned{t':Nat}{it:Addr}(I:Inv X kK Z H s)(k:∀b o,b≠it->s.heap.get? b=some o->h'.get? b=some o)(hn:H it=none)(hL:it≠X.env.locals)
  (h1:it∈X.ex\/X.z5.heap.objs.size<=it)(h2:∀x c,X.env.cells.lookup x=some c->c≠it)(h3:∀p∈X.ta++(X.pn++kK),p.1≠it):Inv X kK Z H {s with heap:=h',toks:=t'}:=by
 have nit:∀b u,H b=some u->b≠it:=λ b u e z=>by rw[z,hn]at e;cases e
 refine I.step (g':=s.gens) (d':=s.drawn) (ch:=[it]) (λ b hb=>?_) (λ b o _ _ hc e _=>k b o (λ z=>hc (by simp[z])) e) (λ b o _ _ hc e _=>⟨o.slots,k b o (λ z=>hc (by simp[z])) e⟩) (λ _ _ _ _ n=>n)
  (λ b o hc e=>⟨o,k b o (λ z=>hc (by simp[z])) e⟩) (λ _ _ e=>e) (λ _ _ _ e=>e) (λ b ps e=>⟨#[],by rw[e];simp⟩) (λ m hm=>?_) (λ b u e=>?_) I.bare
 .have e:b=it:=by simpa using hb
  subst e;exact⟨h1,hL,h2,h3⟩
 .obtain⟨o,es,ep,ho,r⟩:=hm
  exact⟨o,es,ep,k _ o (zE1 hL) ho,r⟩
 .refine(I.hok b u e).stay (λ c v hc q=>k c v ?_ q) (λ _ q=>q) λ _ _ q=>q
  rcases hc with z|z
  .rw[z];exact nit b u e
  .exact nit c _ z
def Inv.tok(I:Inv X kK Z H s)(t:Nat):Inv X kK Z H {s with toks:=t}:=I.un (h':=s.heap) (t':=t) Un.refl I.hok
theorem Inv.kept(I:Inv X kK Z H s)(k:∀b u,s.heap.get? b=some u->h'.get? b=some u):Inv X kK Z H {s with heap:=h',toks:=t'}:=I.un (Un.kept k) (I.hok.kept k)
theorem Inv.laid(I:Inv X kK Z H s)(k:∀b u,s.heap.get? b=some u->h'.get? b=some u)(hp:s.heap.objs.size<=a)(new:bu X.prog X.w (upd H a o) h' a o):
  Inv X kK Z (upd H a o) {s with heap:=h',toks:=t'}:=I.un (Un.laid k hp (I.hok.fresh hp)) (I.hok.laid k hp new)
theorem Inv.write(I:Inv X kK Z H s)(mu:Mut (H x))(he:e=x\/H e=some (.own x))(k:∀b u,b≠e->s.heap.get? b=some u->h'.get? b=some u)(heo:∃u,h'.get? e=some u)
  (new:bu X.prog X.w (upd H x o) h' x o):Inv X kK Z (upd H x o) {s with heap:=h',toks:=t'}:=I.un (Un.write mu he k heo) (I.hok.write mu he k heo new)
def Inv.weak(I:Inv X kK Z H s)(hl:Z'.length=Z.length)(w:∀(i:Nat) v,Z'[i]? =some (some v)->Z[i]? =some (some v)):Inv X kK Z' H s:=
 ⟨I.ok,I.os,I.bare,I.base,let⟨m,hn,hl'⟩:=I.loc;⟨m,hn,λ i x v e1 e2 e3=>hl' i x v e1 (w i v e2) e3⟩,I.cell,I.free,I.freeC,I.pin,I.hok,hl.trans I.len,I.tab⟩
def Inv.pins_of(I:Inv X kK Z H s)(h:∀p∈pins',s.heap.get? p.1=some p.2/\H p.1=none/\p.1≠X.env.locals/\p.1∉X.fs/\∀v,p.2.data≠.cell v)(h2:∀q∈pins',∀p∈X.ta,q.1≠p.1):Inv X pins' Z H s:=
 ⟨I.ok,I.os,I.bare,I.base,I.loc,I.cell,I.free,I.freeC,λ p hp=>(zA9.mp hp).elim (λ z=>I.pin p (zBP _ z)) (h p),I.hok,I.len,λ p hp=>let⟨a,b,c,d,e⟩:=I.tab p hp;⟨a,b,c,λ q hq=>(zA9.mp hq).elim (λ z=>d q (zBP _ z)) (λ z=>h2 q z p hp),e⟩⟩
def aA6{N:List Str}(hN:N.Nodup){i j:Nat}{x:Str}(a:N[i]? =some x)(b:N[j]? =some x):i=j:=by
 obtain⟨h1,e1⟩:=zAI.mp a;obtain⟨h2,e2⟩:=zAI.mp b;exact(List.getElem_inj hN).mp (e1.trans e2.symm)
def qM{M:Model}{A:zAt}{E:Value->zAF->Prop}{i:Nat}{x:Str}{v:V}{u:Value}{Q:Unit->zAF->Prop}(I:Inv X kK Z H s)(hN:X.N.Nodup)(hi:X.N[i]? =some x)(hx:Loc X.env.scope x)(r:RelV v u)
  (h:∀s',Inv X kK (Z.set i (some v)) H s'->(∃a,zEO a s.heap s'.heap/\(a=X.env.locals\/X.env.cells.lookup x=some a))->Q () s')(hf:X.fn x=true\/X.env.scope.names.lookup x=some .local:=by first|exact .inl rfl|exact .inr rfl|assumption):wpAny M A (storeName X.env x u) Q E s:=by
 obtain⟨m,hn,hl⟩:=id I.loc;have hcls:(X.env.scope.kind== .class||(X.env.scope.kind== .module&&X.env.locals !=X.env.globals))=false:=by rw[I.ok.kind];rfl
 have hiZ:i<Z.length:=by rw[I.len];exact(zAI.mp hi).1
 have cne:=I.cne;have bX:∀{a:Addr} {h':Heap},(∃o,s.heap.get? a=some o/\H a=none)->zEO a s.heap h'->HOk X.prog X.w H h':=λ{a h'} ha hs b ob e=>by
  obtain⟨_,_,hfree⟩:=ha;refine(I.hok b ob e).stay (λ c w' hc q=>(hs.2 c ?_).trans q) (λ _ q=>q) λ _ _ q=>q
  rintro rfl;rcases hc with rfl|hc
  .rw[hfree]at e;cases e
  .rw[hfree]at hc;cases hc
 rcases hx with hk|hk
 .refine wpAny_storeName_local hk hn (λ h' hn' hs=>?_) hcls
  obtain⟨oL,_,_,hoL,_⟩:=id hn;refine h _ ⟨I.ok,I.os,I.bare,⟨λ b o e n hb hx=>?_,λ b o e n hb hx=>?_,I.base.free,λ b o e hx=>?_,I.base.tups,I.base.frzs,I.base.tbls⟩,⟨_,hn',λ j y v' e1 e2 e3=>?_⟩,λ y c e=>?_,I.free,I.freeC,λ p hp=>?_,bX ⟨oL,hoL,I.free⟩ hs,by simpa using I.len,λ p hp=>?_⟩ ⟨_,hs,.inl rfl⟩
  .exact(hs.2 b (zAc (zA8 (zA1 e) I.ok.above))).trans (I.base.keep b o e n hb hx)
  .obtain⟨sl,e1⟩:=I.base.slot b o e n hb hx
   exact⟨sl,(hs.2 b (zAc (zA8 (zA1 e) I.ok.above))).trans e1⟩
  .obtain⟨o',e1⟩:=I.base.there b o e hx
   exact⟨o',(hs.2 b (zAc (zA8 (zA1 e) I.ok.above))).trans e1⟩
  .by_cases hj:j=i
   .subst hj
    rw[hi]at e1;cases e1;rw[zBm hiZ]at e2;cases e2;exact⟨u,r,.inl ⟨hk,by simp⟩⟩
   .rw[zBj (zE1 hj)]at e2
    obtain⟨u',r',q⟩:=hl j y v' e1 e2 e3;refine⟨u',r',?_⟩;rcases q with ⟨k,e⟩|⟨k,c,e,z⟩
    .refine .inl ⟨k,?_⟩
     have:y≠x:=λ e=>hj (aA6 hN e1 (e▸hi))
     simp[this,e]
    .exact .inr ⟨k,c,e,z.sameBut hs (cne y c e)⟩
  .obtain⟨w',z⟩:=I.cell y c e
   exact⟨w',z.sameBut hs (cne y c e)⟩
  .obtain⟨e,n,ne,nf,d⟩:=I.pin p hp
   exact⟨(hs.2 p.1 ne).trans e,n,ne,nf,d⟩
  .obtain⟨n,ne,nf,np,ps,e,t⟩:=I.tab p hp
   exact⟨n,ne,nf,np,ps,(hs.2 p.1 ne).trans e,t⟩
 .have hfn:X.fn x=true:=by
   rcases hf with z|z
   .exact z
   .rw[z]at hk;cases hk
  obtain⟨c,hc⟩:=I.ok.has x (.inl hk);obtain⟨w',z⟩:=I.cell x c hc;refine wpAny_storeName_cell I.ok.kind hk hc z (λ h' hc' hs=>?_);obtain⟨oc,hoc,hocd⟩:=id z;refine h {s with heap:=h'} ⟨I.ok,I.os,I.bare,⟨λ b o e n hb hx=>?_,λ b o e n hb hx=>?_,I.base.free,λ b o e hx=>?_,I.base.tups,I.base.frzs,I.base.tbls⟩,⟨m,hn.sameBut hs (zE1 (cne x c hc)),λ j y v' e1 e2 e3=>?_⟩,λ y c' e=>?_,I.free,I.freeC,λ p hp=>?_,bX ⟨oc,hoc,I.freeC x c hc⟩ hs,by simpa using I.len,λ p hp=>?_⟩ ⟨c,hs,.inr hc⟩
  .exact(hs.2 b (zAc (zA8 (zA1 e) (I.ok.cab x c hfn hc)))).trans (I.base.keep b o e n hb hx)
  .obtain⟨sl,e1⟩:=I.base.slot b o e n hb hx
   exact⟨sl,(hs.2 b (zAc (zA8 (zA1 e) (I.ok.cab x c hfn hc)))).trans e1⟩
  .obtain⟨o',e1⟩:=I.base.there b o e hx
   exact⟨o',(hs.2 b (zAc (zA8 (zA1 e) (I.ok.cab x c hfn hc)))).trans e1⟩
  .by_cases hj:j=i
   .subst hj
    rw[hi]at e1;cases e1;rw[zBm hiZ]at e2;cases e2;exact⟨u,r,.inr ⟨.inl hk,c,hc,hc'⟩⟩
   .rw[zBj (zE1 hj)]at e2
    obtain⟨u',r',q⟩:=hl j y v' e1 e2 e3;refine⟨u',r',?_⟩;rcases q with q|⟨k,c',e,z'⟩
    .exact .inl q
    .refine .inr ⟨k,c',e,z'.sameBut hs ?_⟩
     rintro rfl;exact hj (aA6 hN e1 (I.ok.inj _ _ _ e hc▸hi))
  .by_cases hcc:c'=c
   .subst hcc;exact⟨_,hc'⟩
   .obtain⟨w2,z2⟩:=I.cell y c' e
    exact⟨w2,z2.sameBut hs hcc⟩
  .obtain⟨e,n,ne,nf,d⟩:=I.pin p hp
   refine⟨(hs.2 p.1 ?_).trans e,n,ne,nf,d⟩;intro q;rw[q,hoc]at e;have q':oc=p.2:=zAh e;exact d w' (by rw[<-q'];exact hocd)
  .obtain⟨n,ne,nf,np,ps,e,t⟩:=I.tab p hp
   refine⟨n,ne,nf,np,ps,(hs.2 p.1 ?_).trans e,t⟩;intro q;rw[q,hoc]at e;rw[zAh e]at hocd;cases hocd
def zu(I:Inv X kK Z H s)(hN:X.N.Nodup)(hi:X.N[i]? =some x)(hx:Loc X.env.scope x)(r:RelV v u)
  (h:∀s',Inv X kK (Z.set i (some v)) H s'->Q () s')(hf:X.fn x=true\/X.env.scope.names.lookup x=some .local:=by first|exact .inl rfl|exact .inr rfl|assumption):wpAny M A (storeName X.env x u) Q E s:=
 qM I hN hi hx r (λ s' I' _=>h s' I') hf
def Inv.call'(I:Inv X kK Z H s)(ho:s'.os=s.os)(u:Un (frs X.stack) ch H H' s.heap s'.heap)(hok:HOk X.prog X.w H' s'.heap)(hg:zFQ s'.gens)
  (hch:∀b∈ch,(b∈X.ex\/X.z5.heap.objs.size<=b)/\b≠X.env.locals/\(∀x c,X.env.cells.lookup x=some c->c≠b)/\∀p∈X.ta++(X.pn++kK),p.1≠b):Inv X kK Z H' s':=by
 obtain⟨h',g',d',t',o'⟩:=s';have e:o'=s.os:=ho;subst e;exact I.call (g':=g') (t':=t') (d':=d') u hok hg hch
end
abbrev XK:=Value->Option Addr->Hp->Prop
abbrev St:=List (Option V)
abbrev VK:=V->Hp->Prop
abbrev TE:=St->Hp->VK->Prop
abbrev TT:=St->Hp->(Bool->Hp->Prop)->Prop
abbrev TA:=St->Hp->(List V->Hp->Prop)->Prop
structure Ends where
 nx:St->Hp->Prop
 rt:VK
 bk:St->Hp->Prop:=λ _ _=>False
 ct:St->Hp->Prop:=λ _ _=>False
abbrev TS:=Ends->St->Hp->Prop
def EP(X:Cx)(kK:hV)(Z:St)(Q:VK)(u:Value)(s':zAF):Prop:=∃v H',Inv X kK Z H' s'/\RelV v u/\Q v H'
def TP(X:Cx)(kK:hV)(Z:St)(Q:Bool->Hp->Prop)(b:Bool)(s':zAF):Prop:=∃H',Inv X kK Z H' s'/\Q b H'
def AP(X:Cx)(kK:hV)(Z:St)(Q:List V->Hp->Prop)(us:List Value)(s':zAF):Prop:=∃vs H',Inv X kK Z H' s'/\Vals vs us/\Q vs H'
def SP(X:Cx)(kK:hV)(D:Ends)(f:Flow)(s':zAF):Prop:=
 match f with
 | .next=>∃Z' H',Inv X kK Z' H' s'/\D.nx Z' H'
 | .brk=>∃Z' H',Inv X kK Z' H' s'/\D.bk Z' H'
 | .cont=>∃Z' H',Inv X kK Z' H' s'/\D.ct Z' H'
 | .ret u=>∃v Z' H',Inv X kK Z' H' s'/\RelV v u/\D.rt v H'
def PE(X:Cx)(e:Expr)(t:TE):Prop:=
 ∀(kK:hV) (s:zAF) (Z:St) (H:Hp) (Q:VK),Inv X kK Z H s->t Z H Q->wpAny (model X.prog X.w) X.A (eval e X.env) (EP X kK Z Q) X.xe s
def PT(X:Cx)(e:Expr)(t:TT):Prop:=
 ∀(kK:hV) (s:zAF) (Z:St) (H:Hp) (Q:Bool->Hp->Prop),Inv X kK Z H s->t Z H Q->wpAny (model X.prog X.w) X.A (isTrue e X.env (eval e X.env)) (TP X kK Z Q) X.xe s
def PW(X:Cx)(e:Expr)(t:TT):Prop:=
 ∀(whole:Sem Value) (kK:hV) (s:zAF) (Z:St) (H:Hp) (Q:Bool->Hp->Prop),Inv X kK Z H s->t Z H Q->wpAny (model X.prog X.w) X.A (isTrue e X.env whole) (TP X kK Z Q) X.xe s
def PW.pt(h:PW X e t):PT X e t:=h _
def PA(X:Cx)(es:List Expr)(t:TA):Prop:=
 ∀(pos:Pos) (kK:hV) (s:zAF) (Z:St) (H:Hp) (Q:List V->Hp->Prop),Inv X kK Z H s->t Z H Q->wpAny (model X.prog X.w) X.A (spliced (zCs pos (zA4 es X.env))) (AP X kK Z Q) X.xe s
def PS(X:Cx)(st:Stmt)(t:TS):Prop:=
 ∀(kK:hV) (s:zAF) (Z:St) (H:Hp) (D:Ends),Inv X kK Z H s->t D Z H->wpAny (model X.prog X.w) X.A (exec st X.env) (SP X kK D) X.xe s
def PSs(X:Cx)(st:List Stmt)(t:TS):Prop:=
 ∀(kK:hV) (s:zAF) (Z:St) (H:Hp) (D:Ends),Inv X kK Z H s->t D Z H->wpAny (model X.prog X.w) X.A (execs st X.env) (SP X kK D) X.xe s
def thn(h:wpAny M A t Q E s)(hQ:∀a s,Q a s->Q' a s):wpAny M A t Q' E s:=zB8 h hQ λ _ _ x=>x
section
variable{X:Cx}
def uK(i:Nat):TE:=λ Z H Q=>∃v,Z[i]? =some (some v)/\Q v H
def tC(v:V):TE:=λ _ H Q=>Q v H
abbrev _root_.Nd(x:PySem.Str):Prop:=(x==("__debug__":PySem.Str))=false
def jP(hN:X.N[i]? =some x)(hv:Vis X.env.scope x)(hd:Nd x:=by decide)(hcd:(x==("__classdict__":Str))=false:=by decide):PE X (.Name x pos) (uK i):=by
 intro kK s Z H Q I h;obtain⟨v,e,h⟩:=h;obtain⟨m,hn,hl⟩:=I.loc;obtain⟨u,r,l⟩:=hl i x v hN e hv;have fin:EP X kK Z Q u s:=⟨v,H,I,r,h⟩;rcases l with ⟨hk,hm⟩|⟨hk,c,hc,hcell⟩
 .exact zJ2 (wpAny_loadName_local I.ok.kind hk hn hm fin) hd
 .rcases hk with hk|hk
  .exact zJ2 (wpAny_loadName_cell I.ok.kind hk hc hcell fin) hd
  .exact zJ2 (wpAny_loadName_free I.ok.kind hk hc hcell fin hcd) hd
def aFO{i j pos}:PE X (.Constant (.int i) j pos) (tC (.int i)):=λ _ _ _ H _ I h=>wpAny_Constant_int ⟨.int i,H,I.tok _,⟨_,rfl⟩,h⟩
def aMG{b j pos}:PE X (.Constant (.bool b) j pos) (tC (.bl b)):=λ _ _ _ H _ I h=>Constant_bool ⟨.bl b,H,I,rfl,h⟩
def aK3{j pos}:PE X (.Constant .none j pos) (tC .non):=λ _ _ _ H _ I h=>Constant_none ⟨.non,H,I,rfl,h⟩
def aK0{x j pos}:PE X (.Constant (.str x) j pos) (tC (.str x)):=λ _ _ _ H _ I h=>Calls.Constant_str ⟨.str x,H,I.tok _,⟨_,rfl⟩,h⟩
def Gl(X:Cx)(x:Str):Prop:=X.env.kindOf x=some .globalImplicit
def zF(I:Inv X kK Z H s)(hg:Gl X x)(hm:X.mg x=some u)(h:Q u s)
  (hd:Nd x:=by decide):wpAny (model X.prog X.w) X.A (eval (.Name x pos) X.env) Q E s:=
 zGG I.ok.kind hg (Calls.loadGlobal_global (by rw[I.ok.glob];exact I.mod.glob.keeps I.bk) hm h) hd
def vC(I:Inv X kK Z H s)(hg:Gl X x)(hm:X.mg x=none)(hv:zBO x=some u)(h:Q u s)
  (hn:x≠"__name__":=by decide)(hd:Nd x:=by decide):wpAny (model X.prog X.w) X.A (eval (.Name x pos) X.env) Q E s:=by
 obtain⟨mb,h1,h2⟩:=I.mod.blt;exact zGG I.ok.kind hg (Calls.loadGlobal_builtin (by rw[I.ok.glob];exact I.mod.glob.keeps I.bk) hm (by rw[I.ok.blt];exact h1.keeps I.bk) ((h2 x hn).trans hv) h) hd
def aHo(hg:Gl X x)(hm:X.mg x=some u)(r:RelV v u)(hd:Nd x:=by decide):PE X (.Name x pos) (tC v):=
 λ _ _ _ H _ I h=>zF I hg hm ⟨v,H,I,r,h⟩ hd
def aHs(hg:Gl X x)(hm:X.mg x=none)(hv:zBO x=some u)(r:RelV v u)(hn:x≠"__name__":=by decide)(hd:Nd x:=by decide):PE X (.Name x pos) (tC v):=
 λ _ _ _ H _ I h=>vC I hg hm hv ⟨v,H,I,r,h⟩ hn hd
variable{a b:Expr}{ta tb:TE}{pos:Pos}
variable{tA tB':TT}{rest:List Expr}
def aMs(t u:TT):TT:=λ Z H Q=>t Z H λ c H1=>if c=true then u Z H1 Q else Q false H1
def tOr(t u:TT):TT:=λ Z H Q=>t Z H λ c H1=>if c=true then Q true H1 else u Z H1 Q
def aMn(t:TT):TT:=λ Z H Q=>t Z H λ c H1=>Q (!c) H1
def aHc(ha:PT X a tA):PW X (.BoolOp .And [a] pos) tA:=by
 intro wh kK s Z H Q I h;refine isTrue_and (thn (ha kK s Z H Q I h) λ c s1 e=>?_);cases c with
 |true=>exact isTrue_and_nil e
 |false=>exact e
def aKN(ha:PT X a tA):PW X (.BoolOp .Or [a] pos) tA:=by
 intro wh kK s Z H Q I h;refine isTrue_or (thn (ha kK s Z H Q I h) λ c s1 e=>?_);cases c with
 |false=>exact isTrue_or_nil e
 |true=>exact e
def aKO(ha:PT X a tA)(hb:PW X (.BoolOp .And (b::rest) pos) tB'):PW X (.BoolOp .And (a::b::rest) pos) (aMs tA tB'):=by
 intro wh kK s Z H Q I h;refine isTrue_and (thn (ha kK s Z H _ I h) λ c s1 ⟨H1,I1,q1⟩=>?_);cases c with
 |true=>exact hb wh kK s1 Z H1 Q I1 q1
 |false=>exact⟨H1,I1,q1⟩
def aMC(ha:PT X a tA)(hb:PW X (.BoolOp .Or (b::rest) pos) tB'):PW X (.BoolOp .Or (a::b::rest) pos) (tOr tA tB'):=by
 intro wh kK s Z H Q I h;refine isTrue_or (thn (ha kK s Z H _ I h) λ c s1 ⟨H1,I1,q1⟩=>?_);cases c with
 |true=>exact⟨H1,I1,q1⟩
 |false=>exact hb wh kK s1 Z H1 Q I1 q1
def aKR(ha:PT X a tA):PT X (.UnaryOp .Not a pos) (aMn tA):=by
 intro kK s Z H Q I h;exact isTrue_not (ha kK s Z H (λ c H1=>Q (!c) H1) I h)
def aLm(ta tb:TE):TE:=λ Z H Q=>ta Z H λ x H1=>∃c,x= .bl c/\if c=true then tb Z H1 Q else Q (.bl false) H1
def aLi(ta:TE):TE:=λ Z H Q=>ta Z H λ x H1=>∃c,x= .bl c/\Q (.bl (!c)) H1
def aK1{op}(h:PE X a t):PE X (.BoolOp op [a] pos) t:=λ kK s Z H Q I hw=>BoolOp_one (h kK s Z H Q I hw)
def aK5(ha:PE X a ta)(hb:PE X (.BoolOp .And (b::rest) pos) tb):PE X (.BoolOp .And (a::b::rest) pos) (aLm ta tb):=by
 intro kK s Z H Q I h;refine BoolOp_and (thn (ha kK s Z H _ I h) λ v s1 ⟨x,H1,I1,r1,q1⟩=>?_);obtain⟨c,rfl,q1⟩:=q1;cases r1;refine zDN ?_;cases c with
 |true=>exact hb kK s1 Z H1 Q I1 q1
 |false=>exact⟨.bl false,H1,I1,rfl,q1⟩
def aK2(ha:PE X a ta):PE X (.UnaryOp .Not a pos) (aLi ta):=by
 intro kK s Z H Q I h;refine UnaryOp_ (thn (ha kK s Z H _ I h) λ v s1 ⟨x,H1,I1,r1,q1⟩=>?_);obtain⟨c,rfl,q1⟩:=q1;cases r1;exact not_of (zDN ⟨.bl (!c),H1,I1,rfl,q1⟩)
def tIf(t:TT)(ta tb:TE):TE:=λ Z H Q=>t Z H λ c H1=>if c=true then ta Z H1 Q else tb Z H1 Q
def aFP(hc:PT X c tA)(ha:PE X a ta)(hb:PE X b tb):PE X (.IfExp c a b pos) (tIf tA ta tb):=by
 intro kK s Z H Q I h;refine wpAny_IfExp (thn (hc kK s Z H _ I h) λ d s1 ⟨H1,I1,q1⟩=>?_);cases d with
 |true=>exact ha kK s1 Z H1 Q I1 q1
 |false=>exact hb kK s1 Z H1 Q I1 q1
end
def SqL(K:zAA)(H:Hp)(a:Addr)(xs:List V):Prop:=
 Rd H a (.lst xs)\/
  ∃(o:Obj) (its:Array Value) (n:Nat),K.lookup a=some o/\o.cls= .type "list"/\o.dict=none/\o.data= .seq its n/\its.size<=zA0/\Vals xs its.toList
def SqT(K:zAA)(H:Hp)(a:Addr)(xs:List V):Prop:=
 Rd H a (.tup xs)\/
  ∃(o:Obj) (its:Array Value) (n:Nat),K.lookup a=some o/\o.cls= .type "tuple"/\o.dict=none/\o.data= .seq its n/\its.size<=zA0/\Vals xs its.toList
def aMz:Value->Option V
 | .none=>some .non
 | .bool b=>some (.bl b)
 | .int i _=>some (.int i)
 | .str x _=>some (.str x)
 | .bytes b _=>some (.byt b)
 | .float b _=>some (.flt b)
 | .ref a=>some (.ref a)
 | .type n=>some (.ty n)
 |_=>none
def RelV.abs(r:RelV x u):aMz u=some x:=by
 cases x with
 |non=>cases r;rfl
 |bl _=>cases r;rfl
 |int _=>obtain⟨t,rfl⟩:=r;rfl
 |str _=>obtain⟨t,rfl⟩:=r;rfl
 |byt _=>obtain⟨t,rfl⟩:=r;rfl
 |flt _=>obtain⟨t,rfl⟩:=r;rfl
 |ref _=>cases r;rfl
 |ty _=>cases r;rfl
def RelV.inj(r:RelV x u)(q:RelV y u):x=y:=zAh (r.abs.symm.trans q.abs)
theorem Vals.inj:∀{xs ys:List V} {us:List Value},Vals xs us->Vals ys us->xs=ys
 |_,_,_,.nil,.nil=>rfl
 |_,_,_,.cons r t,.cons r' t'=>by rw[r.inj r',Vals.inj t t']
section
variable{X:Cx}{kK:hV}{Z:St}{H:Hp}{s:zAF}{a:Addr}{xs ys:List V}
def SqL.of{K:zAA}(h:H a=some (.lst xs)):SqL K H a xs:=.inl (.inl h)
def SqT.of{K:zAA}(h:H a=some (.tup xs)):SqT K H a xs:=.inl (.inl h)
def Inv.list(I:Inv X kK Z H s)(h:SqL X.K H a xs):∃its:List Value,Vals xs its/\PlainL s.heap a its.toArray/\xs.length<=zA0:=by
 rcases h with h|⟨o,its,n,hk,hc,hd,hs,hz,r⟩
 .obtain⟨z,its,n,r,e⟩:=h.ok I.hok
  exact⟨its,r,⟨_,n,e,rfl,rfl,rfl⟩,z⟩
 .refine⟨its.toList,r,⟨o,n,I.kIn a o hk,hc,hd,by simpa using hs⟩,?_⟩
  have e:=r.length;simp only[zAL]at e;lia
def Inv.tuple(I:Inv X kK Z H s)(h:SqT X.K H a xs):∃its:List Value,Vals xs its/\IsTup s.heap a its.toArray/\xs.length<=zA0:=by
 rcases h with h|⟨o,its,n,hk,hc,hd,hs,hz,r⟩
 .obtain⟨z,its,r,p⟩:=h.ok I.hok
  exact⟨its,r,p,z.1⟩
 .refine⟨its.toList,r,⟨o,I.kIn a o hk,hc,n,by simpa using hs⟩,?_⟩
  have e:=r.length;simp only[zAL]at e;lia
def Inv.list_inj(I:Inv X kK Z H s)(h:SqL X.K H a xs)(h':SqL X.K H a ys):xs=ys:=by
 obtain⟨its,r,⟨o,n,e,_,_,d⟩,_⟩:=I.list h;obtain⟨its',r',⟨o',n',e',_,_,d'⟩,_⟩:=I.list h';rw[e]at e';cases e';rw[d]at d';injection d' with d1 _
 have:its=its':=by simpa using congrArg zIz d1
 subst this;exact r.inj r'
def Inv.tuple_inj(I:Inv X kK Z H s)(h:SqT X.K H a xs)(h':SqT X.K H a ys):xs=ys:=by
 obtain⟨its,r,⟨o,e,_,n,d⟩,_⟩:=I.tuple h;obtain⟨its',r',⟨o',e',_,n',d'⟩,_⟩:=I.tuple h';rw[e]at e';cases e';rw[d]at d';injection d' with d1 _
 have:its=its':=by simpa using congrArg zIz d1
 subst this;exact r.inj r'
end
section
variable{X:Cx}{st:Stmt}{rest:List Stmt}{t u:TS}{e:Expr}{te:TE}{pos:Pos}
def aLj:TS:=λ D Z H=>D.nx Z H
def aMl(t u:TS):TS:=λ D Z H=>t {D with nx:=u D} Z H
def aHf:PSs X [] aLj:=λ _ _ Z H _ I h=>zFW ⟨Z,H,I,h⟩
def aFF(h1:PS X st t)(h2:PSs X rest u):PSs X (st::rest) (aMl t u):=by
 intro kK s Z H D I h;refine wpAny_execs_cons (thn (h1 kK s Z H {D with nx:=u D} I h) λ f s1 q=>?_);cases f with
 |next=>
  obtain⟨Z',H',I',q⟩:=q;exact h2 kK s1 Z' H' D I' q
 |ret v=>exact q
 |brk=>exact q
 |cont=>exact q
def aHe(h1:PS X st t):PSs X [st] t:=by
 intro kK s Z H D I h;refine wpAny_execs_cons (thn (h1 kK s Z H D I h) λ f s1 q=>?_);cases f with
 |next=>exact zFW q
 |ret v=>exact q
 |brk=>exact q
 |cont=>exact q
def Inv.quiet(I:Inv X kK Z H s):interactive X.env=false:=by simp[interactive,I.ok.kind]
def zr(te:TE):TS:=λ D Z H=>te Z H λ _ H1=>D.nx Z H1
def pL(he:PE X e te)(hs:zCt e none pos.line X.env=pure false:=by rfl):PS X (.Expr e pos) (zr te):=by
 intro kK s Z H D I h;exact wpAny_Expr_any (thn (he kK s Z H _ I h) λ v s1 ⟨x,H1,I1,r1,q1⟩=>⟨Z,H1,I1,q1⟩) I.quiet hs
def aMm(te:TE):TS:=λ D Z H=>te Z H D.rt
def aKS(he:PE X e te):PS X (.Return (some e) pos) (aMm te):=by
 intro kK s Z H D I h;exact wpAny_Return_some (thn (he kK s Z H _ I h) λ v s1 ⟨x,H1,I1,r1,q1⟩=>⟨x,Z,H1,I1,r1,q1⟩)
def aMq(c:TT)(t u:TS):TS:=λ D Z H=>c Z H λ b H1=>if b=true then t D Z H1 else u D Z H1
def aMD(hc:PT X c tc)(ha:PSs X a t)(hb:PSs X b u):PS X (.If c a b pos) (aMq tc t u):=by
 intro kK s Z H D I h;refine wpAny_If (thn (hc kK s Z H _ I h) λ d s1 ⟨H1,I1,q1⟩=>?_);cases d with
 |true=>exact ha kK s1 Z H1 D I1 q1
 |false=>exact hb kK s1 Z H1 D I1 q1
end
abbrev TG:=V->St->Hp->(St->Hp->Prop)->Prop
abbrev TGs:=List V->St->Hp->(St->Hp->Prop)->Prop
def PG(X:Cx)(target:Expr)(t:TG):Prop:=
 ∀(kK:hV) (s:zAF) (Z:St) (H:Hp) (v:V) (u:Value) (Q:St->Hp->Prop),Inv X kK Z H s->RelV v u->t v Z H Q->
  wpAny (model X.prog X.w) X.A (zFU target X.env u) (λ _ s'=>∃Z' H',Inv X kK Z' H' s'/\Q Z' H') X.xe s
def PGs(X:Cx)(ts:List Expr)(t:TGs):Prop:=
 ∀(kK:hV) (s:zAF) (Z:St) (H:Hp) (vs:List V) (us:List Value) (Q:St->Hp->Prop),Inv X kK Z H s->Vals vs us->t vs Z H Q->
  wpAny (model X.prog X.w) X.A (assignInOrder ((zDs ts X.env).map (·.2)) us) (λ _ s'=>∃Z' H',Inv X kK Z' H' s'/\Q Z' H') X.xe s
abbrev aM7:=V->V->V->Hp->(Hp->Prop)->Prop
def aMb(X:Cx)(t:aM7):Prop:=
 ∀(kK:hV) (s:zAF) (Z:St) (H:Hp) (o i v:V) (ov iv u:Value) (Q:Hp->Prop),Inv X kK Z H s->RelV o ov->RelV i iv->RelV v u->t o i v H Q->
  wpAny (model X.prog X.w) X.A (setItem ov iv u) (λ _ s'=>∃H',Inv X kK Z H' s'/\Q H') X.xe s
abbrev TIp:=V->V->Hp->VK->Prop
def PIp(X:Cx)(op:Operator)(t:TIp):Prop:=
 ∀(kK:hV) (s:zAF) (Z:St) (H:Hp) (x y:V) (v u:Value) (Q:VK),Inv X kK Z H s->RelV x v->RelV y u->t x y H Q->
  wpAny (model X.prog X.w) X.A (inplaceOp op v u) (EP X kK Z Q) X.xe s
section
variable{X:Cx}{pos:Pos}
def nW(i:Nat):TG:=λ v Z H Q=>Q (Z.set i (some v)) H
def aHl(hN:X.N.Nodup)(hi:X.N[i]? =some x)(hx:Loc X.env.scope x)(hf:X.fn x=true\/X.env.scope.names.lookup x=some .local:=by first|exact .inl rfl|exact .inr rfl|assumption):PG X (.Name x pos) (nW i):=by
 intro kK s Z H v u Q I r h;exact zGY (zu I hN hi hx r (λ s' I'=>⟨_,H,I',h⟩) hf)
def aLS:TGs:=λ vs Z H Q=>vs=[]/\Q Z H
def aGI(t:TG)(u:TGs):TGs:=λ vs Z H Q=>∃v r,vs=v::r/\t v Z H λ Z' H'=>u r Z' H' Q
def aHk:PGs X [] aLS:=by
 intro kK s Z H vs us Q I r h;obtain⟨e,h⟩:=h;subst e;cases r;exact assignInOrder_nil ⟨Z,H,I,h⟩
def aFN(h1:PG X e t)(h2:PGs X es u)
  (hs:(zDs (e::es) X.env).map (·.2)=zFU e X.env::(zDs es X.env).map (·.2):=by rfl):PGs X (e::es) (aGI t u):=by
 intro kK s Z H vs us Q I r h;obtain⟨v,vr,e1,h⟩:=h;subst e1;cases r with
 |cons r rr=>
  rw[hs];refine assignInOrder_cons (thn (h1 kK s Z H _ _ _ I r h) λ _ s1 ⟨Z1,H1,I1,q1⟩=>?_);exact h2 kK s1 Z1 H1 _ _ Q I1 rr q1
def aIc(K:zAA)(n:Nat)(t:TGs):TG:=λ v Z H Q=>∃a xs,v= .ref a/\SqT K H a xs/\xs.length=n/\t xs Z H Q
def aKW(hc:X.calm=true)(h:PGs X es t)
  (hn:(zDs es X.env).length=n:=by rfl)(hst:(zDs es X.env).findIdx? (·.1)=none:=by rfl):PG X (.Tuple es k pos) (aIc X.K n t):=by
 intro kK s Z H v u Q I r hw;obtain⟨a,xs,e1,hq,hl,hw⟩:=hw;subst e1;cases r;obtain⟨its,rv,ht,hz⟩:=I.tuple hq;refine assign_Tuple_tuple (I.ok.hd hc) ht (by simp[hn,<-hl,rv.length]) hst λ h' hx=>?_
 have I1:Inv X kK Z H {s with heap:=h'}:=I.kept (t':=s.toks) λ b o e=>hx b o (zAc (zA1 e)) e
 exact h kK _ Z H xs _ Q I1 (by simpa using rv) hw
def aE4(te:TE)(g:TG):TS:=λ D Z H=>te Z H λ x H1=>g x Z H1 D.nx
def aFI(hN:X.N.Nodup)(hi:X.N[i]? =some x)(hx:Loc X.env.scope x)(he:PE X e te)(hs:zCt e (some (.Name x pos')) pos.line X.env=pure false:=by rfl)(hf:X.fn x=true\/X.env.scope.names.lookup x=some .local:=by first|exact .inl rfl|exact .inr rfl|assumption):
  PS X (.Assign [.Name x pos'] e pos) (aE4 te (nW i)):=by
 intro kK s Z H D I h;refine wpAny_Assign_Name (thn (he kK s Z H _ I h) λ v s1 ⟨y,H1,I1,r1,q1⟩=>?_) hs;exact zu I1 hN hi hx r1 (λ s2 I2=>⟨_,H1,I2,q1⟩) hf
def aJK(to ti te:TE)(tget:V->V->Hp->VK->Prop)(tip:TIp)(tset:aM7):TS:=λ D Z H=>to Z H λ o H1=>ti Z H1 λ i H2=>tget o i H2 λ x H3=>te Z H3 λ y H4=>tip x y H4 λ z H5=>tset o i z H5 λ H6=>D.nx Z H6
def aMc(X:Cx)(t:V->V->Hp->VK->Prop):Prop:=
 ∀(kK:hV) (s:zAF) (Z:St) (H:Hp) (o i:V) (ov iv:Value) (Q:VK),Inv X kK Z H s->RelV o ov->RelV i iv->t o i H Q->
  wpAny (model X.prog X.w) X.A (zFB ov iv) (EP X kK Z Q) X.xe s
def aHg(ho:PE X o to)(hi:PE X i ti)(hg:aMc X tget)(he:PE X e te)(hp:PIp X op tip)(hs:aMb X tset)
  (ha:∀ov iv new,augStore i ov iv new=(do zDa [new,ov,iv] (setItem ov iv new);release [new,ov,iv] [];pure .next):=by intros;rfl):PS X (.AugAssign (.Subscript o i tpos) op e pos) (aJK to ti te tget tip tset):=by
 intro kK s Z H D I h;refine wpAny_AugAssign_SubscriptAny (thn (ho kK s Z H _ I h) λ ov s1 ⟨x1,H1,I1,r1,q1⟩=>?_) ha;refine thn (hi kK s1 Z H1 _ I1 q1) λ iv s2 ⟨x2,H2,I2,r2,q2⟩=>?_
 refine thn (hg kK s2 Z H2 x1 x2 ov iv _ I2 r1 r2 q2) λ old s3 ⟨x3,H3,I3,r3,q3⟩=>?_
 refine thn (he kK s3 Z H3 _ I3 q3) λ v s4 ⟨x4,H4,I4,r4,q4⟩=>?_
 refine thn (hp kK s4 Z H4 x3 x4 old v _ I4 r3 r4 q4) λ new s5 ⟨x5,H5,I5,r5,q5⟩=>?_
 exact thn (hs kK s5 Z H5 x1 x2 x5 ov iv new _ I5 r1 r2 r5 q5) λ _ s6 ⟨H6,I6,q6⟩=>⟨Z,H6,I6,q6⟩
def ipI(f:Int->Int->Int):TIp:=λ x y H Q=>∃i j,x= .int i/\y= .int j/\Q (.int (f i j)) H
def aLI:PIp X .Sub (ipI λ i j=>i-j):=by
 intro kK s Z H x y v u Q I r1 r2 h;obtain⟨i,j,e1,e2,q⟩:=h;subst e1;subst e2;obtain⟨t,rfl⟩:=r1;obtain⟨t',rfl⟩:=r2;exact isub_int ⟨.int _,H,I.tok _,⟨_,rfl⟩,q⟩
end
section
variable{X:Cx}{pos:Pos}
def aJv(c:TT)(tb:TS):TS:=λ D Z H=>∃W:Nat->St->Hp->Prop,(∃m,W m Z H)/\∀m Z H,W m Z H->
 c Z H λ b H1=>if b=true then∃N:St->Hp->Prop,(∀Z' H',N Z' H'->∃m',m'<m/\W m' Z' H')/\tb {D with nx:=N,ct:=N,bk:=D.nx} Z H1 else D.nx Z H1
def aFG(hp:zI5 (model X.prog X.w) X.A X.env X.xe)(hc:PT X c tc)(hb:PSs X body tb):PS X (.While c body [] pos) (aJv tc tb):=by
 intro kK s Z H D I h;obtain⟨W,⟨m0,w0⟩,turn⟩:=h;refine wpAny_While (codeAny_whileLoop (λ n s'=>∃Z' H',Inv X kK Z' H' s'/\W n Z' H') ?_ m0 ⟨Z,H,I,w0⟩);rintro n s1 ⟨Z1,H1,I1,w1⟩;refine zDJ hp (thn (hc kK s1 Z1 H1 _ I1 (turn n Z1 H1 w1)) λ b s2 ⟨H2,I2,q2⟩=>?_);cases b with
 |true=>
  obtain⟨N,hN,q2⟩:=q2;rw[if_pos rfl];refine zDJ hp (thn (hb kK s2 Z1 H2 _ I2 q2) λ f s3 q3=>?_);cases f with
  |next=>
   obtain⟨Z3,H3,I3,n3⟩:=q3;obtain⟨m',hm,w3⟩:=hN Z3 H3 n3;exact⟨m',hm,Z3,H3,I3,w3⟩
  |cont=>
   obtain⟨Z3,H3,I3,n3⟩:=q3;obtain⟨m',hm,w3⟩:=hN Z3 H3 n3;exact⟨m',hm,Z3,H3,I3,w3⟩
  |brk=>exact q3
  |ret v=>exact q3
 |false=>
  rw[if_neg zAS];exact zFW ⟨Z1,H2,I2,q2⟩
end
structure It where
 go:Nat->Hp->Prop
 yld:Nat->Hp->V->Hp->Prop
 stop:Nat->Hp->Prop
def rA(X:Cx)(kK:hV)(H:Hp)(b:Addr):Prop:=
 H b=none/\b≠X.env.locals/\b∉X.fs/\(b∈X.ex\/X.z5.heap.objs.size<=b)/\(∀x c,X.env.cells.lookup x=some c->c≠b)/\∀p∈X.ta++(X.pn++kK),p.1≠b
def Inv.fpOk(I:Inv X kK Z H s)(hb:s.heap.objs.size<=b)(hn:H' b=none):rA X kK H' b:=by
 refine⟨hn,zCz (zA8 I.lt hb),I.nofs hb,.inr (zBB I.sz hb),λ x c e z=>?_,λ p hp z=>?_⟩
 .obtain⟨v,q⟩:=I.cell x c e
  exact absurd (zA8 q.lt (by rw[z];exact hb)) (zBo _)
 .exact absurd (zA8 (I.pinL hp) (by rw[z];exact hb)) (zBo _)
structure Turn(P:zA7)(w:World)(K:zAA)(tg:Expr)(J:It)(fp:List Addr)(it:Addr)(tn:Nat->Heap->Prop):Prop where
 mem:it∈fp
 obj:∀i h,tn i h->∀b∈fp,∃o,h.get? b=some o/\∀v,o.data≠.cell v
 keep:∀i h h',tn i h->(∀b∈fp,∀o,h.get? b=some o->h'.get? b=some o)->tn i h'
 item:∀(X:Cx),X.prog=P->X.w=w->X.K=K->X.calm=true->∀(i:Nat) (kK:hV) (s:zAF) (Z:St) (H:Hp) (E:Value->zAF->Prop),Inv X kK Z H s->(∀b∈fp,rA X kK H b)->tn i s.heap->J.go i H->
  wpAny (model P w) X.A (zGA (.ref it)) (λ r s1=>∃u,r=some u/\
   wpAny (model P w) X.A (zDb tg (.ref it) u) (λ _ s2=>∃x H',Inv X kK Z H' s2/\RelV x u/\J.yld i H x H'/\tn (i+1) s2.heap/\∀b∈fp,H' b=none) E s1) E s
 done:∀(X:Cx),X.prog=P->X.w=w->X.K=K->X.calm=true->∀(i:Nat) (kK:hV) (s:zAF) (Z:St) (H:Hp) (E:Value->zAF->Prop),Inv X kK Z H s->(∀b∈fp,rA X kK H b)->tn i s.heap->J.stop i H->
  wpAny (model P w) X.A (zGA (.ref it)) (λ r s1=>r=none/\Inv X kK Z H s1) E s
 self:∀(A:zAt) (i:Nat) (s:zAF) (Q:Value->zAF->Prop) (E:Value->zAF->Prop),tn i s.heap->Q (.ref it) s->wpAny (model P w) A (zHa (.ref it)) Q E s
abbrev TI:=St->Hp->(It->Hp->Prop)->Prop
def PIE(X:Cx)(kK:hV)(Z:St)(tg:Expr)(R:It->Hp->Prop)(itv:Value)(s2:zAF):Prop:=
 ∃(it:Addr) (fp:List Addr) (tn:Nat->Heap->Prop) (J:It) (H':Hp),itv= .ref it/\Inv X kK Z H' s2/\Turn X.prog X.w X.K tg J fp it tn/\tn 0 s2.heap/\(∀b∈fp,rA X kK H' b)/\R J H'
def PI(X:Cx)(tg iter:Expr)(wi:TI):Prop:=
 ∀(kK:hV) (s:zAF) (Z:St) (H:Hp) (R:It->Hp->Prop),Inv X kK Z H s->wi Z H R->
  wpAny (model X.prog X.w) X.A (eval iter X.env) (λ v s1=>wpAny (model X.prog X.w) X.A (zHa v) (PIE X kK Z tg R) X.xe s1) X.xe s
def aGD(ho:s.heap.get? it=some o)(hc:o.cls= .type n)(hd:o.data= .fields vs)
    (hn:["enumerate","zip","dict_itemiterator","dict_reverseitemiterator","odict_iterator","itertools.zip_longest","itertools.pairwise"].contains n=false)(hQ:Q () s):wpAny M A (zDb tg (.ref it) u) Q E s:=by
  unfold zDb;cases tg<;>first
    |exact zAJ hQ
    | (cases u <;> first
        |exact zAJ hQ
        | (refine zAB (wpAny_load ho ?_)
           rw[hc,hd];show wpAny M A (if (["enumerate","zip","dict_itemiterator","dict_reverseitemiterator","odict_iterator","itertools.zip_longest","itertools.pairwise"].contains n&&vs[0]? ==some (rawInt _))=true then _ else _) Q E s;rw[if_neg (by intro h;rw[hn,zIm]at h;cases h)];exact zAJ hQ))
def Itl(K:zAA)(a:Addr):It:=
 ⟨λ i H=>∃xs x,SqL K H a xs/\xs[i]? =some x,λ i H x H'=>H'=H/\∀xs,SqL K H a xs->xs[i]? =some x,λ i H=>∃xs,SqL K H a xs/\xs.length<=i⟩
def Itt(K:zAA)(a:Addr):It:=
 ⟨λ i H=>∃xs x,SqT K H a xs/\xs[i]? =some x,λ i H x H'=>H'=H/\∀xs,SqT K H a xs->xs[i]? =some x,λ i H=>∃xs,SqT K H a xs/\xs.length<=i⟩
def Itr(lo:Int)(n:Nat):It:=⟨λ i _=>i<n,λ i H x H'=>H'=H/\x= .int (lo+i),λ i _=>n<=i⟩
def aDU{P:zA7}{w:World}{K:zAA}{tg:Expr}(a it:Addr):Turn P w K tg (Itl K a) [it] it (λ i h=>h.IsListIter it a i) where
 mem:=by simp
 obj:=λ i h st b hb=>by
  have e:b=it:=by simpa using hb
  subst e;obtain⟨o,e,c,d⟩:=st;exact⟨o,e,λ v z=>by rw[d]at z;cases z⟩
 keep:=λ i h h' st k=>st.at λ o e=>k it (by simp) o e
 item:=by
  intro X hP hw hK hc i kK s Z H E I hf st hg;subst hP hw hK;obtain⟨xs,x,hq,hx⟩:=hg;obtain⟨its,rv,p,hz⟩:=I.list hq;obtain⟨u,hu,ru⟩:=rv.get hx;obtain⟨f0,f1,f2,f3,f4,f5⟩:=hf it (by simp);refine wpAny_pyNext_list_item st p.isList (x:=u) (by simpa using hu) λ h' st' sb=>?_
  have I1:Inv X kK Z H {s with heap:=h'}:=I.turned (t':=s.toks) (λ b o hb e=>(sb.2 b hb).trans e) f0 f1 f3 f4 f5;obtain⟨o,e,c,d⟩:=id st';exact⟨u,rfl,aGD (s:={s with heap:=h'}) e c d (by decide) ⟨x,H,I1,ru,⟨rfl,λ ys hy=>by rw[I.list_inj hy hq];exact hx⟩,st',λ b hb=>(hf b hb).1⟩⟩
 done:=by
  intro X hP hw hK hc i kK s Z H E I hf st hg;subst hP hw hK;obtain⟨xs,hq,hx⟩:=hg;obtain⟨its,rv,p,hz⟩:=I.list hq;obtain⟨f0,f1,f2,f3,f4,f5⟩:=hf it (by simp);have hl:=rv.length;exact wpAny_pyNext_list_end (I.ok.hd hc) st p.isList (by simp;lia) λ h' eb=>⟨rfl,I.turned (t':=s.toks) (λ b o hb e=>eb b o hb e) f0 f1 f3 f4 f5⟩
 self:=λ _ _ _ _ _ st h=>wpAny_pyIter_listiter st h
def aBW{P:zA7}{w:World}{K:zAA}{tg:Expr}(a it:Addr):Turn P w K tg (Itt K a) [it] it (λ i h=>h.IsTupleIter it a i) where
 mem:=by simp
 obj:=λ i h st b hb=>by
  have e:b=it:=by simpa using hb
  subst e;obtain⟨o,e,c,d⟩:=st;exact⟨o,e,λ v z=>by rw[d]at z;cases z⟩
 keep:=λ i h h' st k=>st.at λ o e=>k it (by simp) o e
 item:=by
  intro X hP hw hK hc i kK s Z H E I hf st hg;subst hP hw hK;obtain⟨xs,x,hq,hx⟩:=hg;obtain⟨its,rv,p,hz⟩:=I.tuple hq;obtain⟨u,hu,ru⟩:=rv.get hx;obtain⟨f0,f1,f2,f3,f4,f5⟩:=hf it (by simp);refine wpAny_pyNext_tuple_item st (show s.heap.IsTuple a its.toArray from p) (x:=u) (by simpa using hu) λ h' st' sb=>?_
  have I1:Inv X kK Z H {s with heap:=h'}:=I.turned (t':=s.toks) (λ b o hb e=>(sb.2 b hb).trans e) f0 f1 f3 f4 f5;obtain⟨o,e,c,d⟩:=id st';exact⟨u,rfl,aGD (s:={s with heap:=h'}) e c d (by decide) ⟨x,H,I1,ru,⟨rfl,λ ys hy=>by rw[I.tuple_inj hy hq];exact hx⟩,st',λ b hb=>(hf b hb).1⟩⟩
 done:=by
  intro X hP hw hK hc i kK s Z H E I hf st hg;subst hP hw hK;obtain⟨xs,hq,hx⟩:=hg;obtain⟨its,rv,p,hz⟩:=I.tuple hq;obtain⟨f0,f1,f2,f3,f4,f5⟩:=hf it (by simp);have hl:=rv.length;exact wpAny_pyNext_tuple_end (I.ok.hd hc) st (show s.heap.IsTuple a its.toArray from p) (by simp;lia) λ h' eb=>⟨rfl,I.turned (t':=s.toks) (λ b o hb e=>eb b o hb e) f0 f1 f3 f4 f5⟩
 self:=λ _ _ _ _ _ st h=>wpAny_pyIter_tupleiter st h
def aBX{P:zA7}{w:World}{K:zAA}{tg:Expr}(it:Addr)(lo:Int)(n:Nat):Turn P w K tg (Itr lo n) [it] it (λ i h=>IsRangeIter h it (lo+(i:Nat)*1) ((n:Int)-(i:Nat)) 1) where
 mem:=by simp
 obj:=λ i h st b hb=>by
  have e:b=it:=by simpa using hb
  subst e;exact⟨_,st,λ v z=>by
   have z':Data.fields _=Data.cell v:=z;cases z'⟩
 keep:=λ i h h' st k=>k it (by simp) _ st
 item:=by
  intro X hP hw hK hc i kK s Z H E I hf st hg;subst hP hw hK;obtain⟨f0,f1,f2,f3,f4,f5⟩:=hf it (by simp);have W:=Walks.range (prog:=X.prog) (w:=X.w) (I.ok.hd hc) it lo 1 n;refine W.item i s _ _ hg st λ v h' tk hv st' kk=>?_
  obtain⟨t,rfl⟩:=hv;have I1:Inv X kK Z H {s with heap:=h',toks:=tk}:=I.turned (λ b o hb e=>kk b o (by simpa using hb) e) f0 f1 f3 f4 f5;refine⟨_,rfl,aGD (s:={s with heap:=h',toks:=tk}) (n:="range_iterator") st' rfl rfl (by decide) ⟨.int (lo+i),H,I1,⟨t,?_⟩,⟨rfl,rfl⟩,st',λ b hb=>(hf b hb).1⟩⟩;rw[Int.mul_one]
 done:=by
  intro X hP hw hK hc i kK s Z H E I hf st hg;subst hP hw hK;obtain⟨f0,f1,f2,f3,f4,f5⟩:=hf it (by simp);exact wpAny_pyNext_range_end (I.ok.hd hc) st (by have:n<=i:=hg;lia) λ h' eb=>⟨rfl,I.turned (t':=s.toks) (λ b o hb e=>eb b o hb e) f0 f1 f3 f4 f5⟩
 self:=λ _ _ _ _ _ st h=>wpAny_pyIter_rangeiter st h
section
variable{X:Cx}{tg:Expr}
def aAS{kK:hV}{Z:St}{H:Hp}{s:zAF}{R:It->Hp->Prop}{E:Value->zAF->Prop}{lo hi:Int}{t u v:Tok}{tk:Nat}(I:Inv X kK Z H s)(h1: -(2^62)<=lo)(h2:lo<2^62)(h3: -(2^62)<=hi)(h4:hi<2^62)
  (q:R (Itr lo (hi-lo).toNat) H):wpAny (model X.prog X.w) X.A (zHa (.ref s.heap.objs.size)) (PIE X kK Z tg R) E {s with heap:=s.heap.push {cls:=.type "range",data:=.fields #[.int lo t,.int hi u,.int 1 v]},toks:=tk}:=by
 refine wpAny_pyIter_range (IsRange.new ..) (small_one h1 h2 h3 h4) ?_;have I1:Inv X kK Z H {s with heap:=s.heap.push {cls:=.type "range",data:=.fields #[.int lo t,.int hi u,.int 1 v]},toks:=tk}:=I.kept λ b o e=>zAD _ e
 refine⟨(s.heap.push {cls:=.type "range",data:=.fields #[.int lo t,.int hi u,.int 1 v]}).objs.size,[(s.heap.push {cls:=.type "range",data:=.fields #[.int lo t,.int hi u,.int 1 v]}).objs.size],_,_,H,rfl,
  I1.kept (t':=tk) λ b o e=>zAD _ e,aBX _ lo (hi-lo).toNat,?_,λ b hb=>?_,q⟩
 .have e1:lo+((0:Nat):Int)*1=lo:=by simp
  have e2:(((hi-lo).toNat:Nat):Int)-((0:Nat):Int)=zEA lo hi 1:=by rw[rangeSize_one];split<;>lia
  show IsRangeIter _ _ (lo+((0:Nat):Int)*1) ((((hi-lo).toNat:Nat):Int)-((0:Nat):Int)) 1;rw[e1,e2];exact zAY _ rfl
 .have e:b=(s.heap.push {cls:=.type "range",data:=.fields #[.int lo t,.int hi u,.int 1 v]}).objs.size:=by simpa using hb
  subst e;exact I1.fpOk (zAW _) (I1.hok.fresh (zAW _))
def aMY(ta:TA):TI:=λ Z H R=>ta Z H λ vs H1=>∃j:Int,vs=[.int j]/\-(2^62)<=j/\j<2^62/\R (Itr 0 j.toNat) H1
def aMX(ta:TA):TI:=λ Z H R=>ta Z H λ vs H1=>∃i j:Int,vs=[.int i,.int j]/\(-(2^62)<=i/\i<2^62/\-(2^62)<=j/\j<2^62)/\R (Itr i (j-i).toNat) H1
def aDc{a:Expr}{ta:TA}{p pos:Pos}(hg:Gl X "range")(hm:X.mg "range"=none)(ha:PA X [a] ta)(hs:zA4 [a] X.env=[(false,eval a X.env)]:=by rfl):PI X tg (.Call (.Name "range" p) [a] [] pos) (aMY ta):=by
 intro kK s Z H R I h;refine Call_ (vC I hg hm zJX (zD7 (thn (ha pos kK s Z H _ I h) λ us s1 ⟨vs,H1,I1,r1,q1⟩=>?_) hs rfl));obtain⟨j,e,q1,q2,q⟩:=q1;subst e;cases r1 with
 |cons r rr=>
  cases rr;obtain⟨t,rfl⟩:=r;exact call_range_1 (aAS I1 (by lia) (by lia) q1 q2 (by simpa using q))
def aDb(hg:Gl X "range")(hm:X.mg "range"=none)(ha:PA X [a,b] ta)(hs:zA4 [a,b] X.env=[(false,eval a X.env),(false,eval b X.env)]:=by rfl)(hs2:zA4 [b] X.env=[(false,eval b X.env)]:=by rfl):
  PI X tg (.Call (.Name "range" p) [a,b] [] pos) (aMX ta):=by
 intro kK s Z H R I h;refine Call_ (vC I hg hm zJX (zD7 (thn (ha pos kK s Z H _ I h) λ us s1 ⟨vs,H1,I1,r1,q1⟩=>?_) (by rw[hs,hs2]) (by rw[hs2];rfl)));obtain⟨i,j,e,⟨q1,q2,q3,q4⟩,q⟩:=q1;subst e;cases r1 with
 |cons r rr=>
  cases rr with
  |cons r' rr=>
   cases rr;obtain⟨t,rfl⟩:=r;obtain⟨t',rfl⟩:=r';exact call_range_2 (aAS I1 q1 q2 q3 q4 q)
def aMr(wi:TI)(g:TG)(tb:TS):TS:=λ D Z H=>wi Z H λ J H1=>∃W:Nat->Nat->St->Hp->Prop,(∃m,W 0 m Z H1)/\∀i m Z H,W i m Z H->
 (J.stop i H/\D.nx Z H)\/(J.go i H/\∃N:St->Hp->Prop,(∀Z' H',N Z' H'->∃m',m'<m/\W (i+1) m' Z' H')/\∀x H',J.yld i H x H'->g x Z H' λ Z2 H2=>tb {D with nx:=N,ct:=N,bk:=D.nx} Z2 H2)
def qe(fp:List Addr)(h:Heap):hV:=fp.filterMap λ b=>(h.get? b).map λ o=>(b,o)
def jz(hb:b∈fp)(e:h.get? b=some o):(b,o)∈qe fp h:=zCJ.mpr ⟨b,hb,by rw[e];rfl⟩
def wY(hp:p∈qe fp h):p.1∈fp/\h.get? p.1=some p.2:=by
 obtain⟨b,hb,e⟩:=zCJ.mp hp;cases q:h.get? b with
 |none=>rw[q]at e;cases e
 |some o=>
  rw[q]at e;have e':(b,o)=p:=zAh e;subst e';exact⟨hb,q⟩
def Inv.pinned(I:Inv X kK Z H s)(hf:∀b∈fp,rA X kK H b)(ho:∀b∈fp,∃o,s.heap.get? b=some o/\∀v,o.data≠.cell v):Inv X (kK++qe fp s.heap) Z H s:=
 I.pins_of (λ p hp=>(zA9.mp hp).elim (λ z=>I.pin p (zAi _ z)) λ z=>by
  obtain⟨hb,e⟩:=wY z;obtain⟨f0,f1,f2,_⟩:=hf p.1 hb;obtain⟨o,e',d⟩:=ho p.1 hb;rw[e]at e';cases e';exact⟨e,f0,f1,f2,d⟩) λ q hq p hp=>(zA9.mp hq).elim (λ z=>(I.tab p hp).2.2.2.1 q (zAi _ z)) λ z=>((hf q.1 (wY z).1).2.2.2.2.2 p (zBP _ hp)).symm
def Inv.unpinned(I:Inv X (kK++pl) Z H s):Inv X kK Z H s:=I.pins_of (λ p hp=>I.pin p (zAi _ (zBP _ hp))) λ q hq p hp=>(I.tab p hp).2.2.2.1 q (zAi _ (zBP _ hq))
def aKT(hp:zI5 (model X.prog X.w) X.A X.env X.xe)(hc:X.calm=true)(hi:PI X tg iter wi)(hg:PG X tg g)(hb:PSs X body tb)
  (hs:∀x,zCI iter X.env x=pure x:=by intro _;rfl):PS X (.For tg iter body [] pos) (aMr wi g tb):=by
 intro kK s Z H D I h;refine wpAny_For (thn (hi kK s Z H _ I h) λ v s1 h1=>thn h1 λ itv s2 h2=>?_) hs;obtain⟨it,fp,tn,J,H2,e,I2,T,st2,f2,W,⟨m0,w0⟩,turn⟩:=h2;subst e;have aT:∀{H':Hp},(∀b∈fp,H' b=none)->∀b∈fp,rA X kK H' b:=λ hn b hb=>⟨hn b hb,(f2 b hb).2⟩
 refine codeAny_forLoop_any (λ n s'=>∃i Z' H',Inv X kK Z' H' s'/\tn i s'.heap/\(∀b∈fp,H' b=none)/\W i n Z' H') ?_ m0 ⟨0,Z,H2,I2,st2,λ b hb=>(f2 b hb).1,w0⟩;rintro n s3 ⟨i,Z3,H3,I3,st3,fr3,w3⟩;rcases turn i n Z3 H3 w3 with ⟨stop,qn⟩|⟨go,N,hN,step⟩
 .refine zDJ hp (thn (T.done X rfl rfl rfl hc i kK s3 Z3 H3 X.xe I3 (aT fr3) st3 stop) λ r s4 ⟨hr,I4⟩=>?_)
  subst hr;exact zFW ⟨Z3,H3,I4,qn⟩
 .refine zDJ hp (thn (T.item X rfl rfl rfl hc i kK s3 Z3 H3 X.xe I3 (aT fr3) st3 go) λ r s4 ⟨u,hr,h4⟩=>?_)
  subst hr;refine zDJ hp (thn h4 λ _ s5 ⟨x,H5,I5,r5,y5,st5,fr5⟩=>?_);have I5':=I5.pinned (aT fr5) (T.obj _ _ st5);refine zDJ hp (thn (hg _ s5 Z3 H5 x u _ I5' r5 (step x H5 y5)) λ _ s6 ⟨Z6,H6,I6,q6⟩=>?_);refine zDJ hp (thn (hb _ s6 Z6 H6 _ I6 q6) λ f s7 q7=>?_);have again:∀{Z7:St} {H7:Hp},Inv X (kK++qe fp s5.heap) Z7 H7 s7->N Z7 H7->∃m,m<n/\∃i Z' H',Inv X kK Z' H' s7/\tn i s7.heap/\(∀b∈fp,H' b=none)/\W i m Z' H':=λ{Z7 H7} I7 n7=>by
   obtain⟨m',hm,w7⟩:=hN Z7 H7 n7;refine⟨m',hm,i+1,Z7,H7,I7.unpinned,T.keep _ _ _ st5 λ b hb o e=>(I7.pin (b,o) (zAi _ (zAi _ (jz hb e)))).1,λ b hb=>?_,w7⟩;obtain⟨o,e,d⟩:=T.obj _ _ st5 b hb;exact(I7.pin (b,o) (zAi _ (zAi _ (jz hb e)))).2.1
  cases f with
  |next=>obtain⟨Z7,H7,I7,n7⟩:=q7;exact again I7 n7
  |cont=>obtain⟨Z7,H7,I7,n7⟩:=q7;exact again I7 n7
  |brk=>obtain⟨Z7,H7,I7,q7⟩:=q7;exact⟨Z7,H7,I7.unpinned,q7⟩
  |ret v=>obtain⟨x7,Z7,H7,I7,r7,q7⟩:=q7;exact⟨x7,Z7,H7,I7.unpinned,r7,q7⟩
end
abbrev R2:=V->V->Hp->VK->Prop
def OpR(X:Cx)(f:Value->Value->Sem Value)(r:R2):Prop:=
 ∀(kK:hV) (s:zAF) (Z:St) (H:Hp) (x y:V) (v u:Value) (Q:VK),Inv X kK Z H s->RelV x v->RelV y u->r x y H Q->
  wpAny (model X.prog X.w) X.A (f v u) (EP X kK Z Q) X.xe s
def UnR(X:Cx)(f:Value->Sem Value)(r:V->Hp->VK->Prop):Prop:=
 ∀(kK:hV) (s:zAF) (Z:St) (H:Hp) (x:V) (v:Value) (Q:VK),Inv X kK Z H s->RelV x v->r x H Q->
  wpAny (model X.prog X.w) X.A (f v) (EP X kK Z Q) X.xe s
def cI(X:Cx)(f:Value)(r:List V->Hp->VK->Prop):Prop:=
 ∀(kK:hV) (s:zAF) (Z:St) (H:Hp) (xs:List V) (us:List Value) (Q:VK),Inv X kK Z H s->Vals xs us->r xs H Q->
  wpAny (model X.prog X.w) X.A (call f us) (EP X kK Z Q) X.xe s
def aNA(X:Cx)(r:V->Hp->(Bool->Hp->Prop)->Prop):Prop:=
 ∀(kK:hV) (s:zAF) (Z:St) (H:Hp) (x:V) (v:Value) (Q:Bool->Hp->Prop),Inv X kK Z H s->RelV x v->r x H Q->
  wpAny (model X.prog X.w) X.A (truthy v) (TP X kK Z Q) X.xe s
def tOp(r:R2)(ta tb:TE):TE:=λ Z H Q=>ta Z H λ x H1=>tb Z H1 λ y H2=>r x y H2 Q
def tUn(r:V->Hp->VK->Prop)(ta:TE):TE:=λ Z H Q=>ta Z H λ x H1=>r x H1 Q
def rI(C:Int->Int->Prop)(g:Int->Int->V):R2:=λ x y H Q=>∃i j,x= .int i/\y= .int j/\C i j/\Q (g i j) H
def rI0(g:Int->Int->V):R2:=λ x y H Q=>∃i j,x= .int i/\y= .int j/\Q (g i j) H
def rU(g:Int->V):V->Hp->VK->Prop:=λ x H Q=>∃i,x= .int i/\Q (g i) H
section
variable{X:Cx}{a b:Expr}{ta tb:TE}{pos:Pos}
def aL7(ha:PE X a ta)(hb:PE X b tb){kK:hV}{s:zAF}{Z:St}{H:Hp}{R:V->V->Hp->Prop}(I:Inv X kK Z H s)
  (h:ta Z H λ x H1=>tb Z H1 λ y H2=>R x y H2){Q:Value->zAF->Prop}{f:Value->Value->Sem Value}
  (hf:∀v u s2 x y H2,Inv X kK Z H2 s2->RelV x v->RelV y u->R x y H2->wpAny (model X.prog X.w) X.A (f v u) Q X.xe s2):
  wpAny (model X.prog X.w) X.A (eval a X.env) (λ v z0=>wpAny (model X.prog X.w) X.A (eval b X.env) (λ u z4=>wpAny (model X.prog X.w) X.A (f v u) Q X.xe z4) X.xe z0) X.xe s:=by
 refine thn (ha kK s Z H _ I h) λ v s1 ⟨x,H1,I1,r1,q1⟩=>?_
 refine thn (hb kK s1 Z H1 _ I1 q1) λ u s2 ⟨y,H2,I2,r2,q2⟩=>?_
 exact hf v u s2 x y H2 I2 r1 r2 q2
def aME{op:Operator}{r:R2}(ho:OpR X (zCl op) r)(ha:PE X a ta)(hb:PE X b tb):PE X (.BinOp a op b pos) (tOp r ta tb):=by
 intro kK s Z H Q I h;exact wpAny_BinOp (aL7 ha hb I h λ v u s2 x y H2 I2 rx ry q=>ho kK s2 Z H2 x y v u Q I2 rx ry q)
def aJ4(ho:UnR X (unaryOp op) r)(ha:PE X a ta):PE X (.UnaryOp op a pos) (tUn r ta):=by
 intro kK s Z H Q I h;exact UnaryOp_ (thn (ha kK s Z H _ I h) λ v s1 ⟨x,H1,I1,r1,q1⟩=>ho kK s1 Z H1 x v Q I1 r1 q1)
def opI{f:Value->Value->Sem Value}{C:Int->Int->Prop}{g:Int->Int->Int}
  (rule:∀(i j:Int) (t u:Tok) (s:zAF) (Q:Value->zAF->Prop) (E:Value->zAF->Prop),C i j->Q (.int (g i j) s.toks) {s with toks:=s.toks+1}->wpAny (model X.prog X.w) X.A (f (.int i t) (.int j u)) Q E s):
  OpR X f (rI C λ i j=>.int (g i j)):=by
 intro kK s Z H x y v u Q I rx ry h;obtain⟨i,j,rfl,rfl,hc,q⟩:=h;obtain⟨t,rfl⟩:=rx;obtain⟨t',rfl⟩:=ry;exact rule i j t t' s _ _ hc ⟨.int (g i j),H,I.tok _,⟨_,rfl⟩,q⟩
def aMN{f:Value->Value->Sem Value}{g:Int->Int->Int}
  (rule:∀(i j:Int) (t u:Tok) (s:zAF) (Q:Value->zAF->Prop) (E:Value->zAF->Prop),Q (.int (g i j) s.toks) {s with toks:=s.toks+1}->wpAny (model X.prog X.w) X.A (f (.int i t) (.int j u)) Q E s):
  OpR X f (rI0 λ i j=>.int (g i j)):=by
 intro kK s Z H x y v u Q I rx ry h;obtain⟨i,j,rfl,rfl,q⟩:=h;obtain⟨t,rfl⟩:=rx;obtain⟨t',rfl⟩:=ry;exact rule i j t t' s _ _ ⟨.int (g i j),H,I.tok _,⟨_,rfl⟩,q⟩
def aIF{f:Value->Value->Sem Value}{g:Int->Int->Bool}
  (rule:∀(i j:Int) (t u:Tok) (s:zAF) (Q:Value->zAF->Prop) (E:Value->zAF->Prop),Q (.bool (g i j)) s->wpAny (model X.prog X.w) X.A (f (.int i t) (.int j u)) Q E s):
  OpR X f (rI0 λ i j=>.bl (g i j)):=by
 intro kK s Z H x y v u Q I rx ry h;obtain⟨i,j,rfl,rfl,q⟩:=h;obtain⟨t,rfl⟩:=rx;obtain⟨t',rfl⟩:=ry;exact rule i j t t' s _ _ ⟨.bl (g i j),H,I,rfl,q⟩
def aMh(i j:Int):Prop:=0<j/\j<1073741824
def aNF(i j:Int):Prop:=0<=j/\j<=1000000/\i.natAbs<2^64
def aJE(i j:Int):Prop:=(-(2^64)<i/\i<2^64)\/(-(2^64)<j/\j<2^64)
def aJE.ok(h:aJE i j):IntMulOk i j:=by
 rcases h with ⟨h1,h2⟩|⟨h1,h2⟩
 .exact .of_left (intBits_le_64 h1 h2)
 .exact .of_right (intBits_le_64 h1 h2)
def aKn:OpR X (zCl .Add) (rI0 λ i j=>.int (i+j)):=aMN λ _ _ _ _ _ _ _ q=>add_int q
def aK8:OpR X (zCl .Sub) (rI0 λ i j=>.int (i-j)):=aMN λ _ _ _ _ _ _ _ q=>sub_int q
def aKc:OpR X (zCl .Mult) (rI aJE λ i j=>.int (i*j)):=opI λ _ _ _ _ _ _ _ hc q=>mul_int q hc.ok
def aIA:OpR X (zCl .FloorDiv) (rI aMh λ i j=>.int (i / j)):=opI λ i j _ _ _ _ _ hc q=>by
 have h1:(0:Int)<j:=hc.1;have h2:j<1073741824:=hc.2;exact floordiv_int (by lia) (by rw[Int.fdiv_eq_ediv_of_nonneg i (by lia)];exact q) (.inl (PyProof.noPylong_small (by lia)))
def aKd:OpR X (zCl .Mod) (rI (λ _ j=>0<j) λ i j=>.int (i%j)):=opI λ i j _ _ _ _ _ hc q=>by
 have h1:(0:Int)<j:=hc;exact mod_int' (by lia) (by rw[Int.fmod_eq_emod_of_nonneg i (by lia)];exact q)
def aKa:OpR X (zCl .Pow) (rI aNF λ i j=>.int (i^j.toNat)):=opI λ _ _ _ _ _ _ _ hc q=>pow_int_small hc.1 hc.2.1 hc.2.2 q
def unI{f:Value->Sem Value}{g:Int->Int}
  (rule:∀(i:Int) (t:Tok) (s:zAF) (Q:Value->zAF->Prop) (E:Value->zAF->Prop),Q (.int (g i) s.toks) {s with toks:=s.toks+1}->wpAny (model X.prog X.w) X.A (f (.int i t)) Q E s):
  UnR X f (rU λ i=>.int (g i)):=by
 intro kK s Z H x v Q I rx h;obtain⟨i,rfl,q⟩:=h;obtain⟨t,rfl⟩:=rx;exact rule i t s _ _ ⟨.int (g i),H,I.tok _,⟨_,rfl⟩,q⟩
def aEY:UnR X (unaryOp .USub) (rU λ i=>.int (-i)):=unI λ _ _ _ _ _ q=>neg_int q
end
section
variable{X:Cx}{a b c:Expr}{ta tb tc:TE}{pos:Pos}
def aCU(I:Inv X kK Z H s)(q:Q (.bl k) H)(e:k=k'):EP X kK Z Q (.bool k') s:=by
 subst e;exact⟨.bl k,H,I,rfl,q⟩
def aMK:OpR X (zBK .Lt) (rI0 λ i j=>.bl (decide (i<j))):=aIF λ _ _ _ _ _ _ _ q=>lt_int q
def aML:OpR X (zBK .LtE) (rI0 λ i j=>.bl (decide (i<=j))):=aIF λ _ _ _ _ _ _ _ q=>le_int q
def aJ8:OpR X (zBK .Gt) (rI0 λ i j=>.bl (decide (j<i))):=aIF λ _ _ _ _ _ _ _ q=>gt_int q
def aMM:OpR X (zBK .GtE) (rI0 λ i j=>.bl (decide (j<=i))):=aIF λ _ _ _ _ _ _ _ q=>ge_int q
def aKj:OpR X (zBK .Is) (λ x y H Q=>y= .non/\Q (.bl (decide (x= .non))) H):=by
 intro kK s Z H x y v u Q I rx ry h;obtain⟨rfl,q⟩:=h;cases ry;refine is_none_gen (aCU I q ?_);cases x<;>first
  |(cases rx;rfl)
  |(obtain⟨t,rfl⟩:=rx;rfl)
def aCq:OpR X (zBK .IsNot) (λ x y H Q=>y= .non/\Q (.bl (!decide (x= .non))) H):=by
 intro kK s Z H x y v u Q I rx ry h;obtain⟨rfl,q⟩:=h;cases ry;refine isnot_none_gen (aCU I q ?_);cases x<;>first
  |(cases rx;rfl)
  |(obtain⟨t,rfl⟩:=rx;rfl)
def isObj:HO->Bool
 | .lst _=>true
 | .ins _ _ _=>true
 |_=>false
def aF4(b:Expr)(h:op≠.In:=by decide)(h2:op≠.NotIn:=by decide):zCq op b=false:=by
 have e1:(op==CmpOp.In)=false:=by cases op<;>first|rfl|exact absurd rfl h
 have e2:(op==CmpOp.NotIn)=false:=by cases op<;>first|rfl|exact absurd rfl h2
 cases b<;>simp[zCq,e1,e2]
def aHq{op:CmpOp}{r:R2}(ho:OpR X (zBK op) r)(ha:PE X a ta)(hb:PE X b tb)(hm:zCq op b=false):PE X (.Compare a [op] [b] pos) (tOp r ta tb):=by
 intro kK s Z H Q I h;exact wpAny_Compare1 (aL7 ha hb I h λ v u s2 x y H2 I2 rx ry q=>ho kK s2 Z H2 x y v u Q I2 rx ry q) hm
def aJG(t:TE):TT:=λ Z H Q=>t Z H λ x H'=>∃k,x= .bl k/\Q k H'
def aHd(ho:OpR X (zBK op) r)(ha:PE X a ta)(hb:PE X b tb)(hm:zCq op b=false):PT X (.Compare a [op] [b] pos) (aJG (tOp r ta tb)):=by
 intro kK s Z H Q I h;refine wpAny_isTrue_Compare1 (thn (ha kK s Z H _ I h) λ v s1 ⟨x,H1,I1,r1,q1⟩=>thn (hb kK s1 Z H1 _ I1 q1) λ u s2 ⟨y,H2,I2,r2,q2⟩=>
  thn (ho kK s2 Z H2 x y v u _ I2 r1 r2 q2) λ c s3 ⟨z,H3,I3,r3,k,e,q3⟩=>?_) hm
 subst e;cases r3;exact zDN ⟨H3,I3,q3⟩
def aE3(r r':R2)(ta tb tc:TE):TE:=λ Z H Q=>ta Z H λ x H1=>tb Z H1 λ y H2=>r x y H2 λ z H3=>∃k,z= .bl k/\
 (if k=true then tc Z H3 λ w' H4=>r' y w' H4 Q else Q (.bl false) H3)
def aFQ(ho:OpR X (zBK op) r)(ho':OpR X (zBK op') r')(ha:PE X a ta)(hb:PE X b tb)(hc:PE X c tc)
  (hm:zIc [op,op'] [b,c]=false:=by with_unfolding_all rfl):PE X (.Compare a [op,op'] [b,c] pos) (aE3 r r' ta tb tc):=by
 intro kK s Z H Q I h;refine Compare_chain (thn (ha kK s Z H _ I h) λ v s1 ⟨x,H1,I1,r1,q1⟩=>chain_link (thn (hb kK s1 Z H1 _ I1 q1) λ u s2 ⟨y,H2,I2,r2,q2⟩=>
  thn (ho kK s2 Z H2 x y v u _ I2 r1 r2 q2) λ d s3 ⟨z,H3,I3,r3,k,e,q3⟩=>?_)) hm
 subst e;cases r3;refine zDN ?_;cases k with
 |false=>exact ite_ff ⟨.bl false,H3,I3,rfl,q3⟩
 |true=>exact ite_tt (chain_last (thn (hc kK s3 Z H3 _ I3 q3) λ w' s4 ⟨z',H4,I4,r4,q4⟩=>ho' kK s4 Z H4 y z' u w' Q I4 r2 r4 q4))
def aLc(K:zAA)(x:V)(H:Hp)(k:Bool):Prop:=
 match x with
 | .non=>k=false
 | .bl b=>k=b
 | .int i=>k=(i !=0)
 | .str y=>y.length<=zA0/\k=((y.length:Int)!=0)
 | .byt y=>y.size<=zA0/\k=((y.size:Int)!=0)
 | .ref p=>(∃xs,SqL K H p xs/\k= !xs.isEmpty)\/(∃xs,SqT K H p xs/\k= !xs.isEmpty)\/∃kvs,H p=some (.dK kvs)/\k= !kvs.isEmpty
 |_=>False
def aCN(r:KV kvs vs):(!vs.isEmpty)= !kvs.isEmpty:=by
 cases r<;>rfl
def vK(r:Vals xs its):(!its.toArray.isEmpty)= !xs.isEmpty:=by
 cases r<;>simp
def oU:(zA0:Nat)<2^63:=by rw[zCP];decide
def aJr:aNA X (λ x H Q=>∃k,aLc X.K x H k/\Q k H):=by
 intro kK s Z H x v Q I rx h;obtain⟨k,e,q⟩:=h;have hl:=oU;have hs:zA0=16777216:=zCP;cases x with
 |non=>
  cases rx;have e':k=false:=e;subst e';exact truthy_none ⟨H,I,q⟩
 |bl b=>
  cases rx;have e':k=b:=e;subst e';exact zDN ⟨H,I,q⟩
 |int i=>
  obtain⟨t,rfl⟩:=rx;have e':k=(i !=0):=e;subst e';exact PySem.P.truthy_int ⟨H,I,q⟩
 |str y=>
  obtain⟨t,rfl⟩:=rx;obtain⟨hy,e'⟩:y.length<=zA0/\k=((y.length:Int)!=0):=e;subst e';exact PySem.P.truthy_str (by lia) ⟨H,I.tok _,q⟩
 |byt y=>
  obtain⟨t,rfl⟩:=rx;obtain⟨hy,e'⟩:y.size<=zA0/\k=((y.size:Int)!=0):=e;subst e';exact PySem.W.truthy_bytes (by lia) ⟨H,I.tok _,q⟩
 |ref p=>
  cases rx;have e':(∃xs,SqL X.K H p xs/\k= !xs.isEmpty)\/(∃xs,SqT X.K H p xs/\k= !xs.isEmpty)\/∃kvs,H p=some (.dK kvs)/\k= !kvs.isEmpty:=e
  rcases e' with ⟨xs,hx,e'⟩|⟨xs,hx,e'⟩|⟨kvs,hx,e'⟩
  .subst e'
   obtain⟨its,r,pl,hz⟩:=I.list hx;have oQ:=r.length;exact wpAny_truthy_list pl.isList (by simp only[zAK];lia) ⟨H,I.tok _,by rw[vK r];exact q⟩
  .subst e'
   obtain⟨its,r,pl,hz⟩:=I.tuple hx;have oQ:=r.length;exact truthy_tuple pl (by simp only[zAK];lia) ⟨H,I.tok _,by rw[vK r];exact q⟩
  .subst e'
   obtain⟨hz,hS,vs,r,m⟩:kvs.length<=zA0/\(p==zD3)=false/\∃vs,KV kvs vs/\s.heap.DictOf (cC X.prog X.w) p vs:=I.hok p _ hx
   have oQ:kvs.length=vs.length:=zG5 r;exact zJ5 hS m (by lia) ⟨H,I.tok _,by rw[aCN r];exact q⟩
 |_=>exact(show False from e).elim
def aFD(ha:PE X a ta)(he:∀whole,isTrue a X.env whole=(do let v <-whole;zHs a.pos;zDa [v] (truthy v))):
  PT X a (λ Z H Q=>ta Z H λ x H'=>∃k,aLc X.K x H' k/\Q k H'):=by
 intro kK s Z H Q I h;exact isTrue_plain (thn (ha kK s Z H _ I h) λ v s1 ⟨x,H1,I1,r1,q1⟩=>aJr kK s1 Z H1 x v Q I1 r1 q1) (he _)
def vals1(r:Vals [x] us):∃u,us=[u]/\RelV x u:=by
 cases r with
 |cons r1 r2=>cases r2;exact⟨_,rfl,r1⟩
def vals2(r:Vals [x,y] us):∃u w',us=[u,w']/\RelV x u/\RelV y w':=by
 cases r with
 |cons r1 r2=>
  cases r2 with
  |cons r3 r4=>cases r4;exact⟨_,_,rfl,r1,r3⟩
def aEF(hc:X.calm=true):cI X (.builtin "max") (λ xs H Q=>∃i j,xs=[.int i,.int j]/\Q (.int (if j>i then j else i)) H):=by
 intro kK s Z H xs us Q I r h;obtain⟨i,j,rfl,q⟩:=h;obtain⟨u,w',rfl,⟨t,rfl⟩,⟨t',rfl⟩⟩:=vals2 r;refine max_two_ints (I.ok.hd hc) λ h' tk k=>⟨_,H,I.kept k,?_,q⟩
 by_cases hj:j>i
 .rw[if_pos hj,if_pos hj];exact⟨_,rfl⟩
 .rw[if_neg hj,if_neg hj];exact⟨_,rfl⟩
def aEE(hc:X.calm=true):cI X (.builtin "min") (λ xs H Q=>∃i j,xs=[.int i,.int j]/\Q (.int (if j<i then j else i)) H):=by
 intro kK s Z H xs us Q I r h;obtain⟨i,j,rfl,q⟩:=h;obtain⟨u,w',rfl,⟨t,rfl⟩,⟨t',rfl⟩⟩:=vals2 r;refine min_two_ints (I.ok.hd hc) λ h' tk k=>⟨_,H,I.kept k,?_,q⟩
 by_cases hj:j<i
 .rw[if_pos hj,if_pos hj];exact⟨_,rfl⟩
 .rw[if_neg hj,if_neg hj];exact⟨_,rfl⟩
end
structure aJA(h:Heap)(x dx C:Addr)(mA:Str->Option Value):Prop where
 obj:h.get? x=some (zC9 C dx)
 ns:h.Ns1 dx mA
 ne:dx≠x
def aDi{h:Heap}{dx:Addr}{mA:Str->Option Value}(n:h.Ns1 dx mA):∃od,h.get? dx=some od/\∀name,zEt name od=some (mA name):=by
 obtain⟨o,es,ep,ho,hd,hk,_,hm⟩:=n;refine⟨o,ho,λ name=>?_⟩;have e:=hm name;unfold nsFind findBy at e;rw[<-Array.find?_toList]at e;unfold zEt;rw[hd];dsimp only;split
 .rename_i y q
  rw[q]at e;exact congrArg some e
 .rename_i q
  rw[q]at e;have a:es.toList.any (·.refKey)=false:=by
   rw[List.any_eq_false];intro y hy;obtain⟨z,t,hkey⟩:=hk y (Array.mem_toList_iff.mp hy);simp[DictEntry.refKey,hkey]
  have a':¬es.toList.any (·.refKey)=true:=by rw[a];exact zAS
  rw[if_neg a'];exact congrArg some e
def aJA.look(I:aJA h x dx C mA):∃od,zIE h x (zC9 C dx) C (some od)/\∀name,zEt name od=some (mA name):=
 let⟨od,ho,hl⟩:=aDi I.ns
 ⟨od,⟨I.obj,rfl,rfl,ho⟩,hl⟩
section
variable{prog:zA7}{w:World}{A:zAt}{E:Value->zAF->Prop}{s:zAF}{K:zAA}{x dx C f:Addr}{mA:Str->Option Value}{name:Str}
def aGF(X:K.In s.heap)(I:aJA s.heap x dx C mA)(hg:zF7 K C name=true)
  (hf:zBu K (.ref C) name=some (some (.ref f)))(ht:zIk K (.ref f)=true)(hv:mA name=none)(h:Q (.ref f,[.ref x]) s):
  wpAny (model prog w) A (getMethod (.ref x) name pl) Q E s:=by
 obtain⟨od,J,hl⟩:=I.look;exact PySem.W.method_fn X J (zGm hg).1 (zGm hg).2 hf (beq_iff_eq.mp ht) (by show(zEt name od).map (·.isSome)=some false;rw[hl,hv];rfl) h
def make_map(X:K.In s.heap)(hm:PySem.W.makesIn K C=true)
  (hi:zBu K (.ref C) "__init__"=some (some (.ref f)))(hf:PySem.W.typeIn K (.ref f)=some (.type "function"))
  (h:zCf (model prog w) (A.under (.builtin "type.__call__" ⟨.ref C::vs,kw⟩)) (.call (.ref f) ⟨.ref (s.heap.objs.size+1)::vs,kw⟩) (PySem.W.InitBack (s.heap.objs.size+1) R)
   {s with heap:=(s.heap.push zCB).push (zC9 C s.heap.objs.size)}):
  zCf (model prog w) A (.call (.ref C) ⟨vs,kw⟩) R s:=by
 obtain⟨hh,g,d,t,os⟩:=s;exact PySem.W.make_core (PySem.W.makes_of X hm) (zDg X hi) (λ self=>PySem.W.bind_fn X self hf) (.inl rfl) h
end
def tH.some_of(r:tH (some v) o):∃u,o=some u/\RelV v u:=by
 cases o with
 |none=>exact(show False from r).elim
 |some u=>exact⟨u,rfl,r⟩
def tH.none_of(r:tH none o):o=none:=by
 cases o with
 |none=>rfl
 |some u=>exact(show False from r).elim
section
variable{P:zA7}{w:World}{H:Hp}{h:Heap}{a C dx:Addr}{fs:List (Str×V)}
def tV(hok:HOk P w H h)(e:H a=some (.ins C dx fs)):∃mA,aJA h a dx C mA/\(∀f,tH (fs.lookup f) (mA f))/\zJF mA (fs.map (·.1))/\fs.length<=1000/\H dx=some (.own a):=by
 obtain⟨d,z,ne,ob,mA,n,r,q⟩:=(show bu P w H h a (.ins C dx fs)from hok a _ e);exact⟨mA,⟨ob,n,ne⟩,r,q,z,d⟩
end
structure Cls(K:zAA)(C:Addr):Prop where
 pg:zF7 K C Str.empty=true
 hd:PySem.W.hasDictIn K C=true
 po:PySem.W.plainOver K C=true
 sa:zBu K (.ref C) "__setattr__"=some (some (.builtin "object.__setattr__"))
def Cls.get{K:zAA}{C:Addr}(c:Cls K C)(f:Str):zF7 K C f=true:=c.pg
def aLe(K:zAA)(C:Addr)(f:Str):Prop:=zBu K (.ref C) f=some none
structure Meth(K:zAA)(C:Addr)(m:Str)(f:Addr):Prop where
 at_:zBu K (.ref C) m=some (some (.ref f))
 fn:zIk K (.ref f)=true
 kp:zD2 K (.ref f)=true
section
variable{X:Cx}{kK:hV}{Z:St}{H:Hp}{s:zAF}{a C dx:Addr}{fs:List (Str×V)}{A:zAt}{E:Value->zAF->Prop}
def aCR(I:Inv X kK Z H s)(e:H a=some (.ins C dx fs))(c:Cls X.K C)(k:Meth X.K C m g)(l:fs.lookup m=none)
  (h:Q (.ref g,[.ref a]) s):wpAny (model X.prog X.w) A (getMethod (.ref a) m pl) Q E s:=by
 obtain⟨mA,O,r,_,_,_⟩:=tV I.hok e;have hn:mA m=none:=tH.none_of (by rw[<-l];exact r m);exact aGF I.kIn O (c.get m) k.at_ k.fn hn h
def Inv.made(I:Inv X kK Z H s):Inv X kK Z (upd (upd H s.heap.objs.size (.own (s.heap.objs.size+1))) (s.heap.objs.size+1) (.ins C s.heap.objs.size []))
  {s with heap:=(s.heap.push zCB).push (zC9 C s.heap.objs.size)}:=by
 have e1:(s.heap.push zCB).get? s.heap.objs.size=some zCB:=zAY s.heap rfl;have e2:((s.heap.push zCB).push (zC9 C s.heap.objs.size)).get? (s.heap.objs.size+1)=some (zC9 C s.heap.objs.size):=by
  have:=zAY (s.heap.push zCB) (o:=zC9 C s.heap.objs.size) rfl
  rwa [zBe]at this
 have e3:(s.heap.push zCB).Ns s.heap.objs.size (λ _=>none):=⟨zCB,#[],_,e1,rfl,(λ e he=>absurd he (by simp)),λ _=>rfl⟩;have I1:=I.laid (a:=s.heap.objs.size) (o:=.own (s.heap.objs.size+1)) (h':=s.heap.push zCB) (t':=s.toks) (λ b u q=>zAD _ q) (zAW _) ⟨_,e1⟩;refine I1.laid (a:=s.heap.objs.size+1) (o:=.ins C s.heap.objs.size []) (t':=s.toks) (λ b u q=>zAD _ q) (Nat.le_of_eq (zBe _ _)) ?_;have ne:s.heap.objs.size≠s.heap.objs.size+1:=zAc (zBf _);refine⟨by rw[bF ne,aa],zAo _,ne,e2,λ _=>none,(Heap.Ns1.of_empty e3).at λ o q=>zAD _ q,λ _=>zDS,λ y hy=>absurd rfl hy⟩
end
def tFld(K:zAA)(ta:TE)(f:Str):TE:=λ Z H Q=>ta Z H λ x H1=>∃a C dx fs v,x= .ref a/\H1 a=some (.ins C dx fs)/\Cls K C/\aLe K C f/\fs.lookup f=some v/\Q v H1
section
variable{X:Cx}{e:Expr}{f:Str}{pos:Pos}
def methcall_of(he:PE X e te)(I:Inv X kK Z H s)
  (h:te Z H λ x H1=>∃a C dx fs g,x= .ref a/\H1 a=some (.ins C dx fs)/\Cls X.K C/\Meth X.K C m g/\fs.lookup m=none/\
   ∀s1,Inv X kK Z H1 s1->wpAny (model X.prog X.w) X.A (callWith pos (.ref g) [.ref a] (zCs pos (zA4 args X.env)) (zF3 pos (zDt [] X.env))) Q X.xe s1)
  (ht:eval (.Call (.Attribute e m apos) args [] pos) X.env=(do
   let ov <-eval e X.env
   zHs apos.atName
   let(f,first) <-zDa [ov] (getMethod ov m pl)
   callWith pos f first (zCs pos (zA4 args X.env)) (zF3 pos (zDt [] X.env)))):
  wpAny (model X.prog X.w) X.A (eval (.Call (.Attribute e m apos) args [] pos) X.env) Q X.xe s:=by
 refine PySem.W.methodCall_KW (pl:=pl) (thn (he kK s Z H _ I h) λ u s1 ⟨x,H1,I1,rx,a,C,dx,fs,g,ex,ea,c,k,l,q⟩=>?_) ht;subst ex;obtain rfl:u=zB9 a:=rx;exact aCR I1 ea c k l (q s1 I1)
end
section
variable{X:Cx}{kK:hV}{Z:St}{H:Hp}{s:zAF}{A:zAt}{E:Value->zAF->Prop}{Q:Value->zAF->Prop}{c:Value}{b:Bool}
inductive qy(K:zAA)(H:Hp):V->Value->Prop where
 |non:qy K H .non (.type "NoneType")
 |bl (x:Bool):qy K H (.bl x) (.type "bool")
 |int (i:Int):qy K H (.int i) (.type "int")
 |str (x:Str):qy K H (.str x) (.type "str")
 |flt (x:UInt64):qy K H (.flt x) (.type "float")
 |lst {a:Addr} {xs:List V} (e:H a=some (.lst xs)):qy K H (.ref a) (.type "list")
 |frz {a:Addr} {o:Obj} {xs:List V} (e:H a=some (.frz o (.lst xs))):qy K H (.ref a) (.type "list")
 |tup {a:Addr} {xs:List V} (e:H a=some (.tup xs)):qy K H (.ref a) (.type "tuple")
 |dK {a:Addr} {kvs:List (Key×V)} (e:H a=some (.dK kvs)):qy K H (.ref a) (.type "dict")
 |dT {a:Addr} {kvs:List (List Key×V)} (e:H a=some (.dT kvs)):qy K H (.ref a) (.type "dict")
 |ins {a C dx:Addr} {fs:List (Str×V)} (e:H a=some (.ins C dx fs)) (cl:Cls K C) (ha:zBu K (.ref C) "__class__"=some (some (.builtin "object.__class__")))
   (hn:PySem.W.specialIn K (.builtin "object.__class__") "__get__"=some (some (.builtin "getset_descriptor.__get__"))) (htk:PySem.W.takesIn K (.builtin "object.__class__")=some true)
   (hm:PySem.W.mroIn K C (.type "object")=some true):qy K H (.ref a) (.ref C)
def aDn(I:Inv X kK Z H s)(rx:RelV x u)(ty:qy X.K H x t)(e:zEI X.K t c=some b)(h:∀tk,Q (.bool b) {s with toks:=tk}):
  wpAny (model X.prog X.w) A (call (.builtin "isinstance") [u,c]) Q E s:=by
 cases ty with
 |non=>cases (show u=zCC from rx);exact zB4 PySem.W.kitx_none I.kIn zDS e (λ z=>nomatch z) h
 |bl y=>cases (show u=zEw y from rx);exact zB4 PySem.W.kitx_bool I.kIn zDS e (λ z=>nomatch z) h
 |int i=>obtain⟨t,q⟩:=(show∃t,u=zED i t from rx);cases q;exact zB4 PySem.W.kitx_int I.kIn zDS e (λ z=>nomatch z) h
 |str y=>obtain⟨t,q⟩:=(show∃t,u=zGo y t from rx);cases q;exact zB4 PySem.W.kitx_str I.kIn zDS e (λ z=>nomatch z) h
 |flt y=>obtain⟨t,q⟩:=(show∃t,u=zJU y t from rx);cases q;exact zB4 PySem.W.kitx_float I.kIn zDS e (λ z=>nomatch z) h
 |@lst a xs ea=>
  cases (show u=zB9 a from rx);obtain⟨_,_,n,_,h1⟩:=(show bu X.prog X.w H s.heap a (.lst xs)from I.hok a _ ea);exact zB4 zHP I.kIn ⟨_,h1,rfl⟩ e (λ z=>nomatch z) h
 |@frz a ob xs ea=>
  cases (show u=zB9 a from rx);obtain⟨_,_,_,n,_,h1⟩:=(show bu X.prog X.w H s.heap a (.frz ob (.lst xs))from I.hok a _ ea);exact zB4 zHP I.kIn ⟨_,h1,rfl⟩ e (λ z=>nomatch z) h
 |@tup a xs ea=>
  cases (show u=zB9 a from rx);obtain⟨_,_,_,p⟩:=(show bu X.prog X.w H s.heap a (.tup xs)from I.hok a _ ea);obtain⟨o,h1,h2,_⟩:=p;exact zB4 zHE I.kIn ⟨o,h1,h2⟩ e (λ z=>nomatch z) h
 |@dK a kvs ea=>
  cases (show u=zB9 a from rx);obtain⟨_,_,vs,_,p⟩:=(show bu X.prog X.w H s.heap a (.dK kvs)from I.hok a _ ea);obtain⟨o,es,ep,h1,h2,_⟩:=p;exact zB4 zFS I.kIn ⟨o,h1,h2.1⟩ e (λ z=>nomatch z) h
 |@dT a kvs ea=>
  cases (show u=zB9 a from rx);obtain⟨_,_,xs,_,o,es,ep,h1,h2,_⟩:=(show bu X.prog X.w H s.heap a (.dT kvs)from I.hok a _ ea);exact zB4 zFS I.kIn ⟨o,h1,h2.1⟩ e (λ z=>nomatch z) h
 |@ins a C dx fs ea cl ha hn htk hm=>
  cases (show u=zB9 a from rx);obtain⟨mA,O,_⟩:=tV I.hok ea;obtain⟨od,J,_⟩:=O.look;exact zB4 (PySem.W.kitx_own (cl.get _) cl.hd ha hn htk hm) I.kIn J e (λ z=>nomatch z) h
end
structure iw(k:Nat)(A:zAt):Prop where
 hd:A.handled=none
 dp:A.depth+3*k+5<zHU
 un:A.units+16*k+200<cLine
def iw.mono(r:iw k A)(h:j<=k):iw j A:=⟨r.hd,by have:=r.dp;lia,by have:=r.un;lia⟩
theorem iw.deeper(r:iw (k+1) A)(env:Env):iw k (A.deeper env):=
 ⟨r.hd,by have:=r.dp;show A.depth+1+3*k+5<_;lia,by have:=r.un;show A.units+3+16*k+200<_;lia⟩
theorem iw.depth(r:iw k A):A.depth<zHU:=by have:=r.dp;lia
theorem iw.units(r:iw k A):A.units+64<cLine:=by have:=r.un;lia
def iw.units0(r:iw k A):A.units<cLine:=by have:=r.un;lia
def sZ:TA:=λ _ H Q=>Q [] H
def iy(ta:TE)(tr:TA):TA:=λ Z H Q=>ta Z H λ x H1=>tr Z H1 λ xs H2=>Q (x::xs) H2
section
variable{X:Cx}{e:Expr}{es:List Expr}{te:TE}{t:TA}{pos:Pos}
def gQ:PA X [] sZ:=λ _ _ _ _ H Q I h=>Calls.spliced_nil ⟨[],H,I,.nil,h⟩
def cj(ha:PE X e te)(hr:PA X es t)(hs:zA4 (e::es) X.env=(false,eval e X.env)::zA4 es X.env:=by rfl):PA X (e::es) (iy te t):=by
 intro pos kK s Z H Q I h;rw[hs];show wpAny _ _ (spliced ((false,eval e X.env)::zCs pos (zA4 es X.env))) _ _ s;refine Calls.spliced_cons (thn (ha kK s Z H _ I h) λ u s1 ⟨x,H1,I1,r1,q1⟩=>?_);exact thn (hr pos kK s1 Z H1 _ I1 q1) λ us s2 ⟨xs,H2,I2,r2,q2⟩=>⟨x::xs,H2,I2,.cons r1 r2,q2⟩
def aMk(t:TA):TE:=λ Z H Q=>t Z H λ xs H1=>xs.length<=zA0/\∀p,H1 p=none->Q (.ref p) (upd H1 p (.tup xs))
def aMo(t:TA):TE:=λ Z H Q=>t Z H λ xs H1=>xs.length<=zA0/\∀p,H1 p=none->Q (.ref p) (upd H1 p (.lst xs))
def aKZ{x1}(h:PA X es t):PE X (.Tuple es x1 pos) (aMk t):=by
 intro kK s Z H Q I hq;refine wpAny_Tuple_spliced (thn (h pos kK s Z H _ I hq) λ us s1 ⟨xs,H1,I1,r,z,q⟩=>⟨by rw[<-r.length];exact z,?_⟩);have hf:H1 s1.heap.objs.size=none:=I1.hok.fresh (zAW _);refine⟨.ref s1.heap.objs.size,upd H1 s1.heap.objs.size (.tup xs),I1.laid (t':=s1.toks) (λ b u e=>zAD _ e) (zAW _) ?_,rfl,q _ hf⟩;exact⟨⟨z,NoD.push _⟩,us,r,⟨_,zAY _ rfl,rfl,_,rfl⟩⟩
def aK4(h:PA X es t):PE X (.List es pos) (aMo t):=by
 intro kK s Z H Q I hq;refine wpAny_List_spliced (thn (h pos kK s Z H _ I hq) λ us s1 ⟨xs,H1,I1,r,z,q⟩=>⟨by rw[<-r.length];exact z,?_⟩);have hf:H1 s1.heap.objs.size=none:=I1.hok.fresh (zAW _);refine⟨.ref s1.heap.objs.size,upd H1 s1.heap.objs.size (.lst xs),I1.laid (t':=s1.toks) (λ b u e=>zAD _ e) (zAW _) ?_,rfl,q _ hf⟩;exact⟨z,us,0,r,zAY _ rfl⟩
end
abbrev Sp:=List V->Hp->VK->XK->Prop
abbrev CXT:=List Env->Hp->zAF->XK->Value->zAF->Prop
structure aGs(P:zA7)(w:World)(K:zAA)(mg:Str->Option Value)(base:Heap)(A:zAt)(outer:List Env)(s:zAF)(H:Hp):Prop where
 frames:A.frames=some outer
 mod:Mod K mg base
 bs:∀b o,base.get? b=some o->s.heap.get? b=some o/\H b=none
 bsz:base.objs.size<=s.heap.objs.size
 funs:s.heap.FunFrames base outer
 frf:∀b∈frs outer,H b=none
 hok:HOk P w H s.heap
 bare:zFQ s.gens
def CE(outer:List Env)(P:zA7)(w:World)(H:Hp)(s:zAF)(Q:VK)(u:Value)(s':zAF):Prop:=
 ∃v H',s'.os=s.os/\zFQ s'.gens/\Un (frs outer) [] H H' s.heap s'.heap/\HOk P w H' s'.heap/\RelV v u/\Q v H'
def CR(CX:CXT)(outer:List Env)(P:zA7)(w:World)(H:Hp)(s:zAF)(Q:VK)(E:XK)(r:zFF)(s':zAF):Prop:=
 match r with
 | .ok (.ret u)=>CE outer P w H s Q u s'
 | .ok _=>False
 | .error e=>CX outer H s E e s'
structure cP(P:zA7)(w:World)(K:zAA)(mg:Str->Option Value)(base:Heap)(CX:CXT)(k:Nat)(f:Addr)(fd:zBA)(ps:List Str)(sp:Sp):Prop where
 len:∀vs H Q E,sp vs H Q E->vs.length=ps.length
 run:∀(A:zAt) (outer:List Env) (s:zAF) (H:Hp) (args:Args) (us:List Value) (vs:List V) (Q:VK) (E:XK),iw k A->aGs P w K mg base A outer s H->zGL s fd args (ps.zip us)->Vals vs us->sp vs H Q E->
  zCf (model P w) A (.call (.ref f) args) (CR CX outer P w H s Q E) s
def cP.imp{P:zA7}{w:World}{K:zAA}{mg:Str->Option Value}{base:Heap}{CX:CXT}{k:Nat}{f:Addr}{fd:zBA}{ps:List Str}{sp sp':Sp}(F:cP P w K mg base CX k f fd ps sp)
  (h:∀vs H Q E,sp' vs H Q E->sp vs H Q E):cP P w K mg base CX k f fd ps sp':=
 ⟨λ vs H Q E q=>F.len vs H Q E (h _ _ _ _ q),λ A outer s H args us vs Q E hr he hb hv hs=>F.run A outer s H args us vs Q E hr he hb hv (h _ _ _ _ hs)⟩
section
variable{X:Cx}{kK:hV}{Z:St}{H:Hp}{s s':zAF}
def Inv.env0(I:Inv X kK Z H s):aGs X.prog X.w X.K X.mg X.base X.A X.stack s H:=
 ⟨I.ok.frames,I.ok.mod,I.bs,zBB I.ok.bsz I.sz,I.stack,I.stkFree,I.hok,I.bare⟩
def Inv.after(I:Inv X kK Z H s)(h:CE X.stack X.prog X.w H s Q u s'):EP X kK Z Q u s':=by
 obtain⟨v,H',os,bare,un,hok,r,q⟩:=h;obtain⟨hh,g,d,t,os'⟩:=s';obtain rfl:os'=s.os:=os;exact⟨v,H',I.call (h':=hh) (g':=g) (d':=d) (t':=t) (ch:=[]) un hok bare (λ b z=>absurd z (by simp)),r,q⟩
end
def aJJ(sp:Sp)(dvs:List V)(E:XK)(t:TA):TE:=λ Z H Q=>t Z H λ vs H1=>sp (vs++dvs) H1 Q E
def tMeth(C:Addr)(m:Str)(sp:Sp)(dvs:List V)(E:XK)(ta:TE)(t:TA):TE:=λ Z H Q=>ta Z H λ x H1=>∃a dx fs,x= .ref a/\H1 a=some (.ins C dx fs)/\fs.lookup m=none/\
 t Z H1 λ vs H2=>sp (x::(vs++dvs)) H2 Q E
def tMake(C:Addr)(sp:Sp)(dvs:List V)(E:XK)(t:TA):TE:=λ Z H Q=>t Z H λ vs H1=>∀x dx,H1 x=none->H1 dx=none->dx≠x->
 sp (.ref x::(vs++dvs)) (upd (upd H1 dx (.own x)) x (.ins C dx [])) (λ v H2=>v= .non/\Q (.ref x) H2) E
def Binds(K:zAA)(fd:zBA)(ps:List Str)(ds:List Value):Prop:=
 ∀(s:zAF) (us:List Value),K.In s.heap->(us++ds).length=ps.length->zGL s fd ⟨us,[]⟩ (ps.zip (us++ds))
def Binds.all{K:zAA}{fd:zBA}{ps:List Str}(h:∀us:List Value,us.length=ps.length->bindArgs fd ⟨us,[]⟩=pure (ps.zip us)):Binds K fd ps []:=λ s us _ hl=>by
 rw[zAx]at hl ⊢;exact .of_eq (h us hl)
def zc(CX:CXT)(X:Cx)(E:XK):Prop:=∀(kK:hV) (Z:St) (H:Hp) (s:zAF) (e:Value) (s':zAF),Inv X kK Z H s->CX X.stack H s E e s'->X.xe e s'
section
variable{X:Cx}{CX:CXT}{k:Nat}{f:Addr}{fd:zBA}{ps:List Str}{sp:Sp}{dvs:List V}{ds:List Value}{E:XK}{x:Str}{p pos:Pos}{e:Expr}{es:List Expr}{t:TA}
def aKI(F:cP X.prog X.w X.K X.mg X.base CX k f fd ps sp)(hr:iw k X.A)(hb:Binds X.K fd ps ds)(hd:Vals dvs ds)(hx:zc CX X E)
  (I:Inv X kK Z H s)(r:Vals vs us)(h:sp (vs++dvs) H Q E):wpAny (model X.prog X.w) X.A (call (.ref f) us) (EP X kK Z Q) X.xe s:=by
 have r2:Vals (vs++dvs) (us++ds):=r.append hd;have hl:(us++ds).length=ps.length:=by rw[<-r2.length];exact F.len _ _ _ _ h
 refine wpAny_call (zE6 (F.run X.A X.stack s H ⟨us,[]⟩ (us++ds) (vs++dvs) Q E hr I.env0 (hb s us I.kIn hl) r2 h) λ r s' hq=>?_);cases r with
 |error e=>exact hx kK Z H s e s' I hq
 |ok fl=>
  cases fl with
  |ret u=>exact I.after hq
  |next=>exact zAU hq
  |brk=>exact zAU hq
  |cont=>exact zAU hq
def aHr(F:cP X.prog X.w X.K X.mg X.base CX k f fd ps sp)(hr:iw k X.A)(hg:Gl X x)(hm:X.mg x=some (.ref f))(hk:zD2 X.K (.ref f)=true)(hb:Binds X.K fd ps ds)(hd:Vals dvs ds)(hx:zc CX X E)
  (ha:PA X (e::es) t)(hdb:Nd x:=by decide)(he:zA4 (e::es) X.env=(false,eval e X.env)::zA4 es X.env:=by rfl)(hpl:(zCs pos (zA4 es X.env)).any (·.1)=false:=by rfl):
  PE X (.Call (.Name x p) (e::es) [] pos) (aJJ sp dvs E t):=by
 intro kK s Z H Q I h;refine zGC (zF I hg hm ?_ hdb);refine PySem.W.callWith_K (h₀:=X.base) I.ok.mod.kin hk (thn (ha pos kK s Z H _ I h) λ us s1 ⟨vs,H1,I1,r,q⟩=>⟨I1.kIn,?_⟩) he hpl;exact aKI F hr hb hd hx I1 r q
end
structure aX(N P:List Str)(sc:Scope):Prop where
 kind:sc.kind= .function
 co:sc.isCoroutine=false
 gen:sc.isGenerator=false
 nd:N.Nodup
 pre:N.take P.length=P
 par:∀x∈P,sc.names.lookup x=some .local\/sc.names.lookup x=some .cell
 nofree:∀y∈sc.names,y.2≠.free
theorem xu{zBz:Str->Option zEP}{x:Str}:∀{binds:List (Str×Value)} {m:Str->Option Value},(∀v,(x,v)∉binds)->bindL zBz binds m x=m x
 |[],_,_=>rfl
 |(n,v)::r,m,h=>by
  unfold bindL;rw[xu λ w hw=>h w (zAO _ hw)];split
  .have:x≠n:=by rintro rfl;exact h v zAT
   simp[this]
  .rfl
theorem yC{zBz:Str->Option zEP}{x:Str}:∀{binds:List (Str×Value)} {m:Str->Option Value},(∀v,(x,v)∉binds)->bindC zBz binds m x=m x
 |[],_,_=>rfl
 |(n,v)::r,m,h=>by
  unfold bindC;rw[yC λ w hw=>h w (zAO _ hw)];split
  .rfl
  .have:x≠n:=by rintro rfl;exact h v zAT
   simp[this]
theorem xx{zBz:Str->Option zEP}{x:Str}{v:Value}:∀{P:List Str} {vs:List Value} {i:Nat} {m:Str->Option Value},P.Nodup->P[i]? =some x->vs[i]? =some v->zBz x=some .local->
  bindL zBz (P.zip vs) m x=some v
 |[],_,_,_,_,h,_,_=>by simp at h
 |_::_,[],_,_,_,_,h,_=>by simp at h
 |p::P,w::vs,0,m,nd,h1,h2,hk=>by
  simp at h1 h2;subst h1;subst h2;show bindL zBz ((p,w)::P.zip vs) m p=_;unfold bindL;rw[xu λ v hv=>(zBH.mp nd).1 (zCx hv).1,if_pos hk];simp
 |p::P,w::vs,i+1,m,nd,h1,h2,hk=>by
  show bindL zBz ((p,w)::P.zip vs) m x=_;unfold bindL;exact xx (i:=i) (zBH.mp nd).2 (by simpa using h1) (by simpa using h2) hk
theorem yD{zBz:Str->Option zEP}{x:Str}{v:Value}:∀{P:List Str} {vs:List Value} {i:Nat} {m:Str->Option Value},P.Nodup->P[i]? =some x->vs[i]? =some v->zBz x≠some .local->
  bindC zBz (P.zip vs) m x=some v
 |[],_,_,_,_,h,_,_=>by simp at h
 |_::_,[],_,_,_,_,h,_=>by simp at h
 |p::P,w::vs,0,m,nd,h1,h2,hk=>by
  simp at h1 h2;subst h1;subst h2;show bindC zBz ((p,w)::P.zip vs) m p=_;unfold bindC;rw[yC λ v hv=>(zBH.mp nd).1 (zCx hv).1,if_neg hk];simp
 |p::P,w::vs,i+1,m,nd,h1,h2,hk=>by
  show bindC zBz ((p,w)::P.zip vs) m x=_;unfold bindC;exact yD (i:=i) (zBH.mp nd).2 (by simpa using h1) (by simpa using h2) hk
def start(N:List Str)(vs:List V):St:=vs.map some++zAP (N.length-vs.length) none
def aBH(CX:CXT)(P:zA7)(w:World)(K:zAA)(mg:Str->Option Value)(base:Heap)(N:List Str)(qual:Str)(scope:Scope)(f:Addr)(cd:Value)(A:zAt)(outer:List Env)(s:zAF)(H:Hp)(E:XK):Cx where
 prog:=P
 w:=w
 K:=K
 mg:=mg
 base:=base
 A:=A.deeper (zFH qual scope s.heap.objs.size f cd)
 N:=N
 z5:=s
 z3:=H
 env:=zFH qual scope s.heap.objs.size f cd
 outer:=outer
 stack:=zFH qual scope s.heap.objs.size f cd::outer
 ex:=[]
 calm:=true
 fn:=λ _=>true
 pn:=[]
 xe:=λ e s'=>wpAny (model P w) (A.deeper (zFH qual scope s.heap.objs.size f cd)) (leaving (zFH qual scope s.heap.objs.size f cd) e) (λ _ s''=>CX outer H s E e s'') (λ e' s''=>CX outer H s E e' s'') s'
def qC{sc:Scope}{n:Nat}{x:Str}(h:sc.names.lookup x=some .cell):∃c,(zEY n sc.names []).lookup x=some c:=by
 have q:=zG6 sc.names n [] (.inl h);exact Option.isSome_iff_exists.mp q
def aDo{CX:CXT}{P:zA7}{w:World}{K:zAA}{mg:Str->Option Value}{base:Heap}{N ps:List Str}{qual:Str}{scope:Scope}{f:Addr}{cd:Value}{A:zAt}{outer:List Env}{s s1:zAF}{H:Hp}{E:XK}{us:List Value}{vs:List V}
  (S:aX N ps scope)(hd:A.handled=none)(e0:aGs P w K mg base A outer s H)(hl:vs.length=ps.length)(r:Vals vs us)
  (x:InCallC s s.heap.objs.size (bindL (zFH qual scope s.heap.objs.size f cd).kindOf (ps.zip us) λ _=>none) (zEY (s.heap.objs.size+1) scope.names []) (bindC (zFH qual scope s.heap.objs.size f cd).kindOf (ps.zip us) λ _=>none) s1):
  Inv (aBH CX P w K mg base N qual scope f cd A outer s H E) [] (start N vs) H s1:=by
 have hpl:ps.length<=N.length:=by have:=congrArg zH3 S.pre;rw[zA3]at this;lia
 obtain⟨h1,tk,rfl,hk⟩:=x.done;have noA:∀b:Addr,b∉(aBH CX P w K mg base N qual scope f cd A outer s H E).ex:=λ b z=>absurd (show b∈([]:List Addr)from z) (by simp)
 refine⟨⟨e0.mod,S.kind,rfl,rfl,zAW _,λ y z c h1 h2=>?_,λ y hy=>?_,λ y c _ h=>?_,λ _=>hd,Around.frames_deeper e0.frames,.inr ⟨rfl,rfl⟩,λ b z=>absurd z (noA b),e0.bs,e0.bsz,λ b _ _=>noA b,λ b z=>absurd z (noA b),e0.funs,e0.frf⟩,
  rfl,e0.bare,Un.kept hk,⟨_,x.toInCall.ns,λ i y v h1 h2 h3=>?_⟩,λ y c h=>⟨_,x.cell y c h⟩,e0.hok.fresh (zAW _),λ y c h=>?_,λ p hp=>absurd (show p∈([]:hV)from hp) (by simp),e0.hok.kept hk,?_,λ p hp=>absurd (show p∈([]:hV)from hp) (by simp)⟩
 .exact name_of_addr x.apart (zBJ h1) (zBJ h2)
 .have hy:scope.names.lookup y=some .cell\/scope.names.lookup y=some .free:=hy
  rcases hy with hy|hy
  .exact qC hy
  .exact absurd rfl (S.nofree _ (zBJ hy))
 .exact zCQ (x.above y c (zBJ h))
 .have hi:i<vs.length:=by
   unfold start at h2;by_cases hi:i<vs.length
   .exact hi
   .rw[zBF (by simpa using hi)]at h2
    rw[zCN]at h2;split at h2<;>cases h2
  have ha:vs[i]? =some v:=by
   unfold start at h2;rw[zAg (by simpa using hi),zAQ]at h2;cases e:vs[i]? with
   |none=>rw[e]at h2;cases h2
   |some a=>rw[e]at h2;cases h2;rfl
  obtain⟨u,hu,rv⟩:=r.get ha;have hp:ps[i]? =some y:=by
   rw[<-S.pre,zBW (by lia)];exact h1
  have ndP:ps.Nodup:=by rw[<-S.pre];exact S.nd.sublist (zIA _ _)
  refine⟨u,rv,?_⟩;rcases S.par y (zBG hp)with k|k
  .exact .inl ⟨k,xx ndP hp hu k⟩
  .obtain⟨c,e⟩:=qC (n:=s.heap.objs.size+1) k
   refine .inr ⟨.inl k,c,e,?_⟩;have q:=x.cell y c e;rw[yD ndP hp hu (by show scope.names.lookup y≠_;rw[k];decide)]at q;exact q
 .exact e0.hok.fresh (zCQ (x.above y c (zBJ h)))
 .unfold start
  show _=N.length;rw[zAV,zAE,zBs];lia
def aMZ{CX:CXT}{P:zA7}{w:World}{K:zAA}{mg:Str->Option Value}{base:Heap}{k:Nat}{f:Addr}{name qual:Str}{params:zIO}{body:List Stmt}{scope:Scope}{dV kV doc pm cdv ct oc:Value}{an od:Option Addr}
  {osl:Array (Option Value)}{N ps:List Str}{sp:Sp}(lk:K.lookup f=some ⟨oc,od,.func (zCb name qual params body scope dV kV doc pm an cdv ct),osl⟩)(hcd:zEH K cdv qual=true)(S:aX N ps scope)
  (len:∀vs H Q E,sp vs H Q E->vs.length=ps.length)
  (hbody:∀(A:zAt) (outer:List Env) (s:zAF) (H:Hp) (vs:List V) (Q:VK) (E:XK),iw k (A.deeper (zFH qual scope s.heap.objs.size f cdv))->sp vs H Q E->
   ∃t,PSs (aBH CX P w K mg base N qual scope f cdv A outer s H E) body t/\t {nx:=λ _ H'=>Q .non H',rt:=Q} (start N vs) H):
  cP P w K mg base CX (k+1) f (zCb name qual params body scope dV kV doc pm an cdv ct) ps sp:=by
 refine⟨len,λ A outer s H args us vs Q E hr e0 hb r hsp=>?_⟩;have hl:=len _ _ _ _ hsp;have KX:K.In s.heap:=e0.mod.kin.keeps λ b o e=>(e0.bs b o e).1
 have lim:s.heap.NoLimit:=e0.mod.nolimit.keeps λ b o e=>(e0.bs b o e).1
 have hkind:∀y∈ps.zip us,scope.names.lookup y.1=some .local\/(scope.names.lookup y.1=some .cell/\((zEY (s.heap.objs.size+1) scope.names []).lookup y.1).isSome=true):=λ⟨n,v⟩ hy=>by
  rcases S.par n (zCx hy).1 with q|q
  .exact .inl q
  .exact .inr ⟨q,zG6 _ _ _ (.inl q)⟩
 refine codeAny_call_function hr.depth (KX _ _ lk) rfl S.co S.gen rfl (PySem.W.codeRec_of KX hcd) (hb _ _ _ _ ?_);refine wpAny_newFunctionEnv_cells S.kind hkind λ env he s1 x=>?_
 subst he;refine⟨lim.keeps x.toInCall.keep,codeAny_func ?_⟩;obtain⟨t,ht,hq⟩:=hbody A outer s H vs Q E (hr.deeper _) hsp;have I:Inv (aBH CX P w K mg base N qual scope f cdv A outer s H E) [] (start N vs) H s1:=aDo S hr.hd e0 hl r x;refine zB8 (ht [] s1 (start N vs) H _ I hq) (λ fl s' hs=>?_) λ e s' hs=>hs
 have fin:∀{Z':St} {H':Hp} {v:V} {u:Value},Inv (aBH CX P w K mg base N qual scope f cdv A outer s H E) [] Z' H' s'->RelV v u->Q v H'->CE outer P w H s Q u s':=
  λ{Z' H' v u} J rv q=>⟨v,H',J.os,J.bare,J.base,J.hok,rv,q⟩
 cases fl with
 |ret u=>
  obtain⟨v,Z',H',J,rv,q⟩:=hs;exact fin J rv q
 |next=>
  obtain⟨Z',H',J,q⟩:=hs;exact fin (v:=V.non) (u:=zCC) J rfl q
 |brk=>
  obtain⟨_,_,_,q⟩:=hs;exact zAU q
 |cont=>
  obtain⟨_,_,_,q⟩:=hs;exact zAU q
section
variable{X:Cx}{x:Str}{p pos:Pos}{e:Expr}{es:List Expr}{t:TA}{id T:String}{r:List V->Hp->VK->Prop}
def tCB(r:List V->Hp->VK->Prop)(t:TA):TE:=λ Z H Q=>t Z H λ vs H1=>r vs H1 Q
def jZ(hc:cI X (.builtin id) r)(hg:Gl X x)(hm:X.mg x=none)(hv:zBO x=some (.builtin id))(ha:PA X (e::es) t)(hn:x≠"__name__":=by decide)(hdb:Nd x:=by decide)
  (he:zA4 (e::es) X.env=(false,eval e X.env)::zA4 es X.env:=by rfl)(hpl:(zCs pos (zA4 es X.env)).any (·.1)=false:=by rfl):PE X (.Call (.Name x p) (e::es) [] pos) (tCB r t):=by
 intro kK s Z H Q I h;refine zGC (vC I hg hm hv ?_ hn hdb);exact PyProof.Rows.callWith_builtin1 (thn (ha pos kK s Z H _ I h) λ us s1 ⟨vs,H1,I1,r1,q1⟩=>hc kK s1 Z H1 vs us Q I1 r1 q1) he hpl
def jY(hc:cI X (.type T) r)(hg:Gl X x)(hm:X.mg x=none)(hv:zBO x=some (.type T))(ha:PA X (e::es) t)(hn:x≠"__name__":=by decide)(hdb:Nd x:=by decide)
  (he:zA4 (e::es) X.env=(false,eval e X.env)::zA4 es X.env:=by rfl)(hpl:(zCs pos (zA4 es X.env)).any (·.1)=false:=by rfl):PE X (.Call (.Name x p) (e::es) [] pos) (tCB r t):=by
 intro kK s Z H Q I h;refine zGC (vC I hg hm hv ?_ hn hdb);exact zD7 (thn (ha pos kK s Z H _ I h) λ us s1 ⟨vs,H1,I1,r1,q1⟩=>hc kK s1 Z H1 vs us Q I1 r1 q1) he hpl
end
end L2
namespace HT
open PySem PyProof.Rows
def lexLt:List Int->List Int->Bool
 |[],[]=>false
 |[],_::_=>true
 |_::_,[]=>false
 |x::xs,y::ys=>if x=y then lexLt xs ys else decide (x<y)
def iV(x y:Int)(xs ys:List Int):lexLt (x::xs) (y::ys)=if x=y then lexLt xs ys else decide (x<y):=rfl
def wB:lexLt [] []=false:=rfl
def uz(y:Int)(ys:List Int):lexLt [] (y::ys)=true:=rfl
def vA(x:Int)(xs:List Int):lexLt (x::xs) []=false:=rfl
def aBF(A:zAt)(s:zAF)(a:Int)(t:Tok)(c:Int)(u:Tok):∃e,zDR A s (.int a t) (.int c u) e/\(e=true↔a=c):=
 ⟨(a==c),zEu a t c u,by simp⟩
def aEu(A:zAt)(s:zAF)(a:Int)(t:Tok)(c:Int)(u:Tok)(prog:zA7)(w:World)(E:Value->zAF->Prop)(Q:Value->zAF->Prop)(h:Q (.bool (decide (a<c))) s):
  wpAny (model prog w) A (zGr .Lt (.int a t) (.int c u)) Q E s:=
 (zGH h:wpAny (model prog w) A (zBK .Lt (.int a t) (.int c u)) Q E s)
section
open PySem.SeqAt
open PySem.AutoSeq1(wpAny_loadPart')
open PySem.MeetsSeq PySem.MeetsSeq2 PySem.MeetsSeq3
def vh(l b:Addr)(items items2:Array Value)(n n2:Nat)(dd dd2:Option Addr)(sl sl2:Array (Option Value))(ns ms:List Int)(hi:zB2 items.toList ns)(hj:zB2 items2.toList ms):
  Meets (zE9.«tuple.__lt__» ⟨[.ref l,.ref b],[]⟩)
   (λ _ R s=>s.heap.get? l=some {cls:=.type "tuple",dict:=dd,data:=.seq items n,slots:=sl}/\s.heap.get? b=some {cls:=.type "tuple",dict:=dd2,data:=.seq items2 n2,slots:=sl2}/\
    R (.ok (.ret (.bool (lexLt ns ms)))) s):=
 .of_wp λ prog w A R s h=>by
  obtain⟨hp,g,d,tk,os⟩:=s;obtain⟨hl,hb,h⟩:=h;have f2:=zFw;have z1:items.size=ns.length:=by rw[<-hi.length];simp
  have z2:items2.size=ms.length:=by rw[<-hj.length];simp
  wp_walk using zFX hl,zFX hb,zEK _ (λ rest b s'=>b.1=none/\s'=⟨hp,g,d,tk,os⟩/\∃(vs ws:List Value) (ns' ms':List Int),rest=vs.zip ws/\
   zB2 vs ns'/\zB2 ws ms'/\ns'.length+items2.size=ms'.length+items.size/\R (.ok (.ret (.bool (lexLt ns' ms')))) ⟨hp,g,d,tk,os⟩) _
  case turn=>
   rintro⟨y,x⟩ rest b s' ⟨hb',rfl,vs,ws,ns',ms',hz,hvi,hwi,oQ,hR⟩;cases hvi with
   |nil=>rw[zIB]at hz;cases hz
   |cons a t hvi'=>
    cases hwi with
    |nil=>rw[zHj]at hz;cases hz
    |cons c u hwi'=>
     rw[zBZ]at hz;injection hz with hyx bE
     injection hyx with hy hx
     subst hy hx;rw[iV]at hR;simp only[zA6]at oQ;obtain⟨e,he,hiff⟩:=aBF A.in1 ⟨hp,g,d,tk,os⟩ a t c u;refine zAB (he prog w _ _ ?_);cases e with
     |true=>
      rw[if_pos (hiff.mp rfl)]at hR;wp_walk;exact⟨rfl,rfl,_,_,_,_,bE,hvi',hwi',by lia,hR⟩
     |false=>
      rw[if_neg (λ q=>absurd (hiff.mpr q) zAS)]at hR;have hri:=aEu A.in1 ⟨hp,g,d,tk,os⟩ a t c u prog w;wp_walk using hri;exact⟨_,rfl,by simpa using hR⟩
  case fin=>
   rintro⟨b1,b2⟩ s' ⟨hb',rfl,vs,ws,ns',ms',hz,hvi,hwi,oQ,hR⟩;simp only at hb';subst hb';have hv:lexLt ns' ms'=decide (items.size<items2.size):=by
    cases hvi with
    |nil=>
     cases hwi with
     |nil=>
      simp only[zCH]at oQ;rw[wB];exact(decide_eq_false (by lia)).symm
     |cons c u hw=>
      simp only[zCH,zA6]at oQ;rw[uz];exact(decide_eq_true (by lia)).symm
    |cons a t hv=>
     cases hwi with
     |nil=>
      simp only[zCH,zA6]at oQ;rw[vA];exact(decide_eq_false (by lia)).symm
     |cons c u hw=>
      rw[zBZ]at hz;cases hz
   rw[hv]at hR;wp_walk;exact⟨_,rfl,by simpa[zEh]using hR⟩
  case h=>
   exact⟨rfl,rfl,items.toList,items2.toList,ns,ms,rfl,hi,hj,by lia,h⟩
end
section
variable{prog:zA7}{w:World}{A:zAt}{E:Value->zAF->Prop}{s:zAF}
def aBy(hl:IsTup s.heap l items)(hb:IsTup s.heap b items2)(hi:zB2 items.toList ns)(hj:zB2 items2.toList ms)
  (hu:A.units<cLine)(h:Q (.bool (lexLt ns ms)) s):wpAny (model prog w) A (zBK .Lt (.ref l) (.ref b)) Q E s:=by
 obtain⟨⟨cls,dd,data,sl⟩,ho,hc,n,hd⟩:=id hl;obtain⟨⟨cls2,dd2,data2,sl2⟩,ho2,hc2,n2,hd2⟩:=id hb;simp only at hc hd hc2 hd2;subst hc hd hc2 hd2;exact zIL (op:=.Lt) ⟨_,ho,rfl⟩ ⟨_,ho2,rfl⟩ PySem.F.slot_tuple_lt PySem.F.entry_tuple_lt (PySem.F.args_tuple_lt_2 _ _) (vh l b items items2 n n2 dd dd2 sl sl2 ns ms hi hj)
  ⟨ho,ho2,show zEw (lexLt ns ms)≠zHG/\Q (.bool (lexLt ns ms)) s from⟨(λ x=>nomatch x),h⟩⟩ hu
def aIt(ht:IsTup s.heap t vs.toArray)(hb:IsTup s.heap b ws.toArray)(hv:vs≠[])
  (h1:ws=[]->Q (.ref t) s)(h2:ws≠[]->Q (.ref s.heap.objs.size) {s with heap:=s.heap.push {cls:=.type "tuple",data:=.seq (vs++ws).toArray}})
  (hsz:vs.length+ws.length<=zA0):wpAny (model prog w) A (zCl .Add (.ref t) (.ref b)) Q E s:=by
 obtain⟨⟨cls,dd,data,sl⟩,ho,hc,n,hd⟩:=id ht;obtain⟨⟨cls2,dd2,data2,sl2⟩,ho2,hc2,n2,hd2⟩:=id hb;simp only at hc hd hc2 hd2;subst hc hd hc2 hd2;have e:vs.toArray++ws.toArray=(vs++ws).toArray:=by simp
 by_cases hw:ws=[]
 .exact zI9 ⟨_,ho,rfl⟩ ⟨_,ho2,rfl⟩ zGf zHr zE2 zEX (zEQ _ _)
   (tuple_addW1 t b vs.toArray ws.toArray n n2 dd dd2 sl sl2 (by simpa using hv) (by simp[hw])) ⟨ho,ho2,h1 hw⟩
 .refine zI9 ⟨_,ho,rfl⟩ ⟨_,ho2,rfl⟩ zGf zHr zE2 zEX (zEQ _ _)
   (tuple_addW2 t b vs.toArray ws.toArray n n2 dd dd2 sl sl2 (by simpa using hv) (by simpa using hw) (by rw[zAK,zAK];exact hsz)) ⟨ho,ho2,?_⟩
  rw[e];exact h2 hw
def sIx(n d:Nat):Option Int->Nat
 |none=>d
 |some v=>if v<0 then(v+(n:Int)).toNat else min v.toNat n
def aKH(n d:Nat)(hd:d<=n)(o:Option Int):sIx n d o<=n:=by
 cases o with
 |none=>exact hd
 |some v=>
  show(if v<0 then(v+(n:Int)).toNat else min v.toNat n)<=n
  by_cases hv:v<0
  .rw[if_pos hv];lia
  .rw[if_neg hv];exact Nat.min_le_right _ _
def aDP(v:Int)(n d:Nat):(if v<0 then max (v+(n:Int)) 0 else min v (n:Int))=((sIx n d (some v):Nat):Int):=by
 show(if v<0 then max (v+(n:Int)) 0 else min v (n:Int))=(((if v<0 then(v+(n:Int)).toNat else min v.toNat n):Nat):Int)
 by_cases hv:v<0
 .simp only[if_pos hv];lia
 .simp only[if_neg hv];lia
def aC0(lo hi:Option Int)(n:Nat):zDh lo hi 1 (n:Int)=(((sIx n 0 lo:Nat):Int),((sIx n n hi:Nat):Int)):=by
 have h1:¬((1:Int)<0):=by lia
 unfold zDh;simp only[h1,if_false];refine zEz ?_ ?_
 .cases lo with
  |none=>rfl
  |some v=>exact aDP v n 0
 .cases hi with
  |none=>rfl
  |some v=>exact aDP v n n
def aBo(i j:Nat):zCp (i:Int) (j:Int) 1=j-i:=by
 unfold zCp;have h1:(1:Int)>0:=by lia
 simp only[h1,if_true,Int.ediv_one];split<;>lia
def uP(p:zG2 v o)(h:Q o s):wpAny (model prog w) A (zJL v) Q E s:=by
 cases p with
 |none=>exact slicePart_none h
 |int i t=>exact slicePart_int h
def jV{sl:Addr}{vl vu:Value}{lo hi:Option Int}{n:Nat}{Q:Int×Int×Nat->zAF->Prop}(hs:s.heap.IsSliceOf sl vl vu .none)(pl:zG2 vl lo)(pu:zG2 vu hi)
  (h:Q (((sIx n 0 lo:Nat):Int),1,sIx n n hi-sIx n 0 lo) s):wpAny (model prog w) A (zFM (.ref sl) (pure (n:Int))) Q E s:=by
 obtain⟨os,hos,hcs,hds⟩:=id hs;unfold zFM zJK;refine zAB (zAB (zIw hos hds (x:=vl) rfl (zAB (zIw hos hds (x:=vu) rfl (zAB (zIw hos hds (x:=.none) rfl (zAJ ?_)))))));refine zAB (slicePart_none ?_);show wpAny _ _ (if ((1:Int)==0)=true then _ else _) _ _ s;rw[if_neg (by decide)];refine zAB (uP pl (zAB (uP pu (zAB (zAJ ?_)))));show wpAny _ _ (match zDh lo hi 1 (n:Int)with|(lo,hi)=>pure (lo,(1:Int),zCp lo hi 1)) _ _ s;rw[aC0 lo hi n];show wpAny _ _ (pure (((sIx n 0 lo:Nat):Int),(1:Int),zCp ((sIx n 0 lo:Nat):Int) ((sIx n n hi:Nat):Int) 1)) _ _ s;rw[aBo];exact zAJ h
def aFM(xs:Array Value)(i k:Nat):((zAr k).filterMap λ(m:Nat)=>xs[((i:Int)+(m:Int)*1).toNat]?).toArray=((xs.toList.drop i).take k).toArray:=by
 have e:(λ(m:Nat)=>xs[((i:Int)+(m:Int)*1).toNat]?)=λ m=>xs[i+m]?:=by
  funext m
  have:((i:Int)+(m:Int)*1).toNat=i+m:=by lia
  rw[this]
 rw[e]
 have:=pick_run xs i k
 rw[List.filterMap_map]at this;have e2:((λ x=>xs[x]?)∘λ x=>i+x)=λ m=>xs[i+m]?:=rfl
 rw[e2]at this;rw[this]
def pX{t sl:Addr}{items:Array Value}{vl vu:Value}{lo hi:Option Int}{Q:Value->zAF->Prop}(ht:IsTup s.heap t items)(hs:s.heap.IsSliceOf sl vl vu .none)(pl:zG2 vl lo)(pu:zG2 vu hi)
  (hw:¬(sIx items.size 0 lo=0/\sIx items.size items.size hi=items.size))
  (h:Q (.ref s.heap.objs.size) {s with heap:=s.heap.push {cls:=.type "tuple",data:=.seq ((items.toList.drop (sIx items.size 0 lo)).take (sIx items.size items.size hi-sIx items.size 0 lo)).toArray}})
  (hsz:items.size<=zA0):wpAny (model prog w) A (zFB (.ref t) (.ref sl)) Q E s:=by
 have cE:sizeOk (.seq ((items.toList.drop (sIx items.size 0 lo)).take (sIx items.size items.size hi-sIx items.size 0 lo)).toArray):=by
  show((items.toList.drop (sIx items.size 0 lo)).take (sIx items.size items.size hi-sIx items.size 0 lo)).toArray.size<=zA0
  rw[zAK,zA3,zAp,zAL];lia
 have hj:sIx items.size items.size hi<=items.size:=aKH _ _ (zAW _) hi;obtain⟨os,hos,hcs,hds⟩:=id hs;have hTs:s.TypeIs (.ref sl) "slice":=⟨os,hos,hcs⟩;unfold zFB
 try with_reducible refine zCK ?_
 first|refine zAB (zAJ ?_)|skip
 refine zAB (zJ4 ht.typeIs (by decide) ?_);refine zAB (zDd (name:=zFv "__getitem__") ht.typeIs zBx
  (zCa zBx ht.typeIs zIt ?_ (zJG _ _)))
 show wpAny _ _ (zFN (.ref t)>>=_) _ _ s;refine zAB (tupleItemsOf_ ht ?_);refine zAB (zFY hTs ?_);rw[if_pos (by decide)];refine zAB (jV hs pl pu ?_);have hno:¬((((sIx items.size 0 lo:Nat):Int)==0&&(1:Int)==1&&(sIx items.size items.size hi-sIx items.size 0 lo)==items.size)=true):=by
  intro q;rw[zAa,zAa]at q;have q1:((sIx items.size 0 lo:Nat):Int)=0:=zFy q.1.1;have q2:sIx items.size items.size hi-sIx items.size 0 lo=items.size:=zFy q.2;exact hw ⟨by lia,by lia⟩
 show wpAny _ _ (if (((sIx items.size 0 lo:Nat):Int)==0&&(1:Int)==1&&(sIx items.size items.size hi-sIx items.size 0 lo)==items.size)=true then _ else _) _ _ s;rw[if_neg hno,aFM]
 first
  |exact zAB (m:=zCv _) (zBw (zAJ ⟨_,rfl,zAJ h⟩) cE)
  |exact zAB (m:=zCv _) (zBw (zAB (zAJ (zAJ ⟨_,rfl,zAJ h⟩))) cE)
  |exact zAB (zAB (m:=zCv _) (zBw (zAJ (zAJ ⟨_,rfl,zAJ h⟩)) cE))
  |exact zAB (zAB (m:=zCv _) (zBw (zAJ ⟨_,rfl,zAJ h⟩) cE))
end
end HT
namespace L2
open PySem PySem.Spec PyProof.Rows
abbrev TO:=St->Hp->(Option Int->Hp->Prop)->Prop
def PO(X:Cx)(e:Option Expr)(t:TO):Prop:=
 ∀(kK:hV) (s:zAF) (Z:St) (H:Hp) (Q:Option Int->Hp->Prop),Inv X kK Z H s->t Z H Q->
  wpAny (model X.prog X.w) X.A (evalPart e X.env) (λ u s'=>∃o H',Inv X kK Z H' s'/\zG2 u o/\Q o H') X.xe s
def aHL:TO:=λ _ H Q=>Q none H
def aLh(t:TE):TO:=λ Z H Q=>t Z H λ x H1=>∃i,x= .int i/\Q (some i) H1
def intsAre_of:∀{us:List Value},Vals (ns.map V.int) us->zB2 us ns:=by
 induction ns with
 |nil=>intro us r;rw[zEr]at r;cases r;exact .nil
 |cons n ns ih=>
  intro us r;rw[zAG]at r;cases r with
  |cons r1 r2=>
   obtain⟨t,e⟩:=r1;subst e;exact .cons n t (ih r2)
section
variable{X:Cx}{e:Expr}{te:TE}{lo hi:Option Expr}{tl th:TO}{pos p2:Pos}
def aHj:PO X none aHL:=by
 intro kK s Z H Q I h;rw[zHp];exact zAJ ⟨none,H,I,.none,h⟩
def aHi(h:PE X e te):PO X (some e) (aLh te):=by
 intro kK s Z H Q I hw;rw[evalPart_some];refine thn (h kK s Z H _ I hw) λ u s1 ⟨x,H1,I1,r1,q1⟩=>?_
 obtain⟨i,rfl,q⟩:=q1;obtain⟨t,rfl⟩:=r1;exact⟨some i,H1,I1,.int i t,q⟩
def SlR(X:Cx)(r:V->Option Int->Option Int->Hp->VK->Prop):Prop:=
 ∀(kK:hV) (s:zAF) (Z:St) (H:Hp) (x:V) (v vl vu:Value) (lo hi:Option Int) (sl:Addr) (Q:VK),Inv X kK Z H s->RelV x v->s.heap.IsSliceOf sl vl vu .none->zG2 vl lo->zG2 vu hi->r x lo hi H Q->
  ∃T id,zF5 (.type T) "__getitem__"=pure (some (.builtin id))/\s.TypeIs v T/\wpAny (model X.prog X.w) X.A (zFB v (.ref sl)) (EP X kK Z Q) X.xe s
def SlR.or(h:SlR X r)(h':SlR X r'):SlR X (λ x lo hi H Q=>r x lo hi H Q\/r' x lo hi H Q):=by
 intro kK s Z H x v vl vu lo hi sl Q I rx hs pl pu q;rcases q with q|q
 .exact h kK s Z H x v vl vu lo hi sl Q I rx hs pl pu q
 .exact h' kK s Z H x v vl vu lo hi sl Q I rx hs pl pu q
def tSl(r:V->Option Int->Option Int->Hp->VK->Prop)(te:TE)(tl th:TO):TE:=λ Z H Q=>te Z H λ x H1=>tl Z H1 λ l H2=>th Z H2 λ u H3=>r x l u H3 Q
def aA0(hr:SlR X r)(he:PE X e te)(hl:PO X lo tl)(hu:PO X hi th):PE X (.Subscript e (.Slice lo hi none p2) pos) (tSl r te tl th):=by
 intro kK s Z H Q I h;refine zH9 (thn (he kK s Z H _ I h) λ v s1 ⟨x,H1,I1,r1,q1⟩=>?_);refine wpAny_Slice (thn (hl kK s1 Z H1 _ I1 q1) λ vl s2 ⟨l,H2,I2,pl,q2⟩=>thn (hu kK s2 Z H2 _ I2 q2) λ vu s3 ⟨u,H3,I3,pu,q3⟩=>?_);rw[zHp];refine zAJ ?_;have I4:Inv X kK Z H3 {s3 with heap:=s3.heap.push {cls:=.type "slice",data:=.fields #[vl,vu,.none]}}:=I3.kept (t':=s3.toks) λ b ob q=>zAD _ q
 obtain⟨T,id,hT,ht,hg⟩:=hr kK {s3 with heap:=s3.heap.push {cls:=.type "slice",data:=.fields #[vl,vu,.none]}} Z H3 x v vl vu l u s3.heap.objs.size Q I4 r1 (zFx ..) pl pu q3;show wpAny (model X.prog X.w) X.A (zGB e (.Slice lo hi none p2) v (.ref s3.heap.objs.size)) (EP X kK Z Q) X.xe {s3 with heap:=s3.heap.push {cls:=.type "slice",data:=.fields #[vl,vu,.none]}};exact tail_any (ops:=[.ref s3.heap.objs.size,v]) ht hT hg (by with_unfolding_all rfl)
def v7(xs:List V)(lo hi:Option Int):List V:=(xs.drop (HT.sIx xs.length 0 lo)).take (HT.sIx xs.length xs.length hi-HT.sIx xs.length 0 lo)
def sJ(xs:List V)(lo hi:Option Int):(v7 xs lo hi).length<=xs.length:=by
 unfold v7;rw[zA3,zAp];lia
def aH9(K:zAA):R2:=λ x y H Q=>∃a b ns ms,x= .ref a/\y= .ref b/\SqT K H a (ns.map V.int)/\SqT K H b (ms.map V.int)/\Q (.bl (HT.lexLt ns ms)) H
def aKf(hu:X.A.units<cLine):OpR X (zBK .Lt) (aH9 X.K):=by
 intro kK s Z H x y v u Q I rx ry h;obtain⟨a,b,ns,ms,rfl,rfl,ha,hb,q⟩:=h;cases rx;cases ry;obtain⟨its,r1,p1,_⟩:=I.tuple ha;obtain⟨its2,r2,p2,_⟩:=I.tuple hb;have i1:zB2 its.toArray.toList ns:=intsAre_of r1;have i2:zB2 its2.toArray.toList ms:=intsAre_of r2;exact HT.aBy p1 p2 i1 i2 hu ⟨.bl (HT.lexLt ns ms),H,I,rfl,q⟩
def aMB(K:zAA):R2:=λ x y H Q=>∃a b xs ys,x= .ref a/\y= .ref b/\SqT K H a xs/\SqT K H b ys/\xs≠[]/\xs.length+ys.length<=zA0/\
 (ys=[]->Q (.ref a) H)/\(ys≠[]->∀p,H p=none->Q (.ref p) (upd H p (.tup (xs++ys))))
def Vals.nil_iff(r:Vals xs us):us=[]↔xs=[]:=by
 cases r with
 |nil=>simp
 |cons _ _=>simp
def aIC:OpR X (zCl .Add) (aMB X.K):=by
 intro kK s Z H x y v u Q I rx ry h;obtain⟨a,b,xs,ys,rfl,rfl,ha,hb,hx,hz,q1,q2⟩:=h;cases rx;cases ry;obtain⟨its,r1,p1,_⟩:=I.tuple ha;obtain⟨its2,r2,p2,_⟩:=I.tuple hb;refine HT.aIt p1 p2 (λ z=>hx (r1.nil_iff.mp z)) (λ z=>⟨.ref a,H,I,rfl,q1 (r2.nil_iff.mp z)⟩) (λ z=>?_) (by rw[<-r1.length,<-r2.length];exact hz);refine⟨.ref s.heap.objs.size,_,I.laid (t':=s.toks) (o:=.tup (xs++ys)) (λ b ob q=>zAD _ q) (zAW _) ?_,rfl,q2 (λ w=>z (r2.nil_iff.mpr w)) _ (I.hok.fresh (zAW _))⟩;exact⟨⟨by rw[zAV];exact hz,NoD.push _⟩,_,r1.append r2,zIU _ _⟩
end
def ixN(n:Nat)(i:Int):Option Nat:=if 0<=i then(if i<n then some i.toNat else none)else if -(n:Int)<=i then some (i+n).toNat else none
def atI{α:Type}(xs:List α)(i:Int):Option α:=(ixN xs.length i).bind λ j=>xs[j]?
def zK(h:ixN n i=some j):seqIndex? i n=some j/\j<n/\-(n:Int)<=i/\i<n:=by
 unfold ixN at h;by_cases h0:0<=i
 .rw[if_pos h0]at h
  by_cases h1:i<n
  .rw[if_pos h1]at h
   have e:i.toNat=j:=zAh h;exact⟨by rw[zGs h0 h1,e],by lia,by lia,h1⟩
  .rw[if_neg h1]at h;cases h
 .rw[if_neg h0]at h
  by_cases h1: -(n:Int)<=i
  .rw[if_pos h1]at h
   have e:(i+n).toNat=j:=zAh h;exact⟨by rw[zG7 (by lia) h1,e],by lia,h1,by lia⟩
  .rw[if_neg h1]at h;cases h
def z9(h:atI xs i=some v):∃j,seqIndex? i xs.length=some j/\xs[j]? =some v/\j<xs.length/\-(xs.length:Int)<=i/\i<xs.length:=by
 unfold atI at h;cases e:ixN xs.length i with
 |none=>rw[e]at h;cases h
 |some j=>
  rw[e]at h;obtain⟨h1,h2,h3,h4⟩:=zK e;exact⟨j,h1,h,h2,h3,h4⟩
def t8(b:Expr):Prop:=∀o i,zGt b false o i=operate [o,i] (zFB o i)
def IxR(X:Cx)(r:R2):Prop:=
 ∀(value slice:Expr) (kK:hV) (s:zAF) (Z:St) (H:Hp) (x y:V) (v u:Value) (Q:VK),Inv X kK Z H s->RelV x v->RelV y u->r x y H Q->
  zGt slice false v u=operate [v,u] (zFB v u)->wpAny (model X.prog X.w) X.A (zGB value slice v u) (EP X kK Z Q) X.xe s
def MtR(X:Cx)(id:String)(r:V->List V->Hp->VK->Prop):Prop:=
 ∀(kK:hV) (s:zAF) (Z:St) (H:Hp) (x:V) (xs:List V) (v:Value) (us:List Value) (Q:VK),Inv X kK Z H s->RelV x v->Vals xs us->r x xs H Q->
  wpAny (model X.prog X.w) X.A (call (.builtin id) (v::us)) (EP X kK Z Q) X.xe s
section
variable{X:Cx}{a b:Expr}{ta tb:TE}{pos:Pos}
def IxR.or(h:IxR X r)(h':IxR X r'):IxR X (λ x y H Q=>r x y H Q\/r' x y H Q):=by
 intro value slice kK s Z H x y v u Q I rx ry q hs;rcases q with q|q
 .exact h value slice kK s Z H x y v u Q I rx ry q hs
 .exact h' value slice kK s Z H x y v u Q I rx ry q hs
def aJ5{r:R2}(hr:IxR X r)(ha:PE X a ta)(hb:PE X b tb)(hs:t8 b):PE X (.Subscript a b pos) (tOp r ta tb):=by
 intro kK s Z H Q I h;exact zH9 (aL7 ha hb I h λ v u s2 x y H2 I2 rx ry q=>hr a b kK s2 Z H2 x y v u Q I2 rx ry q (hs _ _))
def aKM(K:zAA):R2:=λ x y H Q=>∃p xs i v,x= .ref p/\y= .int i/\SqL K H p xs/\atI xs i=some v/\Q v H
def aLz(K:zAA):R2:=λ x y H Q=>∃p xs i v,x= .ref p/\y= .int i/\SqT K H p xs/\atI xs i=some v/\Q v H
def aMA:R2:=λ x y H Q=>∃z i c,x= .str z/\y= .int i/\z.length<=zA0/\atI z.cps.toList i=some c/\Q (.str ⟨#[c]⟩) H
def aDA:IxR X (aKM X.K):=by
 intro value slice kK s Z H x y v u Q I rx ry h hs;obtain⟨p,xs,i,z,rfl,rfl,hq,he,q⟩:=h;cases rx;obtain⟨t,rfl⟩:=ry;obtain⟨its,r,pl,hz⟩:=I.list hq;obtain⟨j,h1,h2,h3,h4,h5⟩:=z9 he;obtain⟨w,ew,rw'⟩:=r.get h2;have hl:=r.length;have hn:=oU;have fin:EP X kK Z Q w s:=⟨z,H,I,rw',q⟩;by_cases h0:0<=i
 .have hj:i.toNat=j:=by
   rw[zGs h0 h5]at h1;exact zAh h1
  exact item_listR pl.isList h0 (by lia) (by rw[hj];simpa using ew) fin hs
 .have hj:(i+(its.toArray.size:Int)).toNat=j:=by
   rw[zG7 (by lia) h4]at h1;rw[zAK,<-hl];exact zAh h1
  exact zIM (x:=w) pl.isList.typeIs zGX.lookup
   (zIN (Q:=λ r s'=>r=w/\EP X kK Z Q r s') pl.isList (by lia) (by rw[zAK]<;>lia) (by lia) (by rw[hj];simpa using ew) ⟨rfl,fin⟩) hs
def aLE:IxR X (aLz X.K):=by
 intro value slice kK s Z H x y v u Q I rx ry h hs;obtain⟨p,xs,i,z,rfl,rfl,hq,he,q⟩:=h;cases rx;obtain⟨t,rfl⟩:=ry;obtain⟨its,r,pl,hz⟩:=I.tuple hq;obtain⟨j,h1,h2,h3,h4,h5⟩:=z9 he;obtain⟨w,ew,rw'⟩:=r.get h2;have hl:=r.length;have hn:=oU;have fin:EP X kK Z Q w s:=⟨z,H,I,rw',q⟩;exact zIM (x:=w) pl.typeIs slot_tuple_getitem.lookup
  (getItem_tuple (j:=j) (Q:=λ r s'=>r=w/\EP X kK Z Q r s') pl (by lia) (by lia) (by rw[zAK,<-hl];exact h1) (by simpa using ew) ⟨rfl,fin⟩) hs
def aLF:IxR X aMA:=by
 intro value slice kK s Z H x y v u Q I rx ry h hs;obtain⟨z,i,c,rfl,rfl,hz,he,q⟩:=h;obtain⟨t,rfl⟩:=rx;obtain⟨t',rfl⟩:=ry;obtain⟨j,h1,h2,h3,h4,h5⟩:=z9 he;have hl:z.cps.toList.length=z.length:=by simp[Str.length]
 rw[hl]at h1 h4 h5;have hn:=oU;exact tail_any (typeIs_str s z t) slot_str_getitem.lookup (getItem_str (c:=c) (by
  have e1:decide (i < -(2^63:Int))=false:=decide_eq_false (by lia);have e2:decide (i ≥ 2^63)=false:=decide_eq_false (by lia);rw[e1,e2,Bool.or_false]) (by rw[h1];simpa using h2) ⟨.str ⟨#[c]⟩,H,I.tok _,⟨_,rfl⟩,q⟩) hs
def rIx(K:zAA):R2:=λ x y H Q=>aKM K x y H Q\/aLz K x y H Q\/aMA x y H Q
def aLG:IxR X (rIx X.K):=aDA.or (aLE.or aLF)
def aBw(its:List Value)(n j:Nat)(u:Value):zBn (·.setIfInBounds j u) {cls:=.type "list",data:=.seq its.toArray n}={cls:=.type "list",data:=.seq (its.set j u).toArray n}:=by
 simp[zBn]
theorem Inv.lst(I:Inv X kK Z H s)(h:H p=some (.lst xs)):
  ∃(its:List Value) (n:Nat),Vals xs its/\s.heap.get? p=some {cls:=.type "list",data:=.seq its.toArray n}/\xs.length<=zA0:=by
 obtain⟨z,its,n,r,e⟩:=I.hok p _ h;exact⟨its,n,r,e,z⟩
def Inv.lstUpd{kK:hV}{Z:St}{H:Hp}{s:zAF}{p:Addr}{xs ys:List V}{its its':List Value}{n n':Nat}{f:Obj->Obj}(I:Inv X kK Z H s)(h:H p=some (.lst xs))
  (ho:s.heap.get? p=some {cls:=.type "list",data:=.seq its.toArray n})(hf:f {cls:=.type "list",data:=.seq its.toArray n}={cls:=.type "list",data:=.seq its'.toArray n'})(r:Vals ys its')(hz:ys.length<=zA0)(t:Nat):
  Inv X kK Z (upd H p (.lst ys)) {s with heap:=s.heap.update p f,toks:=t}:=by
 have e:(s.heap.update p f).get? p=some {cls:=.type "list",data:=.seq its'.toArray n'}:=by
  rw[zEo f ho (by rw[hf]<;>rfl),hf]
 refine I.write (x:=p) (e:=p) (by rw[h];trivial) (.inl rfl) (λ b u hb q=>(zGl _ _ (zE1 hb)).trans q) ⟨_,e⟩ ?_;exact⟨hz,its',n',r,e⟩
def aJT:V->V->V->Hp->(Hp->Prop)->Prop:=λ o i v H Q=>∃p xs k j,o= .ref p/\i= .int k/\H p=some (.lst xs)/\ixN xs.length k=some j/\Q (upd H p (.lst (xs.set j v)))
def set_list:aMb X aJT:=by
 intro kK s Z H o i v ov iv u Q I ro ri rv h;obtain⟨p,xs,k,j,rfl,rfl,hp,hj,q⟩:=h;cases ro;obtain⟨t,rfl⟩:=ri;obtain⟨its,n,r,ho,hz⟩:=I.lst hp;obtain⟨h1,h2,h3,h4⟩:=zK hj;have hl:=r.length;have hn:=oU;have I':Inv X kK Z (upd H p (.lst (xs.set j v))) {s with heap:=s.heap.update p (zBn (·.setIfInBounds j u))}:=
  I.lstUpd hp ho (aBw its n j u) (r.set rv j) (by rw[zBL];exact hz) s.toks
 by_cases h0:0<=k
 .have hk:k.toNat=j:=by
   rw[zGs h0 h4]at h1;exact zAh h1
  exact PySem.W.ki_setAt ho h0 (by lia) (by rw[zAK,<-hl];exact h4) (by rw[hk];exact⟨_,I',q⟩)
 .have hk:(k+(its.toArray.size:Int)).toNat=j:=by
   rw[zG7 (by lia) h3]at h1;rw[zAK,<-hl];exact zAh h1
  exact PySem.W.ki_setBack ho (by lia) (by rw[zAK,<-hl];exact h3) (by lia) (by rw[hk];exact⟨_,I',q⟩)
def yO(lo hi:Option Int)(n:Nat):(zEZ lo hi none n).1=((HT.sIx n 0 lo:Nat):Int)/\(zEZ lo hi none n).2.1=((HT.sIx n n hi:Nat):Int)/\(zEZ lo hi none n).2.2=1:=by
 refine⟨?_,?_,rfl⟩
 .cases lo with
  |none=>simp[zEZ,HT.sIx]
  |some i=>
   simp only[zEZ,HT.sIx,zHk,show(1:Int)>0 by decide,if_true];by_cases h:i<0
   .simp only[h,if_true]<;>lia
   .simp only[h,if_false]<;>lia
 .cases hi with
  |none=>simp[zEZ,HT.sIx]
  |some i=>
   simp only[zEZ,HT.sIx,zHk,show(1:Int)>0 by decide,if_true];by_cases h:i<0
   .simp only[h,if_true]<;>lia
   .simp only[h,if_false]<;>lia
def vo(its:List Value)(lo hi:Option Int):slicePick its.toArray lo hi none=((its.drop (HT.sIx its.length 0 lo)).take (HT.sIx its.length its.length hi-HT.sIx its.length 0 lo)).toArray:=by
 obtain⟨h1,h2,h3⟩:=yO lo hi its.toArray.size;unfold slicePick;rw[h1,h2,h3];simp only[sliceRange_one,pick_run,zAK]<;>rfl
def aLw(K:zAA):V->Option Int->Option Int->Hp->VK->Prop:=λ x lo hi H Q=>∃a xs,x= .ref a/\SqL K H a xs/\∀p,H p=none->Q (.ref p) (upd H p (.lst (v7 xs lo hi)))
def aHQ:SlR X (aLw X.K):=by
 intro kK s Z H x v vl vu lo hi sl Q I rx hs pl pu h;obtain⟨a,xs,rfl,hx,q⟩:=h;cases rx;obtain⟨its,r,ht,hz⟩:=I.list hx;have oQ:=r.length;refine⟨"list",_,zGX.lookup,ht.isList.typeIs,?_⟩;refine zHb ht.isList hs pl pu .none (by simp) ?_ (by rw[zAK]<;>lia);rw[vo,<-oQ];refine⟨.ref s.heap.objs.size,_,I.laid (t':=s.toks) (o:=.lst (v7 xs lo hi)) (λ b ob q=>zAD _ q) (zAW _) ?_,rfl,q _ (I.hok.fresh (zAW _))⟩;exact⟨zBB (sJ xs lo hi) hz,_,0,(r.drop (HT.sIx xs.length 0 lo)).take (HT.sIx xs.length xs.length hi-HT.sIx xs.length 0 lo),zAY _ rfl⟩
def qD:cI X (.builtin "len") (λ xs H Q=>∃p ys,xs=[.ref p]/\(SqL X.K H p ys\/SqT X.K H p ys)/\Q (.int ys.length) H):=by
 intro kK s Z H xs us Q I r h;obtain⟨p,ys,rfl,hq,q⟩:=h;obtain⟨u,rfl,rx⟩:=vals1 r;cases rx;have hn:=oU;rcases hq with hq|hq
 .obtain⟨its,r',pl,hz⟩:=I.list hq
  have oQ:=r'.length;exact Calls.call_len_list pl.isList (by simp only[zAK]<;>lia) ⟨.int ys.length,H,I.tok _,⟨s.toks+1,by rw[zAK,oQ]⟩,q⟩
 .obtain⟨its,r',pl,hz⟩:=I.tuple hq
  have oQ:=r'.length;exact len_tuple pl (by simp only[zAK]<;>lia) ⟨.int ys.length,H,I.tok _,⟨s.toks+1,by rw[zAK,oQ]⟩,q⟩
def cI.or(h:cI X f r)(h':cI X f r'):cI X f (λ xs H Q=>r xs H Q\/r' xs H Q):=by
 intro kK s Z H xs us Q I rs q;rcases q with q|q
 .exact h kK s Z H xs us Q I rs q
 .exact h' kK s Z H xs us Q I rs q
def wG:cI X (.type "tuple") (λ xs H Q=>∃p ys,xs=[.ref p]/\((SqL X.K H p ys/\∀l,H l=none->Q (.ref l) (upd H l (.tup ys)))\/(SqT X.K H p ys/\Q (.ref p) H))):=by
 intro kK s Z H xs us Q I r h;obtain⟨p,ys,rfl,h⟩:=h;obtain⟨u,rfl,rx⟩:=vals1 r;cases rx;rcases h with ⟨hq,q⟩|⟨hq,q⟩
 .obtain⟨its,r',pl,hz⟩:=I.list hq
  have oQ:=r'.length;refine call_tuple_list pl.isList (λ h' kp=>?_) (by simp only[zAK]<;>lia);have I1:Inv X kK Z H {s with heap:=h'}:=I.kept (t':=s.toks) kp;have I2:Inv X kK Z (upd H h'.objs.size (.tup ys)) {s with heap:=h'.push {cls:=.type "tuple",data:=.seq its.toArray}}:=
   I1.laid (t':=s.toks) (λ b o e=>zAD _ e) (zAW _) (show bu X.prog X.w _ _ _ (.tup ys)from⟨⟨hz,NoD.push _⟩,its,r',zIU _ _⟩)
  exact⟨.ref h'.objs.size,_,I2,rfl,q _ (I1.hok.fresh (zAW _))⟩
 .obtain⟨its,r',pl,hz⟩:=I.tuple hq
  exact call_tuple_same pl ⟨.ref p,H,I,rfl,q⟩
def tyV(K:zAA)(T:String)(x:V)(H:Hp):Prop:=match x with
 | .str _=>T="str"
 | .int _=>T="int"
 | .ref p=>(T="list"/\∃xs,SqL K H p xs)\/(T="tuple"/\∃o,K.lookup p=some o/\o.cls= .type "tuple"/\o.dict=none)\/
   (T="dict"/\((∃kvs,H p=some (.dK kvs))\/∃kvs,H p=some (.dT kvs)))\/(T="set"/\∃S n,H p=some (.set S n))
 |_=>False
def aJo(I:Inv X kK Z H s)(r:RelV x v)(ty:tyV X.K T x H):
  s.TypeIs v T/\∀a,v= .ref a->∃ob,s.heap.get? a=some ob/\ob.dict=none:=by
 cases x with
 |str z=>
  obtain⟨t,rfl⟩:=r;cases (show T="str" from ty);exact⟨typeIs_str s z t,λ _ e=>nomatch e⟩
 |int i=>
  obtain⟨t,rfl⟩:=r;cases (show T="int" from ty);exact⟨zJ1 s i t,λ _ e=>nomatch e⟩
 |ref p=>
  cases r;rcases ty with ⟨rfl,xs,hq⟩|⟨rfl,o,hk,hc,hd⟩|⟨rfl,hk⟩|⟨rfl,S,n,hk⟩
  .obtain⟨its,_,pl,_⟩:=I.list hq
   refine⟨pl.isList.typeIs,λ a e=>?_⟩;cases e;obtain⟨o,n,e,c,hd,_⟩:=pl;exact⟨o,e,hd⟩
  .refine⟨⟨o,I.kIn p o hk,hc⟩,λ a e=>?_⟩
   cases e;exact⟨o,I.kIn _ o hk,hd⟩
  .have z:∃o,s.heap.get? p=some o/\o.ExactDict:=by
    rcases hk with ⟨kvs,hk⟩|⟨kvs,hk⟩
    .obtain⟨_,_,_,_,o,_,_,e,ex,_⟩:=I.hok p _ hk
     exact⟨o,e,ex⟩
    .obtain⟨_,_,_,_,o,_,_,e,ex,_⟩:=I.hok p _ hk
     exact⟨o,e,ex⟩
   obtain⟨o,e,ex⟩:=z;refine⟨⟨o,e,ex.1⟩,λ a e2=>?_⟩;cases e2;exact⟨o,e,ex.2.1⟩
  .obtain⟨o,_,_,_,e,ex,_⟩:=I.hok p _ hk
   refine⟨⟨o,e,ex.1⟩,λ a e2=>?_⟩;cases e2;exact⟨o,e,ex.2.1⟩
 |_=>exact zAU ty
def tBM(K:zAA)(T:String)(r:V->List V->Hp->VK->Prop)(to:TE)(t:TA):TE:=λ Z H Q=>to Z H λ x H1=>tyV K T x H1/\t Z H1 λ xs H2=>r x xs H2 Q
variable{o e:Expr}{es:List Expr}{to:TE}{t:TA}{name:Str}{apos cpos:Pos}{T id:String}{r:V->List V->Hp->VK->Prop}
def aA1(pa:PlainAttrs T)(slot:Slot T name id)(hty:typeOf (.builtin id)=pure (.type "method_descriptor"))(hm:MtR X id r)(ho:PE X o to)(ha:PA X (e::es) t)
  (hbase:zER o name X.env (eval o X.env)=eval o X.env:=by rfl)
  (hfew:((zCs cpos (zA4 (e::es) X.env)).all (λ x=>!x.1)&&(zF3 cpos (zDt [] X.env)).all (λ x=>x.1.isSome)
   &&decide ((e::es).length+([]:List zCy).length+(if ([]:List zCy).isEmpty then 0 else 1)<30))=true:=by rfl)
  (hline:(apos.endLine==cpos.line)=true:=by rfl)(hs:zA4 (e::es) X.env=(false,eval e X.env)::zA4 es X.env:=by rfl)(hplain:(zCs cpos (zA4 es X.env)).any (·.1)=false:=by rfl):
  PE X (.Call (.Attribute o name apos) (e::es) [] cpos) (tBM X.K T r to t):=by
 intro kK s Z H Q I h;refine wpAny_Call_method_late hbase hfew hline rfl (thn (ho kK s Z H _ I h) λ v s1 ⟨x,H1,I1,r1,ty,q1⟩=>?_);obtain⟨h1,h2⟩:=aJo I1 r1 ty;refine⟨T,id,pa,slot,hty,h1,h2,?_⟩;have hA:=ha cpos kK s1 Z H1 _ I1 q1;rw[hs]at hA ⊢;refine Calls.callWith_builtin (by show(false||(zCs cpos (zA4 es X.env)).any (·.1))=false;rw[hplain]<;>rfl) (zGx ?_);exact thn hA λ us s2 ⟨vs,H2,I2,r2,q2⟩=>hm kK s2 Z H2 x vs v us Q I2 r1 r2 q2
end
def MtM(X:Cx)(id:String)(r:V->List V->Hp->VK->Prop):Prop:=
 ∀(kK:hV) (s:zAF) (Z:St) (H:Hp) (x:V) (xs:List V) (v:Value) (us:List Value) (Q:VK),Inv X kK Z H s->RelV x v->Vals xs us->r x xs H Q->
  wpAny (model X.prog X.w) X.A (call (.builtin id) (v::us)) (EP X kK Z Q) X.xe s
def Vals.one:∀{x:V} {us:List Value},Vals [x] us->∃u,us=[u]/\RelV x u
 |_,_,.cons r .nil=>⟨_,rfl,r⟩
theorem Vals.eraseIdx:∀{xs:List V} {us:List Value} (i:Nat),Vals xs us->Vals (xs.eraseIdx i) (us.eraseIdx i)
 |_,_,_,.nil=>.nil
 |_,_,0,.cons _ t=>t
 |_,_,i+1,.cons r t=>.cons r (Vals.eraseIdx i t)
theorem Vals.reverse(h:Vals xs us):Vals xs.reverse us.reverse:=by
 induction h with
 |nil=>exact .nil
 |cons r t ih=>rw[zD5,zD5];exact Vals.append ih (.cons r .nil)
theorem Vals.rep(h:Vals xs us):∀k:Nat,Vals (zAP k xs).flatten (zAP k us).flatten
 |0=>.nil
 |k+1=>by
  rw[zCF,zCF,zCD,zCD];exact Vals.append h (Vals.rep h k)
theorem foldl_rep(its:List Value):∀(k:Nat) (acc:List Value),
  zFa (λ x1 x2=>x1++x2) acc.toArray (zAP k its.toArray)=(acc++(zAP k its).flatten).toArray
 |0,acc=>by simp
 |k+1,acc=>by
  have e:acc.toArray++its.toArray=(acc++its).toArray:=by simp
  have e2:(acc++its)++(zAP k its).flatten=acc++(zAP (k+1) its).flatten:=by
   rw[zCF,zCD,zAd]
  rw[<-e2,<-foldl_rep its k (acc++its),<-e,zCF,zBV]
section
variable{X:Cx}{kK:hV}{Z:St}{H:Hp}{s:zAF}{l:Addr}{xs ys:List V}
def Inv.lset{its its':List Value}{n:Nat}{f:Array Value->Array Value}{t':Nat}(I:Inv X kK Z H s)(hH:H l=some (.lst xs))
  (e:s.heap.get? l=some {cls:=.type "list",data:=.seq its.toArray n})(hf:f its.toArray=its'.toArray)(hv:Vals ys its')(hz:ys.length<=zA0):
  Inv X kK Z (upd H l (.lst ys)) {s with heap:=s.heap.update l (zBn f),toks:=t'}:=by
 have q:=PySem.IsL.update e f;rw[hf]at q;refine I.write (x:=l) (e:=l) (by rw[hH];exact trivial) (.inl rfl) (λ b' u hb hu=>(zGl s.heap (zBn f) (zE1 hb)).trans hu) ⟨_,q⟩ ?_;exact⟨hz,its',_,hv,q⟩
def Inv.lnew(I:Inv X kK Z H s)(hv:Vals ys its)(hz:ys.length<=zA0):
  Inv X kK Z (upd H s.heap.objs.size (.lst ys)) {s with heap:=s.heap.push {cls:=.type "list",data:=.seq its.toArray},toks:=t'}:=
 I.laid (λ _ _ q=>zAD _ q) (zAW _) ⟨hz,its,0,hv,zAY _ rfl⟩
theorem Inv.fresh(I:Inv X kK Z H s):H s.heap.objs.size=none:=I.hok.fresh (zAW _)
def Inv.lstM(I:Inv X kK Z H s)(hH:H l=some (.lst xs)):xs.length<=zA0/\∃(its:List Value) (n:Nat),Vals xs its/\xs.length=its.length/\s.heap.get? l=some {cls:=.type "list",data:=.seq its.toArray n}:=by
 obtain⟨z,its,n,r,e⟩:=I.hok l _ hH;exact⟨z,its,n,r,r.length,e⟩
def aF3(h:n<=zA0):zDv n=false:=by
 unfold zDv;exact decide_eq_false (by lia)
end
section
variable{X:Cx}
def aHb:V->List V->Hp->VK->Prop:=λ x vs H Q=>∃l xs y,x= .ref l/\vs=[y]/\H l=some (.lst xs)/\xs.length<zA0/\Q .non (upd H l (.lst (xs++[y])))
def w5:MtM X "list.append" aHb:=by
 intro kK s Z H x vs v us Q I rx rv h;obtain⟨l,xs,y,rfl,rfl,hH,hz,q⟩:=h;cases rx;obtain⟨u,rfl,ru⟩:=rv.one;obtain⟨z,its,n,r,hl,e⟩:=I.lstM hH;refine zF4 zEa ⟨_,e,rfl⟩ F.entry_list_append (F.args_list_append_2 _ _) (PySem.list_append l its.toArray n u (by rw[zAK];lia)) ⟨e,?_⟩;refine⟨.non,_,I.lset (its':=its++[u]) hH e (by simp) (r.append (.cons ru .nil)) ?_,rfl,q⟩;rw[zAV,zCw];lia
def aMv:R2:=λ x y H Q=>∃l b xs zs,x= .ref l/\y= .ref b/\H l=some (.lst xs)/\H b=some (.lst zs)/\xs.length+zs.length<=zA0/\∀p,H p=none->Q (.ref p) (upd H p (.lst (xs++zs)))
def aKm:OpR X (zCl .Add) aMv:=by
 intro kK s Z H x y v u Q I rx ry h;obtain⟨l,b,xs,zs,rfl,rfl,hH,hB,hz,q⟩:=h;cases rx;cases ry;obtain⟨z,its,n,r,hl,e⟩:=I.lstM hH;obtain⟨z2,its2,n2,r2,hl2,e2⟩:=I.lstM hB;refine PySem.P.add_list e e2 ?_ (by rw[zAK,zAK];lia);have ea:its.toArray++its2.toArray=(its++its2).toArray:=by simp
 rw[ea];exact⟨.ref _,_,I.lnew (t':=s.toks) (r.append r2) (by rw[zAV];lia),rfl,q _ I.fresh⟩
def aLy:R2:=λ x y H Q=>∃l k xs,x= .ref l/\y= .int k/\H l=some (.lst xs)/\-(2^63)<=k/\k<2^63/\xs.length*k.toNat<=zA0/\
 ∀p,H p=none->Q (.ref p) (upd H p (.lst (zAP k.toNat xs).flatten))
def len_rep(xs:List α)(k:Nat):(zAP k xs).flatten.length=k*xs.length:=by
 induction k with
 |zero=>simp
 |succ k ih=>rw[zCF,zCD,zAV,ih,Nat.succ_mul,Nat.add_comm]
def aK9:OpR X (zCl .Mult) aLy:=by
 intro kK s Z H x y v u Q I rx ry h;obtain⟨l,k,xs,rfl,rfl,hH,h1,h2,hz,q⟩:=h;cases rx;obtain⟨t,rfl⟩:=ry;obtain⟨z,its,n,r,hl,e⟩:=I.lstM hH;have oQ:its.toArray.size*k.toNat<=zA0:=by rw[zAK,<-hl];exact hz
 have hcap:¬its.toArray.size*k.toNat>(2^63-1) / 8:=by
  have:(zA0:Nat)<=(2^63-1) / 8:=by decide
  lia
 have hfit:¬(!zDe k)=true:=by
  rw[fitsIndex_both h1 h2];exact zAS
 have hlong:¬zDv (its.toArray.size*k.toNat)=true:=by
  rw[aF3 oQ];exact zAS
 have hnew:zFa (λ x1 x2=>x1++x2) #[] (zAP (if its.toArray.isEmpty=true then 0 else k.toNat) its.toArray)=(zAP k.toNat its).flatten.toArray:=by
  have f0:∀m:Nat,zFa (λ x1 x2=>x1++x2) #[] (zAP m its.toArray)=(zAP m its).flatten.toArray:=λ m=>by
   have:=foldl_rep its m []
   rw[zBd]at this;exact this
  rw[f0];cases its with
  |nil=>simp
  |cons a r'=>rw[if_neg (by simp)]
 refine wpAny_binaryOp_repeat_ref (T:="list") (U:="int") (by decide) ⟨_,e,rfl⟩ (λ s'=>zJ1 s' k t) noFill_list_mul F.fills_int_mul zJO repeat_list F.slot_int_index.lookup
  (zF4 zJO (zJ1 s k t) F.entry_int_rmul (F.args_int_rmul_2 _ _) (int___rmul___int_list k t l its.toArray n)
   ⟨e,rfl,⟨_,e,rfl⟩,zF4 F.slot_list_mul ⟨_,e,rfl⟩ F.entry_list_mul (F.args_list_mul_2 _ _) (AutoListH.list___mul___list_int_3 l its.toArray n k t hfit hcap hlong) ⟨e,?_⟩⟩)
 rw[hnew];exact⟨.ref _,_,I.lnew (t':=s.toks) (r.rep k.toNat) (by rw[len_rep,Nat.mul_comm];exact hz),rfl,q _ I.fresh⟩
end
end L2
namespace Att
open PySem PySem.W PySem.Calls PyProof.Rows
def tB:∀(ns:List Int) (vs:List Value),WellAll P h vs (ns.map WData.int)->zB2 vs ns:=by
 intro ns;induction ns with
 |nil=>
  intro vs w;rw[zEr]at w;cases w;exact .nil
 |cons n ns ih=>
  intro vs w;rw[zAG]at w;cases w with
  |cons a b=>
   cases a;exact .cons _ _ (ih _ b)
def aD3{l:OpenLaw}{n:Nat}(hn:l.most=some n){P:Params}{h:Heap}{args:List WData}{vals:List Value}
  (hpre:l.row.toRowW.claim.pre args=true)(hwl:WellAll P h vals args):
  ∃a vs ns,vals=[zB9 a]/\args=[WData.list (ns.map WData.int)]/\h.get? a=some {cls:=.type "list",data:=.seq vs.toArray}/\zB2 vs ns/\ns.length<=n:=by
 have hsh:WShape.hasAll [] args [.list .int]=true:=(pre_splitW hpre).1;have hc:l.pre.holds [] {args:=args}=true:=(pre_splitW hpre).2;obtain⟨d,r,rfl,h1,h2⟩:=hasAllW_cons hsh;obtain rfl:=hasAllW_nil h2;obtain⟨xs,rfl,h3⟩:=hasW_list h1;obtain⟨ns,rfl⟩:=items_int h3;have oQ:ns.length<=n:=by
  unfold OpenLaw.pre at hc;have h4:(WTm.not (.lt (.lit (.int (n:Int))) (.len (.arg 0)))).holds [] {args:=[.list (ns.map .int)]}=true:=by
   have h4:=(holds_andW hc).1;rw[hn]at h4;exact h4
  have h5:=condW_of h4 (w_not (w_lt w_lit (w_len_list (w_arg rfl))));rw[zAE]at h5;refine zIj λ q=>?_
  have q':(n:Int)<((ns.length:Nat):Int):=by lia
  first
   |(rw[decide_eq_true q']at h5;exact absurd h5 (by decide))
   |(simp at h5;lia)
 cases hwl with
 |cons w1 w2=>
  cases w2;cases w1 with
  |list ho qV=>exact⟨_,_,ns,rfl,rfl,ho,tB ns _ qV,oQ⟩
def aD9(l:OpenLaw)(args:List WData):l.row.toRowW.claim.post args (.bool true) args=true:=
 postW_of (r:=l.row.toRowW) (X:=(true==true))
  (show WShape.has [] (.bool true) .bool=true by first|rfl|decide|simp[WShape.has,WShape.arms,WShape.armsAll])
  (show(WTm.eq .res (.lit (.bool true))).value [] {args:=args,res:=some (.bool true),after:=args}=some (.bool (true==true))from w_eq_bool (w_res rfl) w_lit) rfl
def aBN{l:OpenLaw}{n:Nat}{q:zA7}{loose:List Str}{XP:(Str->Option Value)->Heap->Prop}{YP:World->Heap->Prop}{d:DefRec}
  (hn:l.most=some n)(hdf:d.params.defaults=[])
  (call:∀(w:World) (z5 z0:zAF) (mg mb:Str->Option Value) (fa:Addr) (o:Obj) (pm cd doc:Value) (a:Addr) (vs:List Value) (ns:List Int),
   Ground q loose [] XP w z5 mg mb z0.heap->YP w z0.heap->
   z0.heap.get? fa=some o->o.data= .func (docDef d.name d.params d.body d.scope pm cd doc)->z0.heap.CodeRec cd d.name->mg d.name=some (.ref fa)->
   z0.heap.get? a=some {cls:=.type "list",data:=.seq vs.toArray}->zB2 vs ns->ns.length<=n->z0.gens=#[]->
   zCf (model l.prog w) zFk (.call (.ref fa) ⟨[.ref a],[]⟩) (λ r s'=>r= .ok (.ret (.bool true))/\OldK z0.heap s'.heap/\s'.os=z0.os/\zFQ s'.gens) z0):
  WalkO q loose XP YP l.row.toRowW d [] (λ f vs=>zHm f vs):=by
 intro w z5 z0 mg mb G Y fa o pm cd doc dV kV ho hd hcd hD hmg hg args vals as hpre hlay hrd hwl hlo;obtain rfl:dV= .none:=Dflts.none hD hdf;obtain rfl:kV= .none:=Dflts.noKw hD;obtain⟨a,vs,ns,rfl,rfl,hobj,hints,oQ⟩:=aD3 hn hpre hwl;refine enter_call (zE6 (call w z5 z0 mg mb fa o pm cd doc a vs ns G Y ho (fd_plain hd) hcd hmg hobj hints oQ hg) λ r s' hq=>?_);obtain⟨rfl,h2,h3,h4⟩:=hq;exact⟨.inl ⟨.bool true,.bool true,[],rfl,λ _=>rfl,.bool true,aD9 l _,λ _=>⟨zGN,λ _ hm=>(nomatch hm)⟩⟩,h2,h3,h4⟩
section
variable{prog:zA7}{w:World}{A:zAt}{E:Value->zAF->Prop}{s:zAF}{K:Frag}
def make_obj(X:K.In s.heap)(hm:makesIn K C=true)(hi:findIn K (.ref C) "__init__"=some (some (.ref fI)))(hf:isFn K (.ref fI)=true)
  (h:zCf (model prog w) (A.under (.builtin "type.__call__" ⟨.ref C::rest,kw⟩)) (.call (.ref fI) ⟨.ref (s.heap.objs.size+1)::rest,kw⟩) (InitBack (s.heap.objs.size+1) R)
   {s with heap:=(s.heap.push emptyDict).push (instObj C s.heap.objs.size)}):zCf (model prog w) A (.call (.ref C) ⟨rest,kw⟩) R s:=by
 obtain⟨hh,g,d,t,os⟩:=s;exact make_core (makes_of X hm) (looks_findIn X hi) (λ self=>bind_fn X self (beq_iff_eq.mp hf)) (.inl rfl) h
def get_field(X:K.In s.heap)(I:zIE s.heap x ox C (some (dictOf es n)))(hg:plainGet K C name=true)(hh:hasDictIn K C=true)(ha:findIn K (.ref C) name=some none)
  (hl:getL name es=some (some v))(hv:handedIn v=true)(h:Q v {s with toks:=s.toks+1}):wpAny (model prog w) A (getAttr (.ref x) name expr) Q E s:=
 get_value X I (plainGet_of hg).1 (findObj_own hh ha rfl hl) hv h
def ledger(h:Heap)(L d:Addr):hV:=(zAr h.objs.size).filterMap λ a=>if a=L\/a=d then none else(h.get? a).map λ o=>(a,o)
end
end Att
namespace L2
open PySem PySem.Spec PyProof.Rows
theorem wJ:∀{vs:List Value} {ns:List Int},zB2 vs ns->Vals (ns.map V.int) vs
 |_,_,.nil=>.nil
 |_,_,.cons n t h=>.cons ⟨t,rfl⟩ (wJ h)
def Only(H:Hp):Prop:=∀b,H b=none\/∃o xs,H b=some (.frz o (.lst xs))
def aFe{P:zA7}{w:World}{K:zAA}{mg mb:Str->Option Value}{CX:CXT}{k:Nat}{fa a:Addr}{fd:zBA}{x:Str}{sp:Sp}{z0:zAF}{vs:List Value}{ns:List Int}
  (KX:K.In z0.heap)(hns:z0.heap.Ns zAv mg)(hb:z0.heap.Ns zJY mb)(hbb:∀x:Str,x≠"__name__"->mb x=zBO x)(hlim:z0.heap.NoLimit)(hg:z0.gens=#[])
  (ha:z0.heap.get? a=some {cls:=.type "list",data:=.seq vs.toArray})(hi:zB2 vs ns)(hl:ns.length<=zA0)(hr:iw k zFk)
  (F:∀base:Heap,K.In base->base.Ns zAv mg->cP P w K mg base CX k fa fd [x] sp)(hbind:∀(s:zAF) (u:Value),zGL s fd ⟨[u],[]⟩ [(x,u)])
  (hsp:∀H:Hp,Only H->SqL K H a (ns.map V.int)->sp [.ref a] H (λ v _=>v= .bl true) λ _ _ _=>False)
  (hCX:∀H e s',CX [] H z0 (λ _ _ _=>False) e s'->False):
  zCf (model P w) zFk (.call (.ref fa) ⟨[.ref a],[]⟩) (λ r s'=>r= .ok (.ret (.bool true))/\OldK z0.heap s'.heap/\s'.os=z0.os/\zFQ s'.gens) z0:=by
 have rv:=wJ hi;have lenV:=hi.length;have core:∀H:Hp,Only H->SqL K H a (ns.map V.int)->HOk P w H z0.heap->(∀b,H b≠none->b=a)->(H a≠none->K.lookup a=none)->
   zCf (model P w) zFk (.call (.ref fa) ⟨[.ref a],[]⟩) (λ r s'=>r= .ok (.ret (.bool true))/\OldK z0.heap s'.heap/\s'.os=z0.os/\zFQ s'.gens) z0:=by
  intro H hO hS hok hA hK;have base_of:∀{b:Addr} {o:Obj},z0.heap.get? b=some o->H b=none->(zP z0.heap H).get? b=some o:=λ e n=>aFz e n
  have noA:∀{b:Addr} {o:Obj} {es:Array DictEntry} {ep:Nat},z0.heap.get? b=some o->o.data= .dict es ep->H b=none:=λ{b o es ep} e d=>by
   cases q:H b with
   |none=>rfl
   |some u=>
    have e':b=a:=hA b (by rw[q];simp);subst e';rw[ha]at e;cases e;have d':Data.seq vs.toArray _=Data.dict es ep:=d;cases d'
  have nsK:∀{b:Addr} {m:Str->Option Value},z0.heap.Ns b m->(zP z0.heap H).Ns b m:=λ{b m} ⟨o,es,ep,e,d,r⟩=>⟨o,es,ep,base_of e (noA e d),d,r⟩
  have hKb:K.In (zP z0.heap H):=λ b o e=>base_of (KX b o e) (by
   cases q:H b with
   |none=>rfl
   |some u=>
    have e':b=a:=hA b (by rw[q];simp);subst e';rw[hK (by rw[q];simp)]at e;cases e)
  have hM:Mod K mg (zP z0.heap H):=⟨hKb,nsK hns,⟨mb,nsK hb,hbb⟩,let⟨mc,h1,h2⟩:=hlim;⟨mc,nsK h1,h2⟩⟩;have e0:aGs P w K mg (zP z0.heap H) zFk [] z0 H:=⟨rfl,hM,λ b o e=>aIG e,Nat.le_of_eq (aDs _ _),trivial,λ b hb=>absurd (show b∈([]:List Addr)from hb) (by simp),hok,.of_eq hg⟩;refine zE6 ((F _ hKb (nsK hns)).run zFk [] z0 H ⟨[.ref a],[]⟩ [.ref a] [.ref a] _ _ hr e0 (hbind z0 (.ref a)) (.cons rfl .nil) (hsp H hO hS)) λ r s' h=>?_
  cases r with
  |error e=>exact(hCX H e s' h).elim
  |ok fl=>
   cases fl with
   |next=>exact zAU h
   |brk=>exact zAU h
   |cont=>exact zAU h
   |ret u=>
    obtain⟨v,H',os,bare,un,hok',r',q⟩:=h;have q':v= .bl true:=q;subst q';obtain rfl:u=zEw true:=r';refine⟨rfl,OldK.of_keep λ b o e=>?_,os,bare⟩;cases q:H b with
    |none=>exact un.keep b o e q (by intro z;exact absurd (show b∈([]:List Addr)from z) (by simp)) (by simp)
    |some u=>
     rcases hO b with z|⟨ob,xs,z⟩
     .rw[q]at z;cases z
     .have z2:=un.frzs b ob _ z
      obtain⟨e1,_⟩:=hok b _ z;obtain⟨e2,_⟩:=hok' b _ z2;rw[e]at e1;cases e1;exact e2
 cases hk:K.lookup a with
 |some o=>
  have e:=KX a o hk;rw[ha]at e;cases e;refine core (λ _=>none) (λ _=>.inl rfl) (.inr ⟨_,vs.toArray,_,hk,rfl,rfl,rfl,by rw[zAK,lenV];exact hl,by simpa using rv⟩) (λ b u z=>by have z':(none:Option HO)=some u:=z;cases z') (λ b z=>absurd rfl z) λ z=>absurd rfl z
 |none=>
  refine core (λ b=>if b=a then some (.frz {cls:=.type "list",data:=.seq vs.toArray} (.lst (ns.map V.int)))else none) (λ b=>?_) (.inl (.inr ⟨{cls:=.type "list",data:=.seq vs.toArray},if_pos rfl⟩)) (λ b u z=>?_) (λ b z=>?_) λ _=>hk
  .by_cases hb:b=a
   .exact .inr ⟨_,_,if_pos hb⟩
   .exact .inl (if_neg hb)
  .by_cases hb:b=a
   .have z':=(if_pos hb).symm.trans z
    cases z';subst hb;exact⟨ha,by rw[zAE];exact hl,vs,_,rv,ha⟩
   .have z':=(if_neg hb).symm.trans z
    cases z'
  .by_cases hb:b=a
   .exact hb
   .exact absurd (if_neg hb) z
def aHD{l:zFi}{n k:Nat}{q:zA7}{loose:List Str}{XP:(Str->Option Value)->Heap->Prop}{YP:World->Heap->Prop}{d:DefRec}{K:Params->zAA}{CX:World->CXT}{sp:World->Sp}{x:Str}
  (hn:l.most=some n)(hn2:n<=zA0)(hdf:d.params.defaults=[])(hr:iw k zFk)
  (hY:∀(w:World) (h:Heap),YP w h->(K w.params).In h)
  (F:∀(w:World) (mg:Str->Option Value) (fa:Addr) (h:Heap),(K w.params).In h->h.Ns zAv mg->mg d.name=some (.ref fa)->
   ∃fd:zBA,(∀(s:zAF) (u:Value),zGL s fd ⟨[u],[]⟩ [(x,u)])/\
    ∀base:Heap,(K w.params).In base->base.Ns zAv mg->cP l.prog w (K w.params) mg base (CX w) k fa fd [x] (sp w))
  (hsp:∀(w:World) (H:Hp) (a:Addr) (ns:List Int),ns.length<=n->Only H->SqL (K w.params) H a (ns.map V.int)->sp w [.ref a] H (λ v _=>v= .bl true) λ _ _ _=>False)
  (hCX:∀(w:World) (H:Hp) (s:zAF) (e:Value) (s':zAF),CX w [] H s (λ _ _ _=>False) e s'->False):
  zI6 q loose XP YP l.row.toRowW d [] (λ f vs=>zHm f vs):=by
 refine Att.aBN hn hdf λ w z5 z0 mg mb fa o pm cd doc a vs ns G Y ho hd hcd hmg hobj hints oQ hg=>?_
 have KX:=hY w _ Y;obtain⟨fd,hb,hF⟩:=F w mg fa _ KX G.T.g hmg;exact aFe KX G.T.g G.T.b G.T.builtins G.T.nolimit hg hobj hints (zBB oQ hn2) hr hF hb (λ H hO hS=>hsp w H a ns oQ hO hS) λ H e s'=>hCX w H z0 e s'
def m6(s:Stmt):zIO:=match s with
 | .FunctionDef _ a _ _ _ _ _ _ _ _=>a
 |_=>{posonlyargs:=[],args:=[],vararg:=none,kwonlyargs:=[],kw_defaults:=[],kwarg:=none,defaults:=[]}
def gC(s:Stmt):List Stmt:=match s with
 | .FunctionDef _ _ b _ _ _ _ _ _ _=>b
 |_=>[]
def aP(s:Stmt):Scope:=match s with
 | .FunctionDef _ _ _ _ _ _ sc _ _ _=>sc
 |_=>{kind:=.function,names:=[],isGenerator:=false,isCoroutine:=false}
abbrev CX0:CXT:=λ _ _ _ _ _ _=>False
abbrev E0:XK:=λ _ _ _=>False
structure Fun(K:zAA)(x qual:Str)(st:Stmt)(f:Addr)(fd:zBA):Prop where
 ex:∃(oc:Value) (od:Option Addr) (kV doc pm:Value) (an:Option Addr) (cdv ct:Value) (osl:Array (Option Value)),
  fd=zCb x qual (m6 st) (gC st) (aP st) .none kV doc pm an cdv ct/\K.lookup f=some ⟨oc,od,.func fd,osl⟩/\zEH K cdv qual=true
 kp:zD2 K (.ref f)=true
section
variable{K:zAA}
def Fun.binds{x qual:Str}{st:Stmt}{f:Addr}{fd:zBA}{ps:List Str}(F:Fun K x qual st f fd)
  (h:∀(kV doc pm:Value) (an:Option Addr) (cdv ct:Value) (us:List Value),us.length=ps.length->bindArgs (zCb x qual (m6 st) (gC st) (aP st) .none kV doc pm an cdv ct) ⟨us,[]⟩=pure (ps.zip us)):Binds K fd ps []:=by
 obtain⟨oc,od,kV,doc,pm,an,cdv,ct,osl,rfl,lk,hcd⟩:=F.ex;exact .all (h kV doc pm an cdv ct)
def aLT{x qual:Str}{st:Stmt}{f:Addr}{oc:Value}{od an:Option Addr}{osl:Array (Option Value)}{kV doc pm cdv ct:Value}(l:K.lookup f=some ⟨oc,od,.func (zCb x qual (m6 st) (gC st) (aP st) .none kV doc pm an cdv ct),osl⟩)
  (c:zEH K cdv qual=true)(k:zD2 K (.ref f)=true):Fun K x qual st f (zCb x qual (m6 st) (gC st) (aP st) .none kV doc pm an cdv ct):=⟨⟨oc,od,kV,doc,pm,an,cdv,ct,osl,rfl,l,c⟩,k⟩
end
def aQ(H H':Hp):Prop:=∀b o,H b=some o->H' b=some o
def aQ.refl(H:Hp):aQ H H:=λ _ _ h=>h
def aQ.trans(a:aQ H H1)(b:aQ H1 H2):aQ H H2:=λ c o h=>b c o (a c o h)
def aQ.free(e:aQ H H')(h:H' l=zJC):H l=zJC:=by
 cases q:H l with
 |none=>rfl
 |some o=>
  rw[e l o q]at h;cases h
end L2
set_option maxHeartbeats 4000000
namespace HT
open PySem PyProof.Rows
def lexLe:List Int->List Int->Bool
 |[],_=>true
 |_::_,[]=>false
 |x::xs,y::ys=>if x=y then lexLe xs ys else decide (x<=y)
def aCD(x y:Int)(xs ys:List Int):lexLe (x::xs) (y::ys)=if x=y then lexLe xs ys else decide (x<=y):=rfl
def aEv(A:zAt)(s:zAF)(a:Int)(t:Tok)(c:Int)(u:Tok)(prog:zA7)(w:World)(E:Value->zAF->Prop)(Q:Value->zAF->Prop)(h:Q (.bool (decide (a<=c))) s):
  wpAny (model prog w) A (zGr .LtE (.int a t) (.int c u)) Q E s:=
 (PyProof.Rows.le_int h:wpAny (model prog w) A (zBK .LtE (.int a t) (.int c u)) Q E s)
section
open PySem.SeqAt
open PySem.AutoSeq1(wpAny_loadPart')
open PySem.MeetsSeq PySem.MeetsSeq2 PySem.MeetsSeq3
def vm(l b:Addr)(items items2:Array Value)(n n2:Nat)(dd dd2:Option Addr)(sl sl2:Array (Option Value))(ns ms:List Int)(hi:zB2 items.toList ns)(hj:zB2 items2.toList ms):
  Meets (zE9.«tuple.__le__» ⟨[.ref l,.ref b],[]⟩)
   (λ _ R s=>s.heap.get? l=some {cls:=.type "tuple",dict:=dd,data:=.seq items n,slots:=sl}/\s.heap.get? b=some {cls:=.type "tuple",dict:=dd2,data:=.seq items2 n2,slots:=sl2}/\
    R (.ok (.ret (.bool (lexLe ns ms)))) s):=
 .of_wp λ prog w A R s h=>by
  obtain⟨hp,g,d,tk,os⟩:=s;obtain⟨hl,hb,h⟩:=h;have f2:=zFw;have z1:items.size=ns.length:=by rw[<-hi.length];simp
  have z2:items2.size=ms.length:=by rw[<-hj.length];simp
  wp_walk using zFX hl,zFX hb,zEK _ (λ rest b s'=>b.1=none/\s'=⟨hp,g,d,tk,os⟩/\∃(vs ws:List Value) (ns' ms':List Int),rest=vs.zip ws/\
   zB2 vs ns'/\zB2 ws ms'/\ns'.length+items2.size=ms'.length+items.size/\R (.ok (.ret (.bool (lexLe ns' ms')))) ⟨hp,g,d,tk,os⟩) _
  case turn=>
   rintro⟨y,x⟩ rest b s' ⟨hb',rfl,vs,ws,ns',ms',hz,hvi,hwi,oQ,hR⟩;cases hvi with
   |nil=>rw[zIB]at hz;cases hz
   |cons a t hvi'=>
    cases hwi with
    |nil=>rw[zHj]at hz;cases hz
    |cons c u hwi'=>
     rw[zBZ]at hz;injection hz with hyx bE
     injection hyx with hy hx
     subst hy hx;rw[aCD]at hR;simp only[zA6]at oQ;obtain⟨e,he,hiff⟩:=aBF A.in1 ⟨hp,g,d,tk,os⟩ a t c u;refine zAB (he prog w _ _ ?_);cases e with
     |true=>
      rw[if_pos (hiff.mp rfl)]at hR;wp_walk;exact⟨rfl,rfl,_,_,_,_,bE,hvi',hwi',by lia,hR⟩
     |false=>
      rw[if_neg (λ q=>absurd (hiff.mpr q) zAS)]at hR;have hri:=aEv A.in1 ⟨hp,g,d,tk,os⟩ a t c u prog w;wp_walk using hri;exact⟨_,rfl,by simpa using hR⟩
  case fin=>
   rintro⟨b1,b2⟩ s' ⟨hb',rfl,vs,ws,ns',ms',hz,hvi,hwi,oQ,hR⟩;simp only at hb';subst hb';have hv:lexLe ns' ms'=decide (items.size<=items2.size):=by
    cases hvi with
    |nil=>
     simp only[zCH]at oQ;have e:lexLe [] ms'=true:=by cases ms'<;>rfl
     rw[e];exact(decide_eq_true (by lia)).symm
    |cons a t hv=>
     cases hwi with
     |nil=>
      simp only[zCH,zA6]at oQ;show false=_;exact(decide_eq_false (by lia)).symm
     |cons c u hw=>
      rw[zBZ]at hz;cases hz
   rw[hv]at hR;wp_walk;exact⟨_,rfl,by simpa[zEh]using hR⟩
  case h=>
   exact⟨rfl,rfl,items.toList,items2.toList,ns,ms,rfl,hi,hj,by lia,h⟩
end
section
variable{prog:zA7}{w:World}{A:zAt}{E:Value->zAF->Prop}{s:zAF}
def aCE(hl:IsTup s.heap l items)(hb:IsTup s.heap b items2)(hi:zB2 items.toList ns)(hj:zB2 items2.toList ms)
  (hu:A.units<cLine)(h:Q (.bool (lexLe ns ms)) s):wpAny (model prog w) A (zBK .LtE (.ref l) (.ref b)) Q E s:=by
 obtain⟨⟨cls,dd,data,sl⟩,ho,hc,n,hd⟩:=id hl;obtain⟨⟨cls2,dd2,data2,sl2⟩,ho2,hc2,n2,hd2⟩:=id hb;simp only at hc hd hc2 hd2;subst hc hd hc2 hd2;exact zIL (op:=.LtE) ⟨_,ho,rfl⟩ ⟨_,ho2,rfl⟩ PySem.F.slot_tuple_le PySem.F.entry_tuple_le (PySem.F.args_tuple_le_2 _ _) (vm l b items items2 n n2 dd dd2 sl sl2 ns ms hi hj)
  ⟨ho,ho2,show zEw (lexLe ns ms)≠zHG/\Q (.bool (lexLe ns ms)) s from⟨(λ x=>nomatch x),h⟩⟩ hu
def aG7{ws:List Value}(ht:IsTup s.heap t #[])(hb:IsTup s.heap b ws.toArray)(h1:Q (.ref b) s):wpAny (model prog w) A (zCl .Add (.ref t) (.ref b)) Q E s:=by
 obtain⟨⟨cls,dd,data,sl⟩,ho,hc,n,hd⟩:=id ht;obtain⟨⟨cls2,dd2,data2,sl2⟩,ho2,hc2,n2,hd2⟩:=id hb;simp only at hc hd hc2 hd2;subst hc hd hc2 hd2;exact zI9 ⟨_,ho,rfl⟩ ⟨_,ho2,rfl⟩ zGf zHr zE2 zEX (zEQ _ _)
   (tuple_addW0 t b #[] ws.toArray n n2 dd dd2 sl sl2 (by simp)) ⟨ho,ho2,h1⟩
def pY{lo hi:Option Int}(ht:IsTup s.heap t items)(hs:s.heap.IsSliceOf sl vl vu .none)(pl:zG2 vl lo)(pu:zG2 vu hi)
  (h1:sIx items.size 0 lo=0)(h2:sIx items.size items.size hi=items.size)
  (h:Q (.ref t) s):wpAny (model prog w) A (zFB (.ref t) (.ref sl)) Q E s:=by
 obtain⟨os,hos,hcs,hds⟩:=id hs;have hTs:s.TypeIs (.ref sl) "slice":=⟨os,hos,hcs⟩;obtain⟨ot,hot,hct,hdt⟩:=id ht;unfold zFB
 try with_reducible refine zCK ?_
 first|refine zAB (zAJ ?_)|skip
 refine zAB (zJ4 ht.typeIs (by decide) ?_);refine zAB (zDd (name:=zFv "__getitem__") ht.typeIs zBx
  (zCa zBx ht.typeIs zIt ?_ (zJG _ _)))
 show wpAny _ _ (zFN (.ref t)>>=_) _ _ s;refine zAB (tupleItemsOf_ ht ?_);refine zAB (zFY hTs ?_);rw[if_pos (by decide)];refine zAB (jV hs pl pu ?_);have hyes:(((sIx items.size 0 lo:Nat):Int)==0&&(1:Int)==1&&(sIx items.size items.size hi-sIx items.size 0 lo)==items.size)=true:=by
  rw[h1,h2];simp
 show wpAny _ _ (if (((sIx items.size 0 lo:Nat):Int)==0&&(1:Int)==1&&(sIx items.size items.size hi-sIx items.size 0 lo)==items.size)=true then _ else _) _ _ s;rw[if_pos hyes];unfold zJN;refine zAB (zAB (zFY ht.typeIs (zAJ ?_)));rw[if_pos (by decide)];exact zAB (zEn (zAJ ⟨_,rfl,zAJ h⟩))
end
end HT
namespace L2
open PySem PySem.Spec PyProof.Rows
def aIX(t T:String):Bool:=decide (t=T)||(decide (t="bool")&&decide (T="int"))
def aIT{K:zAA}(ht:t∈["NoneType","bool","int","str","list","tuple","dict"])(hT:T∈["bool","int","str","list","tuple","dict"]):
  zEI K (.type t) (.type T)=some (aIX t T):=by
 simp only[zAM,zCL,or_false]at ht hT;rcases ht with rfl|rfl|rfl|rfl|rfl|rfl|rfl<;>rcases hT with rfl|rfl|rfl|rfl|rfl|rfl<;>kernel_rfl
def nT(t T:String)(b:Bool):Bool:=decide (t∈["NoneType","bool","int","str","list","tuple","dict"])&&decide (T∈["bool","int","str","list","tuple","dict"])&&(aIX t T==b)
def aCJ{K:zAA}(h:nT t T b=true):zEI K (.type t) (.type T)=some b:=by
 unfold nT at h;rw[zAa,zAa]at h;rw[aIT (of_decide_eq_true h.1.1) (of_decide_eq_true h.1.2),zFy h.2]
def ao(h:H p=none)(o:HO):aQ H (upd H p o):=λ b u q=>by rw[bF (fM q h)];exact q
section
variable{X:Cx}
def aMt(K:zAA):List V->Hp->VK->Prop:=λ xs H Q=>∃x T t b,xs=[x,.ty T]/\qy K H x (.type t)/\nT t T b=true/\Q (.bl b) H
def jh:cI X (.builtin "isinstance") (aMt X.K):=by
 intro kK s Z H xs us Q I r h;obtain⟨x,T,t,b,rfl,ty,ok,q⟩:=h;obtain⟨u,w',rfl,r1,r2⟩:=vals2 r;obtain rfl:w'=zBy T:=r2;exact aDn I r1 ty (aCJ ok) λ tk=>⟨.bl b,H,I.tok tk,rfl,q⟩
def aHa(K:zAA):R2:=λ x y H Q=>∃a b ns ms,x= .ref a/\y= .ref b/\SqT K H a (ns.map V.int)/\SqT K H b (ms.map V.int)/\Q (.bl (HT.lexLe ns ms)) H
def aKh(hu:X.A.units<cLine):OpR X (zBK .LtE) (aHa X.K):=by
 intro kK s Z H x y v u Q I rx ry h;obtain⟨a,b,ns,ms,rfl,rfl,ha,hb,q⟩:=h;cases rx;cases ry;obtain⟨its,r1,p1,_⟩:=I.tuple ha;obtain⟨its2,r2,p2,_⟩:=I.tuple hb;have i1:zB2 its.toArray.toList ns:=intsAre_of r1;have i2:zB2 its2.toArray.toList ms:=intsAre_of r2;exact HT.aCE p1 p2 i1 i2 hu ⟨.bl (HT.lexLe ns ms),H,I,rfl,q⟩
def aF0:OpR X (zBK .Is) (λ x y H Q=>∃b c,x= .bl b/\y= .bl c/\Q (.bl (b==c)) H):=by
 intro kK s Z H x y v u Q I rx ry h;obtain⟨b,c,rfl,rfl,q⟩:=h;cases rx;cases ry;exact is_bool (aCU I q rfl)
end
def jo(l:Addr)(H H':Hp):Prop:=∀b o,b≠l->H b=some o->H' b=some o
def aQ.sqt{K:zAA}(e:aQ H H')(h:SqT K H a xs):SqT K H' a xs:=by
 rcases h with (h|⟨o,h⟩)|h
 .exact .inl (.inl (e _ _ h))
 .exact .inl (.inr ⟨o,e _ _ h⟩)
 .exact .inr h
inductive D where
 |non|bl (b:Bool)|int (i:Int)|str (x:Str)|tup (l:List D)|lst (l:List D)|dct
mutual
inductive Rep(H:Hp):V->D->Prop where
 |non:Rep H .non .non
 |bl (b:Bool):Rep H (.bl b) (.bl b)
 |int (i:Int):Rep H (.int i) (.int i)
 |str (x:Str):Rep H (.str x) (.str x)
 |tup {a:Addr} {xs:List V} {ds:List D} (h:H a=some (.tup xs)) (r:vf H xs ds):Rep H (.ref a) (.tup ds)
 |lst {a:Addr} {xs:List V} {ds:List D} (h:H a=some (.lst xs)) (r:vf H xs ds):Rep H (.ref a) (.lst ds)
 |dct {a:Addr} (h:H a=some (.dK [])):Rep H (.ref a) .dct
inductive vf(H:Hp):List V->List D->Prop where
 |nil:vf H [] []
 |cons {x:V} {d:D} {xs:List V} {ds:List D} (h:Rep H x d) (r:vf H xs ds):vf H (x::xs) (d::ds)
end
theorem vf.length:∀{xs:List V} {ds:List D},vf H xs ds->xs.length=ds.length
 |_,_,.nil=>rfl
 |_,_,.cons _ r=>by rw[zA6,zA6,vf.length r]
theorem vf.get:∀{xs:List V} {ds:List D} {i:Nat} {x:V},vf H xs ds->xs[i]? =some x->∃d,ds[i]? =some d/\Rep H x d
 |_,_,_,_,.nil,e=>by simp at e
 |_,_,0,_,.cons h _,e=>by simp at e;subst e;exact⟨_,rfl,h⟩
 |_,_,i+1,x,.cons _ r,e=>by
  obtain⟨d,h1,h2⟩:=vf.get (i:=i) (x:=x) r (by simpa using e);exact⟨d,by simpa using h1,h2⟩
def PE.weaken(h:PE X e t)(imp:∀Z H Q,t' Z H Q->t Z H Q):PE X e t':=λ kK s Z H Q I q=>h kK s Z H Q I (imp Z H Q q)
def OpR.weaken(h:OpR X f r)(imp:∀x y H Q,r' x y H Q->r x y H Q):OpR X f r':=λ kK s Z H x y v u Q I rx ry q=>h kK s Z H x y v u Q I rx ry (imp x y H Q q)
def New(H:Hp)(o:HO)(Q:VK):Prop:=∀p H',aQ H H'->H' p=some o->H p=none->Q (.ref p) H'
def New.at(n:New H o Q)(hp:H p=none):Q (.ref p) (upd H p o):=n p _ (ao hp o) aa hp
section
variable{X:Cx}{es:List Expr}{t:TA}{pos:Pos}
def aLg(t:TA):TE:=λ Z H Q=>t Z H λ xs H1=>xs.length<=zA0/\New H1 (.tup xs) Q
def aJI(t:TA):TE:=λ Z H Q=>t Z H λ xs H1=>xs.length<=zA0/\New H1 (.lst xs) Q
def aHm{x1}(h:PA X es t):PE X (.Tuple es x1 pos) (aLg t):=by
 have h':PA X es (λ Z H Q=>∃R:List V->Hp->Prop,t Z H R/\∀xs H',R xs H'->Q xs H'):=by
  intro pos kK s Z H Q I ⟨R,q,imp⟩;exact thn (h pos kK s Z H R I q) λ us s' ⟨vs,H',I',r,q'⟩=>⟨vs,H',I',r,imp _ _ q'⟩
 exact(aKZ h').weaken λ Z H Q q=>⟨_,q,λ xs H' ⟨z,n⟩=>⟨z,λ p hp=>n.at hp⟩⟩
def yr(h:PA X es t):PE X (.List es pos) (aJI t):=by
 have h':PA X es (λ Z H Q=>∃R:List V->Hp->Prop,t Z H R/\∀xs H',R xs H'->Q xs H'):=by
  intro pos kK s Z H Q I ⟨R,q,imp⟩;exact thn (h pos kK s Z H R I q) λ us s' ⟨vs,H',I',r,q'⟩=>⟨vs,H',I',r,imp _ _ q'⟩
 exact(aK4 h').weaken λ Z H Q q=>⟨_,q,λ xs H' ⟨z,n⟩=>⟨z,λ p hp=>n.at hp⟩⟩
def aJ2:R2:=λ x y H Q=>∃l b xs zs,x= .ref l/\y= .ref b/\H l=some (.lst xs)/\H b=some (.lst zs)/\xs.length+zs.length<=zA0/\New H (.lst (xs++zs)) Q
def aID:OpR X (zCl .Add) aJ2:=aKm.weaken λ x y H Q ⟨l,b,xs,zs,e1,e2,h1,h2,z,n⟩=>⟨l,b,xs,zs,e1,e2,h1,h2,z,λ p hp=>n.at hp⟩
def uc:V->List V->Hp->VK->Prop:=λ x vs H Q=>∃l xs y,x= .ref l/\vs=[y]/\H l=some (.lst xs)/\xs.length<zA0/\∀H',jo l H H'->H' l=some (.lst (xs++[y]))->Q .non H'
def ur:MtM X "list.append" uc:=λ kK s Z H x xs v us Q I rx rv ⟨l,ys,y,e1,e2,h,z,n⟩=>
 w5 kK s Z H x xs v us Q I rx rv ⟨l,ys,y,e1,e2,h,z,n _ (λ b o ne hb=>by rw[bF ne];exact hb) aa⟩
end
def bY(scope:Scope)(env:Env):List (Str×Addr):=(scope.names.filterMap λ y=>if y.2== .free then(env.cells.lookup y.1).map λ c=>(y.1,c)else none).reverse
theorem v8(env:Env):∀(names:List (Str×zEP)) (acc:List (Str×Addr)),(∀y∈names,y.2= .free->∃c,env.cells.lookup y.1=some c)->
  (forIn names acc λ(x:Str×zEP) r=>if (x.2== .free)=true then do let c <-cellOf env x.1;pure (zBi ((x.1,c)::r))else pure (zBi r):Sem (List (Str×Addr)))=
   pure ((names.filterMap λ y=>if y.2== .free then(env.cells.lookup y.1).map λ c=>(y.1,c)else none).reverse++acc)
 |[],acc,_=>rfl
 |(n,k)::r,acc,h=>by
  rw[List.forIn_cons];have ih:=λ acc'=>v8 env r acc' λ y hy=>h y (zAO _ hy)
  by_cases hk:k= .free
  .subst hk
   obtain⟨c,hc⟩:=h (n,.free) zAT rfl;have hc':env.cells.lookup n=some c:=hc;simp only[beq_self_eq_true,if_true,cellOf,hc',zBp,zCr,zD5,zAd,List.singleton_append];exact ih _
  .have hb:(k==zCX)=false:=by simpa using hk
   simp only[hb,zAZ,if_false,zBp];exact ih _
def jT(h:∀y∈scope.names,y.2= .free->∃c,env.cells.lookup y.1=some c):zGU scope env=pure (bY scope env):=by
 have e:=v8 env scope.names [] h;rw[zAx]at e;have e2:zGU scope env=((forIn scope.names ([]:List (Str×Addr)) λ(x:Str×zEP) r=>if (x.2== .free)=true then do let c <-cellOf env x.1;pure (zBi ((x.1,c)::r))else pure (zBi r):Sem (List (Str×Addr)))>>=λ r=>pure r):=rfl;rw[e2,e];rfl
def sO(h:(bY scope env).lookup x=some c):env.cells.lookup x=some c:=by
 have hm:=zBJ h;unfold bY at hm;rw[zB7,zCJ]at hm;obtain⟨y,hy,e⟩:=hm;split at e
 .cases q:env.cells.lookup y.1 with
  |none=>rw[q]at e;cases e
  |some c'=>
   rw[q]at e;have e':=zAh e;injection e' with e1 e2
   subst e1 e2;exact q
 .cases e
def aBK(hx:scope.names.lookup x=some .free)(h:env.cells.lookup x=some c):(bY scope env).lookup x=some c:=by
 have hm:(x,zCX)∈scope.names:=zBJ hx
 have:(x,c)∈bY scope env:=by
  unfold bY;rw[zB7,zCJ];exact⟨_,hm,by simp[h]⟩
 cases q:(bY scope env).lookup x with
 |none=>
  exact absurd this (by
   intro hm'
   have:=List.lookup_eq_none_iff.mp q _ hm'
   simp at this)
 |some c'=>
  have:=sO q
  rw[h]at this;exact this.symm▸rfl
def sy(scope:Scope)(C:Addr):List (Str×Addr):=zEY (C+1) scope.names []
theorem jg:∀(names:List (Str×zEP)) (n:Nat) (acc:List (Str×Addr)),zEY n names acc=zEY n names []++acc
 |[],_,_=>rfl
 |(x,k)::r,n,acc=>by
  unfold zEY;split
  .rw[jg r (n+1) ((x,n)::acc),jg r (n+1) [(x,n)],zAd];rfl
  .exact jg r n acc
theorem o7:∀{names:List (Str×zEP)} {n:Nat} {x:Str} {c:Addr},(x,c)∈zEY n names []->(x,zDf)∈names
 |(y,k)::r,n,x,c,h=>by
  unfold zEY at h;split at h
  .rename_i hk
   rw[jg,zA9]at h;rcases h with h|h
   .exact zAO _ (o7 h)
   .have e:=zAN.mp h
    cases e;rw[zFy hk];exact zAT
  .exact zAO _ (o7 h)
 |[],_,_,_,h=>by cases h
def j8{l m:List (Str×Addr)}(h:(l++m).lookup x=some c):l.lookup x=some c\/(l.lookup x=none/\m.lookup x=some c):=by
 rw[zF0]at h;cases e:l.lookup x with
 |some c'=>rw[e]at h;exact .inl h
 |none=>rw[e]at h;exact .inr ⟨rfl,h⟩
def aCt{M:Model}{A:zAt}{E:Value->zAF->Prop}{s:zAF}{scope:Scope}{globals:Addr}{cl:List (Str×Addr)}{qual:Str}{env:Env}{Q:Env->zAF->Prop}
  (h:∀h':Heap,h'.Ns s.heap.objs.size (λ _=>none)->(∀b o,s.heap.get? b=some o->h'.get? b=some o)->CellsOk h' (s.heap.objs.size+1) (sy scope s.heap.objs.size)->
   Q {scope:=scope,locals:=s.heap.objs.size,globals:=globals,cells:=sy scope s.heap.objs.size++cl,qual:=qual,func:=none,code:=env.code,frame:=env.frame,builtins:=env.builtins} {s with heap:=h'}):
  wpAny M A (zFe scope globals cl [] qual none .none (some env)) Q E s:=by
 simp only[zFe,Option.isSome_some,if_true];refine zAB (wpAny_alloc ?_);refine zAB (wpAny_layCells _ (λ name kind cells=>by cases hkc:kind==zDf<;>simp[hkc]) _ _ _ _ ?_);have ok:=cellsFrom_ok scope.names (s.heap.push {cls:=.type "dict",data:=.dict #[]}) (s.heap.objs.size+1) [] ⟨λ _ _ hm=>(nomatch hm),zGN⟩ (by rw[zBe];exact zAW _);rw[zBe]at ok;rw[show({s with heap:=s.heap.push {cls:=.type "dict",data:=.dict #[]}}:zAF).heap.objs.size=s.heap.objs.size+1 from zBe ..,jg];refine zAJ ?_;exact h _ ((Heap.Ns.new s.heap (.type "dict")).keeps (pushCells_keeps _ _)) (λ b o e=>pushCells_keeps _ _ b o (zAD _ e)) ok
def Cx.block(X:Cx)(scope:Scope)(C:Addr)(N:List Str)(fp:List Addr)(z5:zAF)(z3:Hp):Cx:=
  {prog:=X.prog,w:=X.w,K:=X.K,mg:=X.mg,base:=X.base,A:=X.A,N:=N,z5:=z5,z3:=z3,env:=compEnvC scope (sy scope C++bY scope X.env) C X.env,outer:=X.stack,stack:=X.stack,ex:=fp,
    fn:=λ x=>scope.names.lookup x==some .cell,calm:=X.calm,pn:=[],xe:=λ _ _=>False}
structure dD(X:Cx)(scope:Scope)(N:List Str)(st:St->St)(ks:List Nat):Prop where
 kind:scope.kind= .function
 sep:∀y∈scope.names,y.2= .cell->scope.names.lookup y.1=some .cell
 loc:∀y∈scope.names,y.2= .local->scope.names.lookup y.1=some .local
 free:∀y∈scope.names,y.2= .free->X.env.kindOf y.1=some .cell\/X.env.kindOf y.1=some .free
 len:∀Z,(st Z).length=N.length
 val:∀Z (i:Nat) x v,N[i]? =some x->(st Z)[i]? =some (some v)->scope.names.lookup x=some .free/\i∉ks/\∃j:Nat,X.N[j]? =some x/\Z[j]? =some (some v)
def yj(h:(zGW scope env).names.lookup x=some .cell\/(zGW scope env).names.lookup x=some .free):scope.names.lookup x=some .free\/scope.names.lookup x=some .cell:=by
 have go:∀names:List (Str×zEP),((names.map λ(n,k)=>if (k==zCX&&env.scope.kind== .function&&env.kindOf n==some .cell)then(n,zDf)else(n,k)).lookup x=some .cell\/
   (names.map λ(n,k)=>if (k==zCX&&env.scope.kind== .function&&env.kindOf n==some .cell)then(n,zDf)else(n,k)).lookup x=some .free)->names.lookup x=some .free\/names.lookup x=some .cell:=by
  intro names;induction names with
  |nil=>intro h;simp at h
  |cons y r ih=>
   obtain⟨n,k⟩:=y;intro h;rw[zAG]at h;by_cases hx:x==n
   .rw[zBT,hx]
    show some k=some .free\/some k=some .cell;by_cases hcc:(k==zCX&&env.scope.kind== .function&&env.kindOf n==some .cell)=true
    .rw[zAa,zAa]at hcc
     rw[zFy hcc.1.1];exact .inl rfl
    .simp only[if_neg hcc,zBT,hx]at h
     exact h.elim .inr .inl
   .have hx':(x==n)=false:=by simpa using hx
    rw[zBT,hx'];refine ih ?_;by_cases hcc:(k==zCX&&env.scope.kind== .function&&env.kindOf n==some .cell)=true
    .simp only[if_pos hcc,zBT,hx']at h
     exact h
    .simp only[if_neg hcc,zBT,hx']at h
     exact h
 exact go scope.names h
def ym(h:scope.names.lookup x=some .free):(zGW scope env).names.lookup x=some .cell\/(zGW scope env).names.lookup x=some .free:=by
 have go:∀names:List (Str×zEP),names.lookup x=some .free->((names.map λ(n,k)=>if (k==zCX&&env.scope.kind== .function&&env.kindOf n==some .cell)then(n,zDf)else(n,k)).lookup x=some .cell\/
   (names.map λ(n,k)=>if (k==zCX&&env.scope.kind== .function&&env.kindOf n==some .cell)then(n,zDf)else(n,k)).lookup x=some .free):=by
  intro names;induction names with
  |nil=>intro h;simp at h
  |cons y r ih=>
   obtain⟨n,k⟩:=y;intro h;rw[zAG];by_cases hx:x==n
   .rw[zBT,hx]at h
    have hk:k= .free:=zAh h;by_cases hcc:(k==zCX&&env.scope.kind== .function&&env.kindOf n==some .cell)=true
    .simp only[if_pos hcc,zBT,hx]
     exact .inl trivial
    .simp only[if_neg hcc,zBT,hx]
     exact .inr (by rw[hk])
   .have hx':(x==n)=false:=by simpa using hx
    rw[zBT,hx']at h;by_cases hcc:(k==zCX&&env.scope.kind== .function&&env.kindOf n==some .cell)=true
    .simp only[if_pos hcc,zBT,hx']
     exact ih h
    .simp only[if_neg hcc,zBT,hx']
     exact ih h
 exact go scope.names h
section
variable{X:Cx}{kK:hV}{Z:St}{H:Hp}{s:zAF}
theorem Inv.block{st:St->St}{D C:Addr}(I:Inv X kK Z H s)(B:dD X scope N st ks)
  (hfp:∀b∈fp,rA X kK H b)(hob:∀b∈fp,∃ob,s.heap.get? b=some ob)
  (hD:s.heap.objs.size<=D)(hC:s.heap.objs.size<=C)(hDC:D≠C)(keep:∀b u,s.heap.get? b=some u->h'.get? b=some u)(hns:h'.Ns C λ _=>none)(hcs:CellsOk h' (C+1) (sy scope C))(hDo:∀c,C<c->D≠c)(aE:bu X.prog X.w (upd H D o) h' D o):
  Inv (X.block scope C N fp s H) [] (st Z) (upd H D o) {s with heap:=h',toks:=tk}:=by
 have hHD:H D=none:=I.hok.fresh hD;have hcl:∀x c,(bY scope X.env).lookup x=some c->X.env.cells.lookup x=some c:=λ x c e=>sO e
 have hol:∀x c,(sy scope C).lookup x=some c->C<c/\h'.IsCell c none:=λ x c e=>let⟨q1,q2⟩:=hcs.empty x c (zBJ e);⟨q2,q1⟩
 have hlt:∀x c,(bY scope X.env).lookup x=some c->c<s.heap.objs.size:=λ x c e=>let⟨v,ic⟩:=I.cell x c (hcl x c e);ic.lt
 have dA:∀b∈fp,b<s.heap.objs.size:=λ b hb=>by
  obtain⟨ob,e⟩:=hob b hb;exact zA1 e
 refine⟨⟨I.mod,?_,I.ok.glob,I.ok.blt,hC,λ x y c e1 e2=>?_,λ x hx=>?_,λ x c hf e=>?_,I.ok.hd,I.ok.frames,.inl rfl,λ b hb=>⟨?_,λ x c e z=>?_⟩,
  I.bs,?_,λ b ob e hb=>?_,λ b hb hs=>?_,I.stack,I.stkFree⟩,rfl,I.bare,Un.laid keep hD hHD,⟨_,hns,λ i x v e1 e2 hv=>?_⟩,λ x c e=>?_,?_,λ x c e=>?_,λ p hp=>absurd (show p∈([]:hV)from hp) (by simp),I.hok.laid keep hD aE,B.len Z,λ p hp=>absurd (show p∈([]:hV)from hp) (by simp)⟩
 .show(zGW scope X.env).kind= .function
  exact B.kind
 .rcases j8 e1 with a1|⟨_,a1⟩<;>rcases j8 e2 with a2|⟨_,a2⟩
  .exact PySem.name_of_addr hcs.apart (zBJ a1) (zBJ a2)
  .exact absurd (hlt y c a2) (zGj.mpr (zBB hC (zCQ (hol x c a1).1)))
  .exact absurd (hlt x c a1) (zGj.mpr (zBB hC (zCQ (hol y c a2).1)))
  .exact I.ok.inj x y c (hcl x c a1) (hcl y c a2)
 .show∃c,(sy scope C++bY scope X.env).lookup x=some c
  rw[zF0];cases e:(sy scope C).lookup x with
  |some c=>exact⟨c,rfl⟩
  |none=>
   rcases yj hx with hfree|hcell
   .obtain⟨c,hc⟩:=I.ok.has x (B.free (x,.free) (zBJ hfree) rfl)
    exact⟨c,aBK hfree hc⟩
   .obtain⟨c,hc⟩:=qC (n:=C+1) hcell
    rw[show(sy scope C).lookup x=some c from hc]at e;cases e
 .rcases j8 e with a1|⟨a0,_⟩
  .exact zBB hC (zCQ (hol x c a1).1)
  .obtain⟨c',hc'⟩:=qC (n:=C+1) (zFy hf)
   rw[show(sy scope C).lookup x=some c' from hc']at a0;cases a0
 .exact zAc (zA8 (dA b hb) hC)
 .rcases j8 e with a1|⟨_,a1⟩
  .exact absurd (dA b hb) (zGj.mpr (by rw[<-z];exact zBB hC (zCQ (hol x c a1).1)))
  .exact(hfp b hb).2.2.2.2.1 x c (hcl x c a1) z
 .exact zBB I.ok.bsz I.sz
 .rcases(hfp b hb).2.2.2.1 with z|z
  .exact I.ok.noex b ob e z
  .exact absurd (zA8 (zA1 (I.ok.bs b ob e).1) z) (zBo _)
 .rcases zAM.mp (I.stkSub b hs)with z|z
  .exact(hfp b hb).2.1 z
  .exact(hfp b hb).2.2.1 z
 .obtain⟨hfree,_,j,f1,f2⟩:=B.val Z i x v e1 e2
  obtain⟨m,hn,hl⟩:=I.loc;have hk:=B.free (x,.free) (zBJ hfree) rfl;obtain⟨u,ru,hu⟩:=hl j x v f1 f2 (hk.elim (λ z=>.inr (.inl z)) λ z=>.inr (.inr z));rcases hu with ⟨k,_⟩|⟨_,c,ec,ic⟩
  .rcases hk with z|z
   .exact absurd (k.symm.trans z) (by decide)
   .exact absurd (k.symm.trans z) (by decide)
  .have hno:(sy scope C).lookup x=none:=by
    cases e:(sy scope C).lookup x with
    |none=>rfl
    |some c'=>
     have:=B.sep _ (o7 (zBJ e)) rfl
     rw[hfree]at this;cases this
   refine⟨u,ru,.inr ⟨?_,c,by show(sy scope C++bY scope X.env).lookup x=some c;rw[zF0,hno];exact aBK hfree ec,ic.keeps keep⟩⟩;rcases hv with z|z|z
   .have z':(zGW scope X.env).names.lookup x=some .local:=z
    rcases ym (env:=X.env) hfree with y|y
    .exact absurd (z'.symm.trans y) (by decide)
    .exact absurd (z'.symm.trans y) (by decide)
   .exact .inl z
   .exact .inr z
 .rcases j8 e with a1|⟨_,a1⟩
  .exact⟨_,(hol x c a1).2⟩
  .obtain⟨v,ic⟩:=I.cell x c (hcl x c a1)
   exact⟨v,ic.keeps keep⟩
 .show upd H D o C=none
  rw[bF (zE1 hDC)];exact I.hok.fresh hC
 .show upd H D o c=none
  rcases j8 e with a1|⟨_,a1⟩
  .rw[bF (zE1 (hDo c (hol x c a1).1))]
   exact I.hok.fresh (zBB hC (zCQ (hol x c a1).1))
  .obtain⟨v,ic⟩:=I.cell x c (hcl x c a1)
   rw[bF (zAc (zA8 ic.lt hD))];exact I.freeC x c (hcl x c a1)
end
section
variable{prog:zA7}{w:World}{A:zAt}{R:zFF->zAF->Prop}{s:zAF}
def zT(I:Nat->zAF->Prop)
  (turn:∀n s,I n s->wpAny (model prog w) A (zGA it) (λ r z0=>match r with
   |none=>R (.ok .next) z0
   |some v=>wpAny (model prog w) A (zDb target it v) (λ _ z0=>wpAny (model prog w) A (zFU target env v) (λ _ z4=>
     wpAny (model prog w) A (forIn ifs true λ c r=>if r=true then do let ok <-isTrue c env (eval c env);pure (zBi ok)else pure (zBi r)) (λ ok zI=>
      if ok=true then wpAny (model prog w) A (eval elt env) (λ x y7=>
       wpAny (model prog w) A (call (.builtin "list.append") [acc,x]) (λ _ s₅=>∃m,m<n/\I m s₅) (λ _ _=>False) y7) (λ _ _=>False) zI
      else∃m,m<n/\I m zI) (λ _ _=>False) z4) (λ _ _=>False) z0) (λ _ _=>False) z0) (λ _ _=>False) s)
  (n:Nat)(h:I n s):zCf (model prog w) A (.compLoop (.ListComp elt [⟨target,iter,ifs,0⟩] scope pos) 0 it acc env) R s:=by
 refine codeAny_loop rfl I (λ n s hI=>?_) n h;show wpAny _ A ((compTurn (.ListComp elt [⟨target,iter,ifs,0⟩] scope pos) 0 it acc env).onRaise (λ x=>do noteFrame x env;theTreesLotGoes x)) _ _ s;refine wpAny_noted ?_;rw[compTurn_list];refine zAB (zFE (zAB (zB8 (turn n s hI) (λ r z0 zS=>?_) λ _ _ h'=>h'.elim)));cases r with
 |none=>exact zAJ zS
 |some v=>
  refine zAB (zB8 zS (λ _ z0 zS=>?_) λ _ _ h'=>h'.elim);refine zAB (zB8 zS (λ _ z4 zC=>zAB (zB8 zC (λ ok zI y6=>?_) λ _ _ h'=>h'.elim)) λ _ _ h'=>h'.elim);cases ok with
  |false=>exact zAJ ⟨rfl,y6⟩
  |true=>
   exact zAB (zAB (zB8 y6 (λ x y7 h₄=>zAB (zB8 h₄ (λ _ s₅ h₅=>zAJ (zAJ ⟨rfl,h₅⟩)) λ _ _ h'=>h'.elim)) λ _ _ h'=>h'.elim))
end
def qK(g:TG)(ks:List Nat):Prop:=∀v Z H (Q:St->Hp->Prop),g v Z H Q->g v Z H (λ Z' H'=>Q Z' H'/\Z'.length=Z.length/\∀k,k∉ks->Z'[k]? =Z[k]?)
def vg(g:TGs)(ks:List Nat):Prop:=∀vs Z H (Q:St->Hp->Prop),g vs Z H Q->g vs Z H (λ Z' H'=>Q Z' H'/\Z'.length=Z.length/\∀k,k∉ks->Z'[k]? =Z[k]?)
def aI9(h:i∈ks):qK (nW i) ks:=λ v Z H Q q=>⟨q,zBL,λ k hk=>zBj (λ(e:i=k)=>hk (e▸h))⟩
def aI8:vg aLS ks:=λ vs Z H Q ⟨e,q⟩=>⟨e,q,rfl,λ _ _=>rfl⟩
def aBS(g:TG):Prop:=∀v Z H (Q Q':St->Hp->Prop),(∀Z' H',Q Z' H'->Q' Z' H')->g v Z H Q->g v Z H Q'
def qz(g:TGs):Prop:=∀v Z H (Q Q':St->Hp->Prop),(∀Z' H',Q Z' H'->Q' Z' H')->g v Z H Q->g v Z H Q'
def aIb:aBS (nW i):=λ v Z H Q Q' imp q=>imp _ _ q
def aIa:qz aLS:=λ v Z H Q Q' imp ⟨e,q⟩=>⟨e,imp _ _ q⟩
def aGE(h1:aBS t)(h2:qz u):qz (aGI t u):=λ vs Z H Q Q' imp ⟨v,r,e,q⟩=>⟨v,r,e,h1 _ _ _ _ _ (λ Z' H' q'=>h2 _ _ _ _ _ imp q') q⟩
def aGA(h1:qK t ks)(m1:aBS t)(h2:vg u ks)(m2:qz u):vg (aGI t u) ks:=λ vs Z H Q ⟨v,r,e,q⟩=>
 ⟨v,r,e,m1 _ _ _ _ _ (λ Z' H' ⟨q',l',k'⟩=>m2 _ _ _ _ _ (λ Z2 H2 ⟨q2,l2,k2⟩=>⟨q2,l2.trans l',λ k hk=>(k2 k hk).trans (k' k hk)⟩) (h2 _ _ _ _ q')) (h1 _ _ _ _ q)⟩
def aLQ{K:zAA}(h:vg t ks):qK (aIc K n t) ks:=λ v Z H Q ⟨a,xs,e1,e2,e3,q⟩=>⟨a,xs,e1,e2,e3,h _ _ _ _ q⟩
def aLR{K:zAA}(h:qz t):aBS (aIc K n t):=λ v Z H Q Q' imp ⟨a,xs,e1,e2,e3,q⟩=>⟨a,xs,e1,e2,e3,h _ _ _ _ _ imp q⟩
def aBQ(X:Cx)(ifs:List Expr)(t:TT):Prop:=
 ∀(kK:hV) (s:zAF) (Z:St) (H:Hp) (Q:Bool->Hp->Prop),Inv X kK Z H s->t Z H Q->
  wpAny (model X.prog X.w) X.A (forIn ifs true λ c r=>if r=true then do let ok <-isTrue c X.env (eval c X.env);pure (zBi ok)else pure (zBi r)) (TP X kK Z Q) X.xe s
def aMj:TT:=λ _ H Q=>Q true H
def aKY:aBQ X [] aMj:=λ _ _ _ H _ I h=>wpAny_tests_nil ⟨H,I,h⟩
def aKX(h:PT X c t):aBQ X [c] t:=λ kK s Z H Q I q=>wpAny_tests_one (h kK s Z H Q I q)
def tLC(wi:TI)(st:St->St)(g:TG)(tt:TT)(te:TE):TE:=λ Z H Q=>wi Z H λ J H1=>∀l,H1 l=none->∃W:Nat->Nat->List V->Hp->Prop,(∃m,W 0 m [] (upd H1 l (.lst [])))/\
 ∀i m acc H2,W i m acc H2->H2 l=some (.lst acc)/\acc.length<zA0/\((J.stop i H2/\Q (.ref l) H2)\/(J.go i H2/\∀x H3,J.yld i H2 x H3->g x (st Z) H3 λ Z4 H4=>tt Z4 H4 λ ok H5=>
  if ok=true then te Z4 H5 λ y H6=>H6 l=some (.lst acc)/\∃m',m'<m/\W (i+1) m' (acc++[y]) (upd H6 l (.lst (acc++[y])))else∃m',m'<m/\W (i+1) m' acc H5))
section
variable{X:Cx}{elt tg iter:Expr}{ifs:List Expr}{scope:Scope}{pos:Pos}{N:List Str}{st:St->St}{ks:List Nat}{wi:TI}{g:TG}{tt:TT}{te:TE}
def aAm(B:dD X scope N st ks)(hc:X.calm=true)(hg:∀C fp z5 z3,PG (X.block scope C N fp z5 z3) tg g)(hgo:qK g ks)(ht:∀C fp z5 z3,aBQ (X.block scope C N fp z5 z3) ifs tt)
  (he:∀C fp z5 z3,PE (X.block scope C N fp z5 z3) elt te){H1:Hp}{Q:VK}{RR:Value->Addr->zFF->zAF->Prop}
  (I:Inv X kK Z H1 z4)(T:Turn X.prog X.w X.K tg J fp it tn)(h0:tn 0 z4.heap)(hfp:∀b∈fp,rA X kK H1 b)
  (h:∀l,H1 l=none->∃W:Nat->Nat->List V->Hp->Prop,(∃m,W 0 m [] (upd H1 l (.lst [])))/\
   ∀i m acc H2,W i m acc H2->H2 l=some (.lst acc)/\acc.length<zA0/\((J.stop i H2/\Q (.ref l) H2)\/(J.go i H2/\∀x H3,J.yld i H2 x H3->g x (st Z) H3 λ Z4 H4=>tt Z4 H4 λ ok H5=>
    if ok=true then te Z4 H5 λ y H6=>H6 l=some (.lst acc)/\∃m',m'<m/\W (i+1) m' (acc++[y]) (upd H6 l (.lst (acc++[y])))else∃m',m'<m/\W (i+1) m' acc H5)))
  (hRR:∀D C H' s',(∃Z',Inv (X.block scope C N fp z4 H1) [] Z' H' s')->z4.heap.objs.size<=C->Q (.ref D) H'->RR (.ref D) C (.ok .next) s'):
  wpAny (model X.prog X.w) X.A (zFl []) (λ acc zI=>wpAny (model X.prog X.w) X.A (zFe scope X.env.globals (bY scope X.env) [] X.env.qual none .none (some X.env)) (λ cenv y7=>
   zCf (model X.prog X.w) X.A (.compStart (.ListComp elt [⟨tg,iter,ifs,0⟩] scope pos) 0 (.ref it) acc {cenv with scope:=zGW scope X.env}) (RR acc cenv.locals) y7) E zI) E z4:=by
 refine zBw (aCt λ zS y9 zD y8=>?_);dsimp only at y9 zD y8 ⊢;generalize hH2:z4.heap.push {cls:=.type "list",dict:=none,data:=.seq ([]:List Value).toArray}=P2 at y9 zD y8 ⊢;have hC:P2.objs.size=z4.heap.objs.size+1:=by rw[<-hH2,zBe]
 have hDC:z4.heap.objs.size≠P2.objs.size:=by rw[hC];exact zAc (zBf _)
 have pV:z4.heap.objs.size<=P2.objs.size:=by rw[hC];exact zFR _
 have old:∀b o,z4.heap.get? b=some o->zS.get? b=some o:=λ b o e=>zD b o (hH2▸zAD _ e)
 have aE:zS.get? z4.heap.objs.size=some {cls:=.type "list",dict:=none,data:=.seq ([]:List Value).toArray}:=zD _ _ (hH2▸zAY _ rfl);generalize hCe:P2.objs.size=C at y9 zD y8 hDC pV hC ⊢;have hHD:H1 z4.heap.objs.size=none:=I.hok.fresh (zAW _);have I0:Inv (X.block scope C N fp z4 H1) [] (st Z) (upd H1 z4.heap.objs.size (.lst [])) {z4 with heap:=zS,toks:=z4.toks}:=
  I.block B hfp (λ b hb=>by obtain⟨o,e,_⟩:=T.obj 0 _ h0 b hb;exact⟨o,e⟩) (zAW _) pV hDC old y9 y8 (λ c hc=>zAc (zIC pV hc)) ⟨zAo _,[],0,.nil,aE⟩
 obtain⟨W,⟨m0,w0⟩,step⟩:=h _ hHD;have h01:tn 0 zS:=T.keep 0 _ _ h0 λ b _ o e=>old b o e
 have aT:∀{H':Hp},(∀b∈fp,H' b=none)->∀b∈fp,rA (X.block scope C N fp z4 H1) [] H' b:=λ{H'} hn b hb=>
  ⟨hn b hb,(I0.ok.exf b hb).1,I0.ok.exfs b hb,.inl hb,λ x c e=>(I0.ok.exf b hb).2 x c e,λ p hp=>absurd (show p∈([]:hV)from hp) (by simp)⟩
 have fr0:∀b∈fp,upd H1 z4.heap.objs.size (.lst []) b=none:=λ b hb=>by
  obtain⟨o,e,_⟩:=T.obj 0 _ h0 b hb;rw[bF (zAc (zA1 e))];exact(hfp b hb).1
 have loop:∀zI:zAF,zI={z4 with heap:=zS,toks:=z4.toks}->
   zCf (model X.prog X.w) X.A (.compLoop (.ListComp elt [⟨tg,iter,ifs,0⟩] scope pos) 0 (.ref it) (.ref z4.heap.objs.size) (X.block scope C N fp z4 H1).env) (RR (.ref z4.heap.objs.size) C) zI:=by
  rintro zI rfl;refine zT (λ n s'=>∃i acc H2,Inv (X.block scope C N fp z4 H1) [] (st Z) H2 s'/\tn i s'.heap/\(∀b∈fp,H2 b=none)/\W i n acc H2) ?_ m0 ⟨0,[],_,I0,h01,fr0,w0⟩;rintro n s3 ⟨i,acc,H2,I2,st2,fr2,w2⟩;obtain⟨hl,hz,alt⟩:=step i n acc H2 w2;rcases alt with ⟨stop,q⟩|⟨go,nxt⟩
  .refine thn (T.done (X.block scope C N fp z4 H1) rfl rfl rfl hc i [] s3 (st Z) H2 _ I2 (aT fr2) st2 stop) λ r s4 ⟨hr,I4⟩=>?_
   subst hr;exact hRR _ C H2 s4 ⟨_,I4⟩ pV q
  .refine thn (T.item (X.block scope C N fp z4 H1) rfl rfl rfl hc i [] s3 (st Z) H2 _ I2 (aT fr2) st2 go) λ r s4 ⟨u,hr,h4⟩=>?_
   subst hr;refine thn h4 λ _ s5 ⟨x,H5,I5,r5,y5,st5,fr5⟩=>?_
   have I5':=I5.pinned (aT fr5) (T.obj _ _ st5);refine thn (hg C fp z4 H1 _ s5 (st Z) H5 x u _ I5' r5 (hgo _ _ _ _ (nxt x H5 y5))) λ _ s6 ⟨Z6,H6,I6,q6,aIQ,ag6⟩=>?_
   refine thn (ht C fp z4 H1 _ s6 Z6 H6 _ I6 q6) λ ok s7 ⟨H7,I7,q7⟩=>?_
   have again:∀{H9:Hp} {s9:zAF} {acc':List V},Inv (X.block scope C N fp z4 H1) ([]++qe fp s5.heap) Z6 H9 s9->(∃m',m'<n/\W (i+1) m' acc' H9)->
     ∃m,m<n/\∃i acc H2,Inv (X.block scope C N fp z4 H1) [] (st Z) H2 s9/\tn i s9.heap/\(∀b∈fp,H2 b=none)/\W i m acc H2:=λ{H9 s9 acc'} I9 ⟨m',hm,w9⟩=>by
    have dS:∀b∈fp,∀o,s5.heap.get? b=some o->s9.heap.get? b=some o/\H9 b=none:=λ b hb o e=>by
     have z:=I9.pin (b,o) (zAi _ (zAi _ (jz hb e)));exact⟨z.1,z.2.1⟩
    refine⟨m',hm,i+1,acc',H9,I9.unpinned.weak (by rw[aIQ]) (λ k v e=>?_),T.keep _ _ _ st5 λ b hb o e=>(dS b hb o e).1,λ b hb=>?_,w9⟩
    .have hk:k<(st Z).length:=(zAI.mp e).1
     have hkN:k<N.length:=by rw[<-B.len Z];exact hk
     obtain⟨_,hks,_⟩:=B.val Z k _ v (zAC hkN) e;rw[ag6 k hks];exact e
    .obtain⟨o,e,_⟩:=T.obj _ _ st5 b hb
     exact(dS b hb o e).2
   cases ok with
   |false=>
    rw[if_neg zAS]at q7 ⊢;exact again I7 q7
   |true=>
    rw[if_pos rfl]at q7 ⊢;refine thn (he C fp z4 H1 _ s7 Z6 H7 _ I7 q7) λ u8 s8 ⟨y,H8,I8,r8,hl8,q8⟩=>?_
    refine thn (w5 _ s8 Z6 H8 (.ref z4.heap.objs.size) [y] (.ref z4.heap.objs.size) [u8] (λ _ H9=>H9=upd H8 z4.heap.objs.size (.lst (acc++[y]))) I8 rfl (.cons r8 .nil) ⟨_,acc,y,rfl,rfl,hl8,hz,rfl⟩) λ _ s9 ⟨_,H9,I9,_,e9⟩=>?_
    subst e9;exact again I9 q8
 exact codeAny_compStart_list (loop _ rfl) (T.self X.A 0 _ _ _ h01 (loop _ rfl))
def z8(I:Inv X kK Z H1 z4)(hfp:∀b∈fp,rA X kK H1 b)(h:∃Z',Inv (X.block scope C N fp z4 H1) [] Z' H' s'):Inv X kK Z H' s':=by
 obtain⟨Z',J⟩:=h;exact I.call' (ch:=fp) J.os J.base J.hok J.bare λ b hb=>⟨(hfp b hb).2.2.2.1,(hfp b hb).2.1,(hfp b hb).2.2.2.2.1,(hfp b hb).2.2.2.2.2⟩
def aMF(B:dD X scope N st ks)(hc:X.calm=true)(hi:PI X tg iter wi)(hg:∀C fp z5 z3,PG (X.block scope C N fp z5 z3) tg g)(hgo:qK g ks)(ht:∀C fp z5 z3,aBQ (X.block scope C N fp z5 z3) ifs tt)
  (he:∀C fp z5 z3,PE (X.block scope C N fp z5 z3) elt te)(hs:∀x,zCI iter X.env x=pure x:=by intro _;rfl):PE X (.ListComp elt [⟨tg,iter,ifs,0⟩] scope pos) (tLC wi st g tt te):=by
 intro kK s Z H Q I h;have hcl:zGU scope X.env=pure (bY scope X.env):=jT λ y hy hk=>I.ok.has _ (B.free y hy hk)
 rw[eval_ListComp];refine zEl (use:=none) rfl hs hcl B.kind B.loc (thn (hi kK s Z H _ I h) λ v s1 h1=>thn h1 λ itv s2 h2=>?_);obtain⟨it,fp,tn,J,H2,e,I2,T,st2,f2,hq⟩:=h2;subst e;refine aAm (RR:=λ acc C=>compPost (model X.prog X.w) X.A X.xe none (EP X kK Z Q) acc C) B hc hg hgo ht he I2 T st2 f2 hq ?_;intro D C H' s' hJ pV q;have I3:=z8 I2 f2 hJ;obtain⟨Z',J'⟩:=hJ;obtain⟨m,hn,_⟩:=id J'.loc;have hHC:H' C=none:=J'.free;refine⟨m,hn,λ h'' hs''=>⟨.ref D,H',?_,rfl,q⟩⟩;exact I3.turned (t':=s'.toks) (λ b o ne e=>(hs''.2 b ne).trans e) hHC (zCz (zA8 I2.lt pV)) (.inr (zBB I2.sz pV))
  (λ x c e z=>by obtain⟨v,ic⟩:=I2.cell x c e;exact absurd (zA8 ic.lt (by rw[z];exact pV)) (zBo _))
  (λ p hp z=>absurd (zA8 (I2.pinL hp) (by rw[z];exact pV)) (zBo _))
def aAV(hN:X.N.Nodup)(hx1:X.N[i]? =some x)(hx2:Loc X.env.scope x)(B:dD X scope N st ks)(hc:X.calm=true)(hi:PI X tg iter wi)(hg:∀C fp z5 z3,PG (X.block scope C N fp z5 z3) tg g)(hgo:qK g ks)
  (ht:∀C fp z5 z3,aBQ (X.block scope C N fp z5 z3) ifs tt)(he:∀C fp z5 z3,PE (X.block scope C N fp z5 z3) elt te)(hsw:zCt (.ListComp elt [⟨tg,iter,ifs,0⟩] scope pos) (some (.Name x pos')) spos.line X.env=pure true)
  (hs:∀x,zCI iter X.env x=pure x:=by intro _;rfl)(hf:X.fn x=true\/X.env.scope.names.lookup x=some .local:=by first|exact .inl rfl|exact .inr rfl|assumption):
  PS X (.Assign [.Name x pos'] (.ListComp elt [⟨tg,iter,ifs,0⟩] scope pos) spos) (aE4 (tLC wi st g tt te) (nW i)):=by
 intro kK s Z H D I h;have hcl:zGU scope X.env=pure (bY scope X.env):=jT λ y hy hk=>I.ok.has _ (B.free y hy hk)
 rw[zIa _ _ _ _ hsw];refine zAB (zFE (zAB ?_));show wpAny _ _ (do let _ <-comprehension (.ListComp elt [⟨tg,iter,ifs,0⟩] scope pos) scope X.env _ (zFl []) false (eval iter X.env) (some (zFU (.Name x pos') X.env))) _ _ s;refine zAB (zB8 (zEl (use:=some (zFU (.Name x pos') X.env)) (Q:=λ _ s'=>SP X kK D .next s') rfl hs hcl B.kind B.loc (thn (hi kK s Z H _ I h) λ v s1 h1=>thn h1 λ itv s2 h2=>?_)) (λ _ s' hq=>zAJ (zAJ hq)) λ _ _ e=>e);obtain⟨it,fp,tn,J,H2,e,I2,T,st2,f2,hq⟩:=h2;subst e;refine aAm (Q:=λ x H1=>nW i x Z H1 D.nx) (RR:=λ acc C=>compPost (model X.prog X.w) X.A X.xe (some (zFU (.Name x pos') X.env)) (λ _ s'=>SP X kK D .next s') acc C) B hc hg hgo ht he I2 T st2 f2 hq ?_;intro DD C H' s' hJ pV q;have I3:=z8 I2 f2 hJ;obtain⟨Z',J'⟩:=hJ;obtain⟨m,hn,_⟩:=id J'.loc;have hHC:H' C=none:=J'.free;have neL:C≠X.env.locals:=zCz (zA8 I2.lt pV);have neC:∀x c,X.env.cells.lookup x=some c->c≠C:=λ x c e z=>by obtain⟨v,ic⟩:=I2.cell x c e;exact absurd (zA8 ic.lt (by rw[z];exact pV)) (zBo _)
 show wpAny _ _ (zFU (.Name x pos') X.env (.ref DD)) _ _ _;refine zGY ?_;refine qM I3 hN hx1 hx2 (show RelV (.ref DD) (.ref DD)from rfl) (λ s4 I4 ⟨a,hsa,ha⟩=>?_) hf;have nea:C≠a:=by
  rcases ha with z|z
  .rw[z];exact neL
  .exact zE1 (neC _ _ z)
 refine⟨m,hn.sameBut hsa nea,λ h'' hs''=>⟨_,H',?_,q⟩⟩;exact I4.turned (t':=s4.toks) (λ b o ne e=>(hs''.2 b ne).trans e) hHC neL (.inr (zBB I2.sz pV)) neC
  (λ p hp z=>absurd (zA8 (I2.pinL hp) (by rw[z];exact pV)) (zBo _))
end
def CX1(P:zA7)(w:World):CXT:=λ outer H s E e s'=>∃(ea:Addr) (cls a0:Value) (B:Heap) (H':Hp),e= .ref ea/\s'.os=s.os/\zFQ s'.gens/\Un (frs outer) [] H H' s.heap s'.heap/\HOk P w H' B/\Heap.FlyingW B outer ea cls a0 s'.heap/\
 (∀b o,s.heap.get? b=some o->H b=none->b∉frs outer->B.get? b=some o)/\(∀b o,s.heap.get? b=some o->b∉frs outer->∃o',B.get? b=some o')/\E cls none H'
structure iu(X:Cx)(E:XK):Prop where
 stk:X.stack=X.env::X.outer
 fr:X.env.frame=some X.env.locals
 ex:X.ex=[]
 xe:X.xe=λ e s'=>wpAny (model X.prog X.w) X.A (leaving X.env e) (λ _ s''=>CX1 X.prog X.w X.outer X.z3 X.z5 E e s'') (λ e' s''=>CX1 X.prog X.w X.outer X.z3 X.z5 E e' s'') s'
def iu.of{K:zAA}:
  iu (aBH (CX1 P w) P w K mg base N qual scope f cd A outer z5 z3 E) E:=⟨rfl,rfl,rfl,rfl⟩
section
variable{X:Cx}{E:XK}
def aGP{B h':Heap}(hX:X.ex=[])(I:Inv X kK Z H s)
  (a1:∀b o,s.heap.get? b=some o->H b=none->b∉frs X.stack->B.get? b=some o)(a2:∀b o,s.heap.get? b=some o->b∉frs X.stack->∃o',B.get? b=some o')
  (a3:B.StaysIn h')(a4:∀b o,b∈frs X.outer->s.heap.get? b=some o->H b=none->(∀vs,o.data≠.fields vs)->∃sl,h'.get? b=some {o with slots:=sl})
  (a5:∀b o,s.heap.get? b=some o->H b=none->H' b=none)(a6:∀b xs,H b=some (.tup xs)->H' b=some (.tup xs))(a7:∀b o u,H b=some (.frz o u)->H' b=some (.frz o u))(a8:∀b ps,H b=some (.tbl ps)->∃more,H' b=some (.tbl (ps++more))):
  Un (frs X.outer) [] X.z3 H' X.z5.heap h'/\(∀b o,X.z5.heap.get? b=some o->X.z3 b=none->b∉frs X.outer->B.get? b=some o)/\(∀b o,X.z5.heap.get? b=some o->b∉frs X.outer->∃o',B.get? b=some o'):=by
 have nx:∀b,b∉X.ex:=λ b z=>by rw[hX]at z;cases z
 have noS:∀b o,X.z5.heap.get? b=some o->b∉frs X.outer->b∉frs X.stack:=λ b o e nf hb=>by
  rcases zAM.mp (I.stkSub b hb)with z|z
  .exact absurd z (zAc (zA8 (zA1 e) I.ok.above))
  .exact nf z
 have bk:∀b o,X.z5.heap.get? b=some o->X.z3 b=none->b∉frs X.outer->B.get? b=some o:=λ b o e n nf=>
  a1 b o (I.base.keep b o e n nf (nx b)) (I.base.free b o e n (nx b)) (noS b o e nf)
 have ba:∀b o,X.z5.heap.get? b=some o->b∉frs X.outer->∃o',B.get? b=some o':=λ b o e nf=>by
  obtain⟨o1,e1⟩:=I.base.there b o e (nx b);exact a2 b o1 e1 (noS b o e nf)
 have sl:∀b o,X.z5.heap.get? b=some o->X.z3 b=none->b∈frs X.outer->∃sl,h'.get? b=some {o with slots:=sl}:=λ b o e n hb=>by
  obtain⟨sl1,e1⟩:=I.base.slot b o e n hb (nx b);obtain⟨_,o2,ho2,hnf⟩:=I.ok.funs.mem hb;rw[e]at ho2;cases ho2;obtain⟨sl2,e2⟩:=a4 b _ hb e1 (I.base.free b o e n (nx b)) hnf;exact⟨sl2,e2⟩
 refine⟨⟨λ b o e n nf _=>a3 b o (bk b o e n nf),λ b o e n hb _=>sl b o e n hb,λ b o e n _=>?_,λ b o e _=>?_,λ b xs e=>a6 b xs (I.base.tups b xs e),λ b o u e=>a7 b o u (I.base.frzs b o u e),λ b ps e=>?_⟩,bk,ba⟩
 .obtain⟨o1,e1⟩:=I.base.there b o e (nx b)
  exact a5 b o1 e1 (I.base.free b o e n (nx b))
 .by_cases hb:b∈frs X.outer
  .obtain⟨s2,e2⟩:=sl b o e (I.ok.frf b hb) hb
   exact⟨_,e2⟩
  .obtain⟨o',e'⟩:=ba b o e hb
   exact⟨o',a3 b o' e'⟩
 .obtain⟨m1,e1⟩:=I.base.tbls b ps e
  obtain⟨m2,e2⟩:=a8 b _ e1;exact⟨m1++m2,by rw[e2,zHW]⟩
def iu.pass(D:iu X E):zc (CX1 X.prog X.w) X E:=by
 intro kK Z H s e s' I h;obtain⟨ea,cls,a0,B,H',rfl,os,bare,un,hok,fly,bk,ba,hE⟩:=h;rw[D.xe];have fly':=fly;rw[D.stk]at fly';have hfr:=I.ok.frames;rw[D.stk]at hfr;refine wpAny_leaves_onW (L:=X.env.locals) hfr D.fr fly' λ h' fl up=>?_
 have a4:∀b o,b∈frs X.outer->s.heap.get? b=some o->H b=none->(∀vs,o.data≠.fields vs)->∃sl,h'.get? b=some {o with slots:=sl}:=λ b o hb e n nf=>by
  have hb':b∈frs X.stack:=by
   rw[D.stk];unfold frs;rw[zBp,D.fr];exact zAO _ hb
  obtain⟨s1,e1⟩:=un.slot b o e n hb' (λ z=>nomatch z);obtain⟨s2,e2⟩:=up b _ e1 nf;exact⟨s2,e2⟩
 obtain⟨u1,u2,u3⟩:=aGP (B:=B) (h':=h') (H':=H') D.ex I bk ba fl.1 a4 (λ b o e n=>un.free b o e n (λ z=>nomatch z)) un.tups un.frzs un.tbls;exact⟨ea,cls,a0,B,H',rfl,os.trans I.os,bare,u1,hok,fl,u2,u3,hE⟩
def iu.raise(D:iu X E){ea:Addr}(I:Inv X kK Z H s)
  (hx:Heap.MadeExcOf s.heap h1 ea cls vs)(hE:E cls none H):X.xe (.ref ea) {s with heap:=h1}:=by
 rw[D.xe];have stk:s.heap.FunFrames X.base X.stack:=I.stack;have hin:∀env∈X.stack,∀a,env.frame=some a->a∈frs X.stack:=λ env he a ha=>zCJ.mpr ⟨env,he,ha⟩
 have stk2:=PySem.W.funFrames_hide stk hin;have hfr:=I.ok.frames;rw[D.stk]at hfr;have stk3:s.heap.FunFrames (zDq s.heap (frs X.stack)) (X.env::X.outer):=by rw[<-D.stk];exact stk2
 refine wpAny_leaves_madeW (L:=X.env.locals) (base:=zDq s.heap (frs X.stack)) hfr D.fr (λ b o q=>zHF _ q) stk3 hx λ h' t fl tup bn up=>?_
 have hok:HOk X.prog X.w H (zDq s.heap (frs X.stack)):=λ a o e=>by
  refine(I.hok a o e).stay (λ b u hb q=>zDr _ q λ hm=>?_) (λ _ z=>z) λ _ _ z=>z
  have hn:=I.stkFree b hm;rcases hb with z|z
  .rw[z,e]at hn;cases hn
  .rw[z]at hn;cases hn
 obtain⟨u1,u2,u3⟩:=aGP (B:=zDq s.heap (frs X.stack)) (h':=h') (H':=H) D.ex I (λ b o e n nf=>zDr _ e nf) (λ b o e nf=>⟨o,zDr _ e nf⟩) fl.1
  (λ b o hb e n nf=>up b o (hx.keeps b o e) nf) (λ b o e n=>n) (λ _ _ e=>e) (λ _ _ _ e=>e) (λ b ps e=>⟨#[],by rw[e];simp⟩)
 exact⟨ea,cls,.ref t,_,H,rfl,I.os,I.bare,u1,hok,fl,u2,u3,hE⟩
def iu.own(D:iu X E):zI5 (model X.prog X.w) X.A X.env X.xe:=λ e s' h=>by
 rw[D.xe]at h ⊢;exact wpAny_leaving_again (SameStack.refl _) h
end
section
variable{P:zA7}{w:World}{K:zAA}{mg:Str->Option Value}{base:Heap}
def Fun.okX{st:Stmt}(F:Fun K x q st f fd)(S:aX N ps (aP st))(len:∀vs H Q E,sp vs H Q E->vs.length=ps.length)
  (hbody:∀(cdv:Value) (A:zAt) (outer:List Env) (s:zAF) (H:Hp) (vs:List V) (Q:VK) (E:XK),iw k (A.deeper (zFH q (aP st) s.heap.objs.size f cdv))->sp vs H Q E->
   ∃t,PSs (aBH (CX1 P w) P w K mg base N q (aP st) f cdv A outer s H E) (gC st) t/\t {nx:=λ _ H'=>Q .non H',rt:=Q} (start N vs) H):cP P w K mg base (CX1 P w) (k+1) f fd ps sp:=by
 obtain⟨oc,od,kV,doc,pm,an,cdv,ct,osl,rfl,lk,hcd⟩:=F.ex;exact aMZ lk hcd S len λ A outer s H vs Q E hr hsp=>hbody cdv A outer s H vs Q E hr hsp
end
def tK(K:zAA)(C:Addr):Prop:=zI7 K C [.type "ValueError",.type "Exception",.type "BaseException",.type "object"] "ValueError.__new__"=true
def yt{K:zAA}(X:K.In h)(hm:mg x=some (.ref C))(q:tK K C):OwnCls x C [.type "ValueError",.type "Exception",.type "BaseException",.type "object"] "ValueError.__new__" mg h:=by
 refine⟨hm,?_⟩;unfold tK zI7 at q;split at q
 .rename_i dd cd sl ho
  split at q
  .rename_i C' bm k0 k1 k2 k3 n k5 hm' hs
   simp only[zAa,beq_iff_eq,zDB]at q;obtain⟨⟨⟨⟨⟨rfl,rfl⟩,hdel⟩,ht⟩,hok⟩,hni⟩:=q;obtain⟨nm,bs,mro,ns,qn,hd,sn,sub,ab,col,del⟩:=cd;dsimp only at hm' hdel hok hni;subst hm' hdel;have hsl:sl=#[k0,k1,k2,k3,some (.builtin "ValueError.__new__"),k5]:=by
    obtain⟨l⟩:=sl;simp only at hs;rw[hs]
   subst hsl;exact⟨bm,ns,nm,qn,bs,hd,sn,sub,ab,col,dd,k0,k1,k2,k3,k5,_,X _ _ ho,.of_isNs (PySem.W.isNs_of_in X hok),PySem.W.nsMap_none_of_in X hok hni,PySem.W.tail_of_in X ht⟩
  .cases q
 .cases q
def aJw(C:Addr)(E:XK)(ta:TA):TS:=λ _ Z H=>ta Z H λ vs H1=>vs.length<=zA0/\E (.ref C) none H1
section
variable{X:Cx}{E:XK}
def aFJ(D:iu X E)(hc:X.calm=true){rest:List Expr}(hm:X.mg x=some (.ref C))(hC:tK X.K C)(hg:Gl X x)
  (ha:PA X (yY::rest) ta)(he:zA4 (yY::rest) X.env=(false,eval yY X.env)::zA4 rest X.env:=by rfl)
  (hplain:(zCs cpos (zA4 rest X.env)).any (·.1)=false:=by rfl)(hd:Nd x:=by decide):
  PS X (.Raise (some (.Call (.Name x np) (yY::rest) [] cpos)) none pos) (aJw C E ta):=by
 intro kK s Z H DD I h;obtain⟨tl,NN,nm,q,bs,hdct,sn,sub,ab,col,dd,k0,k1,k2,k3,k5,mN,hCo,hN,hni,T⟩:=(yt (h:=X.base) I.mod.kin hm hC).obj;have FB:=PySem.F.excBase_ValueError;refine wpAny_Raise_call_subU (C:=C) (nm:=nm) (q:=q) (N:=NN) (bs:=bs) (bm:=tl) (hdct:=hdct) (sn:=sn) (sub:=sub) (ab:=ab) (col:=col) (dd:=dd) (k0:=k0) (k1:=k1) (k2:=k2) (k3:=k3) (k5:=k5)
  FB FB.hasB FB (mN:=mN) (T.hasType FB.hasBase) (I.ok.hd hc) (by rw[he];show(false||(zCs cpos (zA4 rest X.env)).any (·.1))=false;rw[hplain];rfl) hni
  (zF I hg hm ⟨rfl,?_⟩ hd)
 have harg:=ha cpos kK s Z H _ I h;rw[he]at harg ⊢;refine zGx (zB8 harg (λ vs z4 zC=>?_) λ _ _ y=>y);obtain⟨xs,H2,I2,rv,hz,hE⟩:=zC;refine⟨rfl,by show vs.length<=zA0;rw[<-rv.length];exact hz,I2.bk _ _ hCo,hN.keeps I2.bk,T.keeps I2.bk,λ h' ea hx=>D.raise I2 hx hE⟩
end
section
variable{κ:Type}[DecidableEq κ]
def sV(kvs:List (κ×V))(k:κ):Option V:=(kvs.find? λ kv=>decide (kv.1=k)).map (·.2)
def putK(kvs:List (κ×V))(k:κ)(v:V):List (κ×V):=
 if (kvs.any λ kv=>decide (kv.1=k))=true then kvs.map (λ kv=>if kv.1=k then(kv.1,v)else kv)else kvs++[(k,v)]
def uG{p:κ×V}{r:List (κ×V)}{k:κ}(e:p.1=k):sV (p::r) k=some p.2:=by simp[sV,zDW,e]
def uH{p:κ×V}{r:List (κ×V)}{k:κ}(e:¬p.1=k):sV (p::r) k=sV r k:=by simp[sV,zDW,e]
def rP(kvs:List (κ×V))(k:κ)(v:V):(putK kvs k v).length<=kvs.length+1:=by
 unfold putK;split
 .rw[zAE];omega
 .rw[zAV,zA6,zCH];omega
def KV.val{kvs:List (κ×V)}{vs:List (κ×Value)}(r:KV kvs vs)(k:κ):tH (sV kvs k) (zGu vs k):=by
 unfold KV at r;induction r with
 |nil=>exact zDS
 |@cons p q ps qs h t ih=>
  obtain⟨h1,h2⟩:=h;by_cases e:p.1=k
  .have e':q.1=k:=h1.symm.trans e
   have b:zGu (q::qs) k=some q.2:=by simp[zGu,zDW,e']
   rw[uG e,b];exact h2
  .have e':¬q.1=k:=λ z=>e (h1.trans z)
   have b:zGu (q::qs) k=zGu qs k:=by simp[zGu,zDW,e']
   rw[uH e,b];exact ih
theorem KV.any{kvs:List (κ×V)}{vs:List (κ×Value)}(r:KV kvs vs)(k:κ):(kvs.any λ kv=>decide (kv.1=k))=vs.any λ kv=>decide (kv.1=k):=by
 unfold KV at r;induction r with
 |nil=>rfl
 |cons h t ih=>rw[zDy,zDy,ih,h.1]
def KV.repl{kvs:List (κ×V)}{vs:List (κ×Value)}(r:KV kvs vs)(k:κ){y:V}{u:Value}(ry:RelV y u):
  KV (kvs.map λ kv=>if kv.1=k then(kv.1,y)else kv) (vs.map λ kv=>if kv.1=k then(kv.1,u)else kv):=by
 unfold KV at r ⊢;induction r with
 |nil=>exact .nil
 |@cons p q ps qs h t ih=>
  rw[zAG,zAG];refine .cons ?_ ih;obtain⟨h1,h2⟩:=h;by_cases e:p.1=k
  .rw[if_pos e,if_pos (h1.symm.trans e)];exact⟨h1,ry⟩
  .rw[if_neg e,if_neg (λ z=>e (h1.trans z))];exact⟨h1,h2⟩
def KV.put{kvs:List (κ×V)}{vs:List (κ×Value)}(r:KV kvs vs)(k:κ){y:V}{u:Value}(ry:RelV y u):KV (putK kvs k y) (stored vs k u):=by
 unfold putK stored;rw[r.any k];by_cases e:(vs.any λ kv=>decide (kv.1=k))=true
 .rw[if_pos e,if_pos e];exact r.repl k ry
 .rw[if_neg e,if_neg e];exact Paired.snoc r ⟨rfl,ry⟩
theorem KV.length{kvs:List (κ×V)}{vs:List (κ×Value)}(r:KV kvs vs):kvs.length=vs.length:=zG5 r
end
def aFi{P:zA7}{w:World}{k:Key}{u:Value}(r:RelV (kV k) u):(cC P w).is k u=true:=by
 cases k with
 |inl i=>obtain⟨t,e⟩:=(show∃t,u=zED i t from r);subst e;exact aAb P w i t
 |inr x=>obtain⟨t,e⟩:=(show∃t,u=zGo x t from r);subst e;exact aAa P w x t
theorem wg{P:zA7}{w:World}:∀{ks:List Key} {us:List Value},Vals (ks.map kV) us->ItemsAre (cC P w) ks us
 |[],_,r=>by rw[zEr]at r;cases r;exact .nil
 |k::ks,_,r=>by
  rw[zAG]at r;cases r with
  |cons h t=>exact .cons (aFi h) (wg t)
abbrev KT(H:Hp):List (List Key×V)->List (List Key×Addr×Value)->Prop:=zI4 λ p q=>p.1=q.1/\H q.2.1=some (.tup (p.1.map kV))/\RelV p.2 q.2.2
def KT.val{H:Hp}{kvs:List (List Key×V)}{xs:List (List Key×Addr×Value)}(r:KT H kvs xs)(k:List Key):tH (sV kvs k) ((atKey xs k).map (·.2)):=by
 induction r with
 |nil=>exact zDS
 |@cons p q ps qs h t ih=>
  obtain⟨h1,_,h2⟩:=h;by_cases e:p.1=k
  .have e':q.1=k:=h1.symm.trans e
   have b:atKey (q::qs) k=some q.2:=by simp[atKey,zDW,e']
   rw[uG e,b];exact h2
  .have e':¬q.1=k:=λ z=>e (h1.trans z)
   have b:atKey (q::qs) k=atKey qs k:=by simp[atKey,zDW,e']
   rw[uH e,b];exact ih
section
variable{P:zA7}{w:World}{H:Hp}{h:Heap}{a:Addr}
def aJS{u:HO}(ok:HOk P w H h)(e:Rd H a u):bu P w H h a u:=e.ok ok
def aDN{kvs:List (Key×V)}(ok:HOk P w H h)(e:Rd H a (.dK kvs)):kvs.length<=zA0/\(a==zD3)=false/\∃vs,KV kvs vs/\h.DictOf (cC P w) a vs:=
 show bu P w H h a (.dK kvs)from aJS ok e
def aJh{kvs:List (Key×V)}(ok:HOk P w H h)(e:H a=some (.dK kvs)):kvs.length<=zA0/\(a==zD3)=false/\∃vs,KV kvs vs/\h.DictOf (cC P w) a vs:=aDN ok (.inl e)
def aFh{ks:List Key}(ok:HOk P w H h)(e:H a=some (.tup (ks.map kV))):(zIe (cC P w)).is h ks a:=by
 obtain⟨_,its,r,o,h1,h2,n,h3⟩:=(show bu P w H h a (.tup (ks.map kV))from ok a _ e);exact⟨o,its.toArray,n,h1,h2,h3,by simpa using wg r⟩
def aJf{kvs:List (List Key×V)}(ok:HOk P w H h)(e:Rd H a (.dT kvs)):kvs.length<=zA0/\(a==zD3)=false/\
  ∃xs,KT H kvs xs/\h.DictOfH (zIe (cC P w)) a xs:=by
 obtain⟨z,y,xs,r,o,es,ep,h1,h2,h3,h4,h5⟩:=(show bu P w H h a (.dT kvs)from aJS ok e);refine⟨z,y,xs,r,o,es,ep,h1,h2,h3,h4,λ x hx=>?_,h5⟩;have all:∀{l:List (List Key×V)} {m:List (List Key×Addr×Value)},KT H l m->∀x∈m,(zIe (cC P w)).is h x.1 x.2.1:=by
  intro l m q;induction q with
  |nil=>intro x hx;exact nomatch hx
  |@cons p q ps qs hq t ih=>
   intro x hx;rcases zAM.mp hx with e|hx
   .subst e
    exact aFh ok (by rw[<-hq.1];exact hq.2.1)
   .exact ih x hx
 exact all r x hx
end
def aBT(H:Hp)(a:Addr)(y:V)(r:Option V):Prop:=
 (∃kvs k,Rd H a (.dK kvs)/\y=kV k/\r=sV kvs k)\/∃kvs k b,Rd H a (.dT kvs)/\y= .ref b/\H b=some (.tup (k.map kV))/\r=sV kvs k
theorem aBT.k{H:Hp}{a:Addr}{kvs:List (Key×V)}{k:Key}(e:H a=some (.dK kvs)):aBT H a (kV k) (sV kvs k):=.inl ⟨kvs,k,.inl e,rfl,rfl⟩
section
variable{X:Cx}{kK:hV}{Z:St}{H:Hp}{s:zAF}{a:Addr}{y v:V}{u:Value}{o:Option V}{A:zAt}{E:Value->zAF->Prop}
def aDy{Q:Value->zAF->Prop}(hu:A.units+1<cLine)(I:Inv X kK Z H s)(g:aBT H a y (some v))(ry:RelV y u)(h:∀w' s',Inv X kK Z H s'->RelV v w'->Q w' s'):
  wpAny (model X.prog X.w) A (zFB (.ref a) u) Q E s:=by
 rcases g with ⟨kvs,k,e,ey,l⟩|⟨kvs,k,b,e,ey,eb,l⟩
 .subst ey
  obtain⟨z,hd,vs,rel,dd⟩:=aDN I.hok e;obtain⟨w',hw,rw'⟩:=tH.some_of (v:=v) (o:=zGu vs k) (by rw[l];exact rel.val k);exact wpAny_getItem_of (aFi ry) dd.mapOf hw (h w' _ (I.tok _) rw')
 .subst ey
  cases (show u=zB9 b from ry);obtain⟨z,hd,xs,rel,dd⟩:=aJf I.hok e;obtain⟨w',hw,rw'⟩:=tH.some_of (v:=v) (o:=(atKey xs k).map (·.2)) (by rw[l];exact rel.val k);obtain⟨p,hp,hp2⟩:=zCS.mp hw;refine wpAny_getItem_heap (tupleKind_room_in1 hu) (aFh I.hok eb) dd hp ?_;rw[hp2];exact h w' _ (I.tok _) rw'
def aIl{h':Heap}{t':Nat}{ob:HO}(I:Inv X kK Z H s)(mu:Mut (H a))(hs:zEO a s.heap h')(he:∃q,h'.get? a=some q)(new:bu X.prog X.w (upd H a ob) h' a ob):
  Inv X kK Z (upd H a ob) {s with heap:=h',toks:=t'}:=
 I.write (x:=a) (e:=a) mu (.inl rfl) (λ b q hb z=>(hs.2 b hb).trans z) he new
def aL2{P:zA7}{w:World}{H':Hp}{h':Heap}{kvs:List (Key×V)}{vs:List (Key×Value)}(z:kvs.length<=zA0)(hd:(a==zD3)=false)(rel:KV kvs vs)(dd:h'.DictOf (cC P w) a vs):
  bu P w H' h' a (.dK kvs):=⟨z,hd,vs,rel,dd⟩
end
section
variable{X:Cx}{kK:hV}{Z:St}{H:Hp}{s:zAF}{a:Addr}{kvs:List (Key×V)}{A:zAt}{E:Value->zAF->Prop}
def aIm{Q:Bool->zAF->Prop}(I:Inv X kK Z H s)(e:Rd H a (.dK kvs))(h:∀s',Inv X kK Z H s'->Q (!kvs.isEmpty) s'):wpAny (model X.prog X.w) A (truthy (.ref a)) Q E s:=by
 obtain⟨z,hd,vs,rel,dd⟩:=aDN I.hok e;refine zJ5 hd dd (by rw[<-rel.length];rw[zCP]at z;omega) ?_;have q:kvs.isEmpty=vs.isEmpty:=by cases rel<;>rfl
 rw[<-q];exact h _ (I.tok _)
end
def aMd(i:Expr):Prop:=∀ov iv,zGt i false ov iv=operate [ov,iv] (zFB ov iv)
def aHM{prog:zA7}{w:World}{A:zAt}{E:Value->zAF->Prop}{s:zAF}{env:Env}{value slice:Expr}{pos:Pos}{T id:String}{Q:Value->zAF->Prop}
  (hl:zF5 (.type T) "__getitem__"=pure (some (.builtin id)))(hs:aMd slice)
  (h:wpAny (model prog w) A (eval value env) (λ o z0=>wpAny (model prog w) A (eval slice env) (λ i z4=>z4.TypeIs o T/\wpAny (model prog w) A (zFB o i) Q E z4) E z0) E s):
  wpAny (model prog w) A (eval (.Subscript value slice pos) env) Q E s:=by
 refine zH9 (zB8 h (λ o z0 zS=>zB8 zS (λ i z4 zC=>?_) λ _ _ x=>x) λ _ _ x=>x);obtain⟨hT,zC⟩:=zC;unfold zGB;refine zAB ?_;rw[getitemInPython_of_ne hT.not_modules];refine zAB (zGv hT hl ?_);have fin:wpAny (model prog w) A (zGt slice false o i) (λ r zI=>wpAny (model prog w) A (letTemporaryGo value o r>>=λ _=>pure r) Q E zI) E z4:=by
  rw[hs o i];exact wpAny_operating (zB8 zC (λ r zI y6=>zAB (wpAny_letTemporaryGo (zAJ y6))) λ _ _ x=>x)
 first
  |exact zAJ (zAB fin)
  |exact zAB (zAJ (zAB fin))
  |exact zAB fin
def aBG{X:Cx}{kK:hV}{Z:St}{H:Hp}{s:zAF}{a:Addr}{y:V}{o:Option V}(I:Inv X kK Z H s)(g:aBT H a y o):s.TypeIs (.ref a) "dict":=by
 rcases g with ⟨kvs,k,e,_,_⟩|⟨kvs,k,b,e,_,_,_⟩
 .obtain⟨_,_,vs,_,dd⟩:=aDN I.hok e
  exact dd.typeIs
 .obtain⟨_,_,xs,_,dd⟩:=aJf I.hok e
  exact dd.typeIs
def aLk(td ty:TE):TE:=λ Z H Q=>td Z H λ x H1=>ty Z H1 λ y H2=>∃a v,x= .ref a/\aBT H2 a y (some v)/\Q v H2
section
variable{X:Cx}{o i:Expr}{pos:Pos}{td ty:TE}
def aHp(hu:X.A.units+1<cLine)(ho:PE X o td)(hi:PE X i ty)(hs:aMd i):PE X (.Subscript o i pos) (aLk td ty):=by
 intro kK s Z H Q I h;refine aHM PySem.F.slot_dict_getitem.lookup hs (thn (ho kK s Z H _ I h) λ u s1 ⟨x,H1,I1,rx,q1⟩=>thn (hi kK s1 Z H1 _ I1 q1) λ iv s2 ⟨y,H2,I2,ry,a,v,ex,g,q2⟩=>?_);subst ex;obtain rfl:u=zB9 a:=rx;exact⟨aBG I2 g,aDy hu I2 g ry λ w' s3 I3 rw'=>⟨v,H2,I3,rw',q2⟩⟩
end
end L2
namespace Att
open PySem PySem.W PySem.Calls PyProof.Rows
end Att
namespace L2
open PySem PySem.Spec PyProof.Rows
section
variable{κ:Type}[DecidableEq κ]
end
section
variable{X:Cx}
structure aMe(X:Cx)(P:Addr):Prop where
 ta:∃o,X.ta=[(P,o)]
 ex:P∈X.ex
 tq:X.tq=X.env.qual++"<lambda>"
 code:∃c,X.env.code= .ref c/\PySem.W.CodeHd X.base c P
 blt:X.base.BuiltinsAt X.mg P
 gne:zAv≠P
end
abbrev bmV:List Value:=[.type "ValueError",.type "Exception",.type "BaseException",.type "object"]
section
variable{prog:zA7}{w:World}{A:zAt}{E:Value->zAF->Prop}{h:Heap}{g:Array zDw}{d:Drawn}{t:Nat}{os:OsState}{a:Addr}{o:Obj}
 {nm q:Str}{C N:Addr}{bs bm:List Value}{hdct:Bool}{sn:List Str}{sub:List Value}{ab:Bool}{col:Option Bool}{dd:Option Addr}{k0 k1 k2 k3 k5:Option Value}{newId:String}{K:zAA}
def aBJ{R:zFF->zAF->Prop}(hC:h.get? C=some (zGp nm q C N bs bm hdct sn sub ab col dd k0 k1 k2 k3 k5 newId))(T:OwnTail h bmV bm)
  (hx:h.get? a=some o)(hc:o.cls= .ref C)(hq:R (.ok (.ret (.ref C))) ⟨h,g,d,t,os⟩):
  zCf (model prog w) A (.call (.builtin "getset_descriptor.__get__") ⟨[.builtin "object.__class__",.ref a,.ref C],[]⟩) R ⟨h,g,d,t,os⟩:=by
 have hT5:(⟨h,g,d,t,os⟩:zAF).TypeIs (.builtin "object.__class__") "getset_descriptor":=zFJ;have hcB:(zB9 C::bm).contains (.type (".".intercalate ("object.__class__".cutAt '.').dropLast))=true:=by
  rw[F.owner_object_class,zHe,T.hasType (X:="object") (b:=true) (by decide+kernel)];rfl
 refine zF8 zHI.plain F.entry_gs_get (zHI.check _ _ _ _ _ _ _ _ hT5 (F.args_gs_get _ _ _) ?_)
 repeat (any_goals (first|assumption|(with_reducible refine zDu hx ?_;rw[hc])|(with_reducible refine zIx hC ?_;rw[hcB])|wp_step))
 refine⟨zHc _ (by decide+kernel),zDI F.entry_object_class ?_⟩
 repeat (any_goals (first|assumption|(with_reducible refine zDu hx ?_;rw[hc])|wp_step))
def zW{M:Model}{nameV:Value}{Q:Unit->zAF->Prop}(hC:h.get? C=some (zGp nm q C N bs bm hdct sn sub ab col dd k0 k1 k2 k3 k5 newId))(T:OwnTail h bmV bm)
  (hx:h.get? a=some o)(hc:o.cls= .ref C)(hq:Q () ⟨h,g,d,t,os⟩):wpAny M A (zGe "BaseException.__getattribute__" ⟨[.ref a,nameV],[]⟩) Q E ⟨h,g,d,t,os⟩:=by
 have hk:builtinKind "BaseException.__getattribute__"=some .slot:=by decide+kernel
 have eK:splitId "BaseException.__getattribute__"=some ("BaseException","__getattribute__"):=by decide+kernel
 have hcB:(zB9 C::bm).contains (.type "BaseException")=true:=by rw[zHe,T.hasType (X:="BaseException") (b:=true) (by decide+kernel)];rfl
 have ha:=F.args_bexc_ga (.ref a) nameV;simp only[zGe,hk,eK];refine zAB ?_
 .unfold isInstance
  repeat (first|(with_reducible refine zDu hx ?_;rw[hc])|(with_reducible refine zIx hC ?_;rw[hcB])|wp_step)
  exact hq
def wF{tk:Tok}{Q:Fin->zAF->Prop}(hC:h.get? C=some (zGp nm q C N bs bm hdct sn sub ab col dd k0 k1 k2 k3 k5 newId))(T:OwnTail h bmV bm)(lk:∀M:Model,zFK M h (zF5 (.ref C) "__class__") (some (.builtin "object.__class__")))
  (hx:h.get? a=some o)(hc:o.cls= .ref C)(hq:Q (.done (.ret (.ref C))) ⟨h,g,d,t,os⟩):
  wpAny (model prog w) A (zE9.«object.__getattribute__» ⟨[.ref a,.str "__class__" tk],[]⟩) Q E ⟨h,g,d,t,os⟩:=by
 have hT5:(⟨h,g,d,t,os⟩:zAF).TypeIs (.builtin "object.__class__") "getset_descriptor":=zFJ;have f5:=zFJ;have f6:=zHI.lookup;have f7:=F.slot_gs_set.lookup
 repeat (any_goals (first|assumption|(with_reducible refine zDu hx ?_;rw[hc])|with_reducible refine(lk _).here ?_|wp_step))
 refine aBJ hC T hx hc ?_
 repeat (any_goals (first|assumption|wp_step))
def zV{Q:Option Value->zAF->Prop}(hC:h.get? C=some (zGp nm q C N bs bm hdct sn sub ab col dd k0 k1 k2 k3 k5 newId))(T:OwnTail h bmV bm)(lk:∀M:Model,zFK M h (zF5 (.ref C) "__class__") (some (.builtin "object.__class__")))
  (lg:∀M:Model,zFK M h (zF5 (.ref C) "__getattribute__") (some (.builtin "BaseException.__getattribute__")))(ln:∀M:Model,zFK M h (zF5 (.ref C) "__getattr__") none)
  (hx:h.get? a=some o)(hc:o.cls= .ref C)(hq:Q (some (.ref C)) ⟨h,g,d,t+1,os⟩):wpAny (model prog w) A (getAttr? (.ref a) "__class__") Q E ⟨h,g,d,t,os⟩:=by
 have by_exc:∀{E:Value->zAF->Prop} {t:Nat} {tk:Tok} {Q:Value->zAF->Prop},Q (.ref C) ⟨h,g,d,t,os⟩->wpAny (model prog w) A (getAttrBy (.ref a) (.str "__class__" tk) false) Q E ⟨h,g,d,t,os⟩:=by
  intro E t tk Q hq;have FB:=PySem.F.excAttr_ValueError;have f3:=FB.ga.bind (.ref a);have hx0:(false&&onTheHeap (zE3 "BaseException.__getattribute__"))=false:=rfl;have hx2:(zE3 "BaseException.__getattribute__"==zE3 "object.__getattribute__")=false:=by decide+kernel
  have hx1:(onTheHeap (zB9 C)&&zE3 "BaseException.__getattribute__"==zE3 "object.__getattribute__")=false:=by rw[hx2];rfl
  repeat (any_goals (first|assumption|(with_reducible refine zDu hx ?_;rw[hc])|with_reducible refine(lg _).here ?_|with_reducible refine(ln _).here ?_|wp_step))
  refine zF8 FB.ga.plain F.entry_bexc_ga (zW hC T hx hc (wF hC T lk hx hc ?_))
  repeat (any_goals (first|assumption|wp_step))
 unfold getAttr? getAttrBy?
 repeat (any_goals (first|assumption|with_reducible apply by_exc|wp_step))
def aFg(hE:tK K C)(ha:zBu K (.ref C) "__class__"=some (some (.builtin "object.__class__")))(hgt:zBu K (.ref C) "__getattribute__"=some (some (.builtin "BaseException.__getattribute__")))
  (hga:zBu K (.ref C) "__getattr__"=some none):PySem.W.KitX K (.ref a) (.ref C) (λ h=>∃o,h.get? a=some o/\o.cls= .ref C) where
 ty:=λ M h _ ⟨o,h1,h2⟩=>h2▸(zJT h1).andThen .now
 it:=λ M h X _=>by
  obtain⟨bm,NN,nm,q,bs,hdct,sn,sub,ab,col,dd,k0,k1,k2,k3,k5,mN,hC,_⟩:=(yt (h:=h) (mg:=λ _=>some (.ref C)) (x:="x") X rfl hE).obj;intro A' Q' E' s' k q;unfold isType loadHead;exact zAB (wpAny_loadPart (k _ _ hC) (zAJ q))
 ne:=λ h tp dd its n sl X htp=>by
  obtain⟨bm,NN,nm,q,bs,hdct,sn,sub,ab,col,dd,k0,k1,k2,k3,k5,mN,hC,_⟩:=(yt (h:=h) (mg:=λ _=>some (.ref C)) (x:="x") X rfl hE).obj;refine zHv.mpr λ z=>?_
  have e:C=tp:=Value.ref.inj (beq_iff_eq.mp z);subst e;rw[hC]at htp;exact absurd (congrArg Obj.cls (zAh htp)) (by show zBy "type"≠zBy "tuple";decide+kernel)
 ca:=λ{prog w A E Q s} X ⟨o,h1,h2⟩ k=>by
  obtain⟨h,g,d,t,os⟩:=s;obtain⟨bm,NN,nm,q,bs,hdct,sn,sub,ab,col,dd,k0,k1,k2,k3,k5,mN,hC,hN,hni,T⟩:=(yt (h:=h) (mg:=λ _=>some (.ref C)) (x:="x") X rfl hE).obj;exact zV hC T (λ M=>zDg X ha) (λ M=>zDg X hgt) (λ M=>zDg X hga) h1 h2 k
end
def excφ(a C:Addr):Heap->Prop:=λ h=>∃o,h.get? a=some o/\o.cls= .ref C
structure aNE(K:zAA)(C:Addr):Prop where
 ex:tK K C
 ca:zBu K (.ref C) "__class__"=some (some (.builtin "object.__class__"))
 gt:zBu K (.ref C) "__getattribute__"=some (some (.builtin "BaseException.__getattribute__"))
 ga:zBu K (.ref C) "__getattr__"=some none
section
variable{X:Cx}
def aJY(K:zAA):List V->Hp->VK->Prop:=λ xs H Q=>∃a C y c b,xs=[.ref a,y]/\RelV y c/\H a=some (.ext (excφ a C))/\aNE K C/\zEI K (.ref C) c=some b/\Q (.bl b) H
def aEI:cI X (.builtin "isinstance") (aJY X.K):=by
 intro kK s Z H xs us Q I r h;obtain⟨a,C,y,c,b,rfl,ry,ha,kc,e,q⟩:=h;obtain⟨u,w',rfl,r1,r2⟩:=vals2 r;cases r1;have hc:w'=c:=by
  cases y<;>first
   |(cases r2;cases ry;rfl)
   |(obtain⟨t1,rfl⟩:=r2;obtain⟨t2,rfl⟩:=ry;exact absurd e (by simp[zEI,PySem.W.kitCls]))
 subst hc;obtain⟨p,_⟩:excφ a C s.heap/\_:=I.hok a _ ha;exact zB4 (aFg kc.ex kc.ca kc.gt kc.ga) I.kIn p e (λ z=>nomatch z) λ tk=>⟨.bl b,H,I.tok tk,rfl,q⟩
end
structure aMa(k:Nat)(A:zAt):Prop where
 dp:A.depth+3*k+5<zHU
 un:A.units+16*k+200<cLine
structure FnH(P:zA7)(w:World)(K:zAA)(mg:Str->Option Value)(base:Heap)(k:Nat)(f:Addr)(fd:zBA)(ps:List Str)(sp:Sp):Prop where
 len:∀vs H Q E,sp vs H Q E->vs.length=ps.length
 run:∀(A:zAt) (outer:List Env) (s:zAF) (H:Hp) (args:Args) (us:List Value) (vs:List V) (Q:VK) (E:XK),aMa k A->aGs P w K mg base A outer s H->zGL s fd args (ps.zip us)->Vals vs us->sp vs H Q E->
  zCf (model P w) A (.call (.ref f) args) (CR CX0 outer P w H s Q E) s
def aMp(K:zAA)(c:V):TE:=tCB (aJY K) (iy (uK 0) (iy (tC c) sZ))
section
variable{X:Cx}{n0 n1 n2 odd:Str}{c1 c2:V}{k1 k2 k3 k4:List V}{l1 l2:List Str}{a1 a2:Expr}{as1 as2 e1 e2 e3 e4 w1 w2:List Expr}{kw1 kw2:List zCy}{Q:VK}{H:Hp}{vs:List V}
 {p1 p2 p3 p4 p5 p6 p7 p8 p9 p10 p11 p12 p13 p14 p15 p16 p17 p18 p19 p20 p21 p22 p23 p24 p25 p26 p27 p28 p29 p30 p31 p32 p33 p34 p35 p36 p37 p38 p39 p40:Pos}{q1 q2 q3 q4 q5 q6 q7:Pos}{j1 j2 j3 j4 j5:Nat}{E0:XK}{wd:Addr->Option Str}
end
structure za(d:Nat)(e tg iter:Expr)(ifs:List Expr)(body:Env->Addr->Sem Unit):Prop where
 under:∀(A:zAt) (it:Value) (D:Addr) (env:Env),A.under (.compLoop e d it (.ref D) env)=A
 den:∀(prog:zA7) (w:World) (it:Value) (D:Addr) (env:Env),(model prog w).den (.compLoop e d it (.ref D) env)=(compTurn e d it (.ref D) env).onRaise (λ x=>do noteFrame x env;theTreesLotGoes x)
 turn:∀(it:Value) (D:Addr) (env:Env),compTurn e d it (.ref D) env=(do
   zHs iter.pos
   match <-zGA it with
   |none=>pure (.done .next)
   |some v=>
    zDb tg it v
    zFU tg env v
    let mut ok:=true
    for c in ifs do if ok then ok <-isTrue c env (eval c env)
    if ok then
     body env D
    again (.compLoop e d it (.ref D) env))
section
variable{s:zAF}{A:zAt}{prog:zA7}{w:World}{R:zFF->zAF->Prop}
def zU{D:Addr}(hb:za d e tg iter ifs body)(I:Nat->zAF->Prop)
  (one:∀n s,I n s->wpAny (model prog w) A (zGA it) (λ r z0=>match r with
   |none=>R (.ok .next) z0
   |some v=>wpAny (model prog w) A (zDb tg it v) (λ _ z0=>wpAny (model prog w) A (zFU tg env v) (λ _ z4=>
     wpAny (model prog w) A (forIn ifs true λ c r=>if r=true then do let ok <-isTrue c env (eval c env);pure (zBi ok)else pure (zBi r)) (λ ok zI=>if ok=true then wpAny (model prog w) A (body env D) (λ _ s₅=>∃m,m<n/\I m s₅) (λ _ _=>False) zI
      else∃m,m<n/\I m zI) (λ _ _=>False) z4) (λ _ _=>False) z0) (λ _ _=>False) z0) (λ _ _=>False) s)
  (n:Nat)(h:I n s):zCf (model prog w) A (.compLoop e d it (.ref D) env) R s:=by
 refine codeAny_loop rfl I (λ n s hJ=>?_) n h;rw[hb.under,hb.den];refine wpAny_noted ?_;rw[hb.turn];refine zAB (zFE (zAB (zB8 (one n s hJ) (λ r z0 zS=>?_) λ _ _ h'=>h'.elim)));cases r with
 |none=>exact zAJ zS
 |some v=>
  refine zAB (zB8 zS (λ _ z0 zS=>?_) λ _ _ h'=>h'.elim);refine zAB (zB8 zS (λ _ z4 zC=>zAB (zB8 zC (λ ok zI y6=>?_) λ _ _ h'=>h'.elim)) λ _ _ h'=>h'.elim);cases ok with
  |false=>exact zAJ (And.intro rfl y6)
  |true=>exact zAB (zB8 y6 (λ _ y7 h₄=>zAJ ⟨rfl,h₄⟩) λ _ _ h'=>h'.elim)
end
def zb(d:Nat)(e:Expr):Prop:=∀{prog:zA7} {w:World} {A:zAt} {R:zFF->zAF->Prop} {s:zAF} {it acc:Value} {env:Env},
  zCf (model prog w) A (.compLoop e d it acc env) R s->
  wpAny (model prog w) A (zHa it) (λ it' s'=>zCf (model prog w) A (.compLoop e d it' acc env) R s') (notedBy (model prog w) A env λ x s'=>R (.error x) s') s->
  zCf (model prog w) A (.compStart e d it acc env) R s
structure aGt(prog:zA7)(w:World)(mk:Sem Value)(obs:Obj->Prop)(o:Addr->HO):Prop where
 make:∀{A:zAt} {Q:Value->zAF->Prop} {E:Value->zAF->Prop} {s:zAF},(∀ob,obs ob->Q (.ref s.heap.objs.size) {s with heap:=s.heap.push ob})->wpAny (model prog w) A mk Q E s
 live:∀ob,obs ob->ob.isFreed=false
 ok:∀{H:Hp} {h:Heap} {a:Addr} {ob:Obj},obs ob->h.get? a=some ob->zD3<a->bu prog w H h a (o a)
def PB(X:Cx)(body:Env->Addr->Sem Unit)(tb:Addr->St->Hp->(Hp->Prop)->Prop):Prop:=
 ∀(D:Addr) (kK:hV) (s:zAF) (Z:St) (H:Hp) (Q:Hp->Prop),Inv X kK Z H s->tb D Z H Q->wpAny (model X.prog X.w) X.A (body X.env D) (λ _ s'=>∃H',Inv X kK Z H' s'/\Q H') X.xe s
def aMy(I:Inv X kK Z H s):zD3<s.heap.objs.size:=
 zEx (by decide) (I.mod.glob.keeps I.bk).lt
def aLl(o:Addr->HO)(wi:TI)(st:St->St)(g:TG)(tt:TT)(tb:Addr->St->Hp->(Hp->Prop)->Prop):TE:=λ Z H Q=>wi Z H λ J H1=>∀l,H1 l=none->∃W:Nat->Nat->Hp->Prop,(∃m,W 0 m (upd H1 l (o l)))/\
 ∀i m H2,W i m H2->((J.stop i H2/\Q (.ref l) H2)\/(J.go i H2/\∀x H3,J.yld i H2 x H3->g x (st Z) H3 λ Z4 H4=>tt Z4 H4 λ ok H5=>
  if ok=true then tb l Z4 H5 λ H6=>∃m',m'<m/\W (i+1) m' H6 else∃m',m'<m/\W (i+1) m' H5))
section
variable{X:Cx}{e tg iter:Expr}{ifs:List Expr}{scope:Scope}{N:List Str}{st:St->St}{ks:List Nat}{wi:TI}{g:TG}{tt:TT}{body:Env->Addr->Sem Unit}{tb:Addr->St->Hp->(Hp->Prop)->Prop}{pos:Pos}{mk:Sem Value}{obs:Obj->Prop}{o:Addr->HO}
def aG6(B:dD X scope N st ks)(hc:X.calm=true)(hT:za 0 e tg iter ifs body)(hS:zb 0 e)(hA:aGt X.prog X.w mk obs o)(hg:∀C fp z5 z3,PG (X.block scope C N fp z5 z3) tg g)(hgo:qK g ks)(ht:∀C fp z5 z3,aBQ (X.block scope C N fp z5 z3) ifs tt)
  (he:∀C fp z5 z3,PB (X.block scope C N fp z5 z3) body tb){Q:VK}{RR:Value->Addr->zFF->zAF->Prop}
  (I:Inv X kK Z H1 z4)(T:Turn X.prog X.w X.K tg J fp it tn)(h0:tn 0 z4.heap)(hfp:∀b∈fp,rA X kK H1 b)
  (h:∀l,H1 l=none->∃W:Nat->Nat->Hp->Prop,(∃m,W 0 m (upd H1 l (o l)))/\
   ∀i m H2,W i m H2->((J.stop i H2/\Q (.ref l) H2)\/(J.go i H2/\∀x H3,J.yld i H2 x H3->g x (st Z) H3 λ Z4 H4=>tt Z4 H4 λ ok H5=>
    if ok=true then tb l Z4 H5 λ H6=>∃m',m'<m/\W (i+1) m' H6 else∃m',m'<m/\W (i+1) m' H5)))
  (hRR:∀D C H' s',(∃Z',Inv (X.block scope C N fp z4 H1) [] Z' H' s')->z4.heap.objs.size<=C->Q (.ref D) H'->RR (.ref D) C (.ok .next) s'):
  wpAny (model X.prog X.w) X.A mk (λ acc zI=>wpAny (model X.prog X.w) X.A (zFe scope X.env.globals (bY scope X.env) [] X.env.qual none .none (some X.env)) (λ cenv y7=>
   zCf (model X.prog X.w) X.A (.compStart e 0 (.ref it) acc {cenv with scope:=zGW scope X.env}) (RR acc cenv.locals) y7) E zI) E z4:=by
 refine hA.make λ ob hob=>aCt λ zS y9 zD y8=>?_
 dsimp only at y9 zD y8 ⊢;generalize hH2:z4.heap.push ob=P2 at y9 zD y8 ⊢;have hC:P2.objs.size=z4.heap.objs.size+1:=by rw[<-hH2,zBe]
 have hDC:z4.heap.objs.size≠P2.objs.size:=by rw[hC];exact zAc (zBf _)
 have pV:z4.heap.objs.size<=P2.objs.size:=by rw[hC];exact zFR _
 have old:∀b o,z4.heap.get? b=some o->zS.get? b=some o:=λ b o e=>zD b o (hH2▸zAD _ e)
 have aE:zS.get? z4.heap.objs.size=some ob:=zD _ _ (hH2▸zAY _ (hA.live ob hob));generalize hCe:P2.objs.size=C at y9 zD y8 hDC pV hC ⊢;have hHD:H1 z4.heap.objs.size=none:=I.hok.fresh (zAW _);have I0:Inv (X.block scope C N fp z4 H1) [] (st Z) (upd H1 z4.heap.objs.size (o z4.heap.objs.size)) {z4 with heap:=zS,toks:=z4.toks}:=
  I.block B hfp (λ b hb=>by obtain⟨o,e,_⟩:=T.obj 0 _ h0 b hb;exact⟨o,e⟩) (zAW _) pV hDC old y9 y8 (λ c hc=>zAc (zIC pV hc)) (hA.ok hob aE (aMy I))
 obtain⟨W,⟨m0,w0⟩,step⟩:=h _ hHD;have h01:tn 0 zS:=T.keep 0 _ _ h0 λ b _ o e=>old b o e
 have aT:∀{H':Hp},(∀b∈fp,H' b=none)->∀b∈fp,rA (X.block scope C N fp z4 H1) [] H' b:=λ{H'} hn b hb=>
  ⟨hn b hb,(I0.ok.exf b hb).1,I0.ok.exfs b hb,.inl hb,λ x c e=>(I0.ok.exf b hb).2 x c e,λ p hp=>absurd (show p∈([]:hV)from hp) (by simp)⟩
 have fr0:∀b∈fp,upd H1 z4.heap.objs.size (o z4.heap.objs.size) b=none:=λ b hb=>by
  obtain⟨o,e,_⟩:=T.obj 0 _ h0 b hb;rw[bF (zAc (zA1 e))];exact(hfp b hb).1
 have loop:∀sx:zAF,sx={z4 with heap:=zS,toks:=z4.toks}->
   zCf (model X.prog X.w) X.A (.compLoop e 0 (.ref it) (.ref z4.heap.objs.size) (X.block scope C N fp z4 H1).env) (RR (.ref z4.heap.objs.size) C) sx:=by
  rintro sx rfl;refine zU hT (λ n s'=>∃i H2,Inv (X.block scope C N fp z4 H1) [] (st Z) H2 s'/\tn i s'.heap/\(∀b∈fp,H2 b=none)/\W i n H2) ?_ m0 ⟨0,_,I0,h01,fr0,w0⟩;rintro n s3 ⟨i,H2,I2,st2,fr2,w2⟩;rcases step i n H2 w2 with ⟨stop,q⟩|⟨go,nxt⟩
  .refine thn (T.done (X.block scope C N fp z4 H1) rfl rfl rfl hc i [] s3 (st Z) H2 _ I2 (aT fr2) st2 stop) λ r s4 ⟨hr,I4⟩=>?_
   subst hr;exact hRR _ C H2 s4 ⟨_,I4⟩ pV q
  .refine thn (T.item (X.block scope C N fp z4 H1) rfl rfl rfl hc i [] s3 (st Z) H2 _ I2 (aT fr2) st2 go) λ r s4 ⟨u,hr,h4⟩=>?_
   subst hr;refine thn h4 λ _ s5 ⟨x,H5,I5,r5,y5,st5,fr5⟩=>?_
   have I5p:=I5.pinned (aT fr5) (T.obj _ _ st5);refine thn (hg C fp z4 H1 _ s5 (st Z) H5 x u _ I5p r5 (hgo _ _ _ _ (nxt x H5 y5))) λ _ s6 ⟨Z6,H6,I6,q6,aIQ,ag6⟩=>?_
   refine thn (ht C fp z4 H1 _ s6 Z6 H6 _ I6 q6) λ ok s7 ⟨H7,I7,q7⟩=>?_
   have again:∀{H9:Hp} {s9:zAF},Inv (X.block scope C N fp z4 H1) ([]++qe fp s5.heap) Z6 H9 s9->(∃m',m'<n/\W (i+1) m' H9)->
     ∃m,m<n/\∃i H2,Inv (X.block scope C N fp z4 H1) [] (st Z) H2 s9/\tn i s9.heap/\(∀b∈fp,H2 b=none)/\W i m H2:=λ{H9 s9} I9 ⟨m',hm,w9⟩=>by
    have dS:∀b∈fp,∀o,s5.heap.get? b=some o->s9.heap.get? b=some o/\H9 b=none:=λ b hb o e=>by
     have z:=I9.pin (b,o) (zAi _ (zAi _ (jz hb e)));exact⟨z.1,z.2.1⟩
    refine⟨m',hm,i+1,H9,I9.unpinned.weak (by rw[aIQ]) (λ k v e=>?_),T.keep _ _ _ st5 λ b hb o e=>(dS b hb o e).1,λ b hb=>?_,w9⟩
    .have hk:k<(st Z).length:=(zAI.mp e).1
     have hkN:k<N.length:=by rw[<-B.len Z];exact hk
     obtain⟨_,hks,_⟩:=B.val Z k _ v (zAC hkN) e;rw[ag6 k hks];exact e
    .obtain⟨o,e,_⟩:=T.obj _ _ st5 b hb
     exact(dS b hb o e).2
   cases ok with
   |false=>
    rw[if_neg zAS]at q7 ⊢;exact again I7 q7
   |true=>
    rw[if_pos rfl]at q7 ⊢;exact thn (he C fp z4 H1 _ _ s7 Z6 H7 _ I7 q7) λ _ s8 ⟨H8,I8,q8⟩=>again I8 q8
 exact hS (loop _ rfl) (T.self X.A 0 _ _ _ h01 (loop _ rfl))
def aFH(hN:X.N.Nodup)(hx1:X.N[i]? =some x)(hx2:Loc X.env.scope x)(B:dD X scope N st ks)(hc:X.calm=true)(hi:PI X tg iter wi)(hg:∀C fp z5 z3,PG (X.block scope C N fp z5 z3) tg g)(hgo:qK g ks)
  (ht:∀C fp z5 z3,aBQ (X.block scope C N fp z5 z3) ifs tt)(hT:za 0 e tg iter ifs body)(hS:zb 0 e)(hA:aGt X.prog X.w mk obs o)(he:∀C fp z5 z3,PB (X.block scope C N fp z5 z3) body tb)(hsw:zCt e (some (.Name x pos')) spos.line X.env=pure true)
  (hcs:clausesOf e=⟨tg,iter,ifs,0⟩::gs)(hev:∀use,evalThenUse e X.env use=(do let _ <-comprehension e scope X.env (firstIterPos (⟨tg,iter,ifs,0⟩::gs) pos) mk false (eval iter X.env) (some use)))(hs:∀x,zCI iter X.env x=pure x:=by intro _;rfl)(hf:X.fn x=true\/X.env.scope.names.lookup x=some .local:=by first|exact .inl rfl|exact .inr rfl|assumption):
  PS X (.Assign [.Name x pos'] e spos) (aE4 (aLl o wi st g tt tb) (nW i)):=by
 intro kK s Z H D I h;have hcl:zGU scope X.env=pure (bY scope X.env):=jT λ y hy hk=>I.ok.has _ (B.free y hy hk)
 rw[zIa _ _ _ _ hsw];refine zAB (zFE (zAB ?_));rw[hev];refine zAB (zB8 (zEl (use:=some (zFU (.Name x pos') X.env)) (Q:=λ _ s'=>SP X kK D .next s') hcs hs hcl B.kind B.loc (thn (hi kK s Z H _ I h) λ v s1 h1=>thn h1 λ itv s2 h2=>?_)) (λ _ s' hq=>zAJ (zAJ hq)) λ _ _ e=>e);obtain⟨it,fp,tn,J,H2,e,I2,T,st2,f2,hq⟩:=h2;subst e;refine aG6 (Q:=λ x H1=>nW i x Z H1 D.nx) (RR:=λ acc C=>compPost (model X.prog X.w) X.A X.xe (some (zFU (.Name x pos') X.env)) (λ _ s'=>SP X kK D .next s') acc C) B hc hT hS hA hg hgo ht he I2 T st2 f2 hq ?_;intro DD C H' s' hJ pV q;have I3:=z8 I2 f2 hJ;obtain⟨Z',J'⟩:=hJ;obtain⟨m,hn,_⟩:=id J'.loc;have hHC:H' C=none:=J'.free;have neL:C≠X.env.locals:=zCz (zA8 I2.lt pV);have neC:∀x c,X.env.cells.lookup x=some c->c≠C:=λ x c e z=>by obtain⟨v,ic⟩:=I2.cell x c e;exact absurd (zA8 ic.lt (by rw[z];exact pV)) (zBo _)
 show wpAny _ _ (zFU (.Name x pos') X.env (.ref DD)) _ _ _;refine zGY ?_;refine qM I3 hN hx1 hx2 (show RelV (.ref DD) (.ref DD)from rfl) (λ s4 I4 ⟨a,hsa,ha⟩=>?_) hf;have nea:C≠a:=by
  rcases ha with z|z
  .rw[z];exact neL
  .exact zE1 (neC _ _ z)
 refine⟨m,hn.sameBut hsa nea,λ h'' hs''=>⟨_,H',?_,q⟩⟩;exact I4.turned (t':=s4.toks) (λ b o ne e=>(hs''.2 b ne).trans e) hHC neL (.inr (zBB I2.sz pV)) neC
  (λ p hp z=>absurd (zA8 (I2.pinL hp) (by rw[z];exact pV)) (zBo _))
end
def v5(kx vx:Expr)(env:Env)(D:Addr):Sem Unit:=do
 let kv <-eval kx env;let vv <-zDa [kv] (eval vx env);zHs {kx.pos with endLine:=vx.pos.endLine,endCol:=vx.pos.endCol}
 zDa [kv,vv] (dictSet D kv vv)
def aDV(kx vx tg iter:Expr)(ifs:List Expr)(scope:Scope)(pos:Pos):za 0 (.DictComp kx vx [⟨tg,iter,ifs,0⟩] scope pos) tg iter ifs (v5 kx vx):=
 ⟨λ _ _ _ _=>rfl,λ _ _ _ _ _=>rfl,λ _ _ _=>rfl⟩
def aBY(kx vx tg iter:Expr)(ifs:List Expr)(scope:Scope)(pos:Pos):zb 0 (.DictComp kx vx [⟨tg,iter,ifs,0⟩] scope pos):=λ h0 h=>codeAny_compStart_dict h0 h
end L2
namespace VL
open PySem PySem.Spec PyProof.Rows L2
inductive D where
 |non|bl (b:Bool)|int (i:Int)|str (x:Str)|tup (l:List D)|lst (l:List D)|dct (ks vs:List D)|set (l:List Int)|scr (l:List Int)|fn (x:Str)
instance:Inhabited D:=⟨.non⟩
def kD:Key->D
 | .inl i=>.int i
 | .inr x=>.str x
variable{K:zAA}
def mK(K:zAA)(H:Hp)(a:Addr)(ns:List Int):Prop:=(∃o,H a=some (.frz o (.lst (ns.map V.int))))\/
 ∃(o:Obj) (its:Array Value) (n:Nat),K.lookup a=some o/\o.cls= .type "list"/\o.dict=none/\o.data= .seq its n/\its.size<=zA0/\Vals (ns.map V.int) its.toList
def mK.sq(h:mK K H a ns):SqL K H a (ns.map V.int):=by
 rcases h with h|h
 .exact .inl (.inr h)
 .exact .inr h
def hsh(ns:List Int):Int:=reduceHash (zJM (ns.map hashInt))
def dxO(a:Addr)(es:List (List Int×Addr×V)):HO:=.ext λ h=>es.length<=zA0/\(a==zD3)=false/\∃(xs:List (List Int×Addr×Value)) (o:Obj) (ts:Array DictEntry) (ep:Nat),zI4 (λ e x=>e.1=x.1/\e.2.1=x.2.1/\RelV e.2.2 x.2.2) es xs/\
 h.get? a=some o/\o.ExactDict/\o.data= .dict ts ep/\ts.toList=xs.map λ x=>⟨hsh x.1,.ref x.2.1,x.2.2⟩
structure DxK(K:zAA)(H:Hp)(a:Addr)(es:List (List Int×Addr×V)):Prop where
 at_:H a=some (dxO a es)
 ks:∀e∈es,SqT K H e.2.1 (e.1.map V.int)
 nd:(es.map (·.1)).Nodup
mutual
inductive Rp(K:zAA):(Addr->Prop)->Hp->V->D->Prop where
 |non {A:Addr->Prop} {H:Hp}:Rp K A H .non .non
 |bl {A:Addr->Prop} {H:Hp} (b:Bool):Rp K A H (.bl b) (.bl b)
 |int {A:Addr->Prop} {H:Hp} (i:Int):Rp K A H (.int i) (.int i)
 |str {A:Addr->Prop} {H:Hp} (x:Str):Rp K A H (.str x) (.str x)
 |tup {A:Addr->Prop} {H:Hp} {a:Addr} {xs:List V} {ds:List D} (h:SqT K H a xs) (r:Rps K A H xs ds):Rp K A H (.ref a) (.tup ds)
 |lst {A:Addr->Prop} {H:Hp} {a:Addr} {xs:List V} {ds:List D} (h:H a=some (.lst xs)) (m:A a) (r:Rps K (λ p=>A p/\p≠a) H xs ds):Rp K A H (.ref a) (.lst ds)
 |dK {A:Addr->Prop} {H:Hp} {a:Addr} {kvs:List (Key×V)} {ds:List D} (h:H a=some (.dK kvs)) (m:A a) (r:Rps K (λ p=>A p/\p≠a) H (kvs.map (·.2)) ds):Rp K A H (.ref a) (.dct (kvs.map λ p=>kD p.1) ds)
 |dT {A:Addr->Prop} {H:Hp} {a:Addr} {es:List (List Int×Addr×V)} {ds:List D} (h:DxK K H a es) (m:A a) (r:Rps K (λ p=>A p/\p≠a) H (es.map (·.2.2)) ds):Rp K A H (.ref a) (.dct (.non::es.map λ e=>.tup (e.1.map .int)) ds)
 |set {A:Addr->Prop} {H:Hp} {a:Addr} {S:Int->Bool} {l:List Int} (h:H a=some (.set S l.length)) (m:A a) (hS:∀i,S i=decide (i∈l)) (nd:l.Nodup):Rp K A H (.ref a) (.set l)
 |scr {A:Addr->Prop} {H:Hp} {a:Addr} {ns:List Int} (h:mK K H a ns):Rp K A H (.ref a) (.scr ns)
 |fn {A:Addr->Prop} {H:Hp} {a:Addr} {x:Str} (h:zB0 K zAv x=some (some (.ref a))):Rp K A H (.ref a) (.fn x)
inductive Rps(K:zAA):(Addr->Prop)->Hp->List V->List D->Prop where
 |nil {A:Addr->Prop} {H:Hp}:Rps K A H [] []
 |cons {A:Addr->Prop} {H:Hp} {x:V} {d:D} {xs:List V} {ds:List D} (h:Rp K A H x d) (r:Rps K A H xs ds):Rps K A H (x::xs) (d::ds)
end
def mK.mono(s:aQ H H')(h:mK K H a ns):mK K H' a ns:=by
 rcases h with ⟨o,h⟩|h
 .exact .inl ⟨o,s _ _ h⟩
 .exact .inr h
def DxK.mono(h:DxK K H a es)(s:aQ H H'):DxK K H' a es:=⟨s _ _ h.at_,λ e he=>s.sqt (h.ks e he),h.nd⟩
def Rp.mono'(s:aQ H H')(r:Rp K A H x d)(hA:∀p o,H p=some o->A p->A' p):Rp K A' H' x d:=
 Rp.rec (motive_1:=λ A H x d _=>∀H',aQ H H'->∀A':Addr->Prop,(∀p o,H p=some o->A p->A' p)->Rp K A' H' x d) (motive_2:=λ A H xs ds _=>∀H',aQ H H'->∀A':Addr->Prop,(∀p o,H p=some o->A p->A' p)->Rps K A' H' xs ds)
  (λ _ _ _ _=>.non) (λ b _ _ _ _=>.bl b) (λ i _ _ _ _=>.int i) (λ x _ _ _ _=>.str x) (λ h _ ih _ s _ hA=>.tup (s.sqt h) (ih _ s _ hA))
  (λ h m _ ih _ s _ hA=>.lst (s _ _ h) (hA _ _ h m) (ih _ s _ λ p o e z=>⟨hA p o e z.1,z.2⟩)) (λ h m _ ih _ s _ hA=>.dK (s _ _ h) (hA _ _ h m) (ih _ s _ λ p o e z=>⟨hA p o e z.1,z.2⟩))
  (λ h m _ ih _ s _ hA=>.dT (h.mono s) (hA _ _ h.at_ m) (ih _ s _ λ p o e z=>⟨hA p o e z.1,z.2⟩)) (λ h m hS nd _ s _ hA=>.set (s _ _ h) (hA _ _ h m) hS nd) (λ h _ s _ _=>.scr (h.mono s)) (λ h _ _ _ _=>.fn h) (λ _ _ _ _=>.nil) (λ _ _ ih ir _ s _ hA=>.cons (ih _ s _ hA) (ir _ s _ hA)) r H' s A' hA
def Rps.mono'(s:aQ H H')(r:Rps K A H xs ds)(hA:∀p o,H p=some o->A p->A' p):Rps K A' H' xs ds:=
 Rps.rec (motive_1:=λ A H x d _=>∀H',aQ H H'->∀A':Addr->Prop,(∀p o,H p=some o->A p->A' p)->Rp K A' H' x d) (motive_2:=λ A H xs ds _=>∀H',aQ H H'->∀A':Addr->Prop,(∀p o,H p=some o->A p->A' p)->Rps K A' H' xs ds)
  (λ _ _ _ _=>.non) (λ b _ _ _ _=>.bl b) (λ i _ _ _ _=>.int i) (λ x _ _ _ _=>.str x) (λ h _ ih _ s _ hA=>.tup (s.sqt h) (ih _ s _ hA))
  (λ h m _ ih _ s _ hA=>.lst (s _ _ h) (hA _ _ h m) (ih _ s _ λ p o e z=>⟨hA p o e z.1,z.2⟩)) (λ h m _ ih _ s _ hA=>.dK (s _ _ h) (hA _ _ h m) (ih _ s _ λ p o e z=>⟨hA p o e z.1,z.2⟩))
  (λ h m _ ih _ s _ hA=>.dT (h.mono s) (hA _ _ h.at_ m) (ih _ s _ λ p o e z=>⟨hA p o e z.1,z.2⟩)) (λ h m hS nd _ s _ hA=>.set (s _ _ h) (hA _ _ h m) hS nd) (λ h _ s _ _=>.scr (h.mono s)) (λ h _ _ _ _=>.fn h) (λ _ _ _ _=>.nil) (λ _ _ ih ir _ s _ hA=>.cons (ih _ s _ hA) (ir _ s _ hA)) r H' s A' hA
def Rp.mono(s:aQ H H')(hA:∀p o,H p=some o->A p->A' p)(r:Rp K A H x d):Rp K A' H' x d:=r.mono' s hA
def Rps.mono(s:aQ H H')(hA:∀p o,H p=some o->A p->A' p)(r:Rps K A H x d):Rps K A' H' x d:=r.mono' s hA
def Rp.up(s:aQ H H')(r:Rp K A H x d):Rp K A H' x d:=r.mono s λ _ _ _ h=>h
def Rp.wk(hA:∀p o,H p=some o->A p->A' p)(r:Rp K A H x d):Rp K A' H x d:=r.mono (aQ.refl H) hA
def Rps.up(s:aQ H H')(r:Rps K A H x d):Rps K A H' x d:=r.mono s λ _ _ _ h=>h
def Rps.wk(hA:∀p o,H p=some o->A p->A' p)(r:Rps K A H x d):Rps K A' H x d:=r.mono (aQ.refl H) hA
def jC:HO->Bool
 | .lst _=>true| .dK _=>true| .dT _=>true| .set _ _=>true| .ext _=>true|_=>false
def yJ(s:jo l H H')(hl:H l=some o)(ho:jC o=true)(h:SqT K H a xs):SqT K H' a xs:=by
 rcases h with (h|⟨u,h⟩)|h
 .refine .inl (.inl (s _ _ (λ e=>?_) h))
  subst e;rw[hl]at h;cases h;cases ho
 .refine .inl (.inr ⟨u,s _ _ (λ e=>?_) h⟩)
  subst e;rw[hl]at h;cases h;cases ho
 .exact .inr h
def aCe(s:jo l H H')(hl:H l=some o)(ho:jC o=true)(h:mK K H a ns):mK K H' a ns:=by
 rcases h with ⟨u,h⟩|h
 .exact .inl ⟨u,s _ _ (λ e=>by subst e;rw[hl]at h;cases h;cases ho) h⟩
 .exact .inr h
def DxK.but(h:DxK K H a es)(s:jo l H H')(hl:H l=some o)(ho:jC o=true)(ne:a≠l):DxK K H' a es:=
 ⟨s _ _ ne h.at_,λ e he=>yJ s hl ho (h.ks e he),h.nd⟩
def Rp.but'(s:jo l H H')(hl:H l=some o)(ho:jC o=true)(r:Rp K A H x d)(hA:¬A l):Rp K A H' x d:=
 Rp.rec (motive_1:=λ A H x d _=>∀H',jo l H H'->∀o:HO,H l=some o->jC o=true->¬A l->Rp K A H' x d) (motive_2:=λ A H xs ds _=>∀H',jo l H H'->∀o:HO,H l=some o->jC o=true->¬A l->Rps K A H' xs ds)
  (λ _ _ _ _ _ _=>.non) (λ b _ _ _ _ _ _=>.bl b) (λ i _ _ _ _ _ _=>.int i) (λ x _ _ _ _ _ _=>.str x) (λ h _ ih _ s o hl ho hA=>.tup (yJ s hl ho h) (ih _ s o hl ho hA))
  (λ h m _ ih _ s o hl ho hA=>.lst (s _ _ (λ e=>hA (e▸m)) h) m (ih _ s o hl ho λ z=>hA z.1)) (λ h m _ ih _ s o hl ho hA=>.dK (s _ _ (λ e=>hA (e▸m)) h) m (ih _ s o hl ho λ z=>hA z.1))
  (λ h m _ ih _ s o hl ho hA=>.dT (h.but s hl ho λ e=>hA (e▸m)) m (ih _ s o hl ho λ z=>hA z.1)) (λ h m hS nd _ s o hl ho hA=>.set (s _ _ (λ e=>hA (e▸m)) h) m hS nd) (λ h _ s o hl ho _=>.scr (aCe s hl ho h)) (λ h _ _ _ _ _ _=>.fn h) (λ _ _ _ _ _ _=>.nil) (λ _ _ ih ir _ s o hl ho hA=>.cons (ih _ s o hl ho hA) (ir _ s o hl ho hA)) r H' s o hl ho hA
def Rps.but'(s:jo l H H')(hl:H l=some o)(ho:jC o=true)(r:Rps K A H xs ds)(hA:¬A l):Rps K A H' xs ds:=
 Rps.rec (motive_1:=λ A H x d _=>∀H',jo l H H'->∀o:HO,H l=some o->jC o=true->¬A l->Rp K A H' x d) (motive_2:=λ A H xs ds _=>∀H',jo l H H'->∀o:HO,H l=some o->jC o=true->¬A l->Rps K A H' xs ds)
  (λ _ _ _ _ _ _=>.non) (λ b _ _ _ _ _ _=>.bl b) (λ i _ _ _ _ _ _=>.int i) (λ x _ _ _ _ _ _=>.str x) (λ h _ ih _ s o hl ho hA=>.tup (yJ s hl ho h) (ih _ s o hl ho hA))
  (λ h m _ ih _ s o hl ho hA=>.lst (s _ _ (λ e=>hA (e▸m)) h) m (ih _ s o hl ho λ z=>hA z.1)) (λ h m _ ih _ s o hl ho hA=>.dK (s _ _ (λ e=>hA (e▸m)) h) m (ih _ s o hl ho λ z=>hA z.1))
  (λ h m _ ih _ s o hl ho hA=>.dT (h.but s hl ho λ e=>hA (e▸m)) m (ih _ s o hl ho λ z=>hA z.1)) (λ h m hS nd _ s o hl ho hA=>.set (s _ _ (λ e=>hA (e▸m)) h) m hS nd) (λ h _ s o hl ho _=>.scr (aCe s hl ho h)) (λ h _ _ _ _ _ _=>.fn h) (λ _ _ _ _ _ _=>.nil) (λ _ _ ih ir _ s o hl ho hA=>.cons (ih _ s o hl ho hA) (ir _ s o hl ho hA)) r H' s o hl ho hA
def Rp.but(s:jo l H H')(hl:H l=some o)(ho:jC o=true)(hA:¬A l)(r:Rp K A H x d):Rp K A H' x d:=r.but' s hl ho hA
def Rps.but(s:jo l H H')(hl:H l=some o)(ho:jC o=true)(hA:¬A l)(r:Rps K A H x d):Rps K A H' x d:=r.but' s hl ho hA
mutual
def imm:D->Bool
 | .tup l=>mz l
 | .lst _=>false
 | .dct _ _=>false
 | .set _=>false
 |_=>true
def mz:List D->Bool
 |[]=>true
 |d::r=>imm d&&mz r
end
def mX(e:mz (d::r)=true):imm d=true/\mz r=true:=by
 simp only[mz,zAa]at e;exact e
def aDC(e:imm (.tup l)=true):mz l=true:=by simpa[imm]using e
def aDF(e:imm (.lst l)=true):False:=by simp[imm]at e
def tW(e:imm (.dct l k)=true):False:=by simp[imm]at e
def aDD(e:imm (.set l)=true):False:=by simp[imm]at e
def Rp.imm'(r:Rp K A H x d)(e:VL.imm d=true):Rp K A' H x d:=
 Rp.rec (motive_1:=λ _ H x d _=>VL.imm d=true->Rp K A' H x d) (motive_2:=λ _ H xs ds _=>mz ds=true->Rps K A' H xs ds)
  (λ _=>.non) (λ b _=>.bl b) (λ i _=>.int i) (λ x _=>.str x) (λ h _ ih e=>.tup h (ih (aDC e)))
  (λ _ _ _ _ e=>(aDF e).elim) (λ _ _ _ _ e=>(tW e).elim) (λ _ _ _ _ e=>(tW e).elim) (λ _ _ _ _ e=>(aDD e).elim) (λ h _=>.scr h) (λ h _=>.fn h) (λ _=>.nil) (λ _ _ ih ir e=>.cons (ih (mX e).1) (ir (mX e).2)) r e
def Rps.imm'(r:Rps K A H xs ds)(e:mz ds=true):Rps K A' H xs ds:=
 Rps.rec (motive_1:=λ _ H x d _=>VL.imm d=true->Rp K A' H x d) (motive_2:=λ _ H xs ds _=>mz ds=true->Rps K A' H xs ds)
  (λ _=>.non) (λ b _=>.bl b) (λ i _=>.int i) (λ x _=>.str x) (λ h _ ih e=>.tup h (ih (aDC e)))
  (λ _ _ _ _ e=>(aDF e).elim) (λ _ _ _ _ e=>(tW e).elim) (λ _ _ _ _ e=>(tW e).elim) (λ _ _ _ _ e=>(aDD e).elim) (λ h _=>.scr h) (λ h _=>.fn h) (λ _=>.nil) (λ _ _ ih ir e=>.cons (ih (mX e).1) (ir (mX e).2)) r e
theorem Rp.imm(r:Rp K A H x d)(h:VL.imm d=true):Rp K A' H x d:=r.imm' h
def Rps.imm(r:Rps K A H x d)(h:mz d=true):Rps K A' H x d:=r.imm' h
def Rp.int_inv(r:Rp K A H v (.int i)):v= .int i:=by cases r;rfl
def Rp.tup_inv(r:Rp K A H v (.tup ds)):∃a xs,v= .ref a/\SqT K H a xs/\Rps K A H xs ds:=by cases r with|tup h r=>exact⟨_,_,rfl,h,r⟩
def Rp.lst_inv(r:Rp K A H v (.lst ds)):∃a xs,v= .ref a/\H a=some (.lst xs)/\A a/\Rps K (λ p=>A p/\p≠a) H xs ds:=by cases r with|lst h m r=>exact⟨_,_,rfl,h,m,r⟩
def Rp.scr_inv(r:Rp K A H v (.scr ns)):∃a,v= .ref a/\mK K H a ns:=by cases r with|scr h=>exact⟨_,rfl,h⟩
def Rps.one_inv(r:Rps K A H vs [d]):∃v,vs=[v]/\Rp K A H v d:=by cases r with|cons h r=>cases r;exact⟨_,rfl,h⟩
section
variable{A:Addr->Prop}{H:Hp}
theorem Rps.length:∀{xs:List V} {ds:List D},Rps K A H xs ds->xs.length=ds.length:=by
 intro xs ds h;induction xs generalizing ds with
 |nil=>cases h;rfl
 |cons x xs ih=>cases h with|cons _ r=>exact congrArg (·+1) (ih r)
theorem Rps.get:∀{xs:List V} {ds:List D} {i:Nat} {x:V},Rps K A H xs ds->xs[i]? =some x->∃d,ds[i]? =some d/\Rp K A H x d
 |_,_,_,_,.nil,e=>by simp at e
 |_,_,0,_,.cons h _,e=>by simp at e;subst e;exact⟨_,rfl,h⟩
 |_,_,i+1,x,.cons _ r,e=>by
  obtain⟨d,h1,h2⟩:=Rps.get (i:=i) (x:=x) r (by simpa using e);exact⟨d,by simpa using h1,h2⟩
theorem Rps.getD:∀{xs:List V} {ds:List D} {i:Nat} {d:D},Rps K A H xs ds->ds[i]? =some d->∃x,xs[i]? =some x/\Rp K A H x d
 |_,_,_,_,.nil,e=>by simp at e
 |_,_,0,_,.cons h _,e=>by simp at e;subst e;exact⟨_,rfl,h⟩
 |_,_,i+1,d,.cons _ r,e=>by
  obtain⟨x,h1,h2⟩:=Rps.getD (i:=i) (d:=d) r (by simpa using e);exact⟨x,by simpa using h1,h2⟩
def Rps.append:∀{xs ys:List V} {ds es:List D},Rps K A H xs ds->Rps K A H ys es->Rps K A H (xs++ys) (ds++es):=by
 intro xs ys ds es h s;induction xs generalizing ds with
 |nil=>cases h;exact s
 |cons x xs ih=>cases h with|cons h r=>exact .cons h (ih r)
theorem Rps.take:∀{xs:List V} {ds:List D} (n:Nat),Rps K A H xs ds->Rps K A H (xs.take n) (ds.take n)
 |_,_,0,_=>.nil
 |_,_,_+1,.nil=>.nil
 |_,_,n+1,.cons h r=>.cons h (Rps.take n r)
theorem Rps.drop:∀{xs:List V} {ds:List D} (n:Nat),Rps K A H xs ds->Rps K A H (xs.drop n) (ds.drop n)
 |_,_,0,r=>r
 |_,_,_+1,.nil=>.nil
 |_,_,n+1,.cons _ r=>Rps.drop n r
theorem Rps.reverse:∀{xs:List V} {ds:List D},Rps K A H xs ds->Rps K A H xs.reverse ds.reverse:=by
 intro xs ds h;induction xs generalizing ds with
 |nil=>cases h;exact .nil
 |cons x xs ih=>
  cases h with
  |cons h r=>
   rw[zD5,zD5];exact Rps.append (ih r) (.cons h .nil)
theorem Rps.set(h:Rp K A H x d):∀{xs:List V} {ds:List D} (n:Nat),Rps K A H xs ds->Rps K A H (xs.set n x) (ds.set n d)
 |_,_,_,.nil=>.nil
 |_,_,0,.cons _ r=>.cons h r
 |_,_,n+1,.cons k r=>.cons k (Rps.set h n r)
theorem Rps.ints:∀{ns:List Int},Rps K A H (ns.map V.int) (ns.map D.int)
 |[]=>.nil
 |n::ns=>.cons (.int n) Rps.ints
theorem Rps.ints_of:∀{xs:List V} {ns:List Int},Rps K A H xs (ns.map D.int)->xs=ns.map V.int
 |_,[],.nil=>rfl
 |_,n::ns,.cons h r=>by
  cases h;rw[zAG,Rps.ints_of r]
end
def aN(h:a=b):a=b:=h
inductive Rs(α:Type) where
 |ok (a:α)|ex (c:Str)|st
noncomputable def Rs.bd{α β:Type}:Rs α->(α->Rs β)->Rs β
 | .ok a,f=>f a
 | .ex c,_=>.ex c
 | .st,_=>.st
@[simp] def aO(a:α)(f:α->Rs β):(Rs.ok a).bd f=f a:=aN rfl
def cG{r:Rs α}(h:r.bd f= .ok b):∃a,r= .ok a/\f a= .ok b:=by
 cases r with
 |ok a=>exact⟨a,rfl,h⟩
 |ex c=>cases h
 |st=>cases h
abbrev eL:=List (List D)
inductive Slot where
 |no|sh (d:D)|nw (d:D)|ow (d:D)|oz (d:D)|o2 (l:eL)
abbrev En:=List Slot
abbrev Lab:=Addr->Nat×Nat
abbrev Mode:=Option (List Nat)
def inM(m:Mode)(n:Nat):Prop:=match m with
 |none=>True
 |some L=>n∈L
def jn:Mode->Mode->Mode
 |some a,some b=>some (a++b)
 |_,_=>none
def aMV(h:inM a n):inM (jn a b) n:=by
 cases a with
 |none=>cases b<;>exact trivial
 |some L=>
  cases b with
  |none=>exact trivial
  |some M=>exact zBP _ h
def aMU(h:inM b n):inM (jn a b) n:=by
 cases a with
 |none=>cases b<;>exact trivial
 |some L=>
  cases b with
  |none=>exact trivial
  |some M=>exact zAi _ h
def fpM(m:Mode)(lab:Lab)(H:Hp):Addr->Prop:=λ p=>H p=none\/inM m (lab p).1
def aGO(h:fpM a lab H p):fpM (jn a b) lab H p:=h.imp id aMV
def aGN(h:fpM b lab H p):fpM (jn a b) lab H p:=h.imp id aMU
def mD(s:aQ H H')(h:fpM m lab H' p):fpM m lab H p:=h.imp (λ z=>s.free z) id
structure Gx where
 H0:Hp
 E:XK
 cl:Str->Addr
def aDg:D->Bool
 | .lst _=>true
 | .dct _ _=>true
 | .set _=>true
 |_=>false
def fV(K:zAA)(H:Hp)(lab:Lab)(i:Nat)(v:V):Slot->Prop
 | .no=>True
 | .sh d=>Rp K (λ p=>(lab p).1<=1) H v d
 | .nw d=>Rp K (λ p=>(lab p).1=1) H v d
 | .ow d=>Rp K (λ p=>(lab p).1=1\/(lab p).1=i+2) H v d/\(aDg d=true->∃a,v= .ref a/\(lab a).1=i+2)
 | .oz d=>∃a xs ds,v= .ref a/\d= .lst ds/\H a=some (.lst xs)/\(lab a).1=i+2/\Rps K (λ p=>(lab p).1<=1) H xs ds
 | .o2 l=>∃a xs,v= .ref a/\H a=some (.lst xs)/\lab a=(i+2,0)/\xs.length=l.length/\∀(j:Nat) x ds,xs[j]? =some x->l[j]? =some ds->Rp K (λ p=>lab p=(i+2,j+1)) H x (.lst ds)
structure RR(K:zAA)(G:Gx)(U:List (V×D))(ρ:En)(Z:L2.St)(H:Hp)(lab:Lab):Prop where
 len:Z.length=ρ.length
 sl:∀(i:Nat) (s:Slot),ρ[i]? =some s->s= .no\/∃v,Z[i]? =some (some v)/\fV K H lab i v s
 old:aQ G.H0 H
 new:∀p,(lab p).1≠0->G.H0 p=none
 tm:∀q∈U,Rp K (λ p=>(lab p).1<=1) H q.1 q.2
theorem fV.up(s:aQ H H')(h:fV K H lab i v x):fV K H' lab i v x:=by
 cases x with
 |no=>exact trivial
 |sh d=>exact Rp.up s h
 |nw d=>exact Rp.up s h
 |ow d=>exact⟨Rp.up s h.1,h.2⟩
 |oz d=>
  obtain⟨a,xs,ds,e1,e2,e3,e4,e5⟩:=h;exact⟨a,xs,ds,e1,e2,s _ _ e3,e4,e5.up s⟩
 |o2 l=>
  obtain⟨a,xs,e1,e2,e3,e4,e5⟩:=h;exact⟨a,xs,e1,s _ _ e2,e3,e4,λ j x ds f1 f2=>(e5 j x ds f1 f2).up s⟩
def aEn(r:Rp K A H (.ref a) d)(hm:aDg d=true):∃o,H a=some o/\jC o=true/\A a:=by
 cases r with
 |lst h m _=>exact⟨_,h,rfl,m⟩
 |dK h m _=>exact⟨_,h,rfl,m⟩
 |dT h m _=>exact⟨_,h.at_,rfl,m⟩
 |set h m _ _=>exact⟨_,h,rfl,m⟩
 |tup _ _=>cases hm
 |scr _=>cases hm
 |fn _=>cases hm
def aKJ(r:Rp K A H v d)(hm:aDg d=true):∃a,v= .ref a:=by
 cases r with
 |lst h m _=>exact⟨_,rfl⟩
 |dK h m _=>exact⟨_,rfl⟩
 |dT h m _=>exact⟨_,rfl⟩
 |set h m _ _=>exact⟨_,rfl⟩
 |_=>cases hm
theorem fV.lab{lab lab':Lab}(hl:∀p o,H p=some o->lab' p=lab p)(h:fV K H lab i v x):fV K H lab' i v x:=by
 cases x with
 |no=>exact trivial
 |sh d=>exact Rp.wk (λ p o e q=>(hl p o e).symm▸q) h
 |nw d=>exact Rp.wk (λ p o e q=>(hl p o e).symm▸q) h
 |ow d=>
  obtain⟨h,t⟩:=h;refine⟨Rp.wk (λ p o e q=>(hl p o e).symm▸q) h,λ m=>?_⟩;obtain⟨a,rfl,ea⟩:=t m;obtain⟨o,ho,_⟩:=aEn h m;exact⟨a,rfl,(congrArg (·.1) (hl a o ho)).trans ea⟩
 |oz d=>
  obtain⟨a,xs,ds,e1,e2,e3,e4,e5⟩:=h;exact⟨a,xs,ds,e1,e2,e3,(congrArg (·.1) (hl _ _ e3)).trans e4,Rps.wk (λ p o e q=>(hl p o e).symm▸q) e5⟩
 |o2 l=>
  obtain⟨a,xs,e1,e2,e3,e4,e5⟩:=h;exact⟨a,xs,e1,e2,(hl _ _ e2).trans e3,e4,λ j x ds f1 f2=>Rp.wk (λ p o e q=>(hl p o e).symm▸q) (e5 j x ds f1 f2)⟩
section
variable{G:Gx}{U:List (V×D)}{ρ:En}{Z:L2.St}{H H':Hp}{lab lab':Lab}
theorem RR.up(R:RR K G U ρ Z H lab)(s:aQ H H'):RR K G U ρ Z H' lab:=
 ⟨R.len,λ i x e=>(R.sl i x e).imp id λ⟨v,e1,e2⟩=>⟨v,e1,e2.up s⟩,R.old.trans s,R.new,λ q hq=>(R.tm q hq).up s⟩
def RR.relab(R:RR K G U ρ Z H lab)(hl:∀p o,H p=some o->lab' p=lab p)(hn:∀p,(lab' p).1≠0->G.H0 p=none):RR K G U ρ Z H lab':=
 ⟨R.len,λ i x e=>(R.sl i x e).imp id λ⟨v,e1,e2⟩=>⟨v,e1,e2.lab hl⟩,R.old,hn,λ q hq=>Rp.wk (λ p o e z=>by rw[hl p o e];exact z) (R.tm q hq)⟩
def RR.drop(R:RR K G (U'++U) ρ Z H lab):RR K G U ρ Z H lab:=⟨R.len,R.sl,R.old,R.new,λ z hz=>R.tm z (zAi _ hz)⟩
def RR.put(R:RR K G U ρ Z H lab)(h:fV K H lab i v s):RR K G U (ρ.set i s) (Z.set i (some v)) H lab:=by
 refine⟨by rw[zBL,zBL,R.len],λ j x e=>?_,R.old,R.new,R.tm⟩;by_cases hj:i=j
 .subst hj
  have hi:i<ρ.length:=by
   have:=(zAI.mp e).1
   rwa [zBL]at this
  rw[zBm hi]at e;cases e;exact .inr ⟨v,by rw[zBm (by rw[R.len];exact hi)],h⟩
 .rw[zBj hj]at e
  rcases R.sl j x e with z|⟨u,e1,e2⟩
  .exact .inl z
  .exact .inr ⟨u,by rw[zBj hj];exact e1,e2⟩
def bw(H:Hp)(n:Nat)(lab:Lab):Lab:=λ p=>match H p with
 |none=>(n,0)
 |some _=>lab p
def bI(h:H p=some o):bw H n lab p=lab p:=by unfold bw;rw[h]
def uq(h:H p=none):bw H n lab p=(n,0):=by unfold bw;rw[h]
def RR.fresh{P:Nat->Prop}(h1:P 1)(hm:∀k,inM m k->P k)(R:RR K G U ρ Z H lab)(s:aQ H H')(r:Rp K (fpM m lab H) H' v d):
  RR K G U ρ Z H' (bw H 1 lab)/\Rp K (λ p=>P (bw H 1 lab p).1) H' v d:=by
 refine⟨(R.relab (λ p o e=>bI e) λ p hp=>?_).up s,Rp.wk (λ p o e z=>?_) r⟩
 .cases e:H p with
  |none=>exact R.old.free e
  |some o=>rw[bI e]at hp;exact R.new p hp
 .rcases z with z|z
  .rw[uq z];exact h1
  .cases e:H p with
   |none=>rw[uq e];exact h1
   |some o=>rw[bI e];exact hm _ z
def RR.freshO(i:Nat)(hm:∀k,inM m k->k=1\/k=i+2)(R:RR K G U ρ Z H lab)(s:aQ H H')(r:Rp K (fpM m lab H) H' v d)(ht:aDg d=true->∃a,v= .ref a/\H a=none):
  ∃lab',RR K G U ρ Z H' lab'/\fV K H' lab' i v (.ow d):=by
 obtain⟨R',r'⟩:=R.fresh (P:=λ k=>k=1\/k=i+2) (.inl rfl) hm s r;cases hd:aDg d with
 |false=>exact⟨_,R',r',λ z=>absurd z (by simp[hd])⟩
 |true=>
  obtain⟨a,rfl,ha⟩:=ht hd;refine⟨λ p=>if p=a then(i+2,0)else bw H 1 lab p,?_,Rp.wk (λ p o e z=>?_) r',λ _=>⟨a,rfl,by show(if a=a then((i+2,0):Nat×Nat)else bw H 1 lab a).1=i+2;rw[if_pos rfl]⟩⟩
  .refine(R.relab (lab':=λ p=>if p=a then(i+2,0)else bw H 1 lab p) (λ p o e=>?_) λ p hp=>?_).up s
   .rw[if_neg (λ z=>by subst z;rw[ha]at e;cases e),bI e]
   .by_cases z:p=a
    .subst z;exact R.old.free ha
    .rw[if_neg z]at hp;exact R'.new p hp
  .dsimp only
   by_cases q:p=a
   .rw[if_pos q];exact .inr rfl
   .rw[if_neg q];exact z
def aJ6(h:fV K H lab i v (.oz d)):Rp K (λ p=>(lab p).1<=1\/(lab p).1=i+2) H v d:=by
 obtain⟨a,xs,ds,rfl,rfl,h1,h2,h3⟩:=h;exact .lst h1 (.inr h2) (h3.wk λ p o e z=>⟨.inl z,λ q=>by subst q;lia⟩)
end
structure Ct where
 ι:Type
 X:ι->Cx
 prog:zA7
 w:World
 K:zAA
 mg:Str->Option Value
 base:Heap
 k:Nat
 G:Gx
 cx:∀i,(X i).prog=prog/\(X i).w=w/\(X i).K=K/\(X i).mg=mg/\(X i).base=base
 calm:∀i,(X i).calm=true
 room:∀i,iw k (X i).A
 own:∀i,zI5 (model (X i).prog (X i).w) (X i).A (X i).env (X i).xe
 pass:∀i,zc (CX1 (X i).prog (X i).w) (X i) G.E
 dOk:Bool
 dcx:dOk=true->∀i,iu (X i) G.E
def Ct.hK(C:Ct)(i:C.ι):(C.X i).K=C.K:=(C.cx i).2.2.1
def WR{α:Type}(G:Gx)(r:Rs α)(P:α->Prop):Prop:=match r with
 | .ok a=>P a
 | .ex c=>∀H',aQ G.H0 H'->G.E (.ref (G.cl c)) none H'
 | .st=>False
theorem WR.bd(h:WR G (r.bd k) P):WR G r (λ a=>WR G (k a) P):=by
 cases r with
 |ok a=>exact h
 |ex c=>exact h
 |st=>exact h
def WR.imp(h:WR G r P)(f:∀a,r= .ok a->P a->P' a):WR G r P':=by
 cases r with
 |ok a=>exact f a rfl h
 |ex c=>exact h
 |st=>exact h
abbrev QE(K:zAA)(m:Mode)(lab:Lab)(H:Hp)(Q:VK):D->Prop:=λ d=>∀v H',aQ H H'->Rp K (fpM m lab H) H' v d->Q v H'
abbrev QA(K:zAA)(m:Mode)(lab:Lab)(H:Hp)(Q:List V->Hp->Prop):List D->Prop:=λ ds=>∀vs H',aQ H H'->Rps K (fpM m lab H) H' vs ds->Q vs H'
abbrev QT(H:Hp)(Q:Bool->Hp->Prop):Bool->Prop:=λ b=>∀H',aQ H H'->Q b H'
def gJ(K:zAA)(G:Gx)(m:Mode)(t:TE)(f:En->Rs D):Prop:=∀U Z H ρ lab (Q:VK),RR K G U ρ Z H lab->WR G (f ρ) (QE K m lab H Q)->t Z H Q
def aIz(K:zAA)(G:Gx)(m:Mode)(t:TA)(f:En->Rs (List D)):Prop:=∀U Z H ρ lab (Q:List V->Hp->Prop),RR K G U ρ Z H lab->WR G (f ρ) (QA K m lab H Q)->t Z H Q
def aC2(K:zAA)(G:Gx)(t:TT)(f:En->Rs Bool):Prop:=∀U Z H ρ lab (Q:Bool->Hp->Prop),RR K G U ρ Z H lab->WR G (f ρ) (QT H Q)->t Z H Q
def SE(C:Ct)(m:Mode)(e:Expr)(f:En->Rs D):Prop:=∃t,(∀i,PE (C.X i) e t)/\gJ C.K C.G m t f
def SA(C:Ct)(m:Mode)(es:List Expr)(f:En->Rs (List D)):Prop:=∃t,(∀i,PA (C.X i) es t)/\aIz C.K C.G m t f
def ST(C:Ct)(e:Expr)(f:En->Rs Bool):Prop:=∃t,(∀i,PT (C.X i) e t)/\aC2 C.K C.G t f
def SW(C:Ct)(e:Expr)(f:En->Rs Bool):Prop:=∃t,(∀i,PW (C.X i) e t)/\aC2 C.K C.G t f
def SW.st(h:SW C e f):ST C e f:=let⟨t,h1,h2⟩:=h;⟨t,λ i=>(h1 i).pt,h2⟩
def cM(i:Nat):En->Rs D:=λ ρ=>match ρ[i]? with
 |some (.sh d)=>.ok d
 |some (.nw d)=>.ok d
 |some (.ow d)=>.ok d
 |some (.oz d)=>.ok d
 |some (.o2 l)=>.ok (.lst (l.map .lst))
 |_=>.st
def aC(i:Nat):En->Rs D:=λ ρ=>match ρ[i]? with
 |some (.sh d)=>.ok d
 |some (.nw d)=>.ok d
 |_=>.st
def dM(i:Nat):En->Rs D:=λ ρ=>match ρ[i]? with
 |some (.nw d)=>.ok d
 |_=>.st
def uF(i:Nat):En->Rs D:=λ ρ=>match ρ[i]? with
 |some (.ow d)=>.ok d
 |some (.o2 l)=>.ok (.lst (l.map .lst))
 |_=>.st
def cD(d:D):En->Rs D:=λ _=>.ok d
def aF2{K:zAA}{H:Hp}{lab:Lab}{i:Nat}{v:V}{l:eL}(h:fV K H lab i v (.o2 l)):Rp K (λ p=>(lab p).1=i+2) H v (.lst (l.map .lst)):=by
 obtain⟨a,xs,rfl,ha,hla,oQ,hin⟩:=h;refine .lst ha (by rw[hla]) ?_;have go:∀(xs:List V) (l:eL) (n:Nat),xs.length=l.length->0<n->(∀(j:Nat) x ds,xs[j]? =some x->l[j]? =some ds->Rp K (λ p=>lab p=(i+2,n+j)) H x (.lst ds))->Rps K (λ p=>(lab p).1=i+2/\p≠a) H xs (l.map .lst):=by
  intro xs;induction xs with
  |nil=>intro l n hl _ _;cases l with|nil=>exact .nil|cons _ _=>simp at hl
  |cons x xs ih=>
   intro l n hl hn h;cases l with
   |nil=>simp at hl
   |cons ds l=>
    refine .cons (Rp.wk (λ p o e z=>⟨by rw[z],λ e=>by rw[e,hla]at z;have z2:(0:Nat)=n+0:=congrArg zHl z;lia⟩) (h 0 x ds rfl rfl)) (ih l (n+1) (by simpa using hl) (by lia) λ j y es e1 e2=>?_);have z:=h (j+1) y es (by simpa using e1) (by simpa using e2);rw[show n+1+j=n+(j+1)by lia];exact z
 exact go xs l 1 oQ (by lia) λ j x ds e1 e2=>by have z:=hin j x ds e1 e2;rw[show 1+j=j+1 by lia];exact z
section
variable{C:Ct}{pos:Pos}
def aHS(K:zAA)(G:Gx)(i:Nat):gJ K G (some [0,1,i+2]) (uK i) (cM i):=by
 intro U Z H ρ lab Q R W;unfold cM at W;cases e:ρ[i]? with
 |none=>rw[e]at W;exact W.elim
 |some s=>
  rw[e]at W;rcases R.sl i s e with rfl|⟨v,ev,hv⟩
  .exact zAU W
  .cases s with
   |no=>exact zAU W
   |sh d=>exact⟨v,ev,W v H (aQ.refl H) (Rp.wk (λ p o e z=>.inr (by show(lab p).1∈[0,1,i+2];rcases(show(lab p).1=0\/(lab p).1=1 by lia)with q|q<;>rw[q]<;>simp)) hv)⟩
   |nw d=>exact⟨v,ev,W v H (aQ.refl H) (Rp.wk (λ p o e z=>.inr (by show(lab p).1∈[0,1,i+2];rw[z];simp)) hv)⟩
   |ow d=>exact⟨v,ev,W v H (aQ.refl H) (Rp.wk (λ p o e z=>.inr (by show(lab p).1∈[0,1,i+2];rcases z with q|q<;>rw[q]<;>simp)) hv.1)⟩
   |oz d=>exact⟨v,ev,W v H (aQ.refl H) (Rp.wk (λ p o e z=>.inr (by show(lab p).1∈[0,1,i+2];rcases(show(lab p).1=0\/(lab p).1=1\/(lab p).1=i+2 by lia)with q|q|q<;>rw[q]<;>simp)) (aJ6 hv))⟩
   |o2 l=>exact⟨v,ev,W v H (aQ.refl H) (Rp.wk (λ p o e z=>.inr (by show(lab p).1∈[0,1,i+2];rw[z];simp)) (aF2 hv))⟩
def aE9(K:zAA)(G:Gx)(i:Nat):gJ K G (some [0,1]) (uK i) (aC i):=by
 intro U Z H ρ lab Q R W;unfold aC at W;cases e:ρ[i]? with
 |none=>rw[e]at W;exact W.elim
 |some s=>
  rw[e]at W;rcases R.sl i s e with rfl|⟨v,ev,hv⟩
  .exact zAU W
  .cases s with
   |sh d=>exact⟨v,ev,W v H (aQ.refl H) (Rp.wk (λ p o e z=>.inr (by show(lab p).1∈[0,1];rcases(show(lab p).1=0\/(lab p).1=1 by lia)with q|q<;>rw[q]<;>simp)) hv)⟩
   |nw d=>exact⟨v,ev,W v H (aQ.refl H) (Rp.wk (λ p o e z=>.inr (by show(lab p).1∈[0,1];rw[z];simp)) hv)⟩
   |_=>exact zAU W
def aEb(K:zAA)(G:Gx)(i:Nat):gJ K G (some [1]) (uK i) (dM i):=by
 intro U Z H ρ lab Q R W;unfold dM at W;cases e:ρ[i]? with
 |none=>rw[e]at W;exact W.elim
 |some s=>
  rw[e]at W;rcases R.sl i s e with rfl|⟨v,ev,hv⟩
  .exact zAU W
  .cases s with
   |nw d=>exact⟨v,ev,W v H (aQ.refl H) (Rp.wk (λ p o e z=>.inr (by show(lab p).1∈[1];rw[z];simp)) hv)⟩
   |_=>exact zAU W
def aEa(K:zAA)(G:Gx)(i:Nat):gJ K G (some [1,i+2]) (uK i) (uF i):=by
 intro U Z H ρ lab Q R W;unfold uF at W;cases e:ρ[i]? with
 |none=>rw[e]at W;exact W.elim
 |some s=>
  rw[e]at W;rcases R.sl i s e with rfl|⟨v,ev,hv⟩
  .exact zAU W
  .cases s with
   |ow d=>exact⟨v,ev,W v H (aQ.refl H) (Rp.wk (λ p o e z=>.inr (by show(lab p).1∈[1,i+2];rcases z with q|q<;>rw[q]<;>simp)) hv.1)⟩
   |o2 l=>exact⟨v,ev,W v H (aQ.refl H) (Rp.wk (λ p o e z=>.inr (by show(lab p).1∈[1,i+2];rw[z];simp)) (aF2 hv))⟩
   |_=>exact zAU W
def gM(i:Nat)(hN:∀j,(C.X j).N[i]? =some x:=by intro _;rfl)(hv:∀j,Vis (C.X j).env.scope x:=by intro _;first|exact zDE rfl|exact zCT (zDE rfl)|exact zCT (zCT rfl))(hd:Nd x:=by decide)
  (hcd:(x==("__classdict__":Str))=false:=by decide):SE C (some [0,1,i+2]) (.Name x pos) (cM i):=⟨_,λ j=>jP (hN j) (hv j) hd hcd,aHS _ _ i⟩
def aA(i:Nat)(hN:∀j,(C.X j).N[i]? =some x:=by intro _;rfl)(hv:∀j,Vis (C.X j).env.scope x:=by intro _;first|exact zDE rfl|exact zCT (zDE rfl)|exact zCT (zCT rfl))(hd:Nd x:=by decide)
  (hcd:(x==("__classdict__":Str))=false:=by decide):SE C (some [0,1]) (.Name x pos) (aC i):=⟨_,λ j=>jP (hN j) (hv j) hd hcd,aE9 _ _ i⟩
def fZ(i:Nat)(hN:∀j,(C.X j).N[i]? =some x:=by intro _;rfl)(hv:∀j,Vis (C.X j).env.scope x:=by intro _;first|exact zDE rfl|exact zCT (zDE rfl)|exact zCT (zCT rfl))(hd:Nd x:=by decide)
  (hcd:(x==("__classdict__":Str))=false:=by decide):SE C (some [1]) (.Name x pos) (dM i):=⟨_,λ j=>jP (hN j) (hv j) hd hcd,aEb _ _ i⟩
def pI(i:Nat)(hN:∀j,(C.X j).N[i]? =some x:=by intro _;rfl)(hv:∀j,Vis (C.X j).env.scope x:=by intro _;first|exact zDE rfl|exact zCT (zDE rfl)|exact zCT (zCT rfl))(hd:Nd x:=by decide)
  (hcd:(x==("__classdict__":Str))=false:=by decide):SE C (some [1,i+2]) (.Name x pos) (uF i):=⟨_,λ j=>jP (hN j) (hv j) hd hcd,aEa _ _ i⟩
def aF:SE C (some []) (.Constant (.int i) j pos) (cD (.int i)):=⟨_,λ _=>aFO,λ U Z H ρ lab Q R W=>W _ H (aQ.refl H) (.int i)⟩
def nO:SE C (some []) (.Constant (.bool b) j pos) (cD (.bl b)):=⟨_,λ _=>aMG,λ U Z H ρ lab Q R W=>W _ H (aQ.refl H) (.bl b)⟩
def lQ:SE C (some []) (.Constant .none j pos) (cD .non):=⟨_,λ _=>aK3,λ U Z H ρ lab Q R W=>W _ H (aQ.refl H) .non⟩
def aKC:SE C (some []) (.Constant (.str x) j pos) (cD (.str x)):=⟨_,λ _=>aK0,λ U Z H ρ lab Q R W=>W _ H (aQ.refl H) (.str x)⟩
def aH4(hm:C.mg x=some u)(r:RelV v u)(hd:∀A H,Rp C.K A H v d)(hdb:Nd x:=by decide)(hg:∀i,Gl (C.X i) x:=by intro _;rfl):SE C (some []) (.Name x pos) (cD d):=
 ⟨_,λ i=>aHo (hg i) (by rw[(C.cx i).2.2.2.1];exact hm) r hdb,λ U Z H ρ lab Q R W=>W _ H (aQ.refl H) (hd _ _)⟩
def aCT(d:D):Rs D:=if imm d=true then .ok d else .st
def bK(f:En->Rs D):En->Rs D:=λ ρ=>(f ρ).bd aCT
def bV(h:SE C m e f):SE C (some []) e (bK f):=by
 obtain⟨t,h1,h2⟩:=h;refine⟨t,h1,λ U Z H ρ lab Q R W=>h2 U Z H ρ lab Q R (W.bd.imp λ d _ w v H' s r=>?_)⟩;unfold aCT at w;by_cases hd:imm d=true
 .rw[if_pos hd]at w
  exact w v H' s (r.imm hd)
 .rw[if_neg hd]at w
  exact zAU w
def aJ:En->Rs (List D):=λ _=>.ok []
def aB(f:En->Rs D)(g:En->Rs (List D)):En->Rs (List D):=λ ρ=>(f ρ).bd λ d=>(g ρ).bd λ ds=>.ok (d::ds)
variable{m m1 m2:Mode}{e a b:Expr}{es:List Expr}{f fa fb:En->Rs D}{g:En->Rs (List D)}
def aH:SA C (some []) [] aJ:=⟨_,λ _=>gQ,λ U Z H ρ lab Q R W=>W _ H (aQ.refl H) .nil⟩
def aD(h:SE C m1 e f)(hr:SA C m2 es g)(hs:∀i,zA4 (e::es) (C.X i).env=(false,eval e (C.X i).env)::zA4 es (C.X i).env:=by intro _;rfl):SA C (jn m1 m2) (e::es) (aB f g):=by
 obtain⟨t,h1,h2⟩:=h;obtain⟨u,k1,k2⟩:=hr;refine⟨_,λ i=>cj (h1 i) (k1 i) (hs i),λ U Z H ρ lab Q R W=>?_⟩;refine h2 U Z H ρ lab _ R (W.bd.imp λ d _ w x H1 s1 r1=>?_);refine k2 U Z H1 ρ lab _ (R.up s1) (w.bd.imp λ ds _ w xs H2 s2 r2=>?_);exact w (x::xs) H2 (s1.trans s2) (.cons (r1.mono s2 λ p o _ z=>aGO z) (r2.wk λ p o _ z=>aGN (mD s1 z)))
def iI(g:En->Rs (List D)):En->Rs D:=λ ρ=>(g ρ).bd λ ds=>if ds.length<=zA0 then .ok (.tup ds)else .st
def gR(g:En->Rs (List D)):En->Rs D:=λ ρ=>(g ρ).bd λ ds=>if ds.length<=zA0 then .ok (.lst ds)else .st
def eZ{x1}(h:SA C m es g):SE C m (.Tuple es x1 pos) (iI g):=by
 obtain⟨t,h1,h2⟩:=h;refine⟨_,λ i=>aHm (h1 i),λ U Z H ρ lab Q R W=>h2 U Z H ρ lab _ R (W.bd.imp λ ds _ w xs H1 s1 r1=>?_)⟩;by_cases hz:ds.length<=zA0
 .rw[if_pos hz]at w
  exact⟨by rw[r1.length];exact hz,λ p H' s hp _=>w _ H' (s1.trans s) (.tup (SqT.of hp) (r1.up s))⟩
 .rw[if_neg hz]at w
  exact zAU w
def qR(h:SA C m es g):SE C m (.List es pos) (gR g):=by
 obtain⟨t,h1,h2⟩:=h;refine⟨_,λ i=>yr (h1 i),λ U Z H ρ lab Q R W=>h2 U Z H ρ lab _ R (W.bd.imp λ ds _ w xs H1 s1 r1=>?_)⟩;by_cases hz:ds.length<=zA0
 .rw[if_pos hz]at w
  exact⟨by rw[r1.length];exact hz,λ p H' s hp hn=>w _ H' (s1.trans s) (.lst hp (.inl (s1.free hn)) ((r1.wk λ q o e z=>⟨z,λ e'=>by subst e';rw[hn]at e;cases e⟩).up s))⟩
 .rw[if_neg hz]at w
  exact zAU w
def aMi(H:Hp)(v:V)(d:D):Prop:=aDg d=true->∃a,v= .ref a/\H a=none
def aLd(K:zAA)(G:Gx)(m:Mode)(t:TE)(f:En->Rs D):Prop:=∀U Z H ρ lab (Q:VK),RR K G U ρ Z H lab->WR G (f ρ) (λ d=>∀v H',aQ H H'->Rp K (fpM m lab H) H' v d->aMi H v d->Q v H')->t Z H Q
def SF(C:Ct)(m:Mode)(e:Expr)(f:En->Rs D):Prop:=∃t,(∀i,PE (C.X i) e t)/\aLd C.K C.G m t f
def gJ.toF{K:zAA}{G:Gx}{t:TE}{f:En->Rs D}(h:gJ K G (some []) t f):aLd K G (some []) t f:=λ U Z H ρ lab Q R W=>
 h U Z H ρ lab Q R (W.imp λ d _ w v H' s r=>w v H' s r λ hm=>by
  obtain⟨a,rfl⟩:=aKJ r hm;obtain⟨o,_,_,z⟩:=aEn r hm;rcases z with z|z
  .exact⟨a,rfl,z⟩
  .cases z)
def aLr(h:SE C (some []) e f):SF C (some []) e f:=let⟨t,h1,h2⟩:=h;⟨t,h1,h2.toF⟩
def qP(h:SA C m es g):SF C m (.List es pos) (gR g):=by
 obtain⟨t,h1,h2⟩:=h;refine⟨_,λ i=>yr (h1 i),λ U Z H ρ lab Q R W=>h2 U Z H ρ lab _ R (W.bd.imp λ ds _ w xs H1 s1 r1=>?_)⟩;by_cases hz:ds.length<=zA0
 .rw[if_pos hz]at w
  exact⟨by rw[r1.length];exact hz,λ p H' s hp hn=>w _ H' (s1.trans s) (.lst hp (.inl (s1.free hn)) ((r1.wk λ q o e z=>⟨z,λ e'=>by subst e';rw[hn]at e;cases e⟩).up s)) λ _=>⟨p,rfl,s1.free hn⟩⟩
 .rw[if_neg hz]at w
  exact zAU w
def OpS(K:zAA)(r:R2)(fd:D->D->Rs D):Prop:=∀(A:Addr->Prop) x y d e H (Q:VK) z,Rp K A H x d->Rp K A H y e->fd d e= .ok z->(∀v H',aQ H H'->Rp K (λ p=>H p=none\/A p) H' v z->Q v H')->r x y H Q
def UnS(K:zAA)(r:V->Hp->VK->Prop)(fd:D->Rs D):Prop:=∀(A:Addr->Prop) x d H (Q:VK) z,Rp K A H x d->fd d= .ok z->(∀v H',aQ H H'->Rp K (λ p=>H p=none\/A p) H' v z->Q v H')->r x H Q
def oA(K:zAA)(r:List V->Hp->VK->Prop)(fd:List D->Rs D):Prop:=∀(A:Addr->Prop) xs ds H (Q:VK) z,Rps K A H xs ds->fd ds= .ok z->(∀v H',aQ H H'->Rp K (λ p=>H p=none\/A p) H' v z->Q v H')->r xs H Q
def okD(r:Rs D):Rs D:=match r with
 | .ok d=>.ok d
 |_=>.st
def op2(fd:D->D->Rs D)(fa fb:En->Rs D):En->Rs D:=λ ρ=>(fa ρ).bd λ x=>(fb ρ).bd λ y=>okD (fd x y)
def op1(fd:D->Rs D)(fa:En->Rs D):En->Rs D:=λ ρ=>(fa ρ).bd λ x=>okD (fd x)
def opA(fd:List D->Rs D)(fa:En->Rs (List D)):En->Rs D:=λ ρ=>(fa ρ).bd λ x=>okD (fd x)
theorem WR.okD(h:WR G (okD r) P):∃z,r= .ok z/\P z:=by
 cases r with
 |ok z=>exact⟨z,rfl,h⟩
 |ex c=>exact zAU h
 |st=>exact zAU h
def yQ{K:zAA}{G:Gx}{r:R2}{ta tb:TE}{fd:D->D->Rs D}(hs:OpS K r fd)(h1:gJ K G m1 ta fa)(h2:gJ K G m2 tb fb):gJ K G (jn m1 m2) (tOp r ta tb) (op2 fd fa fb):=by
 intro U Z H ρ lab Q R W;refine h1 U Z H ρ lab _ R (W.bd.imp λ d _ w x H1 s1 r1=>?_);refine h2 U Z H1 ρ lab _ (R.up s1) (w.bd.imp λ e _ w y H2 s2 r2=>?_);obtain⟨z,ez,w⟩:=w.okD;refine hs (fpM (jn m1 m2) lab H) x y d e H2 Q z (r1.mono s2 λ p o _ q=>aGO q) (r2.wk λ p o _ q=>aGN (mD s1 q)) ez λ v H' s r=>w v H' ((s1.trans s2).trans s) (r.wk λ p o _ q=>?_)
 rcases q with q|q
 .exact .inl ((s1.trans s2).free q)
 .exact q
def aHU{K:zAA}{G:Gx}{r:V->Hp->VK->Prop}{ta:TE}{fd:D->Rs D}(hs:UnS K r fd)(h1:gJ K G m ta fa):gJ K G m (tUn r ta) (op1 fd fa):=by
 intro U Z H ρ lab Q R W;refine h1 U Z H ρ lab _ R (W.bd.imp λ d _ w x H1 s1 r1=>?_);obtain⟨z,ez,w⟩:=w.okD;refine hs (fpM m lab H) x d H1 Q z r1 ez λ v H' s r=>w v H' (s1.trans s) (r.wk λ p o _ q=>?_)
 rcases q with q|q
 .exact .inl (s1.free q)
 .exact q
def aCa{K:zAA}{G:Gx}{r:List V->Hp->VK->Prop}{ta:TA}{fd:List D->Rs D}(hs:oA K r fd)(h1:aIz K G m ta g):gJ K G m (tCB r ta) (opA fd g):=by
 intro U Z H ρ lab Q R W;refine h1 U Z H ρ lab _ R (W.bd.imp λ d _ w x H1 s1 r1=>?_);obtain⟨z,ez,w⟩:=w.okD;refine hs (fpM m lab H) x d H1 Q z r1 ez λ v H' s r=>w v H' (s1.trans s) (r.wk λ p o _ q=>?_)
 rcases q with q|q
 .exact .inl (s1.free q)
 .exact q
def cZ(h:SE C m e f)(hi:∀ρ d,f ρ= .ok d->imm d=true):SE C (some []) e f:=by
 obtain⟨t,h1,h2⟩:=h;exact⟨t,h1,λ U Z H ρ lab Q R W=>h2 U Z H ρ lab Q R (W.imp λ d ed w v H' s r=>w v H' s (r.imm (hi ρ d ed)))⟩
def gA(h:∀x y z,fd x y= .ok z->imm z=true)(e:op2 fd fa fb ρ= .ok d):imm d=true:=by
 obtain⟨x,_,e⟩:=cG e;obtain⟨y,_,e⟩:=cG e;unfold okD at e;split at e
 .rename_i z hz
  cases e;exact h x y _ hz
 .cases e
def aI2(h:∀x z,fd x= .ok z->imm z=true)(e:op1 fd fa ρ= .ok d):imm d=true:=by
 obtain⟨x,_,e⟩:=cG e;unfold okD at e;split at e
 .rename_i z hz
  cases e;exact h x _ hz
 .cases e
def kJ(h:∀x z,fd x= .ok z->imm z=true)(e:opA fd g ρ= .ok d):imm d=true:=by
 obtain⟨x,_,e⟩:=cG e;unfold okD at e;split at e
 .rename_i z hz
  cases e;exact h x _ hz
 .cases e
def wQ(ro:∀i,OpR (C.X i) (zCl op) r)(hs:OpS C.K r fd)(ha:SE C m1 a fa)(hb:SE C m2 b fb):SE C (jn m1 m2) (.BinOp a op b pos) (op2 fd fa fb):=by
 obtain⟨t,h1,h2⟩:=ha;obtain⟨u,k1,k2⟩:=hb;exact⟨_,λ i=>aME (ro i) (h1 i) (k1 i),yQ hs h2 k2⟩
def aLs(ro:∀i,UnR (C.X i) (unaryOp op) r)(hs:UnS C.K r fd)(ha:SE C m a fa):SE C m (.UnaryOp op a pos) (op1 fd fa):=by
 obtain⟨t,h1,h2⟩:=ha;exact⟨_,λ i=>aJ4 (ro i) (h1 i),aHU hs h2⟩
def qT(ro:∀i,OpR (C.X i) (zBK op) r)(hs:OpS C.K r fd)(ha:SE C m1 a fa)(hb:SE C m2 b fb)(hm:zCq op b=false:=by first|exact aF4 _|(with_unfolding_all rfl)):
  SE C (jn m1 m2) (.Compare a [op] [b] pos) (op2 fd fa fb):=by
 obtain⟨t,h1,h2⟩:=ha;obtain⟨u,k1,k2⟩:=hb;exact⟨_,λ i=>aHq (ro i) (h1 i) (k1 i) hm,yQ hs h2 k2⟩
variable{p:Pos}{x:Str}{id T:String}
def iQ(ro:∀i,cI (C.X i) (.builtin id) r)(hs:oA C.K r fd)(hg:∀i,Gl (C.X i) x)(hm:C.mg x=none)(hv:zBO x=some (.builtin id))(ha:SA C m (e::es) g)
  (hn:x≠"__name__":=by decide)(hdb:Nd x:=by decide)(he:∀i,zA4 (e::es) (C.X i).env=(false,eval e (C.X i).env)::zA4 es (C.X i).env:=by intro _;rfl)
  (hpl:∀i,(zCs pos (zA4 es (C.X i).env)).any (·.1)=false:=by intro _;rfl):SE C m (.Call (.Name x p) (e::es) [] pos) (opA fd g):=by
 obtain⟨t,h1,h2⟩:=ha;exact⟨_,λ i=>jZ (ro i) (hg i) (by rw[(C.cx i).2.2.2.1];exact hm) hv (h1 i) hn hdb (he i) (hpl i),aCa hs h2⟩
def aEi(ro:∀i,cI (C.X i) (.type T) r)(hs:oA C.K r fd)(hg:∀i,Gl (C.X i) x)(hm:C.mg x=none)(hv:zBO x=some (.type T))(ha:SA C m (e::es) g)
  (hn:x≠"__name__":=by decide)(hdb:Nd x:=by decide)(he:∀i,zA4 (e::es) (C.X i).env=(false,eval e (C.X i).env)::zA4 es (C.X i).env:=by intro _;rfl)
  (hpl:∀i,(zCs pos (zA4 es (C.X i).env)).any (·.1)=false:=by intro _;rfl):SE C m (.Call (.Name x p) (e::es) [] pos) (opA fd g):=by
 obtain⟨t,h1,h2⟩:=ha;exact⟨_,λ i=>jY (ro i) (hg i) (by rw[(C.cx i).2.2.2.1];exact hm) hv (h1 i) hn hdb (he i) (hpl i),aCa hs h2⟩
def qJ(f g:En->Rs D):En->Rs D:=λ ρ=>(f ρ).bd λ d=>match d with
 | .bl true=>g ρ
 | .bl false=>.ok (.bl false)
 |_=>.st
def aIH:D->Rs D
 | .bl b=>.ok (.bl (!b))
 |_=>.st
variable{rest:List Expr}
def ju{op}(h:SE C m a fa):SE C m (.BoolOp op [a] pos) fa:=by
 obtain⟨t,h1,h2⟩:=h;exact⟨_,λ i=>aK1 (h1 i),h2⟩
def gO(ha:SE C m1 a fa)(hb:SE C m2 (.BoolOp .And (b::rest) pos) fb):SE C m2 (.BoolOp .And (a::b::rest) pos) (qJ fa fb):=by
 obtain⟨t,h1,h2⟩:=ha;obtain⟨u,k1,k2⟩:=hb;refine⟨_,λ i=>aK5 (h1 i) (k1 i),λ U Z H ρ lab Q R W=>h2 U Z H ρ lab _ R (W.bd.imp λ d _ w x H1 s1 r1=>?_)⟩;cases r1 with
 |bl c=>
  refine⟨c,rfl,?_⟩;cases c with
  |true=>
   rw[if_pos rfl];exact k2 U Z H1 ρ lab Q (R.up s1) (w.imp λ z _ w v H' s r=>w v H' (s1.trans s) (r.wk λ p o _ q=>mD s1 q))
  |false=>
   rw[if_neg zAS];exact w _ H1 s1 (.bl false)
 |_=>exact zAU w
def aEg(ha:SE C m a fa):SE C (some []) (.UnaryOp .Not a pos) (op1 aIH fa):=by
 obtain⟨t,h1,h2⟩:=ha;refine⟨_,λ i=>aK2 (h1 i),λ U Z H ρ lab Q R W=>h2 U Z H ρ lab _ R (W.bd.imp λ d _ w x H1 s1 r1=>?_)⟩;obtain⟨z,ez,w⟩:=w.okD;cases r1 with
 |bl c=>cases ez;exact⟨c,rfl,w _ H1 s1 (.bl _)⟩
 |_=>cases ez
def ifD(c:En->Rs Bool)(f g:En->Rs D):En->Rs D:=λ ρ=>(c ρ).bd λ k=>if k=true then f ρ else g ρ
def aLu(hc:ST C c fc)(ha:SE C m1 a fa)(hb:SE C m2 b fb):SE C (jn m1 m2) (.IfExp c a b pos) (ifD fc fa fb):=by
 obtain⟨tc,c1,c2⟩:=hc;obtain⟨t,h1,h2⟩:=ha;obtain⟨u,k1,k2⟩:=hb;refine⟨_,λ i=>aFP (c1 i) (h1 i) (k1 i),λ U Z H ρ lab Q R W=>c2 U Z H ρ lab _ R (W.bd.imp λ k _ w H1 s1=>?_)⟩;cases k with
 |true=>
  rw[if_pos rfl]at w ⊢;exact h2 U Z H1 ρ lab Q (R.up s1) (w.imp λ z _ w v H' s r=>w v H' (s1.trans s) (r.wk λ p o _ q=>aGO (mD s1 q)))
 |false=>
  rw[if_neg zAS]at w ⊢;exact k2 U Z H1 ρ lab Q (R.up s1) (w.imp λ z _ w v H' s r=>w v H' (s1.trans s) (r.wk λ p o _ q=>aGN (mD s1 q)))
def chD(fd fd':D->D->Rs D)(fa fb fc:En->Rs D):En->Rs D:=λ ρ=>(fa ρ).bd λ x=>(fb ρ).bd λ y=>(okD (fd x y)).bd λ z=>match z with
 | .bl true=>(fc ρ).bd λ w=>okD (fd' y w)
 | .bl false=>.ok (.bl false)
 |_=>.st
def aDY{K:zAA}{G:Gx}{r r':R2}{ta tb tc:TE}{fd fd':D->D->Rs D}{fc:En->Rs D}{m3:Mode}(hs:OpS K r fd)(hs':OpS K r' fd')(hi:∀x y z,fd' x y= .ok z->imm z=true)(h1:gJ K G m1 ta fa)(h2:gJ K G m2 tb fb)(h3:gJ K G m3 tc fc):
  gJ K G (some []) (aE3 r r' ta tb tc) (chD fd fd' fa fb fc):=by
 intro U Z H ρ lab Q R W;refine h1 U Z H ρ lab _ R (W.bd.imp λ d _ w x H1 s1 r1=>?_);refine h2 U Z H1 ρ lab _ (R.up s1) (w.bd.imp λ e _ w y H2 s2 r2=>?_);obtain⟨z,ez,w⟩:=w.bd.okD;refine hs (λ _=>True) x y d e H2 _ z (r1.mono s2 λ p o _ q=>trivial) (r2.wk λ p o _ q=>trivial) ez λ v H3 s3 r3=>?_
 cases r3 with
 |bl c=>
  refine⟨c,rfl,?_⟩;cases c with
  |false=>
   rw[if_neg zAS];exact w _ H3 ((s1.trans s2).trans s3) (.bl false)
  |true=>
   rw[if_pos rfl];refine h3 U Z H3 ρ lab _ ((R.up s1).up (s2.trans s3)) (w.bd.imp λ e' _ w y' H4 s4 r4=>?_);obtain⟨z',ez',w⟩:=w.okD;exact hs' (λ _=>True) y y' e e' H4 Q z' (r2.mono (s3.trans s4) λ p o _ q=>trivial) (r4.wk λ p o _ q=>trivial) ez' λ v H5 s5 r5=>w v H5 ((((s1.trans s2).trans s3).trans s4).trans s5) (r5.imm (hi _ _ _ ez'))
 |_=>exact zAU w
def aAJ(ro:∀i,OpR (C.X i) (zBK op) r)(hs:OpS C.K r fd)(ro':∀i,OpR (C.X i) (zBK op') r')(hs':OpS C.K r' fd')(hi:∀x y z,fd' x y= .ok z->imm z=true)
  (ha:SE C m1 a fa)(hb:SE C m2 b fb)(hc:SE C m3 c fc)(hm:zIc [op,op'] [b,c]=false:=by with_unfolding_all rfl):SE C (some []) (.Compare a [op,op'] [b,c] pos) (chD fd fd' fa fb fc):=by
 obtain⟨t,h1,h2⟩:=ha;obtain⟨u,k1,k2⟩:=hb;obtain⟨v,l1,l2⟩:=hc;exact⟨_,λ i=>aFQ (ro i) (ro' i) (h1 i) (k1 i) (l1 i) hm,aDY hs hs' hi h2 k2 l2⟩
def aHK:D->Rs Bool
 | .non=>.ok false
 | .bl b=>.ok b
 | .int i=>.ok (i !=0)
 | .tup l=>.ok (!l.isEmpty)
 | .lst l=>.ok (!l.isEmpty)
 |_=>.st
def blD:D->Rs Bool
 | .bl b=>.ok b
 |_=>.st
def tst(f:En->Rs D):En->Rs Bool:=λ ρ=>(f ρ).bd aHK
def tsb(f:En->Rs D):En->Rs Bool:=λ ρ=>(f ρ).bd blD
def vJ{K:zAA}{A:Addr->Prop}{H:Hp}{xs:List V}{ds:List D}(r:Rps K A H xs ds):(!ds.isEmpty)= !xs.isEmpty:=by cases r<;>rfl
def jJ(ha:SE C m a fa)(he:∀i whole,isTrue a (C.X i).env whole=(do let v <-whole;zHs a.pos;zDa [v] (truthy v)):=by intro _ _;rfl):ST C a (tst fa):=by
 obtain⟨t,h1,h2⟩:=ha;refine⟨λ Z H Q=>t Z H λ x H'=>∃k,aLc C.K x H' k/\Q k H',λ i=>by rw[<-C.hK i];exact aFD (h1 i) (he i),λ U Z H ρ lab Q R W=>h2 U Z H ρ lab _ R (W.bd.imp λ d _ w x H1 s1 r1=>?_)⟩;cases r1 with
 |non=>exact⟨false,rfl,w H1 s1⟩
 |bl b=>exact⟨b,rfl,w H1 s1⟩
 |int i=>exact⟨i !=0,rfl,w H1 s1⟩
 |tup h r=>exact⟨_,.inr (.inl ⟨_,h,rfl⟩),by rw[<-vJ r];exact w H1 s1⟩
 |lst h m r=>exact⟨_,.inl ⟨_,SqL.of h,rfl⟩,by rw[<-vJ r];exact w H1 s1⟩
 |_=>exact zAU w
def aHT{K:zAA}{G:Gx}{t:TE}{f:En->Rs D}(h:gJ K G m t f):aC2 K G (aJG t) (tsb f):=λ U Z H ρ lab Q R W=>h U Z H ρ lab _ R (W.bd.imp λ d _ w x H1 s1 r1=>by
 cases r1 with
 |bl b=>exact⟨b,rfl,w H1 s1⟩
 |_=>exact zAU w)
def lK(ro:∀i,OpR (C.X i) (zBK op) r)(hs:OpS C.K r fd)(ha:SE C m1 a fa)(hb:SE C m2 b fb)(hm:zCq op b=false:=by first|exact aF4 _|(with_unfolding_all rfl)):
  ST C (.Compare a [op] [b] pos) (tsb (op2 fd fa fb)):=by
 obtain⟨t,h1,h2⟩:=ha;obtain⟨u,k1,k2⟩:=hb;exact⟨_,λ i=>aHd (ro i) (h1 i) (k1 i) hm,aHT (yQ hs h2 k2)⟩
variable{ga gb:En->Rs Bool}
def mJ(f g:En->Rs Bool):En->Rs Bool:=λ ρ=>(f ρ).bd λ k=>if k=true then g ρ else .ok false
def orT(f g:En->Rs Bool):En->Rs Bool:=λ ρ=>(f ρ).bd λ k=>if k=true then .ok true else g ρ
def lB(f:En->Rs Bool):En->Rs Bool:=λ ρ=>(f ρ).bd λ k=>.ok (!k)
def iz(ha:ST C a ga):SW C (.BoolOp .And [a] pos) ga:=let⟨t,h1,h2⟩:=ha;⟨t,λ i=>aHc (h1 i),h2⟩
def jr(ha:ST C a ga):SW C (.BoolOp .Or [a] pos) ga:=let⟨t,h1,h2⟩:=ha;⟨t,λ i=>aKN (h1 i),h2⟩
def jt(ha:ST C a ga)(hb:SW C (.BoolOp .And (b::rest) pos) gb):SW C (.BoolOp .And (a::b::rest) pos) (mJ ga gb):=by
 obtain⟨t,h1,h2⟩:=ha;obtain⟨u,k1,k2⟩:=hb;refine⟨_,λ i=>aKO (h1 i) (k1 i),λ U Z H ρ lab Q R W=>h2 U Z H ρ lab _ R (W.bd.imp λ k _ w H1 s1=>?_)⟩;cases k with
 |true=>
  rw[if_pos rfl]at w ⊢;exact k2 U Z H1 ρ lab Q (R.up s1) (w.imp λ z _ w H' s=>w H' (s1.trans s))
 |false=>
  rw[if_neg zAS]at w ⊢;exact w H1 s1
def pF(ha:ST C a ga)(hb:SW C (.BoolOp .Or (b::rest) pos) gb):SW C (.BoolOp .Or (a::b::rest) pos) (orT ga gb):=by
 obtain⟨t,h1,h2⟩:=ha;obtain⟨u,k1,k2⟩:=hb;refine⟨_,λ i=>aMC (h1 i) (k1 i),λ U Z H ρ lab Q R W=>h2 U Z H ρ lab _ R (W.bd.imp λ k _ w H1 s1=>?_)⟩;cases k with
 |false=>
  rw[if_neg zAS]at w ⊢;exact k2 U Z H1 ρ lab Q (R.up s1) (w.imp λ z _ w H' s=>w H' (s1.trans s))
 |true=>
  rw[if_pos rfl]at w ⊢;exact w H1 s1
def iK(ha:ST C a ga):ST C (.UnaryOp .Not a pos) (lB ga):=by
 obtain⟨t,h1,h2⟩:=ha;exact⟨_,λ i=>aKR (h1 i),λ U Z H ρ lab Q R W=>h2 U Z H ρ lab _ R (W.bd.imp λ k _ w H1 s1=>w H1 s1)⟩
end
inductive Ou where
 |nx (ρ:En)|rt (d:D)|bk (ρ:En)|ct (ρ:En)|ex (c:Str)|st
noncomputable def Rs.bo{α:Type}:Rs α->(α->Ou)->Ou
 | .ok a,f=>f a
 | .ex c,_=>.ex c
 | .st,_=>.st
@[simp] def bC(a:α)(f:α->Ou):(Rs.ok a).bo f=f a:=aN rfl
noncomputable def Ou.sq:Ou->(En->Ou)->Ou
 | .nx ρ,f=>f ρ
 |o,_=>o
@[simp] def aV(ρ:En)(f:En->Ou):(Ou.nx ρ).sq f=f ρ:=aN rfl
@[simp] def sq_rt(d:D)(f:En->Ou):(Ou.rt d).sq f= .rt d:=aN rfl
def WS(K:zAA)(G:Gx)(U:List (V×D))(o:Ou)(De:Ends):Prop:=match o with
 | .nx ρ=>∀Z H lab,RR K G U ρ Z H lab->De.nx Z H
 | .bk ρ=>∀Z H lab,RR K G U ρ Z H lab->De.bk Z H
 | .ct ρ=>∀Z H lab,RR K G U ρ Z H lab->De.ct Z H
 | .rt d=>∀v H,aQ G.H0 H->Rp K (λ p=>G.H0 p=none) H v d->De.rt v H
 | .ex c=>∀H',aQ G.H0 H'->G.E (.ref (G.cl c)) none H'
 | .st=>False
theorem WS.bo{K:zAA}(h:WS K G U (r.bo k) De):WR G r (λ a=>WS K G U (k a) De):=by
 cases r with
 |ok a=>exact h
 |ex c=>exact h
 |st=>exact h
def aM8(K:zAA)(G:Gx)(t:TS)(f:En->Ou):Prop:=∀U Z H ρ lab (De:Ends),RR K G U ρ Z H lab->WS K G U (f ρ) De->t De Z H
def SS(C:Ct)(s:Stmt)(f:En->Ou):Prop:=∃t,(∀i,PS (C.X i) s t)/\aM8 C.K C.G t f
def SSs(C:Ct)(s:List Stmt)(f:En->Ou):Prop:=∃t,(∀i,PSs (C.X i) s t)/\aM8 C.K C.G t f
section
variable{C:Ct}{pos:Pos}{s:Stmt}{ss:List Stmt}{f g:En->Ou}{e:Expr}{m:Mode}{fe:En->Rs D}
def bT:SSs C [] .nx:=⟨_,λ _=>aHf,λ U Z H ρ lab De R W=>W Z H lab R⟩
def aW(f g:En->Ou):En->Ou:=λ ρ=>(f ρ).sq g
def aL(h:SS C s f):SSs C [s] f:=let⟨t,h1,h2⟩:=h;⟨t,λ i=>aHe (h1 i),h2⟩
def aG(h:SS C s f)(k:SSs C ss g):SSs C (s::ss) (aW f g):=by
 obtain⟨t,h1,h2⟩:=h;obtain⟨u,k1,k2⟩:=k;refine⟨_,λ i=>aFF (h1 i) (k1 i),λ U Z H ρ lab De R W=>h2 U Z H ρ lab _ R ?_⟩;unfold aW at W;cases h:f ρ with
 |nx ρ'=>rw[h]at W;exact λ Z' H' lab' R'=>k2 U Z' H' ρ' lab' De R' W
 |rt d=>rw[h]at W;exact W
 |bk ρ'=>rw[h]at W;exact W
 |ct ρ'=>rw[h]at W;exact W
 |ex c=>rw[h]at W;exact W
 |st=>rw[h]at W;exact W
def frz(i:Nat)(ρ:En):En:=match ρ[i]? with
 |some (.ow d)=>ρ.set i (.nw d)
 |some (.o2 l)=>ρ.set i (.nw (.lst (l.map .lst)))
 |_=>ρ
def aMO:Mode->Bool
 |some L=>L.all (·!=0)
 |none=>false
def retS(fe:En->Rs D):En->Ou:=λ ρ=>(fe ρ).bo .rt
def ak(he:SE C m e fe)(hm:aMO m=true:=by rfl):SS C (.Return (some e) pos) (retS fe):=by
 obtain⟨t,h1,h2⟩:=he;refine⟨_,λ i=>aKS (h1 i),λ U Z H ρ lab De R W=>h2 U Z H ρ lab _ R (W.bo.imp λ d _ w v H' s r=>w v H' (R.old.trans s) (r.wk λ p o _ z=>?_))⟩;rcases z with z|z
 .exact R.old.free z
 .cases m with
  |none=>cases hm
  |some L=>
   refine R.new p λ e0=>?_
   have:=zB6.mp hm _ z
   rw[e0]at this;simp at this
def xW(fe:En->Rs D):En->Ou:=λ ρ=>(fe ρ).bo λ _=>.nx ρ
def aC8(he:SE C m e fe)(hs:∀i,zCt e none pos.line (C.X i).env=pure false:=by intro _;rfl):SS C (.Expr e pos) (xW fe):=by
 obtain⟨t,h1,h2⟩:=he;exact⟨_,λ i=>pL (h1 i) (hs i),λ U Z H ρ lab De R W=>h2 U Z H ρ lab _ R (W.bo.imp λ d _ w v H' s r=>w Z H' lab (R.up s))⟩
def ifS(c:En->Rs Bool)(f g:En->Ou):En->Ou:=λ ρ=>(c ρ).bo λ k=>if k=true then f ρ else g ρ
def eV{a b:List Stmt}(hc:ST C c fc)(ha:SSs C a f)(hb:SSs C b g):SS C (.If c a b pos) (ifS fc f g):=by
 obtain⟨tc,c1,c2⟩:=hc;obtain⟨t,h1,h2⟩:=ha;obtain⟨u,k1,k2⟩:=hb;refine⟨_,λ i=>aMD (c1 i) (h1 i) (k1 i),λ U Z H ρ lab De R W=>c2 U Z H ρ lab _ R (W.bo.imp λ k _ w H1 s1=>?_)⟩;cases k with
 |true=>rw[if_pos rfl]at w ⊢;exact h2 U Z H1 ρ lab De (R.up s1) w
 |false=>rw[if_neg zAS]at w ⊢;exact k2 U Z H1 ρ lab De (R.up s1) w
def SV(C:Ct)(i:Nat)(s:Stmt)(m:Mode)(f:En->Rs D):Prop:=∃t,(∀j,PS (C.X j) s (aE4 t (nW i)))/\gJ C.K C.G m t f
def fH(he:SE C m e fe)(hN:∀j,(C.X j).N[i]? =some x:=by intro _;rfl)(hx:∀j,Loc (C.X j).env.scope x:=by intro _;first|exact zDE rfl|exact zCT rfl)(hs:∀j,zCt e (some (.Name x pos')) pos.line (C.X j).env=pure false:=by intro _;rfl)(hf:∀j,(C.X j).fn x=true\/(C.X j).env.scope.names.lookup x=some .local:=by intro _;first|exact .inl rfl|exact .inr rfl)(nd:∀j,(C.X j).N.Nodup:=by intro _;assumption):
  SV C i (.Assign [.Name x pos'] e pos) m fe:=by
 obtain⟨t,h1,h2⟩:=he;exact⟨t,λ j=>aFI (nd j) (hN j) (hx j) (h1 j) (hs j) (hf j),h2⟩
def SVF(C:Ct)(i:Nat)(s:Stmt)(m:Mode)(f:En->Rs D):Prop:=∃t,(∀j,PS (C.X j) s (aE4 t (nW i)))/\aLd C.K C.G m t f
def rD(he:SF C m e fe)(hN:∀j,(C.X j).N[i]? =some x:=by intro _;rfl)(hx:∀j,Loc (C.X j).env.scope x:=by intro _;first|exact zDE rfl|exact zCT rfl)(hs:∀j,zCt e (some (.Name x pos')) pos.line (C.X j).env=pure false:=by intro _;rfl)(hf:∀j,(C.X j).fn x=true\/(C.X j).env.scope.names.lookup x=some .local:=by intro _;first|exact .inl rfl|exact .inr rfl)(nd:∀j,(C.X j).N.Nodup:=by intro _;assumption):
  SVF C i (.Assign [.Name x pos'] e pos) m fe:=by
 obtain⟨t,h1,h2⟩:=he;exact⟨t,λ j=>aFI (nd j) (hN j) (hx j) (h1 j) (hs j) (hf j),h2⟩
def aLn(h:SV C i s (some []) fe):SVF C i s (some []) fe:=let⟨t,h1,h2⟩:=h;⟨t,h1,h2.toF⟩
def aCr(P:Nat->Bool):Mode->Bool
 |some L=>L.all P
 |none=>false
def mQ(h:aCr P m=true):∀k,inM m k->P k=true:=by
 intro k hk;cases m with
 |none=>cases h
 |some L=>exact zB6.mp h k hk
abbrev okS:Mode->Bool:=aCr λ k=>decide (k<=1)
abbrev okN:Mode->Bool:=aCr λ k=>k==1
abbrev okO(i:Nat):Mode->Bool:=aCr λ k=>k==1||k==i+2
def bU(i:Nat)(fe:En->Rs D):En->Ou:=λ ρ=>(fe ρ).bo λ d=>.nx (ρ.set i (.sh d))
def su(i:Nat)(fe:En->Rs D):En->Ou:=λ ρ=>(fe ρ).bo λ d=>.nx (ρ.set i (.nw d))
def jX(i:Nat)(fe:En->Rs D):En->Ou:=λ ρ=>(fe ρ).bo λ d=>.nx (ρ.set i (.ow d))
def RR.shared{K:zAA}(hm:okS m=true)(R:RR K G U ρ Z H lab)(s:aQ H H')(r:Rp K (fpM m lab H) H' v d):
  RR K G U ρ Z H' (bw H 1 lab)/\Rp K (λ p=>(bw H 1 lab p).1<=1) H' v d:=R.fresh (P:=λ k=>k<=1) (by decide) (λ k hk=>of_decide_eq_true (mQ hm k hk)) s r
def az{i:Nat}(h:SV C i s m fe)(hm:okS m=true:=by rfl):SS C s (bU i fe):=by
 obtain⟨t,h1,h2⟩:=h;refine⟨_,h1,λ U Z H ρ lab De R W=>h2 U Z H ρ lab _ R (W.bo.imp λ d _ w v H' s r=>?_)⟩;obtain⟨R',r'⟩:=R.shared hm s r;exact w _ _ _ (R'.put (s:=.sh d) r')
def tM(h:SV C i s m fe)(hm:okN m=true:=by rfl):SS C s (su i fe):=by
 obtain⟨t,h1,h2⟩:=h;refine⟨_,h1,λ U Z H ρ lab De R W=>h2 U Z H ρ lab _ R (W.bo.imp λ d _ w v H' s r=>?_)⟩;obtain⟨R',r'⟩:=R.fresh (P:=λ k=>k=1) rfl (λ k hk=>beq_iff_eq.mp (mQ hm k hk)) s r;exact w _ _ _ (R'.put (s:=.nw d) r')
def gZ(h:SVF C i s m fe)(hm:okO i m=true:=by rfl):SS C s (jX i fe):=by
 obtain⟨t,h1,h2⟩:=h;refine⟨_,h1,λ U Z H ρ lab De R W=>h2 U Z H ρ lab _ R (W.bo.imp λ d _ w v H' s r ht=>?_)⟩;obtain⟨lab',R',r'⟩:=R.freshO i (λ k hk=>by have:=mQ hm k hk;simpa using this) s r ht;exact w _ _ _ (R'.put (s:=.ow d) r')
def aIy(K:zAA)(G:Gx)(g:TG)(fg:D->En->Rs En):Prop:=∀U v d Z H ρ lab (Q:L2.St->Hp->Prop) ρ',RR K G U ρ Z H lab->Rp K (λ p=>(lab p).1<=1) H v d->fg d ρ= .ok ρ'->(∀Z',RR K G U ρ' Z' H lab->Q Z' H)->g v Z H Q
def aM9(K:zAA)(G:Gx)(g:TGs)(fg:List D->En->Rs En):Prop:=∀U vs ds Z H ρ lab (Q:L2.St->Hp->Prop) ρ',RR K G U ρ Z H lab->Rps K (λ p=>(lab p).1<=1) H vs ds->fg ds ρ= .ok ρ'->(∀Z',RR K G U ρ' Z' H lab->Q Z' H)->g vs Z H Q
def SG(C:Ct)(tg:Expr)(ks:List Nat)(fg:D->En->Rs En):Prop:=∃g,(∀i,PG (C.X i) tg g)/\aIy C.K C.G g fg/\qK g ks/\aBS g
def SGs(C:Ct)(tg:List Expr)(ks:List Nat)(fg:List D->En->Rs En):Prop:=∃g,(∀i,PGs (C.X i) tg g)/\aM9 C.K C.G g fg/\vg g ks/\qz g
def gnm(i:Nat):D->En->Rs En:=λ d ρ=>.ok (ρ.set i (.sh d))
def oW:List D->En->Rs En:=λ ds ρ=>match ds with
 |[]=>.ok ρ
 |_=>.st
def bz(f:D->En->Rs En)(g:List D->En->Rs En):List D->En->Rs En:=λ ds ρ=>match ds with
 |d::r=>(f d ρ).bd (g r)
 |_=>.st
def nA(n:Nat)(g:List D->En->Rs En):D->En->Rs En:=λ d ρ=>match d with
 | .tup ds=>if ds.length=n then g ds ρ else .st
 |_=>.st
variable{ks:List Nat}{fg:D->En->Rs En}{fgs:List D->En->Rs En}{tg:Expr}{tgs:List Expr}
def cA(hN:∀j,(C.X j).N[i]? =some x:=by intro _;rfl)(hx:∀j,Loc (C.X j).env.scope x:=by intro _;first|exact zDE rfl|exact zCT rfl)(hf:∀j,(C.X j).fn x=true\/(C.X j).env.scope.names.lookup x=some .local:=by intro _;first|exact .inl rfl|exact .inr rfl)(nd:∀j,(C.X j).N.Nodup:=by intro _;assumption)(hk:i∈ks:=by decide):SG C (.Name x pos) ks (gnm i):=
 ⟨_,λ j=>aHl (nd j) (hN j) (hx j) (hf j),λ U v d Z H ρ lab Q ρ' R r e q=>by cases e;exact q _ (R.put (s:=.sh d) r),aI9 hk,aIb⟩
def yR:SGs C [] ks oW:=by
 refine⟨_,λ _=>aHk,λ U vs ds Z H ρ lab Q ρ' R r e q=>?_,aI8,aIa⟩;cases r with
 |nil=>cases e;exact⟨rfl,q _ R⟩
 |cons _ _=>cases e
def jW(h:SG C tg ks fg)(k:SGs C tgs ks fgs)(hs:∀i,(zDs (tg::tgs) (C.X i).env).map (·.2)=zFU tg (C.X i).env::(zDs tgs (C.X i).env).map (·.2):=by intro _;rfl):SGs C (tg::tgs) ks (bz fg fgs):=by
 obtain⟨g,h1,h2,h3,h4⟩:=h;obtain⟨u,k1,k2,k3,k4⟩:=k;refine⟨_,λ i=>aFN (h1 i) (k1 i) (hs i),λ U vs ds Z H ρ lab Q ρ' R r e q=>?_,aGA h3 h4 k3 k4,aGE h4 k4⟩;cases r with
 |nil=>cases e
 |cons h r=>
  obtain⟨ρ1,e1,e2⟩:=cG e;exact⟨_,_,rfl,h2 U _ _ Z H ρ lab _ ρ1 R h e1 λ Z1 R1=>k2 U _ _ Z1 H ρ1 lab Q ρ' R1 r e2 q⟩
def aB4(h:SGs C tgs ks fgs)(hn:∀i,(zDs tgs (C.X i).env).length=n:=by intro _;rfl)(hst:∀i,(zDs tgs (C.X i).env).findIdx? (·.1)=none:=by intro _;rfl):SG C (.Tuple tgs k pos) ks (nA n fgs):=by
 obtain⟨u,k1,k2,k3,k4⟩:=h;refine⟨aIc C.K n u,λ i=>by rw[<-C.hK i];exact aKW (C.calm i) (k1 i) (hn i) (hst i),λ U v d Z H ρ lab Q ρ' R r e q=>?_,aLQ k3,aLR k4⟩;cases r with
 |tup h r=>
  unfold nA at e;dsimp only at e;split at e
  .rename_i hl
   exact⟨_,_,rfl,h,by rw[r.length];exact hl,k2 U _ _ Z H ρ lab Q ρ' R r e q⟩
  .cases e
 |_=>cases e
def JL(K:zAA)(lab:Lab)(J:It)(H:Hp)(ds:List D):Prop:=∀i,(ds.length<=i->J.stop i H)/\(i<ds.length->J.go i H/\∀x H',J.yld i H x H'->aQ H H'/\∃d,ds[i]? =some d/\Rp K (λ p=>(lab p).1<=1) H' x d)
def aIx(K:zAA)(G:Gx)(wi:TI)(f:En->Rs (List D)):Prop:=∀U Z H ρ lab (Rr:It->Hp->Prop),RR K G U ρ Z H lab->
 WR G (f ρ) (λ ds=>∀J H1 lab1 U1,aQ H H1->(∀p o,H p=some o->lab1 p=lab p)->RR K G (U1++U) ρ Z H1 lab1->(∀lab' H',(∀q∈U1,Rp K (λ p=>(lab' p).1<=1) H' q.1 q.2)->JL K lab' J H' ds)->Rr J H1)->wi Z H Rr
def SI(C:Ct)(tg iter:Expr)(f:En->Rs (List D)):Prop:=∃wi,(∀i,PI (C.X i) tg iter wi)/\aIx C.K C.G wi f
def aMW(K:zAA)(tl:TE):TI:=λ Z H R=>tl Z H λ x H1=>∃a,x= .ref a/\(((∃xs,SqL K H1 a xs)/\R (Itl K a) H1)\/((∃xs,SqT K H1 a xs)/\R (Itt K a) H1))
def aKV(hl:PE X l tl):PI X tg l (aMW X.K tl):=by
 intro kK s Z H R I h;refine thn (hl kK s Z H _ I h) λ v s1 ⟨x,H1,I1,r1,a,e,q1⟩=>?_
 subst e;cases r1;have hp:∀b∈[s1.heap.objs.size],rA X kK H1 b:=λ b hb=>by
  have e:b=s1.heap.objs.size:=by simpa using hb
  rw[e];exact I1.fpOk (zAW _) (I1.hok.fresh (zAW _))
 rcases q1 with ⟨⟨xs,hq⟩,q⟩|⟨⟨xs,hq⟩,q⟩
 .obtain⟨its,rv,p,hz⟩:=I1.list hq
  refine zEm p.isList ?_;exact⟨_,_,_,_,H1,rfl,I1.kept (t':=s1.toks) λ b o e=>zAD _ e,aDU a _,⟨_,zAY _ rfl,rfl,rfl⟩,hp,q⟩
 .obtain⟨its,rv,p,hz⟩:=I1.tuple hq
  refine zE8 (show s1.heap.IsTuple a its.toArray from p) ?_;exact⟨_,_,_,_,H1,rfl,I1.kept (t':=s1.toks) λ b o e=>zAD _ e,aBW a _,⟨_,zAY _ rfl,rfl,rfl⟩,hp,q⟩
def itD:D->Rs (List D)
 | .tup l=>.ok l
 | .lst l=>.ok l
 | .scr l=>.ok (l.map .int)
 |_=>.st
def lD(fe:En->Rs D):En->Rs (List D):=λ ρ=>(fe ρ).bd itD
def aCz{K:zAA}(h:SqL K H a xs)(r:Rps K (λ p=>(lab p).1<=1) H xs ds):JL K lab (Itl K a) H ds:=by
 have hl:=r.length;refine λ i=>⟨λ hi=>⟨xs,h,by lia⟩,λ hi=>⟨⟨xs,xs[i]'(by lia),h,by simp[hl,hi]⟩,λ x H' y=>?_⟩⟩
 obtain⟨e,y⟩:=y;subst e;obtain⟨d,h1,h2⟩:=r.get (y xs h);exact⟨aQ.refl _,d,h1,h2⟩
def aLD{K:zAA}(h:SqT K H a xs)(r:Rps K (λ p=>(lab p).1<=1) H xs ds):JL K lab (Itt K a) H ds:=by
 have hl:=r.length;refine λ i=>⟨λ hi=>⟨xs,h,by lia⟩,λ hi=>⟨⟨xs,xs[i]'(by lia),h,by simp[hl,hi]⟩,λ x H' y=>?_⟩⟩
 obtain⟨e,y⟩:=y;subst e;obtain⟨d,h1,h2⟩:=r.get (y xs h);exact⟨aQ.refl _,d,h1,h2⟩
def jK(he:SE C m e fe)(hm:okS m=true:=by rfl):SI C tg e (lD fe):=by
 obtain⟨t,p1,p2⟩:=he;refine⟨aMW C.K t,λ i=>by rw[<-C.hK i];exact aKV (p1 i),λ U Z H ρ lab Rr R W=>p2 U Z H ρ lab _ R (W.bd.imp λ d _ w v H1 s r=>?_)⟩;obtain⟨R',r'⟩:=R.shared hm s r;cases d with
 |tup l=>
  cases r' with
  |tup h q=>
   rename_i a xs;refine⟨_,rfl,.inr ⟨⟨_,h⟩,w _ H1 _ [(.ref a,.tup l)] s (λ p o e=>bI e) ⟨R'.len,R'.sl,R'.old,R'.new,λ z hz=>?_⟩ λ lab' H' hq=>?_⟩⟩
   .rcases zAM.mp hz with rfl|hz
    .exact .tup h q
    .exact R'.tm z hz
   .have z:=hq _ (zAT ..)
    cases z with
    |tup h' q'=>exact aLD h' q'
 |lst l=>
  cases r' with
  |lst h mm q=>
   rename_i a xs;refine⟨_,rfl,.inl ⟨⟨_,SqL.of h⟩,w _ H1 _ [(.ref a,.lst l)] s (λ p o e=>bI e) ⟨R'.len,R'.sl,R'.old,R'.new,λ z hz=>?_⟩ λ lab' H' hq=>?_⟩⟩
   .rcases zAM.mp hz with rfl|hz
    .exact .lst h mm q
    .exact R'.tm z hz
   .have z:=hq _ (zAT ..)
    cases z with
    |lst h' _ q'=>exact aCz (SqL.of h') (q'.wk λ _ _ _ z=>z.1)
 |scr l=>
  cases r' with
  |scr h=>
   rename_i a;refine⟨_,rfl,.inl ⟨⟨_,h.sq⟩,w _ H1 _ [(.ref a,.scr l)] s (λ p o e=>bI e) ⟨R'.len,R'.sl,R'.old,R'.new,λ z hz=>?_⟩ λ lab' H' hq=>?_⟩⟩
   .rcases zAM.mp hz with rfl|hz
    .exact .scr h
    .exact R'.tm z hz
   .have z:=hq _ (zAT ..)
    cases z with
    |scr h'=>exact aCz h'.sq Rps.ints
 |_=>exact zAU w
end
section
variable{C:Ct}{pos:Pos}{s:Stmt}{ss:List Stmt}{f:En->Ou}{e a b:Expr}{es:List Expr}{m:Mode}{fa:En->Rs D}{ks:List Nat}{fg:D->En->Rs En}{tg:Expr}{fi:En->Rs (List D)}{ga:En->Rs (List D)}
def bf(lo hi:Int):List D:=(zAr (hi-lo).toNat).map λ(k:Nat)=>.int (lo+(k:Int))
def gf:List D->Rs (List D)
 |[.int j]=>if -(2^62)<=j/\j<2^62 then .ok (bf 0 j)else .st
 |_=>.st
def aEq:List D->Rs (List D)
 |[.int i,.int j]=>if (-(2^62)<=i/\i<2^62)/\(-(2^62)<=j/\j<2^62)then .ok (bf i j)else .st
 |_=>.st
def g8(r:List D->Rs (List D))(ga:En->Rs (List D)):En->Rs (List D):=λ ρ=>(ga ρ).bd r
def aFj{K:zAA}{lo hi:Int}:JL K lab (Itr lo (hi-lo).toNat) H (bf lo hi):=by
 have hl:(bf lo hi).length=(hi-lo).toNat:=by unfold bf;simp
 refine λ i=>⟨λ h=>by show(hi-lo).toNat<=i;lia,λ h=>⟨by show i<(hi-lo).toNat;lia,λ x H' y=>?_⟩⟩
 obtain⟨e,rfl⟩:=y;subst e;refine⟨aQ.refl _,.int (lo+i),?_,.int _⟩;unfold bf;rw[zAQ,zFO (by lia)];rfl
def dY(ha:SA C m [a] ga)(hm:C.mg "range"=none)(hs:∀i,zA4 [a] (C.X i).env=[(false,eval a (C.X i).env)]:=by intro _;rfl)(hg:∀i,Gl (C.X i) "range":=by intro _;rfl):SI C tg (.Call (.Name "range" p) [a] [] pos) (g8 gf ga):=by
 obtain⟨t,h1,h2⟩:=ha;refine⟨_,λ i=>aDc (hg i) (by rw[(C.cx i).2.2.2.1];exact hm) (h1 i) (hs i),λ U Z H ρ lab Rr R W=>h2 U Z H ρ lab _ R (W.bd.imp λ ds _ w vs H1 s r=>?_)⟩;unfold gf at w;split at w
 .rename_i j _
  split at w
  .rename_i hj
   cases r with
   |cons h r=>
    cases h;cases r;refine⟨j,rfl,hj.1,hj.2,?_⟩;have z:=w (Itr 0 (j-0).toNat) H1 lab [] s (λ _ _ _=>rfl) (R.up s) λ lab' H' _=>aFj
    rwa [Int.sub_zero]at z
  .exact zAU w
 .exact zAU w
def aHV(ha:SA C m [a,b] ga)(hm:C.mg "range"=none)(hs:∀i,zA4 [a,b] (C.X i).env=[(false,eval a (C.X i).env),(false,eval b (C.X i).env)]:=by intro _;rfl)(hs2:∀i,zA4 [b] (C.X i).env=[(false,eval b (C.X i).env)]:=by intro _;rfl)(hg:∀i,Gl (C.X i) "range":=by intro _;rfl):SI C tg (.Call (.Name "range" p) [a,b] [] pos) (g8 aEq ga):=by
 obtain⟨t,h1,h2⟩:=ha;refine⟨_,λ i=>aDb (hg i) (by rw[(C.cx i).2.2.2.1];exact hm) (h1 i) (hs i) (hs2 i),λ U Z H ρ lab Rr R W=>h2 U Z H ρ lab _ R (W.bd.imp λ ds _ w vs H1 s r=>?_)⟩;unfold aEq at w;split at w
 .rename_i i j _
  split at w
  .rename_i hj
   cases r with
   |cons h r=>
    cases h;cases r with
    |cons h r=>
     cases h;cases r;exact⟨i,j,rfl,⟨hj.1.1,hj.1.2,hj.2.1,hj.2.2⟩,w (Itr i (j-i).toNat) H1 lab [] s (λ _ _ _=>rfl) (R.up s) λ lab' H' _=>aFj⟩
  .exact zAU w
 .exact zAU w
def forL(fg:D->En->Rs En)(b:En->Ou):List D->En->Ou
 |[],ρ=>.nx ρ
 |d::ds,ρ=>match fg d ρ with
  | .ok ρ1=>match b ρ1 with
   | .nx ρ2=>forL fg b ds ρ2
   | .ct ρ2=>forL fg b ds ρ2
   | .bk ρ2=>.nx ρ2
   |o=>o
  |_=>.st
def kO(fi:En->Rs (List D))(fg:D->En->Rs En)(b:En->Ou):En->Ou:=λ ρ=>(fi ρ).bo λ ds=>forL fg b ds ρ
def fK(hi:SI C tg e fi)(hg:SG C tg ks fg)(hb:SSs C ss f)(hs:∀i,∀x,zCI e (C.X i).env x=pure x:=by intro _ _;rfl):SS C (.For tg e ss [] pos) (kO fi fg f):=by
 obtain⟨wi,i1,i2⟩:=hi;obtain⟨gg,g1,g2,_,g4⟩:=hg;obtain⟨tb,b1,b2⟩:=hb;refine⟨_,λ i=>aKT (C.own i) (C.calm i) (i1 i) (g1 i) (b1 i) (hs i),λ U Z H ρ lab De R W=>i2 U Z H ρ lab _ R (W.bo.imp λ ds _ w J H1 lab1 U1 s1 _ R1 jl=>?_)⟩;refine⟨λ i n Z' H'=>∃ρ' lab',RR C.K C.G (U1++U) ρ' Z' H' lab'/\n=ds.length-i/\i<=ds.length/\WS C.K C.G U (forL fg f (ds.drop i) ρ') De,⟨ds.length,ρ,lab1,R1,by lia,by lia,w⟩,?_⟩;rintro i n Z' H' ⟨ρ',lab',R',rfl,hi,w'⟩;have jj:=jl lab' H' λ q hq=>R'.tm q (zBP _ hq)
 by_cases hlt:i<ds.length
 .obtain⟨go,yl⟩:=(jj i).2 hlt
  refine .inr ⟨go,λ Z2 H2=>∃ρ2 lab2,RR C.K C.G (U1++U) ρ2 Z2 H2 lab2/\WS C.K C.G U (forL fg f (ds.drop (i+1)) ρ2) De,λ Z2 H2 ⟨ρ2,lab2,R2,w2⟩=>⟨ds.length-(i+1),by lia,ρ2,lab2,R2,rfl,hlt,w2⟩,λ x H2 hy=>?_⟩;obtain⟨s2,d,ed,rx⟩:=yl x H2 hy;replace R':=R'.up s2;have ed2:ds.drop i=d::ds.drop (i+1):=by
   rw[zC7 hlt]
   have:=zAC hlt
   rw[ed]at this;cases this;rfl
  rw[ed2]at w';unfold forL at w';cases eg:fg d ρ' with
  |ex c=>rw[eg]at w';exact zAU w'
  |st=>rw[eg]at w';exact zAU w'
  |ok ρ1=>
   rw[eg]at w';refine g2 (U1++U) x d Z' H2 ρ' lab' _ ρ1 R' rx eg λ Z1 R1'=>b2 (U1++U) Z1 H2 ρ1 lab' _ R1' ?_
   dsimp only at w';cases eb:f ρ1 with
   |nx ρ2=>rw[eb]at w';exact λ Z2 H3 lab2 R2=>⟨ρ2,lab2,R2,w'⟩
   |ct ρ2=>rw[eb]at w';exact λ Z2 H3 lab2 R2=>⟨ρ2,lab2,R2,w'⟩
   |bk ρ2=>rw[eb]at w';exact λ Z2 H3 lab2 R2=>w' Z2 H3 lab2 R2.drop
   |rt d=>rw[eb]at w';exact w'
   |ex c=>rw[eb]at w';exact w'
   |st=>rw[eb]at w';exact w'
 .have e:i=ds.length:=by lia
  subst e;rw[zFp]at w';exact .inl ⟨(jj _).1 (zAW _),w' Z' H' lab' R'.drop⟩
def itW(c:En->Rs Bool)(b:En->Ou):Nat->En->Ou
 |0,_=>.st
 |n+1,ρ=>(c ρ).bo λ k=>if k=true then(match b ρ with
   | .nx ρ2=>itW c b n ρ2
   | .ct ρ2=>itW c b n ρ2
   | .bk ρ2=>.nx ρ2
   |o=>o)else .nx ρ
def fuel:Nat:=1000000
def lF(c:En->Rs Bool)(b:En->Ou):En->Ou:=itW c b fuel
def uM(hc:ST C c fc)(hb:SSs C ss f):SS C (.While c ss [] pos) (lF fc f):=by
 obtain⟨tc,c1,c2⟩:=hc;obtain⟨tb,b1,b2⟩:=hb;refine⟨_,λ i=>aFG (C.own i) (c1 i) (b1 i),λ U Z H ρ lab De R W=>?_⟩;refine⟨λ n Z' H'=>∃ρ' lab',RR C.K C.G U ρ' Z' H' lab'/\WS C.K C.G U (itW fc f n ρ') De,⟨fuel,ρ,lab,R,W⟩,?_⟩;rintro n Z' H' ⟨ρ',lab',R',w'⟩;cases n with
 |zero=>exact zAU w'
 |succ n=>
  refine c2 U Z' H' ρ' lab' _ R' (WS.bo (show WS C.K C.G U ((fc ρ').bo _) De from w') |>.imp λ k _ w H1 s1=>?_);cases k with
  |false=>
   rw[if_neg zAS]at w ⊢;exact w Z' H1 lab' (R'.up s1)
  |true=>
   rw[if_pos rfl]at w ⊢;refine⟨λ Z2 H2=>∃ρ2 lab2,RR C.K C.G U ρ2 Z2 H2 lab2/\WS C.K C.G U (itW fc f n ρ2) De,λ Z2 H2 ⟨ρ2,lab2,R2,w2⟩=>⟨n,zBf n,ρ2,lab2,R2,w2⟩,?_⟩;refine b2 U Z' H1 ρ' lab' _ (R'.up s1) ?_;cases eb:f ρ' with
   |nx ρ2=>rw[eb]at w;exact λ Z2 H3 lab2 R2=>⟨ρ2,lab2,R2,w⟩
   |ct ρ2=>rw[eb]at w;exact λ Z2 H3 lab2 R2=>⟨ρ2,lab2,R2,w⟩
   |bk ρ2=>rw[eb]at w;exact w
   |rt d=>rw[eb]at w;exact w
   |ex c=>rw[eb]at w;exact w
   |st=>rw[eb]at w;exact w
def yo(x:Str)(ga:En->Rs (List D)):En->Ou:=λ ρ=>(ga ρ).bo λ ds=>if ds.length<=zA0 then .ex x else .st
def aE7{rest:List Expr}(hd:C.dOk=true)(hm:C.mg x=some (.ref Ca))(hcl:C.G.cl x=Ca)(hC:tK C.K Ca)(ha:SA C m (yY::rest) ga)(he:∀i,zA4 (yY::rest) (C.X i).env=(false,eval yY (C.X i).env)::zA4 rest (C.X i).env:=by intro _;rfl)(hplain:∀i,(zCs cpos (zA4 rest (C.X i).env)).any (·.1)=false:=by intro _;rfl)(hdb:Nd x:=by decide)(hg:∀i,Gl (C.X i) x:=by intro _;rfl):SS C (.Raise (some (.Call (.Name x np) (yY::rest) [] cpos)) none pos) (yo x ga):=by
 obtain⟨t,h1,h2⟩:=ha;refine⟨_,λ i=>aFJ (C.dcx hd i) (C.calm i) (by rw[(C.cx i).2.2.2.1];exact hm) (by rw[C.hK i];exact hC) (hg i) (h1 i) (he i) (hplain i) hdb,λ U Z H ρ lab De R W=>h2 U Z H ρ lab _ R (W.bo.imp λ ds _ w vs H1 s r=>?_)⟩;by_cases hz:ds.length<=zA0
 .rw[if_pos hz]at w
  refine⟨by rw[r.length];exact hz,?_⟩
  have:=w H1 (R.old.trans s)
  rwa [hcl]at this
 .rw[if_neg hz]at w
  exact zAU w
def spF(K:zAA)(cl:Str->Addr)(n:Nat)(F:List D->Rs D):Sp:=λ vs H Q E=>∃ds,vs.length=n/\Rps K (λ _=>True) H vs ds/\WR ⟨H,E,cl⟩ (F ds) (λ d=>∀v H',aQ H H'->Rp K (λ p=>H p=none) H' v d->Q v H')
def aR(F:List D->Rs D)(ga:En->Rs (List D)):En->Rs D:=λ ρ=>(ga ρ).bd F
def aEd{K:zAA}(hn:∀ρ ds,ga ρ= .ok ds->ds.length=n)(h:aIz K G m t ga):gJ K G (some []) (aJJ (spF K G.cl n F) [] G.E t) (aR F ga):=by
 intro U Z H ρ lab Q R W;refine h U Z H ρ lab _ R (W.bd.imp λ ds eds w vs H1 s r=>⟨ds,by rw[zAx,r.length];exact hn ρ ds eds,by rw[zAx];exact r.wk λ _ _ _ _=>trivial,?_⟩);cases hF:F ds with
 |ok d=>
  rw[hF]at w;exact λ v H' s' r'=>w v H' (s.trans s') (r'.wk λ p o _ z=>.inl (s.free z))
 |ex c=>rw[hF]at w;exact λ H' s'=>w H' ((R.old.trans s).trans s')
 |st=>rw[hF]at w;exact w
variable{k:Nat}{fn:Addr}{fd:zBA}{ps:List Str}{x:Str}{p:Pos}{F:List D->Rs D}{n:Nat}
def aH5(hF:cP C.prog C.w C.K C.mg C.base (CX1 C.prog C.w) k fn fd ps (spF C.K C.G.cl n F))(hr:k<=C.k)(hm:C.mg x=some (.ref fn))(hk:zD2 C.K (.ref fn)=true)(hb:Binds C.K fd ps [])(ha:SA C m (e::es) ga)(hn:∀ρ ds,ga ρ= .ok ds->ds.length=n)(hdb:Nd x:=by decide)(he:∀i,zA4 (e::es) (C.X i).env=(false,eval e (C.X i).env)::zA4 es (C.X i).env:=by intro _;rfl)(hpl:∀i,(zCs pos (zA4 es (C.X i).env)).any (·.1)=false:=by intro _;rfl)(hg:∀i,Gl (C.X i) x:=by intro _;rfl):SE C (some []) (.Call (.Name x p) (e::es) [] pos) (aR F ga):=by
 obtain⟨t,h1,h2⟩:=ha;refine⟨_,λ i=>?_,aEd hn h2⟩;obtain⟨e1,e2,e3,e4,e5⟩:=C.cx i;refine aHr (CX:=CX1 (C.X i).prog (C.X i).w) (by rw[e1,e2,e3,e4,e5];exact hF) ((C.room i).mono hr) (hg i) (by rw[e4];exact hm) (by rw[e3];exact hk) (by rw[e3];exact hb) .nil (C.pass i) (h1 i) hdb (he i) (hpl i)
def aIP(h:aJ ρ= .ok ds):ds.length=0:=by cases h;rfl
def aFa(h:∀ρ ds,ga ρ= .ok ds->ds.length=n):∀ρ ds,aB fa ga ρ= .ok ds->ds.length=n+1:=λ ρ ds e=>by
 obtain⟨d,_,e⟩:=cG e;obtain⟨r,er,e⟩:=cG e;cases e;rw[zA6,h ρ r er]
end
def bY(mg:Str->Option Value):Str->Addr:=λ x=>match mg x with
 |some (.ref a)=>a
 |_=>0
abbrev ctD(P:zA7)(w:World)(K:zAA)(mg:Str->Option Value)(base:Heap)(N:List Str)(q:Str)(sc:Scope)(f:Addr)(cdv:Value)(A:zAt)(outer:List Env)(s:zAF)(H:Hp)(E:XK)(k:Nat)(hr:iw k (A.deeper (zFH q sc s.heap.objs.size f cdv))):Ct where
 ι:=Unit
 X:=λ _=>aBH (CX1 P w) P w K mg base N q sc f cdv A outer s H E
 prog:=P
 w:=w
 K:=K
 mg:=mg
 base:=base
 k:=k
 G:=⟨H,E,bY mg⟩
 cx:=λ _=>⟨rfl,rfl,rfl,rfl,rfl⟩
 calm:=λ _=>rfl
 room:=λ _=>hr
 own:=λ _=>iu.own iu.of
 pass:=λ _=>iu.pass iu.of
 dOk:=true
 dcx:=λ _ _=>iu.of
def bB(n:Nat)(ds:List D):En:=ds.map .sh++zAP (n-ds.length) .no
def fJ(n:Nat)(f:En->Ou):List D->Rs D:=λ ds=>match f (bB n ds)with
 | .nx _=>.ok .non
 | .rt d=>.ok d
 | .ex c=>.ex c
 |_=>.st
theorem RR.start{K:zAA}(r:Rps K (λ _=>True) H vs ds):RR K ⟨H,E,cl⟩ [] (bB N.length ds) (start N vs) H (λ _=>(0,0)):=by
 have hl:=r.length;refine⟨by unfold bB L2.start;simp[hl],λ i s e=>?_,aQ.refl H,λ p hp=>absurd rfl hp,λ q hq=>by cases hq⟩;unfold bB at e;by_cases hi:i<ds.length
 .rw[zAg (by simpa using hi),zAQ]at e
  cases ed:ds[i]? with
  |none=>rw[ed]at e;cases e
  |some d=>
   rw[ed]at e;cases e;obtain⟨x,ex,rx⟩:=r.getD ed;refine .inr ⟨x,?_,rx.wk λ _ _ _ _=>zAo _⟩;unfold L2.start;rw[zAg (by simpa[hl]using hi),zAQ,ex];rfl
 .rw[zBF (by simpa using hi),zCN]at e
  split at e
  .cases e;exact .inl rfl
  .cases e
section
variable{P:zA7}{w:World}{K:zAA}{mg:Str->Option Value}{base:Heap}
def aLX{x q:Str}{st:Stmt}(F:L2.Fun K x q st fn fd)(S:aX N ps (aP st))
  (hb:∀cdv A outer s H E hr,SSs (ctD P w K mg base N q (aP st) fn cdv A outer s H E k hr) (gC st) f):
  cP P w K mg base (CX1 P w) (k+1) fn fd ps (spF K (bY mg) ps.length (fJ N.length f)):=by
 refine F.okX S (λ vs H Q E ⟨ds,hl,_⟩=>hl) λ cdv A outer s H vs Q E hr ⟨ds,hl,r,W⟩=>?_
 obtain⟨t,h1,h2⟩:=hb cdv A outer s H E hr;refine⟨t,h1 (),h2 [] _ H _ _ _ (RR.start r) ?_⟩;unfold fJ at W;cases e:f (bB N.length ds)with
 |nx ρ=>rw[e]at W;exact λ Z' H' lab R=>W .non H' R.old .non
 |rt d=>rw[e]at W;exact λ v H' s r=>W v H' s r
 |ex c=>rw[e]at W;exact W
 |bk ρ=>rw[e]at W;exact zAU W
 |ct ρ=>rw[e]at W;exact zAU W
 |st=>rw[e]at W;exact zAU W
def aIf{st:Stmt}(F:L2.Fun K x q st fn fd)(S:aX N ps (aP st))
  (hb:∀cdv A outer s H E hr,SSs (ctD P w K mg base N q (aP st) fn cdv A outer s H E k hr) (gC st) f)(hn:ps.length=n)(hF:fJ N.length f=FF):
  cP P w K mg base (CX1 P w) (k+1) fn fd ps (spF K (bY mg) n FF):=by
 subst hn hF;exact aLX F S hb
end
def OpR.or(h:OpR X f r)(h':OpR X f r'):OpR X f (λ x y H Q=>r x y H Q\/r' x y H Q):=by
 intro kK s Z H x y v u Q I rx ry q;rcases q with q|q
 .exact h kK s Z H x y v u Q I rx ry q
 .exact h' kK s Z H x y v u Q I rx ry q
def OpS.or{K:zAA}(h:OpS K r fd)(h':OpS K r' fd'):OpS K (λ x y H Q=>r x y H Q\/r' x y H Q) (λ d e=>match fd d e with
  | .ok z=>.ok z
  |_=>fd' d e):=by
 intro A x y d e H Q z rx ry ez q;dsimp only at ez;cases hd:fd d e with
 |ok w=>rw[hd]at ez;cases ez;exact .inl (h A x y d e H Q _ rx ry hd q)
 |ex c=>rw[hd]at ez;exact .inr (h' A x y d e H Q z rx ry ez q)
 |st=>rw[hd]at ez;exact .inr (h' A x y d e H Q z rx ry ez q)
section
variable{K:zAA}
def i2(p:Int->Int->Bool)(g:Int->Int->D):D->D->Rs D
 | .int i,.int j=>if p i j=true then .ok (g i j)else .st
 |_,_=>.st
def aBr{g:Int->Int->Int}(hp:∀i j,p i j=true->c i j):OpS K (rI c λ i j=>.int (g i j)) (i2 p λ i j=>.int (g i j)):=by
 intro A x y d e H Q z rx ry ez q;unfold i2 at ez;split at ez
 .rename_i i j
  split at ez
  .rename_i h
   cases ez;obtain rfl:=rx.int_inv;obtain rfl:=ry.int_inv;exact⟨i,j,rfl,rfl,hp i j h,q _ H (aQ.refl H) (.int _)⟩
  .cases ez
 .cases ez
def aHx{g:Int->Int->Int}:OpS K (rI0 λ i j=>.int (g i j)) (i2 (λ _ _=>true) λ i j=>.int (g i j)):=by
 intro A x y d e H Q z rx ry ez q;unfold i2 at ez;split at ez
 .rename_i i j
  cases ez;obtain rfl:=rx.int_inv;obtain rfl:=ry.int_inv;exact⟨i,j,rfl,rfl,q _ H (aQ.refl H) (.int _)⟩
 .cases ez
def ue{g:Int->Int->Bool}:OpS K (rI0 λ i j=>.bl (g i j)) (i2 (λ _ _=>true) λ i j=>.bl (g i j)):=by
 intro A x y d e H Q z rx ry ez q;unfold i2 at ez;split at ez
 .rename_i i j
  cases ez;obtain rfl:=rx.int_inv;obtain rfl:=ry.int_inv;exact⟨i,j,rfl,rfl,q _ H (aQ.refl H) (.bl _)⟩
 .cases ez
def zN{g:Int->Int->Int}:∀x y z,i2 p (λ i j=>.int (g i j)) x y= .ok z->imm z=true:=by
 intro x y z e;unfold i2 at e;split at e
 .split at e
  .cases e;rfl
  .cases e
 .cases e
def aCP{g:Int->Int->Bool}:∀x y z,i2 p (λ i j=>.bl (g i j)) x y= .ok z->imm z=true:=by
 intro x y z e;unfold i2 at e;split at e
 .split at e
  .cases e;rfl
  .cases e
 .cases e
def cH:D->D->Rs D
 | .int i,.int j=>.ok (.int (i+j))
 | .lst l,.lst m=>if l.length+m.length<=zA0 then .ok (.lst (l++m))else .st
 | .tup l,.tup m=>if l.length+m.length<=zA0 then .ok (.tup (l++m))else .st
 |_,_=>.st
def aJ1(K:zAA):R2:=λ x y H Q=>∃a b xs ys,x= .ref a/\y= .ref b/\SqT K H a xs/\SqT K H b ys/\xs.length+ys.length<=zA0/\
 (xs=[]->Q (.ref b) H)/\(ys=[]->Q (.ref a) H)/\New H (.tup (xs++ys)) Q
def aIB:OpR X (zCl .Add) (aJ1 X.K):=by
 intro kK s Z H x y v u Q I rx ry h;obtain⟨a,b,xs,ys,rfl,rfl,ha,hb,hz,q0,q1,q2⟩:=h;by_cases hx:xs=[]
 .subst hx
  cases rx;cases ry;obtain⟨its,r1,p1,_⟩:=I.tuple ha;obtain⟨its2,r2,p2,_⟩:=I.tuple hb;cases r1;exact HT.aG7 p1 p2 ⟨.ref b,H,I,rfl,q0 rfl⟩
 .exact aIC kK s Z H _ _ v u Q I rx ry ⟨a,b,xs,ys,rfl,rfl,ha,hb,hx,hz,q1,λ _ p hp=>q2.at hp⟩
def aFB(K:zAA):R2:=λ x y H Q=>rI0 (λ i j=>.int (i+j)) x y H Q\/(aJ2 x y H Q\/aJ1 K x y H Q)
def aIE:OpR X (zCl .Add) (aFB X.K):=OpR.or aKn (OpR.or aID aIB)
def aK7:OpS K (aFB K) cH:=by
 intro A x y d e H Q z rx ry ez q;unfold cH at ez;split at ez
 .cases ez;obtain rfl:=rx.int_inv;obtain rfl:=ry.int_inv;exact .inl ⟨_,_,rfl,rfl,q _ H (aQ.refl H) (.int _)⟩
 .split at ez
  .rename_i hl
   cases ez;obtain⟨_,_,rfl,h1,m1,r1⟩:=rx.lst_inv;obtain⟨_,_,rfl,h2,m2,r2⟩:=ry.lst_inv;refine .inr (.inl ⟨_,_,_,_,rfl,rfl,h1,h2,by rw[r1.length,r2.length];exact hl,λ p H' s hp hn=>q _ H' s (.lst hp (.inl hn) ?_)⟩);exact(((r1.wk λ _ _ _ z=>z.1).append (r2.wk λ _ _ _ z=>z.1)).wk (A':=λ q=>(H q=none\/A q)/\q≠p) λ q o e z=>⟨.inr z,λ e'=>by subst e';rw[hn]at e;cases e⟩).up s
  .cases ez
 .split at ez
  .rename_i hl
   cases ez;obtain⟨_,_,rfl,h1,r1⟩:=rx.tup_inv;obtain⟨_,_,rfl,h2,r2⟩:=ry.tup_inv;have r1':=r1.wk (A':=λ p=>H p=none\/A p) λ _ _ _ z=>.inr z
   have r2':=r2.wk (A':=λ p=>H p=none\/A p) λ _ _ _ z=>.inr z
   refine .inr (.inr ⟨_,_,_,_,rfl,rfl,h1,h2,by rw[r1.length,r2.length];exact hl,λ e=>?_,λ e=>?_,λ p H' s hp hn=>q _ H' s (.tup (SqT.of hp) ((r1'.append r2').up s))⟩)
   .subst e
    cases r1';exact q _ H (aQ.refl H) (.tup h2 r2')
   .subst e
    cases r2';rw[zAx]at q;exact q _ H (aQ.refl H) (.tup h1 r1')
  .cases ez
 .cases ez
def gF:D->D->Rs D
 | .int i,.int j=>if (decide (-(2^64)<i)&&decide (i<2^64))||(decide (-(2^64)<j)&&decide (j<2^64))then .ok (.int (i*j))else .st
 | .lst l,.int k=>if decide (-(2^63)<=k)&&decide (k<2^63)&&decide (l.length*k.toNat<=zA0)&&mz l then .ok (.lst (zAP k.toNat l).flatten)else .st
 |_,_=>.st
theorem Rps.rep(r:Rps K A H xs ds):∀k:Nat,Rps K A H (zAP k xs).flatten (zAP k ds).flatten
 |0=>.nil
 |k+1=>by
  rw[zCF,zCF,zCD,zCD];exact r.append (Rps.rep r k)
def aJV:R2:=λ x y H Q=>rI aJE (λ i j=>.int (i*j)) x y H Q\/aLy x y H Q
def aHz:OpR X (zCl .Mult) aJV:=OpR.or aKc aK9
def aK6:OpS K aJV gF:=by
 intro A x y d e H Q z rx ry ez q;unfold gF at ez;split at ez
 .split at ez
  .rename_i hc
   cases ez;obtain rfl:=rx.int_inv;obtain rfl:=ry.int_inv;refine .inl ⟨_,_,rfl,rfl,?_,q _ H (aQ.refl H) (.int _)⟩;simp only[zGF,zAa,decide_eq_true_eq]at hc;exact hc
  .cases ez
 .split at ez
  .rename_i hc
   simp only[zAa,decide_eq_true_eq]at hc;cases ez;obtain⟨_,_,rfl,h1,m1,r1⟩:=rx.lst_inv;obtain rfl:=ry.int_inv;refine .inr ⟨_,_,_,rfl,rfl,h1,hc.1.1.1,hc.1.1.2,by rw[r1.length];exact hc.1.2,λ p hp=>q _ _ (ao hp _) (.lst aa (.inl hp) ?_)⟩;exact((r1.rep _).wk (A':=λ q=>(H q=none\/A q)/\q≠p) λ q o e z=>⟨.inr z.1,λ e'=>by subst e';rw[hp]at e;cases e⟩).up (ao hp _)
  .cases ez
 .cases ez
def intsOf:List D->Option (List Int)
 |[]=>some []
 | .int i::r=>(intsOf r).map (i::·)
 |_=>none
theorem bM:∀{l:List D} {ns:List Int},intsOf l=some ns->l=ns.map .int
 |[],ns,h=>by cases h;rfl
 | .int i::r,ns,h=>by
  simp only[intsOf,zCS]at h;obtain⟨ms,h1,rfl⟩:=h;rw[bM h1];rfl
 | .non::_,_,h=>by cases h
 | .bl _::_,_,h=>by cases h
 | .str _::_,_,h=>by cases h
 | .tup _::_,_,h=>by cases h
 | .lst _::_,_,h=>by cases h
 | .dct _ _::_,_,h=>by cases h
 | .set _::_,_,h=>by cases h
 | .scr _::_,_,h=>by cases h
theorem b8:∀ns:List Int,intsOf (ns.map .int)=some ns
 |[]=>rfl
 |n::ns=>by simp only[zAG,intsOf,b8 ns,zCr]
def ltT(p:List Int->List Int->Bool):D->D->Rs D
 | .tup l,.tup m=>match intsOf l,intsOf m with
  |some ns,some ms=>.ok (.bl (p ns ms))
  |_,_=>.st
 |_,_=>.st
def aCg(r:Rp K A H x (.tup l))(e:intsOf l=some ns):∃a,x= .ref a/\SqT K H a (ns.map V.int):=by
 have:=bM e
 subst this;cases r with
 |tup h r=>
  have:=r.ints_of
  subst this;exact⟨_,rfl,h⟩
def aCo(hr:∀x y H Q,(∃a b ns ms,x= .ref a/\y= .ref b/\SqT K H a (ns.map V.int)/\SqT K H b (ms.map V.int)/\Q (.bl (p ns ms)) H)->r x y H Q):OpS K r (ltT p):=by
 intro A x y d e H Q z rx ry ez q;unfold ltT at ez;split at ez
 .split at ez
  .rename_i ns ms e1 e2
   cases ez;obtain⟨a,rfl,ha⟩:=aCg rx e1;obtain⟨b,rfl,hb⟩:=aCg ry e2;exact hr _ _ _ _ ⟨a,b,ns,ms,rfl,rfl,ha,hb,q _ H (aQ.refl H) (.bl _)⟩
  .cases ez
 .cases ez
def ltD:D->D->Rs D:=λ d e=>match i2 (λ _ _=>true) (λ i j=>.bl (decide (i<j))) d e with
 | .ok z=>.ok z
 |_=>ltT HT.lexLt d e
def leD:D->D->Rs D:=λ d e=>match i2 (λ _ _=>true) (λ i j=>.bl (decide (i<=j))) d e with
 | .ok z=>.ok z
 |_=>ltT HT.lexLe d e
def gtD:D->D->Rs D:=i2 (λ _ _=>true) (λ i j=>.bl (decide (j<i)))
def geD:D->D->Rs D:=i2 (λ _ _=>true) (λ i j=>.bl (decide (j<=i)))
def aKe(hu:X.A.units<cLine):OpR X (zBK .Lt) (λ x y H Q=>rI0 (λ i j=>.bl (decide (i<j))) x y H Q\/aH9 X.K x y H Q):=OpR.or aMK (aKf hu)
def aKg(hu:X.A.units<cLine):OpR X (zBK .LtE) (λ x y H Q=>rI0 (λ i j=>.bl (decide (i<=j))) x y H Q\/aHa X.K x y H Q):=OpR.or aML (aKh hu)
def aJ7:OpS K (λ x y H Q=>rI0 (λ i j=>.bl (decide (i<j))) x y H Q\/aH9 K x y H Q) ltD:=OpS.or ue (aCo λ _ _ _ _ h=>h)
def aFW:OpS K (λ x y H Q=>rI0 (λ i j=>.bl (decide (i<=j))) x y H Q\/aHa K x y H Q) leD:=OpS.or ue (aCo λ _ _ _ _ h=>h)
def aDE(e:ltT p x y= .ok z):imm z=true:=by
 unfold ltT at e;split at e
 .split at e
  .cases e;rfl
  .cases e
 .cases e
def aLK:∀x y z,ltD x y= .ok z->imm z=true:=by
 intro x y z e;unfold ltD at e;split at e
 .rename_i w hw;cases e;exact aCP _ _ _ hw
 .exact aDE e
def aLL:∀x y z,leD x y= .ok z->imm z=true:=by
 intro x y z e;unfold leD at e;split at e
 .rename_i w hw;cases e;exact aCP _ _ _ hw
 .exact aDE e
def isD(neg:Bool):D->D->Rs D
 | .bl a,.bl b=>if neg then .st else .ok (.bl (a==b))
 |d,.non=>match d with
  | .non=>.ok (.bl (!neg))
  |_=>.ok (.bl neg)
 |_,_=>.st
def aKi:OpR X (zBK .Is) (λ x y H Q=>(∃b c,x= .bl b/\y= .bl c/\Q (.bl (b==c)) H)\/(y= .non/\Q (.bl (decide (x= .non))) H)):=OpR.or aF0 aKj
def aEp(r:Rp K A H x d)(h:d≠.non):x≠.non:=by
 cases r with
 |non=>exact absurd rfl h
 |_=>exact λ e=>by cases e
def aMJ:OpS K (λ x y H Q=>(∃b c,x= .bl b/\y= .bl c/\Q (.bl (b==c)) H)\/(y= .non/\Q (.bl (decide (x= .non))) H)) (isD false):=by
 intro A x y d e H Q z rx ry ez q;unfold isD at ez;split at ez
 .cases ez;cases rx;cases ry;exact .inl ⟨_,_,rfl,rfl,q _ H (aQ.refl H) (.bl _)⟩
 .cases ry
  split at ez
  .cases ez;cases rx;exact .inr ⟨rfl,by rw[decide_eq_true rfl];exact q _ H (aQ.refl H) (.bl _)⟩
  .rename_i hn
   cases ez;exact .inr ⟨rfl,by rw[decide_eq_false (aEp rx hn)];exact q _ H (aQ.refl H) (.bl _)⟩
 .cases ez
def aA2:OpS K (λ x y H Q=>y= .non/\Q (.bl (!decide (x= .non))) H) (isD true):=by
 intro A x y d e H Q z rx ry ez q;unfold isD at ez;split at ez
 .cases ez
 .cases ry
  split at ez
  .cases ez;cases rx;exact⟨rfl,by rw[decide_eq_true rfl];exact q _ H (aQ.refl H) (.bl _)⟩
  .rename_i hn
   cases ez;exact⟨rfl,by rw[decide_eq_false (aEp rx hn)];exact q _ H (aQ.refl H) (.bl _)⟩
 .cases ez
def aFs:∀x y z,isD n x y= .ok z->imm z=true:=by
 intro x y z e;unfold isD at e;split at e
 .split at e
  .cases e
  .cases e;rfl
 .split at e<;>(cases e;rfl)
 .cases e
def aA7:D->Rs D
 | .int i=>.ok (.int (-i))
 |_=>.st
def aJm:UnS K (rU λ i=>.int (-i)) aA7:=by
 intro A x d H Q z rx ez q;cases rx with
 |int i=>cases ez;exact⟨i,rfl,q _ H (aQ.refl H) (.int _)⟩
 |_=>cases ez
def aI3:∀x z,aA7 x= .ok z->imm z=true:=by
 intro x z e;cases x with
 |int i=>cases e;rfl
 |_=>cases e
def atD(l:List D)(i:Int):Rs D:=match atI l i with
 |some d=>.ok d
 |none=>.st
def ixD:D->D->Rs D
 | .tup l,.int i=>atD l i
 | .lst l,.int i=>atD l i
 | .scr l,.int i=>atD (l.map .int) i
 |_,_=>.st
theorem Rps.at(r:Rps K A H xs ds)(e:atI ds i=some d):∃x,atI xs i=some x/\Rp K A H x d:=by
 unfold atI at e ⊢;rw[r.length];cases h:ixN ds.length i with
 |none=>rw[h]at e;cases e
 |some j=>
  rw[h]at e;obtain⟨x,e1,e2⟩:=r.getD (i:=j) (d:=d) e;exact⟨x,e1,e2⟩
def aMI:OpS K (rIx K) ixD:=by
 intro A x y d e H Q z rx ry ez q;unfold ixD at ez;split at ez
 .unfold atD at ez
  split at ez
  .rename_i w hw
   cases ez;obtain⟨_,_,rfl,h,r⟩:=rx.tup_inv;obtain rfl:=ry.int_inv;obtain⟨v,e1,e2⟩:=r.at hw;exact .inr (.inl ⟨_,_,_,v,rfl,rfl,h,e1,q v H (aQ.refl H) (e2.wk λ _ _ _ z=>.inr z)⟩)
  .cases ez
 .unfold atD at ez
  split at ez
  .rename_i w hw
   cases ez;obtain⟨_,_,rfl,h,m,r⟩:=rx.lst_inv;obtain rfl:=ry.int_inv;obtain⟨v,e1,e2⟩:=r.at hw;exact .inl ⟨_,_,_,v,rfl,rfl,SqL.of h,e1,q v H (aQ.refl H) (e2.wk λ _ _ _ z=>.inr z.1)⟩
  .cases ez
 .unfold atD at ez
  split at ez
  .rename_i w hw
   cases ez;obtain⟨_,rfl,h⟩:=rx.scr_inv;obtain rfl:=ry.int_inv;obtain⟨v,e1,e2⟩:=(Rps.ints (K:=K) (A:=A) (H:=H)).at hw;exact .inl ⟨_,_,_,v,rfl,rfl,h.sq,e1,q v H (aQ.refl H) (e2.wk λ _ _ _ z=>.inr z)⟩
  .cases ez
 .cases ez
def iW:List D->Rs D
 |[.tup l]=>.ok (.int l.length)
 |[.lst l]=>.ok (.int l.length)
 |[.scr l]=>.ok (.int l.length)
 |_=>.st
def aG5:oA K (λ xs H Q=>∃p ys,xs=[.ref p]/\(SqL K H p ys\/SqT K H p ys)/\Q (.int ys.length) H) iW:=by
 intro A xs ds H Q z r ez q;unfold iW at ez;split at ez
 .cases ez
  obtain⟨_,rfl,h0⟩:=r.one_inv;obtain⟨_,_,rfl,h,r⟩:=h0.tup_inv;exact⟨_,_,rfl,.inr h,by rw[r.length];exact q _ H (aQ.refl H) (.int _)⟩
 .cases ez
  obtain⟨_,rfl,h0⟩:=r.one_inv;obtain⟨_,_,rfl,h,m,r⟩:=h0.lst_inv;exact⟨_,_,rfl,.inl (SqL.of h),by rw[r.length];exact q _ H (aQ.refl H) (.int _)⟩
 .cases ez
  obtain⟨_,rfl,h0⟩:=r.one_inv;obtain⟨_,rfl,h⟩:=h0.scr_inv;exact⟨_,_,rfl,.inl h.sq,by rw[zAE];exact q _ H (aQ.refl H) (.int _)⟩
 .cases ez
def aDG:∀x z,iW x= .ok z->imm z=true:=by
 intro x z e;unfold iW at e;split at e<;>first|(cases e;rfl)|cases e
def tyD:D->String
 | .non=>"NoneType"| .bl _=>"bool"| .int _=>"int"| .str _=>"str"| .tup _=>"tuple"| .lst _=>"list"| .dct _ _=>"dict"| .set _=>"set"| .scr _=>"script"| .fn _=>"function"
def j9(T:String):D->Rs D:=λ d=>if nT (tyD d) T true=true then .ok (.bl true)else if nT (tyD d) T false=true then .ok (.bl false)else .st
def aJX(K:zAA)(T:String):List V->Hp->VK->Prop:=λ xs H Q=>∃x d A b,xs=[x,.ty T]/\Rp K A H x d/\nT (tyD d) T b=true/\Q (.bl b) H
def aEH:cI X (.builtin "isinstance") (aJX X.K T):=by
 intro kK s Z H xs us Q I rv h;obtain⟨x,d,A,b,rfl,rd,ok,q⟩:=h;cases rd with
 |tup h r=>
  obtain⟨u,w',rfl,ru,rw'⟩:=vals2 rv;cases ru;cases rw';obtain⟨its,_,⟨o,h1,h2,_⟩,_⟩:=I.tuple h;exact zB4 zHE I.kIn ⟨o,h1,h2⟩ (aCJ ok) (λ z=>nomatch z) λ tk=>⟨.bl b,H,I.tok _,rfl,q⟩
 |set h m hS nd=>cases b<;>simp[nT,tyD]at ok
 |scr h=>cases b<;>simp[nT,tyD]at ok
 |fn h=>cases b<;>simp[nT,tyD]at ok
 |non=>exact jh kK s Z H _ us Q I rv ⟨_,T,_,b,rfl,.non,ok,q⟩
 |bl c=>exact jh kK s Z H _ us Q I rv ⟨_,T,_,b,rfl,.bl c,ok,q⟩
 |int c=>exact jh kK s Z H _ us Q I rv ⟨_,T,_,b,rfl,.int c,ok,q⟩
 |str c=>exact jh kK s Z H _ us Q I rv ⟨_,T,_,b,rfl,.str c,ok,q⟩
 |lst h m r=>exact jh kK s Z H _ us Q I rv ⟨_,T,_,b,rfl,.lst h,ok,q⟩
 |dK h m r=>exact jh kK s Z H _ us Q I rv ⟨_,T,_,b,rfl,.dK h,ok,q⟩
 |dT h m r=>
  obtain⟨u,w',rfl,ru,rw'⟩:=vals2 rv;cases ru;cases rw';obtain⟨⟨_,_,_,o,_,_,_,h1,h2,_⟩,_⟩:=(show bu X.prog X.w H s.heap _ (dxO _ _)from I.hok _ _ h.at_);exact zB4 zFS I.kIn ⟨o,h1,h2.1⟩ (aCJ ok) (λ z=>nomatch z) λ tk=>⟨.bl b,H,I.tok _,rfl,q⟩
end
section
variable{C:Ct}{pos p p2:Pos}{m:Mode}{a:Expr}{fa:En->Rs D}
def jw(ha:SE C m a fa)(hm:C.mg "isinstance"=none)(hmT:C.mg x=none)(hn:x≠"__name__":=by decide)(hd:Nd x:=by decide)(he:∀i,zA4 [a,.Name x p2] (C.X i).env=(false,eval a (C.X i).env)::zA4 [.Name x p2] (C.X i).env:=by intro _;rfl)(hpl:∀i,(zCs pos (zA4 [.Name x p2] (C.X i).env)).any (·.1)=false:=by intro _;rfl)(hg:∀i,Gl (C.X i) "isinstance":=by intro _;rfl)(hv:zBO "isinstance"=some (.builtin "isinstance"):=by decide+kernel)(hgT:∀i,Gl (C.X i) x:=by intro _;rfl)(hvT:zBO x=some (.type T):=by decide+kernel):
  SE C (some []) (.Call (.Name "isinstance" p) [a,.Name x p2] [] pos) (op1 (j9 T) fa):=by
 obtain⟨t,h1,h2⟩:=ha;refine⟨tCB (aJX C.K T) (iy t (iy (tC (.ty T)) sZ)),λ i=>?_,λ U Z H ρ lab Q R W=>?_⟩
 .rw[<-C.hK i]
  exact jZ aEH (hg i) (by rw[(C.cx i).2.2.2.1];exact hm) hv (cj (h1 i) (cj (aHs (v:=.ty T) (hgT i) (by rw[(C.cx i).2.2.2.1];exact hmT) hvT rfl hn hd) gQ) (he i)) (by decide) (by decide) (he i) (hpl i)
 .refine h2 U Z H ρ lab _ R (W.bd.imp λ d _ w x H1 s1 r1=>?_)
  obtain⟨z,ez,w⟩:=w.okD;unfold j9 at ez;split at ez
  .rename_i h;cases ez;exact⟨x,d,_,true,rfl,r1,h,w _ H1 s1 (.bl _)⟩
  .split at ez
   .rename_i h;cases ez;exact⟨x,d,_,false,rfl,r1,h,w _ H1 s1 (.bl _)⟩
   .cases ez
end
def sW:Slot->Slot
 | .ow d=>.sh d
 | .nw d=>.sh d
 | .oz d=>.sh d
 | .o2 l=>.sh (.lst (l.map .lst))
 |s=>s
def shE(ρ:En):En:=ρ.map sW
def stV(js:kX)(Z:L2.St):L2.St:=js.map λ o=>o.bind λ j=>(Z[j]?).join
def stE(js:kX)(ρ:En):En:=js.map λ o=>match o with
 |none=>.no
 |some j=>(ρ[j]?).getD .no
def aH6{K:zAA}(h:fV K H lab i v s):∃d,(s= .no\/sW s= .sh d)/\(s= .no\/Rp K (λ _=>True) H v d):=by
 cases s with
 |no=>exact⟨.non,.inl rfl,.inl rfl⟩
 |sh d=>exact⟨d,.inr rfl,.inr (Rp.wk (λ _ _ _ _=>trivial) h)⟩
 |nw d=>exact⟨d,.inr rfl,.inr (Rp.wk (λ _ _ _ _=>trivial) h)⟩
 |ow d=>exact⟨d,.inr rfl,.inr (Rp.wk (λ _ _ _ _=>trivial) h.1)⟩
 |oz d=>exact⟨d,.inr rfl,.inr (Rp.wk (λ _ _ _ _=>trivial) (aJ6 h))⟩
 |o2 l=>exact⟨_,.inr rfl,.inr (Rp.wk (λ _ _ _ _=>trivial) (aF2 h))⟩
theorem RR.shE{K:zAA}(R:RR K G U ρ Z H lab):RR K G U (shE ρ) Z H (λ _=>(0,0)):=by
 refine⟨by unfold VL.shE;rw[zAE];exact R.len,λ i s e=>?_,R.old,λ p hp=>absurd rfl hp,λ q hq=>(R.tm q hq).wk λ _ _ _ _=>zAo _⟩;unfold VL.shE at e;rw[zAQ]at e;cases e0:ρ[i]? with
 |none=>rw[e0]at e;cases e
 |some s0=>
  rw[e0]at e;cases e;rcases R.sl i s0 e0 with rfl|⟨v,ev,hv⟩
  .exact .inl rfl
  .obtain⟨d,h1,h2⟩:=aH6 hv
   rcases h1 with rfl|h1
   .exact .inl rfl
   .rcases h2 with rfl|h2
    .exact .inl rfl
    .exact .inr ⟨v,ev,by rw[h1];exact h2.wk λ _ _ _ _=>zAo _⟩
def aE6{i:Nat}(e:(stE js ρ)[i]? =some s):s= .no\/∃j,js[i]? =some (some j)/\ρ[j]? =some s:=by
 unfold stE at e;rw[zAQ]at e;cases ej:js[i]? with
 |none=>rw[ej]at e;cases e
 |some o=>
  rw[ej]at e;cases o with
  |none=>cases e;exact .inl rfl
  |some j=>
   cases er:ρ[j]? with
   |none=>simp[er]at e;exact .inl e.symm
   |some s'=>simp[er]at e;subst e;exact .inr ⟨j,rfl,er⟩
def RR.block{K:zAA}{U:List (V×D)}(R:RR K G U (VL.shE ρ) Z H lab)(hz:∀p,(lab p).1<=1)(hl:H l=none):
  RR K G U (stE js (VL.shE ρ)) (stV js Z) H (λ p=>if p=l then(2,0)else(0,0)):=by
 have nl:∀p o,H p=some o->p≠l:=λ p o e z=>by subst z;rw[hl]at e;cases e
 refine⟨by unfold stE stV;rw[zAE,zAE],λ i s e=>?_,R.old,λ p hp=>?_,λ q hq=>(R.tm q hq).wk λ p o e _=>by rw[if_neg (nl p o e)];exact zAo _⟩
 .rcases aE6 e with rfl|⟨j,ej,es⟩
  .exact .inl rfl
  .rcases R.sl j s es with rfl|⟨v,ev,hv⟩
   .exact .inl rfl
   .refine .inr ⟨v,?_,?_⟩
    .unfold stV
     rw[zAQ,ej];simp[ev]
    .unfold VL.shE at es
     rw[zAQ]at es;cases e0:ρ[j]? with
     |none=>rw[e0]at es;cases es
     |some s0=>
      rw[e0]at es;cases es;cases s0 with
      |no=>trivial
      |oz d=>exact Rp.wk (λ p o e _=>by show(if p=l then((2,0):Nat×Nat)else(0,0)).1<=1;rw[if_neg (nl p o e)];exact zAo _) hv
      |nw d=>exact Rp.wk (λ p o e _=>by show(if p=l then((2,0):Nat×Nat)else(0,0)).1<=1;rw[if_neg (nl p o e)];exact zAo _) hv
      |sh d=>exact Rp.wk (λ p o e _=>by show(if p=l then((2,0):Nat×Nat)else(0,0)).1<=1;rw[if_neg (nl p o e)];exact zAo _) hv
      |ow d=>exact Rp.wk (λ p o e _=>by show(if p=l then((2,0):Nat×Nat)else(0,0)).1<=1;rw[if_neg (nl p o e)];exact zAo _) hv
      |o2 d=>exact Rp.wk (λ p o e _=>by show(if p=l then((2,0):Nat×Nat)else(0,0)).1<=1;rw[if_neg (nl p o e)];exact zAo _) hv
 .by_cases hp':p=l
  .subst hp';exact R.old.free hl
  .exact absurd (show(if p=l then((2,0):Nat×Nat)else(0,0)).1=0 by rw[if_neg hp']) hp
def aMx(XN N:List Str)(js:kX)(ks:List Nat)(sc:Scope):Bool:=(zAr js.length).all λ i=>match js[i]? with
 |some (some j)=>match N[i]?,XN[j]? with
  |some x,some y=>x==y&&sc.names.lookup x==some .free&& !ks.contains i
  |_,_=>false
 |_=>true
def z6(h1:sc.kind= .function)(h2:(sc.names.all λ y=>y.2 != .cell||sc.names.lookup y.1==some .cell)=true)(h3:(sc.names.all λ y=>y.2 != .local||sc.names.lookup y.1==some .local)=true)
  (h4:(sc.names.all λ y=>y.2 != .free||(X.env.kindOf y.1==some .cell||X.env.kindOf y.1==some .free))=true)(h5:js.length=N.length)(h6:aMx X.N N js ks sc=true):dD X sc N (stV js) ks:=by
 refine⟨h1,λ y hy e=>?_,λ y hy e=>?_,λ y hy e=>?_,λ Z=>by unfold stV;rw[zAE];exact h5,λ Z i x v e1 e2=>?_⟩
 .have:=zB6.mp h2 y hy
  rw[e]at this;simpa using this
 .have:=zB6.mp h3 y hy
  rw[e]at this;simpa using this
 .have:=zB6.mp h4 y hy
  rw[e]at this;simpa using this
 .unfold stV at e2
  rw[zAQ]at e2;cases ej:js[i]? with
  |none=>rw[ej]at e2;cases e2
  |some o=>
   rw[ej]at e2;cases o with
   |none=>cases e2
   |some j=>
    have hi:i<js.length:=(zAI.mp ej).1
    have:=zB6.mp h6 i (zCG.mpr hi)
    rw[ej,e1]at this;dsimp only at this;cases ey:X.N[j]? with
    |none=>rw[ey]at this;cases this
    |some y=>
     rw[ey]at this;simp only[zAa,beq_iff_eq,zDB]at this;obtain⟨⟨h,h'⟩,h''⟩:=this;subst h;refine⟨h',λ hk=>?_,j,ey,?_⟩
     .rw[List.contains_iff_mem.mpr hk]at h'';cases h''
     .simp only[zCr,zDH,Option.some.injEq]at e2
      cases es:Z[j]? with
      |none=>rw[es]at e2;cases e2
      |some w=>rw[es]at e2;simp at e2;subst e2;rfl
abbrev Ct.blk(C:Ct)(sc:Scope)(N:List Str):Ct where
 ι:=C.ι×Addr×List Addr×zAF×Hp
 X:=λ i=>(C.X i.1).block sc i.2.1 N i.2.2.1 i.2.2.2.1 i.2.2.2.2
 prog:=C.prog
 w:=C.w
 K:=C.K
 mg:=C.mg
 base:=C.base
 k:=C.k
 G:={C.G with E:=λ _ _ _=>False}
 cx:=λ i=>C.cx i.1
 calm:=λ i=>C.calm i.1
 room:=λ i=>C.room i.1
 own:=λ i=>PassesOwn.never
 pass:=λ i kK Z H s e s' I h=>by obtain⟨_,_,_,_,_,_,_,_,_,_,_,_,_,hE⟩:=h;exact hE
 dOk:=false
 dcx:=λ h=>absurd h zAS
def lcL(ρ:En)(fg:D->En->Rs En)(ft:En->Rs Bool)(fe:En->Rs D):List D->Rs (List D)
 |[]=>.ok []
 |d::ds=>(fg d ρ).bd λ ρ1=>(ft ρ1).bd λ k=>if k=true then(fe ρ1).bd λ y=>(lcL ρ fg ft fe ds).bd λ ys=>.ok (y::ys)else lcL ρ fg ft fe ds
def lcD(fi:En->Rs (List D))(js:kX)(fg:D->En->Rs En)(ft:En->Rs Bool)(fe:En->Rs D):En->Rs D:=λ ρ=>(fi (shE ρ)).bd λ ds=>
 if ds.length<zA0 then(match lcL (stE js (shE ρ)) fg ft fe ds with
  | .ok l=>.ok (.lst l)
  |_=>.st)else .st
def aGm(C:Ct)(ifs:List Expr)(f:En->Rs Bool):Prop:=∃t,(∀i,aBQ (C.X i) ifs t)/\aC2 C.K C.G t f
def aBU:En->Rs Bool:=λ _=>.ok true
def yS:aGm C [] aBU:=⟨_,λ _=>aKY,λ U Z H ρ lab Q R W=>W H (aQ.refl H)⟩
def uQ(h:ST C c f):aGm C [c] f:=let⟨t,h1,h2⟩:=h;⟨t,λ i=>aKX (h1 i),h2⟩
def aAn(h:lcL ρ fg ft fe (d::ds)= .ok l):
  ∃ρ1 k,fg d ρ= .ok ρ1/\ft ρ1= .ok k/\((k=true/\∃y ys,fe ρ1= .ok y/\lcL ρ fg ft fe ds= .ok ys/\l=y::ys)\/(k=false/\lcL ρ fg ft fe ds= .ok l)):=by
 unfold lcL at h;obtain⟨ρ1,e1,h⟩:=cG h;obtain⟨k,e2,h⟩:=cG h;refine⟨ρ1,k,e1,e2,?_⟩;cases k with
 |true=>
  rw[if_pos rfl]at h;obtain⟨y,e3,h⟩:=cG h;obtain⟨ys,e4,h⟩:=cG h;cases h;exact .inl ⟨rfl,y,ys,e3,e4,rfl⟩
 |false=>
  rw[if_neg zAS]at h;exact .inr ⟨rfl,h⟩
def RR.but_blk{K:zAA}{U:List (V×D)}(R:RR K G U (stE js (VL.shE ρ)) Z H (λ p=>if p=l then(2,0)else(0,0)))(B:jo l H H')(hl:H l=some o)(ho:jC o=true)(h0:G.H0 l=none):
  RR K G U (stE js (VL.shE ρ)) Z H' (λ p=>if p=l then(2,0)else(0,0)):=by
 have dQ:¬((λ p=>if p=l then((2,0):Nat×Nat)else(0,0)) l).1<=1:=by simp
 refine⟨R.len,λ j s e=>?_,λ b o hb=>?_,R.new,λ q hq=>(R.tm q hq).but B hl ho dQ⟩
 .rcases R.sl j s e with z|⟨u,e1,e2⟩
  .exact .inl z
  .refine .inr ⟨u,e1,?_⟩
   rcases aE6 e with rfl|⟨jx,ej,es⟩
   .trivial
   .unfold VL.shE at es
    rw[zAQ]at es;cases e0:ρ[jx]? with
    |none=>rw[e0]at es;cases es
    |some s0=>rw[e0]at es;cases es;cases s0<;>first|trivial|exact Rp.but B hl ho dQ e2
 .exact B b o (λ z=>by subst z;rw[h0]at hb;cases hb) (R.old b o hb)
def RR.blk0{K:zAA}(R:RR K G U (VL.shE ρ) Z H lab)(hG:G'.H0=G.H0):RR K G' U (VL.shE ρ) Z H (λ _=>(0,0)):=by
 refine⟨R.len,λ i s e=>?_,by rw[hG];exact R.old,λ p hp=>absurd rfl hp,λ q hq=>(R.tm q hq).wk λ _ _ _ _=>zAo _⟩;rcases R.sl i s e with rfl|⟨v,ev,hv⟩
 .exact .inl rfl
 .unfold VL.shE at e
  rw[zAQ]at e;cases e0:ρ[i]? with
  |none=>rw[e0]at e;cases e
  |some s0=>rw[e0]at e;cases e;cases s0<;>first|exact .inl rfl|exact .inr ⟨v,ev,Rp.wk (λ _ _ _ _=>zAo _) hv⟩
section
variable{K:zAA}{G:Gx}{wi:TI}{fi:En->Rs (List D)}{js:kX}{g:TG}{fg:D->En->Rs En}{tt:TT}{ft:En->Rs Bool}{te:TE}{fe:En->Rs D}
def aEc(hi:aIx K G wi fi)(hg:aIy K {G with E:=λ _ _ _=>False} g fg)(ht:aC2 K {G with E:=λ _ _ _=>False} tt ft)(he:gJ K {G with E:=λ _ _ _=>False} (some []) te fe):
  gJ K G (some []) (tLC wi (stV js) g tt te) (lcD fi js fg ft fe):=by
 intro U Z H ρ lab Q R W;refine hi U Z H _ _ _ R.shE (W.bd.imp λ ds _ w J H1 lab1 U1 s1 _ R1 jl=>?_);intro l hl;obtain⟨oQ,out,aI,w⟩:ds.length<zA0/\∃out,lcL (stE js (VL.shE ρ)) fg ft fe ds= .ok out/\QE K (some []) lab H Q (.lst out):=by
  by_cases oQ:ds.length<zA0
  .rw[if_pos oQ]at w
   cases aI:lcL (stE js (VL.shE ρ)) fg ft fe ds with
   |ok out=>rw[aI]at w;exact⟨oQ,out,rfl,w⟩
   |ex c=>rw[aI]at w;exact zAU w
   |st=>rw[aI]at w;exact zAU w
  .rw[if_neg oQ]at w
   exact zAU w
 have R0:RR K {G with E:=λ _ _ _=>False} (U1++U) (VL.shE ρ) Z H1 (λ _=>(0,0)):=R1.blk0 rfl;have RB:=R0.block (js:=js) (λ _=>zAo _) hl;have hHl:H l=none:=s1.free hl;have dQ:¬((λ p=>if p=l then((2,0):Nat×Nat)else(0,0)) l).1<=1:=by simp
 refine⟨λ i n acc H2=>∃pre,n=ds.length-i/\i<=ds.length/\H2 l=some (.lst acc)/\RR K {G with E:=λ _ _ _=>False} (U1++U) (stE js (VL.shE ρ)) (stV js Z) H2 (λ p=>if p=l then(2,0)else(0,0))/\aQ H H2/\acc.length<=i/\
  Rps K (λ p=>H p=none/\p≠l) H2 acc pre/\∃post,lcL (stE js (VL.shE ρ)) fg ft fe (ds.drop i)= .ok post/\out=pre++post,⟨ds.length,[],by lia,by lia,aa,RB.up (ao hl _),s1.trans (ao hl _),zAW _,.nil,out,aI,rfl⟩,?_⟩
 rintro i n acc H2 ⟨pre,rfl,hi,hH2,R2,s2,aE,rpre,post,hpost,eout⟩;refine⟨hH2,by lia,?_⟩;have jj:=jl _ H2 λ q hq=>R2.tm q (zBP _ hq)
 by_cases hlt:i<ds.length
 .obtain⟨go,yl⟩:=(jj i).2 hlt
  refine .inr ⟨go,λ x H3 hy=>?_⟩;obtain⟨s3,d,ed,rx⟩:=yl x H3 hy;replace R2:=R2.up s3;replace hH2:=s3 _ _ hH2;replace s2:=s2.trans s3;replace rpre:=rpre.up s3;have ed2:ds.drop i=d::ds.drop (i+1):=by
   rw[zC7 hlt]
   have:=zAC hlt
   rw[ed]at this;cases this;rfl
  rw[ed2]at hpost;obtain⟨ρ1,k,e1,e2,e3⟩:=aAn hpost;refine hg (U1++U) x d _ H3 _ _ _ ρ1 R2 rx e1 λ Z4 R4=>?_
  refine ht (U1++U) Z4 H3 ρ1 _ _ R4 ?_;rw[e2];intro H5 s5;rcases e3 with ⟨rfl,y,ys,e3,e4,rfl⟩|⟨rfl,e4⟩
  .rw[if_pos rfl]
   refine he (U1++U) Z4 H5 ρ1 _ _ (R4.up s5) ?_;rw[e3];intro v H6 s6 r6;have hl6:H6 l=some (.lst acc):=s6 _ _ (s5 _ _ hH2);have B:jo l H6 (upd H6 l (.lst (acc++[v]))):=λ b o ne hb=>by rw[bF ne];exact hb
   refine⟨hl6,ds.length-(i+1),by lia,pre++[y],rfl,hlt,aa,?_,?_,by rw[zAV];simp;lia,?_,ys,e4,by rw[eout];simp⟩
   .exact(R2.up (s5.trans s6)).but_blk B hl6 rfl (R1.old.free hl)
   .exact λ b o hb=>B b o (λ z=>by subst z;rw[hHl]at hb;cases hb) (((s2.trans s5).trans s6) b o hb)
   .refine((rpre.up (s5.trans s6)).append (.cons (r6.wk λ p o _ z=>?_) .nil)).but B hl6 rfl λ z=>z.2 rfl
    rcases z with z|z
    .exact⟨(s2.trans s5).free z,λ e=>by subst e;rw[s5 _ _ hH2]at z;cases z⟩
    .cases z
  .rw[if_neg zAS]
   exact⟨ds.length-(i+1),by lia,pre,rfl,hlt,s5 _ _ hH2,R2.up s5,s2.trans s5,by lia,rpre.up s5,post,e4,eout⟩
 .have ei:i=ds.length:=by lia
  subst ei;rw[zFp]at hpost;cases hpost;rw[zAx]at eout;subst eout;exact .inl ⟨(jj _).1 (zAW _),w _ H2 s2 (.lst hH2 (.inl hHl) (rpre.wk λ p o _ z=>⟨.inl z.1,z.2⟩))⟩
end
section
variable{C:Ct}{pos:Pos}{elt tg iter:Expr}{ifs:List Expr}{sc:Scope}{N:List Str}{js:kX}{ks:List Nat}{fi:En->Rs (List D)}{fg:D->En->Rs En}{ft:En->Rs Bool}{fe:En->Rs D}
def cz{C:Ct}(nd:N.Nodup:=by decide+kernel)(hk:i∈ks:=by decide)(hN:∀j,((C.blk sc N).X j).N[i]? =some x:=by intro _;rfl)(hx:∀j,Loc ((C.blk sc N).X j).env.scope x:=by intro _;first|exact zDE rfl|exact zCT rfl)
  (hf:∀j,((C.blk sc N).X j).fn x=true\/((C.blk sc N).X j).env.scope.names.lookup x=some .local:=by intro _;first|exact .inl rfl|exact .inr rfl):SG (C.blk sc N) (.Name x pos) ks (gnm i):=
 cA hN hx hf (λ _=>nd) hk
def aAH(hi:SI C tg iter fi)(hg:SG (C.blk sc N) tg ks fg)(ht:aGm (C.blk sc N) ifs ft)(he:SE (C.blk sc N) (some []) elt fe)(hs:∀i x,zCI iter (C.X i).env x=pure x:=by intro _ _;rfl)(hB:∀i,dD (C.X i) sc N (stV js) ks:=by intro _;exact z6 rfl rfl rfl rfl rfl rfl):SE C (some []) (.ListComp elt [⟨tg,iter,ifs,0⟩] sc pos) (lcD fi js fg ft fe):=by
 obtain⟨wi,i1,i2⟩:=hi;obtain⟨g,g1,g2,g3,g4⟩:=hg;obtain⟨tt,t1,t2⟩:=ht;obtain⟨te,e1,e2⟩:=he;exact⟨_,λ i=>aMF (hB i) (C.calm i) (i1 i) (λ c fp z5 z3=>g1 (i,c,fp,z5,z3)) g3 (λ c fp z5 z3=>t1 (i,c,fp,z5,z3)) (λ c fp z5 z3=>e1 (i,c,fp,z5,z3)) (hs i),aEc i2 g2 t2 e2⟩
def aJL(hi:SI C tg iter fi)(hg:SG (C.blk sc N) tg ks fg)(ht:aGm (C.blk sc N) ifs ft)(he:SE (C.blk sc N) (some []) elt fe)(hN:∀j,(C.X j).N[i]? =some x:=by intro _;rfl)(hx:∀j,Loc (C.X j).env.scope x:=by intro _;first|exact zDE rfl|exact zCT rfl)(hsw:∀j,zCt (.ListComp elt [⟨tg,iter,ifs,0⟩] sc pos) (some (.Name x pos')) spos.line (C.X j).env=pure true:=by intro _;rfl)(hs:∀i x,zCI iter (C.X i).env x=pure x:=by intro _ _;rfl)(hf:∀j,(C.X j).fn x=true\/(C.X j).env.scope.names.lookup x=some .local:=by intro _;first|exact .inl rfl|exact .inr rfl)(nd:∀j,(C.X j).N.Nodup:=by intro _;assumption)(hB:∀i,dD (C.X i) sc N (stV js) ks:=by intro _;exact z6 rfl rfl rfl rfl rfl rfl):
  SV C i (.Assign [.Name x pos'] (.ListComp elt [⟨tg,iter,ifs,0⟩] sc pos) spos) (some []) (lcD fi js fg ft fe):=by
 obtain⟨wi,i1,i2⟩:=hi;obtain⟨g,g1,g2,g3,g4⟩:=hg;obtain⟨tt,t1,t2⟩:=ht;obtain⟨te,e1,e2⟩:=he;exact⟨_,λ j=>aAV (nd j) (hN j) (hx j) (hB j) (C.calm j) (i1 j) (λ c fp z5 z3=>g1 (j,c,fp,z5,z3)) g3 (λ c fp z5 z3=>t1 (j,c,fp,z5,z3)) (λ c fp z5 z3=>e1 (j,c,fp,z5,z3)) (hsw j) (hs j) (hf j),aEc i2 g2 t2 e2⟩
end
def RR.mut{K:zAA}(R:RR K G U ρ Z H lab)(ev:Z[i]? =some (some v))(hl:H l=some o)(ho:jC o=true)(bP:(lab l).1=i+2)
  (B:jo l H H')(h':fV K H' lab i v s'):RR K G U (ρ.set i s') Z H' lab:=by
 refine⟨by rw[zBL];exact R.len,λ j x e=>?_,λ b u hb=>B b u (λ z=>?_) (R.old b u hb),R.new,λ q hq=>(R.tm q hq).but B hl ho λ z=>by lia⟩
 .by_cases hj:i=j
  .subst hj
   have hi:i<ρ.length:=by
    have:=(zAI.mp e).1
    rwa [zBL]at this
   rw[zBm hi]at e;cases e;exact .inr ⟨v,ev,h'⟩
  .rw[zBj hj]at e
   rcases R.sl j x e with z|⟨u,e1,e2⟩
   .exact .inl z
   .refine .inr ⟨u,e1,?_⟩
    cases x with
    |no=>trivial
    |sh d=>exact Rp.but B hl ho (λ z=>by lia) e2
    |nw d=>exact Rp.but B hl ho (λ z=>by lia) e2
    |ow d=>exact⟨Rp.but B hl ho (λ z=>by lia) e2.1,e2.2⟩
    |oz d=>
     obtain⟨a,xs,ds,q1,q2,q3,q4,q5⟩:=e2;exact⟨a,xs,ds,q1,q2,B a _ (λ z=>by subst z;exact hj (by lia)) q3,q4,Rps.but B hl ho (λ z=>by lia) q5⟩
    |o2 ll=>
     obtain⟨a,xs,q1,q2,q3,q4,q5⟩:=e2;refine⟨a,xs,q1,B a _ (λ z=>?_) q2,q3,q4,λ jj y ds f1 f2=>(q5 jj y ds f1 f2).but B hl ho λ z=>?_⟩
     .rw[z]at q3;rw[q3]at bP;exact hj (by simpa using bP.symm)
     .rw[z]at bP;exact hj (by simpa using bP.symm)
 .subst z
  have:=R.new b (by rw[bP];lia)
  rw[this]at hb;cases hb
section
variable{C:Ct}{pos apos cpos p:Pos}{e a:Expr}{fe fa:En->Rs D}{i:Nat}{x:Str}{m:Mode}
def kY(i:Nat)(fe:En->Rs D):En->Ou:=λ ρ=>match ρ[i]? with
 |some (.ow (.lst ds))=>(fe ρ).bo λ d=>if ds.length<zA0 then .nx (ρ.set i (.ow (.lst (ds++[d]))))else .st
 |_=>.st
def dm(i:Nat)(he:SE C m e fe)(hm:okN m=true:=by rfl)(hN:∀j,(C.X j).N[i]? =some x:=by intro _;rfl)(hv:∀j,Vis (C.X j).env.scope x:=by intro _;first|exact zDE rfl|exact zCT (zDE rfl)|exact zCT (zCT rfl))(hd:Nd x:=by decide)
  (hcd:(x==("__classdict__":Str))=false:=by decide)(hs1:∀j,zA4 [e] (C.X j).env=[(false,eval e (C.X j).env)]:=by intro _;rfl)
  (hbase:∀j,zER (.Name x p) "append" (C.X j).env (eval (.Name x p) (C.X j).env)=eval (.Name x p) (C.X j).env:=by intro _;rfl)
  (hfew:∀j,((zCs cpos (zA4 [e] (C.X j).env)).all (λ x=>!x.1)&&(zF3 cpos (zDt [] (C.X j).env)).all (λ x=>x.1.isSome)&&decide ([e].length+([]:List zCy).length+(if ([]:List zCy).isEmpty then 0 else 1)<30))=true:=by intro _;rfl)
  (hline:(apos.endLine==cpos.line)=true:=by rfl)
  (hsw:∀j,zCt (.Call (.Attribute (.Name x p) "append" apos) [e] [] cpos) none pos.line (C.X j).env=pure false:=by intro _;rfl):
  SS C (.Expr (.Call (.Attribute (.Name x p) "append" apos) [e] [] cpos) pos) (kY i fe):=by
 obtain⟨t,h1,h2⟩:=he;refine⟨zr (tBM C.K "list" uc (uK i) (iy t sZ)),λ j=>pL (by rw[<-C.hK j];exact aA1 zCd zEa zGK ur (jP (hN j) (hv j) hd hcd) (cj (h1 j) gQ (hs1 j)) (hbase j) (hfew j) hline (hs1 j) rfl) (hsw j),λ U Z H ρ lab De R W=>?_⟩;unfold kY at W;cases es:ρ[i]? with
 |none=>rw[es]at W;exact zAU W
 |some s=>
  rw[es]at W;split at W
  .rename_i ds hs
   cases hs;rcases R.sl i _ es with z|⟨v,ev,hv'⟩
   .cases z
   .obtain⟨hv1,htop⟩:=hv'
    obtain⟨a0,ea0,la0⟩:=htop rfl;subst ea0;cases hv1 with
    |lst h mm r=>
     rename_i xs;refine⟨.ref a0,ev,.inl ⟨rfl,xs,SqL.of h⟩,h2 U Z H ρ lab _ R (W.bo.imp λ d _ w y H2 s2 r2=>?_)⟩;by_cases hz:ds.length<zA0
     .rw[if_pos hz]at w
      refine⟨a0,xs,y,rfl,rfl,s2 _ _ h,by rw[r.length];exact hz,λ H3 B h3=>?_⟩;obtain⟨R',r'⟩:=R.fresh (P:=λ k=>k=1) rfl (λ k hk=>beq_iff_eq.mp (mQ hm k hk)) s2 r2;have la:(bw H 1 lab a0).1=i+2:=by rw[bI h];exact la0
      refine w Z H3 _ (R'.mut ev (s2 _ _ h) rfl la B ⟨.lst h3 (.inr la) ?_,λ _=>⟨a0,rfl,la⟩⟩);have ra:Rps C.K (λ p=>((bw H 1 lab p).1=1\/(bw H 1 lab p).1=i+2)/\p≠a0) H2 (xs++[y]) (ds++[d]):=by
       refine(r.mono s2 λ p o e z=>⟨by rw[bI e];exact z.1,z.2⟩).append (.cons (r'.wk λ p o e z=>⟨.inl z,λ q=>?_⟩) .nil);subst q;rw[la]at z;lia
      exact ra.but B (s2 _ _ h) rfl λ z=>z.2 rfl
     .rw[if_neg hz]at w
      exact zAU w
  .exact zAU W
def at2(ll:eL):D->Option (Nat×List D)
 | .int n=>(ixN ll.length n).bind λ j=>(ll[j]?).map λ ds=>(j,ds)
 |_=>none
def eO(i:Nat)(fa fe:En->Rs D):En->Ou:=λ ρ=>match ρ[i]? with
 |some (.o2 ll)=>(fa ρ).bo λ k=>match at2 ll k with
  |some (j,ds)=>(fe ρ).bo λ d=>if ds.length<zA0 then .nx (ρ.set i (.o2 (ll.set j (ds++[d]))))else .st
  |none=>.st
 |_=>.st
def aGd(h:at2 ll k=some (j,ds)):∃n,k= .int n/\ixN ll.length n=some j/\ll[j]? =some ds:=by
 cases k with
 |int n=>
  simp only[at2,Option.bind_eq_some_iff,zCS]at h;obtain⟨j',h1,ds',h2,h3⟩:=h;cases h3;exact⟨n,rfl,h1,h2⟩
 |_=>cases h
def uN(i:Nat){p2:Pos}(ha:SE C m a fa)(he:SE C (some []) e fe)(hN:∀j,(C.X j).N[i]? =some x:=by intro _;rfl)(hv:∀j,Vis (C.X j).env.scope x:=by intro _;first|exact zDE rfl|exact zCT (zDE rfl)|exact zCT (zCT rfl))(hd:Nd x:=by decide)
  (hcd:(x==("__classdict__":Str))=false:=by decide)(hs1:∀j,zA4 [e] (C.X j).env=[(false,eval e (C.X j).env)]:=by intro _;rfl)(hp:t8 a:=by exact λ _ _=>rfl)
  (hbase:∀j,zER (.Subscript (.Name x p) a p2) "append" (C.X j).env (eval (.Subscript (.Name x p) a p2) (C.X j).env)=eval (.Subscript (.Name x p) a p2) (C.X j).env:=by intro _;rfl)
  (hfew:∀j,((zCs cpos (zA4 [e] (C.X j).env)).all (λ x=>!x.1)&&(zF3 cpos (zDt [] (C.X j).env)).all (λ x=>x.1.isSome)&&decide ([e].length+([]:List zCy).length+(if ([]:List zCy).isEmpty then 0 else 1)<30))=true:=by intro _;rfl)
  (hline:(apos.endLine==cpos.line)=true:=by rfl)
  (hsw:∀j,zCt (.Call (.Attribute (.Subscript (.Name x p) a p2) "append" apos) [e] [] cpos) none pos.line (C.X j).env=pure false:=by intro _;rfl):
  SS C (.Expr (.Call (.Attribute (.Subscript (.Name x p) a p2) "append" apos) [e] [] cpos) pos) (eO i fa fe):=by
 obtain⟨t,h1,h2⟩:=he;obtain⟨ta,a1,a2⟩:=ha;refine⟨zr (tBM C.K "list" uc (tOp (aKM C.K) (uK i) ta) (iy t sZ)),λ j=>pL (by rw[<-C.hK j];exact aA1 zCd zEa zGK ur (aJ5 aDA (jP (hN j) (hv j) hd hcd) (a1 j) hp) (cj (h1 j) gQ (hs1 j)) (hbase j) (hfew j) hline (hs1 j) rfl) (hsw j),λ U Z H ρ lab De R W=>?_⟩;unfold eO at W;cases es:ρ[i]? with
 |none=>rw[es]at W;exact zAU W
 |some s=>
  rw[es]at W;cases s with
  |o2 ll=>
   dsimp only at W;rcases R.sl i _ es with z|⟨v,ev,top,xs,rfl,ht,hlt,oQ,hin⟩
   .cases z
   .refine⟨.ref top,ev,a2 U Z H ρ lab _ R (W.bo.imp λ k _ w kv H1 s1 r1=>?_)⟩
    cases hk:at2 ll k with
    |none=>rw[hk]at w;exact zAU w
    |some q=>
     obtain⟨j,ds⟩:=q;rw[hk]at w;dsimp only at w;obtain⟨n,rfl,hj,hds⟩:=aGd hk;cases r1;have hjx:∃xj,xs[j]? =some xj:=by
      have:j<xs.length:=by rw[oQ];exact(zAI.mp hds).1
      exact⟨_,zAC this⟩
     obtain⟨xj,hxj⟩:=hjx;have hr:=hin j xj ds hxj hds;cases hr with
     |lst hl ml rl=>
      rename_i l ys;refine⟨top,xs,n,.ref l,rfl,rfl,SqL.of (s1 _ _ ht),by unfold atI;rw[oQ,hj];exact hxj,.inl ⟨rfl,ys,SqL.of (s1 _ _ hl)⟩,h2 U Z H1 ρ lab _ (R.up s1) (w.bo.imp λ d _ w y H2 s2 r2=>?_)⟩;by_cases hz:ds.length<zA0
      .rw[if_pos hz]at w
       have s12:=s1.trans s2;refine⟨l,ys,y,rfl,rfl,s12 _ _ hl,by rw[rl.length];exact hz,λ H3 B h3=>?_⟩;have ltop:l≠top:=λ e=>by rw[e,hlt]at ml;cases ml
       let lab':Lab:=λ p=>match H1 p with
        |none=>(i+2,j+1)
        |some _=>lab p
       have lo:∀{p o},H1 p=some o->lab' p=lab p:=λ{p o} e=>by show(match H1 p with|none=>_|some _=>_)=_;rw[e]
       have ln:∀{p},H1 p=none->lab' p=(i+2,j+1):=λ{p} e=>by show(match H1 p with|none=>_|some _=>_)=_;rw[e]
       have R':RR C.K C.G U ρ Z H2 lab':=((R.up s1).relab (λ p o e=>lo e) λ p hp=>by
        cases e:H1 p with
        |none=>exact(R.old.trans s1).free e
        |some o=>rw[lo e]at hp;exact R.new p hp).up s2
       have dP:lab' l=(i+2,j+1):=by rw[lo (s1 _ _ hl)];exact ml
       refine w Z H3 lab' (R'.mut ev (s12 _ _ hl) rfl (by rw[dP]) B ⟨top,xs,rfl,B _ _ (zE1 ltop) (s12 _ _ ht),by rw[lo (s1 _ _ ht)];exact hlt,by rw[zBL];exact oQ,λ jj z dz f1 f2=>?_⟩);by_cases hjj:j=jj
       .subst hjj
        rw[hxj]at f1;cases f1;rw[zBm (zAI.mp hds).1]at f2;cases f2;refine .lst h3 dP ?_;have ra:Rps C.K (λ p=>lab' p=(i+2,j+1)/\p≠l) H2 (ys++[y]) (ds++[d]):=by
         refine(rl.mono s12 λ p o e z=>⟨by rw[lo (s1 _ _ e)];exact z.1,z.2⟩).append (.cons (r2.wk λ p o e z=>?_) .nil);rcases z with z|z
         .exact⟨ln z,λ q=>by subst q;rw[s1 _ _ hl]at z;cases z⟩
         .cases z
        exact ra.but B (s12 _ _ hl) rfl λ z=>z.2 rfl
       .rw[zBj hjj]at f2
        refine((hin jj z dz f1 f2).mono s12 (A':=λ p=>lab' p=(i+2,jj+1)) λ p o e q=>by rw[lo (s1 _ _ e)];exact q).but B (s12 _ _ hl) rfl λ q=>?_
        rw[dP]at q;simp only[Prod.mk.injEq]at q;lia
      .rw[if_neg hz]at w
       exact zAU w
  |_=>exact zAU W
end
mutual
def eqD:D->D->Bool
 | .non,.non=>true
 | .bl a,.bl b=>a==b
 | .bl a,.int b=>(if a then 1 else 0)==b
 | .int a,.bl b=>a==(if b then 1 else 0)
 | .int a,.int b=>a==b
 | .str a,.str b=>a==b
 | .tup l,.tup m=>je l m
 | .lst l,.lst m=>je l m
 |_,_=>false
def je:List D->List D->Bool
 |[],[]=>true
 |x::xs,y::ys=>eqD x y&&je xs ys
 |_,_=>false
end
mutual
def nD:D->Nat
 | .tup l=>dU l+1
 | .lst l=>dU l+1
 |_=>0
def dU:List D->Nat
 |[]=>0
 |d::r=>max (nD d) (dU r)
end
mutual
def aY:D->Bool
 | .tup l=>au l
 | .lst l=>au l
 | .dct _ _=>false
 | .set _=>false
 | .scr _=>false
 | .fn _=>false
 |_=>true
def au:List D->Bool
 |[]=>true
 |d::r=>aY d&&au r
end
mutual
theorem v4:∀d:D,aY d=true->eqD d d=true
 | .non,_=>by simp[eqD]
 | .bl b,_=>by simp[eqD]
 | .int i,_=>by simp[eqD]
 | .str x,_=>by simp[eqD]
 | .tup l,h=>by exact qw l (by simpa[aY]using h)
 | .lst l,h=>by exact qw l (by simpa[aY]using h)
 | .dct _ _,h=>by simp[aY]at h
 | .set _,h=>by simp[aY]at h
 | .scr _,h=>by simp[aY]at h
theorem qw:∀l:List D,au l=true->je l l=true
 |[],_=>by simp[je]
 |d::r,h=>by
  simp only[au,zAa]at h;simp only[je,zAa];exact⟨v4 d h.1,qw r h.2⟩
end
structure ji(K:zAA)(H:Hp)(s:zAF):Prop where
 tup:∀{a:Addr} {xs:List V},SqT K H a xs->∃its:List Value,Vals xs its/\s.heap.IsTuple a its.toArray
 lst:∀{a:Addr} {xs:List V},H a=some (.lst xs)->∃its:List Value,Vals xs its/\s.heap.IsList a its.toArray
 inj:∀{a:Addr} {xs ys:List V},SqT K H a xs->SqT K H a ys->xs=ys
 ne:∀{a:Addr} {xs ys:List V},SqT K H a xs->H a=some (.lst ys)->False
def Inv.seqOk(I:L2.Inv X kK Z H s):ji X.K H s where
 tup:=λ h=>let⟨its,r,p,_⟩:=I.tuple h;⟨its,r,p⟩
 lst:=λ h=>let⟨its,r,p,_⟩:=I.list (SqL.of h);⟨its,r,p.isList⟩
 inj:=λ h h'=>I.tuple_inj h h'
 ne:=λ h h'=>by
  obtain⟨its,_,⟨o,e,c,_⟩,_⟩:=I.tuple h;obtain⟨its2,_,⟨o2,n2,e2,c2,_⟩,_⟩:=I.list (SqL.of h');rw[e]at e2;cases e2;rw[c]at c2;injection c2 with c3
  exact absurd c3 (by decide)
section
variable{K:zAA}{H:Hp}{s:zAF}
def ndP:D->Prop
 | .dct _ _=>False
 | .set _=>False
 | .scr _=>False
 | .fn _=>False
 |_=>True
def ndx{d:D}(h:aY d=true):ndP d:=by cases d<;>first|exact zDS|(simp[aY]at h)
def bA(h:aY (.dct a b)=true):False:=by simp[aY]at h
def dF(h:aY (.set a)=true):False:=by simp[aY]at h
def dG(h:aY (.scr a)=true):False:=by simp[aY]at h
def fD(h:aY (.fn a)=true):False:=by simp[aY]at h
def gn(h:aY (.tup a)=true):au a=true:=by simpa[aY]using h
def gq(h:aY (.lst a)=true):au a=true:=by simpa[aY]using h
def jB(h:au (d::a)=true):aY d=true/\au a=true:=by
 simp only[au,zAa]at h;exact h
def aJD(K:zAA)(s:zAF)(H:Hp)(x:V)(d:D):Prop:=ji K H s->∀(A':Addr->Prop) (e:D),Rp K A' H x e->aY d=true->aY e=true->d=e
def aBR(K:zAA)(s:zAF)(H:Hp)(xs:List V)(ds:List D):Prop:=ji K H s->∀(A':Addr->Prop) (es:List D),Rps K A' H xs es->au ds=true->au es=true->ds=es
def aI0(ha:SqT K H a xs)(ih:aBR K s H xs ds):aJD K s H (.ref a) (.tup ds):=λ ok A' e h n1 n2=>by
 cases h with
 |tup hb r'=>
  have e:=ok.inj ha hb;subst e;rw[ih ok _ _ r' (gn n1) (gn n2)]
 |lst hb _ _=>exact(ok.ne ha hb).elim
 |_=>exact zAU (ndx n2)
def aI1(ha:H a=some (.lst xs))(ih:aBR K s H xs ds):aJD K s H (.ref a) (.lst ds):=λ ok A' e h n1 n2=>by
 cases h with
 |tup hb r'=>exact(ok.ne hb ha).elim
 |lst hb _ r'=>
  rw[ha]at hb;cases hb;rw[ih ok _ _ r' (gq n1) (gq n2)]
 |_=>exact zAU (ndx n2)
def aFo(h1:aJD K s H x d)(h2:aBR K s H xs ds):aBR K s H (x::xs) (d::ds):=λ ok A' es h n1 n2=>by
 cases h with
 |cons k r'=>rw[h1 ok _ _ k (jB n1).1 (jB n2).1,h2 ok _ _ r' (jB n1).2 (jB n2).2]
def Rp.inj(ok:ji K H s)(r:Rp K A H x d)(h:Rp K A' H x e)(n1:aY d=true)(n2:aY e=true):d=e:=
 Rp.rec (motive_1:=λ _ H x d _=>aJD K s H x d) (motive_2:=λ _ H xs ds _=>aBR K s H xs ds)
  (λ _ _ _ h _ _=>by cases h;rfl) (λ _ _ _ _ h _ _=>by cases h;rfl) (λ _ _ _ _ h _ _=>by cases h;rfl) (λ _ _ _ _ h _ _=>by cases h;rfl) (λ ha _ ih=>aI0 ha ih) (λ ha _ _ ih=>aI1 ha ih)
  (λ _ _ _ _ _ _ _ _ n1 _=>(bA n1).elim) (λ _ _ _ _ _ _ _ _ n1 _=>(bA n1).elim) (λ _ _ _ _ _ _ _ _ n1 _=>(dF n1).elim) (λ _ _ _ _ _ n1 _=>(dG n1).elim) (λ _ _ _ _ _ n1 _=>(fD n1).elim)
  (λ _ _ _ h _ _=>by cases h;rfl) (λ _ _ h1 h2=>aFo h1 h2) r ok A' e h n1 n2
end
theorem aBE:∀(l m:List D),je l m=((zAr (min l.length m.length)).all (λ j=>match l[j]?,m[j]? with|some a,some b=>eqD a b|_,_=>true)&&l.length==m.length)
 |[],[]=>by simp[je]
 |[],y::ys=>by simp[je]
 |x::xs,[]=>by simp[je]
 |x::xs,y::ys=>by
  have ih:=aBE xs ys;simp only[je,ih,zA6,Nat.succ_min_succ,List.range_succ_eq_map,zJA,zJR,zAs,Function.comp_def,zAj,Nat.succ_eq_add_one,Nat.add_one_inj,zG0];congr 1;congr 1;simp
theorem xZ:∀{l:List D} {d:D},d∈l->nD d<=dU l
 |x::r,d,h=>by
  simp only[dU];rcases zAM.mp h with rfl|h
  .exact zIq _ _
  .exact zBB (xZ h) (zIi _ _)
theorem oR:∀{l:List D} {d:D},d∈l->au l=true->aY d=true
 |x::r,d,h,n=>by
  simp only[au,zAa]at n;rcases zAM.mp h with rfl|h
  .exact n.1
  .exact oR h n.2
def iZ(hn:n=ds.length)(hm:m=es.length):((zAr (min n m)).all (λ j=>match ds[j]?,es[j]? with|some a,some b=>eqD a b|_,_=>true)&&n==m)=je ds es:=by
 subst hn hm;exact(aBE ds es).symm
section
variable{K:zAA}{H:Hp}{s:zAF}
def aGq(K:zAA)(H:Hp)(s:zAF)(n:Nat):Prop:=∀(A1 A2:Addr->Prop) (x y:V) (d e:D) (A:zAt) (u v:Value),Rp K A1 H x d->Rp K A2 H y e->RelV x u->RelV y v->nD d<=n->aY d=true->aY e=true->A.units+n<cLine->zDR A s u v (eqD d e)
def aGr(K:zAA)(H:Hp)(s:zAF)(n:Nat):Prop:=∀(A1 A2:Addr->Prop) (xs ys:List V) (ds es:List D) (A:zAt) (us vs:List Value),Rps K A1 H xs ds->Rps K A2 H ys es->Vals xs us->Vals ys vs->dU ds<=n->au ds=true->au es=true->A.units+n<cLine->
  ∀(j:Nat) (h1:j<us.toArray.size) (h2:j<vs.toArray.size),zDR A s us.toArray[j] vs.toArray[j] (match ds[j]?,es[j]? with|some a,some b=>eqD a b|_,_=>true)
def vZ(ok:ji K H s)(n:Nat)(IH:∀k,n=k+1->aGr K H s k):aGq K H s n:=by
 intro A1 A2 x y d e A u v r1 r2 ru rv hd nd ne hu;have hu0:A.units<cLine:=by lia
 cases r1 with
 |tup h1 q1=>
  rename_i a xs ds;cases ru;obtain⟨its,w1,t1⟩:=ok.tup h1;cases r2 with
  |tup h2 q2=>
   rename_i b ys es;cases rv;obtain⟨its2,w2,t2⟩:=ok.tup h2;by_cases hab:a=b
   .subst hab
    have e:=Rp.inj ok (Rp.tup h1 q1) (Rp.tup h2 q2) nd ne;rw[<-e,v4 _ nd];exact zF2 _
   .simp only[nD]at hd
    obtain⟨k,rfl⟩:∃k,n=k+1:=⟨n-1,by lia⟩
    have z:=zGk t1 t2 hu0 (IH k rfl _ _ _ _ _ _ _ _ _ q1 q2 w1 w2 (by lia) (gn nd) (gn ne) (by show A.units+1+k<cLine;lia));rw[iZ (by rw[zAK,<-w1.length,q1.length]) (by rw[zAK,<-w2.length,q2.length])]at z;simp only[eqD];exact zEv hab z
  |lst h2 mm2 q2=>
   cases rv;obtain⟨its2,w2,t2⟩:=ok.lst h2;simp only[eqD];exact SeqAt.EqAt.tuple_list t1 t2 hu0
  |non=>cases rv;exact SeqAt.EqAt.tuple_none t1 hu0
  |bl b=>cases rv;exact SeqAt.EqAt.tuple_bool b t1 hu0
  |int i=>obtain⟨tk,rfl⟩:=rv;exact SeqAt.EqAt.tuple_int i tk t1 hu0
  |str i=>obtain⟨tk,rfl⟩:=rv;exact SeqAt.EqAt.tuple_str i tk t1 hu0
  |_=>exact zAU (ndx ne)
 |lst h1 mm1 q1=>
  rename_i a xs ds;cases ru;obtain⟨its,w1,t1⟩:=ok.lst h1;cases r2 with
  |lst h2 mm2 q2=>
   rename_i b ys es;cases rv;obtain⟨its2,w2,t2⟩:=ok.lst h2;by_cases hab:a=b
   .subst hab
    have e:=Rp.inj ok (Rp.lst h1 mm1 q1) (Rp.lst h2 mm2 q2) nd ne;rw[<-e,v4 _ nd];exact zF2 _
   .simp only[nD]at hd
    obtain⟨k,rfl⟩:∃k,n=k+1:=⟨n-1,by lia⟩
    have l1:its.toArray.size=ds.length:=by rw[zAK,<-w1.length,q1.length]
    have l2:its2.toArray.size=es.length:=by rw[zAK,<-w2.length,q2.length]
    by_cases hl:its.toArray.size=its2.toArray.size
    .have z:=zGn t1 t2 hl hu0 (IH k rfl _ _ _ _ _ _ _ _ _ q1 q2 w1 w2 (by lia) (gq nd) (gq ne) (by show A.units+1+k<cLine;lia))
     have z':=iZ (ds:=ds) (es:=es) l1 l2;rw[<-hl,zEV,beq_self_eq_true,zFZ]at z';rw[z']at z;simp only[eqD];exact zEv hab z
    .have z:=zFj t1 t2 (by simpa using hl) hu0
     have z':=iZ (ds:=ds) (es:=es) l1 l2;rw[beq_eq_false_iff_ne.mpr hl,zG1]at z';simp only[eqD];rw[<-z'];exact zEv hab z
  |tup h2 q2=>
   cases rv;obtain⟨its2,w2,t2⟩:=ok.tup h2;simp only[eqD];exact SeqAt.EqAt.list_tuple t1 t2 hu0
  |non=>cases rv;exact SeqAt.EqAt.list_none t1 hu0
  |bl b=>cases rv;exact SeqAt.EqAt.list_bool b t1 hu0
  |int i=>obtain⟨tk,rfl⟩:=rv;exact SeqAt.EqAt.list_int i tk t1 hu0
  |str i=>obtain⟨tk,rfl⟩:=rv;exact SeqAt.EqAt.list_str i tk t1 hu0
  |_=>exact zAU (ndx ne)
 |non=>
  cases ru;cases r2 with
  |tup h2 q2=>cases rv;obtain⟨_,_,t2⟩:=ok.tup h2;exact SeqAt.EqAt.none_tuple t2 hu0
  |lst h2 mm2 q2=>cases rv;obtain⟨_,_,t2⟩:=ok.lst h2;exact SeqAt.EqAt.none_list t2 hu0
  |dK _ _ _=>exact(bA ne).elim
  |dT _ _ _=>exact(bA ne).elim
  |set _ _ _ _=>exact(dF ne).elim
  |scr _=>exact(dG ne).elim
  |fn _=>exact(fD ne).elim
  |non=>cases rv;exact zF2 _
  |bl b=>cases rv;exact SeqAt.EqAt.none_bool b
  |int i=>obtain⟨tk,rfl⟩:=rv;exact SeqAt.EqAt.none_int i tk
  |str i=>obtain⟨tk,rfl⟩:=rv;exact SeqAt.EqAt.none_str i tk
 |bl a=>
  cases ru;cases r2 with
  |tup h2 q2=>cases rv;obtain⟨_,_,t2⟩:=ok.tup h2;exact SeqAt.EqAt.bool_tuple a t2 hu0
  |lst h2 mm2 q2=>cases rv;obtain⟨_,_,t2⟩:=ok.lst h2;exact SeqAt.EqAt.bool_list a t2 hu0
  |dK _ _ _=>exact(bA ne).elim
  |dT _ _ _=>exact(bA ne).elim
  |set _ _ _ _=>exact(dF ne).elim
  |scr _=>exact(dG ne).elim
  |fn _=>exact(fD ne).elim
  |non=>cases rv;exact SeqAt.EqAt.bool_none a
  |bl b=>cases rv;exact SeqAt.EqAt.bool_bool a b
  |int i=>obtain⟨tk,rfl⟩:=rv;exact SeqAt.EqAt.bool_int a i tk
  |str i=>obtain⟨tk,rfl⟩:=rv;exact SeqAt.EqAt.bool_str a i tk
 |int a=>
  obtain⟨tu,rfl⟩:=ru;cases r2 with
  |tup h2 q2=>cases rv;obtain⟨_,_,t2⟩:=ok.tup h2;exact SeqAt.EqAt.int_tuple a tu t2 hu0
  |lst h2 mm2 q2=>cases rv;obtain⟨_,_,t2⟩:=ok.lst h2;exact SeqAt.EqAt.int_list a tu t2 hu0
  |dK _ _ _=>exact(bA ne).elim
  |dT _ _ _=>exact(bA ne).elim
  |set _ _ _ _=>exact(dF ne).elim
  |scr _=>exact(dG ne).elim
  |fn _=>exact(fD ne).elim
  |non=>cases rv;exact SeqAt.EqAt.int_none a tu
  |bl b=>cases rv;exact SeqAt.EqAt.int_bool a tu b
  |int i=>obtain⟨tk,rfl⟩:=rv;exact zEu a tu i tk
  |str i=>obtain⟨tk,rfl⟩:=rv;exact zGc a tu i tk
 |str a=>
  obtain⟨tu,rfl⟩:=ru;cases r2 with
  |tup h2 q2=>cases rv;obtain⟨_,_,t2⟩:=ok.tup h2;exact SeqAt.EqAt.str_tuple a tu t2 hu0
  |lst h2 mm2 q2=>cases rv;obtain⟨_,_,t2⟩:=ok.lst h2;exact SeqAt.EqAt.str_list a tu t2 hu0
  |dK _ _ _=>exact(bA ne).elim
  |dT _ _ _=>exact(bA ne).elim
  |set _ _ _ _=>exact(dF ne).elim
  |scr _=>exact(dG ne).elim
  |fn _=>exact(fD ne).elim
  |non=>cases rv;exact SeqAt.EqAt.str_none a tu
  |bl b=>cases rv;exact SeqAt.EqAt.str_bool a tu b
  |int i=>obtain⟨tk,rfl⟩:=rv;exact zGd a tu i tk
  |str i=>obtain⟨tk,rfl⟩:=rv;exact SeqAt.EqAt.str_str a tu i tk
 |_=>exact zAU (ndx nd)
def xP(ok:ji K H s)(n:Nat)(IH:aGq K H s n):aGr K H s n:=by
 intro A1 A2 xs ys ds es A us vs q1 q2 w1 w2 hd nd ne hu j h1 h2;have hj1:j<us.length:=by simpa using h1
 have hj2:j<vs.length:=by simpa using h2
 have hx:j<xs.length:=by rw[w1.length];exact hj1
 have hy:j<ys.length:=by rw[w2.length];exact hj2
 have ex:=zAC hx;have ey:=zAC hy;obtain⟨d,ed,rd⟩:=q1.get ex;obtain⟨e,ee,re⟩:=q2.get ey;obtain⟨u,eu,ru⟩:=w1.get ex;obtain⟨v,ev,rv⟩:=w2.get ey;have e1:us.toArray[j]=u:=by
  rw[zDG];exact zAh ((zAC hj1).symm.trans eu)
 have e2:vs.toArray[j]=v:=by
  rw[zDG];exact zAh ((zAC hj2).symm.trans ev)
 rw[e1,e2,ed,ee];exact IH _ _ _ _ _ _ _ _ _ rd re ru rv (zBB (xZ (zBG ed)) hd) (oR (zBG ed) nd) (oR (zBG ee) ne) hu
theorem aGT(ok:ji K H s):∀n,aGq K H s n
 |0=>vZ ok 0 λ k h=>absurd h (by simp)
 |n+1=>vZ ok (n+1) λ k h=>by
  have h':=zI2 h;subst h';exact xP ok n (aGT ok n)
def aLY(ok:ji K H s):∀{A1 A2:Addr->Prop} {x y:V} {d e:D} (n:Nat) {A:zAt} {u v:Value},Rp K A1 H x d->Rp K A2 H y e->RelV x u->RelV y v->nD d<=n->aY d=true->aY e=true->A.units+n<cLine->zDR A s u v (eqD d e)
 |_,_,_,_,_,_,n,A,u,v,r1,r2,ru,rv,hd,nd,ne,hu=>aGT ok n _ _ _ _ _ _ _ _ _ r1 r2 ru rv hd nd ne hu
def aJe(ok:ji K H s):∀{A1 A2:Addr->Prop} {xs ys:List V} {ds es:List D} (n:Nat) {A:zAt} {us vs:List Value},Rps K A1 H xs ds->Rps K A2 H ys es->Vals xs us->Vals ys vs->dU ds<=n->au ds=true->au es=true->A.units+n<cLine->
  ∀(j:Nat) (h1:j<us.toArray.size) (h2:j<vs.toArray.size),zDR A s us.toArray[j] vs.toArray[j] (match ds[j]?,es[j]? with|some a,some b=>eqD a b|_,_=>true)
 |_,_,xs,ys,ds,es,n,A,us,vs,q1,q2,w1,w2,hd,nd,ne,hu,j,h1,h2=>xP ok n (aGT ok n) _ _ _ _ _ _ _ _ _ q1 q2 w1 w2 hd nd ne hu j h1 h2
def aEw(ok:ji K H s)(n:Nat)(r1:Rp K A1 H x d)(r2:Rp K A2 H y e)(ru:RelV x u)(rv:RelV y v)(hd:nD d<=n)(nd:aY d=true)(ne:aY e=true)(hu:A.units+n<cLine):
  SeqAt.RcAt A s u v (eqD d e)/\SeqAt.RcNeAt A s u v (!eqD d e):=by
 have hu0:A.units<cLine:=by lia
 cases r1 with
 |tup h1 q1=>
  rename_i a xs ds;cases ru;obtain⟨its,w1,t1⟩:=ok.tup h1;cases r2 with
  |tup h2 q2=>
   rename_i b ys es;cases rv;obtain⟨its2,w2,t2⟩:=ok.tup h2;simp only[nD]at hd;obtain⟨k,rfl⟩:∃k,n=k+1:=⟨n-1,by lia⟩
   have he:=aJe ok (A:=A.in1) k q1 q2 w1 w2 (by lia) (gn nd) (gn ne) (by show A.units+1+k<cLine;lia);have z:=zGk t1 t2 hu0 he;have z2:=SeqAt.RcNeAt.tuples t1 t2 hu0 he;rw[iZ (by rw[zAK,<-w1.length,q1.length]) (by rw[zAK,<-w2.length,q2.length])]at z z2;simp only[eqD];exact⟨z,z2⟩
  |lst h2 mm2 q2=>
   cases rv;obtain⟨its2,w2,t2⟩:=ok.lst h2;simp only[eqD];exact⟨SeqAt.RcAt.tuple_list t1 t2 hu0,SeqAt.RcNeAt.tuple_list t1 t2 hu0⟩
  |non=>cases rv;exact⟨SeqAt.RcAt.tuple_none t1 hu0,SeqAt.RcNeAt.tuple_none t1 hu0⟩
  |bl b=>cases rv;exact⟨SeqAt.RcAt.tuple_bool b t1 hu0,SeqAt.RcNeAt.tuple_bool b t1 hu0⟩
  |int i=>obtain⟨tk,rfl⟩:=rv;exact⟨SeqAt.RcAt.tuple_int i tk t1 hu0,SeqAt.RcNeAt.tuple_int i tk t1 hu0⟩
  |str i=>obtain⟨tk,rfl⟩:=rv;exact⟨SeqAt.RcAt.tuple_str i tk t1 hu0,SeqAt.RcNeAt.tuple_str i tk t1 hu0⟩
  |_=>exact zAU (ndx ne)
 |lst h1 mm1 q1=>
  rename_i a xs ds;cases ru;obtain⟨its,w1,t1⟩:=ok.lst h1;cases r2 with
  |lst h2 mm2 q2=>
   rename_i b ys es;cases rv;obtain⟨its2,w2,t2⟩:=ok.lst h2;simp only[nD]at hd;obtain⟨k,rfl⟩:∃k,n=k+1:=⟨n-1,by lia⟩
   have l1:its.toArray.size=ds.length:=by rw[zAK,<-w1.length,q1.length]
   have l2:its2.toArray.size=es.length:=by rw[zAK,<-w2.length,q2.length]
   have z':=iZ (ds:=ds) (es:=es) l1 l2;by_cases hl:its.toArray.size=its2.toArray.size
   .have he:=aJe ok (A:=A.in1) k q1 q2 w1 w2 (by lia) (gq nd) (gq ne) (by show A.units+1+k<cLine;lia)
    have z:=zGn t1 t2 hl hu0 he;have z2:=SeqAt.RcNeAt.lists t1 t2 hl hu0 he;rw[<-hl,zEV,beq_self_eq_true,zFZ]at z';rw[z']at z z2;simp only[eqD];exact⟨z,z2⟩
   .rw[beq_eq_false_iff_ne.mpr hl,zG1]at z'
    simp only[eqD];rw[<-z'];exact⟨zFj t1 t2 (by simpa using hl) hu0,SeqAt.RcNeAt.lists_lengths t1 t2 (by simpa using hl) hu0⟩
  |tup h2 q2=>
   cases rv;obtain⟨its2,w2,t2⟩:=ok.tup h2;simp only[eqD];exact⟨SeqAt.RcAt.list_tuple t1 t2 hu0,SeqAt.RcNeAt.list_tuple t1 t2 hu0⟩
  |non=>cases rv;exact⟨SeqAt.RcAt.list_none t1 hu0,SeqAt.RcNeAt.list_none t1 hu0⟩
  |bl b=>cases rv;exact⟨SeqAt.RcAt.list_bool b t1 hu0,SeqAt.RcNeAt.list_bool b t1 hu0⟩
  |int i=>obtain⟨tk,rfl⟩:=rv;exact⟨SeqAt.RcAt.list_int i tk t1 hu0,SeqAt.RcNeAt.list_int i tk t1 hu0⟩
  |str i=>obtain⟨tk,rfl⟩:=rv;exact⟨SeqAt.RcAt.list_str i tk t1 hu0,SeqAt.RcNeAt.list_str i tk t1 hu0⟩
  |_=>exact zAU (ndx ne)
 |non=>
  cases ru;cases r2 with
  |tup h2 q2=>cases rv;obtain⟨_,_,t2⟩:=ok.tup h2;exact⟨SeqAt.RcAt.none_tuple t2 hu0,SeqAt.RcNeAt.none_tuple t2 hu0⟩
  |lst h2 mm2 q2=>cases rv;obtain⟨_,_,t2⟩:=ok.lst h2;exact⟨SeqAt.RcAt.none_list t2 hu0,SeqAt.RcNeAt.none_list t2 hu0⟩
  |dK _ _ _=>exact(bA ne).elim
  |dT _ _ _=>exact(bA ne).elim
  |set _ _ _ _=>exact(dF ne).elim
  |scr _=>exact(dG ne).elim
  |fn _=>exact(fD ne).elim
  |non=>cases rv;exact⟨SeqAt.RcAt.none_none,SeqAt.RcNeAt.none_none⟩
  |bl b=>cases rv;exact⟨SeqAt.RcAt.none_bool b,SeqAt.RcNeAt.none_bool b⟩
  |int i=>obtain⟨tk,rfl⟩:=rv;exact⟨SeqAt.RcAt.none_int i tk,SeqAt.RcNeAt.none_int i tk⟩
  |str i=>obtain⟨tk,rfl⟩:=rv;exact⟨SeqAt.RcAt.none_str i tk,SeqAt.RcNeAt.none_str i tk⟩
 |bl a=>
  cases ru;cases r2 with
  |tup h2 q2=>cases rv;obtain⟨_,_,t2⟩:=ok.tup h2;exact⟨SeqAt.RcAt.bool_tuple a t2 hu0,SeqAt.RcNeAt.bool_tuple a t2 hu0⟩
  |lst h2 mm2 q2=>cases rv;obtain⟨_,_,t2⟩:=ok.lst h2;exact⟨SeqAt.RcAt.bool_list a t2 hu0,SeqAt.RcNeAt.bool_list a t2 hu0⟩
  |dK _ _ _=>exact(bA ne).elim
  |dT _ _ _=>exact(bA ne).elim
  |set _ _ _ _=>exact(dF ne).elim
  |scr _=>exact(dG ne).elim
  |fn _=>exact(fD ne).elim
  |non=>cases rv;exact⟨SeqAt.RcAt.bool_none a,SeqAt.RcNeAt.bool_none a⟩
  |bl b=>cases rv;exact⟨SeqAt.RcAt.bool_bool a b,SeqAt.RcNeAt.bool_bool a b⟩
  |int i=>obtain⟨tk,rfl⟩:=rv;exact⟨SeqAt.RcAt.bool_int a i tk,SeqAt.RcNeAt.bool_int a i tk⟩
  |str i=>obtain⟨tk,rfl⟩:=rv;exact⟨SeqAt.RcAt.bool_str a i tk,SeqAt.RcNeAt.bool_str a i tk⟩
 |int a=>
  obtain⟨tu,rfl⟩:=ru;cases r2 with
  |tup h2 q2=>cases rv;obtain⟨_,_,t2⟩:=ok.tup h2;exact⟨SeqAt.RcAt.int_tuple a tu t2 hu0,SeqAt.RcNeAt.int_tuple a tu t2 hu0⟩
  |lst h2 mm2 q2=>cases rv;obtain⟨_,_,t2⟩:=ok.lst h2;exact⟨SeqAt.RcAt.int_list a tu t2 hu0,SeqAt.RcNeAt.int_list a tu t2 hu0⟩
  |dK _ _ _=>exact(bA ne).elim
  |dT _ _ _=>exact(bA ne).elim
  |set _ _ _ _=>exact(dF ne).elim
  |scr _=>exact(dG ne).elim
  |fn _=>exact(fD ne).elim
  |non=>cases rv;exact⟨SeqAt.RcAt.int_none a tu,SeqAt.RcNeAt.int_none a tu⟩
  |bl b=>cases rv;exact⟨SeqAt.RcAt.int_bool a tu b,SeqAt.RcNeAt.int_bool a tu b⟩
  |int i=>obtain⟨tk,rfl⟩:=rv;exact⟨SeqAt.RcAt.int_int a tu i tk,SeqAt.RcNeAt.int_int a tu i tk⟩
  |str i=>obtain⟨tk,rfl⟩:=rv;exact⟨SeqAt.RcAt.int_str a tu i tk,SeqAt.RcNeAt.int_str a tu i tk⟩
 |str a=>
  obtain⟨tu,rfl⟩:=ru;cases r2 with
  |tup h2 q2=>cases rv;obtain⟨_,_,t2⟩:=ok.tup h2;exact⟨SeqAt.RcAt.str_tuple a tu t2 hu0,SeqAt.RcNeAt.str_tuple a tu t2 hu0⟩
  |lst h2 mm2 q2=>cases rv;obtain⟨_,_,t2⟩:=ok.lst h2;exact⟨SeqAt.RcAt.str_list a tu t2 hu0,SeqAt.RcNeAt.str_list a tu t2 hu0⟩
  |dK _ _ _=>exact(bA ne).elim
  |dT _ _ _=>exact(bA ne).elim
  |set _ _ _ _=>exact(dF ne).elim
  |scr _=>exact(dG ne).elim
  |fn _=>exact(fD ne).elim
  |non=>cases rv;exact⟨SeqAt.RcAt.str_none a tu,SeqAt.RcNeAt.str_none a tu⟩
  |bl b=>cases rv;exact⟨SeqAt.RcAt.str_bool a tu b,SeqAt.RcNeAt.str_bool a tu b⟩
  |int i=>obtain⟨tk,rfl⟩:=rv;exact⟨SeqAt.RcAt.str_int a tu i tk,SeqAt.RcNeAt.str_int a tu i tk⟩
  |str i=>obtain⟨tk,rfl⟩:=rv;exact⟨SeqAt.RcAt.str_str a tu i tk,SeqAt.RcNeAt.str_str a tu i tk⟩
 |_=>exact zAU (ndx nd)
end
section
variable{K:zAA}{H:Hp}{s:zAF}
open Classical in
def nC(K:zAA)(H:Hp)(d:D)(u:Value):Bool:=if h:∃e,aY e=true/\∃y,RelV y u/\Rp K (λ _=>True) H y e then eqD (choose h) d else false
def aDL(ok:ji K H s)(r:RelV y u)(h:Rp K A H y e)(ne:aY e=true):nC K H d u=eqD e d:=by
 have hx:∃e,aY e=true/\∃y,RelV y u/\Rp K (λ _=>True) H y e:=⟨e,ne,y,r,h.wk λ _ _ _ _=>trivial⟩
 unfold nC;rw[dif_pos hx];obtain⟨n',y',r',h'⟩:=Classical.choose_spec hx;have e1:=RelV.inj r r';subst e1;rw[Rp.inj ok h' h n' ne]
def inD(d:D)(es:List D):Bool:=es.any λ e=>eqD e d
def qI(ok:ji K H s):∀{A:Addr->Prop} {xs:List V} {es:List D} {us:List Value},Rps K A H xs es->Vals xs us->au es=true->us.any (nC K H d)=inD d es:=by
 intro A xs es us h v n;induction v generalizing es with
 |nil=>cases h;rfl
 |cons k t ih=>
  cases h with
  |cons h r=>
   simp only[au,zAa]at n;unfold inD;rw[zDy,zDy,aDL ok k h n.1,ih r n.2];rfl
def tZ(ok:ji K H s)(rx:Rp K A0 H x d)(rv:RelV x v)(hu:A.units+n<cLine)(nd:aY d=true):∀{A1:Addr->Prop} {xs:List V} {es:List D} {us:List Value},Rps K A1 H xs es->Vals xs us->dU es<=n->au es=true->∀u∈us,zDR A s u v (nC K H d u):=by
 intro A1 xs es us h v' hd ne u hm;induction v' generalizing es with
 |nil=>cases hm
 |cons k t ih=>
  cases h with
  |cons h r=>
   simp only[dU]at hd;simp only[au,zAa]at ne;rcases zAM.mp hm with z|z
   .subst z
    rw[aDL ok k h ne.1];exact aLY ok n h rx k rv (zBB (zIq _ _) hd) ne.1 nd hu
   .exact ih r (zBB (zIi _ _) hd) ne.2 z
end
section
variable{X:Cx}
def aFA(K:zAA)(neg:Bool):R2:=λ x y H Q=>∃A B d e,Rp K A H x d/\Rp K B H y e/\nD d<=60/\aY d=true/\aY e=true/\Q (.bl (if neg then !eqD d e else eqD d e)) H
def aKl(hu:X.A.units+64<cLine):OpR X (zBK .Eq) (aFA X.K false):=by
 intro kK s Z H x y v u Q I rx ry h;obtain⟨A,B,d,e,r1,r2,hd,nd,ne,q⟩:=h;exact(aEw (Inv.seqOk I) 60 r1 r2 rx ry hd nd ne (by lia)).1 X.prog X.w X.xe _ ⟨.bl (eqD d e),H,I,rfl,q⟩
def aKb(hu:X.A.units+64<cLine):OpR X (zBK .NotEq) (aFA X.K true):=by
 intro kK s Z H x y v u Q I rx ry h;obtain⟨A,B,d,e,r1,r2,hd,nd,ne,q⟩:=h;exact(aEw (Inv.seqOk I) 60 r1 r2 rx ry hd nd ne (by lia)).2 X.prog X.w X.xe _ ⟨.bl (!eqD d e),H,I,rfl,q⟩
def aEz(K:zAA)(neg:Bool):R2:=λ x y H Q=>∃A B d a es,Rp K A H x d/\y= .ref a/\(Rp K B H (.ref a) (.lst es)\/Rp K B H (.ref a) (.tup es))/\dU es<=60/\aY d=true/\au es=true/\Q (.bl (if neg then !inD d es else inD d es)) H
def aKk(hu:X.A.units+64<cLine):OpR X (zBK .In) (aEz X.K false):=by
 intro kK s Z H x y v u Q I rx ry h;obtain⟨A,B,d,a,es,rd,rfl,ra,hd,nd,ne,q⟩:=h;cases ry;have ok:=Inv.seqOk I;have hu1:X.A.in1.units+60<cLine:=by show X.A.units+1+60<cLine;lia
 rcases ra with ra|ra
 .cases ra with
  |lst ha _ r=>
   obtain⟨its,rv,tl⟩:=ok.lst ha;refine SeqAt.in_listAt (nC X.K H d) tl (λ w hw=>tZ ok rd rx hu1 nd r rv hd ne w (by simpa using hw)) ⟨.bl _,H,I,rfl,?_⟩;rw[show its.toArray.any (nC X.K H d)=its.any (nC X.K H d)by simp,qI ok r rv ne];exact q
 .cases ra with
  |tup ha r=>
   obtain⟨its,rv,tl⟩:=ok.tup ha;refine SeqAt.in_tupleAt (nC X.K H d) tl (λ w hw=>tZ ok rd rx hu1 nd r rv hd ne w (by simpa using hw)) ⟨.bl _,H,I,rfl,?_⟩;rw[show its.toArray.any (nC X.K H d)=its.any (nC X.K H d)by simp,qI ok r rv ne];exact q
def aDf(hu:X.A.units+64<cLine):OpR X (zBK .NotIn) (aEz X.K true):=by
 intro kK s Z H x y v u Q I rx ry h;obtain⟨A,B,d,a,es,rd,rfl,ra,hd,nd,ne,q⟩:=h;cases ry;have ok:=Inv.seqOk I;have hu1:X.A.in1.units+60<cLine:=by show X.A.units+1+60<cLine;lia
 rcases ra with ra|ra
 .cases ra with
  |lst ha _ r=>
   obtain⟨its,rv,tl⟩:=ok.lst ha;refine SeqAt.notIn_listAt (nC X.K H d) tl (λ w hw=>tZ ok rd rx hu1 nd r rv hd ne w (by simpa using hw)) ⟨.bl _,H,I,rfl,?_⟩;rw[show its.toArray.any (nC X.K H d)=its.any (nC X.K H d)by simp,qI ok r rv ne];exact q
 .cases ra with
  |tup ha r=>
   obtain⟨its,rv,tl⟩:=ok.tup ha;refine SeqAt.notIn_tupleAt (nC X.K H d) tl (λ w hw=>tZ ok rd rx hu1 nd r rv hd ne w (by simpa using hw)) ⟨.bl _,H,I,rfl,?_⟩;rw[show its.toArray.any (nC X.K H d)=its.any (nC X.K H d)by simp,qI ok r rv ne];exact q
end
section
variable{K:zAA}
def eqR(neg:Bool):D->D->Rs D:=λ d e=>if decide (nD d<=60)&&aY d&&aY e then .ok (.bl (if neg then !eqD d e else eqD d e))else .st
def inR(neg:Bool):D->D->Rs D:=λ d e=>match e with
 | .lst es=>if decide (dU es<=60)&&aY d&&au es then .ok (.bl (if neg then !inD d es else inD d es))else .st
 | .tup es=>if decide (dU es<=60)&&aY d&&au es then .ok (.bl (if neg then !inD d es else inD d es))else .st
 |_=>.st
def os_eq:OpS K (aFA K n) (eqR n):=by
 intro A x y d e H Q z rx ry ez q;unfold eqR at ez;split at ez
 .rename_i h
  simp only[zAa,decide_eq_true_eq]at h;cases ez;exact⟨A,A,d,e,rx,ry,h.1.1,h.1.2,h.2,q _ H (aQ.refl H) (.bl _)⟩
 .cases ez
def aFX:OpS K (aEz K n) (inR n):=by
 intro A x y d e H Q z rx ry ez q;unfold inR at ez;split at ez
 .split at ez
  .rename_i h
   simp only[zAa,decide_eq_true_eq]at h;cases ez;cases ry with
   |lst ha mm r=>exact⟨A,A,d,_,_,rx,rfl,.inl (.lst ha mm r),h.1.1,h.1.2,h.2,q _ H (aQ.refl H) (.bl _)⟩
  .cases ez
 .split at ez
  .rename_i h
   simp only[zAa,decide_eq_true_eq]at h;cases ez;cases ry with
   |tup ha r=>exact⟨A,A,d,_,_,rx,rfl,.inr (.tup ha r),h.1.1,h.1.2,h.2,q _ H (aQ.refl H) (.bl _)⟩
  .cases ez
 .cases ez
def aFt:∀x y z,eqR n x y= .ok z->imm z=true:=by
 intro x y z e;unfold eqR at e;split at e
 .cases e;rfl
 .cases e
def aLM:∀x y z,inR n x y= .ok z->imm z=true:=by
 intro x y z e;unfold inR at e;split at e
 .split at e
  .cases e;rfl
  .cases e
 .split at e
  .cases e;rfl
  .cases e
 .cases e
end
section
variable{K:zAA}
def boolsOf:List D->Option (List Bool)
 |[]=>some []
 | .bl i::r=>(boolsOf r).map (i::·)
 |_=>none
theorem qF:∀{l:List D} {ns:List Bool},boolsOf l=some ns->l=ns.map .bl
 |[],ns,h=>by cases h;rfl
 | .bl i::r,ns,h=>by
  simp only[boolsOf,zCS]at h;obtain⟨ms,h1,rfl⟩:=h;rw[qF h1];rfl
 | .non::_,_,h=>by cases h
 | .int _::_,_,h=>by cases h
 | .str _::_,_,h=>by cases h
 | .tup _::_,_,h=>by cases h
 | .lst _::_,_,h=>by cases h
 | .dct _ _::_,_,h=>by cases h
 | .set _::_,_,h=>by cases h
 | .scr _::_,_,h=>by cases h
theorem sS:∀ns:List Bool,boolsOf (ns.map .bl)=some ns
 |[]=>rfl
 |n::ns=>by simp only[zAG,boolsOf,sS ns,zCr]
theorem xr{X:Cx}:∀{bs:List Bool} {us:List Value},Vals (bs.map V.bl) us->LSm.BoolsAre us bs
 |[],_,.nil=>.nil
 |b::bs,_,.cons r t=>by
  have e:_=zEw b:=r;subst e;exact .cons b (xr (X:=X) t)
theorem Rps.bools_of:∀{xs:List V} {bs:List Bool},Rps K A H xs (bs.map D.bl)->xs=bs.map V.bl
 |_,[],.nil=>rfl
 |_,n::ns,.cons h r=>by
  cases h;rw[zAG,Rps.bools_of r]
def v9(f:List Bool->Bool):List D->Rs D
 |[.lst l]=>match boolsOf l with
  |some bs=>.ok (.bl (f bs))
  |none=>.st
 |_=>.st
def aG9{X:Cx}(hc:X.calm=true):cI X (.builtin "all") (λ xs H Q=>∃(p:Addr) (bs:List Bool),xs=[.ref p]/\H p=some (.lst (bs.map V.bl))/\Q (.bl (bs.all id)) H):=by
 intro kK s Z H xs us Q I r h;obtain⟨p,bs,rfl,hp,q⟩:=h;obtain⟨u,rfl,ru⟩:=vals1 r;cases ru;obtain⟨its,rv,pl,hz⟩:=I.list (SqL.of hp);have hb:=xr (X:=X) rv;have hl:=pl.isList;have hlt:p<s.heap.objs.size:=by obtain⟨_,e,_⟩:=hl;exact zA1 e
 refine call_all_walk (zEm hl ?_);refine⟨s.heap.objs.size,[s.heap.objs.size,p],[s.heap.objs.size],its.toArray.size,_,_,λ i=>(bs[i]?).getD true,rfl,zHo (A:=X.A.in1) (I.ok.hd hc) _ p (zAc hlt) its.toArray,
  ⟨⟨_,zAY _ rfl,rfl,rfl⟩,hl.push _⟩,λ i v s' Q' E' hP hQ=>?_,λ h' tk hk=>?_⟩
 .obtain⟨b,e,rfl⟩:=hb.get i v (by simpa using hP)
  simp only[e,Option.getD_some]at hQ;exact zDN hQ
 .have e:((zAr its.toArray.size).all λ i=>(bs[i]?).getD true)=bs.all id:=by
   rw[zAK,hb.length];exact LSm.range_all bs
  rw[e];exact⟨.bl _,H,I.kept (LSm.kept_iter hk),rfl,q⟩
def aL4:oA K (λ xs H Q=>∃(p:Addr) (bs:List Bool),xs=[.ref p]/\H p=some (.lst (bs.map V.bl))/\Q (.bl (f bs)) H) (v9 f):=by
 intro A xs ds H Q z r ez q;unfold v9 at ez;split at ez
 .split at ez
  .rename_i l bs e
   cases ez
   have:=qF e
   subst this;cases r with
   |cons h r=>
    cases r;cases h with
    |lst h m r=>
     have:=r.bools_of
     subst this;exact⟨_,bs,rfl,h,q _ H (aQ.refl H) (.bl _)⟩
  .cases ez
 .cases ez
def aI4:∀x z,v9 f x= .ok z->imm z=true:=by
 intro x z e;unfold v9 at e;split at e
 .split at e
  .cases e;rfl
  .cases e
 .cases e
def mmD(f:Int->Int->Int):List D->Rs D
 |[.int i,.int j]=>.ok (.int (f i j))
 |_=>.st
def aJi:oA K (λ xs H Q=>∃i j,xs=[.int i,.int j]/\Q (.int (f i j)) H) (mmD f):=by
 intro A xs ds H Q z r ez q;unfold mmD at ez;split at ez
 .cases ez
  cases r with
  |cons h r=>
   cases h;cases r with
   |cons h r=>
    cases h;cases r;exact⟨_,_,rfl,q _ H (aQ.refl H) (.int _)⟩
 .cases ez
def aFq:∀x z,mmD f x= .ok z->imm z=true:=by
 intro x z e;unfold mmD at e;split at e
 .cases e;rfl
 .cases e
def eU:List D->Rs D
 |[.lst l]=>.ok (.tup l)
 |[.tup l]=>.ok (.tup l)
 |_=>.st
def aG3:oA K (λ xs H Q=>∃p ys,xs=[.ref p]/\((SqL K H p ys/\∀l,H l=none->Q (.ref l) (upd H l (.tup ys)))\/(SqT K H p ys/\Q (.ref p) H))) eU:=by
 intro A xs ds H Q z r ez q;unfold eU at ez;split at ez
 .cases ez
  cases r with
  |cons h r=>
   cases r;cases h with
   |lst h m r=>exact⟨_,_,rfl,.inl ⟨SqL.of h,λ l hl=>q _ _ (ao hl _) (.tup (SqT.of aa) ((r.wk λ _ _ _ z=>.inr z.1).up (ao hl _)))⟩⟩
 .cases ez
  cases r with
  |cons h r=>
   cases r;cases h with
   |tup h r=>exact⟨_,_,rfl,.inr ⟨h,q _ H (aQ.refl H) (.tup h (r.wk λ _ _ _ z=>.inr z))⟩⟩
 .cases ez
end
def cutD(l:List D)(lo hi:Option Int):List D:=(l.drop (HT.sIx l.length 0 lo)).take (HT.sIx l.length l.length hi-HT.sIx l.length 0 lo)
def Rps.cut{K:zAA}(r:Rps K A H xs ds)(lo hi:Option Int):Rps K A H (v7 xs lo hi) (cutD ds lo hi):=by
 unfold v7 cutD;rw[r.length];exact(r.drop _).take _
def slD(d:D)(lo hi:Option Int):Rs D:=match d with
 | .tup l=>.ok (.tup (cutD l lo hi))
 | .lst l=>.ok (.lst (cutD l lo hi))
 |_=>.st
def aKL(K:zAA):V->Option Int->Option Int->Hp->VK->Prop:=λ x lo hi H Q=>(∃a xs,x= .ref a/\SqT K H a xs/\∀c H',aQ H H'->SqT K H' c (v7 xs lo hi)->Q (.ref c) H')\/aLw K x lo hi H Q
def aHP:SlR X (λ x lo hi H Q=>∃a xs,x= .ref a/\SqT X.K H a xs/\∀c H',aQ H H'->SqT X.K H' c (v7 xs lo hi)->Q (.ref c) H'):=by
 intro kK s Z H x v vl vu lo hi sl Q I rx hs pl pu h;obtain⟨a,xs,rfl,hx,q⟩:=h;cases rx;obtain⟨its,r,ht,hz⟩:=I.tuple hx;have oQ:its.toArray.size=xs.length:=by rw[zAK];exact r.length.symm
 refine⟨"tuple",_,zBx.lookup,ht.typeIs,?_⟩;by_cases hw:HT.sIx xs.length 0 lo=0/\HT.sIx xs.length xs.length hi=xs.length
 .refine HT.pY ht hs pl pu (by rw[oQ];exact hw.1) (by rw[oQ];exact hw.2) ⟨.ref a,H,I,rfl,q a H (aQ.refl H) ?_⟩
  have:v7 xs lo hi=xs:=by
   unfold v7;rw[hw.1,hw.2,zC8,zHN,List.take_length]
  rw[this];exact hx
 .refine HT.pX ht hs pl pu (by rw[oQ];exact hw) ?_ (by rw[oQ];exact hz)
  rw[oQ];refine⟨.ref s.heap.objs.size,_,I.laid (t':=s.toks) (o:=.tup (v7 xs lo hi)) (λ b ob q=>zAD _ q) (zAW _) ?_,rfl,q _ _ (ao (I.hok.fresh (zAW _)) _) (SqT.of aa)⟩;exact⟨⟨zBB (sJ xs lo hi) hz,NoD.push _⟩,_,(r.drop (HT.sIx xs.length 0 lo)).take (HT.sIx xs.length xs.length hi-HT.sIx xs.length 0 lo),zIU _ _⟩
def aLq:SlR X (aKL X.K):=aHP.or aHQ
section
variable{C:Ct}{pos p2:Pos}{m:Mode}{a e:Expr}{fa fe:En->Rs D}{lo hi:Option Expr}
def aNB(K:zAA)(G:Gx)(t:TO)(f:En->Rs (Option Int)):Prop:=∀U Z H ρ lab (Q:Option Int->Hp->Prop),RR K G U ρ Z H lab->WR G (f ρ) (λ o=>∀H',aQ H H'->Q o H')->t Z H Q
def SO(C:Ct)(e:Option Expr)(f:En->Rs (Option Int)):Prop:=∃t,(∀i,PO (C.X i) e t)/\aNB C.K C.G t f
def nQ:En->Rs (Option Int):=λ _=>.ok none
def nP(fe:En->Rs D):En->Rs (Option Int):=λ ρ=>(fe ρ).bd λ d=>match d with
 | .int i=>.ok (some i)
 |_=>.st
def yN:SO C none nQ:=⟨_,λ _=>aHj,λ U Z H ρ lab Q R W=>W H (aQ.refl H)⟩
def yM(h:SE C m e fe):SO C (some e) (nP fe):=by
 obtain⟨t,h1,h2⟩:=h;refine⟨_,λ i=>aHi (h1 i),λ U Z H ρ lab Q R W=>h2 U Z H ρ lab _ R (W.bd.imp λ d _ w x H1 s r=>?_)⟩;cases r with
 |int i=>exact⟨i,rfl,w H1 s⟩
 |_=>exact zAU w
def qO(fa:En->Rs D)(fl fh:En->Rs (Option Int)):En->Rs D:=λ ρ=>(fa ρ).bd λ d=>(fl ρ).bd λ l=>(fh ρ).bd λ h=>okD (slD d l h)
def aAG{fl fh:En->Rs (Option Int)}(ha:SE C m a fa)(hl:SO C lo fl)(hh:SO C hi fh):SE C m (.Subscript a (.Slice lo hi none p2) pos) (qO fa fl fh):=by
 obtain⟨t,h1,h2⟩:=ha;obtain⟨tl,l1,l2⟩:=hl;obtain⟨th,k1,k2⟩:=hh;refine⟨tSl (aKL C.K) t tl th,λ i=>by rw[<-C.hK i];exact aA0 aLq (h1 i) (l1 i) (k1 i),λ U Z H ρ lab Q R W=>h2 U Z H ρ lab _ R (W.bd.imp λ d _ w x H1 s1 r1=>?_)⟩;refine l2 U Z H1 ρ lab _ (R.up s1) (w.bd.imp λ ol _ w H2 s2=>?_);refine k2 U Z H2 ρ lab _ ((R.up s1).up s2) (w.bd.imp λ oh _ w H3 s3=>?_);obtain⟨z,ez,w⟩:=w.okD;have s:=s1.trans (s2.trans s3);have r3:=r1.up (s2.trans s3);cases d with
 |tup l=>
  cases ez;cases r3 with
  |tup h r=>exact .inl ⟨_,_,rfl,h,λ c H' s' hc=>w _ H' (s.trans s') (.tup hc ((r.cut ol oh).up s'))⟩
 |lst l=>
  cases ez;cases r3 with
  |lst h mm r=>
   exact .inr ⟨_,_,rfl,SqL.of h,λ p hp=>w _ _ (s.trans (ao hp _)) (.lst aa (.inl (s.free hp)) (((r.cut ol oh).wk λ q o e z=>⟨z.1,λ e'=>by subst e';rw[hp]at e;cases e⟩).up (ao hp _)))⟩
 |_=>cases ez
end
section
variable{C:Ct}{pos p:Pos}{m m1 m2 m3:Mode}{a b c e:Expr}{fa fb fc:En->Rs D}{ga:En->Rs (List D)}
def Ct.u0(C:Ct)(i:C.ι):(C.X i).A.units<cLine:=(C.room i).units0
def Ct.u64(C:Ct)(i:C.ι):(C.X i).A.units+64<cLine:=(C.room i).units
def Ct.ltR(C:Ct)(i:C.ι):OpR (C.X i) (zBK .Lt) (λ x y H Q=>rI0 (λ i j=>.bl (decide (i<j))) x y H Q\/aH9 C.K x y H Q):=by have h:=aKe (X:=C.X i) (C.u0 i);rw[C.hK i]at h;exact h
def Ct.leR(C:Ct)(i:C.ι):OpR (C.X i) (zBK .LtE) (λ x y H Q=>rI0 (λ i j=>.bl (decide (i<=j))) x y H Q\/aHa C.K x y H Q):=by have h:=aKg (X:=C.X i) (C.u0 i);rw[C.hK i]at h;exact h
def Ct.eqRl(C:Ct)(i:C.ι):OpR (C.X i) (zBK .Eq) (aFA C.K false):=by have h:=aKl (X:=C.X i) (C.u64 i);rw[C.hK i]at h;exact h
def Ct.neRl(C:Ct)(i:C.ι):OpR (C.X i) (zBK .NotEq) (aFA C.K true):=by have h:=aKb (X:=C.X i) (C.u64 i);rw[C.hK i]at h;exact h
def Ct.inRl(C:Ct)(i:C.ι):OpR (C.X i) (zBK .In) (aEz C.K false):=by have h:=aKk (X:=C.X i) (C.u64 i);rw[C.hK i]at h;exact h
def Ct.ninRl(C:Ct)(i:C.ι):OpR (C.X i) (zBK .NotIn) (aEz C.K true):=by have h:=aDf (X:=C.X i) (C.u64 i);rw[C.hK i]at h;exact h
def Ct.aM6(C:Ct)(i:C.ι):OpR (C.X i) (zCl .Add) (aFB C.K):=by have h:=aIE (X:=C.X i);rw[C.hK i]at h;exact h
def yI:D->D->Rs D:=i2 (λ _ _=>true) λ i j=>.int (i-j)
def vR:D->D->Rs D:=i2 (λ _ j=>decide (0<j)&&decide (j<1073741824)) λ i j=>.int (i / j)
def qg:D->D->Rs D:=i2 (λ _ j=>decide (0<j)) λ i j=>.int (i%j)
def aKU:D->D->Rs D:=i2 (λ i j=>decide (0<=j)&&decide (j<=1000000)&&decide (i.natAbs<2^64)) λ i j=>.int (i^j.toNat)
def dN(ha:SE C m1 a fa)(hb:SE C m2 b fb):SE C (jn m1 m2) (.BinOp a .Add b pos) (op2 cH fa fb):=wQ C.aM6 aK7 ha hb
def oH(ha:SE C m1 a fa)(hb:SE C m2 b fb):SE C (jn m1 m2) (.BinOp a .Mult b pos) (op2 gF fa fb):=wQ (λ _=>aHz) aK6 ha hb
def yX(ha:SE C m1 a fa)(hb:SE C m2 b fb):SE C (some []) (.BinOp a .Sub b pos) (op2 yI fa fb):=cZ (wQ (λ _=>aK8) aHx ha hb) λ _ _ h=>gA zN h
def aCd(ha:SE C m1 a fa)(hb:SE C m2 b fb):SE C (some []) (.BinOp a .FloorDiv b pos) (op2 vR fa fb):=cZ (wQ (λ _=>aIA) (aBr λ i j h=>by simpa[aMh]using h) ha hb) λ _ _ h=>gA zN h
def qQ(ha:SE C m1 a fa)(hb:SE C m2 b fb):SE C (some []) (.BinOp a .Mod b pos) (op2 qg fa fb):=cZ (wQ (λ _=>aKd) (aBr λ i j h=>by simpa using h) ha hb) λ _ _ h=>gA zN h
def aKE(ha:SE C m1 a fa)(hb:SE C m2 b fb):SE C (some []) (.BinOp a .Pow b pos) (op2 aKU fa fb):=cZ (wQ (λ _=>aKa) (aBr λ i j h=>by simp only[zAa,decide_eq_true_eq]at h;exact⟨h.1.1,h.1.2,h.2⟩) ha hb) λ _ _ h=>gA zN h
def yZ(ha:SE C m a fa):SE C (some []) (.UnaryOp .USub a pos) (op1 aA7 fa):=cZ (aLs (λ _=>aEY) aJm ha) λ _ _ h=>aI2 aI3 h
def aLv(ha:SE C m1 a fa)(hb:SE C m2 b fb):SE C (some []) (.Compare a [.Gt] [b] pos) (op2 gtD fa fb):=cZ (qT (λ _=>aJ8) ue ha hb) λ _ _ h=>gA aCP h
def aJR(ha:SE C m1 a fa)(hb:SE C m2 b fb):SE C (some []) (.Compare a [.Eq] [b] pos) (op2 (eqR false) fa fb):=cZ (qT C.eqRl os_eq ha hb) λ _ _ h=>gA aFt h
def aLt(ha:SE C m1 a fa)(hb:SE C m2 b fb):SE C (some []) (.Compare a [.NotEq] [b] pos) (op2 (eqR true) fa fb):=cZ (qT C.neRl os_eq ha hb) λ _ _ h=>gA aFt h
def aJQ(ha:SE C m1 a fa)(hb:SE C m2 b fb)(hm:zCq .In b=false:=by with_unfolding_all rfl):SE C (some []) (.Compare a [.In] [b] pos) (op2 (inR false) fa fb):=cZ (qT C.inRl aFX ha hb hm) λ _ _ h=>gA aLM h
def aJP(ha:SE C m1 a fa)(hb:SE C m2 b fb):SE C (some []) (.Compare a [.Is] [b] pos) (op2 (isD false) fa fb):=cZ (qT (λ _=>aKi) aMJ ha hb) λ _ _ h=>gA aFs h
def aEh(ha:SE C m1 a fa)(hb:SE C m2 b fb):SE C (some []) (.Compare a [.IsNot] [b] pos) (op2 (isD true) fa fb):=cZ (qT (λ _=>aCq) aA2 ha hb) λ _ _ h=>gA aFs h
def uL(ha:SE C m1 a fa)(hb:SE C m2 b fb):ST C (.Compare a [.Lt] [b] pos) (tsb (op2 ltD fa fb)):=lK C.ltR aJ7 ha hb
def aJN(ha:SE C m1 a fa)(hb:SE C m2 b fb):ST C (.Compare a [.Gt] [b] pos) (tsb (op2 gtD fa fb)):=lK (λ _=>aJ8) ue ha hb
def aLp(ha:SE C m1 a fa)(hb:SE C m2 b fb):ST C (.Compare a [.GtE] [b] pos) (tsb (op2 geD fa fb)):=lK (λ _=>aMM) ue ha hb
def kZ(ha:SE C m1 a fa)(hb:SE C m2 b fb):ST C (.Compare a [.Eq] [b] pos) (tsb (op2 (eqR false) fa fb)):=lK C.eqRl os_eq ha hb
def wL(ha:SE C m1 a fa)(hb:SE C m2 b fb):ST C (.Compare a [.NotEq] [b] pos) (tsb (op2 (eqR true) fa fb)):=lK C.neRl os_eq ha hb
def aJM(ha:SE C m1 a fa)(hb:SE C m2 b fb)(hm:zCq .In b=false:=by with_unfolding_all rfl):ST C (.Compare a [.In] [b] pos) (tsb (op2 (inR false) fa fb)):=lK C.inRl aFX ha hb hm
def aBZ(ha:SE C m1 a fa)(hb:SE C m2 b fb)(hm:zCq .NotIn b=false:=by with_unfolding_all rfl):ST C (.Compare a [.NotIn] [b] pos) (tsb (op2 (inR true) fa fb)):=lK C.ninRl aFX ha hb hm
def zx(ha:SE C m1 a fa)(hb:SE C m2 b fb):ST C (.Compare a [.IsNot] [b] pos) (tsb (op2 (isD true) fa fb)):=lK (λ _=>aCq) aA2 ha hb
def aH3(ha:SE C m1 a fa)(hb:SE C m2 b fb)(hc:SE C m3 c fc)(hm:zIc [.LtE,.LtE] [b,c]=false:=by with_unfolding_all rfl):SE C (some []) (.Compare a [.LtE,.LtE] [b,c] pos) (chD leD leD fa fb fc):=aAJ C.leR aFW C.leR aFW aLL ha hb hc hm
def aCc(ha:SE C m1 a fa)(hb:SE C m2 b fb)(hc:SE C m3 c fc)(hm:zIc [.LtE,.Lt] [b,c]=false:=by with_unfolding_all rfl):SE C (some []) (.Compare a [.LtE,.Lt] [b,c] pos) (chD leD ltD fa fb fc):=aAJ C.leR aFW C.ltR aJ7 aLK ha hb hc hm
def aK(ha:SE C m1 a fa)(hb:SE C m2 b fb)(hp:t8 b:=by exact λ _ _=>rfl):SE C m1 (.Subscript a b pos) (op2 ixD fa fb):=by
 obtain⟨t,h1,h2⟩:=ha;obtain⟨u,k1,k2⟩:=hb;refine⟨tOp (rIx C.K) t u,λ i=>by rw[<-C.hK i];exact aJ5 aLG (h1 i) (k1 i) hp,λ U Z H ρ lab Q R W=>?_⟩;refine h2 U Z H ρ lab _ R (W.bd.imp λ d _ w x H1 s1 r1=>?_);refine k2 U Z H1 ρ lab _ (R.up s1) (w.bd.imp λ e _ w y H2 s2 r2=>?_);obtain⟨z,ez,w⟩:=w.okD;have hi:imm e=true:=by
  unfold ixD at ez;split at ez<;>first|rfl|cases ez
 refine aMI (fpM m1 lab H) x y d e H2 Q z (r1.up s2) (r2.imm hi) ez λ v H' s r=>w v H' ((s1.trans s2).trans s) (r.wk λ p o _ q=>?_)
 rcases q with q|q
 .exact .inl ((s1.trans s2).free q)
 .exact q
def iM(hm:C.mg "len"=none)(ha:SA C m [a] ga)(he:∀i,zA4 [a] (C.X i).env=[(false,eval a (C.X i).env)]:=by intro _;rfl)(hg:∀i,Gl (C.X i) "len":=by intro _;rfl):SE C (some []) (.Call (.Name "len" p) [a] [] pos) (opA iW ga):=
 cZ (iQ (λ i=>by have h:=qD (X:=C.X i);rw[C.hK i]at h;exact h) aG5 hg hm zIl ha (by decide) (by decide) he) λ _ _ h=>kJ aDG h
def aEj(hm:C.mg "all"=none)(ha:SA C m [a] ga)(he:∀i,zA4 [a] (C.X i).env=[(false,eval a (C.X i).env)]:=by intro _;rfl)(hg:∀i,Gl (C.X i) "all":=by intro _;rfl)(hv:zBO "all"=some (.builtin "all"):=by decide+kernel):SE C (some []) (.Call (.Name "all" p) [a] [] pos) (opA (v9 λ bs=>bs.all id) ga):=
 cZ (iQ (λ i=>aG9 (C.calm i)) aL4 hg hm hv ha (by decide) (by decide) he) λ _ _ h=>kJ aI4 h
def aH0(hm:C.mg "min"=none)(ha:SA C m [a,b] ga)(he:∀i,zA4 [a,b] (C.X i).env=(false,eval a (C.X i).env)::zA4 [b] (C.X i).env:=by intro _;rfl)(hpl:∀i,(zCs pos (zA4 [b] (C.X i).env)).any (·.1)=false:=by intro _;rfl)(hg:∀i,Gl (C.X i) "min":=by intro _;rfl)(hv:zBO "min"=some (.builtin "min"):=by decide+kernel):SE C (some []) (.Call (.Name "min" p) [a,b] [] pos) (opA (mmD λ i j=>if j<i then j else i) ga):=
 cZ (iQ (λ i=>aEE (C.calm i)) aJi hg hm hv ha (by decide) (by decide) he hpl) λ _ _ h=>kJ aFq h
def aH1(hm:C.mg "max"=none)(ha:SA C m [a,b] ga)(he:∀i,zA4 [a,b] (C.X i).env=(false,eval a (C.X i).env)::zA4 [b] (C.X i).env:=by intro _;rfl)(hpl:∀i,(zCs pos (zA4 [b] (C.X i).env)).any (·.1)=false:=by intro _;rfl)(hg:∀i,Gl (C.X i) "max":=by intro _;rfl)(hv:zBO "max"=some (.builtin "max"):=by decide+kernel):SE C (some []) (.Call (.Name "max" p) [a,b] [] pos) (opA (mmD λ i j=>if j>i then j else i) ga):=
 cZ (iQ (λ i=>aEF (C.calm i)) aJi hg hm hv ha (by decide) (by decide) he hpl) λ _ _ h=>kJ aFq h
def lO(hm:C.mg "tuple"=none)(ha:SA C m [a] ga)(he:∀i,zA4 [a] (C.X i).env=[(false,eval a (C.X i).env)]:=by intro _;rfl)(hg:∀i,Gl (C.X i) "tuple":=by intro _;rfl)(hv:zBO "tuple"=some (.type "tuple"):=by decide+kernel):SE C m (.Call (.Name "tuple" p) [a] [] pos) (opA eU ga):=
 aEi (λ i=>by have h:=wG (X:=C.X i);rw[C.hK i]at h;exact h) aG3 hg hm hv ha (by decide) (by decide) he
def aC9(K:zAA):Sp:=λ vs H Q E=>∃a ns,vs=[.ref a]/\mK K H a ns/\ns.length<=63/\∀H',Q (.bl true) H'
def aIS{K:zAA}(h:∀ns:List Int,ns.length<=63->F [.scr ns]= .ok (.bl true)):∀vs H Q E,aC9 K vs H Q E->spF K cl 1 F vs H Q E:=by
 rintro vs H Q E ⟨a,ns,rfl,hs,hl,q⟩;refine⟨[.scr ns],rfl,.cons (.scr hs) .nil,?_⟩;rw[h ns hl];intro v H' s r;cases r;exact q H'
def aKF{K:zAA}{a:Addr}(hO:Only H)(h:SqL K H a (ns.map V.int)):mK K H a ns:=by
 rcases h with (h|⟨o,h⟩)|h
 .rcases hO a with z|⟨o,xs,z⟩
  .rw[h]at z;cases z
  .rw[h]at z;cases z
 .exact .inl ⟨o,h⟩
 .exact .inr h
end
section
variable{K:zAA}
theorem mW:∀{ns:List Int} {us:List Value},Vals (ns.map V.int) us->∃ts:List (Int×Tok),us=ts.map (λ q=>zED q.1 q.2)/\ts.map zFA=ns
 |[],_,.nil=>⟨[],rfl,rfl⟩
 |n::ns,_,.cons r t=>by
  obtain⟨tk,e⟩:∃tk,_=zED n tk:=r
  obtain⟨ts,e1,e2⟩:=mW t;subst e;exact⟨(n,tk)::ts,by rw[e1];rfl,by rw[<-e2];rfl⟩
def xq(hc:X.calm=true):cI X (.builtin "min") (λ xs H Q=>∃(p:Addr) (ns:List Int) (m:Int),xs=[.ref p]/\H p=some (.lst (ns.map V.int))/\ns.min?=some m/\Q (.int m) H):=by
 intro kK s Z H xs us Q I r h;obtain⟨p,ns,m,rfl,hp,hm,q⟩:=h;obtain⟨u,rfl,ru⟩:=vals1 r;cases ru;obtain⟨its,rv,pl,hz⟩:=I.list (SqL.of hp);obtain⟨ts,rfl,rfl⟩:=mW rv;have hsz:0<ts.toArray.size:=by
  cases ts with
  |nil=>cases hm
  |cons a b=>simp
 refine min_intList (xs:=ts.toArray) (I.ok.hd hc) (by have:=pl.isList;simpa[zFz]using this) hsz λ v h' tk hv hk=>?_
 obtain⟨t,rfl⟩:=zIv hv;obtain⟨h1,h2⟩:=zJW (numAt ts.toArray) (ts.toArray.size-1);have hM:(ts.map zFA).min?=some (numAt ts.toArray (argBest (λ i j=>decide (numAt ts.toArray i<numAt ts.toArray j)) (ts.toArray.size-1))):=by
  rw[zC2];refine⟨?_,λ a ha=>?_⟩
  .rw[zJH];exact getD_mem (by rw[zAE];simp at h1 hsz ⊢;omega)
  .obtain⟨j,hj,rfl⟩:=mem_getD ha
   have:=h2 j (by rw[zAE]at hj;simp;omega)
   rw[zJH _ j]at this;exact this
 rw[hm]at hM;injection hM with hM
 exact⟨.int m,H,I.kept hk,⟨t,by rw[hM]⟩,q⟩
def j7(f:List Int->Option Int):List D->Rs D
 |[.lst l]=>match intsOf l with
  |some ns=>match f ns with
   |some m=>.ok (.int m)
   |none=>.st
  |none=>.st
 |_=>.st
def aDO:oA K (λ xs H Q=>∃(p:Addr) (ns:List Int) (m:Int),xs=[.ref p]/\H p=some (.lst (ns.map V.int))/\f ns=some m/\Q (.int m) H) (j7 f):=by
 intro A xs ds H Q z r ez q;unfold j7 at ez;split at ez
 .split at ez
  .rename_i l ns e
   split at ez
   .rename_i m em
    cases ez
    have:=bM e
    subst this;cases r with
    |cons h r=>
     cases r;cases h with
     |lst h _ r=>
      have:=r.ints_of
      subst this;exact⟨_,ns,m,rfl,h,em,q _ H (aQ.refl H) (.int _)⟩
   .cases ez
  .cases ez
 .cases ez
def aAw:∀x z,j7 f x= .ok z->imm z=true:=by
 intro x z e;unfold j7 at e;split at e
 .split at e
  .split at e
   .cases e;rfl
   .cases e
  .cases e
 .cases e
end
section
variable{C:Ct}{pos p:Pos}{a:Expr}{ga:En->Rs (List D)}{m:Mode}
def aHY(hm:C.mg "min"=none)(ha:SA C m [a] ga)(he:∀i,zA4 [a] (C.X i).env=[(false,eval a (C.X i).env)]:=by intro _;rfl)(hg:∀i,Gl (C.X i) "min":=by intro _;rfl)(hv:zBO "min"=some (.builtin "min"):=by decide+kernel):SE C (some []) (.Call (.Name "min" p) [a] [] pos) (opA (j7 zCm) ga):=
 cZ (iQ (λ i=>xq (C.calm i)) aDO hg hm hv ha (by decide) (by decide) he) λ _ _ h=>kJ aAw h
end
end VL
namespace L2
open PySem PySem.Spec PyProof.Rows
def cxW(P:zA7)(w:World)(K:zAA)(mg:Str->Option Value)(base:Heap)(N:List Str)(qual:Str)(scope:Scope)(f:Addr)(cd:Value)(A:zAt)(s:zAF)(H:Hp)(Pt:Addr):Cx where
 prog:=P
 w:=w
 K:=K
 mg:=mg
 base:=base
 A:=A.deeper (zFH qual scope s.heap.objs.size f cd)
 N:=N
 z5:=s
 z3:=H
 env:=zFH qual scope s.heap.objs.size f cd
 outer:=[]
 stack:=[zFH qual scope s.heap.objs.size f cd]
 ex:=[Pt]
 calm:=true
 fn:=λ _=>true
 pn:=[]
 xe:=λ _ _=>False
 ta:=[(Pt,PySem.W.tabObj #[])]
 tq:=qual++".<locals>."++"<lambda>"
end L2
namespace VL
open PySem PySem.Spec PyProof.Rows L2
end VL
namespace L2
open PySem PySem.Spec PyProof.Rows
def pe_isi{X:Cx}{n0:Str}{e:Expr}{c:V}{p p' pos:Pos}(hN:X.N[0]? =some n0)(hv:X.env.scope.names.lookup n0=some .local)(hg:Gl X "isinstance")(hm:X.mg "isinstance"=none)(hc:PE X e (tC c))(hse:zA4 [e] X.env=(false,eval e X.env)::zA4 [] X.env:=by rfl)
  (hpl:(zCs pos (zA4 [e] X.env)).any (·.1)=false:=by rfl)(d:Nd n0:=by decide)(d':(n0==("__classdict__":Str))=false:=by decide):PE X (.Call (.Name "isinstance" p) [.Name n0 p',e] [] pos) (aMp X.K c):=
 jZ aEI hg hm rfl (cj (jP hN (.inl hv) d d') (cj hc gQ hse)) (hpl:=hpl)
section
variable{P:zA7}{w:World}{K:zAA}{mg:Str->Option Value}{base:Heap}{x q n0 n1 n2 odd:Str}{st:Stmt}{f:Addr}{fd:zBA}{k:Nat}{wd:Addr->Option Str}{c1 c2:V}{k1 k2 k3 k4:List V}{l1 l2:List Str}{a1 a2:Expr}{as1 as2 e1 e2 e3 e4 w1 w2:List Expr}{kw1 kw2:List zCy}
 {p1 p2 p3 p4 p5 p6 p7 p8 p9 p10 p11 p12 p13 p14 p15 p16 p17 p18 p19 p20 p21 p22 p23 p24 p25 p26 p27 p28 p29 p30 p31 p32 p33 p34 p35 p36 p37 p38 p39 p40:Pos}{q1 q2 q3 q4 q5 q6 q7:Pos}{j1 j2 j3 j4 j5:Nat}
end
structure LawOk(P:zA7)(w:World)(K:zAA)(mg:Str->Option Value)(fa Pt:Addr)(k n:Nat):Prop where
 ex:∃(x name qual:Str) (params:zIO) (body:List Stmt) (scope:Scope) (dV kV doc pm ct oc:Value) (an od:Option Addr) (c:Addr) (osl:Array (Option Value)) (N:List Str),
  K.lookup Pt=none/\PySem.W.codeHdIn K c Pt=true/\K.lookup fa=some ⟨oc,od,.func (zCb name qual params body scope dV kV doc pm an (.ref c) ct),osl⟩/\zEH K (.ref c) qual=true/\aX N [x] scope/\
  (∀(s:zAF) (u:Value),zGL s (zCb name qual params body scope dV kV doc pm an (.ref c) ct) ⟨[u],[]⟩ [(x,u)])/\
  ∀(a:Addr) (ns:List Int),ns.length<=n->∀(base:Heap) (s:zAF) (H:Hp),iw k (callerA.deeper (zFH qual scope s.heap.objs.size fa (.ref c)))->aMe (cxW P w K mg base N qual scope fa (.ref c) zFk s H Pt) Pt->Only H->SqL K H a (ns.map V.int)->
   ∃t,PSs (cxW P w K mg base N qual scope fa (.ref c) zFk s H Pt) body t/\t {nx:=λ _ _=>False,rt:=λ v _=>v= .bl true} (start N [.ref a]) H
end L2
namespace VL
open PySem PySem.Spec PyProof.Rows L2
section
variable{O:zCZ}{kz:Nat->O.α}{n:Nat}
def Wr{α:Type}(kz:Nat->O.α)(n:Nat):zGb α->(α->Prop)->Prop
 | .ret a,Q=>Q a
 | .ask i j k,Q=>i<n/\j<n/\Wr kz n (k (O.blt (kz i) (kz j))) Q
theorem Wr.bindI:∀{t:zGb α},Wr kz n t (λ a=>Wr kz n (g a) Q)->Wr kz n (t.bind g) Q
 | .ret _,h=>h
 | .ask _ _ _,⟨h1,h2,h3⟩=>⟨h1,h2,Wr.bindI h3⟩
abbrev Pm(n:Nat)(p:Array Nat):Prop:=p.Perm (zAr n).toArray
def Pm.sz(h:Pm n p):p.size=n:=by
 have:=h.size_eq
 simpa using this
def Pm.in(h:Pm n p)(hi:i<n):p.getD i 0<n:=by
 have hs:i<p.size:=by rw[h.sz];exact hi
 have e:p.getD i 0=p[i]:=by simp[zC0,hs]
 rw[e];have hm:p[i]∈(zAr n).toArray:=h.mem_iff.mp (Array.getElem_mem hs);simpa using hm
def Kp(kz:Nat->O.α)(p:Array Nat)(i:Nat):O.α:=kz (p.getD i 0)
def aAp(h:p[i]? =q[j]?):Kp kz p i=Kp kz q j:=by
 unfold Kp;congr 1;rw[zBb,zBb,h]
def aFf(hs:c<p.size)(hd:d<=c)(k:Nat):
  Kp kz (bubble p c d) k=if k=c-d then Kp kz p c else if c-d<k/\k<=c then Kp kz p (k-1)else Kp kz p k:=by
 have e:=getElem?_bubble hs d hd k;by_cases u1:k=c-d
 .rw[if_pos u1]at e ⊢
  exact aAp e
 .rw[if_neg u1]at e ⊢
  by_cases u2:c-d<k/\k<=c
  .rw[if_pos u2]at e ⊢
   exact aAp e
  .rw[if_neg u2]at e ⊢
   exact aAp e
def aCI(hj:j<=p.size)(k:Nat):Kp kz (zEd p i j) k=if i<=k/\k<j then Kp kz p (i+j-1-k)else Kp kz p k:=by
 unfold zEd;have e:=zIu (i:=i) hj k;by_cases u1:i<=k/\k<j
 .rw[if_pos u1]at e ⊢
  exact aAp e
 .rw[if_neg u1]at e ⊢
  exact aAp e
def mU(hj:j<=p.size)(he:∀k,i<=k->k<j->Kp kz p k=Kp kz p (j-1))(k:Nat):Kp kz (zEd p i j) k=Kp kz p k:=by
 rw[aCI hj];split
 .rw[he _ (by lia) (by lia),he k (by lia) (by lia)]
 .rfl
def Up(kz:Nat->O.α)(p:Array Nat)(k:Nat):Prop:=∀i j,i<=j->j<k->O.kle (Kp kz p i) (Kp kz p j)
def Dn(kz:Nat->O.α)(p:Array Nat)(k:Nat):Prop:=∀i j,i<=j->j<k->O.kle (Kp kz p j) (Kp kz p i)
def u9(h:Pm n p)(i j:Nat):Pm n (zEd p i j):=(mirror_perm _ _ _ _).trans h
def Up.succ(h:Up kz p m)(hm:1<=m)(hl:O.kle (Kp kz p (m-1)) (Kp kz p m)):Up kz p (m+1):=by
 intro i j hij hj;by_cases q:j<m
 .exact h i j hij q
 .have q':j=m:=by lia
  subst q';by_cases q2:i=j
  .rw[q2];exact zBl _
  .exact zAm (h i (j-1) (by lia) (by lia)) hl
def Dn.succ(h:Dn kz p m)(hm:1<=m)(hl:O.kle (Kp kz p m) (Kp kz p (m-1))):Dn kz p (m+1):=by
 intro i j hij hj;by_cases q:j<m
 .exact h i j hij q
 .have q':j=m:=by lia
  subst q';by_cases q2:i=j
  .rw[q2];exact zBl _
  .exact zAm hl (h i (j-1) (by lia) (by lia))
theorem aBV(hp:Pm n p)(hr:r<=n):∀(f m:Nat),1<=m->m+f=r->Up kz p m->
  (∀m',1<=m'->m'<=r->Up kz p m'->(m'=r\/O.klt (Kp kz p m') (Kp kz p (m'-1)))->Q m')->Wr kz n (PySem.W.kas_asc p f m) Q
 |0,m,h1,hm,hu,k=>k m h1 (by lia) hu (.inl (by lia))
 |f+1,m,h1,hm,hu,k=>by
  refine⟨hp.in (by lia),hp.in (by lia),?_⟩;have hd:O.blt (kz (p.getD m 0)) (kz (p.getD (m-1) 0))=O.blt (Kp kz p m) (Kp kz p (m-1)):=rfl;rw[hd];cases hb:O.blt (Kp kz p m) (Kp kz p (m-1))with
  |true=>exact k m h1 (by lia) hu (.inr hb)
  |false=>exact aBV hp hr f (m+1) (by lia) (by lia) (hu.succ h1 hb) k
theorem tL(hr:r<=n):∀(f:Nat) (p:Array Nat) (m e:Nat),Pm n p->1<=m->m+f=r->Dn kz p m->e+1<=m->(∀i,m-(e+1)<=i->i<m->Kp kz p i=Kp kz p (m-1))->
  (∀p' m' e',Pm n p'->1<=m'->m'<=r->Dn kz p' m'->e'+1<=m'->(∀i,m'-(e'+1)<=i->i<m'->Kp kz p' i=Kp kz p' (m'-1))->Q (p',m',e'))->Wr kz n (PySem.W.kas_desc f p m e) Q
 |0,p,m,e,hp,h1,hm,hd,he,hq,k=>k p m e hp h1 (by lia) hd he hq
 |f+1,p,m,e,hp,h1,hm,hd,he,hq,k=>by
  have hsz:m<=p.size:=by rw[hp.sz];lia
  refine⟨hp.in (by lia),hp.in (by lia),?_⟩;have hx:O.blt (kz (p.getD m 0)) (kz (p.getD (m-1) 0))=O.blt (Kp kz p m) (Kp kz p (m-1)):=rfl;rw[hx];cases hb:O.blt (Kp kz p m) (Kp kz p (m-1))with
  |true=>
   have hd':Dn kz p (m+1):=hd.succ h1 (zAe hb);dsimp only;rw[if_pos rfl];by_cases hz:e>0
   .rw[if_pos hz]
    refine tL hr f _ (m+1) 0 (u9 hp _ _) (by lia) (by lia) (λ i j hij hj=>?_) (by lia) (λ i u v=>by congr 1;lia) k;rw[mU hsz hq,mU hsz hq];exact hd' i j hij hj
   .rw[if_neg hz]
    exact tL hr f p (m+1) 0 hp (by lia) (by lia) hd' (by lia) (λ i u v=>by congr 1;lia) k
  |false=>
   dsimp only;rw[if_neg (by simp)];refine⟨hp.in (by lia),hp.in (by lia),?_⟩;have hy:O.blt (kz (p.getD (m-1) 0)) (kz (p.getD m 0))=O.blt (Kp kz p (m-1)) (Kp kz p m):=rfl;rw[hy];cases hc:O.blt (Kp kz p (m-1)) (Kp kz p m)with
   |true=>exact k p m e hp h1 (by lia) hd he hq
   |false=>
    dsimp only;rw[if_neg (by simp)];have hee:Kp kz p m=Kp kz p (m-1):=zDx hc hb;refine tL hr f p (m+1) (e+1) hp (by lia) (by lia) (hd.succ h1 hc) (by lia) (λ i u v=>?_) k;rw[show m+1-1=m by lia];by_cases hi:i=m
    .rw[hi]
    .rw[hee]
     exact hq i (by lia) (by lia)
def aC3(hr:r<=n)(hp:Pm n p)(h1:1<=m)(hm:m<=r)(hd:Dn kz p m)(k:∀m' p',Pm n p'->1<=m'->m'<=r->Up kz p' m'->Q (m',p')):Wr kz n (PySem.W.kas_tail3 m r p) Q:=by
 have hsz:m<=p.size:=by rw[hp.sz];lia
 refine Wr.bindI (aBV (u9 hp 0 m) hr (r-m) m h1 (by lia) (λ i j hij hj=>?_) λ m' a1 a2 a3 _=>k m' _ (u9 hp 0 m) a1 a2 a3);rw[aCI hsz,aCI hsz,if_pos (by lia),if_pos (by lia)];exact hd _ _ (by lia) (by lia)
def rB(hr:r<=n)(hp:Pm n p)(hm:m+1<=r)(hd:Dn kz p (m+1))(k:∀m' p',Pm n p'->1<=m'->m'<=r->Up kz p' m'->Q (m',p')):Wr kz n (PySem.W.kas_descPart m r p) Q:=by
 refine Wr.bindI (tL hr (r-(m+1)) p (m+1) 0 hp (by lia) (by lia) hd (by lia) (λ i u v=>by congr 1;lia) λ p' m' e' a1 a2 a3 a4 a5 a6=>?_);have hsz:m'<=p'.size:=by rw[a1.sz];lia
 dsimp only;by_cases hz:e'>0
 .rw[if_pos hz]
  refine aC3 hr (u9 a1 _ _) a2 a3 (λ i j hij hj=>?_) k;rw[mU hsz a6,mU hsz a6];exact a4 i j hij hj
 .rw[if_neg hz]
  exact aC3 hr a1 a2 a3 a4 k
def aEP(hr:r<=n)(hp:Pm n p)(h1:1<=r)(k:∀m' p',Pm n p'->1<=m'->m'<=r->Up kz p' m'->Q (m',p')):Wr kz n (PySem.W.kas_count r p) Q:=by
 refine Wr.bindI (aBV hp hr (r-1) 1 (zAW 1) (by lia) (λ i j hij hj=>by rw[show i=j by lia];exact zBl _) λ m a1 a2 a3 a4=>?_);by_cases hm:m=r
 .rw[if_pos (by simpa using hm)]
  exact k m p hp a1 a2 a3
 .rw[if_neg (by simpa using hm)]
  have hl:O.klt (Kp kz p m) (Kp kz p (m-1)):=a4.resolve_left hm;by_cases hg:m>1
  .rw[if_pos hg]
   refine⟨hp.in (by lia),hp.in (by lia),?_⟩;have hx:O.blt (kz (p.getD 0 0)) (kz (p.getD (m-1) 0))=O.blt (Kp kz p 0) (Kp kz p (m-1)):=rfl;rw[hx];cases hb:O.blt (Kp kz p 0) (Kp kz p (m-1))with
   |true=>exact k m p hp a1 a2 a3
   |false=>
    dsimp only;rw[if_neg (by simp)];have hsz:m<=p.size:=by rw[hp.sz];lia
    have qV:∀i,0<=i->i<m->Kp kz p i=Kp kz p (m-1):=λ i _ hi=>zDx (a3 i (m-1) (by lia) (by lia)) (zAm hb (a3 0 i (by lia) hi))
    refine rB hr (u9 hp 0 m) (by lia) (λ i j hij hj=>?_) k;rw[mU hsz qV,mU hsz qV];by_cases hjm:j<m
    .rw[qV i (by lia) (by lia),qV j (by lia) hjm];exact zBl _
    .have hj':j=m:=by lia
     subst hj';by_cases hi:i=j
     .rw[hi];exact zBl _
     .rw[qV i (by lia) (by lia)];exact zAe hl
  .rw[if_neg hg]
   have hm1:m=1:=by lia
   subst hm1;refine rB hr hp (by lia) (λ i j hij hj=>?_) k;by_cases hi:i=j
   .rw[hi];exact zBl _
   .have e1:i=0:=by lia
    have e2:j=1:=by lia
    subst e1 e2;exact zAe hl
theorem uC(hp:Pm n p)(hc:c<n)(hu:Up kz p c):∀(f l r:Nat),l<=r->r<=c->r-l<=f->(∀i,i<l->O.kle (Kp kz p i) (Kp kz p c))->(∀i,r<=i->i<c->O.klt (Kp kz p c) (Kp kz p i))->
  (∀l',l'<=c->(∀i,i<l'->O.kle (Kp kz p i) (Kp kz p c))->(∀i,l'<=i->i<c->O.klt (Kp kz p c) (Kp kz p i))->Q l')->Wr kz n (zHO p c f l r) Q
 |0,l,r,a1,a2,a3,a4,a5,k=>by
  have e:l=r:=by lia
  subst e;exact k l a2 a4 a5
 |f+1,l,r,a1,a2,a3,a4,a5,k=>by
  unfold zHO;by_cases hg:l ≥ r
  .rw[if_pos hg]
   have e:l=r:=by lia
   subst e;exact k l a2 a4 a5
  .rw[if_neg hg]
   refine⟨hp.in hc,hp.in (by lia),?_⟩;have hx:O.blt (kz (p.getD c 0)) (kz (p.getD ((l+r) / 2) 0))=O.blt (Kp kz p c) (Kp kz p ((l+r) / 2)):=rfl;rw[hx];cases hb:O.blt (Kp kz p c) (Kp kz p ((l+r) / 2))with
   |true=>exact uC hp hc hu f l ((l+r) / 2) (by lia) (by lia) (by lia) a4 (λ i u v=>zGM hb (hu _ _ u v)) k
   |false=>exact uC hp hc hu f ((l+r) / 2+1) r (by lia) a2 (by lia) (λ i u=>zAm (hu i ((l+r) / 2) (by lia) (by lia)) hb) a5 k
theorem aEQ:∀(f:Nat) (p:Array Nat) (c:Nat),Pm n p->c+f=n->Up kz p c->(∀p',Pm n p'->Up kz p' n->Q p')->Wr kz n (PySem.W.kas_bin f p c) Q
 |0,p,c,hp,hc,hu,k=>k p hp (by rw[show n=c by lia];exact hu)
 |f+1,p,c,hp,hc,hu,k=>by
  refine Wr.bindI (uC hp (by lia) hu c 0 c (by lia) (zAW c) (by lia) (λ i u=>by lia) (λ i u v=>by lia) λ l a1 a2 a3=>?_);refine aEQ f _ (c+1) ((bubble_perm _ _ _).trans hp) (by lia) (λ i j hij hj=>?_) k;have hs:c<p.size:=by rw[hp.sz];lia
  rw[aFf hs (by lia),aFf hs (by lia),show c-(c-l)=l by lia]
  repeat' split
  all_goals first
   |(exfalso;lia)
   |exact O.irrefl _
   |exact a2 _ (by lia)
   |exact KeyOrd.klt_asymm (a3 _ (by lia) (by lia))
   |exact hu _ _ (by lia) (by lia)
def aGw(h1:1<=n)(k:∀p,Pm n p->Up kz p n->Q p):Wr kz n (PySem.W.kas_sort n) Q:=by
 refine Wr.bindI (aEP (zAW n) (zGw _) h1 λ m p a1 a2 a3 a4=>?_);dsimp only;by_cases hm:m<n
 .rw[if_pos hm]
  exact aEQ _ p _ a1 (by lia) (by rw[show max m 1=m by lia];exact a4) k
 .rw[if_neg hm]
  exact k p a1 (by rw[show n=m by lia];exact a4)
theorem zj{I:zAF->Prop}(hc:∀i j (C:Bool->zAF->Prop) s,I s->i<n->j<n->(∀s',I s'->C (O.blt (kz i) (kz j)) s')->cmp i j C s):
  ∀(t:zGb α) (s:zAF),I s->Wr kz n t (λ a=>∀s',I s'->Q a s')->t.kasWp cmp Q s
 | .ret a,s,hI,h=>h s hI
 | .ask i j k,s,hI,⟨h1,h2,h3⟩=>hc i j _ s hI h1 h2 λ s' hI'=>zj hc _ s' hI' h3
end
theorem zE:∀a:List Int,HT.lexLt a a=false
 |[]=>rfl
 |x::a=>by rw[HT.iV,if_pos rfl];exact zE a
theorem pR:∀a b c:List Int,HT.lexLt a b=true->HT.lexLt b c=true->HT.lexLt a c=true
 |[],[],c,h,_=>by cases h
 |[],_::_,[],_,h=>by cases h
 |[],_::_,_::_,_,_=>rfl
 |_::_,[],_,h,_=>by cases h
 |_::_,_::_,[],_,h=>by cases h
 |x::a,y::b,z::c,h1,h2=>by
  rw[HT.iV]at h1 h2 ⊢;by_cases e1:x=y
  .subst e1
   rw[if_pos rfl]at h1;by_cases e2:x=z
   .rw[if_pos e2]at h2 ⊢
    exact pR a b c h1 h2
   .rw[if_neg e2]at h2 ⊢
    exact h2
  .rw[if_neg e1]at h1
   simp only[decide_eq_true_eq]at h1;by_cases e2:y=z
   .subst e2
    rw[if_neg e1];simpa using h1
   .rw[if_neg e2]at h2
    simp only[decide_eq_true_eq]at h2;rw[if_neg (by lia)];simp only[decide_eq_true_eq];lia
theorem ux:∀a b:List Int,HT.lexLt a b=false->HT.lexLt b a=false->a=b
 |[],[],_,_=>rfl
 |[],_::_,h,_=>by cases h
 |_::_,[],_,h=>by cases h
 |x::a,y::b,h1,h2=>by
  rw[HT.iV]at h1 h2;by_cases e:x=y
  .subst e
   rw[if_pos rfl]at h1 h2;rw[ux a b h1 h2]
  .rw[if_neg e]at h1
   rw[if_neg λ q=>e q.symm]at h2;simp only[decide_eq_false_iff_not]at h1 h2;lia
def aF8(a b c:List Int)(h:HT.lexLt a c=true):HT.lexLt a b=true\/HT.lexLt b c=true:=by
 cases e1:HT.lexLt a b with
 |true=>exact .inl rfl
 |false=>
  right;cases e2:HT.lexLt b a with
  |true=>exact pR b a c e2 h
  |false=>rw[<-ux a b e1 e2];exact h
def wA:zCZ:=⟨List Int,HT.lexLt,zE,pR,aF8,ux⟩
inductive bD(h:Heap):List Value->List (List Int)->Prop where
 |nil:bD h [] []
 |cons {x:Addr} {o:Obj} {xs:Array Value} {k:Nat} {ns:List Int} {vs:List Value} {nss:hZ} (ho:h.get? x=some o) (hc:o.cls= .type "tuple") (hd:o.data= .seq xs k) (hi:zB2 xs.toList ns) (hne:ns≠[]) (r:bD h vs nss):bD h (.ref x::vs) (ns::nss)
theorem bD.mono(k:∀x o,h.get? x=some o->o.cls= .type "tuple"->h'.get? x=some o):∀{vs:List Value} {nss:hZ},bD h vs nss->bD h' vs nss
 |_,_,.nil=>.nil
 |_,_,.cons ho hc hd hi hne r=>.cons (k _ _ ho hc) hc hd hi hne (bD.mono k r)
theorem bD.len:∀{vs:List Value} {nss:hZ},bD h vs nss->vs.length=nss.length
 |_,_,.nil=>rfl
 |_,_,.cons _ _ _ _ _ r=>by rw[zA6,zA6,r.len]
theorem bD.at:∀{vs:List Value} {nss:hZ} {i:Nat},bD h vs nss->i<vs.length->∃x o xs k,vs.getD i zCC= .ref x/\h.get? x=some o/\o.cls= .type "tuple"/\o.data= .seq xs k/\zB2 xs.toList (nss.getD i [])/\nss.getD i []≠[]
 |_,_,_,.nil,hi=>by simp at hi
 |_,_,0,.cons ho hc hd hi hne _,_=>⟨_,_,_,_,rfl,ho,hc,hd,hi,hne⟩
 |_,_,i+1,.cons _ _ _ _ _ r,hi=>by
  obtain⟨x,o,xs,k,q⟩:=bD.at (i:=i) r (by simpa using hi);exact⟨x,o,xs,k,by simpa using q⟩
theorem bD.firsts:∀{vs:List Value} {nss:hZ},bD h vs nss->∃fs,PySem.W.KatTups h vs fs/\fs.length=vs.length/\∀f∈fs,∃n t,f=zED n t
 |_,_,.nil=>⟨[],.nil,rfl,λ f hf=>by simp at hf⟩
 |_,_,.cons (xs:=xs) ho hc hd hi hne r=>by
  obtain⟨fs,h1,h2,h3⟩:=bD.firsts r;obtain⟨l,rfl⟩:∃l:List Value,xs=l.toArray:=⟨xs.toList,by simp⟩
  rw[show l.toArray.toList=l by simp]at hi;cases hi with
  |nil=>exact absurd rfl hne
  |cons n t q=>
   rename_i l' ns';refine⟨.int n t::fs,.cons ho hc hd (by simp) h1,by simp[h2],λ f hf=>?_⟩;rcases zAM.mp hf with rfl|hf
   .exact⟨n,t,rfl⟩
   .exact h3 f hf
section
variable{prog:zA7}{w:World}{A:zAt}{E:Value->zAF->Prop}{s:zAF}
def aAq:∀{xs ys:List Value} {ns ms:List Int} (i:Nat),zB2 xs ns->zB2 ys ms->fin=decide (xs.length<ys.length)->Q (HT.lexLt ns ms) s->PySem.W.KatLex prog w A b fin Q (xs.zip ys) i s:=by
 intro xs ys ns ms i hx;induction hx generalizing ys ms i with
 |nil=>intro hy hf q;cases hy<;>(subst hf;exact q)
 |@cons x t xs ns r ih=>
  intro hy hf q;cases hy with
  |nil=>subst hf;exact q
  |@cons y u ys ms r'=>?_
  rw[zBZ];refine PySem.W.kat_cons (wpAny_eqBool_int ?_);rw[HT.iV]at q;by_cases e:x=y
  .rw[if_pos e]at q
   rw[show(x==y)=true by simpa using e];exact PySem.W.kat_yes (ih (i+1) r' (by rw[hf];simp) q)
  .rw[if_neg e]at q
   rw[show(x==y)=false by simpa using e];refine PySem.W.kat_no ?_;cases hb:(b&&i==0)with
   |true=>exact oneLt_int q
   |false=>exact PySem.W.kat_one _ _ (zGH q)
def vI(hx:s.heap.get? x=some ox)(dx:ox.data= .seq xs n)(hy:s.heap.get? y=some oy)(dy:oy.data= .seq ys k)(hi:zB2 xs.toList ns)(hj:zB2 ys.toList ms)
  (q:Q (HT.lexLt ns ms) s):wpAny (model prog w) A (keyLt' (tuples' b) (.ref x) (.ref y)) Q E s:=
 PySem.W.kat_lt hx dx hy dy (aAq 0 hi hj (by simp) q)
def mq(vs:List Value)(p:Array Nat):Array Value:=(p.toList.map λ i=>vs.getD i zCC).toArray
def aGu(h:vs.length<2):(vs.toArray.zip vs.toArray).map (·.2)=mq vs (zAr vs.length).toArray:=by
 cases vs with
 |nil=>simp[mq]
 |cons v t=>
  cases t with
  |nil=>simp[mq]
  |cons u t=>exact absurd h (zGj.mpr (Nat.le_add_left 2 t.length))
def aCB(ho:s.heap.get? a=some (zBg "list" vs.toArray c))(ht:bD s.heap vs nss)(h64:vs.length<64)
  (h:∀p:Array Nat,Pm vs.length p->Up (O:=wA) (λ i=>nss.getD i []) p vs.length->P (.done (.ret .none)) {s with heap:=zEj s.heap a vs (mq vs p)}):
  wpAny (model prog w) A (zE9.«list.sort» ⟨[.ref a],[]⟩) P E s:=by
 have hlt:a<s.heap.objs.size:=zA1 ho;have hz:vs.length<=zA0:=by rw[zCP];lia
 obtain⟨e1,ho1⟩:∃e1,(s.heap.update a (zBn λ _=>(#[]:Array Value))).get? a=some (zBg "list" #[] e1):=⟨_,zD9 ho λ _=>#[]⟩
 have keep:∀x o,s.heap.get? x=some o->o.cls= .type "tuple"->(((s.heap.update a (zBn λ _=>(#[]:Array Value))).push (zBg "tuple" vs.toArray 0)).push (zBg "list" #[] 0)).get? x=some o:=λ x o e q=>by
  have hxa:x≠a:=λ z=>by
   subst z;rw[ho]at e;cases e;exact absurd q (show¬(zBy "list"=zBy "tuple")by decide)
  refine zAD _ (zAD _ ?_);rw[zCU _ _ _ _ hxa];exact e
 have ho6:(((s.heap.update a (zBn λ _=>(#[]:Array Value))).push (zBg "tuple" vs.toArray 0)).push (zBg "list" #[] 0)).get? a=some (zBg "list" #[] e1):=zAD _ (zAD _ ho1);have ht6:=ht.mono keep;rw[list_sort_plain];refine zAB (listItems_at ho rfl (zAB (zFC ho rfl ?_ (by rw[zAK];exact hz) (zAo _))));refine zAB (zFD ho1 rfl (zAB (wpAny_newTuple ?_ (by show vs.length<=_;exact hz))));refine zAB (zGD (zCK ?_) (zAo _));show wpAny (model prog w) A _ P E {s with heap:=((s.heap.update a (zBn λ _=>(#[]:Array Value))).push (zBg "tuple" vs.toArray 0)).push (zBg "list" #[] 0)};dsimp only;have hsz:∀p:Array Nat,Pm vs.length p->(mq vs p).size=vs.length:=λ p a1=>by unfold mq;rw[zAK,zAE,zAL,a1.sz]
 by_cases h2:vs.toArray.size<2
 .rw[if_pos h2,if_pos h2]
  refine zAB (zAJ ?_);rw[zIK];refine zAB (zAJ ?_);have h2':vs.length<2:=by simpa using h2
  have a1:Pm vs.length (zAr vs.length).toArray:=zGw _;have a3:=aGu h2';dsimp only;refine zAB (zFD ho6 rfl ?_);show wpAny (model prog w) A (zEE (.ref a) (λ _=>(vs.toArray.zip vs.toArray).map (·.2))>>=_) P E _;rw[a3];refine zAB (zFC ho6 rfl ?_ (zAo _) (by show(mq vs _).size<=_;rw[hsz _ a1];lia));simp only[bne_self_eq_false,zAZ,if_false];exact zAJ (h _ a1 λ i j hij hj=>by rw[show i=j by lia];exact zE _)
 .rw[if_neg h2,if_neg h2]
  have h2':2<=vs.length:=zIj (show¬vs.length<2 by simpa using h2);obtain⟨fs,f1,f2,f3⟩:=ht6.firsts;refine zAB (zH6 (T:=.type "int") f1 (by lia) (λ v hv=>?_) (by decide) ?_)
  .obtain⟨n,t,rfl⟩:=f3 v hv
   exact zGR
  rw[show(zBy "int" !=zBy "tuple")=true by decide];refine zAB (zB8 (PySem.W.kat_run (κ:=tuples' true) (ks:=vs) (vs:=vs) (Q:=λ st s'=>s'={s with heap:=((s.heap.update a (zBn λ _=>(#[]:Array Value))).push (zBg "tuple" vs.toArray 0)).push (zBg "list" #[] 0)}/\∃p:Array Nat,Pm vs.length p/\Up (O:=wA) (λ i=>nss.getD i []) p vs.length/\(arrOf st).map (·.2)=mq vs p/\zC5 st=none)
   (G:=λ p s'=>s'={s with heap:=((s.heap.update a (zBn λ _=>(#[]:Array Value))).push (zBg "tuple" vs.toArray 0)).push (zBg "list" #[] 0)}/\Pm vs.length p/\Up (O:=wA) (λ i=>nss.getD i []) p vs.length)
   rfl h2' h64 (λ p st s' _ b2 b3 b4=>⟨b4.1,p,b4.2.1,b4.2.2,PySem.W.kat_snds rfl b2,b3⟩) ?_) (λ r s' hr=>?_) λ _ _ e=>e)
  .refine zj (O:=wA) (kz:=λ i=>nss.getD i []) (n:=vs.length) (I:=λ s'=>s'={s with heap:=((s.heap.update a (zBn λ _=>(#[]:Array Value))).push (zBg "tuple" vs.toArray 0)).push (zBg "list" #[] 0)}) (λ i j C s' hI hi hj hC=>?_) _ _ rfl (aGw (by lia) λ p a1 a2 s' hs'=>⟨hs',a1,a2⟩)
   subst hI;unfold PySem.W.kas_ask;obtain⟨x,ox,xs,kx,x1,x2,_,x4,x5,_⟩:=ht6.at hi;obtain⟨y,oy,ys,ky,y1,y2,_,y4,y5,_⟩:=ht6.at hj;rw[x1,y1];exact vI x2 x4 y2 y4 x5 y5 (hC _ rfl)
  .obtain⟨⟨⟩,st⟩:=r
   obtain⟨e,p,b1,b2,b3,b4⟩:=hr;subst e;refine zAB (zFD ho6 rfl ?_);rw[b3,b4];refine zAB (zFC ho6 rfl ?_ (zAo _) (by show(mq vs p).size<=_;rw[hsz p b1];lia));simp only[bne_self_eq_false,zAZ,if_false];exact zAJ (h p b1 b2)
end
theorem sub_len[BEq α][LawfulBEq α]:∀{l l':List α},l.Nodup->(∀x∈l,x∈l')->l.length<=l'.length
 |[],_,_,_=>zAo _
 |x::l,l',nd,h=>by
  have hx:x∈l':=h x zAT;have ih:=sub_len (l:=l) (l':=l'.erase x) (zBH.mp nd).2 λ y hy=>(zHK λ e=>by subst e;exact(zBH.mp nd).1 hy).mpr (h y (zAO _ hy))
  rw[List.length_erase_of_mem hx]at ih
  have:0<l'.length:=List.length_pos_of_mem hx
  rw[zA6];lia
def Ris(xs:Array Nat):Prop:=∀i j,i<j->j<xs.size->xs.getD i 0<xs.getD j 0
theorem z7(hr:Ris xs):∀(f lo hi:Nat),lo<=hi->hi<=xs.size->hi-lo<=f->(∀i,i<lo->xs.getD i 0<j)->(∀i,hi<=i->i<xs.size->j<=xs.getD i 0)->
  zDo xs j f lo hi<=xs.size/\(∀i,i<zDo xs j f lo hi->xs.getD i 0<j)/\∀i,zDo xs j f lo hi<=i->i<xs.size->j<=xs.getD i 0
 |0,lo,hi,h1,h2,h3,h4,h5=>by
  have e:lo=hi:=by lia
  subst e;exact⟨h2,h4,h5⟩
 |f+1,lo,hi,h1,h2,h3,h4,h5=>by
  unfold zDo;by_cases hl:lo<hi
  .rw[if_pos hl]
   dsimp only;have hm:(lo+hi) / 2<xs.size:=by lia
   have e:xs.getD ((lo+hi) / 2) j=xs.getD ((lo+hi) / 2) 0:=by simp[zC0,hm]
   rw[e];by_cases hc:xs.getD ((lo+hi) / 2) 0<j
   .rw[if_pos hc]
    refine z7 hr f _ hi (by lia) h2 (by lia) (λ i hi'=>?_) h5;by_cases q:i=(lo+hi) / 2
    .rw[q];exact hc
    .exact zEx (hr i ((lo+hi) / 2) (by lia) hm) hc
   .rw[if_neg hc]
    refine z7 hr f lo _ (by lia) (by lia) (by lia) h4 λ i q1 q2=>?_
    by_cases q:i=(lo+hi) / 2
    .rw[q];lia
    .have:=hr ((lo+hi) / 2) i (by lia) q2
     lia
  .rw[if_neg hl]
   have e:lo=hi:=by lia
   subst e;exact⟨h2,h4,h5⟩
def qG(hr:Ris xs)(j:Nat):zAu xs j<=xs.size/\(∀i,i<zAu xs j->xs.getD i 0<j)/\∀i,zAu xs j<=i->i<xs.size->j<=xs.getD i 0:=
 z7 hr xs.size 0 xs.size (zAo _) (zAW _) (by lia) (λ i h=>by lia) λ i h1 h2=>by lia
structure cT(t:zC4)(n:Nat):Prop where
 dum:t.dummies=#[]
 siz:t.place.size=n
 ris:Ris t.place
 top:∀i,i<n->t.place.getD i 0<=t.mask
 msk:t.mask=7/\n<5\/t.mask=31/\n<19\/t.mask=127/\n<77
 pla:t.plain=true
def cT.fresh(led:Bool):cT (zHn 0 0 led) 0:=⟨rfl,rfl,λ i j _ h=>by simp[zHn]at h,λ i h=>by lia,.inl ⟨rfl,by lia⟩,rfl⟩
def cT.few(h:cT t n):n<t.mask:=by
 rcases h.msk with ⟨e,l⟩|⟨e,l⟩|⟨e,l⟩<;>lia
theorem cT.fill(h:cT t n):t.fill=n:=by unfold zIG;rw[h.dum,h.siz];rfl
theorem cT.fits(h:cT t n):t.fits n=true:=by
 unfold zIH;rw[h.fill,h.siz]
 have:=h.few
 simp;lia
def pH(h:cT t n)(j:Nat):t.slot j= .empty\/∃i,i<n/\t.slot j= .live i/\t.place.getD i 0=j:=by
 unfold zIJ;dsimp only;by_cases e:(t.place[zAu t.place j]? ==some j)=true
 .rw[if_pos e]
  have e':=beq_iff_eq.mp e;obtain⟨h1,h2⟩:=zCA.mp e';exact .inr ⟨_,by rw[<-h.siz];exact h1,rfl,by simp[zC0,h1,h2]⟩
 .rw[if_neg e]
  have:zE5 t.dummies j=false:=by rw[h.dum];unfold zE5;simp
  rw[this];exact .inl (by simp)
def aAC(h:cT t n)(e:t.slot j= .empty):∀i,i<n->t.place.getD i 0≠j:=by
 intro i hi q;obtain⟨b1,b2,b3⟩:=qG h.ris j;have hb:zAu t.place j=i:=by
  rcases zFh (zAu t.place j) i with z|z|z
  .have z1:=b3 _ (zAW _) (by rw[h.siz];lia)
   have z2:=h.ris _ i z (by rw[h.siz];exact hi);lia
  .exact z
  .have:=b2 i z
   lia
 have hi':i<t.place.size:=by rw[h.siz];exact hi
 have e2:t.place[i]? =some j:=by rw[zCA];exact⟨hi',by rw[<-q];simp[zC0,hi']⟩
 unfold zIJ at e;dsimp only at e;rw[hb,e2]at e;simp at e
def lC(mask:Nat):Nat->Nat×Nat->Nat×Nat
 |0,st=>st
 |k+1,st=>lC mask k (zAz mask st.1 st.2)
theorem aAh(mask:Nat):∀(k:Nat) (st:Nat×Nat),(lC mask k st).2=st.2 / 32^k
 |0,st=>by simp[lC]
 |k+1,st=>by
  show(lC mask k (zAz mask st.1 st.2)).2=_
  rw[aAh mask k];show st.2 / 32 / 32^k=_;rw[Nat.div_div_eq_div_mul,Nat.pow_succ,Nat.mul_comm]
theorem aAk(mask:Nat):∀(j k:Nat) (st:Nat×Nat),lC mask (j+k) st=lC mask k (lC mask j st)
 |0,k,st=>by rw[zDU];rfl
 |j+1,k,st=>by
  rw[show j+1+k=(j+k)+1 by lia];exact aAk mask j k _
def orb(M:Nat):Nat->Nat->Nat
 |0,i=>i
 |k+1,i=>orb M k ((i*5+1)%M)
theorem tR(M:Nat):∀(j k i:Nat),orb M (j+k) i=orb M k (orb M j i)
 |0,k,i=>by rw[zDU];rfl
 |j+1,k,i=>by
  rw[show j+1+k=(j+k)+1 by lia];exact tR M j k _
theorem aAi(mask:Nat):∀(k i:Nat),lC mask k (i,0)=(orb (mask+1) k i,0)
 |0,i=>rfl
 |k+1,i=>by
  show lC mask k (zAz mask i 0)=_
  have:zAz mask i 0=((i*5+1)%(mask+1),0):=by simp[zAz]
  rw[this];exact aAi mask k _
def aDe:∀M∈[8,32,128],(∀t∈zAr M,∃k∈zAr M,orb M k 0=t)/\orb M M 0=0:=by decide+kernel
def aHy(hm:mask=7\/mask=31\/mask=127)(hi:i<=mask)(ht:t<=mask):∃k,k<=mask/\orb (mask+1) k i=t:=by
 have hM:mask+1∈[8,32,128]:=by rcases hm with e|e|e<;>subst e<;>decide
 obtain⟨h1,h2⟩:=aDe _ hM;obtain⟨a,ha,ea⟩:=h1 i (by simp;lia);obtain⟨b,hb,eb⟩:=h1 t (by simp;lia);simp only[zCG]at ha hb;by_cases hab:a<=b
 .refine⟨b-a,by lia,?_⟩
  rw[<-ea,<-tR,show a+(b-a)=b by lia,eb]
 .refine⟨mask+1-a+b,by lia,?_⟩
  rw[<-ea,<-tR,show a+(mask+1-a+b)=(mask+1)+b by lia,tR,h2,eb]
def aIu(h:Int):zBC h<2^64:=by
 unfold zBC;have h1:=zEG h (show(2^64:Int)≠0 by decide);have h2:=zDZ h (show(0:Int)<2^64 by decide);lia
def aAj(hm:mask=7\/mask=31\/mask=127)(h:Int)(ht:t<=mask)(yT:Nat):∃k,k<mask+15/\(lC mask k (yT,zBC h)).1=t:=by
 have e1:(lC mask 13 (yT,zBC h)).2=0:=by
  rw[aAh]
  have:=aIu h
  exact Nat.div_eq_of_lt (zEx this (by decide))
 have e2:(lC mask 13 (yT,zBC h)).1<=mask:=by
  show(lC mask 12 (zAz mask yT (zBC h))).1<=mask
  have go:∀k (st:Nat×Nat),st.1<=mask->(lC mask k st).1<=mask:=by
   intro k;induction k with
   |zero=>intro st q;exact q
   |succ k ih=>
    intro st q;refine ih _ ?_
    show(st.1*5+1+st.2 / 32)%(mask+1)<=mask
    exact zCR (zDF _ (zDT _))
  refine go 12 _ ?_
  show(yT*5+1+zBC h / 32)%(mask+1)<=mask
  exact zCR (zDF _ (zDT _))
 obtain⟨k,hk,ek⟩:=aHy hm e2 ht;refine⟨13+k,by lia,?_⟩;rw[aAk];have e3:lC mask 13 (yT,zBC h)=((lC mask 13 (yT,zBC h)).1,0):=by rw[<-e1]
 rw[e3,aAi];exact ek
def qb(hi:i<=mask):i<=zAn mask i/\zAn mask i<=mask/\zAn mask i<=i+9:=by
 unfold zAn;split<;>lia
section
variable{t:zC4}{n:Nat}{hashAt:Nat->Int}{h:Int}
abbrev aCf(t:zC4)(i pert:Nat):zCM:={j:=i,more:=zAn t.mask i-i,i:=i,perturb:=pert,dummy:=none}
def vP(fuel:Nat)(p:zCM):zBv t hashAt h (fuel+1) p=(match t.slot p.j with
  | .empty=>some (.empty p.j p.dummy)
  | .dummy=>zBv t hashAt h fuel (t.advance {p with dummy:=some p.j})
  | .live i=>if hashAt i==h then some (.candidate p.j i (t.advance p))else zBv t hashAt h fuel (t.advance p)):=rfl
theorem aGC(T:cT t n)(hh:∀i,i<n->hashAt i≠h):∀(m fuel:Nat) (p:zCM),p.more=m->p.dummy=none->
  (∃j,p.j<=j/\j<=p.j+m/\t.slot j= .empty/\zBv t hashAt h (fuel+m+1) p=some (.empty j none))\/
  (t.slot p.j≠.empty/\zBv t hashAt h (fuel+m+1) p=zBv t hashAt h fuel (aCf t (zAz t.mask p.i p.perturb).1 (zAz t.mask p.i p.perturb).2))
 |0,fuel,p,hm,hd=>by
  rw[show fuel+0+1=fuel+1 from rfl,vP];rcases pH T p.j with e|⟨i,hi,e,_⟩
  .rw[e]
   exact .inl ⟨p.j,zAW _,zAW _,e,by rw[hd]⟩
  .rw[e]
   right;refine⟨by simp,?_⟩;dsimp only;rw[if_neg (by simpa using hh i hi)];congr 1;unfold zHQ;rw[if_neg (by lia)];simp[aCf,hd]
 |m+1,fuel,p,hm,hd=>by
  rw[vP];rcases pH T p.j with e|⟨i,hi,e,_⟩
  .rw[e]
   exact .inl ⟨p.j,zAW _,by lia,e,by rw[hd]⟩
  .rw[e]
   dsimp only;rw[if_neg (by simpa using hh i hi)];have ha:t.advance p={p with j:=p.j+1,more:=p.more-1}:=by
    unfold zHQ;rw[if_pos (by lia)]
   rw[ha];rcases aGC T hh m fuel {p with j:=p.j+1,more:=p.more-1} (by show p.more-1=m;lia) hd with ⟨j,q1,q2,q3,q4⟩|⟨q1,q2⟩
   .exact .inl ⟨j,by show p.j<=j;have:p.j+1<=j:=q1;lia,by have:j<=p.j+1+m:=q2;lia,q3,q4⟩
   .exact .inr ⟨by simp,q2⟩
theorem aDI(T:cT t n)(hh:∀i,i<n->hashAt i≠h):∀(N fuel i pert:Nat),i<=t.mask->10*N<=fuel->
  (∃j,j<=t.mask/\t.slot j= .empty/\zBv t hashAt h fuel (aCf t i pert)=some (.empty j none))\/∀k,k<N->t.slot (lC t.mask k (i,pert)).1≠.empty
 |0,fuel,i,pert,hi,hf=>.inr λ k hk=>by lia
 |N+1,fuel,i,pert,hi,hf=>by
  obtain⟨r1,r2,r3⟩:=qb hi;obtain⟨f',rfl⟩:∃f',fuel=f'+(zAn t.mask i-i)+1:=⟨fuel-(zAn t.mask i-i)-1,by lia⟩
  rcases aGC T hh (zAn t.mask i-i) f' (aCf t i pert) rfl rfl with ⟨j,q1,q2,q3,q4⟩|⟨q1,q2⟩
  .exact .inl ⟨j,by have:j<=i+(zAn t.mask i-i):=q2;lia,q3,q4⟩
  .have hl:(zAz t.mask i pert).1<=t.mask:=zCR (zDF _ (zDT _))
   rcases aDI T hh N f' _ (zAz t.mask i pert).2 hl (by lia)with ⟨j,s1,s2,s3⟩|s
   .exact .inl ⟨j,s1,s2,q2.trans s3⟩
   .right
    intro k hk;cases k with
    |zero=>exact q1
    |succ k=>exact s k (by lia)
def cT.mask3(T:cT t n):t.mask=7\/t.mask=31\/t.mask=127:=by
 rcases T.msk with ⟨e,_⟩|⟨e,_⟩|⟨e,_⟩
 .exact .inl e
 .exact .inr (.inl e)
 .exact .inr (.inr e)
def aBn(T:cT t n)(hh:∀i,i<n->hashAt i≠h):∃j,j<=t.mask/\t.slot j= .empty/\t.probe hashAt h (t.probeStart h)=some (.empty j none):=by
 have hs:zBC h%(t.mask+1)<=t.mask:=zCR (zDF _ (zDT _));rcases aDI T hh (t.mask+15) (10*zBU t.mask) _ (zBC h) hs (by unfold zBU;lia)with z|z
 .exact z
 .exfalso
  have qV:∀x∈zAr (t.mask+1),x∈t.place.toList:=by
   intro x hx;simp only[zCG]at hx;obtain⟨k,hk,ek⟩:=aAj T.mask3 h (t:=x) (by lia) (zBC h%(t.mask+1))
   have:=z k hk
   rw[ek]at this;rcases pH T x with e|⟨i,hi,_,e⟩
   .exact absurd e this
   .rw[<-e]
    have hi':i<t.place.size:=by rw[T.siz];exact hi
    rw[show t.place.getD i 0=t.place[i]by simp[zC0,hi']];exact zGZ hi'
  have:=sub_len zIZ qV
  have h2:=T.few;rw[zE0,zAL,T.siz]at this;lia
end
def tV(xs:Array α)(p:Nat)(x d:α)(hp:p<=xs.size)(i:Nat):(zB5 xs p x).getD i d=if i<p then xs.getD i d else if i=p then x else xs.getD (i-1) d:=by
 have e:∀(ys:Array α) i,ys.getD i d=(ys.toList[i]?).getD d:=λ ys i=>by rw[zBb,zAR]
 rw[e,e,e,zEN];have hl:p<=xs.toList.length:=by simpa using hp
 by_cases h1:i<p
 .rw[if_pos h1,zAg (by rw[zA3];lia),zHg,if_pos h1]
 .rw[if_neg h1,zBF (by rw[zA3];lia),zA3,zCc hl]
  by_cases h2:i=p
  .rw[if_pos h2,h2,zHM]
   rfl
  .rw[if_neg h2,show i-p=(i-p-1)+1 by lia,zAj,zBa]
   congr 2;lia
def vL(xs:Array α)(p:Nat)(x:α):(zB5 xs p x).size=xs.size+1:=by
 rw[<-zAL,(zGS xs p x).length_eq,zBS];simp
def rC{t:zC4}(hf:t.fill=n):t.tooFull=decide (t.mask*3<=n*5):=by unfold SetTable.tooFull;rw[hf]
structure nu(t:zC4)(n:Nat):Prop where
 dum:t.dummies=#[]
 siz:t.place.size=n
 ris:Ris t.place
 top:∀i,i<n->t.place.getD i 0<=t.mask
 msk:t.mask=7/\n<=5\/t.mask=31/\n<=19\/t.mask=127/\n<77
 pla:t.plain=true
theorem nu.fill(h:nu t n):t.fill=n:=by unfold zIG;rw[h.dum,h.siz];rfl
theorem nu.fits(h:nu t n):t.fits n=true:=by
 unfold zIH;rw[h.fill,h.siz]
 have:=h.msk
 simp;lia
def aKP(T:cT t n)(h64:n<76)(hj:j<=t.mask)(he:t.slot j= .empty):nu (t.put j).1 (n+1)/\(t.put j).2=zAu t.place j/\(t.put j).2<=n/\(t.put j).1.mask=t.mask/\(t.put j).1.led=t.led:=by
 have hno:=aAC T he;obtain⟨b1,b2,b3⟩:=qG T.ris j;have hsz:=T.siz;have hg:=tV t.place (zAu t.place j) j 0 b1;refine⟨⟨?_,?_,?_,?_,?_,T.pla⟩,rfl,by rw[<-hsz];exact b1,rfl,rfl⟩
 .show(if zE5 t.dummies j then SetTable.eraseAt t.dummies (zAu t.dummies j)else t.dummies)=#[]
  rw[T.dum]
  have:zE5 #[] j=false:=by unfold zE5;simp
  rw[this];rfl
 .show(zB5 t.place _ j).size=n+1
  rw[vL,hsz]
 .intro a b hab hb
  have hb':b<n+1:=by
   have:b<(zB5 t.place (zAu t.place j) j).size:=hb
   rw[vL,hsz]at this;exact this
  show(zB5 t.place (zAu t.place j) j).getD a 0<(zB5 t.place (zAu t.place j) j).getD b 0
  rw[hg,hg];by_cases a1:a<zAu t.place j
  .rw[if_pos a1]
   by_cases c1:b<zAu t.place j
   .rw[if_pos c1];exact T.ris a b hab (by lia)
   .rw[if_neg c1]
    by_cases c2:b=zAu t.place j
    .rw[if_pos c2];exact b2 a a1
    .rw[if_neg c2]
     exact T.ris a (b-1) (by lia) (by lia)
  .rw[if_neg a1,if_neg (show¬b<zAu t.place j by lia),if_neg (show¬b=zAu t.place j by lia)]
   by_cases a2:a=zAu t.place j
   .rw[if_pos a2]
    have q1:=b3 (b-1) (by lia) (by lia);have q2:=hno (b-1) (by lia);lia
   .rw[if_neg a2]
    exact T.ris (a-1) (b-1) (by lia) (by lia)
 .intro i hi
  show(zB5 t.place (zAu t.place j) j).getD i 0<=t.mask
  rw[hg];split
  .exact T.top i (by lia)
  .split
   .exact hj
   .exact T.top (i-1) (by lia)
 .have:=T.msk
  show t.mask=7/\n+1<=5\/t.mask=31/\n+1<=19\/t.mask=127/\n+1<77;lia
def nu.still{t:zC4}(h:nu t n)(hf:t.tooFull=false):cT t n:=by
 rw[rC h.fill]at hf;simp only[decide_eq_false_iff_not]at hf;refine⟨h.dum,h.siz,h.ris,h.top,?_,h.pla⟩;rcases h.msk with ⟨e,l⟩|⟨e,l⟩|⟨e,l⟩<;>rw[e]at hf
 .exact .inl ⟨e,by lia⟩
 .exact .inr (.inl ⟨e,by lia⟩)
 .exact .inr (.inr ⟨e,by lia⟩)
def nu.full{t:zC4}(h:nu t n)(h64:n<=76)(hf:t.tooFull=true):n=5\/n=19:=by
 rw[rC h.fill]at hf;simp only[decide_eq_true_eq]at hf
 have:=h.msk
 lia
def heldBy(owner:Array (Option Nat)):List Nat:=owner.toList.filterMap id
theorem vO:∀(l:kX) (j x:Nat),l[j]? =some none->((l.set j (some x)).filterMap id).Perm (x::l.filterMap id)
 |[],j,x,h=>by simp at h
 |a::l,0,x,h=>by
  simp at h;subst h;exact zAq _
 |none::l,j+1,x,h=>by
  have ih:=vO l j x (by simpa using h);simpa using ih
 |some a::l,j+1,x,h=>by
  have ih:=vO l j x (by simpa using h)
  have:(((some a::l).set (j+1) (some x)).filterMap id).Perm (a::x::l.filterMap id):=by
   simpa using ih.cons a
  exact this.trans (zEC _ _ _)
theorem wy:∀(l:kX),(∀j,j<l.length->∃x,l[j]? =some (some x))->(l.filterMap id).length=l.length
 |[],_=>rfl
 |a::l,h=>by
  obtain⟨x,e⟩:=h 0 (by simp);have ex:a=some x:=by simpa using e
  subst ex;have ih:=wy l λ j hj=>by simpa using h (j+1) (by simpa using hj)
  simp[ih]
theorem aDJ(ho:owner.size=mask+1):∀(N i pert:Nat),i<=mask->
  (∃j,owner.toList[j]? =some none/\zB1 mask owner N i pert=some j)\/∀k,k<N->∃x,owner.toList[(lC mask k (i,pert)).1]? =some (some x)
 |0,i,pert,hi=>.inr λ k hk=>by lia
 |N+1,i,pert,hi=>by
  obtain⟨r1,r2,r3⟩:=qb hi;have cK:zB1 mask owner (N+1) i pert=(match (zAr (zAn mask i+1-i)).find? λ k=>(owner.getD (i+k) (some 0)).isNone with
   |some k=>some (i+k)
   |none=>zB1 mask owner N (zAz mask i pert).1 (zAz mask i pert).2):=rfl
  rw[cK];cases hf:(zAr (zAn mask i+1-i)).find? λ k=>(owner.getD (i+k) (some 0)).isNone with
  |some k=>
   left;have h1:=zG3 hf;have h2:=List.find?_some hf;simp only[zCG]at h1;have hlt:i+k<owner.size:=by lia
   refine⟨i+k,?_,rfl⟩;have e:owner.getD (i+k) (some 0)=owner[i+k]:=by simp[zC0,hlt]
   rw[e]at h2;rw[zAR,zCA];exact⟨hlt,by simpa using h2⟩
  |none=>
   have h0:=zHf.mp hf 0 (by simp;lia);have hlt:i<owner.size:=by lia
   have e:owner.getD (i+0) (some 0)=owner[i]:=by simp[zC0,hlt]
   rw[e]at h0;have hl:(zAz mask i pert).1<=mask:=zCR (zDF _ (zDT _));rcases aDJ ho N _ (zAz mask i pert).2 hl with ⟨j,s1,s2⟩|s
   .exact .inl ⟨j,s1,s2⟩
   .right
    intro k hk;cases k with
    |zero=>
     show∃x,owner.toList[i]? =some (some x)
     rw[zAR];cases q:owner[i]with
     |none=>rw[q]at h0;simp at h0
     |some x=>exact⟨x,by rw[zCA];exact⟨hlt,q⟩⟩
    |succ k=>exact s k (by lia)
def aDv(hm:mask=7\/mask=31\/mask=127)(ho:owner.size=mask+1)(hfew:(heldBy owner).length<mask+1)(h:Int):
  ∃j,owner.toList[j]? =some none/\zB1 mask owner (zBU mask) (zBC h%(mask+1)) (zBC h)=some j:=by
 rcases aDJ ho (zBU mask) _ (zBC h) (zCR (zDF (zBC h) (zDT mask)))with z|z
 .exact z
 .exfalso
  have:=wy owner.toList λ j hj=>by
   rw[zAL,ho]at hj;obtain⟨k,hk,ek⟩:=aAj hm h (t:=j) (by lia) (zBC h%(mask+1));obtain⟨x,e⟩:=z k (by unfold zBU;lia);rw[ek]at e;exact⟨x,e⟩
  unfold heldBy at hfew;rw[this,zAL]at hfew;lia
def fG(mask:Nat)(acc:Option (Array (Option Nat)×Nat))(h:Int):Option (Array (Option Nat)×Nat):=do
 let(owner,k) <-acc
 let j <-zB1 mask owner (zBU mask) (zBC h%(mask+1)) (zBC h)
 pure (owner.setIfInBounds j (some k),k+1)
theorem vD(hm:mask=7\/mask=31\/mask=127):∀(hs:List Int) (owner:Array (Option Nat)) (k:Nat),owner.size=mask+1->(heldBy owner).Perm (zAr k)->k+hs.length<=mask->
  ∃owner',hs.foldl (fG mask) (some (owner,k))=some (owner',k+hs.length)/\owner'.size=mask+1/\(heldBy owner').Perm (zAr (k+hs.length))
 |[],owner,k,ho,hp,hl=>⟨owner,rfl,ho,hp⟩
 |h::hs,owner,k,ho,hp,hl=>by
  rw[zA6]at hl;obtain⟨j,e1,e2⟩:=aDv hm ho (by rw[hp.length_eq,zE0];lia) h;have hst:fG mask (some (owner,k)) h=some (owner.setIfInBounds j (some k),k+1):=by
   unfold fG;simp[e2]
  rw[zBV,hst];obtain⟨o',f1,f2,f3⟩:=vD hm hs (owner.setIfInBounds j (some k)) (k+1) (by simpa using ho) (by
   unfold heldBy;rw[zCY];refine(vO owner.toList j k e1).trans ?_;rw[List.range_succ];exact(zH1 k hp).trans (List.perm_append_singleton k _).symm) (by lia)
  refine⟨o',?_,f2,?_⟩
  .rw[f1,zA6,show k+1+hs.length=k+(hs.length+1)by lia]
  .rw[zA6,show k+(hs.length+1)=k+1+hs.length by lia]
   exact f3
def aAz(m:Nat):heldBy (zDz m none)=[]:=by
 unfold heldBy;rw[zGi];induction m with
 |zero=>rfl
 |succ m ih=>rw[zCF];simpa using ih
def aAo(hm:mask=7\/mask=31\/mask=127)(hs:Array Int)(hl:hs.size<=mask):∃owner,zEM mask hs=some owner/\owner.size=mask+1/\(heldBy owner).Perm (zAr hs.size):=by
 obtain⟨o',f1,f2,f3⟩:=vD hm hs.toList (zDz (mask+1) none) 0 (by simp) (by rw[aAz];exact zAq _) (by simpa using hl);refine⟨o',?_,f2,by simpa using f3⟩;have e:zEM mask hs=(hs.foldl (fG mask) (some (zDz (mask+1) none,0))).map (·.1):=rfl;rw[e,<-zHX,f1];rfl
def cN(owner:Array (Option Nat))(m:Nat):List (Nat×Nat):=(zAr m).filterMap λ j=>(owner.getD j none).map (j,·)
theorem aAe:∀(l:kX) (b:Nat) (f:Nat->Option Nat),(∀i,i<l.length->f (b+i)=(l[i]?).getD none)->
  ((zH4 b l.length).filterMap λ j=>(f j).map (j,·)).map (·.2)=l.filterMap id
 |[],_,_,_=>rfl
 |a::l,b,f,h=>by
  have h0:=h 0 (by simp);simp at h0;have ih:=aAe l (b+1) f λ i hi=>by
   have:=h (i+1) (by simpa using hi)
   rw[show b+(i+1)=b+1+i by lia]at this;simpa using this
  rw[zA6,zI0,zBp,h0];cases a with
  |none=>simpa using ih
  |some x=>simpa using ih
def aBz(owner:Array (Option Nat)):(cN owner owner.size).map (·.2)=heldBy owner:=by
 have:=aAe owner.toList 0 (λ j=>owner.getD j none) λ i hi=>by
  rw[zDU,zBb,zAR]
 unfold cN heldBy;rw[zHL,<-this,zAL]
theorem aAf(f:Nat->Option Nat):∀(m b:Nat),(((zH4 b m).filterMap λ j=>(f j).map (j,·)).map (·.1)).Pairwise (·< ·)/\∀x∈((zH4 b m).filterMap λ j=>(f j).map (j,·)).map (·.1),b<=x/\x<b+m
 |0,b=>⟨.nil,λ x hx=>by simp at hx⟩
 |m+1,b=>by
  obtain⟨ih1,ih2⟩:=aAf f m (b+1);rw[zI0,zBp];cases hf:f b with
  |none=>
   simp only[zID];exact⟨ih1,λ x hx=>by have:=ih2 x hx;lia⟩
  |some y=>
   simp only[zCr,zAG];refine⟨zAb.mpr ⟨λ x hx=>by have:=ih2 x hx;lia,ih1⟩,λ x hx=>?_⟩;rcases zAM.mp hx with e|hx
   .lia
   .have:=ih2 x hx
    lia
def aKK{l:List Nat}(h:l.Pairwise (·< ·)):Ris l.toArray:=by
 intro i j hij hj;have hj':j<l.length:=by simpa using hj
 have e:∀k,k<l.length->l.toArray.getD k 0=l[k]!:=λ k hk=>by simp[zC0,hk]
 have:=zBI.mp h i j (by lia) hj' hij
 simp[zC0,hj',show i<l.length by lia];exact this
def aEt{t:zC4}(hp:t.plain=true)(hn:n=5\/n=19)(hs:Array Int)(hl:hs.size=n):
  ∃t' order,t.relaid hs (zD0 n)=some (t',order)/\cT t' n/\t'.led=t.led/\order.toList.Perm (zAr n):=by
 have hm:∃mask,zFG (zD0 n)-1=mask/\(mask=31/\n=5\/mask=127/\n=19):=by
  rcases hn with e|e<;>subst e
  .exact⟨31,by decide,.inl ⟨rfl,rfl⟩⟩
  .exact⟨127,by decide,.inr ⟨rfl,rfl⟩⟩
 obtain⟨mask,em,hmn⟩:=hm;have hm3:mask=7\/mask=31\/mask=127:=by lia
 obtain⟨owner,o1,o2,o3⟩:=aAo hm3 hs (by lia);have hsnd:=aBz owner;obtain⟨r1,r2⟩:=aAf (λ j=>owner.getD j none) (mask+1) 0;rw[<-zHL]at r1 r2;have oQ:((cN owner (mask+1)).map (·.1)).length=n:=by
  rw[zAE,<-zAE (f:=(·.2)),<-o2,hsnd,o3.length_eq,zE0,hl]
 refine⟨{mask:=mask,place:=((cN owner (mask+1)).map (·.1)).toArray,dummies:=#[],finger:=t.finger,led:=t.led,moves:=t.movedTo mask,plain:=t.plain},((cN owner (mask+1)).map (·.2)).toArray,?_,⟨rfl,?_,aKK r1,?_,?_,hp⟩,rfl,?_⟩
 .unfold zH7 zII
  rw[em,o1];rfl
 .simpa using oQ
 .intro i hi
  have hi':i<((cN owner (mask+1)).map (·.1)).length:=by rw[oQ];exact hi
  show((cN owner (mask+1)).map (·.1)).toArray.getD i 0<=mask
  have:((cN owner (mask+1)).map (·.1)).toArray.getD i 0=((cN owner (mask+1)).map (·.1))[i]:=by
   rw[zBb,List.getElem?_toArray,zAC hi'];rfl
  rw[this]
  have:=r2 _ (zC1 hi')
  lia
 .show mask=7/\n<5\/mask=31/\n<19\/mask=127/\n<77
  lia
 .show((cN owner (mask+1)).map (·.2)).Perm (zAr n)
  rw[<-o2,hsnd,<-hl];exact o3
def aCZ(mask:Nat)(p:zCM):zCM:=
 if p.more>0 then{p with j:=p.j+1,more:=p.more-1}else
 {p with j:=(zAz mask p.i p.perturb).1,more:=zAn mask (zAz mask p.i p.perturb).1-(zAz mask p.i p.perturb).1,i:=(zAz mask p.i p.perturb).1,perturb:=(zAz mask p.i p.perturb).2}
abbrev aD4(mask i pert:Nat):zCM:={j:=i,more:=zAn mask i-i,i:=i,perturb:=pert,dummy:=none}
def pst(mask:Nat)(h:Int):Nat->zCM
 |0=>aD4 mask (zBC h%(mask+1)) (zBC h)
 |k+1=>aCZ mask (pst mask h k)
def aGk(mask:Nat)(p:zCM):(aCZ mask p).dummy=p.dummy:=by unfold aCZ;split<;>rfl
theorem aCj(mask:Nat)(h:Int):∀k,(pst mask h k).dummy=none
 |0=>rfl
 |k+1=>(aGk mask _).trans (aCj mask h k)
def jE(mask:Nat)(L:List (Int×Nat)):Prop:=∀e∈L,∃k,(pst mask e.1 k).j=e.2/\k<10*zBU mask/\∀k',k'<k->∃e'∈L,e'.2=(pst mask e.1 k').j
def jE.perm(h:jE mask L)(p:L'.Perm L):jE mask L':=λ e he=>by
 obtain⟨k,a,b,c⟩:=h e (p.mem_iff.mp he);exact⟨k,a,b,λ k' hk=>by obtain⟨e',x,y⟩:=c k' hk;exact⟨e',p.mem_iff.mpr x,y⟩⟩
def jE.cons(h:jE mask L)(hx:∃k,(pst mask x.1 k).j=x.2/\k<10*zBU mask/\∀k',k'<k->∃e'∈L,e'.2=(pst mask x.1 k').j):jE mask (x::L):=λ e he=>by
 rcases zAM.mp he with rfl|he
 .obtain⟨k,a,b,c⟩:=hx
  exact⟨k,a,b,λ k' hk=>by obtain⟨e',x,y⟩:=c k' hk;exact⟨e',zAO _ x,y⟩⟩
 .obtain⟨k,a,b,c⟩:=h e he
  exact⟨k,a,b,λ k' hk=>by obtain⟨e',x,y⟩:=c k' hk;exact⟨e',zAO _ x,y⟩⟩
section
variable{t:zC4}{n:Nat}{hashAt:Nat->Int}{h:Int}
def wO(T:cT t n)(hi:i<n):t.slot (t.place.getD i 0)= .live i:=by
 rcases pH T (t.place.getD i 0)with e|⟨i',h1,h2,h3⟩
 .exact absurd rfl (aAC T e i hi)
 .have:i'=i:=by
   rcases zFh i' i with z|z|z
   .have:=T.ris i' i z (by rw[T.siz];exact hi);lia
   .exact z
   .have:=T.ris i i' z (by rw[T.siz];exact h1);lia
  rw[h2,this]
theorem aBA(T:cT t n)(hi:i<n)(hh:hashAt i=h)(hu:∀i',i'<n->hashAt i'=h->i'=i):∀(d k fuel:Nat),(pst t.mask h (k+d)).j=t.place.getD i 0->d<fuel->(∀k',k'<k+d->∃i',i'<n/\t.place.getD i' 0=(pst t.mask h k').j)->
  ∃j nx,zBv t hashAt h fuel (pst t.mask h k)=some (.candidate j i nx)
 |d,k,0,_,hf,_=>by lia
 |0,k,fuel+1,hj,hf,hp=>by
  rw[vP];have hj':(pst t.mask h k).j=t.place.getD i 0:=hj;rw[hj',wO T hi];dsimp only;rw[if_pos (by simp[hh])];exact⟨_,_,rfl⟩
 |d+1,k,fuel+1,hj,hf,hp=>by
  rw[vP];obtain⟨i',h1,h2⟩:=hp k (by lia);rw[<-h2,wO T h1];dsimp only;by_cases e:hashAt i'=h
  .rw[if_pos (by simp[e]),hu i' h1 e]
   exact⟨_,_,rfl⟩
  .rw[if_neg (by simpa using e)]
   exact aBA T hi hh hu d (k+1) fuel (by rw[show k+1+d=k+(d+1)by lia];exact hj) (by lia) (by rw[show k+1+d=k+(d+1)by lia];exact hp)
theorem aGB(T:cT t n):∀(fuel k:Nat),zBv t hashAt h fuel (pst t.mask h k)=some (.empty j none)->∃K,k<=K/\K<k+fuel/\(pst t.mask h K).j=j/\∀k',k<=k'->k'<K->∃i',i'<n/\t.place.getD i' 0=(pst t.mask h k').j
 |0,k,e=>by cases e
 |fuel+1,k,e=>by
  rw[vP]at e;rcases pH T (pst t.mask h k).j with q|⟨i,hi,q,hp⟩
  .rw[q]at e
   dsimp only at e;rw[aCj]at e;injection e with e
   injection e with e
   exact⟨k,zAW _,by lia,e,λ k' a b=>by lia⟩
  .rw[q]at e
   dsimp only at e;split at e
   .cases e
   .obtain⟨K,a,b,c,d⟩:=aGB T fuel (k+1) e
    refine⟨K,by lia,by lia,c,λ k' a' b'=>?_⟩;by_cases z:k'=k
    .subst z;exact⟨i,hi,hp⟩
    .exact d k' (by lia) b'
end
def tlS(t:zC4)(es:iX):List (Int×Nat):=(es.toList.map (·.1)).zip t.place.toList
def aJF(T:cT t es.size)(hi:i<es.size):(es[i].1,t.place.getD i 0)∈tlS t es:=by
 have h2:i<t.place.size:=by rw[T.siz];exact hi
 refine zEs.mpr ⟨i,?_⟩;unfold tlS;rw[zDK];constructor
 .rw[zAQ,zAR,zAH hi];rfl
 .rw[zAR,zAH h2]
  simp[zC0,h2]
def aJt(T:cT t es.size)(he:e∈tlS t es):∃i,i<es.size/\t.place.getD i 0=e.2:=by
 obtain⟨i,hi⟩:=zEs.mp he;unfold tlS at hi;have h:=(zDK.mp hi).2;rw[zAR]at h;obtain⟨h1,h2⟩:=zCA.mp h;exact⟨i,by rw[<-T.siz];exact h1,by simp[zC0,h1,h2]⟩
def aAY(T:cT t es.size)(P:jE t.mask (tlS t es))(hi:i<es.size)(hu:∀i' (q:i'<es.size),es[i'].1=es[i].1->i'=i):
  ∃j nx,t.probe (λ i=>(es[i]?.map (·.1)).getD 0) es[i].1 (t.probeStart es[i].1)=some (.candidate j i nx):=by
 obtain⟨k,a,b,c⟩:=P _ (aJF T hi);have hat:∀i' (q:i'<es.size),(es[i']?.map (·.1)).getD 0=es[i'].1:=λ i' q=>by rw[zAH q];rfl
 have:=aBA (hashAt:=λ i=>(es[i]?.map (·.1)).getD 0) T hi (hat i hi) (λ i' q e=>hu i' q ((hat i' q).symm.trans e)) k 0 (10*zBU t.mask) (by rw[zDU];exact a) b λ k' hk=>by
  obtain⟨e',x,y⟩:=c k' (by lia);obtain⟨i',z1,z2⟩:=aJt T x;exact⟨i',z1,z2.trans y⟩
 unfold SetTable.probe;exact this
def aD8(T:cT t es.size)(e:t.probe hashAt h (t.probeStart h)=some (.empty j none)):∃k,(pst t.mask h k).j=j/\k<10*zBU t.mask/\∀k',k'<k->∃e'∈tlS t es,e'.2=(pst t.mask h k').j:=by
 obtain⟨K,a,b,c,d⟩:=aGB T (10*zBU t.mask) 0 e;refine⟨K,c,by lia,λ k' hk=>?_⟩;obtain⟨i',h1,h2⟩:=d k' (zAo _) hk;exact⟨_,aJF T h1,h2⟩
def aJs(T:cT t es.size)(hp:p<=es.size):(((zB5 es p x).toList.map (·.1)).zip (zB5 t.place p j).toList).Perm ((x.1,j)::tlS t es):=by
 rw[zEN,zEN,zBc,zAG];have hs:=T.siz;rw[zIh (by simp[hs]),zBZ];refine zFu.trans (zH1 _ ?_)
 have:tlS t es=((es.toList.map (·.1)).take p++(es.toList.map (·.1)).drop p).zip (t.place.toList.take p++t.place.toList.drop p):=by rw[zAf,zAf];rfl
 rw[this,zIh (by simp[hs]),zE4,zF1]
theorem tO(e:pst mask h k=aD4 mask i pert):∀m,m<=zAn mask i-i->pst mask h (k+m)={aD4 mask i pert with j:=i+m,more:=zAn mask i-i-m}
 |0,_=>by rw[zEU,e];simp
 |m+1,hm=>by
  show aCZ mask (pst mask h (k+m))=_;rw[tO e m (by lia)];unfold aCZ;rw[if_pos (show zAn mask i-i-m>0 by lia)];simp;lia
def aFE(e:pst mask h k=aD4 mask i pert):pst mask h (k+(zAn mask i-i)+1)=aD4 mask (zAz mask i pert).1 (zAz mask i pert).2:=by
 show aCZ mask (pst mask h (k+(zAn mask i-i)))=_;rw[tO e _ (zAW _)];unfold aCZ;rw[if_neg (by show¬zAn mask i-i-(zAn mask i-i)>0;lia)]
theorem aBB(ho:owner.size=mask+1):∀(N i pert k:Nat),i<=mask->pst mask h k=aD4 mask i pert->zB1 mask owner N i pert=some j->
  ∃K,k<=K/\K<k+10*N/\(pst mask h K).j=j/\∀k',k<=k'->k'<K->∃x,owner.toList[(pst mask h k').j]? =some (some x)
 |0,i,pert,k,hi,e,q=>by cases q
 |N+1,i,pert,k,hi,e,q=>by
  obtain⟨r1,r2,r3⟩:=qb hi;have cK:zB1 mask owner (N+1) i pert=(match (zAr (zAn mask i+1-i)).find? λ k=>(owner.getD (i+k) (some 0)).isNone with
   |some k=>some (i+k)
   |none=>zB1 mask owner N (zAz mask i pert).1 (zAz mask i pert).2):=rfl
  rw[cK]at q;have full:∀m,m<=zAn mask i-i->((owner.getD (i+m) (some 0)).isNone)=false->∃x,owner.toList[(pst mask h (k+m)).j]? =some (some x):=λ m hm z=>by
   rw[tO e m hm]
   show∃x,owner.toList[i+m]? =some (some x)
   have hlt:i+m<owner.size:=by lia
   rw[show owner.getD (i+m) (some 0)=owner[i+m]by simp[zC0,hlt]]at z;rw[zAR];cases w:owner[i+m]with
   |none=>rw[w]at z;cases z
   |some x=>exact⟨x,by rw[zCA];exact⟨hlt,w⟩⟩
  cases hf:(zAr (zAn mask i+1-i)).find? λ k=>(owner.getD (i+k) (some 0)).isNone with
  |some m=>
   rw[hf]at q;cases q;have h1:=zG3 hf;simp only[zCG]at h1;refine⟨k+m,by lia,by lia,by rw[tO e m (by lia)],λ k' a b=>?_⟩;obtain⟨d,rfl⟩:∃d,k'=k+d:=⟨k'-k,by lia⟩
   refine full d (by lia) ?_
   have:=(List.find?_range_eq_some.mp hf).2.2 d (by lia)
   exact(zDB _).mp this
  |none=>
   rw[hf]at q;have hl:(zAz mask i pert).1<=mask:=zCR (zDF _ (zDT _));obtain⟨K,a,b,c,d⟩:=aBB ho N _ _ _ hl (aFE e) q;refine⟨K,by lia,by lia,c,λ k' a' b'=>?_⟩;by_cases z:k'<k+(zAn mask i-i)+1
   .obtain⟨m,rfl⟩:∃m,k'=k+m:=⟨k'-k,by lia⟩
    refine full m (by lia) ?_;exact zHv.mpr (zHf.mp hf m (by simp;lia))
   .exact d k' (by lia) b'
def aGn(mask:Nat)(hs:List Int)(owner:Array (Option Nat)):Prop:=∀j x,owner.toList[j]? =some (some x)->∃h,hs[x]? =some h/\∃K,(pst mask h K).j=j/\K<10*zBU mask/\∀k',k'<K->∃y,owner.toList[(pst mask h k').j]? =some (some y)
def aGn.set{K k j:Nat}(O:aGn mask hs owner)(hx:hs[k]? =some h)(hK:(pst mask h K).j=j)(hK2:K<10*zBU mask)(hp:∀k',k'<K->∃y,owner.toList[(pst mask h k').j]? =some (some y)):aGn mask hs (owner.setIfInBounds j (some k)):=by
 have keep:∀(a:Nat),(∃y,owner.toList[a]? =some (some y))->∃y,(owner.setIfInBounds j (some k)).toList[a]? =some (some y):=λ a ⟨y,e⟩=>by
  rw[zCY,zHz];by_cases z:j=a
  .subst z
   rw[if_pos rfl]
   have:=(zAI.mp e).1
   exact⟨k,by rw[if_pos this]⟩
  .rw[if_neg z];exact⟨y,e⟩
 intro a x e;rw[zCY,zHz]at e;by_cases z:j=a
 .subst z
  rw[if_pos rfl]at e;split at e
  .cases e
   exact⟨h,hx,K,hK,hK2,λ k' q=>keep _ (hp k' q)⟩
  .cases e
 .rw[if_neg z]at e
  obtain⟨h',a1,K',a2,a3,a4⟩:=O a x e;exact⟨h',a1,K',a2,a3,λ k' q=>keep _ (a4 k' q)⟩
theorem aCx(all:List Int):∀(hs:List Int) (owner:Array (Option Nat)) (k:Nat),owner.size=mask+1->all.drop k=hs->aGn mask all owner->∀o' k',hs.foldl (fG mask) (some (owner,k))=some (o',k')->aGn mask all o'
 |[],owner,k,ho,hd,O,o',k',e=>by cases e;exact O
 |h::hs,owner,k,ho,hd,O,o',k',e=>by
  rw[zBV]at e;cases q:zB1 mask owner (zBU mask) (zBC h%(mask+1)) (zBC h)with
  |none=>
   have hst:fG mask (some (owner,k)) h=none:=by unfold fG;simp[q]
   rw[hst]at e
   have:∀l:List Int,l.foldl (fG mask) none=none:=λ l=>by induction l with
    |nil=>rfl
    |cons a l ih=>rw[zBV];exact ih
   rw[this]at e;cases e
  |some j=>
   have hst:fG mask (some (owner,k)) h=some (owner.setIfInBounds j (some k),k+1):=by unfold fG;simp[q]
   rw[hst]at e;obtain⟨K,a,b,c,d⟩:=aBB (h:=h) ho (zBU mask) _ _ 0 (zCR (zDF _ (zDT _))) rfl q;have hk:all[k]? =some h:=by
    have:=congrArg (·[0]?) hd
    simpa using this
   refine aCx all hs _ (k+1) (by simpa using ho) ?_ (O.set hk c (by lia) λ k' q=>d k' (zAo _) q) o' k' e
   have:=congrArg (List.drop 1) hd
   rw[zET]at this;simpa using this
def uy(h:p∈cN owner m):owner.toList[p.1]? =some (some p.2):=by
 unfold cN at h;obtain⟨j,hj,e⟩:=zCJ.mp h;cases q:owner.getD j none with
 |none=>rw[q]at e;cases e
 |some x=>
  rw[q]at e;cases e;rw[zAR];rw[zBb]at q;cases w:owner[j]? with
  |none=>rw[w]at q;cases q
  |some y=>rw[w]at q;rw[show y=some x from q]
def aCA(hj:j<m)(h:owner.toList[j]? =some (some x)):(j,x)∈cN owner m:=by
 unfold cN;refine zCJ.mpr ⟨j,zCG.mpr hj,?_⟩;rw[zAR]at h;rw[zBb,h];rfl
theorem aDK(es:iX):∀l:List (Nat×Nat),(∀p∈l,∃h,(es.toList.map (·.1))[p.2]? =some h)->((l.map (·.2)).filterMap (es[·]?)).map (·.1)=l.map λ p=>((es.toList.map (·.1))[p.2]?).getD 0
 |[],_=>rfl
 |p::l,h=>by
  obtain⟨x,e⟩:=h p zAT;have ih:=aDK es l λ q hq=>h q (zAO _ hq)
  rw[zAG,zAG,zBp];have e':=e;rw[zAQ,zAR]at e';cases w:es[p.2]? with
  |none=>rw[w]at e';cases e'
  |some y=>
   rw[w]at e';dsimp only;rw[zAG,ih,e];rw[show y.1=x from zAh e'];rfl
theorem zg(f:α->β)(g:α->γ):∀l:List α,(l.map f).zip (l.map g)=l.map λ a=>(f a,g a)
 |[]=>rfl
 |a::l=>by rw[zAG,zAG,zBZ,zg f g l];rfl
def aD6{t:zC4}(hn:n=5\/n=19)(es:iX)(hl:es.size=n)(e:t.relaid (es.map (·.1)) (zD0 n)=some (t',order)):jE t'.mask (tlS t' (order.filterMap (es[·]?))):=by
 have hm:∃mask,zFG (zD0 n)-1=mask/\(mask=31/\n=5\/mask=127/\n=19):=by
  rcases hn with e|e<;>subst e
  .exact⟨31,by decide,.inl ⟨rfl,rfl⟩⟩
  .exact⟨127,by decide,.inr ⟨rfl,rfl⟩⟩
 obtain⟨mask,em,hmn⟩:=hm;have hm3:mask=7\/mask=31\/mask=127:=by lia
 obtain⟨owner,f1,f2,f3⟩:=vD hm3 (es.map (·.1)).toList (zDz (mask+1) none) 0 (by simp) (by rw[aAz];exact zAq _) (by simp;lia);have o1:zEM mask (es.map (·.1))=some owner:=by
  have e:zEM mask (es.map (·.1))=((es.map (·.1)).foldl (fG mask) (some (zDz (mask+1) none,0))).map (·.1):=rfl;rw[e,<-zHX,f1];rfl
 have O:=aCx (mask:=mask) (es.map (·.1)).toList _ _ 0 (by simp) rfl (λ j x q=>by
  rw[zGi,zCN]at q;split at q<;>cases q) _ _ f1
 unfold zH7 zII at e;rw[em,o1]at e;cases e;rw[zFf]at O;show jE mask _;have et:tlS {mask:=mask,place:=((cN owner (mask+1)).map (·.1)).toArray,dummies:=#[],finger:=t.finger,led:=t.led,moves:=t.movedTo mask,plain:=t.plain} (((cN owner (mask+1)).map (·.2)).toArray.filterMap (es[·]?))=(cN owner (mask+1)).map λ p=>(((es.toList.map (·.1))[p.2]?).getD 0,p.1):=by
  unfold tlS;rw[zGh,aDK es _ λ p hp=>by
   obtain⟨h,q,_⟩:=O p.1 p.2 (uy hp);exact⟨h,q⟩]
  exact zg _ _ _
 show jE mask (tlS {mask:=mask,place:=((cN owner (mask+1)).map (·.1)).toArray,dummies:=#[],finger:=t.finger,led:=t.led,moves:=t.movedTo mask,plain:=t.plain} (((cN owner (mask+1)).map (·.2)).toArray.filterMap (es[·]?)));rw[et];intro e he;obtain⟨p,hp,rfl⟩:=zAl.mp he;obtain⟨h,q,K,a,b,c⟩:=O p.1 p.2 (uy hp);dsimp only;rw[q];refine⟨K,a,b,λ k' hk=>?_⟩;obtain⟨y,z⟩:=c k' hk;refine⟨_,zAl.mpr ⟨((pst mask h k').j,y),aCA ?_ z,rfl⟩,rfl⟩
 have:=(zAI.mp z).1
 rw[zAL,f2]at this;exact this
abbrev bG(es:iX)(ep:Nat)(t:zC4):Obj:={cls:=.type "set",dict:=none,data:=.set es ep t}
def SetT(h:Heap)(a:Addr)(es:iX)(t:zC4):Prop:=∃ep,h.get? a=some (bG es ep t)
structure TupAt(h:Heap)(x:Addr)(ns:List Int):Prop where
 ex:∃o xs k,h.get? x=some o/\o.cls= .type "tuple"/\o.data= .seq xs k/\zB2 xs.toList ns
theorem jQ:∀{vs:List Value} {ns:List Int},zB2 vs ns->ItemsAre (zFV prog w) ns vs
 |_,_,.nil=>.nil
 |_,_,.cons n t r=>.cons (intKind_is _ _ n t) (jQ r)
section
variable{prog:zA7}{w:World}{A:zAt}{E:Value->zAF->Prop}{s:zAF}
theorem jb{fuel:Nat}:∀{vs:List Value} {ns:List Int},zB2 vs ns->∀v∈vs,zGq fuel v=pure true
 |_,_,.nil,v,hv=>by simp at hv
 |_,_,.cons n t r,v,hv=>by
  rcases zAM.mp hv with rfl|hv
  .cases fuel<;>rfl
  .exact jb r v hv
def tD{x:Addr}(hx:TupAt s.heap x ns)(h:Q true s):wpAny (model prog w) A (zGq 8 (.ref x)) Q E s:=by
 obtain⟨o,xs,k,ho,hc,hd,hi⟩:=hx.ex;have hT:s.TypeIs (.ref x) "tuple":=⟨o,ho,hc⟩;unfold zGq;refine zAB (zGv hT PySem.F.slot_tuple_hash.lookup ?_);dsimp only;refine zAB (wpAny_seqItems ho hd ?_);refine zAB ?_;show wpAny (model prog w) A (forIn xs _ _) _ _ _;rw[<-zHY];refine zB8 (zEK _ (λ rest b s'=>b.1=none/\s'=s/\∀v∈rest,zGq 7 v=pure true) (λ b s'=>b.1=none/\s'=s) ?_ ?_ _ _ ⟨rfl,rfl,jb hi⟩) ?_ λ _ _ e=>e
 .rintro v rest b s' ⟨hb,rfl,hr⟩
  rw[hr v zAT];refine zAB (zAJ ?_);simp only[zCg,zAZ,if_false];exact zAJ ⟨rfl,rfl,λ u hu=>hr u (zAO _ hu)⟩
 .rintro b s' ⟨hb,rfl,_⟩
  exact⟨hb,rfl⟩
 .rintro⟨b1,b2⟩ s' ⟨hb,rfl⟩
  dsimp only at hb;subst hb;exact zAJ h
def aE5(ho:s.heap.get? a=some (bG es ep t))(hz:es'.size<=4000)
  (h:(s.heap.update a (zI3 es' t')).get? a=some (bG es' (ep+1) t')->Q () {s with heap:=s.heap.update a (zI3 es' t')}):wpAny (model prog w) A (storeSet a es' t') Q E s:=by
 refine wpAny_storeSet_of ho rfl (h ?_) (by rw[zCP];lia)
 have:=zEo (zI3 es' t') ho (by rw[putSet_of es' t' rfl];rfl)
 rw[putSet_of es' t' rfl]at this;exact this
def uR(ho:s.heap.get? a=some (bG es ep t))(T:cT t es.size)(hne:∀e∈es.toList,e.1≠h)
  (q:∀j,j<=t.mask->t.slot j= .empty->(∃k,(pst t.mask h k).j=j/\k<10*zBU t.mask/\∀k',k'<k->∃e'∈tlS t es,e'.2=(pst t.mask h k').j)->Q (.free j false) s):wpAny (model prog w) A (zId a x h true) Q E s:=by
 unfold zId;unfold setSearchFrom;refine zAB (zBk ho rfl T.fits ?_);dsimp only;have hg:t.gaveWay=false:=by
  unfold zHR;rcases T.mask3 with e|e|e<;>rw[e]<;>decide
 rw[hg];simp only[zAZ,if_false];obtain⟨j,j1,j2,j3⟩:=aBn (hashAt:=λ i=>(es[i]?.map (·.1)).getD 0) T (h:=h) λ i hi=>by
  have e:es[i]? =some es[i]:=zAH hi;rw[e];exact hne _ (zGZ hi)
 have j3':t.probe (λ i=>(es[i]?.map (·.1)).getD 0) h ((none:Option zCM).getD (t.probeStart h))=some (.empty j none):=j3;split
 .rename_i met heq
  have e:some met=some (.empty j none):=heq.symm.trans j3';cases e;exact zAJ (q j j1 j2 (aD8 T j3))
 .rename_i hno
  exact(hno _ j3').elim
def TupAt.key(hx:TupAt h x ns):IsTupleKey (zFV prog w) h ns x:=let⟨o,xs,k,a,b,c,d⟩:=hx.ex;⟨o,xs,k,a,b,c,jQ d⟩
theorem pP{fuel:Nat}:∀{vs:List Value} {ns:List Int},zB2 vs ns->∀v∈vs,zEi fuel v=pure false
 |_,_,.nil,v,hv=>by simp at hv
 |_,_,.cons n t r,v,hv=>by
  rcases zAM.mp hv with rfl|hv
  .cases fuel<;>rfl
  .exact pP r v hv
def rN(hx:TupAt s.heap x ns)(h:Q false s):wpAny (model prog w) A (zEi 8 (.ref x)) Q E s:=by
 obtain⟨o,xs,k,ho,hc,hd,hi⟩:=hx.ex;unfold zEi;refine zAB (zFY (T:="tuple") ⟨o,ho,hc⟩ ?_);dsimp only;rw[if_pos (by decide)];refine zAB (zAJ ?_);simp only[zCg,zAZ,if_false];refine zAB (wpAny_seqItems ho hd ?_);refine zAB ?_;show wpAny _ _ (forIn xs _ _) _ _ s;rw[<-zHY];refine zEK _ (λ rest r s'=>r.1=none/\s'=s/\∀v∈rest,zEi 7 v=pure false) _ ?_ ?_ _ _ ⟨rfl,rfl,pP hi⟩
 .rintro v rest r s' ⟨hr,rfl,qV⟩
  rw[qV v zAT];refine zAB (zAJ ?_);simp only[zAZ,if_false];exact zAJ ⟨rfl,rfl,λ u hu'=>qV u (zAO _ hu')⟩
 .rintro⟨r1,r2⟩ s' ⟨hr,rfl,_⟩
  simp only at hr;subst hr;exact zAJ h
def aIw(h:Heap)(v:Value):Prop:=∃y ms,v= .ref y/\TupAt h y ms
def aEf(hx:TupAt s.heap x ns)(l:List Value)(hl:∀v∈l,aIw s.heap v)(h:Q false s):wpAny (model prog w) A (zJZ (.ref x) l) Q E s:=by
 unfold zJZ;refine zAB ?_;refine zEK _ (λ rest r s'=>r.1=none/\s'=s/\∀v∈rest,aIw s.heap v) _ ?_ ?_ _ _ ⟨rfl,rfl,hl⟩
 .rintro v rest r s' ⟨hr,rfl,qV⟩
  obtain⟨y,ms,rfl,hy⟩:=qV v zAT;have bE:=λ u hu'=>qV u (zAO _ hu')
  dsimp only;split
  .exact zAJ ⟨rfl,rfl,bE⟩
  .refine zAB (zIf hx.key ?_)
   simp only[zCg,zAZ,if_false];refine zAB (zIf hy.key ?_);simp only[zCg,zAZ,if_false];refine zAB (rN hx ?_);simp only[zAZ,if_false];refine zAB (rN hy ?_);simp only[zAZ,if_false];exact zAJ ⟨rfl,rfl,bE⟩
 .rintro⟨r1,r2⟩ s' ⟨hr,rfl,_⟩
  simp only at hr;subst hr;exact zAJ h
def sr(hu:A.units<cLine)(ho:s.heap.get? a=some (bG es ep t))(T:cT t es.size)(P:jE t.mask (tlS t es))(hes:∀e∈es.toList,aIw s.heap e.2)(hx:TupAt s.heap x ns)(hi:i<es.size)(h1:es[i].1=hsh ns)(h2:es[i].2= .ref y)(hy:TupAt s.heap y ns)
  (hun:∀i' (q:i'<es.size),es[i'].1=es[i].1->i'=i)(q:Q (.there none) s):wpAny (model prog w) A (zId a (.ref x) (hsh ns) true) Q E s:=by
 unfold zId;unfold setSearchFrom;refine zAB (zBk ho rfl T.fits ?_);dsimp only;have hg:t.gaveWay=false:=by
  unfold zHR;rcases T.mask3 with e|e|e<;>rw[e]<;>decide
 rw[hg];simp only[zAZ,if_false];obtain⟨j,nx,j3⟩:=aAY T P hi hun;rw[h1]at j3;have j3':t.probe (λ i=>(es[i]?.map (·.1)).getD 0) (hsh ns) ((none:Option zCM).getD (t.probeStart (hsh ns)))=some (.candidate j i nx):=j3;have he:es[i]? =some (hsh ns,.ref y):=by rw[zAH hi,<-h1,<-h2]
 split
 .rename_i met heq
  have e:some met=some (.candidate j i nx):=heq.symm.trans j3';cases e;dsimp only;have fin:∀k:Bool->Array (Int×Value)×Nat×zC4->Sem SetFound,(∀r,k true r=pure (.there none))->wpAny (model prog w) A (zDa [zB9 y] (eqBool (.ref y) (.ref x))>>=λ equal=>setState a>>=λ r=>k equal r) Q E s:=λ k hk=>by
   refine zAB (zCK (wpAny_eqBool_tuple hu hy.key hx.key ?_));rw[show decide (ns=ns)=true by simp];refine zAB (zBk ho rfl T.fits ?_);rw[hk];exact zAJ q
  have stored:∀v∈(es.filter (·.1==hsh ns)).toList.map (·.2),aIw s.heap v:=λ v hv=>by
   obtain⟨e,he,rfl⟩:=zAl.mp hv;rw[Array.toList_filter]at he;exact hes e (zBX.mp he).1
  cases hl:t.led with
  |true=>
   simp only[zCg,zAZ,if_false];rw[he];exact fin _ λ r=>rfl
  |false=>
   simp only[zES,if_true];refine zAB (aEf hx _ stored ?_);simp only[zAZ,if_false];rw[he];exact fin _ λ r=>rfl
 .rename_i hno
  exact(hno _ j3').elim
def aAD(ho:s.heap.get? a=some (bG es ep t))(T:nu t n)(hn:es.size=n)(h5:n=5\/n=19)
  (q:∀h' es' t',zEO a s.heap h'->SetT h' a es' t'->cT t' n->t'.led=t.led->es'.toList.Perm es.toList->jE t'.mask (tlS t' es')->Q () {s with heap:=h'}):wpAny (model prog w) A (setRelay a (zD0 n)) Q E s:=by
 have hsz:zFG (zD0 n)<=zA0:=by
  rw[zCP];rcases h5 with e|e<;>rw[e]<;>decide
 obtain⟨t',order,r1,r2,r3,r4⟩:=aEt T.pla h5 (es.map (·.1)) (by rw[Array.size_map];exact hn);have b9:(order.filterMap (es[·]?)).toList.Perm es.toList:=by
  rw[zGh];refine(r4.filterMap _).trans ?_;rw[<-hn,filterMap_getElem?_range]
 have hes:(order.filterMap (es[·]?)).size=es.size:=by rw[<-zAL,b9.length_eq,zAL]
 have eJ:=aD6 h5 es hn r1;unfold setRelay;refine zAB (zBk ho rfl (by rw[hn];exact T.fits) ?_);dsimp only;rw[if_neg (by lia),r1];refine zAB ?_;refine zIy (a:=(order.filterMap (es[·]?),t')) ?_ ?_
 .show(if ((order.filterMap (es[·]?)).size !=es.size)=true then _ else pure (order.filterMap (es[·]?),t'))=_
  rw[hes];simp only[bne_self_eq_false,zAZ,if_false]
 .exact aE5 ho (by rw[hes,hn];lia) λ e=>q _ _ t' (zC6 ..) ⟨_,e⟩ r2 r3 b9 eJ
def SetT.keep(S:SetT h a es t)(k:∀o,h.get? a=some o->h'.get? a=some o):SetT h' a es t:=let⟨ep,e⟩:=S;⟨ep,k _ e⟩
def dB(zs:List (α×List Int))(p:α×List Int):List (α×List Int):=if p.2∈zs.map (·.2)then zs else zs++[p]
def ent(p:Value×List Int):Int×Value:=(hsh p.2,p.1)
structure tG(h:Heap)(a:Addr)(led:Bool)(zs:kQ)(es:iX)(t:zC4):Prop where
 at_:SetT h a es t
 ok:cT t es.size
 way:jE t.mask (tlS t es)
 led_:t.led=led
 perm:es.toList.Perm (zs.map ent)
 nd:(zs.map λ p=>hsh p.2).Nodup
def aJj(h:Heap)(zs:kQ):Prop:=∀p∈zs,∃y,p.1= .ref y/\TupAt h y p.2
def aB7(hu:A.units<cLine)(S:tG s.heap a led zs es t)(hz:aJj s.heap zs)(hx:TupAt s.heap x ns)(hin:∀p∈zs,hsh p.2=hsh ns->p.2=ns)(h64:(dB zs (.ref x,ns)).length<=76)
  (q:∀b h' tk es' t',zEO a s.heap h'->s.toks<=tk->tG h' a led (dB zs (.ref x,ns)) es' t'->Q b {s with heap:=h',toks:=tk}):wpAny (model prog w) A (setAdd a (.ref x)) Q E s:=by
 obtain⟨⟨ep,ho⟩,T,P,hl,hp,hnd⟩:=S;obtain⟨o,xs,k,xo,xc,xd,xi⟩:=hx.ex;unfold setAdd;refine zCK (zAB ?_);refine wpAny_pyHash_tuple (knd:=zFV prog w) (ks:=ns) hu ⟨o,xs,k,xo,xc,xd,jQ xi⟩ ?_;have eh:tupleKeyHash (zFV prog w) ns=hsh ns:=rfl;rw[eh];unfold setAddHashed;refine zCK ?_;unfold setAddHashedIn;refine zAB (zBk ho rfl T.fits ?_);dsimp only;have hb:byScan (.ref x) es=false:=rfl;rw[hb];simp only[zAZ,if_false];have hes:∀e∈es.toList,∃p∈zs,e=ent p:=λ e he=>by
  obtain⟨p,hp',e'⟩:=zAl.mp (hp.mem_iff.mp he);exact⟨p,hp',e'.symm⟩
 have hndE:(es.toList.map (·.1)).Nodup:=((hp.map (·.1)).nodup_iff).mpr (by rw[zAk];exact hnd);by_cases hm:ns∈zs.map (·.2)
 .have ed:dB zs (.ref x,ns)=zs:=by unfold dB;rw[if_pos hm]
  obtain⟨p,hp1,hp2⟩:=zAl.mp hm;obtain⟨y,ey,hy⟩:=hz p hp1;have aS:(hsh ns,zB9 y)∈es.toList:=by
   refine hp.mem_iff.mpr (zAl.mpr ⟨p,hp1,?_⟩);unfold ent;rw[hp2,ey]
  obtain⟨i,hi,ei⟩:=List.mem_iff_getElem.mp aS;rw[zAL]at hi;rw[Array.getElem_toList]at ei;refine zAB (sr (s:={s with heap:=s.heap,toks:=_}) hu ho T P (λ e he=>?_) (ns:=ns) (i:=i) (y:=y) ⟨o,xs,k,xo,xc,xd,xi⟩ hi (by rw[ei]) (by rw[ei]) (by rw[<-hp2];exact hy) (λ i' q e=>?_) ?_)
  .obtain⟨p',a1,rfl⟩:=hes e he
   obtain⟨y',b1,b2⟩:=hz p' a1;exact⟨y',_,b1,b2⟩
  .have h1:(es.toList.map (·.1))[i']? =some es[i'].1:=by rw[zAQ,zAR,zAH q];rfl
   have h2:(es.toList.map (·.1))[i]? =some es[i].1:=by rw[zAQ,zAR,zAH hi];rfl
   rw[e]at h1;exact(zDC (by simpa using q) hndE).mp (h1.trans h2.symm)
  .dsimp only
   exact zAJ (q _ _ _ _ _ ⟨rfl,λ _ _=>rfl⟩ (zEf _ _) (by rw[ed];exact⟨⟨_,ho⟩,T,P,hl,hp,hnd⟩))
 .have ed:dB zs (.ref x,ns)=zs++[(.ref x,ns)]:=by unfold dB;rw[if_neg hm]
  rw[ed]at h64;have hzl:es.size=zs.length:=by rw[<-zAL,hp.length_eq,zAE]
  rw[zAV,zCw]at h64;have hne:∀e∈es.toList,e.1≠hsh ns:=λ e he z=>by
   obtain⟨p,a1,rfl⟩:=hes e he;exact hm (zAl.mpr ⟨p,a1,hin p a1 z⟩)
  have hnd':((zs++[(zB9 x,ns)]).map λ p=>hsh p.2).Nodup:=by
   rw[zBc];refine zAy.mpr ⟨hnd,by simp,λ a ha b hb=>?_⟩;obtain⟨p,a1,rfl⟩:=zAl.mp ha;rw[zAN.mp hb];exact λ z=>hm (zAl.mpr ⟨p,a1,hin p a1 z⟩)
  refine zAB (uR ho T hne λ j j1 j2 j3=>?_);dsimp only;refine zAB (zBk ho rfl T.fits ?_);dsimp only;obtain⟨PP,p1,p2,p3,p4⟩:=aKP T (by lia) j1 j2;have hes:(zB5 es (t.put j).2 (hsh ns,zB9 x)).size=es.size+1:=vL _ _ _;have b9:(zB5 es (t.put j).2 (hsh ns,zB9 x)).toList.Perm ((zs++[(zB9 x,ns)]).map ent):=by
   have:=zGS es (t.put j).2 (hsh ns,zB9 x)
   rw[zBS]at this;rw[zBc];exact this.trans (hp.append_right _)
  have eJ:jE (t.put j).1.mask (tlS (t.put j).1 (zB5 es (t.put j).2 (hsh ns,zB9 x))):=by
   rw[p3];exact(P.cons (x:=(hsh ns,j)) j3).perm (aJs T p2)
  rw[PP.pla];simp only[if_true];refine zAB (tD (ns:=ns) ⟨o,xs,k,xo,xc,xd,xi⟩ ?_);simp only[if_true];refine zAB (aE5 ho (by rw[hes];lia) λ e1=>?_);simp only[zES,Bool.true_and];cases hf:(t.put j).1.tooFull with
  |true=>
   simp only[if_true];have h5:=PP.full (by lia) hf;refine zAB (aAD (s:={s with heap:=_,toks:=_}) e1 PP hes h5 λ h' es' t' b1 b2 b3 b4 b5 b6=>?_);have hsz:es'.size=es.size+1:=by rw[<-zAL,b5.length_eq,zAL,hes]
   exact zAJ (q _ h' _ es' t' ((zC6 s.heap a _).trans b1) (zEf _ _) (by rw[ed];exact⟨b2,by rw[hsz];exact b3,b6,b4.trans (p4.trans hl),b5.trans b9,hnd'⟩))
  |false=>
   simp only[zAZ,if_false];exact zAJ (q _ _ _ _ _ (zC6 ..) (zEf _ _) (by rw[ed];exact⟨⟨_,e1⟩,by rw[hes];exact PP.still hf,eJ,p4.trans hl,b9,hnd'⟩))
end
def ddV(l:List (α×List Int)):List (α×List Int):=l.foldl dB []
theorem zR:∀(l:List (α×List Int)) (acc:List (α×List Int)),acc.length<=(l.foldl dB acc).length/\(∀p∈acc,p∈l.foldl dB acc)/\∀p∈l.foldl dB acc,p∈acc\/p∈l
 |[],acc=>⟨zAW _,λ _ h=>h,λ _ h=>.inl h⟩
 |x::l,acc=>by
  obtain⟨a,b,c⟩:=zR l (dB acc x);have h:dB acc x=acc\/dB acc x=acc++[x]:=by unfold dB;split<;>simp
  refine⟨zBB ?_ a,λ p hp=>b p ?_,λ p hp=>?_⟩
  .rcases h with e|e<;>rw[e]<;>simp
  .rcases h with e|e<;>rw[e]<;>simp[hp]
  .rcases c p hp with z|z
   .rcases h with e|e<;>rw[e]at z
    .exact .inl z
    .rcases zA9.mp z with z|z
     .exact .inl z
     .exact .inr (by rw[zAN.mp z];exact zAT)
   .exact .inr (zAO _ z)
def tY(h:p∈ddV l):p∈l:=by
 rcases(zR l []).2.2 p h with z|z
 .simp at z
 .exact z
def aG0(l:List (α×List Int))(x:α×List Int):ddV (l++[x])=dB (ddV l) x:=by unfold ddV;rw[zFb];rfl
def aGZ(l:List (α×List Int))(i:Nat):(ddV (l.take i)).length<=(ddV l).length:=by
 conv=>rhs;rw[<-zAf i l]
 unfold ddV;rw[zFb];exact(zR _ _).1
def aDx(f:α->β)(zs:List (α×List Int))(p:α×List Int):dB (zs.map λ q=>(f q.1,q.2)) (f p.1,p.2)=(dB zs p).map λ q=>(f q.1,q.2):=by
 have e:(zs.map λ q=>(f q.1,q.2)).map (·.2)=zs.map (·.2):=by rw[zAk];rfl
 unfold dB;rw[e];dsimp only;split
 .rfl
 .rw[zBc];rfl
def aIj(f:α->β)(l:List (α×List Int)):ddV (l.map λ q=>(f q.1,q.2))=(ddV l).map λ q=>(f q.1,q.2):=by
 have go:∀(l:List (α×List Int)) acc,(l.map λ q=>(f q.1,q.2)).foldl dB (acc.map λ q=>(f q.1,q.2))=(l.foldl dB acc).map λ q=>(f q.1,q.2):=by
  intro l;induction l with
  |nil=>intro acc;rfl
  |cons x l ih=>intro acc;rw[zAG,zBV,zBV,aDx];exact ih _
 exact go l []
def ddT(l:hZ):hZ:=l.foldl (λ acc x=>if x∈acc then acc else acc++[x]) []
def aIi(l:List (α×List Int)):(ddV l).map (·.2)=ddT (l.map (·.2)):=by
 have go:∀(l:List (α×List Int)) (acc:List (α×List Int)),(l.foldl dB acc).map (·.2)=(l.map (·.2)).foldl (λ acc x=>if x∈acc then acc else acc++[x]) (acc.map (·.2)):=by
  intro l;induction l with
  |nil=>intro acc;rfl
  |cons x l ih=>
   intro acc;rw[zBV,zAG,zBV,ih];congr 1;unfold dB;split
   .rfl
   .rw[zBc];rfl
 exact go l []
def bD.tup{i:Nat}(t:bD h vs nss)(hv:vs[i]? =some v):∃x ns,v= .ref x/\nss[i]? =some ns/\TupAt h x ns:=by
 have hi:i<vs.length:=(zAI.mp hv).1;obtain⟨x,o,xs,k,e1,e2,e3,e4,e5,_⟩:=t.at hi;have hi2:i<nss.length:=by rw[<-t.len];exact hi
 refine⟨x,nss.getD i [],?_,by simp[hi2],⟨o,xs,k,e2,e3,e4,e5⟩⟩;rw[<-e1];simp[hv]
section
variable{prog:zA7}{w:World}{A:zAt}{R:zFF->zAF->Prop}{I:Addr}{fp wr:List Addr}{G:Array zDw->Array zDw->Prop}{n:Nat}{St:Nat->zAF->Prop}{vs:List Value}{nss:hZ}
def aD0(W:WalksS prog w A.in1 I fp wr G n (λ i v=>vs.toArray[i]? =some v) St)(S:Addr)(hSf:S∉fp)(hn:n=vs.length)(hu:A.in1.units<cLine)(h64:(ddV (vs.zip nss)).length<=76)(hin2:∀a∈nss,∀b∈nss,hsh a=hsh b->a=b)(hin:∀x,.ref x∈vs->x∉wr)(led:Bool):
  ∀(k i:Nat) (s:zAF) (es:iX) (t:zC4),n-i=k->i<=n->St i s->bD s.heap vs nss->tG s.heap S led (ddV ((vs.zip nss).take i)) es t->
   (∀s' es' t',Moved (S::wr) G s s'->tG s'.heap S led (ddV (vs.zip nss)) es' t'->R (.ok (.ret .none)) s')->
   zCf (model prog w) A (.builtin "set.update.loop" ⟨[.ref S,.ref I],[]⟩) R s:=by
 have hSw:S∉wr:=λ h=>hSf (W.sub _ h)
 have hsb:∀b∈wr,b∈S::wr:=λ b hb=>zAO _ hb
 intro k;induction k with
 |zero=>
  intro i s es t hk hi hst ht hS hR;have hin':i=n:=by lia
  subst hin';refine zDI zEW ?_;rw[zDA zCo _];show wpAny _ A.in1 (zGA (.ref I)>>=_) _ _ s;refine zAB (W.done s _ _ hst λ s' hm=>zAJ (hR s' es t (hm.mono hsb) ?_))
  have:(vs.zip nss).length<=i:=by rw[zEF,hn];exact Nat.min_le_left _ _
  rw[zBE this]at hS
  exact{hS with at_:=hS.at_.keep λ o e=>hm.heap S _ hSw e}
 |succ k ih=>
  intro i s es t hk hi hst ht hS hR;have hlt:i<n:=by lia
  refine zDI zEW ?_;rw[zDA zCo _];show wpAny _ A.in1 (zGA (.ref I)>>=_) _ _ s;refine zAB (W.item i s _ _ hlt hst λ v s' hP' hst' hm=>?_);have hP:vs[i]? =some v:=by simpa using hP'
  obtain⟨x,ns,rfl,hns,hx⟩:=ht.tup hP;have ht':bD s'.heap vs nss:=by
   have go:∀{us:List Value} {ms:hZ},(∀y,.ref y∈us->y∉wr)->bD s.heap us ms->bD s'.heap us ms:=by
    intro us ms hy z;induction z with
    |nil=>exact .nil
    |cons ho hc hd hi hne r ih2=>exact .cons (hm.heap _ _ (hy _ zAT) ho) hc hd hi hne (ih2 λ y m=>hy y (zAO _ m))
   exact go hin ht
  have hS':tG s'.heap S led (ddV ((vs.zip nss).take i)) es t:={hS with at_:=hS.at_.keep λ o e=>hm.heap S _ hSw e};have hx':TupAt s'.heap x ns:=by
   obtain⟨y,ms,e1,e2,e3⟩:=ht'.tup hP;cases e1;rw[hns]at e2;cases e2;exact e3
  have qV:aJj s'.heap (ddV ((vs.zip nss).take i)):=λ p hp=>by
   have hp2:=zBR (tY hp);obtain⟨j,hj⟩:=zEs.mp hp2;obtain⟨z1,z2⟩:=zDK.mp hj;obtain⟨y,ms,e1,e2,e3⟩:=ht'.tup z1;rw[z2]at e2;cases e2;exact⟨y,e1,e3⟩
  have eI:ddV ((vs.zip nss).take (i+1))=dB (ddV ((vs.zip nss).take i)) (.ref x,ns):=by
   rw[List.take_add_one,(zDK (z:=(zB9 x,ns))).mpr ⟨hP,hns⟩];exact aG0 _ _
  have hmn:ns∈nss:=zBG hns;show wpAny _ A.in1 (zDa [zB9 x] (setAdd S (.ref x))>>=_) _ _ s';refine zAB (zCK (aB7 hu hS' qV hx' (λ p hp z=>hin2 _ (zCx (zBR (tY hp))).2 _ hmn z) (by rw[<-eI];exact zBB (aGZ _ _) h64) λ b h' tk es' t' c1 c2 c3=>?_));rw[<-eI]at c3;have kp:∀b o,b≠S->s'.heap.get? b=some o->h'.get? b=some o:=λ b o hb e=>by rw[c1.2 b hb];exact e
  have ht2:bD h' vs nss:=ht'.mono λ y o e c=>kp y o (λ z=>by
   subst z;obtain⟨ep,q⟩:=hS'.at_;rw[q]at e;cases e;exact absurd c (show¬(zBy "set"=zBy "tuple")by decide)) e
  refine zAJ ⟨zHq zCo _,ih (i+1) _ es' t' (by lia) hlt (W.frame _ s' _ _ hst' c2 λ b hb o e=>kp b o (λ z=>hSf (z▸hb)) e) ht2 c3 λ s'' es'' t'' hm'' hS''=>?_⟩;exact hR s'' es'' t'' (Moved.trans W.gtrans ((hm.mono hsb).then_heap c2 λ b o hb e=>kp b o (λ z=>hb (z▸zAT)) e) hm'') hS''
end
end VL
namespace PySem
section
variable{prog:zA7}{w:World}{A:zAt}{E:Value->zAF->Prop}{s:zAF}
def aEe(a:Value)(h:Q₁ (.ref s.heap.objs.size) {s with heap:=s.heap.push (VL.bG #[] 0 (.fresh 0 0 (!w.params.followText "set-order")))}):
  zCf (model prog w) A (.call (.builtin "set.__new__") ⟨[.type "set",a],[]⟩) (wants Q₁ E) s:=by
 refine codeAny_of_tree ?_;show wpAny _ A.in1 (zGe "set.__new__" ⟨[.type "set",a],[]⟩>>=λ _=>again (.builtin "set.__new__" ⟨[.type "set",a],[]⟩)) _ _ s;refine zAB (zIy (F.newCall_set_1 a) (zAJ ⟨zHq zG9 _,zDI PySem.F.entry_set_new ?_⟩));rw[zDA zG9 _];unfold zE9.«set.__new__» zIQ;have hsub:=sub_set_self;obtain⟨hp,g,d,tk,os⟩:=s;dsimp only;wp_walk;refine zEJ (zAJ ?_);dsimp only;simp only[newObj];exact zAB (wpAny_alloc (zAJ (zAJ h)))
set_option maxHeartbeats 3200000 in
def mH{l:Addr}{T:String}{oI:Obj}{Φ:Heap->Prop}{Q:Value->zAF->Prop}(hty:s.TypeIs (.ref l) T)(hsls:zIb (.type T) (.type "set")=pure false)(hslf:zIb (.type T) (.type "frozenset")=pure false)(hne:(zBy T==zBy "dict")=false)
  (hit:∀(zS:Heap) (yB:zAt) (yA:Value->zAF->Prop) (Q₁:Value->zAF->Prop),(∀b o,s.heap.get? b=some o->zS.get? b=some o)->Q₁ (.ref zS.objs.size) {s with heap:=zS.push oI}->wpAny (model prog w) yB (zHa (.ref l)) Q₁ yA {s with heap:=zS})
  (hrun:∀R:zFF->zAF->Prop,(∀h' tk,Φ h'->(∀b o,s.heap.get? b=some o->h'.get? b=some o)->R (.ok (.ret .none)) {s with heap:=h',toks:=tk})->
   zCf (model prog w) A.in1.in1 (.builtin "set.update.loop" ⟨[.ref s.heap.objs.size,.ref (s.heap.push (VL.bG #[] 0 (.fresh 0 0 (!w.params.followText "set-order")))).objs.size],[]⟩) R {s with heap:=(s.heap.push (VL.bG #[] 0 (.fresh 0 0 (!w.params.followText "set-order")))).push oI})
  (h:∀h' tk,Φ h'->(∀b o,s.heap.get? b=some o->h'.get? b=some o)->Q (.ref s.heap.objs.size) {s with heap:=h',toks:=tk}):
  wpAny (model prog w) A (call (.type "set") [.ref l]) Q E s:=by
 obtain⟨c,tl,hmro⟩:=zDV.mro;have hmade:=zDV.made;have hsub:=zDV.sub
 refine wpAny_call (codeAny_of_tree ?_);show wpAny _ _ (callAny (.type "set") _) _ _ _;refine zAJ ⟨zHc _ (by decide+kernel),zDI PySem.F.entry_type_call ?_⟩;rw[Around.under_plain (weight_type_call_type "set" [.ref l] []) rfl];have h1:=zDV.notType;have h2:=zDV.canCreate
 have hct:=F.typeCall_set_1 (.ref l);repeat (any_goals (first|assumption|wp_step))
 generalize hled:(!w.params.followText "set-order")=led at hrun;refine zE6 (aEe (.ref l) (E:=E) (Q₁:=λ obj z0=>obj= .ref s.heap.objs.size/\z0={s with heap:=s.heap.push (VL.bG #[] 0 (.fresh 0 0 led))}) ⟨rfl,by rw[hled]⟩) λ r z0 hr=>?_
 cases r with
 |error e=>exact hr
 |ok fl=>
  cases fl with
  |ret obj=>
   obtain⟨rfl,rfl⟩:=hr;have hS:(s.heap.push (VL.bG #[] 0 (.fresh 0 0 led))).get? s.heap.objs.size=some (VL.bG #[] 0 (.fresh 0 0 led)):=zAY _ rfl;have hT:Shared.TypeIs {s with heap:=s.heap.push (VL.bG #[] 0 (.fresh 0 0 led))} (.ref s.heap.objs.size) "set":=⟨_,hS,rfl⟩;have hli:=zDV.init.lookup;have hbi:=zDV.init.bind (.ref s.heap.objs.size)
   repeat (any_goals (first|assumption|wp_step))
   refine zE6 (zF8 (R:=wants (λ r z4=>r= .none/\∃h' tk,z4={s with heap:=h',toks:=tk}/\Φ h'/\(∀b o,s.heap.get? b=some o->h'.get? b=some o)) E) zDV.init.plain F.entry_set_init (check_set_init_1 hT ?_)) λ r₂ z4 hr₂=>?_
   .obtain⟨ol,hol,hcl⟩:=hty
    obtain⟨ocls,odict,odata,oslots⟩:=ol;simp only at hcl;subst hcl;have hol':(s.heap.push (VL.bG #[] 0 (.fresh 0 0 led))).get? l=some {cls:=.type T,dict:=odict,data:=odata,slots:=oslots}:=zAD _ hol;unfold zE9.«set.__init__» noKeywords zIT;generalize hPI:zHa=PI;wp_walk;subst hPI;refine hit _ _ _ _ (λ b o e=>zAD _ e) (zAB (wpAny_runValue (hrun _ λ h' tk g1 g2=>?_)));show wpAny _ _ _ _ _ _;refine zAJ ?_;show wpAny _ _ (ret zCC) _ _ _;exact zAJ ⟨rfl,h',tk,rfl,g1,g2⟩
   .cases r₂ with
    |error e=>exact hr₂
    |ok fl₂=>
     cases fl₂ with
     |ret r=>
      obtain⟨rfl,h',tk,rfl,g1,g2⟩:=hr₂
      repeat (any_goals (first|assumption|wp_step))
      exact h _ _ g1 g2
     |_=>exact hr₂.elim
  |_=>exact hr.elim
def xn{l:Addr}{T:String}{oI:Obj}{vs:List Value}{nss:hZ}{St:Addr->Nat->Heap->Prop}{Q:Value->zAF->Prop}(hh:A.handled=none)(hu:A.units+8<cLine)(hty:s.TypeIs (.ref l) T)(hsls:zIb (.type T) (.type "set")=pure false)(hslf:zIb (.type T) (.type "frozenset")=pure false)(hne:(zBy T==zBy "dict")=false)
  (hit:∀(zS:Heap) (yB:zAt) (yA:Value->zAF->Prop) (Q₁:Value->zAF->Prop),(∀b o,s.heap.get? b=some o->zS.get? b=some o)->Q₁ (.ref zS.objs.size) {s with heap:=zS.push oI}->wpAny (model prog w) yB (zHa (.ref l)) Q₁ yA {s with heap:=zS})
  (hW:∀(A':zAt) I,l≠I->A'.handled=none->Walks prog w A' I [I,l] [I] vs.toArray.size (λ i v=>vs.toArray[i]? =some v) (St I))(h0:∀zS:Heap,(∀b o,s.heap.get? b=some o->zS.get? b=some o)->St zS.objs.size 0 (zS.push oI))
  (ht:VL.bD s.heap vs nss)(h64:(VL.ddV (vs.zip nss)).length<=76)(hin:∀a∈nss,∀b∈nss,VL.hsh a=VL.hsh b->a=b)
  (h:∀h' tk es t,VL.tG h' s.heap.objs.size (!w.params.followText "set-order") (VL.ddV (vs.zip nss)) es t->(∀b o,s.heap.get? b=some o->h'.get? b=some o)->Q (.ref s.heap.objs.size) {s with heap:=h',toks:=tk}):
  wpAny (model prog w) A (call (.type "set") [.ref l]) Q E s:=by
 obtain⟨ol,hol,hcl⟩:=hty;have hlS:l<s.heap.objs.size:=zA1 hol;refine mH (T:=T) (Φ:=λ h'=>∃es t,VL.tG h' s.heap.objs.size (!w.params.followText "set-order") (VL.ddV (vs.zip nss)) es t) ⟨ol,hol,hcl⟩ hsls hslf hne hit (λ R hR=>?_) λ h' tk ⟨es,t,g1⟩ g5=>h h' tk es t g1 g5
 generalize (!w.params.followText "set-order")=led at hR ⊢;have hS:(s.heap.push (VL.bG #[] 0 (.fresh 0 0 led))).get? s.heap.objs.size=some (VL.bG #[] 0 (.fresh 0 0 led)):=zAY _ rfl;have hh3:A.in1.in1.in1.handled=none:=by simp[hh]
 have hneI:l≠(s.heap.push (VL.bG #[] 0 (.fresh 0 0 led))).objs.size:=by rw[zBe];exact zAc (zBt hlS)
 have hSf:s.heap.objs.size∉[(s.heap.push (VL.bG #[] 0 (.fresh 0 0 led))).objs.size,l]:=by
  rw[zBe];simp only[zAM,zCL,or_false,not_or];exact⟨zAc (zBf _),zCz hlS⟩
 have hvt:∀{us:List Value} {ms:hZ},VL.bD s.heap us ms->∀x,.ref x∈us->x<s.heap.objs.size:=by
  intro us ms z;induction z with
  |nil=>intro x hx;simp at hx
  |cons ho _ _ _ _ _ ih=>
   intro x hx;rcases zAM.mp hx with e|hx
   .cases e;exact zA1 ho
   .exact ih x hx
 refine VL.aD0 ((hW _ _ hneI hh3).toS) s.heap.objs.size hSf (by simp) (by simp;omega) h64 hin (λ x hx=>?_) led (vs.toArray.size-0) 0 _ #[] (.fresh 0 0 led) (by simp) (zAo _)
  (h0 _ λ b o e=>zAD _ e) (ht.mono λ x o e _=>zAD _ (zAD _ e)) ⟨⟨0,zAD _ hS⟩,VL.cT.fresh led,(λ e he=>by cases he),rfl,zAq _,zIp⟩ ?hR
 case hR=>
  intro s' es t hm hS';obtain⟨h',g',d',tk',os'⟩:=s';have eg:g'=s.gens:=hm.gens;have ed:d'=s.drawn:=hm.drawn;have eo:os'=s.os:=hm.os;subst eg;subst ed;subst eo;refine hR h' tk' ⟨es,t,hS'⟩ λ b o e=>hm.heap b o ?_ (zAD _ (zAD _ e))
  have hb:=zA1 e;simp only[zAM,zCL,or_false,not_or];rw[zBe];exact⟨zAc hb,zAc (zBt hb)⟩
 have:=hvt ht x hx
 simp only[zAM,zCL,or_false];rw[zBe];exact zAc (zBt this)
def aEA(hh:A.handled=none)(hu:A.units+8<cLine)(hl:s.heap.IsList l vs.toArray)(ht:VL.bD s.heap vs nss)(h64:(VL.ddV (vs.zip nss)).length<=76)(hin:∀a∈nss,∀b∈nss,VL.hsh a=VL.hsh b->a=b)
  (h:∀h' tk es t,VL.tG h' s.heap.objs.size (!w.params.followText "set-order") (VL.ddV (vs.zip nss)) es t->(∀b o,s.heap.get? b=some o->h'.get? b=some o)->Q (.ref s.heap.objs.size) {s with heap:=h',toks:=tk}):
  wpAny (model prog w) A (call (.type "set") [.ref l]) Q E s:=by
 obtain⟨ol,hol,hcl,nl,hdl⟩:=hl;exact xn hh hu (T:="list") ⟨ol,hol,hcl⟩ F.sub_list_set zHw (by decide) (λ zS yB yA Q₁ k q=>zEm (s:={s with heap:=zS}) (items:=vs.toArray) ⟨ol,k _ _ hol,hcl,nl,hdl⟩ q) (λ A' I ne e=>zHo e I l ne vs.toArray)
  (λ zS k=>⟨⟨_,zAY _ rfl,rfl,rfl⟩,Heap.IsList.push ⟨ol,k _ _ hol,hcl,nl,hdl⟩ _⟩) ht h64 hin h
def aBL(hh:A.handled=none)(hu:A.units+8<cLine)(hl:s.heap.IsTuple l vs.toArray)(ht:VL.bD s.heap vs nss)(h64:(VL.ddV (vs.zip nss)).length<=76)(hin:∀a∈nss,∀b∈nss,VL.hsh a=VL.hsh b->a=b)
  (h:∀h' tk es t,VL.tG h' s.heap.objs.size (!w.params.followText "set-order") (VL.ddV (vs.zip nss)) es t->(∀b o,s.heap.get? b=some o->h'.get? b=some o)->Q (.ref s.heap.objs.size) {s with heap:=h',toks:=tk}):
  wpAny (model prog w) A (call (.type "set") [.ref l]) Q E s:=by
 obtain⟨ol,hol,hcl,nl,hdl⟩:=hl;exact xn hh hu (T:="tuple") ⟨ol,hol,hcl⟩ zJP zHd (by decide) (λ zS yB yA Q₁ k q=>zE8 (s:={s with heap:=zS}) (items:=vs.toArray) ⟨ol,k _ _ hol,hcl,nl,hdl⟩ q) (λ A' I ne e=>zHS e I l ne vs.toArray)
  (λ zS k=>⟨⟨_,zAY _ rfl,rfl,rfl⟩,⟨ol,zAD _ (k _ _ hol),hcl,nl,hdl⟩⟩) ht h64 hin h
end
end PySem
namespace VL
open PySem PySem.Spec PyProof.Rows L2
theorem aAx:∀{l:List α} {i:Nat} (h:i<l.length),(l[i]::l.eraseIdx i).Perm l
 |a::l,0,_=>zAq _
 |a::l,i+1,h=>by
  have h':i<l.length:=by simpa using h
  have ih:=aAx (l:=l) (i:=i) h'
  show(l[i]::a::l.eraseIdx i).Perm (a::l)
  exact(zEC _ _ _).trans (ih.cons a)
theorem aCl(next:Nat->Nat):∀(f k:Nat) (left:List α) (out:Array α),left.length<=f->(pickOrder.go next f k left out).toList.Perm (out.toList++left)
 |0,k,left,out,h=>by
  have:left=[]:=zCO.mp (by omega)
  subst this;rw[zAx];exact zAq _
 |f+1,k,left,out,h=>by
  unfold pickOrder.go;cases left with
  |nil=>simp
  |cons a l=>
   have hlt:next k%(a::l).length<(a::l).length:=zDF _ (by simp)
   rw[zAC hlt];dsimp only;refine(aCl next f (k+1) _ _ (by rw[zHJ];simp only[hlt,if_true];simp at h ⊢;omega)).trans ?_;rw[zBS,zAd];exact zGO _ (aAx hlt)
def aDa(next:Nat->Nat)(xs:Array α):(pickOrder next xs).toList.Perm xs.toList:=by
 have:=aCl next xs.size 0 xs.toList #[] (by simp)
 unfold pickOrder;simpa using this
def pN(w:World)(d:Addr)(ep:Nat)(es:iX):iX:=if w.params.followText "set-order" then pickOrder (w.params.setOrder d ep) es else es
def mO(w:World)(d:Addr)(ep:Nat)(es:iX):(pN w d ep es).toList.Perm es.toList:=by
 unfold pN;split
 .exact aDa _ _
 .exact zAq _
def slotAt(w:World)(t:zC4):Nat->Nat
 |0=>0
 |i+1=>if w.params.followText "set-order" then 0 else t.place.getD i 0+1
def aCX(T:cT t n)(hf:w.params.followText "set-order"=false):∀i,i<=n->zAu t.place (slotAt w t i)=i
 |0,_=>by
  obtain⟨b1,b2,b3⟩:=qG T.ris 0;show zAu t.place 0=0;cases h:zAu t.place 0 with
  |zero=>rfl
  |succ k=>
   rw[h]at b2
   have:=b2 0 (by omega)
   omega
 |i+1,hi=>by
  unfold slotAt;rw[hf];simp only[zAZ,if_false];obtain⟨b1,b2,b3⟩:=qG T.ris (t.place.getD i 0+1);have hs:=T.siz;rcases zFh (zAu t.place (t.place.getD i 0+1)) (i+1)with z|z|z
  .have:=b3 i (by omega) (by omega)
   omega
  .exact z
  .have h1:=b2 (i+1) (by omega)
   have h2:=T.ris i (i+1) (by omega) (by omega);omega
section
variable{prog:zA7}{w:World}{A:zAt}{E:Value->zAF->Prop}{s:zAF}{d:Addr}{es:iX}{ep:Nat}{t:zC4}
def uT(ho:s.heap.get? d=some (bG es ep t))(T:cT t es.size)(hled:t.led= !w.params.followText "set-order")(hi:i<=es.size)
  (h:Q (((pN w d ep es)[i]?).map λ e=>(e.2,slotAt w t (i+1))) s):wpAny (model prog w) A (setNext d (slotAt w t i) i ep) Q E s:=by
 unfold setNext;refine zAB (zBk ho rfl T.fits ?_);dsimp only;unfold zJ0;refine zAB (zAB (zEJ (zAJ ?_)));show wpAny _ _ (if w.params.followText "set-order"=true then _ else _) _ _ _;unfold pN at h;cases hf:w.params.followText "set-order" with
 |true=>
  rw[hf]at h;simp only[if_true]at h ⊢;simp only[bne_self_eq_false,zAZ,if_false];unfold setWalk;refine zAB (zAB (zBk ho rfl T.fits ?_));dsimp only;unfold zJ0;refine zAB (zAB (zEJ (zAJ ?_)));show wpAny _ _ (if w.params.followText "set-order"=true then _ else _) _ _ _;rw[hf];simp only[if_true];refine zAB (zEJ (zAJ (zAJ ?_)));have e1:slotAt w t (i+1)=slotAt w t i:=by
   unfold slotAt;cases i with
   |zero=>simp[hf]
   |succ i=>simp[hf]
  rw[e1]at h;exact h
 |false=>
  rw[hf]at h hled;simp only[zAZ,if_false]at h ⊢;have hd:(!t.plain&&decide (es.size>1))=false:=by rw[T.pla];rfl
  show wpAny _ _ (if (!t.plain&&decide (es.size>1))=true then _ else _) _ _ _;rw[hd];simp only[zAZ,if_false];refine zAB ?_;show wpAny _ _ (if (!t.led&& !es.isEmpty)=true then _ else _) _ _ _;rw[hled];simp only[zES,zCg,zIm,zAZ,if_false];refine zAJ ?_;rw[aCX T hf i hi];have hslot:slotAt w t (i+1)=t.place.getD i 0+1:=by unfold slotAt;rw[hf];rfl
  rw[hslot]at h;by_cases hlt:i<es.size
  .have h1:es[i]? =some es[i]:=zAH hlt
   have hlt2:i<t.place.size:=by rw[T.siz];exact hlt
   have h2:t.place[i]? =some (t.place.getD i 0):=by
    rw[zAH hlt2];simp[zC0,hlt2]
   rw[h1,h2];rw[h1]at h;exact zAJ h
  .have h1:es[i]? =none:=zGg (by omega)
   rw[h1];rw[h1]at h;exact zAJ h
def bO:PySem.Slot "set_iterator" "__next__" "set_iterator.__next__":=
 .of (owner:="set_iterator") (n:="__next__") (by rw[typeLookup_type,zI8];kernel_rfl) (by decide+kernel) (by decide+kernel) (by decide+kernel) (.inl (by decide+kernel)) (by rw[zHT];kernel_rfl)
def jA:PySem.Slot "set_iterator" "__iter__" "set_iterator.__iter__":=
 .of (owner:="set_iterator") (n:="__iter__") (by rw[typeLookup_type,zI8];kernel_rfl) (by decide+kernel) (by decide+kernel) (by decide+kernel) (.inl (by decide+kernel)) (by rw[zHT];kernel_rfl)
def ie:entryFor table "set_iterator.__next__"=some zE9.«set_iterator.__next__»:=entryFor_of_fast (by kernel_rfl)
def oX:entryFor table "set_iterator.__iter__"=some zE9.«dict_keyiterator.__iter__»:=entryFor_alias (id':="dict_keyiterator.__iter__") (by kernel_rfl) rfl (by decide+kernel) (by kernel_rfl)
def tE:entryFor table "set.__iter__"=some zE9.«frozenset.__iter__»:=entryFor_alias (id':="frozenset.__iter__") (by kernel_rfl) rfl (by decide+kernel) (by kernel_rfl)
def jD(a:Value):argsOk "set_iterator.__next__" ⟨[a],[]⟩:=by unfold argsOk;kernel_rfl
def qH(a:Value):argsOk "set_iterator.__iter__" ⟨[a],[]⟩:=by unfold argsOk;kernel_rfl
end
section
variable{prog:zA7}{w:World}{A:zAt}{E:Value->zAF->Prop}{s:zAF}{d I:Addr}{es:iX}{ep:Nat}{t:zC4}{i':Nat}
abbrev aFm(d:Addr)(sl i n ep:Nat):Obj:={cls:=.type "set_iterator",data:=.fields #[.int sl 0,.int i 0,.ref d,.int n 0,.int ep 0]}
def aJC(h:Heap)(I d:Addr)(sl i n ep:Nat):Prop:=h.get? I=some (aFm d sl i n ep)
def aFk{h:Heap}{sl i n ep k:Nat}(e:h.get? I=some {cls:=.type "set_iterator",data:=.fields vs}):(h.update I (zJS (·.setIfInBounds k x))).get? I=some {cls:=.type "set_iterator",data:=.fields (vs.setIfInBounds k x)}:=by
 have:=zEo (zJS (·.setIfInBounds k x)) e (Obj.isFreed_of_fields (Obj.data_mapFields rfl _))
 rw[this];rfl
def aB5(hI:aJC s.heap I d (slotAt w t i') i' es.size ep)(ho:s.heap.get? d=some (bG es ep t))(T:cT t es.size)(hled:t.led= !w.params.followText "set-order"){v:Value}(hi:i'<es.size)(hv:((pN w d ep es)[i']?).map (·.2)=some v){Q:Option Value->zAF->Prop}
  (h:∀h',aJC h' I d (slotAt w t (i'+1)) (i'+1) es.size ep->zEO I s.heap h'->Q (some v) {s with heap:=h'}):wpAny (model prog w) A (zGA (.ref I)) Q E s:=by
 have hT:s.TypeIs (.ref I) "set_iterator":=⟨_,hI,rfl⟩;unfold zGA;refine zAB (zHt (zDd (name:=zFv "__next__") hT bO (zCa bO hT ie ?_ (jD _))));show wpAny _ _ (fieldsOf (.ref I)>>=_) _ _ s;refine zAB (wpAny_fieldsOf hI rfl ?_);dsimp only;refine zAB ?_;unfold setEntries;refine zAB (zBk ho rfl T.fits (zAJ ?_));simp only[bne_self_eq_false,zAZ,if_false];refine zAB ?_;simp only[zFg];refine uT ho T hled (zCQ hi) ?_;cases hq:(pN w d ep es)[i']? with
 |none=>rw[hq]at hv;cases hv
 |some e=>
  rw[hq]at hv;cases hv;dsimp only[zCr];refine zAB (zHV hI rfl (by simp) ?_);have e1:=aFk (h:=s.heap) (I:=I) (k:=0) (x:=rawInt (slotAt w t (i'+1))) (sl:=0) (i:=0) (n:=0) (ep:=0) hI;refine zAB (zHV e1 rfl (by simp) ?_);have e2:=aFk (k:=1) (x:=rawInt (i'+1)) (sl:=0) (i:=0) (n:=0) (ep:=0) e1;exact zAJ ⟨_,rfl,zAJ (h _ e2 ((zC6 ..).trans (zC6 ..)))⟩
def aDZ(hh:A.handled=none)(hI:aJC s.heap I d (slotAt w t es.size) es.size es.size ep)(ho:s.heap.get? d=some (bG es ep t))(T:cT t es.size)(hled:t.led= !w.params.followText "set-order")
  (h:∀h',Heap.ExtBut I s.heap h'->Q none {s with heap:=h'}):wpAny (model prog w) A (zGA (.ref I)) Q E s:=by
 have hT:s.TypeIs (.ref I) "set_iterator":=⟨_,hI,rfl⟩;unfold zGA;refine zAB (zHt (zDd (name:=zFv "__next__") hT bO (zCa bO hT ie ?_ (jD _))));show wpAny _ _ (fieldsOf (.ref I)>>=_) _ _ s;refine zAB (wpAny_fieldsOf hI rfl ?_);dsimp only;refine zAB ?_;unfold setEntries;refine zAB (zBk ho rfl T.fits (zAJ ?_));simp only[bne_self_eq_false,zAZ,if_false];refine zAB ?_;simp only[zFg];refine uT ho T hled (zAW _) ?_;have hq:(pN w d ep es)[es.size]? =none:=zGg (by
  have:=(mO w d ep es).length_eq
  rw[zAL,zAL]at this;lia)
 rw[hq];dsimp only[zID];refine zAB (zHV hI rfl (by simp) ?_);show wpAny _ _ (newExc (.type "StopIteration") []>>=_) _ _ _;refine zAB ?_;simp only[newExc,newTuple];refine zAB (zBw (zAB (m:=firstArgMember _ _) (zIy (a:=zCC) (by first|rfl|(simp only[firstArgMember];rfl)) (zBw ?_ (by size_fits)))) (by size_fits));simp only[raiseNew];refine zAB (wpAny_handled ?_);rw[show A.in1.handled=none from hh];refine zAB (zAJ (wpAny_throw ?_));refine zAB (wpAny_isInstance (T:="StopIteration") (b:=true) ⟨_,zAY _ rfl,rfl⟩ isSubtype_stop ?_);exact zAJ (h _ (((zC6 ..).extBut.push _).push _))
def aDT(hh:A.handled=none)(I d:Addr)(hne:d≠I)(es:iX)(ep:Nat)(t:zC4)(T:cT t es.size)(hled:t.led= !w.params.followText "set-order"):
  Walks prog w A I [I,d] [I] es.size (λ i v=>((pN w d ep es)[i]?).map (·.2)=some v) (λ i h=>aJC h I d (slotAt w t i) i es.size ep/\h.get? d=some (bG es ep t)) where
 sub:=λ b hb=>by simp at hb;simp[hb]
 frame:=λ _ _ _ st hk=>⟨hk I (by simp) _ st.1,hk d (by simp) _ st.2⟩
 item:=λ i s Q E hi st hQ=>by
  have hl:i<(pN w d ep es).size:=by
   have:=(mO w d ep es).length_eq
   rw[zAL,zAL]at this;lia
  have hv:((pN w d ep es)[i]?).map (·.2)=some (pN w d ep es)[i].2:=by rw[zAH hl];rfl
  refine aB5 st.1 st.2 T hled hi hv λ h' hI' hs'=>?_
  exact hQ _ h' s.toks hv ⟨hI',by rw[hs'.2 d hne];exact st.2⟩ λ b o hb e=>hs'.extBut b o (λ h=>hb (by simp[h])) e
 done:=λ s Q E st hQ=>aDZ hh st.1 st.2 T hled λ h' he'=>hQ h' s.toks λ b o hb e=>he' b o (λ h=>hb (by simp[h])) e
 self:=λ i s Q E st hQ=>by
  have hT:s.TypeIs (.ref I) "set_iterator":=⟨_,st.1,rfl⟩;refine zJ3 hT jA (zCa jA hT oX ?_ (qH _));show wpAny _ _ (ret (.ref I)) _ _ s;exact zAJ ⟨_,rfl,"set_iterator",_,hT,bO.lookup,hQ⟩
def aBl(ho:s.heap.get? d=some (bG es ep t))(T:cT t es.size)(h:Q (.ref s.heap.objs.size) {s with heap:=s.heap.push (aFm d 0 0 es.size ep)}):wpAny (model prog w) A (zHa (.ref d)) Q E s:=by
 have hT:s.TypeIs (.ref d) "set":=⟨_,ho,rfl⟩;refine zJ3 hT zGa (zCa zGa hT tE ?_ (PySem.F.args_set_iter_1 _));unfold zE9.«frozenset.__iter__» zIS slotArgs;simp only[List.isEmpty_nil,zCg,zAZ,↓reduceIte,bind_assoc,zCH,bne_self_eq_false];unfold zIP zIR;refine zAB (zAJ (zAB (zAJ (zAB (zAB (wpAny_setEntries_of ho rfl T.fits (zAJ ?_)))))));unfold setDrawn;refine zAB (zAB (zBk ho rfl T.fits ?_));dsimp only;unfold zJ0;refine zAB (zAB (zEJ (zAJ (zAJ ?_))));have hd:(!w.params.followText "set-order"&&(!t.plain&&decide (es.size>1)))=false:=by rw[T.pla];simp
 show wpAny _ _ (if (!w.params.followText "set-order"&&(!t.plain&&decide (es.size>1)))=true then _ else _) _ _ _;rw[hd];simp only[zAZ,if_false];refine zAB (zAJ (zAB (wpAny_setEpoch_of ho rfl T.fits ?_)));simp only[newFields];refine zAB (zBw (zAJ ⟨_,rfl,"set_iterator",_,⟨_,zAY _ rfl,rfl⟩,bO.lookup,?_⟩));exact h
def aFy(hT:s.TypeIs (.ref r) "set")(h:Q false s):wpAny (model prog w) A (zFL (.ref r)) Q E s:=by
 unfold zFL;refine zAB (zGv hT PySem.F.slot_set_len.lookup ?_);generalize hid:("set.__len__":String)=id0;wp_delta;rw[show splitId id0=some ("set","__len__")from by subst hid;decide+kernel];subst hid;refine zAB (wpAny_isInstance (T:="set") (b:=true) hT (by rw[zHT];kernel_rfl) ?_);refine wpAny_ite_split (λ hab=>absurd hab (by decide)) λ _=>wpAny_ite_split (λ _=>?_) λ hab=>absurd (by decide+kernel) hab
 exact zAB (zFY hT (zAJ h))
def aHO(T:cT t es.size)(hled:t.led= !w.params.followText "set-order"):zIF prog w "set" d d es.size (λ i v=>((pN w d ep es)[i]?).map (·.2)=some v) (λ h=>h.get? d=some (bG es ep t)) where
 type:=λ _ hm=>⟨_,hm,rfl⟩
 there:=λ _ hm=>⟨zA1 hm,zA1 hm⟩
 keep:=λ _ _ hm hk=>hk d (.inl rfl) _ hm
 notList:=by decide
 notTuple:=by decide
 hint:=λ _ _ _ _ hm hq=>aFy ⟨_,hm,rfl⟩ hq
 iter:=λ A s hh hm=>⟨aFm d 0 0 es.size ep,_,(λ _ _ hq=>aBl hm T hq),aDT hh _ d (zAc (zA1 hm)) es ep t T hled,⟨zAY _ rfl,zAD _ hm⟩⟩
end
section
variable{prog:zA7}{w:World}{A:zAt}{E:Value->zAF->Prop}{s:zAF}{T:String}{r d:Addr}{n:Nat}{P:Nat->Value->Prop}{OK:Heap->Prop}
def aBI(K:zIF prog w T r d n P OK)(hh:A.handled=none)(hok:OK s.heap)(hn:n<=zA0)
  (h:∀h' tk vs,s.heap.objs.size<h'.objs.size->(∀b o,s.heap.get? b=some o->h'.get? b=some o)->vs.length=n->(∀(j:Nat) v,vs[j]? =some v->P j v)->Q vs {s with heap:=h',toks:=tk}):wpAny (model prog w) A (collect (.ref r)) Q E s:=by
 have hlt:=K.there _ hok;unfold collect;refine zAB (wpAny_runValue (zDI PySem.F.entry_proto_collect ?_));rw[zDA PySem.F.plain_proto_collect _];show wpAny _ A.in1 (zFl []>>=λ l=>again (.builtin "list.__iadd__" ⟨[l,.ref r],[]⟩)) _ _ s;refine zAB (zBw (zAJ ⟨zHq zGP _,zDI PySem.F.entry_list_iadd ?_⟩));rw[zDA zGP _];show wpAny _ A.in1 (Builtin.List.listExtendWith (.ref s.heap.objs.size) (.ref r) (.ref s.heap.objs.size)) _ _ _;have fin:∀h' tk acc' c',(∀b o,b≠s.heap.objs.size->(s.heap.push (zBg "list" #[] 0)).get? b=some o->h'.get? b=some o)->h'.get? s.heap.objs.size=some {cls:=.type "list",dict:=none,data:=.seq acc' c',slots:=#[]}->ItemsOf P acc' n->
   wpAny (model prog w) A (do match (zB9 s.heap.objs.size)with
    | .ref a=>match (<-load a).data with
     | .seq xs _=>pure xs.toList
     |_=>unsupported "internal:collect"
    |_=>unsupported "internal:collect") Q E {s with heap:=h',toks:=tk}:=λ h' tk acc' c' hk hS' aE=>
  zAB (wpAny_load hS' (zAJ (h h' tk acc'.toList (zA1 hS') (λ b o e=>hk b o (zAc (zA1 e)) (zAD _ e)) (by rw[zAL];exact aE.1) λ j v e=>aE.2 j v (by rw[<-zAR];exact e))))
 refine zB8 (PySem.W.kdl_extend (A:=A) (s:={s with heap:=s.heap.push (zBg "list" #[] 0)}) (R:=λ r s'=>∃h' tk acc' c',r= .ok (.ret (.ref s.heap.objs.size))/\s'={s with heap:=h',toks:=tk}/\(∀b o,b≠s.heap.objs.size->(s.heap.push (zBg "list" #[] 0)).get? b=some o->h'.get? b=some o)/\h'.get? s.heap.objs.size=some {cls:=.type "list",dict:=none,data:=.seq acc' c',slots:=#[]}/\ItemsOf P acc' n)
  K hh (K.keep _ _ hok λ b _ o e=>zAD _ e) s.heap.objs.size (zCz hlt.1) (zCz hlt.2) (.ref s.heap.objs.size) 0 (zAY _ rfl) (λ h' tk acc' c' hk hS' aE=>⟨h',tk,acc',c',rfl,rfl,hk,hS',aE⟩) hn) (λ f s' hf=>?_) λ e s' he=>?_
 .cases f with
  |done f=>
   obtain⟨h',tk,acc',c',q1,q2,q3,q4,q5⟩:=hf;cases q1;subst q2;exact fin h' tk acc' c' q3 q4 q5
  |again c=>
   refine⟨hf.1,zE6 hf.2 λ r s' hr=>?_⟩;obtain⟨h',tk,acc',c',q1,q2,q3,q4,q5⟩:=hr;subst q1 q2;exact fin h' tk acc' c' q3 q4 q5
 .obtain⟨h',tk,acc',c',q1,_⟩:=he
  cases q1
end
def nG(h:Heap)(p:Value×List Int):Prop:=∃x o xs k,p.1= .ref x/\h.get? x=some o/\o.cls= .type "tuple"/\o.data= .seq xs k/\zB2 xs.toList p.2/\p.2≠[]
theorem bD.all:∀{vs:List Value} {nss:hZ},bD h vs nss->∀p∈vs.zip nss,nG h p
 |_,_,.nil,p,hp=>by simp at hp
 |_,_,.cons ho hc hd hi hne r,p,hp=>by
  rw[zBZ]at hp;rcases zAM.mp hp with e|hp
  .subst e;exact⟨_,_,_,_,rfl,ho,hc,hd,hi,hne⟩
  .exact r.all p hp
theorem yH:∀{zs:kQ},(∀p∈zs,nG h p)->bD h (zs.map (·.1)) (zs.map (·.2))
 |[],_=>.nil
 |p::zs,hz=>by
  obtain⟨x,o,xs,k,e1,e2,e3,e4,e5,e6⟩:=hz p zAT;rw[zAG,zAG,e1];exact .cons e2 e3 e4 e5 e6 (yH λ q hq=>hz q (zAO _ hq))
def gh(h:l.Perm m'):∀{m:List α},m'=m.map f->∃m2:List α,m2.Perm m/\l=m2.map f:=by
 induction h with
 |nil=>intro m e;exact⟨m,zAq _,e⟩
 |cons x p ih=>
  intro m e;cases m with
  |nil=>cases e
  |cons a m=>
   rw[zAG]at e;injection e with e1 e2
   obtain⟨m2,q1,q2⟩:=ih e2;exact⟨a::m2,q1.cons a,by rw[zAG,q2,e1]⟩
 |swap x y l=>
  intro m e;cases m with
  |nil=>cases e
  |cons a m=>
   cases m with
   |nil=>rw[zAG]at e;injection e with _ e2;cases e2
   |cons b m=>
    rw[zAG,zAG]at e;injection e with e1 e2
    injection e2 with e2 e3
    exact⟨b::a::m,zEC _ _ _,by rw[zAG,zAG,e1,e2,e3]⟩
 |trans p q ih1 ih2=>
  intro m e;obtain⟨m2,a1,a2⟩:=ih2 e;obtain⟨m3,b1,b2⟩:=ih1 a2;exact⟨m3,b1.trans a1,b2⟩
def ik(l:hZ):Prop:=l.Pairwise λ a b=>HT.lexLt b a=false
section
variable{prog:zA7}{w:World}{A:zAt}{E:Value->zAF->Prop}{s:zAF}
def zy{Q:Value->zAF->Prop}(hz:∀p∈zs,nG s.heap p)(h64:zs.length<64)
  (h:∀(zs':kQ) h' e,zs'.Perm zs->ik (zs'.map (·.2))->(∀b o,s.heap.get? b=some o->h'.get? b=some o)->h'.get? s.heap.objs.size=some (zBg "list" (zs'.map (·.1)).toArray e)->Q (.ref s.heap.objs.size) {s with heap:=h'}):
  wpAny (model prog w) A (zFl (zs.map (·.1))>>=λ l=>zDa [l] (call (.builtin "list.sort") [l])>>=λ _=>ret l) (λ fin s'=>∃r,fin= .done (.ret r)/\Q r s') E s:=by
 have oQ:(zs.map (·.1)).length=zs.length:=zAE _;refine zAB (zGD ?_ (by rw[zCP];omega));have hoL:(s.heap.push (zBg "list" (zs.map (·.1)).toArray 0)).get? s.heap.objs.size=some (zBg "list" (zs.map (·.1)).toArray 0):=zAY _ rfl;refine zAB (zCK (zCa slot_list_sort ⟨_,hoL,rfl⟩ entry_list_sort ?_ (args_list_sort _)));refine aCB (s:={s with heap:=s.heap.push (zBg "list" (zs.map (·.1)).toArray 0)}) hoL (yH λ p hp=>?_) (by omega) λ p a1 a2=>⟨_,rfl,?_⟩
 .obtain⟨x,o,xs,k,e1,e2,e3⟩:=hz p hp
  exact⟨x,o,xs,k,e1,zAD _ e2,e3⟩
 rw[oQ]at a1 a2;have cS:p.toList.map (λ i=>(zs.map (·.1)).getD i zCC)=(p.toList.map λ i=>zs.getD i (zCC,[])).map (·.1):=by
  rw[zAk];refine zCj λ i hi=>?_
  show(zs.map (·.1)).getD i zCC=(zs.getD i (zCC,[])).1
  rw[zBN,zBN,zAQ];cases zs[i]?<;>rfl
 have b9:(p.toList.map λ i=>zs.getD i (zCC,[])).Perm zs:=by
  have h1:p.toList.Perm (zAr zs.length):=by
   have:=Array.perm_iff_toList_perm.mp a1
   simpa using this
  refine(h1.map _).trans ?_
  have:(zAr zs.length).map (λ i=>zs.getD i (zCC,[]))=zs:=by
   refine zFq (by simp) λ i h1 h2=>?_
   rw[zDM,zHh,zBN,zAC h2];rfl
  rw[this]
 have hne:∀b o,s.heap.get? b=some o->b≠s.heap.objs.size:=λ b o e=>zAc (zA1 e)
 obtain⟨e1,he1⟩:∃e1,((s.heap.push (zBg "list" (zs.map (·.1)).toArray 0)).update s.heap.objs.size (zBn λ _=>(#[]:Array Value))).get? s.heap.objs.size=some (zBg "list" #[] e1):=⟨_,zD9 hoL λ _=>#[]⟩
 have g1:=zAD (zBg "list" #[] 0) (zAD (zBg "tuple" (zs.map (·.1)).toArray 0) he1);have g2:=zD9 g1 (λ _=>mq (zs.map (·.1)) p);generalize (if ((mq (zs.map (·.1)) p).size==(#[]:Array Value).size)=true then e1 else e1+1)=c1 at g2;have hend:(zEj (s.heap.push (zBg "list" (zs.map (·.1)).toArray 0)) s.heap.objs.size (zs.map (·.1)) (mq (zs.map (·.1)) p)).get? s.heap.objs.size=some (zBg "list" (mq (zs.map (·.1)) p) c1):=g2;have aI:mq (zs.map (·.1)) p=((p.toList.map λ i=>zs.getD i (zCC,[])).map (·.1)).toArray:=by unfold mq;rw[cS]
 have hris:ik ((p.toList.map λ i=>zs.getD i (zCC,[])).map (·.2)):=by
  unfold ik;rw[zAk];refine zBI.mpr λ i j hi hj hij=>?_
  rw[zAE,zAL,a1.sz]at hi hj;have hk:∀k (hk:k<zs.length),Kp (O:=wA) (λ i=>(zs.map (·.2)).getD i []) p k=(zs.getD (p.getD k 0) (zCC,[])).2:=λ k hk=>by
   show(zs.map (·.2)).getD (p.getD k 0) []=_
   rw[zBN,zBN,zAQ];cases zs[p.getD k 0]?<;>rfl
  have hg:∀k (hk:k<p.toList.length),p.toList[k]=p.getD k 0:=λ k hk=>by
   have:k<p.size:=by simpa using hk
   simp[zC0,this]
  have this:HT.lexLt (Kp (O:=wA) (λ i=>(zs.map (·.2)).getD i []) p j) (Kp (O:=wA) (λ i=>(zs.map (·.2)).getD i []) p i)=false:=a2 i j (zCQ hij) hj;rw[hk i hi,hk j hj]at this;rw[zDM,zDM,hg,hg];exact this
 have e8:∀b o,s.heap.get? b=some o->(zEj (s.heap.push (zBg "list" (zs.map (·.1)).toArray 0)) s.heap.objs.size (zs.map (·.1)) (mq (zs.map (·.1)) p)).get? b=some o:=λ b o e=>by
  unfold zEj;rw[zCU _ _ _ _ (hne b o e)];refine zAD _ (zAD _ ?_);rw[zCU _ _ _ _ (hne b o e)];exact zAD _ e
 rw[aI]at hend e8;have hq:=h (p.toList.map λ i=>zs.getD i (zCC,[])) _ c1 b9 hris e8 hend;rw[<-aI]at hq;exact zAJ ⟨_,rfl,hq⟩
def pG(h:wpAny (model prog w) A.in1 (collect v) (λ vs s'=>wpAny (model prog w) A.in1 (zFl vs>>=λ l=>zDa [l] (call (.builtin "list.sort") [l])>>=λ _=>ret l) (λ fin s'=>∃r,fin= .done (.ret r)/\Q r s') E s') E s):
  wpAny (model prog w) A (call (.builtin "sorted") [v]) Q E s:=by
 refine Calls.call_function_entry kind_sorted plain_sorted entry_sorted (args_sorted1 _) ?_;unfold zE9.«sorted»;refine zAB (m:=checkCount "sorted" 1 1 _) (zAJ (zAB ?_));exact h
end
inductive bN(K:zAA)(H:Hp):List V->List (List Int)->Prop where
 |nil:bN K H [] []
 |cons {a:Addr} {ns:List Int} {vs:List V} {nss:hZ} (h:SqT K H a (ns.map V.int)) (hne:ns≠[]) (r:bN K H vs nss):bN K H (.ref a::vs) (ns::nss)
def gD:V->Value
 | .ref a=>.ref a
 |_=>.none
def bN.vals{K:zAA}:∀{vs:List V} {nss:hZ} {us:List Value},bN K H vs nss->Vals vs us->us=vs.map gD:=by
 intro vs nss us t v;induction v generalizing nss with
 |nil=>rfl
 |cons q s ih=>
  cases t with
  |cons _ _ r=>
   cases q;rw[zAG,ih r];rfl
theorem bN.len{K:zAA}:∀{vs:List V} {nss:hZ},bN K H vs nss->vs.length=nss.length
 |_,_,.nil=>rfl
 |_,_,.cons _ _ r=>by rw[zA6,zA6,r.len]
theorem bN.refs{K:zAA}:∀{vs:List V} {nss:hZ},bN K H vs nss->∀v∈vs,RelV v (gD v)
 |_,_,.nil,v,hv=>by simp at hv
 |_,_,.cons _ _ r,v,hv=>by
  rcases zAM.mp hv with e|hv
  .subst e;exact rfl
  .exact r.refs v hv
theorem bN.up{K:zAA}(s:aQ H H'):∀{vs:List V} {nss:hZ},bN K H vs nss->bN K H' vs nss
 |_,_,.nil=>.nil
 |_,_,.cons h hne r=>.cons (s.sqt h) hne (r.up s)
theorem bN.at(I:Inv X kK Z H s):∀{vs:List V} {nss:hZ},bN X.K H vs nss->bD s.heap (vs.map gD) nss
 |_,_,.nil=>.nil
 |_,_,.cons h hne r=>by
  obtain⟨its,rv,⟨o,ho,hc,n,hd⟩,_⟩:=I.tuple h;exact .cons ho hc hd (by simpa using intsAre_of rv) hne (r.at I)
theorem qL:∀{vs:List V},(∀v∈vs,RelV v (gD v))->Vals vs (vs.map gD)
 |[],_=>.nil
 |v::vs,h=>.cons (h v zAT) (qL λ u hu=>h u (zAO _ hu))
def setφ(w:World)(a:Addr)(zs:kQ):Heap->Prop:=λ h=>∃es t,tG h a (!w.params.followText "set-order") zs es t
abbrev aD7(zs:List (V×List Int)):kQ:=zs.map λ q=>(gD q.1,q.2)
def aAR(vs:List V)(nss:hZ):(vs.map gD).zip nss=aD7 (vs.zip nss):=by rw[zFd];rfl
def aIg{w:World}{H:Hp}{h:Heap}{a:Addr}{zs:kQ}(S:tG h a (!w.params.followText "set-order") zs es t):bu prog w H h a (.ext (setφ w a zs)):=
 ⟨⟨es,t,S⟩,(let⟨_,e⟩:=S.at_;⟨_,e⟩),λ h1 h2 ⟨es,t,S⟩ k=>⟨es,t,{S with at_:=S.at_.keep k}⟩⟩
section
variable{X:Cx}
def aEx(K:zAA)(w:World):List V->Hp->VK->Prop:=λ xs H Q=>∃p vs nss,xs=[.ref p]/\(SqL K H p vs\/SqT K H p vs)/\bN K H vs nss/\(ddV (vs.zip nss)).length<=76/\(∀a∈nss,∀b∈nss,hsh a=hsh b->a=b)/\∀a H',aQ H H'->H' a=some (.ext (setφ w a (aD7 (ddV (vs.zip nss)))))->H a=none->Q (.ref a) H'
def aCW(hc:X.calm=true)(hu:X.A.units+64<cLine):cI X (.type "set") (aEx X.K X.w):=by
 intro kK s Z H xs us Q I r h;obtain⟨p,vs,nss,rfl,hp,ht,h64,hin,q⟩:=h;obtain⟨u,rfl,ru⟩:=vals1 r;cases ru;have ez:ddV ((vs.map gD).zip nss)=aD7 (ddV (vs.zip nss)):=by rw[aAR];exact aIj gD _
 have h64':(ddV ((vs.map gD).zip nss)).length<=76:=by rw[ez,zAE];exact h64
 have hfr:H s.heap.objs.size=none:=I.hok.fresh (zAW _);have fin:∀h' tk es t,tG h' s.heap.objs.size (!X.w.params.followText "set-order") (ddV ((vs.map gD).zip nss)) es t->(∀b o,s.heap.get? b=some o->h'.get? b=some o)->EP X kK Z Q (.ref s.heap.objs.size) {s with heap:=h',toks:=tk}:=λ h' tk es t g1 g5=>by
  rw[ez]at g1;exact⟨.ref s.heap.objs.size,upd H s.heap.objs.size (.ext (setφ X.w s.heap.objs.size (aD7 (ddV (vs.zip nss))))),I.laid (t':=tk) g5 (zAW _) (aIg g1),rfl,q _ _ (ao hfr _) aa hfr⟩
 rcases hp with hp|hp
 .obtain⟨its,rv,pl,hz⟩:=I.list hp
  have e:=ht.vals rv;subst e;exact PySem.aEA (I.ok.hd hc) (by lia) pl.isList (ht.at I) h64' hin fin
 .obtain⟨its,rv,pl,hz⟩:=I.tuple hp
  have e:=ht.vals rv;subst e;exact PySem.aBL (I.ok.hd hc) (by lia) pl (ht.at I) h64' hin fin
def yE(H:Hp)(vs:List V)(nss:hZ)(Q:VK):Prop:=∀zs:List (V×List Int),zs.Perm (vs.zip nss)->ik (zs.map (·.2))->New H (.lst (zs.map (·.1))) Q
def aB2{kK:hV}(I:Inv X kK Z H s)(ht:bN X.K H vs nss)(h64:vs.length<64)(q:yE H vs nss Q)
  (hs1:∃h1 tk,s1={s with heap:=h1,toks:=tk}/\s.heap.objs.size<=h1.objs.size/\∀b o,s.heap.get? b=some o->h1.get? b=some o){zs:kQ}(hz:zs.Perm ((vs.map gD).zip nss))(hus:us=zs.map (·.1)):
  wpAny (model X.prog X.w) X.A.in1 (zFl us>>=λ l=>zDa [l] (call (.builtin "list.sort") [l])>>=λ _=>ret l) (λ fin s'=>∃r,fin= .done (.ret r)/\EP X kK Z Q r s') X.xe s1:=by
 obtain⟨h1,tk,rfl,hsz,keep⟩:=hs1;subst hus;have qV:∀p∈zs,nG h1 p:=λ p hp=>by
  obtain⟨x,o,xs,k,e1,e2,e3⟩:=(ht.at I).all p (hz.mem_iff.mp hp);exact⟨x,o,xs,k,e1,keep _ _ e2,e3⟩
 have oQ:zs.length<64:=by
  rw[hz.length_eq,zEF,zAE,<-ht.len,zEV];exact h64
 refine zy (s:={s with heap:=h1,toks:=tk}) qV oQ λ zs' h' e a1 a2 a3 a4=>?_
 have cS:(vs.map gD).zip nss=(vs.zip nss).map λ p=>(gD p.1,p.2):=by rw[zFd];rfl
 obtain⟨ws,w1,w2⟩:=gh (f:=λ p:V×List Int=>(gD p.1,p.2)) (a1.trans hz) cS;have hfr:H h1.objs.size=none:=I.hok.fresh hsz;have aS:∀v∈ws.map (·.1),RelV v (gD v):=λ v hv=>by
  obtain⟨p,hp,rfl⟩:=zAl.mp hv;exact ht.refs p.1 (zCx (w1.mem_iff.mp hp)).1
 have hws:zs'.map (·.1)=(ws.map (·.1)).map gD:=by rw[w2,zAk,zAk];rfl
 have hwl:(ws.map (·.1)).length<=zA0:=by
  rw[zAE,w1.length_eq,zEF,<-ht.len,zEV,zCP];lia
 refine⟨.ref h1.objs.size,upd H h1.objs.size (.lst (ws.map (·.1))),I.laid (t':=tk) (λ b o e=>a3 b o (keep b o e)) hsz ⟨hwl,(ws.map (·.1)).map gD,e,qL aS,?_⟩,rfl,(q ws w1 ?_).at hfr⟩
 .rw[<-hws];exact a4
 .have:ws.map (·.2)=zs'.map (·.2):=by rw[w2,zAk];rfl
  rw[this];exact a2
def aBj(K:zAA):List V->Hp->VK->Prop:=λ xs H Q=>∃p vs nss,xs=[.ref p]/\SqL K H p vs/\bN K H vs nss/\vs.length<64/\yE H vs nss Q
def wH:cI X (.builtin "sorted") (aBj X.K):=by
 intro kK s Z H xs us Q I r h;obtain⟨p,vs,nss,rfl,hp,ht,h64,q⟩:=h;obtain⟨u,rfl,ru⟩:=vals1 r;cases ru;obtain⟨its,rv,pl,hz⟩:=I.list hp;have e:=ht.vals rv;subst e;have hl2:(vs.map gD).length=nss.length:=by rw[zAE];exact ht.len
 refine pG (collect_list pl.isList ?_ (by rw[zAE];exact hz));refine aB2 I ht h64 q ⟨_,_,rfl,?_,λ b o e=>?_⟩ (zAq _) ?_
 .rw[Heap.size_update,size_push']
  exact zFR _
 .rw[zCU _ _ _ _ (zAc (zA1 e))]
  exact zAD _ e
 .exact(zIX (by lia)).symm
def aB1{kK:hV}{P:Value->zAF->Prop}(hc:X.calm=true)(I:Inv X kK Z H s){zs:kQ}(ha:H a=some (.ext (setφ X.w a zs)))(h64:zs.length<4000)
  (h:∀s1 (zs':kQ),(∃h1 tk,s1={s with heap:=h1,toks:=tk}/\s.heap.objs.size<=h1.objs.size/\∀b o,s.heap.get? b=some o->h1.get? b=some o)->zs'.Perm zs->wpAny (model X.prog X.w) X.A.in1 (zFl (zs'.map (·.1))>>=λ l=>zDa [l] (call (.builtin "list.sort") [l])>>=λ _=>ret l) (λ fin s'=>∃r,fin= .done (.ret r)/\P r s') X.xe s1):
  wpAny (model X.prog X.w) X.A (call (.builtin "sorted") [.ref a]) P X.xe s:=by
 obtain⟨⟨es,t,S⟩,_,_⟩:=I.hok a _ ha;obtain⟨⟨ep,e1⟩,e2,_,e3,e4,_⟩:=S;have hsz:es.size=zs.length:=by rw[<-zAL,e4.length_eq,zAE]
 have hh:X.A.in1.handled=none:=I.ok.hd hc;refine pG (aBI (aHO (ep:=ep) e2 e3) hh e1 (by rw[hsz,zCP];lia) λ h1 tk vs1 k0 k1 k2 k3=>?_);obtain⟨zs',z1,z2⟩:=gh (f:=ent) ((mO X.w a ep es).trans e4) rfl;have hvs:vs1=zs'.map (·.1):=by
  have e5:(pN X.w a ep es).toList.map (·.2)=zs'.map (·.1):=by rw[z2,zAk];rfl
  rw[<-e5];have oQ:(pN X.w a ep es).toList.length=es.size:=by rw[(mO X.w a ep es).length_eq,zAL]
  refine zFq (by rw[k2,zAE,oQ]) λ i g1 g2=>?_
  have:=k3 i _ (zAC g1)
  rw[<-zAR,<-zAQ,zAC g2]at this;exact(zAh this).symm
 subst hvs;exact h _ zs' ⟨h1,tk,rfl,zCQ k0,k1⟩ z1
theorem aEO:∀zs:List (α×β),(zs.map (·.1)).zip (zs.map (·.2))=zs
 |[]=>rfl
 |p::zs=>by rw[zAG,zAG,zBZ,aEO zs]
end
def aDp(a:List Int):hZ->List (List Int)
 |[]=>[a]
 |b::l=>if HT.lexLt b a then b::aDp a l else a::b::l
def rE:hZ->List (List Int)
 |[]=>[]
 |a::l=>aDp a (rE l)
theorem qj(a:List Int):∀l,(aDp a l).Perm (a::l)
 |[]=>zAq _
 |b::l=>by
  unfold aDp;split
  .exact((qj a l).cons b).trans (zEC _ _ _)
  .exact zAq _
theorem oG:∀l,(rE l).Perm l
 |[]=>zAq _
 |a::l=>(qj a _).trans ((oG l).cons a)
def aIL(h:HT.lexLt a b=true):HT.lexLt b a=false:=by
 cases e:HT.lexLt b a with
 |false=>rfl
 |true=>have:=pR a b a h e;rw[zE]at this;cases this
def aKw(h1:HT.lexLt b a=false)(h2:HT.lexLt c b=false):HT.lexLt c a=false:=by
 cases e:HT.lexLt c a with
 |false=>rfl
 |true=>
  rcases aF8 c b a e with z|z
  .rw[h2]at z;cases z
  .rw[h1]at z;cases z
theorem vM(a:List Int):∀l,ik l->ik (aDp a l)
 |[],_=>zAb.mpr ⟨λ _ h=>by simp at h,.nil⟩
 |b::l,h=>by
  obtain⟨h1,h2⟩:=zAb.mp h;unfold aDp;cases e:HT.lexLt b a with
  |true=>
   rw[if_pos rfl];refine zAb.mpr ⟨λ x hx=>?_,vM a l h2⟩;rcases zAM.mp ((qj a l).mem_iff.mp hx)with q|q
   .subst q;exact aIL e
   .exact h1 x q
  |false=>
   rw[if_neg (by simp)];refine zAb.mpr ⟨λ x hx=>?_,h⟩;rcases zAM.mp hx with q|q
   .subst q;exact e
   .exact aKw e (h1 x q)
theorem lL:∀l,ik (rE l)
 |[]=>.nil
 |a::l=>vM a _ (lL l)
theorem wR:∀{a b:hZ},a.Perm b->ik a->ik b->a=b
 |[],b,p,_,_=>p.nil_eq
 |x::a,b,p,h1,h2=>by
  cases b with
  |nil=>exact absurd p.length_eq (by simp)
  |cons y b=>
   have hxy:x=y:=by
    obtain⟨q1,_⟩:=zAb.mp h1;obtain⟨q2,_⟩:=zAb.mp h2;have m1:x∈y::b:=p.mem_iff.mp zAT;have m2:y∈x::a:=p.mem_iff.mpr zAT;rcases zAM.mp m1 with e|m1
    .exact e
    .rcases zAM.mp m2 with e|m2
     .exact e.symm
     .exact ux _ _ (q2 x m1) (q1 y m2)
   subst hxy;rw[wR (List.Perm.cons_inv p) (zAb.mp h1).2 (zAb.mp h2).2]
abbrev tupI(ns:List Int):D:=.tup (ns.map .int)
def lH:List D->Option hZ
 |[]=>some []
 | .tup l::r=>match intsOf l,lH r with
  |some (n::ns),some nss=>some ((n::ns)::nss)
  |_,_=>none
 |_=>none
theorem lG:∀{l:List D} {nss:hZ},lH l=some nss->l=nss.map tupI/\∀ns∈nss,ns≠[]
 |[],nss,h=>by cases h;exact⟨rfl,λ ns h=>by simp at h⟩
 | .tup l::r,nss,h=>by
  unfold lH at h;split at h
  .rename_i n ns nss' e1 e2
   cases h;obtain⟨q1,q2⟩:=lG e2;rw[bM e1,q1];refine⟨rfl,λ ms hm=>?_⟩;rcases zAM.mp hm with e|hm
   .subst e;simp
   .exact q2 ms hm
  .cases h
 | .non::_,_,h=>by cases h
 | .int _::_,_,h=>by cases h
 | .bl _::_,_,h=>by cases h
 | .str _::_,_,h=>by cases h
 | .lst _::_,_,h=>by cases h
 | .dct _ _::_,_,h=>by cases h
 | .set _::_,_,h=>by cases h
 | .scr _::_,_,h=>by cases h
theorem uJ:∀{nss:hZ},(∀ns∈nss,ns≠[])->lH (nss.map tupI)=some nss
 |[],_=>rfl
 |[]::nss,h=>absurd rfl (h [] zAT)
 |(n::ns)::nss,h=>by
  have ih:=uJ λ ms hm=>h ms (zAO _ hm)
  rw[zAG];unfold lH;rw[ih,show intsOf (List.map D.int (n::ns))=some (n::ns)from b8 _]
theorem uI{K:zAA}:∀{xs:List V} {nss:hZ},Rps K A H xs (nss.map tupI)->(∀ns∈nss,ns≠[])->bN K H xs nss
 |_,[],.nil,_=>.nil
 |_,ns::nss,.cons h r,hne=>by
  cases h with
  |tup h r'=>
   have e:=r'.ints_of;subst e;exact .cons h (hne ns zAT) (uI r λ ms hm=>hne ms (zAO _ hm))
theorem aEm{K:zAA}:∀{zs:List (V×List Int)},(∀p∈zs,∃a,p.1= .ref a/\SqT K H a (p.2.map V.int))->Rps K A H (zs.map (·.1)) ((zs.map (·.2)).map tupI)
 |[],_=>.nil
 |p::zs,h=>by
  obtain⟨a,e1,e2⟩:=h p zAT;rw[zAG,zAG,zAG,e1];exact .cons (.tup e2 .ints) (aEm λ q hq=>h q (zAO _ hq))
theorem bN.all{K:zAA}:∀{vs:List V} {nss:hZ},bN K H vs nss->∀p∈vs.zip nss,∃a,p.1= .ref a/\SqT K H a (p.2.map V.int)
 |_,_,.nil,p,hp=>by simp at hp
 |_,_,.cons h _ r,p,hp=>by
  rw[zBZ]at hp;rcases zAM.mp hp with e|hp
  .subst e;exact⟨_,rfl,h⟩
  .exact r.all p hp
def aAB{K:zAA}(ht:bN K H vs nss)(q:∀v H',aQ H H'->Rp K (λ p=>H p=none) H' v (.lst ((rE nss).map tupI))->Q v H'):yE H vs nss Q:=by
 intro zs hz hr p H' s hp hn;have e:zs.map (·.2)=rE nss:=wR (((hz.map (·.2)).trans (by rw[zFs (by rw[ht.len];exact zAW _)])).trans (oG nss).symm) hr (lL nss);refine q _ H' s (.lst hp hn ?_);rw[<-e];exact aEm λ p hp=>by
  obtain⟨a,e1,e2⟩:=ht.all p (hz.mem_iff.mp hp);exact⟨a,e1,s.sqt e2⟩
def insI(a:Int):List Int->List Int
 |[]=>[a]
 |b::l=>if b<a then b::insI a l else a::b::l
def sortI:List Int->List Int
 |[]=>[]
 |a::l=>insI a (sortI l)
theorem insI_perm(a:Int):∀l,(insI a l).Perm (a::l)
 |[]=>zAq _
 |b::l=>by
  unfold insI;split
  .exact((insI_perm a l).cons b).trans (zEC _ _ _)
  .exact zAq _
theorem sortI_perm:∀l,(sortI l).Perm l
 |[]=>zAq _
 |a::l=>(insI_perm a _).trans ((sortI_perm l).cons a)
theorem aAu(a:Int):∀l:List Int,l.Pairwise (·<=·)->(insI a l).Pairwise (·<=·)
 |[],_=>zAb.mpr ⟨λ _ h=>by simp at h,.nil⟩
 |b::l,h=>by
  obtain⟨h1,h2⟩:=zAb.mp h;unfold insI;by_cases e:b<a
  .rw[if_pos e]
   refine zAb.mpr ⟨λ x hx=>?_,aAu a l h2⟩;rcases zAM.mp ((insI_perm a l).mem_iff.mp hx)with q|q
   .lia
   .exact h1 x q
  .rw[if_neg e]
   refine zAb.mpr ⟨λ x hx=>?_,h⟩;rcases zAM.mp hx with q|q
   .lia
   .have:=h1 x q;lia
theorem wN:∀l,(sortI l).Pairwise (·<=·)
 |[]=>.nil
 |a::l=>aAu a _ (wN l)
theorem pB:∀{us:List Value} {ns:List Int},zB2 us ns->Vals (ns.map V.int) us
 |_,_,.nil=>.nil
 |_,_,.cons n t r=>.cons ⟨t,rfl⟩ (pB r)
section
variable{X:Cx}
def aBk(K:zAA):List V->Hp->VK->Prop:=λ xs H Q=>∃p ns,xs=[.ref p]/\SqL K H p (ns.map V.int)/\ns.length<64/\New H (.lst ((sortI ns).map V.int)) Q
def zX:cI X (.builtin "sorted") (aBk X.K):=by
 intro kK s Z H xs us Q I r h;obtain⟨p,ns,rfl,hp,h64,q⟩:=h;obtain⟨u,rfl,ru⟩:=vals1 r;cases ru;obtain⟨its,rv,pl,hz⟩:=I.list hp;have hI:zB2 its ns:=intsAre_of rv;have oQ:its.length<64:=by
  have:=rv.length
  rw[zAE]at this;lia
 refine sorted_ints pl.isList hI oQ λ out ns' h1 h2 h3=>?_
 have e:ns'=sortI ns:=PySem.W.ksm_same (h2.trans (sortI_perm ns).symm) h3 (wN ns);subst e;obtain⟨e,he⟩:=sortedAll_at s.heap its out;have hfr:H (s.heap.objs.size+1)=none:=I.hok.fresh (zFR _);refine⟨.ref (s.heap.objs.size+1),upd H (s.heap.objs.size+1) (.lst ((sortI ns).map V.int)),I.laid (t':=s.toks) (λ b o q=>sortedAll_old q) (zFR _) ?_,rfl,q.at hfr⟩;refine⟨?_,out.toList,e,pB h1,?_⟩
 .rw[zAE,h2.length_eq]
  exact zBB (zCQ h64) (by decide)
 .rw[Array.toArray_toList]
  exact he
end
def aDS(K:zAA)(r:List V->Hp->VK->Prop)(fd:List D->Rs D):Prop:=∀(A:Addr->Prop) xs ds H (Q:VK) z,Rps K A H xs ds->fd ds= .ok z->(∀v H',aQ H H'->Rp K (λ p=>H p=none) H' v z->Q v H')->r xs H Q
def yP{K:zAA}(hs:aDS K r fd)(h1:aIz K G m ta g):gJ K G (some []) (tCB r ta) (opA fd g):=by
 intro U Z H ρ lab Q R W;refine h1 U Z H ρ lab _ R (W.bd.imp λ d _ w x H1 s1 r1=>?_);obtain⟨z,ez,w⟩:=w.okD;exact hs (fpM m lab H) x d H1 Q z r1 ez λ v H' s r=>w v H' (s1.trans s) (r.wk λ p o _ q=>.inl (s1.free q))
def nM:List D->Rs D
 |[.lst l]=>match lH l with
  |some nss=>if nss.length<64 then .ok (.lst ((rE nss).map tupI))else .st
  |none=>match intsOf l with
   |some ns=>if ns.length<64 then .ok (.lst ((sortI ns).map .int))else .st
   |none=>.st
 |_=>.st
def aDz{K:zAA}:aDS K (λ xs H Q=>aBj K xs H Q\/aBk K xs H Q) nM:=by
 intro A xs ds H Q z r ez q;unfold nM at ez;split at ez
 .cases r with
  |cons h r=>
   cases r;cases h with
   |lst h m r=>
    split at ez
    .rename_i nss e
     obtain⟨e1,e2⟩:=lG e;subst e1;split at ez
     .rename_i hl
      cases ez;have ht:=uI r e2;exact .inl ⟨_,_,nss,rfl,SqL.of h,ht,by rw[ht.len];exact hl,aAB ht q⟩
     .cases ez
    .split at ez
     .rename_i ns e
      have e1:=bM e;subst e1;split at ez
      .rename_i hl
       cases ez;have e2:=r.ints_of;subst e2;exact .inr ⟨_,ns,rfl,SqL.of h,hl,λ p H' s hp hn=>q _ H' s (.lst hp hn .ints)⟩
      .cases ez
     .cases ez
 .cases ez
section
variable{C:Ct}{pos p:Pos}{m:Mode}{a:Expr}{ga:En->Rs (List D)}
def aD1(hm:C.mg "sorted"=none)(ha:SA C m [a] ga)(he:∀i,zA4 [a] (C.X i).env=[(false,eval a (C.X i).env)]:=by intro _;rfl)(hg:∀i,Gl (C.X i) "sorted":=by intro _;rfl)(hv:zBO "sorted"=some (.builtin "sorted"):=by decide+kernel):SE C (some []) (.Call (.Name "sorted" p) [a] [] pos) (opA nM ga):=by
 obtain⟨t,h1,h2⟩:=ha;refine⟨_,λ i=>jZ (r:=λ xs H Q=>aBj C.K xs H Q\/aBk C.K xs H Q) (by rw[<-C.hK i];exact wH.or zX) (hg i) (by rw[(C.cx i).2.2.2.1];exact hm) hv (h1 i) (by decide) (by decide) (he i) rfl,yP aDz h2⟩
end
def aI7(nss:hZ):Bool:=nss.all λ a=>nss.all λ b=>a==b||hsh a !=hsh b
def aI6(h:aI7 nss=true):∀a∈nss,∀b∈nss,hsh a=hsh b->a=b:=λ a ha b hb e=>by
 have:=zB6.mp (zB6.mp h a ha) b hb
 simpa[e]using this
theorem bN.one{K:zAA}:∀{zs:List (V×List Int)},(∀p∈zs,∃a,p.1= .ref a/\SqT K H a (p.2.map V.int)/\p.2≠[])->bN K H (zs.map (·.1)) (zs.map (·.2))
 |[],_=>.nil
 |p::zs,h=>by
  obtain⟨a,e1,e2,e3⟩:=h p zAT;rw[zAG,zAG,e1];exact .cons e2 e3 (bN.one λ q hq=>h q (zAO _ hq))
theorem bN.ne{K:zAA}:∀{vs:List V} {nss:hZ},bN K H vs nss->∀ns∈nss,ns≠[]
 |_,_,.nil,ns,h=>by simp at h
 |_,_,.cons _ hne r,ns,h=>by
  rcases zAM.mp h with e|h
  .subst e;exact hne
  .exact r.ne ns h
def bN.dd{K:zAA}(t:bN K H vs nss):bN K H ((ddV (vs.zip nss)).map (·.1)) ((ddV (vs.zip nss)).map (·.2)):=bN.one λ p hp=>by
 obtain⟨a,e1,e2⟩:=t.all p (tY hp);exact⟨a,e1,e2,t.ne _ (zCx (tY hp)).2⟩
theorem bN.ddT{K:zAA}(t:bN K H vs nss):(ddV (vs.zip nss)).map (·.2)=VL.ddT nss:=by rw[aIi,zFs (by rw[t.len];exact zAW _)]
def lN(n:Nat)(l:List D):Rs D:=match lH l with
 |some nss=>if (ddT nss).length<n/\aI7 nss=true then .ok (.lst ((rE (ddT nss)).map tupI))else .st
 |none=>.st
def aHW{K:zAA}{w:World}{Q Q':VK}(hp:SqL K H p vs\/SqT K H p vs)(r:Rps K A H vs l)(ez:lN n l= .ok z)(hn:n<=77)
  (hr:∀a zs H2,aQ H H2->H2 a=some (.ext (setφ w a (aD7 zs)))->bN K H2 (zs.map (·.1)) (zs.map (·.2))->zs.length<n->yE H2 (zs.map (·.1)) (zs.map (·.2)) Q->Q' (.ref a) H2)
  (q:∀v H',aQ H H'->Rp K (λ p=>H p=none) H' v z->Q v H'):aEx K w [.ref p] H Q':=by
 unfold lN at ez;split at ez
 .rename_i nss e
  obtain⟨e1,e2⟩:=lG e;subst e1;split at ez
  .rename_i hl
   cases ez;have ht:=uI r e2;have hlv:=hl.1;rw[<-ht.ddT,zAE]at hlv;refine⟨_,_,nss,rfl,hp,ht,by lia,aI6 hl.2,λ a H2 s2 ha hn=>hr a _ H2 s2 ha (ht.dd.up s2) hlv ?_⟩;refine aAB (ht.dd.up s2) ?_;rw[ht.ddT];exact λ v H' s r=>q v H' (s2.trans s) (r.wk λ p o _ q=>s2.free q)
  .cases ez
 .cases ez
def aDu:Bool->Keyed->Array Keyed->Nat->Nat->Nat->StateT SortSt Sem (Option Nat):=sortPriv%PySem.Builtin.gallop
def aGb(left:Bool)(key:Keyed)(arr:Array Keyed)(i:Nat):StateT zBD Sem (Option Bool):=elem' arr i>>=λ x=>if left=true then lt' x key else lt' key x>>=λ b=>pure (b.map (!·))
section
variable{prog:zA7}{w:World}{A:zAt}{E:Value->zAF->Prop}{s:zAF}
def zm{P:Nat->Bool}{ask:Nat->StateT zBD Sem (Option Bool)}{st:zBD}{n lo hi:Nat}{Q:Option (Option Nat)×Nat×Nat->zBD->Prop}(hb:∀i,i<n->∀R:Option Bool->zBD->Prop,R (some (P i)) st->wpS (model prog w) A E s (ask i) R st)
  (mono:∀i j,i<=j->j<n->P j=true->P i=true)(hle:lo<=hi)(hhi:hi<=n)(h1:∀i,i<lo->P i=true)(h2:∀i,hi<=i->i<n->P i=false)
  (h:∀k,k<=n->(∀i,i<k->P i=true)->(∀i,k<=i->i<n->P i=false)->Q (none,k,k) st):
  wpS (model prog w) A E s (forIn [0:n] ((none,lo,hi):Option (Option Nat)×Nat×Nat) λ _ c=>if c.2.1 ≥ c.2.2 then pure (zHZ (none,c.2.1,c.2.2))else ask (c.2.1+(c.2.2-c.2.1) / 2)>>=λ x=>match x with
   |some more=>if more=true then pure (zBi (none,c.2.1+(c.2.2-c.2.1) / 2+1,c.2.2))else pure (zBi (none,c.2.1,c.2.1+(c.2.2-c.2.1) / 2))
   |_=>pure (zHZ (some none,c.2.1,c.2.2))) Q st:=by
 refine zBh (I:=λ x c st'=>st'=st/\∃lo hi,c=(none,lo,hi)/\lo<=hi/\hi<=n/\hi-lo<=n-x/\(∀i,i<lo->P i=true)/\∀i,hi<=i->i<n->P i=false) ?_ ?_ ⟨rfl,lo,hi,rfl,hle,hhi,by lia,h1,h2⟩
 .rintro x c st' _ hx ⟨rfl,lo,hi,rfl,g1,g2,g3,g4,g5⟩
  dsimp only;by_cases hc:lo ≥ hi
  .rw[if_pos hc]
   have:lo=hi:=by lia
   subst this;exact zA5 (h lo g2 g4 g5)
  .rw[if_neg hc]
   have hm:lo+(hi-lo) / 2<hi:=by lia
   refine zAX (hb _ (by lia) _ ?_);dsimp only;cases hp:P (lo+(hi-lo) / 2)with
   |true=>
    rw[if_pos rfl];exact zA5 ⟨rfl,_,_,rfl,by lia,g2,by lia,λ i hi'=>mono i _ (by lia) (by lia) hp,g5⟩
   |false=>
    rw[if_neg zAS];refine zA5 ⟨rfl,_,_,rfl,by lia,by lia,by lia,g4,λ i k1 k2=>?_⟩;cases hq:P i with
    |false=>rfl
    |true=>rw[mono _ i k1 k2 hq]at hp;cases hp
 .rintro c st' ⟨rfl,lo,hi,rfl,g1,g2,g3,g4,g5⟩
  have:lo=hi:=by lia
  subst this;exact h lo g2 g4 g5
def aHA{P:Nat->Bool}{st:zBD}{left:Bool}{key:Keyed}{arr:Array Keyed}{base n hint:Nat}{Q:Option Nat->zBD->Prop}
  (hb:∀i,i<n->∀R:Option Bool->zBD->Prop,R (some (P i)) st->wpS (model prog w) A E s (aGb left key arr (base+i)) R st)
  (mono:∀i j,i<=j->j<n->P j=true->P i=true)(hh:hint<n)
  (h:∀k,k<=n->(∀i,i<k->P i=true)->(∀i,k<=i->i<n->P i=false)->Q (some k) st):wpS (model prog w) A E s (aDu left key arr base n hint) Q st:=by
 refine zAX (hb hint hh _ ?_);dsimp only;cases hp:P hint with
 |true=>
  rw[if_pos rfl];refine zAX (zDP (zBh (I:=λ x c st'=>st'=st/\∃l o,c=(none,l,o)/\l<o/\x<o/\hint+l<n/\P (hint+l)=true)
   (Q:=λ c st'=>st'=st/\∃l o,c=(none,l,o)/\l<o/\hint+l<n/\P (hint+l)=true/\(hint+o<n->P (hint+o)=false)) ?_ ?_ ⟨rfl,0,1,rfl,by lia,by lia,by lia,hp⟩) ?_)
  .rintro x c st' _ hx ⟨rfl,l,o,rfl,g1,g2,g3,g4⟩
   dsimp only;by_cases hc:o ≥ n-hint
   .rw[if_pos hc]
    exact zA5 ⟨rfl,l,o,rfl,g1,g3,g4,λ z=>by lia⟩
   .rw[if_neg hc]
    refine zAX (hb (hint+o) (by lia) _ ?_);dsimp only;cases hq:P (hint+o)with
    |true=>
     rw[if_neg (by decide)];exact zA5 ⟨rfl,o,2*o+1,rfl,by lia,by lia,by lia,hq⟩
    |false=>
     rw[if_pos (by decide)];exact zA5 ⟨rfl,l,o,rfl,g1,g3,g4,λ _=>hq⟩
  .rintro c st' ⟨rfl,l,o,rfl,g1,g2,g3,g4⟩
   exact⟨rfl,l,o,rfl,g1,g3,g4,λ z=>by lia⟩
  .rintro c st' ⟨rfl,l,o,rfl,g1,g3,g4,g5⟩
   dsimp only;refine zAX (zm (ask:=λ i=>aGb left key arr (base+i)) (n:=n) hb mono (by lia) (by lia) (λ i hi=>mono i _ (by lia) g3 g4) (λ i k1 k2=>?_) λ k k1 k2 k3=>zA5 (h k k1 k2 k3));by_cases hc:hint+o<n
   .have:=g5 hc
    cases hq:P i with
    |false=>rfl
    |true=>rw[mono _ i (by lia) k2 hq]at this;cases this
   .lia
 |false=>
  rw[if_neg zAS];refine zAX (zDP (zBh (I:=λ x c st'=>st'=st/\∃l o,c=(none,l,o)/\l<o/\x<o/\l<=hint/\P (hint-l)=false)
   (Q:=λ c st'=>st'=st/\∃l o,c=(none,l,o)/\l<o/\l<=hint/\P (hint-l)=false/\(o<=hint->P (hint-o)=true)) ?_ ?_ ⟨rfl,0,1,rfl,by lia,by lia,by lia,hp⟩) ?_)
  .rintro x c st' _ hx ⟨rfl,l,o,rfl,g1,g2,g3,g4⟩
   dsimp only;by_cases hc:o ≥ hint+1
   .rw[if_pos hc]
    exact zA5 ⟨rfl,l,o,rfl,g1,g3,g4,λ z=>by lia⟩
   .rw[if_neg hc]
    refine zAX (hb (hint-o) (by lia) _ ?_);dsimp only;cases hq:P (hint-o)with
    |true=>
     rw[if_pos rfl];exact zA5 ⟨rfl,l,o,rfl,g1,g3,g4,λ _=>hq⟩
    |false=>
     rw[if_neg zAS];exact zA5 ⟨rfl,o,2*o+1,rfl,by lia,by lia,by lia,hq⟩
  .rintro c st' ⟨rfl,l,o,rfl,g1,g2,g3,g4⟩
   exact⟨rfl,l,o,rfl,g1,g3,g4,λ z=>by lia⟩
  .rintro c st' ⟨rfl,l,o,rfl,g1,g3,g4,g5⟩
   dsimp only;refine zAX (zm (ask:=λ i=>aGb left key arr (base+i)) (n:=n) hb mono (by lia) (by lia) (λ i hi=>?_) (λ i k1 k2=>?_) λ k k1 k2 k3=>zA5 (h k k1 k2 k3))
   .by_cases hc:o<=hint
    .exact mono i _ (by lia) (by lia) (g5 hc)
    .lia
   .cases hq:P i with
    |false=>rfl
    |true=>rw[mono _ i (by lia) k2 hq]at g4;cases g4
end
structure Mg{β:Type}(r:β->β->Prop)(T out ra rb:List β):Prop where
 pm:(out++(ra++rb)).Perm T
 so:out.Pairwise r
 lo:∀x∈out,∀y∈ra++rb,r x y
 sa:ra.Pairwise r
 sb:rb.Pairwise r
section
variable{β:Type}{r:β->β->Prop}{T out ra rb L:List β}
def Mg.ta(m:Mg r T out (L++ra) rb)(h:∀x∈L,∀y∈rb,r x y):Mg r T (out++L) ra rb:=by
 obtain⟨s1,s2,s3⟩:=zBM.mp m.sa;refine⟨by have:=m.pm;simp only[zAd]at this ⊢;exact this,zBM.mpr ⟨m.so,s1,λ x hx y hy=>m.lo x hx y (by simp[hy])⟩,λ x hx y hy=>?_,s2,m.sb⟩;rcases zA9.mp hx with hx|hx
 .exact m.lo x hx y (by rcases zA9.mp hy with h|h<;>simp[h])
 .rcases zA9.mp hy with hy|hy
  .exact s3 x hx y hy
  .exact h x hx y hy
def Mg.flip(m:Mg r T out ra rb):Mg r T out rb ra:=
 ⟨(zHC.append_left out).trans m.pm,m.so,λ x hx y hy=>m.lo x hx y (by rcases zA9.mp hy with h|h<;>simp[h]),m.sb,m.sa⟩
def Mg.tb(m:Mg r T out ra (L++rb))(h:∀x∈L,∀y∈ra,r x y):Mg r T (out++L) ra rb:=(m.flip.ta h).flip
def Mf(r:β->β->Prop)(T o:List β):Prop:=o.Perm T/\o.Pairwise r
def Mg.ea(m:Mg r T out ra []):Mf r T (out++ra):=by
 have:=m.pm
 rw[zAx]at this;exact⟨this,zBM.mpr ⟨m.so,m.sa,λ x hx y hy=>m.lo x hx y (by simp[hy])⟩⟩
def Mg.eb(m:Mg r T out [] rb):Mf r T (out++rb):=m.flip.ea
def Mg.el(m:Mg r T out [z] rb)(h:∀y∈rb,r y z):Mf r T (out++rb++[z]):=by
 have m2:Mg r T (out++rb) [z] []:=Mg.tb (L:=rb) (by rw[zAx];exact m) λ x hx y hy=>by rw[zAN.mp hy];exact h x hx
 have:=m2.ea
 exact this
end
structure Cm(prog:zA7)(w:World)(A:zAt)(s:zAF)(κ:zDY)(O:zCZ)(kf:Keyed->O.α)(G:Keyed->Prop):Prop where
 lt:∀x y,G x->G y->∀C:Bool->zAF->Prop,C (O.blt (kf x) (kf y)) s->wpAny (model prog w) A (keyLt' κ x.1 y.1) C (λ _ _=>False) s
structure Eg(st st':zBD):Prop where
 k:zBz st'=zBz st
 a:arrOf st'=arrOf st
 p:zAw st'=zAw st
 f:zC5 st'=zC5 st
def Eg.refl(st:zBD):Eg st st:=⟨rfl,rfl,rfl,rfl⟩
theorem Eg.trans{st st' st'':zBD}(h:Eg st st')(k:Eg st' st''):Eg st st'':=⟨k.k.trans h.k,k.a.trans h.a,k.p.trans h.p,k.f.trans h.f⟩
def sgP:Nat->StateT SortSt Sem Unit:=sortPriv%PySem.Builtin.setMinGallop
section
variable{prog:zA7}{w:World}{A:zAt}{E:Value->zAF->Prop}{s:zAF}{κ:zDY}{O:zCZ}{kf:Keyed->O.α}{G:Keyed->Prop}
def pA{st:zBD}{x y:Keyed}{Q:Option Bool->zBD->Prop}(c:Cm prog w A s κ O kf G)(hk:zBz st=κ)(gx:G x)(gy:G y)(h:Q (some (O.blt (kf x) (kf y))) st):wpS (model prog w) A E s (lt' x y) Q st:=by
 rw[lt'_eq];refine zAX (zEe ?_);rw[hk];refine zAX (zGE (zHt ?_));refine zB8 (c.lt x y gx gy (λ b s'=>s'=s/\b=O.blt (kf x) (kf y)) ⟨rfl,rfl⟩) (λ b s' e=>⟨e.1,?_⟩) λ _ _ e=>e.elim
 rw[e.2];exact zA5 h
def b7{arr:Array Keyed}{i:Nat}{x:Keyed}{st:zBD}{Q:Keyed->zBD->Prop}(h:arr[i]? =some x)(q:Q x st):wpS (model prog w) A E s (elem' arr i) Q st:=by
 rw[elem'_eq,h];exact zA5 q
def yG{g:Nat}{st:zBD}{Q:Unit->zBD->Prop}(q:∀st',Eg st st'->Q () st'):wpS (model prog w) A E s (sgP g) Q st:=zDO (q _ ⟨rfl,rfl,rfl,rfl⟩)
def aL8(c:Cm prog w A s κ O kf G){left:Bool}{key x:Keyed}{arr:Array Keyed}{i:Nat}{st:zBD}{R:Option Bool->zBD->Prop}(hk:zBz st=κ)(gk:G key)(hx:arr[i]? =some x)(gx:G x)
  (h:R (some (if left=true then O.blt (kf x) (kf key)else !O.blt (kf key) (kf x))) st):wpS (model prog w) A E s (aGb left key arr i) R st:=by
 unfold aGb;refine zAX (b7 hx ?_);cases left with
 |true=>rw[if_pos rfl]at h ⊢;exact pA c hk gx gk h
 |false=>
  rw[if_neg zAS]at h ⊢;exact zAX (pA c hk gk gx (zA5 h))
def jU(c:Cm prog w A s κ O kf G){left:Bool}{key:Keyed}{arr:Array Keyed}{base n hint:Nat}{st:zBD}{Q:Option Nat->zBD->Prop}(hk:zBz st=κ)(gk:G key)(L:List Keyed)(hL:∀i,i<n->arr[base+i]? =L[i]?)(hn:n=L.length)
  (gL:∀x∈L,G x)(sL:L.Pairwise λ x y=>O.kle (kf x) (kf y))(hh:hint<n)
  (h:∀k,k<=n->(∀x∈L.take k,(if left=true then O.klt (kf x) (kf key)else O.kle (kf x) (kf key)))->(∀x∈L.drop k,(if left=true then O.kle (kf key) (kf x)else O.klt (kf key) (kf x)))->Q (some k) st):
  wpS (model prog w) A E s (aDu left key arr base n hint) Q st:=by
 have hP:∀i (hi:i<n),arr[base+i]? =some (L[i]'(by lia)):=λ i hi=>by rw[hL i hi,zAC (by lia)]
 have sI:∀i j (hij:i<=j) (hj:j<n),O.kle (kf (L[i]'(by lia))) (kf (L[j]'(by lia))):=λ i j hij hj=>by
  by_cases e:i=j
  .subst e;exact zBl _
  .exact zBI.mp sL i j _ _ (by lia)
 refine aHA (P:=λ i=>if h:i<L.length then(if left=true then O.blt (kf L[i]) (kf key)else !O.blt (kf key) (kf L[i]))else false) (λ i hi R hR=>aL8 c hk gk (hP i hi) (gL _ (zC1 _)) ?_) (λ i j hij hj hp=>?_) hh λ k h1 h2 h3=>h k h1 (λ x hx=>?_) λ x hx=>?_
 .rw[dif_pos (by lia)]at hR
  exact hR
 .rw[dif_pos (by lia)]at hp ⊢
  have hs:=sI i j hij hj;cases left with
  |true=>rw[if_pos rfl]at hp ⊢;exact KeyOrd.klt_of_kle_of_klt hs hp
  |false=>
   rw[if_neg zAS]at hp ⊢;have h1:O.kle (kf (L[j]'(by lia))) (kf key):=by simpa[zH0]using hp
   have h2:=zAm hs h1;simpa[zH0]using h2
 .obtain⟨i,hi,e⟩:=zCE hx
  rw[zA3]at hi;rw[zBr]at e
  have:=h2 i (by lia)
  rw[dif_pos (by lia),e]at this;cases left with
  |true=>rw[if_pos rfl]at this ⊢;exact this
  |false=>rw[if_neg zAS]at this ⊢;simpa[zH0]using this
 .obtain⟨i,hi,e⟩:=zCE hx
  rw[zAp]at hi;rw[zFc]at e
  have:=h3 (k+i) (by lia) (by lia)
  rw[dif_pos (by lia),e]at this;cases left with
  |true=>rw[if_pos rfl]at this ⊢;exact this
  |false=>rw[if_neg zAS]at this ⊢;simpa[KeyOrd.klt]using this
end
def kW(a:Array Keyed)(i j:Nat):(a.extract i j).toList=(a.toList.drop i).take (j-i):=by rw[Array.toList_extract]
def cg(a:Array Keyed)(i:Nat):(a.extract i a.size).toList=a.toList.drop i:=by
 rw[kW,zBE (by rw[zAp,zAL];exact zAW _)]
def aJg(l:List Keyed)(i k:Nat):l.drop i=(l.drop i).take k++l.drop (i+k):=by
 rw[<-zET,zAf]
def bR{a:Array Keyed}{i:Nat}(h:i<a.size):a.toList.drop i=a[i]::a.toList.drop (i+1):=by
 rw[zC7 (by simpa using h)];rfl
def du{a:Array Keyed}{i:Nat}(h:i+1=a.size):a.toList.drop i=[a[i]'(by lia)]:=by
 rw[bR (by lia),zCV (by simp;lia)]
abbrev LS:=Option (Array Keyed)×Array Keyed×Nat×Nat×Nat×Nat×Nat
abbrev LM:=StateT zBD Sem (ForInStep LS)
def frA(a b out:Array Keyed)(ia ib mg ac bc:Nat):LM:=elem' a ia>>=λ x=>if (ia+1+1==a.size)=true then pure (.done (some (out.push x++b.extract ib b.size++a.extract (ia+1) a.size),out.push x,ia+1,ib,mg,ac,bc))
 else if (decide (ac<7)&&decide (bc<7))=true then pure (.done (none,out.push x,ia+1,ib,mg,ac,bc))else pure (.yield (none,out.push x,ia+1,ib,mg,ac,bc))
def frB(a b out:Array Keyed)(ia ib mg ac k:Nat):LM:=if k>0 then(if (ib+k==b.size)=true then pure (.done (some (out++b.extract ib (ib+k)++a.extract ia a.size++b.extract (ib+k) b.size),out++b.extract ib (ib+k),ia,ib+k,mg,ac,k))
 else frA a b (out++b.extract ib (ib+k)) ia (ib+k) mg ac k)else frA a b out ia ib mg ac k
def frC(a b out:Array Keyed)(ia ib mg ac bc:Nat):LM:=elem' a ia>>=λ x=>aDu true x b ib (b.size-ib) 0>>=λ r=>match r with
 |some k=>frB a b out ia ib mg ac k
 |_=>pure (.done (some (out++a.extract ia a.size++b.extract ib b.size),out,ia,ib,mg,ac,bc))
def frD(a b out:Array Keyed)(ia ib mg ac bc:Nat):LM:=elem' b ib>>=λ x=>if (ib+1==b.size)=true then pure (.done (some (out.push x++a.extract ia a.size++b.extract (ib+1) b.size),out.push x,ia,ib+1,mg,ac,bc))else frC a b (out.push x) ia (ib+1) mg ac bc
def frE(a b out:Array Keyed)(ia ib mg k bc:Nat):LM:=if k>0 then(if (ia+k+1==a.size)=true then pure (.done (some (out++a.extract ia (ia+k)++b.extract ib b.size++a.extract (ia+k) a.size),out++a.extract ia (ia+k),ia+k,ib,mg,k,bc))
 else if (ia+k==a.size)=true then pure (.done (some (out++a.extract ia (ia+k)++a.extract (ia+k) a.size++b.extract ib b.size),out++a.extract ia (ia+k),ia+k,ib,mg,k,bc))else frD a b (out++a.extract ia (ia+k)) (ia+k) ib mg k bc)else frD a b out ia ib mg k bc
def frF(a b out:Array Keyed)(ia ib mg ac bc:Nat):LM:=sgP mg>>=λ _=>elem' b ib>>=λ x=>aDu false x a ia (a.size-ia) 0>>=λ r=>match r with
 |some k=>frE a b out ia ib mg k bc
 |_=>pure (.done (some (out++a.extract ia a.size++b.extract ib b.size),out,ia,ib,mg,ac,bc))
section
variable{prog:zA7}{w:World}{A:zAt}{E:Value->zAF->Prop}{s:zAF}{κ:zDY}{O:zCZ}{kf:Keyed->O.α}{G:Keyed->Prop}{T:List Keyed}{a b out:Array Keyed}{ia ib mg ac bc k m0:Nat}{st:zBD}{Q:ForInStep LS->zBD->Prop}
structure Ab(O:zCZ)(kf:Keyed->O.α)(G:Keyed->Prop)(a b:Array Keyed):Prop where
 ga:∀x∈a.toList,G x
 gb:∀x∈b.toList,G x
 la:∀i (h:i+1=a.size),∀y∈b.toList,O.klt (kf y) (kf (a[i]'(by lia)))
abbrev rK(O:zCZ)(kf:Keyed->O.α)(x y:Keyed):Prop:=O.kle (kf x) (kf y)
abbrev Ml(O:zCZ)(kf:Keyed->O.α)(T:List Keyed)(a b out:Array Keyed)(ia ib:Nat):Prop:=Mg (rK O kf) T out.toList (a.toList.drop ia) (b.toList.drop ib)
structure Tu(O:zCZ)(kf:Keyed->O.α)(T:List Keyed)(a b:Array Keyed)(m0:Nat)(st:zBD)(Q:ForInStep LS->zBD->Prop):Prop where
 ret:∀o out ia ib mg ac bc st',Eg st st'->Mf (rK O kf) T o.toList->Q (.done (some o,out,ia,ib,mg,ac,bc)) st'
 on:∀out ia ib mg ac bc st',Eg st st'->Ml O kf T a b out ia ib->ia+1<a.size->ib<b.size->m0<ia+ib->Q (.done (none,out,ia,ib,mg,ac,bc)) st'/\Q (.yield (none,out,ia,ib,mg,ac,bc)) st'
def Tu.eg{st1:zBD}(t:Tu O kf T a b m0 st Q)(h:Eg st st1):Tu O kf T a b m0 st1 Q:=
 ⟨λ o out ia ib mg ac bc st' e f=>t.ret o out ia ib mg ac bc st' (h.trans e) f,λ out ia ib mg ac bc st' e=>t.on out ia ib mg ac bc st' (h.trans e)⟩
def aGM(B:Ab O kf G a b)(t:Tu O kf T a b m0 st Q)(m:Ml O kf T a b out ia ib)(h1:ia+1<a.size)(h2:ib<b.size)(h3:m0<ia+1+ib)(hl:∀y∈b.toList.drop ib,O.kle (kf (a[ia]'(by lia))) (kf y)):
  wpS (model prog w) A E s (frA a b out ia ib mg ac bc) Q st:=by
 have m2:Ml O kf T a b (out.push (a[ia]'(by lia))) (ia+1) ib:=by
  unfold Ml at m ⊢;rw[bR (by lia)]at m;rw[zBS];exact Mg.ta (L:=[a[ia]'(by lia)]) m λ x hx y hy=>by rw[zAN.mp hx];exact hl y hy
 unfold frA;refine zAX (b7 (zAH (by lia)) ?_);by_cases c1:ia+1+1=a.size
 .rw[if_pos (by simpa using c1)]
  refine zA5 (t.ret _ _ _ _ _ _ _ _ (Eg.refl st) ?_);rw[zA2,zA2,cg,cg,du c1];unfold Ml at m2;rw[du c1]at m2;exact m2.el λ y hy=>zAe (B.la _ c1 y (zBQ hy))
 .rw[if_neg (by simpa using c1)]
  have:=t.on _ _ _ mg ac bc _ (Eg.refl st) m2 (by lia) h2 h3
  split
  .exact zA5 this.1
  .exact zA5 this.2
def aLW(B:Ab O kf G a b)(t:Tu O kf T a b m0 st Q)(m:Ml O kf T a b out ia ib)(h1:ia+1<a.size)(h2:ib<b.size)(h3:m0<ia+1+ib)(hk:k<=b.size-ib)(hl:∀y∈(b.toList.drop ib).take k,O.klt (kf y) (kf (a[ia]'(by lia))))(hr:∀y∈(b.toList.drop ib).drop k,O.kle (kf (a[ia]'(by lia))) (kf y)):
  wpS (model prog w) A E s (frB a b out ia ib mg ac k) Q st:=by
 unfold frB;rw[zET]at hr;by_cases c0:k>0
 .rw[if_pos c0]
  have m2:Ml O kf T a b (out++b.extract ib (ib+k)) ia (ib+k):=by
   unfold Ml at m ⊢;rw[aJg b.toList ib k]at m;rw[zA2,kW,zB3];refine m.tb λ x hx y hy=>?_
   have hx1:=hl x hx;rw[bR (by lia)]at hy;have sa:=m.sa;rw[bR (by lia)]at sa;rcases zAM.mp hy with rfl|hy
   .exact zAe hx1
   .exact zAm (zAe hx1) ((zAb.mp sa).1 y hy)
  by_cases c1:ib+k=b.size
  .rw[if_pos (by simpa using c1)]
   refine zA5 (t.ret _ _ _ _ _ _ _ _ (Eg.refl st) ?_);unfold Ml at m2;have hz:b.toList.drop (ib+k)=[]:=zCV (by simp;lia);rw[hz]at m2;rw[zA2,zA2 (ys:=a.extract ia a.size),cg,cg,hz,zAx];exact m2.ea
  .rw[if_neg (by simpa using c1)]
   exact aGM B t m2 h1 (by lia) (by lia) hr
 .rw[if_neg c0]
  have:k=0:=by lia
  subst this;exact aGM B t m h1 h2 h3 hr
def aLV(c:Cm prog w A s κ O kf G)(hκ:zBz st=κ)(B:Ab O kf G a b)(t:Tu O kf T a b m0 st Q)(m:Ml O kf T a b out ia ib)(h1:ia+1<a.size)(h2:ib<b.size)(h3:m0<ia+1+ib):
  wpS (model prog w) A E s (frC a b out ia ib mg ac bc) Q st:=by
 unfold frC;refine zAX (b7 (zAH (by lia)) ?_);refine zAX (jU c hκ (B.ga _ (by simp)) (b.toList.drop ib) (λ i hi=>?_) (by simp) (λ x hx=>B.gb x (zBQ hx)) m.sb (by lia) λ k k1 k2 k3=>?_)
 .rw[zBa,zAR]
 .simp only[if_true]at k2 k3
  exact aLW B t m h1 h2 h3 k1 k2 k3
def aGL(c:Cm prog w A s κ O kf G)(hκ:zBz st=κ)(B:Ab O kf G a b)(t:Tu O kf T a b m0 st Q)(m:Ml O kf T a b out ia ib)(h1:ia+1<a.size)(h2:ib<b.size)(h3:m0<=ia+1+ib)(hl:∀y∈a.toList.drop ia,O.klt (kf (b[ib]'h2)) (kf y)):
  wpS (model prog w) A E s (frD a b out ia ib mg ac bc) Q st:=by
 have m2:Ml O kf T a b (out.push (b[ib]'h2)) ia (ib+1):=by
  unfold Ml at m ⊢;rw[bR (a:=b) h2]at m;rw[zBS];exact Mg.tb (L:=[b[ib]'h2]) m λ x hx y hy=>by rw[zAN.mp hx];exact zAe (hl y hy)
 unfold frD;refine zAX (b7 (zAH h2) ?_);by_cases c1:ib+1=b.size
 .rw[if_pos (by simpa using c1)]
  refine zA5 (t.ret _ _ _ _ _ _ _ _ (Eg.refl st) ?_);unfold Ml at m2;have hz:b.toList.drop (ib+1)=[]:=zCV (by simp;lia);rw[hz]at m2;rw[zA2,zA2,cg,cg,hz,zAx];exact m2.ea
 .rw[if_neg (by simpa using c1)]
  exact aLV c hκ B t m2 h1 (by lia) (by lia)
def aLU(c:Cm prog w A s κ O kf G)(hκ:zBz st=κ)(B:Ab O kf G a b)(t:Tu O kf T a b m0 st Q)(m:Ml O kf T a b out ia ib)(h1:ia+1<a.size)(h2:ib<b.size)(h3:m0<=ia+1+ib)(hk:k<=a.size-ia)
  (hl:∀y∈(a.toList.drop ia).take k,O.kle (kf y) (kf (b[ib]'h2)))(hr:∀y∈(a.toList.drop ia).drop k,O.klt (kf (b[ib]'h2)) (kf y)):wpS (model prog w) A E s (frE a b out ia ib mg k bc) Q st:=by
 unfold frE;rw[zET]at hr;by_cases c0:k>0
 .rw[if_pos c0]
  have m2:Ml O kf T a b (out++a.extract ia (ia+k)) (ia+k) ib:=by
   unfold Ml at m ⊢;rw[aJg a.toList ia k]at m;rw[zA2,kW,zB3];refine m.ta λ x hx y hy=>?_
   have hx1:=hl x hx;rw[bR (a:=b) h2]at hy;have sb:=m.sb;rw[bR (a:=b) h2]at sb;rcases zAM.mp hy with rfl|hy
   .exact hx1
   .exact zAm hx1 ((zAb.mp sb).1 y hy)
  by_cases c1:ia+k+1=a.size
  .rw[if_pos (by simpa using c1)]
   refine zA5 (t.ret _ _ _ _ _ _ _ _ (Eg.refl st) ?_);unfold Ml at m2;rw[du c1]at m2;rw[zA2,zA2 (ys:=b.extract ib b.size),cg,cg,du c1];exact m2.el λ y hy=>zAe (B.la _ c1 y (zBQ hy))
  .rw[if_neg (by simpa using c1)]
   by_cases c2:ia+k=a.size
   .rw[if_pos (by simpa using c2)]
    refine zA5 (t.ret _ _ _ _ _ _ _ _ (Eg.refl st) ?_);unfold Ml at m2;have hz:a.toList.drop (ia+k)=[]:=zCV (by simp;lia);rw[hz]at m2;rw[zA2,zA2 (ys:=a.extract (ia+k) a.size),cg,cg,hz,zAx];exact m2.eb
   .rw[if_neg (by simpa using c2)]
    exact aGL c hκ B t m2 (by lia) h2 (by lia) hr
 .rw[if_neg c0]
  have:k=0:=by lia
  subst this;exact aGL c hκ B t m h1 h2 h3 hr
def aGK(c:Cm prog w A s κ O kf G)(hκ:zBz st=κ)(B:Ab O kf G a b)(t:Tu O kf T a b m0 st Q)(m:Ml O kf T a b out ia ib)(h1:ia+1<a.size)(h2:ib<b.size)(h3:m0<=ia+1+ib):
  wpS (model prog w) A E s (frF a b out ia ib mg ac bc) Q st:=by
 unfold frF;refine zAX (yG λ st1 e1=>?_);refine zAX (b7 (zAH h2) ?_);refine zAX (jU c (e1.k.trans hκ) (B.gb _ (by simp)) (a.toList.drop ia) (λ i hi=>?_) (by simp) (λ x hx=>B.ga x (zBQ hx)) m.sa (by lia) λ k k1 k2 k3=>?_)
 .rw[zBa,zAR]
 .simp only[zAZ,if_false]at k2 k3
  exact aLU c (e1.k.trans hκ) B (t.eg e1) m h1 h2 h3 k1 k2 k3
end
def aMQ:Array Keyed->Array Keyed->StateT SortSt Sem (Array Keyed):=sortPriv%PySem.Builtin.mergeLo
section
variable{prog:zA7}{w:World}{A:zAt}{E:Value->zAF->Prop}{s:zAF}{κ:zDY}{O:zCZ}{kf:Keyed->O.α}{G:Keyed->Prop}{T:List Keyed}{a b:Array Keyed}{st:zBD}{Q:Array Keyed->zBD->Prop}
def aGx(c:Cm prog w A s κ O kf G)(hκ:zBz st=κ)(B:Ab O kf G a b)(hT:(a.toList++b.toList).Perm T)(sa:a.toList.Pairwise (rK O kf))(sb:b.toList.Pairwise (rK O kf))(ha:0<a.size)(hb:0<b.size)(hf:O.klt (kf b[0]) (kf a[0]))
  (h:∀o st',Eg st st'->Mf (rK O kf) T o.toList->Q o st'):wpS (model prog w) A E s (aMQ a b) Q st:=by
 refine zAX (zGE (zEn ⟨rfl,?_⟩));refine zAX (b7 (zAH hb) ?_);have m1:Ml O kf T a b #[b[0]] 0 1:=by
  have m0:Mg (rK O kf) T [] (a.toList.drop 0) (b.toList.drop 0):=⟨by simpa using hT,.nil,λ x hx=>by simp at hx,by simpa using sa,by simpa using sb⟩;rw[bR (a:=b) hb]at m0;refine Mg.tb (L:=[b[0]]) m0 λ x hx y hy=>?_
  rw[zAN.mp hx];rw[bR ha]at hy
  have:=m0.sa
  rw[bR ha]at this;rcases zAM.mp hy with rfl|hy
  .exact zAe hf
  .exact zAm (zAe hf) ((zAb.mp this).1 y hy)
 dsimp only;by_cases c1:1=b.size
 .rw[if_pos (by simpa using c1)]
  refine zA5 (h _ _ (Eg.refl st) ?_);have hz:b.toList.drop 1=[]:=zCV (by simp;lia);unfold Ml at m1;rw[hz]at m1;rw[zA2,zA2,cg,cg,hz,zAx];exact m1.ea
 rw[if_neg (by simpa using c1)];by_cases c2:0+1=a.size
 .rw[if_pos (by simpa using c2)]
  refine zA5 (h _ _ (Eg.refl st) ?_);unfold Ml at m1;rw[du c2]at m1;rw[zA2,zA2,cg,cg,du c2];exact m1.el λ y hy=>zAe (B.la _ c2 y (zBQ hy))
 rw[if_neg (by simpa using c2)];refine zAX (zEe ?_);refine zAX (zDP (zBh (I:=λ x c st'=>Eg st st'/\∃out ia ib mg,c=(none,out,ia,ib,mg)/\Ml O kf T a b out ia ib/\ia+1<a.size/\ib<b.size/\x<ia+ib)
  (Q:=λ c st'=>Eg st st'/\∃o,c.1=some o/\Mf (rK O kf) T o.toList) ?_ ?_ ⟨Eg.refl st,_,_,_,_,rfl,m1,by lia,by lia,by lia⟩) ?_)
 .rintro x ⟨_,_⟩ st1 _ hx ⟨e1,out,ia,ib,mg,hc,m,h1,h2,h3⟩
  cases hc;dsimp only;refine zAX (zDP (zBh (I:=λ _ c st'=>Eg st st'/\∃out ia ib ac bc,c=(none,out,ia,ib,ac,bc)/\Ml O kf T a b out ia ib/\ia+1<a.size/\ib<b.size/\x<ia+ib)
   (Q:=λ c st'=>Eg st st'/\((∃o,c.1=some o/\Mf (rK O kf) T o.toList)\/∃out ia ib ac bc,c=(none,out,ia,ib,ac,bc)/\Ml O kf T a b out ia ib/\ia+1<a.size/\ib<b.size/\x<ia+ib)) ?_ (λ c st' ⟨e,z⟩=>⟨e,.inr z⟩) ⟨e1,_,_,_,_,_,rfl,m,h1,h2,h3⟩) ?_)
  .rintro y ⟨_,_⟩ st2 _ hy ⟨e2,out,ia,ib,ac,bc,hc,m,h1,h2,h3⟩
   cases hc;dsimp only;refine zAX (b7 (zAH h2) ?_);refine zAX (b7 (zAH (by lia)) ?_);refine zAX (pA c (e2.k.trans hκ) (B.gb _ (by simp)) (B.ga _ (by simp)) ?_);dsimp only;have sA:=m.sa;have sB:=m.sb;rw[bR (by lia)]at sA;rw[bR (a:=b) h2]at sB;cases hlt:O.blt (kf b[ib]) (kf (a[ia]'(by lia)))with
   |true=>
    rw[if_pos rfl];refine zAX (b7 (zAH h2) ?_);have m2:Ml O kf T a b (out.push b[ib]) ia (ib+1):=by
     unfold Ml at m ⊢;rw[bR (a:=b) h2]at m;rw[zBS];refine Mg.tb (L:=[b[ib]]) m λ x hx y hy=>?_
     rw[zAN.mp hx];rw[bR (by lia)]at hy;rcases zAM.mp hy with rfl|hy
     .exact zAe hlt
     .exact zAm (zAe hlt) ((zAb.mp sA).1 y hy)
    by_cases c3:ib+1=b.size
    .rw[if_pos (by simpa using c3)]
     refine zA5 ⟨e2,.inl ⟨_,rfl,?_⟩⟩;have hz:b.toList.drop (ib+1)=[]:=zCV (by simp;lia);unfold Ml at m2;rw[hz]at m2;rw[zA2,zA2,cg,cg,hz,zAx];exact m2.ea
    .rw[if_neg (by simpa using c3)]
     split
     .exact zA5 ⟨e2,.inr ⟨_,_,_,_,_,rfl,m2,h1,by lia,by lia⟩⟩
     .exact zA5 ⟨e2,_,_,_,_,_,rfl,m2,h1,by lia,by lia⟩
   |false=>
    rw[if_neg zAS];refine zAX (b7 (zAH (by lia)) ?_);have m2:Ml O kf T a b (out.push (a[ia]'(by lia))) (ia+1) ib:=by
     unfold Ml at m ⊢;rw[bR (by lia)]at m;rw[zBS];refine Mg.ta (L:=[a[ia]'(by lia)]) m λ x hx y hy=>?_
     rw[zAN.mp hx];rw[bR (a:=b) h2]at hy;rcases zAM.mp hy with rfl|hy
     .exact hlt
     .exact zAm hlt ((zAb.mp sB).1 y hy)
    by_cases c3:ia+1+1=a.size
    .rw[if_pos (by simpa using c3)]
     refine zA5 ⟨e2,.inl ⟨_,rfl,?_⟩⟩;unfold Ml at m2;rw[du c3]at m2;rw[zA2,zA2,cg,cg,du c3];exact m2.el λ y hy=>zAe (B.la _ c3 y (zBQ hy))
    .rw[if_neg (by simpa using c3)]
     split
     .exact zA5 ⟨e2,.inr ⟨_,_,_,_,_,rfl,m2,by lia,h2,by lia⟩⟩
     .exact zA5 ⟨e2,_,_,_,_,_,rfl,m2,by lia,h2,by lia⟩
  .rintro⟨r1,c1⟩ st2 ⟨e2,⟨o,ho,hm⟩|⟨out,ia,ib,ac,bc,hc,m,h1,h2,h3⟩⟩
   .cases ho
    exact zA5 ⟨e2,o,rfl,hm⟩
   .cases hc
    dsimp only;refine zAX (zGE (zEn ⟨rfl,?_⟩));refine zAX (zDP (zBh (I:=λ z c st'=>Eg st st'/\∃out ia ib mg ac bc,c=(none,out,ia,ib,mg,ac,bc)/\Ml O kf T a b out ia ib/\ia+1<a.size/\ib<b.size/\x+min z 1<ia+ib)
     (Q:=λ c st'=>Eg st st'/\((∃o,c.1=some o/\Mf (rK O kf) T o.toList)\/∃out ia ib mg ac bc,c=(none,out,ia,ib,mg,ac,bc)/\Ml O kf T a b out ia ib/\ia+1<a.size/\ib<b.size/\x+1<ia+ib)) ?_ ?_ ⟨e2,_,_,_,_,_,_,rfl,m,h1,h2,by lia⟩) ?_)
    .rintro z ⟨_,_⟩ st3 _ hz ⟨e3,out,ia,ib,mg,ac,bc,hc,m,h1,h2,h3⟩
     cases hc;dsimp only;by_cases c5:mg>1
     .rw[if_pos c5]
      refine aGK (m0:=x+1) (mg:=mg-1) (ac:=ac) (bc:=bc) c (e3.k.trans hκ) B ?_ m h1 h2 (by lia);exact⟨λ o out ia ib mg ac bc st' e hm=>⟨e3.trans e,.inl ⟨o,rfl,hm⟩⟩,λ out ia ib mg ac bc st' e m h1 h2 h3=>⟨⟨e3.trans e,.inr ⟨_,_,_,_,_,_,rfl,m,h1,h2,h3⟩⟩,e3.trans e,_,_,_,_,_,_,rfl,m,h1,h2,by lia⟩⟩
     .rw[if_neg c5]
      refine aGK (m0:=x+1) (mg:=mg) (ac:=ac) (bc:=bc) c (e3.k.trans hκ) B ?_ m h1 h2 (by lia);exact⟨λ o out ia ib mg ac bc st' e hm=>⟨e3.trans e,.inl ⟨o,rfl,hm⟩⟩,λ out ia ib mg ac bc st' e m h1 h2 h3=>⟨⟨e3.trans e,.inr ⟨_,_,_,_,_,_,rfl,m,h1,h2,h3⟩⟩,e3.trans e,_,_,_,_,_,_,rfl,m,h1,h2,by lia⟩⟩
    .rintro c st' ⟨e,out,ia,ib,mg,ac,bc,hc,m,h1,h2,h3⟩
     exact⟨e,.inr ⟨_,_,_,_,_,_,hc,m,h1,h2,by lia⟩⟩
    .rintro⟨r1,c1⟩ st3 ⟨e3,⟨o,ho,hm⟩|⟨out,ia,ib,mg,ac,bc,hc,m,h1,h2,h3⟩⟩
     .cases ho
      exact zA5 ⟨e3,o,rfl,hm⟩
     .cases hc
      dsimp only;refine zAX (yG λ st4 e4=>?_);exact zA5 ⟨e3.trans e4,_,_,_,_,rfl,m,h1,h2,h3⟩
 .rintro c st' ⟨e,out,ia,ib,mg,hc,m,h1,h2,h3⟩
  lia
 .rintro⟨r1,c1⟩ st' ⟨e,o,ho,hm⟩
  cases ho;exact zA5 (h o st' e hm)
end
def mY(a:Array Keyed)(j:Nat):(a.extract 0 j).toList=a.toList.take j:=by rw[kW];rfl
def aGQ(a:Array Keyed)(j n:Nat):(a.extract j n).reverse.toList=((a.toList.take n).drop j).reverse:=by
 rw[zDj,kW,List.drop_take]
def zq(l:List Keyed){j n:Nat}(h:j<=n):(l.take n).reverse=((l.take n).drop j).reverse++(l.take j).reverse:=by
 rw[<-zCk];congr 1
 conv=>lhs;rw[<-zAf j (l.take n)]
 rw[zDL,zCc h]
def iJ{a:Array Keyed}{n:Nat}(h0:0<n)(h:n<=a.size):(a.toList.take n).reverse=(a[n-1]'(by lia))::(a.toList.take (n-1)).reverse:=by
 have e:n=(n-1)+1:=by lia
 conv=>lhs;rw[e]
 rw[zD1 (by simp;lia),zCk];rfl
abbrev HS:=Option (Array Keyed)×Nat×Nat×Array Keyed×Nat×Nat×Nat
abbrev HM:=StateT zBD Sem (ForInStep HS)
def hrA(a b out:Array Keyed)(na nb mg ac bc:Nat):HM:=elem' a (na-1)>>=λ x=>if (na-1==0)=true then pure (.done (some (a.extract 0 (na-1)++b.extract 0 nb++(out.push x).reverse),na-1,nb,out.push x,mg,ac,bc))
 else if (decide (ac<7)&&decide (bc<7))=true then pure (.done (none,na-1,nb,out.push x,mg,ac,bc))else pure (.yield (none,na-1,nb,out.push x,mg,ac,bc))
def hrB(a b out:Array Keyed)(na nb mg ac j:Nat):HM:=if nb-j>0 then(if (j==1)=true then pure (.done (some (b.extract 0 j++a.extract 0 na++(out++(b.extract j nb).reverse).reverse),na,j,out++(b.extract j nb).reverse,mg,ac,nb-j))
 else if (j==0)=true then pure (.done (some (a.extract 0 na++b.extract 0 j++(out++(b.extract j nb).reverse).reverse),na,j,out++(b.extract j nb).reverse,mg,ac,nb-j))else hrA a b (out++(b.extract j nb).reverse) na j mg ac (nb-j))else hrA a b out na nb mg ac (nb-j)
def hrC(a b out:Array Keyed)(na nb mg ac bc:Nat):HM:=elem' a (na-1)>>=λ x=>aDu true x b 0 nb (nb-1)>>=λ r=>match r with
 |some j=>hrB a b out na nb mg ac j
 |_=>pure (.done (some (a.extract 0 na++b.extract 0 nb++out.reverse),na,nb,out,mg,ac,bc))
def hrD(a b out:Array Keyed)(na nb mg ac bc:Nat):HM:=elem' b (nb-1)>>=λ x=>if (nb-1==1)=true then pure (.done (some (b.extract 0 (nb-1)++a.extract 0 na++(out.push x).reverse),na,nb-1,out.push x,mg,ac,bc))else hrC a b (out.push x) na (nb-1) mg ac bc
def hrE(a b out:Array Keyed)(na nb mg j bc:Nat):HM:=if na-j>0 then(if (j==0)=true then pure (.done (some (a.extract 0 j++b.extract 0 nb++(out++(a.extract j na).reverse).reverse),j,nb,out++(a.extract j na).reverse,mg,na-j,bc))else hrD a b (out++(a.extract j na).reverse) j nb mg (na-j) bc)else hrD a b out na nb mg (na-j) bc
def hrF(a b out:Array Keyed)(na nb mg ac bc:Nat):HM:=sgP mg>>=λ _=>elem' b (nb-1)>>=λ x=>aDu false x a 0 na (na-1)>>=λ r=>match r with
 |some j=>hrE a b out na nb mg j bc
 |_=>pure (.done (some (a.extract 0 na++b.extract 0 nb++out.reverse),na,nb,out,mg,ac,bc))
section
variable{prog:zA7}{w:World}{A:zAt}{E:Value->zAF->Prop}{s:zAF}{κ:zDY}{O:zCZ}{kf:Keyed->O.α}{G:Keyed->Prop}{T:List Keyed}{a b out:Array Keyed}{na nb mg ac bc j m0:Nat}{st:zBD}{Q:ForInStep HS->zBD->Prop}
abbrev rH(O:zCZ)(kf:Keyed->O.α)(x y:Keyed):Prop:=O.kle (kf y) (kf x)
abbrev Mh(O:zCZ)(kf:Keyed->O.α)(T:List Keyed)(a b out:Array Keyed)(na nb:Nat):Prop:=Mg (rH O kf) T out.toList (a.toList.take na).reverse (b.toList.take nb).reverse
def Mf.rev{l:List Keyed}(h:Mf (rH O kf) T l):Mf (rK O kf) T l.reverse:=⟨(zD6 l).trans h.1,zC3.mpr h.2⟩
def Mh.enA{n:Nat}(hn:n=0)(m:Mh O kf T a b out n nb):Mf (rK O kf) T (a.extract 0 n++b.extract 0 nb++out.reverse).toList:=by
 subst hn
 have:=m.eb.rev
 rw[zCk,zDp]at this;rw[zA2,zA2,mY,mY,zDj];exact this
def Mh.enB{n:Nat}(hn:n=0)(m:Mh O kf T a b out na n):Mf (rK O kf) T (a.extract 0 na++b.extract 0 n++out.reverse).toList:=by
 subst hn
 have:=m.ea.rev
 rw[zCk,zDp]at this;rw[zA2,zA2,mY,mY,zDj,zD8,zAx];exact this
def Mh.enF{n:Nat}(h0:0<b.size)(fb:∀x∈a.toList,O.kle (kf b[0]) (kf x))(hn:n=1)(m:Mh O kf T a b out na n):Mf (rK O kf) T (b.extract 0 n++a.extract 0 na++out.reverse).toList:=by
 subst hn;have e:(b.toList.take 1).reverse=[b[0]]:=by rw[iJ (by decide) h0];rfl
 unfold Mh at m;rw[e]at m
 have:=(m.flip.el λ y hy=>fb y (zBR (zB7.mp hy))).rev
 rw[zCk,zCk,zDp,List.reverse_singleton]at this;have e1:b.toList.take 1=[b[0]]:=by rw[<-zDp (b.toList.take 1),e];rfl
 rw[zA2,zA2,mY,mY,zDj,e1,zAd];exact this
structure Bb(O:zCZ)(kf:Keyed->O.α)(G:Keyed->Prop)(a b:Array Keyed):Prop where
 ga:∀x∈a.toList,G x
 gb:∀x∈b.toList,G x
 b0:0<b.size
 fb:∀x∈a.toList,O.kle (kf b[0]) (kf x)
structure Th(O:zCZ)(kf:Keyed->O.α)(T:List Keyed)(a b:Array Keyed)(m0:Nat)(st:zBD)(Q:ForInStep HS->zBD->Prop):Prop where
 ret:∀o na nb out mg ac bc st',Eg st st'->Mf (rK O kf) T o.toList->Q (.done (some o,na,nb,out,mg,ac,bc)) st'
 on:∀na nb out mg ac bc st',Eg st st'->Mh O kf T a b out na nb->0<na->1<nb->na<=a.size->nb<=b.size->na+nb<m0->Q (.done (none,na,nb,out,mg,ac,bc)) st'/\Q (.yield (none,na,nb,out,mg,ac,bc)) st'
def Th.eg{st1:zBD}(t:Th O kf T a b m0 st Q)(h:Eg st st1):Th O kf T a b m0 st1 Q:=
 ⟨λ o na nb out mg ac bc st' e f=>t.ret o na nb out mg ac bc st' (h.trans e) f,λ na nb out mg ac bc st' e=>t.on na nb out mg ac bc st' (h.trans e)⟩
def Mh.pa(m:Mh O kf T a b out na nb)(h0:0<na)(h1:na<=a.size)(hl:∀y∈b.toList.take nb,O.kle (kf y) (kf (a[na-1]'(by lia)))):Mh O kf T a b (out.push (a[na-1]'(by lia))) (na-1) nb:=by
 unfold Mh at m ⊢;rw[iJ h0 h1]at m;rw[zBS];exact Mg.ta (L:=[a[na-1]'(by lia)]) m λ x hx y hy=>by rw[zAN.mp hx];exact hl y (zB7.mp hy)
def Mh.pb(m:Mh O kf T a b out na nb)(h0:0<nb)(h1:nb<=b.size)(hl:∀y∈a.toList.take na,O.kle (kf y) (kf (b[nb-1]'(by lia)))):Mh O kf T a b (out.push (b[nb-1]'(by lia))) na (nb-1):=by
 unfold Mh at m ⊢;rw[iJ h0 h1]at m;rw[zBS];exact Mg.tb (L:=[b[nb-1]'(by lia)]) m λ x hx y hy=>by rw[zAN.mp hx];exact hl y (zB7.mp hy)
def Mh.la(m:Mh O kf T a b out na nb)(h0:0<na)(h1:na<=a.size):∀y∈a.toList.take na,O.kle (kf y) (kf (a[na-1]'(by lia))):=λ y hy=>by
 have:=m.sa
 rw[iJ h0 h1]at this;have hy2:y∈(a.toList.take na).reverse:=zB7.mpr hy;rw[iJ h0 h1]at hy2;rcases zAM.mp hy2 with rfl|h
 .exact zBl _
 .exact(zAb.mp this).1 y h
def Mh.lb(m:Mh O kf T a b out na nb)(h0:0<nb)(h1:nb<=b.size):∀y∈b.toList.take nb,O.kle (kf y) (kf (b[nb-1]'(by lia))):=λ y hy=>by
 have:=m.sb
 rw[iJ h0 h1]at this;have hy2:y∈(b.toList.take nb).reverse:=zB7.mpr hy;rw[iJ h0 h1]at hy2;rcases zAM.mp hy2 with rfl|h
 .exact zBl _
 .exact(zAb.mp this).1 y h
def aFx(B:Bb O kf G a b)(t:Th O kf T a b m0 st Q)(m:Mh O kf T a b out na nb)(h0:0<na)(h1:na<=a.size)(h2:1<nb)(h3:nb<=b.size)(h4:na+nb<=m0)(hl:∀y∈b.toList.take nb,O.kle (kf y) (kf (a[na-1]'(by lia)))):
  wpS (model prog w) A E s (hrA a b out na nb mg ac bc) Q st:=by
 have m2:=m.pa h0 h1 hl;unfold hrA;refine zAX (b7 (zAH (by lia)) ?_);by_cases c1:na-1=0
 .rw[if_pos (by simpa using c1)]
  refine zA5 (t.ret _ _ _ _ _ _ _ _ (Eg.refl st) ?_);exact Mh.enA c1 m2
 .rw[if_neg (by simpa using c1)]
  have:=t.on _ _ _ mg ac bc _ (Eg.refl st) m2 (by lia) h2 (by lia) h3 (by lia)
  split
  .exact zA5 this.1
  .exact zA5 this.2
def aLP(B:Bb O kf G a b)(t:Th O kf T a b m0 st Q)(m:Mh O kf T a b out na nb)(h0:0<na)(h1:na<=a.size)(h2:1<nb)(h3:nb<=b.size)(h4:na+nb<=m0)(hj:j<=nb)
  (hl:∀y∈(b.toList.take nb).take j,O.klt (kf y) (kf (a[na-1]'(by lia))))(hr:∀y∈(b.toList.take nb).drop j,O.kle (kf (a[na-1]'(by lia))) (kf y)):wpS (model prog w) A E s (hrB a b out na nb mg ac j) Q st:=by
 unfold hrB;rw[zDL,zCc hj]at hl;by_cases c0:nb-j>0
 .rw[if_pos c0]
  have m2:Mh O kf T a b (out++(b.extract j nb).reverse) na j:=by
   have la:=m.la h0 h1;unfold Mh at m ⊢;rw[zq b.toList hj]at m;rw[zA2,aGQ];exact m.tb λ x hx y hy=>zAm (la y (zB7.mp hy)) (hr x (zB7.mp hx))
  by_cases c1:j=1
  .rw[if_pos (by simpa using c1)]
   refine zA5 (t.ret _ _ _ _ _ _ _ _ (Eg.refl st) ?_);exact Mh.enF B.b0 B.fb c1 m2
  .rw[if_neg (by simpa using c1)]
   by_cases c2:j=0
   .rw[if_pos (by simpa using c2)]
    refine zA5 (t.ret _ _ _ _ _ _ _ _ (Eg.refl st) ?_);exact Mh.enB c2 m2
   .rw[if_neg (by simpa using c2)]
    exact aFx B t m2 h0 h1 (by lia) (by lia) (by lia) λ y hy=>zAe (hl y hy)
 .rw[if_neg c0]
  have:j=nb:=by lia
  subst this;exact aFx B t m h0 h1 h2 h3 h4 λ y hy=>zAe (hl y hy)
def aC7{a:Array Keyed}{n i:Nat}(h:i<n):a[0+i]? =(a.toList.take n)[i]?:=by
 rw[zBW h,zAR,zDU]
def aLO(c:Cm prog w A s κ O kf G)(hκ:zBz st=κ)(B:Bb O kf G a b)(t:Th O kf T a b m0 st Q)(m:Mh O kf T a b out na nb)(h0:0<na)(h1:na<=a.size)(h2:1<nb)(h3:nb<=b.size)(h4:na+nb<=m0):
  wpS (model prog w) A E s (hrC a b out na nb mg ac bc) Q st:=by
 unfold hrC;refine zAX (b7 (zAH (by lia)) ?_);refine zAX (jU c hκ (B.ga _ (by simp)) (b.toList.take nb) (λ i hi=>aC7 hi) (by simp;lia) (λ x hx=>B.gb x (zBR hx)) (by have:=m.sb;rwa [zC3]at this) (by lia) λ k k1 k2 k3=>?_);simp only[if_true]at k2 k3;exact aLP B t m h0 h1 h2 h3 h4 k1 k2 k3
def aFw(c:Cm prog w A s κ O kf G)(hκ:zBz st=κ)(B:Bb O kf G a b)(t:Th O kf T a b m0 st Q)(m:Mh O kf T a b out na nb)(h0:0<na)(h1:na<=a.size)(h2:1<nb)(h3:nb<=b.size)(h4:na+nb<=m0+1)(hl:∀y∈a.toList.take na,O.kle (kf y) (kf (b[nb-1]'(by lia)))):
  wpS (model prog w) A E s (hrD a b out na nb mg ac bc) Q st:=by
 have m2:=m.pb (by lia) h3 hl;unfold hrD;refine zAX (b7 (zAH (by lia)) ?_);by_cases c1:nb-1=1
 .rw[if_pos (by simpa using c1)]
  refine zA5 (t.ret _ _ _ _ _ _ _ _ (Eg.refl st) ?_);exact Mh.enF B.b0 B.fb c1 m2
 .rw[if_neg (by simpa using c1)]
  exact aLO c hκ B t m2 h0 h1 (by lia) (by lia) (by lia)
def aLN(c:Cm prog w A s κ O kf G)(hκ:zBz st=κ)(B:Bb O kf G a b)(t:Th O kf T a b m0 st Q)(m:Mh O kf T a b out na nb)(h0:0<na)(h1:na<=a.size)(h2:1<nb)(h3:nb<=b.size)(h4:na+nb<=m0+1)(hj:j<=na)
  (hl:∀y∈(a.toList.take na).take j,O.kle (kf y) (kf (b[nb-1]'(by lia))))(hr:∀y∈(a.toList.take na).drop j,O.klt (kf (b[nb-1]'(by lia))) (kf y)):wpS (model prog w) A E s (hrE a b out na nb mg j bc) Q st:=by
 unfold hrE;rw[zDL,zCc hj]at hl;by_cases c0:na-j>0
 .rw[if_pos c0]
  have m2:Mh O kf T a b (out++(a.extract j na).reverse) j nb:=by
   have lb:=m.lb (by lia) h3;unfold Mh at m ⊢;rw[zq a.toList hj]at m;rw[zA2,aGQ];exact m.ta λ x hx y hy=>zAm (lb y (zB7.mp hy)) (zAe (hr x (zB7.mp hx)))
  by_cases c1:j=0
  .rw[if_pos (by simpa using c1)]
   refine zA5 (t.ret _ _ _ _ _ _ _ _ (Eg.refl st) ?_);exact Mh.enA c1 m2
  .rw[if_neg (by simpa using c1)]
   exact aFw c hκ B t m2 (by lia) (by lia) h2 h3 (by lia) hl
 .rw[if_neg c0]
  have:j=na:=by lia
  subst this;exact aFw c hκ B t m h0 h1 h2 h3 h4 hl
def aFv(c:Cm prog w A s κ O kf G)(hκ:zBz st=κ)(B:Bb O kf G a b)(t:Th O kf T a b m0 st Q)(m:Mh O kf T a b out na nb)(h0:0<na)(h1:na<=a.size)(h2:1<nb)(h3:nb<=b.size)(h4:na+nb<=m0+1):
  wpS (model prog w) A E s (hrF a b out na nb mg ac bc) Q st:=by
 unfold hrF;refine zAX (yG λ st1 e1=>?_);refine zAX (b7 (zAH (by lia)) ?_);refine zAX (jU c (e1.k.trans hκ) (B.gb _ (by simp)) (a.toList.take na) (λ i hi=>aC7 hi) (by simp;lia) (λ x hx=>B.ga x (zBR hx)) (by have:=m.sa;rwa [zC3]at this) (by lia) λ k k1 k2 k3=>?_);simp only[zAZ,if_false]at k2 k3;exact aLN c (e1.k.trans hκ) B (t.eg e1) m h0 h1 h2 h3 h4 k1 k2 k3
end
def aMR:Array Keyed->Array Keyed->StateT SortSt Sem (Array Keyed):=sortPriv%PySem.Builtin.mergeHi
section
variable{prog:zA7}{w:World}{A:zAt}{E:Value->zAF->Prop}{s:zAF}{κ:zDY}{O:zCZ}{kf:Keyed->O.α}{G:Keyed->Prop}{T:List Keyed}{a b:Array Keyed}{st:zBD}{Q:Array Keyed->zBD->Prop}
def aGy(c:Cm prog w A s κ O kf G)(hκ:zBz st=κ)(B:Bb O kf G a b)(hT:(a.toList++b.toList).Perm T)(sa:a.toList.Pairwise (rK O kf))(sb:b.toList.Pairwise (rK O kf))(ha:0<a.size)(hl:∀y∈b.toList,O.kle (kf y) (kf (a[a.size-1]'(by lia))))
  (h:∀o st',Eg st st'->Mf (rK O kf) T o.toList->Q o st'):wpS (model prog w) A E s (aMR a b) Q st:=by
 refine zAX (zGE (zEn ⟨rfl,?_⟩));refine zAX (b7 (zAH (by lia)) ?_);have hb:=B.b0;have m1:Mh O kf T a b #[a[a.size-1]'(by lia)] (a.size-1) b.size:=by
  have ea:a.toList.take a.size=a.toList:=zBE (by simp);have eb:b.toList.take b.size=b.toList:=zBE (by simp);have m0:Mh O kf T a b #[] a.size b.size:=by
   unfold Mh;rw[ea,eb];exact⟨((zD6 _).append (zD6 _)).trans hT,.nil,λ x hx=>by simp at hx,zC3.mpr sa,zC3.mpr sb⟩
  exact Mh.pa m0 ha (zAW _) λ y hy=>hl y (zBR hy)
 dsimp only;by_cases c1:a.size-1=0
 .rw[if_pos (by simpa using c1)]
  exact zA5 (h _ _ (Eg.refl st) (Mh.enA c1 m1))
 rw[if_neg (by simpa using c1)];by_cases c2:b.size=1
 .rw[if_pos (by simpa using c2)]
  exact zA5 (h _ _ (Eg.refl st) (Mh.enF B.b0 B.fb c2 m1))
 rw[if_neg (by simpa using c2)];refine zAX (zEe ?_);refine zAX (zDP (zBh (I:=λ x c st'=>Eg st st'/\∃na nb out mg,c=(none,na,nb,out,mg)/\Mh O kf T a b out na nb/\0<na/\1<nb/\na<=a.size/\nb<=b.size/\x+na+nb<a.size+b.size)
  (Q:=λ c st'=>Eg st st'/\∃o,c.1=some o/\Mf (rK O kf) T o.toList) ?_ ?_ ⟨Eg.refl st,_,_,_,_,rfl,m1,by lia,by lia,by lia,by lia,by lia⟩) ?_)
 .rintro x ⟨_,_⟩ st1 _ hx ⟨e1,na,nb,out,mg,hc,m,h0,h2,h1,h3,h4⟩
  cases hc;dsimp only;refine zAX (zDP (zBh (I:=λ _ c st'=>Eg st st'/\∃na nb out ac bc,c=(none,na,nb,out,ac,bc)/\Mh O kf T a b out na nb/\0<na/\1<nb/\na<=a.size/\nb<=b.size/\x+na+nb<a.size+b.size)
   (Q:=λ c st'=>Eg st st'/\((∃o,c.1=some o/\Mf (rK O kf) T o.toList)\/∃na nb out ac bc,c=(none,na,nb,out,ac,bc)/\Mh O kf T a b out na nb/\0<na/\1<nb/\na<=a.size/\nb<=b.size/\x+na+nb<a.size+b.size)) ?_ (λ c st' ⟨e,z⟩=>⟨e,.inr z⟩) ⟨e1,_,_,_,_,_,rfl,m,h0,h2,h1,h3,h4⟩) ?_)
  .rintro y ⟨_,_⟩ st2 _ hy ⟨e2,na,nb,out,ac,bc,hc,m,h0,h2,h1,h3,h4⟩
   cases hc;dsimp only;refine zAX (b7 (zAH (by lia)) ?_);refine zAX (b7 (zAH (by lia)) ?_);refine zAX (pA c (e2.k.trans hκ) (B.gb _ (by simp)) (B.ga _ (by simp)) ?_);dsimp only;cases hlt:O.blt (kf (b[nb-1]'(by lia))) (kf (a[na-1]'(by lia)))with
   |true=>
    rw[if_pos rfl];refine zAX (b7 (zAH (by lia)) ?_);have m2:=Mh.pa m h0 h1 λ y hy=>zAm (Mh.lb m (by lia) h3 y hy) (zAe hlt)
    by_cases c3:na-1=0
    .rw[if_pos (by simpa using c3)]
     exact zA5 ⟨e2,.inl ⟨_,rfl,Mh.enA c3 m2⟩⟩
    .rw[if_neg (by simpa using c3)]
     split
     .exact zA5 ⟨e2,.inr ⟨_,_,_,_,_,rfl,m2,by lia,h2,by lia,h3,by lia⟩⟩
     .exact zA5 ⟨e2,_,_,_,_,_,rfl,m2,by lia,h2,by lia,h3,by lia⟩
   |false=>
    rw[if_neg zAS];refine zAX (b7 (zAH (by lia)) ?_);have m2:=Mh.pb m (by lia) h3 λ y hy=>zAm (Mh.la m h0 h1 y hy) hlt
    by_cases c3:nb-1=1
    .rw[if_pos (by simpa using c3)]
     exact zA5 ⟨e2,.inl ⟨_,rfl,Mh.enF B.b0 B.fb c3 m2⟩⟩
    .rw[if_neg (by simpa using c3)]
     split
     .exact zA5 ⟨e2,.inr ⟨_,_,_,_,_,rfl,m2,h0,by lia,h1,by lia,by lia⟩⟩
     .exact zA5 ⟨e2,_,_,_,_,_,rfl,m2,h0,by lia,h1,by lia,by lia⟩
  .rintro⟨r1,c1⟩ st2 ⟨e2,⟨o,ho,hm⟩|⟨na,nb,out,ac,bc,hc,m,h0,h2,h1,h3,h4⟩⟩
   .cases ho
    exact zA5 ⟨e2,o,rfl,hm⟩
   .cases hc
    dsimp only;refine zAX (zGE (zEn ⟨rfl,?_⟩));refine zAX (zDP (zBh (I:=λ z c st'=>Eg st st'/\∃na nb out mg ac bc,c=(none,na,nb,out,mg,ac,bc)/\Mh O kf T a b out na nb/\0<na/\1<nb/\na<=a.size/\nb<=b.size/\x+min z 1+na+nb<a.size+b.size)
     (Q:=λ c st'=>Eg st st'/\((∃o,c.1=some o/\Mf (rK O kf) T o.toList)\/∃na nb out mg ac bc,c=(none,na,nb,out,mg,ac,bc)/\Mh O kf T a b out na nb/\0<na/\1<nb/\na<=a.size/\nb<=b.size/\x+1+na+nb<a.size+b.size)) ?_ ?_ ⟨e2,_,_,_,_,_,_,rfl,m,h0,h2,h1,h3,by lia⟩) ?_)
    .rintro z ⟨_,_⟩ st3 _ hz ⟨e3,na,nb,out,mg,ac,bc,hc,m,h0,h2,h1,h3,h4⟩
     cases hc;dsimp only;by_cases c5:mg>1
     .rw[if_pos c5]
      refine aFv (m0:=a.size+b.size-x-1) (mg:=mg-1) (ac:=ac) (bc:=bc) c (e3.k.trans hκ) B ?_ m h0 h1 h2 h3 (by lia);exact⟨λ o na nb out mg ac bc st' e hm=>⟨e3.trans e,.inl ⟨o,rfl,hm⟩⟩,λ na nb out mg ac bc st' e m h0 h2 h1 h3 h4=>⟨⟨e3.trans e,.inr ⟨_,_,_,_,_,_,rfl,m,h0,h2,h1,h3,by lia⟩⟩,e3.trans e,_,_,_,_,_,_,rfl,m,h0,h2,h1,h3,by lia⟩⟩
     .rw[if_neg c5]
      refine aFv (m0:=a.size+b.size-x-1) (mg:=mg) (ac:=ac) (bc:=bc) c (e3.k.trans hκ) B ?_ m h0 h1 h2 h3 (by lia);exact⟨λ o na nb out mg ac bc st' e hm=>⟨e3.trans e,.inl ⟨o,rfl,hm⟩⟩,λ na nb out mg ac bc st' e m h0 h2 h1 h3 h4=>⟨⟨e3.trans e,.inr ⟨_,_,_,_,_,_,rfl,m,h0,h2,h1,h3,by lia⟩⟩,e3.trans e,_,_,_,_,_,_,rfl,m,h0,h2,h1,h3,by lia⟩⟩
    .rintro c st' ⟨e,na,nb,out,mg,ac,bc,hc,m,h0,h2,h1,h3,h4⟩
     exact⟨e,.inr ⟨_,_,_,_,_,_,hc,m,h0,h2,h1,h3,by lia⟩⟩
    .rintro⟨r1,c1⟩ st3 ⟨e3,⟨o,ho,hm⟩|⟨na,nb,out,mg,ac,bc,hc,m,h0,h2,h1,h3,h4⟩⟩
     .cases ho
      exact zA5 ⟨e3,o,rfl,hm⟩
     .cases hc
      dsimp only;refine zAX (yG λ st4 e4=>?_);exact zA5 ⟨e3.trans e4,_,_,_,_,rfl,m,h0,h2,h1,h3,h4⟩
 .rintro c st' ⟨e,na,nb,out,mg,hc,m,h0,h2,h1,h3,h4⟩
  lia
 .rintro⟨r1,c1⟩ st' ⟨e,o,ho,hm⟩
  cases ho;exact zA5 (h o st' e hm)
end
def mZ(P R:List Keyed){n k:Nat}(h:P.length=n):(P++R).drop (n+k)=R.drop k:=by
 subst h;rw[<-zET,zIo]
def aCS(P R:List Keyed){n i:Nat}(h:P.length=n):(P++R)[n+i]? =R[i]?:=by
 subst h;rw[zBF (zEf _ _),zB3]
theorem aFc:∀(l:List Keyed) (o d:Nat) (acc:Array Keyed),o+d+l.length<=acc.size->
  ((l.zipIdx d).foldl (λ a x=>a.setIfInBounds (o+x.2) x.1) acc).toList=acc.toList.take (o+d)++l++acc.toList.drop (o+d+l.length)
 |[],o,d,acc,_=>by simp
 |x::l,o,d,acc,h=>by
  rw[zA6]at h;rw[List.zipIdx_cons,zBV,aFc l o (d+1) _ (by simp;lia)];have hd:o+d<acc.toList.length:=by simp;lia
  have e1:(acc.setIfInBounds (o+d) x).toList=acc.toList.set (o+d) x:=zCY ..;rw[e1];have e2:(acc.toList.set (o+d) x).take (o+(d+1))=acc.toList.take (o+d)++[x]:=by
   rw[<-zF6,zD1 (by rw[zBL];exact hd),List.getElem_set_self];congr 1;rw[List.take_set_of_le (zAW _)]
  have e3:(acc.toList.set (o+d) x).drop (o+(d+1)+l.length)=acc.toList.drop (o+d+(l.length+1)):=by
   rw[List.drop_set_of_lt (by lia)];congr 1;lia
  rw[e2,e3,zA6];simp
section
variable{prog:zA7}{w:World}{A:zAt}{E:Value->zAF->Prop}{s:zAF}{κ:zDY}{O:zCZ}{kf:Keyed->O.α}{G:Keyed->Prop}
def aG2{X Y M:List Keyed}{k n:Nat}(sX:X.Pairwise (rK O kf))(sY:Y.Pairwise (rK O kf))(hm:M.Perm (X.drop k++Y.take n))(sM:M.Pairwise (rK O kf))(h1:∀x∈X.take k,∀y∈Y,rK O kf x y)(h2:∀x∈X,∀y∈Y.drop n,rK O kf x y):
  (X.take k++M++Y.drop n).Perm (X++Y)/\(X.take k++M++Y.drop n).Pairwise (rK O kf):=by
 constructor
 .have e:X++Y=X.take k++(X.drop k++Y.take n)++Y.drop n:=by
   have e1:=zAf k X;have e2:=zAf n Y
   calc X++Y=(X.take k++X.drop k)++(Y.take n++Y.drop n):=by rw[e1,e2]
    _=_:=by simp only[zAd]
  rw[e];exact(hm.append_left _).append_right _
 .have sX2:=sX
  rw[<-zAf k X]at sX2;have sY2:=sY;rw[<-zAf n Y]at sY2;obtain⟨x1,x2,x3⟩:=zBM.mp sX2;obtain⟨y1,y2,y3⟩:=zBM.mp sY2;refine zBM.mpr ⟨zBM.mpr ⟨x1,sM,λ x hx y hy=>?_⟩,y2,λ x hx y hy=>?_⟩
  .rcases zA9.mp (hm.mem_iff.mp hy)with h|h
   .exact x3 x hx y h
   .exact h1 x hx y (zBR h)
  .rcases zA9.mp hx with h|h
   .exact h2 x (zBR h) y hy
   .rcases zA9.mp (hm.mem_iff.mp h)with h|h
    .exact h2 x (zBQ h) y hy
    .exact y3 x h y hy
def aBC{Y:List Keyed}(sY:Y.Pairwise (rK O kf)){y0:Keyed}(h:Y[0]? =some y0):∀y∈Y,rK O kf y0 y:=λ y hy=>by
 cases Y with
 |nil=>cases hy
 |cons z Y=>
  have:z=y0:=by simpa using h
  subst this;rcases zAM.mp hy with rfl|hy
  .exact zBl _
  .exact(zAb.mp sY).1 y hy
def aCy{X:List Keyed}(sX:X.Pairwise (rK O kf)){z:Keyed}{n:Nat}(hn:n+1=X.length)(h:X[n]? =some z):∀x∈X,rK O kf x z:=λ x hx=>by
 obtain⟨i,hi,e⟩:=zCE hx;have hz:X[n]'(by lia)=z:=by
  rw[zAC (by lia)]at h;exact zAh h
 by_cases c:i=n
 .subst c
  rw[<-e,hz];exact zBl _
 .rw[<-e,<-hz]
  exact zBI.mp sX i n hi (by lia) (by lia)
def aGz{st:zBD}{Q:Bool->zBD->Prop}{i sa na p sb nb p2:Nat}{P X Y Z:List Keyed}(c:Cm prog w A s κ O kf G)(hκ:zBz st=κ)(hf:zC5 st=none)(h1:(zAw st)[i]? =some (sa,na,p))(h2:(zAw st)[i+1]? =some (sb,nb,p2))
  (hL:(arrOf st).toList=P++(X++(Y++Z)))(lP:P.length=sa)(lX:X.length=na)(lY:Y.length=nb)(hsb:sb=sa+na)(n0:0<na)(n1:0<nb)(gG:∀x∈(arrOf st).toList,G x)(sX:X.Pairwise (rK O kf))(sY:Y.Pairwise (rK O kf))
  (h:∀M st',zBz st'=κ->zC5 st'=none->zAw st'=((zAw st).setIfInBounds i (sa,na+nb,p)).eraseIdxIfInBounds (i+1)->(arrOf st').toList=P++(M++Z)->M.Perm (X++Y)->M.Pairwise (rK O kf)->Q true st'):
  wpS (model prog w) A E s (mergeAt' i) Q st:=by
 have hL2:(arrOf st).toList=(P++X)++(Y++Z):=by rw[hL,zAd]
 have lPX:(P++X).length=sb:=by rw[zAV,lP,lX,hsb]
 have gX:∀x∈X,G x:=λ x hx=>gG x (by rw[hL];simp[hx])
 have gY:∀x∈Y,G x:=λ x hx=>gG x (by rw[hL];simp[hx])
 have atX:∀j,j<na->(arrOf st)[sa+j]? =X[j]?:=λ j hj=>by
  rw[<-zAR,hL,aCS P _ lP,zAg (by lia)]
 have atY:∀j,j<nb->(arrOf st)[sb+j]? =Y[j]?:=λ j hj=>by
  rw[<-zAR,hL2,aCS (P++X) _ lPX,zAg (by lia)]
 have hsz:sb+nb<=(arrOf st).size:=by
  have:=congrArg zH3 hL2
  rw[zAL,zAV,lPX,zAV]at this;lia
 obtain⟨y0,hy0⟩:∃y,Y[0]? =some y:=⟨Y[0]'(by lia),zAC _⟩
 obtain⟨xl,hxl⟩:∃x,X[na-1]? =some x:=⟨X[na-1]'(by lia),zAC _⟩
 have fY:=aBC sY hy0;have fX:=aCy sX (by lia) hxl;refine zAX (zEe ?_);rw[h1,h2];dsimp only;refine zAX (zDO (f:=λ _=>zH8 (zBz st) (arrOf st) (((zAw st).setIfInBounds i (sa,na+nb,p)).eraseIdxIfInBounds (i+1)) (gallopOf st) (zC5 st)) ?_);obtain⟨st1,hst1⟩:∃st1,st1=zH8 (zBz st) (arrOf st) (((zAw st).setIfInBounds i (sa,na+nb,p)).eraseIdxIfInBounds (i+1)) (gallopOf st) (zC5 st):=⟨_,rfl⟩
 have k1:zBz st1=κ:=by rw[hst1];exact hκ
 have a1:arrOf st1=arrOf st:=by rw[hst1]
 have p1:zAw st1=((zAw st).setIfInBounds i (sa,na+nb,p)).eraseIdxIfInBounds (i+1):=by rw[hst1]
 have f1:zC5 st1=none:=by rw[hst1];exact hf
 rw[<-hst1];refine zAX (b7 (x:=y0) (by have:=atY 0 n1;rw[zEU]at this;rw[this,hy0]) ?_);refine zAX (jU c k1 (gY y0 (zBG hy0)) X (λ j hj=>atX j hj) lX.symm gX sX n0 λ k q1 q2 q3=>?_);simp only[zAZ,if_false]at q2 q3;dsimp only;have hA:∀x∈X.take k,∀y∈Y,rK O kf x y:=λ x hx y hy=>zAm (q2 x hx) (fY y hy)
 by_cases c1:na-k=0
 .rw[if_pos (by simpa using c1)]
  have ek:X.take k=X:=zBE (by lia);rw[ek]at hA;exact zA5 (h (X++Y) st1 k1 f1 p1 (by rw[a1,hL,zAd]) (zAq _) (zBM.mpr ⟨sX,sY,hA⟩))
 rw[if_neg (by simpa using c1)];have hix:sa+k+(na-k)-1=sa+(na-1):=by lia
 rw[hix];refine zAX (b7 (x:=xl) (by rw[atX (na-1) (by lia),hxl]) ?_);refine zAX (jU c k1 (gX xl (zBG hxl)) Y (λ j hj=>atY j hj) lY.symm gY sY (by lia) λ n' r1 r2 r3=>?_);simp only[if_true]at r2 r3;dsimp only;have hB:∀x∈X,∀y∈Y.drop n',rK O kf x y:=λ x hx y hy=>zAm (fX x hx) (r3 y hy)
 by_cases c2:n'=0
 .rw[if_pos (by simpa using c2)]
  subst c2;rw[zC8]at hB;exact zA5 (h (X++Y) st1 k1 f1 p1 (by rw[a1,hL,zAd]) (zAq _) (zBM.mpr ⟨sX,sY,hB⟩))
 rw[if_neg (by simpa using c2)];have eX:((arrOf st).extract (sa+k) sb).toList=X.drop k:=by
  rw[kW,hL,mZ P _ lP,zFo (by lia),zDn (by rw[zAp];lia)];exact zBE (by rw[zAp];lia)
 have eY:((arrOf st).extract sb (sb+n')).toList=Y.take n':=by
  have:(arrOf st).toList.drop sb=Y++Z:=by rw[hL2,<-lPX,zIo]
  rw[kW,this,zB3,zDn (by lia)]
 have sXk:(X.drop k).Pairwise (rK O kf):=sX.sublist (zHx _ _);have sYn:(Y.take n').Pairwise (rK O kf):=sY.sublist (zIA _ _);obtain⟨u,hu⟩:∃u,u=(arrOf st).extract (sa+k) sb:=⟨_,rfl⟩
 obtain⟨v,hv⟩:∃v,v=(arrOf st).extract sb (sb+n'):=⟨_,rfl⟩
 rw[<-hu]at eX;rw[<-hv]at eY;have lu:u.size=na-k:=by rw[<-zAL,eX,zAp,lX]
 have lv:v.size=n':=by rw[<-zAL,eY,zA3];lia
 have v0:v[0]'(by lia)=y0:=by
  have:v.toList[0]? =some y0:=by rw[eY,zBW (by lia),hy0]
  rw[zAR,zAH (by lia)]at this;exact zAh this
 have ul:u[u.size-1]'(by lia)=xl:=by
  have:u.toList[u.size-1]? =some xl:=by
   rw[eX,zBa]
   have:k+(u.size-1)=na-1:=by lia
   rw[this,hxl]
  rw[zAR,zAH (by lia)]at this;exact zAh this
 have fin:∀(o:Array Keyed) (st2:zBD),Eg st1 st2->Mf (rK O kf) (u.toList++v.toList) o.toList->
   wpS (model prog w) A E s (modify (λ s2:zBD=>zH8 (zBz s2) (zFa (λ a x=>a.setIfInBounds (sa+k+x.2) x.1) (arrOf s2) o.toList.zipIdx) (zAw s2) (gallopOf s2) (zC5 s2))>>=λ _=>get>>=λ s3=>pure (zC5 s3).isNone) Q st2:=λ o st2 e2 hm=>by
  refine zAX (zDO (zAX (zEe (zA5 ?_))));have hf2:zC5 st2=none:=e2.f.trans f1;show Q (zC5 st2).isNone _;rw[hf2];rw[eX,eY]at hm;obtain⟨j1,j2⟩:=aG2 sX sY hm.1 hm.2 hA hB;refine h (X.take k++o.toList++Y.drop n') _ (e2.k.trans k1) (by first|exact hf2|rfl) (e2.p.trans p1) ?_ j1 j2
  show(zFa (λ a x=>a.setIfInBounds (sa+k+x.2) x.1) (arrOf st2) o.toList.zipIdx).toList=_
  have lo:o.toList.length=(na-k)+n':=by rw[hm.1.length_eq,zAV,zAp,zA3];lia
  rw[e2.a,a1,aFc o.toList (sa+k) 0 (arrOf st) (by rw[lo];lia),zEU];have t1:(arrOf st).toList.take (sa+k)=P++X.take k:=by
   rw[hL,<-lP,zDm,zBE (by lia),zB3,zDn (by lia)]
  have t2:(arrOf st).toList.drop (sa+k+o.toList.length)=Y.drop n'++Z:=by
   have:sa+k+o.toList.length=sb+n':=by rw[lo];lia
   rw[this,hL2,mZ (P++X) _ lPX,zFo (by lia)]
  rw[t1,t2];simp
 have gu:∀x∈u.toList,G x:=λ x hx=>by rw[eX]at hx;exact gX x (zBQ hx)
 have gv:∀x∈v.toList,G x:=λ x hx=>by rw[eY]at hx;exact gY x (zBR hx)
 have hlt0:∀x∈u.toList,O.klt (kf y0) (kf x):=λ x hx=>by rw[eX]at hx;exact q3 x hx
 have hltl:∀y∈v.toList,O.klt (kf y) (kf xl):=λ y hy=>by rw[eY]at hy;exact r2 y hy
 by_cases c3:na-k<=n'
 .rw[if_pos c3]
  refine zAX ?_;show wpS _ _ _ _ (aMQ ((arrOf st).extract (sa+k) sb) ((arrOf st).extract sb (sb+n'))) _ _;rw[<-hu,<-hv];refine aGx (T:=u.toList++v.toList) c k1 ⟨gu,gv,λ j hj y hy=>?_⟩ (zAq _) (by rw[eX];exact sXk) (by rw[eY];exact sYn) (by lia) (by lia) ?_ λ o st2 e2 hm=>fin o st2 e2 hm
  .have:u[j]'(by lia)=xl:=by
    have e:j=u.size-1:=by lia
    subst e;exact ul
   rw[this];exact hltl y hy
  .rw[v0]
   exact hlt0 _ (by simp)
 .rw[if_neg c3]
  refine zAX ?_;show wpS _ _ _ _ (aMR ((arrOf st).extract (sa+k) sb) ((arrOf st).extract sb (sb+n'))) _ _;rw[<-hu,<-hv];refine aGy (T:=u.toList++v.toList) c k1 ⟨gu,gv,by lia,λ x hx=>?_⟩ (zAq _) (by rw[eX];exact sXk) (by rw[eY];exact sYn) (by lia) (λ y hy=>?_) λ o st2 e2 hm=>fin o st2 e2 hm
  .rw[v0]
   exact zAe (hlt0 x hx)
  .rw[ul]
   exact zAe (hltl y hy)
end
def aF7(xs:Array Keyed){i j:Nat}(hij:i<=j)(hj:j<=xs.size):(mirror xs i j ((j-i) / 2)).toList=xs.toList.take i++(((xs.toList.take j).drop i).reverse++xs.toList.drop j):=by
 refine zF9 λ k=>?_
 rw[zAR,zIu hj];have l1:(xs.toList.take i).length=i:=by rw[zA3,zAL];lia
 have l2:((xs.toList.take j).drop i).length=j-i:=by rw[zAp,zA3,zAL];lia
 by_cases c1:k<i
 .rw[if_neg (by lia),zAg (by lia),zBW c1,zAR]
 .rw[zBF (by lia),l1]
  by_cases c2:k<j
  .rw[if_pos (by lia),zAg (by rw[zCi];lia),zHA (by lia),l2,zBa,zBW (by lia),zAR]
   congr 1;lia
  .rw[if_neg (by lia),zBF (by rw[zCi];lia),zCi,l2,zBa,zAR]
   congr 1;lia
def pK{β:Type}{r:β->β->Prop}(tr:∀a b c,r a b->r b c->r a c){l:List β}{n:Nat}(h0:0<n)(hn:n<l.length)(h:(l.take n).Pairwise r)(hz:r (l[n-1]'(by lia)) l[n]):(l.take (n+1)).Pairwise r:=by
 rw[zD1 hn];refine zBM.mpr ⟨h,zDX _ _,λ x hx y hy=>?_⟩;rw[zAN.mp hy];obtain⟨i,hi,e⟩:=zCE hx;have hi2:i<n:=by rw[zA3]at hi;lia
 by_cases c:i=n-1
 .rw[zBr]at e
  subst c;rw[<-e];exact hz
 .have:=zBI.mp h i (n-1) hi (by rw[zA3];lia) (by lia)
  rw[e,zBr]at this;exact tr _ _ _ this hz
structure Ea(st st':zBD):Prop where
 k:zBz st'=zBz st
 p:zAw st'=zAw st
 f:zC5 st'=zC5 st
def Ea.refl(st:zBD):Ea st st:=⟨rfl,rfl,rfl⟩
theorem Ea.trans{st st' st'':zBD}(h:Ea st st')(k:Ea st' st''):Ea st st'':=⟨k.k.trans h.k,k.p.trans h.p,k.f.trans h.f⟩
abbrev AcS:=Option (Option Nat)×Nat
abbrev DeS:=Option (Option Nat)×Nat×Nat
def acP(lo a nrem:Nat):StateT zBD Sem AcS:=forIn [a:nrem] ((none,a):AcS) λ _ c=>ltAt' (lo+c.2) (lo+c.2-1)>>=λ x=>match x with
 |some b=>if b=true then pure (.done (none,c.2))else pure (.yield (none,c.2+1))
 |_=>pure (.done (some none,c.2))
def dsP(lo n nrem:Nat):StateT zBD Sem DeS:=forIn [n:nrem] ((none,n,0):DeS) λ _ c=>ltAt' (lo+c.2.1) (lo+c.2.1-1)>>=λ x=>match x with
 |some b=>if b=true then(if c.2.2>0 then zDc (lo+c.2.1-(c.2.2+1)) (lo+c.2.1)>>=λ _=>pure (.yield (none,c.2.1+1,0))else pure (.yield (none,c.2.1+1,0)))
  else ltAt' (lo+c.2.1-1) (lo+c.2.1)>>=λ y=>match y with
   |some d=>if d=true then pure (.done (none,c.2.1,c.2.2))else pure (.yield (none,c.2.1+1,c.2.2+1))
   |_=>pure (.done (some none,c.2.1,c.2.2))
 |_=>pure (.done (some none,c.2.1,c.2.2))
section
variable{prog:zA7}{w:World}{A:zAt}{E:Value->zAF->Prop}{s:zAF}{κ:zDY}{O:zCZ}{kf:Keyed->O.α}{G:Keyed->Prop}{st:zBD}{P R:List Keyed}{lo:Nat}
structure Sg(κ:zDY)(G:Keyed->Prop)(st:zBD)(lo:Nat)(P R:List Keyed):Prop where
 k:zBz st=κ
 l:(arrOf st).toList=P++R
 p:P.length=lo
 g:∀x∈R,G x
def Sg.at(S:Sg κ G st lo P R)(i:Nat):(arrOf st)[lo+i]? =R[i]?:=by rw[<-zAR,S.l,aCS P R S.p]
def ou{i j:Nat}{Q:Option Bool->zBD->Prop}(c:Cm prog w A s κ O kf G)(S:Sg κ G st lo P R)(hi:i<R.length)(hj:j<R.length)(h:Q (some (O.blt (kf R[i]) (kf R[j]))) st):wpS (model prog w) A E s (ltAt' (lo+i) (lo+j)) Q st:=by
 rw[ltAt'_eq];refine zAX (zEe ?_);show wpS _ _ _ _ (do let x <-elem' (arrOf st) (lo+i);let y <-elem' (arrOf st) (lo+j);lt' x y) Q st;refine zAX (b7 (x:=R[i]) (by rw[S.at,zAC hi]) ?_);refine zAX (b7 (x:=R[j]) (by rw[S.at,zAC hj]) ?_);exact pA c S.k (S.g _ (zC1 _)) (S.g _ (zC1 _)) h
def aC4{i j:Nat}{Q:Unit->zBD->Prop}(S:Sg κ G st lo P R)(hij:i<=j)(hj:j<=R.length)(h:∀st',Ea st st'->Sg κ G st' lo P (R.take i++(((R.take j).drop i).reverse++R.drop j))->Q () st'):wpS (model prog w) A E s (zDc (lo+i) (lo+j)) Q st:=by
 rw[reverseSlice'_eq];refine zDO (h _ ⟨rfl,rfl,rfl⟩ ⟨S.k,?_,S.p,λ x hx=>?_⟩)
 .show(mirror (arrOf st) (lo+i) (lo+j) ((lo+j-(lo+i)) / 2)).toList=_
  have hsz:(arrOf st).size=lo+R.length:=by rw[<-zAL,S.l,zAV,S.p]
  rw[aF7 _ (by lia) (by lia),S.l];have e1:(P++R).take (lo+i)=P++R.take i:=by rw[<-S.p,zDm,zBE (by lia),zB3]
  have e2:(P++R).take (lo+j)=P++R.take j:=by rw[<-S.p,zDm,zBE (by lia),zB3]
  rw[e1,e2,mZ P _ S.p,mZ P _ S.p,zAd]
 .rcases zA9.mp hx with h|h
  .exact S.g x (zBR h)
  .rcases zA9.mp h with h|h
   .exact S.g x (zBR (zBQ (zB7.mp h)))
   .exact S.g x (zBQ h)
def aET{i j i' j':Nat}{Q:Option Bool->zBD->Prop}(c:Cm prog w A s κ O kf G)(S:Sg κ G st lo P R)(ei:i'=lo+i)(ej:j'=lo+j)(hi:i<R.length)(hj:j<R.length)(h:Q (some (O.blt (kf R[i]) (kf R[j]))) st):wpS (model prog w) A E s (ltAt' i' j') Q st:=by
 subst ei ej;exact ou c S hi hj h
def uD{i j i' j':Nat}{Q:Unit->zBD->Prop}(S:Sg κ G st lo P R)(ei:i'=lo+i)(ej:j'=lo+j)(hij:i<=j)(hj:j<=R.length)(h:∀st',Ea st st'->Sg κ G st' lo P (R.take i++(((R.take j).drop i).reverse++R.drop j))->Q () st'):wpS (model prog w) A E s (zDc i' j') Q st:=by
 subst ei ej;exact aC4 S hij hj h
def pQ(R:List Keyed){i j:Nat}(hij:i<=j):(R.take i++(((R.take j).drop i).reverse++R.drop j)).Perm R:=by
 have e:R=R.take i++((R.take j).drop i++R.drop j):=by
  have e1:=zAf j R;have e2:=zAf i (R.take j);rw[zDL,zCc hij]at e2
  calc R=R.take j++R.drop j:=e1.symm
   _=(R.take i++(R.take j).drop i)++R.drop j:=by rw[e2]
   _=_:=zAd _ _ _
 conv=>rhs;rw[e]
 exact((zD6 _).append_right _).append_left _
def uw(R:List Keyed){i j:Nat}{q:O.α}(hij:i<=j)(hq:∀x∈(R.take j).drop i,kf x=q):(R.take i++(((R.take j).drop i).reverse++R.drop j)).map kf=R.map kf:=by
 have e:R=R.take i++((R.take j).drop i++R.drop j):=by
  have e1:=zAf j R;have e2:=zAf i (R.take j);rw[zDL,zCc hij]at e2
  calc R=R.take j++R.drop j:=e1.symm
   _=(R.take i++(R.take j).drop i)++R.drop j:=by rw[e2]
   _=_:=zAd _ _ _
 have e3:((R.take j).drop i).map kf=zAP ((R.take j).drop i).length q:=List.eq_replicate_iff.mpr ⟨zAE _,λ b hb=>by obtain⟨x,hx,rfl⟩:=zAl.mp hb;exact hq x hx⟩
 conv=>rhs;rw[e]
 simp only[zBc,zIY,e3,List.reverse_replicate]
def aEW{a:Nat}{Q:AcS->zBD->Prop}(c:Cm prog w A s κ O kf G)(S:Sg κ G st lo P R)(a0:0<a)(ha:a<=R.length)(hs:(R.take a).Pairwise (rK O kf))
  (h:∀n (h0:0<n),n<=R.length->(R.take n).Pairwise (rK O kf)->(n=R.length\/∃hn:n<R.length,O.klt (kf R[n]) (kf (R[n-1]'(by lia))))->Q (none,n) st){N:Nat}(hN:N=R.length):wpS (model prog w) A E s (acP lo a N) Q st:=by
 subst hN;unfold acP;refine zBh (I:=λ x c st'=>st'=st/\c=(none,x)/\0<x/\(R.take x).Pairwise (rK O kf)) ?_ ?_ ⟨rfl,rfl,a0,hs⟩
 .rintro x c1 st' hax hx ⟨rfl,rfl,x0,g⟩
  dsimp only;rw[zI1 (by lia)];refine zAX (ou c S hx (by lia) ?_);dsimp only;cases hb:O.blt (kf R[x]) (kf (R[x-1]'(by lia)))with
  |true=>rw[if_pos rfl];exact zA5 (h x x0 (by lia) g (.inr ⟨hx,hb⟩))
  |false=>
   rw[if_neg zAS];exact zA5 ⟨rfl,rfl,by lia,pK (r:=rK O kf) (λ _ _ _ h k=>zAm h k) x0 hx g hb⟩
 .rintro c1 st' ⟨rfl,rfl,x0,g⟩
  have:max a R.length=R.length:=by lia
  rw[this]at g x0 ⊢;exact h R.length x0 (zAW _) g (.inl rfl)
def Cn0(O:zCZ)(kf:Keyed->O.α)(κ:zDY)(G:Keyed->Prop)(st:zBD)(lo:Nat)(P R:List Keyed)(Q:Option Nat->zBD->Prop):Prop:=∀m R' st',Ea st st'->Sg κ G st' lo P R'->R'.Perm R->0<m->m<=R.length->(R'.take m).Pairwise (rK O kf)->Q (some m) st'
def aER{n N:Nat}{R1:List Keyed}{st1:zBD}{Q:Option Nat->zBD->Prop}{F:AcS->StateT zBD Sem (Option Nat)}(c:Cm prog w A s κ O kf G)(e1:Ea st st1)(S:Sg κ G st1 lo P R1)(hp:R1.Perm R)(n0:0<n)(hn:n<=R1.length)(hs:(R1.take n).Pairwise (rH O kf))(h:Cn0 O kf κ G st lo P R Q)(hN:N=R1.length)(hF:∀m,F (none,m)=pure (some m)):
  wpS (model prog w) A E s (zDc lo (lo+n)>>=λ _=>acP lo n N>>=F) Q st1:=by
 refine zAX (uD (i:=0) (j:=n) S rfl rfl (zAo _) hn λ st2 e2 S2=>?_);rw[zD8,zBd,zC8]at S2;have hl:((R1.take n).reverse++R1.drop n).length=R1.length:=by rw[zAV,zCi,zA3,zAp];lia
 have ht:((R1.take n).reverse++R1.drop n).take n=(R1.take n).reverse:=zIg (by rw[zCi,zA3];lia);have hp2:((R1.take n).reverse++R1.drop n).Perm R1:=by
  have:=pQ R1 (i:=0) (j:=n) (zAo _)
  rwa [zD8,zBd,zC8]at this
 refine zAX (aEW c S2 n0 (by lia) (by rw[ht];exact zC3.mpr hs) (λ m m0 m1 m2 _=>?_) (hN.trans hl.symm));rw[hF];exact zA5 (h m _ st2 (e1.trans e2) S2 (hp2.trans hp) m0 (by rw[hl]at m1;rw[<-hp.length_eq];exact m1) m2)
def yp{R R':List Keyed}(h:R'.map kf=R.map kf)(n:Nat)(hs:(R.take n).Pairwise (rH O kf)):(R'.take n).Pairwise (rH O kf):=by
 have h1:((R.take n).map kf).Pairwise (λ a b:O.α=>O.kle b a):=zDD.mpr hs;have h2:(R'.take n).map kf=(R.take n).map kf:=by rw[zE4,h,<-zE4]
 rw[<-h2,zDD]at h1;exact h1
def aEU{n N:Nat}{R1:List Keyed}{st1:zBD}{Q:Option Nat->zBD->Prop}{F2:AcS->StateT zBD Sem (Option Nat)}{F:DeS->StateT zBD Sem (Option Nat)}(c:Cm prog w A s κ O kf G)(e1:Ea st st1)(S:Sg κ G st1 lo P R1)(hp:R1.Perm R)(hn:n+1<=R1.length)(hs:(R1.take (n+1)).Pairwise (rH O kf))(h:Cn0 O kf κ G st lo P R Q)(hN:N=R1.length)(hF2:∀m,F2 (none,m)=pure (some m))
  (hF:∀x q,F (none,x,q)=if q>0 then(zDc (lo+x-(q+1)) (lo+x)>>=λ _=>zDc lo (lo+x)>>=λ _=>acP lo x N>>=F2)else(zDc lo (lo+x)>>=λ _=>acP lo x N>>=F2)):
  wpS (model prog w) A E s ((liftM (rule "list.sort.descending-run"):StateT zBD Sem Unit)>>=λ _=>dsP lo (n+1) N>>=F) Q st1:=by
 subst hN;refine zAX (zGE (zEn ⟨rfl,?_⟩));have key:∀(R2:List Keyed) (x q:Nat) (h:q+1<=x) (hx:x<=R2.length),(∀i (hi:i<R2.length),x-(q+1)<=i->i<x->kf R2[i]=kf (R2[x-1]'(by lia)))->∀y∈(R2.take x).drop (x-(q+1)),kf y=kf (R2[x-1]'(by lia)):=λ R2 x q h hx hk y hy=>by
  obtain⟨i,hi,e⟩:=zCE hy;rw[zAp,zA3]at hi;rw[zFc,zBr]at e;rw[<-e];exact hk _ (by lia) (by lia) (by lia)
 refine zAX (zDP (Q:=λ c1 st'=>∃R2 x q,c1=(none,x,q)/\Ea st st'/\Sg κ G st' lo P R2/\R2.Perm R1/\q+1<=x/\∃hx:x<=R2.length,(R2.take x).Pairwise (rH O kf)/\∀i (hi:i<R2.length),x-(q+1)<=i->i<x->kf R2[i]=kf (R2[x-1]'(by lia))) ?_ ?_)
 .unfold dsP
  refine zBh (I:=λ x c1 st'=>∃R2 q,c1=(none,x,q)/\Ea st st'/\Sg κ G st' lo P R2/\R2.Perm R1/\q+1<=x/\∃hx:x<=R2.length,(R2.take x).Pairwise (rH O kf)/\∀i (hi:i<R2.length),x-(q+1)<=i->i<x->kf R2[i]=kf (R2[x-1]'(by lia))) ?_ ?_
   ⟨R1,0,rfl,e1,S,zAq _,by lia,hn,hs,λ i hi g1 g2=>by
    have:i=n+1-1:=by lia
    subst this;rfl⟩
  .rintro x c1 st' hax hx ⟨R2,q,rfl,e2,S2,p2,hq,hx2,g1,g2⟩
   have hl:=p2.length_eq;dsimp only;rw[zI1 (by lia)];refine zAX (ou c S2 (by lia) (by lia) ?_);dsimp only;cases hb:O.blt (kf (R2[x]'(by lia))) (kf (R2[x-1]'(by lia)))with
   |true=>
    rw[if_pos rfl];have g3:(R2.take (x+1)).Pairwise (rH O kf):=pK (r:=rH O kf) (n:=x) (λ _ _ _ h k=>zAm k h) (by lia) (by lia) g1 (zAe hb);by_cases c0:q>0
    .rw[if_pos c0]
     have hix:lo+x-(q+1)=lo+(x-(q+1)):=by lia
     rw[hix];refine zAX (aC4 S2 (by lia) hx2 λ st3 e3 S3=>zA5 ?_);have hk:=uw (O:=O) (kf:=kf) (q:=kf (R2[x-1]'(by lia))) R2 (i:=x-(q+1)) (j:=x) (by lia) (key R2 x q hq hx2 g2);have hp3:=pQ R2 (i:=x-(q+1)) (j:=x) (by lia);refine⟨_,0,rfl,e2.trans e3,S3,hp3.trans p2,by lia,by rw[hp3.length_eq];lia,yp hk _ g3,λ i hi k1 k2=>?_⟩
     have:i=x+1-1:=by lia
     subst this;rfl
    .rw[if_neg c0]
     refine zA5 ⟨R2,0,rfl,e2,S2,p2,by lia,by lia,g3,λ i hi k1 k2=>?_⟩
     have:i=x+1-1:=by lia
     subst this;rfl
   |false=>
    rw[if_neg zAS];refine zAX (ou c S2 (by lia) (by lia) ?_);dsimp only;cases hd:O.blt (kf (R2[x-1]'(by lia))) (kf (R2[x]'(by lia)))with
    |true=>rw[if_pos rfl];exact zA5 ⟨R2,x,q,rfl,e2,S2,p2,hq,hx2,g1,g2⟩
    |false=>
     rw[if_neg zAS];have heq:kf (R2[x]'(by lia))=kf (R2[x-1]'(by lia)):=zDx hd hb;refine zA5 ⟨R2,q+1,rfl,e2,S2,p2,by lia,by lia,pK (r:=rH O kf) (n:=x) (λ _ _ _ h k=>zAm k h) (by lia) (by lia) g1 hd,λ i hi k1 k2=>?_⟩;show kf R2[i]=kf (R2[x]'(by lia));by_cases ci:i=x
     .subst ci;rfl
     .rw[heq]
      exact g2 i hi (by lia) (by lia)
  .rintro c1 st' ⟨R2,q,rfl,e2,S2,p2,hq,hx2,g1,g2⟩
   exact⟨R2,_,q,rfl,e2,S2,p2,hq,hx2,g1,g2⟩
 .rintro c1 st' ⟨R2,x,q,rfl,e2,S2,p2,hq,hx2,g1,g2⟩
  rw[hF];have hl:=p2.length_eq;by_cases c0:q>0
  .rw[if_pos c0]
   refine zAX (uD (i:=x-(q+1)) (j:=x) S2 (by lia) rfl (by lia) hx2 λ st3 e3 S3=>?_);have hk:=uw (O:=O) (kf:=kf) (q:=kf (R2[x-1]'(by lia))) R2 (i:=x-(q+1)) (j:=x) (by lia) (key R2 x q hq hx2 g2);have hp3:=pQ R2 (i:=x-(q+1)) (j:=x) (by lia);have hl3:=hp3.length_eq;exact aER c (e2.trans e3) S3 ((hp3.trans p2).trans hp) (by lia) (by lia) (yp hk _ g1) h (by lia) hF2
  .rw[if_neg c0]
   exact aER c e2 S2 (p2.trans hp) (by lia) hx2 g1 h (by lia) hF2
def aHB{Q:Option Nat->zBD->Prop}(c:Cm prog w A s κ O kf G)(S:Sg κ G st lo P R)(hn:0<R.length)(h:Cn0 O kf κ G st lo P R Q):wpS (model prog w) A E s (countRun' lo R.length) Q st:=by
 have h1:(R.take 1).Pairwise (rK O kf):=by
  cases R with
  |nil=>cases hn
  |cons x R=>exact zDX _ _
 refine zAX (aEW c S (by decide) hn h1 (λ n n0 n1 n2 n3=>?_) rfl);dsimp only;by_cases c1:n=R.length
 .rw[if_pos (by simpa using c1)]
  exact zA5 (h n R st (Ea.refl st) S (zAq _) n0 n1 n2)
 rw[if_neg (by simpa using c1)];rcases n3 with n3|⟨hlt,n3⟩
 .exact absurd n3 c1
 by_cases c2:n>1
 .rw[if_pos c2]
  refine zAX (aET (i:=0) (j:=n-1) c S (by lia) (by lia) hn (by lia) ?_);dsimp only;cases hb:O.blt (kf R[0]) (kf (R[n-1]'(by lia)))with
  |true=>rw[if_pos rfl];exact zA5 (h n R st (Ea.refl st) S (zAq _) n0 n1 n2)
  |false=>
   rw[if_neg zAS];have heq:∀x∈R.take n,kf x=kf R[0]:=λ x hx=>by
    have hf:=aBC n2 (y0:=R[0]) (by rw[zBW (by lia),zAC hn]) x hx;have hla:=aCy n2 (z:=R[n-1]'(by lia)) (n:=n-1) (by rw[zA3];lia) (by rw[zBW (by lia),zAC (by lia)]) x hx;exact zDx (zAm hla hb) hf
   refine zAX (uD (i:=0) (j:=n) S rfl rfl (zAo _) n1 λ st2 e2 S2=>?_);rw[zD8,zBd,zC8]at S2;have hp2:((R.take n).reverse++R.drop n).Perm R:=by
    have:=pQ R (i:=0) (j:=n) (zAo _)
    rwa [zD8,zBd,zC8]at this
   have hk:((R.take n).reverse++R.drop n).map kf=R.map kf:=by
    have:=uw (kf:=kf) R (i:=0) (j:=n) (zAo _) (q:=kf R[0]) (by rw[zC8];exact heq)
    rwa [zD8,zBd,zC8]at this
   have hl:=hp2.length_eq;refine aEU (n:=n) c e2 S2 hp2 (by lia) (yp hk _ ?_) h hl.symm (λ _=>rfl) λ _ _=>rfl
   refine pK (r:=rH O kf) (λ _ _ _ h k=>zAm k h) n0 hlt ?_ (zAe n3);refine zBI.mpr λ i j hi hj hij=>?_
   show O.kle (kf (R.take n)[j]) (kf (R.take n)[i]);rw[heq _ (zC1 hj),heq _ (zC1 hi)];exact zBl _
 .rw[if_neg c2]
  have:n=1:=by lia
  subst this;refine aEU (n:=1) c (Ea.refl st) S (zAq _) (by lia) ?_ h rfl (λ _=>rfl) λ _ _=>rfl
  exact pK (r:=rH O kf) (λ _ _ _ h k=>zAm k h) n0 hlt (by
   cases R with
   |nil=>cases hn
   |cons x R=>exact zDX _ _) (zAe n3)
end
def aGa(xs:Array Keyed){i k:Nat}(hik:i<=k)(hk:k<xs.size):(bubble xs k (k-i)).toList=xs.toList.take i++(xs[k]::((xs.toList.take k).drop i++xs.toList.drop (k+1))):=by
 refine zF9 λ j=>?_
 rw[zAR,getElem?_bubble hk _ (by lia)];have l1:(xs.toList.take i).length=i:=by rw[zA3,zAL];lia
 have l2:((xs.toList.take k).drop i).length=k-i:=by rw[zAp,zA3,zAL];lia
 have hki:k-(k-i)=i:=by lia
 rw[hki];by_cases c1:j<i
 .rw[if_neg (by lia),if_neg (by lia),zAg (by lia),zBW c1,zAR]
 .rw[zBF (by lia),l1]
  by_cases c2:j=i
  .subst c2
   rw[if_pos rfl,zHM,zAs,zAH hk]
  .rw[if_neg c2]
   obtain⟨d,hd⟩:∃d,j-i=d+1:=⟨j-i-1,by lia⟩
   rw[hd,zAj];by_cases c3:j<=k
   .rw[if_pos (by lia),zAg (by lia),zBa,zBW (by lia),zAR]
    congr 1;lia
   .rw[if_neg (by lia),zBF (by lia),l2,zBa,zAR]
    congr 1;lia
section
variable{prog:zA7}{w:World}{A:zAt}{E:Value->zAF->Prop}{s:zAF}{κ:zDY}{O:zCZ}{kf:Keyed->O.α}{G:Keyed->Prop}{st:zBD}{P R:List Keyed}{lo:Nat}
def aAt(R:List Keyed){l k:Nat}(hlk:l<=k)(hk:k<R.length):(R.take l++(R[k]::((R.take k).drop l++R.drop (k+1)))).Perm R:=by
 have e:R=R.take l++((R.take k).drop l++R[k]::R.drop (k+1)):=by
  have e1:=zAf k R;have e2:=zAf l (R.take k);rw[zDL,zCc hlk]at e2
  calc R=R.take k++R.drop k:=e1.symm
   _=(R.take l++(R.take k).drop l)++R[k]::R.drop (k+1):=by rw[e2,<-zC7 hk]
   _=_:=zAd _ _ _
 conv=>rhs;rw[e]
 exact zFu.symm.append_left _
def aCO(R:List Keyed){l k:Nat}(hlk:l<=k)(hk:k<R.length)(hs:(R.take k).Pairwise (rK O kf))(h1:∀i (hi:i<l),rK O kf (R[i]'(by lia)) R[k])(h2:∀i (hi:i<k),l<=i->rK O kf R[k] (R[i]'(by lia))):
  ((R.take l++(R[k]::((R.take k).drop l++R.drop (k+1)))).take (k+1)).Pairwise (rK O kf):=by
 have e:(R.take l++(R[k]::((R.take k).drop l++R.drop (k+1)))).take (k+1)=R.take l++R[k]::(R.take k).drop l:=by
  rw[<-zEc,<-zAd];exact zIg (by rw[zAV,zA3,zA6,zAp,zA3];lia)
 rw[e];have e2:=zAf l (R.take k);rw[zDL,zCc hlk]at e2;rw[<-e2]at hs;obtain⟨s1,s2,s3⟩:=zBM.mp hs;have m1:∀x∈R.take l,rK O kf x R[k]:=λ x hx=>by
  obtain⟨i,hi,e⟩:=zCE hx;rw[zA3]at hi;rw[zBr]at e;rw[<-e];exact h1 i (by lia)
 have m2:∀x∈(R.take k).drop l,rK O kf R[k] x:=λ x hx=>by
  obtain⟨i,hi,e⟩:=zCE hx;rw[zAp,zA3]at hi;rw[zFc,zBr]at e;rw[<-e];exact h2 _ (by lia) (by lia)
 refine zBM.mpr ⟨s1,zAb.mpr ⟨m2,s2⟩,λ x hx y hy=>?_⟩;rcases zAM.mp hy with rfl|hy
 .exact m1 x hx
 .exact s3 x hx y hy
def aJl{l k:Nat}{Q:Unit->zBD->Prop}(S:Sg κ G st lo P R)(hlk:l<=k)(hk:k<R.length)(h:∀st',Ea st st'->Sg κ G st' lo P (R.take l++(R[k]::((R.take k).drop l++R.drop (k+1))))->Q () st'):wpS (model prog w) A E s (moveDown' (lo+k) (lo+l)) Q st:=by
 rw[moveDown'_eq];refine zDO (h _ ⟨rfl,rfl,rfl⟩ ⟨S.k,?_,S.p,λ x hx=>S.g x ((aAt R hlk hk).mem_iff.mp hx)⟩)
 show(bubble (arrOf st) (lo+k) (lo+k-(lo+l))).toList=_
 have hsz:(arrOf st).size=lo+R.length:=by rw[<-zAL,S.l,zAV,S.p]
 rw[aGa _ (by lia) (by lia),S.l];have e1:(P++R).take (lo+l)=P++R.take l:=by rw[<-S.p,zDm,zBE (by lia),zB3]
 have e2:(P++R).take (lo+k)=P++R.take k:=by rw[<-S.p,zDm,zBE (by lia),zB3]
 have e3:(arrOf st)[lo+k]'(by lia)=R[k]:=by
  have:=S.at k
  rw[zAH (by lia),zAC hk]at this;exact zAh this
 rw[e1,e2,e3,mZ P _ S.p,zF6,mZ P _ S.p,zAd]
def aHC{n ok:Nat}{Q:Bool->zBD->Prop}(c:Cm prog w A s κ O kf G)(S:Sg κ G st lo P R)(hn:n<=R.length)(h0:0<ok)(hok:ok<=n)(hs:(R.take ok).Pairwise (rK O kf))
  (h:∀R' st',Ea st st'->Sg κ G st' lo P R'->R'.Perm R->(R'.take n).Pairwise (rK O kf)->Q true st'):wpS (model prog w) A E s (binarySort' lo n ok) Q st:=by
 refine zAX (zDP (zBh (I:=λ k c1 st'=>c1=(none,())/\∃R',Ea st st'/\Sg κ G st' lo P R'/\R'.Perm R/\(R'.take (min k n)).Pairwise (rK O kf)) (Q:=λ c1 st'=>c1=(none,())/\∃R',Ea st st'/\Sg κ G st' lo P R'/\R'.Perm R/\(R'.take n).Pairwise (rK O kf)) ?_ ?_ ?_) ?_)
 .rintro k c1 st' hak hkn ⟨rfl,R',e1,S1,p1,g⟩
  have hl:=p1.length_eq;rw[show min k n=k by lia]at g;have hkR:k<R'.length:=by lia
  dsimp only;refine zAX (zDP (zBh (I:=λ x c2 st''=>st''=st'/\∃l r,c2=(none,l,r)/\∃(hlr:l<=r) (hr:r<=k),r-l<=k-x/\(∀i (hi:i<l),rK O kf (R'[i]'(by lia)) (R'[k]'hkR))/\∀i (hi:i<k),r<=i->O.klt (kf (R'[k]'hkR)) (kf (R'[i]'(by lia))))
   (Q:=λ c2 st''=>st''=st'/\∃l r,c2=(none,l,r)/\∃hr:l<=k,(∀i (hi:i<l),rK O kf (R'[i]'(by lia)) (R'[k]'hkR))/\∀i (hi:i<k),l<=i->O.klt (kf (R'[k]'hkR)) (kf (R'[i]'(by lia)))) ?_ ?_ ⟨rfl,0,k,rfl,by lia,zAW _,by lia,λ i hi=>absurd hi (zEy _),λ i hi h2=>by lia⟩) ?_)
  .rintro x c2 st'' _ hx ⟨rfl,l,r,rfl,hlr,hr,hm,g1,g2⟩
   dsimp only;by_cases cc:l ≥ r
   .rw[if_pos cc]
    have:l=r:=by lia
    subst this;exact zA5 ⟨rfl,l,l,rfl,hr,g1,g2⟩
   .rw[if_neg cc]
    refine zAX (ou c S1 hkR (by lia) ?_);dsimp only;cases hb:O.blt (kf (R'[k]'hkR)) (kf (R'[(l+r) / 2]'(by lia)))with
    |true=>
     rw[if_pos rfl];refine zA5 ⟨rfl,l,_,rfl,by lia,by lia,by lia,g1,λ i hi h2=>?_⟩;by_cases ci:i=(l+r) / 2
     .subst ci;exact hb
     .have:=zBI.mp g ((l+r) / 2) i (by rw[zA3];lia) (by rw[zA3];lia) (by lia)
      rw[zBr,zBr]at this;exact zGM hb this
    |false=>
     rw[if_neg zAS];refine zA5 ⟨rfl,_,r,rfl,by lia,hr,by lia,λ i hi=>?_,g2⟩;by_cases ci:i=(l+r) / 2
     .subst ci;exact hb
     .have:=zBI.mp g i ((l+r) / 2) (by rw[zA3];lia) (by rw[zA3];lia) (by lia)
      rw[zBr,zBr]at this;exact zAm this hb
  .rintro c2 st'' ⟨rfl,l,r,rfl,hlr,hr,hm,g1,g2⟩
   have:l=r:=by lia
   subst this;exact⟨rfl,l,l,rfl,hr,g1,g2⟩
  .rintro c2 st'' ⟨rfl,l,r,rfl,hr,g1,g2⟩
   dsimp only;refine zAX (aJl S1 hr hkR λ st3 e3 S3=>zA5 ⟨rfl,_,e1.trans e3,S3,(aAt R' hr hkR).trans p1,?_⟩);rw[show min (k+1) n=k+1 by lia];exact aCO R' hr hkR g g1 λ i hi h2=>zAe (g2 i hi h2)
 .rintro c1 st' ⟨rfl,R',e1,S1,p1,g⟩
  rw[show min (max (max ok 1) n) n=n by lia]at g;exact⟨rfl,R',e1,S1,p1,g⟩
 .rw[show max ok 1=ok by lia,show min ok n=ok by lia]
  exact⟨rfl,R,Ea.refl st,S,zAq _,hs⟩
 .rintro c1 st' ⟨rfl,R',e1,S1,p1,g⟩
  exact zA5 (h R' st' e1 S1 p1 g)
end
def Pr(O:zCZ)(kf:Keyed->O.α):Nat->List (List Keyed)->List (Nat×Nat×Nat)->Prop
 |_,[],[]=>True
 |o,x::segs,p::ps=>p.1=o/\p.2.1=x.length/\0<x.length/\x.Pairwise (rK O kf)/\Pr O kf (o+x.length) segs ps
 |_,_,_=>False
section
variable{O:zCZ}{kf:Keyed->O.α}
theorem Pr.len:∀{o:Nat} {segs:List (List Keyed)} {ps:List (Nat×Nat×Nat)},Pr O kf o segs ps->segs.length=ps.length
 |_,[],[],_=>rfl
 |_,_::_,_::_,h=>congrArg (·+1) (Pr.len h.2.2.2.2)
 |_,[],_::_,h=>h.elim
 |_,_::_,[],h=>h.elim
theorem Pr.few:∀{o:Nat} {segs:List (List Keyed)} {ps:List (Nat×Nat×Nat)},Pr O kf o segs ps->ps.length<=segs.flatten.length
 |_,[],[],_=>zAW _
 |_,x::_,_::_,h=>by
  have:=Pr.few h.2.2.2.2
  have:=h.2.2.1
  rw[zA6,zCD,zAV];lia
 |_,[],_::_,h=>h.elim
 |_,_::_,[],h=>h.elim
theorem Pr.snoc{x:List Keyed}{q:Nat}(hx:0<x.length)(sx:x.Pairwise (rK O kf)):∀{o:Nat} {segs:List (List Keyed)} {ps:List (Nat×Nat×Nat)},Pr O kf o segs ps->Pr O kf o (segs++[x]) (ps++[(o+segs.flatten.length,x.length,q)])
 |_,[],[],_=>⟨rfl,rfl,hx,sx,trivial⟩
 |o,y::segs,p::ps,h=>by
  have:=Pr.snoc (q:=q) hx sx h.2.2.2.2
  rw[zF6,<-zAV,<-zCD]at this;exact⟨h.1,h.2.1,h.2.2.1,h.2.2.2.1,this⟩
 |_,[],_::_,h=>h.elim
 |_,_::_,[],h=>h.elim
theorem Pr.mod{f:Nat×Nat×Nat->Nat×Nat×Nat}(hf:∀p,(f p).1=p.1/\(f p).2.1=p.2.1):∀{o:Nat} {segs:List (List Keyed)} {ps:List (Nat×Nat×Nat)} (j:Nat),Pr O kf o segs ps->Pr O kf o segs (ps.modify j f)
 |_,[],[],j,h=>by cases j<;>exact h
 |o,x::segs,p::ps,0,h=>⟨(hf p).1.trans h.1,(hf p).2.trans h.2.1,h.2.2⟩
 |o,x::segs,p::ps,j+1,h=>⟨h.1,h.2.1,h.2.2.1,h.2.2.2.1,Pr.mod hf j h.2.2.2.2⟩
 |_,[],_::_,_,h=>h.elim
 |_,_::_,[],_,h=>h.elim
theorem Pr.two:∀{o:Nat} {segs:List (List Keyed)} {ps:List (Nat×Nat×Nat)} (i:Nat),Pr O kf o segs ps->i+1<ps.length->∃S1 X Y S2 q q2,segs=S1++X::Y::S2/\ps[i]? =some (o+S1.flatten.length,X.length,q)/\ps[i+1]? =some (o+S1.flatten.length+X.length,Y.length,q2)/\
  0<X.length/\0<Y.length/\X.Pairwise (rK O kf)/\Y.Pairwise (rK O kf)/\∀M,M.length=X.length+Y.length->M.Pairwise (rK O kf)->Pr O kf o (S1++M::S2) ((ps.set i (o+S1.flatten.length,X.length+Y.length,q)).eraseIdx (i+1))
 |o,x::y::segs,p::p2::ps,0,h,_=>by
  obtain⟨h1,h2,h3,h4,k1,k2,k3,k4,k5⟩:=h;refine⟨[],x,y,segs,p.2.2,p2.2.2,rfl,?_,?_,h3,k3,h4,k4,λ M hM sM=>?_⟩
  .rw[zAs,zIV,zCH,zEU,<-h1,<-h2]
  .rw[zAj,zAs,zIV,zCH,zEU,<-k1,<-k2]
  .refine⟨rfl,hM.symm,by lia,sM,?_⟩
   rw[hM,<-zF6];exact k5
 |o,x::segs,p::ps,i+1,h,hi=>by
  obtain⟨h1,h2,h3,h4,h5⟩:=h;obtain⟨S1,X,Y,S2,q,q2,e,g1,g2,g3,g4,g5,g6,g7⟩:=Pr.two i h5 (by rw[zA6]at hi;lia);have hl:o+(x::S1).flatten.length=o+x.length+S1.flatten.length:=by rw[zCD,zAV];lia
  refine⟨x::S1,X,Y,S2,q,q2,by rw[e];rfl,by rw[zAj,g1,hl],by rw[zAj,g2,hl],g3,g4,g5,g6,λ M hM sM=>?_⟩;rw[hl];exact⟨h1,h2,h3,h4,g7 M hM sM⟩
 |_,_,[],_,_,hi=>by simp at hi
 |_,_,[_],0,_,hi=>by simp at hi
 |_,[],_::_,_,h,_=>h.elim
 |_,[_],_::_::_,0,h,_=>h.2.2.2.2.elim
end
section
variable{prog:zA7}{w:World}{A:zAt}{E:Value->zAF->Prop}{s:zAF}{κ:zDY}{O:zCZ}{kf:Keyed->O.α}{G:Keyed->Prop}{st:zBD}{T R:List Keyed}{segs:List (List Keyed)}
structure Rn(κ:zDY)(O:zCZ)(kf:Keyed->O.α)(T:List Keyed)(st:zBD)(segs:List (List Keyed))(R:List Keyed):Prop where
 k:zBz st=κ
 f:zC5 st=none
 l:(arrOf st).toList=segs.flatten++R
 pm:(arrOf st).toList.Perm T
 pr:Pr O kf 0 segs (zAw st).toList
def yF{i:Nat}{Q:Bool->zBD->Prop}(c:Cm prog w A s κ O kf G)(gT:∀x∈T,G x)(N:Rn κ O kf T st segs R)(hi:i+1<(zAw st).size)
  (h:∀segs' st',Rn κ O kf T st' segs' R->segs'.flatten.length=segs.flatten.length->(zAw st').size+1=(zAw st).size->Q true st'):wpS (model prog w) A E s (mergeAt' i) Q st:=by
 obtain⟨S1,X,Y,S2,q,q2,e,g1,g2,g3,g4,g5,g6,g7⟩:=N.pr.two i (by simpa using hi);rw[zAR,zDU]at g1 g2;have hL:(arrOf st).toList=S1.flatten++(X++(Y++(S2.flatten++R))):=by rw[N.l,e];simp
 refine aGz c N.k N.f g1 g2 hL rfl rfl rfl rfl g3 g4 (λ x hx=>gT x (N.pm.mem_iff.mp hx)) g5 g6 λ M st' k1 f1 p1 a1 pM sM=>?_
 have lM:M.length=X.length+Y.length:=by rw[pM.length_eq,zAV]
 have hps:(zAw st').toList=((zAw st).toList.set i (S1.flatten.length,X.length+Y.length,q)).eraseIdx (i+1):=by
  rw[p1,Array.toList_eraseIdxIfInBounds,zCY]
 refine h (S1++M::S2) st' ⟨k1,f1,by rw[a1];simp,?_,?_⟩ ?_ ?_
 .refine List.Perm.trans ?_ N.pm
  rw[a1,hL];refine zGO _ ?_;rw[<-zAd X];exact pM.append_right _
 .rw[hps]
  have:=g7 M lM sM
  rwa [zDU]at this
 .rw[e]
  simp[lM];lia
 .rw[<-zAL,hps,List.length_eraseIdx_of_lt (by rw[zBL,zAL];exact hi),zBL,zAL]
  lia
end
section
variable{prog:zA7}{w:World}{A:zAt}{E:Value->zAF->Prop}{s:zAF}{κ:zDY}{O:zCZ}{kf:Keyed->O.α}{G:Keyed->Prop}{st:zBD}{T R:List Keyed}{segs:List (List Keyed)}
def aEV{lo N:Nat}{P:List Keyed}{Q:Option Nat->zBD->Prop}(c:Cm prog w A s κ O kf G)(S:Sg κ G st lo P R)(hn:0<R.length)(h:Cn0 O kf κ G st lo P R Q)(hN:N=R.length):wpS (model prog w) A E s (countRun' lo N) Q st:=by
 subst hN;exact aHB c S hn h
def Rn.moved{R':List Keyed}{st':zBD}{lo:Nat}(N:Rn κ O kf T st segs R)(e:Ea st st')(S:Sg κ G st' lo segs.flatten R')(p:R'.Perm R):Rn κ O kf T st' segs R':=
 ⟨e.k.trans N.k,e.f.trans N.f,S.l,by rw[S.l];have:=N.pm;rw[N.l]at this;exact(p.append_left _).trans this,by rw[e.p];exact N.pr⟩
def Rn.push{n:Nat}{st':zBD}(N:Rn κ O kf T st segs R)(n0:0<n)(hn:n<=R.length)(sn:(R.take n).Pairwise (rK O kf))(k:zBz st'=zBz st)(f:zC5 st'=zC5 st)(a:arrOf st'=arrOf st)(ps:List (Nat×Nat×Nat))(hp:Pr O kf 0 segs ps)(p:(zAw st').toList=ps++[(segs.flatten.length,n,0)]):
  Rn κ O kf T st' (segs++[R.take n]) (R.drop n):=by
 have ln:(R.take n).length=n:=by rw[zA3];lia
 refine⟨k.trans N.k,f.trans N.f,?_,by rw[a];exact N.pm,?_⟩
 .rw[a,N.l,zDQ,zCW,zAd,zAf]
 .rw[p]
  have:=Pr.snoc (q:=0) (x:=R.take n) (by lia) sn hp
  rwa [zDU,ln]at this
def aES{Q:Unit->zBD->Prop}(c:Cm prog w A s κ O kf G)(hT:(arrOf st).toList=T)(gT:∀x∈T,G x)(hk:zBz st=κ)(hf:zC5 st=none)(hp:zAw st=#[])(hr:∀n,0<n->0<zGV n n 0)
  (h:∀st',zC5 st'=none->(arrOf st').toList.Perm T->(arrOf st').toList.Pairwise (rK O kf)->Q () st'):wpS (model prog w) A E s sortRuns' Q st:=by
 have hsz:(arrOf st).size=T.length:=by rw[<-hT,zAL]
 rw[sortRuns'_eq];refine zAX (zEe ?_);dsimp only;refine zAX (zDP (zBh (I:=λ x c1 st'=>∃segs R lo,c1=(none,lo)/\Rn κ O kf T st' segs R/\segs.flatten.length=lo/\x<=lo) (Q:=λ c1 st'=>∃segs lo,c1=(none,lo)/\Rn κ O kf T st' segs []) ?_ ?_ ?_) ?_)
 .rintro x c1 st1 _ hx ⟨segs,R,lo,rfl,N,hlo,hxl⟩
  have oQ:lo+R.length=T.length:=by
   have:=N.pm.length_eq
   rw[N.l,zAV,hlo]at this;exact this
  dsimp only;by_cases c0:lo ≥ (arrOf st).size
  .rw[if_pos c0]
   have:R=[]:=zCO.mp (by lia)
   subst this;exact zA5 ⟨segs,lo,rfl,N⟩
  rw[if_neg c0];have S:Sg κ G st1 lo segs.flatten R:=⟨N.k,N.l,hlo,λ x hx=>gT x (N.pm.mem_iff.mp (by rw[N.l];simp[hx]))⟩;refine zAX (aEV c S (by lia) (λ m R1 st2 e1 S1 p1 m0 m1 m2=>?_) (by lia));have N1:=N.moved e1 S1 p1;have l1:=p1.length_eq;dsimp only;by_cases c2:m<zGV (arrOf st).size (arrOf st).size 0
  .rw[if_pos c2]
   have hmr:=hr (arrOf st).size (by lia);refine zAX (zGE (zEn ⟨rfl,?_⟩));refine zAX (aHC (n:=min ((arrOf st).size-lo) (zGV (arrOf st).size (arrOf st).size 0)) c S1 (by lia) m0 (by lia) m2 λ R2 st3 e2 S2 p2 g2=>?_);rw[if_neg (by decide)];have N2:=N1.moved e2 S2 p2;have l2:=p2.length_eq;obtain⟨n,hn⟩:∃n,n=min ((arrOf st).size-lo) (zGV (arrOf st).size (arrOf st).size 0):=⟨_,rfl⟩
   have n0:0<n:=by lia
   have nR:n<=R2.length:=by lia
   rw[<-hn]at g2;refine zAX (zEe ?_);cases hbk:(zAw st3).back? with
   |none=>
    dsimp only;refine zAX (zDO (zA5 ⟨segs++[R2.take n],R2.drop n,lo+n,by rw[hn],N2.push n0 nR g2 rfl rfl rfl _ N2.pr ?_,?_,by lia⟩))
    .show((zAw st3).push (lo,min ((arrOf st).size-lo) (zGV (arrOf st).size (arrOf st).size 0),0)).toList=_
     rw[zBS,hlo,hn]
    .rw[zDQ,zCW,zAV,hlo,zA3]
     lia
   |some p=>
    obtain⟨s1,n1,q1⟩:=p;dsimp only;refine zAX (zDP (zBh (I:=λ _ c2 st'=>c2=(none,())/\∃segs',Rn κ O kf T st' segs' R2/\segs'.flatten.length=lo) (Q:=λ c2 st'=>c2=(none,())/\∃segs',Rn κ O kf T st' segs' R2/\segs'.flatten.length=lo) ?_ (λ _ _ z=>z) ⟨rfl,segs,N2,hlo⟩) ?_)
    .rintro y c2 st4 _ hy ⟨rfl,segs',N4,l4⟩
     refine zAX (zEe ?_);by_cases c3:(zAw st4).size>1
     .obtain⟨⟨u1,u2,u3⟩,hu⟩:∃u,(zAw st4)[(zAw st4).size-2]? =some u:=⟨_,zAH (by lia)⟩
      rw[if_pos c3,hu];dsimp only;split
      .exact zA5 ⟨rfl,segs',N4,l4⟩
      .refine zAX (yF c gT N4 (by lia) λ segs2 st5 N5 l5 s5=>?_)
       rw[if_neg (by decide)];exact zA5 ⟨rfl,segs2,N5,l5.trans l4⟩
     .rw[if_neg c3]
      exact zA5 ⟨rfl,segs',N4,l4⟩
    .rintro c2 st4 ⟨rfl,segs',N4,l4⟩
     dsimp only;refine zAX (zDO (zAX (zDO (zA5 ⟨segs'++[R2.take n],R2.drop n,lo+n,by rw[hn],N4.push n0 nR g2 rfl rfl rfl _ (N4.pr.mod (f:=λ x=>(x.1,x.2.1,power' (arrOf st).size (2*s1+n1) (2*s1+n1+n1+(min ((arrOf st).size-lo) (zGV (arrOf st).size (arrOf st).size 0))) (arrOf st).size)) (λ _=>⟨rfl,rfl⟩) ((zAw st4).size-1)) ?_,?_,by lia⟩))))
     .show(((zAw st4).modify ((zAw st4).size-1) _).push (lo,min ((arrOf st).size-lo) (zGV (arrOf st).size (arrOf st).size 0),0)).toList=_
      rw[zBS,zHH,l4,hn]
     .rw[zDQ,zCW,zAV,l4,zA3]
      lia
  .rw[if_neg c2]
   obtain⟨n,hn⟩:∃n,n=m:=⟨_,rfl⟩
   have n0:0<n:=by lia
   have nR:n<=R1.length:=by lia
   rw[<-hn]at m2;refine zAX (zEe ?_);cases hbk:(zAw st2).back? with
   |none=>
    dsimp only;refine zAX (zDO (zA5 ⟨segs++[R1.take n],R1.drop n,lo+n,by rw[hn],N1.push n0 nR m2 rfl rfl rfl _ N1.pr ?_,?_,by lia⟩))
    .show((zAw st2).push (lo,m,0)).toList=_
     rw[zBS,hlo,hn]
    .rw[zDQ,zCW,zAV,hlo,zA3]
     lia
   |some p=>
    obtain⟨s1,n1,q1⟩:=p;dsimp only;refine zAX (zDP (zBh (I:=λ _ c2 st'=>c2=(none,())/\∃segs',Rn κ O kf T st' segs' R1/\segs'.flatten.length=lo) (Q:=λ c2 st'=>c2=(none,())/\∃segs',Rn κ O kf T st' segs' R1/\segs'.flatten.length=lo) ?_ (λ _ _ z=>z) ⟨rfl,segs,N1,hlo⟩) ?_)
    .rintro y c2 st4 _ hy ⟨rfl,segs',N4,l4⟩
     refine zAX (zEe ?_);by_cases c3:(zAw st4).size>1
     .obtain⟨⟨u1,u2,u3⟩,hu⟩:∃u,(zAw st4)[(zAw st4).size-2]? =some u:=⟨_,zAH (by lia)⟩
      rw[if_pos c3,hu];dsimp only;split
      .exact zA5 ⟨rfl,segs',N4,l4⟩
      .refine zAX (yF c gT N4 (by lia) λ segs2 st5 N5 l5 s5=>?_)
       rw[if_neg (by decide)];exact zA5 ⟨rfl,segs2,N5,l5.trans l4⟩
     .rw[if_neg c3]
      exact zA5 ⟨rfl,segs',N4,l4⟩
    .rintro c2 st4 ⟨rfl,segs',N4,l4⟩
     dsimp only;refine zAX (zDO (zAX (zDO (zA5 ⟨segs'++[R1.take n],R1.drop n,lo+n,by rw[hn],N4.push n0 nR m2 rfl rfl rfl _ (N4.pr.mod (f:=λ x=>(x.1,x.2.1,power' (arrOf st).size (2*s1+n1) (2*s1+n1+n1+(m)) (arrOf st).size)) (λ _=>⟨rfl,rfl⟩) ((zAw st4).size-1)) ?_,?_,by lia⟩))))
     .show(((zAw st4).modify ((zAw st4).size-1) _).push (lo,m,0)).toList=_
      rw[zBS,zHH,l4,hn]
     .rw[zDQ,zCW,zAV,l4,zA3]
      lia
 .rintro c1 st1 ⟨segs,R,lo,rfl,N,hlo,hxl⟩
  have oQ:lo+R.length=T.length:=by
   have:=N.pm.length_eq
   rw[N.l,zAV,hlo]at this;exact this
  have:R=[]:=zCO.mp (by lia)
  subst this;exact⟨segs,lo,rfl,N⟩
 .exact⟨[],T,0,rfl,⟨hk,hf,hT,by rw[hT],by rw[hp];exact trivial⟩,rfl,zAW _⟩
 .rintro c1 st1 ⟨segs,lo,rfl,N⟩
  dsimp only;have hps:(zAw st1).size<=(arrOf st).size:=by
   have h1:=N.pr.few;have h2:=N.pm.length_eq;rw[N.l,zAx]at h2;rw[zAL]at h1;lia
  refine zAX (zDP (zBh (I:=λ x c2 st'=>c2=(none,())/\∃segs,Rn κ O kf T st' segs []/\(zAw st').size<=max 1 ((arrOf st).size-x)) (Q:=λ c2 st'=>c2=(none,())/\∃segs,Rn κ O kf T st' segs []/\(zAw st').size<=1) ?_ ?_ ⟨rfl,segs,N,by lia⟩) ?_)
  .rintro x c2 st2 _ hx ⟨rfl,segs,N,hps⟩
   refine zAX (zEe ?_);by_cases c3:(zAw st2).size<=1
   .rw[if_pos c3]
    exact zA5 ⟨rfl,segs,N,c3⟩
   .rw[if_neg c3]
    refine zAX (yF c gT N (by split<;>lia) λ segs' st3 N3 l3 s3=>?_);rw[if_neg (by decide)];exact zA5 ⟨rfl,segs',N3,by lia⟩
  .rintro c2 st2 ⟨rfl,segs,N,hps⟩
   exact⟨rfl,segs,N,by lia⟩
  .rintro c2 st2 ⟨rfl,segs,N,hps⟩
   refine zA5 (h st2 N.f N.pm ?_);have hl:segs.length<=1:=by rw[N.pr.len,zAL];exact hps
   have:=N.pr
   rw[N.l,zAx]
   match segs,hl,this with
   |[],_,_=>exact .nil
   |[x],_,q=>
    rw[zCW];cases e:(zAw st2).toList with
    |nil=>rw[e]at q;exact q.elim
    |cons p ps=>rw[e]at q;exact q.2.2.2.1
   |_::_::_,hl,_=>rw[zA6,zA6]at hl;lia
end
theorem ut:∀(f n r:Nat),0<n->0<zGV f n r
 |0,n,r,h=>show 0<n+r by lia
 |f+1,n,r,h=>by
  rw[minRun'_succ];split
  .lia
  .exact ut f _ _ (by lia)
theorem wj:∀{vs:List Value} {ns ms:List Int},zB2 vs ns->zB2 vs ms->ns=ms
 |_,_,_,.nil,h=>by cases h;rfl
 |_,_,_,.cons n t r,h=>by
  cases h with
  |cons _ _ r'=>rw[wj r r']
def nG.uniq{h:Heap}{v:Value}{ns ms:List Int}(a:nG h (v,ns))(b:nG h (v,ms)):ns=ms:=by
 obtain⟨x,o,xs,k,e1,e2,_,e4,e5,_⟩:=a;obtain⟨y,o',ys,k',f1,f2,_,f4,f5,_⟩:=b;dsimp only at e1 f1 e5 f5;rw[e1]at f1;cases f1;rw[e2]at f2;cases f2;rw[e4]at f4;cases f4;exact wj e5 f5
open Classical in
def kfT(h:Heap)(p:Keyed):List Int:=if q:∃ns,nG h (p.1,ns)then q.choose else[]
def aCK{h:Heap}{p:Keyed}{ns:List Int}(q:nG h (p.1,ns)):kfT h p=ns:=by
 have hq:∃ns,nG h (p.1,ns):=⟨ns,q⟩
 unfold kfT;rw[dif_pos hq];exact hq.choose_spec.uniq q
section
variable{prog:zA7}{w:World}{A:zAt}{E:Value->zAF->Prop}{s:zAF}
def cmT:Cm prog w A s (tuples' true) wA (kfT s.heap) (λ p=>∃ns,nG s.heap (p.1,ns)):=⟨λ x y ⟨ns,hx⟩ ⟨ms,hy⟩ C hC=>by
 rw[aCK hx,aCK hy]at hC;obtain⟨a,oa,xs,k,e1,e2,_,e4,e5,_⟩:=hx;obtain⟨b,ob,ys,k',f1,f2,_,f4,f5,_⟩:=hy;dsimp only at e1 f1 e5 f5;rw[e1,f1];exact vI e2 e4 f2 f4 e5 f5 hC⟩
theorem uA:∀zs:kQ,((zs.map (·.1)).zip (zs.map (·.1)))=zs.map λ p=>(p.1,p.1)
 |[]=>rfl
 |p::zs=>by rw[zAG,zBZ,uA zs];rfl
def aCC{a:Addr}{zs:kQ}{n:Nat}{P:PySem.Fin->zAF->Prop}(ho:s.heap.get? a=some (zBg "list" (zs.map (·.1)).toArray n))(hz:∀p∈zs,nG s.heap p)(hl:zs.length<=4000)
  (h:∀zs':kQ,zs'.Perm zs->ik (zs'.map (·.2))->P (.done (.ret .none)) {s with heap:=zEj s.heap a (zs.map (·.1)) (zs'.map (·.1)).toArray}):
  wpAny (model prog w) A (zE9.«list.sort» ⟨[.ref a],[]⟩) P E s:=by
 have oQ:(zs.map (·.1)).length=zs.length:=zAE _;have hsz:(zs.map (·.1)).length<=zA0:=by rw[zCP];lia
 obtain⟨e1,ho1⟩:∃e1,(s.heap.update a (zBn λ _=>(#[]:Array Value))).get? a=some (zBg "list" #[] e1):=⟨_,zD9 ho λ _=>#[]⟩
 have ho6:(((s.heap.update a (zBn λ _=>(#[]:Array Value))).push (zBg "tuple" (zs.map (·.1)).toArray 0)).push (zBg "list" #[] 0)).get? a=some (zBg "list" #[] e1):=zAD _ (zAD _ ho1);have hz6:∀p∈zs,nG (((s.heap.update a (zBn λ _=>(#[]:Array Value))).push (zBg "tuple" (zs.map (·.1)).toArray 0)).push (zBg "list" #[] 0)) p:=λ p hp=>by
  obtain⟨x,o,xs,k,q1,q2,q3,q4⟩:=hz p hp;refine⟨x,o,xs,k,q1,?_,q3,q4⟩;have hxa:x≠a:=λ z=>by
   subst z;rw[ho]at q2;cases q2;exact absurd q3 (show¬(zBy "list"=zBy "tuple")by decide)
  refine zAD _ (zAD _ ?_);rw[zCU _ _ _ _ hxa];exact q2
 rw[list_sort_plain];refine zAB (listItems_at ho rfl (zAB (zFC ho rfl ?_ (by rw[zAK];exact hsz) (zAo _))));refine zAB (zFD ho1 rfl (zAB (wpAny_newTuple ?_ (by show(zs.map (·.1)).length<=_;exact hsz))));refine zAB (zGD (zCK ?_) (zAo _));show wpAny (model prog w) A _ P E {s with heap:=((s.heap.update a (zBn λ _=>(#[]:Array Value))).push (zBg "tuple" (zs.map (·.1)).toArray 0)).push (zBg "list" #[] 0)};obtain⟨s6,hs6⟩:∃s6:zAF,s6={s with heap:=((s.heap.update a (zBn λ _=>(#[]:Array Value))).push (zBg "tuple" (zs.map (·.1)).toArray 0)).push (zBg "list" #[] 0)}:=⟨_,rfl⟩
 have hh6:s6.heap=((s.heap.update a (zBn λ _=>(#[]:Array Value))).push (zBg "tuple" (zs.map (·.1)).toArray 0)).push (zBg "list" #[] 0):=by rw[hs6]
 rw[<-hh6]at ho6 hz6;rw[<-hs6];dsimp only;have fin:∀zs':kQ,zs'.Perm zs->ik (zs'.map (·.2))->wpAny (model prog w) A (zEE (.ref a) (λ _=>(zs'.map (·.1)).toArray)>>=λ _=>ret .none) P E s6:=λ zs' p1 p2=>by
  refine zAB (zFC ho6 rfl ?_ (zAo _) (by show(zs'.map (·.1)).toArray.size<=_;rw[zAK,zAE,p1.length_eq];lia));refine zAJ ?_
  have:=h zs' p1 p2
  unfold zEj at this;rw[hs6];exact this
 by_cases h2:(zs.map (·.1)).toArray.size<2
 .rw[if_pos h2,if_pos h2]
  refine zAB (zAJ ?_);rw[zIK];refine zAB (zAJ ?_);dsimp only;refine zAB (zFD ho6 rfl ?_);have hr:ik (zs.map (·.2)):=by
   rw[zAK,oQ]at h2
   match zs,h2 with
   |[],_=>exact .nil
   |[p],_=>exact zDX _ _
   |_::_::_,h2=>rw[zA6,zA6]at h2;lia
  have e:((zs.map (·.1)).toArray.zip (zs.map (·.1)).toArray).map (·.2)=(zs.map (·.1)).toArray:=by
   apply Array.ext';rw[zFf,zHu,uA,zAk];rfl
  have:=fin zs (zAq _) hr
  show wpAny (model prog w) A (zEE (.ref a) (λ _=>((zs.map (·.1)).toArray.zip (zs.map (·.1)).toArray).map (·.2))>>=_) P E _;rw[e];simp only[bne_self_eq_false,zAZ,if_false];exact this
 .rw[if_neg h2,if_neg h2]
  have h2':2<=zs.length:=by rw[zAK,oQ]at h2;lia
  obtain⟨fs,f1,f2,f3⟩:=(yH hz6).firsts;refine zAB (zH6 (T:=.type "int") f1 (by rw[f2,oQ];lia) (λ v hv=>?_) (by decide) ?_)
  .obtain⟨n,t,rfl⟩:=f3 v hv
   exact zGR
  rw[show(zBy "int" !=zBy "tuple")=true by decide];refine zAB (zB8 (aES (κ:=tuples' true) (O:=wA) (kf:=kfT s6.heap) (G:=λ p=>∃ns,nG s6.heap (p.1,ns)) (T:=zs.map λ p=>(p.1,p.1)) (Q:=λ _ st'=>zC5 st'=none/\(arrOf st').toList.Perm (zs.map λ p=>(p.1,p.1))/\(arrOf st').toList.Pairwise (rK wA (kfT s6.heap))) cmT ?_ ?_ rfl rfl rfl (λ n hn=>ut n n 0 hn) λ st' b1 b2 b3=>⟨b1,b2,b3⟩) (λ r s' hr=>?_) λ _ _ e=>e)
  .show((zs.map (·.1)).toArray.zip (zs.map (·.1)).toArray).toList=_
   rw[zHu,uA]
  .intro x hx
   obtain⟨p,hp,rfl⟩:=zAl.mp hx;exact⟨p.2,hz6 p hp⟩
  .obtain⟨⟨⟩,st'⟩:=r
   obtain⟨hs',b1,b2,b3⟩:=hr;replace hs':=hs'.symm;subst hs';refine zAB (zFD ho6 rfl ?_);have e1:(zs.map λ p=>(p.1,p.1)).map (λ q:Keyed=>(q.2,kfT s6.heap q))=zs:=by
    rw[zAk]
    conv=>rhs;rw[<-zFP zs]
    refine zCj λ p hp=>?_
    show(p.1,kfT s6.heap (p.1,p.1))=p
    rw[aCK (hz6 p hp)]
   have p1:((arrOf st').toList.map λ q:Keyed=>(q.2,kfT s6.heap q)).Perm zs:=by
    have:=b2.map λ q:Keyed=>(q.2,kfT s6.heap q)
    rwa [e1]at this
   have p2:ik (((arrOf st').toList.map λ q:Keyed=>(q.2,kfT s6.heap q)).map (·.2)):=by
    unfold ik;rw[zAk,zDD];exact b3
   have e2:(arrOf st').map (·.2)=(((arrOf st').toList.map λ q:Keyed=>(q.2,kfT s6.heap q)).map (·.1)).toArray:=by
    rw[zAk];apply Array.ext';rw[zFf];rfl
   have:=fin _ p1 p2
   rw[e2,b1];simp only[bne_self_eq_false,zAZ,if_false];exact this
end
section
variable{prog:zA7}{w:World}{A:zAt}{E:Value->zAF->Prop}{s:zAF}
def yK{zs:kQ}{Q:Value->zAF->Prop}(hz:∀p∈zs,nG s.heap p)(hl:zs.length<4000)
  (h:∀(zs':kQ) h' e,zs'.Perm zs->ik (zs'.map (·.2))->(∀b o,s.heap.get? b=some o->h'.get? b=some o)->h'.get? s.heap.objs.size=some (zBg "list" (zs'.map (·.1)).toArray e)->Q (.ref s.heap.objs.size) {s with heap:=h'}):
  wpAny (model prog w) A (zFl (zs.map (·.1))>>=λ l=>zDa [l] (call (.builtin "list.sort") [l])>>=λ _=>ret l) (λ fin s'=>∃r,fin= .done (.ret r)/\Q r s') E s:=by
 have oQ:(zs.map (·.1)).length=zs.length:=zAE _;refine zAB (zGD ?_ (by rw[zCP];lia));have hoL:(s.heap.push (zBg "list" (zs.map (·.1)).toArray 0)).get? s.heap.objs.size=some (zBg "list" (zs.map (·.1)).toArray 0):=zAY _ rfl;refine zAB (zCK (zCa slot_list_sort ⟨_,hoL,rfl⟩ entry_list_sort ?_ (args_list_sort _)));refine aCC (s:={s with heap:=s.heap.push (zBg "list" (zs.map (·.1)).toArray 0)}) hoL (λ p hp=>?_) (by lia) λ zs' a1 a2=>⟨_,rfl,?_⟩
 .obtain⟨x,o,xs,k,e1,e2,e3⟩:=hz p hp
  exact⟨x,o,xs,k,e1,zAD _ e2,e3⟩
 have hne:∀b o,s.heap.get? b=some o->b≠s.heap.objs.size:=λ b o e=>zAc (zA1 e)
 obtain⟨e1,he1⟩:∃e1,((s.heap.push (zBg "list" (zs.map (·.1)).toArray 0)).update s.heap.objs.size (zBn λ _=>(#[]:Array Value))).get? s.heap.objs.size=some (zBg "list" #[] e1):=⟨_,zD9 hoL λ _=>#[]⟩
 have g1:=zAD (zBg "list" #[] 0) (zAD (zBg "tuple" (zs.map (·.1)).toArray 0) he1);have g2:=zD9 g1 (λ _=>(zs'.map (·.1)).toArray);refine zAJ ⟨_,rfl,h zs' _ _ a1 a2 (λ b o e=>?_) g2⟩;unfold zEj;rw[zCU _ _ _ _ (hne b o e)];refine zAD _ (zAD _ ?_);rw[zCU _ _ _ _ (hne b o e)];exact zAD _ e
end
section
variable{X:Cx}
def aAA{kK:hV}(I:Inv X kK Z H s)(ht:bN X.K H vs nss)(h64:vs.length<4000)(q:yE H vs nss Q)
  (hs1:∃h1 tk,s1={s with heap:=h1,toks:=tk}/\s.heap.objs.size<=h1.objs.size/\∀b o,s.heap.get? b=some o->h1.get? b=some o){zs:kQ}(hz:zs.Perm ((vs.map gD).zip nss))(hus:us=zs.map (·.1)):
  wpAny (model X.prog X.w) X.A.in1 (zFl us>>=λ l=>zDa [l] (call (.builtin "list.sort") [l])>>=λ _=>ret l) (λ fin s'=>∃r,fin= .done (.ret r)/\EP X kK Z Q r s') X.xe s1:=by
 obtain⟨h1,tk,rfl,hsz,keep⟩:=hs1;subst hus;have qV:∀p∈zs,nG h1 p:=λ p hp=>by
  obtain⟨x,o,xs,k,e1,e2,e3⟩:=(ht.at I).all p (hz.mem_iff.mp hp);exact⟨x,o,xs,k,e1,keep _ _ e2,e3⟩
 have oQ:zs.length<4000:=by
  rw[hz.length_eq,zEF,zAE,<-ht.len,zEV];exact h64
 refine yK (s:={s with heap:=h1,toks:=tk}) qV oQ λ zs' h' e a1 a2 a3 a4=>?_
 have cS:(vs.map gD).zip nss=(vs.zip nss).map λ p=>(gD p.1,p.2):=by rw[zFd];rfl
 obtain⟨ws,w1,w2⟩:=gh (f:=λ p:V×List Int=>(gD p.1,p.2)) (a1.trans hz) cS;have hfr:H h1.objs.size=none:=I.hok.fresh hsz;have aS:∀v∈ws.map (·.1),RelV v (gD v):=λ v hv=>by
  obtain⟨p,hp,rfl⟩:=zAl.mp hv;exact ht.refs p.1 (zCx (w1.mem_iff.mp hp)).1
 have hws:zs'.map (·.1)=(ws.map (·.1)).map gD:=by rw[w2,zAk,zAk];rfl
 have hwl:(ws.map (·.1)).length<=zA0:=by
  rw[zAE,w1.length_eq,zEF,<-ht.len,zEV,zCP];lia
 refine⟨.ref h1.objs.size,upd H h1.objs.size (.lst (ws.map (·.1))),I.laid (t':=tk) (λ b o e=>a3 b o (keep b o e)) hsz ⟨hwl,(ws.map (·.1)).map gD,e,qL aS,?_⟩,rfl,(q ws w1 ?_).at hfr⟩
 .rw[<-hws];exact a4
 .have:ws.map (·.2)=zs'.map (·.2):=by rw[w2,zAk];rfl
  rw[this];exact a2
end
def ddI(ns:List Int):List Int:=ns.foldl zEk []
def aGY(ns:List Int):zE7 (λ i=>ns.getD i 0) ns.length=ddI ns:=by
 unfold zE7 ddI;congr 1;refine zFq (by simp) λ i h1 h2=>?_
 rw[zDM,zHh,zBN,zAC h2];rfl
def aIh(hl:l.Nodup)(n:Int):(zEk l n).Nodup/\∀x,x∈zEk l n↔x∈l\/x=n:=by
 unfold zEk;by_cases h:l.any (·==n)=true
 .rw[if_pos h]
  have:n∈l:=by simpa using h
  exact⟨hl,λ x=>⟨.inl,λ q=>q.elim id λ e=>e▸this⟩⟩
 .rw[if_neg h]
  have:n∉l:=by simpa using h
  refine⟨zAy.mpr ⟨hl,by simp,λ x hx y hy e=>?_⟩,λ x=>by simp⟩;rw[zAN]at hy;subst hy;subst e;exact this hx
theorem aGX:∀(ns acc:List Int),acc.Nodup->(ns.foldl zEk acc).Nodup/\∀x,x∈ns.foldl zEk acc↔x∈acc\/x∈ns
 |[],acc,h=>⟨h,λ x=>by simp⟩
 |n::ns,acc,h=>by
  obtain⟨h1,h2⟩:=aIh h n;obtain⟨h3,h4⟩:=aGX ns _ h1;refine⟨h3,λ x=>?_⟩;rw[zBV,h4,h2,zAM];constructor
  .rintro((a|a)|a)
   .exact .inl a
   .exact .inr (.inl a)
   .exact .inr (.inr a)
  .rintro(a|a|a)
   .exact .inl (.inl a)
   .exact .inl (.inr a)
   .exact .inr a
def xf(ns:List Int):(ddI ns).Nodup:=(aGX ns [] (by simp)).1
def aIK(ns:List Int)(x:Int):x∈ddI ns↔x∈ns:=by
 have:=(aGX ns [] (by simp)).2 x
 unfold ddI;simpa using this
section
variable{X:Cx}
def aEy(K:zAA):List V->Hp->VK->Prop:=λ xs H Q=>∃p ns,xs=[.ref p]/\(SqL K H p (ns.map V.int)\/SqT K H p (ns.map V.int))/\ns.length<4000/\∀a H',aQ H H'->H' a=some (.set (λ k=>(ddI ns).any (·==k)) (ddI ns).length)->H a=none->Q (.ref a) H'
def aAF(I:Inv X kK Z H s)(q:∀a H',aQ H H'->H' a=some (.set (λ k=>(ddI ns).any (·==k)) (ddI ns).length)->H a=none->Q (.ref a) H')
  (g1:h'.SetOf (zFV X.prog X.w) s.heap.objs.size (λ k'=>(zE7 (λ i=>ns.getD i 0) ns.length).any (·==k')) (zE7 (λ i=>ns.getD i 0) ns.length).length)(g2:∀b o,s.heap.get? b=some o->h'.get? b=some o):EP X kK Z Q (.ref s.heap.objs.size) {s with heap:=h',toks:=tk}:=by
 rw[aGY]at g1;have hfr:H s.heap.objs.size=none:=I.hok.fresh (zAW _);exact⟨.ref s.heap.objs.size,upd H s.heap.objs.size (.set (λ k=>(ddI ns).any (·==k)) (ddI ns).length),I.laid (t':=tk) g2 (zAW _) g1,rfl,q _ _ (ao hfr _) aa hfr⟩
def aAE{s:zAF}{St:Nat->zAF->Prop}(hl:l<s.heap.objs.size)(hi:zB2 its ns)(hz:ns.length<4000)
  (W:WalksS prog w A.in1 (s.heap.objs.size+1) [s.heap.objs.size+1,l] [s.heap.objs.size+1] (λ a b=>b=a) its.toArray.size (λ i v=>its.toArray[i]? =some v) St)(st:St 0 {s with heap:=(s.heap.push (bG #[] 0 (.fresh 0 0 led))).push oI})
  (R:zFF->zAF->Prop)(hR:∀h' tk,h'.SetOf (zFV prog w) s.heap.objs.size (λ k'=>(zE7 (λ i=>ns.getD i 0) ns.length).any (·==k')) (zE7 (λ i=>ns.getD i 0) ns.length).length->(∀b o,s.heap.get? b=some o->h'.get? b=some o)->R (.ok (.ret .none)) {s with heap:=h',toks:=tk}):
  zCf (model prog w) A (.builtin "set.update.loop" ⟨[.ref s.heap.objs.size,.ref (s.heap.objs.size+1)],[]⟩) R {s with heap:=(s.heap.push (bG #[] 0 (.fresh 0 0 led))).push oI}:=by
 have oQ:its.length=ns.length:=IntsAre.length hi;have hSf:s.heap.objs.size∉[s.heap.objs.size+1,l]:=by
  simp only[zAM,zCL,or_false,not_or];exact⟨zAc (zBf _),zCz hl⟩
 have hsz:its.toArray.size=ns.length:=by rw[zAK];exact oQ
 refine PyProof.Rows.codeAny_set_update_loopS W s.heap.objs.size hSf (λ i=>ns.getD i 0) (λ i v hv=>zH5 hi i v (by simpa using hv)) (by rw[hsz];unfold scanBound;lia) (its.toArray.size-0) 0 _ (by lia) (zAo _) st ?_ λ s' hm hS'=>?_
 .have hget:((s.heap.push (bG #[] 0 (.fresh 0 0 led))).push oI).get? s.heap.objs.size=some (bG #[] 0 (.fresh 0 0 led)):=zAD _ (zAY _ rfl)
  exact PyProof.Rows.SetOf_congr ((PyProof.Rows.setObjOf_fresh (knd:=zFV prog w) led).setOf hget (by unfold scanBound;lia)) (λ _=>rfl) rfl
 .obtain⟨h',g',d',tk',os'⟩:=s'
  have eg:g'=s.gens:=hm.gens;have ed:d'=s.drawn:=hm.drawn;have eo:os'=s.os:=hm.os;subst eg;subst ed;subst eo;rw[hsz]at hS';refine hR h' tk' hS' λ b o e=>hm.heap b o ?_ (zAD _ (zAD _ e))
  have hb:=zA1 e;simp only[zAM,zCL,or_false,not_or];exact⟨zAc hb,zAc (zBt hb)⟩
def aEB(hc:X.calm=true):cI X (.type "set") (aEy X.K):=by
 intro kK s Z H xs us Q I r h;obtain⟨p,ns,rfl,hp,hz,q⟩:=h;obtain⟨u,rfl,ru⟩:=vals1 r;cases ru;have hh:X.A.in1.in1.in1.handled=none:=I.ok.hd hc;have hsz:∀o:Obj,(s.heap.push o).objs.size=s.heap.objs.size+1:=λ o=>zBe _ _
 rcases hp with hp|hp
 .obtain⟨its,rv,pl,_⟩:=I.list hp
  have hI:zB2 its ns:=intsAre_of rv;have hl0:=pl.isList;obtain⟨ol,hol,hcl,nl,hdl⟩:=pl.isList;have hlS:p<s.heap.objs.size:=zA1 hol;refine PySem.mH (T:="list") (Φ:=λ h'=>h'.SetOf (zFV X.prog X.w) s.heap.objs.size (λ k'=>(zE7 (λ i=>ns.getD i 0) ns.length).any (·==k')) (zE7 (λ i=>ns.getD i 0) ns.length).length) ⟨ol,hol,hcl⟩ F.sub_list_set zHw (by decide)
   (λ zS yB yA Q₁ k q=>zEm (s:={s with heap:=zS}) (items:=its.toArray) ⟨ol,k _ _ hol,hcl,nl,hdl⟩ q) (λ R hR=>?_) λ h' tk g1 g2=>aAF I q g1 g2
  rw[hsz];refine aAE hlS hI hz ((zHo hh _ p (zAc (zBt hlS)) its.toArray).toS) ⟨?_,?_⟩ R hR
  .have e:=zAY (s.heap.push (bG #[] 0 (.fresh 0 0 (!X.w.params.followText "set-order")))) (o:={cls:=.type "list_iterator",data:=.fields #[.ref p,.int 0 0]}) rfl
   rw[hsz]at e;exact⟨_,e,rfl,rfl⟩
  .exact⟨ol,zAD _ (zAD _ hol),hcl,nl,hdl⟩
 .obtain⟨its,rv,pl,_⟩:=I.tuple hp
  have hI:zB2 its ns:=intsAre_of rv;obtain⟨ol,hol,hcl,nl,hdl⟩:=id pl;have hlS:p<s.heap.objs.size:=zA1 hol;refine PySem.mH (T:="tuple") (Φ:=λ h'=>h'.SetOf (zFV X.prog X.w) s.heap.objs.size (λ k'=>(zE7 (λ i=>ns.getD i 0) ns.length).any (·==k')) (zE7 (λ i=>ns.getD i 0) ns.length).length) ⟨ol,hol,hcl⟩ zJP zHd (by decide)
   (λ zS yB yA Q₁ k q=>zE8 (s:={s with heap:=zS}) (items:=its.toArray) ⟨ol,k _ _ hol,hcl,nl,hdl⟩ q) (λ R hR=>?_) λ h' tk g1 g2=>aAF I q g1 g2
  rw[hsz];refine aAE hlS hI hz ((zHS hh _ p (zAc (zBt hlS)) its.toArray).toS) ⟨?_,?_⟩ R hR
  .have e:=zAY (s.heap.push (bG #[] 0 (.fresh 0 0 (!X.w.params.followText "set-order")))) (o:={cls:=.type "tuple_iterator",data:=.fields #[.ref p,.int 0 0]}) rfl
   rw[hsz]at e;exact⟨_,e,rfl,rfl⟩
  .exact⟨ol,zAD _ (zAD _ hol),hcl,nl,hdl⟩
def aEG:cI X (.builtin "len") (λ xs H Q=>∃p S n,xs=[.ref p]/\H p=some (.set S n)/\Q (.int n) H):=by
 intro kK s Z H xs us Q I r h;obtain⟨p,S,n,rfl,hp,q⟩:=h;obtain⟨u,rfl,ru⟩:=vals1 r;cases ru;obtain⟨o,es,ep,t,ho,hex,hd,_,_,hb,hf,hn⟩:=I.hok p _ hp
 have:(es.size:Int)<2^63:=by unfold scanBound at hb;lia
 refine PySem.call_len_set ho hex hd hf this ⟨.int n,H,(I.tok _).tok _,?_,q⟩;exact⟨_,by rw[hn]⟩
end
def aEo{K:zAA}(nd:l.Nodup)(h:H a=some (.set (λ k=>l.any (·==k)) l.length))(m:A a):Rp K A H (.ref a) (.set l):=.set h m (λ i=>by
 rw[zCu];simp) nd
def aB6:List D->Rs D
 |[.lst l]=>match intsOf l with
  |some ns=>if ns.length<4000 then .ok (.set (ddI ns))else .st
  |none=>.st
 |[.tup l]=>match intsOf l with
  |some ns=>if ns.length<4000 then .ok (.set (ddI ns))else .st
  |none=>.st
 |_=>.st
def aL5{K:zAA}:aDS K (aEy K) aB6:=by
 intro A xs ds H Q z r ez q;unfold aB6 at ez;split at ez
 .cases r with
  |cons h r=>
   cases r;cases h with
   |lst h m r=>
    split at ez
    .rename_i ns e
     have e1:=bM e;subst e1;split at ez
     .rename_i hl
      cases ez;have e2:=r.ints_of;subst e2;exact⟨_,ns,rfl,.inl (SqL.of h),hl,λ a H' s ha hn=>q _ H' s (aEo (xf ns) ha hn)⟩
     .cases ez
    .cases ez
 .cases r with
  |cons h r=>
   cases r;cases h with
   |tup h r=>
    split at ez
    .rename_i ns e
     have e1:=bM e;subst e1;split at ez
     .rename_i hl
      cases ez;have e2:=r.ints_of;subst e2;exact⟨_,ns,rfl,.inr h,hl,λ a H' s ha hn=>q _ H' s (aEo (xf ns) ha hn)⟩
     .cases ez
    .cases ez
 .cases ez
def aAg:List D->Rs D
 |[.set l]=>.ok (.int l.length)
 |ds=>iW ds
def aIq{K:zAA}:oA K (λ xs H Q=>(∃p ys,xs=[.ref p]/\(SqL K H p ys\/SqT K H p ys)/\Q (.int ys.length) H)\/∃p S n,xs=[.ref p]/\H p=some (.set S n)/\Q (.int n) H) aAg:=by
 intro A xs ds H Q z r ez q;unfold aAg at ez;split at ez
 .cases ez
  cases r with
  |cons h r=>
   cases r;cases h with
   |set h m hS nd=>exact .inr ⟨_,_,_,rfl,h,q _ H (aQ.refl H) (.int _)⟩
 .exact .inl (aG5 A xs _ H Q z r ez q)
def aFr:∀x z,aAg x= .ok z->imm z=true:=by
 intro x z e;unfold aAg at e;split at e
 .cases e;rfl
 .exact aDG _ _ e
section
variable{C:Ct}{pos p:Pos}{m:Mode}{a:Expr}{ga:En->Rs (List D)}
def aKD(hm:C.mg "set"=none)(ha:SA C m [a] ga)(he:∀i,zA4 [a] (C.X i).env=[(false,eval a (C.X i).env)]:=by intro _;rfl)(hg:∀i,Gl (C.X i) "set":=by intro _;rfl)(hv:zBO "set"=some (.type "set"):=by decide+kernel):SE C (some []) (.Call (.Name "set" p) [a] [] pos) (opA aB6 ga):=by
 obtain⟨t,h1,h2⟩:=ha;refine⟨_,λ i=>jY (r:=aEy C.K) (by rw[<-C.hK i];exact aEB (C.calm i)) (hg i) (by rw[(C.cx i).2.2.2.1];exact hm) hv (h1 i) (by decide) (by decide) (he i) rfl,yP aL5 h2⟩
def aH2(hm:C.mg "len"=none)(ha:SA C m [a] ga)(he:∀i,zA4 [a] (C.X i).env=[(false,eval a (C.X i).env)]:=by intro _;rfl)(hg:∀i,Gl (C.X i) "len":=by intro _;rfl):SE C (some []) (.Call (.Name "len" p) [a] [] pos) (opA aAg ga):=
 cZ (iQ (λ i=>by have h:=(qD (X:=C.X i)).or aEG;rw[C.hK i]at h;exact h) aIq hg hm zIl ha (by decide) (by decide) he) λ _ _ h=>kJ aFr h
end
section
variable{K:zAA}{G:Gx}{wi:TI}{fi:En->Rs (List D)}{g:TG}{fg:D->En->Rs En}{tt:TT}
def aJz(hi:aIx K G wi fi)(hg:aIy K {G with E:=λ _ _ _=>False} g fg)(hfg:∀d,∃ρ1,fg d [.no]= .ok ρ1)(ht:aC2 K {G with E:=λ _ _ _=>False} tt aBU)(R:RR K G U ρ Z H lab)
  (W:WR G (fi (shE ρ)) (λ ds=>ds.length<zA0/\∀(l:Addr) (as:List Addr) H',aQ H H'->H l=none->H' l=some (.lst (as.map V.ref))->(l::as).Nodup->as.length=ds.length->(∀a∈as,H a=none/\H' a=some (.lst []))->Q (.ref l) H')):
  tLC wi (stV [none]) g tt (aJI sZ) Z H Q:=by
 refine hi U Z H _ _ _ R.shE (W.imp λ ds _ w J H1 lab1 U1 s1 _ R1 jl=>?_);obtain⟨oQ,w⟩:=w;intro l hl;have hHl:H l=none:=s1.free hl;have nl:∀p o,H1 p=some o->p≠l:=λ p o e z=>by subst z;rw[hl]at e;cases e
 have RB:RR K {G with E:=λ _ _ _=>False} (U1++U) [.no] (stV [none] Z) H1 (λ p=>if p=l then(2,0)else(0,0)):=by
  refine⟨rfl,λ i s e=>?_,R1.old,λ p hp=>?_,λ q hq=>(R1.tm q hq).wk λ p o e _=>by rw[if_neg (nl p o e)];exact zAo _⟩
  .match i,e with
   |0,e=>cases e;exact .inl rfl
   |i+1,e=>simp at e
  .by_cases z:p=l
   .subst z;exact R1.old.free hl
   .exact absurd (show(if p=l then((2,0):Nat×Nat)else(0,0)).1=0 by rw[if_neg z]) hp
 have dP:¬((λ p=>if p=l then((2,0):Nat×Nat)else(0,0)) l).1<=1:=by simp
 refine⟨λ i n acc H2=>∃as:List Addr,n=ds.length-i/\i<=ds.length/\acc=as.map V.ref/\H2 l=some (.lst acc)/\RR K {G with E:=λ _ _ _=>False} (U1++U) [.no] (stV [none] Z) H2 (λ p=>if p=l then(2,0)else(0,0))/\aQ H H2/\as.length=i/\(l::as).Nodup/\∀a∈as,H a=none/\H2 a=some (.lst []),
  ⟨ds.length,[],by omega,by omega,rfl,aa,RB.up (ao hl _),s1.trans (ao hl _),rfl,by simp,λ a h=>by simp at h⟩,?_⟩
 rintro i n acc H2 ⟨as,rfl,hi',rfl,hH2,R2,s2,hlen2,hnd,hal⟩;refine⟨hH2,by rw[zAE];omega,?_⟩;have jj:=jl _ H2 λ q hq=>R2.tm q (zBP _ hq)
 by_cases hlt:i<ds.length
 .obtain⟨go,yl⟩:=(jj i).2 hlt
  refine .inr ⟨go,λ x H3 hy=>?_⟩;obtain⟨s3,d,ed,rx⟩:=yl x H3 hy;replace R2:=R2.up s3;replace hH2:=s3 _ _ hH2;replace s2:=s2.trans s3;replace hal:=λ a ha=>(⟨(hal a ha).1,s3 _ _ (hal a ha).2⟩:H a=none/\H3 a=some (.lst []))
  obtain⟨ρ1,e1⟩:=hfg d;refine hg (U1++U) x d _ H3 _ _ _ ρ1 R2 rx e1 λ Z4 R4=>?_
  refine ht (U1++U) Z4 H3 ρ1 _ _ R4 λ H5 s5=>?_
  rw[if_pos rfl];refine⟨zAo _,λ p H6 s6 hp hn=>?_⟩;have hl6:H6 l=some (.lst (as.map V.ref)):=s6 _ _ (s5 _ _ hH2);have hpl:p≠l:=λ z=>by subst z;rw[s5 _ _ hH2]at hn;cases hn
  have hpa:p∉as:=λ z=>by
   have:=s5 _ _ (hal p z).2
   rw[hn]at this;cases this
  have hpH:H p=none:=(s2.trans s5).free hn;have B:jo l H6 (upd H6 l (.lst (as.map V.ref++[.ref p]))):=λ b o ne hb=>by rw[bF ne];exact hb
  refine⟨hl6,ds.length-(i+1),by omega,as++[p],rfl,hlt,by rw[zBc];rfl,aa,?_,?_,by rw[zAV];simp;omega,?_,λ a ha=>?_⟩
  .have R6:=R2.up (s5.trans s6)
   refine⟨R6.len,λ j s e=>?_,λ b o hb=>?_,R6.new,λ q hq=>(R6.tm q hq).but B hl6 rfl dP⟩
   .match j,e with
    |0,e=>cases e;exact .inl rfl
    |j+1,e=>simp at e
   .exact B b o (λ z=>by subst z;rw[R1.old.free hl]at hb;cases hb) (R6.old b o hb)
  .exact λ b o hb=>B b o (λ z=>by subst z;rw[hHl]at hb;cases hb) (((s2.trans s5).trans s6) b o hb)
  .obtain⟨n1,n2⟩:=zBH.mp hnd
   refine zBH.mpr ⟨λ z=>?_,zAy.mpr ⟨n2,by simp,λ x hx y hy e=>?_⟩⟩
   .rcases zA9.mp z with z|z
    .exact n1 z
    .exact hpl (zAN.mp z).symm
   .rw[zAN]at hy
    subst hy;subst e;exact hpa hx
  .rcases zA9.mp ha with z|z
   .refine⟨(hal a z).1,?_⟩
    rw[bF λ q=>by subst q;exact(zBH.mp hnd).1 z];exact s6 _ _ (s5 _ _ (hal a z).2)
   .rw[zAN]at z
    subst z;exact⟨hpH,by rw[bF hpl];exact hp⟩
 .have ei:i=ds.length:=by omega
  exact .inl ⟨by rw[ei];exact(jj _).1 (zAW _),w l as H2 s2 hHl hH2 hnd (by omega) hal⟩
end
section
variable{C:Ct}{pos lpos:Pos}{tg iter:Expr}{sc:Scope}{N:List Str}{js:kX}{ks:List Nat}{fi:En->Rs (List D)}{fg:D->En->Rs En}
def llS(i:Nat)(fi:En->Rs (List D))(js:kX)(fg:D->En->Rs En):En->Ou:=λ ρ=>(fi (shE ρ)).bo λ ds=>if ds.length<zA0 then .nx (ρ.set i (.o2 (zAP ds.length [])))else .st
def aJO(hi:SI C tg iter fi)(hg:SG (C.blk sc N) tg ks fg)(hj:js=[none]:=by rfl)(hfg:∀d,∃ρ1,fg d [.no]= .ok ρ1:=by intro _;exact⟨_,rfl⟩)(hN:∀j,(C.X j).N[i]? =some x:=by intro _;rfl)(hx:∀j,Loc (C.X j).env.scope x:=by intro _;first|exact zDE rfl|exact zCT rfl)(hsw:∀j,zCt (.ListComp (.List [] lpos) [⟨tg,iter,[],0⟩] sc pos) (some (.Name x pos')) spos.line (C.X j).env=pure true:=by intro _;rfl)(hs:∀i x,zCI iter (C.X i).env x=pure x:=by intro _ _;rfl)(hf:∀j,(C.X j).fn x=true\/(C.X j).env.scope.names.lookup x=some .local:=by intro _;first|exact .inl rfl|exact .inr rfl)(nd:∀j,(C.X j).N.Nodup:=by intro _;assumption)(hB:∀i,dD (C.X i) sc N (stV js) ks:=by intro _;exact z6 rfl rfl rfl rfl rfl rfl):
  SS C (.Assign [.Name x pos'] (.ListComp (.List [] lpos) [⟨tg,iter,[],0⟩] sc pos) spos) (llS i fi js fg):=by
 subst hj;obtain⟨wi,i1,i2⟩:=hi;obtain⟨g,g1,g2,g3,g4⟩:=hg;obtain⟨tt,t1,t2⟩:=yS (C:=C.blk sc N);refine⟨_,λ j=>aAV (nd j) (hN j) (hx j) (hB j) (C.calm j) (i1 j) (λ c fp z5 z3=>g1 (j,c,fp,z5,z3)) g3 (λ c fp z5 z3=>t1 (j,c,fp,z5,z3)) (λ c fp z5 z3=>yr gQ) (hsw j) (hs j) (hf j),λ U Z H ρ lab De R W=>?_⟩;refine aJz i2 g2 hfg t2 R (W.bo.imp λ ds _ w=>?_);by_cases hl:ds.length<zA0
 .rw[if_pos hl]at w
  refine⟨hl,λ l as H' s hn hH hnd oQ hal=>?_⟩;have bP:∀p o,H p=some o->(λ p=>if p=l then(i+2,0)else if p∈as then(i+2,as.idxOf p+1)else bw H 1 lab p) p=lab p:=λ p o e=>by
   dsimp only;have z1:p≠l:=λ z=>by subst z;rw[hn]at e;cases e
   have z2:p∉as:=λ z=>by rw[(hal p z).1]at e;cases e
   rw[if_neg z1,if_neg z2,bI e]
  have R':RR C.K C.G U ρ Z H' (λ p=>if p=l then(i+2,0)else if p∈as then(i+2,as.idxOf p+1)else bw H 1 lab p):=by
   refine(R.relab bP λ p hp=>?_).up s;cases e:H p with
   |none=>exact R.old.free e
   |some o=>
    have:=bP p o e
    dsimp only at this hp;rw[this]at hp;exact R.new p hp
  refine w _ _ _ (R'.put (s:=.o2 (zAP ds.length [])) ⟨l,as.map V.ref,rfl,hH,by dsimp only;rw[if_pos rfl],by rw[zAE,zBs];exact oQ,λ j x es e1 e2=>?_⟩);rw[zAQ,zCS]at e1;obtain⟨a,e1,rfl⟩:=e1;have ees:es=[]:=by
   rw[zCN]at e2;split at e2
   .cases e2;rfl
   .cases e2
  subst ees;have ha:a∈as:=zBG e1;have hla:a≠l:=λ z=>by subst z;exact(zBH.mp hnd).1 ha
  have hj2:j<as.length:=(zAI.mp e1).1;refine .lst (hal a ha).2 ?_ .nil
  show(if a=l then(i+2,0)else if a∈as then(i+2,as.idxOf a+1)else bw H 1 lab a)=(i+2,j+1)
  rw[if_neg hla,if_pos ha];have hix:as.idxOf a<as.length:=zG8.mpr ha
  have:as[as.idxOf a]? =some a:=by rw[zAC hix];exact congrArg some (List.getElem_idxOf hix)
  have:=(zDC hix (zBH.mp hnd).2).mp (this.trans e1.symm)
  rw[this]
 .rw[if_neg hl]at w
  exact zAU w
end
def dR{α:Type}(l:List α)(i:Int)(y:α):List α:=l.take (if i<0 then(i+(l.length:Int)).toNat else min i.toNat l.length)++y::l.drop (if i<0 then(i+(l.length:Int)).toNat else min i.toNat l.length)
def wu(l:List α)(i:Int)(y:α):(dR l i y).length=l.length+1:=by
 unfold dR;rw[zAV,zA6,zA3,zAp];omega
def aJZ:V->List V->Hp->VK->Prop:=λ x vs H Q=>∃l xs i y,x= .ref l/\vs=[.int i,y]/\H l=some (.lst xs)/\-(2^63)<=i/\i<2^63/\xs.length<zA0/\∀H',jo l H H'->H' l=some (.lst (dR xs i y))->Q .non H'
def aIJ:MtM X "list.insert" aJZ:=by
 intro kK s Z H x vs v us Q I rx rv h;obtain⟨l,xs,i,y,rfl,rfl,hH,h1,h2,hz,q⟩:=h;cases rx;obtain⟨u1,u2,rfl,r1,r2⟩:=vals2 rv;obtain⟨t,rfl⟩:=r1;obtain⟨z,its,n,r,hl,e⟩:=I.lstM hH;have hf:zDe i=true:=by unfold zDe;simp;omega
 refine zF4 zGI ⟨_,e,rfl⟩ PySem.F.entry_list_insert (PySem.F.args_list_insert_3 _ _ _) (zJD l its.toArray n i t u2 (by simp[hf]) (by rw[zAK];omega)) ⟨e,?_⟩;refine⟨.non,_,I.lset (ys:=dR xs i y) (its':=dR its i u2) hH e ?_ ?_ ?_,rfl,q _ (λ b o ne hb=>by rw[bF ne];exact hb) aa⟩
 .show(its.toArray.extract 0 (if i<0 then(i+(its.toArray.size:Int)).toNat else min i.toNat its.toArray.size)).push u2++its.toArray.extract (if i<0 then(i+(its.toArray.size:Int)).toNat else min i.toNat its.toArray.size)=(dR its i u2).toArray
  rw[PySem.W.kl_ins_eq,zAK];rfl
 .unfold dR
  rw[hl];exact(r.take _).append (.cons r2 (r.drop _))
 .rw[wu];omega
theorem Rps.dR{K:zAA}(r:Rps K A H xs ds)(h:Rp K A H x d)(i:Int):Rps K A H (VL.dR xs i x) (VL.dR ds i d):=by
 unfold VL.dR;rw[r.length];exact(r.take _).append (.cons h (r.drop _))
section
variable{C:Ct}{pos apos cpos p:Pos}{e e1 e2:Expr}{f1 f2:En->Rs D}{i:Nat}{x:Str}{m m1:Mode}
def aFn(i:Nat)(f1 f2:En->Rs D):En->Ou:=λ ρ=>match ρ[i]? with
 |some (.ow (.lst ds))=>(f1 ρ).bo λ k=>match k with
  | .int n=>(f2 ρ).bo λ d=>if -(2^63)<=n/\n<2^63/\ds.length<zA0 then .nx (ρ.set i (.ow (.lst (dR ds n d))))else .st
  |_=>.st
 |_=>.st
def aDW(i:Nat)(he1:SE C m1 e1 f1)(he2:SE C m e2 f2)(hm:okN m=true:=by rfl)(hN:∀j,(C.X j).N[i]? =some x:=by intro _;rfl)(hv:∀j,Vis (C.X j).env.scope x:=by intro _;first|exact zDE rfl|exact zCT (zDE rfl)|exact zCT (zCT rfl))(hd:Nd x:=by decide)
  (hcd:(x==("__classdict__":Str))=false:=by decide)(hs1:∀j,zA4 [e1,e2] (C.X j).env=(false,eval e1 (C.X j).env)::zA4 [e2] (C.X j).env:=by intro _;rfl)(hs2:∀j,zA4 [e2] (C.X j).env=[(false,eval e2 (C.X j).env)]:=by intro _;rfl)
  (hbase:∀j,zER (.Name x p) "insert" (C.X j).env (eval (.Name x p) (C.X j).env)=eval (.Name x p) (C.X j).env:=by intro _;rfl)
  (hfew:∀j,((zCs cpos (zA4 [e1,e2] (C.X j).env)).all (λ x=>!x.1)&&(zF3 cpos (zDt [] (C.X j).env)).all (λ x=>x.1.isSome)&&decide ([e1,e2].length+([]:List zCy).length+(if ([]:List zCy).isEmpty then 0 else 1)<30))=true:=by intro _;rfl)
  (hline:(apos.endLine==cpos.line)=true:=by rfl)(hplain:∀j,(zCs cpos (zA4 [e2] (C.X j).env)).any (·.1)=false:=by intro _;rfl)
  (hsw:∀j,zCt (.Call (.Attribute (.Name x p) "insert" apos) [e1,e2] [] cpos) none pos.line (C.X j).env=pure false:=by intro _;rfl):
  SS C (.Expr (.Call (.Attribute (.Name x p) "insert" apos) [e1,e2] [] cpos) pos) (aFn i f1 f2):=by
 obtain⟨t1,a1,a2⟩:=he1;obtain⟨t2,b1,b2⟩:=he2;refine⟨zr (tBM C.K "list" aJZ (uK i) (iy t1 (iy t2 sZ))),λ j=>pL (by rw[<-C.hK j];exact aA1 zCd zGI PySem.F.type_list_insert aIJ (jP (hN j) (hv j) hd hcd) (cj (a1 j) (cj (b1 j) gQ (hs2 j)) (hs1 j)) (hbase j) (hfew j) hline (hs1 j) (hplain j)) (hsw j),λ U Z H ρ lab De R W=>?_⟩;unfold aFn at W;cases es:ρ[i]? with
 |none=>rw[es]at W;exact zAU W
 |some s=>
  rw[es]at W;split at W
  .rename_i ds hs
   cases hs;rcases R.sl i _ es with z|⟨v,ev,hv'⟩
   .cases z
   .obtain⟨hv1,htop⟩:=hv'
    obtain⟨a0,ea0,la0⟩:=htop rfl;subst ea0;cases hv1 with
    |lst h mm r=>
     rename_i xs;refine⟨.ref a0,ev,.inl ⟨rfl,xs,SqL.of h⟩,a2 U Z H ρ lab _ R (W.bo.imp λ k _ w y1 H1 s1 r1=>?_)⟩;cases k with
     |int n=>
      cases r1;refine b2 U Z H1 ρ lab _ (R.up s1) (w.bo.imp λ d _ w y H2 s2 r2=>?_);by_cases hz: -(2^63)<=n/\n<2^63/\ds.length<zA0
      .rw[if_pos hz]at w
       refine⟨a0,xs,n,y,rfl,rfl,(s1.trans s2) _ _ h,hz.1,hz.2.1,by rw[r.length];exact hz.2.2,λ H3 B h3=>?_⟩;obtain⟨R',r'⟩:=(R.up s1).fresh (P:=λ k=>k=1) rfl (λ k hk=>beq_iff_eq.mp (mQ hm k hk)) s2 r2;have h1:H1 a0=some (.lst xs):=s1 _ _ h;have la:(bw H1 1 lab a0).1=i+2:=by rw[bI h1];exact la0
       refine w Z H3 _ (R'.mut ev (s2 _ _ h1) rfl la B ⟨.lst h3 (.inr la) ?_,λ _=>⟨a0,rfl,la⟩⟩);have ra:Rps C.K (λ p=>((bw H1 1 lab p).1=1\/(bw H1 1 lab p).1=i+2)/\p≠a0) H2 (dR xs n y) (dR ds n d):=by
        refine(r.mono (s1.trans s2) λ p o e z=>⟨by rw[bI (s1 _ _ e)];exact z.1,z.2⟩).dR (r'.wk λ p o e z=>⟨.inl z,λ q=>?_⟩) n;subst q;rw[la]at z;omega
       exact ra.but B (s2 _ _ h1) rfl λ z=>z.2 rfl
      .rw[if_neg hz]at w
       exact zAU w
     |_=>exact zAU w
  .exact zAU W
end
def aEC(hc:X.calm=true):cI X (.builtin "min") (λ xs H Q=>∃(p:Addr) (ns:List Int) (m:Int),xs=[.ref p]/\SqT X.K H p (ns.map V.int)/\ns.min?=some m/\Q (.int m) H):=by
 intro kK s Z H xs us Q I r h;obtain⟨p,ns,m,rfl,hp,hm,q⟩:=h;obtain⟨u,rfl,ru⟩:=vals1 r;cases ru;obtain⟨its,rv,pl,hz⟩:=I.tuple hp;obtain⟨ts,rfl,rfl⟩:=mW rv;have hsz:0<ts.toArray.size:=by
  cases ts with
  |nil=>cases hm
  |cons a b=>simp
 have hl:s.heap.IsTuple p (zFz ts.toArray):=by
  obtain⟨o,h1,h2,n,h3⟩:=pl;exact⟨o,h1,h2,n,by rw[h3];simp[zFz]⟩
 have hlt:p<s.heap.objs.size:=by obtain⟨_,e,_⟩:=hl;exact zA1 e
 refine call_min_walk (zE8 hl ?_);refine⟨_,_,_,_,_,_,_,rfl,zHS (A:=X.A.in1) (I.ok.hd hc) _ p (zAc hlt) (zFz ts.toArray),⟨⟨_,zAY _ rfl,rfl,rfl⟩,hl.push _⟩,λ b hb=>?_,by simpa[zFz]using hsz,zIn (numAt ts.toArray) (λ _ _=>zIv),λ v h' tk hv hk=>?_⟩
 .show b<(s.heap.push _).objs.size
  rw[zBe];simp only[zAM,zCL,or_false]at hb;rcases hb with e|e<;>subst e
  .exact zBf _
  .exact zBt hlt
 have hv':(zFz ts.toArray)[argBest (λ i j=>decide (numAt ts.toArray i<numAt ts.toArray j)) (ts.toArray.size-1)]? =some v:=by simpa[zFz]using hv
 obtain⟨t,rfl⟩:=zIv hv';obtain⟨h1,h2⟩:=zJW (numAt ts.toArray) (ts.toArray.size-1);have hM:(ts.map zFA).min?=some (numAt ts.toArray (argBest (λ i j=>decide (numAt ts.toArray i<numAt ts.toArray j)) (ts.toArray.size-1))):=by
  rw[zC2];refine⟨?_,λ a ha=>?_⟩
  .rw[zJH];exact getD_mem (by rw[zAE];simp at h1 hsz ⊢;omega)
  .obtain⟨j,hj,rfl⟩:=mem_getD ha
   have:=h2 j (by rw[zAE]at hj;simp;omega)
   rw[zJH _ j]at this;exact this
 rw[hm]at hM;injection hM with hM
 refine⟨.int m,H,I.kept λ b o e=>hk b o (λ z=>?_) (zAD _ e),⟨t,by rw[hM]⟩,q⟩;rw[zAN]at z;exact absurd (z▸zA1 e) (zBo _)
def j6(f:List Int->Option Int):List D->Rs D
 |[.tup l]=>match intsOf l with
  |some ns=>match f ns with
   |some m=>.ok (.int m)
   |none=>.st
  |none=>.st
 |ds=>j7 f ds
def aG4{K:zAA}:oA K (λ xs H Q=>(∃(p:Addr) (ns:List Int) (m:Int),xs=[.ref p]/\SqT K H p (ns.map V.int)/\f ns=some m/\Q (.int m) H)\/∃(p:Addr) (ns:List Int) (m:Int),xs=[.ref p]/\H p=some (.lst (ns.map V.int))/\f ns=some m/\Q (.int m) H) (j6 f):=by
 intro A xs ds H Q z r ez q;unfold j6 at ez;split at ez
 .split at ez
  .rename_i l ns e
   split at ez
   .rename_i m em
    cases ez
    have:=bM e
    subst this;cases r with
    |cons h r=>
     cases r;cases h with
     |tup h r=>
      have:=r.ints_of
      subst this;exact .inl ⟨_,ns,m,rfl,h,em,q _ H (aQ.refl H) (.int _)⟩
   .cases ez
  .cases ez
 .exact .inr (aDO A xs _ H Q z r ez q)
def aDr:∀x z,j6 f x= .ok z->imm z=true:=by
 intro x z e;unfold j6 at e;split at e
 .split at e
  .split at e
   .cases e;rfl
   .cases e
  .cases e
 .exact aAw _ _ e
section
variable{C:Ct}{pos p:Pos}{a:Expr}{ga:En->Rs (List D)}{m:Mode}
def aCb(hm:C.mg "min"=none)(ha:SA C m [a] ga)(he:∀i,zA4 [a] (C.X i).env=[(false,eval a (C.X i).env)]:=by intro _;rfl)(hg:∀i,Gl (C.X i) "min":=by intro _;rfl)(hv:zBO "min"=some (.builtin "min"):=by decide+kernel):SE C (some []) (.Call (.Name "min" p) [a] [] pos) (opA (j6 zCm) ga):=
 cZ (iQ (λ i=>by have h:=(aEC (X:=C.X i) (C.calm i)).or (xq (C.calm i));rw[C.hK i]at h;exact h) aG4 hg hm hv ha (by decide) (by decide) he) λ _ _ h=>kJ aDr h
end
def aIQ:∀{us:List α},us.length=6->∃a0 a1 a2 a3 a4 a5,us=[a0,a1,a2,a3,a4,a5]
 |[a0,a1,a2,a3,a4,a5],_=>⟨a0,a1,a2,a3,a4,a5,rfl⟩
theorem xO(f:α->β):∀(l:List α) (k:Nat),(l.map f).eraseIdx k=(l.eraseIdx k).map f
 |[],_=>rfl
 |_::_,0=>rfl
 |x::l,k+1=>by simp only[zAG,List.eraseIdx_cons_succ,xO f l k]
theorem aAP{K:zAA}:∀{ns:List Int} {xs:List V},Rps K A H xs (ns.map .int)->xs=ns.map .int
 |[],_,r=>by cases r;rfl
 |n::ns,_,r=>by
  cases r with
  |cons h r=>
   rw[h.int_inv,aAP r];rfl
def aJU:V->List V->Hp->VK->Prop:=λ x vs H Q=>∃(l:Addr) (ns:List Int) (i:Int),x= .ref l/\vs=[.int i]/\H l=some (.lst (ns.map V.int))/\i∈ns/\ns.length<=zA0/\∀H',jo l H H'->H' l=some (.lst ((ns.eraseIdx (ns.idxOf i)).map V.int))->Q .non H'
def aII:MtM X "list.remove" aJU:=by
 intro kK s Z H x vs v us Q I rx rv h;obtain⟨l,ns,i,rfl,rfl,hH,hm,hz,q⟩:=h;cases rx;obtain⟨u,rfl,ru⟩:=rv.one;obtain⟨t,rfl⟩:=ru;obtain⟨z,its,n,r,hl,e⟩:=I.lstM hH;rw[zAE]at hl;have hj:ns.idxOf i<ns.length:=zG8.mpr hm;have at_:∀m (hm:m<its.length),∃tk,its[m]= .int (ns[m]'(by lia)) tk:=λ m hm=>by
  have e1:(ns.map V.int)[m]? =some (.int (ns[m]'(by lia))):=by rw[zAQ,zAC (by lia)];rfl
  obtain⟨u,eu,ru⟩:=r.get e1;obtain⟨tk,rfl⟩:=ru;exact⟨tk,zAh ((zAC hm).symm.trans eu)⟩
 let eq:Value->Bool:=λ y=>match y with| .int a _=>a==i|_=>false
 refine zF4 zGJ ⟨_,e,rfl⟩ PySem.F.entry_list_remove (PySem.F.args_list_remove_2 _ _) (zJE l its.toArray n (.int i t) eq ?_ (ns.idxOf i) (by rw[zAK];lia) ?_ ?_ (by rw[zAK];lia)) ⟨e,?_⟩
 .intro y hy
  obtain⟨m,hm',rfl⟩:=Array.getElem_of_mem hy;rw[zDG];obtain⟨tk,ey⟩:=at_ m (by simpa using hm');rw[ey];exact zHD _ _ _ _
 .rw[zDG]
  obtain⟨tk,ey⟩:=at_ (ns.idxOf i) (by lia);rw[ey]
  show(ns[ns.idxOf i]==i)=true
  simp
 .intro m hm1 hm2
  rw[zDG];obtain⟨tk,ey⟩:=at_ m (by simpa using hm1);rw[ey]
  show(ns[m]'(by lia)==i)=false
  have:=List.not_of_lt_findIdx (p:=(·==i)) (xs:=ns) hm2
  simpa using this
 .refine⟨.non,_,I.lset (ys:=(ns.eraseIdx (ns.idxOf i)).map V.int) (its':=its.eraseIdx (ns.idxOf i)) hH e (by simp) ?_ ?_,rfl,q _ (λ b o ne hb=>by rw[bF ne];exact hb) aa⟩
  .have:=r.eraseIdx (ns.idxOf i)
   rwa [xO]at this
  .rw[zAE,zHJ]
   split<;>lia
def aH8(ρ:En)(i:Nat)(ds:List D)(d:D):Ou:=match intsOf ds,d with
 |some ns,.int z=>if z∈ns/\ns.length<=zA0 then .nx (ρ.set i (.ow (.lst ((ns.eraseIdx (ns.idxOf z)).map .int))))else .st
 |_,_=>.st
def aAQ(i:Nat)(fe:En->Rs D):En->Ou:=λ ρ=>match ρ[i]? with
 |some (.ow (.lst ds))=>(fe ρ).bo λ d=>aH8 ρ i ds d
 |_=>.st
section
variable{C:Ct}{pos apos cpos p:Pos}{e:Expr}{fe:En->Rs D}{i:Nat}{x:Str}{m:Mode}
def wM(i:Nat)(he:SE C m e fe)(hm:okN m=true:=by rfl)(hN:∀j,(C.X j).N[i]? =some x:=by intro _;rfl)(hv:∀j,Vis (C.X j).env.scope x:=by intro _;first|exact zDE rfl|exact zCT (zDE rfl)|exact zCT (zCT rfl))(hd:Nd x:=by decide)
  (hcd:(x==("__classdict__":Str))=false:=by decide)(hs1:∀j,zA4 [e] (C.X j).env=[(false,eval e (C.X j).env)]:=by intro _;rfl)
  (hbase:∀j,zER (.Name x p) "remove" (C.X j).env (eval (.Name x p) (C.X j).env)=eval (.Name x p) (C.X j).env:=by intro _;rfl)
  (hfew:∀j,((zCs cpos (zA4 [e] (C.X j).env)).all (λ x=>!x.1)&&(zF3 cpos (zDt [] (C.X j).env)).all (λ x=>x.1.isSome)&&decide ([e].length+([]:List zCy).length+(if ([]:List zCy).isEmpty then 0 else 1)<30))=true:=by intro _;rfl)
  (hline:(apos.endLine==cpos.line)=true:=by rfl)
  (hsw:∀j,zCt (.Call (.Attribute (.Name x p) "remove" apos) [e] [] cpos) none pos.line (C.X j).env=pure false:=by intro _;rfl):
  SS C (.Expr (.Call (.Attribute (.Name x p) "remove" apos) [e] [] cpos) pos) (aAQ i fe):=by
 obtain⟨t,h1,h2⟩:=he;refine⟨zr (tBM C.K "list" aJU (uK i) (iy t sZ)),λ j=>pL (by rw[<-C.hK j];exact aA1 zCd zGJ PySem.F.type_list_remove aII (jP (hN j) (hv j) hd hcd) (cj (h1 j) gQ (hs1 j)) (hbase j) (hfew j) hline (hs1 j) rfl) (hsw j),λ U Z H ρ lab De R W=>?_⟩;unfold aAQ at W;cases es:ρ[i]? with
 |none=>rw[es]at W;exact zAU W
 |some s=>
  rw[es]at W;split at W
  .rename_i ds hs
   cases hs;rcases R.sl i _ es with z|⟨v,ev,hv'⟩
   .cases z
   .obtain⟨hv1,htop⟩:=hv'
    obtain⟨a0,ea0,la0⟩:=htop rfl;subst ea0;cases hv1 with
    |lst h mm r=>
     rename_i xs;refine⟨.ref a0,ev,.inl ⟨rfl,xs,SqL.of h⟩,h2 U Z H ρ lab _ R (W.bo.imp λ d _ w y H2 s2 r2=>?_)⟩;unfold aH8 at w;split at w
     .rename_i zz ns z hns _
      by_cases hz:z∈ns/\ns.length<=zA0
      .rw[if_pos hz]at w
       have hds:=bM hns;subst hds;have ex:=aAP r;subst ex;have ey:=r2.int_inv;subst ey;refine⟨a0,ns,z,rfl,rfl,s2 _ _ h,hz.1,hz.2,λ H3 B h3=>?_⟩;obtain⟨R',r'⟩:=R.fresh (P:=λ k=>k=1) rfl (λ k hk=>beq_iff_eq.mp (mQ hm k hk)) s2 r2;have la:(bw H 1 lab a0).1=i+2:=by rw[bI h];exact la0
       exact w Z H3 _ (R'.mut ev (s2 _ _ h) rfl la B ⟨.lst h3 (.inr la) Rps.ints,λ _=>⟨a0,rfl,la⟩⟩)
      .rw[if_neg hz]at w
       exact zAU w
     .exact zAU w
  .exact zAU W
end
def aJ0:V->V->Hp->VK->Prop:=λ o i H Q=>∃(p:Addr) (xs:List V) (k:Int) (j:Nat) (z:V),o= .ref p/\i= .int k/\H p=some (.lst xs)/\ixN xs.length k=some j/\xs[j]? =some z/\Q z H
def aGG:aMc X aJ0:=by
 intro kK s Z H o i ov iv Q I ro ri h;obtain⟨p,xs,k,j,z,rfl,rfl,hp,hj,hz,q⟩:=h;cases ro;obtain⟨t,rfl⟩:=ri;obtain⟨its,n,r,ho,hs⟩:=I.lst hp;obtain⟨h1,h2,h3,h4⟩:=zK hj;obtain⟨w,ew,rw'⟩:=r.get hz;have hl:=r.length;have hn:=oU;have hL:s.heap.IsList p its.toArray:=⟨_,ho,rfl,n,rfl⟩;have fin:EP X kK Z Q w s:=⟨z,H,I,rw',q⟩;by_cases h0:0<=k
 .have hk:k.toNat=j:=by
   rw[zGs h0 h4]at h1;exact zAh h1
  exact wpAny_getItem_list hL h0 (by omega) (by rw[hk];simpa using ew) fin
 .have hk:(k+(its.toArray.size:Int)).toNat=j:=by
   rw[zG7 (by omega) h3]at h1;rw[zAK,<-hl];exact zAh h1
  exact zIN hL (by omega) (by rw[zAK,<-hl];exact h3) (by omega) (by rw[hk];simpa using ew) fin
def aM2(g:Int->Int->Int)(ρ:En)(i:Nat)(ds:List D)(j:Nat)(a:Int):D->Ou
 | .int b=>.nx (ρ.set i (.ow (.lst (ds.set j (.int (g a b))))))
 |_=>.st
def aEK(ds:List D):D->Option (Nat×Int)
 | .int k=>(ixN ds.length k).bind λ j=>match ds[j]? with
  |some (.int a)=>some (j,a)
  |_=>none
 |_=>none
def aGc(g:Int->Int->Int)(i:Nat)(fk fe:En->Rs D):En->Ou:=λ ρ=>match ρ[i]? with
 |some (.ow (.lst ds))=>(fk ρ).bo λ k=>match aEK ds k with
  |some (j,a)=>(fe ρ).bo λ d=>aM2 g ρ i ds j a d
  |none=>.st
 |_=>.st
def aEJ(h:aEK ds k=some (j,a)):∃n,k= .int n/\ixN ds.length n=some j/\ds[j]? =some (.int a):=by
 unfold aEK at h;split at h
 .rename_i n
  cases hj:ixN ds.length n with
  |none=>rw[hj]at h;cases h
  |some j'=>
   rw[hj,zDH]at h;split at h
   .rename_i a' ha
    cases h;exact⟨n,rfl,hj,ha⟩
   .cases h
 .cases h
section
variable{C:Ct}{pos tpos p:Pos}{ek e:Expr}{fk fe:En->Rs D}{x:Str}{m m1:Mode}{op:Operator}{g:Int->Int->Int}
def aHN(i:Nat)(hop:∀j,PIp (C.X j) op (ipI g))(hk:SE C m1 ek fk)(he:SE C m e fe)(hN:∀j,(C.X j).N[i]? =some x:=by intro _;rfl)(hv:∀j,Vis (C.X j).env.scope x:=by intro _;first|exact zDE rfl|exact zCT (zDE rfl)|exact zCT (zCT rfl))(hd:Nd x:=by decide)
  (hcd:(x==("__classdict__":Str))=false:=by decide)(ha:∀ov iv new,augStore ek ov iv new=(do zDa [new,ov,iv] (setItem ov iv new);release [new,ov,iv] [];pure .next):=by intros;rfl):
  SS C (.AugAssign (.Subscript (.Name x p) ek tpos) op e pos) (aGc g i fk fe):=by
 obtain⟨tk,k1,k2⟩:=hk;obtain⟨te,e1,e2⟩:=he;refine⟨aJK (uK i) tk te aJ0 (ipI g) aJT,λ j=>aHg (jP (hN j) (hv j) hd hcd) (k1 j) aGG (e1 j) (hop j) set_list ha,λ U Z H ρ lab De R W=>?_⟩;unfold aGc at W;cases es:ρ[i]? with
 |none=>rw[es]at W;exact zAU W
 |some s=>
  rw[es]at W;split at W
  .rename_i ds hs
   cases hs;rcases R.sl i _ es with z|⟨v,ev,hv'⟩
   .cases z
   .obtain⟨hv1,htop⟩:=hv'
    obtain⟨a0,ea0,la0⟩:=htop rfl;subst ea0;cases hv1 with
    |lst h mm r=>
     rename_i xs;refine⟨.ref a0,ev,k2 U Z H ρ lab _ R (W.bo.imp λ k _ w y1 H1 s1 r1=>?_)⟩;cases hK:aEK ds k with
     |none=>rw[hK]at w;exact zAU w
     |some ja=>
      obtain⟨j,a⟩:=ja;rw[hK]at w;dsimp only at w;obtain⟨n,rfl,hj,hda⟩:=aEJ hK;have ey:=r1.int_inv;subst ey;have hjx:j<xs.length:=by rw[r.length];exact(zAI.mp hda).1
      have hx:=zAC hjx;obtain⟨d',ed,rd⟩:=r.get hx;rw[hda]at ed;cases ed;have ex:=rd.int_inv;rw[ex]at hx;refine⟨a0,xs,n,j,.int a,rfl,rfl,s1 _ _ h,by rw[r.length];exact hj,hx,e2 U Z H1 ρ lab _ (R.up s1) (w.bo.imp λ d _ w y H2 s2 r2=>?_)⟩;cases d with
      |int b=>
       have ey:=r2.int_inv;subst ey;have h2:H2 a0=some (.lst xs):=(s1.trans s2) _ _ h;refine⟨a,b,rfl,rfl,a0,xs,n,j,rfl,rfl,h2,by rw[r.length];exact hj,?_⟩;have B:jo a0 H2 (upd H2 a0 (.lst (xs.set j (.int (g a b))))):=λ b' o ne hb=>by rw[bF ne];exact hb
       refine w Z _ _ ((R.up (s1.trans s2)).mut ev h2 rfl la0 B ⟨.lst aa (.inr la0) ?_,λ _=>⟨a0,rfl,la0⟩⟩);exact((r.up (s1.trans s2)).set (.int (g a b)) j).but B h2 rfl λ z=>z.2 rfl
      |_=>exact zAU w
  .exact zAU W
end
def nU(j:Int):List Int:=(zAr j.toNat).map λ(k:Nat)=>0+(k:Int)
def aLx:List V->Hp->VK->Prop:=λ xs H Q=>∃j:Int,xs=[.int j]/\∀p,H p=none->Q (.ref p) (upd H p (.rng 0 j))
def aG8:cI X (.type "range") aLx:=by
 intro kK s Z H vs us Q I rv h;obtain⟨j,rfl,q⟩:=h;obtain⟨u,rfl,ru⟩:=rv.one;obtain⟨t,rfl⟩:=ru;exact call_range_1 ⟨.ref s.heap.objs.size,_,I.laid (a:=s.heap.objs.size) (o:=.rng 0 j) (t':=s.toks+1+1) (λ _ _ q=>zAD _ q) (zAW _) ⟨_,_,_,zAY _ rfl⟩,rfl,q _ (I.hok.fresh (zAW _))⟩
def aAT:List V->Hp->VK->Prop:=λ xs H Q=>∃(p:Addr) (j:Int),xs=[.ref p]/\H p=some (.rng 0 j)/\-(2^62)<=j/\j<=10000/\∀l H',aQ H H'->H l=none->H' l=some (.lst ((nU j).map V.int))->Q (.ref l) H'
def aHG:∀{ns:List Int} {us:List Value},ns.length=us.length->(∀(k:Nat) i,ns[k]? =some i->∃tk,us[k]? =some (.int i tk))->Vals (ns.map V.int) us:=by
 intro ns;induction ns with
 |nil=>intro us hl _;rw[List.eq_nil_of_length_eq_zero hl.symm];exact .nil
 |cons n ns ih=>
  intro us hl h;obtain⟨tk,e⟩:=h 0 n rfl;cases us with
  |nil=>cases e
  |cons u us=>
   have e':u= .int n tk:=zAh e;subst e';exact .cons ⟨tk,rfl⟩ (ih (zI2 hl) λ k i hi=>h (k+1) i hi)
def zY(hc:X.calm=true):cI X (.type "list") aAT:=by
 intro kK s Z H vs us Q I rv h;obtain⟨p,j,rfl,hp,h1,h2,q⟩:=h;obtain⟨u,rfl,ru⟩:=rv.one;cases ru;obtain⟨t,u,v,hg⟩:=I.hok p _ hp;have hsz:zEA 0 j 1=(j.toNat:Int):=by
  unfold zEA;simp only[show(1:Int)>0 by decide,if_true];split<;>lia
 refine call_list_range (n:=j.toNat) (I.ok.hd hc) hg ?_ hsz (by lia) λ h' tk acc c' hk hS aE=>?_
 .have fl:∀x:Int,-(2^62)<=x->x<=2^62->zFI x=true:=λ x hx1 hx2=>by
   unfold zFI;simp;lia
  unfold zJJ;rw[hsz,fl 0 (by lia) (by lia),fl j (by lia) (by lia),fl 1 (by lia) (by lia),fl _ (by lia) (by lia),if_pos (by decide),fl (j+(1-1)) (by lia) (by lia),zJI];rfl
 .have hfr:=I.hok.fresh (zAW s.heap.objs.size)
  have hv:Vals ((nU j).map V.int) acc.toList:=by
   have hl:(nU j).length=acc.toList.length:=by rw[show acc.toList.length=acc.size from zAL,aE.1];simp[nU]
   refine aHG hl λ k i hi=>?_
   have hk2:k<acc.size:=by rw[aE.1];have:=(zAI.mp hi).1;simpa[nU]using this
   obtain⟨tk,e⟩:=aE.2 k acc[k] (zAH hk2);refine⟨tk,?_⟩;have ei:i=0+(k:Int)*1:=by
    unfold nU at hi;rw[zAQ]at hi;cases c:(zAr j.toNat)[k]? with
    |none=>rw[c]at hi;cases hi
    |some m=>
     rw[c]at hi;cases hi
     have:=zAI.mp c
     have:m=k:=by simpa using this.2.symm
     subst this
     show(0:Int)+(m:Int)=0+(m:Int)*1
     lia
   rw[ei,<-e];simp[hk2]
  refine⟨.ref s.heap.objs.size,upd H s.heap.objs.size (.lst ((nU j).map V.int)),I.laid (t':=tk) hk (zAW _) ⟨?_,acc.toList,c',hv,by simpa using hS⟩,rfl,q _ _ (ao hfr _) hfr aa⟩;simp[nU]
  have:zA0=16777216:=zCP
  lia
def lrR:D->Rs D
 | .int j=>if -(2^62)<=j/\j<=10000 then .ok (.lst (bf 0 j))else .st
 |_=>.st
def lrD(fa:En->Rs D):En->Rs D:=λ ρ=>(fa ρ).bd lrR
def aD5(j:Int):bf 0 j=(nU j).map D.int:=by
 unfold bf nU;rw[zAk,Int.sub_zero];rfl
section
variable{C:Ct}{pos pos2 p p2:Pos}{a:Expr}{fa:En->Rs D}{m:Mode}
def aB8(hmL:C.mg "list"=none)(hmR:C.mg "range"=none)(ha:SE C m a fa)(hs:∀i,zA4 [a] (C.X i).env=[(false,eval a (C.X i).env)]:=by intro _;rfl)(hs2:∀i,zA4 [.Call (.Name "range" p2) [a] [] pos2] (C.X i).env=[(false,eval (.Call (.Name "range" p2) [a] [] pos2) (C.X i).env)]:=by intro _;rfl)(hgL:∀i,Gl (C.X i) "list":=by intro _;rfl)(hvL:zBO "list"=some (.type "list"):=by decide+kernel)(hgR:∀i,Gl (C.X i) "range":=by intro _;rfl):SE C (some []) (.Call (.Name "list" p) [.Call (.Name "range" p2) [a] [] pos2] [] pos) (lrD fa):=by
 obtain⟨t,h1,h2⟩:=ha;refine⟨tCB aAT (iy (tCB aLx (iy t sZ)) sZ),λ i=>jY (zY (C.calm i)) (hgL i) (by rw[(C.cx i).2.2.2.1];exact hmL) hvL (cj (jY aG8 (hgR i) (by rw[(C.cx i).2.2.2.1];exact hmR) zJX (cj (h1 i) gQ (hs i)) (by decide) (by decide) (hs i) rfl) gQ (hs2 i)) (by decide) (by decide) (hs2 i) rfl,λ U Z H ρ lab Q R W=>?_⟩;refine h2 U Z H ρ lab _ R (W.bd.imp λ d _ w y H1 s1 r1=>?_);unfold lrR at w;split at w
 .rename_i j _
  by_cases hz: -(2^62)<=j/\j<=10000
  .rw[if_pos hz]at w
   have ey:=r1.int_inv;subst ey;refine⟨j,rfl,λ q hq=>⟨q,j,rfl,aa,hz.1,hz.2,λ l H' s' hl hH'=>?_⟩⟩;have s0:=(s1.trans (ao hq _)).trans s';have hlH:H l=none:=(s1.trans (ao hq _)).free hl;refine w _ H' s0 (.lst hH' (.inl hlH) ?_);rw[aD5];exact Rps.ints
  .rw[if_neg hz]at w
   exact zAU w
 .exact zAU w
end
def aM6(ρ:En)(i:Nat)(ds:List Int):D->Ou
 | .int z=>if ds.length<4000 then .nx (ρ.set i (.ow (.set (zEk ds z))))else .st
 |_=>.st
abbrev Ent:=List Int×Addr×V
def pairE(fk fv:En->Rs D):En->Rs D:=λ ρ=>(fk ρ).bd λ k=>(fv ρ).bd λ v=>.ok (.tup [k,v])
section
variable{fk fv:En->Rs D}
def aFR(h:pairE fk fv ρ= .ok y):∃k v,fk ρ= .ok k/\fv ρ= .ok v/\y= .tup [k,v]:=by
 obtain⟨k,h1,h2⟩:=cG h;obtain⟨v,h3,h4⟩:=cG h2;exact⟨k,v,h1,h3,by cases h4;rfl⟩
end
section
theorem ints_of:∀(tks:List (Int×Tok)),zB2 (tks.map λ p=>zED p.1 p.2) (tks.map (·.1))
 |[]=>.nil
 |p::r=>.cons _ _ (ints_of r)
end
abbrev aMf:=List (Str×(List D->Rs D))
def fnOf(tab:aMf):Rs D->Option (List D->Rs D)
 | .ok (.fn x)=>tab.lookup x
 |_=>none
end VL
namespace HT
open PySem PySem.Spec PyProof.Rows
end HT
namespace VL
open PySem PySem.Spec PyProof.Rows L2
end VL
namespace PySem.AutoSeq1
end PySem.AutoSeq1
namespace VL
open PySem PySem.Spec PyProof.Rows L2
def Enr(K:zAA)(x:Str)(st:Stmt)(f:Addr)(fd:zBA):Prop:=L2.Fun K x x st f fd/\zB0 K zAv x=some (some (.ref f))
def enr{K:zAA}{st:Stmt}{oc kV dc pm cd ct:Value}(a:zB0 K zAv x=some (some (.ref f)))
  (l:K.lookup f=some ⟨oc,od,.func (zCb x x (m6 st) (gC st) (aP st) .none kV dc pm an cd ct),sl⟩)(c:zEH K cd x=true)(k:zD2 K (.ref f)=true):∃f fd,Enr K x st f fd:=⟨f,_,aLT (st:=st) l c k,a⟩
structure Dnr(K:zAA)(mg:Str->Option Value)(x:Str)(st:Stmt)(ps:List Str)(f:Addr)(d:zBA):Prop where
 F:L2.Fun K x x st f d
 m:mg x=some (.ref f)
 b:L2.Binds K d ps []
section
variable{C:Ct}
def aZ{st:Stmt}(hF:cP C.prog C.w C.K C.mg C.base (CX1 C.prog C.w) k fn fd ps (spF C.K C.G.cl n F))(D:Dnr C.K C.mg x st ps fn fd)(ha:SA C m (e::es) ga)(hr:k<=C.k:=by exact Nat.le_of_ble_eq_true rfl)(hg:∀i,Gl (C.X i) x:=by intro _;rfl)
  (hn:∀ρ ds,ga ρ= .ok ds->ds.length=n:=by repeat (first|exact λ _ _ h=>aIP h|apply aFa))(hdb:Nd x:=by decide)(he:∀i,zA4 (e::es) (C.X i).env=(false,eval e (C.X i).env)::zA4 es (C.X i).env:=by intro _;rfl)
  (hpl:∀i,(zCs pos (zA4 es (C.X i).env)).any (·.1)=false:=by intro _;rfl):SE C (some []) (.Call (.Name x p) (e::es) [] pos) (aR F ga):=aH5 hF hr D.m D.F.kp D.b ha hn hdb he hpl hg
end
def bH{P:zA7}{w:World}{K:zAA}{st:Stmt}(D:Dnr K mg q st ps fn fd)(S:aX N ps (aP st))(hb:N.Nodup->∀cdv A outer s H E hr,SSs (ctD P w K mg base N q (aP st) fn cdv A outer s H E k hr) (gC st) f)(hn:ps.length=n:=by rfl)(hF:fJ N.length f=FF:=by rfl):
  cP P w K mg base (CX1 P w) (k+1) fn fd ps (spF K (bY mg) n FF):=aIf D.F S (hb S.nd) hn hF
def aC1(items:Array Value)(nss:Nat->List Int)(h:Heap):Prop:=∀i v,items[i]? =some v->∃x its,v= .ref x/\IsTup h x its/\zB2 its.toList (nss i)
def aBi(items:Array Value):List Addr:=items.toList.filterMap λ v=>match v with| .ref x=>some x|_=>none
def aBh{items:Array Value}{i:Nat}(h:items[i]? =some (zB9 x)):x∈aBi items:=by
 unfold aBi;rw[zCJ];exact⟨.ref x,by have:=zBG (l:=items.toList) (i:=i) (by simpa using h);exact this,rfl⟩
def aC1.keep(T:aC1 items nss h)(k:∀b∈aBi items,∀o,h.get? b=some o->h'.get? b=some o):aC1 items nss h':=λ i v e=>by
 obtain⟨x,its,rfl,⟨o,h1,h2⟩,h3⟩:=T i v e;exact⟨x,its,rfl,⟨o,k x (aBh e) o h1,h2⟩,h3⟩
def lq(ks vs:List D):Option (List (Int×D)):=match intsOf ks with
 |some is=>if is.length=vs.length then some (is.zip vs)else none
 |none=>none
def cQ(ps:List (Int×D)):D:=.dct (ps.map λ p=>.int p.1) (ps.map (·.2))
def aBm(h:lq ks vs=some ps):ks=ps.map (λ p=>.int p.1)/\vs=ps.map (·.2):=by
 unfold lq at h;split at h
 .rename_i is hi
  split at h
  .rename_i hl
   cases h;refine⟨?_,?_⟩
   .rw[bM hi,show(λ p:Int×D=>D.int p.1)=(λ i=>D.int i)∘zFA from rfl,<-zAk,zIX (by lia)]
   .rw[zFs (by lia)]
  .cases h
 .cases h
theorem aEN:∀ps:List (Int×D),(ps.map (·.1)).zip (ps.map (·.2))=ps
 |[]=>rfl
 |p::ps=>by rw[zAG,zAG,zBZ,aEN ps]
def qd(ps:List (Int×D)):lq (ps.map λ p=>.int p.1) (ps.map (·.2))=some ps:=by
 unfold lq;have e:intsOf (ps.map λ p=>D.int p.1)=some (ps.map (·.1)):=by
  rw[show(ps.map λ p=>D.int p.1)=(ps.map (·.1)).map D.int by rw[zAk];rfl];exact b8 _
 rw[e];dsimp only;rw[if_pos (by rw[zAE,zAE]),aEN]
def Rp.dctI_inv{K:zAA}(r:Rp K A H v (.dct ks vs))(h:lq ks vs=some ps):
  ∃a kvs,v= .ref a/\H a=some (.dK kvs)/\A a/\Rps K (λ p=>A p/\p≠a) H (kvs.map (·.2)) (ps.map (·.2))/\kvs.map (·.1)=ps.map λ p=>(zCe p.1:Key):=by
 obtain⟨h1,h2⟩:=aBm h;generalize hd:D.dct ks vs=d at r;cases r with
 |dK hh m r=>
  rename_i kvs ds;injection hd with q1 q2
  subst q2;refine⟨_,kvs,rfl,hh,m,by rw[<-h2];exact r,?_⟩;rw[h1]at q1;clear r h h1 h2 hh;induction kvs generalizing ps with
  |nil=>cases ps with
   |nil=>rfl
   |cons _ _=>cases q1
  |cons p kvs ih=>cases ps with
   |nil=>cases q1
   |cons q ps=>
    obtain⟨p1,p2⟩:=p;rw[zAG,zAG]at q1;injection q1 with q3 q4
    rw[zAG,zAG,ih q4];cases p1 with
    |inl i=>injection q3 with q3;rw[q3]
    |inr x=>cases q3
 |dT hh m r=>
  injection hd with q1 q2
  rw[h1]at q1;cases ps<;>cases q1
 |_=>cases hd
theorem aEX{K:zAA}:∀{kvs:List (Key×V)} {ps:List (Int×D)},Rps K A H (kvs.map (·.2)) (ps.map (·.2))->(kvs.map (·.1)=ps.map λ p=>(zCe p.1:Key))->∀i:Int,
  (∃d v,ps.lookup i=some d/\sV kvs (.inl i)=some v/\Rp K A H v d)\/(ps.lookup i=none/\sV kvs (.inl i)=none)
 |[],[],_,_,_=>.inr ⟨rfl,rfl⟩
 |[],_::_,_,e,_=>by cases e
 |_::_,[],_,e,_=>by cases e
 |p::kvs,q::ps,r,e,i=>by
  obtain⟨p1,p2⟩:=p;obtain⟨q1,q2⟩:=q;rw[zAG,zAG]at e;injection e with e1 e2
  replace e1:p1= .inl q1:=e1;subst e1;rw[zAG,zAG]at r;cases r with
  |cons h r=>
   by_cases c:q1=i
   .subst c
    exact .inl ⟨q2,p2,by simp[zBT],uG rfl,h⟩
   .have c1:(i==q1)=false:=by simpa using λ z=>c z.symm
    rw[uH (p:=(zCe q1,p2)) (by simpa using c),zBT,c1];exact aEX r e2 i
def aCV:D->D->Rs D
 | .dct ks vs,.int i=>match lq ks vs with
  |some ps=>(match ps.lookup i with
   |some d=>.ok d
   |none=>.st)
  |none=>.st
 |_,_=>.st
def aMu:R2:=λ x y H Q=>∃a v,x= .ref a/\aBT H a y (some v)/\Q v H
section
variable{C:Ct}{m1 m2:Mode}{a b:Expr}{fa fb:En->Rs D}{pos:Pos}
def aB9(ha:SE C m1 a fa)(hb:SE C m2 b fb)(hp:t8 b:=by exact λ _ _=>rfl):SE C m1 (.Subscript a b pos) (op2 aCV fa fb):=by
 obtain⟨t,h1,h2⟩:=ha;obtain⟨u,k1,k2⟩:=hb;refine⟨tOp aMu t u,λ i=>aHp (by have:=(C.room i).un;lia) (h1 i) (k1 i) hp,λ U Z H ρ lab Q R W=>?_⟩;refine h2 U Z H ρ lab _ R (W.bd.imp λ d _ w x H1 s1 r1=>?_);refine k2 U Z H1 ρ lab _ (R.up s1) (w.bd.imp λ e _ w y H2 s2 r2=>?_);obtain⟨z,ez,wz⟩:=w.okD;cases d with
 |dct ks vs=>
  cases e with
  |int i=>
   cases hp2:lq ks vs with
   |none=>unfold aCV at ez;dsimp only at ez;rw[hp2]at ez;cases ez
   |some ps=>
    unfold aCV at ez;dsimp only at ez;rw[hp2]at ez;dsimp only at ez;have ey:=r2.int_inv;subst ey;obtain⟨a,kvs,rfl,g1,m,r,hk⟩:=(r1.up s2).dctI_inv hp2;rcases aEX r hk i with ⟨d,v,e1,e2,e3⟩|⟨e1,e2⟩
    .rw[e1]at ez
     cases ez;have g2:aBT H2 a (.int i) (some v):=by
      have:=aBT.k (k:=.inl i) g1
      rw[e2]at this;exact this
     exact⟨a,v,rfl,g2,wz v H2 (s1.trans s2) (e3.wk λ p o _ q=>q.1)⟩
    .rw[e1]at ez;cases ez
  |_=>cases ez
 |_=>cases ez
end
def aAU(ps:List (Int×D))(i:Int)(d:D):List (Int×D):=if (ps.any λ p=>decide (p.1=i))=true then ps.map (λ p=>if p.1=i then(p.1,d)else p)else ps++[(i,d)]
theorem aGe:∀{kvs:List (Key×V)} {ps:List (Int×D)} {i:Int},(kvs.map (·.1)=ps.map λ p=>(zCe p.1:Key))->(kvs.any λ kv=>decide (kv.1=(.inl i:Key)))=ps.any λ p=>decide (p.1=i)
 |[],[],_,_=>rfl
 |[],_::_,_,e=>by cases e
 |_::_,[],_,e=>by cases e
 |(p1,p2)::kvs,q::ps,i,e=>by
  rw[zAG,zAG]at e;injection e with e1 e2
  replace e1:p1= .inl q.1:=e1;subst e1;rw[zDy,zDy,aGe e2];simp
theorem aEs{K:zAA}{i:Int}{v:V}{d:D}(h:Rp K A H v d):∀{kvs:List (Key×V)} {ps:List (Int×D)},Rps K A H (kvs.map (·.2)) (ps.map (·.2))->(kvs.map (·.1)=ps.map λ p=>(zCe p.1:Key))->
  Rps K A H ((kvs.map λ kv=>if kv.1= .inl i then(kv.1,v)else kv).map (·.2)) ((ps.map λ p=>if p.1=i then(p.1,d)else p).map (·.2))/\((kvs.map λ kv=>if kv.1= .inl i then(kv.1,v)else kv).map (·.1)=(ps.map λ p=>if p.1=i then(p.1,d)else p).map λ p=>(zCe p.1:Key))
 |[],[],_,_=>⟨.nil,rfl⟩
 |[],_::_,_,e=>by cases e
 |_::_,[],_,e=>by cases e
 |(p1,p2)::kvs,(q1,q2)::ps,r,e=>by
  rw[zAG,zAG]at e;injection e with e1 e2
  replace e1:p1= .inl q1:=e1;subst e1;rw[zAG,zAG]at r;cases r with
  |cons h1 r1=>
   obtain⟨z1,z2⟩:=aEs h r1 e2;rw[zAG,zAG,zAG,zAG,zAG,zAG,z2];by_cases c:q1=i
   .subst c
    rw[if_pos rfl,if_pos rfl];exact⟨.cons h z1,rfl⟩
   .rw[if_neg (show¬((zCe q1:Key),p2).1=zCe i by simpa using c),if_neg (show¬(q1,q2).1=i from c)]
    exact⟨.cons h1 z1,rfl⟩
def aKQ{K:zAA}{kvs:List (Key×V)}{ps:List (Int×D)}{i:Int}{v:V}{d:D}(r:Rps K A H (kvs.map (·.2)) (ps.map (·.2)))(e:kvs.map (·.1)=ps.map λ p=>(zCe p.1:Key))(h:Rp K A H v d):
  Rps K A H ((putK kvs (.inl i) v).map (·.2)) ((aAU ps i d).map (·.2))/\(putK kvs (.inl i) v).map (·.1)=(aAU ps i d).map λ p=>(zCe p.1:Key):=by
 unfold putK aAU;rw[aGe e];split
 .exact aEs h r e
 .rw[zBc,zBc,zBc,zBc,e]
  exact⟨r.append (.cons h .nil),rfl⟩
def aIk{K:zAA}{kvs:List (Key×V)}{ps:List (Int×D)}(h:H a=some (.dK kvs))(m:A a)(r:Rps K (λ p=>A p/\p≠a) H (kvs.map (·.2)) (ps.map (·.2)))(e:kvs.map (·.1)=ps.map λ p=>(zCe p.1:Key)):Rp K A H (.ref a) (cQ ps):=by
 have e1:(kvs.map λ p=>kD p.1)=ps.map λ p=>.int p.1:=by
  rw[show(kvs.map λ p=>kD p.1)=(kvs.map (·.1)).map kD by rw[zAk];rfl,e,zAk];rfl
 have:=Rp.dK h m r
 rw[e1]at this;exact this
def prT:D->Option (Int×D)
 | .tup [.int i,v]=>some (i,v)
 |_=>none
def lA:List D->Option (List (Int×D))
 |[]=>some []
 |d::ds=>match prT d,lA ds with
  |some p,some ps=>some (p::ps)
  |_,_=>none
def aFK(h:prT d=some p):d= .tup [.int p.1,p.2]:=by
 unfold prT at h;split at h
 .cases h;rfl
 .cases h
def ud(h:lA (d::ds)=some ps):∃p qs,d= .tup [.int p.1,p.2]/\lA ds=some qs/\ps=p::qs:=by
 unfold lA at h;split at h
 .rename_i p qs h1 h2
  cases h;exact⟨p,qs,aFK h1,h2,rfl⟩
 .cases h
def jd(acc qs:List (Int×D)):List (Int×D):=qs.foldl (λ ps q=>aAU ps q.1 q.2) acc
def dcI(fi:En->Rs (List D))(js:kX)(fg:D->En->Rs En)(ft:En->Rs Bool)(fk fv:En->Rs D):En->Rs D:=λ ρ=>(fi (shE ρ)).bd λ ds=>
 if ds.length<zA0 then(match lcL (stE js (shE ρ)) fg ft (pairE fk fv) ds with
  | .ok l=>(match lA l with
   |some qs=>.ok (cQ (jd [] qs))
   |none=>.st)
  |_=>.st)else .st
def aLf(tk tv:TE):Addr->L2.St->Hp->(Hp->Prop)->Prop:=λ D Z H Q=>tk Z H λ y H1=>tv Z H1 λ v H2=>∃i kvs,y= .int i/\H2 D=some (.dK kvs)/\kvs.length<zA0/\Q (upd H2 D (.dK (putK kvs (.inl i) v)))
def aMH{X:Cx}{kx vx:Expr}{tk tv:TE}(hk:PE X kx tk)(hv:PE X vx tv):PB X (v5 kx vx) (aLf tk tv):=by
 intro D kK s Z H Q I h;unfold v5;refine zAB (thn (hk kK s Z H _ I h) λ u s1 ⟨y,H1,I1,r1,q1⟩=>zAB (zCK (thn (hv kK s1 Z H1 _ I1 q1) λ u2 s2 ⟨v,H2,I2,r2,i,kvs,ey,hD,hl,q⟩=>?_)));subst ey;refine zAB (zFE (zCK ?_));obtain⟨z,hd,vs,rel,dd⟩:=aJh I2.hok hD;have hz:vs.length<=zA0:=by rw[<-rel.length];exact z
 have hl2:(putK kvs (.inl i) v).length<=zA0:=by have:=rP kvs (.inl i) v;lia
 refine wpAny_dictSet_pairs (knd:=cC X.prog X.w) (k:=.inl i) (hsz:=hz) (aFi (k:=.inl i) r1) dd λ h' dd' hs=>⟨_,?_,q⟩
 have he:∃q,h'.get? D=some q:=let⟨q,_,_,hq,_⟩:=dd';⟨q,hq⟩
 exact aIl I2 (t':=s2.toks+1) (by rw[hD];exact zDS) hs he (aL2 hl2 hd (rel.put (.inl i) r2) dd')
def aLb:aGt prog w newDict (λ ob=>ob={cls:=.type "dict",data:=.dict #[]}) (λ _=>.dK []) where
 make:=λ h=>zBw (h _ rfl)
 live:=by rintro ob rfl;rfl
 ok:=by
  rintro H h a ob rfl hg hb;exact⟨zAo _,beq_eq_false_iff_ne.mpr (zE1 (zAc hb)),[],.nil,_,#[],0,hg,⟨rfl,rfl,rfl⟩,rfl,λ _ he=>(by simp at he),Pairs.nil,zIp⟩
def vQ(acc qs:List (Int×D))(q:Int×D):jd acc (qs++[q])=aAU (jd acc qs) q.1 q.2:=by unfold jd;rw[zFb];rfl
theorem aAX:∀{l m:List D} {ps:List (Int×D)},lA (l++m)=some ps->∃p1 p2,lA l=some p1/\lA m=some p2/\ps=p1++p2
 |[],m,ps,h=>⟨[],ps,rfl,h,rfl⟩
 |d::l,m,ps,h=>by
  obtain⟨p,qs,rfl,h2,rfl⟩:=ud h;obtain⟨p1,p2,e1,e2,rfl⟩:=aAX h2;exact⟨p::p1,p2,by unfold lA;rw[e1];rfl,e2,rfl⟩
theorem wV(p:Int×D):∀{l:List D} {ps:List (Int×D)},lA l=some ps->lA (l++[.tup [.int p.1,p.2]])=some (ps++[p])
 |[],ps,h=>by cases h;rfl
 |d::l,ps,h=>by
  obtain⟨q,qs,rfl,h2,rfl⟩:=ud h;rw[zEc];unfold lA;rw[wV p h2];rfl
section
variable{K:zAA}{G:Gx}{wi:TI}{fi:En->Rs (List D)}{g:TG}{fg:D->En->Rs En}{tt:TT}{ft:En->Rs Bool}{tk tv:TE}{fk fv:En->Rs D}{js:kX}
def aKA(hi:aIx K G wi fi)(hg:aIy K {G with E:=λ _ _ _=>False} g fg)(ht:aC2 K {G with E:=λ _ _ _=>False} tt ft)(hk:gJ K {G with E:=λ _ _ _=>False} (some []) tk fk)(hv:gJ K {G with E:=λ _ _ _=>False} (some []) tv fv):
  gJ K G (some []) (aLl (λ _=>.dK []) wi (stV js) g tt (aLf tk tv)) (dcI fi js fg ft fk fv):=by
 intro U Z H ρ lab Q R W;refine hi U Z H _ _ _ R.shE (W.bd.imp λ ds _ w J H1 lab1 U1 s1 _ R1 jl=>?_);intro l hl;obtain⟨oQ,out,qs,aI,hqs,w⟩:ds.length<zA0/\∃out qs,lcL (stE js (VL.shE ρ)) fg ft (pairE fk fv) ds= .ok out/\lA out=some qs/\QE K (some []) lab H Q (cQ (jd [] qs)):=by
  by_cases oQ:ds.length<zA0
  .rw[if_pos oQ]at w
   cases aI:lcL (stE js (VL.shE ρ)) fg ft (pairE fk fv) ds with
   |ok out=>
    rw[aI]at w;dsimp only at w;cases hns:lA out with
    |some ns=>rw[hns]at w;exact⟨oQ,out,ns,rfl,hns,w⟩
    |none=>rw[hns]at w;exact zAU w
   |ex c=>rw[aI]at w;exact zAU w
   |st=>rw[aI]at w;exact zAU w
  .rw[if_neg oQ]at w
   exact zAU w
 have R0:RR K {G with E:=λ _ _ _=>False} (U1++U) (VL.shE ρ) Z H1 (λ _=>(0,0)):=R1.blk0 rfl;have RB:=R0.block (js:=js) (λ _=>zAo _) hl;have hHl:H l=none:=s1.free hl;have h0l:G.H0 l=none:=R1.old.free hl;refine⟨λ i n H2=>∃(kvs:List (Key×V)) (pre:List D) (qp:List (Int×D)),n=ds.length-i/\i<=ds.length/\H2 l=some (.dK kvs)/\kvs.length<=i/\lA pre=some qp/\Rps K (λ p=>H p=none/\p≠l) H2 (kvs.map (·.2)) ((jd [] qp).map (·.2))/\(kvs.map (·.1)=(jd [] qp).map λ p=>(zCe p.1:Key))/\
  RR K {G with E:=λ _ _ _=>False} (U1++U) (stE js (VL.shE ρ)) (stV js Z) H2 (λ p=>if p=l then(2,0)else(0,0))/\aQ H H2/\
  ∃post,lcL (stE js (VL.shE ρ)) fg ft (pairE fk fv) (ds.drop i)= .ok post/\out=pre++post,⟨ds.length,[],[],[],by lia,by lia,aa,zAW _,rfl,.nil,rfl,RB.up (ao hl _),s1.trans (ao hl _),out,aI,rfl⟩,?_⟩
 rintro i n H2 ⟨kvs,pre,qp,rfl,hi,hD,hei,hqp,rv,rk,R2,s2,post,hpost,eout⟩;have jj:=jl _ H2 λ q hq=>R2.tm q (zBP _ hq)
 by_cases hlt:i<ds.length
 .obtain⟨go,yl⟩:=(jj i).2 hlt
  refine .inr ⟨go,λ x H3 hy=>?_⟩;obtain⟨s3,d,ed,rx⟩:=yl x H3 hy;replace R2:=R2.up s3;replace hD:=s3 _ _ hD;replace s2:=s2.trans s3;replace rv:=rv.up s3;have ed2:ds.drop i=d::ds.drop (i+1):=by
   rw[zC7 hlt]
   have:=zAC hlt
   rw[ed]at this;cases this;rfl
  rw[ed2]at hpost;obtain⟨ρ1,k,e1,e2,e3⟩:=aAn hpost;refine hg (U1++U) x d _ H3 _ _ _ ρ1 R2 rx e1 λ Z4 R4=>?_
  refine ht (U1++U) Z4 H3 ρ1 _ _ R4 ?_;rw[e2];intro H5 s5;rcases e3 with ⟨rfl,y,ys,e3,e4,rfl⟩|⟨rfl,e4⟩
  .rw[if_pos rfl]
   obtain⟨kd,vd,e5,e6,rfl⟩:=aFR e3;obtain⟨p,k3,q3,q4⟩:∃(p:Int×D) (k3:List (Int×D)),D.tup [kd,vd]= .tup [.int p.1,p.2]/\lA ys=some k3:=by
    rw[eout]at hqs;obtain⟨p1,p2,_,q2,_⟩:=aAX hqs;obtain⟨p,k3,a1,a2,_⟩:=ud q2;exact⟨p,k3,a1,a2⟩
   injection q3 with q3
   injection q3 with q5 q6
   injection q6 with q6
   subst q5 q6;refine hk (U1++U) Z4 H5 ρ1 _ _ (R4.up s5) ?_;rw[e5];intro v H6 s6 r6;refine hv (U1++U) Z4 H6 ρ1 _ _ ((R4.up s5).up s6) ?_;rw[e6];intro v2 H7 s7 r7;have ey:=r6.int_inv;subst ey;have hD7:H7 l=some (.dK kvs):=((s5.trans s6).trans s7) _ _ hD;have B:jo l H7 (upd H7 l (.dK (putK kvs (.inl p.1) v2))):=λ b o ne hb=>by rw[bF ne];exact hb
   obtain⟨z1,z2⟩:=aKQ (i:=p.1) (A:=λ q=>H q=none/\q≠l) (rv.up ((s5.trans s6).trans s7)) rk (r7.wk λ q o _ z=>by
    rcases z with z|z
    .exact⟨((s2.trans s5).trans s6).free z,λ e=>by subst e;rw[(s5.trans s6) _ _ hD]at z;cases z⟩
    .cases z)
   refine⟨p.1,kvs,rfl,hD7,by lia,ds.length-(i+1),by lia,putK kvs (.inl p.1) v2,pre++[.tup [.int p.1,p.2]],qp++[p],rfl,hlt,aa,by have:=rP kvs (.inl p.1) v2;lia,wV p hqp,?_,?_,(R2.up ((s5.trans s6).trans s7)).but_blk B hD7 rfl h0l,?_,ys,e4,by rw[eout];simp⟩
   .rw[vQ]
    exact z1.but B hD7 rfl λ z=>z.2 rfl
   .rw[vQ]
    exact z2
   .exact λ b o hb=>B b o (λ z=>by subst z;rw[hHl]at hb;cases hb) ((((s2.trans s5).trans s6).trans s7) b o hb)
  .rw[if_neg zAS]
   exact⟨ds.length-(i+1),by lia,kvs,pre,qp,rfl,hlt,s5 _ _ hD,by lia,hqp,rv.up s5,rk,R2.up s5,s2.trans s5,post,e4,eout⟩
 .have ei:i=ds.length:=by lia
  subst ei;rw[zFp]at hpost;cases hpost;rw[zAx]at eout;subst eout;rw[hqs]at hqp;cases hqp;exact .inl ⟨(jj _).1 (zAW _),w _ H2 s2 (aIk hD (.inl hHl) (rv.wk λ p o _ z=>⟨.inl z.1,z.2⟩) rk)⟩
end
def aAy(i:Int):List Int->Option Nat
 |[]=>none
 |a::l=>if a=i then some 0 else(aAy i l).map (·+1)
theorem ww:∀{l:List Int} {j:Nat},aAy i l=some j->(l.map λ a=>a==i)[j]? =some true/\∀m,m<j->(l.map λ a=>a==i)[m]? =some false
 |a::l,j,h=>by
  unfold aAy at h;split at h
  .rename_i e
   cases h;exact⟨by simp[e],λ m hm=>absurd hm (zEy _)⟩
  .rename_i e
   obtain⟨k,h1,rfl⟩:=zCS.mp h;obtain⟨h2,h3⟩:=ww h1;refine⟨h2,λ m hm=>?_⟩;cases m with
   |zero=>simp[e]
   |succ m=>exact h3 m (by lia)
def qm(l:List D):D->Rs D
 | .int i=>match intsOf l with
  |some is=>(match aAy i is with
   |some j=>.ok (.int (j:Nat))
   |none=>.st)
  |none=>.st
 |_=>.st
def isL:D->Option (List D)
 | .lst l=>some l
 |_=>none
def opL(fd:List D->D->Rs D)(fo fe:En->Rs D):En->Rs D:=λ ρ=>(fo ρ).bd λ d=>match isL d with
 |some l=>(fe ρ).bd λ e=>okD (fd l e)
 |none=>.st
def aF9{K:zAA}(r:Rp K A H x (.lst l))(h:intsOf l=some is):∃a,x= .ref a/\H a=some (.lst (is.map V.int)):=by
 rw[bM h]at r;obtain⟨a,xs,rfl,h1,_,r1⟩:=r.lst_inv;have e:=r1.ints_of;subst e;exact⟨a,rfl,h1⟩
def aCi:V->List V->Hp->VK->Prop:=λ x xs H Q=>∃(a:Addr) (i:Int) (is:List Int) (j:Nat),x= .ref a/\xs=[.int i]/\H a=some (.lst (is.map V.int))/\(is.map λ e=>e==i)[j]? =some true/\(∀m,m<j->(is.map λ e=>e==i)[m]? =some false)/\Q (.int (j:Nat)) H
def eqV(i:Int):Value->Bool
 | .int n _=>n==i
 |_=>false
def aDh{X:Cx}:MtR X "list.index" aCi:=by
 intro kK s Z H x xs v us Q I rx rxs h;obtain⟨a,i,is,j,rfl,rfl,ha,e1,e2,q⟩:=h;cases rx;obtain⟨u,rfl,ru⟩:=vals1 rxs;obtain⟨t,rfl⟩:=ru;obtain⟨its,rv,pl,hz⟩:=I.list (SqL.of ha);obtain⟨ts,rfl,hts⟩:=mW rv;subst hts;obtain⟨⟨cls,dd,data,sl⟩,ho,hc,n,hdd⟩:=id pl.isList;simp only at hc hdd;subst hc hdd;have em:(ts.map zFA).map (λ e=>e==i)=ts.map λ q=>q.1==i:=by rw[zAk];rfl
 rw[em]at e1 e2;have hj:j<ts.length:=by
  have:=(zAI.mp e1).1
  simpa using this
 have oQ:ts.length<=zA0:=by simpa using hz
 have hz':zA0<2^62:=by decide
 refine zF4 zGQ ⟨_,ho,rfl⟩ PySem.F.entry_list_index (PySem.F.args_list_index_2 _ _) (SeqAt.list_indexAt a _ n dd sl (.int i t) (eqV i) j (by simpa using hj) (by omega) ?_ λ m hm hmj=>?_)
  ⟨ho,λ w hw=>?_,⟨.int _,H,I.tok _,⟨_,rfl⟩,q⟩⟩
 .rw[zAQ,zAC hj]at e1
  simpa[eqV]using e1
 .have h2:=e2 m hmj
  have hm':m<ts.length:=by simpa using hm
  rw[zAQ,zAC hm']at h2;simpa[eqV]using h2
 .have hw':w∈ts.map λ q=>zED q.1 q.2:=by simpa using hw
  obtain⟨q,_,rfl⟩:=zAl.mp hw';exact zEu q.1 q.2 i t
section
variable{C:Ct}{m m1:Mode}{o e:Expr}{fo fe:En->Rs D}{apos cpos:Pos}
def aAI(ho:SE C m o fo)(he:SE C m1 e fe)(hs1:∀j,zA4 [e] (C.X j).env=[(false,eval e (C.X j).env)]:=by intro _;rfl)(hbase:∀j,zER o "index" (C.X j).env (eval o (C.X j).env)=eval o (C.X j).env:=by intro _;rfl)
  (hfew:∀j,((zCs cpos (zA4 [e] (C.X j).env)).all (λ x=>!x.1)&&(zF3 cpos (zDt [] (C.X j).env)).all (λ x=>x.1.isSome)&&decide ([e].length+([]:List zCy).length+(if ([]:List zCy).isEmpty then 0 else 1)<30))=true:=by intro _;rfl)
  (hline:(apos.endLine==cpos.line)=true:=by rfl):SE C (some []) (.Call (.Attribute o "index" apos) [e] [] cpos) (opL qm fo fe):=by
 obtain⟨t,h1,h2⟩:=ho;obtain⟨u,k1,k2⟩:=he;refine⟨tBM C.K "list" aCi t (iy u sZ),λ j=>by rw[<-C.hK j];exact aA1 zCd zGQ PySem.F.type_list_index aDh (h1 j) (cj (k1 j) gQ (hs1 j)) (hbase j) (hfew j) hline (hs1 j) rfl,λ U Z H ρ lab Q R W=>?_⟩;refine h2 U Z H ρ lab _ R (W.bd.imp λ d _ w x H1 s1 r1=>?_);cases d with
 |lst l=>
  obtain⟨a,xs,rfl,ha,_⟩:=r1.lst_inv;replace w:WR C.G ((fe ρ).bd λ e=>okD (qm l e)) (QE C.K (some []) lab H Q):=w;refine⟨.inl ⟨rfl,xs,SqL.of ha⟩,k2 U Z H1 ρ lab _ (R.up s1) (w.bd.imp λ e _ w y H2 s2 r2=>?_)⟩;obtain⟨z,ez,wz⟩:=w.okD;cases e with
  |int i=>
   unfold qm at ez;dsimp only at ez;cases hi:intsOf l with
   |none=>rw[hi]at ez;cases ez
   |some is=>
    rw[hi]at ez;dsimp only at ez;have ey:=r2.int_inv;subst ey;obtain⟨a',ea,hl⟩:=aF9 (r1.up s2) hi;cases ea;cases hj:aAy i is with
    |none=>rw[hj]at ez;cases ez
    |some j=>
     rw[hj]at ez;cases ez;obtain⟨q1,q2⟩:=ww hj;exact⟨a,i,is,j,rfl,rfl,hl,q1,q2,wz _ H2 (s1.trans s2) (.int _)⟩
  |_=>cases ez
 |_=>exact zAU w
end
end VL
namespace PySem
open Sem(wp)
section
variable{prog:zA7}{w:World}
inductive zf{K:Type}[DecidableEq K](knd:KeyKind prog w K)(h:Heap):List Value->List (K×Value)->Prop where
 |nil:zf knd h [] []
 |cons {x:Addr} {o:Obj} {n:Nat} {kv v:Value} {k:K} {us:List Value} {ps:List (K×Value)} (ho:h.get? x=some o) (hc:o.cls= .type "tuple") (hd:o.data= .seq #[kv,v] n) (hk:knd.is k kv=true) (r:zf knd h us ps):zf knd h (.ref x::us) ((k,v)::ps)
end
end PySem
namespace VL
open PySem PySem.Spec PyProof.Rows L2
section
variable{K:Type}[DecidableEq K]
end
end VL
namespace L2
open PySem PySem.Spec PyProof.Rows
section
variable{X:Cx}{n0 n1 n2 odd:Str}{c1 c2:V}{k1 k2 k3 k4:List V}{l1 l2:List Str}{a1 a2:Expr}{as1 as2 e1 e2 e3 e4 w1 w2:List Expr}{kw1 kw2:List zCy}{Q:VK}{H:Hp}{vs:List V}
 {p1 p2 p3 p4 p5 p6 p7 p8 p9 p10 p11 p12 p13 p14 p15 p16 p17 p18 p19 p20 p21 p22 p23 p24 p25 p26 p27 p28 p29 p30 p31 p32 p33 p34 p35 p36 p37 p38 p39 p40:Pos}{q1 q2 q3 q4 q5 q6 q7:Pos}{j1 j2 j3 j4 j5:Nat}{E0:XK}{wd:Addr->Option Str}
end
section
variable{P:zA7}{w:World}{K:zAA}{mg:Str->Option Value}{base:Heap}{x q n0 n1 n2 odd:Str}{st:Stmt}{f:Addr}{fd:zBA}{k:Nat}{wd:Addr->Option Str}{c1 c2:V}{k1 k2 k3 k4:List V}{l1 l2:List Str}{a1 a2:Expr}{as1 as2 e1 e2 e3 e4 w1 w2:List Expr}{kw1 kw2:List zCy}
 {p1 p2 p3 p4 p5 p6 p7 p8 p9 p10 p11 p12 p13 p14 p15 p16 p17 p18 p19 p20 p21 p22 p23 p24 p25 p26 p27 p28 p29 p30 p31 p32 p33 p34 p35 p36 p37 p38 p39 p40:Pos}{q1 q2 q3 q4 q5 q6 q7:Pos}{j1 j2 j3 j4 j5:Nat}
end
section
variable{X:Cx}{n0 n1 n2 odd:Str}{c1 c2:V}{k1 k2 k3 k4:List V}{l1 l2:List Str}{a1 a2:Expr}{as1 as2 e1 e2 e3 e4 w1 w2:List Expr}{kw1 kw2:List zCy}{Q:VK}{H:Hp}{vs:List V}
 {p1 p2 p3 p4 p5 p6 p7 p8 p9 p10 p11 p12 p13 p14 p15 p16 p17 p18 p19 p20 p21 p22 p23 p24 p25 p26 p27 p28 p29 p30 p31 p32 p33 p34 p35 p36 p37 p38 p39 p40:Pos}{q1 q2 q3 q4 q5 q6 q7:Pos}{j1 j2 j3 j4 j5:Nat}{E0:XK}{wd:Addr->Option Str}
end
section
variable{P:zA7}{w:World}{K:zAA}{mg:Str->Option Value}{base:Heap}{x q n0 n1 n2 odd:Str}{st:Stmt}{f:Addr}{fd:zBA}{k:Nat}{wd:Addr->Option Str}{c1 c2:V}{k1 k2 k3 k4:List V}{l1 l2:List Str}{a1 a2:Expr}{as1 as2 e1 e2 e3 e4 w1 w2:List Expr}{kw1 kw2:List zCy}
 {p1 p2 p3 p4 p5 p6 p7 p8 p9 p10 p11 p12 p13 p14 p15 p16 p17 p18 p19 p20 p21 p22 p23 p24 p25 p26 p27 p28 p29 p30 p31 p32 p33 p34 p35 p36 p37 p38 p39 p40:Pos}{q1 q2 q3 q4 q5 q6 q7:Pos}{j1 j2 j3 j4 j5:Nat}
end
end L2
namespace VL
open PySem PySem.Spec PyProof.Rows L2
def dnr{K:zAA}{h:Heap}{mg:Str->Option Value}{x:Str}{st:Stmt}(X:K.In h)(G:h.Ns zAv mg)(e:∃f d,Enr K x st f d)(ps:List Str)
  (hb:∀(kV doc pm:Value) (an:Option Addr) (cdv ct:Value) (us:List Value),us.length=ps.length->bindArgs (zCb x x (m6 st) (gC st) (aP st) .none kV doc pm an cdv ct) ⟨us,[]⟩=pure (ps.zip us):=by
   intro _ _ _ _ _ _ us hl;repeat' first|rfl|(simp at hl;done)|rcases us with _|⟨_,us⟩):∃f d,Dnr K mg x st ps f d/\zB0 K zAv x=some (some (.ref f)):=by
 obtain⟨f,d,F,a⟩:=e;exact⟨f,d,⟨F,zDi X G a,F.binds hb⟩,a⟩
def wU:D->Rs D
 | .lst l=>.ok (.lst l.reverse)
 |_=>.st
def aJH(K:zAA)(te:TE):TE:=λ Z H Q=>te Z H λ x H1=>∃a xs,x= .ref a/\SqL K H1 a xs/\∀p,H1 p=none->Q (.ref p) (upd H1 p (.lst xs.reverse))
def aHn{X:Cx}(he:PE X e te):PE X (.Subscript e (.Slice none none (some (.UnaryOp .USub (.Constant (.int 1) j p3) p4)) p2) pos) (aJH X.K te):=by
 intro kK s Z H Q I h;refine zH9 (thn (he kK s Z H _ I h) λ v s1 ⟨x,H1,I1,r1,q1⟩=>?_);obtain⟨a,xs,rfl,hx,q⟩:=q1;cases r1;have hm:PE X (.UnaryOp .USub (.Constant (.int 1) j p3) p4) (tUn (rU λ i=>.int (-i)) (tC (.int 1))):=aJ4 aEY aFO;refine wpAny_Slice ?_;rw[zHp];refine zAJ (zAJ ?_);rw[evalPart_some];refine thn (hm kK s1 Z H1 (λ z H2=>z= .int (-1)/\H2=H1) I1 ⟨1,rfl,rfl,rfl⟩) λ u s2 ⟨z,H2,I2,r2,ez,eH⟩=>?_
 subst ez eH;obtain⟨tk,rfl⟩:=r2;have I4:Inv X kK Z H2 {s2 with heap:=s2.heap.push {cls:=.type "slice",data:=.fields #[.none,.none,.int (-1) tk]}}:=I2.kept (t':=s2.toks) λ b ob q=>zAD _ q
 obtain⟨its,r,ht,hz⟩:=I4.list hx;have oQ:its.toArray.size=xs.length:=by rw[zAK];exact r.length.symm
 show wpAny (model X.prog X.w) X.A (zGB e _ (.ref a) (.ref s2.heap.objs.size)) (EP X kK Z Q) X.xe _;refine tail_any (ops:=[.ref a,.ref s2.heap.objs.size]) ht.isList.typeIs zGX.lookup ?_ (by with_unfolding_all rfl);refine zHb ht.isList (zFx ..) .none .none (.int _ _) (by decide) ?_ (by rw[oQ];exact hz);rw[PySem.W.krv_pick];refine⟨.ref _,_,I4.laid (t':=s2.toks) (o:=.lst xs.reverse) (λ b ob q=>zAD _ q) (zAW _) ?_,rfl,q _ (I4.hok.fresh (zAW _))⟩;exact⟨by rw[zCi];exact hz,_,0,r.reverse,zAY _ rfl⟩
section
variable{C:Ct}{pos p2 p3 p4:Pos}{m:Mode}{e:Expr}{fe:En->Rs D}
def aHX(h:SE C m e fe):SE C m (.Subscript e (.Slice none none (some (.UnaryOp .USub (.Constant (.int 1) j p3) p4)) p2) pos) (op1 wU fe):=by
 obtain⟨t,h1,h2⟩:=h;refine⟨aJH C.K t,λ i=>by rw[<-C.hK i];exact aHn (h1 i),λ U Z H ρ lab Q R W=>h2 U Z H ρ lab _ R (W.bd.imp λ d _ w x H1 s1 r1=>?_)⟩;obtain⟨z,ez,w⟩:=w.okD;cases d with
 |lst l=>
  cases ez;obtain⟨a,xs,rfl,h,mm,r⟩:=r1.lst_inv;exact⟨a,xs,rfl,SqL.of h,λ p hp=>w _ _ (s1.trans (ao hp _)) (.lst aa (.inl (s1.free hp)) ((r.reverse.wk λ q o e z=>⟨z.1,λ e'=>by subst e';rw[hp]at e;cases e⟩).up (ao hp _)))⟩
 |_=>cases ez
end
end VL
namespace L2
open PySem PySem.Spec PyProof.Rows
end L2
namespace VL
open PySem PySem.Spec PyProof.Rows L2
section
variable{X:Cx}
def aCh(K:zAA)(w:World):List V->Hp->VK->Prop:=λ xs H Q=>∃a zs,xs=[.ref a]/\H a=some (.ext (setφ w a (aD7 zs)))/\bN K H (zs.map (·.1)) (zs.map (·.2))/\zs.length<4000/\yE H (zs.map (·.1)) (zs.map (·.2)) Q
def wI(hc:X.calm=true):cI X (.builtin "sorted") (aCh X.K X.w):=by
 intro kK s Z H xs us Q I r h;obtain⟨a,zs,rfl,ha,ht,h64,q⟩:=h;obtain⟨u,rfl,ru⟩:=vals1 r;cases ru;exact aB1 hc I ha (by rw[zAE];exact h64) λ s1 zs' hs1 hp=>aAA I ht (by rw[zAE];exact h64) q hs1 (by rw[aAR,aEO];exact hp) rfl
end
def dq:List D->Rs D
 |[.lst l]=>lN 77 l
 |_=>.st
section
variable{C:Ct}{pos p p2 pos2:Pos}{m:Mode}{a:Expr}{ga:En->Rs (List D)}
def vp(hm:C.mg "sorted"=none)(hm2:C.mg "set"=none)(ha:SA C m [a] ga)(he:∀i,zA4 [a] (C.X i).env=[(false,eval a (C.X i).env)]:=by intro _;rfl)(he2:∀i,zA4 [Expr.Call (.Name "set" p2) [a] [] pos2] (C.X i).env=[(false,eval (.Call (.Name "set" p2) [a] [] pos2) (C.X i).env)]:=by intro _;rfl)(hg:∀i,Gl (C.X i) "sorted":=by intro _;rfl)(hv:zBO "sorted"=some (.builtin "sorted"):=by decide+kernel)(hg2:∀i,Gl (C.X i) "set":=by intro _;rfl)(hv2:zBO "set"=some (.type "set"):=by decide+kernel):
  SE C (some []) (.Call (.Name "sorted" p) [.Call (.Name "set" p2) [a] [] pos2] [] pos) (opA dq ga):=by
 obtain⟨t,h1,h2⟩:=ha;have hw:∀i,(C.X i).w=C.w:=λ i=>(C.cx i).2.1
 refine⟨tCB (aCh C.K C.w) (iy (tCB (aEx C.K C.w) t) sZ),λ i=>jZ (by rw[<-C.hK i,<-hw i];exact wI (C.calm i)) (hg i) (by rw[(C.cx i).2.2.2.1];exact hm) hv
  (cj (jY (by rw[<-C.hK i,<-hw i];exact aCW (C.calm i) (C.u64 i)) (hg2 i) (by rw[(C.cx i).2.2.2.1];exact hm2) hv2 (h1 i) (by decide) (by decide) (he i) rfl) gQ (he2 i)) (by decide) (by decide) (he2 i) rfl,λ U Z H ρ lab Q R W=>?_⟩
 refine h2 U Z H ρ lab _ R (W.bd.imp λ ds _ w xs H1 s1 r1=>?_);obtain⟨z,ez,w2⟩:=w.okD;unfold dq at ez;split at ez
 .cases r1 with
  |cons h r=>
   cases r;obtain⟨a,xs,rfl,h,m,r⟩:=h.lst_inv;exact aHW (.inl (SqL.of h)) r ez (by decide) (λ a zs H2 _ h1 h2 h3 h4=>⟨a,zs,rfl,h1,h2,by lia,h4⟩) λ v H' s r=>w2 v H' (s1.trans s) (r.wk λ p o _ q=>.inl (s1.free q))
 .cases ez
end
section
variable{C:Ct}{pos pos' spos:Pos}{x:Str}{i:Nat}{kx vx tg iter:Expr}{ifs:List Expr}{sc:Scope}{N:List Str}{js:kX}{ks:List Nat}{fi:En->Rs (List D)}{fg:D->En->Rs En}{ft:En->Rs Bool}{fk fv:En->Rs D}
def aLo(hi:SI C tg iter fi)(hg:SG (C.blk sc N) tg ks fg)(ht:aGm (C.blk sc N) ifs ft)(hk:SE (C.blk sc N) (some []) kx fk)(hv:SE (C.blk sc N) (some []) vx fv)(hN:∀j,(C.X j).N[i]? =some x:=by intro _;rfl)(hx:∀j,Loc (C.X j).env.scope x:=by intro _;first|exact zDE rfl|exact zCT rfl)(hsw:∀j,zCt (.DictComp kx vx [⟨tg,iter,ifs,0⟩] sc pos) (some (.Name x pos')) spos.line (C.X j).env=pure true:=by intro _;rfl)
  (hs:∀i x,zCI iter (C.X i).env x=pure x:=by intro _ _;rfl)(hf:∀j,(C.X j).fn x=true\/(C.X j).env.scope.names.lookup x=some .local:=by intro _;first|exact .inl rfl|exact .inr rfl)(nd:∀j,(C.X j).N.Nodup:=by intro _;assumption)(hB:∀i,dD (C.X i) sc N (stV js) ks:=by intro _;exact z6 rfl rfl rfl rfl rfl rfl):
  SV C i (.Assign [.Name x pos'] (.DictComp kx vx [⟨tg,iter,ifs,0⟩] sc pos) spos) (some []) (dcI fi js fg ft fk fv):=by
 obtain⟨wi,i1,i2⟩:=hi;obtain⟨g,g1,g2,g3,g4⟩:=hg;obtain⟨tt,t1,t2⟩:=ht;obtain⟨tk,k1,k2⟩:=hk;obtain⟨tv,v1,v2⟩:=hv;exact⟨_,λ j=>aFH (pos:=pos) (nd j) (hN j) (hx j) (hB j) (C.calm j) (i1 j) (λ c fp z5 z3=>g1 (j,c,fp,z5,z3)) g3 (λ c fp z5 z3=>t1 (j,c,fp,z5,z3)) (aDV kx vx tg iter ifs sc pos) (aBY kx vx tg iter ifs sc pos) aLb (λ c fp z5 z3=>aMH (X:=(C.X j).block sc c N fp z5 z3) (k1 (j,c,fp,z5,z3)) (v1 (j,c,fp,z5,z3))) (hsw j) rfl (λ _=>rfl) (hs j) (hf j),aKA i2 g2 t2 k2 v2⟩
end
def aHI:D->Rs Bool
 | .dct ks vs=>match lq ks vs with
  |some ps=>.ok (!ps.isEmpty)
  |none=>.st
 |_=>.st
def tsd(f:En->Rs D):En->Rs Bool:=λ ρ=>(f ρ).bd aHI
def aJx{C:Ct}(ha:SE C m a fa)(he:∀i whole,isTrue a (C.X i).env whole=(do let v <-whole;zHs a.pos;zDa [v] (truthy v)):=by intro _ _;rfl):ST C a (tsd fa):=by
 obtain⟨t,h1,h2⟩:=ha;refine⟨λ Z H Q=>t Z H λ x H'=>∃p kvs,x= .ref p/\H' p=some (.dK kvs)/\Q (!kvs.isEmpty) H',λ i=>?_,λ U Z H ρ lab Q R W=>h2 U Z H ρ lab _ R (W.bd.imp λ d _ w x H1 s1 r1=>?_)⟩
 .intro kK s Z H Q I h
  refine isTrue_plain (thn (h1 i kK s Z H _ I h) λ v s1 ⟨x,H1,I1,r1,p,kvs,ex,hp,q⟩=>?_) (he i _);subst ex;cases r1;exact aIm I1 (.inl hp) λ s' I'=>⟨H1,I',q⟩
 .cases d with
  |dct ks vs=>
   replace w:WR C.G (match lq ks vs with|some ps=>Rs.ok (!ps.isEmpty)|none=>.st) (QT H Q):=w;cases hp:lq ks vs with
   |none=>rw[hp]at w;exact zAU w
   |some ps=>
    rw[hp]at w;obtain⟨p,kvs,rfl,g,_,_,hk⟩:=r1.dctI_inv hp;refine⟨p,kvs,rfl,g,?_⟩;have e:kvs.isEmpty=ps.isEmpty:=by
     have:=congrArg List.isEmpty hk
     rwa [zFr,zFr]at this
    rw[e];exact w H1 s1
  |_=>exact zAU w
def aJW:List V->Hp->VK->Prop:=λ xs H Q=>∃(p:Addr) (kvs:List (Key×V)) (ns:List Int) (m:Int),xs=[.ref p]/\H p=some (.dK kvs)/\kvs.map (·.1)=ns.map (λ n=>(zCe n:Key))/\ns.min?=some m/\Q (.int m) H
theorem KV.at:∀{kvs:List (Key×V)} {vs:List (Key×Value)},KV kvs vs->vs.map (·.1)=kvs.map (·.1)
 |_,_,.nil=>rfl
 |_,_,.cons e r=>by rw[zAG,zAG,KV.at r,e.1]
def aED{X:Cx}(hc:X.calm=true):cI X (.builtin "min") aJW:=by
 intro kK s Z H xs us Q I r h;obtain⟨p,kvs,ns,m,rfl,hp,hk,hm,q⟩:=h;obtain⟨u,rfl,ru⟩:=vals1 r;cases ru;obtain⟨z,hd,vs,rel,dd⟩:=aJh I.hok hp;obtain⟨ep,hda⟩:=dd.dictAt;have hlt:=hda.lt_size;have hvk:vs.map (·.1)=ns.map (λ n=>(zCe n:Key)):=(KV.at rel).trans hk;have oQ:vs.length=ns.length:=by have:=congrArg zH3 hvk;simpa using this
 have hsz:0<vs.length:=by
  rw[oQ];cases ns with
  |nil=>cases hm
  |cons a b=>simp
 have hat:∀(i:Nat) v,(∃k x,vs[i]? =some (k,x)/\(cC X.prog X.w).is k v=true)->∃t,v= .int (ns.getD i 0) t:=λ i v ⟨k,x,e,hv⟩=>by
  have h1:(vs.map (·.1))[i]? =some k:=by rw[zAQ,e];rfl
  rw[hvk,zAQ]at h1;cases hn:ns[i]? with
  |none=>rw[hn]at h1;cases h1
  |some n=>
   rw[hn]at h1
   have:k=zCe n:=(zAh h1).symm
   subst this;rcases bZ (k:=.inl n) (v:=v) hv with ⟨j,t,e1,e2⟩|⟨y,t,e1,e2⟩
   .cases e1;exact⟨t,by rw[e2,zBN,hn];rfl⟩
   .cases e1
 refine call_min_walk (wpAny_pyIter_dict hd hda ?_);refine⟨_,_,_,_,_,_,_,rfl,Walks.dictKeys (knd:=cC X.prog X.w) (A:=X.A.in1) (I.ok.hd hc) _ p (zAc hlt) vs ep,⟨⟨_,zAY _ rfl,rfl,rfl⟩,hda.push _⟩,λ b hb=>?_,hsz,zIn (λ i=>ns.getD i 0) hat,λ v h' tk hv hk=>?_⟩
 .show b<(s.heap.push _).objs.size
  rw[zBe];simp only[zAM,zCL,or_false]at hb;rcases hb with e|e<;>subst e
  .exact zBf _
  .exact zBt hlt
 obtain⟨t,rfl⟩:=hat _ v hv;obtain⟨h1,h2⟩:=zJW (λ i=>ns.getD i 0) (vs.length-1);have hM:ns.min?=some (ns.getD (argBest (λ i j=>decide (ns.getD i 0<ns.getD j 0)) (vs.length-1)) 0):=by
  rw[zC2];refine⟨getD_mem (by lia),λ a ha=>?_⟩;obtain⟨j,hj,rfl⟩:=mem_getD ha;exact h2 j (by lia)
 rw[hm]at hM;injection hM with hM
 refine⟨.int m,H,I.kept λ b o e=>hk b o (λ z=>?_) (zAD _ e),⟨t,by rw[hM]⟩,q⟩;rw[zAN]at z;exact absurd (z▸zA1 e) (zBo _)
def rO:List D->Rs D
 |[.dct ks vs]=>match lq ks vs with
  |some ps=>(match (ps.map (·.1)).min? with
   |some m=>.ok (.int m)
   |none=>.st)
  |none=>.st
 |_=>.st
def aIr{K:zAA}:aDS K aJW rO:=by
 intro A xs ds H Q z r ez q;unfold rO at ez;split at ez
 .cases r with
  |cons h r=>
   cases r;split at ez
   .rename_i ps hp
    split at ez
    .rename_i m hm
     cases ez;obtain⟨p,kvs,rfl,g,_,_,hk⟩:=h.dctI_inv hp;exact⟨p,kvs,ps.map (·.1),m,rfl,g,by rw[hk,zAk];rfl,hm,q _ H (aQ.refl H) (.int m)⟩
    .cases ez
   .cases ez
 .cases ez
section
variable{C:Ct}{pos p p2:Pos}{m:Mode}{a:Expr}{ga:En->Rs (List D)}{fa:En->Rs D}{lo hi:Option Expr}
def aHZ(hm:C.mg "min"=none)(ha:SA C m [a] ga)(he:∀i,zA4 [a] (C.X i).env=[(false,eval a (C.X i).env)]:=by intro _;rfl)(hg:∀i,Gl (C.X i) "min":=by intro _;rfl)(hv:zBO "min"=some (.builtin "min"):=by decide+kernel):SE C (some []) (.Call (.Name "min" p) [a] [] pos) (opA rO ga):=by
 obtain⟨t,h1,h2⟩:=ha;exact⟨_,λ i=>jZ (aED (C.calm i)) (hg i) (by rw[(C.cx i).2.2.2.1];exact hm) hv (h1 i) (by decide) (by decide) (he i) rfl,yP aIr h2⟩
def slI(d:D)(lo hi:Option Int):Rs D:=match d with
 | .lst l=>if mz (cutD l lo hi)=true then .ok (.lst (cutD l lo hi))else .st
 |_=>.st
def qN(fa:En->Rs D)(fl fh:En->Rs (Option Int)):En->Rs D:=λ ρ=>(fa ρ).bd λ d=>(fl ρ).bd λ l=>(fh ρ).bd λ h=>okD (slI d l h)
def aD2{fl fh:En->Rs (Option Int)}(ha:SE C m a fa)(hl:SO C lo fl)(hh:SO C hi fh):SE C (some []) (.Subscript a (.Slice lo hi none p2) pos) (qN fa fl fh):=by
 obtain⟨t,h1,h2⟩:=ha;obtain⟨tl,l1,l2⟩:=hl;obtain⟨th,k1,k2⟩:=hh;refine⟨tSl (aKL C.K) t tl th,λ i=>by rw[<-C.hK i];exact aA0 aLq (h1 i) (l1 i) (k1 i),λ U Z H ρ lab Q R W=>h2 U Z H ρ lab _ R (W.bd.imp λ d _ w x H1 s1 r1=>?_)⟩;refine l2 U Z H1 ρ lab _ (R.up s1) (w.bd.imp λ ol _ w H2 s2=>?_);refine k2 U Z H2 ρ lab _ ((R.up s1).up s2) (w.bd.imp λ oh _ w H3 s3=>?_);obtain⟨z,ez,w⟩:=w.okD;have s:=s1.trans (s2.trans s3);have r3:=r1.up (s2.trans s3);cases d with
 |lst l=>
  unfold slI at ez;dsimp only at ez;split at ez
  .rename_i hi
   cases ez;obtain⟨p0,xs,rfl,h,mm,r⟩:=r3.lst_inv;exact .inr ⟨_,_,rfl,SqL.of h,λ p hp=>w _ _ (s.trans (ao hp _)) (.lst aa (.inl (s.free hp)) (((r.cut ol oh).imm hi).up (ao hp _)))⟩
  .cases ez
 |_=>cases ez
end
def aND(A:zAt)(s:zAF)(v u:Value)(b:Bool):Prop:=∀(prog:zA7) (w:World) (E:Value->zAF->Prop) (Q:Value->zAF->Prop),Q (.bool b) s->wpAny (model prog w) A (zGr .Gt v u) Q E s
inductive aEM(A:zAt)(s:zAF):List Value->List Value->Bool->Prop
 |nn:aEM A s [] [] false
 |nc:aEM A s [] (v::vs) false
 |cn:aEM A s (v::vs) [] true
 |eq:zDR A s v u true->aEM A s vs us b->aEM A s (v::vs) (u::us) b
 |un:zDR A s v u false->aND A s v u b->aEM A s (v::vs) (u::us) b
section
open PySem.SeqAt
open PySem.AutoSeq1(wpAny_loadPart')
open PySem.MeetsSeq PySem.MeetsSeq2 PySem.MeetsSeq3
end
section
structure Cmp(f:D->D->Option Bool)(l:List D):Prop where
 n0:0<l.length
 im:mz l=true
 nd:au l=true
 dp:dU l<=40
 cm:∀x∈l,∀y∈l,(f x y).isSome=true
instance:Decidable (Cmp f l):=if h:0<l.length/\mz l=true/\au l=true/\dU l<=40/\∀x∈l,∀y∈l,(f x y).isSome=true then .isTrue ⟨h.1,h.2.1,h.2.2.1,h.2.2.2.1,h.2.2.2.2⟩else .isFalse λ z=>h ⟨z.n0,z.im,z.nd,z.dp,z.cm⟩
end
def aNC(A:zAt)(s:zAF)(v u:Value)(b:Bool):Prop:=∀(prog:zA7) (w:World) (E:Value->zAF->Prop) (Q:Value->zAF->Prop),Q (.bool b) s->wpAny (model prog w) A (zGr .Lt v u) Q E s
inductive aEL(A:zAt)(s:zAF):List Value->List Value->Bool->Prop
 |nn:aEL A s [] [] false
 |nc:aEL A s [] (v::vs) true
 |cn:aEL A s (v::vs) [] false
 |eq:zDR A s v u true->aEL A s vs us b->aEL A s (v::vs) (u::us) b
 |un:zDR A s v u false->aNC A s v u b->aEL A s (v::vs) (u::us) b
section
open PySem.SeqAt
open PySem.AutoSeq1(wpAny_loadPart')
open PySem.MeetsSeq PySem.MeetsSeq2 PySem.MeetsSeq3
end
section
variable{ρ:En}{i:Nat}{f g:En->Rs D}{fb gb:En->Rs Bool}{ga:En->Rs (List D)}{u v:En->Ou}{d:D}
@[simp] def varD_ap:cM i ρ=match ρ[i]? with
 |some (.sh d)=>.ok d
 |some (.nw d)=>.ok d
 |some (.ow d)=>.ok d
 |some (.oz d)=>.ok d
 |some (.o2 l)=>.ok (.lst (l.map .lst))
 |_=>.st:=aN rfl
@[simp] def aHE:aC i ρ=match ρ[i]? with
 |some (.sh d)=>.ok d
 |some (.nw d)=>.ok d
 |_=>.st:=aN rfl
@[simp] def aHF:dM i ρ=match ρ[i]? with
 |some (.nw d)=>.ok d
 |_=>.st:=aN rfl
@[simp] def varO_ap:uF i ρ=match ρ[i]? with
 |some (.ow d)=>.ok d
 |some (.o2 l)=>.ok (.lst (l.map .lst))
 |_=>.st:=aN rfl
@[simp] def aM1:cD d ρ= .ok d:=aN rfl
@[simp] def fj:aJ ρ= .ok []:=aN rfl
@[simp] def cR:aB f ga ρ=(f ρ).bd λ d=>(ga ρ).bd λ ds=>.ok (d::ds):=aN rfl
@[simp] def szl:zA0=16777216:=zCP
@[simp] def aC6:iI ga ρ=(ga ρ).bd λ ds=>if ds.length<=16777216 then .ok (.tup ds)else .st:=by unfold iI;rw[szl]
@[simp] def aIO:gR ga ρ=(ga ρ).bd λ ds=>if ds.length<=16777216 then .ok (.lst ds)else .st:=by unfold gR;rw[szl]
@[simp] def cF:okD (.ok d)= .ok d:=aN rfl
@[simp] def fC:op2 fd f g ρ=(f ρ).bd λ x=>(g ρ).bd λ y=>okD (fd x y):=aN rfl
@[simp] def aKo:op1 fd f ρ=(f ρ).bd λ x=>okD (fd x):=aN rfl
@[simp] def iU:opA fd ga ρ=(ga ρ).bd λ x=>okD (fd x):=aN rfl
@[simp] def aBM:aR F ga ρ=(ga ρ).bd F:=aN rfl
def aM5(d:D)(r:Rs D):Rs D:=match d with
 | .bl true=>r
 | .bl false=>.ok (.bl false)
 |_=>.st
@[simp] def aDQ:aM5 (.bl b) r=if b=true then r else .ok (.bl false):=by cases b<;>rfl
@[simp] def aDR:qJ f g ρ=(f ρ).bd λ d=>aM5 d (g ρ):=aN rfl
@[simp] def notD_bl:aIH (.bl b)= .ok (.bl (!b)):=aN rfl
@[simp] def ifD_ap:ifD fb f g ρ=(fb ρ).bd λ k=>if k=true then f ρ else g ρ:=aN rfl
def chR(d:D)(r:Rs D):Rs D:=match d with
 | .bl true=>r
 | .bl false=>.ok (.bl false)
 |_=>.st
@[simp] def chR_bl:chR (.bl b) r=if b=true then r else .ok (.bl false):=by cases b<;>rfl
@[simp] def chD_ap:chD fd fd' f g h ρ=(f ρ).bd λ x=>(g ρ).bd λ y=>(okD (fd x y)).bd λ z=>chR z ((h ρ).bd λ w=>okD (fd' y w)):=aN rfl
@[simp] def aHJ:aHK (.bl b)= .ok b:=aN rfl
@[simp] def aL6:blD (.bl b)= .ok b:=aN rfl
@[simp] def aE0:tst f ρ=(f ρ).bd aHK:=aN rfl
@[simp] def lJ:tsb f ρ=(f ρ).bd blD:=aN rfl
@[simp] def m7:mJ fb gb ρ=(fb ρ).bd λ k=>if k=true then gb ρ else .ok false:=aN rfl
@[simp] def yu:orT fb gb ρ=(fb ρ).bd λ k=>if k=true then .ok true else gb ρ:=aN rfl
@[simp] def aCs:lB fb ρ=(fb ρ).bd λ k=>.ok (!k):=aN rfl
@[simp] def aM:aW u v ρ=(u ρ).sq v:=aN rfl
@[simp] def mL:retS f ρ=(f ρ).bo .rt:=aN rfl
@[simp] def dropS_ap:xW f ρ=(f ρ).bo λ _=>.nx ρ:=aN rfl
@[simp] def gU:ifS fb u v ρ=(fb ρ).bo λ k=>if k=true then u ρ else v ρ:=aN rfl
@[simp] def yU:bU i f ρ=(f ρ).bo λ d=>.nx (ρ.set i (.sh d)):=aN rfl
@[simp] def yW:su i f ρ=(f ρ).bo λ d=>.nx (ρ.set i (.nw d)):=aN rfl
@[simp] def yV:jX i f ρ=(f ρ).bo λ d=>.nx (ρ.set i (.ow d)):=aN rfl
@[simp] def zQ:gnm i d ρ= .ok (ρ.set i (.sh d)):=aN rfl
@[simp] def gnil_nil:oW [] ρ= .ok ρ:=aN rfl
@[simp] def gcons_cons:bz a b (d::ds) ρ=(a d ρ).bd (b ds):=aN rfl
@[simp] def gtup_tup:nA n b (.tup ds) ρ=if ds.length=n then b ds ρ else .st:=aN rfl
def nxO(r:Rs En):Ou:=match r with
 | .ok ρ=>.nx ρ
 |_=>.st
@[simp] def itD_tup:itD (.tup l)= .ok l:=aN rfl
@[simp] def aIW:itD (.lst l)= .ok l:=aN rfl
@[simp] def aIV:lD f ρ=(f ρ).bd itD:=aN rfl
@[simp] def gj:kO ga a u ρ=(ga ρ).bo λ ds=>forL a u ds ρ:=aN rfl
noncomputable def Ou.tn(o:Ou)(k:En->Ou):Ou:=match o with
 | .nx ρ2=>k ρ2
 | .ct ρ2=>k ρ2
 | .bk ρ2=>.nx ρ2
 |o=>o
@[simp] def aE1:(Ou.nx ρ).tn k=k ρ:=aN rfl
def okE(r:Rs En)(k:En->Ou):Ou:=match r with
 | .ok ρ=>k ρ
 |_=>.st
@[simp] def uo:okE (.ok ρ) k=k ρ:=aN rfl
def gr:forL a u (d::ds) ρ=okE (a d ρ) λ ρ1=>(u ρ1).tn (forL a u ds):=by
 unfold forL;cases a d ρ with
 |ok ρ1=>simp only[uo];cases u ρ1<;>rfl
 |ex c=>rfl
 |st=>rfl
@[simp] def aA5:nQ ρ= .ok none:=aN rfl
@[simp] def aA4:nP f ρ=(f ρ).bd λ d=>match d with
 | .int i=>.ok (some i)
 |_=>.st:=aN rfl
@[simp] def aDX:qO f a b ρ=(f ρ).bd λ d=>(a ρ).bd λ l=>(b ρ).bd λ h=>okD (slD d l h):=aN rfl
@[simp] def aHR:slD (.lst l) a b= .ok (.lst (cutD l a b)):=aN rfl
@[simp] def aI5:bK f ρ=(f ρ).bd aCT:=aN rfl
@[simp] def rngA_ap:g8 r ga ρ=(ga ρ).bd r:=aN rfl
@[simp] def raiseS_ap:yo x ga ρ=(ga ρ).bo λ ds=>if ds.length<=16777216 then .ex x else .st:=by unfold yo;rw[szl]
end
section
variable{d e:D}{i j:Int}{l m:List D}
def aIe(h:imm d=true):aCT d= .ok d:=by unfold aCT;rw[if_pos h]
@[simp] def aGH:aCT (.int i)= .ok (.int i):=aN rfl
@[simp] def addD_int:cH (.int i) (.int j)= .ok (.int (i+j)):=aN rfl
@[simp] def aGl:cH (.lst l) (.lst m)=if l.length+m.length<=16777216 then .ok (.lst (l++m))else .st:=by unfold cH;rw[szl]
@[simp] def subD_int:yI (.int i) (.int j)= .ok (.int (i-j)):=aN rfl
def xG(h0:0<j)(h1:j<1073741824):vR (.int i) (.int j)= .ok (.int (i / j)):=by unfold vR i2;dsimp only;rw[if_pos (by simp[h0,h1])]
def lz(h0:0<j):qg (.int i) (.int j)= .ok (.int (i%j)):=by unfold qg i2;dsimp only;rw[if_pos (by simp[h0])]
def zB(h0: -(2^64)<i)(h1:i<2^64):gF (.int i) (.int j)= .ok (.int (i*j)):=by unfold gF;dsimp only;rw[if_pos (by simp only[zGF,zAa,decide_eq_true_eq];exact .inl ⟨h0,h1⟩)]
def aF6(h0: -(2^64)<j)(h1:j<2^64):gF (.int i) (.int j)= .ok (.int (i*j)):=by unfold gF;dsimp only;rw[if_pos (by simp only[zGF,zAa,decide_eq_true_eq];exact .inr ⟨h0,h1⟩)]
@[simp] def negD_int:aA7 (.int i)= .ok (.int (-i)):=aN rfl
@[simp] def aIN:ltD (.int i) (.int j)= .ok (.bl (decide (i<j))):=aN rfl
@[simp] def leD_int:leD (.int i) (.int j)= .ok (.bl (decide (i<=j))):=aN rfl
@[simp] def gtD_int:gtD (.int i) (.int j)= .ok (.bl (decide (j<i))):=aN rfl
@[simp] def geD_int:geD (.int i) (.int j)= .ok (.bl (decide (j<=i))):=aN rfl
def aIM(ns ms:List Int):ltD (.tup (ns.map .int)) (.tup (ms.map .int))= .ok (.bl (HT.lexLt ns ms)):=by
 unfold ltD ltT i2;simp only[b8]
@[simp] def aFb:iW [.tup l]= .ok (.int l.length):=aN rfl
@[simp] def lenD_lst:iW [.lst l]= .ok (.int l.length):=aN rfl
@[simp] def lenD_scr:iW [.scr x]= .ok (.int x.length):=aN rfl
@[simp] def oF:eU [.lst l]= .ok (.tup l):=aN rfl
@[simp] def mmD_int:mmD f [.int i,.int j]= .ok (.int (f i j)):=aN rfl
@[simp] def ixD_tup:ixD (.tup l) (.int i)=atD l i:=aN rfl
@[simp] def aIU:ixD (.lst l) (.int i)=atD l i:=aN rfl
@[simp] def ixD_scr:ixD (.scr x) (.int i)=atD (x.map .int) i:=aN rfl
def dI{k:Nat}(h:l[k]? =some d):atD l (k:Int)= .ok d:=by
 have hk:=(zAI.mp h).1;unfold atD atI ixN;rw[if_pos (by omega),if_pos (by omega)];simp[h]
def aL9(h0:0<=i)(h1:i<l.length):∃d,atD l i= .ok d/\d∈l/\l[i.toNat]? =some d:=by
 have hk:i.toNat<l.length:=by omega
 have e:=zAC hk;refine⟨_,?_,zC1 hk,e⟩
 have:=dI e
 rwa [zBq h0]at this
@[simp] def aM4{r:List D}:atD (d::r) 0= .ok d:=dI (k:=0) rfl
@[simp] def atD_1{r:List D}:atD (d::e::r) 1= .ok e:=dI (k:=1) rfl
@[simp] def eqR_int:eqR n (.int i) (.int j)= .ok (.bl (if n then !(i==j)else i==j)):=aN rfl
@[simp] def eqR_bl:eqR n (.bl a) (.bl b)= .ok (.bl (if n then !(a==b)else a==b)):=aN rfl
def knd:D->Bool
 | .set _=>false
 | .scr _=>false
 | .fn _=>false
 |_=>true
def zL(hT:T∈["bool","int","str","list","tuple","dict"])(h:knd d=true):j9 T d= .ok (.bl (aIX (tyD d) T)):=by
 have ht:tyD d∈["NoneType","bool","int","str","list","tuple","dict"]:=by cases d<;>simp_all [tyD,knd]
 unfold j9 nT;cases e:aIX (tyD d) T<;>simp[ht,hT]
def aLH:D->Bool
 | .int _=>true
 | .bl _=>true
 |_=>false
def aMT:D->Bool
 | .bl _=>true
 |_=>false
def qi:D->Bool
 | .tup _=>true
 |_=>false
def aDB(h:knd d=true):j9 "int" d= .ok (.bl (aLH d)):=by
 rw[zL (by simp) h];cases d<;>first|rfl|(simp[knd]at h)
def aAr(h:knd d=true):j9 "bool" d= .ok (.bl (aMT d)):=by
 rw[zL (by simp) h];cases d<;>first|rfl|(simp[knd]at h)
def mV(h:knd d=true):j9 "tuple" d= .ok (.bl (qi d)):=by
 rw[zL (by simp) h];cases d<;>first|rfl|(simp[knd]at h)
@[simp] def wC:j9 "tuple" (.tup l)= .ok (.bl true):=mV rfl
@[simp] def isi_tuple_non:j9 "tuple" .non= .ok (.bl false):=mV rfl
end
@[simp] def cB:fJ n u ds=match u (bB n ds)with
 | .nx _=>.ok .non
 | .rt d=>.ok d
 | .ex c=>.ex c
 |_=>.st:=aN rfl
def dZ(h0: -(2^62)<=j)(h1:j<2^62):gf [.int j]= .ok (bf 0 j):=by unfold gf;dsimp only;rw[if_pos ⟨h0,h1⟩]
def aH7(h0: -(2^62)<=i)(h1:i<2^62)(h2: -(2^62)<=j)(h3:j<2^62):aEq [.int i,.int j]= .ok (bf i j):=by unfold aEq;dsimp only;rw[if_pos ⟨⟨h0,h1⟩,h2,h3⟩]
def aAc{lo hi:Int}:d∈bf lo hi↔∃k:Int,d= .int k/\lo<=k/\k<hi:=by
 unfold bf;rw[zAl];constructor
 .rintro⟨n,hn,rfl⟩
  have:=zCG.mp hn
  exact⟨lo+n,rfl,by omega,by omega⟩
 .rintro⟨k,rfl,h1,h2⟩
  exact⟨(k-lo).toNat,zCG.mpr (by omega),by congr 1;omega⟩
end VL
namespace VL.My
open PySem L2
def fP:En->Ou:=
  (retS (qJ (op1 (j9 "int") (aC 0)) (op1 aIH (op1 (j9 "bool") (aC 0)))))
def il:List D->Rs D:=fJ 1 fP
def dC:En->Ou:=
  (aW (kO (g8 aEq (aB (cD (.int 1)) (aB (opA iW (aB (aC 0) aJ)) aJ))) (gnm 1)
   (ifS (lB (tsb (op2 ltD (op2 ixD (aC 0) (op2 yI (aC 1) (cD (.int 1)))) (op2 ixD (aC 0) (aC 1)))))
    (retS (cD (.bl false)))
    Ou.nx))
  (retS (cD (.bl true))))
def eQ:List D->Rs D:=fJ 2 dC
def iG:En->Ou:=
  (aW (llS 1 (g8 gf (aB (op2 ixD (aC 0) (cD (.int 0))) aJ)) [none] (gnm 0))
  (aW (kO (lD (op2 ixD (aC 0) (cD (.int 1)))) (nA 2 (bz (gnm 2) (bz (gnm 3) oW)))
   (eO 1 (aC 2) (bK (aC 3))))
  (retS (uF 1))))
def jm:List D->Rs D:=fJ 4 iG
def fU:En->Ou:=
  (aW (llS 1 (g8 gf (aB (op2 ixD (aC 0) (cD (.int 0))) aJ)) [none] (gnm 0))
  (aW (kO (lD (op2 ixD (aC 0) (cD (.int 1)))) (nA 2 (bz (gnm 2) (bz (gnm 3) oW)))
   (eO 1 (aC 3) (bK (aC 2))))
  (retS (uF 1))))
def fW:List D->Rs D:=fJ 4 fU
def bx:En->Ou:=
  (aW (ifS (tsb (op2 ltD (aC 1) (opA iW (aB (aC 0) aJ))))
   (retS (bK (op2 ixD (aC 0) (aC 1))))
   Ou.nx)
  (retS (cD (.int 0))))
def cY:List D->Rs D:=fJ 2 bx
def dh:En->Ou:=
  (aW (ifS (tsb (op2 geD (aC 0) (op2 aKU (cD (.int 10)) (cD (.int 18)))))
   (aW (bU 3 (aC 0))
   (aW (kO (g8 gf (aB (aC 1) aJ)) (gnm 4)
    (bU 3 (op2 vR (aC 3) (aC 2))))
   (retS (op2 qg (aC 3) (aC 2)))))
   Ou.nx)
  (aW (bU 5 (op2 qg (op2 gF (op2 cH (op2 cH (op2 qg (aC 0) (cD (.int 1000000007))) (op2 gF (cD (.int 1009)) (aC 1))) (cD (.int 17))) (cD (.int 69621))) (cD (.int 2147483647))))
  (aW (bU 5 (op2 qg (op2 cH (op2 cH (op2 gF (aC 5) (aC 5)) (op2 gF (cD (.int 40503)) (aC 1))) (cD (.int 5))) (cD (.int 2147483629))))
  (retS (op2 qg (op2 vR (op2 qg (op2 gF (aC 5) (cD (.int 48271))) (cD (.int 2147483647))) (cD (.int 32))) (aC 2))))))
def aU:List D->Rs D:=fJ 6 dh
def eF:En->Ou:=
  (retS (qJ (op1 (j9 "int") (aC 0)) (op1 aIH (op1 (j9 "bool") (aC 0)))))
def jF:List D->Rs D:=fJ 1 eF
def duI:En->Rs D:=lcD (lD (op2 ixD (aC 1) (cD (.int 1)))) [none,none,some 0,some 2] (nA 2 (bz (gnm 0) (bz (gnm 1) oW))) (mJ (tsb (op2 (eqR false) (aC 1) (aC 2))) (tsb (op2 (inR false) (aC 0) (aC 3)))) (bK (aC 0))
def duX:En->Rs D:=lcD (lD (aC 1)) [none,some 0,some 1] (gnm 0) (tsb (op2 (eqR false) duI (gR aJ))) (bK (aC 0))
def duB:En->Ou:=aW (su 3 duX) (aW (ifS (tsb (op2 (eqR false) (dM 3) (gR aJ))) (retS (cD .non)) Ou.nx) (aW (kY 2 (op2 ixD (dM 3) (cD (.int 0)))) (aAQ 1 (op2 ixD (dM 3) (cD (.int 0))))))
def duT:En->Rs Bool:=tsb (op2 (eqR true) (cM 1) (gR aJ))
def iB:En->Ou:=aW (jX 1 (lrD (op2 ixD (aC 0) (cD (.int 0))))) (aW (jX 2 (gR aJ)) (aW (lF duT duB) (retS (opA eU (aB (uF 2) aJ)))))
def m8:List D->Rs D:=fJ 4 iB
def iD:En->Ou:=
  (retS (qJ (aR il (aB (aC 0) aJ)) (chD leD leD (cD (.int 0)) (aC 0) (cD (.int 60)))))
def m9:List D->Rs D:=fJ 1 iD
def fQ:En->Ou:=
  (retS (qJ (aR il (aB (aC 1) aJ)) (chD leD ltD (cD (.int 0)) (aC 1) (aC 0))))
def dj:List D->Rs D:=fJ 2 fQ
def odI:En->Ou:=aW (aGc (λ i j=>i-j) 2 (aC 6) (cD (.int 1))) (ifS (tsb (op2 (eqR false) (op2 ixD (cM 2) (aC 6)) (cD (.int 0)))) (kY 3 (bK (aC 6))) Ou.nx)
def odB:En->Ou:=aW (bU 5 (opA (j7 zCm) (aB (cM 3) aJ))) (aW (aAQ 3 (bK (aC 5))) (aW (kY 4 (bK (aC 5))) (kO (lD (op2 ixD (aC 1) (aC 5))) (gnm 6) odI)))
def aKt:En->Rs D:=lcD (lD (aR fW (aB (aC 0) aJ))) [none] (gnm 0) aBU (opA iW (aB (aC 0) aJ))
def aKs:En->Rs D:=lcD (g8 gf (aB (op2 ixD (aC 0) (cD (.int 0))) aJ)) [none,some 2] (gnm 0) (tsb (op2 (eqR false) (op2 ixD (aC 1) (aC 0)) (cD (.int 0)))) (bK (aC 0))
def gw:En->Ou:=aW (bU 1 (aR jm (aB (aC 0) aJ))) (aW (jX 2 aKt) (aW (jX 3 aKs) (aW (jX 4 (gR aJ)) (aW (lF (tst (cM 3)) odB) (retS (uF 4))))))
def dJ:List D->Rs D:=fJ 7 gw
def fO:En->Ou:=
  (aW (jX 2 (gR aJ))
  (aW (kO (g8 gf (aB (aC 1) aJ)) (gnm 3)
   (aFn 2 (aR aU (aB (aC 0) (aB (op2 cH (cD (.int 100)) (aC 3)) (aB (op2 cH (aC 3) (cD (.int 1))) aJ)))) (bK (aC 3))))
  (retS (uF 2))))
def di:List D->Rs D:=fJ 4 fO
def lrX:En->Rs D:=lcD (lD (aC 1)) [none,some 0] (gnm 0) aBU (qJ (aR jF (aB (aC 0) aJ)) (chD leD ltD (cD (.int 0)) (aC 0) (op2 ixD (aC 1) (cD (.int 0)))))
def lrY:En->Rs D:=lcD (g8 gf (aB (op2 yI (opA iW (aB (aC 1) aJ)) (cD (.int 1))) aJ)) [none,some 1,some 0] (gnm 0) aBU (op2 (inR false) (iI (aB (op2 ixD (aC 1) (aC 0)) (aB (op2 ixD (aC 1) (op2 cH (aC 0) (cD (.int 1)))) aJ))) (op2 ixD (aC 2) (cD (.int 1))))
def eN:En->Ou:=aW (ifS (orT (lB (tst (op1 (j9 "tuple") (aC 1)))) (tsb (op2 (eqR false) (opA iW (aB (aC 1) aJ)) (cD (.int 0))))) (retS (cD (.bl false))) Ou.nx)
  (aW (ifS (orT (lB (tst (opA (v9 λ bs=>bs.all id) (aB lrX aJ)))) (tsb (op2 ltD (opA aAg (aB (opA aB6 (aB (aC 1) aJ)) aJ)) (opA iW (aB (aC 1) aJ))))) (retS (cD (.bl false))) Ou.nx) (retS (opA (v9 λ bs=>bs.all id) (aB lrY aJ))))
def gK:List D->Rs D:=fJ 2 eN
def ipE:En->Ou:=ifS (orT (lB (tst (op1 (j9 "tuple") (aC 1)))) (tsb (op2 (eqR true) (opA iW (aB (aC 1) aJ)) (cD (.int 2))))) (retS (cD (.bl false))) Ou.nx
def iC:En->Ou:=aW ipE (retS (qJ (aR dj (aB (aC 0) (aB (op2 ixD (aC 1) (cD (.int 0))) aJ))) (qJ (aR dj (aB (aC 0) (aB (op2 ixD (aC 1) (cD (.int 1))) aJ))) (op2 (eqR true) (op2 ixD (aC 1) (cD (.int 0))) (op2 ixD (aC 1) (cD (.int 1)))))))
def jk:List D->Rs D:=fJ 2 iC
def aHw:En->Ou:=ifS (orT (tsb (op2 ltD (aC 10) (dM 4))) (mJ (tsb (op2 (eqR false) (aC 3) (cD (.int 6)))) (tsb (op2 (eqR false) (aC 8) (op2 cH (aC 9) (cD (.int 1)))))))
     (kY 6 (iI (aB (bK (op2 ixD (aC 5) (aC 9))) (aB (bK (op2 ixD (aC 5) (aC 8))) aJ))))
     Ou.nx
def aHv:En->Ou:=ifS (orT (mJ (tsb (op2 gtD (aC 3) (cD (.int 2)))) (mJ (tsb (op2 (eqR true) (aC 3) (cD (.int 7)))) (tsb (op2 ltD (aR aU (aB (aC 0) (aB (op2 cH (aC 7) (cD (.int 50))) (aB (cD (.int 8)) aJ)))) (op2 yI (dM 4) (cD (.int 1))))))) (mJ (tsb (op2 (eqR false) (aC 3) (cD (.int 7)))) (tsb (op2 ltD (aC 10) (cD (.int 3))))))
     (kY 6 (iI (aB (bK (op2 ixD (aC 5) (aC 8))) (aB (bK (op2 ixD (aC 5) (aC 9))) aJ))))
     Ou.nx
def aFV:En->Ou:=aW (bU 7 (op2 cH (aC 7) (cD (.int 1)))) (aW (bU 10 (aR aU (aB (aC 0) (aB (aC 7) (aB (cD (.int 8)) aJ))))) (aW aHw aHv))
def aCm:En->Ou:=kO (g8 gf (aB (aC 8) aJ)) (gnm 9) aFV
def aCn:En->Ou:=ifS (mJ (tsb (op2 (eqR false) (aC 3) (cD (.int 6)))) (tsb (op2 gtD (aC 2) (cD (.int 1)))))
   (kY 6 (iI (aB (bK (op2 ixD (aC 5) (op2 yI (aC 2) (cD (.int 1))))) (aB (bK (op2 ixD (aC 5) (cD (.int 0)))) aJ))))
   Ou.nx
def cW:En->Ou:=aW (bU 2 (aR aU (aB (aC 0) (aB (cD (.int 0)) (aB (op2 cH (aC 1) (cD (.int 1))) aJ)))))
  (aW (bU 3 (aR aU (aB (aC 0) (aB (cD (.int 1)) (aB (cD (.int 8)) aJ)))))
  (aW (su 4 (op2 ixD (gR (aB (cD (.int 1)) (aB (cD (.int 2)) (aB (cD (.int 4)) (aB (cD (.int 2)) (aB (cD (.int 3)) (aB (cD (.int 6)) (aB (cD (.int 1)) (aB (cD (.int 3)) aJ))))))))) (aC 3)))
  (aW (bU 5 (aR di (aB (aC 0) (aB (aC 2) aJ))))
  (aW (jX 6 (gR aJ))
  (aW (bU 7 (cD (.int 2)))
  (aW (kO (g8 gf (aB (aC 2) aJ)) (gnm 8) aCm)
  (aW aCn
  (retS (iI (aB (bK (aC 2)) (aB (opA eU (aB (opA dq (aB (cM 6) aJ)) aJ)) aJ)))))))))))
def dX:List D->Rs D:=fJ 11 cW
def orB:En->Ou:=ifS (orT (tsb (op2 ltD (aR aU (aB (aC 0) (aB (aC 7) (aB (cD (.int 8)) aJ)))) (dM 4))) (mJ (tsb (op2 (eqR false) (aC 3) (cD (.int 5)))) (tsb (op2 (inR false) (aC 8) (iI (aB (op2 cH (op2 gF (cD (.int 2)) (aC 9)) (cD (.int 1))) (aB (op2 cH (op2 gF (cD (.int 2)) (aC 9)) (cD (.int 2))) aJ)))))))
     (kY 6 (iI (aB (bK (op2 ixD (aC 5) (aC 9))) (aB (bK (op2 ixD (aC 5) (aC 8))) aJ))))
     Ou.nx
def aFZ:En->Ou:=aW (bU 7 (op2 cH (aC 7) (cD (.int 1)))) orB
def aCp:En->Ou:=kO (g8 gf (aB (aC 8) aJ)) (gnm 9) aFZ
def cV:En->Ou:=aW (bU 2 (aR aU (aB (aC 0) (aB (cD (.int 0)) (aB (op2 cH (aC 1) (cD (.int 1))) aJ)))))
  (aW (bU 3 (aR aU (aB (aC 0) (aB (cD (.int 1)) (aB (cD (.int 6)) aJ)))))
  (aW (su 4 (op2 ixD (gR (aB (cD (.int 1)) (aB (cD (.int 2)) (aB (cD (.int 3)) (aB (cD (.int 5)) (aB (cD (.int 8)) (aB (cD (.int 0)) aJ))))))) (aC 3)))
  (aW (bU 5 (aR di (aB (aC 0) (aB (aC 2) aJ))))
  (aW (jX 6 (gR aJ))
  (aW (bU 7 (cD (.int 2)))
  (aW (kO (g8 gf (aB (aC 2) aJ)) (gnm 8) aCp)
  (retS (iI (aB (bK (aC 2)) (aB (opA eU (aB (opA nM (aB (cM 6) aJ)) aJ)) aJ))))))))))
def dW:List D->Rs D:=fJ 10 cV
def eG:En->Ou:=
  (retS (qJ (aR gK (aB (aC 0) (aB (aC 1) aJ))) (qJ (op2 gtD (opA iW (aB (aC 1) aJ)) (cD (.int 1))) (qJ (op2 (eqR false) (opA (j6 zCm) (aB (aC 1) aJ)) (op2 ixD (aC 1) (cD (.int 0)))) (op2 (inR false) (iI (aB (op2 ixD (aC 1) (op1 aA7 (cD (.int 1)))) (aB (op2 ixD (aC 1) (cD (.int 0))) aJ))) (op2 ixD (aC 0) (cD (.int 1))))))))
def jG:List D->Rs D:=fJ 2 eG
def aq:En->Ou:=
  (aW (ifS (lB (tst (op1 (j9 "tuple") (aC 1))))
   (retS (cD (.bl false)))
   Ou.nx)
  (aW (kO (lD (aC 1)) (gnm 2)
   (ifS (lB (tst (aR jk (aB (aC 0) (aB (aC 2) aJ)))))
    (retS (cD (.bl false)))
    Ou.nx))
  (retS (aR eQ (aB (aC 1) aJ)))))
def bJ:List D->Rs D:=fJ 3 aq
def dH:En->Ou:=
  (aW (ifS (orT (lB (tst (op1 (j9 "tuple") (aC 0)))) (tsb (op2 (eqR true) (opA iW (aB (aC 0) aJ)) (cD (.int 2)))))
   (retS (cD (.bl false)))
   Ou.nx)
  (retS (qJ (aR m9 (aB (op2 ixD (aC 0) (cD (.int 0))) aJ)) (aR bJ (aB (op2 ixD (aC 0) (cD (.int 0))) (aB (op2 ixD (aC 0) (cD (.int 1))) aJ))))))
def gm:List D->Rs D:=fJ 1 dH
def bh:En->Ou:=
  (ifS (lB (tst (aR gm (aB (aC 0) aJ))))
   (yo "NoOneWay" (aB (cD (.str "this is no one-way web")) aJ))
   Ou.nx)
def bQ:List D->Rs D:=fJ 1 bh
def cU:En->Ou:=
  (aW (xW (aR bQ (aB (aC 0) aJ)))
  (aW (bU 1 (aR dJ (aB (aC 0) aJ)))
  (retS (ifD (tsb (op2 (eqR false) (opA iW (aB (aC 1) aJ)) (op2 ixD (aC 0) (cD (.int 0))))) (bK (opA eU (aB (aC 1) aJ))) (cD .non)))))
def cX:List D->Rs D:=fJ 2 cU
def srC:En->Rs D:=dcI (g8 gf (aB (op2 ixD (aC 0) (cD (.int 0))) aJ)) [none,some 2,some 1] (gnm 0) (tsb (op2 (inR true) (aC 0) (aC 2))) (bK (aC 0)) (lcD (lD (op2 ixD (aC 1) (aC 0))) [none,some 2] (gnm 0) (tsb (op2 (inR true) (aC 0) (aC 1))) (bK (aC 0)))
def srF:En->Rs D:=op2 ixD (op2 aCV (aC 3) (op2 ixD (cM 4) (op1 aA7 (cD (.int 1))))) (cD (.int 0))
def srW:En->Ou:=kY 4 (bK srF)
def srT:En->Rs Bool:=tsb (op2 (inR true) srF (cM 4))
def dw:En->Ou:=aW (xW (aR bQ (aB (aC 0) aJ))) (aW (bU 1 (aR dJ (aB (aC 0) aJ))) (aW (bU 2 (aR fW (aB (aC 0) aJ))) (aW (bU 3 srC) (aW (ifS (lB (tsd (aC 3))) (retS (cD .non)) Ou.nx)
  (aW (jX 4 (gR (aB (opA rO (aB (aC 3) aJ)) aJ))) (aW (lF srT srW) (aW (su 5 (op1 wU (qN (cM 4) (nP (opL qm (cM 4) srF)) nQ))) (aW (bU 6 (opL qm (dM 5) (opA (j6 zCm) (aB (dM 5) aJ))))
  (retS (opA eU (aB (op2 cH (qO (dM 5) (nP (aC 6)) nQ) (qO (dM 5) nQ (nP (aC 6)))) aJ)))))))))))
def cL:List D->Rs D:=fJ 7 dw
def lwR:En->Rs (List D):=(g8 gf (aB (opA (mmD λ i j=>if j>i then j else i) (aB (cD (.int 1)) (aB (opA (mmD λ i j=>if j<i then j else i) (aB (opA iW (aB (aC 0) aJ)) (aB (cD (.int 12)) aJ))) aJ))) aJ))
def lTh:En->Rs (List D):=(lD (gR (aB (aR dX (aB (aC 2) (aB (cD (.int 9)) aJ))) (aB (aR dW (aB (aC 2) (aB (cD (.int 9)) aJ))) aJ))))
def lI1:En->Ou:=(ifS (orT (tsb (op2 (eqR true) (aC 5) (aC 4))) (mJ (tsb (op2 (isD true) (aC 4) (cD .non))) (lB (tst (op1 (j9 "tuple") (aC 5)))))) (retS (cD (.bl false))) Ou.nx)
def lI2:En->Ou:=(ifS (orT (tsb (op2 (eqR true) (op2 (isD false) (aC 6) (cD .non)) (op2 (isD true) (aC 4) (cD .non)))) (mJ (tsb (op2 (isD true) (aC 6) (cD .non))) (lB (tst (aR jG (aB (aC 3) (aB (aC 6) aJ))))))) (retS (cD (.bl false))) Ou.nx)
def lT:En->Ou:=aW (bU 4 (aR m8 (aB (aC 3) aJ))) (aW (bU 5 (aR cX (aB (aC 3) aJ))) (aW (bU 6 (aR cL (aB (aC 3) aJ))) (aW lI1 lI2)))
def lwK:En->Ou:=aW (bU 2 (aR cY (aB (aC 0) (aB (aC 1) aJ)))) (kO lTh (gnm 3) lT)
def lwZ:En->Rs D:=(qJ (op2 (eqR false) (aR cX (aB (iI (aB (cD (.int 0)) (aB (iI aJ) aJ))) aJ)) (iI aJ)) (op2 (isD false) (aR cL (aB (iI (aB (cD (.int 0)) (aB (iI aJ) aJ))) aJ)) (cD .non)))
def v6:En->Ou:=aW (kO lwR (gnm 1) lwK) (retS lwZ)
def aGp:List D->Rs D:=fJ 7 v6
theorem xX(hb:0<b)(hb2:b<1073741824):∀(ds:List D) (x:Int) (s:Slot),(∀d∈ds,∃n:Int,d= .int n)->
  ∃y s',forL (gnm 4) (bU 3 (op2 vR (aC 3) (aC 2))) ds [.sh (.int c),.sh (.int k),.sh (.int b),.sh (.int x),s,.no]= .nx [.sh (.int c),.sh (.int k),.sh (.int b),.sh (.int y),s',.no]
 |[],x,s,_=>⟨x,s,rfl⟩
 |d::ds,x,s,h=>by
  have ih:=xX hb hb2 (c:=c) (k:=k) ds (x / b) (.sh d) λ e he=>h e (zAO _ he)
  rw[gr];simp[xG hb hb2];exact ih
def pq(hk0:0<=k)(hk1:k<2^40)(hb:0<b)(hb2:b<1073741824):∃r:Int,aU [.int c,.int k,.int b]= .ok (.int r)/\0<=r/\r<b:=by
 have hp:aKU (.int 10) (.int 18)= .ok (.int 1000000000000000000):=rfl;by_cases hc:(1000000000000000000:Int)<=c
 .have hr:=dZ (j:=k) (by lia) (by lia)
  obtain⟨y,s',e⟩:=xX hb hb2 (c:=c) (k:=k) (bf 0 k) c .no λ d hd=>let⟨n,e,_⟩:=aAc.mp hd;⟨n,e⟩
  refine⟨y%b,?_,zEG _ (by lia),zDZ _ hb⟩;simp[aU,dh,bB,hp,hc,hr,e,lz hb]
 .have s1:∀z:Int,0<=z%2147483647/\z%2147483647<2147483647:=λ z=>⟨zEG _ (by decide),zDZ _ (by decide)⟩
  have s2:∀z:Int,0<=z%2147483629/\z%2147483629<2147483629:=λ z=>⟨zEG _ (by decide),zDZ _ (by decide)⟩
  have m1:∀z,gF (.int 1009) (.int z)= .ok (.int (1009*z)):=λ z=>zB (by decide) (by decide)
  have m2:∀z,gF (.int z) (.int 69621)= .ok (.int (z*69621)):=λ z=>aF6 (by decide) (by decide)
  have m3:∀z,gF (.int 40503) (.int z)= .ok (.int (40503*z)):=λ z=>zB (by decide) (by decide)
  have m4:∀z,gF (.int z) (.int 48271)= .ok (.int (z*48271)):=λ z=>aF6 (by decide) (by decide)
  have m5:∀z:Int,gF (.int (z%2147483647)) (.int (z%2147483647))= .ok (.int (z%2147483647*(z%2147483647))):=λ z=>zB (by have:=s1 z;lia) (by have:=s1 z;lia)
  have d1:∀z,qg (.int z) (.int 1000000007)= .ok (.int (z%1000000007)):=λ z=>lz (by decide)
  have d2:∀z,qg (.int z) (.int 2147483647)= .ok (.int (z%2147483647)):=λ z=>lz (by decide)
  have d3:∀z,qg (.int z) (.int 2147483629)= .ok (.int (z%2147483629)):=λ z=>lz (by decide)
  have d4:∀z,vR (.int z) (.int 32)= .ok (.int (z / 32)):=λ z=>xG (by decide) (by decide)
  have d5:∀z,qg (.int z) (.int b)= .ok (.int (z%b)):=λ z=>lz hb
  simp[aU,dh,bB,hp,hc,m1,m2,m3,m4,m5,d1,d2,d3,d4,d5,-Int.emod_emod_of_dvd];exact⟨zEG _ (by lia),zDZ _ hb⟩
def tX(hk0:0<=k)(hk1:k<2^40)(hb:0<b)(hb2:b<1073741824):∃r:Nat,aU [.int c,.int k,.int b]= .ok (.int r)/\(r:Int)<b:=by
 obtain⟨r,e,h0,h1⟩:=pq (c:=c) hk0 hk1 hb hb2;exact⟨r.toNat,by rw[zBq h0];exact e,by lia⟩
def aIs(h:0<=k):∃c:Int,cY [.scr ns,.int k]= .ok (.int c):=by
 by_cases hk:k<ns.length
 .obtain⟨d,e,hm,_⟩:=aL9 (l:=ns.map .int) (i:=k) h (by simpa using hk)
  obtain⟨c,_,rfl⟩:=zAl.mp hm;exact⟨c,by simp[cY,bx,bB,hk,e]⟩
 .exact⟨0,by simp[cY,bx,bB,hk]⟩
mutual
def pln:D->Bool
 | .tup l=>yq l
 | .lst l=>yq l
 | .set _=>false
 | .scr _=>false
 | .fn _=>false
 |_=>true
def yq:List D->Bool
 |[]=>true
 |d::r=>pln d&&yq r
end
def tQ(h:pln d=true):knd d=true:=by cases d<;>first|rfl|(simp[pln]at h)
theorem aAZ:∀{l:List D} {d:D},yq l=true->d∈l->pln d=true
 |x::r,d,h,hm=>by
  simp only[yq,zAa]at h;rcases zAM.mp hm with rfl|hm
  .exact h.1
  .exact aAZ h.2 hm
def uE:D->Bool
 | .int _=>true
 |_=>false
def aCu:D->Bool
 | .int i=>decide (0<=i)&&decide (i<=60)
 |_=>false
def fL(m:Int):D->Bool
 | .int i=>decide (0<=i)&&decide (i<m)
 |_=>false
def rR(h:knd d=true):il [d]= .ok (.bl (uE d)):=by
 simp[il,fP,bB,aDB h,aAr h];cases d<;>rfl
def aCM(h:knd d=true):m9 [d]= .ok (.bl (aCu d)):=by
 simp[m9,iD,bB,rR h];cases d<;>simp[uE,aCu]
 rename_i i;by_cases h0:0<=i<;>simp[h0]
def rT(h:knd d=true):dj [.int m,d]= .ok (.bl (fL m d)):=by
 simp[dj,fQ,bB,rR h];cases d<;>simp[uE,fL]
 rename_i i;by_cases h0:0<=i<;>simp[h0]
def iT(m:Int):D->Bool
 | .tup [.int a,.int b]=>decide (0<=a)&&decide (a<m)&&decide (0<=b)&&decide (b<m)&& !(a==b)
 |_=>false
def wW(h:fL m d=true):∃i:Int,d= .int i/\0<=i/\i<m:=by
 cases d with
 |int i=>simp[fL]at h;exact⟨i,rfl,h.1,h.2⟩
 |_=>simp[fL]at h
def aEZ(h:qi d=true):∃l,d= .tup l:=by cases d<;>first|exact⟨_,rfl⟩|(cases h)
def aJq(h:l.length=2):∃x y,l=[x,y]:=by
 match l,h with
 |[x,y],_=>exact⟨x,y,rfl⟩
def aFT(h:qi d=false):iT m d=false:=by cases d<;>first|rfl|(cases h)
def aDd(h:l.length≠2):iT m (.tup l)=false:=by
 match l,h with
 |[],_=>rfl
 |[x],_=>cases x<;>rfl
 |[x,y],h=>exact absurd rfl h
 |x::y::z::r,_=>cases x<;>first|rfl|(cases y<;>rfl)
def aHu(h:fL m x=false):iT m (.tup [x,y])=false:=by
 cases x with
 |int i=>
  cases y with
  |int j=>
   show((((decide (0<=i)&&decide (i<m))&&decide (0<=j))&&decide (j<m))&& !(i==j))=false
   rw[show(decide (0<=i)&&decide (i<m))=false from h];rfl
  |_=>rfl
 |_=>rfl
def aHt(h:fL m y=false):iT m (.tup [.int i,y])=false:=by
 cases y with
 |int j=>
  show((((decide (0<=i)&&decide (i<m))&&decide (0<=j))&&decide (j<m))&& !(i==j))=false
  rw[zG0 (decide (0<=i)&&decide (i<m)),show(decide (0<=j)&&decide (j<m))=false from h,zG1];rfl
 |_=>rfl
def aFS(h1:fL m (.int i)=true)(h2:fL m (.int j)=true):iT m (.tup [.int i,.int j])= !(i==j):=by
 show((((decide (0<=i)&&decide (i<m))&&decide (0<=j))&&decide (j<m))&& !(i==j))= !(i==j)
 rw[zG0 (decide (0<=i)&&decide (i<m)),show(decide (0<=j)&&decide (j<m))=true from h2,show(decide (0<=i)&&decide (i<m))=true from h1];rfl
def aLJ(hk:knd d=true)(h:qi d=false):ipE [s,.sh d]= .rt (.bl false):=by simp[ipE,mV hk,h]
def aIZ(h:l.length≠2):ipE [s,.sh (.tup l)]= .rt (.bl false):=by
 have:¬((l.length:Int)=2):=by omega
 simp[ipE,this]
def aIY:ipE [s,.sh (.tup [x,y])]= .nx [s,.sh (.tup [x,y])]:=by simp[ipE]
def aCL(h:pln d=true):jk [.int m,d]= .ok (.bl (iT m d)):=by
 have st:bB 2 [.int m,d]=[.sh (.int m),.sh d]:=rfl;simp only[jk,iC,cB,st];cases ht:qi d with
 |false=>rw[aM,aLJ (tQ h) ht,aFT ht];rfl
 |true=>
  obtain⟨l,rfl⟩:=aEZ ht;by_cases hl:l.length=2
  .obtain⟨x,y,rfl⟩:=aJq hl
   simp only[pln,yq,zAa]at h;have hx:=rT (m:=m) (tQ h.1);have hy:=rT (m:=m) (tQ h.2.1);have ex:aR dj (aB (aC 0) (aB (op2 ixD (aC 1) (cD (.int 0))) aJ)) [.sh (.int m),.sh (.tup [x,y])]= .ok (.bl (fL m x)):=by simp[hx]
   have ey:aR dj (aB (aC 0) (aB (op2 ixD (aC 1) (cD (.int 1))) aJ)) [.sh (.int m),.sh (.tup [x,y])]= .ok (.bl (fL m y)):=by simp[hy]
   rw[aM,aIY,aV,mL,aDR,ex,aO,aDQ,aDR,ey,aO,aDQ];cases c1:fL m x with
   |false=>rw[aHu c1];rfl
   |true=>
    obtain⟨i,rfl,_,_⟩:=wW c1;cases c2:fL m y with
    |false=>rw[aHt c2];rfl
    |true=>
     obtain⟨j,rfl,_,_⟩:=wW c2;rw[aFS c1 c2];rfl
  .rw[aM,aIZ hl,aDd hl];rfl
def pD(p:Int×Int):D:=.tup [.int p.1,.int p.2]
def ltP(p q:Int×Int):Bool:=HT.lexLt [p.1,p.2] [q.1,q.2]
def uZ:gV->Bool
 |[]=>true
 |[_]=>true
 |p::q::r=>ltP p q&&uZ (q::r)
def aKy(p q:Int×Int):ltD (pD p) (pD q)= .ok (.bl (ltP p q)):=aIM [p.1,p.2] [q.1,q.2]
theorem qt:∀(ds:List D) (ok:Nat->Bool) (I:En->Prop) (ρ:En),I ρ->(∀(i:Nat) d ρ,ds[i]? =some d->I ρ->okE (a d ρ) u= .rt r/\ok i=false\/∃ρ',okE (a d ρ) u= .nx ρ'/\I ρ'/\ok i=true)->
  (forL a u ds ρ= .rt r/\∃i,i<ds.length/\ok i=false)\/(∃ρ',forL a u ds ρ= .nx ρ'/\I ρ'/\∀i,i<ds.length->ok i=true)
 |[],ok,I,ρ,h,_=>.inr ⟨ρ,rfl,h,λ i hi=>absurd hi (zEy _)⟩
 |d::ds,ok,I,ρ,h,hs=>by
  rw[gr];rcases hs 0 d ρ rfl h with ⟨e,o⟩|⟨ρ',e,h',o⟩
  .left
   refine⟨?_,0,by simp,o⟩;cases ea:a d ρ with
   |ok ρ1=>rw[ea]at e;simp at e ⊢;rw[e];rfl
   |ex c=>rw[ea]at e;cases e
   |st=>rw[ea]at e;cases e
  .have ih:=qt ds (λ i=>ok (i+1)) I ρ' h' λ i d2 ρ2 e2 h2=>hs (i+1) d2 ρ2 (by simpa using e2) h2
   have e3:okE (a d ρ) (λ ρ1=>(u ρ1).tn (forL a u ds))=forL a u ds ρ':=by
    cases ea:a d ρ with
    |ok ρ1=>rw[ea]at e;simp at e ⊢;rw[e];rfl
    |ex c=>rw[ea]at e;cases e
    |st=>rw[ea]at e;cases e
   rw[e3];rcases ih with ⟨e4,i,hi,o4⟩|⟨ρ4,e4,h4,o4⟩
   .exact .inl ⟨e4,i+1,by simpa using hi,o4⟩
   .refine .inr ⟨ρ4,e4,h4,λ i hi=>?_⟩
    cases i with
    |zero=>exact o
    |succ i=>exact o4 i (by simpa using hi)
def iR{i:Nat}(h:(bf lo hi)[i]? =some d):d= .int (lo+i)/\lo+i<hi:=by
 unfold bf at h;rw[zAQ]at h;by_cases hi2:i<(hi-lo).toNat
 .rw[zFO hi2]at h
  cases h;exact⟨rfl,by omega⟩
 .rw[zEp (by simpa using hi2)]at h
  cases h
def fB:(bf lo hi).length=(hi-lo).toNat:=by unfold bf;simp
section
variable{α:Type}{f:α->D}{lt:α->α->Bool}
def uY(lt:α->α->Bool):List α->Bool
 |[]=>true
 |[_]=>true
 |p::q::r=>lt p q&&uY lt (q::r)
theorem pJ:∀{ps:List α},uY lt ps=true↔∀(i:Nat) (p q:α),ps[i]? =some p->ps[i+1]? =some q->lt p q=true
 |[]=>by simp[uY]
 |[x]=>by
  simp only[uY,true_iff];intro i p q _ h2;simp at h2
 |x::y::r=>by
  have ih:=pJ (ps:=y::r);unfold uY;rw[zAa,ih];constructor
  .rintro⟨h1,h2⟩ i p q e1 e2
   cases i with
   |zero=>simp at e1 e2;subst e1 e2;exact h1
   |succ i=>exact h2 i p q (by simpa using e1) (by simpa using e2)
  .intro h
   exact⟨h 0 x y rfl rfl,λ i p q e1 e2=>h (i+1) p q (by simpa using e1) (by simpa using e2)⟩
def aAs(hlt:∀a b,ltD (f a) (f b)= .ok (.bl (lt a b)))(hl:ps.length<=100000):eQ [.tup (ps.map f)]= .ok (.bl (uY lt ps)):=by
 have hr:=aH7 (i:=1) (j:=(ps.length:Int)) (by decide) (by decide) (by omega) (by omega);have oQ:(bf 1 (ps.length:Int)).length=ps.length-1:=by rw[fB];omega
 have L:=qt (a:=gnm 1) (u:=ifS (lB (tsb (op2 ltD (op2 ixD (aC 0) (op2 yI (aC 1) (cD (.int 1)))) (op2 ixD (aC 0) (aC 1))))) (retS (cD (.bl false))) Ou.nx) (r:=.bl false)
  (bf 1 (ps.length:Int)) (λ i=>match ps[i]?,ps[i+1]? with|some p,some q=>lt p q|_,_=>true) (λ ρ=>∃s,ρ=[.sh (.tup (ps.map f)),s]) [.sh (.tup (ps.map f)),.no] ⟨_,rfl⟩ (by
   rintro i d ρ hd ⟨s,rfl⟩;obtain⟨rfl,h2⟩:=iR hd;have e1:ps[i]? =some ps[i]:=zAC (by omega);have e2:ps[i+1]? =some ps[i+1]:=zAC (by omega);have a1:atD (ps.map f) (1+(i:Int)-1)= .ok (f ps[i]):=by
    rw[show(1+(i:Int)-1)=(i:Int)by omega];exact dI (by rw[zAQ,e1];rfl)
   have a2:atD (ps.map f) (1+(i:Int))= .ok (f ps[i+1]):=by
    rw[show(1+(i:Int))=((i+1:Nat):Int)by omega];exact dI (by rw[zAQ,e2];rfl)
   simp only[e1,e2];cases c:lt ps[i] ps[i+1]with
   |true=>right;exact⟨_,by simp[a1,a2,hlt,c];rfl,⟨_,rfl⟩,rfl⟩
   |false=>left;exact⟨by simp[a1,a2,hlt,c],rfl⟩)
 have st:bB 2 [.tup (ps.map f)]=[.sh (.tup (ps.map f)),.no]:=rfl;rcases L with ⟨e,i,hi,o⟩|⟨ρ',e,⟨s,rfl⟩,o⟩
 .have:uY lt ps=false:=by
   cases c:uY lt ps with
   |false=>rfl
   |true=>
    rw[oQ]at hi;have z:=pJ.mp c i ps[i] ps[i+1] (zAC (by omega)) (zAC (by omega));rw[zAC (by omega),zAC (by omega)]at o;simp only at o;rw[z]at o;cases o
  rw[this];simp only[eQ,dC,cB,st];simp[hr,e]
 .have:uY lt ps=true:=pJ.mpr λ i p q e1 e2=>by
   have h2:=(zAI.mp e2).1
   have:=o i (by rw[oQ];omega)
   rw[e1,e2]at this;exact this
  rw[this];simp only[eQ,dC,cB,st];simp[hr,e]
end
theorem aBg:∀ps:gV,uZ ps=uY ltP ps
 |[]=>rfl
 |[_]=>rfl
 |p::q::r=>by unfold uZ uY;rw[aBg (q::r)]
def zM(hl:ps.length<=100000):eQ [.tup (ps.map pD)]= .ok (.bl (uZ ps)):=by
 rw[aBg];exact aAs aKy hl
def yh:uZ ps=true↔∀(i:Nat) (p q:Int×Int),ps[i]? =some p->ps[i+1]? =some q->ltP p q=true:=by rw[aBg];exact pJ
def aHh:D->Int×Int
 | .tup [.int a,.int b]=>(a,b)
 |_=>(0,0)
def aBp(h:iT m d=true):∃a b:Int,d= .tup [.int a,.int b]/\0<=a/\a<m/\0<=b/\b<m/\a≠b:=by
 unfold iT at h;split at h
 .rename_i a b
  simp at h;exact⟨a,b,rfl,h.1.1.1.1,h.1.1.1.2,h.1.1.2,h.1.2,h.2⟩
 .cases h
theorem aJ3:∀{ts:List D},ts.all (iT m)=true->(ts.map aHh).map pD=ts
 |[],_=>rfl
 |t::ts,h=>by
  rw[zJA,zAa]at h;obtain⟨a,b,rfl,_⟩:=aBp h.1;simp only[zAG];rw[aJ3 h.2];rfl
def rpB(m:Int):D->Bool
 | .tup ts=>ts.all (iT m)&&uZ (ts.map aHh)
 |_=>false
def aKB:D->Bool
 | .tup l=>decide (l.length<=100000)
 |_=>true
def nF(h:pln d=true)(hs:aKB d=true):bJ [.int m,d]= .ok (.bl (rpB m d)):=by
 cases d with
 |tup ts=>
  have hp:yq ts=true:=by simpa[pln]using h
  have hl:ts.length<=100000:=by simpa[aKB]using hs
  have L:=qt (a:=gnm 2) (u:=ifS (lB (tst (aR jk (aB (aC 0) (aB (aC 2) aJ))))) (retS (cD (.bl false))) Ou.nx) (r:=.bl false)
   ts (λ i=>match ts[i]? with|some t=>iT m t|none=>true) (λ ρ=>∃s,ρ=[.sh (.int m),.sh (.tup ts),s]) [.sh (.int m),.sh (.tup ts),.no] ⟨_,rfl⟩ (by
    rintro i d ρ hd ⟨s,rfl⟩;have e:=aCL (m:=m) (aAZ hp (zBG hd));simp only[hd];cases c:iT m d with
    |true=>right;exact⟨_,by simp[e,c];rfl,⟨_,rfl⟩,rfl⟩
    |false=>left;exact⟨by simp[e,c],rfl⟩)
  have st:bB 3 [.int m,.tup ts]=[.sh (.int m),.sh (.tup ts),.no]:=rfl;rcases L with ⟨e,i,hi,o⟩|⟨ρ',e,⟨s,rfl⟩,o⟩
  .have:ts.all (iT m)=false:=by
    rw[List.all_eq_false];rw[zAC hi]at o;exact⟨ts[i],zC1 hi,by simpa using o⟩
   simp only[bJ,aq,cB,st];simp[e,rpB,this]
  .have:ts.all (iT m)=true:=by
    rw[zB6];intro t ht;obtain⟨i,hi,rfl⟩:=zCE ht
    have:=o i hi
    rw[zAC hi]at this;exact this
   have er:=zM (ps:=ts.map aHh) (by rw[zAE];exact hl);rw[aJ3 this]at er;simp only[bJ,aq,cB,st];simp[e,rpB,this,er]
 |_=>simp[bJ,aq,bB,mV (tQ h),qi,rpB]
theorem gH:∀(ds:List D) (P:Nat->En->Prop) (ρ:En),P 0 ρ->(∀(i:Nat) d ρ,ds[i]? =some d->P i ρ->∃ρ',okE (a d ρ) u= .nx ρ'/\P (i+1) ρ')->∃ρ',forL a u ds ρ= .nx ρ'/\P ds.length ρ'
 |[],P,ρ,h,_=>⟨ρ,rfl,h⟩
 |d::ds,P,ρ,h,hs=>by
  obtain⟨ρ1,e,h1⟩:=hs 0 d ρ rfl h;obtain⟨ρ2,e2,h2⟩:=gH (a:=a) (u:=u) ds (λ i=>P (i+1)) ρ1 h1 λ i d2 ρ2 e2 h2=>hs (i+1) d2 ρ2 (by simpa using e2) h2
  refine⟨ρ2,?_,by simpa using h2⟩;rw[gr];cases ea:a d ρ with
  |ok ρ0=>rw[ea]at e;simp at e ⊢;rw[e];exact e2
  |ex c=>rw[ea]at e;cases e
  |st=>rw[ea]at e;cases e
def vN(l:List α)(i:Int)(y:α):(dR l i y).Perm (y::l):=by
 unfold dR;generalize (if i<0 then(i+(l.length:Int)).toNat else min i.toNat l.length)=k
 have:(l.take k++y::l.drop k).Perm (y::(l.take k++l.drop k)):=zFu
 rwa [zAf]at this
def aDq(f:α->β)(l:List α)(i:Int)(y:α):dR (l.map f) i (f y)=(dR l i y).map f:=by
 unfold dR;rw[zAE,zBc,zAG,zE4,zF1]
structure aGo(n:Nat)(os:List Int):Prop where
 len:os.length=n
 nd:os.Nodup
 lo:∀x∈os,0<=x/\x<n
def rQ{n:Nat}(h1:n<=60):∃os,di [.int c,.int n]= .ok (.lst (os.map .int))/\aGo n os:=by
 have hr:=dZ (j:=(n:Int)) (by lia) (by lia);have oQ:(bf 0 (n:Int)).length=n:=by rw[fB];lia
 obtain⟨ρ',e,s,os,rfl,ho⟩:=gH (a:=gnm 3) (u:=aFn 2 (aR aU (aB (aC 0) (aB (op2 cH (cD (.int 100)) (aC 3)) (aB (op2 cH (aC 3) (cD (.int 1))) aJ)))) (bK (aC 3))) (bf 0 (n:Int))
  (λ i ρ=>∃s os,ρ=[.sh (.int c),.sh (.int n),.ow (.lst (os.map .int)),s]/\aGo i os) [.sh (.int c),.sh (.int n),.ow (.lst []),.no] ⟨.no,[],rfl,rfl,by simp,λ x hx=>by simp at hx⟩ (by
   rintro i d ρ hd ⟨s,os,rfl,ho⟩;obtain⟨rfl,h2⟩:=iR hd;obtain⟨r,er,r0,r1⟩:=pq (c:=c) (k:=100+(i:Int)) (b:=(i:Int)+1) (by lia) (by lia) (by lia) (by lia);have hz: -9223372036854775808<=r/\r<9223372036854775808/\os.length<16777216:=⟨by lia,by lia,by rw[ho.len];lia⟩;refine⟨[.sh (.int c),.sh (.int n),.ow (.lst ((dR os r (0+(i:Int))).map .int)),.sh (.int (0+(i:Int)))],?_,_,_,rfl,?_,?_,λ x hx=>?_⟩
   .rw[<-aDq]
    simp only[zQ,uo,aFn];simp[er,hz]
   .rw[wu,ho.len]
   .refine(vN os r _).nodup_iff.mpr (zBH.mpr ⟨λ hm=>?_,ho.nd⟩)
    have:=ho.lo _ hm
    lia
   .rcases zAM.mp ((vN os r _).mem_iff.mp hx)with q|q
    .lia
    .have:=ho.lo x q
     lia)
 rw[oQ]at ho;refine⟨os,?_,ho⟩;simp[di,fO,bB,hr,e]
def pl(p:Int×Int):List Int:=[p.1,p.2]
def hp(p:Int×Int):Int:=hsh (pl p)
theorem wZ:∀{L:List α},(L.map f).Nodup->∀x∈L,∀y∈L,f x=f y->x=y
 |a::L,h,x,hx,y,hy,e=>by
  rw[zAG,zBH]at h;rcases zAM.mp hx with q|q
  .rcases zAM.mp hy with z|z
   .rw[q,z]
   .subst q
    exact absurd (zAl.mpr ⟨y,z,e.symm⟩) h.1
  .rcases zAM.mp hy with z|z
   .subst z
    exact absurd (zAl.mpr ⟨x,q,e⟩) h.1
   .exact wZ h.2 x q y z e
theorem mR:∀{l:List α},l.Nodup->(∀x∈l,∀y∈l,f x=f y->x=y)->(l.map f).Nodup
 |[],_,_=>by simp
 |a::l,h,hi=>by
  rw[zBH]at h;rw[zAG,zBH];refine⟨λ hm=>?_,mR h.2 λ x hx y hy e=>hi x (zAO _ hx) y (zAO _ hy) e⟩;obtain⟨x,hx,e⟩:=zAl.mp hm
  have:=hi x (zAO _ hx) a zAT e
  subst this;exact h.1 hx
structure Ow(n:Int)(ps:gV):Prop where
 n0:0<=n
 n1:n<=60
 len:ps.length<=3600
 pr:∀p∈ps,0<=p.1/\p.1<n/\0<=p.2/\p.2<n/\p.1≠p.2
 ris:uZ ps=true
def owD(n:Int)(ps:gV):D:=.tup [.int n,.tup (ps.map pD)]
def aC5(p:Int×Int):tupI (pl p)=pD p:=rfl
def aFL(h:pl p=pl q):p=q:=by
 unfold pl at h;injection h with h1 h2
 injection h2 with h2 _
 exact zEz h1 h2
def nJ(nd:ps.Nodup):∃qs:gV,rE (ps.map pl)=qs.map pl/\qs.Perm ps/\uZ qs=true:=by
 obtain⟨qs,q1,q2⟩:=gh (f:=pl) (oG (ps.map pl)) rfl;refine⟨qs,q2,q1,yh.mpr λ i p q e1 e2=>?_⟩;have hr:=lL (ps.map pl);rw[q2]at hr;have hnd:qs.Nodup:=q1.nodup_iff.mpr nd;have h1:=(zAI.mp e1).1;have h2:=(zAI.mp e2).1;have f1:(qs.map pl)[i]'(by simpa using h1)=pl p:=by
  rw[zDM,(zAI.mp e1).2]
 have f2:(qs.map pl)[i+1]'(by simpa using h2)=pl q:=by
  rw[zDM,(zAI.mp e2).2]
 have z:=zBI.mp hr i (i+1) (by simpa using h1) (by simpa using h2) (by lia);rw[f1,f2]at z;have hne:p≠q:=λ e=>by
  subst e
  have:=(zDC h1 hnd).mp (e1.trans e2.symm)
  lia
 show HT.lexLt (pl p) (pl q)=true;cases c:HT.lexLt (pl p) (pl q)with
 |true=>rfl
 |false=>exact absurd (aFL (ux _ _ c z)) hne
def wK(ps:gV):lH (ps.map pD)=some (ps.map pl):=by
 have:=uJ (nss:=ps.map pl) λ ns h=>by
  obtain⟨p,_,rfl⟩:=zAl.mp h;simp[pl]
 rw[zAk]at this;exact this
def ar(os:List Int)(q:Nat×Nat):Int×Int:=(os.getD q.1 0,os.getD q.2 0)
def wX{os:List Int}{k:Nat}(h:k<os.length):atD (os.map D.int) (k:Int)= .ok (.int (os.getD k 0)):=dI (by rw[zAQ,zAC h];simp[h])
def t7{n:Nat}(hn:n<=60){ip:List (Nat×Nat)}(nd:ip.Nodup)(h:∀q∈ip,q.1<n/\q.2<n):ip.length<=3600:=by
 have:=sub_len (l':=(zAr 60).flatMap λ a=>(zAr 60).map λ b=>(a,b)) nd λ q hq=>by
  rw[zFt]
  have:=h q hq
  exact⟨q.1,by simp;omega,zAl.mpr ⟨q.2,by simp;omega,rfl⟩⟩
 refine zBB this ?_;rw[List.length_flatMap];simp only[zAE,zE0];decide
def Ow.rp{n:Int}{ps:gV}(h:Ow n ps):rpB n (.tup (ps.map pD))=true:=by
 have e:(ps.map pD).map aHh=ps:=by rw[zAk];exact(zCj λ p _=>rfl).trans (zFP ps)
 unfold rpB;dsimp only;rw[e,h.ris,zFZ,zB6];intro d hd;obtain⟨p,hp,rfl⟩:=zAl.mp hd;obtain⟨a,b,c,d,e⟩:=h.pr p hp;simp[pD,iT,a,b,c,d,e]
theorem aCk:∀ps:gV,yq (ps.map pD)=true
 |[]=>rfl
 |p::ps=>by simp only[zAG,yq,aCk ps,zFZ];rfl
def wD{n:Int}{ps:gV}(h:Ow n ps):gm [owD n ps]= .ok (.bl true):=by
 have e1:=aCM (d:=.int n) rfl;have e2:=nF (m:=n) (d:=.tup (ps.map pD)) (by simpa[pln]using aCk ps) (by have:=h.len;simp[aKB];lia);rw[h.rp]at e2;have e3:aCu (.int n)=true:=by simp[aCu,h.n0,h.n1]
 rw[e3]at e1;simp[gm,dH,owD,bB,e1,e2]
def jf{n:Int}{ps:gV}(h:Ow n ps):bQ [owD n ps]= .ok .non:=by
 have:=wD h
 simp[bQ,bh,bB,this]
theorem mG:∀ns:List Int,dU (ns.map .int)=0/\au (ns.map .int)=true
 |[]=>⟨rfl,rfl⟩
 |n::ns=>by
  obtain⟨h1,h2⟩:=mG ns;simp[dU,nD,au,aY,h1,h2]
theorem xY:∀ps:gV,dU (ps.map pD)<=1/\au (ps.map pD)=true
 |[]=>⟨by simp[dU],rfl⟩
 |p::ps=>by
  obtain⟨h1,h2⟩:=xY ps;simp[dU,nD,au,aY,h2,pD,h1]
def pW(neg:Bool)(y:Int)(ns:List Int):inR neg (.int y) (.lst (ns.map .int))= .ok (.bl (if neg then !decide (y∈ns)else decide (y∈ns))):=by
 obtain⟨h1,h2⟩:=mG ns;have e:inD (.int y) (ns.map .int)=decide (y∈ns):=by
  unfold inD;rw[zCu];simp[zFn,eqD]
 unfold inR;dsimp only;rw[h1,h2,e];rfl
def aAv(neg:Bool)(q:Int×Int)(ps:gV):inR neg (pD q) (.tup (ps.map pD))= .ok (.bl (if neg then !decide (q∈ps)else decide (q∈ps))):=by
 obtain⟨h1,h2⟩:=xY ps;have e:inD (pD q) (ps.map pD)=decide (q∈ps):=by
  unfold inD;rw[zCu];simp only[List.any_map,zFn,Function.comp,decide_eq_true_eq];constructor
  .rintro⟨p,hp,h⟩
   simp[pD,eqD,je]at h
   have:p=q:=zEz h.1 h.2
   exact this▸hp
  .intro h
   exact⟨q,h,by simp[pD,eqD,je]⟩
 unfold inR;dsimp only;have h3:decide (dU (ps.map pD)<=60)=true:=by simp;lia
 have h4:aY (pD q)=true:=rfl;rw[h2,e,h3,h4];rfl
def zG{d:D}(h:knd d=true):jF [d]= .ok (.bl (uE d)):=by
 simp[jF,eF,bB,aDB h,aAr h];cases d<;>rfl
def zZ{α:Type}(f:α->Bool)(l:List α):boolsOf (l.map λ x=>D.bl (f x))=some (l.map f):=by
 have:=sS (l.map f)
 rwa [zAk]at this
def aGg{α:Type}(f:α->Bool)(l:List α):v9 (λ bs=>bs.all id) [.lst (l.map λ x=>D.bl (f x))]= .ok (.bl (l.all f)):=by
 unfold v9;dsimp only;rw[zZ];dsimp only;rw[zJR];rfl
theorem kI{α:Type}{ρ:En}{fg:D->En->Rs En}{ft:En->Rs Bool}{fe:En->Rs D}{f g:α->D}{t:α->Bool}:∀(l:List α),(∀x∈l,∃ρ1,fg (f x) ρ= .ok ρ1/\ft ρ1= .ok (t x)/\fe ρ1= .ok (g x))->lcL ρ fg ft fe (l.map f)= .ok ((l.filter t).map g)
 |[],_=>rfl
 |x::l,h=>by
  obtain⟨ρ1,e1,e2,e3⟩:=h x zAT;have ih:=kI l λ y hy=>h y (zAO _ hy)
  rw[zAG];unfold lcL;rw[e1,aO,e2,aO,e3,aO,ih,aO,zDk];cases t x<;>rfl
def oV(h1:fi (shE ρ)= .ok ds)(h2:ds.length<16777216)(h3:lcL (stE js (shE ρ)) fg ft fe ds= .ok out):lcD fi js fg ft fe ρ= .ok (.lst out):=by
 unfold lcD;rw[h1,aO,if_pos (by rw[szl];exact h2),h3]
def aCF{α:Type}{f g:α->D}(l:List α)(h:∀x∈l,∃ρ1,fg (f x) ρ= .ok ρ1/\fe ρ1= .ok (g x)):lcL ρ fg aBU fe (l.map f)= .ok (l.map g):=by
 have:=kI (ρ:=ρ) (fg:=fg) (ft:=aBU) (fe:=fe) (f:=f) (g:=g) (t:=λ _=>true) l λ x hx=>by
  obtain⟨ρ1,h1,h2⟩:=h x hx;exact⟨ρ1,h1,rfl,h2⟩
 rwa [zH2.mpr λ _ _=>rfl]at this
def aGf{α:Type}{f:α->Bool}{l:List α}(h:fe ρ= .ok (.lst (l.map λ x=>.bl (f x)))):opA (v9 λ bs=>bs.all id) (aB fe aJ) ρ= .ok (.bl (l.all f)):=by
 rw[iU,cR,h,aO,fj,aO,aO,aGg,cF]
def aFp(neg:Bool)(y:Int)(ns:List Int):inR neg (.int y) (.tup (ns.map .int))= .ok (.bl (if neg then !decide (y∈ns)else decide (y∈ns))):=pW neg y ns
def aB3(nd:ps.Nodup)(h:ps.length<64):∃qs:gV,nM [.lst (ps.map pD)]= .ok (.lst (qs.map pD))/\qs.Perm ps/\uZ qs=true:=by
 obtain⟨qs,q1,q2,q3⟩:=nJ nd;refine⟨qs,?_,q2,q3⟩;unfold nM;dsimp only;rw[wK];dsimp only;rw[if_pos (by rw[zAE];exact h),q1,zAk];exact congrArg (λ l=>Rs.ok (D.lst l)) (zCj λ p _=>aC5 p)
abbrev orE(c most:Int)(n kd:Nat)(t:Int)(os:List Int)(ip:List (Nat×Nat))(sp:Int)(s8 s9:Slot):En:=
 [.sh (.int c),.sh (.int most),.sh (.int n),.sh (.int kd),.nw (.int t),.sh (.lst (os.map .int)),.ow (.lst ((ip.map (ar os)).map pD)),.sh (.int sp),s8,s9]
structure Jps(n j i:Nat)(ip:List (Nat×Nat)):Prop where
 nd:ip.Nodup
 ok:∀q∈ip,q.1<q.2/\q.2<n/\(q.2<j\/(q.2=j/\q.1<i))
def aFY{os:List Int}(hn:n<=60)(hj:j<n)(ho:aGo n os){sp:Int}(h0:0<=sp)(h1:sp<=2+60*j)(hip:Jps n j 0 ip):
  ∃ip' sp' s9',forL (gnm 9) aFZ (bf 0 (j:Int)) (orE c most n kd t os ip sp (.sh (.int j)) s9)= .nx (orE c most n kd t os ip' sp' (.sh (.int j)) s9')/\0<=sp'/\sp'<=2+60*(j+1)/\Jps n (j+1) 0 ip':=by
 have oQ:(bf 0 (j:Int)).length=j:=by rw[fB];lia
 obtain⟨ρ',e,ip',sp',s9',rfl,q0,q1,q2⟩:=gH (a:=gnm 9) (u:=aFZ) (bf 0 (j:Int))
  (λ i ρ=>∃ip sp s9,ρ=orE c most n kd t os ip sp (.sh (.int j)) s9/\0<=sp/\sp<=2+60*j+i/\Jps n j i ip) (orE c most n kd t os ip sp (.sh (.int j)) s9) ⟨ip,sp,s9,rfl,h0,by lia,hip⟩ (by
   rintro i d ρ hd ⟨ip,sp,s9,rfl,p0,p1,p2⟩;obtain⟨rfl,hlt⟩:=iR hd;have hij:i<j:=by lia
   obtain⟨h,eh,hh0,hh1⟩:=pq (c:=c) (k:=sp+1) (b:=8) (by lia) (by lia) (by decide) (by decide);have hzl:=t7 hn p2.nd λ q hq=>⟨by have:=p2.ok q hq;lia,(p2.ok q hq).2.1⟩
   have hi':i<os.length:=by rw[ho.len];lia
   have hj':j<os.length:=by rw[ho.len];lia
   have st1:∃ip1,orB (orE c most n kd t os ip (sp+1) (.sh (.int j)) (.sh (.int i)))= .nx (orE c most n kd t os ip1 (sp+1) (.sh (.int j)) (.sh (.int i)))/\(ip1=ip\/ip1=ip++[(i,j)]):=by
    obtain⟨b,hc⟩:∃b,(orT (tsb (op2 ltD (aR aU (aB (aC 0) (aB (aC 7) (aB (cD (.int 8)) aJ)))) (dM 4))) (mJ (tsb (op2 (eqR false) (aC 3) (cD (.int 5)))) (tsb (op2 (inR false) (aC 8) (iI (aB (op2 cH (op2 gF (cD (.int 2)) (aC 9)) (cD (.int 1))) (aB (op2 cH (op2 gF (cD (.int 2)) (aC 9)) (cD (.int 2))) aJ))))))) (orE c most n kd t os ip (sp+1) (.sh (.int j)) (.sh (.int i)))= .ok b:=by
     have eA:tsb (op2 ltD (aR aU (aB (aC 0) (aB (aC 7) (aB (cD (.int 8)) aJ)))) (dM 4)) (orE c most n kd t os ip (sp+1) (.sh (.int j)) (.sh (.int i)))= .ok (decide (h<t)):=by
      have e0:aB (aC 0) (aB (aC 7) (aB (cD (.int 8)) aJ)) (orE c most n kd t os ip (sp+1) (.sh (.int j)) (.sh (.int i)))= .ok [.int c,.int (sp+1),.int 8]:=rfl;rw[lJ,fC,aBM,e0,aO,eh];rfl
     have eB:tsb (op2 (eqR false) (aC 3) (cD (.int 5))) (orE c most n kd t os ip (sp+1) (.sh (.int j)) (.sh (.int i)))= .ok ((kd:Int)==5):=rfl;have eC:tsb (op2 (inR false) (aC 8) (iI (aB (op2 cH (op2 gF (cD (.int 2)) (aC 9)) (cD (.int 1))) (aB (op2 cH (op2 gF (cD (.int 2)) (aC 9)) (cD (.int 2))) aJ)))) (orE c most n kd t os ip (sp+1) (.sh (.int j)) (.sh (.int i)))= .ok (decide ((j:Int)∈[2*(i:Int)+1,2*(i:Int)+2])):=by
      have hm:gF (.int 2) (.int i)= .ok (.int (2*(i:Int))):=zB (by decide) (by decide);have hi:=aFp false (j:Int) [2*(i:Int)+1,2*(i:Int)+2];simp only[zAG,zEr]at hi;have ht:iI (aB (op2 cH (op2 gF (cD (.int 2)) (aC 9)) (cD (.int 1))) (aB (op2 cH (op2 gF (cD (.int 2)) (aC 9)) (cD (.int 2))) aJ)) (orE c most n kd t os ip (sp+1) (.sh (.int j)) (.sh (.int i)))= .ok (.tup [.int (2*(i:Int)+1),.int (2*(i:Int)+2)]):=by simp[hm]
      rw[lJ,fC,ht]
      show(((Rs.ok (D.int j)).bd λ x=>(Rs.ok (D.tup [.int (2*(i:Int)+1),.int (2*(i:Int)+2)])).bd λ y=>okD (inR false x y)).bd blD)=_
      rw[aO,aO,hi];rfl
     rw[yu,eA,m7,eB,eC];cases decide (h<t)<;>cases (kd:Int)==5<;>exact⟨_,rfl⟩
    cases b with
    |true=>
     refine⟨_,?_,.inr rfl⟩;simp only[orB,gU,hc,bC,if_pos];have hz:ip.length<16777216:=by lia
     simp[kY,wX hi',wX hj',hz,ar,pD]
    |false=>
     refine⟨_,?_,.inl rfl⟩;simp only[orB,gU,hc,bC];rfl
   obtain⟨ip1,e1,c1⟩:=st1;refine⟨_,?_,ip1,sp+1,.sh (.int i),rfl,by lia,by lia,?_⟩
   .have s7:bU 7 (op2 cH (aC 7) (cD (.int 1))) (orE c most n kd t os ip sp (.sh (.int j)) (.sh (.int i)))= .nx (orE c most n kd t os ip (sp+1) (.sh (.int j)) (.sh (.int i))):=by first|rfl|simp
    rw[zFm];show aFZ (orE c most n kd t os ip sp (.sh (.int j)) (.sh (.int i)))=_;unfold aFZ;rw[aM,s7,aV,e1]
   .have bS:∀q∈ip,q.1<q.2/\q.2<n/\(q.2<j\/(q.2=j/\q.1<i+1)):=λ q hq=>by have:=p2.ok q hq;lia
    have n1:(i,j)∉ip:=λ hm=>by have:=p2.ok _ hm;simp only at this;lia
    rcases c1 with rfl|rfl
    .exact⟨p2.nd,bS⟩
    .refine⟨zAy.mpr ⟨p2.nd,by simp,λ x hx y hy z=>?_⟩,λ q hq=>?_⟩
     .rw[zAN]at hy;subst hy;subst z;exact n1 hx
     .rcases zA9.mp hq with z|z
      .exact bS q z
      .rw[zAN.mp z];exact⟨hij,hj,.inr ⟨rfl,zBf i⟩⟩)
 rw[oQ]at q1 q2;refine⟨ip',sp',s9',e,q0,by lia,q2.nd,λ q hq=>?_⟩
 have:=q2.ok q hq
 lia
def Up(n:Nat)(ps:gV):Prop:=∃os:List Int,aGo n os/\∀p∈ps,∃q:Nat×Nat,q.1<q.2/\q.2<n/\p=ar os q
def aJu{kd:Nat}(h:kd<6):∃t:Int,atD ([1,2,3,5,8,0].map D.int) (kd:Int)= .ok (.int t):=⟨_,wX (os:=[1,2,3,5,8,0]) (k:=kd) (by simpa using h)⟩
def vG{most:Nat}(h1:most<=9):∃(n:Nat) (ps:gV),dW [.int c,.int most]= .ok (owD n ps)/\Ow n ps/\n<=most/\ps.length<64/\Up n ps:=by
 obtain⟨n,en,hn⟩:=tX (c:=c) (k:=0) (b:=(most:Int)+1) (by decide) (by decide) (by lia) (by lia);obtain⟨kd,ek,hk⟩:=tX (c:=c) (k:=1) (b:=6) (by decide) (by decide) (by decide) (by decide);have hn8:n<=9:=by lia
 obtain⟨t,et⟩:=aJu (kd:=kd) (by lia);obtain⟨os,eo,ho⟩:=rQ (c:=c) (n:=n) (by lia);have hr1:=dZ (j:=(n:Int)) (by lia) (by lia);have oQ:(bf 0 (n:Int)).length=n:=by rw[fB];lia
 obtain⟨ρ',e,ip,sp,s8,s9,rfl,_,_,hip⟩:=gH (a:=gnm 8) (u:=aCp) (bf 0 (n:Int))
  (λ j ρ=>∃ip sp s8 s9,ρ=orE c most n kd t os ip sp s8 s9/\0<=sp/\sp<=2+60*j/\Jps n j 0 ip) (orE c most n kd t os [] 2 .no .no) ⟨[],2,.no,.no,rfl,by lia,by lia,by simp,λ q hq=>by simp at hq⟩ (by
   rintro j d ρ hd ⟨ip,sp,s8,s9,rfl,p0,p1,p2⟩;obtain⟨rfl,hlt⟩:=iR hd;have hr2:=dZ (j:=(j:Int)) (by lia) (by lia);obtain⟨ip',sp',s9',e,q0,q1,q2⟩:=aFY (c:=c) (most:=most) (t:=t) (n:=n) (kd:=kd) (j:=j) (os:=os) (by lia) (by lia) ho (s9:=s9) p0 p1 p2;refine⟨_,?_,ip',sp',.sh (.int j),s9',rfl,q0,by lia,q2⟩;rw[zFm,zQ,uo,show(orE c most n kd t os ip sp s8 s9).set 8 (.sh (.int j))=orE c most n kd t os ip sp (.sh (.int j)) s9 from rfl];unfold aCp;have hi:(g8 gf (aB (aC 8) aJ)) (orE c most n kd t os ip sp (.sh (.int j)) s9)= .ok (bf 0 (j:Int)):=by simp[hr2]
   rw[gj,hi,bC,e])
 rw[oQ]at hip;have gi:∀k l,k<n->l<n->os.getD k 0=os.getD l 0->k=l:=λ k l hk hl z=>by
  have k1:k<os.length:=by rw[ho.len];exact hk
  have k2:l<os.length:=by rw[ho.len];exact hl
  have:os[k]? =os[l]?:=by
   rw[zAC k1,zAC k2];simpa[k1,k2]using z
  exact(zDC k1 ho.nd).mp this
 have hin:∀p∈ip.map (ar os),0<=p.1/\p.1<n/\0<=p.2/\p.2<n/\p.1≠p.2:=λ p hp=>by
  obtain⟨q,hq,rfl⟩:=zAl.mp hp;obtain⟨a1,a2,_⟩:=hip.ok q hq;have g:∀k,k<n->os.getD k 0∈os:=λ k hk=>by
   have:k<os.length:=by rw[ho.len];exact hk
   simp[this]
  have l1:=ho.lo _ (g q.1 (by lia));have l2:=ho.lo _ (g q.2 a2);refine⟨l1.1,l1.2,l2.1,l2.2,λ z=>?_⟩
  have:=gi _ _ (by lia) a2 z
  lia
 have hnd:(ip.map (ar os)).Nodup:=mR hip.nd λ x hx y hy e=>by
  have x1:=hip.ok x hx;have y1:=hip.ok y hy;have e1:os.getD x.1 0=os.getD y.1 0:=congrArg zFA e;have e2:os.getD x.2 0=os.getD y.2 0:=congrArg zHl e;exact zEz (gi _ _ (by lia) (by lia) e1) (gi _ _ (by lia) (by lia) e2)
 have hl:ip.length<64:=by
  have:=sub_len (l':=(zAr 9).flatMap λ b=>(zAr b).map λ a=>(a,b)) hip.nd λ q hq=>by
   rw[zFt]
   have:=hip.ok q hq
   exact⟨q.2,by simp;lia,zAl.mpr ⟨q.1,by simp;lia,rfl⟩⟩
  have h36:((zAr 9).flatMap λ b=>(zAr b).map λ a=>(a,b)).length=36:=by decide
  lia
 obtain⟨qs,s1,s2,s3⟩:=aB3 hnd (by rw[zAE];exact hl);have hl2:qs.length<64:=by rw[s2.length_eq,zAE];exact hl
 refine⟨n,qs,?_,⟨by lia,by lia,by lia,λ p hp=>hin p (s2.mem_iff.mp hp),s3⟩,by lia,hl2,os,ho,λ p hp=>?_⟩
 .have st:bB 10 [.int c,.int most]=[.sh (.int c),.sh (.int most),.no,.no,.no,.no,.no,.no,.no,.no]:=rfl
  have et':atD [D.int 1,D.int 2,D.int 3,D.int 5,D.int 8,D.int 0] (kd:Int)= .ok (.int t):=et;have a1:bU 2 (aR aU (aB (aC 0) (aB (cD (.int 0)) (aB (op2 cH (aC 1) (cD (.int 1))) aJ)))) [.sh (.int c),.sh (.int most),.no,.no,.no,.no,.no,.no,.no,.no]= .nx [.sh (.int c),.sh (.int most),.sh (.int n),.no,.no,.no,.no,.no,.no,.no]:=by simp[en]
  have a2:bU 3 (aR aU (aB (aC 0) (aB (cD (.int 1)) (aB (cD (.int 6)) aJ)))) [.sh (.int c),.sh (.int most),.sh (.int n),.no,.no,.no,.no,.no,.no,.no]= .nx [.sh (.int c),.sh (.int most),.sh (.int n),.sh (.int kd),.no,.no,.no,.no,.no,.no]:=by simp[ek]
  have a3:su 4 (op2 ixD (gR (aB (cD (.int 1)) (aB (cD (.int 2)) (aB (cD (.int 3)) (aB (cD (.int 5)) (aB (cD (.int 8)) (aB (cD (.int 0)) aJ))))))) (aC 3)) [.sh (.int c),.sh (.int most),.sh (.int n),.sh (.int kd),.no,.no,.no,.no,.no,.no]= .nx [.sh (.int c),.sh (.int most),.sh (.int n),.sh (.int kd),.nw (.int t),.no,.no,.no,.no,.no]:=by simp[et']
  have a4:bU 5 (aR di (aB (aC 0) (aB (aC 2) aJ))) [.sh (.int c),.sh (.int most),.sh (.int n),.sh (.int kd),.nw (.int t),.no,.no,.no,.no,.no]= .nx [.sh (.int c),.sh (.int most),.sh (.int n),.sh (.int kd),.nw (.int t),.sh (.lst (os.map .int)),.no,.no,.no,.no]:=by simp[eo]
  have a5:jX 6 (gR aJ) [.sh (.int c),.sh (.int most),.sh (.int n),.sh (.int kd),.nw (.int t),.sh (.lst (os.map .int)),.no,.no,.no,.no]= .nx [.sh (.int c),.sh (.int most),.sh (.int n),.sh (.int kd),.nw (.int t),.sh (.lst (os.map .int)),.ow (.lst []),.no,.no,.no]:=by first|rfl|simp
  have a6:bU 7 (cD (.int 2)) [.sh (.int c),.sh (.int most),.sh (.int n),.sh (.int kd),.nw (.int t),.sh (.lst (os.map .int)),.ow (.lst []),.no,.no,.no]= .nx (orE c most n kd t os [] 2 .no .no):=by first|rfl|simp
  have a7:kO (g8 gf (aB (aC 2) aJ)) (gnm 8) aCp (orE c most n kd t os [] 2 .no .no)= .nx (orE c most n kd t os ip sp s8 s9):=by
   have hi:(g8 gf (aB (aC 2) aJ)) (orE c most n kd t os [] 2 .no .no)= .ok (bf 0 (n:Int)):=by simp[hr1]
   rw[gj,hi,bC];exact e
  have a8:opA nM (aB (cM 6) aJ) (orE c most n kd t os ip sp s8 s9)= .ok (.lst (qs.map pD)):=by
   have hv:(aB (cM 6) aJ) (orE c most n kd t os ip sp s8 s9)= .ok [.lst ((ip.map (ar os)).map pD)]:=by first|rfl|simp
   rw[iU,hv,aO,s1,cF]
  have a9:retS (iI (aB (bK (aC 2)) (aB (opA eU (aB (opA nM (aB (cM 6) aJ)) aJ)) aJ))) (orE c most n kd t os ip sp s8 s9)= .rt (owD n qs):=by
   have ha:aB (opA nM (aB (cM 6) aJ)) aJ (orE c most n kd t os ip sp s8 s9)= .ok [.lst (qs.map pD)]:=by rw[cR,a8,aO,fj,aO]
   have hb:opA eU (aB (opA nM (aB (cM 6) aJ)) aJ) (orE c most n kd t os ip sp s8 s9)= .ok (.tup (qs.map pD)):=by rw[iU,ha,aO,oF,cF]
   have hc:bK (aC 2) (orE c most n kd t os ip sp s8 s9)= .ok (.int n):=by first|rfl|simp
   rw[mL,aC6,cR,hc,aO,cR,hb,aO,fj,aO,aO,aO,if_pos (by simp),bC];rfl
  simp only[dW,cB,st,cV];rw[aM,a1,aV,aM,a2,aV,aM,a3,aV,aM,a4,aV,aM,a5,aV,aM,a6,aV,aM,a7,aV,a9]
 .obtain⟨q,hq,rfl⟩:=zAl.mp (s2.mem_iff.mp hp)
  obtain⟨a1,a2,_⟩:=hip.ok q hq;exact⟨q,a1,a2,rfl⟩
def aGj:gV:=(zAr 9).flatMap λ(a:Nat)=>((zAr 9).filter λ b=>b !=a).map λ(b:Nat)=>((a:Int),(b:Int))
def aGh(h0:0<=p.1)(h1:p.1<9)(h2:0<=p.2)(h3:p.2<9)(h4:p.1≠p.2):p∈aGj:=by
 unfold aGj;rw[zFt];refine⟨p.1.toNat,by simp;lia,?_⟩;rw[zAl];refine⟨p.2.toNat,?_,?_⟩
 .rw[zBX]
  refine⟨by simp;lia,?_⟩
  have:p.2.toNat≠p.1.toNat:=by lia
  simpa using this
 .have e1:((p.1.toNat:Nat):Int)=p.1:=zBq h0
  have e2:((p.2.toNat:Nat):Int)=p.2:=zBq h2;rw[e1,e2]
def aDH:List Int:=[(-1950498447580522560),7204814214171964562,(-4734289103435588629),1773351652666409796,(-3119722376306286570),(-1010439003188656273),(-5903513032161352639),604127723940645786,(-5164621852614943976),(-3550055125485641917),(-1440771752368011620),(-6333845781340707986),173794974761290439,(-4719279054211405927),(-2609995681093775630),3897645075008222795,4685526799349444076,6794810172467074373,8409376899596376432,3516302870623680066,(-8422800446983873125),(-6313517073866242828),7240152970870612422,(-4698950346736940769),2248468952609198383,8756109708711196808,3863035679738500442,1079245023883434373,7586885779985432798,(-4352217537622120393),4803095124130366729,(-7136008193477186462),(-6348126469135965181),159514286966033244,(-9131917124991031250),(-2624276368889032825),(-1009709641759730766),1099573731357899531,(-3793500297614796835),2714140458487201590,(-3054609118068388172),3453031638033610253,(-5838399773923454241),669240982178544184,(-4223833046794152182),(-7007623702649218251),(-499982946547219826),6007657809554778599,(-5491666964808633865),8062003079928221385,(-3877100237679331806),2630540518422666619,(-6660890893534397875),(-153250137432399450),1461316589696902609,3570599962814532906,4358481687155754187,(-7580621630451799004),5973048414285056246,8082331787402686543,3189257758429990177,(-8749845559177563014),(-2242204803075564589),(-5025995458930630658),1921423840415508494,8429064596517506919,3535990567544810553,(-8403112750062742638),752199911689744484,7259840667791742909,(-4679262649815810282),8874407394921044968]
set_option maxRecDepth 1000000 in
def aBP:aGj.map hp=aDH:=by decide+kernel
set_option maxRecDepth 1000000 in
def aCQ:aDH.Nodup:=by decide+kernel
def aGi:aGj.length=72:=by rw[<-zAE (f:=hp),aBP];rfl
theorem aG1:∀(l acc:hZ),(acc++l).Nodup->l.foldl (λ acc x=>if x∈acc then acc else acc++[x]) acc=acc++l
 |[],acc,_=>by simp
 |x::l,acc,nd=>by
  rw[zBV,if_neg λ h=>(zAy.mp nd).2.2 x h x zAT rfl,aG1 l _ (by rw[zAd];exact nd),zAd];rfl
def uO(nd:ps.Nodup)(h8:∀p∈ps,0<=p.1/\p.1<9/\0<=p.2/\p.2<9/\p.1≠p.2):∃qs:gV,dq [.lst (ps.map pD)]= .ok (.lst (qs.map pD))/\qs.Perm ps/\uZ qs=true:=by
 obtain⟨qs,q1,q2,q3⟩:=nJ nd;have hin:∀p∈ps,p∈aGj:=λ p hp=>by
  obtain⟨a,b,c,d,e⟩:=h8 p hp;exact aGh a b c d e
 have oQ:ps.length<=72:=by
  have:=sub_len nd hin
  rw[aGi]at this;exact this
 have hb:aI7 (ps.map pl)=true:=by
  unfold aI7;rw[zB6];intro a ha;rw[zB6];intro b hb;obtain⟨p,hp1,rfl⟩:=zAl.mp ha;obtain⟨q,hq1,rfl⟩:=zAl.mp hb;by_cases e:hsh (pl p)=hsh (pl q)
  .have:=wZ (f:=hp) (by rw[aBP];exact aCQ) p (hin p hp1) q (hin q hq1) e
   subst this;simp
  .have:(hsh (pl p)!=hsh (pl q))=true:=by simpa using e
   rw[this,zJI]
 have hdd:ddT (ps.map pl)=ps.map pl:=aG1 _ [] (by rw[zBd];exact mR nd λ x _ y _ e=>aFL e);refine⟨qs,?_,q2,q3⟩;show lN 77 (ps.map pD)=_;unfold lN;rw[wK];dsimp only;rw[hdd,if_pos ⟨by rw[zAE];lia,hb⟩,q1,zAk];exact congrArg (λ l=>Rs.ok (D.lst l)) (zCj λ p _=>aC5 p)
abbrev owE(c most:Int)(n kd:Nat)(t:Int)(os:List Int)(ip:List (Nat×Nat))(sp:Int)(s8 s9 s10:Slot):En:=
 [.sh (.int c),.sh (.int most),.sh (.int n),.sh (.int kd),.nw (.int t),.sh (.lst (os.map .int)),.ow (.lst ((ip.map (ar os)).map pD)),.sh (.int sp),s8,s9,s10]
def aBq{c most t sp:Int}{n kd a b:Nat}{os:List Int}{ip:List (Nat×Nat)}{s8 s9 s10:Slot}{f g:En->Rs D}(hz:ip.length<16777216)(ha:a<os.length)(hb:b<os.length)
  (h1:f (owE c most n kd t os ip sp s8 s9 s10)= .ok (.int a))(h2:g (owE c most n kd t os ip sp s8 s9 s10)= .ok (.int b)):
  kY 6 (iI (aB (bK (op2 ixD (aC 5) f)) (aB (bK (op2 ixD (aC 5) g)) aJ))) (owE c most n kd t os ip sp s8 s9 s10)= .nx (owE c most n kd t os (ip++[(a,b)]) sp s8 s9 s10):=by
 simp[kY,h1,h2,wX ha,wX hb,hz,ar,pD]
structure Ips(n kd j i:Nat)(ip:List (Nat×Nat)):Prop where
 nd:ip.Nodup
 ok:∀q∈ip,q.1≠q.2/\q.1<n/\q.2<n/\((q.1<j/\q.2<j)\/(q.1=j/\q.2<i)\/(q.2=j/\q.1<i))/\(kd=6->q.1<q.2)
def aFU{c most t:Int}{n kd j:Nat}{os:List Int}(hn:n<=60)(hj:j<n)(ho:aGo n os)(ht:kd=6->t=1){ip:List (Nat×Nat)}{sp:Int}{s9 s10:Slot}(h0:0<=sp)(h1:sp<=2+60*j)(hip:Ips n kd j 0 ip):
  ∃ip' sp' s9' s10',forL (gnm 9) aFV (bf 0 (j:Int)) (owE c most n kd t os ip sp (.sh (.int j)) s9 s10)= .nx (owE c most n kd t os ip' sp' (.sh (.int j)) s9' s10')/\0<=sp'/\sp'<=2+60*(j+1)/\Ips n kd (j+1) 0 ip':=by
 have oQ:(bf 0 (j:Int)).length=j:=by rw[fB];omega
 obtain⟨ρ',e,ip',sp',s9',s10',rfl,q0,q1,q2⟩:=gH (a:=gnm 9) (u:=aFV) (bf 0 (j:Int))
  (λ i ρ=>∃ip sp s9 s10,ρ=owE c most n kd t os ip sp (.sh (.int j)) s9 s10/\0<=sp/\sp<=2+60*j+i/\Ips n kd j i ip) (owE c most n kd t os ip sp (.sh (.int j)) s9 s10) ⟨ip,sp,s9,s10,rfl,h0,by omega,hip⟩ (by
   rintro i d ρ hd ⟨ip,sp,s9,s10,rfl,p0,p1,p2⟩;obtain⟨rfl,hlt⟩:=iR hd;have hij:i<j:=by omega
   obtain⟨h,eh,hh0,hh1⟩:=pq (c:=c) (k:=sp+1) (b:=8) (by omega) (by omega) (by decide) (by decide);obtain⟨g,eg,hg0,hg1⟩:=pq (c:=c) (k:=sp+1+50) (b:=8) (by omega) (by omega) (by decide) (by decide);have hzl:=t7 hn p2.nd λ q hq=>⟨(p2.ok q hq).2.1,(p2.ok q hq).2.2.1⟩
   have hi':i<os.length:=by rw[ho.len];omega
   have hj':j<os.length:=by rw[ho.len];omega
   have st1:∃ip1,aHw (owE c most n kd t os ip (sp+1) (.sh (.int j)) (.sh (.int i)) (.sh (.int h)))= .nx (owE c most n kd t os ip1 (sp+1) (.sh (.int j)) (.sh (.int i)) (.sh (.int h)))/\(ip1=ip\/ip1=ip++[(i,j)]):=by
    have hc:(orT (tsb (op2 ltD (aC 10) (dM 4))) (mJ (tsb (op2 (eqR false) (aC 3) (cD (.int 6)))) (tsb (op2 (eqR false) (aC 8) (op2 cH (aC 9) (cD (.int 1))))))) (owE c most n kd t os ip (sp+1) (.sh (.int j)) (.sh (.int i)) (.sh (.int h)))= .ok (decide (h<t)||((kd:Int)==6&&(j:Int)==(i:Int)+1)):=by
     have eA:tsb (op2 ltD (aC 10) (dM 4)) (owE c most n kd t os ip (sp+1) (.sh (.int j)) (.sh (.int i)) (.sh (.int h)))= .ok (decide (h<t)):=rfl;have eB:tsb (op2 (eqR false) (aC 3) (cD (.int 6))) (owE c most n kd t os ip (sp+1) (.sh (.int j)) (.sh (.int i)) (.sh (.int h)))= .ok ((kd:Int)==6):=rfl;have eC:tsb (op2 (eqR false) (aC 8) (op2 cH (aC 9) (cD (.int 1)))) (owE c most n kd t os ip (sp+1) (.sh (.int j)) (.sh (.int i)) (.sh (.int h)))= .ok ((j:Int)==(i:Int)+1):=rfl;rw[yu,eA,m7,eB,eC];cases decide (h<t)<;>cases (kd:Int)==6<;>rfl
    cases hb:(decide (h<t)||((kd:Int)==6&&(j:Int)==(i:Int)+1))with
    |true=>
     refine⟨_,?_,.inr rfl⟩;rw[hb]at hc;simp only[aHw,gU,hc,bC,if_pos];exact aBq (by omega) hi' hj' (by simp) (by simp)
    |false=>
     refine⟨_,?_,.inl rfl⟩;rw[hb]at hc;simp only[aHw,gU,hc,bC];rfl
   obtain⟨ip1,e1,c1⟩:=st1;have st2:∃ip2,aHv (owE c most n kd t os ip1 (sp+1) (.sh (.int j)) (.sh (.int i)) (.sh (.int h)))= .nx (owE c most n kd t os ip2 (sp+1) (.sh (.int j)) (.sh (.int i)) (.sh (.int h)))/\(ip2=ip1\/(ip2=ip1++[(j,i)]/\kd≠6)):=by
    have hl1:ip1.length<16777216:=by rcases c1 with q|q<;>rw[q]<;>first|omega|(simp;omega)
    have hc:(orT (mJ (tsb (op2 gtD (aC 3) (cD (.int 2)))) (mJ (tsb (op2 (eqR true) (aC 3) (cD (.int 7)))) (tsb (op2 ltD (aR aU (aB (aC 0) (aB (op2 cH (aC 7) (cD (.int 50))) (aB (cD (.int 8)) aJ)))) (op2 yI (dM 4) (cD (.int 1))))))) (mJ (tsb (op2 (eqR false) (aC 3) (cD (.int 7)))) (tsb (op2 ltD (aC 10) (cD (.int 3)))))) (owE c most n kd t os ip1 (sp+1) (.sh (.int j)) (.sh (.int i)) (.sh (.int h)))
      = .ok (decide (2<(kd:Int))&& !((kd:Int)==7)&&decide (g<t-1)||((kd:Int)==7&&decide (h<3))):=by
     have eA:tsb (op2 gtD (aC 3) (cD (.int 2))) (owE c most n kd t os ip1 (sp+1) (.sh (.int j)) (.sh (.int i)) (.sh (.int h)))= .ok (decide (2<(kd:Int))):=rfl;have eB:tsb (op2 (eqR true) (aC 3) (cD (.int 7))) (owE c most n kd t os ip1 (sp+1) (.sh (.int j)) (.sh (.int i)) (.sh (.int h)))= .ok (!((kd:Int)==7)):=rfl;have eC:tsb (op2 ltD (aR aU (aB (aC 0) (aB (op2 cH (aC 7) (cD (.int 50))) (aB (cD (.int 8)) aJ)))) (op2 yI (dM 4) (cD (.int 1)))) (owE c most n kd t os ip1 (sp+1) (.sh (.int j)) (.sh (.int i)) (.sh (.int h)))= .ok (decide (g<t-1)):=by
      have e0:aB (aC 0) (aB (op2 cH (aC 7) (cD (.int 50))) (aB (cD (.int 8)) aJ)) (owE c most n kd t os ip1 (sp+1) (.sh (.int j)) (.sh (.int i)) (.sh (.int h)))= .ok [.int c,.int (sp+1+50),.int 8]:=rfl;rw[lJ,fC,aBM,e0,aO,eg];rfl
     have eD:tsb (op2 (eqR false) (aC 3) (cD (.int 7))) (owE c most n kd t os ip1 (sp+1) (.sh (.int j)) (.sh (.int i)) (.sh (.int h)))= .ok ((kd:Int)==7):=rfl;have eE:tsb (op2 ltD (aC 10) (cD (.int 3))) (owE c most n kd t os ip1 (sp+1) (.sh (.int j)) (.sh (.int i)) (.sh (.int h)))= .ok (decide (h<3)):=rfl;rw[yu,m7,eA,m7,eB,eC,m7,eD,eE];cases decide (2<(kd:Int))<;>cases (kd:Int)==7<;>cases decide (g<t-1)<;>rfl
    cases hb:(decide (2<(kd:Int))&& !((kd:Int)==7)&&decide (g<t-1)||((kd:Int)==7&&decide (h<3)))with
    |true=>
     refine⟨_,?_,.inr ⟨rfl,λ k6=>?_⟩⟩
     .rw[hb]at hc
      simp only[aHv,gU,hc,bC,if_pos];exact aBq hl1 hj' hi' (by simp) (by simp)
     .have:=ht k6
      subst k6;simp at hb;omega
    |false=>
     refine⟨_,?_,.inl rfl⟩;rw[hb]at hc;simp only[aHv,gU,hc,bC];rfl
   obtain⟨ip2,e2,c2⟩:=st2;refine⟨_,?_,ip2,sp+1,.sh (.int i),.sh (.int h),rfl,by omega,by omega,?_⟩
   .have s7:bU 7 (op2 cH (aC 7) (cD (.int 1))) (owE c most n kd t os ip sp (.sh (.int j)) (.sh (.int i)) s10)= .nx (owE c most n kd t os ip (sp+1) (.sh (.int j)) (.sh (.int i)) s10):=by first|rfl|simp
    have s11:bU 10 (aR aU (aB (aC 0) (aB (aC 7) (aB (cD (.int 8)) aJ)))) (owE c most n kd t os ip (sp+1) (.sh (.int j)) (.sh (.int i)) s10)= .nx (owE c most n kd t os ip (sp+1) (.sh (.int j)) (.sh (.int i)) (.sh (.int h))):=by simp[eh]
    rw[zFm];show aFV (owE c most n kd t os ip sp (.sh (.int j)) (.sh (.int i)) s10)=_;unfold aFV;rw[aM,s7,aV,aM,s11,aV,aM,e1,aV,e2]
   .have bS:∀q∈ip,q.1≠q.2/\q.1<n/\q.2<n/\((q.1<j/\q.2<j)\/(q.1=j/\q.2<i+1)\/(q.2=j/\q.1<i+1))/\(kd=6->q.1<q.2):=λ q hq=>by
     obtain⟨a1,a2,a3,a4,a5⟩:=p2.ok q hq;exact⟨a1,a2,a3,a4.imp_right (Or.imp (λ z=>⟨z.1,zBt z.2⟩) λ z=>⟨z.1,zBt z.2⟩),a5⟩
    have n1:(i,j)∉ip:=λ hm=>by
     obtain⟨_,_,_,a4,_⟩:=p2.ok _ hm;simp only at a4;omega
    have n2:(j,i)∉ip:=λ hm=>by
     obtain⟨_,_,_,a4,_⟩:=p2.ok _ hm;simp only at a4;omega
    have cK:∀q:Nat×Nat,q=(i,j)->q.1≠q.2/\q.1<n/\q.2<n/\((q.1<j/\q.2<j)\/(q.1=j/\q.2<i+1)\/(q.2=j/\q.1<i+1))/\(kd=6->q.1<q.2):=λ q hq=>by
     subst hq;exact⟨zAc hij,zEx hij hj,hj,.inr (.inr ⟨rfl,zBf i⟩),λ _=>hij⟩
    have htwo:kd≠6->∀q:Nat×Nat,q=(j,i)->q.1≠q.2/\q.1<n/\q.2<n/\((q.1<j/\q.2<j)\/(q.1=j/\q.2<i+1)\/(q.2=j/\q.1<i+1))/\(kd=6->q.1<q.2):=λ hk q hq=>by
     subst hq;exact⟨zCz hij,hj,zEx hij hj,.inr (.inl ⟨rfl,zBf i⟩),λ z=>absurd z hk⟩
    have hij2:((i,j):Nat×Nat)≠(j,i):=λ z=>by injection z with z1 z2;omega
    rcases c1 with rfl|rfl<;>rcases c2 with rfl|⟨rfl,hk⟩
    .exact⟨p2.nd,bS⟩
    .refine⟨zAy.mpr ⟨p2.nd,by simp,λ x hx y hy z=>?_⟩,λ q hq=>?_⟩
     .rw[zAN]at hy;subst hy;subst z;exact n2 hx
     .rcases zA9.mp hq with z|z
      .exact bS q z
      .exact htwo hk q (zAN.mp z)
    .refine⟨zAy.mpr ⟨p2.nd,by simp,λ x hx y hy z=>?_⟩,λ q hq=>?_⟩
     .rw[zAN]at hy;subst hy;subst z;exact n1 hx
     .rcases zA9.mp hq with z|z
      .exact bS q z
      .exact cK q (zAN.mp z)
    .refine⟨zAy.mpr ⟨zAy.mpr ⟨p2.nd,by simp,λ x hx y hy z=>?_⟩,by simp,λ x hx y hy z=>?_⟩,λ q hq=>?_⟩
     .rw[zAN]at hy;subst hy;subst z;exact n1 hx
     .rw[zAN]at hy
      subst hy;subst z;rcases zA9.mp hx with z|z
      .exact n2 z
      .exact hij2 (zAN.mp z).symm
     .rcases zA9.mp hq with z|z
      .rcases zA9.mp z with z|z
       .exact bS q z
       .exact cK q (zAN.mp z)
      .exact htwo hk q (zAN.mp z))
 rw[oQ]at q1 q2;refine⟨ip',sp',s9',s10',e,q0,by omega,q2.nd,λ q hq=>?_⟩;obtain⟨a1,a2,a3,a4,a5⟩:=q2.ok q hq;exact⟨a1,a2,a3,.inl (by omega),a5⟩
def aE2{kd:Nat}(h:kd<8):∃t:Int,atD ([1,2,4,2,3,6,1,3].map D.int) (kd:Int)= .ok (.int t)/\(kd=6->t=1):=by
 have:=wX (os:=[1,2,4,2,3,6,1,3]) (k:=kd) (by simpa using h)
 refine⟨_,this,λ k6=>by subst k6;rfl⟩
def vH{c:Int}{most:Nat}(h1:most<=9):∃n ps,dX [.int c,.int most]= .ok (owD n ps)/\Ow n ps/\n<=(most:Int):=by
 obtain⟨n,en,hn⟩:=tX (c:=c) (k:=0) (b:=(most:Int)+1) (by decide) (by decide) (by omega) (by omega);obtain⟨kd,ek,hk⟩:=tX (c:=c) (k:=1) (b:=8) (by decide) (by decide) (by decide) (by decide);have hn8:n<=9:=by omega
 obtain⟨t,et,ht⟩:=aE2 (kd:=kd) (by omega);obtain⟨os,eo,ho⟩:=rQ (c:=c) (n:=n) (by omega);have hr1:=dZ (j:=(n:Int)) (by omega) (by omega);have oQ:(bf 0 (n:Int)).length=n:=by rw[fB];omega
 obtain⟨ρ',e,ip,sp,s8,s9,s10,rfl,_,_,hip⟩:=gH (a:=gnm 8) (u:=aCm) (bf 0 (n:Int))
  (λ j ρ=>∃ip sp s8 s9 s10,ρ=owE c most n kd t os ip sp s8 s9 s10/\0<=sp/\sp<=2+60*j/\Ips n kd j 0 ip) (owE c most n kd t os [] 2 .no .no .no) ⟨[],2,.no,.no,.no,rfl,by omega,by omega,by simp,λ q hq=>by simp at hq⟩ (by
   rintro j d ρ hd ⟨ip,sp,s8,s9,s10,rfl,p0,p1,p2⟩;obtain⟨rfl,hlt⟩:=iR hd;have hr2:=dZ (j:=(j:Int)) (by omega) (by omega);obtain⟨ip',sp',s9',s10',e,q0,q1,q2⟩:=aFU (c:=c) (most:=most) (t:=t) (n:=n) (kd:=kd) (j:=j) (os:=os) (by omega) (by omega) ho ht (s9:=s9) (s10:=s10) p0 p1 p2;refine⟨_,?_,ip',sp',.sh (.int j),s9',s10',rfl,q0,by omega,q2⟩;rw[zFm,zQ,uo,show(owE c most n kd t os ip sp s8 s9 s10).set 8 (.sh (.int j))=owE c most n kd t os ip sp (.sh (.int j)) s9 s10 from rfl];unfold aCm;have hi:(g8 gf (aB (aC 8) aJ)) (owE c most n kd t os ip sp (.sh (.int j)) s9 s10)= .ok (bf 0 (j:Int)):=by simp[hr2]
   rw[gj,hi,bC,e])
 rw[oQ]at hip;have hzl:=t7 (by omega) hip.nd λ q hq=>⟨(hip.ok q hq).2.1,(hip.ok q hq).2.2.1⟩
 obtain⟨ip2,e2,hip2⟩:∃ip2,aCn (owE c most n kd t os ip sp s8 s9 s10)= .nx (owE c most n kd t os ip2 sp s8 s9 s10)/\ip2.Nodup/\∀q∈ip2,q.1≠q.2/\q.1<n/\q.2<n:=by
  have hc:(mJ (tsb (op2 (eqR false) (aC 3) (cD (.int 6)))) (tsb (op2 gtD (aC 2) (cD (.int 1))))) (owE c most n kd t os ip sp s8 s9 s10)= .ok ((kd:Int)==6&&decide (1<(n:Int))):=by
   by_cases k1:(kd:Int)=6<;>simp[k1]
  cases hb:((kd:Int)==6&&decide (1<(n:Int)))with
  |true=>
   simp only[zAa,beq_iff_eq,decide_eq_true_eq]at hb;have k6:kd=6:=by omega
   refine⟨ip++[(n-1,0)],?_,zAy.mpr ⟨hip.nd,by simp,λ x hx y hy z=>?_⟩,λ q hq=>?_⟩
   .unfold aCn
    rw[gU,hc,show((kd:Int)==6&&decide (1<(n:Int)))=true by simp[hb],bC,if_pos rfl];exact aBq (by omega) (by rw[ho.len];omega) (by rw[ho.len];omega) (by simp;omega) (by simp)
   .rw[zAN]at hy
    subst hy;subst z
    have:=(hip.ok _ hx).2.2.2.2 k6
    simp at this
   .rcases zA9.mp hq with z|z
    .exact⟨(hip.ok q z).1,(hip.ok q z).2.1,(hip.ok q z).2.2.1⟩
    .rw[zAN.mp z]
     exact⟨by simp;omega,by simp;omega,by simp;omega⟩
  |false=>
   refine⟨ip,?_,hip.nd,λ q z=>⟨(hip.ok q z).1,(hip.ok q z).2.1,(hip.ok q z).2.2.1⟩⟩;unfold aCn;rw[gU,hc,hb,bC];rfl
 have hin:∀p∈ip2.map (ar os),0<=p.1/\p.1<n/\0<=p.2/\p.2<n/\p.1≠p.2:=λ p hp=>by
  obtain⟨q,hq,rfl⟩:=zAl.mp hp;obtain⟨a1,a2,a3⟩:=hip2.2 q hq;have g:∀k,k<n->os.getD k 0∈os:=λ k hk=>by
   have:k<os.length:=by rw[ho.len];exact hk
   simp[this]
  have l1:=ho.lo _ (g q.1 a2);have l2:=ho.lo _ (g q.2 a3);refine⟨l1.1,l1.2,l2.1,l2.2,λ z=>a1 ?_⟩;have k1:q.1<os.length:=by rw[ho.len];exact a2
  have k2:q.2<os.length:=by rw[ho.len];exact a3
  have z':os.getD q.1 0=os.getD q.2 0:=z
  have:os[q.1]? =os[q.2]?:=by
   rw[zAC k1,zAC k2];simpa[k1,k2]using z'
  exact(zDC k1 ho.nd).mp this
 have hnd:(ip2.map (ar os)).Nodup:=mR hip2.1 λ x hx y hy e=>by
  have gi:∀k l,k<n->l<n->os.getD k 0=os.getD l 0->k=l:=λ k l hk hl z=>by
   have k1:k<os.length:=by rw[ho.len];exact hk
   have k2:l<os.length:=by rw[ho.len];exact hl
   have:os[k]? =os[l]?:=by
    rw[zAC k1,zAC k2];simpa[k1,k2]using z
   exact(zDC k1 ho.nd).mp this
  obtain⟨_,x1,x2⟩:=hip2.2 x hx;obtain⟨_,y1,y2⟩:=hip2.2 y hy;have e1:os.getD x.1 0=os.getD y.1 0:=congrArg zFA e;have e2:os.getD x.2 0=os.getD y.2 0:=congrArg zHl e;exact zEz (gi _ _ x1 y1 e1) (gi _ _ x2 y2 e2)
 obtain⟨qs,s1,s2,s3⟩:=uO hnd λ p hp=>by
  obtain⟨a,b,c',d,e⟩:=hin p hp;exact⟨a,by omega,c',by omega,e⟩
 have hl2:qs.length<=3600:=by
  rw[s2.length_eq,zAE];exact t7 (n:=n) (by omega) hip2.1 λ q hq=>(hip2.2 q hq).2
 refine⟨n,qs,?_,⟨by omega,by omega,hl2,λ p hp=>hin p (s2.mem_iff.mp hp),s3⟩,by omega⟩;have st:bB 11 [.int c,.int most]=[.sh (.int c),.sh (.int most),.no,.no,.no,.no,.no,.no,.no,.no,.no]:=rfl;have et':atD [D.int 1,D.int 2,D.int 4,D.int 2,D.int 3,D.int 6,D.int 1,D.int 3] (kd:Int)= .ok (.int t):=et;have a1:bU 2 (aR aU (aB (aC 0) (aB (cD (.int 0)) (aB (op2 cH (aC 1) (cD (.int 1))) aJ)))) [.sh (.int c),.sh (.int most),.no,.no,.no,.no,.no,.no,.no,.no,.no]= .nx [.sh (.int c),.sh (.int most),.sh (.int n),.no,.no,.no,.no,.no,.no,.no,.no]:=by simp[en]
 have a2:bU 3 (aR aU (aB (aC 0) (aB (cD (.int 1)) (aB (cD (.int 8)) aJ)))) [.sh (.int c),.sh (.int most),.sh (.int n),.no,.no,.no,.no,.no,.no,.no,.no]= .nx [.sh (.int c),.sh (.int most),.sh (.int n),.sh (.int kd),.no,.no,.no,.no,.no,.no,.no]:=by simp[ek]
 have a3:su 4 (op2 ixD (gR (aB (cD (.int 1)) (aB (cD (.int 2)) (aB (cD (.int 4)) (aB (cD (.int 2)) (aB (cD (.int 3)) (aB (cD (.int 6)) (aB (cD (.int 1)) (aB (cD (.int 3)) aJ))))))))) (aC 3)) [.sh (.int c),.sh (.int most),.sh (.int n),.sh (.int kd),.no,.no,.no,.no,.no,.no,.no]= .nx [.sh (.int c),.sh (.int most),.sh (.int n),.sh (.int kd),.nw (.int t),.no,.no,.no,.no,.no,.no]:=by simp[et']
 have a4:bU 5 (aR di (aB (aC 0) (aB (aC 2) aJ))) [.sh (.int c),.sh (.int most),.sh (.int n),.sh (.int kd),.nw (.int t),.no,.no,.no,.no,.no,.no]= .nx [.sh (.int c),.sh (.int most),.sh (.int n),.sh (.int kd),.nw (.int t),.sh (.lst (os.map .int)),.no,.no,.no,.no,.no]:=by simp[eo]
 have a5:jX 6 (gR aJ) [.sh (.int c),.sh (.int most),.sh (.int n),.sh (.int kd),.nw (.int t),.sh (.lst (os.map .int)),.no,.no,.no,.no,.no]= .nx [.sh (.int c),.sh (.int most),.sh (.int n),.sh (.int kd),.nw (.int t),.sh (.lst (os.map .int)),.ow (.lst []),.no,.no,.no,.no]:=by first|rfl|simp
 have a6:bU 7 (cD (.int 2)) [.sh (.int c),.sh (.int most),.sh (.int n),.sh (.int kd),.nw (.int t),.sh (.lst (os.map .int)),.ow (.lst []),.no,.no,.no,.no]= .nx (owE c most n kd t os [] 2 .no .no .no):=by first|rfl|simp
 have a7:kO (g8 gf (aB (aC 2) aJ)) (gnm 8) aCm (owE c most n kd t os [] 2 .no .no .no)= .nx (owE c most n kd t os ip sp s8 s9 s10):=by
  have hi:(g8 gf (aB (aC 2) aJ)) (owE c most n kd t os [] 2 .no .no .no)= .ok (bf 0 (n:Int)):=by simp[hr1]
  rw[gj,hi,bC];exact e
 have a8:opA dq (aB (cM 6) aJ) (owE c most n kd t os ip2 sp s8 s9 s10)= .ok (.lst (qs.map pD)):=by
  have hv:(aB (cM 6) aJ) (owE c most n kd t os ip2 sp s8 s9 s10)= .ok [.lst ((ip2.map (ar os)).map pD)]:=by first|rfl|simp
  rw[iU,hv,aO,s1,cF]
 have a9:retS (iI (aB (bK (aC 2)) (aB (opA eU (aB (opA dq (aB (cM 6) aJ)) aJ)) aJ))) (owE c most n kd t os ip2 sp s8 s9 s10)= .rt (owD n qs):=by
  have ha:aB (opA dq (aB (cM 6) aJ)) aJ (owE c most n kd t os ip2 sp s8 s9 s10)= .ok [.lst (qs.map pD)]:=by rw[cR,a8,aO,fj,aO]
  have hb:opA eU (aB (opA dq (aB (cM 6) aJ)) aJ) (owE c most n kd t os ip2 sp s8 s9 s10)= .ok (.tup (qs.map pD)):=by rw[iU,ha,aO,oF,cF]
  have hc:bK (aC 2) (owE c most n kd t os ip2 sp s8 s9 s10)= .ok (.int n):=by first|rfl|simp
  rw[mL,aC6,cR,hc,aO,cR,hb,aO,fj,aO,aO,aO,if_pos (by simp),bC];rfl
 simp only[dX,cB,st,cW];rw[aM,a1,aV,aM,a2,aV,aM,a3,aV,aM,a4,aV,aM,a5,aV,aM,a6,aV,aM,a7,aV,aM,e2,aV,a9]
def bL(ll:eL)(p:Int×Int):eL:=ll.set p.1.toNat (ll.getD p.1.toNat []++[.int p.2])
theorem aAl{w:Slot}:∀(ps:gV) (ll:eL) (s2 s3:Slot),(∀p∈ps,0<=p.1/\p.1<ll.length)->(∀l∈ll,l.length+ps.length<=10000)->
  ∃s2' s3',forL (nA 2 (bz (gnm 2) (bz (gnm 3) oW))) (eO 1 (aC 2) (bK (aC 3))) (ps.map pD) [w,.o2 ll,s2,s3]= .nx [w,.o2 (ps.foldl bL ll),s2',s3']
 |[],ll,s2,s3,_,_=>⟨s2,s3,rfl⟩
 |p::ps,ll,s2,s3,h,hl=>by
  obtain⟨h0,h1⟩:=h p zAT;have hk:p.1.toNat<ll.length:=by lia
  have hin:ll.getD p.1.toNat []∈ll:=by simp[hk]
  have hz:=hl _ hin;obtain⟨s2',s3',e⟩:=aAl (w:=w) ps (bL ll p) (.sh (.int p.1)) (.sh (.int p.2)) (λ q hq=>by unfold bL;rw[zBL];exact h q (zAO _ hq)) (λ l hm=>by
   unfold bL at hm;rcases zG4 hm with z|z
   .have:=hl l z
    simp at this;lia
   .subst z
    simp at hz ⊢;lia)
  refine⟨s2',s3',?_⟩;rw[zAG,gr,zBV];have ha:at2 ll (.int p.1)=some (p.1.toNat,ll.getD p.1.toNat []):=by
   have hx:ixN ll.length p.1=some p.1.toNat:=by
    unfold ixN;rw[if_pos (by lia),if_pos (by lia)]
   simp only[at2,hx,zDH];rw[zAC hk];simp[hk]
  have hb:okE (nA 2 (bz (gnm 2) (bz (gnm 3) oW)) (pD p) [w,.o2 ll,s2,s3]) (λ ρ1=>(eO 1 (aC 2) (bK (aC 3)) ρ1).tn (forL (nA 2 (bz (gnm 2) (bz (gnm 3) oW))) (eO 1 (aC 2) (bK (aC 3))) (ps.map pD)))=
    (eO 1 (aC 2) (bK (aC 3)) [w,.o2 ll,.sh (.int p.1),.sh (.int p.2)]).tn (forL (nA 2 (bz (gnm 2) (bz (gnm 3) oW))) (eO 1 (aC 2) (bK (aC 3))) (ps.map pD)):=by
   simp[pD]
  have hc:eO 1 (aC 2) (bK (aC 3)) [w,.o2 ll,.sh (.int p.1),.sh (.int p.2)]= .nx [w,.o2 (bL ll p),.sh (.int p.1),.sh (.int p.2)]:=by
   have hz2:(ll.getD p.1.toNat []).length<16777216:=by simp at hz ⊢;lia
   unfold eO;simp only[zAj,zAs];simp[ha];rw[if_pos (by simpa using hz2)];simp[bL]
  rw[hb,hc,aE1];exact e
theorem jc:∀(ps:gV) (ll:eL),(ps.foldl bL ll).length=ll.length
 |[],_=>rfl
 |p::ps,ll=>by rw[zBV,jc ps];unfold bL;rw[zBL]
def bj(ps:gV)(i:Int):List Int:=(ps.filter λ p=>p.1==i).map (·.2)
theorem qu:∀(ps:gV) (ll:eL) (i:Nat),(∀p∈ps,0<=p.1/\p.1<ll.length)->i<ll.length->(ps.foldl bL ll).getD i []=ll.getD i []++(bj ps i).map .int
 |[],ll,i,_,_=>by simp[bj]
 |p::ps,ll,i,h,hi=>by
  obtain⟨h0,h1⟩:=h p zAT;rw[zBV,qu ps (bL ll p) i (λ q hq=>by unfold bL;rw[zBL];exact h q (zAO _ hq)) (by unfold bL;rw[zBL];exact hi)];unfold bL bj;by_cases c:p.1=i
  .have hk:p.1.toNat=i:=by lia
   rw[hk,List.filter_cons_of_pos (by simpa using c)];simp[hi]
  .have hk:p.1.toNat≠i:=by lia
   rw[List.filter_cons_of_neg (by simpa using c)];simp[zBj hk]
structure aJB(n:Int)(ps:gV)(ll:eL):Prop where
 len:ll.length=n.toNat
 item:∀i:Int,0<=i->i<n->atD (ll.map .lst) i= .ok (.lst ((bj ps i).map .int))
def aCY{n:Int}{ps:gV}(h:Ow n ps):∃ll,jm [owD n ps]= .ok (.lst (ll.map .lst))/\aJB n ps ll:=by
 have hr:=dZ (j:=n) (by have:=h.n0;lia) (by have:=h.n1;lia);have oQ:(bf 0 n).length=n.toNat:=by rw[fB];lia
 have hn1:=h.n1;have hps:=h.len;have hin:∀p∈ps,0<=p.1/\p.1<(zAP n.toNat ([]:List D)).length:=λ p hp=>by
  obtain⟨a,b,_⟩:=h.pr p hp;rw[zBs];lia
 obtain⟨s2,s3,e⟩:=aAl (w:=.sh (owD n ps)) ps (zAP n.toNat []) .no .no hin (λ l hl=>by
  rw[(zHi.mp hl).2];simp;lia)
 refine⟨ps.foldl bL (zAP n.toNat []),?_,by rw[jc,zBs],λ i h0 h1=>?_⟩
 .have hz:n.toNat<16777216:=by lia
  have a1:llS 1 (g8 gf (aB (op2 ixD (aC 0) (cD (.int 0))) aJ)) [none] (gnm 0) [.sh (owD n ps),.no,.no,.no]= .nx [.sh (owD n ps),.o2 (zAP n.toNat []),.no,.no]:=by
   unfold llS;simp[shE,sW,owD,hr,oQ,hz]
  have a2:kO (lD (op2 ixD (aC 0) (cD (.int 1)))) (nA 2 (bz (gnm 2) (bz (gnm 3) oW))) (eO 1 (aC 2) (bK (aC 3))) [.sh (owD n ps),.o2 (zAP n.toNat []),.no,.no]= .nx [.sh (owD n ps),.o2 (ps.foldl bL (zAP n.toNat [])),s2,s3]:=by
   have hi:lD (op2 ixD (aC 0) (cD (.int 1))) [.sh (owD n ps),.o2 (zAP n.toNat []),.no,.no]= .ok (ps.map pD):=by simp[owD]
   rw[gj,hi,bC];exact e
  have a3:retS (uF 1) [.sh (owD n ps),.o2 (ps.foldl bL (zAP n.toNat [])),s2,s3]= .rt (.lst ((ps.foldl bL (zAP n.toNat [])).map .lst)):=by simp
  have st:bB 4 [owD n ps]=[.sh (owD n ps),.no,.no,.no]:=rfl;simp only[jm,iG,cB,st];rw[aM,a1,aV,aM,a2,aV,a3]
 .have hk:i.toNat<(zAP n.toNat ([]:List D)).length:=by rw[zBs];lia
  have hg:=qu ps (zAP n.toNat []) i.toNat hin hk;have hk2:i.toNat<(ps.foldl bL (zAP n.toNat [])).length:=by rw[jc];exact hk
  have hi:((i.toNat:Nat):Int)=i:=zBq h0;rw[hi]at hg;rw[<-hi];refine dI ?_;rw[hi,zAQ,zAC hk2]
  have:(ps.foldl bL (zAP n.toNat []))[i.toNat]=(bj ps i).map .int:=by
   have e1:(ps.foldl bL (zAP n.toNat [])).getD i.toNat []=(ps.foldl bL (zAP n.toNat []))[i.toNat]:=by simp[hk2]
   rw[<-e1,hg];have e2:(zAP n.toNat ([]:List D)).getD i.toNat []=[]:=by
    rw[zBN,zCN];split<;>rfl
   rw[e2,zBd]
  rw[this];rfl
def tU{ps:gV}{a b:Int}:b∈bj ps a↔(a,b)∈ps:=by
 unfold bj;simp only[zAl,zBX];constructor
 .rintro⟨p,⟨h1,h2⟩,rfl⟩
  have:p.1=a:=by simpa using h2
  rw[<-this];exact h1
 .intro h
  exact⟨(a,b),⟨h,by simp⟩,rfl⟩
def upI(n:Int):List Int:=(zAr n.toNat).map λ(k:Nat)=>(k:Int)
def aBf(n:Int):bf 0 n=(upI n).map .int:=by
 unfold bf upI;rw[zAk,show(n-0).toNat=n.toNat by lia];exact zCj λ k _=>by simp
def pC(n:Int):(upI n).Nodup:=by
 unfold upI;rw[zEL,zDD];exact zIZ.imp λ h e=>h (by lia)
def mC{x n:Int}:x∈upI n↔0<=x/\x<n:=by
 unfold upI;rw[zAl];constructor
 .rintro⟨k,hk,rfl⟩
  have:=zCG.mp hk
  lia
 .rintro⟨h0,h1⟩
  exact⟨x.toNat,zCG.mpr (by lia),by lia⟩
def jH(n:Int):(upI n).length=n.toNat:=by unfold upI;simp
def aGS(l:List Int):eqR true (.lst (l.map .int)) (.lst [])= .ok (.bl (!l.isEmpty)):=by
 obtain⟨h1,h2⟩:=mG l;have e:eqD (.lst (l.map .int)) (.lst [])=l.isEmpty:=by cases l<;>simp[eqD,je]
 unfold eqR;rw[if_pos (by simp[nD,aY,au,h1,h2]),e];rfl
def kE{l:List Int}(nd:l.Nodup)(rg:∀x∈l,0<=x/\x<n):l.length<=n.toNat:=by
 have:=nd.length_le_of_subset (l₂:=upI n) λ x hx=>mC.mpr (rg x hx)
 rwa [jH]at this
theorem xQ:∀(a b:List Int),je (a.map .int) (b.map .int)=decide (a=b)
 |[],[]=>rfl
 |[],y::b=>by simp[je]
 |x::a,[]=>by simp[je]
 |x::a,y::b=>by
  have:=xQ a b
  simp only[zAG,je,eqD,this,List.cons.injEq];by_cases h:x=y<;>simp[h]
theorem aFl{c:En->Rs Bool}{b:En->Ou}{I:Nat->En->Prop}(st:∀m ρ,I m ρ->c ρ= .ok false\/(c ρ= .ok true/\∃ρ' m',b ρ= .nx ρ'/\m'<m/\I m' ρ')):
  ∀(n m:Nat) (ρ:En),m<n->I m ρ->∃ρ' m',itW c b n ρ= .nx ρ'/\I m' ρ'/\c ρ'= .ok false
 |0,_,_,h,_=>absurd h (zEy _)
 |n+1,m,ρ,h,hI=>by
  rcases st m ρ hI with e|⟨e,ρ',m',e2,hm,hI'⟩
  .exact⟨ρ,m,by unfold itW;rw[e];rfl,hI,e⟩
  .obtain⟨ρ2,m2,e3,r⟩:=aFl st n m' ρ' (by lia) hI'
   refine⟨ρ2,m2,?_,r⟩;unfold itW;rw[e,bC,if_pos rfl,e2];exact e3
def zp{c:En->Rs Bool}{b:En->Ou}(I:Nat->En->Prop)(st:∀m ρ,I m ρ->c ρ= .ok false\/(c ρ= .ok true/\∃ρ' m',b ρ= .nx ρ'/\m'<m/\I m' ρ')){m:Nat}{ρ:En}(hm:m<1000000)(h:I m ρ):
  ∃ρ' m',lF c b ρ= .nx ρ'/\I m' ρ'/\c ρ'= .ok false:=aFl st fuel m ρ hm h
def aCv{p q:Int×Int}:ltP p q=true↔p.1<q.1\/p.1=q.1/\p.2<q.2:=by
 unfold ltP;have e:HT.lexLt [p.1,p.2] [q.1,q.2]=true↔p.1<q.1\/p.1=q.1/\p.2<q.2:=by
  by_cases h1:p.1=q.1
  .by_cases h2:p.2=q.2
   .simp[HT.lexLt,h1,h2]
   .simp[HT.lexLt,h1,h2]
  .simp[HT.lexLt,h1]
 exact e
def aEr{ps:gV}:uZ ps=true↔ps.Pairwise λ p q=>p.1<q.1\/p.1=q.1/\p.2<q.2:=by
 constructor
 .intro h
  have h':=yh.mp h;clear h;induction ps with
  |nil=>exact .nil
  |cons p ps ih=>
   have hs:∀(i:Nat) (p q:Int×Int),ps[i]? =some p->ps[i+1]? =some q->ltP p q=true:=λ i a b e1 e2=>h' (i+1) a b e1 e2
   have hp:=ih hs;refine zAb.mpr ⟨λ q hq=>?_,hp⟩;cases ps with
   |nil=>cases hq
   |cons r rs=>
    have h1:=aCv.mp (h' 0 p r rfl rfl);rcases zAM.mp hq with rfl|hq
    .exact h1
    .have h2:=(zAb.mp hp).1 q hq
     lia
 .intro h
  rw[yh];intro i p q e1 e2;rw[aCv];obtain⟨h1,rfl⟩:=zAI.mp e1;obtain⟨h2,rfl⟩:=zAI.mp e2;exact zBI.mp h i (i+1) h1 h2 (zBf i)
def sw(p:Int×Int):Int×Int:=(p.2,p.1)
theorem xm{w:Slot}:∀(ps:gV) (ll:eL) (s2 s3:Slot),(∀p∈ps,0<=p.2/\p.2<ll.length)->(∀l∈ll,l.length+ps.length<=10000)->
  ∃s2' s3',forL (nA 2 (bz (gnm 2) (bz (gnm 3) oW))) (eO 1 (aC 3) (bK (aC 2))) (ps.map pD) [w,.o2 ll,s2,s3]= .nx [w,.o2 ((ps.map sw).foldl bL ll),s2',s3']
 |[],ll,s2,s3,_,_=>⟨s2,s3,rfl⟩
 |p::ps,ll,s2,s3,h,hl=>by
  obtain⟨h0,h1⟩:=h p zAT;have hk:p.2.toNat<ll.length:=by lia
  have hin:ll.getD p.2.toNat []∈ll:=by simp[hk]
  have hz:=hl _ hin;obtain⟨s2',s3',e⟩:=xm (w:=w) ps (bL ll (sw p)) (.sh (.int p.1)) (.sh (.int p.2)) (λ q hq=>by unfold bL;rw[zBL];exact h q (zAO _ hq)) (λ l hm=>by
   unfold bL at hm;rcases zG4 hm with z|z
   .have:=hl l z
    simp at this;lia
   .subst z
    simp[sw]at hz ⊢;lia)
  refine⟨s2',s3',?_⟩;rw[zAG,zAG,gr,zBV];have ha:at2 ll (.int p.2)=some (p.2.toNat,ll.getD p.2.toNat []):=by
   have hx:ixN ll.length p.2=some p.2.toNat:=by
    unfold ixN;rw[if_pos (by lia),if_pos (by lia)]
   simp only[at2,hx,zDH];rw[zAC hk];simp[hk]
  have hb:okE (nA 2 (bz (gnm 2) (bz (gnm 3) oW)) (pD p) [w,.o2 ll,s2,s3]) (λ ρ1=>(eO 1 (aC 3) (bK (aC 2)) ρ1).tn (forL (nA 2 (bz (gnm 2) (bz (gnm 3) oW))) (eO 1 (aC 3) (bK (aC 2))) (ps.map pD)))=
    (eO 1 (aC 3) (bK (aC 2)) [w,.o2 ll,.sh (.int p.1),.sh (.int p.2)]).tn (forL (nA 2 (bz (gnm 2) (bz (gnm 3) oW))) (eO 1 (aC 3) (bK (aC 2))) (ps.map pD)):=by
   simp[pD]
  have hc:eO 1 (aC 3) (bK (aC 2)) [w,.o2 ll,.sh (.int p.1),.sh (.int p.2)]= .nx [w,.o2 (bL ll (sw p)),.sh (.int p.1),.sh (.int p.2)]:=by
   have hz2:(ll.getD p.2.toNat []).length<16777216:=by simp at hz ⊢;lia
   unfold eO;simp only[zAj,zAs];simp[ha];rw[if_pos (by simpa using hz2)];simp[bL,sw]
  rw[hb,hc,aE1];exact e
def sU{n:Int}{ps:gV}(h:Ow n ps):∃ll,fW [owD n ps]= .ok (.lst (ll.map .lst))/\aJB n (ps.map sw) ll:=by
 have hr:=dZ (j:=n) (by have:=h.n0;lia) (by have:=h.n1;lia);have oQ:(bf 0 n).length=n.toNat:=by rw[fB];lia
 have hn1:=h.n1;have hps:=h.len;have hin:∀p∈ps,0<=p.2/\p.2<(zAP n.toNat ([]:List D)).length:=λ p hp=>by
  obtain⟨_,_,a,b,_⟩:=h.pr p hp;rw[zBs];lia
 obtain⟨s2,s3,e⟩:=xm (w:=.sh (owD n ps)) ps (zAP n.toNat []) .no .no hin (λ l hl=>by
  rw[(zHi.mp hl).2];simp;lia)
 refine⟨(ps.map sw).foldl bL (zAP n.toNat []),?_,by rw[jc,zBs],λ i h0 h1=>?_⟩
 .have hz:n.toNat<16777216:=by lia
  have a1:llS 1 (g8 gf (aB (op2 ixD (aC 0) (cD (.int 0))) aJ)) [none] (gnm 0) [.sh (owD n ps),.no,.no,.no]= .nx [.sh (owD n ps),.o2 (zAP n.toNat []),.no,.no]:=by
   unfold llS;simp[shE,sW,owD,hr,oQ,hz]
  have a2:kO (lD (op2 ixD (aC 0) (cD (.int 1)))) (nA 2 (bz (gnm 2) (bz (gnm 3) oW))) (eO 1 (aC 3) (bK (aC 2))) [.sh (owD n ps),.o2 (zAP n.toNat []),.no,.no]= .nx [.sh (owD n ps),.o2 ((ps.map sw).foldl bL (zAP n.toNat [])),s2,s3]:=by
   have hi:lD (op2 ixD (aC 0) (cD (.int 1))) [.sh (owD n ps),.o2 (zAP n.toNat []),.no,.no]= .ok (ps.map pD):=by simp[owD]
   rw[gj,hi,bC];exact e
  have a3:retS (uF 1) [.sh (owD n ps),.o2 ((ps.map sw).foldl bL (zAP n.toNat [])),s2,s3]= .rt (.lst (((ps.map sw).foldl bL (zAP n.toNat [])).map .lst)):=by simp
  have st:bB 4 [owD n ps]=[.sh (owD n ps),.no,.no,.no]:=rfl;simp only[fW,fU,cB,st];rw[aM,a1,aV,aM,a2,aV,a3]
 .have hk:i.toNat<(zAP n.toNat ([]:List D)).length:=by rw[zBs];lia
  have hg:=qu (ps.map sw) (zAP n.toNat []) i.toNat (λ q hq=>by obtain⟨p,hp,rfl⟩:=zAl.mp hq;exact hin p hp) hk;have hk2:i.toNat<((ps.map sw).foldl bL (zAP n.toNat [])).length:=by rw[jc];exact hk
  have hi:((i.toNat:Nat):Int)=i:=zBq h0;rw[hi]at hg;rw[<-hi];refine dI ?_;rw[hi,zAQ,zAC hk2]
  have:((ps.map sw).foldl bL (zAP n.toNat []))[i.toNat]=(bj (ps.map sw) i).map .int:=by
   have e1:((ps.map sw).foldl bL (zAP n.toNat [])).getD i.toNat []=((ps.map sw).foldl bL (zAP n.toNat []))[i.toNat]:=by simp[hk2]
   rw[<-e1,hg];have e2:(zAP n.toNat ([]:List D)).getD i.toNat []=[]:=by
    rw[zBN,zCN];split<;>rfl
   rw[e2,zBd]
  rw[this];rfl
def wt(ps:gV)(od:List Int)(x:Int):Nat:=(ps.filter λ p=>p.2==x&& !decide (p.1∈od)).length
theorem uB{p x:Int}{od:List Int}(hp:p∉od):∀{ps:gV},ps.Nodup->wt ps od x=wt ps (od++[p]) x+if (p,x)∈ps then 1 else 0
 |[],_=>rfl
 |q::ps,nd=>by
  obtain⟨h1,h2⟩:=zBH.mp nd;have ih:=uB hp (x:=x) h2;unfold wt at ih ⊢;rw[zDk,zDk];by_cases e:q=(p,x)
  .subst e
   have hn:¬(p,x)∈ps:=h1;rw[if_neg hn]at ih;simp[hp,ih]
  .have hm:(p,x)∈q::ps↔(p,x)∈ps:=⟨λ h=>(zAM.mp h).resolve_left λ z=>e z.symm,zAO _⟩
   rw[show(if (p,x)∈q::ps then 1 else 0)=if (p,x)∈ps then 1 else 0 by simp only[hm]];by_cases c2:q.2=x
   .have c1:q.1≠p:=λ z=>e (zEz z c2)
    by_cases c3:q.1∈od
    .simp[c2,c3,ih]
    .simp[c2,c3,c1,ih]
     lia
   .simp[c2,ih]
structure Kn(n:Int)(ps:gV)(rem W rd od:List Int):Prop where
 lw:W.length=n.toNat
 w:∀x,0<=x->x<n->W[x.toNat]? =some ((wt ps od x:Int)+if x∈rem then 1 else 0)
 nd:(od++rd).Nodup
 rg:∀x∈od++rd,0<=x/\x<n
 z:∀x,0<=x->x<n->(x∈od++rd↔wt ps od x=0/\x∉rem)
 tp:∀l x r,od=l++x::r->∀a,(a,x)∈ps->a∈l
 ls:∀l x r,od=l++x::r->∀y,0<=y->y<n->y∉l->wt ps l y=0->x<=y
def aGv{ps:gV}{od:List Int}{x a:Int}(h:wt ps od x=0)(ha:(a,x)∈ps):a∈od:=by
 unfold wt at h;rw[zCO,zCn]at h
 have:=h _ ha
 simpa using this
def aDw{rd:List Int}{p x:Int}(h:p∈rd):x∈rd↔x=p\/x∈rd.eraseIdx (rd.idxOf p):=by
 rw[<-zD4 rfl];constructor
 .intro hx
  by_cases e:x=p
  .exact .inl e
  .exact .inr ((zHK e).mpr hx)
 .rintro(rfl|hx)
  .exact h
  .exact zHB hx
def Kn.take{n p:Int}{ps:gV}{W rd od:List Int}(K:Kn n ps [] W rd od)(hp:p∈rd)(nd:ps.Nodup)(hm:∀y∈rd,p<=y):Kn n ps (bj ps p) W (rd.eraseIdx (rd.idxOf p)) (od++[p]):=by
 have hno:p∉od:=λ h=>by
  have:=K.nd
  rw[zAy]at this;exact this.2.2 p h p hp rfl
 have aS:∀x,x∈(od++[p])++rd.eraseIdx (rd.idxOf p)↔x∈od++rd:=λ x=>by
  rw[zA9,zA9,zA9,zAN,aDw hp (x:=x)];constructor
  .rintro((h|h)|h)
   .exact .inl h
   .exact .inr (.inl h)
   .exact .inr (.inr h)
  .rintro(h|h|h)
   .exact .inl (.inl h)
   .exact .inl (.inr h)
   .exact .inr h
 refine⟨K.lw,λ x x0 x1=>?_,?_,λ x hx=>K.rg x ((aS x).mp hx),λ x x0 x1=>?_,λ l x r e a ha=>?_,λ l x r e y y0 y1 hy hw=>?_⟩
 .rw[K.w x x0 x1,uB hno nd]
  have:(x∈bj ps p)↔(p,x)∈ps:=tU
  by_cases c:(p,x)∈ps<;>simp[c,this]
 .have h1:=K.nd
  rw[zAy]at h1;obtain⟨n1,n2,n3⟩:=h1;rw[<-zD4 rfl];rw[zAy];refine⟨?_,n2.erase p,λ a ha b hb e=>?_⟩
  .rw[zAy]
   refine⟨n1,by simp,λ a ha b hb e=>?_⟩;rw[zAN.mp hb]at e;subst e;exact hno ha
  .subst e
   rcases zA9.mp ha with h|h
   .exact n3 a h a (zHB hb) rfl
   .rw[zAN.mp h]at hb
    exact(n2.mem_erase_iff.mp hb).1 rfl
 .rw[aS,K.z x x0 x1,uB hno nd]
  have:(x∈bj ps p)↔(p,x)∈ps:=tU
  by_cases c:(p,x)∈ps<;>simp[c,this]
 .rcases zGz r with rfl|⟨r',y,rfl⟩
  .obtain⟨e1,e2⟩:=zEb e rfl
   cases e2;subst e1;obtain⟨p0,p1⟩:=K.rg p (zAi _ hp);exact aGv ((K.z p p0 p1).mp (zAi _ hp)).1 ha
  .rw[zGy,<-zEc,<-zAd]at e
   obtain⟨e1,e2⟩:=zEb e rfl;exact K.tp l x r' e1 a ha
 .rcases zGz r with rfl|⟨r',z,rfl⟩
  .obtain⟨e1,e2⟩:=zEb e rfl
   cases e2;subst e1;rcases zA9.mp ((K.z y y0 y1).mpr ⟨hw,by simp⟩)with h|h
   .exact absurd h hy
   .exact hm y h
  .rw[zGy,<-zEc,<-zAd]at e
   obtain⟨e1,e2⟩:=zEb e rfl;exact K.ls l x r' e1 y y0 y1 hy hw
def Kn.less{n o:Int}{ps:gV}{rem W rd od:List Int}(K:Kn n ps (o::rem) W rd od)(o0:0<=o)(o1:o<n)(hr:o∉rem):
  Kn n ps rem (W.set o.toNat (wt ps od o:Int)) (if wt ps od o=0 then rd++[o]else rd) od:=by
 have hon:o∉od++rd:=λ h=>((K.z o o0 o1).mp h).2 zAT
 have aS:∀x,x∈od++(if wt ps od o=0 then rd++[o]else rd)↔x∈od++rd\/(x=o/\wt ps od o=0):=λ x=>by
  by_cases c:wt ps od o=0
  .rw[if_pos c,<-zAd,zA9,zAN]
   exact⟨λ h=>h.imp_right λ z=>⟨z,c⟩,λ h=>h.imp_right λ z=>z.1⟩
  .rw[if_neg c]
   exact⟨.inl,λ h=>h.elim id λ z=>absurd z.2 c⟩
 refine⟨by rw[zBL];exact K.lw,λ x x0 x1=>?_,?_,λ x hx=>?_,λ x x0 x1=>?_,K.tp,K.ls⟩
 .by_cases e:x=o
  .subst e
   rw[zBm (by rw[K.lw];lia),if_neg hr];simp
  .rw[zBj (by lia),K.w x x0 x1]
   simp[e]
 .by_cases c:wt ps od o=0
  .rw[if_pos c,<-zAd,zAy]
   refine⟨K.nd,by simp,λ a ha b hb e=>?_⟩;rw[zAN.mp hb]at e;subst e;exact hon ha
  .rw[if_neg c];exact K.nd
 .rcases(aS x).mp hx with h|h
  .exact K.rg x h
  .rw[h.1];exact⟨o0,o1⟩
 .rw[aS,K.z x x0 x1]
  by_cases e:x=o
  .subst e
   simp[hr]
  .simp[e]
abbrev oE(n:Int)(ps:gV)(ll:eL)(W rd od:List Int)(s5 s6:Slot):En:=
 [.sh (owD n ps),.sh (.lst (ll.map .lst)),.ow (.lst (W.map .int)),.ow (.lst (rd.map .int)),.ow (.lst (od.map .int)),s5,s6]
def aM3{W:List Int}{x a:Int}(x0:0<=x)(h:W[x.toNat]? =some a):atD (W.map D.int) x= .ok (.int a):=by
 have hi:((x.toNat:Nat):Int)=x:=zBq x0
 have:=dI (l:=W.map D.int) (k:=x.toNat) (d:=.int a) (by rw[zAQ,h];rfl)
 rwa [hi]at this
def uv{ws:List Int}(h:ws≠[]):∃m,ws.min?=some m:=by
 cases c:ws.min? with
 |none=>rw[List.min?_eq_none_iff]at c;exact absurd c h
 |some m=>exact⟨m,rfl⟩
section
variable{n:Int}{ps:gV}{ll:eL}{W rd od rem:List Int}{s5 s6:Slot}
def aKq{o:Int}(K:Kn n ps (o::rem) W rd od)(hn:n<=60)(o0:0<=o)(o1:o<n)(hr:o∉rem):
  odI (oE n ps ll W rd od s5 (.sh (.int o)))= .nx (oE n ps ll (W.set o.toNat (wt ps od o:Int)) (if wt ps od o=0 then rd++[o]else rd) od s5 (.sh (.int o))):=by
 have hw:=K.w o o0 o1;rw[if_pos zAT]at hw;have hlt:o.toNat<W.length:=by rw[K.lw];lia
 have hx:aEK (W.map D.int) (.int o)=some (o.toNat,(wt ps od o:Int)+1):=by
  have hix:ixN (W.map D.int).length o=some o.toNat:=by
   unfold ixN;rw[zAE,if_pos o0,if_pos (by lia)]
  unfold aEK;dsimp only;rw[hix,zDH,zAQ,hw];rfl
 have a1:aGc (λ i j=>i-j) 2 (aC 6) (cD (.int 1)) (oE n ps ll W rd od s5 (.sh (.int o)))= .nx (oE n ps ll (W.set o.toNat (wt ps od o:Int)) rd od s5 (.sh (.int o))):=by
  have e1:aC 6 (oE n ps ll W rd od s5 (.sh (.int o)))= .ok (.int o):=rfl;have e2:cD (.int 1) (oE n ps ll W rd od s5 (.sh (.int o)))= .ok (.int 1):=rfl;unfold aGc;dsimp only[zAj,zAs];rw[e1,bC,hx];dsimp only;rw[e2,bC];unfold aM2;dsimp only;rw[Int.add_sub_cancel,<-List.map_set];rfl
 have hg:atD ((W.set o.toNat (wt ps od o:Int)).map D.int) o= .ok (.int (wt ps od o:Int)):=aM3 o0 (by rw[zBm hlt]);have hc:tsb (op2 (eqR false) (op2 ixD (cM 2) (aC 6)) (cD (.int 0))) (oE n ps ll (W.set o.toNat (wt ps od o:Int)) rd od s5 (.sh (.int o)))= .ok ((wt ps od o:Int)==0):=by
  have e1:op2 ixD (cM 2) (aC 6) (oE n ps ll (W.set o.toNat (wt ps od o:Int)) rd od s5 (.sh (.int o)))= .ok (.int (wt ps od o:Int)):=by
   rw[fC]
   show((Rs.ok (D.lst ((W.set o.toNat (wt ps od o:Int)).map D.int))).bd λ x=>(Rs.ok (D.int o)).bd λ y=>okD (ixD x y))=_
   rw[aO,aO];show okD (atD ((W.set o.toNat (wt ps od o:Int)).map D.int) o)=_;rw[hg];rfl
  rw[lJ,fC,e1,aO];rfl
 unfold odI;rw[aM,a1,aV,gU,hc,bC];by_cases c:wt ps od o=0
 .have hl:=kE K.nd K.rg
  rw[zAV]at hl;rw[if_pos (by rw[c];rfl),if_pos c];have g:bK (aC 6) (oE n ps ll (W.set o.toNat (wt ps od o:Int)) rd od s5 (.sh (.int o)))= .ok (.int o):=rfl;unfold kY;dsimp only[zAj,zAs];rw[g,bC,if_pos (by rw[zAE,szl];lia)];simp
 .have:((wt ps od o:Int)==0)=false:=by simpa using c
  rw[this,if_neg c];rfl
theorem aF1(hn:n<=60):∀(rem:List Int) {W rd:List Int} {s6:Slot},Kn n ps rem W rd od->rem.Nodup->(∀x∈rem,0<=x/\x<n)->∃W' rd' s6',forL (gnm 6) odI (rem.map D.int) (oE n ps ll W rd od s5 s6)= .nx (oE n ps ll W' rd' od s5 s6')/\Kn n ps [] W' rd' od
 |[],W,rd,s6,K,_,_=>⟨W,rd,s6,rfl,K⟩
 |o::rem,W,rd,s6,K,nd,hx=>by
  obtain⟨h1,h2⟩:=zBH.mp nd;obtain⟨o0,o1⟩:=hx o zAT;obtain⟨W',rd',s6',e,K'⟩:=aF1 hn rem (s6:=.sh (.int o)) (K.less o0 o1 h1) h2 λ x h=>hx x (zAO _ h)
  refine⟨W',rd',s6',?_,K'⟩;rw[zAG,gr];show okE (gnm 6 (.int o) (oE n ps ll W rd od s5 s6)) _=_;rw[zQ,uo]
  show(odI (oE n ps ll W rd od s5 (.sh (.int o)))).tn _=_
  rw[aKq K hn o0 o1 h1,aE1];exact e
def aDk(nd:ps.Nodup)(p:Int):(bj ps p).Nodup:=by
 unfold bj;have hm:∀q∈ps.filter λ q=>q.1==p,q.1=p:=λ q hq=>by simpa using(zBX.mp hq).2
 rw[zEL,zDD];refine zJQ (λ{a b} ha hb hab e=>?_) (nd.filter λ q=>q.1==p);exact hab (zEz ((hm a ha).trans (hm b hb).symm) e)
def aKr(O:Ow n ps)(nd:ps.Nodup)(N:aJB n ps ll)(K:Kn n ps [] W rd od)(hr:rd≠[]):∃W' rd' p s5' s6',odB (oE n ps ll W rd od s5 s6)= .nx (oE n ps ll W' rd' (od++[p]) s5' s6')/\Kn n ps [] W' rd' (od++[p]):=by
 obtain⟨p,dL⟩:=uv hr;have hp:p∈rd:=zJB dL;obtain⟨p0,p1⟩:=K.rg p (zAi _ hp);have hl:=kE K.nd K.rg;rw[zAV]at hl;have n1:=O.n1;have a1:bU 5 (opA (j7 zCm) (aB (cM 3) aJ)) (oE n ps ll W rd od s5 s6)= .nx (oE n ps ll W rd od (.sh (.int p)) s6):=by
  have:j7 zCm [.lst (rd.map D.int)]= .ok (.int p):=by
   unfold j7;dsimp only;rw[b8];dsimp only;rw[dL]
  rw[yU,iU]
  show((((Rs.ok [D.lst (rd.map D.int)]).bd λ x=>okD (j7 zCm x)).bo λ d=>_))=_
  rw[aO,this];rfl
 have a2:aAQ 3 (bK (aC 5)) (oE n ps ll W rd od (.sh (.int p)) s6)= .nx (oE n ps ll W (rd.eraseIdx (rd.idxOf p)) od (.sh (.int p)) s6):=by
  have g:bK (aC 5) (oE n ps ll W rd od (.sh (.int p)) s6)= .ok (.int p):=rfl;unfold aAQ;dsimp only[zAj,zAs];rw[g,bC];unfold aH8;rw[b8];dsimp only;rw[if_pos ⟨hp,by rw[szl];lia⟩];rfl
 have a3:kY 4 (bK (aC 5)) (oE n ps ll W (rd.eraseIdx (rd.idxOf p)) od (.sh (.int p)) s6)= .nx (oE n ps ll W (rd.eraseIdx (rd.idxOf p)) (od++[p]) (.sh (.int p)) s6):=by
  have g:bK (aC 5) (oE n ps ll W (rd.eraseIdx (rd.idxOf p)) od (.sh (.int p)) s6)= .ok (.int p):=rfl;unfold kY;dsimp only[zAj,zAs];rw[g,bC,if_pos (by rw[zAE,szl];lia)];simp
 obtain⟨W',rd',s6',e,K'⟩:=aF1 (ll:=ll) (s5:=.sh (.int p)) (s6:=s6) n1 (bj ps p) (K.take hp nd (zC2.mp dL).2) (aDk nd p) λ x hx=>by
  have:=O.pr _ (tU.mp hx)
  exact⟨this.2.2.1,this.2.2.2.1⟩
 refine⟨W',rd',p,.sh (.int p),s6',?_,K'⟩;have hi:lD (op2 ixD (aC 1) (aC 5)) (oE n ps ll W (rd.eraseIdx (rd.idxOf p)) (od++[p]) (.sh (.int p)) s6)= .ok ((bj ps p).map .int):=by
  have e1:op2 ixD (aC 1) (aC 5) (oE n ps ll W (rd.eraseIdx (rd.idxOf p)) (od++[p]) (.sh (.int p)) s6)= .ok (.lst ((bj ps p).map .int)):=by
   rw[fC]
   show((Rs.ok (D.lst (ll.map .lst))).bd λ x=>(Rs.ok (D.int p)).bd λ y=>okD (ixD x y))=_
   rw[aO,aO];show okD (atD (ll.map .lst) p)=_;rw[N.item p p0 p1];rfl
  rw[aIV,e1];rfl
 unfold odB;rw[aM,a1,aV,aM,a2,aV,aM,a3,aV,gj,hi,bC,e]
end
def aJk(ps:gV)(x:Int):(bj (ps.map sw) x).length=wt ps [] x:=by
 unfold bj wt;rw[zAE];induction ps with
 |nil=>rfl
 |cons p ps ih=>
  rw[zAG,zDk,zDk];by_cases c:p.2=x<;>simp[sw,c]<;>simpa[sw]using ih
structure Od(n:Int)(ps:gV)(od:List Int):Prop where
 nd:od.Nodup
 rg:∀x∈od,0<=x/\x<n
 tp:∀l x r,od=l++x::r->∀a,(a,x)∈ps->a∈l
 ls:∀l x r,od=l++x::r->∀y,0<=y->y<n->y∉l->wt ps l y=0->x<=y
 en:∀x,0<=x->x<n->x∉od->wt ps od x≠0
def aA3{n:Nat}{ps:gV}(O:Ow n ps):∃od:List Int,dJ [owD n ps]= .ok (.lst (od.map .int))/\Od n ps od:=by
 have n1:=O.n1;have nd:ps.Nodup:=by
  have:=aEr.mp O.ris
  rw[zEL];exact this.imp λ{a b} h e=>by subst e;lia
 obtain⟨ll,e1,N⟩:=aCY O;obtain⟨lc,e2,Nc⟩:=sU O;obtain⟨W0,hW0⟩:∃W0:List Int,W0=(upI n).map λ x=>(wt ps [] x:Int):=⟨_,rfl⟩
 obtain⟨r0,hr0⟩:∃r0:List Int,r0=(upI n).filter λ x=>wt ps [] x==0:=⟨_,rfl⟩
 have hup:∀x:Int,0<=x->x<n->(upI (n:Int))[x.toNat]? =some x:=λ x x0 x1=>by
  unfold upI;rw[zAQ,zFO (by lia)];simp;lia
 have hWx:∀x:Int,0<=x->x<n->W0[x.toNat]? =some (wt ps [] x:Int):=λ x x0 x1=>by
  rw[hW0,zAQ,hup x x0 x1];rfl
 have K0:Kn n ps [] W0 r0 []:=by
  refine⟨by rw[hW0,zAE,jH],λ x x0 x1=>by rw[hWx x x0 x1];simp,?_,λ x hx=>?_,λ x x0 x1=>?_,λ l x r e=>by simp at e,λ l x r e=>by simp at e⟩
  .rw[zBd,hr0];exact(pC _).filter _
  .rw[zBd,hr0]at hx
   exact mC.mp (zBX.mp hx).1
  .rw[zBd,hr0,zBX,mC]
   simp[x0,x1]
 have hc:∀{W rd od:List Int} {s5 s6:Slot},tst (cM 3) (oE n ps ll W rd od s5 s6)= .ok (!rd.isEmpty):=λ{W rd od s5 s6}=>by
  rw[aE0]
  show(Rs.ok (D.lst (rd.map .int))).bd aHK=_
  rw[aO];cases rd<;>rfl
 obtain⟨ρ',m',ew,⟨W,rd,od,s5,s6,rfl,K,_⟩,ec⟩:=zp (c:=tst (cM 3)) (b:=odB) (λ m ρ=>∃W rd od s5 s6,ρ=oE n ps ll W rd od s5 s6/\Kn n ps [] W rd od/\m=61-od.length) (by
  rintro m ρ ⟨W,rd,od,s5,s6,rfl,K,rfl⟩;rw[hc];cases rd with
  |nil=>exact .inl rfl
  |cons r rd=>
   obtain⟨W',rd',p,s5',s6',e,K'⟩:=aKr (s5:=s5) (s6:=s6) O nd N K (by simp);refine .inr ⟨rfl,_,61-(od++[p]).length,e,?_,W',rd',_,s5',s6',rfl,K',rfl⟩
   have:=kE K'.nd K'.rg
   rw[zAV]at this;rw[zAV,zA6,zCH]at this ⊢;lia) (m:=61-([]:List Int).length) (by simp) ⟨W0,r0,[],.no,.no,rfl,K0,rfl⟩
 have hrd:rd=[]:=by
  rw[hc]at ec;cases rd with
  |nil=>rfl
  |cons _ _=>cases ec
 subst hrd;have knd:=K.nd;have krg:=K.rg;rw[zAx]at knd krg;refine⟨od,?_,knd,krg,K.tp,K.ls,λ x x0 x1 hx hw=>?_⟩
 rotate_left
 .have:=(K.z x x0 x1).mpr ⟨hw,by simp⟩
  rw[zAx]at this;exact hx this
 have st:bB 7 [owD n ps]=[.sh (owD n ps),.no,.no,.no,.no,.no,.no]:=rfl;have b1:bU 1 (aR jm (aB (aC 0) aJ)) [.sh (owD n ps),.no,.no,.no,.no,.no,.no]= .nx [.sh (owD n ps),.sh (.lst (ll.map .lst)),.no,.no,.no,.no,.no]:=by simp[e1]
 have b2:jX 2 aKt [.sh (owD n ps),.sh (.lst (ll.map .lst)),.no,.no,.no,.no,.no]= .nx [.sh (owD n ps),.sh (.lst (ll.map .lst)),.ow (.lst (W0.map .int)),.no,.no,.no,.no]:=by
  have hlc:lc=(upI (n:Int)).map λ x=>(bj (ps.map sw) x).map D.int:=by
   refine zF9 λ k=>?_
   by_cases hk:k<n
   .have h:=Nc.item k (by lia) (by lia)
    have hk2:k<lc.length:=by rw[Nc.len];lia
    have h2:=dI (l:=lc.map D.lst) (k:=k) (d:=.lst lc[k]) (by rw[zAQ,zAC hk2];rfl);rw[h2]at h;replace h:=D.lst.inj (Rs.ok.inj h);rw[zAC hk2,zAQ,h]
    have:=hup k (by lia) (by lia)
    rw[zFg]at this;rw[this,zCr]
   .rw[zEp (by rw[Nc.len];lia),zEp (by rw[zAE,jH];lia)]
  have h:aKt [.sh (owD n ps),.sh (.lst (ll.map .lst)),.no,.no,.no,.no,.no]= .ok (.lst (W0.map .int)):=by
   refine oV (ds:=(upI (n:Int)).map λ x=>.lst ((bj (ps.map sw) x).map D.int)) ?_ (by rw[zAE,jH];lia) ?_
   .have:(lc.map D.lst)=(upI (n:Int)).map λ x=>.lst ((bj (ps.map sw) x).map D.int):=by rw[hlc,zAk];rfl
    rw[<-this];simp[shE,sW,e2]
   .rw[hW0,zAk]
    refine aCF (fg:=gnm 0) (fe:=opA iW (aB (aC 0) aJ)) (f:=λ x=>.lst ((bj (ps.map sw) x).map D.int)) (g:=D.int∘λ x=>(wt ps [] x:Int)) (upI n) λ x _=>⟨[.sh (.lst ((bj (ps.map sw) x).map D.int))],rfl,?_⟩
    have:=aJk ps x
    simp[this]
  rw[yV,h,bC];rfl
 have b3:jX 3 aKs [.sh (owD n ps),.sh (.lst (ll.map .lst)),.ow (.lst (W0.map .int)),.no,.no,.no,.no]= .nx [.sh (owD n ps),.sh (.lst (ll.map .lst)),.ow (.lst (W0.map .int)),.ow (.lst (r0.map .int)),.no,.no,.no]:=by
  have hr:=dZ (j:=(n:Int)) (by lia) (by lia);have h:aKs [.sh (owD n ps),.sh (.lst (ll.map .lst)),.ow (.lst (W0.map .int)),.no,.no,.no,.no]= .ok (.lst (r0.map .int)):=by
   refine oV (ds:=(upI (n:Int)).map .int) (by rw[<-aBf];simp[shE,sW,owD,hr]) (by rw[zAE,jH];lia) ?_;rw[hr0];refine kI (fg:=gnm 0) (f:=D.int) (g:=D.int) (t:=λ x=>wt ps [] x==0) (upI n) λ x hx=>⟨[.sh (.int x),.sh (.lst (W0.map .int))],rfl,?_,rfl⟩
   obtain⟨x0,x1⟩:=mC.mp hx;have h1:=aM3 x0 (hWx x x0 x1);have e1:op2 ixD (aC 1) (aC 0) [.sh (.int x),.sh (.lst (W0.map .int))]= .ok (.int (wt ps [] x:Int)):=by
    rw[fC]
    show((Rs.ok (D.lst (W0.map .int))).bd λ y=>(Rs.ok (D.int x)).bd λ z=>okD (ixD y z))=_
    rw[aO,aO];show okD (atD (W0.map .int) x)=_;rw[h1];rfl
   rw[lJ,fC,e1,aO];show Rs.ok ((wt ps [] x:Int)==0)=_;have hz:((wt ps [] x:Int)==0)=(wt ps [] x==0):=by
    generalize wt ps [] x=k;rw[zCu,beq_iff_eq,beq_iff_eq];lia
   rw[hz]
  rw[yV,h,bC];rfl
 have b4:jX 4 (gR aJ) [.sh (owD n ps),.sh (.lst (ll.map .lst)),.ow (.lst (W0.map .int)),.ow (.lst (r0.map .int)),.no,.no,.no]= .nx (oE n ps ll W0 r0 [] .no .no):=by simp
 simp only[dJ,gw,cB,st];rw[aM,b1,aV,aM,b2,aV,aM,b3,aV,aM,b4,aV,aM,ew,aV];simp
def aIR{n:Int}{ps:gV}(O:Ow n ps){l left:List Int}(hl:∀x,x∈left↔(0<=x/\x<n)/\x∉l)(x:Int):((ps.filter λ p=>p.2==x&&decide (p.1∈left)).map (·.1)).isEmpty=(wt ps l x==0):=by
 have e:(ps.filter λ p=>p.2==x&&decide (p.1∈left))=ps.filter λ p=>p.2==x&& !decide (p.1∈l):=by
  refine zHy λ p hp=>?_
  have h:=O.pr p hp;congr 1;rw[zCu,decide_eq_true_eq,zDB,decide_eq_false_iff_not,hl];exact⟨λ z=>z.2,λ z=>⟨⟨h.1,h.2.1⟩,z⟩⟩
 unfold wt;rw[e];generalize (ps.filter λ p=>p.2==x&& !decide (p.1∈l))=m;cases m<;>rfl
def aj(n:Int)(l:List Int):List Int:=(upI n).filter λ x=>!decide (x∈l)
def dO{n:Int}{l:List Int}{x:Int}:x∈aj n l↔(0<=x/\x<n)/\x∉l:=by
 unfold aj;rw[zBX,mC];simp
def kj(n:Int)(ps:gV)(l:List Int):List Int:=(aj n l).filter λ x=>wt ps l x==0
def aJn(n:Int):(upI n).Pairwise (·< ·):=by
 unfold upI;rw[zDD];exact List.pairwise_lt_range.imp λ{a b} h=>by lia
def aGJ(n:Int)(ps:gV)(l:List Int):(kj n ps l).Pairwise (·< ·):=((aJn n).filter _).filter _
def Od.next{n:Int}{ps:gV}{od l r:List Int}{x:Int}(D:Od n ps od)(e:od=l++x::r):∃t,kj n ps l=x::t:=by
 have hx:=D.rg x (by rw[e];simp);have hnd:=D.nd;rw[e,zAy]at hnd;have hxl:x∉l:=λ h=>hnd.2.2 x h x zAT rfl
 have hw:wt ps l x=0:=by
  unfold wt;rw[zCO,zCn];intro p hp;by_cases h:p.2=x
  .have:=D.tp l x r e p.1 (by rw[<-h];exact hp)
   simp[this]
  .simp[h]
 have hm:x∈kj n ps l:=zBX.mpr ⟨dO.mpr ⟨hx,hxl⟩,by simp[hw]⟩;have hle:∀y∈kj n ps l,x<=y:=λ y hy=>by
  obtain⟨h1,h2⟩:=zBX.mp hy;obtain⟨h3,h4⟩:=dO.mp h1;exact D.ls l x r e y h3.1 h3.2 h4 (by simpa using h2)
 match hf:kj n ps l with
 |[]=>rw[hf]at hm;cases hm
 |y::t=>
  have hs:=aGJ n ps l;rw[hf]at hs hm hle;rcases zAM.mp hm with rfl|h
  .exact⟨t,rfl⟩
  .have h1:=(zAb.mp hs).1 x h
   have h2:=hle y zAT;lia
def Od.stop{n:Int}{ps:gV}{od:List Int}(D:Od n ps od):kj n ps od=[]:=by
 unfold kj;rw[zCn];intro x hx;obtain⟨h1,h2⟩:=dO.mp hx
 have:=D.en x h1.1 h1.2 h2
 simpa using this
def aDj{n:Int}{l:List Int}{x:Int}:(aj n l).erase x=aj n (l++[x]):=by
 unfold aj;rw[List.Nodup.erase_eq_filter ((pC n).filter _) x,List.filter_filter];refine zHy λ y _=>?_
 rw[zCu];simp;exact And.comm
def pU{n:Nat}{ps:gV}{od:List Int}(D:Od n ps od):(aj n od).isEmpty=decide (od.length=n):=by
 have hle:=kE D.nd D.rg;rw[zCu,zIW,decide_eq_true_eq];constructor
 .intro h
  have:=sub_len (pC n) λ x hx=>by
   refine zEB λ z=>?_
   have:x∈aj n od:=dO.mpr ⟨mC.mp hx,z⟩
   rw[h]at this;cases this
  rw[jH]at this;lia
 .intro h
  unfold aj;rw[zCn];intro x hx;simp only[zDB,decide_eq_false_iff_not,Classical.not_not];refine zEB λ z=>?_
  have:=sub_len (l:=x::od) (l':=upI n) (zBH.mpr ⟨z,D.nd⟩) λ y hy=>by
   rcases zAM.mp hy with rfl|hy
   .exact hx
   .exact mC.mpr (D.rg y hy)
  rw[jH,zA6]at this;lia
def aMS(hf:f ρ= .ok (.int n))(h0:0<=n)(h1:n<=60):lrD f ρ= .ok (.lst (bf 0 n)):=by
 unfold lrD;rw[hf,aO];unfold lrR;simp;lia
abbrev dE(n:Int)(ps:gV)(left od:List Int)(s3:Slot):En:=[.sh (owD n ps),.ow (.lst (left.map .int)),.ow (.lst (od.map .int)),s3]
def aBD(l:List Int):eqR false (.lst (l.map .int)) (.lst [])= .ok (.bl l.isEmpty):=by
 obtain⟨h1,h2⟩:=mG l;unfold eqR;rw[if_pos (by simp[aY,nD,h1,h2,dU,au])];cases l<;>simp[eqD,je]
def aLZ{n:Int}{ps:gV}(O:Ow n ps){x:Int}{left:List Int}:duI [.sh (.int x),.sh (owD n ps),.sh (.lst (left.map .int))]= .ok (.lst (((ps.filter λ p=>p.2==x&&decide (p.1∈left)).map (·.1)).map .int)):=by
 have hl:=O.len;refine oV (ds:=ps.map pD) (by simp[shE,sW,owD]) (by rw[zAE];lia) ?_;rw[zAk];refine kI (f:=pD) (g:=D.int∘λ p:Int×Int=>p.1) (t:=λ p=>p.2==x&&decide (p.1∈left)) ps λ p _=>⟨[.sh (.int p.1),.sh (.int p.2),.sh (.int x),.sh (.lst (left.map .int))],by simp[pD,stE,shE,sW],?_,by simp⟩
 have h2:=pW false p.1 left;rw[m7];have a1:tsb (op2 (eqR false) (aC 1) (aC 2)) [.sh (.int p.1),.sh (.int p.2),.sh (.int x),.sh (.lst (left.map .int))]= .ok (p.2==x):=by simp
 have a2:tsb (op2 (inR false) (aC 0) (aC 3)) [.sh (.int p.1),.sh (.int p.2),.sh (.int x),.sh (.lst (left.map .int))]= .ok (decide (p.1∈left)):=by simp[h2]
 rw[a1,aO,a2];cases p.2==x<;>rfl
def aGV{n:Int}{ps:gV}(O:Ow n ps){l od:List Int}{s3:Slot}:duX (dE n ps (aj n l) od s3)= .ok (.lst ((kj n ps l).map .int)):=by
 have hn:=O.n1;have hll:(aj n l).length<=60:=by
  have:=zEq (λ x=>!decide (x∈l)) (upI n)
  rw[jH]at this;unfold aj;lia
 refine oV (ds:=(aj n l).map .int) (by simp[shE,sW]) (by rw[zAE];lia) ?_;refine kI (f:=D.int) (g:=D.int) (t:=λ x=>wt ps l x==0) (aj n l) λ x _=>⟨[.sh (.int x),.sh (owD n ps),.sh (.lst ((aj n l).map .int))],by simp[stE,shE,sW],?_,by simp⟩
 rw[lJ,fC,aLZ O,aO,aIO,fj,aO,if_pos (by simp),aO,aBD,cF,aO,aL6,aIR O (λ _=>dO)]
def aL1{n:Int}{ps:gV}(O:Ow n ps){l t:List Int}{x:Int}{s3:Slot}(hf:kj n ps l=x::t)(hl:l.length<=60):duB (dE n ps (aj n l) l s3)= .nx (dE n ps (aj n (l++[x])) (l++[x]) (.nw (.lst ((x::t).map .int)))):=by
 have e:=aGV O (l:=l) (od:=l) (s3:=s3);rw[hf]at e;have hx:x∈aj n l:=by
  have:x∈kj n ps l:=by rw[hf];exact zAT
  exact(zBX.mp this).1
 have hll:(aj n l).length<=60:=by
  have:=zEq (λ x=>!decide (x∈l)) (upI n)
  rw[jH]at this
  have:=O.n1
  unfold aj;lia
 have c3:su 3 duX (dE n ps (aj n l) l s3)= .nx (dE n ps (aj n l) l (.nw (.lst ((x::t).map .int)))):=by rw[yW,e,bC];rfl
 have c4:ifS (tsb (op2 (eqR false) (dM 3) (gR aJ))) (retS (cD .non)) Ou.nx (dE n ps (aj n l) l (.nw (.lst ((x::t).map .int))))= .nx (dE n ps (aj n l) l (.nw (.lst ((x::t).map .int)))):=by
  have:=aBD (x::t)
  simp only[zAG]at this;simp[this]
 have hv:op2 ixD (dM 3) (cD (.int 0)) (dE n ps (aj n l) l (.nw (.lst ((x::t).map .int))))= .ok (.int x):=by simp
 have c5:kY 2 (op2 ixD (dM 3) (cD (.int 0))) (dE n ps (aj n l) l (.nw (.lst ((x::t).map .int))))= .nx (dE n ps (aj n l) (l++[x]) (.nw (.lst ((x::t).map .int)))):=by
  unfold kY;dsimp only[zAj,zAs];rw[hv,bC,if_pos (by rw[zAE,szl];lia)];simp
 have hv2:op2 ixD (dM 3) (cD (.int 0)) (dE n ps (aj n l) (l++[x]) (.nw (.lst ((x::t).map .int))))= .ok (.int x):=by simp
 have c6:aAQ 1 (op2 ixD (dM 3) (cD (.int 0))) (dE n ps (aj n l) (l++[x]) (.nw (.lst ((x::t).map .int))))= .nx (dE n ps (aj n (l++[x])) (l++[x]) (.nw (.lst ((x::t).map .int)))):=by
  unfold aAQ;dsimp only[zAj,zAs];rw[hv2,bC];unfold aH8;rw[b8];dsimp only;rw[if_pos ⟨hx,by rw[szl];lia⟩,<-zD4 rfl,aDj];rfl
 rw[duB,aM,c3,aV,aM,c4,aV,aM,c5,aV,c6]
def aL0{n:Int}{ps:gV}(O:Ow n ps){l:List Int}{s3:Slot}(hf:kj n ps l=[]):duB (dE n ps (aj n l) l s3)= .rt .non:=by
 have e:=aGV O (l:=l) (od:=l) (s3:=s3);rw[hf]at e;have c3:su 3 duX (dE n ps (aj n l) l s3)= .nx (dE n ps (aj n l) l (.nw (.lst []))):=by rw[yW,e,bC];rfl
 have:eqR false (.lst []) (.lst [])= .ok (.bl true):=rfl
 rw[duB,aM,c3,aV];simp[this]
def aGW{n:Int}{ps:gV}{left od:List Int}{s3:Slot}:duT (dE n ps left od s3)= .ok (!left.isEmpty):=by
 have:=aGS left
 unfold duT;simp[this]
theorem aDM{n:Nat}{ps:gV}{od:List Int}(O:Ow n ps)(D:Od n ps od):∀(f:Nat) (l r:List Int) (s3:Slot),od=l++r->r.length<f->∃s3',itW duT duB f (dE n ps (aj n l) l s3)=if od.length=n then .nx (dE n ps [] od s3')else .rt .non
 |0,l,r,s3,e,hf=>by lia
 |f+1,l,[],s3,e,hf=>by
  rw[zAx]at e;subst e;refine⟨s3,?_⟩;unfold itW;rw[aGW,bC,pU D];by_cases h:od.length=n
  .rw[decide_eq_true h,zCg,if_neg zAS,if_pos h]
   have:aj n od=[]:=by
    have:=pU D
    rw[decide_eq_true h,zIW]at this;exact this
   rw[this]
  .rw[decide_eq_false h,zES,if_pos rfl,if_neg h,aL0 O D.stop]
 |f+1,l,x::r,s3,e,hf=>by
  obtain⟨t,ht⟩:=D.next e;have hle:=kE D.nd D.rg;have hn1:=O.n1;have hl:l.length<=60:=by
   rw[e,zAV]at hle;lia
  obtain⟨s3',ih⟩:=aDM O D f (l++[x]) r (.nw (.lst ((x::t).map .int))) (by rw[e,zAd];rfl) (by rw[zA6]at hf;lia);refine⟨s3',?_⟩;have hne:(aj n l).isEmpty=false:=by
   have:x∈kj n ps l:=by rw[ht];exact zAT
   have:=(zBX.mp this).1
   cases hq:aj n l with
   |nil=>rw[hq]at this;cases this
   |cons _ _=>rfl
  unfold itW;rw[aGW,bC,hne,zES,if_pos rfl,aL1 O ht hl];exact ih
def aCG{n:Nat}{ps:gV}{od:List Int}(O:Ow n ps)(D:Od n ps od):m8 [owD n ps]=if od.length=n then .ok (tupI od)else .ok .non:=by
 have hn1:=O.n1;have hle:=kE D.nd D.rg;have st:bB 4 [owD n ps]=[.sh (owD n ps),.no,.no,.no]:=rfl;obtain⟨s3,lp⟩:=aDM O D fuel [] od .no rfl (by unfold fuel;lia);have hl0:aj n []=upI n:=by unfold aj;rw[zH2];simp
 rw[hl0]at lp;have c1:jX 1 (lrD (op2 ixD (aC 0) (cD (.int 0)))) [.sh (owD n ps),.no,.no,.no]= .nx [.sh (owD n ps),.ow (.lst ((upI n).map .int)),.no,.no]:=by
  have h:lrD (op2 ixD (aC 0) (cD (.int 0))) [.sh (owD n ps),.no,.no,.no]= .ok (.lst ((upI (n:Int)).map .int)):=by
   have:=aMS (f:=op2 ixD (aC 0) (cD (.int 0))) (ρ:=[.sh (owD n ps),.no,.no,.no]) (n:=n) (by simp[owD]) (by lia) hn1
   rw[aBf]at this;exact this
  rw[yV,h,bC];rfl
 have c2:jX 2 (gR aJ) [.sh (owD n ps),.ow (.lst ((upI n).map .int)),.no,.no]= .nx (dE n ps (upI n) [] .no):=by simp
 have lp':lF duT duB (dE n ps (upI n) [] .no)=if od.length=n then .nx (dE n ps [] od s3)else .rt .non:=lp
 simp only[m8,iB,cB,st];rw[aM,c1,aV,aM,c2,aV,aM,lp'];by_cases h:od.length=n
 .rw[if_pos h,if_pos h,aV]
  simp
 .rw[if_neg h,if_neg h]
  rfl
def aM0{ps:List (Int×D)}{i:Int}{d:D}(h:ps.lookup i=some d):aCV (cQ ps) (.int i)= .ok d:=by
 unfold aCV cQ;dsimp only;rw[qd];dsimp only;rw[h]
theorem aAW:∀qs:List (Int×D),lA (qs.map λ q=>.tup [.int q.1,q.2])=some qs
 |[]=>rfl
 |q::qs=>by rw[zAG];unfold lA;rw[aAW qs];rfl
def aL3{fi:En->Rs (List D)}{js:kX}{fg:D->En->Rs En}{ft:En->Rs Bool}{fk fv:En->Rs D}{ρ:En}{ds:List D}{qs:List (Int×D)}(h1:fi (shE ρ)= .ok ds)(h2:ds.length<16777216)
  (h3:lcL (stE js (shE ρ)) fg ft (pairE fk fv) ds= .ok (qs.map λ q=>.tup [.int q.1,q.2])):dcI fi js fg ft fk fv ρ= .ok (cQ (jd [] qs)):=by
 unfold dcI;rw[h1,aO,if_pos (by rw[szl];exact h2),h3];dsimp only;rw[aAW]
def aFC{ps:List (Int×D)}{i:Int}{d:D}(h:i∉ps.map (·.1)):aAU ps i d=ps++[(i,d)]:=by
 unfold aAU;rw[if_neg];rw[zFn];rintro⟨p,hp,e⟩;exact h (zAl.mpr ⟨p,hp,of_decide_eq_true e⟩)
theorem xF:∀{qs acc:List (Int×D)},(acc.map (·.1)++qs.map (·.1)).Nodup->jd acc qs=acc++qs
 |[],acc,_=>by simp[jd]
 |q::qs,acc,h=>by
  have hn:q.1∉acc.map (·.1):=λ hm=>by
   rw[zAy]at h;exact h.2.2 _ hm _ (by simp) rfl
  have e:jd acc (q::qs)=jd (aAU acc q.1 q.2) qs:=rfl;rw[e,aFC hn,xF (by simpa using h)];simp
theorem zO{x:Int}:∀{l:List Int},x∈l->∃j,aAy x l=some j/\l[j]? =some x
 |a::l,h=>by
  unfold aAy;by_cases c:a=x
  .subst c
   exact⟨0,if_pos rfl,rfl⟩
  .rw[if_neg c]
   obtain⟨j,h1,h2⟩:=zO ((zAM.mp h).resolve_left λ z=>c z.symm);exact⟨j+1,by rw[h1];rfl,h2⟩
theorem ql:∀ws:List Int,mz (ws.map .int)=true
 |[]=>rfl
 |w::ws=>by rw[zAG];unfold mz;rw[ql ws];rfl
def vB{n:Nat}{ps:gV}{od:List Int}(O:Ow n ps)(eo:dJ [owD n ps]= .ok (.lst (od.map .int))):cX [owD n ps]=if od.length=n then .ok (tupI od)else .ok .non:=by
 have st:bB 2 [owD n ps]=[.sh (owD n ps),.no]:=rfl;have hc:=jf O;have e1:xW (aR bQ (aB (aC 0) aJ)) [.sh (owD n ps),.no]= .nx [.sh (owD n ps),.no]:=by simp[hc]
 have e2:bU 1 (aR dJ (aB (aC 0) aJ)) [.sh (owD n ps),.no]= .nx [.sh (owD n ps),.sh (.lst (od.map .int))]:=by simp[eo]
 have gi:aCT (.tup (od.map .int))= .ok (.tup (od.map .int)):=aIe (by unfold imm;exact ql od);simp only[cX,cU,cB,st];rw[aM,e1,aV,aM,e2,aV];by_cases h:od.length=n
 .simp[owD,h,gi]
 .have h':¬((od.length:Int)=(n:Int)):=by lia
  simp[owD,h,h']
def bk(ps:gV)(od:List Int)(x:Int):List Int:=(bj (ps.map sw) x).filter λ y=>!decide (y∈od)
def fr(ps:gV)(od:List Int)(x:Int):Int:=(bk ps od x).headD 0
def aAd{ps:gV}{x y:Int}:y∈bj (ps.map sw) x↔(y,x)∈ps:=by
 rw[tU,zAl];constructor
 .rintro⟨p,hp,e⟩
  have:p=(y,x):=by
   unfold sw at e;exact zEz (congrArg zHl e) (congrArg zFA e)
  exact this▸hp
 .exact λ h=>⟨(y,x),h,rfl⟩
theorem Od.fr{n:Int}{ps:gV}{od:List Int}(O:Ow n ps)(D:Od n ps od){x:Int}(hx:x∈aj n od):(∃t,bk ps od x=VL.My.fr ps od x::t)/\VL.My.fr ps od x∈aj n od/\(VL.My.fr ps od x,x)∈ps:=by
 obtain⟨h1,h2⟩:=dO.mp hx;have hw:=D.en x h1.1 h1.2 h2;have hne:bk ps od x≠[]:=λ e=>hw (by
  unfold wt;rw[zCO,zCn];intro p hp hh;simp only[zAa,beq_iff_eq,zDB,decide_eq_false_iff_not]at hh
  have:p.1∈bk ps od x:=zBX.mpr ⟨aAd.mpr (by rw[<-hh.1];exact hp),by simp[hh.2]⟩
  rw[e]at this;cases this)
 match hb:bk ps od x with
 |[]=>exact absurd hb hne
 |y::t=>
  have hy:VL.My.fr ps od x=y:=by unfold VL.My.fr;rw[hb];rfl
  have hm:y∈bk ps od x:=by rw[hb];exact zAT
  obtain⟨m1,m2⟩:=zBX.mp hm;have hp:=aAd.mp m1;have hr:=O.pr _ hp;rw[hy];exact⟨⟨t,rfl⟩,dO.mpr ⟨⟨hr.1,hr.2.1⟩,by simpa using m2⟩,hp⟩
def bkP(n:Int)(ps:gV)(od:List Int):List (Int×D):=(aj n od).map λ x=>(x,.lst ((bk ps od x).map .int))
theorem aCw{n:Int}{ps:gV}{od:List Int}{x:Int}:∀{l:List Int},x∈l->(l.map λ x=>(x,D.lst ((bk ps od x).map .int))).lookup x=some (.lst ((bk ps od x).map .int))
 |a::l,h=>by
  rw[zAG,zBT];by_cases c:x=a
  .subst c;simp
  .have c1:(x==a)=false:=by simpa using c
   rw[c1];exact aCw (n:=n) ((zAM.mp h).resolve_left c)
def aJy{n:Nat}{ps:gV}{od:List Int}{lc:eL}(O:Ow n ps)(Nc:aJB n (ps.map sw) lc){s3 s4 s5 s6:Slot}:srC [.sh (owD n ps),.sh (.lst (od.map .int)),.sh (.lst (lc.map .lst)),s3,s4,s5,s6]= .ok (cQ (bkP n ps od)):=by
 have hn1:=O.n1;have hr:=dZ (j:=(n:Int)) (by lia) (by lia);have key:jd [] (bkP n ps od)=bkP n ps od:=by
  have:=xF (acc:=[]) (qs:=bkP n ps od) (by
   rw[zEr,zBd];unfold bkP;rw[zAk]
   have:((λ p:Int×D=>p.1)∘λ x=>(x,D.lst ((bk ps od x).map .int)))=id:=rfl
   rw[this,zFP];exact(pC n).filter _)
  simpa using this
 rw[<-key];refine aL3 (ds:=(upI (n:Int)).map .int) (by rw[<-aBf];simp[shE,sW,owD,hr]) (by rw[zAE,jH];lia) ?_;unfold bkP aj;rw[zAk];refine kI (fg:=gnm 0) (f:=D.int) (t:=λ x=>!decide (x∈od)) (upI n) λ x hx=>⟨[.sh (.int x),.sh (.lst (lc.map .lst)),.sh (.lst (od.map .int))],rfl,?_,?_⟩
 .have:=pW true x od
  simp[this]
 .obtain⟨x0,x1⟩:=mC.mp hx
  have h1:=Nc.item x x0 x1;have oQ:(bj (ps.map sw) x).length<=3600:=by
   unfold bj;rw[zAE]
   have:=zEq (λ p:Int×Int=>p.1==x) (ps.map sw)
   rw[zAE]at this
   have:=O.len
   lia
  have h2:lcD (lD (op2 ixD (aC 1) (aC 0))) [none,some 2] (gnm 0) (tsb (op2 (inR true) (aC 0) (aC 1))) (bK (aC 0)) [.sh (.int x),.sh (.lst (lc.map .lst)),.sh (.lst (od.map .int))]= .ok (.lst ((bk ps od x).map .int)):=by
   refine oV (ds:=(bj (ps.map sw) x).map .int) ?_ (by rw[zAE];lia) ?_
   .show((okD (atD (lc.map .lst) x)).bd itD)=_
    rw[h1,cF,aO,aIW]
   .refine kI (fg:=gnm 0) (f:=D.int) (g:=D.int) (t:=λ y=>!decide (y∈od)) (bj (ps.map sw) x) λ y _=>⟨[.sh (.int y),.sh (.lst (od.map .int))],rfl,?_,by simp⟩
    have:=pW true y od
    simp[this]
  unfold pairE;rw[h2];simp
def aBO{ws:List Int}(h:ws≠[]):atD (ws.map .int) (-1)= .ok (.int (ws.getLast h)):=by
 have hl:0<ws.length:=List.length_pos_iff.mpr h;unfold atD atI ixN;rw[zAE,if_neg (by lia),if_pos (by lia)]
 have:((-1:Int)+(ws.length:Int)).toNat=ws.length-1:=by lia
 simp only[this,zDH,zAQ];rw[zAC (by lia),zCh];rfl
structure Gn(n:Int)(ps:gV)(od g:List Int):Prop where
 ne:g≠[]
 nd:g.Nodup
 inn:∀x∈g,x∈aj n od
 st:∀(i:Nat) a b,g[i]? =some a->g[i+1]? =some b->b=fr ps od a
def Gn.put{n:Int}{ps:gV}{od g:List Int}(O:Ow n ps)(D:Od n ps od)(G:Gn n ps od g)(h:fr ps od (g.getLast G.ne)∉g):Gn n ps od (g++[fr ps od (g.getLast G.ne)]) where
 ne:=by simp
 nd:=by
  rw[zAy];exact⟨G.nd,by simp,λ a ha b hb e=>by rw[zAN.mp hb]at e;subst e;exact h ha⟩
 inn:=λ x hx=>by
  rcases zA9.mp hx with z|z
  .exact G.inn x z
  .rw[zAN.mp z]
   exact(D.fr O (G.inn _ (zDl G.ne))).2.1
 st:=λ i a b ha hb=>by
  by_cases hi:i+1<g.length
  .rw[zAg (by lia)]at ha
   rw[zAg hi]at hb;exact G.st i a b ha hb
  .have hb':=(zAI.mp hb).1
   rw[zAV,zCw]at hb';have hi':i+1=g.length:=by lia
   rw[hi',zBF (zAW _),zHM]at hb;have e1:fr ps od (g.getLast G.ne)=b:=by simpa using hb
   rw[zAg (by lia)]at ha;have e2:g.getLast G.ne=a:=by
    rw[zCh]
    have:g.length-1=i:=by lia
    simp only[this];exact(zAI.mp ha).2
   rw[<-e1,e2]
abbrev gE(w:D)(od:List Int)(lc:eL)(B:D)(g:List Int)(s5 s6:Slot):En:=[.sh w,.sh (.lst (od.map .int)),.sh (.lst (lc.map .lst)),.sh B,.ow (.lst (g.map .int)),s5,s6]
def aB0{n:Nat}{ps:gV}{od g:List Int}{lc:eL}{w:D}{s5 s6:Slot}(O:Ow n ps)(D:Od n ps od)(G:Gn n ps od g):srF (gE w od lc (cQ (bkP n ps od)) g s5 s6)= .ok (.int (fr ps od (g.getLast G.ne))):=by
 obtain⟨⟨t,ht⟩,_,_⟩:=D.fr O (G.inn _ (zDl G.ne));have h1:=aM0 (ps:=bkP n ps od) (aCw (n:=n) (ps:=ps) (od:=od) (G.inn _ (zDl G.ne)));have h2:=aBO G.ne;have a1:op2 ixD (cM 4) (op1 aA7 (cD (.int 1))) (gE w od lc (cQ (bkP n ps od)) g s5 s6)= .ok (.int (g.getLast G.ne)):=by
  show okD (atD (g.map .int) (-1))=_;rw[h2,cF]
 have a2:op2 aCV (aC 3) (op2 ixD (cM 4) (op1 aA7 (cD (.int 1)))) (gE w od lc (cQ (bkP n ps od)) g s5 s6)= .ok (.lst ((bk ps od (g.getLast G.ne)).map .int)):=by
  have hv:aC 3 (gE w od lc (cQ (bkP n ps od)) g s5 s6)= .ok (cQ (bkP n ps od)):=rfl;rw[fC,hv,aO,a1,aO,h1,cF]
 rw[srF,fC,a2,aO,aM1,aO,aIU,ht,zAG,aM4,cF]
def aE8{n:Nat}{ps:gV}{od g:List Int}{lc:eL}{w:D}{s5 s6:Slot}(O:Ow n ps)(D:Od n ps od)(G:Gn n ps od g):srT (gE w od lc (cQ (bkP n ps od)) g s5 s6)= .ok (!decide (fr ps od (g.getLast G.ne)∈g)):=by
 have hv:cM 4 (gE w od lc (cQ (bkP n ps od)) g s5 s6)= .ok (.lst (g.map .int)):=rfl;rw[srT,lJ,fC,aB0 O D G,aO,hv,aO,pW,cF,aO];rfl
def aDt{n:Nat}{ps:gV}{od:List Int}{lc:eL}{w:D}(O:Ow n ps)(D:Od n ps od){x:Int}(hx:x∈aj n od):∃(g:List Int) (G:Gn n ps od g),lF srT srW (gE w od lc (cQ (bkP n ps od)) [x] .no .no)= .nx (gE w od lc (cQ (bkP n ps od)) g .no .no)/\fr ps od (g.getLast G.ne)∈g:=by
 have hn1:=O.n1;obtain⟨ρ',m',e,⟨g,rfl,G,_⟩,ht⟩:=zp (c:=srT) (b:=srW) (λ m ρ=>∃g,ρ=gE w od lc (cQ (bkP n ps od)) g .no .no/\Gn n ps od g/\m=61-g.length) (by
  rintro m ρ ⟨g,rfl,G,rfl⟩;rw[aE8 O D G];by_cases h:fr ps od (g.getLast G.ne)∈g
  .left
   rw[decide_eq_true h];rfl
  .right
   have G':=G.put O D h;have hl:=kE G'.nd λ y hy=>(dO.mp (G'.inn y hy)).1
   rw[zAV,zCw]at hl;refine⟨by rw[decide_eq_false h];rfl,gE w od lc (cQ (bkP n ps od)) (g++[fr ps od (g.getLast G.ne)]) .no .no,61-(g.length+1),?_,by lia,_,rfl,G',by rw[zAV,zCw]⟩;have hv:bK srF (gE w od lc (cQ (bkP n ps od)) g .no .no)= .ok (.int (fr ps od (g.getLast G.ne))):=by rw[aI5,aB0 O D G,aO,aGH]
   rw[srW];unfold kY;dsimp only[zAj,zAs];rw[hv,bC,if_pos (by rw[zAE,szl];lia)];simp) (m:=60) (ρ:=gE w od lc (cQ (bkP n ps od)) [x] .no .no) (by decide) ⟨[x],rfl,⟨by simp,by simp,λ y hy=>by rw[zAN.mp hy];exact hx,λ i a b ha hb=>by simp at hb⟩,rfl⟩
 refine⟨g,G,e,?_⟩;rw[aE8 O D G]at ht
 have:=Rs.ok.inj ht
 simpa using this
def Cy(ps:gV)(R:List Int):Prop:=∀k,k<R.length->∀a b,R[k]? =some a->R[(k+1)%R.length]? =some b->(a,b)∈ps
def aIo{n:Int}{ps:gV}{od g:List Int}(O:Ow n ps)(D:Od n ps od)(G:Gn n ps od g){j:Nat}(hj:g[j]? =some (fr ps od (g.getLast G.ne))):Cy ps (g.drop j).reverse:=by
 have hjl:=(zAI.mp hj).1;have hL:(g.drop j).reverse.length=g.length-j:=by simp
 have hat:∀k,k<g.length-j->(g.drop j).reverse[k]? =g[g.length-1-k]?:=λ k hk=>by
  rw[zHA (by rw[zAp];exact hk),zAp,zBa];congr 1;lia
 have hfr:∀x∈g,(fr ps od x,x)∈ps:=λ x hx=>(D.fr O (G.inn x hx)).2.2
 intro k hk a b ha hb;rw[hL]at hk hb;rw[hat k hk]at ha;by_cases h1:k+1<g.length-j
 .rw[zEg h1,hat (k+1) h1]at hb
  have hs:=G.st (g.length-1-(k+1)) b a hb (by rw[show g.length-1-(k+1)+1=g.length-1-k by lia];exact ha);rw[hs];exact hfr b (zBG hb)
 .have h2:k+1=g.length-j:=by lia
  rw[h2,Nat.mod_self,hat 0 (by lia),zHN]at hb;have e1:b=g.getLast G.ne:=by
   rw[zCh];exact((zAI.mp hb).2).symm
  have e2:g.length-1-k=j:=by lia
  rw[e2,hj]at ha;cases ha;rw[e1];exact hfr _ (zDl G.ne)
def aIn{ps:gV}{R:List Int}(C:Cy ps R){i:Nat}(hi:i<R.length):Cy ps (R.drop i++R.take i):=by
 have hL:(R.drop i++R.take i).length=R.length:=by simp;lia
 have hat:∀k,k<R.length->(R.drop i++R.take i)[k]? =R[(k+i)%R.length]?:=λ k hk=>by
  by_cases h:k<R.length-i
  .rw[zAg (by rw[zAp];exact h),zBa,zEg (by lia)]
   congr 1;lia
  .rw[zBF (by rw[zAp];lia),zAp,zHg,if_pos (by lia)]
   have:(k+i)%R.length=k+i-R.length:=by
    rw[Nat.mod_eq_sub_mod (by lia),zEg (by lia)]
   rw[this];congr 1;lia
 intro k hk a b ha hb;rw[hL]at hk hb;rw[hat k hk]at ha;rw[hat _ (zDF _ (by lia))]at hb;refine C ((k+i)%R.length) (zDF _ (by lia)) a b ha ?_
 have:((k+i)%R.length+1)%R.length=((k+1)%R.length+i)%R.length:=by
  rw[zIr,zIr];congr 1;lia
 rw[this];exact hb
def xg{l:List D}{k:Nat}(h:k<=l.length):cutD l (some (k:Int)) none=l.drop k:=by
 unfold cutD;have e1:HT.sIx l.length 0 (some (k:Int))=k:=by unfold HT.sIx;simp;lia
 have e2:HT.sIx l.length l.length none=l.length:=rfl;rw[e1,e2,zBE (by rw[zAp];lia)]
def aIp{l:List D}{k:Nat}(h:k<=l.length):cutD l none (some (k:Int))=l.take k:=by
 unfold cutD;have e1:HT.sIx l.length l.length (some (k:Int))=k:=by unfold HT.sIx;simp;lia
 have e2:HT.sIx l.length 0 none=0:=rfl;rw[e1,e2,zC8,zHN]
def aFu{fo fe:En->Rs D}{ρ:En}{g:List Int}{x:Int}{j:Nat}(h1:fo ρ= .ok (.lst (g.map .int)))(h2:fe ρ= .ok (.int x))(h3:aAy x g=some j):opL qm fo fe ρ= .ok (.int j):=by
 unfold opL;rw[h1,aO]
 show((fe ρ).bd λ e=>okD (qm (g.map .int) e))=_
 rw[h2,aO];unfold qm;dsimp only;rw[b8];dsimp only;rw[h3,cF]
def aKv{g:List Int}{m:Int}(h:g.min?=some m):j6 zCm [.lst (g.map .int)]= .ok (.int m):=by
 show j7 zCm [.lst (g.map .int)]=_;unfold j7;dsimp only;rw[b8];dsimp only;rw[h]
def aHH(qs:List (Int×D)):aHI (cQ qs)= .ok (!qs.isEmpty):=by
 unfold aHI cQ;dsimp only;rw[qd]
structure Rg(n:Int)(ps:gV)(Q:List Int):Prop where
 nd:Q.Nodup
 inn:∀x∈Q,0<=x/\x<n
 two:2<=Q.length
 cy:Cy ps Q
 ls:∃m,Q[0]? =some m/\∀x∈Q,m<=x
def yL{n:Nat}{ps:gV}{od:List Int}(O:Ow n ps)(eo:dJ [owD n ps]= .ok (.lst (od.map .int)))(D:Od n ps od):(od.length=n/\cL [owD n ps]= .ok .non)\/(od.length≠n/\∃Q,cL [owD n ps]= .ok (tupI Q)/\Rg n ps Q):=by
 have st:bB 7 [owD n ps]=[.sh (owD n ps),.no,.no,.no,.no,.no,.no]:=rfl;have hc:=jf O;obtain⟨lc,e2,Nc⟩:=sU O;have hn1:=O.n1;have c0:xW (aR bQ (aB (aC 0) aJ)) [.sh (owD n ps),.no,.no,.no,.no,.no,.no]= .nx [.sh (owD n ps),.no,.no,.no,.no,.no,.no]:=by simp[hc]
 have c1:bU 1 (aR dJ (aB (aC 0) aJ)) [.sh (owD n ps),.no,.no,.no,.no,.no,.no]= .nx [.sh (owD n ps),.sh (.lst (od.map .int)),.no,.no,.no,.no,.no]:=by simp[eo]
 have c2:bU 2 (aR fW (aB (aC 0) aJ)) [.sh (owD n ps),.sh (.lst (od.map .int)),.no,.no,.no,.no,.no]= .nx [.sh (owD n ps),.sh (.lst (od.map .int)),.sh (.lst (lc.map .lst)),.no,.no,.no,.no]:=by simp[e2]
 have c3:bU 3 srC [.sh (owD n ps),.sh (.lst (od.map .int)),.sh (.lst (lc.map .lst)),.no,.no,.no,.no]= .nx [.sh (owD n ps),.sh (.lst (od.map .int)),.sh (.lst (lc.map .lst)),.sh (cQ (bkP n ps od)),.no,.no,.no]:=by rw[yU,aJy O Nc,bC];rfl
 have t4:lB (tsd (aC 3)) [.sh (owD n ps),.sh (.lst (od.map .int)),.sh (.lst (lc.map .lst)),.sh (cQ (bkP n ps od)),.no,.no,.no]= .ok (bkP n ps od).isEmpty:=by
  rw[aCs]
  show((aHI (cQ (bkP n ps od))).bd λ k=>Rs.ok (!k))=_
  rw[aHH,aO,Bool.not_not]
 have hbe:(bkP n ps od).isEmpty=decide (od.length=n):=by
  rw[<-pU D];unfold bkP;rw[zFr]
 have pre:cL [owD n ps]=(match (if od.length=n then Ou.rt .non else(aW (jX 4 (gR (aB (opA rO (aB (aC 3) aJ)) aJ))) (aW (lF srT srW) (aW (su 5 (op1 wU (qN (cM 4) (nP (opL qm (cM 4) srF)) nQ))) (aW (bU 6 (opL qm (dM 5) (opA (j6 zCm) (aB (dM 5) aJ))))
  (retS (opA eU (aB (op2 cH (qO (dM 5) (nP (aC 6)) nQ) (qO (dM 5) nQ (nP (aC 6)))) aJ))))))) [.sh (owD n ps),.sh (.lst (od.map .int)),.sh (.lst (lc.map .lst)),.sh (cQ (bkP n ps od)),.no,.no,.no])with
   | .nx _=>Rs.ok .non
   | .rt d=>.ok d
   | .ex c=>.ex c
   |_=>.st):=by
  simp only[cL,dw,cB,st];rw[aM,c0,aV,aM,c1,aV,aM,c2,aV,aM,c3,aV,aM,gU,t4,bC,hbe];by_cases h:od.length=n
  .rw[decide_eq_true h,if_pos rfl,if_pos h]
   rfl
  .rw[decide_eq_false h,if_neg zAS,if_neg h,aV]
   try (generalize aW _ _ _=o;cases o<;>rfl)
 by_cases h:od.length=n
 .rw[if_pos h]at pre
  exact .inl ⟨h,pre⟩
 .rw[if_neg h]at pre
  refine .inr ⟨h,?_⟩;have hle:aj n od≠[]:=λ z=>by
   have:=pU D
   rw[z]at this
   have:=of_decide_eq_true this.symm
   exact h this
  obtain⟨x,hx⟩:=uv hle;have hxm:x∈aj n od:=zJB hx;have c4:jX 4 (gR (aB (opA rO (aB (aC 3) aJ)) aJ)) [.sh (owD n ps),.sh (.lst (od.map .int)),.sh (.lst (lc.map .lst)),.sh (cQ (bkP n ps od)),.no,.no,.no]= .nx (gE (owD n ps) od lc (cQ (bkP n ps od)) [x] .no .no):=by
   have hm:rO [cQ (bkP n ps od)]= .ok (.int x):=by
    unfold rO cQ;dsimp only;rw[qd];dsimp only
    have:(bkP n ps od).map (·.1)=aj n od:=by
     unfold bkP;rw[zAk];exact zFP _
    rw[this,hx]
   simp[hm]
  obtain⟨g,G,ew,hg⟩:=aDt (lc:=lc) (w:=owD n ps) O D hxm;obtain⟨j,j1,j2⟩:=zO hg;have hjl:=(zAI.mp j2).1;have hgl:=kE G.nd λ y hy=>(dO.mp (G.inn y hy)).1
  have hj2:j+2<=g.length:=by
   refine zEB λ z=>?_
   have e:j=g.length-1:=by lia
   have e1:fr ps od (g.getLast G.ne)=g.getLast G.ne:=by
    rw[e]at j2
    have:=(zAI.mp j2).2
    exact this.symm.trans (zCh G.ne).symm
   have:=(O.pr _ (D.fr O (G.inn _ (zDl G.ne))).2.2).2.2.2.2
   exact this e1
  have hC:=aIo O D G j2;obtain⟨R,hR⟩:∃R,R=(g.drop j).reverse:=⟨_,rfl⟩
  rw[<-hR]at hC;have hRl:R.length=g.length-j:=by rw[hR];simp
  have hRn:R.Nodup:=by rw[hR];exact(zD6 _).nodup_iff.mpr (G.nd.sublist (zHx _ _))
  have hRi:∀y∈R,0<=y/\y<(n:Int):=λ y hy=>by
   rw[hR,zB7]at hy;exact(dO.mp (G.inn y (zBQ hy))).1
  have hRne:R≠[]:=λ z=>by rw[z]at hRl;simp at hRl;lia
  have c5:su 5 (op1 wU (qN (cM 4) (nP (opL qm (cM 4) srF)) nQ)) (gE (owD n ps) od lc (cQ (bkP n ps od)) g .no .no)= .nx (gE (owD n ps) od lc (cQ (bkP n ps od)) g (.nw (.lst (R.map .int))) .no):=by
   have hv:cM 4 (gE (owD n ps) od lc (cQ (bkP n ps od)) g .no .no)= .ok (.lst (g.map .int)):=rfl;have hi:=aFu hv (aB0 (lc:=lc) (w:=owD n ps) (s5:=.no) (s6:=.no) O D G) j1;have hcut:cutD (g.map .int) (some (j:Int)) none=(g.drop j).map .int:=by rw[xg (by rw[zAE];lia),zF1]
   have hs:qN (cM 4) (nP (opL qm (cM 4) srF)) nQ (gE (owD n ps) od lc (cQ (bkP n ps od)) g .no .no)= .ok (.lst ((g.drop j).map .int)):=by
    unfold qN;rw[hv,aO,aA4,hi,aO,aO,aA5,aO];unfold slI;dsimp only;rw[hcut,if_pos (ql _),cF]
   rw[yW,aKo,hs,aO]
   show((okD (wU (.lst ((g.drop j).map .int)))).bo λ d=>_)=_
   unfold wU;dsimp only;rw[<-zIY,<-hR,cF,bC];rfl
  obtain⟨m,hm⟩:=uv hRne;obtain⟨m1,m2⟩:=zC2.mp hm;obtain⟨i,i1,i2⟩:=zO m1;have hil:=(zAI.mp i2).1;have c6:bU 6 (opL qm (dM 5) (opA (j6 zCm) (aB (dM 5) aJ))) (gE (owD n ps) od lc (cQ (bkP n ps od)) g (.nw (.lst (R.map .int))) .no)= .nx (gE (owD n ps) od lc (cQ (bkP n ps od)) g (.nw (.lst (R.map .int))) (.sh (.int i))):=by
   have hv:dM 5 (gE (owD n ps) od lc (cQ (bkP n ps od)) g (.nw (.lst (R.map .int))) .no)= .ok (.lst (R.map .int)):=rfl;have hmm:opA (j6 zCm) (aB (dM 5) aJ) (gE (owD n ps) od lc (cQ (bkP n ps od)) g (.nw (.lst (R.map .int))) .no)= .ok (.int m):=by
    rw[iU,cR,hv,aO,fj,aO,aO,aKv hm,cF]
   rw[yU,aFu hv hmm i1,bC];rfl
  refine⟨R.drop i++R.take i,?_,?_⟩
  .have a1:cH (.lst ((R.map .int).drop i)) (.lst ((R.map .int).take i))= .ok (.lst ((R.drop i++R.take i).map .int)):=by
    rw[aGl,if_pos (by simp;lia),zBc,zF1,zE4]
   have k1:cutD (R.map .int) none (some (i:Int))=(R.map .int).take i:=aIp (by rw[zAE];lia);have k2:cutD (R.map .int) (some (i:Int)) none=(R.map .int).drop i:=xg (by rw[zAE];lia);rw[pre,aM,c4,aV,aM,ew,aV,aM,c5,aV,aM,c6,aV];simp only[mL,iU,cR,fj,fC,aDX,aHF,aHE,aA4,aA5,aO,zAs,zAj,aHR,cF,k1,k2,a1,oF,bC]
  .have hp:(R.drop i++R.take i).Perm R:=by
    have:=zHC (l₁:=R.drop i) (l₂:=R.take i)
    rwa [zAf]at this
   refine⟨hp.nodup_iff.mpr hRn,λ y hy=>hRi y (hp.mem_iff.mp hy),by rw[hp.length_eq,hRl];lia,aIn hC hil,m,?_,λ y hy=>m2 y (hp.mem_iff.mp hy)⟩;rw[zAg (by rw[zAp];lia),zBa,zEU];exact i2
def zJ{n:Int}{ps:gV}{Q:List Int}(O:Ow n ps)(G:Rg n ps Q):gK [owD n ps,tupI Q]= .ok (.bl true):=by
 have hn1:=O.n1;have h2:=G.two;have hl:=kE G.nd G.inn;have st:bB 2 [owD n ps,tupI Q]=[.sh (owD n ps),.sh (tupI Q)]:=rfl;have hv:aC 1 [.sh (owD n ps),.sh (tupI Q)]= .ok (.tup (Q.map .int)):=rfl;have t1:orT (lB (tst (op1 (j9 "tuple") (aC 1)))) (tsb (op2 (eqR false) (opA iW (aB (aC 1) aJ)) (cD (.int 0)))) [.sh (owD n ps),.sh (tupI Q)]= .ok false:=by
  have hne:¬((Q.length:Int)=0):=by lia
  have hne':Q≠[]:=λ z=>by rw[z]at h2;simp at h2
  simp[tupI,hne,hne']
 have x1:lrX [.sh (owD n ps),.sh (tupI Q)]= .ok (.lst (Q.map λ x=>.bl ((λ _=>true) x))):=by
  refine oV (ds:=Q.map .int) rfl (by rw[zAE];lia) ?_;refine aCF (f:=D.int) Q λ x hx=>⟨[.sh (.int x),.sh (owD n ps)],rfl,?_⟩
  have hr:=G.inn x hx;have hw:=zG (d:=.int x) rfl;simp[hw,uE,owD,hr]
 have t2:orT (lB (tst (opA (v9 λ bs=>bs.all id) (aB lrX aJ)))) (tsb (op2 ltD (opA aAg (aB (opA aB6 (aB (aC 1) aJ)) aJ)) (opA iW (aB (aC 1) aJ)))) [.sh (owD n ps),.sh (tupI Q)]= .ok false:=by
  have hs:aB6 [.tup (Q.map .int)]= .ok (.set (ddI Q)):=by
   unfold aB6;dsimp only;rw[b8];dsimp only;rw[if_pos (by lia)]
  have hd:Q.length<=(ddI Q).length:=sub_len G.nd λ x hx=>(aIK Q x).mpr hx
  have hlt:¬(((ddI Q).length:Int)<(Q.length:Int)):=by lia
  have hx:aAg [.set (ddI Q)]= .ok (.int (ddI Q).length):=rfl;have qV:(Q.all λ _=>true)=true:=zB6.mpr λ _ _=>rfl
  rw[yu,aCs,aE0,aGf x1,qV,aO,aHJ,aO,aO,zCg,if_neg zAS,lJ,fC,iU,cR,iU,cR,hv,aO,fj,aO,aO,hs,cF,aO,aO,aO,hx,cF,aO,iU,cR,hv,aO,fj,aO,aO,aFb,cF,aO,aIN,zAE,cF,aO,decide_eq_false hlt];rfl
 have x2:lrY [.sh (owD n ps),.sh (tupI Q)]= .ok (.lst ((bf 0 ((Q.length:Int)-1)).map λ x=>.bl ((λ _=>true) x))):=by
  have hr:=dZ (j:=(Q.length:Int)-1) (by lia) (by lia);refine oV (ds:=(bf 0 ((Q.length:Int)-1)).map id) ?_ (by rw[zAE,fB];lia) ?_
  .rw[zFP]
   simp[shE,sW,tupI,hr]
  .refine aCF (f:=id) (bf 0 ((Q.length:Int)-1)) λ d hd=>?_
   obtain⟨k,rfl,k0,k1⟩:=aAc.mp hd;have hk:k.toNat+1<Q.length:=by lia
   have e0:((k.toNat:Nat):Int)=k:=zBq k0;have a1:atD (Q.map .int) k= .ok (.int Q[k.toNat]):=by
    have:=dI (l:=Q.map .int) (k:=k.toNat) (d:=.int Q[k.toNat]) (by rw[zAQ,zAC (by lia)];rfl)
    rwa [e0]at this
   have a2:atD (Q.map .int) (k+1)= .ok (.int Q[k.toNat+1]):=by
    have:=dI (l:=Q.map .int) (k:=k.toNat+1) (d:=.int Q[k.toNat+1]) (by rw[zAQ,zAC hk];rfl)
    rwa [show((k.toNat+1:Nat):Int)=k+1 by lia]at this
   have hm:(Q[k.toNat],Q[k.toNat+1])∈ps:=G.cy k.toNat (by lia) _ _ (zAC (by lia)) (by rw[zEg hk];exact zAC hk);have hi:=aAv false (Q[k.toNat],Q[k.toNat+1]) ps;rw[decide_eq_true hm]at hi;have hi':inR false (.tup [.int Q[k.toNat],.int Q[k.toNat+1]]) (.tup (ps.map pD))= .ok (.bl true):=hi;refine⟨[.sh (.int k),.sh (tupI Q),.sh (owD n ps)],rfl,?_⟩;simp[tupI,owD,a1,a2,hi']
 simp only[gK,eN,cB,st];rw[aM,gU,t1,bC,if_neg zAS,aV,aM,gU,t2,bC,if_neg zAS,aV,mL,aGf x2];simp
def zH{n:Int}{ps:gV}{Q:List Int}(O:Ow n ps)(G:Rg n ps Q):jG [owD n ps,tupI Q]= .ok (.bl true):=by
 have h2:=G.two;have hne:Q≠[]:=λ z=>by rw[z]at h2;simp at h2
 have e1:=zJ O G;obtain⟨m,m1,m2⟩:=G.ls;have dL:Q.min?=some m:=zC2.mpr ⟨zBG m1,m2⟩;have e2:j6 zCm [.tup (Q.map .int)]= .ok (.int m):=by
  unfold j6;dsimp only;rw[b8];dsimp only;rw[dL]
 have e3:=aBO hne;have e4:atD (Q.map .int) 0= .ok (.int m):=dI (k:=0) (by rw[zAQ,m1];rfl);have hlast:(Q.getLast hne,m)∈ps:=G.cy (Q.length-1) (by lia) _ _ (by rw[zCh];exact zAC (by lia)) (by rw[show Q.length-1+1=Q.length by lia,Nat.mod_self];exact m1);have hi:=aAv false (Q.getLast hne,m) ps;rw[decide_eq_true hlast]at hi;have hi':inR false (.tup [.int (Q.getLast hne),.int m]) (.tup (ps.map pD))= .ok (.bl true):=hi;have st:bB 2 [owD n ps,tupI Q]=[.sh (owD n ps),.sh (tupI Q)]:=rfl;have e1':gK [owD n ps,.tup (Q.map .int)]= .ok (.bl true):=e1;have hg:(1:Int)<(Q.length:Int):=by lia
 have ho:ixD (owD n ps) (.int 1)= .ok (.tup (ps.map pD)):=rfl;simp only[jG,eG,cB,st];simp[tupI,e1',e2,e3,e4,hg,ho,hi']
abbrev lE(ns:List Int)(k c:Int)(s3 s4 s5 s6:Slot):En:=[.sh (.scr ns),.sh (.int k),.sh (.int c),s3,s4,s5,s6]
def aGR(od:List Int):eqR true (tupI od) (tupI od)= .ok (.bl false):=by
 obtain⟨h1,h2⟩:=mG od;unfold eqR;rw[if_pos (by simp[tupI,aY,nD,h1,h2])];simp[tupI,eqD,xQ]
def aJc{ns:List Int}{k c:Int}{n:Nat}{ps:gV}(O:Ow n ps){s4 s5 s6:Slot}:∃t4 t5 t6,lT (lE ns k c (.sh (owD n ps)) s4 s5 s6)= .nx (lE ns k c (.sh (owD n ps)) t4 t5 t6):=by
 obtain⟨od,eo,D⟩:=aA3 O;have e1:=aCG O D;have e2:=vB O eo;rcases yL O eo D with ⟨h,e3⟩|⟨h,Q,e3,G⟩
 .rw[if_pos h]at e1 e2
  refine⟨.sh (tupI od),.sh (tupI od),.sh .non,?_⟩;have q1:=aGR od;have q2:isD true (tupI od) .non= .ok (.bl true):=rfl;have q3:j9 "tuple" (tupI od)= .ok (.bl true):=wC;have q4:isD false .non .non= .ok (.bl true):=rfl;have q5:isD true .non .non= .ok (.bl false):=rfl;unfold lT lI1 lI2;simp[e1,e2,e3,q1,q2,q3,q4,q5]
 .rw[if_neg h]at e1 e2
  refine⟨.sh .non,.sh .non,.sh (tupI Q),?_⟩;have q1:eqR true .non .non= .ok (.bl false):=rfl;have q2:isD true (tupI Q) .non= .ok (.bl true):=rfl;have q3:isD false (tupI Q) .non= .ok (.bl false):=rfl;have q5:isD true .non .non= .ok (.bl false):=rfl;have q6:=zH O G;unfold lT lI1 lI2;simp[e1,e2,e3,q1,q2,q3,q5,q6]
def aKx{ns:List Int}{k:Int}{s2 s3 s4 s5 s6:Slot}(h:0<=k):∃t2 t3 t4 t5 t6,lwK [.sh (.scr ns),.sh (.int k),s2,s3,s4,s5,s6]= .nx [.sh (.scr ns),.sh (.int k),t2,t3,t4,t5,t6]:=by
 obtain⟨c,ec⟩:=aIs (ns:=ns) h;obtain⟨n0,ps0,e0,O0,_⟩:=vH (c:=c) (most:=9) (by lia);obtain⟨n1,ps1,e1,O1,_,_,_⟩:=vG (c:=c) (most:=9) (by lia);obtain⟨N,rfl⟩:∃N:Nat,n0=N:=⟨n0.toNat,(zBq O0.n0).symm⟩
 have e0':dX [.int c,.int 9]= .ok (owD N ps0):=e0;have e1':dW [.int c,.int 9]= .ok (owD n1 ps1):=e1;have lp:=gH (a:=gnm 3) (u:=lT) [owD N ps0,owD n1 ps1] (λ _ ρ=>∃t3 t4 t5 t6,ρ=lE ns k c t3 t4 t5 t6) (lE ns k c s3 s4 s5 s6) ⟨s3,s4,s5,s6,rfl⟩ (by
  rintro i d ρ hd ⟨t3,t4,t5,t6,rfl⟩;have hm:=zBG hd;simp only[zAM,zCL,or_false]at hm;rcases hm with rfl|rfl
  .obtain⟨u4,u5,u6,e⟩:=aJc (ns:=ns) (k:=k) (c:=c) (s4:=t4) (s5:=t5) (s6:=t6) O0
   exact⟨_,e,_,_,_,_,rfl⟩
  .obtain⟨u4,u5,u6,e⟩:=aJc (ns:=ns) (k:=k) (c:=c) (s4:=t4) (s5:=t5) (s6:=t6) O1
   exact⟨_,e,_,_,_,_,rfl⟩)
 obtain⟨ρ',el,t3,t4,t5,t6,rfl⟩:=lp;have c2:bU 2 (aR cY (aB (aC 0) (aB (aC 1) aJ))) [.sh (.scr ns),.sh (.int k),s2,s3,s4,s5,s6]= .nx (lE ns k c s3 s4 s5 s6):=by simp[ec]
 have hi:lTh (lE ns k c s3 s4 s5 s6)= .ok [owD N ps0,owD n1 ps1]:=by
  unfold lTh;simp[e0',e1']
 refine⟨.sh (.int c),t3,t4,t5,t6,?_⟩;rw[lwK,aM,c2,aV,gj,hi,bC,el]
def aFd(ns:List Int)(hl:ns.length<=63):aGp [.scr ns]= .ok (.bl true):=by
 have st:bB 7 [.scr ns]=[.sh (.scr ns),.no,.no,.no,.no,.no,.no]:=rfl;let m:Int:=if (if (12:Int)<ns.length then(12:Int)else ns.length)>1 then(if (12:Int)<ns.length then(12:Int)else ns.length)else 1
 have hm:1<=m/\m<=12:=by
  show 1<=(if (if (12:Int)<ns.length then(12:Int)else ns.length)>1 then(if (12:Int)<ns.length then(12:Int)else ns.length)else 1)/\(if (if (12:Int)<ns.length then(12:Int)else ns.length)>1 then(if (12:Int)<ns.length then(12:Int)else ns.length)else 1)<=12;split<;>split<;>lia
 have hr:=dZ (j:=m) (by lia) (by lia);have hR:lwR [.sh (.scr ns),.no,.no,.no,.no,.no,.no]= .ok (bf 0 m):=by
  rw[<-hr];unfold lwR;simp[m]
 obtain⟨ρ',el,_⟩:=gH (a:=gnm 1) (u:=lwK) (bf 0 m) (λ _ ρ=>∃t1 t2 t3 t4 t5 t6,ρ=[.sh (.scr ns),t1,t2,t3,t4,t5,t6]) [.sh (.scr ns),.no,.no,.no,.no,.no,.no] ⟨.no,.no,.no,.no,.no,.no,rfl⟩ (by
  rintro i d ρ hd ⟨t1,t2,t3,t4,t5,t6,rfl⟩;obtain⟨rfl,_⟩:=iR hd;obtain⟨u2,u3,u4,u5,u6,e⟩:=aKx (ns:=ns) (k:=0+(i:Int)) (s2:=t2) (s3:=t3) (s4:=t4) (s5:=t5) (s6:=t6) (by lia);exact⟨_,e,_,_,_,_,_,_,rfl⟩)
 have z1:cX [.tup [.int 0,.tup []]]= .ok (.tup []):=by kernel_rfl
 have z2:cL [.tup [.int 0,.tup []]]= .ok .non:=by kernel_rfl
 have q1:eqR false (.tup []) (.tup [])= .ok (.bl true):=rfl;have q2:isD false .non .non= .ok (.bl true):=rfl;simp only[aGp,v6,cB,st];rw[aM,gj,hR,bC,el,aV,mL];unfold lwZ;simp[z1,z2,q1,q2]
local macro_rules|`(tactic|walk_at "sc")=>`(tactic|exact⟨rfl,rfl,rfl,by decide+kernel,rfl,by decide+kernel,by decide+kernel⟩)
def top(i:Nat):Stmt:=PySem.Challenge.pw_fewways_k53_orders_or_rings.main.body.getD i (.Pass ⟨0,0,0,0⟩)
abbrev oM:Stmt:=top 5
abbrev qZ:Stmt:=top 6
abbrev oN:Stmt:=top 7
abbrev qY:Stmt:=top 8
abbrev lZ:Stmt:=top 9
abbrev dg:Stmt:=top 10
abbrev jy:Stmt:=top 12
abbrev gP:Stmt:=top 13
abbrev q9:Stmt:=top 14
abbrev oO:Stmt:=top 15
abbrev qW:Stmt:=top 16
abbrev jL:Stmt:=top 17
abbrev lR:Stmt:=top 18
abbrev jO:Stmt:=top 20
abbrev oK:Stmt:=top 21
abbrev lU:Stmt:=top 22
abbrev oJ:Stmt:=top 23
abbrev jN:Stmt:=top 24
abbrev jM:Stmt:=top 25
abbrev lW:Stmt:=top 26
abbrev lV:Stmt:=top 27
abbrev qX:Stmt:=top 28
abbrev aEk:Stmt:=top 29
def aAM:aX ["thing"] ["thing"] (aP oM):=by walk_at "sc"
def aBd:aX ["thing"] ["thing"] (aP qZ):=by walk_at "sc"
def aAN:aX ["many","thing"] ["many","thing"] (aP oN):=by walk_at "sc"
def aBc:aX ["many","thing"] ["many","thing"] (aP qY):=by walk_at "sc"
def yg:aX ["things","at"] ["things"] (aP lZ):=by walk_at "sc"
def mj:aX ["many","thing","pair"] ["many","thing"] (aP dg):=by walk_at "sc"
def vq:aX ["thing"] ["thing"] (aP jy):=by walk_at "sc"
def qU:aX ["thing"] ["thing"] (aP gP):=by walk_at "sc"
def aBe:aX ["web","led","begin","end"] ["web"] (aP q9):=by walk_at "sc"
def aAO:aX ["web","come","begin","end"] ["web"] (aP oO):=by walk_at "sc"
def aBa:aX ["web","led","waits","ready","order","place","other"] ["web"] (aP qW):=by walk_at "sc"
def uU:aX ["web","order"] ["web"] (aP jL):=by walk_at "sc"
def yc:aX ["web","order","come","back","gone","ring","least"] ["web"] (aP lR):=by walk_at "sc"
def uX:aX ["_law_script","_law_k"] ["_law_script","_law_k"] (aP jO):=by walk_at "sc"
def aAL:aX ["_law_cell","_law_k","_law_bound","_law_left","_law_j","_law_stir"] ["_law_cell","_law_k","_law_bound"] (aP oK):=by walk_at "sc"
def yd:aX ["_law_found"] ["_law_found"] (aP lU):=by walk_at "sc"
def aAK:aX ["_law_cell","_law_many","_law_found","_law_place"] ["_law_cell","_law_many"] (aP oJ):=by walk_at "sc"
def uW:aX ["_law_cell","_law_most","_law_many","_law_kind","_law_thick","_law_order","_law_arrows","_law_spot","_law_j","_law_i","_law_here"] ["_law_cell","_law_most"] (aP jN):=by walk_at "sc"
def uV:aX ["_law_cell","_law_most","_law_many","_law_kind","_law_thick","_law_order","_law_arrows","_law_spot","_law_j","_law_i"] ["_law_cell","_law_most"] (aP jM):=by walk_at "sc"
def yf:aX ["_law_web","_law_thing"] ["_law_web","_law_thing"] (aP lW):=by walk_at "sc"
def ye:aX ["_law_web","_law_thing"] ["_law_web","_law_thing"] (aP lV):=by walk_at "sc"
def aBb:aX ["_law_web","_law_left","_law_found","_law_free"] ["_law_web"] (aP qX):=by walk_at "sc"
def aKG:aX ["_law_script","_law_k","_law_cell","_law_web","_law_due_here","_law_found","_law_ring"] ["_law_script"] (aP aEk):=by walk_at "sc"
set_option genInjectivity false in
set_option genSizeOf false in
structure Adr where
 vW:Addr
 fP:zBA
 xM:Addr
 iD:zBA
 vX:Addr
 fQ:zBA
 xK:Addr
 iC:zBA
 rn:Addr
 dC:zBA
 iY:Addr
 aq:zBA
 pZ:Addr
 dH:zBA
 km:Addr
 bh:zBA
 xN:Addr
 iG:zBA
 vY:Addr
 fU:zBA
 xH:Addr
 gw:zBA
 nY:Addr
 cU:zBA
 rW:Addr
 dw:zBA
 n8:Addr
 bx:zBA
 vV:Addr
 dh:zBA
 rY:Addr
 eF:zBA
 vU:Addr
 fO:zBA
 n6:Addr
 cW:zBA
 nZ:Addr
 cV:zBA
 rm:Addr
 eN:zBA
 rZ:Addr
 eG:zBA
 xJ:Addr
 iB:zBA
 aJd:Addr
 v6:zBA
 nH:Value
 o9:Addr
 o8:Addr
structure Txt(K:zAA)(mg:Str->Option Value)(t:Adr):Prop where
 oZ:Dnr K mg "is_whole" oM ["thing"] t.vW t.fP
 xU:Dnr K mg "is_many" qZ ["thing"] t.xM t.iD
 o5:Dnr K mg "is_place" oN ["many","thing"] t.vX t.fQ
 xT:Dnr K mg "is_pair" qY ["many","thing"] t.xK t.iC
 sH:Dnr K mg "is_rising" lZ ["things"] t.rn t.dC
 ig:Dnr K mg "are_rising_pairs" dg ["many","thing"] t.iY t.aq
 ph:Dnr K mg "is_one_way" jy ["thing"] t.pZ t.dH
 gW:Dnr K mg "check_one_way" gP ["thing"] t.km t.bh
 xV:Dnr K mg "all_led" q9 ["web"] t.xN t.iG
 o6:Dnr K mg "all_come" oO ["web"] t.vY t.fU
 qx:Dnr K mg "ordered" qW ["web"] t.xH t.gw
 jR:Dnr K mg "least_order" jL ["web"] t.nY t.cU
 mF:Dnr K mg "some_ring" lR ["web"] t.rW t.dw
 nq:Dnr K mg "_law_cell_at" jO ["_law_script","_law_k"] t.n8 t.bx
 cO:Dnr K mg "_law_draw" oK ["_law_cell","_law_k","_law_bound"] t.vV t.dh
 rz:Dnr K mg "_law_whole" lU ["_law_found"] t.rY t.eF
 oY:Dnr K mg "_law_turn" oJ ["_law_cell","_law_many"] t.vU t.fO
 nj:Dnr K mg "_law_one_way" jN ["_law_cell","_law_most"] t.n6 t.cW
 ni:Dnr K mg "_law_ordered" jM ["_law_cell","_law_most"] t.nZ t.cV
 sG:Dnr K mg "_law_along" lW ["_law_web","_law_thing"] t.rm t.eN
 sE:Dnr K mg "_law_round" lV ["_law_web","_law_thing"] t.rZ t.eG
 xR:Dnr K mg "_law_due" qX ["_law_web"] t.xJ t.iB
 aGU:Dnr K mg "law" aEk ["_law_script"] t.aJd t.v6
 gB:mg "MOST_PLACES"=some t.nH
 vy:RelV (.int 60) t.nH
 m_FewError:mg "FewError"=some (.ref t.o9)
 l_FewError:bY mg "FewError"=t.o9
 jq:tK K t.o9
 aBx:mg "NoOneWay"=some (.ref t.o8)
 aCH:bY mg "NoOneWay"=t.o8
 iH:tK K t.o8
 aJb:mg "all"=none
 aF5:mg "bool"=none
 aJa:mg "int"=none
 bW:mg "isinstance"=none
 kh:mg "len"=none
 aKu:mg "list"=none
 aMP:mg "max"=none
 aA9:mg "min"=none
 cu:mg "range"=none
 aJ9:mg "set"=none
 aA8:mg "sorted"=none
 fu:mg "tuple"=none
section
variable{P:zA7}{w:World}{K:zAA}{mg:Str->Option Value}{base:Heap}{t:Adr}
def rG(T:Txt K mg t):cP P w K mg base (CX1 P w) 1 t.vW t.fP ["thing"] (spF K (bY mg) 1 il):=
 bH (k:=0) (f:=fP) T.oZ aAM λ n _ _ _ _ _ _ _=>
  (aL (ak (gO (jw (aA 0) T.bW T.aJa) (ju (aEg (jw (aA 0) T.bW T.aF5))))))
def zA(T:Txt K mg t):cP P w K mg base (CX1 P w) 1 t.rn t.dC ["things"] (spF K (bY mg) 1 eQ):=
 bH (k:=0) (f:=dC) T.sH yg λ n _ _ _ _ _ _ _=>
  (aG (fK (aHV (aD aF (aD (iM T.kh (aD (aA 0) aH)) aH)) T.cu) (cA (ks:=[1]))
   (aL (eV (iK (uL (aK (aA 0) (yX (aA 1) aF)) (aK (aA 0) (aA 1))))
    (aL (ak nO))
    bT)))
  (aL (ak nO)))
def aBv(T:Txt K mg t):cP P w K mg base (CX1 P w) 1 t.xN t.iG ["web"] (spF K (bY mg) 1 jm):=
 bH (k:=0) (f:=iG) T.xV aBe λ n _ _ _ _ _ _ _=>
  (aG (aJO (N:=["place"]) (js:=[none]) (ks:=[0]) (dY (aD (aK (aA 0) aF) aH) T.cu) cz)
  (aG (fK (jK (aK (aA 0) aF)) (aB4 (n:=2) (jW (cA (ks:=[2,3])) (jW (cA (ks:=[2,3])) yR)))
   (aL (uN 1 (aA 2) (bV (aA 3)))))
  (aL (ak (pI 1)))))
def rM(T:Txt K mg t):cP P w K mg base (CX1 P w) 1 t.vY t.fU ["web"] (spF K (bY mg) 1 fW):=
 bH (k:=0) (f:=fU) T.o6 aAO λ n _ _ _ _ _ _ _=>
  (aG (aJO (N:=["place"]) (js:=[none]) (ks:=[0]) (dY (aD (aK (aA 0) aF) aH) T.cu) cz)
  (aG (fK (jK (aK (aA 0) aF)) (aB4 (n:=2) (jW (cA (ks:=[2,3])) (jW (cA (ks:=[2,3])) yR)))
   (aL (uN 1 (aA 3) (bV (aA 2)))))
  (aL (ak (pI 1)))))
def um(T:Txt K mg t):cP P w K mg base (CX1 P w) 1 t.n8 t.bx ["_law_script","_law_k"] (spF K (bY mg) 2 cY):=
 bH (k:=0) (f:=bx) T.nq uX λ n _ _ _ _ _ _ _=>
  (aG (eV (uL (aA 1) (iM T.kh (aD (aA 0) aH)))
   (aL (ak (bV (aK (aA 0) (aA 1)))))
   bT)
  (aL (ak aF)))
def cJ(T:Txt K mg t):cP P w K mg base (CX1 P w) 1 t.vV t.dh ["_law_cell","_law_k","_law_bound"] (spF K (bY mg) 3 aU):=
 bH (k:=0) (f:=dh) T.cO aAL λ n _ _ _ _ _ _ _=>
  (aG (eV (aLp (aA 0) (aKE aF aF))
   (aG (az (i:=3) (fH (aA 0)))
   (aG (fK (dY (aD (aA 1) aH) T.cu) (cA (ks:=[4]))
    (aL (az (i:=3) (fH (aCd (aA 3) (aA 2))))))
   (aL (ak (qQ (aA 3) (aA 2))))))
   bT)
  (aG (az (i:=5) (fH (qQ (oH (dN (dN (qQ (aA 0) aF) (oH aF (aA 1))) aF) aF) aF)))
  (aG (az (i:=5) (fH (qQ (dN (dN (oH (aA 5) (aA 5)) (oH aF (aA 1))) aF) aF)))
  (aL (ak (qQ (aCd (qQ (oH (aA 5) aF) aF) aF) (aA 2)))))))
def yw(T:Txt K mg t):cP P w K mg base (CX1 P w) 1 t.rY t.eF ["_law_found"] (spF K (bY mg) 1 jF):=
 bH (k:=0) (f:=eF) T.rz yd λ n _ _ _ _ _ _ _=>
  (aL (ak (gO (jw (aA 0) T.bW T.aJa) (ju (aEg (jw (aA 0) T.bW T.aF5))))))
def aBs(T:Txt K mg t):cP P w K mg base (CX1 P w) 1 t.xJ t.iB ["_law_web"] (spF K (bY mg) 1 m8):=
 bH (k:=0) (f:=iB) T.xR aBb λ n _ _ _ _ _ _ _=>
  (aG (gZ (i:=1) (rD (aLr (aB8 T.aKu T.cu (aK (aA 0) aF)))))
  (aG (gZ (i:=2) (rD (qP aH)))
  (aG (uM (wL (gM 1) (qR aH))
   (aG (tM (i:=3) (aJL (N:=["_law_place","_law_web","_law_left"]) (js:=[none,some 0,some 1]) (ks:=[0]) (jK (aA 1)) cz (uQ (kZ (aAH (N:=["_law_one","_law_other","_law_place","_law_left"]) (js:=[none,none,some 0,some 2]) (ks:=[0,1]) (jK (aK (aA 1) aF)) (aB4 (n:=2) (jW cz (jW cz yR))) (uQ (SW.st (jt (kZ (aA 1) (aA 2)) (iz (aJM (aA 0) (aA 3)))))) (bV (aA 0))) (qR aH))) (bV (aA 0))))
   (aG (eV (kZ (fZ 3) (qR aH))
    (aL (ak lQ))
    bT)
   (aG (dm 2 (aK (fZ 3) aF))
   (aL (wM 1 (aK (fZ 3) aF)))))))
  (aL (ak (lO T.fu (aD (pI 2) aH)))))))
def aBu(T:Txt K mg t):cP P w K mg base (CX1 P w) 2 t.xM t.iD ["thing"] (spF K (bY mg) 1 m9):=
 bH (k:=1) (f:=iD) T.xU aBd λ n _ _ _ _ _ _ _=>
  (aL (ak (gO (aZ (rG T) T.oZ (aD (aA 0) aH)) (ju (aH3 aF (aA 0) (aH4 T.gB T.vy (λ _ _=>.int _)))))))
def rJ(T:Txt K mg t):cP P w K mg base (CX1 P w) 2 t.vX t.fQ ["many","thing"] (spF K (bY mg) 2 dj):=
 bH (k:=1) (f:=fQ) T.o5 aAN λ n _ _ _ _ _ _ _=>
  (aL (ak (gO (aZ (rG T) T.oZ (aD (aA 1) aH)) (ju (aCc aF (aA 1) (aA 0))))))
def uf(T:Txt K mg t):cP P w K mg base (CX1 P w) 2 t.xH t.gw ["web"] (spF K (bY mg) 1 dJ):=
 bH (k:=1) (f:=gw) T.qx aBa λ n _ _ _ _ _ _ _=>
  (aG (az (i:=1) (fH (aZ (aBv T) T.xV (aD (aA 0) aH))))
  (aG (gZ (i:=2) (rD (aLr (aAH (N:=["begins"]) (js:=[none]) (ks:=[0]) (jK (aZ (rM T) T.o6 (aD (aA 0) aH))) cz yS (iM T.kh (aD (aA 0) aH))))))
  (aG (gZ (i:=3) (aLn (aJL (N:=["place","waits"]) (js:=[none,some 2]) (ks:=[0]) (dY (aD (aK (aA 0) aF) aH) T.cu) cz (uQ (kZ (aK (aA 1) (aA 0)) aF)) (bV (aA 0)))))
  (aG (gZ (i:=4) (rD (qP aH)))
  (aG (uM (jJ (gM 3))
   (aG (az (i:=5) (fH (aHY T.aA9 (aD (gM 3) aH))))
   (aG (wM 3 (bV (aA 5)))
   (aG (dm 4 (bV (aA 5)))
   (aL (fK (jK (aK (aA 1) (aA 5))) (cA (ks:=[6]))
    (aG (aHN 2 (λ _=>aLI) (aA 6) aF)
    (aL (eV (kZ (aK (gM 2) (aA 6)) aF)
     (aL (dm 3 (bV (aA 6))))
     bT)))))))))
  (aL (ak (pI 4))))))))
def rF(T:Txt K mg t):cP P w K mg base (CX1 P w) 2 t.vU t.fO ["_law_cell","_law_many"] (spF K (bY mg) 2 di):=
 bH (k:=1) (f:=fO) T.oY aAK λ n _ _ _ _ _ _ _=>
  (aG (gZ (i:=2) (rD (qP aH)))
  (aG (fK (dY (aD (aA 1) aH) T.cu) (cA (ks:=[3]))
   (aL (aDW 2 (aZ (cJ T) T.cO (aD (aA 0) (aD (dN aF (aA 3)) (aD (dN (aA 3) aF) aH)))) (bV (aA 3)))))
  (aL (ak (pI 2)))))
def yz(T:Txt K mg t):cP P w K mg base (CX1 P w) 2 t.rm t.eN ["_law_web","_law_thing"] (spF K (bY mg) 2 gK):=
 bH (k:=1) (f:=eN) T.sG yf λ n _ _ _ _ _ _ _=>
  (aG (eV (SW.st (pF (iK (jJ (jw (aA 1) T.bW T.fu))) (jr (kZ (iM T.kh (aD (aA 1) aH)) aF))))
   (aL (ak nO))
   bT)
  (aG (eV (SW.st (pF (iK (jJ (aEj T.aJb (aD (aAH (N:=["_law_one","_law_web"]) (js:=[none,some 0]) (ks:=[0]) (jK (aA 1)) cz yS (gO (aZ (yw T) T.rz (aD (aA 0) aH)) (ju (aCc aF (aA 0) (aK (aA 1) aF))))) aH)))) (jr (uL (aH2 T.kh (aD (aKD T.aJ9 (aD (aA 1) aH)) aH)) (iM T.kh (aD (aA 1) aH))))))
   (aL (ak nO))
   bT)
  (aL (ak (aEj T.aJb (aD (aAH (N:=["_law_k","_law_thing","_law_web"]) (js:=[none,some 1,some 0]) (ks:=[0]) (dY (aD (yX (iM T.kh (aD (aA 1) aH)) aF) aH) T.cu) cz yS (aJQ (eZ (aD (aK (aA 1) (aA 0)) (aD (aK (aA 1) (dN (aA 0) aF)) aH))) (aK (aA 2) aF))) aH))))))
def aBt(T:Txt K mg t):cP P w K mg base (CX1 P w) 3 t.xK t.iC ["many","thing"] (spF K (bY mg) 2 jk):=
 bH (k:=2) (f:=iC) T.xT aBc λ n _ _ _ _ _ _ _=>
  (aG (eV (SW.st (pF (iK (jJ (jw (aA 1) T.bW T.fu))) (jr (wL (iM T.kh (aD (aA 1) aH)) aF))))
   (aL (ak nO))
   bT)
  (aL (ak (gO (aZ (rJ T) T.o5 (aD (aA 0) (aD (aK (aA 1) aF) aH))) (gO (aZ (rJ T) T.o5 (aD (aA 0) (aD (aK (aA 1) aF) aH))) (ju (aLt (aK (aA 1) aF) (aK (aA 1) aF))))))))
def uh(T:Txt K mg t):cP P w K mg base (CX1 P w) 3 t.n6 t.cW ["_law_cell","_law_most"] (spF K (bY mg) 2 dX):=
 bH (k:=2) (f:=cW) T.nj uW λ n _ _ _ _ _ _ _=>
  (aG (az (i:=2) (fH (aZ (cJ T) T.cO (aD (aA 0) (aD aF (aD (dN (aA 1) aF) aH))))))
  (aG (az (i:=3) (fH (aZ (cJ T) T.cO (aD (aA 0) (aD aF (aD aF aH))))))
  (aG (tM (i:=4) (fH (aK (qR (aD aF (aD aF (aD aF (aD aF (aD aF (aD aF (aD aF (aD aF aH))))))))) (aA 3))))
  (aG (az (i:=5) (fH (aZ (rF T) T.oY (aD (aA 0) (aD (aA 2) aH)))))
  (aG (gZ (i:=6) (rD (qP aH)))
  (aG (az (i:=7) (fH aF))
  (aG (fK (dY (aD (aA 2) aH) T.cu) (cA (ks:=[8]))
   (aL (fK (dY (aD (aA 8) aH) T.cu) (cA (ks:=[9]))
    (aG (az (i:=7) (fH (dN (aA 7) aF)))
    (aG (az (i:=10) (fH (aZ (cJ T) T.cO (aD (aA 0) (aD (aA 7) (aD aF aH))))))
    (aG (eV (SW.st (pF (uL (aA 10) (fZ 4)) (jr (SW.st (jt (kZ (aA 3) aF) (iz (kZ (aA 8) (dN (aA 9) aF))))))))
     (aL (dm 6 (eZ (aD (bV (aK (aA 5) (aA 9))) (aD (bV (aK (aA 5) (aA 8))) aH)))))
     bT)
    (aL (eV (SW.st (pF (SW.st (jt (aJN (aA 3) aF) (jt (wL (aA 3) aF) (iz (uL (aZ (cJ T) T.cO (aD (aA 0) (aD (dN (aA 7) aF) (aD aF aH)))) (yX (fZ 4) aF)))))) (jr (SW.st (jt (kZ (aA 3) aF) (iz (uL (aA 10) aF)))))))
     (aL (dm 6 (eZ (aD (bV (aK (aA 5) (aA 8))) (aD (bV (aK (aA 5) (aA 9))) aH)))))
     bT))))))))
  (aG (eV (SW.st (jt (kZ (aA 3) aF) (iz (aJN (aA 2) aF))))
   (aL (dm 6 (eZ (aD (bV (aK (aA 5) (yX (aA 2) aF))) (aD (bV (aK (aA 5) aF)) aH)))))
   bT)
  (aL (ak (eZ (aD (bV (aA 2)) (aD (lO T.fu (aD (vp T.aA8 T.aJ9 (aD (gM 6) aH)) aH)) aH)))))))))))))
def ug(T:Txt K mg t):cP P w K mg base (CX1 P w) 3 t.nZ t.cV ["_law_cell","_law_most"] (spF K (bY mg) 2 dW):=
 bH (k:=2) (f:=cV) T.ni uV λ n _ _ _ _ _ _ _=>
  (aG (az (i:=2) (fH (aZ (cJ T) T.cO (aD (aA 0) (aD aF (aD (dN (aA 1) aF) aH))))))
  (aG (az (i:=3) (fH (aZ (cJ T) T.cO (aD (aA 0) (aD aF (aD aF aH))))))
  (aG (tM (i:=4) (fH (aK (qR (aD aF (aD aF (aD aF (aD aF (aD aF (aD aF aH))))))) (aA 3))))
  (aG (az (i:=5) (fH (aZ (rF T) T.oY (aD (aA 0) (aD (aA 2) aH)))))
  (aG (gZ (i:=6) (rD (qP aH)))
  (aG (az (i:=7) (fH aF))
  (aG (fK (dY (aD (aA 2) aH) T.cu) (cA (ks:=[8]))
   (aL (fK (dY (aD (aA 8) aH) T.cu) (cA (ks:=[9]))
    (aG (az (i:=7) (fH (dN (aA 7) aF)))
    (aL (eV (SW.st (pF (uL (aZ (cJ T) T.cO (aD (aA 0) (aD (aA 7) (aD aF aH)))) (fZ 4)) (jr (SW.st (jt (kZ (aA 3) aF) (iz (aJM (aA 8) (eZ (aD (dN (oH aF (aA 9)) aF) (aD (dN (oH aF (aA 9)) aF) aH))))))))))
     (aL (dm 6 (eZ (aD (bV (aK (aA 5) (aA 9))) (aD (bV (aK (aA 5) (aA 8))) aH)))))
     bT))))))
  (aL (ak (eZ (aD (bV (aA 2)) (aD (lO T.fu (aD (aD1 T.aA8 (aD (gM 6) aH)) aH)) aH))))))))))))
def yx(T:Txt K mg t):cP P w K mg base (CX1 P w) 3 t.rZ t.eG ["_law_web","_law_thing"] (spF K (bY mg) 2 jG):=
 bH (k:=2) (f:=eG) T.sE ye λ n _ _ _ _ _ _ _=>
  (aL (ak (gO (aZ (yz T) T.sG (aD (aA 0) (aD (aA 1) aH))) (gO (aLv (iM T.kh (aD (aA 1) aH)) aF) (gO (aJR (aCb T.aA9 (aD (aA 1) aH)) (aK (aA 1) aF)) (ju (aJQ (eZ (aD (aK (aA 1) (yZ aF)) (aD (aK (aA 1) aF) aH))) (aK (aA 0) aF))))))))
def my(T:Txt K mg t):cP P w K mg base (CX1 P w) 4 t.iY t.aq ["many","thing"] (spF K (bY mg) 2 bJ):=
 bH (k:=3) (f:=aq) T.ig mj λ n _ _ _ _ _ _ _=>
  (aG (eV (iK (jJ (jw (aA 1) T.bW T.fu)))
   (aL (ak nO))
   bT)
  (aG (fK (jK (aA 1)) (cA (ks:=[2]))
   (aL (eV (iK (jJ (aZ (aBt T) T.xT (aD (aA 0) (aD (aA 2) aH)))))
    (aL (ak nO))
    bT)))
  (aL (ak (aZ (zA T) T.sH (aD (aA 1) aH))))))
def vz(T:Txt K mg t):cP P w K mg base (CX1 P w) 5 t.pZ t.dH ["thing"] (spF K (bY mg) 1 gm):=
 bH (k:=4) (f:=dH) T.ph vq λ n _ _ _ _ _ _ _=>
  (aG (eV (SW.st (pF (iK (jJ (jw (aA 0) T.bW T.fu))) (jr (wL (iM T.kh (aD (aA 0) aH)) aF))))
   (aL (ak nO))
   bT)
  (aL (ak (gO (aZ (aBu T) T.xU (aD (aK (aA 0) aF) aH)) (ju (aZ (my T) T.ig (aD (aK (aA 0) aF) (aD (aK (aA 0) aF) aH))))))))
def j0(T:Txt K mg t):cP P w K mg base (CX1 P w) 6 t.km t.bh ["thing"] (spF K (bY mg) 1 bQ):=
 bH (k:=5) (f:=bh) T.gW qU λ n _ _ _ _ _ _ _=>
  (aL (eV (iK (jJ (aZ (vz T) T.ph (aD (aA 0) aH))))
   (aL (aE7 rfl T.aBx T.aCH T.iH (aD aKC aH)))
   bT))
def lr(T:Txt K mg t):cP P w K mg base (CX1 P w) 7 t.nY t.cU ["web"] (spF K (bY mg) 1 cX):=
 bH (k:=6) (f:=cU) T.jR uU λ n _ _ _ _ _ _ _=>
  (aG (aC8 (aZ (j0 T) T.gW (aD (aA 0) aH)))
  (aG (az (i:=1) (fH (aZ (uf T) T.qx (aD (aA 0) aH))))
  (aL (ak (aLu (kZ (iM T.kh (aD (aA 1) aH)) (aK (aA 0) aF)) (bV (lO T.fu (aD (aA 1) aH))) lQ)))))
def pO(T:Txt K mg t):cP P w K mg base (CX1 P w) 7 t.rW t.dw ["web"] (spF K (bY mg) 1 cL):=
 bH (k:=6) (f:=dw) T.mF yc λ n _ _ _ _ _ _ _=>
  (aG (aC8 (aZ (j0 T) T.gW (aD (aA 0) aH)))
  (aG (az (i:=1) (fH (aZ (uf T) T.qx (aD (aA 0) aH))))
  (aG (az (i:=2) (fH (aZ (rM T) T.o6 (aD (aA 0) aH))))
  (aG (az (i:=3) (aLo (N:=["place","come","order"]) (js:=[none,some 2,some 1]) (ks:=[0]) (dY (aD (aK (aA 0) aF) aH) T.cu) cz (uQ (aBZ (aA 0) (aA 2))) (bV (aA 0)) (aAH (N:=["begin","order"]) (js:=[none,some 2]) (ks:=[0]) (jK (aK (aA 1) (aA 0))) cz (uQ (aBZ (aA 0) (aA 1))) (bV (aA 0)))))
  (aG (eV (iK (aJx (aA 3)))
   (aL (ak lQ))
   bT)
  (aG (gZ (i:=4) (rD (qP (aD (aHZ T.aA9 (aD (aA 3) aH)) aH))))
  (aG (uM (aBZ (aK (aB9 (aA 3) (aK (gM 4) (yZ aF))) aF) (gM 4))
   (aL (dm 4 (bV (aK (aB9 (aA 3) (aK (gM 4) (yZ aF))) aF)))))
  (aG (tM (i:=5) (fH (aHX (aD2 (gM 4) (yM (aAI (gM 4) (aK (aB9 (aA 3) (aK (gM 4) (yZ aF))) aF))) yN))))
  (aG (az (i:=6) (fH (aAI (fZ 5) (aCb T.aA9 (aD (fZ 5) aH)))))
  (aL (ak (lO T.fu (aD (dN (aAG (fZ 5) (yM (aA 6)) yN) (aAG (fZ 5) yN (yM (aA 6)))) aH)))))))))))))
def aKp(T:Txt K mg t):cP P w K mg base (CX1 P w) 8 t.aJd t.v6 ["_law_script"] (spF K (bY mg) 1 aGp):=
 bH (k:=7) (f:=v6) T.aGU aKG λ n _ _ _ _ _ _ _=>
  (aG (fK (dY (aD (aH1 T.aMP (aD aF (aD (aH0 T.aA9 (aD (iM T.kh (aD (aA 0) aH)) (aD aF aH))) aH))) aH) T.cu) (cA (ks:=[1]))
   (aG (az (i:=2) (fH (aZ (um T) T.nq (aD (aA 0) (aD (aA 1) aH)))))
   (aL (fK (jK (qR (aD (aZ (uh T) T.nj (aD (aA 2) (aD aF aH))) (aD (aZ (ug T) T.ni (aD (aA 2) (aD aF aH))) aH)))) (cA (ks:=[3]))
    (aG (az (i:=4) (fH (aZ (aBs T) T.xR (aD (aA 3) aH))))
    (aG (az (i:=5) (fH (aZ (lr T) T.jR (aD (aA 3) aH))))
    (aG (az (i:=6) (fH (aZ (pO T) T.mF (aD (aA 3) aH))))
    (aG (eV (SW.st (pF (wL (aA 5) (aA 4)) (jr (SW.st (jt (zx (aA 4) lQ) (iz (iK (jJ (jw (aA 5) T.bW T.fu)))))))))
     (aL (ak nO))
     bT)
    (aL (eV (SW.st (pF (wL (aJP (aA 6) lQ) (aEh (aA 4) lQ)) (jr (SW.st (jt (zx (aA 6) lQ) (iz (iK (jJ (aZ (yx T) T.sE (aD (aA 3) (aD (aA 6) aH)))))))))))
     (aL (ak nO))
     bT))))))))))
  (aL (ak (gO (aJR (aZ (lr T) T.jR (aD (eZ (aD aF (aD (eZ aH) aH))) aH)) (eZ aH)) (ju (aJP (aZ (pO T) T.mF (aD (eZ (aD aF (aD (eZ aH) aH))) aH)) lQ))))))
end
def aJp{K:zAA}{h:Heap}{mg:Str->Option Value}{tk_MOST_PLACES:Tok}{q_FewError:Addr}{q_NoOneWay:Addr}(X:K.In h)(G:h.Ns zAv mg)
  (h0:∃f d,Enr K "is_whole" oM f d)
  (h1:∃f d,Enr K "is_many" qZ f d)
  (h2:∃f d,Enr K "is_place" oN f d)
  (h3:∃f d,Enr K "is_pair" qY f d)
  (h4:∃f d,Enr K "is_rising" lZ f d)
  (h5:∃f d,Enr K "are_rising_pairs" dg f d)
  (h6:∃f d,Enr K "is_one_way" jy f d)
  (h7:∃f d,Enr K "check_one_way" gP f d)
  (h8:∃f d,Enr K "all_led" q9 f d)
  (h9:∃f d,Enr K "all_come" oO f d)
  (h10:∃f d,Enr K "ordered" qW f d)
  (h11:∃f d,Enr K "least_order" jL f d)
  (h12:∃f d,Enr K "some_ring" lR f d)
  (h13:∃f d,Enr K "_law_cell_at" jO f d)
  (h14:∃f d,Enr K "_law_draw" oK f d)
  (h15:∃f d,Enr K "_law_whole" lU f d)
  (h16:∃f d,Enr K "_law_turn" oJ f d)
  (h17:∃f d,Enr K "_law_one_way" jN f d)
  (h18:∃f d,Enr K "_law_ordered" jM f d)
  (h19:∃f d,Enr K "_law_along" lW f d)
  (h20:∃f d,Enr K "_law_round" lV f d)
  (h21:∃f d,Enr K "_law_due" qX f d)
  (h22:∃f d,Enr K "law" aEk f d)
  (gB:zB0 K zAv "MOST_PLACES"=some (some (.int 60 tk_MOST_PLACES)))
  (y_FewError:zB0 K zAv "FewError"=some (some (.ref q_FewError)))
  (jq:tK K q_FewError)
  (y_NoOneWay:zB0 K zAv "NoOneWay"=some (some (.ref q_NoOneWay)))
  (iH:tK K q_NoOneWay)
  (z_all:zB0 K zAv "all"=some none)
  (z_bool:zB0 K zAv "bool"=some none)
  (z_int:zB0 K zAv "int"=some none)
  (z_isinstance:zB0 K zAv "isinstance"=some none)
  (z_len:zB0 K zAv "len"=some none)
  (z_list:zB0 K zAv "list"=some none)
  (z_max:zB0 K zAv "max"=some none)
  (z_min:zB0 K zAv "min"=some none)
  (z_range:zB0 K zAv "range"=some none)
  (z_set:zB0 K zAv "set"=some none)
  (z_sorted:zB0 K zAv "sorted"=some none)
  (z_tuple:zB0 K zAv "tuple"=some none):
  ∃t,Txt K mg t:=by
 obtain⟨f0,d0,F0,a0⟩:=dnr X G h0 ["thing"];obtain⟨f1,d1,F1,a1⟩:=dnr X G h1 ["thing"];obtain⟨f2,d2,F2,a2⟩:=dnr X G h2 ["many","thing"];obtain⟨f3,d3,F3,a3⟩:=dnr X G h3 ["many","thing"];obtain⟨f4,d4,F4,a4⟩:=dnr X G h4 ["things"];obtain⟨f5,d5,F5,a5⟩:=dnr X G h5 ["many","thing"];obtain⟨f6,d6,F6,a6⟩:=dnr X G h6 ["thing"];obtain⟨f7,d7,F7,a7⟩:=dnr X G h7 ["thing"];obtain⟨f8,d8,F8,a8⟩:=dnr X G h8 ["web"];obtain⟨f9,d9,F9,a9⟩:=dnr X G h9 ["web"];obtain⟨f10,d10,F10,a10⟩:=dnr X G h10 ["web"];obtain⟨f11,d11,F11,a11⟩:=dnr X G h11 ["web"];obtain⟨f12,d12,F12,a12⟩:=dnr X G h12 ["web"];obtain⟨f13,d13,F13,a13⟩:=dnr X G h13 ["_law_script","_law_k"];obtain⟨f14,d14,F14,a14⟩:=dnr X G h14 ["_law_cell","_law_k","_law_bound"];obtain⟨f15,d15,F15,a15⟩:=dnr X G h15 ["_law_found"];obtain⟨f16,d16,F16,a16⟩:=dnr X G h16 ["_law_cell","_law_many"];obtain⟨f17,d17,F17,a17⟩:=dnr X G h17 ["_law_cell","_law_most"];obtain⟨f18,d18,F18,a18⟩:=dnr X G h18 ["_law_cell","_law_most"];obtain⟨f19,d19,F19,a19⟩:=dnr X G h19 ["_law_web","_law_thing"];obtain⟨f20,d20,F20,a20⟩:=dnr X G h20 ["_law_web","_law_thing"];obtain⟨f21,d21,F21,a21⟩:=dnr X G h21 ["_law_web"];obtain⟨f22,d22,F22,a22⟩:=dnr X G h22 ["_law_script"];exact⟨⟨f0,_,f1,_,f2,_,f3,_,f4,_,f5,_,f6,_,f7,_,f8,_,f9,_,f10,_,f11,_,f12,_,f13,_,f14,_,f15,_,f16,_,f17,_,f18,_,f19,_,f20,_,f21,_,f22,_,_,q_FewError,q_NoOneWay⟩,⟨F0,F1,F2,F3,F4,F5,F6,F7,F8,F9,F10,F11,F12,F13,F14,F15,F16,F17,F18,F19,F20,F21,F22,zDi X G gB,⟨_,rfl⟩,zDi X G y_FewError,(by unfold bY;rw[zDi X G y_FewError]),jq,zDi X G y_NoOneWay,(by unfold bY;rw[zDi X G y_NoOneWay]),iH,zBY X G z_all,zBY X G z_bool,zBY X G z_int,zBY X G z_isinstance,zBY X G z_len,zBY X G z_list,zBY X G z_max,zBY X G z_min,zBY X G z_range,zBY X G z_set,zBY X G z_sorted,zBY X G z_tuple⟩⟩
def aLa{l:zFi}{w:World}{K:zAA}{h:Heap}{mg:Str->Option Value}{fa:Addr}(X:K.In h)(G:h.Ns zAv mg)(hfa:mg "law"=some (.ref fa))(ht:∃t,Txt K mg t):
  ∃fd:zBA,(∀(s:zAF) (v:Value),zGL s fd ⟨[v],[]⟩ [("_law_script",v)])/\∀base:Heap,K.In base->base.Ns zAv mg->cP l.prog w K mg base (CX1 l.prog w) 8 fa fd ["_law_script"] (aC9 K):=by
 obtain⟨t,T⟩:=ht;have e:=hfa.symm.trans T.aGU.m;cases e;refine⟨t.v6,λ s v=>?_,λ base _ _=>(aKp T).imp (aIS aFd)⟩;obtain⟨oc,od,kV,doc,pm,an,cdv,ct,osl,e,lk,hcd⟩:=T.aGU.F.ex;rw[e];exact .of_eq rfl
def walk{l:zFi}{q:zA7}{loose:List Str}{XP:(Str->Option Value)->Heap->Prop}{YP:World->Heap->Prop}{d:DefRec}{K:Params->zAA}(hn:l.most=some 63)(hdf:d.params.defaults=[])
  (hY:∀(w:World) (h:Heap),YP w h->(K w.params).In h)
  (F:∀(w:World) (mg:Str->Option Value) (fa:Addr) (h:Heap),(K w.params).In h->h.Ns zAv mg->mg d.name=some (.ref fa)->
   ∃fd:zBA,(∀(s:zAF) (u:Value),zGL s fd ⟨[u],[]⟩ [("_law_script",u)])/\∀base:Heap,(K w.params).In base->base.Ns zAv mg->cP l.prog w (K w.params) mg base (CX1 l.prog w) 8 fa fd ["_law_script"] (aC9 (K w.params))):
  zI6 q loose XP YP l.row.toRowW d [] (λ f vs=>zHm f vs):=
 L2.aHD (n:=63) (k:=8) (x:="_law_script") (CX:=λ w=>CX1 l.prog w) (sp:=λ w=>aC9 (K w.params)) hn (by decide) hdf ⟨rfl,by decide,by decide⟩ hY F (λ _ _ a ns hl hO hS=>⟨a,ns,rfl,aKF hO hS,hl,λ _=>rfl⟩) λ _ _ _ _ _ ⟨_,_,_,_,_,_,_,_,_,_,_,_,_,z⟩=>z
end VL.My
open PySem PySem.W PyProof.Rows
set_option maxRecDepth 100000 in
set_option maxHeartbeats 0 in
theorem PySem.Challenge.cw_fewways_k53_orders_or_rings_holds : PySem.Challenge.rw_fewways_k53_orders_or_rings.Holds := by
 w_on; o_law; k_head; (case hw=>w_witness2)
 k_fill
 refine VL.My.walk (l:=PySem.Challenge.rw_fewways_k53_orders_or_rings) rfl rfl (fun w h Y=>PySem.W.kIn_of Y) ?F
 case F =>
  intro w mg fa h KX G hmg
  refine VL.My.aLa KX G hmg ?T
  case T =>
   refine' VL.My.aJp KX G (VL.enr ?a0 ?l0 ?c0 ?k0) (VL.enr ?a1 ?l1 ?c1 ?k1) (VL.enr ?a2 ?l2 ?c2 ?k2) (VL.enr ?a3 ?l3 ?c3 ?k3) (VL.enr ?a4 ?l4 ?c4 ?k4) (VL.enr ?a5 ?l5 ?c5 ?k5) (VL.enr ?a6 ?l6 ?c6 ?k6) (VL.enr ?a7 ?l7 ?c7 ?k7) (VL.enr ?a8 ?l8 ?c8 ?k8) (VL.enr ?a9 ?l9 ?c9 ?k9) (VL.enr ?a10 ?l10 ?c10 ?k10) (VL.enr ?a11 ?l11 ?c11 ?k11) (VL.enr ?a12 ?l12 ?c12 ?k12) (VL.enr ?a13 ?l13 ?c13 ?k13) (VL.enr ?a14 ?l14 ?c14 ?k14) (VL.enr ?a15 ?l15 ?c15 ?k15) (VL.enr ?a16 ?l16 ?c16 ?k16) (VL.enr ?a17 ?l17 ?c17 ?k17) (VL.enr ?a18 ?l18 ?c18 ?k18) (VL.enr ?a19 ?l19 ?c19 ?k19) (VL.enr ?a20 ?l20 ?c20 ?k20) (VL.enr ?a21 ?l21 ?c21 ?k21) (VL.enr ?a22 ?l22 ?c22 ?k22) ?gB ?y_FewError ?jq ?y_NoOneWay ?iH ?z_all ?z_bool ?z_int ?z_isinstance ?z_len ?z_list ?z_max ?z_min ?z_range ?z_set ?z_sorted ?z_tuple
   (case y_FewError=>k_is); (case jq=>unfold L2.tK; k_exc)
   (case y_NoOneWay=>k_is); (case iH=>unfold L2.tK; k_exc)
   any_goals k_is
