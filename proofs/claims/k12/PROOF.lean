import PyProof.Rows.All
import KE.KDictOf
import PyProof.DictWalks
import Wide.All
import OpenK.AllK
import Wide.FinOn
import Lean
import PyProof.EqAt
import PyProof.EqKinds
import PyProof.TupleCall
import KE.LcSums
import PySem.Challenge.RW_fewways_k12_partings_counted
open Array renaming length_toList->zDM,toList_append->zG5,append_assoc->zGi,toList->zHp
open Bool renaming and_eq_true->zAC,false_ne_true->zA7,or_eq_true->zCO,not_eq_true'->zCX,eq_iff_iff->zCe,and_false->zD3,and_true->zDi,and_assoc->zES,or_true->zIE
open Classical renaming byContradiction->zAq
open False renaming elim->zAF
open ForInStep renaming yield->zBY
open Function renaming comp->zEP,comp_def->zGY
open Int renaming toNat_of_nonneg->zBF,emod_lt_of_pos->zD4,emod_nonneg->zEI,fdiv_eq_ediv_of_nonneg->zFi,natAbs_natCast->zHK,natCast_nonneg->zHL,toNat_natCast->zHW,natCast_add->zHe
open LawfulBEq renaming eq_of_beq->zDO
open List renaming length_map->zAD,map_cons->zAE,mem_cons_self->zAG,getElem?_eq_getElem->zAH,getElem?_eq_some_iff->zAJ,mem_cons_of_mem->zAL,size_toArray->zAM,mem_cons->zAN,replicate->zAO,length_append->zAT,map_map->zAU,mem_filter->zAV,mem_map->zAX,getElem?_map->zAZ,range->zA1,mem_singleton->zA3,mem_append_left->zA4,nodup_cons->zA5,length_cons->zA6,mem_append_right->zA9,lookup_cons->zAb,map_append->zAc,mem_of_getElem?->zAg,perm_ext_iff_of_nodup->zAl,all_eq_true->zAm,mem_range->zAn,mem_append->zAp,length_singleton->zAt,filter_cons->zAx,append_nil->zBB,getElem?_set_ne->zBD,length_pos_iff->zBE,filter_congr->zBG,pairwise_map->zBH,zip_cons_cons->zBI,replicate_succ->zBL,nodup_append->zBM,length_eq_zero_iff->zBP,length_nil->zBQ,length_set->zBR,filter_eq_self->zB0,length_range->zB1,getElem?_append_left->zB3,filterMap_cons->zBd,find?_cons->zBe,getElem?_set_self->zBg,cons_append->zBj,length_take->zBk,not_mem_nil->zBl,filter_append->zBn,mem_filterMap->zBo,drop_eq_getElem_cons->zBq,flatten_cons->zBt,foldl_cons->zBu,getElem?_cons_succ->zCA,getElem?_cons_zero->zCB,map_congr_left->zCC,mem_flatMap->zCI,take_of_length_le->zCJ,length_filter_le->zCP,length_replicate->zCQ,Nodup->zCY,append_assoc->zCZ,nodup_nil->zC3,getElem?_replicate->zCg,nil_append->zCh,range_succ->zCi,filter_eq_nil_iff->zCp,range_succ_eq_map->zCq,take_add_one->zCr,getElem?_eq_none->zCx,min?_eq_some_iff->zCy,drop_length->zDC,getLast?_eq_some_getLast->zDD,getElem_toArray->zDH,any_cons->zDK,filter_sublist->zDQ,getElem?_range->zDR,length_flatMap->zDS,of_mem_zip->zDT,getElem?_append_right->zDW,nodup_iff_pairwise_ne->zDX,lookup_append->zDY,ne_nil_of_mem->zDZ,getElem?_zip_eq_some->zD5,pairwise_iff_getElem->zD6,foldl_append->zDc,sum_cons->zDj,mem_reverse->zDm,countP_map->zEA,map_nil->zEB,isEmpty_toArray->zEQ,contains_cons->zEc,getLast?_cons->zEd,eq_nil_iff_forall_not_mem->zEp,any_eq_true->zEs,getElem_mem->zEt,getLast_mem->zEu,map_fst_zip->zEv,nodup_range->zEw,filter_nil->zFL,min?->zFM,drop_zero->zFk,mem_take_iff_getElem->zFl,foldl->zGC,all_cons->zGH,length_pos_of_mem->zGN,all_map->zGZ,concat_eq_append->zG0,contains_iff_mem->zG1,eq_nil_or_concat->zG2,singleton_append->zG3,getElem_of_mem->zGj,length->zGk,mem_map_of_mem->zGl,perm_singleton->zGm,pairwise_cons->zGu,set_cons_succ->zGv,set_cons_zero->zGw,zip_nil_right->zGx,any_eq_false->zHM,reverse_perm->zHN,take_sublist->zHO,zip_nil_left->zHP,countP_cons->zHX,length_drop->zHY,map_snd_zip->zHZ,nil_sublist->zH0,map_const'->zH9,set->zHs,reverse->zIM
open List.Pairwise renaming imp_of_mem->zDG,nil->zDr,map->zIL
open List.Sublist renaming refl->zDz
open List.cons renaming inj->zGt
open Nat renaming le_refl->zAP,lt_of_lt_of_le->zAR,ne_of_lt->zAa,le_trans->zAh,zero_le->zAj,pow_le_pow_right->zAr,lt_irrefl->zAw,ge_two_pow_of_testBit->zBJ,le_of_lt->zBT,ne_of_gt->zCT,lt_succ_self->zC7,two_pow_pos->zCk,testBit_lt_two_pow->zDs,le_of_ble_eq_true->zEJ,testBit_eq_decide_div_mod_eq->zEj,le_of_eq->zEx,le_max_right->zFB,le_of_not_lt->zFC,le_max_left->zFW,le_succ->zFX,shiftRight_eq_div_pow->zGD,not_lt->zGI,lt_trans->zG7,min_self->zG8,mul_comm->zG9,pow_succ->zGa,sub_self->zGb,sub_zero->zGc,succ_eq_add_one->zGy,lt_of_le_of_lt->zHQ,lt_succ_of_lt->zH1,succ_min_succ->zH2,add_one_inj->zHf,and_le_left->zHg,not_lt_zero->zHh,strongRecOn->zHi,mul_le_mul->zHt
open Nat.succ renaming inj->zFm
open Ne renaming symm->zC0
open Option renaming map_eq_some_iff->zBc,map_some->zDp,isSome_some->zGd,isSome_map->zGn,bind_some->zGz,getD_none->zHA,none->zHu
open Option.some renaming inj->zAe
open Or renaming inr->zBK,inl->zBm
open Prod renaming fst->zFD,ext->zHB
open PyProof.Rows renaming slot_tuple_getitem->zBS,callWith_type1->zB8,IntsAre->zBf,KeyOrd->zC6,envOfC->zCc,SortSt->zDE,kindOf->zDF,SortKind->zDL,AllBare->zE3,pendingOf->zGT,failedOf->zHE,subscriptTail->zHG,subscriptTail_builtinR->zHV,entry_tuple_getitem->zHl,args_tuple_getitem->zHx,Subscript_->zIO,boot_range->zIQ
open PyProof.Rows.IsTup renaming new->zFA
open PyProof.V.Flat renaming int->zFE
open PySem renaming Shared->zAB,sizeLine->zAK,wpAny_bind->zAQ,Program->zAS,starEach->zAY,mainGlobals->zA2,Around->zA8,wpAny_pure->zAi,mem_of_lookup->zAk,FuncData->zAo,bootBuiltins->zAv,compareOp->zAy,wpAny_mono->zBC,foldedSetIterable->zBO,attributeBase->zBV,sysModules->zBX,wpAny_truthy_bool->zB6,binaryOp->zB7,wpAny_Call_Name_kw->zBa,wpAny_newObj_type->zBi,Keyword->zBw,backTo->zCE,call_meets->zCF,swapsWith->zCG,wpAny_loadPart_at->zCH,behindInMarks->zCM,sizeLine_eq->zCN,assignEach->zCR,callerA->zCV,codeAny->zCW,wpAny_passesOwn->zC2,cellsFrom->zCb,wpAny_binaryOp_repeat_ref->zCd,keywordEach->zCl,Arguments->zCs,letOwnedTupleGo->zCu,tupleKind_room_in1->zCv,wpAny_holding->zCw,typeIs_int->zDI,GenState->zDJ,tupleKind->zDP,NameKind->zD0,sliceBounds->zD8,wpAny_execs_nil->zD9,wpAny_isSubtype_exc->zDa,wpAny_loadPart'->zDb,wpAny_newFunctionEnv_cells->zDh,holding->zDo,assign->zDv,wpAny_comprehension_free->zDw,backToKw->zEL,excClassObj->zEM,wpAny_callSpecial?_slot->zEN,wpAny_standAt->zEO,Paired->zE5,call_meetsIn->zE8,codeAny_call_function->zE9,codeAny_mono->zEa,getItem->zEb,closureFor->zEe,intItems->zEf,typeLookup->zEg,wpAny_Name->zEh,Result->zEk,newFunctionEnv->zEl,recursionLimit->zEm,valueAt->zEr,codeAmong->zFJ,Builtin->zFV,relabel->zFg,standAt->zFh,IsPart->zFj,wpAny_typeOf->zGB,noFill_tuple_add->zGF,wpAny_call_entry->zGG,SetTable->zGJ,codeAny_builtin->zGR,intKind->zGS,richCompare->zGU,subscripted->zGV,wpAny_field->zGW,evalArgs_none->zGf,PyData->zGo,BindsTo->zGq,call->zHC,seq_tuple_add->zHF,swappedStores->zHH,swapsWithSole->zHI,wpAny_Call_method0_late->zHJ,seqSlot_of->zHT,richCompare_meets_room->zHU,PassesOwn->zH3,codeAny_func->zH5,concat_meets->zH6,lastMarks->zH7,wpAny_isTrue_Compare1->zH8,codeAny_call_builtin->zHb,wpAny_loadName_local->zHc,intItems_at->zHm,wpAny_loadName_cell->zHn,wpAny_loadName_free->zHo,Within->zHw,bindArgs->zHy,numAt_eq->zHz,pyNext->zIA,wpAny_getItem_heap->zIB,wpAny_pyIter_tuple->zIC,wpAny_setItem_heap->zID,builtinsNs->zIR,defaultsOf->zIS,slot_list_getitem->zIT,wpAny_assign_Name->zIU,wpAny_call->zIV,wpAny_pyIter_enum->zIW,wpAny_pyIter_list->zIX,wpAny_sequenceKey->zIY
open PySem.Around renaming frames_deeper->zGK,under_plainId->zGL
open PySem.AutoSeq1 renaming sub_tuple_tuple->zEy
open PySem.Builtin renaming bitAnd->zC1
open PySem.Builtin.List renaming listTooLong->zCS
open PySem.Builtin.Range renaming rangeSize->zB4,small->zCo,rangeFitsLong->zET
open PySem.Builtin.Slice renaming slicePlaces->zCK,sliceAdjust->zDB,sliceApplied->zEZ,sliceFields->zIF,slicePartIndex->zIG
open PySem.Builtin.Tuple renaming tupleExact->zBW,tupleCompareSizes->zDq,tupleItemsOf->zE0,tupleTooMany->zE1,tupleHashOf->zIH,tupleIsExact->zII
open PySem.Calls renaming callWith_builtin->zCm,evalArgs_plain->zEH,spliced_cons->zE4,Name_function_global->zFK,spliced_nil->zGr
open PySem.CmpOp renaming NotIn->zIJ
open PySem.Data renaming seq->zHq
open PySem.F renaming plainAttrs_list->zBN,slot_int_rmul->zBy,plainAttrs_dict->zC8,slot_dict_items->zC9,slot_list_count->zCa,slot_list_append->zCf,slot_tuple_mul->zDN,args_tuple_add_2->zD1,type_list_append->zD2,entry_tuple_add->zD7,slot_tuple_add->zDf,args_int_rmul_2->zDl,slot_dict_get->zDn,entry_int_rmul->zDx,slot_int_index->zDy,fills_int_mul->zEU,typeOf_object_class->zEV,args_tuple_mul_2->zEn,entry_tuple_mul->zEz,args_dict_items_1->zFF,args_list_count_2->zFG,slot_dict_getitem->zFH,entry_dict_items->zFN,entry_list_count->zFO,args_dict_get_3->zFY,plain_list_iadd->zFZ,slot_dict_clear->zF0,slot_list_index->zF1,type_dict_items->zF2,type_list_count->zF3,entry_dict_get->zFn,slot_list_extend->zGX,slot_gs_get->zG6,slot_enumerate_next->zGs,slot_tuple_rmul->zHd
open PySem.Heap renaming get?_push_of_some->zAI,lt_size->zAW,get?_push_size->zA0,size_push->zBp,SameBut->zEo,FlyingW->zIK
open PySem.Heap.DictOf renaming new->zGM
open PySem.Heap.IsSliceOf renaming new->zHr
open PySem.NameKind renaming free->zBh,cell->zCz
open PySem.Paired renaming length->zDd,snoc->zHv
open PySem.SeqAt renaming EqAt->zBs,list_countAt->zGp
open PySem.SeqAt.EqAt renaming of_refs->zBz,same->zC5,bool_bool->zDk,int_int->zED,int_str->zEE,str_int->zEF,bool_tuple->zFP,list_tuple->zFQ,none_tuple->zFR,tuple_bool->zFS,tuple_list->zFT,tuple_none->zFU,bool_list->zF5,bool_none->zF6,int_tuple->zF7,list_bool->zF8,list_none->zF9,none_bool->zFa,none_list->zFb,str_tuple->zFc,tuple_int->zFd,tuple_str->zFe,bool_int->zFp,bool_str->zFq,int_bool->zFr,int_list->zFs,int_none->zFt,list_int->zFu,list_str->zFv,none_int->zFw,none_str->zFx,str_bool->zFy,str_list->zFz,str_none->zGA,str_str->zGE
open PySem.SeqAt.RcAt renaming lists_lengths->zDV,tuples->zER,lists->zE2
open PySem.Str renaming ofString->zGg
open PySem.Value renaming ref->zAu,bool->zCU,int->zCt,builtin->zDg,type->zEG,notImplemented->zEK,str->zGQ,isInt->zGh,none->zHD,isStrOf->zHk,float->zIP
open PySem.W renaming Frag->zAA,nsIn->zAd,mg_of->zAf,mg_none_of->zAs,kia_one->zAz,findIn->zBA,emptyDict->zBU,keepIn->zBZ,fnOf->zB2,kitOne->zB9,hideAll->zBb,instObj->zBr,hideAll_get->zBx,tabObj->zCD,kla_obj->zCL,envX->zC4,cellsFrom_some->zCj,codeIn->zCn,looks_findIn->zDA,of_hideAll->zDU,codeHdIn->zDe,hideAll_none->zDt,hideAll_size->zDu,lookIn->zEC,Looks->zEW,callWith_K->zEX,codeRec_of->zEY,kitx_dict->zE6,methodObj->zE7,plainGet->zEi,OpenLaw->zEq,kla_fn->zFI,excIn->zF4,funFrames_hide->zFo,codeHd_of_K->zGO,plainGet_of->zGP,kitx_tuple->zG4,kitx_list->zGe,CodeHd->zHR,InstAt->zHS,WalkO->zH4,isFn->zHa
open PySem.W.Looks renaming ld->zIN
open Sum renaming inl->zB5,inr->zFf
open Sum.inl renaming inj->zHj
open True renaming intro->zBv
noncomputable section
namespace PySem.W.Fast
def tw11899376937418997286:=0
def tw13682843184879370246:=0
def tw13622194475791754982:=0
def tw11032964210968439590:=0
def tw18432031321777691494:=0
def tw4390144898122367238:=0
def tw9234004213125435366:=0
def tw16086711126588354950:=0
def tw16695148719820260454:=0
def tw9774173885716217958:=0
def tw8273872815214966214:=0
def tw3888517443144323718:=0
def tw14215132875289049167:=0
def tw1891980601856668751:=0
def tw15637408313355064463:=0
def tw1560730191661510799:=0
def tw7914569638748397135:=0
def tw7135767960578846351:=0
def tw2322845012694687439:=0
def tw10598950664326574255:=0
def tw2562701526952067908:=0
def tw6671182792070384644:=0
def tw16439586941274075108:=0
def tw18428789437826478468:=0
def tw14813680285278003588:=0
def tw703403603908852164:=0
def tw963156745313574596:=0
def tw6801083128833360525:=0
def tw2303066315264664557:=0
def tw17099832965783625837:=0
def tw7268990490612486989:=0
def tw12946607814512883949:=0
def tw4504691785045925837:=0
def tw4514043583509786029:=0
def tw7989193190175334957:=0
def tw168296313166002445:=0
def tw14688654120012747021:=0
def tw12179303338068848973:=0
def tw5361583890244370765:=0
def tw7908639126991970722:=0
def tw13950643566380044098:=0
def tw7698998962007131874:=0
def tw10832025011596841154:=0
def tw1396209033652126690:=0
def tw2789668955009611074:=0
def tw1079663857267115330:=0
def tw17041130728146105506:=0
def tw8699605646441979394:=0
def tw11524180215428050379:=0
def tw7769862810437234475:=0
def tw8490363586301691403:=0
def tw8362111548675914859:=0
def tw15576371383558825131:=0
def tw8711786245254733707:=0
def tw16447371867899468075:=0
def tw13694529459895153803:=0
def tw1252823053282642656:=0
def tw8599910105154161152:=0
def tw2885176089595625216:=0
def tw4247582992424131456:=0
def tw7412953443317096800:=0
def tw18403682759115779424:=0
def tw17135595250282153024:=0
def tw3117666239549333920:=0
def tw6038904144588485152:=0
def tw7256967930869228064:=0
def tw7751932391727941577:=0
def tw959377296500197033:=0
def tw7352060687706069193:=0
def tw11981777248451682569:=0
def tw6524180729166393737:=0
def tw248254106705705545:=0
def tw4094580679474337065:=0
def tw16423379907933989225:=0
def tw10684089480787830185:=0
def tw12916691788276301577:=0
def tw930952950393984062:=0
def tw189116322293700734:=0
def tw11159805652757353726:=0
def tw3977456505115847230:=0
def tw5969674410710531998:=0
def tw864250029657551902:=0
def tw8269259016046668958:=0
def tw16364857334209477918:=0
def tw13075958413220730206:=0
def tw11258408162825979527:=0
def tw5729024008386035463:=0
def tw2820679850318386663:=0
def tw15328176856287833095:=0
def tw3652999570374930503:=0
def tw13582159635007726375:=0
def tw17499496749472933063:=0
def tw14789262257802300455:=0
def tw10049445354756563335:=0
def tw17714317671620265788:=0
def tw7876263565537853724:=0
def tw18154129574095436124:=0
def tw7925937373008442780:=0
def tw13486736585776040412:=0
def tw16878093129933672924:=0
def tw343727673899866428:=0
def tw7582718716412542268:=0
def tw1335548581702618780:=0
def tw6309747795173628572:=0
def tw14628417432763151004:=0
def tw12312283641712858492:=0
def tw7076206190284532636:=0
def tw13688166102733294204:=0
def tw14276381699390072229:=0
def tw11137545278694869765:=0
def tw13946165007606859237:=0
def tw14994796281337428805:=0
def tw399508574807285413:=0
def tw17312856910158762053:=0
def tw10495148098265251077:=0
def tw3656298942674039109:=0
def tw9969966622463456645:=0
def tw1181014698580942053:=0
def tw12197880388638286170:=0
def tw2683507415187230842:=0
def tw2354982805540899962:=0
def tw4781708313635194394:=0
def tw11876890873962788378:=0
def tw14161578768239013530:=0
def tw5969732649297729242:=0
def tw2552124586514993946:=0
def tw1675059570390047226:=0
def tw16406300274389681722:=0
def tw17927411351375807034:=0
def tw5402029306031213466:=0
def tw11428441510139261562:=0
def tw14031901913543381443:=0
def tw16141889429236389027:=0
def tw3215170239254496771:=0
def tw16821399875649184099:=0
def tw249030755527099363:=0
def tw12260356384288207832:=0
def tw7154026931987036984:=0
def tw2915166287491948408:=0
def tw18250426803405187352:=0
def tw7250715883347388472:=0
def tw6687117954654129208:=0
def tw9882909873875504728:=0
def tw6446331648452872920:=0
def tw884596766415171352:=0
def tw7136273637722692152:=0
def tw8841810481485684344:=0
def tw15610411359228820385:=0
def tw10274317835296137473:=0
def tw3122336113119202273:=0
def tw17810668158546174273:=0
def tw10552461682169361025:=0
def tw3146359859908926145:=0
def tw18097266682726810017:=0
def tw18113477327946436417:=0
def tw13136295586123052929:=0
def tw17633536767164324577:=0
def tw2574255921852490817:=0
def tw3907095085108949057:=0
def tw11385916600668842785:=0
def tw8182781252293289686:=0
def tw13992491167696005622:=0
def tw18120753347816488854:=0
def tw8958789232949388246:=0
def tw12387224903163137046:=0
def tw3817965932822622966:=0
def tw10522223967230474326:=0
def tw17761330134484116630:=0
def tw6448702378265389942:=0
def tw15785906311415627990:=0
def tw10997221035632019734:=0
def tw4558328914316728726:=0
def tw3417029574686436470:=0
def tw7193688955059074166:=0
def tw16229948735558917590:=0
def tw12501353047185303062:=0
def tw8816335737563567638:=0
def tw12773995528328008278:=0
def tw1656882778403264086:=0
def tw13024373135419263574:=0
def tw13403352212275550518:=0
def tw17825280306956340886:=0
def tw14184500186914679007:=0
def tw6141558151847150527:=0
def tw11842777093218394719:=0
def tw1748714732071822015:=0
def tw8128287826778612415:=0
def tw14240071725608033375:=0
def tw4900682680514016788:=0
def tw10497654592578962292:=0
def tw1886059501520609588:=0
def tw3471662216172442292:=0
def tw10401229247202358301:=0
def tw16864591657831589021:=0
def tw7254945261024838653:=0
def tw12504278924069067101:=0
def tw5783583484861842557:=0
def tw7019605322536915421:=0
def tw1787591456035139101:=0
def tw9513432971203586653:=0
def tw1955455647566310045:=0
def tw1744253093669141885:=0
def tw12802173042692206493:=0
def tw3067953609977037554:=0
def tw16515207142363655890:=0
def tw2978922554207173330:=0
def tw8458941638607912050:=0
def tw16981108711419004210:=0
def tw14715152895043433842:=0
def tw13648154880033957298:=0
def tw10052722654715722459:=0
def tw12121350366891447803:=0
def tw1642471056203504251:=0
def tw8301728935277136571:=0
def tw6618854456400034907:=0
def tw6524724562597735227:=0
def tw18019502523442897787:=0
def tw18079686657441021147:=0
def tw18154052476960703707:=0
def tw16414799139963981755:=0
def tw11443482692009603355:=0
def tw1469602787399489947:=0
def tw2274443045762292923:=0
def tw12608044177565404763:=0
def tw16979481800149936944:=0
def tw11062502395727811088:=0
def tw8743755133277648528:=0
def tw1403858898758957040:=0
def tw4378754731829252816:=0
def tw7423751728611267280:=0
def tw6044436647583941680:=0
def tw11609105291625997424:=0
def tw13031351108120562768:=0
def tw8282921877785336976:=0
def tw12275979003148028400:=0
def tw14835998625255704784:=0
def tw3233978789927753264:=0
def tw3660339531846775289:=0
def tw6257901248239664633:=0
def tw11486384043615843225:=0
def tw9233975105436743417:=0
def tw245352899257553657:=0
def tw5733630636990303097:=0
def tw17045267860550491417:=0
def tw15314566126807540057:=0
def tw6002340777729690809:=0
def tw3531509403497981177:=0
def tw4117507409298922745:=0
def tw13373893608355440281:=0
def tw13468862631586356601:=0
def tw6692517733483353230:=0
def tw17946548299571771054:=0
def tw11139634261233180046:=0
def tw1861219265316129582:=0
def tw6375650985164108654:=0
def tw3174580973512267630:=0
def tw3635507684234830478:=0
def tw14707125528722649870:=0
def tw2581845267783308462:=0
def tw11907141684327204014:=0
def tw7307405570578485614:=0
def tw1484305847462007447:=0
def tw16358769813175187351:=0
def tw739647585121523671:=0
def tw9985145623188906807:=0
def tw3335214580712209207:=0
def tw12486669245544021879:=0
def tw17388875118633976087:=0
def tw560378073571203063:=0
def tw10856923362947571031:=0
def tw13829025947428607031:=0
def tw16687104613044146476:=0
def tw6841504938968463564:=0
def tw6479985842112778636:=0
def tw13421974641888568364:=0
def tw6224566675247250476:=0
def tw1274173156973236565:=0
def tw28029945106161301:=0
def tw1020708739600489173:=0
def tw874237746955287253:=0
def tw3335084256067585813:=0
def tw7331747244619799861:=0
def tw13425812886297237941:=0
def tw3435423020543684021:=0
def tw17600897304080781941:=0
def tw10940094632233507082:=0
def tw12654705383968718346:=0
def tw17388784813292624394:=0
def tw7090852025650317834:=0
def tw5929634076567641450:=0
def tw5706253329331402154:=0
def tw10061896206530503082:=0
def tw6026208624761633322:=0
def tw1324779776710086794:=0
def tw12005280511226622826:=0
def tw9956415009692057747:=0
def tw18245981262199167475:=0
def tw10873429965411523795:=0
def tw3728947974884800851:=0
def tw8921922716007907187:=0
def tw2530916146672803827:=0
def tw604272465724897459:=0
def tw2862430054114508819:=0
def tw17669964753814452904:=0
def tw5877832869025848040:=0
def tw4971004901442723912:=0
def tw2981499296296368264:=0
def tw5962557681465164936:=0
def tw1677768794510870792:=0
def tw11702365755011685640:=0
def tw1691308946902573448:=0
def tw15802852051671996520:=0
def tw947646935449226344:=0
def tw8361175723365245096:=0
def tw11329995142366717096:=0
def tw8829081898277085480:=0
def tw12414091160965416360:=0
def tw9365274643725816232:=0
def tw7539389339103194600:=0
def tw4691511304253984232:=0
def tw4220101494979629960:=0
def tw13344740964898757224:=0
def tw13721931735596027121:=0
def tw7777102409374875889:=0
def tw6732518475488322577:=0
def tw10185013996234506321:=0
def tw2585519271824748689:=0
def tw8219912110560245297:=0
def tw18429741998658639473:=0
def tw12280558532634585489:=0
def tw3502831650104152593:=0
def tw2106260907937161745:=0
def tw13251304875786218065:=0
def tw8957586824521450481:=0
def tw7611070992305294097:=0
def tw12141781784933233777:=0
def tw8386535498956964610:=0
def tw16969587722915542000:=0
end PySem.W.Fast
abbrev gX:=List (Int×Int)
abbrev gV:=List (PySem.Addr×PySem.Obj)
abbrev hZ:=List (Option Nat)
set_option bootstrap.genMatcherCode false
set_option compiler.extract_closed false
set_option Elab.async false
set_option linter.all false
set_option maxRecDepth 100000
namespace L2
open PySem PySem.Spec PyProof.Rows
abbrev Key:=Sum Int Str
def xP:Key->Value->Bool
 | .inl k,v=>zGh k v
 | .inr x,v=>zHk x v
def aNz(w:World):Key->Int
 | .inl k=>hashInt k
 | .inr x=>hashStr w x
def bj:∀{k:Key} {v:Value},xP k v=true->(∃i t,k=zB5 i/\v=zCt i t)\/(∃x t,k=zFf x/\v=zGQ x t)
 | .inl i,v,h=>by
  obtain⟨t,e⟩:=Value.isInt_shape (k:=i) (v:=v) h;exact .inl ⟨i,t,rfl,e⟩
 | .inr x,v,h=>by
  obtain⟨t,e⟩:=Value.isStrOf_shape (x:=x) (v:=v) h;exact .inr ⟨x,t,rfl,e⟩
def aEC(i:Int)(t:Tok):xP (.inl i) (.int i t)=true:=by simp[xP,zGh]
def aEB(x:Str)(t:Tok):xP (.inr x) (.str x t)=true:=by simp[xP,zHk]
def aLg(a b:Int):decide ((zB5 a:Key)=zB5 b)=(a==b):=by
 by_cases e:a=b
 .subst e;simp
 .have h:¬(zB5 a:Key)=zB5 b:=λ q=>e (zHj q)
  rw[decide_eq_false h];exact(beq_eq_false_iff_ne.mpr e).symm
def aLd(a b:Str):decide ((zFf a:Key)=zFf b)=decide (a=b):=by
 by_cases e:a=b
 .subst e;simp
 .have h:¬(zFf a:Key)=zFf b:=λ q=>e (Sum.inr.inj q)
  rw[decide_eq_false h,decide_eq_false e]
def aLf(a:Int)(b:Str):decide ((zB5 a:Key)=zFf b)=false:=decide_eq_false (λ q=>nomatch q)
def aLe(a:Str)(b:Int):decide ((zFf a:Key)=zB5 b)=false:=decide_eq_false (λ q=>nomatch q)
def bR(prog:zAS)(w:World):PySem.KeyKind prog w Key where
 is:=xP
 hash:=aNz w
 inj:=λ v a b ha hb=>by
  rcases bj ha with ⟨i,t,rfl,rfl⟩|⟨x,t,rfl,rfl⟩
  .rcases bj hb with ⟨j,u,rfl,e⟩|⟨y,u,rfl,e⟩
   .injection e with e1 _;rw[e1]
   .exact nomatch e
  .rcases bj hb with ⟨j,u,rfl,e⟩|⟨y,u,rfl,e⟩
   .exact nomatch e
   .injection e with e1 _;rw[e1]
 byValue:=λ k v h=>by
  rcases bj h with ⟨i,t,rfl,rfl⟩|⟨x,t,rfl,rfl⟩<;>rfl
 pyHash:=λ hv h=>by
  rcases bj hv with ⟨i,t,rfl,rfl⟩|⟨x,t,rfl,rfl⟩
  .exact wpAny_pyHash_int h
  .exact wpAny_pyHash_str h
 eqBool:=λ hu hv h=>by
  rcases bj hu with ⟨i,t,rfl,rfl⟩|⟨x,t,rfl,rfl⟩
  .rcases bj hv with ⟨j,u,rfl,rfl⟩|⟨y,u,rfl,rfl⟩
   .rw[aLg]at h;exact wpAny_eqBool_int h
   .rw[aLf]at h;exact zEE i t y u _ _ _ _ h
  .rcases bj hv with ⟨j,u,rfl,rfl⟩|⟨y,u,rfl,rfl⟩
   .rw[aLe]at h;exact zEF x t j u _ _ _ _ h
   .rw[aLd]at h;exact wpAny_eqBool_str h
 «strs»:=λ k x t v h=>by
  rcases bj h with ⟨i,u,rfl,e⟩|⟨y,u,rfl,e⟩
  .exact nomatch e
  .injection e with e1 _
   subst e1;cases v<;>rfl
def aA1(prog:zAS)(w:World)(i:Int)(t:Tok):(bR prog w).is (.inl i) (.int i t)=true:=aEC i t
def aA0(prog:zAS)(w:World)(x:Str)(t:Tok):(bR prog w).is (.inr x) (.str x t)=true:=aEB x t
inductive V where
 |non|bl (b:Bool)|int (i:Int)|str (x:Str)|byt (b:Array UInt8)|flt (b:UInt64)|ref (a:Addr)|ty (n:String)
 deriving DecidableEq
def RelV:V->Value->Prop
 | .non,u=>u=zHD
 | .bl b,u=>u=zCU b
 | .int i,u=>∃t,u=zCt i t
 | .str x,u=>∃t,u=zGQ x t
 | .byt b,u=>∃t,u=Value.bytes b t
 | .flt b,u=>∃t,u=zIP b t
 | .ref a,u=>u=zAu a
 | .ty n,u=>u=zEG n
abbrev Vals:List V->List Value->Prop:=zE5 RelV
theorem Vals.length(r:Vals xs us):xs.length=us.length:=zDd r
theorem Vals.get:∀{xs:List V} {us:List Value} {i:Nat} {x:V},Vals xs us->xs[i]? =some x->∃u,us[i]? =some u/\RelV x u
 |_,_,_,_,.nil,e=>by simp at e
 |_,_,0,_,.cons r _,e=>by simp at e;subst e;exact⟨_,rfl,r⟩
 |_,_,i+1,x,.cons _ t,e=>by
  obtain⟨u,h1,h2⟩:=Vals.get (i:=i) (x:=x) t (by simpa using e);exact⟨u,by simpa using h1,h2⟩
theorem Vals.append:∀{xs ys:List V} {us ws:List Value},Vals xs us->Vals ys ws->Vals (xs++ys) (us++ws)
 |_,_,_,_,.nil,s=>s
 |_,_,_,_,.cons r t,s=>.cons r (Vals.append t s)
theorem Vals.take:∀{xs:List V} {us:List Value} (n:Nat),Vals xs us->Vals (xs.take n) (us.take n)
 |_,_,0,_=>.nil
 |_,_,_+1,.nil=>.nil
 |_,_,n+1,.cons r t=>.cons r (Vals.take n t)
theorem Vals.drop:∀{xs:List V} {us:List Value} (n:Nat),Vals xs us->Vals (xs.drop n) (us.drop n)
 |_,_,0,r=>r
 |_,_,_+1,.nil=>.nil
 |_,_,n+1,.cons _ t=>Vals.drop n t
def n6:Option V->Option Value->Prop
 |some v,some u=>RelV v u
 |none,none=>True
 |_,_=>False
def KV{κ:Type}:List (κ×V)->List (κ×Value)->Prop:=zE5 λ(p:κ×V) (q:κ×Value)=>p.1=q.1/\RelV p.2 q.2
def kV:Key->V
 | .inl i=>.int i
 | .inr x=>.str x
inductive HO where
 |lst (xs:List V)
 |tup (xs:List V)
 |dK (kvs:List (Key×V))|dT (kvs:List (List Key×V))
 |set (S:Int->Bool) (n:Nat)
 |ins (C dx:Addr) (fs:List (Str×V))
 |own (x:Addr)
 |xd (fs:List (Str×V))
 |met (f x:Addr)
 |rng (lo hi:Int)
 |frz (o:Obj) (u:HO)
 |tbl (ps:Array Value)
 |ext (φ:Heap->Prop)
abbrev Hp:=Addr->Option HO
def upd(H:Hp)(a:Addr)(o:HO):Hp:=λ b=>if b=a then some o else H b
def aR:upd H a o a=some o:=by unfold upd;rw[if_pos rfl]
def aL(h:b≠a):upd H a o b=H b:=by unfold upd;rw[if_neg h]
def aNM{H:Hp}{a b:Addr}{o u:HO}(h:H a=some o)(h':H b=some u)(d:o≠u):a≠b:=by
 intro e;subst e;rw[h]at h';exact d (zAe h')
def bH{H:Hp}{a b:Addr}{o:HO}(h:H a=some o)(h':H b=none):a≠b:=by
 intro e;subst e;rw[h]at h';cases h'
def NoD(h:Heap)(a:Addr):Prop:=∀o,h.get? a=some o->o.dict=none
theorem NoD.push(h:Heap){o:Obj}(hl:o.isFreed=false:=by rfl)(hd:o.dict=none:=by rfl):NoD (h.push o) h.objs.size:=λ u e=>by rw[zA0 _ hl]at e;cases e;exact hd
def NoD.keep{h h':Heap}{a:Addr}{o:Obj}(n:NoD h a)(e:h.get? a=some o)(e':h'.get? a=some o):NoD h' a:=λ u q=>by rw[e']at q;cases q;exact n o e
section
variable(P:zAS)(w:World)
def bW(H:Hp)(h:Heap)(a:Addr):HO->Prop
 | .lst xs=>xs.length<=zAK/\∃(its:List Value) (n:Nat),Vals xs its/\h.get? a=some {cls:=.type "list",data:=.seq its.toArray n}
 | .tup xs=>(xs.length<=zAK/\NoD h a)/\∃its:List Value,Vals xs its/\IsTup h a its.toArray
 | .dK kvs=>kvs.length<=zAK/\(a==zBX)=false/\∃vs,KV kvs vs/\h.DictOf (bR P w) a vs
 | .dT kvs=>kvs.length<=zAK/\(a==zBX)=false/\∃xs:List (List Key×Addr×Value),
   zE5 (λ(p:List Key×V) (q:List Key×Addr×Value)=>p.1=q.1/\H q.2.1=some (.tup (p.1.map kV))/\RelV p.2 q.2.2) kvs xs/\
   ∃o es ep,h.get? a=some o/\o.ExactDict/\o.data= .dict es ep/\es.toList=xs.map (entryOfKey (zDP (bR P w)))/\(xs.map (·.1)).Nodup
 | .set S n=>h.SetOf (zGS P w) a S n
 | .ins C dx fs=>H dx=some (.own a)/\fs.length<=1000/\dx≠a/\h.get? a=some (zBr C dx)/\
   ∃mA,h.Ns1 dx mA/\(∀f,n6 (fs.lookup f) (mA f))/\zHw mA (fs.map (·.1))
 | .own _=>∃o,h.get? a=some o
 | .xd fs=>∃mA,h.Ns1 a mA/\∀f,n6 (fs.lookup f) (mA f)
 | .rng lo hi=>∃t u v,h.get? a=some {cls:=.type "range",data:=.fields #[.int lo t,.int hi u,.int 1 v]}
 | .frz o u=>h.get? a=some o/\bW H h a u
 | .tbl ps=>h.get? a=some {cls:=.none,data:=.fields ps}
 | .met f x=>h.get? a=some (zE7 (.ref f) (.ref x))
 | .ext φ=>φ h/\(∃o,h.get? a=some o)/\∀h1 h2:Heap,φ h1->(∀o,h1.get? a=some o->h2.get? a=some o)->φ h2
def HOk(H:Hp)(h:Heap):Prop:=∀a o,H a=some o->bW P w H h a o
end
section
variable{P:zAS}{w:World}{H H':Hp}{h h':Heap}{a:Addr}{o:HO}
theorem bW.lt(x:bW P w H h a o):a<h.objs.size:=by
 cases o with
 |lst xs=>obtain⟨_,_,_,_,e⟩:=x;exact zAW e
 |tup xs=>obtain⟨_,_,_,p⟩:=x;exact p.lt
 |dK kvs=>obtain⟨_,_,_,_,o,_,_,e,_⟩:=x;exact zAW e
 |dT kvs=>obtain⟨_,_,_,_,o,_,_,e,_⟩:=x;exact zAW e
 |set S n=>obtain⟨o,_,_,_,e,_⟩:=x;exact zAW e
 |ins C dx fs=>obtain⟨_,_,_,e,_⟩:=x;exact zAW e
 |own y=>obtain⟨_,e⟩:=x;exact zAW e
 |xd fs=>obtain⟨_,⟨_,_,_,e,_⟩,_⟩:=x;exact zAW e
 |rng lo hi=>obtain⟨_,_,_,e⟩:=x;exact zAW e
 |frz ob u=>obtain⟨e,_⟩:=x;exact zAW e
 |tbl ps=>exact zAW (show h.get? a=some _ from x)
 |met f y=>exact zAW (show h.get? a=some _ from x)
 |ext φ=>obtain⟨_,⟨_,e⟩,_⟩:=x;exact zAW e
theorem Paired.mapP:∀{l₁:List α} {l₂:List β},zE5 F l₁ l₂->(∀a b,F a b->G a b)->zE5 G l₁ l₂
 |_,_,.nil,_=>.nil
 |_,_,.cons r t,f=>.cons (f _ _ r) (Paired.mapP t f)
def bW.stay(x:bW P w H h a o)(k:∀b u,(b=a\/H b=some (.own a))->h.get? b=some u->h'.get? b=some u)
  (ho:∀b,H b=some (.own a)->H' b=some (.own a))(ht:∀b xs,H b=some (.tup xs)->H' b=some (.tup xs)):bW P w H' h' a o:=by
 induction o with
 |lst xs=>obtain⟨z,its,n,r,e⟩:=x;exact⟨z,its,n,r,k _ _ (.inl rfl) e⟩
 |tup xs=>obtain⟨z,its,r,ob,e,c⟩:=x;exact⟨⟨z.1,z.2.keep e (k _ _ (.inl rfl) e)⟩,its,r,ob,k _ _ (.inl rfl) e,c⟩
 |dK kvs=>obtain⟨z,y,vs,r,ob,es,ep,e,c⟩:=x;exact⟨z,y,vs,r,ob,es,ep,k _ _ (.inl rfl) e,c⟩
 |dT kvs=>
  obtain⟨z,y,xs,r,ob,es,ep,e,c⟩:=x;exact⟨z,y,xs,Paired.mapP r λ p q z=>⟨z.1,ht _ _ z.2.1,z.2.2⟩,ob,es,ep,k _ _ (.inl rfl) e,c⟩
 |set S n=>obtain⟨ob,es,ep,t,e,c⟩:=x;exact⟨ob,es,ep,t,k _ _ (.inl rfl) e,c⟩
 |ins C dx fs=>
  obtain⟨d,z,ne,e,mA,⟨od,es,ep,e2,c⟩,r⟩:=x;exact⟨ho _ d,z,ne,k _ _ (.inl rfl) e,mA,⟨od,es,ep,k _ _ (.inr d) e2,c⟩,r⟩
 |own y=>obtain⟨ob,e⟩:=x;exact⟨ob,k _ _ (.inl rfl) e⟩
 |xd fs=>obtain⟨mA,⟨od,es,ep,e,c⟩,r⟩:=x;exact⟨mA,⟨od,es,ep,k _ _ (.inl rfl) e,c⟩,r⟩
 |rng lo hi=>obtain⟨t,u,v,e⟩:=x;exact⟨t,u,v,k _ _ (.inl rfl) e⟩
 |frz ob u ih=>obtain⟨e,q⟩:=x;exact⟨k _ _ (.inl rfl) e,ih q⟩
 |tbl ps=>
  have e:h.get? a=some {cls:=.none,data:=.fields ps}:=x;show h'.get? a=some {cls:=.none,data:=.fields ps};exact k a _ (.inl rfl) e
 |met f y=>
  have e:h.get? a=some (zE7 (.ref f) (.ref y)):=x;show h'.get? a=some (zE7 (.ref f) (.ref y));exact k a _ (.inl rfl) e
 |ext φ=>obtain⟨p,⟨o,e⟩,st⟩:=x;exact⟨st _ _ p λ o q=>k _ _ (.inl rfl) q,⟨o,k _ _ (.inl rfl) e⟩,st⟩
theorem HOk.lt(x:HOk P w H h)(e:H a=some o):a<h.objs.size:=(x a o e).lt
def HOk.fresh(x:HOk P w H h)(e:h.objs.size<=a):H a=none:=by
 cases q:H a with
 |none=>rfl
 |some u=>exact absurd (zAR (x.lt q) e) (zAw _)
def HOk.kept(x:HOk P w H h)(k:∀b u,h.get? b=some u->h'.get? b=some u):HOk P w H h':=λ a o e=>
 (x a o e).stay (λ b u _ q=>k b u q) (λ _ q=>q) λ _ _ q=>q
def HOk.laid(x:HOk P w H h)(k:∀b u,h.get? b=some u->h'.get? b=some u)(hp:h.objs.size<=a)(new:bW P w (upd H a o) h' a o):HOk P w (upd H a o) h':=λ b u e=>by
 have hn:=x.fresh hp;by_cases hb:b=a
 .subst hb;rw[aR]at e;cases e;exact new
 .rw[aL hb]at e
  exact(x b u e).stay (λ c v _ q=>k c v q) (λ c q=>by rw[aL (bH q hn)];exact q) λ c xs q=>by rw[aL (bH q hn)];exact q
end
def Rd(H:Hp)(a:Addr)(u:HO):Prop:=H a=some u\/∃o,H a=some (.frz o u)
def Rd.ok(r:Rd H a u)(x:HOk P w H h):bW P w H h a u:=by
 rcases r with r|⟨o,r⟩
 .exact x a u r
 .obtain⟨_,q⟩:=x a _ r
  exact q
def Mut:Option HO->Prop
 |some (.lst _)=>True
 |some (.dK _)=>True
 |some (.dT _)=>True
 |some (.set _ _)=>True
 |some (.ins _ _ _)=>True
 |some (.ext _)=>True
 |_=>False
section
variable{P:zAS}{w:World}{H:Hp}{h h':Heap}{x e:Addr}{o':HO}
def HOk.write(ok:HOk P w H h)(mu:Mut (H x))(he:e=x\/H e=some (.own x))(k:∀b u,b≠e->h.get? b=some u->h'.get? b=some u)(heo:∃u,h'.get? e=some u)
  (new:bW P w (upd H x o') h' x o'):HOk P w (upd H x o') h':=λ b u q=>by
 have nown:∀c y,H c=some (.own y)->c≠x:=λ c y r z=>by subst z;rw[r]at mu;exact mu
 have ntup:∀c xs,H c=some (.tup xs)->c≠x:=λ c xs r z=>by subst z;rw[r]at mu;exact mu
 by_cases hb:b=x
 .subst hb;rw[aR]at q;cases q;exact new
 .rw[aL hb]at q
  by_cases hbe:b=e
  .have q':H b=some (.own x):=by
    rcases he with z|z
    .exact absurd (hbe.trans z) hb
    .rw[hbe];exact z
   rw[q]at q';cases q';obtain⟨v,hv⟩:=heo;exact⟨v,by rw[hbe];exact hv⟩
  .refine(ok b u q).stay (λ c v hc r=>k c v ?_ r) (λ c r=>by rw[aL (nown c b r)];exact r) λ c xs r=>by rw[aL (ntup c xs r)];exact r
   rcases hc with rfl|hc
   .exact hbe
   .rintro rfl
    rcases he with z|z
    .exact nown c b hc z
    .rw[hc]at z;cases z;exact hb rfl
end
structure Un(fs ex:List Addr)(H H':Hp)(h h':Heap):Prop where
 keep:∀b o,h.get? b=some o->H b=none->b∉fs->b∉ex->h'.get? b=some o
 slot:∀b o,h.get? b=some o->H b=none->b∈fs->b∉ex->∃sl,h'.get? b=some {o with slots:=sl}
 free:∀b o,h.get? b=some o->H b=none->b∉ex->H' b=none
 there:∀b o,h.get? b=some o->b∉ex->∃o',h'.get? b=some o'
 tups:∀b xs,H b=some (.tup xs)->H' b=some (.tup xs)
 frzs:∀b o u,H b=some (.frz o u)->H' b=some (.frz o u)
 tbls:∀b ps,H b=some (.tbl ps)->∃more,H' b=some (.tbl (ps++more))
section
variable{fs fs' ex ex':List Addr}{H H1:Hp}{h h1 h':Heap}{a x e:Addr}{o:HO}
def Un.any(u:Un fs ex H H1 h h1)(q:h.get? b=some ob)(n:H b=none)(hx:b∉ex):∃sl,h1.get? b=some {ob with slots:=sl}:=by
 by_cases hb:b∈fs
 .exact u.slot b ob q n hb hx
 .exact⟨ob.slots,u.keep b ob q n hb hx⟩
def Un.kept(k:∀b u,h.get? b=some u->h'.get? b=some u):Un fs ex H H h h':=
 ⟨λ b ob q _ _ _=>k b ob q,λ b ob q _ _ _=>⟨ob.slots,k b ob q⟩,λ _ _ _ n _=>n,λ b ob q _=>⟨ob,k b ob q⟩,λ _ _ q=>q,λ _ _ _ q=>q,λ _ ps q=>⟨#[],by rw[q];simp⟩⟩
def Un.refl:Un fs ex H H h h:=Un.kept λ _ _ q=>q
def Un.laid(k:∀b u,h.get? b=some u->h'.get? b=some u)(hp:h.objs.size<=a)(hn:H a=none):Un fs ex H (upd H a o) h h' where
 keep:=λ b u q _ _ _=>k b u q
 slot:=λ b u q _ _ _=>⟨u.slots,k b u q⟩
 free:=λ b u q n _=>by rw[aL (zAa (zAR (zAW q) hp))];exact n
 there:=λ b u q _=>⟨u,k b u q⟩
 tups:=λ b xs q=>by rw[aL (bH q hn)];exact q
 frzs:=λ b u xs q=>by rw[aL (bH q hn)];exact q
 tbls:=λ b ps q=>⟨#[],by rw[aL (bH q hn),q];simp⟩
def Un.write(mu:Mut (H x))(he:e=x\/H e=some (.own x))(k:∀b u,b≠e->h.get? b=some u->h'.get? b=some u)(heo:∃u,h'.get? e=some u):Un fs ex H (upd H x o) h h':=by
 have hx:∀b,H b=none->b≠x:=λ b n z=>by subst z;rw[n]at mu;exact mu
 have hb:∀b,H b=none->b≠e:=λ b n z=>by
  subst z;rcases he with r|r
  .exact hx b n r
  .rw[n]at r;cases r
 have hm:∀b u,H b=some u->¬Mut (some u)->b≠x:=λ b u q nm z=>by subst z;rw[q]at mu;exact nm mu
 refine⟨λ b u q n _ _=>k b u (hb b n) q,λ b u q n _ _=>⟨u.slots,k b u (hb b n) q⟩,λ b u q n _=>by rw[aL (hx b n)];exact n,λ b u q _=>?_,
  λ b xs q=>by rw[aL (hm b _ q λ z=>z)];exact q,λ b u xs q=>by rw[aL (hm b _ q λ z=>z)];exact q,λ b ps q=>⟨#[],by rw[aL (hm b _ q λ z=>z),q];simp⟩⟩
 by_cases hbe:b=e
 .subst hbe;exact heo
 .exact⟨u,k b u hbe q⟩
def Un.mono(u:Un fs ex H H1 h h1)(hs:∀b∈fs,b∈fs')(hx:∀b∈ex,b∈ex'):Un fs' ex' H H1 h h1:=
 ⟨λ b ob q n hb he=>u.keep b ob q n (λ z=>hb (hs b z)) λ z=>he (hx b z),λ _ _ q n _ he=>u.any q n λ z=>he (hx _ z),λ b ob q n he=>u.free b ob q n λ z=>he (hx b z),λ b ob q he=>u.there b ob q λ z=>he (hx b z),u.tups,u.frzs,u.tbls⟩
end
def trk(h:Heap)(H:Hp):List Addr:=(zA1 h.objs.size).filter λ a=>(H a).isSome
def aGa(h:Heap)(H:Hp):Heap:=zBb h (trk h H)
def aEH(h:Heap)(H:Hp):(aGa h H).objs.size=h.objs.size:=zDu _ _
def aG9(e:h.get? b=some o)(n:H b=none):(aGa h H).get? b=some o:=
 zBx _ e λ hm=>by
  have q:(H b).isSome=true:=(zAV.mp hm).2;rw[n]at q;simp at q
def aI6(e:(aGa h H).get? b=some o):h.get? b=some o/\H b=none:=by
 have e':h.get? b=some o:=zDU (trk h H) e;refine⟨e',?_⟩;cases q:H b with
 |none=>rfl
 |some x=>
  have hm:b∈trk h H:=zAV.mpr ⟨zAn.mpr (zAW e'),by simp[q]⟩;have z:(aGa h H).get? b=none:=zDt (trk h H) hm;rw[z]at e;cases e
def aJ1(g h:Heap)(L:Addr):gV:=(zA1 h.objs.size).filterMap λ a=>if a=L\/(g.get? a).isSome=true then none else(h.get? a).map λ o=>(a,o)
def rest(g h:Heap)(L d:Addr):gV:=(aJ1 g h L).filter λ p=>decide (p.1≠d)
structure Mod(K:zAA)(mg:Str->Option Value)(base:Heap):Prop where
 kin:K.In base
 glob:base.Ns zA2 mg
 blt:∃mb,base.Ns zIR mb/\∀x:Str,x≠"__name__"->mb x=zAv x
 nolimit:base.NoLimit
structure Cx where
 prog:zAS
 w:World
 K:zAA
 mg:Str->Option Value
 base:Heap
 A:zA8
 N:List Str
 z5:zAB
 zI:Hp
 env:Env
 outer:List Env
 stack:List Env
 ex:List Addr
 fn:Str->Bool
 calm:Bool
 pn:gV
 xe:Value->zAB->Prop
 ta:gV:=[]
 tq:Str:=""
def frs(l:List Env):List Addr:=l.filterMap (·.frame)
abbrev Cx.fs(X:Cx):List Addr:=frs X.outer
def Vis(sc:Scope)(x:Str):Prop:=sc.names.lookup x=some .local\/sc.names.lookup x=some .cell\/sc.names.lookup x=some .free
def Loc(sc:Scope)(x:Str):Prop:=sc.names.lookup x=some .local\/sc.names.lookup x=some .cell
def Look(env:Env)(h:Heap)(m:Str->Option Value)(x:Str)(u:Value):Prop:=
 (env.kindOf x=some .local/\m x=some u)\/((env.kindOf x=some .cell\/env.kindOf x=some .free)/\∃c,env.cells.lookup x=some c/\h.IsCell c (some u))
structure Cx.Ok(X:Cx):Prop where
 mod:Mod X.K X.mg X.base
 kind:X.env.scope.kind= .function
 glob:X.env.globals=zA2
 blt:X.env.builtins=zIR
 above:X.z5.heap.objs.size<=X.env.locals
 inj:∀x y c,X.env.cells.lookup x=some c->X.env.cells.lookup y=some c->x=y
 has:∀x,(X.env.kindOf x=some .cell\/X.env.kindOf x=some .free)->∃c,X.env.cells.lookup x=some c
 cab:∀x c,X.fn x=true->X.env.cells.lookup x=some c->X.z5.heap.objs.size<=c
 hd:X.calm=true->X.A.handled=none
 frames:X.A.frames=some X.stack
 stk:X.stack=X.outer\/(X.stack=X.env::X.outer/\X.env.frame=some X.env.locals)
 exf:∀b∈X.ex,b≠X.env.locals/\∀x c,X.env.cells.lookup x=some c->c≠b
 bs:∀b o,X.base.get? b=some o->X.z5.heap.get? b=some o/\X.zI b=none
 bsz:X.base.objs.size<=X.z5.heap.objs.size
 noex:∀b o,X.base.get? b=some o->b∉X.ex
 exfs:∀b∈X.ex,b∉X.fs
 funs:X.z5.heap.FunFrames X.base X.outer
 frf:∀b∈X.fs,X.zI b=none
def aKL(q:Str)(oc:Obj):Prop:=∃vs t,oc.data= .fields vs/\vs[1]? =some (.str q t)
def TabOk(q:Str)(H:Hp)(ps:Array Value):Prop:=TriplesOk ps.toList/\∀pos cv,zFJ pos ps.toList=some cv->∃c' oc,cv= .ref c'/\H c'=some (.frz oc (.own c'))/\aKL q oc
def TabOk.mono(t:TabOk q H ps)(f:∀b o u,H b=some (.frz o u)->H' b=some (.frz o u)):TabOk q H' ps:=⟨t.1,λ pos cv hc=>let⟨c',oc,z,a,b⟩:=t.2 pos cv hc;⟨c',oc,z,f _ _ _ a,b⟩⟩
structure Inv(X:Cx)(hV:gV)(Z:List (Option V))(H:Hp)(s:zAB):Prop where
 ok:X.Ok
 os:s.os=X.z5.os
 bare:zE3 s.gens
 base:Un X.fs X.ex X.zI H X.z5.heap s.heap
 loc:∃m,s.heap.Ns X.env.locals m/\∀(i:Nat) (x:Str) (v:V),X.N[i]? =some x->Z[i]? =some (some v)->Vis X.env.scope x->∃u,RelV v u/\Look X.env s.heap m x u
 cell:∀x c,X.env.cells.lookup x=some c->∃v,s.heap.IsCell c v
 free:H X.env.locals=none
 freeC:∀x c,X.env.cells.lookup x=some c->H c=none
 pin:∀p∈X.pn++hV,s.heap.get? p.1=some p.2/\H p.1=none/\p.1≠X.env.locals/\p.1∉X.fs/\∀v,p.2.data≠.cell v
 hok:HOk X.prog X.w H s.heap
 len:Z.length=X.N.length
 tab:∀p∈X.ta,H p.1=none/\p.1≠X.env.locals/\p.1∉X.fs/\(∀q∈X.pn++hV,q.1≠p.1)/\∃ps,s.heap.get? p.1=some {cls:=.none,data:=.fields ps}/\TabOk X.tq H ps
section
variable{X:Cx}{hV:gV}{Z:List (Option V)}{H H':Hp}{s:zAB}{h':Heap}
def Cx.Ok.nofr(ok:X.Ok)(e:X.base.get? b=some o):b∉X.fs:=λ hb=>by
 have:=(ok.funs.mem hb).1
 rw[e]at this;cases this
theorem Inv.bs(I:Inv X hV Z H s):∀b o,X.base.get? b=some o->s.heap.get? b=some o/\H b=none:=λ b o e=>
 ⟨I.base.keep b o (I.ok.bs b o e).1 (I.ok.bs b o e).2 (I.ok.nofr e) (I.ok.noex b o e),I.base.free b o (I.ok.bs b o e).1 (I.ok.bs b o e).2 (I.ok.noex b o e)⟩
def Inv.bk(I:Inv X hV Z H s):∀b o,X.base.get? b=some o->s.heap.get? b=some o:=λ b o e=>(I.bs b o e).1
theorem Inv.mod(I:Inv X hV Z H s):Mod X.K X.mg X.base:=I.ok.mod
def Inv.kIn(I:Inv X hV Z H s):X.K.In s.heap:=I.ok.mod.kin.keeps I.bk
def Inv.fr(I:Inv X hV Z H s):∃m,Fr X.base X.env.locals s.heap m:=
 let⟨m,hn,_⟩:=I.loc
 ⟨m,hn,I.bk,zAh I.ok.bsz I.ok.above⟩
theorem Inv.lt(I:Inv X hV Z H s):X.env.locals<s.heap.objs.size:=let⟨_,hn,_⟩:=I.loc;hn.lt
def Inv.sz(I:Inv X hV Z H s):X.z5.heap.objs.size<=s.heap.objs.size:=zAh I.ok.above (zBT I.lt)
def Inv.nofs(I:Inv X hV Z H s)(h:s.heap.objs.size<=a):a∉X.fs:=λ hb=>by
 obtain⟨_,o,ho,_⟩:=I.ok.funs.mem hb;exact absurd (zAR (zAW ho) (zAh I.sz h)) (zAw _)
def Inv.cne(I:Inv X hV Z H s):∀x c,X.env.cells.lookup x=some c->c≠X.env.locals:=λ x c e z=>by
 obtain⟨v,o,ho,hd⟩:=I.cell x c e;obtain⟨m,⟨o',es,ep,ho',hd',_⟩,_⟩:=I.loc;rw[z,ho']at ho;cases ho;rw[hd']at hd;cases hd
theorem Inv.funs(I:Inv X hV Z H s):s.heap.FunFrames X.base X.outer:=by
 have all:∀(l:List Env),(∀b∈frs l,b∈X.fs)->X.z5.heap.FunFrames X.base l->s.heap.FunFrames X.base l:=by
  intro l;induction l with
  |nil=>intro _ _;trivial
  |cons env r ih=>
   intro hs hl;obtain⟨hk,⟨L,o,hf,hn,ho,hd⟩,hr⟩:=hl;have hL:L∈X.fs:=hs L (by unfold frs;rw[zBd,hf];exact zAG);obtain⟨sl,e⟩:=I.base.slot L o ho (I.ok.frf L hL) hL λ z=>I.ok.exfs L z hL
   exact⟨hk,⟨L,_,hf,hn,e,hd⟩,ih (λ b hb=>hs b (by unfold frs;rw[zBd,hf];exact zAL _ hb)) hr⟩
 exact all X.outer (λ _ hb=>hb) I.ok.funs
theorem Inv.stack(I:Inv X hV Z H s):s.heap.FunFrames X.base X.stack:=by
 rcases I.ok.stk with e|⟨e,hf⟩
 .rw[e];exact I.funs
 .rw[e]
  obtain⟨m,hn,_⟩:=I.loc;refine .cons (by rw[I.ok.kind];decide) hf hn ?_ I.funs;exact Heap.get?_none_of_le (zAh I.ok.bsz I.ok.above)
def Inv.stkSub(I:Inv X hV Z H s):∀b∈frs X.stack,b∈X.env.locals::X.fs:=λ b hb=>by
 rcases I.ok.stk with e|⟨e,hf⟩
 .rw[e]at hb;exact zAL _ hb
 .rw[e]at hb
  unfold frs at hb;rw[zBd,hf]at hb;exact hb
def Inv.stkFree(I:Inv X hV Z H s):∀b∈frs X.stack,H b=none:=λ b hb=>by
 rcases zAN.mp (I.stkSub b hb)with e|hb
 .rw[e];exact I.free
 .obtain⟨_,o,ho,_⟩:=I.ok.funs.mem hb
  exact I.base.free b o ho (I.ok.frf b hb) λ z=>I.ok.exfs b z hb
def Inv.step{g':Array zDJ}{t':Nat}{d':Drawn}{ch:List Addr}(I:Inv X hV Z H s)
  (hch:∀b∈ch,(b∈X.ex\/X.z5.heap.objs.size<=b)/\b≠X.env.locals/\(∀x c,X.env.cells.lookup x=some c->c≠b)/\∀p∈X.ta++(X.pn++hV),p.1≠b)
  (keep:∀b o,b≠X.env.locals->b∉X.fs->b∉ch->s.heap.get? b=some o->H b=none->h'.get? b=some o)
  (slot:∀b o,b≠X.env.locals->b∈X.fs->b∉ch->s.heap.get? b=some o->H b=none->∃sl,h'.get? b=some {o with slots:=sl})(free:∀b o,b∉ch->s.heap.get? b=some o->H b=none->H' b=none)
  (there:∀b o,b∉ch->s.heap.get? b=some o->∃o',h'.get? b=some o')
  (tups:∀b xs,H b=some (.tup xs)->H' b=some (.tup xs))(frzs:∀b o u,H b=some (.frz o u)->H' b=some (.frz o u))(tbls:∀b ps,H b=some (.tbl ps)->∃more,H' b=some (.tbl (ps++more)))
  (ns:∀m,s.heap.Ns X.env.locals m->h'.Ns X.env.locals m)(hok:HOk X.prog X.w H' h')(hg:zE3 g'):
  Inv X hV Z H' {s with heap:=h',gens:=g',drawn:=d',toks:=t'}:=by
 have neL:∀b o,X.z5.heap.get? b=some o->b≠X.env.locals:=λ b o e=>zAa (zAR (zAW e) I.ok.above)
 have neC:∀b o,X.z5.heap.get? b=some o->b∉X.ex->b∉ch:=λ b o e hx hb=>by
  rcases(hch b hb).1 with z|z
  .exact hx z
  .exact absurd (zAR (zAW e) z) (zAw _)
 have cK:∀x c,X.env.cells.lookup x=some c->∀v,s.heap.IsCell c v->h'.IsCell c v:=λ x c e v ⟨o,ho,hd⟩=>by
  have nch:c∉ch:=λ z=>(hch c z).2.2.1 x c e rfl
  by_cases hc:c∈X.fs
  .obtain⟨sl,q⟩:=slot c o (I.cne x c e) hc nch ho (I.freeC x c e)
   exact⟨_,q,hd⟩
  .exact⟨o,keep c o (I.cne x c e) hc nch ho (I.freeC x c e),hd⟩
 refine⟨I.ok,I.os,hg,⟨λ b o e n hb hx=>?_,λ b o e n hb hx=>?_,λ b o e n hx=>?_,λ b o e hx=>?_,λ b xs e=>tups b xs (I.base.tups b xs e),λ b o xs e=>frzs b o xs (I.base.frzs b o xs e),λ b ps e=>?_⟩,?_,λ x c e=>?_,?_,λ x c e=>?_,λ p hp=>?_,hok,I.len,λ p hp=>?_⟩
 .exact keep b o (neL b o e) hb (neC b o e hx) (I.base.keep b o e n hb hx) (I.base.free b o e n hx)
 .obtain⟨sl,e1⟩:=I.base.slot b o e n hb hx
  obtain⟨sl',e2⟩:=slot b _ (neL b o e) hb (neC b o e hx) e1 (I.base.free b o e n hx);exact⟨sl',e2⟩
 .obtain⟨o',e1⟩:=I.base.there b o e hx
  exact free b o' (neC b o e hx) e1 (I.base.free b o e n hx)
 .obtain⟨o',e1⟩:=I.base.there b o e hx
  exact there b o' (neC b o e hx) e1
 .obtain⟨m1,e1⟩:=I.base.tbls b ps e
  obtain⟨m2,e2⟩:=tbls b _ e1;exact⟨m1++m2,by rw[e2,zGi]⟩
 .obtain⟨m,hn,hl⟩:=I.loc
  refine⟨m,ns m hn,λ i x v e1 e2 e3=>?_⟩;obtain⟨u,r,l⟩:=hl i x v e1 e2 e3;refine⟨u,r,?_⟩;rcases l with l|⟨k,c,e,z⟩
  .exact .inl l
  .exact .inr ⟨k,c,e,cK x c e _ z⟩
 .obtain⟨v,z⟩:=I.cell x c e
  exact⟨v,cK x c e v z⟩
 .obtain⟨m,⟨o,_,_,ho,_⟩,_⟩:=I.loc
  exact free _ o (λ z=>(hch _ z).2.1 rfl) ho I.free
 .obtain⟨v,o,ho,hd⟩:=I.cell x c e
  exact free c o (λ z=>(hch c z).2.2.1 x c e rfl) ho (I.freeC x c e)
 .obtain⟨e,n,ne,nf,d⟩:=I.pin p hp
  have nch:p.1∉ch:=λ z=>(hch p.1 z).2.2.2 p (zA9 _ hp) rfl
  exact⟨keep p.1 p.2 ne nf nch e n,free p.1 p.2 nch e n,ne,nf,d⟩
 .obtain⟨n,ne,nf,np,ps,e,t⟩:=I.tab p hp
  have nch:p.1∉ch:=λ z=>(hch p.1 z).2.2.2 p (zA4 _ hp) rfl
  exact⟨free p.1 _ nch e n,ne,nf,np,ps,keep p.1 _ ne nf nch e n,t.mono frzs⟩
def Inv.pinL(I:Inv X hV Z H s)(hp:p∈X.ta++(X.pn++hV)):p.1<s.heap.objs.size:=by
 rcases zAp.mp hp with z|z
 .obtain⟨_,_,_,_,_,e,_⟩:=I.tab p z
  exact zAW e
 .exact zAW (I.pin p z).1
def Inv.un{t':Nat}(I:Inv X hV Z H s)(u:Un X.fs [] H H' s.heap h')(hok:HOk X.prog X.w H' h'):Inv X hV Z H' {s with heap:=h',toks:=t'}:=by
 obtain⟨m,⟨o,es,ep,ho,r⟩,_⟩:=id I.loc;obtain⟨sl,hL⟩:=u.any ho I.free (by simp);exact I.step (g':=s.gens) (d':=s.drawn) (ch:=[]) (λ _ z=>nomatch z) (λ b o _ hb _ e n=>u.keep b o e n hb (by simp)) (λ b o _ hb _ e n=>u.slot b o e n hb (by simp)) (λ b o _ e n=>u.free b o e n (by simp)) (λ b o _ e=>u.there b o e (by simp)) u.tups u.frzs u.tbls (λ m' hm=>by
  obtain⟨o',es',ep',ho',r'⟩:=hm;rw[ho]at ho';cases ho';exact⟨_,es',ep',hL,r'⟩) hok I.bare
def Inv.call{g':Array zDJ}{t':Nat}{d':Drawn}{ch:List Addr}(I:Inv X hV Z H s)(u:Un (frs X.stack) ch H H' s.heap h')(hok:HOk X.prog X.w H' h')(hg:zE3 g')
  (hch:∀b∈ch,(b∈X.ex\/X.z5.heap.objs.size<=b)/\b≠X.env.locals/\(∀x c,X.env.cells.lookup x=some c->c≠b)/\∀p∈X.ta++(X.pn++hV),p.1≠b):
  Inv X hV Z H' {s with heap:=h',gens:=g',drawn:=d',toks:=t'}:=by
 obtain⟨m,⟨o,es,ep,ho,r⟩,_⟩:=id I.loc;obtain⟨sl,hL⟩:=u.any ho I.free λ z=>(hch _ z).2.1 rfl
 exact I.step (ch:=ch) hch (λ b o hL hb hc e n=>u.keep b o e n (λ z=>(zAN.mp (I.stkSub b z)).elim hL hb) hc) (λ b o _ _ hc e n=>u.any e n hc) (λ b o hc e n=>u.free b o e n hc) (λ b o hc e=>u.there b o e hc) u.tups u.frzs u.tbls (λ m' hm=>by
  obtain⟨o',es',ep',ho',r'⟩:=hm;rw[ho]at ho';cases ho';exact⟨_,es',ep',hL,r'⟩) hok hg
def Inv.turned{t':Nat}{it:Addr}(I:Inv X hV Z H s)(k:∀b o,b≠it->s.heap.get? b=some o->h'.get? b=some o)(hn:H it=none)(hL:it≠X.env.locals)
  (h1:it∈X.ex\/X.z5.heap.objs.size<=it)(h2:∀x c,X.env.cells.lookup x=some c->c≠it)(h3:∀p∈X.ta++(X.pn++hV),p.1≠it):Inv X hV Z H {s with heap:=h',toks:=t'}:=by
 have nit:∀b u,H b=some u->b≠it:=λ b u e z=>by rw[z,hn]at e;cases e
 refine I.step (g':=s.gens) (d':=s.drawn) (ch:=[it]) (λ b hb=>?_) (λ b o _ _ hc e _=>k b o (λ z=>hc (by simp[z])) e) (λ b o _ _ hc e _=>⟨o.slots,k b o (λ z=>hc (by simp[z])) e⟩) (λ _ _ _ _ n=>n)
  (λ b o hc e=>⟨o,k b o (λ z=>hc (by simp[z])) e⟩) (λ _ _ e=>e) (λ _ _ _ e=>e) (λ b ps e=>⟨#[],by rw[e];simp⟩) (λ m hm=>?_) (λ b u e=>?_) I.bare
 .have e:b=it:=by simpa using hb
  subst e;exact⟨h1,hL,h2,h3⟩
 .obtain⟨o,es,ep,ho,r⟩:=hm
  exact⟨o,es,ep,k _ o (zC0 hL) ho,r⟩
 .refine(I.hok b u e).stay (λ c v hc q=>k c v ?_ q) (λ _ q=>q) λ _ _ q=>q
  rcases hc with z|z
  .rw[z];exact nit b u e
  .exact nit c _ z
def Inv.tok(I:Inv X hV Z H s)(t:Nat):Inv X hV Z H {s with toks:=t}:=I.un (h':=s.heap) (t':=t) Un.refl I.hok
theorem Inv.kept(I:Inv X hV Z H s)(k:∀b u,s.heap.get? b=some u->h'.get? b=some u):Inv X hV Z H {s with heap:=h',toks:=t'}:=I.un (Un.kept k) (I.hok.kept k)
theorem Inv.laid(I:Inv X hV Z H s)(k:∀b u,s.heap.get? b=some u->h'.get? b=some u)(hp:s.heap.objs.size<=a)(new:bW X.prog X.w (upd H a o) h' a o):
  Inv X hV Z (upd H a o) {s with heap:=h',toks:=t'}:=I.un (Un.laid k hp (I.hok.fresh hp)) (I.hok.laid k hp new)
theorem Inv.write(I:Inv X hV Z H s)(mu:Mut (H x))(he:e=x\/H e=some (.own x))(k:∀b u,b≠e->s.heap.get? b=some u->h'.get? b=some u)(heo:∃u,h'.get? e=some u)
  (new:bW X.prog X.w (upd H x o) h' x o):Inv X hV Z (upd H x o) {s with heap:=h',toks:=t'}:=I.un (Un.write mu he k heo) (I.hok.write mu he k heo new)
def Inv.weak(I:Inv X hV Z H s)(hl:Z'.length=Z.length)(w:∀(i:Nat) v,Z'[i]? =some (some v)->Z[i]? =some (some v)):Inv X hV Z' H s:=
 ⟨I.ok,I.os,I.bare,I.base,let⟨m,hn,hl'⟩:=I.loc;⟨m,hn,λ i x v e1 e2 e3=>hl' i x v e1 (w i v e2) e3⟩,I.cell,I.free,I.freeC,I.pin,I.hok,hl.trans I.len,I.tab⟩
def Inv.pins_of(I:Inv X hV Z H s)(h:∀p∈pins',s.heap.get? p.1=some p.2/\H p.1=none/\p.1≠X.env.locals/\p.1∉X.fs/\∀v,p.2.data≠.cell v)(h2:∀q∈pins',∀p∈X.ta,q.1≠p.1):Inv X pins' Z H s:=
 ⟨I.ok,I.os,I.bare,I.base,I.loc,I.cell,I.free,I.freeC,λ p hp=>(zAp.mp hp).elim (λ z=>I.pin p (zA4 _ z)) (h p),I.hok,I.len,λ p hp=>let⟨a,b,c,d,e⟩:=I.tab p hp;⟨a,b,c,λ q hq=>(zAp.mp hq).elim (λ z=>d q (zA4 _ z)) (λ z=>h2 q z p hp),e⟩⟩
def uz{N:List Str}(hN:N.Nodup){i j:Nat}{x:Str}(a:N[i]? =some x)(b:N[j]? =some x):i=j:=by
 obtain⟨h1,e1⟩:=zAJ.mp a;obtain⟨h2,e2⟩:=zAJ.mp b;exact(List.getElem_inj hN).mp (e1.trans e2.symm)
def wj{M:Model}{A:zA8}{E:Value->zAB->Prop}{i:Nat}{x:Str}{v:V}{u:Value}{Q:Unit->zAB->Prop}(I:Inv X hV Z H s)(hN:X.N.Nodup)(hi:X.N[i]? =some x)(hx:Loc X.env.scope x)(r:RelV v u)
  (h:∀s',Inv X hV (Z.set i (some v)) H s'->(∃a,zEo a s.heap s'.heap/\(a=X.env.locals\/X.env.cells.lookup x=some a))->Q () s')(hf:X.fn x=true\/X.env.scope.names.lookup x=some .local:=by first|exact .inl rfl|exact .inr rfl|assumption):wpAny M A (storeName X.env x u) Q E s:=by
 obtain⟨m,hn,hl⟩:=id I.loc;have cS:(X.env.scope.kind== .class||(X.env.scope.kind== .module&&X.env.locals !=X.env.globals))=false:=by rw[I.ok.kind];rfl
 have hiZ:i<Z.length:=by rw[I.len];exact(zAJ.mp hi).1
 have cne:=I.cne;have oQ:∀{a:Addr} {h':Heap},(∃o,s.heap.get? a=some o/\H a=none)->zEo a s.heap h'->HOk X.prog X.w H h':=λ{a h'} ha hs b ob e=>by
  obtain⟨_,_,hfree⟩:=ha;refine(I.hok b ob e).stay (λ c w' hc q=>(hs.2 c ?_).trans q) (λ _ q=>q) λ _ _ q=>q
  rintro rfl;rcases hc with rfl|hc
  .rw[hfree]at e;cases e
  .rw[hfree]at hc;cases hc
 rcases hx with hk|hk
 .refine wpAny_storeName_local hk hn (λ h' hn' hs=>?_) cS
  obtain⟨oL,_,_,hoL,_⟩:=id hn;refine h _ ⟨I.ok,I.os,I.bare,⟨λ b o e n hb hx=>?_,λ b o e n hb hx=>?_,I.base.free,λ b o e hx=>?_,I.base.tups,I.base.frzs,I.base.tbls⟩,⟨_,hn',λ j y v' e1 e2 e3=>?_⟩,λ y c e=>?_,I.free,I.freeC,λ p hp=>?_,oQ ⟨oL,hoL,I.free⟩ hs,by simpa using I.len,λ p hp=>?_⟩ ⟨_,hs,.inl rfl⟩
  .exact(hs.2 b (zAa (zAR (zAW e) I.ok.above))).trans (I.base.keep b o e n hb hx)
  .obtain⟨sl,e1⟩:=I.base.slot b o e n hb hx
   exact⟨sl,(hs.2 b (zAa (zAR (zAW e) I.ok.above))).trans e1⟩
  .obtain⟨o',e1⟩:=I.base.there b o e hx
   exact⟨o',(hs.2 b (zAa (zAR (zAW e) I.ok.above))).trans e1⟩
  .by_cases hj:j=i
   .subst hj
    rw[hi]at e1;cases e1;rw[zBg hiZ]at e2;cases e2;exact⟨u,r,.inl ⟨hk,by simp⟩⟩
   .rw[zBD (zC0 hj)]at e2
    obtain⟨u',r',q⟩:=hl j y v' e1 e2 e3;refine⟨u',r',?_⟩;rcases q with ⟨k,e⟩|⟨k,c,e,z⟩
    .refine .inl ⟨k,?_⟩
     have:y≠x:=λ e=>hj (uz hN e1 (e▸hi))
     simp[this,e]
    .exact .inr ⟨k,c,e,z.sameBut hs (cne y c e)⟩
  .obtain⟨w',z⟩:=I.cell y c e
   exact⟨w',z.sameBut hs (cne y c e)⟩
  .obtain⟨e,n,ne,nf,d⟩:=I.pin p hp
   exact⟨(hs.2 p.1 ne).trans e,n,ne,nf,d⟩
  .obtain⟨n,ne,nf,np,ps,e,t⟩:=I.tab p hp
   exact⟨n,ne,nf,np,ps,(hs.2 p.1 ne).trans e,t⟩
 .have hfn:X.fn x=true:=by
   rcases hf with z|z
   .exact z
   .rw[z]at hk;cases hk
  obtain⟨c,hc⟩:=I.ok.has x (.inl hk);obtain⟨w',z⟩:=I.cell x c hc;refine wpAny_storeName_cell I.ok.kind hk hc z (λ h' hc' hs=>?_);obtain⟨oc,hoc,hocd⟩:=id z;refine h {s with heap:=h'} ⟨I.ok,I.os,I.bare,⟨λ b o e n hb hx=>?_,λ b o e n hb hx=>?_,I.base.free,λ b o e hx=>?_,I.base.tups,I.base.frzs,I.base.tbls⟩,⟨m,hn.sameBut hs (zC0 (cne x c hc)),λ j y v' e1 e2 e3=>?_⟩,λ y c' e=>?_,I.free,I.freeC,λ p hp=>?_,oQ ⟨oc,hoc,I.freeC x c hc⟩ hs,by simpa using I.len,λ p hp=>?_⟩ ⟨c,hs,.inr hc⟩
  .exact(hs.2 b (zAa (zAR (zAW e) (I.ok.cab x c hfn hc)))).trans (I.base.keep b o e n hb hx)
  .obtain⟨sl,e1⟩:=I.base.slot b o e n hb hx
   exact⟨sl,(hs.2 b (zAa (zAR (zAW e) (I.ok.cab x c hfn hc)))).trans e1⟩
  .obtain⟨o',e1⟩:=I.base.there b o e hx
   exact⟨o',(hs.2 b (zAa (zAR (zAW e) (I.ok.cab x c hfn hc)))).trans e1⟩
  .by_cases hj:j=i
   .subst hj
    rw[hi]at e1;cases e1;rw[zBg hiZ]at e2;cases e2;exact⟨u,r,.inr ⟨.inl hk,c,hc,hc'⟩⟩
   .rw[zBD (zC0 hj)]at e2
    obtain⟨u',r',q⟩:=hl j y v' e1 e2 e3;refine⟨u',r',?_⟩;rcases q with q|⟨k,c',e,z'⟩
    .exact .inl q
    .refine .inr ⟨k,c',e,z'.sameBut hs ?_⟩
     rintro rfl;exact hj (uz hN e1 (I.ok.inj _ _ _ e hc▸hi))
  .by_cases hcc:c'=c
   .subst hcc;exact⟨_,hc'⟩
   .obtain⟨w2,z2⟩:=I.cell y c' e
    exact⟨w2,z2.sameBut hs hcc⟩
  .obtain⟨e,n,ne,nf,d⟩:=I.pin p hp
   refine⟨(hs.2 p.1 ?_).trans e,n,ne,nf,d⟩;intro q;rw[q,hoc]at e;have q':oc=p.2:=zAe e;exact d w' (by rw[<-q'];exact hocd)
  .obtain⟨n,ne,nf,np,ps,e,t⟩:=I.tab p hp
   refine⟨n,ne,nf,np,ps,(hs.2 p.1 ?_).trans e,t⟩;intro q;rw[q,hoc]at e;rw[zAe e]at hocd;cases hocd
def uO(I:Inv X hV Z H s)(hN:X.N.Nodup)(hi:X.N[i]? =some x)(hx:Loc X.env.scope x)(r:RelV v u)
  (h:∀s',Inv X hV (Z.set i (some v)) H s'->Q () s')(hf:X.fn x=true\/X.env.scope.names.lookup x=some .local:=by first|exact .inl rfl|exact .inr rfl|assumption):wpAny M A (storeName X.env x u) Q E s:=
 wj I hN hi hx r (λ s' I' _=>h s' I') hf
def Inv.call'(I:Inv X hV Z H s)(ho:s'.os=s.os)(u:Un (frs X.stack) ch H H' s.heap s'.heap)(hok:HOk X.prog X.w H' s'.heap)(hg:zE3 s'.gens)
  (hch:∀b∈ch,(b∈X.ex\/X.z5.heap.objs.size<=b)/\b≠X.env.locals/\(∀x c,X.env.cells.lookup x=some c->c≠b)/\∀p∈X.ta++(X.pn++hV),p.1≠b):Inv X hV Z H' s':=by
 obtain⟨h',g',d',t',o'⟩:=s';have e:o'=s.os:=ho;subst e;exact I.call (g':=g') (t':=t') (d':=d') u hok hg hch
end
abbrev XK:=Value->Option Addr->Hp->Prop
abbrev St:=List (Option V)
abbrev VK:=V->Hp->Prop
abbrev TE:=St->Hp->VK->Prop
abbrev TT:=St->Hp->(Bool->Hp->Prop)->Prop
abbrev TA:=St->Hp->(List V->Hp->Prop)->Prop
structure Ends where
 nx:St->Hp->Prop
 rt:VK
 bk:St->Hp->Prop:=λ _ _=>False
 ct:St->Hp->Prop:=λ _ _=>False
abbrev TS:=Ends->St->Hp->Prop
def EP(X:Cx)(hV:gV)(Z:St)(Q:VK)(u:Value)(s':zAB):Prop:=∃v H',Inv X hV Z H' s'/\RelV v u/\Q v H'
def TP(X:Cx)(hV:gV)(Z:St)(Q:Bool->Hp->Prop)(b:Bool)(s':zAB):Prop:=∃H',Inv X hV Z H' s'/\Q b H'
def AP(X:Cx)(hV:gV)(Z:St)(Q:List V->Hp->Prop)(us:List Value)(s':zAB):Prop:=∃vs H',Inv X hV Z H' s'/\Vals vs us/\Q vs H'
def SP(X:Cx)(hV:gV)(D:Ends)(f:Flow)(s':zAB):Prop:=
 match f with
 | .next=>∃Z' H',Inv X hV Z' H' s'/\D.nx Z' H'
 | .brk=>∃Z' H',Inv X hV Z' H' s'/\D.bk Z' H'
 | .cont=>∃Z' H',Inv X hV Z' H' s'/\D.ct Z' H'
 | .ret u=>∃v Z' H',Inv X hV Z' H' s'/\RelV v u/\D.rt v H'
def PE(X:Cx)(e:Expr)(t:TE):Prop:=
 ∀(hV:gV) (s:zAB) (Z:St) (H:Hp) (Q:VK),Inv X hV Z H s->t Z H Q->wpAny (model X.prog X.w) X.A (eval e X.env) (EP X hV Z Q) X.xe s
def PT(X:Cx)(e:Expr)(t:TT):Prop:=
 ∀(hV:gV) (s:zAB) (Z:St) (H:Hp) (Q:Bool->Hp->Prop),Inv X hV Z H s->t Z H Q->wpAny (model X.prog X.w) X.A (isTrue e X.env (eval e X.env)) (TP X hV Z Q) X.xe s
def PW(X:Cx)(e:Expr)(t:TT):Prop:=
 ∀(whole:Sem Value) (hV:gV) (s:zAB) (Z:St) (H:Hp) (Q:Bool->Hp->Prop),Inv X hV Z H s->t Z H Q->wpAny (model X.prog X.w) X.A (isTrue e X.env whole) (TP X hV Z Q) X.xe s
def PW.pt(h:PW X e t):PT X e t:=h _
def PA(X:Cx)(es:List Expr)(t:TA):Prop:=
 ∀(pos:Pos) (hV:gV) (s:zAB) (Z:St) (H:Hp) (Q:List V->Hp->Prop),Inv X hV Z H s->t Z H Q->wpAny (model X.prog X.w) X.A (spliced (zCE pos (zAY es X.env))) (AP X hV Z Q) X.xe s
def PS(X:Cx)(st:Stmt)(t:TS):Prop:=
 ∀(hV:gV) (s:zAB) (Z:St) (H:Hp) (D:Ends),Inv X hV Z H s->t D Z H->wpAny (model X.prog X.w) X.A (exec st X.env) (SP X hV D) X.xe s
def PSs(X:Cx)(st:List Stmt)(t:TS):Prop:=
 ∀(hV:gV) (s:zAB) (Z:St) (H:Hp) (D:Ends),Inv X hV Z H s->t D Z H->wpAny (model X.prog X.w) X.A (execs st X.env) (SP X hV D) X.xe s
def thn(h:wpAny M A t Q E s)(hQ:∀a s,Q a s->Q' a s):wpAny M A t Q' E s:=zBC h hQ λ _ _ x=>x
section
variable{X:Cx}
def bin{a b:Expr}{ta tb:TE}(ha:PE X a ta)(hb:PE X b tb){hV:gV}{s:zAB}{Z:St}{H:Hp}{R:V->V->Hp->Prop}(I:Inv X hV Z H s)(h:ta Z H λ x H1=>tb Z H1 λ y H2=>R x y H2)
  {α:Type}{Q:α->zAB->Prop}{f:Value->Value->Sem α}
  (hf:∀v u s2 x y H2,Inv X hV Z H2 s2->RelV x v->RelV y u->R x y H2->wpAny (model X.prog X.w) X.A (f v u) Q X.xe s2):
  wpAny (model X.prog X.w) X.A (eval a X.env) (λ v zD=>wpAny (model X.prog X.w) X.A (eval b X.env) (λ u zS=>wpAny (model X.prog X.w) X.A (f v u) Q X.xe zS) X.xe zD) X.xe s:=by
 refine thn (ha hV s Z H _ I h) λ v s1 ⟨x,H1,I1,r1,q1⟩=>?_
 refine thn (hb hV s1 Z H1 _ I1 q1) λ u s2 ⟨y,H2,I2,r2,q2⟩=>?_
 exact hf v u s2 x y H2 I2 r1 r2 q2
def jR(i:Nat):TE:=λ Z H Q=>∃v,Z[i]? =some (some v)/\Q v H
def tC(v:V):TE:=λ _ H Q=>Q v H
abbrev _root_.Nd(x:PySem.Str):Prop:=(x==("__debug__":PySem.Str))=false
def cu(hN:X.N[i]? =some x)(hv:Vis X.env.scope x)(hd:Nd x:=by decide)(hcd:(x==("__classdict__":Str))=false:=by decide):PE X (.Name x pos) (jR i):=by
 intro hV s Z H Q I h;obtain⟨v,e,h⟩:=h;obtain⟨m,hn,hl⟩:=I.loc;obtain⟨u,r,l⟩:=hl i x v hN e hv;have fin:EP X hV Z Q u s:=⟨v,H,I,r,h⟩;rcases l with ⟨hk,hm⟩|⟨hk,c,hc,hcell⟩
 .exact zEh (zHc I.ok.kind hk hn hm fin) hd
 .rcases hk with hk|hk
  .exact zEh (zHn I.ok.kind hk hc hcell fin) hd
  .exact zEh (zHo I.ok.kind hk hc hcell fin hcd) hd
def aFh{i j pos}:PE X (.Constant (.int i) j pos) (tC (.int i)):=λ _ _ _ H _ I h=>wpAny_Constant_int ⟨.int i,H,I.tok _,⟨_,rfl⟩,h⟩
def aFn{b j pos}:PE X (.Constant (.bool b) j pos) (tC (.bl b)):=λ _ _ _ H _ I h=>Constant_bool ⟨.bl b,H,I,rfl,h⟩
def aKz{j pos}:PE X (.Constant .none j pos) (tC .non):=λ _ _ _ H _ I h=>Constant_none ⟨.non,H,I,rfl,h⟩
def dm{x j pos}:PE X (.Constant (.str x) j pos) (tC (.str x)):=λ _ _ _ H _ I h=>Calls.Constant_str ⟨.str x,H,I.tok _,⟨_,rfl⟩,h⟩
def Gl(X:Cx)(x:Str):Prop:=X.env.kindOf x=some .globalImplicit
def nJ(I:Inv X hV Z H s)(hg:Gl X x)(hm:X.mg x=some u)(h:Q u s)
  (hd:Nd x:=by decide):wpAny (model X.prog X.w) X.A (eval (.Name x pos) X.env) Q E s:=
 zFK I.ok.kind hg (Calls.loadGlobal_global (by rw[I.ok.glob];exact I.mod.glob.keeps I.bk) hm h) hd
def pH(I:Inv X hV Z H s)(hg:Gl X x)(hm:X.mg x=none)(hv:zAv x=some u)(h:Q u s)
  (hn:x≠"__name__":=by decide)(hd:Nd x:=by decide):wpAny (model X.prog X.w) X.A (eval (.Name x pos) X.env) Q E s:=by
 obtain⟨mb,h1,h2⟩:=I.mod.blt;exact zFK I.ok.kind hg (Calls.loadGlobal_builtin (by rw[I.ok.glob];exact I.mod.glob.keeps I.bk) hm (by rw[I.ok.blt];exact h1.keeps I.bk) ((h2 x hn).trans hv) h) hd
def dC(hg:Gl X x)(hm:X.mg x=some u)(r:RelV v u)(hd:Nd x:=by decide):PE X (.Name x pos) (tC v):=
 λ _ _ _ H _ I h=>nJ I hg hm ⟨v,H,I,r,h⟩ hd
def aCo(hg:Gl X x)(hm:X.mg x=none)(hv:zAv x=some u)(r:RelV v u)(hn:x≠"__name__":=by decide)(hd:Nd x:=by decide):PE X (.Name x pos) (tC v):=
 λ _ _ _ H _ I h=>pH I hg hm hv ⟨v,H,I,r,h⟩ hn hd
def t2I(ta tb:TE)(k:Int->Int->Hp->Prop):St->Hp->Prop:=λ Z H=>ta Z H λ x H1=>tb Z H1 λ y H2=>∃i j,x= .int i/\y= .int j/\k i j H2
variable{a b:Expr}{ta tb:TE}{pos:Pos}
def PC(X:Cx)(op:CmpOp)(a b:Expr)(t:TE):Prop:=
 ∀(hV:gV) (s:zAB) (Z:St) (H:Hp) (Q:VK),Inv X hV Z H s->t Z H Q->
  wpAny (model X.prog X.w) X.A (eval a X.env) (λ v zD=>wpAny (model X.prog X.w) X.A (eval b X.env) (λ u zS=>wpAny (model X.prog X.w) X.A (zAy op v u) (EP X hV Z Q) X.xe zS) X.xe zD) X.xe s
def aFx(b:Expr)(h:op≠.In)(h2:op≠.NotIn):zCM op b=false:=by
 have e1:(op==CmpOp.In)=false:=by cases op<;>first|rfl|exact absurd rfl h
 have e2:(op==zIJ)=false:=by cases op<;>first|rfl|exact absurd rfl h2
 cases b<;>simp[zCM,e1,e2]
def aMj(p:Int->Int->Bool)(ta tb:TE):TE:=λ Z H Q=>t2I ta tb (λ i j H2=>Q (.bl (p i j)) H2) Z H
abbrev aNp:TE->TE->TE:=aMj λ i j=>!decide (i=j)
def aLE{op:CmpOp}{p:Int->Int->Bool}(ha:PE X a ta)(hb:PE X b tb)
  (rule:∀(i j:Int) (t u:Tok) (Q:Value->zAB->Prop) (s:zAB),Q (.bool (p i j)) s->wpAny (model X.prog X.w) X.A (zAy op (.int i t) (.int j u)) Q X.xe s):PC X op a b (aMj p ta tb):=by
 intro hV s Z H Q I h;refine bin ha hb I h λ v u s2 x y H2 I2 rx ry q=>?_
 obtain⟨i,j,rfl,rfl,q⟩:=q;obtain⟨t,rfl⟩:=rx;obtain⟨t',rfl⟩:=ry;exact rule i j t t' _ s2 ⟨.bl _,H2,I2,rfl,q⟩
def aLD(ha:PE X a ta)(hb:PE X b tb):PC X .NotEq a b (aNp ta tb):=aLE ha hb λ _ _ _ _ _ _ h=>ne_int (by rw[bne,Bool.beq_eq_decide_eq];exact h)
def tB(t:TE):TT:=λ Z H Q=>t Z H λ x H1=>∃c,x= .bl c/\Q c H1
def aKq(h:PC X op a b t)(h1:zCM op b=false:=by first|exact aFx _ (by decide) (by decide)|rfl):PT X (.Compare a [op] [b] pos) (tB t):=by
 intro hV s Z H Q I hw;refine zH8 (thn (h hV s Z H _ I hw) λ v s1 h1=>thn h1 λ u s2 h2=>thn h2 λ c s3 ⟨x,H1,I1,r1,q1⟩=>?_) h1;obtain⟨d,rfl,q⟩:=q1;cases r1;exact zB6 ⟨H1,I1,q⟩
def aFY(h:PE X e t)(he:∀whole,isTrue e X.env whole=(do let v <-whole;zFh e.pos;zDo [v] (truthy v)):=by intro _;rfl):PT X e (tB t):=by
 intro hV s Z H Q I hw;refine isTrue_plain (thn (h hV s Z H _ I hw) λ v s1 ⟨x,H1,I1,r1,q1⟩=>?_) (he _);obtain⟨d,rfl,q⟩:=q1;cases r1;exact zB6 ⟨H1,I1,q⟩
variable{tA tB':TT}{rest:List Expr}
def aNt(t u:TT):TT:=λ Z H Q=>t Z H λ c H1=>if c=true then u Z H1 Q else Q false H1
def tOr(t u:TT):TT:=λ Z H Q=>t Z H λ c H1=>if c=true then Q true H1 else u Z H1 Q
def aNo(t:TT):TT:=λ Z H Q=>t Z H λ c H1=>Q (!c) H1
def aHz(ha:PT X a tA):PW X (.BoolOp .And [a] pos) tA:=by
 intro wh hV s Z H Q I h;refine isTrue_and (thn (ha hV s Z H Q I h) λ c s1 e=>?_);cases c with
 |true=>exact isTrue_and_nil e
 |false=>exact e
def aFV(ha:PT X a tA):PW X (.BoolOp .Or [a] pos) tA:=by
 intro wh hV s Z H Q I h;refine isTrue_or (thn (ha hV s Z H Q I h) λ c s1 e=>?_);cases c with
 |false=>exact isTrue_or_nil e
 |true=>exact e
def aKp(ha:PT X a tA)(hb:PW X (.BoolOp .And (b::rest) pos) tB'):PW X (.BoolOp .And (a::b::rest) pos) (aNt tA tB'):=by
 intro wh hV s Z H Q I h;refine isTrue_and (thn (ha hV s Z H _ I h) λ c s1 ⟨H1,I1,q1⟩=>?_);cases c with
 |true=>exact hb wh hV s1 Z H1 Q I1 q1
 |false=>exact⟨H1,I1,q1⟩
def aJu(ha:PT X a tA)(hb:PW X (.BoolOp .Or (b::rest) pos) tB'):PW X (.BoolOp .Or (a::b::rest) pos) (tOr tA tB'):=by
 intro wh hV s Z H Q I h;refine isTrue_or (thn (ha hV s Z H _ I h) λ c s1 ⟨H1,I1,q1⟩=>?_);cases c with
 |true=>exact⟨H1,I1,q1⟩
 |false=>exact hb wh hV s1 Z H1 Q I1 q1
def aBk(ha:PT X a tA):PT X (.UnaryOp .Not a pos) (aNo tA):=by
 intro hV s Z H Q I h;exact isTrue_not (ha hV s Z H (λ c H1=>Q (!c) H1) I h)
def aMl(ta tb:TE):TE:=λ Z H Q=>ta Z H λ x H1=>∃c,x= .bl c/\if c=true then tb Z H1 Q else Q (.bl false) H1
def aNn(ta tb:TE):TE:=λ Z H Q=>ta Z H λ x H1=>∃c,x= .bl c/\if c=true then Q (.bl true) H1 else tb Z H1 Q
def aMe(ta:TE):TE:=λ Z H Q=>ta Z H λ x H1=>∃c,x= .bl c/\Q (.bl (!c)) H1
def aKx{op}(h:PE X a t):PE X (.BoolOp op [a] pos) t:=λ hV s Z H Q I hw=>BoolOp_one (h hV s Z H Q I hw)
def aLC(ha:PE X a ta)(hb:PE X (.BoolOp .And (b::rest) pos) tb):PE X (.BoolOp .And (a::b::rest) pos) (aMl ta tb):=by
 intro hV s Z H Q I h;refine BoolOp_and (thn (ha hV s Z H _ I h) λ v s1 ⟨x,H1,I1,r1,q1⟩=>?_);obtain⟨c,rfl,q1⟩:=q1;cases r1;refine zB6 ?_;cases c with
 |true=>exact hb hV s1 Z H1 Q I1 q1
 |false=>exact⟨.bl false,H1,I1,rfl,q1⟩
def aNC(ha:PE X a ta)(hb:PE X (.BoolOp .Or (b::rest) pos) tb):PE X (.BoolOp .Or (a::b::rest) pos) (aNn ta tb):=by
 intro hV s Z H Q I h;refine BoolOp_or (thn (ha hV s Z H _ I h) λ v s1 ⟨x,H1,I1,r1,q1⟩=>?_);obtain⟨c,rfl,q1⟩:=q1;cases r1;refine zB6 ?_;cases c with
 |false=>exact hb hV s1 Z H1 Q I1 q1
 |true=>exact⟨.bl true,H1,I1,rfl,q1⟩
def aKy(ha:PE X a ta):PE X (.UnaryOp .Not a pos) (aMe ta):=by
 intro hV s Z H Q I h;refine UnaryOp_ (thn (ha hV s Z H _ I h) λ v s1 ⟨x,H1,I1,r1,q1⟩=>?_);obtain⟨c,rfl,q1⟩:=q1;cases r1;exact not_of (zB6 ⟨.bl (!c),H1,I1,rfl,q1⟩)
def tIf(t:TT)(ta tb:TE):TE:=λ Z H Q=>t Z H λ c H1=>if c=true then ta Z H1 Q else tb Z H1 Q
def aFi(hc:PT X c tA)(ha:PE X a ta)(hb:PE X b tb):PE X (.IfExp c a b pos) (tIf tA ta tb):=by
 intro hV s Z H Q I h;refine wpAny_IfExp (thn (hc hV s Z H _ I h) λ d s1 ⟨H1,I1,q1⟩=>?_);cases d with
 |true=>exact ha hV s1 Z H1 Q I1 q1
 |false=>exact hb hV s1 Z H1 Q I1 q1
end
def SqL(K:zAA)(H:Hp)(a:Addr)(xs:List V):Prop:=
 Rd H a (.lst xs)\/
  ∃(o:Obj) (its:Array Value) (n:Nat),K.lookup a=some o/\o.cls= .type "list"/\o.dict=none/\o.data= .seq its n/\its.size<=zAK/\Vals xs its.toList
def SqT(K:zAA)(H:Hp)(a:Addr)(xs:List V):Prop:=
 Rd H a (.tup xs)\/
  ∃(o:Obj) (its:Array Value) (n:Nat),K.lookup a=some o/\o.cls= .type "tuple"/\o.dict=none/\o.data= .seq its n/\its.size<=zAK/\Vals xs its.toList
def aOD:Value->Option V
 | .none=>some .non
 | .bool b=>some (.bl b)
 | .int i _=>some (.int i)
 | .str x _=>some (.str x)
 | .bytes b _=>some (.byt b)
 | .float b _=>some (.flt b)
 | .ref a=>some (.ref a)
 | .type n=>some (.ty n)
 |_=>none
def RelV.abs(r:RelV x u):aOD u=some x:=by
 cases x with
 |non=>cases r;rfl
 |bl _=>cases r;rfl
 |int _=>obtain⟨t,rfl⟩:=r;rfl
 |str _=>obtain⟨t,rfl⟩:=r;rfl
 |byt _=>obtain⟨t,rfl⟩:=r;rfl
 |flt _=>obtain⟨t,rfl⟩:=r;rfl
 |ref _=>cases r;rfl
 |ty _=>cases r;rfl
def RelV.inj(r:RelV x u)(q:RelV y u):x=y:=zAe (r.abs.symm.trans q.abs)
theorem Vals.inj:∀{xs ys:List V} {us:List Value},Vals xs us->Vals ys us->xs=ys
 |_,_,_,.nil,.nil=>rfl
 |_,_,_,.cons r t,.cons r' t'=>by rw[r.inj r',Vals.inj t t']
section
variable{X:Cx}{hV:gV}{Z:St}{H:Hp}{s:zAB}{a:Addr}{xs ys:List V}
def SqL.of{K:zAA}(h:H a=some (.lst xs)):SqL K H a xs:=.inl (.inl h)
def SqT.of{K:zAA}(h:H a=some (.tup xs)):SqT K H a xs:=.inl (.inl h)
def Inv.list(I:Inv X hV Z H s)(h:SqL X.K H a xs):∃its:List Value,Vals xs its/\PlainL s.heap a its.toArray/\xs.length<=zAK:=by
 rcases h with h|⟨o,its,n,hk,hc,hd,hs,hz,r⟩
 .obtain⟨z,its,n,r,e⟩:=h.ok I.hok
  exact⟨its,r,⟨_,n,e,rfl,rfl,rfl⟩,z⟩
 .refine⟨its.toList,r,⟨o,n,I.kIn a o hk,hc,hd,by simpa using hs⟩,?_⟩
  have e:=r.length;simp only[zDM]at e;lia
def Inv.tuple(I:Inv X hV Z H s)(h:SqT X.K H a xs):∃its:List Value,Vals xs its/\IsTup s.heap a its.toArray/\xs.length<=zAK:=by
 rcases h with h|⟨o,its,n,hk,hc,hd,hs,hz,r⟩
 .obtain⟨z,its,r,p⟩:=h.ok I.hok
  exact⟨its,r,p,z.1⟩
 .refine⟨its.toList,r,⟨o,I.kIn a o hk,hc,n,by simpa using hs⟩,?_⟩
  have e:=r.length;simp only[zDM]at e;lia
def Inv.list_inj(I:Inv X hV Z H s)(h:SqL X.K H a xs)(h':SqL X.K H a ys):xs=ys:=by
 obtain⟨its,r,⟨o,n,e,_,_,d⟩,_⟩:=I.list h;obtain⟨its',r',⟨o',n',e',_,_,d'⟩,_⟩:=I.list h';rw[e]at e';cases e';rw[d]at d';injection d' with d1 _
 have:its=its':=by simpa using congrArg zHp d1
 subst this;exact r.inj r'
def Inv.tuple_inj(I:Inv X hV Z H s)(h:SqT X.K H a xs)(h':SqT X.K H a ys):xs=ys:=by
 obtain⟨its,r,⟨o,e,_,n,d⟩,_⟩:=I.tuple h;obtain⟨its',r',⟨o',e',_,n',d'⟩,_⟩:=I.tuple h';rw[e]at e';cases e';rw[d]at d';injection d' with d1 _
 have:its=its':=by simpa using congrArg zHp d1
 subst this;exact r.inj r'
end
section
variable{X:Cx}{st:Stmt}{rest:List Stmt}{t u:TS}{e:Expr}{te:TE}{pos:Pos}
def aMf:TS:=λ D Z H=>D.nx Z H
def aNm(t u:TS):TS:=λ D Z H=>t {D with nx:=u D} Z H
def uC:PSs X [] aMf:=λ _ _ Z H _ I h=>zD9 ⟨Z,H,I,h⟩
def dG(h1:PS X st t)(h2:PSs X rest u):PSs X (st::rest) (aNm t u):=by
 intro hV s Z H D I h;refine wpAny_execs_cons (thn (h1 hV s Z H {D with nx:=u D} I h) λ f s1 q=>?_);cases f with
 |next=>
  obtain⟨Z',H',I',q⟩:=q;exact h2 hV s1 Z' H' D I' q
 |ret v=>exact q
 |brk=>exact q
 |cont=>exact q
def jL(h1:PS X st t):PSs X [st] t:=by
 intro hV s Z H D I h;refine wpAny_execs_cons (thn (h1 hV s Z H D I h) λ f s1 q=>?_);cases f with
 |next=>exact zD9 q
 |ret v=>exact q
 |brk=>exact q
 |cont=>exact q
def Inv.quiet(I:Inv X hV Z H s):interactive X.env=false:=by simp[interactive,I.ok.kind]
def rW(te:TE):TS:=λ D Z H=>te Z H λ _ H1=>D.nx Z H1
def lA(he:PE X e te)(hs:zCG e none pos.line X.env=pure false:=by rfl):PS X (.Expr e pos) (rW te):=by
 intro hV s Z H D I h;exact wpAny_Expr_any (thn (he hV s Z H _ I h) λ v s1 ⟨x,H1,I1,r1,q1⟩=>⟨Z,H1,I1,q1⟩) I.quiet hs
def aKW(te:TE):TS:=λ D Z H=>te Z H D.rt
def uo(he:PE X e te):PS X (.Return (some e) pos) (aKW te):=by
 intro hV s Z H D I h;exact wpAny_Return_some (thn (he hV s Z H _ I h) λ v s1 ⟨x,H1,I1,r1,q1⟩=>⟨x,Z,H1,I1,r1,q1⟩)
def aNs(c:TT)(t u:TS):TS:=λ D Z H=>c Z H λ b H1=>if b=true then t D Z H1 else u D Z H1
def aCl(hc:PT X c tc)(ha:PSs X a t)(hb:PSs X b u):PS X (.If c a b pos) (aNs tc t u):=by
 intro hV s Z H D I h;refine wpAny_If (thn (hc hV s Z H _ I h) λ d s1 ⟨H1,I1,q1⟩=>?_);cases d with
 |true=>exact ha hV s1 Z H1 D I1 q1
 |false=>exact hb hV s1 Z H1 D I1 q1
end
abbrev TG:=V->St->Hp->(St->Hp->Prop)->Prop
abbrev TGs:=List V->St->Hp->(St->Hp->Prop)->Prop
def PG(X:Cx)(target:Expr)(t:TG):Prop:=
 ∀(hV:gV) (s:zAB) (Z:St) (H:Hp) (v:V) (u:Value) (Q:St->Hp->Prop),Inv X hV Z H s->RelV v u->t v Z H Q->
  wpAny (model X.prog X.w) X.A (zDv target X.env u) (λ _ s'=>∃Z' H',Inv X hV Z' H' s'/\Q Z' H') X.xe s
def PGs(X:Cx)(ts:List Expr)(t:TGs):Prop:=
 ∀(hV:gV) (s:zAB) (Z:St) (H:Hp) (vs:List V) (us:List Value) (Q:St->Hp->Prop),Inv X hV Z H s->Vals vs us->t vs Z H Q->
  wpAny (model X.prog X.w) X.A (assignInOrder ((zCR ts X.env).map (·.2)) us) (λ _ s'=>∃Z' H',Inv X hV Z' H' s'/\Q Z' H') X.xe s
abbrev aNb:=V->V->V->Hp->(Hp->Prop)->Prop
def aNf(X:Cx)(t:aNb):Prop:=
 ∀(hV:gV) (s:zAB) (Z:St) (H:Hp) (o i v:V) (ov iv u:Value) (Q:Hp->Prop),Inv X hV Z H s->RelV o ov->RelV i iv->RelV v u->t o i v H Q->
  wpAny (model X.prog X.w) X.A (setItem ov iv u) (λ _ s'=>∃H',Inv X hV Z H' s'/\Q H') X.xe s
section
variable{X:Cx}{pos:Pos}
def oE(i:Nat):TG:=λ v Z H Q=>Q (Z.set i (some v)) H
def aIL(hN:X.N.Nodup)(hi:X.N[i]? =some x)(hx:Loc X.env.scope x)(hf:X.fn x=true\/X.env.scope.names.lookup x=some .local:=by first|exact .inl rfl|exact .inr rfl|assumption):PG X (.Name x pos) (oE i):=by
 intro hV s Z H v u Q I r h;exact zIU (uO I hN hi hx r (λ s' I'=>⟨_,H,I',h⟩) hf)
def aLu:TGs:=λ vs Z H Q=>vs=[]/\Q Z H
def aGg(t:TG)(u:TGs):TGs:=λ vs Z H Q=>∃v r,vs=v::r/\t v Z H λ Z' H'=>u r Z' H' Q
def aIK:PGs X [] aLu:=by
 intro hV s Z H vs us Q I r h;obtain⟨e,h⟩:=h;subst e;cases r;exact assignInOrder_nil ⟨Z,H,I,h⟩
def aFc(h1:PG X e t)(h2:PGs X es u)
  (hs:(zCR (e::es) X.env).map (·.2)=zDv e X.env::(zCR es X.env).map (·.2):=by rfl):PGs X (e::es) (aGg t u):=by
 intro hV s Z H vs us Q I r h;obtain⟨v,vr,e1,h⟩:=h;subst e1;cases r with
 |cons r rr=>
  rw[hs];refine assignInOrder_cons (thn (h1 hV s Z H _ _ _ I r h) λ _ s1 ⟨Z1,H1,I1,q1⟩=>?_);exact h2 hV s1 Z1 H1 _ _ Q I1 rr q1
def aJF(K:zAA)(n:Nat)(t:TGs):TG:=λ v Z H Q=>∃a xs,v= .ref a/\SqT K H a xs/\xs.length=n/\t xs Z H Q
def aKs(hc:X.calm=true)(h:PGs X es t)
  (hn:(zCR es X.env).length=n:=by rfl)(hst:(zCR es X.env).findIdx? (·.1)=none:=by rfl):PG X (.Tuple es k pos) (aJF X.K n t):=by
 intro hV s Z H v u Q I r hw;obtain⟨a,xs,e1,hq,hl,hw⟩:=hw;subst e1;cases r;obtain⟨its,rv,ht,hz⟩:=I.tuple hq;refine assign_Tuple_tuple (I.ok.hd hc) ht (by simp[hn,<-hl,rv.length]) hst λ h' hx=>?_
 have I1:Inv X hV Z H {s with heap:=h'}:=I.kept (t':=s.toks) λ b o e=>hx b o (zAa (zAW e)) e
 exact h hV _ Z H xs _ Q I1 (by simpa using rv) hw
def aN0(to ti:TE)(t:aNb):TG:=λ v Z H Q=>to Z H λ o H1=>ti Z H1 λ i H2=>t o i v H2 λ H3=>Q Z H3
def aKt(ho:PE X o to)(hi:PE X i ti)(hs:aNf X t)
  (ha:∀v,zDv (.Subscript o i pos) X.env v=(do
   let ov <-zDo [v] (eval o X.env);let iv <-zDo [v,ov] (eval i X.env)
   zFh pos
   zDo [v,ov,iv] (setItem ov iv v)
   release [v,ov,iv] []):=by intro _;rfl):PG X (.Subscript o i pos) (aN0 to ti t):=by
 intro hV s Z H v u Q I r h;rw[ha];refine zAQ (zCw (thn (ho hV s Z H _ I h) λ ov s1 ⟨x,H1,I1,r1,q1⟩=>?_));refine zAQ (zCw (thn (hi hV s1 Z H1 _ I1 q1) λ iv s2 ⟨y,H2,I2,r2,q2⟩=>?_));refine zAQ (zEO (zAQ (zCw (thn (hs hV s2 Z H2 x y v ov iv u _ I2 r1 r2 r q2) λ _ s3 ⟨H3,I3,q3⟩=>?_))));exact wpAny_release ⟨Z,H3,I3,q3⟩
def zz(te:TE)(g:TG):TS:=λ D Z H=>te Z H λ x H1=>g x Z H1 D.nx
def aF4(he:PE X e te)(hg:PG X tg g)(hs:zHI [tg] e pos.line X.env=pure false:=by rfl)(hw:zHH [tg] e X.env=pure none:=by rfl)
  (h1:(zCR [tg] X.env).map (·.2)=[zDv tg X.env]:=by rfl):PS X (.Assign [tg] e pos) (zz te g):=by
 intro hV s Z H D I h;refine wpAny_Assign_stores (thn (he hV s Z H _ I h) λ v s1 ⟨x,H1,I1,r1,q1⟩=>?_) hs hw;rw[h1];exact thn (hg hV s1 Z H1 x v _ I1 r1 q1) λ _ s2 q=>q
def km(hN:X.N.Nodup)(hi:X.N[i]? =some x)(hx:Loc X.env.scope x)(he:PE X e te)(hs:zCG e (some (.Name x pos')) pos.line X.env=pure false:=by rfl)(hf:X.fn x=true\/X.env.scope.names.lookup x=some .local:=by first|exact .inl rfl|exact .inr rfl|assumption):
  PS X (.Assign [.Name x pos'] e pos) (zz te (oE i)):=by
 intro hV s Z H D I h;refine wpAny_Assign_Name (thn (he hV s Z H _ I h) λ v s1 ⟨y,H1,I1,r1,q1⟩=>?_) hs;exact uO I1 hN hi hx r1 (λ s2 I2=>⟨_,H1,I2,q1⟩) hf
end
section
variable{X:Cx}{pos:Pos}
def aKV(c:TT)(tb:TS):TS:=λ D Z H=>∃W:Nat->St->Hp->Prop,(∃m,W m Z H)/\∀m Z H,W m Z H->
 c Z H λ b H1=>if b=true then∃N:St->Hp->Prop,(∀Z' H',N Z' H'->∃m',m'<m/\W m' Z' H')/\tb {D with nx:=N,ct:=N,bk:=D.nx} Z H1 else D.nx Z H1
def aF0(hp:zH3 (model X.prog X.w) X.A X.env X.xe)(hc:PT X c tc)(hb:PSs X body tb):PS X (.While c body [] pos) (aKV tc tb):=by
 intro hV s Z H D I h;obtain⟨W,⟨m0,w0⟩,turn⟩:=h;refine wpAny_While (codeAny_whileLoop (λ n s'=>∃Z' H',Inv X hV Z' H' s'/\W n Z' H') ?_ m0 ⟨Z,H,I,w0⟩);rintro n s1 ⟨Z1,H1,I1,w1⟩;refine zC2 hp (thn (hc hV s1 Z1 H1 _ I1 (turn n Z1 H1 w1)) λ b s2 ⟨H2,I2,q2⟩=>?_);cases b with
 |true=>
  obtain⟨N,hN,q2⟩:=q2;rw[if_pos rfl];refine zC2 hp (thn (hb hV s2 Z1 H2 _ I2 q2) λ f s3 q3=>?_);cases f with
  |next=>
   obtain⟨Z3,H3,I3,n3⟩:=q3;obtain⟨m',hm,w3⟩:=hN Z3 H3 n3;exact⟨m',hm,Z3,H3,I3,w3⟩
  |cont=>
   obtain⟨Z3,H3,I3,n3⟩:=q3;obtain⟨m',hm,w3⟩:=hN Z3 H3 n3;exact⟨m',hm,Z3,H3,I3,w3⟩
  |brk=>exact q3
  |ret v=>exact q3
 |false=>
  rw[if_neg zA7];exact zD9 ⟨Z1,H2,I2,q2⟩
end
structure It where
 go:Nat->Hp->Prop
 yld:Nat->Hp->V->Hp->Prop
 stop:Nat->Hp->Prop
def lY(X:Cx)(hV:gV)(H:Hp)(b:Addr):Prop:=
 H b=none/\b≠X.env.locals/\b∉X.fs/\(b∈X.ex\/X.z5.heap.objs.size<=b)/\(∀x c,X.env.cells.lookup x=some c->c≠b)/\∀p∈X.ta++(X.pn++hV),p.1≠b
def Inv.fpOk(I:Inv X hV Z H s)(hb:s.heap.objs.size<=b)(hn:H' b=none):lY X hV H' b:=by
 refine⟨hn,zCT (zAR I.lt hb),I.nofs hb,.inr (zAh I.sz hb),λ x c e z=>?_,λ p hp z=>?_⟩
 .obtain⟨v,q⟩:=I.cell x c e
  exact absurd (zAR q.lt (by rw[z];exact hb)) (zAw _)
 .exact absurd (zAR (I.pinL hp) (by rw[z];exact hb)) (zAw _)
structure Turn(P:zAS)(w:World)(K:zAA)(tg:Expr)(J:It)(fp:List Addr)(it:Addr)(tn:Nat->Heap->Prop):Prop where
 mem:it∈fp
 obj:∀i h,tn i h->∀b∈fp,∃o,h.get? b=some o/\∀v,o.data≠.cell v
 keep:∀i h h',tn i h->(∀b∈fp,∀o,h.get? b=some o->h'.get? b=some o)->tn i h'
 item:∀(X:Cx),X.prog=P->X.w=w->X.K=K->X.calm=true->∀(i:Nat) (hV:gV) (s:zAB) (Z:St) (H:Hp) (E:Value->zAB->Prop),Inv X hV Z H s->(∀b∈fp,lY X hV H b)->tn i s.heap->J.go i H->
  wpAny (model P w) X.A (zIA (.ref it)) (λ r s1=>∃u,r=some u/\
   wpAny (model P w) X.A (zCu tg (.ref it) u) (λ _ s2=>∃x H',Inv X hV Z H' s2/\RelV x u/\J.yld i H x H'/\tn (i+1) s2.heap/\∀b∈fp,H' b=none) E s1) E s
 done:∀(X:Cx),X.prog=P->X.w=w->X.K=K->X.calm=true->∀(i:Nat) (hV:gV) (s:zAB) (Z:St) (H:Hp) (E:Value->zAB->Prop),Inv X hV Z H s->(∀b∈fp,lY X hV H b)->tn i s.heap->J.stop i H->
  wpAny (model P w) X.A (zIA (.ref it)) (λ r s1=>r=none/\Inv X hV Z H s1) E s
 self:∀(A:zA8) (i:Nat) (s:zAB) (Q:Value->zAB->Prop) (E:Value->zAB->Prop),tn i s.heap->Q (.ref it) s->wpAny (model P w) A (pyIter (.ref it)) Q E s
abbrev TI:=St->Hp->(It->Hp->Prop)->Prop
def PIE(X:Cx)(hV:gV)(Z:St)(tg:Expr)(R:It->Hp->Prop)(itv:Value)(s2:zAB):Prop:=
 ∃(it:Addr) (fp:List Addr) (tn:Nat->Heap->Prop) (J:It) (H':Hp),itv= .ref it/\Inv X hV Z H' s2/\Turn X.prog X.w X.K tg J fp it tn/\tn 0 s2.heap/\(∀b∈fp,lY X hV H' b)/\R J H'
def PI(X:Cx)(tg iter:Expr)(wi:TI):Prop:=
 ∀(hV:gV) (s:zAB) (Z:St) (H:Hp) (R:It->Hp->Prop),Inv X hV Z H s->wi Z H R->
  wpAny (model X.prog X.w) X.A (eval iter X.env) (λ v s1=>wpAny (model X.prog X.w) X.A (pyIter v) (PIE X hV Z tg R) X.xe s1) X.xe s
def aGc(ho:s.heap.get? it=some o)(hc:o.cls= .type n)(hd:o.data= .fields vs)
    (hn:["enumerate","zip","dict_itemiterator","dict_reverseitemiterator","odict_iterator","itertools.zip_longest","itertools.pairwise"].contains n=false)(hQ:Q () s):wpAny M A (zCu tg (.ref it) u) Q E s:=by
  unfold zCu;cases tg<;>first
    |exact zAi hQ
    | (cases u <;> first
        |exact zAi hQ
        | (refine zAQ (wpAny_load ho ?_)
           rw[hc,hd];show wpAny M A (if (["enumerate","zip","dict_itemiterator","dict_reverseitemiterator","odict_iterator","itertools.zip_longest","itertools.pairwise"].contains n&&vs[0]? ==some (rawInt _))=true then _ else _) Q E s;rw[if_neg (by intro h;rw[hn,Bool.false_and]at h;cases h)];exact zAi hQ))
def Itl(K:zAA)(a:Addr):It:=
 ⟨λ i H=>∃xs x,SqL K H a xs/\xs[i]? =some x,λ i H x H'=>H'=H/\∀xs,SqL K H a xs->xs[i]? =some x,λ i H=>∃xs,SqL K H a xs/\xs.length<=i⟩
def Itt(K:zAA)(a:Addr):It:=
 ⟨λ i H=>∃xs x,SqT K H a xs/\xs[i]? =some x,λ i H x H'=>H'=H/\∀xs,SqT K H a xs->xs[i]? =some x,λ i H=>∃xs,SqT K H a xs/\xs.length<=i⟩
def Itr(lo:Int)(n:Nat):It:=⟨λ i _=>i<n,λ i H x H'=>H'=H/\x= .int (lo+i),λ i _=>n<=i⟩
def aD1{P:zAS}{w:World}{K:zAA}{tg:Expr}(a it:Addr):Turn P w K tg (Itl K a) [it] it (λ i h=>h.IsListIter it a i) where
 mem:=by simp
 obj:=λ i h st b hb=>by
  have e:b=it:=by simpa using hb
  subst e;obtain⟨o,e,c,d⟩:=st;exact⟨o,e,λ v z=>by rw[d]at z;cases z⟩
 keep:=λ i h h' st k=>st.at λ o e=>k it (by simp) o e
 item:=by
  intro X hP hw hK hc i hV s Z H E I hf st hg;subst hP hw hK;obtain⟨xs,x,hq,hx⟩:=hg;obtain⟨its,rv,p,hz⟩:=I.list hq;obtain⟨u,hu,ru⟩:=rv.get hx;obtain⟨f0,f1,f2,f3,f4,f5⟩:=hf it (by simp);refine wpAny_pyNext_list_item st p.isList (x:=u) (by simpa using hu) λ h' st' sb=>?_
  have I1:Inv X hV Z H {s with heap:=h'}:=I.turned (t':=s.toks) (λ b o hb e=>(sb.2 b hb).trans e) f0 f1 f3 f4 f5;obtain⟨o,e,c,d⟩:=id st';exact⟨u,rfl,aGc (s:={s with heap:=h'}) e c d (by decide) ⟨x,H,I1,ru,⟨rfl,λ ys hy=>by rw[I.list_inj hy hq];exact hx⟩,st',λ b hb=>(hf b hb).1⟩⟩
 done:=by
  intro X hP hw hK hc i hV s Z H E I hf st hg;subst hP hw hK;obtain⟨xs,hq,hx⟩:=hg;obtain⟨its,rv,p,hz⟩:=I.list hq;obtain⟨f0,f1,f2,f3,f4,f5⟩:=hf it (by simp);have hl:=rv.length;exact wpAny_pyNext_list_end (I.ok.hd hc) st p.isList (by simp;lia) λ h' eb=>⟨rfl,I.turned (t':=s.toks) (λ b o hb e=>eb b o hb e) f0 f1 f3 f4 f5⟩
 self:=λ _ _ _ _ _ st h=>wpAny_pyIter_listiter st h
def aBT{P:zAS}{w:World}{K:zAA}{tg:Expr}(a it:Addr):Turn P w K tg (Itt K a) [it] it (λ i h=>h.IsTupleIter it a i) where
 mem:=by simp
 obj:=λ i h st b hb=>by
  have e:b=it:=by simpa using hb
  subst e;obtain⟨o,e,c,d⟩:=st;exact⟨o,e,λ v z=>by rw[d]at z;cases z⟩
 keep:=λ i h h' st k=>st.at λ o e=>k it (by simp) o e
 item:=by
  intro X hP hw hK hc i hV s Z H E I hf st hg;subst hP hw hK;obtain⟨xs,x,hq,hx⟩:=hg;obtain⟨its,rv,p,hz⟩:=I.tuple hq;obtain⟨u,hu,ru⟩:=rv.get hx;obtain⟨f0,f1,f2,f3,f4,f5⟩:=hf it (by simp);refine wpAny_pyNext_tuple_item st (show s.heap.IsTuple a its.toArray from p) (x:=u) (by simpa using hu) λ h' st' sb=>?_
  have I1:Inv X hV Z H {s with heap:=h'}:=I.turned (t':=s.toks) (λ b o hb e=>(sb.2 b hb).trans e) f0 f1 f3 f4 f5;obtain⟨o,e,c,d⟩:=id st';exact⟨u,rfl,aGc (s:={s with heap:=h'}) e c d (by decide) ⟨x,H,I1,ru,⟨rfl,λ ys hy=>by rw[I.tuple_inj hy hq];exact hx⟩,st',λ b hb=>(hf b hb).1⟩⟩
 done:=by
  intro X hP hw hK hc i hV s Z H E I hf st hg;subst hP hw hK;obtain⟨xs,hq,hx⟩:=hg;obtain⟨its,rv,p,hz⟩:=I.tuple hq;obtain⟨f0,f1,f2,f3,f4,f5⟩:=hf it (by simp);have hl:=rv.length;exact wpAny_pyNext_tuple_end (I.ok.hd hc) st (show s.heap.IsTuple a its.toArray from p) (by simp;lia) λ h' eb=>⟨rfl,I.turned (t':=s.toks) (λ b o hb e=>eb b o hb e) f0 f1 f3 f4 f5⟩
 self:=λ _ _ _ _ _ st h=>wpAny_pyIter_tupleiter st h
def aBU{P:zAS}{w:World}{K:zAA}{tg:Expr}(it:Addr)(lo:Int)(n:Nat):Turn P w K tg (Itr lo n) [it] it (λ i h=>IsRangeIter h it (lo+(i:Nat)*1) ((n:Int)-(i:Nat)) 1) where
 mem:=by simp
 obj:=λ i h st b hb=>by
  have e:b=it:=by simpa using hb
  subst e;exact⟨_,st,λ v z=>by
   have z':Data.fields _=Data.cell v:=z;cases z'⟩
 keep:=λ i h h' st k=>k it (by simp) _ st
 item:=by
  intro X hP hw hK hc i hV s Z H E I hf st hg;subst hP hw hK;obtain⟨f0,f1,f2,f3,f4,f5⟩:=hf it (by simp);have W:=Walks.range (prog:=X.prog) (w:=X.w) (I.ok.hd hc) it lo 1 n;refine W.item i s _ _ hg st λ v h' tk hv st' kk=>?_
  obtain⟨t,rfl⟩:=hv;have I1:Inv X hV Z H {s with heap:=h',toks:=tk}:=I.turned (λ b o hb e=>kk b o (by simpa using hb) e) f0 f1 f3 f4 f5;refine⟨_,rfl,aGc (s:={s with heap:=h',toks:=tk}) (n:="range_iterator") st' rfl rfl (by decide) ⟨.int (lo+i),H,I1,⟨t,?_⟩,⟨rfl,rfl⟩,st',λ b hb=>(hf b hb).1⟩⟩;rw[Int.mul_one]
 done:=by
  intro X hP hw hK hc i hV s Z H E I hf st hg;subst hP hw hK;obtain⟨f0,f1,f2,f3,f4,f5⟩:=hf it (by simp);exact wpAny_pyNext_range_end (I.ok.hd hc) st (by have:n<=i:=hg;lia) λ h' eb=>⟨rfl,I.turned (t':=s.toks) (λ b o hb e=>eb b o hb e) f0 f1 f3 f4 f5⟩
 self:=λ _ _ _ _ _ st h=>wpAny_pyIter_rangeiter st h
section
variable{X:Cx}{tg:Expr}
def aAO{hV:gV}{Z:St}{H:Hp}{s:zAB}{R:It->Hp->Prop}{E:Value->zAB->Prop}{lo hi:Int}{t u v:Tok}{tk:Nat}(I:Inv X hV Z H s)(h1: -(2^62)<=lo)(h2:lo<2^62)(h3: -(2^62)<=hi)(h4:hi<2^62)
  (q:R (Itr lo (hi-lo).toNat) H):wpAny (model X.prog X.w) X.A (pyIter (.ref s.heap.objs.size)) (PIE X hV Z tg R) E {s with heap:=s.heap.push {cls:=.type "range",data:=.fields #[.int lo t,.int hi u,.int 1 v]},toks:=tk}:=by
 refine wpAny_pyIter_range (IsRange.new ..) (small_one h1 h2 h3 h4) ?_;have I1:Inv X hV Z H {s with heap:=s.heap.push {cls:=.type "range",data:=.fields #[.int lo t,.int hi u,.int 1 v]},toks:=tk}:=I.kept λ b o e=>zAI _ e
 refine⟨(s.heap.push {cls:=.type "range",data:=.fields #[.int lo t,.int hi u,.int 1 v]}).objs.size,[(s.heap.push {cls:=.type "range",data:=.fields #[.int lo t,.int hi u,.int 1 v]}).objs.size],_,_,H,rfl,
  I1.kept (t':=tk) λ b o e=>zAI _ e,aBU _ lo (hi-lo).toNat,?_,λ b hb=>?_,q⟩
 .have e1:lo+((0:Nat):Int)*1=lo:=by simp
  have e2:(((hi-lo).toNat:Nat):Int)-((0:Nat):Int)=zB4 lo hi 1:=by rw[rangeSize_one];split<;>lia
  show IsRangeIter _ _ (lo+((0:Nat):Int)*1) ((((hi-lo).toNat:Nat):Int)-((0:Nat):Int)) 1;rw[e1,e2];exact zA0 _ rfl
 .have e:b=(s.heap.push {cls:=.type "range",data:=.fields #[.int lo t,.int hi u,.int 1 v]}).objs.size:=by simpa using hb
  subst e;exact I1.fpOk (zAP _) (I1.hok.fresh (zAP _))
def aNY(ta:TA):TI:=λ Z H R=>ta Z H λ vs H1=>∃j:Int,vs=[.int j]/\-(2^62)<=j/\j<2^62/\R (Itr 0 j.toNat) H1
def aNX(ta:TA):TI:=λ Z H R=>ta Z H λ vs H1=>∃i j:Int,vs=[.int i,.int j]/\(-(2^62)<=i/\i<2^62/\-(2^62)<=j/\j<2^62)/\R (Itr i (j-i).toNat) H1
def aDj{a:Expr}{ta:TA}{p pos:Pos}(hg:Gl X "range")(hm:X.mg "range"=none)(ha:PA X [a] ta)(hs:zAY [a] X.env=[(false,eval a X.env)]:=by rfl):PI X tg (.Call (.Name "range" p) [a] [] pos) (aNY ta):=by
 intro hV s Z H R I h;refine Call_ (pH I hg hm zIQ (zB8 (thn (ha pos hV s Z H _ I h) λ us s1 ⟨vs,H1,I1,r1,q1⟩=>?_) hs rfl));obtain⟨j,e,q1,q2,q⟩:=q1;subst e;cases r1 with
 |cons r rr=>
  cases rr;obtain⟨t,rfl⟩:=r;exact call_range_1 (aAO I1 (by lia) (by lia) q1 q2 (by simpa using q))
def aDi(hg:Gl X "range")(hm:X.mg "range"=none)(ha:PA X [a,b] ta)(hs:zAY [a,b] X.env=[(false,eval a X.env),(false,eval b X.env)]:=by rfl)(hs2:zAY [b] X.env=[(false,eval b X.env)]:=by rfl):
  PI X tg (.Call (.Name "range" p) [a,b] [] pos) (aNX ta):=by
 intro hV s Z H R I h;refine Call_ (pH I hg hm zIQ (zB8 (thn (ha pos hV s Z H _ I h) λ us s1 ⟨vs,H1,I1,r1,q1⟩=>?_) (by rw[hs,hs2]) (by rw[hs2];rfl)));obtain⟨i,j,e,⟨q1,q2,q3,q4⟩,q⟩:=q1;subst e;cases r1 with
 |cons r rr=>
  cases rr with
  |cons r' rr=>
   cases rr;obtain⟨t,rfl⟩:=r;obtain⟨t',rfl⟩:=r';exact call_range_2 (aAO I1 q1 q2 q3 q4 q)
def aMg(wi:TI)(g:TG)(tb:TS):TS:=λ D Z H=>wi Z H λ J H1=>∃W:Nat->Nat->St->Hp->Prop,(∃m,W 0 m Z H1)/\∀i m Z H,W i m Z H->
 (J.stop i H/\D.nx Z H)\/(J.go i H/\∃N:St->Hp->Prop,(∀Z' H',N Z' H'->∃m',m'<m/\W (i+1) m' Z' H')/\∀x H',J.yld i H x H'->g x Z H' λ Z2 H2=>tb {D with nx:=N,ct:=N,bk:=D.nx} Z2 H2)
def qx(fp:List Addr)(h:Heap):gV:=fp.filterMap λ b=>(h.get? b).map λ o=>(b,o)
def lG(hb:b∈fp)(e:h.get? b=some o):(b,o)∈qx fp h:=zBo.mpr ⟨b,hb,by rw[e];rfl⟩
def xH(hp:p∈qx fp h):p.1∈fp/\h.get? p.1=some p.2:=by
 obtain⟨b,hb,e⟩:=zBo.mp hp;cases q:h.get? b with
 |none=>rw[q]at e;cases e
 |some o=>
  rw[q]at e;have e':(b,o)=p:=zAe e;subst e';exact⟨hb,q⟩
def Inv.pinned(I:Inv X hV Z H s)(hf:∀b∈fp,lY X hV H b)(ho:∀b∈fp,∃o,s.heap.get? b=some o/\∀v,o.data≠.cell v):Inv X (hV++qx fp s.heap) Z H s:=
 I.pins_of (λ p hp=>(zAp.mp hp).elim (λ z=>I.pin p (zA9 _ z)) λ z=>by
  obtain⟨hb,e⟩:=xH z;obtain⟨f0,f1,f2,_⟩:=hf p.1 hb;obtain⟨o,e',d⟩:=ho p.1 hb;rw[e]at e';cases e';exact⟨e,f0,f1,f2,d⟩) λ q hq p hp=>(zAp.mp hq).elim (λ z=>(I.tab p hp).2.2.2.1 q (zA9 _ z)) λ z=>((hf q.1 (xH z).1).2.2.2.2.2 p (zA4 _ hp)).symm
def Inv.unpinned(I:Inv X (hV++pl) Z H s):Inv X hV Z H s:=I.pins_of (λ p hp=>I.pin p (zA9 _ (zA4 _ hp))) λ q hq p hp=>(I.tab p hp).2.2.2.1 q (zA9 _ (zA4 _ hq))
def aF3(hp:zH3 (model X.prog X.w) X.A X.env X.xe)(hc:X.calm=true)(hi:PI X tg iter wi)(hg:PG X tg g)(hb:PSs X body tb)
  (hs:∀x,zBO iter X.env x=pure x:=by intro _;rfl):PS X (.For tg iter body [] pos) (aMg wi g tb):=by
 intro hV s Z H D I h;refine wpAny_For (thn (hi hV s Z H _ I h) λ v s1 h1=>thn h1 λ itv s2 h2=>?_) hs;obtain⟨it,fp,tn,J,H2,e,I2,T,st2,f2,W,⟨m0,w0⟩,turn⟩:=h2;subst e;have kX:∀{H':Hp},(∀b∈fp,H' b=none)->∀b∈fp,lY X hV H' b:=λ hn b hb=>⟨hn b hb,(f2 b hb).2⟩
 refine codeAny_forLoop_any (λ n s'=>∃i Z' H',Inv X hV Z' H' s'/\tn i s'.heap/\(∀b∈fp,H' b=none)/\W i n Z' H') ?_ m0 ⟨0,Z,H2,I2,st2,λ b hb=>(f2 b hb).1,w0⟩;rintro n s3 ⟨i,Z3,H3,I3,st3,fr3,w3⟩;rcases turn i n Z3 H3 w3 with ⟨stop,qn⟩|⟨go,N,hN,step⟩
 .refine zC2 hp (thn (T.done X rfl rfl rfl hc i hV s3 Z3 H3 X.xe I3 (kX fr3) st3 stop) λ r s4 ⟨hr,I4⟩=>?_)
  subst hr;exact zD9 ⟨Z3,H3,I4,qn⟩
 .refine zC2 hp (thn (T.item X rfl rfl rfl hc i hV s3 Z3 H3 X.xe I3 (kX fr3) st3 go) λ r s4 ⟨u,hr,h4⟩=>?_)
  subst hr;refine zC2 hp (thn h4 λ _ s5 ⟨x,H5,I5,r5,y5,st5,fr5⟩=>?_);have I5':=I5.pinned (kX fr5) (T.obj _ _ st5);refine zC2 hp (thn (hg _ s5 Z3 H5 x u _ I5' r5 (step x H5 y5)) λ _ s6 ⟨Z6,H6,I6,q6⟩=>?_);refine zC2 hp (thn (hb _ s6 Z6 H6 _ I6 q6) λ f s7 q7=>?_);have again:∀{Z7:St} {H7:Hp},Inv X (hV++qx fp s5.heap) Z7 H7 s7->N Z7 H7->∃m,m<n/\∃i Z' H',Inv X hV Z' H' s7/\tn i s7.heap/\(∀b∈fp,H' b=none)/\W i m Z' H':=λ{Z7 H7} I7 n7=>by
   obtain⟨m',hm,w7⟩:=hN Z7 H7 n7;refine⟨m',hm,i+1,Z7,H7,I7.unpinned,T.keep _ _ _ st5 λ b hb o e=>(I7.pin (b,o) (zA9 _ (zA9 _ (lG hb e)))).1,λ b hb=>?_,w7⟩;obtain⟨o,e,d⟩:=T.obj _ _ st5 b hb;exact(I7.pin (b,o) (zA9 _ (zA9 _ (lG hb e)))).2.1
  cases f with
  |next=>obtain⟨Z7,H7,I7,n7⟩:=q7;exact again I7 n7
  |cont=>obtain⟨Z7,H7,I7,n7⟩:=q7;exact again I7 n7
  |brk=>obtain⟨Z7,H7,I7,q7⟩:=q7;exact⟨Z7,H7,I7.unpinned,q7⟩
  |ret v=>obtain⟨x7,Z7,H7,I7,r7,q7⟩:=q7;exact⟨x7,Z7,H7,I7.unpinned,r7,q7⟩
end
abbrev R2:=V->V->Hp->VK->Prop
def OpR(X:Cx)(f:Value->Value->Sem Value)(r:R2):Prop:=
 ∀(hV:gV) (s:zAB) (Z:St) (H:Hp) (x y:V) (v u:Value) (Q:VK),Inv X hV Z H s->RelV x v->RelV y u->r x y H Q->
  wpAny (model X.prog X.w) X.A (f v u) (EP X hV Z Q) X.xe s
def UnR(X:Cx)(f:Value->Sem Value)(r:V->Hp->VK->Prop):Prop:=
 ∀(hV:gV) (s:zAB) (Z:St) (H:Hp) (x:V) (v:Value) (Q:VK),Inv X hV Z H s->RelV x v->r x H Q->
  wpAny (model X.prog X.w) X.A (f v) (EP X hV Z Q) X.xe s
def cU(X:Cx)(f:Value)(r:List V->Hp->VK->Prop):Prop:=
 ∀(hV:gV) (s:zAB) (Z:St) (H:Hp) (xs:List V) (us:List Value) (Q:VK),Inv X hV Z H s->Vals xs us->r xs H Q->
  wpAny (model X.prog X.w) X.A (call f us) (EP X hV Z Q) X.xe s
def aOE(X:Cx)(r:V->Hp->(Bool->Hp->Prop)->Prop):Prop:=
 ∀(hV:gV) (s:zAB) (Z:St) (H:Hp) (x:V) (v:Value) (Q:Bool->Hp->Prop),Inv X hV Z H s->RelV x v->r x H Q->
  wpAny (model X.prog X.w) X.A (truthy v) (TP X hV Z Q) X.xe s
def tOp(r:R2)(ta tb:TE):TE:=λ Z H Q=>ta Z H λ x H1=>tb Z H1 λ y H2=>r x y H2 Q
def tUn(r:V->Hp->VK->Prop)(ta:TE):TE:=λ Z H Q=>ta Z H λ x H1=>r x H1 Q
def rI(C:Int->Int->Prop)(g:Int->Int->V):R2:=λ x y H Q=>∃i j,x= .int i/\y= .int j/\C i j/\Q (g i j) H
def rI0(g:Int->Int->V):R2:=λ x y H Q=>∃i j,x= .int i/\y= .int j/\Q (g i j) H
def rU(g:Int->V):V->Hp->VK->Prop:=λ x H Q=>∃i,x= .int i/\Q (g i) H
section
variable{X:Cx}{a b:Expr}{ta tb:TE}{pos:Pos}
def aMQ(ha:PE X a ta)(hb:PE X b tb){hV:gV}{s:zAB}{Z:St}{H:Hp}{R:V->V->Hp->Prop}(I:Inv X hV Z H s)
  (h:ta Z H λ x H1=>tb Z H1 λ y H2=>R x y H2){Q:Value->zAB->Prop}{f:Value->Value->Sem Value}
  (hf:∀v u s2 x y H2,Inv X hV Z H2 s2->RelV x v->RelV y u->R x y H2->wpAny (model X.prog X.w) X.A (f v u) Q X.xe s2):
  wpAny (model X.prog X.w) X.A (eval a X.env) (λ v zD=>wpAny (model X.prog X.w) X.A (eval b X.env) (λ u zS=>wpAny (model X.prog X.w) X.A (f v u) Q X.xe zS) X.xe zD) X.xe s:=by
 refine thn (ha hV s Z H _ I h) λ v s1 ⟨x,H1,I1,r1,q1⟩=>?_
 refine thn (hb hV s1 Z H1 _ I1 q1) λ u s2 ⟨y,H2,I2,r2,q2⟩=>?_
 exact hf v u s2 x y H2 I2 r1 r2 q2
def aFf{op:Operator}{r:R2}(ho:OpR X (zB7 op) r)(ha:PE X a ta)(hb:PE X b tb):PE X (.BinOp a op b pos) (tOp r ta tb):=by
 intro hV s Z H Q I h;exact wpAny_BinOp (aMQ ha hb I h λ v u s2 x y H2 I2 rx ry q=>ho hV s2 Z H2 x y v u Q I2 rx ry q)
def aNB(ho:UnR X (unaryOp op) r)(ha:PE X a ta):PE X (.UnaryOp op a pos) (tUn r ta):=by
 intro hV s Z H Q I h;exact UnaryOp_ (thn (ha hV s Z H _ I h) λ v s1 ⟨x,H1,I1,r1,q1⟩=>ho hV s1 Z H1 x v Q I1 r1 q1)
def opI{f:Value->Value->Sem Value}{C:Int->Int->Prop}{g:Int->Int->Int}
  (rule:∀(i j:Int) (t u:Tok) (s:zAB) (Q:Value->zAB->Prop) (E:Value->zAB->Prop),C i j->Q (.int (g i j) s.toks) {s with toks:=s.toks+1}->wpAny (model X.prog X.w) X.A (f (.int i t) (.int j u)) Q E s):
  OpR X f (rI C λ i j=>.int (g i j)):=by
 intro hV s Z H x y v u Q I rx ry h;obtain⟨i,j,rfl,rfl,hc,q⟩:=h;obtain⟨t,rfl⟩:=rx;obtain⟨t',rfl⟩:=ry;exact rule i j t t' s _ _ hc ⟨.int (g i j),H,I.tok _,⟨_,rfl⟩,q⟩
def aLZ{f:Value->Value->Sem Value}{g:Int->Int->Int}
  (rule:∀(i j:Int) (t u:Tok) (s:zAB) (Q:Value->zAB->Prop) (E:Value->zAB->Prop),Q (.int (g i j) s.toks) {s with toks:=s.toks+1}->wpAny (model X.prog X.w) X.A (f (.int i t) (.int j u)) Q E s):
  OpR X f (rI0 λ i j=>.int (g i j)):=by
 intro hV s Z H x y v u Q I rx ry h;obtain⟨i,j,rfl,rfl,q⟩:=h;obtain⟨t,rfl⟩:=rx;obtain⟨t',rfl⟩:=ry;exact rule i j t t' s _ _ ⟨.int (g i j),H,I.tok _,⟨_,rfl⟩,q⟩
def aI5{f:Value->Value->Sem Value}{g:Int->Int->Bool}
  (rule:∀(i j:Int) (t u:Tok) (s:zAB) (Q:Value->zAB->Prop) (E:Value->zAB->Prop),Q (.bool (g i j)) s->wpAny (model X.prog X.w) X.A (f (.int i t) (.int j u)) Q E s):
  OpR X f (rI0 λ i j=>.bl (g i j)):=by
 intro hV s Z H x y v u Q I rx ry h;obtain⟨i,j,rfl,rfl,q⟩:=h;obtain⟨t,rfl⟩:=rx;obtain⟨t',rfl⟩:=ry;exact rule i j t t' s _ _ ⟨.bl (g i j),H,I,rfl,q⟩
def aNi(i j:Int):Prop:=0<j/\j<1073741824
def aNh(i j:Int):Prop:=0<=j/\j<=1000000/\i.natAbs<2^64
def aJ7(i j:Int):Prop:=(-(2^64)<i/\i<2^64)\/(-(2^64)<j/\j<2^64)
def aJ7.ok(h:aJ7 i j):IntMulOk i j:=by
 rcases h with ⟨h1,h2⟩|⟨h1,h2⟩
 .exact .of_left (intBits_le_64 h1 h2)
 .exact .of_right (intBits_le_64 h1 h2)
def aBS(k:Nat):(0:Int)<=2^k:=by
 rw[two_pow_cast];exact zHL _
def aLY:OpR X (zB7 .Add) (rI0 λ i j=>.int (i+j)):=aLZ λ _ _ _ _ _ _ _ q=>add_int q
def aLI:OpR X (zB7 .Sub) (rI0 λ i j=>.int (i-j)):=aLZ λ _ _ _ _ _ _ _ q=>sub_int q
def aLO:OpR X (zB7 .Mult) (rI aJ7 λ i j=>.int (i*j)):=opI λ _ _ _ _ _ _ _ hc q=>mul_int q hc.ok
def aI1:OpR X (zB7 .FloorDiv) (rI aNi λ i j=>.int (i / j)):=opI λ i j _ _ _ _ _ hc q=>by
 have h1:(0:Int)<j:=hc.1;have h2:j<1073741824:=hc.2;exact floordiv_int (by lia) (by rw[zFi i (by lia)];exact q) (.inl (PyProof.noPylong_small (by lia)))
def aLP:OpR X (zB7 .Mod) (rI (λ _ j=>0<j) λ i j=>.int (i%j)):=opI λ i j _ _ _ _ _ hc q=>by
 have h1:(0:Int)<j:=hc;exact mod_int' (by lia) (by rw[Int.fmod_eq_emod_of_nonneg i (by lia)];exact q)
def aLM:OpR X (zB7 .Pow) (rI aNh λ i j=>.int (i^j.toNat)):=opI λ _ _ _ _ _ _ _ hc q=>pow_int_small hc.1 hc.2.1 hc.2.2 q
def aLK:OpR X (zB7 .LShift) (rI aNh λ i j=>.int (i*2^j.toNat)):=opI λ _ _ _ _ _ _ _ hc q=>lshift_int_small hc.1 hc.2.1 hc.2.2 q
def aLJ:OpR X (zB7 .RShift) (rI (λ _ j=>0<=j) λ i j=>.int (i / 2^j.toNat)):=opI λ i j _ _ _ _ _ hc q=>
 rshift_int hc (by rw[zFi i (aBS _)];exact q)
def aLX:OpR X (zB7 .BitAnd) (rI0 λ i j=>.int (zC1 i j)):=aLZ λ _ _ _ _ _ _ _ q=>and_int q
def unI{f:Value->Sem Value}{g:Int->Int}
  (rule:∀(i:Int) (t:Tok) (s:zAB) (Q:Value->zAB->Prop) (E:Value->zAB->Prop),Q (.int (g i) s.toks) {s with toks:=s.toks+1}->wpAny (model X.prog X.w) X.A (f (.int i t)) Q E s):
  UnR X f (rU λ i=>.int (g i)):=by
 intro hV s Z H x v Q I rx h;obtain⟨i,rfl,q⟩:=h;obtain⟨t,rfl⟩:=rx;exact rule i t s _ _ ⟨.int (g i),H,I.tok _,⟨_,rfl⟩,q⟩
def aKQ:UnR X (unaryOp .USub) (rU λ i=>.int (-i)):=unI λ _ _ _ _ _ q=>neg_int q
end
section
variable{X:Cx}{a b c:Expr}{ta tb tc:TE}{pos:Pos}
def aNH:OpR X (zAy .Lt) (rI0 λ i j=>.bl (decide (i<j))):=aI5 λ _ _ _ _ _ _ _ q=>lt_int q
def aNI:OpR X (zAy .LtE) (rI0 λ i j=>.bl (decide (i<=j))):=aI5 λ _ _ _ _ _ _ _ q=>le_int q
def aNJ:OpR X (zAy .Gt) (rI0 λ i j=>.bl (decide (j<i))):=aI5 λ _ _ _ _ _ _ _ q=>gt_int q
def aNK:OpR X (zAy .GtE) (rI0 λ i j=>.bl (decide (j<=i))):=aI5 λ _ _ _ _ _ _ _ q=>ge_int q
def isObj:HO->Bool
 | .lst _=>true
 | .ins _ _ _=>true
 |_=>false
def aFw(b:Expr)(h:op≠.In:=by decide)(h2:op≠.NotIn:=by decide):zCM op b=false:=by
 have e1:(op==CmpOp.In)=false:=by cases op<;>first|rfl|exact absurd rfl h
 have e2:(op==zIJ)=false:=by cases op<;>first|rfl|exact absurd rfl h2
 cases b<;>simp[zCM,e1,e2]
def aIR{op:CmpOp}{r:R2}(ho:OpR X (zAy op) r)(ha:PE X a ta)(hb:PE X b tb)(hm:zCM op b=false):PE X (.Compare a [op] [b] pos) (tOp r ta tb):=by
 intro hV s Z H Q I h;exact wpAny_Compare1 (aMQ ha hb I h λ v u s2 x y H2 I2 rx ry q=>ho hV s2 Z H2 x y v u Q I2 rx ry q) hm
def aJa(t:TE):TT:=λ Z H Q=>t Z H λ x H'=>∃k,x= .bl k/\Q k H'
def aIE(ho:OpR X (zAy op) r)(ha:PE X a ta)(hb:PE X b tb)(hm:zCM op b=false):PT X (.Compare a [op] [b] pos) (aJa (tOp r ta tb)):=by
 intro hV s Z H Q I h;refine zH8 (thn (ha hV s Z H _ I h) λ v s1 ⟨x,H1,I1,r1,q1⟩=>thn (hb hV s1 Z H1 _ I1 q1) λ u s2 ⟨y,H2,I2,r2,q2⟩=>
  thn (ho hV s2 Z H2 x y v u _ I2 r1 r2 q2) λ c s3 ⟨z,H3,I3,r3,k,e,q3⟩=>?_) hm
 subst e;cases r3;exact zB6 ⟨H3,I3,q3⟩
def aEi(r r':R2)(ta tb tc:TE):TE:=λ Z H Q=>ta Z H λ x H1=>tb Z H1 λ y H2=>r x y H2 λ z H3=>∃k,z= .bl k/\
 (if k=true then tc Z H3 λ w' H4=>r' y w' H4 Q else Q (.bl false) H3)
def aFl(ho:OpR X (zAy op) r)(ho':OpR X (zAy op') r')(ha:PE X a ta)(hb:PE X b tb)(hc:PE X c tc)
  (hm:zH7 [op,op'] [b,c]=false:=by with_unfolding_all rfl):PE X (.Compare a [op,op'] [b,c] pos) (aEi r r' ta tb tc):=by
 intro hV s Z H Q I h;refine Compare_chain (thn (ha hV s Z H _ I h) λ v s1 ⟨x,H1,I1,r1,q1⟩=>chain_link (thn (hb hV s1 Z H1 _ I1 q1) λ u s2 ⟨y,H2,I2,r2,q2⟩=>
  thn (ho hV s2 Z H2 x y v u _ I2 r1 r2 q2) λ d s3 ⟨z,H3,I3,r3,k,e,q3⟩=>?_)) hm
 subst e;cases r3;refine zB6 ?_;cases k with
 |false=>exact ite_ff ⟨.bl false,H3,I3,rfl,q3⟩
 |true=>exact ite_tt (chain_last (thn (hc hV s3 Z H3 _ I3 q3) λ w' s4 ⟨z',H4,I4,r4,q4⟩=>ho' hV s4 Z H4 y z' u w' Q I4 r2 r4 q4))
def aM0(K:zAA)(x:V)(H:Hp)(k:Bool):Prop:=
 match x with
 | .non=>k=false
 | .bl b=>k=b
 | .int i=>k=(i !=0)
 | .str y=>y.length<=zAK/\k=((y.length:Int)!=0)
 | .byt y=>y.size<=zAK/\k=((y.size:Int)!=0)
 | .ref p=>(∃xs,SqL K H p xs/\k= !xs.isEmpty)\/(∃xs,SqT K H p xs/\k= !xs.isEmpty)\/∃kvs,H p=some (.dK kvs)/\k= !kvs.isEmpty
 |_=>False
def aCI(r:KV kvs vs):(!vs.isEmpty)= !kvs.isEmpty:=by
 cases r<;>rfl
def vL(r:Vals xs its):(!its.toArray.isEmpty)= !xs.isEmpty:=by
 cases r<;>simp
def vD:(zAK:Nat)<2^63:=by rw[zCN];decide
def aKU:aOE X (λ x H Q=>∃k,aM0 X.K x H k/\Q k H):=by
 intro hV s Z H x v Q I rx h;obtain⟨k,e,q⟩:=h;have hl:=vD;have hs:zAK=16777216:=zCN;cases x with
 |non=>
  cases rx;have e':k=false:=e;subst e';exact truthy_none ⟨H,I,q⟩
 |bl b=>
  cases rx;have e':k=b:=e;subst e';exact zB6 ⟨H,I,q⟩
 |int i=>
  obtain⟨t,rfl⟩:=rx;have e':k=(i !=0):=e;subst e';exact PySem.P.truthy_int ⟨H,I,q⟩
 |str y=>
  obtain⟨t,rfl⟩:=rx;obtain⟨hy,e'⟩:y.length<=zAK/\k=((y.length:Int)!=0):=e;subst e';exact PySem.P.truthy_str (by lia) ⟨H,I.tok _,q⟩
 |byt y=>
  obtain⟨t,rfl⟩:=rx;obtain⟨hy,e'⟩:y.size<=zAK/\k=((y.size:Int)!=0):=e;subst e';exact PySem.W.truthy_bytes (by lia) ⟨H,I.tok _,q⟩
 |ref p=>
  cases rx;have e':(∃xs,SqL X.K H p xs/\k= !xs.isEmpty)\/(∃xs,SqT X.K H p xs/\k= !xs.isEmpty)\/∃kvs,H p=some (.dK kvs)/\k= !kvs.isEmpty:=e
  rcases e' with ⟨xs,hx,e'⟩|⟨xs,hx,e'⟩|⟨kvs,hx,e'⟩
  .subst e'
   obtain⟨its,r,pl,hz⟩:=I.list hx;have hW:=r.length;exact wpAny_truthy_list pl.isList (by simp only[zAM];lia) ⟨H,I.tok _,by rw[vL r];exact q⟩
  .subst e'
   obtain⟨its,r,pl,hz⟩:=I.tuple hx;have hW:=r.length;exact truthy_tuple pl (by simp only[zAM];lia) ⟨H,I.tok _,by rw[vL r];exact q⟩
  .subst e'
   obtain⟨hz,hS,vs,r,m⟩:kvs.length<=zAK/\(p==zBX)=false/\∃vs,KV kvs vs/\s.heap.DictOf (bR X.prog X.w) p vs:=I.hok p _ hx
   have hW:kvs.length=vs.length:=zDd r;exact wpAny_truthy_dict hS m (by lia) ⟨H,I.tok _,by rw[aCI r];exact q⟩
 |_=>exact(show False from e).elim
def aFZ(ha:PE X a ta)(he:∀whole,isTrue a X.env whole=(do let v <-whole;zFh a.pos;zDo [v] (truthy v))):
  PT X a (λ Z H Q=>ta Z H λ x H'=>∃k,aM0 X.K x H' k/\Q k H'):=by
 intro hV s Z H Q I h;exact isTrue_plain (thn (ha hV s Z H _ I h) λ v s1 ⟨x,H1,I1,r1,q1⟩=>aKU hV s1 Z H1 x v Q I1 r1 q1) (he _)
def vals1(r:Vals [x] us):∃u,us=[u]/\RelV x u:=by
 cases r with
 |cons r1 r2=>cases r2;exact⟨_,rfl,r1⟩
def vals2(r:Vals [x,y] us):∃u w',us=[u,w']/\RelV x u/\RelV y w':=by
 cases r with
 |cons r1 r2=>
  cases r2 with
  |cons r3 r4=>cases r4;exact⟨_,_,rfl,r1,r3⟩
def aET(hc:X.calm=true):cU X (.builtin "max") (λ xs H Q=>∃i j,xs=[.int i,.int j]/\Q (.int (if j>i then j else i)) H):=by
 intro hV s Z H xs us Q I r h;obtain⟨i,j,rfl,q⟩:=h;obtain⟨u,w',rfl,⟨t,rfl⟩,⟨t',rfl⟩⟩:=vals2 r;refine max_two_ints (I.ok.hd hc) λ h' tk k=>⟨_,H,I.kept k,?_,q⟩
 by_cases hj:j>i
 .rw[if_pos hj,if_pos hj];exact⟨_,rfl⟩
 .rw[if_neg hj,if_neg hj];exact⟨_,rfl⟩
def aES(hc:X.calm=true):cU X (.builtin "min") (λ xs H Q=>∃i j,xs=[.int i,.int j]/\Q (.int (if j<i then j else i)) H):=by
 intro hV s Z H xs us Q I r h;obtain⟨i,j,rfl,q⟩:=h;obtain⟨u,w',rfl,⟨t,rfl⟩,⟨t',rfl⟩⟩:=vals2 r;refine min_two_ints (I.ok.hd hc) λ h' tk k=>⟨_,H,I.kept k,?_,q⟩
 by_cases hj:j<i
 .rw[if_pos hj,if_pos hj];exact⟨_,rfl⟩
 .rw[if_neg hj,if_neg hj];exact⟨_,rfl⟩
end
structure aJ4(h:Heap)(x dx C:Addr)(mA:Str->Option Value):Prop where
 obj:h.get? x=some (zBr C dx)
 ns:h.Ns1 dx mA
 ne:dx≠x
def aDv{h:Heap}{dx:Addr}{mA:Str->Option Value}(n:h.Ns1 dx mA):∃od,h.get? dx=some od/\∀name,zEC name od=some (mA name):=by
 obtain⟨o,es,ep,ho,hd,hk,_,hm⟩:=n;refine⟨o,ho,λ name=>?_⟩;have e:=hm name;unfold nsFind findBy at e;rw[<-Array.find?_toList]at e;unfold zEC;rw[hd];dsimp only;split
 .rename_i y q
  rw[q]at e;exact congrArg some e
 .rename_i q
  rw[q]at e;have a:es.toList.any (·.refKey)=false:=by
   rw[zHM];intro y hy;obtain⟨z,t,hkey⟩:=hk y (Array.mem_toList_iff.mp hy);simp[DictEntry.refKey,hkey]
  have a':¬es.toList.any (·.refKey)=true:=by rw[a];exact zA7
  rw[if_neg a'];exact congrArg some e
def aJ4.look(I:aJ4 h x dx C mA):∃od,zHS h x (zBr C dx) C (some od)/\∀name,zEC name od=some (mA name):=
 let⟨od,ho,hl⟩:=aDv I.ns
 ⟨od,⟨I.obj,rfl,rfl,ho⟩,hl⟩
section
variable{prog:zAS}{w:World}{A:zA8}{E:Value->zAB->Prop}{s:zAB}{K:zAA}{x dx C f:Addr}{mA:Str->Option Value}{name:Str}
def aGf(X:K.In s.heap)(I:aJ4 s.heap x dx C mA)(hg:zEi K C name=true)
  (hf:zBA K (.ref C) name=some (some (.ref f)))(ht:zHa K (.ref f)=true)(hv:mA name=none)(h:Q (.ref f,[.ref x]) s):
  wpAny (model prog w) A (getMethod (.ref x) name pl) Q E s:=by
 obtain⟨od,J,hl⟩:=I.look;exact PySem.W.method_fn X J (zGP hg).1 (zGP hg).2 hf (beq_iff_eq.mp ht) (by show(zEC name od).map (·.isSome)=some false;rw[hl,hv];rfl) h
def make_map(X:K.In s.heap)(hm:PySem.W.makesIn K C=true)
  (hi:zBA K (.ref C) "__init__"=some (some (.ref f)))(hf:PySem.W.typeIn K (.ref f)=some (.type "function"))
  (h:zCW (model prog w) (A.under (.builtin "type.__call__" ⟨.ref C::vs,kw⟩)) (.call (.ref f) ⟨.ref (s.heap.objs.size+1)::vs,kw⟩) (PySem.W.InitBack (s.heap.objs.size+1) R)
   {s with heap:=(s.heap.push zBU).push (zBr C s.heap.objs.size)}):
  zCW (model prog w) A (.call (.ref C) ⟨vs,kw⟩) R s:=by
 obtain⟨hh,g,d,t,os⟩:=s;exact PySem.W.make_core (PySem.W.makes_of X hm) (zDA X hi) (λ self=>PySem.W.bind_fn X self hf) (.inl rfl) h
end
def n6.some_of(r:n6 (some v) o):∃u,o=some u/\RelV v u:=by
 cases o with
 |none=>exact(show False from r).elim
 |some u=>exact⟨u,rfl,r⟩
def n6.none_of(r:n6 none o):o=none:=by
 cases o with
 |none=>rfl
 |some u=>exact(show False from r).elim
section
variable{P:zAS}{w:World}{H:Hp}{h:Heap}{a C dx:Addr}{fs:List (Str×V)}
def aCz(hok:HOk P w H h)(e:H a=some (.ins C dx fs)):∃mA,aJ4 h a dx C mA/\(∀f,n6 (fs.lookup f) (mA f))/\zHw mA (fs.map (·.1))/\fs.length<=1000/\H dx=some (.own a):=by
 obtain⟨d,z,ne,ob,mA,n,r,q⟩:=(show bW P w H h a (.ins C dx fs)from hok a _ e);exact⟨mA,⟨ob,n,ne⟩,r,q,z,d⟩
end
structure Cls(K:zAA)(C:Addr):Prop where
 pg:zEi K C Str.empty=true
 hd:PySem.W.hasDictIn K C=true
 po:PySem.W.plainOver K C=true
 sa:zBA K (.ref C) "__setattr__"=some (some (.builtin "object.__setattr__"))
def Cls.get{K:zAA}{C:Addr}(c:Cls K C)(f:Str):zEi K C f=true:=c.pg
def aM4(K:zAA)(C:Addr)(f:Str):Prop:=zBA K (.ref C) f=some none
structure Meth(K:zAA)(C:Addr)(m:Str)(f:Addr):Prop where
 at_:zBA K (.ref C) m=some (some (.ref f))
 fn:zHa K (.ref f)=true
 kp:zBZ K (.ref f)=true
section
variable{X:Cx}{hV:gV}{Z:St}{H:Hp}{s:zAB}{a C dx:Addr}{fs:List (Str×V)}{A:zA8}{E:Value->zAB->Prop}
def aCL(I:Inv X hV Z H s)(e:H a=some (.ins C dx fs))(c:Cls X.K C)(k:Meth X.K C m g)(l:fs.lookup m=none)
  (h:Q (.ref g,[.ref a]) s):wpAny (model X.prog X.w) A (getMethod (.ref a) m pl) Q E s:=by
 obtain⟨mA,O,r,_,_,_⟩:=aCz I.hok e;have hn:mA m=none:=n6.none_of (by rw[<-l];exact r m);exact aGf I.kIn O (c.get m) k.at_ k.fn hn h
def Inv.made(I:Inv X hV Z H s):Inv X hV Z (upd (upd H s.heap.objs.size (.own (s.heap.objs.size+1))) (s.heap.objs.size+1) (.ins C s.heap.objs.size []))
  {s with heap:=(s.heap.push zBU).push (zBr C s.heap.objs.size)}:=by
 have e1:(s.heap.push zBU).get? s.heap.objs.size=some zBU:=zA0 s.heap rfl;have e2:((s.heap.push zBU).push (zBr C s.heap.objs.size)).get? (s.heap.objs.size+1)=some (zBr C s.heap.objs.size):=by
  have:=zA0 (s.heap.push zBU) (o:=zBr C s.heap.objs.size) rfl
  rwa [zBp]at this
 have e3:(s.heap.push zBU).Ns s.heap.objs.size (λ _=>none):=⟨zBU,#[],_,e1,rfl,(λ e he=>absurd he (by simp)),λ _=>rfl⟩;have I1:=I.laid (a:=s.heap.objs.size) (o:=.own (s.heap.objs.size+1)) (h':=s.heap.push zBU) (t':=s.toks) (λ b u q=>zAI _ q) (zAP _) ⟨_,e1⟩;refine I1.laid (a:=s.heap.objs.size+1) (o:=.ins C s.heap.objs.size []) (t':=s.toks) (λ b u q=>zAI _ q) (zEx (zBp _ _)) ?_;have ne:s.heap.objs.size≠s.heap.objs.size+1:=zAa (zC7 _);refine⟨by rw[aL ne,aR],zAj _,ne,e2,λ _=>none,(Heap.Ns1.of_empty e3).at λ o q=>zAI _ q,λ _=>zBv,λ y hy=>absurd rfl hy⟩
end
def tFld(K:zAA)(ta:TE)(f:Str):TE:=λ Z H Q=>ta Z H λ x H1=>∃a C dx fs v,x= .ref a/\H1 a=some (.ins C dx fs)/\Cls K C/\aM4 K C f/\fs.lookup f=some v/\Q v H1
section
variable{X:Cx}{e:Expr}{f:Str}{pos:Pos}
def methcall_of(he:PE X e te)(I:Inv X hV Z H s)
  (h:te Z H λ x H1=>∃a C dx fs g,x= .ref a/\H1 a=some (.ins C dx fs)/\Cls X.K C/\Meth X.K C m g/\fs.lookup m=none/\
   ∀s1,Inv X hV Z H1 s1->wpAny (model X.prog X.w) X.A (callWith pos (.ref g) [.ref a] (zCE pos (zAY args X.env)) (zEL pos (zCl [] X.env))) Q X.xe s1)
  (ht:eval (.Call (.Attribute e m apos) args [] pos) X.env=(do
   let ov <-eval e X.env
   zFh apos.atName
   let(f,first) <-zDo [ov] (getMethod ov m pl)
   callWith pos f first (zCE pos (zAY args X.env)) (zEL pos (zCl [] X.env)))):
  wpAny (model X.prog X.w) X.A (eval (.Call (.Attribute e m apos) args [] pos) X.env) Q X.xe s:=by
 refine PySem.W.methodCall_KW (pl:=pl) (thn (he hV s Z H _ I h) λ u s1 ⟨x,H1,I1,rx,a,C,dx,fs,g,ex,ea,c,k,l,q⟩=>?_) ht;subst ex;obtain rfl:u=zAu a:=rx;exact aCL I1 ea c k l (q s1 I1)
end
section
variable{X:Cx}{hV:gV}{Z:St}{H:Hp}{s:zAB}{A:zA8}{E:Value->zAB->Prop}{Q:Value->zAB->Prop}{c:Value}{b:Bool}
inductive rR(K:zAA)(H:Hp):V->Value->Prop where
 |non:rR K H .non (.type "NoneType")
 |bl (x:Bool):rR K H (.bl x) (.type "bool")
 |int (i:Int):rR K H (.int i) (.type "int")
 |str (x:Str):rR K H (.str x) (.type "str")
 |flt (x:UInt64):rR K H (.flt x) (.type "float")
 |lst {a:Addr} {xs:List V} (e:H a=some (.lst xs)):rR K H (.ref a) (.type "list")
 |frz {a:Addr} {o:Obj} {xs:List V} (e:H a=some (.frz o (.lst xs))):rR K H (.ref a) (.type "list")
 |tup {a:Addr} {xs:List V} (e:H a=some (.tup xs)):rR K H (.ref a) (.type "tuple")
 |dK {a:Addr} {kvs:List (Key×V)} (e:H a=some (.dK kvs)):rR K H (.ref a) (.type "dict")
 |dT {a:Addr} {kvs:List (List Key×V)} (e:H a=some (.dT kvs)):rR K H (.ref a) (.type "dict")
 |ins {a C dx:Addr} {fs:List (Str×V)} (e:H a=some (.ins C dx fs)) (cl:Cls K C) (ha:zBA K (.ref C) "__class__"=some (some (.builtin "object.__class__")))
   (hn:PySem.W.specialIn K (.builtin "object.__class__") "__get__"=some (some (.builtin "getset_descriptor.__get__"))) (htk:PySem.W.takesIn K (.builtin "object.__class__")=some true)
   (hm:PySem.W.mroIn K C (.type "object")=some true):rR K H (.ref a) (.ref C)
def aED(I:Inv X hV Z H s)(rx:RelV x u)(ty:rR X.K H x t)(e:zB9 X.K t c=some b)(h:∀tk,Q (.bool b) {s with toks:=tk}):
  wpAny (model X.prog X.w) A (call (.builtin "isinstance") [u,c]) Q E s:=by
 cases ty with
 |non=>cases (show u=zHD from rx);exact zAz PySem.W.kitx_none I.kIn zBv e (λ z=>nomatch z) h
 |bl y=>cases (show u=zCU y from rx);exact zAz PySem.W.kitx_bool I.kIn zBv e (λ z=>nomatch z) h
 |int i=>obtain⟨t,q⟩:=(show∃t,u=zCt i t from rx);cases q;exact zAz PySem.W.kitx_int I.kIn zBv e (λ z=>nomatch z) h
 |str y=>obtain⟨t,q⟩:=(show∃t,u=zGQ y t from rx);cases q;exact zAz PySem.W.kitx_str I.kIn zBv e (λ z=>nomatch z) h
 |flt y=>obtain⟨t,q⟩:=(show∃t,u=zIP y t from rx);cases q;exact zAz PySem.W.kitx_float I.kIn zBv e (λ z=>nomatch z) h
 |@lst a xs ea=>
  cases (show u=zAu a from rx);obtain⟨_,_,n,_,h1⟩:=(show bW X.prog X.w H s.heap a (.lst xs)from I.hok a _ ea);exact zAz zGe I.kIn ⟨_,h1,rfl⟩ e (λ z=>nomatch z) h
 |@frz a ob xs ea=>
  cases (show u=zAu a from rx);obtain⟨_,_,_,n,_,h1⟩:=(show bW X.prog X.w H s.heap a (.frz ob (.lst xs))from I.hok a _ ea);exact zAz zGe I.kIn ⟨_,h1,rfl⟩ e (λ z=>nomatch z) h
 |@tup a xs ea=>
  cases (show u=zAu a from rx);obtain⟨_,_,_,p⟩:=(show bW X.prog X.w H s.heap a (.tup xs)from I.hok a _ ea);obtain⟨o,h1,h2,_⟩:=p;exact zAz zG4 I.kIn ⟨o,h1,h2⟩ e (λ z=>nomatch z) h
 |@dK a kvs ea=>
  cases (show u=zAu a from rx);obtain⟨_,_,vs,_,p⟩:=(show bW X.prog X.w H s.heap a (.dK kvs)from I.hok a _ ea);obtain⟨o,es,ep,h1,h2,_⟩:=p;exact zAz zE6 I.kIn ⟨o,h1,h2.1⟩ e (λ z=>nomatch z) h
 |@dT a kvs ea=>
  cases (show u=zAu a from rx);obtain⟨_,_,xs,_,o,es,ep,h1,h2,_⟩:=(show bW X.prog X.w H s.heap a (.dT kvs)from I.hok a _ ea);exact zAz zE6 I.kIn ⟨o,h1,h2.1⟩ e (λ z=>nomatch z) h
 |@ins a C dx fs ea cl ha hn htk hm=>
  cases (show u=zAu a from rx);obtain⟨mA,O,_⟩:=aCz I.hok ea;obtain⟨od,J,_⟩:=O.look;exact zAz (PySem.W.kitx_own (cl.get _) cl.hd ha hn htk hm) I.kIn J e (λ z=>nomatch z) h
end
structure dj(k:Nat)(A:zA8):Prop where
 hd:A.handled=none
 dp:A.depth+3*k+5<zEm
 un:A.units+16*k+200<cLine
def dj.mono(r:dj k A)(h:j<=k):dj j A:=⟨r.hd,by have:=r.dp;lia,by have:=r.un;lia⟩
theorem dj.deeper(r:dj (k+1) A)(env:Env):dj k (A.deeper env):=
 ⟨r.hd,by have:=r.dp;show A.depth+1+3*k+5<_;lia,by have:=r.un;show A.units+3+16*k+200<_;lia⟩
theorem dj.depth(r:dj k A):A.depth<zEm:=by have:=r.dp;lia
theorem dj.units(r:dj k A):A.units+64<cLine:=by have:=r.un;lia
def dj.units0(r:dj k A):A.units<cLine:=by have:=r.un;lia
def nU:TA:=λ _ H Q=>Q [] H
def gO(ta:TE)(tr:TA):TA:=λ Z H Q=>ta Z H λ x H1=>tr Z H1 λ xs H2=>Q (x::xs) H2
section
variable{X:Cx}{e:Expr}{es:List Expr}{te:TE}{t:TA}{pos:Pos}
def cI:PA X [] nU:=λ _ _ _ _ H Q I h=>zGr ⟨[],H,I,.nil,h⟩
def aW(ha:PE X e te)(hr:PA X es t)(hs:zAY (e::es) X.env=(false,eval e X.env)::zAY es X.env:=by rfl):PA X (e::es) (gO te t):=by
 intro pos hV s Z H Q I h;rw[hs];show wpAny _ _ (spliced ((false,eval e X.env)::zCE pos (zAY es X.env))) _ _ s;refine zE4 (thn (ha hV s Z H _ I h) λ u s1 ⟨x,H1,I1,r1,q1⟩=>?_);exact thn (hr pos hV s1 Z H1 _ I1 q1) λ us s2 ⟨xs,H2,I2,r2,q2⟩=>⟨x::xs,H2,I2,.cons r1 r2,q2⟩
def aNl(t:TA):TE:=λ Z H Q=>t Z H λ xs H1=>xs.length<=zAK/\∀p,H1 p=none->Q (.ref p) (upd H1 p (.tup xs))
def aNq(t:TA):TE:=λ Z H Q=>t Z H λ xs H1=>xs.length<=zAK/\∀p,H1 p=none->Q (.ref p) (upd H1 p (.lst xs))
def aKw{x1}(h:PA X es t):PE X (.Tuple es x1 pos) (aNl t):=by
 intro hV s Z H Q I hq;refine wpAny_Tuple_spliced (thn (h pos hV s Z H _ I hq) λ us s1 ⟨xs,H1,I1,r,z,q⟩=>⟨by rw[<-r.length];exact z,?_⟩);have hf:H1 s1.heap.objs.size=none:=I1.hok.fresh (zAP _);refine⟨.ref s1.heap.objs.size,upd H1 s1.heap.objs.size (.tup xs),I1.laid (t':=s1.toks) (λ b u e=>zAI _ e) (zAP _) ?_,rfl,q _ hf⟩;exact⟨⟨z,NoD.push _⟩,us,r,⟨_,zA0 _ rfl,rfl,_,rfl⟩⟩
def aLA(h:PA X es t):PE X (.List es pos) (aNq t):=by
 intro hV s Z H Q I hq;refine wpAny_List_spliced (thn (h pos hV s Z H _ I hq) λ us s1 ⟨xs,H1,I1,r,z,q⟩=>⟨by rw[<-r.length];exact z,?_⟩);have hf:H1 s1.heap.objs.size=none:=I1.hok.fresh (zAP _);refine⟨.ref s1.heap.objs.size,upd H1 s1.heap.objs.size (.lst xs),I1.laid (t':=s1.toks) (λ b u e=>zAI _ e) (zAP _) ?_,rfl,q _ hf⟩;exact⟨z,us,0,r,zA0 _ rfl⟩
end
abbrev Sp:=List V->Hp->VK->XK->Prop
abbrev CXT:=List Env->Hp->zAB->XK->Value->zAB->Prop
structure aBN(P:zAS)(w:World)(K:zAA)(mg:Str->Option Value)(base:Heap)(A:zA8)(outer:List Env)(s:zAB)(H:Hp):Prop where
 frames:A.frames=some outer
 mod:Mod K mg base
 bs:∀b o,base.get? b=some o->s.heap.get? b=some o/\H b=none
 bsz:base.objs.size<=s.heap.objs.size
 funs:s.heap.FunFrames base outer
 frf:∀b∈frs outer,H b=none
 hok:HOk P w H s.heap
 bare:zE3 s.gens
def CE(outer:List Env)(P:zAS)(w:World)(H:Hp)(s:zAB)(Q:VK)(u:Value)(s':zAB):Prop:=
 ∃v H',s'.os=s.os/\zE3 s'.gens/\Un (frs outer) [] H H' s.heap s'.heap/\HOk P w H' s'.heap/\RelV v u/\Q v H'
def CR(CX:CXT)(outer:List Env)(P:zAS)(w:World)(H:Hp)(s:zAB)(Q:VK)(E:XK)(r:zEk)(s':zAB):Prop:=
 match r with
 | .ok (.ret u)=>CE outer P w H s Q u s'
 | .ok _=>False
 | .error e=>CX outer H s E e s'
structure cg(P:zAS)(w:World)(K:zAA)(mg:Str->Option Value)(base:Heap)(CX:CXT)(k:Nat)(f:Addr)(fd:zAo)(ps:List Str)(sp:Sp):Prop where
 len:∀vs H Q E,sp vs H Q E->vs.length=ps.length
 run:∀(A:zA8) (outer:List Env) (s:zAB) (H:Hp) (args:Args) (us:List Value) (vs:List V) (Q:VK) (E:XK),dj k A->aBN P w K mg base A outer s H->zGq s fd args (ps.zip us)->Vals vs us->sp vs H Q E->
  zCW (model P w) A (.call (.ref f) args) (CR CX outer P w H s Q E) s
section
variable{X:Cx}{hV:gV}{Z:St}{H:Hp}{s s':zAB}
def Inv.env0(I:Inv X hV Z H s):aBN X.prog X.w X.K X.mg X.base X.A X.stack s H:=
 ⟨I.ok.frames,I.ok.mod,I.bs,zAh I.ok.bsz I.sz,I.stack,I.stkFree,I.hok,I.bare⟩
def Inv.after(I:Inv X hV Z H s)(h:CE X.stack X.prog X.w H s Q u s'):EP X hV Z Q u s':=by
 obtain⟨v,H',os,bare,un,hok,r,q⟩:=h;obtain⟨hh,g,d,t,os'⟩:=s';obtain rfl:os'=s.os:=os;exact⟨v,H',I.call (h':=hh) (g':=g) (d':=d) (t':=t) (ch:=[]) un hok bare (λ b z=>absurd z (by simp)),r,q⟩
end
def zy(sp:Sp)(dvs:List V)(E:XK)(t:TA):TE:=λ Z H Q=>t Z H λ vs H1=>sp (vs++dvs) H1 Q E
def tMeth(C:Addr)(m:Str)(sp:Sp)(dvs:List V)(E:XK)(ta:TE)(t:TA):TE:=λ Z H Q=>ta Z H λ x H1=>∃a dx fs,x= .ref a/\H1 a=some (.ins C dx fs)/\fs.lookup m=none/\
 t Z H1 λ vs H2=>sp (x::(vs++dvs)) H2 Q E
def tMake(C:Addr)(sp:Sp)(dvs:List V)(E:XK)(t:TA):TE:=λ Z H Q=>t Z H λ vs H1=>∀x dx,H1 x=none->H1 dx=none->dx≠x->
 sp (.ref x::(vs++dvs)) (upd (upd H1 dx (.own x)) x (.ins C dx [])) (λ v H2=>v= .non/\Q (.ref x) H2) E
def Binds(K:zAA)(fd:zAo)(ps:List Str)(ds:List Value):Prop:=
 ∀(s:zAB) (us:List Value),K.In s.heap->(us++ds).length=ps.length->zGq s fd ⟨us,[]⟩ (ps.zip (us++ds))
def Binds.all{K:zAA}{fd:zAo}{ps:List Str}(h:∀us:List Value,us.length=ps.length->zHy fd ⟨us,[]⟩=pure (ps.zip us)):Binds K fd ps []:=λ s us _ hl=>by
 rw[zBB]at hl ⊢;exact .of_eq (h us hl)
def pM(CX:CXT)(X:Cx)(E:XK):Prop:=∀(hV:gV) (Z:St) (H:Hp) (s:zAB) (e:Value) (s':zAB),Inv X hV Z H s->CX X.stack H s E e s'->X.xe e s'
section
variable{X:Cx}{CX:CXT}{k:Nat}{f:Addr}{fd:zAo}{ps:List Str}{sp:Sp}{dvs:List V}{ds:List Value}{E:XK}{x:Str}{p pos:Pos}{e:Expr}{es:List Expr}{t:TA}
def aFE(F:cg X.prog X.w X.K X.mg X.base CX k f fd ps sp)(hr:dj k X.A)(hb:Binds X.K fd ps ds)(hd:Vals dvs ds)(hx:pM CX X E)
  (I:Inv X hV Z H s)(r:Vals vs us)(h:sp (vs++dvs) H Q E):wpAny (model X.prog X.w) X.A (call (.ref f) us) (EP X hV Z Q) X.xe s:=by
 have r2:Vals (vs++dvs) (us++ds):=r.append hd;have hl:(us++ds).length=ps.length:=by rw[<-r2.length];exact F.len _ _ _ _ h
 refine zIV (zEa (F.run X.A X.stack s H ⟨us,[]⟩ (us++ds) (vs++dvs) Q E hr I.env0 (hb s us I.kIn hl) r2 h) λ r s' hq=>?_);cases r with
 |error e=>exact hx hV Z H s e s' I hq
 |ok fl=>
  cases fl with
  |ret u=>exact I.after hq
  |next=>exact zAF hq
  |brk=>exact zAF hq
  |cont=>exact zAF hq
def aIS(F:cg X.prog X.w X.K X.mg X.base CX k f fd ps sp)(hr:dj k X.A)(hg:Gl X x)(hm:X.mg x=some (.ref f))(hk:zBZ X.K (.ref f)=true)(hb:Binds X.K fd ps ds)(hd:Vals dvs ds)(hx:pM CX X E)
  (ha:PA X (e::es) t)(hdb:Nd x:=by decide)(he:zAY (e::es) X.env=(false,eval e X.env)::zAY es X.env:=by rfl)(hpl:(zCE pos (zAY es X.env)).any (·.1)=false:=by rfl):
  PE X (.Call (.Name x p) (e::es) [] pos) (zy sp dvs E t):=by
 intro hV s Z H Q I h;refine zBa (nJ I hg hm ?_ hdb);refine zEX (h₀:=X.base) I.ok.mod.kin hk (thn (ha pos hV s Z H _ I h) λ us s1 ⟨vs,H1,I1,r,q⟩=>⟨I1.kIn,?_⟩) he hpl;exact aFE F hr hb hd hx I1 r q
end
structure aZ(N P:List Str)(sc:Scope):Prop where
 kind:sc.kind= .function
 co:sc.isCoroutine=false
 gen:sc.isGenerator=false
 nd:N.Nodup
 pre:N.take P.length=P
 par:∀x∈P,sc.names.lookup x=some .local\/sc.names.lookup x=some .cell
 nofree:∀y∈sc.names,y.2≠.free
theorem yE{zDF:Str->Option zD0}{x:Str}:∀{binds:List (Str×Value)} {m:Str->Option Value},(∀v,(x,v)∉binds)->bindL zDF binds m x=m x
 |[],_,_=>rfl
 |(n,v)::r,m,h=>by
  unfold bindL;rw[yE λ w hw=>h w (zAL _ hw)];split
  .have:x≠n:=by rintro rfl;exact h v zAG
   simp[this]
  .rfl
theorem yG{zDF:Str->Option zD0}{x:Str}:∀{binds:List (Str×Value)} {m:Str->Option Value},(∀v,(x,v)∉binds)->bindC zDF binds m x=m x
 |[],_,_=>rfl
 |(n,v)::r,m,h=>by
  unfold bindC;rw[yG λ w hw=>h w (zAL _ hw)];split
  .rfl
  .have:x≠n:=by rintro rfl;exact h v zAG
   simp[this]
theorem yF{zDF:Str->Option zD0}{x:Str}{v:Value}:∀{P:List Str} {vs:List Value} {i:Nat} {m:Str->Option Value},P.Nodup->P[i]? =some x->vs[i]? =some v->zDF x=some .local->
  bindL zDF (P.zip vs) m x=some v
 |[],_,_,_,_,h,_,_=>by simp at h
 |_::_,[],_,_,_,_,h,_=>by simp at h
 |p::P,w::vs,0,m,nd,h1,h2,hk=>by
  simp at h1 h2;subst h1;subst h2;show bindL zDF ((p,w)::P.zip vs) m p=_;unfold bindL;rw[yE λ v hv=>(zA5.mp nd).1 (zDT hv).1,if_pos hk];simp
 |p::P,w::vs,i+1,m,nd,h1,h2,hk=>by
  show bindL zDF ((p,w)::P.zip vs) m x=_;unfold bindL;exact yF (i:=i) (zA5.mp nd).2 (by simpa using h1) (by simpa using h2) hk
theorem yH{zDF:Str->Option zD0}{x:Str}{v:Value}:∀{P:List Str} {vs:List Value} {i:Nat} {m:Str->Option Value},P.Nodup->P[i]? =some x->vs[i]? =some v->zDF x≠some .local->
  bindC zDF (P.zip vs) m x=some v
 |[],_,_,_,_,h,_,_=>by simp at h
 |_::_,[],_,_,_,_,h,_=>by simp at h
 |p::P,w::vs,0,m,nd,h1,h2,hk=>by
  simp at h1 h2;subst h1;subst h2;show bindC zDF ((p,w)::P.zip vs) m p=_;unfold bindC;rw[yG λ v hv=>(zA5.mp nd).1 (zDT hv).1,if_neg hk];simp
 |p::P,w::vs,i+1,m,nd,h1,h2,hk=>by
  show bindC zDF ((p,w)::P.zip vs) m x=_;unfold bindC;exact yH (i:=i) (zA5.mp nd).2 (by simpa using h1) (by simpa using h2) hk
def start(N:List Str)(vs:List V):St:=vs.map some++zAO (N.length-vs.length) none
def tQ(CX:CXT)(P:zAS)(w:World)(K:zAA)(mg:Str->Option Value)(base:Heap)(N:List Str)(qual:Str)(scope:Scope)(f:Addr)(cd:Value)(A:zA8)(outer:List Env)(s:zAB)(H:Hp)(E:XK):Cx where
 prog:=P
 w:=w
 K:=K
 mg:=mg
 base:=base
 A:=A.deeper (zCc qual scope s.heap.objs.size f cd)
 N:=N
 z5:=s
 zI:=H
 env:=zCc qual scope s.heap.objs.size f cd
 outer:=outer
 stack:=zCc qual scope s.heap.objs.size f cd::outer
 ex:=[]
 calm:=true
 fn:=λ _=>true
 pn:=[]
 xe:=λ e s'=>wpAny (model P w) (A.deeper (zCc qual scope s.heap.objs.size f cd)) (leaving (zCc qual scope s.heap.objs.size f cd) e) (λ _ s''=>CX outer H s E e s'') (λ e' s''=>CX outer H s E e' s'') s'
def qQ{sc:Scope}{n:Nat}{x:Str}(h:sc.names.lookup x=some .cell):∃c,(zCb n sc.names []).lookup x=some c:=by
 have q:=zCj sc.names n [] (.inl h);exact Option.isSome_iff_exists.mp q
def rF{CX:CXT}{P:zAS}{w:World}{K:zAA}{mg:Str->Option Value}{base:Heap}{N ps:List Str}{qual:Str}{scope:Scope}{f:Addr}{cd:Value}{A:zA8}{outer:List Env}{s s1:zAB}{H:Hp}{E:XK}{us:List Value}{vs:List V}
  (S:aZ N ps scope)(hd:A.handled=none)(e0:aBN P w K mg base A outer s H)(hl:vs.length=ps.length)(r:Vals vs us)
  (x:InCallC s s.heap.objs.size (bindL (zCc qual scope s.heap.objs.size f cd).kindOf (ps.zip us) λ _=>none) (zCb (s.heap.objs.size+1) scope.names []) (bindC (zCc qual scope s.heap.objs.size f cd).kindOf (ps.zip us) λ _=>none) s1):
  Inv (tQ CX P w K mg base N qual scope f cd A outer s H E) [] (start N vs) H s1:=by
 have hpl:ps.length<=N.length:=by have:=congrArg zGk S.pre;rw[zBk]at this;lia
 obtain⟨h1,tk,rfl,hk⟩:=x.done;have noA:∀b:Addr,b∉(tQ CX P w K mg base N qual scope f cd A outer s H E).ex:=λ b z=>absurd (show b∈([]:List Addr)from z) (by simp)
 refine⟨⟨e0.mod,S.kind,rfl,rfl,zAP _,λ y z c h1 h2=>?_,λ y hy=>?_,λ y c _ h=>?_,λ _=>hd,zGK e0.frames,.inr ⟨rfl,rfl⟩,λ b z=>absurd z (noA b),e0.bs,e0.bsz,λ b _ _=>noA b,λ b z=>absurd z (noA b),e0.funs,e0.frf⟩,
  rfl,e0.bare,Un.kept hk,⟨_,x.toInCall.ns,λ i y v h1 h2 h3=>?_⟩,λ y c h=>⟨_,x.cell y c h⟩,e0.hok.fresh (zAP _),λ y c h=>?_,λ p hp=>absurd (show p∈([]:gV)from hp) (by simp),e0.hok.kept hk,?_,λ p hp=>absurd (show p∈([]:gV)from hp) (by simp)⟩
 .exact name_of_addr x.apart (zAk h1) (zAk h2)
 .have hy:scope.names.lookup y=some .cell\/scope.names.lookup y=some .free:=hy
  rcases hy with hy|hy
  .exact qQ hy
  .exact absurd rfl (S.nofree _ (zAk hy))
 .exact zBT (x.above y c (zAk h))
 .have hi:i<vs.length:=by
   unfold start at h2;by_cases hi:i<vs.length
   .exact hi
   .rw[zDW (by simpa using hi)]at h2
    rw[zCg]at h2;split at h2<;>cases h2
  have ha:vs[i]? =some v:=by
   unfold start at h2;rw[zB3 (by simpa using hi),zAZ]at h2;cases e:vs[i]? with
   |none=>rw[e]at h2;cases h2
   |some a=>rw[e]at h2;cases h2;rfl
  obtain⟨u,hu,rv⟩:=r.get ha;have hp:ps[i]? =some y:=by
   rw[<-S.pre,List.getElem?_take_of_lt (by lia)];exact h1
  have ndP:ps.Nodup:=by rw[<-S.pre];exact S.nd.sublist (zHO _ _)
  refine⟨u,rv,?_⟩;rcases S.par y (zAg hp)with k|k
  .exact .inl ⟨k,yF ndP hp hu k⟩
  .obtain⟨c,e⟩:=qQ (n:=s.heap.objs.size+1) k
   refine .inr ⟨.inl k,c,e,?_⟩;have q:=x.cell y c e;rw[yH ndP hp hu (by show scope.names.lookup y≠_;rw[k];decide)]at q;exact q
 .exact e0.hok.fresh (zBT (x.above y c (zAk h)))
 .unfold start
  show _=N.length;rw[zAT,zAD,zCQ];lia
def aN1{CX:CXT}{P:zAS}{w:World}{K:zAA}{mg:Str->Option Value}{base:Heap}{k:Nat}{f:Addr}{name qual:Str}{params:zCs}{body:List Stmt}{scope:Scope}{dV kV doc pm cdv ct oc:Value}{an od:Option Addr}
  {osl:Array (Option Value)}{N ps:List Str}{sp:Sp}(lk:K.lookup f=some ⟨oc,od,.func (zB2 name qual params body scope dV kV doc pm an cdv ct),osl⟩)(hcd:zCn K cdv qual=true)(S:aZ N ps scope)
  (len:∀vs H Q E,sp vs H Q E->vs.length=ps.length)
  (hbody:∀(A:zA8) (outer:List Env) (s:zAB) (H:Hp) (vs:List V) (Q:VK) (E:XK),dj k (A.deeper (zCc qual scope s.heap.objs.size f cdv))->sp vs H Q E->
   ∃t,PSs (tQ CX P w K mg base N qual scope f cdv A outer s H E) body t/\t {nx:=λ _ H'=>Q .non H',rt:=Q} (start N vs) H):
  cg P w K mg base CX (k+1) f (zB2 name qual params body scope dV kV doc pm an cdv ct) ps sp:=by
 refine⟨len,λ A outer s H args us vs Q E hr e0 hb r hsp=>?_⟩;have hl:=len _ _ _ _ hsp;have KX:K.In s.heap:=e0.mod.kin.keeps λ b o e=>(e0.bs b o e).1
 have lim:s.heap.NoLimit:=e0.mod.nolimit.keeps λ b o e=>(e0.bs b o e).1
 have b9:∀y∈ps.zip us,scope.names.lookup y.1=some .local\/(scope.names.lookup y.1=some .cell/\((zCb (s.heap.objs.size+1) scope.names []).lookup y.1).isSome=true):=λ⟨n,v⟩ hy=>by
  rcases S.par n (zDT hy).1 with q|q
  .exact .inl q
  .exact .inr ⟨q,zCj _ _ _ (.inl q)⟩
 refine zE9 hr.depth (KX _ _ lk) rfl S.co S.gen rfl (zEY KX hcd) (hb _ _ _ _ ?_);refine zDh S.kind b9 λ env he s1 x=>?_
 subst he;refine⟨lim.keeps x.toInCall.keep,zH5 ?_⟩;obtain⟨t,ht,hq⟩:=hbody A outer s H vs Q E (hr.deeper _) hsp;have I:Inv (tQ CX P w K mg base N qual scope f cdv A outer s H E) [] (start N vs) H s1:=rF S hr.hd e0 hl r x;refine zBC (ht [] s1 (start N vs) H _ I hq) (λ fl s' hs=>?_) λ e s' hs=>hs
 have fin:∀{Z':St} {H':Hp} {v:V} {u:Value},Inv (tQ CX P w K mg base N qual scope f cdv A outer s H E) [] Z' H' s'->RelV v u->Q v H'->CE outer P w H s Q u s':=
  λ{Z' H' v u} J rv q=>⟨v,H',J.os,J.bare,J.base,J.hok,rv,q⟩
 cases fl with
 |ret u=>
  obtain⟨v,Z',H',J,rv,q⟩:=hs;exact fin J rv q
 |next=>
  obtain⟨Z',H',J,q⟩:=hs;exact fin (v:=V.non) (u:=zHD) J rfl q
 |brk=>
  obtain⟨_,_,_,q⟩:=hs;exact zAF q
 |cont=>
  obtain⟨_,_,_,q⟩:=hs;exact zAF q
section
variable{X:Cx}{x:Str}{p pos:Pos}{e:Expr}{es:List Expr}{t:TA}{id T:String}{r:List V->Hp->VK->Prop}
def tCB(r:List V->Hp->VK->Prop)(t:TA):TE:=λ Z H Q=>t Z H λ vs H1=>r vs H1 Q
def ur(hc:cU X (.builtin id) r)(hg:Gl X x)(hm:X.mg x=none)(hv:zAv x=some (.builtin id))(ha:PA X (e::es) t)(hn:x≠"__name__":=by decide)(hdb:Nd x:=by decide)
  (he:zAY (e::es) X.env=(false,eval e X.env)::zAY es X.env:=by rfl)(hpl:(zCE pos (zAY es X.env)).any (·.1)=false:=by rfl):PE X (.Call (.Name x p) (e::es) [] pos) (tCB r t):=by
 intro hV s Z H Q I h;refine zBa (pH I hg hm hv ?_ hn hdb);exact PyProof.Rows.callWith_builtin1 (thn (ha pos hV s Z H _ I h) λ us s1 ⟨vs,H1,I1,r1,q1⟩=>hc hV s1 Z H1 vs us Q I1 r1 q1) he hpl
def nF(hc:cU X (.type T) r)(hg:Gl X x)(hm:X.mg x=none)(hv:zAv x=some (.type T))(ha:PA X (e::es) t)(hn:x≠"__name__":=by decide)(hdb:Nd x:=by decide)
  (he:zAY (e::es) X.env=(false,eval e X.env)::zAY es X.env:=by rfl)(hpl:(zCE pos (zAY es X.env)).any (·.1)=false:=by rfl):PE X (.Call (.Name x p) (e::es) [] pos) (tCB r t):=by
 intro hV s Z H Q I h;refine zBa (pH I hg hm hv ?_ hn hdb);exact zB8 (thn (ha pos hV s Z H _ I h) λ us s1 ⟨vs,H1,I1,r1,q1⟩=>hc hV s1 Z H1 vs us Q I1 r1 q1) he hpl
end
end L2
namespace HT
open PySem PyProof.Rows
def lexLt:List Int->List Int->Bool
 |[],[]=>false
 |[],_::_=>true
 |_::_,[]=>false
 |x::xs,y::ys=>if x=y then lexLt xs ys else decide (x<y)
def aBz(x y:Int)(xs ys:List Int):lexLt (x::xs) (y::ys)=if x=y then lexLt xs ys else decide (x<y):=rfl
def wM:lexLt [] []=false:=rfl
def vG(y:Int)(ys:List Int):lexLt [] (y::ys)=true:=rfl
def vH(x:Int)(xs:List Int):lexLt (x::xs) []=false:=rfl
def aAk(A:zA8)(s:zAB)(a:Int)(t:Tok)(c:Int)(u:Tok):∃e,zBs A s (.int a t) (.int c u) e/\(e=true↔a=c):=
 ⟨(a==c),zED a t c u,by simp⟩
def aFO(A:zA8)(s:zAB)(a:Int)(t:Tok)(c:Int)(u:Tok)(prog:zAS)(w:World)(E:Value->zAB->Prop)(Q:Value->zAB->Prop)(h:Q (.bool (decide (a<c))) s):
  wpAny (model prog w) A (zGU .Lt (.int a t) (.int c u)) Q E s:=
 (PyProof.Rows.lt_int h:wpAny (model prog w) A (zAy .Lt (.int a t) (.int c u)) Q E s)
section
open PySem.SeqAt
open PySem.AutoSeq1(wpAny_loadPart')
open PySem.MeetsSeq PySem.MeetsSeq2 PySem.MeetsSeq3
def wC(l b:Addr)(items items2:Array Value)(n n2:Nat)(dd dd2:Option Addr)(sl sl2:Array (Option Value))(ns ms:List Int)(hi:zBf items.toList ns)(hj:zBf items2.toList ms):
  Meets (zFV.«tuple.__lt__» ⟨[.ref l,.ref b],[]⟩)
   (λ _ R s=>s.heap.get? l=some {cls:=.type "tuple",dict:=dd,data:=.seq items n,slots:=sl}/\s.heap.get? b=some {cls:=.type "tuple",dict:=dd2,data:=.seq items2 n2,slots:=sl2}/\
    R (.ok (.ret (.bool (lexLt ns ms)))) s):=
 .of_wp λ prog w A R s h=>by
  obtain⟨hp,g,d,tk,os⟩:=s;obtain⟨hl,hb,h⟩:=h;have f2:=zEy;have z1:items.size=ns.length:=by rw[<-hi.length];simp
  have z2:items2.size=ms.length:=by rw[<-hj.length];simp
  wp_walk using zDb hl,zDb hb,wpAny_forIn_list _ (λ rest b s'=>b.1=none/\s'=⟨hp,g,d,tk,os⟩/\∃(vs ws:List Value) (ns' ms':List Int),rest=vs.zip ws/\
   zBf vs ns'/\zBf ws ms'/\ns'.length+items2.size=ms'.length+items.size/\R (.ok (.ret (.bool (lexLt ns' ms')))) ⟨hp,g,d,tk,os⟩) _
  case turn=>
   rintro⟨y,x⟩ rest b s' ⟨hb',rfl,vs,ws,ns',ms',hz,hvi,hwi,hW,hR⟩;cases hvi with
   |nil=>rw[zHP]at hz;cases hz
   |cons a t hvi'=>
    cases hwi with
    |nil=>rw[zGx]at hz;cases hz
    |cons c u hwi'=>
     rw[zBI]at hz;injection hz with hyx hrest
     injection hyx with hy hx
     subst hy hx;rw[aBz]at hR;simp only[zA6]at hW;obtain⟨e,he,hiff⟩:=aAk A.in1 ⟨hp,g,d,tk,os⟩ a t c u;refine zAQ (he prog w _ _ ?_);cases e with
     |true=>
      rw[if_pos (hiff.mp rfl)]at hR;wp_walk;exact⟨rfl,rfl,_,_,_,_,hrest,hvi',hwi',by lia,hR⟩
     |false=>
      rw[if_neg (λ q=>absurd (hiff.mpr q) zA7)]at hR;have hri:=aFO A.in1 ⟨hp,g,d,tk,os⟩ a t c u prog w;wp_walk using hri;exact⟨_,rfl,by simpa using hR⟩
  case fin=>
   rintro⟨b1,b2⟩ s' ⟨hb',rfl,vs,ws,ns',ms',hz,hvi,hwi,hW,hR⟩;simp only at hb';subst hb';have hv:lexLt ns' ms'=decide (items.size<items2.size):=by
    cases hvi with
    |nil=>
     cases hwi with
     |nil=>
      simp only[zBQ]at hW;rw[wM];exact(decide_eq_false (by lia)).symm
     |cons c u hw=>
      simp only[zBQ,zA6]at hW;rw[vG];exact(decide_eq_true (by lia)).symm
    |cons a t hv=>
     cases hwi with
     |nil=>
      simp only[zBQ,zA6]at hW;rw[vH];exact(decide_eq_false (by lia)).symm
     |cons c u hw=>
      rw[zBI]at hz;cases hz
   rw[hv]at hR;wp_walk;exact⟨_,rfl,by simpa[zDq]using hR⟩
  case h=>
   exact⟨rfl,rfl,items.toList,items2.toList,ns,ms,rfl,hi,hj,by lia,h⟩
end
section
variable{prog:zAS}{w:World}{A:zA8}{E:Value->zAB->Prop}{s:zAB}
def aBx(hl:IsTup s.heap l items)(hb:IsTup s.heap b items2)(hi:zBf items.toList ns)(hj:zBf items2.toList ms)
  (hu:A.units<cLine)(h:Q (.bool (lexLt ns ms)) s):wpAny (model prog w) A (zAy .Lt (.ref l) (.ref b)) Q E s:=by
 obtain⟨⟨cls,dd,data,sl⟩,ho,hc,n,hd⟩:=id hl;obtain⟨⟨cls2,dd2,data2,sl2⟩,ho2,hc2,n2,hd2⟩:=id hb;simp only at hc hd hc2 hd2;subst hc hd hc2 hd2;exact zHU (op:=.Lt) ⟨_,ho,rfl⟩ ⟨_,ho2,rfl⟩ PySem.F.slot_tuple_lt PySem.F.entry_tuple_lt (PySem.F.args_tuple_lt_2 _ _) (wC l b items items2 n n2 dd dd2 sl sl2 ns ms hi hj)
  ⟨ho,ho2,show zCU (lexLt ns ms)≠zEK/\Q (.bool (lexLt ns ms)) s from⟨(λ x=>nomatch x),h⟩⟩ hu
def aJV(ht:IsTup s.heap t vs.toArray)(hb:IsTup s.heap b ws.toArray)(hv:vs≠[])
  (h1:ws=[]->Q (.ref t) s)(h2:ws≠[]->Q (.ref s.heap.objs.size) {s with heap:=s.heap.push {cls:=.type "tuple",data:=.seq (vs++ws).toArray}})
  (hsz:vs.length+ws.length<=zAK):wpAny (model prog w) A (zB7 .Add (.ref t) (.ref b)) Q E s:=by
 obtain⟨⟨cls,dd,data,sl⟩,ho,hc,n,hd⟩:=id ht;obtain⟨⟨cls2,dd2,data2,sl2⟩,ho2,hc2,n2,hd2⟩:=id hb;simp only at hc hd hc2 hd2;subst hc hd hc2 hd2;have e:vs.toArray++ws.toArray=(vs++ws).toArray:=by simp
 by_cases hw:ws=[]
 .exact zH6 ⟨_,ho,rfl⟩ ⟨_,ho2,rfl⟩ zGF zHF zDf zD7 (zD1 _ _)
   (tuple_addW1 t b vs.toArray ws.toArray n n2 dd dd2 sl sl2 (by simpa using hv) (by simp[hw])) ⟨ho,ho2,h1 hw⟩
 .refine zH6 ⟨_,ho,rfl⟩ ⟨_,ho2,rfl⟩ zGF zHF zDf zD7 (zD1 _ _)
   (tuple_addW2 t b vs.toArray ws.toArray n n2 dd dd2 sl sl2 (by simpa using hv) (by simpa using hw) (by rw[zAM,zAM];exact hsz)) ⟨ho,ho2,?_⟩
  rw[e];exact h2 hw
def sIx(n d:Nat):Option Int->Nat
 |none=>d
 |some v=>if v<0 then(v+(n:Int)).toNat else min v.toNat n
def aKh(n d:Nat)(hd:d<=n)(o:Option Int):sIx n d o<=n:=by
 cases o with
 |none=>exact hd
 |some v=>
  show(if v<0 then(v+(n:Int)).toNat else min v.toNat n)<=n
  by_cases hv:v<0
  .rw[if_pos hv];lia
  .rw[if_neg hv];exact Nat.min_le_right _ _
def aDR(v:Int)(n d:Nat):(if v<0 then max (v+(n:Int)) 0 else min v (n:Int))=((sIx n d (some v):Nat):Int):=by
 show(if v<0 then max (v+(n:Int)) 0 else min v (n:Int))=(((if v<0 then(v+(n:Int)).toNat else min v.toNat n):Nat):Int)
 by_cases hv:v<0
 .simp only[if_pos hv];lia
 .simp only[if_neg hv];lia
def aCV(lo hi:Option Int)(n:Nat):zDB lo hi 1 (n:Int)=(((sIx n 0 lo:Nat):Int),((sIx n n hi:Nat):Int)):=by
 have h1:¬((1:Int)<0):=by lia
 unfold zDB;simp only[h1,if_false];refine zHB ?_ ?_
 .cases lo with
  |none=>rfl
  |some v=>exact aDR v n 0
 .cases hi with
  |none=>rfl
  |some v=>exact aDR v n n
def aBm(i j:Nat):zCK (i:Int) (j:Int) 1=j-i:=by
 unfold zCK;have h1:(1:Int)>0:=by lia
 simp only[h1,if_true,Int.ediv_one];split<;>lia
def uT(p:zFj v o)(h:Q o s):wpAny (model prog w) A (zIG v) Q E s:=by
 cases p with
 |none=>exact slicePart_none h
 |int i t=>exact slicePart_int h
def j6{sl:Addr}{vl vu:Value}{lo hi:Option Int}{n:Nat}{Q:Int×Int×Nat->zAB->Prop}(hs:s.heap.IsSliceOf sl vl vu .none)(pl:zFj vl lo)(pu:zFj vu hi)
  (h:Q (((sIx n 0 lo:Nat):Int),1,sIx n n hi-sIx n 0 lo) s):wpAny (model prog w) A (zEZ (.ref sl) (pure (n:Int))) Q E s:=by
 obtain⟨os,hos,hcs,hds⟩:=id hs;unfold zEZ zIF;refine zAQ (zAQ (zGW hos hds (x:=vl) rfl (zAQ (zGW hos hds (x:=vu) rfl (zAQ (zGW hos hds (x:=.none) rfl (zAi ?_)))))));refine zAQ (slicePart_none ?_);show wpAny _ _ (if ((1:Int)==0)=true then _ else _) _ _ s;rw[if_neg (by decide)];refine zAQ (uT pl (zAQ (uT pu (zAQ (zAi ?_)))));show wpAny _ _ (match zDB lo hi 1 (n:Int)with|(lo,hi)=>pure (lo,(1:Int),zCK lo hi 1)) _ _ s;rw[aCV lo hi n];show wpAny _ _ (pure (((sIx n 0 lo:Nat):Int),(1:Int),zCK ((sIx n 0 lo:Nat):Int) ((sIx n n hi:Nat):Int) 1)) _ _ s;rw[aBm];exact zAi h
def aF8(xs:Array Value)(i k:Nat):((zA1 k).filterMap λ(m:Nat)=>xs[((i:Int)+(m:Int)*1).toNat]?).toArray=((xs.toList.drop i).take k).toArray:=by
 have e:(λ(m:Nat)=>xs[((i:Int)+(m:Int)*1).toNat]?)=λ m=>xs[i+m]?:=by
  funext m
  have:((i:Int)+(m:Int)*1).toNat=i+m:=by lia
  rw[this]
 rw[e]
 have:=pick_run xs i k
 rw[List.filterMap_map]at this;have e2:((λ x=>xs[x]?)∘λ x=>i+x)=λ m=>xs[i+m]?:=rfl
 rw[e2]at this;rw[this]
def qK{t sl:Addr}{items:Array Value}{vl vu:Value}{lo hi:Option Int}{Q:Value->zAB->Prop}(ht:IsTup s.heap t items)(hs:s.heap.IsSliceOf sl vl vu .none)(pl:zFj vl lo)(pu:zFj vu hi)
  (hw:¬(sIx items.size 0 lo=0/\sIx items.size items.size hi=items.size))
  (h:Q (.ref s.heap.objs.size) {s with heap:=s.heap.push {cls:=.type "tuple",data:=.seq ((items.toList.drop (sIx items.size 0 lo)).take (sIx items.size items.size hi-sIx items.size 0 lo)).toArray}})
  (hsz:items.size<=zAK):wpAny (model prog w) A (zEb (.ref t) (.ref sl)) Q E s:=by
 have pV:sizeOk (.seq ((items.toList.drop (sIx items.size 0 lo)).take (sIx items.size items.size hi-sIx items.size 0 lo)).toArray):=by
  show((items.toList.drop (sIx items.size 0 lo)).take (sIx items.size items.size hi-sIx items.size 0 lo)).toArray.size<=zAK
  rw[zAM,zBk,zHY,zDM];lia
 have hj:sIx items.size items.size hi<=items.size:=aKh _ _ (zAP _) hi;obtain⟨os,hos,hcs,hds⟩:=id hs;have hTs:s.TypeIs (.ref sl) "slice":=⟨os,hos,hcs⟩;unfold zEb
 try with_reducible refine zCw ?_
 first|refine zAQ (zAi ?_)|skip
 refine zAQ (zIY ht.typeIs (by decide) ?_);refine zAQ (zEN (name:=zGg "__getitem__") ht.typeIs zBS
  (zGG zBS ht.typeIs zHl ?_ (zHx _ _)))
 show wpAny _ _ (zE0 (.ref t)>>=_) _ _ s;refine zAQ (tupleItemsOf_ ht ?_);refine zAQ (zGB hTs ?_);rw[if_pos (by decide)];refine zAQ (j6 hs pl pu ?_);have hno:¬((((sIx items.size 0 lo:Nat):Int)==0&&(1:Int)==1&&(sIx items.size items.size hi-sIx items.size 0 lo)==items.size)=true):=by
  intro q;rw[zAC,zAC]at q;have q1:((sIx items.size 0 lo:Nat):Int)=0:=zDO q.1.1;have q2:sIx items.size items.size hi-sIx items.size 0 lo=items.size:=zDO q.2;exact hw ⟨by lia,by lia⟩
 show wpAny _ _ (if (((sIx items.size 0 lo:Nat):Int)==0&&(1:Int)==1&&(sIx items.size items.size hi-sIx items.size 0 lo)==items.size)=true then _ else _) _ _ s;rw[if_neg hno,aF8]
 first
  |exact zAQ (m:=zBW _) (zBi (zAi ⟨_,rfl,zAi h⟩) pV)
  |exact zAQ (m:=zBW _) (zBi (zAQ (zAi (zAi ⟨_,rfl,zAi h⟩))) pV)
  |exact zAQ (zAQ (m:=zBW _) (zBi (zAi (zAi ⟨_,rfl,zAi h⟩)) pV))
  |exact zAQ (zAQ (m:=zBW _) (zBi (zAi ⟨_,rfl,zAi h⟩) pV))
end
end HT
namespace L2
open PySem PySem.Spec PyProof.Rows
abbrev TO:=St->Hp->(Option Int->Hp->Prop)->Prop
def PO(X:Cx)(e:Option Expr)(t:TO):Prop:=
 ∀(hV:gV) (s:zAB) (Z:St) (H:Hp) (Q:Option Int->Hp->Prop),Inv X hV Z H s->t Z H Q->
  wpAny (model X.prog X.w) X.A (evalPart e X.env) (λ u s'=>∃o H',Inv X hV Z H' s'/\zFj u o/\Q o H') X.xe s
def aHY:TO:=λ _ H Q=>Q none H
def aMd(t:TE):TO:=λ Z H Q=>t Z H λ x H1=>∃i,x= .int i/\Q (some i) H1
def intsAre_of:∀{us:List Value},Vals (ns.map V.int) us->zBf us ns:=by
 induction ns with
 |nil=>intro us r;rw[zEB]at r;cases r;exact .nil
 |cons n ns ih=>
  intro us r;rw[zAE]at r;cases r with
  |cons r1 r2=>
   obtain⟨t,e⟩:=r1;subst e;exact .cons n t (ih r2)
section
variable{X:Cx}{e:Expr}{te:TE}{lo hi:Option Expr}{tl th:TO}{pos p2:Pos}
def aII:PO X none aHY:=by
 intro hV s Z H Q I h;rw[evalPart_none];exact zAi ⟨none,H,I,.none,h⟩
def aIH(h:PE X e te):PO X (some e) (aMd te):=by
 intro hV s Z H Q I hw;rw[evalPart_some];refine thn (h hV s Z H _ I hw) λ u s1 ⟨x,H1,I1,r1,q1⟩=>?_
 obtain⟨i,rfl,q⟩:=q1;obtain⟨t,rfl⟩:=r1;exact⟨some i,H1,I1,.int i t,q⟩
def SlR(X:Cx)(r:V->Option Int->Option Int->Hp->VK->Prop):Prop:=
 ∀(hV:gV) (s:zAB) (Z:St) (H:Hp) (x:V) (v vl vu:Value) (lo hi:Option Int) (sl:Addr) (Q:VK),Inv X hV Z H s->RelV x v->s.heap.IsSliceOf sl vl vu .none->zFj vl lo->zFj vu hi->r x lo hi H Q->
  ∃T id,zEg (.type T) "__getitem__"=pure (some (.builtin id))/\s.TypeIs v T/\wpAny (model X.prog X.w) X.A (zEb v (.ref sl)) (EP X hV Z Q) X.xe s
def SlR.or(h:SlR X r)(h':SlR X r'):SlR X (λ x lo hi H Q=>r x lo hi H Q\/r' x lo hi H Q):=by
 intro hV s Z H x v vl vu lo hi sl Q I rx hs pl pu q;rcases q with q|q
 .exact h hV s Z H x v vl vu lo hi sl Q I rx hs pl pu q
 .exact h' hV s Z H x v vl vu lo hi sl Q I rx hs pl pu q
def tSl(r:V->Option Int->Option Int->Hp->VK->Prop)(te:TE)(tl th:TO):TE:=λ Z H Q=>te Z H λ x H1=>tl Z H1 λ l H2=>th Z H2 λ u H3=>r x l u H3 Q
def aFe(hr:SlR X r)(he:PE X e te)(hl:PO X lo tl)(hu:PO X hi th):PE X (.Subscript e (.Slice lo hi none p2) pos) (tSl r te tl th):=by
 intro hV s Z H Q I h;refine zIO (thn (he hV s Z H _ I h) λ v s1 ⟨x,H1,I1,r1,q1⟩=>?_);refine wpAny_Slice (thn (hl hV s1 Z H1 _ I1 q1) λ vl s2 ⟨l,H2,I2,pl,q2⟩=>thn (hu hV s2 Z H2 _ I2 q2) λ vu s3 ⟨u,H3,I3,pu,q3⟩=>?_);rw[evalPart_none];refine zAi ?_;have I4:Inv X hV Z H3 {s3 with heap:=s3.heap.push {cls:=.type "slice",data:=.fields #[vl,vu,.none]}}:=I3.kept (t':=s3.toks) λ b ob q=>zAI _ q
 obtain⟨T,id,hT,ht,hg⟩:=hr hV {s3 with heap:=s3.heap.push {cls:=.type "slice",data:=.fields #[vl,vu,.none]}} Z H3 x v vl vu l u s3.heap.objs.size Q I4 r1 (zHr ..) pl pu q3;show wpAny (model X.prog X.w) X.A (zHG e (.Slice lo hi none p2) v (.ref s3.heap.objs.size)) (EP X hV Z Q) X.xe {s3 with heap:=s3.heap.push {cls:=.type "slice",data:=.fields #[vl,vu,.none]}};exact tail_any (ops:=[.ref s3.heap.objs.size,v]) ht hT hg (by with_unfolding_all rfl)
def vh(xs:List V)(lo hi:Option Int):List V:=(xs.drop (HT.sIx xs.length 0 lo)).take (HT.sIx xs.length xs.length hi-HT.sIx xs.length 0 lo)
def sY(xs:List V)(lo hi:Option Int):(vh xs lo hi).length<=xs.length:=by
 unfold vh;rw[zBk,zHY];lia
def aHt(K:zAA):R2:=λ x y H Q=>∃a b ns ms,x= .ref a/\y= .ref b/\SqT K H a (ns.map V.int)/\SqT K H b (ms.map V.int)/\Q (.bl (HT.lexLt ns ms)) H
def aLR(hu:X.A.units<cLine):OpR X (zAy .Lt) (aHt X.K):=by
 intro hV s Z H x y v u Q I rx ry h;obtain⟨a,b,ns,ms,rfl,rfl,ha,hb,q⟩:=h;cases rx;cases ry;obtain⟨its,r1,p1,_⟩:=I.tuple ha;obtain⟨its2,r2,p2,_⟩:=I.tuple hb;have i1:zBf its.toArray.toList ns:=intsAre_of r1;have i2:zBf its2.toArray.toList ms:=intsAre_of r2;exact HT.aBx p1 p2 i1 i2 hu ⟨.bl (HT.lexLt ns ms),H,I,rfl,q⟩
def aNA(K:zAA):R2:=λ x y H Q=>∃a b xs ys,x= .ref a/\y= .ref b/\SqT K H a xs/\SqT K H b ys/\xs≠[]/\xs.length+ys.length<=zAK/\
 (ys=[]->Q (.ref a) H)/\(ys≠[]->∀p,H p=none->Q (.ref p) (upd H p (.tup (xs++ys))))
def Vals.nil_iff(r:Vals xs us):us=[]↔xs=[]:=by
 cases r with
 |nil=>simp
 |cons _ _=>simp
def aI3:OpR X (zB7 .Add) (aNA X.K):=by
 intro hV s Z H x y v u Q I rx ry h;obtain⟨a,b,xs,ys,rfl,rfl,ha,hb,hx,hz,q1,q2⟩:=h;cases rx;cases ry;obtain⟨its,r1,p1,_⟩:=I.tuple ha;obtain⟨its2,r2,p2,_⟩:=I.tuple hb;refine HT.aJV p1 p2 (λ z=>hx (r1.nil_iff.mp z)) (λ z=>⟨.ref a,H,I,rfl,q1 (r2.nil_iff.mp z)⟩) (λ z=>?_) (by rw[<-r1.length,<-r2.length];exact hz);refine⟨.ref s.heap.objs.size,_,I.laid (t':=s.toks) (o:=.tup (xs++ys)) (λ b ob q=>zAI _ q) (zAP _) ?_,rfl,q2 (λ w=>z (r2.nil_iff.mpr w)) _ (I.hok.fresh (zAP _))⟩;exact⟨⟨by rw[zAT];exact hz,NoD.push _⟩,_,r1.append r2,zFA _ _⟩
end
def ixN(n:Nat)(i:Int):Option Nat:=if 0<=i then(if i<n then some i.toNat else none)else if -(n:Int)<=i then some (i+n).toNat else none
def atI{α:Type}(xs:List α)(i:Int):Option α:=(ixN xs.length i).bind λ j=>xs[j]?
def aIo(h:ixN n i=some j):seqIndex? i n=some j/\j<n/\-(n:Int)<=i/\i<n:=by
 unfold ixN at h;by_cases h0:0<=i
 .rw[if_pos h0]at h
  by_cases h1:i<n
  .rw[if_pos h1]at h
   have e:i.toNat=j:=zAe h;exact⟨by rw[seqIndex_of h0 h1,e],by lia,by lia,h1⟩
  .rw[if_neg h1]at h;cases h
 .rw[if_neg h0]at h
  by_cases h1: -(n:Int)<=i
  .rw[if_pos h1]at h
   have e:(i+n).toNat=j:=zAe h;exact⟨by rw[seqIndex_neg (by lia) h1,e],by lia,h1,by lia⟩
  .rw[if_neg h1]at h;cases h
def z9(h:atI xs i=some v):∃j,seqIndex? i xs.length=some j/\xs[j]? =some v/\j<xs.length/\-(xs.length:Int)<=i/\i<xs.length:=by
 unfold atI at h;cases e:ixN xs.length i with
 |none=>rw[e]at h;cases h
 |some j=>
  rw[e]at h;obtain⟨h1,h2,h3,h4⟩:=aIo e;exact⟨j,h1,h,h2,h3,h4⟩
def qX(b:Expr):Prop:=∀o i,zGV b false o i=operate [o,i] (zEb o i)
def IxR(X:Cx)(r:R2):Prop:=
 ∀(value slice:Expr) (hV:gV) (s:zAB) (Z:St) (H:Hp) (x y:V) (v u:Value) (Q:VK),Inv X hV Z H s->RelV x v->RelV y u->r x y H Q->
  zGV slice false v u=operate [v,u] (zEb v u)->wpAny (model X.prog X.w) X.A (zHG value slice v u) (EP X hV Z Q) X.xe s
def MtR(X:Cx)(id:String)(r:V->List V->Hp->VK->Prop):Prop:=
 ∀(hV:gV) (s:zAB) (Z:St) (H:Hp) (x:V) (xs:List V) (v:Value) (us:List Value) (Q:VK),Inv X hV Z H s->RelV x v->Vals xs us->r x xs H Q->
  wpAny (model X.prog X.w) X.A (call (.builtin id) (v::us)) (EP X hV Z Q) X.xe s
section
variable{X:Cx}{a b:Expr}{ta tb:TE}{pos:Pos}
def IxR.or(h:IxR X r)(h':IxR X r'):IxR X (λ x y H Q=>r x y H Q\/r' x y H Q):=by
 intro value slice hV s Z H x y v u Q I rx ry q hs;rcases q with q|q
 .exact h value slice hV s Z H x y v u Q I rx ry q hs
 .exact h' value slice hV s Z H x y v u Q I rx ry q hs
def aFg{r:R2}(hr:IxR X r)(ha:PE X a ta)(hb:PE X b tb)(hs:qX b):PE X (.Subscript a b pos) (tOp r ta tb):=by
 intro hV s Z H Q I h;exact zIO (aMQ ha hb I h λ v u s2 x y H2 I2 rx ry q=>hr a b hV s2 Z H2 x y v u Q I2 rx ry q (hs _ _))
def aKn(K:zAA):R2:=λ x y H Q=>∃p xs i v,x= .ref p/\y= .int i/\SqL K H p xs/\atI xs i=some v/\Q v H
def aMx(K:zAA):R2:=λ x y H Q=>∃p xs i v,x= .ref p/\y= .int i/\SqT K H p xs/\atI xs i=some v/\Q v H
def aMy:R2:=λ x y H Q=>∃z i c,x= .str z/\y= .int i/\z.length<=zAK/\atI z.cps.toList i=some c/\Q (.str ⟨#[c]⟩) H
def zL:IxR X (aKn X.K):=by
 intro value slice hV s Z H x y v u Q I rx ry h hs;obtain⟨p,xs,i,z,rfl,rfl,hq,he,q⟩:=h;cases rx;obtain⟨t,rfl⟩:=ry;obtain⟨its,r,pl,hz⟩:=I.list hq;obtain⟨j,h1,h2,h3,h4,h5⟩:=z9 he;obtain⟨w,ew,rw'⟩:=r.get h2;have hl:=r.length;have hn:=vD;have fin:EP X hV Z Q w s:=⟨z,H,I,rw',q⟩;by_cases h0:0<=i
 .have hj:i.toNat=j:=by
   rw[seqIndex_of h0 h5]at h1;exact zAe h1
  exact item_listR pl.isList h0 (by lia) (by rw[hj];simpa using ew) fin hs
 .have hj:(i+(its.toArray.size:Int)).toNat=j:=by
   rw[seqIndex_neg (by lia) h4]at h1;rw[zAM,<-hl];exact zAe h1
  exact zHV (x:=w) pl.isList.typeIs zIT.lookup
   (wpAny_getItem_list_neg (Q:=λ r s'=>r=w/\EP X hV Z Q r s') pl.isList (by lia) (by rw[zAM]<;>lia) (by lia) (by rw[hj];simpa using ew) ⟨rfl,fin⟩) hs
def aLj:IxR X (aMx X.K):=by
 intro value slice hV s Z H x y v u Q I rx ry h hs;obtain⟨p,xs,i,z,rfl,rfl,hq,he,q⟩:=h;cases rx;obtain⟨t,rfl⟩:=ry;obtain⟨its,r,pl,hz⟩:=I.tuple hq;obtain⟨j,h1,h2,h3,h4,h5⟩:=z9 he;obtain⟨w,ew,rw'⟩:=r.get h2;have hl:=r.length;have hn:=vD;have fin:EP X hV Z Q w s:=⟨z,H,I,rw',q⟩;exact zHV (x:=w) pl.typeIs slot_tuple_getitem.lookup
  (getItem_tuple (j:=j) (Q:=λ r s'=>r=w/\EP X hV Z Q r s') pl (by lia) (by lia) (by rw[zAM,<-hl];exact h1) (by simpa using ew) ⟨rfl,fin⟩) hs
def aLk:IxR X aMy:=by
 intro value slice hV s Z H x y v u Q I rx ry h hs;obtain⟨z,i,c,rfl,rfl,hz,he,q⟩:=h;obtain⟨t,rfl⟩:=rx;obtain⟨t',rfl⟩:=ry;obtain⟨j,h1,h2,h3,h4,h5⟩:=z9 he;have hl:z.cps.toList.length=z.length:=by simp[Str.length]
 rw[hl]at h1 h4 h5;have hn:=vD;exact tail_any (typeIs_str s z t) slot_str_getitem.lookup (getItem_str (c:=c) (by
  have e1:decide (i < -(2^63:Int))=false:=decide_eq_false (by lia);have e2:decide (i ≥ 2^63)=false:=decide_eq_false (by lia);rw[e1,e2,Bool.or_false]) (by rw[h1];simpa using h2) ⟨.str ⟨#[c]⟩,H,I.tok _,⟨_,rfl⟩,q⟩) hs
def rIx(K:zAA):R2:=λ x y H Q=>aKn K x y H Q\/aMx K x y H Q\/aMy x y H Q
def aLl:IxR X (rIx X.K):=zL.or (aLj.or aLk)
def yN(lo hi:Option Int)(n:Nat):(zD8 lo hi none n).1=((HT.sIx n 0 lo:Nat):Int)/\(zD8 lo hi none n).2.1=((HT.sIx n n hi:Nat):Int)/\(zD8 lo hi none n).2.2=1:=by
 refine⟨?_,?_,rfl⟩
 .cases lo with
  |none=>simp[zD8,HT.sIx]
  |some i=>
   simp only[zD8,HT.sIx,zHA,show(1:Int)>0 by decide,if_true];by_cases h:i<0
   .simp only[h,if_true]<;>lia
   .simp only[h,if_false]<;>lia
 .cases hi with
  |none=>simp[zD8,HT.sIx]
  |some i=>
   simp only[zD8,HT.sIx,zHA,show(1:Int)>0 by decide,if_true];by_cases h:i<0
   .simp only[h,if_true]<;>lia
   .simp only[h,if_false]<;>lia
def wG(its:List Value)(lo hi:Option Int):slicePick its.toArray lo hi none=((its.drop (HT.sIx its.length 0 lo)).take (HT.sIx its.length its.length hi-HT.sIx its.length 0 lo)).toArray:=by
 obtain⟨h1,h2,h3⟩:=yN lo hi its.toArray.size;unfold slicePick;rw[h1,h2,h3];simp only[sliceRange_one,pick_run,zAM]<;>rfl
def aMu(K:zAA):V->Option Int->Option Int->Hp->VK->Prop:=λ x lo hi H Q=>∃a xs,x= .ref a/\SqL K H a xs/\∀p,H p=none->Q (.ref p) (upd H p (.lst (vh xs lo hi)))
def aH9:SlR X (aMu X.K):=by
 intro hV s Z H x v vl vu lo hi sl Q I rx hs pl pu h;obtain⟨a,xs,rfl,hx,q⟩:=h;cases rx;obtain⟨its,r,ht,hz⟩:=I.list hx;have hW:=r.length;refine⟨"list",_,zIT.lookup,ht.isList.typeIs,?_⟩;refine wpAny_getItem_list_slice ht.isList hs pl pu .none (by simp) ?_ (by rw[zAM]<;>lia);rw[wG,<-hW];refine⟨.ref s.heap.objs.size,_,I.laid (t':=s.toks) (o:=.lst (vh xs lo hi)) (λ b ob q=>zAI _ q) (zAP _) ?_,rfl,q _ (I.hok.fresh (zAP _))⟩;exact⟨zAh (sY xs lo hi) hz,_,0,(r.drop (HT.sIx xs.length 0 lo)).take (HT.sIx xs.length xs.length hi-HT.sIx xs.length 0 lo),zA0 _ rfl⟩
def zZ:cU X (.builtin "len") (λ xs H Q=>∃p ys,xs=[.ref p]/\(SqL X.K H p ys\/SqT X.K H p ys)/\Q (.int ys.length) H):=by
 intro hV s Z H xs us Q I r h;obtain⟨p,ys,rfl,hq,q⟩:=h;obtain⟨u,rfl,rx⟩:=vals1 r;cases rx;have hn:=vD;rcases hq with hq|hq
 .obtain⟨its,r',pl,hz⟩:=I.list hq
  have hW:=r'.length;exact Calls.call_len_list pl.isList (by simp only[zAM]<;>lia) ⟨.int ys.length,H,I.tok _,⟨s.toks+1,by rw[zAM,hW]⟩,q⟩
 .obtain⟨its,r',pl,hz⟩:=I.tuple hq
  have hW:=r'.length;exact len_tuple pl (by simp only[zAM]<;>lia) ⟨.int ys.length,H,I.tok _,⟨s.toks+1,by rw[zAM,hW]⟩,q⟩
def cU.or(h:cU X f r)(h':cU X f r'):cU X f (λ xs H Q=>r xs H Q\/r' xs H Q):=by
 intro hV s Z H xs us Q I rs q;rcases q with q|q
 .exact h hV s Z H xs us Q I rs q
 .exact h' hV s Z H xs us Q I rs q
def wU:cU X (.type "tuple") (λ xs H Q=>∃p ys,xs=[.ref p]/\((SqL X.K H p ys/\∀l,H l=none->Q (.ref l) (upd H l (.tup ys)))\/(SqT X.K H p ys/\Q (.ref p) H))):=by
 intro hV s Z H xs us Q I r h;obtain⟨p,ys,rfl,h⟩:=h;obtain⟨u,rfl,rx⟩:=vals1 r;cases rx;rcases h with ⟨hq,q⟩|⟨hq,q⟩
 .obtain⟨its,r',pl,hz⟩:=I.list hq
  have hW:=r'.length;refine call_tuple_list pl.isList (λ h' kp=>?_) (by simp only[zAM]<;>lia);have I1:Inv X hV Z H {s with heap:=h'}:=I.kept (t':=s.toks) kp;have I2:Inv X hV Z (upd H h'.objs.size (.tup ys)) {s with heap:=h'.push {cls:=.type "tuple",data:=.seq its.toArray}}:=
   I1.laid (t':=s.toks) (λ b o e=>zAI _ e) (zAP _) (show bW X.prog X.w _ _ _ (.tup ys)from⟨⟨hz,NoD.push _⟩,its,r',zFA _ _⟩)
  exact⟨.ref h'.objs.size,_,I2,rfl,q _ (I1.hok.fresh (zAP _))⟩
 .obtain⟨its,r',pl,hz⟩:=I.tuple hq
  exact call_tuple_same pl ⟨.ref p,H,I,rfl,q⟩
def tyV(K:zAA)(T:String)(x:V)(H:Hp):Prop:=match x with
 | .str _=>T="str"
 | .int _=>T="int"
 | .ref p=>(T="list"/\∃xs,SqL K H p xs)\/(T="tuple"/\∃o,K.lookup p=some o/\o.cls= .type "tuple"/\o.dict=none)\/
   (T="dict"/\((∃kvs,H p=some (.dK kvs))\/∃kvs,H p=some (.dT kvs)))\/(T="set"/\∃S n,H p=some (.set S n))
 |_=>False
def aE9(I:Inv X hV Z H s)(r:RelV x v)(ty:tyV X.K T x H):
  s.TypeIs v T/\∀a,v= .ref a->∃ob,s.heap.get? a=some ob/\ob.dict=none:=by
 cases x with
 |str z=>
  obtain⟨t,rfl⟩:=r;cases (show T="str" from ty);exact⟨typeIs_str s z t,λ _ e=>nomatch e⟩
 |int i=>
  obtain⟨t,rfl⟩:=r;cases (show T="int" from ty);exact⟨zDI s i t,λ _ e=>nomatch e⟩
 |ref p=>
  cases r;rcases ty with ⟨rfl,xs,hq⟩|⟨rfl,o,hk,hc,hd⟩|⟨rfl,hk⟩|⟨rfl,S,n,hk⟩
  .obtain⟨its,_,pl,_⟩:=I.list hq
   refine⟨pl.isList.typeIs,λ a e=>?_⟩;cases e;obtain⟨o,n,e,c,hd,_⟩:=pl;exact⟨o,e,hd⟩
  .refine⟨⟨o,I.kIn p o hk,hc⟩,λ a e=>?_⟩
   cases e;exact⟨o,I.kIn _ o hk,hd⟩
  .have z:∃o,s.heap.get? p=some o/\o.ExactDict:=by
    rcases hk with ⟨kvs,hk⟩|⟨kvs,hk⟩
    .obtain⟨_,_,_,_,o,_,_,e,ex,_⟩:=I.hok p _ hk
     exact⟨o,e,ex⟩
    .obtain⟨_,_,_,_,o,_,_,e,ex,_⟩:=I.hok p _ hk
     exact⟨o,e,ex⟩
   obtain⟨o,e,ex⟩:=z;refine⟨⟨o,e,ex.1⟩,λ a e2=>?_⟩;cases e2;exact⟨o,e,ex.2.1⟩
  .obtain⟨o,_,_,_,e,ex,_⟩:=I.hok p _ hk
   refine⟨⟨o,e,ex.1⟩,λ a e2=>?_⟩;cases e2;exact⟨o,e,ex.2.1⟩
 |_=>exact zAF ty
def aHZ(K:zAA)(T:String)(r:V->List V->Hp->VK->Prop)(to:TE):TE:=λ Z H Q=>to Z H λ x H1=>tyV K T x H1/\r x [] H1 Q
def tBM(K:zAA)(T:String)(r:V->List V->Hp->VK->Prop)(to:TE)(t:TA):TE:=λ Z H Q=>to Z H λ x H1=>tyV K T x H1/\t Z H1 λ xs H2=>r x xs H2 Q
variable{o e:Expr}{es:List Expr}{to:TE}{t:TA}{name:Str}{apos cpos:Pos}{T id:String}{r:V->List V->Hp->VK->Prop}
def aBn(pa:PlainAttrs T)(slot:Slot T name id)(hty:typeOf (.builtin id)=pure (.type "method_descriptor"))(hm:MtR X id r)(ho:PE X o to)
  (hbase:zBV o name X.env (eval o X.env)=eval o X.env:=by rfl)(hline:(apos.endLine==cpos.line)=true:=by rfl):PE X (.Call (.Attribute o name apos) [] [] cpos) (aHZ X.K T r to):=by
 intro hV s Z H Q I h;refine zHJ hbase hline (thn (ho hV s Z H _ I h) λ v s1 ⟨x,H1,I1,r1,ty,q1⟩=>?_);obtain⟨h1,h2⟩:=aE9 I1 r1 ty;exact⟨T,id,pa,slot,hty,h1,h2,zCm rfl (zGf (hm hV s1 Z H1 x [] v [] Q I1 r1 .nil q1))⟩
def ut(pa:PlainAttrs T)(slot:Slot T name id)(hty:typeOf (.builtin id)=pure (.type "method_descriptor"))(hm:MtR X id r)(ho:PE X o to)(ha:PA X (e::es) t)
  (hbase:zBV o name X.env (eval o X.env)=eval o X.env:=by rfl)
  (hfew:((zCE cpos (zAY (e::es) X.env)).all (λ x=>!x.1)&&(zEL cpos (zCl [] X.env)).all (λ x=>x.1.isSome)
   &&decide ((e::es).length+([]:List zBw).length+(if ([]:List zBw).isEmpty then 0 else 1)<30))=true:=by rfl)
  (hline:(apos.endLine==cpos.line)=true:=by rfl)(hs:zAY (e::es) X.env=(false,eval e X.env)::zAY es X.env:=by rfl)(hplain:(zCE cpos (zAY es X.env)).any (·.1)=false:=by rfl):
  PE X (.Call (.Attribute o name apos) (e::es) [] cpos) (tBM X.K T r to t):=by
 intro hV s Z H Q I h;refine wpAny_Call_method_late hbase hfew hline rfl (thn (ho hV s Z H _ I h) λ v s1 ⟨x,H1,I1,r1,ty,q1⟩=>?_);obtain⟨h1,h2⟩:=aE9 I1 r1 ty;refine⟨T,id,pa,slot,hty,h1,h2,?_⟩;have hA:=ha cpos hV s1 Z H1 _ I1 q1;rw[hs]at hA ⊢;refine zCm (by show(false||(zCE cpos (zAY es X.env)).any (·.1))=false;rw[hplain]<;>rfl) (zEH ?_);exact thn hA λ us s2 ⟨vs,H2,I2,r2,q2⟩=>hm hV s2 Z H2 x vs v us Q I2 r1 r2 q2
end
def MtM(X:Cx)(id:String)(r:V->List V->Hp->VK->Prop):Prop:=
 ∀(hV:gV) (s:zAB) (Z:St) (H:Hp) (x:V) (xs:List V) (v:Value) (us:List Value) (Q:VK),Inv X hV Z H s->RelV x v->Vals xs us->r x xs H Q->
  wpAny (model X.prog X.w) X.A (call (.builtin id) (v::us)) (EP X hV Z Q) X.xe s
def Vals.one:∀{x:V} {us:List Value},Vals [x] us->∃u,us=[u]/\RelV x u
 |_,_,.cons r .nil=>⟨_,rfl,r⟩
theorem Vals.rep(h:Vals xs us):∀k:Nat,Vals (zAO k xs).flatten (zAO k us).flatten
 |0=>.nil
 |k+1=>by
  rw[zBL,zBL,zBt,zBt];exact Vals.append h (Vals.rep h k)
theorem foldl_rep(its:List Value):∀(k:Nat) (acc:List Value),
  zGC (λ x1 x2=>x1++x2) acc.toArray (zAO k its.toArray)=(acc++(zAO k its).flatten).toArray
 |0,acc=>by simp
 |k+1,acc=>by
  have e:acc.toArray++its.toArray=(acc++its).toArray:=by simp
  have e2:(acc++its)++(zAO k its).flatten=acc++(zAO (k+1) its).flatten:=by
   rw[zBL,zBt,zCZ]
  rw[<-e2,<-foldl_rep its k (acc++its),<-e,zBL,zBu]
section
variable{X:Cx}{hV:gV}{Z:St}{H:Hp}{s:zAB}{l:Addr}{xs ys:List V}
def Inv.lset{its its':List Value}{n:Nat}{f:Array Value->Array Value}{t':Nat}(I:Inv X hV Z H s)(hH:H l=some (.lst xs))
  (e:s.heap.get? l=some {cls:=.type "list",data:=.seq its.toArray n})(hf:f its.toArray=its'.toArray)(hv:Vals ys its')(hz:ys.length<=zAK):
  Inv X hV Z (upd H l (.lst ys)) {s with heap:=s.heap.update l (Obj.mapSeq f),toks:=t'}:=by
 have q:=PySem.IsL.update e f;rw[hf]at q;refine I.write (x:=l) (e:=l) (by rw[hH];exact trivial) (.inl rfl) (λ b' u hb hu=>(Heap.get?_update_other s.heap (Obj.mapSeq f) (zC0 hb)).trans hu) ⟨_,q⟩ ?_;exact⟨hz,its',_,hv,q⟩
def Inv.lnew(I:Inv X hV Z H s)(hv:Vals ys its)(hz:ys.length<=zAK):
  Inv X hV Z (upd H s.heap.objs.size (.lst ys)) {s with heap:=s.heap.push {cls:=.type "list",data:=.seq its.toArray},toks:=t'}:=
 I.laid (λ _ _ q=>zAI _ q) (zAP _) ⟨hz,its,0,hv,zA0 _ rfl⟩
theorem Inv.fresh(I:Inv X hV Z H s):H s.heap.objs.size=none:=I.hok.fresh (zAP _)
def Inv.lstM(I:Inv X hV Z H s)(hH:H l=some (.lst xs)):xs.length<=zAK/\∃(its:List Value) (n:Nat),Vals xs its/\xs.length=its.length/\s.heap.get? l=some {cls:=.type "list",data:=.seq its.toArray n}:=by
 obtain⟨z,its,n,r,e⟩:=I.hok l _ hH;exact⟨z,its,n,r,r.length,e⟩
def aAY(h:n<=zAK):zCS n=false:=by
 unfold zCS;exact decide_eq_false (by lia)
end
section
variable{X:Cx}
def aHy:V->List V->Hp->VK->Prop:=λ x vs H Q=>∃l xs y,x= .ref l/\vs=[y]/\H l=some (.lst xs)/\xs.length<zAK/\Q .non (upd H l (.lst (xs++[y])))
def xK:MtM X "list.append" aHy:=by
 intro hV s Z H x vs v us Q I rx rv h;obtain⟨l,xs,y,rfl,rfl,hH,hz,q⟩:=h;cases rx;obtain⟨u,rfl,ru⟩:=rv.one;obtain⟨z,its,n,r,hl,e⟩:=I.lstM hH;refine zCF zCf ⟨_,e,rfl⟩ F.entry_list_append (F.args_list_append_2 _ _) (PySem.list_append l its.toArray n u (by rw[zAM];lia)) ⟨e,?_⟩;refine⟨.non,_,I.lset (its':=its++[u]) hH e (by simp) (r.append (.cons ru .nil)) ?_,rfl,q⟩;rw[zAT,zAt];lia
def aHw:V->List V->Hp->VK->Prop:=λ x vs H Q=>∃l b xs zs,x= .ref l/\vs=[.ref b]/\H l=some (.lst xs)/\H b=some (.lst zs)/\xs.length+zs.length<=zAK/\Q .non (upd H l (.lst (xs++zs)))
def aDq:MtM X "list.extend" aHw:=by
 intro hV s Z H x vs v us Q I rx rv h;obtain⟨l,b,xs,zs,rfl,rfl,hH,hB,hz,q⟩:=h;cases rx;obtain⟨u,rfl,ru⟩:=rv.one;cases ru;obtain⟨z,its,n,r,hl,e⟩:=I.lstM hH;obtain⟨z2,its2,n2,r2,hl2,e2⟩:=I.lstM hB;have hsz:its.toArray.size+its2.toArray.size<=zAK:=by rw[zAM,zAM];lia
 have aS:¬(!its.toArray.isEmpty&&zCS (its.toArray.size+its2.toArray.size))=true:=by
  rw[aAY hsz,zD3];exact zA7
 refine zCF zGX ⟨_,e,rfl⟩ F.entry_list_extend (F.args_list_extend_2 _ _)
  (AutoSeq1.list_extend_list_list_0 l its.toArray n b its2.toArray n2 aS (by rw[zAM];lia) (by lia)) ⟨e,e2,?_⟩
 refine⟨.non,_,I.lset (its':=its++its2) hH e (by simp) (r.append r2) ?_,rfl,q⟩;rw[zAT];lia
def aNy:R2:=λ x y H Q=>∃l b xs zs,x= .ref l/\y= .ref b/\H l=some (.lst xs)/\H b=some (.lst zs)/\xs.length+zs.length<=zAK/\∀p,H p=none->Q (.ref p) (upd H p (.lst (xs++zs)))
def aLW:OpR X (zB7 .Add) aNy:=by
 intro hV s Z H x y v u Q I rx ry h;obtain⟨l,b,xs,zs,rfl,rfl,hH,hB,hz,q⟩:=h;cases rx;cases ry;obtain⟨z,its,n,r,hl,e⟩:=I.lstM hH;obtain⟨z2,its2,n2,r2,hl2,e2⟩:=I.lstM hB;refine PySem.P.add_list e e2 ?_ (by rw[zAM,zAM];lia);have ea:its.toArray++its2.toArray=(its++its2).toArray:=by simp
 rw[ea];exact⟨.ref _,_,I.lnew (t':=s.toks) (r.append r2) (by rw[zAT];lia),rfl,q _ I.fresh⟩
def aMw:R2:=λ x y H Q=>∃l k xs,x= .ref l/\y= .int k/\H l=some (.lst xs)/\-(2^63)<=k/\k<2^63/\xs.length*k.toNat<=zAK/\
 ∀p,H p=none->Q (.ref p) (upd H p (.lst (zAO k.toNat xs).flatten))
def len_rep(xs:List α)(k:Nat):(zAO k xs).flatten.length=k*xs.length:=by
 induction k with
 |zero=>simp
 |succ k ih=>rw[zBL,zBt,zAT,ih,Nat.succ_mul,Nat.add_comm]
def aLL:OpR X (zB7 .Mult) aMw:=by
 intro hV s Z H x y v u Q I rx ry h;obtain⟨l,k,xs,rfl,rfl,hH,h1,h2,hz,q⟩:=h;cases rx;obtain⟨t,rfl⟩:=ry;obtain⟨z,its,n,r,hl,e⟩:=I.lstM hH;have hW:its.toArray.size*k.toNat<=zAK:=by rw[zAM,<-hl];exact hz
 have hcap:¬its.toArray.size*k.toNat>(2^63-1) / 8:=by
  have:(zAK:Nat)<=(2^63-1) / 8:=by decide
  lia
 have hfit:¬(!Builtin.List.listFitsIndex k)=true:=by
  rw[fitsIndex_both h1 h2];exact zA7
 have aS:¬zCS (its.toArray.size*k.toNat)=true:=by
  rw[aAY hW];exact zA7
 have dL:zGC (λ x1 x2=>x1++x2) #[] (zAO (if its.toArray.isEmpty=true then 0 else k.toNat) its.toArray)=(zAO k.toNat its).flatten.toArray:=by
  have f0:∀m:Nat,zGC (λ x1 x2=>x1++x2) #[] (zAO m its.toArray)=(zAO m its).flatten.toArray:=λ m=>by
   have:=foldl_rep its m []
   rw[zCh]at this;exact this
  rw[f0];cases its with
  |nil=>simp
  |cons a r'=>rw[if_neg (by simp)]
 refine zCd (T:="list") (U:="int") (by decide) ⟨_,e,rfl⟩ (λ s'=>zDI s' k t) noFill_list_mul zEU zBy repeat_list zDy.lookup
  (zCF zBy (zDI s k t) zDx (zDl _ _) (int___rmul___int_list k t l its.toArray n)
   ⟨e,rfl,⟨_,e,rfl⟩,zCF F.slot_list_mul ⟨_,e,rfl⟩ F.entry_list_mul (F.args_list_mul_2 _ _) (AutoListH.list___mul___list_int_3 l its.toArray n k t hfit hcap aS) ⟨e,?_⟩⟩)
 rw[dL];exact⟨.ref _,_,I.lnew (t':=s.toks) (r.rep k.toNat) (by rw[len_rep,zG9];exact hz),rfl,q _ I.fresh⟩
end
end L2
namespace Att
open PySem PySem.W PySem.Calls PyProof.Rows
def tO:∀(ns:List Int) (vs:List Value),WellAll P h vs (ns.map WData.int)->zBf vs ns:=by
 intro ns;induction ns with
 |nil=>
  intro vs w;rw[zEB]at w;cases w;exact .nil
 |cons n ns ih=>
  intro vs w;rw[zAE]at w;cases w with
  |cons a b=>
   cases a;exact .cons _ _ (ih _ b)
def aDb{l:OpenLaw}{n:Nat}(hn:l.most=some n){P:Params}{h:Heap}{args:List WData}{vals:List Value}
  (hpre:l.row.toRowW.claim.pre args=true)(hwl:WellAll P h vals args):
  ∃a vs ns,vals=[zAu a]/\args=[WData.list (ns.map WData.int)]/\h.get? a=some {cls:=.type "list",data:=.seq vs.toArray}/\zBf vs ns/\ns.length<=n:=by
 have hsh:WShape.hasAll [] args [.list .int]=true:=(pre_splitW hpre).1;have hc:l.pre.holds [] {args:=args}=true:=(pre_splitW hpre).2;obtain⟨d,r,rfl,h1,h2⟩:=hasAllW_cons hsh;obtain rfl:=hasAllW_nil h2;obtain⟨xs,rfl,h3⟩:=hasW_list h1;obtain⟨ns,rfl⟩:=items_int h3;have hW:ns.length<=n:=by
  unfold OpenLaw.pre at hc;have h4:(WTm.not (.lt (.lit (.int (n:Int))) (.len (.arg 0)))).holds [] {args:=[.list (ns.map .int)]}=true:=by
   have h4:=(holds_andW hc).1;rw[hn]at h4;exact h4
  have h5:=condW_of h4 (w_not (w_lt w_lit (w_len_list (w_arg rfl))));rw[zAD]at h5;refine zFC λ q=>?_
  have q':(n:Int)<((ns.length:Nat):Int):=by lia
  first
   |(rw[decide_eq_true q']at h5;exact absurd h5 (by decide))
   |(simp at h5;lia)
 cases hwl with
 |cons w1 w2=>
  cases w2;cases w1 with
  |list ho hall=>exact⟨_,_,ns,rfl,rfl,ho,tO ns _ hall,hW⟩
def aDh(l:OpenLaw)(args:List WData):l.row.toRowW.claim.post args (.bool true) args=true:=
 postW_of (r:=l.row.toRowW) (X:=(true==true))
  (show WShape.has [] (.bool true) .bool=true by first|rfl|decide|simp[WShape.has,WShape.arms,WShape.armsAll])
  (show(WTm.eq .res (.lit (.bool true))).value [] {args:=args,res:=some (.bool true),after:=args}=some (.bool (true==true))from w_eq_bool (w_res rfl) w_lit) rfl
def aBF{l:OpenLaw}{n:Nat}{q:zAS}{loose:List Str}{XP:(Str->Option Value)->Heap->Prop}{YP:World->Heap->Prop}{d:DefRec}
  (hn:l.most=some n)(hdf:d.params.defaults=[])
  (call:∀(w:World) (z5 zD:zAB) (mg mb:Str->Option Value) (fa:Addr) (o:Obj) (pm cd doc:Value) (a:Addr) (vs:List Value) (ns:List Int),
   Ground q loose [] XP w z5 mg mb zD.heap->YP w zD.heap->
   zD.heap.get? fa=some o->o.data= .func (docDef d.name d.params d.body d.scope pm cd doc)->zD.heap.CodeRec cd d.name->mg d.name=some (.ref fa)->
   zD.heap.get? a=some {cls:=.type "list",data:=.seq vs.toArray}->zBf vs ns->ns.length<=n->zD.gens=#[]->
   zCW (model l.prog w) zCV (.call (.ref fa) ⟨[.ref a],[]⟩) (λ r s'=>r= .ok (.ret (.bool true))/\OldK zD.heap s'.heap/\s'.os=zD.os/\zE3 s'.gens) zD):
  WalkO q loose XP YP l.row.toRowW d [] (λ f vs=>zHC f vs):=by
 intro w z5 zD mg mb G Y fa o pm cd doc dV kV ho hd hcd hD hmg hg args vals as hpre hlay hrd hwl hlo;obtain rfl:dV= .none:=Dflts.none hD hdf;obtain rfl:kV= .none:=Dflts.noKw hD;obtain⟨a,vs,ns,rfl,rfl,hobj,hints,hW⟩:=aDb hn hpre hwl;refine enter_call (zEa (call w z5 zD mg mb fa o pm cd doc a vs ns G Y ho (fd_plain hd) hcd hmg hobj hints hW hg) λ r s' hq=>?_);obtain⟨rfl,h2,h3,h4⟩:=hq;exact⟨.inl ⟨.bool true,.bool true,[],rfl,λ _=>rfl,.bool true,aDh l _,λ _=>⟨zDr,λ _ hm=>(nomatch hm)⟩⟩,h2,h3,h4⟩
section
variable{prog:zAS}{w:World}{A:zA8}{E:Value->zAB->Prop}{s:zAB}{K:Frag}
def make_obj(X:K.In s.heap)(hm:makesIn K C=true)(hi:findIn K (.ref C) "__init__"=some (some (.ref fI)))(hf:isFn K (.ref fI)=true)
  (h:zCW (model prog w) (A.under (.builtin "type.__call__" ⟨.ref C::rest,kw⟩)) (.call (.ref fI) ⟨.ref (s.heap.objs.size+1)::rest,kw⟩) (InitBack (s.heap.objs.size+1) R)
   {s with heap:=(s.heap.push emptyDict).push (instObj C s.heap.objs.size)}):zCW (model prog w) A (.call (.ref C) ⟨rest,kw⟩) R s:=by
 obtain⟨hh,g,d,t,os⟩:=s;exact make_core (makes_of X hm) (looks_findIn X hi) (λ self=>bind_fn X self (beq_iff_eq.mp hf)) (.inl rfl) h
def get_field(X:K.In s.heap)(I:zHS s.heap x ox C (some (dictOf es n)))(hg:plainGet K C name=true)(hh:hasDictIn K C=true)(ha:findIn K (.ref C) name=some none)
  (hl:getL name es=some (some v))(hv:handedIn v=true)(h:Q v {s with toks:=s.toks+1}):wpAny (model prog w) A (getAttr (.ref x) name expr) Q E s:=
 get_value X I (plainGet_of hg).1 (findObj_own hh ha rfl hl) hv h
def ledger(h:Heap)(L d:Addr):gV:=(zA1 h.objs.size).filterMap λ a=>if a=L\/a=d then none else(h.get? a).map λ o=>(a,o)
end
end Att
namespace L2
open PySem PySem.Spec PyProof.Rows
theorem wW:∀{vs:List Value} {ns:List Int},zBf vs ns->Vals (ns.map V.int) vs
 |_,_,.nil=>.nil
 |_,_,.cons n t h=>.cons ⟨t,rfl⟩ (wW h)
def Only(H:Hp):Prop:=∀b,H b=none\/∃o xs,H b=some (.frz o (.lst xs))
def lL(s:Stmt):zCs:=match s with
 | .FunctionDef _ a _ _ _ _ _ _ _ _=>a
 |_=>{posonlyargs:=[],args:=[],vararg:=none,kwonlyargs:=[],kw_defaults:=[],kwarg:=none,defaults:=[]}
def cN(s:Stmt):List Stmt:=match s with
 | .FunctionDef _ _ b _ _ _ _ _ _ _=>b
 |_=>[]
def aF(s:Stmt):Scope:=match s with
 | .FunctionDef _ _ _ _ _ _ sc _ _ _=>sc
 |_=>{kind:=.function,names:=[],isGenerator:=false,isCoroutine:=false}
abbrev CX0:CXT:=λ _ _ _ _ _ _=>False
abbrev E0:XK:=λ _ _ _=>False
structure Fun(K:zAA)(x qual:Str)(st:Stmt)(f:Addr)(fd:zAo):Prop where
 ex:∃(oc:Value) (od:Option Addr) (kV doc pm:Value) (an:Option Addr) (cdv ct:Value) (osl:Array (Option Value)),
  fd=zB2 x qual (lL st) (cN st) (aF st) .none kV doc pm an cdv ct/\K.lookup f=some ⟨oc,od,.func fd,osl⟩/\zCn K cdv qual=true
 kp:zBZ K (.ref f)=true
section
variable{K:zAA}
def Fun.binds{x qual:Str}{st:Stmt}{f:Addr}{fd:zAo}{ps:List Str}(F:Fun K x qual st f fd)
  (h:∀(kV doc pm:Value) (an:Option Addr) (cdv ct:Value) (us:List Value),us.length=ps.length->zHy (zB2 x qual (lL st) (cN st) (aF st) .none kV doc pm an cdv ct) ⟨us,[]⟩=pure (ps.zip us)):Binds K fd ps []:=by
 obtain⟨oc,od,kV,doc,pm,an,cdv,ct,osl,rfl,lk,hcd⟩:=F.ex;exact .all (h kV doc pm an cdv ct)
def aLv{x qual:Str}{st:Stmt}{f:Addr}{oc:Value}{od an:Option Addr}{osl:Array (Option Value)}{kV doc pm cdv ct:Value}(l:K.lookup f=some ⟨oc,od,.func (zB2 x qual (lL st) (cN st) (aF st) .none kV doc pm an cdv ct),osl⟩)
  (c:zCn K cdv qual=true)(k:zBZ K (.ref f)=true):Fun K x qual st f (zB2 x qual (lL st) (cN st) (aF st) .none kV doc pm an cdv ct):=⟨⟨oc,od,kV,doc,pm,an,cdv,ct,osl,rfl,l,c⟩,k⟩
end
def aO(H H':Hp):Prop:=∀b o,H b=some o->H' b=some o
def aO.refl(H:Hp):aO H H:=λ _ _ h=>h
def aO.trans(a:aO H H1)(b:aO H1 H2):aO H H2:=λ c o h=>b c o (a c o h)
def aO.free(e:aO H H')(h:H' l=zHu):H l=zHu:=by
 cases q:H l with
 |none=>rfl
 |some o=>
  rw[e l o q]at h;cases h
end L2
set_option maxHeartbeats 4000000
namespace HT
open PySem PyProof.Rows
def lexLe:List Int->List Int->Bool
 |[],_=>true
 |_::_,[]=>false
 |x::xs,y::ys=>if x=y then lexLe xs ys else decide (x<=y)
def aCA(x y:Int)(xs ys:List Int):lexLe (x::xs) (y::ys)=if x=y then lexLe xs ys else decide (x<=y):=rfl
def aFP(A:zA8)(s:zAB)(a:Int)(t:Tok)(c:Int)(u:Tok)(prog:zAS)(w:World)(E:Value->zAB->Prop)(Q:Value->zAB->Prop)(h:Q (.bool (decide (a<=c))) s):
  wpAny (model prog w) A (zGU .LtE (.int a t) (.int c u)) Q E s:=
 (PyProof.Rows.le_int h:wpAny (model prog w) A (zAy .LtE (.int a t) (.int c u)) Q E s)
section
open PySem.SeqAt
open PySem.AutoSeq1(wpAny_loadPart')
open PySem.MeetsSeq PySem.MeetsSeq2 PySem.MeetsSeq3
def wD(l b:Addr)(items items2:Array Value)(n n2:Nat)(dd dd2:Option Addr)(sl sl2:Array (Option Value))(ns ms:List Int)(hi:zBf items.toList ns)(hj:zBf items2.toList ms):
  Meets (zFV.«tuple.__le__» ⟨[.ref l,.ref b],[]⟩)
   (λ _ R s=>s.heap.get? l=some {cls:=.type "tuple",dict:=dd,data:=.seq items n,slots:=sl}/\s.heap.get? b=some {cls:=.type "tuple",dict:=dd2,data:=.seq items2 n2,slots:=sl2}/\
    R (.ok (.ret (.bool (lexLe ns ms)))) s):=
 .of_wp λ prog w A R s h=>by
  obtain⟨hp,g,d,tk,os⟩:=s;obtain⟨hl,hb,h⟩:=h;have f2:=zEy;have z1:items.size=ns.length:=by rw[<-hi.length];simp
  have z2:items2.size=ms.length:=by rw[<-hj.length];simp
  wp_walk using zDb hl,zDb hb,wpAny_forIn_list _ (λ rest b s'=>b.1=none/\s'=⟨hp,g,d,tk,os⟩/\∃(vs ws:List Value) (ns' ms':List Int),rest=vs.zip ws/\
   zBf vs ns'/\zBf ws ms'/\ns'.length+items2.size=ms'.length+items.size/\R (.ok (.ret (.bool (lexLe ns' ms')))) ⟨hp,g,d,tk,os⟩) _
  case turn=>
   rintro⟨y,x⟩ rest b s' ⟨hb',rfl,vs,ws,ns',ms',hz,hvi,hwi,hW,hR⟩;cases hvi with
   |nil=>rw[zHP]at hz;cases hz
   |cons a t hvi'=>
    cases hwi with
    |nil=>rw[zGx]at hz;cases hz
    |cons c u hwi'=>
     rw[zBI]at hz;injection hz with hyx hrest
     injection hyx with hy hx
     subst hy hx;rw[aCA]at hR;simp only[zA6]at hW;obtain⟨e,he,hiff⟩:=aAk A.in1 ⟨hp,g,d,tk,os⟩ a t c u;refine zAQ (he prog w _ _ ?_);cases e with
     |true=>
      rw[if_pos (hiff.mp rfl)]at hR;wp_walk;exact⟨rfl,rfl,_,_,_,_,hrest,hvi',hwi',by lia,hR⟩
     |false=>
      rw[if_neg (λ q=>absurd (hiff.mpr q) zA7)]at hR;have hri:=aFP A.in1 ⟨hp,g,d,tk,os⟩ a t c u prog w;wp_walk using hri;exact⟨_,rfl,by simpa using hR⟩
  case fin=>
   rintro⟨b1,b2⟩ s' ⟨hb',rfl,vs,ws,ns',ms',hz,hvi,hwi,hW,hR⟩;simp only at hb';subst hb';have hv:lexLe ns' ms'=decide (items.size<=items2.size):=by
    cases hvi with
    |nil=>
     simp only[zBQ]at hW;have e:lexLe [] ms'=true:=by cases ms'<;>rfl
     rw[e];exact(decide_eq_true (by lia)).symm
    |cons a t hv=>
     cases hwi with
     |nil=>
      simp only[zBQ,zA6]at hW;show false=_;exact(decide_eq_false (by lia)).symm
     |cons c u hw=>
      rw[zBI]at hz;cases hz
   rw[hv]at hR;wp_walk;exact⟨_,rfl,by simpa[zDq]using hR⟩
  case h=>
   exact⟨rfl,rfl,items.toList,items2.toList,ns,ms,rfl,hi,hj,by lia,h⟩
end
section
variable{prog:zAS}{w:World}{A:zA8}{E:Value->zAB->Prop}{s:zAB}
def aCB(hl:IsTup s.heap l items)(hb:IsTup s.heap b items2)(hi:zBf items.toList ns)(hj:zBf items2.toList ms)
  (hu:A.units<cLine)(h:Q (.bool (lexLe ns ms)) s):wpAny (model prog w) A (zAy .LtE (.ref l) (.ref b)) Q E s:=by
 obtain⟨⟨cls,dd,data,sl⟩,ho,hc,n,hd⟩:=id hl;obtain⟨⟨cls2,dd2,data2,sl2⟩,ho2,hc2,n2,hd2⟩:=id hb;simp only at hc hd hc2 hd2;subst hc hd hc2 hd2;exact zHU (op:=.LtE) ⟨_,ho,rfl⟩ ⟨_,ho2,rfl⟩ PySem.F.slot_tuple_le PySem.F.entry_tuple_le (PySem.F.args_tuple_le_2 _ _) (wD l b items items2 n n2 dd dd2 sl sl2 ns ms hi hj)
  ⟨ho,ho2,show zCU (lexLe ns ms)≠zEK/\Q (.bool (lexLe ns ms)) s from⟨(λ x=>nomatch x),h⟩⟩ hu
def aGw{ws:List Value}(ht:IsTup s.heap t #[])(hb:IsTup s.heap b ws.toArray)(h1:Q (.ref b) s):wpAny (model prog w) A (zB7 .Add (.ref t) (.ref b)) Q E s:=by
 obtain⟨⟨cls,dd,data,sl⟩,ho,hc,n,hd⟩:=id ht;obtain⟨⟨cls2,dd2,data2,sl2⟩,ho2,hc2,n2,hd2⟩:=id hb;simp only at hc hd hc2 hd2;subst hc hd hc2 hd2;exact zH6 ⟨_,ho,rfl⟩ ⟨_,ho2,rfl⟩ zGF zHF zDf zD7 (zD1 _ _)
   (tuple_addW0 t b #[] ws.toArray n n2 dd dd2 sl sl2 (by simp)) ⟨ho,ho2,h1⟩
def qL{lo hi:Option Int}(ht:IsTup s.heap t items)(hs:s.heap.IsSliceOf sl vl vu .none)(pl:zFj vl lo)(pu:zFj vu hi)
  (h1:sIx items.size 0 lo=0)(h2:sIx items.size items.size hi=items.size)
  (h:Q (.ref t) s):wpAny (model prog w) A (zEb (.ref t) (.ref sl)) Q E s:=by
 obtain⟨os,hos,hcs,hds⟩:=id hs;have hTs:s.TypeIs (.ref sl) "slice":=⟨os,hos,hcs⟩;obtain⟨ot,hot,hct,hdt⟩:=id ht;unfold zEb
 try with_reducible refine zCw ?_
 first|refine zAQ (zAi ?_)|skip
 refine zAQ (zIY ht.typeIs (by decide) ?_);refine zAQ (zEN (name:=zGg "__getitem__") ht.typeIs zBS
  (zGG zBS ht.typeIs zHl ?_ (zHx _ _)))
 show wpAny _ _ (zE0 (.ref t)>>=_) _ _ s;refine zAQ (tupleItemsOf_ ht ?_);refine zAQ (zGB hTs ?_);rw[if_pos (by decide)];refine zAQ (j6 hs pl pu ?_);have hyes:(((sIx items.size 0 lo:Nat):Int)==0&&(1:Int)==1&&(sIx items.size items.size hi-sIx items.size 0 lo)==items.size)=true:=by
  rw[h1,h2];simp
 show wpAny _ _ (if (((sIx items.size 0 lo:Nat):Int)==0&&(1:Int)==1&&(sIx items.size items.size hi-sIx items.size 0 lo)==items.size)=true then _ else _) _ _ s;rw[if_pos hyes];unfold zII;refine zAQ (zAQ (zGB ht.typeIs (zAi ?_)));rw[if_pos (by decide)];exact zAQ (wpAny_rule (zAi ⟨_,rfl,zAi h⟩))
end
end HT
namespace L2
open PySem PySem.Spec PyProof.Rows
def aIr(t T:String):Bool:=decide (t=T)||(decide (t="bool")&&decide (T="int"))
def aIm{K:zAA}(ht:t∈["NoneType","bool","int","str","list","tuple","dict"])(hT:T∈["bool","int","str","list","tuple","dict"]):
  zB9 K (.type t) (.type T)=some (aIr t T):=by
 simp only[zAN,zBl,or_false]at ht hT;rcases ht with rfl|rfl|rfl|rfl|rfl|rfl|rfl<;>rcases hT with rfl|rfl|rfl|rfl|rfl|rfl<;>kernel_rfl
def mL(t T:String)(b:Bool):Bool:=decide (t∈["NoneType","bool","int","str","list","tuple","dict"])&&decide (T∈["bool","int","str","list","tuple","dict"])&&(aIr t T==b)
def aCG{K:zAA}(h:mL t T b=true):zB9 K (.type t) (.type T)=some b:=by
 unfold mL at h;rw[zAC,zAC]at h;rw[aIm (of_decide_eq_true h.1.1) (of_decide_eq_true h.1.2),zDO h.2]
def ak(h:H p=none)(o:HO):aO H (upd H p o):=λ b u q=>by rw[aL (bH q h)];exact q
section
variable{X:Cx}
def aNw(K:zAA):List V->Hp->VK->Prop:=λ xs H Q=>∃x T t b,xs=[x,.ty T]/\rR K H x (.type t)/\mL t T b=true/\Q (.bl b) H
def jq:cU X (.builtin "isinstance") (aNw X.K):=by
 intro hV s Z H xs us Q I r h;obtain⟨x,T,t,b,rfl,ty,ok,q⟩:=h;obtain⟨u,w',rfl,r1,r2⟩:=vals2 r;obtain rfl:w'=zEG T:=r2;exact aED I r1 ty (aCG ok) λ tk=>⟨.bl b,H,I.tok tk,rfl,q⟩
def aHu(K:zAA):R2:=λ x y H Q=>∃a b ns ms,x= .ref a/\y= .ref b/\SqT K H a (ns.map V.int)/\SqT K H b (ms.map V.int)/\Q (.bl (HT.lexLe ns ms)) H
def aLT(hu:X.A.units<cLine):OpR X (zAy .LtE) (aHu X.K):=by
 intro hV s Z H x y v u Q I rx ry h;obtain⟨a,b,ns,ms,rfl,rfl,ha,hb,q⟩:=h;cases rx;cases ry;obtain⟨its,r1,p1,_⟩:=I.tuple ha;obtain⟨its2,r2,p2,_⟩:=I.tuple hb;have i1:zBf its.toArray.toList ns:=intsAre_of r1;have i2:zBf its2.toArray.toList ms:=intsAre_of r2;exact HT.aCB p1 p2 i1 i2 hu ⟨.bl (HT.lexLe ns ms),H,I,rfl,q⟩
def Inv.big'(I:Inv X hV Z H s):zBX<s.heap.objs.size:=by
 have h:zA2<s.heap.objs.size:=(I.mod.glob.keeps I.bk).lt;exact zG7 (by decide) h
def aMh:TE:=λ _ H Q=>∀p,H p=none->Q (.ref p) (upd H p (.dK []))
def aIO:PE X (.Dict [] [] pos) aMh:=λ hV s Z H Q I h=>
 wpAny_Dict_empty ⟨.ref s.heap.objs.size,_,I.laid (a:=s.heap.objs.size) (o:=.dK []) (t':=s.toks) (λ _ _ q=>zAI _ q) (zAP _)
  ⟨zAj _,beq_eq_false_iff_ne.mpr (zC0 (zAa I.big')),[],.nil,zGM s.heap⟩,rfl,h _ (I.hok.fresh (zAP _))⟩
end
def jF(l:Addr)(H H':Hp):Prop:=∀b o,b≠l->H b=some o->H' b=some o
def aO.sqt{K:zAA}(e:aO H H')(h:SqT K H a xs):SqT K H' a xs:=by
 rcases h with (h|⟨o,h⟩)|h
 .exact .inl (.inl (e _ _ h))
 .exact .inl (.inr ⟨o,e _ _ h⟩)
 .exact .inr h
inductive D where
 |non|bl (b:Bool)|int (i:Int)|str (x:Str)|tup (l:List D)|lst (l:List D)|dct
mutual
inductive Rep(H:Hp):V->D->Prop where
 |non:Rep H .non .non
 |bl (b:Bool):Rep H (.bl b) (.bl b)
 |int (i:Int):Rep H (.int i) (.int i)
 |str (x:Str):Rep H (.str x) (.str x)
 |tup {a:Addr} {xs:List V} {ds:List D} (h:H a=some (.tup xs)) (r:jH H xs ds):Rep H (.ref a) (.tup ds)
 |lst {a:Addr} {xs:List V} {ds:List D} (h:H a=some (.lst xs)) (r:jH H xs ds):Rep H (.ref a) (.lst ds)
 |dct {a:Addr} (h:H a=some (.dK [])):Rep H (.ref a) .dct
inductive jH(H:Hp):List V->List D->Prop where
 |nil:jH H [] []
 |cons {x:V} {d:D} {xs:List V} {ds:List D} (h:Rep H x d) (r:jH H xs ds):jH H (x::xs) (d::ds)
end
theorem jH.length:∀{xs:List V} {ds:List D},jH H xs ds->xs.length=ds.length
 |_,_,.nil=>rfl
 |_,_,.cons _ r=>by rw[zA6,zA6,jH.length r]
theorem jH.get:∀{xs:List V} {ds:List D} {i:Nat} {x:V},jH H xs ds->xs[i]? =some x->∃d,ds[i]? =some d/\Rep H x d
 |_,_,_,_,.nil,e=>by simp at e
 |_,_,0,_,.cons h _,e=>by simp at e;subst e;exact⟨_,rfl,h⟩
 |_,_,i+1,x,.cons _ r,e=>by
  obtain⟨d,h1,h2⟩:=jH.get (i:=i) (x:=x) r (by simpa using e);exact⟨d,by simpa using h1,h2⟩
def PE.weaken(h:PE X e t)(imp:∀Z H Q,t' Z H Q->t Z H Q):PE X e t':=λ hV s Z H Q I q=>h hV s Z H Q I (imp Z H Q q)
def OpR.weaken(h:OpR X f r)(imp:∀x y H Q,r' x y H Q->r x y H Q):OpR X f r':=λ hV s Z H x y v u Q I rx ry q=>h hV s Z H x y v u Q I rx ry (imp x y H Q q)
def cU.weaken(h:cU X f r)(imp:∀xs H Q,r' xs H Q->r xs H Q):cU X f r':=λ hV s Z H xs us Q I rx q=>h hV s Z H xs us Q I rx (imp xs H Q q)
def New(H:Hp)(o:HO)(Q:VK):Prop:=∀p H',aO H H'->H' p=some o->H p=none->Q (.ref p) H'
def New.at(n:New H o Q)(hp:H p=none):Q (.ref p) (upd H p o):=n p _ (ak hp o) aR hp
section
variable{X:Cx}{es:List Expr}{t:TA}{pos:Pos}
def aMb(t:TA):TE:=λ Z H Q=>t Z H λ xs H1=>xs.length<=zAK/\New H1 (.tup xs) Q
def aEg(t:TA):TE:=λ Z H Q=>t Z H λ xs H1=>xs.length<=zAK/\New H1 (.lst xs) Q
def aIM{x1}(h:PA X es t):PE X (.Tuple es x1 pos) (aMb t):=by
 have h':PA X es (λ Z H Q=>∃R:List V->Hp->Prop,t Z H R/\∀xs H',R xs H'->Q xs H'):=by
  intro pos hV s Z H Q I ⟨R,q,imp⟩;exact thn (h pos hV s Z H R I q) λ us s' ⟨vs,H',I',r,q'⟩=>⟨vs,H',I',r,imp _ _ q'⟩
 exact(aKw h').weaken λ Z H Q q=>⟨_,q,λ xs H' ⟨z,n⟩=>⟨z,λ p hp=>n.at hp⟩⟩
def lB(h:PA X es t):PE X (.List es pos) (aEg t):=by
 have h':PA X es (λ Z H Q=>∃R:List V->Hp->Prop,t Z H R/\∀xs H',R xs H'->Q xs H'):=by
  intro pos hV s Z H Q I ⟨R,q,imp⟩;exact thn (h pos hV s Z H R I q) λ us s' ⟨vs,H',I',r,q'⟩=>⟨vs,H',I',r,imp _ _ q'⟩
 exact(aLA h').weaken λ Z H Q q=>⟨_,q,λ xs H' ⟨z,n⟩=>⟨z,λ p hp=>n.at hp⟩⟩
def aKY:TE:=λ _ H Q=>New H (.dK []) Q
def aFj:PE X (.Dict [] [] pos) aKY:=aIO.weaken λ Z H Q n p hp=>n.at hp
def aFT:R2:=λ x y H Q=>∃l b xs zs,x= .ref l/\y= .ref b/\H l=some (.lst xs)/\H b=some (.lst zs)/\xs.length+zs.length<=zAK/\New H (.lst (xs++zs)) Q
def yp:OpR X (zB7 .Add) aFT:=aLW.weaken λ x y H Q ⟨l,b,xs,zs,e1,e2,h1,h2,z,n⟩=>⟨l,b,xs,zs,e1,e2,h1,h2,z,λ p hp=>n.at hp⟩
def qG:V->List V->Hp->VK->Prop:=λ x vs H Q=>∃l xs y,x= .ref l/\vs=[y]/\H l=some (.lst xs)/\xs.length<zAK/\∀H',jF l H H'->H' l=some (.lst (xs++[y]))->Q .non H'
def pC:MtM X "list.append" qG:=λ hV s Z H x xs v us Q I rx rv ⟨l,ys,y,e1,e2,h,z,n⟩=>
 xK hV s Z H x xs v us Q I rx rv ⟨l,ys,y,e1,e2,h,z,n _ (λ b o ne hb=>by rw[aL ne];exact hb) aR⟩
end
def aa(scope:Scope)(env:Env):List (Str×Addr):=(scope.names.filterMap λ y=>if y.2== .free then(env.cells.lookup y.1).map λ c=>(y.1,c)else none).reverse
theorem vp(env:Env):∀(names:List (Str×zD0)) (acc:List (Str×Addr)),(∀y∈names,y.2= .free->∃c,env.cells.lookup y.1=some c)->
  (forIn names acc λ(x:Str×zD0) r=>if (x.2== .free)=true then do let c <-cellOf env x.1;pure (zBY ((x.1,c)::r))else pure (zBY r):Sem (List (Str×Addr)))=
   pure ((names.filterMap λ y=>if y.2== .free then(env.cells.lookup y.1).map λ c=>(y.1,c)else none).reverse++acc)
 |[],acc,_=>rfl
 |(n,k)::r,acc,h=>by
  rw[List.forIn_cons];have ih:=λ acc'=>vp env r acc' λ y hy=>h y (zAL _ hy)
  by_cases hk:k= .free
  .subst hk
   obtain⟨c,hc⟩:=h (n,.free) zAG rfl;have hc':env.cells.lookup n=some c:=hc;simp only[beq_self_eq_true,if_true,cellOf,hc',zBd,zDp,List.reverse_cons,zCZ,zG3];exact ih _
  .have hb:(k==zBh)=false:=by simpa using hk
   simp only[hb,Bool.false_eq_true,if_false,zBd];exact ih _
def gM(h:∀y∈scope.names,y.2= .free->∃c,env.cells.lookup y.1=some c):zEe scope env=pure (aa scope env):=by
 have e:=vp env scope.names [] h;rw[zBB]at e;have e2:zEe scope env=((forIn scope.names ([]:List (Str×Addr)) λ(x:Str×zD0) r=>if (x.2== .free)=true then do let c <-cellOf env x.1;pure (zBY ((x.1,c)::r))else pure (zBY r):Sem (List (Str×Addr)))>>=λ r=>pure r):=rfl;rw[e2,e];rfl
def fC(h:(aa scope env).lookup x=some c):env.cells.lookup x=some c:=by
 have hm:=zAk h;unfold aa at hm;rw[zDm,zBo]at hm;obtain⟨y,hy,e⟩:=hm;split at e
 .cases q:env.cells.lookup y.1 with
  |none=>rw[q]at e;cases e
  |some c'=>
   rw[q]at e;have e':=zAe e;injection e' with e1 e2
   subst e1 e2;exact q
 .cases e
def qO(hx:scope.names.lookup x=some .free)(h:env.cells.lookup x=some c):(aa scope env).lookup x=some c:=by
 have hm:(x,zBh)∈scope.names:=zAk hx
 have:(x,c)∈aa scope env:=by
  unfold aa;rw[zDm,zBo];exact⟨_,hm,by simp[h]⟩
 cases q:(aa scope env).lookup x with
 |none=>
  exact absurd this (by
   intro hm'
   have:=List.lookup_eq_none_iff.mp q _ hm'
   simp at this)
 |some c'=>
  have:=fC q
  rw[h]at this;exact this.symm▸rfl
def tH(scope:Scope)(C:Addr):List (Str×Addr):=zCb (C+1) scope.names []
theorem jo:∀(names:List (Str×zD0)) (n:Nat) (acc:List (Str×Addr)),zCb n names acc=zCb n names []++acc
 |[],_,_=>rfl
 |(x,k)::r,n,acc=>by
  unfold zCb;split
  .rw[jo r (n+1) ((x,n)::acc),jo r (n+1) [(x,n)],zCZ];rfl
  .exact jo r n acc
theorem pL:∀{names:List (Str×zD0)} {n:Nat} {x:Str} {c:Addr},(x,c)∈zCb n names []->(x,zCz)∈names
 |(y,k)::r,n,x,c,h=>by
  unfold zCb at h;split at h
  .rename_i hk
   rw[jo,zAp]at h;rcases h with h|h
   .exact zAL _ (pL h)
   .have e:=zA3.mp h
    cases e;rw[zDO hk];exact zAG
  .exact zAL _ (pL h)
 |[],_,_,_,h=>by cases h
def fQ{l m:List (Str×Addr)}(h:(l++m).lookup x=some c):l.lookup x=some c\/(l.lookup x=none/\m.lookup x=some c):=by
 rw[zDY]at h;cases e:l.lookup x with
 |some c'=>rw[e]at h;exact .inl h
 |none=>rw[e]at h;exact .inr ⟨rfl,h⟩
def aCt{M:Model}{A:zA8}{E:Value->zAB->Prop}{s:zAB}{scope:Scope}{globals:Addr}{cl:List (Str×Addr)}{qual:Str}{env:Env}{Q:Env->zAB->Prop}
  (h:∀h':Heap,h'.Ns s.heap.objs.size (λ _=>none)->(∀b o,s.heap.get? b=some o->h'.get? b=some o)->CellsOk h' (s.heap.objs.size+1) (tH scope s.heap.objs.size)->
   Q {scope:=scope,locals:=s.heap.objs.size,globals:=globals,cells:=tH scope s.heap.objs.size++cl,qual:=qual,func:=none,code:=env.code,frame:=env.frame,builtins:=env.builtins} {s with heap:=h'}):
  wpAny M A (zEl scope globals cl [] qual none .none (some env)) Q E s:=by
 simp only[zEl,zGd,if_true];refine zAQ (wpAny_alloc ?_);refine zAQ (wpAny_layCells _ (λ name kind cells=>by cases hkc:kind==zCz<;>simp[hkc]) _ _ _ _ ?_);have ok:=cellsFrom_ok scope.names (s.heap.push {cls:=.type "dict",data:=.dict #[]}) (s.heap.objs.size+1) [] ⟨λ _ _ hm=>(nomatch hm),zDr⟩ (by rw[zBp];exact zAP _);rw[zBp]at ok;rw[show({s with heap:=s.heap.push {cls:=.type "dict",data:=.dict #[]}}:zAB).heap.objs.size=s.heap.objs.size+1 from zBp ..,jo];refine zAi ?_;exact h _ ((Heap.Ns.new s.heap (.type "dict")).keeps (pushCells_keeps _ _)) (λ b o e=>pushCells_keeps _ _ b o (zAI _ e)) ok
def Cx.block(X:Cx)(scope:Scope)(C:Addr)(N:List Str)(fp:List Addr)(z5:zAB)(zI:Hp):Cx:=
  {prog:=X.prog,w:=X.w,K:=X.K,mg:=X.mg,base:=X.base,A:=X.A,N:=N,z5:=z5,zI:=zI,env:=compEnvC scope (tH scope C++aa scope X.env) C X.env,outer:=X.stack,stack:=X.stack,ex:=fp,
    fn:=λ x=>scope.names.lookup x==some .cell,calm:=X.calm,pn:=[],xe:=λ _ _=>False}
structure dX(X:Cx)(scope:Scope)(N:List Str)(st:St->St)(ks:List Nat):Prop where
 kind:scope.kind= .function
 sep:∀y∈scope.names,y.2= .cell->scope.names.lookup y.1=some .cell
 loc:∀y∈scope.names,y.2= .local->scope.names.lookup y.1=some .local
 free:∀y∈scope.names,y.2= .free->X.env.kindOf y.1=some .cell\/X.env.kindOf y.1=some .free
 len:∀Z,(st Z).length=N.length
 val:∀Z (i:Nat) x v,N[i]? =some x->(st Z)[i]? =some (some v)->scope.names.lookup x=some .free/\i∉ks/\∃j:Nat,X.N[j]? =some x/\Z[j]? =some (some v)
def yg(h:(zFg scope env).names.lookup x=some .cell\/(zFg scope env).names.lookup x=some .free):scope.names.lookup x=some .free\/scope.names.lookup x=some .cell:=by
 have go:∀names:List (Str×zD0),((names.map λ(n,k)=>if (k==zBh&&env.scope.kind== .function&&env.kindOf n==some .cell)then(n,zCz)else(n,k)).lookup x=some .cell\/
   (names.map λ(n,k)=>if (k==zBh&&env.scope.kind== .function&&env.kindOf n==some .cell)then(n,zCz)else(n,k)).lookup x=some .free)->names.lookup x=some .free\/names.lookup x=some .cell:=by
  intro names;induction names with
  |nil=>intro h;simp at h
  |cons y r ih=>
   obtain⟨n,k⟩:=y;intro h;rw[zAE]at h;by_cases hx:x==n
   .rw[zAb,hx]
    show some k=some .free\/some k=some .cell;by_cases hcc:(k==zBh&&env.scope.kind== .function&&env.kindOf n==some .cell)=true
    .rw[zAC,zAC]at hcc
     rw[zDO hcc.1.1];exact .inl rfl
    .simp only[if_neg hcc,zAb,hx]at h
     exact h.elim .inr .inl
   .have hx':(x==n)=false:=by simpa using hx
    rw[zAb,hx'];refine ih ?_;by_cases hcc:(k==zBh&&env.scope.kind== .function&&env.kindOf n==some .cell)=true
    .simp only[if_pos hcc,zAb,hx']at h
     exact h
    .simp only[if_neg hcc,zAb,hx']at h
     exact h
 exact go scope.names h
def yh(h:scope.names.lookup x=some .free):(zFg scope env).names.lookup x=some .cell\/(zFg scope env).names.lookup x=some .free:=by
 have go:∀names:List (Str×zD0),names.lookup x=some .free->((names.map λ(n,k)=>if (k==zBh&&env.scope.kind== .function&&env.kindOf n==some .cell)then(n,zCz)else(n,k)).lookup x=some .cell\/
   (names.map λ(n,k)=>if (k==zBh&&env.scope.kind== .function&&env.kindOf n==some .cell)then(n,zCz)else(n,k)).lookup x=some .free):=by
  intro names;induction names with
  |nil=>intro h;simp at h
  |cons y r ih=>
   obtain⟨n,k⟩:=y;intro h;rw[zAE];by_cases hx:x==n
   .rw[zAb,hx]at h
    have hk:k= .free:=zAe h;by_cases hcc:(k==zBh&&env.scope.kind== .function&&env.kindOf n==some .cell)=true
    .simp only[if_pos hcc,zAb,hx]
     exact .inl trivial
    .simp only[if_neg hcc,zAb,hx]
     exact .inr (by rw[hk])
   .have hx':(x==n)=false:=by simpa using hx
    rw[zAb,hx']at h;by_cases hcc:(k==zBh&&env.scope.kind== .function&&env.kindOf n==some .cell)=true
    .simp only[if_pos hcc,zAb,hx']
     exact ih h
    .simp only[if_neg hcc,zAb,hx']
     exact ih h
 exact go scope.names h
section
variable{X:Cx}{hV:gV}{Z:St}{H:Hp}{s:zAB}
theorem Inv.block{st:St->St}{D C:Addr}(I:Inv X hV Z H s)(B:dX X scope N st ks)
  (hfp:∀b∈fp,lY X hV H b)(hob:∀b∈fp,∃ob,s.heap.get? b=some ob)
  (hD:s.heap.objs.size<=D)(hC:s.heap.objs.size<=C)(hDC:D≠C)(keep:∀b u,s.heap.get? b=some u->h'.get? b=some u)(hns:h'.Ns C λ _=>none)(hcs:CellsOk h' (C+1) (tH scope C))(hDo:∀c,C<c->D≠c)(kQ:bW X.prog X.w (upd H D o) h' D o):
  Inv (X.block scope C N fp s H) [] (st Z) (upd H D o) {s with heap:=h',toks:=tk}:=by
 have hHD:H D=none:=I.hok.fresh hD;have hcl:∀x c,(aa scope X.env).lookup x=some c->X.env.cells.lookup x=some c:=λ x c e=>fC e
 have hol:∀x c,(tH scope C).lookup x=some c->C<c/\h'.IsCell c none:=λ x c e=>let⟨q1,q2⟩:=hcs.empty x c (zAk e);⟨q2,q1⟩
 have hlt:∀x c,(aa scope X.env).lookup x=some c->c<s.heap.objs.size:=λ x c e=>let⟨v,ic⟩:=I.cell x c (hcl x c e);ic.lt
 have bP:∀b∈fp,b<s.heap.objs.size:=λ b hb=>by
  obtain⟨ob,e⟩:=hob b hb;exact zAW e
 refine⟨⟨I.mod,?_,I.ok.glob,I.ok.blt,hC,λ x y c e1 e2=>?_,λ x hx=>?_,λ x c hf e=>?_,I.ok.hd,I.ok.frames,.inl rfl,λ b hb=>⟨?_,λ x c e z=>?_⟩,
  I.bs,?_,λ b ob e hb=>?_,λ b hb hs=>?_,I.stack,I.stkFree⟩,rfl,I.bare,Un.laid keep hD hHD,⟨_,hns,λ i x v e1 e2 hv=>?_⟩,λ x c e=>?_,?_,λ x c e=>?_,λ p hp=>absurd (show p∈([]:gV)from hp) (by simp),I.hok.laid keep hD kQ,B.len Z,λ p hp=>absurd (show p∈([]:gV)from hp) (by simp)⟩
 .show(zFg scope X.env).kind= .function
  exact B.kind
 .rcases fQ e1 with a1|⟨_,a1⟩<;>rcases fQ e2 with a2|⟨_,a2⟩
  .exact PySem.name_of_addr hcs.apart (zAk a1) (zAk a2)
  .exact absurd (hlt y c a2) (zGI.mpr (zAh hC (zBT (hol x c a1).1)))
  .exact absurd (hlt x c a1) (zGI.mpr (zAh hC (zBT (hol y c a2).1)))
  .exact I.ok.inj x y c (hcl x c a1) (hcl y c a2)
 .show∃c,(tH scope C++aa scope X.env).lookup x=some c
  rw[zDY];cases e:(tH scope C).lookup x with
  |some c=>exact⟨c,rfl⟩
  |none=>
   rcases yg hx with hfree|hcell
   .obtain⟨c,hc⟩:=I.ok.has x (B.free (x,.free) (zAk hfree) rfl)
    exact⟨c,qO hfree hc⟩
   .obtain⟨c,hc⟩:=qQ (n:=C+1) hcell
    rw[show(tH scope C).lookup x=some c from hc]at e;cases e
 .rcases fQ e with a1|⟨a0,_⟩
  .exact zAh hC (zBT (hol x c a1).1)
  .obtain⟨c',hc'⟩:=qQ (n:=C+1) (zDO hf)
   rw[show(tH scope C).lookup x=some c' from hc']at a0;cases a0
 .exact zAa (zAR (bP b hb) hC)
 .rcases fQ e with a1|⟨_,a1⟩
  .exact absurd (bP b hb) (zGI.mpr (by rw[<-z];exact zAh hC (zBT (hol x c a1).1)))
  .exact(hfp b hb).2.2.2.2.1 x c (hcl x c a1) z
 .exact zAh I.ok.bsz I.sz
 .rcases(hfp b hb).2.2.2.1 with z|z
  .exact I.ok.noex b ob e z
  .exact absurd (zAR (zAW (I.ok.bs b ob e).1) z) (zAw _)
 .rcases zAN.mp (I.stkSub b hs)with z|z
  .exact(hfp b hb).2.1 z
  .exact(hfp b hb).2.2.1 z
 .obtain⟨hfree,_,j,f1,f2⟩:=B.val Z i x v e1 e2
  obtain⟨m,hn,hl⟩:=I.loc;have hk:=B.free (x,.free) (zAk hfree) rfl;obtain⟨u,ru,hu⟩:=hl j x v f1 f2 (hk.elim (λ z=>.inr (.inl z)) λ z=>.inr (.inr z));rcases hu with ⟨k,_⟩|⟨_,c,ec,ic⟩
  .rcases hk with z|z
   .exact absurd (k.symm.trans z) (by decide)
   .exact absurd (k.symm.trans z) (by decide)
  .have hno:(tH scope C).lookup x=none:=by
    cases e:(tH scope C).lookup x with
    |none=>rfl
    |some c'=>
     have:=B.sep _ (pL (zAk e)) rfl
     rw[hfree]at this;cases this
   refine⟨u,ru,.inr ⟨?_,c,by show(tH scope C++aa scope X.env).lookup x=some c;rw[zDY,hno];exact qO hfree ec,ic.keeps keep⟩⟩;rcases hv with z|z|z
   .have z':(zFg scope X.env).names.lookup x=some .local:=z
    rcases yh (env:=X.env) hfree with y|y
    .exact absurd (z'.symm.trans y) (by decide)
    .exact absurd (z'.symm.trans y) (by decide)
   .exact .inl z
   .exact .inr z
 .rcases fQ e with a1|⟨_,a1⟩
  .exact⟨_,(hol x c a1).2⟩
  .obtain⟨v,ic⟩:=I.cell x c (hcl x c a1)
   exact⟨v,ic.keeps keep⟩
 .show upd H D o C=none
  rw[aL (zC0 hDC)];exact I.hok.fresh hC
 .show upd H D o c=none
  rcases fQ e with a1|⟨_,a1⟩
  .rw[aL (zC0 (hDo c (hol x c a1).1))]
   exact I.hok.fresh (zAh hC (zBT (hol x c a1).1))
  .obtain⟨v,ic⟩:=I.cell x c (hcl x c a1)
   rw[aL (zAa (zAR ic.lt hD))];exact I.freeC x c (hcl x c a1)
end
section
variable{prog:zAS}{w:World}{A:zA8}{R:zEk->zAB->Prop}{s:zAB}
def zV(I:Nat->zAB->Prop)
  (turn:∀n s,I n s->wpAny (model prog w) A (zIA it) (λ r zD=>match r with
   |none=>R (.ok .next) zD
   |some v=>wpAny (model prog w) A (zCu target it v) (λ _ zD=>wpAny (model prog w) A (zDv target env v) (λ _ zS=>
     wpAny (model prog w) A (forIn ifs true λ c r=>if r=true then do let ok <-isTrue c env (eval c env);pure (zBY ok)else pure (zBY r)) (λ ok y9=>
      if ok=true then wpAny (model prog w) A (eval elt env) (λ x y3=>
       wpAny (model prog w) A (call (.builtin "list.append") [acc,x]) (λ _ s₅=>∃m,m<n/\I m s₅) (λ _ _=>False) y3) (λ _ _=>False) y9
      else∃m,m<n/\I m y9) (λ _ _=>False) zS) (λ _ _=>False) zD) (λ _ _=>False) zD) (λ _ _=>False) s)
  (n:Nat)(h:I n s):zCW (model prog w) A (.compLoop (.ListComp elt [⟨target,iter,ifs,0⟩] scope pos) 0 it acc env) R s:=by
 refine codeAny_loop rfl I (λ n s hI=>?_) n h;show wpAny _ A ((compTurn (.ListComp elt [⟨target,iter,ifs,0⟩] scope pos) 0 it acc env).onRaise (λ x=>do noteFrame x env;theTreesLotGoes x)) _ _ s;refine wpAny_noted ?_;rw[compTurn_list];refine zAQ (zEO (zAQ (zBC (turn n s hI) (λ r zD zC=>?_) λ _ _ h'=>h'.elim)));cases r with
 |none=>exact zAi zC
 |some v=>
  refine zAQ (zBC zC (λ _ zD zC=>?_) λ _ _ h'=>h'.elim);refine zAQ (zBC zC (λ _ zS y7=>zAQ (zBC y7 (λ ok y9 y0=>?_) λ _ _ h'=>h'.elim)) λ _ _ h'=>h'.elim);cases ok with
  |false=>exact zAi ⟨rfl,y0⟩
  |true=>
   exact zAQ (zAQ (zBC y0 (λ x y3 h₄=>zAQ (zBC h₄ (λ _ s₅ h₅=>zAi (zAi ⟨rfl,h₅⟩)) λ _ _ h'=>h'.elim)) λ _ _ h'=>h'.elim))
end
def qY(g:TG)(ks:List Nat):Prop:=∀v Z H (Q:St->Hp->Prop),g v Z H Q->g v Z H (λ Z' H'=>Q Z' H'/\Z'.length=Z.length/\∀k,k∉ks->Z'[k]? =Z[k]?)
def wB(g:TGs)(ks:List Nat):Prop:=∀vs Z H (Q:St->Hp->Prop),g vs Z H Q->g vs Z H (λ Z' H'=>Q Z' H'/\Z'.length=Z.length/\∀k,k∉ks->Z'[k]? =Z[k]?)
def aJC(h:i∈ks):qY (oE i) ks:=λ v Z H Q q=>⟨q,zBR,λ k hk=>zBD (λ(e:i=k)=>hk (e▸h))⟩
def aJB:wB aLu ks:=λ vs Z H Q ⟨e,q⟩=>⟨e,q,rfl,λ _ _=>rfl⟩
def aBM(g:TG):Prop:=∀v Z H (Q Q':St->Hp->Prop),(∀Z' H',Q Z' H'->Q' Z' H')->g v Z H Q->g v Z H Q'
def rT(g:TGs):Prop:=∀v Z H (Q Q':St->Hp->Prop),(∀Z' H',Q Z' H'->Q' Z' H')->g v Z H Q->g v Z H Q'
def aJE:aBM (oE i):=λ v Z H Q Q' imp q=>imp _ _ q
def aJD:rT aLu:=λ v Z H Q Q' imp ⟨e,q⟩=>⟨e,imp _ _ q⟩
def aGe(h1:aBM t)(h2:rT u):rT (aGg t u):=λ vs Z H Q Q' imp ⟨v,r,e,q⟩=>⟨v,r,e,h1 _ _ _ _ _ (λ Z' H' q'=>h2 _ _ _ _ _ imp q') q⟩
def aGb(h1:qY t ks)(m1:aBM t)(h2:wB u ks)(m2:rT u):wB (aGg t u) ks:=λ vs Z H Q ⟨v,r,e,q⟩=>
 ⟨v,r,e,m1 _ _ _ _ _ (λ Z' H' ⟨q',l',k'⟩=>m2 _ _ _ _ _ (λ Z2 H2 ⟨q2,l2,k2⟩=>⟨q2,l2.trans l',λ k hk=>(k2 k hk).trans (k' k hk)⟩) (h2 _ _ _ _ q')) (h1 _ _ _ _ q)⟩
def aLs{K:zAA}(h:wB t ks):qY (aJF K n t) ks:=λ v Z H Q ⟨a,xs,e1,e2,e3,q⟩=>⟨a,xs,e1,e2,e3,h _ _ _ _ q⟩
def aLt{K:zAA}(h:rT t):aBM (aJF K n t):=λ v Z H Q Q' imp ⟨a,xs,e1,e2,e3,q⟩=>⟨a,xs,e1,e2,e3,h _ _ _ _ _ imp q⟩
def aBJ(X:Cx)(ifs:List Expr)(t:TT):Prop:=
 ∀(hV:gV) (s:zAB) (Z:St) (H:Hp) (Q:Bool->Hp->Prop),Inv X hV Z H s->t Z H Q->
  wpAny (model X.prog X.w) X.A (forIn ifs true λ c r=>if r=true then do let ok <-isTrue c X.env (eval c X.env);pure (zBY ok)else pure (zBY r)) (TP X hV Z Q) X.xe s
def aNk:TT:=λ _ H Q=>Q true H
def aKv:aBJ X [] aNk:=λ _ _ _ H _ I h=>wpAny_tests_nil ⟨H,I,h⟩
def aKu(h:PT X c t):aBJ X [c] t:=λ hV s Z H Q I q=>wpAny_tests_one (h hV s Z H Q I q)
def tLC(wi:TI)(st:St->St)(g:TG)(tt:TT)(te:TE):TE:=λ Z H Q=>wi Z H λ J H1=>∀l,H1 l=none->∃W:Nat->Nat->List V->Hp->Prop,(∃m,W 0 m [] (upd H1 l (.lst [])))/\
 ∀i m acc H2,W i m acc H2->H2 l=some (.lst acc)/\acc.length<zAK/\((J.stop i H2/\Q (.ref l) H2)\/(J.go i H2/\∀x H3,J.yld i H2 x H3->g x (st Z) H3 λ Z4 H4=>tt Z4 H4 λ ok H5=>
  if ok=true then te Z4 H5 λ y H6=>H6 l=some (.lst acc)/\∃m',m'<m/\W (i+1) m' (acc++[y]) (upd H6 l (.lst (acc++[y])))else∃m',m'<m/\W (i+1) m' acc H5))
section
variable{X:Cx}{elt tg iter:Expr}{ifs:List Expr}{scope:Scope}{pos:Pos}{N:List Str}{st:St->St}{ks:List Nat}{wi:TI}{g:TG}{tt:TT}{te:TE}
def aA8(B:dX X scope N st ks)(hc:X.calm=true)(hg:∀C fp z5 zI,PG (X.block scope C N fp z5 zI) tg g)(hgo:qY g ks)(ht:∀C fp z5 zI,aBJ (X.block scope C N fp z5 zI) ifs tt)
  (he:∀C fp z5 zI,PE (X.block scope C N fp z5 zI) elt te){H1:Hp}{Q:VK}{RR:Value->Addr->zEk->zAB->Prop}
  (I:Inv X hV Z H1 zS)(T:Turn X.prog X.w X.K tg J fp it tn)(h0:tn 0 zS.heap)(hfp:∀b∈fp,lY X hV H1 b)
  (h:∀l,H1 l=none->∃W:Nat->Nat->List V->Hp->Prop,(∃m,W 0 m [] (upd H1 l (.lst [])))/\
   ∀i m acc H2,W i m acc H2->H2 l=some (.lst acc)/\acc.length<zAK/\((J.stop i H2/\Q (.ref l) H2)\/(J.go i H2/\∀x H3,J.yld i H2 x H3->g x (st Z) H3 λ Z4 H4=>tt Z4 H4 λ ok H5=>
    if ok=true then te Z4 H5 λ y H6=>H6 l=some (.lst acc)/\∃m',m'<m/\W (i+1) m' (acc++[y]) (upd H6 l (.lst (acc++[y])))else∃m',m'<m/\W (i+1) m' acc H5)))
  (hRR:∀D C H' s',(∃Z',Inv (X.block scope C N fp zS H1) [] Z' H' s')->zS.heap.objs.size<=C->Q (.ref D) H'->RR (.ref D) C (.ok .next) s'):
  wpAny (model X.prog X.w) X.A (newList []) (λ acc y9=>wpAny (model X.prog X.w) X.A (zEl scope X.env.globals (aa scope X.env) [] X.env.qual none .none (some X.env)) (λ cenv y3=>
   zCW (model X.prog X.w) X.A (.compStart (.ListComp elt [⟨tg,iter,ifs,0⟩] scope pos) 0 (.ref it) acc {cenv with scope:=zFg scope X.env}) (RR acc cenv.locals) y3) E y9) E zS:=by
 refine zBi (aCt λ zC y6 y8 y4=>?_);dsimp only at y6 y8 y4 ⊢;generalize hH2:zS.heap.push {cls:=.type "list",dict:=none,data:=.seq ([]:List Value).toArray}=P2 at y6 y8 y4 ⊢;have hC:P2.objs.size=zS.heap.objs.size+1:=by rw[<-hH2,zBp]
 have hDC:zS.heap.objs.size≠P2.objs.size:=by rw[hC];exact zAa (zC7 _)
 have iX:zS.heap.objs.size<=P2.objs.size:=by rw[hC];exact zFX _
 have old:∀b o,zS.heap.get? b=some o->zC.get? b=some o:=λ b o e=>y8 b o (hH2▸zAI _ e)
 have kQ:zC.get? zS.heap.objs.size=some {cls:=.type "list",dict:=none,data:=.seq ([]:List Value).toArray}:=y8 _ _ (hH2▸zA0 _ rfl);generalize hCe:P2.objs.size=C at y6 y8 y4 hDC iX hC ⊢;have hHD:H1 zS.heap.objs.size=none:=I.hok.fresh (zAP _);have I0:Inv (X.block scope C N fp zS H1) [] (st Z) (upd H1 zS.heap.objs.size (.lst [])) {zS with heap:=zC,toks:=zS.toks}:=
  I.block B hfp (λ b hb=>by obtain⟨o,e,_⟩:=T.obj 0 _ h0 b hb;exact⟨o,e⟩) (zAP _) iX hDC old y6 y4 (λ c hc=>zAa (zHQ iX hc)) ⟨zAj _,[],0,.nil,kQ⟩
 obtain⟨W,⟨m0,w0⟩,step⟩:=h _ hHD;have h01:tn 0 zC:=T.keep 0 _ _ h0 λ b _ o e=>old b o e
 have kX:∀{H':Hp},(∀b∈fp,H' b=none)->∀b∈fp,lY (X.block scope C N fp zS H1) [] H' b:=λ{H'} hn b hb=>
  ⟨hn b hb,(I0.ok.exf b hb).1,I0.ok.exfs b hb,.inl hb,λ x c e=>(I0.ok.exf b hb).2 x c e,λ p hp=>absurd (show p∈([]:gV)from hp) (by simp)⟩
 have fr0:∀b∈fp,upd H1 zS.heap.objs.size (.lst []) b=none:=λ b hb=>by
  obtain⟨o,e,_⟩:=T.obj 0 _ h0 b hb;rw[aL (zAa (zAW e))];exact(hfp b hb).1
 have qV:∀y9:zAB,y9={zS with heap:=zC,toks:=zS.toks}->
   zCW (model X.prog X.w) X.A (.compLoop (.ListComp elt [⟨tg,iter,ifs,0⟩] scope pos) 0 (.ref it) (.ref zS.heap.objs.size) (X.block scope C N fp zS H1).env) (RR (.ref zS.heap.objs.size) C) y9:=by
  rintro y9 rfl;refine zV (λ n s'=>∃i acc H2,Inv (X.block scope C N fp zS H1) [] (st Z) H2 s'/\tn i s'.heap/\(∀b∈fp,H2 b=none)/\W i n acc H2) ?_ m0 ⟨0,[],_,I0,h01,fr0,w0⟩;rintro n s3 ⟨i,acc,H2,I2,st2,fr2,w2⟩;obtain⟨hl,hz,alt⟩:=step i n acc H2 w2;rcases alt with ⟨stop,q⟩|⟨go,nxt⟩
  .refine thn (T.done (X.block scope C N fp zS H1) rfl rfl rfl hc i [] s3 (st Z) H2 _ I2 (kX fr2) st2 stop) λ r s4 ⟨hr,I4⟩=>?_
   subst hr;exact hRR _ C H2 s4 ⟨_,I4⟩ iX q
  .refine thn (T.item (X.block scope C N fp zS H1) rfl rfl rfl hc i [] s3 (st Z) H2 _ I2 (kX fr2) st2 go) λ r s4 ⟨u,hr,h4⟩=>?_
   subst hr;refine thn h4 λ _ s5 ⟨x,H5,I5,r5,y5,st5,fr5⟩=>?_
   have I5':=I5.pinned (kX fr5) (T.obj _ _ st5);refine thn (hg C fp zS H1 _ s5 (st Z) H5 x u _ I5' r5 (hgo _ _ _ _ (nxt x H5 y5))) λ _ s6 ⟨Z6,H6,I6,q6,aIh,ag6⟩=>?_
   refine thn (ht C fp zS H1 _ s6 Z6 H6 _ I6 q6) λ ok s7 ⟨H7,I7,q7⟩=>?_
   have again:∀{H9:Hp} {s9:zAB} {acc':List V},Inv (X.block scope C N fp zS H1) ([]++qx fp s5.heap) Z6 H9 s9->(∃m',m'<n/\W (i+1) m' acc' H9)->
     ∃m,m<n/\∃i acc H2,Inv (X.block scope C N fp zS H1) [] (st Z) H2 s9/\tn i s9.heap/\(∀b∈fp,H2 b=none)/\W i m acc H2:=λ{H9 s9 acc'} I9 ⟨m',hm,w9⟩=>by
    have aE:∀b∈fp,∀o,s5.heap.get? b=some o->s9.heap.get? b=some o/\H9 b=none:=λ b hb o e=>by
     have z:=I9.pin (b,o) (zA9 _ (zA9 _ (lG hb e)));exact⟨z.1,z.2.1⟩
    refine⟨m',hm,i+1,acc',H9,I9.unpinned.weak (by rw[aIh]) (λ k v e=>?_),T.keep _ _ _ st5 λ b hb o e=>(aE b hb o e).1,λ b hb=>?_,w9⟩
    .have hk:k<(st Z).length:=(zAJ.mp e).1
     have hkN:k<N.length:=by rw[<-B.len Z];exact hk
     obtain⟨_,hks,_⟩:=B.val Z k _ v (zAH hkN) e;rw[ag6 k hks];exact e
    .obtain⟨o,e,_⟩:=T.obj _ _ st5 b hb
     exact(aE b hb o e).2
   cases ok with
   |false=>
    rw[if_neg zA7]at q7 ⊢;exact again I7 q7
   |true=>
    rw[if_pos rfl]at q7 ⊢;refine thn (he C fp zS H1 _ s7 Z6 H7 _ I7 q7) λ u8 s8 ⟨y,H8,I8,r8,hl8,q8⟩=>?_
    refine thn (xK _ s8 Z6 H8 (.ref zS.heap.objs.size) [y] (.ref zS.heap.objs.size) [u8] (λ _ H9=>H9=upd H8 zS.heap.objs.size (.lst (acc++[y]))) I8 rfl (.cons r8 .nil) ⟨_,acc,y,rfl,rfl,hl8,hz,rfl⟩) λ _ s9 ⟨_,H9,I9,_,e9⟩=>?_
    subst e9;exact again I9 q8
 exact codeAny_compStart_list (qV _ rfl) (T.self X.A 0 _ _ _ h01 (qV _ rfl))
def z8(I:Inv X hV Z H1 zS)(hfp:∀b∈fp,lY X hV H1 b)(h:∃Z',Inv (X.block scope C N fp zS H1) [] Z' H' s'):Inv X hV Z H' s':=by
 obtain⟨Z',J⟩:=h;exact I.call' (ch:=fp) J.os J.base J.hok J.bare λ b hb=>⟨(hfp b hb).2.2.2.1,(hfp b hb).2.1,(hfp b hb).2.2.2.2.1,(hfp b hb).2.2.2.2.2⟩
def aND(B:dX X scope N st ks)(hc:X.calm=true)(hi:PI X tg iter wi)(hg:∀C fp z5 zI,PG (X.block scope C N fp z5 zI) tg g)(hgo:qY g ks)(ht:∀C fp z5 zI,aBJ (X.block scope C N fp z5 zI) ifs tt)
  (he:∀C fp z5 zI,PE (X.block scope C N fp z5 zI) elt te)(hs:∀x,zBO iter X.env x=pure x:=by intro _;rfl):PE X (.ListComp elt [⟨tg,iter,ifs,0⟩] scope pos) (tLC wi st g tt te):=by
 intro hV s Z H Q I h;have hcl:zEe scope X.env=pure (aa scope X.env):=gM λ y hy hk=>I.ok.has _ (B.free y hy hk)
 rw[eval_ListComp];refine zDw (use:=none) rfl hs hcl B.kind B.loc (thn (hi hV s Z H _ I h) λ v s1 h1=>thn h1 λ itv s2 h2=>?_);obtain⟨it,fp,tn,J,H2,e,I2,T,st2,f2,hq⟩:=h2;subst e;refine aA8 (RR:=λ acc C=>compPost (model X.prog X.w) X.A X.xe none (EP X hV Z Q) acc C) B hc hg hgo ht he I2 T st2 f2 hq ?_;intro D C H' s' hJ iX q;have I3:=z8 I2 f2 hJ;obtain⟨Z',J'⟩:=hJ;obtain⟨m,hn,_⟩:=id J'.loc;have hHC:H' C=none:=J'.free;refine⟨m,hn,λ h'' hs''=>⟨.ref D,H',?_,rfl,q⟩⟩;exact I3.turned (t':=s'.toks) (λ b o ne e=>(hs''.2 b ne).trans e) hHC (zCT (zAR I2.lt iX)) (.inr (zAh I2.sz iX))
  (λ x c e z=>by obtain⟨v,ic⟩:=I2.cell x c e;exact absurd (zAR ic.lt (by rw[z];exact iX)) (zAw _))
  (λ p hp z=>absurd (zAR (I2.pinL hp) (by rw[z];exact iX)) (zAw _))
def aAR(hN:X.N.Nodup)(hx1:X.N[i]? =some x)(hx2:Loc X.env.scope x)(B:dX X scope N st ks)(hc:X.calm=true)(hi:PI X tg iter wi)(hg:∀C fp z5 zI,PG (X.block scope C N fp z5 zI) tg g)(hgo:qY g ks)
  (ht:∀C fp z5 zI,aBJ (X.block scope C N fp z5 zI) ifs tt)(he:∀C fp z5 zI,PE (X.block scope C N fp z5 zI) elt te)(hsw:zCG (.ListComp elt [⟨tg,iter,ifs,0⟩] scope pos) (some (.Name x pos')) spos.line X.env=pure true)
  (hs:∀x,zBO iter X.env x=pure x:=by intro _;rfl)(hf:X.fn x=true\/X.env.scope.names.lookup x=some .local:=by first|exact .inl rfl|exact .inr rfl|assumption):
  PS X (.Assign [.Name x pos'] (.ListComp elt [⟨tg,iter,ifs,0⟩] scope pos) spos) (zz (tLC wi st g tt te) (oE i)):=by
 intro hV s Z H D I h;have hcl:zEe scope X.env=pure (aa scope X.env):=gM λ y hy hk=>I.ok.has _ (B.free y hy hk)
 rw[exec_Assign_Name_used _ _ _ _ hsw];refine zAQ (zEO (zAQ ?_));show wpAny _ _ (do let _ <-comprehension (.ListComp elt [⟨tg,iter,ifs,0⟩] scope pos) scope X.env _ (newList []) false (eval iter X.env) (some (zDv (.Name x pos') X.env))) _ _ s;refine zAQ (zBC (zDw (use:=some (zDv (.Name x pos') X.env)) (Q:=λ _ s'=>SP X hV D .next s') rfl hs hcl B.kind B.loc (thn (hi hV s Z H _ I h) λ v s1 h1=>thn h1 λ itv s2 h2=>?_)) (λ _ s' hq=>zAi (zAi hq)) λ _ _ e=>e);obtain⟨it,fp,tn,J,H2,e,I2,T,st2,f2,hq⟩:=h2;subst e;refine aA8 (Q:=λ x H1=>oE i x Z H1 D.nx) (RR:=λ acc C=>compPost (model X.prog X.w) X.A X.xe (some (zDv (.Name x pos') X.env)) (λ _ s'=>SP X hV D .next s') acc C) B hc hg hgo ht he I2 T st2 f2 hq ?_;intro DD C H' s' hJ iX q;have I3:=z8 I2 f2 hJ;obtain⟨Z',J'⟩:=hJ;obtain⟨m,hn,_⟩:=id J'.loc;have hHC:H' C=none:=J'.free;have neL:C≠X.env.locals:=zCT (zAR I2.lt iX);have neC:∀x c,X.env.cells.lookup x=some c->c≠C:=λ x c e z=>by obtain⟨v,ic⟩:=I2.cell x c e;exact absurd (zAR ic.lt (by rw[z];exact iX)) (zAw _)
 show wpAny _ _ (zDv (.Name x pos') X.env (.ref DD)) _ _ _;refine zIU ?_;refine wj I3 hN hx1 hx2 (show RelV (.ref DD) (.ref DD)from rfl) (λ s4 I4 ⟨a,hsa,ha⟩=>?_) hf;have nea:C≠a:=by
  rcases ha with z|z
  .rw[z];exact neL
  .exact zC0 (neC _ _ z)
 refine⟨m,hn.sameBut hsa nea,λ h'' hs''=>⟨_,H',?_,q⟩⟩;exact I4.turned (t':=s4.toks) (λ b o ne e=>(hs''.2 b ne).trans e) hHC neL (.inr (zAh I2.sz iX)) neC
  (λ p hp z=>absurd (zAR (I2.pinL hp) (by rw[z];exact iX)) (zAw _))
end
def CX1(P:zAS)(w:World):CXT:=λ outer H s E e s'=>∃(ea:Addr) (cls a0:Value) (B:Heap) (H':Hp),e= .ref ea/\s'.os=s.os/\zE3 s'.gens/\Un (frs outer) [] H H' s.heap s'.heap/\HOk P w H' B/\zIK B outer ea cls a0 s'.heap/\
 (∀b o,s.heap.get? b=some o->H b=none->b∉frs outer->B.get? b=some o)/\(∀b o,s.heap.get? b=some o->b∉frs outer->∃o',B.get? b=some o')/\E cls none H'
structure cj(X:Cx)(E:XK):Prop where
 stk:X.stack=X.env::X.outer
 fr:X.env.frame=some X.env.locals
 ex:X.ex=[]
 xe:X.xe=λ e s'=>wpAny (model X.prog X.w) X.A (leaving X.env e) (λ _ s''=>CX1 X.prog X.w X.outer X.zI X.z5 E e s'') (λ e' s''=>CX1 X.prog X.w X.outer X.zI X.z5 E e' s'') s'
def cj.of{K:zAA}:
  cj (tQ (CX1 P w) P w K mg base N qual scope f cd A outer z5 zI E) E:=⟨rfl,rfl,rfl,rfl⟩
section
variable{X:Cx}{E:XK}
def aGl{B h':Heap}(hX:X.ex=[])(I:Inv X hV Z H s)
  (a1:∀b o,s.heap.get? b=some o->H b=none->b∉frs X.stack->B.get? b=some o)(a2:∀b o,s.heap.get? b=some o->b∉frs X.stack->∃o',B.get? b=some o')
  (a3:B.StaysIn h')(a4:∀b o,b∈frs X.outer->s.heap.get? b=some o->H b=none->(∀vs,o.data≠.fields vs)->∃sl,h'.get? b=some {o with slots:=sl})
  (a5:∀b o,s.heap.get? b=some o->H b=none->H' b=none)(a6:∀b xs,H b=some (.tup xs)->H' b=some (.tup xs))(a7:∀b o u,H b=some (.frz o u)->H' b=some (.frz o u))(a8:∀b ps,H b=some (.tbl ps)->∃more,H' b=some (.tbl (ps++more))):
  Un (frs X.outer) [] X.zI H' X.z5.heap h'/\(∀b o,X.z5.heap.get? b=some o->X.zI b=none->b∉frs X.outer->B.get? b=some o)/\(∀b o,X.z5.heap.get? b=some o->b∉frs X.outer->∃o',B.get? b=some o'):=by
 have nx:∀b,b∉X.ex:=λ b z=>by rw[hX]at z;cases z
 have noS:∀b o,X.z5.heap.get? b=some o->b∉frs X.outer->b∉frs X.stack:=λ b o e nf hb=>by
  rcases zAN.mp (I.stkSub b hb)with z|z
  .exact absurd z (zAa (zAR (zAW e) I.ok.above))
  .exact nf z
 have bk:∀b o,X.z5.heap.get? b=some o->X.zI b=none->b∉frs X.outer->B.get? b=some o:=λ b o e n nf=>
  a1 b o (I.base.keep b o e n nf (nx b)) (I.base.free b o e n (nx b)) (noS b o e nf)
 have ba:∀b o,X.z5.heap.get? b=some o->b∉frs X.outer->∃o',B.get? b=some o':=λ b o e nf=>by
  obtain⟨o1,e1⟩:=I.base.there b o e (nx b);exact a2 b o1 e1 (noS b o e nf)
 have sl:∀b o,X.z5.heap.get? b=some o->X.zI b=none->b∈frs X.outer->∃sl,h'.get? b=some {o with slots:=sl}:=λ b o e n hb=>by
  obtain⟨sl1,e1⟩:=I.base.slot b o e n hb (nx b);obtain⟨_,o2,ho2,hnf⟩:=I.ok.funs.mem hb;rw[e]at ho2;cases ho2;obtain⟨sl2,e2⟩:=a4 b _ hb e1 (I.base.free b o e n (nx b)) hnf;exact⟨sl2,e2⟩
 refine⟨⟨λ b o e n nf _=>a3 b o (bk b o e n nf),λ b o e n hb _=>sl b o e n hb,λ b o e n _=>?_,λ b o e _=>?_,λ b xs e=>a6 b xs (I.base.tups b xs e),λ b o u e=>a7 b o u (I.base.frzs b o u e),λ b ps e=>?_⟩,bk,ba⟩
 .obtain⟨o1,e1⟩:=I.base.there b o e (nx b)
  exact a5 b o1 e1 (I.base.free b o e n (nx b))
 .by_cases hb:b∈frs X.outer
  .obtain⟨s2,e2⟩:=sl b o e (I.ok.frf b hb) hb
   exact⟨_,e2⟩
  .obtain⟨o',e'⟩:=ba b o e hb
   exact⟨o',a3 b o' e'⟩
 .obtain⟨m1,e1⟩:=I.base.tbls b ps e
  obtain⟨m2,e2⟩:=a8 b _ e1;exact⟨m1++m2,by rw[e2,zGi]⟩
def cj.pass(D:cj X E):pM (CX1 X.prog X.w) X E:=by
 intro hV Z H s e s' I h;obtain⟨ea,cls,a0,B,H',rfl,os,bare,un,hok,fly,bk,ba,hE⟩:=h;rw[D.xe];have fly':=fly;rw[D.stk]at fly';have hfr:=I.ok.frames;rw[D.stk]at hfr;refine wpAny_leaves_onW (L:=X.env.locals) hfr D.fr fly' λ h' fl up=>?_
 have a4:∀b o,b∈frs X.outer->s.heap.get? b=some o->H b=none->(∀vs,o.data≠.fields vs)->∃sl,h'.get? b=some {o with slots:=sl}:=λ b o hb e n nf=>by
  have hb':b∈frs X.stack:=by
   rw[D.stk];unfold frs;rw[zBd,D.fr];exact zAL _ hb
  obtain⟨s1,e1⟩:=un.slot b o e n hb' (λ z=>nomatch z);obtain⟨s2,e2⟩:=up b _ e1 nf;exact⟨s2,e2⟩
 obtain⟨u1,u2,u3⟩:=aGl (B:=B) (h':=h') (H':=H') D.ex I bk ba fl.1 a4 (λ b o e n=>un.free b o e n (λ z=>nomatch z)) un.tups un.frzs un.tbls;exact⟨ea,cls,a0,B,H',rfl,os.trans I.os,bare,u1,hok,fl,u2,u3,hE⟩
def cj.raise(D:cj X E){ea:Addr}(I:Inv X hV Z H s)
  (hx:Heap.MadeExcOf s.heap h1 ea cls vs)(hE:E cls none H):X.xe (.ref ea) {s with heap:=h1}:=by
 rw[D.xe];have stk:s.heap.FunFrames X.base X.stack:=I.stack;have hin:∀env∈X.stack,∀a,env.frame=some a->a∈frs X.stack:=λ env he a ha=>zBo.mpr ⟨env,he,ha⟩
 have stk2:=zFo stk hin;have hfr:=I.ok.frames;rw[D.stk]at hfr;have stk3:s.heap.FunFrames (zBb s.heap (frs X.stack)) (X.env::X.outer):=by rw[<-D.stk];exact stk2
 refine wpAny_leaves_madeW (L:=X.env.locals) (base:=zBb s.heap (frs X.stack)) hfr D.fr (λ b o q=>zDU _ q) stk3 hx λ h' t fl tup bn up=>?_
 have hok:HOk X.prog X.w H (zBb s.heap (frs X.stack)):=λ a o e=>by
  refine(I.hok a o e).stay (λ b u hb q=>zBx _ q λ hm=>?_) (λ _ z=>z) λ _ _ z=>z
  have hn:=I.stkFree b hm;rcases hb with z|z
  .rw[z,e]at hn;cases hn
  .rw[z]at hn;cases hn
 obtain⟨u1,u2,u3⟩:=aGl (B:=zBb s.heap (frs X.stack)) (h':=h') (H':=H) D.ex I (λ b o e n nf=>zBx _ e nf) (λ b o e nf=>⟨o,zBx _ e nf⟩) fl.1
  (λ b o hb e n nf=>up b o (hx.keeps b o e) nf) (λ b o e n=>n) (λ _ _ e=>e) (λ _ _ _ e=>e) (λ b ps e=>⟨#[],by rw[e];simp⟩)
 exact⟨ea,cls,.ref t,_,H,rfl,I.os,I.bare,u1,hok,fl,u2,u3,hE⟩
def cj.own(D:cj X E):zH3 (model X.prog X.w) X.A X.env X.xe:=λ e s' h=>by
 rw[D.xe]at h ⊢;exact wpAny_leaving_again (SameStack.refl _) h
end
section
variable{P:zAS}{w:World}{K:zAA}{mg:Str->Option Value}{base:Heap}
def Fun.okX{st:Stmt}(F:Fun K x q st f fd)(S:aZ N ps (aF st))(len:∀vs H Q E,sp vs H Q E->vs.length=ps.length)
  (hbody:∀(cdv:Value) (A:zA8) (outer:List Env) (s:zAB) (H:Hp) (vs:List V) (Q:VK) (E:XK),dj k (A.deeper (zCc q (aF st) s.heap.objs.size f cdv))->sp vs H Q E->
   ∃t,PSs (tQ (CX1 P w) P w K mg base N q (aF st) f cdv A outer s H E) (cN st) t/\t {nx:=λ _ H'=>Q .non H',rt:=Q} (start N vs) H):cg P w K mg base (CX1 P w) (k+1) f fd ps sp:=by
 obtain⟨oc,od,kV,doc,pm,an,cdv,ct,osl,rfl,lk,hcd⟩:=F.ex;exact aN1 lk hcd S len λ A outer s H vs Q E hr hsp=>hbody cdv A outer s H vs Q E hr hsp
end
def bu(K:zAA)(C:Addr):Prop:=zF4 K C [.type "ValueError",.type "Exception",.type "BaseException",.type "object"] "ValueError.__new__"=true
def qy{K:zAA}(X:K.In h)(hm:mg x=some (.ref C))(q:bu K C):OwnCls x C [.type "ValueError",.type "Exception",.type "BaseException",.type "object"] "ValueError.__new__" mg h:=by
 refine⟨hm,?_⟩;unfold bu zF4 at q;split at q
 .rename_i dd cd sl ho
  split at q
  .rename_i C' bm k0 k1 k2 k3 n k5 hm' hs
   simp only[zAC,beq_iff_eq,zCX]at q;obtain⟨⟨⟨⟨⟨rfl,rfl⟩,hdel⟩,ht⟩,hok⟩,hni⟩:=q;obtain⟨nm,bs,mro,ns,qn,hd,sn,sub,ab,col,del⟩:=cd;dsimp only at hm' hdel hok hni;subst hm' hdel;have hsl:sl=#[k0,k1,k2,k3,some (.builtin "ValueError.__new__"),k5]:=by
    obtain⟨l⟩:=sl;simp only at hs;rw[hs]
   subst hsl;exact⟨bm,ns,nm,qn,bs,hd,sn,sub,ab,col,dd,k0,k1,k2,k3,k5,_,X _ _ ho,.of_isNs (PySem.W.isNs_of_in X hok),PySem.W.nsMap_none_of_in X hok hni,PySem.W.tail_of_in X ht⟩
  .cases q
 .cases q
def aKX(C:Addr)(E:XK)(ta:TA):TS:=λ _ Z H=>ta Z H λ vs H1=>vs.length<=zAK/\E (.ref C) none H1
section
variable{X:Cx}{E:XK}
def aF2(D:cj X E)(hc:X.calm=true){rest:List Expr}(hm:X.mg x=some (.ref C))(hC:bu X.K C)(hg:Gl X x)
  (ha:PA X (yY::rest) ta)(he:zAY (yY::rest) X.env=(false,eval yY X.env)::zAY rest X.env:=by rfl)
  (hplain:(zCE cpos (zAY rest X.env)).any (·.1)=false:=by rfl)(hd:Nd x:=by decide):
  PS X (.Raise (some (.Call (.Name x np) (yY::rest) [] cpos)) none pos) (aKX C E ta):=by
 intro hV s Z H DD I h;obtain⟨tl,NN,nm,q,bs,hdct,sn,sub,ab,col,dd,k0,k1,k2,k3,k5,mN,hCo,hN,hni,T⟩:=(qy (h:=X.base) I.mod.kin hm hC).obj;have FB:=PySem.F.excBase_ValueError;refine wpAny_Raise_call_subU (C:=C) (nm:=nm) (q:=q) (N:=NN) (bs:=bs) (bm:=tl) (hdct:=hdct) (sn:=sn) (sub:=sub) (ab:=ab) (col:=col) (dd:=dd) (k0:=k0) (k1:=k1) (k2:=k2) (k3:=k3) (k5:=k5)
  FB FB.hasB FB (mN:=mN) (T.hasType FB.hasBase) (I.ok.hd hc) (by rw[he];show(false||(zCE cpos (zAY rest X.env)).any (·.1))=false;rw[hplain];rfl) hni
  (nJ I hg hm ⟨rfl,?_⟩ hd)
 have harg:=ha cpos hV s Z H _ I h;rw[he]at harg ⊢;refine zEH (zBC harg (λ vs zS y7=>?_) λ _ _ y=>y);obtain⟨xs,H2,I2,rv,hz,hE⟩:=y7;refine⟨rfl,by show vs.length<=zAK;rw[<-rv.length];exact hz,I2.bk _ _ hCo,hN.keeps I2.bk,T.keeps I2.bk,λ h' ea hx=>D.raise I2 hx hE⟩
end
section
variable{κ:Type}[DecidableEq κ]
def oV(kvs:List (κ×V))(k:κ):Option V:=(kvs.find? λ kv=>decide (kv.1=k)).map (·.2)
def putK(kvs:List (κ×V))(k:κ)(v:V):List (κ×V):=
 if (kvs.any λ kv=>decide (kv.1=k))=true then kvs.map (λ kv=>if kv.1=k then(kv.1,v)else kv)else kvs++[(k,v)]
def lZ{p:κ×V}{r:List (κ×V)}{k:κ}(e:p.1=k):oV (p::r) k=some p.2:=by simp[oV,zBe,e]
def lq{p:κ×V}{r:List (κ×V)}{k:κ}(e:¬p.1=k):oV (p::r) k=oV r k:=by simp[oV,zBe,e]
theorem zu(k:κ):∀kvs:List (κ×V),(kvs.any λ kv=>decide (kv.1=k))=(oV kvs k).isSome
 |[]=>rfl
 |p::r=>by
  rw[zDK];by_cases e:p.1=k
  .simp only[lZ e,decide_eq_true e,Bool.true_or,zGd]
  .rw[lq e,decide_eq_false e,Bool.false_or];exact zu k r
def jO(kvs:List (κ×V))(k:κ)(v:V):(putK kvs k v).length<=kvs.length+1:=by
 unfold putK;split
 .rw[zAD];omega
 .rw[zAT,zA6,zBQ];omega
def n6.isSome_eq{o:Option V}{u:Option Value}(r:n6 o u):o.isSome=u.isSome:=by
 cases o with
 |none=>cases u with
  |none=>rfl
  |some _=>exact(show False from r).elim
 |some _=>cases u with
  |none=>exact(show False from r).elim
  |some _=>rfl
def KV.val{kvs:List (κ×V)}{vs:List (κ×Value)}(r:KV kvs vs)(k:κ):n6 (oV kvs k) (zEr vs k):=by
 unfold KV at r;induction r with
 |nil=>exact zBv
 |@cons p q ps qs h t ih=>
  obtain⟨h1,h2⟩:=h;by_cases e:p.1=k
  .have e':q.1=k:=h1.symm.trans e
   have b:zEr (q::qs) k=some q.2:=by simp[zEr,zBe,e']
   rw[lZ e,b];exact h2
  .have e':¬q.1=k:=λ z=>e (h1.trans z)
   have b:zEr (q::qs) k=zEr qs k:=by simp[zEr,zBe,e']
   rw[lq e,b];exact ih
theorem KV.any{kvs:List (κ×V)}{vs:List (κ×Value)}(r:KV kvs vs)(k:κ):(kvs.any λ kv=>decide (kv.1=k))=vs.any λ kv=>decide (kv.1=k):=by
 unfold KV at r;induction r with
 |nil=>rfl
 |cons h t ih=>rw[zDK,zDK,ih,h.1]
def KV.repl{kvs:List (κ×V)}{vs:List (κ×Value)}(r:KV kvs vs)(k:κ){y:V}{u:Value}(ry:RelV y u):
  KV (kvs.map λ kv=>if kv.1=k then(kv.1,y)else kv) (vs.map λ kv=>if kv.1=k then(kv.1,u)else kv):=by
 unfold KV at r ⊢;induction r with
 |nil=>exact .nil
 |@cons p q ps qs h t ih=>
  rw[zAE,zAE];refine .cons ?_ ih;obtain⟨h1,h2⟩:=h;by_cases e:p.1=k
  .rw[if_pos e,if_pos (h1.symm.trans e)];exact⟨h1,ry⟩
  .rw[if_neg e,if_neg (λ z=>e (h1.trans z))];exact⟨h1,h2⟩
def KV.put{kvs:List (κ×V)}{vs:List (κ×Value)}(r:KV kvs vs)(k:κ){y:V}{u:Value}(ry:RelV y u):KV (putK kvs k y) (stored vs k u):=by
 unfold putK stored;rw[r.any k];by_cases e:(vs.any λ kv=>decide (kv.1=k))=true
 .rw[if_pos e,if_pos e];exact r.repl k ry
 .rw[if_neg e,if_neg e];exact zHv r ⟨rfl,ry⟩
theorem KV.length{kvs:List (κ×V)}{vs:List (κ×Value)}(r:KV kvs vs):kvs.length=vs.length:=zDd r
end
def xR{P:zAS}{w:World}{k:Key}{u:Value}(r:RelV (kV k) u):(bR P w).is k u=true:=by
 cases k with
 |inl i=>obtain⟨t,e⟩:=(show∃t,u=zCt i t from r);subst e;exact aA1 P w i t
 |inr x=>obtain⟨t,e⟩:=(show∃t,u=zGQ x t from r);subst e;exact aA0 P w x t
theorem xU{P:zAS}{w:World}:∀{ks:List Key} {us:List Value},Vals (ks.map kV) us->ItemsAre (bR P w) ks us
 |[],_,r=>by rw[zEB]at r;cases r;exact .nil
 |k::ks,_,r=>by
  rw[zAE]at r;cases r with
  |cons h t=>exact .cons (xR h) (xU t)
abbrev KT(H:Hp):List (List Key×V)->List (List Key×Addr×Value)->Prop:=zE5 λ p q=>p.1=q.1/\H q.2.1=some (.tup (p.1.map kV))/\RelV p.2 q.2.2
def KT.val{H:Hp}{kvs:List (List Key×V)}{xs:List (List Key×Addr×Value)}(r:KT H kvs xs)(k:List Key):n6 (oV kvs k) ((atKey xs k).map (·.2)):=by
 induction r with
 |nil=>exact zBv
 |@cons p q ps qs h t ih=>
  obtain⟨h1,_,h2⟩:=h;by_cases e:p.1=k
  .have e':q.1=k:=h1.symm.trans e
   have b:atKey (q::qs) k=some q.2:=by simp[atKey,zBe,e']
   rw[lZ e,b];exact h2
  .have e':¬q.1=k:=λ z=>e (h1.trans z)
   have b:atKey (q::qs) k=atKey qs k:=by simp[atKey,zBe,e']
   rw[lq e,b];exact ih
def KT.repl{H:Hp}{kvs:List (List Key×V)}{xs:List (List Key×Addr×Value)}(r:KT H kvs xs)(k:List Key){y:V}{u:Value}(ry:RelV y u):
  KT H (kvs.map λ kv=>if kv.1=k then(kv.1,y)else kv) (xs.map (putAt k u)):=by
 induction r with
 |nil=>exact .nil
 |@cons p q ps qs h t ih=>
  rw[zAE,zAE];refine .cons ?_ ih;obtain⟨h1,h2,h3⟩:=h;unfold putAt;by_cases e:p.1=k
  .rw[if_pos e,if_pos (h1.symm.trans e)];exact⟨h1,h2,ry⟩
  .rw[if_neg e,if_neg (λ z=>e (h1.trans z))];exact⟨h1,h2,h3⟩
def KT.put{H:Hp}{kvs:List (List Key×V)}{xs:List (List Key×Addr×Value)}(r:KT H kvs xs)(k:List Key){b:Addr}{y:V}{u:Value}(hb:H b=some (.tup (k.map kV)))(ry:RelV y u):
  KT H (putK kvs k y) (storedH xs k b u):=by
 have e:(kvs.any λ kv=>decide (kv.1=k))=(atKey xs k).isSome:=by
  rw[zu,(r.val k).isSome_eq,zGn]
 unfold putK storedH;rw[e];by_cases q:(atKey xs k).isSome=true
 .rw[if_pos q,if_pos q];exact r.repl k ry
 .rw[if_neg q,if_neg q];exact zHv r ⟨rfl,hb,ry⟩
def KT.keeps{H H':Hp}{kvs:List (List Key×V)}{xs:List (List Key×Addr×Value)}(r:KT H kvs xs)(ht:∀b ys,H b=some (.tup ys)->H' b=some (.tup ys)):KT H' kvs xs:=
 Paired.mapP r λ _ _ z=>⟨z.1,ht _ _ z.2.1,z.2.2⟩
section
variable{P:zAS}{w:World}{H:Hp}{h:Heap}{a:Addr}
def aJl{u:HO}(ok:HOk P w H h)(e:Rd H a u):bW P w H h a u:=e.ok ok
def aAr{kvs:List (Key×V)}(ok:HOk P w H h)(e:Rd H a (.dK kvs)):kvs.length<=zAK/\(a==zBX)=false/\∃vs,KV kvs vs/\h.DictOf (bR P w) a vs:=
 show bW P w H h a (.dK kvs)from aJl ok e
def sW{kvs:List (Key×V)}(ok:HOk P w H h)(e:H a=some (.dK kvs)):kvs.length<=zAK/\(a==zBX)=false/\∃vs,KV kvs vs/\h.DictOf (bR P w) a vs:=aAr ok (.inl e)
def zJ{ks:List Key}(ok:HOk P w H h)(e:H a=some (.tup (ks.map kV))):(zDP (bR P w)).is h ks a:=by
 obtain⟨_,its,r,o,h1,h2,n,h3⟩:=(show bW P w H h a (.tup (ks.map kV))from ok a _ e);exact⟨o,its.toArray,n,h1,h2,h3,by simpa using xU r⟩
def aAp{kvs:List (List Key×V)}(ok:HOk P w H h)(e:Rd H a (.dT kvs)):kvs.length<=zAK/\(a==zBX)=false/\
  ∃xs,KT H kvs xs/\h.DictOfH (zDP (bR P w)) a xs:=by
 obtain⟨z,y,xs,r,o,es,ep,h1,h2,h3,h4,h5⟩:=(show bW P w H h a (.dT kvs)from aJl ok e);refine⟨z,y,xs,r,o,es,ep,h1,h2,h3,h4,λ x hx=>?_,h5⟩;have all:∀{l:List (List Key×V)} {m:List (List Key×Addr×Value)},KT H l m->∀x∈m,(zDP (bR P w)).is h x.1 x.2.1:=by
  intro l m q;induction q with
  |nil=>intro x hx;exact nomatch hx
  |@cons p q ps qs hq t ih=>
   intro x hx;rcases zAN.mp hx with e|hx
   .subst e
    exact zJ ok (by rw[<-hq.1];exact hq.2.1)
   .exact ih x hx
 exact all r x hx
def aN3{kvs:List (List Key×V)}(ok:HOk P w H h)(e:H a=some (.dT kvs)):kvs.length<=zAK/\(a==zBX)=false/\
  ∃xs,KT H kvs xs/\h.DictOfH (zDP (bR P w)) a xs:=aAp ok (.inl e)
end
def tU(H:Hp)(a:Addr)(y:V)(r:Option V):Prop:=
 (∃kvs k,Rd H a (.dK kvs)/\y=kV k/\r=oV kvs k)\/∃kvs k b,Rd H a (.dT kvs)/\y= .ref b/\H b=some (.tup (k.map kV))/\r=oV kvs k
def aHP(H:Hp)(a:Addr)(y v:V)(H':Hp):Prop:=
 (∃kvs k,H a=some (.dK kvs)/\y=kV k/\kvs.length<zAK/\H'=upd H a (.dK (putK kvs k v)))\/
 ∃kvs k b,H a=some (.dT kvs)/\y= .ref b/\H b=some (.tup (k.map kV))/\kvs.length<zAK/\H'=upd H a (.dT (putK kvs k v))
theorem tU.k{H:Hp}{a:Addr}{kvs:List (Key×V)}{k:Key}(e:H a=some (.dK kvs)):tU H a (kV k) (oV kvs k):=.inl ⟨kvs,k,.inl e,rfl,rfl⟩
theorem aHP.k{H:Hp}{a:Addr}{kvs:List (Key×V)}{k:Key}{v:V}(e:H a=some (.dK kvs))(hl:kvs.length<zAK):aHP H a (kV k) v (upd H a (.dK (putK kvs k v))):=.inl ⟨kvs,k,e,rfl,hl,rfl⟩
section
variable{X:Cx}{hV:gV}{Z:St}{H:Hp}{s:zAB}{a:Addr}{y v:V}{u r:Value}{o:Option V}{A:zA8}{E:Value->zAB->Prop}
def Inv.big(I:Inv X hV Z H s):zBX<s.heap.objs.size:=by
 have h:zA2<s.heap.objs.size:=(I.mod.glob.keeps I.bk).lt;exact zG7 (by decide) h
def aEM{Q:Value->zAB->Prop}(hu:A.units+1<cLine)(I:Inv X hV Z H s)(g:tU H a y (some v))(ry:RelV y u)(h:∀w' s',Inv X hV Z H s'->RelV v w'->Q w' s'):
  wpAny (model X.prog X.w) A (zEb (.ref a) u) Q E s:=by
 rcases g with ⟨kvs,k,e,ey,l⟩|⟨kvs,k,b,e,ey,eb,l⟩
 .subst ey
  obtain⟨z,hd,vs,rel,dd⟩:=aAr I.hok e;obtain⟨w',hw,rw'⟩:=n6.some_of (v:=v) (o:=zEr vs k) (by rw[l];exact rel.val k);exact wpAny_getItem_of (xR ry) dd.mapOf hw (h w' _ (I.tok _) rw')
 .subst ey
  cases (show u=zAu b from ry);obtain⟨z,hd,xs,rel,dd⟩:=aAp I.hok e;obtain⟨w',hw,rw'⟩:=n6.some_of (v:=v) (o:=(atKey xs k).map (·.2)) (by rw[l];exact rel.val k);obtain⟨p,hp,hp2⟩:=zBc.mp hw;refine zIB (zCv hu) (zJ I.hok eb) dd hp ?_;rw[hp2];exact h w' _ (I.tok _) rw'
def uI{h':Heap}{t':Nat}{ob:HO}(I:Inv X hV Z H s)(mu:Mut (H a))(hs:zEo a s.heap h')(he:∃q,h'.get? a=some q)(new:bW X.prog X.w (upd H a ob) h' a ob):
  Inv X hV Z (upd H a ob) {s with heap:=h',toks:=t'}:=
 I.write (x:=a) (e:=a) mu (.inl rfl) (λ b q hb z=>(hs.2 b hb).trans z) he new
def aCP{P:zAS}{w:World}{H':Hp}{h':Heap}{kvs:List (Key×V)}{vs:List (Key×Value)}(z:kvs.length<=zAK)(hd:(a==zBX)=false)(rel:KV kvs vs)(dd:h'.DictOf (bR P w) a vs):
  bW P w H' h' a (.dK kvs):=⟨z,hd,vs,rel,dd⟩
def aEL{H':Hp}{Q:Unit->zAB->Prop}(hu:A.units+1<cLine)(I:Inv X hV Z H s)(g:aHP H a y v H')(ry:RelV y u)(rv:RelV v r)(h:∀s',Inv X hV Z H' s'->Q () s'):
  wpAny (model X.prog X.w) A (setItem (.ref a) u r) Q E s:=by
 rcases g with ⟨kvs,k,e,ey,l,eH⟩|⟨kvs,k,b,e,ey,eb,l,eH⟩
 .subst ey eH
  obtain⟨z,hd,vs,rel,dd⟩:=sW I.hok e;have hz:vs.length<=zAK:=by rw[<-rel.length];exact z
  have hl:(putK kvs k v).length<=zAK:=by have:=jO kvs k v;omega
  refine wpAny_setItem_pairs (hsz:=hz) (xR ry) dd λ h' dd' hs=>h _ ?_
  have he:∃q,h'.get? a=some q:=let⟨q,_,_,hq,_⟩:=dd';⟨q,hq⟩
  exact uI I (by rw[e];exact zBv) hs he (aCP hl hd (rel.put k rv) dd')
 .subst ey eH
  cases (show u=zAu b from ry);obtain⟨z,hd,xs,rel,dd⟩:=aN3 I.hok e;have hz:xs.length<=zAK:=by rw[<-zDd rel];exact z
  have hl:(putK kvs k v).length<=zAK:=by have:=jO kvs k v;omega
  refine zID (hsz:=hz) (zCv hu) (zJ I.hok eb) dd λ h' dd' hs=>h _ ?_
  obtain⟨q,es,ep,hq,h2,h3,h4,_,h5⟩:=dd';refine uI I (by rw[e];exact zBv) hs ⟨q,hq⟩ ⟨hl,hd,_,(rel.put k eb rv).keeps λ c ys ec=>?_,q,es,ep,hq,h2,h3,h4,h5⟩;rw[aL (aNM ec e (λ z=>nomatch z))];exact ec
end
def aM3(i:Expr):Prop:=∀ov iv,zGV i false ov iv=operate [ov,iv] (zEb ov iv)
def aC4{prog:zAS}{w:World}{A:zA8}{E:Value->zAB->Prop}{s:zAB}{env:Env}{value slice:Expr}{pos:Pos}{T id:String}{Q:Value->zAB->Prop}
  (hl:zEg (.type T) "__getitem__"=pure (some (.builtin id)))(hs:aM3 slice)
  (h:wpAny (model prog w) A (eval value env) (λ o zD=>wpAny (model prog w) A (eval slice env) (λ i zS=>zS.TypeIs o T/\wpAny (model prog w) A (zEb o i) Q E zS) E zD) E s):
  wpAny (model prog w) A (eval (.Subscript value slice pos) env) Q E s:=by
 refine zIO (zBC h (λ o zD zC=>zBC zC (λ i zS y7=>?_) λ _ _ x=>x) λ _ _ x=>x);obtain⟨hT,y7⟩:=y7;unfold zHG;refine zAQ ?_;rw[getitemInPython_of_ne hT.not_modules];refine zAQ (wpAny_specialOf hT hl ?_);have fin:wpAny (model prog w) A (zGV slice false o i) (λ r y9=>wpAny (model prog w) A (letTemporaryGo value o r>>=λ _=>pure r) Q E y9) E zS:=by
  rw[hs o i];exact wpAny_operating (zBC y7 (λ r y9 y0=>zAQ (wpAny_letTemporaryGo (zAi y0))) λ _ _ x=>x)
 first
  |exact zAi (zAQ fin)
  |exact zAQ (zAi (zAQ fin))
  |exact zAQ fin
def aAs{X:Cx}{hV:gV}{Z:St}{H:Hp}{s:zAB}{a:Addr}{y:V}{o:Option V}(I:Inv X hV Z H s)(g:tU H a y o):s.TypeIs (.ref a) "dict":=by
 rcases g with ⟨kvs,k,e,_,_⟩|⟨kvs,k,b,e,_,_,_⟩
 .obtain⟨_,_,vs,_,dd⟩:=aAr I.hok e
  exact dd.typeIs
 .obtain⟨_,_,xs,_,dd⟩:=aAp I.hok e
  exact dd.typeIs
def aMi(td ty:TE):TE:=λ Z H Q=>td Z H λ x H1=>ty Z H1 λ y H2=>∃a v,x= .ref a/\tU H2 a y (some v)/\Q v H2
def aJj(td ty tv:TE):TS:=λ D Z H=>tv Z H λ v H1=>td Z H1 λ x H2=>ty Z H2 λ y H3=>∃a H4,x= .ref a/\aHP H3 a y v H4/\D.nx Z H4
section
variable{X:Cx}{o i value:Expr}{pos pos':Pos}{td ty tv:TE}
def aIQ(hu:X.A.units+1<cLine)(ho:PE X o td)(hi:PE X i ty)(hs:aM3 i):PE X (.Subscript o i pos) (aMi td ty):=by
 intro hV s Z H Q I h;refine aC4 zFH.lookup hs (thn (ho hV s Z H _ I h) λ u s1 ⟨x,H1,I1,rx,q1⟩=>thn (hi hV s1 Z H1 _ I1 q1) λ iv s2 ⟨y,H2,I2,ry,a,v,ex,g,q2⟩=>?_);subst ex;obtain rfl:u=zAu a:=rx;exact⟨aAs I2 g,aEM hu I2 g ry λ w' s3 I3 rw'=>⟨v,H2,I3,rw',q2⟩⟩
def aIF(hu:X.A.units+1<cLine)(ho:PE X o td)(hi:PE X i ty)(hv:PE X value tv)(hs:zCG value (some (.Subscript o i pos')) pos.line X.env=pure false):
  PS X (.Assign [.Subscript o i pos'] value pos) (aJj td ty tv):=by
 intro hV s Z H D I h;refine wpAny_Assign_Subscript (thn (hv hV s Z H _ I h) λ r s1 ⟨v,H1,I1,rv,q1⟩=>thn (ho hV s1 Z H1 _ I1 q1) λ u s2 ⟨x,H2,I2,rx,q2⟩=>thn (hi hV s2 Z H2 _ I2 q2) λ iv s3 ⟨y,H3,I3,ry,a,H4,ex,g,q3⟩=>?_) hs;subst ex;obtain rfl:u=zAu a:=rx;exact aEL hu I3 g ry rv λ s4 I4=>⟨Z,H4,I4,q3⟩
end
end L2
namespace Att
open PySem PySem.W PySem.Calls PyProof.Rows
end Att
namespace L2
open PySem PySem.Spec PyProof.Rows
section
variable{κ:Type}[DecidableEq κ]
end
section
variable{κ:Type}[DecidableEq κ]
theorem n6.getD{o:Option V}{u:Option Value}{d:V}{d':Value}(r:n6 o u)(rd:RelV d d'):RelV (o.getD d) (u.getD d'):=by
 cases o with
 |none=>cases u with
  |none=>exact rd
  |some _=>exact(show False from r).elim
 |some _=>cases u with
  |none=>exact(show False from r).elim
  |some _=>exact r
end
section
variable{X:Cx}{hV:gV}{Z:St}{H:Hp}{s:zAB}{a:Addr}{kvs:List (Key×V)}{A:zA8}{E:Value->zAB->Prop}
def aJQ{Q:Value->zAB->Prop}(I:Inv X hV Z H s)(e:H a=some (.dK kvs))(h:∀s',Inv X hV Z (upd H a (.dK [])) s'->Q .none s'):wpAny (model X.prog X.w) A (call (.builtin "dict.clear") [.ref a]) Q E s:=by
 obtain⟨z,hd,vs,rel,dd⟩:=sW I.hok e;refine zE8 zF0 dd.typeIs PySem.F.entry_dict_clear (PySem.F.args_dict_clear_1 _) (meets_dict_clear (bR X.prog X.w) a) ⟨vs,dd,by rw[<-rel.length];exact z,λ h' dd' hs=>h _ ?_⟩;have he:∃q,h'.get? a=some q:=let⟨q,_,_,hq,_⟩:=dd';⟨q,hq⟩
 exact uI (t':=s.toks) I (by rw[e];exact zBv) hs he (aCP (zAj _) hd .nil dd')
end
structure M2(X:Cx)(o:Expr)(m:Str)(apos:Pos)(e f:Expr)(cpos:Pos):Prop where
 base:zBV o m X.env (eval o X.env)=eval o X.env
 few:((zCE cpos (zAY [e,f] X.env)).all (λ x=>!x.1)&&(zEL cpos (zCl [] X.env)).all (λ x=>x.1.isSome)
  &&decide (([e,f]:List Expr).length+([]:List zBw).length+(if ([]:List zBw).isEmpty then 0 else 1)<30))=true
 line:(apos.endLine==cpos.line)=true
 trees:zCE cpos (zAY [e,f] X.env)=[(false,eval e X.env),(false,eval f X.env)]
def IsD(H:Hp)(a:Addr):Prop:=(∃kvs,Rd H a (.dK kvs))\/∃kvs,Rd H a (.dT kvs)
def aGZ{X:Cx}{hV:gV}{Z:St}{H:Hp}{s:zAB}{a:Addr}(I:Inv X hV Z H s)(d:IsD H a):
  s.TypeIs (.ref a) "dict"/\(∀b,zAu a= .ref b->∃ob,s.heap.get? b=some ob/\ob.dict=none)/\(a==zBX)=false:=by
 rcases d with ⟨kvs,e⟩|⟨kvs,e⟩
 .obtain⟨_,hd,vs,_,dd⟩:=aAr I.hok e
  refine⟨dd.typeIs,λ b q=>?_,hd⟩;cases q;obtain⟨ob,_,_,h1,h2,_⟩:=dd;exact⟨ob,h1,h2.2.1⟩
 .obtain⟨_,hd,xs,_,dd⟩:=aAp I.hok e
  refine⟨dd.typeIs,λ b q=>?_,hd⟩;cases q;obtain⟨ob,_,_,h1,h2,_⟩:=dd;exact⟨ob,h1,h2.2.1⟩
section
variable{X:Cx}{hV:gV}{Z:St}{H:Hp}{s:zAB}{a:Addr}{y d:V}{u r:Value}{o:Option V}{A:zA8}{E:Value->zAB->Prop}
def aMG{Q:Value->zAB->Prop}(hu:A.units+1<cLine)(I:Inv X hV Z H s)(g:tU H a y o)(ry:RelV y u)(rd:RelV d r)(h:∀w' s',Inv X hV Z H s'->RelV (o.getD d) w'->Q w' s'):
  wpAny (model X.prog X.w) A (call (.builtin "dict.get") [.ref a,u,r]) Q E s:=by
 rcases g with ⟨kvs,k,e,ey,l⟩|⟨kvs,k,b,e,ey,eb,l⟩
 .subst ey
  obtain⟨z,hd,vs,rel,dd⟩:=aAr I.hok e;refine zE8 zDn dd.typeIs zFn (zFY _ _ _) (meets_dict_get_default (bR X.prog X.w) a (xR ry) hd r) ⟨_,dd.mapOf,h _ _ (I.tok _) ?_⟩;rw[l];exact(rel.val k).getD rd
 .subst ey
  cases (show u=zAu b from ry);obtain⟨z,hd,xs,rel,dd⟩:=aAp I.hok e;refine zE8 zDn dd.typeIs zFn (zFY _ _ _) (meetsH_dict_get_default (zDP (bR X.prog X.w)) a b hd r) ⟨zCv hu,k,xs,zJ I.hok eb,dd,h _ _ (I.tok _) ?_⟩;rw[l];exact(rel.val k).getD rd
end
def aEh(td ty tx:TE):TE:=λ Z H Q=>td Z H λ x H1=>∃a,x= .ref a/\IsD H1 a/\ty Z H1 λ y H2=>tx Z H2 λ z H3=>∃o,tU H3 a y o/\Q (o.getD z) H3
section
variable{X:Cx}{o e f:Expr}{apos cpos:Pos}{td ty tx:TE}
def aFk(hu:X.A.units+1<cLine)(ho:PE X o td)(he:PE X e ty)(hf:PE X f tx)(m:M2 X o "get" apos e f cpos):PE X (.Call (.Attribute o "get" apos) [e,f] [] cpos) (aEh td ty tx):=by
 intro hV s Z H Q I h;refine wpAny_Call_method m.base m.few m.line zC8 zDn PySem.F.type_dict_get (thn (ho hV s Z H _ I h) λ u s1 ⟨x,H1,I1,rx,a,ex,d,q1⟩=>?_);subst ex;obtain rfl:u=zAu a:=rx;obtain⟨t1,t2,_⟩:=aGZ I1 d;refine⟨t1,t2,?_⟩;rw[m.trees];refine zCm rfl (zEH (zE4 (thn (he hV s1 Z H1 _ I1 q1) λ iv s2 ⟨y,H2,I2,ry,q2⟩=>
  zE4 (thn (hf hV s2 Z H2 _ I2 q2) λ fv s3 ⟨z,H3,I3,rz,ov,g,q3⟩=>zGr ?_))))
 exact aMG hu I3 g ry rz λ w' s4 I4 rw'=>⟨_,H3,I4,rw',q3⟩
end
end L2
namespace Att
open PySem PySem.W PySem.Calls PyProof.Rows
end Att
namespace L2
open PySem PySem.Spec PyProof.Rows
section
variable{κ:Type}[DecidableEq κ]
end
def wQ{pos:Pos}{a b:Int}{c cv:Value}(l:List Value)(h:TriplesOk l)(e:zFJ pos (l++[rawInt a,rawInt b,c])=some cv):zFJ pos l=some cv\/cv=c:=by
 fun_induction TriplesOk l with
 |case1=>
  simp only[zCh,zFJ,rawInt]at e;split at e
  .exact .inr (zAe e).symm
  .cases e
 |case2 a' t b' u x rest ih=>
  simp only[zBj,zFJ]at e ⊢;split at e
  .rename_i hc;rw[if_pos hc];exact .inl e
  .rename_i hc;rw[if_neg hc];exact ih h e
 |case3 l h1 h2=>exact h.elim
abbrev Cx.noT(X:Cx):Cx:={X with ta:=[]}
section
variable{X:Cx}{hV:gV}{Z:St}{H:Hp}{s:zAB}
theorem Inv.noT(I:Inv X hV Z H s):Inv X.noT hV Z H s:=
 ⟨⟨I.ok.mod,I.ok.kind,I.ok.glob,I.ok.blt,I.ok.above,I.ok.inj,I.ok.has,I.ok.cab,I.ok.hd,I.ok.frames,I.ok.stk,I.ok.exf,I.ok.bs,I.ok.bsz,I.ok.noex,I.ok.exfs,I.ok.funs,I.ok.frf⟩,
  I.os,I.bare,I.base,I.loc,I.cell,I.free,I.freeC,I.pin,I.hok,I.len,λ p hp=>absurd (show p∈([]:gV)from hp) (by simp)⟩
def Inv.ofT{H':Hp}{s':zAB}(I:Inv X hV Z H s)(J:Inv X.noT hV Z H' s')(t:∀p∈X.ta,H' p.1=none/\p.1≠X.env.locals/\p.1∉X.fs/\(∀q∈X.pn++hV,q.1≠p.1)/\∃ps,s'.heap.get? p.1=some {cls:=.none,data:=.fields ps}/\TabOk X.tq H' ps):Inv X hV Z H' s':=
 ⟨I.ok,J.os,J.bare,J.base,J.loc,J.cell,J.free,J.freeC,J.pin,J.hok,J.len,t⟩
structure su(X:Cx)(P:Addr):Prop where
 ta:∃o,X.ta=[(P,o)]
 ex:P∈X.ex
 tq:X.tq=X.env.qual++"<lambda>"
 code:∃c,X.env.code= .ref c/\zHR X.base c P
 blt:X.base.BuiltinsAt X.mg P
 gne:zA2≠P
def aBK(q:Str)(params:zCs)(body:Expr)(scope:Scope)(cl:List (Str×Addr))(pm:Value)(H:Hp)(f c':Addr)(ctv:Value):Prop:=
 H f=some (.frz (zCL "<lambda>" q params body scope cl pm c' ctv) (.own f))/\∃oc,H c'=some (.frz oc (.own c'))/\aKL q oc
def aGN{P:Addr}{params:zCs}{body:Expr}{scope:Scope}{pos:Pos}{Q:Value->zAB->Prop}{E:Value->zAB->Prop}(Lx:su X P)(I:Inv X hV Z H s)(hdef:zIS params X.env=([],[]))
  (hfree:∀y∈scope.names,y.2= .free->X.env.kindOf y.1=some .cell\/X.env.kindOf y.1=some .free)
  (h:∀(f c':Addr) (ctv:Value) (H':Hp) (s':zAB),Inv X hV Z H' s'->aO H H'->aBK X.tq params body scope (aa scope X.env) ((X.mg "__name__").getD .none) H' f c' ctv->Q (.ref f) s'):
  wpAny (model X.prog X.w) X.A (eval (.Lambda params body scope pos) X.env) Q E s:=by
 obtain⟨o0,hta⟩:=Lx.ta;obtain⟨c,hcode,hC⟩:=Lx.code;obtain⟨hPn,hPL,hPf,hPp,ps,hP,ht⟩:=I.tab (P,o0) (by rw[hta];exact zAG);dsimp only at hPn hPL hPf hPp hP;have hcl:zEe scope X.env=pure (aa scope X.env):=gM λ y hy hk=>I.ok.has _ (hfree y hy hk)
 have hgs:s.heap.Ns zA2 X.mg:=by
  obtain⟨o,es,ep,e,r⟩:=I.ok.mod.glob;exact⟨o,es,ep,I.bk _ _ e,r⟩
 have hC':zHR s.heap c P:=hC.keeps I.bk;have hb:s.heap.BuiltinsAt X.mg P:=by
  obtain⟨bm,ob,b1,b2,b3,b4,b5,b6⟩:=Lx.blt;exact⟨bm,ob,b1,b2,b3,b4,I.bk _ _ b5,b6⟩
 refine PySem.W.kla_eval hdef ?_;rw[<-Lx.tq];cases hf:zFJ pos ps.toList with
 |some cv=>
  obtain⟨c',oc,rfl,hc',hco⟩:=ht.2 pos cv hf;refine PySem.W.kla_makeFunctionHit hcl I.ok.glob hgs hcode hC' hP ht.1 hf hb λ ctv h' tk k hsz=>?_
  have hfr:H h'.objs.size=none:=I.hok.fresh hsz;have sm:aO H (upd H h'.objs.size (.frz (zCL "<lambda>" X.tq params body scope (aa scope X.env) ((X.mg "__name__").getD .none) c' ctv) (.own h'.objs.size))):=λ b u e=>by rw[aL (bH e hfr)];exact e
  have I':=I.laid (h':=h'.push (zCL "<lambda>" X.tq params body scope (aa scope X.env) ((X.mg "__name__").getD .none) c' ctv)) (t':=tk) (a:=h'.objs.size) (o:=.frz (zCL "<lambda>" X.tq params body scope (aa scope X.env) ((X.mg "__name__").getD .none) c' ctv) (.own h'.objs.size)) (λ b u e=>zAI _ (k b u e)) hsz
   ⟨zA0 _ rfl,_,zA0 _ rfl⟩
  exact h _ c' ctv _ _ I' sm ⟨aR,oc,sm _ _ hc',hco⟩
 |none=>
  refine PySem.W.kla_makeFunction hcl I.ok.glob hgs hcode hC' hP ht.1 hf Lx.gne hb λ c' ctv h' tk hx hge hlt hrec htb=>?_
  obtain⟨c2,oc,vs,t,e2,hoc,hd,hv⟩:=hrec;cases e2;have hcn:H c'=none:=I.hok.fresh hge;have hfn:H h'.objs.size=none:=I.hok.fresh (zAh hge (zBT hlt));have neT:∀b u,H b=some u->b≠c':=λ b u e=>bH e hcn
  have neP:∀b u,H b=some u->b≠P:=λ b u e=>bH e hPn
  have sm:aO H (upd H c' (.frz oc (.own c'))):=λ b u e=>by rw[aL (neT b u e)];exact e
  have hcne:∀x a,X.env.cells.lookup x=some a->a≠P:=λ x a e z=>by
   obtain⟨v,o,ho,hdd⟩:=I.cell x a e;rw[z,hP]at ho;cases ho;cases hdd
  have J:Inv X.noT hV Z (upd H c' (.frz oc (.own c'))) {s with heap:=h',toks:=tk}:=by
   refine I.noT.step (g':=s.gens) (d':=s.drawn) (ch:=[P]) (λ b hb'=>?_) (λ b o _ _ hc e _=>hx b o (λ z=>hc (by simp[z])) e) (λ b o _ _ hc e _=>⟨o.slots,hx b o (λ z=>hc (by simp[z])) e⟩)
    (λ b o _ e n=>by rw[aL (zAa (zAR (zAW e) hge))];exact n) (λ b o hc e=>⟨o,hx b o (λ z=>hc (by simp[z])) e⟩)
    (λ b xs e=>sm _ _ e) (λ b o u e=>sm _ _ e) (λ b ps e=>⟨#[],by rw[sm _ _ e];simp⟩) (λ m hm=>hm.extBut hx (λ z=>hPL z.symm)) (λ b u e=>?_) I.bare
   .have e:b=P:=by simpa using hb'
    subst e;exact⟨.inl Lx.ex,hPL,λ x c e=>hcne x c e,λ p hp=>hPp p hp⟩
   .by_cases hbc:b=c'
    .subst hbc
     rw[aR]at e;cases e;exact⟨hoc,oc,hoc⟩
    .rw[aL hbc]at e
     refine(I.hok b u e).stay (λ d v hd' q=>hx d v ?_ q) (λ d q=>sm _ _ q) λ d xs q=>sm _ _ q
     rcases hd' with z|z
     .rw[z];exact neP b u e
     .exact neP d _ z
  have I':=I.ofT J λ p hp=>by
   rw[hta]at hp;have e:p=(P,o0):=by simpa using hp
   subst e;refine⟨by rw[aL (zAa (zAR (zAW hP) hge))];exact hPn,hPL,hPf,hPp,_,htb,?_⟩;refine⟨?_,λ pos2 cv e=>?_⟩
   .rw[zG5]
    exact TriplesOk_snoc _ _ _ _ ht.1
   .rw[zG5]at e
    rcases wQ _ ht.1 e with z|z
    .obtain⟨c2,oc2,z1,z2,z3⟩:=ht.2 pos2 cv z
     exact⟨c2,oc2,z1,sm _ _ z2,z3⟩
    .exact⟨c',oc,z,aR,vs,t,hd,hv⟩
  have hfr:upd H c' (.frz oc (.own c')) h'.objs.size=none:=by rw[aL (zCT hlt)];exact hfn
  have sm2:aO (upd H c' (.frz oc (.own c'))) (upd (upd H c' (.frz oc (.own c'))) h'.objs.size (.frz (zCL "<lambda>" X.tq params body scope (aa scope X.env) ((X.mg "__name__").getD .none) c' ctv) (.own h'.objs.size))):=λ b u e=>by rw[aL (bH e hfr)];exact e
  have I2:=I'.laid (h':=h'.push (zCL "<lambda>" X.tq params body scope (aa scope X.env) ((X.mg "__name__").getD .none) c' ctv)) (t':=tk) (a:=h'.objs.size) (o:=.frz (zCL "<lambda>" X.tq params body scope (aa scope X.env) ((X.mg "__name__").getD .none) c' ctv) (.own h'.objs.size)) (λ b u e=>zAI _ e) (zAP _)
   ⟨zA0 _ rfl,_,zA0 _ rfl⟩
  exact h _ c' ctv _ _ I2 (sm.trans sm2) ⟨aR,oc,sm2 _ _ aR,vs,t,hd,hv⟩
def aNr(q:Str)(params:zCs)(body:Expr)(scope:Scope)(cl:List (Str×Addr))(pm:Value):TE:=λ Z H Q=>∀f c' ctv H',aO H H'->aBK q params body scope cl pm H' f c' ctv->Q (.ref f) H'
def aLB{P:Addr}{params:zCs}{body:Expr}{scope:Scope}{pos:Pos}(Lx:su X P)(hdef:zIS params X.env=([],[]))
  (hfree:∀y∈scope.names,y.2= .free->X.env.kindOf y.1=some .cell\/X.env.kindOf y.1=some .free):PE X (.Lambda params body scope pos) (aNr X.tq params body scope (aa scope X.env) ((X.mg "__name__").getD .none)):=
 λ hV s Z H Q I h=>aGN Lx I hdef hfree λ f c' ctv H' s' I' sm l=>⟨.ref f,H',I',rfl,h f c' ctv H' sm l⟩
end
def aBX(X:Cx)(k0:Nat)(i:Nat)(E:XK):TE:=λ Z H Q=>∃f cls dd sl fd k sp,Z[i]? =some (some (.ref f))/\H f=some (.frz ⟨cls,dd,.func fd,sl⟩ (.own f))/\cg X.prog X.w X.K X.mg X.base (CX1 X.prog X.w) k f fd [] sp/\k<=k0/\Binds X.K fd [] []/\sp [] H Q E
def aFd{X:Cx}{k0 i:Nat}{y:Str}{p pos:Pos}{E:XK}(hr:dj k0 X.A)(hx:pM (CX1 X.prog X.w) X E)(hN:X.N[i]? =some y)(hv:Vis X.env.scope y)(hd:Nd y:=by decide)(hcd:(y==("__classdict__":Str))=false:=by decide):
  PE X (.Call (.Name y p) [] [] pos) (aBX X k0 i E):=by
 intro hV s Z H Q I ⟨f,cls,dd,sl,fd,k,sp,hs,hf,F,hk,hb,h⟩;have fin:wpAny (model X.prog X.w) X.A (eval (.Name y p) X.env) (λ v s'=>v= .ref f/\s'=s) X.xe s:=by
  obtain⟨mm,hnn,hl⟩:=I.loc;obtain⟨u,ru,l⟩:=hl i y _ hN hs hv;cases ru;rcases l with ⟨hk2,hm⟩|⟨hk2,c,hc,hcell⟩
  .exact zEh (zHc I.ok.kind hk2 hnn hm ⟨rfl,rfl⟩) hd
  .rcases hk2 with hk2|hk2
   .exact zEh (zHn I.ok.kind hk2 hc hcell ⟨rfl,rfl⟩) hd
   .exact zEh (zHo I.ok.kind hk2 hc hcell ⟨rfl,rfl⟩ hcd) hd
 refine zBa (thn fin λ v s' ⟨ev,es'⟩=>?_);subst ev es';obtain⟨ho,_⟩:s'.heap.get? f=some _/\_:=I.hok f _ hf;have KX:PySem.W.Frag.In [(f,⟨cls,dd,.func fd,sl⟩)] s'.heap:=λ b o e=>by
  rw[zAb]at e;by_cases hbf:b=f
  .subst hbf
   simp only[beq_self_eq_true]at e;cases e;exact ho
  .simp only[beq_eq_false_iff_ne.mpr hbf]at e
   cases e
 exact PySem.W.callWith_K0 (K:=[(f,⟨cls,dd,.func fd,sl⟩)]) KX (by simp[zBZ,zAb]) (aFE (us:=[]) F (hr.mono hk) hb .nil hx I .nil h)
def cxL(P:zAS)(w:World)(K:zAA)(mg:Str->Option Value)(base:Heap)(N:List Str)(q:Str)(scope:Scope)(cl:List (Str×Addr))(f:Addr)(cd:Value)(A:zA8)(outer:List Env)(s:zAB)(H:Hp)(E:XK):Cx where
 prog:=P
 w:=w
 K:=K
 mg:=mg
 base:=base
 A:=A.deeper (zC4 q scope s.heap.objs.size f cd cl)
 N:=N
 z5:=s
 zI:=H
 env:=zC4 q scope s.heap.objs.size f cd cl
 outer:=outer
 stack:=zC4 q scope s.heap.objs.size f cd cl::outer
 ex:=[]
 calm:=true
 fn:=λ _=>false
 pn:=[]
 xe:=λ e s'=>wpAny (model P w) (A.deeper (zC4 q scope s.heap.objs.size f cd cl)) (leaving (zC4 q scope s.heap.objs.size f cd cl) e) (λ _ s''=>CX1 P w outer H s E e s'') (λ e' s''=>CX1 P w outer H s E e' s'') s'
def cj.ofL{P:zAS}{w:World}{K:zAA}{mg:Str->Option Value}{base:Heap}{N:List Str}{q:Str}{scope:Scope}{cl:List (Str×Addr)}{f:Addr}{cd:Value}{A:zA8}{outer:List Env}{s:zAB}{H:Hp}{E:XK}:
  cj (cxL P w K mg base N q scope cl f cd A outer s H E) E:=⟨rfl,rfl,rfl,rfl⟩
structure wA(scope:Scope):Prop where
 kind:scope.kind= .function
 co:scope.isCoroutine=false
 gen:scope.isGenerator=false
 cell:∀y∈scope.names,y.2≠.cell
 loc:∀y∈scope.names,y.2≠.local
structure aHQ(base:Heap)(N:List Str)(Z:St)(scope:Scope)(cl:List (Str×Addr)):Prop where
 inj:∀x y c,cl.lookup x=some c->cl.lookup y=some c->x=y
 has:∀x,scope.names.lookup x=some .free->∃c,cl.lookup x=some c
 cell:∀x c,cl.lookup x=some c->∃v,base.IsCell c v
 val:∀(i:Nat) x v,N[i]? =some x->Z[i]? =some (some v)->scope.names.lookup x=some .free->∃c u,cl.lookup x=some c/\RelV v u/\base.IsCell c (some u)
 len:Z.length=N.length
def aL9{P:zAS}{w:World}{K:zAA}{mg:Str->Option Value}{base:Heap}{N:List Str}{q:Str}{params:zCs}{scope:Scope}{cl:List (Str×Addr)}{f c':Addr}{pm ctv:Value}{body:Expr}{k:Nat}{Z:St}{H1:Hp}{sp:Sp}
  (la:aBK q params body scope cl pm H1 f c' ctv)(S:wA scope)(cp:aHQ base N Z scope cl)
  (len:∀vs H Q E,sp vs H Q E->vs=[]/\aO H1 H)
  (hbody:∀(A:zA8) (outer:List Env) (s:zAB) (H:Hp) (Q:VK) (E:XK),dj k (A.deeper (zC4 q scope s.heap.objs.size f (.ref c') cl))->sp [] H Q E->∃te,PE (cxL P w K mg base N q scope cl f (.ref c') A outer s H E) body te/\te Z H Q):
  cg P w K mg base (CX1 P w) (k+1) f (zFI "<lambda>" q params body scope cl pm (.ref c') ctv) [] sp:=by
 refine⟨λ vs H Q E h=>by rw[(len vs H Q E h).1];rfl,λ A outer s H args us vs Q E hr e0 hb r hsp=>?_⟩;obtain⟨rfl,hsm⟩:=len _ _ _ _ hsp;obtain⟨te,hpe,hte⟩:=hbody A outer s H Q E (hr.deeper _) hsp;have bX:s.heap.NoLimit:=e0.mod.nolimit.keeps λ b o e=>(e0.bs b o e).1
 obtain⟨hf,oc,hc,hco⟩:=la;obtain⟨ho,_⟩:s.heap.get? f=some _/\_:=e0.hok f _ (hsm _ _ hf);obtain⟨hoc,_⟩:s.heap.get? c'=some oc/\_:=e0.hok c' _ (hsm _ _ hc);obtain⟨vs,t,hd,hv⟩:=hco;refine PySem.W.kla_callFunE hr.depth ho rfl S.co S.gen rfl ⟨c',oc,vs,t,rfl,hoc,hd,hv⟩ (hb _ _ _ _ ?_);refine wpAny_newFunctionEnv S.cell (by intro y hy;simp at hy) (λ zC hns hsb=>?_) S.kind;have hk₁:∀b o,s.heap.get? b=some o->zC.get? b=some o:=λ b o e=>hsb.extBut b o (zAa (zAW e)) (zAI _ e)
 refine⟨bX.keeps hk₁,?_⟩;show zCW _ _ (.expr body (zC4 q scope s.heap.objs.size f (.ref c') cl)) _ _;have kb:∀b o,base.get? b=some o->zC.get? b=some o:=λ b o e=>hk₁ b o (e0.bs b o e).1
 have I:Inv (cxL P w K mg base N q scope cl f (.ref c') A outer s H E) [] Z H {s with heap:=zC,toks:=s.toks+(([]:List Str).zip us).length}:=by
  refine⟨⟨e0.mod,S.kind,rfl,rfl,zAP _,cp.inj,λ x hx=>?_,λ x c z=>absurd z zA7,λ _=>hr.hd,zGK e0.frames,.inr ⟨rfl,rfl⟩,λ b z=>(nomatch z),e0.bs,e0.bsz,λ b _ _=>λ z=>(nomatch z),λ b z=>(nomatch z),e0.funs,e0.frf⟩,
   rfl,e0.bare,Un.kept hk₁,⟨_,hns,λ i x v e1 e2 e3=>?_⟩,λ x c e=>?_,e0.hok.fresh (zAP _),λ x c e=>?_,λ p hp=>(nomatch hp),e0.hok.kept hk₁,cp.len,λ p hp=>(nomatch hp)⟩
  .rcases hx with z|z
   .exact absurd rfl (S.cell _ (zAk z))
   .exact cp.has x z
  .rcases e3 with z|z|z
   .exact absurd rfl (S.loc _ (zAk z))
   .exact absurd rfl (S.cell _ (zAk z))
   .obtain⟨c,u,c1,c2,c3⟩:=cp.val i x v e1 e2 z
    exact⟨u,c2,.inr ⟨.inr z,c,c1,c3.keeps kb⟩⟩
  .obtain⟨v,z⟩:=cp.cell x c e
   exact⟨v,z.keeps kb⟩
  .obtain⟨v,o,z,_⟩:=cp.cell x c e
   exact(e0.bs c o z).2
 refine PySem.W.kla_codeExpr (zBC (hpe [] _ Z H _ I hte) (λ u s' hq=>?_) λ e s' hq=>hq);obtain⟨v,H',J,rv,q⟩:=hq;exact⟨v,H',J.os,J.bare,J.base,J.hok,rv,q⟩
def bse(X:Cx)(s:zAB)(H:Hp):Heap:=zBb s.heap (trk s.heap H++frs X.stack)
section
variable{X:Cx}{hV:gV}{Z:St}{H:Hp}{s:zAB}
def aDS{b:Addr}{o:Obj}(e:s.heap.get? b=some o)(n:H b=none)(nf:b∉frs X.stack):(bse X s H).get? b=some o:=
 zBx _ e λ hm=>by
  rcases zAp.mp hm with z|z
  .have q:(H b).isSome=true:=(zAV.mp z).2
   rw[n]at q;cases q
  .exact nf z
def aMN{b:Addr}{o:Obj}(e:(bse X s H).get? b=some o):s.heap.get? b=some o/\H b=none:=by
 have e1:=zDU _ e;refine⟨e1,?_⟩;cases q:H b with
 |none=>rfl
 |some u=>
  have hm:b∈trk s.heap H++frs X.stack:=zA4 _ (zAV.mpr ⟨zAn.mpr (zAW e1),by rw[q];rfl⟩);have z:(zBb s.heap (trk s.heap H++frs X.stack)).get? b=none:=zDt _ hm;have e2:(zBb s.heap (trk s.heap H++frs X.stack)).get? b=some o:=e;rw[z]at e2;cases e2
def Inv.env1(I:Inv X hV Z H s):aBN X.prog X.w X.K X.mg (bse X s H) X.A X.stack s H:=by
 have kb:∀b o,X.base.get? b=some o->(bse X s H).get? b=some o:=λ b o e=>aDS (I.bs b o e).1 (I.bs b o e).2 λ hb=>by
  have z:=(I.stack.mem hb).1;rw[e]at z;cases z
 have ns:∀{b:Addr} {m:Str->Option Value},X.base.Ns b m->(bse X s H).Ns b m:=λ{b m} ⟨o,es,ep,e,r⟩=>⟨o,es,ep,kb _ _ e,r⟩
 refine⟨I.ok.frames,⟨I.mod.kin.keeps kb,ns I.mod.glob,?_,I.mod.nolimit.keeps kb⟩,λ b o e=>aMN e,zEx (zDu _ _),zFo I.stack λ env he a ha=>zA9 _ (zBo.mpr ⟨env,he,ha⟩),I.stkFree,I.hok,I.bare⟩;obtain⟨mb,h1,h2⟩:=I.mod.blt;exact⟨mb,ns h1,h2⟩
def aHo{CX:CXT}{k:Nat}{f:Addr}{fd:zAo}{ps:List Str}{sp:Sp}{E:XK}{Q:VK}{vs:List V}{us:List Value}(I:Inv X hV Z H s)(F:cg X.prog X.w X.K X.mg (bse X s H) CX k f fd ps sp)(hr:dj k X.A)(hb:Binds X.K fd ps [])(hx:pM CX X E)
  (r:Vals vs us)(h:sp vs H Q E):wpAny (model X.prog X.w) X.A (call (.ref f) us) (EP X hV Z Q) X.xe s:=by
 have hl:(us++[]).length=ps.length:=by rw[zBB,<-r.length];exact F.len _ _ _ _ h
 have hb':=hb s us I.kIn hl;rw[zBB]at hb';refine zIV (zEa (F.run X.A X.stack s H ⟨us,[]⟩ us vs Q E hr I.env1 hb' r h) λ r s' hq=>?_);cases r with
 |error e=>exact hx hV Z H s e s' I hq
 |ok fl=>
  cases fl with
  |ret u=>exact I.after hq
  |next=>exact zAF hq
  |brk=>exact zAF hq
  |cont=>exact zAF hq
def aMM{scope:Scope}(I:Inv X hV Z H s)(ho:X.outer=[])(S:wA scope)(hfree:∀y∈scope.names,y.2= .free->X.env.kindOf y.1=some .cell\/X.env.kindOf y.1=some .free):aHQ (bse X s H) X.N Z scope (aa scope X.env):=by
 have cb:∀x c v,X.env.cells.lookup x=some c->s.heap.IsCell c v->(bse X s H).IsCell c v:=λ x c v e ⟨o,h1,h2⟩=>⟨o,aDS h1 (I.freeC x c e) λ hb=>by
  rcases zAN.mp (I.stkSub c hb)with z|z
  .exact I.cne x c e z
  .have z2:c∈frs X.outer:=z
   rw[ho]at z2;exact absurd z2 (by simp[frs]),h2⟩
 have hk:∀x,scope.names.lookup x=some .free->X.env.kindOf x=some .cell\/X.env.kindOf x=some .free:=λ x hx=>hfree (x,.free) (zAk hx) rfl
 refine⟨λ x y c e1 e2=>I.ok.inj x y c (fC e1) (fC e2),λ x hx=>?_,λ x c e=>?_,λ i x v e1 e2 hx=>?_,I.len⟩
 .obtain⟨c,hc⟩:=I.ok.has x (hk x hx)
  exact⟨c,qO hx hc⟩
 .obtain⟨v,z⟩:=I.cell x c (fC e)
  exact⟨v,cb x c v (fC e) z⟩
 .obtain⟨m,hn,hl⟩:=I.loc
  obtain⟨u,ru,hu⟩:=hl i x v e1 e2 ((hk x hx).elim (λ z=>.inr (.inl z)) λ z=>.inr (.inr z));rcases hu with ⟨k,_⟩|⟨_,c,ec,ic⟩
  .rcases hk x hx with z|z
   .exact absurd (k.symm.trans z) (by decide)
   .exact absurd (k.symm.trans z) (by decide)
  .exact⟨c,u,qO hx ec,ru,cb x c _ ec ic⟩
end
abbrev bmV:List Value:=[.type "ValueError",.type "Exception",.type "BaseException",.type "object"]
section
variable{prog:zAS}{w:World}{A:zA8}{E:Value->zAB->Prop}{h:Heap}{g:Array zDJ}{d:Drawn}{t:Nat}{os:OsState}{a:Addr}{o:Obj}
 {nm q:Str}{C N:Addr}{bs bm:List Value}{hdct:Bool}{sn:List Str}{sub:List Value}{ab:Bool}{col:Option Bool}{dd:Option Addr}{k0 k1 k2 k3 k5:Option Value}{newId:String}{K:zAA}
def aBA{R:zEk->zAB->Prop}(hC:h.get? C=some (zEM nm q C N bs bm hdct sn sub ab col dd k0 k1 k2 k3 k5 newId))(T:OwnTail h bmV bm)
  (hx:h.get? a=some o)(hc:o.cls= .ref C)(hq:R (.ok (.ret (.ref C))) ⟨h,g,d,t,os⟩):
  zCW (model prog w) A (.call (.builtin "getset_descriptor.__get__") ⟨[.builtin "object.__class__",.ref a,.ref C],[]⟩) R ⟨h,g,d,t,os⟩:=by
 have hT5:(⟨h,g,d,t,os⟩:zAB).TypeIs (.builtin "object.__class__") "getset_descriptor":=zEV;have hcB:(zAu C::bm).contains (.type (".".intercalate ("object.__class__".cutAt '.').dropLast))=true:=by
  rw[F.owner_object_class,zEc,T.hasType (X:="object") (b:=true) (by decide+kernel)];rfl
 refine zHb zG6.plain F.entry_gs_get (zG6.check _ _ _ _ _ _ _ _ hT5 (F.args_gs_get _ _ _) ?_)
 repeat (any_goals (first|assumption|(with_reducible refine zCH hx ?_;rw[hc])|(with_reducible refine zDa hC ?_;rw[hcB])|wp_step))
 refine⟨Code.quiet_builtin _ (by decide+kernel),zGR F.entry_object_class ?_⟩
 repeat (any_goals (first|assumption|(with_reducible refine zCH hx ?_;rw[hc])|wp_step))
def zY{M:Model}{nameV:Value}{Q:Unit->zAB->Prop}(hC:h.get? C=some (zEM nm q C N bs bm hdct sn sub ab col dd k0 k1 k2 k3 k5 newId))(T:OwnTail h bmV bm)
  (hx:h.get? a=some o)(hc:o.cls= .ref C)(hq:Q () ⟨h,g,d,t,os⟩):wpAny M A (checkBuiltinCall "BaseException.__getattribute__" ⟨[.ref a,nameV],[]⟩) Q E ⟨h,g,d,t,os⟩:=by
 have hk:builtinKind "BaseException.__getattribute__"=some .slot:=by decide+kernel
 have dP:splitId "BaseException.__getattribute__"=some ("BaseException","__getattribute__"):=by decide+kernel
 have hcB:(zAu C::bm).contains (.type "BaseException")=true:=by rw[zEc,T.hasType (X:="BaseException") (b:=true) (by decide+kernel)];rfl
 have ha:=F.args_bexc_ga (.ref a) nameV;simp only[checkBuiltinCall,hk,dP];refine zAQ ?_
 .unfold isInstance
  repeat (first|(with_reducible refine zCH hx ?_;rw[hc])|(with_reducible refine zDa hC ?_;rw[hcB])|wp_step)
  exact hq
def wR{tk:Tok}{Q:Fin->zAB->Prop}(hC:h.get? C=some (zEM nm q C N bs bm hdct sn sub ab col dd k0 k1 k2 k3 k5 newId))(T:OwnTail h bmV bm)(lk:∀M:Model,zEW M h (zEg (.ref C) "__class__") (some (.builtin "object.__class__")))
  (hx:h.get? a=some o)(hc:o.cls= .ref C)(hq:Q (.done (.ret (.ref C))) ⟨h,g,d,t,os⟩):
  wpAny (model prog w) A (zFV.«object.__getattribute__» ⟨[.ref a,.str "__class__" tk],[]⟩) Q E ⟨h,g,d,t,os⟩:=by
 have hT5:(⟨h,g,d,t,os⟩:zAB).TypeIs (.builtin "object.__class__") "getset_descriptor":=zEV;have f5:=zEV;have f6:=zG6.lookup;have f7:=F.slot_gs_set.lookup
 repeat (any_goals (first|assumption|(with_reducible refine zCH hx ?_;rw[hc])|with_reducible refine(lk _).here ?_|wp_step))
 refine aBA hC T hx hc ?_
 repeat (any_goals (first|assumption|wp_step))
def zX{Q:Option Value->zAB->Prop}(hC:h.get? C=some (zEM nm q C N bs bm hdct sn sub ab col dd k0 k1 k2 k3 k5 newId))(T:OwnTail h bmV bm)(lk:∀M:Model,zEW M h (zEg (.ref C) "__class__") (some (.builtin "object.__class__")))
  (lg:∀M:Model,zEW M h (zEg (.ref C) "__getattribute__") (some (.builtin "BaseException.__getattribute__")))(ln:∀M:Model,zEW M h (zEg (.ref C) "__getattr__") none)
  (hx:h.get? a=some o)(hc:o.cls= .ref C)(hq:Q (some (.ref C)) ⟨h,g,d,t+1,os⟩):wpAny (model prog w) A (getAttr? (.ref a) "__class__") Q E ⟨h,g,d,t,os⟩:=by
 have by_exc:∀{E:Value->zAB->Prop} {t:Nat} {tk:Tok} {Q:Value->zAB->Prop},Q (.ref C) ⟨h,g,d,t,os⟩->wpAny (model prog w) A (getAttrBy (.ref a) (.str "__class__" tk) false) Q E ⟨h,g,d,t,os⟩:=by
  intro E t tk Q hq;have FB:=PySem.F.excAttr_ValueError;have f3:=FB.ga.bind (.ref a);have hx0:(false&&onTheHeap (zDg "BaseException.__getattribute__"))=false:=rfl;have hx2:(zDg "BaseException.__getattribute__"==zDg "object.__getattribute__")=false:=by decide+kernel
  have hx1:(onTheHeap (zAu C)&&zDg "BaseException.__getattribute__"==zDg "object.__getattribute__")=false:=by rw[hx2];rfl
  repeat (any_goals (first|assumption|(with_reducible refine zCH hx ?_;rw[hc])|with_reducible refine(lg _).here ?_|with_reducible refine(ln _).here ?_|wp_step))
  refine zHb FB.ga.plain F.entry_bexc_ga (zY hC T hx hc (wR hC T lk hx hc ?_))
  repeat (any_goals (first|assumption|wp_step))
 unfold getAttr? getAttrBy?
 repeat (any_goals (first|assumption|with_reducible apply by_exc|wp_step))
def aGS(hE:bu K C)(ha:zBA K (.ref C) "__class__"=some (some (.builtin "object.__class__")))(hgt:zBA K (.ref C) "__getattribute__"=some (some (.builtin "BaseException.__getattribute__")))
  (hga:zBA K (.ref C) "__getattr__"=some none):PySem.W.KitX K (.ref a) (.ref C) (λ h=>∃o,h.get? a=some o/\o.cls= .ref C) where
 ty:=λ M h _ ⟨o,h1,h2⟩=>h2▸(zIN h1).andThen .now
 it:=λ M h X _=>by
  obtain⟨bm,NN,nm,q,bs,hdct,sn,sub,ab,col,dd,k0,k1,k2,k3,k5,mN,hC,_⟩:=(qy (h:=h) (mg:=λ _=>some (.ref C)) (x:="x") X rfl hE).obj;intro A' Q' E' s' k q;unfold isType loadHead;exact zAQ (wpAny_loadPart (k _ _ hC) (zAi q))
 ne:=λ h tp dd its n sl X htp=>by
  obtain⟨bm,NN,nm,q,bs,hdct,sn,sub,ab,col,dd,k0,k1,k2,k3,k5,mN,hC,_⟩:=(qy (h:=h) (mg:=λ _=>some (.ref C)) (x:="x") X rfl hE).obj;refine Bool.eq_false_iff.mpr λ z=>?_
  have e:C=tp:=Value.ref.inj (beq_iff_eq.mp z);subst e;rw[hC]at htp;exact absurd (congrArg Obj.cls (zAe htp)) (by show zEG "type"≠zEG "tuple";decide+kernel)
 ca:=λ{prog w A E Q s} X ⟨o,h1,h2⟩ k=>by
  obtain⟨h,g,d,t,os⟩:=s;obtain⟨bm,NN,nm,q,bs,hdct,sn,sub,ab,col,dd,k0,k1,k2,k3,k5,mN,hC,hN,hni,T⟩:=(qy (h:=h) (mg:=λ _=>some (.ref C)) (x:="x") X rfl hE).obj;exact zX hC T (λ M=>zDA X ha) (λ M=>zDA X hgt) (λ M=>zDA X hga) h1 h2 k
end
def excφ(a C:Addr):Heap->Prop:=λ h=>∃o,h.get? a=some o/\o.cls= .ref C
def excφ_stay{a C:Addr}:∀h1 h2:Heap,excφ a C h1->(∀o,h1.get? a=some o->h2.get? a=some o)->excφ a C h2:=λ h1 h2 ⟨o,e,c⟩ k=>⟨o,k o e,c⟩
structure aJ6(K:zAA)(C:Addr):Prop where
 ex:bu K C
 ca:zBA K (.ref C) "__class__"=some (some (.builtin "object.__class__"))
 gt:zBA K (.ref C) "__getattribute__"=some (some (.builtin "BaseException.__getattribute__"))
 ga:zBA K (.ref C) "__getattr__"=some none
section
variable{X:Cx}
def aJr(K:zAA):List V->Hp->VK->Prop:=λ xs H Q=>∃a C y c b,xs=[.ref a,y]/\RelV y c/\H a=some (.ext (excφ a C))/\aJ6 K C/\zB9 K (.ref C) c=some b/\Q (.bl b) H
def aEV:cU X (.builtin "isinstance") (aJr X.K):=by
 intro hV s Z H xs us Q I r h;obtain⟨a,C,y,c,b,rfl,ry,ha,kc,e,q⟩:=h;obtain⟨u,w',rfl,r1,r2⟩:=vals2 r;cases r1;have hc:w'=c:=by
  cases y<;>first
   |(cases r2;cases ry;rfl)
   |(obtain⟨t1,rfl⟩:=r2;obtain⟨t2,rfl⟩:=ry;exact absurd e (by simp[zB9,PySem.W.kitCls]))
 subst hc;obtain⟨p,_⟩:excφ a C s.heap/\_:=I.hok a _ ha;exact zAz (aGS kc.ex kc.ca kc.gt kc.ga) I.kIn p e (λ z=>nomatch z) λ tk=>⟨.bl b,H,I.tok tk,rfl,q⟩
end
abbrev Cx.re(X:Cx)(A:zA8)(c:Bool)(pl:gV)(E:Value->zAB->Prop):Cx:={X with A:=A,calm:=c,pn:=X.pn++pl,xe:=E}
section
variable{X:Cx}{hV:gV}{Z:St}{H:Hp}{s:zAB}
theorem Inv.re{A:zA8}{c:Bool}{E:Value->zAB->Prop}(I:Inv X hV Z H s)(hf:A.frames=X.A.frames)(hd:c=true->A.handled=none):Inv (X.re A c hV E) [] Z H s:=
 ⟨⟨I.ok.mod,I.ok.kind,I.ok.glob,I.ok.blt,I.ok.above,I.ok.inj,I.ok.has,I.ok.cab,hd,hf.trans I.ok.frames,I.ok.stk,I.ok.exf,I.ok.bs,I.ok.bsz,I.ok.noex,I.ok.exfs,I.ok.funs,I.ok.frf⟩,
  I.os,I.bare,I.base,I.loc,I.cell,I.free,I.freeC,λ p hp=>I.pin p (by rw[zBB]at hp;exact hp),I.hok,I.len,λ p hp=>let⟨a,b,c,d,e⟩:=I.tab p hp;⟨a,b,c,λ q hq=>d q (by rw[zBB]at hq;exact hq),e⟩⟩
def Inv.unre{A:zA8}{c:Bool}{E:Value->zAB->Prop}{pins2:gV}{Z2:St}{H2:Hp}{s2:zAB}(ok:X.Ok)(J:Inv (X.re A c hV E) pins2 Z2 H2 s2):Inv X hV Z2 H2 s2:=
 ⟨ok,J.os,J.bare,J.base,J.loc,J.cell,J.free,J.freeC,λ p hp=>J.pin p (zA4 _ hp),J.hok,J.len,λ p hp=>let⟨a,b,c,d,e⟩:=J.tab p hp;⟨a,b,c,λ q hq=>d q (zA4 _ hq),e⟩⟩
def Inv.track{a:Addr}{o:HO}(I:Inv X hV Z H s)(ha:H a=none)(h0:X.z5.heap.get? a=none)(hL:X.env.locals≠a)(hc:∀x c,X.env.cells.lookup x=some c->c≠a)(hp:∀p∈X.ta++(X.pn++hV),p.1≠a)
  (new:bW X.prog X.w (upd H a o) s.heap a o):Inv X hV Z (upd H a o) s:=by
 have ne:∀b u,H b=some u->b≠a:=λ b u e=>bH e ha
 refine⟨I.ok,I.os,I.bare,⟨I.base.keep,I.base.slot,λ b ob e n nx=>?_,I.base.there,λ b xs e=>?_,λ b ob u e=>?_,λ b ps e=>?_⟩,I.loc,I.cell,?_,λ x c e=>?_,λ p hp'=>?_,λ b u e=>?_,I.len,λ p hp'=>?_⟩
 .rw[aL (λ z=>by rw[z,h0]at e;cases e)]
  exact I.base.free b ob e n nx
 .have e1:=I.base.tups b xs e
  rw[aL (ne b _ e1)];exact e1
 .have e1:=I.base.frzs b ob u e
  rw[aL (ne b _ e1)];exact e1
 .obtain⟨m,e1⟩:=I.base.tbls b ps e
  exact⟨m,by rw[aL (ne b _ e1)];exact e1⟩
 .rw[aL hL];exact I.free
 .rw[aL (hc x c e)];exact I.freeC x c e
 .obtain⟨p1,p2,p3⟩:=I.pin p hp'
  exact⟨p1,by rw[aL (hp p (zA9 _ hp'))];exact p2,p3⟩
 .by_cases hb:b=a
  .subst hb;rw[aR]at e;cases e;exact new
  .rw[aL hb]at e
   exact(I.hok b u e).stay (λ c v _ q=>q) (λ c q=>by rw[aL (ne c _ q)];exact q) λ c xs q=>by rw[aL (ne c _ q)];exact q
 .obtain⟨n1,n2,n3,n0,ps,n4,n5⟩:=I.tab p hp'
  exact⟨by rw[aL (hp p (zA4 _ hp'))];exact n1,n2,n3,n0,ps,n4,n5.mono λ b o u e=>by rw[aL (ne b _ e)];exact e⟩
def Inv.gone{i:Nat}{n:Str}{h':Heap}{m:Str->Option Value}{v:Option Value}{tk:Nat}(I:Inv X hV Z H s)(hN:X.N.Nodup)(hi:X.N[i]? =some n)(hm:s.heap.Ns X.env.locals m)(hn:h'.Ns X.env.locals λ x=>if x=n then v else m x)(hs:zEo X.env.locals s.heap h'):
  Inv X hV (Z.set i none) H {s with heap:=h',toks:=tk}:=by
 obtain⟨m0,hm0,hl⟩:=id I.loc;have cne:=I.cne;have em:m0=m:=by
  obtain⟨o1,es1,ep1,e1,d1,k1⟩:=hm0;obtain⟨o2,es2,ep2,e2,d2,k2⟩:=hm;rw[e1]at e2;cases e2;rw[d1]at d2;cases d2;funext x;exact(k1.2 x).symm.trans (k2.2 x)
 subst em;obtain⟨oL,_,_,hoL,_⟩:=id hm0;have keep:∀b o,b≠X.env.locals->s.heap.get? b=some o->h'.get? b=some o:=λ b o nb e=>(hs.2 b nb).trans e
 refine⟨I.ok,I.os,I.bare,⟨λ b o e n' hb hx=>?_,λ b o e n' hb hx=>?_,I.base.free,λ b o e hx=>?_,I.base.tups,I.base.frzs,I.base.tbls⟩,⟨_,hn,λ j y v' e1 e2 e3=>?_⟩,λ y c e=>?_,I.free,I.freeC,λ p hp=>?_,λ b u e=>?_,by simpa using I.len,λ p hp=>?_⟩
 .exact keep b o (zAa (zAR (zAW e) I.ok.above)) (I.base.keep b o e n' hb hx)
 .obtain⟨sl,e1⟩:=I.base.slot b o e n' hb hx
  exact⟨sl,keep b _ (zAa (zAR (zAW e) I.ok.above)) e1⟩
 .obtain⟨o',e1⟩:=I.base.there b o e hx
  exact⟨o',keep b _ (zAa (zAR (zAW e) I.ok.above)) e1⟩
 .have hj:j≠i:=λ z=>by
   subst z;rw[List.getElem?_set]at e2;simp at e2
  rw[zBD (zC0 hj)]at e2;obtain⟨u,r,q⟩:=hl j y v' e1 e2 e3;refine⟨u,r,?_⟩;have yn:y≠n:=λ z=>hj (uz hN e1 (z▸hi))
  rcases q with ⟨k,e⟩|⟨k,c,e,z⟩
  .exact .inl ⟨k,by simp[yn,e]⟩
  .exact .inr ⟨k,c,e,z.sameBut hs (cne y c e)⟩
 .obtain⟨v',z⟩:=I.cell y c e
  exact⟨v',z.sameBut hs (cne y c e)⟩
 .obtain⟨p1,p2,p3,p4⟩:=I.pin p hp
  exact⟨keep _ _ p3 p1,p2,p3,p4⟩
 .refine(I.hok b u e).stay (λ c v' hc q=>keep c v' ?_ q) (λ _ q=>q) λ _ _ q=>q
  rintro rfl;rcases hc with z|z
  .rw[<-z,I.free]at e;cases e
  .rw[I.free]at z;cases z
 .obtain⟨n1,n2,n3,n0,ps,n4,n5⟩:=I.tab p hp
  exact⟨n1,n2,n3,n0,ps,keep _ _ n2 n4,n5⟩
end
section
variable{M:Model}{A:zA8}{E:Value->zAB->Prop}{h:Heap}{g:Array zDJ}{d:Drawn}{t:Nat}{os:OsState}
variable{nm q:Str}{C N:Addr}{bs bm:List Value}{hdct:Bool}{sn:List Str}{sub:List Value}{ab:Bool}{col:Option Bool}{dd:Option Addr}{k0 k1 k2 k3 k5:Option Value}{newId:String}
variable{nm' q':Str}{C' N':Addr}{bs' bm':List Value}{hdct':Bool}{sn':List Str}{sub':List Value}{ab':Bool}{col':Option Bool}{dd':Option Addr}{k0' k1' k2' k3' k5':Option Value}{newId':String}
def vX{e:Addr}{oe:Obj}{Q:Bool->zAB->Prop}(hC:h.get? C=some (zEM nm q C N bs bm hdct sn sub ab col dd k0 k1 k2 k3 k5 newId))(hC':h.get? C'=some (zEM nm' q' C' N' bs' bm' hdct' sn' sub' ab' col' dd' k0' k1' k2' k3' k5' newId'))
  (he:h.get? e=some oe)(cS:oe.cls= .ref C)(hb':bm'.contains (.type "BaseException")=true)(hs:(zAu C::bm).contains (.ref C')=true)
  (hq:Q true ⟨h,g,d,t,os⟩):wpAny M A (excMatches (.ref e) (.ref C')) Q E ⟨h,g,d,t,os⟩:=by
 have hcB:(zAu C'::bm').contains (.type "BaseException")=true:=by rw[zEc,hb',zIE]
 have f:=tc_notTuple;unfold excMatches
 repeat (first|(with_reducible refine zCH he ?_;rw[cS])|with_reducible refine zCH hC' ?_|(with_reducible refine zDa hC' ?_;rw[hcB])|(with_reducible refine zDa hC ?_;rw[hs])|wp_step)
 exact hq
end
def bW.there{P:zAS}{w:World}{H:Hp}{h:Heap}{a:Addr}{o:HO}(x:bW P w H h a o):∃ob,h.get? a=some ob:=by
 cases o with
 |lst xs=>obtain⟨_,_,_,_,e⟩:=x;exact⟨_,e⟩
 |tup xs=>
  obtain⟨_,_,_,p⟩:=x;obtain⟨o,e,_⟩:=p;exact⟨_,e⟩
 |dK kvs=>obtain⟨_,_,_,_,o,_,_,e,_⟩:=x;exact⟨_,e⟩
 |dT kvs=>obtain⟨_,_,_,_,o,_,_,e,_⟩:=x;exact⟨_,e⟩
 |set S n=>obtain⟨o,_,_,_,e,_⟩:=x;exact⟨_,e⟩
 |ins C dx fs=>obtain⟨_,_,_,e,_⟩:=x;exact⟨_,e⟩
 |own y=>exact x
 |xd fs=>obtain⟨_,⟨_,_,_,e,_⟩,_⟩:=x;exact⟨_,e⟩
 |rng lo hi=>obtain⟨_,_,_,e⟩:=x;exact⟨_,e⟩
 |frz ob u=>obtain⟨e,_⟩:=x;exact⟨_,e⟩
 |tbl ps=>exact⟨_,show h.get? a=some _ from x⟩
 |met f y=>exact⟨_,show h.get? a=some _ from x⟩
 |ext φ=>obtain⟨_,e,_⟩:=x;exact e
def rN(K:zAA)(C C':Addr):Bool:=
 match K.lookup C with
 |some ⟨_,_,.cls cd,_⟩=>cd.mro.contains (.ref C')
 |_=>false
abbrev Cx.tr(X:Cx)(hV:gV)(E':XK):Cx:=X.re X.A true hV λ e s'=>∃Z H s,Inv X hV Z H s/\CX1 X.prog X.w X.stack H s E' e s'
abbrev Cx.ha(X:Cx)(hV:gV)(ea:Addr):Cx:=X.re (X.A.mark (some (.ref ea))) false hV λ _ _=>False
def aEf(X:Cx)(i:Nat)(C':Addr)(E':XK)(tb th:TS):TS:=λ D Z H=>tb D Z H/\∀cls H1,E' cls none H1->∃C,cls= .ref C/\bu X.K C/\rN X.K C C'=true/\∀(Z1:St) (ea:Addr),Z1.length=X.N.length->H1 ea=none->
 th {nx:=λ Z' H'=>D.nx (Z'.set i none) H',rt:=D.rt,bk:=λ Z' H'=>D.bk (Z'.set i none) H',ct:=λ Z' H'=>D.ct (Z'.set i none) H'} (Z1.set i (some (.ref ea))) (upd H1 ea (.ext (excφ ea C)))
section
variable{X:Cx}{E E':XK}
def Cx.tr_ok{hV:gV}(J:(X.tr hV E').Ok):X.Ok:=
 ⟨J.mod,J.kind,J.glob,J.blt,J.above,J.inj,J.has,J.cab,λ _=>J.hd rfl,J.frames,J.stk,J.exf,J.bs,J.bsz,J.noex,J.exfs,J.funs,J.frf⟩
def Cx.tr_pass{hV:gV}:pM (CX1 X.prog X.w) (X.tr hV E') E':=λ pins2 Z H s e s' I h=>⟨Z,H,s,Inv.unre (Cx.tr_ok I.ok) I,h⟩
def aF1(D:cj X E)(hc:X.calm=true)(hN:X.N.Nodup){i:Nat}{n:Str}(hi:X.N[i]? =some n)(hl:X.env.scope.names.lookup n=some .local){x:Str}{C':Addr}(hm:X.mg x=some (.ref C'))(hg:Gl X x)(hC':bu X.K C')
  {body suite:List Stmt}{b₀:Stmt}{tb th:TS}{np dA pos:Pos}(hb:∀hV,PSs (X.tr hV E') body tb)(hs:∀hV ea,PSs (X.ha hV ea) (b₀::suite) th)(hdb:Nd x:=by decide):
  PS X (.Try body [.ExceptHandler (some (.Name x np)) (some n) (b₀::suite) dA] [] [] pos) (aEf X i C' E' tb th):=by
 intro hV s Z H DD I hh;obtain⟨h1,h2⟩:=hh;refine wpAny_Try_except (zBC (hb hV [] s Z H DD (I.re rfl λ _=>I.ok.hd hc) h1) (λ f s1 q=>?_) λ e s1 q=>?_)
 .cases f with
  |next=>
   obtain⟨Z',H',J,q⟩:=q;exact zD9 ⟨Z',H',Inv.unre I.ok J,q⟩
  |brk=>obtain⟨Z',H',J,q⟩:=q;exact⟨Z',H',Inv.unre I.ok J,q⟩
  |cont=>obtain⟨Z',H',J,q⟩:=q;exact⟨Z',H',Inv.unre I.ok J,q⟩
  |ret u=>obtain⟨v,Z',H',J,r,q⟩:=q;exact⟨v,Z',H',Inv.unre I.ok J,r,q⟩
 .obtain⟨Z1,H1,s0,J,ea,cls,a0,B,H2,rfl,os,bare,un,hok,fly,bk,ba,hE⟩:=q
  obtain⟨C,rfl,hC,aT,hth⟩:=h2 cls H2 hE;have hfr:=I.ok.frames;rw[D.stk]at hfr;have fly':=fly;rw[D.stk]at fly';have mk:∀hh:Heap,zIK B X.stack ea (.ref C) a0 hh->s1.heap.UpToSlots hh->Inv X hV Z1 H2 {s1 with heap:=hh}:=λ hh fl up=>by
   refine J.call' (ch:=[]) os ⟨λ b o e n nf _=>fl.1 b o (bk b o e n nf),λ b o e n hb _=>?_,un.free,λ b o e _=>?_,un.tups,un.frzs,un.tbls⟩ (λ a o e=>(hok a o e).stay (λ b u _ q=>fl.1 b u q) (λ _ z=>z) λ _ _ z=>z) bare (λ b z=>nomatch z)
   .obtain⟨s2,e2⟩:=un.slot b o e n hb (λ z=>nomatch z)
    obtain⟨_,o3,e3,nf⟩:=fly.2.2.1.mem hb;rw[e2]at e3;cases e3;obtain⟨s4,e4⟩:=up b _ e2 nf;exact⟨s4,e4⟩
   .by_cases hb:b∈frs X.stack
    .obtain⟨_,o3,e3,nf⟩:=fl.2.2.1.mem hb
     exact⟨o3,e3⟩
    .obtain⟨o',e'⟩:=ba b o e hb
     exact⟨o',fl.1 b o' e'⟩
  refine wpAny_looks_onW hfr D.fr fly' λ h3 held up3=>?_
  refine wpAny_landsW held λ h4 fly4 up4=>?_
  rw[<-D.stk]at fly4;have J4:=mk h4 fly4 (up3.trans up4);have K4:Inv (X.ha hV ea) [] Z1 H2 {s1 with heap:=h4}:=J4.re rfl (λ z=>nomatch z);obtain⟨ob4,he4,hc4⟩:=fly4.there;obtain⟨tl,NN,nm,q,bs,hdct,sn,sub,ab,col,dd,k0,k1,k2,k3,k5,mN,hCo,hNn,hni,T⟩:=(qy (h:=h4) (mg:=λ _=>some (.ref C)) (x:="x") J4.kIn rfl hC).obj;obtain⟨tl',NN',nm',q',bs',hdct',sn',sub',ab',col',dd',k0',k1',k2',k3',k5',mN',hCo',hNn',hni',T'⟩:=(qy (h:=h4) (mg:=λ _=>some (.ref C')) (x:="x") J4.kIn rfl hC').obj;have hmro:(zAu C::tl).contains (.ref C')=true:=by
   unfold rN at aT;split at aT
   .rename_i oc od cd sl ho
    have e:=J4.kIn _ _ ho;have e2:(some _:Option Obj)=some _:=e.symm.trans hCo;injection e2 with e2
    have e3:=congrArg Obj.data e2;injection e3 with e3
    subst e3;exact aT
   .cases aT
  refine wpAny_handleBy_cons (codeAny_handlers_test (nJ (X:=X.ha hV ea) K4 hg hm ?_ hdb)) (by intro q;cases q);refine vX hCo hCo' he4 hc4 (T'.hasType (X:="BaseException") (b:=true) (by decide+kernel)) hmro ?_;refine codeAny_handlers_suite_as ?_;refine lands_againW fly4 λ h5 fly5 up5=>?_
  have J5:=mk h5 fly5 ((up3.trans up4).trans up5);obtain⟨f1,f2,f3,oe,vs,T5,oT,ts,he5,⟨hcl5,h05⟩,hd5,_⟩:=id fly5;have nof:ea∉frs X.stack:=λ z=>by
   obtain⟨_,o3,e3,nf⟩:=f3.mem z;rw[he5]at e3;cases e3;exact nf vs hd5
  have inB:∀b o,s0.heap.get? b=some o->b∉frs X.stack->b≠ea:=λ b o e nf z=>by
   obtain⟨o',e'⟩:=ba b o e nf;rw[z,f2]at e';cases e'
  have hL:X.env.locals∈frs X.stack:=by
   rw[D.stk];unfold frs;rw[zBd,D.fr];exact zAG
  have h2n:H2 ea=none:=by
   cases e:H2 ea with
   |none=>rfl
   |some o=>
    obtain⟨ob,e'⟩:=(hok ea o e).there;rw[f2]at e';cases e'
  have J6:Inv X hV Z1 (upd H2 ea (.ext (excφ ea C))) {s1 with heap:=h5}:=by
   refine J5.track h2n ?_ (λ z=>nof (z▸hL)) (λ y c e z=>?_) (λ p hp z=>?_) ⟨⟨oe,he5,hcl5⟩,⟨oe,he5⟩,excφ_stay⟩
   .cases e:X.z5.heap.get? ea with
    |none=>rfl
    |some o=>
     obtain⟨o',e'⟩:=J.base.there ea o e (by rw[D.ex];exact λ z=>nomatch z);exact absurd rfl (inB ea o' e' nof)
   .obtain⟨v,o,ho,hd⟩:=J5.cell y c e
    rw[z]at ho;have e2:some o=some oe:=ho.symm.trans he5;cases e2;rw[hd]at hd5;cases hd5
   .have hh:∃o,s0.heap.get? p.1=some o/\p.1≠X.env.locals/\p.1∉X.fs:=by
     rcases zAp.mp hp with z|z
     .obtain⟨_,a,b,_,_,c,_⟩:=J.tab p z
      exact⟨_,c,a,b⟩
     .obtain⟨p1,p2,p3,p4,_⟩:=J.pin p z
      exact⟨_,p1,p3,p4⟩
    obtain⟨o,p1,p3,p4⟩:=hh;refine inB p.1 o p1 (λ w=>?_) z;rcases zAN.mp (J.stkSub p.1 w)with z|z
    .exact p3 z
    .exact p4 z
  have K6:Inv (X.ha hV ea) [] Z1 (upd H2 ea (.ext (excφ ea C))) {s1 with heap:=h5}:=J6.re rfl (λ z=>nomatch z);refine uO (X:=X.ha hV ea) (v:=.ref ea) K6 hN hi (.inl hl) rfl (λ s7 I7=>?_) (.inr hl);refine zBC (hs hV ea [] s7 _ _ _ I7 (hth Z1 ea J.len h2n)) (λ f s8 q8=>?_) λ _ _ z=>z.elim
  have cE:∀{Z':St} {H':Hp} {Q:zAB->Prop},Inv (X.ha hV ea) [] Z' H' s8->(∀s9,Inv X hV (Z'.set i none) H' s9->Q s9)->
    wpAny (model X.prog X.w) X.A (do bindName X.env n .none;unbindBehindTheSuite X.env n dA) (λ _ s9=>Q s9) X.xe s8:=λ{Z' H' Q} K8 k=>by
   have J8:Inv X hV Z' H' s8:=Inv.unre I.ok K8;obtain⟨m,hmm,_⟩:=id J8.loc;refine wpAny_nameGoes_keeps hl hmm (by rw[I.ok.kind];rfl) λ h' v hn hsb=>k _ (Inv.gone J8 hN hi hmm hn hsb)
  cases f with
  |next=>obtain⟨Z',H',K8,q⟩:=q8;exact cE K8 λ s9 J9=>⟨_,_,J9,q⟩
  |brk=>obtain⟨Z',H',K8,q⟩:=q8;exact cE K8 λ s9 J9=>⟨_,_,J9,q⟩
  |cont=>obtain⟨Z',H',K8,q⟩:=q8;exact cE K8 λ s9 J9=>⟨_,_,J9,q⟩
  |ret u=>obtain⟨v,Z',H',K8,r,q⟩:=q8;exact cE K8 λ s9 J9=>⟨v,_,_,J9,r,q⟩
end
structure jB(k:Nat)(A:zA8):Prop where
 dp:A.depth+3*k+5<zEm
 un:A.units+16*k+200<cLine
def dj.h{k:Nat}{A:zA8}(r:dj k A):jB k A:=⟨r.dp,r.un⟩
theorem jB.mark{k:Nat}{A:zA8}{v:Option Value}(r:jB k A):jB k (A.mark v):=⟨r.dp,r.un⟩
def jB.mono{j k:Nat}{A:zA8}(r:jB k A)(h:j<=k):jB j A:=⟨by have:=r.dp;omega,by have:=r.un;omega⟩
theorem jB.deeper{k:Nat}{A:zA8}(r:jB (k+1) A)(env:Env):jB k (A.deeper env):=
 ⟨by have:=r.dp;show A.depth+1+3*k+5<_;omega,by have:=r.un;show A.units+3+16*k+200<_;omega⟩
theorem jB.depth{k:Nat}{A:zA8}(r:jB k A):A.depth<zEm:=by have:=r.dp;omega
abbrev aGx(A:zA8):zA8:={A with handled:=none}
structure FnH(P:zAS)(w:World)(K:zAA)(mg:Str->Option Value)(base:Heap)(k:Nat)(f:Addr)(fd:zAo)(ps:List Str)(sp:Sp):Prop where
 len:∀vs H Q E,sp vs H Q E->vs.length=ps.length
 run:∀(A:zA8) (outer:List Env) (s:zAB) (H:Hp) (args:Args) (us:List Value) (vs:List V) (Q:VK) (E:XK),jB k A->aBN P w K mg base A outer s H->zGq s fd args (ps.zip us)->Vals vs us->sp vs H Q E->
  zCW (model P w) A (.call (.ref f) args) (CR CX0 outer P w H s Q E) s
abbrev cxH(P:zAS)(w:World)(K:zAA)(mg:Str->Option Value)(base:Heap)(N:List Str)(q:Str)(scope:Scope)(f:Addr)(cd:Value)(A:zA8)(outer:List Env)(s:zAB)(H:Hp):Cx:=
 (tQ CX0 P w K mg base N q scope f cd (aGx A) outer s H λ _ _ _=>False).re (A.deeper (zCc q scope s.heap.objs.size f cd)) false [] λ _ _=>False
section
variable{P:zAS}{w:World}{K:zAA}{mg:Str->Option Value}{base:Heap}
def Fun.okH{x q:Str}{st:Stmt}{f:Addr}{fd:zAo}{N ps:List Str}{k:Nat}{sp:Sp}(F:Fun K x q st f fd)(S:aZ N ps (aF st))(len:∀vs H Q E,sp vs H Q E->vs.length=ps.length)
  (hbody:∀(cdv:Value) (A:zA8) (outer:List Env) (s:zAB) (H:Hp) (vs:List V) (Q:VK) (E:XK),jB k (A.deeper (zCc q (aF st) s.heap.objs.size f cdv))->sp vs H Q E->
   ∃t,PSs (cxH P w K mg base N q (aF st) f cdv A outer s H) (cN st) t/\t {nx:=λ _ H'=>Q .non H',rt:=Q} (start N vs) H):FnH P w K mg base (k+1) f fd ps sp:=by
 obtain⟨oc,od,kV,doc,pm,an,cdv,ct,osl,rfl,lk,hcd⟩:=F.ex;refine⟨len,λ A outer s H args us vs Q E hr e0 hb r hsp=>?_⟩;have KX:K.In s.heap:=e0.mod.kin.keeps λ b o e=>(e0.bs b o e).1
 have par:∀y∈ps.zip us,(aF st).names.lookup y.1=some .local\/((aF st).names.lookup y.1=some .cell/\((zCb (s.heap.objs.size+1) (aF st).names []).lookup y.1).isSome=true):=λ y hy=>
  (S.par y.1 (zDT (a:=y.1) (b:=y.2) hy).1).imp id λ z=>⟨z,zCj _ _ _ (.inl z)⟩
 refine zE9 hr.depth (KX _ _ lk) rfl S.co S.gen rfl (zEY KX hcd) (hb _ _ _ _ (zDh S.kind par λ env he s1 x=>?_));cases he;refine⟨(e0.mod.nolimit.keeps λ b o e=>(e0.bs b o e).1).keeps x.toInCall.keep,zH5 ?_⟩;obtain⟨t,ht,hq⟩:=hbody cdv A outer s H vs Q E (hr.deeper _) hsp;have e1:aBN P w K mg base (aGx A) outer s H:=⟨e0.frames,e0.mod,e0.bs,e0.bsz,e0.funs,e0.frf,e0.hok,e0.bare⟩;have I0:Inv (tQ CX0 P w K mg base N q (aF st) f cdv (aGx A) outer s H λ _ _ _=>False) [] (start N vs) H s1:=rF S rfl e1 (len _ _ _ _ hsp) r x;have I1:Inv (cxH P w K mg base N q (aF st) f cdv A outer s H) [] (start N vs) H s1:=I0.re rfl (λ z=>nomatch z);refine zBC (ht [] s1 (start N vs) H _ I1 hq) (λ fl s' hs=>?_) λ e s' hs=>hs.elim
 cases fl with
 |ret u=>obtain⟨v,Z',H',J,rv,q⟩:=hs;exact⟨v,H',J.os,J.bare,J.base,J.hok,rv,q⟩
 |next=>obtain⟨Z',H',J,q⟩:=hs;exact⟨.non,H',J.os,J.bare,J.base,J.hok,rfl,q⟩
 |brk=>obtain⟨_,_,_,q⟩:=hs;exact q.elim
 |cont=>obtain⟨_,_,_,q⟩:=hs;exact q.elim
end
section
variable{X:Cx}{k:Nat}{f:Addr}{fd:zAo}{ps:List Str}{sp:Sp}{dvs:List V}{ds:List Value}{E:XK}{x:Str}{p pos:Pos}{e:Expr}{es:List Expr}{t:TA}
def aFm(F:FnH X.prog X.w X.K X.mg X.base k f fd ps sp)(hr:jB k X.A)(hg:Gl X x)(hm:X.mg x=some (.ref f))(hk:zBZ X.K (.ref f)=true)(hb:Binds X.K fd ps ds)(hd:Vals dvs ds)
  (ha:PA X (e::es) t)(hdb:Nd x:=by decide)(he:zAY (e::es) X.env=(false,eval e X.env)::zAY es X.env:=by rfl)(hpl:(zCE pos (zAY es X.env)).any (·.1)=false:=by rfl):
  PE X (.Call (.Name x p) (e::es) [] pos) (zy sp dvs E t):=by
 intro hV s Z H Q I h;refine zBa (nJ I hg hm (zEX (h₀:=X.base) I.ok.mod.kin hk (thn (ha pos hV s Z H _ I h) λ us s1 hz=>?_) he hpl) hdb);obtain⟨vs,H1,I1,r,q⟩:=hz;refine⟨I1.kIn,zIV (zEa (F.run X.A X.stack s1 H1 ⟨us,[]⟩ (us++ds) (vs++dvs) Q E hr I1.env0 (hb s1 us I1.kIn ?_) (r.append hd) q) λ r' s' hq=>?_)⟩
 .rw[<-(r.append hd).length];exact F.len _ _ _ _ q
 .cases r' with
  |error e=>exact zAF hq
  |ok fl=>
   cases fl with
   |ret u=>exact I1.after hq
   |next=>exact zAF hq
   |brk=>exact zAF hq
   |cont=>exact zAF hq
end
def spW(wd:Addr->Option Str):Sp:=λ vs H Q _=>∃ea C w,vs=[.ref ea]/\H ea=some (.ext (excφ ea C))/\wd C=some w/\∀H',aO H H'->Q (.str w) H'
def spR(P:zAS)(w:World)(K:zAA)(mg:Str->Option Value)(base:Heap)(k0:Nat)(told:Str)(wd:Addr->Option Str):Sp:=λ vs H Q _=>∃f cls dd sl fd k sp,vs=[.ref f]/\H f=some (.frz ⟨cls,dd,.func fd,sl⟩ (.own f))/\cg P w K mg base (CX1 P w) k f fd [] sp/\k<=k0/\Binds K fd [] []/\
 sp [] H (λ _ H'=>Q (.str told) H') (λ c _ H1=>∃C wo,c= .ref C/\wd C=some wo/\∀H',aO H1 H'->Q (.str wo) H')
section
variable{X:Cx}{E:XK}{n0 n1 n2 few cn pe told:Str}{C' fc:Addr}{fdc:zAo}{kc k0:Nat}{wd:Addr->Option Str}
def aFN(D:cj X E)(hc:X.calm=true)(hN:X.N=[n0,n1,n2])(nd:X.N.Nodup)(l0:X.env.scope.names.lookup n0=some .local)(l1:X.env.scope.names.lookup n1=some .local)(l2:X.env.scope.names.lookup n2=some .local)(hf:∀x,X.fn x=true)
  (hm:X.mg few=some (.ref C'))(hg:Gl X few)(hC':bu X.K C')(FC:FnH X.prog X.w X.K X.mg X.base kc fc fdc [pe] (spW wd))(hgc:Gl X cn)(hmc:X.mg cn=some (.ref fc))(hkc:zBZ X.K (.ref fc)=true)(hbc:Binds X.K fdc [pe] [])
  (hr:dj k0 X.A)(hkk:kc<=k0)(hw:∀C w,wd C=some w->bu X.K C/\rN X.K C C'=true){p1 p2 p3 p4 p5 p6 p7 p8 p9 p10 p11 p12 p13 p14 p15 p16:Pos}{j1:Nat}{vs:List V}{H:Hp}{Q:VK}{E0:XK}(h:spR X.prog X.w X.K X.mg X.base k0 told wd vs H Q E0)
  (d1:Nd few:=by decide)(d2:Nd cn:=by decide)(d3:Nd n0:=by decide)(d4:Nd n1:=by decide)(d5:Nd n2:=by decide)
  (d6:(n0==("__classdict__":Str))=false:=by decide)(d7:(n1==("__classdict__":Str))=false:=by decide)(d8:(n2==("__classdict__":Str))=false:=by decide):
  ∃t,PSs X [.Assign [.Name n1 p1] (.Constant (.str told) j1 p2) p3,.Try [.Expr (.Call (.Name n0 p4) [] [] p5) p6] [.ExceptHandler (some (.Name few p7)) (some n2) [.Assign [.Name n1 p8] (.Call (.Name cn p9) [.Name n2 p10] [] p11) p12] p13] [] [] p14,.Return (some (.Name n1 p15)) p16] t/\
   t {nx:=λ _ H'=>Q .non H',rt:=Q} (start X.N vs) H:=by
 obtain⟨f,cls,dd,sl,fd,k,sp,rfl,hH,F,hk,hb,hsp⟩:=h;have i0:X.N[0]? =some n0:=by rw[hN];rfl
 have i1:X.N[1]? =some n1:=by rw[hN];rfl
 have i2:X.N[2]? =some n2:=by rw[hN];rfl
 refine⟨_,dG (km nd i1 (.inl l1) dm (hf:=.inl (hf _))) (dG (aF1 (E':=λ c _ H1=>∃C wo,c= .ref C/\wd C=some wo/\∀H',aO H1 H'->Q (.str wo) H') D hc nd i2 l2 hm hg hC' (tb:=rW (aBX X k0 0 λ c _ H1=>∃C wo,c= .ref C/\wd C=some wo/\∀H',aO H1 H'->Q (.str wo) H')) (th:=zz (zy (spW wd) [] E (gO (jR 2) nU)) (oE 1))
  (λ hV=>jL (lA (aFd (X:=X.tr hV _) hr Cx.tr_pass i0 (.inl l0) d3 d6))) (λ hV ea=>jL (km (X:=X.ha hV ea) nd i1 (.inl l1) (aFm (X:=X.ha hV ea) FC ((hr.h.mono hkk).mark) hgc hmc hkc hbc .nil (aW (cu (X:=X.ha hV ea) i2 (.inl l2) d5 d8) cI) d2) (hf:=.inl (hf _)))) d1) (jL (uo (cu i1 (.inl l1) d4 d7)))),?_⟩
 have hs:start X.N [.ref f]=[some (.ref f),none,none]:=by rw[hN];rfl
 rw[hs];have e:(λ(_:V) H1=>Q (.str told) H1)=λ(_:V) H1=>aKW (jR 1) {nx:=λ _ H'=>Q .non H',rt:=Q} [some (.ref f),some (.str told),none] H1:=by
  funext v H1;exact propext ⟨λ q=>⟨_,rfl,q⟩,λ⟨v',e',q⟩=>by cases e';exact q⟩
 rw[e]at hsp;have key:aEf X 2 C' (λ c _ H1=>∃C wo,c= .ref C/\wd C=some wo/\∀H',aO H1 H'->Q (.str wo) H') (rW (aBX X k0 0 λ c _ H1=>∃C wo,c= .ref C/\wd C=some wo/\∀H',aO H1 H'->Q (.str wo) H')) (zz (zy (spW wd) [] E (gO (jR 2) nU)) (oE 1))
  {nx:=aKW (jR 1) {nx:=λ _ H'=>Q .non H',rt:=Q},rt:=Q} [some (.ref f),some (.str told),none] H:=?_
 .exact key
 refine⟨⟨f,cls,dd,sl,fd,k,sp,rfl,hH,F,hk,hb,hsp⟩,λ c H1 ⟨C,wo,ec,hwd,hq⟩=>⟨C,ec,(hw C wo hwd).1,(hw C wo hwd).2,λ Z1 ea hl hn=>?_⟩⟩
 .rw[hN]at hl
  obtain⟨a,b,c,rfl⟩:∃a b c,Z1=[a,b,c]:=by
   match Z1,hl with
   |[a,b,c],_=>exact⟨a,b,c,rfl⟩
  refine⟨.ref ea,rfl,ea,C,wo,rfl,aR,hwd,λ H' sm=>⟨.str wo,rfl,hq H' λ b o e=>sm b o ?_⟩⟩;rw[aL (bH e hn)];exact e
end
mutual
def eqD:D->D->Bool
 | .non,.non=>true
 | .bl a,.bl b=>a==b
 | .bl a,.int b=>(if a then 1 else 0)==b
 | .int a,.bl b=>a==(if b then 1 else 0)
 | .int a,.int b=>a==b
 | .str a,.str b=>a==b
 | .tup l,.tup m=>gj l m
 | .lst l,.lst m=>gj l m
 |_,_=>false
def gj:List D->List D->Bool
 |[],[]=>true
 |x::xs,y::ys=>eqD x y&&gj xs ys
 |_,_=>false
end
mutual
def iu:D->Nat
 | .tup l=>dJ l+1
 | .lst l=>dJ l+1
 |_=>0
def dJ:List D->Nat
 |[]=>0
 |d::r=>max (iu d) (dJ r)
end
mutual
def aY:D->Bool
 | .tup l=>bC l
 | .lst l=>bC l
 | .dct=>false
 |_=>true
def bC:List D->Bool
 |[]=>true
 |d::r=>aY d&&bC r
end
mutual
theorem gZ:∀d:D,aY d=true->eqD d d=true
 | .non,_=>by simp[eqD]
 | .bl b,_=>by simp[eqD]
 | .int i,_=>by simp[eqD]
 | .str x,_=>by simp[eqD]
 | .tup l,h=>by simp only[eqD];exact fY l (by simpa[aY]using h)
 | .lst l,h=>by simp only[eqD];exact fY l (by simpa[aY]using h)
 | .dct,h=>by simp[aY]at h
theorem fY:∀l:List D,bC l=true->gj l l=true
 |[],_=>by simp[gj]
 |d::r,h=>by
  simp only[bC,zAC]at h;simp only[gj,zAC];exact⟨gZ d h.1,fY r h.2⟩
end
mutual
theorem Rep.inj{H:Hp}:∀{x:V} {d e:D},Rep H x d->Rep H x e->d=e
 |_,_,_,.non,h=>by cases h;rfl
 |_,_,_,.bl b,h=>by cases h;rfl
 |_,_,_,.int i,h=>by cases h;rfl
 |_,_,_,.str x,h=>by cases h;rfl
 |_,_,_,.tup ha r,h=>by
  cases h with
  |tup hb r'=>rw[ha]at hb;cases hb;rw[jH.inj r r']
  |lst hb _=>rw[ha]at hb;cases hb
  |dct hb=>rw[ha]at hb;cases hb
 |_,_,_,.lst ha r,h=>by
  cases h with
  |tup hb _=>rw[ha]at hb;cases hb
  |lst hb r'=>rw[ha]at hb;cases hb;rw[jH.inj r r']
  |dct hb=>rw[ha]at hb;cases hb
 |_,_,_,.dct ha,h=>by
  cases h with
  |tup hb _=>rw[ha]at hb;cases hb
  |lst hb _=>rw[ha]at hb;cases hb
  |dct hb=>rfl
theorem jH.inj{H:Hp}:∀{xs:List V} {ds es:List D},jH H xs ds->jH H xs es->ds=es
 |_,_,_,.nil,h=>by cases h;rfl
 |_,_,_,.cons h r,h'=>by
  cases h' with
  |cons k r'=>rw[Rep.inj h k,jH.inj r r']
end
theorem mY:∀(l m:List D),gj l m=((zA1 (min l.length m.length)).all (λ j=>match l[j]?,m[j]? with|some a,some b=>eqD a b|_,_=>true)&&l.length==m.length)
 |[],[]=>by simp[gj]
 |[],y::ys=>by simp[gj]
 |x::xs,[]=>by simp[gj]
 |x::xs,y::ys=>by
  have ih:=mY xs ys;simp only[gj,ih,zA6,zH2,zCq,zGH,zGZ,zCB,zGY,zCA,zGy,zHf,zES];congr 1;congr 1;simp
theorem jh:∀{l:List D} {d:D},d∈l->iu d<=dJ l
 |x::r,d,h=>by
  simp only[dJ];rcases zAN.mp h with rfl|h
  .exact zFW _ _
  .exact zAh (jh h) (zFB _ _)
theorem eO:∀{l:List D} {d:D},d∈l->bC l=true->aY d=true
 |x::r,d,h,n=>by
  simp only[bC,zAC]at n;rcases zAN.mp h with rfl|h
  .exact n.1
  .exact eO h n.2
def cX{ds es:List D}{n m:Nat}(hn:n=ds.length)(hm:m=es.length):((zA1 (min n m)).all (λ j=>match ds[j]?,es[j]? with|some a,some b=>eqD a b|_,_=>true)&&n==m)=gj ds es:=by
 subst hn hm;exact(mY ds es).symm
def oW{P:zAS}{w:World}{H:Hp}{h:Heap}(hok:HOk P w H h){a:Addr}{xs:List V}(e:H a=some (.tup xs)):∃its:List Value,Vals xs its/\h.IsTuple a its.toArray:=by
 obtain⟨_,its,r,p⟩:=hok a _ e;exact⟨its,r,p⟩
def mJ{P:zAS}{w:World}{H:Hp}{h:Heap}(hok:HOk P w H h){a:Addr}{xs:List V}(e:H a=some (.lst xs)):∃its:List Value,Vals xs its/\h.IsList a its.toArray:=by
 obtain⟨_,its,n,r,p⟩:=hok a _ e;exact⟨its,r,_,p,rfl,n,rfl⟩
section
variable{P:zAS}{w:World}{H:Hp}{s:zAB}
mutual
theorem aGn(hok:HOk P w H s.heap):∀{x y:V} {d e:D} (n:Nat) {A:zA8} {u v:Value},Rep H x d->Rep H y e->RelV x u->RelV y v->iu d<=n->aY d=true->aY e=true->A.units+n<cLine->zBs A s u v (eqD d e)
 |_,_,_,_,n,A,u,v,r1,r2,ru,rv,hd,nd,ne,hu=>by
  have hu0:A.units<cLine:=by omega
  cases r1 with
  |tup h1 q1=>
   rename_i a xs ds;cases ru;obtain⟨its,w1,t1⟩:=oW hok h1;cases r2 with
   |tup h2 q2=>
    rename_i b ys es;cases rv;obtain⟨its2,w2,t2⟩:=oW hok h2;by_cases hab:a=b
    .subst hab
     have e:=Rep.inj (Rep.tup h1 q1) (Rep.tup h2 q2);rw[<-e,gZ _ nd];exact zC5 _
    .simp only[iu]at hd
     obtain⟨k,rfl⟩:∃k,n=k+1:=⟨n-1,by omega⟩
     have z:=zER t1 t2 hu0 (aAj hok k q1 q2 w1 w2 (by omega) (by simpa[aY]using nd) (by simpa[aY]using ne) (by show A.units+1+k<cLine;omega));rw[cX (by rw[zAM,<-w1.length,q1.length]) (by rw[zAM,<-w2.length,q2.length])]at z;simp only[eqD];exact zBz hab z
   |lst h2 q2=>
    cases rv;obtain⟨its2,w2,t2⟩:=mJ hok h2;simp only[eqD];exact zFT t1 t2 hu0
   |dct h2=>simp[aY]at ne
   |non=>cases rv;simp only[eqD];exact zFU t1 hu0
   |bl b=>cases rv;simp only[eqD];exact zFS b t1 hu0
   |int i=>obtain⟨tk,rfl⟩:=rv;simp only[eqD];exact zFd i tk t1 hu0
   |str i=>obtain⟨tk,rfl⟩:=rv;simp only[eqD];exact zFe i tk t1 hu0
  |lst h1 q1=>
   rename_i a xs ds;cases ru;obtain⟨its,w1,t1⟩:=mJ hok h1;cases r2 with
   |lst h2 q2=>
    rename_i b ys es;cases rv;obtain⟨its2,w2,t2⟩:=mJ hok h2;by_cases hab:a=b
    .subst hab
     have e:=Rep.inj (Rep.lst h1 q1) (Rep.lst h2 q2);rw[<-e,gZ _ nd];exact zC5 _
    .simp only[iu]at hd
     obtain⟨k,rfl⟩:∃k,n=k+1:=⟨n-1,by omega⟩
     have l1:its.toArray.size=ds.length:=by rw[zAM,<-w1.length,q1.length]
     have l2:its2.toArray.size=es.length:=by rw[zAM,<-w2.length,q2.length]
     by_cases hl:its.toArray.size=its2.toArray.size
     .have z:=zE2 t1 t2 hl hu0 (aAj hok k q1 q2 w1 w2 (by omega) (by simpa[aY]using nd) (by simpa[aY]using ne) (by show A.units+1+k<cLine;omega))
      have z':=cX (ds:=ds) (es:=es) l1 l2;rw[<-hl,zG8,beq_self_eq_true,zDi]at z';rw[z']at z;simp only[eqD];exact zBz hab z
     .have z:=zDV t1 t2 (by simpa using hl) hu0
      have z':=cX (ds:=ds) (es:=es) l1 l2;rw[beq_eq_false_iff_ne.mpr hl,zD3]at z';simp only[eqD];rw[<-z'];exact zBz hab z
   |tup h2 q2=>
    cases rv;obtain⟨its2,w2,t2⟩:=oW hok h2;simp only[eqD];exact zFQ t1 t2 hu0
   |dct h2=>simp[aY]at ne
   |non=>cases rv;simp only[eqD];exact zF9 t1 hu0
   |bl b=>cases rv;simp only[eqD];exact zF8 b t1 hu0
   |int i=>obtain⟨tk,rfl⟩:=rv;simp only[eqD];exact zFu i tk t1 hu0
   |str i=>obtain⟨tk,rfl⟩:=rv;simp only[eqD];exact zFv i tk t1 hu0
  |dct h1=>simp[aY]at nd
  |non=>
   cases ru;cases r2 with
   |tup h2 q2=>cases rv;obtain⟨_,_,t2⟩:=oW hok h2;simp only[eqD];exact zFR t2 hu0
   |lst h2 q2=>cases rv;obtain⟨_,_,t2⟩:=mJ hok h2;simp only[eqD];exact zFb t2 hu0
   |dct h2=>simp[aY]at ne
   |non=>cases rv;simp only[eqD];exact zC5 _
   |bl b=>cases rv;simp only[eqD];exact zFa b
   |int i=>obtain⟨tk,rfl⟩:=rv;simp only[eqD];exact zFw i tk
   |str i=>obtain⟨tk,rfl⟩:=rv;simp only[eqD];exact zFx i tk
  |bl a=>
   cases ru;cases r2 with
   |tup h2 q2=>cases rv;obtain⟨_,_,t2⟩:=oW hok h2;simp only[eqD];exact zFP a t2 hu0
   |lst h2 q2=>cases rv;obtain⟨_,_,t2⟩:=mJ hok h2;simp only[eqD];exact zF5 a t2 hu0
   |dct h2=>simp[aY]at ne
   |non=>cases rv;simp only[eqD];exact zF6 a
   |bl b=>cases rv;simp only[eqD];exact zDk a b
   |int i=>obtain⟨tk,rfl⟩:=rv;simp only[eqD];exact zFp a i tk
   |str i=>obtain⟨tk,rfl⟩:=rv;simp only[eqD];exact zFq a i tk
  |int a=>
   obtain⟨tu,rfl⟩:=ru;cases r2 with
   |tup h2 q2=>cases rv;obtain⟨_,_,t2⟩:=oW hok h2;simp only[eqD];exact zF7 a tu t2 hu0
   |lst h2 q2=>cases rv;obtain⟨_,_,t2⟩:=mJ hok h2;simp only[eqD];exact zFs a tu t2 hu0
   |dct h2=>simp[aY]at ne
   |non=>cases rv;simp only[eqD];exact zFt a tu
   |bl b=>cases rv;simp only[eqD];exact zFr a tu b
   |int i=>obtain⟨tk,rfl⟩:=rv;simp only[eqD];exact zED a tu i tk
   |str i=>obtain⟨tk,rfl⟩:=rv;simp only[eqD];exact zEE a tu i tk
  |str a=>
   obtain⟨tu,rfl⟩:=ru;cases r2 with
   |tup h2 q2=>cases rv;obtain⟨_,_,t2⟩:=oW hok h2;simp only[eqD];exact zFc a tu t2 hu0
   |lst h2 q2=>cases rv;obtain⟨_,_,t2⟩:=mJ hok h2;simp only[eqD];exact zFz a tu t2 hu0
   |dct h2=>simp[aY]at ne
   |non=>cases rv;simp only[eqD];exact zGA a tu
   |bl b=>cases rv;simp only[eqD];exact zFy a tu b
   |int i=>obtain⟨tk,rfl⟩:=rv;simp only[eqD];exact zEF a tu i tk
   |str i=>obtain⟨tk,rfl⟩:=rv;simp only[eqD];exact zGE a tu i tk
 termination_by _ _ _ _ n=>(n,0)
theorem aAj(hok:HOk P w H s.heap):∀{xs ys:List V} {ds es:List D} (n:Nat) {A:zA8} {us vs:List Value},jH H xs ds->jH H ys es->Vals xs us->Vals ys vs->dJ ds<=n->bC ds=true->bC es=true->A.units+n<cLine->
  ∀(j:Nat) (h1:j<us.toArray.size) (h2:j<vs.toArray.size),zBs A s us.toArray[j] vs.toArray[j] (match ds[j]?,es[j]? with|some a,some b=>eqD a b|_,_=>true)
 |xs,ys,ds,es,n,A,us,vs,q1,q2,w1,w2,hd,nd,ne,hu,j,h1,h2=>by
  have hj1:j<us.length:=by simpa using h1
  have hj2:j<vs.length:=by simpa using h2
  have hx:j<xs.length:=by rw[w1.length];exact hj1
  have hy:j<ys.length:=by rw[w2.length];exact hj2
  have ex:=zAH hx;have ey:=zAH hy;obtain⟨d,ed,rd⟩:=q1.get ex;obtain⟨e,ee,re⟩:=q2.get ey;obtain⟨u,eu,ru⟩:=w1.get ex;obtain⟨v,ev,rv⟩:=w2.get ey;have e1:us.toArray[j]=u:=by
   rw[zDH];exact zAe ((zAH hj1).symm.trans eu)
  have e2:vs.toArray[j]=v:=by
   rw[zDH];exact zAe ((zAH hj2).symm.trans ev)
  rw[e1,e2,ed,ee];exact aGn hok n rd re ru rv (zAh (jh (zAg ed)) hd) (eO (zAg ed) nd) (eO (zAg ee) ne) hu
 termination_by _ _ _ _ n=>(n,1)
end
end
section
variable{P:zAS}{w:World}{H:Hp}{s:zAB}
open Classical in
def aGm(H:Hp)(d:D)(u:Value):Bool:=if h:∃e,∃y,RelV y u/\Rep H y e then eqD (choose h) d else false
def aDL{d e:D}{y:V}{u:Value}(r:RelV y u)(h:Rep H y e):aGm H d u=eqD e d:=by
 have hx:∃e,∃y,RelV y u/\Rep H y e:=⟨e,y,r,h⟩
 unfold aGm;rw[dif_pos hx];obtain⟨y',r',h'⟩:=Classical.choose_spec hx;have e1:=RelV.inj r r';subst e1;rw[Rep.inj h' h]
theorem aDU(hok:HOk P w H s.heap){d:D}{x:V}{v:Value}(rx:Rep H x d)(rv:RelV x v){n:Nat}{A:zA8}(hu:A.units+n<cLine)(nd:aY d=true):∀{xs:List V} {es:List D} {us:List Value},jH H xs es->Vals xs us->dJ es<=n->bC es=true->∀u∈us,zBs A s u v (aGm H d u)
 |_,_,_,.nil,.nil,_,_,u,hm=>by cases hm
 |_,_,_,.cons h r,.cons k t,hd,ne,u,hm=>by
  simp only[dJ]at hd;simp only[bC,zAC]at ne;rcases zAN.mp hm with z|z
  .subst z
   rw[aDL k h];exact aGn hok n h rx k rv (zAh (zFW _ _) hd) ne.1 nd hu
  .exact aDU hok rx rv hu nd r t (zAh (zFB _ _) hd) ne.2 u z
end
section
variable{H:Hp}{d:D}
theorem sZ:∀{xs:List V} {es:List D} {us:List Value},jH H xs es->Vals xs us->us.countP (aGm H d)=es.countP (λ e=>eqD e d)
 |_,_,_,.nil,.nil=>rfl
 |_,_,_,.cons h r,.cons k t=>by rw[zHX,zHX,aDL k h,sZ r t]
end
section
variable{X:Cx}
def aCj:V->List V->Hp->VK->Prop:=λ x xs H Q=>∃a y d es,x= .ref a/\xs=[y]/\Rep H (.ref a) (.lst es)/\Rep H y d/\dJ es<=60/\aY d=true/\bC es=true/\Q (.int (es.countP (λ e=>eqD e d):Nat)) H
def aDr(hu:X.A.units+64<cLine):MtR X "list.count" aCj:=by
 intro hV s Z H x xs v us Q I rx rxs h;obtain⟨a,y,d,es,rfl,rfl,ra,rd,hd,nd,ne,q⟩:=h;cases rx;obtain⟨u,rfl,ru⟩:=Vals.one rxs;have hu1:X.A.in1.units+60<cLine:=by show X.A.units+1+60<cLine;omega
 cases ra with
 |lst ha r=>
  obtain⟨its,rv,tl⟩:=mJ I.hok ha;obtain⟨⟨cls,dd,data,sl⟩,ho,hc,n,hdd⟩:=id tl;simp only at hc hdd;subst hc hdd;refine zCF zCa ⟨_,ho,rfl⟩ zFO (zFG _ _) (zGp a its.toArray n dd sl u (aGm H d))
   ⟨ho,λ w hw=>aDU I.hok rd ru hu1 nd r rv hd ne w (by simpa using hw),?_⟩
  rw[show its.toArray.toList=its from rfl,sZ r rv];exact⟨.int _,H,I.tok _,⟨_,rfl⟩,q⟩
end
def aBY(K:zAA)(c:V):TE:=tCB (aJr K) (gO (jR 0) (gO (tC c) nU))
def lQ(K:zAA):List V->TA
 |[]=>nU
 |c::cs=>gO (aBY K c) (lQ K cs)
def wY:List Str->TA
 |[]=>nU
 |x::xs=>gO (tC (.str x)) (wY xs)
def Kt(K:zAA)(C:Addr)(c:V)(b:Bool):Prop:=∃u,RelV c u/\zB9 K (.ref C) u=some b
section
variable{K:zAA}{Z:St}{H:Hp}{ea C:Addr}
def yM{c:V}{b:Bool}{Q:VK}(hs:Z[0]? =some (some (.ref ea)))(hH:H ea=some (.ext (excφ ea C)))(hk:aJ6 K C)(h:Kt K C c b)(q:Q (.bl b) H):aBY K c Z H Q:=by
 obtain⟨u,r,e⟩:=h;exact⟨.ref ea,hs,ea,C,c,u,b,rfl,r,hH,hk,e,q⟩
theorem lu(hs:Z[0]? =some (some (.ref ea)))(hH:H ea=some (.ext (excφ ea C)))(hk:aJ6 K C):∀{cs:List V} {bs:List Bool} {Q:List V->Hp->Prop},zE5 (Kt K C) cs bs->Q (bs.map V.bl) H->lQ K cs Z H Q
 |_,_,_,.nil,q=>q
 |_,_,_,.cons h r,q=>yM hs hH hk h (lu hs hH hk r q)
theorem uN:∀{l:List Str} {Q:List V->Hp->Prop},Q (l.map V.str) H->wY l Z H Q
 |[],_,q=>q
 |x::l,_,q=>uN (l:=l) (Q:=λ xs H2=>_) q
end
structure Wd(K:zAA)(c1 c2:V)(ks:List (List V))(ws:List Str)(C:Addr)(w:Str):Prop where
 k:aJ6 K C
 q1:Kt K C c1 true
 q2:Kt K C c2 true
 bs:∃(b1 b2 b3 b4:List Bool) (j:Nat) (k1 k2 k3 k4:List V),ks=[k1,k2,k3,k4]/\zE5 (Kt K C) k1 b1/\zE5 (Kt K C) k2 b2/\zE5 (Kt K C) k3 b3/\zE5 (Kt K C) k4 b4/\(b1++b2++b3++b4).length<=100/\(b1++b2++b3++b4).count true=1/\
  (b1++b2++b3++b4)[j]? =some true/\(∀m,m<j->(b1++b2++b3++b4)[m]? =some false)/\ws[j]? =some w
section
variable{X:Cx}{n0 n1 n2 odd:Str}{c1 c2:V}{k1 k2 k3 k4:List V}{l1 l2:List Str}{a1 a2:Expr}{as1 as2 e1 e2 e3 e4 w1 w2:List Expr}{kw1 kw2:List zBw}{Q:VK}{H:Hp}{vs:List V}
 {p1 p2 p3 p4 p5 p6 p7 p8 p9 p10 p11 p12 p13 p14 p15 p16 p17 p18 p19 p20 p21 p22 p23 p24 p25 p26 p27 p28 p29 p30 p31 p32 p33 p34 p35 p36 p37 p38 p39 p40:Pos}{q1 q2 q3 q4 q5 q6 q7:Pos}{j1 j2 j3 j4 j5:Nat}{E0:XK}{wd:Addr->Option Str}
end
structure zg(d:Nat)(e tg iter:Expr)(ifs:List Expr)(body:Env->Addr->Sem Unit):Prop where
 under:∀(A:zA8) (it:Value) (D:Addr) (env:Env),A.under (.compLoop e d it (.ref D) env)=A
 den:∀(prog:zAS) (w:World) (it:Value) (D:Addr) (env:Env),(model prog w).den (.compLoop e d it (.ref D) env)=(compTurn e d it (.ref D) env).onRaise (λ x=>do noteFrame x env;theTreesLotGoes x)
 turn:∀(it:Value) (D:Addr) (env:Env),compTurn e d it (.ref D) env=(do
   zFh iter.pos
   match <-zIA it with
   |none=>pure (.done .next)
   |some v=>
    zCu tg it v
    zDv tg env v
    let mut ok:=true
    for c in ifs do if ok then ok <-isTrue c env (eval c env)
    if ok then
     body env D
    again (.compLoop e d it (.ref D) env))
section
variable{s:zAB}{A:zA8}{prog:zAS}{w:World}{R:zEk->zAB->Prop}
def zW{D:Addr}(hb:zg d e tg iter ifs body)(I:Nat->zAB->Prop)
  (one:∀n s,I n s->wpAny (model prog w) A (zIA it) (λ r zD=>match r with
   |none=>R (.ok .next) zD
   |some v=>wpAny (model prog w) A (zCu tg it v) (λ _ zD=>wpAny (model prog w) A (zDv tg env v) (λ _ zS=>
     wpAny (model prog w) A (forIn ifs true λ c r=>if r=true then do let ok <-isTrue c env (eval c env);pure (zBY ok)else pure (zBY r)) (λ ok y9=>if ok=true then wpAny (model prog w) A (body env D) (λ _ s₅=>∃m,m<n/\I m s₅) (λ _ _=>False) y9
      else∃m,m<n/\I m y9) (λ _ _=>False) zS) (λ _ _=>False) zD) (λ _ _=>False) zD) (λ _ _=>False) s)
  (n:Nat)(h:I n s):zCW (model prog w) A (.compLoop e d it (.ref D) env) R s:=by
 refine codeAny_loop rfl I (λ n s hJ=>?_) n h;rw[hb.under,hb.den];refine wpAny_noted ?_;rw[hb.turn];refine zAQ (zEO (zAQ (zBC (one n s hJ) (λ r zD zC=>?_) λ _ _ h'=>h'.elim)));cases r with
 |none=>exact zAi zC
 |some v=>
  refine zAQ (zBC zC (λ _ zD zC=>?_) λ _ _ h'=>h'.elim);refine zAQ (zBC zC (λ _ zS y7=>zAQ (zBC y7 (λ ok y9 y0=>?_) λ _ _ h'=>h'.elim)) λ _ _ h'=>h'.elim);cases ok with
  |false=>exact zAi (And.intro rfl y0)
  |true=>exact zAQ (zBC y0 (λ _ y3 h₄=>zAi ⟨rfl,h₄⟩) λ _ _ h'=>h'.elim)
end
def zj(d:Nat)(e:Expr):Prop:=∀{prog:zAS} {w:World} {A:zA8} {R:zEk->zAB->Prop} {s:zAB} {it acc:Value} {env:Env},
  zCW (model prog w) A (.compLoop e d it acc env) R s->
  wpAny (model prog w) A (pyIter it) (λ it' s'=>zCW (model prog w) A (.compLoop e d it' acc env) R s') (notedBy (model prog w) A env λ x s'=>R (.error x) s') s->
  zCW (model prog w) A (.compStart e d it acc env) R s
structure aHR(prog:zAS)(w:World)(mk:Sem Value)(obs:Obj->Prop)(o:Addr->HO):Prop where
 make:∀{A:zA8} {Q:Value->zAB->Prop} {E:Value->zAB->Prop} {s:zAB},(∀ob,obs ob->Q (.ref s.heap.objs.size) {s with heap:=s.heap.push ob})->wpAny (model prog w) A mk Q E s
 live:∀ob,obs ob->ob.isFreed=false
 ok:∀{H:Hp} {h:Heap} {a:Addr} {ob:Obj},obs ob->h.get? a=some ob->zBX<a->bW prog w H h a (o a)
def PB(X:Cx)(body:Env->Addr->Sem Unit)(tb:Addr->St->Hp->(Hp->Prop)->Prop):Prop:=
 ∀(D:Addr) (hV:gV) (s:zAB) (Z:St) (H:Hp) (Q:Hp->Prop),Inv X hV Z H s->tb D Z H Q->wpAny (model X.prog X.w) X.A (body X.env D) (λ _ s'=>∃H',Inv X hV Z H' s'/\Q H') X.xe s
def aOB(I:Inv X hV Z H s):zBX<s.heap.objs.size:=
 zG7 (by decide) (I.mod.glob.keeps I.bk).lt
def aMk(o:Addr->HO)(wi:TI)(st:St->St)(g:TG)(tt:TT)(tb:Addr->St->Hp->(Hp->Prop)->Prop):TE:=λ Z H Q=>wi Z H λ J H1=>∀l,H1 l=none->∃W:Nat->Nat->Hp->Prop,(∃m,W 0 m (upd H1 l (o l)))/\
 ∀i m H2,W i m H2->((J.stop i H2/\Q (.ref l) H2)\/(J.go i H2/\∀x H3,J.yld i H2 x H3->g x (st Z) H3 λ Z4 H4=>tt Z4 H4 λ ok H5=>
  if ok=true then tb l Z4 H5 λ H6=>∃m',m'<m/\W (i+1) m' H6 else∃m',m'<m/\W (i+1) m' H5))
section
variable{X:Cx}{e tg iter:Expr}{ifs:List Expr}{scope:Scope}{N:List Str}{st:St->St}{ks:List Nat}{wi:TI}{g:TG}{tt:TT}{body:Env->Addr->Sem Unit}{tb:Addr->St->Hp->(Hp->Prop)->Prop}{pos:Pos}{mk:Sem Value}{obs:Obj->Prop}{o:Addr->HO}
def aGv(B:dX X scope N st ks)(hc:X.calm=true)(hT:zg 0 e tg iter ifs body)(hS:zj 0 e)(hA:aHR X.prog X.w mk obs o)(hg:∀C fp z5 zI,PG (X.block scope C N fp z5 zI) tg g)(hgo:qY g ks)(ht:∀C fp z5 zI,aBJ (X.block scope C N fp z5 zI) ifs tt)
  (he:∀C fp z5 zI,PB (X.block scope C N fp z5 zI) body tb){Q:VK}{RR:Value->Addr->zEk->zAB->Prop}
  (I:Inv X hV Z H1 zS)(T:Turn X.prog X.w X.K tg J fp it tn)(h0:tn 0 zS.heap)(hfp:∀b∈fp,lY X hV H1 b)
  (h:∀l,H1 l=none->∃W:Nat->Nat->Hp->Prop,(∃m,W 0 m (upd H1 l (o l)))/\
   ∀i m H2,W i m H2->((J.stop i H2/\Q (.ref l) H2)\/(J.go i H2/\∀x H3,J.yld i H2 x H3->g x (st Z) H3 λ Z4 H4=>tt Z4 H4 λ ok H5=>
    if ok=true then tb l Z4 H5 λ H6=>∃m',m'<m/\W (i+1) m' H6 else∃m',m'<m/\W (i+1) m' H5)))
  (hRR:∀D C H' s',(∃Z',Inv (X.block scope C N fp zS H1) [] Z' H' s')->zS.heap.objs.size<=C->Q (.ref D) H'->RR (.ref D) C (.ok .next) s'):
  wpAny (model X.prog X.w) X.A mk (λ acc y9=>wpAny (model X.prog X.w) X.A (zEl scope X.env.globals (aa scope X.env) [] X.env.qual none .none (some X.env)) (λ cenv y3=>
   zCW (model X.prog X.w) X.A (.compStart e 0 (.ref it) acc {cenv with scope:=zFg scope X.env}) (RR acc cenv.locals) y3) E y9) E zS:=by
 refine hA.make λ ob hob=>aCt λ zC y6 y8 y4=>?_
 dsimp only at y6 y8 y4 ⊢;generalize hH2:zS.heap.push ob=P2 at y6 y8 y4 ⊢;have hC:P2.objs.size=zS.heap.objs.size+1:=by rw[<-hH2,zBp]
 have hDC:zS.heap.objs.size≠P2.objs.size:=by rw[hC];exact zAa (zC7 _)
 have iX:zS.heap.objs.size<=P2.objs.size:=by rw[hC];exact zFX _
 have old:∀b o,zS.heap.get? b=some o->zC.get? b=some o:=λ b o e=>y8 b o (hH2▸zAI _ e)
 have kQ:zC.get? zS.heap.objs.size=some ob:=y8 _ _ (hH2▸zA0 _ (hA.live ob hob));generalize hCe:P2.objs.size=C at y6 y8 y4 hDC iX hC ⊢;have hHD:H1 zS.heap.objs.size=none:=I.hok.fresh (zAP _);have I0:Inv (X.block scope C N fp zS H1) [] (st Z) (upd H1 zS.heap.objs.size (o zS.heap.objs.size)) {zS with heap:=zC,toks:=zS.toks}:=
  I.block B hfp (λ b hb=>by obtain⟨o,e,_⟩:=T.obj 0 _ h0 b hb;exact⟨o,e⟩) (zAP _) iX hDC old y6 y4 (λ c hc=>zAa (zHQ iX hc)) (hA.ok hob kQ (aOB I))
 obtain⟨W,⟨m0,w0⟩,step⟩:=h _ hHD;have h01:tn 0 zC:=T.keep 0 _ _ h0 λ b _ o e=>old b o e
 have kX:∀{H':Hp},(∀b∈fp,H' b=none)->∀b∈fp,lY (X.block scope C N fp zS H1) [] H' b:=λ{H'} hn b hb=>
  ⟨hn b hb,(I0.ok.exf b hb).1,I0.ok.exfs b hb,.inl hb,λ x c e=>(I0.ok.exf b hb).2 x c e,λ p hp=>absurd (show p∈([]:gV)from hp) (by simp)⟩
 have fr0:∀b∈fp,upd H1 zS.heap.objs.size (o zS.heap.objs.size) b=none:=λ b hb=>by
  obtain⟨o,e,_⟩:=T.obj 0 _ h0 b hb;rw[aL (zAa (zAW e))];exact(hfp b hb).1
 have qV:∀sx:zAB,sx={zS with heap:=zC,toks:=zS.toks}->
   zCW (model X.prog X.w) X.A (.compLoop e 0 (.ref it) (.ref zS.heap.objs.size) (X.block scope C N fp zS H1).env) (RR (.ref zS.heap.objs.size) C) sx:=by
  rintro sx rfl;refine zW hT (λ n s'=>∃i H2,Inv (X.block scope C N fp zS H1) [] (st Z) H2 s'/\tn i s'.heap/\(∀b∈fp,H2 b=none)/\W i n H2) ?_ m0 ⟨0,_,I0,h01,fr0,w0⟩;rintro n s3 ⟨i,H2,I2,st2,fr2,w2⟩;rcases step i n H2 w2 with ⟨stop,q⟩|⟨go,nxt⟩
  .refine thn (T.done (X.block scope C N fp zS H1) rfl rfl rfl hc i [] s3 (st Z) H2 _ I2 (kX fr2) st2 stop) λ r s4 ⟨hr,I4⟩=>?_
   subst hr;exact hRR _ C H2 s4 ⟨_,I4⟩ iX q
  .refine thn (T.item (X.block scope C N fp zS H1) rfl rfl rfl hc i [] s3 (st Z) H2 _ I2 (kX fr2) st2 go) λ r s4 ⟨u,hr,h4⟩=>?_
   subst hr;refine thn h4 λ _ s5 ⟨x,H5,I5,r5,y5,st5,fr5⟩=>?_
   have I5p:=I5.pinned (kX fr5) (T.obj _ _ st5);refine thn (hg C fp zS H1 _ s5 (st Z) H5 x u _ I5p r5 (hgo _ _ _ _ (nxt x H5 y5))) λ _ s6 ⟨Z6,H6,I6,q6,aIh,ag6⟩=>?_
   refine thn (ht C fp zS H1 _ s6 Z6 H6 _ I6 q6) λ ok s7 ⟨H7,I7,q7⟩=>?_
   have again:∀{H9:Hp} {s9:zAB},Inv (X.block scope C N fp zS H1) ([]++qx fp s5.heap) Z6 H9 s9->(∃m',m'<n/\W (i+1) m' H9)->
     ∃m,m<n/\∃i H2,Inv (X.block scope C N fp zS H1) [] (st Z) H2 s9/\tn i s9.heap/\(∀b∈fp,H2 b=none)/\W i m H2:=λ{H9 s9} I9 ⟨m',hm,w9⟩=>by
    have aE:∀b∈fp,∀o,s5.heap.get? b=some o->s9.heap.get? b=some o/\H9 b=none:=λ b hb o e=>by
     have z:=I9.pin (b,o) (zA9 _ (zA9 _ (lG hb e)));exact⟨z.1,z.2.1⟩
    refine⟨m',hm,i+1,H9,I9.unpinned.weak (by rw[aIh]) (λ k v e=>?_),T.keep _ _ _ st5 λ b hb o e=>(aE b hb o e).1,λ b hb=>?_,w9⟩
    .have hk:k<(st Z).length:=(zAJ.mp e).1
     have hkN:k<N.length:=by rw[<-B.len Z];exact hk
     obtain⟨_,hks,_⟩:=B.val Z k _ v (zAH hkN) e;rw[ag6 k hks];exact e
    .obtain⟨o,e,_⟩:=T.obj _ _ st5 b hb
     exact(aE b hb o e).2
   cases ok with
   |false=>
    rw[if_neg zA7]at q7 ⊢;exact again I7 q7
   |true=>
    rw[if_pos rfl]at q7 ⊢;exact thn (he C fp zS H1 _ _ s7 Z6 H7 _ I7 q7) λ _ s8 ⟨H8,I8,q8⟩=>again I8 q8
 exact hS (qV _ rfl) (T.self X.A 0 _ _ _ h01 (qV _ rfl))
def aNE(B:dX X scope N st ks)(hc:X.calm=true)(hi:PI X tg iter wi)(hg:∀C fp z5 zI,PG (X.block scope C N fp z5 zI) tg g)(hgo:qY g ks)(ht:∀C fp z5 zI,aBJ (X.block scope C N fp z5 zI) ifs tt)
  (hT:zg 0 e tg iter ifs body)(hS:zj 0 e)(hA:aHR X.prog X.w mk obs o)(he:∀C fp z5 zI,PB (X.block scope C N fp z5 zI) body tb)(hcs:clausesOf e=⟨tg,iter,ifs,0⟩::gs)(hev:eval e X.env=comprehension e scope X.env (firstIterPos (⟨tg,iter,ifs,0⟩::gs) pos) mk false (eval iter X.env))(hs:∀x,zBO iter X.env x=pure x:=by intro _;rfl):PE X e (aMk o wi st g tt tb):=by
 intro hV s Z H Q I h;have hcl:zEe scope X.env=pure (aa scope X.env):=gM λ y hy hk=>I.ok.has _ (B.free y hy hk)
 rw[hev];refine zDw (use:=none) hcs hs hcl B.kind B.loc (thn (hi hV s Z H _ I h) λ v s1 h1=>thn h1 λ itv s2 h2=>?_);obtain⟨it,fp,tn,J,H2,e,I2,T,st2,f2,hq⟩:=h2;subst e;refine aGv (RR:=λ acc C=>compPost (model X.prog X.w) X.A X.xe none (EP X hV Z Q) acc C) B hc hT hS hA hg hgo ht he I2 T st2 f2 hq ?_;intro D C H' s' hJ iX q;have I3:=z8 I2 f2 hJ;obtain⟨Z',J'⟩:=hJ;obtain⟨m,hn,_⟩:=id J'.loc;have hHC:H' C=none:=J'.free;refine⟨m,hn,λ h'' hs''=>⟨.ref D,H',?_,rfl,q⟩⟩;exact I3.turned (t':=s'.toks) (λ b o ne e=>(hs''.2 b ne).trans e) hHC (zCT (zAR I2.lt iX)) (.inr (zAh I2.sz iX))
  (λ x c e z=>by obtain⟨v,ic⟩:=I2.cell x c e;exact absurd (zAR ic.lt (by rw[z];exact iX)) (zAw _))
  (λ p hp z=>absurd (zAR (I2.pinL hp) (by rw[z];exact iX)) (zAw _))
end
def v7(kx vx:Expr)(env:Env)(D:Addr):Sem Unit:=do
 let kv <-eval kx env;let vv <-zDo [kv] (eval vx env);zFh {kx.pos with endLine:=vx.pos.endLine,endCol:=vx.pos.endCol}
 zDo [kv,vv] (dictSet D kv vv)
def aD2(kx vx tg iter:Expr)(ifs:List Expr)(scope:Scope)(pos:Pos):zg 0 (.DictComp kx vx [⟨tg,iter,ifs,0⟩] scope pos) tg iter ifs (v7 kx vx):=
 ⟨λ _ _ _ _=>rfl,λ _ _ _ _ _=>rfl,λ _ _ _=>rfl⟩
def aB0(kx vx tg iter:Expr)(ifs:List Expr)(scope:Scope)(pos:Pos):zj 0 (.DictComp kx vx [⟨tg,iter,ifs,0⟩] scope pos):=λ h0 h=>codeAny_compStart_dict h0 h
end L2
namespace VL
open PySem PySem.Spec PyProof.Rows L2
inductive D where
 |non|bl (b:Bool)|int (i:Int)|str (x:Str)|tup (l:List D)|lst (l:List D)|dct (ks vs:List D)|set (l:List Int)|scr (l:List Int)|fn (x:Str)|itm (o:Option Nat) (l:gX)
instance:Inhabited D:=⟨.non⟩
def kD:Key->D
 | .inl i=>.int i
 | .inr x=>.str x
variable{K:zAA}
def oR(K:zAA)(H:Hp)(a:Addr)(ns:List Int):Prop:=(∃o,H a=some (.frz o (.lst (ns.map V.int))))\/
 ∃(o:Obj) (its:Array Value) (n:Nat),K.lookup a=some o/\o.cls= .type "list"/\o.dict=none/\o.data= .seq its n/\its.size<=zAK/\Vals (ns.map V.int) its.toList
def oR.sq(h:oR K H a ns):SqL K H a (ns.map V.int):=by
 rcases h with h|h
 .exact .inl (.inr h)
 .exact .inr h
def sy(H:Hp)(a:Addr)(oo:Option Nat)(l:gX):Prop:=∃o es ep,o.data= .dict es ep/\(oo=none\/oo=some ep)/\H a=some (.frz o (.dK (l.map λ p=>(.inl p.1,V.int p.2))))
def hsh(ns:List Int):Int:=reduceHash (zIH (ns.map hashInt))
def dxO(a:Addr)(es:List (List Int×Addr×V)):HO:=.ext λ h=>es.length<=zAK/\(a==zBX)=false/\∃(xs:List (List Int×Addr×Value)) (o:Obj) (ts:Array DictEntry) (ep:Nat),zE5 (λ e x=>e.1=x.1/\e.2.1=x.2.1/\RelV e.2.2 x.2.2) es xs/\
 h.get? a=some o/\o.ExactDict/\o.data= .dict ts ep/\ts.toList=xs.map λ x=>⟨hsh x.1,.ref x.2.1,x.2.2⟩
structure DxK(K:zAA)(H:Hp)(a:Addr)(es:List (List Int×Addr×V)):Prop where
 at_:H a=some (dxO a es)
 ks:∀e∈es,SqT K H e.2.1 (e.1.map V.int)
 nd:(es.map (·.1)).Nodup
mutual
inductive Rp(K:zAA):(Addr->Prop)->Hp->V->D->Prop where
 |non {A:Addr->Prop} {H:Hp}:Rp K A H .non .non
 |bl {A:Addr->Prop} {H:Hp} (b:Bool):Rp K A H (.bl b) (.bl b)
 |int {A:Addr->Prop} {H:Hp} (i:Int):Rp K A H (.int i) (.int i)
 |str {A:Addr->Prop} {H:Hp} (x:Str):Rp K A H (.str x) (.str x)
 |tup {A:Addr->Prop} {H:Hp} {a:Addr} {xs:List V} {ds:List D} (h:SqT K H a xs) (r:Rps K A H xs ds):Rp K A H (.ref a) (.tup ds)
 |lst {A:Addr->Prop} {H:Hp} {a:Addr} {xs:List V} {ds:List D} (h:H a=some (.lst xs)) (m:A a) (r:Rps K (λ p=>A p/\p≠a) H xs ds):Rp K A H (.ref a) (.lst ds)
 |dK {A:Addr->Prop} {H:Hp} {a:Addr} {kvs:List (Key×V)} {ds:List D} (h:H a=some (.dK kvs)) (m:A a) (r:Rps K (λ p=>A p/\p≠a) H (kvs.map (·.2)) ds):Rp K A H (.ref a) (.dct (kvs.map λ p=>kD p.1) ds)
 |dT {A:Addr->Prop} {H:Hp} {a:Addr} {es:List (List Int×Addr×V)} {ds:List D} (h:DxK K H a es) (m:A a) (r:Rps K (λ p=>A p/\p≠a) H (es.map (·.2.2)) ds):Rp K A H (.ref a) (.dct (.non::es.map λ e=>.tup (e.1.map .int)) ds)
 |set {A:Addr->Prop} {H:Hp} {a:Addr} {S:Int->Bool} {l:List Int} (h:H a=some (.set S l.length)) (m:A a) (hS:∀i,S i=decide (i∈l)) (nd:l.Nodup):Rp K A H (.ref a) (.set l)
 |scr {A:Addr->Prop} {H:Hp} {a:Addr} {ns:List Int} (h:oR K H a ns):Rp K A H (.ref a) (.scr ns)
 |fn {A:Addr->Prop} {H:Hp} {a:Addr} {x:Str} (h:zAd K zA2 x=some (some (.ref a))):Rp K A H (.ref a) (.fn x)
 |itm {A:Addr->Prop} {H:Hp} {a:Addr} {oo:Option Nat} {l:gX} (h:sy H a oo l):Rp K A H (.ref a) (.itm oo l)
inductive Rps(K:zAA):(Addr->Prop)->Hp->List V->List D->Prop where
 |nil {A:Addr->Prop} {H:Hp}:Rps K A H [] []
 |cons {A:Addr->Prop} {H:Hp} {x:V} {d:D} {xs:List V} {ds:List D} (h:Rp K A H x d) (r:Rps K A H xs ds):Rps K A H (x::xs) (d::ds)
end
def oR.mono(s:aO H H')(h:oR K H a ns):oR K H' a ns:=by
 rcases h with ⟨o,h⟩|h
 .exact .inl ⟨o,s _ _ h⟩
 .exact .inr h
def sy.mono(h:sy H a oo l)(s:aO H H'):sy H' a oo l:=let⟨o,es,ep,y,z,e⟩:=h;⟨o,es,ep,y,z,s _ _ e⟩
def DxK.mono(h:DxK K H a es)(s:aO H H'):DxK K H' a es:=⟨s _ _ h.at_,λ e he=>s.sqt (h.ks e he),h.nd⟩
def Rp.mono'(s:aO H H')(r:Rp K A H x d)(hA:∀p o,H p=some o->A p->A' p):Rp K A' H' x d:=
 Rp.rec (motive_1:=λ A H x d _=>∀H',aO H H'->∀A':Addr->Prop,(∀p o,H p=some o->A p->A' p)->Rp K A' H' x d) (motive_2:=λ A H xs ds _=>∀H',aO H H'->∀A':Addr->Prop,(∀p o,H p=some o->A p->A' p)->Rps K A' H' xs ds)
  (λ _ _ _ _=>.non) (λ b _ _ _ _=>.bl b) (λ i _ _ _ _=>.int i) (λ x _ _ _ _=>.str x) (λ h _ ih _ s _ hA=>.tup (s.sqt h) (ih _ s _ hA))
  (λ h m _ ih _ s _ hA=>.lst (s _ _ h) (hA _ _ h m) (ih _ s _ λ p o e z=>⟨hA p o e z.1,z.2⟩)) (λ h m _ ih _ s _ hA=>.dK (s _ _ h) (hA _ _ h m) (ih _ s _ λ p o e z=>⟨hA p o e z.1,z.2⟩))
  (λ h m _ ih _ s _ hA=>.dT (h.mono s) (hA _ _ h.at_ m) (ih _ s _ λ p o e z=>⟨hA p o e z.1,z.2⟩)) (λ h m hS nd _ s _ hA=>.set (s _ _ h) (hA _ _ h m) hS nd) (λ h _ s _ _=>.scr (h.mono s)) (λ h _ _ _ _=>.fn h) (λ h _ s _ _=>.itm (h.mono s)) (λ _ _ _ _=>.nil) (λ _ _ ih ir _ s _ hA=>.cons (ih _ s _ hA) (ir _ s _ hA)) r H' s A' hA
def Rps.mono'(s:aO H H')(r:Rps K A H xs ds)(hA:∀p o,H p=some o->A p->A' p):Rps K A' H' xs ds:=
 Rps.rec (motive_1:=λ A H x d _=>∀H',aO H H'->∀A':Addr->Prop,(∀p o,H p=some o->A p->A' p)->Rp K A' H' x d) (motive_2:=λ A H xs ds _=>∀H',aO H H'->∀A':Addr->Prop,(∀p o,H p=some o->A p->A' p)->Rps K A' H' xs ds)
  (λ _ _ _ _=>.non) (λ b _ _ _ _=>.bl b) (λ i _ _ _ _=>.int i) (λ x _ _ _ _=>.str x) (λ h _ ih _ s _ hA=>.tup (s.sqt h) (ih _ s _ hA))
  (λ h m _ ih _ s _ hA=>.lst (s _ _ h) (hA _ _ h m) (ih _ s _ λ p o e z=>⟨hA p o e z.1,z.2⟩)) (λ h m _ ih _ s _ hA=>.dK (s _ _ h) (hA _ _ h m) (ih _ s _ λ p o e z=>⟨hA p o e z.1,z.2⟩))
  (λ h m _ ih _ s _ hA=>.dT (h.mono s) (hA _ _ h.at_ m) (ih _ s _ λ p o e z=>⟨hA p o e z.1,z.2⟩)) (λ h m hS nd _ s _ hA=>.set (s _ _ h) (hA _ _ h m) hS nd) (λ h _ s _ _=>.scr (h.mono s)) (λ h _ _ _ _=>.fn h) (λ h _ s _ _=>.itm (h.mono s)) (λ _ _ _ _=>.nil) (λ _ _ ih ir _ s _ hA=>.cons (ih _ s _ hA) (ir _ s _ hA)) r H' s A' hA
def Rp.mono(s:aO H H')(hA:∀p o,H p=some o->A p->A' p)(r:Rp K A H x d):Rp K A' H' x d:=r.mono' s hA
def Rps.mono(s:aO H H')(hA:∀p o,H p=some o->A p->A' p)(r:Rps K A H x d):Rps K A' H' x d:=r.mono' s hA
def Rp.up(s:aO H H')(r:Rp K A H x d):Rp K A H' x d:=r.mono s λ _ _ _ h=>h
def Rp.wk(hA:∀p o,H p=some o->A p->A' p)(r:Rp K A H x d):Rp K A' H x d:=r.mono (aO.refl H) hA
def Rps.up(s:aO H H')(r:Rps K A H x d):Rps K A H' x d:=r.mono s λ _ _ _ h=>h
def Rps.wk(hA:∀p o,H p=some o->A p->A' p)(r:Rps K A H x d):Rps K A' H x d:=r.mono (aO.refl H) hA
def gn:HO->Bool
 | .lst _=>true| .dK _=>true| .dT _=>true| .set _ _=>true| .ext _=>true|_=>false
def tX(s:jF l H H')(hl:H l=some o)(ho:gn o=true)(h:SqT K H a xs):SqT K H' a xs:=by
 rcases h with (h|⟨u,h⟩)|h
 .refine .inl (.inl (s _ _ (λ e=>?_) h))
  subst e;rw[hl]at h;cases h;cases ho
 .refine .inl (.inr ⟨u,s _ _ (λ e=>?_) h⟩)
  subst e;rw[hl]at h;cases h;cases ho
 .exact .inr h
def aCd(s:jF l H H')(hl:H l=some o)(ho:gn o=true)(h:oR K H a ns):oR K H' a ns:=by
 rcases h with ⟨u,h⟩|h
 .exact .inl ⟨u,s _ _ (λ e=>by subst e;rw[hl]at h;cases h;cases ho) h⟩
 .exact .inr h
def sy.but(h:sy H a oo q)(s:jF l H H')(hl:H l=some o)(ho:gn o=true):sy H' a oo q:=let⟨u,es,ep,y,z,e⟩:=h;⟨u,es,ep,y,z,s _ _ (λ z=>by subst z;rw[hl]at e;cases e;cases ho) e⟩
def DxK.but(h:DxK K H a es)(s:jF l H H')(hl:H l=some o)(ho:gn o=true)(ne:a≠l):DxK K H' a es:=
 ⟨s _ _ ne h.at_,λ e he=>tX s hl ho (h.ks e he),h.nd⟩
def Rp.but'(s:jF l H H')(hl:H l=some o)(ho:gn o=true)(r:Rp K A H x d)(hA:¬A l):Rp K A H' x d:=
 Rp.rec (motive_1:=λ A H x d _=>∀H',jF l H H'->∀o:HO,H l=some o->gn o=true->¬A l->Rp K A H' x d) (motive_2:=λ A H xs ds _=>∀H',jF l H H'->∀o:HO,H l=some o->gn o=true->¬A l->Rps K A H' xs ds)
  (λ _ _ _ _ _ _=>.non) (λ b _ _ _ _ _ _=>.bl b) (λ i _ _ _ _ _ _=>.int i) (λ x _ _ _ _ _ _=>.str x) (λ h _ ih _ s o hl ho hA=>.tup (tX s hl ho h) (ih _ s o hl ho hA))
  (λ h m _ ih _ s o hl ho hA=>.lst (s _ _ (λ e=>hA (e▸m)) h) m (ih _ s o hl ho λ z=>hA z.1)) (λ h m _ ih _ s o hl ho hA=>.dK (s _ _ (λ e=>hA (e▸m)) h) m (ih _ s o hl ho λ z=>hA z.1))
  (λ h m _ ih _ s o hl ho hA=>.dT (h.but s hl ho λ e=>hA (e▸m)) m (ih _ s o hl ho λ z=>hA z.1)) (λ h m hS nd _ s o hl ho hA=>.set (s _ _ (λ e=>hA (e▸m)) h) m hS nd) (λ h _ s o hl ho _=>.scr (aCd s hl ho h)) (λ h _ _ _ _ _ _=>.fn h) (λ h _ s o hl ho _=>.itm (h.but s hl ho)) (λ _ _ _ _ _ _=>.nil) (λ _ _ ih ir _ s o hl ho hA=>.cons (ih _ s o hl ho hA) (ir _ s o hl ho hA)) r H' s o hl ho hA
def Rps.but'(s:jF l H H')(hl:H l=some o)(ho:gn o=true)(r:Rps K A H xs ds)(hA:¬A l):Rps K A H' xs ds:=
 Rps.rec (motive_1:=λ A H x d _=>∀H',jF l H H'->∀o:HO,H l=some o->gn o=true->¬A l->Rp K A H' x d) (motive_2:=λ A H xs ds _=>∀H',jF l H H'->∀o:HO,H l=some o->gn o=true->¬A l->Rps K A H' xs ds)
  (λ _ _ _ _ _ _=>.non) (λ b _ _ _ _ _ _=>.bl b) (λ i _ _ _ _ _ _=>.int i) (λ x _ _ _ _ _ _=>.str x) (λ h _ ih _ s o hl ho hA=>.tup (tX s hl ho h) (ih _ s o hl ho hA))
  (λ h m _ ih _ s o hl ho hA=>.lst (s _ _ (λ e=>hA (e▸m)) h) m (ih _ s o hl ho λ z=>hA z.1)) (λ h m _ ih _ s o hl ho hA=>.dK (s _ _ (λ e=>hA (e▸m)) h) m (ih _ s o hl ho λ z=>hA z.1))
  (λ h m _ ih _ s o hl ho hA=>.dT (h.but s hl ho λ e=>hA (e▸m)) m (ih _ s o hl ho λ z=>hA z.1)) (λ h m hS nd _ s o hl ho hA=>.set (s _ _ (λ e=>hA (e▸m)) h) m hS nd) (λ h _ s o hl ho _=>.scr (aCd s hl ho h)) (λ h _ _ _ _ _ _=>.fn h) (λ h _ s o hl ho _=>.itm (h.but s hl ho)) (λ _ _ _ _ _ _=>.nil) (λ _ _ ih ir _ s o hl ho hA=>.cons (ih _ s o hl ho hA) (ir _ s o hl ho hA)) r H' s o hl ho hA
def Rp.but(s:jF l H H')(hl:H l=some o)(ho:gn o=true)(hA:¬A l)(r:Rp K A H x d):Rp K A H' x d:=r.but' s hl ho hA
def Rps.but(s:jF l H H')(hl:H l=some o)(ho:gn o=true)(hA:¬A l)(r:Rps K A H x d):Rps K A H' x d:=r.but' s hl ho hA
mutual
def imm:D->Bool
 | .tup l=>dI l
 | .lst _=>false
 | .dct _ _=>false
 | .set _=>false
 |_=>true
def dI:List D->Bool
 |[]=>true
 |d::r=>imm d&&dI r
end
def nP(e:dI (d::r)=true):imm d=true/\dI r=true:=by
 simp only[dI,zAC]at e;exact e
def aDA(e:imm (.tup l)=true):dI l=true:=by simpa[imm]using e
def aDE(e:imm (.lst l)=true):False:=by simp[imm]at e
def uF(e:imm (.dct l k)=true):False:=by simp[imm]at e
def aDB(e:imm (.set l)=true):False:=by simp[imm]at e
def Rp.imm'(r:Rp K A H x d)(e:VL.imm d=true):Rp K A' H x d:=
 Rp.rec (motive_1:=λ _ H x d _=>VL.imm d=true->Rp K A' H x d) (motive_2:=λ _ H xs ds _=>dI ds=true->Rps K A' H xs ds)
  (λ _=>.non) (λ b _=>.bl b) (λ i _=>.int i) (λ x _=>.str x) (λ h _ ih e=>.tup h (ih (aDA e)))
  (λ _ _ _ _ e=>(aDE e).elim) (λ _ _ _ _ e=>(uF e).elim) (λ _ _ _ _ e=>(uF e).elim) (λ _ _ _ _ e=>(aDB e).elim) (λ h _=>.scr h) (λ h _=>.fn h) (λ h _=>.itm h) (λ _=>.nil) (λ _ _ ih ir e=>.cons (ih (nP e).1) (ir (nP e).2)) r e
def Rps.imm'(r:Rps K A H xs ds)(e:dI ds=true):Rps K A' H xs ds:=
 Rps.rec (motive_1:=λ _ H x d _=>VL.imm d=true->Rp K A' H x d) (motive_2:=λ _ H xs ds _=>dI ds=true->Rps K A' H xs ds)
  (λ _=>.non) (λ b _=>.bl b) (λ i _=>.int i) (λ x _=>.str x) (λ h _ ih e=>.tup h (ih (aDA e)))
  (λ _ _ _ _ e=>(aDE e).elim) (λ _ _ _ _ e=>(uF e).elim) (λ _ _ _ _ e=>(uF e).elim) (λ _ _ _ _ e=>(aDB e).elim) (λ h _=>.scr h) (λ h _=>.fn h) (λ h _=>.itm h) (λ _=>.nil) (λ _ _ ih ir e=>.cons (ih (nP e).1) (ir (nP e).2)) r e
theorem Rp.imm(r:Rp K A H x d)(h:VL.imm d=true):Rp K A' H x d:=r.imm' h
def Rps.imm(r:Rps K A H x d)(h:dI d=true):Rps K A' H x d:=r.imm' h
def Rp.int_inv(r:Rp K A H v (.int i)):v= .int i:=by cases r;rfl
def Rp.bl_inv(r:Rp K A H v (.bl b)):v= .bl b:=by cases r;rfl
def Rp.tup_inv(r:Rp K A H v (.tup ds)):∃a xs,v= .ref a/\SqT K H a xs/\Rps K A H xs ds:=by cases r with|tup h r=>exact⟨_,_,rfl,h,r⟩
def Rp.lst_inv(r:Rp K A H v (.lst ds)):∃a xs,v= .ref a/\H a=some (.lst xs)/\A a/\Rps K (λ p=>A p/\p≠a) H xs ds:=by cases r with|lst h m r=>exact⟨_,_,rfl,h,m,r⟩
def Rp.scr_inv(r:Rp K A H v (.scr ns)):∃a,v= .ref a/\oR K H a ns:=by cases r with|scr h=>exact⟨_,rfl,h⟩
def Rps.one_inv(r:Rps K A H vs [d]):∃v,vs=[v]/\Rp K A H v d:=by cases r with|cons h r=>cases r;exact⟨_,rfl,h⟩
section
variable{A:Addr->Prop}{H:Hp}
theorem Rps.length:∀{xs:List V} {ds:List D},Rps K A H xs ds->xs.length=ds.length:=by
 intro xs ds h;induction xs generalizing ds with
 |nil=>cases h;rfl
 |cons x xs ih=>cases h with|cons _ r=>exact congrArg (·+1) (ih r)
theorem Rps.get:∀{xs:List V} {ds:List D} {i:Nat} {x:V},Rps K A H xs ds->xs[i]? =some x->∃d,ds[i]? =some d/\Rp K A H x d
 |_,_,_,_,.nil,e=>by simp at e
 |_,_,0,_,.cons h _,e=>by simp at e;subst e;exact⟨_,rfl,h⟩
 |_,_,i+1,x,.cons _ r,e=>by
  obtain⟨d,h1,h2⟩:=Rps.get (i:=i) (x:=x) r (by simpa using e);exact⟨d,by simpa using h1,h2⟩
theorem Rps.getD:∀{xs:List V} {ds:List D} {i:Nat} {d:D},Rps K A H xs ds->ds[i]? =some d->∃x,xs[i]? =some x/\Rp K A H x d
 |_,_,_,_,.nil,e=>by simp at e
 |_,_,0,_,.cons h _,e=>by simp at e;subst e;exact⟨_,rfl,h⟩
 |_,_,i+1,d,.cons _ r,e=>by
  obtain⟨x,h1,h2⟩:=Rps.getD (i:=i) (d:=d) r (by simpa using e);exact⟨x,by simpa using h1,h2⟩
def Rps.append:∀{xs ys:List V} {ds es:List D},Rps K A H xs ds->Rps K A H ys es->Rps K A H (xs++ys) (ds++es):=by
 intro xs ys ds es h s;induction xs generalizing ds with
 |nil=>cases h;exact s
 |cons x xs ih=>cases h with|cons h r=>exact .cons h (ih r)
theorem Rps.take:∀{xs:List V} {ds:List D} (n:Nat),Rps K A H xs ds->Rps K A H (xs.take n) (ds.take n)
 |_,_,0,_=>.nil
 |_,_,_+1,.nil=>.nil
 |_,_,n+1,.cons h r=>.cons h (Rps.take n r)
theorem Rps.drop:∀{xs:List V} {ds:List D} (n:Nat),Rps K A H xs ds->Rps K A H (xs.drop n) (ds.drop n)
 |_,_,0,r=>r
 |_,_,_+1,.nil=>.nil
 |_,_,n+1,.cons _ r=>Rps.drop n r
theorem Rps.ints:∀{ns:List Int},Rps K A H (ns.map V.int) (ns.map D.int)
 |[]=>.nil
 |n::ns=>.cons (.int n) Rps.ints
theorem Rps.ints_of:∀{xs:List V} {ns:List Int},Rps K A H xs (ns.map D.int)->xs=ns.map V.int
 |_,[],.nil=>rfl
 |_,n::ns,.cons h r=>by
  cases h;rw[zAE,Rps.ints_of r]
end
def aM(h:a=b):a=b:=h
inductive Rs(α:Type) where
 |ok (a:α)|ex (c:Str)|st
noncomputable def Rs.bd{α β:Type}:Rs α->(α->Rs β)->Rs β
 | .ok a,f=>f a
 | .ex c,_=>.ex c
 | .st,_=>.st
@[simp] def aj(a:α)(f:α->Rs β):(Rs.ok a).bd f=f a:=aM rfl
def cR{r:Rs α}(h:r.bd f= .ok b):∃a,r= .ok a/\f a= .ok b:=by
 cases r with
 |ok a=>exact⟨a,rfl,h⟩
 |ex c=>cases h
 |st=>cases h
abbrev dQ:=List (List D)
inductive Slot where
 |no|sh (d:D)|nw (d:D)|ow (d:D)|oz (d:D)|o2 (l:dQ)
abbrev En:=List Slot
abbrev Lab:=Addr->Nat×Nat
abbrev Mode:=Option (List Nat)
def inM(m:Mode)(n:Nat):Prop:=match m with
 |none=>True
 |some L=>n∈L
def jn:Mode->Mode->Mode
 |some a,some b=>some (a++b)
 |_,_=>none
def aNW(h:inM a n):inM (jn a b) n:=by
 cases a with
 |none=>cases b<;>exact trivial
 |some L=>
  cases b with
  |none=>exact trivial
  |some M=>exact zA4 _ h
def aNV(h:inM b n):inM (jn a b) n:=by
 cases a with
 |none=>cases b<;>exact trivial
 |some L=>
  cases b with
  |none=>exact trivial
  |some M=>exact zA9 _ h
def fpM(m:Mode)(lab:Lab)(H:Hp):Addr->Prop:=λ p=>H p=none\/inM m (lab p).1
def aGk(h:fpM a lab H p):fpM (jn a b) lab H p:=h.imp id aNW
def aGj(h:fpM b lab H p):fpM (jn a b) lab H p:=h.imp id aNV
def je(s:aO H H')(h:fpM m lab H' p):fpM m lab H p:=h.imp (λ z=>s.free z) id
structure Gx where
 H0:Hp
 E:XK
 cl:Str->Addr
def aDo:D->Bool
 | .lst _=>true
 | .dct _ _=>true
 | .set _=>true
 |_=>false
def dw(K:zAA)(H:Hp)(lab:Lab)(i:Nat)(v:V):Slot->Prop
 | .no=>True
 | .sh d=>Rp K (λ p=>(lab p).1<=1) H v d
 | .nw d=>Rp K (λ p=>(lab p).1=1) H v d
 | .ow d=>Rp K (λ p=>(lab p).1=1\/(lab p).1=i+2) H v d/\(aDo d=true->∃a,v= .ref a/\(lab a).1=i+2)
 | .oz d=>∃a xs ds,v= .ref a/\d= .lst ds/\H a=some (.lst xs)/\(lab a).1=i+2/\Rps K (λ p=>(lab p).1<=1) H xs ds
 | .o2 l=>∃a xs,v= .ref a/\H a=some (.lst xs)/\lab a=(i+2,0)/\xs.length=l.length/\∀(j:Nat) x ds,xs[j]? =some x->l[j]? =some ds->Rp K (λ p=>lab p=(i+2,j+1)) H x (.lst ds)
structure RR(K:zAA)(G:Gx)(U:List (V×D))(Y:En)(Z:L2.St)(H:Hp)(lab:Lab):Prop where
 len:Z.length=Y.length
 sl:∀(i:Nat) (s:Slot),Y[i]? =some s->s= .no\/∃v,Z[i]? =some (some v)/\dw K H lab i v s
 old:aO G.H0 H
 new:∀p,(lab p).1≠0->G.H0 p=none
 tm:∀q∈U,Rp K (λ p=>(lab p).1<=1) H q.1 q.2
theorem dw.up(s:aO H H')(h:dw K H lab i v x):dw K H' lab i v x:=by
 cases x with
 |no=>exact trivial
 |sh d=>exact Rp.up s h
 |nw d=>exact Rp.up s h
 |ow d=>exact⟨Rp.up s h.1,h.2⟩
 |oz d=>
  obtain⟨a,xs,ds,e1,e2,e3,e4,e5⟩:=h;exact⟨a,xs,ds,e1,e2,s _ _ e3,e4,e5.up s⟩
 |o2 l=>
  obtain⟨a,xs,e1,e2,e3,e4,e5⟩:=h;exact⟨a,xs,e1,s _ _ e2,e3,e4,λ j x ds f1 f2=>(e5 j x ds f1 f2).up s⟩
def aFG(r:Rp K A H (.ref a) d)(hm:aDo d=true):∃o,H a=some o/\gn o=true/\A a:=by
 cases r with
 |lst h m _=>exact⟨_,h,rfl,m⟩
 |dK h m _=>exact⟨_,h,rfl,m⟩
 |dT h m _=>exact⟨_,h.at_,rfl,m⟩
 |set h m _ _=>exact⟨_,h,rfl,m⟩
 |tup _ _=>cases hm
 |scr _=>cases hm
 |fn _=>cases hm
 |itm _=>cases hm
def aKi(r:Rp K A H v d)(hm:aDo d=true):∃a,v= .ref a:=by
 cases r with
 |lst h m _=>exact⟨_,rfl⟩
 |dK h m _=>exact⟨_,rfl⟩
 |dT h m _=>exact⟨_,rfl⟩
 |set h m _ _=>exact⟨_,rfl⟩
 |_=>cases hm
theorem dw.lab{lab lab':Lab}(hl:∀p o,H p=some o->lab' p=lab p)(h:dw K H lab i v x):dw K H lab' i v x:=by
 cases x with
 |no=>exact trivial
 |sh d=>exact Rp.wk (λ p o e q=>(hl p o e).symm▸q) h
 |nw d=>exact Rp.wk (λ p o e q=>(hl p o e).symm▸q) h
 |ow d=>
  obtain⟨h,t⟩:=h;refine⟨Rp.wk (λ p o e q=>(hl p o e).symm▸q) h,λ m=>?_⟩;obtain⟨a,rfl,ea⟩:=t m;obtain⟨o,ho,_⟩:=aFG h m;exact⟨a,rfl,(congrArg (·.1) (hl a o ho)).trans ea⟩
 |oz d=>
  obtain⟨a,xs,ds,e1,e2,e3,e4,e5⟩:=h;exact⟨a,xs,ds,e1,e2,e3,(congrArg (·.1) (hl _ _ e3)).trans e4,Rps.wk (λ p o e q=>(hl p o e).symm▸q) e5⟩
 |o2 l=>
  obtain⟨a,xs,e1,e2,e3,e4,e5⟩:=h;exact⟨a,xs,e1,e2,(hl _ _ e2).trans e3,e4,λ j x ds f1 f2=>Rp.wk (λ p o e q=>(hl p o e).symm▸q) (e5 j x ds f1 f2)⟩
section
variable{G:Gx}{U:List (V×D)}{Y:En}{Z:L2.St}{H H':Hp}{lab lab':Lab}
theorem RR.up(R:RR K G U Y Z H lab)(s:aO H H'):RR K G U Y Z H' lab:=
 ⟨R.len,λ i x e=>(R.sl i x e).imp id λ⟨v,e1,e2⟩=>⟨v,e1,e2.up s⟩,R.old.trans s,R.new,λ q hq=>(R.tm q hq).up s⟩
def RR.relab(R:RR K G U Y Z H lab)(hl:∀p o,H p=some o->lab' p=lab p)(hn:∀p,(lab' p).1≠0->G.H0 p=none):RR K G U Y Z H lab':=
 ⟨R.len,λ i x e=>(R.sl i x e).imp id λ⟨v,e1,e2⟩=>⟨v,e1,e2.lab hl⟩,R.old,hn,λ q hq=>Rp.wk (λ p o e z=>by rw[hl p o e];exact z) (R.tm q hq)⟩
def RR.drop(R:RR K G (U'++U) Y Z H lab):RR K G U Y Z H lab:=⟨R.len,R.sl,R.old,R.new,λ z hz=>R.tm z (zA9 _ hz)⟩
def RR.put(R:RR K G U Y Z H lab)(h:dw K H lab i v s):RR K G U (Y.set i s) (Z.set i (some v)) H lab:=by
 refine⟨by rw[zBR,zBR,R.len],λ j x e=>?_,R.old,R.new,R.tm⟩;by_cases hj:i=j
 .subst hj
  have hi:i<Y.length:=by
   have:=(zAJ.mp e).1
   rwa [zBR]at this
  rw[zBg hi]at e;cases e;exact .inr ⟨v,by rw[zBg (by rw[R.len];exact hi)],h⟩
 .rw[zBD hj]at e
  rcases R.sl j x e with z|⟨u,e1,e2⟩
  .exact .inl z
  .exact .inr ⟨u,by rw[zBD hj];exact e1,e2⟩
def bV(H:Hp)(n:Nat)(lab:Lab):Lab:=λ p=>match H p with
 |none=>(n,0)
 |some _=>lab p
def bD(h:H p=some o):bV H n lab p=lab p:=by unfold bV;rw[h]
def vA(h:H p=none):bV H n lab p=(n,0):=by unfold bV;rw[h]
def RR.fresh{P:Nat->Prop}(h1:P 1)(hm:∀k,inM m k->P k)(R:RR K G U Y Z H lab)(s:aO H H')(r:Rp K (fpM m lab H) H' v d):
  RR K G U Y Z H' (bV H 1 lab)/\Rp K (λ p=>P (bV H 1 lab p).1) H' v d:=by
 refine⟨(R.relab (λ p o e=>bD e) λ p hp=>?_).up s,Rp.wk (λ p o e z=>?_) r⟩
 .cases e:H p with
  |none=>exact R.old.free e
  |some o=>rw[bD e]at hp;exact R.new p hp
 .rcases z with z|z
  .rw[vA z];exact h1
  .cases e:H p with
   |none=>rw[vA e];exact h1
   |some o=>rw[bD e];exact hm _ z
def RR.freshO(i:Nat)(hm:∀k,inM m k->k=1\/k=i+2)(R:RR K G U Y Z H lab)(s:aO H H')(r:Rp K (fpM m lab H) H' v d)(ht:aDo d=true->∃a,v= .ref a/\H a=none):
  ∃lab',RR K G U Y Z H' lab'/\dw K H' lab' i v (.ow d):=by
 obtain⟨R',r'⟩:=R.fresh (P:=λ k=>k=1\/k=i+2) (.inl rfl) hm s r;cases hd:aDo d with
 |false=>exact⟨_,R',r',λ z=>absurd z (by simp[hd])⟩
 |true=>
  obtain⟨a,rfl,ha⟩:=ht hd;refine⟨λ p=>if p=a then(i+2,0)else bV H 1 lab p,?_,Rp.wk (λ p o e z=>?_) r',λ _=>⟨a,rfl,by show(if a=a then((i+2,0):Nat×Nat)else bV H 1 lab a).1=i+2;rw[if_pos rfl]⟩⟩
  .refine(R.relab (lab':=λ p=>if p=a then(i+2,0)else bV H 1 lab p) (λ p o e=>?_) λ p hp=>?_).up s
   .rw[if_neg (λ z=>by subst z;rw[ha]at e;cases e),bD e]
   .by_cases z:p=a
    .subst z;exact R.old.free ha
    .rw[if_neg z]at hp;exact R'.new p hp
  .dsimp only
   by_cases q:p=a
   .rw[if_pos q];exact .inr rfl
   .rw[if_neg q];exact z
def aJw(h:dw K H lab i v (.oz d)):Rp K (λ p=>(lab p).1<=1\/(lab p).1=i+2) H v d:=by
 obtain⟨a,xs,ds,rfl,rfl,h1,h2,h3⟩:=h;exact .lst h1 (.inr h2) (h3.wk λ p o e z=>⟨.inl z,λ q=>by subst q;lia⟩)
end
structure Ct where
 ι:Type
 X:ι->Cx
 prog:zAS
 w:World
 K:zAA
 mg:Str->Option Value
 base:Heap
 k:Nat
 G:Gx
 cx:∀i,(X i).prog=prog/\(X i).w=w/\(X i).K=K/\(X i).mg=mg/\(X i).base=base
 calm:∀i,(X i).calm=true
 room:∀i,dj k (X i).A
 own:∀i,zH3 (model (X i).prog (X i).w) (X i).A (X i).env (X i).xe
 pass:∀i,pM (CX1 (X i).prog (X i).w) (X i) G.E
 dOk:Bool
 dcx:dOk=true->∀i,cj (X i) G.E
def Ct.hK(C:Ct)(i:C.ι):(C.X i).K=C.K:=(C.cx i).2.2.1
def WR{α:Type}(G:Gx)(r:Rs α)(P:α->Prop):Prop:=match r with
 | .ok a=>P a
 | .ex c=>∀H',aO G.H0 H'->G.E (.ref (G.cl c)) none H'
 | .st=>False
theorem WR.bd(h:WR G (r.bd k) P):WR G r (λ a=>WR G (k a) P):=by
 cases r with
 |ok a=>exact h
 |ex c=>exact h
 |st=>exact h
def WR.imp(h:WR G r P)(f:∀a,r= .ok a->P a->P' a):WR G r P':=by
 cases r with
 |ok a=>exact f a rfl h
 |ex c=>exact h
 |st=>exact h
abbrev QE(K:zAA)(m:Mode)(lab:Lab)(H:Hp)(Q:VK):D->Prop:=λ d=>∀v H',aO H H'->Rp K (fpM m lab H) H' v d->Q v H'
abbrev QA(K:zAA)(m:Mode)(lab:Lab)(H:Hp)(Q:List V->Hp->Prop):List D->Prop:=λ ds=>∀vs H',aO H H'->Rps K (fpM m lab H) H' vs ds->Q vs H'
abbrev QT(H:Hp)(Q:Bool->Hp->Prop):Bool->Prop:=λ b=>∀H',aO H H'->Q b H'
def gm(K:zAA)(G:Gx)(m:Mode)(t:TE)(f:En->Rs D):Prop:=∀U Z H Y lab (Q:VK),RR K G U Y Z H lab->WR G (f Y) (QE K m lab H Q)->t Z H Q
def aM2(K:zAA)(G:Gx)(m:Mode)(t:TA)(f:En->Rs (List D)):Prop:=∀U Z H Y lab (Q:List V->Hp->Prop),RR K G U Y Z H lab->WR G (f Y) (QA K m lab H Q)->t Z H Q
def aCY(K:zAA)(G:Gx)(t:TT)(f:En->Rs Bool):Prop:=∀U Z H Y lab (Q:Bool->Hp->Prop),RR K G U Y Z H lab->WR G (f Y) (QT H Q)->t Z H Q
def SE(C:Ct)(m:Mode)(e:Expr)(f:En->Rs D):Prop:=∃t,(∀i,PE (C.X i) e t)/\gm C.K C.G m t f
def SA(C:Ct)(m:Mode)(es:List Expr)(f:En->Rs (List D)):Prop:=∃t,(∀i,PA (C.X i) es t)/\aM2 C.K C.G m t f
def ST(C:Ct)(e:Expr)(f:En->Rs Bool):Prop:=∃t,(∀i,PT (C.X i) e t)/\aCY C.K C.G t f
def SW(C:Ct)(e:Expr)(f:En->Rs Bool):Prop:=∃t,(∀i,PW (C.X i) e t)/\aCY C.K C.G t f
def SW.st(h:SW C e f):ST C e f:=let⟨t,h1,h2⟩:=h;⟨t,λ i=>(h1 i).pt,h2⟩
def nT(i:Nat):En->Rs D:=λ Y=>match Y[i]? with
 |some (.sh d)=>.ok d
 |some (.nw d)=>.ok d
 |some (.ow d)=>.ok d
 |some (.oz d)=>.ok d
 |some (.o2 l)=>.ok (.lst (l.map .lst))
 |_=>.st
def aB(i:Nat):En->Rs D:=λ Y=>match Y[i]? with
 |some (.sh d)=>.ok d
 |some (.nw d)=>.ok d
 |_=>.st
def qZ(i:Nat):En->Rs D:=λ Y=>match Y[i]? with
 |some (.nw d)=>.ok d
 |_=>.st
def uJ(i:Nat):En->Rs D:=λ Y=>match Y[i]? with
 |some (.ow d)=>.ok d
 |some (.o2 l)=>.ok (.lst (l.map .lst))
 |_=>.st
def cD(d:D):En->Rs D:=λ _=>.ok d
def aCs{K:zAA}{H:Hp}{lab:Lab}{i:Nat}{v:V}{l:dQ}(h:dw K H lab i v (.o2 l)):Rp K (λ p=>(lab p).1=i+2) H v (.lst (l.map .lst)):=by
 obtain⟨a,xs,rfl,ha,hla,hW,hin⟩:=h;refine .lst ha (by rw[hla]) ?_;have go:∀(xs:List V) (l:dQ) (n:Nat),xs.length=l.length->0<n->(∀(j:Nat) x ds,xs[j]? =some x->l[j]? =some ds->Rp K (λ p=>lab p=(i+2,n+j)) H x (.lst ds))->Rps K (λ p=>(lab p).1=i+2/\p≠a) H xs (l.map .lst):=by
  intro xs;induction xs with
  |nil=>intro l n hl _ _;cases l with|nil=>exact .nil|cons _ _=>simp at hl
  |cons x xs ih=>
   intro l n hl hn h;cases l with
   |nil=>simp at hl
   |cons ds l=>
    refine .cons (Rp.wk (λ p o e z=>⟨by rw[z],λ e=>by rw[e,hla]at z;have z2:(0:Nat)=n+0:=congrArg Prod.snd z;lia⟩) (h 0 x ds rfl rfl)) (ih l (n+1) (by simpa using hl) (by lia) λ j y es e1 e2=>?_);have z:=h (j+1) y es (by simpa using e1) (by simpa using e2);rw[show n+1+j=n+(j+1)by lia];exact z
 exact go xs l 1 hW (by lia) λ j x ds e1 e2=>by have z:=hin j x ds e1 e2;rw[show 1+j=j+1 by lia];exact z
section
variable{C:Ct}{pos:Pos}
def aHa(K:zAA)(G:Gx)(i:Nat):gm K G (some [0,1,i+2]) (jR i) (nT i):=by
 intro U Z H Y lab Q R W;unfold nT at W;cases e:Y[i]? with
 |none=>rw[e]at W;exact W.elim
 |some s=>
  rw[e]at W;rcases R.sl i s e with rfl|⟨v,ev,hv⟩
  .exact zAF W
  .cases s with
   |no=>exact zAF W
   |sh d=>exact⟨v,ev,W v H (aO.refl H) (Rp.wk (λ p o e z=>.inr (by show(lab p).1∈[0,1,i+2];rcases(show(lab p).1=0\/(lab p).1=1 by lia)with q|q<;>rw[q]<;>simp)) hv)⟩
   |nw d=>exact⟨v,ev,W v H (aO.refl H) (Rp.wk (λ p o e z=>.inr (by show(lab p).1∈[0,1,i+2];rw[z];simp)) hv)⟩
   |ow d=>exact⟨v,ev,W v H (aO.refl H) (Rp.wk (λ p o e z=>.inr (by show(lab p).1∈[0,1,i+2];rcases z with q|q<;>rw[q]<;>simp)) hv.1)⟩
   |oz d=>exact⟨v,ev,W v H (aO.refl H) (Rp.wk (λ p o e z=>.inr (by show(lab p).1∈[0,1,i+2];rcases(show(lab p).1=0\/(lab p).1=1\/(lab p).1=i+2 by lia)with q|q|q<;>rw[q]<;>simp)) (aJw hv))⟩
   |o2 l=>exact⟨v,ev,W v H (aO.refl H) (Rp.wk (λ p o e z=>.inr (by show(lab p).1∈[0,1,i+2];rw[z];simp)) (aCs hv))⟩
def aEr(K:zAA)(G:Gx)(i:Nat):gm K G (some [0,1]) (jR i) (aB i):=by
 intro U Z H Y lab Q R W;unfold aB at W;cases e:Y[i]? with
 |none=>rw[e]at W;exact W.elim
 |some s=>
  rw[e]at W;rcases R.sl i s e with rfl|⟨v,ev,hv⟩
  .exact zAF W
  .cases s with
   |sh d=>exact⟨v,ev,W v H (aO.refl H) (Rp.wk (λ p o e z=>.inr (by show(lab p).1∈[0,1];rcases(show(lab p).1=0\/(lab p).1=1 by lia)with q|q<;>rw[q]<;>simp)) hv)⟩
   |nw d=>exact⟨v,ev,W v H (aO.refl H) (Rp.wk (λ p o e z=>.inr (by show(lab p).1∈[0,1];rw[z];simp)) hv)⟩
   |_=>exact zAF W
def aEt(K:zAA)(G:Gx)(i:Nat):gm K G (some [1]) (jR i) (qZ i):=by
 intro U Z H Y lab Q R W;unfold qZ at W;cases e:Y[i]? with
 |none=>rw[e]at W;exact W.elim
 |some s=>
  rw[e]at W;rcases R.sl i s e with rfl|⟨v,ev,hv⟩
  .exact zAF W
  .cases s with
   |nw d=>exact⟨v,ev,W v H (aO.refl H) (Rp.wk (λ p o e z=>.inr (by show(lab p).1∈[1];rw[z];simp)) hv)⟩
   |_=>exact zAF W
def aEs(K:zAA)(G:Gx)(i:Nat):gm K G (some [1,i+2]) (jR i) (uJ i):=by
 intro U Z H Y lab Q R W;unfold uJ at W;cases e:Y[i]? with
 |none=>rw[e]at W;exact W.elim
 |some s=>
  rw[e]at W;rcases R.sl i s e with rfl|⟨v,ev,hv⟩
  .exact zAF W
  .cases s with
   |ow d=>exact⟨v,ev,W v H (aO.refl H) (Rp.wk (λ p o e z=>.inr (by show(lab p).1∈[1,i+2];rcases z with q|q<;>rw[q]<;>simp)) hv.1)⟩
   |o2 l=>exact⟨v,ev,W v H (aO.refl H) (Rp.wk (λ p o e z=>.inr (by show(lab p).1∈[1,i+2];rw[z];simp)) (aCs hv))⟩
   |_=>exact zAF W
def yQ(i:Nat)(hN:∀j,(C.X j).N[i]? =some x:=by intro _;rfl)(hv:∀j,Vis (C.X j).env.scope x:=by intro _;first|exact zBm rfl|exact zBK (zBm rfl)|exact zBK (zBK rfl))(hd:Nd x:=by decide)
  (hcd:(x==("__classdict__":Str))=false:=by decide):SE C (some [0,1,i+2]) (.Name x pos) (nT i):=⟨_,λ j=>cu (hN j) (hv j) hd hcd,aHa _ _ i⟩
def aA(i:Nat)(hN:∀j,(C.X j).N[i]? =some x:=by intro _;rfl)(hv:∀j,Vis (C.X j).env.scope x:=by intro _;first|exact zBm rfl|exact zBK (zBm rfl)|exact zBK (zBK rfl))(hd:Nd x:=by decide)
  (hcd:(x==("__classdict__":Str))=false:=by decide):SE C (some [0,1]) (.Name x pos) (aB i):=⟨_,λ j=>cu (hN j) (hv j) hd hcd,aEr _ _ i⟩
def tZ(i:Nat)(hN:∀j,(C.X j).N[i]? =some x:=by intro _;rfl)(hv:∀j,Vis (C.X j).env.scope x:=by intro _;first|exact zBm rfl|exact zBK (zBm rfl)|exact zBK (zBK rfl))(hd:Nd x:=by decide)
  (hcd:(x==("__classdict__":Str))=false:=by decide):SE C (some [1]) (.Name x pos) (qZ i):=⟨_,λ j=>cu (hN j) (hv j) hd hcd,aEt _ _ i⟩
def tY(i:Nat)(hN:∀j,(C.X j).N[i]? =some x:=by intro _;rfl)(hv:∀j,Vis (C.X j).env.scope x:=by intro _;first|exact zBm rfl|exact zBK (zBm rfl)|exact zBK (zBK rfl))(hd:Nd x:=by decide)
  (hcd:(x==("__classdict__":Str))=false:=by decide):SE C (some [1,i+2]) (.Name x pos) (uJ i):=⟨_,λ j=>cu (hN j) (hv j) hd hcd,aEs _ _ i⟩
def aH:SE C (some []) (.Constant (.int i) j pos) (cD (.int i)):=⟨_,λ _=>aFh,λ U Z H Y lab Q R W=>W _ H (aO.refl H) (.int i)⟩
def pZ:SE C (some []) (.Constant (.bool b) j pos) (cD (.bl b)):=⟨_,λ _=>aFn,λ U Z H Y lab Q R W=>W _ H (aO.refl H) (.bl b)⟩
def aK9:SE C (some []) (.Constant .none j pos) (cD .non):=⟨_,λ _=>aKz,λ U Z H Y lab Q R W=>W _ H (aO.refl H) .non⟩
def yR:SE C (some []) (.Constant (.str x) j pos) (cD (.str x)):=⟨_,λ _=>dm,λ U Z H Y lab Q R W=>W _ H (aO.refl H) (.str x)⟩
def aCb(hm:C.mg x=some u)(r:RelV v u)(hd:∀A H,Rp C.K A H v d)(hdb:Nd x:=by decide)(hg:∀i,Gl (C.X i) x:=by intro _;rfl):SE C (some []) (.Name x pos) (cD d):=
 ⟨_,λ i=>dC (hg i) (by rw[(C.cx i).2.2.2.1];exact hm) r hdb,λ U Z H Y lab Q R W=>W _ H (aO.refl H) (hd _ _)⟩
def aCM(d:D):Rs D:=if imm d=true then .ok d else .st
def bG(f:En->Rs D):En->Rs D:=λ Y=>(f Y).bd aCM
def bB(h:SE C m e f):SE C (some []) e (bG f):=by
 obtain⟨t,h1,h2⟩:=h;refine⟨t,h1,λ U Z H Y lab Q R W=>h2 U Z H Y lab Q R (W.bd.imp λ d _ w v H' s r=>?_)⟩;unfold aCM at w;by_cases hd:imm d=true
 .rw[if_pos hd]at w
  exact w v H' s (r.imm hd)
 .rw[if_neg hd]at w
  exact zAF w
def aK:En->Rs (List D):=λ _=>.ok []
def aD(f:En->Rs D)(g:En->Rs (List D)):En->Rs (List D):=λ Y=>(f Y).bd λ d=>(g Y).bd λ ds=>.ok (d::ds)
variable{m m1 m2:Mode}{e a b:Expr}{es:List Expr}{f fa fb:En->Rs D}{g:En->Rs (List D)}
def aG:SA C (some []) [] aK:=⟨_,λ _=>cI,λ U Z H Y lab Q R W=>W _ H (aO.refl H) .nil⟩
def aC(h:SE C m1 e f)(hr:SA C m2 es g)(hs:∀i,zAY (e::es) (C.X i).env=(false,eval e (C.X i).env)::zAY es (C.X i).env:=by intro _;rfl):SA C (jn m1 m2) (e::es) (aD f g):=by
 obtain⟨t,h1,h2⟩:=h;obtain⟨u,k1,k2⟩:=hr;refine⟨_,λ i=>aW (h1 i) (k1 i) (hs i),λ U Z H Y lab Q R W=>?_⟩;refine h2 U Z H Y lab _ R (W.bd.imp λ d _ w x H1 s1 r1=>?_);refine k2 U Z H1 Y lab _ (R.up s1) (w.bd.imp λ ds _ w xs H2 s2 r2=>?_);exact w (x::xs) H2 (s1.trans s2) (.cons (r1.mono s2 λ p o _ z=>aGk z) (r2.wk λ p o _ z=>aGj (je s1 z)))
def cO(g:En->Rs (List D)):En->Rs D:=λ Y=>(g Y).bd λ ds=>if ds.length<=zAK then .ok (.tup ds)else .st
def iY(g:En->Rs (List D)):En->Rs D:=λ Y=>(g Y).bd λ ds=>if ds.length<=zAK then .ok (.lst ds)else .st
def cF{x1}(h:SA C m es g):SE C m (.Tuple es x1 pos) (cO g):=by
 obtain⟨t,h1,h2⟩:=h;refine⟨_,λ i=>aIM (h1 i),λ U Z H Y lab Q R W=>h2 U Z H Y lab _ R (W.bd.imp λ ds _ w xs H1 s1 r1=>?_)⟩;by_cases hz:ds.length<=zAK
 .rw[if_pos hz]at w
  exact⟨by rw[r1.length];exact hz,λ p H' s hp _=>w _ H' (s1.trans s) (.tup (SqT.of hp) (r1.up s))⟩
 .rw[if_neg hz]at w
  exact zAF w
def yS(h:SA C m es g):SE C m (.List es pos) (iY g):=by
 obtain⟨t,h1,h2⟩:=h;refine⟨_,λ i=>lB (h1 i),λ U Z H Y lab Q R W=>h2 U Z H Y lab _ R (W.bd.imp λ ds _ w xs H1 s1 r1=>?_)⟩;by_cases hz:ds.length<=zAK
 .rw[if_pos hz]at w
  exact⟨by rw[r1.length];exact hz,λ p H' s hp hn=>w _ H' (s1.trans s) (.lst hp (.inl (s1.free hn)) ((r1.wk λ q o e z=>⟨z,λ e'=>by subst e';rw[hn]at e;cases e⟩).up s))⟩
 .rw[if_neg hz]at w
  exact zAF w
def aCc:SE C (some []) (.Dict [] [] pos) (cD (.dct [] [])):=
 ⟨_,λ _=>aFj,λ U Z H Y lab Q R W p H' s hp hn=>W _ H' s (.dK (kvs:=[]) hp (.inl hn) .nil)⟩
def aNj(H:Hp)(v:V)(d:D):Prop:=aDo d=true->∃a,v= .ref a/\H a=none
def aM1(K:zAA)(G:Gx)(m:Mode)(t:TE)(f:En->Rs D):Prop:=∀U Z H Y lab (Q:VK),RR K G U Y Z H lab->WR G (f Y) (λ d=>∀v H',aO H H'->Rp K (fpM m lab H) H' v d->aNj H v d->Q v H')->t Z H Q
def SF(C:Ct)(m:Mode)(e:Expr)(f:En->Rs D):Prop:=∃t,(∀i,PE (C.X i) e t)/\aM1 C.K C.G m t f
def gm.toF{K:zAA}{G:Gx}{t:TE}{f:En->Rs D}(h:gm K G (some []) t f):aM1 K G (some []) t f:=λ U Z H Y lab Q R W=>
 h U Z H Y lab Q R (W.imp λ d _ w v H' s r=>w v H' s r λ hm=>by
  obtain⟨a,rfl⟩:=aKi r hm;obtain⟨o,_,_,z⟩:=aFG r hm;rcases z with z|z
  .exact⟨a,rfl,z⟩
  .cases z)
def aK5(h:SE C (some []) e f):SF C (some []) e f:=let⟨t,h1,h2⟩:=h;⟨t,h1,h2.toF⟩
def qb(h:SA C m es g):SF C m (.List es pos) (iY g):=by
 obtain⟨t,h1,h2⟩:=h;refine⟨_,λ i=>lB (h1 i),λ U Z H Y lab Q R W=>h2 U Z H Y lab _ R (W.bd.imp λ ds _ w xs H1 s1 r1=>?_)⟩;by_cases hz:ds.length<=zAK
 .rw[if_pos hz]at w
  exact⟨by rw[r1.length];exact hz,λ p H' s hp hn=>w _ H' (s1.trans s) (.lst hp (.inl (s1.free hn)) ((r1.wk λ q o e z=>⟨z,λ e'=>by subst e';rw[hn]at e;cases e⟩).up s)) λ _=>⟨p,rfl,s1.free hn⟩⟩
 .rw[if_neg hz]at w
  exact zAF w
def OpS(K:zAA)(r:R2)(fd:D->D->Rs D):Prop:=∀(A:Addr->Prop) x y d e H (Q:VK) z,Rp K A H x d->Rp K A H y e->fd d e= .ok z->(∀v H',aO H H'->Rp K (λ p=>H p=none\/A p) H' v z->Q v H')->r x y H Q
def UnS(K:zAA)(r:V->Hp->VK->Prop)(fd:D->Rs D):Prop:=∀(A:Addr->Prop) x d H (Q:VK) z,Rp K A H x d->fd d= .ok z->(∀v H',aO H H'->Rp K (λ p=>H p=none\/A p) H' v z->Q v H')->r x H Q
def oU(K:zAA)(r:List V->Hp->VK->Prop)(fd:List D->Rs D):Prop:=∀(A:Addr->Prop) xs ds H (Q:VK) z,Rps K A H xs ds->fd ds= .ok z->(∀v H',aO H H'->Rp K (λ p=>H p=none\/A p) H' v z->Q v H')->r xs H Q
def okD(r:Rs D):Rs D:=match r with
 | .ok d=>.ok d
 |_=>.st
def op2(fd:D->D->Rs D)(fa fb:En->Rs D):En->Rs D:=λ Y=>(fa Y).bd λ x=>(fb Y).bd λ y=>okD (fd x y)
def op1(fd:D->Rs D)(fa:En->Rs D):En->Rs D:=λ Y=>(fa Y).bd λ x=>okD (fd x)
def opA(fd:List D->Rs D)(fa:En->Rs (List D)):En->Rs D:=λ Y=>(fa Y).bd λ x=>okD (fd x)
theorem WR.okD(h:WR G (okD r) P):∃z,r= .ok z/\P z:=by
 cases r with
 |ok z=>exact⟨z,rfl,h⟩
 |ex c=>exact zAF h
 |st=>exact zAF h
def yO{K:zAA}{G:Gx}{r:R2}{ta tb:TE}{fd:D->D->Rs D}(hs:OpS K r fd)(h1:gm K G m1 ta fa)(h2:gm K G m2 tb fb):gm K G (jn m1 m2) (tOp r ta tb) (op2 fd fa fb):=by
 intro U Z H Y lab Q R W;refine h1 U Z H Y lab _ R (W.bd.imp λ d _ w x H1 s1 r1=>?_);refine h2 U Z H1 Y lab _ (R.up s1) (w.bd.imp λ e _ w y H2 s2 r2=>?_);obtain⟨z,ez,w⟩:=w.okD;refine hs (fpM (jn m1 m2) lab H) x y d e H2 Q z (r1.mono s2 λ p o _ q=>aGk q) (r2.wk λ p o _ q=>aGj (je s1 q)) ez λ v H' s r=>w v H' ((s1.trans s2).trans s) (r.wk λ p o _ q=>?_)
 rcases q with q|q
 .exact .inl ((s1.trans s2).free q)
 .exact q
def aHc{K:zAA}{G:Gx}{r:V->Hp->VK->Prop}{ta:TE}{fd:D->Rs D}(hs:UnS K r fd)(h1:gm K G m ta fa):gm K G m (tUn r ta) (op1 fd fa):=by
 intro U Z H Y lab Q R W;refine h1 U Z H Y lab _ R (W.bd.imp λ d _ w x H1 s1 r1=>?_);obtain⟨z,ez,w⟩:=w.okD;refine hs (fpM m lab H) x d H1 Q z r1 ez λ v H' s r=>w v H' (s1.trans s) (r.wk λ p o _ q=>?_)
 rcases q with q|q
 .exact .inl (s1.free q)
 .exact q
def aC7{K:zAA}{G:Gx}{r:List V->Hp->VK->Prop}{ta:TA}{fd:List D->Rs D}(hs:oU K r fd)(h1:aM2 K G m ta g):gm K G m (tCB r ta) (opA fd g):=by
 intro U Z H Y lab Q R W;refine h1 U Z H Y lab _ R (W.bd.imp λ d _ w x H1 s1 r1=>?_);obtain⟨z,ez,w⟩:=w.okD;refine hs (fpM m lab H) x d H1 Q z r1 ez λ v H' s r=>w v H' (s1.trans s) (r.wk λ p o _ q=>?_)
 rcases q with q|q
 .exact .inl (s1.free q)
 .exact q
def cW(h:SE C m e f)(hi:∀Y d,f Y= .ok d->imm d=true):SE C (some []) e f:=by
 obtain⟨t,h1,h2⟩:=h;exact⟨t,h1,λ U Z H Y lab Q R W=>h2 U Z H Y lab Q R (W.imp λ d ed w v H' s r=>w v H' s (r.imm (hi Y d ed)))⟩
def fU(h:∀x y z,fd x y= .ok z->imm z=true)(e:op2 fd fa fb Y= .ok d):imm d=true:=by
 obtain⟨x,_,e⟩:=cR e;obtain⟨y,_,e⟩:=cR e;unfold okD at e;split at e
 .rename_i z hz
  cases e;exact h x y _ hz
 .cases e
def aIw(h:∀x z,fd x= .ok z->imm z=true)(e:op1 fd fa Y= .ok d):imm d=true:=by
 obtain⟨x,_,e⟩:=cR e;unfold okD at e;split at e
 .rename_i z hz
  cases e;exact h x _ hz
 .cases e
def lK(h:∀x z,fd x= .ok z->imm z=true)(e:opA fd g Y= .ok d):imm d=true:=by
 obtain⟨x,_,e⟩:=cR e;unfold okD at e;split at e
 .rename_i z hz
  cases e;exact h x _ hz
 .cases e
def ni(ro:∀i,OpR (C.X i) (zB7 op) r)(hs:OpS C.K r fd)(ha:SE C m1 a fa)(hb:SE C m2 b fb):SE C (jn m1 m2) (.BinOp a op b pos) (op2 fd fa fb):=by
 obtain⟨t,h1,h2⟩:=ha;obtain⟨u,k1,k2⟩:=hb;exact⟨_,λ i=>aFf (ro i) (h1 i) (k1 i),yO hs h2 k2⟩
def aMp(ro:∀i,UnR (C.X i) (unaryOp op) r)(hs:UnS C.K r fd)(ha:SE C m a fa):SE C m (.UnaryOp op a pos) (op1 fd fa):=by
 obtain⟨t,h1,h2⟩:=ha;exact⟨_,λ i=>aNB (ro i) (h1 i),aHc hs h2⟩
def yV(ro:∀i,OpR (C.X i) (zAy op) r)(hs:OpS C.K r fd)(ha:SE C m1 a fa)(hb:SE C m2 b fb)(hm:zCM op b=false:=by first|exact aFw _|(with_unfolding_all rfl)):
  SE C (jn m1 m2) (.Compare a [op] [b] pos) (op2 fd fa fb):=by
 obtain⟨t,h1,h2⟩:=ha;obtain⟨u,k1,k2⟩:=hb;exact⟨_,λ i=>aIR (ro i) (h1 i) (k1 i) hm,yO hs h2 k2⟩
variable{p:Pos}{x:Str}{id T:String}
def j8(ro:∀i,cU (C.X i) (.builtin id) r)(hs:oU C.K r fd)(hg:∀i,Gl (C.X i) x)(hm:C.mg x=none)(hv:zAv x=some (.builtin id))(ha:SA C m (e::es) g)
  (hn:x≠"__name__":=by decide)(hdb:Nd x:=by decide)(he:∀i,zAY (e::es) (C.X i).env=(false,eval e (C.X i).env)::zAY es (C.X i).env:=by intro _;rfl)
  (hpl:∀i,(zCE pos (zAY es (C.X i).env)).any (·.1)=false:=by intro _;rfl):SE C m (.Call (.Name x p) (e::es) [] pos) (opA fd g):=by
 obtain⟨t,h1,h2⟩:=ha;exact⟨_,λ i=>ur (ro i) (hg i) (by rw[(C.cx i).2.2.2.1];exact hm) hv (h1 i) hn hdb (he i) (hpl i),aC7 hs h2⟩
def aAG(ro:∀i,cU (C.X i) (.type T) r)(hs:oU C.K r fd)(hg:∀i,Gl (C.X i) x)(hm:C.mg x=none)(hv:zAv x=some (.type T))(ha:SA C m (e::es) g)
  (hn:x≠"__name__":=by decide)(hdb:Nd x:=by decide)(he:∀i,zAY (e::es) (C.X i).env=(false,eval e (C.X i).env)::zAY es (C.X i).env:=by intro _;rfl)
  (hpl:∀i,(zCE pos (zAY es (C.X i).env)).any (·.1)=false:=by intro _;rfl):SE C m (.Call (.Name x p) (e::es) [] pos) (opA fd g):=by
 obtain⟨t,h1,h2⟩:=ha;exact⟨_,λ i=>nF (ro i) (hg i) (by rw[(C.cx i).2.2.2.1];exact hm) hv (h1 i) hn hdb (he i) (hpl i),aC7 hs h2⟩
def zb(f g:En->Rs D):En->Rs D:=λ Y=>(f Y).bd λ d=>match d with
 | .bl true=>g Y
 | .bl false=>.ok (.bl false)
 |_=>.st
def orD(f g:En->Rs D):En->Rs D:=λ Y=>(f Y).bd λ d=>match d with
 | .bl false=>g Y
 | .bl true=>.ok (.bl true)
 |_=>.st
def aL0:D->Rs D
 | .bl b=>.ok (.bl (!b))
 |_=>.st
variable{rest:List Expr}
def oZ{op}(h:SE C m a fa):SE C m (.BoolOp op [a] pos) fa:=by
 obtain⟨t,h1,h2⟩:=h;exact⟨_,λ i=>aKx (h1 i),h2⟩
def o6(ha:SE C m1 a fa)(hb:SE C m2 (.BoolOp .And (b::rest) pos) fb):SE C m2 (.BoolOp .And (a::b::rest) pos) (zb fa fb):=by
 obtain⟨t,h1,h2⟩:=ha;obtain⟨u,k1,k2⟩:=hb;refine⟨_,λ i=>aLC (h1 i) (k1 i),λ U Z H Y lab Q R W=>h2 U Z H Y lab _ R (W.bd.imp λ d _ w x H1 s1 r1=>?_)⟩;cases r1 with
 |bl c=>
  refine⟨c,rfl,?_⟩;cases c with
  |true=>
   rw[if_pos rfl];exact k2 U Z H1 Y lab Q (R.up s1) (w.imp λ z _ w v H' s r=>w v H' (s1.trans s) (r.wk λ p o _ q=>je s1 q))
  |false=>
   rw[if_neg zA7];exact w _ H1 s1 (.bl false)
 |_=>exact zAF w
def aMq(ha:SE C m1 a fa)(hb:SE C m2 (.BoolOp .Or (b::rest) pos) fb):SE C m2 (.BoolOp .Or (a::b::rest) pos) (orD fa fb):=by
 obtain⟨t,h1,h2⟩:=ha;obtain⟨u,k1,k2⟩:=hb;refine⟨_,λ i=>aNC (h1 i) (k1 i),λ U Z H Y lab Q R W=>h2 U Z H Y lab _ R (W.bd.imp λ d _ w x H1 s1 r1=>?_)⟩;cases r1 with
 |bl c=>
  refine⟨c,rfl,?_⟩;cases c with
  |false=>
   rw[if_neg zA7];exact k2 U Z H1 Y lab Q (R.up s1) (w.imp λ z _ w v H' s r=>w v H' (s1.trans s) (r.wk λ p o _ q=>je s1 q))
  |true=>
   rw[if_pos rfl];exact w _ H1 s1 (.bl true)
 |_=>exact zAF w
def aK8(ha:SE C m a fa):SE C (some []) (.UnaryOp .Not a pos) (op1 aL0 fa):=by
 obtain⟨t,h1,h2⟩:=ha;refine⟨_,λ i=>aKy (h1 i),λ U Z H Y lab Q R W=>h2 U Z H Y lab _ R (W.bd.imp λ d _ w x H1 s1 r1=>?_)⟩;obtain⟨z,ez,w⟩:=w.okD;cases r1 with
 |bl c=>cases ez;exact⟨c,rfl,w _ H1 s1 (.bl _)⟩
 |_=>cases ez
def ifD(c:En->Rs Bool)(f g:En->Rs D):En->Rs D:=λ Y=>(c Y).bd λ k=>if k=true then f Y else g Y
def aJg(hc:ST C c fc)(ha:SE C m1 a fa)(hb:SE C m2 b fb):SE C (jn m1 m2) (.IfExp c a b pos) (ifD fc fa fb):=by
 obtain⟨tc,c1,c2⟩:=hc;obtain⟨t,h1,h2⟩:=ha;obtain⟨u,k1,k2⟩:=hb;refine⟨_,λ i=>aFi (c1 i) (h1 i) (k1 i),λ U Z H Y lab Q R W=>c2 U Z H Y lab _ R (W.bd.imp λ k _ w H1 s1=>?_)⟩;cases k with
 |true=>
  rw[if_pos rfl]at w ⊢;exact h2 U Z H1 Y lab Q (R.up s1) (w.imp λ z _ w v H' s r=>w v H' (s1.trans s) (r.wk λ p o _ q=>aGk (je s1 q)))
 |false=>
  rw[if_neg zA7]at w ⊢;exact k2 U Z H1 Y lab Q (R.up s1) (w.imp λ z _ w v H' s r=>w v H' (s1.trans s) (r.wk λ p o _ q=>aGj (je s1 q)))
def chD(fd fd':D->D->Rs D)(fa fb fc:En->Rs D):En->Rs D:=λ Y=>(fa Y).bd λ x=>(fb Y).bd λ y=>(okD (fd x y)).bd λ z=>match z with
 | .bl true=>(fc Y).bd λ w=>okD (fd' y w)
 | .bl false=>.ok (.bl false)
 |_=>.st
def aD7{K:zAA}{G:Gx}{r r':R2}{ta tb tc:TE}{fd fd':D->D->Rs D}{fc:En->Rs D}{m3:Mode}(hs:OpS K r fd)(hs':OpS K r' fd')(hi:∀x y z,fd' x y= .ok z->imm z=true)(h1:gm K G m1 ta fa)(h2:gm K G m2 tb fb)(h3:gm K G m3 tc fc):
  gm K G (some []) (aEi r r' ta tb tc) (chD fd fd' fa fb fc):=by
 intro U Z H Y lab Q R W;refine h1 U Z H Y lab _ R (W.bd.imp λ d _ w x H1 s1 r1=>?_);refine h2 U Z H1 Y lab _ (R.up s1) (w.bd.imp λ e _ w y H2 s2 r2=>?_);obtain⟨z,ez,w⟩:=w.bd.okD;refine hs (λ _=>True) x y d e H2 _ z (r1.mono s2 λ p o _ q=>trivial) (r2.wk λ p o _ q=>trivial) ez λ v H3 s3 r3=>?_
 cases r3 with
 |bl c=>
  refine⟨c,rfl,?_⟩;cases c with
  |false=>
   rw[if_neg zA7];exact w _ H3 ((s1.trans s2).trans s3) (.bl false)
  |true=>
   rw[if_pos rfl];refine h3 U Z H3 Y lab _ ((R.up s1).up (s2.trans s3)) (w.bd.imp λ e' _ w y' H4 s4 r4=>?_);obtain⟨z',ez',w⟩:=w.okD;exact hs' (λ _=>True) y y' e e' H4 Q z' (r2.mono (s3.trans s4) λ p o _ q=>trivial) (r4.wk λ p o _ q=>trivial) ez' λ v H5 s5 r5=>w v H5 ((((s1.trans s2).trans s3).trans s4).trans s5) (r5.imm (hi _ _ _ ez'))
 |_=>exact zAF w
def aAF(ro:∀i,OpR (C.X i) (zAy op) r)(hs:OpS C.K r fd)(ro':∀i,OpR (C.X i) (zAy op') r')(hs':OpS C.K r' fd')(hi:∀x y z,fd' x y= .ok z->imm z=true)
  (ha:SE C m1 a fa)(hb:SE C m2 b fb)(hc:SE C m3 c fc)(hm:zH7 [op,op'] [b,c]=false:=by with_unfolding_all rfl):SE C (some []) (.Compare a [op,op'] [b,c] pos) (chD fd fd' fa fb fc):=by
 obtain⟨t,h1,h2⟩:=ha;obtain⟨u,k1,k2⟩:=hb;obtain⟨v,l1,l2⟩:=hc;exact⟨_,λ i=>aFl (ro i) (ro' i) (h1 i) (k1 i) (l1 i) hm,aD7 hs hs' hi h2 k2 l2⟩
def aHV:D->Rs Bool
 | .non=>.ok false
 | .bl b=>.ok b
 | .int i=>.ok (i !=0)
 | .tup l=>.ok (!l.isEmpty)
 | .lst l=>.ok (!l.isEmpty)
 |_=>.st
def blD:D->Rs Bool
 | .bl b=>.ok b
 |_=>.st
def tst(f:En->Rs D):En->Rs Bool:=λ Y=>(f Y).bd aHV
def tsb(f:En->Rs D):En->Rs Bool:=λ Y=>(f Y).bd blD
def vK{K:zAA}{A:Addr->Prop}{H:Hp}{xs:List V}{ds:List D}(r:Rps K A H xs ds):(!ds.isEmpty)= !xs.isEmpty:=by cases r<;>rfl
def kI(ha:SE C m a fa)(he:∀i whole,isTrue a (C.X i).env whole=(do let v <-whole;zFh a.pos;zDo [v] (truthy v)):=by intro _ _;rfl):ST C a (tst fa):=by
 obtain⟨t,h1,h2⟩:=ha;refine⟨λ Z H Q=>t Z H λ x H'=>∃k,aM0 C.K x H' k/\Q k H',λ i=>by rw[<-C.hK i];exact aFZ (h1 i) (he i),λ U Z H Y lab Q R W=>h2 U Z H Y lab _ R (W.bd.imp λ d _ w x H1 s1 r1=>?_)⟩;cases r1 with
 |non=>exact⟨false,rfl,w H1 s1⟩
 |bl b=>exact⟨b,rfl,w H1 s1⟩
 |int i=>exact⟨i !=0,rfl,w H1 s1⟩
 |tup h r=>exact⟨_,.inr (.inl ⟨_,h,rfl⟩),by rw[<-vK r];exact w H1 s1⟩
 |lst h m r=>exact⟨_,.inl ⟨_,SqL.of h,rfl⟩,by rw[<-vK r];exact w H1 s1⟩
 |_=>exact zAF w
def aHb{K:zAA}{G:Gx}{t:TE}{f:En->Rs D}(h:gm K G m t f):aCY K G (aJa t) (tsb f):=λ U Z H Y lab Q R W=>h U Z H Y lab _ R (W.bd.imp λ d _ w x H1 s1 r1=>by
 cases r1 with
 |bl b=>exact⟨b,rfl,w H1 s1⟩
 |_=>exact zAF w)
def uQ(ro:∀i,OpR (C.X i) (zAy op) r)(hs:OpS C.K r fd)(ha:SE C m1 a fa)(hb:SE C m2 b fb)(hm:zCM op b=false:=by first|exact aFw _|(with_unfolding_all rfl)):
  ST C (.Compare a [op] [b] pos) (tsb (op2 fd fa fb)):=by
 obtain⟨t,h1,h2⟩:=ha;obtain⟨u,k1,k2⟩:=hb;exact⟨_,λ i=>aIE (ro i) (h1 i) (k1 i) hm,aHb (yO hs h2 k2)⟩
variable{ga gb:En->Rs Bool}
def aJ0(f g:En->Rs Bool):En->Rs Bool:=λ Y=>(f Y).bd λ k=>if k=true then g Y else .ok false
def orT(f g:En->Rs Bool):En->Rs Bool:=λ Y=>(f Y).bd λ k=>if k=true then .ok true else g Y
def tL(f:En->Rs Bool):En->Rs Bool:=λ Y=>(f Y).bd λ k=>.ok (!k)
def aH0(ha:ST C a ga):SW C (.BoolOp .And [a] pos) ga:=let⟨t,h1,h2⟩:=ha;⟨t,λ i=>aHz (h1 i),h2⟩
def aBZ(ha:ST C a ga):SW C (.BoolOp .Or [a] pos) ga:=let⟨t,h1,h2⟩:=ha;⟨t,λ i=>aFV (h1 i),h2⟩
def aEk(ha:ST C a ga)(hb:SW C (.BoolOp .And (b::rest) pos) gb):SW C (.BoolOp .And (a::b::rest) pos) (aJ0 ga gb):=by
 obtain⟨t,h1,h2⟩:=ha;obtain⟨u,k1,k2⟩:=hb;refine⟨_,λ i=>aKp (h1 i) (k1 i),λ U Z H Y lab Q R W=>h2 U Z H Y lab _ R (W.bd.imp λ k _ w H1 s1=>?_)⟩;cases k with
 |true=>
  rw[if_pos rfl]at w ⊢;exact k2 U Z H1 Y lab Q (R.up s1) (w.imp λ z _ w H' s=>w H' (s1.trans s))
 |false=>
  rw[if_neg zA7]at w ⊢;exact w H1 s1
def aEj(ha:ST C a ga)(hb:SW C (.BoolOp .Or (b::rest) pos) gb):SW C (.BoolOp .Or (a::b::rest) pos) (orT ga gb):=by
 obtain⟨t,h1,h2⟩:=ha;obtain⟨u,k1,k2⟩:=hb;refine⟨_,λ i=>aJu (h1 i) (k1 i),λ U Z H Y lab Q R W=>h2 U Z H Y lab _ R (W.bd.imp λ k _ w H1 s1=>?_)⟩;cases k with
 |false=>
  rw[if_neg zA7]at w ⊢;exact k2 U Z H1 Y lab Q (R.up s1) (w.imp λ z _ w H' s=>w H' (s1.trans s))
 |true=>
  rw[if_pos rfl]at w ⊢;exact w H1 s1
def oY(ha:ST C a ga):ST C (.UnaryOp .Not a pos) (tL ga):=by
 obtain⟨t,h1,h2⟩:=ha;exact⟨_,λ i=>aBk (h1 i),λ U Z H Y lab Q R W=>h2 U Z H Y lab _ R (W.bd.imp λ k _ w H1 s1=>w H1 s1)⟩
end
inductive Ou where
 |nx (Y:En)|rt (d:D)|bk (Y:En)|ct (Y:En)|ex (c:Str)|st
noncomputable def Rs.bo{α:Type}:Rs α->(α->Ou)->Ou
 | .ok a,f=>f a
 | .ex c,_=>.ex c
 | .st,_=>.st
@[simp] def cA(a:α)(f:α->Ou):(Rs.ok a).bo f=f a:=aM rfl
@[simp] def bo_ex(c:Str)(f:α->Ou):(Rs.ex c:Rs α).bo f= .ex c:=aM rfl
noncomputable def Ou.sq:Ou->(En->Ou)->Ou
 | .nx Y,f=>f Y
 |o,_=>o
@[simp] def bK(Y:En)(f:En->Ou):(Ou.nx Y).sq f=f Y:=aM rfl
@[simp] def sq_rt(d:D)(f:En->Ou):(Ou.rt d).sq f= .rt d:=aM rfl
@[simp] def sq_ex(c:Str)(f:En->Ou):(Ou.ex c).sq f= .ex c:=aM rfl
def WS(K:zAA)(G:Gx)(U:List (V×D))(o:Ou)(De:Ends):Prop:=match o with
 | .nx Y=>∀Z H lab,RR K G U Y Z H lab->De.nx Z H
 | .bk Y=>∀Z H lab,RR K G U Y Z H lab->De.bk Z H
 | .ct Y=>∀Z H lab,RR K G U Y Z H lab->De.ct Z H
 | .rt d=>∀v H,aO G.H0 H->Rp K (λ p=>G.H0 p=none) H v d->De.rt v H
 | .ex c=>∀H',aO G.H0 H'->G.E (.ref (G.cl c)) none H'
 | .st=>False
theorem WS.bo{K:zAA}(h:WS K G U (r.bo k) De):WR G r (λ a=>WS K G U (k a) De):=by
 cases r with
 |ok a=>exact h
 |ex c=>exact h
 |st=>exact h
def aNc(K:zAA)(G:Gx)(t:TS)(f:En->Ou):Prop:=∀U Z H Y lab (De:Ends),RR K G U Y Z H lab->WS K G U (f Y) De->t De Z H
def SS(C:Ct)(s:Stmt)(f:En->Ou):Prop:=∃t,(∀i,PS (C.X i) s t)/\aNc C.K C.G t f
def SSs(C:Ct)(s:List Stmt)(f:En->Ou):Prop:=∃t,(∀i,PSs (C.X i) s t)/\aNc C.K C.G t f
section
variable{C:Ct}{pos:Pos}{s:Stmt}{ss:List Stmt}{f g:En->Ou}{e:Expr}{m:Mode}{fe:En->Rs D}
def dB:SSs C [] .nx:=⟨_,λ _=>uC,λ U Z H Y lab De R W=>W Z H lab R⟩
def aq(f g:En->Ou):En->Ou:=λ Y=>(f Y).sq g
def aN(h:SS C s f):SSs C [s] f:=let⟨t,h1,h2⟩:=h;⟨t,λ i=>jL (h1 i),h2⟩
def aJ(h:SS C s f)(k:SSs C ss g):SSs C (s::ss) (aq f g):=by
 obtain⟨t,h1,h2⟩:=h;obtain⟨u,k1,k2⟩:=k;refine⟨_,λ i=>dG (h1 i) (k1 i),λ U Z H Y lab De R W=>h2 U Z H Y lab _ R ?_⟩;unfold aq at W;cases h:f Y with
 |nx Y'=>rw[h]at W;exact λ Z' H' lab' R'=>k2 U Z' H' Y' lab' De R' W
 |rt d=>rw[h]at W;exact W
 |bk Y'=>rw[h]at W;exact W
 |ct Y'=>rw[h]at W;exact W
 |ex c=>rw[h]at W;exact W
 |st=>rw[h]at W;exact W
def frz(i:Nat)(Y:En):En:=match Y[i]? with
 |some (.ow d)=>Y.set i (.nw d)
 |some (.o2 l)=>Y.set i (.nw (.lst (l.map .lst)))
 |_=>Y
def aNL:Mode->Bool
 |some L=>L.all (·!=0)
 |none=>false
def retS(fe:En->Rs D):En->Ou:=λ Y=>(fe Y).bo .rt
def bQ(he:SE C m e fe)(hm:aNL m=true:=by rfl):SS C (.Return (some e) pos) (retS fe):=by
 obtain⟨t,h1,h2⟩:=he;refine⟨_,λ i=>uo (h1 i),λ U Z H Y lab De R W=>h2 U Z H Y lab _ R (W.bo.imp λ d _ w v H' s r=>w v H' (R.old.trans s) (r.wk λ p o _ z=>?_))⟩;rcases z with z|z
 .exact R.old.free z
 .cases m with
  |none=>cases hm
  |some L=>
   refine R.new p λ e0=>?_
   have:=zAm.mp hm _ z
   rw[e0]at this;simp at this
def aAq(fe:En->Rs D):En->Ou:=λ Y=>(fe Y).bo λ _=>.nx Y
def aC6(he:SE C m e fe)(hs:∀i,zCG e none pos.line (C.X i).env=pure false:=by intro _;rfl):SS C (.Expr e pos) (aAq fe):=by
 obtain⟨t,h1,h2⟩:=he;exact⟨_,λ i=>lA (h1 i) (hs i),λ U Z H Y lab De R W=>h2 U Z H Y lab _ R (W.bo.imp λ d _ w v H' s r=>w Z H' lab (R.up s))⟩
def ifS(c:En->Rs Bool)(f g:En->Ou):En->Ou:=λ Y=>(c Y).bo λ k=>if k=true then f Y else g Y
def jK{a b:List Stmt}(hc:ST C c fc)(ha:SSs C a f)(hb:SSs C b g):SS C (.If c a b pos) (ifS fc f g):=by
 obtain⟨tc,c1,c2⟩:=hc;obtain⟨t,h1,h2⟩:=ha;obtain⟨u,k1,k2⟩:=hb;refine⟨_,λ i=>aCl (c1 i) (h1 i) (k1 i),λ U Z H Y lab De R W=>c2 U Z H Y lab _ R (W.bo.imp λ k _ w H1 s1=>?_)⟩;cases k with
 |true=>rw[if_pos rfl]at w ⊢;exact h2 U Z H1 Y lab De (R.up s1) w
 |false=>rw[if_neg zA7]at w ⊢;exact k2 U Z H1 Y lab De (R.up s1) w
def SV(C:Ct)(i:Nat)(s:Stmt)(m:Mode)(f:En->Rs D):Prop:=∃t,(∀j,PS (C.X j) s (zz t (oE i)))/\gm C.K C.G m t f
def gQ(he:SE C m e fe)(hN:∀j,(C.X j).N[i]? =some x:=by intro _;rfl)(hx:∀j,Loc (C.X j).env.scope x:=by intro _;first|exact zBm rfl|exact zBK rfl)(hs:∀j,zCG e (some (.Name x pos')) pos.line (C.X j).env=pure false:=by intro _;rfl)(hf:∀j,(C.X j).fn x=true\/(C.X j).env.scope.names.lookup x=some .local:=by intro _;first|exact .inl rfl|exact .inr rfl)(nd:∀j,(C.X j).N.Nodup:=by intro _;assumption):
  SV C i (.Assign [.Name x pos'] e pos) m fe:=by
 obtain⟨t,h1,h2⟩:=he;exact⟨t,λ j=>km (nd j) (hN j) (hx j) (h1 j) (hs j) (hf j),h2⟩
def SVF(C:Ct)(i:Nat)(s:Stmt)(m:Mode)(f:En->Rs D):Prop:=∃t,(∀j,PS (C.X j) s (zz t (oE i)))/\aM1 C.K C.G m t f
def pW(he:SF C m e fe)(hN:∀j,(C.X j).N[i]? =some x:=by intro _;rfl)(hx:∀j,Loc (C.X j).env.scope x:=by intro _;first|exact zBm rfl|exact zBK rfl)(hs:∀j,zCG e (some (.Name x pos')) pos.line (C.X j).env=pure false:=by intro _;rfl)(hf:∀j,(C.X j).fn x=true\/(C.X j).env.scope.names.lookup x=some .local:=by intro _;first|exact .inl rfl|exact .inr rfl)(nd:∀j,(C.X j).N.Nodup:=by intro _;assumption):
  SVF C i (.Assign [.Name x pos'] e pos) m fe:=by
 obtain⟨t,h1,h2⟩:=he;exact⟨t,λ j=>km (nd j) (hN j) (hx j) (h1 j) (hs j) (hf j),h2⟩
def aCr(P:Nat->Bool):Mode->Bool
 |some L=>L.all P
 |none=>false
def lC(h:aCr P m=true):∀k,inM m k->P k=true:=by
 intro k hk;cases m with
 |none=>cases h
 |some L=>exact zAm.mp h k hk
abbrev okS:Mode->Bool:=aCr λ k=>decide (k<=1)
abbrev okN:Mode->Bool:=aCr λ k=>k==1
abbrev okO(i:Nat):Mode->Bool:=aCr λ k=>k==1||k==i+2
def cV(i:Nat)(fe:En->Rs D):En->Ou:=λ Y=>(fe Y).bo λ d=>.nx (Y.set i (.sh d))
def wH(i:Nat)(fe:En->Rs D):En->Ou:=λ Y=>(fe Y).bo λ d=>.nx (Y.set i (.nw d))
def j7(i:Nat)(fe:En->Rs D):En->Ou:=λ Y=>(fe Y).bo λ d=>.nx (Y.set i (.ow d))
def RR.shared{K:zAA}(hm:okS m=true)(R:RR K G U Y Z H lab)(s:aO H H')(r:Rp K (fpM m lab H) H' v d):
  RR K G U Y Z H' (bV H 1 lab)/\Rp K (λ p=>(bV H 1 lab p).1<=1) H' v d:=R.fresh (P:=λ k=>k<=1) (by decide) (λ k hk=>of_decide_eq_true (lC hm k hk)) s r
def cG{i:Nat}(h:SV C i s m fe)(hm:okS m=true:=by rfl):SS C s (cV i fe):=by
 obtain⟨t,h1,h2⟩:=h;refine⟨_,h1,λ U Z H Y lab De R W=>h2 U Z H Y lab _ R (W.bo.imp λ d _ w v H' s r=>?_)⟩;obtain⟨R',r'⟩:=R.shared hm s r;exact w _ _ _ (R'.put (s:=.sh d) r')
def mz(h:SV C i s m fe)(hm:okN m=true:=by rfl):SS C s (wH i fe):=by
 obtain⟨t,h1,h2⟩:=h;refine⟨_,h1,λ U Z H Y lab De R W=>h2 U Z H Y lab _ R (W.bo.imp λ d _ w v H' s r=>?_)⟩;obtain⟨R',r'⟩:=R.fresh (P:=λ k=>k=1) rfl (λ k hk=>beq_iff_eq.mp (lC hm k hk)) s r;exact w _ _ _ (R'.put (s:=.nw d) r')
def gq(h:SVF C i s m fe)(hm:okO i m=true:=by rfl):SS C s (j7 i fe):=by
 obtain⟨t,h1,h2⟩:=h;refine⟨_,h1,λ U Z H Y lab De R W=>h2 U Z H Y lab _ R (W.bo.imp λ d _ w v H' s r ht=>?_)⟩;obtain⟨lab',R',r'⟩:=R.freshO i (λ k hk=>by have:=lC hm k hk;simpa using this) s r ht;exact w _ _ _ (R'.put (s:=.ow d) r')
def aJ3(K:zAA)(G:Gx)(g:TG)(fg:D->En->Rs En):Prop:=∀U v d Z H Y lab (Q:L2.St->Hp->Prop) Y',RR K G U Y Z H lab->Rp K (λ p=>(lab p).1<=1) H v d->fg d Y= .ok Y'->(∀Z',RR K G U Y' Z' H lab->Q Z' H)->g v Z H Q
def aNe(K:zAA)(G:Gx)(g:TGs)(fg:List D->En->Rs En):Prop:=∀U vs ds Z H Y lab (Q:L2.St->Hp->Prop) Y',RR K G U Y Z H lab->Rps K (λ p=>(lab p).1<=1) H vs ds->fg ds Y= .ok Y'->(∀Z',RR K G U Y' Z' H lab->Q Z' H)->g vs Z H Q
def SG(C:Ct)(tg:Expr)(ks:List Nat)(fg:D->En->Rs En):Prop:=∃g,(∀i,PG (C.X i) tg g)/\aJ3 C.K C.G g fg/\qY g ks/\aBM g
def SGs(C:Ct)(tg:List Expr)(ks:List Nat)(fg:List D->En->Rs En):Prop:=∃g,(∀i,PGs (C.X i) tg g)/\aNe C.K C.G g fg/\wB g ks/\rT g
def gnm(i:Nat):D->En->Rs En:=λ d Y=>.ok (Y.set i (.sh d))
def iZ:List D->En->Rs En:=λ ds Y=>match ds with
 |[]=>.ok Y
 |_=>.st
def bI(f:D->En->Rs En)(g:List D->En->Rs En):List D->En->Rs En:=λ ds Y=>match ds with
 |d::r=>(f d Y).bd (g r)
 |_=>.st
def iB(n:Nat)(g:List D->En->Rs En):D->En->Rs En:=λ d Y=>match d with
 | .tup ds=>if ds.length=n then g ds Y else .st
 |_=>.st
variable{ks:List Nat}{fg:D->En->Rs En}{fgs:List D->En->Rs En}{tg:Expr}{tgs:List Expr}
def bN(hN:∀j,(C.X j).N[i]? =some x:=by intro _;rfl)(hx:∀j,Loc (C.X j).env.scope x:=by intro _;first|exact zBm rfl|exact zBK rfl)(hf:∀j,(C.X j).fn x=true\/(C.X j).env.scope.names.lookup x=some .local:=by intro _;first|exact .inl rfl|exact .inr rfl)(nd:∀j,(C.X j).N.Nodup:=by intro _;assumption)(hk:i∈ks:=by decide):SG C (.Name x pos) ks (gnm i):=
 ⟨_,λ j=>aIL (nd j) (hN j) (hx j) (hf j),λ U v d Z H Y lab Q Y' R r e q=>by cases e;exact q _ (R.put (s:=.sh d) r),aJC hk,aJE⟩
def gr:SGs C [] ks iZ:=by
 refine⟨_,λ _=>aIK,λ U vs ds Z H Y lab Q Y' R r e q=>?_,aJB,aJD⟩;cases r with
 |nil=>cases e;exact⟨rfl,q _ R⟩
 |cons _ _=>cases e
def bM(h:SG C tg ks fg)(k:SGs C tgs ks fgs)(hs:∀i,(zCR (tg::tgs) (C.X i).env).map (·.2)=zDv tg (C.X i).env::(zCR tgs (C.X i).env).map (·.2):=by intro _;rfl):SGs C (tg::tgs) ks (bI fg fgs):=by
 obtain⟨g,h1,h2,h3,h4⟩:=h;obtain⟨u,k1,k2,k3,k4⟩:=k;refine⟨_,λ i=>aFc (h1 i) (k1 i) (hs i),λ U vs ds Z H Y lab Q Y' R r e q=>?_,aGb h3 h4 k3 k4,aGe h4 k4⟩;cases r with
 |nil=>cases e
 |cons h r=>
  obtain⟨Y1,e1,e2⟩:=cR e;exact⟨_,_,rfl,h2 U _ _ Z H Y lab _ Y1 R h e1 λ Z1 R1=>k2 U _ _ Z1 H Y1 lab Q Y' R1 r e2 q⟩
def kO(h:SGs C tgs ks fgs)(hn:∀i,(zCR tgs (C.X i).env).length=n:=by intro _;rfl)(hst:∀i,(zCR tgs (C.X i).env).findIdx? (·.1)=none:=by intro _;rfl):SG C (.Tuple tgs k pos) ks (iB n fgs):=by
 obtain⟨u,k1,k2,k3,k4⟩:=h;refine⟨aJF C.K n u,λ i=>by rw[<-C.hK i];exact aKs (C.calm i) (k1 i) (hn i) (hst i),λ U v d Z H Y lab Q Y' R r e q=>?_,aLs k3,aLt k4⟩;cases r with
 |tup h r=>
  unfold iB at e;dsimp only at e;split at e
  .rename_i hl
   exact⟨_,_,rfl,h,by rw[r.length];exact hl,k2 U _ _ Z H Y lab Q Y' R r e q⟩
  .cases e
 |_=>cases e
def aHE(fe:En->Rs D)(fg:D->En->Rs En):En->Ou:=λ Y=>(fe Y).bo λ d=>match fg d Y with
 | .ok Y'=>.nx Y'
 |_=>.st
def aK1(he:SE C m e fe)(hg:SG C tg ks fg)(hm:okS m=true:=by rfl)(hs:∀i,zHI [tg] e pos.line (C.X i).env=pure false:=by intro _;rfl)(hw:∀i,zHH [tg] e (C.X i).env=pure none:=by intro _;rfl)
  (h1:∀i,(zCR [tg] (C.X i).env).map (·.2)=[zDv tg (C.X i).env]:=by intro _;rfl):SS C (.Assign [tg] e pos) (aHE fe fg):=by
 obtain⟨t,p1,p2⟩:=he;obtain⟨g,q1,q2,_,_⟩:=hg;refine⟨_,λ i=>aF4 (p1 i) (q1 i) (hs i) (hw i) (h1 i),λ U Z H Y lab De R W=>p2 U Z H Y lab _ R (W.bo.imp λ d _ w v H' s r=>?_)⟩;obtain⟨R',r'⟩:=R.shared hm s r;cases hgd:fg d Y with
 |ok Y'=>rw[hgd]at w;exact q2 U v d Z H' Y _ _ Y' R' r' hgd λ Z' R2=>w Z' H' _ R2
 |ex c=>rw[hgd]at w;exact zAF w
 |st=>rw[hgd]at w;exact zAF w
def JL(K:zAA)(lab:Lab)(J:It)(H:Hp)(ds:List D):Prop:=∀i,(ds.length<=i->J.stop i H)/\(i<ds.length->J.go i H/\∀x H',J.yld i H x H'->aO H H'/\∃d,ds[i]? =some d/\Rp K (λ p=>(lab p).1<=1) H' x d)
def aJ2(K:zAA)(G:Gx)(wi:TI)(f:En->Rs (List D)):Prop:=∀U Z H Y lab (Rr:It->Hp->Prop),RR K G U Y Z H lab->
 WR G (f Y) (λ ds=>∀J H1 lab1 U1,aO H H1->(∀p o,H p=some o->lab1 p=lab p)->RR K G (U1++U) Y Z H1 lab1->(∀lab' H',(∀q∈U1,Rp K (λ p=>(lab' p).1<=1) H' q.1 q.2)->JL K lab' J H' ds)->Rr J H1)->wi Z H Rr
def SI(C:Ct)(tg iter:Expr)(f:En->Rs (List D)):Prop:=∃wi,(∀i,PI (C.X i) tg iter wi)/\aJ2 C.K C.G wi f
def aLq(K:zAA)(tl:TE):TI:=λ Z H R=>tl Z H λ x H1=>∃a,x= .ref a/\(((∃xs,SqL K H1 a xs)/\R (Itl K a) H1)\/((∃xs,SqT K H1 a xs)/\R (Itt K a) H1))
def aF9(hl:PE X l tl):PI X tg l (aLq X.K tl):=by
 intro hV s Z H R I h;refine thn (hl hV s Z H _ I h) λ v s1 ⟨x,H1,I1,r1,a,e,q1⟩=>?_
 subst e;cases r1;have hp:∀b∈[s1.heap.objs.size],lY X hV H1 b:=λ b hb=>by
  have e:b=s1.heap.objs.size:=by simpa using hb
  rw[e];exact I1.fpOk (zAP _) (I1.hok.fresh (zAP _))
 rcases q1 with ⟨⟨xs,hq⟩,q⟩|⟨⟨xs,hq⟩,q⟩
 .obtain⟨its,rv,p,hz⟩:=I1.list hq
  refine zIX p.isList ?_;exact⟨_,_,_,_,H1,rfl,I1.kept (t':=s1.toks) λ b o e=>zAI _ e,aD1 a _,⟨_,zA0 _ rfl,rfl,rfl⟩,hp,q⟩
 .obtain⟨its,rv,p,hz⟩:=I1.tuple hq
  refine zIC (show s1.heap.IsTuple a its.toArray from p) ?_;exact⟨_,_,_,_,H1,rfl,I1.kept (t':=s1.toks) λ b o e=>zAI _ e,aBT a _,⟨_,zA0 _ rfl,rfl,rfl⟩,hp,q⟩
def itD:D->Rs (List D)
 | .tup l=>.ok l
 | .lst l=>.ok l
 | .scr l=>.ok (l.map .int)
 |_=>.st
def gW(fe:En->Rs D):En->Rs (List D):=λ Y=>(fe Y).bd itD
def aCx{K:zAA}(h:SqL K H a xs)(r:Rps K (λ p=>(lab p).1<=1) H xs ds):JL K lab (Itl K a) H ds:=by
 have hl:=r.length;refine λ i=>⟨λ hi=>⟨xs,h,by lia⟩,λ hi=>⟨⟨xs,xs[i]'(by lia),h,by simp[hl,hi]⟩,λ x H' y=>?_⟩⟩
 obtain⟨e,y⟩:=y;subst e;obtain⟨d,h1,h2⟩:=r.get (y xs h);exact⟨aO.refl _,d,h1,h2⟩
def aLi{K:zAA}(h:SqT K H a xs)(r:Rps K (λ p=>(lab p).1<=1) H xs ds):JL K lab (Itt K a) H ds:=by
 have hl:=r.length;refine λ i=>⟨λ hi=>⟨xs,h,by lia⟩,λ hi=>⟨⟨xs,xs[i]'(by lia),h,by simp[hl,hi]⟩,λ x H' y=>?_⟩⟩
 obtain⟨e,y⟩:=y;subst e;obtain⟨d,h1,h2⟩:=r.get (y xs h);exact⟨aO.refl _,d,h1,h2⟩
def gh(he:SE C m e fe)(hm:okS m=true:=by rfl):SI C tg e (gW fe):=by
 obtain⟨t,p1,p2⟩:=he;refine⟨aLq C.K t,λ i=>by rw[<-C.hK i];exact aF9 (p1 i),λ U Z H Y lab Rr R W=>p2 U Z H Y lab _ R (W.bd.imp λ d _ w v H1 s r=>?_)⟩;obtain⟨R',r'⟩:=R.shared hm s r;cases d with
 |tup l=>
  cases r' with
  |tup h q=>
   rename_i a xs;refine⟨_,rfl,.inr ⟨⟨_,h⟩,w _ H1 _ [(.ref a,.tup l)] s (λ p o e=>bD e) ⟨R'.len,R'.sl,R'.old,R'.new,λ z hz=>?_⟩ λ lab' H' hq=>?_⟩⟩
   .rcases zAN.mp hz with rfl|hz
    .exact .tup h q
    .exact R'.tm z hz
   .have z:=hq _ (zAG ..)
    cases z with
    |tup h' q'=>exact aLi h' q'
 |lst l=>
  cases r' with
  |lst h mm q=>
   rename_i a xs;refine⟨_,rfl,.inl ⟨⟨_,SqL.of h⟩,w _ H1 _ [(.ref a,.lst l)] s (λ p o e=>bD e) ⟨R'.len,R'.sl,R'.old,R'.new,λ z hz=>?_⟩ λ lab' H' hq=>?_⟩⟩
   .rcases zAN.mp hz with rfl|hz
    .exact .lst h mm q
    .exact R'.tm z hz
   .have z:=hq _ (zAG ..)
    cases z with
    |lst h' _ q'=>exact aCx (SqL.of h') (q'.wk λ _ _ _ z=>z.1)
 |scr l=>
  cases r' with
  |scr h=>
   rename_i a;refine⟨_,rfl,.inl ⟨⟨_,h.sq⟩,w _ H1 _ [(.ref a,.scr l)] s (λ p o e=>bD e) ⟨R'.len,R'.sl,R'.old,R'.new,λ z hz=>?_⟩ λ lab' H' hq=>?_⟩⟩
   .rcases zAN.mp hz with rfl|hz
    .exact .scr h
    .exact R'.tm z hz
   .have z:=hq _ (zAG ..)
    cases z with
    |scr h'=>exact aCx h'.sq Rps.ints
 |_=>exact zAF w
end
section
variable{C:Ct}{pos:Pos}{s:Stmt}{ss:List Stmt}{f:En->Ou}{e a b:Expr}{es:List Expr}{m:Mode}{fa:En->Rs D}{ks:List Nat}{fg:D->En->Rs En}{tg:Expr}{fi:En->Rs (List D)}{ga:En->Rs (List D)}
def dD(lo hi:Int):List D:=(zA1 (hi-lo).toNat).map λ(k:Nat)=>.int (lo+(k:Int))
def lW:List D->Rs (List D)
 |[.int j]=>if -(2^62)<=j/\j<2^62 then .ok (dD 0 j)else .st
 |_=>.st
def ud:List D->Rs (List D)
 |[.int i,.int j]=>if (-(2^62)<=i/\i<2^62)/\(-(2^62)<=j/\j<2^62)then .ok (dD i j)else .st
 |_=>.st
def fW(r:List D->Rs (List D))(ga:En->Rs (List D)):En->Rs (List D):=λ Y=>(ga Y).bd r
def aGU{K:zAA}{lo hi:Int}:JL K lab (Itr lo (hi-lo).toNat) H (dD lo hi):=by
 have hl:(dD lo hi).length=(hi-lo).toNat:=by unfold dD;simp
 refine λ i=>⟨λ h=>by show(hi-lo).toNat<=i;lia,λ h=>⟨by show i<(hi-lo).toNat;lia,λ x H' y=>?_⟩⟩
 obtain⟨e,rfl⟩:=y;subst e;refine⟨aO.refl _,.int (lo+i),?_,.int _⟩;unfold dD;rw[zAZ,zDR (by lia)];rfl
def kJ(ha:SA C m [a] ga)(hm:C.mg "range"=none)(hs:∀i,zAY [a] (C.X i).env=[(false,eval a (C.X i).env)]:=by intro _;rfl)(hg:∀i,Gl (C.X i) "range":=by intro _;rfl):SI C tg (.Call (.Name "range" p) [a] [] pos) (fW lW ga):=by
 obtain⟨t,h1,h2⟩:=ha;refine⟨_,λ i=>aDj (hg i) (by rw[(C.cx i).2.2.2.1];exact hm) (h1 i) (hs i),λ U Z H Y lab Rr R W=>h2 U Z H Y lab _ R (W.bd.imp λ ds _ w vs H1 s r=>?_)⟩;unfold lW at w;split at w
 .rename_i j _
  split at w
  .rename_i hj
   cases r with
   |cons h r=>
    cases h;cases r;refine⟨j,rfl,hj.1,hj.2,?_⟩;have z:=w (Itr 0 (j-0).toNat) H1 lab [] s (λ _ _ _=>rfl) (R.up s) λ lab' H' _=>aGU
    rwa [Int.sub_zero]at z
  .exact zAF w
 .exact zAF w
def pY(ha:SA C m [a,b] ga)(hm:C.mg "range"=none)(hs:∀i,zAY [a,b] (C.X i).env=[(false,eval a (C.X i).env),(false,eval b (C.X i).env)]:=by intro _;rfl)(hs2:∀i,zAY [b] (C.X i).env=[(false,eval b (C.X i).env)]:=by intro _;rfl)(hg:∀i,Gl (C.X i) "range":=by intro _;rfl):SI C tg (.Call (.Name "range" p) [a,b] [] pos) (fW ud ga):=by
 obtain⟨t,h1,h2⟩:=ha;refine⟨_,λ i=>aDi (hg i) (by rw[(C.cx i).2.2.2.1];exact hm) (h1 i) (hs i) (hs2 i),λ U Z H Y lab Rr R W=>h2 U Z H Y lab _ R (W.bd.imp λ ds _ w vs H1 s r=>?_)⟩;unfold ud at w;split at w
 .rename_i i j _
  split at w
  .rename_i hj
   cases r with
   |cons h r=>
    cases h;cases r with
    |cons h r=>
     cases h;cases r;exact⟨i,j,rfl,⟨hj.1.1,hj.1.2,hj.2.1,hj.2.2⟩,w (Itr i (j-i).toNat) H1 lab [] s (λ _ _ _=>rfl) (R.up s) λ lab' H' _=>aGU⟩
  .exact zAF w
 .exact zAF w
def forL(fg:D->En->Rs En)(b:En->Ou):List D->En->Ou
 |[],Y=>.nx Y
 |d::ds,Y=>match fg d Y with
  | .ok Y1=>match b Y1 with
   | .nx Y2=>forL fg b ds Y2
   | .ct Y2=>forL fg b ds Y2
   | .bk Y2=>.nx Y2
   |o=>o
  |_=>.st
def jZ(fi:En->Rs (List D))(fg:D->En->Rs En)(b:En->Ou):En->Ou:=λ Y=>(fi Y).bo λ ds=>forL fg b ds Y
def fH(hi:SI C tg e fi)(hg:SG C tg ks fg)(hb:SSs C ss f)(hs:∀i,∀x,zBO e (C.X i).env x=pure x:=by intro _ _;rfl):SS C (.For tg e ss [] pos) (jZ fi fg f):=by
 obtain⟨wi,i1,i2⟩:=hi;obtain⟨gg,g1,g2,_,g4⟩:=hg;obtain⟨tb,b1,b2⟩:=hb;refine⟨_,λ i=>aF3 (C.own i) (C.calm i) (i1 i) (g1 i) (b1 i) (hs i),λ U Z H Y lab De R W=>i2 U Z H Y lab _ R (W.bo.imp λ ds _ w J H1 lab1 U1 s1 _ R1 jl=>?_)⟩;refine⟨λ i n Z' H'=>∃Y' lab',RR C.K C.G (U1++U) Y' Z' H' lab'/\n=ds.length-i/\i<=ds.length/\WS C.K C.G U (forL fg f (ds.drop i) Y') De,⟨ds.length,Y,lab1,R1,by lia,by lia,w⟩,?_⟩;rintro i n Z' H' ⟨Y',lab',R',rfl,hi,w'⟩;have jj:=jl lab' H' λ q hq=>R'.tm q (zA4 _ hq)
 by_cases hlt:i<ds.length
 .obtain⟨go,yl⟩:=(jj i).2 hlt
  refine .inr ⟨go,λ Z2 H2=>∃Y2 lab2,RR C.K C.G (U1++U) Y2 Z2 H2 lab2/\WS C.K C.G U (forL fg f (ds.drop (i+1)) Y2) De,λ Z2 H2 ⟨Y2,lab2,R2,w2⟩=>⟨ds.length-(i+1),by lia,Y2,lab2,R2,rfl,hlt,w2⟩,λ x H2 hy=>?_⟩;obtain⟨s2,d,ed,rx⟩:=yl x H2 hy;replace R':=R'.up s2;have ed2:ds.drop i=d::ds.drop (i+1):=by
   rw[zBq hlt]
   have:=zAH hlt
   rw[ed]at this;cases this;rfl
  rw[ed2]at w';unfold forL at w';cases eg:fg d Y' with
  |ex c=>rw[eg]at w';exact zAF w'
  |st=>rw[eg]at w';exact zAF w'
  |ok Y1=>
   rw[eg]at w';refine g2 (U1++U) x d Z' H2 Y' lab' _ Y1 R' rx eg λ Z1 R1'=>b2 (U1++U) Z1 H2 Y1 lab' _ R1' ?_
   dsimp only at w';cases eb:f Y1 with
   |nx Y2=>rw[eb]at w';exact λ Z2 H3 lab2 R2=>⟨Y2,lab2,R2,w'⟩
   |ct Y2=>rw[eb]at w';exact λ Z2 H3 lab2 R2=>⟨Y2,lab2,R2,w'⟩
   |bk Y2=>rw[eb]at w';exact λ Z2 H3 lab2 R2=>w' Z2 H3 lab2 R2.drop
   |rt d=>rw[eb]at w';exact w'
   |ex c=>rw[eb]at w';exact w'
   |st=>rw[eb]at w';exact w'
 .have e:i=ds.length:=by lia
  subst e;rw[zDC]at w';exact .inl ⟨(jj _).1 (zAP _),w' Z' H' lab' R'.drop⟩
def itW(c:En->Rs Bool)(b:En->Ou):Nat->En->Ou
 |0,_=>.st
 |n+1,Y=>(c Y).bo λ k=>if k=true then(match b Y with
   | .nx Y2=>itW c b n Y2
   | .ct Y2=>itW c b n Y2
   | .bk Y2=>.nx Y2
   |o=>o)else .nx Y
def fuel:Nat:=1000000
def aBQ(c:En->Rs Bool)(b:En->Ou):En->Ou:=itW c b fuel
def aEp(hc:ST C c fc)(hb:SSs C ss f):SS C (.While c ss [] pos) (aBQ fc f):=by
 obtain⟨tc,c1,c2⟩:=hc;obtain⟨tb,b1,b2⟩:=hb;refine⟨_,λ i=>aF0 (C.own i) (c1 i) (b1 i),λ U Z H Y lab De R W=>?_⟩;refine⟨λ n Z' H'=>∃Y' lab',RR C.K C.G U Y' Z' H' lab'/\WS C.K C.G U (itW fc f n Y') De,⟨fuel,Y,lab,R,W⟩,?_⟩;rintro n Z' H' ⟨Y',lab',R',w'⟩;cases n with
 |zero=>exact zAF w'
 |succ n=>
  refine c2 U Z' H' Y' lab' _ R' (WS.bo (show WS C.K C.G U ((fc Y').bo _) De from w') |>.imp λ k _ w H1 s1=>?_);cases k with
  |false=>
   rw[if_neg zA7]at w ⊢;exact w Z' H1 lab' (R'.up s1)
  |true=>
   rw[if_pos rfl]at w ⊢;refine⟨λ Z2 H2=>∃Y2 lab2,RR C.K C.G U Y2 Z2 H2 lab2/\WS C.K C.G U (itW fc f n Y2) De,λ Z2 H2 ⟨Y2,lab2,R2,w2⟩=>⟨n,zC7 n,Y2,lab2,R2,w2⟩,?_⟩;refine b2 U Z' H1 Y' lab' _ (R'.up s1) ?_;cases eb:f Y' with
   |nx Y2=>rw[eb]at w;exact λ Z2 H3 lab2 R2=>⟨Y2,lab2,R2,w⟩
   |ct Y2=>rw[eb]at w;exact λ Z2 H3 lab2 R2=>⟨Y2,lab2,R2,w⟩
   |bk Y2=>rw[eb]at w;exact w
   |rt d=>rw[eb]at w;exact w
   |ex c=>rw[eb]at w;exact w
   |st=>rw[eb]at w;exact w
def uh(x:Str)(ga:En->Rs (List D)):En->Ou:=λ Y=>(ga Y).bo λ ds=>if ds.length<=zAK then .ex x else .st
def aAD{rest:List Expr}(hd:C.dOk=true)(hm:C.mg x=some (.ref Ca))(hcl:C.G.cl x=Ca)(hC:bu C.K Ca)(ha:SA C m (yY::rest) ga)(he:∀i,zAY (yY::rest) (C.X i).env=(false,eval yY (C.X i).env)::zAY rest (C.X i).env:=by intro _;rfl)(hplain:∀i,(zCE cpos (zAY rest (C.X i).env)).any (·.1)=false:=by intro _;rfl)(hdb:Nd x:=by decide)(hg:∀i,Gl (C.X i) x:=by intro _;rfl):SS C (.Raise (some (.Call (.Name x np) (yY::rest) [] cpos)) none pos) (uh x ga):=by
 obtain⟨t,h1,h2⟩:=ha;refine⟨_,λ i=>aF2 (C.dcx hd i) (C.calm i) (by rw[(C.cx i).2.2.2.1];exact hm) (by rw[C.hK i];exact hC) (hg i) (h1 i) (he i) (hplain i) hdb,λ U Z H Y lab De R W=>h2 U Z H Y lab _ R (W.bo.imp λ ds _ w vs H1 s r=>?_)⟩;by_cases hz:ds.length<=zAK
 .rw[if_pos hz]at w
  refine⟨by rw[r.length];exact hz,?_⟩
  have:=w H1 (R.old.trans s)
  rwa [hcl]at this
 .rw[if_neg hz]at w
  exact zAF w
def spF(K:zAA)(cl:Str->Addr)(n:Nat)(F:List D->Rs D):Sp:=λ vs H Q E=>∃ds,vs.length=n/\Rps K (λ _=>True) H vs ds/\WR ⟨H,E,cl⟩ (F ds) (λ d=>∀v H',aO H H'->Rp K (λ p=>H p=none) H' v d->Q v H')
def au(F:List D->Rs D)(ga:En->Rs (List D)):En->Rs D:=λ Y=>(ga Y).bd F
def aEv{K:zAA}(hn:∀Y ds,ga Y= .ok ds->ds.length=n)(h:aM2 K G m t ga):gm K G (some []) (zy (spF K G.cl n F) [] G.E t) (au F ga):=by
 intro U Z H Y lab Q R W;refine h U Z H Y lab _ R (W.bd.imp λ ds eds w vs H1 s r=>⟨ds,by rw[zBB,r.length];exact hn Y ds eds,by rw[zBB];exact r.wk λ _ _ _ _=>trivial,?_⟩);cases hF:F ds with
 |ok d=>
  rw[hF]at w;exact λ v H' s' r'=>w v H' (s.trans s') (r'.wk λ p o _ z=>.inl (s.free z))
 |ex c=>rw[hF]at w;exact λ H' s'=>w H' ((R.old.trans s).trans s')
 |st=>rw[hF]at w;exact w
variable{k:Nat}{fn:Addr}{fd:zAo}{ps:List Str}{x:Str}{p:Pos}{F:List D->Rs D}{n:Nat}
def aHn(hF:cg C.prog C.w C.K C.mg C.base (CX1 C.prog C.w) k fn fd ps (spF C.K C.G.cl n F))(hr:k<=C.k)(hm:C.mg x=some (.ref fn))(hk:zBZ C.K (.ref fn)=true)(hb:Binds C.K fd ps [])(ha:SA C m (e::es) ga)(hn:∀Y ds,ga Y= .ok ds->ds.length=n)(hdb:Nd x:=by decide)(he:∀i,zAY (e::es) (C.X i).env=(false,eval e (C.X i).env)::zAY es (C.X i).env:=by intro _;rfl)(hpl:∀i,(zCE pos (zAY es (C.X i).env)).any (·.1)=false:=by intro _;rfl)(hg:∀i,Gl (C.X i) x:=by intro _;rfl):SE C (some []) (.Call (.Name x p) (e::es) [] pos) (au F ga):=by
 obtain⟨t,h1,h2⟩:=ha;refine⟨_,λ i=>?_,aEv hn h2⟩;obtain⟨e1,e2,e3,e4,e5⟩:=C.cx i;refine aIS (CX:=CX1 (C.X i).prog (C.X i).w) (by rw[e1,e2,e3,e4,e5];exact hF) ((C.room i).mono hr) (hg i) (by rw[e4];exact hm) (by rw[e3];exact hk) (by rw[e3];exact hb) .nil (C.pass i) (h1 i) hdb (he i) (hpl i)
def aIg(h:aK Y= .ok ds):ds.length=0:=by cases h;rfl
def aGK(h:∀Y ds,ga Y= .ok ds->ds.length=n):∀Y ds,aD fa ga Y= .ok ds->ds.length=n+1:=λ Y ds e=>by
 obtain⟨d,_,e⟩:=cR e;obtain⟨r,er,e⟩:=cR e;cases e;rw[zA6,h Y r er]
end
def aa(mg:Str->Option Value):Str->Addr:=λ x=>match mg x with
 |some (.ref a)=>a
 |_=>0
abbrev ctD(P:zAS)(w:World)(K:zAA)(mg:Str->Option Value)(base:Heap)(N:List Str)(q:Str)(sc:Scope)(f:Addr)(cdv:Value)(A:zA8)(outer:List Env)(s:zAB)(H:Hp)(E:XK)(k:Nat)(hr:dj k (A.deeper (zCc q sc s.heap.objs.size f cdv))):Ct where
 ι:=Unit
 X:=λ _=>tQ (CX1 P w) P w K mg base N q sc f cdv A outer s H E
 prog:=P
 w:=w
 K:=K
 mg:=mg
 base:=base
 k:=k
 G:=⟨H,E,aa mg⟩
 cx:=λ _=>⟨rfl,rfl,rfl,rfl,rfl⟩
 calm:=λ _=>rfl
 room:=λ _=>hr
 own:=λ _=>cj.own cj.of
 pass:=λ _=>cj.pass cj.of
 dOk:=true
 dcx:=λ _ _=>cj.of
def ao(n:Nat)(ds:List D):En:=ds.map .sh++zAO (n-ds.length) .no
def fG(n:Nat)(f:En->Ou):List D->Rs D:=λ ds=>match f (ao n ds)with
 | .nx _=>.ok .non
 | .rt d=>.ok d
 | .ex c=>.ex c
 |_=>.st
theorem RR.start{K:zAA}(r:Rps K (λ _=>True) H vs ds):RR K ⟨H,E,cl⟩ [] (ao N.length ds) (start N vs) H (λ _=>(0,0)):=by
 have hl:=r.length;refine⟨by unfold ao L2.start;simp[hl],λ i s e=>?_,aO.refl H,λ p hp=>absurd rfl hp,λ q hq=>by cases hq⟩;unfold ao at e;by_cases hi:i<ds.length
 .rw[zB3 (by simpa using hi),zAZ]at e
  cases ed:ds[i]? with
  |none=>rw[ed]at e;cases e
  |some d=>
   rw[ed]at e;cases e;obtain⟨x,ex,rx⟩:=r.getD ed;refine .inr ⟨x,?_,rx.wk λ _ _ _ _=>zAj _⟩;unfold L2.start;rw[zB3 (by simpa[hl]using hi),zAZ,ex];rfl
 .rw[zDW (by simpa using hi),zCg]at e
  split at e
  .cases e;exact .inl rfl
  .cases e
section
variable{P:zAS}{w:World}{K:zAA}{mg:Str->Option Value}{base:Heap}
def aLy{x q:Str}{st:Stmt}(F:L2.Fun K x q st fn fd)(S:aZ N ps (aF st))
  (hb:∀cdv A outer s H E hr,SSs (ctD P w K mg base N q (aF st) fn cdv A outer s H E k hr) (cN st) f):
  cg P w K mg base (CX1 P w) (k+1) fn fd ps (spF K (aa mg) ps.length (fG N.length f)):=by
 refine F.okX S (λ vs H Q E ⟨ds,hl,_⟩=>hl) λ cdv A outer s H vs Q E hr ⟨ds,hl,r,W⟩=>?_
 obtain⟨t,h1,h2⟩:=hb cdv A outer s H E hr;refine⟨t,h1 (),h2 [] _ H _ _ _ (RR.start r) ?_⟩;unfold fG at W;cases e:f (ao N.length ds)with
 |nx Y=>rw[e]at W;exact λ Z' H' lab R=>W .non H' R.old .non
 |rt d=>rw[e]at W;exact λ v H' s r=>W v H' s r
 |ex c=>rw[e]at W;exact W
 |bk Y=>rw[e]at W;exact zAF W
 |ct Y=>rw[e]at W;exact zAF W
 |st=>rw[e]at W;exact zAF W
def aJH{st:Stmt}(F:L2.Fun K x q st fn fd)(S:aZ N ps (aF st))
  (hb:∀cdv A outer s H E hr,SSs (ctD P w K mg base N q (aF st) fn cdv A outer s H E k hr) (cN st) f)(hn:ps.length=n)(hF:fG N.length f=FF):
  cg P w K mg base (CX1 P w) (k+1) fn fd ps (spF K (aa mg) n FF):=by
 subst hn hF;exact aLy F S hb
end
def OpR.or(h:OpR X f r)(h':OpR X f r'):OpR X f (λ x y H Q=>r x y H Q\/r' x y H Q):=by
 intro hV s Z H x y v u Q I rx ry q;rcases q with q|q
 .exact h hV s Z H x y v u Q I rx ry q
 .exact h' hV s Z H x y v u Q I rx ry q
def OpS.or{K:zAA}(h:OpS K r fd)(h':OpS K r' fd'):OpS K (λ x y H Q=>r x y H Q\/r' x y H Q) (λ d e=>match fd d e with
  | .ok z=>.ok z
  |_=>fd' d e):=by
 intro A x y d e H Q z rx ry ez q;dsimp only at ez;cases hd:fd d e with
 |ok w=>rw[hd]at ez;cases ez;exact .inl (h A x y d e H Q _ rx ry hd q)
 |ex c=>rw[hd]at ez;exact .inr (h' A x y d e H Q z rx ry ez q)
 |st=>rw[hd]at ez;exact .inr (h' A x y d e H Q z rx ry ez q)
section
variable{K:zAA}
def i2(p:Int->Int->Bool)(g:Int->Int->D):D->D->Rs D
 | .int i,.int j=>if p i j=true then .ok (g i j)else .st
 |_,_=>.st
def uv{g:Int->Int->Int}(hp:∀i j,p i j=true->c i j):OpS K (rI c λ i j=>.int (g i j)) (i2 p λ i j=>.int (g i j)):=by
 intro A x y d e H Q z rx ry ez q;unfold i2 at ez;split at ez
 .rename_i i j
  split at ez
  .rename_i h
   cases ez;obtain rfl:=rx.int_inv;obtain rfl:=ry.int_inv;exact⟨i,j,rfl,rfl,hp i j h,q _ H (aO.refl H) (.int _)⟩
  .cases ez
 .cases ez
def aCq{g:Int->Int->Int}:OpS K (rI0 λ i j=>.int (g i j)) (i2 (λ _ _=>true) λ i j=>.int (g i j)):=by
 intro A x y d e H Q z rx ry ez q;unfold i2 at ez;split at ez
 .rename_i i j
  cases ez;obtain rfl:=rx.int_inv;obtain rfl:=ry.int_inv;exact⟨i,j,rfl,rfl,q _ H (aO.refl H) (.int _)⟩
 .cases ez
def yo{g:Int->Int->Bool}:OpS K (rI0 λ i j=>.bl (g i j)) (i2 (λ _ _=>true) λ i j=>.bl (g i j)):=by
 intro A x y d e H Q z rx ry ez q;unfold i2 at ez;split at ez
 .rename_i i j
  cases ez;obtain rfl:=rx.int_inv;obtain rfl:=ry.int_inv;exact⟨i,j,rfl,rfl,q _ H (aO.refl H) (.bl _)⟩
 .cases ez
def pI{g:Int->Int->Int}:∀x y z,i2 p (λ i j=>.int (g i j)) x y= .ok z->imm z=true:=by
 intro x y z e;unfold i2 at e;split at e
 .split at e
  .cases e;rfl
  .cases e
 .cases e
def aG6{g:Int->Int->Bool}:∀x y z,i2 p (λ i j=>.bl (g i j)) x y= .ok z->imm z=true:=by
 intro x y z e;unfold i2 at e;split at e
 .split at e
  .cases e;rfl
  .cases e
 .cases e
def cC:D->D->Rs D
 | .int i,.int j=>.ok (.int (i+j))
 | .lst l,.lst m=>if l.length+m.length<=zAK then .ok (.lst (l++m))else .st
 | .tup l,.tup m=>if l.length+m.length<=zAK then .ok (.tup (l++m))else .st
 |_,_=>.st
def aJs(K:zAA):R2:=λ x y H Q=>∃a b xs ys,x= .ref a/\y= .ref b/\SqT K H a xs/\SqT K H b ys/\xs.length+ys.length<=zAK/\
 (xs=[]->Q (.ref b) H)/\(ys=[]->Q (.ref a) H)/\New H (.tup (xs++ys)) Q
def aI2:OpR X (zB7 .Add) (aJs X.K):=by
 intro hV s Z H x y v u Q I rx ry h;obtain⟨a,b,xs,ys,rfl,rfl,ha,hb,hz,q0,q1,q2⟩:=h;by_cases hx:xs=[]
 .subst hx
  cases rx;cases ry;obtain⟨its,r1,p1,_⟩:=I.tuple ha;obtain⟨its2,r2,p2,_⟩:=I.tuple hb;cases r1;exact HT.aGw p1 p2 ⟨.ref b,H,I,rfl,q0 rfl⟩
 .exact aI3 hV s Z H _ _ v u Q I rx ry ⟨a,b,xs,ys,rfl,rfl,ha,hb,hx,hz,q1,λ _ p hp=>q2.at hp⟩
def aFU(K:zAA):R2:=λ x y H Q=>rI0 (λ i j=>.int (i+j)) x y H Q\/(aFT x y H Q\/aJs K x y H Q)
def aI4:OpR X (zB7 .Add) (aFU X.K):=OpR.or aLY (OpR.or yp aI2)
def aLH:OpS K (aFU K) cC:=by
 intro A x y d e H Q z rx ry ez q;unfold cC at ez;split at ez
 .cases ez;obtain rfl:=rx.int_inv;obtain rfl:=ry.int_inv;exact .inl ⟨_,_,rfl,rfl,q _ H (aO.refl H) (.int _)⟩
 .split at ez
  .rename_i hl
   cases ez;obtain⟨_,_,rfl,h1,m1,r1⟩:=rx.lst_inv;obtain⟨_,_,rfl,h2,m2,r2⟩:=ry.lst_inv;refine .inr (.inl ⟨_,_,_,_,rfl,rfl,h1,h2,by rw[r1.length,r2.length];exact hl,λ p H' s hp hn=>q _ H' s (.lst hp (.inl hn) ?_)⟩);exact(((r1.wk λ _ _ _ z=>z.1).append (r2.wk λ _ _ _ z=>z.1)).wk (A':=λ q=>(H q=none\/A q)/\q≠p) λ q o e z=>⟨.inr z,λ e'=>by subst e';rw[hn]at e;cases e⟩).up s
  .cases ez
 .split at ez
  .rename_i hl
   cases ez;obtain⟨_,_,rfl,h1,r1⟩:=rx.tup_inv;obtain⟨_,_,rfl,h2,r2⟩:=ry.tup_inv;have r1':=r1.wk (A':=λ p=>H p=none\/A p) λ _ _ _ z=>.inr z
   have r2':=r2.wk (A':=λ p=>H p=none\/A p) λ _ _ _ z=>.inr z
   refine .inr (.inr ⟨_,_,_,_,rfl,rfl,h1,h2,by rw[r1.length,r2.length];exact hl,λ e=>?_,λ e=>?_,λ p H' s hp hn=>q _ H' s (.tup (SqT.of hp) ((r1'.append r2').up s))⟩)
   .subst e
    cases r1';exact q _ H (aO.refl H) (.tup h2 r2')
   .subst e
    cases r2';rw[zBB]at q;exact q _ H (aO.refl H) (.tup h1 r1')
  .cases ez
 .cases ez
def fO:D->D->Rs D
 | .int i,.int j=>if (decide (-(2^64)<i)&&decide (i<2^64))||(decide (-(2^64)<j)&&decide (j<2^64))then .ok (.int (i*j))else .st
 | .lst l,.int k=>if decide (-(2^63)<=k)&&decide (k<2^63)&&decide (l.length*k.toNat<=zAK)&&dI l then .ok (.lst (zAO k.toNat l).flatten)else .st
 |_,_=>.st
theorem Rps.rep(r:Rps K A H xs ds):∀k:Nat,Rps K A H (zAO k xs).flatten (zAO k ds).flatten
 |0=>.nil
 |k+1=>by
  rw[zBL,zBL,zBt,zBt];exact r.append (Rps.rep r k)
def aJo:R2:=λ x y H Q=>rI aJ7 (λ i j=>.int (i*j)) x y H Q\/aMw x y H Q
def aI0:OpR X (zB7 .Mult) aJo:=OpR.or aLO aLL
def aLF:OpS K aJo fO:=by
 intro A x y d e H Q z rx ry ez q;unfold fO at ez;split at ez
 .split at ez
  .rename_i hc
   cases ez;obtain rfl:=rx.int_inv;obtain rfl:=ry.int_inv;refine .inl ⟨_,_,rfl,rfl,?_,q _ H (aO.refl H) (.int _)⟩;simp only[zCO,zAC,decide_eq_true_eq]at hc;exact hc
  .cases ez
 .split at ez
  .rename_i hc
   simp only[zAC,decide_eq_true_eq]at hc;cases ez;obtain⟨_,_,rfl,h1,m1,r1⟩:=rx.lst_inv;obtain rfl:=ry.int_inv;refine .inr ⟨_,_,_,rfl,rfl,h1,hc.1.1.1,hc.1.1.2,by rw[r1.length];exact hc.1.2,λ p hp=>q _ _ (ak hp _) (.lst aR (.inl hp) ?_)⟩;exact((r1.rep _).wk (A':=λ q=>(H q=none\/A q)/\q≠p) λ q o e z=>⟨.inr z.1,λ e'=>by subst e';rw[hp]at e;cases e⟩).up (ak hp _)
  .cases ez
 .cases ez
def intsOf:List D->Option (List Int)
 |[]=>some []
 | .int i::r=>(intsOf r).map (i::·)
 |_=>none
theorem cT:∀{l:List D} {ns:List Int},intsOf l=some ns->l=ns.map .int
 |[],ns,h=>by cases h;rfl
 | .int i::r,ns,h=>by
  simp only[intsOf,zBc]at h;obtain⟨ms,h1,rfl⟩:=h;rw[cT h1];rfl
 | .non::_,_,h=>by cases h
 | .bl _::_,_,h=>by cases h
 | .str _::_,_,h=>by cases h
 | .tup _::_,_,h=>by cases h
 | .lst _::_,_,h=>by cases h
 | .dct _ _::_,_,h=>by cases h
 | .set _::_,_,h=>by cases h
 | .scr _::_,_,h=>by cases h
theorem dH:∀ns:List Int,intsOf (ns.map .int)=some ns
 |[]=>rfl
 |n::ns=>by simp only[zAE,intsOf,dH ns,zDp]
def ltT(p:List Int->List Int->Bool):D->D->Rs D
 | .tup l,.tup m=>match intsOf l,intsOf m with
  |some ns,some ms=>.ok (.bl (p ns ms))
  |_,_=>.st
 |_,_=>.st
def aCf(r:Rp K A H x (.tup l))(e:intsOf l=some ns):∃a,x= .ref a/\SqT K H a (ns.map V.int):=by
 have:=cT e
 subst this;cases r with
 |tup h r=>
  have:=r.ints_of
  subst this;exact⟨_,rfl,h⟩
def aCp(hr:∀x y H Q,(∃a b ns ms,x= .ref a/\y= .ref b/\SqT K H a (ns.map V.int)/\SqT K H b (ms.map V.int)/\Q (.bl (p ns ms)) H)->r x y H Q):OpS K r (ltT p):=by
 intro A x y d e H Q z rx ry ez q;unfold ltT at ez;split at ez
 .split at ez
  .rename_i ns ms e1 e2
   cases ez;obtain⟨a,rfl,ha⟩:=aCf rx e1;obtain⟨b,rfl,hb⟩:=aCf ry e2;exact hr _ _ _ _ ⟨a,b,ns,ms,rfl,rfl,ha,hb,q _ H (aO.refl H) (.bl _)⟩
  .cases ez
 .cases ez
def ltD:D->D->Rs D:=λ d e=>match i2 (λ _ _=>true) (λ i j=>.bl (decide (i<j))) d e with
 | .ok z=>.ok z
 |_=>ltT HT.lexLt d e
def leD:D->D->Rs D:=λ d e=>match i2 (λ _ _=>true) (λ i j=>.bl (decide (i<=j))) d e with
 | .ok z=>.ok z
 |_=>ltT HT.lexLe d e
def gtD:D->D->Rs D:=i2 (λ _ _=>true) (λ i j=>.bl (decide (j<i)))
def geD:D->D->Rs D:=i2 (λ _ _=>true) (λ i j=>.bl (decide (j<=i)))
def aLQ(hu:X.A.units<cLine):OpR X (zAy .Lt) (λ x y H Q=>rI0 (λ i j=>.bl (decide (i<j))) x y H Q\/aHt X.K x y H Q):=OpR.or aNH (aLR hu)
def aLS(hu:X.A.units<cLine):OpR X (zAy .LtE) (λ x y H Q=>rI0 (λ i j=>.bl (decide (i<=j))) x y H Q\/aHu X.K x y H Q):=OpR.or aNI (aLT hu)
def aFr:OpS K (λ x y H Q=>rI0 (λ i j=>.bl (decide (i<j))) x y H Q\/aHt K x y H Q) ltD:=OpS.or yo (aCp λ _ _ _ _ h=>h)
def aFs:OpS K (λ x y H Q=>rI0 (λ i j=>.bl (decide (i<=j))) x y H Q\/aHu K x y H Q) leD:=OpS.or yo (aCp λ _ _ _ _ h=>h)
def aDD(e:ltT p x y= .ok z):imm z=true:=by
 unfold ltT at e;split at e
 .split at e
  .cases e;rfl
  .cases e
 .cases e
def aG3:∀x y z,ltD x y= .ok z->imm z=true:=by
 intro x y z e;unfold ltD at e;split at e
 .rename_i w hw;cases e;exact aG6 _ _ _ hw
 .exact aDD e
def aLo:∀x y z,leD x y= .ok z->imm z=true:=by
 intro x y z e;unfold leD at e;split at e
 .rename_i w hw;cases e;exact aG6 _ _ _ hw
 .exact aDD e
def yx:D->Rs D
 | .int i=>.ok (.int (-i))
 |_=>.st
def aKP:UnS K (rU λ i=>.int (-i)) yx:=by
 intro A x d H Q z rx ez q;cases rx with
 |int i=>cases ez;exact⟨i,rfl,q _ H (aO.refl H) (.int _)⟩
 |_=>cases ez
def aIx:∀x z,yx x= .ok z->imm z=true:=by
 intro x z e;cases x with
 |int i=>cases e;rfl
 |_=>cases e
def atD(l:List D)(i:Int):Rs D:=match atI l i with
 |some d=>.ok d
 |none=>.st
def ixD:D->D->Rs D
 | .tup l,.int i=>atD l i
 | .lst l,.int i=>atD l i
 | .scr l,.int i=>atD (l.map .int) i
 |_,_=>.st
theorem Rps.at(r:Rps K A H xs ds)(e:atI ds i=some d):∃x,atI xs i=some x/\Rp K A H x d:=by
 unfold atI at e ⊢;rw[r.length];cases h:ixN ds.length i with
 |none=>rw[h]at e;cases e
 |some j=>
  rw[h]at e;obtain⟨x,e1,e2⟩:=r.getD (i:=j) (d:=d) e;exact⟨x,e1,e2⟩
def aNG:OpS K (rIx K) ixD:=by
 intro A x y d e H Q z rx ry ez q;unfold ixD at ez;split at ez
 .unfold atD at ez
  split at ez
  .rename_i w hw
   cases ez;obtain⟨_,_,rfl,h,r⟩:=rx.tup_inv;obtain rfl:=ry.int_inv;obtain⟨v,e1,e2⟩:=r.at hw;exact .inr (.inl ⟨_,_,_,v,rfl,rfl,h,e1,q v H (aO.refl H) (e2.wk λ _ _ _ z=>.inr z)⟩)
  .cases ez
 .unfold atD at ez
  split at ez
  .rename_i w hw
   cases ez;obtain⟨_,_,rfl,h,m,r⟩:=rx.lst_inv;obtain rfl:=ry.int_inv;obtain⟨v,e1,e2⟩:=r.at hw;exact .inl ⟨_,_,_,v,rfl,rfl,SqL.of h,e1,q v H (aO.refl H) (e2.wk λ _ _ _ z=>.inr z.1)⟩
  .cases ez
 .unfold atD at ez
  split at ez
  .rename_i w hw
   cases ez;obtain⟨_,rfl,h⟩:=rx.scr_inv;obtain rfl:=ry.int_inv;obtain⟨v,e1,e2⟩:=(Rps.ints (K:=K) (A:=A) (H:=H)).at hw;exact .inl ⟨_,_,_,v,rfl,rfl,h.sq,e1,q v H (aO.refl H) (e2.wk λ _ _ _ z=>.inr z)⟩
  .cases ez
 .cases ez
def pG:List D->Rs D
 |[.tup l]=>.ok (.int l.length)
 |[.lst l]=>.ok (.int l.length)
 |[.scr l]=>.ok (.int l.length)
 |_=>.st
def aMH:oU K (λ xs H Q=>∃p ys,xs=[.ref p]/\(SqL K H p ys\/SqT K H p ys)/\Q (.int ys.length) H) pG:=by
 intro A xs ds H Q z r ez q;unfold pG at ez;split at ez
 .cases ez
  obtain⟨_,rfl,h0⟩:=r.one_inv;obtain⟨_,_,rfl,h,r⟩:=h0.tup_inv;exact⟨_,_,rfl,.inr h,by rw[r.length];exact q _ H (aO.refl H) (.int _)⟩
 .cases ez
  obtain⟨_,rfl,h0⟩:=r.one_inv;obtain⟨_,_,rfl,h,m,r⟩:=h0.lst_inv;exact⟨_,_,rfl,.inl (SqL.of h),by rw[r.length];exact q _ H (aO.refl H) (.int _)⟩
 .cases ez
  obtain⟨_,rfl,h0⟩:=r.one_inv;obtain⟨_,rfl,h⟩:=h0.scr_inv;exact⟨_,_,rfl,.inl h.sq,by rw[zAD];exact q _ H (aO.refl H) (.int _)⟩
 .cases ez
def aIy:∀x z,pG x= .ok z->imm z=true:=by
 intro x z e;unfold pG at e;split at e<;>first|(cases e;rfl)|cases e
def tyD:D->String
 | .non=>"NoneType"| .bl _=>"bool"| .int _=>"int"| .str _=>"str"| .tup _=>"tuple"| .lst _=>"list"| .dct _ _=>"dict"| .set _=>"set"| .scr _=>"script"| .fn _=>"function"| .itm _ _=>"items"
def mO(T:String):D->Rs D:=λ d=>if mL (tyD d) T true=true then .ok (.bl true)else if mL (tyD d) T false=true then .ok (.bl false)else .st
def aJq(K:zAA)(T:String):List V->Hp->VK->Prop:=λ xs H Q=>∃x d A b,xs=[x,.ty T]/\Rp K A H x d/\mL (tyD d) T b=true/\Q (.bl b) H
def aEU:cU X (.builtin "isinstance") (aJq X.K T):=by
 intro hV s Z H xs us Q I rv h;obtain⟨x,d,A,b,rfl,rd,ok,q⟩:=h;cases rd with
 |tup h r=>
  obtain⟨u,w',rfl,ru,rw'⟩:=vals2 rv;cases ru;cases rw';obtain⟨its,_,⟨o,h1,h2,_⟩,_⟩:=I.tuple h;exact zAz zG4 I.kIn ⟨o,h1,h2⟩ (aCG ok) (λ z=>nomatch z) λ tk=>⟨.bl b,H,I.tok _,rfl,q⟩
 |set h m hS nd=>cases b<;>simp[mL,tyD]at ok
 |scr h=>cases b<;>simp[mL,tyD]at ok
 |fn h=>cases b<;>simp[mL,tyD]at ok
 |itm h=>cases b<;>simp[mL,tyD]at ok
 |non=>exact jq hV s Z H _ us Q I rv ⟨_,T,_,b,rfl,.non,ok,q⟩
 |bl c=>exact jq hV s Z H _ us Q I rv ⟨_,T,_,b,rfl,.bl c,ok,q⟩
 |int c=>exact jq hV s Z H _ us Q I rv ⟨_,T,_,b,rfl,.int c,ok,q⟩
 |str c=>exact jq hV s Z H _ us Q I rv ⟨_,T,_,b,rfl,.str c,ok,q⟩
 |lst h m r=>exact jq hV s Z H _ us Q I rv ⟨_,T,_,b,rfl,.lst h,ok,q⟩
 |dK h m r=>exact jq hV s Z H _ us Q I rv ⟨_,T,_,b,rfl,.dK h,ok,q⟩
 |dT h m r=>
  obtain⟨u,w',rfl,ru,rw'⟩:=vals2 rv;cases ru;cases rw';obtain⟨⟨_,_,_,o,_,_,_,h1,h2,_⟩,_⟩:=(show bW X.prog X.w H s.heap _ (dxO _ _)from I.hok _ _ h.at_);exact zAz zE6 I.kIn ⟨o,h1,h2.1⟩ (aCG ok) (λ z=>nomatch z) λ tk=>⟨.bl b,H,I.tok _,rfl,q⟩
end
section
variable{C:Ct}{pos p p2:Pos}{m:Mode}{a:Expr}{fa:En->Rs D}
def qi(ha:SE C m a fa)(hm:C.mg "isinstance"=none)(hmT:C.mg x=none)(hn:x≠"__name__":=by decide)(hd:Nd x:=by decide)(he:∀i,zAY [a,.Name x p2] (C.X i).env=(false,eval a (C.X i).env)::zAY [.Name x p2] (C.X i).env:=by intro _;rfl)(hpl:∀i,(zCE pos (zAY [.Name x p2] (C.X i).env)).any (·.1)=false:=by intro _;rfl)(hg:∀i,Gl (C.X i) "isinstance":=by intro _;rfl)(hv:zAv "isinstance"=some (.builtin "isinstance"):=by decide+kernel)(hgT:∀i,Gl (C.X i) x:=by intro _;rfl)(hvT:zAv x=some (.type T):=by decide+kernel):
  SE C (some []) (.Call (.Name "isinstance" p) [a,.Name x p2] [] pos) (op1 (mO T) fa):=by
 obtain⟨t,h1,h2⟩:=ha;refine⟨tCB (aJq C.K T) (gO t (gO (tC (.ty T)) nU)),λ i=>?_,λ U Z H Y lab Q R W=>?_⟩
 .rw[<-C.hK i]
  exact ur aEU (hg i) (by rw[(C.cx i).2.2.2.1];exact hm) hv (aW (h1 i) (aW (aCo (v:=.ty T) (hgT i) (by rw[(C.cx i).2.2.2.1];exact hmT) hvT rfl hn hd) cI) (he i)) (by decide) (by decide) (he i) (hpl i)
 .refine h2 U Z H Y lab _ R (W.bd.imp λ d _ w x H1 s1 r1=>?_)
  obtain⟨z,ez,w⟩:=w.okD;unfold mO at ez;split at ez
  .rename_i h;cases ez;exact⟨x,d,_,true,rfl,r1,h,w _ H1 s1 (.bl _)⟩
  .split at ez
   .rename_i h;cases ez;exact⟨x,d,_,false,rfl,r1,h,w _ H1 s1 (.bl _)⟩
   .cases ez
end
def q9:Slot->Slot
 | .ow d=>.sh d
 | .nw d=>.sh d
 | .oz d=>.sh d
 | .o2 l=>.sh (.lst (l.map .lst))
 |s=>s
def shE(Y:En):En:=Y.map q9
def stV(js:hZ)(Z:L2.St):L2.St:=js.map λ o=>o.bind λ j=>(Z[j]?).join
def stE(js:hZ)(Y:En):En:=js.map λ o=>match o with
 |none=>.no
 |some j=>(Y[j]?).getD .no
def aHp{K:zAA}(h:dw K H lab i v s):∃d,(s= .no\/q9 s= .sh d)/\(s= .no\/Rp K (λ _=>True) H v d):=by
 cases s with
 |no=>exact⟨.non,.inl rfl,.inl rfl⟩
 |sh d=>exact⟨d,.inr rfl,.inr (Rp.wk (λ _ _ _ _=>trivial) h)⟩
 |nw d=>exact⟨d,.inr rfl,.inr (Rp.wk (λ _ _ _ _=>trivial) h)⟩
 |ow d=>exact⟨d,.inr rfl,.inr (Rp.wk (λ _ _ _ _=>trivial) h.1)⟩
 |oz d=>exact⟨d,.inr rfl,.inr (Rp.wk (λ _ _ _ _=>trivial) (aJw h))⟩
 |o2 l=>exact⟨_,.inr rfl,.inr (Rp.wk (λ _ _ _ _=>trivial) (aCs h))⟩
theorem RR.shE{K:zAA}(R:RR K G U Y Z H lab):RR K G U (shE Y) Z H (λ _=>(0,0)):=by
 refine⟨by unfold VL.shE;rw[zAD];exact R.len,λ i s e=>?_,R.old,λ p hp=>absurd rfl hp,λ q hq=>(R.tm q hq).wk λ _ _ _ _=>zAj _⟩;unfold VL.shE at e;rw[zAZ]at e;cases e0:Y[i]? with
 |none=>rw[e0]at e;cases e
 |some s0=>
  rw[e0]at e;cases e;rcases R.sl i s0 e0 with rfl|⟨v,ev,hv⟩
  .exact .inl rfl
  .obtain⟨d,h1,h2⟩:=aHp hv
   rcases h1 with rfl|h1
   .exact .inl rfl
   .rcases h2 with rfl|h2
    .exact .inl rfl
    .exact .inr ⟨v,ev,by rw[h1];exact h2.wk λ _ _ _ _=>zAj _⟩
def aEn{i:Nat}(e:(stE js Y)[i]? =some s):s= .no\/∃j,js[i]? =some (some j)/\Y[j]? =some s:=by
 unfold stE at e;rw[zAZ]at e;cases ej:js[i]? with
 |none=>rw[ej]at e;cases e
 |some o=>
  rw[ej]at e;cases o with
  |none=>cases e;exact .inl rfl
  |some j=>
   cases er:Y[j]? with
   |none=>simp[er]at e;exact .inl e.symm
   |some s'=>simp[er]at e;subst e;exact .inr ⟨j,rfl,er⟩
def RR.block{K:zAA}{U:List (V×D)}(R:RR K G U (VL.shE Y) Z H lab)(hz:∀p,(lab p).1<=1)(hl:H l=none):
  RR K G U (stE js (VL.shE Y)) (stV js Z) H (λ p=>if p=l then(2,0)else(0,0)):=by
 have nl:∀p o,H p=some o->p≠l:=λ p o e z=>by subst z;rw[hl]at e;cases e
 refine⟨by unfold stE stV;rw[zAD,zAD],λ i s e=>?_,R.old,λ p hp=>?_,λ q hq=>(R.tm q hq).wk λ p o e _=>by rw[if_neg (nl p o e)];exact zAj _⟩
 .rcases aEn e with rfl|⟨j,ej,es⟩
  .exact .inl rfl
  .rcases R.sl j s es with rfl|⟨v,ev,hv⟩
   .exact .inl rfl
   .refine .inr ⟨v,?_,?_⟩
    .unfold stV
     rw[zAZ,ej];simp[ev]
    .unfold VL.shE at es
     rw[zAZ]at es;cases e0:Y[j]? with
     |none=>rw[e0]at es;cases es
     |some s0=>
      rw[e0]at es;cases es;cases s0 with
      |no=>trivial
      |oz d=>exact Rp.wk (λ p o e _=>by show(if p=l then((2,0):Nat×Nat)else(0,0)).1<=1;rw[if_neg (nl p o e)];exact zAj _) hv
      |nw d=>exact Rp.wk (λ p o e _=>by show(if p=l then((2,0):Nat×Nat)else(0,0)).1<=1;rw[if_neg (nl p o e)];exact zAj _) hv
      |sh d=>exact Rp.wk (λ p o e _=>by show(if p=l then((2,0):Nat×Nat)else(0,0)).1<=1;rw[if_neg (nl p o e)];exact zAj _) hv
      |ow d=>exact Rp.wk (λ p o e _=>by show(if p=l then((2,0):Nat×Nat)else(0,0)).1<=1;rw[if_neg (nl p o e)];exact zAj _) hv
      |o2 d=>exact Rp.wk (λ p o e _=>by show(if p=l then((2,0):Nat×Nat)else(0,0)).1<=1;rw[if_neg (nl p o e)];exact zAj _) hv
 .by_cases hp':p=l
  .subst hp';exact R.old.free hl
  .exact absurd (show(if p=l then((2,0):Nat×Nat)else(0,0)).1=0 by rw[if_neg hp']) hp
def aOA(XN N:List Str)(js:hZ)(ks:List Nat)(sc:Scope):Bool:=(zA1 js.length).all λ i=>match js[i]? with
 |some (some j)=>match N[i]?,XN[j]? with
  |some x,some y=>x==y&&sc.names.lookup x==some .free&& !ks.contains i
  |_,_=>false
 |_=>true
def z7(h1:sc.kind= .function)(h2:(sc.names.all λ y=>y.2 != .cell||sc.names.lookup y.1==some .cell)=true)(h3:(sc.names.all λ y=>y.2 != .local||sc.names.lookup y.1==some .local)=true)
  (h4:(sc.names.all λ y=>y.2 != .free||(X.env.kindOf y.1==some .cell||X.env.kindOf y.1==some .free))=true)(h5:js.length=N.length)(h6:aOA X.N N js ks sc=true):dX X sc N (stV js) ks:=by
 refine⟨h1,λ y hy e=>?_,λ y hy e=>?_,λ y hy e=>?_,λ Z=>by unfold stV;rw[zAD];exact h5,λ Z i x v e1 e2=>?_⟩
 .have:=zAm.mp h2 y hy
  rw[e]at this;simpa using this
 .have:=zAm.mp h3 y hy
  rw[e]at this;simpa using this
 .have:=zAm.mp h4 y hy
  rw[e]at this;simpa using this
 .unfold stV at e2
  rw[zAZ]at e2;cases ej:js[i]? with
  |none=>rw[ej]at e2;cases e2
  |some o=>
   rw[ej]at e2;cases o with
   |none=>cases e2
   |some j=>
    have hi:i<js.length:=(zAJ.mp ej).1
    have:=zAm.mp h6 i (zAn.mpr hi)
    rw[ej,e1]at this;dsimp only at this;cases ey:X.N[j]? with
    |none=>rw[ey]at this;cases this
    |some y=>
     rw[ey]at this;simp only[zAC,beq_iff_eq,zCX]at this;obtain⟨⟨h,h'⟩,h''⟩:=this;subst h;refine⟨h',λ hk=>?_,j,ey,?_⟩
     .rw[zG1.mpr hk]at h'';cases h''
     .simp only[zDp,zGz,Option.some.injEq]at e2
      cases es:Z[j]? with
      |none=>rw[es]at e2;cases e2
      |some w=>rw[es]at e2;simp at e2;subst e2;rfl
abbrev Ct.blk(C:Ct)(sc:Scope)(N:List Str):Ct where
 ι:=C.ι×Addr×List Addr×zAB×Hp
 X:=λ i=>(C.X i.1).block sc i.2.1 N i.2.2.1 i.2.2.2.1 i.2.2.2.2
 prog:=C.prog
 w:=C.w
 K:=C.K
 mg:=C.mg
 base:=C.base
 k:=C.k
 G:={C.G with E:=λ _ _ _=>False}
 cx:=λ i=>C.cx i.1
 calm:=λ i=>C.calm i.1
 room:=λ i=>C.room i.1
 own:=λ i=>PassesOwn.never
 pass:=λ i hV Z H s e s' I h=>by obtain⟨_,_,_,_,_,_,_,_,_,_,_,_,_,hE⟩:=h;exact hE
 dOk:=false
 dcx:=λ h=>absurd h zA7
def lcL(Y:En)(fg:D->En->Rs En)(ft:En->Rs Bool)(fe:En->Rs D):List D->Rs (List D)
 |[]=>.ok []
 |d::ds=>(fg d Y).bd λ Y1=>(ft Y1).bd λ k=>if k=true then(fe Y1).bd λ y=>(lcL Y fg ft fe ds).bd λ ys=>.ok (y::ys)else lcL Y fg ft fe ds
def lcD(fi:En->Rs (List D))(js:hZ)(fg:D->En->Rs En)(ft:En->Rs Bool)(fe:En->Rs D):En->Rs D:=λ Y=>(fi (shE Y)).bd λ ds=>
 if ds.length<zAK then(match lcL (stE js (shE Y)) fg ft fe ds with
  | .ok l=>.ok (.lst l)
  |_=>.st)else .st
def aHL(C:Ct)(ifs:List Expr)(f:En->Rs Bool):Prop:=∃t,(∀i,aBJ (C.X i) ifs t)/\aCY C.K C.G t f
def jG:En->Rs Bool:=λ _=>.ok true
def jT:aHL C [] jG:=⟨_,λ _=>aKv,λ U Z H Y lab Q R W=>W H (aO.refl H)⟩
def aB5(h:ST C c f):aHL C [c] f:=let⟨t,h1,h2⟩:=h;⟨t,λ i=>aKu (h1 i),h2⟩
def aA9(h:lcL Y fg ft fe (d::ds)= .ok l):
  ∃Y1 k,fg d Y= .ok Y1/\ft Y1= .ok k/\((k=true/\∃y ys,fe Y1= .ok y/\lcL Y fg ft fe ds= .ok ys/\l=y::ys)\/(k=false/\lcL Y fg ft fe ds= .ok l)):=by
 unfold lcL at h;obtain⟨Y1,e1,h⟩:=cR h;obtain⟨k,e2,h⟩:=cR h;refine⟨Y1,k,e1,e2,?_⟩;cases k with
 |true=>
  rw[if_pos rfl]at h;obtain⟨y,e3,h⟩:=cR h;obtain⟨ys,e4,h⟩:=cR h;cases h;exact .inl ⟨rfl,y,ys,e3,e4,rfl⟩
 |false=>
  rw[if_neg zA7]at h;exact .inr ⟨rfl,h⟩
def RR.but_blk{K:zAA}{U:List (V×D)}(R:RR K G U (stE js (VL.shE Y)) Z H (λ p=>if p=l then(2,0)else(0,0)))(B:jF l H H')(hl:H l=some o)(ho:gn o=true)(h0:G.H0 l=none):
  RR K G U (stE js (VL.shE Y)) Z H' (λ p=>if p=l then(2,0)else(0,0)):=by
 have aI:¬((λ p=>if p=l then((2,0):Nat×Nat)else(0,0)) l).1<=1:=by simp
 refine⟨R.len,λ j s e=>?_,λ b o hb=>?_,R.new,λ q hq=>(R.tm q hq).but B hl ho aI⟩
 .rcases R.sl j s e with z|⟨u,e1,e2⟩
  .exact .inl z
  .refine .inr ⟨u,e1,?_⟩
   rcases aEn e with rfl|⟨jx,ej,es⟩
   .trivial
   .unfold VL.shE at es
    rw[zAZ]at es;cases e0:Y[jx]? with
    |none=>rw[e0]at es;cases es
    |some s0=>rw[e0]at es;cases es;cases s0<;>first|trivial|exact Rp.but B hl ho aI e2
 .exact B b o (λ z=>by subst z;rw[h0]at hb;cases hb) (R.old b o hb)
def RR.blk0{K:zAA}(R:RR K G U (VL.shE Y) Z H lab)(hG:G'.H0=G.H0):RR K G' U (VL.shE Y) Z H (λ _=>(0,0)):=by
 refine⟨R.len,λ i s e=>?_,by rw[hG];exact R.old,λ p hp=>absurd rfl hp,λ q hq=>(R.tm q hq).wk λ _ _ _ _=>zAj _⟩;rcases R.sl i s e with rfl|⟨v,ev,hv⟩
 .exact .inl rfl
 .unfold VL.shE at e
  rw[zAZ]at e;cases e0:Y[i]? with
  |none=>rw[e0]at e;cases e
  |some s0=>rw[e0]at e;cases e;cases s0<;>first|exact .inl rfl|exact .inr ⟨v,ev,Rp.wk (λ _ _ _ _=>zAj _) hv⟩
section
variable{K:zAA}{G:Gx}{wi:TI}{fi:En->Rs (List D)}{js:hZ}{g:TG}{fg:D->En->Rs En}{tt:TT}{ft:En->Rs Bool}{te:TE}{fe:En->Rs D}
def aEu(hi:aJ2 K G wi fi)(hg:aJ3 K {G with E:=λ _ _ _=>False} g fg)(ht:aCY K {G with E:=λ _ _ _=>False} tt ft)(he:gm K {G with E:=λ _ _ _=>False} (some []) te fe):
  gm K G (some []) (tLC wi (stV js) g tt te) (lcD fi js fg ft fe):=by
 intro U Z H Y lab Q R W;refine hi U Z H _ _ _ R.shE (W.bd.imp λ ds _ w J H1 lab1 U1 s1 _ R1 jl=>?_);intro l hl;obtain⟨hW,out,hout,w⟩:ds.length<zAK/\∃out,lcL (stE js (VL.shE Y)) fg ft fe ds= .ok out/\QE K (some []) lab H Q (.lst out):=by
  by_cases hW:ds.length<zAK
  .rw[if_pos hW]at w
   cases hout:lcL (stE js (VL.shE Y)) fg ft fe ds with
   |ok out=>rw[hout]at w;exact⟨hW,out,rfl,w⟩
   |ex c=>rw[hout]at w;exact zAF w
   |st=>rw[hout]at w;exact zAF w
  .rw[if_neg hW]at w
   exact zAF w
 have R0:RR K {G with E:=λ _ _ _=>False} (U1++U) (VL.shE Y) Z H1 (λ _=>(0,0)):=R1.blk0 rfl;have RB:=R0.block (js:=js) (λ _=>zAj _) hl;have hHl:H l=none:=s1.free hl;have aI:¬((λ p=>if p=l then((2,0):Nat×Nat)else(0,0)) l).1<=1:=by simp
 refine⟨λ i n acc H2=>∃pre,n=ds.length-i/\i<=ds.length/\H2 l=some (.lst acc)/\RR K {G with E:=λ _ _ _=>False} (U1++U) (stE js (VL.shE Y)) (stV js Z) H2 (λ p=>if p=l then(2,0)else(0,0))/\aO H H2/\acc.length<=i/\
  Rps K (λ p=>H p=none/\p≠l) H2 acc pre/\∃post,lcL (stE js (VL.shE Y)) fg ft fe (ds.drop i)= .ok post/\out=pre++post,⟨ds.length,[],by lia,by lia,aR,RB.up (ak hl _),s1.trans (ak hl _),zAP _,.nil,out,hout,rfl⟩,?_⟩
 rintro i n acc H2 ⟨pre,rfl,hi,hH2,R2,s2,kQ,rpre,post,hpost,eout⟩;refine⟨hH2,by lia,?_⟩;have jj:=jl _ H2 λ q hq=>R2.tm q (zA4 _ hq)
 by_cases hlt:i<ds.length
 .obtain⟨go,yl⟩:=(jj i).2 hlt
  refine .inr ⟨go,λ x H3 hy=>?_⟩;obtain⟨s3,d,ed,rx⟩:=yl x H3 hy;replace R2:=R2.up s3;replace hH2:=s3 _ _ hH2;replace s2:=s2.trans s3;replace rpre:=rpre.up s3;have ed2:ds.drop i=d::ds.drop (i+1):=by
   rw[zBq hlt]
   have:=zAH hlt
   rw[ed]at this;cases this;rfl
  rw[ed2]at hpost;obtain⟨Y1,k,e1,e2,e3⟩:=aA9 hpost;refine hg (U1++U) x d _ H3 _ _ _ Y1 R2 rx e1 λ Z4 R4=>?_
  refine ht (U1++U) Z4 H3 Y1 _ _ R4 ?_;rw[e2];intro H5 s5;rcases e3 with ⟨rfl,y,ys,e3,e4,rfl⟩|⟨rfl,e4⟩
  .rw[if_pos rfl]
   refine he (U1++U) Z4 H5 Y1 _ _ (R4.up s5) ?_;rw[e3];intro v H6 s6 r6;have hl6:H6 l=some (.lst acc):=s6 _ _ (s5 _ _ hH2);have B:jF l H6 (upd H6 l (.lst (acc++[v]))):=λ b o ne hb=>by rw[aL ne];exact hb
   refine⟨hl6,ds.length-(i+1),by lia,pre++[y],rfl,hlt,aR,?_,?_,by rw[zAT];simp;lia,?_,ys,e4,by rw[eout];simp⟩
   .exact(R2.up (s5.trans s6)).but_blk B hl6 rfl (R1.old.free hl)
   .exact λ b o hb=>B b o (λ z=>by subst z;rw[hHl]at hb;cases hb) (((s2.trans s5).trans s6) b o hb)
   .refine((rpre.up (s5.trans s6)).append (.cons (r6.wk λ p o _ z=>?_) .nil)).but B hl6 rfl λ z=>z.2 rfl
    rcases z with z|z
    .exact⟨(s2.trans s5).free z,λ e=>by subst e;rw[s5 _ _ hH2]at z;cases z⟩
    .cases z
  .rw[if_neg zA7]
   exact⟨ds.length-(i+1),by lia,pre,rfl,hlt,s5 _ _ hH2,R2.up s5,s2.trans s5,by lia,rpre.up s5,post,e4,eout⟩
 .have ei:i=ds.length:=by lia
  subst ei;rw[zDC]at hpost;cases hpost;rw[zBB]at eout;subst eout;exact .inl ⟨(jj _).1 (zAP _),w _ H2 s2 (.lst hH2 (.inl hHl) (rpre.wk λ p o _ z=>⟨.inl z.1,z.2⟩))⟩
end
section
variable{C:Ct}{pos:Pos}{elt tg iter:Expr}{ifs:List Expr}{sc:Scope}{N:List Str}{js:hZ}{ks:List Nat}{fi:En->Rs (List D)}{fg:D->En->Rs En}{ft:En->Rs Bool}{fe:En->Rs D}
def bf{C:Ct}(nd:N.Nodup:=by decide+kernel)(hk:i∈ks:=by decide)(hN:∀j,((C.blk sc N).X j).N[i]? =some x:=by intro _;rfl)(hx:∀j,Loc ((C.blk sc N).X j).env.scope x:=by intro _;first|exact zBm rfl|exact zBK rfl)
  (hf:∀j,((C.blk sc N).X j).fn x=true\/((C.blk sc N).X j).env.scope.names.lookup x=some .local:=by intro _;first|exact .inl rfl|exact .inr rfl):SG (C.blk sc N) (.Name x pos) ks (gnm i):=
 bN hN hx hf (λ _=>nd) hk
def rY(hi:SI C tg iter fi)(hg:SG (C.blk sc N) tg ks fg)(ht:aHL (C.blk sc N) ifs ft)(he:SE (C.blk sc N) (some []) elt fe)(hs:∀i x,zBO iter (C.X i).env x=pure x:=by intro _ _;rfl)(hB:∀i,dX (C.X i) sc N (stV js) ks:=by intro _;exact z7 rfl rfl rfl rfl rfl rfl):SE C (some []) (.ListComp elt [⟨tg,iter,ifs,0⟩] sc pos) (lcD fi js fg ft fe):=by
 obtain⟨wi,i1,i2⟩:=hi;obtain⟨g,g1,g2,g3,g4⟩:=hg;obtain⟨tt,t1,t2⟩:=ht;obtain⟨te,e1,e2⟩:=he;exact⟨_,λ i=>aND (hB i) (C.calm i) (i1 i) (λ c fp z5 zI=>g1 (i,c,fp,z5,zI)) g3 (λ c fp z5 zI=>t1 (i,c,fp,z5,zI)) (λ c fp z5 zI=>e1 (i,c,fp,z5,zI)) (hs i),aEu i2 g2 t2 e2⟩
def aJe(hi:SI C tg iter fi)(hg:SG (C.blk sc N) tg ks fg)(ht:aHL (C.blk sc N) ifs ft)(he:SE (C.blk sc N) (some []) elt fe)(hN:∀j,(C.X j).N[i]? =some x:=by intro _;rfl)(hx:∀j,Loc (C.X j).env.scope x:=by intro _;first|exact zBm rfl|exact zBK rfl)(hsw:∀j,zCG (.ListComp elt [⟨tg,iter,ifs,0⟩] sc pos) (some (.Name x pos')) spos.line (C.X j).env=pure true:=by intro _;rfl)(hs:∀i x,zBO iter (C.X i).env x=pure x:=by intro _ _;rfl)(hf:∀j,(C.X j).fn x=true\/(C.X j).env.scope.names.lookup x=some .local:=by intro _;first|exact .inl rfl|exact .inr rfl)(nd:∀j,(C.X j).N.Nodup:=by intro _;assumption)(hB:∀i,dX (C.X i) sc N (stV js) ks:=by intro _;exact z7 rfl rfl rfl rfl rfl rfl):
  SV C i (.Assign [.Name x pos'] (.ListComp elt [⟨tg,iter,ifs,0⟩] sc pos) spos) (some []) (lcD fi js fg ft fe):=by
 obtain⟨wi,i1,i2⟩:=hi;obtain⟨g,g1,g2,g3,g4⟩:=hg;obtain⟨tt,t1,t2⟩:=ht;obtain⟨te,e1,e2⟩:=he;exact⟨_,λ j=>aAR (nd j) (hN j) (hx j) (hB j) (C.calm j) (i1 j) (λ c fp z5 zI=>g1 (j,c,fp,z5,zI)) g3 (λ c fp z5 zI=>t1 (j,c,fp,z5,zI)) (λ c fp z5 zI=>e1 (j,c,fp,z5,zI)) (hsw j) (hs j) (hf j),aEu i2 g2 t2 e2⟩
end
def RR.mut{K:zAA}(R:RR K G U Y Z H lab)(ev:Z[i]? =some (some v))(hl:H l=some o)(ho:gn o=true)(kK:(lab l).1=i+2)
  (B:jF l H H')(h':dw K H' lab i v s'):RR K G U (Y.set i s') Z H' lab:=by
 refine⟨by rw[zBR];exact R.len,λ j x e=>?_,λ b u hb=>B b u (λ z=>?_) (R.old b u hb),R.new,λ q hq=>(R.tm q hq).but B hl ho λ z=>by lia⟩
 .by_cases hj:i=j
  .subst hj
   have hi:i<Y.length:=by
    have:=(zAJ.mp e).1
    rwa [zBR]at this
   rw[zBg hi]at e;cases e;exact .inr ⟨v,ev,h'⟩
  .rw[zBD hj]at e
   rcases R.sl j x e with z|⟨u,e1,e2⟩
   .exact .inl z
   .refine .inr ⟨u,e1,?_⟩
    cases x with
    |no=>trivial
    |sh d=>exact Rp.but B hl ho (λ z=>by lia) e2
    |nw d=>exact Rp.but B hl ho (λ z=>by lia) e2
    |ow d=>exact⟨Rp.but B hl ho (λ z=>by lia) e2.1,e2.2⟩
    |oz d=>
     obtain⟨a,xs,ds,q1,q2,q3,q4,q5⟩:=e2;exact⟨a,xs,ds,q1,q2,B a _ (λ z=>by subst z;exact hj (by lia)) q3,q4,Rps.but B hl ho (λ z=>by lia) q5⟩
    |o2 ll=>
     obtain⟨a,xs,q1,q2,q3,q4,q5⟩:=e2;refine⟨a,xs,q1,B a _ (λ z=>?_) q2,q3,q4,λ jj y ds f1 f2=>(q5 jj y ds f1 f2).but B hl ho λ z=>?_⟩
     .rw[z]at q3;rw[q3]at kK;exact hj (by simpa using kK.symm)
     .rw[z]at kK;exact hj (by simpa using kK.symm)
 .subst z
  have:=R.new b (by rw[kK];lia)
  rw[this]at hb;cases hb
section
variable{C:Ct}{pos apos cpos p:Pos}{e a:Expr}{fe fa:En->Rs D}{i:Nat}{x:Str}{m:Mode}
def rP(i:Nat)(fe:En->Rs D):En->Ou:=λ Y=>match Y[i]? with
 |some (.ow (.lst ds))=>(fe Y).bo λ d=>if ds.length<zAK then .nx (Y.set i (.ow (.lst (ds++[d]))))else .st
 |_=>.st
def nA(i:Nat)(he:SE C m e fe)(hm:okN m=true:=by rfl)(hN:∀j,(C.X j).N[i]? =some x:=by intro _;rfl)(hv:∀j,Vis (C.X j).env.scope x:=by intro _;first|exact zBm rfl|exact zBK (zBm rfl)|exact zBK (zBK rfl))(hd:Nd x:=by decide)
  (hcd:(x==("__classdict__":Str))=false:=by decide)(hs1:∀j,zAY [e] (C.X j).env=[(false,eval e (C.X j).env)]:=by intro _;rfl)
  (hbase:∀j,zBV (.Name x p) "append" (C.X j).env (eval (.Name x p) (C.X j).env)=eval (.Name x p) (C.X j).env:=by intro _;rfl)
  (hfew:∀j,((zCE cpos (zAY [e] (C.X j).env)).all (λ x=>!x.1)&&(zEL cpos (zCl [] (C.X j).env)).all (λ x=>x.1.isSome)&&decide ([e].length+([]:List zBw).length+(if ([]:List zBw).isEmpty then 0 else 1)<30))=true:=by intro _;rfl)
  (hline:(apos.endLine==cpos.line)=true:=by rfl)
  (hsw:∀j,zCG (.Call (.Attribute (.Name x p) "append" apos) [e] [] cpos) none pos.line (C.X j).env=pure false:=by intro _;rfl):
  SS C (.Expr (.Call (.Attribute (.Name x p) "append" apos) [e] [] cpos) pos) (rP i fe):=by
 obtain⟨t,h1,h2⟩:=he;refine⟨rW (tBM C.K "list" qG (jR i) (gO t nU)),λ j=>lA (by rw[<-C.hK j];exact ut zBN zCf zD2 pC (cu (hN j) (hv j) hd hcd) (aW (h1 j) cI (hs1 j)) (hbase j) (hfew j) hline (hs1 j) rfl) (hsw j),λ U Z H Y lab De R W=>?_⟩;unfold rP at W;cases es:Y[i]? with
 |none=>rw[es]at W;exact zAF W
 |some s=>
  rw[es]at W;split at W
  .rename_i ds hs
   cases hs;rcases R.sl i _ es with z|⟨v,ev,hv'⟩
   .cases z
   .obtain⟨hv1,htop⟩:=hv'
    obtain⟨a0,ea0,la0⟩:=htop rfl;subst ea0;cases hv1 with
    |lst h mm r=>
     rename_i xs;refine⟨.ref a0,ev,.inl ⟨rfl,xs,SqL.of h⟩,h2 U Z H Y lab _ R (W.bo.imp λ d _ w y H2 s2 r2=>?_)⟩;by_cases hz:ds.length<zAK
     .rw[if_pos hz]at w
      refine⟨a0,xs,y,rfl,rfl,s2 _ _ h,by rw[r.length];exact hz,λ H3 B h3=>?_⟩;obtain⟨R',r'⟩:=R.fresh (P:=λ k=>k=1) rfl (λ k hk=>beq_iff_eq.mp (lC hm k hk)) s2 r2;have la:(bV H 1 lab a0).1=i+2:=by rw[bD h];exact la0
      refine w Z H3 _ (R'.mut ev (s2 _ _ h) rfl la B ⟨.lst h3 (.inr la) ?_,λ _=>⟨a0,rfl,la⟩⟩);have ra:Rps C.K (λ p=>((bV H 1 lab p).1=1\/(bV H 1 lab p).1=i+2)/\p≠a0) H2 (xs++[y]) (ds++[d]):=by
       refine(r.mono s2 λ p o e z=>⟨by rw[bD e];exact z.1,z.2⟩).append (.cons (r'.wk λ p o e z=>⟨.inl z,λ q=>?_⟩) .nil);subst q;rw[la]at z;lia
      exact ra.but B (s2 _ _ h) rfl λ z=>z.2 rfl
     .rw[if_neg hz]at w
      exact zAF w
  .exact zAF W
def at2(ll:dQ):D->Option (Nat×List D)
 | .int n=>(ixN ll.length n).bind λ j=>(ll[j]?).map λ ds=>(j,ds)
 |_=>none
def oO(i:Nat)(fa fe:En->Rs D):En->Ou:=λ Y=>match Y[i]? with
 |some (.o2 ll)=>(fa Y).bo λ k=>match at2 ll k with
  |some (j,ds)=>(fe Y).bo λ d=>if ds.length<zAK then .nx (Y.set i (.o2 (ll.set j (ds++[d]))))else .st
  |none=>.st
 |_=>.st
def aHD(h:at2 ll k=some (j,ds)):∃n,k= .int n/\ixN ll.length n=some j/\ll[j]? =some ds:=by
 cases k with
 |int n=>
  simp only[at2,Option.bind_eq_some_iff,zBc]at h;obtain⟨j',h1,ds',h2,h3⟩:=h;cases h3;exact⟨n,rfl,h1,h2⟩
 |_=>cases h
def uR(i:Nat){p2:Pos}(ha:SE C m a fa)(he:SE C (some []) e fe)(hN:∀j,(C.X j).N[i]? =some x:=by intro _;rfl)(hv:∀j,Vis (C.X j).env.scope x:=by intro _;first|exact zBm rfl|exact zBK (zBm rfl)|exact zBK (zBK rfl))(hd:Nd x:=by decide)
  (hcd:(x==("__classdict__":Str))=false:=by decide)(hs1:∀j,zAY [e] (C.X j).env=[(false,eval e (C.X j).env)]:=by intro _;rfl)(hp:qX a:=by exact λ _ _=>rfl)
  (hbase:∀j,zBV (.Subscript (.Name x p) a p2) "append" (C.X j).env (eval (.Subscript (.Name x p) a p2) (C.X j).env)=eval (.Subscript (.Name x p) a p2) (C.X j).env:=by intro _;rfl)
  (hfew:∀j,((zCE cpos (zAY [e] (C.X j).env)).all (λ x=>!x.1)&&(zEL cpos (zCl [] (C.X j).env)).all (λ x=>x.1.isSome)&&decide ([e].length+([]:List zBw).length+(if ([]:List zBw).isEmpty then 0 else 1)<30))=true:=by intro _;rfl)
  (hline:(apos.endLine==cpos.line)=true:=by rfl)
  (hsw:∀j,zCG (.Call (.Attribute (.Subscript (.Name x p) a p2) "append" apos) [e] [] cpos) none pos.line (C.X j).env=pure false:=by intro _;rfl):
  SS C (.Expr (.Call (.Attribute (.Subscript (.Name x p) a p2) "append" apos) [e] [] cpos) pos) (oO i fa fe):=by
 obtain⟨t,h1,h2⟩:=he;obtain⟨ta,a1,a2⟩:=ha;refine⟨rW (tBM C.K "list" qG (tOp (aKn C.K) (jR i) ta) (gO t nU)),λ j=>lA (by rw[<-C.hK j];exact ut zBN zCf zD2 pC (aFg zL (cu (hN j) (hv j) hd hcd) (a1 j) hp) (aW (h1 j) cI (hs1 j)) (hbase j) (hfew j) hline (hs1 j) rfl) (hsw j),λ U Z H Y lab De R W=>?_⟩;unfold oO at W;cases es:Y[i]? with
 |none=>rw[es]at W;exact zAF W
 |some s=>
  rw[es]at W;cases s with
  |o2 ll=>
   dsimp only at W;rcases R.sl i _ es with z|⟨v,ev,top,xs,rfl,ht,hlt,hW,hin⟩
   .cases z
   .refine⟨.ref top,ev,a2 U Z H Y lab _ R (W.bo.imp λ k _ w kv H1 s1 r1=>?_)⟩
    cases hk:at2 ll k with
    |none=>rw[hk]at w;exact zAF w
    |some q=>
     obtain⟨j,ds⟩:=q;rw[hk]at w;dsimp only at w;obtain⟨n,rfl,hj,hds⟩:=aHD hk;cases r1;have hjx:∃xj,xs[j]? =some xj:=by
      have:j<xs.length:=by rw[hW];exact(zAJ.mp hds).1
      exact⟨_,zAH this⟩
     obtain⟨xj,hxj⟩:=hjx;have hr:=hin j xj ds hxj hds;cases hr with
     |lst hl ml rl=>
      rename_i l ys;refine⟨top,xs,n,.ref l,rfl,rfl,SqL.of (s1 _ _ ht),by unfold atI;rw[hW,hj];exact hxj,.inl ⟨rfl,ys,SqL.of (s1 _ _ hl)⟩,h2 U Z H1 Y lab _ (R.up s1) (w.bo.imp λ d _ w y H2 s2 r2=>?_)⟩;by_cases hz:ds.length<zAK
      .rw[if_pos hz]at w
       have s12:=s1.trans s2;refine⟨l,ys,y,rfl,rfl,s12 _ _ hl,by rw[rl.length];exact hz,λ H3 B h3=>?_⟩;have ltop:l≠top:=λ e=>by rw[e,hlt]at ml;cases ml
       let lab':Lab:=λ p=>match H1 p with
        |none=>(i+2,j+1)
        |some _=>lab p
       have lo:∀{p o},H1 p=some o->lab' p=lab p:=λ{p o} e=>by show(match H1 p with|none=>_|some _=>_)=_;rw[e]
       have ln:∀{p},H1 p=none->lab' p=(i+2,j+1):=λ{p} e=>by show(match H1 p with|none=>_|some _=>_)=_;rw[e]
       have R':RR C.K C.G U Y Z H2 lab':=((R.up s1).relab (λ p o e=>lo e) λ p hp=>by
        cases e:H1 p with
        |none=>exact(R.old.trans s1).free e
        |some o=>rw[lo e]at hp;exact R.new p hp).up s2
       have bE:lab' l=(i+2,j+1):=by rw[lo (s1 _ _ hl)];exact ml
       refine w Z H3 lab' (R'.mut ev (s12 _ _ hl) rfl (by rw[bE]) B ⟨top,xs,rfl,B _ _ (zC0 ltop) (s12 _ _ ht),by rw[lo (s1 _ _ ht)];exact hlt,by rw[zBR];exact hW,λ jj z dz f1 f2=>?_⟩);by_cases hjj:j=jj
       .subst hjj
        rw[hxj]at f1;cases f1;rw[zBg (zAJ.mp hds).1]at f2;cases f2;refine .lst h3 bE ?_;have ra:Rps C.K (λ p=>lab' p=(i+2,j+1)/\p≠l) H2 (ys++[y]) (ds++[d]):=by
         refine(rl.mono s12 λ p o e z=>⟨by rw[lo (s1 _ _ e)];exact z.1,z.2⟩).append (.cons (r2.wk λ p o e z=>?_) .nil);rcases z with z|z
         .exact⟨ln z,λ q=>by subst q;rw[s1 _ _ hl]at z;cases z⟩
         .cases z
        exact ra.but B (s12 _ _ hl) rfl λ z=>z.2 rfl
       .rw[zBD hjj]at f2
        refine((hin jj z dz f1 f2).mono s12 (A':=λ p=>lab' p=(i+2,jj+1)) λ p o e q=>by rw[lo (s1 _ _ e)];exact q).but B (s12 _ _ hl) rfl λ q=>?_
        rw[bE]at q;simp only[Prod.mk.injEq]at q;lia
      .rw[if_neg hz]at w
       exact zAF w
  |_=>exact zAF W
end
mutual
def eqD:D->D->Bool
 | .non,.non=>true
 | .bl a,.bl b=>a==b
 | .bl a,.int b=>(if a then 1 else 0)==b
 | .int a,.bl b=>a==(if b then 1 else 0)
 | .int a,.int b=>a==b
 | .str a,.str b=>a==b
 | .tup l,.tup m=>gj l m
 | .lst l,.lst m=>gj l m
 |_,_=>false
def gj:List D->List D->Bool
 |[],[]=>true
 |x::xs,y::ys=>eqD x y&&gj xs ys
 |_,_=>false
end
mutual
def iu:D->Nat
 | .tup l=>dJ l+1
 | .lst l=>dJ l+1
 |_=>0
def dJ:List D->Nat
 |[]=>0
 |d::r=>max (iu d) (dJ r)
end
mutual
def aY:D->Bool
 | .tup l=>bC l
 | .lst l=>bC l
 | .dct _ _=>false
 | .set _=>false
 | .scr _=>false
 | .fn _=>false
 | .itm _ _=>false
 |_=>true
def bC:List D->Bool
 |[]=>true
 |d::r=>aY d&&bC r
end
mutual
theorem gZ:∀d:D,aY d=true->eqD d d=true
 | .non,_=>by simp[eqD]
 | .bl b,_=>by simp[eqD]
 | .int i,_=>by simp[eqD]
 | .str x,_=>by simp[eqD]
 | .tup l,h=>by exact fY l (by simpa[aY]using h)
 | .lst l,h=>by exact fY l (by simpa[aY]using h)
 | .dct _ _,h=>by simp[aY]at h
 | .set _,h=>by simp[aY]at h
 | .scr _,h=>by simp[aY]at h
theorem fY:∀l:List D,bC l=true->gj l l=true
 |[],_=>by simp[gj]
 |d::r,h=>by
  simp only[bC,zAC]at h;simp only[gj,zAC];exact⟨gZ d h.1,fY r h.2⟩
end
structure qW(K:zAA)(H:Hp)(s:zAB):Prop where
 tup:∀{a:Addr} {xs:List V},SqT K H a xs->∃its:List Value,Vals xs its/\s.heap.IsTuple a its.toArray
 lst:∀{a:Addr} {xs:List V},H a=some (.lst xs)->∃its:List Value,Vals xs its/\s.heap.IsList a its.toArray
 inj:∀{a:Addr} {xs ys:List V},SqT K H a xs->SqT K H a ys->xs=ys
 ne:∀{a:Addr} {xs ys:List V},SqT K H a xs->H a=some (.lst ys)->False
def Inv.seqOk(I:L2.Inv X hV Z H s):qW X.K H s where
 tup:=λ h=>let⟨its,r,p,_⟩:=I.tuple h;⟨its,r,p⟩
 lst:=λ h=>let⟨its,r,p,_⟩:=I.list (SqL.of h);⟨its,r,p.isList⟩
 inj:=λ h h'=>I.tuple_inj h h'
 ne:=λ h h'=>by
  obtain⟨its,_,⟨o,e,c,_⟩,_⟩:=I.tuple h;obtain⟨its2,_,⟨o2,n2,e2,c2,_⟩,_⟩:=I.list (SqL.of h');rw[e]at e2;cases e2;rw[c]at c2;injection c2 with c3
  exact absurd c3 (by decide)
section
variable{K:zAA}{H:Hp}{s:zAB}
def ndP:D->Prop
 | .dct _ _=>False
 | .set _=>False
 | .scr _=>False
 | .fn _=>False
 | .itm _ _=>False
 |_=>True
def ndx{d:D}(h:aY d=true):ndP d:=by cases d<;>first|exact zBv|(simp[aY]at h)
def bL(h:aY (.dct a b)=true):False:=by simp[aY]at h
def dY(h:aY (.set a)=true):False:=by simp[aY]at h
def dZ(h:aY (.scr a)=true):False:=by simp[aY]at h
def fM(h:aY (.fn a)=true):False:=by simp[aY]at h
def dh(h:aY (.itm o a)=true):False:=by simp[aY]at h
def iI(h:aY (.tup a)=true):bC a=true:=by simpa[aY]using h
def iJ(h:aY (.lst a)=true):bC a=true:=by simpa[aY]using h
def jN(h:bC (d::a)=true):aY d=true/\bC a=true:=by
 simp only[bC,zAC]at h;exact h
def aJ5(K:zAA)(s:zAB)(H:Hp)(x:V)(d:D):Prop:=qW K H s->∀(A':Addr->Prop) (e:D),Rp K A' H x e->aY d=true->aY e=true->d=e
def aBL(K:zAA)(s:zAB)(H:Hp)(xs:List V)(ds:List D):Prop:=qW K H s->∀(A':Addr->Prop) (es:List D),Rps K A' H xs es->bC ds=true->bC es=true->ds=es
def aIu(ha:SqT K H a xs)(ih:aBL K s H xs ds):aJ5 K s H (.ref a) (.tup ds):=λ ok A' e h n1 n2=>by
 cases h with
 |tup hb r'=>
  have e:=ok.inj ha hb;subst e;rw[ih ok _ _ r' (iI n1) (iI n2)]
 |lst hb _ _=>exact(ok.ne ha hb).elim
 |_=>exact zAF (ndx n2)
def aIv(ha:H a=some (.lst xs))(ih:aBL K s H xs ds):aJ5 K s H (.ref a) (.lst ds):=λ ok A' e h n1 n2=>by
 cases h with
 |tup hb r'=>exact(ok.ne hb ha).elim
 |lst hb _ r'=>
  rw[ha]at hb;cases hb;rw[ih ok _ _ r' (iJ n1) (iJ n2)]
 |_=>exact zAF (ndx n2)
def aG0(h1:aJ5 K s H x d)(h2:aBL K s H xs ds):aBL K s H (x::xs) (d::ds):=λ ok A' es h n1 n2=>by
 cases h with
 |cons k r'=>rw[h1 ok _ _ k (jN n1).1 (jN n2).1,h2 ok _ _ r' (jN n1).2 (jN n2).2]
def Rp.inj(ok:qW K H s)(r:Rp K A H x d)(h:Rp K A' H x e)(n1:aY d=true)(n2:aY e=true):d=e:=
 Rp.rec (motive_1:=λ _ H x d _=>aJ5 K s H x d) (motive_2:=λ _ H xs ds _=>aBL K s H xs ds)
  (λ _ _ _ h _ _=>by cases h;rfl) (λ _ _ _ _ h _ _=>by cases h;rfl) (λ _ _ _ _ h _ _=>by cases h;rfl) (λ _ _ _ _ h _ _=>by cases h;rfl) (λ ha _ ih=>aIu ha ih) (λ ha _ _ ih=>aIv ha ih)
  (λ _ _ _ _ _ _ _ _ n1 _=>(bL n1).elim) (λ _ _ _ _ _ _ _ _ n1 _=>(bL n1).elim) (λ _ _ _ _ _ _ _ _ n1 _=>(dY n1).elim) (λ _ _ _ _ _ n1 _=>(dZ n1).elim) (λ _ _ _ _ _ n1 _=>(fM n1).elim) (λ _ _ _ _ _ n1 _=>(dh n1).elim)
  (λ _ _ _ h _ _=>by cases h;rfl) (λ _ _ h1 h2=>aG0 h1 h2) r ok A' e h n1 n2
end
theorem mY:∀(l m:List D),gj l m=((zA1 (min l.length m.length)).all (λ j=>match l[j]?,m[j]? with|some a,some b=>eqD a b|_,_=>true)&&l.length==m.length)
 |[],[]=>by simp[gj]
 |[],y::ys=>by simp[gj]
 |x::xs,[]=>by simp[gj]
 |x::xs,y::ys=>by
  have ih:=mY xs ys;simp only[gj,ih,zA6,zH2,zCq,zGH,zGZ,zCB,zGY,zCA,zGy,zHf,zES];congr 1;congr 1;simp
theorem jh:∀{l:List D} {d:D},d∈l->iu d<=dJ l
 |x::r,d,h=>by
  simp only[dJ];rcases zAN.mp h with rfl|h
  .exact zFW _ _
  .exact zAh (jh h) (zFB _ _)
theorem eO:∀{l:List D} {d:D},d∈l->bC l=true->aY d=true
 |x::r,d,h,n=>by
  simp only[bC,zAC]at n;rcases zAN.mp h with rfl|h
  .exact n.1
  .exact eO h n.2
def cX(hn:n=ds.length)(hm:m=es.length):((zA1 (min n m)).all (λ j=>match ds[j]?,es[j]? with|some a,some b=>eqD a b|_,_=>true)&&n==m)=gj ds es:=by
 subst hn hm;exact(mY ds es).symm
section
variable{K:zAA}{H:Hp}{s:zAB}
def aHN(K:zAA)(H:Hp)(s:zAB)(n:Nat):Prop:=∀(A1 A2:Addr->Prop) (x y:V) (d e:D) (A:zA8) (u v:Value),Rp K A1 H x d->Rp K A2 H y e->RelV x u->RelV y v->iu d<=n->aY d=true->aY e=true->A.units+n<cLine->zBs A s u v (eqD d e)
def aHO(K:zAA)(H:Hp)(s:zAB)(n:Nat):Prop:=∀(A1 A2:Addr->Prop) (xs ys:List V) (ds es:List D) (A:zA8) (us vs:List Value),Rps K A1 H xs ds->Rps K A2 H ys es->Vals xs us->Vals ys vs->dJ ds<=n->bC ds=true->bC es=true->A.units+n<cLine->
  ∀(j:Nat) (h1:j<us.toArray.size) (h2:j<vs.toArray.size),zBs A s us.toArray[j] vs.toArray[j] (match ds[j]?,es[j]? with|some a,some b=>eqD a b|_,_=>true)
def vY(ok:qW K H s)(n:Nat)(IH:∀k,n=k+1->aHO K H s k):aHN K H s n:=by
 intro A1 A2 x y d e A u v r1 r2 ru rv hd nd ne hu;have hu0:A.units<cLine:=by lia
 cases r1 with
 |tup h1 q1=>
  rename_i a xs ds;cases ru;obtain⟨its,w1,t1⟩:=ok.tup h1;cases r2 with
  |tup h2 q2=>
   rename_i b ys es;cases rv;obtain⟨its2,w2,t2⟩:=ok.tup h2;by_cases hab:a=b
   .subst hab
    have e:=Rp.inj ok (Rp.tup h1 q1) (Rp.tup h2 q2) nd ne;rw[<-e,gZ _ nd];exact zC5 _
   .simp only[iu]at hd
    obtain⟨k,rfl⟩:∃k,n=k+1:=⟨n-1,by lia⟩
    have z:=zER t1 t2 hu0 (IH k rfl _ _ _ _ _ _ _ _ _ q1 q2 w1 w2 (by lia) (iI nd) (iI ne) (by show A.units+1+k<cLine;lia));rw[cX (by rw[zAM,<-w1.length,q1.length]) (by rw[zAM,<-w2.length,q2.length])]at z;simp only[eqD];exact zBz hab z
  |lst h2 mm2 q2=>
   cases rv;obtain⟨its2,w2,t2⟩:=ok.lst h2;simp only[eqD];exact zFT t1 t2 hu0
  |non=>cases rv;exact zFU t1 hu0
  |bl b=>cases rv;exact zFS b t1 hu0
  |int i=>obtain⟨tk,rfl⟩:=rv;exact zFd i tk t1 hu0
  |str i=>obtain⟨tk,rfl⟩:=rv;exact zFe i tk t1 hu0
  |_=>exact zAF (ndx ne)
 |lst h1 mm1 q1=>
  rename_i a xs ds;cases ru;obtain⟨its,w1,t1⟩:=ok.lst h1;cases r2 with
  |lst h2 mm2 q2=>
   rename_i b ys es;cases rv;obtain⟨its2,w2,t2⟩:=ok.lst h2;by_cases hab:a=b
   .subst hab
    have e:=Rp.inj ok (Rp.lst h1 mm1 q1) (Rp.lst h2 mm2 q2) nd ne;rw[<-e,gZ _ nd];exact zC5 _
   .simp only[iu]at hd
    obtain⟨k,rfl⟩:∃k,n=k+1:=⟨n-1,by lia⟩
    have l1:its.toArray.size=ds.length:=by rw[zAM,<-w1.length,q1.length]
    have l2:its2.toArray.size=es.length:=by rw[zAM,<-w2.length,q2.length]
    by_cases hl:its.toArray.size=its2.toArray.size
    .have z:=zE2 t1 t2 hl hu0 (IH k rfl _ _ _ _ _ _ _ _ _ q1 q2 w1 w2 (by lia) (iJ nd) (iJ ne) (by show A.units+1+k<cLine;lia))
     have z':=cX (ds:=ds) (es:=es) l1 l2;rw[<-hl,zG8,beq_self_eq_true,zDi]at z';rw[z']at z;simp only[eqD];exact zBz hab z
    .have z:=zDV t1 t2 (by simpa using hl) hu0
     have z':=cX (ds:=ds) (es:=es) l1 l2;rw[beq_eq_false_iff_ne.mpr hl,zD3]at z';simp only[eqD];rw[<-z'];exact zBz hab z
  |tup h2 q2=>
   cases rv;obtain⟨its2,w2,t2⟩:=ok.tup h2;simp only[eqD];exact zFQ t1 t2 hu0
  |non=>cases rv;exact zF9 t1 hu0
  |bl b=>cases rv;exact zF8 b t1 hu0
  |int i=>obtain⟨tk,rfl⟩:=rv;exact zFu i tk t1 hu0
  |str i=>obtain⟨tk,rfl⟩:=rv;exact zFv i tk t1 hu0
  |_=>exact zAF (ndx ne)
 |non=>
  cases ru;cases r2 with
  |tup h2 q2=>cases rv;obtain⟨_,_,t2⟩:=ok.tup h2;exact zFR t2 hu0
  |lst h2 mm2 q2=>cases rv;obtain⟨_,_,t2⟩:=ok.lst h2;exact zFb t2 hu0
  |dK _ _ _=>exact(bL ne).elim
  |dT _ _ _=>exact(bL ne).elim
  |set _ _ _ _=>exact(dY ne).elim
  |scr _=>exact(dZ ne).elim
  |fn _=>exact(fM ne).elim
  |itm _=>exact(dh ne).elim
  |non=>cases rv;exact zC5 _
  |bl b=>cases rv;exact zFa b
  |int i=>obtain⟨tk,rfl⟩:=rv;exact zFw i tk
  |str i=>obtain⟨tk,rfl⟩:=rv;exact zFx i tk
 |bl a=>
  cases ru;cases r2 with
  |tup h2 q2=>cases rv;obtain⟨_,_,t2⟩:=ok.tup h2;exact zFP a t2 hu0
  |lst h2 mm2 q2=>cases rv;obtain⟨_,_,t2⟩:=ok.lst h2;exact zF5 a t2 hu0
  |dK _ _ _=>exact(bL ne).elim
  |dT _ _ _=>exact(bL ne).elim
  |set _ _ _ _=>exact(dY ne).elim
  |scr _=>exact(dZ ne).elim
  |fn _=>exact(fM ne).elim
  |itm _=>exact(dh ne).elim
  |non=>cases rv;exact zF6 a
  |bl b=>cases rv;exact zDk a b
  |int i=>obtain⟨tk,rfl⟩:=rv;exact zFp a i tk
  |str i=>obtain⟨tk,rfl⟩:=rv;exact zFq a i tk
 |int a=>
  obtain⟨tu,rfl⟩:=ru;cases r2 with
  |tup h2 q2=>cases rv;obtain⟨_,_,t2⟩:=ok.tup h2;exact zF7 a tu t2 hu0
  |lst h2 mm2 q2=>cases rv;obtain⟨_,_,t2⟩:=ok.lst h2;exact zFs a tu t2 hu0
  |dK _ _ _=>exact(bL ne).elim
  |dT _ _ _=>exact(bL ne).elim
  |set _ _ _ _=>exact(dY ne).elim
  |scr _=>exact(dZ ne).elim
  |fn _=>exact(fM ne).elim
  |itm _=>exact(dh ne).elim
  |non=>cases rv;exact zFt a tu
  |bl b=>cases rv;exact zFr a tu b
  |int i=>obtain⟨tk,rfl⟩:=rv;exact zED a tu i tk
  |str i=>obtain⟨tk,rfl⟩:=rv;exact zEE a tu i tk
 |str a=>
  obtain⟨tu,rfl⟩:=ru;cases r2 with
  |tup h2 q2=>cases rv;obtain⟨_,_,t2⟩:=ok.tup h2;exact zFc a tu t2 hu0
  |lst h2 mm2 q2=>cases rv;obtain⟨_,_,t2⟩:=ok.lst h2;exact zFz a tu t2 hu0
  |dK _ _ _=>exact(bL ne).elim
  |dT _ _ _=>exact(bL ne).elim
  |set _ _ _ _=>exact(dY ne).elim
  |scr _=>exact(dZ ne).elim
  |fn _=>exact(fM ne).elim
  |itm _=>exact(dh ne).elim
  |non=>cases rv;exact zGA a tu
  |bl b=>cases rv;exact zFy a tu b
  |int i=>obtain⟨tk,rfl⟩:=rv;exact zEF a tu i tk
  |str i=>obtain⟨tk,rfl⟩:=rv;exact zGE a tu i tk
 |_=>exact zAF (ndx nd)
def xm(ok:qW K H s)(n:Nat)(IH:aHN K H s n):aHO K H s n:=by
 intro A1 A2 xs ys ds es A us vs q1 q2 w1 w2 hd nd ne hu j h1 h2;have hj1:j<us.length:=by simpa using h1
 have hj2:j<vs.length:=by simpa using h2
 have hx:j<xs.length:=by rw[w1.length];exact hj1
 have hy:j<ys.length:=by rw[w2.length];exact hj2
 have ex:=zAH hx;have ey:=zAH hy;obtain⟨d,ed,rd⟩:=q1.get ex;obtain⟨e,ee,re⟩:=q2.get ey;obtain⟨u,eu,ru⟩:=w1.get ex;obtain⟨v,ev,rv⟩:=w2.get ey;have e1:us.toArray[j]=u:=by
  rw[zDH];exact zAe ((zAH hj1).symm.trans eu)
 have e2:vs.toArray[j]=v:=by
  rw[zDH];exact zAe ((zAH hj2).symm.trans ev)
 rw[e1,e2,ed,ee];exact IH _ _ _ _ _ _ _ _ _ rd re ru rv (zAh (jh (zAg ed)) hd) (eO (zAg ed) nd) (eO (zAg ee) ne) hu
theorem aKD(ok:qW K H s):∀n,aHN K H s n
 |0=>vY ok 0 λ k h=>absurd h (by simp)
 |n+1=>vY ok (n+1) λ k h=>by
  have h':=zFm h;subst h';exact xm ok n (aKD ok n)
def aAj(ok:qW K H s):∀{A1 A2:Addr->Prop} {xs ys:List V} {ds es:List D} (n:Nat) {A:zA8} {us vs:List Value},Rps K A1 H xs ds->Rps K A2 H ys es->Vals xs us->Vals ys vs->dJ ds<=n->bC ds=true->bC es=true->A.units+n<cLine->
  ∀(j:Nat) (h1:j<us.toArray.size) (h2:j<vs.toArray.size),zBs A s us.toArray[j] vs.toArray[j] (match ds[j]?,es[j]? with|some a,some b=>eqD a b|_,_=>true)
 |_,_,xs,ys,ds,es,n,A,us,vs,q1,q2,w1,w2,hd,nd,ne,hu,j,h1,h2=>xm ok n (aKD ok n) _ _ _ _ _ _ _ _ _ q1 q2 w1 w2 hd nd ne hu j h1 h2
def aFQ(ok:qW K H s)(n:Nat)(r1:Rp K A1 H x d)(r2:Rp K A2 H y e)(ru:RelV x u)(rv:RelV y v)(hd:iu d<=n)(nd:aY d=true)(ne:aY e=true)(hu:A.units+n<cLine):
  SeqAt.RcAt A s u v (eqD d e)/\SeqAt.RcNeAt A s u v (!eqD d e):=by
 have hu0:A.units<cLine:=by lia
 cases r1 with
 |tup h1 q1=>
  rename_i a xs ds;cases ru;obtain⟨its,w1,t1⟩:=ok.tup h1;cases r2 with
  |tup h2 q2=>
   rename_i b ys es;cases rv;obtain⟨its2,w2,t2⟩:=ok.tup h2;simp only[iu]at hd;obtain⟨k,rfl⟩:∃k,n=k+1:=⟨n-1,by lia⟩
   have he:=aAj ok (A:=A.in1) k q1 q2 w1 w2 (by lia) (iI nd) (iI ne) (by show A.units+1+k<cLine;lia);have z:=zER t1 t2 hu0 he;have z2:=SeqAt.RcNeAt.tuples t1 t2 hu0 he;rw[cX (by rw[zAM,<-w1.length,q1.length]) (by rw[zAM,<-w2.length,q2.length])]at z z2;simp only[eqD];exact⟨z,z2⟩
  |lst h2 mm2 q2=>
   cases rv;obtain⟨its2,w2,t2⟩:=ok.lst h2;simp only[eqD];exact⟨SeqAt.RcAt.tuple_list t1 t2 hu0,SeqAt.RcNeAt.tuple_list t1 t2 hu0⟩
  |non=>cases rv;exact⟨SeqAt.RcAt.tuple_none t1 hu0,SeqAt.RcNeAt.tuple_none t1 hu0⟩
  |bl b=>cases rv;exact⟨SeqAt.RcAt.tuple_bool b t1 hu0,SeqAt.RcNeAt.tuple_bool b t1 hu0⟩
  |int i=>obtain⟨tk,rfl⟩:=rv;exact⟨SeqAt.RcAt.tuple_int i tk t1 hu0,SeqAt.RcNeAt.tuple_int i tk t1 hu0⟩
  |str i=>obtain⟨tk,rfl⟩:=rv;exact⟨SeqAt.RcAt.tuple_str i tk t1 hu0,SeqAt.RcNeAt.tuple_str i tk t1 hu0⟩
  |_=>exact zAF (ndx ne)
 |lst h1 mm1 q1=>
  rename_i a xs ds;cases ru;obtain⟨its,w1,t1⟩:=ok.lst h1;cases r2 with
  |lst h2 mm2 q2=>
   rename_i b ys es;cases rv;obtain⟨its2,w2,t2⟩:=ok.lst h2;simp only[iu]at hd;obtain⟨k,rfl⟩:∃k,n=k+1:=⟨n-1,by lia⟩
   have l1:its.toArray.size=ds.length:=by rw[zAM,<-w1.length,q1.length]
   have l2:its2.toArray.size=es.length:=by rw[zAM,<-w2.length,q2.length]
   have z':=cX (ds:=ds) (es:=es) l1 l2;by_cases hl:its.toArray.size=its2.toArray.size
   .have he:=aAj ok (A:=A.in1) k q1 q2 w1 w2 (by lia) (iJ nd) (iJ ne) (by show A.units+1+k<cLine;lia)
    have z:=zE2 t1 t2 hl hu0 he;have z2:=SeqAt.RcNeAt.lists t1 t2 hl hu0 he;rw[<-hl,zG8,beq_self_eq_true,zDi]at z';rw[z']at z z2;simp only[eqD];exact⟨z,z2⟩
   .rw[beq_eq_false_iff_ne.mpr hl,zD3]at z'
    simp only[eqD];rw[<-z'];exact⟨zDV t1 t2 (by simpa using hl) hu0,SeqAt.RcNeAt.lists_lengths t1 t2 (by simpa using hl) hu0⟩
  |tup h2 q2=>
   cases rv;obtain⟨its2,w2,t2⟩:=ok.tup h2;simp only[eqD];exact⟨SeqAt.RcAt.list_tuple t1 t2 hu0,SeqAt.RcNeAt.list_tuple t1 t2 hu0⟩
  |non=>cases rv;exact⟨SeqAt.RcAt.list_none t1 hu0,SeqAt.RcNeAt.list_none t1 hu0⟩
  |bl b=>cases rv;exact⟨SeqAt.RcAt.list_bool b t1 hu0,SeqAt.RcNeAt.list_bool b t1 hu0⟩
  |int i=>obtain⟨tk,rfl⟩:=rv;exact⟨SeqAt.RcAt.list_int i tk t1 hu0,SeqAt.RcNeAt.list_int i tk t1 hu0⟩
  |str i=>obtain⟨tk,rfl⟩:=rv;exact⟨SeqAt.RcAt.list_str i tk t1 hu0,SeqAt.RcNeAt.list_str i tk t1 hu0⟩
  |_=>exact zAF (ndx ne)
 |non=>
  cases ru;cases r2 with
  |tup h2 q2=>cases rv;obtain⟨_,_,t2⟩:=ok.tup h2;exact⟨SeqAt.RcAt.none_tuple t2 hu0,SeqAt.RcNeAt.none_tuple t2 hu0⟩
  |lst h2 mm2 q2=>cases rv;obtain⟨_,_,t2⟩:=ok.lst h2;exact⟨SeqAt.RcAt.none_list t2 hu0,SeqAt.RcNeAt.none_list t2 hu0⟩
  |dK _ _ _=>exact(bL ne).elim
  |dT _ _ _=>exact(bL ne).elim
  |set _ _ _ _=>exact(dY ne).elim
  |scr _=>exact(dZ ne).elim
  |fn _=>exact(fM ne).elim
  |itm _=>exact(dh ne).elim
  |non=>cases rv;exact⟨SeqAt.RcAt.none_none,SeqAt.RcNeAt.none_none⟩
  |bl b=>cases rv;exact⟨SeqAt.RcAt.none_bool b,SeqAt.RcNeAt.none_bool b⟩
  |int i=>obtain⟨tk,rfl⟩:=rv;exact⟨SeqAt.RcAt.none_int i tk,SeqAt.RcNeAt.none_int i tk⟩
  |str i=>obtain⟨tk,rfl⟩:=rv;exact⟨SeqAt.RcAt.none_str i tk,SeqAt.RcNeAt.none_str i tk⟩
 |bl a=>
  cases ru;cases r2 with
  |tup h2 q2=>cases rv;obtain⟨_,_,t2⟩:=ok.tup h2;exact⟨SeqAt.RcAt.bool_tuple a t2 hu0,SeqAt.RcNeAt.bool_tuple a t2 hu0⟩
  |lst h2 mm2 q2=>cases rv;obtain⟨_,_,t2⟩:=ok.lst h2;exact⟨SeqAt.RcAt.bool_list a t2 hu0,SeqAt.RcNeAt.bool_list a t2 hu0⟩
  |dK _ _ _=>exact(bL ne).elim
  |dT _ _ _=>exact(bL ne).elim
  |set _ _ _ _=>exact(dY ne).elim
  |scr _=>exact(dZ ne).elim
  |fn _=>exact(fM ne).elim
  |itm _=>exact(dh ne).elim
  |non=>cases rv;exact⟨SeqAt.RcAt.bool_none a,SeqAt.RcNeAt.bool_none a⟩
  |bl b=>cases rv;exact⟨SeqAt.RcAt.bool_bool a b,SeqAt.RcNeAt.bool_bool a b⟩
  |int i=>obtain⟨tk,rfl⟩:=rv;exact⟨SeqAt.RcAt.bool_int a i tk,SeqAt.RcNeAt.bool_int a i tk⟩
  |str i=>obtain⟨tk,rfl⟩:=rv;exact⟨SeqAt.RcAt.bool_str a i tk,SeqAt.RcNeAt.bool_str a i tk⟩
 |int a=>
  obtain⟨tu,rfl⟩:=ru;cases r2 with
  |tup h2 q2=>cases rv;obtain⟨_,_,t2⟩:=ok.tup h2;exact⟨SeqAt.RcAt.int_tuple a tu t2 hu0,SeqAt.RcNeAt.int_tuple a tu t2 hu0⟩
  |lst h2 mm2 q2=>cases rv;obtain⟨_,_,t2⟩:=ok.lst h2;exact⟨SeqAt.RcAt.int_list a tu t2 hu0,SeqAt.RcNeAt.int_list a tu t2 hu0⟩
  |dK _ _ _=>exact(bL ne).elim
  |dT _ _ _=>exact(bL ne).elim
  |set _ _ _ _=>exact(dY ne).elim
  |scr _=>exact(dZ ne).elim
  |fn _=>exact(fM ne).elim
  |itm _=>exact(dh ne).elim
  |non=>cases rv;exact⟨SeqAt.RcAt.int_none a tu,SeqAt.RcNeAt.int_none a tu⟩
  |bl b=>cases rv;exact⟨SeqAt.RcAt.int_bool a tu b,SeqAt.RcNeAt.int_bool a tu b⟩
  |int i=>obtain⟨tk,rfl⟩:=rv;exact⟨SeqAt.RcAt.int_int a tu i tk,SeqAt.RcNeAt.int_int a tu i tk⟩
  |str i=>obtain⟨tk,rfl⟩:=rv;exact⟨SeqAt.RcAt.int_str a tu i tk,SeqAt.RcNeAt.int_str a tu i tk⟩
 |str a=>
  obtain⟨tu,rfl⟩:=ru;cases r2 with
  |tup h2 q2=>cases rv;obtain⟨_,_,t2⟩:=ok.tup h2;exact⟨SeqAt.RcAt.str_tuple a tu t2 hu0,SeqAt.RcNeAt.str_tuple a tu t2 hu0⟩
  |lst h2 mm2 q2=>cases rv;obtain⟨_,_,t2⟩:=ok.lst h2;exact⟨SeqAt.RcAt.str_list a tu t2 hu0,SeqAt.RcNeAt.str_list a tu t2 hu0⟩
  |dK _ _ _=>exact(bL ne).elim
  |dT _ _ _=>exact(bL ne).elim
  |set _ _ _ _=>exact(dY ne).elim
  |scr _=>exact(dZ ne).elim
  |fn _=>exact(fM ne).elim
  |itm _=>exact(dh ne).elim
  |non=>cases rv;exact⟨SeqAt.RcAt.str_none a tu,SeqAt.RcNeAt.str_none a tu⟩
  |bl b=>cases rv;exact⟨SeqAt.RcAt.str_bool a tu b,SeqAt.RcNeAt.str_bool a tu b⟩
  |int i=>obtain⟨tk,rfl⟩:=rv;exact⟨SeqAt.RcAt.str_int a tu i tk,SeqAt.RcNeAt.str_int a tu i tk⟩
  |str i=>obtain⟨tk,rfl⟩:=rv;exact⟨SeqAt.RcAt.str_str a tu i tk,SeqAt.RcNeAt.str_str a tu i tk⟩
 |_=>exact zAF (ndx nd)
end
section
variable{X:Cx}
def aFS(K:zAA)(neg:Bool):R2:=λ x y H Q=>∃A B d e,Rp K A H x d/\Rp K B H y e/\iu d<=60/\aY d=true/\aY e=true/\Q (.bl (if neg then !eqD d e else eqD d e)) H
def aLU(hu:X.A.units+64<cLine):OpR X (zAy .Eq) (aFS X.K false):=by
 intro hV s Z H x y v u Q I rx ry h;obtain⟨A,B,d,e,r1,r2,hd,nd,ne,q⟩:=h;exact(aFQ (Inv.seqOk I) 60 r1 r2 rx ry hd nd ne (by lia)).1 X.prog X.w X.xe _ ⟨.bl (eqD d e),H,I,rfl,q⟩
def aLN(hu:X.A.units+64<cLine):OpR X (zAy .NotEq) (aFS X.K true):=by
 intro hV s Z H x y v u Q I rx ry h;obtain⟨A,B,d,e,r1,r2,hd,nd,ne,q⟩:=h;exact(aFQ (Inv.seqOk I) 60 r1 r2 rx ry hd nd ne (by lia)).2 X.prog X.w X.xe _ ⟨.bl (!eqD d e),H,I,rfl,q⟩
end
section
variable{K:zAA}
def eqR(neg:Bool):D->D->Rs D:=λ d e=>if decide (iu d<=60)&&aY d&&aY e then .ok (.bl (if neg then !eqD d e else eqD d e))else .st
def os_eq:OpS K (aFS K n) (eqR n):=by
 intro A x y d e H Q z rx ry ez q;unfold eqR at ez;split at ez
 .rename_i h
  simp only[zAC,decide_eq_true_eq]at h;cases ez;exact⟨A,A,d,e,rx,ry,h.1.1,h.1.2,h.2,q _ H (aO.refl H) (.bl _)⟩
 .cases ez
def aG5:∀x y z,eqR n x y= .ok z->imm z=true:=by
 intro x y z e;unfold eqR at e;split at e
 .cases e;rfl
 .cases e
end
section
variable{K:zAA}
def boolsOf:List D->Option (List Bool)
 |[]=>some []
 | .bl i::r=>(boolsOf r).map (i::·)
 |_=>none
theorem qR:∀{l:List D} {ns:List Bool},boolsOf l=some ns->l=ns.map .bl
 |[],ns,h=>by cases h;rfl
 | .bl i::r,ns,h=>by
  simp only[boolsOf,zBc]at h;obtain⟨ms,h1,rfl⟩:=h;rw[qR h1];rfl
 | .non::_,_,h=>by cases h
 | .int _::_,_,h=>by cases h
 | .str _::_,_,h=>by cases h
 | .tup _::_,_,h=>by cases h
 | .lst _::_,_,h=>by cases h
 | .dct _ _::_,_,h=>by cases h
 | .set _::_,_,h=>by cases h
 | .scr _::_,_,h=>by cases h
theorem sr:∀ns:List Bool,boolsOf (ns.map .bl)=some ns
 |[]=>rfl
 |n::ns=>by simp only[zAE,boolsOf,sr ns,zDp]
theorem yC{X:Cx}:∀{bs:List Bool} {us:List Value},Vals (bs.map V.bl) us->LSm.BoolsAre us bs
 |[],_,.nil=>.nil
 |b::bs,_,.cons r t=>by
  have e:_=zCU b:=r;subst e;exact .cons b (yC (X:=X) t)
theorem Rps.bools_of:∀{xs:List V} {bs:List Bool},Rps K A H xs (bs.map D.bl)->xs=bs.map V.bl
 |_,[],.nil=>rfl
 |_,n::ns,.cons h r=>by
  cases h;rw[zAE,Rps.bools_of r]
def zf(f:List Bool->Bool):List D->Rs D
 |[.lst l]=>match boolsOf l with
  |some bs=>.ok (.bl (f bs))
  |none=>.st
 |_=>.st
def aGz{X:Cx}(hc:X.calm=true):cU X (.builtin "all") (λ xs H Q=>∃(p:Addr) (bs:List Bool),xs=[.ref p]/\H p=some (.lst (bs.map V.bl))/\Q (.bl (bs.all id)) H):=by
 intro hV s Z H xs us Q I r h;obtain⟨p,bs,rfl,hp,q⟩:=h;obtain⟨u,rfl,ru⟩:=vals1 r;cases ru;obtain⟨its,rv,pl,hz⟩:=I.list (SqL.of hp);have hb:=yC (X:=X) rv;have hl:=pl.isList;have hlt:p<s.heap.objs.size:=by obtain⟨_,e,_⟩:=hl;exact zAW e
 refine call_all_walk (zIX hl ?_);refine⟨s.heap.objs.size,[s.heap.objs.size,p],[s.heap.objs.size],its.toArray.size,_,_,λ i=>(bs[i]?).getD true,rfl,Walks.list (A:=X.A.in1) (I.ok.hd hc) _ p (zAa hlt) its.toArray,
  ⟨⟨_,zA0 _ rfl,rfl,rfl⟩,hl.push _⟩,λ i v s' Q' E' hP hQ=>?_,λ h' tk hk=>?_⟩
 .obtain⟨b,e,rfl⟩:=hb.get i v (by simpa using hP)
  simp only[e,Option.getD_some]at hQ;exact zB6 hQ
 .have e:((zA1 its.toArray.size).all λ i=>(bs[i]?).getD true)=bs.all id:=by
   rw[zAM,hb.length];exact LSm.range_all bs
  rw[e];exact⟨.bl _,H,I.kept (LSm.kept_iter hk),rfl,q⟩
def aMI:oU K (λ xs H Q=>∃(p:Addr) (bs:List Bool),xs=[.ref p]/\H p=some (.lst (bs.map V.bl))/\Q (.bl (f bs)) H) (zf f):=by
 intro A xs ds H Q z r ez q;unfold zf at ez;split at ez
 .split at ez
  .rename_i l bs e
   cases ez
   have:=qR e
   subst this;cases r with
   |cons h r=>
    cases r;cases h with
    |lst h m r=>
     have:=r.bools_of
     subst this;exact⟨_,bs,rfl,h,q _ H (aO.refl H) (.bl _)⟩
  .cases ez
 .cases ez
def aJA:∀x z,zf f x= .ok z->imm z=true:=by
 intro x z e;unfold zf at e;split at e
 .split at e
  .cases e;rfl
  .cases e
 .cases e
def mmD(f:Int->Int->Int):List D->Rs D
 |[.int i,.int j]=>.ok (.int (f i j))
 |_=>.st
def aKH:oU K (λ xs H Q=>∃i j,xs=[.int i,.int j]/\Q (.int (f i j)) H) (mmD f):=by
 intro A xs ds H Q z r ez q;unfold mmD at ez;split at ez
 .cases ez
  cases r with
  |cons h r=>
   cases h;cases r with
   |cons h r=>
    cases h;cases r;exact⟨_,_,rfl,q _ H (aO.refl H) (.int _)⟩
 .cases ez
def aG2:∀x z,mmD f x= .ok z->imm z=true:=by
 intro x z e;unfold mmD at e;split at e
 .cases e;rfl
 .cases e
def lr:List D->Rs D
 |[.lst l]=>.ok (.tup l)
 |[.tup l]=>.ok (.tup l)
 |_=>.st
def aGt:oU K (λ xs H Q=>∃p ys,xs=[.ref p]/\((SqL K H p ys/\∀l,H l=none->Q (.ref l) (upd H l (.tup ys)))\/(SqT K H p ys/\Q (.ref p) H))) lr:=by
 intro A xs ds H Q z r ez q;unfold lr at ez;split at ez
 .cases ez
  cases r with
  |cons h r=>
   cases r;cases h with
   |lst h m r=>exact⟨_,_,rfl,.inl ⟨SqL.of h,λ l hl=>q _ _ (ak hl _) (.tup (SqT.of aR) ((r.wk λ _ _ _ z=>.inr z.1).up (ak hl _)))⟩⟩
 .cases ez
  cases r with
  |cons h r=>
   cases r;cases h with
   |tup h r=>exact⟨_,_,rfl,.inr ⟨h,q _ H (aO.refl H) (.tup h (r.wk λ _ _ _ z=>.inr z))⟩⟩
 .cases ez
end
def cutD(l:List D)(lo hi:Option Int):List D:=(l.drop (HT.sIx l.length 0 lo)).take (HT.sIx l.length l.length hi-HT.sIx l.length 0 lo)
def Rps.cut{K:zAA}(r:Rps K A H xs ds)(lo hi:Option Int):Rps K A H (vh xs lo hi) (cutD ds lo hi):=by
 unfold vh cutD;rw[r.length];exact(r.drop _).take _
def aMt(K:zAA):V->Option Int->Option Int->Hp->VK->Prop:=λ x lo hi H Q=>(∃a xs,x= .ref a/\SqT K H a xs/\∀c H',aO H H'->SqT K H' c (vh xs lo hi)->Q (.ref c) H')\/aMu K x lo hi H Q
def aH8:SlR X (λ x lo hi H Q=>∃a xs,x= .ref a/\SqT X.K H a xs/\∀c H',aO H H'->SqT X.K H' c (vh xs lo hi)->Q (.ref c) H'):=by
 intro hV s Z H x v vl vu lo hi sl Q I rx hs pl pu h;obtain⟨a,xs,rfl,hx,q⟩:=h;cases rx;obtain⟨its,r,ht,hz⟩:=I.tuple hx;have hW:its.toArray.size=xs.length:=by rw[zAM];exact r.length.symm
 refine⟨"tuple",_,zBS.lookup,ht.typeIs,?_⟩;by_cases hw:HT.sIx xs.length 0 lo=0/\HT.sIx xs.length xs.length hi=xs.length
 .refine HT.qL ht hs pl pu (by rw[hW];exact hw.1) (by rw[hW];exact hw.2) ⟨.ref a,H,I,rfl,q a H (aO.refl H) ?_⟩
  have:vh xs lo hi=xs:=by
   unfold vh;rw[hw.1,hw.2,zFk,zGc,List.take_length]
  rw[this];exact hx
 .refine HT.qK ht hs pl pu (by rw[hW];exact hw) ?_ (by rw[hW];exact hz)
  rw[hW];refine⟨.ref s.heap.objs.size,_,I.laid (t':=s.toks) (o:=.tup (vh xs lo hi)) (λ b ob q=>zAI _ q) (zAP _) ?_,rfl,q _ _ (ak (I.hok.fresh (zAP _)) _) (SqT.of aR)⟩;exact⟨⟨zAh (sY xs lo hi) hz,NoD.push _⟩,_,(r.drop (HT.sIx xs.length 0 lo)).take (HT.sIx xs.length xs.length hi-HT.sIx xs.length 0 lo),zFA _ _⟩
def aNu:SlR X (aMt X.K):=aH8.or aH9
section
variable{C:Ct}{m:Mode}{e:Expr}{fe:En->Rs D}
def aOF(K:zAA)(G:Gx)(t:TO)(f:En->Rs (Option Int)):Prop:=∀U Z H Y lab (Q:Option Int->Hp->Prop),RR K G U Y Z H lab->WR G (f Y) (λ o=>∀H',aO H H'->Q o H')->t Z H Q
def SO(C:Ct)(e:Option Expr)(f:En->Rs (Option Int)):Prop:=∃t,(∀i,PO (C.X i) e t)/\aOF C.K C.G t f
def aFu:En->Rs (Option Int):=λ _=>.ok none
def aFt(fe:En->Rs D):En->Rs (Option Int):=λ Y=>(fe Y).bd λ d=>match d with
 | .int i=>.ok (some i)
 |_=>.st
def aH7:SO C none aFu:=⟨_,λ _=>aII,λ U Z H Y lab Q R W=>W H (aO.refl H)⟩
def aH6(h:SE C m e fe):SO C (some e) (aFt fe):=by
 obtain⟨t,h1,h2⟩:=h;refine⟨_,λ i=>aIH (h1 i),λ U Z H Y lab Q R W=>h2 U Z H Y lab _ R (W.bd.imp λ d _ w x H1 s r=>?_)⟩;cases r with
 |int i=>exact⟨i,rfl,w H1 s⟩
 |_=>exact zAF w
end
section
variable{C:Ct}{pos p:Pos}{m m1 m2 m3:Mode}{a b c e:Expr}{fa fb fc:En->Rs D}{ga:En->Rs (List D)}
def Ct.u0(C:Ct)(i:C.ι):(C.X i).A.units<cLine:=(C.room i).units0
def Ct.u64(C:Ct)(i:C.ι):(C.X i).A.units+64<cLine:=(C.room i).units
def Ct.ltR(C:Ct)(i:C.ι):OpR (C.X i) (zAy .Lt) (λ x y H Q=>rI0 (λ i j=>.bl (decide (i<j))) x y H Q\/aHt C.K x y H Q):=by have h:=aLQ (X:=C.X i) (C.u0 i);rw[C.hK i]at h;exact h
def Ct.leR(C:Ct)(i:C.ι):OpR (C.X i) (zAy .LtE) (λ x y H Q=>rI0 (λ i j=>.bl (decide (i<=j))) x y H Q\/aHu C.K x y H Q):=by have h:=aLS (X:=C.X i) (C.u0 i);rw[C.hK i]at h;exact h
def Ct.eqRl(C:Ct)(i:C.ι):OpR (C.X i) (zAy .Eq) (aFS C.K false):=by have h:=aLU (X:=C.X i) (C.u64 i);rw[C.hK i]at h;exact h
def Ct.neRl(C:Ct)(i:C.ι):OpR (C.X i) (zAy .NotEq) (aFS C.K true):=by have h:=aLN (X:=C.X i) (C.u64 i);rw[C.hK i]at h;exact h
def Ct.aN9(C:Ct)(i:C.ι):OpR (C.X i) (zB7 .Add) (aFU C.K):=by have h:=aI4 (X:=C.X i);rw[C.hK i]at h;exact h
def lU:D->D->Rs D:=i2 (λ _ _=>true) λ i j=>.int (i-j)
def oF:D->D->Rs D:=i2 (λ _ j=>decide (0<j)&&decide (j<1073741824)) λ i j=>.int (i / j)
def rA:D->D->Rs D:=i2 (λ _ j=>decide (0<j)) λ i j=>.int (i%j)
def aKr:D->D->Rs D:=i2 (λ i j=>decide (0<=j)&&decide (j<=1000000)&&decide (i.natAbs<2^64)) λ i j=>.int (i^j.toNat)
def cP(ha:SE C m1 a fa)(hb:SE C m2 b fb):SE C (jn m1 m2) (.BinOp a .Add b pos) (op2 cC fa fb):=ni C.aN9 aLH ha hb
def kY(ha:SE C m1 a fa)(hb:SE C m2 b fb):SE C (jn m1 m2) (.BinOp a .Mult b pos) (op2 fO fa fb):=ni (λ _=>aI0) aLF ha hb
def qd(ha:SE C m1 a fa)(hb:SE C m2 b fb):SE C (some []) (.BinOp a .Sub b pos) (op2 lU fa fb):=cW (ni (λ _=>aLI) aCq ha hb) λ _ _ h=>fU pI h
def yU(ha:SE C m1 a fa)(hb:SE C m2 b fb):SE C (some []) (.BinOp a .FloorDiv b pos) (op2 oF fa fb):=cW (ni (λ _=>aI1) (uv λ i j h=>by simpa[aNi]using h) ha hb) λ _ _ h=>fU pI h
def qe(ha:SE C m1 a fa)(hb:SE C m2 b fb):SE C (some []) (.BinOp a .Mod b pos) (op2 rA fa fb):=cW (ni (λ _=>aLP) (uv λ i j h=>by simpa using h) ha hb) λ _ _ h=>fU pI h
def aK7(ha:SE C m1 a fa)(hb:SE C m2 b fb):SE C (some []) (.BinOp a .Pow b pos) (op2 aKr fa fb):=cW (ni (λ _=>aLM) (uv λ i j h=>by simp only[zAC,decide_eq_true_eq]at h;exact⟨h.1.1,h.1.2,h.2⟩) ha hb) λ _ _ h=>fU pI h
def aB7(ha:SE C m a fa):SE C (some []) (.UnaryOp .USub a pos) (op1 yx fa):=cW (aMp (λ _=>aKQ) aKP ha) λ _ _ h=>aIw aIx h
def aMs(ha:SE C m1 a fa)(hb:SE C m2 b fb):SE C (some []) (.Compare a [.Lt] [b] pos) (op2 ltD fa fb):=cW (yV C.ltR aFr ha hb) λ _ _ h=>fU aG3 h
def aJh(ha:SE C m1 a fa)(hb:SE C m2 b fb):SE C (some []) (.Compare a [.Eq] [b] pos) (op2 (eqR false) fa fb):=cW (yV C.eqRl os_eq ha hb) λ _ _ h=>fU aG5 h
def aMr(ha:SE C m1 a fa)(hb:SE C m2 b fb):SE C (some []) (.Compare a [.NotEq] [b] pos) (op2 (eqR true) fa fb):=cW (yV C.neRl os_eq ha hb) λ _ _ h=>fU aG5 h
def aAB(ha:SE C m1 a fa)(hb:SE C m2 b fb):ST C (.Compare a [.Lt] [b] pos) (tsb (op2 ltD fa fb)):=uQ C.ltR aFr ha hb
def aJf(ha:SE C m1 a fa)(hb:SE C m2 b fb):ST C (.Compare a [.Gt] [b] pos) (tsb (op2 gtD fa fb)):=uQ (λ _=>aNJ) yo ha hb
def aMm(ha:SE C m1 a fa)(hb:SE C m2 b fb):ST C (.Compare a [.GtE] [b] pos) (tsb (op2 geD fa fb)):=uQ (λ _=>aNK) yo ha hb
def aEm(ha:SE C m1 a fa)(hb:SE C m2 b fb):ST C (.Compare a [.Eq] [b] pos) (tsb (op2 (eqR false) fa fb)):=uQ C.eqRl os_eq ha hb
def wu(ha:SE C m1 a fa)(hb:SE C m2 b fb):ST C (.Compare a [.NotEq] [b] pos) (tsb (op2 (eqR true) fa fb)):=uQ C.neRl os_eq ha hb
def aHk(ha:SE C m1 a fa)(hb:SE C m2 b fb)(hc:SE C m3 c fc)(hm:zH7 [.LtE,.LtE] [b,c]=false:=by with_unfolding_all rfl):SE C (some []) (.Compare a [.LtE,.LtE] [b,c] pos) (chD leD leD fa fb fc):=aAF C.leR aFs C.leR aFs aLo ha hb hc hm
def aHj(ha:SE C m1 a fa)(hb:SE C m2 b fb)(hc:SE C m3 c fc)(hm:zH7 [.LtE,.Lt] [b,c]=false:=by with_unfolding_all rfl):SE C (some []) (.Compare a [.LtE,.Lt] [b,c] pos) (chD leD ltD fa fb fc):=aAF C.leR aFs C.ltR aFr aG3 ha hb hc hm
def aU(ha:SE C m1 a fa)(hb:SE C m2 b fb)(hp:qX b:=by exact λ _ _=>rfl):SE C m1 (.Subscript a b pos) (op2 ixD fa fb):=by
 obtain⟨t,h1,h2⟩:=ha;obtain⟨u,k1,k2⟩:=hb;refine⟨tOp (rIx C.K) t u,λ i=>by rw[<-C.hK i];exact aFg aLl (h1 i) (k1 i) hp,λ U Z H Y lab Q R W=>?_⟩;refine h2 U Z H Y lab _ R (W.bd.imp λ d _ w x H1 s1 r1=>?_);refine k2 U Z H1 Y lab _ (R.up s1) (w.bd.imp λ e _ w y H2 s2 r2=>?_);obtain⟨z,ez,w⟩:=w.okD;have hi:imm e=true:=by
  unfold ixD at ez;split at ez<;>first|rfl|cases ez
 refine aNG (fpM m1 lab H) x y d e H2 Q z (r1.up s2) (r2.imm hi) ez λ v H' s r=>w v H' ((s1.trans s2).trans s) (r.wk λ p o _ q=>?_)
 rcases q with q|q
 .exact .inl ((s1.trans s2).free q)
 .exact q
def qg(hm:C.mg "len"=none)(ha:SA C m [a] ga)(he:∀i,zAY [a] (C.X i).env=[(false,eval a (C.X i).env)]:=by intro _;rfl)(hg:∀i,Gl (C.X i) "len":=by intro _;rfl):SE C (some []) (.Call (.Name "len" p) [a] [] pos) (opA pG ga):=
 cW (j8 (λ i=>by have h:=zZ (X:=C.X i);rw[C.hK i]at h;exact h) aMH hg hm PySem.boot_len ha (by decide) (by decide) he) λ _ _ h=>lK aIy h
def aKe(hm:C.mg "all"=none)(ha:SA C m [a] ga)(he:∀i,zAY [a] (C.X i).env=[(false,eval a (C.X i).env)]:=by intro _;rfl)(hg:∀i,Gl (C.X i) "all":=by intro _;rfl)(hv:zAv "all"=some (.builtin "all"):=by decide+kernel):SE C (some []) (.Call (.Name "all" p) [a] [] pos) (opA (zf λ bs=>bs.all id) ga):=
 cW (j8 (λ i=>aGz (C.calm i)) aMI hg hm hv ha (by decide) (by decide) he) λ _ _ h=>lK aJA h
def aC9(hm:C.mg "min"=none)(ha:SA C m [a,b] ga)(he:∀i,zAY [a,b] (C.X i).env=(false,eval a (C.X i).env)::zAY [b] (C.X i).env:=by intro _;rfl)(hpl:∀i,(zCE pos (zAY [b] (C.X i).env)).any (·.1)=false:=by intro _;rfl)(hg:∀i,Gl (C.X i) "min":=by intro _;rfl)(hv:zAv "min"=some (.builtin "min"):=by decide+kernel):SE C (some []) (.Call (.Name "min" p) [a,b] [] pos) (opA (mmD λ i j=>if j<i then j else i) ga):=
 cW (j8 (λ i=>aES (C.calm i)) aKH hg hm hv ha (by decide) (by decide) he hpl) λ _ _ h=>lK aG2 h
def aCa(hm:C.mg "max"=none)(ha:SA C m [a,b] ga)(he:∀i,zAY [a,b] (C.X i).env=(false,eval a (C.X i).env)::zAY [b] (C.X i).env:=by intro _;rfl)(hpl:∀i,(zCE pos (zAY [b] (C.X i).env)).any (·.1)=false:=by intro _;rfl)(hg:∀i,Gl (C.X i) "max":=by intro _;rfl)(hv:zAv "max"=some (.builtin "max"):=by decide+kernel):SE C (some []) (.Call (.Name "max" p) [a,b] [] pos) (opA (mmD λ i j=>if j>i then j else i) ga):=
 cW (j8 (λ i=>aET (C.calm i)) aKH hg hm hv ha (by decide) (by decide) he hpl) λ _ _ h=>lK aG2 h
def uU(hm:C.mg "tuple"=none)(ha:SA C m [a] ga)(he:∀i,zAY [a] (C.X i).env=[(false,eval a (C.X i).env)]:=by intro _;rfl)(hg:∀i,Gl (C.X i) "tuple":=by intro _;rfl)(hv:zAv "tuple"=some (.type "tuple"):=by decide+kernel):SE C m (.Call (.Name "tuple" p) [a] [] pos) (opA lr ga):=
 aAG (λ i=>by have h:=wU (X:=C.X i);rw[C.hK i]at h;exact h) aGt hg hm hv ha (by decide) (by decide) he
def aKf{K:zAA}{a:Addr}(hO:Only H)(h:SqL K H a (ns.map V.int)):oR K H a ns:=by
 rcases h with (h|⟨o,h⟩)|h
 .rcases hO a with z|⟨o,xs,z⟩
  .rw[h]at z;cases z
  .rw[h]at z;cases z
 .exact .inl ⟨o,h⟩
 .exact .inr h
end
def aAP:V->List V->Hp->VK->Prop:=λ x vs H Q=>∃l b xs zs,x= .ref l/\vs=[.ref b]/\H l=some (.lst xs)/\H b=some (.lst zs)/\xs.length+zs.length<=zAK/\∀H',jF l H H'->H' l=some (.lst (xs++zs))->Q .non H'
def aBu:MtM X "list.extend" aAP:=λ hV s Z H x xs v us Q I rx rv ⟨l,b,ys,zs,e1,e2,h,h2,z,n⟩=>
 aDq hV s Z H x xs v us Q I rx rv ⟨l,b,ys,zs,e1,e2,h,h2,z,n _ (λ b o ne hb=>by rw[aL ne];exact hb) aR⟩
section
variable{K:zAA}
theorem nO:∀{ns:List Int} {us:List Value},Vals (ns.map V.int) us->∃ts:List (Int×Tok),us=ts.map (λ q=>zCt q.1 q.2)/\ts.map zFD=ns
 |[],_,.nil=>⟨[],rfl,rfl⟩
 |n::ns,_,.cons r t=>by
  obtain⟨tk,e⟩:∃tk,_=zCt n tk:=r
  obtain⟨ts,e1,e2⟩:=nO t;subst e;exact⟨(n,tk)::ts,by rw[e1];rfl,by rw[<-e2];rfl⟩
def aEP(hc:X.calm=true):cU X (.builtin "sum") (λ xs H Q=>∃(p:Addr) (ns:List Int),xs=[.ref p]/\H p=some (.lst (ns.map V.int))/\Q (.int ns.sum) H):=by
 intro hV s Z H xs us Q I r h;obtain⟨p,ns,rfl,hp,q⟩:=h;obtain⟨u,rfl,ru⟩:=vals1 r;cases ru;obtain⟨its,rv,pl,hz⟩:=I.list (SqL.of hp);obtain⟨ts,rfl,rfl⟩:=nO rv;refine sum_intListG (xs:=ts.toArray) (I.ok.hd hc) (by have:=pl.isList;simpa[zEf]using this) λ h' tk t' hk=>?_
 refine⟨.int (ts.map zFD).sum,H,I.kept hk,⟨t',?_⟩,q⟩;rw[preSum_eq,zCJ (by simp)]
def aER(hc:X.calm=true):cU X (.builtin "min") (λ xs H Q=>∃(p:Addr) (ns:List Int) (m:Int),xs=[.ref p]/\H p=some (.lst (ns.map V.int))/\ns.min?=some m/\Q (.int m) H):=by
 intro hV s Z H xs us Q I r h;obtain⟨p,ns,m,rfl,hp,hm,q⟩:=h;obtain⟨u,rfl,ru⟩:=vals1 r;cases ru;obtain⟨its,rv,pl,hz⟩:=I.list (SqL.of hp);obtain⟨ts,rfl,rfl⟩:=nO rv;have hsz:0<ts.toArray.size:=by
  cases ts with
  |nil=>cases hm
  |cons a b=>simp
 refine min_intList (xs:=ts.toArray) (I.ok.hd hc) (by have:=pl.isList;simpa[zEf]using this) hsz λ v h' tk hv hk=>?_
 obtain⟨t,rfl⟩:=zHm hv;obtain⟨h1,h2⟩:=argBest_lt (numAt ts.toArray) (ts.toArray.size-1);have hM:(ts.map zFD).min?=some (numAt ts.toArray (argBest (λ i j=>decide (numAt ts.toArray i<numAt ts.toArray j)) (ts.toArray.size-1))):=by
  rw[zCy];refine⟨?_,λ a ha=>?_⟩
  .rw[zHz];exact getD_mem (by rw[zAD];simp at h1 hsz ⊢;omega)
  .obtain⟨j,hj,rfl⟩:=mem_getD ha
   have:=h2 j (by rw[zAD]at hj;simp;omega)
   rw[zHz _ j]at this;exact this
 rw[hm]at hM;injection hM with hM
 exact⟨.int m,H,I.kept hk,⟨t,by rw[hM]⟩,q⟩
def nu(f:List Int->Option Int):List D->Rs D
 |[.lst l]=>match intsOf l with
  |some ns=>match f ns with
   |some m=>.ok (.int m)
   |none=>.st
  |none=>.st
 |_=>.st
def aDQ:oU K (λ xs H Q=>∃(p:Addr) (ns:List Int) (m:Int),xs=[.ref p]/\H p=some (.lst (ns.map V.int))/\f ns=some m/\Q (.int m) H) (nu f):=by
 intro A xs ds H Q z r ez q;unfold nu at ez;split at ez
 .split at ez
  .rename_i l ns e
   split at ez
   .rename_i m em
    cases ez
    have:=cT e
    subst this;cases r with
    |cons h r=>
     cases r;cases h with
     |lst h _ r=>
      have:=r.ints_of
      subst this;exact⟨_,ns,m,rfl,h,em,q _ H (aO.refl H) (.int _)⟩
   .cases ez
  .cases ez
 .cases ez
def aAe:∀x z,nu f x= .ok z->imm z=true:=by
 intro x z e;unfold nu at e;split at e
 .split at e
  .split at e
   .cases e;rfl
   .cases e
  .cases e
 .cases e
end
section
variable{C:Ct}{pos p:Pos}{a:Expr}{ga:En->Rs (List D)}{m:Mode}
def aHg(hm:C.mg "sum"=none)(ha:SA C m [a] ga)(he:∀i,zAY [a] (C.X i).env=[(false,eval a (C.X i).env)]:=by intro _;rfl)(hg:∀i,Gl (C.X i) "sum":=by intro _;rfl)(hv:zAv "sum"=some (.builtin "sum"):=by decide+kernel):SE C (some []) (.Call (.Name "sum" p) [a] [] pos) (opA (nu λ ns=>some ns.sum) ga):=
 cW (j8 (λ i=>(aEP (C.calm i)).weaken λ xs H Q ⟨p,ns,m,e1,e2,e3,q⟩=>⟨p,ns,e1,e2,by cases e3;exact q⟩) aDQ hg hm hv ha (by decide) (by decide) he) λ _ _ h=>lK aAe h
end
def yL:fillsNumberSlot (.type "tuple") "mul"=pure false:=
 PySem.fillsNumberSlot_seq (id:="tuple.__mul__") (r:=some (.builtin "tuple.__rmul__")) zDN.lookup (by decide+kernel) zHd.lookup (by decide+kernel)
def uK:seqRepeat? (.type "tuple")=pure (some (.builtin "tuple.__mul__")):=by
 unfold seqRepeat?;rw[zHT (T:="tuple") (name:="__mul__") (id:="tuple.__mul__") zDN.lookup (by decide+kernel)];rw[zHT (T:="tuple") (name:="__rmul__") (id:="tuple.__rmul__") zHd.lookup (by decide+kernel)];rfl
def uM(k:Int)(t:Tok)(a:Addr)(its:Array Value)(n:Nat)(dd:Option Addr)(sl:Array (Option Value)):
  Meets (zFV.«int.__rmul__» ⟨[.int k t,.ref a],[]⟩) (λ _ R s=>s.heap.get? a=some {cls:=.type "tuple",dict:=dd,data:=.seq its n,slots:=sl}/\R (.ok (.ret zEK)) s):=by
 refine .of_wp λ P w A R s h=>?_
 obtain⟨_,_,_,_,_⟩:=s;obtain⟨hl,h⟩:=h;wp_walk;exact⟨_,rfl,h⟩
def aEc(k:Int)(t:Tok)(a:Addr)(l:List Value)(n:Nat)(dd:Option Addr)(sl:Array (Option Value))(h1:1<k)(h2:k<2^63)(hz:l.length*k.toNat<=zAK)(he:l.isEmpty=false):
  Meets (zFV.«tuple.__mul__» ⟨[.ref a,.int k t],[]⟩) (λ _ R s=>s.heap.get? a=some {cls:=.type "tuple",dict:=dd,data:=.seq l.toArray n,slots:=sl}/\
   R (.ok (.ret (zAu s.heap.objs.size))) {s with heap:=s.heap.push {cls:=zEG "tuple",data:=zHq (zAO k.toNat l).flatten.toArray}}):=by
 have hs:(l.length:Int)*k<=zAK:=by
  have:((l.length*k.toNat:Nat):Int)=(l.length:Int)*k:=by
   rw[Int.natCast_mul,zBF (by lia)]
  rw[<-this];exact Int.ofNat_le.mpr hz
 have hb:(zAK:Int)<=(2^63-1) / 8:=by decide
 have c0:¬(decide (k < -2^63)||decide (k ≥ 2^63))=true:=by simp;lia
 have c1:¬(l.toArray.isEmpty||k==1)=true:=by simp only[zEQ,he];simp;lia
 have c2:¬(decide (k<=0)||l.toArray.isEmpty)=true:=by simp only[zEQ,he];simp;lia
 have c3:¬((l.toArray.size:Int)*k>(2^63-1) / 8):=by rw[zAM];lia
 have c4:¬zE1 ((l.toArray.size:Int)*k)=true:=by rw[zAM];unfold zE1;simp[zAK]at hs ⊢;lia
 have ef:zGC (λ x1 x2=>x1++x2) #[] (zAO k.toNat l.toArray)=(zAO k.toNat l).flatten.toArray:=by
  have:=foldl_rep l k.toNat []
  simpa using this
 have c5:¬((zAO k.toNat l).flatten.toArray.size>zAK):=by rw[zAM,len_rep,zG9];lia
 refine .of_wp λ P w A R s h=>?_
 obtain⟨_,_,_,_,_⟩:=s;obtain⟨hl,h⟩:=h;wp_walk;rw[if_neg c0];wp_walk
 try rw[if_neg c1]
 wp_walk
 try rw[if_neg c2]
 wp_walk
 try rw[if_neg c3]
 wp_walk
 try rw[if_neg c4]
 try rw[ef]
 wp_walk
 try rw[if_neg c5]
 wp_walk;exact⟨_,rfl,h⟩
def aFR(K:zAA):R2:=λ x y H Q=>∃a k xs,x= .ref a/\y= .int k/\SqT K H a xs/\1<k/\k<2^63/\xs≠[]/\xs.length*k.toNat<=zAK/\New H (.tup (zAO k.toNat xs).flatten) Q
def aIZ:OpR X (zB7 .Mult) (aFR X.K):=by
 intro hV s Z H x y v u Q I rx ry h;obtain⟨a,k,xs,rfl,rfl,ha,h1,h2,hne,hz,q⟩:=h;cases rx;obtain⟨t,rfl⟩:=ry;obtain⟨its,r,p1,_⟩:=I.tuple ha;obtain⟨⟨cls,dd,data,sl⟩,ho,hc,n,hd⟩:=id p1;simp only at hc hd;subst hc hd;have hl:its.length*k.toNat<=zAK:=by rw[<-r.length];exact hz
 have he:its.isEmpty=false:=by
  cases its with
  |nil=>exact absurd (r.nil_iff.mp rfl) hne
  |cons _ _=>rfl
 refine zCd (T:="tuple") (U:="int") (by decide) ⟨_,ho,rfl⟩ (λ s'=>zDI s' k t) yL zEU zBy uK zDy.lookup
  (zCF zBy (zDI s k t) zDx (zDl _ _) (uM k t a its.toArray n dd sl)
   ⟨ho,rfl,⟨_,ho,rfl⟩,zCF zDN ⟨_,ho,rfl⟩ zEz (zEn _ _) (aEc k t a its n dd sl h1 h2 hl he) ⟨ho,?_⟩⟩)
 refine⟨.ref s.heap.objs.size,_,I.laid (t':=s.toks) (o:=.tup (zAO k.toNat xs).flatten) (λ b ob q=>zAI _ q) (zAP _) ?_,rfl,q.at (I.hok.fresh (zAP _))⟩;exact⟨⟨by rw[len_rep,zG9];exact hz,NoD.push _⟩,_,r.rep k.toNat,zFA _ _⟩
def aI7:D->D->Rs D
 | .tup l,.int k=>if decide (1<k)&&decide (k<2^63)&& !l.isEmpty&&decide (l.length*k.toNat<=zAK)then .ok (.tup (zAO k.toNat l).flatten)else .st
 |_,_=>.st
def aIX{K:zAA}:OpS K (aFR K) aI7:=by
 intro A x y d e H Q z rx ry ez q;unfold aI7 at ez;split at ez
 .split at ez
  .rename_i hc
   simp only[zAC,decide_eq_true_eq,zCX]at hc;obtain⟨⟨⟨c1,c2⟩,c3⟩,c4⟩:=hc;cases ez;cases ry;cases rx with
   |tup h r=>
    refine⟨_,_,_,rfl,rfl,h,c1,c2,λ e=>?_,by rw[r.length];exact c4,λ p H' s hp hn=>q _ H' s (.tup (SqT.of hp) ?_)⟩
    .subst e
     cases r;cases c3
    .exact((Rps.rep r _).up s).wk λ _ _ _ z=>.inr z
  .cases ez
 .cases ez
abbrev ctL(P:zAS)(w:World)(K:zAA)(mg:Str->Option Value)(base:Heap)(N:List Str)(q:Str)(sc:Scope)(cl:List (Str×Addr))(f:Addr)(cdv:Value)(A:zA8)(outer:List Env)(s:zAB)(H:Hp)(E:XK)(k:Nat)(hr:dj k (A.deeper (zC4 q sc s.heap.objs.size f cdv cl))):Ct where
 ι:=Unit
 X:=λ _=>cxL P w K mg base N q sc cl f cdv A outer s H E
 prog:=P
 w:=w
 K:=K
 mg:=mg
 base:=base
 k:=k
 G:=⟨H,E,aa mg⟩
 cx:=λ _=>⟨rfl,rfl,rfl,rfl,rfl⟩
 calm:=λ _=>rfl
 room:=λ _=>hr
 own:=λ _=>cj.own cj.ofL
 pass:=λ _=>cj.pass cj.ofL
 dOk:=true
 dcx:=λ _ _=>cj.ofL
def shS:Slot->Slot
 | .no=>.no
 | .sh d=>.sh d
 | .nw d=>.sh d
 | .ow d=>.sh d
 | .oz d=>.sh d
 | .o2 l=>.sh (.lst (l.map .lst))
def dw.shut{K:zAA}{H:Hp}{lab:Lab}{i:Nat}{v:V}{x:Slot}(h:dw K H lab i v x):dw K H (λ _=>(0,0)) i v (shS x):=by
 cases x with
 |no=>exact trivial
 |sh d=>exact Rp.wk (λ _ _ _ _=>zAj _) h
 |nw d=>exact Rp.wk (λ _ _ _ _=>zAj _) h
 |ow d=>exact Rp.wk (λ _ _ _ _=>zAj _) h.1
 |oz d=>
  obtain⟨a,xs,ds,rfl,rfl,e3,e4,e5⟩:=h;exact .lst e3 (zAj _) (Rps.wk (λ p o e z=>⟨zAj _,λ ep=>by
   have z':(lab p).1<=1:=z;rw[ep,e4]at z';omega⟩) e5)
 |o2 l=>exact Rp.wk (λ _ _ _ _=>zAj _) (aCs h)
theorem RR.shut{K:zAA}{G:Gx}{U:List (V×D)}{Y:En}{Z:L2.St}{H:Hp}{lab:Lab}{E:XK}{cl:Str->Addr}(R:RR K G U Y Z H lab):RR K ⟨H,E,cl⟩ [] (Y.map shS) Z H (λ _=>(0,0)):=by
 refine⟨by rw[zAD];exact R.len,λ i s e=>?_,aO.refl H,λ p hp=>absurd rfl hp,λ q hq=>by cases hq⟩;rw[zAZ]at e;cases hr:Y[i]? with
 |none=>rw[hr]at e;cases e
 |some x=>
  rw[hr]at e;cases e;rcases R.sl i x hr with z|⟨v,e1,e2⟩
  .subst z;exact .inl rfl
  .exact .inr ⟨v,e1,e2.shut⟩
def aMo(cl:Str->Addr)(H1:Hp)(r:Rs D):Sp:=λ vs H Q E=>vs=[]/\aO H1 H/\WR ⟨H,E,cl⟩ r (λ _=>∀v H',aO H H'->Q v H')
def aDg(wn:Str->Option Str)(told:Str)(fe:En->Rs D):En->Rs D:=λ Y=>match fe (Y.map shS)with
 | .ok _=>.ok (.str told)
 | .ex c=>(match wn c with
  |some w=>.ok (.str w)
  |none=>.st)
 | .st=>.st
def aMc(P:zAS)(w:World)(K:zAA)(mg:Str->Option Value)(N:List Str)(q:Str)(params:zCs)(body:Expr)(scope:Scope)(k0:Nat)(told:Str)(wd:Addr->Option Str)(E:XK):TE:=λ Z H Q=>
 ∀(base:Heap) (cl:List (Str×Addr)) (f c':Addr) (ctv pm:Value) (H1:Hp),aO H H1->aBK q params body scope cl pm H1 f c' ctv->aHQ base N Z scope cl->spR P w K mg base k0 told wd [.ref f] H1 Q E
section
variable{C:Ct}{m:Mode}{x pc told q:Str}{p pos lpos:Pos}{k k0 kb:Nat}{fn:Addr}{fd:zAo}{wd:Addr->Option Str}{wn:Str->Option Str}{params:zCs}{body:Expr}{scope:Scope}{N:List Str}{fe:En->Rs D}
def aEz(hF:∀base,cg C.prog C.w C.K C.mg base (CX1 C.prog C.w) k fn fd [pc] (spR C.prog C.w C.K C.mg base k0 told wd))(hr:k<=C.k)(hm:C.mg x=some (.ref fn))(hk:zBZ C.K (.ref fn)=true)(hb:Binds C.K fd [pc] [])
  (hL:∀i,(∃P,su (C.X i) P)/\(C.X i).outer=[]/\(C.X i).N=N/\(C.X i).tq=q)(S:wA scope)(hcl:C.G.cl=aa C.mg)(hwn:∀c w,wn c=some w->wd (aa C.mg c)=some w)(hkb:kb+1<=k0)
  (hbody:∀base cl f cd A outer s H E hr,SE (ctL C.prog C.w C.K C.mg base N q scope cl f cd A outer s H E kb hr) m body fe)
  (hbnd:∀cl pm c' ctv,zHy (zFI "<lambda>" q params body scope cl pm (.ref c') ctv) ⟨[],[]⟩=pure []:=by intro _ _ _ _;rfl)(hdef:∀i,zIS params (C.X i).env=([],[]):=by intro _;rfl)
  (hfree:∀i,∀y∈scope.names,y.2= .free->(C.X i).env.kindOf y.1=some .cell\/(C.X i).env.kindOf y.1=some .free)(hdb:Nd x:=by decide)(hg:∀i,Gl (C.X i) x:=by intro _;rfl):
  SE C (some []) (.Call (.Name x p) [.Lambda params body scope lpos] [] pos) (aDg wn told fe):=by
 refine⟨aMc C.prog C.w C.K C.mg N q params body scope k0 told wd C.G.E,λ i=>?_,λ U Z H Y lab Q R W=>?_⟩
 .obtain⟨e1,e2,e3,e4,e5⟩:=C.cx i
  obtain⟨⟨P,Lx⟩,ho,eN,eq⟩:=hL i;intro hV s Z H Q I h;refine zBa (nJ I (hg i) (by rw[e4];exact hm) ?_ hdb);have ha:PA (C.X i) [.Lambda params body scope lpos] _:=aW (aLB Lx (hdef i) (hfree i)) cI;refine zEX (h₀:=(C.X i).base) I.ok.mod.kin (by rw[e3];exact hk) (thn (ha pos hV s Z H (λ vs H1=>aO H H1/\∃f c' ctv,vs=[.ref f]/\aBK (C.X i).tq params body scope (L2.aa scope (C.X i).env) (((C.X i).mg "__name__").getD .none) H1 f c' ctv) I
   (λ f c' ctv H' sm l=>⟨sm,f,c',ctv,rfl,l⟩)) λ us s1 ⟨vs,H1,I1,r,sm,f,c',ctv,ev,la⟩=>⟨I1.kIn,?_⟩)
  subst ev;have hz:=h (bse (C.X i) s1 H1) (L2.aa scope (C.X i).env) f c' ctv _ H1 sm (by rw[<-eq];exact la) (by rw[<-eN];exact aMM I1 ho S (hfree i));exact aHo (CX:=CX1 (C.X i).prog (C.X i).w) I1 (by rw[e1,e2,e3,e4];exact hF _) ((C.room i).mono hr) (by rw[e3];exact hb) (C.pass i) r (by rw[e1,e2,e3,e4]at*;exact hz)
 .intro base cl f c' ctv pm H1 sm la cp
  have R1:=R.up sm;have FL:cg C.prog C.w C.K C.mg base (CX1 C.prog C.w) (kb+1) f (zFI "<lambda>" q params body scope cl pm (.ref c') ctv) [] (aMo (aa C.mg) H1 (fe (Y.map shS))):=by
   refine aL9 la S cp (λ vs H Q E h=>⟨h.1,h.2.1⟩) λ A outer s H2 Q2 E2 hr2 hsp=>?_
   obtain⟨t,h1,h2⟩:=hbody base cl f (.ref c') A outer s H2 E2 hr2;exact⟨t,h1 (),h2 [] Z H2 _ _ Q2 (R1.up hsp.2.1).shut (hsp.2.2.imp λ d _ z v H' s' _=>z v H' s')⟩
  refine⟨f,_,_,_,_,kb+1,_,rfl,la.1,FL,hkb,λ s us _ hl=>?_,rfl,aO.refl H1,?_⟩
  .have e:us=[]:=by
    rw[zBB]at hl;exact zBP.mp hl
   subst e;exact .of_eq (hbnd cl pm c' ctv)
  .unfold aDg at W
   cases he:fe (Y.map shS)with
   |ok d=>rw[he]at W;exact λ v H' s'=>W (.str told) H' (sm.trans s') (.str told)
   |ex c=>
    rw[he]at W;cases hw:wn c with
    |none=>simp only[hw]at W;exact W.elim
    |some w=>
     simp only[hw]at W;exact λ H' s'=>⟨_,w,rfl,hwn c w hw,λ H'' s''=>W (.str w) H'' (sm.trans (s'.trans s'')) (.str w)⟩
   |st=>rw[he]at W;exact W.elim
end
end VL
namespace L2
open PySem PySem.Spec PyProof.Rows
def cxW(P:zAS)(w:World)(K:zAA)(mg:Str->Option Value)(base:Heap)(N:List Str)(qual:Str)(scope:Scope)(f:Addr)(cd:Value)(A:zA8)(s:zAB)(H:Hp)(Pt:Addr):Cx where
 prog:=P
 w:=w
 K:=K
 mg:=mg
 base:=base
 A:=A.deeper (zCc qual scope s.heap.objs.size f cd)
 N:=N
 z5:=s
 zI:=H
 env:=zCc qual scope s.heap.objs.size f cd
 outer:=[]
 stack:=[zCc qual scope s.heap.objs.size f cd]
 ex:=[Pt]
 calm:=true
 fn:=λ _=>true
 pn:=[]
 xe:=λ _ _=>False
 ta:=[(Pt,zCD #[])]
 tq:=qual++".<locals>."++"<lambda>"
section
variable{P:zAS}{w:World}{K:zAA}{mg:Str->Option Value}{base:Heap}{N ps:List Str}{qual:Str}{scope:Scope}{f Pt:Addr}{cd:Value}{A:zA8}{s s1:zAB}{H:Hp}{vs:List V}{us:List Value}
def aCJ(S:aZ N ps scope)(hd:A.handled=none)(e0:aBN P w K mg base A [] s H)(hl:vs.length=ps.length)(r:Vals vs us)
  (hP:s.heap.get? Pt=some (zCD #[]))(hH:H Pt=none)(hb:base.get? Pt=none)
  (x:InCallC s s.heap.objs.size (bindL (zCc qual scope s.heap.objs.size f cd).kindOf (ps.zip us) λ _=>none) (zCb (s.heap.objs.size+1) scope.names []) (bindC (zCc qual scope s.heap.objs.size f cd).kindOf (ps.zip us) λ _=>none) s1):
  Inv (cxW P w K mg base N qual scope f cd A s H Pt) [] (start N vs) H s1:=by
 have I:Inv (tQ (CX1 P w) P w K mg base N qual scope f cd A [] s H λ _ _ _=>False) [] (start N vs) H s1:=rF S hd e0 hl r x;obtain⟨h1,tk,e1,hk⟩:=x.done;have hlt:=zAW hP;have hne:∀b∈[Pt],b≠s.heap.objs.size:=λ b hb z=>by
  have e:b=Pt:=by simpa using hb
  rw[e]at z;exact absurd hlt (by rw[z];exact zAw _)
 refine⟨⟨I.ok.mod,I.ok.kind,I.ok.glob,I.ok.blt,I.ok.above,I.ok.inj,I.ok.has,I.ok.cab,I.ok.hd,I.ok.frames,I.ok.stk,λ b hb2=>⟨hne b hb2,λ y c e z=>?_⟩,I.ok.bs,I.ok.bsz,λ b o e hb'=>?_,λ b _=>λ z=>(nomatch z),I.ok.funs,I.ok.frf⟩,
  I.os,I.bare,I.base.mono (λ b z=>z) (λ b z=>(nomatch z)),I.loc,I.cell,I.free,I.freeC,I.pin,I.hok,I.len,λ p hp=>?_⟩
 .have q:s.heap.objs.size<=c:=I.ok.cab y c rfl e
  have e2:b=Pt:=by simpa using(show b∈[Pt]from hb2)
  rw[z,e2]at q;exact absurd hlt (zGI.mpr q)
 .have e2:b=Pt:=by simpa using(show b∈[Pt]from hb')
  have e3:base.get? b=some o:=e;rw[e2,hb]at e3;cases e3
 .have e2:p=(Pt,zCD #[]):=by simpa using(show p∈[(Pt,zCD #[])]from hp)
  subst e2;refine⟨hH,hne Pt zAG,λ z=>(nomatch z),λ q hq=>(nomatch hq),#[],?_,trivial,λ pos cv e=>nomatch e⟩;subst e1;exact hk _ _ hP
end
def aDx{P:zAS}{w:World}{K:zAA}{mg mb:Str->Option Value}{k:Nat}{fa a c Pt:Addr}{x:Str}{zD:zAB}{vs:List Value}{ns:List Int}{N:List Str}{oc doc pm ct dV kV:Value}{od:Option Addr}{osl:Array (Option Value)}{name qual:Str}{params:zCs}{body:List Stmt}{scope:Scope}{an:Option Addr}
  (KX:K.In zD.heap)(hns:zD.heap.Ns zA2 mg)(hb:zD.heap.Ns zIR mb)(hbb:∀x:Str,x≠"__name__"->mb x=zAv x)(bX:zD.heap.NoLimit)(hg:zD.gens=#[])
  (ha:zD.heap.get? a=some {cls:=.type "list",data:=.seq vs.toArray})(hi:zBf vs ns)(hl:ns.length<=zAK)(hr:dj (k+1) zCV)
  (hP:zD.heap.get? Pt=some (zCD #[]))(hKP:K.lookup Pt=none)(hC:zDe K c Pt=true)(hbl:zD.heap.BuiltinsAt mg Pt)
  (lk:K.lookup fa=some ⟨oc,od,.func (zB2 name qual params body scope dV kV doc pm an (.ref c) ct),osl⟩)(hcd:zCn K (.ref c) qual=true)(S:aZ N [x] scope)
  (hbind:∀(s:zAB) (u:Value),zGq s (zB2 name qual params body scope dV kV doc pm an (.ref c) ct) ⟨[u],[]⟩ [(x,u)])
  (hbody:∀(base:Heap) (s:zAB) (H:Hp),dj k (zCV.deeper (zCc qual scope s.heap.objs.size fa (.ref c)))->su (cxW P w K mg base N qual scope fa (.ref c) zCV s H Pt) Pt->Only H->SqL K H a (ns.map V.int)->
   ∃t,PSs (cxW P w K mg base N qual scope fa (.ref c) zCV s H Pt) body t/\t {nx:=λ _ _=>False,rt:=λ v _=>v= .bl true} (start N [.ref a]) H):
  zCW (model P w) zCV (.call (.ref fa) ⟨[.ref a],[]⟩) (λ r s'=>r= .ok (.ret (.bool true))/\OldK zD.heap s'.heap/\s'.os=zD.os/\zE3 s'.gens) zD:=by
 have rv:=wW hi;have lenV:=hi.length;have aP:a≠Pt:=λ z=>by
  rw[z,hP]at ha;have e2:=congrArg Obj.cls (zAe ha);cases e2
 have core:∀H:Hp,Only H->SqL K H a (ns.map V.int)->HOk P w H zD.heap->(∀b,H b≠none->b=a)->(H a≠none->K.lookup a=none)->
   zCW (model P w) zCV (.call (.ref fa) ⟨[.ref a],[]⟩) (λ r s'=>r= .ok (.ret (.bool true))/\OldK zD.heap s'.heap/\s'.os=zD.os/\zE3 s'.gens) zD:=by
  intro H hO hS hok hA hK;have hPn:H Pt=none:=by
   cases q:H Pt with
   |none=>rfl
   |some u=>exact absurd (hA Pt (by rw[q];simp)).symm aP
  let B:=zBb (aGa zD.heap H) [Pt];have base_of:∀{b:Addr} {o:Obj},zD.heap.get? b=some o->H b=none->b≠Pt->B.get? b=some o:=λ e n ne=>zBx _ (aG9 e n) (by simpa using ne)
  have noA:∀{b:Addr} {o:Obj} {es:Array DictEntry} {ep:Nat},zD.heap.get? b=some o->o.data= .dict es ep->H b=none/\b≠Pt:=λ{b o es ep} e d=>by
   refine⟨?_,λ z=>?_⟩
   .cases q:H b with
    |none=>rfl
    |some u=>
     have e':b=a:=hA b (by rw[q];simp);subst e';rw[ha]at e;cases e;have d':zHq vs.toArray _=Data.dict es ep:=d;cases d'
   .rw[z,hP]at e
    cases e;cases d
  have nsK:∀{b:Addr} {m:Str->Option Value},zD.heap.Ns b m->B.Ns b m:=λ{b m} ⟨o,es,ep,e,d,r⟩=>⟨o,es,ep,base_of e (noA e d).1 (noA e d).2,d,r⟩
  have hKb:K.In B:=λ b o e=>base_of (KX b o e) (by
   cases q:H b with
   |none=>rfl
   |some u=>
    have e':b=a:=hA b (by rw[q];simp);subst e';rw[hK (by rw[q];simp)]at e;cases e) (λ z=>by rw[z,hKP]at e;cases e)
  have hM:Mod K mg B:=⟨hKb,nsK hns,⟨mb,nsK hb,hbb⟩,let⟨mc,h1,h2⟩:=bX;⟨mc,nsK h1,h2⟩⟩;have e0:aBN P w K mg B zCV [] zD H:=⟨rfl,hM,λ b o e=>aI6 (zDU _ e),zEx ((zDu _ _).trans (aEH _ _)),trivial,λ b hb=>absurd (show b∈([]:List Addr)from hb) (by simp),hok,.of_eq hg⟩;have gP:zA2≠Pt:=by
   obtain⟨o,es,ep,e,d,_⟩:=hns;exact(noA e d).2
  have hLx:su (cxW P w K mg B N qual scope fa (.ref c) zCV zD H Pt) Pt:=by
   refine⟨⟨_,rfl⟩,zAG,rfl,⟨c,rfl,zGO hKb hC⟩,?_,gP⟩;obtain⟨bm,o,b1,b2,b3,b4,b5,b6,b7,b8⟩:=hbl;refine⟨bm,o,b1,b2,b3,b4,base_of b5 ?_ b4,b6,b7,b8⟩;cases q:H bm with
   |none=>rfl
   |some u=>
    have e':bm=a:=hA bm (by rw[q];simp);rw[e',ha]at b5;cases b5;cases b8
  have b9:∀y∈[x].zip [zAu a],scope.names.lookup y.1=some .local\/(scope.names.lookup y.1=some .cell/\((zCb (zD.heap.objs.size+1) scope.names []).lookup y.1).isSome=true):=λ⟨n,v⟩ hy=>by
   rcases S.par n (zDT hy).1 with q|q
   .exact .inl q
   .exact .inr ⟨q,zCj _ _ _ (.inl q)⟩
  refine zE9 hr.depth (KX _ _ lk) rfl S.co S.gen rfl (zEY KX hcd) (hbind zD (.ref a) _ _ _ _ ?_);refine zDh S.kind b9 λ env he s1 x'=>?_
  subst he;refine⟨bX.keeps x'.toInCall.keep,zH5 ?_⟩;obtain⟨t,ht,hq⟩:=hbody B zD H (hr.deeper _) hLx hO hS;have I:Inv (cxW P w K mg B N qual scope fa (.ref c) zCV zD H Pt) [] (start N [.ref a]) H s1:=aCJ (ps:=[x]) (us:=[.ref a]) S hr.hd e0 rfl (.cons rfl .nil) hP hPn (zDt _ zAG) x';refine zBC (ht [] s1 (start N [.ref a]) H _ I hq) (λ fl s' hs=>?_) λ e s' hs=>hs.elim
  cases fl with
  |next=>obtain⟨_,_,_,q⟩:=hs;exact q.elim
  |brk=>obtain⟨_,_,_,q⟩:=hs;exact q.elim
  |cont=>obtain⟨_,_,_,q⟩:=hs;exact q.elim
  |ret u=>
   obtain⟨v,Z',H',J,rv',q⟩:=hs;have q':v= .bl true:=q;subst q';obtain rfl:u=zCU true:=rv';obtain⟨_,_,_,_,ps,hps,_⟩:=J.tab (Pt,zCD #[]) zAG;have all:∀b o,zD.heap.get? b=some o->b≠Pt->s'.heap.get? b=some o:=λ b o e ne=>by
    cases q:H b with
    |none=>exact J.base.keep b o e q (λ z=>(nomatch z)) (by simpa[cxW]using ne)
    |some u=>
     rcases hO b with z|⟨ob,xs,z⟩
     .rw[q]at z;cases z
     .have z2:=J.base.frzs b ob _ z
      obtain⟨e1,_⟩:=hok b _ z;obtain⟨e2,_⟩:=J.hok b _ z2;rw[e]at e1;cases e1;exact e2
   refine⟨rfl,⟨λ b o e=>?_,λ b o e=>?_⟩,J.os,J.bare⟩
   .by_cases hbP:b=Pt
    .subst hbP
     rw[hP]at e;cases e;obtain⟨⟨o1,vs1,f1,f2,f3,f4⟩,_⟩:=(zGO KX hC).tab hP;exact .inr (.inl ⟨⟨c,o1,vs1,f1,f2,f3,f4⟩,rfl,#[],ps,rfl,by simpa using hps⟩)
    .exact .inl (all b o e hbP)
   .by_cases hbP:b=Pt
    .subst hbP;exact⟨_,hps⟩
    .exact⟨o,all b o e hbP⟩
 cases hk:K.lookup a with
 |some o=>
  have e:=KX a o hk;rw[ha]at e;cases e;refine core (λ _=>none) (λ _=>.inl rfl) (.inr ⟨_,vs.toArray,_,hk,rfl,rfl,rfl,by rw[zAM,lenV];exact hl,by simpa using rv⟩) (λ b u z=>by have z':(none:Option HO)=some u:=z;cases z') (λ b z=>absurd rfl z) λ z=>absurd rfl z
 |none=>
  refine core (λ b=>if b=a then some (.frz {cls:=.type "list",data:=.seq vs.toArray} (.lst (ns.map V.int)))else none) (λ b=>?_) (.inl (.inr ⟨{cls:=.type "list",data:=.seq vs.toArray},if_pos rfl⟩)) (λ b u z=>?_) (λ b z=>?_) λ _=>hk
  .by_cases hb:b=a
   .exact .inr ⟨_,_,if_pos hb⟩
   .exact .inl (if_neg hb)
  .by_cases hb:b=a
   .have z':=(if_pos hb).symm.trans z
    cases z';subst hb;exact⟨ha,by rw[zAD];exact hl,vs,_,rv,ha⟩
   .have z':=(if_neg hb).symm.trans z
    cases z'
  .by_cases hb:b=a
   .exact hb
   .exact absurd (if_neg hb) z
end L2
namespace VL
open PySem PySem.Spec PyProof.Rows L2
abbrev ctW(P:zAS)(w:World)(K:zAA)(mg:Str->Option Value)(base:Heap)(N:List Str)(q:Str)(sc:Scope)(f:Addr)(cdv:Value)(A:zA8)(s:zAB)(H:Hp)(Pt:Addr)(k:Nat)(hr:dj k (A.deeper (zCc q sc s.heap.objs.size f cdv))):Ct where
 ι:=Unit
 X:=λ _=>cxW P w K mg base N q sc f cdv A s H Pt
 prog:=P
 w:=w
 K:=K
 mg:=mg
 base:=base
 k:=k
 G:=⟨H,λ _ _ _=>False,aa mg⟩
 cx:=λ _=>⟨rfl,rfl,rfl,rfl,rfl⟩
 calm:=λ _=>rfl
 room:=λ _=>hr
 own:=λ _=>λ _ _ h=>zAF h
 pass:=λ _=>λ _ _ _ _ _ _ _ ⟨_,_,_,_,_,_,_,_,_,_,_,_,_,z⟩=>z
 dOk:=false
 dcx:=λ z=>nomatch z
def aGM{P:zAS}{w:World}{K:zAA}{mg:Str->Option Value}{base:Heap}{N:List Str}{q:Str}{sc:Scope}{fa a Pt:Addr}{cdv:Value}{A:zA8}{s:zAB}{H:Hp}{k:Nat}{hr:dj k (A.deeper (zCc q sc s.heap.objs.size fa cdv))}{body:List Stmt}{f:En->Ou}{ns:List Int}
  (hb:SSs (ctW P w K mg base N q sc fa cdv A s H Pt k hr) body f)(e:fG N.length f [.scr ns]= .ok (.bl true))(r:Rps K (λ _=>True) H [.ref a] [.scr ns]):
  ∃t,PSs (cxW P w K mg base N q sc fa cdv A s H Pt) body t/\t {nx:=λ _ _=>False,rt:=λ v _=>v= .bl true} (start N [.ref a]) H:=by
 obtain⟨t,h1,h2⟩:=hb;refine⟨t,h1 (),h2 [] _ H _ _ _ (RR.start r) ?_⟩;unfold fG at e;cases ef:f (ao N.length [.scr ns])with
 |nx Y=>rw[ef]at e;cases e
 |rt d=>rw[ef]at e;cases e;exact λ v H' s r=>r.bl_inv
 |ex c=>rw[ef]at e;cases e
 |bk Y=>rw[ef]at e;cases e
 |ct Y=>rw[ef]at e;cases e
 |st=>rw[ef]at e;cases e
def aBf{P:zAS}{w:World}{K:zAA}{mg:Str->Option Value}{base:Heap}{x q n0 n1 n2 few cn pe told:Str}{st:Stmt}{f fc C':Addr}{fd fdc:zAo}{kc k0:Nat}{wd:Addr->Option Str}{p1 p2 p3 p4 p5 p6 p7 p8 p9 p10 p11 p12 p13 p14 p15 p16:Pos}{j1:Nat}
  (F:L2.Fun K x q st f fd)(S:aZ [n0,n1,n2] [n0] (aF st))(hst:cN st=[.Assign [.Name n1 p1] (.Constant (.str told) j1 p2) p3,.Try [.Expr (.Call (.Name n0 p4) [] [] p5) p6] [.ExceptHandler (some (.Name few p7)) (some n2) [.Assign [.Name n1 p8] (.Call (.Name cn p9) [.Name n2 p10] [] p11) p12] p13] [] [] p14,.Return (some (.Name n1 p15)) p16])
  (l0:(aF st).names.lookup n0=some .local)(l1:(aF st).names.lookup n1=some .local)(l2:(aF st).names.lookup n2=some .local)(g1:(aF st).names.lookup few=some .globalImplicit)(g2:(aF st).names.lookup cn=some .globalImplicit)
  (hm:mg few=some (.ref C'))(hC':bu K C')(FC:FnH P w K mg base kc fc fdc [pe] (spW wd))(hmc:mg cn=some (.ref fc))(hkc:zBZ K (.ref fc)=true)(hbc:Binds K fdc [pe] [])(hkk:kc<=k0)(hw:∀C w,wd C=some w->bu K C/\rN K C C'=true)
  (d1:Nd few:=by decide)(d2:Nd cn:=by decide)(d3:Nd n0:=by decide)(d4:Nd n1:=by decide)(d5:Nd n2:=by decide)
  (d6:(n0==("__classdict__":Str))=false:=by decide)(d7:(n1==("__classdict__":Str))=false:=by decide)(d8:(n2==("__classdict__":Str))=false:=by decide):
  cg P w K mg base (CX1 P w) (k0+1) f fd [n0] (spR P w K mg base k0 told wd):=by
 refine F.okX S (λ vs H Q E ⟨_,_,_,_,_,_,_,e,_⟩=>by rw[e];rfl) λ cdv A outer s H vs Q E hr hsp=>?_
 rw[hst];exact aFN (X:=tQ (CX1 P w) P w K mg base [n0,n1,n2] q (aF st) f cdv A outer s H E) cj.of rfl rfl S.nd l0 l1 l2 (λ _=>rfl) hm g1 hC' FC g2 hmc hkc hbc hr hkk hw hsp d1 d2 d3 d4 d5 d6 d7 d8
end VL
namespace L2
open PySem PySem.Spec PyProof.Rows
def fK{X:Cx}{n0:Str}{e:Expr}{c:V}{p p' pos:Pos}(hN:X.N[0]? =some n0)(hv:X.env.scope.names.lookup n0=some .local)(hg:Gl X "isinstance")(hm:X.mg "isinstance"=none)(hc:PE X e (tC c))(hse:zAY [e] X.env=(false,eval e X.env)::zAY [] X.env:=by rfl)
  (hpl:(zCE pos (zAY [e] X.env)).any (·.1)=false:=by rfl)(d:Nd n0:=by decide)(d':(n0==("__classdict__":Str))=false:=by decide):PE X (.Call (.Name "isinstance" p) [.Name n0 p',e] [] pos) (aBY X.K c):=
 ur aEV hg hm rfl (aW (cu hN (.inl hv) d d') (aW hc cI hse)) (hpl:=hpl)
section
variable{P:zAS}{w:World}{K:zAA}{mg:Str->Option Value}{base:Heap}{x q n0 n1 n2 odd:Str}{st:Stmt}{f:Addr}{fd:zAo}{k:Nat}{wd:Addr->Option Str}{c1 c2:V}{k1 k2 k3 k4:List V}{l1 l2:List Str}{a1 a2:Expr}{as1 as2 e1 e2 e3 e4 w1 w2:List Expr}{kw1 kw2:List zBw}
 {p1 p2 p3 p4 p5 p6 p7 p8 p9 p10 p11 p12 p13 p14 p15 p16 p17 p18 p19 p20 p21 p22 p23 p24 p25 p26 p27 p28 p29 p30 p31 p32 p33 p34 p35 p36 p37 p38 p39 p40:Pos}{q1 q2 q3 q4 q5 q6 q7:Pos}{j1 j2 j3 j4 j5:Nat}
end
structure aDZ(P:zAS)(w:World)(K:zAA)(mg:Str->Option Value)(fa Pt:Addr)(k n:Nat):Prop where
 ex:∃(x name qual:Str) (params:zCs) (body:List Stmt) (scope:Scope) (dV kV doc pm ct oc:Value) (an od:Option Addr) (c:Addr) (osl:Array (Option Value)) (N:List Str),
  K.lookup Pt=none/\zDe K c Pt=true/\K.lookup fa=some ⟨oc,od,.func (zB2 name qual params body scope dV kV doc pm an (.ref c) ct),osl⟩/\zCn K (.ref c) qual=true/\aZ N [x] scope/\
  (∀(s:zAB) (u:Value),zGq s (zB2 name qual params body scope dV kV doc pm an (.ref c) ct) ⟨[u],[]⟩ [(x,u)])/\
  ∀(a:Addr) (ns:List Int),ns.length<=n->∀(base:Heap) (s:zAB) (H:Hp),dj k (zCV.deeper (zCc qual scope s.heap.objs.size fa (.ref c)))->su (cxW P w K mg base N qual scope fa (.ref c) zCV s H Pt) Pt->Only H->SqL K H a (ns.map V.int)->
   ∃t,PSs (cxW P w K mg base N qual scope fa (.ref c) zCV s H Pt) body t/\t {nx:=λ _ _=>False,rt:=λ v _=>v= .bl true} (start N [.ref a]) H
def aE6{l:zEq}{n k:Nat}{q:zAS}{loose:List Str}{XP:(Str->Option Value)->Heap->Prop}{YP:World->Heap->Prop}{d:DefRec}{K:Params->zAA}{Pt:Addr}
  (hn:l.most=some n)(hn2:n<=zAK)(hdf:d.params.defaults=[])(hr:dj (k+1) zCV)
  (hY:∀(w:World) (h:Heap),YP w h->(K w.params).In h/\h.get? Pt=some (zCD #[]))
  (F:∀(w:World) (mg:Str->Option Value) (fa:Addr) (h:Heap),(K w.params).In h->h.Ns zA2 mg->mg d.name=some (.ref fa)->aDZ l.prog w (K w.params) mg fa Pt k n):
  zH4 q loose XP YP l.row.toRowW d [] (λ f vs=>zHC f vs):=by
 refine Att.aBF hn hdf λ w z5 zD mg mb fa o pm cd doc a vs ns G Y ho hd hcd hmg hobj hints hW hg=>?_
 obtain⟨KX,hP⟩:=hY w _ Y;obtain⟨x,name,qual,params,body,scope,dV,kV,doc,pm,ct,oc,an,od,c,osl,N,h1,h2,h3,h4,h5,h6,h7⟩:=(F w mg fa _ KX G.T.g hmg).ex;have hbl:zD.heap.BuiltinsAt mg Pt:=by
  obtain⟨bm,ob,b1,b2,b3,b4,b5,b6⟩:=G.T.bmain;refine⟨bm,ob,b1,b2,λ z=>?_,λ z=>?_,b3,b4,b5,b6⟩
  .obtain⟨o,es,ep,e,hd,_⟩:=G.T.g
   rw[z,e]at b3;cases b3;rw[hd]at b6;cases b6
  .rw[z,hP]at b3;cases b3;cases b4
 exact aDx KX G.T.g G.T.b G.T.builtins G.T.nolimit hg hobj hints (zAh hW hn2) hr hP h1 h2 hbl h3 h4 h5 h6 λ base s H r1 r2 r3 r4=>h7 a ns hW base s H r1 r2 r3 r4
def clB(K:zAA)(few C:Addr):Bool:=zF4 K C [.type "ValueError",.type "Exception",.type "BaseException",.type "object"] "ValueError.__new__"&&decide (zBA K (.ref C) "__class__"=some (some (.builtin "object.__class__")))&&decide (zBA K (.ref C) "__getattribute__"=some (some (.builtin "BaseException.__getattribute__")))&&decide (zBA K (.ref C) "__getattr__"=some none)&&decide (zB9 K (.ref C) (.ref few)=some true)&&decide (zB9 K (.ref C) (.type "ValueError")=some true)&&rN K C few
def aCT(K:zAA)(few:Addr)(cs:List Addr):Bool:=(zA1 cs.length).all λ j=>match cs[j]? with
 |none=>true
 |some C=>clB K few C&&(zA1 cs.length).all λ i=>match cs[i]? with
  |none=>true
  |some c=>decide (zB9 K (.ref C) (.ref c)=some (i==j))
theorem lookup_at{C:Addr}{w:Str}:∀{cs:List Addr} {ws:List Str},(cs.zip ws).lookup C=some w->∃j:Nat,cs[j]? =some C/\ws[j]? =some w
 |[],_,h=>by cases h
 |_::_,[],h=>by cases h
 |c::cs,x::ws,h=>by
  rw[zBI,zAb]at h;by_cases e:C==c
  .simp only[e]at h
   cases h;exact⟨0,by rw[zDO e];rfl,rfl⟩
  .simp only[e]at h
   obtain⟨j,h1,h2⟩:=lookup_at h;exact⟨j+1,h1,h2⟩
def aJ9{K:zAA}{few c0 c1 c2 c3 c4 c5 c6 c7 c8 c9 c10 c11:Addr}{ws:List Str}(h:aCT K few [c0,c1,c2,c3,c4,c5,c6,c7,c8,c9,c10,c11]=true){C:Addr}{w:Str}(hw:([c0,c1,c2,c3,c4,c5,c6,c7,c8,c9,c10,c11].zip ws).lookup C=some w):
  Wd K (.ref few) (.ty "ValueError") [[.ref c0,.ref c1,.ref c2],[.ref c3,.ref c4,.ref c5],[.ref c6,.ref c7,.ref c8],[.ref c9,.ref c10,.ref c11]] ws C w/\bu K C/\rN K C few=true:=by
 obtain⟨j,h1,h2⟩:=lookup_at hw;have hj:j<12:=(zAJ.mp h1).1;have h3:=zAm.mp h j (zAn.mpr hj);simp only[h1,zAC]at h3;obtain⟨h4,h5⟩:=h3;have F:∀(i:Nat) c,[c0,c1,c2,c3,c4,c5,c6,c7,c8,c9,c10,c11][i]? =some c->Kt K C (.ref c) (i==j):=λ i c e=>by
  have h6:=zAm.mp h5 i (zAn.mpr (zAJ.mp e).1);simp only[e]at h6;exact⟨_,rfl,of_decide_eq_true h6⟩
 unfold clB at h4;simp only[zAC,decide_eq_true_eq]at h4;obtain⟨⟨⟨⟨⟨⟨q1,q2⟩,q3⟩,q4⟩,q5⟩,q6⟩,q7⟩:=h4;refine⟨⟨⟨q1,q2,q3,q4⟩,⟨_,rfl,q5⟩,⟨_,rfl,q6⟩,[0==j,1==j,2==j],[3==j,4==j,5==j],[6==j,7==j,8==j],[9==j,10==j,11==j],j,_,_,_,_,rfl,.cons (F 0 c0 rfl) (.cons (F 1 c1 rfl) (.cons (F 2 c2 rfl) .nil)),.cons (F 3 c3 rfl) (.cons (F 4 c4 rfl) (.cons (F 5 c5 rfl) .nil)),
  .cons (F 6 c6 rfl) (.cons (F 7 c7 rfl) (.cons (F 8 c8 rfl) .nil)),.cons (F 9 c9 rfl) (.cons (F 10 c10 rfl) (.cons (F 11 c11 rfl) .nil)),by simp,?_,?_,?_,h2⟩,q1,q7⟩
 .exact(by decide:∀j,j<12->([0==j,1==j,2==j]++[3==j,4==j,5==j]++[6==j,7==j,8==j]++[9==j,10==j,11==j]).count true=1) j hj
 .exact(by decide:∀j,j<12->([0==j,1==j,2==j]++[3==j,4==j,5==j]++[6==j,7==j,8==j]++[9==j,10==j,11==j])[j]? =some true) j hj
 .exact λ m hm=>(by decide:∀j,j<12->∀m,m<j->([0==j,1==j,2==j]++[3==j,4==j,5==j]++[6==j,7==j,8==j]++[9==j,10==j,11==j])[m]? =some false) j hj m hm
def aAb{scope sc:Scope}(h:∀y∈scope.names,y.2= .free->sc.names.lookup y.1=some .cell\/sc.names.lookup y.1=some .free):∀y∈scope.names,y.2= .free->sc.names.lookup y.1=some .cell\/sc.names.lookup y.1=some .free:=h
def aBB{K:zAA}{few:Addr}{cs:List Addr}(h:aCT K few cs=true){i j:Nat}{C c:Addr}(hj:cs[j]? =some C)(hi:cs[i]? =some c):zB9 K (.ref C) (.ref c)=some (i==j):=by
 have h3:=zAm.mp h j (zAn.mpr (zAJ.mp hj).1);simp only[hj,zAC]at h3;have h6:=zAm.mp h3.2 i (zAn.mpr (zAJ.mp hi).1);simp only[hi]at h6;exact of_decide_eq_true h6
def aJT{K:zAA}{few:Addr}{cs:List Addr}(h:aCT K few cs=true){i j:Nat}{C:Addr}(hj:cs[j]? =some C)(hi:cs[i]? =some C):i=j:=by
 have a:=aBB h hj hi;have b:=aBB h hj hj;rw[a]at b;have e:=zAe b;rw[beq_self_eq_true]at e;exact zDO e
theorem vC{C:Addr}{w:Str}:∀{cs:List Addr} {ws:List Str} {j:Nat},(∀i:Nat,cs[i]? =some C->i=j)->cs[j]? =some C->ws[j]? =some w->(cs.zip ws).lookup C=some w
 |[],_,_,_,h,_=>by simp at h
 |_::_,[],_,_,_,h=>by simp at h
 |c::cs,x::ws,j,u,h1,h2=>by
  rw[zBI,zAb];by_cases e:C==c
  .have e0:0=j:=u 0 (by rw[zDO e];rfl)
   subst e0;simp only[e];simpa using h2
  .simp only[e]
   cases j with
   |zero=>
    have e1:c=C:=by simpa using h1
    rw[e1]at e;simp at e
   |succ j=>exact vC (j:=j) (λ i hi=>zFm (u (i+1) hi)) h1 h2
def aM9{K:zAA}{few:Addr}{cs:List Addr}{ws:List Str}(h:aCT K few cs=true){j:Nat}{C:Addr}{w:Str}(h1:cs[j]? =some C)(h2:ws[j]? =some w):(cs.zip ws).lookup C=some w:=vC (λ i hi=>aJT h h1 hi) h1 h2
end L2
namespace VL
open PySem PySem.Spec PyProof.Rows L2
def aM8{K:zAA}{mg:Str->Option Value}{few c0 c1 c2 c3 c4 c5 c6 c7 c8 c9 c10 c11:Addr}{ws:List Str}{ns:List Str}(h:aCT K few [c0,c1,c2,c3,c4,c5,c6,c7,c8,c9,c10,c11]=true)
  (hl:ns.map (VL.aa mg)=[c0,c1,c2,c3,c4,c5,c6,c7,c8,c9,c10,c11]):∀c w,(ns.zip ws).lookup c=some w->([c0,c1,c2,c3,c4,c5,c6,c7,c8,c9,c10,c11].zip ws).lookup (VL.aa mg c)=some w:=λ c w e=>by
 have go:∀(ns:List Str) (ws:List Str),(ns.zip ws).lookup c=some w->∃j:Nat,ns[j]? =some c/\ws[j]? =some w:=by
  intro ns;induction ns with
  |nil=>intro ws h;cases h
  |cons x ns ih=>
   intro ws h;cases ws with
   |nil=>cases h
   |cons y ws=>
    rw[zBI,zAb]at h;by_cases e:c==x
    .simp only[e]at h
     cases h;exact⟨0,by rw[zDO e];rfl,rfl⟩
    .simp only[e]at h
     obtain⟨j,h1,h2⟩:=ih ws h;exact⟨j+1,h1,h2⟩
 obtain⟨j,h1,h2⟩:=go ns ws e;refine aM9 h (j:=j) ?_ h2;rw[<-hl,zAZ,h1];rfl
inductive aCX(h:Heap):List Value->List (List Int)->Prop where
 |nil:aCX h [] []
 |cons {x:Addr} {o:Obj} {xs:Array Value} {k:Nat} {ns:List Int} {vs:List Value} {nss:List (List Int)} (ho:h.get? x=some o) (hc:o.cls= .type "tuple") (hd:o.data= .seq xs k) (hi:zBf xs.toList ns) (hne:ns≠[]) (r:aCX h vs nss):aCX h (.ref x::vs) (ns::nss)
def Ris(xs:Array Nat):Prop:=∀i j,i<j->j<xs.size->xs.getD i 0<xs.getD j 0
structure TbOk(t:zGJ)(n:Nat):Prop where
 dum:t.dummies=#[]
 siz:t.place.size=n
 ris:Ris t.place
 top:∀i,i<n->t.place.getD i 0<=t.mask
 msk:t.mask=7/\n<5\/t.mask=31/\n<19\/t.mask=127/\n<77
 pla:t.plain=true
structure TbPut(t:zGJ)(n:Nat):Prop where
 dum:t.dummies=#[]
 siz:t.place.size=n
 ris:Ris t.place
 top:∀i,i<n->t.place.getD i 0<=t.mask
 msk:t.mask=7/\n<=5\/t.mask=31/\n<=19\/t.mask=127/\n<77
 pla:t.plain=true
structure TupAt(h:Heap)(x:Addr)(ns:List Int):Prop where
 ex:∃o xs k,h.get? x=some o/\o.cls= .type "tuple"/\o.data= .seq xs k/\zBf xs.toList ns
end VL
namespace PySem
end PySem
namespace VL
open PySem PySem.Spec PyProof.Rows L2
inductive aHK(K:zAA)(H:Hp):List V->List (List Int)->Prop where
 |nil:aHK K H [] []
 |cons {a:Addr} {ns:List Int} {vs:List V} {nss:List (List Int)} (h:SqT K H a (ns.map V.int)) (hne:ns≠[]) (r:aHK K H vs nss):aHK K H (.ref a::vs) (ns::nss)
abbrev tupI(ns:List Int):D:=.tup (ns.map .int)
structure Mg{β:Type}(r:β->β->Prop)(T out ra rb:List β):Prop where
 pm:(out++(ra++rb)).Perm T
 so:out.Pairwise r
 lo:∀x∈out,∀y∈ra++rb,r x y
 sa:ra.Pairwise r
 sb:rb.Pairwise r
section
variable{β:Type}{r:β->β->Prop}{T:List β}
def Mf(r:β->β->Prop)(T o:List β):Prop:=o.Perm T/\o.Pairwise r
end
structure Eg(st st':zDE):Prop where
 k:zDF st'=zDF st
 a:arrOf st'=arrOf st
 p:zGT st'=zGT st
 f:zHE st'=zHE st
abbrev LS:=Option (Array Keyed)×Array Keyed×Nat×Nat×Nat×Nat×Nat
section
variable{O:zC6}{kf:Keyed->O.α}{T:List Keyed}{a b out:Array Keyed}{ia ib mg ac bc m0:Nat}{st:zDE}{Q:ForInStep LS->zDE->Prop}
abbrev rK(O:zC6)(kf:Keyed->O.α)(x y:Keyed):Prop:=O.kle (kf x) (kf y)
abbrev Ml(O:zC6)(kf:Keyed->O.α)(T:List Keyed)(a b out:Array Keyed)(ia ib:Nat):Prop:=Mg (rK O kf) T out.toList (a.toList.drop ia) (b.toList.drop ib)
structure Tu(O:zC6)(kf:Keyed->O.α)(T:List Keyed)(a b:Array Keyed)(m0:Nat)(st:zDE)(Q:ForInStep LS->zDE->Prop):Prop where
 ret:∀o out ia ib mg ac bc st',Eg st st'->Mf (rK O kf) T o.toList->Q (.done (some o,out,ia,ib,mg,ac,bc)) st'
 on:∀out ia ib mg ac bc st',Eg st st'->Ml O kf T a b out ia ib->ia+1<a.size->ib<b.size->m0<ia+ib->Q (.done (none,out,ia,ib,mg,ac,bc)) st'/\Q (.yield (none,out,ia,ib,mg,ac,bc)) st'
end
abbrev HS:=Option (Array Keyed)×Nat×Nat×Array Keyed×Nat×Nat×Nat
section
variable{O:zC6}{kf:Keyed->O.α}{T:List Keyed}{a b out:Array Keyed}{na nb mg ac bc m0:Nat}{st:zDE}{Q:ForInStep HS->zDE->Prop}
abbrev rH(O:zC6)(kf:Keyed->O.α)(x y:Keyed):Prop:=O.kle (kf y) (kf x)
abbrev Mh(O:zC6)(kf:Keyed->O.α)(T:List Keyed)(a b out:Array Keyed)(na nb:Nat):Prop:=Mg (rH O kf) T out.toList (a.toList.take na).reverse (b.toList.take nb).reverse
structure Th(O:zC6)(kf:Keyed->O.α)(T:List Keyed)(a b:Array Keyed)(m0:Nat)(st:zDE)(Q:ForInStep HS->zDE->Prop):Prop where
 ret:∀o na nb out mg ac bc st',Eg st st'->Mf (rK O kf) T o.toList->Q (.done (some o,na,nb,out,mg,ac,bc)) st'
 on:∀na nb out mg ac bc st',Eg st st'->Mh O kf T a b out na nb->0<na->1<nb->na<=a.size->nb<=b.size->na+nb<m0->Q (.done (none,na,nb,out,mg,ac,bc)) st'/\Q (.yield (none,na,nb,out,mg,ac,bc)) st'
end
structure Ea(st st':zDE):Prop where
 k:zDF st'=zDF st
 p:zGT st'=zGT st
 f:zHE st'=zHE st
section
variable{κ:zDL}{G:Keyed->Prop}{st:zDE}{P R:List Keyed}{lo:Nat}
structure Sg(κ:zDL)(G:Keyed->Prop)(st:zDE)(lo:Nat)(P R:List Keyed):Prop where
 k:zDF st=κ
 l:(arrOf st).toList=P++R
 p:P.length=lo
 g:∀x∈R,G x
end
def Pr(O:zC6)(kf:Keyed->O.α):Nat->List (List Keyed)->List (Nat×Nat×Nat)->Prop
 |_,[],[]=>True
 |o,x::segs,p::ps=>p.1=o/\p.2.1=x.length/\0<x.length/\x.Pairwise (rK O kf)/\Pr O kf (o+x.length) segs ps
 |_,_,_=>False
section
variable{κ:zDL}{O:zC6}{kf:Keyed->O.α}{st:zDE}{T R:List Keyed}{segs:List (List Keyed)}
structure Rn(κ:zDL)(O:zC6)(kf:Keyed->O.α)(T:List Keyed)(st:zDE)(segs:List (List Keyed))(R:List Keyed):Prop where
 k:zDF st=κ
 f:zHE st=none
 l:(arrOf st).toList=segs.flatten++R
 pm:(arrOf st).toList.Perm T
 pr:Pr O kf 0 segs (zGT st).toList
end
section
variable{K:zAA}{G:Gx}{wi:TI}{fi:En->Rs (List D)}{g:TG}{fg:D->En->Rs En}{tt:TT}
def aK2(hi:aJ2 K G wi fi)(hg:aJ3 K {G with E:=λ _ _ _=>False} g fg)(hfg:∀d,∃Y1,fg d [.no]= .ok Y1)(ht:aCY K {G with E:=λ _ _ _=>False} tt jG)(R:RR K G U Y Z H lab)
  (W:WR G (fi (shE Y)) (λ ds=>ds.length<zAK/\∀(l:Addr) (as:List Addr) H',aO H H'->H l=none->H' l=some (.lst (as.map V.ref))->(l::as).Nodup->as.length=ds.length->(∀a∈as,H a=none/\H' a=some (.lst []))->Q (.ref l) H')):
  tLC wi (stV [none]) g tt (aEg nU) Z H Q:=by
 refine hi U Z H _ _ _ R.shE (W.imp λ ds _ w J H1 lab1 U1 s1 _ R1 jl=>?_);obtain⟨hW,w⟩:=w;intro l hl;have hHl:H l=none:=s1.free hl;have nl:∀p o,H1 p=some o->p≠l:=λ p o e z=>by subst z;rw[hl]at e;cases e
 have RB:RR K {G with E:=λ _ _ _=>False} (U1++U) [.no] (stV [none] Z) H1 (λ p=>if p=l then(2,0)else(0,0)):=by
  refine⟨rfl,λ i s e=>?_,R1.old,λ p hp=>?_,λ q hq=>(R1.tm q hq).wk λ p o e _=>by rw[if_neg (nl p o e)];exact zAj _⟩
  .match i,e with
   |0,e=>cases e;exact .inl rfl
   |i+1,e=>simp at e
  .by_cases z:p=l
   .subst z;exact R1.old.free hl
   .exact absurd (show(if p=l then((2,0):Nat×Nat)else(0,0)).1=0 by rw[if_neg z]) hp
 have bE:¬((λ p=>if p=l then((2,0):Nat×Nat)else(0,0)) l).1<=1:=by simp
 refine⟨λ i n acc H2=>∃as:List Addr,n=ds.length-i/\i<=ds.length/\acc=as.map V.ref/\H2 l=some (.lst acc)/\RR K {G with E:=λ _ _ _=>False} (U1++U) [.no] (stV [none] Z) H2 (λ p=>if p=l then(2,0)else(0,0))/\aO H H2/\as.length=i/\(l::as).Nodup/\∀a∈as,H a=none/\H2 a=some (.lst []),
  ⟨ds.length,[],by omega,by omega,rfl,aR,RB.up (ak hl _),s1.trans (ak hl _),rfl,by simp,λ a h=>by simp at h⟩,?_⟩
 rintro i n acc H2 ⟨as,rfl,hi',rfl,hH2,R2,s2,hlen2,hnd,hal⟩;refine⟨hH2,by rw[zAD];omega,?_⟩;have jj:=jl _ H2 λ q hq=>R2.tm q (zA4 _ hq)
 by_cases hlt:i<ds.length
 .obtain⟨go,yl⟩:=(jj i).2 hlt
  refine .inr ⟨go,λ x H3 hy=>?_⟩;obtain⟨s3,d,ed,rx⟩:=yl x H3 hy;replace R2:=R2.up s3;replace hH2:=s3 _ _ hH2;replace s2:=s2.trans s3;replace hal:=λ a ha=>(⟨(hal a ha).1,s3 _ _ (hal a ha).2⟩:H a=none/\H3 a=some (.lst []))
  obtain⟨Y1,e1⟩:=hfg d;refine hg (U1++U) x d _ H3 _ _ _ Y1 R2 rx e1 λ Z4 R4=>?_
  refine ht (U1++U) Z4 H3 Y1 _ _ R4 λ H5 s5=>?_
  rw[if_pos rfl];refine⟨zAj _,λ p H6 s6 hp hn=>?_⟩;have hl6:H6 l=some (.lst (as.map V.ref)):=s6 _ _ (s5 _ _ hH2);have hpl:p≠l:=λ z=>by subst z;rw[s5 _ _ hH2]at hn;cases hn
  have hpa:p∉as:=λ z=>by
   have:=s5 _ _ (hal p z).2
   rw[hn]at this;cases this
  have hpH:H p=none:=(s2.trans s5).free hn;have B:jF l H6 (upd H6 l (.lst (as.map V.ref++[.ref p]))):=λ b o ne hb=>by rw[aL ne];exact hb
  refine⟨hl6,ds.length-(i+1),by omega,as++[p],rfl,hlt,by rw[zAc];rfl,aR,?_,?_,by rw[zAT];simp;omega,?_,λ a ha=>?_⟩
  .have R6:=R2.up (s5.trans s6)
   refine⟨R6.len,λ j s e=>?_,λ b o hb=>?_,R6.new,λ q hq=>(R6.tm q hq).but B hl6 rfl bE⟩
   .match j,e with
    |0,e=>cases e;exact .inl rfl
    |j+1,e=>simp at e
   .exact B b o (λ z=>by subst z;rw[R1.old.free hl]at hb;cases hb) (R6.old b o hb)
  .exact λ b o hb=>B b o (λ z=>by subst z;rw[hHl]at hb;cases hb) (((s2.trans s5).trans s6) b o hb)
  .obtain⟨n1,n2⟩:=zA5.mp hnd
   refine zA5.mpr ⟨λ z=>?_,zBM.mpr ⟨n2,by simp,λ x hx y hy e=>?_⟩⟩
   .rcases zAp.mp z with z|z
    .exact n1 z
    .exact hpl (zA3.mp z).symm
   .rw[zA3]at hy
    subst hy;subst e;exact hpa hx
  .rcases zAp.mp ha with z|z
   .refine⟨(hal a z).1,?_⟩
    rw[aL λ q=>by subst q;exact(zA5.mp hnd).1 z];exact s6 _ _ (s5 _ _ (hal a z).2)
   .rw[zA3]at z
    subst z;exact⟨hpH,by rw[aL hpl];exact hp⟩
 .have ei:i=ds.length:=by omega
  exact .inl ⟨by rw[ei];exact(jj _).1 (zAP _),w l as H2 s2 hHl hH2 hnd (by omega) hal⟩
end
section
variable{C:Ct}{pos lpos:Pos}{tg iter:Expr}{sc:Scope}{N:List Str}{js:hZ}{ks:List Nat}{fi:En->Rs (List D)}{fg:D->En->Rs En}
def llS(i:Nat)(fi:En->Rs (List D))(js:hZ)(fg:D->En->Rs En):En->Ou:=λ Y=>(fi (shE Y)).bo λ ds=>if ds.length<zAK then .nx (Y.set i (.o2 (zAO ds.length [])))else .st
def aMn(hi:SI C tg iter fi)(hg:SG (C.blk sc N) tg ks fg)(hj:js=[none]:=by rfl)(hfg:∀d,∃Y1,fg d [.no]= .ok Y1:=by intro _;exact⟨_,rfl⟩)(hN:∀j,(C.X j).N[i]? =some x:=by intro _;rfl)(hx:∀j,Loc (C.X j).env.scope x:=by intro _;first|exact zBm rfl|exact zBK rfl)(hsw:∀j,zCG (.ListComp (.List [] lpos) [⟨tg,iter,[],0⟩] sc pos) (some (.Name x pos')) spos.line (C.X j).env=pure true:=by intro _;rfl)(hs:∀i x,zBO iter (C.X i).env x=pure x:=by intro _ _;rfl)(hf:∀j,(C.X j).fn x=true\/(C.X j).env.scope.names.lookup x=some .local:=by intro _;first|exact .inl rfl|exact .inr rfl)(nd:∀j,(C.X j).N.Nodup:=by intro _;assumption)(hB:∀i,dX (C.X i) sc N (stV js) ks:=by intro _;exact z7 rfl rfl rfl rfl rfl rfl):
  SS C (.Assign [.Name x pos'] (.ListComp (.List [] lpos) [⟨tg,iter,[],0⟩] sc pos) spos) (llS i fi js fg):=by
 subst hj;obtain⟨wi,i1,i2⟩:=hi;obtain⟨g,g1,g2,g3,g4⟩:=hg;obtain⟨tt,t1,t2⟩:=jT (C:=C.blk sc N);refine⟨_,λ j=>aAR (nd j) (hN j) (hx j) (hB j) (C.calm j) (i1 j) (λ c fp z5 zI=>g1 (j,c,fp,z5,zI)) g3 (λ c fp z5 zI=>t1 (j,c,fp,z5,zI)) (λ c fp z5 zI=>lB cI) (hsw j) (hs j) (hf j),λ U Z H Y lab De R W=>?_⟩;refine aK2 i2 g2 hfg t2 R (W.bo.imp λ ds _ w=>?_);by_cases hl:ds.length<zAK
 .rw[if_pos hl]at w
  refine⟨hl,λ l as H' s hn hH hnd hW hal=>?_⟩;have kK:∀p o,H p=some o->(λ p=>if p=l then(i+2,0)else if p∈as then(i+2,as.idxOf p+1)else bV H 1 lab p) p=lab p:=λ p o e=>by
   dsimp only;have z1:p≠l:=λ z=>by subst z;rw[hn]at e;cases e
   have z2:p∉as:=λ z=>by rw[(hal p z).1]at e;cases e
   rw[if_neg z1,if_neg z2,bD e]
  have R':RR C.K C.G U Y Z H' (λ p=>if p=l then(i+2,0)else if p∈as then(i+2,as.idxOf p+1)else bV H 1 lab p):=by
   refine(R.relab kK λ p hp=>?_).up s;cases e:H p with
   |none=>exact R.old.free e
   |some o=>
    have:=kK p o e
    dsimp only at this hp;rw[this]at hp;exact R.new p hp
  refine w _ _ _ (R'.put (s:=.o2 (zAO ds.length [])) ⟨l,as.map V.ref,rfl,hH,by dsimp only;rw[if_pos rfl],by rw[zAD,zCQ];exact hW,λ j x es e1 e2=>?_⟩);rw[zAZ,zBc]at e1;obtain⟨a,e1,rfl⟩:=e1;have ees:es=[]:=by
   rw[zCg]at e2;split at e2
   .cases e2;rfl
   .cases e2
  subst ees;have ha:a∈as:=zAg e1;have hla:a≠l:=λ z=>by subst z;exact(zA5.mp hnd).1 ha
  have hj2:j<as.length:=(zAJ.mp e1).1;refine .lst (hal a ha).2 ?_ .nil
  show(if a=l then(i+2,0)else if a∈as then(i+2,as.idxOf a+1)else bV H 1 lab a)=(i+2,j+1)
  rw[if_neg hla,if_pos ha];have hix:as.idxOf a<as.length:=List.idxOf_lt_length_iff.mpr ha
  have:as[as.idxOf a]? =some a:=by rw[zAH hix];exact congrArg some (List.getElem_idxOf hix)
  have:=(List.getElem?_inj hix (zA5.mp hnd).2).mp (this.trans e1.symm)
  rw[this]
 .rw[if_neg hl]at w
  exact zAF w
end
def aEQ(hc:X.calm=true):cU X (.builtin "min") (λ xs H Q=>∃(p:Addr) (ns:List Int) (m:Int),xs=[.ref p]/\SqT X.K H p (ns.map V.int)/\ns.min?=some m/\Q (.int m) H):=by
 intro hV s Z H xs us Q I r h;obtain⟨p,ns,m,rfl,hp,hm,q⟩:=h;obtain⟨u,rfl,ru⟩:=vals1 r;cases ru;obtain⟨its,rv,pl,hz⟩:=I.tuple hp;obtain⟨ts,rfl,rfl⟩:=nO rv;have hsz:0<ts.toArray.size:=by
  cases ts with
  |nil=>cases hm
  |cons a b=>simp
 have hl:s.heap.IsTuple p (zEf ts.toArray):=by
  obtain⟨o,h1,h2,n,h3⟩:=pl;exact⟨o,h1,h2,n,by rw[h3];simp[zEf]⟩
 have hlt:p<s.heap.objs.size:=by obtain⟨_,e,_⟩:=hl;exact zAW e
 refine call_min_walk (zIC hl ?_);refine⟨_,_,_,_,_,_,_,rfl,Walks.tuple (A:=X.A.in1) (I.ok.hd hc) _ p (zAa hlt) (zEf ts.toArray),⟨⟨_,zA0 _ rfl,rfl,rfl⟩,hl.push _⟩,λ b hb=>?_,by simpa[zEf]using hsz,CmpOf.ints_lt (numAt ts.toArray) (λ _ _=>zHm),λ v h' tk hv hk=>?_⟩
 .show b<(s.heap.push _).objs.size
  rw[zBp];simp only[zAN,zBl,or_false]at hb;rcases hb with e|e<;>subst e
  .exact zC7 _
  .exact zH1 hlt
 have hv':(zEf ts.toArray)[argBest (λ i j=>decide (numAt ts.toArray i<numAt ts.toArray j)) (ts.toArray.size-1)]? =some v:=by simpa[zEf]using hv
 obtain⟨t,rfl⟩:=zHm hv';obtain⟨h1,h2⟩:=argBest_lt (numAt ts.toArray) (ts.toArray.size-1);have hM:(ts.map zFD).min?=some (numAt ts.toArray (argBest (λ i j=>decide (numAt ts.toArray i<numAt ts.toArray j)) (ts.toArray.size-1))):=by
  rw[zCy];refine⟨?_,λ a ha=>?_⟩
  .rw[zHz];exact getD_mem (by rw[zAD];simp at h1 hsz ⊢;omega)
  .obtain⟨j,hj,rfl⟩:=mem_getD ha
   have:=h2 j (by rw[zAD]at hj;simp;omega)
   rw[zHz _ j]at this;exact this
 rw[hm]at hM;injection hM with hM
 refine⟨.int m,H,I.kept λ b o e=>hk b o (λ z=>?_) (zAI _ e),⟨t,by rw[hM]⟩,q⟩;rw[zA3]at z;exact absurd (z▸zAW e) (zAw _)
def nj(f:List Int->Option Int):List D->Rs D
 |[.tup l]=>match intsOf l with
  |some ns=>match f ns with
   |some m=>.ok (.int m)
   |none=>.st
  |none=>.st
 |ds=>nu f ds
def aGu{K:zAA}:oU K (λ xs H Q=>(∃(p:Addr) (ns:List Int) (m:Int),xs=[.ref p]/\SqT K H p (ns.map V.int)/\f ns=some m/\Q (.int m) H)\/∃(p:Addr) (ns:List Int) (m:Int),xs=[.ref p]/\H p=some (.lst (ns.map V.int))/\f ns=some m/\Q (.int m) H) (nj f):=by
 intro A xs ds H Q z r ez q;unfold nj at ez;split at ez
 .split at ez
  .rename_i l ns e
   split at ez
   .rename_i m em
    cases ez
    have:=cT e
    subst this;cases r with
    |cons h r=>
     cases r;cases h with
     |tup h r=>
      have:=r.ints_of
      subst this;exact .inl ⟨_,ns,m,rfl,h,em,q _ H (aO.refl H) (.int _)⟩
   .cases ez
  .cases ez
 .exact .inr (aDQ A xs _ H Q z r ez q)
def aEG:∀x z,nj f x= .ok z->imm z=true:=by
 intro x z e;unfold nj at e;split at e
 .split at e
  .split at e
   .cases e;rfl
   .cases e
  .cases e
 .exact aAe _ _ e
section
variable{C:Ct}{pos p:Pos}{a:Expr}{ga:En->Rs (List D)}{m:Mode}
def aHi(hm:C.mg "min"=none)(ha:SA C m [a] ga)(he:∀i,zAY [a] (C.X i).env=[(false,eval a (C.X i).env)]:=by intro _;rfl)(hg:∀i,Gl (C.X i) "min":=by intro _;rfl)(hv:zAv "min"=some (.builtin "min"):=by decide+kernel):SE C (some []) (.Call (.Name "min" p) [a] [] pos) (opA (nj zFM) ga):=
 cW (j8 (λ i=>by have h:=(aEQ (X:=C.X i) (C.calm i)).or (aER (C.calm i));rw[C.hK i]at h;exact h) aGu hg hm hv ha (by decide) (by decide) he) λ _ _ h=>lK aEG h
end
def aIh:∀{us:List α},us.length=6->∃a0 a1 a2 a3 a4 a5,us=[a0,a1,a2,a3,a4,a5]
 |[a0,a1,a2,a3,a4,a5],_=>⟨a0,a1,a2,a3,a4,a5,rfl⟩
def qJ(j:Int):List Int:=(zA1 j.toNat).map λ(k:Nat)=>0+(k:Int)
def aMv:List V->Hp->VK->Prop:=λ xs H Q=>∃j:Int,xs=[.int j]/\∀p,H p=none->Q (.ref p) (upd H p (.rng 0 j))
def aGy:cU X (.type "range") aMv:=by
 intro hV s Z H vs us Q I rv h;obtain⟨j,rfl,q⟩:=h;obtain⟨u,rfl,ru⟩:=rv.one;obtain⟨t,rfl⟩:=ru;exact call_range_1 ⟨.ref s.heap.objs.size,_,I.laid (a:=s.heap.objs.size) (o:=.rng 0 j) (t':=s.toks+1+1) (λ _ _ q=>zAI _ q) (zAP _) ⟨_,_,_,zA0 _ rfl⟩,rfl,q _ (I.hok.fresh (zAP _))⟩
def aHT:∀{ns:List Int} {us:List Value},ns.length=us.length->(∀(k:Nat) i,ns[k]? =some i->∃tk,us[k]? =some (.int i tk))->Vals (ns.map V.int) us:=by
 intro ns;induction ns with
 |nil=>intro us hl _;rw[List.eq_nil_of_length_eq_zero hl.symm];exact .nil
 |cons n ns ih=>
  intro us hl h;obtain⟨tk,e⟩:=h 0 n rfl;cases us with
  |nil=>cases e
  |cons u us=>
   have e':u= .int n tk:=zAe e;subst e';exact .cons ⟨tk,rfl⟩ (ih (zFm hl) λ k i hi=>h (k+1) i hi)
def aDf(j:Int):dD 0 j=(qJ j).map D.int:=by
 unfold dD qJ;rw[zAU,Int.sub_zero];rfl
def aN9(Y:En)(i:Nat)(ds:List Int):D->Ou
 | .int z=>if ds.length<4000 then .nx (Y.set i (.ow (.set (step_dedup ds z))))else .st
 |_=>.st
section
variable{prog:zAS}{w:World}{A:zA8}{E:Value->zAB->Prop}{s:zAB}{r:Addr}{a b c:Int}{t u v:Tok}{n:Nat}
def PR(a c:Int):Nat->Value->Prop:=λ i v=>∃t,v= .int (a+i*c) t
def aAy(hh:A.handled=none)(hr:IsRange s.heap r a b c t u v)(hsmall:zCo a b c=true)(hn:zB4 a b c=n)(hW:n<=2^24)
  (h:∀h' tk vs,s.heap.objs.size<h'.objs.size->(∀b o,s.heap.get? b=some o->h'.get? b=some o)->vs.length=n->(∀(j:Nat) v,vs[j]? =some v->PR a c j v)->Q vs {s with heap:=h',toks:=tk}):wpAny (model prog w) A (collect (.ref r)) Q E s:=by
 unfold collect;refine zAQ (wpAny_runValue (zGR PySem.F.entry_proto_collect ?_));rw[zGL PySem.F.plain_proto_collect _];show wpAny _ A.in1 (newList []>>=λ l=>again (.builtin "list.__iadd__" ⟨[l,.ref r],[]⟩)) _ _ s;refine zAQ (zBi (zAi ⟨plainId_quiet zFZ _,zGR PySem.F.entry_list_iadd ?_⟩));rw[zGL zFZ _];show wpAny _ A.in1 (Builtin.List.listExtendWith (.ref s.heap.objs.size) (.ref r) (.ref s.heap.objs.size)) _ _ _;have fin:∀h' tk acc' c',(∀b o,b≠s.heap.objs.size->(s.heap.push (seqObj "list" #[] 0)).get? b=some o->h'.get? b=some o)->h'.get? s.heap.objs.size=some {cls:=.type "list",dict:=none,data:=.seq acc' c',slots:=#[]}->ItemsOf (PR a c) acc' n->
   wpAny (model prog w) A (do match (zAu s.heap.objs.size)with
    | .ref a=>match (<-load a).data with
     | .seq xs _=>pure xs.toList
     |_=>unsupported "internal:collect"
    |_=>unsupported "internal:collect") Q E {s with heap:=h',toks:=tk}:=λ h' tk acc' c' hk hS' kQ=>
  zAQ (wpAny_load hS' (zAi (h h' tk acc'.toList (zAW hS') (λ b o e=>hk b o (zAa (zAW e)) (zAI _ e)) (by rw[zDM];exact kQ.1) λ j v e=>kQ.2 j v (by rw[<-Array.getElem?_toList];exact e))))
 refine zBC (wpAny_extend_range (A:=A) (s:={s with heap:=s.heap.push (seqObj "list" #[] 0)}) (R:=λ r s'=>∃h' tk acc' c',r= .ok (.ret (.ref s.heap.objs.size))/\s'={s with heap:=h',toks:=tk}/\(∀b o,b≠s.heap.objs.size->(s.heap.push (seqObj "list" #[] 0)).get? b=some o->h'.get? b=some o)/\h'.get? s.heap.objs.size=some {cls:=.type "list",dict:=none,data:=.seq acc' c',slots:=#[]}/\ItemsOf (PR a c) acc' n)
  hh (zAI _ hr) hsmall hn hW s.heap.objs.size (.ref s.heap.objs.size) 0 (zA0 _ rfl) (λ h' tk acc' c' hk hS' kQ=>⟨h',tk,acc',c',rfl,rfl,hk,hS',kQ⟩)) (λ f s' hf=>?_) λ e s' he=>?_
 .cases f with
  |done f=>
   obtain⟨h',tk,acc',c',q1,q2,q3,q4,q5⟩:=hf;cases q1;subst q2;exact fin h' tk acc' c' q3 q4 q5
  |again c=>
   refine⟨hf.1,zEa hf.2 λ r s' hr=>?_⟩;obtain⟨h',tk,acc',c',q1,q2,q3,q4,q5⟩:=hr;subst q1 q2;exact fin h' tk acc' c' q3 q4 q5
 .obtain⟨h',tk,acc',c',q1,_⟩:=he
  cases q1
end
def tM(r:Addr)(a b c:Int)(t u v:Tok)(n:Nat)(hsmall:zCo a b c=true)(hn:zB4 a b c=n)(hW:n<=10000):
  Meets (zFV.«tuple.__new__» ⟨[.type "tuple",.ref r],[]⟩)
   (λ A R s=>A.handled=none/\IsRange s.heap r a b c t u v/\∀(h':Heap) (tk:Nat) (vs:List Value),s.heap.objs.size<h'.objs.size->(∀b o',s.heap.get? b=some o'->h'.get? b=some o')->vs.length=n->(∀(j:Nat) v,vs[j]? =some v->PR a c j v)->
    R (.ok (.ret (.ref h'.objs.size))) {s with heap:=h'.push {cls:=.type "tuple",data:=.seq vs.toArray},toks:=tk}):=
 .of_wp λ prog w A R s h=>by
  obtain⟨hp,g,d,tk,os⟩:=s;obtain⟨hh,ht,h⟩:=h;have aT:=sub_tuple_self;have hinit:=init_tuple_lookup;have hmh:=madeHere_tuple;have hT:Shared.TypeIs ⟨hp,g,d,tk,os⟩ (.ref r) "range":=⟨_,ht,rfl⟩;wp_walk using zDb ht,zGB hT,aAy (A:=A.in1) (show A.in1.handled=none from hh) ht hsmall hn (zAh hW (by decide));intro h' tk' vs hlt hk hl hv;show wpAny _ _ (zBW vs.toArray>>=λ v=>ret v) _ _ _;unfold zBW;refine zAQ (zBi ?_ (by show vs.toArray.size<=zAK;rw[zAM,hl,zCN];lia));exact zAi ⟨_,rfl,h h' tk' vs hlt hk hl hv⟩
def aCi:List V->Hp->VK->Prop:=λ xs H Q=>∃(p:Addr) (j:Int),xs=[.ref p]/\H p=some (.rng 0 j)/\-(2^62)<=j/\j<=10000/\∀l H',aO H H'->H l=none->H' l=some (.tup ((qJ j).map V.int))->Q (.ref l) H'
def aD6(h1: -(2^62)<=j)(h2:j<=10000):zB4 0 j 1=(j.toNat:Int)/\zCo 0 j 1=true:=by
 have hsz:zB4 0 j 1=(j.toNat:Int):=by
  unfold zB4;simp only[show(1:Int)>0 by decide,if_true];split<;>lia
 refine⟨hsz,?_⟩;have fl:∀x:Int,-(2^62)<=x->x<=2^62->zET x=true:=λ x hx1 hx2=>by
  unfold zET;simp;lia
 unfold zCo;rw[hsz,fl 0 (by lia) (by lia),fl j (by lia) (by lia),fl 1 (by lia) (by lia),fl _ (by lia) (by lia),if_pos (by decide),fl (j+(1-1)) (by lia) (by lia),zIE];rfl
def aBD(hc:X.calm=true):cU X (.type "tuple") aCi:=by
 intro hV s Z H vs us Q I rv h;obtain⟨p,j,rfl,hp,h1,h2,q⟩:=h;obtain⟨u,rfl,ru⟩:=rv.one;cases ru;obtain⟨t,u,v,hg⟩:=I.hok p _ hp;obtain⟨hsz,hsm⟩:=aD6 h1 h2;refine callType_new PySem.F.called_tuple (by decide) (PySem.F.typeCall_tuple_1 _) (PySem.F.newCall_tuple_1 _) (λ obj=>PySem.F.args_object_init_2 obj _) PySem.F.entry_tuple_new
  (tM p 0 j 1 t u v j.toNat hsm hsz (by lia)) ⟨I.ok.hd hc,hg,λ h' tk vs hlt hk hl hv=>⟨⟨_,zA0 _ rfl,rfl⟩,?_⟩⟩
 have hle:s.heap.objs.size<=h'.objs.size:=zBT hlt;have hv2:Vals ((qJ j).map V.int) vs:=by
  have hl2:(qJ j).length=vs.length:=by rw[hl];simp[qJ]
  refine aHT hl2 λ k i hi=>?_
  have hk2:k<vs.length:=by rw[<-hl2];exact(zAJ.mp hi).1
  obtain⟨tk,e⟩:=hv k vs[k] (zAH hk2);refine⟨tk,?_⟩;have ei:i=0+(k:Int)*1:=by
   unfold qJ at hi;rw[zAZ]at hi;cases c:(zA1 j.toNat)[k]? with
   |none=>rw[c]at hi;cases hi
   |some m=>
    rw[c]at hi;cases hi
    have:=zAJ.mp c
    have:m=k:=by simpa using this.2.symm
    subst this
    show(0:Int)+(m:Int)=0+(m:Int)*1
    lia
  rw[ei,<-e];exact zAH hk2
 have hfr:H h'.objs.size=none:=I.hok.fresh hle;refine⟨.ref h'.objs.size,upd H h'.objs.size (.tup ((qJ j).map V.int)),I.laid (t':=tk) (λ b o e=>zAI _ (hk b o e)) hle ⟨⟨?_,NoD.push _⟩,vs,hv2,?_⟩,rfl,q _ _ (ak hfr _) hfr aR⟩
 .simp[qJ]
  have:zAK=16777216:=zCN
  lia
 .exact⟨_,zA0 _ rfl,rfl,0,rfl⟩
def trR:D->Rs D
 | .int j=>if -(2^62)<=j/\j<=10000 then .ok (.tup (dD 0 j))else .st
 |_=>.st
def trD(fa:En->Rs D):En->Rs D:=λ Y=>(fa Y).bd trR
section
variable{C:Ct}{pos pos2 p p2:Pos}{a:Expr}{fa:En->Rs D}{m:Mode}
def aD8(hmL:C.mg "tuple"=none)(hmR:C.mg "range"=none)(ha:SE C m a fa)(hs:∀i,zAY [a] (C.X i).env=[(false,eval a (C.X i).env)]:=by intro _;rfl)(hs2:∀i,zAY [.Call (.Name "range" p2) [a] [] pos2] (C.X i).env=[(false,eval (.Call (.Name "range" p2) [a] [] pos2) (C.X i).env)]:=by intro _;rfl)(hgL:∀i,Gl (C.X i) "tuple":=by intro _;rfl)(hvL:zAv "tuple"=some (.type "tuple"):=by decide+kernel)(hgR:∀i,Gl (C.X i) "range":=by intro _;rfl):SE C (some []) (.Call (.Name "tuple" p) [.Call (.Name "range" p2) [a] [] pos2] [] pos) (trD fa):=by
 obtain⟨t,h1,h2⟩:=ha;refine⟨tCB aCi (gO (tCB aMv (gO t nU)) nU),λ i=>nF (aBD (C.calm i)) (hgL i) (by rw[(C.cx i).2.2.2.1];exact hmL) hvL (aW (nF aGy (hgR i) (by rw[(C.cx i).2.2.2.1];exact hmR) zIQ (aW (h1 i) cI (hs i)) (by decide) (by decide) (hs i) rfl) cI (hs2 i)) (by decide) (by decide) (hs2 i) rfl,λ U Z H Y lab Q R W=>?_⟩;refine h2 U Z H Y lab _ R (W.bd.imp λ d _ w y H1 s1 r1=>?_);unfold trR at w;split at w
 .rename_i j _
  by_cases hz: -(2^62)<=j/\j<=10000
  .rw[if_pos hz]at w
   have ey:=r1.int_inv;subst ey;refine⟨j,rfl,λ q hq=>⟨q,j,rfl,aR,hz.1,hz.2,λ l H' s' hl hH'=>?_⟩⟩;refine w _ H' ((s1.trans (ak hq _)).trans s') (.tup (SqT.of hH') ?_);rw[aDf];exact Rps.ints
  .rw[if_neg hz]at w
   exact zAF w
 .exact zAF w
end
section
theorem NoD.at{h:Heap}{a:Addr}{o:Obj}(e:h.get? a=some o)(hd:o.dict=none:=by rfl):L2.NoD h a:=λ u q=>by rw[e]at q;cases q;exact hd
end
def vM{X:Cx}{hV:gV}{Z:List (Option V)}{H:Hp}{s:zAB}{h':Heap}{ch:List Addr}{p t':Nat}{o:HO}(I:Inv X hV Z H s)(hf:∀b∈ch,lY X hV H b)(k:∀b u,b∉ch->s.heap.get? b=some u->h'.get? b=some u)
  (hp:s.heap.objs.size<=p)(new:bW X.prog X.w (upd H p o) h' p o):Inv X hV Z (upd H p o) {s with heap:=h',toks:=t'}:=by
 have hn:=I.hok.fresh hp;have nch:∀b u,H b=some u->b∉ch:=λ b u e z=>by have:=(hf b z).1;rw[e]at this;cases this
 refine I.call (g':=s.gens) (d':=s.drawn) (ch:=ch) ⟨λ b u q _ _ hx=>k b u hx q,λ b u q _ _ hx=>⟨u.slots,k b u hx q⟩,λ b u q n _=>?_,λ b u q hx=>⟨u,k b u hx q⟩,λ b xs q=>?_,λ b u xs q=>?_,λ b ps q=>⟨#[],?_⟩⟩ (λ b u e=>?_) I.bare
  λ b hb=>let⟨_,f1,_,f3,f4,f5⟩:=hf b hb;⟨f3,f1,f4,f5⟩
 .rw[aL (zAa (zAR (zAW q) hp))];exact n
 .rw[aL (bH q hn)];exact q
 .rw[aL (bH q hn)];exact q
 .rw[aL (bH q hn),q];simp
 .by_cases hb:b=p
  .subst hb;rw[aR]at e;cases e;exact new
  .rw[aL hb]at e
   refine(I.hok b u e).stay (λ c v hc q=>k c v ?_ q) (λ c q=>by rw[aL (bH q hn)];exact q) λ c xs q=>by rw[aL (bH q hn)];exact q
   rcases hc with rfl|hc
   .exact nch _ _ e
   .exact nch _ _ hc
def aAl(l:List D):List D:=l.zipIdx.map λ p=>.tup [.int (p.2:Int),p.1]
theorem aGW:∀{k:List Int} {us:List Value},Vals (k.map V.int) us->ItemsAre (zGS P w) k us
 |[],_,r=>by cases r;exact .nil
 |i::k,_,r=>by
  cases r with
  |cons h t=>obtain⟨t0,rfl⟩:=h;exact .cons (by simp[zGS,zGh]) (aGW t)
abbrev Ent:=List Int×Addr×V
def DxP(es:List Ent)(xs:List (List Int×Addr×Value)):Prop:=zE5 (λ(e:Ent) x=>e.1=x.1/\e.2.1=x.2.1/\RelV e.2.2 x.2.2) es xs
def DxP.mem(p:DxP es xs):∀x∈xs,∃e∈es,e.1=x.1/\e.2.1=x.2.1:=by
 unfold DxP at p;induction p with
 |nil=>intro x hx;cases hx
 |cons h t ih=>
  intro x hx;rcases zAN.mp hx with rfl|hx
  .exact⟨_,zAG ..,h.1,h.2.1⟩
  .obtain⟨e,he,q⟩:=ih x hx;exact⟨e,zAL _ he,q⟩
def DxP.keys(p:DxP es xs):es.map (·.1)=xs.map (·.1):=by
 unfold DxP at p;induction p with
 |nil=>rfl
 |cons h t ih=>rw[zAE,zAE,ih,h.1]
theorem aDW(k:List Int):∀(xs:List (List Int×β)),(xs.find? λ x=>decide (x.1=k)).isSome=(xs.map (·.1)).any (·==k)
 |[]=>rfl
 |x::xs=>by
  rw[zAE,zDK,<-aDW k xs,zBe];by_cases e:x.1=k
  .simp[e]
  .have:(x.1==k)=false:=by simpa using e
   simp[e,this]
def DxP.has(p:DxP es xs)(k:List Int):(atKey xs k).isSome=(es.map (·.1)).any (·==k):=by
 unfold atKey;rw[zGn,aDW,p.keys]
def DxP.snoc(p:DxP es xs)(h:e.1=x.1/\e.2.1=x.2.1/\RelV e.2.2 x.2.2):DxP (es++[e]) (xs++[x]):=by
 unfold DxP at p ⊢;induction p with
 |nil=>exact .cons h .nil
 |cons q t ih=>exact .cons q ih
section
variable{X:Cx}{hV:gV}{Z:L2.St}{H:Hp}{s:zAB}{a b:Addr}{k:List Int}{es:List Ent}
def aLh(I:Inv X hV Z H s)(h:SqT X.K H b (k.map V.int)):(zDP (zGS X.prog X.w)).is s.heap k b:=by
 obtain⟨its,rv,⟨o,h1,h2,n,h3⟩,hz⟩:=I.tuple h;exact⟨o,its.toArray,n,h1,h2,h3,by simpa using aGW rv⟩
def aN2(I:Inv X hV Z H s)(h:DxK X.K H a es):es.length<=zAK/\(a==zBX)=false/\∃xs,DxP es xs/\s.heap.DictOfH (zDP (zGS X.prog X.w)) a xs:=by
 obtain⟨⟨hl,hd,xs,o,ts,ep,pr,h1,h2,h3,h4⟩,_⟩:=(show bW X.prog X.w H s.heap a (dxO a es)from I.hok a _ h.at_);refine⟨hl,hd,xs,pr,o,ts,ep,h1,h2,h3,h4,λ x hx=>?_,by rw[<-DxP.keys pr];exact h.nd⟩;obtain⟨e,he,e1,e2⟩:=DxP.mem pr x hx;rw[<-e1,<-e2];exact aLh I (h.ks e he)
def aMD(hl:es.length<=zAK)(hd:(a==zBX)=false)(pr:DxP es xs)(dd:h'.DictOfH (zDP (zGS X.prog X.w)) a xs):bW X.prog X.w H' h' a (dxO a es):=by
 obtain⟨o,ts,ep,h1,h2,h3,h4,_,_⟩:=dd;exact⟨⟨hl,hd,xs,o,ts,ep,pr,h1,h2,h3,h4⟩,⟨o,h1⟩,λ g1 g2 ⟨hl,hd,xs,o,ts,ep,pr,h1,r⟩ k=>⟨hl,hd,xs,o,ts,ep,pr,k o h1,r⟩⟩
def aKG(I:Inv X hV Z H s)(h:DxK X.K H a es\/(es=[]/\H a=some (.dK []))):(a==zBX)=false/\∃xs,DxP es xs/\s.heap.DictOfH (zDP (zGS X.prog X.w)) a xs:=by
 rcases h with h|⟨rfl,h⟩
 .exact(aN2 I h).2
 .obtain⟨_,hd,vs,kv,o,ts,ep,h1,h2,h3,h4⟩:=(show bW X.prog X.w H s.heap a (.dK [])from I.hok a _ h)
  cases kv;exact⟨hd,[],.nil,o,ts,ep,h1,h2,h3,by generalize ts.toList=l at h4;obtain⟨_,h4,_⟩:=h4;cases h4;rfl,λ x hx=>(by cases hx),zC3⟩
end
def zK:D->Option (List Int)
 | .tup l=>intsOf l
 |_=>none
def xO:List D->Option (List (List Int))
 |[]=>some []
 |d::ds=>match zK d,xO ds with
  |some k,some ks=>some (k::ks)
  |_,_=>none
def aGT:List D->Option (List (List Int))
 |[]=>some []
 | .non::ks=>xO ks
 |_=>none
def xQ(h:zK d=some k):d= .tup (k.map .int):=by
 cases d with
 |tup l=>rw[cT (show intsOf l=some k from h)]
 |_=>cases h
def vI(k:List Int):zK (.tup (k.map .int))=some k:=dH k
theorem rD:∀(ks:List (List Int)),xO (ks.map λ k=>.tup (k.map .int))=some ks
 |[]=>rfl
 |k::ks=>by
  rw[zAE];unfold xO;rw[vI,rD ks]
def pairE(fk fv:En->Rs D):En->Rs D:=λ Y=>(fk Y).bd λ k=>(fv Y).bd λ v=>.ok (.tup [k,v])
section
variable{fk fv:En->Rs D}
def aFo(h:pairE fk fv Y= .ok y):∃k v,fk Y= .ok k/\fv Y= .ok v/\y= .tup [k,v]:=by
 obtain⟨k,h1,h2⟩:=cR h;obtain⟨v,h3,h4⟩:=cR h2;exact⟨k,v,h1,h3,by cases h4;rfl⟩
end
section
theorem ints_of:∀(tks:List (Int×Tok)),zBf (tks.map λ p=>zCt p.1 p.2) (tks.map (·.1))
 |[]=>.nil
 |p::r=>.cons _ _ (ints_of r)
end
abbrev aNg:=List (Str×(List D->Rs D))
def fnOf(tab:aNg):Rs D->Option (List D->Rs D)
 | .ok (.fn x)=>tab.lookup x
 |_=>none
def aM6(K:zAA)(a:Addr):It:=
 ⟨λ i H=>∃xs x,SqL K H a xs/\xs[i]? =some x,λ i H x H'=>∃p y,x= .ref p/\H p=none/\H'=upd H p (.tup [.int i,y])/\∀xs,SqL K H a xs->xs[i]? =some y,λ i H=>∃xs,SqL K H a xs/\xs.length<=i⟩
def aBW{K:zAA}(a e it:Addr)(hei:e≠it)(hae:a≠e)(hai:a≠it):
  Turn P w K (.Tuple elts x1 ps) (aM6 K a) [e,it] e (λ i h=>(∃old,IsEnum h e it i old)/\h.IsListIter it a i) where
 mem:=by simp
 obj:=λ i h st b hb=>by
  obtain⟨⟨old,he⟩,o,e2,c,d⟩:=st;rcases zAN.mp hb with rfl|hb
  .exact⟨_,he,λ v z=>by cases z⟩
  .have q:b=it:=by simpa using hb
   subst q;exact⟨o,e2,λ v z=>by rw[d]at z;cases z⟩
 keep:=λ i h h' st k=>⟨let⟨old,he⟩:=st.1;⟨old,k e (by simp) _ he⟩,st.2.at λ o q=>k it (by simp) o q⟩
 item:=by
  intro X hP hw hK hc i hV s Z H E I hf st hg;subst hP hw hK;obtain⟨xs,x,hq,hx⟩:=hg;obtain⟨its,rv,p,hz⟩:=I.list hq;obtain⟨u,hu,ru⟩:=rv.get hx;obtain⟨⟨old,he⟩,hit⟩:=st;refine wpAny_pyNext_enum_itemD (Draws.list (A:=X.A.in1) (show X.A.in1.handled=none from I.ok.hd hc) it a hai its.toArray) he ⟨hit,p.isList⟩ (by have:=(zAJ.mp hu).1;simpa using this) hei (by simp[hei,zC0 hae]) λ y h' tk hy ho st' hT hsz hk=>⟨_,rfl,?_⟩
  have ey:y=u:=by
   have:its.toArray[i]? =some u:=by simpa using hu
   rw[this]at hy;exact(zAe hy).symm
  subst ey;have hel:e<s.heap.objs.size:=zAW he;refine wpAny_letOwnedTupleGo_enum ho λ h2 he2 hs2=>⟨.ref s.heap.objs.size,upd H s.heap.objs.size (.tup [.int i,x]),?_,rfl,⟨_,x,rfl,I.hok.fresh (zAP _),rfl,λ ys hy=>by rw[I.list_inj hy hq];exact hx⟩,⟨⟨_,by simpa using he2⟩,st'.1.at λ o q=>(hs2.2 it (zC0 hei)).trans q⟩,λ b hb=>?_⟩
  .exact vM (s:=s) (h':=h2) (t':=tk+1) I hf (λ b u hb q=>(hs2.2 b λ z=>hb (by simp[z])).trans (hk b u (λ z=>hb (by simp[z])) (λ z=>hb (by simp[z])) q)) (zAP _) ⟨⟨by simp[zCN],NoD.at ((hs2.2 _ (zCT hel)).trans hT)⟩,[.int i tk,y],.cons ⟨_,rfl⟩ (.cons ru .nil),_,(hs2.2 _ (zCT hel)).trans hT,rfl,_,rfl⟩
  .have:=(hf b hb).1
   rw[aL]
   .exact this
   .rintro rfl
    rcases zAN.mp hb with q|q
    .exact absurd hel (by rw[<-q];exact zAw _)
    .obtain⟨o,ho2,_⟩:=hit
     have q2:s.heap.objs.size=it:=by simpa using q
     exact absurd (zAW ho2) (by rw[<-q2];exact zAw _)
 done:=by
  intro X hP hw hK hc i hV s Z H E I hf st hg;subst hP hw hK;obtain⟨xs,hq,hx⟩:=hg;obtain⟨its,rv,p,hz⟩:=I.list hq;obtain⟨⟨old,he⟩,hit⟩:=st;obtain⟨f0,f1,f2,f3,f4,f5⟩:=hf it (by simp);have hT:s.TypeIs (.ref e) "enumerate":=⟨_,he,rfl⟩;have hl:=rv.length;unfold zIA;refine zAQ (wpAny_attempt (zEN (name:=zGg "__next__") hT zGs (zGG zGs hT F.entry_enumerate_next ?_ (F.args_enumerate_next_1 _))));show wpAny _ _ (field (.ref e) 2>>=_) _ _ _;refine zAQ (zGW he rfl (x:=.ref it) rfl ?_);refine zAQ (wpAny_nextOf_list_end (I.ok.hd hc) hit p.isList (by simp;lia) λ h' x he' hx'=>?_);obtain⟨o,ho,hc⟩:=hx';refine zAQ (wpAny_isInstance (T:="StopIteration") (b:=true) ⟨o,ho,hc⟩ isSubtype_stop ?_);exact zAi ⟨rfl,I.turned (t':=s.toks) (λ b o hb q=>he' b o hb q) f0 f1 f3 f4 f5⟩
 self:=λ _ _ _ _ _ st h=>let⟨⟨_,he⟩,_⟩:=st;zIW he h
def aG8(K:zAA)(tl:TA):TI:=λ Z H R=>tl Z H λ xs H1=>∃a,xs=[.ref a]/\(∃ys,SqL K H1 a ys)/\R (aM6 K a) H1
def aFb{x1:Nat}(hl:PA X [l] tl)(hg:Gl X "enumerate")(hm:X.mg "enumerate"=none)(hv:zAv "enumerate"=some (.type "enumerate"))
  (he:zAY [l] X.env=[(false,eval l X.env)]:=by rfl):PI X (.Tuple elts x1 ps) (.Call (.Name "enumerate" p) [l] [] pos) (aG8 X.K tl):=by
 intro hV s Z H R I h;refine zBa (pH I hg hm hv ?_ (by decide) (by decide));refine zB8 (thn (hl pos hV s Z H _ I h) λ us s1 ⟨vs,H1,I1,r1,a,e,⟨ys,hy⟩,q⟩=>?_) he rfl;subst e;obtain⟨u,rfl,ru⟩:=r1.one;cases ru;obtain⟨its,rv,pp,hz⟩:=I1.list hy;have ha:a<s1.heap.objs.size:=let⟨o,_,ho,_⟩:=pp;zAW ho
 refine call_enumerate_list pp.isList λ h' he hit _ hk=>zIW he ?_
 have n1:s1.heap.objs.size+1≠s1.heap.objs.size:=by lia
 refine⟨_,_,_,_,H1,rfl,I1.kept (t':=s1.toks) hk,aBW a _ _ n1 (zAa (zH1 ha)) (zAa ha),⟨⟨_,he⟩,hit⟩,λ b hb=>?_,q⟩;have hle:s1.heap.objs.size<=b:=by
  rcases zAN.mp hb with rfl|hb
  .exact zFX _
  .have:b=s1.heap.objs.size:=by simpa using hb
   exact zEx this.symm
 exact I1.fpOk hle (I1.hok.fresh hle)
def aKE:List D->Rs (List D)
 |[.lst l]=>.ok (aAl l)
 |_=>.st
def aGV{K:zAA}(h:SqL K H a xs)(r:Rps K (λ p=>(lab p).1<=1) H xs ds):JL K lab (aM6 K a) H (aAl ds):=by
 have hl:=r.length;have hle:(aAl ds).length=ds.length:=by simp[aAl]
 refine λ i=>⟨λ hi=>⟨xs,h,by lia⟩,λ hi=>⟨⟨xs,xs[i]'(by lia),h,by simp[hl,hle▸hi]⟩,λ x H' y=>?_⟩⟩
 obtain⟨p,y,rfl,hp,rfl,hy⟩:=y;obtain⟨d,h1,h2⟩:=r.get (hy xs h);refine⟨ak hp _,.tup [.int (i:Int),d],?_,.tup (.inl (.inl aR)) (.cons (.int _) (.cons (h2.up (ak hp _)) .nil))⟩;unfold aAl;rw[zAZ,List.getElem?_zipIdx,h1];simp
section
variable{C:Ct}{m:Mode}{a:Expr}{ga:En->Rs (List D)}{elts:List Expr}{x1:Nat}{ps p pos:Pos}
def aEx(ha:SA C m [a] ga)(hm:C.mg "enumerate"=none)(ho:okS m=true:=by rfl)(hs:∀i,zAY [a] (C.X i).env=[(false,eval a (C.X i).env)]:=by intro _;rfl)(hg:∀i,Gl (C.X i) "enumerate":=by intro _;rfl)(hv:zAv "enumerate"=some (.type "enumerate"):=by decide+kernel):
  SI C (.Tuple elts x1 ps) (.Call (.Name "enumerate" p) [a] [] pos) (fW aKE ga):=by
 obtain⟨t,p1,p2⟩:=ha;refine⟨aG8 C.K t,λ i=>by rw[<-C.hK i];exact aFb (p1 i) (hg i) (by rw[(C.cx i).2.2.2.1];exact hm) hv (hs i),λ U Z H Y lab Rr R W=>p2 U Z H Y lab _ R (W.bd.imp λ ds _ w vs H1 s r=>?_)⟩;cases ds with
 |nil=>exact zAF w
 |cons d ds=>
  cases ds with
  |cons _ _=>cases d<;>exact zAF w
  |nil=>
   obtain⟨v,rfl,rd⟩:=r.one_inv;cases d with
   |lst l=>
    obtain⟨R',r'⟩:=R.shared ho s rd;obtain⟨b,xs,rfl,h,mm,q⟩:=r'.lst_inv;refine⟨b,rfl,⟨xs,SqL.of h⟩,w _ H1 _ [(.ref b,.lst l)] s (λ p o e=>bD e) ⟨R'.len,R'.sl,R'.old,R'.new,λ z hz=>?_⟩ λ lab' H' hq=>?_⟩
    .rcases zAN.mp hz with rfl|hz
     .exact .lst h mm q
     .exact R'.tm z hz
    .have z:=hq _ (zAG ..)
     obtain⟨b',xs',e',h',_,q'⟩:=z.lst_inv;cases e';exact aGV (SqL.of h') (q'.wk λ _ _ _ z=>z.1)
   |_=>exact zAF w
end
end VL
namespace HT
open PySem PySem.Spec PyProof.Rows
end HT
namespace VL
open PySem PySem.Spec PyProof.Rows L2
end VL
namespace PySem.AutoSeq1
end PySem.AutoSeq1
namespace VL
open PySem PySem.Spec PyProof.Rows L2
def Enr(K:zAA)(x:Str)(st:Stmt)(f:Addr)(fd:zAo):Prop:=L2.Fun K x x st f fd/\zAd K zA2 x=some (some (.ref f))
def enr{K:zAA}{st:Stmt}{oc kV dc pm cd ct:Value}(a:zAd K zA2 x=some (some (.ref f)))
  (l:K.lookup f=some ⟨oc,od,.func (zB2 x x (lL st) (cN st) (aF st) .none kV dc pm an cd ct),sl⟩)(c:zCn K cd x=true)(k:zBZ K (.ref f)=true):∃f fd,Enr K x st f fd:=⟨f,_,aLv (st:=st) l c k,a⟩
structure Dnr(K:zAA)(mg:Str->Option Value)(x:Str)(st:Stmt)(ps:List Str)(f:Addr)(d:zAo):Prop where
 F:L2.Fun K x x st f d
 m:mg x=some (.ref f)
 b:L2.Binds K d ps []
section
variable{C:Ct}
def bT{st:Stmt}(hF:cg C.prog C.w C.K C.mg C.base (CX1 C.prog C.w) k fn fd ps (spF C.K C.G.cl n F))(D:Dnr C.K C.mg x st ps fn fd)(ha:SA C m (e::es) ga)(hr:k<=C.k:=by exact zEJ rfl)(hg:∀i,Gl (C.X i) x:=by intro _;rfl)
  (hn:∀Y ds,ga Y= .ok ds->ds.length=n:=by repeat (first|exact λ _ _ h=>aIg h|apply aGK))(hdb:Nd x:=by decide)(he:∀i,zAY (e::es) (C.X i).env=(false,eval e (C.X i).env)::zAY es (C.X i).env:=by intro _;rfl)
  (hpl:∀i,(zCE pos (zAY es (C.X i).env)).any (·.1)=false:=by intro _;rfl):SE C (some []) (.Call (.Name x p) (e::es) [] pos) (au F ga):=aHn hF hr D.m D.F.kp D.b ha hn hdb he hpl hg
end
def bZ{P:zAS}{w:World}{K:zAA}{st:Stmt}(D:Dnr K mg q st ps fn fd)(S:aZ N ps (aF st))(hb:N.Nodup->∀cdv A outer s H E hr,SSs (ctD P w K mg base N q (aF st) fn cdv A outer s H E k hr) (cN st) f)(hn:ps.length=n:=by rfl)(hF:fG N.length f=FF:=by rfl):
  cg P w K mg base (CX1 P w) (k+1) fn fd ps (spF K (aa mg) n FF):=aJH D.F S (hb S.nd) hn hF
def aCW(items:Array Value)(nss:Nat->List Int)(h:Heap):Prop:=∀i v,items[i]? =some v->∃x its,v= .ref x/\IsTup h x its/\zBf its.toList (nss i)
def aBh(items:Array Value):List Addr:=items.toList.filterMap λ v=>match v with| .ref x=>some x|_=>none
def aBg{items:Array Value}{i:Nat}(h:items[i]? =some (zAu x)):x∈aBh items:=by
 unfold aBh;rw[zBo];exact⟨.ref x,by have:=zAg (l:=items.toList) (i:=i) (by simpa using h);exact this,rfl⟩
def aCW.keep(T:aCW items nss h)(k:∀b∈aBh items,∀o,h.get? b=some o->h'.get? b=some o):aCW items nss h':=λ i v e=>by
 obtain⟨x,its,rfl,⟨o,h1,h2⟩,h3⟩:=T i v e;exact⟨x,its,rfl,⟨o,k x (aBg e) o h1,h2⟩,h3⟩
def aEF{X:Cx}{hV:gV}{Z:List (Option V)}{H:Hp}{s:zAB}{h':Heap}{ch:List Addr}{t':Nat}(I:Inv X hV Z H s)(hf:∀b∈ch,lY X hV H b)(k:∀b u,b∉ch->s.heap.get? b=some u->h'.get? b=some u):
  Inv X hV Z H {s with heap:=h',toks:=t'}:=by
 have nch:∀b u,H b=some u->b∉ch:=λ b u e z=>by have:=(hf b z).1;rw[e]at this;cases this
 refine I.call (g':=s.gens) (d':=s.drawn) (ch:=ch) ⟨λ b u q _ _ hx=>k b u hx q,λ b u q _ _ hx=>⟨u.slots,k b u hx q⟩,λ b u q n _=>n,λ b u q hx=>⟨u,k b u hx q⟩,λ b xs q=>q,λ b u xs q=>q,λ b ps q=>⟨#[],by rw[q];simp⟩⟩ (λ b u e=>?_) I.bare
  λ b hb=>let⟨_,f1,_,f3,f4,f5⟩:=hf b hb;⟨f3,f1,f4,f5⟩
 refine(I.hok b u e).stay (λ c v hc q=>k c v ?_ q) (λ c q=>q) λ c xs q=>q
 rcases hc with rfl|hc
 .exact nch _ _ e
 .exact nch _ _ hc
def aBO(l m:List D):List D:=(l.zip m).map λ p=>.tup [p.1,p.2]
def gU(ks vs:List D):Option (List (Int×D)):=match intsOf ks with
 |some is=>if is.length=vs.length then some (is.zip vs)else none
 |none=>none
def rO(ps:List (Int×D)):D:=.dct (ps.map λ p=>.int p.1) (ps.map (·.2))
def aBl(h:gU ks vs=some ps):ks=ps.map (λ p=>.int p.1)/\vs=ps.map (·.2):=by
 unfold gU at h;split at h
 .rename_i is hi
  split at h
  .rename_i hl
   cases h;refine⟨?_,?_⟩
   .rw[cT hi,show(λ p:Int×D=>D.int p.1)=(λ i=>D.int i)∘zFD from rfl,<-zAU,zEv (by lia)]
   .rw[zHZ (by lia)]
  .cases h
 .cases h
theorem aE3:∀ps:List (Int×D),(ps.map (·.1)).zip (ps.map (·.2))=ps
 |[]=>rfl
 |p::ps=>by rw[zAE,zAE,zBI,aE3 ps]
def jd(ps:List (Int×D)):gU (ps.map λ p=>.int p.1) (ps.map (·.2))=some ps:=by
 unfold gU;have e:intsOf (ps.map λ p=>D.int p.1)=some (ps.map (·.1)):=by
  rw[show(ps.map λ p=>D.int p.1)=(ps.map (·.1)).map D.int by rw[zAU];rfl];exact dH _
 rw[e];dsimp only;rw[if_pos (by rw[zAD,zAD]),aE3]
def Rp.dctI_inv{K:zAA}(r:Rp K A H v (.dct ks vs))(h:gU ks vs=some ps):
  ∃a kvs,v= .ref a/\H a=some (.dK kvs)/\A a/\Rps K (λ p=>A p/\p≠a) H (kvs.map (·.2)) (ps.map (·.2))/\kvs.map (·.1)=ps.map λ p=>(zB5 p.1:Key):=by
 obtain⟨h1,h2⟩:=aBl h;generalize hd:D.dct ks vs=d at r;cases r with
 |dK hh m r=>
  rename_i kvs ds;injection hd with q1 q2
  subst q2;refine⟨_,kvs,rfl,hh,m,by rw[<-h2];exact r,?_⟩;rw[h1]at q1;clear r h h1 h2 hh;induction kvs generalizing ps with
  |nil=>cases ps with
   |nil=>rfl
   |cons _ _=>cases q1
  |cons p kvs ih=>cases ps with
   |nil=>cases q1
   |cons q ps=>
    obtain⟨p1,p2⟩:=p;rw[zAE,zAE]at q1;injection q1 with q3 q4
    rw[zAE,zAE,ih q4];cases p1 with
    |inl i=>injection q3 with q3;rw[q3]
    |inr x=>cases q3
 |dT hh m r=>
  injection hd with q1 q2
  rw[h1]at q1;cases ps<;>cases q1
 |_=>cases hd
theorem aBR{K:zAA}:∀{kvs:List (Key×V)} {ps:List (Int×D)},Rps K A H (kvs.map (·.2)) (ps.map (·.2))->(kvs.map (·.1)=ps.map λ p=>(zB5 p.1:Key))->∀i:Int,
  (∃d v,ps.lookup i=some d/\oV kvs (.inl i)=some v/\Rp K A H v d)\/(ps.lookup i=none/\oV kvs (.inl i)=none)
 |[],[],_,_,_=>.inr ⟨rfl,rfl⟩
 |[],_::_,_,e,_=>by cases e
 |_::_,[],_,e,_=>by cases e
 |p::kvs,q::ps,r,e,i=>by
  obtain⟨p1,p2⟩:=p;obtain⟨q1,q2⟩:=q;rw[zAE,zAE]at e;injection e with e1 e2
  replace e1:p1= .inl q1:=e1;subst e1;rw[zAE,zAE]at r;cases r with
  |cons h r=>
   by_cases c:q1=i
   .subst c
    exact .inl ⟨q2,p2,by simp[zAb],lZ rfl,h⟩
   .have c1:(i==q1)=false:=by simpa using λ z=>c z.symm
    rw[lq (p:=(zB5 q1,p2)) (by simpa using c),zAb,c1];exact aBR r e2 i
def wN:D->D->Rs D
 | .dct ks vs,.int i=>match gU ks vs with
  |some ps=>(match ps.lookup i with
   |some d=>.ok d
   |none=>.st)
  |none=>.st
 |_,_=>.st
def aNx:R2:=λ x y H Q=>∃a v,x= .ref a/\tU H a y (some v)/\Q v H
section
variable{C:Ct}{m1 m2:Mode}{a b:Expr}{fa fb:En->Rs D}{pos:Pos}
def aKb(ha:SE C m1 a fa)(hb:SE C m2 b fb)(hp:qX b:=by exact λ _ _=>rfl):SE C m1 (.Subscript a b pos) (op2 wN fa fb):=by
 obtain⟨t,h1,h2⟩:=ha;obtain⟨u,k1,k2⟩:=hb;refine⟨tOp aNx t u,λ i=>aIQ (by have:=(C.room i).un;lia) (h1 i) (k1 i) hp,λ U Z H Y lab Q R W=>?_⟩;refine h2 U Z H Y lab _ R (W.bd.imp λ d _ w x H1 s1 r1=>?_);refine k2 U Z H1 Y lab _ (R.up s1) (w.bd.imp λ e _ w y H2 s2 r2=>?_);obtain⟨z,ez,wz⟩:=w.okD;cases d with
 |dct ks vs=>
  cases e with
  |int i=>
   cases hp2:gU ks vs with
   |none=>unfold wN at ez;dsimp only at ez;rw[hp2]at ez;cases ez
   |some ps=>
    unfold wN at ez;dsimp only at ez;rw[hp2]at ez;dsimp only at ez;have ey:=r2.int_inv;subst ey;obtain⟨a,kvs,rfl,g1,m,r,hk⟩:=(r1.up s2).dctI_inv hp2;rcases aBR r hk i with ⟨d,v,e1,e2,e3⟩|⟨e1,e2⟩
    .rw[e1]at ez
     cases ez;have g2:tU H2 a (.int i) (some v):=by
      have:=tU.k (k:=.inl i) g1
      rw[e2]at this;exact this
     exact⟨a,v,rfl,g2,wz v H2 (s1.trans s2) (e3.wk λ p o _ q=>q.1)⟩
    .rw[e1]at ez;cases ez
  |_=>cases ez
 |_=>cases ez
end
def tG(ps:List (Int×D))(i:Int)(d:D):List (Int×D):=if (ps.any λ p=>decide (p.1=i))=true then ps.map (λ p=>if p.1=i then(p.1,d)else p)else ps++[(i,d)]
theorem aHF:∀{kvs:List (Key×V)} {ps:List (Int×D)} {i:Int},(kvs.map (·.1)=ps.map λ p=>(zB5 p.1:Key))->(kvs.any λ kv=>decide (kv.1=(.inl i:Key)))=ps.any λ p=>decide (p.1=i)
 |[],[],_,_=>rfl
 |[],_::_,_,e=>by cases e
 |_::_,[],_,e=>by cases e
 |(p1,p2)::kvs,q::ps,i,e=>by
  rw[zAE,zAE]at e;injection e with e1 e2
  replace e1:p1= .inl q.1:=e1;subst e1;rw[zDK,zDK,aHF e2];simp
theorem aFL{K:zAA}{i:Int}{v:V}{d:D}(h:Rp K A H v d):∀{kvs:List (Key×V)} {ps:List (Int×D)},Rps K A H (kvs.map (·.2)) (ps.map (·.2))->(kvs.map (·.1)=ps.map λ p=>(zB5 p.1:Key))->
  Rps K A H ((kvs.map λ kv=>if kv.1= .inl i then(kv.1,v)else kv).map (·.2)) ((ps.map λ p=>if p.1=i then(p.1,d)else p).map (·.2))/\((kvs.map λ kv=>if kv.1= .inl i then(kv.1,v)else kv).map (·.1)=(ps.map λ p=>if p.1=i then(p.1,d)else p).map λ p=>(zB5 p.1:Key))
 |[],[],_,_=>⟨.nil,rfl⟩
 |[],_::_,_,e=>by cases e
 |_::_,[],_,e=>by cases e
 |(p1,p2)::kvs,(q1,q2)::ps,r,e=>by
  rw[zAE,zAE]at e;injection e with e1 e2
  replace e1:p1= .inl q1:=e1;subst e1;rw[zAE,zAE]at r;cases r with
  |cons h1 r1=>
   obtain⟨z1,z2⟩:=aFL h r1 e2;rw[zAE,zAE,zAE,zAE,zAE,zAE,z2];by_cases c:q1=i
   .subst c
    rw[if_pos rfl,if_pos rfl];exact⟨.cons h z1,rfl⟩
   .rw[if_neg (show¬((zB5 q1:Key),p2).1=zB5 i by simpa using c),if_neg (show¬(q1,q2).1=i from c)]
    exact⟨.cons h1 z1,rfl⟩
def aFW{K:zAA}{kvs:List (Key×V)}{ps:List (Int×D)}{i:Int}{v:V}{d:D}(r:Rps K A H (kvs.map (·.2)) (ps.map (·.2)))(e:kvs.map (·.1)=ps.map λ p=>(zB5 p.1:Key))(h:Rp K A H v d):
  Rps K A H ((putK kvs (.inl i) v).map (·.2)) ((tG ps i d).map (·.2))/\(putK kvs (.inl i) v).map (·.1)=(tG ps i d).map λ p=>(zB5 p.1:Key):=by
 unfold putK tG;rw[aHF e];split
 .exact aFL h r e
 .rw[zAc,zAc,zAc,zAc,e]
  exact⟨r.append (.cons h .nil),rfl⟩
def uH{K:zAA}{kvs:List (Key×V)}{ps:List (Int×D)}(h:H a=some (.dK kvs))(m:A a)(r:Rps K (λ p=>A p/\p≠a) H (kvs.map (·.2)) (ps.map (·.2)))(e:kvs.map (·.1)=ps.map λ p=>(zB5 p.1:Key)):Rp K A H (.ref a) (rO ps):=by
 have e1:(kvs.map λ p=>kD p.1)=ps.map λ p=>.int p.1:=by
  rw[show(kvs.map λ p=>kD p.1)=(kvs.map (·.1)).map kD by rw[zAU];rfl,e,zAU];rfl
 have:=Rp.dK h m r
 rw[e1]at this;exact this
def um:D->D->Option (List (Int×D)×Int)
 | .dct ks vs,.int i=>(gU ks vs).map λ ps=>(ps,i)
 |_,_=>none
def pdS(i:Nat)(fk fe:En->Rs D):En->Ou:=λ Y=>match Y[i]? with
 |some (.ow c)=>(fe Y).bo λ d=>(fk Y).bo λ k=>match um c k with
  |some (ps,j)=>if ps.length<zAK then .nx (Y.set i (.ow (rO (tG ps j d))))else .st
  |none=>.st
 |_=>.st
def aBj(h:um c k=some (ps,j)):∃ks vs,c= .dct ks vs/\k= .int j/\gU ks vs=some ps:=by
 unfold um at h;split at h
 .rename_i ks vs i
  cases hp:gU ks vs with
  |none=>rw[hp]at h;cases h
  |some ps'=>rw[hp]at h;cases h;exact⟨ks,vs,rfl,rfl,hp⟩
 .cases h
section
variable{C:Ct}{pos tpos p:Pos}{ek e:Expr}{fk fe:En->Rs D}{x:Str}{m m1:Mode}
def aH4(i:Nat)(hk:SE C m1 ek fk)(he:SE C m e fe)(hm:okN m=true:=by rfl)(hN:∀j,(C.X j).N[i]? =some x:=by intro _;rfl)(hv:∀j,Vis (C.X j).env.scope x:=by intro _;first|exact zBm rfl|exact zBK (zBm rfl)|exact zBK (zBK rfl))(hd:Nd x:=by decide)
  (hcd:(x==("__classdict__":Str))=false:=by decide)(hs:∀j,zCG e (some (.Subscript (.Name x p) ek tpos)) pos.line (C.X j).env=pure false:=by intro _;rfl):
  SS C (.Assign [.Subscript (.Name x p) ek tpos] e pos) (pdS i fk fe):=by
 obtain⟨tk,k1,k2⟩:=hk;obtain⟨te,e1,e2⟩:=he;refine⟨aJj (jR i) tk te,λ j=>aIF (by have:=(C.room j).un;lia) (cu (hN j) (hv j) hd hcd) (k1 j) (e1 j) (hs j),λ U Z H Y lab De R W=>?_⟩;unfold pdS at W;cases es:Y[i]? with
 |none=>rw[es]at W;exact zAF W
 |some s=>
  rw[es]at W;split at W
  .rename_i c hs
   cases hs;rcases R.sl i _ es with z|⟨v,ev,hv'⟩
   .cases z
   .obtain⟨hv1,htop⟩:=hv'
    refine e2 U Z H Y lab _ R (W.bo.imp λ d _ w0 y H2 s2 r2=>⟨v,ev,?_⟩);refine k2 U Z H2 Y lab _ (R.up s2) (w0.bo.imp λ k _ w kv H3 s3 r3=>?_);clear w0;cases hj:um c k with
    |none=>rw[hj]at w;exact zAF w
    |some q=>
     obtain⟨ps,j⟩:=q;rw[hj]at w;dsimp only at w;obtain⟨ks,vs,rfl,rfl,hp⟩:=aBj hj;obtain⟨a0,ea0,la0⟩:=htop rfl;subst ea0;have ey:=r3.int_inv;subst ey;obtain⟨a1,kvs,ea,h,mm,r,hk⟩:=hv1.dctI_inv hp;cases ea;by_cases hz:ps.length<zAK
     .rw[if_pos hz]at w
      have hW:kvs.length=ps.length:=by have:=congrArg zGk hk;simpa using this
      have h3:H3 a0=some (.dK kvs):=(s2.trans s3) _ _ h;refine⟨a0,_,rfl,aHP.k (k:=.inl j) (v:=y) h3 (by rw[hW];exact hz),?_⟩;obtain⟨R',r'⟩:=R.fresh (P:=λ k=>k=1) rfl (λ k hk=>beq_iff_eq.mp (lC hm k hk)) s2 r2;have la:(bV H 1 lab a0).1=i+2:=by rw[bD h];exact la0
      have B:jF a0 H3 (upd H3 a0 (.dK (putK kvs (.inl j) y))):=λ b' o ne hb=>by rw[aL ne];exact hb
      obtain⟨q1,q2⟩:=aFW (i:=j) (A:=λ p=>((bV H 1 lab p).1=1\/(bV H 1 lab p).1=i+2)/\p≠a0) (r.mono (s2.trans s3) λ p o e z=>⟨by rw[bD e];exact z.1,z.2⟩) hk ((r'.up s3).wk λ p o e z=>⟨.inl z,λ q=>by subst q;rw[la]at z;lia⟩);refine w Z _ _ ((R'.up s3).mut ev h3 rfl la B ⟨uH aR (.inr la) (q1.but B h3 rfl λ z=>z.2 rfl) q2,λ _=>⟨a0,rfl,la⟩⟩)
     .rw[if_neg hz]at w
      exact zAF w
  .exact zAF W
end
def prT:D->Option (Int×D)
 | .tup [.int i,v]=>some (i,v)
 |_=>none
def lX:List D->Option (List (Int×D))
 |[]=>some []
 |d::ds=>match prT d,lX ds with
  |some p,some ps=>some (p::ps)
  |_,_=>none
def aF6(h:prT d=some p):d= .tup [.int p.1,p.2]:=by
 unfold prT at h;split at h
 .cases h;rfl
 .cases h
def uq(h:lX (d::ds)=some ps):∃p qs,d= .tup [.int p.1,p.2]/\lX ds=some qs/\ps=p::qs:=by
 unfold lX at h;split at h
 .rename_i p qs h1 h2
  cases h;exact⟨p,qs,aF6 h1,h2,rfl⟩
 .cases h
def mV(acc qs:List (Int×D)):List (Int×D):=qs.foldl (λ ps q=>tG ps q.1 q.2) acc
def dcI(fi:En->Rs (List D))(js:hZ)(fg:D->En->Rs En)(ft:En->Rs Bool)(fk fv:En->Rs D):En->Rs D:=λ Y=>(fi (shE Y)).bd λ ds=>
 if ds.length<zAK then(match lcL (stE js (shE Y)) fg ft (pairE fk fv) ds with
  | .ok l=>(match lX l with
   |some qs=>.ok (rO (mV [] qs))
   |none=>.st)
  |_=>.st)else .st
def aMa(tk tv:TE):Addr->L2.St->Hp->(Hp->Prop)->Prop:=λ D Z H Q=>tk Z H λ y H1=>tv Z H1 λ v H2=>∃i kvs,y= .int i/\H2 D=some (.dK kvs)/\kvs.length<zAK/\Q (upd H2 D (.dK (putK kvs (.inl i) v)))
def aNF{X:Cx}{kx vx:Expr}{tk tv:TE}(hk:PE X kx tk)(hv:PE X vx tv):PB X (v7 kx vx) (aMa tk tv):=by
 intro D hV s Z H Q I h;unfold v7;refine zAQ (thn (hk hV s Z H _ I h) λ u s1 ⟨y,H1,I1,r1,q1⟩=>zAQ (zCw (thn (hv hV s1 Z H1 _ I1 q1) λ u2 s2 ⟨v,H2,I2,r2,i,kvs,ey,hD,hl,q⟩=>?_)));subst ey;refine zAQ (zEO (zCw ?_));obtain⟨z,hd,vs,rel,dd⟩:=sW I2.hok hD;have hz:vs.length<=zAK:=by rw[<-rel.length];exact z
 have hl2:(putK kvs (.inl i) v).length<=zAK:=by have:=jO kvs (.inl i) v;lia
 refine wpAny_dictSet_pairs (knd:=bR X.prog X.w) (k:=.inl i) (hsz:=hz) (xR (k:=.inl i) r1) dd λ h' dd' hs=>⟨_,?_,q⟩
 have he:∃q,h'.get? D=some q:=let⟨q,_,_,hq,_⟩:=dd';⟨q,hq⟩
 exact uI I2 (t':=s2.toks+1) (by rw[hD];exact zBv) hs he (aCP hl2 hd (rel.put (.inl i) r2) dd')
def aMY:aHR prog w newDict (λ ob=>ob={cls:=.type "dict",data:=.dict #[]}) (λ _=>.dK []) where
 make:=λ h=>zBi (h _ rfl)
 live:=by rintro ob rfl;rfl
 ok:=by
  rintro H h a ob rfl hg hb;exact⟨zAj _,beq_eq_false_iff_ne.mpr (zC0 (zAa hb)),[],.nil,_,#[],0,hg,⟨rfl,rfl,rfl⟩,rfl,λ _ he=>(by simp at he),Pairs.nil,zC3⟩
def vN(acc qs:List (Int×D))(q:Int×D):mV acc (qs++[q])=tG (mV acc qs) q.1 q.2:=by unfold mV;rw[zDc];rfl
theorem aAT:∀{l m:List D} {ps:List (Int×D)},lX (l++m)=some ps->∃p1 p2,lX l=some p1/\lX m=some p2/\ps=p1++p2
 |[],m,ps,h=>⟨[],ps,rfl,h,rfl⟩
 |d::l,m,ps,h=>by
  obtain⟨p,qs,rfl,h2,rfl⟩:=uq h;obtain⟨p1,p2,e1,e2,rfl⟩:=aAT h2;exact⟨p::p1,p2,by unfold lX;rw[e1];rfl,e2,rfl⟩
theorem xF(p:Int×D):∀{l:List D} {ps:List (Int×D)},lX l=some ps->lX (l++[.tup [.int p.1,p.2]])=some (ps++[p])
 |[],ps,h=>by cases h;rfl
 |d::l,ps,h=>by
  obtain⟨q,qs,rfl,h2,rfl⟩:=uq h;rw[zBj];unfold lX;rw[xF p h2];rfl
section
variable{K:zAA}{G:Gx}{wi:TI}{fi:En->Rs (List D)}{g:TG}{fg:D->En->Rs En}{tt:TT}{ft:En->Rs Bool}{tk tv:TE}{fk fv:En->Rs D}{js:hZ}
def aK3(hi:aJ2 K G wi fi)(hg:aJ3 K {G with E:=λ _ _ _=>False} g fg)(ht:aCY K {G with E:=λ _ _ _=>False} tt ft)(hk:gm K {G with E:=λ _ _ _=>False} (some []) tk fk)(hv:gm K {G with E:=λ _ _ _=>False} (some []) tv fv):
  gm K G (some []) (aMk (λ _=>.dK []) wi (stV js) g tt (aMa tk tv)) (dcI fi js fg ft fk fv):=by
 intro U Z H Y lab Q R W;refine hi U Z H _ _ _ R.shE (W.bd.imp λ ds _ w J H1 lab1 U1 s1 _ R1 jl=>?_);intro l hl;obtain⟨hW,out,qs,hout,hqs,w⟩:ds.length<zAK/\∃out qs,lcL (stE js (VL.shE Y)) fg ft (pairE fk fv) ds= .ok out/\lX out=some qs/\QE K (some []) lab H Q (rO (mV [] qs)):=by
  by_cases hW:ds.length<zAK
  .rw[if_pos hW]at w
   cases hout:lcL (stE js (VL.shE Y)) fg ft (pairE fk fv) ds with
   |ok out=>
    rw[hout]at w;dsimp only at w;cases hns:lX out with
    |some ns=>rw[hns]at w;exact⟨hW,out,ns,rfl,hns,w⟩
    |none=>rw[hns]at w;exact zAF w
   |ex c=>rw[hout]at w;exact zAF w
   |st=>rw[hout]at w;exact zAF w
  .rw[if_neg hW]at w
   exact zAF w
 have R0:RR K {G with E:=λ _ _ _=>False} (U1++U) (VL.shE Y) Z H1 (λ _=>(0,0)):=R1.blk0 rfl;have RB:=R0.block (js:=js) (λ _=>zAj _) hl;have hHl:H l=none:=s1.free hl;have h0l:G.H0 l=none:=R1.old.free hl;refine⟨λ i n H2=>∃(kvs:List (Key×V)) (pre:List D) (qp:List (Int×D)),n=ds.length-i/\i<=ds.length/\H2 l=some (.dK kvs)/\kvs.length<=i/\lX pre=some qp/\Rps K (λ p=>H p=none/\p≠l) H2 (kvs.map (·.2)) ((mV [] qp).map (·.2))/\(kvs.map (·.1)=(mV [] qp).map λ p=>(zB5 p.1:Key))/\
  RR K {G with E:=λ _ _ _=>False} (U1++U) (stE js (VL.shE Y)) (stV js Z) H2 (λ p=>if p=l then(2,0)else(0,0))/\aO H H2/\
  ∃post,lcL (stE js (VL.shE Y)) fg ft (pairE fk fv) (ds.drop i)= .ok post/\out=pre++post,⟨ds.length,[],[],[],by lia,by lia,aR,zAP _,rfl,.nil,rfl,RB.up (ak hl _),s1.trans (ak hl _),out,hout,rfl⟩,?_⟩
 rintro i n H2 ⟨kvs,pre,qp,rfl,hi,hD,hei,hqp,rv,rk,R2,s2,post,hpost,eout⟩;have jj:=jl _ H2 λ q hq=>R2.tm q (zA4 _ hq)
 by_cases hlt:i<ds.length
 .obtain⟨go,yl⟩:=(jj i).2 hlt
  refine .inr ⟨go,λ x H3 hy=>?_⟩;obtain⟨s3,d,ed,rx⟩:=yl x H3 hy;replace R2:=R2.up s3;replace hD:=s3 _ _ hD;replace s2:=s2.trans s3;replace rv:=rv.up s3;have ed2:ds.drop i=d::ds.drop (i+1):=by
   rw[zBq hlt]
   have:=zAH hlt
   rw[ed]at this;cases this;rfl
  rw[ed2]at hpost;obtain⟨Y1,k,e1,e2,e3⟩:=aA9 hpost;refine hg (U1++U) x d _ H3 _ _ _ Y1 R2 rx e1 λ Z4 R4=>?_
  refine ht (U1++U) Z4 H3 Y1 _ _ R4 ?_;rw[e2];intro H5 s5;rcases e3 with ⟨rfl,y,ys,e3,e4,rfl⟩|⟨rfl,e4⟩
  .rw[if_pos rfl]
   obtain⟨kd,vd,e5,e6,rfl⟩:=aFo e3;obtain⟨p,k3,q3,q4⟩:∃(p:Int×D) (k3:List (Int×D)),D.tup [kd,vd]= .tup [.int p.1,p.2]/\lX ys=some k3:=by
    rw[eout]at hqs;obtain⟨p1,p2,_,q2,_⟩:=aAT hqs;obtain⟨p,k3,a1,a2,_⟩:=uq q2;exact⟨p,k3,a1,a2⟩
   injection q3 with q3
   injection q3 with q5 q6
   injection q6 with q6
   subst q5 q6;refine hk (U1++U) Z4 H5 Y1 _ _ (R4.up s5) ?_;rw[e5];intro v H6 s6 r6;refine hv (U1++U) Z4 H6 Y1 _ _ ((R4.up s5).up s6) ?_;rw[e6];intro v2 H7 s7 r7;have ey:=r6.int_inv;subst ey;have hD7:H7 l=some (.dK kvs):=((s5.trans s6).trans s7) _ _ hD;have B:jF l H7 (upd H7 l (.dK (putK kvs (.inl p.1) v2))):=λ b o ne hb=>by rw[aL ne];exact hb
   obtain⟨z1,z2⟩:=aFW (i:=p.1) (A:=λ q=>H q=none/\q≠l) (rv.up ((s5.trans s6).trans s7)) rk (r7.wk λ q o _ z=>by
    rcases z with z|z
    .exact⟨((s2.trans s5).trans s6).free z,λ e=>by subst e;rw[(s5.trans s6) _ _ hD]at z;cases z⟩
    .cases z)
   refine⟨p.1,kvs,rfl,hD7,by lia,ds.length-(i+1),by lia,putK kvs (.inl p.1) v2,pre++[.tup [.int p.1,p.2]],qp++[p],rfl,hlt,aR,by have:=jO kvs (.inl p.1) v2;lia,xF p hqp,?_,?_,(R2.up ((s5.trans s6).trans s7)).but_blk B hD7 rfl h0l,?_,ys,e4,by rw[eout];simp⟩
   .rw[vN]
    exact z1.but B hD7 rfl λ z=>z.2 rfl
   .rw[vN]
    exact z2
   .exact λ b o hb=>B b o (λ z=>by subst z;rw[hHl]at hb;cases hb) ((((s2.trans s5).trans s6).trans s7) b o hb)
  .rw[if_neg zA7]
   exact⟨ds.length-(i+1),by lia,kvs,pre,qp,rfl,hlt,s5 _ _ hD,by lia,hqp,rv.up s5,rk,R2.up s5,s2.trans s5,post,e4,eout⟩
 .have ei:i=ds.length:=by lia
  subst ei;rw[zDC]at hpost;cases hpost;rw[zBB]at eout;subst eout;rw[hqs]at hqp;cases hqp;exact .inl ⟨(jj _).1 (zAP _),w _ H2 s2 (uH hD (.inl hHl) (rv.wk λ p o _ z=>⟨.inl z.1,z.2⟩) rk)⟩
end
section
variable{C:Ct}{pos:Pos}{kx vx tg iter:Expr}{ifs:List Expr}{sc:Scope}{N:List Str}{js:hZ}{ks:List Nat}{fi:En->Rs (List D)}{fg:D->En->Rs En}{ft:En->Rs Bool}{fk fv:En->Rs D}
def aJi(hi:SI C tg iter fi)(hg:SG (C.blk sc N) tg ks fg)(ht:aHL (C.blk sc N) ifs ft)(hk:SE (C.blk sc N) (some []) kx fk)(hv:SE (C.blk sc N) (some []) vx fv)(hs:∀i x,zBO iter (C.X i).env x=pure x:=by intro _ _;rfl)(hB:∀i,dX (C.X i) sc N (stV js) ks:=by intro _;exact z7 rfl rfl rfl rfl rfl rfl):SE C (some []) (.DictComp kx vx [⟨tg,iter,ifs,0⟩] sc pos) (dcI fi js fg ft fk fv):=by
 obtain⟨wi,i1,i2⟩:=hi;obtain⟨g,g1,g2,g3,g4⟩:=hg;obtain⟨tt,t1,t2⟩:=ht;obtain⟨tk,k1,k2⟩:=hk;obtain⟨tv,v1,v2⟩:=hv;exact⟨_,λ i=>aNE (pos:=pos) (hB i) (C.calm i) (i1 i) (λ c fp z5 zI=>g1 (i,c,fp,z5,zI)) g3 (λ c fp z5 zI=>t1 (i,c,fp,z5,zI)) (aD2 kx vx tg iter ifs sc pos) (aB0 kx vx tg iter ifs sc pos) aMY (λ c fp z5 zI=>aNF (X:=(C.X i).block sc c N fp z5 zI) (k1 (i,c,fp,z5,zI)) (v1 (i,c,fp,z5,zI))) rfl rfl (hs i),aK3 i2 g2 t2 k2 v2⟩
end
def aAz(l:List D):D->Rs D
 | .int i=>match intsOf l with
  |some is=>.ok (.int (is.countP λ a=>a==i:Nat))
  |none=>.st
 |_=>.st
def isL:D->Option (List D)
 | .lst l=>some l
 |_=>none
def opL(fd:List D->D->Rs D)(fo fe:En->Rs D):En->Rs D:=λ Y=>(fo Y).bd λ d=>match isL d with
 |some l=>(fe Y).bd λ e=>okD (fd l e)
 |none=>.st
theorem ww{H:Hp}:∀is:List Int,L2.jH H (is.map V.int) (is.map L2.D.int)
 |[]=>.nil
 |i::is=>.cons (.int i) (ww is)
theorem aCR:∀is:List Int,L2.dJ (is.map L2.D.int)=0/\L2.bC (is.map L2.D.int)=true
 |[]=>⟨rfl,rfl⟩
 |i::is=>by
  obtain⟨h1,h2⟩:=aCR is;simp[L2.dJ,L2.iu,L2.bC,L2.aY,h1,h2]
def aGG{K:zAA}(r:Rp K A H x (.lst l))(h:intsOf l=some is):∃a,x= .ref a/\H a=some (.lst (is.map V.int)):=by
 rw[cT h]at r;obtain⟨a,xs,rfl,h1,_,r1⟩:=r.lst_inv;have e:=r1.ints_of;subst e;exact⟨a,rfl,h1⟩
section
variable{C:Ct}{m m1:Mode}{o e:Expr}{fo fe:En->Rs D}{apos cpos:Pos}
def aFA(ho:SE C m o fo)(he:SE C m1 e fe)(hs1:∀j,zAY [e] (C.X j).env=[(false,eval e (C.X j).env)]:=by intro _;rfl)(hbase:∀j,zBV o "count" (C.X j).env (eval o (C.X j).env)=eval o (C.X j).env:=by intro _;rfl)
  (hfew:∀j,((zCE cpos (zAY [e] (C.X j).env)).all (λ x=>!x.1)&&(zEL cpos (zCl [] (C.X j).env)).all (λ x=>x.1.isSome)&&decide ([e].length+([]:List zBw).length+(if ([]:List zBw).isEmpty then 0 else 1)<30))=true:=by intro _;rfl)
  (hline:(apos.endLine==cpos.line)=true:=by rfl):SE C (some []) (.Call (.Attribute o "count" apos) [e] [] cpos) (opL aAz fo fe):=by
 obtain⟨t,h1,h2⟩:=ho;obtain⟨u,k1,k2⟩:=he;refine⟨tBM C.K "list" aCj t (gO u nU),λ j=>by rw[<-C.hK j];exact ut zBN zCa zF3 (aDr (by have:=(C.room j).un;lia)) (h1 j) (aW (k1 j) cI (hs1 j)) (hbase j) (hfew j) hline (hs1 j) rfl,λ U Z H Y lab Q R W=>?_⟩;refine h2 U Z H Y lab _ R (W.bd.imp λ d _ w x H1 s1 r1=>?_);cases d with
 |lst l=>
  obtain⟨a,xs,rfl,ha,_⟩:=r1.lst_inv;replace w:WR C.G ((fe Y).bd λ e=>okD (aAz l e)) (QE C.K (some []) lab H Q):=w;refine⟨.inl ⟨rfl,xs,SqL.of ha⟩,k2 U Z H1 Y lab _ (R.up s1) (w.bd.imp λ e _ w y H2 s2 r2=>?_)⟩;obtain⟨z,ez,wz⟩:=w.okD;cases e with
  |int i=>
   unfold aAz at ez;dsimp only at ez;cases hi:intsOf l with
   |none=>rw[hi]at ez;cases ez
   |some is=>
    rw[hi]at ez;dsimp only at ez;have ey:=r2.int_inv;subst ey;obtain⟨a',ea,hl⟩:=aGG (r1.up s2) hi;cases ea;cases ez;refine⟨a,.int i,.int i,is.map L2.D.int,rfl,rfl,.lst hl (ww is),.int i,by rw[(aCR is).1];decide,rfl,(aCR is).2,?_⟩;rw[zEA];exact wz _ H2 (s1.trans s2) (.int _)
  |_=>cases ez
 |_=>exact zAF w
end
def aEW{X:Cx}:cU X (.type "int") (λ xs H Q=>∃b,xs=[.bl b]/\Q (.int (if b=true then 1 else 0)) H):=by
 intro hV s Z H xs us Q I r h;obtain⟨b,rfl,q⟩:=h;obtain⟨u,rfl,r1⟩:=vals1 r;cases r1;exact call_int_bool ⟨.int _,H,I.tok _,⟨_,rfl⟩,q⟩
def mQ:List D->Rs D
 |[.bl b]=>.ok (.int (if b=true then 1 else 0))
 |_=>.st
def aJR{K:zAA}:oU K (λ xs H Q=>∃b,xs=[.bl b]/\Q (.int (if b=true then 1 else 0)) H) mQ:=by
 intro A xs ds H Q z r ez q;unfold mQ at ez;split at ez
 .cases ez
  cases r with
  |cons h' r=>cases h';cases r;exact⟨_,rfl,q _ H (aO.refl H) (.int _)⟩
 .cases ez
def aG4:∀x z,mQ x= .ok z->imm z=true:=by
 intro x z e;unfold mQ at e;split at e
 .cases e;rfl
 .cases e
section
variable{C:Ct}{pos p:Pos}{m:Mode}{a:Expr}{ga:En->Rs (List D)}
def aHl(hm:C.mg "int"=none)(ha:SA C m [a] ga)(he:∀i,zAY [a] (C.X i).env=[(false,eval a (C.X i).env)]:=by intro _;rfl)(hg:∀i,Gl (C.X i) "int":=by intro _;rfl)(hv:zAv "int"=some (.type "int"):=by decide+kernel):SE C (some []) (.Call (.Name "int" p) [a] [] pos) (opA mQ ga):=
 cW (aAG (λ i=>aEW) aJR hg hm hv ha (by decide) (by decide) he) λ _ _ h=>lK aG4 h
end
end VL
namespace PySem
open Sem(wp)
section
variable{prog:zAS}{w:World}
inductive zm{K:Type}[DecidableEq K](knd:KeyKind prog w K)(h:Heap):List Value->List (K×Value)->Prop where
 |nil:zm knd h [] []
 |cons {x:Addr} {o:Obj} {n:Nat} {kv v:Value} {k:K} {us:List Value} {ps:List (K×Value)} (ho:h.get? x=some o) (hc:o.cls= .type "tuple") (hd:o.data= .seq #[kv,v] n) (hk:knd.is k kv=true) (r:zm knd h us ps):zm knd h (.ref x::us) ((k,v)::ps)
end
end PySem
namespace VL
open PySem PySem.Spec PyProof.Rows L2
section
variable{K:Type}[DecidableEq K]
end
end VL
namespace L2
open PySem PySem.Spec PyProof.Rows
def yD:Value->Bool
 | .bool b=>b
 |_=>false
theorem yJ:∀{bs:List Bool} {us:List Value},Vals (bs.map V.bl) us->us=bs.map zCU
 |[],_,.nil=>rfl
 |b::bs,_,.cons h t=>by rw[yJ t];cases h;rfl
def aDK{A:zA8}{s:zAB}{bs:List Bool}:∀y∈bs.map zCU,zBs A s y (.bool true) (yD y):=λ y hy=>by
 obtain⟨b,_,rfl⟩:=zAX.mp hy
 have:=zDk (A:=A) (s:=s) b true
 cases b<;>exact this
def aHx:V->List V->Hp->VK->Prop:=λ x xs H Q=>∃(a:Addr) (bs:List Bool),x= .ref a/\xs=[.bl true]/\H a=some (.lst (bs.map V.bl))/\Q (.int (bs.count true:Nat)) H
def aHv:V->List V->Hp->VK->Prop:=λ x xs H Q=>∃(a:Addr) (bs:List Bool) (j:Nat),x= .ref a/\xs=[.bl true]/\H a=some (.lst (bs.map V.bl))/\bs[j]? =some true/\(∀m,m<j->bs[m]? =some false)/\Q (.int (j:Nat)) H
section
variable{X:Cx}
def aDs:MtR X "list.count" aHx:=by
 intro hV s Z H x xs v us Q I rx rxs h;obtain⟨a,bs,rfl,rfl,ha,q⟩:=h;cases rx;obtain⟨u,rfl,ru⟩:=vals1 rxs;cases ru;obtain⟨_,its,n,rv,e⟩:=I.hok a _ ha;have ei:=yJ rv;subst ei;refine zCF zCa ⟨_,e,rfl⟩ zFO (zFG _ _) (zGp a _ n none #[] (.bool true) yD) ⟨e,λ y hy=>aDK y (by simpa using hy),?_⟩
 have:(bs.map zCU).countP yD=bs.count true:=by
  rw[zEA];unfold List.count;congr 1;funext b;cases b<;>rfl
 rw[show(bs.map zCU).toArray.toList=bs.map zCU from rfl,this];exact⟨.int _,H,I.tok _,⟨_,rfl⟩,q⟩
def aDp:MtR X "list.index" aHv:=by
 intro hV s Z H x xs v us Q I rx rxs h;obtain⟨a,bs,j,rfl,rfl,ha,hj,hm,q⟩:=h;cases rx;obtain⟨u,rfl,ru⟩:=vals1 rxs;cases ru;obtain⟨hz,its,n,rv,e⟩:=I.hok a _ ha;have ei:=yJ rv;subst ei;rw[zAD]at hz;have hl:=(zAJ.mp hj).1;have h62:zAK<2^62:=by decide
 refine zCF zF1 ⟨_,e,rfl⟩ PySem.F.entry_list_index (PySem.F.args_list_index_2 _ _) (SeqAt.list_indexAt a _ n none #[] (.bool true) yD j (by simpa using hl) (by lia) ?_ λ m hm1 hmj=>?_) ⟨e,λ y hy=>aDK y (by simpa using hy),⟨.int _,H,I.tok _,⟨_,rfl⟩,q⟩⟩
 .rw[zAH hl]at hj
  simpa[yD]using hj
 .have h2:=hm m hmj
  rw[zAH (by lia)]at h2;simpa[yD]using h2
end
section
variable{X:Cx}{n0 n1 n2 odd:Str}{c1 c2:V}{k1 k2 k3 k4:List V}{l1 l2:List Str}{a1 a2:Expr}{as1 as2 e1 e2 e3 e4 w1 w2:List Expr}{kw1 kw2:List zBw}{Q:VK}{H:Hp}{vs:List V}
 {p1 p2 p3 p4 p5 p6 p7 p8 p9 p10 p11 p12 p13 p14 p15 p16 p17 p18 p19 p20 p21 p22 p23 p24 p25 p26 p27 p28 p29 p30 p31 p32 p33 p34 p35 p36 p37 p38 p39 p40:Pos}{q1 q2 q3 q4 q5 q6 q7:Pos}{j1 j2 j3 j4 j5:Nat}{E0:XK}{wd:Addr->Option Str}
end
section
variable{P:zAS}{w:World}{K:zAA}{mg:Str->Option Value}{base:Heap}{x q n0 n1 n2 odd:Str}{st:Stmt}{f:Addr}{fd:zAo}{k:Nat}{wd:Addr->Option Str}{c1 c2:V}{k1 k2 k3 k4:List V}{l1 l2:List Str}{a1 a2:Expr}{as1 as2 e1 e2 e3 e4 w1 w2:List Expr}{kw1 kw2:List zBw}
 {p1 p2 p3 p4 p5 p6 p7 p8 p9 p10 p11 p12 p13 p14 p15 p16 p17 p18 p19 p20 p21 p22 p23 p24 p25 p26 p27 p28 p29 p30 p31 p32 p33 p34 p35 p36 p37 p38 p39 p40:Pos}{q1 q2 q3 q4 q5 q6 q7:Pos}{j1 j2 j3 j4 j5:Nat}
end
section
variable{X:Cx}{n0 n1 n2 odd:Str}{c1 c2:V}{k1 k2 k3 k4:List V}{l1 l2:List Str}{a1 a2:Expr}{as1 as2 e1 e2 e3 e4 w1 w2:List Expr}{kw1 kw2:List zBw}{Q:VK}{H:Hp}{vs:List V}
 {p1 p2 p3 p4 p5 p6 p7 p8 p9 p10 p11 p12 p13 p14 p15 p16 p17 p18 p19 p20 p21 p22 p23 p24 p25 p26 p27 p28 p29 p30 p31 p32 p33 p34 p35 p36 p37 p38 p39 p40:Pos}{q1 q2 q3 q4 q5 q6 q7:Pos}{j1 j2 j3 j4 j5:Nat}{E0:XK}{wd:Addr->Option Str}
def aBC(hN:X.N=[n0,n1,n2])(nd:X.N.Nodup)(m0:X.env.scope.names.lookup n0=some .local)(m1:X.env.scope.names.lookup n1=some .local)(m2:X.env.scope.names.lookup n2=some .local)
  (h1:PE X (.Call a1 as1 kw1 p1) (aBY X.K c1))(h2:PE X (.Call a2 as2 kw2 p2) (aBY X.K c2))(g1:PA X e1 (lQ X.K k1))(g2:PA X e2 (lQ X.K k2))(g3:PA X e3 (lQ X.K k3))(g4:PA X e4 (lQ X.K k4))(g5:PA X w1 (wY l1))(g6:PA X w2 (wY l2))
  (hl1:(p20.endLine==p21.line)=true)(hl2:(p30.endLine==p31.line)=true)(hz:(l1++l2).length<=100)(h:spW wd vs H Q E0)(hw:∀C w,wd C=some w->Wd X.K c1 c2 [k1,k2,k3,k4] (l1++l2) C w)
  (d0:Nd n0:=by decide)(d1:Nd n1:=by decide)(d2:Nd n2:=by decide)
  (f0:(n0==("__classdict__":Str))=false:=by decide)(f1:(n1==("__classdict__":Str))=false:=by decide)(f2:(n2==("__classdict__":Str))=false:=by decide):
  ∃t,PSs X [.If (.BoolOp .Or [.UnaryOp .Not (.Call a1 as1 kw1 p1) p3,.UnaryOp .Not (.Call a2 as2 kw2 p2) p4] p5) [.Return (some (.Constant (.str odd) j1 p6)) p7] [] p8,
   .Assign [.Name n1 p9] (.List e1 p10) p11,.Assign [.Name n1 p12] (.BinOp (.Name n1 p13) .Add (.List e2 p14) p15) p16,.Assign [.Name n1 p17] (.BinOp (.Name n1 p18) .Add (.List e3 p19) p22) p23,.Assign [.Name n1 p24] (.BinOp (.Name n1 p25) .Add (.List e4 p26) p27) p28,
   .If (.Compare (.Call (.Attribute (.Name n1 p29) "count" p20) [.Constant (.bool true) j2 p32] [] p21) [.NotEq] [.Constant (.int 1) j3 p33] p34) [.Return (some (.Constant (.str odd) j4 p35)) p36] [] p37,
   .Assign [.Name n2 p38] (.List w1 p39) p40,.Return (some (.Subscript (.BinOp (.Name n2 q1) .Add (.List w2 q2) q3) (.Call (.Attribute (.Name n1 q4) "index" p30) [.Constant (.bool true) j5 q5] [] p31) q6)) q7] t/\
   t {nx:=λ _ H'=>Q .non H',rt:=Q} (start X.N vs) H:=by
 obtain⟨ea,C,w,rfl,hH,hwd,hq⟩:=h;obtain⟨hk,hq1,hq2,b1,b2,b3,b4,j,k1',k2',k3',k4',ek,r1,r2,r3,r4,hW,hcnt,hj,hjm,hjw⟩:=hw C w hwd;cases ek;have i0:X.N[0]? =some n0:=by rw[hN];rfl
 have i1:X.N[1]? =some n1:=by rw[hN];rfl
 have i2:X.N[2]? =some n2:=by rw[hN];rfl
 have v1:∀{pos:Pos},PE X (.Name n1 pos) (jR 1):=λ{pos}=>cu i1 (.inl m1) d1 f1
 have cat:∀{pp pq pr:Pos} {es:List Expr} {ks:List V},PA X es (lQ X.K ks)->PE X (.BinOp (.Name n1 pp) .Add (.List es pq) pr) (tOp aFT (jR 1) (aEg (lQ X.K ks))):=λ g=>aFf yp v1 (lB g)
 refine⟨_,dG (aCl (aJu (aBk (aFY h1)) (aFV (aBk (aFY h2)))).pt (jL (uo dm)) uC)
  (dG (km nd i1 (.inl m1) (lB g1) (hf:=.inr m1)) (dG (km nd i1 (.inl m1) (cat g2) (hf:=.inr m1)) (dG (km nd i1 (.inl m1) (cat g3) (hf:=.inr m1)) (dG (km nd i1 (.inl m1) (cat g4) (hf:=.inr m1))
  (dG (aCl (aKq (aLD (ut zBN zCa zF3 aDs v1 (aW aFn cI) (hline:=hl1)) aFh)) (jL (uo dm)) uC)
  (dG (km nd i2 (.inl m2) (lB g5) (hf:=.inr m2)) (jL (uo (aFg zL (aFf yp (cu i2 (.inl m2) d2 f2) (lB g6)) (ut zBN zF1 PySem.F.type_list_index aDp v1 (aW aFn cI) (hline:=hl2)) λ _ _=>rfl))))))))),?_⟩
 have hs:start X.N [.ref ea]=[some (.ref ea),none,none]:=by rw[hN];rfl
 rw[hs];have sz:∀{n:Nat},n<=100->n<=zAK:=λ h=>zAh h (by decide)
 simp only[zAT]at hW hz;refine yM (ea:=ea) rfl hH hk hq1 ⟨true,rfl,yM (ea:=ea) rfl hH hk hq2 ⟨true,rfl,?_⟩⟩;refine lu (ea:=ea) rfl hH hk r1 ⟨sz (by rw[zAD];omega),λ a1 H1 s1 ha1 _=>?_⟩;refine⟨.ref a1,rfl,lu (ea:=ea) rfl (s1 _ _ hH) hk r2 ⟨sz (by rw[zAD];omega),λ x2 G2 t2 hx2 _=>⟨a1,x2,_,_,rfl,rfl,t2 _ _ ha1,hx2,sz (by simp only[zAD];omega),λ a2 H2 s2 ha2 _=>?_⟩⟩⟩;have hH2:=s2 _ _ (t2 _ _ (s1 _ _ hH));refine⟨.ref a2,rfl,lu (ea:=ea) rfl hH2 hk r3 ⟨sz (by rw[zAD];omega),λ x3 G3 t3 hx3 _=>⟨a2,x3,_,_,rfl,rfl,t3 _ _ ha2,hx3,sz (by simp only[zAD,zAT];omega),λ a3 H3 s3 ha3 _=>?_⟩⟩⟩;have hH3:=s3 _ _ (t3 _ _ hH2);refine⟨.ref a3,rfl,lu (ea:=ea) rfl hH3 hk r4 ⟨sz (by rw[zAD];omega),λ x4 G4 t4 hx4 _=>⟨a3,x4,_,_,rfl,rfl,t4 _ _ ha3,hx4,sz (by simp only[zAD,zAT];omega),λ a4 H4 s4 ha4 _=>?_⟩⟩⟩;rw[<-zAc,<-zAc,<-zAc]at ha4;generalize hbs:b1++b2++b3++b4=bs at hcnt hj hjm ha4;refine⟨.ref a4,rfl,.inl ⟨rfl,_,.inl (.inl ha4)⟩,a4,bs,rfl,rfl,ha4,1,1,by rw[hcnt];rfl,rfl,false,rfl,?_⟩;refine uN ⟨sz (by rw[zAD];omega),λ a5 H5 s5 ha5 _=>?_⟩;refine⟨.ref a5,rfl,uN ⟨sz (by rw[zAD];omega),λ x6 G6 t6 hx6 _=>⟨a5,x6,_,_,rfl,rfl,t6 _ _ ha5,hx6,sz (by simp only[zAD];omega),λ a7 H7 s7 ha7 _=>?_⟩⟩⟩;have ha4':=s7 _ _ (t6 _ _ (s5 _ _ ha4));refine⟨.ref a4,rfl,.inl ⟨rfl,_,.inl (.inl ha4')⟩,a4,bs,j,rfl,rfl,ha4',hj,hjm,a7,_,_,.str w,rfl,rfl,.inl (.inl ha7),?_,?_⟩
 .rw[<-zAc]
  have hjl:j<(l1++l2).length:=(zAJ.mp hjw).1;unfold atI ixN;rw[if_pos (zHL j),zAD,if_pos (by omega),zHW]
  show((l1++l2).map V.str)[j]? =_
  rw[zAZ,hjw];rfl
 .exact hq _ λ b o e=>s7 _ _ (t6 _ _ (s5 _ _ (s4 _ _ (t4 _ _ (s3 _ _ (t3 _ _ (s2 _ _ (t2 _ _ (s1 _ _ e)))))))))
end
section
variable{P:zAS}{w:World}{K:zAA}{mg:Str->Option Value}{base:Heap}{x q n0 n1 n2 odd:Str}{st:Stmt}{f:Addr}{fd:zAo}{k:Nat}{wd:Addr->Option Str}{c1 c2:V}{k1 k2 k3 k4:List V}{l1 l2:List Str}{a1 a2:Expr}{as1 as2 e1 e2 e3 e4 w1 w2:List Expr}{kw1 kw2:List zBw}
 {p1 p2 p3 p4 p5 p6 p7 p8 p9 p10 p11 p12 p13 p14 p15 p16 p17 p18 p19 p20 p21 p22 p23 p24 p25 p26 p27 p28 p29 p30 p31 p32 p33 p34 p35 p36 p37 p38 p39 p40:Pos}{q1 q2 q3 q4 q5 q6 q7:Pos}{j1 j2 j3 j4 j5:Nat}
def aEO(F:Fun K x q st f fd)(S:aZ [n0,n1,n2] [n0] (aF st))
  (hst:cN st=[.If (.BoolOp .Or [.UnaryOp .Not (.Call a1 as1 kw1 p1) p3,.UnaryOp .Not (.Call a2 as2 kw2 p2) p4] p5) [.Return (some (.Constant (.str odd) j1 p6)) p7] [] p8,
   .Assign [.Name n1 p9] (.List e1 p10) p11,.Assign [.Name n1 p12] (.BinOp (.Name n1 p13) .Add (.List e2 p14) p15) p16,.Assign [.Name n1 p17] (.BinOp (.Name n1 p18) .Add (.List e3 p19) p22) p23,.Assign [.Name n1 p24] (.BinOp (.Name n1 p25) .Add (.List e4 p26) p27) p28,
   .If (.Compare (.Call (.Attribute (.Name n1 p29) "count" p20) [.Constant (.bool true) j2 p32] [] p21) [.NotEq] [.Constant (.int 1) j3 p33] p34) [.Return (some (.Constant (.str odd) j4 p35)) p36] [] p37,
   .Assign [.Name n2 p38] (.List w1 p39) p40,.Return (some (.Subscript (.BinOp (.Name n2 q1) .Add (.List w2 q2) q3) (.Call (.Attribute (.Name n1 q4) "index" p30) [.Constant (.bool true) j5 q5] [] p31) q6)) q7])
  (m0:(aF st).names.lookup n0=some .local)(m1:(aF st).names.lookup n1=some .local)(m2:(aF st).names.lookup n2=some .local)
  (h:∀(cdv:Value) (A:zA8) (outer:List Env) (s:zAB) (H:Hp),PE (cxH P w K mg base [n0,n1,n2] q (aF st) f cdv A outer s H) (.Call a1 as1 kw1 p1) (aBY K c1)/\PE (cxH P w K mg base [n0,n1,n2] q (aF st) f cdv A outer s H) (.Call a2 as2 kw2 p2) (aBY K c2)/\
   PA (cxH P w K mg base [n0,n1,n2] q (aF st) f cdv A outer s H) e1 (lQ K k1)/\PA (cxH P w K mg base [n0,n1,n2] q (aF st) f cdv A outer s H) e2 (lQ K k2)/\PA (cxH P w K mg base [n0,n1,n2] q (aF st) f cdv A outer s H) e3 (lQ K k3)/\
   PA (cxH P w K mg base [n0,n1,n2] q (aF st) f cdv A outer s H) e4 (lQ K k4)/\PA (cxH P w K mg base [n0,n1,n2] q (aF st) f cdv A outer s H) w1 (wY l1)/\PA (cxH P w K mg base [n0,n1,n2] q (aF st) f cdv A outer s H) w2 (wY l2))
  (hl1:(p20.endLine==p21.line)=true)(hl2:(p30.endLine==p31.line)=true)(hz:(l1++l2).length<=100)(hw:∀C w,wd C=some w->Wd K c1 c2 [k1,k2,k3,k4] (l1++l2) C w)
  (d0:Nd n0:=by decide)(d1:Nd n1:=by decide)(d2:Nd n2:=by decide)
  (f0:(n0==("__classdict__":Str))=false:=by decide)(f1:(n1==("__classdict__":Str))=false:=by decide)(f2:(n2==("__classdict__":Str))=false:=by decide):
  FnH P w K mg base 1 f fd [n0] (spW wd):=by
 refine F.okH (k:=0) S (λ vs H Q E ⟨_,_,_,e,_⟩=>by rw[e];rfl) λ cdv A outer s H vs Q E hr hsp=>?_
 obtain⟨g1,g2,g3,g4,g5,g6,g7,g8⟩:=h cdv A outer s H;rw[hst];exact aBC (X:=cxH P w K mg base [n0,n1,n2] q (aF st) f cdv A outer s H) rfl S.nd m0 m1 m2 g1 g2 g3 g4 g5 g6 g7 g8 hl1 hl2 hz hsp hw d0 d1 d2 f0 f1 f2
end
end L2
namespace VL
open PySem PySem.Spec PyProof.Rows L2
def dnr{K:zAA}{h:Heap}{mg:Str->Option Value}{x:Str}{st:Stmt}(X:K.In h)(G:h.Ns zA2 mg)(e:∃f d,Enr K x st f d)(ps:List Str)
  (hb:∀(kV doc pm:Value) (an:Option Addr) (cdv ct:Value) (us:List Value),us.length=ps.length->zHy (zB2 x x (lL st) (cN st) (aF st) .none kV doc pm an cdv ct) ⟨us,[]⟩=pure (ps.zip us):=by
   intro _ _ _ _ _ _ us hl;repeat' first|rfl|(simp at hl;done)|rcases us with _|⟨_,us⟩):∃f d,Dnr K mg x st ps f d/\zAd K zA2 x=some (some (.ref f)):=by
 obtain⟨f,d,F,a⟩:=e;exact⟨f,d,⟨F,zAf X G a,F.binds hb⟩,a⟩
end VL
namespace L2
open PySem PySem.Spec PyProof.Rows
end L2
namespace VL
open PySem PySem.Spec PyProof.Rows L2
theorem KV.at:∀{kvs:List (Key×V)} {vs:List (Key×Value)},KV kvs vs->vs.map (·.1)=kvs.map (·.1)
 |_,_,.nil=>rfl
 |_,_,.cons e r=>by rw[zAE,zAE,KV.at r,e.1]
section
variable{C:Ct}{pos p p2:Pos}{m:Mode}{a:Expr}{fa:En->Rs D}{lo hi:Option Expr}
def slI(d:D)(lo hi:Option Int):Rs D:=match d with
 | .lst l=>if dI (cutD l lo hi)=true then .ok (.lst (cutD l lo hi))else .st
 |_=>.st
def aB3(fa:En->Rs D)(fl fh:En->Rs (Option Int)):En->Rs D:=λ Y=>(fa Y).bd λ d=>(fl Y).bd λ l=>(fh Y).bd λ h=>okD (slI d l h)
def aD9{fl fh:En->Rs (Option Int)}(ha:SE C m a fa)(hl:SO C lo fl)(hh:SO C hi fh):SE C (some []) (.Subscript a (.Slice lo hi none p2) pos) (aB3 fa fl fh):=by
 obtain⟨t,h1,h2⟩:=ha;obtain⟨tl,l1,l2⟩:=hl;obtain⟨th,k1,k2⟩:=hh;refine⟨tSl (aMt C.K) t tl th,λ i=>by rw[<-C.hK i];exact aFe aNu (h1 i) (l1 i) (k1 i),λ U Z H Y lab Q R W=>h2 U Z H Y lab _ R (W.bd.imp λ d _ w x H1 s1 r1=>?_)⟩;refine l2 U Z H1 Y lab _ (R.up s1) (w.bd.imp λ ol _ w H2 s2=>?_);refine k2 U Z H2 Y lab _ ((R.up s1).up s2) (w.bd.imp λ oh _ w H3 s3=>?_);obtain⟨z,ez,w⟩:=w.okD;have s:=s1.trans (s2.trans s3);have r3:=r1.up (s2.trans s3);cases d with
 |lst l=>
  unfold slI at ez;dsimp only at ez;split at ez
  .rename_i hi
   cases ez;obtain⟨p0,xs,rfl,h,mm,r⟩:=r3.lst_inv;exact .inr ⟨_,_,rfl,SqL.of h,λ p hp=>w _ _ (s.trans (ak hp _)) (.lst aR (.inl (s.free hp)) (((r.cut ol oh).imm hi).up (ak hp _)))⟩
  .cases ez
 |_=>cases ez
end
def aOI(A:zA8)(s:zAB)(v u:Value)(b:Bool):Prop:=∀(prog:zAS) (w:World) (E:Value->zAB->Prop) (Q:Value->zAB->Prop),Q (.bool b) s->wpAny (model prog w) A (zGU .Gt v u) Q E s
inductive aE2(A:zA8)(s:zAB):List Value->List Value->Bool->Prop
 |nn:aE2 A s [] [] false
 |nc:aE2 A s [] (v::vs) false
 |cn:aE2 A s (v::vs) [] true
 |eq:zBs A s v u true->aE2 A s vs us b->aE2 A s (v::vs) (u::us) b
 |un:zBs A s v u false->aOI A s v u b->aE2 A s (v::vs) (u::us) b
section
open PySem.SeqAt
open PySem.AutoSeq1(wpAny_loadPart')
open PySem.MeetsSeq PySem.MeetsSeq2 PySem.MeetsSeq3
end
section
theorem aKB:∀{l:List D} {d:D},dI l=true->d∈l->imm d=true
 |_::_,d,h,hm=>by
  simp only[dI,zAC]at h;rcases zAN.mp hm with rfl|hm
  .exact h.1
  .exact aKB h.2 hm
structure Cmp(f:D->D->Option Bool)(l:List D):Prop where
 n0:0<l.length
 im:dI l=true
 nd:bC l=true
 dp:dJ l<=40
 cm:∀x∈l,∀y∈l,(f x y).isSome=true
instance:Decidable (Cmp f l):=if h:0<l.length/\dI l=true/\bC l=true/\dJ l<=40/\∀x∈l,∀y∈l,(f x y).isSome=true then .isTrue ⟨h.1,h.2.1,h.2.2.1,h.2.2.2.1,h.2.2.2.2⟩else .isFalse λ z=>h ⟨z.n0,z.im,z.nd,z.dp,z.cm⟩
end
def aOH(A:zA8)(s:zAB)(v u:Value)(b:Bool):Prop:=∀(prog:zAS) (w:World) (E:Value->zAB->Prop) (Q:Value->zAB->Prop),Q (.bool b) s->wpAny (model prog w) A (zGU .Lt v u) Q E s
inductive aE1(A:zA8)(s:zAB):List Value->List Value->Bool->Prop
 |nn:aE1 A s [] [] false
 |nc:aE1 A s [] (v::vs) true
 |cn:aE1 A s (v::vs) [] false
 |eq:zBs A s v u true->aE1 A s vs us b->aE1 A s (v::vs) (u::us) b
 |un:zBs A s v u false->aOH A s v u b->aE1 A s (v::vs) (u::us) b
section
open PySem.SeqAt
open PySem.AutoSeq1(wpAny_loadPart')
open PySem.MeetsSeq PySem.MeetsSeq2 PySem.MeetsSeq3
end
def aJM(i k:Nat):En->Ou:=λ Y=>match Y[i]?,Y[k]? with
 |some (.ow (.lst ds)),some (.ow (.lst es))=>if ds.length+es.length<=zAK/\dI es=true then .nx (Y.set i (.ow (.lst (ds++es))))else .st
 |_,_=>.st
section
variable{C:Ct}{pos apos cpos p p':Pos}{i k:Nat}{x y:Str}
def aB2(i k:Nat)(hN:∀j,(C.X j).N[i]? =some x:=by intro _;rfl)(hv:∀j,Vis (C.X j).env.scope x:=by intro _;first|exact zBm rfl|exact zBK (zBm rfl)|exact zBK (zBK rfl))(hd:Nd x:=by decide)
  (hcd:(x==("__classdict__":Str))=false:=by decide)(hN':∀j,(C.X j).N[k]? =some y:=by intro _;rfl)(hv':∀j,Vis (C.X j).env.scope y:=by intro _;first|exact zBm rfl|exact zBK (zBm rfl)|exact zBK (zBK rfl))(hd':Nd y:=by decide)
  (hcd':(y==("__classdict__":Str))=false:=by decide)(hs1:∀j,zAY [.Name y p'] (C.X j).env=[(false,eval (.Name y p') (C.X j).env)]:=by intro _;rfl)
  (hbase:∀j,zBV (.Name x p) "extend" (C.X j).env (eval (.Name x p) (C.X j).env)=eval (.Name x p) (C.X j).env:=by intro _;rfl)
  (hfew:∀j,((zCE cpos (zAY [.Name y p'] (C.X j).env)).all (λ x=>!x.1)&&(zEL cpos (zCl [] (C.X j).env)).all (λ x=>x.1.isSome)&&decide ([Expr.Name y p'].length+([]:List zBw).length+(if ([]:List zBw).isEmpty then 0 else 1)<30))=true:=by intro _;rfl)
  (hline:(apos.endLine==cpos.line)=true:=by rfl)
  (hsw:∀j,zCG (.Call (.Attribute (.Name x p) "extend" apos) [.Name y p'] [] cpos) none pos.line (C.X j).env=pure false:=by intro _;rfl):
  SS C (.Expr (.Call (.Attribute (.Name x p) "extend" apos) [.Name y p'] [] cpos) pos) (aJM i k):=by
 refine⟨rW (tBM C.K "list" aAP (jR i) (gO (jR k) nU)),λ j=>lA (by rw[<-C.hK j];exact ut zBN zGX PySem.F.type_list_extend aBu (cu (hN j) (hv j) hd hcd) (aW (cu (hN' j) (hv' j) hd' hcd') cI (hs1 j)) (hbase j) (hfew j) hline (hs1 j) rfl) (hsw j),λ U Z H Y lab De R W=>?_⟩;unfold aJM at W;split at W
 .rename_i ds es e1 e2
  by_cases hz:ds.length+es.length<=zAK/\dI es=true
  .rw[if_pos hz]at W
   rcases R.sl i _ e1 with z|⟨v,ev,hv1,htop⟩
   .cases z
   rcases R.sl k _ e2 with z|⟨v2,ev2,hv2,_⟩
   .cases z
   obtain⟨a0,ea0,la0⟩:=htop rfl;subst ea0;obtain⟨a1,xs,ea1,h,mm,r⟩:=hv1.lst_inv;cases ea1;obtain⟨b,zs,eb,hb,mb,rb⟩:=hv2.lst_inv;subst eb;refine⟨.ref a0,ev,.inl ⟨rfl,xs,SqL.of h⟩,.ref b,ev2,a0,b,xs,zs,rfl,rfl,h,hb,by rw[r.length,rb.length];exact hz.1,λ H3 B h3=>?_⟩;refine W Z H3 _ (R.mut ev h rfl la0 B ⟨.lst h3 (.inr la0) ?_,λ _=>⟨a0,rfl,la0⟩⟩);exact(r.append (rb.imm hz.2)).but B h rfl λ z=>z.2 rfl
  .rw[if_neg hz]at W
   exact zAF W
 .exact zAF W
end
mutual
def gR:D->D->Bool
 | .non,.non=>true
 | .bl a,.bl b=>a==b
 | .int a,.int b=>a==b
 | .tup l,.tup m=>fJ l m
 |_,_=>false
def fJ:List D->List D->Bool
 |[],[]=>true
 |x::xs,y::ys=>gR x y&&fJ xs ys
 |_,_=>false
end
mutual
theorem aFC:∀(a b:D),gR a b=true->a=b
 | .non,b,h=>by cases b<;>simp[gR]at h;rfl
 | .bl a,b,h=>by cases b<;>simp[gR]at h;rw[h]
 | .int a,b,h=>by cases b<;>simp[gR]at h;rw[h]
 | .tup l,b,h=>by cases b<;>simp[gR]at h;rw[qj _ _ h]
 | .str _,b,h=>by simp[gR]at h
 | .lst _,b,h=>by simp[gR]at h
 | .dct _ _,b,h=>by simp[gR]at h
 | .set _,b,h=>by simp[gR]at h
 | .scr _,b,h=>by simp[gR]at h
 | .fn _,b,h=>by simp[gR]at h
theorem qj:∀(a b:List D),fJ a b=true->a=b
 |[],b,h=>by cases b<;>simp[fJ]at h;rfl
 |x::xs,b,h=>by
  cases b with
  |nil=>simp[fJ]at h
  |cons y ys=>
   simp only[fJ,zAC]at h;rw[aFC _ _ h.1,qj _ _ h.2]
end
def WK(K:zAA)(G:Gx)(U:List (V×D))(k:Nat)(v0:V)(o:Ou)(De:Ends):Prop:=match o with
 | .nx Y=>∀Z H lab,RR K G U Y Z H lab->Z[k]? =some (some v0)->De.nx Z H
 | .bk Y=>∀Z H lab,RR K G U Y Z H lab->Z[k]? =some (some v0)->De.bk Z H
 | .ct Y=>∀Z H lab,RR K G U Y Z H lab->Z[k]? =some (some v0)->De.ct Z H
 | .rt d=>∀v H,aO G.H0 H->Rp K (λ p=>G.H0 p=none) H v d->De.rt v H
 | .ex c=>∀H',aO G.H0 H'->G.E (.ref (G.cl c)) none H'
 | .st=>False
theorem WK.bo{K:zAA}{G:Gx}{r:Rs α}{g:α->Ou}(h:WK K G U k v0 (r.bo g) De):WR G r (λ a=>WK K G U k v0 (g a) De):=by
 cases r with
 |ok a=>exact h
 |ex c=>exact h
 |st=>exact h
def aNd(K:zAA)(G:Gx)(k:Nat)(t:TS)(f:En->Ou):Prop:=∀U Z H Y lab (De:Ends) (v0:V),RR K G U Y Z H lab->Z[k]? =some (some v0)->WK K G U k v0 (f Y) De->t De Z H
def SSk(C:Ct)(k:Nat)(s:Stmt)(f:En->Ou):Prop:=∃t,(∀i,PS (C.X i) s t)/\aNd C.K C.G k t f
def aCZ(C:Ct)(k:Nat)(s:List Stmt)(f:En->Ou):Prop:=∃t,(∀i,PSs (C.X i) s t)/\aNd C.K C.G k t f
section
variable{C:Ct}{pos apos cpos p:Pos}{s:Stmt}{ss:List Stmt}{f g:En->Ou}{e a:Expr}{m:Mode}{fe:En->Rs D}{k i:Nat}{x:Str}
def aEo:aCZ C k [] .nx:=⟨_,λ _=>uC,λ U Z H Y lab De v0 R f0 W=>W Z H lab R f0⟩
def aAC(h:SSk C k s f):aCZ C k [s] f:=let⟨t,h1,h2⟩:=h;⟨t,λ i=>jL (h1 i),h2⟩
def my(h:SSk C k s f)(kk:aCZ C k ss g):aCZ C k (s::ss) (aq f g):=by
 obtain⟨t,h1,h2⟩:=h;obtain⟨u,k1,k2⟩:=kk;refine⟨_,λ i=>dG (h1 i) (k1 i),λ U Z H Y lab De v0 R f0 W=>h2 U Z H Y lab _ v0 R f0 ?_⟩;unfold aq at W;cases h:f Y with
 |nx Y'=>rw[h]at W;exact λ Z' H' lab' R' f'=>k2 U Z' H' Y' lab' De v0 R' f' W
 |rt d=>rw[h]at W;exact W
 |bk Y'=>rw[h]at W;exact W
 |ct Y'=>rw[h]at W;exact W
 |ex c=>rw[h]at W;exact W
 |st=>rw[h]at W;exact W
def aK0{a b:List Stmt}{c:Expr}{fc:En->Rs Bool}(hc:ST C c fc)(ha:aCZ C k a f)(hb:aCZ C k b g):SSk C k (.If c a b pos) (ifS fc f g):=by
 obtain⟨tc,c1,c2⟩:=hc;obtain⟨t,h1,h2⟩:=ha;obtain⟨u,k1,k2⟩:=hb;refine⟨_,λ i=>aCl (c1 i) (h1 i) (k1 i),λ U Z H Y lab De v0 R f0 W=>c2 U Z H Y lab _ R (WK.bo W |>.imp λ q _ w H1 s1=>?_)⟩;cases q with
 |true=>rw[if_pos rfl]at w ⊢;exact h2 U Z H1 Y lab De v0 (R.up s1) f0 w
 |false=>rw[if_neg zA7]at w ⊢;exact k2 U Z H1 Y lab De v0 (R.up s1) f0 w
def pX(h:SV C i s m fe)(hm:okS m=true:=by rfl)(hk:(k==i)=false:=by rfl):SSk C k s (cV i fe):=by
 obtain⟨t,h1,h2⟩:=h;refine⟨_,h1,λ U Z H Y lab De v0 R f0 W=>h2 U Z H Y lab _ R (WK.bo W |>.imp λ d _ w v H' s r=>?_)⟩;obtain⟨R',r'⟩:=R.shared hm s r;exact w _ _ _ (R'.put (s:=.sh d) r') (by rw[zBD (λ e=>by rw[e]at hk;simp at hk)];exact f0)
def aB1(i:Nat)(he:SE C m e fe)(hm:okN m=true:=by rfl)(hN:∀j,(C.X j).N[i]? =some x:=by intro _;rfl)(hv:∀j,Vis (C.X j).env.scope x:=by intro _;first|exact zBm rfl|exact zBK (zBm rfl)|exact zBK (zBK rfl))(hd:Nd x:=by decide)
  (hcd:(x==("__classdict__":Str))=false:=by decide)(hs1:∀j,zAY [e] (C.X j).env=[(false,eval e (C.X j).env)]:=by intro _;rfl)
  (hbase:∀j,zBV (.Name x p) "append" (C.X j).env (eval (.Name x p) (C.X j).env)=eval (.Name x p) (C.X j).env:=by intro _;rfl)
  (hfew:∀j,((zCE cpos (zAY [e] (C.X j).env)).all (λ x=>!x.1)&&(zEL cpos (zCl [] (C.X j).env)).all (λ x=>x.1.isSome)&&decide ([e].length+([]:List zBw).length+(if ([]:List zBw).isEmpty then 0 else 1)<30))=true:=by intro _;rfl)
  (hline:(apos.endLine==cpos.line)=true:=by rfl)
  (hsw:∀j,zCG (.Call (.Attribute (.Name x p) "append" apos) [e] [] cpos) none pos.line (C.X j).env=pure false:=by intro _;rfl):
  SSk C k (.Expr (.Call (.Attribute (.Name x p) "append" apos) [e] [] cpos) pos) (rP i fe):=by
 obtain⟨t,h1,h2⟩:=he;refine⟨rW (tBM C.K "list" qG (jR i) (gO t nU)),λ j=>lA (by rw[<-C.hK j];exact ut zBN zCf zD2 pC (cu (hN j) (hv j) hd hcd) (aW (h1 j) cI (hs1 j)) (hbase j) (hfew j) hline (hs1 j) rfl) (hsw j),λ U Z H Y lab De v0 R f0 W=>?_⟩;unfold rP at W;cases es:Y[i]? with
 |none=>rw[es]at W;exact zAF W
 |some s=>
  rw[es]at W;split at W
  .rename_i ds hs
   cases hs;rcases R.sl i _ es with z|⟨v,ev,hv'⟩
   .cases z
   .obtain⟨hv1,htop⟩:=hv'
    obtain⟨a0,ea0,la0⟩:=htop rfl;subst ea0;cases hv1 with
    |lst h mm r=>
     rename_i xs;refine⟨.ref a0,ev,.inl ⟨rfl,xs,SqL.of h⟩,h2 U Z H Y lab _ R (WK.bo W |>.imp λ d _ w y H2 s2 r2=>?_)⟩;by_cases hz:ds.length<zAK
     .rw[if_pos hz]at w
      refine⟨a0,xs,y,rfl,rfl,s2 _ _ h,by rw[r.length];exact hz,λ H3 B h3=>?_⟩;obtain⟨R',r'⟩:=R.fresh (P:=λ k=>k=1) rfl (λ k hk=>beq_iff_eq.mp (lC hm k hk)) s2 r2;have la:(bV H 1 lab a0).1=i+2:=by rw[bD h];exact la0
      refine w Z H3 _ (R'.mut ev (s2 _ _ h) rfl la B ⟨.lst h3 (.inr la) ?_,λ _=>⟨a0,rfl,la⟩⟩) f0;have ra:Rps C.K (λ p=>((bV H 1 lab p).1=1\/(bV H 1 lab p).1=i+2)/\p≠a0) H2 (xs++[y]) (ds++[d]):=by
       refine(r.mono s2 λ p o e z=>⟨by rw[bD e];exact z.1,z.2⟩).append (.cons (r'.wk λ p o e z=>⟨.inl z,λ q=>?_⟩) .nil);subst q;rw[la]at z;lia
      exact ra.but B (s2 _ _ h) rfl λ z=>z.2 rfl
     .rw[if_neg hz]at w
      exact zAF w
  .exact zAF W
def rZ(k:Nat)(l:List D)(Y:En):Bool:=match Y[k]? with
 |some (.ow (.lst m))=>fJ m l
 |_=>false
def mU(k:Nat)(l:List D)(fg:D->En->Rs En)(b:En->Ou):List D->En->Ou
 |[],Y=>if rZ k l Y=true then .nx Y else .st
 |d::ds,Y=>if rZ k l Y=true then(match fg d Y with
  | .ok Y1=>match b Y1 with
   | .nx Y2=>mU k l fg b ds Y2
   | .ct Y2=>mU k l fg b ds Y2
   | .bk _=>.st
   |o=>o
  |_=>.st)else .st
def aJG(k:Nat)(fg:D->En->Rs En)(b:En->Ou):En->Ou:=λ Y=>match Y[k]? with
 |some (.ow (.lst l))=>if dI l=true then mU k l fg b l Y else .st
 |_=>.st
def aH5{tg:Expr}{ks:List Nat}{fg:D->En->Rs En}(k:Nat)(hg:SG C tg ks fg)(hb:aCZ C k ss f)(hk:k∉ks:=by decide)(hN:∀j,(C.X j).N[k]? =some x:=by intro _;rfl)(hv:∀j,Vis (C.X j).env.scope x:=by intro _;first|exact zBm rfl|exact zBK (zBm rfl)|exact zBK (zBK rfl))(hd:Nd x:=by decide)
  (hcd:(x==("__classdict__":Str))=false:=by decide)(hs:∀i,∀y,zBO (.Name x p) (C.X i).env y=pure y:=by intro _ _;rfl):SS C (.For tg (.Name x p) ss [] pos) (aJG k fg f):=by
 obtain⟨gg,g1,g2,g3,g4⟩:=hg;obtain⟨tb,b1,b2⟩:=hb;refine⟨aMg (aLq C.K (jR k)) gg tb,λ i=>aF3 (C.own i) (C.calm i) (by rw[<-C.hK i];exact aF9 (cu (hN i) (hv i) hd hcd)) (g1 i) (b1 i) (hs i),λ U Z H Y lab De R W=>?_⟩;unfold aJG at W;split at W
 .rename_i l e1
  by_cases him:dI l=true
  .rw[if_pos him]at W
   rcases R.sl k _ e1 with z|⟨v,ev,hv1,htop⟩
   .cases z
   obtain⟨a0,xs,rfl,h,mm,r⟩:=hv1.lst_inv;refine⟨.ref a0,ev,a0,rfl,.inl ⟨⟨xs,SqL.of h⟩,?_⟩⟩;refine⟨λ i n Z' H'=>∃Y' lab',RR C.K C.G U Y' Z' H' lab'/\Z'[k]? =some (some (.ref a0))/\n=l.length-i/\i<=l.length/\WS C.K C.G U (mU k l fg f (l.drop i) Y') De,⟨l.length,Y,lab,R,ev,by lia,by lia,W⟩,?_⟩;rintro i n Z' H' ⟨Y',lab',R',f',rfl,hi,w'⟩;have own:rZ k l Y'=true->∃(P:Addr->Prop) (xs':List V),H' a0=some (.lst xs')/\Rps C.K P H' xs' l:=λ o=>by
    unfold rZ at o;split at o
    .rename_i m e2
     have:=qj m l o
     subst this;rcases R'.sl k _ e2 with z|⟨v,ev',hv',_⟩
     .cases z
     rw[f']at ev';cases ev';obtain⟨a1,xs',ea,h',mm',r'⟩:=hv'.lst_inv;cases ea;exact⟨_,xs',h',r'⟩
    .cases o
   by_cases hlt:i<l.length
   .have ed2:l.drop i=l[i]::l.drop (i+1):=zBq hlt
    rw[ed2]at w';unfold mU at w';by_cases o:rZ k l Y'=true
    .rw[if_pos o]at w'
     obtain⟨P,xs',h',r'⟩:=own o;have hl:=r'.length;refine .inr ⟨⟨xs',xs'[i]'(by lia),SqL.of h',zAH (by lia)⟩,λ Z2 H2=>∃Y2 lab2,RR C.K C.G U Y2 Z2 H2 lab2/\Z2[k]? =some (some (.ref a0))/\WS C.K C.G U (mU k l fg f (l.drop (i+1)) Y2) De,λ Z2 H2 ⟨Y2,lab2,R2,f2,w2⟩=>⟨l.length-(i+1),by lia,Y2,lab2,R2,f2,rfl,hlt,w2⟩,λ x H2 hy=>?_⟩;obtain⟨e,y⟩:=hy;subst e;obtain⟨d,ed,rd⟩:=r'.get (y xs' (SqL.of h'));rw[zAH hlt]at ed;cases ed;have rx:Rp C.K (λ p=>(lab' p).1<=1) H2 x l[i]:=rd.imm (aKB him (zEt hlt));cases eg:fg l[i] Y' with
     |ex c=>rw[eg]at w';exact zAF w'
     |st=>rw[eg]at w';exact zAF w'
     |ok Y1=>
      rw[eg]at w';have G:=g2 U x l[i] Z' H2 Y' lab' (λ Z1 H1=>RR C.K C.G U Y1 Z1 H2 lab'/\H1=H2) Y1 R' rx eg λ Z1 R1=>⟨R1,rfl⟩
      refine g4 _ _ _ _ _ (λ Z1 H1 z=>?_) (g3 _ _ _ _ G);obtain⟨⟨R1,e⟩,_,fr⟩:=z;subst e;refine b2 U Z1 H1 Y1 lab' _ (.ref a0) R1 ((fr k hk).trans f') ?_;dsimp only at w';cases eb:f Y1 with
      |nx Y2=>rw[eb]at w';exact λ Z2 H3 lab2 R2 f2=>⟨Y2,lab2,R2,f2,w'⟩
      |ct Y2=>rw[eb]at w';exact λ Z2 H3 lab2 R2 f2=>⟨Y2,lab2,R2,f2,w'⟩
      |bk Y2=>rw[eb]at w';exact zAF w'
      |rt d=>rw[eb]at w';exact w'
      |ex c=>rw[eb]at w';exact w'
      |st=>rw[eb]at w';exact w'
    .rw[if_neg o]at w'
     exact zAF w'
   .have e:i=l.length:=by lia
    subst e;rw[zDC]at w';unfold mU at w';by_cases o:rZ k l Y'=true
    .rw[if_pos o]at w'
     obtain⟨P,xs',h',r'⟩:=own o;exact .inl ⟨⟨xs',SqL.of h',by rw[r'.length];exact zAP _⟩,w' Z' H' lab' R'⟩
    .rw[if_neg o]at w'
     exact zAF w'
  .rw[if_neg him]at W
   exact zAF W
 .exact zAF W
end
def aD4(t:Tok)(a:Addr)(l:List Value)(n:Nat)(dd:Option Addr)(sl:Array (Option Value))(he:l.isEmpty=false):
  Meets (zFV.«tuple.__mul__» ⟨[.ref a,.int 0 t],[]⟩) (λ _ R s=>s.heap.get? a=some {cls:=.type "tuple",dict:=dd,data:=.seq l.toArray n,slots:=sl}/\
   R (.ok (.ret (zAu s.heap.objs.size))) {s with heap:=s.heap.push {cls:=zEG "tuple",data:=zHq #[]}}):=by
 have c0:¬(decide ((0:Int) < -2^63)||decide ((0:Int) ≥ 2^63))=true:=by decide
 have c1:¬(l.toArray.isEmpty||(0:Int)==1)=true:=by simp only[zEQ,he];simp
 have c2:(decide ((0:Int)<=0)||l.toArray.isEmpty)=true:=by simp
 refine .of_wp λ P w A R s h=>?_
 obtain⟨_,_,_,_,_⟩:=s;obtain⟨hl,h⟩:=h;wp_walk
 try rw[if_neg c0]
 wp_walk
 try rw[if_neg c1]
 wp_walk
 try rw[if_pos c2]
 wp_walk;exact⟨_,rfl,h⟩
def aD3(t:Tok)(a:Addr)(l:List Value)(n:Nat)(dd:Option Addr)(sl:Array (Option Value)):
  Meets (zFV.«tuple.__mul__» ⟨[.ref a,.int 1 t],[]⟩) (λ _ R s=>s.heap.get? a=some {cls:=.type "tuple",dict:=dd,data:=.seq l.toArray n,slots:=sl}/\
   R (.ok (.ret (zAu a))) s):=by
 have c0:¬(decide ((1:Int) < -2^63)||decide ((1:Int) ≥ 2^63))=true:=by decide
 have c1:(l.toArray.isEmpty||(1:Int)==1)=true:=by simp
 refine .of_wp λ P w A R s h=>?_
 obtain⟨_,_,_,_,_⟩:=s;obtain⟨hl,h⟩:=h;wp_walk
 try rw[if_neg c0]
 wp_walk
 try rw[if_pos c1]
 wp_walk;exact⟨_,rfl,h⟩
def aJn(K:zAA):R2:=λ x y H Q=>aFR K x y H Q\/∃a xs,x= .ref a/\SqT K H a xs/\xs≠[]/\((y= .int 0/\New H (.tup []) Q)\/(y= .int 1/\Q (.ref a) H))
def aIY:OpR X (zB7 .Mult) (aJn X.K):=by
 intro hV s Z H x y v u Q I rx ry h;rcases h with h|⟨a,xs,rfl,ha,hne,h⟩
 .exact aIZ hV s Z H x y v u Q I rx ry h
 .cases rx
  obtain⟨its,r,p1,_⟩:=I.tuple ha;obtain⟨⟨cls,dd,data,sl⟩,ho,hc,n,hd⟩:=id p1;simp only at hc hd;subst hc hd;have he:its.isEmpty=false:=by
   cases its with
   |nil=>exact absurd (r.nil_iff.mp rfl) hne
   |cons _ _=>rfl
  rcases h with ⟨rfl,q⟩|⟨rfl,q⟩
  .obtain⟨t,rfl⟩:=ry
   refine zCd (T:="tuple") (U:="int") (by decide) ⟨_,ho,rfl⟩ (λ s'=>zDI s' 0 t) yL zEU zBy uK zDy.lookup
    (zCF zBy (zDI s 0 t) zDx (zDl _ _) (uM 0 t a its.toArray n dd sl)
     ⟨ho,rfl,⟨_,ho,rfl⟩,zCF zDN ⟨_,ho,rfl⟩ zEz (zEn _ _) (aD4 t a its n dd sl he) ⟨ho,?_⟩⟩)
   refine⟨.ref s.heap.objs.size,_,I.laid (t':=s.toks) (o:=.tup []) (λ b ob q=>zAI _ q) (zAP _) ?_,rfl,q.at (I.hok.fresh (zAP _))⟩;exact⟨⟨by simp,NoD.push _⟩,_,.nil,zFA _ _⟩
  .obtain⟨t,rfl⟩:=ry
   refine zCd (T:="tuple") (U:="int") (by decide) ⟨_,ho,rfl⟩ (λ s'=>zDI s' 1 t) yL zEU zBy uK zDy.lookup
    (zCF zBy (zDI s 1 t) zDx (zDl _ _) (uM 1 t a its.toArray n dd sl)
     ⟨ho,rfl,⟨_,ho,rfl⟩,zCF zDN ⟨_,ho,rfl⟩ zEz (zEn _ _) (aD3 t a its n dd sl) ⟨ho,?_⟩⟩)
   exact⟨.ref a,H,I,rfl,q⟩
def aBs:D->D->Rs D
 | .tup l,.int k=>if k=0/\l.isEmpty=false then .ok (.tup [])else if k=1/\l.isEmpty=false then .ok (.tup l)else aI7 (.tup l) (.int k)
 |_,_=>.st
def aIW{K:zAA}:OpS K (aJn K) aBs:=by
 intro A x y d e H Q z rx ry ez q;unfold aBs at ez;split at ez
 .split at ez
  .rename_i hc
   obtain⟨rfl,c⟩:=hc;cases ez;cases ry;cases rx with
   |tup h r=>
    refine .inr ⟨_,_,rfl,h,λ e=>?_,.inl ⟨rfl,λ p H' s hp hn=>q _ H' s (.tup (SqT.of hp) .nil)⟩⟩;subst e;cases r;cases c
  .split at ez
   .rename_i hc
    obtain⟨rfl,c⟩:=hc;cases ez;cases ry;have rx':=rx;cases rx with
    |tup h r=>
     refine .inr ⟨_,_,rfl,h,λ e=>?_,.inr ⟨rfl,q _ H (aO.refl H) (rx'.wk λ _ _ _ z=>.inr z)⟩⟩;subst e;cases r;cases c
   .exact .inl (aIX _ _ _ _ _ _ _ _ rx ry ez q)
 .cases ez
section
variable{C:Ct}{pos:Pos}{a b:Expr}{fa fb:En->Rs D}{m1 m2:Mode}
def aHh(ha:SE C m1 a fa)(hb:SE C m2 b fb):SE C (jn m1 m2) (.BinOp a .Mult b pos) (op2 aBs fa fb):=ni (λ i=>by rw[<-C.hK i];exact aIY) aIW ha hb
end
def tR(i:Int):Nat:=if i==0 then 0 else i.natAbs.log2+1
def aJY(fo:En->Rs D):En->Rs D:=λ Y=>(fo Y).bd λ d=>match d with
 | .int i=>.ok (.int (tR i:Nat))
 |_=>.st
def aJt:V->List V->Hp->VK->Prop:=λ x xs H Q=>∃i:Int,x= .int i/\xs=[]/\Q (.int (tR i:Nat)) H
def aI8{X:Cx}:MtR X "int.bit_length" aJt:=by
 rintro hV s Z H x xs v us Q I rx rxs ⟨i,rfl,rfl,q⟩;obtain⟨t,rfl⟩:=(show∃t,v=zCt i t from rx);cases rxs;exact call_int_bit_length ⟨.int (tR i:Nat),H,I.tok _,⟨_,rfl⟩,q⟩
section
variable{C:Ct}{m:Mode}{o:Expr}{fo:En->Rs D}{apos cpos:Pos}
def aDa(ho:SE C m o fo)(hbase:∀j,zBV o "bit_length" (C.X j).env (eval o (C.X j).env)=eval o (C.X j).env:=by intro _;rfl)
  (hline:(apos.endLine==cpos.line)=true:=by rfl):SE C (some []) (.Call (.Attribute o "bit_length" apos) [] [] cpos) (aJY fo):=by
 obtain⟨t,h1,h2⟩:=ho;refine⟨aHZ C.K "int" aJt t,λ j=>by rw[<-C.hK j];exact aBn PySem.F.plainAttrs_int slot_int_bit_length type_int_bit_length aI8 (h1 j) (hbase j) hline,λ U Z H Y lab Q R W=>?_⟩;refine h2 U Z H Y lab _ R (W.bd.imp λ d _ w x H1 s1 r1=>?_);cases d with
 |int i=>
  have ey:=r1.int_inv;subst ey;exact⟨rfl,i,rfl,rfl,w _ H1 s1 (.int _)⟩
 |_=>exact zAF w
end
def aB4:D->D->Rs D:=i2 (λ i j=>decide (0<=j)&&decide (j<=1000000)&&decide (i.natAbs<2^64)) λ i j=>.int (i*2^j.toNat)
def aAE:D->D->Rs D:=i2 (λ _ j=>decide (0<=j)) λ i j=>.int (i / 2^j.toNat)
def m7:D->D->Rs D:=i2 (λ _ _=>true) λ i j=>.int (zC1 i j)
section
variable{C:Ct}{pos:Pos}{m1 m2:Mode}{a b:Expr}{fa fb:En->Rs D}
def aB6(ha:SE C m1 a fa)(hb:SE C m2 b fb):SE C (some []) (.BinOp a .LShift b pos) (op2 aB4 fa fb):=cW (ni (λ _=>aLK) (uv λ i j h=>by simp only[zAC,decide_eq_true_eq]at h;exact⟨h.1.1,h.1.2,h.2⟩) ha hb) λ _ _ h=>fU pI h
def aEy(ha:SE C m1 a fa)(hb:SE C m2 b fb):SE C (some []) (.BinOp a .RShift b pos) (op2 aAE fa fb):=cW (ni (λ _=>aLJ) (uv λ i j h=>by simpa using h) ha hb) λ _ _ h=>fU pI h
def uA(ha:SE C m1 a fa)(hb:SE C m2 b fb):SE C (some []) (.BinOp a .BitAnd b pos) (op2 m7 fa fb):=cW (ni (λ _=>aLX) aCq ha hb) λ _ _ h=>fU pI h
end
def wK(ks vs:List D):Option (List (List Int×D)):=match aGT ks with
 |some kk=>if kk.length=vs.length then some (kk.zip vs)else none
 |none=>none
def aGq(ps:List (List Int×D)):D:=.dct (.non::ps.map λ p=>.tup (p.1.map .int)) (ps.map (·.2))
theorem aC0:∀ps:List (List Int×D),(ps.map (·.1)).zip (ps.map (·.2))=ps
 |[]=>rfl
 |p::ps=>by rw[zAE,zAE,zBI,aC0 ps]
def aF5(ps:List (List Int×D)):wK (.non::ps.map λ p=>.tup (p.1.map .int)) (ps.map (·.2))=some ps:=by
 have e:aGT (.non::ps.map λ p=>D.tup (p.1.map .int))=some (ps.map (·.1)):=by
  show xO (ps.map λ p=>D.tup (p.1.map .int))=_;rw[show(ps.map λ p=>D.tup (p.1.map .int))=(ps.map (·.1)).map λ k=>D.tup (k.map .int)by rw[zAU];rfl];exact rD _
 unfold wK;rw[e];dsimp only;rw[if_pos (by rw[zAD,zAD]),aC0]
def DxO(K:zAA)(H:Hp)(a:Addr)(es:List Ent):Prop:=DxK K H a es\/(es=[]/\H a=some (.dK []))
def Rp.dctX_inv{K:zAA}(r:Rp K A H v (.dct ks vs))(h:wK ks vs=some ps):
  ∃a es,v= .ref a/\DxO K H a es/\A a/\Rps K (λ p=>A p/\p≠a) H (es.map (·.2.2)) (ps.map (·.2))/\es.map (·.1)=ps.map (·.1):=by
 unfold wK at h;cases hk:aGT ks with
 |none=>rw[hk]at h;cases h
 |some kk=>
  rw[hk]at h;dsimp only at h;split at h
  .rename_i hl
   cases h;have p1:(kk.zip vs).map (·.1)=kk:=zEv (by lia);have p2:(kk.zip vs).map (·.2)=vs:=zHZ (by lia);rw[p1,p2];clear p1 p2 hl;generalize hd:D.dct ks vs=d at r;cases r with
   |dT hh m r=>
    rename_i es ds;injection hd with q1 q2
    subst q1 q2;replace hk:xO (es.map λ e=>D.tup (e.1.map .int))=some kk:=hk;rw[show(es.map λ e=>D.tup (e.1.map .int))=(es.map (·.1)).map λ k=>D.tup (k.map .int)by rw[zAU];rfl,rD]at hk;exact⟨_,es,rfl,.inl hh,m,r,zAe hk⟩
   |dK hh m r=>
    rename_i kvs ds;injection hd with q1 q2
    subst q1 q2;cases kvs with
    |nil=>cases hk;exact⟨_,[],rfl,.inr ⟨rfl,hh⟩,m,r,rfl⟩
    |cons p ps=>
     obtain⟨p1,p2⟩:=p;cases p1<;>cases hk
   |_=>cases hd
  .cases h
def lkE(es:List Ent)(k:List Int):Option V:=(es.find? λ e=>decide (e.1=k)).map (·.2.2)
theorem aJz{K:zAA}{k:List Int}{d:D}:∀{es:List Ent} {ps:List (List Int×D)},Rps K A H (es.map (·.2.2)) (ps.map (·.2))->es.map (·.1)=ps.map (·.1)->ps.lookup k=some d->∃v,lkE es k=some v/\Rp K A H v d
 |[],[],_,_,h=>by cases h
 |[],_::_,_,e,_=>by cases e
 |_::_,[],_,e,_=>by cases e
 |p::es,q::ps,r,e,h=>by
  obtain⟨q1,q2⟩:=q;rw[zAE,zAE]at e r;injection e with e1 e2
  cases r with
  |cons h1 r=>
   unfold lkE;rw[zBe];rw[zAb]at h;by_cases c:p.1=k
   .have c2:(k==q1)=true:=by rw[beq_iff_eq,<-c];exact e1
    rw[c2]at h;cases h;rw[decide_eq_true c];exact⟨_,rfl,h1⟩
   .have c2:(k==q1)=false:=by rw[beq_eq_false_iff_ne];exact λ z=>c (e1.trans z.symm)
    rw[c2]at h;rw[decide_eq_false c];exact aJz r e2 h
def DxP.lk{k:List Int}{v:V}(p:DxP es xs)(h:lkE es k=some v):∃q,atKey xs k=some q/\RelV v q.2:=by
 unfold lkE at h;unfold atKey;unfold DxP at p;induction p with
 |nil=>cases h
 |cons q t ih=>
  rename_i e x es xs;rw[zBe]at h ⊢;rw[<-q.1];by_cases c:e.1=k
  .rw[decide_eq_true c]at h ⊢
   cases h;exact⟨_,rfl,q.2.2⟩
  .rw[decide_eq_false c]at h ⊢
   exact ih h
def aD5:D->D->Rs D
 | .dct ks vs,e=>match zK e,wK ks vs with
  |some k,some ps=>(match ps.lookup k with
   |some d=>.ok d
   |none=>.st)
  |_,_=>.st
 |_,_=>.st
def aJb(K:zAA)(td ty:TE):TE:=λ Z H Q=>td Z H λ x H1=>ty Z H1 λ y H2=>∃a b k es v,x= .ref a/\y= .ref b/\SqT K H2 b (k.map V.int)/\DxO K H2 a es/\lkE es k=some v/\Q v H2
def aIN{X:Cx}{o i:Expr}{pos:Pos}{td ty:TE}(hu:X.A.units+1<cLine)(ho:PE X o td)(hi:PE X i ty)(hs:aM3 i):PE X (.Subscript o i pos) (aJb X.K td ty):=by
 intro hV s Z H Q I h;refine aC4 zFH.lookup hs (thn (ho hV s Z H _ I h) λ u s1 ⟨x,H1,I1,rx,q1⟩=>thn (hi hV s1 Z H1 _ I1 q1) λ iv s2 ⟨y,H2,I2,ry,a,b,k,es,v,ex,ey,hb,hD,hl,q2⟩=>?_);subst ex ey;obtain rfl:u=zAu a:=rx;obtain rfl:iv=zAu b:=ry;obtain⟨hd,xs,pr,dd⟩:=aKG I2 hD;obtain⟨p,hp,rp⟩:=pr.lk hl;exact⟨dd.typeIs,zIB (zCv hu) (aLh I2 hb) dd hp ⟨v,H2,I2.tok _,rp,q2⟩⟩
section
variable{C:Ct}{m1 m2:Mode}{a b:Expr}{fa fb:En->Rs D}{pos:Pos}
def aK6(ha:SE C m1 a fa)(hb:SE C m2 b fb)(hp:qX b:=by exact λ _ _=>rfl):SE C m1 (.Subscript a b pos) (op2 aD5 fa fb):=by
 obtain⟨t,h1,h2⟩:=ha;obtain⟨u,k1,k2⟩:=hb;refine⟨aJb C.K t u,λ i=>by rw[<-C.hK i];exact aIN (by have:=(C.room i).un;lia) (h1 i) (k1 i) hp,λ U Z H Y lab Q R W=>?_⟩;refine h2 U Z H Y lab _ R (W.bd.imp λ d _ w x H1 s1 r1=>?_);refine k2 U Z H1 Y lab _ (R.up s1) (w.bd.imp λ e _ w y H2 s2 r2=>?_);obtain⟨z,ez,wz⟩:=w.okD;cases d with
 |dct ks vs=>
  unfold aD5 at ez;dsimp only at ez;cases hk:zK e with
  |none=>rw[hk]at ez;cases ez
  |some k=>
   cases hp2:wK ks vs with
   |none=>rw[hk,hp2]at ez;cases ez
   |some ps=>
    rw[hk,hp2]at ez;dsimp only at ez;rw[xQ hk]at r2;obtain⟨b,xs,rfl,hb1,hb2⟩:=r2.tup_inv;have exs:=hb2.ints_of;subst exs;obtain⟨a,es,rfl,g1,m,r,he⟩:=(r1.up s2).dctX_inv hp2;cases hl:ps.lookup k with
    |none=>rw[hl]at ez;cases ez
    |some d=>
     rw[hl]at ez;cases ez;obtain⟨v,e1,e2⟩:=aJz r he hl;exact⟨a,b,k,es,v,rfl,rfl,hb1,g1,e1,wz v H2 (s1.trans s2) (e2.wk λ p o _ q=>q.1)⟩
 |_=>cases ez
end
def jc(es:List Ent)(k:List Int)(b:Addr)(v:V):List Ent:=if ((es.map (·.1)).any (·==k))=true then es.map (λ e=>if e.1=k then(e.1,e.2.1,v)else e)else es++[(k,b,v)]
def DxP.rep{k:List Int}{v:V}{u:Value}(r:RelV v u)(p:DxP es xs):DxP (es.map λ e=>if e.1=k then(e.1,e.2.1,v)else e) (xs.map (putAt k u)):=by
 unfold DxP at p ⊢;induction p with
 |nil=>exact .nil
 |cons q t ih=>
  refine .cons ?_ ih;unfold putAt;rename_i e x _ _;dsimp only;by_cases c:e.1=k
  .rw[if_pos c,if_pos (q.1▸c)]
   exact⟨q.1,q.2.1,r⟩
  .rw[if_neg c,if_neg (q.1▸c)]
   exact q
theorem DxP.jc{k:List Int}{v:V}{u:Value}{b:Addr}(p:DxP es xs)(r:RelV v u):DxP (jc es k b v) (storedH xs k b u):=by
 unfold VL.jc storedH;rw[p.has];split
 .exact p.rep r
 .exact p.snoc ⟨rfl,rfl,r⟩
def aGJ(es:List Ent)(k:List Int)(b:Addr)(v:V):(jc es k b v).length<=es.length+1:=by
 unfold jc;split
 .rw[zAD];lia
 .rw[zAT];exact zAP _
def aJm(K:zAA):V->V->V->Hp->(Hp->Prop)->Prop:=λ o i v H Q=>∃a b k es,o= .ref a/\i= .ref b/\SqT K H b (k.map V.int)/\DxO K H a es/\es.length<zAK/\Q (upd H a (dxO a (jc es k b v)))
def DxO.mut{K:zAA}(h:DxO K H a es):∃o,H a=some o/\gn o=true:=by
 rcases h with h|⟨_,h⟩
 .exact⟨_,h.at_,rfl⟩
 .exact⟨_,h,rfl⟩
def aHe{X:Cx}(hu:X.A.units+1<cLine):aNf X (aJm X.K):=by
 intro hV s Z H o i v ov iv u Q I ro ri rv ⟨a,b,k,es,e1,e2,hb,hD,hl,q⟩;subst e1 e2;cases ro;cases ri;obtain⟨hd,xs,pr,dd⟩:=aKG I hD;refine zID (hsz:=by rw[<-zDd pr];lia) (zCv hu) (aLh I hb) dd λ h' dd' hs=>⟨_,?_,q⟩
 obtain⟨o,ts,ep,h1,r⟩:=id dd';refine I.write (x:=a) (e:=a) ?_ (.inl rfl) (λ b' u hb hu=>(hs.2 b' hb).trans hu) ⟨o,h1⟩ (aMD (zAh (aGJ es k b v) hl) hd (pr.jc rv) dd');rcases hD with h|⟨_,h⟩
 .rw[h.at_];exact trivial
 .rw[h];exact trivial
def aAQ(ps:List (List Int×D))(k:List Int)(d:D):List (List Int×D):=if ((ps.map (·.1)).any (·==k))=true then ps.map (λ p=>if p.1=k then(p.1,d)else p)else ps++[(k,d)]
def ul:D->D->Option (List (List Int×D)×List Int)
 | .dct ks vs,e=>match zK e,wK ks vs with
  |some k,some ps=>some (ps,k)
  |_,_=>none
 |_,_=>none
def aBi(h:ul c e=some (ps,k)):∃ks vs,c= .dct ks vs/\e= .tup (k.map .int)/\wK ks vs=some ps:=by
 cases c with
 |dct ks vs=>
  unfold ul at h;dsimp only at h;cases hk:zK e with
  |none=>rw[hk]at h;cases h
  |some k2=>
   cases hp:wK ks vs with
   |none=>rw[hk,hp]at h;cases h
   |some p2=>rw[hk,hp]at h;cases h;exact⟨ks,vs,rfl,xQ hk,hp⟩
 |_=>cases h
theorem aCk{K:zAA}{k:List Int}{b:Addr}{v:V}{d:D}(h:Rp K A H v d):∀{es:List Ent} {ps:List (List Int×D)},Rps K A H (es.map (·.2.2)) (ps.map (·.2))->es.map (·.1)=ps.map (·.1)->
  Rps K A H ((es.map λ e=>if e.1=k then(e.1,e.2.1,v)else e).map (·.2.2)) ((ps.map λ p=>if p.1=k then(p.1,d)else p).map (·.2))/\((es.map λ e=>if e.1=k then(e.1,e.2.1,v)else e).map (·.1)=(ps.map λ p=>if p.1=k then(p.1,d)else p).map (·.1))
 |[],[],_,_=>⟨.nil,rfl⟩
 |[],_::_,_,e=>by cases e
 |_::_,[],_,e=>by cases e
 |p::es,q::ps,r,e=>by
  rw[zAE,zAE]at e r;injection e with e1 e2
  cases r with
  |cons h1 r1=>
   obtain⟨z1,z2⟩:=aCk (b:=b) h r1 e2;rw[zAE,zAE,zAE,zAE,zAE,zAE,z2];by_cases c:q.1=k
   .rw[if_pos c,if_pos (e1.trans c)]
    exact⟨.cons h z1,by rw[e1]⟩
   .rw[if_neg c,if_neg λ z=>c (e1.symm.trans z)]
    exact⟨.cons h1 z1,by rw[e1]⟩
def aIB{K:zAA}{k:List Int}{b:Addr}{v:V}{d:D}{es:List Ent}{ps:List (List Int×D)}(h:Rp K A H v d)(r:Rps K A H (es.map (·.2.2)) (ps.map (·.2)))(e:es.map (·.1)=ps.map (·.1)):
  Rps K A H ((jc es k b v).map (·.2.2)) ((aAQ ps k d).map (·.2))/\(jc es k b v).map (·.1)=(aAQ ps k d).map (·.1):=by
 unfold jc aAQ;rw[e];split
 .exact aCk (b:=b) h r e
 .rw[zAc,zAc,zAc,zAc,e]
  exact⟨r.append (.cons h .nil),rfl⟩
def aID{es:List Ent}{k:List Int}{b:Addr}{v:V}{e:Ent}(he:e∈jc es k b v):(∃e0∈es,e0.1=e.1/\e0.2.1=e.2.1)\/(e.1=k/\e.2.1=b):=by
 unfold jc at he;split at he
 .obtain⟨e0,h1,h2⟩:=zAX.mp he
  refine .inl ⟨e0,h1,?_⟩;split at h2<;>subst h2<;>exact⟨rfl,rfl⟩
 .rcases zAp.mp he with h|h
  .exact .inl ⟨e,h,rfl,rfl⟩
  .rw[zA3.mp h];exact .inr ⟨rfl,rfl⟩
def aIC{es:List Ent}{k:List Int}{b:Addr}{v:V}(h:(es.map (·.1)).Nodup):((jc es k b v).map (·.1)).Nodup:=by
 unfold jc;split
 .rw[zAU,show((λ e:Ent=>e.1)∘λ e:Ent=>if e.1=k then(e.1,e.2.1,v)else e)=λ e=>e.1 from funext λ e=>by dsimp only[zEP];split<;>rfl]
  exact h
 .rename_i hn
  rw[zAc,zBM];refine⟨h,by simp,λ a ha c hc z=>hn ?_⟩;rw[show c=k by simpa using hc]at z;rw[zEs];exact⟨a,ha,by simpa using z⟩
def ptS(i:Nat)(fk fe:En->Rs D):En->Ou:=λ Y=>match Y[i]? with
 |some (.ow c)=>(fe Y).bo λ d=>(fk Y).bo λ k=>match ul c k with
  |some (ps,j)=>if ps.length<zAK then .nx (Y.set i (.ow (aGq (aAQ ps j d))))else .st
  |none=>.st
 |_=>.st
section
variable{C:Ct}{pos tpos p:Pos}{ek e:Expr}{fk fe:En->Rs D}{x:Str}{m m1:Mode}
def aH3(i:Nat)(hk:SE C m1 ek fk)(he:SE C m e fe)(hm:okN m=true:=by rfl)(hN:∀j,(C.X j).N[i]? =some x:=by intro _;rfl)(hv:∀j,Vis (C.X j).env.scope x:=by intro _;first|exact zBm rfl|exact zBK (zBm rfl)|exact zBK (zBK rfl))(hd:Nd x:=by decide)
  (hcd:(x==("__classdict__":Str))=false:=by decide)(ha:∀j v,zDv (.Subscript (.Name x p) ek tpos) (C.X j).env v=(do
   let ov <-zDo [v] (eval (.Name x p) (C.X j).env);let iv <-zDo [v,ov] (eval ek (C.X j).env)
   zFh tpos
   zDo [v,ov,iv] (setItem ov iv v)
   release [v,ov,iv] []):=by intro _ _;rfl)(hs:∀j,zHI [.Subscript (.Name x p) ek tpos] e pos.line (C.X j).env=pure false:=by intro _;rfl)(hw:∀j,zHH [.Subscript (.Name x p) ek tpos] e (C.X j).env=pure none:=by intro _;rfl)
  (h1:∀j,(zCR [.Subscript (.Name x p) ek tpos] (C.X j).env).map (·.2)=[zDv (.Subscript (.Name x p) ek tpos) (C.X j).env]:=by intro _;rfl):
  SS C (.Assign [.Subscript (.Name x p) ek tpos] e pos) (ptS i fk fe):=by
 obtain⟨tk,k1,k2⟩:=hk;obtain⟨te,e1,e2⟩:=he;refine⟨zz te (aN0 (jR i) tk (aJm C.K)),λ j=>aF4 (e1 j) (aKt (cu (hN j) (hv j) hd hcd) (k1 j) (by rw[<-C.hK j];exact aHe (by have:=(C.room j).un;lia)) (ha j)) (hs j) (hw j) (h1 j),λ U Z H Y lab De R W=>?_⟩;unfold ptS at W;cases es:Y[i]? with
 |none=>rw[es]at W;exact zAF W
 |some s=>
  rw[es]at W;split at W
  .rename_i c hs
   cases hs;rcases R.sl i _ es with z|⟨v,ev,hv'⟩
   .cases z
   .obtain⟨hv1,htop⟩:=hv'
    refine e2 U Z H Y lab _ R (W.bo.imp λ d _ w0 y H2 s2 r2=>⟨v,ev,?_⟩);refine k2 U Z H2 Y lab _ (R.up s2) (w0.bo.imp λ k _ w kv H3 s3 r3=>?_);clear w0;cases hj:ul c k with
    |none=>rw[hj]at w;exact zAF w
    |some q=>
     obtain⟨ps,j⟩:=q;rw[hj]at w;dsimp only at w;obtain⟨ks,vs,rfl,rfl,hp⟩:=aBi hj;obtain⟨a0,ea0,la0⟩:=htop rfl;subst ea0;obtain⟨b,xs,rfl,hb1,hb2⟩:=r3.tup_inv;have exs:=hb2.ints_of;subst exs;obtain⟨a1,ee,ea,h,mm,r,hk⟩:=hv1.dctX_inv hp;cases ea;by_cases hz:ps.length<zAK
     .rw[if_pos hz]at w
      have hW:ee.length=ps.length:=by have:=congrArg zGk hk;simpa using this
      have h3:DxO C.K H3 a0 ee:=h.elim (λ z=>.inl (z.mono (s2.trans s3))) λ z=>.inr ⟨z.1,(s2.trans s3) _ _ z.2⟩
      obtain⟨om,ho,hmu⟩:=h.mut;have ho3:H3 a0=some om:=(s2.trans s3) _ _ ho;refine⟨a0,b,j,ee,rfl,rfl,hb1,h3,by rw[hW];exact hz,?_⟩;obtain⟨R',r'⟩:=R.fresh (P:=λ k=>k=1) rfl (λ k hk=>beq_iff_eq.mp (lC hm k hk)) s2 r2;have la:(bV H 1 lab a0).1=i+2:=by rw[bD ho];exact la0
      have B:jF a0 H3 (upd H3 a0 (dxO a0 (jc ee j b y))):=λ b' o ne hb=>by rw[aL ne];exact hb
      obtain⟨q1,q2⟩:=aIB (k:=j) (b:=b) (A:=λ p=>((bV H 1 lab p).1=1\/(bV H 1 lab p).1=i+2)/\p≠a0) ((r'.up s3).wk λ p o e z=>⟨.inl z,λ q=>by subst q;rw[la]at z;lia⟩) (r.mono (s2.trans s3) λ p o e z=>⟨by rw[bD e];exact z.1,z.2⟩) hk;have hnd:(ee.map (·.1)).Nodup:=h.elim (λ z=>z.nd) λ z=>by rw[z.1];exact zC3
      have hks:∀e∈ee,SqT C.K H3 e.2.1 (e.1.map V.int):=h3.elim (λ z=>z.ks) λ z=>by rw[z.1];intro e he;cases he
      have hD:DxK C.K (upd H3 a0 (dxO a0 (jc ee j b y))) a0 (jc ee j b y):=by
       refine⟨aR,λ e he=>tX B ho3 hmu ?_,aIC hnd⟩;rcases aID he with ⟨e0,h1,h2,h3⟩|⟨h1,h2⟩
       .rw[<-h2,<-h3];exact hks e0 h1
       .rw[h1,h2];exact hb1
      have rd:=Rp.dT (A:=λ p=>(bV H 1 lab p).1=1\/(bV H 1 lab p).1=i+2) hD (.inr la) (q1.but B ho3 hmu λ z=>z.2 rfl);have ek:((jc ee j b y).map λ e=>D.tup (e.1.map .int))=(aAQ ps j d).map λ p=>D.tup (p.1.map .int):=by
       rw[show((jc ee j b y).map λ e=>D.tup (e.1.map .int))=((jc ee j b y).map (·.1)).map λ k=>D.tup (k.map .int)by rw[zAU];rfl,q2,zAU];rfl
      rw[ek]at rd;exact w Z _ _ ((R'.up s3).mut ev ho3 hmu la B ⟨rd,λ _=>⟨a0,rfl,la⟩⟩)
     .rw[if_neg hz]at w
      exact zAF w
  .exact zAF W
end
def du(l:gX):List (Key×V):=l.map λ p=>(.inl p.1,V.int p.2)
def Inv.froze{X:Cx}{hV:gV}{Z:L2.St}{H:Hp}{s:zAB}{a:Addr}{kvs:List (Key×V)}{o:Obj}(I:Inv X hV Z H s)(ha:H a=some (.dK kvs))(ho:s.heap.get? a=some o):Inv X hV Z (upd H a (.frz o (.dK kvs))) s:=by
 have nn:∀b,H b=none->upd H a (.frz o (.dK kvs)) b=none:=λ b e=>by rw[aL λ z=>by subst z;rw[ha]at e;cases e];exact e
 have nt:∀b xs,H b=some (.tup xs)->upd H a (.frz o (.dK kvs)) b=some (.tup xs):=λ b xs e=>by rw[aL λ z=>by subst z;rw[ha]at e;cases e];exact e
 have nf:∀b q u,H b=some (.frz q u)->upd H a (.frz o (.dK kvs)) b=some (.frz q u):=λ b q u e=>by rw[aL λ z=>by subst z;rw[ha]at e;cases e];exact e
 have no:∀b x,H b=some (.own x)->upd H a (.frz o (.dK kvs)) b=some (.own x):=λ b x e=>by rw[aL λ z=>by subst z;rw[ha]at e;cases e];exact e
 have nb:∀b ps,H b=some (.tbl ps)->upd H a (.frz o (.dK kvs)) b=some (.tbl ps):=λ b ps e=>by rw[aL λ z=>by subst z;rw[ha]at e;cases e];exact e
 refine⟨I.ok,I.os,I.bare,⟨I.base.keep,I.base.slot,λ b q e n hx=>nn b (I.base.free b q e n hx),I.base.there,λ b xs e=>nt b xs (I.base.tups b xs e),λ b q u e=>nf b q u (I.base.frzs b q u e),λ b ps e=>?_⟩,I.loc,I.cell,nn _ I.free,λ x c e=>nn _ (I.freeC x c e),λ p hp=>?_,λ b u e=>?_,I.len,λ p hp=>?_⟩
 .obtain⟨m,e⟩:=I.base.tbls b ps e
  exact⟨m,nb _ _ e⟩
 .obtain⟨h1,h2,h3⟩:=I.pin p hp
  exact⟨h1,nn _ h2,h3⟩
 .by_cases hb:b=a
  .subst hb
   rw[aR]at e;cases e;exact⟨ho,(I.hok b _ ha).stay (λ c v _ q=>q) (λ c q=>no c b q) nt⟩
  .rw[aL hb]at e
   exact(I.hok b u e).stay (λ c v _ q=>q) (λ c q=>no c b q) nt
 .obtain⟨h1,h2,h3,h4,ps,h5,h6⟩:=I.tab p hp
  exact⟨nn _ h1,h2,h3,h4,ps,h5,h6.mono nf⟩
def lR(ks vs:List D):Option gX:=match gU ks vs with
 |some ps=>(intsOf (ps.map (·.2))).map λ js=>(ps.map (·.1)).zip js
 |none=>none
theorem aCy:∀{kvs:List (Key×V)} {is js:List Int},kvs.map (·.1)=is.map (λ i=>(zB5 i:Key))->kvs.map (·.2)=js.map V.int->kvs=du (is.zip js)
 |[],[],[],_,_=>rfl
 |[],_::_,_,e,_=>by cases e
 |[],[],_::_,_,e=>by cases e
 |_::_,[],_,e,_=>by cases e
 |_::_,_::_,[],_,e=>by cases e
 |(k,v)::kvs,i::is,j::js,e1,e2=>by
  rw[zAE,zAE]at e1 e2;injection e1 with a1 a2
  injection e2 with b1 b2
  replace a1:k= .inl i:=a1;replace b1:v= .int j:=b1;subst a1 b1;rw[aCy a2 b2];rfl
def Rp.itm_dct{K:zAA}(r:Rp K A H v (.dct ks vs))(h:lR ks vs=some l):∃a,v= .ref a/\H a=some (.dK (du l))/\A a:=by
 unfold lR at h;cases hp:gU ks vs with
 |none=>rw[hp]at h;cases h
 |some ps=>
  rw[hp]at h;dsimp only at h;cases hj:intsOf (ps.map (·.2))with
  |none=>rw[hj]at h;cases h
  |some js=>
   rw[hj]at h;cases h;obtain⟨a,kvs,rfl,g,m,q,hk⟩:=r.dctI_inv hp;refine⟨a,rfl,?_,m⟩;rw[cT hj]at q;have e2:=q.ints_of;have e1:kvs.map (·.1)=(ps.map (·.1)).map (λ i=>(zB5 i:Key)):=by rw[hk,zAU];rfl
   rw[aCy e1 e2]at g;exact g
def zq(i:Nat)(u:En->Ou):En->Ou:=λ Y=>match Y[i]? with
 |some (.ow (.dct ks vs))=>(match lR ks vs with
  |some l=>u (Y.set i (.sh (.itm none l)))
  |none=>.st)
 |_=>.st
def aH2{C:Ct}{sx:Stmt}{u:En->Ou}(i:Nat)(h:SS C sx u):SS C sx (zq i u):=by
 obtain⟨ts,p1,p2⟩:=h;refine⟨λ D Z H=>∃a kvs,H a=some (.dK kvs)/\∀o es ep,o.data= .dict es ep->ts D Z (upd H a (.frz o (.dK kvs))),λ j hV s Z H D I ⟨a,kvs,ha,q⟩=>?_,λ U Z H Y lab De R W=>?_⟩
 .obtain⟨_,_,vs,_,ob,es,ep,e,_,hdat,_⟩:=sW I.hok ha
  exact p1 j hV s Z _ D (Inv.froze I ha e) (q ob es ep hdat)
 .unfold zq at W
  cases es:Y[i]? with
  |none=>rw[es]at W;exact zAF W
  |some sl=>
   rw[es]at W;split at W
   .rename_i ks vs hs
    cases hs;rcases R.sl i _ es with z|⟨v,ev,hv1,htop⟩
    .cases z
    .cases hl:lR ks vs with
     |none=>rw[hl]at W;exact zAF W
     |some l=>
      rw[hl]at W;dsimp only at W;obtain⟨a0,ea0,la0⟩:=htop rfl;subst ea0;obtain⟨a1,e1,g,_⟩:=hv1.itm_dct hl;cases e1;refine⟨a0,du l,g,λ o dd ep hd=>?_⟩;have B:jF a0 H (upd H a0 (.frz o (.dK (du l)))):=λ b' q ne hb=>by rw[aL ne];exact hb
      exact p2 U Z _ _ lab De (R.mut (s':=.sh (.itm none l)) ev g rfl la0 B (Rp.itm ⟨o,dd,ep,hd,.inl rfl,aR⟩)) W
   .exact zAF W
theorem aGR:∀{l:gX} {vs:List (Key×Value)} {i:Nat} {q:Int×Int},KV (du l) vs->l[i]? =some q->∃t,vs[i]? =some ((.inl q.1:Key),zCt q.2 t)
 |[],_,_,_,_,h=>by simp at h
 |p::l,vs,i,q,r,h=>by
  unfold KV du at r;rw[zAE]at r;cases r with
  |cons e t=>
   rename_i x vs;obtain⟨x1,x2⟩:=x;obtain⟨e1,tk,e2⟩:=e;dsimp only at e1 e2;subst e1 e2;cases i with
   |zero=>
    have:p=q:=by simpa using h
    subst this;exact⟨tk,rfl⟩
   |succ i=>
    obtain⟨t2,e⟩:=aGR (l:=l) (i:=i) (q:=q) (show KV (du l) _ from t) (by simpa using h);exact⟨t2,by simpa using e⟩
def Fz(H:Hp)(a:Addr)(ep:Nat)(l:gX):Prop:=∃(o:Obj) (es:Array DictEntry),o.data= .dict es ep/\H a=some (.frz o (.dK (du l)))
def aM7(a:Addr)(ep:Nat)(l:gX):It:=
 ⟨λ i H=>i<l.length/\Fz H a ep l,λ i H x H'=>∃p q,x= .ref p/\H p=none/\H'=upd H p (.tup [.int q.1,.int q.2])/\l[i]? =some q,λ i H=>l.length<=i/\Fz H a ep l⟩
def aGh{X:Cx}{hV:gV}{Z:L2.St}{H:Hp}{s:zAB}{a:Addr}(I:Inv X hV Z H s)(h:Fz H a ep l):∃vs,KV (du l) vs/\vs.length=l.length/\s.heap.DictAt (bR X.prog X.w) a vs ep/\(a==zBX)=false:=by
 obtain⟨o,es,hd,ha⟩:=h;obtain⟨ho,_,hsys,vs,rel,o2,es2,ep2,e2,c2,d2,r2⟩:=(show bW X.prog X.w H s.heap a (.frz o (.dK (du l)))from I.hok a _ ha);rw[ho]at e2;cases e2;rw[hd]at d2;cases d2;exact⟨vs,rel,by have:=rel.length;rw[<-this];simp[du],⟨o,es,ho,c2,hd,r2⟩,hsys⟩
def aBV{K:zAA}{x1:Nat}{elts:List Expr}{ps:Pos}(a it:Addr)(ep:Nat)(l:gX)(hai:a≠it):Turn P w K (.Tuple elts x1 ps) (aM7 a ep l) [it] it (λ i h=>∃ok ov,IsItemIter h it a i l.length ep ok ov) where
 mem:=by simp
 obj:=λ i h st b hb=>by
  obtain⟨ok,ov,he⟩:=st
  have:b=it:=by simpa using hb
  subst this;exact⟨_,he,λ v z=>by cases z⟩
 keep:=λ i h h' st k=>let⟨ok,ov,he⟩:=st;⟨ok,ov,k it (by simp) _ he⟩
 item:=by
  intro X hP hw hK hc i hV s Z H E I hf st hg;subst hP hw hK;obtain⟨hlt,hz⟩:=hg;obtain⟨vs,rel,hW,dd,_⟩:=aGh I hz;obtain⟨ok,ov,he⟩:=st;obtain⟨q,hq⟩:∃q,l[i]? =some q:=⟨l[i],by simp[hlt]⟩
  obtain⟨t,hv⟩:=aGR rel hq;rw[<-hW]at he;refine wpAny_pyNext_items_item he dd hv λ key h' hkey ho hT hsz hk=>⟨_,rfl,?_⟩
  have ek:∃t',key= .int q.1 t':=by
   rcases bj (k:=.inl q.1) (v:=key) hkey with ⟨j,t,e1,e2⟩|⟨y,t,e1,e2⟩
   .cases e1;exact⟨t,e2⟩
   .cases e1
  obtain⟨t',rfl⟩:=ek;have hel:it<s.heap.objs.size:=zAW he;refine wpAny_letOwnedTupleGo_items ho λ h2 he2 hs2=>⟨.ref s.heap.objs.size,upd H s.heap.objs.size (.tup [.int q.1,.int q.2]),?_,rfl,⟨_,q,rfl,I.hok.fresh (zAP _),rfl,hq⟩,⟨_,_,by rw[<-hW];exact he2⟩,λ b hb=>?_⟩
  .exact vM (s:=s) (h':=h2) (t':=s.toks) I hf (λ b u hb q=>(hs2.2 b λ z=>hb (by simp[z])).trans (hk b u (λ z=>hb (by simp[z])) q)) (zAP _) ⟨⟨by simp[zCN],NoD.at ((hs2.2 _ (zCT hel)).trans hT)⟩,[.int q.1 t',.int q.2 t],.cons ⟨_,rfl⟩ (.cons ⟨_,rfl⟩ .nil),_,(hs2.2 _ (zCT hel)).trans hT,rfl,_,rfl⟩
  .have:=(hf b hb).1
   rw[aL]
   .exact this
   .rintro rfl
    have q2:s.heap.objs.size=it:=by simpa using hb
    exact absurd hel (by rw[<-q2];exact zAw _)
 done:=by
  intro X hP hw hK hc i hV s Z H E I hf st hg;subst hP hw hK;obtain⟨hle,hz⟩:=hg;obtain⟨vs,rel,hW,dd,_⟩:=aGh I hz;obtain⟨ok,ov,he⟩:=st;rw[<-hW]at he;obtain⟨f0,f1,f2,f3,f4,f5⟩:=hf it (by simp);exact wpAny_pyNext_items_end (I.ok.hd hc) he dd (zCx (by lia)) λ h' he'=>⟨rfl,I.turned (t':=s.toks) (λ b o hb q=>he' b o hb q) f0 f1 f3 f4 f5⟩
 self:=λ _ _ _ _ _ st h=>let⟨_,_,he⟩:=st;PySem.W.kcp_self he h
def aNZ(te:TE):TI:=λ Z H R=>te Z H λ x H1=>∃a ep l,x= .ref a/\Fz H1 a ep l/\R (aM7 a ep l) H1
def aFa{X:Cx}{x1:Nat}{elts:List Expr}{ps apos cpos:Pos}{o:Expr}{te:TE}(ho:PE X o te)(hbase:zBV o "items" X.env (eval o X.env)=eval o X.env:=by rfl)(hline:(apos.endLine==cpos.line)=true:=by rfl):
  PI X (.Tuple elts x1 ps) (.Call (.Attribute o "items" apos) [] [] cpos) (aNZ te):=by
 intro hV s Z H R I h;refine zHJ hbase hline (thn (ho hV s Z H _ I h) λ v s1 ⟨x,H1,I1,r1,a,ep,l,ex,hz,q⟩=>?_);subst ex;cases r1;obtain⟨vs,rel,hW,dd,hsys⟩:=aGh I1 hz;obtain⟨ob,es,hd,ha⟩:=hz;obtain⟨t1,t2,_⟩:=aGZ I1 (.inl ⟨_,.inr ⟨ob,ha⟩⟩);refine⟨"dict","dict.items",zC8,zC9,zF2,t1,t2,zCm rfl (zGf ?_)⟩;have dof:s1.heap.DictOf (bR X.prog X.w) a vs:=let⟨o,es,r⟩:=dd;⟨o,es,ep,r⟩
 refine zE8 zC9 t1 zFN (zFF _) (meets_dict_items (bR X.prog X.w) a hsys) ⟨⟨vs,dof⟩,?_⟩;have hlt:=dd.lt_size;refine wpAny_pyIter_items (v:=s1.heap.objs.size) (d:=a) ⟨_,zA0 _ rfl,rfl,rfl⟩ (dd.push _) ?_;have hk:∀(o1 o2:Obj) b u,s1.heap.get? b=some u->((s1.heap.push o1).push o2).get? b=some u:=λ o1 o2 b u e=>zAI _ (zAI _ e)
 have hle:∀o1:Obj,s1.heap.objs.size<=(s1.heap.push o1).objs.size:=λ o1=>by rw[zBp];exact zFX _
 refine⟨_,[_],_,aM7 a ep l,H1,rfl,I1.kept (t':=s1.toks) (hk _ _),aBV a _ ep l (zAa (zAR hlt (hle _))),⟨.none,.none,?_⟩,λ b hb=>?_,q⟩
 .show _=_
  rw[<-hW];exact zA0 _ rfl
 .have e:b=_:=zA3.mp hb
  subst e;exact I1.fpOk (hle _) (I1.hok.fresh (hle _))
def aNT(fo:En->Rs D):En->Rs (List D):=λ Y=>(fo Y).bd λ d=>match d with
 | .itm _ l=>.ok (l.map λ p=>.tup [.int p.1,.int p.2])
 |_=>.st
def Rp.itm_inv{K:zAA}(r:Rp K A H v (.itm oo l)):∃a,v= .ref a/\sy H a oo l:=by cases r with|itm h=>exact⟨_,rfl,h⟩
section
variable{C:Ct}{m:Mode}{o:Expr}{fo:En->Rs D}{elts:List Expr}{x1:Nat}{ps apos cpos:Pos}
def aEw(ho:SE C m o fo)(hbase:∀j,zBV o "items" (C.X j).env (eval o (C.X j).env)=eval o (C.X j).env:=by intro _;rfl)(hline:(apos.endLine==cpos.line)=true:=by rfl):
  SI C (.Tuple elts x1 ps) (.Call (.Attribute o "items" apos) [] [] cpos) (aNT fo):=by
 obtain⟨t,p1,p2⟩:=ho;refine⟨aNZ t,λ i=>aFa (p1 i) (hbase i) hline,λ U Z H Y lab Rr R W=>p2 U Z H Y lab _ R (W.bd.imp λ d _ w x H1 s r=>?_)⟩;cases d with
 |itm oo l=>
  obtain⟨a,rfl,ob,es,ep,hd,_,ha⟩:=r.itm_inv;have R1:=R.up s;refine⟨a,ep,l,rfl,⟨ob,es,hd,ha⟩,w _ H1 lab [(.ref a,.itm (some ep) l)] s (λ _ _ _=>rfl) ⟨R1.len,R1.sl,R1.old,R1.new,λ z hz=>?_⟩ λ lab' H' hq=>?_⟩
  .rcases zAN.mp hz with rfl|hz
   .exact .itm ⟨ob,es,ep,hd,.inr rfl,ha⟩
   .exact R1.tm z hz
  .have z:=hq _ (zAG ..)
   obtain⟨a',e',ob',es',ep',hd',hz',ha'⟩:=z.itm_inv;cases e';rcases hz' with hz'|hz'
   .cases hz'
   .cases hz'
    have F:Fz H' a ep l:=⟨ob',es',hd',ha'⟩;refine λ i=>⟨λ hi=>⟨by simpa using hi,F⟩,λ hi=>⟨⟨by simpa using hi,F⟩,λ x H2 y=>?_⟩⟩
    obtain⟨p,q,rfl,hp,rfl,hq2⟩:=y;exact⟨ak hp _,.tup [.int q.1,.int q.2],by rw[zAZ,hq2];rfl,.tup (.inl (.inl aR)) (.cons (.int _) (.cons (.int _) .nil))⟩
 |_=>exact zAF w
end
def aEK(fd fk fz:En->Rs D):En->Rs D:=λ Y=>(fd Y).bd λ d=>match d with
 | .dct ks vs=>(match gU ks vs with
  |some ps=>(fk Y).bd λ k=>(fz Y).bd λ z=>(match k with
   | .int i=>if imm z=true then .ok ((ps.lookup i).getD z)else .st
   |_=>.st)
  |none=>.st)
 |_=>.st
section
variable{C:Ct}{m1 m2 m3:Mode}{a b c:Expr}{fa fb fc:En->Rs D}{apos cpos pos p:Pos}{x:Str}
def aKc(ha:SE C m1 a fa)(hb:SE C m2 b fb)(hc:SE C m3 c fc)(hm:∀j,M2 (C.X j) a "get" apos b c cpos:=by intro _;exact⟨rfl,rfl,rfl,rfl⟩):SE C m1 (.Call (.Attribute a "get" apos) [b,c] [] cpos) (aEK fa fb fc):=by
 obtain⟨t,h1,h2⟩:=ha;obtain⟨u,k1,k2⟩:=hb;obtain⟨v,l1,l2⟩:=hc;refine⟨aEh t u v,λ i=>aFk (by have:=(C.room i).un;lia) (h1 i) (k1 i) (l1 i) (hm i),λ U Z H Y lab Q R W=>?_⟩;refine h2 U Z H Y lab _ R (W.bd.imp λ d _ w x H1 s1 r1=>?_);cases d with
 |dct ks vs=>
  dsimp only at w;cases hp:gU ks vs with
  |none=>rw[hp]at w;exact zAF w
  |some ps=>
   rw[hp]at w;dsimp only at w;obtain⟨a,kvs,rfl,g1,m,r,hk⟩:=r1.dctI_inv hp;refine⟨a,rfl,.inl ⟨_,.inl g1⟩,?_⟩;refine k2 U Z H1 Y lab _ (R.up s1) (w.bd.imp λ e _ w y H2 s2 r2=>?_);refine l2 U Z H2 Y lab _ ((R.up s1).up s2) (w.bd.imp λ z _ w zv H3 s3 r3=>?_);cases e with
   |int i=>
    dsimp only at w;by_cases hz:imm z=true
    .rw[if_pos hz]at w
     have ey:=r2.int_inv;subst ey;have g3:H3 a=some (.dK kvs):=(s2.trans s3) _ _ g1;rcases aBR (r.up (s2.trans s3)) hk i with ⟨d,v,e1,e2,e3⟩|⟨e1,e2⟩
     .rw[e1]at w
      have g:=tU.k (k:=.inl i) g3;rw[e2]at g;exact⟨some v,g,w v H3 ((s1.trans s2).trans s3) (e3.wk λ p o _ q=>q.1)⟩
     .rw[e1]at w
      have g:=tU.k (k:=.inl i) g3;rw[e2]at g;exact⟨none,g,w zv H3 ((s1.trans s2).trans s3) (r3.imm hz)⟩
    .rw[if_neg hz]at w
     exact zAF w
   |_=>exact zAF w
 |_=>exact zAF w
def aMz:V->List V->Hp->VK->Prop:=λ x xs H Q=>∃a kvs,x= .ref a/\xs=[]/\H a=some (.dK kvs)/\Q .non (upd H a (.dK []))
def aL4{X:Cx}:MtR X "dict.clear" aMz:=by
 intro hV s Z H x xs v us Q I rx rxs h;obtain⟨a,kvs,rfl,rfl,ha,q⟩:=h;cases rx;cases rxs;exact aJQ I ha λ s' I'=>⟨.non,_,I',rfl,q⟩
def aEN(i:Nat):En->Ou:=λ Y=>match Y[i]? with
 |some (.ow (.dct ks vs))=>(match gU ks vs with
  |some _=>.nx (Y.set i (.ow (.dct [] [])))
  |none=>.st)
 |_=>.st
def aEq(i:Nat)(hN:∀j,(C.X j).N[i]? =some x:=by intro _;rfl)(hv:∀j,Vis (C.X j).env.scope x:=by intro _;first|exact zBm rfl|exact zBK (zBm rfl)|exact zBK (zBK rfl))(hd:Nd x:=by decide)
  (hcd:(x==("__classdict__":Str))=false:=by decide)
  (hbase:∀j,zBV (.Name x p) "clear" (C.X j).env (eval (.Name x p) (C.X j).env)=eval (.Name x p) (C.X j).env:=by intro _;rfl)
  (hline:(apos.endLine==cpos.line)=true:=by rfl)
  (hsw:∀j,zCG (.Call (.Attribute (.Name x p) "clear" apos) [] [] cpos) none pos.line (C.X j).env=pure false:=by intro _;rfl):
  SS C (.Expr (.Call (.Attribute (.Name x p) "clear" apos) [] [] cpos) pos) (aEN i):=by
 refine⟨rW (aHZ C.K "dict" aMz (jR i)),λ j=>lA (by rw[<-C.hK j];exact aBn zC8 zF0 PySem.F.type_dict_clear aL4 (cu (hN j) (hv j) hd hcd) (hbase j) hline) (hsw j),λ U Z H Y lab De R W=>?_⟩;unfold aEN at W;cases es:Y[i]? with
 |none=>rw[es]at W;exact zAF W
 |some s=>
  rw[es]at W;split at W
  .rename_i ks vs hs
   cases hs;rcases R.sl i _ es with z|⟨v,ev,hv1,htop⟩
   .cases z
   .cases hp:gU ks vs with
    |none=>rw[hp]at W;exact zAF W
    |some ps=>
     rw[hp]at W;dsimp only at W;obtain⟨a0,ea0,la0⟩:=htop rfl;subst ea0;obtain⟨a1,kvs,ea,g,mm,r,hk⟩:=hv1.dctI_inv hp;cases ea;refine⟨.ref a0,ev,.inr (.inr (.inl ⟨rfl,.inl ⟨_,g⟩⟩)),a0,kvs,rfl,rfl,g,?_⟩;have B:jF a0 H (upd H a0 (.dK [])):=λ b' o ne hb=>by rw[aL ne];exact hb
     exact W Z _ _ (R.mut ev g rfl la0 B ⟨uH (ps:=[]) aR (.inr la0) .nil rfl,λ _=>⟨a0,rfl,la0⟩⟩)
  .exact zAF W
end
def Inv.track{X:Cx}{hV:gV}{Z:L2.St}{H:Hp}{s:zAB}{a:Addr}{o:HO}(I:Inv X hV Z H s)(f:lY X hV H a)(hge:X.z5.heap.objs.size<=a)(new:bW X.prog X.w (upd H a o) s.heap a o):Inv X hV Z (upd H a o) s:=by
 obtain⟨f0,f1,f2,f3,f4,f5⟩:=f;have sm:∀b u,H b=some u->upd H a o b=some u:=λ b u e=>by rw[aL λ z=>by subst z;rw[f0]at e;cases e];exact e
 have nn:∀b,b≠a->H b=none->upd H a o b=none:=λ b z e=>by rw[aL z];exact e
 refine⟨I.ok,I.os,I.bare,⟨I.base.keep,I.base.slot,λ b q e n hx=>nn b (λ z=>?_) (I.base.free b q e n hx),I.base.there,λ b xs e=>sm _ _ (I.base.tups b xs e),λ b q u e=>sm _ _ (I.base.frzs b q u e),λ b ps e=>?_⟩,I.loc,I.cell,nn _ (zC0 f1) I.free,λ x c e=>nn _ (f4 x c e) (I.freeC x c e),λ p hp=>?_,λ b u e=>?_,I.len,λ p hp=>?_⟩
 .subst z
  exact absurd (zAR (zAW e) hge) (zAw _)
 .obtain⟨m,e⟩:=I.base.tbls b ps e
  exact⟨m,sm _ _ e⟩
 .obtain⟨h1,h2,h3⟩:=I.pin p hp
  exact⟨h1,nn _ (f5 p (zA9 _ hp)) h2,h3⟩
 .by_cases hb:b=a
  .subst hb
   rw[aR]at e;cases e;exact new
  .rw[aL hb]at e
   exact(I.hok b u e).stay (λ c v _ q=>q) (λ c q=>sm _ _ q) λ c xs q=>sm _ _ q
 .obtain⟨h1,h2,h3,h4,ps,h5,h6⟩:=I.tab p hp
  exact⟨nn _ (f5 p (zA4 _ hp)) h1,h2,h3,h4,ps,h5,h6.mono λ b q u e=>sm _ _ e⟩
def yK(H:Hp):List (Addr×(Int×Int))->Hp
 |[]=>H
 |z::zs=>yK (upd H z.1 (.tup [.int z.2.1,.int z.2.2])) zs
theorem aC2{X:Cx}{hV:gV}{Z:L2.St}{s:zAB}:∀(zs:List (Addr×(Int×Int))) {H:Hp},Inv X hV Z H s->
  (∀z∈zs,lY X hV H z.1/\X.z5.heap.objs.size<=z.1/\∃t t',s.heap.get? z.1=some {cls:=.type "tuple",data:=.seq #[.int z.2.1 t,.int z.2.2 t']})->(zs.map (·.1)).Nodup->
  Inv X hV Z (yK H zs) s/\aO H (yK H zs)/\(∀z∈zs,yK H zs z.1=some (.tup [.int z.2.1,.int z.2.2]))/\∀b,b∉zs.map (·.1)->yK H zs b=H b
 |[],H,I,_,_=>⟨I,aO.refl H,λ z hz=>(nomatch hz),λ b _=>rfl⟩
 |z::zs,H,I,h,nd=>by
  obtain⟨n1,n2⟩:=zA5.mp nd;obtain⟨f,hge,t,t',ho⟩:=h z zAG;have I1:=Inv.track (o:=.tup [.int z.2.1,.int z.2.2]) I f hge ⟨⟨by simp[zCN],NoD.at ho⟩,[.int z.2.1 t,.int z.2.2 t'],.cons ⟨_,rfl⟩ (.cons ⟨_,rfl⟩ .nil),_,ho,rfl,_,rfl⟩;have sm:aO H (upd H z.1 (.tup [.int z.2.1,.int z.2.2])):=ak f.1 _;obtain⟨a1,a2,a3,a4⟩:=aC2 zs I1 (λ y hy=>by
   obtain⟨⟨g0,g1⟩,g2⟩:=h y (zAL _ hy);refine⟨⟨?_,g1⟩,g2⟩;rw[aL λ e=>n1 (by show z.1∈_;rw[<-e];exact zGl (f:=λ x:Addr×(Int×Int)=>x.1) hy)];exact g0) n2
  refine⟨a1,sm.trans a2,λ y hy=>?_,λ b hb=>?_⟩
  .rcases zAN.mp hy with rfl|hy
   .exact a2 _ _ aR
   .exact a3 y hy
  .rw[zAE,zAN,not_or]at hb
   show yK (upd H z.1 (.tup [.int z.2.1,.int z.2.2])) zs b=H b;rw[a4 b hb.2,aL hb.1]
def aE7(l a:Addr):HO:=.ext λ h=>h.IsItemsView l a
def aJp:V->List V->Hp->VK->Prop:=λ x xs H Q=>∃a kvs,x= .ref a/\xs=[]/\H a=some (.dK kvs)/\∀l,H l=none->Q (.ref l) (upd H l (aE7 l a))
def aFz{X:Cx}:MtR X "dict.items" aJp:=by
 intro hV s Z H x xs v us Q I rx rxs h;obtain⟨a,kvs,rfl,rfl,ha,q⟩:=h;cases rx;cases rxs;obtain⟨z,hd,vs,rel,dd⟩:=sW I.hok ha;have hfr:H s.heap.objs.size=none:=I.hok.fresh (zAP _);refine zE8 zC9 dd.typeIs zFN (zFF _) (meets_dict_items (bR X.prog X.w) a hd) ⟨⟨vs,dd⟩,⟨.ref s.heap.objs.size,upd H s.heap.objs.size (aE7 s.heap.objs.size a),I.laid (t':=s.toks) (λ b o e=>zAI _ e) (zAP _) ?_,rfl,q _ hfr⟩⟩;exact⟨⟨_,zA0 _ rfl,rfl,rfl⟩,⟨_,zA0 _ rfl⟩,λ h1 h2 ⟨o,e,r⟩ k=>⟨o,k o e,r⟩⟩
def PrA(H H2:Hp)(as:List Addr)(l:gX):Prop:=as.length=l.length/\∀(i:Nat) p q,as[i]? =some p->l[i]? =some q->H p=none/\H2 p=some (.tup [.int q.1,.int q.2])
def rLI:List V->Hp->VK->Prop:=λ xs H Q=>∃v a l,xs=[.ref v]/\H v=some (aE7 v a)/\H a=some (.dK (du l))/\∀L as H2,aO H H2->H L=none->H2 L=some (.lst (as.map V.ref))->L∉as->PrA H H2 as l->Q (.ref L) H2
theorem wV:∀as:List Addr,Vals (as.map V.ref) (as.map zAu)
 |[]=>.nil
 |a::as=>.cons rfl (wV as)
def aJW{X:Cx}(hc:X.calm=true):cU X (.type "list") rLI:=by
 intro hV s Z H xs us Q I r h;obtain⟨v,a,l,rfl,hv,ha,q⟩:=h;obtain⟨u,rfl,ru⟩:=vals1 r;cases ru;have hview:s.heap.IsItemsView v a:=(I.hok v _ hv).1;obtain⟨z,hd,vs,rel,dd⟩:=sW I.hok ha;obtain⟨ep,hda⟩:=dd.dictAt;have hW:vs.length=l.length:=by rw[<-rel.length];simp[du]
 have hlz:l.length<=zAK:=by simpa[du]using z
 refine PySem.W.kdx_call (I.ok.hd hc) hview hda (by rw[hW];exact hlz) λ h' tk acc c as hk hL hal G kQ=>?_
 have hll:as.length=l.length:=hal.trans hW;have hnd:as.Nodup:=G.rise.imp λ{x y} q e=>by subst e;exact zAw _ q
 have hz1:((as.zip l).map (·.1))=as:=zEv (by lia);have hfr:∀b,s.heap.objs.size<=b->H b=none:=λ b hb=>I.hok.fresh hb
 have I1:Inv X hV Z H {s with heap:=h',toks:=tk}:=I.kept hk;obtain⟨I2,sm,tr,ot⟩:=aC2 (as.zip l) I1 (λ y hy=>by
  obtain⟨j,hj⟩:=List.mem_iff_getElem?.mp hy;obtain⟨y1,y2⟩:=y;rw[zD5]at hj;have hab:=G.above y1 (zAg hj.1);obtain⟨key,k,x,e1,e2,e3⟩:=G.pairs j y1 hj.1;obtain⟨t,e4⟩:=aGR rel hj.2;rw[e4]at e1;cases e1;have ek:∃t',key= .int y2.1 t':=by
   rcases bj (k:=.inl y2.1) (v:=key) e2 with ⟨j,t,e1,e2⟩|⟨y,t,e1,e2⟩
   .cases e1;exact⟨t,e2⟩
   .cases e1
  obtain⟨t',rfl⟩:=ek;exact⟨I.fpOk (zBT hab) (hfr _ (zBT hab)),zAh I.sz (zBT hab),t',t,e3⟩) (by rw[hz1];exact hnd)
 have hLn:s.heap.objs.size∉as:=λ z=>zAw _ (G.above _ z)
 have fL:lY X hV (yK H (as.zip l)) s.heap.objs.size:=I.fpOk (zAP _) (by rw[ot _ (by rw[hz1];exact hLn)];exact hfr _ (zAP _));have hacc2:acc=(as.map zAu).toArray:=by rw[<-kQ]
 have I3:=Inv.track (o:=.lst (as.map V.ref)) I2 fL I.sz ⟨by rw[zAD,hll];exact hlz,as.map zAu,c,wV as,by rw[<-hacc2];exact hL⟩;have sm2:aO (yK H (as.zip l)) (upd (yK H (as.zip l)) s.heap.objs.size (.lst (as.map V.ref))):=ak fL.1 _;refine⟨.ref s.heap.objs.size,_,I3,rfl,q _ as _ (sm.trans sm2) (hfr _ (zAP _)) aR hLn ⟨hll,λ i p y hp hy=>?_⟩⟩;have hm:(p,y)∈as.zip l:=zAg (zD5.mpr ⟨hp,hy⟩);exact⟨hfr _ (zBT (G.above _ (zAg hp))),sm2 _ _ (tr _ hm)⟩
def aDw:D->Rs D
 | .dct ks vs=>(match lR ks vs with
  |some l=>.ok (.lst (l.map λ p=>.tup [.int p.1,.int p.2]))
  |none=>.st)
 |_=>.st
theorem aFF{K:zAA}{A:Addr->Prop}:∀{as:List Addr} {l:gX},PrA H H2 as l->Rps K A H2 (as.map V.ref) (l.map λ p=>.tup [.int p.1,.int p.2])
 |[],[],_=>.nil
 |[],_::_,h=>by cases h.1
 |_::_,[],h=>by cases h.1
 |a::as,q::l,h=>.cons (.tup (.inl (.inl (h.2 0 a q rfl rfl).2)) (.cons (.int _) (.cons (.int _) .nil))) (aFF ⟨by have:=h.1;simpa using this,λ i p y hp hy=>h.2 (i+1) p y (by simpa using hp) (by simpa using hy)⟩)
section
variable{C:Ct}{pos p apos cpos:Pos}{o:Expr}{fo:En->Rs D}{m:Mode}
def aKa(hmL:C.mg "list"=none)(ho:SE C m o fo)(hs2:∀i,zAY [.Call (.Attribute o "items" apos) [] [] cpos] (C.X i).env=[(false,eval (.Call (.Attribute o "items" apos) [] [] cpos) (C.X i).env)]:=by intro _;rfl)(hgL:∀i,Gl (C.X i) "list":=by intro _;rfl)(hvL:zAv "list"=some (.type "list"):=by decide+kernel)
  (hbase:∀j,zBV o "items" (C.X j).env (eval o (C.X j).env)=eval o (C.X j).env:=by intro _;rfl)(hline:(apos.endLine==cpos.line)=true:=by rfl):
  SE C (some []) (.Call (.Name "list" p) [.Call (.Attribute o "items" apos) [] [] cpos] [] pos) (op1 aDw fo):=by
 obtain⟨t,h1,h2⟩:=ho;refine⟨tCB rLI (gO (aHZ C.K "dict" aJp t) nU),λ i=>nF (aJW (C.calm i)) (hgL i) (by rw[(C.cx i).2.2.2.1];exact hmL) hvL (aW (by rw[<-C.hK i];exact aBn zC8 zC9 zF2 aFz (h1 i) (hbase i) hline) cI (hs2 i)) (by decide) (by decide) (hs2 i) rfl,λ U Z H Y lab Q R W=>?_⟩;refine h2 U Z H Y lab _ R (W.bd.imp λ d _ w y H1 s1 r1=>?_);obtain⟨z,ez,wz⟩:=w.okD;cases d with
 |dct ks vs=>
  unfold aDw at ez;dsimp only at ez;cases hl:lR ks vs with
  |none=>rw[hl]at ez;cases ez
  |some l=>
   rw[hl]at ez;cases ez;obtain⟨a,rfl,g,_⟩:=r1.itm_dct hl;refine⟨.inr (.inr (.inl ⟨rfl,.inl ⟨_,g⟩⟩)),a,_,rfl,rfl,g,λ v hv=>?_⟩;have hne:a≠v:=λ e=>by subst e;rw[g]at hv;cases hv
   refine⟨v,a,l,rfl,aR,by rw[aL hne];exact g,λ L as H2 s2 hL hl2 hn P=>?_⟩;have s0:=(s1.trans (ak hv _)).trans s2;exact wz _ H2 s0 (.lst hl2 (.inl ((s1.trans (ak hv _)).free hL)) (aFF P))
 |_=>cases ez
end
def aBy:List (zGo×zGo)->Option gX
 |[]=>some []
 |(.int a,.int b)::r=>(aBy r).map ((a,b)::·)
 |_=>none
theorem aAN{P:zAS}{w:World}:∀{vs:List (Value×Value)} {D:List (zGo×zGo)} {l:gX},ReadAs vs D->aBy D=some l->∃kvs:List (Key×Value),Carries (bR P w) vs kvs/\KV (du l) kvs
 |_,_,l,.nil,h=>by cases h;exact⟨[],trivial,.nil⟩
 |_,_,l,.cons (dk:=dk) (dv:=dv) fk fv fr,h=>by
  cases dk with
  |int a=>
   cases dv with
   |int b=>
    simp only[aBy,zBc]at h;obtain⟨m,hm,rfl⟩:=h;obtain⟨t,rfl⟩:=fk.int_inv;obtain⟨t',rfl⟩:=fv.int_inv;obtain⟨kvs,c,kv⟩:=aAN (P:=P) (w:=w) fr hm;exact⟨(.inl a,.int b t')::kvs,⟨xR (k:=.inl a) ⟨t,rfl⟩,rfl,c⟩,.cons ⟨rfl,t',rfl⟩ kv⟩
   |_=>simp[aBy]at h
  |_=>simp[aBy]at h
def aJc(l:gX):TE:=λ _ H Q=>∀p,H p=none->Q (.ref p) (upd H p (.dK (du l)))
def aIP{X:Cx}{keys:List (Option Expr)}{values:List Expr}{pos:Pos}{D:List (zGo×zGo)}{l:gX}(hD:litPairs keys values=some D)(hl:aBy D=some l)(hn:(l.map (·.1)).Nodup)(hz:l.length<=15)
  (hall:keys.all (·.isSome)=true)(hkl:keys.length=values.length)(h0:keys≠[])(hW:keys.length<=15):PE X (.Dict keys values pos) (aJc l):=by
 intro hV s Z H Q I h;refine wpAny_Dict_walk (knd:=bR X.prog X.w) hall hkl h0 hW (evalPairs_lits keys values D _ _ hD λ vs tk fr=>?_);obtain⟨kvs,c,kv⟩:=aAN (P:=X.prog) (w:=X.w) fr hl;have hk1:kvs.map (·.1)=(du l).map (·.1):=KV.at kv;have hnd:(kvs.map (·.1)).Nodup:=by
  rw[hk1];unfold du;rw[zAU]
  show(l.map λ p=>(zB5 p.1:Key)).Nodup
  rw[show(l.map λ p=>(zB5 p.1:Key))=(l.map (·.1)).map zB5 by rw[zAU];rfl];exact zIL _ (λ x y q e=>q (zHj e)) hn
 refine⟨kvs,c,zGM _,λ h' hm hs=>?_⟩;rw[merged_nil_of_nodup _ hnd]at hm;refine⟨.ref s.heap.objs.size,_,I.laid (a:=s.heap.objs.size) (o:=.dK (du l)) (h':=h') (t':=tk+vs.length) (λ b u e=>(hs.2 b (zAa (zAW e))).trans (zAI _ e)) (zAP _) ?_,rfl,h _ (I.hok.fresh (zAP _))⟩;exact⟨by rw[du,zAD];exact zAh hz (by decide),beq_eq_false_iff_ne.mpr (zC0 (zAa I.big)),kvs,kv,hm⟩
def dF(l:gX):D:=rO (l.map λ p=>(p.1,.int p.2))
def aHq{K:zAA}{A:Addr->Prop}(h:H a=some (.dK (du l)))(m:A a):Rp K A H (.ref a) (dF l):=by
 refine uH h m ?_ ?_
 .unfold du
  rw[zAU,zAU];clear h m;induction l with
  |nil=>exact .nil
  |cons p l ih=>exact .cons (.int _) ih
 .unfold du
  rw[zAU,zAU];rfl
section
variable{C:Ct}{pos:Pos}
def aHm{keys:List (Option Expr)}{values:List Expr}(l:gX){D:List (zGo×zGo)}(hD:litPairs keys values=some D:=by rfl)(hl:aBy D=some l:=by rfl)(hn:(l.map (·.1)).Nodup:=by decide)(hz:l.length<=15:=by decide)
  (hall:keys.all (·.isSome)=true:=by rfl)(hkl:keys.length=values.length:=by rfl)(h0:keys≠[]:=by simp)(hW:keys.length<=15:=by decide):SE C (some []) (.Dict keys values pos) (cD (dF l)):=
 ⟨aJc l,λ _=>aIP hD hl hn hz hall hkl h0 hW,λ U Z H Y lab Q R W p hp=>W _ _ (ak hp _) (aHq aR (.inl hp))⟩
end
theorem zr:∀{l:gX} {q:Int×Int},(l.map (·.1)).Nodup->q∈l->oV (du l) (.inl q.1)=some (.int q.2)
 |p::l,q,nd,h=>by
  obtain⟨n1,n2⟩:=zA5.mp nd;by_cases c:p.1=q.1
  .have:p=q:=by
    rcases zAN.mp h with z|z
    .exact z.symm
    .exact absurd (by show p.1∈_;rw[c];exact zGl (f:=λ x:Int×Int=>x.1) z) n1
   subst this;exact lZ rfl
  .show oV ((zB5 p.1,V.int p.2)::du l) (.inl q.1)=_
   rw[lq (p:=(zB5 p.1,V.int p.2)) (by simpa using c)];exact zr n2 ((zAN.mp h).resolve_left λ z=>c (by rw[z]))
theorem aAf{P:zAS}{w:World}{A:zA8}{s:zAB}{kb:List (Key×Value)}:∀{l:gX} {ka:List (Key×Value)},KV (du l) ka->(∀q∈l,∃t,zEr kb (.inl q.1)=some (.int q.2 t))->PySem.W.KeqHits A s kb ka true
 |[],_,r,_=>by cases r;exact .nil
 |p::l,ka,r,h=>by
  unfold KV du at r;rw[zAE]at r;cases r with
  |cons e t=>
   rename_i x ka;obtain⟨x1,x2⟩:=x;obtain⟨e1,tk,e2⟩:=e;dsimp only at e1 e2;subst e1 e2;obtain⟨t',hv⟩:=h p zAG;have he:zBs A s (.int p.2 tk) (.int p.2 t') true:=by
    have:=PySem.W.keq_flat (A:=A) (s:=s) (zFE p.2 tk) (zFE p.2 t')
    simpa[PyData.eqv]using this
   exact .hit hv he (aAf (P:=P) (w:=w) (show KV (du l) _ from t) λ q hq=>h q (zAL _ hq))
def aKo:R2:=λ x y H Q=>∃a b l,x= .ref a/\y= .ref b/\H a=some (.dK (du l))/\H b=some (.dK (du l))/\Q (.bl true) H
def aLV{X:Cx}(hu:X.A.units+1<cLine):OpR X (zAy .Eq) aKo:=by
 intro hV s Z H x y u v Q I rx ry ⟨a,b,l,ex,ey,ha,hb,q⟩;subst ex ey;cases rx;cases ry;obtain⟨_,sa,ka,ra,da⟩:=sW I.hok ha;obtain⟨_,sb,kb,rb,db⟩:=sW I.hok hb;have hnd:(l.map (·.1)).Nodup:=by
  obtain⟨_,_,_,_,_,_,_,_,nd⟩:=id db;rw[KV.at rb]at nd;unfold du at nd;rw[zAU]at nd;have e:(l.map ((λ x:Key×V=>x.1)∘λ p:Int×Int=>((zB5 p.1:Key),V.int p.2)))=(l.map (·.1)).map zB5:=by rw[zAU];rfl
  rw[e]at nd;exact(zBH.mp nd).imp λ{x y} z e=>z (by rw[e])
 have la:ka.length=l.length:=by rw[<-ra.length];simp[du]
 have lb:kb.length=l.length:=by rw[<-rb.length];simp[du]
 refine PySem.W.keq_eq sa sb da db (by lia) (λ _=>aAf (P:=X.prog) (w:=X.w) ra λ z hz=>?_) ?_
 .have h1:=rb.val (.inl z.1)
  rw[zr hnd hz]at h1;cases hv:zEr kb (.inl z.1)with
  |none=>rw[hv]at h1;exact zAF h1
  |some y=>
   rw[hv]at h1;obtain⟨t,rfl⟩:=(show∃t,y=zCt z.2 t from h1);exact⟨t,rfl⟩
 .rw[la,lb,beq_self_eq_true]
  exact⟨.bl true,H,I,rfl,q⟩
def aAx:D->D->Rs D
 | .dct ks vs,.dct ks2 vs2=>(match lR ks vs,lR ks2 vs2 with
  |some l,some m=>if l=m then .ok (.bl true)else .st
  |_,_=>.st)
 |_,_=>.st
def aDP(h:aAx d e= .ok z):∃ks vs ks2 vs2 l,d= .dct ks vs/\e= .dct ks2 vs2/\lR ks vs=some l/\lR ks2 vs2=some l/\z= .bl true:=by
 unfold aAx at h;split at h
 .split at h
  .split at h
   .rename_i e
    cases h;subst e;rename_i h1 h2;exact⟨_,_,_,_,_,rfl,rfl,h1,h2,rfl⟩
   .cases h
  .cases h
 .cases h
def aLG{K:zAA}:OpS K aKo aAx:=by
 intro A x y d e H Q z rx ry ez q;obtain⟨ks,vs,ks2,vs2,l,rfl,rfl,h1,h2,rfl⟩:=aDP ez;obtain⟨a,rfl,ga,_⟩:=rx.itm_dct h1;obtain⟨b,rfl,gb,_⟩:=ry.itm_dct h2;exact⟨a,b,l,rfl,rfl,ga,gb,q _ H (aO.refl H) (.bl _)⟩
def aIz(h:aAx x y= .ok z):imm z=true:=by
 obtain⟨_,_,_,_,_,_,_,_,_,rfl⟩:=aDP h;rfl
section
variable{C:Ct}{m1 m2:Mode}{a b:Expr}{fa fb:En->Rs D}{pos:Pos}
def Ct.deq(C:Ct)(i:C.ι):OpR (C.X i) (zAy .Eq) aKo:=aLV (by have:=(C.room i).un;lia)
def aKd(ha:SE C m1 a fa)(hb:SE C m2 b fb):SE C (some []) (.Compare a [.Eq] [b] pos) (op2 aAx fa fb):=cW (yV C.deq aLG ha hb) λ _ _ h=>fU (λ _ _ _=>aIz) h
end
def aM5(K:zAA)(a b:Addr):It:=
 ⟨λ i H=>∃xs ys x y,SqL K H a xs/\SqL K H b ys/\xs[i]? =some x/\ys[i]? =some y,λ i H v H'=>∃p x y,v= .ref p/\H p=none/\H'=upd H p (.tup [x,y])/\(∀xs,SqL K H a xs->xs[i]? =some x)/\∀ys,SqL K H b ys->ys[i]? =some y,λ i H=>∃xs ys,SqL K H a xs/\SqL K H b ys/\(xs.length<=i\/ys.length<=i)⟩
def LstIter.ext{hp h':Heap}{it t i c}(h:Heap.IsListIter hp it t i)(e:Heap.ExtBut c hp h')(n:it≠c):h'.IsListIter it t i:=h.at λ o q=>e it o n q
def aD0{P:zAS}{w:World}{K:zAA}{elts:List Expr}{x1:Nat}{ps:Pos}(a b z TI TO i1 i2:Addr)(D:ZipApart z TI TO i1 i2 a b):
  Turn P w K (.Tuple elts x1 ps) (aM5 K a b) [z,TI,TO,i1,i2] z (λ i h=>IsZip h z TI TO .none/\IsPair h TI (.ref i1) (.ref i2)/\(∃u v,IsPair h TO u v)/\h.IsListIter i1 a i/\h.IsListIter i2 b i) where
 mem:=by simp
 obj:=λ i h ⟨e1,e2,⟨u,v,e3⟩,⟨o4,e4,_,d4⟩,o5,e5,_,d5⟩ c hc=>by
  simp only[zAN,zBl,or_false]at hc;rcases hc with rfl|rfl|rfl|rfl|rfl
  .exact⟨_,e1,λ v z=>by cases z⟩
  .exact⟨_,e2,λ v z=>by cases z⟩
  .exact⟨_,e3,λ v z=>by cases z⟩
  .exact⟨o4,e4,λ v z=>by rw[d4]at z;cases z⟩
  .exact⟨o5,e5,λ v z=>by rw[d5]at z;cases z⟩
 keep:=λ i h h' ⟨e1,e2,⟨u,v,e3⟩,e4,e5⟩ k=>⟨k _ (by simp) _ e1,k _ (by simp) _ e2,⟨u,v,k _ (by simp) _ e3⟩,e4.at λ o q=>k _ (by simp) o q,e5.at λ o q=>k _ (by simp) o q⟩
 item:=by
  intro X hP hw hK hc i hV s Z H E I hf st hg;subst hP hw hK;obtain⟨xs,ys,x,y,q1,q2,hx,hy⟩:=hg;obtain⟨its,rv,p,hz⟩:=I.list q1;obtain⟨its2,rv2,p2,hz2⟩:=I.list q2;obtain⟨u,hu,ru⟩:=rv.get hx;obtain⟨u2,hu2,ru2⟩:=rv2.get hy;obtain⟨e1,e2,⟨c,d,e3⟩,e4,e5⟩:=st;have lt:∀{c o},s.heap.get? c=some o->c≠s.heap.objs.size:=λ e=>zAa (zAW e)
  have n1:i1≠s.heap.objs.size:=by obtain⟨_,e,_⟩:=e4;exact lt e
  have n2:i2≠s.heap.objs.size:=by obtain⟨_,e,_⟩:=e5;exact lt e
  refine wpAny_pyNext_zip_item D e1 e2 e3 e4 e5 p.isList p2.isList (x:=u) (y:=u2) (by simpa using hu) (by simpa using hu2) λ h' f1 f2 f3 f4 f5 f6 k=>⟨_,rfl,?_⟩
  refine wpAny_letOwnedTupleGo_zip f1 λ h2 z2 s2=>⟨.ref s.heap.objs.size,upd H s.heap.objs.size (.tup [x,y]),?_,rfl,⟨_,x,y,rfl,I.hok.fresh (zAP _),rfl,λ l hl=>by rw[I.list_inj hl q1];exact hx,λ l hl=>by rw[I.list_inj hl q2];exact hy⟩,
   ⟨z2,s2.extBut _ _ D.TIz (k _ _ D.TIz D.TITO D.TIi1 D.TIi2 e2),⟨_,_,s2.extBut _ _ D.TOz f2⟩,LstIter.ext f3 s2.extBut D.i1z,LstIter.ext f4 s2.extBut D.i2z⟩,λ c hc=>?_⟩
  .refine vM (s:=s) (h':=h2) (t':=s.toks) (ch:=[z,TI,TO,i1,i2]) I hf (λ c v hc q=>(s2.2 c λ e=>hc (by simp[e])).trans (k c v (λ e=>hc (by simp[e])) (λ e=>hc (by simp[e])) (λ e=>hc (by simp[e])) (λ e=>hc (by simp[e])) q)) (zAP _) ⟨⟨by simp[zCN],NoD.at ((s2.2 _ (lt e1).symm).trans f5)⟩,[u,u2],.cons ru (.cons ru2 .nil),_,(s2.2 _ (lt e1).symm).trans f5,rfl,_,rfl⟩
  .have:=(hf c hc).1
   rw[aL]
   .exact this
   .rintro rfl
    simp only[zAN,zBl,or_false]at hc;rcases hc with m|m|m|m|m
    .exact lt e1 m.symm
    .exact lt e2 m.symm
    .exact lt e3 m.symm
    .exact n1 m.symm
    .exact n2 m.symm
 done:=by
  intro X hP hw hK hc i hV s Z H E I hf st hg;subst hP hw hK;obtain⟨xs,ys,q1,q2,hx⟩:=hg;obtain⟨its,rv,p,hz⟩:=I.list q1;obtain⟨its2,rv2,p2,hz2⟩:=I.list q2;obtain⟨e1,e2,⟨c,d,e3⟩,e4,e5⟩:=st;have hl:=rv.length;have hl2:=rv2.length;refine wpAny_pyNext_zip_end (I.ok.hd hc) D e1 e2 e3 e4 e5 p.isList p2.isList (by simp;lia) λ h' k=>⟨rfl,aEF (t':=s.toks) (ch:=[z,TI,TO,i1,i2]) I hf λ c v hc q=>k c v (λ e=>hc (by simp[e])) (λ e=>hc (by simp[e])) (λ e=>hc (by simp[e])) (λ e=>hc (by simp[e])) q⟩
 self:=λ _ _ _ _ _ st h=>wpAny_pyIter_zip st.1 h
def aKC(K:zAA)(tl:TA):TI:=λ Z H R=>tl Z H λ xs H1=>∃a b,xs=[.ref a,.ref b]/\(∃ys,SqL K H1 a ys)/\(∃ys,SqL K H1 b ys)/\R (aM5 K a b) H1
def aIJ{X:Cx}{elts:List Expr}{x1:Nat}{ps p pos:Pos}{l m:Expr}{tl:TA}(hl:PA X [l,m] tl)(hg:Gl X "zip")(hm:X.mg "zip"=none)(hv:zAv "zip"=some (.type "zip"))
  (hs:zAY [l,m] X.env=[(false,eval l X.env),(false,eval m X.env)]:=by rfl)(hs2:zAY [m] X.env=[(false,eval m X.env)]:=by rfl):PI X (.Tuple elts x1 ps) (.Call (.Name "zip" p) [l,m] [] pos) (aKC X.K tl):=by
 intro hV s Z H R I h;refine zBa (pH I hg hm hv ?_ (by decide) (by decide));refine zB8 (thn (hl pos hV s Z H _ I h) λ us s1 ⟨vs,H1,I1,r1,a,b,e,⟨ys,hy⟩,⟨ys2,hy2⟩,q⟩=>?_) (by rw[hs,hs2]) (by rw[hs2];rfl);subst e;obtain⟨u,u2,rfl,ru,ru2⟩:∃u u2,us=[u,u2]/\RelV (.ref a) u/\RelV (.ref b) u2:=by
  cases r1 with
  |cons r rr=>
   cases rr with
   |cons r' rr=>cases rr;exact⟨_,_,rfl,r,r'⟩
 cases ru;cases ru2;obtain⟨its,rv,pp,hz⟩:=I1.list hy;obtain⟨its2,rv2,pp2,hz2⟩:=I1.list hy2;have ha:a<s1.heap.objs.size:=let⟨o,_,ho,_⟩:=pp;zAW ho
 have hb:b<s1.heap.objs.size:=let⟨o,_,ho,_⟩:=pp2;zAW ho
 obtain⟨n,en⟩:∃n,n=s1.heap.objs.size:=⟨_,rfl⟩
 refine call_zip_2 pp.isList pp2.isList λ h' e1 e2 e3 e4 e5 e6 hk=>wpAny_pyIter_zip e1 ?_
 rw[<-en]at ha hb e1 e2 e3 e4 e5 ⊢;refine⟨_,[n+4,n+2,n+3,n,n+1],_,_,H1,rfl,I1.kept (t':=s1.toks) hk,aD0 a b (n+4) (n+2) (n+3) n (n+1) ⟨by lia,by lia,by lia,by lia,by lia,by lia,by lia,by lia,by lia,by lia,by lia,by lia,by lia,by lia,by lia,by lia,by lia,by lia⟩,⟨e1,e2,⟨_,_,e3⟩,e4,e5⟩,λ c hc=>?_,q⟩;have hle:s1.heap.objs.size<=c:=by
  simp only[zAN,zBl,or_false]at hc;lia
 exact I1.fpOk hle (I1.hok.fresh hle)
def aE4:List D->Rs (List D)
 |[.lst l,.lst m]=>.ok (aBO l m)
 |_=>.st
def aIn{K:zAA}{lab:Lab}{H:Hp}{a b:Addr}{xs ys:List V}{ds es:List D}(h:SqL K H a xs)(r:Rps K (λ p=>(lab p).1<=1) H xs ds)(h2:SqL K H b ys)(r2:Rps K (λ p=>(lab p).1<=1) H ys es):JL K lab (aM5 K a b) H (aBO ds es):=by
 have hl:=r.length;have hl2:=r2.length;have hle:(aBO ds es).length=min ds.length es.length:=by simp[aBO]
 refine λ i=>⟨λ hi=>⟨xs,ys,h,h2,by lia⟩,λ hi=>⟨⟨xs,ys,xs[i]'(by lia),ys[i]'(by lia),h,h2,by simp,by simp⟩,λ x H' y=>?_⟩⟩
 obtain⟨p,y,y2,rfl,hp,rfl,hy,hy2⟩:=y;obtain⟨d,g1,g2⟩:=r.get (hy xs h);obtain⟨d2,g3,g4⟩:=r2.get (hy2 ys h2);refine⟨ak hp _,.tup [d,d2],?_,.tup (.inl (.inl aR)) (.cons (g2.up (ak hp _)) (.cons (g4.up (ak hp _)) .nil))⟩;unfold aBO;rw[zAZ,zD5 (z:=(d,d2)) |>.mpr ⟨g1,g3⟩];rfl
section
variable{C:Ct}{m:Mode}{a b:Expr}{ga:En->Rs (List D)}{elts:List Expr}{x1:Nat}{ps p pos:Pos}
def aHd(ha:SA C m [a,b] ga)(hm:C.mg "zip"=none)(ho:okS m=true:=by rfl)(hs:∀i,zAY [a,b] (C.X i).env=[(false,eval a (C.X i).env),(false,eval b (C.X i).env)]:=by intro _;rfl)(hs2:∀i,zAY [b] (C.X i).env=[(false,eval b (C.X i).env)]:=by intro _;rfl)(hg:∀i,Gl (C.X i) "zip":=by intro _;rfl)(hv:zAv "zip"=some (.type "zip"):=by decide+kernel):
  SI C (.Tuple elts x1 ps) (.Call (.Name "zip" p) [a,b] [] pos) (fW aE4 ga):=by
 obtain⟨t,p1,p2⟩:=ha;refine⟨aKC C.K t,λ i=>by rw[<-C.hK i];exact aIJ (p1 i) (hg i) (by rw[(C.cx i).2.2.2.1];exact hm) hv (hs i) (hs2 i),λ U Z H Y lab Rr R W=>p2 U Z H Y lab _ R (W.bd.imp λ ds _ w vs H1 s r=>?_)⟩;unfold aE4 at w;split at w
 .rename_i l k _
  cases r with
  |cons r1 rr=>
   obtain⟨v2,rfl,r2⟩:=rr.one_inv;obtain⟨R',r1'⟩:=R.shared ho s r1;obtain⟨_,r2'⟩:=R.shared ho s r2;obtain⟨b,xs,rfl,h,mm,q⟩:=r1'.lst_inv;obtain⟨b2,xs2,rfl,h2,mm2,q2⟩:=r2'.lst_inv;refine⟨b,b2,rfl,⟨xs,SqL.of h⟩,⟨xs2,SqL.of h2⟩,w _ H1 _ [(.ref b,.lst l),(.ref b2,.lst k)] s (λ p o e=>bD e) ⟨R'.len,R'.sl,R'.old,R'.new,λ z hz=>?_⟩ λ lab' H' hq=>?_⟩
   .rcases zAN.mp hz with rfl|hz
    .exact .lst h mm q
    .rcases zAN.mp hz with rfl|hz
     .exact .lst h2 mm2 q2
     .exact R'.tm z hz
   .have z:=hq _ (zAG ..)
    have z2:=hq _ (zAL _ (zAG ..));obtain⟨b',xs',e',h',_,q'⟩:=z.lst_inv;obtain⟨b3,xs3,e3,h3,_,q3⟩:=z2.lst_inv;cases e';cases e3;exact aIn (SqL.of h') (q'.wk λ _ _ _ z=>z.1) (SqL.of h3) (q3.wk λ _ _ _ z=>z.1)
 .exact zAF w
end
def zH(K:zAA)(x:Str)(Pt:Addr):Bool:=match zAd K zA2 x with
 |some (some (.ref f))=>(match K.lookup f with
  |some ⟨_,_,.func fd,_⟩=>(match fd.code with| .ref c=>zDe K c Pt|_=>false)
  |_=>false)&&(K.lookup Pt).isNone
 |_=>false
def aDy{K:zAA}{h:Heap}{mg:Str->Option Value}{fa Pt:Addr}{x:Str}(X:K.In h)(G:h.Ns zA2 mg)(hm:mg x=some (.ref fa))(e:zH K x Pt=true)
  {o:Obj}{fd:zAo}(lk:K.lookup fa=some o)(hd:o.data= .func fd):K.lookup Pt=none/\∃c,fd.code= .ref c/\zDe K c Pt=true:=by
 unfold zH at e;split at e
 .rename_i f hf
  have e1:=(zAf X G hf).symm.trans hm;cases e1;rw[zAC]at e;refine⟨by simpa using e.2,?_⟩;have e2:=e.1;rw[lk]at e2;split at e2
  .rename_i fd' _ q
   have q2:=zAe q;rw[q2]at hd;have hd2:Data.func fd'=Data.func fd:=hd;cases hd2;split at e2
   .rename_i c hc
    exact⟨c,hc,e2⟩
   .cases e2
  .cases e2
 .cases e
def aIj{P:zAS}{w:World}{K:zAA}{h:Heap}{mg:Str->Option Value}{fa Pt:Addr}{fd:zAo}{k n:Nat}{x:Str}{N:List Str}{st:Stmt}{f:En->Ou}{F:List D->Rs D}(X:K.In h)(G:h.Ns zA2 mg)
  (hB:zH K "law" Pt=true){ps:List Str}(e:Dnr K mg "law" st ps fa fd)(S:aZ N [x] (aF st))
  (hbind:∀(kV doc pm:Value) (an:Option Addr) (cdv ct:Value) (s:zAB) (u:Value),zGq s (zB2 "law" "law" (lL st) (cN st) (aF st) .none kV doc pm an cdv ct) ⟨[u],[]⟩ [(x,u)])
  (body:∀(base:Heap) (c:Addr) (s:zAB) (H:Hp) (hr:dj k (zCV.deeper (zCc "law" (aF st) s.heap.objs.size fa (.ref c)))),su (cxW P w K mg base N "law" (aF st) fa (.ref c) zCV s H Pt) Pt->zCY N->
   SSs (ctW P w K mg base N "law" (aF st) fa (.ref c) zCV s H Pt k hr) (cN st) f)
  (hF:F=fG N.length f)(tru:∀ns:List Int,ns.length<=n->F [.scr ns]= .ok (.bl true)):aDZ P w K mg fa Pt k n:=by
 obtain⟨oc,od,kV,doc,pm,an,cdv,ct,osl,e1,lk,hcd⟩:=e.F.ex;obtain⟨h1,c,h2,h3⟩:=aDy X G e.m hB lk rfl;subst e1;obtain rfl:cdv= .ref c:=h2;exact⟨x,"law","law",_,_,_,_,kV,doc,pm,ct,oc,an,od,c,osl,N,h1,h3,lk,hcd,S,λ s u=>hbind kV doc pm an _ ct s u,λ a ns hl base s H hr Lx hO hS=>
  aGM (body base c s H hr Lx S.nd) (by rw[<-hF];exact tru ns hl) (.cons (.scr (aKf hO hS)) .nil)⟩
section
variable{Y:En}{i:Nat}{f g:En->Rs D}{fb gb:En->Rs Bool}{ga:En->Rs (List D)}{u v:En->Ou}{d:D}
@[simp] def varD_ap:nT i Y=match Y[i]? with
 |some (.sh d)=>.ok d
 |some (.nw d)=>.ok d
 |some (.ow d)=>.ok d
 |some (.oz d)=>.ok d
 |some (.o2 l)=>.ok (.lst (l.map .lst))
 |_=>.st:=aM rfl
@[simp] def aHS:aB i Y=match Y[i]? with
 |some (.sh d)=>.ok d
 |some (.nw d)=>.ok d
 |_=>.st:=aM rfl
@[simp] def varN_ap:qZ i Y=match Y[i]? with
 |some (.nw d)=>.ok d
 |_=>.st:=aM rfl
@[simp] def varO_ap:uJ i Y=match Y[i]? with
 |some (.ow d)=>.ok d
 |some (.o2 l)=>.ok (.lst (l.map .lst))
 |_=>.st:=aM rfl
@[simp] def aKK:cD d Y= .ok d:=aM rfl
@[simp] def lE:aK Y= .ok []:=aM rfl
@[simp] def cJ:aD f ga Y=(f Y).bd λ d=>(ga Y).bd λ ds=>.ok (d::ds):=aM rfl
@[simp] def szl:zAK=16777216:=zCN
@[simp] def aHU:cO ga Y=(ga Y).bd λ ds=>if ds.length<=16777216 then .ok (.tup ds)else .st:=by unfold cO;rw[szl]
@[simp] def aIe:iY ga Y=(ga Y).bd λ ds=>if ds.length<=16777216 then .ok (.lst ds)else .st:=by unfold iY;rw[szl]
@[simp] def dq:okD (.ok d)= .ok d:=aM rfl
@[simp] def iW:op2 fd f g Y=(f Y).bd λ x=>(g Y).bd λ y=>okD (fd x y):=aM rfl
@[simp] def op1_ap:op1 fd f Y=(f Y).bd λ x=>okD (fd x):=aM rfl
@[simp] def yq:opA fd ga Y=(ga Y).bd λ x=>okD (fd x):=aM rfl
@[simp] def vy:au F ga Y=(ga Y).bd F:=aM rfl
def aN8(d:D)(r:Rs D):Rs D:=match d with
 | .bl true=>r
 | .bl false=>.ok (.bl false)
 |_=>.st
def orR(d:D)(r:Rs D):Rs D:=match d with
 | .bl false=>r
 | .bl true=>.ok (.bl true)
 |_=>.st
@[simp] def aDY:aN8 (.bl b) r=if b=true then r else .ok (.bl false):=by cases b<;>rfl
@[simp] def orR_bl:orR (.bl b) r=if b=true then .ok (.bl true)else r:=by cases b<;>rfl
@[simp] def za:zb f g Y=(f Y).bd λ d=>aN8 d (g Y):=aM rfl
@[simp] def orD_ap:orD f g Y=(f Y).bd λ d=>orR d (g Y):=aM rfl
@[simp] def notD_bl:aL0 (.bl b)= .ok (.bl (!b)):=aM rfl
@[simp] def aLp:ifD fb f g Y=(fb Y).bd λ k=>if k=true then f Y else g Y:=aM rfl
def chR(d:D)(r:Rs D):Rs D:=match d with
 | .bl true=>r
 | .bl false=>.ok (.bl false)
 |_=>.st
@[simp] def chR_bl:chR (.bl b) r=if b=true then r else .ok (.bl false):=by cases b<;>rfl
@[simp] def chD_ap:chD fd fd' f g h Y=(f Y).bd λ x=>(g Y).bd λ y=>(okD (fd x y)).bd λ z=>chR z ((h Y).bd λ w=>okD (fd' y w)):=aM rfl
@[simp] def truD_bl:aHV (.bl b)= .ok b:=aM rfl
@[simp] def truD_int:aHV (.int n)= .ok (n !=0):=aM rfl
@[simp] def blD_bl:blD (.bl b)= .ok b:=aM rfl
@[simp] def tst_ap:tst f Y=(f Y).bd aHV:=aM rfl
@[simp] def tsb_ap:tsb f Y=(f Y).bd blD:=aM rfl
@[simp] def andT_ap:aJ0 fb gb Y=(fb Y).bd λ k=>if k=true then gb Y else .ok false:=aM rfl
@[simp] def orT_ap:orT fb gb Y=(fb Y).bd λ k=>if k=true then .ok true else gb Y:=aM rfl
@[simp] def notT_ap:tL fb Y=(fb Y).bd λ k=>.ok (!k):=aM rfl
@[simp] def aQ:aq u v Y=(u Y).sq v:=aM rfl
@[simp] def kj:retS f Y=(f Y).bo .rt:=aM rfl
@[simp] def dropS_ap:aAq f Y=(f Y).bo λ _=>.nx Y:=aM rfl
@[simp] def aG7:ifS fb u v Y=(fb Y).bo λ k=>if k=true then u Y else v Y:=aM rfl
@[simp] def kW:cV i f Y=(f Y).bo λ d=>.nx (Y.set i (.sh d)):=aM rfl
@[simp] def nC:wH i f Y=(f Y).bo λ d=>.nx (Y.set i (.nw d)):=aM rfl
@[simp] def aHf:j7 i f Y=(f Y).bo λ d=>.nx (Y.set i (.ow d)):=aM rfl
@[simp] def aGd:gnm i d Y= .ok (Y.set i (.sh d)):=aM rfl
@[simp] def gnil_nil:iZ [] Y= .ok Y:=aM rfl
@[simp] def gcons_cons:bI a b (d::ds) Y=(a d Y).bd (b ds):=aM rfl
@[simp] def gtup_tup:iB n b (.tup ds) Y=if ds.length=n then b ds Y else .st:=aM rfl
def nxO(r:Rs En):Ou:=match r with
 | .ok Y=>.nx Y
 |_=>.st
@[simp] def nxO_ok:nxO (.ok Y)= .nx Y:=aM rfl
@[simp] def asgS_ap:aHE f a Y=(f Y).bo λ d=>nxO (a d Y):=aM rfl
@[simp] def itD_tup:itD (.tup l)= .ok l:=aM rfl
@[simp] def itD_lst:itD (.lst l)= .ok l:=aM rfl
@[simp] def itrD_ap:gW f Y=(f Y).bd itD:=aM rfl
@[simp] def iD:jZ ga a u Y=(ga Y).bo λ ds=>forL a u ds Y:=aM rfl
noncomputable def Ou.tn(o:Ou)(k:En->Ou):Ou:=match o with
 | .nx Y2=>k Y2
 | .ct Y2=>k Y2
 | .bk Y2=>.nx Y2
 |o=>o
@[simp] def aEb:(Ou.nx Y).tn k=k Y:=aM rfl
@[simp] def tn_rt:(Ou.rt d).tn k= .rt d:=aM rfl
def okE(r:Rs En)(k:En->Ou):Ou:=match r with
 | .ok Y=>k Y
 |_=>.st
@[simp] def uy:okE (.ok Y) k=k Y:=aM rfl
def jf:forL a u (d::ds) Y=okE (a d Y) λ Y1=>(u Y1).tn (forL a u ds):=by
 unfold forL;cases a d Y with
 |ok Y1=>simp only[uy];cases u Y1<;>rfl
 |ex c=>rfl
 |st=>rfl
@[simp] def zO:bG f Y=(f Y).bd aCM:=aM rfl
@[simp] def aCh:fW r ga Y=(ga Y).bd r:=aM rfl
@[simp] def raiseS_ap:uh x ga Y=(ga Y).bo λ ds=>if ds.length<=16777216 then .ex x else .st:=by unfold uh;rw[szl]
@[simp] def yesT_ap:jG Y= .ok true:=aM rfl
end
section
variable{d e:D}{i j:Int}{l m:List D}
@[simp] def gImm_int:aCM (.int i)= .ok (.int i):=aM rfl
@[simp] def addD_int:cC (.int i) (.int j)= .ok (.int (i+j)):=aM rfl
@[simp] def aHI:cC (.lst l) (.lst m)=if l.length+m.length<=16777216 then .ok (.lst (l++m))else .st:=by unfold cC;rw[szl]
@[simp] def aBI:cC (.tup l) (.tup m)=if l.length+m.length<=16777216 then .ok (.tup (l++m))else .st:=by unfold cC;rw[szl]
@[simp] def aAA:lU (.int i) (.int j)= .ok (.int (i-j)):=aM rfl
def rM(h0:0<j)(h1:j<1073741824):oF (.int i) (.int j)= .ok (.int (i / j)):=by unfold oF i2;dsimp only;rw[if_pos (by simp[h0,h1])]
def mH(h0:0<j):rA (.int i) (.int j)= .ok (.int (i%j)):=by unfold rA i2;dsimp only;rw[if_pos (by simp[h0])]
def zA(h0: -(2^64)<i)(h1:i<2^64):fO (.int i) (.int j)= .ok (.int (i*j)):=by unfold fO;dsimp only;rw[if_pos (by simp only[zCO,zAC,decide_eq_true_eq];exact .inl ⟨h0,h1⟩)]
def aBt(h0: -(2^64)<j)(h1:j<2^64):fO (.int i) (.int j)= .ok (.int (i*j)):=by unfold fO;dsimp only;rw[if_pos (by simp only[zCO,zAC,decide_eq_true_eq];exact .inr ⟨h0,h1⟩)]
@[simp] def ltD_int:ltD (.int i) (.int j)= .ok (.bl (decide (i<j))):=aM rfl
@[simp] def leD_int:leD (.int i) (.int j)= .ok (.bl (decide (i<=j))):=aM rfl
@[simp] def gtD_int:gtD (.int i) (.int j)= .ok (.bl (decide (j<i))):=aM rfl
@[simp] def geD_int:geD (.int i) (.int j)= .ok (.bl (decide (j<=i))):=aM rfl
def aIc(ns ms:List Int):ltD (.tup (ns.map .int)) (.tup (ms.map .int))= .ok (.bl (HT.lexLt ns ms)):=by
 unfold ltD ltT i2;simp only[dH]
@[simp] def lenD_tup:pG [.tup l]= .ok (.int l.length):=aM rfl
@[simp] def lenD_scr:pG [.scr x]= .ok (.int x.length):=aM rfl
@[simp] def tupleD_lst:lr [.lst l]= .ok (.tup l):=aM rfl
@[simp] def mmD_int:mmD f [.int i,.int j]= .ok (.int (f i j)):=aM rfl
@[simp] def aIp:ixD (.tup l) (.int i)=atD l i:=aM rfl
@[simp] def ixD_lst:ixD (.lst l) (.int i)=atD l i:=aM rfl
@[simp] def ixD_scr:ixD (.scr x) (.int i)=atD (x.map .int) i:=aM rfl
def jQ{k:Nat}(h:l[k]? =some d):atD l (k:Int)= .ok d:=by
 have hk:=(zAJ.mp h).1;unfold atD atI ixN;rw[if_pos (by omega),if_pos (by omega)];simp[h]
def aMV(h0:0<=i)(h1:i<l.length):∃d,atD l i= .ok d/\d∈l/\l[i.toNat]? =some d:=by
 have hk:i.toNat<l.length:=by omega
 have e:=zAH hk;refine⟨_,?_,zEt hk,e⟩
 have:=jQ e
 rwa [zBF h0]at this
@[simp] def atD_0{r:List D}:atD (d::r) 0= .ok d:=jQ (k:=0) rfl
@[simp] def atD_1{r:List D}:atD (d::e::r) 1= .ok e:=jQ (k:=1) rfl
@[simp] def eqR_int:eqR n (.int i) (.int j)= .ok (.bl (if n then !(i==j)else i==j)):=aM rfl
def knd:D->Bool
 | .set _=>false
 | .scr _=>false
 | .fn _=>false
 | .itm _ _=>false
 |_=>true
def zM(hT:T∈["bool","int","str","list","tuple","dict"])(h:knd d=true):mO T d= .ok (.bl (aIr (tyD d) T)):=by
 have ht:tyD d∈["NoneType","bool","int","str","list","tuple","dict"]:=by cases d<;>simp_all [tyD,knd]
 unfold mO mL;cases e:aIr (tyD d) T<;>simp[ht,hT]
def aLm:D->Bool
 | .int _=>true
 | .bl _=>true
 |_=>false
def aNU:D->Bool
 | .bl _=>true
 |_=>false
def rE:D->Bool
 | .tup _=>true
 |_=>false
def aIq(h:knd d=true):mO "int" d= .ok (.bl (aLm d)):=by
 rw[zM (by simp) h];cases d<;>first|rfl|(simp[knd]at h)
def aGY(h:knd d=true):mO "bool" d= .ok (.bl (aNU d)):=by
 rw[zM (by simp) h];cases d<;>first|rfl|(simp[knd]at h)
def nM(h:knd d=true):mO "tuple" d= .ok (.bl (rE d)):=by
 rw[zM (by simp) h];cases d<;>first|rfl|(simp[knd]at h)
@[simp] def isi_tuple_tup:mO "tuple" (.tup l)= .ok (.bl true):=nM rfl
@[simp] def isi_tuple_non:mO "tuple" .non= .ok (.bl false):=nM rfl
end
@[simp] def bO:fG n u ds=match u (ao n ds)with
 | .nx _=>.ok .non
 | .rt d=>.ok d
 | .ex c=>.ex c
 |_=>.st:=aM rfl
def kh(h0: -(2^62)<=j)(h1:j<2^62):lW [.int j]= .ok (dD 0 j):=by unfold lW;dsimp only;rw[if_pos ⟨h0,h1⟩]
def qD(h0: -(2^62)<=i)(h1:i<2^62)(h2: -(2^62)<=j)(h3:j<2^62):ud [.int i,.int j]= .ok (dD i j):=by unfold ud;dsimp only;rw[if_pos ⟨⟨h0,h1⟩,h2,h3⟩]
def aA3{lo hi:Int}:d∈dD lo hi↔∃k:Int,d= .int k/\lo<=k/\k<hi:=by
 unfold dD;rw[zAX];constructor
 .rintro⟨n,hn,rfl⟩
  have:=zAn.mp hn
  exact⟨lo+n,rfl,by omega,by omega⟩
 .rintro⟨k,rfl,h1,h2⟩
  exact⟨(k-lo).toNat,zAn.mpr (by omega),by congr 1;omega⟩
def gY(I:Nat->En->Prop)(hs:∀(i:Nat) d Y,ds[i]? =some d->I i Y->∃Y2,okE (a d Y) (λ Y1=>u Y1)= .nx Y2/\I (i+1) Y2)(h0:I 0 Y):∃Y',forL a u ds Y= .nx Y'/\I ds.length Y':=by
 have go:∀(n:Nat) (Y:En),n<=ds.length->I (ds.length-n) Y->∃Y',forL a u (ds.drop (ds.length-n)) Y= .nx Y'/\I ds.length Y':=by
  intro n;induction n with
  |zero=>intro Y _ h;exact⟨Y,by rw[zGc,zDC];rfl,h⟩
  |succ n ih=>
   intro Y hn h;have hlt:ds.length-(n+1)<ds.length:=by omega
   rw[zBq hlt,jf];obtain⟨Y2,e,h2⟩:=hs _ _ Y (zAH hlt) h;rw[show ds.length-(n+1)+1=ds.length-n by omega]at h2 ⊢;cases ea:a ds[ds.length-(n+1)] Y with
   |ok Y1=>
    rw[ea]at e;simp only[uy]at e ⊢;rw[e,aEb];exact ih Y2 (by omega) h2
   |ex c=>rw[ea]at e;cases e
   |st=>rw[ea]at e;cases e
 have:=go ds.length Y (zAP _) (by rw[zGb];exact h0)
 rwa [zGb,zFk]at this
end VL
namespace VL.My
open PySem L2
def wdN:Str->Option Str:=λ c=>((["NoWeb","NoPlace","NoWay","NoParting","TooMany","NoForest","NoPlan","NoOneWay","NoOrder","NoText","NoDeed","NoRow"]:List Str).zip (["web","place","way","parting","many","forest","plan","one way","order","text","deed","row"]:List Str)).lookup c
def fj:En->Ou:=
  (retS (zb (op1 (mO "int") (aB 0)) (op1 aL0 (op1 (mO "bool") (aB 0)))))
def jD:List D->Rs D:=fG 1 fj
def dN:En->Ou:=
  (aq (jZ (fW ud (aD (cD (.int 1)) (aD (opA pG (aD (aB 0) aK)) aK))) (gnm 1)
   (ifS (tL (tsb (op2 ltD (op2 ixD (aB 0) (op2 lU (aB 1) (cD (.int 1)))) (op2 ixD (aB 0) (aB 1)))))
    (retS (cD (.bl false)))
    Ou.nx))
  (retS (cD (.bl true))))
def fD:List D->Rs D:=fG 2 dN
def gA:En->Ou:=
  (aq (aHE (aB 0) (iB 2 (bI (gnm 1) (bI (gnm 2) iZ))))
  (aq (llS 3 (fW lW (aD (aB 1) aK)) [none] (gnm 0))
  (aq (jZ (gW (aB 2)) (iB 2 (bI (gnm 4) (bI (gnm 5) iZ)))
   (aq (oO 3 (aB 4) (bG (aB 5)))
   (oO 3 (aB 5) (bG (aB 4)))))
  (retS (uJ 3)))))
def jE:List D->Rs D:=fG 6 gA
def eZ:En->Ou:=
  (retS (lcD (fW lW (aD (aJY (aB 0)) aK)) [none,some 0] (gnm 0) (tst (op2 m7 (op2 aAE (aB 1) (aB 0)) (cD (.int 1)))) (bG (aB 0))))
def gf:List D->Rs D:=fG 1 eZ
def fiB:En->Ou:=aq (rP 3 (op2 cC (bG (aB 1)) (bG (aB 4)))) (cV 4 (op2 m7 (op2 lU (aB 4) (cD (.int 1))) (aB 2)))
def ji:En->Ou:=aq (cV 1 (op2 m7 (aB 0) (op1 yx (aB 0)))) (aq (cV 2 (op2 lU (aB 0) (aB 1))) (aq (j7 3 (iY (aD (bG (aB 1)) aK))) (aq (cV 4 (aB 2)) (aq (aBQ (tst (aB 4)) fiB) (retS (uJ 3))))))
def m8:List D->Rs D:=fG 5 ji
def twN:En->Rs D:=op2 cC (iY (aD (cD (.int 0)) aK)) (aB3 (aB 2) aFu (aFt (op1 yx (cD (.int 1)))))
def twL:En->Rs D:=lcD (fW aE4 (aD (aB 0) (aD (aB 3) aK))) [none,none,some 1] (iB 2 (bI (gnm 0) (bI (gnm 1) iZ))) jG (op2 cC (bG (aB 0)) (op2 fO (bG (aB 2)) (bG (aB 1))))
def cY:En->Ou:=aq (wH 3 twN) (retS twL)
def fV:List D->Rs D:=fG 4 cY
def cM:En->Ou:=
  (aq (ifS (tsb (op2 ltD (aB 1) (opA pG (aD (aB 0) aK))))
   (retS (bG (op2 ixD (aB 0) (aB 1))))
   Ou.nx)
  (retS (cD (.int 0))))
def eE:List D->Rs D:=fG 2 cM
def dM:En->Ou:=
  (aq (ifS (tsb (op2 geD (aB 0) (op2 aKr (cD (.int 10)) (cD (.int 18)))))
   (aq (cV 3 (aB 0))
   (aq (jZ (fW lW (aD (aB 1) aK)) (gnm 4)
    (aq (ifS (tsb (op2 (eqR false) (aB 3) (cD (.int 0))))
     (retS (cD (.int 0)))
     Ou.nx)
    (cV 3 (op2 oF (aB 3) (aB 2)))))
   (retS (op2 rA (aB 3) (aB 2)))))
   Ou.nx)
  (aq (cV 5 (op2 rA (op2 fO (op2 cC (op2 cC (op2 rA (aB 0) (cD (.int 1000000007))) (op2 fO (cD (.int 1009)) (aB 1))) (cD (.int 17))) (cD (.int 69621))) (cD (.int 2147483647))))
  (aq (cV 5 (op2 rA (op2 cC (op2 cC (op2 fO (aB 5) (aB 5)) (op2 fO (cD (.int 40503)) (aB 1))) (cD (.int 5))) (cD (.int 2147483629))))
  (retS (op2 rA (op2 oF (op2 rA (op2 fO (aB 5) (cD (.int 48271))) (cD (.int 2147483647))) (cD (.int 32))) (aB 2))))))
def bU:List D->Rs D:=fG 6 dM
def roL:En->Rs D:=opA lr (aD (lcD (gW (aB 6)) [none,some 9,some 8] (gnm 0) jG (ifD (tsb (op2 (eqR false) (aB 0) (aB 1))) (bG (aB 2)) (bG (aB 0)))) aK)
def roU:En->Rs D:=opA lr (aD (lcD (fW lW (aD (op2 ixD (aB 0) (cD (.int 0))) aK)) [none,some 7,some 2,some 3] (gnm 0) jG (op2 cC (bG (op2 ixD (aB 1) (aB 0))) (opA mQ (aD (orD (op2 (eqR false) (aB 0) (aB 2)) (op2 (eqR false) (aB 0) (aB 3))) aK)))) aK)
def roT:En->Rs Bool:=aJ0 (tsb (op2 ltD (op2 ixD (aB 7) (aB 2)) (cD (.int 2)))) (aJ0 (tsb (op2 ltD (op2 ixD (aB 7) (aB 3)) (cD (.int 2)))) (tsb (op2 (eqR true) (op2 ixD (aB 6) (aB 2)) (op2 ixD (aB 6) (aB 3)))))
def roA:En->Ou:=rP 4 (cO (aD (op2 cC (bG (aB 5)) (cO (aD (cO (aD (bG (aB 2)) (aD (bG (aB 3)) aK))) aK))) (aD (bG (aB 10)) (aD (bG (aB 11)) aK))))
def roB:En->Ou:=ifS roT (aq (cV 8 (opA (mmD λ i j=>if j<i then j else i) (aD (op2 ixD (aB 6) (aB 2)) (aD (op2 ixD (aB 6) (aB 3)) aK)))) (aq (cV 9 (opA (mmD λ i j=>if j>i then j else i) (aD (op2 ixD (aB 6) (aB 2)) (aD (op2 ixD (aB 6) (aB 3)) aK)))) (aq (cV 10 roL) (aq (cV 11 roU) roA)))) Ou.nx
abbrev roG:D->En->Rs En:=iB 3 (bI (gnm 5) (bI (gnm 6) (bI (gnm 7) iZ)))
def roO:En->Ou:=aq (j7 4 (iY aK)) (aq (aJG 1 roG roB) (aJM 1 4))
def roR:En->Rs D:=lcD (gW (aB 1)) [none] (gnm 0) jG (bG (op2 ixD (aB 0) (cD (.int 0))))
def fZ:En->Ou:=aq (j7 1 (iY (aD (cO (aD (cO aK) (aD (trD (op2 ixD (aB 0) (cD (.int 0)))) (aD (op2 aBs (cO (aD (cD (.int 0)) aK)) (bG (op2 ixD (aB 0) (cD (.int 0))))) aK)))) aK))) (aq (jZ (gW (op2 ixD (aB 0) (cD (.int 1)))) (iB 2 (bI (gnm 2) (bI (gnm 3) iZ))) roO) (retS roR))
def jC:List D->Rs D:=fG 12 fZ
def iQ:En->Ou:=
  (retS (zb (au jD (aD (aB 0) aK)) (chD leD leD (cD (.int 0)) (aB 0) (cD (.int 60)))))
def jy:List D->Rs D:=fG 1 iQ
def fu:En->Ou:=
  (retS (zb (au jD (aD (aB 1) aK)) (chD leD ltD (cD (.int 0)) (aB 1) (aB 0))))
def eX:List D->Rs D:=fG 2 fu
def bgH:En->Rs D:=lcD (gW (op2 ixD (aB 1) (aB 4))) [none,some 5] (gnm 0) (tst (op2 m7 (op2 aAE (aB 1) (aB 0)) (cD (.int 1)))) (bG (aB 0))
def bgI:En->Ou:=aq (cV 5 (op2 lU (aB 3) (op2 aB4 (cD (.int 1)) (aB 4)))) (aq (wH 6 bgH) (rP 2 (cO (aD (bG (aB 3)) (aD (bG (aB 4)) (aD (bG (aB 5)) (aD (qZ 6) aK)))))))
def bgO:En->Ou:=jZ (gW (au gf (aD (aB 3) aK))) (gnm 4) bgI
def bgR:En->Rs (List D):=fW ud (aD (cD (.int 1)) (aD (op2 aB4 (cD (.int 1)) (op2 ixD (aB 0) (cD (.int 0)))) aK))
def jk:En->Ou:=aq (cV 1 (au jE (aD (aB 0) aK))) (aq (j7 2 (iY aK)) (aq (jZ bgR (gnm 3) bgO) (retS (uJ 2))))
def m9:List D->Rs D:=fG 7 jk
def iK:En->Ou:=
  (aq (cV 2 (au bU (aD (aB 0) (aD (cD (.int 0)) (aD (op2 cC (aB 1) (cD (.int 1))) aK)))))
  (aq (cV 3 (op2 cC (cD (.int 1)) (au bU (aD (aB 0) (aD (cD (.int 1)) (aD (cD (.int 6)) aK))))))
  (aq (j7 4 (iY aK))
  (aq (jZ (fW lW (aD (aB 2) aK)) (gnm 5)
   (jZ (fW ud (aD (op2 cC (aB 5) (cD (.int 1))) (aD (aB 2) aK))) (gnm 6)
    (ifS (tsb (op2 ltD (au bU (aD (aB 0) (aD (op2 cC (op2 cC (cD (.int 3)) (op2 fO (cD (.int 61)) (aB 5))) (aB 6)) (aD (cD (.int 8)) aK)))) (aB 3)))
     (rP 4 (cO (aD (bG (aB 5)) (aD (bG (aB 6)) aK))))
     Ou.nx)))
  (retS (cO (aD (bG (aB 2)) (aD (opA lr (aD (uJ 4) aK)) aK))))))))
def jt:List D->Rs D:=fG 7 iK
def ipE:En->Ou:=ifS (orT (tL (tst (op1 (mO "tuple") (aB 1)))) (tsb (op2 (eqR true) (opA pG (aD (aB 1) aK)) (cD (.int 2))))) (retS (cD (.bl false))) Ou.nx
def iM:En->Ou:=aq ipE (retS (zb (au eX (aD (aB 0) (aD (op2 ixD (aB 1) (cD (.int 0))) aK))) (zb (au eX (aD (aB 0) (aD (op2 ixD (aB 1) (cD (.int 1))) aK))) (op2 (eqR true) (op2 ixD (aB 1) (cD (.int 0))) (op2 ixD (aB 1) (cD (.int 1)))))))
def jw:List D->Rs D:=fG 2 iM
def wcL:En->Rs D:=lcD (gW (aB 6)) [none,some 1,some 5] (gnm 0) jG (bG (op2 aD5 (aB 1) (cO (aD (aB 2) (aD (aB 0) aK)))))
def wcT:En->Rs D:=ifD (tsb (op2 (eqR false) (aB 5) (cD (.int 0)))) (cD (.int 1)) (opA (nu λ ns=>some ns.sum) (aD wcL aK))
def wcP:En->Ou:=pdS 2 (aB 3) (op2 cC (bG (aEK (nT 2) (aB 3) (cD (.int 0)))) (bG (aB 7)))
def wcB:En->Ou:=aq (cV 7 wcT) (aq (ptS 1 (cO (aD (aB 3) (aD (aB 4) aK))) (bG (aB 7))) wcP)
def wcG:D->En->Rs En:=iB 4 (bI (gnm 3) (bI (gnm 4) (bI (gnm 5) (bI (gnm 6) iZ))))
def wcC:En->Rs D:=dcI (aNT (aB 2)) [none,none] (iB 2 (bI (gnm 0) (bI (gnm 1) iZ))) jG (bG (aB 0)) (op2 oF (op2 cC (aB 1) (cD (.int 1))) (cD (.int 2)))
def cQ:En->Ou:=aq (j7 1 (cD (.dct [] []))) (aq (j7 2 (cD (.dct [] []))) (aq (jZ (gW (au m9 (aD (aB 0) aK))) wcG wcB) (zq 2 (retS wcC))))
def dU:List D->Rs D:=fG 8 cQ
def az:En->Ou:=
  (aq (ifS (tL (tst (op1 (mO "tuple") (aB 1))))
   (retS (cD (.bl false)))
   Ou.nx)
  (aq (jZ (gW (aB 1)) (gnm 2)
   (ifS (tL (tst (au jw (aD (aB 0) (aD (aB 2) aK)))))
    (retS (cD (.bl false)))
    Ou.nx))
  (retS (au fD (aD (aB 1) aK)))))
def bA:List D->Rs D:=fG 3 az
def eQ:En->Ou:=
  (retS (zb (au bA (aD (aB 0) (aD (aB 1) aK))) (opA (zf λ bs=>bs.all id) (aD (lcD (gW (aB 1)) [none,none] (iB 2 (bI (gnm 0) (bI (gnm 1) iZ))) jG (op2 ltD (aB 0) (aB 1))) aK))))
def gH:List D->Rs D:=fG 2 eQ
def iw:En->Ou:=
  (aq (ifS (orT (tL (tst (op1 (mO "tuple") (aB 0)))) (tsb (op2 (eqR true) (opA pG (aD (aB 0) aK)) (cD (.int 2)))))
   (retS (cD (.bl false)))
   Ou.nx)
  (retS (zb (au jy (aD (op2 ixD (aB 0) (cD (.int 0))) aK)) (au gH (aD (op2 ixD (aB 0) (cD (.int 0))) (aD (op2 ixD (aB 0) (cD (.int 1))) aK))))))
def ju:List D->Rs D:=fG 1 iw
def dO:En->Ou:=
  (ifS (tL (tst (au ju (aD (aB 0) aK))))
   (uh "NoWeb" (aD (cD (.str "this is no web")) aK))
   Ou.nx)
def dW:List D->Rs D:=fG 1 dO
def ctI:En->Ou:=ifS (tsb (op2 gtD (op2 ixD (aB 0) (cD (.int 0))) (cD (.int 10)))) (uh "TooMany" (aD (cD (.str "only webs of at most ten places are tried")) aK)) Ou.nx
def bz:En->Ou:=aq (aAq (au dW (aD (aB 0) aK))) ctI
def cB:List D->Rs D:=fG 1 bz
def cnI:En->Ou:=wH 5 (au fV (aD (qZ 5) (aD (op2 wN (aB 2) (aB 6)) (aD (op2 ixD (nT 3) (op2 lU (aB 4) (aB 6))) aK))))
def cnO:En->Ou:=aq (wH 5 (op2 fO (iY (aD (cD (.int 0)) aK)) (op2 cC (bG (aB 1)) (cD (.int 1))))) (aq (jZ (gW (au m8 (aD (aB 4) aK))) (gnm 6) cnI) (rP 3 (qZ 5)))
def cnR:En->Rs (List D):=fW ud (aD (cD (.int 1)) (aD (op2 aB4 (cD (.int 1)) (aB 1)) aK))
def cnC:En->Rs D:=dcI (fW aKE (aD (op2 ixD (aB 3) (op1 yx (cD (.int 1)))) aK)) [none,none] (iB 2 (bI (gnm 0) (bI (gnm 1) iZ))) (tsb (op2 gtD (aB 1) (cD (.int 0)))) (bG (aB 0)) (bG (aB 1))
def cnT:En->Rs D:=iY (aD (op2 cC (iY (aD (cD (.int 1)) aK)) (op2 fO (iY (aD (cD (.int 0)) aK)) (bG (aB 1)))) aK)
def fB:En->Ou:=aq (aAq (au cB (aD (aB 0) aK))) (aq (cV 1 (op2 ixD (aB 0) (cD (.int 0)))) (aq (cV 2 (au dU (aD (aB 0) aK))) (aq (j7 3 cnT) (aq (jZ cnR (gnm 4) cnO) (retS cnC)))))
def bY:List D->Rs D:=fG 7 fB
def lwR:En->Rs (List D):=(fW lW (aD (opA (mmD λ i j=>if j>i then j else i) (aD (cD (.int 1)) (aD (opA (mmD λ i j=>if j<i then j else i) (aD (opA pG (aD (aB 0) aK)) (aD (cD (.int 4)) aK))) aK))) aK))
def lQ0:En->Ou:=(cV 2 (au eE (aD (aB 0) (aD (aB 1) aK))))
def lQ1:En->Ou:=(cV 3 (au jt (aD (aB 2) (aD (cD (.int 6)) aK))))
def lQ2:En->Ou:=(wH 4 (lcD (gW (au jC (aD (aB 3) aK))) [none,some 3] (gnm 0) jG (op2 lU (op2 ixD (aB 1) (cD (.int 0))) (opA pG (aD (aB 0) aK)))))
def lQ3:En->Ou:=(wH 5 (lcD (fW ud (aD (opA (nj zFM) (aD (aB 4) aK)) (aD (op2 cC (op2 ixD (aB 3) (cD (.int 0))) (cD (.int 1))) aK))) [none,some 4] (gnm 0) jG (cO (aD (bG (aB 0)) (aD (opL aAz (aB 1) (aB 0)) aK)))))
def lQ4:En->Ou:=(jZ (fW lW (aD (cD (.int 2)) aK)) (gnm 6) (aq (j7 7 (au bY (aD (aB 3) aK))) (aq (ifS (orT (tL (tst (op1 (mO "dict") (nT 7)))) (tsb (op2 (eqR true) (op1 aDw (nT 7)) (qZ 5)))) (retS (cD (.bl false))) Ou.nx) (aEN 7))))
def lQ5:En->Ou:=(ifS (tsb (op2 (eqR true) (aDg wdN "told" (au bY (aD (cO (aD (op2 cC (cD (.int 11)) (au bU (aD (aB 2) (aD (cD (.int 9000)) (aD (cD (.int 50)) aK))))) (aD (cO aK) aK))) aK))) (cD (.str "many")))) (retS (cD (.bl false))) Ou.nx)
def lQ6:En->Ou:=(ifS (tsb (op2 (eqR true) (aDg wdN "told" (au bY (aD (cO (aD (op2 ixD (aB 3) (cD (.int 0))) (aD (cD .non) aK))) aK))) (cD (.str "web")))) (retS (cD (.bl false))) Ou.nx)
def lwK:En->Ou:=aq lQ0 (aq lQ1 (aq lQ2 (aq lQ3 (aq lQ4 (aq lQ5 lQ6)))))
def lwT:En->Rs D:=(cO (aD (cO (aD (cD (.int 0)) (aD (cD (.int 1)) aK))) (aD (cO (aD (cD (.int 0)) (aD (cD (.int 2)) aK))) (aD (cO (aD (cD (.int 0)) (aD (cD (.int 3)) aK))) (aD (cO (aD (cD (.int 1)) (aD (cD (.int 2)) aK))) (aD (cO (aD (cD (.int 1)) (aD (cD (.int 3)) aK))) (aD (cO (aD (cD (.int 2)) (aD (cD (.int 3)) aK))) aK)))))))
def lwZ:En->Rs D:=(op2 aAx (au bY (aD (cO (aD (cD (.int 4)) (aD (aB 8) aK))) aK)) (cD (dF [(1,12),(2,15),(3,6),(4,1)])))
def vg:En->Ou:=aq (jZ lwR (gnm 1) lwK) (aq (cV 8 lwT) (retS lwZ))
def aHM:List D->Rs D:=fG 9 vg
theorem xu(hb:0<b)(hb2:b<1073741824):∀(ds:List D) (x:Int) (s:Slot),(∀d∈ds,∃n:Int,d= .int n)->
  (∃y s',forL (gnm 4) (aq (ifS (tsb (op2 (eqR false) (aB 3) (cD (.int 0)))) (retS (cD (.int 0))) Ou.nx) (cV 3 (op2 oF (aB 3) (aB 2)))) ds [.sh (.int c),.sh (.int k),.sh (.int b),.sh (.int x),s,.no]= .nx [.sh (.int c),.sh (.int k),.sh (.int b),.sh (.int y),s',.no])\/
  forL (gnm 4) (aq (ifS (tsb (op2 (eqR false) (aB 3) (cD (.int 0)))) (retS (cD (.int 0))) Ou.nx) (cV 3 (op2 oF (aB 3) (aB 2)))) ds [.sh (.int c),.sh (.int k),.sh (.int b),.sh (.int x),s,.no]= .rt (.int 0)
 |[],x,s,_=>.inl ⟨x,s,rfl⟩
 |d::ds,x,s,h=>by
  have ih:=xu hb hb2 (c:=c) (k:=k) ds (x / b) (.sh d) λ e he=>h e (zAL _ he)
  rw[jf];by_cases hx:x=0
  .subst hx
   right;simp
  .simp[hx,rM hb hb2]
   exact ih
def aDM(hk0:0<=k)(hk1:k<2^40)(hb:0<b)(hb2:b<1073741824):∃r:Int,bU [.int c,.int k,.int b]= .ok (.int r)/\0<=r/\r<b:=by
 have hp:aKr (.int 10) (.int 18)= .ok (.int 1000000000000000000):=rfl;by_cases hc:(1000000000000000000:Int)<=c
 .have hr:=kh (j:=k) (by lia) (by lia)
  have hl:=xu hb hb2 (c:=c) (k:=k) (dD 0 k) c .no λ d hd=>let⟨n,e,_⟩:=aA3.mp hd;⟨n,e⟩
  rcases hl with ⟨y,s',e⟩|e
  .refine⟨y%b,?_,zEI _ (by lia),zD4 _ hb⟩
   simp[bU,dM,ao,hp,hc,hr,e,mH hb]
  .refine⟨0,?_,by lia,hb⟩
   simp[bU,dM,ao,hp,hc,hr,e]
 .have s1:∀z:Int,0<=z%2147483647/\z%2147483647<2147483647:=λ z=>⟨zEI _ (by decide),zD4 _ (by decide)⟩
  have s2:∀z:Int,0<=z%2147483629/\z%2147483629<2147483629:=λ z=>⟨zEI _ (by decide),zD4 _ (by decide)⟩
  have m1:∀z,fO (.int 1009) (.int z)= .ok (.int (1009*z)):=λ z=>zA (by decide) (by decide)
  have m2:∀z,fO (.int z) (.int 69621)= .ok (.int (z*69621)):=λ z=>aBt (by decide) (by decide)
  have m3:∀z,fO (.int 40503) (.int z)= .ok (.int (40503*z)):=λ z=>zA (by decide) (by decide)
  have m4:∀z,fO (.int z) (.int 48271)= .ok (.int (z*48271)):=λ z=>aBt (by decide) (by decide)
  have m5:∀z:Int,fO (.int (z%2147483647)) (.int (z%2147483647))= .ok (.int (z%2147483647*(z%2147483647))):=λ z=>zA (by have:=s1 z;lia) (by have:=s1 z;lia)
  have d1:∀z,rA (.int z) (.int 1000000007)= .ok (.int (z%1000000007)):=λ z=>mH (by decide)
  have d2:∀z,rA (.int z) (.int 2147483647)= .ok (.int (z%2147483647)):=λ z=>mH (by decide)
  have d3:∀z,rA (.int z) (.int 2147483629)= .ok (.int (z%2147483629)):=λ z=>mH (by decide)
  have d4:∀z,oF (.int z) (.int 32)= .ok (.int (z / 32)):=λ z=>rM (by decide) (by decide)
  have d5:∀z,rA (.int z) (.int b)= .ok (.int (z%b)):=λ z=>mH hb
  simp[bU,dM,ao,hp,hc,m1,m2,m3,m4,m5,d1,d2,d3,d4,d5,-Int.emod_emod_of_dvd];exact⟨zEI _ (by lia),zD4 _ hb⟩
def zQ(hk0:0<=k)(hk1:k<2^40)(hb:0<b)(hb2:b<1073741824):∃r:Nat,bU [.int c,.int k,.int b]= .ok (.int r)/\(r:Int)<b:=by
 obtain⟨r,e,h0,h1⟩:=aDM (c:=c) hk0 hk1 hb hb2;exact⟨r.toNat,by rw[zBF h0];exact e,by lia⟩
def aJU(h:0<=k):∃c:Int,eE [.scr ns,.int k]= .ok (.int c):=by
 by_cases hk:k<ns.length
 .obtain⟨d,e,hm,_⟩:=aMV (l:=ns.map .int) (i:=k) h (by simpa using hk)
  obtain⟨c,_,rfl⟩:=zAX.mp hm;exact⟨c,by simp[eE,cM,ao,hk,e]⟩
 .exact⟨0,by simp[eE,cM,ao,hk]⟩
mutual
def pln:D->Bool
 | .tup l=>qw l
 | .lst l=>qw l
 | .set _=>false
 | .scr _=>false
 | .fn _=>false
 | .itm _ _=>false
 |_=>true
def qw:List D->Bool
 |[]=>true
 |d::r=>pln d&&qw r
end
def uD(h:pln d=true):knd d=true:=by cases d<;>first|rfl|(simp[pln]at h)
theorem aAU:∀{l:List D} {d:D},qw l=true->d∈l->pln d=true
 |x::r,d,h,hm=>by
  simp only[qw,zAC]at h;rcases zAN.mp hm with rfl|hm
  .exact h.1
  .exact aAU h.2 hm
theorem aCn:∀{l:List D},(∀d∈l,pln d=true)->qw l=true
 |[],_=>rfl
 |x::r,h=>by
  simp only[qw,zAC];exact⟨h x (zAG ..),aCn λ d hd=>h d (zAL _ hd)⟩
def aBP:D->Bool
 | .int _=>true
 |_=>false
def aA4:D->Bool
 | .int i=>decide (0<=i)&&decide (i<=60)
 |_=>false
def fX(m:Int):D->Bool
 | .int i=>decide (0<=i)&&decide (i<m)
 |_=>false
def sE(h:knd d=true):jD [d]= .ok (.bl (aBP d)):=by
 simp[jD,fj,ao,aIq h,aGY h];cases d<;>rfl
def vJ(h:knd d=true):jy [d]= .ok (.bl (aA4 d)):=by
 simp[jy,iQ,ao,sE h];cases d<;>simp[aBP,aA4]
 rename_i i;by_cases h0:0<=i<;>simp[h0]
def sG(h:knd d=true):eX [.int m,d]= .ok (.bl (fX m d)):=by
 simp[eX,fu,ao,sE h];cases d<;>simp[aBP,fX]
 rename_i i;by_cases h0:0<=i<;>simp[h0]
def iV(m:Int):D->Bool
 | .tup [.int a,.int b]=>decide (0<=a)&&decide (a<m)&&decide (0<=b)&&decide (b<m)&& !(a==b)
 |_=>false
def xG(h:fX m d=true):∃i:Int,d= .int i/\0<=i/\i<m:=by
 cases d with
 |int i=>simp[fX]at h;exact⟨i,rfl,h.1,h.2⟩
 |_=>simp[fX]at h
def aEa(h:rE d=true):∃l,d= .tup l:=by cases d<;>first|exact⟨_,rfl⟩|(cases h)
def aKT(h:l.length=2):∃x y,l=[x,y]:=by
 match l,h with
 |[x,y],_=>exact⟨x,y,rfl⟩
def aFq(h:rE d=false):iV m d=false:=by cases d<;>first|rfl|(cases h)
def aDk(h:l.length≠2):iV m (.tup l)=false:=by
 match l,h with
 |[],_=>rfl
 |[x],_=>cases x<;>rfl
 |[x,y],h=>exact absurd rfl h
 |x::y::z::r,_=>cases x<;>first|rfl|(cases y<;>rfl)
def aIV(h:fX m x=false):iV m (.tup [x,y])=false:=by
 cases x with
 |int i=>
  cases y with
  |int j=>
   show((((decide (0<=i)&&decide (i<m))&&decide (0<=j))&&decide (j<m))&& !(i==j))=false
   rw[show(decide (0<=i)&&decide (i<m))=false from h];rfl
  |_=>rfl
 |_=>rfl
def aIU(h:fX m y=false):iV m (.tup [.int i,y])=false:=by
 cases y with
 |int j=>
  show((((decide (0<=i)&&decide (i<m))&&decide (0<=j))&&decide (j<m))&& !(i==j))=false
  rw[zES (decide (0<=i)&&decide (i<m)),show(decide (0<=j)&&decide (j<m))=false from h,zD3];rfl
 |_=>rfl
def aFp(h1:fX m (.int i)=true)(h2:fX m (.int j)=true):iV m (.tup [.int i,.int j])= !(i==j):=by
 show((((decide (0<=i)&&decide (i<m))&&decide (0<=j))&&decide (j<m))&& !(i==j))= !(i==j)
 rw[zES (decide (0<=i)&&decide (i<m)),show(decide (0<=j)&&decide (j<m))=true from h2,show(decide (0<=i)&&decide (i<m))=true from h1];rfl
def aLn(hk:knd d=true)(h:rE d=false):ipE [s,.sh d]= .rt (.bl false):=by simp[ipE,nM hk,h]
def aIt(h:l.length≠2):ipE [s,.sh (.tup l)]= .rt (.bl false):=by
 have:¬((l.length:Int)=2):=by omega
 simp[ipE,this]
def aIs:ipE [s,.sh (.tup [x,y])]= .nx [s,.sh (.tup [x,y])]:=by simp[ipE]
def aCH(h:pln d=true):jw [.int m,d]= .ok (.bl (iV m d)):=by
 have st:ao 2 [.int m,d]=[.sh (.int m),.sh d]:=rfl;simp only[jw,iM,bO,st];cases ht:rE d with
 |false=>rw[aQ,aLn (uD h) ht,aFq ht];rfl
 |true=>
  obtain⟨l,rfl⟩:=aEa ht;by_cases hl:l.length=2
  .obtain⟨x,y,rfl⟩:=aKT hl
   simp only[pln,qw,zAC]at h;have hx:=sG (m:=m) (uD h.1);have hy:=sG (m:=m) (uD h.2.1);have ex:au eX (aD (aB 0) (aD (op2 ixD (aB 1) (cD (.int 0))) aK)) [.sh (.int m),.sh (.tup [x,y])]= .ok (.bl (fX m x)):=by simp[hx]
   have ey:au eX (aD (aB 0) (aD (op2 ixD (aB 1) (cD (.int 1))) aK)) [.sh (.int m),.sh (.tup [x,y])]= .ok (.bl (fX m y)):=by simp[hy]
   rw[aQ,aIs,bK,kj,za,ex,aj,aDY,za,ey,aj,aDY];cases c1:fX m x with
   |false=>rw[aIV c1];rfl
   |true=>
    obtain⟨i,rfl,_,_⟩:=xG c1;cases c2:fX m y with
    |false=>rw[aIU c2];rfl
    |true=>
     obtain⟨j,rfl,_,_⟩:=xG c2;rw[aFp c1 c2];rfl
  .rw[aQ,aIt hl,aDk hl];rfl
def pD(p:Int×Int):D:=.tup [.int p.1,.int p.2]
def ltP(p q:Int×Int):Bool:=HT.lexLt [p.1,p.2] [q.1,q.2]
def ug:gX->Bool
 |[]=>true
 |[_]=>true
 |p::q::r=>ltP p q&&ug (q::r)
def aL8(p q:Int×Int):ltD (pD p) (pD q)= .ok (.bl (ltP p q)):=aIc [p.1,p.2] [q.1,q.2]
theorem rG:∀(ds:List D) (ok:Nat->Bool) (I:En->Prop) (Y:En),I Y->(∀(i:Nat) d Y,ds[i]? =some d->I Y->okE (a d Y) u= .rt r/\ok i=false\/∃Y',okE (a d Y) u= .nx Y'/\I Y'/\ok i=true)->
  (forL a u ds Y= .rt r/\∃i,i<ds.length/\ok i=false)\/(∃Y',forL a u ds Y= .nx Y'/\I Y'/\∀i,i<ds.length->ok i=true)
 |[],ok,I,Y,h,_=>.inr ⟨Y,rfl,h,λ i hi=>absurd hi (zHh _)⟩
 |d::ds,ok,I,Y,h,hs=>by
  rw[jf];rcases hs 0 d Y rfl h with ⟨e,o⟩|⟨Y',e,h',o⟩
  .left
   refine⟨?_,0,by simp,o⟩;cases ea:a d Y with
   |ok Y1=>rw[ea]at e;simp at e ⊢;rw[e];rfl
   |ex c=>rw[ea]at e;cases e
   |st=>rw[ea]at e;cases e
  .have ih:=rG ds (λ i=>ok (i+1)) I Y' h' λ i d2 Y2 e2 h2=>hs (i+1) d2 Y2 (by simpa using e2) h2
   have e3:okE (a d Y) (λ Y1=>(u Y1).tn (forL a u ds))=forL a u ds Y':=by
    cases ea:a d Y with
    |ok Y1=>rw[ea]at e;simp at e ⊢;rw[e];rfl
    |ex c=>rw[ea]at e;cases e
    |st=>rw[ea]at e;cases e
   rw[e3];rcases ih with ⟨e4,i,hi,o4⟩|⟨Y4,e4,h4,o4⟩
   .exact .inl ⟨e4,i+1,by simpa using hi,o4⟩
   .refine .inr ⟨Y4,e4,h4,λ i hi=>?_⟩
    cases i with
    |zero=>exact o
    |succ i=>exact o4 i (by simpa using hi)
def mF{i:Nat}(h:(dD lo hi)[i]? =some d):d= .int (lo+i)/\lo+i<hi:=by
 unfold dD at h;rw[zAZ]at h;by_cases hi2:i<(hi-lo).toNat
 .rw[zDR hi2]at h
  cases h;exact⟨rfl,by omega⟩
 .rw[zCx (by simpa using hi2)]at h
  cases h
def jb:(dD lo hi).length=(hi-lo).toNat:=by unfold dD;simp
section
variable{α:Type}{f:α->D}{lt:α->α->Bool}
def ue(lt:α->α->Bool):List α->Bool
 |[]=>true
 |[_]=>true
 |p::q::r=>lt p q&&ue lt (q::r)
theorem qF:∀{ps:List α},ue lt ps=true↔∀(i:Nat) (p q:α),ps[i]? =some p->ps[i+1]? =some q->lt p q=true
 |[]=>by simp[ue]
 |[x]=>by
  simp only[ue,true_iff];intro i p q _ h2;simp at h2
 |x::y::r=>by
  have ih:=qF (ps:=y::r);unfold ue;rw[zAC,ih];constructor
  .rintro⟨h1,h2⟩ i p q e1 e2
   cases i with
   |zero=>simp at e1 e2;subst e1 e2;exact h1
   |succ i=>exact h2 i p q (by simpa using e1) (by simpa using e2)
  .intro h
   exact⟨h 0 x y rfl rfl,λ i p q e1 e2=>h (i+1) p q (by simpa using e1) (by simpa using e2)⟩
def aAd(hlt:∀a b,ltD (f a) (f b)= .ok (.bl (lt a b)))(hl:ps.length<=100000):fD [.tup (ps.map f)]= .ok (.bl (ue lt ps)):=by
 have hr:=qD (i:=1) (j:=(ps.length:Int)) (by decide) (by decide) (by omega) (by omega);have hW:(dD 1 (ps.length:Int)).length=ps.length-1:=by rw[jb];omega
 have L:=rG (a:=gnm 1) (u:=ifS (tL (tsb (op2 ltD (op2 ixD (aB 0) (op2 lU (aB 1) (cD (.int 1)))) (op2 ixD (aB 0) (aB 1))))) (retS (cD (.bl false))) Ou.nx) (r:=.bl false)
  (dD 1 (ps.length:Int)) (λ i=>match ps[i]?,ps[i+1]? with|some p,some q=>lt p q|_,_=>true) (λ Y=>∃s,Y=[.sh (.tup (ps.map f)),s]) [.sh (.tup (ps.map f)),.no] ⟨_,rfl⟩ (by
   rintro i d Y hd ⟨s,rfl⟩;obtain⟨rfl,h2⟩:=mF hd;have e1:ps[i]? =some ps[i]:=zAH (by omega);have e2:ps[i+1]? =some ps[i+1]:=zAH (by omega);have a1:atD (ps.map f) (1+(i:Int)-1)= .ok (f ps[i]):=by
    rw[show(1+(i:Int)-1)=(i:Int)by omega];exact jQ (by rw[zAZ,e1];rfl)
   have a2:atD (ps.map f) (1+(i:Int))= .ok (f ps[i+1]):=by
    rw[show(1+(i:Int))=((i+1:Nat):Int)by omega];exact jQ (by rw[zAZ,e2];rfl)
   simp only[e1,e2];cases c:lt ps[i] ps[i+1]with
   |true=>right;exact⟨_,by simp[a1,a2,hlt,c];rfl,⟨_,rfl⟩,rfl⟩
   |false=>left;exact⟨by simp[a1,a2,hlt,c],rfl⟩)
 have st:ao 2 [.tup (ps.map f)]=[.sh (.tup (ps.map f)),.no]:=rfl;rcases L with ⟨e,i,hi,o⟩|⟨Y',e,⟨s,rfl⟩,o⟩
 .have:ue lt ps=false:=by
   cases c:ue lt ps with
   |false=>rfl
   |true=>
    rw[hW]at hi;have z:=qF.mp c i ps[i] ps[i+1] (zAH (by omega)) (zAH (by omega));rw[zAH (by omega),zAH (by omega)]at o;simp only at o;rw[z]at o;cases o
  rw[this];simp only[fD,dN,bO,st];simp[hr,e]
 .have:ue lt ps=true:=qF.mpr λ i p q e1 e2=>by
   have h2:=(zAJ.mp e2).1
   have:=o i (by rw[hW];omega)
   rw[e1,e2]at this;exact this
  rw[this];simp only[fD,dN,bO,st];simp[hr,e]
end
theorem aBe:∀ps:gX,ug ps=ue ltP ps
 |[]=>rfl
 |[_]=>rfl
 |p::q::r=>by unfold ug ue;rw[aBe (q::r)]
def zN(hl:ps.length<=100000):fD [.tup (ps.map pD)]= .ok (.bl (ug ps)):=by
 rw[aBe];exact aAd aL8 hl
def yf:ug ps=true↔∀(i:Nat) (p q:Int×Int),ps[i]? =some p->ps[i+1]? =some q->ltP p q=true:=by rw[aBe];exact qF
def aIG:D->Int×Int
 | .tup [.int a,.int b]=>(a,b)
 |_=>(0,0)
def aBo(h:iV m d=true):∃a b:Int,d= .tup [.int a,.int b]/\0<=a/\a<m/\0<=b/\b<m/\a≠b:=by
 unfold iV at h;split at h
 .rename_i a b
  simp at h;exact⟨a,b,rfl,h.1.1.1.1,h.1.1.1.2,h.1.1.2,h.1.2,h.2⟩
 .cases h
theorem aJv:∀{ts:List D},ts.all (iV m)=true->(ts.map aIG).map pD=ts
 |[],_=>rfl
 |t::ts,h=>by
  rw[zGH,zAC]at h;obtain⟨a,b,rfl,_⟩:=aBo h.1;simp only[zAE];rw[aJv h.2];rfl
def rpB(m:Int):D->Bool
 | .tup ts=>ts.all (iV m)&&ug (ts.map aIG)
 |_=>false
def aK4:D->Bool
 | .tup l=>decide (l.length<=100000)
 |_=>true
def nZ(h:pln d=true)(hs:aK4 d=true):bA [.int m,d]= .ok (.bl (rpB m d)):=by
 cases d with
 |tup ts=>
  have hp:qw ts=true:=by simpa[pln]using h
  have hl:ts.length<=100000:=by simpa[aK4]using hs
  have L:=rG (a:=gnm 2) (u:=ifS (tL (tst (au jw (aD (aB 0) (aD (aB 2) aK))))) (retS (cD (.bl false))) Ou.nx) (r:=.bl false)
   ts (λ i=>match ts[i]? with|some t=>iV m t|none=>true) (λ Y=>∃s,Y=[.sh (.int m),.sh (.tup ts),s]) [.sh (.int m),.sh (.tup ts),.no] ⟨_,rfl⟩ (by
    rintro i d Y hd ⟨s,rfl⟩;have e:=aCH (m:=m) (aAU hp (zAg hd));simp only[hd];cases c:iV m d with
    |true=>right;exact⟨_,by simp[e,c];rfl,⟨_,rfl⟩,rfl⟩
    |false=>left;exact⟨by simp[e,c],rfl⟩)
  have st:ao 3 [.int m,.tup ts]=[.sh (.int m),.sh (.tup ts),.no]:=rfl;rcases L with ⟨e,i,hi,o⟩|⟨Y',e,⟨s,rfl⟩,o⟩
  .have:ts.all (iV m)=false:=by
    rw[List.all_eq_false];rw[zAH hi]at o;exact⟨ts[i],zEt hi,by simpa using o⟩
   simp only[bA,az,bO,st];simp[e,rpB,this]
  .have:ts.all (iV m)=true:=by
    rw[zAm];intro t ht;obtain⟨i,hi,rfl⟩:=zGj ht
    have:=o i hi
    rw[zAH hi]at this;exact this
   have er:=zN (ps:=ts.map aIG) (by rw[zAD];exact hl);rw[aJv this]at er;simp only[bA,az,bO,st];simp[e,rpB,this,er]
 |_=>simp[bA,az,ao,nM (uD h),rE,rpB]
structure Ow(n:Int)(ps:gX):Prop where
 n0:0<=n
 n1:n<=60
 len:ps.length<=3600
 pr:∀p∈ps,0<=p.1/\p.1<n/\0<=p.2/\p.2<n/\p.1≠p.2
 ris:ug ps=true
def owD(n:Int)(ps:gX):D:=.tup [.int n,.tup (ps.map pD)]
def Ow.rp(h:Ow n ps):rpB n (.tup (ps.map pD))=true:=by
 have e:(ps.map pD).map aIG=ps:=by rw[zAU];exact(zCC λ p _=>rfl).trans (List.map_id ps)
 unfold rpB;dsimp only;rw[e,h.ris,zDi,zAm];intro d hd;obtain⟨p,hp,rfl⟩:=zAX.mp hd;obtain⟨a,b,c,d,e⟩:=h.pr p hp;simp[pD,iV,a,b,c,d,e]
theorem aCm:∀ps:gX,qw (ps.map pD)=true
 |[]=>rfl
 |p::ps=>by simp only[zAE,qw,aCm ps,zDi];rfl
def z6(f:α->Bool)(l:List α):boolsOf (l.map λ x=>D.bl (f x))=some (l.map f):=by
 have:=sr (l.map f)
 rwa [zAU]at this
def aHG(f:α->Bool)(l:List α):zf (λ bs=>bs.all id) [.lst (l.map λ x=>D.bl (f x))]= .ok (.bl (l.all f)):=by
 unfold zf;dsimp only;rw[z6];dsimp only;rw[zGZ];rfl
theorem qI:∀(l:List α),(∀x∈l,∃Y1,fg (f x) Y= .ok Y1/\ft Y1= .ok (t x)/\fe Y1= .ok (g x))->lcL Y fg ft fe (l.map f)= .ok ((l.filter t).map g)
 |[],_=>rfl
 |x::l,h=>by
  obtain⟨Y1,e1,e2,e3⟩:=h x zAG;have ih:=qI l λ y hy=>h y (zAL _ hy)
  rw[zAE];unfold lcL;rw[e1,aj,e2,aj,e3,aj,ih,aj,zAx];cases t x<;>rfl
theorem aKA{Y:En}:∀(ps:gX),lcL [.no,.no] (iB 2 (bI (gnm 0) (bI (gnm 1) iZ))) jG (op2 ltD (aB 0) (aB 1)) (ps.map pD)= .ok (ps.map λ p=>.bl (decide (p.1<p.2)))
 |[]=>rfl
 |p::ps=>by
  unfold lcL;simp[pD,aKA (Y:=Y) ps]
def aBH{n:Int}(h:Ow n ps)(low:∀p∈ps,p.1<p.2):gH [.int n,.tup (ps.map pD)]= .ok (.bl true):=by
 have hl:=h.len;have e:=nZ (m:=n) (d:=.tup (ps.map pD)) (by simpa[pln]using aCm ps) (by simp[aK4];lia);rw[h.rp]at e;have el:=aKA (Y:=[]) ps;have ei:lcD (gW (aB 1)) [none,none] (iB 2 (bI (gnm 0) (bI (gnm 1) iZ))) jG (op2 ltD (aB 0) (aB 1)) [.sh (.int n),.sh (.tup (ps.map pD))]= .ok (.lst (ps.map λ p=>.bl (decide (p.1<p.2)))):=by
  have hi:gW (aB 1) (shE [.sh (.int n),.sh (.tup (ps.map pD))])= .ok (ps.map pD):=by simp[shE,q9]
  unfold lcD;rw[hi,aj,if_pos (by rw[szl,zAD];lia)]
  show(match lcL [.no,.no] _ jG _ (ps.map pD)with| .ok l=>Rs.ok (D.lst l)|_=>Rs.st)=_
  rw[el]
 have ha:opA (zf λ bs=>bs.all id) (aD (lcD (gW (aB 1)) [none,none] (iB 2 (bI (gnm 0) (bI (gnm 1) iZ))) jG (op2 ltD (aB 0) (aB 1))) aK) [.sh (.int n),.sh (.tup (ps.map pD))]= .ok (.bl true):=by
  rw[yq,cJ,ei,aj,lE,aj,aj,aHG,dq];rw[zAm.mpr λ p hp=>decide_eq_true (low p hp)]
 have st:ao 2 [.int n,.tup (ps.map pD)]=[.sh (.int n),.sh (.tup (ps.map pD))]:=rfl;have ec:au bA (aD (aB 0) (aD (aB 1) aK)) [.sh (.int n),.sh (.tup (ps.map pD))]= .ok (.bl true):=by rw[vy];exact e
 simp only[gH,eQ,bO,st];rw[kj,za,ec,ha];rfl
def aEE(h:Ow n ps)(low:∀p∈ps,p.1<p.2):ju [owD n ps]= .ok (.bl true):=by
 have e1:=vJ (d:=.int n) rfl;have e2:=aBH h low;have e3:aA4 (.int n)=true:=by simp[aA4,h.n0,h.n1]
 rw[e3]at e1;simp[ju,iw,owD,ao,e1,e2]
def mx(a b:Int):Int:=if b>a then b else a
def lH(h1:fi (shE Y)= .ok ds)(h2:ds.length<16777216)(h3:lcL (stE js (shE Y)) fg ft fe ds= .ok out):lcD fi js fg ft fe Y= .ok (.lst out):=by
 unfold lcD;rw[h1,aj,if_pos (by rw[szl];exact h2),h3]
def mK(l:List α)(h:∀x∈l,∃Y1,fg (f x) Y= .ok Y1/\fe Y1= .ok (g x)):lcL Y fg jG fe (l.map f)= .ok (l.map g):=by
 have:=qI (Y:=Y) (fg:=fg) (ft:=jG) (fe:=fe) (f:=f) (g:=g) (t:=λ _=>true) l λ x hx=>by
  obtain⟨Y1,h1,h2⟩:=h x hx;exact⟨Y1,h1,rfl,h2⟩
 rwa [zB0.mpr λ _ _=>rfl]at this
def cH(ll:dQ)(p:Int×Int):dQ:=ll.set p.1.toNat (ll.getD p.1.toNat []++[.int p.2])
theorem rJ:∀(ps:gX) (ll:dQ),(ps.foldl cH ll).length=ll.length
 |[],_=>rfl
 |p::ps,ll=>by rw[zBu,rJ ps];unfold cH;rw[zBR]
def eY(ps:gX)(i:Int):List Int:=(ps.filter λ p=>p.1==i).map (·.2)
theorem xW:∀(ps:gX) (ll:dQ) (i:Nat),(∀p∈ps,0<=p.1/\p.1<ll.length)->i<ll.length->(ps.foldl cH ll).getD i []=ll.getD i []++(eY ps i).map .int
 |[],ll,i,_,_=>by simp[eY]
 |p::ps,ll,i,h,hi=>by
  obtain⟨h0,h1⟩:=h p zAG;rw[zBu,xW ps (cH ll p) i (λ q hq=>by unfold cH;rw[zBR];exact h q (zAL _ hq)) (by unfold cH;rw[zBR];exact hi)];unfold cH eY;by_cases c:p.1=i
  .have hk:p.1.toNat=i:=by lia
   rw[hk,List.filter_cons_of_pos (by simpa using c)];simp[hi]
  .have hk:p.1.toNat≠i:=by lia
   rw[List.filter_cons_of_neg (by simpa using c)];simp[zBD hk]
def gw:b∈eY ps a↔(a,b)∈ps:=by
 unfold eY;simp only[zAX,zAV];constructor
 .rintro⟨p,⟨h1,h2⟩,rfl⟩
  have:p.1=a:=by simpa using h2
  rw[<-this];exact h1
 .intro h
  exact⟨(a,b),⟨h,by simp⟩,rfl⟩
def dbl(ps:gX):gX:=ps.flatMap λ p=>[p,(p.2,p.1)]
def bx:(a,b)∈dbl ps↔(a,b)∈ps\/(b,a)∈ps:=by
 unfold dbl;simp only[zCI,zAN,zBl,or_false];constructor
 .rintro⟨p,hp,h|h⟩
  .rw[h];exact .inl hp
  .cases h;exact .inr hp
 .rintro(h|h)
  .exact⟨_,h,.inl rfl⟩
  .exact⟨_,h,.inr rfl⟩
def vf(p:Int×Int)(ps:gX):dbl (p::ps)=p::(p.2,p.1)::dbl ps:=rfl
def aDV(hi:Y[i]? =some (.o2 ll))(hf:f Y= .ok (.int a))(hg:g Y= .ok (.int b))(h0:0<=a)(h1:a<ll.length)(hz:(ll.getD a.toNat []).length<16777216):
  oO i f g Y= .nx (Y.set i (.o2 (cH ll (a,b)))):=by
 have hk:a.toNat<ll.length:=by lia
 have ha:at2 ll (.int a)=some (a.toNat,ll.getD a.toNat []):=by
  have hx:ixN ll.length a=some a.toNat:=by
   unfold ixN;rw[if_pos (by lia),if_pos (by lia)]
  simp only[at2,hx,zGz];rw[zAH hk];simp[hk]
 unfold oO;rw[hi];dsimp only;rw[hf,cA,ha];dsimp only;rw[hg,cA,if_pos (by rw[zCN];exact hz)];rfl
def uP(ll:dQ)(p:Int×Int):(cH ll p).length=ll.length:=by unfold cH;rw[zBR]
def aC5(h:∀l∈ll,l.length<=m):∀l∈cH ll p,l.length<=m+1:=by
 intro l hl;unfold cH at hl;rcases List.mem_or_eq_of_mem_set hl with z|z
 .exact Nat.le_succ_of_le (h l z)
 .subst z
  rw[zAT,zAt]
  have:(ll.getD p.1.toNat []).length<=m:=by
   by_cases hk:p.1.toNat<ll.length
   .exact h _ (by simp[hk])
   .simp[zCx (zFC hk)]
  lia
def aDF{ll:dQ}(h:∀l∈ll,l.length<=m)(k:Nat):(ll.getD k []).length<=m:=by
 by_cases hk:k<ll.length
 .exact h _ (by simp[hk])
 .simp[zCx (zFC hk)]
def atB:En->Ou:=aq (oO 3 (aB 4) (bG (aB 5))) (oO 3 (aB 5) (bG (aB 4)))
theorem wX{w s1 s2:Slot}:∀(ps:gX) (ll:dQ) (s4 s5:Slot),(∀p∈ps,0<=p.1/\p.1<ll.length/\0<=p.2/\p.2<ll.length)->(∀l∈ll,l.length+2*ps.length<=10000)->
  ∃s4' s5',forL (iB 2 (bI (gnm 4) (bI (gnm 5) iZ))) atB (ps.map pD) [w,s1,s2,.o2 ll,s4,s5]= .nx [w,s1,s2,.o2 ((dbl ps).foldl cH ll),s4',s5']
 |[],ll,s4,s5,_,_=>⟨s4,s5,rfl⟩
 |p::ps,ll,s4,s5,h,hl=>by
  obtain⟨a0,a1,b0,b1⟩:=h p zAG;have hb0:∀l∈ll,l.length<=10000-2*(ps.length+1):=λ l hm=>by
   have:=hl l hm
   rw[zA6]at this;lia
  have hb1:=aC5 (p:=p) hb0;have hb2:=aC5 (p:=(p.2,p.1)) hb1;by_cases hne:ll=[]
  .subst hne
   simp at a1;lia
  have hbig:2*(ps.length+1)<=10000:=by
   obtain⟨l,hm⟩:=List.exists_mem_of_ne_nil ll hne
   have:=hl l hm
   rw[zA6]at this;lia
  obtain⟨s4',s5',e⟩:=wX (w:=w) (s1:=s1) (s2:=s2) ps (cH (cH ll p) (p.2,p.1)) (.sh (.int p.1)) (.sh (.int p.2)) (λ q hq=>by rw[uP,uP];exact h q (zAL _ hq)) (λ l hm=>by have:=hb2 l hm;lia);refine⟨s4',s5',?_⟩;rw[zAE,jf,vf,zBu,zBu];have hg:okE (iB 2 (bI (gnm 4) (bI (gnm 5) iZ)) (pD p) [w,s1,s2,.o2 ll,s4,s5]) (λ Y1=>(atB Y1).tn (forL (iB 2 (bI (gnm 4) (bI (gnm 5) iZ))) atB (ps.map pD)))=
    (atB [w,s1,s2,.o2 ll,.sh (.int p.1),.sh (.int p.2)]).tn (forL (iB 2 (bI (gnm 4) (bI (gnm 5) iZ))) atB (ps.map pD)):=by
   simp[pD]
  have c1:oO 3 (aB 4) (bG (aB 5)) [w,s1,s2,.o2 ll,.sh (.int p.1),.sh (.int p.2)]= .nx [w,s1,s2,.o2 (cH ll p),.sh (.int p.1),.sh (.int p.2)]:=
   aDV (a:=p.1) (b:=p.2) rfl (by simp) (by simp) a0 a1 (by have:=aDF hb0 p.1.toNat;lia)
  have c2:oO 3 (aB 5) (bG (aB 4)) [w,s1,s2,.o2 (cH ll p),.sh (.int p.1),.sh (.int p.2)]= .nx [w,s1,s2,.o2 (cH (cH ll p) (p.2,p.1)),.sh (.int p.1),.sh (.int p.2)]:=
   aDV (a:=p.2) (b:=p.1) rfl (by simp) (by simp) b0 (by rw[uP];exact b1) (by have:=aDF hb1 p.2.toNat;lia)
  have hc:atB [w,s1,s2,.o2 ll,.sh (.int p.1),.sh (.int p.2)]= .nx [w,s1,s2,.o2 (cH (cH ll p) (p.2,p.1)),.sh (.int p.1),.sh (.int p.2)]:=by
   unfold atB;rw[aQ,c1,bK,c2]
  rw[hg,hc,aEb];exact e
structure aOG(n:Int)(es:gX)(ll:dQ):Prop where
 len:ll.length=n.toNat
 item:∀i:Int,0<=i->i<n->∃ws:List Int,atD (ll.map .lst) i= .ok (.lst (ws.map .int))/\∀b,b∈ws↔(i,b)∈es
def zc(h:Ow n ps):∃ll,jE [owD n ps]= .ok (.lst (ll.map .lst))/\aOG n (dbl ps) ll/\∀i:Int,0<=i->i<n->atD (ll.map .lst) i= .ok (.lst ((eY (dbl ps) i).map .int)):=by
 have hn0:=h.n0;have hn1:=h.n1;have hr:=kh (j:=n) (by lia) (by lia);have hW:(dD 0 n).length=n.toNat:=by rw[jb];lia
 have hps:=h.len;have hin:∀p∈ps,0<=p.1/\p.1<(zAO n.toNat ([]:List D)).length/\0<=p.2/\p.2<(zAO n.toNat ([]:List D)).length:=λ p hp=>by
  obtain⟨a,b,c,d,_⟩:=h.pr p hp;rw[zCQ];lia
 have hin2:∀p∈dbl ps,0<=p.1/\p.1<(zAO n.toNat ([]:List D)).length:=λ p hp=>by
  rcases bx.mp (show(p.1,p.2)∈dbl ps from hp)with z|z
  .have:=hin _ z;exact⟨this.1,this.2.1⟩
  .have:=hin _ z;exact⟨this.2.2.1,this.2.2.2⟩
 obtain⟨s4,s5,e⟩:=wX (w:=.sh (owD n ps)) (s1:=.sh (.int n)) (s2:=.sh (.tup (ps.map pD))) ps (zAO n.toNat []) .no .no hin (λ l hl=>by
  rw[(List.mem_replicate.mp hl).2];simp;lia)
 have item:∀i:Int,0<=i->i<n->atD (((dbl ps).foldl cH (zAO n.toNat [])).map .lst) i= .ok (.lst ((eY (dbl ps) i).map .int)):=by
  intro i h0 h1;have hk:i.toNat<(zAO n.toNat ([]:List D)).length:=by rw[zCQ];lia
  have hg:=xW (dbl ps) (zAO n.toNat []) i.toNat hin2 hk;have hk2:i.toNat<((dbl ps).foldl cH (zAO n.toNat [])).length:=by rw[rJ];exact hk
  have hi:((i.toNat:Nat):Int)=i:=zBF h0;rw[hi]at hg;rw[<-hi];refine jQ ?_;rw[hi,zAZ,zAH hk2]
  have:((dbl ps).foldl cH (zAO n.toNat []))[i.toNat]=(eY (dbl ps) i).map .int:=by
   have e1:((dbl ps).foldl cH (zAO n.toNat [])).getD i.toNat []=((dbl ps).foldl cH (zAO n.toNat []))[i.toNat]:=by simp[hk2]
   rw[<-e1,hg];have e2:(zAO n.toNat ([]:List D)).getD i.toNat []=[]:=by
    rw[List.getD_eq_getElem?_getD,zCg];split<;>rfl
   rw[e2,zCh]
  rw[this];rfl
 refine⟨(dbl ps).foldl cH (zAO n.toNat []),?_,⟨by rw[rJ,zCQ],λ i h0 h1=>⟨eY (dbl ps) i,item i h0 h1,λ b=>gw⟩⟩,item⟩
 .have hz:n.toNat<16777216:=by lia
  have a0:aHE (aB 0) (iB 2 (bI (gnm 1) (bI (gnm 2) iZ))) [.sh (owD n ps),.no,.no,.no,.no,.no]= .nx [.sh (owD n ps),.sh (.int n),.sh (.tup (ps.map pD)),.no,.no,.no]:=by
   simp[owD]
  have a1:llS 3 (fW lW (aD (aB 1) aK)) [none] (gnm 0) [.sh (owD n ps),.sh (.int n),.sh (.tup (ps.map pD)),.no,.no,.no]= .nx [.sh (owD n ps),.sh (.int n),.sh (.tup (ps.map pD)),.o2 (zAO n.toNat []),.no,.no]:=by
   unfold llS;simp[shE,q9,hr,hW,hz]
  have a2:jZ (gW (aB 2)) (iB 2 (bI (gnm 4) (bI (gnm 5) iZ))) atB [.sh (owD n ps),.sh (.int n),.sh (.tup (ps.map pD)),.o2 (zAO n.toNat []),.no,.no]= .nx [.sh (owD n ps),.sh (.int n),.sh (.tup (ps.map pD)),.o2 ((dbl ps).foldl cH (zAO n.toNat [])),s4,s5]:=by
   have hi:gW (aB 2) [.sh (owD n ps),.sh (.int n),.sh (.tup (ps.map pD)),.o2 (zAO n.toNat []),.no,.no]= .ok (ps.map pD):=by simp
   rw[iD,hi,cA];exact e
  have a3:retS (uJ 3) [.sh (owD n ps),.sh (.int n),.sh (.tup (ps.map pD)),.o2 ((dbl ps).foldl cH (zAO n.toNat [])),s4,s5]= .rt (.lst (((dbl ps).foldl cH (zAO n.toNat [])).map .lst)):=by simp
  have st:ao 6 [owD n ps]=[.sh (owD n ps),.no,.no,.no,.no,.no]:=rfl;have df:gA=aq (aHE (aB 0) (iB 2 (bI (gnm 1) (bI (gnm 2) iZ)))) (aq (llS 3 (fW lW (aD (aB 1) aK)) [none] (gnm 0)) (aq (jZ (gW (aB 2)) (iB 2 (bI (gnm 4) (bI (gnm 5) iZ))) atB) (retS (uJ 3)))):=rfl;simp only[jE,df,bO,st];rw[aQ,a0,bK,aQ,a1,bK,aQ,a2,bK,a3]
def bJ(ps:gX):List Int->Bool
 |a::b::r=>decide ((a,b)∈ps)&&bJ ps (b::r)
 |_=>true
theorem rQ:∀{ws:List Int},bJ ps ws=true↔∀(i:Nat) (a b:Int),ws[i]? =some a->ws[i+1]? =some b->(a,b)∈ps
 |[]=>by simp[bJ]
 |[x]=>by
  simp only[bJ,true_iff];intro i p q _ h2;simp at h2
 |x::y::r=>by
  have ih:=rQ (ps:=ps) (ws:=y::r);unfold bJ;rw[zAC,ih,decide_eq_true_eq];constructor
  .rintro⟨h1,h2⟩ i p q e1 e2
   cases i with
   |zero=>simp at e1 e2;subst e1 e2;exact h1
   |succ i=>exact h2 i p q (by simpa using e1) (by simpa using e2)
  .intro h
   exact⟨h 0 x y rfl rfl,λ i p q e1 e2=>h (i+1) p q (by simpa using e1) (by simpa using e2)⟩
def aNv:D->Bool
 | .tup l=>decide (l.length<4000)
 |_=>true
theorem zP{a:D->En->Rs En}{u:En->Ou}{I:En->Prop}:∀(ds:List D) (Y:En),I Y->(∀d∈ds,∀Y,I Y->∃Y',okE (a d Y) u= .nx Y'/\I Y')->∃Y',forL a u ds Y= .nx Y'/\I Y'
 |[],Y,h,_=>⟨Y,rfl,h⟩
 |d::ds,Y,h,H=>by
  rw[jf];have tnE:∀(r':Rs En) (k:En->Ou),okE r' (λ Y1=>(u Y1).tn k)=(okE r' u).tn k:=λ r' k=>by cases r'<;>rfl
  rw[tnE];obtain⟨Y',e,hI⟩:=H d zAG Y h;rw[e,aEb];exact zP ds Y' hI λ y hy=>H y (zAL _ hy)
def zE:ltP p q=true↔p.1<q.1\/p.1=q.1/\p.2<q.2:=by
 unfold ltP;have e:HT.lexLt [p.1,p.2] [q.1,q.2]=true↔p.1<q.1\/p.1=q.1/\p.2<q.2:=by
  by_cases h1:p.1=q.1
  .by_cases h2:p.2=q.2
   .simp[HT.lexLt,h1,h2]
   .simp[HT.lexLt,h1,h2]
  .simp[HT.lexLt,h1]
 exact e
def aFI(h:ug ps=true)(l:∀p∈ps,ltP p q=true):ug (ps++[q])=true:=by
 rw[yf]at h ⊢;intro i a b e1 e2;by_cases hi:i+1<ps.length
 .rw[zB3 (by lia)]at e1
  rw[zB3 hi]at e2;exact h i a b e1 e2
 .have hj:=(zAJ.mp e2).1
  rw[zAT,zAt]at hj;have hk:i+1=ps.length:=by lia
  rw[zB3 (by lia)]at e1;rw[hk,zDW (zAP _),zGb]at e2;cases e2;exact l a (zAg e1)
structure Wi(n a b:Int)(ps:gX):Prop where
 ris:ug ps=true
 pr:∀p∈ps,0<=p.1/\p.1<p.2/\p.2<n/\(p.1<a\/p.1=a/\p.2<b)
def Wi.put(W:Wi n a b ps)(h0:0<=a)(h1:a<b)(h2:b<n):Wi n a (b+1) (ps++[(a,b)]):=by
 refine⟨aFI W.ris λ p hp=>?_,λ p hp=>?_⟩
 .obtain⟨_,_,_,h⟩:=W.pr p hp
  rw[zE];exact h
 .rcases zAp.mp hp with hp|hp
  .obtain⟨q1,q2,q3,q4⟩:=W.pr p hp
   exact⟨q1,q2,q3,by lia⟩
  .rw[zA3.mp hp]
   exact⟨h0,h1,h2,.inr ⟨rfl,by show b<b+1;lia⟩⟩
def Wi.on(W:Wi n a b ps)(h:a<a'\/a=a'/\b<=b'):Wi n a' b' ps:=⟨W.ris,λ p hp=>by
 obtain⟨q1,q2,q3,q4⟩:=W.pr p hp;exact⟨q1,q2,q3,by lia⟩⟩
def wbI:En->Ou:=ifS (tsb (op2 ltD (au bU (aD (aB 0) (aD (op2 cC (op2 cC (cD (.int 3)) (op2 fO (cD (.int 61)) (aB 5))) (aB 6)) (aD (cD (.int 8)) aK)))) (aB 3))) (rP 4 (cO (aD (bG (aB 5)) (aD (bG (aB 6)) aK)))) Ou.nx
def wbO:En->Ou:=jZ (fW ud (aD (op2 cC (aB 5) (cD (.int 1))) (aD (aB 2) aK))) (gnm 6) wbI
def aCC{most:Nat}(h1:most<=60):∃n ps,jt [.int c,.int most]= .ok (owD n ps)/\Ow n ps/\(∀p∈ps,p.1<p.2)/\n<=most:=by
 obtain⟨n,en,hn⟩:=zQ (c:=c) (k:=0) (b:=(most:Int)+1) (by decide) (by decide) (by lia) (by lia);obtain⟨th,et,_⟩:=zQ (c:=c) (k:=1) (b:=6) (by decide) (by decide) (by decide) (by decide);have hr1:=kh (j:=(n:Int)) (by lia) (by lia);have inner:∀(a:Int) (K0:Nat) (ps:gX) (s2:Slot),0<=a->a<n->K0<=3600->ps.length<=K0->Wi n a (a+1) ps->
   ∃ps' s2',forL (gnm 6) wbI (dD (a+1) n) [.sh (.int c),.sh (.int most),.sh (.int n),.sh (.int (1+th)),.ow (.lst (ps.map pD)),.sh (.int a),s2]= .nx [.sh (.int c),.sh (.int most),.sh (.int n),.sh (.int (1+th)),.ow (.lst (ps'.map pD)),.sh (.int a),s2']/\ps'.length<=K0+60/\Wi n a n ps':=by
  intro a K0 ps s2 ha0 ha1 hK hl W;obtain⟨Y',e,ps',s',rfl,hl',W'⟩:=gY (a:=gnm 6) (u:=wbI) (ds:=dD (a+1) n)
   (λ k Y=>∃(ps:gX) (s2:Slot),Y=[.sh (.int c),.sh (.int most),.sh (.int n),.sh (.int (1+th)),.ow (.lst (ps.map pD)),.sh (.int a),s2]/\ps.length<=K0+k/\Wi n a (a+1+k) ps)
   (by
    rintro i d Y hd ⟨ps,s2,rfl,hps,W⟩;obtain⟨rfl,hlt⟩:=mF hd;have hm:fO (.int 61) (.int a)= .ok (.int (61*a)):=zA (by decide) (by decide);obtain⟨r,er,_⟩:=zQ (c:=c) (k:=3+61*a+(a+1+i)) (b:=8) (by lia) (by lia) (by decide) (by decide);have hz:ps.length<16777216:=by lia
    by_cases hlt2:(r:Int)<1+th
    .exact⟨_,by simp[wbI,hm,er,hlt2,rP,hz];rfl,ps++[(a,a+1+i)],_,by simp[pD];rfl,by simp;lia,by rw[show a+1+((i+1:Nat):Int)=a+1+(i:Int)+1 by lia];exact W.put ha0 (by lia) (by lia)⟩
    .exact⟨_,by simp[wbI,hm,er,hlt2];rfl,ps,_,rfl,by lia,W.on (by lia)⟩)
   (Y:=[.sh (.int c),.sh (.int most),.sh (.int n),.sh (.int (1+th)),.ow (.lst (ps.map pD)),.sh (.int a),s2]) ⟨ps,s2,rfl,by lia,W.on (by lia)⟩
  rw[jb]at hl' W';exact⟨ps',s',e,by lia,W'.on (by lia)⟩
 obtain⟨Y',e,ps,s1,s2,rfl,hl,W⟩:=gY (a:=gnm 5) (u:=wbO) (ds:=dD 0 n)
  (λ k Y=>∃(ps:gX) (s1 s2:Slot),Y=[.sh (.int c),.sh (.int most),.sh (.int n),.sh (.int (1+th)),.ow (.lst (ps.map pD)),s1,s2]/\ps.length<=60*k/\Wi n k 0 ps)
  (by
   rintro i d Y hd ⟨ps,s1,s2,rfl,hps,W⟩;obtain⟨rfl,hlt⟩:=mF hd;have hr2:=qD (i:=0+(i:Int)+1) (j:=(n:Int)) (by lia) (by lia) (by lia) (by lia);obtain⟨ps',s2',e,hl',W'⟩:=inner (0+(i:Int)) (60*i) ps s2 (by lia) (by lia) (by lia) hps ⟨W.ris,λ p hp=>by obtain⟨q1,q2,q3,q4⟩:=W.pr p hp;exact⟨q1,q2,q3,by lia⟩⟩;refine⟨_,?_,ps',.sh (.int (0+(i:Int))),s2',rfl,by lia,W'.on (by lia)⟩;simp only[Int.zero_add]at hr2 e ⊢;simp[wbO,hr2,e])
  (Y:=[.sh (.int c),.sh (.int most),.sh (.int n),.sh (.int (1+th)),.ow (.lst []),.no,.no]) ⟨[],.no,.no,rfl,by simp,rfl,λ p hp=>by cases hp⟩
 rw[jb]at hl;refine⟨n,ps,?_,⟨by lia,by lia,by lia,λ p hp=>by obtain⟨q1,q2,q3,q4⟩:=W.pr p hp;exact⟨q1,by lia,by lia,q3,by lia⟩,W.ris⟩,λ p hp=>(W.pr p hp).2.1,by lia⟩;have st:ao 7 [.int c,.int most]=[.sh (.int c),.sh (.int most),.no,.no,.no,.no,.no]:=rfl;have df:iK=aq (cV 2 (au bU (aD (aB 0) (aD (cD (.int 0)) (aD (op2 cC (aB 1) (cD (.int 1))) aK)))))
  (aq (cV 3 (op2 cC (cD (.int 1)) (au bU (aD (aB 0) (aD (cD (.int 1)) (aD (cD (.int 6)) aK))))))
  (aq (j7 4 (iY aK)) (aq (jZ (fW lW (aD (aB 2) aK)) (gnm 5) wbO)
  (retS (cO (aD (bG (aB 2)) (aD (opA lr (aD (uJ 4) aK)) aK))))))):=rfl
 simp only[jt,df,bO,st];simp[en,et,hr1,e,owD]
theorem aF7:∀ws:List Int,qw (ws.map .int)=true
 |[]=>rfl
 |_::ws=>by simp only[zAE,qw,aF7 ws,pln];rfl
theorem mR:∀ws:List Int,dI (ws.map .int)=true
 |[]=>rfl
 |_::ws=>by simp only[zAE,dI,mR ws,imm];rfl
theorem lJ:∀{l:List D},(∀d∈l,imm d=true)->dI l=true
 |[],_=>rfl
 |x::r,h=>by
  simp only[dI,zAC];exact⟨h x (zAG ..),lJ λ d hd=>h d (zAL _ hd)⟩
theorem v9:∀{l:List D},(∀d∈l,iu d<=k)->dJ l<=k
 |[],_=>zAj _
 |x::r,h=>by
  unfold dJ;exact Nat.max_le.mpr ⟨h x zAG,v9 λ d hd=>h d (zAL _ hd)⟩
theorem qz:∀{l:List D},(∀d∈l,aY d=true)->bC l=true
 |[],_=>rfl
 |x::r,h=>by
  unfold bC;rw[h x zAG,qz λ d hd=>h d (zAL _ hd)];rfl
structure El(k:Nat)(d:D):Prop where
 p:pln d=true
 e:iu d<=k
 n:aY d=true
 i:imm d=true
theorem El.tup(h:∀d∈l,El k d):El (k+1) (.tup l):=⟨by unfold pln;exact aCn λ d hd=>(h d hd).p,by unfold iu;exact Nat.succ_le_succ (v9 λ d hd=>(h d hd).e),by unfold aY;exact qz λ d hd=>(h d hd).n,by unfold imm;exact lJ λ d hd=>(h d hd).i⟩
theorem El.int{k:Nat}{i:Int}:El k (.int i):=⟨rfl,zAj _,rfl,rfl⟩
def aOC(h:l.length+m.length<=16777216):cC (.tup l) (.tup m)= .ok (.tup (l++m)):=by rw[aBI,if_pos h]
def aNa(h:l.length+m.length<=16777216):cC (.lst l) (.lst m)= .ok (.lst (l++m)):=by rw[aHI,if_pos h]
def aJZ(h:l≠[]):atD l (-1)= .ok (l.getLast h):=by
 have hk:0<l.length:=zBE.mpr h;unfold atD atI ixN;rw[if_neg (by decide),if_pos (by lia)];have e:((-1:Int)+(l.length:Int)).toNat=l.length-1:=by lia
 rw[e,List.getLast_eq_getElem];simp[zAH (show l.length-1<l.length by lia)]
structure Fn4(d:D):Prop where
 p:pln d=true
 s:aNv d=true
 e:iu d<=60
 n:aY d=true
theorem aGX{c:En->Rs Bool}{b:En->Ou}{I:Nat->En->Prop}(st:∀m Y,I m Y->c Y= .ok false\/(c Y= .ok true/\∃Y' m',b Y= .nx Y'/\m'<m/\I m' Y')):
  ∀(n m:Nat) (Y:En),m<n->I m Y->∃Y' m',itW c b n Y= .nx Y'/\I m' Y'/\c Y'= .ok false
 |0,_,_,h,_=>absurd h (zHh _)
 |n+1,m,Y,h,hI=>by
  rcases st m Y hI with e|⟨e,Y',m',e2,hm,hI'⟩
  .exact⟨Y,m,by unfold itW;rw[e];rfl,hI,e⟩
  .obtain⟨Y2,m2,e3,r⟩:=aGX st n m' Y' (by lia) hI'
   refine⟨Y2,m2,?_,r⟩;unfold itW;rw[e,cA,if_pos rfl,e2];exact e3
def aE5{c:En->Rs Bool}{b:En->Ou}(I:Nat->En->Prop)(st:∀m Y,I m Y->c Y= .ok false\/(c Y= .ok true/\∃Y' m',b Y= .nx Y'/\m'<m/\I m' Y')){m:Nat}{Y:En}(hm:m<1000000)(h:I m Y):
  ∃Y' m',aBQ c b Y= .nx Y'/\I m' Y'/\c Y'= .ok false:=aGX st fuel m Y hm h
def upI(n:Int):List Int:=(zA1 n.toNat).map λ(k:Nat)=>(k:Int)
def aBd(n:Int):dD 0 n=(upI n).map .int:=by
 unfold dD upI;rw[zAU,show(n-0).toNat=n.toNat by lia];exact zCC λ k _=>by simp
def pR(n:Int):(upI n).Nodup:=by
 unfold upI;rw[zDX,zBH];exact zEw.imp λ h e=>h (by lia)
def fP:x∈upI n↔0<=x/\x<n:=by
 unfold upI;rw[zAX];constructor
 .rintro⟨k,hk,rfl⟩
  have:=zAn.mp hk
  lia
 .rintro⟨h0,h1⟩
  exact⟨x.toNat,zAn.mpr (by lia),by lia⟩
def iT(n:Int):(upI n).length=n.toNat:=by unfold upI;simp
theorem vz:∀{ws:List Int} (h:ws≠[]),bJ es ws=true->(ws.getLast h,v)∈es->bJ es (ws++[v])=true
 |[a],_,_,h2=>by simpa[bJ]using h2
 |a::b::r,_,h1,h2=>by
  simp only[bJ,zAC,decide_eq_true_eq]at h1
  have:=vz (ws:=b::r) (by simp) h1.2 (by simpa using h2)
  rw[zBj,zBj,bJ,zAC,decide_eq_true_eq];exact⟨h1.1,by simpa using this⟩
def qP(h:Ow n ps)(low:∀p∈ps,p.1<p.2):dW [owD n ps]= .ok .non:=by
 have st:ao 1 [owD n ps]=[.sh (owD n ps)]:=rfl;simp only[dW,dO,bO,st];simp[aEE h low]
inductive Cn(es:gX)(a:Int):Int->Prop where
 |refl:Cn es a a
 |step {b c:Int} (h:Cn es a b) (e:(b,c)∈es):Cn es a c
def Sym(es:gX):Prop:=∀a b,(a,b)∈es->(b,a)∈es
def nQ(ps:gX):Sym (dbl ps):=λ a b h=>bx.mpr (bx.mp h).symm
structure Path(es:gX)(a b:Int)(l:List Int):Prop where
 hd:l.head?=some a
 lt:l.getLast?=some b
 al:bJ es l=true
def aE8(n:Int):(upI n).Pairwise (·< ·):=by
 unfold upI;rw[zBH];exact List.pairwise_lt_range.imp λ h=>by lia
def aFJ{ps:gX}:ug ps=true↔ps.Pairwise λ p q=>p.1<q.1\/p.1=q.1/\p.2<q.2:=by
 constructor
 .intro h
  have h':=yf.mp h;clear h;induction ps with
  |nil=>exact .nil
  |cons p ps ih=>
   have hs:∀(i:Nat) (p q:Int×Int),ps[i]? =some p->ps[i+1]? =some q->ltP p q=true:=λ i a b e1 e2=>h' (i+1) a b e1 e2
   have hp:=ih hs;refine zGu.mpr ⟨λ q hq=>?_,hp⟩;cases ps with
   |nil=>cases hq
   |cons r rs=>
    have h1:=zE.mp (h' 0 p r rfl rfl);rcases zAN.mp hq with rfl|hq
    .exact h1
    .have h2:=(zGu.mp hp).1 q hq
     lia
 .intro h
  rw[yf];intro i p q e1 e2;rw[zE];obtain⟨h1,rfl⟩:=zAJ.mp e1;obtain⟨h2,rfl⟩:=zAJ.mp e2;exact zD6.mp h i (i+1) h1 h2 (zC7 i)
section
variable{n:Int}{ps:gX}
def bw(h:Ow n ps):ps.Nodup:=by
 refine(aFJ.mp h.ris).imp λ{a b} q e=>?_
 subst e;lia
end
theorem jX{α:Type}[DecidableEq α]:∀{l m:List α},l.Nodup->(∀x∈l,x∈m)->l.length<=m.length
 |[],_,_,_=>zAj _
 |x::l,m,h,hs=>by
  obtain⟨h1,h2⟩:=zA5.mp h;have hx:=hs x zAG
  have:=jX (m:=m.erase x) h2 λ y hy=>(List.mem_erase_of_ne (λ e:y=x=>h1 (e▸hy))).mpr (hs y (zAL _ hy))
  have hp:=zGN hx;rw[List.length_erase_of_mem hx]at this;rw[zA6];lia
section
variable{ps:gX}
theorem xx:∀{ps:gX},ps.Nodup->(∀p∈ps,p.1<p.2)->(dbl ps).Nodup
 |[],_,_=>zC3
 |p::ps,h,low=>by
  obtain⟨h1,h2⟩:=zA5.mp h;have ih:=xx h2 λ q hq=>low q (zAL _ hq)
  have lp:=low p zAG;have no:∀q∈ps,q≠(p.2,p.1):=λ q hq e=>by
   have:=low q (zAL _ hq)
   rw[e]at this;dsimp only at this;lia
  rw[vf];refine zA5.mpr ⟨λ z=>?_,zA5.mpr ⟨λ z=>?_,ih⟩⟩
  .rcases zAN.mp z with e|z
   .have:=congrArg zFD e
    dsimp only at this;lia
   .rcases bx.mp (show(p.1,p.2)∈dbl ps from z)with z|z
    .exact h1 z
    .exact no _ z rfl
  .rcases bx.mp z with z|z
   .exact no _ z rfl
   .exact h1 z
def rC(h:ps.Nodup)(low:∀p∈ps,p.1<p.2)(a:Int):(eY (dbl ps) a).Nodup:=by
 unfold eY zCY;rw[zBH];refine zDG ?_ ((xx h low).filter _);intro p q hp hq ne e;have e1:p.1=a:=by simpa using(zAV.mp hp).2
 have e2:q.1=a:=by simpa using(zAV.mp hq).2
 exact ne (zHB (e1.trans e2.symm) e)
end
def aDX(a b:Nat):zC1 (a:Int) (b:Int)=((a&&& b:Nat):Int):=by
 unfold zC1;simp
def aIf(a:Nat)(h:0<a):zC1 (a:Int) (-(a:Int))=((a-(a&&& (a-1)):Nat):Int):=by
 unfold zC1 Builtin.bitNot;have h1:decide (0<=(a:Int))=true:=by simp
 have h2:decide (0<= -(a:Int))=false:=by simp;lia
 rw[h1,h2];dsimp only;have e1:(-(-(a:Int))-1).toNat=a-1:=by lia
 have e2:(a:Int).toNat=a:=by lia
 rw[e1,e2]
 have:a&&& (a-1)<=a:=zHg
 lia
def aC8(a i:Nat):zC1 ((a:Int) / 2^i) 1=if a.testBit i then 1 else 0:=by
 have e:(a:Int) / 2^i=((a / 2^i:Nat):Int):=by push_cast;rfl
 rw[e,show(1:Int)=((1:Nat):Int)from rfl,aDX,Nat.and_one_is_mod,<-zGD]
 have:a.testBit i=decide ((a>>>i)%2=1):=by
  rw[zEj,zGD]
 rw[this];by_cases c:(a>>>i)%2=1
 .simp[c]
 .have:(a>>>i)%2=0:=by lia
  simp[this]
def aJX{a i:Nat}(h:a.testBit i=true):i<tR (a:Int):=by
 unfold tR;have h1:=zBJ h;have h0:a≠0:=λ z=>by rw[z]at h;simp at h
 have:((a:Int)==0)=false:=by simp;exact h0
 rw[this,zHK]
 have:=(Nat.le_log2 h0).mpr h1
 simp;lia
def aMP{a:Nat}(h:a≠0):∃i,tR (a:Int)=i+1/\a.testBit i=true:=by
 refine⟨a.log2,?_,?_⟩
 .unfold tR
  have:((a:Int)==0)=false:=by simp;exact h
  rw[this,zHK];simp
 .rw[zEj]
  have h1:=Nat.log2_self_le h;have h2:=Nat.lt_log2_self (n:=a);have h3:a / 2^a.log2=1:=by
   refine Nat.div_eq_of_lt_le (by simpa using h1) ?_;rw[zGa]at h2;lia
  rw[h3];rfl
def aMO{a n:Nat}(h:a<2^n):tR (a:Int)<=n:=by
 by_cases h0:a=0
 .subst h0
  exact zAj _
 .obtain⟨i,e,hi⟩:=aMP h0
  rw[e];refine zAq λ z=>?_
  have:=zBJ hi
  have h2:2^n<=2^i:=zAr (by decide) (by lia);lia
def aV(n:Int)(g:Nat):List Int:=(upI n).filter λ p=>g.testBit p.toNat
def bF{n:Int}{g:Nat}{x:Int}:x∈aV n g↔(0<=x/\x<n)/\g.testBit x.toNat=true:=by
 unfold aV;rw[zAV,fP]
def aBE(n:Int)(g:Nat):(aV n g).Pairwise (·< ·):=(aE8 n).filter _
def aHs:∀{a b:List Int},a.Pairwise (·< ·)->b.Pairwise (·< ·)->(∀x,x∈a↔x∈b)->a=b:=λ{a b} h1 h2 h=>by
 have p:a.Perm b:=(zAl (zDX.mpr (h1.imp λ z=>by lia)) (zDX.mpr (h2.imp λ z=>by lia))).mpr h;exact PySem.W.ksm_same p (h1.imp λ z=>Int.le_of_lt z) (h2.imp λ z=>Int.le_of_lt z)
def ym{n:Int}{g:Nat}(h0:0<=n)(h1:n<=60)(hg:g<2^n.toNat):gf [.int (g:Int)]= .ok (.lst ((aV n g).map .int)):=by
 have st:ao 1 [.int (g:Int)]=[.sh (.int (g:Int))]:=rfl;have hb:=aMO hg;have hr:=kh (j:=(tR (g:Int):Nat)) (by lia) (by lia);have e1:aV n g=(upI (tR (g:Int):Nat)).filter λ p=>g.testBit p.toNat:=aHs (aBE n g) ((aE8 _).filter _) λ x=>by
  rw[bF,zAV,fP];constructor
  .rintro⟨⟨a,b⟩,c⟩
   exact⟨⟨a,by have:=aJX c;lia⟩,c⟩
  .rintro⟨⟨a,b⟩,c⟩
   exact⟨⟨a,by lia⟩,c⟩
 have hlc:lcD (fW lW (aD (aJY (aB 0)) aK)) [none,some 0] (gnm 0) (tst (op2 m7 (op2 aAE (aB 1) (aB 0)) (cD (.int 1)))) (bG (aB 0)) [.sh (.int (g:Int))]= .ok (.lst ((aV n g).map .int)):=by
  rw[e1];refine lH (ds:=(upI (tR (g:Int):Nat)).map .int) ?_ (by rw[zAD,iT];lia) (qI _ λ p hp=>⟨[.sh (.int p),.sh (.int (g:Int))],rfl,?_,rfl⟩)
  .have:aJY (aB 0) (shE [.sh (.int (g:Int))])= .ok (.int (tR (g:Int):Nat)):=rfl
   rw[aBd]at hr;simp[this,hr]
  .obtain⟨a,b⟩:=fP.mp hp
   have e2:=aC8 g p.toNat;have e3:aAE (.int (g:Int)) (.int p)= .ok (.int ((g:Int) / 2^p.toNat)):=by simp[aAE,i2,a]
   have e4:m7 (.int ((g:Int) / 2^p.toNat)) (.int 1)= .ok (.int (if g.testBit p.toNat then 1 else 0)):=by
    rw[<-e2];rfl
   cases c:g.testBit p.toNat<;>rw[c]at e4<;>simp[e3,e4,tst]
 simp only[gf,eZ,bO,st];simp[hlc]
def mnI(a b:Int):Int:=if b<a then b else a
def mxI(a b:Int):Int:=if b>a then b else a
section
variable{ps qs:gX}{S:List Int}
def inN(S:List Int)(ps:gX):Nat:=(ps.filter λ p=>decide (p.1∈S)&&decide (p.2∈S)).length
def Ac(ps:gX):Prop:=∀S:List Int,S.Nodup->S≠[]->inN S ps+1<=S.length
def aG1(h:ps.Perm qs):inN S ps=inN S qs:=(h.filter _).length_eq
def Ac.perm(h:ps.Perm qs)(A:Ac qs):Ac ps:=λ S nd ne=>by rw[aG1 h];exact A S nd ne
def oA(a b:Int):(mnI a b=a/\mxI a b=b)\/(mnI a b=b/\mxI a b=a):=by
 unfold mnI mxI;split<;>split
 .lia
 .exact .inr ⟨rfl,rfl⟩
 .exact .inl ⟨rfl,rfl⟩
 .have:a=b:=by lia
  exact .inl ⟨rfl,this⟩
def aNQ{a b:Int}:(decide (mnI a b∈S)&&decide (mxI a b∈S))=(decide (a∈S)&&decide (b∈S)):=by
 rcases oA a b with ⟨h1,h2⟩|⟨h1,h2⟩
 .rw[h1,h2]
 .rw[h1,h2,Bool.and_comm]
end
def dgr(F:gX)(x:Int):Nat:=(F.filter λ t=>decide (t.1=x)||decide (t.2=x)).length
def aAv(t:Int×Int)(F:gX)(x:Int):dgr (t::F) x=dgr F x+(if t.1=x\/t.2=x then 1 else 0):=by
 unfold dgr;rw[zAx];by_cases c:t.1=x\/t.2=x
 .rw[if_pos (by simpa using c),if_pos c,zA6]
 .rw[if_neg (by simpa using c),if_neg c]
  rfl
def aAu{F G:gX}(h:F.Perm G)(x:Int):dgr F x=dgr G x:=(h.filter _).length_eq
abbrev Tr:=List (Int×Int)×(Int->Int)×(Int->Int)
def ye(qs:gX)(ls us:List Int):D:=.tup [.tup (qs.map pD),tupI ls,tupI us]
def rwF(n:Int)(t:Tr):D:=ye t.1 ((upI n).map t.2.1) ((upI n).map t.2.2)
def cnd(p:Int×Int)(t:Tr):Bool:=decide (t.2.2 p.1<2)&&(decide (t.2.2 p.2<2)&& !decide (t.2.1 p.1=t.2.1 p.2))
def nwT(p:Int×Int)(t:Tr):Tr:=(t.1++[p],(λ z=>if t.2.1 z=mxI (t.2.1 p.1) (t.2.1 p.2)then mnI (t.2.1 p.1) (t.2.1 p.2)else t.2.1 z),λ z=>t.2.2 z+(if z=p.1\/z=p.2 then 1 else 0))
def bh(ps:gX):List Tr:=ps.foldl (λ L p=>L++(L.filter (cnd p)).map (nwT p)) [([],id,λ _=>0)]
section
variable{n:Int}{ps:gX}
def aBG{f:Int->Int}{x:Int}(h0:0<=x)(h1:x<n):atD (((upI n).map f).map .int) x= .ok (.int (f x)):=by
 have ex:((x.toNat:Nat):Int)=x:=zBF h0
 have:=jQ (l:=((upI n).map f).map .int) (k:=x.toNat) (d:=.int (f x)) (by
  rw[zAZ,zAZ];unfold upI;rw[zAZ,zDR (by lia)];simp[ex])
 rwa [ex]at this
def aKl{x y:Int}(h6:Y[6]? =some (.sh (tupI ((upI n).map lf))))(h8:Y[8]? =some (.sh (.int x)))(h9:Y[9]? =some (.sh (.int y)))(hl:n<=60):roL Y= .ok (tupI ((upI n).map λ z=>if lf z=y then x else lf z)):=by
 have hu:(upI n).length<=60:=by rw[iT];lia
 have e:lcD (gW (aB 6)) [none,some 9,some 8] (gnm 0) jG (ifD (tsb (op2 (eqR false) (aB 0) (aB 1))) (bG (aB 2)) (bG (aB 0))) Y= .ok (.lst (((upI n).map λ z=>if lf z=y then x else lf z).map .int)):=by
  rw[zAU];refine lH (ds:=(upI n).map λ z=>.int (lf z)) (by simp[shE,q9,tupI,h6]) (by rw[zAD];lia) (mK (upI n) λ z hz=>⟨[.sh (.int (lf z)),.sh (.int y),.sh (.int x)],by simp[stE,shE,q9,h8,h9],?_⟩);by_cases c:lf z=y<;>simp[c,aCM,imm]
 unfold roL;rw[yq,cJ,e];simp[tupI]
def aKk(h:Ow n ps)(h0:Y[0]? =some (.sh (owD n ps)))(h7:Y[7]? =some (.sh (tupI ((upI n).map uf))))(h2:Y[2]? =some (.sh (.int a)))(h3:Y[3]? =some (.sh (.int b))):roU Y= .ok (tupI ((upI n).map λ z=>uf z+(if z=a\/z=b then 1 else 0))):=by
 have hn1:=h.n1;have hn0:=h.n0;have hr:=kh (j:=n) (by lia) (by lia);have hx:ixD (owD n ps) (.int 0)= .ok (.int n):=by simp[owD]
 have e:lcD (fW lW (aD (op2 ixD (aB 0) (cD (.int 0))) aK)) [none,some 7,some 2,some 3] (gnm 0) jG (op2 cC (bG (op2 ixD (aB 1) (aB 0))) (opA mQ (aD (orD (op2 (eqR false) (aB 0) (aB 2)) (op2 (eqR false) (aB 0) (aB 3))) aK))) Y= .ok (.lst (((upI n).map λ z=>uf z+(if z=a\/z=b then 1 else 0)).map .int)):=by
  rw[zAU];refine lH (ds:=(upI n).map .int) ?_ (by rw[zAD,iT];lia) (mK (upI n) λ z hz=>⟨[.sh (.int z),.sh (tupI ((upI n).map uf)),.sh (.int a),.sh (.int b)],by simp[stE,shE,q9,h7,h2,h3],?_⟩)
  .simp[shE,q9,h0,hx,hr,aBd]
  .obtain⟨z0,z1⟩:=fP.mp hz
   have g:=aBG (f:=uf) z0 z1;have v:bG (op2 ixD (aB 1) (aB 0)) [.sh (.int z),.sh (tupI ((upI n).map uf)),.sh (.int a),.sh (.int b)]= .ok (.int (uf z)):=by
    simp only[zO,iW,aHS,zCB,zCA,aj,tupI,aIp,g,dq];rfl
   rw[iW,v,aj];by_cases c1:z=a
   .subst c1
    by_cases c2:z=b
    .subst c2
     simp[mQ]
    .simp[c2,mQ]
   .by_cases c2:z=b
    .subst c2
     simp[c1,mQ]
    .simp[c1,c2,mQ]
 unfold roU;rw[yq,cJ,e];simp[tupI]
abbrev roV(n:Int)(ps:gX)(s1:Slot)(a b:Int)(lg:List D)(t:Tr)(s8 s9 s10 s11:Slot):En:=[.sh (owD n ps),s1,.sh (.int a),.sh (.int b),.ow (.lst lg),.sh (.tup (t.1.map pD)),.sh (tupI ((upI n).map t.2.1)),.sh (tupI ((upI n).map t.2.2)),s8,s9,s10,s11]
def aKm{lg:List D}(h:Ow n ps)(ha:0<=a/\a<n)(hb:0<=b/\b<n)(hg:lg.length<100000)(hq:t.1.length<=1000):
  ∃s8' s9' s10' s11',roB (roV n ps s1 a b lg t s8 s9 s10 s11)= .nx (roV n ps s1 a b (lg++(if cnd (a,b) t=true then[rwF n (nwT (a,b) t)]else[])) t s8' s9' s10' s11'):=by
 have hn1:=h.n1;have g1:=aBG (f:=t.2.2) ha.1 ha.2;have g2:=aBG (f:=t.2.2) hb.1 hb.2;have g3:=aBG (f:=t.2.1) ha.1 ha.2;have g4:=aBG (f:=t.2.1) hb.1 hb.2;have x1:ixD (tupI ((upI n).map t.2.2)) (.int a)= .ok (.int (t.2.2 a)):=g1;have x2:ixD (tupI ((upI n).map t.2.2)) (.int b)= .ok (.int (t.2.2 b)):=g2;have x3:ixD (tupI ((upI n).map t.2.1)) (.int a)= .ok (.int (t.2.1 a)):=g3;have x4:ixD (tupI ((upI n).map t.2.1)) (.int b)= .ok (.int (t.2.1 b)):=g4;have ez:roT (roV n ps s1 a b lg t s8 s9 s10 s11)= .ok (cnd (a,b) t):=by
  unfold cnd;by_cases c1:t.2.2 a<2
  .by_cases c2:t.2.2 b<2
   .by_cases c3:t.2.1 a=t.2.1 b<;>simp[roT,x1,x2,x3,x4,c1,c2,c3]
   .simp[roT,x1,x2,x3,x4,c1,c2]
  .simp[roT,x1,x2,x3,x4,c1]
 cases z:cnd (a,b) t with
 |false=>exact⟨s8,s9,s10,s11,by rw[roB,aG7,ez,z];simp⟩
 |true=>
  have ex:cV 8 (opA (mmD λ i j=>if j<i then j else i) (aD (op2 ixD (aB 6) (aB 2)) (aD (op2 ixD (aB 6) (aB 3)) aK))) (roV n ps s1 a b lg t s8 s9 s10 s11)= .nx (roV n ps s1 a b lg t (.sh (.int (mnI (t.2.1 a) (t.2.1 b)))) s9 s10 s11):=by simp[x3,x4,mnI]
  have ey:cV 9 (opA (mmD λ i j=>if j>i then j else i) (aD (op2 ixD (aB 6) (aB 2)) (aD (op2 ixD (aB 6) (aB 3)) aK))) (roV n ps s1 a b lg t (.sh (.int (mnI (t.2.1 a) (t.2.1 b)))) s9 s10 s11)= .nx (roV n ps s1 a b lg t (.sh (.int (mnI (t.2.1 a) (t.2.1 b)))) (.sh (.int (mxI (t.2.1 a) (t.2.1 b)))) s10 s11):=by simp[x3,x4,mxI]
  have e1:=aKl (Y:=roV n ps s1 a b lg t (.sh (.int (mnI (t.2.1 a) (t.2.1 b)))) (.sh (.int (mxI (t.2.1 a) (t.2.1 b)))) s10 s11) (n:=n) (lf:=t.2.1) rfl rfl rfl hn1;have e2:=λ s=>aKk (Y:=roV n ps s1 a b lg t (.sh (.int (mnI (t.2.1 a) (t.2.1 b)))) (.sh (.int (mxI (t.2.1 a) (t.2.1 b)))) s s11) (uf:=t.2.2) h rfl rfl rfl rfl
  obtain⟨l',hl'⟩:∃l':List Int,l'=(upI n).map λ z=>if t.2.1 z=mxI (t.2.1 a) (t.2.1 b)then mnI (t.2.1 a) (t.2.1 b)else t.2.1 z:=⟨_,rfl⟩
  obtain⟨u',hu'⟩:∃u':List Int,u'=(upI n).map λ z=>t.2.2 z+(if z=a\/z=b then 1 else 0):=⟨_,rfl⟩
  rw[<-hl']at e1;simp only[<-hu']at e2;have er:rwF n (nwT (a,b) t)=ye (t.1++[(a,b)]) l' u':=by rw[hl',hu'];rfl
  have e3:roA (roV n ps s1 a b lg t (.sh (.int (mnI (t.2.1 a) (t.2.1 b)))) (.sh (.int (mxI (t.2.1 a) (t.2.1 b)))) (.sh (tupI l')) (.sh (tupI u')))= .nx (roV n ps s1 a b (lg++[ye (t.1++[(a,b)]) l' u']) t (.sh (.int (mnI (t.2.1 a) (t.2.1 b)))) (.sh (.int (mxI (t.2.1 a) (t.2.1 b)))) (.sh (tupI l')) (.sh (tupI u'))):=by
   have A:cC (.tup (t.1.map pD)) (.tup [.tup [.int a,.int b]])= .ok (.tup ((t.1++[(a,b)]).map pD)):=by
    rw[aOC (by simp;lia),zAc];rfl
   have i1:dI (t.1.map pD)=true:=lJ λ d hd=>by
    obtain⟨p,_,rfl⟩:=zAX.mp hd;rfl
   have i2:dI (l'.map D.int)=true:=mR l';have i3:dI (u'.map D.int)=true:=mR u';have hz:lg.length<16777216:=by lia
   simp[roA,rP,tupI,aCM,imm,i1,i2,i3,A,ye,hz,-aBI]
  refine⟨.sh (.int (mnI (t.2.1 a) (t.2.1 b))),.sh (.int (mxI (t.2.1 a) (t.2.1 b))),.sh (tupI l'),.sh (tupI u'),?_⟩
  .rw[roB,aG7,ez,z,cA,if_pos rfl,aQ,ex,bK,aQ,ey,bK,aQ,kW,e1,cA]
   simp only[zGv,zGw,bK];rw[aQ,kW,e2,cA];simp only[zGv,zGw,bK];rw[if_pos trivial,er];exact e3
theorem nD:∀{l:List D},(∀d∈l,gR d d=true)->fJ l l=true
 |[],_=>rfl
 |x::l,h=>by
  rw[fJ,h x zAG,nD λ d hd=>h d (zAL _ hd)];rfl
def same_ints(l:List Int):fJ (l.map .int) (l.map .int)=true:=nD λ d hd=>by
 obtain⟨i,_,rfl⟩:=zAX.mp hd;simp[gR]
def aFB(l:gX):fJ (l.map pD) (l.map pD)=true:=nD λ d hd=>by
 obtain⟨i,_,rfl⟩:=zAX.mp hd;simp[pD,gR,fJ]
def aDC(l:gX):dI (l.map pD)=true:=lJ λ d hd=>by
 obtain⟨p,_,rfl⟩:=zAX.mp hd;rfl
def aFD(t:Tr):gR (rwF n t) (rwF n t)=true:=by
 have h1:=same_ints ((upI n).map t.2.1);have h2:=same_ints ((upI n).map t.2.2);have h3:=aFB t.1;unfold rwF ye tupI;simp only[gR,fJ,h1,h2,h3];rfl
def aCe(t:Tr):VL.imm (rwF n t)=true:=by
 have h1:dI (((upI n).map t.2.1).map D.int)=true:=mR _;have h2:dI (((upI n).map t.2.2).map D.int)=true:=mR _;have h3:=aDC t.1;unfold rwF ye tupI;simp only[VL.imm,dI,h1,h2,h3];rfl
abbrev roW(n:Int)(ps:gX)(l:List D)(a b:Int)(lg:List D)(s5 s6 s7 s8 s9 s10 s11:Slot):En:=[.sh (owD n ps),.ow (.lst l),.sh (.int a),.sh (.int b),.ow (.lst lg),s5,s6,s7,s8,s9,s10,s11]
theorem aJk{l:List D}(h:Ow n ps)(ha:0<=a/\a<n)(hb:0<=b/\b<n)(hl:fJ l l=true):∀(L lg:List Tr) (s5 s6 s7 s8 s9 s10 s11:Slot),(∀t∈L,t.1.length<=1000)->lg.length+L.length<100000->
  ∃s5' s6' s7' s8' s9' s10' s11',mU 1 l roG roB (L.map (rwF n)) (roW n ps l a b (lg.map (rwF n)) s5 s6 s7 s8 s9 s10 s11)= .nx (roW n ps l a b ((lg++(L.filter (cnd (a,b))).map (nwT (a,b))).map (rwF n)) s5' s6' s7' s8' s9' s10' s11')
 |[],lg,s5,s6,s7,s8,s9,s10,s11,_,_=>by
  refine⟨s5,s6,s7,s8,s9,s10,s11,?_⟩;have o:rZ 1 l (roW n ps l a b (lg.map (rwF n)) s5 s6 s7 s8 s9 s10 s11)=true:=hl;rw[zEB];unfold mU;rw[if_pos o];simp
 |t::L,lg,s5,s6,s7,s8,s9,s10,s11,h1,h3=>by
  rw[zA6]at h3;obtain⟨t8,t9,t10,t11,e⟩:=aKm (t:=t) (s1:=.ow (.lst l)) (lg:=lg.map (rwF n)) (s8:=s8) (s9:=s9) (s10:=s10) (s11:=s11) h ha hb (by rw[zAD];lia) (h1 t zAG);have el:lg.map (rwF n)++(if cnd (a,b) t=true then[rwF n (nwT (a,b) t)]else[])=(lg++(if cnd (a,b) t=true then[nwT (a,b) t]else[])).map (rwF n):=by
   split<;>simp
  rw[el]at e;obtain⟨u5,u6,u7,u8,u9,u10,u11,e2⟩:=aJk h ha hb hl L (lg++(if cnd (a,b) t=true then[nwT (a,b) t]else[])) (.sh (.tup (t.1.map pD))) (.sh (tupI ((upI n).map t.2.1))) (.sh (tupI ((upI n).map t.2.2))) t8 t9 t10 t11 (λ d hd=>h1 d (zAL _ hd)) (by rw[zAT];split<;>simp<;>lia);refine⟨u5,u6,u7,u8,u9,u10,u11,?_⟩;have o:rZ 1 l (roW n ps l a b (lg.map (rwF n)) s5 s6 s7 s8 s9 s10 s11)=true:=hl;have g:roG (rwF n t) (roW n ps l a b (lg.map (rwF n)) s5 s6 s7 s8 s9 s10 s11)= .ok (roV n ps (.ow (.lst l)) a b (lg.map (rwF n)) t s8 s9 s10 s11):=by simp[roG,rwF,ye]
  rw[zAE];unfold mU;rw[if_pos o,g];dsimp only;rw[e];dsimp only;have ef:(lg++(if cnd (a,b) t=true then[nwT (a,b) t]else[]))++(L.filter (cnd (a,b))).map (nwT (a,b))=lg++((t::L).filter (cnd (a,b))).map (nwT (a,b)):=by
   rw[zAx];split<;>simp
  rw[e2,ef]
abbrev roE(n:Int)(ps:gX)(L:List Tr)(s2 s3 s4 s5 s6 s7 s8 s9 s10 s11:Slot):En:=[.sh (owD n ps),.ow (.lst (L.map (rwF n))),s2,s3,s4,s5,s6,s7,s8,s9,s10,s11]
def aKj(h:Ow n ps)(ha:0<=a/\a<n)(hb:0<=b/\b<n)(hl:∀t∈L,t.1.length<=1000)(hz:L.length<=40000){s4:Slot}:
  ∃s4' s5' s6' s7' s8' s9' s10' s11',roO (roE n ps L (.sh (.int a)) (.sh (.int b)) s4 s5 s6 s7 s8 s9 s10 s11)= .nx (roE n ps (L++(L.filter (cnd (a,b))).map (nwT (a,b))) (.sh (.int a)) (.sh (.int b)) s4' s5' s6' s7' s8' s9' s10' s11'):=by
 obtain⟨t5,t6,t7,t8,t9,t10,t11,e⟩:=aJk (l:=L.map (rwF n)) h ha hb (nD λ d hd=>by obtain⟨t,_,rfl⟩:=zAX.mp hd;exact aFD t) L [] s5 s6 s7 s8 s9 s10 s11 hl (by simp;lia);have hf:=zCP (cnd (a,b)) L;have c1:j7 4 (iY aK) (roE n ps L (.sh (.int a)) (.sh (.int b)) s4 s5 s6 s7 s8 s9 s10 s11)= .nx (roW n ps (L.map (rwF n)) a b [] s5 s6 s7 s8 s9 s10 s11):=by simp
 have c2:aJG 1 roG roB (roW n ps (L.map (rwF n)) a b [] s5 s6 s7 s8 s9 s10 s11)= .nx (roW n ps (L.map (rwF n)) a b (((L.filter (cnd (a,b))).map (nwT (a,b))).map (rwF n)) t5 t6 t7 t8 t9 t10 t11):=by
  show(if dI (L.map (rwF n))=true then mU 1 (L.map (rwF n)) roG roB (L.map (rwF n)) (roW n ps (L.map (rwF n)) a b [] s5 s6 s7 s8 s9 s10 s11)else .st)=_
  rw[if_pos (lJ λ d hd=>by obtain⟨t,_,rfl⟩:=zAX.mp hd;exact aCe t)];exact e
 have c3:aJM 1 4 (roW n ps (L.map (rwF n)) a b (((L.filter (cnd (a,b))).map (nwT (a,b))).map (rwF n)) t5 t6 t7 t8 t9 t10 t11)= .nx (roW n ps (L.map (rwF n)++((L.filter (cnd (a,b))).map (nwT (a,b))).map (rwF n)) a b (((L.filter (cnd (a,b))).map (nwT (a,b))).map (rwF n)) t5 t6 t7 t8 t9 t10 t11):=by
  show(if (L.map (rwF n)).length+(((L.filter (cnd (a,b))).map (nwT (a,b))).map (rwF n)).length<=zAK/\dI (((L.filter (cnd (a,b))).map (nwT (a,b))).map (rwF n))=true then Ou.nx (roW n ps (L.map (rwF n)++((L.filter (cnd (a,b))).map (nwT (a,b))).map (rwF n)) a b (((L.filter (cnd (a,b))).map (nwT (a,b))).map (rwF n)) t5 t6 t7 t8 t9 t10 t11)else .st)=_
  rw[if_pos ⟨by rw[szl,zAD,zAD,zAD];lia,lJ λ d hd=>by obtain⟨t,_,rfl⟩:=zAX.mp hd;exact aCe t⟩]
 refine⟨.ow (.lst (((L.filter (cnd (a,b))).map (nwT (a,b))).map (rwF n))),t5,t6,t7,t8,t9,t10,t11,?_⟩;rw[roO,aQ,c1,bK,aQ,c2,bK,c3,<-zAc]
def iH(ps:gX)(p:Int×Int):bh (ps++[p])=bh ps++((bh ps).filter (cnd p)).map (nwT p):=by
 unfold bh;rw[zDc];rfl
def snoc_ind{α:Type}{P:List α->Prop}(h0:P [])(h1:∀l a,P l->P (l++[a]))(l:List α):P l:=by
 have:∀k (l:List α),l.length=k->P l:=by
  intro k;induction k with
  |zero=>exact λ l e=>by rw[zBP.mp e];exact h0
  |succ k ih=>
   intro l e;rcases zG2 l with rfl|⟨l',a,rfl⟩
   .exact h0
   .rw[zG0]at e ⊢
    rw[zAT,zAt]at e;exact h1 l' a (ih l' (by lia))
 exact this _ l rfl
def qC(ps:gX):(bh ps).length<=2^ps.length/\∀t∈bh ps,t.1.length<=ps.length:=by
 induction ps using snoc_ind with
 |h0=>exact⟨by simp[bh],λ t ht=>by
  rw[zA3.mp ht];exact zAP _⟩
 |h1 l a ih=>
  rw[iH];have hf:=zCP (cnd a) (bh l);refine⟨by rw[zAT,zAD,zAT,zAt,zGa];have:=ih.1;lia,λ t ht=>?_⟩;rw[zAT,zAt];rcases zAp.mp ht with z|z
  .have:=ih.2 t z;lia
  .obtain⟨s,hs,rfl⟩:=zAX.mp z
   have:=ih.2 s (zAV.mp hs).1
   simp[nwT];lia
def rwD(qs:gX):D:=.tup (qs.map pD)
def aAa(h:Ow n ps)(hn:n<=12)(hps:ps.length<=15):jC [owD n ps]= .ok (.lst ((bh ps).map λ t=>rwD t.1)):=by
 have hn0:=h.n0;have st:ao 12 [owD n ps]=[.sh (owD n ps),.no,.no,.no,.no,.no,.no,.no,.no,.no,.no,.no]:=rfl;have hx:ixD (owD n ps) (.int 0)= .ok (.int n):=by simp[owD]
 obtain⟨N,rfl⟩:∃N:Nat,n=N:=⟨n.toNat,(zBF hn0).symm⟩
 have hi0:rwF N ([],id,λ _=>0)= .tup [.tup [],tupI (upI N),tupI (zAO N 0)]:=by
  unfold rwF ye;rw[List.map_id]
  have:(upI N).map (λ _=>(0:Int))=zAO N 0:=by
   rw[zH9,iT];rfl
  rw[this];rfl
 have c1:j7 1 (iY (aD (cO (aD (cO aK) (aD (trD (op2 ixD (aB 0) (cD (.int 0)))) (aD (op2 aBs (cO (aD (cD (.int 0)) aK)) (bG (op2 ixD (aB 0) (cD (.int 0))))) aK)))) aK)) [.sh (owD N ps),.no,.no,.no,.no,.no,.no,.no,.no,.no,.no,.no]= .nx (roE N ps (bh []) .no .no .no .no .no .no .no .no .no .no):=by
  have t1:trD (op2 ixD (aB 0) (cD (.int 0))) [.sh (owD N ps),.no,.no,.no,.no,.no,.no,.no,.no,.no,.no,.no]= .ok (tupI (upI N)):=by
   have v:op2 ixD (aB 0) (cD (.int 0)) [.sh (owD N ps),.no,.no,.no,.no,.no,.no,.no,.no,.no,.no,.no]= .ok (.int N):=by simp[hx]
   unfold trD;rw[v,aj];unfold trR;dsimp only;rw[if_pos (by lia),aBd,tupI]
  have t2:aBs (.tup [.int 0]) (.int N)= .ok (tupI (zAO N 0)):=by
   have:N=0\/N=1\/N=2\/N=3\/N=4\/N=5\/N=6\/N=7\/N=8\/N=9\/N=10\/N=11\/N=12:=by lia
   rcases this with rfl|rfl|rfl|rfl|rfl|rfl|rfl|rfl|rfl|rfl|rfl|rfl|rfl<;>simp[aBs,aI7,zCN,tupI,zAO]
  show _=Ou.nx [.sh (owD N ps),.ow (.lst [rwF N ([],id,λ _=>0)]),.no,.no,.no,.no,.no,.no,.no,.no,.no,.no];rw[hi0];simp[t1,t2,hx]
 have hi:gW (op2 ixD (aB 0) (cD (.int 1))) (roE N ps (bh []) .no .no .no .no .no .no .no .no .no .no)= .ok (ps.map pD):=by simp[owD]
 obtain⟨Y',e,s2,s3,s4,s5,s6,s7,s8,s9,s10,s11,rfl⟩:=gY (ds:=ps.map pD) (a:=iB 2 (bI (gnm 2) (bI (gnm 3) iZ))) (u:=roO) (Y:=roE N ps (bh []) .no .no .no .no .no .no .no .no .no .no)
  (λ i Y=>∃(s2 s3 s4 s5 s6 s7 s8 s9 s10 s11:Slot),Y=roE N ps (bh (ps.take i)) s2 s3 s4 s5 s6 s7 s8 s9 s10 s11) (by
   rintro i d Y hd ⟨s2,s3,s4,s5,s6,s7,s8,s9,s10,s11,rfl⟩;rw[zAZ]at hd;cases ep:ps[i]? with
   |none=>rw[ep]at hd;cases hd
   |some p=>
    rw[ep]at hd;cases hd;obtain⟨a0,a1,b0,b1,_⟩:=h.pr p (zAg ep);obtain⟨r1,r2⟩:=qC (ps.take i);have hle:2^(ps.take i).length<=2^15:=zAr (by decide) (by rw[zBk];lia);have hlt:(ps.take i).length<=15:=by rw[zBk];lia
    obtain⟨t4,t5,t6,t7,t8,t9,t10,t11,e⟩:=aKj (L:=bh (ps.take i)) (s4:=s4) (s5:=s5) (s6:=s6) (s7:=s7) (s8:=s8) (s9:=s9) (s10:=s10) (s11:=s11) h ⟨a0,a1⟩ ⟨b0,b1⟩ (λ t ht=>by have:=r2 t ht;lia) (by lia);refine⟨_,by simp[pD];exact e,.sh (.int p.1),.sh (.int p.2),t4,t5,t6,t7,t8,t9,t10,t11,?_⟩;rw[zCr,ep];show _=roE N ps (bh (ps.take i++[p])) _ _ _ _ _ _ _ _ _ _;rw[iH]) ⟨_,_,_,_,_,_,_,_,_,_,rfl⟩
 rw[zCJ (by rw[zAD];exact zAP _)]at e;have hle:2^ps.length<=2^15:=zAr (by decide) hps;have hrl:=(qC ps).1;have eR:roR (roE N ps (bh ps) s2 s3 s4 s5 s6 s7 s8 s9 s10 s11)= .ok (.lst ((bh ps).map λ t=>rwD t.1)):=by
  refine lH (ds:=(bh ps).map (rwF N)) (by simp[shE,q9]) (by rw[zAD];lia) (mK (bh ps) λ t hm=>⟨[.sh (rwF N t)],rfl,?_⟩);have i1:=aDC t.1;simp[rwF,ye,aCM,imm,i1,rwD]
 simp only[jC,fZ,bO,st];rw[aQ,c1,bK,aQ,iD,hi,cA,e,bK,kj,eR];rfl
end
section
variable{n:Int}{ps:gX}
theorem mW{α:Type}{P Q:α->Bool}:∀{l:List α},(∀x∈l,¬(P x=true/\Q x=true))->(l.filter λ x=>P x||Q x).length=(l.filter P).length+(l.filter Q).length
 |[],_=>rfl
 |x::l,h=>by
  have ih:=mW λ y hy=>h y (zAL _ hy)
  have hx:=h x zAG;cases c1:P x<;>cases c2:Q x<;>simp[c1,c2]at hx ⊢<;>lia
def nq(lf:Int->Int)(qs:gX)(v:Int):Nat:=(qs.filter λ q=>decide (lf q.1=v)).length
def nc(n:Int)(lf:Int->Int)(v:Int):Nat:=((upI n).filter λ z=>decide (lf z=v)).length
structure RI(n:Int)(t:Tr):Prop where
 inn:∀q∈t.1,(0<=q.1/\q.1<n)/\(0<=q.2/\q.2<n)
 u:∀x,t.2.2 x=(dgr t.1 x:Int)
 l:∀q∈t.1,t.2.1 q.1=t.2.1 q.2
 c:∀x,0<=x->x<n->nq t.2.1 t.1 (t.2.1 x)+1=nc n t.2.1 (t.2.1 x)
def m6(F:gX)(p:Int×Int)(x:Int):dgr (F++[p]) x=dgr F x+(if x=p.1\/x=p.2 then 1 else 0):=by
 unfold dgr;rw[zBn,zAT,zAx];by_cases c:x=p.1\/x=p.2
 .rw[if_pos (by rcases c with c|c<;>simp[c]),if_pos c]
  simp
 .rw[if_neg (by rw[not_or]at c;simp[zC0 c.1,zC0 c.2]),if_neg c]
  simp
def RI.step(R:RI n t)(hp:(0<=p.1/\p.1<n)/\(0<=p.2/\p.2<n))(hc:cnd p t=true):RI n (nwT p t):=by
 obtain⟨qs,lf,uf⟩:=t;simp only[cnd,zAC,decide_eq_true_eq,zCX,decide_eq_false_iff_not]at hc;obtain⟨h1,h2,h3⟩:=hc;obtain⟨lo,hlo⟩:∃lo,lo=mnI (lf p.1) (lf p.2):=⟨_,rfl⟩
 obtain⟨hi,hhi⟩:∃hi,hi=mxI (lf p.1) (lf p.2):=⟨_,rfl⟩
 have hne:lo≠hi:=by
  rw[hlo,hhi];rcases oA (lf p.1) (lf p.2)with ⟨e1,e2⟩|⟨e1,e2⟩<;>rw[e1,e2]
  .exact h3
  .exact zC0 h3
 have hab:(lf p.1=lo/\lf p.2=hi)\/(lf p.1=hi/\lf p.2=lo):=by
  rw[hlo,hhi];rcases oA (lf p.1) (lf p.2)with ⟨e1,e2⟩|⟨e1,e2⟩
  .exact .inl ⟨e1.symm,e2.symm⟩
  .exact .inr ⟨e2.symm,e1.symm⟩
 have ca:=R.c p.1 hp.1.1 hp.1.2;have cb:=R.c p.2 hp.2.1 hp.2.2;dsimp only at ca cb;have clo:nq lf qs lo+1=nc n lf lo:=by
  rcases hab with ⟨e1,e2⟩|⟨e1,e2⟩
  .rw[<-e1];exact ca
  .rw[<-e2];exact cb
 have chi:nq lf qs hi+1=nc n lf hi:=by
  rcases hab with ⟨e1,e2⟩|⟨e1,e2⟩
  .rw[<-e2];exact cb
  .rw[<-e1];exact ca
 have lab:∀z,(if lf z=hi then lo else lf z)=lo↔lf z=lo\/lf z=hi:=λ z=>by
  split
  .rename_i e
   exact⟨λ _=>.inr e,λ _=>rfl⟩
  .rename_i e
   exact⟨.inl,λ q=>q.resolve_right e⟩
 have labv:∀z v,v≠lo->v≠hi->((if lf z=hi then lo else lf z)=v↔lf z=v):=λ z v h1 h2=>by
  split
  .rename_i e
   exact⟨λ q=>absurd q.symm h1,λ q=>absurd (q.symm.trans e) h2⟩
  .exact Iff.rfl
 have nohi:∀z,(if lf z=hi then lo else lf z)≠hi:=λ z=>by
  split
  .exact hne
  .assumption
 have pl:(if lf p.1=hi then lo else lf p.1)=lo:=(lab p.1).mpr (hab.elim (λ z=>.inl z.1) λ z=>.inr z.1);have pl2:(if lf p.2=hi then lo else lf p.2)=lo:=(lab p.2).mpr (hab.elim (λ z=>.inr z.2) λ z=>.inl z.2);refine⟨λ q hq=>?_,λ x=>?_,λ q hq=>?_,λ x x0 x1=>?_⟩
 .rcases zAp.mp hq with z|z
  .exact R.inn q z
  .rw[zA3.mp z];exact hp
 .have:=R.u x
  dsimp only at this;show uf x+(if x=p.1\/x=p.2 then 1 else 0)=(dgr (qs++[p]) x:Int);rw[m6,this];split<;>simp
 .show(if lf q.1=mxI (lf p.1) (lf p.2)then mnI (lf p.1) (lf p.2)else lf q.1)=(if lf q.2=mxI (lf p.1) (lf p.2)then mnI (lf p.1) (lf p.2)else lf q.2)
  rw[<-hlo,<-hhi];rcases zAp.mp hq with z|z
  .have:=R.l q z
   dsimp only at this;rw[this]
  .rw[zA3.mp z,pl,pl2]
 .show nq (λ z=>if lf z=mxI (lf p.1) (lf p.2)then mnI (lf p.1) (lf p.2)else lf z) (qs++[p]) (if lf x=mxI (lf p.1) (lf p.2)then mnI (lf p.1) (lf p.2)else lf x)+1=nc n (λ z=>if lf z=mxI (lf p.1) (lf p.2)then mnI (lf p.1) (lf p.2)else lf z) (if lf x=mxI (lf p.1) (lf p.2)then mnI (lf p.1) (lf p.2)else lf x)
  rw[<-hlo,<-hhi];have hv:=nohi x;have hw:(if lf x=hi then lo else lf x)=lo\/(if lf x=hi then lo else lf x)=lf x:=by
   split
   .exact .inl rfl
   .exact .inr rfl
  have cx:=R.c x x0 x1;dsimp only at cx;generalize (if lf x=hi then lo else lf x)=w at hv hw ⊢;unfold nq nc at*;rw[zBn,zAT];by_cases c:w=lo
  .subst c
   have e1:(qs.filter λ q=>decide ((if lf q.1=hi then w else lf q.1)=w))=qs.filter λ q=>decide (lf q.1=w)||decide (lf q.1=hi):=zBG λ q _=>by
    rw[zCe,decide_eq_true_eq,zCO,decide_eq_true_eq,decide_eq_true_eq];exact lab q.1
   have e2:((upI n).filter λ z=>decide ((if lf z=hi then w else lf z)=w))=(upI n).filter λ z=>decide (lf z=w)||decide (lf z=hi):=zBG λ z _=>by
    rw[zCe,decide_eq_true_eq,zCO,decide_eq_true_eq,decide_eq_true_eq];exact lab z
   have no:∀z:Int,¬(decide (lf z=w)=true/\decide (lf z=hi)=true):=λ z q=>by
    rw[decide_eq_true_eq,decide_eq_true_eq]at q;exact hne (q.1.symm.trans q.2)
   rw[e1,e2,mW λ q _=>no q.1,mW λ z _=>no z,zAx,if_pos (decide_eq_true pl)];simp only[zFL,zA6,zBQ];lia
  .have hwx:=hw.resolve_left c
   have e1:(qs.filter λ q=>decide ((if lf q.1=hi then lo else lf q.1)=w))=qs.filter λ q=>decide (lf q.1=w):=zBG λ q _=>by
    rw[zCe,decide_eq_true_eq,decide_eq_true_eq];exact labv q.1 w c hv
   have e2:((upI n).filter λ z=>decide ((if lf z=hi then lo else lf z)=w))=(upI n).filter λ z=>decide (lf z=w):=zBG λ z _=>by
    rw[zCe,decide_eq_true_eq,decide_eq_true_eq];exact labv z w c hv
   rw[e1,e2,zAx,if_neg (by rw[decide_eq_true_eq];exact λ e=>c (e.symm.trans pl)),hwx];simp only[zFL,zBQ];exact cx
def uB(hp:∀p∈ps,(0<=p.1/\p.1<n)/\(0<=p.2/\p.2<n)):∀t∈bh ps,RI n t/\t.1.Sublist ps/\∀x,dgr t.1 x<=2:=by
 induction ps using snoc_ind with
 |h0=>
  intro t ht;rw[zA3.mp ht];refine⟨⟨λ q hq=>(nomatch hq),λ x=>rfl,λ q hq=>(nomatch hq),λ x x0 x1=>?_⟩,zDz _,λ x=>zAj _⟩;show 0+1=nc n id x;unfold nc;have h1:(upI n).filter (λ z=>decide (id z=x))=[x]:=by
   have nd:=(pR n).filter λ z=>decide (id z=x)
   have hm:∀z,z∈(upI n).filter (λ z=>decide (id z=x))↔z∈[x]:=λ z=>by
    rw[zAV,zA3,decide_eq_true_eq,fP];exact⟨λ q=>q.2,λ q=>⟨by rw[q];exact⟨x0,x1⟩,q⟩⟩
   exact zGm.mp ((zAl nd (by simp)).mpr hm)
  rw[h1];rfl
 |h1 l a ih=>
  intro t ht;have hl:∀p∈l,(0<=p.1/\p.1<n)/\(0<=p.2/\p.2<n):=λ p h=>hp p (zA4 _ h)
  rw[iH]at ht;rcases zAp.mp ht with z|z
  .obtain⟨h1,h2,h3⟩:=ih hl t z
   exact⟨h1,h2.trans (List.sublist_append_left _ _),h3⟩
  .obtain⟨s,hs,rfl⟩:=zAX.mp z
   obtain⟨hs1,hs2⟩:=zAV.mp hs;obtain⟨h1,h2,h3⟩:=ih hl s hs1;refine⟨h1.step (hp a (by simp)) hs2,h2.append (zDz _),λ x=>?_⟩;show dgr (s.1++[a]) x<=2;rw[m6];simp only[cnd,zAC,decide_eq_true_eq]at hs2;obtain⟨c1,c2,_⟩:=hs2;rw[h1.u]at c1 c2;split
   .rename_i e
    rcases e with rfl|rfl<;>lia
   .have:=h3 x;lia
def aFH(hp:∀p∈ps,(0<=p.1/\p.1<n)/\(0<=p.2/\p.2<n))(nd:ps.Nodup):∀sub:gX,sub.Sublist ps->Ac sub->(∀x,dgr sub x<=2)->∃t∈bh ps,t.1=sub:=by
 induction ps using snoc_ind with
 |h0=>
  intro sub hs _ _;rw[List.sublist_nil.mp hs];exact⟨_,zA3.mpr rfl,rfl⟩
 |h1 l a ih=>
  intro sub hs A hd;have hl:∀p∈l,(0<=p.1/\p.1<n)/\(0<=p.2/\p.2<n):=λ p h=>hp p (zA4 _ h)
  have ih:=ih hl (zBM.mp nd).1;rw[iH];obtain⟨s1,s2,rfl,h1,h2⟩:=List.sublist_append_iff.mp hs;have h2':s2=[]\/s2=[a]:=by
   cases s2 with
   |nil=>exact .inl rfl
   |cons b r=>
    right;have hl:=h2.length_le;have hm:=h2.subset zAG;rw[zA6,zAt]at hl;rw[zBP.mp (show r.length=0 by lia),zA3.mp hm]
  rcases h2' with rfl|rfl
  .rw[zBB]at hd A ⊢
   obtain⟨t,ht,e⟩:=ih s1 h1 A hd;exact⟨t,zA4 _ ht,e⟩
  .have hd1:∀x,dgr s1 x<=2:=λ x=>by
    have:=hd x
    rw[m6]at this;lia
   have A1:Ac s1:=λ S nd ne=>by
    have:=A S nd ne
    unfold inN at this ⊢;rw[zBn,zAT]at this;lia
   obtain⟨t,ht,rfl⟩:=ih s1 h1 A1 hd1;obtain⟨R,_,_⟩:=uB hl t ht;have ha:=hp a (by simp);refine⟨nwT a t,zA9 _ (zAX.mpr ⟨t,zAV.mpr ⟨ht,?_⟩,rfl⟩),rfl⟩;simp only[cnd,zAC,decide_eq_true_eq,zCX,decide_eq_false_iff_not];have d1:=hd a.1;have d2:=hd a.2;rw[m6,if_pos (.inl rfl)]at d1;rw[m6,if_pos (.inr rfl)]at d2;refine⟨by rw[R.u];lia,by rw[R.u];lia,λ e=>?_⟩;have c:=R.c a.1 ha.1.1 ha.1.2;have hS:=A ((upI n).filter λ z=>decide (t.2.1 z=t.2.1 a.1)) ((pR n).filter _) (zDZ (zAV.mpr ⟨fP.mpr ha.1,by simp⟩));have hN:((t.1.filter λ q=>decide (t.2.1 q.1=t.2.1 a.1))++[a]).Nodup:=((nd.sublist hs).sublist ((zDQ (p:=λ q:Int×Int=>decide (t.2.1 q.1=t.2.1 a.1))).append (zDz _)));have hm:=jX (m:=(t.1++[a]).filter λ p=>decide (p.1∈(upI n).filter λ z=>decide (t.2.1 z=t.2.1 a.1))&&decide (p.2∈(upI n).filter λ z=>decide (t.2.1 z=t.2.1 a.1))) hN λ q hq=>by
    rw[zAV,zAC,decide_eq_true_eq,decide_eq_true_eq,zAV,zAV,decide_eq_true_eq,decide_eq_true_eq,fP,fP];rcases zAp.mp hq with z|z
    .obtain⟨z1,z2⟩:=zAV.mp z
     rw[decide_eq_true_eq]at z2
     have:=R.inn q z1
     exact⟨zA4 _ z1,⟨this.1,z2⟩,this.2,by rw[<-R.l q z1];exact z2⟩
    .rw[zA3.mp z]
     exact⟨by simp,⟨ha.1,rfl⟩,ha.2,e.symm⟩
   unfold inN at hS;unfold nq nc at c;rw[zAT,zAt]at hm;lia
def aHr(hp:∀p∈ps,(0<=p.1/\p.1<n)/\(0<=p.2/\p.2<n)):∀t∈bh ps,Ac t.1:=by
 induction ps using snoc_ind with
 |h0=>
  intro t ht S nd ne;rw[zA3.mp ht];show 0+1<=S.length
  have:=zBE.mpr ne
  lia
 |h1 l a ih=>
  intro t ht;have hl:∀p∈l,(0<=p.1/\p.1<n)/\(0<=p.2/\p.2<n):=λ p h=>hp p (zA4 _ h)
  rw[iH]at ht;rcases zAp.mp ht with z|z
  .exact ih hl t z
  .obtain⟨s,hs,rfl⟩:=zAX.mp z
   obtain⟨hs1,hs2⟩:=zAV.mp hs;have A:=ih hl s hs1;obtain⟨R,_,_⟩:=uB hl s hs1;simp only[cnd,zAC,decide_eq_true_eq,zCX,decide_eq_false_iff_not]at hs2;have hne:=hs2.2.2;intro S nd ne;show inN S (s.1++[a])+1<=S.length;unfold inN;rw[zBn,zAT];by_cases c:a.1∈S/\a.2∈S
   .have n1:S.filter (λ z=>decide (s.2.1 z=s.2.1 a.1))≠[]:=zDZ (zAV.mpr ⟨c.1,by simp⟩)
    have n2:S.filter (λ z=>!decide (s.2.1 z=s.2.1 a.1))≠[]:=zDZ (zAV.mpr ⟨c.2,by simpa using λ e=>hne e.symm⟩);have h1:=A _ (nd.filter _) n1;have h2:=A _ (nd.filter _) n2;have hS:S.length=(S.filter (λ z=>decide (s.2.1 z=s.2.1 a.1))).length+(S.filter (λ z=>!decide (s.2.1 z=s.2.1 a.1))).length:=by
     rw[<-mW λ x _ q=>by simp at q,zB0.mpr λ x _=>by cases decide (s.2.1 x=s.2.1 a.1)<;>rfl]
    have hq:(s.1.filter λ p=>decide (p.1∈S)&&decide (p.2∈S)).length=inN (S.filter (λ z=>decide (s.2.1 z=s.2.1 a.1))) s.1+inN (S.filter (λ z=>!decide (s.2.1 z=s.2.1 a.1))) s.1:=by
     unfold inN;rw[<-mW λ x _ q=>by simp at q;exact q.2.1.2 q.1.1.2];congr 1;refine zBG λ p hp=>?_
     have e:=R.l p hp;simp only[zAV,decide_eq_true_eq,<-e];by_cases c1:p.1∈S<;>by_cases c2:p.2∈S<;>by_cases c3:s.2.1 p.1=s.2.1 a.1<;>simp[c1,c2,c3]
    rw[hq];simp only[zAx,c.1,c.2,decide_true,Bool.and_self,if_true,zFL,zA6,zBQ];lia
   .have h1:=A S nd ne
    unfold inN at h1
    have:([a].filter λ p=>decide (p.1∈S)&&decide (p.2∈S))=[]:=by
     rw[zAx,if_neg (by simpa using c)];rfl
    rw[this];simpa using h1
end
def cpL:List Int->List (Int×Int)
 |x::y::r=>(mnI x y,mxI x y)::cpL (y::r)
 |_=>[]
theorem zT:∀w:List Int,(cpL w).length=w.length-1
 |[]=>rfl
 |[_]=>rfl
 |x::y::r=>by
  have:=zT (y::r)
  rw[cpL,zA6,this];simp
def aL6{a b x:Int}:(mnI a b=x\/mxI a b=x)↔a=x\/b=x:=by
 rcases oA a b with ⟨h1,h2⟩|⟨h1,h2⟩
 .rw[h1,h2]
 .rw[h1,h2,or_comm]
theorem gk:∀{w:List Int} {p:Int×Int},p∈cpL w->p.1∈w/\p.2∈w
 |x::y::r,p,h=>by
  rw[cpL]at h;rcases zAN.mp h with rfl|h
  .dsimp only
   rcases oA x y with ⟨h1,h2⟩|⟨h1,h2⟩
   .rw[h1,h2];simp
   .rw[h1,h2];simp
  .have:=gk h
   exact⟨zAL _ this.1,zAL _ this.2⟩
theorem jm:∀{w:List Int},w.Nodup->(cpL w).Nodup
 |[],_=>zC3
 |[_],_=>zC3
 |x::y::r,h=>by
  rw[cpL];obtain⟨h1,h2⟩:=zA5.mp h;refine zA5.mpr ⟨λ z=>h1 ?_,jm h2⟩
  have:=gk z
  rcases oA x y with ⟨e1,e2⟩|⟨e1,e2⟩
  .rw[<-e1];exact this.1
  .rw[<-e2];exact this.2
theorem iG{ps:gX}(low:∀p∈ps,p.1<p.2):∀{w:List Int},bJ (dbl ps) w=true->∀p∈cpL w,p∈ps
 |[],_,p,h=>nomatch h
 |[_],_,p,h=>nomatch h
 |x::y::r,h,p,hp=>by
  rw[bJ,zAC,decide_eq_true_eq]at h;rw[cpL]at hp;rcases zAN.mp hp with rfl|hp
  .rcases bx.mp h.1 with z|z
   .have:=low _ z
    dsimp only at this
    have:mnI x y=x/\mxI x y=y:=by unfold mnI mxI;rw[if_neg (by lia),if_pos (by lia)];exact⟨rfl,rfl⟩
    rw[this.1,this.2];exact z
   .have:=low _ z
    dsimp only at this
    have:mnI x y=y/\mxI x y=x:=by unfold mnI mxI;rw[if_pos (by lia),if_neg (by lia)];exact⟨rfl,rfl⟩
    rw[this.1,this.2];exact z
  .exact iG low h.2 p hp
theorem aKI(S:List Int):∀w:List Int,inN S (cpL w)+(if ∃x∈w,x∈S then 1 else 0)<=(w.filter λ x=>decide (x∈S)).length
 |[]=>by simp[cpL,inN]
 |[x]=>by by_cases c:x∈S<;>simp[cpL,inN,c]
 |x::y::r=>by
  have ih:=aKI S (y::r);have e:inN S (cpL (x::y::r))=inN S (cpL (y::r))+(if x∈S/\y∈S then 1 else 0):=by
   rw[cpL];unfold inN;rw[zAx];dsimp only;rw[aNQ];by_cases c:x∈S/\y∈S
   .rw[if_pos (by simp[c.1,c.2]),if_pos c,zA6]
   .rw[if_neg (by simpa using c),if_neg c]
    rfl
  rw[e,zAx];have ex:(∃z∈x::y::r,z∈S)↔x∈S\/∃z∈y::r,z∈S:=by
   constructor
   .rintro⟨z,h1,h2⟩
    rcases zAN.mp h1 with rfl|h1
    .exact .inl h2
    .exact .inr ⟨z,h1,h2⟩
   .rintro(h|⟨z,h1,h2⟩)
    .exact⟨x,zAG,h⟩
    .exact⟨z,zAL _ h1,h2⟩
  have ey:y∈S->∃z∈y::r,z∈S:=λ h=>⟨y,zAG,h⟩
  simp only[ex];by_cases c:∃z∈y::r,z∈S
  .rw[if_pos c]at ih
   rw[if_pos (show x∈S\/∃z∈y::r,z∈S from .inr c)];by_cases cx:x∈S
   .rw[if_pos (decide_eq_true cx),zA6]
    split<;>lia
   .rw[if_neg (show¬decide (x∈S)=true by simpa using cx),if_neg (show¬(x∈S/\y∈S)from λ z=>cx z.1)]
    exact ih
  .rw[if_neg c]at ih
   rw[if_neg (show¬(x∈S/\y∈S)from λ z=>c (ey z.2))];by_cases cx:x∈S
   .rw[if_pos (decide_eq_true cx),zA6,if_pos (show x∈S\/∃z∈y::r,z∈S from .inl cx)]
    lia
   .rw[if_neg (show¬decide (x∈S)=true by simpa using cx),if_neg (show¬(x∈S\/∃z∈y::r,z∈S)from λ z=>z.elim cx c)]
    exact ih
def aN6{w:List Int}(nd:w.Nodup):Ac (cpL w):=λ S hS ne=>by
 have h1:=aKI S w;have h2:=jX (m:=S) (nd.filter λ x=>decide (x∈S)) λ x hx=>by simpa using(zAV.mp hx).2
 by_cases c:∃x∈w,x∈S
 .rw[if_pos c]at h1
  lia
 .have h3:(w.filter λ x=>decide (x∈S))=[]:=zCp.mpr λ x hx z=>c ⟨x,hx,by simpa using z⟩
  rw[h3]at h1
  have:=zBE.mpr ne
  simp at h1;lia
def aCS(x y:Int)(r:List Int)(z:Int):dgr (cpL (x::y::r)) z=dgr (cpL (y::r)) z+(if x=z\/y=z then 1 else 0):=by
 rw[cpL,aAv];dsimp only;simp only[aL6]
theorem uG:∀{w:List Int} {z:Int},z∉w->dgr (cpL w) z=0
 |[],z,_=>rfl
 |[_],z,_=>rfl
 |x::y::r,z,h=>by
  rw[aCS,uG λ q=>h (zAL _ q),if_neg];rintro(q|q)
  .exact h (by rw[q];exact zAG)
  .exact h (by rw[q];simp)
def v8{x:Int}{r:List Int}(nd:(x::r).Nodup):dgr (cpL (x::r)) x=if r=[]then 0 else 1:=by
 cases r with
 |nil=>rfl
 |cons y r=>
  rw[aCS,uG (zA5.mp nd).1,if_pos (.inl rfl),if_neg (by simp)]
theorem aCQ:∀{r:List Int} {x z:Int} (_:(x::r).Nodup) (h:r≠[]) (_:z∈r),dgr (cpL (x::r)) z=if z=r.getLast h then 1 else 2
 |y::r,x,z,nd,h,hz=>by
  obtain⟨n1,n2⟩:=zA5.mp nd;have hxz:x≠z:=λ e=>n1 (e▸hz)
  rw[aCS];cases r with
  |nil=>
   have:z=y:=by simpa using hz
   subst this;rw[if_pos (.inr rfl),if_pos (show z=[z].getLast h from rfl)];rfl
  |cons v r=>
   rw[List.getLast_cons (by simp)];by_cases c:z=y
   .subst c
    rw[v8 n2,if_neg (by simp),if_pos (.inr rfl),if_neg];intro e;exact(zA5.mp n2).1 (e▸zEu _)
   .have hz2:z∈v::r:=(zAN.mp hz).resolve_left c
    rw[aCQ n2 (by simp) hz2,if_neg (show¬(x=z\/y=z)from λ q=>q.elim hxz λ q=>c q.symm)];rfl
def aJN{w:List Int}(nd:w.Nodup)(z:Int):dgr (cpL w) z<=2:=by
 by_cases hz:z∈w
 .cases w with
  |nil=>cases hz
  |cons x r=>
   by_cases c:r=[]
   .subst c;exact zAj _
   .rcases zAN.mp hz with rfl|hz
    .rw[v8 nd,if_neg c];decide
    .rw[aCQ nd c hz];split<;>decide
 .rw[uG hz];exact zAj _
def aDO{x:Int}{r:List Int}(nd:(x::r).Nodup)(h:r≠[])(z:Int):dgr (cpL (x::r)) z=1↔z=x\/z=r.getLast h:=by
 by_cases hx:z=x
 .subst hx
  rw[v8 nd,if_neg h];simp
 .by_cases hz:z∈r
  .rw[aCQ nd h hz]
   split
   .rename_i c
    simp[c]
   .rename_i c
    simp[c,hx]
  .rw[uG (by simp[hx,hz])]
   constructor
   .intro z;cases z
   .rintro(q|q)
    .exact absurd q hx
    .exact absurd (q▸zEu h) hz
structure Hw(n:Int)(ps:gX)(w:List Int):Prop where
 nd:w.Nodup
 mem:∀x,x∈w↔0<=x/\x<n
 al:bJ (dbl ps) w=true
def aHC:∀g<64,∀p<6,g.testBit p=true->2^p<=g/\∀x<6,(g-2^p).testBit x=(g.testBit x&& !decide (x=p)):=by decide+kernel
def aHB:∀g<64,(∀x<6,g.testBit x=false)->g=0:=by decide+kernel
def aEX:∀k<7,∀x<k,(2^k-1).testBit x=true:=by decide+kernel
def gJ{n:Int}{g:Nat}(hn:n<=6)(hg:g<2^n.toNat):g<64:=by
 have:2^n.toNat<=2^6:=zAr (by decide) (by lia)
 lia
section
variable{n:Int}{ps:gX}{g:Nat}{p:Int}
def nH(hn:n<=6)(hg:g<2^n.toNat)(hp:p∈aV n g):2^p.toNat<=g/\g-2^p.toNat<g/\∀x,x∈aV n (g-2^p.toNat)↔x∈aV n g/\x≠p:=by
 obtain⟨⟨p0,p1⟩,pb⟩:=bF.mp hp;obtain⟨h1,h2⟩:=aHC g (gJ hn hg) p.toNat (by lia) pb;have dA:=zCk p.toNat;refine⟨h1,by lia,λ x=>?_⟩;rw[bF,bF];constructor
 .rintro⟨hx,hb⟩
  rw[h2 x.toNat (by lia),zAC]at hb;refine⟨⟨hx,hb.1⟩,λ z=>?_⟩;rw[z]at hb;simp at hb
 .rintro⟨⟨hx,hb⟩,ne⟩
  refine⟨hx,?_⟩;rw[h2 x.toNat (by lia),hb];simp;lia
def jr(hn:n<=6)(hg:g<2^n.toNat)(h:∀x,x∉aV n g):g=0:=by
 refine aHB g (gJ hn hg) λ x hx=>?_
 cases c:g.testBit x with
 |false=>rfl
 |true=>
  have:=zBJ c
  have hxn:x<n.toNat:=by
   refine zAq λ z=>?_
   have:2^n.toNat<=2^x:=zAr (by decide) (by lia)
   lia
  exact absurd (bF.mpr ⟨⟨by lia,by lia⟩,by simpa using c⟩) (h (x:Int))
def hdL(ps:gX)(r:Nat)(p:Int):List Int:=(eY (dbl ps) p).filter λ h=>r.testBit h.toNat
end
section
variable{n:Int}{ps S:gX}{w v:List Int}
def oX(nd:ps.Nodup)(h:S.Sublist ps):S=ps.filter λ p=>decide (p∈S):=by
 induction h with
 |slnil=>rfl
 |cons a h ih=>
  obtain⟨n1,n2⟩:=zA5.mp nd;rw[zAx,if_neg (by simpa using λ z=>n1 (h.subset z))];exact ih n2
 |cons_cons a h ih=>
  obtain⟨n1,n2⟩:=zA5.mp nd;rw[zAx,if_pos (by simp)];refine congrArg (a::·) ((ih n2).trans (zBG λ x hx=>?_))
  have:x≠a:=λ z=>n1 (z▸hx)
  simp[this]
def j9(hp:∀p∈ps,(0<=p.1/\p.1<n)/\(0<=p.2/\p.2<n))(nd:ps.Nodup):S∈(bh ps).map (·.1)↔S.Sublist ps/\Ac S/\∀x,dgr S x<=2:=by
 rw[zAX];constructor
 .rintro⟨t,ht,rfl⟩
  obtain⟨_,h2,h3⟩:=uB hp t ht;exact⟨h2,aHr hp t ht,h3⟩
 .rintro⟨h1,h2,h3⟩
  exact aFH hp nd S h1 h2 h3
def aBc(hp:∀p∈ps,(0<=p.1/\p.1<n)/\(0<=p.2/\p.2<n))(nd:ps.Nodup):((bh ps).map (·.1)).Nodup:=by
 induction ps using snoc_ind with
 |h0=>simp[bh]
 |h1 l a ih=>
  have hl:∀p∈l,(0<=p.1/\p.1<n)/\(0<=p.2/\p.2<n):=λ p h=>hp p (zA4 _ h)
  obtain⟨n1,_,n3⟩:=zBM.mp nd;have ih:=ih hl n1;rw[iH,zAc,zAU,zBM];refine⟨ih,?_,λ x hx y hy e=>?_⟩
  .have h1:(((bh l).filter (cnd a)).map (·.1)).Nodup:=ih.sublist (zDQ.map _)
   unfold zCY at h1 ⊢;rw[zBH]at h1 ⊢;exact h1.imp λ{s t} z e=>z (List.append_cancel_right e)
  .obtain⟨t,_,rfl⟩:=zAX.mp hy
   obtain⟨s,hs,rfl⟩:=zAX.mp hx;have hs2:=(uB hl s hs).2.1.subset
   have:a∈s.1:=by
    show a∈s.1;rw[e];show a∈t.1++[a];simp
   exact n3 a (hs2 this) a (by simp) rfl
def max_list{P:List Int->Prop}(N:Nat)(hb:∀w,P w->w.length<=N)(h:∃w,P w):∃w,P w/\∀v,P v->v.length<=w.length:=by
 obtain⟨w,hw⟩:=h
 have:∀k w,P w->N-w.length<=k->∃w,P w/\∀v,P v->v.length<=w.length:=by
  intro k;induction k with
  |zero=>exact λ w hw hk=>⟨w,hw,λ v hv=>by have:=hb v hv;have:=hb w hw;lia⟩
  |succ k ih=>
   intro w hw hk;by_cases c:∃v,P v/\w.length<v.length
   .obtain⟨v,hv,hl⟩:=c
    exact ih v hv (by have:=hb v hv;lia)
   .exact⟨w,hw,λ v hv=>zAq λ z=>c ⟨v,hv,by lia⟩⟩
 exact this _ w hw (zAP _)
def Cld(qs:gX)(ws:List Int):Prop:=∀y∈ws,∀z,(y,z)∈dbl qs->z∈ws
def aIi(low:∀p∈S,p.1<p.2)(x:Int):(eY (dbl S) x).length=dgr S x:=by
 unfold eY;rw[zAD];induction S with
 |nil=>rfl
 |cons p qs ih=>
  have h:=low p zAG;rw[vf,aAv,<-ih λ q hq=>low q (zAL _ hq),zAx,zAx];by_cases c1:p.1=x
  .by_cases c2:p.2=x
   .lia
   .simp[c1,c2]
  .by_cases c2:p.2=x
   .simp[c1,c2]
   .simp[c1,c2]
theorem nR{es:gX}:∀{l r:List Int} {x y:Int},bJ es (l++x::y::r)=true->(x,y)∈es
 |[],r,x,y,h=>by
  rw[zCh,bJ,zAC,decide_eq_true_eq]at h;exact h.1
 |[a],r,x,y,h=>by
  rw[zBj,zCh,bJ,zAC]at h;exact nR (l:=[]) h.2
 |a::b::l,r,x,y,h=>by
  rw[zBj,zBj,bJ,zAC]at h;exact nR (l:=b::l) h.2
def aIT(hp:∀p∈S,(0<=p.1/\p.1<n)/\(0<=p.2/\p.2<n))(low:∀p∈S,p.1<p.2)(hd:∀x,dgr S x<=2){a:Int}(ha:0<=a/\a<n):∃w:List Int,w.Nodup/\a∈w/\bJ (dbl S) w=true/\(∀x∈w,0<=x/\x<n)/\Cld S w:=by
 obtain⟨w,⟨h1,h2,h3,h4⟩,mx⟩:=max_list (P:=λ w=>w.Nodup/\a∈w/\bJ (dbl S) w=true/\∀x∈w,0<=x/\x<n) n.toNat (λ w hw=>by
  have:=jX (m:=upI n) hw.1 λ x hx=>fP.mpr (hw.2.2.2 x hx)
  rwa [iT]at this) ⟨[a],by simp,by simp,rfl,λ x hx=>by rw[zA3.mp hx];exact ha⟩
 refine⟨w,h1,h2,h3,h4,λ y hy z hz=>zAq λ zn=>?_⟩;have zin:0<=z/\z<n:=by
  rcases bx.mp hz with q|q
  .exact(hp _ q).2
  .exact(hp _ q).1
 obtain⟨l,r,rfl⟩:=List.append_of_mem hy;cases r with
 |nil=>
  have:=mx ((l++[y])++[z]) ⟨zBM.mpr ⟨h1,by simp,λ x hx u hu e=>zn (by rw[<-zA3.mp hu,<-e];exact hx)⟩,zA4 _ h2,vz (by simp) h3 (by simpa using hz),λ x hx=>by
   rcases zAp.mp hx with q|q
   .exact h4 x q
   .rw[zA3.mp q];exact zin⟩
  rw[zAT,zAt]at this;lia
 |cons u r=>
  rcases zG2 l with rfl|⟨l',t,rfl⟩
  .have:=mx (z::y::u::r) ⟨zA5.mpr ⟨zn,h1⟩,zAL _ h2,by
    rw[bJ,zAC,decide_eq_true_eq];exact⟨nQ S _ _ hz,h3⟩,λ x hx=>by
    rcases zAN.mp hx with rfl|q
    .exact zin
    .exact h4 x q⟩
   rw[zCh,zA6]at this;lia
  .rw[zG0,zCZ]at h1 h3 zn
   have e1:(y,t)∈dbl S:=nQ S _ _ (nR (l:=l') (x:=t) (y:=y) (r:=u::r) h3);have e2:(y,u)∈dbl S:=by
    have:l'++([t]++y::u::r)=(l'++[t])++y::u::r:=by simp
    rw[this]at h3;exact nR h3
   have nd3:[t,u,z].Nodup:=by
    have q:=(zBM.mp h1).2.1;have hx:z≠t/\z≠u:=⟨λ e=>zn (by simp[e]),λ e=>zn (by simp[e])⟩;simp only[zG3,zA5,zAN,not_or]at q;simp only[zA5,zAN,zBl,or_false,not_or,not_false_eq_true,zC3,and_true];exact⟨⟨q.1.2.1,hx.1.symm⟩,hx.2.symm⟩
   have:=jX (m:=eY (dbl S) y) nd3 λ x hx=>by
    simp only[zAN,zBl,or_false]at hx;rcases hx with rfl|rfl|rfl
    .exact gw.mpr e1
    .exact gw.mpr e2
    .exact gw.mpr hz
   rw[aIi low]at this
   have:=hd y
   simp at*;lia
def aMJ(A:Ac S)(nd:S.Nodup)(low:∀p∈S,p.1<p.2)(hw:w.Nodup)(ne:w≠[])(al:bJ (dbl S) w=true):∀p∈S,p.1∈w->p.2∈w->p∈cpL w:=λ p hp h1 h2=>zAq λ z=>by
 have hA:=A w hw ne
 have:=jX (m:=S.filter λ p=>decide (p.1∈w)&&decide (p.2∈w)) (zA5.mpr ⟨z,jm hw⟩) λ q hq=>by
  rw[zAV,zAC,decide_eq_true_eq,decide_eq_true_eq];rcases zAN.mp hq with rfl|hq
  .exact⟨hp,h1,h2⟩
  .exact⟨iG low al q hq,gk hq⟩
 unfold inN at hA;rw[zA6,zT]at this
 have:=zBE.mpr ne
 lia
theorem qU{es:gX}(Sy:Sym es){P:Int->Prop}(hP:∀y z,P y->(y,z)∈es->P z):∀{w:List Int},bJ es w=true->(∃x∈w,P x)->∀y∈w,P y
 |[],_,_,y,hy=>nomatch hy
 |[x],_,⟨z,hz,hp⟩,y,hy=>by rw[zA3.mp hy,<-zA3.mp hz];exact hp
 |x::u::r,h,⟨z,hz,hp⟩,y,hy=>by
  rw[bJ,zAC,decide_eq_true_eq]at h;have hu:P u:=by
   rcases zAN.mp hz with rfl|hz
   .exact hP _ _ hp h.1
   .exact qU Sy hP h.2 ⟨z,hz,hp⟩ u zAG
  rcases zAN.mp hy with rfl|hy
  .exact hP _ _ hu (Sy _ _ h.1)
  .exact qU Sy hP h.2 ⟨u,zAG,hu⟩ y hy
theorem aC1:∀{r s:List Int} {x:Int},(x::r).Nodup->(x::s).Nodup->(cpL (x::r)).Perm (cpL (x::s))->r=s
 |[],[],_,_,_,_=>rfl
 |[],y::s,x,_,_,h=>by have:=h.length_eq;simp[cpL]at this
 |y::r,[],x,_,_,h=>by have:=h.length_eq;simp[cpL]at this
 |y::r,z::s,x,h1,h2,h=>by
  obtain⟨a1,a2⟩:=zA5.mp h1;obtain⟨b1,b2⟩:=zA5.mp h2;have hm:(mnI x y,mxI x y)∈cpL (x::z::s):=h.subset (by rw[cpL];exact zAG);rw[cpL]at hm;have e:y=z:=by
   rcases zAN.mp hm with q|q
   .injection q with q1 q2
    have hxy:x≠y:=λ e=>a1 (e▸zAG)
    rcases oA x y with ⟨e1,e2⟩|⟨e1,e2⟩<;>rcases oA x z with ⟨f1,f2⟩|⟨f1,f2⟩<;>rw[e1,f1]at q1<;>rw[e2,f2]at q2
    .exact q2
    .exact absurd q2.symm hxy
    .exact absurd q1.symm hxy
    .exact q1
   .have:=gk q
    rcases oA x y with ⟨e1,e2⟩|⟨e1,e2⟩
    .rw[e1]at this;exact absurd this.1 b1
    .rw[e2]at this;exact absurd this.2 b1
  subst e;rw[cpL,cpL]at h;rw[aC1 a2 b2 (List.Perm.cons_inv h)]
end
section
variable{n:Int}{ps:gX}
def dpL(ps:gX)(g:Nat)(p:Int):List (List Int):=if h:g-2^p.toNat=0 then[[p]]else(hdL ps (g-2^p.toNat) p).flatMap λ q=>(dpL ps (g-2^p.toNat) q).map (p::·)
termination_by g
decreasing_by
 have:=zCk p.toNat
 lia
def aCO{g:Nat}{p:Int}(h:g-2^p.toNat=0):dpL ps g p=[[p]]:=by
 rw[dpL,dif_pos h]
def zR{g:Nat}{p:Int}(h:g-2^p.toNat≠0):dpL ps g p=(hdL ps (g-2^p.toNat) p).flatMap λ q=>(dpL ps (g-2^p.toNat) q).map (p::·):=by
 rw[dpL,dif_neg h]
structure Wg(n:Int)(ps:gX)(g:Nat)(w:List Int):Prop where
 nd:w.Nodup
 mem:∀x,x∈w↔x∈aV n g
 al:bJ (dbl ps) w=true
def rB(O:Ow n ps)(hn:n<=6):∀(g:Nat),g<2^n.toNat->∀p,p∈aV n g->∀w,w∈dpL ps g p↔Wg n ps g w/\w.head?=some p:=by
 intro g;induction g using zHi with
 |ind g ih=>
  intro hg p hp w;obtain⟨_,hlt,hb⟩:=nH hn hg hp;by_cases hr:g-2^p.toNat=0
  .rw[aCO hr,zA3]
   have one:∀x,x∈aV n g↔x=p:=λ x=>by
    constructor
    .intro hx
     refine zAq λ ne=>?_
     have:=(hb x).mpr ⟨hx,ne⟩
     rw[hr]at this
     have:=(bF.mp this).2
     simp at this
    .rintro rfl;exact hp
   constructor
   .rintro rfl
    exact⟨⟨by simp,λ x=>by rw[one,zA3],rfl⟩,rfl⟩
   .rintro⟨W,h⟩
    cases w with
    |nil=>cases h
    |cons q r=>
     cases h;have hr2:r=[]:=by
      cases r with
      |nil=>rfl
      |cons y r=>
       have:=(one y).mp ((W.mem y).mp (by simp))
       have n1:=(zA5.mp W.nd).1;rw[this]at n1;exact absurd zAG n1
     rw[hr2]
  .rw[zR hr,zCI]
   constructor
   .rintro⟨h,hh,hw⟩
    obtain⟨v,hv,rfl⟩:=zAX.mp hw;obtain⟨k1,k2⟩:=zAV.mp hh;have hbh:h∈aV n (g-2^p.toNat):=bF.mpr ⟨by
     rcases bx.mp (gw.mp k1)with z|z
     .have:=O.pr _ z;exact⟨this.2.2.1,this.2.2.2.1⟩
     .have:=O.pr _ z;exact⟨this.1,this.2.1⟩,k2⟩
    obtain⟨V,hv2⟩:=(ih _ hlt (by lia) h hbh v).mp hv;refine⟨⟨zA5.mpr ⟨λ z=>((hb p).mp ((V.mem p).mp z)).2 rfl,V.nd⟩,λ x=>?_,?_⟩,rfl⟩
    .rw[zAN,V.mem,hb]
     by_cases c:x=p
     .subst c;simp[hp]
     .simp[c]
    .cases v with
     |nil=>rfl
     |cons q r=>
      cases hv2;rw[bJ,zAC,decide_eq_true_eq];exact⟨gw.mp k1,V.al⟩
   .rintro⟨W,h⟩
    cases w with
    |nil=>cases h
    |cons q r=>
     cases h;obtain⟨n1,n2⟩:=zA5.mp W.nd;have hm:∀x,x∈r↔x∈aV n (g-2^p.toNat):=λ x=>by
      rw[hb,<-W.mem,zAN];constructor
      .intro hx;exact⟨.inr hx,λ z=>n1 (z▸hx)⟩
      .rintro⟨z|z,ne⟩
       .exact absurd z ne
       .exact z
     cases r with
     |nil=>exact absurd (jr hn (by lia) λ x hx=>by simpa using(hm x).mpr hx) hr
     |cons h r=>
      have al:=W.al;rw[bJ,zAC,decide_eq_true_eq]at al;have hbh:=(hm h).mp zAG;exact⟨h,zAV.mpr ⟨gw.mpr al.1,(bF.mp hbh).2⟩,zAX.mpr ⟨h::r,(ih _ hlt (by lia) h hbh _).mpr ⟨⟨n2,hm,al.2⟩,rfl⟩,rfl⟩⟩
def qH{α β:Type}{f:α->List β}:∀{l:List α},l.Nodup->(∀a∈l,(f a).Nodup)->(∀a∈l,∀b∈l,a≠b->∀x,x∈f a->x∉f b)->(l.flatMap f).Nodup:=λ{l} nd h1 h2=>by
 unfold zCY;rw[List.pairwise_flatMap];refine⟨h1,zDG ?_ nd⟩;intro a b ha hb ne x hx y hy e;subst e;exact h2 a ha b hb ne x hx hy
def aGp(O:Ow n ps)(low:∀p∈ps,p.1<p.2)(hn:n<=6):∀(g:Nat),g<2^n.toNat->∀p,p∈aV n g->(dpL ps g p).Nodup:=by
 intro g;induction g using zHi with
 |ind g ih=>
  intro hg p hp;obtain⟨_,hlt,hb⟩:=nH hn hg hp;by_cases hr:g-2^p.toNat=0
  .rw[aCO hr];simp
  .rw[zR hr]
   have hin:∀h∈hdL ps (g-2^p.toNat) p,h∈aV n (g-2^p.toNat):=λ h hh=>by
    obtain⟨k1,k2⟩:=zAV.mp hh;exact bF.mpr ⟨by
     rcases bx.mp (gw.mp k1)with z|z
     .have:=O.pr _ z;exact⟨this.2.2.1,this.2.2.2.1⟩
     .have:=O.pr _ z;exact⟨this.1,this.2.1⟩,k2⟩
   refine qH ((rC (bw O) low p).filter _) (λ h hh=>?_) λ h hh k hk ne x hx hy=>?_
   .have:=ih _ hlt (by lia) h (hin h hh)
    unfold zCY at this ⊢;rw[zBH];exact this.imp λ z e=>z (zGt e).2
   .obtain⟨v,hv,rfl⟩:=zAX.mp hx
    obtain⟨u,hu,e⟩:=zAX.mp hy;have e2:=(zGt e).2;subst e2;have h1:=((rB O hn _ (by lia) h (hin h hh) u).mp hv).2;have h2:=((rB O hn _ (by lia) k (hin k hk) u).mp hu).2;rw[h1]at h2;exact ne (zAe h2)
def dgL(n:Int)(ps:gX)(g:Nat):List (List Int):=(aV n g).flatMap (dpL ps g)
def pF(O:Ow n ps)(hn:n<=6){g:Nat}(hg:g<2^n.toNat)(h0:g≠0){w:List Int}:w∈dgL n ps g↔Wg n ps g w:=by
 unfold dgL;rw[zCI];constructor
 .rintro⟨p,hp,h⟩
  exact((rB O hn g hg p hp w).mp h).1
 .intro W
  cases w with
  |nil=>exact absurd (jr hn hg λ x hx=>by simpa using(W.mem x).mpr hx) h0
  |cons p r=>
   have hp:=(W.mem p).mp zAG;exact⟨p,hp,(rB O hn g hg p hp _).mpr ⟨W,rfl⟩⟩
def gG(n:Int)(g:Nat):(aV n g).Nodup:=(pR n).filter _
def aAw(O:Ow n ps)(low:∀p∈ps,p.1<p.2)(hn:n<=6){g:Nat}(hg:g<2^n.toNat):(dgL n ps g).Nodup:=
 qH (gG n g) (λ p hp=>aGp O low hn g hg p hp) λ p hp q hq ne x hx hy=>by
  have h1:=((rB O hn g hg p hp x).mp hx).2;have h2:=((rB O hn g hg q hq x).mp hy).2;rw[h1]at h2;exact ne (zAe h2)
def hdI(w:List Int):Int:=w.head?.getD 0
def laI(w:List Int):Int:=w.getLast?.getD 0
def aCK(w:List Int):hdI w.reverse=laI w:=by unfold hdI laI;rw[List.head?_reverse]
def aCD(w:List Int):laI w.reverse=hdI w:=by unfold hdI laI;rw[List.getLast?_reverse]
def yI{es:gX}{ws:List Int}(S:Sym es)(h:bJ es ws=true):bJ es ws.reverse=true:=by
 rw[rQ]at h ⊢;intro i a b ha hb;have hi:i+1<ws.length:=by
  have:=(zAJ.mp hb).1
  simpa using this
 rw[List.getElem?_reverse (by lia)]at ha hb;refine S _ _ (h (ws.length-1-(i+1)) b a hb ?_);rw[show ws.length-1-(i+1)+1=ws.length-1-i by lia];exact ha
def Wg.rev{g:Nat}{w:List Int}(h:Wg n ps g w):Wg n ps g w.reverse:=⟨(zHN w).nodup_iff.mpr h.nd,λ y=>by rw[zDm];exact h.mem y,yI (nQ ps) h.al⟩
def uL(n:Int)(ps:gX)(g:Nat):List (List Int):=(dgL n ps g).filter λ w=>decide (hdI w<=laI w)
def aKR(O:Ow n ps)(low:∀p∈ps,p.1<p.2)(hn:n<=6){g:Nat}(hg:g<2^n.toNat)(h0:g≠0):((dgL n ps g).length+1) / 2=(uL n ps g).length:=by
 have nd:=aAw O low hn hg;have e1:(dgL n ps g).length=(uL n ps g).length+((dgL n ps g).filter λ w=>decide (laI w<hdI w)).length:=by
  unfold uL;rw[<-mW λ x _ q=>by simp at q;lia,zB0.mpr λ w _=>by simp;lia]
 by_cases c:∃w∈dgL n ps g,hdI w=laI w
 .obtain⟨w,hw,e⟩:=c
  have W:=(pF O hn hg h0).mp hw;have hx:∃x,w=[x]:=by
   cases w with
   |nil=>exact absurd (jr hn hg λ x hx=>by simpa using(W.mem x).mpr hx) h0
   |cons x r=>
    by_cases z:r=[]
    .subst z;exact⟨x,rfl⟩
    .exfalso
     have h2:laI (x::r)=r.getLast z:=by unfold laI;rw[zEd,zDD z];rfl
     rw[h2]at e;exact(zA5.mp W.nd).1 (by show x∈r;rw[show x=r.getLast z from e];exact zEu z)
  obtain⟨x,rfl⟩:=hx;have all:∀v∈dgL n ps g,v=[x]:=λ v hv=>by
   have V:=(pF O hn hg h0).mp hv
   have:v.Perm [x]:=(zAl V.nd W.nd).mpr λ y=>by rw[V.mem,W.mem]
   exact zGm.mp this
  have e2:((dgL n ps g).filter λ w=>decide (laI w<hdI w))=[]:=zCp.mpr λ v hv=>by rw[all v hv];simp[hdI,laI]
  have e3:(dgL n ps g).length<=1:=jX (m:=[[x]]) nd λ v hv=>by rw[all v hv];simp
  have e4:0<(dgL n ps g).length:=zGN hw;rw[e2]at e1;simp at e1;lia
 .have e2:(uL n ps g).length=((dgL n ps g).filter λ w=>decide (laI w<hdI w)).length:=by
   have hper:((uL n ps g).map zIM).Perm ((dgL n ps g).filter λ w=>decide (laI w<hdI w)):=by
    refine(zAl ?_ (nd.filter _)).mpr λ v=>?_
    .have:=nd.filter λ w=>decide (hdI w<=laI w)
     unfold zCY at this;unfold zCY uL;rw[zBH];exact this.imp λ z e=>z (by have:=congrArg zIM e;simpa using this)
    .unfold uL
     rw[zAX,zAV];constructor
     .rintro⟨w,hw,rfl⟩
      obtain⟨w1,w2⟩:=zAV.mp hw;refine⟨(pF O hn hg h0).mpr ((pF O hn hg h0).mp w1).rev,?_⟩;rw[aCK,aCD]
      have:hdI w≠laI w:=λ e=>c ⟨w,w1,e⟩
      simp at w2 ⊢;lia
     .rintro⟨h1,h2⟩
      refine⟨v.reverse,zAV.mpr ⟨(pF O hn hg h0).mpr ((pF O hn hg h0).mp h1).rev,?_⟩,List.reverse_reverse v⟩;rw[aCK,aCD];simp at h2 ⊢;lia
   rw[<-hper.length_eq,zAD]
  lia
end
def sbK(o:Nat):Nat->Nat->List Nat
 |0,_=>[]
 |k+1,c=>if c=0 then[]else c::sbK o k ((c-1)&&& o)
def loB(g:Nat):Nat:=g-(g&&& (g-1))
def fsL(g:Nat):List Nat:=loB g::(sbK (g-loB g) 64 (g-loB g)).map (loB g+·)
def sbB(f g:Nat):Bool:=(zA1 6).all λ x=>!f.testBit x||g.testBit x
def loI(g:Nat):Nat:=(zA1 6).find? (λ x=>g.testBit x) |>.getD 0
def fsB(g:Nat):Bool:=decide (fsL g).Nodup&&((zA1 64).all λ f=>((fsL g).contains f)==(f.testBit (loI g)&&sbB f g))&&((fsL g).all λ f=>decide (f<=g)&&decide (f≠0)&&((zA1 6).all λ x=>(g-f).testBit x==(g.testBit x&& !f.testBit x)))&&g.testBit (loI g)
def aLx:((zA1 64).all λ g=>g==0||fsB g)=true:=by decide+kernel
theorem aCu(P:Nat->Bool):∀N:Nat,∃f,f<2^N/\∀x,x<N->f.testBit x=P x
 |0=>⟨0,by simp,λ x hx=>by lia⟩
 |N+1=>by
  obtain⟨f,h1,h2⟩:=aCu P N;have hN:f.testBit N=false:=zDs h1;have hp:2^(N+1)=2^N+2^N:=by rw[zGa];lia
  cases c:P N with
  |true=>
   refine⟨2^N+f,by lia,λ x hx=>?_⟩;by_cases e:x=N
   .subst e
    rw[Nat.testBit_two_pow_add_eq,hN,c];rfl
   .rw[Nat.testBit_two_pow_add_gt (by lia)]
    exact h2 x (by lia)
  |false=>
   refine⟨f,by lia,λ x hx=>?_⟩;by_cases e:x=N
   .subst e;rw[hN,c]
   .exact h2 x (by lia)
section
variable{n:Int}{g f:Nat}
def aDG(hg:g<64)(h0:g≠0):fsB g=true:=by
 have:=zAm.mp aLx g (zAn.mpr hg)
 simpa[h0]using this
def aGi(hg:g<64)(h0:g≠0):(fsL g).Nodup:=by
 have:=aDG hg h0
 unfold fsB at this;simp only[zAC,decide_eq_true_eq]at this;exact this.1.1.1
def aLw(hg:g<64)(h0:g≠0):g.testBit (loI g)=true:=by
 have:=aDG hg h0
 unfold fsB at this;simp only[zAC,decide_eq_true_eq]at this;exact this.2
def aCN(hg:g<64)(h0:g≠0)(hf:f<64):f∈fsL g↔f.testBit (loI g)=true/\∀x,x<6->f.testBit x=true->g.testBit x=true:=by
 have:=aDG hg h0
 unfold fsB at this;simp only[zAC,decide_eq_true_eq]at this;have q:=zAm.mp this.1.1.2 f (zAn.mpr hf);have q2:(fsL g).contains f=(f.testBit (loI g)&&sbB f g):=by simpa using q
 rw[<-zG1,q2,zAC];unfold sbB;rw[zAm];refine and_congr_right λ _=>⟨λ h x hx hb=>?_,λ h x hx=>?_⟩
 .have:=h x (zAn.mpr hx)
  rw[hb]at this;simpa using this
 .cases c:f.testBit x with
  |false=>simp
  |true=>simp[h x (zAn.mp hx) c]
def xV(hg:g<64)(h0:g≠0)(hf:f∈fsL g):f<=g/\f≠0/\∀x,x<6->(g-f).testBit x=(g.testBit x&& !f.testBit x):=by
 have:=aDG hg h0
 unfold fsB at this;simp only[zAC,decide_eq_true_eq]at this;have q:=zAm.mp this.1.2 f hf;simp only[zAC,decide_eq_true_eq]at q;refine⟨q.1.1,q.1.2,λ x hx=>?_⟩;simpa using zAm.mp q.2 x (zAn.mpr hx)
def cZ(hn:n<=6)(hg:g<64)(h0:g≠0)(hf:f∈fsL g)(x:Int):x∈aV n (g-f)↔x∈aV n g/\x∉aV n f:=by
 obtain⟨_,_,h3⟩:=xV hg h0 hf;rw[bF,bF,bF];constructor
 .rintro⟨hx,hb⟩
  rw[h3 _ (by lia),zAC]at hb;exact⟨⟨hx,hb.1⟩,λ z=>by rw[z.2]at hb;simp at hb⟩
 .rintro⟨⟨hx,hb⟩,hz⟩
  refine⟨hx,?_⟩;rw[h3 _ (by lia),hb];cases c:f.testBit x.toNat with
  |false=>rfl
  |true=>exact absurd ⟨hx,c⟩ hz
def zG(hn:n<=6)(hg:g<64)(h0:g≠0)(hf:f∈fsL g):∀x,x∈aV n f->x∈aV n g:=λ x hx=>by
 obtain⟨h1,_,h3⟩:=xV hg h0 hf;obtain⟨hx1,hx2⟩:=bF.mp hx;exact bF.mpr ⟨hx1,((aCN hg h0 (by lia)).mp hf).2 _ (by lia) hx2⟩
def aA7(hn:n<=6)(hg:g<64)(h0:g≠0)(hf:f∈fsL g):(aV n g).length=(aV n f).length+(aV n (g-f)).length:=by
 rw[<-zAT];refine List.Perm.length_eq ((zAl (gG n g) (zBM.mpr ⟨gG n f,gG n (g-f),λ x hx y hy e=>?_⟩)).mpr λ x=>?_)
 .subst e
  exact((cZ hn hg h0 hf x).mp hy).2 hx
 .rw[zAp,cZ hn hg h0 hf]
  by_cases c:x∈aV n f
  .simp[c,zG hn hg h0 hf x c]
  .simp[c]
end
def fgL(n:Int)(ps:gX)(g k:Nat):List gX:=((bh ps).map (·.1)).filter λ S=>(S.all λ p=>decide (p.1∈aV n g)&&decide (p.2∈aV n g))&&decide (S.length+k=(aV n g).length)
structure Fg(n:Int)(ps:gX)(g k:Nat)(S:gX):Prop where
 sub:S.Sublist ps
 ac:Ac S
 dg:∀x,dgr S x<=2
 inn:∀p∈S,p.1∈aV n g/\p.2∈aV n g
 len:S.length+k=(aV n g).length
section
variable{n:Int}{ps S S':gX}{g f f' k:Nat}{w w':List Int}
def Ow.inn(O:Ow n ps):∀p∈ps,(0<=p.1/\p.1<n)/\(0<=p.2/\p.2<n):=λ p hp=>by
 obtain⟨a,b,c,d,_⟩:=O.pr p hp;exact⟨⟨a,b⟩,c,d⟩
def jY(O:Ow n ps):S∈fgL n ps g k↔Fg n ps g k S:=by
 unfold fgL;rw[zAV,j9 O.inn (bw O),zAC,zAm,decide_eq_true_eq];constructor
 .rintro⟨⟨h1,h2,h3⟩,h4,h5⟩
  exact⟨h1,h2,h3,λ p hp=>by simpa using h4 p hp,h5⟩
 .rintro⟨h1,h2,h3,h4,h5⟩
  exact⟨⟨h1,h2,h3⟩,λ p hp=>by simpa using h4 p hp,h5⟩
def vO(O:Ow n ps):(fgL n ps g k).Nodup:=(aBc O.inn (bw O)).filter _
def mrg(ps:gX)(w:List Int)(S:gX):gX:=ps.filter λ p=>decide (p∈cpL w)||decide (p∈S)
def nG(hw:∀p∈cpL w,p∈ps)(hS:S.Sublist ps){p:Int×Int}:p∈mrg ps w S↔p∈cpL w\/p∈S:=by
 unfold mrg;rw[zAV,zCO,decide_eq_true_eq,decide_eq_true_eq];exact⟨λ h=>h.2,λ h=>⟨h.elim (hw p) λ z=>hS.subset z,h⟩⟩
def aGB(nd:ps.Nodup)(hw:∀p∈cpL w,p∈ps)(wn:w.Nodup)(hS:S.Sublist ps)(hd:∀p∈cpL w,p∉S):(mrg ps w S).Perm (cpL w++S):=
 (zAl (nd.filter _) (zBM.mpr ⟨jm wn,nd.sublist hS,λ x hx y hy e=>hd x hx (e▸hy)⟩)).mpr λ p=>by
  show p∈mrg ps w S↔_;rw[nG hw hS,zAp]
def aAt{B:gX}{x:Int}(h:∀p∈B,p.1≠x/\p.2≠x):dgr B x=0:=by
 unfold dgr;rw[zBP,zCp];intro p hp z
 have:=h p hp
 simp at z;rcases z with z|z
 .exact this.1 z
 .exact this.2 z
def aJO(A B:gX)(x:Int):dgr (A++B) x=dgr A x+dgr B x:=by
 unfold dgr;rw[zBn,zAT]
def aMZ{A B:gX}{P:Int->Bool}(hA:∀p∈A,P p.1=true/\P p.2=true)(hB:∀p∈B,P p.1=false/\P p.2=false)(a:Ac A)(b:Ac B):Ac (A++B):=λ V nd ne=>by
 have hl:V.length=(V.filter P).length+(V.filter λ x=>!P x).length:=by
  rw[<-mW λ x _ q=>by simp at q,zB0.mpr λ x _=>by cases P x<;>rfl]
 have eA:inN V A=inN (V.filter P) A:=by
  unfold inN;congr 1;refine zBG λ p hp=>?_
  obtain⟨h1,h2⟩:=hA p hp;simp[zAV,h1,h2]
 have eB:inN V B=inN (V.filter λ x=>!P x) B:=by
  unfold inN;congr 1;refine zBG λ p hp=>?_
  obtain⟨h1,h2⟩:=hB p hp;simp[zAV,h1,h2]
 have e0:∀C:gX,inN [] C=0:=λ C=>by unfold inN;simp
 have hs:inN V (A++B)=inN V A+inN V B:=by unfold inN;rw[zBn,zAT]
 rw[hs,eA,eB];have pos:=zBE.mpr ne;by_cases c1:V.filter P=[]
 .by_cases c2:(V.filter λ x=>!P x)=[]
  .rw[c1,c2]at hl;simp at hl;lia
  .have:=b _ (nd.filter _) c2
   rw[c1]at hl ⊢;rw[e0];simp at hl;lia
 .have h1:=a _ (nd.filter _) c1
  by_cases c2:(V.filter λ x=>!P x)=[]
  .rw[c2]at hl ⊢
   rw[e0];simp at hl;lia
  .have:=b _ (nd.filter _) c2
   lia
def Wg.len(W:Wg n ps f w):w.length=(aV n f).length:=((zAl W.nd (gG n f)).mpr W.mem).length_eq
def Wg.ne(W:Wg n ps f w)(hn:n<=6)(hf:f<2^n.toNat)(h0:f≠0):w≠[]:=λ z=>h0 (jr hn hf λ x hx=>by have:=(W.mem x).mpr hx;rw[z]at this;cases this)
def aI9(low:∀p∈ps,p.1<p.2)(hn:n<=6)(hg:g<64)(h0:g≠0)(hf:f∈fsL g)(W:Wg n ps f w)(F:Fg n ps (g-f) k S):∀p∈cpL w,p∉S:=λ p hp z=>((cZ hn hg h0 hf _).mp (F.inn p z).1).2 ((W.mem _).mp (gk hp).1)
def aL5(O:Ow n ps)(low:∀p∈ps,p.1<p.2)(hn:n<=6)(hg:g<2^n.toNat)(h0:g≠0)(hf:f∈fsL g)(W:Wg n ps f w)(F:Fg n ps (g-f) k S):Fg n ps g (k+1) (mrg ps w S):=by
 have h64:=gJ hn hg;obtain⟨hfg,hf0,_⟩:=xV h64 h0 hf;have hw:=iG low W.al;have per:=aGB (bw O) hw W.nd F.sub (aI9 low hn h64 h0 hf W F);have hA:∀p∈cpL w,decide (p.1∈aV n f)=true/\decide (p.2∈aV n f)=true:=λ p hp=>by
  have:=gk hp
  simp only[decide_eq_true_eq];exact⟨(W.mem _).mp this.1,(W.mem _).mp this.2⟩
 have hB:∀p∈S,decide (p.1∈aV n f)=false/\decide (p.2∈aV n f)=false:=λ p hp=>by
  have:=F.inn p hp
  simp only[decide_eq_false_iff_not];exact⟨((cZ hn h64 h0 hf _).mp this.1).2,((cZ hn h64 h0 hf _).mp this.2).2⟩
 refine⟨zDQ,(aMZ (P:=λ x=>decide (x∈aV n f)) hA hB (aN6 W.nd) F.ac).perm per,λ x=>?_,λ p hp=>?_,?_⟩
 .rw[aAu per,aJO]
  by_cases c:x∈aV n f
  .rw[aAt (B:=S) λ p hp=>by
    have:=hB p hp
    simp only[decide_eq_false_iff_not]at this;exact⟨λ e=>this.1 (e▸c),λ e=>this.2 (e▸c)⟩]
   exact aJN W.nd x
  .rw[aAt (B:=cpL w) λ p hp=>by
    have:=hA p hp
    simp only[decide_eq_true_eq]at this;exact⟨λ e=>c (e▸this.1),λ e=>c (e▸this.2)⟩]
   have:=F.dg x
   lia
 .rcases(nG hw F.sub).mp hp with z|z
  .have:=gk z
   exact⟨zG hn h64 h0 hf _ ((W.mem _).mp this.1),zG hn h64 h0 hf _ ((W.mem _).mp this.2)⟩
  .have:=F.inn p z
   exact⟨((cZ hn h64 h0 hf _).mp this.1).1,((cZ hn h64 h0 hf _).mp this.2).1⟩
 .rw[per.length_eq,zAT,zT]
  have h1:=aA7 hn h64 h0 hf;have h2:=W.len;have h3:=F.len;have h4:=zBE.mpr (W.ne hn (by lia) hf0);lia
theorem aKJ:∀{w:List Int},(∀p∈cpL w,p∈S)->bJ (dbl S) w=true
 |[],_=>rfl
 |[_],_=>rfl
 |x::y::r,h=>by
  rw[cpL]at h;rw[bJ,zAC,decide_eq_true_eq];refine⟨?_,aKJ λ p hp=>h p (zAL _ hp)⟩
  have:=h _ zAG
  rcases oA x y with ⟨e1,e2⟩|⟨e1,e2⟩
  .rw[e1,e2]at this;exact bx.mpr (.inl this)
  .rw[e1,e2]at this;exact bx.mpr (.inr this)
def aGH(hn:n<=6)(hg:g<2^n.toNat)(h0:g≠0)(hf:f∈fsL g):(loI g:Int)∈aV n f:=by
 have h64:=gJ hn hg;have hfg:=(xV h64 h0 hf).1;have h1:=((aCN h64 h0 (by lia)).mp hf).1;have h2:=zBJ h1
 have:loI g<n.toNat:=zAq λ z=>by
  have:2^n.toNat<=2^loI g:=zAr (by decide) (by lia)
  lia
 exact bF.mpr ⟨⟨by lia,by lia⟩,by simpa using h1⟩
def aEJ(hw:w.Nodup)(hv:w'.Nodup)(hm:∀x,x∈w↔x∈w')(hp:(cpL w).Perm (cpL w'))(h1:hdI w<=laI w)(h2:hdI w'<=laI w'):w=w':=by
 have hl:=((zAl hw hv).mpr hm).length_eq;cases w with
 |nil=>rw[zBQ]at hl;exact(zBP.mp hl.symm).symm
 |cons x r=>
  cases w' with
  |nil=>simp at hl
  |cons y s=>
   rw[zA6,zA6]at hl;by_cases c:r=[]
   .subst c
    have:s=[]:=by simpa using hl
    subst this
    have:=(hm x).mp zAG
    rw[zA3.mp this]
   .have c2:s≠[]:=λ z=>by
     subst z
     have:=zBE.mpr c
     simp at hl;lia
    have key:∀z,(z=x\/z=r.getLast c)↔(z=y\/z=s.getLast c2):=λ z=>by
     rw[<-aDO hw c z,<-aDO hv c2 z,aAu hp z]
    have la1:laI (x::r)=r.getLast c:=by unfold laI;rw[zEd,zDD c];rfl
    have la2:laI (y::s)=s.getLast c2:=by unfold laI;rw[zEd,zDD c2];rfl
    rw[la1]at h1;rw[la2]at h2;have h1:x<=r.getLast c:=h1;have h2:y<=s.getLast c2:=h2;have k1:=(key x).mp (.inl rfl);have k3:=(key y).mpr (.inl rfl);have e:x=y:=by lia
    subst e;rw[aC1 hw hv hp]
def zB(O:Ow n ps)(low:∀p∈ps,p.1<p.2)(hn:n<=6)(hg:g<2^n.toNat)(h0:g≠0)(hf:f∈fsL g)(hf':f'∈fsL g)(W:Wg n ps f w)(W':Wg n ps f' w')(F:Fg n ps (g-f) k S)(F':Fg n ps (g-f') k S')(hd:hdI w<=laI w)(hd':hdI w'<=laI w')
  (e:mrg ps w S=mrg ps w' S'):w=w'/\S=S':=by
 have h64:=gJ hn hg;have one:∀{f f':Nat} {w w':List Int} {S S':gX},f∈fsL g->f'∈fsL g->Wg n ps f w->Wg n ps f' w'->Fg n ps (g-f) k S->Fg n ps (g-f') k S'->mrg ps w S=mrg ps w' S'->∀x∈w',x∈w:=by
  intro f f' w w' S S' hf hf' W W' F F' e x hx;have hw:=iG low W.al;have hw':=iG low W'.al;have al:bJ (dbl (mrg ps w S)) w'=true:=aKJ λ p hp=>by rw[e];exact(nG hw' F'.sub).mpr (.inl hp)
  refine qU (nQ _) (P:=λ x=>x∈w) (λ y z hy hz=>?_) al ⟨(loI g:Int),(W'.mem _).mpr (aGH hn hg h0 hf'),(W.mem _).mpr (aGH hn hg h0 hf)⟩ x hx;have no:∀q∈S,q.1∉w/\q.2∉w:=λ q hq=>by
   have:=F.inn q hq
   exact⟨λ z=>((cZ hn h64 h0 hf _).mp this.1).2 ((W.mem _).mp z),λ z=>((cZ hn h64 h0 hf _).mp this.2).2 ((W.mem _).mp z)⟩
  rcases bx.mp hz with q|q
  .rcases(nG hw F.sub).mp q with q|q
   .exact(gk q).2
   .exact absurd hy (no _ q).1
  .rcases(nG hw F.sub).mp q with q|q
   .exact(gk q).1
   .exact absurd hy (no _ q).2
 have hm:∀x,x∈w↔x∈w':=λ x=>⟨one hf' hf W' W F' F e.symm x,one hf hf' W W' F F' e x⟩
 have hw:=iG low W.al;have hw':=iG low W'.al;have chS:∀{f:Nat} {w:List Int} {S:gX},f∈fsL g->Wg n ps f w->Fg n ps (g-f) k S->∀p,(p∈S↔p∈mrg ps w S/\p.1∉w)/\(p∈cpL w↔p∈mrg ps w S/\p.1∈w):=by
  intro f w S hf W F p;have hw:=iG low W.al;have no:∀q∈S,q.1∉w:=λ q hq z=>((cZ hn h64 h0 hf _).mp (F.inn q hq).1).2 ((W.mem _).mp z)
  rw[nG hw F.sub];refine⟨⟨λ h=>⟨.inr h,no p h⟩,λ h=>h.1.resolve_left λ z=>h.2 (gk z).1⟩,⟨λ h=>⟨.inl h,(gk h).1⟩,λ h=>h.1.resolve_right λ z=>no p z h.2⟩⟩
 refine⟨aEJ W.nd W'.nd hm ((zAl (jm W.nd) (jm W'.nd)).mpr λ p=>by rw[(chS hf W F p).2,(chS hf' W' F' p).2,e,hm]) hd hd',?_⟩;rw[oX (bw O) F.sub,oX (bw O) F'.sub];refine zBG λ p _=>?_
 rw[decide_eq_decide,(chS hf W F p).1,(chS hf' W' F' p).1,e,hm]
def aHJ{A B:gX}(h:A.Sublist B)(b:Ac B):Ac A:=λ V nd ne=>by
 have:=b V nd ne
 have h2:=(h.filter λ p=>decide (p.1∈V)&&decide (p.2∈V)).length_le;unfold inN at*;lia
def aDN{A B:gX}(h:A.Sublist B)(x:Int):dgr A x<=dgr B x:=(h.filter _).length_le
def aE0{es fs:gX}(hs:∀p∈es,p∈fs)(h:bJ es w=true):bJ fs w=true:=by
 rw[rQ]at h ⊢;exact λ i a b ha hb=>hs _ (h i a b ha hb)
def aGA(O:Ow n ps)(low:∀p∈ps,p.1<p.2)(hn:n<=6)(hg:g<2^n.toNat)(h0:g≠0)(F:Fg n ps g (k+1) S):∃f∈fsL g,∃w,Wg n ps f w/\hdI w<=laI w/\∃S2,Fg n ps (g-f) k S2/\mrg ps w S2=S:=by
 have h64:=gJ hn hg;have dE:∀p∈S,p.1<p.2:=λ p hp=>low p (F.sub.subset hp)
 have innS:∀p∈S,(0<=p.1/\p.1<n)/\(0<=p.2/\p.2<n):=λ p hp=>O.inn p (F.sub.subset hp)
 have ndS:S.Nodup:=(bw O).sublist F.sub;have hlo:=aLw h64 h0;have hlt:loI g<n.toNat:=zAq λ z=>by
  have h2:=zBJ hlo
  have:2^n.toNat<=2^loI g:=zAr (by decide) (by lia)
  lia
 have ha:0<=(loI g:Int)/\(loI g:Int)<n:=by lia
 have hag:(loI g:Int)∈aV n g:=bF.mpr ⟨ha,by simpa using hlo⟩;obtain⟨w0,p1,p2,p3,p4,p5⟩:=aIT innS dE F.dg ha;obtain⟨w,w1,w2,w3,w4,w5,w6⟩:∃w:List Int,w.Nodup/\(loI g:Int)∈w/\bJ (dbl S) w=true/\(∀x∈w,0<=x/\x<n)/\Cld S w/\hdI w<=laI w:=by
  by_cases c:hdI w0<=laI w0
  .exact⟨w0,p1,p2,p3,p4,p5,c⟩
  .exact⟨w0.reverse,(zHN w0).nodup_iff.mpr p1,by simpa using p2,yI (nQ S) p3,λ x hx=>p4 x (by simpa using hx),λ y hy z hz=>by rw[zDm]at hy ⊢;exact p5 y hy z hz,by rw[aCK,aCD];lia⟩
 have wg:∀x∈w,x∈aV n g:=qU (nQ S) (P:=λ x=>x∈aV n g) (λ y z _ hz=>by
  rcases bx.mp hz with q|q
  .exact(F.inn _ q).2
  .exact(F.inn _ q).1) w3 ⟨_,w2,hag⟩
 obtain⟨f,f1,f2⟩:=aCu (λ x=>decide ((x:Int)∈w)) n.toNat;have hfw:∀x,x∈w↔x∈aV n f:=λ x=>by
  rw[bF];constructor
  .intro hx
   obtain⟨a,b⟩:=w4 x hx;refine⟨⟨a,b⟩,?_⟩;rw[f2 _ (by lia),decide_eq_true_eq,zBF a];exact hx
  .rintro⟨⟨a,b⟩,hb⟩
   rw[f2 _ (by lia),decide_eq_true_eq,zBF a]at hb;exact hb
 have hf:f∈fsL g:=by
  refine(aCN h64 h0 (gJ hn f1)).mpr ⟨?_,λ x hx hb=>?_⟩
  .have:=(bF.mp ((hfw _).mp w2)).2
   simpa using this
  .have hxn:x<n.toNat:=zAq λ z=>by
    have h2:=zBJ hb
    have:2^n.toNat<=2^x:=zAr (by decide) (by lia)
    lia
   have:=(bF.mp (wg _ ((hfw (x:Int)).mpr (bF.mpr ⟨by lia,by simpa using hb⟩)))).2
   simpa using this
 have W:Wg n ps f w:=⟨w1,hfw,aE0 (λ p hp=>by
  obtain⟨a,b⟩:=p;rcases bx.mp hp with z|z
  .exact bx.mpr (.inl (F.sub.subset z))
  .exact bx.mpr (.inr (F.sub.subset z))) w3⟩
 have ne:w≠[]:=zDZ w2;have both:∀p∈S,(p.1∈w↔p.2∈w):=λ p hp=>⟨λ q=>w5 _ q _ (bx.mpr (.inl hp)),λ q=>w5 _ q _ (bx.mpr (.inr hp))⟩
 have cpS:∀p,p∈cpL w↔p∈S/\p.1∈w:=λ p=>⟨λ h=>⟨iG dE w3 p h,(gk h).1⟩,λ h=>aMJ F.ac ndS dE w1 ne w3 p h.1 h.2 ((both p h.1).mp h.2)⟩
 have hS2:(S.filter λ p=>!decide (p.1∈w)).Sublist S:=zDQ;have per:(S.filter λ p=>decide (p.1∈w)).Perm (cpL w):=(zAl (ndS.filter _) (jm w1)).mpr λ p=>by rw[zAV,decide_eq_true_eq,cpS]
 have hl:S.length=(cpL w).length+(S.filter λ p=>!decide (p.1∈w)).length:=by
  rw[<-per.length_eq,<-mW λ x _ q=>by simp at q,zB0.mpr λ x _=>by cases decide (x.1∈w)<;>rfl]
 have F2:Fg n ps (g-f) k (S.filter λ p=>!decide (p.1∈w)):=by
  refine⟨hS2.trans F.sub,aHJ hS2 F.ac,λ x=>zAh (aDN hS2 x) (F.dg x),λ p hp=>?_,?_⟩
  .obtain⟨h1,h2⟩:=zAV.mp hp
   have h2:p.1∉w:=by simpa using h2
   have h3:p.2∉w:=λ z=>h2 ((both p h1).mpr z)
   have:=F.inn p h1
   exact⟨(cZ hn h64 h0 hf _).mpr ⟨this.1,λ z=>h2 ((hfw _).mpr z)⟩,(cZ hn h64 h0 hf _).mpr ⟨this.2,λ z=>h3 ((hfw _).mpr z)⟩⟩
  .have h1:=aA7 hn h64 h0 hf
   have h2:=W.len;have h3:=F.len;have h4:=zBE.mpr ne;rw[zT]at hl;lia
 refine⟨f,hf,w,W,w6,_,F2,?_⟩;have e:=oX (bw O) F.sub;refine Eq.trans (zBG λ p _=>?_) e.symm;rw[zCe,zCO,decide_eq_true_eq,decide_eq_true_eq,decide_eq_true_eq,cpS,zAV];by_cases c:p.1∈w<;>simp[c]
def aHA(hn:n<=6)(hf:f<2^n.toNat)(hf':f'<2^n.toNat)(h:∀x,x∈aV n f↔x∈aV n f'):f=f':=by
 refine Nat.eq_of_testBit_eq λ i=>?_
 by_cases c:i<n.toNat
 .have:=h (i:Int)
  rw[bF,bF]at this;have q:(f.testBit i=true↔f'.testBit i=true):=by
   constructor
   .intro z;simpa using(this.mp ⟨by lia,by simpa using z⟩).2
   .intro z;simpa using(this.mpr ⟨by lia,by simpa using z⟩).2
  exact zCe.mpr q
 .have hp:2^n.toNat<=2^i:=zAr (by decide) (by lia)
  rw[zDs (by lia),zDs (by lia)]
def aA2(O:Ow n ps)(hn:n<=6)(hf:f<2^n.toNat)(h0:f≠0):w∈uL n ps f↔Wg n ps f w/\hdI w<=laI w:=by
 unfold uL;rw[zAV,pF O hn hf h0,decide_eq_true_eq]
theorem wZ(c:Nat):∀l:List (List Int),(l.map λ _=>c).sum=l.length*c
 |[]=>by simp
 |_::l=>by rw[zAE,zDj,wZ c l,zA6,Nat.add_mul,Nat.one_mul,Nat.add_comm]
def aMA(O:Ow n ps)(low:∀p∈ps,p.1<p.2)(hn:n<=6)(hg:g<2^n.toNat)(h0:g≠0)(k:Nat):(fgL n ps g (k+1)).length=((fsL g).map λ f=>(uL n ps f).length*(fgL n ps (g-f) k).length).sum:=by
 have h64:=gJ hn hg;have fin:∀{f},f∈fsL g->f<2^n.toNat/\f≠0:=λ{f} hf=>by
  obtain⟨a,b,_⟩:=xV h64 h0 hf;exact⟨by lia,b⟩
 have mf:∀{f x},f∈fsL g->(x∈(uL n ps f).flatMap (λ w=>(fgL n ps (g-f) k).map λ S=>mrg ps w S)↔∃w S,(Wg n ps f w/\hdI w<=laI w)/\Fg n ps (g-f) k S/\mrg ps w S=x):=λ{f x} hf=>by
  rw[zCI];constructor
  .rintro⟨w,hw,hx⟩
   obtain⟨S,hS,e⟩:=zAX.mp hx;exact⟨w,S,(aA2 O hn (fin hf).1 (fin hf).2).mp hw,(jY O).mp hS,e⟩
  .rintro⟨w,S,hw,hS,e⟩
   exact⟨w,(aA2 O hn (fin hf).1 (fin hf).2).mpr hw,zAX.mpr ⟨S,(jY O).mpr hS,e⟩⟩
 have ndB:((fsL g).flatMap λ f=>(uL n ps f).flatMap λ w=>(fgL n ps (g-f) k).map λ S=>mrg ps w S).Nodup:=by
  refine qH (aGi h64 h0) (λ f hf=>qH ((aAw O low hn (fin hf).1).filter _) (λ w hw=>?_) λ w hw v hv ne x hx hy=>?_) λ f hf f' hf' ne x hx hy=>?_
  .obtain⟨W,hd⟩:=(aA2 O hn (fin hf).1 (fin hf).2).mp hw
   have:=vO (g:=g-f) (k:=k) O
   unfold zCY at this ⊢;rw[zBH];refine zDG ?_ this;intro S T hS hT z e;exact z (zB O low hn hg h0 hf hf W W ((jY O).mp hS) ((jY O).mp hT) hd hd e).2
  .obtain⟨W,hd⟩:=(aA2 O hn (fin hf).1 (fin hf).2).mp hw
   obtain⟨V,hd2⟩:=(aA2 O hn (fin hf).1 (fin hf).2).mp hv;obtain⟨S,hS,rfl⟩:=zAX.mp hx;obtain⟨T,hT,e⟩:=zAX.mp hy;exact ne (zB O low hn hg h0 hf hf W V ((jY O).mp hS) ((jY O).mp hT) hd hd2 e.symm).1
  .obtain⟨w,S,⟨W,hd⟩,F,rfl⟩:=(mf hf).mp hx
   obtain⟨v,T,⟨V,hd2⟩,F2,e⟩:=(mf hf').mp hy;have ew:=(zB O low hn hg h0 hf hf' W V F F2 hd hd2 e.symm).1;subst ew;exact ne (aHA hn (fin hf).1 (fin hf').1 λ x=>by rw[<-W.mem,<-V.mem])
 have per:((fsL g).flatMap λ f=>(uL n ps f).flatMap λ w=>(fgL n ps (g-f) k).map λ S=>mrg ps w S).Perm (fgL n ps g (k+1)):=by
  refine(zAl ndB (vO O)).mpr λ x=>?_
  rw[zCI,jY O];constructor
  .rintro⟨f,hf,hx⟩
   obtain⟨w,S,⟨W,_⟩,F,rfl⟩:=(mf hf).mp hx;exact aL5 O low hn hg h0 hf W F
  .intro F
   obtain⟨f,hf,w,W,hd,S2,F2,e⟩:=aGA O low hn hg h0 F;exact⟨f,hf,(mf hf).mpr ⟨w,S2,⟨W,hd⟩,F2,e⟩⟩
 rw[<-per.length_eq,zDS];congr 1;refine zCC λ f _=>?_
 rw[zDS];simp only[zAD];exact wZ _ _
def aJI(O:Ow n ps)(hn:n<=6)(k:Nat):(fgL n ps 0 k).length=if k=0 then 1 else 0:=by
 have hb:aV n 0=[]:=by unfold aV;rw[zCp];simp
 have all:∀S,Fg n ps 0 k S↔S=[]/\k=0:=λ S=>by
  constructor
  .intro F
   have h1:=F.inn;have h2:=F.len;rw[hb]at h1 h2;cases S with
   |nil=>exact⟨rfl,by simpa using h2⟩
   |cons p r=>have:=(h1 p zAG).1;cases this
  .rintro⟨rfl,rfl⟩
   exact⟨zH0 _,λ V _ ne=>by have:=zBE.mpr ne;simp[inN];lia,λ x=>by simp[dgr],λ p hp=>(nomatch hp),by rw[hb];rfl⟩
 by_cases c:k=0
 .subst c
  rw[if_pos rfl]
  have:(fgL n ps 0 0).Perm [[]]:=(zAl (vO O) (by simp)).mpr λ S=>by rw[jY O,all,zA3];simp
  rw[this.length_eq];rfl
 .rw[if_neg c,zBP,zEp]
  intro S hS;exact c ((all S).mp ((jY O).mp hS)).2
def aJJ(O:Ow n ps)(hn:n<=6)(hg:g<2^n.toNat)(h0:g≠0):(fgL n ps g 0).length=0:=by
 rw[zBP,zEp];intro S hS;have F:=(jY O).mp hS;have hne:aV n g≠[]:=λ z=>h0 (jr hn hg λ x hx=>by rw[z]at hx;cases hx)
 have h1:=F.ac (aV n g) (gG n g) hne;have h2:inN (aV n g) S=S.length:=by
  unfold inN;rw[zB0.mpr λ p hp=>by have:=F.inn p hp;simp[this.1,this.2]]
 have:=F.len
 lia
end
def uE{n:Int}{qs:gX}{y z:Int}(h:Ow n qs)(hx:z∈eY (dbl qs) y):0<=z/\z<n:=by
 rcases bx.mp (gw.mp hx)with z|z
 .have:=h.pr _ z;exact⟨this.2.2.1,this.2.2.2.1⟩
 .have:=h.pr _ z;exact⟨this.1,this.2.1⟩
abbrev fiE(g lo o:Nat)(L:List D)(c:Nat):En:=[.sh (.int (g:Int)),.sh (.int (lo:Int)),.sh (.int (o:Int)),.ow (.lst L),.sh (.int (c:Int))]
def aLz{g lo o c:Nat}{L:List D}(hc:c≠0)(hL:L.length<=1000):fiB (fiE g lo o L c)= .nx (fiE g lo o (L++[.int ((lo+c:Nat):Int)]) ((c-1)&&& o)):=by
 have e1:rP 3 (op2 cC (bG (aB 1)) (bG (aB 4))) (fiE g lo o L c)= .nx (fiE g lo o (L++[.int ((lo+c:Nat):Int)]) c):=by
  have hv:op2 cC (bG (aB 1)) (bG (aB 4)) (fiE g lo o L c)= .ok (.int ((lo+c:Nat):Int)):=by
   rw[zHe];rfl
  show((op2 cC (bG (aB 1)) (bG (aB 4)) (fiE g lo o L c)).bo λ d=>if L.length<zAK then .nx (zHs (fiE g lo o L c) 3 (.ow (.lst (L++[d]))))else .st)=_
  rw[hv,cA,if_pos (by rw[szl];lia)];rfl
 have e2:op2 m7 (op2 lU (aB 4) (cD (.int 1))) (aB 2) (fiE g lo o (L++[.int ((lo+c:Nat):Int)]) c)= .ok (.int (((c-1)&&& o:Nat):Int)):=by
  have h1:op2 lU (aB 4) (cD (.int 1)) (fiE g lo o (L++[.int ((lo+c:Nat):Int)]) c)= .ok (.int ((c-1:Nat):Int)):=by
   rw[show((c-1:Nat):Int)=(c:Int)-1 by lia];rfl
  rw[iW,h1,aj,<-aDX];rfl
 rw[fiB,aQ,e1,bK,kW,e2,cA];rfl
def aEI{g:Nat}(hg:g<64)(h0:g≠0):m8 [.int (g:Int)]= .ok (.lst ((fsL g).map λ f:Nat=>.int (f:Int))):=by
 obtain⟨lo,elo⟩:∃lo,lo=loB g:=⟨_,rfl⟩
 have hlo:lo<=g:=by rw[elo];unfold loB;lia
 obtain⟨o,eo⟩:∃o,o=g-lo:=⟨_,rfl⟩
 have st:ao 5 [.int (g:Int)]=[.sh (.int (g:Int)),.no,.no,.no,.no]:=rfl;have c1:cV 1 (op2 m7 (aB 0) (op1 yx (aB 0))) [.sh (.int (g:Int)),.no,.no,.no,.no]= .nx [.sh (.int (g:Int)),.sh (.int (lo:Int)),.no,.no,.no]:=by
  have e2:m7 (.int (g:Int)) (.int (-(g:Int)))= .ok (.int (lo:Int)):=by
   rw[elo,loB,<-aIf g (by lia)];rfl
  rw[kW,iW]
  show(((Rs.ok (D.int (g:Int))).bd _).bo _)=_
  rw[aj]
  show((((Rs.ok (D.int (-(g:Int))))).bd _).bo _)=_
  rw[aj,e2,dq,cA];rfl
 have c2:cV 2 (op2 lU (aB 0) (aB 1)) [.sh (.int (g:Int)),.sh (.int (lo:Int)),.no,.no,.no]= .nx [.sh (.int (g:Int)),.sh (.int (lo:Int)),.sh (.int (o:Int)),.no,.no]:=by
  have e:op2 lU (aB 0) (aB 1) [.sh (.int (g:Int)),.sh (.int (lo:Int)),.no,.no,.no]= .ok (.int (o:Int)):=by
   rw[eo,show((g-lo:Nat):Int)=(g:Int)-lo by lia];rfl
  rw[kW,e,cA];rfl
 have c3:j7 3 (iY (aD (bG (aB 1)) aK)) [.sh (.int (g:Int)),.sh (.int (lo:Int)),.sh (.int (o:Int)),.no,.no]= .nx [.sh (.int (g:Int)),.sh (.int (lo:Int)),.sh (.int (o:Int)),.ow (.lst [.int (lo:Int)]),.no]:=rfl;have c4:cV 4 (aB 2) [.sh (.int (g:Int)),.sh (.int (lo:Int)),.sh (.int (o:Int)),.ow (.lst [.int (lo:Int)]),.no]= .nx (fiE g lo o [.int (lo:Int)] o):=rfl;have hw:((fsL g).map λ f:Nat=>D.int (f:Int))=[.int (lo:Int)]++(sbK o 64 o).map λ f:Nat=>.int ((lo+f:Nat):Int):=by
  unfold fsL;rw[<-elo,<-eo,zAE,zAU];rfl
 rw[hw];obtain⟨W,eW⟩:∃W,W=[D.int (lo:Int)]++(sbK o 64 o).map λ f:Nat=>D.int ((lo+f:Nat):Int):=⟨_,rfl⟩
 rw[<-eW];obtain⟨Y',m',e',⟨L,c,rfl,hm,hL,hs⟩,ht⟩:=aE5 (c:=tst (aB 4)) (b:=fiB)
  (λ m Y=>∃(L:List D) (c:Nat),Y=fiE g lo o L c/\c<m/\L.length+m<=1000/\L++(sbK o m c).map (λ f:Nat=>D.int ((lo+f:Nat):Int))=W)
  (by
   rintro m Y ⟨L,c,rfl,hm,hL,hs⟩;by_cases z:c=0
   .left;subst z;rfl
   .right
    obtain⟨k,rfl⟩:∃k,m=k+1:=⟨m-1,by lia⟩
    have hc:(c-1)&&& o<=c-1:=zHg;refine⟨by simp[z],_,k,aLz z (by lia),by lia,_,_,rfl,by lia,by rw[zAT,zAt];lia,?_⟩;rw[<-hs,sbK,if_neg z,zAE,zCZ];rfl) (m:=64) (by decide) ⟨_,_,rfl,by lia,by simp,eW.symm⟩
 have ha:c=0:=by
  refine zAq λ z=>?_
  simp[z]at ht
 subst ha;obtain⟨k,rfl⟩:∃k,m'=k+1:=⟨m'-1,by lia⟩
 rw[sbK,if_pos rfl,zEB,zBB]at hs;subst hs;simp only[m8,ji,bO,st];rw[aQ,c1,bK,aQ,c2,bK,aQ,c3,bK,aQ,c4,bK,aQ,e',bK];rfl
def aN4{ps:List (Int×D)}{i:Int}{d:D}(h:ps.lookup i=some d):wN (rO ps) (.int i)= .ok d:=by
 unfold wN rO;dsimp only;rw[jd];dsimp only;rw[h]
theorem aAS:∀qs:List (Int×D),lX (qs.map λ q=>.tup [.int q.1,q.2])=some qs
 |[]=>rfl
 |q::qs=>by rw[zAE];unfold lX;rw[aAS qs];rfl
def aFX{ps:List (Int×D)}{i:Int}{d:D}(h:i∉ps.map (·.1)):tG ps i d=ps++[(i,d)]:=by
 unfold tG;rw[if_neg];rw[zEs];rintro⟨p,hp,e⟩;exact h (zAX.mpr ⟨p,hp,of_decide_eq_true e⟩)
theorem xX:∀{qs acc:List (Int×D)},(acc.map (·.1)++qs.map (·.1)).Nodup->mV acc qs=acc++qs
 |[],acc,_=>by simp[mV]
 |q::qs,acc,h=>by
  have hn:q.1∉acc.map (·.1):=λ hm=>by
   rw[zBM]at h;exact h.2.2 _ hm _ (by simp) rfl
  have e:mV acc (q::qs)=mV (tG acc q.1 q.2) qs:=rfl;rw[e,aFX hn,xX (by simpa using h)];simp
def aGr{fi:En->Rs (List D)}{js:hZ}{fg:D->En->Rs En}{ft:En->Rs Bool}{fk fv:En->Rs D}{Y:En}{ds:List D}{qs:List (Int×D)}(h1:fi (shE Y)= .ok ds)(h2:ds.length<16777216)
  (h3:lcL (stE js (shE Y)) fg ft (pairE fk fv) ds= .ok (qs.map λ q=>.tup [.int q.1,q.2]))(h4:(qs.map (·.1)).Nodup):dcI fi js fg ft fk fv Y= .ok (rO qs):=by
 unfold dcI;rw[h1,aj,if_pos (by rw[szl];exact h2),h3];dsimp only;rw[aAS];dsimp only;rw[xX (by simpa using h4)];rfl
theorem zp:∀l:gX,(l.map (·.1)).zip (l.map (·.2))=l
 |[]=>rfl
 |p::l=>by rw[zAE,zAE,zBI,zp l]
def xT(l:gX):dF l= .dct (l.map λ p=>.int p.1) (l.map λ p=>.int p.2)/\lR (l.map λ p=>.int p.1) (l.map λ p=>.int p.2)=some l:=by
 have e1:dF l= .dct (l.map λ p=>.int p.1) (l.map λ p=>.int p.2):=by
  unfold dF rO;rw[zAU,zAU];rfl
 refine⟨e1,?_⟩;unfold lR;have hp:=jd (l.map λ p=>(p.1,D.int p.2));rw[zAU,zAU]at hp;have hp:gU (l.map λ p=>.int p.1) (l.map λ p=>.int p.2)=some (l.map λ p=>(p.1,D.int p.2)):=hp;rw[hp];dsimp only;have hi:intsOf ((l.map λ p=>(p.1,D.int p.2)).map (·.2))=some (l.map (·.2)):=by
  have:=dH (l.map (·.2))
  rw[zAU]at this ⊢;exact this
 rw[hi,zAU];show some ((l.map (·.1)).zip (l.map (·.2)))=some l;rw[zp]
def yP{p:Int}(h0:0<=p)(h1:p<=60):aB4 (.int 1) (.int p)= .ok (.int ((2^p.toNat:Nat):Int)):=by
 have hc:(decide (0<=p)&&decide (p<=1000000)&&decide ((1:Int).natAbs<2^64))=true:=by
  rw[zAC,zAC,decide_eq_true_eq,decide_eq_true_eq];exact⟨⟨by lia,by lia⟩,by decide⟩
 unfold aB4 i2;dsimp only;rw[if_pos hc];simp
def aH1{a b:Nat}(h:b<=a):lU (.int (a:Int)) (.int (b:Int))= .ok (.int ((a-b:Nat):Int)):=by
 rw[aAA];congr 2;lia
abbrev bgE(n:Int)(ps:gX)(ll:dQ)(L:List D)(s3 s4 s5 s6:Slot):En:=[.sh (owD n ps),.sh (.lst (ll.map .lst)),.ow (.lst L),s3,s4,s5,s6]
def bgD(ps:gX)(q:Nat×Int):D:=.tup [.int (q.1:Int),.int q.2,.int ((q.1-2^q.2.toNat:Nat):Int),.lst ((hdL ps (q.1-2^q.2.toNat) q.2).map .int)]
def bgL(n:Int)(i:Nat):List (Nat×Int):=(zA1 i).flatMap λ k=>(aV n (k+1)).map λ p=>(k+1,p)
def qT(n:Int)(i:Nat):bgL n (i+1)=bgL n i++(aV n (i+1)).map λ p=>(i+1,p):=by
 unfold bgL;rw[zCi,List.flatMap_append];simp
def aDT(n:Int)(i:Nat):(bgL n i).length<=i*n.toNat:=by
 induction i with
 |zero=>exact zAj _
 |succ i ih=>
  rw[qT,zAT,zAD,Nat.succ_mul]
  have:(aV n (i+1)).length<=n.toNat:=by
   have:=zCP (λ p:Int=>(i+1).testBit p.toNat) (upI n)
   rw[iT]at this;exact this
  lia
section
variable{n:Int}{ps:gX}{ll:dQ}{g:Nat}{p:Int}{L:List D}{s5 s6:Slot}
def aLr(O:Ow n ps)(low:∀p∈ps,p.1<p.2)(r:Nat)(p:Int):(hdL ps r p).length<=n.toNat:=by
 have nd:=(rC (bw O) low p).filter λ h=>r.testBit h.toNat
 have:=jX (m:=upI n) nd λ x hx=>fP.mpr (uE O (zAV.mp hx).1)
 rw[iT]at this;exact this
def aMU(O:Ow n ps)(low:∀p∈ps,p.1<p.2)(hn:n<=6)(hg:g<2^n.toNat)(hp:p∈aV n g)(item:∀i:Int,0<=i->i<n->atD (ll.map .lst) i= .ok (.lst ((eY (dbl ps) i).map .int)))(hL:L.length<=10000):
  ∃s5' s6',bgI (bgE n ps ll L (.sh (.int (g:Int))) (.sh (.int p)) s5 s6)= .nx (bgE n ps ll (L++[bgD ps (g,p)]) (.sh (.int (g:Int))) (.sh (.int p)) s5' s6'):=by
 obtain⟨⟨p0,p1⟩,pb⟩:=bF.mp hp;obtain⟨h1,h2,_⟩:=nH hn hg hp;obtain⟨r,er⟩:∃r,r=g-2^p.toNat:=⟨_,rfl⟩
 have e1:cV 5 (op2 lU (aB 3) (op2 aB4 (cD (.int 1)) (aB 4))) (bgE n ps ll L (.sh (.int (g:Int))) (.sh (.int p)) s5 s6)= .nx (bgE n ps ll L (.sh (.int (g:Int))) (.sh (.int p)) (.sh (.int (r:Int))) s6):=by
  have a:=yP p0 (by lia);have b:=aH1 h1;rw[<-er]at b;have v3:aB 3 (bgE n ps ll L (.sh (.int (g:Int))) (.sh (.int p)) s5 s6)= .ok (.int (g:Int)):=rfl;have v4:aB 4 (bgE n ps ll L (.sh (.int (g:Int))) (.sh (.int p)) s5 s6)= .ok (.int p):=rfl;rw[kW,iW,v3,aj,iW,aKK,aj,v4,aj,a,dq,aj,b,dq,cA];rfl
 have e2:bgH (bgE n ps ll L (.sh (.int (g:Int))) (.sh (.int p)) (.sh (.int (r:Int))) s6)= .ok (.lst ((hdL ps r p).map .int)):=by
  have hll:(eY (dbl ps) p).length<=6:=by
   have:=jX (m:=upI n) (rC (bw O) low p) λ x hx=>fP.mpr (uE O hx)
   rw[iT]at this;lia
  refine lH (ds:=(eY (dbl ps) p).map .int) (by simp[shE,q9,item p p0 p1]) (by rw[zAD];lia) (qI _ λ h hh=>⟨[.sh (.int h),.sh (.int (r:Int))],rfl,?_,rfl⟩);obtain⟨a,b⟩:=uE O hh;have e2:=aC8 r h.toNat;have e3:aAE (.int (r:Int)) (.int h)= .ok (.int ((r:Int) / 2^h.toNat)):=by simp[aAE,i2,a]
  have e4:m7 (.int ((r:Int) / 2^h.toNat)) (.int 1)= .ok (.int (if r.testBit h.toNat then 1 else 0)):=by
   rw[<-e2];rfl
  cases c:r.testBit h.toNat<;>rw[c]at e4<;>simp[e3,e4,tst]
 refine⟨.sh (.int (r:Int)),.nw (.lst ((hdL ps r p).map .int)),?_⟩;rw[bgI,aQ,e1,bK,aQ,nC,e2,cA];show Ou.sq (.nx (bgE n ps ll L (.sh (.int (g:Int))) (.sh (.int p)) (.sh (.int (r:Int))) (.nw (.lst ((hdL ps r p).map .int))))) _=_;rw[bK];have ht:cO (aD (bG (aB 3)) (aD (bG (aB 4)) (aD (bG (aB 5)) (aD (qZ 6) aK)))) (bgE n ps ll L (.sh (.int (g:Int))) (.sh (.int p)) (.sh (.int (r:Int))) (.nw (.lst ((hdL ps r p).map .int))))= .ok (bgD ps (g,p)):=by
  unfold bgD;dsimp only;rw[<-er];rfl
 show((cO (aD (bG (aB 3)) (aD (bG (aB 4)) (aD (bG (aB 5)) (aD (qZ 6) aK)))) (bgE n ps ll L (.sh (.int (g:Int))) (.sh (.int p)) (.sh (.int (r:Int))) (.nw (.lst ((hdL ps r p).map .int))))).bo λ d=>if L.length<zAK then .nx (zHs (bgE n ps ll L (.sh (.int (g:Int))) (.sh (.int p)) (.sh (.int (r:Int))) (.nw (.lst ((hdL ps r p).map .int)))) 2 (.ow (.lst (L++[d]))))else .st)=_
 rw[ht,cA,if_pos (by rw[szl];lia)];rfl
def aMT(O:Ow n ps)(low:∀p∈ps,p.1<p.2)(hn:n<=6)(hg:g<2^n.toNat)(item:∀i:Int,0<=i->i<n->atD (ll.map .lst) i= .ok (.lst ((eY (dbl ps) i).map .int)))(hL:L.length<=1000){s4:Slot}:
  ∃s4' s5' s6',bgO (bgE n ps ll L (.sh (.int (g:Int))) s4 s5 s6)= .nx (bgE n ps ll (L++(aV n g).map λ p=>bgD ps (g,p)) (.sh (.int (g:Int))) s4' s5' s6'):=by
 have hpl:=ym O.n0 O.n1 hg;have hi:gW (au gf (aD (aB 3) aK)) (bgE n ps ll L (.sh (.int (g:Int))) s4 s5 s6)= .ok ((aV n g).map .int):=by simp[hpl]
 have hbl:(aV n g).length<=6:=by
  have:=zCP (λ p:Int=>g.testBit p.toNat) (upI n)
  rw[iT]at this
  have:(aV n g).length<=n.toNat:=this
  lia
 obtain⟨Y',e,t4,t5,t6,rfl⟩:=gY (ds:=(aV n g).map .int) (a:=gnm 4) (u:=bgI) (Y:=bgE n ps ll L (.sh (.int (g:Int))) s4 s5 s6)
  (λ j Y=>∃t4 t5 t6,Y=bgE n ps ll (L++((aV n g).take j).map λ p=>bgD ps (g,p)) (.sh (.int (g:Int))) t4 t5 t6) (by
   rintro j d Y hd ⟨t4,t5,t6,rfl⟩;rw[zAZ]at hd;cases ep:(aV n g)[j]? with
   |none=>rw[ep]at hd;cases hd
   |some p=>
    rw[ep]at hd;cases hd;obtain⟨u5,u6,e⟩:=aMU (L:=L++((aV n g).take j).map λ p=>bgD ps (g,p)) (s5:=t5) (s6:=t6) O low hn hg (zAg ep) item (by rw[zAT,zAD,zBk];lia);refine⟨_,e,.sh (.int p),u5,u6,?_⟩;rw[zCr,ep,zAc,zCZ];rfl) ⟨s4,s5,s6,by simp⟩
 rw[zAD,zCJ (zAP _)]at e;exact⟨t4,t5,t6,by rw[bgO,iD,hi,cA,e]⟩
def aEZ(O:Ow n ps)(low:∀p∈ps,p.1<p.2)(hn:n<=6):m9 [owD n ps]= .ok (.lst ((bgL n (2^n.toNat-1)).map (bgD ps))):=by
 obtain⟨ll,el,_,item⟩:=zc O;have hn0:=O.n0;have st:ao 7 [owD n ps]=[.sh (owD n ps),.no,.no,.no,.no,.no,.no]:=rfl;have c1:cV 1 (au jE (aD (aB 0) aK)) [.sh (owD n ps),.no,.no,.no,.no,.no,.no]= .nx [.sh (owD n ps),.sh (.lst (ll.map .lst)),.no,.no,.no,.no,.no]:=by simp[el]
 have c2:j7 2 (iY aK) [.sh (owD n ps),.sh (.lst (ll.map .lst)),.no,.no,.no,.no,.no]= .nx (bgE n ps ll [] .no .no .no .no):=by simp
 obtain⟨M,eM⟩:∃M,M=2^n.toNat:=⟨_,rfl⟩
 have hM:M<=64:=by
  have:2^n.toNat<=2^6:=zAr (by decide) (by lia)
  lia
 have hM1:1<=M:=by rw[eM];exact zCk _
 have hi:bgR (bgE n ps ll [] .no .no .no .no)= .ok (dD 1 M):=by
  have a:=yP hn0 (show n<=60 by lia);rw[<-eM]at a;have b:=qD (i:=1) (j:=(M:Int)) (by decide) (by decide) (by lia) (by lia);have hx:ixD (owD n ps) (.int 0)= .ok (.int n):=by simp[owD]
  simp[bgR,hx,a,b]
 obtain⟨Y',e,t3,t4,t5,t6,rfl⟩:=gY (ds:=dD 1 M) (a:=gnm 3) (u:=bgO) (Y:=bgE n ps ll [] .no .no .no .no)
  (λ i Y=>∃t3 t4 t5 t6,Y=bgE n ps ll ((bgL n i).map (bgD ps)) t3 t4 t5 t6) (by
   rintro i d Y hd ⟨t3,t4,t5,t6,rfl⟩;obtain⟨rfl,hlt⟩:=mF hd;obtain⟨g,eg⟩:∃g:Nat,g=i+1:=⟨_,rfl⟩
   have ei:(1+(i:Int))=(g:Int):=by lia
   have hW:=aDT n i;have hle:i*n.toNat<=64*6:=zHt (by lia) (by lia);obtain⟨u4,u5,u6,e⟩:=aMT (L:=(bgL n i).map (bgD ps)) (g:=g) (s4:=t4) (s5:=t5) (s6:=t6) O low hn (by rw[<-eM];lia) item (by rw[zAD];lia);rw[ei,aGd,uy];refine⟨_,(show bgO (bgE n ps ll ((bgL n i).map (bgD ps)) (.sh (.int (g:Int))) t4 t5 t6)=_ from e),.sh (.int (g:Int)),u4,u5,u6,?_⟩;rw[qT,zAc,zAU,<-eg];rfl) ⟨_,_,_,_,rfl⟩
 have hW:(dD 1 M).length=M-1:=by rw[jb];lia
 rw[hW]at e;rw[<-eM];simp only[m9,jk,bO,st];rw[aQ,c1,bK,aQ,c2,bK,aQ,iD,hi,cA,e,bK];rfl
end
section
variable{n:Int}{ps:gX}{g:Nat}{p:Int}
def aGC{i:Nat}:(g,p)∈bgL n i↔(1<=g/\g<=i)/\p∈aV n g:=by
 unfold bgL;rw[zCI];constructor
 .rintro⟨k,hk,h⟩
  obtain⟨q,hq,e⟩:=zAX.mp h;injection e with e1 e2
  subst e1 e2
  have:=zAn.mp hk
  exact⟨⟨by lia,by lia⟩,hq⟩
 .rintro⟨⟨h1,h2⟩,h3⟩
  refine⟨g-1,zAn.mpr (by lia),zAX.mpr ⟨p,?_,?_⟩⟩
  .rw[show g-1+1=g by lia];exact h3
  .rw[show g-1+1=g by lia]
def aMS(n:Int)(i:Nat):(bgL n i).Pairwise λ a b=>a.1<b.1\/a.1=b.1/\a.2<b.2:=by
 induction i with
 |zero=>exact zDr
 |succ i ih=>
  rw[qT,List.pairwise_append];refine⟨ih,?_,λ a ha b hb=>?_⟩
  .rw[zBH]
   exact(aBE n (i+1)).imp λ h=>.inr ⟨rfl,h⟩
  .obtain⟨a1,a2⟩:=a
   have:=(aGC.mp ha).1
   obtain⟨q,_,rfl⟩:=zAX.mp hb;exact .inl (by lia)
def aEY{B:List (Nat×Int)}(hB:B.Pairwise λ a b=>a.1<b.1\/a.1=b.1/\a.2<b.2){i:Nat}{q r:Nat×Int}(hi:B[i]? =some r)(hq:q∈B)(hl:q.1<r.1):q∈B.take i:=by
 obtain⟨j,hj,ej⟩:=zGj hq;obtain⟨hi1,hi2⟩:=zAJ.mp hi;have hji:j<i:=by
  refine zAq λ z=>?_
  by_cases c:j=i
  .subst c
   rw[ej]at hi2;rw[hi2]at hl;lia
  .have:=(zD6.mp hB) i j hi1 hj (by lia)
   rw[ej,hi2]at this;lia
 rw[zFl];exact⟨j,by lia,ej⟩
def aMR{B:List (Nat×Int)}(hB:B.Pairwise λ a b=>a.1<b.1\/a.1=b.1/\a.2<b.2){i:Nat}{r:Nat×Int}(hi:B[i]? =some r):r∉B.take i:=λ h=>by
 obtain⟨hi1,hi2⟩:=zAJ.mp hi;rw[zFl]at h;obtain⟨j,hj,ej⟩:=h
 have:=(zD6.mp hB) j i (by lia) hi1 (by lia)
 rw[ej,hi2]at this;lia
def en2(ps:gX)(q:Nat×Int):List Int×D:=([(q.1:Int),q.2],.int ((dpL ps q.1 q.2).length:Int))
theorem aGo:∀{l:List (Nat×Int)},(g,p)∈l->(l.map (en2 ps)).lookup [(g:Int),p]=some (.int ((dpL ps g p).length:Int))
 |x::l,h=>by
  rw[zAE,en2,zAb];by_cases c:x=(g,p)
  .subst c
   simp
  .have hne:([(g:Int),p]==[(x.1:Int),x.2])=false:=by
    rw[beq_eq_false_iff_ne];intro z;injection z with z1 z2
    injection z2 with z2
    exact c (zHB (by lia) z2.symm)
   rw[hne];exact aGo ((zAN.mp h).resolve_left λ z=>c z.symm)
def aMC{l:List (Nat×Int)}(h:(g,p)∉l):((l.map (en2 ps)).map (·.1)).any (·==[(g:Int),p])=false:=by
 rw[zHM];intro k hk z;rw[zAU]at hk;obtain⟨x,hx,rfl⟩:=zAX.mp hk;have z:[(x.1:Int),x.2]=[(g:Int),p]:=by simpa[en2]using z
 injection z with z1 z2
 injection z2 with z2
 refine h ?_;rw[show(g,p)=x from zHB (by dsimp only;lia) z2.symm];exact hx
def Dc(ps:gX)(l:List (Nat×Int))(c:D):Prop:=∃ks vs,c= .dct ks vs/\wK ks vs=some (l.map (en2 ps))
def Dc.at{l:List (Nat×Int)}{c:D}(h:Dc ps l c)(hm:(g,p)∈l):aD5 c (.tup [.int (g:Int),.int p])= .ok (.int ((dpL ps g p).length:Int)):=by
 obtain⟨ks,vs,rfl,hp⟩:=h;have hk:zK (.tup [.int (g:Int),.int p])=some [(g:Int),p]:=vI [(g:Int),p];unfold aD5;dsimp only;rw[hk,hp];dsimp only;rw[aGo hm]
def tlS(ps:gX)(a:gX)(q:Nat×Int):gX:=if (a.any λ p=>decide (p.1=(q.1:Int)))=true then a.map (λ p=>if p.1=(q.1:Int)then(p.1,(a.lookup (q.1:Int)).getD 0+((dpL ps q.1 q.2).length:Int))else p)else a++[((q.1:Int),((a.lookup (q.1:Int)).getD 0+(dpL ps q.1 q.2).length:Int))]
theorem zF{β:Type}:∀{a:List (Int×β)} {x:Int},x∉a.map (·.1)->a.lookup x=none
 |[],_,_=>rfl
 |q::a,x,h=>by
  rw[zAE,zAN,not_or]at h;rw[zAb,show(x==q.1)=false from beq_eq_false_iff_ne.mpr h.1];exact zF h.2
theorem fQ:∀{a:gX} {x s:Int},x∉a.map (·.1)->(a++[(x,s)]).lookup x=some s
 |[],x,s,_=>by simp[zAb]
 |q::a,x,s,h=>by
  rw[zAE,zAN,not_or]at h;rw[zBj,zAb,show(x==q.1)=false from beq_eq_false_iff_ne.mpr h.1];exact fQ h.2
def aHX{a:gX}(h:(g:Int)∉a.map (·.1)):tlS ps a (g,p)=a++[((g:Int),((dpL ps g p).length:Int))]:=by
 unfold tlS;dsimp only;rw[if_neg,zF h]
 .simp
 .rw[zEs]
  rintro⟨q,hq,e⟩;exact h (zAX.mpr ⟨q,hq,of_decide_eq_true e⟩)
def aHW{a:gX}{s:Int}(h:(g:Int)∉a.map (·.1)):tlS ps (a++[((g:Int),s)]) (g,p)=a++[((g:Int),s+((dpL ps g p).length:Int))]:=by
 unfold tlS;dsimp only;rw[if_pos (by simp),fQ h,zAc];congr 1
 .have:∀q∈a,(if q.1=(g:Int)then(q.1,(some s).getD 0+((dpL ps g p).length:Int))else q)=q:=λ q hq=>if_neg λ e=>h (zAX.mpr ⟨q,hq,e⟩)
  rw[zCC this,List.map_id']
 .simp
theorem aC3{a:gX}(h:(g:Int)∉a.map (·.1)):∀(l:List Int) (s:Int),(l.map λ p=>(g,p)).foldl (tlS ps) (a++[((g:Int),s)])=a++[((g:Int),s+(((l.map λ p=>(dpL ps g p).length).sum:Nat):Int))]
 |[],s=>by simp
 |p::l,s=>by
  rw[zAE,zBu,aHW h,aC3 h l,zAE,zDj,zHe,Int.add_assoc]
theorem aEe(hn:n<=6):∀i:Nat,i<2^n.toNat->(bgL n i).foldl (tlS ps) []=(zA1 i).map λ k=>(((k+1:Nat):Int),((dgL n ps (k+1)).length:Int))
 |0,_=>rfl
 |i+1,hi=>by
  have hx:(((i+1:Nat):Int))∉((zA1 i).map λ k=>(((k+1:Nat):Int),((dgL n ps (k+1)).length:Int))).map (·.1):=by
   rw[zAU];intro z;obtain⟨k,hk,e⟩:=zAX.mp z
   have:=zAn.mp hk
   have e:((k+1:Nat):Int)=((i+1:Nat):Int):=e;lia
  rw[qT,zDc,aEe hn i (by lia),zCi,zAc];have hl:(dgL n ps (i+1)).length=((aV n (i+1)).map λ p=>(dpL ps (i+1) p).length).sum:=by
   unfold dgL;rw[zDS]
  cases hb:aV n (i+1)with
  |nil=>exact absurd (jr hn hi λ x hx=>by rw[hb]at hx;cases hx) (by lia)
  |cons p l=>
   rw[hb,zAE,zDj]at hl;rw[zAE,zBu,aHX hx,aC3 hx,List.map_singleton,hl];congr 4
abbrev wcE(n:Int)(ps:gX)(c:D)(b:gX)(g:Nat)(p:Int)(r:Nat)(hs:List Int)(s7:Slot):En:=[.sh (owD n ps),.ow c,.ow (dF b),.sh (.int (g:Int)),.sh (.int p),.sh (.int (r:Int)),.sh (.lst (hs.map .int)),s7]
def aFv(ns:List Int):nu (λ ns=>some ns.sum) [.lst (ns.map .int)]= .ok (.int ns.sum):=by
 unfold nu;dsimp only;rw[dH]
def aKM{l:List (Nat×Int)}{c:D}{b:gX}{r:Nat}{hs:List Int}{s7:Slot}(er:r=g-2^p.toNat)(eh:hs=hdL ps r p)(hl:hs.length<=6)(hc:Dc ps l c)(hh:∀h∈hs,(r,h)∈l):
  wcT (wcE n ps c b g p r hs s7)= .ok (.int ((dpL ps g p).length:Int)):=by
 have t:tsb (op2 (eqR false) (aB 5) (cD (.int 0))) (wcE n ps c b g p r hs s7)= .ok (decide (r=0)):=by
  by_cases c0:r=0
  .subst c0;rfl
  .have:((r:Int)==0)=false:=by rw[beq_eq_false_iff_ne];lia
   have q0:eqR false (.int (r:Int)) (.int 0)= .ok (.bl ((r:Int)==0)):=rfl;have q:eqR false (.int (r:Int)) (.int 0)= .ok (.bl false):=by rw[q0,this]
   simp[q,c0]
 rw[wcT,aLp,t,aj];by_cases c0:r=0
 .rw[decide_eq_true c0,if_pos rfl,aCO (er▸c0)]
  rfl
 .rw[decide_eq_false c0,if_neg zA7,zR (er▸c0),<-er,<-eh]
  have e:wcL (wcE n ps c b g p r hs s7)= .ok (.lst ((hs.map λ h=>((dpL ps r h).length:Int)).map .int)):=by
   rw[zAU];refine lH (ds:=hs.map .int) (by simp[shE,q9]) (by rw[zAD];lia) (mK hs λ h hm=>⟨[.sh (.int h),.sh c,.sh (.int (r:Int))],rfl,?_⟩);have ht:=hc.at (hh h hm)
   have:op2 aD5 (aB 1) (cO (aD (aB 2) (aD (aB 0) aK))) [.sh (.int h),.sh c,.sh (.int (r:Int))]= .ok (.int ((dpL ps r h).length:Int)):=by simp[ht]
   rw[zO,this];rfl
  rw[yq,cJ,e,aj,lE,aj,aj,aFv,dq];congr 2;rw[zDS];simp only[zAD];clear e hh eh hl t;induction hs with
  |nil=>rfl
  |cons h hs ih=>rw[zAE,zAE,zDj,zDj,ih];lia
def aGI(b:gX)(x:Int):(((b.map λ p=>(p.1,D.int p.2)).lookup x).getD (.int 0))= .int ((b.lookup x).getD 0):=by
 induction b with
 |nil=>rfl
 |cons q b ih=>
  rw[zAE,zAb,zAb];cases x==q.1
  .exact ih
  .rfl
def aIA(b:gX)(x v:Int):tG (b.map λ p=>(p.1,D.int p.2)) x (.int v)=(if (b.any λ p=>decide (p.1=x))=true then b.map (λ p=>if p.1=x then(p.1,v)else p)else b++[(x,v)]).map λ p=>(p.1,D.int p.2):=by
 unfold tG;rw[List.any_map]
 show(if (b.any λ p=>decide (p.1=x))=true then(b.map λ p=>(p.1,D.int p.2)).map (λ p=>if p.1=x then(p.1,D.int v)else p)else(b.map λ p=>(p.1,D.int p.2))++[(x,D.int v)])=_
 by_cases c:(b.any λ p=>decide (p.1=x))=true
 .rw[if_pos c,if_pos c,zAU,zAU]
  refine zCC λ q _=>?_
  show(if q.1=x then(q.1,D.int v)else(q.1,D.int q.2))=_
  dsimp only[zEP];split<;>rfl
 .rw[if_neg c,if_neg c,zAc]
  rfl
def aKN{c:D}{b:gX}{r:Nat}{hs:List Int}(hb:b.length<=10000):
  wcP (wcE n ps c b g p r hs (.sh (.int ((dpL ps g p).length:Int))))= .nx (wcE n ps c (tlS ps b (g,p)) g p r hs (.sh (.int ((dpL ps g p).length:Int)))):=by
 obtain⟨m,em⟩:∃m:Int,m=((dpL ps g p).length:Int):=⟨_,rfl⟩
 have e1:op2 cC (bG (aEK (nT 2) (aB 3) (cD (.int 0)))) (bG (aB 7)) (wcE n ps c b g p r hs (.sh (.int m)))= .ok (.int ((b.lookup (g:Int)).getD 0+m)):=by
  have hg:aEK (nT 2) (aB 3) (cD (.int 0)) (wcE n ps c b g p r hs (.sh (.int m)))= .ok (.int ((b.lookup (g:Int)).getD 0)):=by
   rw[<-aGI];unfold aEK;rw[show nT 2 (wcE n ps c b g p r hs (.sh (.int m)))= .ok (dF b)from rfl,aj];unfold dF rO;dsimp only;rw[jd];rfl
  rw[iW,zO,hg];rfl
 have e2:um (dF b) (.int (g:Int))=some (b.map λ p=>(p.1,D.int p.2),(g:Int)):=by
  unfold um dF rO;dsimp only;rw[jd];rfl
 rw[<-em];unfold wcP pdS
 show((op2 cC (bG (aEK (nT 2) (aB 3) (cD (.int 0)))) (bG (aB 7)) (wcE n ps c b g p r hs (.sh (.int m)))).bo λ d=>(aB 3 (wcE n ps c b g p r hs (.sh (.int m)))).bo λ k=>match um (dF b) k with
  |some (ps',j)=>if ps'.length<zAK then .nx ((wcE n ps c b g p r hs (.sh (.int m))).set 2 (.ow (rO (tG ps' j d))))else .st
  |none=>.st)=_
 rw[e1,cA,show aB 3 (wcE n ps c b g p r hs (.sh (.int m)))= .ok (.int (g:Int))from rfl,cA,e2];dsimp only;rw[if_pos (by rw[szl,zAD];lia),aIA];unfold tlS;dsimp only;rw[<-em];rfl
def aKO{l:List (Nat×Int)}{c:D}{b:gX}{r:Nat}{hs:List Int}{s7:Slot}(er:r=g-2^p.toNat)(eh:hs=hdL ps r p)(hl:hs.length<=6)(hc:Dc ps l c)(hh:∀h∈hs,(r,h)∈l)(dL:(g,p)∉l)(hll:l.length<=10000)(hb:b.length<=10000):
  ∃c' s7',wcB (wcE n ps c b g p r hs s7)= .nx (wcE n ps c' (tlS ps b (g,p)) g p r hs s7')/\Dc ps (l++[(g,p)]) c':=by
 have e1:=aKM (n:=n) (b:=b) (s7:=s7) er eh hl hc hh;obtain⟨ks,vs,rfl,hpr⟩:=hc;refine⟨aGq (l.map (en2 ps)++[en2 ps (g,p)]),.sh (.int ((dpL ps g p).length:Int)),?_,_,_,rfl,?_⟩
 .rw[wcB,aQ,kW,e1,cA]
  show Ou.sq (.nx (wcE n ps (.dct ks vs) b g p r hs (.sh (.int ((dpL ps g p).length:Int))))) _=_;rw[bK];have e3:=aKN (n:=n) (ps:=ps) (g:=g) (p:=p) (r:=r) (hs:=hs) (c:=aGq (l.map (en2 ps)++[en2 ps (g,p)])) hb;obtain⟨m,em⟩:∃m:Int,m=((dpL ps g p).length:Int):=⟨_,rfl⟩
  rw[<-em]at e3 ⊢;have ep:ul (.dct ks vs) (.tup [.int (g:Int),.int p])=some (l.map (en2 ps),[(g:Int),p]):=by
   have hk:zK (.tup [.int (g:Int),.int p])=some [(g:Int),p]:=vI [(g:Int),p];unfold ul;dsimp only;rw[hk,hpr]
  have eq:aAQ (l.map (en2 ps)) [(g:Int),p] (.int m)=l.map (en2 ps)++[en2 ps (g,p)]:=by
   unfold aAQ;rw[aMC dL,if_neg zA7,em];rfl
  have e2:ptS 1 (cO (aD (aB 3) (aD (aB 4) aK))) (bG (aB 7)) (wcE n ps (.dct ks vs) b g p r hs (.sh (.int m)))= .nx (wcE n ps (aGq (l.map (en2 ps)++[en2 ps (g,p)])) b g p r hs (.sh (.int m))):=by
   unfold ptS
   show((Rs.ok (D.int m)).bo λ d=>(Rs.ok (D.tup [.int (g:Int),.int p])).bo λ k=>match ul (.dct ks vs) k with
    |some (ps',j)=>if ps'.length<zAK then .nx ((wcE n ps (.dct ks vs) b g p r hs (.sh (.int m))).set 1 (.ow (aGq (aAQ ps' j d))))else .st
    |none=>.st)=_
   rw[cA,cA,ep];dsimp only;rw[if_pos (by rw[szl,zAD];lia),eq];rfl
  rw[aQ,e2,bK,e3]
 .refine(aF5 _).trans ?_
  rw[zAc];rfl
theorem aEd:∀(l:List (Nat×Int)) (a:gX),(l.foldl (tlS ps) a).length<=a.length+l.length
 |[],a=>by simp
 |q::l,a=>by
  rw[zBu,zA6];have h1:=aEd l (tlS ps a q);have h2:(tlS ps a q).length<=a.length+1:=by
   unfold tlS;split
   .rw[zAD];lia
   .rw[zAT];simp
  lia
def wyL(n:Int)(ps:gX)(m:Nat):gX:=(zA1 m).map λ k=>(((k+1:Nat):Int),((uL n ps (k+1)).length:Int))
def tD(O:Ow n ps)(low:∀p∈ps,p.1<p.2)(hn:n<=6):dU [owD n ps]= .ok (dF (wyL n ps (2^n.toNat-1))):=by
 have hb:=aEZ O low hn;obtain⟨M,eM⟩:∃M,M=2^n.toNat:=⟨_,rfl⟩
 have hM:M<=64:=by
  have:2^n.toNat<=2^6:=zAr (by decide) (by lia)
  lia
 have hM1:1<=M:=by rw[eM];exact zCk _
 have htl:=aEe (ps:=ps) hn (M-1) (by rw[<-eM];lia);have hu:∀k,k<M-1->(((dgL n ps (k+1)).length:Int)+1) / 2=((uL n ps (k+1)).length:Int):=λ k hk=>by
  have:=aKR O low hn (g:=k+1) (by rw[<-eM];lia) (by lia)
  lia
 rw[<-eM]at hb ⊢;obtain⟨B,eB⟩:∃B,B=bgL n (M-1):=⟨_,rfl⟩
 have hW:B.length<=9000:=by
  have h1:=aDT n (M-1);have h2:(M-1)*n.toNat<=64*6:=zHt (by lia) (by lia);rw[eB];lia
 have hlex:B.Pairwise λ a b=>a.1<b.1\/a.1=b.1/\a.2<b.2:=by rw[eB];exact aMS n _
 have hmem:∀{g:Nat} {p:Int},(g,p)∈B↔(1<=g/\g<=M-1)/\p∈aV n g:=by rw[eB];exact aGC
 rw[<-eB]at hb htl;have st:ao 8 [owD n ps]=[.sh (owD n ps),.no,.no,.no,.no,.no,.no,.no]:=rfl;have c1:j7 1 (cD (.dct [] [])) [.sh (owD n ps),.no,.no,.no,.no,.no,.no,.no]= .nx [.sh (owD n ps),.ow (.dct [] []),.no,.no,.no,.no,.no,.no]:=rfl;have c2:j7 2 (cD (.dct [] [])) [.sh (owD n ps),.ow (.dct [] []),.no,.no,.no,.no,.no,.no]= .nx [.sh (owD n ps),.ow (.dct [] []),.ow (.dct [] []),.no,.no,.no,.no,.no]:=rfl;have hi:gW (au m9 (aD (aB 0) aK)) [.sh (owD n ps),.ow (.dct [] []),.ow (.dct [] []),.no,.no,.no,.no,.no]= .ok (B.map (bgD ps)):=by simp[hb]
 obtain⟨Y',e,c,s3,s4,s5,s6,s7,rfl,hc⟩:=gY (ds:=B.map (bgD ps)) (a:=wcG) (u:=wcB) (Y:=[.sh (owD n ps),.ow (.dct [] []),.ow (.dct [] []),.no,.no,.no,.no,.no])
  (λ i Y=>∃(c:D) (s3 s4 s5 s6 s7:Slot),Y=[.sh (owD n ps),.ow c,.ow (dF ((B.take i).foldl (tlS ps) [])),s3,s4,s5,s6,s7]/\Dc ps (B.take i) c) (by
   rintro i d Y hd ⟨c,s3,s4,s5,s6,s7,rfl,hc⟩;rw[zAZ]at hd;cases eq:B[i]? with
   |none=>rw[eq]at hd;cases hd
   |some q=>
    rw[eq]at hd;cases hd;obtain⟨g,p⟩:=q;obtain⟨⟨g1,g2⟩,hp⟩:=hmem.mp (zAg eq);have hg:g<2^n.toNat:=by rw[<-eM];lia
    obtain⟨_,hlt,hbits⟩:=nH hn hg hp;have htk:(B.take i).length<=9000:=by rw[zBk];lia
    obtain⟨c',t7,e,hc'⟩:=aKO (n:=n) (g:=g) (p:=p) (r:=g-2^p.toNat) (hs:=hdL ps (g-2^p.toNat) p) (s7:=s7) (b:=(B.take i).foldl (tlS ps) []) rfl rfl (by have:=aLr O low (g-2^p.toNat) p;lia) hc (λ h hh=>by
     obtain⟨k1,k2⟩:=zAV.mp hh;have hb2:h∈aV n (g-2^p.toNat):=bF.mpr ⟨uE O k1,k2⟩;refine aEY hlex eq (hmem.mpr ⟨⟨?_,by lia⟩,hb2⟩) hlt;have k3:=zBJ k2
     have:=zCk h.toNat
     lia) (aMR hlex eq) (by lia) (by have:=aEd (ps:=ps) (B.take i) [];rw[zBQ]at this;lia)
    have eG:wcG (bgD ps (g,p)) [.sh (owD n ps),.ow c,.ow (dF ((B.take i).foldl (tlS ps) [])),s3,s4,s5,s6,s7]= .ok (wcE n ps c ((B.take i).foldl (tlS ps) []) g p (g-2^p.toNat) (hdL ps (g-2^p.toNat) p) s7):=rfl;rw[eG,uy];refine⟨_,(show wcB (wcE n ps c ((B.take i).foldl (tlS ps) []) g p (g-2^p.toNat) (hdL ps (g-2^p.toNat) p) s7)=_ from e),c',.sh (.int (g:Int)),.sh (.int p),.sh (.int ((g-2^p.toNat:Nat):Int)),.sh (.lst ((hdL ps (g-2^p.toNat) p).map .int)),t7,?_,?_⟩
    .rw[zCr,eq]
     show _=[.sh (owD n ps),.ow c',.ow (dF ((B.take i++[(g,p)]).foldl (tlS ps) [])),_,_,_,_,t7];rw[zDc];rfl
    .rw[zCr,eq]
     exact hc') ⟨_,_,_,_,_,_,rfl,[],[],rfl,rfl⟩
 rw[zAD,zCJ (zAP _),htl]at e;obtain⟨l,el⟩:∃l,l=(zA1 (M-1)).map λ k=>(((k+1:Nat):Int),((dgL n ps (k+1)).length:Int)):=⟨_,rfl⟩
 rw[<-el]at e;have ew:wcC [.sh (owD n ps),.ow c,.sh (.itm none l),s3,s4,s5,s6,s7]= .ok (dF (wyL n ps (M-1))):=by
  refine aGr (ds:=(zA1 (M-1)).map λ k=>.tup [.int ((k+1:Nat):Int),.int ((dgL n ps (k+1)).length:Int)]) ?_ (by rw[zAD,zB1];lia) ?_ ?_
  .show Rs.ok (l.map λ p=>D.tup [.int p.1,.int p.2])=_
   rw[el,zAU];rfl
  .unfold wyL
   rw[zAU,zAU];refine mK _ λ k hk=>⟨[.sh (.int ((k+1:Nat):Int)),.sh (.int ((dgL n ps (k+1)).length:Int))],rfl,?_⟩
   have h:=hu k (zAn.mp hk);have e2:op2 oF (op2 cC (aB 1) (cD (.int 1))) (cD (.int 2)) [.sh (.int ((k+1:Nat):Int)),.sh (.int ((dgL n ps (k+1)).length:Int))]= .ok (.int ((uL n ps (k+1)).length:Int)):=by
    have:=rM (i:=((dgL n ps (k+1)).length:Int)+1) (j:=2) (by decide) (by decide)
    rw[h]at this;simp[this]
   unfold pairE;rw[e2];rfl
  .unfold wyL
   rw[zAU,zAU];unfold zCY;rw[zBH];exact zEw.imp λ{a b} h e=>h (by have e:((a+1:Nat):Int)=((b+1:Nat):Int):=e;lia)
 have key:zq 2 (retS wcC) [.sh (owD n ps),.ow c,.ow (dF l),s3,s4,s5,s6,s7]= .rt (dF (wyL n ps (M-1))):=by
  have h:=(xT l).2;unfold zq;simp only[zCA,zCB];rw[(xT l).1];dsimp only;rw[h];show retS wcC [.sh (owD n ps),.ow c,.sh (.itm none l),s3,s4,s5,s6,s7]=_;rw[kj,ew];rfl
 simp only[dU,cQ,bO,st];rw[aQ,c1,bK,aQ,c2,bK,aQ,iD,hi,cA,e,bK,key]
end
def tyD(N:Nat)(f:Nat->Int):D:=.lst ((zA1 N).map λ j=>.int (f j))
def aGs{l:List D}:cutD l none (some (-1))=l.take (l.length-1):=by
 have e1:HT.sIx l.length l.length (some (-1))=l.length-1:=by simp[HT.sIx];lia
 have e2:HT.sIx l.length 0 none=0:=rfl;unfold cutD;rw[e1,e2,zFk,zGc]
def wF{N:Nat}{f h:Nat->Int}{t:Int}(h0:1<=N)(h1:N<=100)(hh:∀j,j<N->0<=h j/\h j<100000):fV [tyD N f,.int t,tyD N h]= .ok (tyD N λ j=>f j+t*if j=0 then 0 else h (j-1)):=by
 obtain⟨K,rfl⟩:∃K,N=K+1:=⟨N-1,by lia⟩
 have st:ao 4 [tyD (K+1) f,.int t,tyD (K+1) h]=[.sh (tyD (K+1) f),.sh (.int t),.sh (tyD (K+1) h),.no]:=rfl;have e1:twN [.sh (tyD (K+1) f),.sh (.int t),.sh (tyD (K+1) h),.no]= .ok (tyD (K+1) λ j=>if j=0 then 0 else h (j-1)):=by
  have a:aB3 (aB 2) aFu (aFt (op1 yx (cD (.int 1)))) [.sh (tyD (K+1) f),.sh (.int t),.sh (tyD (K+1) h),.no]= .ok (.lst ((zA1 K).map λ j=>.int (h j))):=by
   have hc:cutD ((zA1 (K+1)).map λ j=>D.int (h j)) none (some (-1))=(zA1 K).map λ j=>.int (h j):=by
    rw[aGs,zAD,zB1,<-List.map_take,List.take_range];simp
   have hi:dI ((zA1 K).map λ j=>D.int (h j))=true:=lJ λ d hd=>by obtain⟨w,_,rfl⟩:=zAX.mp hd;rfl
   show okD (slI (tyD (K+1) h) none (some (-1)))=_;unfold slI tyD;dsimp only;rw[hc,if_pos hi,dq]
  have b:iY (aD (cD (.int 0)) aK) [.sh (tyD (K+1) f),.sh (.int t),.sh (tyD (K+1) h),.no]= .ok (.lst [.int 0]):=rfl;rw[twN,iW,b,aj,a,aj,aNa (by rw[zAD,zB1,zAt];lia),dq];unfold tyD;rw[zCq,zAE,zAU];rfl
 have e2:twL [.sh (tyD (K+1) f),.sh (.int t),.sh (tyD (K+1) h),.nw (tyD (K+1) λ j=>if j=0 then 0 else h (j-1))]= .ok (tyD (K+1) λ j=>f j+t*if j=0 then 0 else h (j-1)):=by
  refine lH (ds:=(zA1 (K+1)).map λ j=>.tup [.int (f j),.int (if j=0 then 0 else h (j-1))]) ?_ (by rw[zAD,zB1];lia) ?_
  .show Rs.ok (aBO _ _)=_
   unfold aBO;rw[List.zip_map',zAU];rfl
  .refine mK _ λ j hj=>⟨[.sh (.int (f j)),.sh (.int (if j=0 then 0 else h (j-1))),.sh (.int t)],rfl,?_⟩
   have hb:0<=(if j=0 then 0 else h (j-1))/\(if j=0 then 0 else h (j-1))<100000:=by
    have:=zAn.mp hj
    have:=hh (j-1) (by lia)
    split<;>lia
   obtain⟨v,ev⟩:∃v:Int,v=if j=0 then 0 else h (j-1):=⟨_,rfl⟩
   rw[<-ev]at hb ⊢;have m:=aBt (i:=t) (j:=v) (by lia) (by lia);simp[m];rw[ev]
 have key:cY [.sh (tyD (K+1) f),.sh (.int t),.sh (tyD (K+1) h),.no]= .rt (tyD (K+1) λ j=>f j+t*if j=0 then 0 else h (j-1)):=by
  rw[cY,aQ,nC,e1,cA];show Ou.sq (.nx [.sh (tyD (K+1) f),.sh (.int t),.sh (tyD (K+1) h),.nw (tyD (K+1) λ j=>if j=0 then 0 else h (j-1))]) (retS twL)=_;rw[bK,kj,e2];rfl
 unfold fV;rw[bO,st,key]
theorem aA6(v:Nat->D):∀(m k:Nat),k<m->((zA1 m).map λ k=>(((k+1:Nat):Int),v k)).lookup ((k+1:Nat):Int)=some (v k)
 |m+1,k,h=>by
  rw[zCi,zAc,zDY];by_cases c:k<m
  .rw[aA6 v m k c];rfl
  .have:k=m:=by lia
   subst this;rw[zF]
   .simp
   .rw[zAU]
    intro z;obtain⟨i,hi,e⟩:=zAX.mp z
    have:=zAn.mp hi
    have e:((i+1:Nat):Int)=((k+1:Nat):Int):=e;lia
def aFK(k:Nat):(zAO k [D.int 0]).flatten=(zA1 k).map λ _=>D.int 0:=by
 rw[zH9,zB1];induction k with
 |zero=>rfl
 |succ k ih=>rw[zBL,zBt,ih,zBL];rfl
def mul_zero{k:Nat}(h:k<=100):fO (.lst [.int 0]) (.int (k:Int))= .ok (tyD k λ _=>0):=by
 unfold fO;dsimp only;rw[if_pos,zHW,aFK]
 .rfl
 .simp[szl,dI,imm]
  lia
def aMB(N:Nat)(f:Nat->Int):aAl ((zA1 N).map λ j=>.int (f j))=(zA1 N).map λ j=>.tup [.int (j:Int),.int (f j)]:=by
 unfold aAl;refine List.ext_getElem (by simp) λ i h1 h2=>?_
 simp
section
variable{n:Int}{ps:gX}{g:Nat}{s4 s5 s6:Slot}
def vq(O:Ow n ps)(low:∀p∈ps,p.1<p.2)(hn:n<=10):cB [owD n ps]= .ok .non:=by
 have hc:=qP O low;have st:ao 1 [owD n ps]=[.sh (owD n ps)]:=rfl;have hx:ixD (owD n ps) (.int 0)= .ok (.int n):=by simp[owD]
 have c1:ctI [.sh (owD n ps)]= .nx [.sh (owD n ps)]:=by
  have:¬(10<n):=by lia
  simp[ctI,hx,this]
 simp only[cB,bz,bO,st];simp[hc,c1]
abbrev cnE(n:Int)(ps:gX)(T:List D)(s4 s5 s6:Slot):En:=[.sh (owD n ps),.sh (.int n),.sh (dF (wyL n ps (2^n.toNat-1))),.ow (.lst T),s4,s5,s6]
def fgT(n:Int)(ps:gX)(g:Nat)(j:Nat):Int:=((fgL n ps g j).length:Int)
def fgA(n:Int)(ps:gX)(g:Nat)(l:List Nat)(j:Nat):Int:=if j=0 then 0 else(((l.map λ f=>(uL n ps f).length*(fgL n ps (g-f) (j-1)).length).sum:Nat):Int)
def aJK(hps:ps.length<=15)(g j:Nat):0<=fgT n ps g j/\fgT n ps g j<100000:=by
 unfold fgT fgL;have h1:=zCP (λ S=>(S.all λ p=>decide (p.1∈aV n g)&&decide (p.2∈aV n g))&&decide (S.length+j=(aV n g).length)) ((bh ps).map (·.1));have h2:=(qC ps).1;have h3:2^ps.length<=2^15:=zAr (by decide) hps;rw[zAD]at h1;lia
def aJL(O:Ow n ps)(low:∀p∈ps,p.1<p.2)(hn:n<=6)(hg:g<2^n.toNat)(h0:g≠0):fgA n ps g (fsL g)=fgT n ps g:=by
 funext j;unfold fgA fgT;cases j with
 |zero=>rw[if_pos rfl,aJJ O hn hg h0];rfl
 |succ k=>rw[if_neg (by lia),aMA O low hn hg h0];rfl
def aMF{m f:Nat}(h0:f≠0)(h1:f<=m):wN (dF (wyL n ps m)) (.int (f:Int))= .ok (.int ((uL n ps f).length:Int)):=by
 obtain⟨k,rfl⟩:∃k,f=k+1:=⟨f-1,by lia⟩
 unfold dF;refine aN4 ?_;unfold wyL;rw[zAU];exact aA6 (λ k=>.int ((uL n ps (k+1)).length:Int)) m k (by lia)
def aML{T:List D}{f:Nat}{l:List Nat}(hn0:0<=n)(hn:n<=6)(hps:ps.length<=15)(hg:g<2^n.toNat)(h0:g≠0)(hf:f∈fsL g)(hT:T=(zA1 g).map λ g=>tyD (n.toNat+1) (fgT n ps g)):
  cnI (cnE n ps T (.sh (.int (g:Int))) (.nw (tyD (n.toNat+1) (fgA n ps g l))) (.sh (.int (f:Int))))= .nx (cnE n ps T (.sh (.int (g:Int))) (.nw (tyD (n.toNat+1) (fgA n ps g (l++[f])))) (.sh (.int (f:Int)))):=by
 obtain⟨f1,f2,_⟩:=xV (gJ hn hg) h0 hf;have e1:=aMF (n:=n) (ps:=ps) (m:=2^n.toNat-1) f2 (by lia);have e2:atD T ((g:Int)-(f:Int))= .ok (tyD (n.toNat+1) (fgT n ps (g-f))):=by
  rw[show(g:Int)-(f:Int)=((g-f:Nat):Int)by lia];refine jQ ?_;rw[hT,zAZ,zDR (by lia)];rfl
 have e3:=wF (N:=n.toNat+1) (f:=fgA n ps g l) (h:=fgT n ps (g-f)) (t:=((uL n ps f).length:Int)) (by lia) (by lia) λ j _=>aJK hps _ j
 have e4:(λ j=>fgA n ps g l j+((uL n ps f).length:Int)*if j=0 then 0 else fgT n ps (g-f) (j-1))=fgA n ps g (l++[f]):=by
  funext j;unfold fgA;by_cases c:j=0
  .simp[c]
  .rw[if_neg c,if_neg c,if_neg c,zAc,List.sum_append]
   unfold fgT;simp
 rw[e4]at e3;have hc:au fV (aD (qZ 5) (aD (op2 wN (aB 2) (aB 6)) (aD (op2 ixD (nT 3) (op2 lU (aB 4) (aB 6))) aK))) (cnE n ps T (.sh (.int (g:Int))) (.nw (tyD (n.toNat+1) (fgA n ps g l))) (.sh (.int (f:Int))))= .ok (tyD (n.toNat+1) (fgA n ps g (l++[f]))):=by
  have v1:qZ 5 (cnE n ps T (.sh (.int (g:Int))) (.nw (tyD (n.toNat+1) (fgA n ps g l))) (.sh (.int (f:Int))))= .ok (tyD (n.toNat+1) (fgA n ps g l)):=rfl;have v2:op2 wN (aB 2) (aB 6) (cnE n ps T (.sh (.int (g:Int))) (.nw (tyD (n.toNat+1) (fgA n ps g l))) (.sh (.int (f:Int))))= .ok (.int ((uL n ps f).length:Int)):=by
   show okD (wN (dF (wyL n ps (2^n.toNat-1))) (.int (f:Int)))=_;rw[e1,dq]
  have v3:op2 ixD (nT 3) (op2 lU (aB 4) (aB 6)) (cnE n ps T (.sh (.int (g:Int))) (.nw (tyD (n.toNat+1) (fgA n ps g l))) (.sh (.int (f:Int))))= .ok (tyD (n.toNat+1) (fgT n ps (g-f))):=by
   show okD (atD T ((g:Int)-(f:Int)))=_;rw[e2,dq]
  rw[vy,cJ,v1,aj,cJ,v2,aj,cJ,v3,aj,lE,aj,aj,aj,aj,e3]
 rw[cnI,nC,hc,cA];rfl
def aMK{T:List D}(O:Ow n ps)(low:∀p∈ps,p.1<p.2)(hn:n<=6)(hps:ps.length<=15)(hg:g<2^n.toNat)(h0:g≠0)(hT:T=(zA1 g).map λ g=>tyD (n.toNat+1) (fgT n ps g)):
  ∃s5' s6',cnO (cnE n ps T (.sh (.int (g:Int))) s5 s6)= .nx (cnE n ps ((zA1 (g+1)).map λ g=>tyD (n.toNat+1) (fgT n ps g)) (.sh (.int (g:Int))) s5' s6'):=by
 have hn0:=O.n0;have h64:=gJ hn hg;have e1:op2 fO (iY (aD (cD (.int 0)) aK)) (op2 cC (bG (aB 1)) (cD (.int 1))) (cnE n ps T (.sh (.int (g:Int))) s5 s6)= .ok (tyD (n.toNat+1) (fgA n ps g [])):=by
  have a:=mul_zero (k:=n.toNat+1) (by lia);rw[show((n.toNat+1:Nat):Int)=n+1 by lia]at a;have b:fgA n ps g []=λ _=>0:=by funext j;unfold fgA;simp
  show okD (fO (.lst [.int 0]) (.int (n+1)))=_;rw[a,dq,b]
 have hi:gW (au m8 (aD (aB 4) aK)) (cnE n ps T (.sh (.int (g:Int))) (.nw (tyD (n.toNat+1) (fgA n ps g []))) s6)= .ok ((fsL g).map λ f:Nat=>.int (f:Int)):=by
  have:=aEI h64 h0
  simp[this]
 obtain⟨Y',e,t6,rfl⟩:=gY (ds:=(fsL g).map λ f:Nat=>.int (f:Int)) (a:=gnm 6) (u:=cnI) (Y:=cnE n ps T (.sh (.int (g:Int))) (.nw (tyD (n.toNat+1) (fgA n ps g []))) s6)
  (λ i Y=>∃t6,Y=cnE n ps T (.sh (.int (g:Int))) (.nw (tyD (n.toNat+1) (fgA n ps g ((fsL g).take i)))) t6) (by
   rintro i d Y hd ⟨t6,rfl⟩;rw[zAZ]at hd;cases eq:(fsL g)[i]? with
   |none=>rw[eq]at hd;cases hd
   |some f=>
    rw[eq]at hd;cases hd
    have:=aML (l:=(fsL g).take i) hn0 hn hps hg h0 (zAg eq) hT
    refine⟨_,this,.sh (.int (f:Int)),?_⟩;rw[zCr,eq];rfl) ⟨_,rfl⟩
 rw[zAD,zCJ (zAP _),aJL O low hn hg h0]at e;refine⟨.nw (tyD (n.toNat+1) (fgT n ps g)),t6,?_⟩;have hTl:T.length=g:=by rw[hT,zAD,zB1]
 rw[cnO,aQ,nC,e1,cA];show Ou.sq (.nx (cnE n ps T (.sh (.int (g:Int))) (.nw (tyD (n.toNat+1) (fgA n ps g []))) s6)) _=_;rw[bK,aQ,iD,hi,cA,e,bK]
 show((Rs.ok (tyD (n.toNat+1) (fgT n ps g))).bo λ d=>if T.length<zAK then .nx (zHs (cnE n ps T (.sh (.int (g:Int))) (.nw (tyD (n.toNat+1) (fgT n ps g))) t6) 3 (.ow (.lst (T++[d]))))else .st)=_
 rw[cA,if_pos (by rw[szl];lia),zCi,zAc,<-hT];rfl
def cnL(n:Int)(ps:gX):gX:=((zA1 (n.toNat+1)).filter λ j=>decide (0<fgT n ps (2^n.toNat-1) j)).map λ j:Nat=>((j:Int),fgT n ps (2^n.toNat-1) j)
def vm(O:Ow n ps)(low:∀p∈ps,p.1<p.2)(hn:n<=6)(hps:ps.length<=15):bY [owD n ps]= .ok (dF (cnL n ps)):=by
 have hn0:=O.n0;have hct:=vq O low (by lia);have hw:=tD O low hn;obtain⟨M,eM⟩:∃M,M=2^n.toNat:=⟨_,rfl⟩
 have hM:M<=64:=by
  have:2^n.toNat<=2^6:=zAr (by decide) (by lia)
  lia
 have hM1:1<=M:=by rw[eM];exact zCk _
 have st:ao 7 [owD n ps]=[.sh (owD n ps),.no,.no,.no,.no,.no,.no]:=rfl;have hx:ixD (owD n ps) (.int 0)= .ok (.int n):=by simp[owD]
 have c0:aAq (au cB (aD (aB 0) aK)) [.sh (owD n ps),.no,.no,.no,.no,.no,.no]= .nx [.sh (owD n ps),.no,.no,.no,.no,.no,.no]:=by simp[hct]
 have c1:cV 1 (op2 ixD (aB 0) (cD (.int 0))) [.sh (owD n ps),.no,.no,.no,.no,.no,.no]= .nx [.sh (owD n ps),.sh (.int n),.no,.no,.no,.no,.no]:=by simp[hx]
 have c2:cV 2 (au dU (aD (aB 0) aK)) [.sh (owD n ps),.sh (.int n),.no,.no,.no,.no,.no]= .nx [.sh (owD n ps),.sh (.int n),.sh (dF (wyL n ps (2^n.toNat-1))),.no,.no,.no,.no]:=by simp[hw]
 have c3:j7 3 cnT [.sh (owD n ps),.sh (.int n),.sh (dF (wyL n ps (2^n.toNat-1))),.no,.no,.no,.no]= .nx (cnE n ps ((zA1 1).map λ g=>tyD (n.toNat+1) (fgT n ps g)) .no .no .no):=by
  have a:=mul_zero (k:=n.toNat) (by lia);rw[show((n.toNat:Nat):Int)=n by lia]at a;have b:op2 fO (iY (aD (cD (.int 0)) aK)) (bG (aB 1)) [.sh (owD n ps),.sh (.int n),.sh (dF (wyL n ps (2^n.toNat-1))),.no,.no,.no,.no]= .ok (tyD n.toNat λ _=>0):=by
   show okD (fO (.lst [.int 0]) (.int n))=_;rw[a,dq]
  have c:iY (aD (cD (.int 1)) aK) [.sh (owD n ps),.sh (.int n),.sh (dF (wyL n ps (2^n.toNat-1))),.no,.no,.no,.no]= .ok (.lst [.int 1]):=rfl;have d:cC (.lst [.int 1]) (tyD n.toNat λ _=>0)= .ok (tyD (n.toNat+1) (fgT n ps 0)):=by
   unfold tyD;rw[aNa (by rw[zAD,zB1,zAt];lia),zCq,zAE,zAU];congr 2;show D.int 1::_=_;have z:fgT n ps 0=λ j=>if j=0 then 1 else 0:=by
    funext j;unfold fgT;rw[aJI O hn];split<;>rfl
   rw[z];congr 1
  unfold cnT;rw[aHf,aIe,cJ,iW,c,aj,b,aj,d,dq,aj];rfl
 have hi:cnR (cnE n ps ((zA1 1).map λ g=>tyD (n.toNat+1) (fgT n ps g)) .no .no .no)= .ok (dD 1 M):=by
  have a:=yP hn0 (show n<=60 by lia);rw[<-eM]at a;have b:=qD (i:=1) (j:=(M:Int)) (by decide) (by decide) (by lia) (by lia);simp[cnR,a,b]
 obtain⟨Y',e,t4,t5,t6,rfl⟩:=gY (ds:=dD 1 M) (a:=gnm 4) (u:=cnO) (Y:=cnE n ps ((zA1 1).map λ g=>tyD (n.toNat+1) (fgT n ps g)) .no .no .no)
  (λ i Y=>∃t4 t5 t6,Y=cnE n ps ((zA1 (i+1)).map λ g=>tyD (n.toNat+1) (fgT n ps g)) t4 t5 t6) (by
   rintro i d Y hd ⟨t4,t5,t6,rfl⟩;obtain⟨rfl,hlt⟩:=mF hd;have ei:(1+(i:Int))=((i+1:Nat):Int):=by lia
   obtain⟨u5,u6,e⟩:=aMK (g:=i+1) (s5:=t5) (s6:=t6) O low hn hps (by rw[<-eM];lia) (by lia) rfl;rw[ei,aGd,uy];exact⟨_,e,_,u5,u6,rfl⟩) ⟨_,_,_,rfl⟩
 have hW:(dD 1 M).length=M-1:=by rw[jb];lia
 rw[hW,show M-1+1=M by lia]at e;have ew:cnC (cnE n ps ((zA1 M).map λ g=>tyD (n.toNat+1) (fgT n ps g)) t4 t5 t6)= .ok (dF (cnL n ps)):=by
  refine aGr (ds:=(zA1 (n.toNat+1)).map λ j:Nat=>.tup [.int (j:Int),.int (fgT n ps (M-1) j)]) ?_ (by rw[zAD,zB1];lia) ?_ ?_
  .have a:atD ((zA1 M).map λ g=>tyD (n.toNat+1) (fgT n ps g)) (-1)= .ok (tyD (n.toNat+1) (fgT n ps (M-1))):=by
    rw[aJZ (by simp;lia),List.getLast_map,List.getLast_range]
   have b:op2 ixD (aB 3) (op1 yx (cD (.int 1))) (shE (cnE n ps ((zA1 M).map λ g=>tyD (n.toNat+1) (fgT n ps g)) t4 t5 t6))= .ok (tyD (n.toNat+1) (fgT n ps (M-1))):=by
    show okD (atD ((zA1 M).map λ g=>tyD (n.toNat+1) (fgT n ps g)) (-1))=_;rw[a,dq]
   rw[aCh,cJ,b,aj,lE,aj,aj];show Rs.ok (aAl _)=_;rw[aMB]
  .unfold cnL
   rw[zAU,zAU,<-eM];refine qI _ λ j hj=>⟨[.sh (.int (j:Int)),.sh (.int (fgT n ps (M-1) j))],rfl,?_,rfl⟩
   simp
  .unfold cnL
   rw[zAU,zAU];unfold zCY;rw[zBH];exact(zEw.filter _).imp λ{a b} h e=>h (by have e:(a:Int)=(b:Int):=e;lia)
 simp only[bY,fB,bO,st];rw[aQ,c0,bK,aQ,c1,bK,aQ,c2,bK,aQ,c3,bK,aQ,iD,hi,cA,e,bK,kj,ew];rfl
end
def aMX:gX:=(zA1 6).flatMap λ(i:Nat)=>((zA1 6).filter λ j=>decide (i<j)).map λ(j:Nat)=>((i:Int),(j:Int))
def aHH:aMX.length=15:=by decide+kernel
def zx{n:Int}{ps:gX}(h:Ow n ps)(low:∀p∈ps,p.1<p.2)(hn:n<=6):ps.length<=15:=by
 have:=jX (m:=aMX) (l:=ps) (bw h) λ p hp=>by
  have h1:=h.pr p hp;have h2:=low p hp;unfold aMX;rw[zCI];refine⟨p.1.toNat,by simp;lia,?_⟩;rw[zAX];refine⟨p.2.toNat,?_,?_⟩
  .rw[zAV]
   exact⟨by simp;lia,by simp;lia⟩
  .have e1:((p.1.toNat:Nat):Int)=p.1:=zBF (by lia)
   have e2:((p.2.toNat:Nat):Int)=p.2:=zBF (by lia);rw[e1,e2]
 rw[aHH]at this;exact this
def szL(n:Int)(ps:gX):List Int:=(bh ps).map λ t=>n-(t.1.length:Int)
section
variable{n:Int}{ps S:gX}
def aCU(hn:n<=6):aV n (2^n.toNat-1)=upI n:=by
 unfold aV;refine zB0.mpr λ x hx=>?_
 have:=fP.mp hx
 exact aEX n.toNat (by lia) x.toNat (by lia)
def yd(O:Ow n ps)(hS:S.Sublist ps):∀p∈S,p.1∈upI n/\p.2∈upI n:=λ p hp=>by
 have:=O.inn p (hS.subset hp)
 exact⟨fP.mpr this.1,fP.mpr this.2⟩
def aCg(O:Ow n ps)(hS:S.Sublist ps)(A:Ac S):(S.length:Int)<=n:=by
 have hn0:=O.n0;by_cases c:upI n=[]
 .cases S with
  |nil=>simpa using hn0
  |cons p r=>have:=(yd O hS p zAG).1;rw[c]at this;cases this
 .have h1:=A (upI n) (pR n) c
  have h2:inN (upI n) S=S.length:=by
   unfold inN;rw[zB0.mpr λ p hp=>by have:=yd O hS p hp;simp[this.1,this.2]]
  rw[iT]at h1;lia
def aDI(O:Ow n ps)(hn:n<=6)(j:Nat):fgT n ps (2^n.toNat-1) j=((szL n ps).countP λ a=>a==(j:Int):Nat):=by
 unfold fgT fgL szL;have hn0:=O.n0;rw[aCU hn,iT,zEA,<-List.countP_eq_length_filter,zEA];congr 1;refine List.countP_congr λ t ht=>?_
 have hr:t.1∈(bh ps).map (·.1):=zAX.mpr ⟨t,ht,rfl⟩;obtain⟨h1,h2,_⟩:=(j9 O.inn (bw O)).mp hr;have h3:=aCg O h1 h2;have h4:(t.1.all λ p=>decide (p.1∈upI n)&&decide (p.2∈upI n))=true:=zAm.mpr λ p hp=>by
  have:=yd O h1 p hp
  simp[this.1,this.2]
 simp only[zEP,h4,Bool.true_and,decide_eq_true_eq,beq_iff_eq];lia
def aJS(O:Ow n ps){lo:Int}(hm:(szL n ps).min?=some lo)(j:Nat)(hj:(j:Int)<=n):0<(szL n ps).countP (λ a=>a==(j:Int))↔lo<=(j:Int):=by
 rw[List.countP_pos_iff];have bS:=zCy.mp hm;constructor
 .rintro⟨a,ha,e⟩
  rw[<-beq_iff_eq.mp e];exact bS.2 a ha
 .intro h
  obtain⟨t,ht,e⟩:=zAX.mp bS.1;obtain⟨h1,h2,h3⟩:=(j9 O.inn (bw O)).mp (zAX.mpr ⟨t,ht,rfl⟩:t.1∈(bh ps).map (·.1));have hs:(t.1.take (n-(j:Int)).toNat).Sublist t.1:=zHO _ _;obtain⟨u,hu,eu⟩:=zAX.mp ((j9 O.inn (bw O)).mpr ⟨hs.trans h1,aHJ hs h2,λ x=>zAh (aDN hs x) (h3 x)⟩:t.1.take (n-(j:Int)).toNat∈(bh ps).map (·.1));refine⟨(j:Int),zAX.mpr ⟨u,hu,?_⟩,beq_self_eq_true _⟩;rw[eu,zBk];lia
theorem aDH(a:Nat):∀N:Nat,(zA1 N).filter (λ j=>decide (a<=j))=(zA1 (N-a)).map (a+·)
 |0=>by simp
 |N+1=>by
  rw[zCi,zBn,aDH a N];by_cases c:a<=N
  .rw[show N+1-a=N-a+1 by lia,zCi,zAc]
   simp[c]
  .rw[show N+1-a=N-a by lia]
   simp[c]
def aJd(O:Ow n ps){lo:Int}(hm:(szL n ps).min?=some lo):0<=lo/\lo<=n:=by
 have bS:=zCy.mp hm;obtain⟨t,ht,e⟩:=zAX.mp bS.1;obtain⟨h1,h2,h3⟩:=(j9 O.inn (bw O)).mp (zAX.mpr ⟨t,ht,rfl⟩:t.1∈(bh ps).map (·.1))
 have:=aCg O h1 h2
 lia
def aME(O:Ow n ps)(hn:n<=6){lo:Int}(hm:(szL n ps).min?=some lo):((zA1 (n+1-lo).toNat).map λ k:Nat=>(lo+(k:Int),(((szL n ps).countP λ a=>a==lo+(k:Int):Nat):Int)))=cnL n ps:=by
 have hn0:=O.n0;obtain⟨l0,l1⟩:=aJd O hm;have e:(zA1 (n.toNat+1)).filter (λ j=>decide (0<fgT n ps (2^n.toNat-1) j))=(zA1 (n+1-lo).toNat).map (lo.toNat+·):=by
  rw[show(n+1-lo).toNat=n.toNat+1-lo.toNat by lia,<-aDH];refine zBG λ j hj=>?_
  have:=zAn.mp hj
  have h:=aJS O hm j (by lia);rw[decide_eq_decide,aDI O hn];lia
 unfold cnL;rw[e,zAU];refine zCC λ k _=>?_
 dsimp only[zEP];rw[aDI O hn,show((lo.toNat+k:Nat):Int)=lo+(k:Int)by lia]
def aKZ(O:Ow n ps):∃lo,(szL n ps).min?=some lo:=by
 cases h:(szL n ps).min? with
 |some lo=>exact⟨lo,rfl⟩
 |none=>
  rw[List.min?_eq_none_iff]at h;obtain⟨t,ht,_⟩:=zAX.mp ((j9 O.inn (bw O)).mpr ⟨zH0 _,λ V _ ne=>by have:=zBE.mpr ne;simp[inN];lia,λ x=>by simp[dgr]⟩:([]:gX)∈(bh ps).map (·.1));unfold szL at h;rw[List.map_eq_nil_iff]at h;rw[h]at ht;cases ht
end
def vo{d:D}{c:Str}(h:cB [d]= .ex c):bY [d]= .ex c:=by
 have st:ao 7 [d]=[.sh d,.no,.no,.no,.no,.no,.no]:=rfl;have key:fB [.sh d,.no,.no,.no,.no,.no,.no]= .ex c:=by
  rw[fB,aQ];simp[h]
 unfold bY;rw[bO,st,key]
def zU{n:Int}(h0:10<n)(hn:n<=60):bY [.tup [.int n,.tup []]]= .ex "TooMany":=by
 have O:Ow n []:=⟨by lia,hn,by simp,λ p hp=>(nomatch hp),rfl⟩;have hc:=qP O (λ p hp=>(nomatch hp));have hc':dW [.tup [.int n,.tup []]]= .ok .non:=hc;refine vo ?_;have st:ao 1 [.tup [.int n,.tup []]]=[.sh (.tup [.int n,.tup []])]:=rfl;have c1:ctI [.sh (.tup [.int n,.tup []])]= .ex "TooMany":=by simp[ctI,h0]
 simp only[cB,bz,bO,st];simp[hc',c1]
def wO{n:Int}(h0:0<=n)(hn:n<=60):bY [.tup [.int n,.non]]= .ex "NoWeb":=by
 have hm:=vJ (d:=.int n) rfl;have hm:jy [.int n]= .ok (.bl true):=by rw[hm];simp[aA4,h0,hn]
 have hr:bA [.int n,.non]= .ok (.bl false):=by
  simp[bA,az,bO,ao]
 have ht:gH [.int n,.non]= .ok (.bl false):=by
  simp[gH,eQ,bO,ao,hr]
 have hw:ju [.tup [.int n,.non]]= .ok (.bl false):=by
  simp[ju,iw,bO,ao,hm,ht]
 have hc:dW [.tup [.int n,.non]]= .ex "NoWeb":=by
  have st:ao 1 [.tup [.int n,.non]]=[.sh (.tup [.int n,.non])]:=rfl;simp only[dW,dO,bO,st];simp[hw]
 refine vo ?_;have st:ao 1 [.tup [.int n,.non]]=[.sh (.tup [.int n,.non])]:=rfl;simp only[cB,bz,bO,st];simp[hc]
def aNR(l:gX):aDw (dF l)= .ok (.lst (l.map pD)):=by
 rw[(xT l).1];unfold aDw;dsimp only;rw[(xT l).2];rfl
def aN5(l:gX):aAx (dF l) (dF l)= .ok (.bl true):=by
 rw[(xT l).1];unfold aAx;dsimp only;rw[(xT l).2];dsimp only;rw[if_pos rfl]
def aJP(a:gX):iu (.lst (a.map pD))<=60/\aY (.lst (a.map pD))=true:=by
 have eT:∀d∈a.map pD,El 1 d:=λ d hd=>by
  obtain⟨x,_,rfl⟩:=zAX.mp hd;exact .tup (l:=[.int x.1,.int x.2]) λ d hd=>by
   have hd:d= .int x.1\/d= .int x.2:=by simpa using hd
   rcases hd with rfl|rfl<;>exact .int
 exact⟨by have:=v9 (k:=1) λ d hd=>(eT d hd).e;unfold iu;lia,by unfold aY;exact qz λ d hd=>(eT d hd).n⟩
def k4L:gX:=[(0,1),(0,2),(0,3),(1,2),(1,3),(2,3)]
def aNS:cnL 4 k4L=[(1,12),(2,15),(3,6),(4,1)]:=by decide+kernel
def lSz:En->Rs D:=(lcD (gW (au jC (aD (aB 3) aK))) [none,some 3] (gnm 0) jG (op2 lU (op2 ixD (aB 1) (cD (.int 0))) (opA pG (aD (aB 0) aK))))
def lDu:En->Rs D:=(lcD (fW ud (aD (opA (nj zFM) (aD (aB 4) aK)) (aD (op2 cC (op2 ixD (aB 3) (cD (.int 0))) (cD (.int 1))) aK))) [none,some 4] (gnm 0) jG (cO (aD (bG (aB 0)) (aD (opL aAz (aB 1) (aB 0)) aK))))
def lFb:En->Ou:=(aq (j7 7 (au bY (aD (aB 3) aK))) (aq (ifS (orT (tL (tst (op1 (mO "dict") (nT 7)))) (tsb (op2 (eqR true) (op1 aDw (nT 7)) (qZ 5)))) (retS (cD (.bl false))) Ou.nx) (aEN 7)))
abbrev lV(ns:List Int)(k c n:Int)(ps:gX)(s4 s5 s6 s7 s8:Slot):En:=[.sh (.scr ns),.sh (.int k),.sh (.int c),.sh (owD n ps),s4,s5,s6,s7,s8]
def aFM(h:fe (Y.map shS)= .ex c)(hw:wdN c=some w):aDg wdN "told" fe Y= .ok (.str w):=by
 unfold aDg;rw[h];dsimp only;rw[hw]
section
variable{n:Int}{ps:gX}{ns:List Int}{k c:Int}{s4 s5 s6 s7 s8:Slot}
def aLa(O:Ow n ps)(low:∀p∈ps,p.1<p.2)(hn:n<=6):lSz (lV ns k c n ps s4 s5 s6 s7 s8)= .ok (.lst ((szL n ps).map .int)):=by
 have hl:=zx O low hn;have hr:=aAa O (by lia) hl;have hrl:=qC ps;have hle:2^ps.length<=2^15:=zAr (by decide) hl;have hx:ixD (owD n ps) (.int 0)= .ok (.int n):=by simp[owD]
 unfold szL;rw[zAU];refine lH (ds:=(bh ps).map λ t=>rwD t.1) ?_ (by rw[zAD];have:=hrl.1;lia) (mK _ λ t ht=>⟨[.sh (rwD t.1),.sh (owD n ps)],rfl,?_⟩)
 .simp[shE,q9,hr]
 .have hW:opA pG (aD (aB 0) aK) [.sh (rwD t.1),.sh (owD n ps)]= .ok (.int (t.1.length:Int)):=by
   simp[rwD]
  have v:op2 ixD (aB 1) (cD (.int 0)) [.sh (rwD t.1),.sh (owD n ps)]= .ok (.int n):=by simp[hx]
  rw[iW,v,aj,hW,aj,aAA,dq];rfl
def aLc(O:Ow n ps)(low:∀p∈ps,p.1<p.2)(hn:n<=6):lDu (lV ns k c n ps (.nw (.lst ((szL n ps).map .int))) s5 s6 s7 s8)= .ok (.lst ((cnL n ps).map pD)):=by
 have hn0:=O.n0;have hx:ixD (owD n ps) (.int 0)= .ok (.int n):=by simp[owD]
 obtain⟨lo,hm⟩:=aKZ O;obtain⟨l0,l1⟩:=aJd O hm;rw[<-aME O hn hm,zAU];refine lH (ds:=(zA1 (n+1-lo).toNat).map λ k:Nat=>.int (lo+(k:Int))) ?_ (by rw[zAD,zB1];lia) (mK _ λ j _=>⟨[.sh (.int (lo+(j:Int))),.sh (.lst ((szL n ps).map .int))],rfl,?_⟩)
 .have hr:=qD (i:=lo) (j:=n+1) (by lia) (by lia) (by lia) (by lia)
  have a:opA (nj zFM) (aD (aB 4) aK) (shE (lV ns k c n ps (.nw (.lst ((szL n ps).map .int))) s5 s6 s7 s8))= .ok (.int lo):=by
   show okD (nj zFM [.lst ((szL n ps).map .int)])=_;unfold nj nu;dsimp only;rw[dH];dsimp only;rw[hm];rfl
  have b:op2 cC (op2 ixD (aB 3) (cD (.int 0))) (cD (.int 1)) (shE (lV ns k c n ps (.nw (.lst ((szL n ps).map .int))) s5 s6 s7 s8))= .ok (.int (n+1)):=by
   simp[shE,q9,hx]
  rw[aCh,cJ,a,aj,cJ,b,aj,lE,aj,aj,aj,hr];rfl
 .have a:opL aAz (aB 1) (aB 0) [.sh (.int (lo+(j:Int))),.sh (.lst ((szL n ps).map .int))]= .ok (.int (((szL n ps).countP λ a=>a==lo+(j:Int):Nat):Int)):=by
   show okD (aAz ((szL n ps).map .int) (.int (lo+(j:Int))))=_;unfold aAz;dsimp only;rw[dH];rfl
  rw[aHU,cJ,show bG (aB 0) [.sh (.int (lo+(j:Int))),.sh (.lst ((szL n ps).map .int))]= .ok (.int (lo+(j:Int)))from rfl,aj,cJ,a,aj,lE,aj,aj,aj];rfl
def aLb(O:Ow n ps)(low:∀p∈ps,p.1<p.2)(hn:n<=6){s4 s6 s7 s8:Slot}:lFb (lV ns k c n ps s4 (.nw (.lst ((cnL n ps).map pD))) s6 s7 s8)= .nx (lV ns k c n ps s4 (.nw (.lst ((cnL n ps).map pD))) s6 (.ow (.dct [] [])) s8):=by
 have hc:=vm O low hn (zx O low hn);have q0:eqR true (.lst ((cnL n ps).map pD)) (.lst ((cnL n ps).map pD))= .ok (.bl false):=by
  have d:=aJP (cnL n ps);unfold eqR;rw[if_pos (by rw[zAC,zAC,decide_eq_true_eq];exact⟨⟨d.1,d.2⟩,d.2⟩),if_pos rfl,gZ _ d.2];rfl
 have lt:=aNR (cnL n ps);obtain⟨l,el⟩:∃l,l=cnL n ps:=⟨_,rfl⟩
 rw[<-el]at hc q0 lt ⊢;have il:mO "dict" (dF l)= .ok (.bl true):=rfl;have cl:aEN 7 (lV ns k c n ps s4 (.nw (.lst (l.map pD))) s6 (.ow (dF l)) s8)= .nx (lV ns k c n ps s4 (.nw (.lst (l.map pD))) s6 (.ow (.dct [] [])) s8):=by
  have h:=jd (l.map λ p=>(p.1,D.int p.2));unfold aEN dF rO;simp only[zCA,zCB];rw[h];rfl
 simp[lFb,hc,q0,il,lt,cl]
end
def aL7{ns:List Int}{k:Int}{s2 s3 s4 s5 s6 s7 s8:Slot}(hk:0<=k):∃t2 t3 t4 t5 t6 t7 t8,lwK [.sh (.scr ns),.sh (.int k),s2,s3,s4,s5,s6,s7,s8]= .nx [.sh (.scr ns),.sh (.int k),t2,t3,t4,t5,t6,t7,t8]:=by
 obtain⟨c,ec⟩:=aJU (ns:=ns) hk;obtain⟨n,ps,ew,O,low,hn⟩:=aCC (c:=c) (most:=6) (by decide);have ew':jt [.int c,.int 6]= .ok (owD n ps):=ew;have hn6:n<=6:=hn;have hn0:=O.n0;have hx:ixD (owD n ps) (.int 0)= .ok (.int n):=by simp[owD]
 obtain⟨dr,ed,d0,d1⟩:=aDM (c:=c) (k:=9000) (b:=50) (by decide) (by decide) (by decide) (by decide);have c0:lQ0 [.sh (.scr ns),.sh (.int k),s2,s3,s4,s5,s6,s7,s8]= .nx [.sh (.scr ns),.sh (.int k),.sh (.int c),s3,s4,s5,s6,s7,s8]:=by simp[lQ0,ec]
 have c1:lQ1 [.sh (.scr ns),.sh (.int k),.sh (.int c),s3,s4,s5,s6,s7,s8]= .nx (lV ns k c n ps s4 s5 s6 s7 s8):=by simp[lQ1,ew']
 have e2:=aLa (ns:=ns) (k:=k) (c:=c) (s4:=s4) (s5:=s5) (s6:=s6) (s7:=s7) (s8:=s8) O low hn6;have e3:=aLc (ns:=ns) (k:=k) (c:=c) (s5:=s5) (s6:=s6) (s7:=s7) (s8:=s8) O low hn6;obtain⟨wy,ewy⟩:∃wy:Slot,wy= .nw (.lst ((szL n ps).map .int)):=⟨_,rfl⟩
 rw[<-ewy]at e3;have c2:lQ2 (lV ns k c n ps s4 s5 s6 s7 s8)= .nx (lV ns k c n ps wy s5 s6 s7 s8):=by
  have u:lQ2=wH 4 lSz:=rfl;rw[u,nC,e2,ewy];rfl
 have c3:lQ3 (lV ns k c n ps wy s5 s6 s7 s8)= .nx (lV ns k c n ps wy (.nw (.lst ((cnL n ps).map pD))) s6 s7 s8):=by
  have u:lQ3=wH 5 lDu:=rfl;rw[u,nC,e3];rfl
 have hr:fW lW (aD (cD (.int 2)) aK) (lV ns k c n ps wy (.nw (.lst ((cnL n ps).map pD))) s6 s7 s8)= .ok (dD 0 2):=by
  have:=kh (j:=2) (by decide) (by decide)
  simp[this]
 obtain⟨Y',e,t6,t7,rfl⟩:=zP (a:=gnm 6) (u:=lFb) (I:=λ Y=>∃t6 t7,Y=lV ns k c n ps wy (.nw (.lst ((cnL n ps).map pD))) t6 t7 s8) (dD 0 2) (lV ns k c n ps wy (.nw (.lst ((cnL n ps).map pD))) s6 s7 s8) ⟨_,_,rfl⟩ (by
  rintro d hd Y ⟨t6,t7,rfl⟩;exact⟨_,aLb (s4:=wy) (s6:=.sh d) (s7:=t7) (s8:=s8) O low hn6,_,_,rfl⟩)
 have c4:lQ4 (lV ns k c n ps wy (.nw (.lst ((cnL n ps).map pD))) s6 s7 s8)= .nx (lV ns k c n ps wy (.nw (.lst ((cnL n ps).map pD))) t6 t7 s8):=by
  have u:lQ4=jZ (fW lW (aD (cD (.int 2)) aK)) (gnm 6) lFb:=rfl;rw[u,iD,hr,cA,e]
 have hb1:=zU (n:=11+dr) (by lia) (by lia);have hb2:=wO (n:=n) hn0 (by lia);obtain⟨s5',es5⟩:∃s5':Slot,s5'= .nw (.lst ((cnL n ps).map pD)):=⟨_,rfl⟩
 rw[<-es5]at c4 c3;have c5:lQ5 (lV ns k c n ps wy s5' t6 t7 s8)= .nx (lV ns k c n ps wy s5' t6 t7 s8):=by
  have r:=aFM (Y:=lV ns k c n ps wy s5' t6 t7 s8) (fe:=au bY (aD (cO (aD (op2 cC (cD (.int 11)) (au bU (aD (aB 2) (aD (cD (.int 9000)) (aD (cD (.int 50)) aK))))) (aD (cO aK) aK))) aK)) (c:="TooMany") (w:="many") (by simp[ed,hb1,shS]) rfl;have q:eqR true (.str "many") (.str "many")= .ok (.bl false):=by kernel_rfl
  unfold lQ5;simp[r,q]
 have c6:lQ6 (lV ns k c n ps wy s5' t6 t7 s8)= .nx (lV ns k c n ps wy s5' t6 t7 s8):=by
  have r:=aFM (Y:=lV ns k c n ps wy s5' t6 t7 s8) (fe:=au bY (aD (cO (aD (op2 ixD (aB 3) (cD (.int 0))) (aD (cD .non) aK))) aK)) (c:="NoWeb") (w:="web") (by simp[hx,hb2,shS]) rfl;have q:eqR true (.str "web") (.str "web")= .ok (.bl false):=by kernel_rfl
  unfold lQ6;simp[r,q]
 exact⟨_,_,_,_,_,_,_,by rw[lwK,aQ,c0,bK,aQ,c1,bK,aQ,c2,bK,aQ,c3,bK,aQ,c4,bK,aQ,c5,bK,c6]⟩
def aGL(ns:List Int)(hl:ns.length<=63):aHM [.scr ns]= .ok (.bl true):=by
 have st:ao 9 [.scr ns]=[.sh (.scr ns),.no,.no,.no,.no,.no,.no,.no,.no]:=rfl;let m:Int:=if (if (4:Int)<ns.length then(4:Int)else ns.length)>1 then(if (4:Int)<ns.length then(4:Int)else ns.length)else 1
 have hm:1<=m/\m<=4:=by
  show 1<=(if (if (4:Int)<ns.length then(4:Int)else ns.length)>1 then(if (4:Int)<ns.length then(4:Int)else ns.length)else 1)/\(if (if (4:Int)<ns.length then(4:Int)else ns.length)>1 then(if (4:Int)<ns.length then(4:Int)else ns.length)else 1)<=4;split<;>split<;>lia
 have hr:=kh (j:=m) (by lia) (by lia);have hR:lwR [.sh (.scr ns),.no,.no,.no,.no,.no,.no,.no,.no]= .ok (dD 0 m):=by
  rw[<-hr];unfold lwR;simp[m]
 obtain⟨Y',el,t1,t2,t3,t4,t5,t6,t7,t8,rfl⟩:=zP (a:=gnm 1) (u:=lwK) (I:=λ Y=>∃t1 t2 t3 t4 t5 t6 t7 t8,Y=[.sh (.scr ns),t1,t2,t3,t4,t5,t6,t7,t8]) (dD 0 m) [.sh (.scr ns),.no,.no,.no,.no,.no,.no,.no,.no] ⟨.no,.no,.no,.no,.no,.no,.no,.no,rfl⟩ (by
  rintro d hd Y ⟨t1,t2,t3,t4,t5,t6,t7,t8,rfl⟩;obtain⟨k,rfl,k0,k1⟩:=aA3.mp hd;obtain⟨u2,u3,u4,u5,u6,u7,u8,e⟩:=aL7 (ns:=ns) (k:=k) (s2:=t2) (s3:=t3) (s4:=t4) (s5:=t5) (s6:=t6) (s7:=t7) (s8:=t8) k0;exact⟨_,e,_,_,_,_,_,_,_,_,rfl⟩)
 have O4:Ow 4 k4L:=⟨by decide,by decide,by decide,by decide,by decide⟩;have z4:=vm O4 (by decide) (by decide) (by decide);rw[aNS]at z4;have ct:cV 8 lwT [.sh (.scr ns),t1,t2,t3,t4,t5,t6,t7,t8]= .nx [.sh (.scr ns),t1,t2,t3,t4,t5,t6,t7,.sh (.tup (k4L.map pD))]:=rfl;have cz:lwZ [.sh (.scr ns),t1,t2,t3,t4,t5,t6,t7,.sh (.tup (k4L.map pD))]= .ok (.bl true):=by
  have b:cO (aD (cD (.int 4)) (aD (aB 8) aK)) [.sh (.scr ns),t1,t2,t3,t4,t5,t6,t7,.sh (.tup (k4L.map pD))]= .ok (owD 4 k4L):=rfl;have a:au bY (aD (cO (aD (cD (.int 4)) (aD (aB 8) aK))) aK) [.sh (.scr ns),t1,t2,t3,t4,t5,t6,t7,.sh (.tup (k4L.map pD))]= .ok (dF [(1,12),(2,15),(3,6),(4,1)]):=by
   rw[vy,cJ,b,aj,lE,aj,aj,z4]
  unfold lwZ;rw[iW,a,aj,aKK,aj,aN5,dq]
 have key:vg [.sh (.scr ns),.no,.no,.no,.no,.no,.no,.no,.no]= .rt (.bl true):=by
  rw[vg,aQ,iD,hR,cA,el,bK,aQ,ct,bK,kj,cz,cA]
 unfold aHM;rw[bO,st,key]
local macro_rules|`(tactic|walk_at "sc")=>`(tactic|exact⟨rfl,rfl,rfl,by decide+kernel,rfl,by decide+kernel,by decide+kernel⟩)
def top(i:Nat):Stmt:=PySem.Challenge.pw_fewways_k12_partings_counted.main.body.getD i (.Pass ⟨0,0,0,0⟩)
abbrev o9:Stmt:=top 16
abbrev qt:Stmt:=top 17
abbrev ou:Stmt:=top 18
abbrev qm:Stmt:=top 19
abbrev mC:Stmt:=top 20
abbrev eF:Stmt:=top 21
abbrev pA:Stmt:=top 22
abbrev uY:Stmt:=top 23
abbrev mD:Stmt:=top 24
abbrev pB:Stmt:=top 25
abbrev jW:Stmt:=top 28
abbrev lw:Stmt:=top 29
abbrev uc:Stmt:=top 30
abbrev iU:Stmt:=top 31
abbrev uZ:Stmt:=top 32
abbrev kZ:Stmt:=top 33
abbrev qu:Stmt:=top 34
abbrev jV:Stmt:=top 36
abbrev o8:Stmt:=top 37
abbrev ql:Stmt:=top 38
abbrev o7:Stmt:=top 39
abbrev lz:Stmt:=top 40
abbrev jU:Stmt:=top 41
abbrev ph:Stmt:=top 42
def aAJ:aZ ["thing"] ["thing"] (aF o9):=by walk_at "sc"
def aBa:aZ ["thing"] ["thing"] (aF qt):=by walk_at "sc"
def aAK:aZ ["many","thing"] ["many","thing"] (aF ou):=by walk_at "sc"
def aB9:aZ ["many","thing"] ["many","thing"] (aF qm):=by walk_at "sc"
def yZ:aZ ["things","at"] ["things"] (aF mC):=by walk_at "sc"
def nW:aZ ["many","thing","pair"] ["many","thing"] (aF eF):=by walk_at "sc"
def aAL:aZ ["many","thing"] ["many","thing"] (aF pA):=by walk_at "sc"
def aDc:aZ ["thing"] ["thing"] (aF uY):=by walk_at "sc"
def yc:aZ ["thing"] ["thing"] (aF mD):=by walk_at "sc"
def aAM:aZ ["web","many","ties","near","low","high"] ["web"] (aF pB):=by walk_at "sc"
def uX:aZ ["web"] ["web"] (aF jW):=by walk_at "sc"
def yW:aZ ["group"] ["group"] (aF lw):=by walk_at "sc"
def aDe:aZ ["web","near","found","group","place","rest","heads"] ["web"] (aF uc):=by walk_at "sc"
def tE:aZ ["web","begun","both_about","group","place","rest","heads","times"] ["web"] (aF iU):=by walk_at "sc"
def aDd:aZ ["group","least","others","found","chosen"] ["group"] (aF uZ):=by walk_at "sc"
def wI:aZ ["tally","times","more","pushed"] ["tally","times","more"] (aF kZ):=by walk_at "sc"
def aBb:aZ ["web","many","ways","tallies","group","tally","first"] ["web"] (aF qu):=by walk_at "sc"
def uW:aZ ["_law_script","_law_k"] ["_law_script","_law_k"] (aF jV):=by walk_at "sc"
def aAI:aZ ["_law_cell","_law_k","_law_bound","_law_left","_law_j","_law_stir"] ["_law_cell","_law_k","_law_bound"] (aF o8):=by walk_at "sc"
def aB8:aZ ["_law_cell","_law_most","_law_many","_law_thick","_law_ties","_law_one","_law_other"] ["_law_cell","_law_most"] (aF ql):=by walk_at "sc"
def aAH:aZ ["_law_web_here","_law_found","_law_one","_law_other","_law_longer","_law_some","_law_least","_law_uses","_law_low","_law_high","_law_more","_law_used"] ["_law_web_here"] (aF o7):=by walk_at "sc"
def yX:aZ ["_law_error","_law_kinds","_law_words"] ["_law_error"] (aF lz):=by walk_at "sc"
def uV:aZ ["_law_call","_law_word","_law_error"] ["_law_call"] (aF jU):=by walk_at "sc"
def aKg:aZ ["_law_script","_law_k","_law_cell","_law_web_here","_law_sizes","_law_due","_law_turn","_law_found","_law_every"] ["_law_script"] (aF ph):=by walk_at "sc"
set_option genInjectivity false in
set_option genSizeOf false in
structure Adr where
 vR:Addr
 fj:zAo
 xf:Addr
 iQ:zAo
 vU:Addr
 fu:zAo
 xZ:Addr
 iM:zAo
 sJ:Addr
 dN:zAo
 ie:Addr
 az:zAo
 vV:Addr
 eQ:zAo
 aAg:Addr
 iw:zAo
 sO:Addr
 dO:zAo
 vW:Addr
 gA:zAo
 oJ:Addr
 bz:zAo
 sH:Addr
 eZ:zAo
 aAi:Addr
 jk:zAo
 mX:Addr
 cQ:zAo
 aAh:Addr
 ji:zAo
 qM:Addr
 cY:zAo
 xg:Addr
 fB:zAo
 oH:Addr
 cM:zAo
 vQ:Addr
 dM:zAo
 xY:Addr
 iK:zAo
 vP:Addr
 fZ:zAo
 sI:Addr
 sX:zAo
 oG:Addr
 oN:zAo
 aDJ:Addr
 vg:zAo
 n8:Value
 pU:Value
 gF:Addr
 lM:Addr
 gC:Addr
 lN:Addr
 dR:Addr
 gB:Addr
 eV:Addr
 iz:Addr
 eU:Addr
 gD:Addr
 iy:Addr
 jA:Addr
 lO:Addr
def wdA(t:Adr):Addr->Option Str:=λ C=>(([t.lM,t.gC,t.lN,t.dR,t.gB,t.eV,t.iz,t.eU,t.gD,t.iy,t.jA,t.lO]:List Addr).zip (["web","place","way","parting","many","forest","plan","one way","order","text","deed","row"]:List Str)).lookup C
structure Txt(K:zAA)(mg:Str->Option Value)(t:Adr):Prop where
 pJ:Dnr K mg "is_whole" o9 ["thing"] t.vR t.fj
 xr:Dnr K mg "is_many" qt ["thing"] t.xf t.iQ
 pK:Dnr K mg "is_place" ou ["many","thing"] t.vU t.fu
 xq:Dnr K mg "is_pair" qm ["many","thing"] t.xZ t.iM
 sU:Dnr K mg "is_rising" mC ["things"] t.sJ t.dN
 ik:Dnr K mg "are_rising_pairs" eF ["many","thing"] t.ie t.az
 v5:Dnr K mg "are_ties" pA ["many","thing"] t.vV t.eQ
 aAm:Dnr K mg "is_web" uY ["thing"] t.aAg t.iw
 sV:Dnr K mg "check_web" mD ["thing"] t.sO t.dO
 v6:Dnr K mg "all_tied" pB ["web"] t.vW t.gA
 oM:Dnr K mg "check_tried" jW ["web"] t.oJ t.bz
 sS:Dnr K mg "places_in" lw ["group"] t.sH t.eZ
 aAo:Dnr K mg "begins" uc ["web"] t.aAi t.jk
 mZ:Dnr K mg "ways_counted" iU ["web"] t.mX t.cQ
 aAn:Dnr K mg "firsts" uZ ["group"] t.aAh t.ji
 qN:Dnr K mg "tally_with" kZ ["tally","times","more"] t.qM t.cY
 jg:Dnr K mg "counted" qu ["web"] t.xg t.fB
 oK:Dnr K mg "_law_cell_at" jV ["_law_script","_law_k"] t.oH t.cM
 ig:Dnr K mg "_law_draw" o8 ["_law_cell","_law_k","_law_bound"] t.vQ t.dM
 xn:Dnr K mg "_law_web" ql ["_law_cell","_law_most"] t.xY t.iK
 vZ:Dnr K mg "_law_rows" o7 ["_law_web_here"] t.vP t.fZ
 jP:Dnr K mg "_law_class" lz ["_law_error"] t.sI t.sX
 cL:Dnr K mg "_law_refused" jU ["_law_call"] t.oG t.oN
 aKF:Dnr K mg "law" ph ["_law_script"] t.aDJ t.vg
 gK:mg "MOST_PLACES"=some t.n8
 wJ:RelV (.int 60) t.n8
 iC:mg "MOST_TRIED"=some t.pU
 yj:RelV (.int 10) t.pU
 vB:mg "FewError"=some (.ref t.gF)
 l_FewError:aa mg "FewError"=t.gF
 iR:bu K t.gF
 aCv:mg "NoWeb"=some (.ref t.lM)
 aCw:aa mg "NoWeb"=t.lM
 pN:bu K t.lM
 aDt:mg "NoPlace"=some (.ref t.gC)
 aDz:aa mg "NoPlace"=t.gC
 mj:bu K t.gC
 aIa:mg "NoWay"=some (.ref t.lN)
 aIk:aa mg "NoWay"=t.lN
 tV:bu K t.lN
 aA5:mg "NoParting"=some (.ref t.dR)
 aAc:aa mg "NoParting"=t.dR
 jJ:bu K t.dR
 xM:mg "TooMany"=some (.ref t.gB)
 xN:aa mg "TooMany"=t.gB
 j0:bu K t.gB
 aBw:mg "NoForest"=some (.ref t.eV)
 aCF:aa mg "NoForest"=t.eV
 kE:bu K t.eV
 aGE:mg "NoPlan"=some (.ref t.iz)
 aGP:aa mg "NoPlan"=t.iz
 pP:bu K t.iz
 aBv:mg "NoOneWay"=some (.ref t.eU)
 aCE:aa mg "NoOneWay"=t.eU
 jz:bu K t.eU
 aDu:mg "NoOrder"=some (.ref t.gD)
 aEA:aa mg "NoOrder"=t.gD
 mq:bu K t.gD
 aGD:mg "NoText"=some (.ref t.iy)
 aGO:aa mg "NoText"=t.iy
 pO:bu K t.iy
 aGF:mg "NoDeed"=some (.ref t.jA)
 aGQ:aa mg "NoDeed"=t.jA
 pQ:bu K t.jA
 aIb:mg "NoRow"=some (.ref t.lO)
 aIl:aa mg "NoRow"=t.lO
 tW:bu K t.lO
 yz:mg "ValueError"=none
 aNP:mg "all"=none
 aL3:mg "bool"=none
 aL2:mg "dict"=none
 aAZ:mg "enumerate"=none
 aJy:mg "int"=none
 aX:mg "isinstance"=none
 xJ:mg "len"=none
 aL1:mg "list"=none
 aJx:mg "max"=none
 aFy:mg "min"=none
 di:mg "range"=none
 aNO:mg "sum"=none
 lF:mg "tuple"=none
 aNN:mg "zip"=none
 cb:aCT K t.gF [t.lM,t.gC,t.lN,t.dR,t.gB,t.eV,t.iz,t.eU,t.gD,t.iy,t.jA,t.lO]=true
open PySem.Spec PyProof.Rows
section
variable{P:zAS}{w:World}{K:zAA}{mg:Str->Option Value}{base:Heap}{t:Adr}
def rm(T:Txt K mg t):cg P w K mg base (CX1 P w) 1 t.vR t.fj ["thing"] (spF K (aa mg) 1 jD):=
 bZ (k:=0) (f:=fj) T.pJ aAJ λ n _ _ _ _ _ _ _=>
  (aN (bQ (o6 (qi (aA 0) T.aX T.aJy) (oZ (aK8 (qi (aA 0) T.aX T.aL3))))))
def yu(T:Txt K mg t):cg P w K mg base (CX1 P w) 1 t.sJ t.dN ["things"] (spF K (aa mg) 1 fD):=
 bZ (k:=0) (f:=dN) T.sU yZ λ n _ _ _ _ _ _ _=>
  (aJ (fH (pY (aC aH (aC (qg T.xJ (aC (aA 0) aG)) aG)) T.di) (bN (ks:=[1]))
   (aN (jK (oY (aAB (aU (aA 0) (qd (aA 1) aH)) (aU (aA 0) (aA 1))))
    (aN (bQ pZ))
    dB)))
  (aN (bQ pZ)))
def aAX(T:Txt K mg t):cg P w K mg base (CX1 P w) 1 t.vW t.gA ["web"] (spF K (aa mg) 1 jE):=
 bZ (k:=0) (f:=gA) T.v6 aAM λ n _ _ _ _ _ _ _=>
  (aJ (aK1 (aA 0) (kO (n:=2) (bM (bN (ks:=[1,2])) (bM (bN (ks:=[1,2])) gr))))
  (aJ (aMn (N:=["place"]) (js:=[none]) (ks:=[0]) (kJ (aC (aA 1) aG) T.di) bf)
  (aJ (fH (gh (aA 2)) (kO (n:=2) (bM (bN (ks:=[4,5])) (bM (bN (ks:=[4,5])) gr)))
   (aJ (uR 3 (aA 4) (bB (aA 5)))
   (aN (uR 3 (aA 5) (bB (aA 4))))))
  (aN (bQ (tY 3))))))
def yr(T:Txt K mg t):cg P w K mg base (CX1 P w) 1 t.sH t.eZ ["group"] (spF K (aa mg) 1 gf):=
 bZ (k:=0) (f:=eZ) T.sS yW λ n _ _ _ _ _ _ _=>
  (aN (bQ (rY (N:=["place","group"]) (js:=[none,some 0]) (ks:=[0]) (kJ (aC (aDa (aA 0)) aG) T.di) bf (aB5 (kI (uA (aEy (aA 1) (aA 0)) aH))) (bB (aA 0)))))
def aDm(T:Txt K mg t):cg P w K mg base (CX1 P w) 1 t.aAh t.ji ["group"] (spF K (aa mg) 1 m8):=
 bZ (k:=0) (f:=ji) T.aAn aDd λ n _ _ _ _ _ _ _=>
  (aJ (cG (i:=1) (gQ (uA (aA 0) (aB7 (aA 0)))))
  (aJ (cG (i:=2) (gQ (qd (aA 0) (aA 1))))
  (aJ (gq (i:=3) (pW (qb (aC (bB (aA 1)) aG))))
  (aJ (cG (i:=4) (gQ (aA 2)))
  (aJ (aEp (kI (aA 4))
   (aJ (nA 3 (cP (bB (aA 1)) (bB (aA 4))))
   (aN (cG (i:=4) (gQ (uA (qd (aA 4) aH) (aA 2)))))))
  (aN (bQ (tY 3))))))))
def wL(T:Txt K mg t):cg P w K mg base (CX1 P w) 1 t.qM t.cY ["tally","times","more"] (spF K (aa mg) 3 fV):=
 bZ (k:=0) (f:=cY) T.qN wI λ n _ _ _ _ _ _ _=>
  (aJ (mz (i:=3) (gQ (cP (yS (aC aH aG)) (aD9 (aA 2) aH7 (aH6 (aB7 aH))))))
  (aN (bQ (rY (N:=["old","new","times"]) (js:=[none,none,some 1]) (ks:=[0,1]) (aHd (aC (aA 0) (aC (aA 3) aG)) T.aNN) (kO (n:=2) (bM bf (bM bf gr))) jT (cP (bB (aA 0)) (kY (bB (aA 2)) (bB (aA 1))))))))
def uw(T:Txt K mg t):cg P w K mg base (CX1 P w) 1 t.oH t.cM ["_law_script","_law_k"] (spF K (aa mg) 2 eE):=
 bZ (k:=0) (f:=cM) T.oK uW λ n _ _ _ _ _ _ _=>
  (aJ (jK (aAB (aA 1) (qg T.xJ (aC (aA 0) aG)))
   (aN (bQ (bB (aU (aA 0) (aA 1)))))
   dB)
  (aN (bQ aH)))
def jM(T:Txt K mg t):cg P w K mg base (CX1 P w) 1 t.vQ t.dM ["_law_cell","_law_k","_law_bound"] (spF K (aa mg) 3 bU):=
 bZ (k:=0) (f:=dM) T.ig aAI λ n _ _ _ _ _ _ _=>
  (aJ (jK (aMm (aA 0) (aK7 aH aH))
   (aJ (cG (i:=3) (gQ (aA 0)))
   (aJ (fH (kJ (aC (aA 1) aG) T.di) (bN (ks:=[4]))
    (aJ (jK (aEm (aA 3) aH)
     (aN (bQ aH))
     dB)
    (aN (cG (i:=3) (gQ (yU (aA 3) (aA 2)))))))
   (aN (bQ (qe (aA 3) (aA 2))))))
   dB)
  (aJ (cG (i:=5) (gQ (qe (kY (cP (cP (qe (aA 0) aH) (kY aH (aA 1))) aH) aH) aH)))
  (aJ (cG (i:=5) (gQ (qe (cP (cP (kY (aA 5) (aA 5)) (kY aH (aA 1))) aH) aH)))
  (aN (bQ (qe (yU (qe (kY (aA 5) aH) aH) aH) (aA 2)))))))
def aAV(T:Txt K mg t):cg P w K mg base (CX1 P w) 1 t.vP t.fZ ["_law_web_here"] (spF K (aa mg) 1 jC):=
 bZ (k:=0) (f:=fZ) T.vZ aAH λ n _ _ _ _ _ _ _=>
  (aJ (gq (i:=1) (pW (qb (aC (cF (aC (cF aG) (aC (aD8 T.lF T.di (aU (aA 0) aH)) (aC (aHh (cF (aC aH aG)) (bB (aU (aA 0) aH))) aG)))) aG))))
  (aJ (fH (gh (aU (aA 0) aH)) (kO (n:=2) (bM (bN (ks:=[2,3])) (bM (bN (ks:=[2,3])) gr)))
   (aJ (gq (i:=4) (pW (qb aG)))
   (aJ (aH5 1 (kO (n:=3) (bM (bN (ks:=[5,6,7])) (bM (bN (ks:=[5,6,7])) (bM (bN (ks:=[5,6,7])) gr))))
    (aAC (aK0 (SW.st (aEk (aAB (aU (aA 7) (aA 2)) aH) (aEk (aAB (aU (aA 7) (aA 3)) aH) (aH0 (wu (aU (aA 6) (aA 2)) (aU (aA 6) (aA 3)))))))
     (my (pX (i:=8) (gQ (aC9 T.aFy (aC (aU (aA 6) (aA 2)) (aC (aU (aA 6) (aA 3)) aG)))))
     (my (pX (i:=9) (gQ (aCa T.aJx (aC (aU (aA 6) (aA 2)) (aC (aU (aA 6) (aA 3)) aG)))))
     (my (pX (i:=10) (gQ (uU T.lF (aC (rY (N:=["_law_here","_law_high","_law_low"]) (js:=[none,some 9,some 8]) (ks:=[0]) (gh (aA 6)) bf jT (aJg (aEm (aA 0) (aA 1)) (bB (aA 2)) (bB (aA 0)))) aG))))
     (my (pX (i:=11) (gQ (uU T.lF (aC (rY (N:=["_law_k","_law_uses","_law_one","_law_other"]) (js:=[none,some 7,some 2,some 3]) (ks:=[0]) (kJ (aC (aU (aA 0) aH) aG) T.di) bf jT (cP (bB (aU (aA 1) (aA 0))) (aHl T.aJy (aC (aMq (aJh (aA 0) (aA 2)) (oZ (aJh (aA 0) (aA 3)))) aG)))) aG))))
     (aAC (aB1 4 (cF (aC (cP (bB (aA 5)) (cF (aC (cF (aC (bB (aA 2)) (aC (bB (aA 3)) aG))) aG))) (aC (bB (aA 10)) (aC (bB (aA 11)) aG))))))))))
     aEo)))
   (aN (aB2 1 4)))))
  (aN (bQ (rY (N:=["_law_row"]) (js:=[none]) (ks:=[0]) (gh (aA 1)) bf jT (bB (aU (aA 0) aH)))))))
def yt(T:Txt K mg t):FnH P w K mg base 1 t.sI t.sX ["_law_error"] (spW (wdA t)):=
 aEO (c1:=.ref t.gF) (c2:=.ty "ValueError") (k1:=[.ref t.lM,.ref t.gC,.ref t.lN]) (k2:=[.ref t.dR,.ref t.gB,.ref t.eV]) (k3:=[.ref t.iz,.ref t.eU,.ref t.gD]) (k4:=[.ref t.iy,.ref t.jA,.ref t.lO]) (l1:=["web","place","way","parting","many","forest","plan","one way"]) (l2:=["order","text","deed","row"]) T.jP.F yX rfl rfl rfl rfl (λ cdv A outer s H=>⟨(fK rfl rfl rfl T.aX (dC (v:=.ref t.gF) rfl T.vB rfl)),(fK rfl rfl rfl T.aX (aCo (v:=.ty "ValueError") (u:=.type "ValueError") rfl T.yz rfl rfl)),(aW (fK rfl rfl rfl T.aX (dC (v:=.ref t.lM) rfl T.aCv rfl)) (aW (fK rfl rfl rfl T.aX (dC (v:=.ref t.gC) rfl T.aDt rfl)) (aW (fK rfl rfl rfl T.aX (dC (v:=.ref t.lN) rfl T.aIa rfl)) cI))),(aW (fK rfl rfl rfl T.aX (dC (v:=.ref t.dR) rfl T.aA5 rfl)) (aW (fK rfl rfl rfl T.aX (dC (v:=.ref t.gB) rfl T.xM rfl)) (aW (fK rfl rfl rfl T.aX (dC (v:=.ref t.eV) rfl T.aBw rfl)) cI))),(aW (fK rfl rfl rfl T.aX (dC (v:=.ref t.iz) rfl T.aGE rfl)) (aW (fK rfl rfl rfl T.aX (dC (v:=.ref t.eU) rfl T.aBv rfl)) (aW (fK rfl rfl rfl T.aX (dC (v:=.ref t.gD) rfl T.aDu rfl)) cI))),(aW (fK rfl rfl rfl T.aX (dC (v:=.ref t.iy) rfl T.aGD rfl)) (aW (fK rfl rfl rfl T.aX (dC (v:=.ref t.jA) rfl T.aGF rfl)) (aW (fK rfl rfl rfl T.aX (dC (v:=.ref t.lO) rfl T.aIb rfl)) cI))),(aW dm (aW dm (aW dm (aW dm (aW dm (aW dm (aW dm (aW dm cI)))))))),(aW dm (aW dm (aW dm (aW dm cI))))⟩) rfl rfl (by decide) λ C w h=>(aJ9 T.cb h).1
def aBr(T:Txt K mg t):cg P w K mg base (CX1 P w) 2 t.xf t.iQ ["thing"] (spF K (aa mg) 1 jy):=
 bZ (k:=1) (f:=iQ) T.xr aBa λ n _ _ _ _ _ _ _=>
  (aN (bQ (o6 (bT (rm T) T.pJ (aC (aA 0) aG)) (oZ (aHk aH (aA 0) (aCb T.gK T.wJ (λ _ _=>.int _)))))))
def rn(T:Txt K mg t):cg P w K mg base (CX1 P w) 2 t.vU t.fu ["many","thing"] (spF K (aa mg) 2 eX):=
 bZ (k:=1) (f:=fu) T.pK aAK λ n _ _ _ _ _ _ _=>
  (aN (bQ (o6 (bT (rm T) T.pJ (aC (aA 1) aG)) (oZ (aHj aH (aA 1) (aA 0))))))
def aDn(T:Txt K mg t):cg P w K mg base (CX1 P w) 2 t.aAi t.jk ["web"] (spF K (aa mg) 1 m9):=
 bZ (k:=1) (f:=jk) T.aAo aDe λ n _ _ _ _ _ _ _=>
  (aJ (cG (i:=1) (gQ (bT (aAX T) T.v6 (aC (aA 0) aG))))
  (aJ (gq (i:=2) (pW (qb aG)))
  (aJ (fH (pY (aC aH (aC (aB6 aH (aU (aA 0) aH)) aG)) T.di) (bN (ks:=[3]))
   (aN (fH (gh (bT (yr T) T.sS (aC (aA 3) aG))) (bN (ks:=[4]))
    (aJ (cG (i:=5) (gQ (qd (aA 3) (aB6 aH (aA 4)))))
    (aJ (mz (i:=6) (aJe (N:=["other","rest"]) (js:=[none,some 5]) (ks:=[0]) (gh (aU (aA 1) (aA 4))) bf (aB5 (kI (uA (aEy (aA 1) (aA 0)) aH))) (bB (aA 0))))
    (aN (nA 2 (cF (aC (bB (aA 3)) (aC (bB (aA 4)) (aC (bB (aA 5)) (aC (tZ 6) aG))))))))))))
  (aN (bQ (tY 2))))))
def aBp(T:Txt K mg t):cg P w K mg base (CX1 P w) 2 t.xY t.iK ["_law_cell","_law_most"] (spF K (aa mg) 2 jt):=
 bZ (k:=1) (f:=iK) T.xn aB8 λ n _ _ _ _ _ _ _=>
  (aJ (cG (i:=2) (gQ (bT (jM T) T.ig (aC (aA 0) (aC aH (aC (cP (aA 1) aH) aG))))))
  (aJ (cG (i:=3) (gQ (cP aH (bT (jM T) T.ig (aC (aA 0) (aC aH (aC aH aG)))))))
  (aJ (gq (i:=4) (pW (qb aG)))
  (aJ (fH (kJ (aC (aA 2) aG) T.di) (bN (ks:=[5]))
   (aN (fH (pY (aC (cP (aA 5) aH) (aC (aA 2) aG)) T.di) (bN (ks:=[6]))
    (aN (jK (aAB (bT (jM T) T.ig (aC (aA 0) (aC (cP (cP aH (kY aH (aA 5))) (aA 6)) (aC aH aG)))) (aA 3))
     (aN (nA 4 (cF (aC (bB (aA 5)) (aC (bB (aA 6)) aG)))))
     dB)))))
  (aN (bQ (cF (aC (bB (aA 2)) (aC (uU T.lF (aC (tY 4) aG)) aG)))))))))
def aBq(T:Txt K mg t):cg P w K mg base (CX1 P w) 3 t.xZ t.iM ["many","thing"] (spF K (aa mg) 2 jw):=
 bZ (k:=2) (f:=iM) T.xq aB9 λ n _ _ _ _ _ _ _=>
  (aJ (jK (SW.st (aEj (oY (kI (qi (aA 1) T.aX T.lF))) (aBZ (wu (qg T.xJ (aC (aA 1) aG)) aH))))
   (aN (bQ pZ))
   dB)
  (aN (bQ (o6 (bT (rn T) T.pK (aC (aA 0) (aC (aU (aA 1) aH) aG))) (o6 (bT (rn T) T.pK (aC (aA 0) (aC (aU (aA 1) aH) aG))) (oZ (aMr (aU (aA 1) aH) (aU (aA 1) aH))))))))
def tK(T:Txt K mg t):cg P w K mg base (CX1 P w) 3 t.mX t.cQ ["web"] (spF K (aa mg) 1 dU):=
 bZ (k:=2) (f:=cQ) T.mZ tE λ n _ _ _ _ _ _ _=>
  (aJ (gq (i:=1) (pW (aK5 aCc)))
  (aJ (gq (i:=2) (pW (aK5 aCc)))
  (aJ (fH (gh (bT (aDn T) T.aAo (aC (aA 0) aG))) (kO (n:=4) (bM (bN (ks:=[3,4,5,6])) (bM (bN (ks:=[3,4,5,6])) (bM (bN (ks:=[3,4,5,6])) (bM (bN (ks:=[3,4,5,6])) gr)))))
   (aJ (cG (i:=7) (gQ (aJg (aEm (aA 5) aH) aH (aHg T.aNO (aC (rY (N:=["head","begun","rest"]) (js:=[none,some 1,some 5]) (ks:=[0]) (gh (aA 6)) bf jT (bB (aK6 (aA 1) (cF (aC (aA 2) (aC (aA 0) aG)))))) aG)))))
   (aJ (aH3 1 (cF (aC (aA 3) (aC (aA 4) aG))) (bB (aA 7)))
   (aN (aH4 2 (aA 3) (cP (bB (aKc (yQ 2) (aA 3) aH)) (bB (aA 7))))))))
  (aN (aH2 2 (bQ (aJi (N:=["group","times"]) (js:=[none,none]) (ks:=[0,1]) (aEw (aA 2)) (kO (n:=2) (bM bf (bM bf gr))) jT (bB (aA 0)) (yU (cP (aA 1) aH) aH))))))))
def nY(T:Txt K mg t):cg P w K mg base (CX1 P w) 4 t.ie t.az ["many","thing"] (spF K (aa mg) 2 bA):=
 bZ (k:=3) (f:=az) T.ik nW λ n _ _ _ _ _ _ _=>
  (aJ (jK (oY (kI (qi (aA 1) T.aX T.lF)))
   (aN (bQ pZ))
   dB)
  (aJ (fH (gh (aA 1)) (bN (ks:=[2]))
   (aN (jK (oY (kI (bT (aBq T) T.xq (aC (aA 0) (aC (aA 2) aG)))))
    (aN (bQ pZ))
    dB)))
  (aN (bQ (bT (yu T) T.sU (aC (aA 1) aG))))))
def aAW(T:Txt K mg t):cg P w K mg base (CX1 P w) 5 t.vV t.eQ ["many","thing"] (spF K (aa mg) 2 gH):=
 bZ (k:=4) (f:=eQ) T.v5 aAL λ n _ _ _ _ _ _ _=>
  (aN (bQ (o6 (bT (nY T) T.ik (aC (aA 0) (aC (aA 1) aG))) (oZ (aKe T.aNP (aC (rY (N:=["low","high"]) (js:=[none,none]) (ks:=[0,1]) (gh (aA 1)) (kO (n:=2) (bM bf (bM bf gr))) jT (aMs (aA 0) (aA 1))) aG))))))
def aDl(T:Txt K mg t):cg P w K mg base (CX1 P w) 6 t.aAg t.iw ["thing"] (spF K (aa mg) 1 ju):=
 bZ (k:=5) (f:=iw) T.aAm aDc λ n _ _ _ _ _ _ _=>
  (aJ (jK (SW.st (aEj (oY (kI (qi (aA 0) T.aX T.lF))) (aBZ (wu (qg T.xJ (aC (aA 0) aG)) aH))))
   (aN (bQ pZ))
   dB)
  (aN (bQ (o6 (bT (aBr T) T.xr (aC (aU (aA 0) aH) aG)) (oZ (bT (aAW T) T.v5 (aC (aU (aA 0) aH) (aC (aU (aA 0) aH) aG))))))))
def yw(T:Txt K mg t):cg P w K mg base (CX1 P w) 7 t.sO t.dO ["thing"] (spF K (aa mg) 1 dW):=
 bZ (k:=6) (f:=dO) T.sV yc λ n _ _ _ _ _ _ _=>
  (aN (jK (oY (kI (bT (aDl T) T.aAm (aC (aA 0) aG))))
   (aN (aAD rfl T.aCv T.aCw T.pN (aC yR aG)))
   dB))
def ux(T:Txt K mg t):cg P w K mg base (CX1 P w) 8 t.oJ t.bz ["web"] (spF K (aa mg) 1 cB):=
 bZ (k:=7) (f:=bz) T.oM uX λ n _ _ _ _ _ _ _=>
  (aJ (aC6 (bT (yw T) T.sV (aC (aA 0) aG)))
  (aN (jK (aJf (aU (aA 0) aH) (aCb T.iC T.yj (λ _ _=>.int _)))
   (aN (aAD rfl T.xM T.xN T.j0 (aC yR aG)))
   dB)))
def lD(T:Txt K mg t):cg P w K mg base (CX1 P w) 9 t.xg t.fB ["web"] (spF K (aa mg) 1 bY):=
 bZ (k:=8) (f:=fB) T.jg aBb λ n _ _ _ _ _ _ _=>
  (aJ (aC6 (bT (ux T) T.oM (aC (aA 0) aG)))
  (aJ (cG (i:=1) (gQ (aU (aA 0) aH)))
  (aJ (cG (i:=2) (gQ (bT (tK T) T.mZ (aC (aA 0) aG))))
  (aJ (gq (i:=3) (pW (qb (aC (cP (yS (aC aH aG)) (kY (yS (aC aH aG)) (bB (aA 1)))) aG))))
  (aJ (fH (pY (aC aH (aC (aB6 aH (aA 1)) aG)) T.di) (bN (ks:=[4]))
   (aJ (mz (i:=5) (gQ (kY (yS (aC aH aG)) (cP (bB (aA 1)) aH))))
   (aJ (fH (gh (bT (aDm T) T.aAn (aC (aA 4) aG))) (bN (ks:=[6]))
    (aN (mz (i:=5) (gQ (bT (wL T) T.qN (aC (tZ 5) (aC (aKb (aA 2) (aA 6)) (aC (aU (yQ 3) (qd (aA 4) (aA 6))) aG))))))))
   (aN (nA 3 (tZ 5))))))
  (aN (bQ (aJi (N:=["number","times"]) (js:=[none,none]) (ks:=[0,1]) (aEx (aC (aU (aA 3) (aB7 aH)) aG) T.aAZ) (kO (n:=2) (bM bf (bM bf gr))) (aB5 (aJf (aA 1) aH)) (bB (aA 0)) (bB (aA 1))))))))))
def mG(T:Txt K mg t):cg P w K mg base (CX1 P w) 11 t.oG t.oN ["_law_call"] (spR P w K mg base 10 "told" (wdA t)):=
 aBf T.cL.F uV rfl rfl rfl rfl rfl rfl T.vB T.iR (yt T) T.jP.m T.jP.F.kp T.jP.b (by decide) λ C w h=>(aJ9 T.cb h).2
def aJ8(T:Txt K mg t):∀c w,wdN c=some w->wdA t (aa mg c)=some w:=aM8 (ns:=["NoWeb","NoPlace","NoWay","NoParting","TooMany","NoForest","NoPlan","NoOneWay","NoOrder","NoText","NoDeed","NoRow"]) T.cb (by simp only[List.map,T.aCw,T.aDz,T.aIk,T.aAc,T.xN,T.aCF,T.aGP,T.aCE,T.aEA,T.aGO,T.aGQ,T.aIl])
def aN7(T:Txt K mg t){c Pt:Addr}{s:zAB}{H:Hp}(hr:dj 11 (zCV.deeper (zCc "law" (aF ph) s.heap.objs.size t.aDJ (.ref c))))(Lx:su (cxW P w K mg base ["_law_script","_law_k","_law_cell","_law_web_here","_law_sizes","_law_due","_law_turn","_law_found","_law_every"] "law" (aF ph) t.aDJ (.ref c) zCV s H Pt) Pt)(n:zCY (["_law_script","_law_k","_law_cell","_law_web_here","_law_sizes","_law_due","_law_turn","_law_found","_law_every"]:List Str)):
  SSs (ctW P w K mg base ["_law_script","_law_k","_law_cell","_law_web_here","_law_sizes","_law_due","_law_turn","_law_found","_law_every"] "law" (aF ph) t.aDJ (.ref c) zCV s H Pt 11 hr) (cN ph) vg:=
  (aJ (fH (kJ (aC (aCa T.aJx (aC aH (aC (aC9 T.aFy (aC (qg T.xJ (aC (aA 0) aG)) (aC aH aG))) aG))) aG) T.di) (bN (ks:=[1]))
   (aJ (cG (i:=2) (gQ (bT (uw T) T.oK (aC (aA 0) (aC (aA 1) aG)))))
   (aJ (cG (i:=3) (gQ (bT (aBp T) T.xn (aC (aA 2) (aC aH aG)))))
   (aJ (mz (i:=4) (gQ (rY (N:=["_law_row","_law_web_here"]) (js:=[none,some 3]) (ks:=[0]) (gh (bT (aAV T) T.vZ (aC (aA 3) aG))) bf jT (qd (aU (aA 1) aH) (qg T.xJ (aC (aA 0) aG))))))
   (aJ (mz (i:=5) (aJe (N:=["_law_ways","_law_sizes"]) (js:=[none,some 4]) (ks:=[0]) (pY (aC (aHi T.aFy (aC (aA 4) aG)) (aC (cP (aU (aA 3) aH) aH) aG)) T.di) bf jT (cF (aC (bB (aA 0)) (aC (aFA (aA 1) (aA 0)) aG)))))
   (aJ (fH (kJ (aC aH aG) T.di) (bN (ks:=[6]))
    (aJ (gq (i:=7) (pW (aK5 (bT (lD T) T.jg (aC (aA 3) aG)))))
    (aJ (jK (SW.st (aEj (oY (kI (qi (yQ 7) T.aX T.aL2))) (aBZ (wu (aKa T.aL1 (yQ 7)) (tZ 5)))))
     (aN (bQ pZ))
     dB)
    (aN (aEq 7)))))
   (aJ (jK (wu (aEz (k:=11) (k0:=10) (kb:=9) (wn:=wdN) (wd:=wdA t) (λ _=>mG T) (zEJ rfl) T.cL.m T.cL.F.kp T.cL.b (λ _=>⟨⟨_,Lx⟩,rfl,rfl,rfl⟩) ⟨rfl,rfl,rfl,by decide+kernel,by decide+kernel⟩ rfl (aJ8 T) (by decide) (λ _ _ _ _ _ _ _ _ _ _=>(bT (lD T) T.jg (aC (cF (aC (cP aH (bT (jM T) T.ig (aC (aA 2) (aC aH (aC aH aG))))) (aC (cF aG) aG))) aG))) (hfree:=λ _=>aAb (sc:=aF ph) (by decide+kernel))) yR)
    (aN (bQ pZ))
    dB)
   (aN (jK (wu (aEz (k:=11) (k0:=10) (kb:=9) (wn:=wdN) (wd:=wdA t) (λ _=>mG T) (zEJ rfl) T.cL.m T.cL.F.kp T.cL.b (λ _=>⟨⟨_,Lx⟩,rfl,rfl,rfl⟩) ⟨rfl,rfl,rfl,by decide+kernel,by decide+kernel⟩ rfl (aJ8 T) (by decide) (λ _ _ _ _ _ _ _ _ _ _=>(bT (lD T) T.jg (aC (cF (aC (aU (aA 3) aH) (aC aK9 aG))) aG))) (hfree:=λ _=>aAb (sc:=aF ph) (by decide+kernel))) yR)
    (aN (bQ pZ))
    dB)))))))))
  (aJ (cG (i:=8) (gQ (cF (aC (cF (aC aH (aC aH aG))) (aC (cF (aC aH (aC aH aG))) (aC (cF (aC aH (aC aH aG))) (aC (cF (aC aH (aC aH aG))) (aC (cF (aC aH (aC aH aG))) (aC (cF (aC aH (aC aH aG))) aG)))))))))
  (aN (bQ (aKd (bT (lD T) T.jg (aC (cF (aC aH (aC (aA 8) aG))) aG)) (aHm [(1,12),(2,15),(3,6),(4,1)]))))))
end
def aKS{K:zAA}{h:Heap}{mg:Str->Option Value}{tk_MOST_PLACES:Tok}{tk_MOST_TRIED:Tok}{q_FewError:Addr}{q_NoWeb:Addr}{q_NoPlace:Addr}{q_NoWay:Addr}{q_NoParting:Addr}{q_TooMany:Addr}{q_NoForest:Addr}{q_NoPlan:Addr}{q_NoOneWay:Addr}{q_NoOrder:Addr}{q_NoText:Addr}{q_NoDeed:Addr}{q_NoRow:Addr}(X:K.In h)(G:h.Ns zA2 mg)
  (h0:∃f d,Enr K "is_whole" o9 f d)
  (h1:∃f d,Enr K "is_many" qt f d)
  (h2:∃f d,Enr K "is_place" ou f d)
  (h3:∃f d,Enr K "is_pair" qm f d)
  (h4:∃f d,Enr K "is_rising" mC f d)
  (h5:∃f d,Enr K "are_rising_pairs" eF f d)
  (h6:∃f d,Enr K "are_ties" pA f d)
  (h7:∃f d,Enr K "is_web" uY f d)
  (h8:∃f d,Enr K "check_web" mD f d)
  (h9:∃f d,Enr K "all_tied" pB f d)
  (h10:∃f d,Enr K "check_tried" jW f d)
  (h11:∃f d,Enr K "places_in" lw f d)
  (h12:∃f d,Enr K "begins" uc f d)
  (h13:∃f d,Enr K "ways_counted" iU f d)
  (h14:∃f d,Enr K "firsts" uZ f d)
  (h15:∃f d,Enr K "tally_with" kZ f d)
  (h16:∃f d,Enr K "counted" qu f d)
  (h17:∃f d,Enr K "_law_cell_at" jV f d)
  (h18:∃f d,Enr K "_law_draw" o8 f d)
  (h19:∃f d,Enr K "_law_web" ql f d)
  (h20:∃f d,Enr K "_law_rows" o7 f d)
  (h21:∃f d,Enr K "_law_class" lz f d)
  (h22:∃f d,Enr K "_law_refused" jU f d)
  (h23:∃f d,Enr K "law" ph f d)
  (gK:zAd K zA2 "MOST_PLACES"=some (some (.int 60 tk_MOST_PLACES)))
  (iC:zAd K zA2 "MOST_TRIED"=some (some (.int 10 tk_MOST_TRIED)))
  (y_FewError:zAd K zA2 "FewError"=some (some (.ref q_FewError)))
  (iR:bu K q_FewError)
  (y_NoWeb:zAd K zA2 "NoWeb"=some (some (.ref q_NoWeb)))
  (pN:bu K q_NoWeb)
  (y_NoPlace:zAd K zA2 "NoPlace"=some (some (.ref q_NoPlace)))
  (mj:bu K q_NoPlace)
  (y_NoWay:zAd K zA2 "NoWay"=some (some (.ref q_NoWay)))
  (tV:bu K q_NoWay)
  (y_NoParting:zAd K zA2 "NoParting"=some (some (.ref q_NoParting)))
  (jJ:bu K q_NoParting)
  (y_TooMany:zAd K zA2 "TooMany"=some (some (.ref q_TooMany)))
  (j0:bu K q_TooMany)
  (y_NoForest:zAd K zA2 "NoForest"=some (some (.ref q_NoForest)))
  (kE:bu K q_NoForest)
  (y_NoPlan:zAd K zA2 "NoPlan"=some (some (.ref q_NoPlan)))
  (pP:bu K q_NoPlan)
  (y_NoOneWay:zAd K zA2 "NoOneWay"=some (some (.ref q_NoOneWay)))
  (jz:bu K q_NoOneWay)
  (y_NoOrder:zAd K zA2 "NoOrder"=some (some (.ref q_NoOrder)))
  (mq:bu K q_NoOrder)
  (y_NoText:zAd K zA2 "NoText"=some (some (.ref q_NoText)))
  (pO:bu K q_NoText)
  (y_NoDeed:zAd K zA2 "NoDeed"=some (some (.ref q_NoDeed)))
  (pQ:bu K q_NoDeed)
  (y_NoRow:zAd K zA2 "NoRow"=some (some (.ref q_NoRow)))
  (tW:bu K q_NoRow)
  (cb:L2.aCT K q_FewError [q_NoWeb,q_NoPlace,q_NoWay,q_NoParting,q_TooMany,q_NoForest,q_NoPlan,q_NoOneWay,q_NoOrder,q_NoText,q_NoDeed,q_NoRow]=true)
  (z_ValueError:zAd K zA2 "ValueError"=some none)
  (z_all:zAd K zA2 "all"=some none)
  (z_bool:zAd K zA2 "bool"=some none)
  (z_dict:zAd K zA2 "dict"=some none)
  (z_enumerate:zAd K zA2 "enumerate"=some none)
  (z_int:zAd K zA2 "int"=some none)
  (z_isinstance:zAd K zA2 "isinstance"=some none)
  (z_len:zAd K zA2 "len"=some none)
  (z_list:zAd K zA2 "list"=some none)
  (z_max:zAd K zA2 "max"=some none)
  (z_min:zAd K zA2 "min"=some none)
  (z_range:zAd K zA2 "range"=some none)
  (z_sum:zAd K zA2 "sum"=some none)
  (z_tuple:zAd K zA2 "tuple"=some none)
  (z_zip:zAd K zA2 "zip"=some none):
  ∃t,Txt K mg t:=by
 obtain⟨f0,d0,F0,a0⟩:=dnr X G h0 ["thing"];obtain⟨f1,d1,F1,a1⟩:=dnr X G h1 ["thing"];obtain⟨f2,d2,F2,a2⟩:=dnr X G h2 ["many","thing"];obtain⟨f3,d3,F3,a3⟩:=dnr X G h3 ["many","thing"];obtain⟨f4,d4,F4,a4⟩:=dnr X G h4 ["things"];obtain⟨f5,d5,F5,a5⟩:=dnr X G h5 ["many","thing"];obtain⟨f6,d6,F6,a6⟩:=dnr X G h6 ["many","thing"];obtain⟨f7,d7,F7,a7⟩:=dnr X G h7 ["thing"];obtain⟨f8,d8,F8,a8⟩:=dnr X G h8 ["thing"];obtain⟨f9,d9,F9,a9⟩:=dnr X G h9 ["web"];obtain⟨f10,d10,F10,a10⟩:=dnr X G h10 ["web"];obtain⟨f11,d11,F11,a11⟩:=dnr X G h11 ["group"];obtain⟨f12,d12,F12,a12⟩:=dnr X G h12 ["web"];obtain⟨f13,d13,F13,a13⟩:=dnr X G h13 ["web"];obtain⟨f14,d14,F14,a14⟩:=dnr X G h14 ["group"];obtain⟨f15,d15,F15,a15⟩:=dnr X G h15 ["tally","times","more"];obtain⟨f16,d16,F16,a16⟩:=dnr X G h16 ["web"];obtain⟨f17,d17,F17,a17⟩:=dnr X G h17 ["_law_script","_law_k"];obtain⟨f18,d18,F18,a18⟩:=dnr X G h18 ["_law_cell","_law_k","_law_bound"];obtain⟨f19,d19,F19,a19⟩:=dnr X G h19 ["_law_cell","_law_most"];obtain⟨f20,d20,F20,a20⟩:=dnr X G h20 ["_law_web_here"];obtain⟨f21,d21,F21,a21⟩:=dnr X G h21 ["_law_error"];obtain⟨f22,d22,F22,a22⟩:=dnr X G h22 ["_law_call"];obtain⟨f23,d23,F23,a23⟩:=dnr X G h23 ["_law_script"]
 exact⟨⟨f0,_,f1,_,f2,_,f3,_,f4,_,f5,_,f6,_,f7,_,f8,_,f9,_,f10,_,f11,_,f12,_,f13,_,f14,_,f15,_,f16,_,f17,_,f18,_,f19,_,f20,_,f21,_,f22,_,f23,_,_,_,q_FewError,q_NoWeb,q_NoPlace,q_NoWay,q_NoParting,q_TooMany,q_NoForest,q_NoPlan,q_NoOneWay,q_NoOrder,q_NoText,q_NoDeed,q_NoRow⟩,⟨F0,F1,F2,F3,F4,F5,F6,F7,F8,F9,F10,F11,F12,F13,F14,F15,F16,F17,F18,F19,F20,F21,F22,F23,zAf X G gK,⟨_,rfl⟩,zAf X G iC,⟨_,rfl⟩,zAf X G y_FewError,(by unfold aa;rw[zAf X G y_FewError]),iR,zAf X G y_NoWeb,(by unfold aa;rw[zAf X G y_NoWeb]),pN,zAf X G y_NoPlace,(by unfold aa;rw[zAf X G y_NoPlace]),mj,zAf X G y_NoWay,(by unfold aa;rw[zAf X G y_NoWay]),tV,zAf X G y_NoParting,(by unfold aa;rw[zAf X G y_NoParting]),jJ,zAf X G y_TooMany,(by unfold aa;rw[zAf X G y_TooMany]),j0,zAf X G y_NoForest,(by unfold aa;rw[zAf X G y_NoForest]),kE,zAf X G y_NoPlan,(by unfold aa;rw[zAf X G y_NoPlan]),pP,zAf X G y_NoOneWay,(by unfold aa;rw[zAf X G y_NoOneWay]),jz,zAf X G y_NoOrder,(by unfold aa;rw[zAf X G y_NoOrder]),mq,zAf X G y_NoText,(by unfold aa;rw[zAf X G y_NoText]),pO,zAf X G y_NoDeed,(by unfold aa;rw[zAf X G y_NoDeed]),pQ,zAf X G y_NoRow,(by unfold aa;rw[zAf X G y_NoRow]),tW,zAs X G z_ValueError,zAs X G z_all,zAs X G z_bool,zAs X G z_dict,zAs X G z_enumerate,zAs X G z_int,zAs X G z_isinstance,zAs X G z_len,zAs X G z_list,zAs X G z_max,zAs X G z_min,zAs X G z_range,zAs X G z_sum,zAs X G z_tuple,zAs X G z_zip,cb⟩⟩
def aMW{l:zEq}{w:World}{K:zAA}{h:Heap}{mg:Str->Option Value}{fa Pt:Addr}(X:K.In h)(G:h.Ns zA2 mg)(hfa:mg "law"=some (.ref fa))(hB:zH K "law" Pt=true)(ht:∃t,Txt K mg t):L2.aDZ l.prog w K mg fa Pt 11 63:=by
 obtain⟨t,T⟩:=ht;have e:=hfa.symm.trans T.aKF.m;cases e;exact aIj (f:=vg) (F:=aHM) X G hB T.aKF aKg (λ _ _ _ _ _ _ _ _=>.of_eq rfl) (λ base c s H hr Lx nd=>aN7 T hr Lx nd) rfl aGL
def walk{l:zEq}{q:zAS}{loose:List Str}{XP:(Str->Option Value)->Heap->Prop}{YP:World->Heap->Prop}{d:DefRec}{K:Params->zAA}{Pt:Addr}(hn:l.most=some 63)(hdf:d.params.defaults=[])
  (hY:∀(w:World) (h:Heap),YP w h->(K w.params).In h/\h.get? Pt=some (zCD #[]))
  (F:∀(w:World) (mg:Str->Option Value) (fa:Addr) (h:Heap),(K w.params).In h->h.Ns zA2 mg->mg d.name=some (.ref fa)->L2.aDZ l.prog w (K w.params) mg fa Pt 11 63):
  zH4 q loose XP YP l.row.toRowW d [] (λ f vs=>zHC f vs):=
 L2.aE6 hn (by decide) hdf ⟨rfl,by decide,by decide⟩ hY F
end VL.My
open PySem PySem.W PyProof.Rows
set_option maxRecDepth 100000 in
set_option maxHeartbeats 0 in
theorem PySem.Challenge.cw_fewways_k12_partings_counted_holds : PySem.Challenge.rw_fewways_k12_partings_counted.Holds := by
 w_on; o_law; k_head; (case hw=>w_witness2)
 k_fill
 refine VL.My.walk (l:=PySem.Challenge.rw_fewways_k12_partings_counted) rfl rfl (fun w h Y=>⟨PySem.W.km_in_of Y,PySem.W.km_tabs_of Y _ zAG⟩) ?F
 case F =>
  intro w mg fa h KX G hmg
  refine VL.My.aMW KX G hmg ?B ?T
  (case B=>kernel_rfl)
  case T =>
   refine' VL.My.aKS KX G (VL.enr ?a0 ?l0 ?c0 ?k0) (VL.enr ?a1 ?l1 ?c1 ?k1) (VL.enr ?a2 ?l2 ?c2 ?k2) (VL.enr ?a3 ?l3 ?c3 ?k3) (VL.enr ?a4 ?l4 ?c4 ?k4) (VL.enr ?a5 ?l5 ?c5 ?k5) (VL.enr ?a6 ?l6 ?c6 ?k6) (VL.enr ?a7 ?l7 ?c7 ?k7) (VL.enr ?a8 ?l8 ?c8 ?k8) (VL.enr ?a9 ?l9 ?c9 ?k9) (VL.enr ?a10 ?l10 ?c10 ?k10) (VL.enr ?a11 ?l11 ?c11 ?k11) (VL.enr ?a12 ?l12 ?c12 ?k12) (VL.enr ?a13 ?l13 ?c13 ?k13) (VL.enr ?a14 ?l14 ?c14 ?k14) (VL.enr ?a15 ?l15 ?c15 ?k15) (VL.enr ?a16 ?l16 ?c16 ?k16) (VL.enr ?a17 ?l17 ?c17 ?k17) (VL.enr ?a18 ?l18 ?c18 ?k18) (VL.enr ?a19 ?l19 ?c19 ?k19) (VL.enr ?a20 ?l20 ?c20 ?k20) (VL.enr ?a21 ?l21 ?c21 ?k21) (VL.enr ?a22 ?l22 ?c22 ?k22) (VL.enr ?a23 ?l23 ?c23 ?k23) ?gK ?iC ?y_FewError ?iR ?y_NoWeb ?pN ?y_NoPlace ?mj ?y_NoWay ?tV ?y_NoParting ?jJ ?y_TooMany ?j0 ?y_NoForest ?kE ?y_NoPlan ?pP ?y_NoOneWay ?jz ?y_NoOrder ?mq ?y_NoText ?pO ?y_NoDeed ?pQ ?y_NoRow ?tW ?cb ?z_ValueError ?z_all ?z_bool ?z_dict ?z_enumerate ?z_int ?z_isinstance ?z_len ?z_list ?z_max ?z_min ?z_range ?z_sum ?z_tuple ?z_zip
   (case y_FewError=>k_is); (case iR=>unfold L2.bu; k_exc)
   (case y_NoWeb=>k_is); (case pN=>unfold L2.bu; k_exc)
   (case y_NoPlace=>k_is); (case mj=>unfold L2.bu; k_exc)
   (case y_NoWay=>k_is); (case tV=>unfold L2.bu; k_exc)
   (case y_NoParting=>k_is); (case jJ=>unfold L2.bu; k_exc)
   (case y_TooMany=>k_is); (case j0=>unfold L2.bu; k_exc)
   (case y_NoForest=>k_is); (case kE=>unfold L2.bu; k_exc)
   (case y_NoPlan=>k_is); (case pP=>unfold L2.bu; k_exc)
   (case y_NoOneWay=>k_is); (case jz=>unfold L2.bu; k_exc)
   (case y_NoOrder=>k_is); (case mq=>unfold L2.bu; k_exc)
   (case y_NoText=>k_is); (case pO=>unfold L2.bu; k_exc)
   (case y_NoDeed=>k_is); (case pQ=>unfold L2.bu; k_exc)
   (case y_NoRow=>k_is); (case tW=>unfold L2.bu; k_exc)
   (case cb=>kernel_rfl)
   any_goals k_is
