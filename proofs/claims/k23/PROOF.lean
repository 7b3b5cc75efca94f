import PyProof.Rows.All
import KE.KDictOf
import PyProof.DictWalks
import Wide.All
import OpenK.AllK
import Wide.FinOn
import Lean
import PyProof.EqAt
import PyProof.EqKinds
import PyProof.TupleCall
import KE.LcSums
import PySem.Challenge.RW_fewways_k23_best_bars
open Array renaming length_toList->zA0,getElem?_toList->zBg,getElem?_eq_some_iff->zCQ,getElem?_eq_getElem->zCW,getD->zCi,getD_eq_getD_getElem?->zDF,toList_push->zEX,replicate->zEj,getElem?_eq_none->zF2,toList_append->zFp,append_assoc->zGE,toList->zHT
open Bool renaming and_eq_true->zAE,false_ne_true->zAc,false_eq_true->zAo,or_eq_true->zDJ,eq_iff_iff->zDm,and_true->zER,and_assoc->zFO,and_false->zFP,eq_false_iff->zG5,not_eq_true'->zG6,false_and->zHL,not_false->zHM,not_true->zHU,or_true->zH4
open Classical renaming byContradiction->zAt,propDecidable->zEk
open False renaming elim->zAJ
open ForInStep renaming yield->zBj
open Int renaming toNat_natCast->zB8,eq_ofNat_of_zero_le->zBw,emod_lt_of_pos->zCe,emod_nonneg->zDO,toNat_of_nonneg->zDP,le_refl->zDf,le_trans->zDu,fdiv_eq_ediv_of_nonneg->zFQ,zero_add->zFr,natAbs_natCast->zG8,natCast_nonneg->zG9
open LawfulBEq renaming eq_of_beq->zD2
open List renaming getElem?_eq_getElem->zAC,length_map->zAF,getElem?_eq_some_iff->zAG,mem_cons_self->zAI,mem_cons_of_mem->zAK,getElem?_map->zAL,replicate->zAQ,size_toArray->zAS,range->zAU,mem_cons->zAX,getD_eq_getElem?_getD->zA3,mem_filter->zA5,length_cons->zA6,map_cons->zA7,mem_append_right->zAa,mem_map->zAf,mem_append_left->zAh,mem_range->zAi,lookup_cons->zAk,nodup_cons->zAl,length_set->zAp,mem_of_getElem?->zAq,length_append->zAs,all_eq_true->zAx,getElem?_set_ne->zAy,zip_cons_cons->zBB,map_map->zBC,mem_singleton->zBD,append_nil->zBF,getElem?_append_left->zBG,length_nil->zBH,mem_append->zBI,filterMap_cons->zBJ,pairwise_cons->zBM,getElem?_set_self->zBQ,length_range->zBS,replicate_succ->zBT,getElem?_eq_none->zBW,map_append->zBX,not_mem_nil->zBh,mem_filterMap->zBi,pairwise_iff_getElem->zBm,getElem?_range->zBu,getElem_mem->zCC,foldl_cons->zCI,length_filter_le->zCJ,length_replicate->zCK,flatten_cons->zCR,getElem?_append_right->zCT,nodup_iff_pairwise_ne->zCU,getElem?_replicate->zCb,length_pos_of_mem->zCj,append_assoc->zCl,cons_append->zCt,length_take->zCu,filter_eq_self->zDK,of_mem_zip->zDL,drop_eq_getElem_cons->zDX,nodup_append->zD5,getElem?_cons_succ->zDc,length_singleton->zDp,getElem_of_mem->zEI,map_congr_left->zEJ,contains_cons->zES,lookup_append->zET,filter_congr->zE2,pairwise_map->zE3,any_eq_true->zEe,drop_length->zEf,nil_append->zEt,perm_ext_iff_of_nodup->zEz,length_erase_of_mem->zFU,getElem?_cons_zero->zF4,length_eq_zero_iff->zF5,take_of_length_le->zFc,max?->zFm,getElem_toArray->zFs,mem_erase_of_ne->zFt,range_eq_range'->zFu,length->zGG,mem_map_of_mem->zGH,range'->zGI,zip_nil_right->zGR,Nodup->zGb,ext_getElem?->zGc,foldl->zGd,zip_nil_left->zGe,mem_reverse->zGt,range'_succ->zGu,range_succ->zHG,all_cons->zHV,any_cons->zHW,all_map->zHb,map_nil->zHc,map_set->zHd
open List.Pairwise renaming nil->zEy,imp_of_mem->zHa
open List.Perm renaming refl->zBZ,swap->zDg
open MonadExcept renaming tryCatch->zH3
open Nat renaming lt_of_lt_of_le->zAO,le_refl->zAW,ne_of_lt->zA1,le_trans->zAd,zero_le->zAg,pow_le_pow_right->zBA,lt_irrefl->zBV,le_of_lt->zB7,testBit_two_pow_mul_add->zB9,two_pow_pos->zBa,ge_two_pow_of_testBit->zBn,ne_of_gt->zCM,le_of_lt_succ->zCV,lt_succ_self->zC4,testBit_eq_decide_div_mod_eq->zCk,lt_succ_of_lt->zCp,mod_lt->zDM,succ_pos->zDY,testBit_succ->zDh,le_of_ble_eq_true->zDv,sub_self->zDw,le_succ->zEL,lt_trichotomy->zE8,pow_succ->zEg,le_of_not_lt->zEm,testBit_zero->zEn,testBit_two_pow_sub_succ->zEu,not_lt_zero->zFA,shiftRight_eq_div_pow->zFV,not_lt->zF6,le_of_eq->zFv,mul_comm->zFw,zero_add->zFx,mul_add->zGS,mul_one->zGT,lt_of_le_of_lt->zGf,le_of_testBit->zGv,le_max_right->zHH,le_max_left->zHN,testBit_and->zHO
open Nat.succ renaming inj->zFR
open Ne renaming symm->zDi
open Option renaming map_eq_some_iff->zCD,map_some->zC7,isSome_iff_exists->zFB,bind_some->zGU,map_none->zGg,none->zHX
open Option.some renaming inj->zA8,injEq->zC5
open Or renaming inr->zBx,inl->zCg
open Prod renaming fst->zF7
open PyProof.Rows renaming IntsAre->zBO,step_dedup->zBf,KeyOrd->zC1,envOfC->zC9,callWith_type1->zCm,SortSt->zCw,kindOf->zCy,SortKind->zDE,AllBare->zEK,lt_int->zEv,pendingOf->zFg,seqObj->zFi,failedOf->zGY,subscriptTail_builtinR->zGn,boot_range->zHh
open PyProof.Rows.F renaming plain_set_update_loop->zCE,entry_set_update_loop->zD0
open PyProof.Rows.IntsAre renaming int_at->zGJ,length->zGa
open PySem renaming Shared->zAB,wpAny_bind->zAD,wpAny_pure->zAN,Program->zAP,starEach->zAT,mainGlobals->zAV,sizeLine->zAY,Around->zAZ,mem_of_lookup->zA9,FuncData->zAe,compareOp->zAm,bootBuiltins->zAr,wpAny_truthy_bool->zBY,codeAny_builtin->zB1,binaryOp->zB3,wpAny_mono->zB4,behindInMarks->zBb,argBest->zBy,foldedSetIterable->zBz,wpAny_loadPart'->zCA,wpAny_loadPart_at->zCB,wpAny_holding->zCG,assignEach->zCL,callerA->zCO,codeAny->zCP,wpAny_Call_Name_kw->zCS,backTo->zCY,wpAny_passesOwn->zCZ,wpAny_newObj_type->zC2,wpAny_setState_of->zC3,cellsFrom->zC8,SetTable->zCd,Arguments->zCn,Keyword->zCo,plainId_quiet->zCq,richCompare_meets_room->zCz,intKind->zDA,sizeLine_eq->zDB,GenState->zDD,codeAny_mono->zDH,swapsWith->zDI,holding->zDQ,wpAny_askSetting->zDR,wpAny_call_entry->zDS,codeAny_call_builtin->zDT,NameKind->zDU,attributeBase->zDW,Builtin->zDZ,wpAny_execs_nil->zD3,wpAny_isSubtype_exc->zD4,wpAny_newFunctionEnv_cells->zDb,wpAny_pyIter_list->zDl,excClassObj->zDx,keywordEach->zDy,checkBuiltinCall->zDz,wpAny_forIn_list->zEA,assign->zEO,codeAny_call_function->zEP,letOwnedTupleGo->zEQ,call_meets->zEV,wpAny_Name->zEW,wpAny_loadName_local->zE1,Result->zE4,pyNext->zE5,recursionLimit->zE6,wpAny_tryCatch->zE7,richCompare->zEc,wpAny_loadName_cell->zEd,Paired->zEo,codeAmong->zEr,closureFor->zFL,intKind_is->zFM,wpAny_call->zFN,noFill_tuple_add->zF1,backToKw->zF9,relabel->zFh,wpAny_letGo->zFj,wpAny_updateSeq->zFk,isSubtype_type->zGA,newFunctionEnv->zGB,wpAny_seqItems->zGC,wpAny_setField->zGD,argsOk->zGL,sysModules->zGM,typeLookup->zGN,wpAny_comprehension_free->zGO,BindsTo->zGP,call->zGV,seq_tuple_add->zGZ,standAt->zG0,swappedStores->zG1,swapsWithSole->zG2,wpAny_callSpecial?_slot->zG3,wpAny_standAt->zG4,PassesOwn->zGx,builtinLookup_eq_fast->zHA,codeAny_func->zHB,concat_meets->zHC,lastMarks->zHD,seqIndex_neg->zHE,wpAny_isTrue_Compare1->zHF,newList->zHP,seqIndex_of->zHQ,wpAny_loadName_free->zHR,wpAny_of_eq->zHS,Within->zHY,bindArgs->zHZ,entryFor->zH0,pyIter->zH1,rawInt->zH2,builtinsNs->zHi,defaultsOf->zHj,setsByText->zHk,typeIs_int->zHl,wpAny_assign_Name->zHm,wpAny_pyIter_slot->zHn
open PySem.Around renaming under_plainId->zBL,frames_deeper->zFb
open PySem.AutoSeq1 renaming sub_tuple_tuple->zCX
open PySem.Bind renaming checkArgs->zHK
open PySem.Builtin renaming bitAnd->zBt,bitOr->zEC,bitNot->zG7
open PySem.Builtin.Builtins renaming bindParams->zDn
open PySem.Builtin.Frozenset renaming addrOf->zGo,newClass->zGp,sizeOf->zGq,slot0->zGr,updateFrom->zGs
open PySem.Builtin.List renaming listTooLong->zDC,listLengthHint->zEH
open PySem.Builtin.Range renaming rangeSize->zDG,rangeFitsLong->zEB,small->zH5
open PySem.Builtin.Tuple renaming tupleCompareSizes->zBe,tupleHashOf->zH6
open PySem.Calls renaming Name_function_global->zEs,callWith_builtin->zF3,evalArgs_plain->zFl
open PySem.CmpOp renaming NotIn->zH7
open PySem.Code renaming quiet_builtin->zGQ
open PySem.F renaming plain_min_loop->zBN,plainAttrs_list->zBr,slot_list_index->zC6,called_set->zCa,args_tuple_add_2->zDV,entry_tuple_add->zD1,entry_min_loop->zD8,slot_tuple_add->zD9,slot_list_append->zDe,typeOf_object_class->zED,args_list_index_2->zEp,entry_list_index->zEw,type_list_append->zEx,args_tuple_lt_2->zFC,plain_list_iadd->zFD,slot_list_count->zFE,type_list_index->zFF,entry_tuple_lt->zFS,plain_set_new->zFW,slot_set_iter->zFX,slot_tuple_lt->zFY,slot_gs_get->zFq,slot_int_rmul->zH8
open PySem.Heap renaming get?_push_of_some->zAH,lt_size->zAM,get?_push_size->zAR,get?_update_other->zAz,size_push->zB5,get?_update_self->zCH,SameBut->zDo,get?_update_ne->zGF,FlyingW->zH9
open PySem.Heap.SameBut renaming update->zBl
open PySem.Moved renaming trans->zEl
open PySem.NameKind renaming free->zBc,cell->zCr
open PySem.Obj renaming mapSeq->zE9,putSet->zGw,mapFields->zHe
open PySem.Paired renaming length->zHI
open PySem.SeqAt renaming EqAt->zCN,list_indexAt->zGK
open PySem.SeqAt.EqAt renaming int_int->zDr,of_refs->zDs,same->zEU,bool_bool->zFH,int_str->zFZ,str_int->zF0
open PySem.SeqAt.RcAt renaming lists_lengths->zEb,tuples->zF8,lists->zFf
open PySem.SetTable renaming below->zAb,bits->zAn,insertAt->zAv,leap->zBE,runEnd->zBK,turns->zCf,has->zDd,Probe->zEh,grown->zEi,insertAt_perm->zFI,layClean->zFo,advance->zFz,fresh->zGW,fill->zGk,fits->zGl,slot->zGm
open PySem.SetTable.below renaming go->zCv
open PySem.SetTable.layClean renaming free->zBk
open PySem.SetTable.probe renaming go->zBd
open PySem.Value renaming ref->zB0,bool->zBp,int->zBq,notImplemented->zCx,builtin->zDa,type->zDt,none->zE0,str->zGz,float->zHg
open PySem.W renaming Frag->zAA,nsIn->zA2,mg_of->zA4,mg_none_of->zAj,kia_one->zAu,findIn->zAw,emptyDict->zBP,keepIn->zBR,fnOf->zBU,kitOne->zB2,hideAll->zB6,instObj->zBo,hideAll_get->zBs,tabObj->zBv,kla_obj->zCF,envX->zC0,cellsFrom_some->zCc,codeIn->zCh,looks_findIn->zCs,of_hideAll->zDN,codeHdIn->zD6,hideAll_none->zDj,hideAll_size->zDk,lookIn->zDq,Looks->zEE,callWith_K->zEF,codeRec_of->zEG,kitx_dict->zEM,methodObj->zEN,ksm_same->zEY,plainGet->zEZ,OpenLaw->zEa,kla_fn->zEq,excIn->zFG,funFrames_hide->zFT,codeHd_of_K->zFd,plainGet_of->zFe,kitx_tuple->zFn,kitx_list->zFy,CodeHd->zGh,InstAt->zGi,KdlSrc->zGj,WalkO->zGy,isFn->zHJ
open PySem.W.Looks renaming ld->zHf
open PySem.Walks renaming list->zGX
open Sum renaming inl->zFJ,inr->zFK
open ToString renaming toString->zFa
open True renaming intro->zD7
noncomputable section
namespace PySem.W.Fast
def tw10334174066353182723:=0
def tw5897367188414592163:=0
def tw10069834328576666371:=0
def tw9381452025577178435:=0
def tw14869188034464986019:=0
def tw1573712464096917955:=0
def tw17403233616467493923:=0
def tw5860887607819050051:=0
def tw14795965704535269443:=0
def tw17253627258273833059:=0
def tw15878086801387943715:=0
def tw2398717495017937842:=0
def tw14481240900598177714:=0
def tw8298137010857904626:=0
def tw11500563489591291378:=0
def tw7460905557056752050:=0
def tw9917603435972264946:=0
def tw9608950394715556402:=0
def tw1772153444969650386:=0
def tw402930971487333521:=0
def tw18110608972644055281:=0
def tw5809841363740399441:=0
def tw14173468944550845649:=0
def tw11808085368972651729:=0
def tw15381562548154354449:=0
def tw3180453272258624017:=0
def tw17103302800898667680:=0
def tw7678040186008711872:=0
def tw10320037718936882496:=0
def tw13855107999115767648:=0
def tw13558452817873051072:=0
def tw5516264157133201888:=0
def tw12339755959317269120:=0
def tw5589074671194390784:=0
def tw6801025131930555168:=0
def tw4096336056812518176:=0
def tw1434241211211818336:=0
def tw206993094259463520:=0
def tw3012935232882741471:=0
def tw14863975050102509375:=0
def tw14512844459944621599:=0
def tw5224766456906660031:=0
def tw32925138618923295:=0
def tw8745689422926118207:=0
def tw2310173325130591551:=0
def tw1825677628123474399:=0
def tw15959596912692868607:=0
def tw1280209348276094942:=0
def tw17068645689368460286:=0
def tw18442775295348854814:=0
def tw18183534746052573502:=0
def tw4282000940553826686:=0
def tw12992628941997640606:=0
def tw5095116672909092350:=0
def tw3136440435260438174:=0
def tw6488253795519346381:=0
def tw14202176622991863085:=0
def tw454876873216161837:=0
def tw8827888182341344429:=0
def tw12855409028041078093:=0
def tw18352372361053563213:=0
def tw3820141682765397357:=0
def tw13896480864569562509:=0
def tw10266742417496409613:=0
def tw14962625914505287181:=0
def tw14894182494834487948:=0
def tw15882630737815379116:=0
def tw6947334065343570316:=0
def tw5467875184380666828:=0
def tw13364947607723266636:=0
def tw2288114934468973836:=0
def tw7490416707165021484:=0
def tw11127669408718499692:=0
def tw3299936851755187628:=0
def tw8876930198465567180:=0
def tw8533863047524513131:=0
def tw9310319515260686763:=0
def tw5054746617050322475:=0
def tw1281346953347705739:=0
def tw9460620578236932619:=0
def tw17406866911682943595:=0
def tw12237738407030379147:=0
def tw13782844032572250379:=0
def tw12253358603743497035:=0
def tw8539358214582097914:=0
def tw727183008789388922:=0
def tw15777802556969049242:=0
def tw16196861274059234682:=0
def tw18417486935941806010:=0
def tw4882248255060335066:=0
def tw15583904172903793722:=0
def tw6207440762939601114:=0
def tw15241547102143041786:=0
def tw16474188472563615513:=0
def tw11562621006434612025:=0
def tw17393460023119401913:=0
def tw7018193630953526777:=0
def tw1229161713088428601:=0
def tw8135998531558425721:=0
def tw13605996234831215737:=0
def tw17357802659201114393:=0
def tw12344228008330214681:=0
def tw4068764483885490489:=0
def tw11063915510780171577:=0
def tw11639524531900546361:=0
def tw17148799117898100569:=0
def tw4550714920516409401:=0
def tw7689368414490868313:=0
def tw5289333189566169384:=0
def tw5677000199090805608:=0
def tw11679636779940094984:=0
def tw2875178128672867944:=0
def tw11236890287174155048:=0
def tw8500176305643114856:=0
def tw13626818390237375912:=0
def tw2600460192692361800:=0
def tw11075972799867056807:=0
def tw15046089691967781127:=0
def tw4324357474862087431:=0
def tw678104463545456487:=0
def tw12164186030287791975:=0
def tw9930462324188262375:=0
def tw8915984799230349863:=0
def tw7793277426935002727:=0
def tw5962703373228971143:=0
def tw3890080920684714119:=0
def tw16085096674945316551:=0
def tw11648959788589791943:=0
def tw15125172443989272295:=0
def tw3529888050075708167:=0
def tw8272690249272630694:=0
def tw18068490794526652390:=0
def tw7375869983719137286:=0
def tw3724422776435467302:=0
def tw15786155748574082246:=0
def tw17158747095386293798:=0
def tw13711297931922990918:=0
def tw15510673107957976533:=0
def tw16038040379389620853:=0
def tw8007010302482918581:=0
def tw9382724478696015221:=0
def tw2103016947856843125:=0
def tw12517030903649175637:=0
def tw9824384820853531349:=0
def tw9773091661641664789:=0
def tw10528032071506095541:=0
def tw4866972279902185396:=0
def tw17612029055167100884:=0
def tw17334547108401231860:=0
def tw9045424539332603412:=0
def tw210146839933882708:=0
def tw10045790953109725076:=0
def tw15807265389933743540:=0
def tw7020821473406981140:=0
def tw4062708523891657812:=0
def tw11510133918245786868:=0
def tw2231210589482117908:=0
def tw6899213879984774932:=0
def tw13739566524785266484:=0
def tw7253519535862238931:=0
def tw1380014808603148595:=0
def tw15890188644888592275:=0
def tw5069786270640678355:=0
def tw15314624100828077587:=0
def tw4925222864490182707:=0
def tw1731392583742761043:=0
def tw701432450551458483:=0
def tw13769030878571595987:=0
def tw501154670076846355:=0
def tw15343714030678364563:=0
def tw15154294446894574003:=0
def tw1224977671195287987:=0
def tw17331426708144510931:=0
def tw4510968298327715859:=0
def tw4159451052460032019:=0
def tw15506678430960968275:=0
def tw11348923694780215411:=0
def tw17749726815214399635:=0
def tw3784452063747295650:=0
def tw2633892735953181122:=0
def tw14863907308018983906:=0
def tw5003146835631815458:=0
def tw14278871252498528962:=0
def tw12754638633485040322:=0
def tw17488610116592987426:=0
def tw4258455164731015521:=0
def tw2875624190954564897:=0
def tw15145666494852894881:=0
def tw15126897619053415824:=0
def tw15258422673057373712:=0
def tw8250459278450152112:=0
def tw1073146741987308240:=0
def tw9540360752685590832:=0
def tw18212694871771337040:=0
def tw13973641987644620688:=0
def tw10925285421593534928:=0
def tw4746951958096145424:=0
def tw13936209460000195632:=0
def tw6253297684689200912:=0
def tw15651495917454356367:=0
def tw12085011194099103215:=0
def tw2655646844095819439:=0
def tw3681191066476815023:=0
def tw15584109374518403343:=0
def tw1927268681898276815:=0
def tw4778092076291876879:=0
def tw17975167938539274831:=0
def tw14432561397680047182:=0
def tw15418194249193828142:=0
def tw2211464175797460846:=0
def tw4269305881563540942:=0
def tw175262218932830190:=0
def tw16180128640471519790:=0
def tw16584565634362420814:=0
def tw1194710996620027470:=0
def tw13373357830712346222:=0
def tw9819747228490143886:=0
def tw18329982664249350926:=0
def tw219215844237588846:=0
def tw7437888322631911374:=0
def tw9808243422788146813:=0
def tw6787235829492117661:=0
def tw8086054070748968733:=0
def tw2633595056992561981:=0
def tw17077529025520941405:=0
def tw7425869730569517405:=0
def tw4012175476786101629:=0
def tw15198463554301765565:=0
def tw3563060269605989085:=0
def tw1639772573349897501:=0
def tw4473029315635998013:=0
def tw2724086070270603101:=0
def tw10619259332017723261:=0
def tw14174463917706075484:=0
def tw11035017575997346140:=0
def tw13133379737770073020:=0
def tw3467995589117324380:=0
def tw16275864918552481884:=0
def tw7642439106954587868:=0
def tw12396244459309047100:=0
def tw16869993694945294204:=0
def tw1678868852417886236:=0
def tw2609038378708052572:=0
def tw10151078004316090972:=0
def tw5747956339067845820:=0
def tw4110829185448276188:=0
def tw11472066893879735579:=0
def tw14503071011543804411:=0
def tw17577345738780355611:=0
def tw18161752993401519739:=0
def tw17248042439092631227:=0
def tw10735221223761892123:=0
def tw6876644106659905947:=0
def tw12961548786350399483:=0
def tw8508949971088011259:=0
def tw2897833551105377467:=0
def tw12868804511071338858:=0
def tw3871967594761297002:=0
def tw3657959095524574890:=0
def tw12267417290508488522:=0
def tw7176500160457566602:=0
def tw1513385083829774314:=0
def tw7586464181301722122:=0
def tw3490538910275841066:=0
def tw7228889234407431754:=0
def tw6515913333451446953:=0
def tw18219869830546843945:=0
def tw14394325499897831433:=0
def tw7524209877551638729:=0
def tw13616642931460101673:=0
def tw12942373836465405481:=0
def tw12147774654837322072:=0
def tw12108901407382783128:=0
def tw11396054687441982168:=0
def tw2174935145673618136:=0
def tw11347712506543097112:=0
def tw10007295059719292408:=0
def tw6971470646571938424:=0
def tw13825661812852907640:=0
def tw10995299877573106488:=0
def tw14089922095581744887:=0
def tw13527458342822963703:=0
def tw16120870106029968887:=0
def tw5549010661961326071:=0
def tw507793914982282903:=0
def tw16019950808284145879:=0
def tw14308794924558482647:=0
def tw14038874101603459927:=0
def tw18245298251253247095:=0
def tw15654788018682983575:=0
def tw10295567604108639894:=0
def tw3040825692435323574:=0
def tw11421025850815622358:=0
def tw10505579937573241046:=0
def tw6248423213469837142:=0
def tw2892440850056399414:=0
def tw2881322071820828854:=0
def tw6298042511183851894:=0
def tw17866029658365187606:=0
def tw11313718886189399173:=0
def tw8023317915086754501:=0
def tw8227896347533722341:=0
def tw14021562374057932069:=0
def tw5470308136561731877:=0
def tw363089535327833509:=0
def tw11050673555726039461:=0
def tw3025824000978308133:=0
def tw7195708684193737285:=0
def tw4760667709529309829:=0
def tw2735301512067464837:=0
def tw15511391231728708357:=0
def tw2131888075582725509:=0
def tw9903925049438736773:=0
def tw17978957564690710469:=0
def tw3185050883382386629:=0
def tw16655419687917202981:=0
def tw6703459698942114885:=0
def tw4525460578998556260:=0
def tw5654008852752163428:=0
def tw5664878862666129604:=0
def tw6777725757075443460:=0
def tw117781274130857796:=0
def tw15602592048998545380:=0
def tw3195331934583055876:=0
def tw736263082765583940:=0
def tw5442713279894111940:=0
def tw3246042465755625732:=0
def tw16831267765109607268:=0
def tw8112940588278036932:=0
def tw12585067894650176996:=0
def tw4444473880415197859:=0
def tw5356571088863995517:=0
end PySem.W.Fast
abbrev gX:=List (Int×Int)
abbrev gV:=List (PySem.Addr×PySem.Obj)
abbrev hZ:=List (Option Nat)
set_option bootstrap.genMatcherCode false
set_option compiler.extract_closed false
set_option Elab.async false
set_option linter.all false
set_option maxRecDepth 100000
namespace L2
open PySem PySem.Spec PyProof.Rows
abbrev Key:=Sum Int Str
def aHE:Key->Value->Bool
 | .inl k,v=>Value.isInt k v
 | .inr x,v=>Value.isStrOf x v
def aKS(w:World):Key->Int
 | .inl k=>hashInt k
 | .inr x=>hashStr w x
def cA:∀{k:Key} {v:Value},aHE k v=true->(∃i t,k=zFJ i/\v=zBq i t)\/(∃x t,k=zFK x/\v=zGz x t)
 | .inl i,v,h=>by
  obtain⟨t,e⟩:=Value.isInt_shape (k:=i) (v:=v) h;exact .inl ⟨i,t,rfl,e⟩
 | .inr x,v,h=>by
  obtain⟨t,e⟩:=Value.isStrOf_shape (x:=x) (v:=v) h;exact .inr ⟨x,t,rfl,e⟩
def aI1(a b:Int):decide ((zFJ a:Key)=zFJ b)=(a==b):=by
 by_cases e:a=b
 .subst e;simp
 .have h:¬(zFJ a:Key)=zFJ b:=λ q=>e (Sum.inl.inj q)
  rw[decide_eq_false h];exact(beq_eq_false_iff_ne.mpr e).symm
def aIY(a b:Str):decide ((zFK a:Key)=zFK b)=decide (a=b):=by
 by_cases e:a=b
 .subst e;simp
 .have h:¬(zFK a:Key)=zFK b:=λ q=>e (Sum.inr.inj q)
  rw[decide_eq_false h,decide_eq_false e]
def aI0(a:Int)(b:Str):decide ((zFJ a:Key)=zFK b)=false:=decide_eq_false (λ q=>nomatch q)
def aIZ(a:Str)(b:Int):decide ((zFK a:Key)=zFJ b)=false:=decide_eq_false (λ q=>nomatch q)
def xM(prog:zAP)(w:World):PySem.KeyKind prog w Key where
 is:=aHE
 hash:=aKS w
 inj:=λ v a b ha hb=>by
  rcases cA ha with ⟨i,t,rfl,rfl⟩|⟨x,t,rfl,rfl⟩
  .rcases cA hb with ⟨j,u,rfl,e⟩|⟨y,u,rfl,e⟩
   .injection e with e1 _;rw[e1]
   .exact nomatch e
  .rcases cA hb with ⟨j,u,rfl,e⟩|⟨y,u,rfl,e⟩
   .exact nomatch e
   .injection e with e1 _;rw[e1]
 byValue:=λ k v h=>by
  rcases cA h with ⟨i,t,rfl,rfl⟩|⟨x,t,rfl,rfl⟩<;>rfl
 pyHash:=λ hv h=>by
  rcases cA hv with ⟨i,t,rfl,rfl⟩|⟨x,t,rfl,rfl⟩
  .exact wpAny_pyHash_int h
  .exact wpAny_pyHash_str h
 eqBool:=λ hu hv h=>by
  rcases cA hu with ⟨i,t,rfl,rfl⟩|⟨x,t,rfl,rfl⟩
  .rcases cA hv with ⟨j,u,rfl,rfl⟩|⟨y,u,rfl,rfl⟩
   .rw[aI1]at h;exact wpAny_eqBool_int h
   .rw[aI0]at h;exact zFZ i t y u _ _ _ _ h
  .rcases cA hv with ⟨j,u,rfl,rfl⟩|⟨y,u,rfl,rfl⟩
   .rw[aIZ]at h;exact zF0 x t j u _ _ _ _ h
   .rw[aIY]at h;exact wpAny_eqBool_str h
 «strs»:=λ k x t v h=>by
  rcases cA h with ⟨i,u,rfl,e⟩|⟨y,u,rfl,e⟩
  .exact nomatch e
  .injection e with e1 _
   subst e1;cases v<;>rfl
inductive V where
 |non|bl (b:Bool)|int (i:Int)|str (x:Str)|byt (b:Array UInt8)|flt (b:UInt64)|ref (a:Addr)|ty (n:String)
 deriving DecidableEq
def RelV:V->Value->Prop
 | .non,u=>u=zE0
 | .bl b,u=>u=zBp b
 | .int i,u=>∃t,u=zBq i t
 | .str x,u=>∃t,u=zGz x t
 | .byt b,u=>∃t,u=Value.bytes b t
 | .flt b,u=>∃t,u=zHg b t
 | .ref a,u=>u=zB0 a
 | .ty n,u=>u=zDt n
abbrev Vals:List V->List Value->Prop:=zEo RelV
theorem Vals.length(r:Vals xs us):xs.length=us.length:=zHI r
theorem Vals.get:∀{xs:List V} {us:List Value} {i:Nat} {x:V},Vals xs us->xs[i]? =some x->∃u,us[i]? =some u/\RelV x u
 |_,_,_,_,.nil,e=>by simp at e
 |_,_,0,_,.cons r _,e=>by simp at e;subst e;exact⟨_,rfl,r⟩
 |_,_,i+1,x,.cons _ t,e=>by
  obtain⟨u,h1,h2⟩:=Vals.get (i:=i) (x:=x) t (by simpa using e);exact⟨u,by simpa using h1,h2⟩
theorem Vals.set(r:RelV x u):∀{xs:List V} {us:List Value} (i:Nat),Vals xs us->Vals (xs.set i x) (us.set i u)
 |_,_,_,.nil=>.nil
 |_,_,0,.cons _ t=>.cons r t
 |_,_,i+1,.cons q t=>.cons q (Vals.set r i t)
theorem Vals.append:∀{xs ys:List V} {us ws:List Value},Vals xs us->Vals ys ws->Vals (xs++ys) (us++ws)
 |_,_,_,_,.nil,s=>s
 |_,_,_,_,.cons r t,s=>.cons r (Vals.append t s)
def aCn:Option V->Option Value->Prop
 |some v,some u=>RelV v u
 |none,none=>True
 |_,_=>False
def KV{κ:Type}:List (κ×V)->List (κ×Value)->Prop:=zEo λ(p:κ×V) (q:κ×Value)=>p.1=q.1/\RelV p.2 q.2
def kV:Key->V
 | .inl i=>.int i
 | .inr x=>.str x
inductive HO where
 |lst (xs:List V)
 |tup (xs:List V)
 |dK (kvs:List (Key×V))|dT (kvs:List (List Key×V))
 |set (S:Int->Bool) (n:Nat)
 |ins (C dx:Addr) (fs:List (Str×V))
 |own (x:Addr)
 |xd (fs:List (Str×V))
 |met (f x:Addr)
 |rng (lo hi:Int)
 |frz (o:Obj) (u:HO)
 |tbl (ps:Array Value)
 |ext (φ:Heap->Prop)
abbrev Hp:=Addr->Option HO
def upd(H:Hp)(a:Addr)(o:HO):Hp:=λ b=>if b=a then some o else H b
def bA:upd H a o a=some o:=by unfold upd;rw[if_pos rfl]
def aX(h:b≠a):upd H a o b=H b:=by unfold upd;rw[if_neg h]
def bT{H:Hp}{a b:Addr}{o:HO}(h:H a=some o)(h':H b=none):a≠b:=by
 intro e;subst e;rw[h]at h';cases h'
def NoD(h:Heap)(a:Addr):Prop:=∀o,h.get? a=some o->o.dict=none
theorem NoD.push(h:Heap){o:Obj}(hl:o.isFreed=false:=by rfl)(hd:o.dict=none:=by rfl):NoD (h.push o) h.objs.size:=λ u e=>by rw[zAR _ hl]at e;cases e;exact hd
def NoD.keep{h h':Heap}{a:Addr}{o:Obj}(n:NoD h a)(e:h.get? a=some o)(e':h'.get? a=some o):NoD h' a:=λ u q=>by rw[e']at q;cases q;exact n o e
section
variable(P:zAP)(w:World)
def cZ(H:Hp)(h:Heap)(a:Addr):HO->Prop
 | .lst xs=>xs.length<=zAY/\∃(its:List Value) (n:Nat),Vals xs its/\h.get? a=some {cls:=.type "list",data:=.seq its.toArray n}
 | .tup xs=>(xs.length<=zAY/\NoD h a)/\∃its:List Value,Vals xs its/\IsTup h a its.toArray
 | .dK kvs=>kvs.length<=zAY/\(a==zGM)=false/\∃vs,KV kvs vs/\h.DictOf (xM P w) a vs
 | .dT kvs=>kvs.length<=zAY/\(a==zGM)=false/\∃xs:List (List Key×Addr×Value),
   zEo (λ(p:List Key×V) (q:List Key×Addr×Value)=>p.1=q.1/\H q.2.1=some (.tup (p.1.map kV))/\RelV p.2 q.2.2) kvs xs/\
   ∃o es ep,h.get? a=some o/\o.ExactDict/\o.data= .dict es ep/\es.toList=xs.map (entryOfKey (tupleKind (xM P w)))/\(xs.map (·.1)).Nodup
 | .set S n=>h.SetOf (zDA P w) a S n
 | .ins C dx fs=>H dx=some (.own a)/\fs.length<=1000/\dx≠a/\h.get? a=some (zBo C dx)/\
   ∃mA,h.Ns1 dx mA/\(∀f,aCn (fs.lookup f) (mA f))/\zHY mA (fs.map (·.1))
 | .own _=>∃o,h.get? a=some o
 | .xd fs=>∃mA,h.Ns1 a mA/\∀f,aCn (fs.lookup f) (mA f)
 | .rng lo hi=>∃t u v,h.get? a=some {cls:=.type "range",data:=.fields #[.int lo t,.int hi u,.int 1 v]}
 | .frz o u=>h.get? a=some o/\cZ H h a u
 | .tbl ps=>h.get? a=some {cls:=.none,data:=.fields ps}
 | .met f x=>h.get? a=some (zEN (.ref f) (.ref x))
 | .ext φ=>φ h/\(∃o,h.get? a=some o)/\∀h1 h2:Heap,φ h1->(∀o,h1.get? a=some o->h2.get? a=some o)->φ h2
def HOk(H:Hp)(h:Heap):Prop:=∀a o,H a=some o->cZ P w H h a o
end
section
variable{P:zAP}{w:World}{H H':Hp}{h h':Heap}{a:Addr}{o:HO}
theorem cZ.lt(x:cZ P w H h a o):a<h.objs.size:=by
 cases o with
 |lst xs=>obtain⟨_,_,_,_,e⟩:=x;exact zAM e
 |tup xs=>obtain⟨_,_,_,p⟩:=x;exact p.lt
 |dK kvs=>obtain⟨_,_,_,_,o,_,_,e,_⟩:=x;exact zAM e
 |dT kvs=>obtain⟨_,_,_,_,o,_,_,e,_⟩:=x;exact zAM e
 |set S n=>obtain⟨o,_,_,_,e,_⟩:=x;exact zAM e
 |ins C dx fs=>obtain⟨_,_,_,e,_⟩:=x;exact zAM e
 |own y=>obtain⟨_,e⟩:=x;exact zAM e
 |xd fs=>obtain⟨_,⟨_,_,_,e,_⟩,_⟩:=x;exact zAM e
 |rng lo hi=>obtain⟨_,_,_,e⟩:=x;exact zAM e
 |frz ob u=>obtain⟨e,_⟩:=x;exact zAM e
 |tbl ps=>exact zAM (show h.get? a=some _ from x)
 |met f y=>exact zAM (show h.get? a=some _ from x)
 |ext φ=>obtain⟨_,⟨_,e⟩,_⟩:=x;exact zAM e
theorem Paired.mapP:∀{l₁:List α} {l₂:List β},zEo F l₁ l₂->(∀a b,F a b->G a b)->zEo G l₁ l₂
 |_,_,.nil,_=>.nil
 |_,_,.cons r t,f=>.cons (f _ _ r) (Paired.mapP t f)
def cZ.stay(x:cZ P w H h a o)(k:∀b u,(b=a\/H b=some (.own a))->h.get? b=some u->h'.get? b=some u)
  (ho:∀b,H b=some (.own a)->H' b=some (.own a))(ht:∀b xs,H b=some (.tup xs)->H' b=some (.tup xs)):cZ P w H' h' a o:=by
 induction o with
 |lst xs=>obtain⟨z,its,n,r,e⟩:=x;exact⟨z,its,n,r,k _ _ (.inl rfl) e⟩
 |tup xs=>obtain⟨z,its,r,ob,e,c⟩:=x;exact⟨⟨z.1,z.2.keep e (k _ _ (.inl rfl) e)⟩,its,r,ob,k _ _ (.inl rfl) e,c⟩
 |dK kvs=>obtain⟨z,y,vs,r,ob,es,ep,e,c⟩:=x;exact⟨z,y,vs,r,ob,es,ep,k _ _ (.inl rfl) e,c⟩
 |dT kvs=>
  obtain⟨z,y,xs,r,ob,es,ep,e,c⟩:=x;exact⟨z,y,xs,Paired.mapP r λ p q z=>⟨z.1,ht _ _ z.2.1,z.2.2⟩,ob,es,ep,k _ _ (.inl rfl) e,c⟩
 |set S n=>obtain⟨ob,es,ep,t,e,c⟩:=x;exact⟨ob,es,ep,t,k _ _ (.inl rfl) e,c⟩
 |ins C dx fs=>
  obtain⟨d,z,ne,e,mA,⟨od,es,ep,e2,c⟩,r⟩:=x;exact⟨ho _ d,z,ne,k _ _ (.inl rfl) e,mA,⟨od,es,ep,k _ _ (.inr d) e2,c⟩,r⟩
 |own y=>obtain⟨ob,e⟩:=x;exact⟨ob,k _ _ (.inl rfl) e⟩
 |xd fs=>obtain⟨mA,⟨od,es,ep,e,c⟩,r⟩:=x;exact⟨mA,⟨od,es,ep,k _ _ (.inl rfl) e,c⟩,r⟩
 |rng lo hi=>obtain⟨t,u,v,e⟩:=x;exact⟨t,u,v,k _ _ (.inl rfl) e⟩
 |frz ob u ih=>obtain⟨e,q⟩:=x;exact⟨k _ _ (.inl rfl) e,ih q⟩
 |tbl ps=>
  have e:h.get? a=some {cls:=.none,data:=.fields ps}:=x;show h'.get? a=some {cls:=.none,data:=.fields ps};exact k a _ (.inl rfl) e
 |met f y=>
  have e:h.get? a=some (zEN (.ref f) (.ref y)):=x;show h'.get? a=some (zEN (.ref f) (.ref y));exact k a _ (.inl rfl) e
 |ext φ=>obtain⟨p,⟨o,e⟩,st⟩:=x;exact⟨st _ _ p λ o q=>k _ _ (.inl rfl) q,⟨o,k _ _ (.inl rfl) e⟩,st⟩
theorem HOk.lt(x:HOk P w H h)(e:H a=some o):a<h.objs.size:=(x a o e).lt
def HOk.fresh(x:HOk P w H h)(e:h.objs.size<=a):H a=none:=by
 cases q:H a with
 |none=>rfl
 |some u=>exact absurd (zAO (x.lt q) e) (zBV _)
def HOk.kept(x:HOk P w H h)(k:∀b u,h.get? b=some u->h'.get? b=some u):HOk P w H h':=λ a o e=>
 (x a o e).stay (λ b u _ q=>k b u q) (λ _ q=>q) λ _ _ q=>q
def HOk.laid(x:HOk P w H h)(k:∀b u,h.get? b=some u->h'.get? b=some u)(hp:h.objs.size<=a)(new:cZ P w (upd H a o) h' a o):HOk P w (upd H a o) h':=λ b u e=>by
 have hn:=x.fresh hp;by_cases hb:b=a
 .subst hb;rw[bA]at e;cases e;exact new
 .rw[aX hb]at e
  exact(x b u e).stay (λ c v _ q=>k c v q) (λ c q=>by rw[aX (bT q hn)];exact q) λ c xs q=>by rw[aX (bT q hn)];exact q
end
def Rd(H:Hp)(a:Addr)(u:HO):Prop:=H a=some u\/∃o,H a=some (.frz o u)
def Rd.ok(r:Rd H a u)(x:HOk P w H h):cZ P w H h a u:=by
 rcases r with r|⟨o,r⟩
 .exact x a u r
 .obtain⟨_,q⟩:=x a _ r
  exact q
def Mut:Option HO->Prop
 |some (.lst _)=>True
 |some (.dK _)=>True
 |some (.dT _)=>True
 |some (.set _ _)=>True
 |some (.ins _ _ _)=>True
 |some (.ext _)=>True
 |_=>False
section
variable{P:zAP}{w:World}{H:Hp}{h h':Heap}{x e:Addr}{o':HO}
def HOk.write(ok:HOk P w H h)(mu:Mut (H x))(he:e=x\/H e=some (.own x))(k:∀b u,b≠e->h.get? b=some u->h'.get? b=some u)(heo:∃u,h'.get? e=some u)
  (new:cZ P w (upd H x o') h' x o'):HOk P w (upd H x o') h':=λ b u q=>by
 have nown:∀c y,H c=some (.own y)->c≠x:=λ c y r z=>by subst z;rw[r]at mu;exact mu
 have ntup:∀c xs,H c=some (.tup xs)->c≠x:=λ c xs r z=>by subst z;rw[r]at mu;exact mu
 by_cases hb:b=x
 .subst hb;rw[bA]at q;cases q;exact new
 .rw[aX hb]at q
  by_cases hbe:b=e
  .have q':H b=some (.own x):=by
    rcases he with z|z
    .exact absurd (hbe.trans z) hb
    .rw[hbe];exact z
   rw[q]at q';cases q';obtain⟨v,hv⟩:=heo;exact⟨v,by rw[hbe];exact hv⟩
  .refine(ok b u q).stay (λ c v hc r=>k c v ?_ r) (λ c r=>by rw[aX (nown c b r)];exact r) λ c xs r=>by rw[aX (ntup c xs r)];exact r
   rcases hc with rfl|hc
   .exact hbe
   .rintro rfl
    rcases he with z|z
    .exact nown c b hc z
    .rw[hc]at z;cases z;exact hb rfl
end
structure Un(fs ex:List Addr)(H H':Hp)(h h':Heap):Prop where
 keep:∀b o,h.get? b=some o->H b=none->b∉fs->b∉ex->h'.get? b=some o
 slot:∀b o,h.get? b=some o->H b=none->b∈fs->b∉ex->∃sl,h'.get? b=some {o with slots:=sl}
 free:∀b o,h.get? b=some o->H b=none->b∉ex->H' b=none
 there:∀b o,h.get? b=some o->b∉ex->∃o',h'.get? b=some o'
 tups:∀b xs,H b=some (.tup xs)->H' b=some (.tup xs)
 frzs:∀b o u,H b=some (.frz o u)->H' b=some (.frz o u)
 tbls:∀b ps,H b=some (.tbl ps)->∃more,H' b=some (.tbl (ps++more))
section
variable{fs fs' ex ex':List Addr}{H H1:Hp}{h h1 h':Heap}{a x e:Addr}{o:HO}
def Un.any(u:Un fs ex H H1 h h1)(q:h.get? b=some ob)(n:H b=none)(hx:b∉ex):∃sl,h1.get? b=some {ob with slots:=sl}:=by
 by_cases hb:b∈fs
 .exact u.slot b ob q n hb hx
 .exact⟨ob.slots,u.keep b ob q n hb hx⟩
def Un.kept(k:∀b u,h.get? b=some u->h'.get? b=some u):Un fs ex H H h h':=
 ⟨λ b ob q _ _ _=>k b ob q,λ b ob q _ _ _=>⟨ob.slots,k b ob q⟩,λ _ _ _ n _=>n,λ b ob q _=>⟨ob,k b ob q⟩,λ _ _ q=>q,λ _ _ _ q=>q,λ _ ps q=>⟨#[],by rw[q];simp⟩⟩
def Un.refl:Un fs ex H H h h:=Un.kept λ _ _ q=>q
def Un.laid(k:∀b u,h.get? b=some u->h'.get? b=some u)(hp:h.objs.size<=a)(hn:H a=none):Un fs ex H (upd H a o) h h' where
 keep:=λ b u q _ _ _=>k b u q
 slot:=λ b u q _ _ _=>⟨u.slots,k b u q⟩
 free:=λ b u q n _=>by rw[aX (zA1 (zAO (zAM q) hp))];exact n
 there:=λ b u q _=>⟨u,k b u q⟩
 tups:=λ b xs q=>by rw[aX (bT q hn)];exact q
 frzs:=λ b u xs q=>by rw[aX (bT q hn)];exact q
 tbls:=λ b ps q=>⟨#[],by rw[aX (bT q hn),q];simp⟩
def Un.write(mu:Mut (H x))(he:e=x\/H e=some (.own x))(k:∀b u,b≠e->h.get? b=some u->h'.get? b=some u)(heo:∃u,h'.get? e=some u):Un fs ex H (upd H x o) h h':=by
 have hx:∀b,H b=none->b≠x:=λ b n z=>by subst z;rw[n]at mu;exact mu
 have hb:∀b,H b=none->b≠e:=λ b n z=>by
  subst z;rcases he with r|r
  .exact hx b n r
  .rw[n]at r;cases r
 have hm:∀b u,H b=some u->¬Mut (some u)->b≠x:=λ b u q nm z=>by subst z;rw[q]at mu;exact nm mu
 refine⟨λ b u q n _ _=>k b u (hb b n) q,λ b u q n _ _=>⟨u.slots,k b u (hb b n) q⟩,λ b u q n _=>by rw[aX (hx b n)];exact n,λ b u q _=>?_,
  λ b xs q=>by rw[aX (hm b _ q λ z=>z)];exact q,λ b u xs q=>by rw[aX (hm b _ q λ z=>z)];exact q,λ b ps q=>⟨#[],by rw[aX (hm b _ q λ z=>z),q];simp⟩⟩
 by_cases hbe:b=e
 .subst hbe;exact heo
 .exact⟨u,k b u hbe q⟩
def Un.mono(u:Un fs ex H H1 h h1)(hs:∀b∈fs,b∈fs')(hx:∀b∈ex,b∈ex'):Un fs' ex' H H1 h h1:=
 ⟨λ b ob q n hb he=>u.keep b ob q n (λ z=>hb (hs b z)) λ z=>he (hx b z),λ _ _ q n _ he=>u.any q n λ z=>he (hx _ z),λ b ob q n he=>u.free b ob q n λ z=>he (hx b z),λ b ob q he=>u.there b ob q λ z=>he (hx b z),u.tups,u.frzs,u.tbls⟩
end
def trk(h:Heap)(H:Hp):List Addr:=(zAU h.objs.size).filter λ a=>(H a).isSome
def aE8(h:Heap)(H:Hp):Heap:=zB6 h (trk h H)
def aC6(h:Heap)(H:Hp):(aE8 h H).objs.size=h.objs.size:=zDk _ _
def aE7(e:h.get? b=some o)(n:H b=none):(aE8 h H).get? b=some o:=
 zBs _ e λ hm=>by
  have q:(H b).isSome=true:=(zA5.mp hm).2;rw[n]at q;simp at q
def aFs(e:(aE8 h H).get? b=some o):h.get? b=some o/\H b=none:=by
 have e':h.get? b=some o:=zDN (trk h H) e;refine⟨e',?_⟩;cases q:H b with
 |none=>rfl
 |some x=>
  have hm:b∈trk h H:=zA5.mpr ⟨zAi.mpr (zAM e'),by simp[q]⟩;have z:(aE8 h H).get? b=none:=zDj (trk h H) hm;rw[z]at e;cases e
def aGd(g h:Heap)(L:Addr):gV:=(zAU h.objs.size).filterMap λ a=>if a=L\/(g.get? a).isSome=true then none else(h.get? a).map λ o=>(a,o)
def rest(g h:Heap)(L d:Addr):gV:=(aGd g h L).filter λ p=>decide (p.1≠d)
structure Mod(K:zAA)(mg:Str->Option Value)(base:Heap):Prop where
 kin:K.In base
 glob:base.Ns zAV mg
 blt:∃mb,base.Ns zHi mb/\∀x:Str,x≠"__name__"->mb x=zAr x
 nolimit:base.NoLimit
structure Cx where
 prog:zAP
 w:World
 K:zAA
 mg:Str->Option Value
 base:Heap
 A:zAZ
 N:List Str
 z5:zAB
 zI:Hp
 env:Env
 outer:List Env
 stack:List Env
 ex:List Addr
 fn:Str->Bool
 calm:Bool
 pn:gV
 xe:Value->zAB->Prop
 ta:gV:=[]
 tq:Str:=""
def frs(l:List Env):List Addr:=l.filterMap (·.frame)
abbrev Cx.fs(X:Cx):List Addr:=frs X.outer
def Vis(sc:Scope)(x:Str):Prop:=sc.names.lookup x=some .local\/sc.names.lookup x=some .cell\/sc.names.lookup x=some .free
def Loc(sc:Scope)(x:Str):Prop:=sc.names.lookup x=some .local\/sc.names.lookup x=some .cell
def Look(env:Env)(h:Heap)(m:Str->Option Value)(x:Str)(u:Value):Prop:=
 (env.kindOf x=some .local/\m x=some u)\/((env.kindOf x=some .cell\/env.kindOf x=some .free)/\∃c,env.cells.lookup x=some c/\h.IsCell c (some u))
structure Cx.Ok(X:Cx):Prop where
 mod:Mod X.K X.mg X.base
 kind:X.env.scope.kind= .function
 glob:X.env.globals=zAV
 blt:X.env.builtins=zHi
 above:X.z5.heap.objs.size<=X.env.locals
 inj:∀x y c,X.env.cells.lookup x=some c->X.env.cells.lookup y=some c->x=y
 has:∀x,(X.env.kindOf x=some .cell\/X.env.kindOf x=some .free)->∃c,X.env.cells.lookup x=some c
 cab:∀x c,X.fn x=true->X.env.cells.lookup x=some c->X.z5.heap.objs.size<=c
 hd:X.calm=true->X.A.handled=none
 frames:X.A.frames=some X.stack
 stk:X.stack=X.outer\/(X.stack=X.env::X.outer/\X.env.frame=some X.env.locals)
 exf:∀b∈X.ex,b≠X.env.locals/\∀x c,X.env.cells.lookup x=some c->c≠b
 bs:∀b o,X.base.get? b=some o->X.z5.heap.get? b=some o/\X.zI b=none
 bsz:X.base.objs.size<=X.z5.heap.objs.size
 noex:∀b o,X.base.get? b=some o->b∉X.ex
 exfs:∀b∈X.ex,b∉X.fs
 funs:X.z5.heap.FunFrames X.base X.outer
 frf:∀b∈X.fs,X.zI b=none
def aHK(q:Str)(oc:Obj):Prop:=∃vs t,oc.data= .fields vs/\vs[1]? =some (.str q t)
def TabOk(q:Str)(H:Hp)(ps:Array Value):Prop:=TriplesOk ps.toList/\∀pos cv,zEr pos ps.toList=some cv->∃c' oc,cv= .ref c'/\H c'=some (.frz oc (.own c'))/\aHK q oc
def TabOk.mono(t:TabOk q H ps)(f:∀b o u,H b=some (.frz o u)->H' b=some (.frz o u)):TabOk q H' ps:=⟨t.1,λ pos cv hc=>let⟨c',oc,z,a,b⟩:=t.2 pos cv hc;⟨c',oc,z,f _ _ _ a,b⟩⟩
structure Inv(X:Cx)(hV:gV)(Z:List (Option V))(H:Hp)(s:zAB):Prop where
 ok:X.Ok
 os:s.os=X.z5.os
 bare:zEK s.gens
 base:Un X.fs X.ex X.zI H X.z5.heap s.heap
 loc:∃m,s.heap.Ns X.env.locals m/\∀(i:Nat) (x:Str) (v:V),X.N[i]? =some x->Z[i]? =some (some v)->Vis X.env.scope x->∃u,RelV v u/\Look X.env s.heap m x u
 cell:∀x c,X.env.cells.lookup x=some c->∃v,s.heap.IsCell c v
 free:H X.env.locals=none
 freeC:∀x c,X.env.cells.lookup x=some c->H c=none
 pin:∀p∈X.pn++hV,s.heap.get? p.1=some p.2/\H p.1=none/\p.1≠X.env.locals/\p.1∉X.fs/\∀v,p.2.data≠.cell v
 hok:HOk X.prog X.w H s.heap
 len:Z.length=X.N.length
 tab:∀p∈X.ta,H p.1=none/\p.1≠X.env.locals/\p.1∉X.fs/\(∀q∈X.pn++hV,q.1≠p.1)/\∃ps,s.heap.get? p.1=some {cls:=.none,data:=.fields ps}/\TabOk X.tq H ps
section
variable{X:Cx}{hV:gV}{Z:List (Option V)}{H H':Hp}{s:zAB}{h':Heap}
def Cx.Ok.nofr(ok:X.Ok)(e:X.base.get? b=some o):b∉X.fs:=λ hb=>by
 have:=(ok.funs.mem hb).1
 rw[e]at this;cases this
theorem Inv.bs(I:Inv X hV Z H s):∀b o,X.base.get? b=some o->s.heap.get? b=some o/\H b=none:=λ b o e=>
 ⟨I.base.keep b o (I.ok.bs b o e).1 (I.ok.bs b o e).2 (I.ok.nofr e) (I.ok.noex b o e),I.base.free b o (I.ok.bs b o e).1 (I.ok.bs b o e).2 (I.ok.noex b o e)⟩
def Inv.bk(I:Inv X hV Z H s):∀b o,X.base.get? b=some o->s.heap.get? b=some o:=λ b o e=>(I.bs b o e).1
theorem Inv.mod(I:Inv X hV Z H s):Mod X.K X.mg X.base:=I.ok.mod
def Inv.kIn(I:Inv X hV Z H s):X.K.In s.heap:=I.ok.mod.kin.keeps I.bk
def Inv.fr(I:Inv X hV Z H s):∃m,Fr X.base X.env.locals s.heap m:=
 let⟨m,hn,_⟩:=I.loc
 ⟨m,hn,I.bk,zAd I.ok.bsz I.ok.above⟩
theorem Inv.lt(I:Inv X hV Z H s):X.env.locals<s.heap.objs.size:=let⟨_,hn,_⟩:=I.loc;hn.lt
def Inv.sz(I:Inv X hV Z H s):X.z5.heap.objs.size<=s.heap.objs.size:=zAd I.ok.above (zB7 I.lt)
def Inv.nofs(I:Inv X hV Z H s)(h:s.heap.objs.size<=a):a∉X.fs:=λ hb=>by
 obtain⟨_,o,ho,_⟩:=I.ok.funs.mem hb;exact absurd (zAO (zAM ho) (zAd I.sz h)) (zBV _)
def Inv.cne(I:Inv X hV Z H s):∀x c,X.env.cells.lookup x=some c->c≠X.env.locals:=λ x c e z=>by
 obtain⟨v,o,ho,hd⟩:=I.cell x c e;obtain⟨m,⟨o',es,ep,ho',hd',_⟩,_⟩:=I.loc;rw[z,ho']at ho;cases ho;rw[hd']at hd;cases hd
theorem Inv.funs(I:Inv X hV Z H s):s.heap.FunFrames X.base X.outer:=by
 have all:∀(l:List Env),(∀b∈frs l,b∈X.fs)->X.z5.heap.FunFrames X.base l->s.heap.FunFrames X.base l:=by
  intro l;induction l with
  |nil=>intro _ _;trivial
  |cons env r ih=>
   intro hs hl;obtain⟨hk,⟨L,o,hf,hn,ho,hd⟩,hr⟩:=hl;have hL:L∈X.fs:=hs L (by unfold frs;rw[zBJ,hf];exact zAI);obtain⟨sl,e⟩:=I.base.slot L o ho (I.ok.frf L hL) hL λ z=>I.ok.exfs L z hL
   exact⟨hk,⟨L,_,hf,hn,e,hd⟩,ih (λ b hb=>hs b (by unfold frs;rw[zBJ,hf];exact zAK _ hb)) hr⟩
 exact all X.outer (λ _ hb=>hb) I.ok.funs
theorem Inv.stack(I:Inv X hV Z H s):s.heap.FunFrames X.base X.stack:=by
 rcases I.ok.stk with e|⟨e,hf⟩
 .rw[e];exact I.funs
 .rw[e]
  obtain⟨m,hn,_⟩:=I.loc;refine .cons (by rw[I.ok.kind];decide) hf hn ?_ I.funs;exact Heap.get?_none_of_le (zAd I.ok.bsz I.ok.above)
def Inv.stkSub(I:Inv X hV Z H s):∀b∈frs X.stack,b∈X.env.locals::X.fs:=λ b hb=>by
 rcases I.ok.stk with e|⟨e,hf⟩
 .rw[e]at hb;exact zAK _ hb
 .rw[e]at hb
  unfold frs at hb;rw[zBJ,hf]at hb;exact hb
def Inv.stkFree(I:Inv X hV Z H s):∀b∈frs X.stack,H b=none:=λ b hb=>by
 rcases zAX.mp (I.stkSub b hb)with e|hb
 .rw[e];exact I.free
 .obtain⟨_,o,ho,_⟩:=I.ok.funs.mem hb
  exact I.base.free b o ho (I.ok.frf b hb) λ z=>I.ok.exfs b z hb
def Inv.step{g':Array zDD}{t':Nat}{d':Drawn}{ch:List Addr}(I:Inv X hV Z H s)
  (hch:∀b∈ch,(b∈X.ex\/X.z5.heap.objs.size<=b)/\b≠X.env.locals/\(∀x c,X.env.cells.lookup x=some c->c≠b)/\∀p∈X.ta++(X.pn++hV),p.1≠b)
  (keep:∀b o,b≠X.env.locals->b∉X.fs->b∉ch->s.heap.get? b=some o->H b=none->h'.get? b=some o)
  (slot:∀b o,b≠X.env.locals->b∈X.fs->b∉ch->s.heap.get? b=some o->H b=none->∃sl,h'.get? b=some {o with slots:=sl})(free:∀b o,b∉ch->s.heap.get? b=some o->H b=none->H' b=none)
  (there:∀b o,b∉ch->s.heap.get? b=some o->∃o',h'.get? b=some o')
  (tups:∀b xs,H b=some (.tup xs)->H' b=some (.tup xs))(frzs:∀b o u,H b=some (.frz o u)->H' b=some (.frz o u))(tbls:∀b ps,H b=some (.tbl ps)->∃more,H' b=some (.tbl (ps++more)))
  (ns:∀m,s.heap.Ns X.env.locals m->h'.Ns X.env.locals m)(hok:HOk X.prog X.w H' h')(hg:zEK g'):
  Inv X hV Z H' {s with heap:=h',gens:=g',drawn:=d',toks:=t'}:=by
 have neL:∀b o,X.z5.heap.get? b=some o->b≠X.env.locals:=λ b o e=>zA1 (zAO (zAM e) I.ok.above)
 have neC:∀b o,X.z5.heap.get? b=some o->b∉X.ex->b∉ch:=λ b o e hx hb=>by
  rcases(hch b hb).1 with z|z
  .exact hx z
  .exact absurd (zAO (zAM e) z) (zBV _)
 have cK:∀x c,X.env.cells.lookup x=some c->∀v,s.heap.IsCell c v->h'.IsCell c v:=λ x c e v ⟨o,ho,hd⟩=>by
  have nch:c∉ch:=λ z=>(hch c z).2.2.1 x c e rfl
  by_cases hc:c∈X.fs
  .obtain⟨sl,q⟩:=slot c o (I.cne x c e) hc nch ho (I.freeC x c e)
   exact⟨_,q,hd⟩
  .exact⟨o,keep c o (I.cne x c e) hc nch ho (I.freeC x c e),hd⟩
 refine⟨I.ok,I.os,hg,⟨λ b o e n hb hx=>?_,λ b o e n hb hx=>?_,λ b o e n hx=>?_,λ b o e hx=>?_,λ b xs e=>tups b xs (I.base.tups b xs e),λ b o xs e=>frzs b o xs (I.base.frzs b o xs e),λ b ps e=>?_⟩,?_,λ x c e=>?_,?_,λ x c e=>?_,λ p hp=>?_,hok,I.len,λ p hp=>?_⟩
 .exact keep b o (neL b o e) hb (neC b o e hx) (I.base.keep b o e n hb hx) (I.base.free b o e n hx)
 .obtain⟨sl,e1⟩:=I.base.slot b o e n hb hx
  obtain⟨sl',e2⟩:=slot b _ (neL b o e) hb (neC b o e hx) e1 (I.base.free b o e n hx);exact⟨sl',e2⟩
 .obtain⟨o',e1⟩:=I.base.there b o e hx
  exact free b o' (neC b o e hx) e1 (I.base.free b o e n hx)
 .obtain⟨o',e1⟩:=I.base.there b o e hx
  exact there b o' (neC b o e hx) e1
 .obtain⟨m1,e1⟩:=I.base.tbls b ps e
  obtain⟨m2,e2⟩:=tbls b _ e1;exact⟨m1++m2,by rw[e2,zGE]⟩
 .obtain⟨m,hn,hl⟩:=I.loc
  refine⟨m,ns m hn,λ i x v e1 e2 e3=>?_⟩;obtain⟨u,r,l⟩:=hl i x v e1 e2 e3;refine⟨u,r,?_⟩;rcases l with l|⟨k,c,e,z⟩
  .exact .inl l
  .exact .inr ⟨k,c,e,cK x c e _ z⟩
 .obtain⟨v,z⟩:=I.cell x c e
  exact⟨v,cK x c e v z⟩
 .obtain⟨m,⟨o,_,_,ho,_⟩,_⟩:=I.loc
  exact free _ o (λ z=>(hch _ z).2.1 rfl) ho I.free
 .obtain⟨v,o,ho,hd⟩:=I.cell x c e
  exact free c o (λ z=>(hch c z).2.2.1 x c e rfl) ho (I.freeC x c e)
 .obtain⟨e,n,ne,nf,d⟩:=I.pin p hp
  have nch:p.1∉ch:=λ z=>(hch p.1 z).2.2.2 p (zAa _ hp) rfl
  exact⟨keep p.1 p.2 ne nf nch e n,free p.1 p.2 nch e n,ne,nf,d⟩
 .obtain⟨n,ne,nf,np,ps,e,t⟩:=I.tab p hp
  have nch:p.1∉ch:=λ z=>(hch p.1 z).2.2.2 p (zAh _ hp) rfl
  exact⟨free p.1 _ nch e n,ne,nf,np,ps,keep p.1 _ ne nf nch e n,t.mono frzs⟩
def Inv.pinL(I:Inv X hV Z H s)(hp:p∈X.ta++(X.pn++hV)):p.1<s.heap.objs.size:=by
 rcases zBI.mp hp with z|z
 .obtain⟨_,_,_,_,_,e,_⟩:=I.tab p z
  exact zAM e
 .exact zAM (I.pin p z).1
def Inv.un{t':Nat}(I:Inv X hV Z H s)(u:Un X.fs [] H H' s.heap h')(hok:HOk X.prog X.w H' h'):Inv X hV Z H' {s with heap:=h',toks:=t'}:=by
 obtain⟨m,⟨o,es,ep,ho,r⟩,_⟩:=id I.loc;obtain⟨sl,hL⟩:=u.any ho I.free (by simp);exact I.step (g':=s.gens) (d':=s.drawn) (ch:=[]) (λ _ z=>nomatch z) (λ b o _ hb _ e n=>u.keep b o e n hb (by simp)) (λ b o _ hb _ e n=>u.slot b o e n hb (by simp)) (λ b o _ e n=>u.free b o e n (by simp)) (λ b o _ e=>u.there b o e (by simp)) u.tups u.frzs u.tbls (λ m' hm=>by
  obtain⟨o',es',ep',ho',r'⟩:=hm;rw[ho]at ho';cases ho';exact⟨_,es',ep',hL,r'⟩) hok I.bare
def Inv.call{g':Array zDD}{t':Nat}{d':Drawn}{ch:List Addr}(I:Inv X hV Z H s)(u:Un (frs X.stack) ch H H' s.heap h')(hok:HOk X.prog X.w H' h')(hg:zEK g')
  (hch:∀b∈ch,(b∈X.ex\/X.z5.heap.objs.size<=b)/\b≠X.env.locals/\(∀x c,X.env.cells.lookup x=some c->c≠b)/\∀p∈X.ta++(X.pn++hV),p.1≠b):
  Inv X hV Z H' {s with heap:=h',gens:=g',drawn:=d',toks:=t'}:=by
 obtain⟨m,⟨o,es,ep,ho,r⟩,_⟩:=id I.loc;obtain⟨sl,hL⟩:=u.any ho I.free λ z=>(hch _ z).2.1 rfl
 exact I.step (ch:=ch) hch (λ b o hL hb hc e n=>u.keep b o e n (λ z=>(zAX.mp (I.stkSub b z)).elim hL hb) hc) (λ b o _ _ hc e n=>u.any e n hc) (λ b o hc e n=>u.free b o e n hc) (λ b o hc e=>u.there b o e hc) u.tups u.frzs u.tbls (λ m' hm=>by
  obtain⟨o',es',ep',ho',r'⟩:=hm;rw[ho]at ho';cases ho';exact⟨_,es',ep',hL,r'⟩) hok hg
def Inv.turned{t':Nat}{it:Addr}(I:Inv X hV Z H s)(k:∀b o,b≠it->s.heap.get? b=some o->h'.get? b=some o)(hn:H it=none)(hL:it≠X.env.locals)
  (h1:it∈X.ex\/X.z5.heap.objs.size<=it)(h2:∀x c,X.env.cells.lookup x=some c->c≠it)(h3:∀p∈X.ta++(X.pn++hV),p.1≠it):Inv X hV Z H {s with heap:=h',toks:=t'}:=by
 have nit:∀b u,H b=some u->b≠it:=λ b u e z=>by rw[z,hn]at e;cases e
 refine I.step (g':=s.gens) (d':=s.drawn) (ch:=[it]) (λ b hb=>?_) (λ b o _ _ hc e _=>k b o (λ z=>hc (by simp[z])) e) (λ b o _ _ hc e _=>⟨o.slots,k b o (λ z=>hc (by simp[z])) e⟩) (λ _ _ _ _ n=>n)
  (λ b o hc e=>⟨o,k b o (λ z=>hc (by simp[z])) e⟩) (λ _ _ e=>e) (λ _ _ _ e=>e) (λ b ps e=>⟨#[],by rw[e];simp⟩) (λ m hm=>?_) (λ b u e=>?_) I.bare
 .have e:b=it:=by simpa using hb
  subst e;exact⟨h1,hL,h2,h3⟩
 .obtain⟨o,es,ep,ho,r⟩:=hm
  exact⟨o,es,ep,k _ o (zDi hL) ho,r⟩
 .refine(I.hok b u e).stay (λ c v hc q=>k c v ?_ q) (λ _ q=>q) λ _ _ q=>q
  rcases hc with z|z
  .rw[z];exact nit b u e
  .exact nit c _ z
def Inv.tok(I:Inv X hV Z H s)(t:Nat):Inv X hV Z H {s with toks:=t}:=I.un (h':=s.heap) (t':=t) Un.refl I.hok
theorem Inv.kept(I:Inv X hV Z H s)(k:∀b u,s.heap.get? b=some u->h'.get? b=some u):Inv X hV Z H {s with heap:=h',toks:=t'}:=I.un (Un.kept k) (I.hok.kept k)
theorem Inv.laid(I:Inv X hV Z H s)(k:∀b u,s.heap.get? b=some u->h'.get? b=some u)(hp:s.heap.objs.size<=a)(new:cZ X.prog X.w (upd H a o) h' a o):
  Inv X hV Z (upd H a o) {s with heap:=h',toks:=t'}:=I.un (Un.laid k hp (I.hok.fresh hp)) (I.hok.laid k hp new)
theorem Inv.write(I:Inv X hV Z H s)(mu:Mut (H x))(he:e=x\/H e=some (.own x))(k:∀b u,b≠e->s.heap.get? b=some u->h'.get? b=some u)(heo:∃u,h'.get? e=some u)
  (new:cZ X.prog X.w (upd H x o) h' x o):Inv X hV Z (upd H x o) {s with heap:=h',toks:=t'}:=I.un (Un.write mu he k heo) (I.hok.write mu he k heo new)
def Inv.weak(I:Inv X hV Z H s)(hl:Z'.length=Z.length)(w:∀(i:Nat) v,Z'[i]? =some (some v)->Z[i]? =some (some v)):Inv X hV Z' H s:=
 ⟨I.ok,I.os,I.bare,I.base,let⟨m,hn,hl'⟩:=I.loc;⟨m,hn,λ i x v e1 e2 e3=>hl' i x v e1 (w i v e2) e3⟩,I.cell,I.free,I.freeC,I.pin,I.hok,hl.trans I.len,I.tab⟩
def Inv.pins_of(I:Inv X hV Z H s)(h:∀p∈pins',s.heap.get? p.1=some p.2/\H p.1=none/\p.1≠X.env.locals/\p.1∉X.fs/\∀v,p.2.data≠.cell v)(h2:∀q∈pins',∀p∈X.ta,q.1≠p.1):Inv X pins' Z H s:=
 ⟨I.ok,I.os,I.bare,I.base,I.loc,I.cell,I.free,I.freeC,λ p hp=>(zBI.mp hp).elim (λ z=>I.pin p (zAh _ z)) (h p),I.hok,I.len,λ p hp=>let⟨a,b,c,d,e⟩:=I.tab p hp;⟨a,b,c,λ q hq=>(zBI.mp hq).elim (λ z=>d q (zAh _ z)) (λ z=>h2 q z p hp),e⟩⟩
def tH{N:List Str}(hN:N.Nodup){i j:Nat}{x:Str}(a:N[i]? =some x)(b:N[j]? =some x):i=j:=by
 obtain⟨h1,e1⟩:=zAG.mp a;obtain⟨h2,e2⟩:=zAG.mp b;exact(List.getElem_inj hN).mp (e1.trans e2.symm)
def ut{M:Model}{A:zAZ}{E:Value->zAB->Prop}{i:Nat}{x:Str}{v:V}{u:Value}{Q:Unit->zAB->Prop}(I:Inv X hV Z H s)(hN:X.N.Nodup)(hi:X.N[i]? =some x)(hx:Loc X.env.scope x)(r:RelV v u)
  (h:∀s',Inv X hV (Z.set i (some v)) H s'->(∃a,zDo a s.heap s'.heap/\(a=X.env.locals\/X.env.cells.lookup x=some a))->Q () s')(hf:X.fn x=true\/X.env.scope.names.lookup x=some .local:=by first|exact .inl rfl|exact .inr rfl|assumption):wpAny M A (storeName X.env x u) Q E s:=by
 obtain⟨m,hn,hl⟩:=id I.loc;have dP:(X.env.scope.kind== .class||(X.env.scope.kind== .module&&X.env.locals !=X.env.globals))=false:=by rw[I.ok.kind];rfl
 have hiZ:i<Z.length:=by rw[I.len];exact(zAG.mp hi).1
 have cne:=I.cne;have aE:∀{a:Addr} {h':Heap},(∃o,s.heap.get? a=some o/\H a=none)->zDo a s.heap h'->HOk X.prog X.w H h':=λ{a h'} ha hs b ob e=>by
  obtain⟨_,_,hfree⟩:=ha;refine(I.hok b ob e).stay (λ c w' hc q=>(hs.2 c ?_).trans q) (λ _ q=>q) λ _ _ q=>q
  rintro rfl;rcases hc with rfl|hc
  .rw[hfree]at e;cases e
  .rw[hfree]at hc;cases hc
 rcases hx with hk|hk
 .refine wpAny_storeName_local hk hn (λ h' hn' hs=>?_) dP
  obtain⟨oL,_,_,hoL,_⟩:=id hn;refine h _ ⟨I.ok,I.os,I.bare,⟨λ b o e n hb hx=>?_,λ b o e n hb hx=>?_,I.base.free,λ b o e hx=>?_,I.base.tups,I.base.frzs,I.base.tbls⟩,⟨_,hn',λ j y v' e1 e2 e3=>?_⟩,λ y c e=>?_,I.free,I.freeC,λ p hp=>?_,aE ⟨oL,hoL,I.free⟩ hs,by simpa using I.len,λ p hp=>?_⟩ ⟨_,hs,.inl rfl⟩
  .exact(hs.2 b (zA1 (zAO (zAM e) I.ok.above))).trans (I.base.keep b o e n hb hx)
  .obtain⟨sl,e1⟩:=I.base.slot b o e n hb hx
   exact⟨sl,(hs.2 b (zA1 (zAO (zAM e) I.ok.above))).trans e1⟩
  .obtain⟨o',e1⟩:=I.base.there b o e hx
   exact⟨o',(hs.2 b (zA1 (zAO (zAM e) I.ok.above))).trans e1⟩
  .by_cases hj:j=i
   .subst hj
    rw[hi]at e1;cases e1;rw[zBQ hiZ]at e2;cases e2;exact⟨u,r,.inl ⟨hk,by simp⟩⟩
   .rw[zAy (zDi hj)]at e2
    obtain⟨u',r',q⟩:=hl j y v' e1 e2 e3;refine⟨u',r',?_⟩;rcases q with ⟨k,e⟩|⟨k,c,e,z⟩
    .refine .inl ⟨k,?_⟩
     have:y≠x:=λ e=>hj (tH hN e1 (e▸hi))
     simp[this,e]
    .exact .inr ⟨k,c,e,z.sameBut hs (cne y c e)⟩
  .obtain⟨w',z⟩:=I.cell y c e
   exact⟨w',z.sameBut hs (cne y c e)⟩
  .obtain⟨e,n,ne,nf,d⟩:=I.pin p hp
   exact⟨(hs.2 p.1 ne).trans e,n,ne,nf,d⟩
  .obtain⟨n,ne,nf,np,ps,e,t⟩:=I.tab p hp
   exact⟨n,ne,nf,np,ps,(hs.2 p.1 ne).trans e,t⟩
 .have hfn:X.fn x=true:=by
   rcases hf with z|z
   .exact z
   .rw[z]at hk;cases hk
  obtain⟨c,hc⟩:=I.ok.has x (.inl hk);obtain⟨w',z⟩:=I.cell x c hc;refine wpAny_storeName_cell I.ok.kind hk hc z (λ h' hc' hs=>?_);obtain⟨oc,hoc,hocd⟩:=id z;refine h {s with heap:=h'} ⟨I.ok,I.os,I.bare,⟨λ b o e n hb hx=>?_,λ b o e n hb hx=>?_,I.base.free,λ b o e hx=>?_,I.base.tups,I.base.frzs,I.base.tbls⟩,⟨m,hn.sameBut hs (zDi (cne x c hc)),λ j y v' e1 e2 e3=>?_⟩,λ y c' e=>?_,I.free,I.freeC,λ p hp=>?_,aE ⟨oc,hoc,I.freeC x c hc⟩ hs,by simpa using I.len,λ p hp=>?_⟩ ⟨c,hs,.inr hc⟩
  .exact(hs.2 b (zA1 (zAO (zAM e) (I.ok.cab x c hfn hc)))).trans (I.base.keep b o e n hb hx)
  .obtain⟨sl,e1⟩:=I.base.slot b o e n hb hx
   exact⟨sl,(hs.2 b (zA1 (zAO (zAM e) (I.ok.cab x c hfn hc)))).trans e1⟩
  .obtain⟨o',e1⟩:=I.base.there b o e hx
   exact⟨o',(hs.2 b (zA1 (zAO (zAM e) (I.ok.cab x c hfn hc)))).trans e1⟩
  .by_cases hj:j=i
   .subst hj
    rw[hi]at e1;cases e1;rw[zBQ hiZ]at e2;cases e2;exact⟨u,r,.inr ⟨.inl hk,c,hc,hc'⟩⟩
   .rw[zAy (zDi hj)]at e2
    obtain⟨u',r',q⟩:=hl j y v' e1 e2 e3;refine⟨u',r',?_⟩;rcases q with q|⟨k,c',e,z'⟩
    .exact .inl q
    .refine .inr ⟨k,c',e,z'.sameBut hs ?_⟩
     rintro rfl;exact hj (tH hN e1 (I.ok.inj _ _ _ e hc▸hi))
  .by_cases hcc:c'=c
   .subst hcc;exact⟨_,hc'⟩
   .obtain⟨w2,z2⟩:=I.cell y c' e
    exact⟨w2,z2.sameBut hs hcc⟩
  .obtain⟨e,n,ne,nf,d⟩:=I.pin p hp
   refine⟨(hs.2 p.1 ?_).trans e,n,ne,nf,d⟩;intro q;rw[q,hoc]at e;have q':oc=p.2:=zA8 e;exact d w' (by rw[<-q'];exact hocd)
  .obtain⟨n,ne,nf,np,ps,e,t⟩:=I.tab p hp
   refine⟨n,ne,nf,np,ps,(hs.2 p.1 ?_).trans e,t⟩;intro q;rw[q,hoc]at e;rw[zA8 e]at hocd;cases hocd
def oH(I:Inv X hV Z H s)(hN:X.N.Nodup)(hi:X.N[i]? =some x)(hx:Loc X.env.scope x)(r:RelV v u)
  (h:∀s',Inv X hV (Z.set i (some v)) H s'->Q () s')(hf:X.fn x=true\/X.env.scope.names.lookup x=some .local:=by first|exact .inl rfl|exact .inr rfl|assumption):wpAny M A (storeName X.env x u) Q E s:=
 ut I hN hi hx r (λ s' I' _=>h s' I') hf
def Inv.call'(I:Inv X hV Z H s)(ho:s'.os=s.os)(u:Un (frs X.stack) ch H H' s.heap s'.heap)(hok:HOk X.prog X.w H' s'.heap)(hg:zEK s'.gens)
  (hch:∀b∈ch,(b∈X.ex\/X.z5.heap.objs.size<=b)/\b≠X.env.locals/\(∀x c,X.env.cells.lookup x=some c->c≠b)/\∀p∈X.ta++(X.pn++hV),p.1≠b):Inv X hV Z H' s':=by
 obtain⟨h',g',d',t',o'⟩:=s';have e:o'=s.os:=ho;subst e;exact I.call (g':=g') (t':=t') (d':=d') u hok hg hch
end
abbrev XK:=Value->Option Addr->Hp->Prop
abbrev St:=List (Option V)
abbrev VK:=V->Hp->Prop
abbrev TE:=St->Hp->VK->Prop
abbrev TT:=St->Hp->(Bool->Hp->Prop)->Prop
abbrev TA:=St->Hp->(List V->Hp->Prop)->Prop
structure Ends where
 nx:St->Hp->Prop
 rt:VK
 bk:St->Hp->Prop:=λ _ _=>False
 ct:St->Hp->Prop:=λ _ _=>False
abbrev TS:=Ends->St->Hp->Prop
def EP(X:Cx)(hV:gV)(Z:St)(Q:VK)(u:Value)(s':zAB):Prop:=∃v H',Inv X hV Z H' s'/\RelV v u/\Q v H'
def TP(X:Cx)(hV:gV)(Z:St)(Q:Bool->Hp->Prop)(b:Bool)(s':zAB):Prop:=∃H',Inv X hV Z H' s'/\Q b H'
def AP(X:Cx)(hV:gV)(Z:St)(Q:List V->Hp->Prop)(us:List Value)(s':zAB):Prop:=∃vs H',Inv X hV Z H' s'/\Vals vs us/\Q vs H'
def SP(X:Cx)(hV:gV)(D:Ends)(f:Flow)(s':zAB):Prop:=
 match f with
 | .next=>∃Z' H',Inv X hV Z' H' s'/\D.nx Z' H'
 | .brk=>∃Z' H',Inv X hV Z' H' s'/\D.bk Z' H'
 | .cont=>∃Z' H',Inv X hV Z' H' s'/\D.ct Z' H'
 | .ret u=>∃v Z' H',Inv X hV Z' H' s'/\RelV v u/\D.rt v H'
def PE(X:Cx)(e:Expr)(t:TE):Prop:=
 ∀(hV:gV) (s:zAB) (Z:St) (H:Hp) (Q:VK),Inv X hV Z H s->t Z H Q->wpAny (model X.prog X.w) X.A (eval e X.env) (EP X hV Z Q) X.xe s
def PT(X:Cx)(e:Expr)(t:TT):Prop:=
 ∀(hV:gV) (s:zAB) (Z:St) (H:Hp) (Q:Bool->Hp->Prop),Inv X hV Z H s->t Z H Q->wpAny (model X.prog X.w) X.A (isTrue e X.env (eval e X.env)) (TP X hV Z Q) X.xe s
def PW(X:Cx)(e:Expr)(t:TT):Prop:=
 ∀(whole:Sem Value) (hV:gV) (s:zAB) (Z:St) (H:Hp) (Q:Bool->Hp->Prop),Inv X hV Z H s->t Z H Q->wpAny (model X.prog X.w) X.A (isTrue e X.env whole) (TP X hV Z Q) X.xe s
def PW.pt(h:PW X e t):PT X e t:=h _
def PA(X:Cx)(es:List Expr)(t:TA):Prop:=
 ∀(pos:Pos) (hV:gV) (s:zAB) (Z:St) (H:Hp) (Q:List V->Hp->Prop),Inv X hV Z H s->t Z H Q->wpAny (model X.prog X.w) X.A (spliced (zCY pos (zAT es X.env))) (AP X hV Z Q) X.xe s
def PS(X:Cx)(st:Stmt)(t:TS):Prop:=
 ∀(hV:gV) (s:zAB) (Z:St) (H:Hp) (D:Ends),Inv X hV Z H s->t D Z H->wpAny (model X.prog X.w) X.A (exec st X.env) (SP X hV D) X.xe s
def PSs(X:Cx)(st:List Stmt)(t:TS):Prop:=
 ∀(hV:gV) (s:zAB) (Z:St) (H:Hp) (D:Ends),Inv X hV Z H s->t D Z H->wpAny (model X.prog X.w) X.A (execs st X.env) (SP X hV D) X.xe s
def thn(h:wpAny M A t Q E s)(hQ:∀a s,Q a s->Q' a s):wpAny M A t Q' E s:=zB4 h hQ λ _ _ x=>x
section
variable{X:Cx}
def bin{a b:Expr}{ta tb:TE}(ha:PE X a ta)(hb:PE X b tb){hV:gV}{s:zAB}{Z:St}{H:Hp}{R:V->V->Hp->Prop}(I:Inv X hV Z H s)(h:ta Z H λ x H1=>tb Z H1 λ y H2=>R x y H2)
  {α:Type}{Q:α->zAB->Prop}{f:Value->Value->Sem α}
  (hf:∀v u s2 x y H2,Inv X hV Z H2 s2->RelV x v->RelV y u->R x y H2->wpAny (model X.prog X.w) X.A (f v u) Q X.xe s2):
  wpAny (model X.prog X.w) X.A (eval a X.env) (λ v zS=>wpAny (model X.prog X.w) X.A (eval b X.env) (λ u zD=>wpAny (model X.prog X.w) X.A (f v u) Q X.xe zD) X.xe zS) X.xe s:=by
 refine thn (ha hV s Z H _ I h) λ v s1 ⟨x,H1,I1,r1,q1⟩=>?_
 refine thn (hb hV s1 Z H1 _ I1 q1) λ u s2 ⟨y,H2,I2,r2,q2⟩=>?_
 exact hf v u s2 x y H2 I2 r1 r2 q2
def mq(i:Nat):TE:=λ Z H Q=>∃v,Z[i]? =some (some v)/\Q v H
def tC(v:V):TE:=λ _ H Q=>Q v H
abbrev _root_.Nd(x:PySem.Str):Prop:=(x==("__debug__":PySem.Str))=false
def gQ(hN:X.N[i]? =some x)(hv:Vis X.env.scope x)(hd:Nd x:=by decide)(hcd:(x==("__classdict__":Str))=false:=by decide):PE X (.Name x pos) (mq i):=by
 intro hV s Z H Q I h;obtain⟨v,e,h⟩:=h;obtain⟨m,hn,hl⟩:=I.loc;obtain⟨u,r,l⟩:=hl i x v hN e hv;have fin:EP X hV Z Q u s:=⟨v,H,I,r,h⟩;rcases l with ⟨hk,hm⟩|⟨hk,c,hc,hcell⟩
 .exact zEW (zE1 I.ok.kind hk hn hm fin) hd
 .rcases hk with hk|hk
  .exact zEW (zEd I.ok.kind hk hc hcell fin) hd
  .exact zEW (zHR I.ok.kind hk hc hcell fin hcd) hd
def aDm{i j pos}:PE X (.Constant (.int i) j pos) (tC (.int i)):=λ _ _ _ H _ I h=>wpAny_Constant_int ⟨.int i,H,I.tok _,⟨_,rfl⟩,h⟩
def aDp{b j pos}:PE X (.Constant (.bool b) j pos) (tC (.bl b)):=λ _ _ _ H _ I h=>Constant_bool ⟨.bl b,H,I,rfl,h⟩
def dO{x j pos}:PE X (.Constant (.str x) j pos) (tC (.str x)):=λ _ _ _ H _ I h=>Calls.Constant_str ⟨.str x,H,I.tok _,⟨_,rfl⟩,h⟩
def Gl(X:Cx)(x:Str):Prop:=X.env.kindOf x=some .globalImplicit
def mD(I:Inv X hV Z H s)(hg:Gl X x)(hm:X.mg x=some u)(h:Q u s)
  (hd:Nd x:=by decide):wpAny (model X.prog X.w) X.A (eval (.Name x pos) X.env) Q E s:=
 zEs I.ok.kind hg (Calls.loadGlobal_global (by rw[I.ok.glob];exact I.mod.glob.keeps I.bk) hm h) hd
def tW(I:Inv X hV Z H s)(hg:Gl X x)(hm:X.mg x=none)(hv:zAr x=some u)(h:Q u s)
  (hn:x≠"__name__":=by decide)(hd:Nd x:=by decide):wpAny (model X.prog X.w) X.A (eval (.Name x pos) X.env) Q E s:=by
 obtain⟨mb,h1,h2⟩:=I.mod.blt;exact zEs I.ok.kind hg (Calls.loadGlobal_builtin (by rw[I.ok.glob];exact I.mod.glob.keeps I.bk) hm (by rw[I.ok.blt];exact h1.keeps I.bk) ((h2 x hn).trans hv) h) hd
def cX(hg:Gl X x)(hm:X.mg x=some u)(r:RelV v u)(hd:Nd x:=by decide):PE X (.Name x pos) (tC v):=
 λ _ _ _ H _ I h=>mD I hg hm ⟨v,H,I,r,h⟩ hd
def aBU(hg:Gl X x)(hm:X.mg x=none)(hv:zAr x=some u)(r:RelV v u)(hn:x≠"__name__":=by decide)(hd:Nd x:=by decide):PE X (.Name x pos) (tC v):=
 λ _ _ _ H _ I h=>tW I hg hm hv ⟨v,H,I,r,h⟩ hn hd
def t2I(ta tb:TE)(k:Int->Int->Hp->Prop):St->Hp->Prop:=λ Z H=>ta Z H λ x H1=>tb Z H1 λ y H2=>∃i j,x= .int i/\y= .int j/\k i j H2
variable{a b:Expr}{ta tb:TE}{pos:Pos}
def PC(X:Cx)(op:CmpOp)(a b:Expr)(t:TE):Prop:=
 ∀(hV:gV) (s:zAB) (Z:St) (H:Hp) (Q:VK),Inv X hV Z H s->t Z H Q->
  wpAny (model X.prog X.w) X.A (eval a X.env) (λ v zS=>wpAny (model X.prog X.w) X.A (eval b X.env) (λ u zD=>wpAny (model X.prog X.w) X.A (zAm op v u) (EP X hV Z Q) X.xe zD) X.xe zS) X.xe s
def aDw(b:Expr)(h:op≠.In)(h2:op≠.NotIn):zBb op b=false:=by
 have e1:(op==CmpOp.In)=false:=by cases op<;>first|rfl|exact absurd rfl h
 have e2:(op==zH7)=false:=by cases op<;>first|rfl|exact absurd rfl h2
 cases b<;>simp[zBb,e1,e2]
def aJM(p:Int->Int->Bool)(ta tb:TE):TE:=λ Z H Q=>t2I ta tb (λ i j H2=>Q (.bl (p i j)) H2) Z H
abbrev aKH:TE->TE->TE:=aJM λ i j=>!decide (i=j)
def aHq{op:CmpOp}{p:Int->Int->Bool}(ha:PE X a ta)(hb:PE X b tb)
  (rule:∀(i j:Int) (t u:Tok) (Q:Value->zAB->Prop) (s:zAB),Q (.bool (p i j)) s->wpAny (model X.prog X.w) X.A (zAm op (.int i t) (.int j u)) Q X.xe s):PC X op a b (aJM p ta tb):=by
 intro hV s Z H Q I h;refine bin ha hb I h λ v u s2 x y H2 I2 rx ry q=>?_
 obtain⟨i,j,rfl,rfl,q⟩:=q;obtain⟨t,rfl⟩:=rx;obtain⟨t',rfl⟩:=ry;exact rule i j t t' _ s2 ⟨.bl _,H2,I2,rfl,q⟩
def aHp(ha:PE X a ta)(hb:PE X b tb):PC X .NotEq a b (aKH ta tb):=aHq ha hb λ _ _ _ _ _ _ h=>ne_int (by rw[bne,Bool.beq_eq_decide_eq];exact h)
def tB(t:TE):TT:=λ Z H Q=>t Z H λ x H1=>∃c,x= .bl c/\Q c H1
def aH9(h:PC X op a b t)(h1:zBb op b=false:=by first|exact aDw _ (by decide) (by decide)|rfl):PT X (.Compare a [op] [b] pos) (tB t):=by
 intro hV s Z H Q I hw;refine zHF (thn (h hV s Z H _ I hw) λ v s1 h1=>thn h1 λ u s2 h2=>thn h2 λ c s3 ⟨x,H1,I1,r1,q1⟩=>?_) h1;obtain⟨d,rfl,q⟩:=q1;cases r1;exact zBY ⟨H1,I1,q⟩
def aDa(h:PE X e t)(he:∀whole,isTrue e X.env whole=(do let v <-whole;zG0 e.pos;zDQ [v] (truthy v)):=by intro _;rfl):PT X e (tB t):=by
 intro hV s Z H Q I hw;refine isTrue_plain (thn (h hV s Z H _ I hw) λ v s1 ⟨x,H1,I1,r1,q1⟩=>?_) (he _);obtain⟨d,rfl,q⟩:=q1;cases r1;exact zBY ⟨H1,I1,q⟩
variable{tA tB':TT}{rest:List Expr}
def aKN(t u:TT):TT:=λ Z H Q=>t Z H λ c H1=>if c=true then u Z H1 Q else Q false H1
def tOr(t u:TT):TT:=λ Z H Q=>t Z H λ c H1=>if c=true then Q true H1 else u Z H1 Q
def aKG(t:TT):TT:=λ Z H Q=>t Z H λ c H1=>Q (!c) H1
def aF9(ha:PT X a tA):PW X (.BoolOp .And [a] pos) tA:=by
 intro wh hV s Z H Q I h;refine isTrue_and (thn (ha hV s Z H Q I h) λ c s1 e=>?_);cases c with
 |true=>exact isTrue_and_nil e
 |false=>exact e
def aD8(ha:PT X a tA):PW X (.BoolOp .Or [a] pos) tA:=by
 intro wh hV s Z H Q I h;refine isTrue_or (thn (ha hV s Z H Q I h) λ c s1 e=>?_);cases c with
 |false=>exact isTrue_or_nil e
 |true=>exact e
def aH7(ha:PT X a tA)(hb:PW X (.BoolOp .And (b::rest) pos) tB'):PW X (.BoolOp .And (a::b::rest) pos) (aKN tA tB'):=by
 intro wh hV s Z H Q I h;refine isTrue_and (thn (ha hV s Z H _ I h) λ c s1 ⟨H1,I1,q1⟩=>?_);cases c with
 |true=>exact hb wh hV s1 Z H1 Q I1 q1
 |false=>exact⟨H1,I1,q1⟩
def aGy(ha:PT X a tA)(hb:PW X (.BoolOp .Or (b::rest) pos) tB'):PW X (.BoolOp .Or (a::b::rest) pos) (tOr tA tB'):=by
 intro wh hV s Z H Q I h;refine isTrue_or (thn (ha hV s Z H _ I h) λ c s1 ⟨H1,I1,q1⟩=>?_);cases c with
 |true=>exact⟨H1,I1,q1⟩
 |false=>exact hb wh hV s1 Z H1 Q I1 q1
def aAV(ha:PT X a tA):PT X (.UnaryOp .Not a pos) (aKG tA):=by
 intro hV s Z H Q I h;exact isTrue_not (ha hV s Z H (λ c H1=>Q (!c) H1) I h)
def aJO(ta tb:TE):TE:=λ Z H Q=>ta Z H λ x H1=>∃c,x= .bl c/\if c=true then tb Z H1 Q else Q (.bl false) H1
def aJK(ta:TE):TE:=λ Z H Q=>ta Z H λ x H1=>∃c,x= .bl c/\Q (.bl (!c)) H1
def aHj{op}(h:PE X a t):PE X (.BoolOp op [a] pos) t:=λ hV s Z H Q I hw=>BoolOp_one (h hV s Z H Q I hw)
def aHo(ha:PE X a ta)(hb:PE X (.BoolOp .And (b::rest) pos) tb):PE X (.BoolOp .And (a::b::rest) pos) (aJO ta tb):=by
 intro hV s Z H Q I h;refine BoolOp_and (thn (ha hV s Z H _ I h) λ v s1 ⟨x,H1,I1,r1,q1⟩=>?_);obtain⟨c,rfl,q1⟩:=q1;cases r1;refine zBY ?_;cases c with
 |true=>exact hb hV s1 Z H1 Q I1 q1
 |false=>exact⟨.bl false,H1,I1,rfl,q1⟩
def aHk(ha:PE X a ta):PE X (.UnaryOp .Not a pos) (aJK ta):=by
 intro hV s Z H Q I h;refine UnaryOp_ (thn (ha hV s Z H _ I h) λ v s1 ⟨x,H1,I1,r1,q1⟩=>?_);obtain⟨c,rfl,q1⟩:=q1;cases r1;exact not_of (zBY ⟨.bl (!c),H1,I1,rfl,q1⟩)
end
def SqL(K:zAA)(H:Hp)(a:Addr)(xs:List V):Prop:=
 Rd H a (.lst xs)\/
  ∃(o:Obj) (its:Array Value) (n:Nat),K.lookup a=some o/\o.cls= .type "list"/\o.dict=none/\o.data= .seq its n/\its.size<=zAY/\Vals xs its.toList
def SqT(K:zAA)(H:Hp)(a:Addr)(xs:List V):Prop:=
 Rd H a (.tup xs)\/
  ∃(o:Obj) (its:Array Value) (n:Nat),K.lookup a=some o/\o.cls= .type "tuple"/\o.dict=none/\o.data= .seq its n/\its.size<=zAY/\Vals xs its.toList
def aKW:Value->Option V
 | .none=>some .non
 | .bool b=>some (.bl b)
 | .int i _=>some (.int i)
 | .str x _=>some (.str x)
 | .bytes b _=>some (.byt b)
 | .float b _=>some (.flt b)
 | .ref a=>some (.ref a)
 | .type n=>some (.ty n)
 |_=>none
def RelV.abs(r:RelV x u):aKW u=some x:=by
 cases x with
 |non=>cases r;rfl
 |bl _=>cases r;rfl
 |int _=>obtain⟨t,rfl⟩:=r;rfl
 |str _=>obtain⟨t,rfl⟩:=r;rfl
 |byt _=>obtain⟨t,rfl⟩:=r;rfl
 |flt _=>obtain⟨t,rfl⟩:=r;rfl
 |ref _=>cases r;rfl
 |ty _=>cases r;rfl
def RelV.inj(r:RelV x u)(q:RelV y u):x=y:=zA8 (r.abs.symm.trans q.abs)
theorem Vals.inj:∀{xs ys:List V} {us:List Value},Vals xs us->Vals ys us->xs=ys
 |_,_,_,.nil,.nil=>rfl
 |_,_,_,.cons r t,.cons r' t'=>by rw[r.inj r',Vals.inj t t']
section
variable{X:Cx}{hV:gV}{Z:St}{H:Hp}{s:zAB}{a:Addr}{xs ys:List V}
def SqL.of{K:zAA}(h:H a=some (.lst xs)):SqL K H a xs:=.inl (.inl h)
def SqT.of{K:zAA}(h:H a=some (.tup xs)):SqT K H a xs:=.inl (.inl h)
def Inv.list(I:Inv X hV Z H s)(h:SqL X.K H a xs):∃its:List Value,Vals xs its/\PlainL s.heap a its.toArray/\xs.length<=zAY:=by
 rcases h with h|⟨o,its,n,hk,hc,hd,hs,hz,r⟩
 .obtain⟨z,its,n,r,e⟩:=h.ok I.hok
  exact⟨its,r,⟨_,n,e,rfl,rfl,rfl⟩,z⟩
 .refine⟨its.toList,r,⟨o,n,I.kIn a o hk,hc,hd,by simpa using hs⟩,?_⟩
  have e:=r.length;simp only[zA0]at e;lia
def Inv.tuple(I:Inv X hV Z H s)(h:SqT X.K H a xs):∃its:List Value,Vals xs its/\IsTup s.heap a its.toArray/\xs.length<=zAY:=by
 rcases h with h|⟨o,its,n,hk,hc,hd,hs,hz,r⟩
 .obtain⟨z,its,r,p⟩:=h.ok I.hok
  exact⟨its,r,p,z.1⟩
 .refine⟨its.toList,r,⟨o,I.kIn a o hk,hc,n,by simpa using hs⟩,?_⟩
  have e:=r.length;simp only[zA0]at e;lia
def Inv.list_inj(I:Inv X hV Z H s)(h:SqL X.K H a xs)(h':SqL X.K H a ys):xs=ys:=by
 obtain⟨its,r,⟨o,n,e,_,_,d⟩,_⟩:=I.list h;obtain⟨its',r',⟨o',n',e',_,_,d'⟩,_⟩:=I.list h';rw[e]at e';cases e';rw[d]at d';injection d' with d1 _
 have:its=its':=by simpa using congrArg zHT d1
 subst this;exact r.inj r'
def Inv.tuple_inj(I:Inv X hV Z H s)(h:SqT X.K H a xs)(h':SqT X.K H a ys):xs=ys:=by
 obtain⟨its,r,⟨o,e,_,n,d⟩,_⟩:=I.tuple h;obtain⟨its',r',⟨o',e',_,n',d'⟩,_⟩:=I.tuple h';rw[e]at e';cases e';rw[d]at d';injection d' with d1 _
 have:its=its':=by simpa using congrArg zHT d1
 subst this;exact r.inj r'
end
section
variable{X:Cx}{st:Stmt}{rest:List Stmt}{t u:TS}{e:Expr}{te:TE}{pos:Pos}
def aJL:TS:=λ D Z H=>D.nx Z H
def aKF(t u:TS):TS:=λ D Z H=>t {D with nx:=u D} Z H
def wW:PSs X [] aJL:=λ _ _ Z H _ I h=>zD3 ⟨Z,H,I,h⟩
def dW(h1:PS X st t)(h2:PSs X rest u):PSs X (st::rest) (aKF t u):=by
 intro hV s Z H D I h;refine wpAny_execs_cons (thn (h1 hV s Z H {D with nx:=u D} I h) λ f s1 q=>?_);cases f with
 |next=>
  obtain⟨Z',H',I',q⟩:=q;exact h2 hV s1 Z' H' D I' q
 |ret v=>exact q
 |brk=>exact q
 |cont=>exact q
def jm(h1:PS X st t):PSs X [st] t:=by
 intro hV s Z H D I h;refine wpAny_execs_cons (thn (h1 hV s Z H D I h) λ f s1 q=>?_);cases f with
 |next=>exact zD3 q
 |ret v=>exact q
 |brk=>exact q
 |cont=>exact q
def Inv.quiet(I:Inv X hV Z H s):interactive X.env=false:=by simp[interactive,I.ok.kind]
def yJ(te:TE):TS:=λ D Z H=>te Z H λ _ H1=>D.nx Z H1
def rN(he:PE X e te)(hs:zDI e none pos.line X.env=pure false:=by rfl):PS X (.Expr e pos) (yJ te):=by
 intro hV s Z H D I h;exact wpAny_Expr_any (thn (he hV s Z H _ I h) λ v s1 ⟨x,H1,I1,r1,q1⟩=>⟨Z,H1,I1,q1⟩) I.quiet hs
def aHR(te:TE):TS:=λ D Z H=>te Z H D.rt
def su(he:PE X e te):PS X (.Return (some e) pos) (aHR te):=by
 intro hV s Z H D I h;exact wpAny_Return_some (thn (he hV s Z H _ I h) λ v s1 ⟨x,H1,I1,r1,q1⟩=>⟨x,Z,H1,I1,r1,q1⟩)
def aKK(c:TT)(t u:TS):TS:=λ D Z H=>c Z H λ b H1=>if b=true then t D Z H1 else u D Z H1
def aDf(hc:PT X c tc)(ha:PSs X a t)(hb:PSs X b u):PS X (.If c a b pos) (aKK tc t u):=by
 intro hV s Z H D I h;refine wpAny_If (thn (hc hV s Z H _ I h) λ d s1 ⟨H1,I1,q1⟩=>?_);cases d with
 |true=>exact ha hV s1 Z H1 D I1 q1
 |false=>exact hb hV s1 Z H1 D I1 q1
end
abbrev TG:=V->St->Hp->(St->Hp->Prop)->Prop
abbrev TGs:=List V->St->Hp->(St->Hp->Prop)->Prop
def PG(X:Cx)(target:Expr)(t:TG):Prop:=
 ∀(hV:gV) (s:zAB) (Z:St) (H:Hp) (v:V) (u:Value) (Q:St->Hp->Prop),Inv X hV Z H s->RelV v u->t v Z H Q->
  wpAny (model X.prog X.w) X.A (zEO target X.env u) (λ _ s'=>∃Z' H',Inv X hV Z' H' s'/\Q Z' H') X.xe s
def PGs(X:Cx)(ts:List Expr)(t:TGs):Prop:=
 ∀(hV:gV) (s:zAB) (Z:St) (H:Hp) (vs:List V) (us:List Value) (Q:St->Hp->Prop),Inv X hV Z H s->Vals vs us->t vs Z H Q->
  wpAny (model X.prog X.w) X.A (assignInOrder ((zCL ts X.env).map (·.2)) us) (λ _ s'=>∃Z' H',Inv X hV Z' H' s'/\Q Z' H') X.xe s
abbrev aJt:=V->V->V->Hp->(Hp->Prop)->Prop
def aJx(X:Cx)(t:aJt):Prop:=
 ∀(hV:gV) (s:zAB) (Z:St) (H:Hp) (o i v:V) (ov iv u:Value) (Q:Hp->Prop),Inv X hV Z H s->RelV o ov->RelV i iv->RelV v u->t o i v H Q->
  wpAny (model X.prog X.w) X.A (setItem ov iv u) (λ _ s'=>∃H',Inv X hV Z H' s'/\Q H') X.xe s
abbrev TIp:=V->V->Hp->VK->Prop
def PIp(X:Cx)(op:Operator)(t:TIp):Prop:=
 ∀(hV:gV) (s:zAB) (Z:St) (H:Hp) (x y:V) (v u:Value) (Q:VK),Inv X hV Z H s->RelV x v->RelV y u->t x y H Q->
  wpAny (model X.prog X.w) X.A (inplaceOp op v u) (EP X hV Z Q) X.xe s
section
variable{X:Cx}{pos:Pos}
def mX(i:Nat):TG:=λ v Z H Q=>Q (Z.set i (some v)) H
def aFd(hN:X.N.Nodup)(hi:X.N[i]? =some x)(hx:Loc X.env.scope x)(hf:X.fn x=true\/X.env.scope.names.lookup x=some .local:=by first|exact .inl rfl|exact .inr rfl|assumption):PG X (.Name x pos) (mX i):=by
 intro hV s Z H v u Q I r h;exact zHm (oH I hN hi hx r (λ s' I'=>⟨_,H,I',h⟩) hf)
def aIe:TGs:=λ vs Z H Q=>vs=[]/\Q Z H
def aEg(t:TG)(u:TGs):TGs:=λ vs Z H Q=>∃v r,vs=v::r/\t v Z H λ Z' H'=>u r Z' H' Q
def aFc:PGs X [] aIe:=by
 intro hV s Z H vs us Q I r h;obtain⟨e,h⟩:=h;subst e;cases r;exact assignInOrder_nil ⟨Z,H,I,h⟩
def aDi(h1:PG X e t)(h2:PGs X es u)
  (hs:(zCL (e::es) X.env).map (·.2)=zEO e X.env::(zCL es X.env).map (·.2):=by rfl):PGs X (e::es) (aEg t u):=by
 intro hV s Z H vs us Q I r h;obtain⟨v,vr,e1,h⟩:=h;subst e1;cases r with
 |cons r rr=>
  rw[hs];refine assignInOrder_cons (thn (h1 hV s Z H _ _ _ I r h) λ _ s1 ⟨Z1,H1,I1,q1⟩=>?_);exact h2 hV s1 Z1 H1 _ _ Q I1 rr q1
def aG0(K:zAA)(n:Nat)(t:TGs):TG:=λ v Z H Q=>∃a xs,v= .ref a/\SqT K H a xs/\xs.length=n/\t xs Z H Q
def aHe(hc:X.calm=true)(h:PGs X es t)
  (hn:(zCL es X.env).length=n:=by rfl)(hst:(zCL es X.env).findIdx? (·.1)=none:=by rfl):PG X (.Tuple es k pos) (aG0 X.K n t):=by
 intro hV s Z H v u Q I r hw;obtain⟨a,xs,e1,hq,hl,hw⟩:=hw;subst e1;cases r;obtain⟨its,rv,ht,hz⟩:=I.tuple hq;refine assign_Tuple_tuple (I.ok.hd hc) ht (by simp[hn,<-hl,rv.length]) hst λ h' hx=>?_
 have I1:Inv X hV Z H {s with heap:=h'}:=I.kept (t':=s.toks) λ b o e=>hx b o (zA1 (zAM e)) e
 exact h hV _ Z H xs _ Q I1 (by simpa using rv) hw
def aJn(to ti:TE)(t:aJt):TG:=λ v Z H Q=>to Z H λ o H1=>ti Z H1 λ i H2=>t o i v H2 λ H3=>Q Z H3
def aHf(ho:PE X o to)(hi:PE X i ti)(hs:aJx X t)
  (ha:∀v,zEO (.Subscript o i pos) X.env v=(do
   let ov <-zDQ [v] (eval o X.env);let iv <-zDQ [v,ov] (eval i X.env)
   zG0 pos
   zDQ [v,ov,iv] (setItem ov iv v)
   release [v,ov,iv] []):=by intro _;rfl):PG X (.Subscript o i pos) (aJn to ti t):=by
 intro hV s Z H v u Q I r h;rw[ha];refine zAD (zCG (thn (ho hV s Z H _ I h) λ ov s1 ⟨x,H1,I1,r1,q1⟩=>?_));refine zAD (zCG (thn (hi hV s1 Z H1 _ I1 q1) λ iv s2 ⟨y,H2,I2,r2,q2⟩=>?_));refine zAD (zG4 (zAD (zCG (thn (hs hV s2 Z H2 x y v ov iv u _ I2 r1 r2 r q2) λ _ s3 ⟨H3,I3,q3⟩=>?_))));exact wpAny_release ⟨Z,H3,I3,q3⟩
def yL(te:TE)(g:TG):TS:=λ D Z H=>te Z H λ x H1=>g x Z H1 D.nx
def aDg(he:PE X e te)(hg:PG X tg g)(hs:zG2 [tg] e pos.line X.env=pure false:=by rfl)(hw:zG1 [tg] e X.env=pure none:=by rfl)
  (h1:(zCL [tg] X.env).map (·.2)=[zEO tg X.env]:=by rfl):PS X (.Assign [tg] e pos) (yL te g):=by
 intro hV s Z H D I h;refine wpAny_Assign_stores (thn (he hV s Z H _ I h) λ v s1 ⟨x,H1,I1,r1,q1⟩=>?_) hs hw;rw[h1];exact thn (hg hV s1 Z H1 x v _ I1 r1 q1) λ _ s2 q=>q
def jo(hN:X.N.Nodup)(hi:X.N[i]? =some x)(hx:Loc X.env.scope x)(he:PE X e te)(hs:zDI e (some (.Name x pos')) pos.line X.env=pure false:=by rfl)(hf:X.fn x=true\/X.env.scope.names.lookup x=some .local:=by first|exact .inl rfl|exact .inr rfl|assumption):
  PS X (.Assign [.Name x pos'] e pos) (yL te (mX i)):=by
 intro hV s Z H D I h;refine wpAny_Assign_Name (thn (he hV s Z H _ I h) λ v s1 ⟨y,H1,I1,r1,q1⟩=>?_) hs;exact oH I1 hN hi hx r1 (λ s2 I2=>⟨_,H1,I2,q1⟩) hf
def aKM(i:Nat)(te:TE)(ti:TIp):TS:=λ D Z H=>∃x,Z[i]? =some (some x)/\te Z H λ y H1=>ti x y H1 λ z H2=>D.nx (Z.set i (some z)) H2
def aHb(hN:X.N.Nodup)(hi:X.N[i]? =some x)(hx:Loc X.env.scope x)(he:PE X e te)(ho:PIp X op ti)(hf:X.fn x=true\/X.env.scope.names.lookup x=some .local:=by first|exact .inl rfl|exact .inr rfl|assumption):
  PS X (.AugAssign (.Name x pos') op e pos) (aKM i te ti):=by
 intro hV s Z H D I h;obtain⟨v,e1,h⟩:=h;obtain⟨m,hn,hl⟩:=I.loc;have vis:Vis X.env.scope x:=by rcases hx with k|k;exact .inl k;exact .inr (.inl k)
 obtain⟨u,r,l⟩:=hl i x v hi e1 vis;refine wpAny_AugAssign_Name ?_;have go:wpAny (model X.prog X.w) X.A (eval e X.env) (λ w zD=>wpAny (model X.prog X.w) X.A (inplaceOp op u w) (λ r y9=>wpAny (model X.prog X.w) X.A (storeName X.env x r) (λ _=>SP X hV D .next) X.xe y9) X.xe zD) X.xe s:=by
  refine thn (he hV s Z H _ I h) λ w s1 ⟨y,H1,I1,r1,q1⟩=>?_
  refine thn (ho hV s1 Z H1 v y u w _ I1 r r1 q1) λ z s2 ⟨zv,H2,I2,r2,q2⟩=>?_
  exact oH I2 hN hi hx r2 (λ s3 I3=>⟨_,H2,I3,q2⟩) hf
 rcases l with ⟨hk,hm⟩|⟨hk,c,hc,hcell⟩
 .exact zE1 I.ok.kind hk hn hm go
 .rcases hk with hk|hk
  .exact zEd I.ok.kind hk hc hcell go
  .rcases hx with k|k
   .have:X.env.scope.names.lookup x=some .free:=hk
    rw[k]at this;cases this
   .have:X.env.scope.names.lookup x=some .free:=hk
    rw[k]at this;cases this
def ipI(f:Int->Int->Int):TIp:=λ x y H Q=>∃i j,x= .int i/\y= .int j/\Q (.int (f i j)) H
def aI8:PIp X .Add (ipI λ i j=>i+j):=by
 intro hV s Z H x y v u Q I r1 r2 h;obtain⟨i,j,e1,e2,q⟩:=h;subst e1;subst e2;obtain⟨t,rfl⟩:=r1;obtain⟨t',rfl⟩:=r2;exact iadd_int ⟨.int _,H,I.tok _,⟨_,rfl⟩,q⟩
def aI7:PIp X .Sub (ipI λ i j=>i-j):=by
 intro hV s Z H x y v u Q I r1 r2 h;obtain⟨i,j,e1,e2,q⟩:=h;subst e1;subst e2;obtain⟨t,rfl⟩:=r1;obtain⟨t',rfl⟩:=r2;exact isub_int ⟨.int _,H,I.tok _,⟨_,rfl⟩,q⟩
end
section
variable{X:Cx}{pos:Pos}
def aHQ(c:TT)(tb:TS):TS:=λ D Z H=>∃W:Nat->St->Hp->Prop,(∃m,W m Z H)/\∀m Z H,W m Z H->
 c Z H λ b H1=>if b=true then∃N:St->Hp->Prop,(∀Z' H',N Z' H'->∃m',m'<m/\W m' Z' H')/\tb {D with nx:=N,ct:=N,bk:=D.nx} Z H1 else D.nx Z H1
def aDc(hp:zGx (model X.prog X.w) X.A X.env X.xe)(hc:PT X c tc)(hb:PSs X body tb):PS X (.While c body [] pos) (aHQ tc tb):=by
 intro hV s Z H D I h;obtain⟨W,⟨m0,w0⟩,turn⟩:=h;refine wpAny_While (codeAny_whileLoop (λ n s'=>∃Z' H',Inv X hV Z' H' s'/\W n Z' H') ?_ m0 ⟨Z,H,I,w0⟩);rintro n s1 ⟨Z1,H1,I1,w1⟩;refine zCZ hp (thn (hc hV s1 Z1 H1 _ I1 (turn n Z1 H1 w1)) λ b s2 ⟨H2,I2,q2⟩=>?_);cases b with
 |true=>
  obtain⟨N,hN,q2⟩:=q2;rw[if_pos rfl];refine zCZ hp (thn (hb hV s2 Z1 H2 _ I2 q2) λ f s3 q3=>?_);cases f with
  |next=>
   obtain⟨Z3,H3,I3,n3⟩:=q3;obtain⟨m',hm,w3⟩:=hN Z3 H3 n3;exact⟨m',hm,Z3,H3,I3,w3⟩
  |cont=>
   obtain⟨Z3,H3,I3,n3⟩:=q3;obtain⟨m',hm,w3⟩:=hN Z3 H3 n3;exact⟨m',hm,Z3,H3,I3,w3⟩
  |brk=>exact q3
  |ret v=>exact q3
 |false=>
  rw[if_neg zAc];exact zD3 ⟨Z1,H2,I2,q2⟩
end
structure It where
 go:Nat->Hp->Prop
 yld:Nat->Hp->V->Hp->Prop
 stop:Nat->Hp->Prop
def uW(X:Cx)(hV:gV)(H:Hp)(b:Addr):Prop:=
 H b=none/\b≠X.env.locals/\b∉X.fs/\(b∈X.ex\/X.z5.heap.objs.size<=b)/\(∀x c,X.env.cells.lookup x=some c->c≠b)/\∀p∈X.ta++(X.pn++hV),p.1≠b
def Inv.fpOk(I:Inv X hV Z H s)(hb:s.heap.objs.size<=b)(hn:H' b=none):uW X hV H' b:=by
 refine⟨hn,zCM (zAO I.lt hb),I.nofs hb,.inr (zAd I.sz hb),λ x c e z=>?_,λ p hp z=>?_⟩
 .obtain⟨v,q⟩:=I.cell x c e
  exact absurd (zAO q.lt (by rw[z];exact hb)) (zBV _)
 .exact absurd (zAO (I.pinL hp) (by rw[z];exact hb)) (zBV _)
structure Turn(P:zAP)(w:World)(K:zAA)(tg:Expr)(J:It)(fp:List Addr)(it:Addr)(tn:Nat->Heap->Prop):Prop where
 mem:it∈fp
 obj:∀i h,tn i h->∀b∈fp,∃o,h.get? b=some o/\∀v,o.data≠.cell v
 keep:∀i h h',tn i h->(∀b∈fp,∀o,h.get? b=some o->h'.get? b=some o)->tn i h'
 item:∀(X:Cx),X.prog=P->X.w=w->X.K=K->X.calm=true->∀(i:Nat) (hV:gV) (s:zAB) (Z:St) (H:Hp) (E:Value->zAB->Prop),Inv X hV Z H s->(∀b∈fp,uW X hV H b)->tn i s.heap->J.go i H->
  wpAny (model P w) X.A (zE5 (.ref it)) (λ r s1=>∃u,r=some u/\
   wpAny (model P w) X.A (zEQ tg (.ref it) u) (λ _ s2=>∃x H',Inv X hV Z H' s2/\RelV x u/\J.yld i H x H'/\tn (i+1) s2.heap/\∀b∈fp,H' b=none) E s1) E s
 done:∀(X:Cx),X.prog=P->X.w=w->X.K=K->X.calm=true->∀(i:Nat) (hV:gV) (s:zAB) (Z:St) (H:Hp) (E:Value->zAB->Prop),Inv X hV Z H s->(∀b∈fp,uW X hV H b)->tn i s.heap->J.stop i H->
  wpAny (model P w) X.A (zE5 (.ref it)) (λ r s1=>r=none/\Inv X hV Z H s1) E s
 self:∀(A:zAZ) (i:Nat) (s:zAB) (Q:Value->zAB->Prop) (E:Value->zAB->Prop),tn i s.heap->Q (.ref it) s->wpAny (model P w) A (zH1 (.ref it)) Q E s
abbrev TI:=St->Hp->(It->Hp->Prop)->Prop
def PIE(X:Cx)(hV:gV)(Z:St)(tg:Expr)(R:It->Hp->Prop)(itv:Value)(s2:zAB):Prop:=
 ∃(it:Addr) (fp:List Addr) (tn:Nat->Heap->Prop) (J:It) (H':Hp),itv= .ref it/\Inv X hV Z H' s2/\Turn X.prog X.w X.K tg J fp it tn/\tn 0 s2.heap/\(∀b∈fp,uW X hV H' b)/\R J H'
def PI(X:Cx)(tg iter:Expr)(wi:TI):Prop:=
 ∀(hV:gV) (s:zAB) (Z:St) (H:Hp) (R:It->Hp->Prop),Inv X hV Z H s->wi Z H R->
  wpAny (model X.prog X.w) X.A (eval iter X.env) (λ v s1=>wpAny (model X.prog X.w) X.A (zH1 v) (PIE X hV Z tg R) X.xe s1) X.xe s
def aEd(ho:s.heap.get? it=some o)(hc:o.cls= .type n)(hd:o.data= .fields vs)
    (hn:["enumerate","zip","dict_itemiterator","dict_reverseitemiterator","odict_iterator","itertools.zip_longest","itertools.pairwise"].contains n=false)(hQ:Q () s):wpAny M A (zEQ tg (.ref it) u) Q E s:=by
  unfold zEQ;cases tg<;>first
    |exact zAN hQ
    | (cases u <;> first
        |exact zAN hQ
        | (refine zAD (wpAny_load ho ?_)
           rw[hc,hd];show wpAny M A (if (["enumerate","zip","dict_itemiterator","dict_reverseitemiterator","odict_iterator","itertools.zip_longest","itertools.pairwise"].contains n&&vs[0]? ==some (zH2 _))=true then _ else _) Q E s;rw[if_neg (by intro h;rw[hn,zHL]at h;cases h)];exact zAN hQ))
def Itl(K:zAA)(a:Addr):It:=
 ⟨λ i H=>∃xs x,SqL K H a xs/\xs[i]? =some x,λ i H x H'=>H'=H/\∀xs,SqL K H a xs->xs[i]? =some x,λ i H=>∃xs,SqL K H a xs/\xs.length<=i⟩
def Itt(K:zAA)(a:Addr):It:=
 ⟨λ i H=>∃xs x,SqT K H a xs/\xs[i]? =some x,λ i H x H'=>H'=H/\∀xs,SqT K H a xs->xs[i]? =some x,λ i H=>∃xs,SqT K H a xs/\xs.length<=i⟩
def Itr(lo:Int)(n:Nat):It:=⟨λ i _=>i<n,λ i H x H'=>H'=H/\x= .int (lo+i),λ i _=>n<=i⟩
def aBw{P:zAP}{w:World}{K:zAA}{tg:Expr}(a it:Addr):Turn P w K tg (Itl K a) [it] it (λ i h=>h.IsListIter it a i) where
 mem:=by simp
 obj:=λ i h st b hb=>by
  have e:b=it:=by simpa using hb
  subst e;obtain⟨o,e,c,d⟩:=st;exact⟨o,e,λ v z=>by rw[d]at z;cases z⟩
 keep:=λ i h h' st k=>st.at λ o e=>k it (by simp) o e
 item:=by
  intro X hP hw hK hc i hV s Z H E I hf st hg;subst hP hw hK;obtain⟨xs,x,hq,hx⟩:=hg;obtain⟨its,rv,p,hz⟩:=I.list hq;obtain⟨u,hu,ru⟩:=rv.get hx;obtain⟨f0,f1,f2,f3,f4,f5⟩:=hf it (by simp);refine wpAny_pyNext_list_item st p.isList (x:=u) (by simpa using hu) λ h' st' sb=>?_
  have I1:Inv X hV Z H {s with heap:=h'}:=I.turned (t':=s.toks) (λ b o hb e=>(sb.2 b hb).trans e) f0 f1 f3 f4 f5;obtain⟨o,e,c,d⟩:=id st';exact⟨u,rfl,aEd (s:={s with heap:=h'}) e c d (by decide) ⟨x,H,I1,ru,⟨rfl,λ ys hy=>by rw[I.list_inj hy hq];exact hx⟩,st',λ b hb=>(hf b hb).1⟩⟩
 done:=by
  intro X hP hw hK hc i hV s Z H E I hf st hg;subst hP hw hK;obtain⟨xs,hq,hx⟩:=hg;obtain⟨its,rv,p,hz⟩:=I.list hq;obtain⟨f0,f1,f2,f3,f4,f5⟩:=hf it (by simp);have hl:=rv.length;exact wpAny_pyNext_list_end (I.ok.hd hc) st p.isList (by simp;lia) λ h' eb=>⟨rfl,I.turned (t':=s.toks) (λ b o hb e=>eb b o hb e) f0 f1 f3 f4 f5⟩
 self:=λ _ _ _ _ _ st h=>wpAny_pyIter_listiter st h
def aAC{P:zAP}{w:World}{K:zAA}{tg:Expr}(a it:Addr):Turn P w K tg (Itt K a) [it] it (λ i h=>h.IsTupleIter it a i) where
 mem:=by simp
 obj:=λ i h st b hb=>by
  have e:b=it:=by simpa using hb
  subst e;obtain⟨o,e,c,d⟩:=st;exact⟨o,e,λ v z=>by rw[d]at z;cases z⟩
 keep:=λ i h h' st k=>st.at λ o e=>k it (by simp) o e
 item:=by
  intro X hP hw hK hc i hV s Z H E I hf st hg;subst hP hw hK;obtain⟨xs,x,hq,hx⟩:=hg;obtain⟨its,rv,p,hz⟩:=I.tuple hq;obtain⟨u,hu,ru⟩:=rv.get hx;obtain⟨f0,f1,f2,f3,f4,f5⟩:=hf it (by simp);refine wpAny_pyNext_tuple_item st (show s.heap.IsTuple a its.toArray from p) (x:=u) (by simpa using hu) λ h' st' sb=>?_
  have I1:Inv X hV Z H {s with heap:=h'}:=I.turned (t':=s.toks) (λ b o hb e=>(sb.2 b hb).trans e) f0 f1 f3 f4 f5;obtain⟨o,e,c,d⟩:=id st';exact⟨u,rfl,aEd (s:={s with heap:=h'}) e c d (by decide) ⟨x,H,I1,ru,⟨rfl,λ ys hy=>by rw[I.tuple_inj hy hq];exact hx⟩,st',λ b hb=>(hf b hb).1⟩⟩
 done:=by
  intro X hP hw hK hc i hV s Z H E I hf st hg;subst hP hw hK;obtain⟨xs,hq,hx⟩:=hg;obtain⟨its,rv,p,hz⟩:=I.tuple hq;obtain⟨f0,f1,f2,f3,f4,f5⟩:=hf it (by simp);have hl:=rv.length;exact wpAny_pyNext_tuple_end (I.ok.hd hc) st (show s.heap.IsTuple a its.toArray from p) (by simp;lia) λ h' eb=>⟨rfl,I.turned (t':=s.toks) (λ b o hb e=>eb b o hb e) f0 f1 f3 f4 f5⟩
 self:=λ _ _ _ _ _ st h=>wpAny_pyIter_tupleiter st h
def aAD{P:zAP}{w:World}{K:zAA}{tg:Expr}(it:Addr)(lo:Int)(n:Nat):Turn P w K tg (Itr lo n) [it] it (λ i h=>IsRangeIter h it (lo+(i:Nat)*1) ((n:Int)-(i:Nat)) 1) where
 mem:=by simp
 obj:=λ i h st b hb=>by
  have e:b=it:=by simpa using hb
  subst e;exact⟨_,st,λ v z=>by
   have z':Data.fields _=Data.cell v:=z;cases z'⟩
 keep:=λ i h h' st k=>k it (by simp) _ st
 item:=by
  intro X hP hw hK hc i hV s Z H E I hf st hg;subst hP hw hK;obtain⟨f0,f1,f2,f3,f4,f5⟩:=hf it (by simp);have W:=Walks.range (prog:=X.prog) (w:=X.w) (I.ok.hd hc) it lo 1 n;refine W.item i s _ _ hg st λ v h' tk hv st' kk=>?_
  obtain⟨t,rfl⟩:=hv;have I1:Inv X hV Z H {s with heap:=h',toks:=tk}:=I.turned (λ b o hb e=>kk b o (by simpa using hb) e) f0 f1 f3 f4 f5;refine⟨_,rfl,aEd (s:={s with heap:=h',toks:=tk}) (n:="range_iterator") st' rfl rfl (by decide) ⟨.int (lo+i),H,I1,⟨t,?_⟩,⟨rfl,rfl⟩,st',λ b hb=>(hf b hb).1⟩⟩;rw[Int.mul_one]
 done:=by
  intro X hP hw hK hc i hV s Z H E I hf st hg;subst hP hw hK;obtain⟨f0,f1,f2,f3,f4,f5⟩:=hf it (by simp);exact wpAny_pyNext_range_end (I.ok.hd hc) st (by have:n<=i:=hg;lia) λ h' eb=>⟨rfl,I.turned (t':=s.toks) (λ b o hb e=>eb b o hb e) f0 f1 f3 f4 f5⟩
 self:=λ _ _ _ _ _ st h=>wpAny_pyIter_rangeiter st h
section
variable{X:Cx}{tg:Expr}
def yf{hV:gV}{Z:St}{H:Hp}{s:zAB}{R:It->Hp->Prop}{E:Value->zAB->Prop}{lo hi:Int}{t u v:Tok}{tk:Nat}(I:Inv X hV Z H s)(h1: -(2^62)<=lo)(h2:lo<2^62)(h3: -(2^62)<=hi)(h4:hi<2^62)
  (q:R (Itr lo (hi-lo).toNat) H):wpAny (model X.prog X.w) X.A (zH1 (.ref s.heap.objs.size)) (PIE X hV Z tg R) E {s with heap:=s.heap.push {cls:=.type "range",data:=.fields #[.int lo t,.int hi u,.int 1 v]},toks:=tk}:=by
 refine wpAny_pyIter_range (IsRange.new ..) (small_one h1 h2 h3 h4) ?_;have I1:Inv X hV Z H {s with heap:=s.heap.push {cls:=.type "range",data:=.fields #[.int lo t,.int hi u,.int 1 v]},toks:=tk}:=I.kept λ b o e=>zAH _ e
 refine⟨(s.heap.push {cls:=.type "range",data:=.fields #[.int lo t,.int hi u,.int 1 v]}).objs.size,[(s.heap.push {cls:=.type "range",data:=.fields #[.int lo t,.int hi u,.int 1 v]}).objs.size],_,_,H,rfl,
  I1.kept (t':=tk) λ b o e=>zAH _ e,aAD _ lo (hi-lo).toNat,?_,λ b hb=>?_,q⟩
 .have e1:lo+((0:Nat):Int)*1=lo:=by simp
  have e2:(((hi-lo).toNat:Nat):Int)-((0:Nat):Int)=zDG lo hi 1:=by rw[rangeSize_one];split<;>lia
  show IsRangeIter _ _ (lo+((0:Nat):Int)*1) ((((hi-lo).toNat:Nat):Int)-((0:Nat):Int)) 1;rw[e1,e2];exact zAR _ rfl
 .have e:b=(s.heap.push {cls:=.type "range",data:=.fields #[.int lo t,.int hi u,.int 1 v]}).objs.size:=by simpa using hb
  subst e;exact I1.fpOk (zAW _) (I1.hok.fresh (zAW _))
def aJm(ta:TA):TI:=λ Z H R=>ta Z H λ vs H1=>∃j:Int,vs=[.int j]/\-(2^62)<=j/\j<2^62/\R (Itr 0 j.toNat) H1
def aJl(ta:TA):TI:=λ Z H R=>ta Z H λ vs H1=>∃i j:Int,vs=[.int i,.int j]/\(-(2^62)<=i/\i<2^62/\-(2^62)<=j/\j<2^62)/\R (Itr i (j-i).toNat) H1
def aCJ{a:Expr}{ta:TA}{p pos:Pos}(hg:Gl X "range")(hm:X.mg "range"=none)(ha:PA X [a] ta)(hs:zAT [a] X.env=[(false,eval a X.env)]:=by rfl):PI X tg (.Call (.Name "range" p) [a] [] pos) (aJm ta):=by
 intro hV s Z H R I h;refine Call_ (tW I hg hm zHh (zCm (thn (ha pos hV s Z H _ I h) λ us s1 ⟨vs,H1,I1,r1,q1⟩=>?_) hs rfl));obtain⟨j,e,q1,q2,q⟩:=q1;subst e;cases r1 with
 |cons r rr=>
  cases rr;obtain⟨t,rfl⟩:=r;exact call_range_1 (yf I1 (by lia) (by lia) q1 q2 (by simpa using q))
def aCI(hg:Gl X "range")(hm:X.mg "range"=none)(ha:PA X [a,b] ta)(hs:zAT [a,b] X.env=[(false,eval a X.env),(false,eval b X.env)]:=by rfl)(hs2:zAT [b] X.env=[(false,eval b X.env)]:=by rfl):
  PI X tg (.Call (.Name "range" p) [a,b] [] pos) (aJl ta):=by
 intro hV s Z H R I h;refine Call_ (tW I hg hm zHh (zCm (thn (ha pos hV s Z H _ I h) λ us s1 ⟨vs,H1,I1,r1,q1⟩=>?_) (by rw[hs,hs2]) (by rw[hs2];rfl)));obtain⟨i,j,e,⟨q1,q2,q3,q4⟩,q⟩:=q1;subst e;cases r1 with
 |cons r rr=>
  cases rr with
  |cons r' rr=>
   cases rr;obtain⟨t,rfl⟩:=r;obtain⟨t',rfl⟩:=r';exact call_range_2 (yf I1 q1 q2 q3 q4 q)
def aKL(wi:TI)(g:TG)(tb:TS):TS:=λ D Z H=>wi Z H λ J H1=>∃W:Nat->Nat->St->Hp->Prop,(∃m,W 0 m Z H1)/\∀i m Z H,W i m Z H->
 (J.stop i H/\D.nx Z H)\/(J.go i H/\∃N:St->Hp->Prop,(∀Z' H',N Z' H'->∃m',m'<m/\W (i+1) m' Z' H')/\∀x H',J.yld i H x H'->g x Z H' λ Z2 H2=>tb {D with nx:=N,ct:=N,bk:=D.nx} Z2 H2)
def sy(fp:List Addr)(h:Heap):gV:=fp.filterMap λ b=>(h.get? b).map λ o=>(b,o)
def nR(hb:b∈fp)(e:h.get? b=some o):(b,o)∈sy fp h:=zBi.mpr ⟨b,hb,by rw[e];rfl⟩
def uz(hp:p∈sy fp h):p.1∈fp/\h.get? p.1=some p.2:=by
 obtain⟨b,hb,e⟩:=zBi.mp hp;cases q:h.get? b with
 |none=>rw[q]at e;cases e
 |some o=>
  rw[q]at e;have e':(b,o)=p:=zA8 e;subst e';exact⟨hb,q⟩
def Inv.pinned(I:Inv X hV Z H s)(hf:∀b∈fp,uW X hV H b)(ho:∀b∈fp,∃o,s.heap.get? b=some o/\∀v,o.data≠.cell v):Inv X (hV++sy fp s.heap) Z H s:=
 I.pins_of (λ p hp=>(zBI.mp hp).elim (λ z=>I.pin p (zAa _ z)) λ z=>by
  obtain⟨hb,e⟩:=uz z;obtain⟨f0,f1,f2,_⟩:=hf p.1 hb;obtain⟨o,e',d⟩:=ho p.1 hb;rw[e]at e';cases e';exact⟨e,f0,f1,f2,d⟩) λ q hq p hp=>(zBI.mp hq).elim (λ z=>(I.tab p hp).2.2.2.1 q (zAa _ z)) λ z=>((hf q.1 (uz z).1).2.2.2.2.2 p (zAh _ hp)).symm
def Inv.unpinned(I:Inv X (hV++pl) Z H s):Inv X hV Z H s:=I.pins_of (λ p hp=>I.pin p (zAa _ (zAh _ hp))) λ q hq p hp=>(I.tab p hp).2.2.2.1 q (zAa _ (zAh _ hq))
def aHa(hp:zGx (model X.prog X.w) X.A X.env X.xe)(hc:X.calm=true)(hi:PI X tg iter wi)(hg:PG X tg g)(hb:PSs X body tb)
  (hs:∀x,zBz iter X.env x=pure x:=by intro _;rfl):PS X (.For tg iter body [] pos) (aKL wi g tb):=by
 intro hV s Z H D I h;refine wpAny_For (thn (hi hV s Z H _ I h) λ v s1 h1=>thn h1 λ itv s2 h2=>?_) hs;obtain⟨it,fp,tn,J,H2,e,I2,T,st2,f2,W,⟨m0,w0⟩,turn⟩:=h2;subst e;have yY:∀{H':Hp},(∀b∈fp,H' b=none)->∀b∈fp,uW X hV H' b:=λ hn b hb=>⟨hn b hb,(f2 b hb).2⟩
 refine codeAny_forLoop_any (λ n s'=>∃i Z' H',Inv X hV Z' H' s'/\tn i s'.heap/\(∀b∈fp,H' b=none)/\W i n Z' H') ?_ m0 ⟨0,Z,H2,I2,st2,λ b hb=>(f2 b hb).1,w0⟩;rintro n s3 ⟨i,Z3,H3,I3,st3,fr3,w3⟩;rcases turn i n Z3 H3 w3 with ⟨stop,qn⟩|⟨go,N,hN,step⟩
 .refine zCZ hp (thn (T.done X rfl rfl rfl hc i hV s3 Z3 H3 X.xe I3 (yY fr3) st3 stop) λ r s4 ⟨hr,I4⟩=>?_)
  subst hr;exact zD3 ⟨Z3,H3,I4,qn⟩
 .refine zCZ hp (thn (T.item X rfl rfl rfl hc i hV s3 Z3 H3 X.xe I3 (yY fr3) st3 go) λ r s4 ⟨u,hr,h4⟩=>?_)
  subst hr;refine zCZ hp (thn h4 λ _ s5 ⟨x,H5,I5,r5,y5,st5,fr5⟩=>?_);have I5':=I5.pinned (yY fr5) (T.obj _ _ st5);refine zCZ hp (thn (hg _ s5 Z3 H5 x u _ I5' r5 (step x H5 y5)) λ _ s6 ⟨Z6,H6,I6,q6⟩=>?_);refine zCZ hp (thn (hb _ s6 Z6 H6 _ I6 q6) λ f s7 q7=>?_);have again:∀{Z7:St} {H7:Hp},Inv X (hV++sy fp s5.heap) Z7 H7 s7->N Z7 H7->∃m,m<n/\∃i Z' H',Inv X hV Z' H' s7/\tn i s7.heap/\(∀b∈fp,H' b=none)/\W i m Z' H':=λ{Z7 H7} I7 n7=>by
   obtain⟨m',hm,w7⟩:=hN Z7 H7 n7;refine⟨m',hm,i+1,Z7,H7,I7.unpinned,T.keep _ _ _ st5 λ b hb o e=>(I7.pin (b,o) (zAa _ (zAa _ (nR hb e)))).1,λ b hb=>?_,w7⟩;obtain⟨o,e,d⟩:=T.obj _ _ st5 b hb;exact(I7.pin (b,o) (zAa _ (zAa _ (nR hb e)))).2.1
  cases f with
  |next=>obtain⟨Z7,H7,I7,n7⟩:=q7;exact again I7 n7
  |cont=>obtain⟨Z7,H7,I7,n7⟩:=q7;exact again I7 n7
  |brk=>obtain⟨Z7,H7,I7,q7⟩:=q7;exact⟨Z7,H7,I7.unpinned,q7⟩
  |ret v=>obtain⟨x7,Z7,H7,I7,r7,q7⟩:=q7;exact⟨x7,Z7,H7,I7.unpinned,r7,q7⟩
end
abbrev R2:=V->V->Hp->VK->Prop
def OpR(X:Cx)(f:Value->Value->Sem Value)(r:R2):Prop:=
 ∀(hV:gV) (s:zAB) (Z:St) (H:Hp) (x y:V) (v u:Value) (Q:VK),Inv X hV Z H s->RelV x v->RelV y u->r x y H Q->
  wpAny (model X.prog X.w) X.A (f v u) (EP X hV Z Q) X.xe s
def UnR(X:Cx)(f:Value->Sem Value)(r:V->Hp->VK->Prop):Prop:=
 ∀(hV:gV) (s:zAB) (Z:St) (H:Hp) (x:V) (v:Value) (Q:VK),Inv X hV Z H s->RelV x v->r x H Q->
  wpAny (model X.prog X.w) X.A (f v) (EP X hV Z Q) X.xe s
def dM(X:Cx)(f:Value)(r:List V->Hp->VK->Prop):Prop:=
 ∀(hV:gV) (s:zAB) (Z:St) (H:Hp) (xs:List V) (us:List Value) (Q:VK),Inv X hV Z H s->Vals xs us->r xs H Q->
  wpAny (model X.prog X.w) X.A (call f us) (EP X hV Z Q) X.xe s
def aKX(X:Cx)(r:V->Hp->(Bool->Hp->Prop)->Prop):Prop:=
 ∀(hV:gV) (s:zAB) (Z:St) (H:Hp) (x:V) (v:Value) (Q:Bool->Hp->Prop),Inv X hV Z H s->RelV x v->r x H Q->
  wpAny (model X.prog X.w) X.A (truthy v) (TP X hV Z Q) X.xe s
def tOp(r:R2)(ta tb:TE):TE:=λ Z H Q=>ta Z H λ x H1=>tb Z H1 λ y H2=>r x y H2 Q
def tUn(r:V->Hp->VK->Prop)(ta:TE):TE:=λ Z H Q=>ta Z H λ x H1=>r x H1 Q
def rI(C:Int->Int->Prop)(g:Int->Int->V):R2:=λ x y H Q=>∃i j,x= .int i/\y= .int j/\C i j/\Q (g i j) H
def rI0(g:Int->Int->V):R2:=λ x y H Q=>∃i j,x= .int i/\y= .int j/\Q (g i j) H
def rU(g:Int->V):V->Hp->VK->Prop:=λ x H Q=>∃i,x= .int i/\Q (g i) H
section
variable{X:Cx}{a b:Expr}{ta tb:TE}{pos:Pos}
def aIq(ha:PE X a ta)(hb:PE X b tb){hV:gV}{s:zAB}{Z:St}{H:Hp}{R:V->V->Hp->Prop}(I:Inv X hV Z H s)
  (h:ta Z H λ x H1=>tb Z H1 λ y H2=>R x y H2){Q:Value->zAB->Prop}{f:Value->Value->Sem Value}
  (hf:∀v u s2 x y H2,Inv X hV Z H2 s2->RelV x v->RelV y u->R x y H2->wpAny (model X.prog X.w) X.A (f v u) Q X.xe s2):
  wpAny (model X.prog X.w) X.A (eval a X.env) (λ v zS=>wpAny (model X.prog X.w) X.A (eval b X.env) (λ u zD=>wpAny (model X.prog X.w) X.A (f v u) Q X.xe zD) X.xe zS) X.xe s:=by
 refine thn (ha hV s Z H _ I h) λ v s1 ⟨x,H1,I1,r1,q1⟩=>?_
 refine thn (hb hV s1 Z H1 _ I1 q1) λ u s2 ⟨y,H2,I2,r2,q2⟩=>?_
 exact hf v u s2 x y H2 I2 r1 r2 q2
def aDk{op:Operator}{r:R2}(ho:OpR X (zB3 op) r)(ha:PE X a ta)(hb:PE X b tb):PE X (.BinOp a op b pos) (tOp r ta tb):=by
 intro hV s Z H Q I h;exact wpAny_BinOp (aIq ha hb I h λ v u s2 x y H2 I2 rx ry q=>ho hV s2 Z H2 x y v u Q I2 rx ry q)
def aJ1(ho:UnR X (unaryOp op) r)(ha:PE X a ta):PE X (.UnaryOp op a pos) (tUn r ta):=by
 intro hV s Z H Q I h;exact UnaryOp_ (thn (ha hV s Z H _ I h) λ v s1 ⟨x,H1,I1,r1,q1⟩=>ho hV s1 Z H1 x v Q I1 r1 q1)
def opI{f:Value->Value->Sem Value}{C:Int->Int->Prop}{g:Int->Int->Int}
  (rule:∀(i j:Int) (t u:Tok) (s:zAB) (Q:Value->zAB->Prop) (E:Value->zAB->Prop),C i j->Q (.int (g i j) s.toks) {s with toks:=s.toks+1}->wpAny (model X.prog X.w) X.A (f (.int i t) (.int j u)) Q E s):
  OpR X f (rI C λ i j=>.int (g i j)):=by
 intro hV s Z H x y v u Q I rx ry h;obtain⟨i,j,rfl,rfl,hc,q⟩:=h;obtain⟨t,rfl⟩:=rx;obtain⟨t',rfl⟩:=ry;exact rule i j t t' s _ _ hc ⟨.int (g i j),H,I.tok _,⟨_,rfl⟩,q⟩
def aFq{f:Value->Value->Sem Value}{g:Int->Int->Int}
  (rule:∀(i j:Int) (t u:Tok) (s:zAB) (Q:Value->zAB->Prop) (E:Value->zAB->Prop),Q (.int (g i j) s.toks) {s with toks:=s.toks+1}->wpAny (model X.prog X.w) X.A (f (.int i t) (.int j u)) Q E s):
  OpR X f (rI0 λ i j=>.int (g i j)):=by
 intro hV s Z H x y v u Q I rx ry h;obtain⟨i,j,rfl,rfl,q⟩:=h;obtain⟨t,rfl⟩:=rx;obtain⟨t',rfl⟩:=ry;exact rule i j t t' s _ _ ⟨.int (g i j),H,I.tok _,⟨_,rfl⟩,q⟩
def aFr{f:Value->Value->Sem Value}{g:Int->Int->Bool}
  (rule:∀(i j:Int) (t u:Tok) (s:zAB) (Q:Value->zAB->Prop) (E:Value->zAB->Prop),Q (.bool (g i j)) s->wpAny (model X.prog X.w) X.A (f (.int i t) (.int j u)) Q E s):
  OpR X f (rI0 λ i j=>.bl (g i j)):=by
 intro hV s Z H x y v u Q I rx ry h;obtain⟨i,j,rfl,rfl,q⟩:=h;obtain⟨t,rfl⟩:=rx;obtain⟨t',rfl⟩:=ry;exact rule i j t t' s _ _ ⟨.bl (g i j),H,I,rfl,q⟩
def aKB(i j:Int):Prop:=0<j/\j<1073741824
def aKA(i j:Int):Prop:=0<=j/\j<=1000000/\i.natAbs<2^64
def aGk(i j:Int):Prop:=(-(2^64)<i/\i<2^64)\/(-(2^64)<j/\j<2^64)
def aGk.ok(h:aGk i j):IntMulOk i j:=by
 rcases h with ⟨h1,h2⟩|⟨h1,h2⟩
 .exact .of_left (intBits_le_64 h1 h2)
 .exact .of_right (intBits_le_64 h1 h2)
def aAB(k:Nat):(0:Int)<=2^k:=by
 rw[two_pow_cast];exact zG9 _
def aIN:OpR X (zB3 .Add) (rI0 λ i j=>.int (i+j)):=aFq λ _ _ _ _ _ _ _ q=>add_int q
def aHx:OpR X (zB3 .Sub) (rI0 λ i j=>.int (i-j)):=aFq λ _ _ _ _ _ _ _ q=>sub_int q
def aID:OpR X (zB3 .Mult) (rI aGk λ i j=>.int (i*j)):=opI λ _ _ _ _ _ _ _ hc q=>mul_int q hc.ok
def aFm:OpR X (zB3 .FloorDiv) (rI aKB λ i j=>.int (i / j)):=opI λ i j _ _ _ _ _ hc q=>by
 have h1:(0:Int)<j:=hc.1;have h2:j<1073741824:=hc.2;exact floordiv_int (by lia) (by rw[zFQ i (by lia)];exact q) (.inl (PyProof.noPylong_small (by lia)))
def aIE:OpR X (zB3 .Mod) (rI (λ _ j=>0<j) λ i j=>.int (i%j)):=opI λ i j _ _ _ _ _ hc q=>by
 have h1:(0:Int)<j:=hc;exact mod_int' (by lia) (by rw[Int.fmod_eq_emod_of_nonneg i (by lia)];exact q)
def aIB:OpR X (zB3 .Pow) (rI aKA λ i j=>.int (i^j.toNat)):=opI λ _ _ _ _ _ _ _ hc q=>pow_int_small hc.1 hc.2.1 hc.2.2 q
def aHz:OpR X (zB3 .LShift) (rI aKA λ i j=>.int (i*2^j.toNat)):=opI λ _ _ _ _ _ _ _ hc q=>lshift_int_small hc.1 hc.2.1 hc.2.2 q
def aHy:OpR X (zB3 .RShift) (rI (λ _ j=>0<=j) λ i j=>.int (i / 2^j.toNat)):=opI λ i j _ _ _ _ _ hc q=>
 rshift_int hc (by rw[zFQ i (aAB _)];exact q)
def aIM:OpR X (zB3 .BitAnd) (rI0 λ i j=>.int (zBt i j)):=aFq λ _ _ _ _ _ _ _ q=>and_int q
def aJ4:OpR X (zB3 .BitOr) (rI0 λ i j=>.int (zEC i j)):=aFq λ _ _ _ _ _ _ _ q=>or_int q
def unI{f:Value->Sem Value}{g:Int->Int}
  (rule:∀(i:Int) (t:Tok) (s:zAB) (Q:Value->zAB->Prop) (E:Value->zAB->Prop),Q (.int (g i) s.toks) {s with toks:=s.toks+1}->wpAny (model X.prog X.w) X.A (f (.int i t)) Q E s):
  UnR X f (rU λ i=>.int (g i)):=by
 intro hV s Z H x v Q I rx h;obtain⟨i,rfl,q⟩:=h;obtain⟨t,rfl⟩:=rx;exact rule i t s _ _ ⟨.int (g i),H,I.tok _,⟨_,rfl⟩,q⟩
def aHM:UnR X (unaryOp .USub) (rU λ i=>.int (-i)):=unI λ _ _ _ _ _ q=>neg_int q
end
section
variable{X:Cx}{a b c:Expr}{ta tb tc:TE}{pos:Pos}
def aJ5:OpR X (zAm .Lt) (rI0 λ i j=>.bl (decide (i<j))):=aFr λ _ _ _ _ _ _ _ q=>lt_int q
def aJ6:OpR X (zAm .LtE) (rI0 λ i j=>.bl (decide (i<=j))):=aFr λ _ _ _ _ _ _ _ q=>le_int q
def aJ7:OpR X (zAm .Gt) (rI0 λ i j=>.bl (decide (j<i))):=aFr λ _ _ _ _ _ _ _ q=>gt_int q
def aJ8:OpR X (zAm .GtE) (rI0 λ i j=>.bl (decide (j<=i))):=aFr λ _ _ _ _ _ _ _ q=>ge_int q
def isObj:HO->Bool
 | .lst _=>true
 | .ins _ _ _=>true
 |_=>false
def aDv(b:Expr)(h:op≠.In:=by decide)(h2:op≠.NotIn:=by decide):zBb op b=false:=by
 have e1:(op==CmpOp.In)=false:=by cases op<;>first|rfl|exact absurd rfl h
 have e2:(op==zH7)=false:=by cases op<;>first|rfl|exact absurd rfl h2
 cases b<;>simp[zBb,e1,e2]
def aFf{op:CmpOp}{r:R2}(ho:OpR X (zAm op) r)(ha:PE X a ta)(hb:PE X b tb)(hm:zBb op b=false):PE X (.Compare a [op] [b] pos) (tOp r ta tb):=by
 intro hV s Z H Q I h;exact wpAny_Compare1 (aIq ha hb I h λ v u s2 x y H2 I2 rx ry q=>ho hV s2 Z H2 x y v u Q I2 rx ry q) hm
def aGn(t:TE):TT:=λ Z H Q=>t Z H λ x H'=>∃k,x= .bl k/\Q k H'
def aFa(ho:OpR X (zAm op) r)(ha:PE X a ta)(hb:PE X b tb)(hm:zBb op b=false):PT X (.Compare a [op] [b] pos) (aGn (tOp r ta tb)):=by
 intro hV s Z H Q I h;refine zHF (thn (ha hV s Z H _ I h) λ v s1 ⟨x,H1,I1,r1,q1⟩=>thn (hb hV s1 Z H1 _ I1 q1) λ u s2 ⟨y,H2,I2,r2,q2⟩=>
  thn (ho hV s2 Z H2 x y v u _ I2 r1 r2 q2) λ c s3 ⟨z,H3,I3,r3,k,e,q3⟩=>?_) hm
 subst e;cases r3;exact zBY ⟨H3,I3,q3⟩
def aCu(r r':R2)(ta tb tc:TE):TE:=λ Z H Q=>ta Z H λ x H1=>tb Z H1 λ y H2=>r x y H2 λ z H3=>∃k,z= .bl k/\
 (if k=true then tc Z H3 λ w' H4=>r' y w' H4 Q else Q (.bl false) H3)
def aDn(ho:OpR X (zAm op) r)(ho':OpR X (zAm op') r')(ha:PE X a ta)(hb:PE X b tb)(hc:PE X c tc)
  (hm:zHD [op,op'] [b,c]=false:=by with_unfolding_all rfl):PE X (.Compare a [op,op'] [b,c] pos) (aCu r r' ta tb tc):=by
 intro hV s Z H Q I h;refine Compare_chain (thn (ha hV s Z H _ I h) λ v s1 ⟨x,H1,I1,r1,q1⟩=>chain_link (thn (hb hV s1 Z H1 _ I1 q1) λ u s2 ⟨y,H2,I2,r2,q2⟩=>
  thn (ho hV s2 Z H2 x y v u _ I2 r1 r2 q2) λ d s3 ⟨z,H3,I3,r3,k,e,q3⟩=>?_)) hm
 subst e;cases r3;refine zBY ?_;cases k with
 |false=>exact ite_ff ⟨.bl false,H3,I3,rfl,q3⟩
 |true=>exact ite_tt (chain_last (thn (hc hV s3 Z H3 _ I3 q3) λ w' s4 ⟨z',H4,I4,r4,q4⟩=>ho' hV s4 Z H4 y z' u w' Q I4 r2 r4 q4))
def aIy(K:zAA)(x:V)(H:Hp)(k:Bool):Prop:=
 match x with
 | .non=>k=false
 | .bl b=>k=b
 | .int i=>k=(i !=0)
 | .str y=>y.length<=zAY/\k=((y.length:Int)!=0)
 | .byt y=>y.size<=zAY/\k=((y.size:Int)!=0)
 | .ref p=>(∃xs,SqL K H p xs/\k= !xs.isEmpty)\/(∃xs,SqT K H p xs/\k= !xs.isEmpty)\/∃kvs,H p=some (.dK kvs)/\k= !kvs.isEmpty
 |_=>False
def aAk(r:KV kvs vs):(!vs.isEmpty)= !kvs.isEmpty:=by
 cases r<;>rfl
def tY(r:Vals xs its):(!its.toArray.isEmpty)= !xs.isEmpty:=by
 cases r<;>simp
def pZ:(zAY:Nat)<2^63:=by rw[zDB];decide
def aHP:aKX X (λ x H Q=>∃k,aIy X.K x H k/\Q k H):=by
 intro hV s Z H x v Q I rx h;obtain⟨k,e,q⟩:=h;have hl:=pZ;have hs:zAY=16777216:=zDB;cases x with
 |non=>
  cases rx;have e':k=false:=e;subst e';exact truthy_none ⟨H,I,q⟩
 |bl b=>
  cases rx;have e':k=b:=e;subst e';exact zBY ⟨H,I,q⟩
 |int i=>
  obtain⟨t,rfl⟩:=rx;have e':k=(i !=0):=e;subst e';exact PySem.P.truthy_int ⟨H,I,q⟩
 |str y=>
  obtain⟨t,rfl⟩:=rx;obtain⟨hy,e'⟩:y.length<=zAY/\k=((y.length:Int)!=0):=e;subst e';exact PySem.P.truthy_str (by lia) ⟨H,I.tok _,q⟩
 |byt y=>
  obtain⟨t,rfl⟩:=rx;obtain⟨hy,e'⟩:y.size<=zAY/\k=((y.size:Int)!=0):=e;subst e';exact PySem.W.truthy_bytes (by lia) ⟨H,I.tok _,q⟩
 |ref p=>
  cases rx;have e':(∃xs,SqL X.K H p xs/\k= !xs.isEmpty)\/(∃xs,SqT X.K H p xs/\k= !xs.isEmpty)\/∃kvs,H p=some (.dK kvs)/\k= !kvs.isEmpty:=e
  rcases e' with ⟨xs,hx,e'⟩|⟨xs,hx,e'⟩|⟨kvs,hx,e'⟩
  .subst e'
   obtain⟨its,r,pl,hz⟩:=I.list hx;have hW:=r.length;exact wpAny_truthy_list pl.isList (by simp only[zAS];lia) ⟨H,I.tok _,by rw[tY r];exact q⟩
  .subst e'
   obtain⟨its,r,pl,hz⟩:=I.tuple hx;have hW:=r.length;exact truthy_tuple pl (by simp only[zAS];lia) ⟨H,I.tok _,by rw[tY r];exact q⟩
  .subst e'
   obtain⟨hz,hS,vs,r,m⟩:kvs.length<=zAY/\(p==zGM)=false/\∃vs,KV kvs vs/\s.heap.DictOf (xM X.prog X.w) p vs:=I.hok p _ hx
   have hW:kvs.length=vs.length:=zHI r;exact wpAny_truthy_dict hS m (by lia) ⟨H,I.tok _,by rw[aAk r];exact q⟩
 |_=>exact(show False from e).elim
def aDb(ha:PE X a ta)(he:∀whole,isTrue a X.env whole=(do let v <-whole;zG0 a.pos;zDQ [v] (truthy v))):
  PT X a (λ Z H Q=>ta Z H λ x H'=>∃k,aIy X.K x H' k/\Q k H'):=by
 intro hV s Z H Q I h;exact isTrue_plain (thn (ha hV s Z H _ I h) λ v s1 ⟨x,H1,I1,r1,q1⟩=>aHP hV s1 Z H1 x v Q I1 r1 q1) (he _)
def vals1(r:Vals [x] us):∃u,us=[u]/\RelV x u:=by
 cases r with
 |cons r1 r2=>cases r2;exact⟨_,rfl,r1⟩
def vals2(r:Vals [x,y] us):∃u w',us=[u,w']/\RelV x u/\RelV y w':=by
 cases r with
 |cons r1 r2=>
  cases r2 with
  |cons r3 r4=>cases r4;exact⟨_,_,rfl,r1,r3⟩
def aCg(hc:X.calm=true):dM X (.builtin "max") (λ xs H Q=>∃i j,xs=[.int i,.int j]/\Q (.int (if j>i then j else i)) H):=by
 intro hV s Z H xs us Q I r h;obtain⟨i,j,rfl,q⟩:=h;obtain⟨u,w',rfl,⟨t,rfl⟩,⟨t',rfl⟩⟩:=vals2 r;refine max_two_ints (I.ok.hd hc) λ h' tk k=>⟨_,H,I.kept k,?_,q⟩
 by_cases hj:j>i
 .rw[if_pos hj,if_pos hj];exact⟨_,rfl⟩
 .rw[if_neg hj,if_neg hj];exact⟨_,rfl⟩
def aCe(hc:X.calm=true):dM X (.builtin "min") (λ xs H Q=>∃i j,xs=[.int i,.int j]/\Q (.int (if j<i then j else i)) H):=by
 intro hV s Z H xs us Q I r h;obtain⟨i,j,rfl,q⟩:=h;obtain⟨u,w',rfl,⟨t,rfl⟩,⟨t',rfl⟩⟩:=vals2 r;refine min_two_ints (I.ok.hd hc) λ h' tk k=>⟨_,H,I.kept k,?_,q⟩
 by_cases hj:j<i
 .rw[if_pos hj,if_pos hj];exact⟨_,rfl⟩
 .rw[if_neg hj,if_neg hj];exact⟨_,rfl⟩
end
structure aGf(h:Heap)(x dx C:Addr)(mA:Str->Option Value):Prop where
 obj:h.get? x=some (zBo C dx)
 ns:h.Ns1 dx mA
 ne:dx≠x
def aCX{h:Heap}{dx:Addr}{mA:Str->Option Value}(n:h.Ns1 dx mA):∃od,h.get? dx=some od/\∀name,zDq name od=some (mA name):=by
 obtain⟨o,es,ep,ho,hd,hk,_,hm⟩:=n;refine⟨o,ho,λ name=>?_⟩;have e:=hm name;unfold nsFind findBy at e;rw[<-Array.find?_toList]at e;unfold zDq;rw[hd];dsimp only;split
 .rename_i y q
  rw[q]at e;exact congrArg some e
 .rename_i q
  rw[q]at e;have a:es.toList.any (·.refKey)=false:=by
   rw[List.any_eq_false];intro y hy;obtain⟨z,t,hkey⟩:=hk y (Array.mem_toList_iff.mp hy);simp[DictEntry.refKey,hkey]
  have a':¬es.toList.any (·.refKey)=true:=by rw[a];exact zAc
  rw[if_neg a'];exact congrArg some e
def aGf.look(I:aGf h x dx C mA):∃od,zGi h x (zBo C dx) C (some od)/\∀name,zDq name od=some (mA name):=
 let⟨od,ho,hl⟩:=aCX I.ns
 ⟨od,⟨I.obj,rfl,rfl,ho⟩,hl⟩
section
variable{prog:zAP}{w:World}{A:zAZ}{E:Value->zAB->Prop}{s:zAB}{K:zAA}{x dx C f:Addr}{mA:Str->Option Value}{name:Str}
def aEf(X:K.In s.heap)(I:aGf s.heap x dx C mA)(hg:zEZ K C name=true)
  (hf:zAw K (.ref C) name=some (some (.ref f)))(ht:zHJ K (.ref f)=true)(hv:mA name=none)(h:Q (.ref f,[.ref x]) s):
  wpAny (model prog w) A (getMethod (.ref x) name pl) Q E s:=by
 obtain⟨od,J,hl⟩:=I.look;exact PySem.W.method_fn X J (zFe hg).1 (zFe hg).2 hf (beq_iff_eq.mp ht) (by show(zDq name od).map (·.isSome)=some false;rw[hl,hv];rfl) h
def make_map(X:K.In s.heap)(hm:PySem.W.makesIn K C=true)
  (hi:zAw K (.ref C) "__init__"=some (some (.ref f)))(hf:PySem.W.typeIn K (.ref f)=some (.type "function"))
  (h:zCP (model prog w) (A.under (.builtin "type.__call__" ⟨.ref C::vs,kw⟩)) (.call (.ref f) ⟨.ref (s.heap.objs.size+1)::vs,kw⟩) (PySem.W.InitBack (s.heap.objs.size+1) R)
   {s with heap:=(s.heap.push zBP).push (zBo C s.heap.objs.size)}):
  zCP (model prog w) A (.call (.ref C) ⟨vs,kw⟩) R s:=by
 obtain⟨hh,g,d,t,os⟩:=s;exact PySem.W.make_core (PySem.W.makes_of X hm) (zCs X hi) (λ self=>PySem.W.bind_fn X self hf) (.inl rfl) h
end
def aCn.none_of(r:aCn none o):o=none:=by
 cases o with
 |none=>rfl
 |some u=>exact(show False from r).elim
section
variable{P:zAP}{w:World}{H:Hp}{h:Heap}{a C dx:Addr}{fs:List (Str×V)}
def rY(hok:HOk P w H h)(e:H a=some (.ins C dx fs)):∃mA,aGf h a dx C mA/\(∀f,aCn (fs.lookup f) (mA f))/\zHY mA (fs.map (·.1))/\fs.length<=1000/\H dx=some (.own a):=by
 obtain⟨d,z,ne,ob,mA,n,r,q⟩:=(show cZ P w H h a (.ins C dx fs)from hok a _ e);exact⟨mA,⟨ob,n,ne⟩,r,q,z,d⟩
end
structure Cls(K:zAA)(C:Addr):Prop where
 pg:zEZ K C Str.empty=true
 hd:PySem.W.hasDictIn K C=true
 po:PySem.W.plainOver K C=true
 sa:zAw K (.ref C) "__setattr__"=some (some (.builtin "object.__setattr__"))
def Cls.get{K:zAA}{C:Addr}(c:Cls K C)(f:Str):zEZ K C f=true:=c.pg
def aJD(K:zAA)(C:Addr)(f:Str):Prop:=zAw K (.ref C) f=some none
structure Meth(K:zAA)(C:Addr)(m:Str)(f:Addr):Prop where
 at_:zAw K (.ref C) m=some (some (.ref f))
 fn:zHJ K (.ref f)=true
 kp:zBR K (.ref f)=true
section
variable{X:Cx}{hV:gV}{Z:St}{H:Hp}{s:zAB}{a C dx:Addr}{fs:List (Str×V)}{A:zAZ}{E:Value->zAB->Prop}
def aAn(I:Inv X hV Z H s)(e:H a=some (.ins C dx fs))(c:Cls X.K C)(k:Meth X.K C m g)(l:fs.lookup m=none)
  (h:Q (.ref g,[.ref a]) s):wpAny (model X.prog X.w) A (getMethod (.ref a) m pl) Q E s:=by
 obtain⟨mA,O,r,_,_,_⟩:=rY I.hok e;have hn:mA m=none:=aCn.none_of (by rw[<-l];exact r m);exact aEf I.kIn O (c.get m) k.at_ k.fn hn h
def Inv.made(I:Inv X hV Z H s):Inv X hV Z (upd (upd H s.heap.objs.size (.own (s.heap.objs.size+1))) (s.heap.objs.size+1) (.ins C s.heap.objs.size []))
  {s with heap:=(s.heap.push zBP).push (zBo C s.heap.objs.size)}:=by
 have e1:(s.heap.push zBP).get? s.heap.objs.size=some zBP:=zAR s.heap rfl;have e2:((s.heap.push zBP).push (zBo C s.heap.objs.size)).get? (s.heap.objs.size+1)=some (zBo C s.heap.objs.size):=by
  have:=zAR (s.heap.push zBP) (o:=zBo C s.heap.objs.size) rfl
  rwa [zB5]at this
 have e3:(s.heap.push zBP).Ns s.heap.objs.size (λ _=>none):=⟨zBP,#[],_,e1,rfl,(λ e he=>absurd he (by simp)),λ _=>rfl⟩;have I1:=I.laid (a:=s.heap.objs.size) (o:=.own (s.heap.objs.size+1)) (h':=s.heap.push zBP) (t':=s.toks) (λ b u q=>zAH _ q) (zAW _) ⟨_,e1⟩;refine I1.laid (a:=s.heap.objs.size+1) (o:=.ins C s.heap.objs.size []) (t':=s.toks) (λ b u q=>zAH _ q) (zFv (zB5 _ _)) ?_;have ne:s.heap.objs.size≠s.heap.objs.size+1:=zA1 (zC4 _);refine⟨by rw[aX ne,bA],zAg _,ne,e2,λ _=>none,(Heap.Ns1.of_empty e3).at λ o q=>zAH _ q,λ _=>zD7,λ y hy=>absurd rfl hy⟩
end
def tFld(K:zAA)(ta:TE)(f:Str):TE:=λ Z H Q=>ta Z H λ x H1=>∃a C dx fs v,x= .ref a/\H1 a=some (.ins C dx fs)/\Cls K C/\aJD K C f/\fs.lookup f=some v/\Q v H1
section
variable{X:Cx}{e:Expr}{f:Str}{pos:Pos}
def methcall_of(he:PE X e te)(I:Inv X hV Z H s)
  (h:te Z H λ x H1=>∃a C dx fs g,x= .ref a/\H1 a=some (.ins C dx fs)/\Cls X.K C/\Meth X.K C m g/\fs.lookup m=none/\
   ∀s1,Inv X hV Z H1 s1->wpAny (model X.prog X.w) X.A (callWith pos (.ref g) [.ref a] (zCY pos (zAT args X.env)) (zF9 pos (zDy [] X.env))) Q X.xe s1)
  (ht:eval (.Call (.Attribute e m apos) args [] pos) X.env=(do
   let ov <-eval e X.env
   zG0 apos.atName
   let(f,first) <-zDQ [ov] (getMethod ov m pl)
   callWith pos f first (zCY pos (zAT args X.env)) (zF9 pos (zDy [] X.env)))):
  wpAny (model X.prog X.w) X.A (eval (.Call (.Attribute e m apos) args [] pos) X.env) Q X.xe s:=by
 refine PySem.W.methodCall_KW (pl:=pl) (thn (he hV s Z H _ I h) λ u s1 ⟨x,H1,I1,rx,a,C,dx,fs,g,ex,ea,c,k,l,q⟩=>?_) ht;subst ex;obtain rfl:u=zB0 a:=rx;exact aAn I1 ea c k l (q s1 I1)
end
section
variable{X:Cx}{hV:gV}{Z:St}{H:Hp}{s:zAB}{A:zAZ}{E:Value->zAB->Prop}{Q:Value->zAB->Prop}{c:Value}{b:Bool}
inductive qK(K:zAA)(H:Hp):V->Value->Prop where
 |non:qK K H .non (.type "NoneType")
 |bl (x:Bool):qK K H (.bl x) (.type "bool")
 |int (i:Int):qK K H (.int i) (.type "int")
 |str (x:Str):qK K H (.str x) (.type "str")
 |flt (x:UInt64):qK K H (.flt x) (.type "float")
 |lst {a:Addr} {xs:List V} (e:H a=some (.lst xs)):qK K H (.ref a) (.type "list")
 |frz {a:Addr} {o:Obj} {xs:List V} (e:H a=some (.frz o (.lst xs))):qK K H (.ref a) (.type "list")
 |tup {a:Addr} {xs:List V} (e:H a=some (.tup xs)):qK K H (.ref a) (.type "tuple")
 |dK {a:Addr} {kvs:List (Key×V)} (e:H a=some (.dK kvs)):qK K H (.ref a) (.type "dict")
 |dT {a:Addr} {kvs:List (List Key×V)} (e:H a=some (.dT kvs)):qK K H (.ref a) (.type "dict")
 |ins {a C dx:Addr} {fs:List (Str×V)} (e:H a=some (.ins C dx fs)) (cl:Cls K C) (ha:zAw K (.ref C) "__class__"=some (some (.builtin "object.__class__")))
   (hn:PySem.W.specialIn K (.builtin "object.__class__") "__get__"=some (some (.builtin "getset_descriptor.__get__"))) (htk:PySem.W.takesIn K (.builtin "object.__class__")=some true)
   (hm:PySem.W.mroIn K C (.type "object")=some true):qK K H (.ref a) (.ref C)
def aC4(I:Inv X hV Z H s)(rx:RelV x u)(ty:qK X.K H x t)(e:zB2 X.K t c=some b)(h:∀tk,Q (.bool b) {s with toks:=tk}):
  wpAny (model X.prog X.w) A (call (.builtin "isinstance") [u,c]) Q E s:=by
 cases ty with
 |non=>cases (show u=zE0 from rx);exact zAu PySem.W.kitx_none I.kIn zD7 e (λ z=>nomatch z) h
 |bl y=>cases (show u=zBp y from rx);exact zAu PySem.W.kitx_bool I.kIn zD7 e (λ z=>nomatch z) h
 |int i=>obtain⟨t,q⟩:=(show∃t,u=zBq i t from rx);cases q;exact zAu PySem.W.kitx_int I.kIn zD7 e (λ z=>nomatch z) h
 |str y=>obtain⟨t,q⟩:=(show∃t,u=zGz y t from rx);cases q;exact zAu PySem.W.kitx_str I.kIn zD7 e (λ z=>nomatch z) h
 |flt y=>obtain⟨t,q⟩:=(show∃t,u=zHg y t from rx);cases q;exact zAu PySem.W.kitx_float I.kIn zD7 e (λ z=>nomatch z) h
 |@lst a xs ea=>
  cases (show u=zB0 a from rx);obtain⟨_,_,n,_,h1⟩:=(show cZ X.prog X.w H s.heap a (.lst xs)from I.hok a _ ea);exact zAu zFy I.kIn ⟨_,h1,rfl⟩ e (λ z=>nomatch z) h
 |@frz a ob xs ea=>
  cases (show u=zB0 a from rx);obtain⟨_,_,_,n,_,h1⟩:=(show cZ X.prog X.w H s.heap a (.frz ob (.lst xs))from I.hok a _ ea);exact zAu zFy I.kIn ⟨_,h1,rfl⟩ e (λ z=>nomatch z) h
 |@tup a xs ea=>
  cases (show u=zB0 a from rx);obtain⟨_,_,_,p⟩:=(show cZ X.prog X.w H s.heap a (.tup xs)from I.hok a _ ea);obtain⟨o,h1,h2,_⟩:=p;exact zAu zFn I.kIn ⟨o,h1,h2⟩ e (λ z=>nomatch z) h
 |@dK a kvs ea=>
  cases (show u=zB0 a from rx);obtain⟨_,_,vs,_,p⟩:=(show cZ X.prog X.w H s.heap a (.dK kvs)from I.hok a _ ea);obtain⟨o,es,ep,h1,h2,_⟩:=p;exact zAu zEM I.kIn ⟨o,h1,h2.1⟩ e (λ z=>nomatch z) h
 |@dT a kvs ea=>
  cases (show u=zB0 a from rx);obtain⟨_,_,xs,_,o,es,ep,h1,h2,_⟩:=(show cZ X.prog X.w H s.heap a (.dT kvs)from I.hok a _ ea);exact zAu zEM I.kIn ⟨o,h1,h2.1⟩ e (λ z=>nomatch z) h
 |@ins a C dx fs ea cl ha hn htk hm=>
  cases (show u=zB0 a from rx);obtain⟨mA,O,_⟩:=rY I.hok ea;obtain⟨od,J,_⟩:=O.look;exact zAu (PySem.W.kitx_own (cl.get _) cl.hd ha hn htk hm) I.kIn J e (λ z=>nomatch z) h
end
structure dJ(k:Nat)(A:zAZ):Prop where
 hd:A.handled=none
 dp:A.depth+3*k+5<zE6
 un:A.units+16*k+200<cLine
def dJ.mono(r:dJ k A)(h:j<=k):dJ j A:=⟨r.hd,by have:=r.dp;lia,by have:=r.un;lia⟩
theorem dJ.deeper(r:dJ (k+1) A)(env:Env):dJ k (A.deeper env):=
 ⟨r.hd,by have:=r.dp;show A.depth+1+3*k+5<_;lia,by have:=r.un;show A.units+3+16*k+200<_;lia⟩
theorem dJ.depth(r:dJ k A):A.depth<zE6:=by have:=r.dp;lia
theorem dJ.units(r:dJ k A):A.units+64<cLine:=by have:=r.un;lia
def dJ.units0(r:dJ k A):A.units<cLine:=by have:=r.un;lia
def oG:TA:=λ _ H Q=>Q [] H
def gw(ta:TE)(tr:TA):TA:=λ Z H Q=>ta Z H λ x H1=>tr Z H1 λ xs H2=>Q (x::xs) H2
section
variable{X:Cx}{e:Expr}{es:List Expr}{te:TE}{t:TA}{pos:Pos}
def cM:PA X [] oG:=λ _ _ _ _ H Q I h=>Calls.spliced_nil ⟨[],H,I,.nil,h⟩
def aW(ha:PE X e te)(hr:PA X es t)(hs:zAT (e::es) X.env=(false,eval e X.env)::zAT es X.env:=by rfl):PA X (e::es) (gw te t):=by
 intro pos hV s Z H Q I h;rw[hs];show wpAny _ _ (spliced ((false,eval e X.env)::zCY pos (zAT es X.env))) _ _ s;refine Calls.spliced_cons (thn (ha hV s Z H _ I h) λ u s1 ⟨x,H1,I1,r1,q1⟩=>?_);exact thn (hr pos hV s1 Z H1 _ I1 q1) λ us s2 ⟨xs,H2,I2,r2,q2⟩=>⟨x::xs,H2,I2,.cons r1 r2,q2⟩
def aKE(t:TA):TE:=λ Z H Q=>t Z H λ xs H1=>xs.length<=zAY/\∀p,H1 p=none->Q (.ref p) (upd H1 p (.tup xs))
def aKI(t:TA):TE:=λ Z H Q=>t Z H λ xs H1=>xs.length<=zAY/\∀p,H1 p=none->Q (.ref p) (upd H1 p (.lst xs))
def aHi{x1}(h:PA X es t):PE X (.Tuple es x1 pos) (aKE t):=by
 intro hV s Z H Q I hq;refine wpAny_Tuple_spliced (thn (h pos hV s Z H _ I hq) λ us s1 ⟨xs,H1,I1,r,z,q⟩=>⟨by rw[<-r.length];exact z,?_⟩);have hf:H1 s1.heap.objs.size=none:=I1.hok.fresh (zAW _);refine⟨.ref s1.heap.objs.size,upd H1 s1.heap.objs.size (.tup xs),I1.laid (t':=s1.toks) (λ b u e=>zAH _ e) (zAW _) ?_,rfl,q _ hf⟩;exact⟨⟨z,NoD.push _⟩,us,r,⟨_,zAR _ rfl,rfl,_,rfl⟩⟩
def aHl(h:PA X es t):PE X (.List es pos) (aKI t):=by
 intro hV s Z H Q I hq;refine wpAny_List_spliced (thn (h pos hV s Z H _ I hq) λ us s1 ⟨xs,H1,I1,r,z,q⟩=>⟨by rw[<-r.length];exact z,?_⟩);have hf:H1 s1.heap.objs.size=none:=I1.hok.fresh (zAW _);refine⟨.ref s1.heap.objs.size,upd H1 s1.heap.objs.size (.lst xs),I1.laid (t':=s1.toks) (λ b u e=>zAH _ e) (zAW _) ?_,rfl,q _ hf⟩;exact⟨z,us,0,r,zAR _ rfl⟩
end
abbrev Sp:=List V->Hp->VK->XK->Prop
abbrev CXT:=List Env->Hp->zAB->XK->Value->zAB->Prop
structure zz(P:zAP)(w:World)(K:zAA)(mg:Str->Option Value)(base:Heap)(A:zAZ)(outer:List Env)(s:zAB)(H:Hp):Prop where
 frames:A.frames=some outer
 mod:Mod K mg base
 bs:∀b o,base.get? b=some o->s.heap.get? b=some o/\H b=none
 bsz:base.objs.size<=s.heap.objs.size
 funs:s.heap.FunFrames base outer
 frf:∀b∈frs outer,H b=none
 hok:HOk P w H s.heap
 bare:zEK s.gens
def CE(outer:List Env)(P:zAP)(w:World)(H:Hp)(s:zAB)(Q:VK)(u:Value)(s':zAB):Prop:=
 ∃v H',s'.os=s.os/\zEK s'.gens/\Un (frs outer) [] H H' s.heap s'.heap/\HOk P w H' s'.heap/\RelV v u/\Q v H'
def CR(CX:CXT)(outer:List Env)(P:zAP)(w:World)(H:Hp)(s:zAB)(Q:VK)(E:XK)(r:zE4)(s':zAB):Prop:=
 match r with
 | .ok (.ret u)=>CE outer P w H s Q u s'
 | .ok _=>False
 | .error e=>CX outer H s E e s'
structure cV(P:zAP)(w:World)(K:zAA)(mg:Str->Option Value)(base:Heap)(CX:CXT)(k:Nat)(f:Addr)(fd:zAe)(ps:List Str)(sp:Sp):Prop where
 len:∀vs H Q E,sp vs H Q E->vs.length=ps.length
 run:∀(A:zAZ) (outer:List Env) (s:zAB) (H:Hp) (args:Args) (us:List Value) (vs:List V) (Q:VK) (E:XK),dJ k A->zz P w K mg base A outer s H->zGP s fd args (ps.zip us)->Vals vs us->sp vs H Q E->
  zCP (model P w) A (.call (.ref f) args) (CR CX outer P w H s Q E) s
section
variable{X:Cx}{hV:gV}{Z:St}{H:Hp}{s s':zAB}
def Inv.env0(I:Inv X hV Z H s):zz X.prog X.w X.K X.mg X.base X.A X.stack s H:=
 ⟨I.ok.frames,I.ok.mod,I.bs,zAd I.ok.bsz I.sz,I.stack,I.stkFree,I.hok,I.bare⟩
def Inv.after(I:Inv X hV Z H s)(h:CE X.stack X.prog X.w H s Q u s'):EP X hV Z Q u s':=by
 obtain⟨v,H',os,bare,un,hok,r,q⟩:=h;obtain⟨hh,g,d,t,os'⟩:=s';obtain rfl:os'=s.os:=os;exact⟨v,H',I.call (h':=hh) (g':=g) (d':=d) (t':=t) (ch:=[]) un hok bare (λ b z=>absurd z (by simp)),r,q⟩
end
def yK(sp:Sp)(dvs:List V)(E:XK)(t:TA):TE:=λ Z H Q=>t Z H λ vs H1=>sp (vs++dvs) H1 Q E
def tMeth(C:Addr)(m:Str)(sp:Sp)(dvs:List V)(E:XK)(ta:TE)(t:TA):TE:=λ Z H Q=>ta Z H λ x H1=>∃a dx fs,x= .ref a/\H1 a=some (.ins C dx fs)/\fs.lookup m=none/\
 t Z H1 λ vs H2=>sp (x::(vs++dvs)) H2 Q E
def tMake(C:Addr)(sp:Sp)(dvs:List V)(E:XK)(t:TA):TE:=λ Z H Q=>t Z H λ vs H1=>∀x dx,H1 x=none->H1 dx=none->dx≠x->
 sp (.ref x::(vs++dvs)) (upd (upd H1 dx (.own x)) x (.ins C dx [])) (λ v H2=>v= .non/\Q (.ref x) H2) E
def Binds(K:zAA)(fd:zAe)(ps:List Str)(ds:List Value):Prop:=
 ∀(s:zAB) (us:List Value),K.In s.heap->(us++ds).length=ps.length->zGP s fd ⟨us,[]⟩ (ps.zip (us++ds))
def Binds.all{K:zAA}{fd:zAe}{ps:List Str}(h:∀us:List Value,us.length=ps.length->zHZ fd ⟨us,[]⟩=pure (ps.zip us)):Binds K fd ps []:=λ s us _ hl=>by
 rw[zBF]at hl ⊢;exact .of_eq (h us hl)
def ni(CX:CXT)(X:Cx)(E:XK):Prop:=∀(hV:gV) (Z:St) (H:Hp) (s:zAB) (e:Value) (s':zAB),Inv X hV Z H s->CX X.stack H s E e s'->X.xe e s'
section
variable{X:Cx}{CX:CXT}{k:Nat}{f:Addr}{fd:zAe}{ps:List Str}{sp:Sp}{dvs:List V}{ds:List Value}{E:XK}{x:Str}{p pos:Pos}{e:Expr}{es:List Expr}{t:TA}
def aDT(F:cV X.prog X.w X.K X.mg X.base CX k f fd ps sp)(hr:dJ k X.A)(hb:Binds X.K fd ps ds)(hd:Vals dvs ds)(hx:ni CX X E)
  (I:Inv X hV Z H s)(r:Vals vs us)(h:sp (vs++dvs) H Q E):wpAny (model X.prog X.w) X.A (call (.ref f) us) (EP X hV Z Q) X.xe s:=by
 have r2:Vals (vs++dvs) (us++ds):=r.append hd;have hl:(us++ds).length=ps.length:=by rw[<-r2.length];exact F.len _ _ _ _ h
 refine zFN (zDH (F.run X.A X.stack s H ⟨us,[]⟩ (us++ds) (vs++dvs) Q E hr I.env0 (hb s us I.kIn hl) r2 h) λ r s' hq=>?_);cases r with
 |error e=>exact hx hV Z H s e s' I hq
 |ok fl=>
  cases fl with
  |ret u=>exact I.after hq
  |next=>exact zAJ hq
  |brk=>exact zAJ hq
  |cont=>exact zAJ hq
def aFg(F:cV X.prog X.w X.K X.mg X.base CX k f fd ps sp)(hr:dJ k X.A)(hg:Gl X x)(hm:X.mg x=some (.ref f))(hk:zBR X.K (.ref f)=true)(hb:Binds X.K fd ps ds)(hd:Vals dvs ds)(hx:ni CX X E)
  (ha:PA X (e::es) t)(hdb:Nd x:=by decide)(he:zAT (e::es) X.env=(false,eval e X.env)::zAT es X.env:=by rfl)(hpl:(zCY pos (zAT es X.env)).any (·.1)=false:=by rfl):
  PE X (.Call (.Name x p) (e::es) [] pos) (yK sp dvs E t):=by
 intro hV s Z H Q I h;refine zCS (mD I hg hm ?_ hdb);refine zEF (h₀:=X.base) I.ok.mod.kin hk (thn (ha pos hV s Z H _ I h) λ us s1 ⟨vs,H1,I1,r,q⟩=>⟨I1.kIn,?_⟩) he hpl;exact aDT F hr hb hd hx I1 r q
end
structure aY(N P:List Str)(sc:Scope):Prop where
 kind:sc.kind= .function
 co:sc.isCoroutine=false
 gen:sc.isGenerator=false
 nd:N.Nodup
 pre:N.take P.length=P
 par:∀x∈P,sc.names.lookup x=some .local\/sc.names.lookup x=some .cell
 nofree:∀y∈sc.names,y.2≠.free
theorem v5{zCy:Str->Option zDU}{x:Str}:∀{binds:List (Str×Value)} {m:Str->Option Value},(∀v,(x,v)∉binds)->bindL zCy binds m x=m x
 |[],_,_=>rfl
 |(n,v)::r,m,h=>by
  unfold bindL;rw[v5 λ w hw=>h w (zAK _ hw)];split
  .have:x≠n:=by rintro rfl;exact h v zAI
   simp[this]
  .rfl
theorem v7{zCy:Str->Option zDU}{x:Str}:∀{binds:List (Str×Value)} {m:Str->Option Value},(∀v,(x,v)∉binds)->bindC zCy binds m x=m x
 |[],_,_=>rfl
 |(n,v)::r,m,h=>by
  unfold bindC;rw[v7 λ w hw=>h w (zAK _ hw)];split
  .rfl
  .have:x≠n:=by rintro rfl;exact h v zAI
   simp[this]
theorem v6{zCy:Str->Option zDU}{x:Str}{v:Value}:∀{P:List Str} {vs:List Value} {i:Nat} {m:Str->Option Value},P.Nodup->P[i]? =some x->vs[i]? =some v->zCy x=some .local->
  bindL zCy (P.zip vs) m x=some v
 |[],_,_,_,_,h,_,_=>by simp at h
 |_::_,[],_,_,_,_,h,_=>by simp at h
 |p::P,w::vs,0,m,nd,h1,h2,hk=>by
  simp at h1 h2;subst h1;subst h2;show bindL zCy ((p,w)::P.zip vs) m p=_;unfold bindL;rw[v5 λ v hv=>(zAl.mp nd).1 (zDL hv).1,if_pos hk];simp
 |p::P,w::vs,i+1,m,nd,h1,h2,hk=>by
  show bindL zCy ((p,w)::P.zip vs) m x=_;unfold bindL;exact v6 (i:=i) (zAl.mp nd).2 (by simpa using h1) (by simpa using h2) hk
theorem v8{zCy:Str->Option zDU}{x:Str}{v:Value}:∀{P:List Str} {vs:List Value} {i:Nat} {m:Str->Option Value},P.Nodup->P[i]? =some x->vs[i]? =some v->zCy x≠some .local->
  bindC zCy (P.zip vs) m x=some v
 |[],_,_,_,_,h,_,_=>by simp at h
 |_::_,[],_,_,_,_,h,_=>by simp at h
 |p::P,w::vs,0,m,nd,h1,h2,hk=>by
  simp at h1 h2;subst h1;subst h2;show bindC zCy ((p,w)::P.zip vs) m p=_;unfold bindC;rw[v7 λ v hv=>(zAl.mp nd).1 (zDL hv).1,if_neg hk];simp
 |p::P,w::vs,i+1,m,nd,h1,h2,hk=>by
  show bindC zCy ((p,w)::P.zip vs) m x=_;unfold bindC;exact v8 (i:=i) (zAl.mp nd).2 (by simpa using h1) (by simpa using h2) hk
def start(N:List Str)(vs:List V):St:=vs.map some++zAQ (N.length-vs.length) none
def rB(CX:CXT)(P:zAP)(w:World)(K:zAA)(mg:Str->Option Value)(base:Heap)(N:List Str)(qual:Str)(scope:Scope)(f:Addr)(cd:Value)(A:zAZ)(outer:List Env)(s:zAB)(H:Hp)(E:XK):Cx where
 prog:=P
 w:=w
 K:=K
 mg:=mg
 base:=base
 A:=A.deeper (zC9 qual scope s.heap.objs.size f cd)
 N:=N
 z5:=s
 zI:=H
 env:=zC9 qual scope s.heap.objs.size f cd
 outer:=outer
 stack:=zC9 qual scope s.heap.objs.size f cd::outer
 ex:=[]
 calm:=true
 fn:=λ _=>true
 pn:=[]
 xe:=λ e s'=>wpAny (model P w) (A.deeper (zC9 qual scope s.heap.objs.size f cd)) (leaving (zC9 qual scope s.heap.objs.size f cd) e) (λ _ s''=>CX outer H s E e s'') (λ e' s''=>CX outer H s E e' s'') s'
def o6{sc:Scope}{n:Nat}{x:Str}(h:sc.names.lookup x=some .cell):∃c,(zC8 n sc.names []).lookup x=some c:=by
 have q:=zCc sc.names n [] (.inl h);exact zFB.mp q
def qD{CX:CXT}{P:zAP}{w:World}{K:zAA}{mg:Str->Option Value}{base:Heap}{N ps:List Str}{qual:Str}{scope:Scope}{f:Addr}{cd:Value}{A:zAZ}{outer:List Env}{s s1:zAB}{H:Hp}{E:XK}{us:List Value}{vs:List V}
  (S:aY N ps scope)(hd:A.handled=none)(e0:zz P w K mg base A outer s H)(hl:vs.length=ps.length)(r:Vals vs us)
  (x:InCallC s s.heap.objs.size (bindL (zC9 qual scope s.heap.objs.size f cd).kindOf (ps.zip us) λ _=>none) (zC8 (s.heap.objs.size+1) scope.names []) (bindC (zC9 qual scope s.heap.objs.size f cd).kindOf (ps.zip us) λ _=>none) s1):
  Inv (rB CX P w K mg base N qual scope f cd A outer s H E) [] (start N vs) H s1:=by
 have hpl:ps.length<=N.length:=by have:=congrArg zGG S.pre;rw[zCu]at this;lia
 obtain⟨h1,tk,rfl,hk⟩:=x.done;have noA:∀b:Addr,b∉(rB CX P w K mg base N qual scope f cd A outer s H E).ex:=λ b z=>absurd (show b∈([]:List Addr)from z) (by simp)
 refine⟨⟨e0.mod,S.kind,rfl,rfl,zAW _,λ y z c h1 h2=>?_,λ y hy=>?_,λ y c _ h=>?_,λ _=>hd,zFb e0.frames,.inr ⟨rfl,rfl⟩,λ b z=>absurd z (noA b),e0.bs,e0.bsz,λ b _ _=>noA b,λ b z=>absurd z (noA b),e0.funs,e0.frf⟩,
  rfl,e0.bare,Un.kept hk,⟨_,x.toInCall.ns,λ i y v h1 h2 h3=>?_⟩,λ y c h=>⟨_,x.cell y c h⟩,e0.hok.fresh (zAW _),λ y c h=>?_,λ p hp=>absurd (show p∈([]:gV)from hp) (by simp),e0.hok.kept hk,?_,λ p hp=>absurd (show p∈([]:gV)from hp) (by simp)⟩
 .exact name_of_addr x.apart (zA9 h1) (zA9 h2)
 .have hy:scope.names.lookup y=some .cell\/scope.names.lookup y=some .free:=hy
  rcases hy with hy|hy
  .exact o6 hy
  .exact absurd rfl (S.nofree _ (zA9 hy))
 .exact zB7 (x.above y c (zA9 h))
 .have hi:i<vs.length:=by
   unfold start at h2;by_cases hi:i<vs.length
   .exact hi
   .rw[zCT (by simpa using hi)]at h2
    rw[zCb]at h2;split at h2<;>cases h2
  have ha:vs[i]? =some v:=by
   unfold start at h2;rw[zBG (by simpa using hi),zAL]at h2;cases e:vs[i]? with
   |none=>rw[e]at h2;cases h2
   |some a=>rw[e]at h2;cases h2;rfl
  obtain⟨u,hu,rv⟩:=r.get ha;have hp:ps[i]? =some y:=by
   rw[<-S.pre,List.getElem?_take_of_lt (by lia)];exact h1
  have ndP:ps.Nodup:=by rw[<-S.pre];exact S.nd.sublist (List.take_sublist _ _)
  refine⟨u,rv,?_⟩;rcases S.par y (zAq hp)with k|k
  .exact .inl ⟨k,v6 ndP hp hu k⟩
  .obtain⟨c,e⟩:=o6 (n:=s.heap.objs.size+1) k
   refine .inr ⟨.inl k,c,e,?_⟩;have q:=x.cell y c e;rw[v8 ndP hp hu (by show scope.names.lookup y≠_;rw[k];decide)]at q;exact q
 .exact e0.hok.fresh (zB7 (x.above y c (zA9 h)))
 .unfold start
  show _=N.length;rw[zAs,zAF,zCK];lia
def aJo{CX:CXT}{P:zAP}{w:World}{K:zAA}{mg:Str->Option Value}{base:Heap}{k:Nat}{f:Addr}{name qual:Str}{params:zCn}{body:List Stmt}{scope:Scope}{dV kV doc pm cdv ct oc:Value}{an od:Option Addr}
  {osl:Array (Option Value)}{N ps:List Str}{sp:Sp}(lk:K.lookup f=some ⟨oc,od,.func (zBU name qual params body scope dV kV doc pm an cdv ct),osl⟩)(hcd:zCh K cdv qual=true)(S:aY N ps scope)
  (len:∀vs H Q E,sp vs H Q E->vs.length=ps.length)
  (hbody:∀(A:zAZ) (outer:List Env) (s:zAB) (H:Hp) (vs:List V) (Q:VK) (E:XK),dJ k (A.deeper (zC9 qual scope s.heap.objs.size f cdv))->sp vs H Q E->
   ∃t,PSs (rB CX P w K mg base N qual scope f cdv A outer s H E) body t/\t {nx:=λ _ H'=>Q .non H',rt:=Q} (start N vs) H):
  cV P w K mg base CX (k+1) f (zBU name qual params body scope dV kV doc pm an cdv ct) ps sp:=by
 refine⟨len,λ A outer s H args us vs Q E hr e0 hb r hsp=>?_⟩;have hl:=len _ _ _ _ hsp;have KX:K.In s.heap:=e0.mod.kin.keeps λ b o e=>(e0.bs b o e).1
 have lim:s.heap.NoLimit:=e0.mod.nolimit.keeps λ b o e=>(e0.bs b o e).1
 have bP:∀y∈ps.zip us,scope.names.lookup y.1=some .local\/(scope.names.lookup y.1=some .cell/\((zC8 (s.heap.objs.size+1) scope.names []).lookup y.1).isSome=true):=λ⟨n,v⟩ hy=>by
  rcases S.par n (zDL hy).1 with q|q
  .exact .inl q
  .exact .inr ⟨q,zCc _ _ _ (.inl q)⟩
 refine zEP hr.depth (KX _ _ lk) rfl S.co S.gen rfl (zEG KX hcd) (hb _ _ _ _ ?_);refine zDb S.kind bP λ env he s1 x=>?_
 subst he;refine⟨lim.keeps x.toInCall.keep,zHB ?_⟩;obtain⟨t,ht,hq⟩:=hbody A outer s H vs Q E (hr.deeper _) hsp;have I:Inv (rB CX P w K mg base N qual scope f cdv A outer s H E) [] (start N vs) H s1:=qD S hr.hd e0 hl r x;refine zB4 (ht [] s1 (start N vs) H _ I hq) (λ fl s' hs=>?_) λ e s' hs=>hs
 have fin:∀{Z':St} {H':Hp} {v:V} {u:Value},Inv (rB CX P w K mg base N qual scope f cdv A outer s H E) [] Z' H' s'->RelV v u->Q v H'->CE outer P w H s Q u s':=
  λ{Z' H' v u} J rv q=>⟨v,H',J.os,J.bare,J.base,J.hok,rv,q⟩
 cases fl with
 |ret u=>
  obtain⟨v,Z',H',J,rv,q⟩:=hs;exact fin J rv q
 |next=>
  obtain⟨Z',H',J,q⟩:=hs;exact fin (v:=V.non) (u:=zE0) J rfl q
 |brk=>
  obtain⟨_,_,_,q⟩:=hs;exact zAJ q
 |cont=>
  obtain⟨_,_,_,q⟩:=hs;exact zAJ q
section
variable{X:Cx}{x:Str}{p pos:Pos}{e:Expr}{es:List Expr}{t:TA}{id T:String}{r:List V->Hp->VK->Prop}
def tCB(r:List V->Hp->VK->Prop)(t:TA):TE:=λ Z H Q=>t Z H λ vs H1=>r vs H1 Q
def oR(hc:dM X (.builtin id) r)(hg:Gl X x)(hm:X.mg x=none)(hv:zAr x=some (.builtin id))(ha:PA X (e::es) t)(hn:x≠"__name__":=by decide)(hdb:Nd x:=by decide)
  (he:zAT (e::es) X.env=(false,eval e X.env)::zAT es X.env:=by rfl)(hpl:(zCY pos (zAT es X.env)).any (·.1)=false:=by rfl):PE X (.Call (.Name x p) (e::es) [] pos) (tCB r t):=by
 intro hV s Z H Q I h;refine zCS (tW I hg hm hv ?_ hn hdb);exact PyProof.Rows.callWith_builtin1 (thn (ha pos hV s Z H _ I h) λ us s1 ⟨vs,H1,I1,r1,q1⟩=>hc hV s1 Z H1 vs us Q I1 r1 q1) he hpl
def lw(hc:dM X (.type T) r)(hg:Gl X x)(hm:X.mg x=none)(hv:zAr x=some (.type T))(ha:PA X (e::es) t)(hn:x≠"__name__":=by decide)(hdb:Nd x:=by decide)
  (he:zAT (e::es) X.env=(false,eval e X.env)::zAT es X.env:=by rfl)(hpl:(zCY pos (zAT es X.env)).any (·.1)=false:=by rfl):PE X (.Call (.Name x p) (e::es) [] pos) (tCB r t):=by
 intro hV s Z H Q I h;refine zCS (tW I hg hm hv ?_ hn hdb);exact zCm (thn (ha pos hV s Z H _ I h) λ us s1 ⟨vs,H1,I1,r1,q1⟩=>hc hV s1 Z H1 vs us Q I1 r1 q1) he hpl
end
end L2
namespace HT
open PySem PyProof.Rows
def lexLt:List Int->List Int->Bool
 |[],[]=>false
 |[],_::_=>true
 |_::_,[]=>false
 |x::xs,y::ys=>if x=y then lexLt xs ys else decide (x<y)
def aA9(x y:Int)(xs ys:List Int):lexLt (x::xs) (y::ys)=if x=y then lexLt xs ys else decide (x<y):=rfl
def ue:lexLt [] []=false:=rfl
def tU(y:Int)(ys:List Int):lexLt [] (y::ys)=true:=rfl
def tV(x:Int)(xs:List Int):lexLt (x::xs) []=false:=rfl
def z6(A:zAZ)(s:zAB)(a:Int)(t:Tok)(c:Int)(u:Tok):∃e,zCN A s (.int a t) (.int c u) e/\(e=true↔a=c):=
 ⟨(a==c),zDr a t c u,by simp⟩
def aD0(A:zAZ)(s:zAB)(a:Int)(t:Tok)(c:Int)(u:Tok)(prog:zAP)(w:World)(E:Value->zAB->Prop)(Q:Value->zAB->Prop)(h:Q (.bool (decide (a<c))) s):
  wpAny (model prog w) A (zEc .Lt (.int a t) (.int c u)) Q E s:=
 (zEv h:wpAny (model prog w) A (zAm .Lt (.int a t) (.int c u)) Q E s)
section
open PySem.SeqAt
open PySem.AutoSeq1(wpAny_loadPart')
open PySem.MeetsSeq PySem.MeetsSeq2 PySem.MeetsSeq3
def uX(l b:Addr)(items items2:Array Value)(n n2:Nat)(dd dd2:Option Addr)(sl sl2:Array (Option Value))(ns ms:List Int)(hi:zBO items.toList ns)(hj:zBO items2.toList ms):
  Meets (zDZ.«tuple.__lt__» ⟨[.ref l,.ref b],[]⟩)
   (λ _ R s=>s.heap.get? l=some {cls:=.type "tuple",dict:=dd,data:=.seq items n,slots:=sl}/\s.heap.get? b=some {cls:=.type "tuple",dict:=dd2,data:=.seq items2 n2,slots:=sl2}/\
    R (.ok (.ret (.bool (lexLt ns ms)))) s):=
 .of_wp λ prog w A R s h=>by
  obtain⟨hp,g,d,tk,os⟩:=s;obtain⟨hl,hb,h⟩:=h;have f2:=zCX;have z1:items.size=ns.length:=by rw[<-hi.length];simp
  have z2:items2.size=ms.length:=by rw[<-hj.length];simp
  wp_walk using zCA hl,zCA hb,zEA _ (λ rest b s'=>b.1=none/\s'=⟨hp,g,d,tk,os⟩/\∃(vs ws:List Value) (ns' ms':List Int),rest=vs.zip ws/\
   zBO vs ns'/\zBO ws ms'/\ns'.length+items2.size=ms'.length+items.size/\R (.ok (.ret (.bool (lexLt ns' ms')))) ⟨hp,g,d,tk,os⟩) _
  case turn=>
   rintro⟨y,x⟩ rest b s' ⟨hb',rfl,vs,ws,ns',ms',hz,hvi,hwi,hW,hR⟩;cases hvi with
   |nil=>rw[zGe]at hz;cases hz
   |cons a t hvi'=>
    cases hwi with
    |nil=>rw[zGR]at hz;cases hz
    |cons c u hwi'=>
     rw[zBB]at hz;injection hz with hyx hrest
     injection hyx with hy hx
     subst hy hx;rw[aA9]at hR;simp only[zA6]at hW;obtain⟨e,he,hiff⟩:=z6 A.in1 ⟨hp,g,d,tk,os⟩ a t c u;refine zAD (he prog w _ _ ?_);cases e with
     |true=>
      rw[if_pos (hiff.mp rfl)]at hR;wp_walk;exact⟨rfl,rfl,_,_,_,_,hrest,hvi',hwi',by lia,hR⟩
     |false=>
      rw[if_neg (λ q=>absurd (hiff.mpr q) zAc)]at hR;have hri:=aD0 A.in1 ⟨hp,g,d,tk,os⟩ a t c u prog w;wp_walk using hri;exact⟨_,rfl,by simpa using hR⟩
  case fin=>
   rintro⟨b1,b2⟩ s' ⟨hb',rfl,vs,ws,ns',ms',hz,hvi,hwi,hW,hR⟩;simp only at hb';subst hb';have hv:lexLt ns' ms'=decide (items.size<items2.size):=by
    cases hvi with
    |nil=>
     cases hwi with
     |nil=>
      simp only[zBH]at hW;rw[ue];exact(decide_eq_false (by lia)).symm
     |cons c u hw=>
      simp only[zBH,zA6]at hW;rw[tU];exact(decide_eq_true (by lia)).symm
    |cons a t hv=>
     cases hwi with
     |nil=>
      simp only[zBH,zA6]at hW;rw[tV];exact(decide_eq_false (by lia)).symm
     |cons c u hw=>
      rw[zBB]at hz;cases hz
   rw[hv]at hR;wp_walk;exact⟨_,rfl,by simpa[zBe]using hR⟩
  case h=>
   exact⟨rfl,rfl,items.toList,items2.toList,ns,ms,rfl,hi,hj,by lia,h⟩
end
section
variable{prog:zAP}{w:World}{A:zAZ}{E:Value->zAB->Prop}{s:zAB}
def aA5(hl:IsTup s.heap l items)(hb:IsTup s.heap b items2)(hi:zBO items.toList ns)(hj:zBO items2.toList ms)
  (hu:A.units<cLine)(h:Q (.bool (lexLt ns ms)) s):wpAny (model prog w) A (zAm .Lt (.ref l) (.ref b)) Q E s:=by
 obtain⟨⟨cls,dd,data,sl⟩,ho,hc,n,hd⟩:=id hl;obtain⟨⟨cls2,dd2,data2,sl2⟩,ho2,hc2,n2,hd2⟩:=id hb;simp only at hc hd hc2 hd2;subst hc hd hc2 hd2;exact zCz (op:=.Lt) ⟨_,ho,rfl⟩ ⟨_,ho2,rfl⟩ zFY zFS (zFC _ _) (uX l b items items2 n n2 dd dd2 sl sl2 ns ms hi hj)
  ⟨ho,ho2,show zBp (lexLt ns ms)≠zCx/\Q (.bool (lexLt ns ms)) s from⟨(λ x=>nomatch x),h⟩⟩ hu
def aG7(ht:IsTup s.heap t vs.toArray)(hb:IsTup s.heap b ws.toArray)(hv:vs≠[])
  (h1:ws=[]->Q (.ref t) s)(h2:ws≠[]->Q (.ref s.heap.objs.size) {s with heap:=s.heap.push {cls:=.type "tuple",data:=.seq (vs++ws).toArray}})
  (hsz:vs.length+ws.length<=zAY):wpAny (model prog w) A (zB3 .Add (.ref t) (.ref b)) Q E s:=by
 obtain⟨⟨cls,dd,data,sl⟩,ho,hc,n,hd⟩:=id ht;obtain⟨⟨cls2,dd2,data2,sl2⟩,ho2,hc2,n2,hd2⟩:=id hb;simp only at hc hd hc2 hd2;subst hc hd hc2 hd2;have e:vs.toArray++ws.toArray=(vs++ws).toArray:=by simp
 by_cases hw:ws=[]
 .exact zHC ⟨_,ho,rfl⟩ ⟨_,ho2,rfl⟩ zF1 zGZ zD9 zD1 (zDV _ _)
   (tuple_addW1 t b vs.toArray ws.toArray n n2 dd dd2 sl sl2 (by simpa using hv) (by simp[hw])) ⟨ho,ho2,h1 hw⟩
 .refine zHC ⟨_,ho,rfl⟩ ⟨_,ho2,rfl⟩ zF1 zGZ zD9 zD1 (zDV _ _)
   (tuple_addW2 t b vs.toArray ws.toArray n n2 dd dd2 sl sl2 (by simpa using hv) (by simpa using hw) (by rw[zAS,zAS];exact hsz)) ⟨ho,ho2,?_⟩
  rw[e];exact h2 hw
end
end HT
namespace L2
open PySem PySem.Spec PyProof.Rows
abbrev TO:=St->Hp->(Option Int->Hp->Prop)->Prop
def intsAre_of:∀{us:List Value},Vals (ns.map V.int) us->zBO us ns:=by
 induction ns with
 |nil=>intro us r;rw[zHc]at r;cases r;exact .nil
 |cons n ns ih=>
  intro us r;rw[zA7]at r;cases r with
  |cons r1 r2=>
   obtain⟨t,e⟩:=r1;subst e;exact .cons n t (ih r2)
section
variable{X:Cx}{p2:Pos}
def aF4(K:zAA):R2:=λ x y H Q=>∃a b ns ms,x= .ref a/\y= .ref b/\SqT K H a (ns.map V.int)/\SqT K H b (ms.map V.int)/\Q (.bl (HT.lexLt ns ms)) H
def aIG(hu:X.A.units<cLine):OpR X (zAm .Lt) (aF4 X.K):=by
 intro hV s Z H x y v u Q I rx ry h;obtain⟨a,b,ns,ms,rfl,rfl,ha,hb,q⟩:=h;cases rx;cases ry;obtain⟨its,r1,p1,_⟩:=I.tuple ha;obtain⟨its2,r2,p2,_⟩:=I.tuple hb;have i1:zBO its.toArray.toList ns:=intsAre_of r1;have i2:zBO its2.toArray.toList ms:=intsAre_of r2;exact HT.aA5 p1 p2 i1 i2 hu ⟨.bl (HT.lexLt ns ms),H,I,rfl,q⟩
def aJ0(K:zAA):R2:=λ x y H Q=>∃a b xs ys,x= .ref a/\y= .ref b/\SqT K H a xs/\SqT K H b ys/\xs≠[]/\xs.length+ys.length<=zAY/\
 (ys=[]->Q (.ref a) H)/\(ys≠[]->∀p,H p=none->Q (.ref p) (upd H p (.tup (xs++ys))))
def Vals.nil_iff(r:Vals xs us):us=[]↔xs=[]:=by
 cases r with
 |nil=>simp
 |cons _ _=>simp
def aFo:OpR X (zB3 .Add) (aJ0 X.K):=by
 intro hV s Z H x y v u Q I rx ry h;obtain⟨a,b,xs,ys,rfl,rfl,ha,hb,hx,hz,q1,q2⟩:=h;cases rx;cases ry;obtain⟨its,r1,p1,_⟩:=I.tuple ha;obtain⟨its2,r2,p2,_⟩:=I.tuple hb;refine HT.aG7 p1 p2 (λ z=>hx (r1.nil_iff.mp z)) (λ z=>⟨.ref a,H,I,rfl,q1 (r2.nil_iff.mp z)⟩) (λ z=>?_) (by rw[<-r1.length,<-r2.length];exact hz);refine⟨.ref s.heap.objs.size,_,I.laid (t':=s.toks) (o:=.tup (xs++ys)) (λ b ob q=>zAH _ q) (zAW _) ?_,rfl,q2 (λ w=>z (r2.nil_iff.mpr w)) _ (I.hok.fresh (zAW _))⟩;exact⟨⟨by rw[zAs];exact hz,NoD.push _⟩,_,r1.append r2,IsTup.new _ _⟩
end
def ixN(n:Nat)(i:Int):Option Nat:=if 0<=i then(if i<n then some i.toNat else none)else if -(n:Int)<=i then some (i+n).toNat else none
def atI{α:Type}(xs:List α)(i:Int):Option α:=(ixN xs.length i).bind λ j=>xs[j]?
def aB6(h:ixN n i=some j):seqIndex? i n=some j/\j<n/\-(n:Int)<=i/\i<n:=by
 unfold ixN at h;by_cases h0:0<=i
 .rw[if_pos h0]at h
  by_cases h1:i<n
  .rw[if_pos h1]at h
   have e:i.toNat=j:=zA8 h;exact⟨by rw[zHQ h0 h1,e],by lia,by lia,h1⟩
  .rw[if_neg h1]at h;cases h
 .rw[if_neg h0]at h
  by_cases h1: -(n:Int)<=i
  .rw[if_pos h1]at h
   have e:(i+n).toNat=j:=zA8 h;exact⟨by rw[zHE (by lia) h1,e],by lia,h1,by lia⟩
  .rw[if_neg h1]at h;cases h
def yD(h:atI xs i=some v):∃j,seqIndex? i xs.length=some j/\xs[j]? =some v/\j<xs.length/\-(xs.length:Int)<=i/\i<xs.length:=by
 unfold atI at h;cases e:ixN xs.length i with
 |none=>rw[e]at h;cases h
 |some j=>
  rw[e]at h;obtain⟨h1,h2,h3,h4⟩:=aB6 e;exact⟨j,h1,h,h2,h3,h4⟩
def yG(b:Expr):Prop:=∀o i,subscripted b false o i=operate [o,i] (getItem o i)
def IxR(X:Cx)(r:R2):Prop:=
 ∀(value slice:Expr) (hV:gV) (s:zAB) (Z:St) (H:Hp) (x y:V) (v u:Value) (Q:VK),Inv X hV Z H s->RelV x v->RelV y u->r x y H Q->
  subscripted slice false v u=operate [v,u] (getItem v u)->wpAny (model X.prog X.w) X.A (subscriptTail value slice v u) (EP X hV Z Q) X.xe s
def MtR(X:Cx)(id:String)(r:V->List V->Hp->VK->Prop):Prop:=
 ∀(hV:gV) (s:zAB) (Z:St) (H:Hp) (x:V) (xs:List V) (v:Value) (us:List Value) (Q:VK),Inv X hV Z H s->RelV x v->Vals xs us->r x xs H Q->
  wpAny (model X.prog X.w) X.A (call (.builtin id) (v::us)) (EP X hV Z Q) X.xe s
section
variable{X:Cx}{a b:Expr}{ta tb:TE}{pos:Pos}
def IxR.or(h:IxR X r)(h':IxR X r'):IxR X (λ x y H Q=>r x y H Q\/r' x y H Q):=by
 intro value slice hV s Z H x y v u Q I rx ry q hs;rcases q with q|q
 .exact h value slice hV s Z H x y v u Q I rx ry q hs
 .exact h' value slice hV s Z H x y v u Q I rx ry q hs
def aDl{r:R2}(hr:IxR X r)(ha:PE X a ta)(hb:PE X b tb)(hs:yG b):PE X (.Subscript a b pos) (tOp r ta tb):=by
 intro hV s Z H Q I h;exact Subscript_ (aIq ha hb I h λ v u s2 x y H2 I2 rx ry q=>hr a b hV s2 Z H2 x y v u Q I2 rx ry q (hs _ _))
def aH6(K:zAA):R2:=λ x y H Q=>∃p xs i v,x= .ref p/\y= .int i/\SqL K H p xs/\atI xs i=some v/\Q v H
def aJY(K:zAA):R2:=λ x y H Q=>∃p xs i v,x= .ref p/\y= .int i/\SqT K H p xs/\atI xs i=some v/\Q v H
def aJZ:R2:=λ x y H Q=>∃z i c,x= .str z/\y= .int i/\z.length<=zAY/\atI z.cps.toList i=some c/\Q (.str ⟨#[c]⟩) H
def xT:IxR X (aH6 X.K):=by
 intro value slice hV s Z H x y v u Q I rx ry h hs;obtain⟨p,xs,i,z,rfl,rfl,hq,he,q⟩:=h;cases rx;obtain⟨t,rfl⟩:=ry;obtain⟨its,r,pl,hz⟩:=I.list hq;obtain⟨j,h1,h2,h3,h4,h5⟩:=yD he;obtain⟨w,ew,rw'⟩:=r.get h2;have hl:=r.length;have hn:=pZ;have fin:EP X hV Z Q w s:=⟨z,H,I,rw',q⟩;by_cases h0:0<=i
 .have hj:i.toNat=j:=by
   rw[zHQ h0 h5]at h1;exact zA8 h1
  exact item_listR pl.isList h0 (by lia) (by rw[hj];simpa using ew) fin hs
 .have hj:(i+(its.toArray.size:Int)).toNat=j:=by
   rw[zHE (by lia) h4]at h1;rw[zAS,<-hl];exact zA8 h1
  exact zGn (x:=w) pl.isList.typeIs slot_list_getitem.lookup
   (wpAny_getItem_list_neg (Q:=λ r s'=>r=w/\EP X hV Z Q r s') pl.isList (by lia) (by rw[zAS]<;>lia) (by lia) (by rw[hj];simpa using ew) ⟨rfl,fin⟩) hs
def aI3:IxR X (aJY X.K):=by
 intro value slice hV s Z H x y v u Q I rx ry h hs;obtain⟨p,xs,i,z,rfl,rfl,hq,he,q⟩:=h;cases rx;obtain⟨t,rfl⟩:=ry;obtain⟨its,r,pl,hz⟩:=I.tuple hq;obtain⟨j,h1,h2,h3,h4,h5⟩:=yD he;obtain⟨w,ew,rw'⟩:=r.get h2;have hl:=r.length;have hn:=pZ;have fin:EP X hV Z Q w s:=⟨z,H,I,rw',q⟩;exact zGn (x:=w) pl.typeIs slot_tuple_getitem.lookup
  (getItem_tuple (j:=j) (Q:=λ r s'=>r=w/\EP X hV Z Q r s') pl (by lia) (by lia) (by rw[zAS,<-hl];exact h1) (by simpa using ew) ⟨rfl,fin⟩) hs
def aI4:IxR X aJZ:=by
 intro value slice hV s Z H x y v u Q I rx ry h hs;obtain⟨z,i,c,rfl,rfl,hz,he,q⟩:=h;obtain⟨t,rfl⟩:=rx;obtain⟨t',rfl⟩:=ry;obtain⟨j,h1,h2,h3,h4,h5⟩:=yD he;have hl:z.cps.toList.length=z.length:=by simp[Str.length]
 rw[hl]at h1 h4 h5;have hn:=pZ;exact tail_any (typeIs_str s z t) slot_str_getitem.lookup (getItem_str (c:=c) (by
  have e1:decide (i < -(2^63:Int))=false:=decide_eq_false (by lia);have e2:decide (i ≥ 2^63)=false:=decide_eq_false (by lia);rw[e1,e2,Bool.or_false]) (by rw[h1];simpa using h2) ⟨.str ⟨#[c]⟩,H,I.tok _,⟨_,rfl⟩,q⟩) hs
def rIx(K:zAA):R2:=λ x y H Q=>aH6 K x y H Q\/aJY K x y H Q\/aJZ x y H Q
def aI5:IxR X (rIx X.K):=xT.or (aI3.or aI4)
def aA2(its:List Value)(n j:Nat)(u:Value):zE9 (·.setIfInBounds j u) {cls:=.type "list",data:=.seq its.toArray n}={cls:=.type "list",data:=.seq (its.set j u).toArray n}:=by
 simp[zE9]
theorem Inv.lst(I:Inv X hV Z H s)(h:H p=some (.lst xs)):
  ∃(its:List Value) (n:Nat),Vals xs its/\s.heap.get? p=some {cls:=.type "list",data:=.seq its.toArray n}/\xs.length<=zAY:=by
 obtain⟨z,its,n,r,e⟩:=I.hok p _ h;exact⟨its,n,r,e,z⟩
def Inv.lstUpd{hV:gV}{Z:St}{H:Hp}{s:zAB}{p:Addr}{xs ys:List V}{its its':List Value}{n n':Nat}{f:Obj->Obj}(I:Inv X hV Z H s)(h:H p=some (.lst xs))
  (ho:s.heap.get? p=some {cls:=.type "list",data:=.seq its.toArray n})(hf:f {cls:=.type "list",data:=.seq its.toArray n}={cls:=.type "list",data:=.seq its'.toArray n'})(r:Vals ys its')(hz:ys.length<=zAY)(t:Nat):
  Inv X hV Z (upd H p (.lst ys)) {s with heap:=s.heap.update p f,toks:=t}:=by
 have e:(s.heap.update p f).get? p=some {cls:=.type "list",data:=.seq its'.toArray n'}:=by
  rw[zCH f ho (by rw[hf]<;>rfl),hf]
 refine I.write (x:=p) (e:=p) (by rw[h];trivial) (.inl rfl) (λ b u hb q=>(zAz _ _ (zDi hb)).trans q) ⟨_,e⟩ ?_;exact⟨hz,its',n',r,e⟩
def aGq:V->V->V->Hp->(Hp->Prop)->Prop:=λ o i v H Q=>∃p xs k j,o= .ref p/\i= .int k/\H p=some (.lst xs)/\ixN xs.length k=some j/\Q (upd H p (.lst (xs.set j v)))
def set_list:aJx X aGq:=by
 intro hV s Z H o i v ov iv u Q I ro ri rv h;obtain⟨p,xs,k,j,rfl,rfl,hp,hj,q⟩:=h;cases ro;obtain⟨t,rfl⟩:=ri;obtain⟨its,n,r,ho,hz⟩:=I.lst hp;obtain⟨h1,h2,h3,h4⟩:=aB6 hj;have hl:=r.length;have hn:=pZ;have I':Inv X hV Z (upd H p (.lst (xs.set j v))) {s with heap:=s.heap.update p (zE9 (·.setIfInBounds j u))}:=
  I.lstUpd hp ho (aA2 its n j u) (r.set rv j) (by rw[zAp];exact hz) s.toks
 by_cases h0:0<=k
 .have hk:k.toNat=j:=by
   rw[zHQ h0 h4]at h1;exact zA8 h1
  exact PySem.W.ki_setAt ho h0 (by lia) (by rw[zAS,<-hl];exact h4) (by rw[hk];exact⟨_,I',q⟩)
 .have hk:(k+(its.toArray.size:Int)).toNat=j:=by
   rw[zHE (by lia) h3]at h1;rw[zAS,<-hl];exact zA8 h1
  exact PySem.W.ki_setBack ho (by lia) (by rw[zAS,<-hl];exact h3) (by lia) (by rw[hk];exact⟨_,I',q⟩)
def xu:dM X (.builtin "len") (λ xs H Q=>∃p ys,xs=[.ref p]/\(SqL X.K H p ys\/SqT X.K H p ys)/\Q (.int ys.length) H):=by
 intro hV s Z H xs us Q I r h;obtain⟨p,ys,rfl,hq,q⟩:=h;obtain⟨u,rfl,rx⟩:=vals1 r;cases rx;have hn:=pZ;rcases hq with hq|hq
 .obtain⟨its,r',pl,hz⟩:=I.list hq
  have hW:=r'.length;exact Calls.call_len_list pl.isList (by simp only[zAS]<;>lia) ⟨.int ys.length,H,I.tok _,⟨s.toks+1,by rw[zAS,hW]⟩,q⟩
 .obtain⟨its,r',pl,hz⟩:=I.tuple hq
  have hW:=r'.length;exact len_tuple pl (by simp only[zAS]<;>lia) ⟨.int ys.length,H,I.tok _,⟨s.toks+1,by rw[zAS,hW]⟩,q⟩
def uh:dM X (.type "tuple") (λ xs H Q=>∃p ys,xs=[.ref p]/\((SqL X.K H p ys/\∀l,H l=none->Q (.ref l) (upd H l (.tup ys)))\/(SqT X.K H p ys/\Q (.ref p) H))):=by
 intro hV s Z H xs us Q I r h;obtain⟨p,ys,rfl,h⟩:=h;obtain⟨u,rfl,rx⟩:=vals1 r;cases rx;rcases h with ⟨hq,q⟩|⟨hq,q⟩
 .obtain⟨its,r',pl,hz⟩:=I.list hq
  have hW:=r'.length;refine call_tuple_list pl.isList (λ h' kp=>?_) (by simp only[zAS]<;>lia);have I1:Inv X hV Z H {s with heap:=h'}:=I.kept (t':=s.toks) kp;have I2:Inv X hV Z (upd H h'.objs.size (.tup ys)) {s with heap:=h'.push {cls:=.type "tuple",data:=.seq its.toArray}}:=
   I1.laid (t':=s.toks) (λ b o e=>zAH _ e) (zAW _) (show cZ X.prog X.w _ _ _ (.tup ys)from⟨⟨hz,NoD.push _⟩,its,r',IsTup.new _ _⟩)
  exact⟨.ref h'.objs.size,_,I2,rfl,q _ (I1.hok.fresh (zAW _))⟩
 .obtain⟨its,r',pl,hz⟩:=I.tuple hq
  exact call_tuple_same pl ⟨.ref p,H,I,rfl,q⟩
def tyV(K:zAA)(T:String)(x:V)(H:Hp):Prop:=match x with
 | .str _=>T="str"
 | .int _=>T="int"
 | .ref p=>(T="list"/\∃xs,SqL K H p xs)\/(T="tuple"/\∃o,K.lookup p=some o/\o.cls= .type "tuple"/\o.dict=none)\/
   (T="dict"/\((∃kvs,H p=some (.dK kvs))\/∃kvs,H p=some (.dT kvs)))\/(T="set"/\∃S n,H p=some (.set S n))
 |_=>False
def aCq(I:Inv X hV Z H s)(r:RelV x v)(ty:tyV X.K T x H):
  s.TypeIs v T/\∀a,v= .ref a->∃ob,s.heap.get? a=some ob/\ob.dict=none:=by
 cases x with
 |str z=>
  obtain⟨t,rfl⟩:=r;cases (show T="str" from ty);exact⟨typeIs_str s z t,λ _ e=>nomatch e⟩
 |int i=>
  obtain⟨t,rfl⟩:=r;cases (show T="int" from ty);exact⟨zHl s i t,λ _ e=>nomatch e⟩
 |ref p=>
  cases r;rcases ty with ⟨rfl,xs,hq⟩|⟨rfl,o,hk,hc,hd⟩|⟨rfl,hk⟩|⟨rfl,S,n,hk⟩
  .obtain⟨its,_,pl,_⟩:=I.list hq
   refine⟨pl.isList.typeIs,λ a e=>?_⟩;cases e;obtain⟨o,n,e,c,hd,_⟩:=pl;exact⟨o,e,hd⟩
  .refine⟨⟨o,I.kIn p o hk,hc⟩,λ a e=>?_⟩
   cases e;exact⟨o,I.kIn _ o hk,hd⟩
  .have z:∃o,s.heap.get? p=some o/\o.ExactDict:=by
    rcases hk with ⟨kvs,hk⟩|⟨kvs,hk⟩
    .obtain⟨_,_,_,_,o,_,_,e,ex,_⟩:=I.hok p _ hk
     exact⟨o,e,ex⟩
    .obtain⟨_,_,_,_,o,_,_,e,ex,_⟩:=I.hok p _ hk
     exact⟨o,e,ex⟩
   obtain⟨o,e,ex⟩:=z;refine⟨⟨o,e,ex.1⟩,λ a e2=>?_⟩;cases e2;exact⟨o,e,ex.2.1⟩
  .obtain⟨o,_,_,_,e,ex,_⟩:=I.hok p _ hk
   refine⟨⟨o,e,ex.1⟩,λ a e2=>?_⟩;cases e2;exact⟨o,e,ex.2.1⟩
 |_=>exact zAJ ty
def aJN(K:zAA)(T:String)(r:V->List V->Hp->VK->Prop)(to:TE):TE:=λ Z H Q=>to Z H λ x H1=>tyV K T x H1/\r x [] H1 Q
def tBM(K:zAA)(T:String)(r:V->List V->Hp->VK->Prop)(to:TE)(t:TA):TE:=λ Z H Q=>to Z H λ x H1=>tyV K T x H1/\t Z H1 λ xs H2=>r x xs H2 Q
variable{o e:Expr}{es:List Expr}{to:TE}{t:TA}{name:Str}{apos cpos:Pos}{T id:String}{r:V->List V->Hp->VK->Prop}
def aHn(pa:PlainAttrs T)(slot:Slot T name id)(hty:typeOf (.builtin id)=pure (.type "method_descriptor"))(hm:MtR X id r)(ho:PE X o to)
  (hbase:zDW o name X.env (eval o X.env)=eval o X.env:=by rfl)(hline:(apos.endLine==cpos.line)=true:=by rfl):PE X (.Call (.Attribute o name apos) [] [] cpos) (aJN X.K T r to):=by
 intro hV s Z H Q I h;refine wpAny_Call_method0_late hbase hline (thn (ho hV s Z H _ I h) λ v s1 ⟨x,H1,I1,r1,ty,q1⟩=>?_);obtain⟨h1,h2⟩:=aCq I1 r1 ty;exact⟨T,id,pa,slot,hty,h1,h2,zF3 rfl (PySem.evalArgs_none (hm hV s1 Z H1 x [] v [] Q I1 r1 .nil q1))⟩
def ym(pa:PlainAttrs T)(slot:Slot T name id)(hty:typeOf (.builtin id)=pure (.type "method_descriptor"))(hm:MtR X id r)(ho:PE X o to)(ha:PA X (e::es) t)
  (hbase:zDW o name X.env (eval o X.env)=eval o X.env:=by rfl)
  (hfew:((zCY cpos (zAT (e::es) X.env)).all (λ x=>!x.1)&&(zF9 cpos (zDy [] X.env)).all (λ x=>x.1.isSome)
   &&decide ((e::es).length+([]:List zCo).length+(if ([]:List zCo).isEmpty then 0 else 1)<30))=true:=by rfl)
  (hline:(apos.endLine==cpos.line)=true:=by rfl)(hs:zAT (e::es) X.env=(false,eval e X.env)::zAT es X.env:=by rfl)(hplain:(zCY cpos (zAT es X.env)).any (·.1)=false:=by rfl):
  PE X (.Call (.Attribute o name apos) (e::es) [] cpos) (tBM X.K T r to t):=by
 intro hV s Z H Q I h;refine wpAny_Call_method_late hbase hfew hline rfl (thn (ho hV s Z H _ I h) λ v s1 ⟨x,H1,I1,r1,ty,q1⟩=>?_);obtain⟨h1,h2⟩:=aCq I1 r1 ty;refine⟨T,id,pa,slot,hty,h1,h2,?_⟩;have hA:=ha cpos hV s1 Z H1 _ I1 q1;rw[hs]at hA ⊢;refine zF3 (by show(false||(zCY cpos (zAT es X.env)).any (·.1))=false;rw[hplain]<;>rfl) (zFl ?_);exact thn hA λ us s2 ⟨vs,H2,I2,r2,q2⟩=>hm hV s2 Z H2 x vs v us Q I2 r1 r2 q2
end
def MtM(X:Cx)(id:String)(r:V->List V->Hp->VK->Prop):Prop:=
 ∀(hV:gV) (s:zAB) (Z:St) (H:Hp) (x:V) (xs:List V) (v:Value) (us:List Value) (Q:VK),Inv X hV Z H s->RelV x v->Vals xs us->r x xs H Q->
  wpAny (model X.prog X.w) X.A (call (.builtin id) (v::us)) (EP X hV Z Q) X.xe s
def Vals.one:∀{x:V} {us:List Value},Vals [x] us->∃u,us=[u]/\RelV x u
 |_,_,.cons r .nil=>⟨_,rfl,r⟩
theorem Vals.rep(h:Vals xs us):∀k:Nat,Vals (zAQ k xs).flatten (zAQ k us).flatten
 |0=>.nil
 |k+1=>by
  rw[zBT,zBT,zCR,zCR];exact Vals.append h (Vals.rep h k)
theorem foldl_rep(its:List Value):∀(k:Nat) (acc:List Value),
  zGd (λ x1 x2=>x1++x2) acc.toArray (zAQ k its.toArray)=(acc++(zAQ k its).flatten).toArray
 |0,acc=>by simp
 |k+1,acc=>by
  have e:acc.toArray++its.toArray=(acc++its).toArray:=by simp
  have e2:(acc++its)++(zAQ k its).flatten=acc++(zAQ (k+1) its).flatten:=by
   rw[zBT,zCR,zCl]
  rw[<-e2,<-foldl_rep its k (acc++its),<-e,zBT,zCI]
section
variable{X:Cx}{hV:gV}{Z:St}{H:Hp}{s:zAB}{l:Addr}{xs ys:List V}
def Inv.lset{its its':List Value}{n:Nat}{f:Array Value->Array Value}{t':Nat}(I:Inv X hV Z H s)(hH:H l=some (.lst xs))
  (e:s.heap.get? l=some {cls:=.type "list",data:=.seq its.toArray n})(hf:f its.toArray=its'.toArray)(hv:Vals ys its')(hz:ys.length<=zAY):
  Inv X hV Z (upd H l (.lst ys)) {s with heap:=s.heap.update l (zE9 f),toks:=t'}:=by
 have q:=PySem.IsL.update e f;rw[hf]at q;refine I.write (x:=l) (e:=l) (by rw[hH];exact trivial) (.inl rfl) (λ b' u hb hu=>(zAz s.heap (zE9 f) (zDi hb)).trans hu) ⟨_,q⟩ ?_;exact⟨hz,its',_,hv,q⟩
def Inv.lnew(I:Inv X hV Z H s)(hv:Vals ys its)(hz:ys.length<=zAY):
  Inv X hV Z (upd H s.heap.objs.size (.lst ys)) {s with heap:=s.heap.push {cls:=.type "list",data:=.seq its.toArray},toks:=t'}:=
 I.laid (λ _ _ q=>zAH _ q) (zAW _) ⟨hz,its,0,hv,zAR _ rfl⟩
theorem Inv.fresh(I:Inv X hV Z H s):H s.heap.objs.size=none:=I.hok.fresh (zAW _)
def Inv.lstM(I:Inv X hV Z H s)(hH:H l=some (.lst xs)):xs.length<=zAY/\∃(its:List Value) (n:Nat),Vals xs its/\xs.length=its.length/\s.heap.get? l=some {cls:=.type "list",data:=.seq its.toArray n}:=by
 obtain⟨z,its,n,r,e⟩:=I.hok l _ hH;exact⟨z,its,n,r,r.length,e⟩
def aDu(h:n<=zAY):zDC n=false:=by
 unfold zDC;exact decide_eq_false (by lia)
end
section
variable{X:Cx}
def aF8:V->List V->Hp->VK->Prop:=λ x vs H Q=>∃l xs y,x= .ref l/\vs=[y]/\H l=some (.lst xs)/\xs.length<zAY/\Q .non (upd H l (.lst (xs++[y])))
def vA:MtM X "list.append" aF8:=by
 intro hV s Z H x vs v us Q I rx rv h;obtain⟨l,xs,y,rfl,rfl,hH,hz,q⟩:=h;cases rx;obtain⟨u,rfl,ru⟩:=rv.one;obtain⟨z,its,n,r,hl,e⟩:=I.lstM hH;refine zEV zDe ⟨_,e,rfl⟩ F.entry_list_append (F.args_list_append_2 _ _) (PySem.list_append l its.toArray n u (by rw[zAS];lia)) ⟨e,?_⟩;refine⟨.non,_,I.lset (its':=its++[u]) hH e (by simp) (r.append (.cons ru .nil)) ?_,rfl,q⟩;rw[zAs,zDp];lia
def aKR:R2:=λ x y H Q=>∃l b xs zs,x= .ref l/\y= .ref b/\H l=some (.lst xs)/\H b=some (.lst zs)/\xs.length+zs.length<=zAY/\∀p,H p=none->Q (.ref p) (upd H p (.lst (xs++zs)))
def aIL:OpR X (zB3 .Add) aKR:=by
 intro hV s Z H x y v u Q I rx ry h;obtain⟨l,b,xs,zs,rfl,rfl,hH,hB,hz,q⟩:=h;cases rx;cases ry;obtain⟨z,its,n,r,hl,e⟩:=I.lstM hH;obtain⟨z2,its2,n2,r2,hl2,e2⟩:=I.lstM hB;refine PySem.P.add_list e e2 ?_ (by rw[zAS,zAS];lia);have ea:its.toArray++its2.toArray=(its++its2).toArray:=by simp
 rw[ea];exact⟨.ref _,_,I.lnew (t':=s.toks) (r.append r2) (by rw[zAs];lia),rfl,q _ I.fresh⟩
def aJX:R2:=λ x y H Q=>∃l k xs,x= .ref l/\y= .int k/\H l=some (.lst xs)/\-(2^63)<=k/\k<2^63/\xs.length*k.toNat<=zAY/\
 ∀p,H p=none->Q (.ref p) (upd H p (.lst (zAQ k.toNat xs).flatten))
def len_rep(xs:List α)(k:Nat):(zAQ k xs).flatten.length=k*xs.length:=by
 induction k with
 |zero=>simp
 |succ k ih=>rw[zBT,zCR,zAs,ih,Nat.succ_mul,Nat.add_comm]
def aIA:OpR X (zB3 .Mult) aJX:=by
 intro hV s Z H x y v u Q I rx ry h;obtain⟨l,k,xs,rfl,rfl,hH,h1,h2,hz,q⟩:=h;cases rx;obtain⟨t,rfl⟩:=ry;obtain⟨z,its,n,r,hl,e⟩:=I.lstM hH;have hW:its.toArray.size*k.toNat<=zAY:=by rw[zAS,<-hl];exact hz
 have hcap:¬its.toArray.size*k.toNat>(2^63-1) / 8:=by
  have:(zAY:Nat)<=(2^63-1) / 8:=by decide
  lia
 have hfit:¬(!Builtin.List.listFitsIndex k)=true:=by
  rw[fitsIndex_both h1 h2];exact zAc
 have hlong:¬zDC (its.toArray.size*k.toNat)=true:=by
  rw[aDu hW];exact zAc
 have hnew:zGd (λ x1 x2=>x1++x2) #[] (zAQ (if its.toArray.isEmpty=true then 0 else k.toNat) its.toArray)=(zAQ k.toNat its).flatten.toArray:=by
  have f0:∀m:Nat,zGd (λ x1 x2=>x1++x2) #[] (zAQ m its.toArray)=(zAQ m its).flatten.toArray:=λ m=>by
   have:=foldl_rep its m []
   rw[zEt]at this;exact this
  rw[f0];cases its with
  |nil=>simp
  |cons a r'=>rw[if_neg (by simp)]
 refine wpAny_binaryOp_repeat_ref (T:="list") (U:="int") (by decide) ⟨_,e,rfl⟩ (λ s'=>zHl s' k t) noFill_list_mul F.fills_int_mul zH8 repeat_list F.slot_int_index.lookup
  (zEV zH8 (zHl s k t) F.entry_int_rmul (F.args_int_rmul_2 _ _) (int___rmul___int_list k t l its.toArray n)
   ⟨e,rfl,⟨_,e,rfl⟩,zEV F.slot_list_mul ⟨_,e,rfl⟩ F.entry_list_mul (F.args_list_mul_2 _ _) (AutoListH.list___mul___list_int_3 l its.toArray n k t hfit hcap hlong) ⟨e,?_⟩⟩)
 rw[hnew];exact⟨.ref _,_,I.lnew (t':=s.toks) (r.rep k.toNat) (by rw[len_rep,zFw];exact hz),rfl,q _ I.fresh⟩
end
end L2
namespace Att
open PySem PySem.W PySem.Calls PyProof.Rows
def qz:∀(ns:List Int) (vs:List Value),WellAll P h vs (ns.map WData.int)->zBO vs ns:=by
 intro ns;induction ns with
 |nil=>
  intro vs w;rw[zHc]at w;cases w;exact .nil
 |cons n ns ih=>
  intro vs w;rw[zA7]at w;cases w with
  |cons a b=>
   cases a;exact .cons _ _ (ih _ b)
def aCA{l:OpenLaw}{n:Nat}(hn:l.most=some n){P:Params}{h:Heap}{args:List WData}{vals:List Value}
  (hpre:l.row.toRowW.claim.pre args=true)(hwl:WellAll P h vals args):
  ∃a vs ns,vals=[zB0 a]/\args=[WData.list (ns.map WData.int)]/\h.get? a=some {cls:=.type "list",data:=.seq vs.toArray}/\zBO vs ns/\ns.length<=n:=by
 have hsh:WShape.hasAll [] args [.list .int]=true:=(pre_splitW hpre).1;have hc:l.pre.holds [] {args:=args}=true:=(pre_splitW hpre).2;obtain⟨d,r,rfl,h1,h2⟩:=hasAllW_cons hsh;obtain rfl:=hasAllW_nil h2;obtain⟨xs,rfl,h3⟩:=hasW_list h1;obtain⟨ns,rfl⟩:=items_int h3;have hW:ns.length<=n:=by
  unfold OpenLaw.pre at hc;have h4:(WTm.not (.lt (.lit (.int (n:Int))) (.len (.arg 0)))).holds [] {args:=[.list (ns.map .int)]}=true:=by
   have h4:=(holds_andW hc).1;rw[hn]at h4;exact h4
  have h5:=condW_of h4 (w_not (w_lt w_lit (w_len_list (w_arg rfl))));rw[zAF]at h5;refine zEm λ q=>?_
  have q':(n:Int)<((ns.length:Nat):Int):=by lia
  first
   |(rw[decide_eq_true q']at h5;exact absurd h5 (by decide))
   |(simp at h5;lia)
 cases hwl with
 |cons w1 w2=>
  cases w2;cases w1 with
  |list ho dL=>exact⟨_,_,ns,rfl,rfl,ho,qz ns _ dL,hW⟩
def aCG(l:OpenLaw)(args:List WData):l.row.toRowW.claim.post args (.bool true) args=true:=
 postW_of (r:=l.row.toRowW) (X:=(true==true))
  (show WShape.has [] (.bool true) .bool=true by first|rfl|decide|simp[WShape.has,WShape.arms,WShape.armsAll])
  (show(WTm.eq .res (.lit (.bool true))).value [] {args:=args,res:=some (.bool true),after:=args}=some (.bool (true==true))from w_eq_bool (w_res rfl) w_lit) rfl
def zp{l:OpenLaw}{n:Nat}{q:zAP}{loose:List Str}{XP:(Str->Option Value)->Heap->Prop}{YP:World->Heap->Prop}{d:DefRec}
  (hn:l.most=some n)(hdf:d.params.defaults=[])
  (call:∀(w:World) (z5 zS:zAB) (mg mb:Str->Option Value) (fa:Addr) (o:Obj) (pm cd doc:Value) (a:Addr) (vs:List Value) (ns:List Int),
   Ground q loose [] XP w z5 mg mb zS.heap->YP w zS.heap->
   zS.heap.get? fa=some o->o.data= .func (docDef d.name d.params d.body d.scope pm cd doc)->zS.heap.CodeRec cd d.name->mg d.name=some (.ref fa)->
   zS.heap.get? a=some {cls:=.type "list",data:=.seq vs.toArray}->zBO vs ns->ns.length<=n->zS.gens=#[]->
   zCP (model l.prog w) zCO (.call (.ref fa) ⟨[.ref a],[]⟩) (λ r s'=>r= .ok (.ret (.bool true))/\OldK zS.heap s'.heap/\s'.os=zS.os/\zEK s'.gens) zS):
  WalkO q loose XP YP l.row.toRowW d [] (λ f vs=>zGV f vs):=by
 intro w z5 zS mg mb G Y fa o pm cd doc dV kV ho hd hcd hD hmg hg args vals as hpre hlay hrd hwl hlo;obtain rfl:dV= .none:=Dflts.none hD hdf;obtain rfl:kV= .none:=Dflts.noKw hD;obtain⟨a,vs,ns,rfl,rfl,hobj,hints,hW⟩:=aCA hn hpre hwl;refine enter_call (zDH (call w z5 zS mg mb fa o pm cd doc a vs ns G Y ho (fd_plain hd) hcd hmg hobj hints hW hg) λ r s' hq=>?_);obtain⟨rfl,h2,h3,h4⟩:=hq;exact⟨.inl ⟨.bool true,.bool true,[],rfl,λ _=>rfl,.bool true,aCG l _,λ _=>⟨zEy,λ _ hm=>(nomatch hm)⟩⟩,h2,h3,h4⟩
section
variable{prog:zAP}{w:World}{A:zAZ}{E:Value->zAB->Prop}{s:zAB}{K:Frag}
def make_obj(X:K.In s.heap)(hm:makesIn K C=true)(hi:findIn K (.ref C) "__init__"=some (some (.ref fI)))(hf:isFn K (.ref fI)=true)
  (h:zCP (model prog w) (A.under (.builtin "type.__call__" ⟨.ref C::rest,kw⟩)) (.call (.ref fI) ⟨.ref (s.heap.objs.size+1)::rest,kw⟩) (InitBack (s.heap.objs.size+1) R)
   {s with heap:=(s.heap.push emptyDict).push (instObj C s.heap.objs.size)}):zCP (model prog w) A (.call (.ref C) ⟨rest,kw⟩) R s:=by
 obtain⟨hh,g,d,t,os⟩:=s;exact make_core (makes_of X hm) (looks_findIn X hi) (λ self=>bind_fn X self (beq_iff_eq.mp hf)) (.inl rfl) h
def get_field(X:K.In s.heap)(I:zGi s.heap x ox C (some (dictOf es n)))(hg:plainGet K C name=true)(hh:hasDictIn K C=true)(ha:findIn K (.ref C) name=some none)
  (hl:getL name es=some (some v))(hv:handedIn v=true)(h:Q v {s with toks:=s.toks+1}):wpAny (model prog w) A (getAttr (.ref x) name expr) Q E s:=
 get_value X I (plainGet_of hg).1 (findObj_own hh ha rfl hl) hv h
def ledger(h:Heap)(L d:Addr):gV:=(zAU h.objs.size).filterMap λ a=>if a=L\/a=d then none else(h.get? a).map λ o=>(a,o)
end
end Att
namespace L2
open PySem PySem.Spec PyProof.Rows
theorem uo:∀{vs:List Value} {ns:List Int},zBO vs ns->Vals (ns.map V.int) vs
 |_,_,.nil=>.nil
 |_,_,.cons n t h=>.cons ⟨t,rfl⟩ (uo h)
def Only(H:Hp):Prop:=∀b,H b=none\/∃o xs,H b=some (.frz o (.lst xs))
def jw(s:Stmt):zCn:=match s with
 | .FunctionDef _ a _ _ _ _ _ _ _ _=>a
 |_=>{posonlyargs:=[],args:=[],vararg:=none,kwonlyargs:=[],kw_defaults:=[],kwarg:=none,defaults:=[]}
def cH(s:Stmt):List Stmt:=match s with
 | .FunctionDef _ _ b _ _ _ _ _ _ _=>b
 |_=>[]
def aF(s:Stmt):Scope:=match s with
 | .FunctionDef _ _ _ _ _ _ sc _ _ _=>sc
 |_=>{kind:=.function,names:=[],isGenerator:=false,isCoroutine:=false}
abbrev CX0:CXT:=λ _ _ _ _ _ _=>False
abbrev E0:XK:=λ _ _ _=>False
structure Fun(K:zAA)(x qual:Str)(st:Stmt)(f:Addr)(fd:zAe):Prop where
 ex:∃(oc:Value) (od:Option Addr) (kV doc pm:Value) (an:Option Addr) (cdv ct:Value) (osl:Array (Option Value)),
  fd=zBU x qual (jw st) (cH st) (aF st) .none kV doc pm an cdv ct/\K.lookup f=some ⟨oc,od,.func fd,osl⟩/\zCh K cdv qual=true
 kp:zBR K (.ref f)=true
section
variable{K:zAA}
def Fun.binds{x qual:Str}{st:Stmt}{f:Addr}{fd:zAe}{ps:List Str}(F:Fun K x qual st f fd)
  (h:∀(kV doc pm:Value) (an:Option Addr) (cdv ct:Value) (us:List Value),us.length=ps.length->zHZ (zBU x qual (jw st) (cH st) (aF st) .none kV doc pm an cdv ct) ⟨us,[]⟩=pure (ps.zip us)):Binds K fd ps []:=by
 obtain⟨oc,od,kV,doc,pm,an,cdv,ct,osl,rfl,lk,hcd⟩:=F.ex;exact .all (h kV doc pm an cdv ct)
def aIf{x qual:Str}{st:Stmt}{f:Addr}{oc:Value}{od an:Option Addr}{osl:Array (Option Value)}{kV doc pm cdv ct:Value}(l:K.lookup f=some ⟨oc,od,.func (zBU x qual (jw st) (cH st) (aF st) .none kV doc pm an cdv ct),osl⟩)
  (c:zCh K cdv qual=true)(k:zBR K (.ref f)=true):Fun K x qual st f (zBU x qual (jw st) (cH st) (aF st) .none kV doc pm an cdv ct):=⟨⟨oc,od,kV,doc,pm,an,cdv,ct,osl,rfl,l,c⟩,k⟩
end
def aO(H H':Hp):Prop:=∀b o,H b=some o->H' b=some o
def aO.refl(H:Hp):aO H H:=λ _ _ h=>h
def aO.trans(a:aO H H1)(b:aO H1 H2):aO H H2:=λ c o h=>b c o (a c o h)
def aO.free(e:aO H H')(h:H' l=zHX):H l=zHX:=by
 cases q:H l with
 |none=>rfl
 |some o=>
  rw[e l o q]at h;cases h
end L2
set_option maxHeartbeats 4000000
namespace HT
open PySem PyProof.Rows
def lexLe:List Int->List Int->Bool
 |[],_=>true
 |_::_,[]=>false
 |x::xs,y::ys=>if x=y then lexLe xs ys else decide (x<=y)
def aAa(x y:Int)(xs ys:List Int):lexLe (x::xs) (y::ys)=if x=y then lexLe xs ys else decide (x<=y):=rfl
def aD1(A:zAZ)(s:zAB)(a:Int)(t:Tok)(c:Int)(u:Tok)(prog:zAP)(w:World)(E:Value->zAB->Prop)(Q:Value->zAB->Prop)(h:Q (.bool (decide (a<=c))) s):
  wpAny (model prog w) A (zEc .LtE (.int a t) (.int c u)) Q E s:=
 (PyProof.Rows.le_int h:wpAny (model prog w) A (zAm .LtE (.int a t) (.int c u)) Q E s)
section
open PySem.SeqAt
open PySem.AutoSeq1(wpAny_loadPart')
open PySem.MeetsSeq PySem.MeetsSeq2 PySem.MeetsSeq3
def uY(l b:Addr)(items items2:Array Value)(n n2:Nat)(dd dd2:Option Addr)(sl sl2:Array (Option Value))(ns ms:List Int)(hi:zBO items.toList ns)(hj:zBO items2.toList ms):
  Meets (zDZ.«tuple.__le__» ⟨[.ref l,.ref b],[]⟩)
   (λ _ R s=>s.heap.get? l=some {cls:=.type "tuple",dict:=dd,data:=.seq items n,slots:=sl}/\s.heap.get? b=some {cls:=.type "tuple",dict:=dd2,data:=.seq items2 n2,slots:=sl2}/\
    R (.ok (.ret (.bool (lexLe ns ms)))) s):=
 .of_wp λ prog w A R s h=>by
  obtain⟨hp,g,d,tk,os⟩:=s;obtain⟨hl,hb,h⟩:=h;have f2:=zCX;have z1:items.size=ns.length:=by rw[<-hi.length];simp
  have z2:items2.size=ms.length:=by rw[<-hj.length];simp
  wp_walk using zCA hl,zCA hb,zEA _ (λ rest b s'=>b.1=none/\s'=⟨hp,g,d,tk,os⟩/\∃(vs ws:List Value) (ns' ms':List Int),rest=vs.zip ws/\
   zBO vs ns'/\zBO ws ms'/\ns'.length+items2.size=ms'.length+items.size/\R (.ok (.ret (.bool (lexLe ns' ms')))) ⟨hp,g,d,tk,os⟩) _
  case turn=>
   rintro⟨y,x⟩ rest b s' ⟨hb',rfl,vs,ws,ns',ms',hz,hvi,hwi,hW,hR⟩;cases hvi with
   |nil=>rw[zGe]at hz;cases hz
   |cons a t hvi'=>
    cases hwi with
    |nil=>rw[zGR]at hz;cases hz
    |cons c u hwi'=>
     rw[zBB]at hz;injection hz with hyx hrest
     injection hyx with hy hx
     subst hy hx;rw[aAa]at hR;simp only[zA6]at hW;obtain⟨e,he,hiff⟩:=z6 A.in1 ⟨hp,g,d,tk,os⟩ a t c u;refine zAD (he prog w _ _ ?_);cases e with
     |true=>
      rw[if_pos (hiff.mp rfl)]at hR;wp_walk;exact⟨rfl,rfl,_,_,_,_,hrest,hvi',hwi',by lia,hR⟩
     |false=>
      rw[if_neg (λ q=>absurd (hiff.mpr q) zAc)]at hR;have hri:=aD1 A.in1 ⟨hp,g,d,tk,os⟩ a t c u prog w;wp_walk using hri;exact⟨_,rfl,by simpa using hR⟩
  case fin=>
   rintro⟨b1,b2⟩ s' ⟨hb',rfl,vs,ws,ns',ms',hz,hvi,hwi,hW,hR⟩;simp only at hb';subst hb';have hv:lexLe ns' ms'=decide (items.size<=items2.size):=by
    cases hvi with
    |nil=>
     simp only[zBH]at hW;have e:lexLe [] ms'=true:=by cases ms'<;>rfl
     rw[e];exact(decide_eq_true (by lia)).symm
    |cons a t hv=>
     cases hwi with
     |nil=>
      simp only[zBH,zA6]at hW;show false=_;exact(decide_eq_false (by lia)).symm
     |cons c u hw=>
      rw[zBB]at hz;cases hz
   rw[hv]at hR;wp_walk;exact⟨_,rfl,by simpa[zBe]using hR⟩
  case h=>
   exact⟨rfl,rfl,items.toList,items2.toList,ns,ms,rfl,hi,hj,by lia,h⟩
end
section
variable{prog:zAP}{w:World}{A:zAZ}{E:Value->zAB->Prop}{s:zAB}
def aAc(hl:IsTup s.heap l items)(hb:IsTup s.heap b items2)(hi:zBO items.toList ns)(hj:zBO items2.toList ms)
  (hu:A.units<cLine)(h:Q (.bool (lexLe ns ms)) s):wpAny (model prog w) A (zAm .LtE (.ref l) (.ref b)) Q E s:=by
 obtain⟨⟨cls,dd,data,sl⟩,ho,hc,n,hd⟩:=id hl;obtain⟨⟨cls2,dd2,data2,sl2⟩,ho2,hc2,n2,hd2⟩:=id hb;simp only at hc hd hc2 hd2;subst hc hd hc2 hd2;exact zCz (op:=.LtE) ⟨_,ho,rfl⟩ ⟨_,ho2,rfl⟩ PySem.F.slot_tuple_le PySem.F.entry_tuple_le (PySem.F.args_tuple_le_2 _ _) (uY l b items items2 n n2 dd dd2 sl sl2 ns ms hi hj)
  ⟨ho,ho2,show zBp (lexLe ns ms)≠zCx/\Q (.bool (lexLe ns ms)) s from⟨(λ x=>nomatch x),h⟩⟩ hu
def aEq{ws:List Value}(ht:IsTup s.heap t #[])(hb:IsTup s.heap b ws.toArray)(h1:Q (.ref b) s):wpAny (model prog w) A (zB3 .Add (.ref t) (.ref b)) Q E s:=by
 obtain⟨⟨cls,dd,data,sl⟩,ho,hc,n,hd⟩:=id ht;obtain⟨⟨cls2,dd2,data2,sl2⟩,ho2,hc2,n2,hd2⟩:=id hb;simp only at hc hd hc2 hd2;subst hc hd hc2 hd2;exact zHC ⟨_,ho,rfl⟩ ⟨_,ho2,rfl⟩ zF1 zGZ zD9 zD1 (zDV _ _)
   (tuple_addW0 t b #[] ws.toArray n n2 dd dd2 sl sl2 (by simp)) ⟨ho,ho2,h1⟩
end
end HT
namespace L2
open PySem PySem.Spec PyProof.Rows
def aGK(t T:String):Bool:=decide (t=T)||(decide (t="bool")&&decide (T="int"))
def aGF{K:zAA}(ht:t∈["NoneType","bool","int","str","list","tuple","dict"])(hT:T∈["bool","int","str","list","tuple","dict"]):
  zB2 K (.type t) (.type T)=some (aGK t T):=by
 simp only[zAX,zBh,or_false]at ht hT;rcases ht with rfl|rfl|rfl|rfl|rfl|rfl|rfl<;>rcases hT with rfl|rfl|rfl|rfl|rfl|rfl<;>kernel_rfl
def mV(t T:String)(b:Bool):Bool:=decide (t∈["NoneType","bool","int","str","list","tuple","dict"])&&decide (T∈["bool","int","str","list","tuple","dict"])&&(aGK t T==b)
def aAh{K:zAA}(h:mV t T b=true):zB2 K (.type t) (.type T)=some b:=by
 unfold mV at h;rw[zAE,zAE]at h;rw[aGF (of_decide_eq_true h.1.1) (of_decide_eq_true h.1.2),zD2 h.2]
def cJ(h:H p=none)(o:HO):aO H (upd H p o):=λ b u q=>by rw[aX (bT q h)];exact q
section
variable{X:Cx}
def aKQ(K:zAA):List V->Hp->VK->Prop:=λ xs H Q=>∃x T t b,xs=[x,.ty T]/\qK K H x (.type t)/\mV t T b=true/\Q (.bl b) H
def jb:dM X (.builtin "isinstance") (aKQ X.K):=by
 intro hV s Z H xs us Q I r h;obtain⟨x,T,t,b,rfl,ty,ok,q⟩:=h;obtain⟨u,w',rfl,r1,r2⟩:=vals2 r;obtain rfl:w'=zDt T:=r2;exact aC4 I r1 ty (aAh ok) λ tk=>⟨.bl b,H,I.tok tk,rfl,q⟩
def aF5(K:zAA):R2:=λ x y H Q=>∃a b ns ms,x= .ref a/\y= .ref b/\SqT K H a (ns.map V.int)/\SqT K H b (ms.map V.int)/\Q (.bl (HT.lexLe ns ms)) H
def aII(hu:X.A.units<cLine):OpR X (zAm .LtE) (aF5 X.K):=by
 intro hV s Z H x y v u Q I rx ry h;obtain⟨a,b,ns,ms,rfl,rfl,ha,hb,q⟩:=h;cases rx;cases ry;obtain⟨its,r1,p1,_⟩:=I.tuple ha;obtain⟨its2,r2,p2,_⟩:=I.tuple hb;have i1:zBO its.toArray.toList ns:=intsAre_of r1;have i2:zBO its2.toArray.toList ms:=intsAre_of r2;exact HT.aAc p1 p2 i1 i2 hu ⟨.bl (HT.lexLe ns ms),H,I,rfl,q⟩
end
def lW(l:Addr)(H H':Hp):Prop:=∀b o,b≠l->H b=some o->H' b=some o
def aO.sqt{K:zAA}(e:aO H H')(h:SqT K H a xs):SqT K H' a xs:=by
 rcases h with (h|⟨o,h⟩)|h
 .exact .inl (.inl (e _ _ h))
 .exact .inl (.inr ⟨o,e _ _ h⟩)
 .exact .inr h
inductive D where
 |non|bl (b:Bool)|int (i:Int)|str (x:Str)|tup (l:List D)|lst (l:List D)|dct
mutual
inductive Rep(H:Hp):V->D->Prop where
 |non:Rep H .non .non
 |bl (b:Bool):Rep H (.bl b) (.bl b)
 |int (i:Int):Rep H (.int i) (.int i)
 |str (x:Str):Rep H (.str x) (.str x)
 |tup {a:Addr} {xs:List V} {ds:List D} (h:H a=some (.tup xs)) (r:aFF H xs ds):Rep H (.ref a) (.tup ds)
 |lst {a:Addr} {xs:List V} {ds:List D} (h:H a=some (.lst xs)) (r:aFF H xs ds):Rep H (.ref a) (.lst ds)
 |dct {a:Addr} (h:H a=some (.dK [])):Rep H (.ref a) .dct
inductive aFF(H:Hp):List V->List D->Prop where
 |nil:aFF H [] []
 |cons {x:V} {d:D} {xs:List V} {ds:List D} (h:Rep H x d) (r:aFF H xs ds):aFF H (x::xs) (d::ds)
end
def PE.weaken(h:PE X e t)(imp:∀Z H Q,t' Z H Q->t Z H Q):PE X e t':=λ hV s Z H Q I q=>h hV s Z H Q I (imp Z H Q q)
def OpR.weaken(h:OpR X f r)(imp:∀x y H Q,r' x y H Q->r x y H Q):OpR X f r':=λ hV s Z H x y v u Q I rx ry q=>h hV s Z H x y v u Q I rx ry (imp x y H Q q)
def dM.weaken(h:dM X f r)(imp:∀xs H Q,r' xs H Q->r xs H Q):dM X f r':=λ hV s Z H xs us Q I rx q=>h hV s Z H xs us Q I rx (imp xs H Q q)
def New(H:Hp)(o:HO)(Q:VK):Prop:=∀p H',aO H H'->H' p=some o->H p=none->Q (.ref p) H'
def New.at(n:New H o Q)(hp:H p=none):Q (.ref p) (upd H p o):=n p _ (cJ hp o) bA hp
section
variable{X:Cx}{es:List Expr}{t:TA}{pos:Pos}
def aJI(t:TA):TE:=λ Z H Q=>t Z H λ xs H1=>xs.length<=zAY/\New H1 (.tup xs) Q
def aCt(t:TA):TE:=λ Z H Q=>t Z H λ xs H1=>xs.length<=zAY/\New H1 (.lst xs) Q
def aFe{x1}(h:PA X es t):PE X (.Tuple es x1 pos) (aJI t):=by
 have h':PA X es (λ Z H Q=>∃R:List V->Hp->Prop,t Z H R/\∀xs H',R xs H'->Q xs H'):=by
  intro pos hV s Z H Q I ⟨R,q,imp⟩;exact thn (h pos hV s Z H R I q) λ us s' ⟨vs,H',I',r,q'⟩=>⟨vs,H',I',r,imp _ _ q'⟩
 exact(aHi h').weaken λ Z H Q q=>⟨_,q,λ xs H' ⟨z,n⟩=>⟨z,λ p hp=>n.at hp⟩⟩
def jq(h:PA X es t):PE X (.List es pos) (aCt t):=by
 have h':PA X es (λ Z H Q=>∃R:List V->Hp->Prop,t Z H R/\∀xs H',R xs H'->Q xs H'):=by
  intro pos hV s Z H Q I ⟨R,q,imp⟩;exact thn (h pos hV s Z H R I q) λ us s' ⟨vs,H',I',r,q'⟩=>⟨vs,H',I',r,imp _ _ q'⟩
 exact(aHl h').weaken λ Z H Q q=>⟨_,q,λ xs H' ⟨z,n⟩=>⟨z,λ p hp=>n.at hp⟩⟩
def aD6:R2:=λ x y H Q=>∃l b xs zs,x= .ref l/\y= .ref b/\H l=some (.lst xs)/\H b=some (.lst zs)/\xs.length+zs.length<=zAY/\New H (.lst (xs++zs)) Q
def w6:OpR X (zB3 .Add) aD6:=aIL.weaken λ x y H Q ⟨l,b,xs,zs,e1,e2,h1,h2,z,n⟩=>⟨l,b,xs,zs,e1,e2,h1,h2,z,λ p hp=>n.at hp⟩
def sr:V->List V->Hp->VK->Prop:=λ x vs H Q=>∃l xs y,x= .ref l/\vs=[y]/\H l=some (.lst xs)/\xs.length<zAY/\∀H',lW l H H'->H' l=some (.lst (xs++[y]))->Q .non H'
def tL:MtM X "list.append" sr:=λ hV s Z H x xs v us Q I rx rv ⟨l,ys,y,e1,e2,h,z,n⟩=>
 vA hV s Z H x xs v us Q I rx rv ⟨l,ys,y,e1,e2,h,z,n _ (λ b o ne hb=>by rw[aX ne];exact hb) bA⟩
end
def aa(scope:Scope)(env:Env):List (Str×Addr):=(scope.names.filterMap λ y=>if y.2== .free then(env.cells.lookup y.1).map λ c=>(y.1,c)else none).reverse
theorem uP(env:Env):∀(names:List (Str×zDU)) (acc:List (Str×Addr)),(∀y∈names,y.2= .free->∃c,env.cells.lookup y.1=some c)->
  (forIn names acc λ(x:Str×zDU) r=>if (x.2== .free)=true then do let c <-cellOf env x.1;pure (zBj ((x.1,c)::r))else pure (zBj r):Sem (List (Str×Addr)))=
   pure ((names.filterMap λ y=>if y.2== .free then(env.cells.lookup y.1).map λ c=>(y.1,c)else none).reverse++acc)
 |[],acc,_=>rfl
 |(n,k)::r,acc,h=>by
  rw[List.forIn_cons];have ih:=λ acc'=>uP env r acc' λ y hy=>h y (zAK _ hy)
  by_cases hk:k= .free
  .subst hk
   obtain⟨c,hc⟩:=h (n,.free) zAI rfl;have hc':env.cells.lookup n=some c:=hc;simp only[beq_self_eq_true,if_true,cellOf,hc',zBJ,zC7,List.reverse_cons,zCl,List.singleton_append];exact ih _
  .have hb:(k==zBc)=false:=by simpa using hk
   simp only[hb,zAo,if_false,zBJ];exact ih _
def jV(h:∀y∈scope.names,y.2= .free->∃c,env.cells.lookup y.1=some c):zFL scope env=pure (aa scope env):=by
 have e:=uP env scope.names [] h;rw[zBF]at e;have e2:zFL scope env=((forIn scope.names ([]:List (Str×Addr)) λ(x:Str×zDU) r=>if (x.2== .free)=true then do let c <-cellOf env x.1;pure (zBj ((x.1,c)::r))else pure (zBj r):Sem (List (Str×Addr)))>>=λ r=>pure r):=rfl;rw[e2,e];rfl
def eG(h:(aa scope env).lookup x=some c):env.cells.lookup x=some c:=by
 have hm:=zA9 h;unfold aa at hm;rw[zGt,zBi]at hm;obtain⟨y,hy,e⟩:=hm;split at e
 .cases q:env.cells.lookup y.1 with
  |none=>rw[q]at e;cases e
  |some c'=>
   rw[q]at e;have e':=zA8 e;injection e' with e1 e2
   subst e1 e2;exact q
 .cases e
def oZ(hx:scope.names.lookup x=some .free)(h:env.cells.lookup x=some c):(aa scope env).lookup x=some c:=by
 have hm:(x,zBc)∈scope.names:=zA9 hx
 have:(x,c)∈aa scope env:=by
  unfold aa;rw[zGt,zBi];exact⟨_,hm,by simp[h]⟩
 cases q:(aa scope env).lookup x with
 |none=>
  exact absurd this (by
   intro hm'
   have:=List.lookup_eq_none_iff.mp q _ hm'
   simp at this)
 |some c'=>
  have:=eG q
  rw[h]at this;exact this.symm▸rfl
def qx(scope:Scope)(C:Addr):List (Str×Addr):=zC8 (C+1) scope.names []
theorem j9:∀(names:List (Str×zDU)) (n:Nat) (acc:List (Str×Addr)),zC8 n names acc=zC8 n names []++acc
 |[],_,_=>rfl
 |(x,k)::r,n,acc=>by
  unfold zC8;split
  .rw[j9 r (n+1) ((x,n)::acc),j9 r (n+1) [(x,n)],zCl];rfl
  .exact j9 r n acc
theorem n8:∀{names:List (Str×zDU)} {n:Nat} {x:Str} {c:Addr},(x,c)∈zC8 n names []->(x,zCr)∈names
 |(y,k)::r,n,x,c,h=>by
  unfold zC8 at h;split at h
  .rename_i hk
   rw[j9,zBI]at h;rcases h with h|h
   .exact zAK _ (n8 h)
   .have e:=zBD.mp h
    cases e;rw[zD2 hk];exact zAI
  .exact zAK _ (n8 h)
 |[],_,_,_,h=>by cases h
def j6{l m:List (Str×Addr)}(h:(l++m).lookup x=some c):l.lookup x=some c\/(l.lookup x=none/\m.lookup x=some c):=by
 rw[zET]at h;cases e:l.lookup x with
 |some c'=>rw[e]at h;exact .inl h
 |none=>rw[e]at h;exact .inr ⟨rfl,h⟩
def aFt{M:Model}{A:zAZ}{E:Value->zAB->Prop}{s:zAB}{scope:Scope}{globals:Addr}{cl:List (Str×Addr)}{qual:Str}{env:Env}{Q:Env->zAB->Prop}
  (h:∀h':Heap,h'.Ns s.heap.objs.size (λ _=>none)->(∀b o,s.heap.get? b=some o->h'.get? b=some o)->CellsOk h' (s.heap.objs.size+1) (qx scope s.heap.objs.size)->
   Q {scope:=scope,locals:=s.heap.objs.size,globals:=globals,cells:=qx scope s.heap.objs.size++cl,qual:=qual,func:=none,code:=env.code,frame:=env.frame,builtins:=env.builtins} {s with heap:=h'}):
  wpAny M A (zGB scope globals cl [] qual none .none (some env)) Q E s:=by
 simp only[zGB,Option.isSome_some,if_true];refine zAD (wpAny_alloc ?_);refine zAD (wpAny_layCells _ (λ name kind cells=>by cases hkc:kind==zCr<;>simp[hkc]) _ _ _ _ ?_);have ok:=cellsFrom_ok scope.names (s.heap.push {cls:=.type "dict",data:=.dict #[]}) (s.heap.objs.size+1) [] ⟨λ _ _ hm=>(nomatch hm),zEy⟩ (by rw[zB5];exact zAW _);rw[zB5]at ok;rw[show({s with heap:=s.heap.push {cls:=.type "dict",data:=.dict #[]}}:zAB).heap.objs.size=s.heap.objs.size+1 from zB5 ..,j9];refine zAN ?_;exact h _ ((Heap.Ns.new s.heap (.type "dict")).keeps (pushCells_keeps _ _)) (λ b o e=>pushCells_keeps _ _ b o (zAH _ e)) ok
def Cx.block(X:Cx)(scope:Scope)(C:Addr)(N:List Str)(fp:List Addr)(z5:zAB)(zI:Hp):Cx:=
  {prog:=X.prog,w:=X.w,K:=X.K,mg:=X.mg,base:=X.base,A:=X.A,N:=N,z5:=z5,zI:=zI,env:=compEnvC scope (qx scope C++aa scope X.env) C X.env,outer:=X.stack,stack:=X.stack,ex:=fp,
    fn:=λ x=>scope.names.lookup x==some .cell,calm:=X.calm,pn:=[],xe:=λ _ _=>False}
structure gK(X:Cx)(scope:Scope)(N:List Str)(st:St->St)(ks:List Nat):Prop where
 kind:scope.kind= .function
 sep:∀y∈scope.names,y.2= .cell->scope.names.lookup y.1=some .cell
 loc:∀y∈scope.names,y.2= .local->scope.names.lookup y.1=some .local
 free:∀y∈scope.names,y.2= .free->X.env.kindOf y.1=some .cell\/X.env.kindOf y.1=some .free
 len:∀Z,(st Z).length=N.length
 val:∀Z (i:Nat) x v,N[i]? =some x->(st Z)[i]? =some (some v)->scope.names.lookup x=some .free/\i∉ks/\∃j:Nat,X.N[j]? =some x/\Z[j]? =some (some v)
def wU(h:(zFh scope env).names.lookup x=some .cell\/(zFh scope env).names.lookup x=some .free):scope.names.lookup x=some .free\/scope.names.lookup x=some .cell:=by
 have go:∀names:List (Str×zDU),((names.map λ(n,k)=>if (k==zBc&&env.scope.kind== .function&&env.kindOf n==some .cell)then(n,zCr)else(n,k)).lookup x=some .cell\/
   (names.map λ(n,k)=>if (k==zBc&&env.scope.kind== .function&&env.kindOf n==some .cell)then(n,zCr)else(n,k)).lookup x=some .free)->names.lookup x=some .free\/names.lookup x=some .cell:=by
  intro names;induction names with
  |nil=>intro h;simp at h
  |cons y r ih=>
   obtain⟨n,k⟩:=y;intro h;rw[zA7]at h;by_cases hx:x==n
   .rw[zAk,hx]
    show some k=some .free\/some k=some .cell;by_cases hcc:(k==zBc&&env.scope.kind== .function&&env.kindOf n==some .cell)=true
    .rw[zAE,zAE]at hcc
     rw[zD2 hcc.1.1];exact .inl rfl
    .simp only[if_neg hcc,zAk,hx]at h
     exact h.elim .inr .inl
   .have hx':(x==n)=false:=by simpa using hx
    rw[zAk,hx'];refine ih ?_;by_cases hcc:(k==zBc&&env.scope.kind== .function&&env.kindOf n==some .cell)=true
    .simp only[if_pos hcc,zAk,hx']at h
     exact h
    .simp only[if_neg hcc,zAk,hx']at h
     exact h
 exact go scope.names h
def wV(h:scope.names.lookup x=some .free):(zFh scope env).names.lookup x=some .cell\/(zFh scope env).names.lookup x=some .free:=by
 have go:∀names:List (Str×zDU),names.lookup x=some .free->((names.map λ(n,k)=>if (k==zBc&&env.scope.kind== .function&&env.kindOf n==some .cell)then(n,zCr)else(n,k)).lookup x=some .cell\/
   (names.map λ(n,k)=>if (k==zBc&&env.scope.kind== .function&&env.kindOf n==some .cell)then(n,zCr)else(n,k)).lookup x=some .free):=by
  intro names;induction names with
  |nil=>intro h;simp at h
  |cons y r ih=>
   obtain⟨n,k⟩:=y;intro h;rw[zA7];by_cases hx:x==n
   .rw[zAk,hx]at h
    have hk:k= .free:=zA8 h;by_cases hcc:(k==zBc&&env.scope.kind== .function&&env.kindOf n==some .cell)=true
    .simp only[if_pos hcc,zAk,hx]
     exact .inl trivial
    .simp only[if_neg hcc,zAk,hx]
     exact .inr (by rw[hk])
   .have hx':(x==n)=false:=by simpa using hx
    rw[zAk,hx']at h;by_cases hcc:(k==zBc&&env.scope.kind== .function&&env.kindOf n==some .cell)=true
    .simp only[if_pos hcc,zAk,hx']
     exact ih h
    .simp only[if_neg hcc,zAk,hx']
     exact ih h
 exact go scope.names h
section
variable{X:Cx}{hV:gV}{Z:St}{H:Hp}{s:zAB}
theorem Inv.block{st:St->St}{D C:Addr}(I:Inv X hV Z H s)(B:gK X scope N st ks)
  (hfp:∀b∈fp,uW X hV H b)(hob:∀b∈fp,∃ob,s.heap.get? b=some ob)
  (hD:s.heap.objs.size<=D)(hC:s.heap.objs.size<=C)(hDC:D≠C)(keep:∀b u,s.heap.get? b=some u->h'.get? b=some u)(hns:h'.Ns C λ _=>none)(hcs:CellsOk h' (C+1) (qx scope C))(hDo:∀c,C<c->D≠c)(kX:cZ X.prog X.w (upd H D o) h' D o):
  Inv (X.block scope C N fp s H) [] (st Z) (upd H D o) {s with heap:=h',toks:=tk}:=by
 have hHD:H D=none:=I.hok.fresh hD;have hcl:∀x c,(aa scope X.env).lookup x=some c->X.env.cells.lookup x=some c:=λ x c e=>eG e
 have hol:∀x c,(qx scope C).lookup x=some c->C<c/\h'.IsCell c none:=λ x c e=>let⟨q1,q2⟩:=hcs.empty x c (zA9 e);⟨q2,q1⟩
 have hlt:∀x c,(aa scope X.env).lookup x=some c->c<s.heap.objs.size:=λ x c e=>let⟨v,ic⟩:=I.cell x c (hcl x c e);ic.lt
 have aS:∀b∈fp,b<s.heap.objs.size:=λ b hb=>by
  obtain⟨ob,e⟩:=hob b hb;exact zAM e
 refine⟨⟨I.mod,?_,I.ok.glob,I.ok.blt,hC,λ x y c e1 e2=>?_,λ x hx=>?_,λ x c hf e=>?_,I.ok.hd,I.ok.frames,.inl rfl,λ b hb=>⟨?_,λ x c e z=>?_⟩,
  I.bs,?_,λ b ob e hb=>?_,λ b hb hs=>?_,I.stack,I.stkFree⟩,rfl,I.bare,Un.laid keep hD hHD,⟨_,hns,λ i x v e1 e2 hv=>?_⟩,λ x c e=>?_,?_,λ x c e=>?_,λ p hp=>absurd (show p∈([]:gV)from hp) (by simp),I.hok.laid keep hD kX,B.len Z,λ p hp=>absurd (show p∈([]:gV)from hp) (by simp)⟩
 .show(zFh scope X.env).kind= .function
  exact B.kind
 .rcases j6 e1 with a1|⟨_,a1⟩<;>rcases j6 e2 with a2|⟨_,a2⟩
  .exact PySem.name_of_addr hcs.apart (zA9 a1) (zA9 a2)
  .exact absurd (hlt y c a2) (zF6.mpr (zAd hC (zB7 (hol x c a1).1)))
  .exact absurd (hlt x c a1) (zF6.mpr (zAd hC (zB7 (hol y c a2).1)))
  .exact I.ok.inj x y c (hcl x c a1) (hcl y c a2)
 .show∃c,(qx scope C++aa scope X.env).lookup x=some c
  rw[zET];cases e:(qx scope C).lookup x with
  |some c=>exact⟨c,rfl⟩
  |none=>
   rcases wU hx with hfree|hcell
   .obtain⟨c,hc⟩:=I.ok.has x (B.free (x,.free) (zA9 hfree) rfl)
    exact⟨c,oZ hfree hc⟩
   .obtain⟨c,hc⟩:=o6 (n:=C+1) hcell
    rw[show(qx scope C).lookup x=some c from hc]at e;cases e
 .rcases j6 e with a1|⟨a0,_⟩
  .exact zAd hC (zB7 (hol x c a1).1)
  .obtain⟨c',hc'⟩:=o6 (n:=C+1) (zD2 hf)
   rw[show(qx scope C).lookup x=some c' from hc']at a0;cases a0
 .exact zA1 (zAO (aS b hb) hC)
 .rcases j6 e with a1|⟨_,a1⟩
  .exact absurd (aS b hb) (zF6.mpr (by rw[<-z];exact zAd hC (zB7 (hol x c a1).1)))
  .exact(hfp b hb).2.2.2.2.1 x c (hcl x c a1) z
 .exact zAd I.ok.bsz I.sz
 .rcases(hfp b hb).2.2.2.1 with z|z
  .exact I.ok.noex b ob e z
  .exact absurd (zAO (zAM (I.ok.bs b ob e).1) z) (zBV _)
 .rcases zAX.mp (I.stkSub b hs)with z|z
  .exact(hfp b hb).2.1 z
  .exact(hfp b hb).2.2.1 z
 .obtain⟨hfree,_,j,f1,f2⟩:=B.val Z i x v e1 e2
  obtain⟨m,hn,hl⟩:=I.loc;have hk:=B.free (x,.free) (zA9 hfree) rfl;obtain⟨u,ru,hu⟩:=hl j x v f1 f2 (hk.elim (λ z=>.inr (.inl z)) λ z=>.inr (.inr z));rcases hu with ⟨k,_⟩|⟨_,c,ec,ic⟩
  .rcases hk with z|z
   .exact absurd (k.symm.trans z) (by decide)
   .exact absurd (k.symm.trans z) (by decide)
  .have hno:(qx scope C).lookup x=none:=by
    cases e:(qx scope C).lookup x with
    |none=>rfl
    |some c'=>
     have:=B.sep _ (n8 (zA9 e)) rfl
     rw[hfree]at this;cases this
   refine⟨u,ru,.inr ⟨?_,c,by show(qx scope C++aa scope X.env).lookup x=some c;rw[zET,hno];exact oZ hfree ec,ic.keeps keep⟩⟩;rcases hv with z|z|z
   .have z':(zFh scope X.env).names.lookup x=some .local:=z
    rcases wV (env:=X.env) hfree with y|y
    .exact absurd (z'.symm.trans y) (by decide)
    .exact absurd (z'.symm.trans y) (by decide)
   .exact .inl z
   .exact .inr z
 .rcases j6 e with a1|⟨_,a1⟩
  .exact⟨_,(hol x c a1).2⟩
  .obtain⟨v,ic⟩:=I.cell x c (hcl x c a1)
   exact⟨v,ic.keeps keep⟩
 .show upd H D o C=none
  rw[aX (zDi hDC)];exact I.hok.fresh hC
 .show upd H D o c=none
  rcases j6 e with a1|⟨_,a1⟩
  .rw[aX (zDi (hDo c (hol x c a1).1))]
   exact I.hok.fresh (zAd hC (zB7 (hol x c a1).1))
  .obtain⟨v,ic⟩:=I.cell x c (hcl x c a1)
   rw[aX (zA1 (zAO ic.lt hD))];exact I.freeC x c (hcl x c a1)
end
section
variable{prog:zAP}{w:World}{A:zAZ}{R:zE4->zAB->Prop}{s:zAB}
def xf(I:Nat->zAB->Prop)
  (turn:∀n s,I n s->wpAny (model prog w) A (zE5 it) (λ r zS=>match r with
   |none=>R (.ok .next) zS
   |some v=>wpAny (model prog w) A (zEQ target it v) (λ _ zS=>wpAny (model prog w) A (zEO target env v) (λ _ zD=>
     wpAny (model prog w) A (forIn ifs true λ c r=>if r=true then do let ok <-isTrue c env (eval c env);pure (zBj ok)else pure (zBj r)) (λ ok y9=>
      if ok=true then wpAny (model prog w) A (eval elt env) (λ x s₄=>
       wpAny (model prog w) A (call (.builtin "list.append") [acc,x]) (λ _ s₅=>∃m,m<n/\I m s₅) (λ _ _=>False) s₄) (λ _ _=>False) y9
      else∃m,m<n/\I m y9) (λ _ _=>False) zD) (λ _ _=>False) zS) (λ _ _=>False) zS) (λ _ _=>False) s)
  (n:Nat)(h:I n s):zCP (model prog w) A (.compLoop (.ListComp elt [⟨target,iter,ifs,0⟩] scope pos) 0 it acc env) R s:=by
 refine codeAny_loop rfl I (λ n s hI=>?_) n h;show wpAny _ A ((compTurn (.ListComp elt [⟨target,iter,ifs,0⟩] scope pos) 0 it acc env).onRaise (λ x=>do noteFrame x env;theTreesLotGoes x)) _ _ s;refine wpAny_noted ?_;rw[compTurn_list];refine zAD (zG4 (zAD (zB4 (turn n s hI) (λ r zS zC=>?_) λ _ _ h'=>h'.elim)));cases r with
 |none=>exact zAN zC
 |some v=>
  refine zAD (zB4 zC (λ _ zS zC=>?_) λ _ _ h'=>h'.elim);refine zAD (zB4 zC (λ _ zD h₂=>zAD (zB4 h₂ (λ ok y9 h₃=>?_) λ _ _ h'=>h'.elim)) λ _ _ h'=>h'.elim);cases ok with
  |false=>exact zAN ⟨rfl,h₃⟩
  |true=>
   exact zAD (zAD (zB4 h₃ (λ x s₄ h₄=>zAD (zB4 h₄ (λ _ s₅ h₅=>zAN (zAN ⟨rfl,h₅⟩)) λ _ _ h'=>h'.elim)) λ _ _ h'=>h'.elim))
end
def uV(g:TG)(ks:List Nat):Prop:=∀v Z H (Q:St->Hp->Prop),g v Z H Q->g v Z H (λ Z' H'=>Q Z' H'/\Z'.length=Z.length/\∀k,k∉ks->Z'[k]? =Z[k]?)
def uU(g:TGs)(ks:List Nat):Prop:=∀vs Z H (Q:St->Hp->Prop),g vs Z H Q->g vs Z H (λ Z' H'=>Q Z' H'/\Z'.length=Z.length/\∀k,k∉ks->Z'[k]? =Z[k]?)
def aGX(h:i∈ks):uV (mX i) ks:=λ v Z H Q q=>⟨q,zAp,λ k hk=>zAy (λ(e:i=k)=>hk (e▸h))⟩
def aGW:uU aIe ks:=λ vs Z H Q ⟨e,q⟩=>⟨e,q,rfl,λ _ _=>rfl⟩
def zy(g:TG):Prop:=∀v Z H (Q Q':St->Hp->Prop),(∀Z' H',Q Z' H'->Q' Z' H')->g v Z H Q->g v Z H Q'
def qL(g:TGs):Prop:=∀v Z H (Q Q':St->Hp->Prop),(∀Z' H',Q Z' H'->Q' Z' H')->g v Z H Q->g v Z H Q'
def aGZ:zy (mX i):=λ v Z H Q Q' imp q=>imp _ _ q
def aGY:qL aIe:=λ v Z H Q Q' imp ⟨e,q⟩=>⟨e,imp _ _ q⟩
def aEe(h1:zy t)(h2:qL u):qL (aEg t u):=λ vs Z H Q Q' imp ⟨v,r,e,q⟩=>⟨v,r,e,h1 _ _ _ _ _ (λ Z' H' q'=>h2 _ _ _ _ _ imp q') q⟩
def aEa(h1:uV t ks)(m1:zy t)(h2:uU u ks)(m2:qL u):uU (aEg t u) ks:=λ vs Z H Q ⟨v,r,e,q⟩=>
 ⟨v,r,e,m1 _ _ _ _ _ (λ Z' H' ⟨q',l',k'⟩=>m2 _ _ _ _ _ (λ Z2 H2 ⟨q2,l2,k2⟩=>⟨q2,l2.trans l',λ k hk=>(k2 k hk).trans (k' k hk)⟩) (h2 _ _ _ _ q')) (h1 _ _ _ _ q)⟩
def aIb{K:zAA}(h:uU t ks):uV (aG0 K n t) ks:=λ v Z H Q ⟨a,xs,e1,e2,e3,q⟩=>⟨a,xs,e1,e2,e3,h _ _ _ _ q⟩
def aIc{K:zAA}(h:qL t):zy (aG0 K n t):=λ v Z H Q Q' imp ⟨a,xs,e1,e2,e3,q⟩=>⟨a,xs,e1,e2,e3,h _ _ _ _ _ imp q⟩
def aCo(X:Cx)(ifs:List Expr)(t:TT):Prop:=
 ∀(hV:gV) (s:zAB) (Z:St) (H:Hp) (Q:Bool->Hp->Prop),Inv X hV Z H s->t Z H Q->
  wpAny (model X.prog X.w) X.A (forIn ifs true λ c r=>if r=true then do let ok <-isTrue c X.env (eval c X.env);pure (zBj ok)else pure (zBj r)) (TP X hV Z Q) X.xe s
def aKD:TT:=λ _ H Q=>Q true H
def aHh:aCo X [] aKD:=λ _ _ _ H _ I h=>wpAny_tests_nil ⟨H,I,h⟩
def aHg(h:PT X c t):aCo X [c] t:=λ hV s Z H Q I q=>wpAny_tests_one (h hV s Z H Q I q)
def tLC(wi:TI)(st:St->St)(g:TG)(tt:TT)(te:TE):TE:=λ Z H Q=>wi Z H λ J H1=>∀l,H1 l=none->∃W:Nat->Nat->List V->Hp->Prop,(∃m,W 0 m [] (upd H1 l (.lst [])))/\
 ∀i m acc H2,W i m acc H2->H2 l=some (.lst acc)/\acc.length<zAY/\((J.stop i H2/\Q (.ref l) H2)\/(J.go i H2/\∀x H3,J.yld i H2 x H3->g x (st Z) H3 λ Z4 H4=>tt Z4 H4 λ ok H5=>
  if ok=true then te Z4 H5 λ y H6=>H6 l=some (.lst acc)/\∃m',m'<m/\W (i+1) m' (acc++[y]) (upd H6 l (.lst (acc++[y])))else∃m',m'<m/\W (i+1) m' acc H5))
section
variable{X:Cx}{elt tg iter:Expr}{ifs:List Expr}{scope:Scope}{pos:Pos}{N:List Str}{st:St->St}{ks:List Nat}{wi:TI}{g:TG}{tt:TT}{te:TE}
def zL(B:gK X scope N st ks)(hc:X.calm=true)(hg:∀C fp z5 zI,PG (X.block scope C N fp z5 zI) tg g)(hgo:uV g ks)(ht:∀C fp z5 zI,aCo (X.block scope C N fp z5 zI) ifs tt)
  (he:∀C fp z5 zI,PE (X.block scope C N fp z5 zI) elt te){H1:Hp}{Q:VK}{RR:Value->Addr->zE4->zAB->Prop}
  (I:Inv X hV Z H1 zD)(T:Turn X.prog X.w X.K tg J fp it tn)(h0:tn 0 zD.heap)(hfp:∀b∈fp,uW X hV H1 b)
  (h:∀l,H1 l=none->∃W:Nat->Nat->List V->Hp->Prop,(∃m,W 0 m [] (upd H1 l (.lst [])))/\
   ∀i m acc H2,W i m acc H2->H2 l=some (.lst acc)/\acc.length<zAY/\((J.stop i H2/\Q (.ref l) H2)\/(J.go i H2/\∀x H3,J.yld i H2 x H3->g x (st Z) H3 λ Z4 H4=>tt Z4 H4 λ ok H5=>
    if ok=true then te Z4 H5 λ y H6=>H6 l=some (.lst acc)/\∃m',m'<m/\W (i+1) m' (acc++[y]) (upd H6 l (.lst (acc++[y])))else∃m',m'<m/\W (i+1) m' acc H5)))
  (hRR:∀D C H' s',(∃Z',Inv (X.block scope C N fp zD H1) [] Z' H' s')->zD.heap.objs.size<=C->Q (.ref D) H'->RR (.ref D) C (.ok .next) s'):
  wpAny (model X.prog X.w) X.A (zHP []) (λ acc y9=>wpAny (model X.prog X.w) X.A (zGB scope X.env.globals (aa scope X.env) [] X.env.qual none .none (some X.env)) (λ cenv s₄=>
   zCP (model X.prog X.w) X.A (.compStart (.ListComp elt [⟨tg,iter,ifs,0⟩] scope pos) 0 (.ref it) acc {cenv with scope:=zFh scope X.env}) (RR acc cenv.locals) s₄) E y9) E zD:=by
 refine zC2 (aFt λ zC hns₁ y6 hcs₁=>?_);dsimp only at hns₁ y6 hcs₁ ⊢;generalize hH2:zD.heap.push {cls:=.type "list",dict:=none,data:=.seq ([]:List Value).toArray}=P2 at hns₁ y6 hcs₁ ⊢;have hC:P2.objs.size=zD.heap.objs.size+1:=by rw[<-hH2,zB5]
 have hDC:zD.heap.objs.size≠P2.objs.size:=by rw[hC];exact zA1 (zC4 _)
 have kQ:zD.heap.objs.size<=P2.objs.size:=by rw[hC];exact zEL _
 have old:∀b o,zD.heap.get? b=some o->zC.get? b=some o:=λ b o e=>y6 b o (hH2▸zAH _ e)
 have kX:zC.get? zD.heap.objs.size=some {cls:=.type "list",dict:=none,data:=.seq ([]:List Value).toArray}:=y6 _ _ (hH2▸zAR _ rfl);generalize hCe:P2.objs.size=C at hns₁ y6 hcs₁ hDC kQ hC ⊢;have hHD:H1 zD.heap.objs.size=none:=I.hok.fresh (zAW _);have I0:Inv (X.block scope C N fp zD H1) [] (st Z) (upd H1 zD.heap.objs.size (.lst [])) {zD with heap:=zC,toks:=zD.toks}:=
  I.block B hfp (λ b hb=>by obtain⟨o,e,_⟩:=T.obj 0 _ h0 b hb;exact⟨o,e⟩) (zAW _) kQ hDC old hns₁ hcs₁ (λ c hc=>zA1 (zGf kQ hc)) ⟨zAg _,[],0,.nil,kX⟩
 obtain⟨W,⟨m0,w0⟩,step⟩:=h _ hHD;have h01:tn 0 zC:=T.keep 0 _ _ h0 λ b _ o e=>old b o e
 have yY:∀{H':Hp},(∀b∈fp,H' b=none)->∀b∈fp,uW (X.block scope C N fp zD H1) [] H' b:=λ{H'} hn b hb=>
  ⟨hn b hb,(I0.ok.exf b hb).1,I0.ok.exfs b hb,.inl hb,λ x c e=>(I0.ok.exf b hb).2 x c e,λ p hp=>absurd (show p∈([]:gV)from hp) (by simp)⟩
 have fr0:∀b∈fp,upd H1 zD.heap.objs.size (.lst []) b=none:=λ b hb=>by
  obtain⟨o,e,_⟩:=T.obj 0 _ h0 b hb;rw[aX (zA1 (zAM e))];exact(hfp b hb).1
 have loop:∀y9:zAB,y9={zD with heap:=zC,toks:=zD.toks}->
   zCP (model X.prog X.w) X.A (.compLoop (.ListComp elt [⟨tg,iter,ifs,0⟩] scope pos) 0 (.ref it) (.ref zD.heap.objs.size) (X.block scope C N fp zD H1).env) (RR (.ref zD.heap.objs.size) C) y9:=by
  rintro y9 rfl;refine xf (λ n s'=>∃i acc H2,Inv (X.block scope C N fp zD H1) [] (st Z) H2 s'/\tn i s'.heap/\(∀b∈fp,H2 b=none)/\W i n acc H2) ?_ m0 ⟨0,[],_,I0,h01,fr0,w0⟩;rintro n s3 ⟨i,acc,H2,I2,st2,fr2,w2⟩;obtain⟨hl,hz,alt⟩:=step i n acc H2 w2;rcases alt with ⟨stop,q⟩|⟨go,nxt⟩
  .refine thn (T.done (X.block scope C N fp zD H1) rfl rfl rfl hc i [] s3 (st Z) H2 _ I2 (yY fr2) st2 stop) λ r s4 ⟨hr,I4⟩=>?_
   subst hr;exact hRR _ C H2 s4 ⟨_,I4⟩ kQ q
  .refine thn (T.item (X.block scope C N fp zD H1) rfl rfl rfl hc i [] s3 (st Z) H2 _ I2 (yY fr2) st2 go) λ r s4 ⟨u,hr,h4⟩=>?_
   subst hr;refine thn h4 λ _ s5 ⟨x,H5,I5,r5,y5,st5,fr5⟩=>?_
   have I5':=I5.pinned (yY fr5) (T.obj _ _ st5);refine thn (hg C fp zD H1 _ s5 (st Z) H5 x u _ I5' r5 (hgo _ _ _ _ (nxt x H5 y5))) λ _ s6 ⟨Z6,H6,I6,q6,aJg,ag6⟩=>?_
   refine thn (ht C fp zD H1 _ s6 Z6 H6 _ I6 q6) λ ok s7 ⟨H7,I7,q7⟩=>?_
   have again:∀{H9:Hp} {s9:zAB} {acc':List V},Inv (X.block scope C N fp zD H1) ([]++sy fp s5.heap) Z6 H9 s9->(∃m',m'<n/\W (i+1) m' acc' H9)->
     ∃m,m<n/\∃i acc H2,Inv (X.block scope C N fp zD H1) [] (st Z) H2 s9/\tn i s9.heap/\(∀b∈fp,H2 b=none)/\W i m acc H2:=λ{H9 s9 acc'} I9 ⟨m',hm,w9⟩=>by
    have pin9:∀b∈fp,∀o,s5.heap.get? b=some o->s9.heap.get? b=some o/\H9 b=none:=λ b hb o e=>by
     have z:=I9.pin (b,o) (zAa _ (zAa _ (nR hb e)));exact⟨z.1,z.2.1⟩
    refine⟨m',hm,i+1,acc',H9,I9.unpinned.weak (by rw[aJg]) (λ k v e=>?_),T.keep _ _ _ st5 λ b hb o e=>(pin9 b hb o e).1,λ b hb=>?_,w9⟩
    .have hk:k<(st Z).length:=(zAG.mp e).1
     have hkN:k<N.length:=by rw[<-B.len Z];exact hk
     obtain⟨_,hks,_⟩:=B.val Z k _ v (zAC hkN) e;rw[ag6 k hks];exact e
    .obtain⟨o,e,_⟩:=T.obj _ _ st5 b hb
     exact(pin9 b hb o e).2
   cases ok with
   |false=>
    rw[if_neg zAc]at q7 ⊢;exact again I7 q7
   |true=>
    rw[if_pos rfl]at q7 ⊢;refine thn (he C fp zD H1 _ s7 Z6 H7 _ I7 q7) λ u8 s8 ⟨y,H8,I8,r8,hl8,q8⟩=>?_
    refine thn (vA _ s8 Z6 H8 (.ref zD.heap.objs.size) [y] (.ref zD.heap.objs.size) [u8] (λ _ H9=>H9=upd H8 zD.heap.objs.size (.lst (acc++[y]))) I8 rfl (.cons r8 .nil) ⟨_,acc,y,rfl,rfl,hl8,hz,rfl⟩) λ _ s9 ⟨_,H9,I9,_,e9⟩=>?_
    subst e9;exact again I9 q8
 exact codeAny_compStart_list (loop _ rfl) (T.self X.A 0 _ _ _ h01 (loop _ rfl))
def aBo(I:Inv X hV Z H1 zD)(hfp:∀b∈fp,uW X hV H1 b)(h:∃Z',Inv (X.block scope C N fp zD H1) [] Z' H' s'):Inv X hV Z H' s':=by
 obtain⟨Z',J⟩:=h;exact I.call' (ch:=fp) J.os J.base J.hok J.bare λ b hb=>⟨(hfp b hb).2.2.2.1,(hfp b hb).2.1,(hfp b hb).2.2.2.2.1,(hfp b hb).2.2.2.2.2⟩
def aJ2(B:gK X scope N st ks)(hc:X.calm=true)(hi:PI X tg iter wi)(hg:∀C fp z5 zI,PG (X.block scope C N fp z5 zI) tg g)(hgo:uV g ks)(ht:∀C fp z5 zI,aCo (X.block scope C N fp z5 zI) ifs tt)
  (he:∀C fp z5 zI,PE (X.block scope C N fp z5 zI) elt te)(hs:∀x,zBz iter X.env x=pure x:=by intro _;rfl):PE X (.ListComp elt [⟨tg,iter,ifs,0⟩] scope pos) (tLC wi st g tt te):=by
 intro hV s Z H Q I h;have hcl:zFL scope X.env=pure (aa scope X.env):=jV λ y hy hk=>I.ok.has _ (B.free y hy hk)
 rw[eval_ListComp];refine zGO (use:=none) rfl hs hcl B.kind B.loc (thn (hi hV s Z H _ I h) λ v s1 h1=>thn h1 λ itv s2 h2=>?_);obtain⟨it,fp,tn,J,H2,e,I2,T,st2,f2,hq⟩:=h2;subst e;refine zL (RR:=λ acc C=>compPost (model X.prog X.w) X.A X.xe none (EP X hV Z Q) acc C) B hc hg hgo ht he I2 T st2 f2 hq ?_;intro D C H' s' hJ kQ q;have I3:=aBo I2 f2 hJ;obtain⟨Z',J'⟩:=hJ;obtain⟨m,hn,_⟩:=id J'.loc;have hHC:H' C=none:=J'.free;refine⟨m,hn,λ h'' hs''=>⟨.ref D,H',?_,rfl,q⟩⟩;exact I3.turned (t':=s'.toks) (λ b o ne e=>(hs''.2 b ne).trans e) hHC (zCM (zAO I2.lt kQ)) (.inr (zAd I2.sz kQ))
  (λ x c e z=>by obtain⟨v,ic⟩:=I2.cell x c e;exact absurd (zAO ic.lt (by rw[z];exact kQ)) (zBV _))
  (λ p hp z=>absurd (zAO (I2.pinL hp) (by rw[z];exact kQ)) (zBV _))
def yh(hN:X.N.Nodup)(hx1:X.N[i]? =some x)(hx2:Loc X.env.scope x)(B:gK X scope N st ks)(hc:X.calm=true)(hi:PI X tg iter wi)(hg:∀C fp z5 zI,PG (X.block scope C N fp z5 zI) tg g)(hgo:uV g ks)
  (ht:∀C fp z5 zI,aCo (X.block scope C N fp z5 zI) ifs tt)(he:∀C fp z5 zI,PE (X.block scope C N fp z5 zI) elt te)(hsw:zDI (.ListComp elt [⟨tg,iter,ifs,0⟩] scope pos) (some (.Name x pos')) spos.line X.env=pure true)
  (hs:∀x,zBz iter X.env x=pure x:=by intro _;rfl)(hf:X.fn x=true\/X.env.scope.names.lookup x=some .local:=by first|exact .inl rfl|exact .inr rfl|assumption):
  PS X (.Assign [.Name x pos'] (.ListComp elt [⟨tg,iter,ifs,0⟩] scope pos) spos) (yL (tLC wi st g tt te) (mX i)):=by
 intro hV s Z H D I h;have hcl:zFL scope X.env=pure (aa scope X.env):=jV λ y hy hk=>I.ok.has _ (B.free y hy hk)
 rw[exec_Assign_Name_used _ _ _ _ hsw];refine zAD (zG4 (zAD ?_));show wpAny _ _ (do let _ <-comprehension (.ListComp elt [⟨tg,iter,ifs,0⟩] scope pos) scope X.env _ (zHP []) false (eval iter X.env) (some (zEO (.Name x pos') X.env))) _ _ s;refine zAD (zB4 (zGO (use:=some (zEO (.Name x pos') X.env)) (Q:=λ _ s'=>SP X hV D .next s') rfl hs hcl B.kind B.loc (thn (hi hV s Z H _ I h) λ v s1 h1=>thn h1 λ itv s2 h2=>?_)) (λ _ s' hq=>zAN (zAN hq)) λ _ _ e=>e);obtain⟨it,fp,tn,J,H2,e,I2,T,st2,f2,hq⟩:=h2;subst e;refine zL (Q:=λ x H1=>mX i x Z H1 D.nx) (RR:=λ acc C=>compPost (model X.prog X.w) X.A X.xe (some (zEO (.Name x pos') X.env)) (λ _ s'=>SP X hV D .next s') acc C) B hc hg hgo ht he I2 T st2 f2 hq ?_;intro DD C H' s' hJ kQ q;have I3:=aBo I2 f2 hJ;obtain⟨Z',J'⟩:=hJ;obtain⟨m,hn,_⟩:=id J'.loc;have hHC:H' C=none:=J'.free;have neL:C≠X.env.locals:=zCM (zAO I2.lt kQ);have neC:∀x c,X.env.cells.lookup x=some c->c≠C:=λ x c e z=>by obtain⟨v,ic⟩:=I2.cell x c e;exact absurd (zAO ic.lt (by rw[z];exact kQ)) (zBV _)
 show wpAny _ _ (zEO (.Name x pos') X.env (.ref DD)) _ _ _;refine zHm ?_;refine ut I3 hN hx1 hx2 (show RelV (.ref DD) (.ref DD)from rfl) (λ s4 I4 ⟨a,hsa,ha⟩=>?_) hf;have nea:C≠a:=by
  rcases ha with z|z
  .rw[z];exact neL
  .exact zDi (neC _ _ z)
 refine⟨m,hn.sameBut hsa nea,λ h'' hs''=>⟨_,H',?_,q⟩⟩;exact I4.turned (t':=s4.toks) (λ b o ne e=>(hs''.2 b ne).trans e) hHC neL (.inr (zAd I2.sz kQ)) neC
  (λ p hp z=>absurd (zAO (I2.pinL hp) (by rw[z];exact kQ)) (zBV _))
end
def CX1(P:zAP)(w:World):CXT:=λ outer H s E e s'=>∃(ea:Addr) (cls a0:Value) (B:Heap) (H':Hp),e= .ref ea/\s'.os=s.os/\zEK s'.gens/\Un (frs outer) [] H H' s.heap s'.heap/\HOk P w H' B/\zH9 B outer ea cls a0 s'.heap/\
 (∀b o,s.heap.get? b=some o->H b=none->b∉frs outer->B.get? b=some o)/\(∀b o,s.heap.get? b=some o->b∉frs outer->∃o',B.get? b=some o')/\E cls none H'
structure cT(X:Cx)(E:XK):Prop where
 stk:X.stack=X.env::X.outer
 fr:X.env.frame=some X.env.locals
 ex:X.ex=[]
 xe:X.xe=λ e s'=>wpAny (model X.prog X.w) X.A (leaving X.env e) (λ _ s''=>CX1 X.prog X.w X.outer X.zI X.z5 E e s'') (λ e' s''=>CX1 X.prog X.w X.outer X.zI X.z5 E e' s'') s'
def cT.of{K:zAA}:
  cT (rB (CX1 P w) P w K mg base N qual scope f cd A outer z5 zI E) E:=⟨rfl,rfl,rfl,rfl⟩
section
variable{X:Cx}{E:XK}
def aEh{B h':Heap}(hX:X.ex=[])(I:Inv X hV Z H s)
  (a1:∀b o,s.heap.get? b=some o->H b=none->b∉frs X.stack->B.get? b=some o)(a2:∀b o,s.heap.get? b=some o->b∉frs X.stack->∃o',B.get? b=some o')
  (a3:B.StaysIn h')(a4:∀b o,b∈frs X.outer->s.heap.get? b=some o->H b=none->(∀vs,o.data≠.fields vs)->∃sl,h'.get? b=some {o with slots:=sl})
  (a5:∀b o,s.heap.get? b=some o->H b=none->H' b=none)(a6:∀b xs,H b=some (.tup xs)->H' b=some (.tup xs))(a7:∀b o u,H b=some (.frz o u)->H' b=some (.frz o u))(a8:∀b ps,H b=some (.tbl ps)->∃more,H' b=some (.tbl (ps++more))):
  Un (frs X.outer) [] X.zI H' X.z5.heap h'/\(∀b o,X.z5.heap.get? b=some o->X.zI b=none->b∉frs X.outer->B.get? b=some o)/\(∀b o,X.z5.heap.get? b=some o->b∉frs X.outer->∃o',B.get? b=some o'):=by
 have nx:∀b,b∉X.ex:=λ b z=>by rw[hX]at z;cases z
 have noS:∀b o,X.z5.heap.get? b=some o->b∉frs X.outer->b∉frs X.stack:=λ b o e nf hb=>by
  rcases zAX.mp (I.stkSub b hb)with z|z
  .exact absurd z (zA1 (zAO (zAM e) I.ok.above))
  .exact nf z
 have bk:∀b o,X.z5.heap.get? b=some o->X.zI b=none->b∉frs X.outer->B.get? b=some o:=λ b o e n nf=>
  a1 b o (I.base.keep b o e n nf (nx b)) (I.base.free b o e n (nx b)) (noS b o e nf)
 have ba:∀b o,X.z5.heap.get? b=some o->b∉frs X.outer->∃o',B.get? b=some o':=λ b o e nf=>by
  obtain⟨o1,e1⟩:=I.base.there b o e (nx b);exact a2 b o1 e1 (noS b o e nf)
 have sl:∀b o,X.z5.heap.get? b=some o->X.zI b=none->b∈frs X.outer->∃sl,h'.get? b=some {o with slots:=sl}:=λ b o e n hb=>by
  obtain⟨sl1,e1⟩:=I.base.slot b o e n hb (nx b);obtain⟨_,o2,ho2,hnf⟩:=I.ok.funs.mem hb;rw[e]at ho2;cases ho2;obtain⟨sl2,e2⟩:=a4 b _ hb e1 (I.base.free b o e n (nx b)) hnf;exact⟨sl2,e2⟩
 refine⟨⟨λ b o e n nf _=>a3 b o (bk b o e n nf),λ b o e n hb _=>sl b o e n hb,λ b o e n _=>?_,λ b o e _=>?_,λ b xs e=>a6 b xs (I.base.tups b xs e),λ b o u e=>a7 b o u (I.base.frzs b o u e),λ b ps e=>?_⟩,bk,ba⟩
 .obtain⟨o1,e1⟩:=I.base.there b o e (nx b)
  exact a5 b o1 e1 (I.base.free b o e n (nx b))
 .by_cases hb:b∈frs X.outer
  .obtain⟨s2,e2⟩:=sl b o e (I.ok.frf b hb) hb
   exact⟨_,e2⟩
  .obtain⟨o',e'⟩:=ba b o e hb
   exact⟨o',a3 b o' e'⟩
 .obtain⟨m1,e1⟩:=I.base.tbls b ps e
  obtain⟨m2,e2⟩:=a8 b _ e1;exact⟨m1++m2,by rw[e2,zGE]⟩
def cT.pass(D:cT X E):ni (CX1 X.prog X.w) X E:=by
 intro hV Z H s e s' I h;obtain⟨ea,cls,a0,B,H',rfl,os,bare,un,hok,fly,bk,ba,hE⟩:=h;rw[D.xe];have fly':=fly;rw[D.stk]at fly';have hfr:=I.ok.frames;rw[D.stk]at hfr;refine wpAny_leaves_onW (L:=X.env.locals) hfr D.fr fly' λ h' fl up=>?_
 have a4:∀b o,b∈frs X.outer->s.heap.get? b=some o->H b=none->(∀vs,o.data≠.fields vs)->∃sl,h'.get? b=some {o with slots:=sl}:=λ b o hb e n nf=>by
  have hb':b∈frs X.stack:=by
   rw[D.stk];unfold frs;rw[zBJ,D.fr];exact zAK _ hb
  obtain⟨s1,e1⟩:=un.slot b o e n hb' (λ z=>nomatch z);obtain⟨s2,e2⟩:=up b _ e1 nf;exact⟨s2,e2⟩
 obtain⟨u1,u2,u3⟩:=aEh (B:=B) (h':=h') (H':=H') D.ex I bk ba fl.1 a4 (λ b o e n=>un.free b o e n (λ z=>nomatch z)) un.tups un.frzs un.tbls;exact⟨ea,cls,a0,B,H',rfl,os.trans I.os,bare,u1,hok,fl,u2,u3,hE⟩
def cT.raise(D:cT X E){ea:Addr}(I:Inv X hV Z H s)
  (hx:Heap.MadeExcOf s.heap h1 ea cls vs)(hE:E cls none H):X.xe (.ref ea) {s with heap:=h1}:=by
 rw[D.xe];have stk:s.heap.FunFrames X.base X.stack:=I.stack;have hin:∀env∈X.stack,∀a,env.frame=some a->a∈frs X.stack:=λ env he a ha=>zBi.mpr ⟨env,he,ha⟩
 have stk2:=zFT stk hin;have hfr:=I.ok.frames;rw[D.stk]at hfr;have stk3:s.heap.FunFrames (zB6 s.heap (frs X.stack)) (X.env::X.outer):=by rw[<-D.stk];exact stk2
 refine wpAny_leaves_madeW (L:=X.env.locals) (base:=zB6 s.heap (frs X.stack)) hfr D.fr (λ b o q=>zDN _ q) stk3 hx λ h' t fl tup bn up=>?_
 have hok:HOk X.prog X.w H (zB6 s.heap (frs X.stack)):=λ a o e=>by
  refine(I.hok a o e).stay (λ b u hb q=>zBs _ q λ hm=>?_) (λ _ z=>z) λ _ _ z=>z
  have hn:=I.stkFree b hm;rcases hb with z|z
  .rw[z,e]at hn;cases hn
  .rw[z]at hn;cases hn
 obtain⟨u1,u2,u3⟩:=aEh (B:=zB6 s.heap (frs X.stack)) (h':=h') (H':=H) D.ex I (λ b o e n nf=>zBs _ e nf) (λ b o e nf=>⟨o,zBs _ e nf⟩) fl.1
  (λ b o hb e n nf=>up b o (hx.keeps b o e) nf) (λ b o e n=>n) (λ _ _ e=>e) (λ _ _ _ e=>e) (λ b ps e=>⟨#[],by rw[e];simp⟩)
 exact⟨ea,cls,.ref t,_,H,rfl,I.os,I.bare,u1,hok,fl,u2,u3,hE⟩
def cT.own(D:cT X E):zGx (model X.prog X.w) X.A X.env X.xe:=λ e s' h=>by
 rw[D.xe]at h ⊢;exact wpAny_leaving_again (SameStack.refl _) h
end
section
variable{P:zAP}{w:World}{K:zAA}{mg:Str->Option Value}{base:Heap}
def Fun.okX{st:Stmt}(F:Fun K x q st f fd)(S:aY N ps (aF st))(len:∀vs H Q E,sp vs H Q E->vs.length=ps.length)
  (hbody:∀(cdv:Value) (A:zAZ) (outer:List Env) (s:zAB) (H:Hp) (vs:List V) (Q:VK) (E:XK),dJ k (A.deeper (zC9 q (aF st) s.heap.objs.size f cdv))->sp vs H Q E->
   ∃t,PSs (rB (CX1 P w) P w K mg base N q (aF st) f cdv A outer s H E) (cH st) t/\t {nx:=λ _ H'=>Q .non H',rt:=Q} (start N vs) H):cV P w K mg base (CX1 P w) (k+1) f fd ps sp:=by
 obtain⟨oc,od,kV,doc,pm,an,cdv,ct,osl,rfl,lk,hcd⟩:=F.ex;exact aJo lk hcd S len λ A outer s H vs Q E hr hsp=>hbody cdv A outer s H vs Q E hr hsp
end
def bN(K:zAA)(C:Addr):Prop:=zFG K C [.type "ValueError",.type "Exception",.type "BaseException",.type "object"] "ValueError.__new__"=true
def pW{K:zAA}(X:K.In h)(hm:mg x=some (.ref C))(q:bN K C):OwnCls x C [.type "ValueError",.type "Exception",.type "BaseException",.type "object"] "ValueError.__new__" mg h:=by
 refine⟨hm,?_⟩;unfold bN zFG at q;split at q
 .rename_i dd cd sl ho
  split at q
  .rename_i C' bm k0 k1 k2 k3 n k5 hm' hs
   simp only[zAE,beq_iff_eq,zG6]at q;obtain⟨⟨⟨⟨⟨rfl,rfl⟩,hdel⟩,ht⟩,hok⟩,hni⟩:=q;obtain⟨nm,bs,mro,ns,qn,hd,sn,sub,ab,col,del⟩:=cd;dsimp only at hm' hdel hok hni;subst hm' hdel;have hsl:sl=#[k0,k1,k2,k3,some (.builtin "ValueError.__new__"),k5]:=by
    obtain⟨l⟩:=sl;simp only at hs;rw[hs]
   subst hsl;exact⟨bm,ns,nm,qn,bs,hd,sn,sub,ab,col,dd,k0,k1,k2,k3,k5,_,X _ _ ho,.of_isNs (PySem.W.isNs_of_in X hok),PySem.W.nsMap_none_of_in X hok hni,PySem.W.tail_of_in X ht⟩
  .cases q
 .cases q
def aHS(C:Addr)(E:XK)(ta:TA):TS:=λ _ Z H=>ta Z H λ vs H1=>vs.length<=zAY/\E (.ref C) none H1
section
variable{X:Cx}{E:XK}
def aDe(D:cT X E)(hc:X.calm=true){rest:List Expr}(hm:X.mg x=some (.ref C))(hC:bN X.K C)(hg:Gl X x)
  (ha:PA X (y8::rest) ta)(he:zAT (y8::rest) X.env=(false,eval y8 X.env)::zAT rest X.env:=by rfl)
  (hplain:(zCY cpos (zAT rest X.env)).any (·.1)=false:=by rfl)(hd:Nd x:=by decide):
  PS X (.Raise (some (.Call (.Name x np) (y8::rest) [] cpos)) none pos) (aHS C E ta):=by
 intro hV s Z H DD I h;obtain⟨tl,NN,nm,q,bs,hdct,sn,sub,ab,col,dd,k0,k1,k2,k3,k5,mN,hCo,hN,hni,T⟩:=(pW (h:=X.base) I.mod.kin hm hC).obj;have FB:=PySem.F.excBase_ValueError;refine wpAny_Raise_call_subU (C:=C) (nm:=nm) (q:=q) (N:=NN) (bs:=bs) (bm:=tl) (hdct:=hdct) (sn:=sn) (sub:=sub) (ab:=ab) (col:=col) (dd:=dd) (k0:=k0) (k1:=k1) (k2:=k2) (k3:=k3) (k5:=k5)
  FB FB.hasB FB (mN:=mN) (T.hasType FB.hasBase) (I.ok.hd hc) (by rw[he];show(false||(zCY cpos (zAT rest X.env)).any (·.1))=false;rw[hplain];rfl) hni
  (mD I hg hm ⟨rfl,?_⟩ hd)
 have harg:=ha cpos hV s Z H _ I h;rw[he]at harg ⊢;refine zFl (zB4 harg (λ vs zD h₂=>?_) λ _ _ y=>y);obtain⟨xs,H2,I2,rv,hz,hE⟩:=h₂;refine⟨rfl,by show vs.length<=zAY;rw[<-rv.length];exact hz,I2.bk _ _ hCo,hN.keeps I2.bk,T.keeps I2.bk,λ h' ea hx=>D.raise I2 hx hE⟩
end
section
variable{κ:Type}[DecidableEq κ]
end
end L2
namespace Att
open PySem PySem.W PySem.Calls PyProof.Rows
end Att
namespace L2
open PySem PySem.Spec PyProof.Rows
section
variable{κ:Type}[DecidableEq κ]
end
def uf{pos:Pos}{a b:Int}{c cv:Value}(l:List Value)(h:TriplesOk l)(e:zEr pos (l++[zH2 a,zH2 b,c])=some cv):zEr pos l=some cv\/cv=c:=by
 fun_induction TriplesOk l with
 |case1=>
  simp only[zEt,zEr,zH2]at e;split at e
  .exact .inr (zA8 e).symm
  .cases e
 |case2 a' t b' u x rest ih=>
  simp only[zCt,zEr]at e ⊢;split at e
  .rename_i hc;rw[if_pos hc];exact .inl e
  .rename_i hc;rw[if_neg hc];exact ih h e
 |case3 l h1 h2=>exact h.elim
abbrev Cx.noT(X:Cx):Cx:={X with ta:=[]}
section
variable{X:Cx}{hV:gV}{Z:St}{H:Hp}{s:zAB}
theorem Inv.noT(I:Inv X hV Z H s):Inv X.noT hV Z H s:=
 ⟨⟨I.ok.mod,I.ok.kind,I.ok.glob,I.ok.blt,I.ok.above,I.ok.inj,I.ok.has,I.ok.cab,I.ok.hd,I.ok.frames,I.ok.stk,I.ok.exf,I.ok.bs,I.ok.bsz,I.ok.noex,I.ok.exfs,I.ok.funs,I.ok.frf⟩,
  I.os,I.bare,I.base,I.loc,I.cell,I.free,I.freeC,I.pin,I.hok,I.len,λ p hp=>absurd (show p∈([]:gV)from hp) (by simp)⟩
def Inv.ofT{H':Hp}{s':zAB}(I:Inv X hV Z H s)(J:Inv X.noT hV Z H' s')(t:∀p∈X.ta,H' p.1=none/\p.1≠X.env.locals/\p.1∉X.fs/\(∀q∈X.pn++hV,q.1≠p.1)/\∃ps,s'.heap.get? p.1=some {cls:=.none,data:=.fields ps}/\TabOk X.tq H' ps):Inv X hV Z H' s':=
 ⟨I.ok,J.os,J.bare,J.base,J.loc,J.cell,J.free,J.freeC,J.pin,J.hok,J.len,t⟩
structure qu(X:Cx)(P:Addr):Prop where
 ta:∃o,X.ta=[(P,o)]
 ex:P∈X.ex
 tq:X.tq=X.env.qual++"<lambda>"
 code:∃c,X.env.code= .ref c/\zGh X.base c P
 blt:X.base.BuiltinsAt X.mg P
 gne:zAV≠P
def zu(q:Str)(params:zCn)(body:Expr)(scope:Scope)(cl:List (Str×Addr))(pm:Value)(H:Hp)(f c':Addr)(ctv:Value):Prop:=
 H f=some (.frz (zCF "<lambda>" q params body scope cl pm c' ctv) (.own f))/\∃oc,H c'=some (.frz oc (.own c'))/\aHK q oc
def aEK{P:Addr}{params:zCn}{body:Expr}{scope:Scope}{pos:Pos}{Q:Value->zAB->Prop}{E:Value->zAB->Prop}(Lx:qu X P)(I:Inv X hV Z H s)(hdef:zHj params X.env=([],[]))
  (hfree:∀y∈scope.names,y.2= .free->X.env.kindOf y.1=some .cell\/X.env.kindOf y.1=some .free)
  (h:∀(f c':Addr) (ctv:Value) (H':Hp) (s':zAB),Inv X hV Z H' s'->aO H H'->zu X.tq params body scope (aa scope X.env) ((X.mg "__name__").getD .none) H' f c' ctv->Q (.ref f) s'):
  wpAny (model X.prog X.w) X.A (eval (.Lambda params body scope pos) X.env) Q E s:=by
 obtain⟨o0,hta⟩:=Lx.ta;obtain⟨c,hcode,hC⟩:=Lx.code;obtain⟨hPn,hPL,hPf,hPp,ps,hP,ht⟩:=I.tab (P,o0) (by rw[hta];exact zAI);dsimp only at hPn hPL hPf hPp hP;have hcl:zFL scope X.env=pure (aa scope X.env):=jV λ y hy hk=>I.ok.has _ (hfree y hy hk)
 have hgs:s.heap.Ns zAV X.mg:=by
  obtain⟨o,es,ep,e,r⟩:=I.ok.mod.glob;exact⟨o,es,ep,I.bk _ _ e,r⟩
 have hC':zGh s.heap c P:=hC.keeps I.bk;have hb:s.heap.BuiltinsAt X.mg P:=by
  obtain⟨bm,ob,b1,b2,b3,b4,b5,b6⟩:=Lx.blt;exact⟨bm,ob,b1,b2,b3,b4,I.bk _ _ b5,b6⟩
 refine PySem.W.kla_eval hdef ?_;rw[<-Lx.tq];cases hf:zEr pos ps.toList with
 |some cv=>
  obtain⟨c',oc,rfl,hc',hco⟩:=ht.2 pos cv hf;refine PySem.W.kla_makeFunctionHit hcl I.ok.glob hgs hcode hC' hP ht.1 hf hb λ ctv h' tk k hsz=>?_
  have hfr:H h'.objs.size=none:=I.hok.fresh hsz;have sm:aO H (upd H h'.objs.size (.frz (zCF "<lambda>" X.tq params body scope (aa scope X.env) ((X.mg "__name__").getD .none) c' ctv) (.own h'.objs.size))):=λ b u e=>by rw[aX (bT e hfr)];exact e
  have I':=I.laid (h':=h'.push (zCF "<lambda>" X.tq params body scope (aa scope X.env) ((X.mg "__name__").getD .none) c' ctv)) (t':=tk) (a:=h'.objs.size) (o:=.frz (zCF "<lambda>" X.tq params body scope (aa scope X.env) ((X.mg "__name__").getD .none) c' ctv) (.own h'.objs.size)) (λ b u e=>zAH _ (k b u e)) hsz
   ⟨zAR _ rfl,_,zAR _ rfl⟩
  exact h _ c' ctv _ _ I' sm ⟨bA,oc,sm _ _ hc',hco⟩
 |none=>
  refine PySem.W.kla_makeFunction hcl I.ok.glob hgs hcode hC' hP ht.1 hf Lx.gne hb λ c' ctv h' tk hx hge hlt hrec htb=>?_
  obtain⟨c2,oc,vs,t,e2,hoc,hd,hv⟩:=hrec;cases e2;have hcn:H c'=none:=I.hok.fresh hge;have hfn:H h'.objs.size=none:=I.hok.fresh (zAd hge (zB7 hlt));have neT:∀b u,H b=some u->b≠c':=λ b u e=>bT e hcn
  have neP:∀b u,H b=some u->b≠P:=λ b u e=>bT e hPn
  have sm:aO H (upd H c' (.frz oc (.own c'))):=λ b u e=>by rw[aX (neT b u e)];exact e
  have hcne:∀x a,X.env.cells.lookup x=some a->a≠P:=λ x a e z=>by
   obtain⟨v,o,ho,hdd⟩:=I.cell x a e;rw[z,hP]at ho;cases ho;cases hdd
  have J:Inv X.noT hV Z (upd H c' (.frz oc (.own c'))) {s with heap:=h',toks:=tk}:=by
   refine I.noT.step (g':=s.gens) (d':=s.drawn) (ch:=[P]) (λ b hb'=>?_) (λ b o _ _ hc e _=>hx b o (λ z=>hc (by simp[z])) e) (λ b o _ _ hc e _=>⟨o.slots,hx b o (λ z=>hc (by simp[z])) e⟩)
    (λ b o _ e n=>by rw[aX (zA1 (zAO (zAM e) hge))];exact n) (λ b o hc e=>⟨o,hx b o (λ z=>hc (by simp[z])) e⟩)
    (λ b xs e=>sm _ _ e) (λ b o u e=>sm _ _ e) (λ b ps e=>⟨#[],by rw[sm _ _ e];simp⟩) (λ m hm=>hm.extBut hx (λ z=>hPL z.symm)) (λ b u e=>?_) I.bare
   .have e:b=P:=by simpa using hb'
    subst e;exact⟨.inl Lx.ex,hPL,λ x c e=>hcne x c e,λ p hp=>hPp p hp⟩
   .by_cases hbc:b=c'
    .subst hbc
     rw[bA]at e;cases e;exact⟨hoc,oc,hoc⟩
    .rw[aX hbc]at e
     refine(I.hok b u e).stay (λ d v hd' q=>hx d v ?_ q) (λ d q=>sm _ _ q) λ d xs q=>sm _ _ q
     rcases hd' with z|z
     .rw[z];exact neP b u e
     .exact neP d _ z
  have I':=I.ofT J λ p hp=>by
   rw[hta]at hp;have e:p=(P,o0):=by simpa using hp
   subst e;refine⟨by rw[aX (zA1 (zAO (zAM hP) hge))];exact hPn,hPL,hPf,hPp,_,htb,?_⟩;refine⟨?_,λ pos2 cv e=>?_⟩
   .rw[zFp]
    exact TriplesOk_snoc _ _ _ _ ht.1
   .rw[zFp]at e
    rcases uf _ ht.1 e with z|z
    .obtain⟨c2,oc2,z1,z2,z3⟩:=ht.2 pos2 cv z
     exact⟨c2,oc2,z1,sm _ _ z2,z3⟩
    .exact⟨c',oc,z,bA,vs,t,hd,hv⟩
  have hfr:upd H c' (.frz oc (.own c')) h'.objs.size=none:=by rw[aX (zCM hlt)];exact hfn
  have sm2:aO (upd H c' (.frz oc (.own c'))) (upd (upd H c' (.frz oc (.own c'))) h'.objs.size (.frz (zCF "<lambda>" X.tq params body scope (aa scope X.env) ((X.mg "__name__").getD .none) c' ctv) (.own h'.objs.size))):=λ b u e=>by rw[aX (bT e hfr)];exact e
  have I2:=I'.laid (h':=h'.push (zCF "<lambda>" X.tq params body scope (aa scope X.env) ((X.mg "__name__").getD .none) c' ctv)) (t':=tk) (a:=h'.objs.size) (o:=.frz (zCF "<lambda>" X.tq params body scope (aa scope X.env) ((X.mg "__name__").getD .none) c' ctv) (.own h'.objs.size)) (λ b u e=>zAH _ e) (zAW _)
   ⟨zAR _ rfl,_,zAR _ rfl⟩
  exact h _ c' ctv _ _ I2 (sm.trans sm2) ⟨bA,oc,sm2 _ _ bA,vs,t,hd,hv⟩
def aKJ(q:Str)(params:zCn)(body:Expr)(scope:Scope)(cl:List (Str×Addr))(pm:Value):TE:=λ Z H Q=>∀f c' ctv H',aO H H'->zu q params body scope cl pm H' f c' ctv->Q (.ref f) H'
def aHm{P:Addr}{params:zCn}{body:Expr}{scope:Scope}{pos:Pos}(Lx:qu X P)(hdef:zHj params X.env=([],[]))
  (hfree:∀y∈scope.names,y.2= .free->X.env.kindOf y.1=some .cell\/X.env.kindOf y.1=some .free):PE X (.Lambda params body scope pos) (aKJ X.tq params body scope (aa scope X.env) ((X.mg "__name__").getD .none)):=
 λ hV s Z H Q I h=>aEK Lx I hdef hfree λ f c' ctv H' s' I' sm l=>⟨.ref f,H',I',rfl,h f c' ctv H' sm l⟩
end
def aAF(X:Cx)(k0:Nat)(i:Nat)(E:XK):TE:=λ Z H Q=>∃f cls dd sl fd k sp,Z[i]? =some (some (.ref f))/\H f=some (.frz ⟨cls,dd,.func fd,sl⟩ (.own f))/\cV X.prog X.w X.K X.mg X.base (CX1 X.prog X.w) k f fd [] sp/\k<=k0/\Binds X.K fd [] []/\sp [] H Q E
def aDj{X:Cx}{k0 i:Nat}{y:Str}{p pos:Pos}{E:XK}(hr:dJ k0 X.A)(hx:ni (CX1 X.prog X.w) X E)(hN:X.N[i]? =some y)(hv:Vis X.env.scope y)(hd:Nd y:=by decide)(hcd:(y==("__classdict__":Str))=false:=by decide):
  PE X (.Call (.Name y p) [] [] pos) (aAF X k0 i E):=by
 intro hV s Z H Q I ⟨f,cls,dd,sl,fd,k,sp,hs,hf,F,hk,hb,h⟩;have fin:wpAny (model X.prog X.w) X.A (eval (.Name y p) X.env) (λ v s'=>v= .ref f/\s'=s) X.xe s:=by
  obtain⟨mm,hnn,hl⟩:=I.loc;obtain⟨u,ru,l⟩:=hl i y _ hN hs hv;cases ru;rcases l with ⟨hk2,hm⟩|⟨hk2,c,hc,hcell⟩
  .exact zEW (zE1 I.ok.kind hk2 hnn hm ⟨rfl,rfl⟩) hd
  .rcases hk2 with hk2|hk2
   .exact zEW (zEd I.ok.kind hk2 hc hcell ⟨rfl,rfl⟩) hd
   .exact zEW (zHR I.ok.kind hk2 hc hcell ⟨rfl,rfl⟩ hcd) hd
 refine zCS (thn fin λ v s' ⟨ev,es'⟩=>?_);subst ev es';obtain⟨ho,_⟩:s'.heap.get? f=some _/\_:=I.hok f _ hf;have KX:PySem.W.Frag.In [(f,⟨cls,dd,.func fd,sl⟩)] s'.heap:=λ b o e=>by
  rw[zAk]at e;by_cases hbf:b=f
  .subst hbf
   simp only[beq_self_eq_true]at e;cases e;exact ho
  .simp only[beq_eq_false_iff_ne.mpr hbf]at e
   cases e
 exact PySem.W.callWith_K0 (K:=[(f,⟨cls,dd,.func fd,sl⟩)]) KX (by simp[zBR,zAk]) (aDT (us:=[]) F (hr.mono hk) hb .nil hx I .nil h)
def cxL(P:zAP)(w:World)(K:zAA)(mg:Str->Option Value)(base:Heap)(N:List Str)(q:Str)(scope:Scope)(cl:List (Str×Addr))(f:Addr)(cd:Value)(A:zAZ)(outer:List Env)(s:zAB)(H:Hp)(E:XK):Cx where
 prog:=P
 w:=w
 K:=K
 mg:=mg
 base:=base
 A:=A.deeper (zC0 q scope s.heap.objs.size f cd cl)
 N:=N
 z5:=s
 zI:=H
 env:=zC0 q scope s.heap.objs.size f cd cl
 outer:=outer
 stack:=zC0 q scope s.heap.objs.size f cd cl::outer
 ex:=[]
 calm:=true
 fn:=λ _=>false
 pn:=[]
 xe:=λ e s'=>wpAny (model P w) (A.deeper (zC0 q scope s.heap.objs.size f cd cl)) (leaving (zC0 q scope s.heap.objs.size f cd cl) e) (λ _ s''=>CX1 P w outer H s E e s'') (λ e' s''=>CX1 P w outer H s E e' s'') s'
def cT.ofL{P:zAP}{w:World}{K:zAA}{mg:Str->Option Value}{base:Heap}{N:List Str}{q:Str}{scope:Scope}{cl:List (Str×Addr)}{f:Addr}{cd:Value}{A:zAZ}{outer:List Env}{s:zAB}{H:Hp}{E:XK}:
  cT (cxL P w K mg base N q scope cl f cd A outer s H E) E:=⟨rfl,rfl,rfl,rfl⟩
structure uT(scope:Scope):Prop where
 kind:scope.kind= .function
 co:scope.isCoroutine=false
 gen:scope.isGenerator=false
 cell:∀y∈scope.names,y.2≠.cell
 loc:∀y∈scope.names,y.2≠.local
structure aFJ(base:Heap)(N:List Str)(Z:St)(scope:Scope)(cl:List (Str×Addr)):Prop where
 inj:∀x y c,cl.lookup x=some c->cl.lookup y=some c->x=y
 has:∀x,scope.names.lookup x=some .free->∃c,cl.lookup x=some c
 cell:∀x c,cl.lookup x=some c->∃v,base.IsCell c v
 val:∀(i:Nat) x v,N[i]? =some x->Z[i]? =some (some v)->scope.names.lookup x=some .free->∃c u,cl.lookup x=some c/\RelV v u/\base.IsCell c (some u)
 len:Z.length=N.length
def aIX{P:zAP}{w:World}{K:zAA}{mg:Str->Option Value}{base:Heap}{N:List Str}{q:Str}{params:zCn}{scope:Scope}{cl:List (Str×Addr)}{f c':Addr}{pm ctv:Value}{body:Expr}{k:Nat}{Z:St}{H1:Hp}{sp:Sp}
  (la:zu q params body scope cl pm H1 f c' ctv)(S:uT scope)(cp:aFJ base N Z scope cl)
  (len:∀vs H Q E,sp vs H Q E->vs=[]/\aO H1 H)
  (hbody:∀(A:zAZ) (outer:List Env) (s:zAB) (H:Hp) (Q:VK) (E:XK),dJ k (A.deeper (zC0 q scope s.heap.objs.size f (.ref c') cl))->sp [] H Q E->∃te,PE (cxL P w K mg base N q scope cl f (.ref c') A outer s H E) body te/\te Z H Q):
  cV P w K mg base (CX1 P w) (k+1) f (zEq "<lambda>" q params body scope cl pm (.ref c') ctv) [] sp:=by
 refine⟨λ vs H Q E h=>by rw[(len vs H Q E h).1];rfl,λ A outer s H args us vs Q E hr e0 hb r hsp=>?_⟩;obtain⟨rfl,hsm⟩:=len _ _ _ _ hsp;obtain⟨te,hpe,hte⟩:=hbody A outer s H Q E (hr.deeper _) hsp;have bS:s.heap.NoLimit:=e0.mod.nolimit.keeps λ b o e=>(e0.bs b o e).1
 obtain⟨hf,oc,hc,hco⟩:=la;obtain⟨ho,_⟩:s.heap.get? f=some _/\_:=e0.hok f _ (hsm _ _ hf);obtain⟨hoc,_⟩:s.heap.get? c'=some oc/\_:=e0.hok c' _ (hsm _ _ hc);obtain⟨vs,t,hd,hv⟩:=hco;refine PySem.W.kla_callFunE hr.depth ho rfl S.co S.gen rfl ⟨c',oc,vs,t,rfl,hoc,hd,hv⟩ (hb _ _ _ _ ?_);refine wpAny_newFunctionEnv S.cell (by intro y hy;simp at hy) (λ zC hns hsb=>?_) S.kind;have hk₁:∀b o,s.heap.get? b=some o->zC.get? b=some o:=λ b o e=>hsb.extBut b o (zA1 (zAM e)) (zAH _ e)
 refine⟨bS.keeps hk₁,?_⟩;show zCP _ _ (.expr body (zC0 q scope s.heap.objs.size f (.ref c') cl)) _ _;have kb:∀b o,base.get? b=some o->zC.get? b=some o:=λ b o e=>hk₁ b o (e0.bs b o e).1
 have I:Inv (cxL P w K mg base N q scope cl f (.ref c') A outer s H E) [] Z H {s with heap:=zC,toks:=s.toks+(([]:List Str).zip us).length}:=by
  refine⟨⟨e0.mod,S.kind,rfl,rfl,zAW _,cp.inj,λ x hx=>?_,λ x c z=>absurd z zAc,λ _=>hr.hd,zFb e0.frames,.inr ⟨rfl,rfl⟩,λ b z=>(nomatch z),e0.bs,e0.bsz,λ b _ _=>λ z=>(nomatch z),λ b z=>(nomatch z),e0.funs,e0.frf⟩,
   rfl,e0.bare,Un.kept hk₁,⟨_,hns,λ i x v e1 e2 e3=>?_⟩,λ x c e=>?_,e0.hok.fresh (zAW _),λ x c e=>?_,λ p hp=>(nomatch hp),e0.hok.kept hk₁,cp.len,λ p hp=>(nomatch hp)⟩
  .rcases hx with z|z
   .exact absurd rfl (S.cell _ (zA9 z))
   .exact cp.has x z
  .rcases e3 with z|z|z
   .exact absurd rfl (S.loc _ (zA9 z))
   .exact absurd rfl (S.cell _ (zA9 z))
   .obtain⟨c,u,c1,c2,c3⟩:=cp.val i x v e1 e2 z
    exact⟨u,c2,.inr ⟨.inr z,c,c1,c3.keeps kb⟩⟩
  .obtain⟨v,z⟩:=cp.cell x c e
   exact⟨v,z.keeps kb⟩
  .obtain⟨v,o,z,_⟩:=cp.cell x c e
   exact(e0.bs c o z).2
 refine PySem.W.kla_codeExpr (zB4 (hpe [] _ Z H _ I hte) (λ u s' hq=>?_) λ e s' hq=>hq);obtain⟨v,H',J,rv,q⟩:=hq;exact⟨v,H',J.os,J.bare,J.base,J.hok,rv,q⟩
def bse(X:Cx)(s:zAB)(H:Hp):Heap:=zB6 s.heap (trk s.heap H++frs X.stack)
section
variable{X:Cx}{hV:gV}{Z:St}{H:Hp}{s:zAB}
def aBl{b:Addr}{o:Obj}(e:s.heap.get? b=some o)(n:H b=none)(nf:b∉frs X.stack):(bse X s H).get? b=some o:=
 zBs _ e λ hm=>by
  rcases zBI.mp hm with z|z
  .have q:(H b).isSome=true:=(zA5.mp z).2
   rw[n]at q;cases q
  .exact nf z
def aIn{b:Addr}{o:Obj}(e:(bse X s H).get? b=some o):s.heap.get? b=some o/\H b=none:=by
 have e1:=zDN _ e;refine⟨e1,?_⟩;cases q:H b with
 |none=>rfl
 |some u=>
  have hm:b∈trk s.heap H++frs X.stack:=zAh _ (zA5.mpr ⟨zAi.mpr (zAM e1),by rw[q];rfl⟩);have z:(zB6 s.heap (trk s.heap H++frs X.stack)).get? b=none:=zDj _ hm;have e2:(zB6 s.heap (trk s.heap H++frs X.stack)).get? b=some o:=e;rw[z]at e2;cases e2
def Inv.env1(I:Inv X hV Z H s):zz X.prog X.w X.K X.mg (bse X s H) X.A X.stack s H:=by
 have kb:∀b o,X.base.get? b=some o->(bse X s H).get? b=some o:=λ b o e=>aBl (I.bs b o e).1 (I.bs b o e).2 λ hb=>by
  have z:=(I.stack.mem hb).1;rw[e]at z;cases z
 have ns:∀{b:Addr} {m:Str->Option Value},X.base.Ns b m->(bse X s H).Ns b m:=λ{b m} ⟨o,es,ep,e,r⟩=>⟨o,es,ep,kb _ _ e,r⟩
 refine⟨I.ok.frames,⟨I.mod.kin.keeps kb,ns I.mod.glob,?_,I.mod.nolimit.keeps kb⟩,λ b o e=>aIn e,zFv (zDk _ _),zFT I.stack λ env he a ha=>zAa _ (zBi.mpr ⟨env,he,ha⟩),I.stkFree,I.hok,I.bare⟩;obtain⟨mb,h1,h2⟩:=I.mod.blt;exact⟨mb,ns h1,h2⟩
def aF1{CX:CXT}{k:Nat}{f:Addr}{fd:zAe}{ps:List Str}{sp:Sp}{E:XK}{Q:VK}{vs:List V}{us:List Value}(I:Inv X hV Z H s)(F:cV X.prog X.w X.K X.mg (bse X s H) CX k f fd ps sp)(hr:dJ k X.A)(hb:Binds X.K fd ps [])(hx:ni CX X E)
  (r:Vals vs us)(h:sp vs H Q E):wpAny (model X.prog X.w) X.A (call (.ref f) us) (EP X hV Z Q) X.xe s:=by
 have hl:(us++[]).length=ps.length:=by rw[zBF,<-r.length];exact F.len _ _ _ _ h
 have hb':=hb s us I.kIn hl;rw[zBF]at hb';refine zFN (zDH (F.run X.A X.stack s H ⟨us,[]⟩ us vs Q E hr I.env1 hb' r h) λ r s' hq=>?_);cases r with
 |error e=>exact hx hV Z H s e s' I hq
 |ok fl=>
  cases fl with
  |ret u=>exact I.after hq
  |next=>exact zAJ hq
  |brk=>exact zAJ hq
  |cont=>exact zAJ hq
def aIm{scope:Scope}(I:Inv X hV Z H s)(ho:X.outer=[])(S:uT scope)(hfree:∀y∈scope.names,y.2= .free->X.env.kindOf y.1=some .cell\/X.env.kindOf y.1=some .free):aFJ (bse X s H) X.N Z scope (aa scope X.env):=by
 have cb:∀x c v,X.env.cells.lookup x=some c->s.heap.IsCell c v->(bse X s H).IsCell c v:=λ x c v e ⟨o,h1,h2⟩=>⟨o,aBl h1 (I.freeC x c e) λ hb=>by
  rcases zAX.mp (I.stkSub c hb)with z|z
  .exact I.cne x c e z
  .have z2:c∈frs X.outer:=z
   rw[ho]at z2;exact absurd z2 (by simp[frs]),h2⟩
 have hk:∀x,scope.names.lookup x=some .free->X.env.kindOf x=some .cell\/X.env.kindOf x=some .free:=λ x hx=>hfree (x,.free) (zA9 hx) rfl
 refine⟨λ x y c e1 e2=>I.ok.inj x y c (eG e1) (eG e2),λ x hx=>?_,λ x c e=>?_,λ i x v e1 e2 hx=>?_,I.len⟩
 .obtain⟨c,hc⟩:=I.ok.has x (hk x hx)
  exact⟨c,oZ hx hc⟩
 .obtain⟨v,z⟩:=I.cell x c (eG e)
  exact⟨v,cb x c v (eG e) z⟩
 .obtain⟨m,hn,hl⟩:=I.loc
  obtain⟨u,ru,hu⟩:=hl i x v e1 e2 ((hk x hx).elim (λ z=>.inr (.inl z)) λ z=>.inr (.inr z));rcases hu with ⟨k,_⟩|⟨_,c,ec,ic⟩
  .rcases hk x hx with z|z
   .exact absurd (k.symm.trans z) (by decide)
   .exact absurd (k.symm.trans z) (by decide)
  .exact⟨c,u,oZ hx ec,ru,cb x c _ ec ic⟩
end
abbrev bmV:List Value:=[.type "ValueError",.type "Exception",.type "BaseException",.type "object"]
section
variable{prog:zAP}{w:World}{A:zAZ}{E:Value->zAB->Prop}{h:Heap}{g:Array zDD}{d:Drawn}{t:Nat}{os:OsState}{a:Addr}{o:Obj}
 {nm q:Str}{C N:Addr}{bs bm:List Value}{hdct:Bool}{sn:List Str}{sub:List Value}{ab:Bool}{col:Option Bool}{dd:Option Addr}{k0 k1 k2 k3 k5:Option Value}{newId:String}{K:zAA}
def zc{R:zE4->zAB->Prop}(hC:h.get? C=some (zDx nm q C N bs bm hdct sn sub ab col dd k0 k1 k2 k3 k5 newId))(T:OwnTail h bmV bm)
  (hx:h.get? a=some o)(hc:o.cls= .ref C)(hq:R (.ok (.ret (.ref C))) ⟨h,g,d,t,os⟩):
  zCP (model prog w) A (.call (.builtin "getset_descriptor.__get__") ⟨[.builtin "object.__class__",.ref a,.ref C],[]⟩) R ⟨h,g,d,t,os⟩:=by
 have hT5:(⟨h,g,d,t,os⟩:zAB).TypeIs (.builtin "object.__class__") "getset_descriptor":=zED;have hcB:(zB0 C::bm).contains (.type (".".intercalate ("object.__class__".cutAt '.').dropLast))=true:=by
  rw[F.owner_object_class,zES,T.hasType (X:="object") (b:=true) (by decide+kernel)];rfl
 refine zDT zFq.plain F.entry_gs_get (zFq.check _ _ _ _ _ _ _ _ hT5 (F.args_gs_get _ _ _) ?_)
 repeat (any_goals (first|assumption|(with_reducible refine zCB hx ?_;rw[hc])|(with_reducible refine zD4 hC ?_;rw[hcB])|wp_step))
 refine⟨zGQ _ (by decide+kernel),zB1 F.entry_object_class ?_⟩
 repeat (any_goals (first|assumption|(with_reducible refine zCB hx ?_;rw[hc])|wp_step))
def xm{M:Model}{nameV:Value}{Q:Unit->zAB->Prop}(hC:h.get? C=some (zDx nm q C N bs bm hdct sn sub ab col dd k0 k1 k2 k3 k5 newId))(T:OwnTail h bmV bm)
  (hx:h.get? a=some o)(hc:o.cls= .ref C)(hq:Q () ⟨h,g,d,t,os⟩):wpAny M A (zDz "BaseException.__getattribute__" ⟨[.ref a,nameV],[]⟩) Q E ⟨h,g,d,t,os⟩:=by
 have hk:builtinKind "BaseException.__getattribute__"=some .slot:=by decide+kernel
 have dA:splitId "BaseException.__getattribute__"=some ("BaseException","__getattribute__"):=by decide+kernel
 have hcB:(zB0 C::bm).contains (.type "BaseException")=true:=by rw[zES,T.hasType (X:="BaseException") (b:=true) (by decide+kernel)];rfl
 have ha:=F.args_bexc_ga (.ref a) nameV;simp only[zDz,hk,dA];refine zAD ?_
 .unfold isInstance
  repeat (first|(with_reducible refine zCB hx ?_;rw[hc])|(with_reducible refine zD4 hC ?_;rw[hcB])|wp_step)
  exact hq
def ug{tk:Tok}{Q:Fin->zAB->Prop}(hC:h.get? C=some (zDx nm q C N bs bm hdct sn sub ab col dd k0 k1 k2 k3 k5 newId))(T:OwnTail h bmV bm)(lk:∀M:Model,zEE M h (zGN (.ref C) "__class__") (some (.builtin "object.__class__")))
  (hx:h.get? a=some o)(hc:o.cls= .ref C)(hq:Q (.done (.ret (.ref C))) ⟨h,g,d,t,os⟩):
  wpAny (model prog w) A (zDZ.«object.__getattribute__» ⟨[.ref a,.str "__class__" tk],[]⟩) Q E ⟨h,g,d,t,os⟩:=by
 have hT5:(⟨h,g,d,t,os⟩:zAB).TypeIs (.builtin "object.__class__") "getset_descriptor":=zED;have f5:=zED;have f6:=zFq.lookup;have f7:=F.slot_gs_set.lookup
 repeat (any_goals (first|assumption|(with_reducible refine zCB hx ?_;rw[hc])|with_reducible refine(lk _).here ?_|wp_step))
 refine zc hC T hx hc ?_
 repeat (any_goals (first|assumption|wp_step))
def xg{Q:Option Value->zAB->Prop}(hC:h.get? C=some (zDx nm q C N bs bm hdct sn sub ab col dd k0 k1 k2 k3 k5 newId))(T:OwnTail h bmV bm)(lk:∀M:Model,zEE M h (zGN (.ref C) "__class__") (some (.builtin "object.__class__")))
  (lg:∀M:Model,zEE M h (zGN (.ref C) "__getattribute__") (some (.builtin "BaseException.__getattribute__")))(ln:∀M:Model,zEE M h (zGN (.ref C) "__getattr__") none)
  (hx:h.get? a=some o)(hc:o.cls= .ref C)(hq:Q (some (.ref C)) ⟨h,g,d,t+1,os⟩):wpAny (model prog w) A (getAttr? (.ref a) "__class__") Q E ⟨h,g,d,t,os⟩:=by
 have by_exc:∀{E:Value->zAB->Prop} {t:Nat} {tk:Tok} {Q:Value->zAB->Prop},Q (.ref C) ⟨h,g,d,t,os⟩->wpAny (model prog w) A (getAttrBy (.ref a) (.str "__class__" tk) false) Q E ⟨h,g,d,t,os⟩:=by
  intro E t tk Q hq;have FB:=PySem.F.excAttr_ValueError;have f3:=FB.ga.bind (.ref a);have hx0:(false&&onTheHeap (zDa "BaseException.__getattribute__"))=false:=rfl;have hx2:(zDa "BaseException.__getattribute__"==zDa "object.__getattribute__")=false:=by decide+kernel
  have hx1:(onTheHeap (zB0 C)&&zDa "BaseException.__getattribute__"==zDa "object.__getattribute__")=false:=by rw[hx2];rfl
  repeat (any_goals (first|assumption|(with_reducible refine zCB hx ?_;rw[hc])|with_reducible refine(lg _).here ?_|with_reducible refine(ln _).here ?_|wp_step))
  refine zDT FB.ga.plain F.entry_bexc_ga (xm hC T hx hc (ug hC T lk hx hc ?_))
  repeat (any_goals (first|assumption|wp_step))
 unfold getAttr? getAttrBy?
 repeat (any_goals (first|assumption|with_reducible apply by_exc|wp_step))
def aEO(hE:bN K C)(ha:zAw K (.ref C) "__class__"=some (some (.builtin "object.__class__")))(hgt:zAw K (.ref C) "__getattribute__"=some (some (.builtin "BaseException.__getattribute__")))
  (hga:zAw K (.ref C) "__getattr__"=some none):PySem.W.KitX K (.ref a) (.ref C) (λ h=>∃o,h.get? a=some o/\o.cls= .ref C) where
 ty:=λ M h _ ⟨o,h1,h2⟩=>h2▸(zHf h1).andThen .now
 it:=λ M h X _=>by
  obtain⟨bm,NN,nm,q,bs,hdct,sn,sub,ab,col,dd,k0,k1,k2,k3,k5,mN,hC,_⟩:=(pW (h:=h) (mg:=λ _=>some (.ref C)) (x:="x") X rfl hE).obj;intro A' Q' E' s' k q;unfold isType loadHead;exact zAD (wpAny_loadPart (k _ _ hC) (zAN q))
 ne:=λ h tp dd its n sl X htp=>by
  obtain⟨bm,NN,nm,q,bs,hdct,sn,sub,ab,col,dd,k0,k1,k2,k3,k5,mN,hC,_⟩:=(pW (h:=h) (mg:=λ _=>some (.ref C)) (x:="x") X rfl hE).obj;refine zG5.mpr λ z=>?_
  have e:C=tp:=Value.ref.inj (beq_iff_eq.mp z);subst e;rw[hC]at htp;exact absurd (congrArg Obj.cls (zA8 htp)) (by show zDt "type"≠zDt "tuple";decide+kernel)
 ca:=λ{prog w A E Q s} X ⟨o,h1,h2⟩ k=>by
  obtain⟨h,g,d,t,os⟩:=s;obtain⟨bm,NN,nm,q,bs,hdct,sn,sub,ab,col,dd,k0,k1,k2,k3,k5,mN,hC,hN,hni,T⟩:=(pW (h:=h) (mg:=λ _=>some (.ref C)) (x:="x") X rfl hE).obj;exact xg hC T (λ M=>zCs X ha) (λ M=>zCs X hgt) (λ M=>zCs X hga) h1 h2 k
end
def excφ(a C:Addr):Heap->Prop:=λ h=>∃o,h.get? a=some o/\o.cls= .ref C
def excφ_stay{a C:Addr}:∀h1 h2:Heap,excφ a C h1->(∀o,h1.get? a=some o->h2.get? a=some o)->excφ a C h2:=λ h1 h2 ⟨o,e,c⟩ k=>⟨o,k o e,c⟩
structure aGj(K:zAA)(C:Addr):Prop where
 ex:bN K C
 ca:zAw K (.ref C) "__class__"=some (some (.builtin "object.__class__"))
 gt:zAw K (.ref C) "__getattribute__"=some (some (.builtin "BaseException.__getattribute__"))
 ga:zAw K (.ref C) "__getattr__"=some none
section
variable{X:Cx}
def aGu(K:zAA):List V->Hp->VK->Prop:=λ xs H Q=>∃a C y c b,xs=[.ref a,y]/\RelV y c/\H a=some (.ext (excφ a C))/\aGj K C/\zB2 K (.ref C) c=some b/\Q (.bl b) H
def aCi:dM X (.builtin "isinstance") (aGu X.K):=by
 intro hV s Z H xs us Q I r h;obtain⟨a,C,y,c,b,rfl,ry,ha,kc,e,q⟩:=h;obtain⟨u,w',rfl,r1,r2⟩:=vals2 r;cases r1;have hc:w'=c:=by
  cases y<;>first
   |(cases r2;cases ry;rfl)
   |(obtain⟨t1,rfl⟩:=r2;obtain⟨t2,rfl⟩:=ry;exact absurd e (by simp[zB2,PySem.W.kitCls]))
 subst hc;obtain⟨p,_⟩:excφ a C s.heap/\_:=I.hok a _ ha;exact zAu (aEO kc.ex kc.ca kc.gt kc.ga) I.kIn p e (λ z=>nomatch z) λ tk=>⟨.bl b,H,I.tok tk,rfl,q⟩
end
abbrev Cx.re(X:Cx)(A:zAZ)(c:Bool)(pl:gV)(E:Value->zAB->Prop):Cx:={X with A:=A,calm:=c,pn:=X.pn++pl,xe:=E}
section
variable{X:Cx}{hV:gV}{Z:St}{H:Hp}{s:zAB}
theorem Inv.re{A:zAZ}{c:Bool}{E:Value->zAB->Prop}(I:Inv X hV Z H s)(hf:A.frames=X.A.frames)(hd:c=true->A.handled=none):Inv (X.re A c hV E) [] Z H s:=
 ⟨⟨I.ok.mod,I.ok.kind,I.ok.glob,I.ok.blt,I.ok.above,I.ok.inj,I.ok.has,I.ok.cab,hd,hf.trans I.ok.frames,I.ok.stk,I.ok.exf,I.ok.bs,I.ok.bsz,I.ok.noex,I.ok.exfs,I.ok.funs,I.ok.frf⟩,
  I.os,I.bare,I.base,I.loc,I.cell,I.free,I.freeC,λ p hp=>I.pin p (by rw[zBF]at hp;exact hp),I.hok,I.len,λ p hp=>let⟨a,b,c,d,e⟩:=I.tab p hp;⟨a,b,c,λ q hq=>d q (by rw[zBF]at hq;exact hq),e⟩⟩
def Inv.unre{A:zAZ}{c:Bool}{E:Value->zAB->Prop}{pins2:gV}{Z2:St}{H2:Hp}{s2:zAB}(ok:X.Ok)(J:Inv (X.re A c hV E) pins2 Z2 H2 s2):Inv X hV Z2 H2 s2:=
 ⟨ok,J.os,J.bare,J.base,J.loc,J.cell,J.free,J.freeC,λ p hp=>J.pin p (zAh _ hp),J.hok,J.len,λ p hp=>let⟨a,b,c,d,e⟩:=J.tab p hp;⟨a,b,c,λ q hq=>d q (zAh _ hq),e⟩⟩
def Inv.track{a:Addr}{o:HO}(I:Inv X hV Z H s)(ha:H a=none)(h0:X.z5.heap.get? a=none)(hL:X.env.locals≠a)(hc:∀x c,X.env.cells.lookup x=some c->c≠a)(hp:∀p∈X.ta++(X.pn++hV),p.1≠a)
  (new:cZ X.prog X.w (upd H a o) s.heap a o):Inv X hV Z (upd H a o) s:=by
 have ne:∀b u,H b=some u->b≠a:=λ b u e=>bT e ha
 refine⟨I.ok,I.os,I.bare,⟨I.base.keep,I.base.slot,λ b ob e n nx=>?_,I.base.there,λ b xs e=>?_,λ b ob u e=>?_,λ b ps e=>?_⟩,I.loc,I.cell,?_,λ x c e=>?_,λ p hp'=>?_,λ b u e=>?_,I.len,λ p hp'=>?_⟩
 .rw[aX (λ z=>by rw[z,h0]at e;cases e)]
  exact I.base.free b ob e n nx
 .have e1:=I.base.tups b xs e
  rw[aX (ne b _ e1)];exact e1
 .have e1:=I.base.frzs b ob u e
  rw[aX (ne b _ e1)];exact e1
 .obtain⟨m,e1⟩:=I.base.tbls b ps e
  exact⟨m,by rw[aX (ne b _ e1)];exact e1⟩
 .rw[aX hL];exact I.free
 .rw[aX (hc x c e)];exact I.freeC x c e
 .obtain⟨p1,p2,p3⟩:=I.pin p hp'
  exact⟨p1,by rw[aX (hp p (zAa _ hp'))];exact p2,p3⟩
 .by_cases hb:b=a
  .subst hb;rw[bA]at e;cases e;exact new
  .rw[aX hb]at e
   exact(I.hok b u e).stay (λ c v _ q=>q) (λ c q=>by rw[aX (ne c _ q)];exact q) λ c xs q=>by rw[aX (ne c _ q)];exact q
 .obtain⟨n1,n2,n3,n0,ps,n4,n5⟩:=I.tab p hp'
  exact⟨by rw[aX (hp p (zAh _ hp'))];exact n1,n2,n3,n0,ps,n4,n5.mono λ b o u e=>by rw[aX (ne b _ e)];exact e⟩
def Inv.gone{i:Nat}{n:Str}{h':Heap}{m:Str->Option Value}{v:Option Value}{tk:Nat}(I:Inv X hV Z H s)(hN:X.N.Nodup)(hi:X.N[i]? =some n)(hm:s.heap.Ns X.env.locals m)(hn:h'.Ns X.env.locals λ x=>if x=n then v else m x)(hs:zDo X.env.locals s.heap h'):
  Inv X hV (Z.set i none) H {s with heap:=h',toks:=tk}:=by
 obtain⟨m0,hm0,hl⟩:=id I.loc;have cne:=I.cne;have em:m0=m:=by
  obtain⟨o1,es1,ep1,e1,d1,k1⟩:=hm0;obtain⟨o2,es2,ep2,e2,d2,k2⟩:=hm;rw[e1]at e2;cases e2;rw[d1]at d2;cases d2;funext x;exact(k1.2 x).symm.trans (k2.2 x)
 subst em;obtain⟨oL,_,_,hoL,_⟩:=id hm0;have keep:∀b o,b≠X.env.locals->s.heap.get? b=some o->h'.get? b=some o:=λ b o nb e=>(hs.2 b nb).trans e
 refine⟨I.ok,I.os,I.bare,⟨λ b o e n' hb hx=>?_,λ b o e n' hb hx=>?_,I.base.free,λ b o e hx=>?_,I.base.tups,I.base.frzs,I.base.tbls⟩,⟨_,hn,λ j y v' e1 e2 e3=>?_⟩,λ y c e=>?_,I.free,I.freeC,λ p hp=>?_,λ b u e=>?_,by simpa using I.len,λ p hp=>?_⟩
 .exact keep b o (zA1 (zAO (zAM e) I.ok.above)) (I.base.keep b o e n' hb hx)
 .obtain⟨sl,e1⟩:=I.base.slot b o e n' hb hx
  exact⟨sl,keep b _ (zA1 (zAO (zAM e) I.ok.above)) e1⟩
 .obtain⟨o',e1⟩:=I.base.there b o e hx
  exact⟨o',keep b _ (zA1 (zAO (zAM e) I.ok.above)) e1⟩
 .have hj:j≠i:=λ z=>by
   subst z;rw[List.getElem?_set]at e2;simp at e2
  rw[zAy (zDi hj)]at e2;obtain⟨u,r,q⟩:=hl j y v' e1 e2 e3;refine⟨u,r,?_⟩;have yn:y≠n:=λ z=>hj (tH hN e1 (z▸hi))
  rcases q with ⟨k,e⟩|⟨k,c,e,z⟩
  .exact .inl ⟨k,by simp[yn,e]⟩
  .exact .inr ⟨k,c,e,z.sameBut hs (cne y c e)⟩
 .obtain⟨v',z⟩:=I.cell y c e
  exact⟨v',z.sameBut hs (cne y c e)⟩
 .obtain⟨p1,p2,p3,p4⟩:=I.pin p hp
  exact⟨keep _ _ p3 p1,p2,p3,p4⟩
 .refine(I.hok b u e).stay (λ c v' hc q=>keep c v' ?_ q) (λ _ q=>q) λ _ _ q=>q
  rintro rfl;rcases hc with z|z
  .rw[<-z,I.free]at e;cases e
  .rw[I.free]at z;cases z
 .obtain⟨n1,n2,n3,n0,ps,n4,n5⟩:=I.tab p hp
  exact⟨n1,n2,n3,n0,ps,keep _ _ n2 n4,n5⟩
end
section
variable{M:Model}{A:zAZ}{E:Value->zAB->Prop}{h:Heap}{g:Array zDD}{d:Drawn}{t:Nat}{os:OsState}
variable{nm q:Str}{C N:Addr}{bs bm:List Value}{hdct:Bool}{sn:List Str}{sub:List Value}{ab:Bool}{col:Option Bool}{dd:Option Addr}{k0 k1 k2 k3 k5:Option Value}{newId:String}
variable{nm' q':Str}{C' N':Addr}{bs' bm':List Value}{hdct':Bool}{sn':List Str}{sub':List Value}{ab':Bool}{col':Option Bool}{dd':Option Addr}{k0' k1' k2' k3' k5':Option Value}{newId':String}
def uJ{e:Addr}{oe:Obj}{Q:Bool->zAB->Prop}(hC:h.get? C=some (zDx nm q C N bs bm hdct sn sub ab col dd k0 k1 k2 k3 k5 newId))(hC':h.get? C'=some (zDx nm' q' C' N' bs' bm' hdct' sn' sub' ab' col' dd' k0' k1' k2' k3' k5' newId'))
  (he:h.get? e=some oe)(dP:oe.cls= .ref C)(hb':bm'.contains (.type "BaseException")=true)(hs:(zB0 C::bm).contains (.ref C')=true)
  (hq:Q true ⟨h,g,d,t,os⟩):wpAny M A (excMatches (.ref e) (.ref C')) Q E ⟨h,g,d,t,os⟩:=by
 have hcB:(zB0 C'::bm').contains (.type "BaseException")=true:=by rw[zES,hb',zH4]
 have f:=tc_notTuple;unfold excMatches
 repeat (first|(with_reducible refine zCB he ?_;rw[dP])|with_reducible refine zCB hC' ?_|(with_reducible refine zD4 hC' ?_;rw[hcB])|(with_reducible refine zD4 hC ?_;rw[hs])|wp_step)
 exact hq
end
def cZ.there{P:zAP}{w:World}{H:Hp}{h:Heap}{a:Addr}{o:HO}(x:cZ P w H h a o):∃ob,h.get? a=some ob:=by
 cases o with
 |lst xs=>obtain⟨_,_,_,_,e⟩:=x;exact⟨_,e⟩
 |tup xs=>
  obtain⟨_,_,_,p⟩:=x;obtain⟨o,e,_⟩:=p;exact⟨_,e⟩
 |dK kvs=>obtain⟨_,_,_,_,o,_,_,e,_⟩:=x;exact⟨_,e⟩
 |dT kvs=>obtain⟨_,_,_,_,o,_,_,e,_⟩:=x;exact⟨_,e⟩
 |set S n=>obtain⟨o,_,_,_,e,_⟩:=x;exact⟨_,e⟩
 |ins C dx fs=>obtain⟨_,_,_,e,_⟩:=x;exact⟨_,e⟩
 |own y=>exact x
 |xd fs=>obtain⟨_,⟨_,_,_,e,_⟩,_⟩:=x;exact⟨_,e⟩
 |rng lo hi=>obtain⟨_,_,_,e⟩:=x;exact⟨_,e⟩
 |frz ob u=>obtain⟨e,_⟩:=x;exact⟨_,e⟩
 |tbl ps=>exact⟨_,show h.get? a=some _ from x⟩
 |met f y=>exact⟨_,show h.get? a=some _ from x⟩
 |ext φ=>obtain⟨_,e,_⟩:=x;exact e
def qH(K:zAA)(C C':Addr):Bool:=
 match K.lookup C with
 |some ⟨_,_,.cls cd,_⟩=>cd.mro.contains (.ref C')
 |_=>false
abbrev Cx.tr(X:Cx)(hV:gV)(E':XK):Cx:=X.re X.A true hV λ e s'=>∃Z H s,Inv X hV Z H s/\CX1 X.prog X.w X.stack H s E' e s'
abbrev Cx.ha(X:Cx)(hV:gV)(ea:Addr):Cx:=X.re (X.A.mark (some (.ref ea))) false hV λ _ _=>False
def aCs(X:Cx)(i:Nat)(C':Addr)(E':XK)(tb th:TS):TS:=λ D Z H=>tb D Z H/\∀cls H1,E' cls none H1->∃C,cls= .ref C/\bN X.K C/\qH X.K C C'=true/\∀(Z1:St) (ea:Addr),Z1.length=X.N.length->H1 ea=none->
 th {nx:=λ Z' H'=>D.nx (Z'.set i none) H',rt:=D.rt,bk:=λ Z' H'=>D.bk (Z'.set i none) H',ct:=λ Z' H'=>D.ct (Z'.set i none) H'} (Z1.set i (some (.ref ea))) (upd H1 ea (.ext (excφ ea C)))
section
variable{X:Cx}{E E':XK}
def Cx.tr_ok{hV:gV}(J:(X.tr hV E').Ok):X.Ok:=
 ⟨J.mod,J.kind,J.glob,J.blt,J.above,J.inj,J.has,J.cab,λ _=>J.hd rfl,J.frames,J.stk,J.exf,J.bs,J.bsz,J.noex,J.exfs,J.funs,J.frf⟩
def Cx.tr_pass{hV:gV}:ni (CX1 X.prog X.w) (X.tr hV E') E':=λ pins2 Z H s e s' I h=>⟨Z,H,s,Inv.unre (Cx.tr_ok I.ok) I,h⟩
def aDd(D:cT X E)(hc:X.calm=true)(hN:X.N.Nodup){i:Nat}{n:Str}(hi:X.N[i]? =some n)(hl:X.env.scope.names.lookup n=some .local){x:Str}{C':Addr}(hm:X.mg x=some (.ref C'))(hg:Gl X x)(hC':bN X.K C')
  {body suite:List Stmt}{b₀:Stmt}{tb th:TS}{np pV pos:Pos}(hb:∀hV,PSs (X.tr hV E') body tb)(hs:∀hV ea,PSs (X.ha hV ea) (b₀::suite) th)(hdb:Nd x:=by decide):
  PS X (.Try body [.ExceptHandler (some (.Name x np)) (some n) (b₀::suite) pV] [] [] pos) (aCs X i C' E' tb th):=by
 intro hV s Z H DD I hh;obtain⟨h1,h2⟩:=hh;refine wpAny_Try_except (zB4 (hb hV [] s Z H DD (I.re rfl λ _=>I.ok.hd hc) h1) (λ f s1 q=>?_) λ e s1 q=>?_)
 .cases f with
  |next=>
   obtain⟨Z',H',J,q⟩:=q;exact zD3 ⟨Z',H',Inv.unre I.ok J,q⟩
  |brk=>obtain⟨Z',H',J,q⟩:=q;exact⟨Z',H',Inv.unre I.ok J,q⟩
  |cont=>obtain⟨Z',H',J,q⟩:=q;exact⟨Z',H',Inv.unre I.ok J,q⟩
  |ret u=>obtain⟨v,Z',H',J,r,q⟩:=q;exact⟨v,Z',H',Inv.unre I.ok J,r,q⟩
 .obtain⟨Z1,H1,s0,J,ea,cls,a0,B,H2,rfl,os,bare,un,hok,fly,bk,ba,hE⟩:=q
  obtain⟨C,rfl,hC,iX,hth⟩:=h2 cls H2 hE;have hfr:=I.ok.frames;rw[D.stk]at hfr;have fly':=fly;rw[D.stk]at fly';have mk:∀hh:Heap,zH9 B X.stack ea (.ref C) a0 hh->s1.heap.UpToSlots hh->Inv X hV Z1 H2 {s1 with heap:=hh}:=λ hh fl up=>by
   refine J.call' (ch:=[]) os ⟨λ b o e n nf _=>fl.1 b o (bk b o e n nf),λ b o e n hb _=>?_,un.free,λ b o e _=>?_,un.tups,un.frzs,un.tbls⟩ (λ a o e=>(hok a o e).stay (λ b u _ q=>fl.1 b u q) (λ _ z=>z) λ _ _ z=>z) bare (λ b z=>nomatch z)
   .obtain⟨s2,e2⟩:=un.slot b o e n hb (λ z=>nomatch z)
    obtain⟨_,o3,e3,nf⟩:=fly.2.2.1.mem hb;rw[e2]at e3;cases e3;obtain⟨s4,e4⟩:=up b _ e2 nf;exact⟨s4,e4⟩
   .by_cases hb:b∈frs X.stack
    .obtain⟨_,o3,e3,nf⟩:=fl.2.2.1.mem hb
     exact⟨o3,e3⟩
    .obtain⟨o',e'⟩:=ba b o e hb
     exact⟨o',fl.1 b o' e'⟩
  refine wpAny_looks_onW hfr D.fr fly' λ h3 held up3=>?_
  refine wpAny_landsW held λ h4 fly4 up4=>?_
  rw[<-D.stk]at fly4;have J4:=mk h4 fly4 (up3.trans up4);have K4:Inv (X.ha hV ea) [] Z1 H2 {s1 with heap:=h4}:=J4.re rfl (λ z=>nomatch z);obtain⟨ob4,he4,hc4⟩:=fly4.there;obtain⟨tl,NN,nm,q,bs,hdct,sn,sub,ab,col,dd,k0,k1,k2,k3,k5,mN,hCo,hNn,hni,T⟩:=(pW (h:=h4) (mg:=λ _=>some (.ref C)) (x:="x") J4.kIn rfl hC).obj;obtain⟨tl',NN',nm',q',bs',hdct',sn',sub',ab',col',dd',k0',k1',k2',k3',k5',mN',hCo',hNn',hni',T'⟩:=(pW (h:=h4) (mg:=λ _=>some (.ref C')) (x:="x") J4.kIn rfl hC').obj;have hmro:(zB0 C::tl).contains (.ref C')=true:=by
   unfold qH at iX;split at iX
   .rename_i oc od cd sl ho
    have e:=J4.kIn _ _ ho;have e2:(some _:Option Obj)=some _:=e.symm.trans hCo;injection e2 with e2
    have e3:=congrArg Obj.data e2;injection e3 with e3
    subst e3;exact iX
   .cases iX
  refine wpAny_handleBy_cons (codeAny_handlers_test (mD (X:=X.ha hV ea) K4 hg hm ?_ hdb)) (by intro q;cases q);refine uJ hCo hCo' he4 hc4 (T'.hasType (X:="BaseException") (b:=true) (by decide+kernel)) hmro ?_;refine codeAny_handlers_suite_as ?_;refine lands_againW fly4 λ h5 fly5 up5=>?_
  have J5:=mk h5 fly5 ((up3.trans up4).trans up5);obtain⟨f1,f2,f3,oe,vs,T5,oT,ts,he5,⟨hcl5,h05⟩,hd5,_⟩:=id fly5;have nof:ea∉frs X.stack:=λ z=>by
   obtain⟨_,o3,e3,nf⟩:=f3.mem z;rw[he5]at e3;cases e3;exact nf vs hd5
  have inB:∀b o,s0.heap.get? b=some o->b∉frs X.stack->b≠ea:=λ b o e nf z=>by
   obtain⟨o',e'⟩:=ba b o e nf;rw[z,f2]at e';cases e'
  have hL:X.env.locals∈frs X.stack:=by
   rw[D.stk];unfold frs;rw[zBJ,D.fr];exact zAI
  have h2n:H2 ea=none:=by
   cases e:H2 ea with
   |none=>rfl
   |some o=>
    obtain⟨ob,e'⟩:=(hok ea o e).there;rw[f2]at e';cases e'
  have J6:Inv X hV Z1 (upd H2 ea (.ext (excφ ea C))) {s1 with heap:=h5}:=by
   refine J5.track h2n ?_ (λ z=>nof (z▸hL)) (λ y c e z=>?_) (λ p hp z=>?_) ⟨⟨oe,he5,hcl5⟩,⟨oe,he5⟩,excφ_stay⟩
   .cases e:X.z5.heap.get? ea with
    |none=>rfl
    |some o=>
     obtain⟨o',e'⟩:=J.base.there ea o e (by rw[D.ex];exact λ z=>nomatch z);exact absurd rfl (inB ea o' e' nof)
   .obtain⟨v,o,ho,hd⟩:=J5.cell y c e
    rw[z]at ho;have e2:some o=some oe:=ho.symm.trans he5;cases e2;rw[hd]at hd5;cases hd5
   .have hh:∃o,s0.heap.get? p.1=some o/\p.1≠X.env.locals/\p.1∉X.fs:=by
     rcases zBI.mp hp with z|z
     .obtain⟨_,a,b,_,_,c,_⟩:=J.tab p z
      exact⟨_,c,a,b⟩
     .obtain⟨p1,p2,p3,p4,_⟩:=J.pin p z
      exact⟨_,p1,p3,p4⟩
    obtain⟨o,p1,p3,p4⟩:=hh;refine inB p.1 o p1 (λ w=>?_) z;rcases zAX.mp (J.stkSub p.1 w)with z|z
    .exact p3 z
    .exact p4 z
  have K6:Inv (X.ha hV ea) [] Z1 (upd H2 ea (.ext (excφ ea C))) {s1 with heap:=h5}:=J6.re rfl (λ z=>nomatch z);refine oH (X:=X.ha hV ea) (v:=.ref ea) K6 hN hi (.inl hl) rfl (λ s7 I7=>?_) (.inr hl);refine zB4 (hs hV ea [] s7 _ _ _ I7 (hth Z1 ea J.len h2n)) (λ f s8 q8=>?_) λ _ _ z=>z.elim
  have cE:∀{Z':St} {H':Hp} {Q:zAB->Prop},Inv (X.ha hV ea) [] Z' H' s8->(∀s9,Inv X hV (Z'.set i none) H' s9->Q s9)->
    wpAny (model X.prog X.w) X.A (do bindName X.env n .none;unbindBehindTheSuite X.env n pV) (λ _ s9=>Q s9) X.xe s8:=λ{Z' H' Q} K8 k=>by
   have J8:Inv X hV Z' H' s8:=Inv.unre I.ok K8;obtain⟨m,hmm,_⟩:=id J8.loc;refine wpAny_nameGoes_keeps hl hmm (by rw[I.ok.kind];rfl) λ h' v hn hsb=>k _ (Inv.gone J8 hN hi hmm hn hsb)
  cases f with
  |next=>obtain⟨Z',H',K8,q⟩:=q8;exact cE K8 λ s9 J9=>⟨_,_,J9,q⟩
  |brk=>obtain⟨Z',H',K8,q⟩:=q8;exact cE K8 λ s9 J9=>⟨_,_,J9,q⟩
  |cont=>obtain⟨Z',H',K8,q⟩:=q8;exact cE K8 λ s9 J9=>⟨_,_,J9,q⟩
  |ret u=>obtain⟨v,Z',H',K8,r,q⟩:=q8;exact cE K8 λ s9 J9=>⟨v,_,_,J9,r,q⟩
end
structure iZ(k:Nat)(A:zAZ):Prop where
 dp:A.depth+3*k+5<zE6
 un:A.units+16*k+200<cLine
def dJ.h{k:Nat}{A:zAZ}(r:dJ k A):iZ k A:=⟨r.dp,r.un⟩
theorem iZ.mark{k:Nat}{A:zAZ}{v:Option Value}(r:iZ k A):iZ k (A.mark v):=⟨r.dp,r.un⟩
def iZ.mono{j k:Nat}{A:zAZ}(r:iZ k A)(h:j<=k):iZ j A:=⟨by have:=r.dp;omega,by have:=r.un;omega⟩
theorem iZ.deeper{k:Nat}{A:zAZ}(r:iZ (k+1) A)(env:Env):iZ k (A.deeper env):=
 ⟨by have:=r.dp;show A.depth+1+3*k+5<_;omega,by have:=r.un;show A.units+3+16*k+200<_;omega⟩
theorem iZ.depth{k:Nat}{A:zAZ}(r:iZ k A):A.depth<zE6:=by have:=r.dp;omega
abbrev aEr(A:zAZ):zAZ:={A with handled:=none}
structure FnH(P:zAP)(w:World)(K:zAA)(mg:Str->Option Value)(base:Heap)(k:Nat)(f:Addr)(fd:zAe)(ps:List Str)(sp:Sp):Prop where
 len:∀vs H Q E,sp vs H Q E->vs.length=ps.length
 run:∀(A:zAZ) (outer:List Env) (s:zAB) (H:Hp) (args:Args) (us:List Value) (vs:List V) (Q:VK) (E:XK),iZ k A->zz P w K mg base A outer s H->zGP s fd args (ps.zip us)->Vals vs us->sp vs H Q E->
  zCP (model P w) A (.call (.ref f) args) (CR CX0 outer P w H s Q E) s
abbrev cxH(P:zAP)(w:World)(K:zAA)(mg:Str->Option Value)(base:Heap)(N:List Str)(q:Str)(scope:Scope)(f:Addr)(cd:Value)(A:zAZ)(outer:List Env)(s:zAB)(H:Hp):Cx:=
 (rB CX0 P w K mg base N q scope f cd (aEr A) outer s H λ _ _ _=>False).re (A.deeper (zC9 q scope s.heap.objs.size f cd)) false [] λ _ _=>False
section
variable{P:zAP}{w:World}{K:zAA}{mg:Str->Option Value}{base:Heap}
def Fun.okH{x q:Str}{st:Stmt}{f:Addr}{fd:zAe}{N ps:List Str}{k:Nat}{sp:Sp}(F:Fun K x q st f fd)(S:aY N ps (aF st))(len:∀vs H Q E,sp vs H Q E->vs.length=ps.length)
  (hbody:∀(cdv:Value) (A:zAZ) (outer:List Env) (s:zAB) (H:Hp) (vs:List V) (Q:VK) (E:XK),iZ k (A.deeper (zC9 q (aF st) s.heap.objs.size f cdv))->sp vs H Q E->
   ∃t,PSs (cxH P w K mg base N q (aF st) f cdv A outer s H) (cH st) t/\t {nx:=λ _ H'=>Q .non H',rt:=Q} (start N vs) H):FnH P w K mg base (k+1) f fd ps sp:=by
 obtain⟨oc,od,kV,doc,pm,an,cdv,ct,osl,rfl,lk,hcd⟩:=F.ex;refine⟨len,λ A outer s H args us vs Q E hr e0 hb r hsp=>?_⟩;have KX:K.In s.heap:=e0.mod.kin.keeps λ b o e=>(e0.bs b o e).1
 have par:∀y∈ps.zip us,(aF st).names.lookup y.1=some .local\/((aF st).names.lookup y.1=some .cell/\((zC8 (s.heap.objs.size+1) (aF st).names []).lookup y.1).isSome=true):=λ y hy=>
  (S.par y.1 (zDL (a:=y.1) (b:=y.2) hy).1).imp id λ z=>⟨z,zCc _ _ _ (.inl z)⟩
 refine zEP hr.depth (KX _ _ lk) rfl S.co S.gen rfl (zEG KX hcd) (hb _ _ _ _ (zDb S.kind par λ env he s1 x=>?_));cases he;refine⟨(e0.mod.nolimit.keeps λ b o e=>(e0.bs b o e).1).keeps x.toInCall.keep,zHB ?_⟩;obtain⟨t,ht,hq⟩:=hbody cdv A outer s H vs Q E (hr.deeper _) hsp;have e1:zz P w K mg base (aEr A) outer s H:=⟨e0.frames,e0.mod,e0.bs,e0.bsz,e0.funs,e0.frf,e0.hok,e0.bare⟩;have I0:Inv (rB CX0 P w K mg base N q (aF st) f cdv (aEr A) outer s H λ _ _ _=>False) [] (start N vs) H s1:=qD S rfl e1 (len _ _ _ _ hsp) r x;have I1:Inv (cxH P w K mg base N q (aF st) f cdv A outer s H) [] (start N vs) H s1:=I0.re rfl (λ z=>nomatch z);refine zB4 (ht [] s1 (start N vs) H _ I1 hq) (λ fl s' hs=>?_) λ e s' hs=>hs.elim
 cases fl with
 |ret u=>obtain⟨v,Z',H',J,rv,q⟩:=hs;exact⟨v,H',J.os,J.bare,J.base,J.hok,rv,q⟩
 |next=>obtain⟨Z',H',J,q⟩:=hs;exact⟨.non,H',J.os,J.bare,J.base,J.hok,rfl,q⟩
 |brk=>obtain⟨_,_,_,q⟩:=hs;exact q.elim
 |cont=>obtain⟨_,_,_,q⟩:=hs;exact q.elim
end
section
variable{X:Cx}{k:Nat}{f:Addr}{fd:zAe}{ps:List Str}{sp:Sp}{dvs:List V}{ds:List Value}{E:XK}{x:Str}{p pos:Pos}{e:Expr}{es:List Expr}{t:TA}
def aDo(F:FnH X.prog X.w X.K X.mg X.base k f fd ps sp)(hr:iZ k X.A)(hg:Gl X x)(hm:X.mg x=some (.ref f))(hk:zBR X.K (.ref f)=true)(hb:Binds X.K fd ps ds)(hd:Vals dvs ds)
  (ha:PA X (e::es) t)(hdb:Nd x:=by decide)(he:zAT (e::es) X.env=(false,eval e X.env)::zAT es X.env:=by rfl)(hpl:(zCY pos (zAT es X.env)).any (·.1)=false:=by rfl):
  PE X (.Call (.Name x p) (e::es) [] pos) (yK sp dvs E t):=by
 intro hV s Z H Q I h;refine zCS (mD I hg hm (zEF (h₀:=X.base) I.ok.mod.kin hk (thn (ha pos hV s Z H _ I h) λ us s1 hz=>?_) he hpl) hdb);obtain⟨vs,H1,I1,r,q⟩:=hz;refine⟨I1.kIn,zFN (zDH (F.run X.A X.stack s1 H1 ⟨us,[]⟩ (us++ds) (vs++dvs) Q E hr I1.env0 (hb s1 us I1.kIn ?_) (r.append hd) q) λ r' s' hq=>?_)⟩
 .rw[<-(r.append hd).length];exact F.len _ _ _ _ q
 .cases r' with
  |error e=>exact zAJ hq
  |ok fl=>
   cases fl with
   |ret u=>exact I1.after hq
   |next=>exact zAJ hq
   |brk=>exact zAJ hq
   |cont=>exact zAJ hq
end
def spW(wd:Addr->Option Str):Sp:=λ vs H Q _=>∃ea C w,vs=[.ref ea]/\H ea=some (.ext (excφ ea C))/\wd C=some w/\∀H',aO H H'->Q (.str w) H'
def spR(P:zAP)(w:World)(K:zAA)(mg:Str->Option Value)(base:Heap)(k0:Nat)(told:Str)(wd:Addr->Option Str):Sp:=λ vs H Q _=>∃f cls dd sl fd k sp,vs=[.ref f]/\H f=some (.frz ⟨cls,dd,.func fd,sl⟩ (.own f))/\cV P w K mg base (CX1 P w) k f fd [] sp/\k<=k0/\Binds K fd [] []/\
 sp [] H (λ _ H'=>Q (.str told) H') (λ c _ H1=>∃C wo,c= .ref C/\wd C=some wo/\∀H',aO H1 H'->Q (.str wo) H')
section
variable{X:Cx}{E:XK}{n0 n1 n2 few cn pe told:Str}{C' fc:Addr}{fdc:zAe}{kc k0:Nat}{wd:Addr->Option Str}
def aDZ(D:cT X E)(hc:X.calm=true)(hN:X.N=[n0,n1,n2])(nd:X.N.Nodup)(l0:X.env.scope.names.lookup n0=some .local)(l1:X.env.scope.names.lookup n1=some .local)(l2:X.env.scope.names.lookup n2=some .local)(hf:∀x,X.fn x=true)
  (hm:X.mg few=some (.ref C'))(hg:Gl X few)(hC':bN X.K C')(FC:FnH X.prog X.w X.K X.mg X.base kc fc fdc [pe] (spW wd))(hgc:Gl X cn)(hmc:X.mg cn=some (.ref fc))(hkc:zBR X.K (.ref fc)=true)(hbc:Binds X.K fdc [pe] [])
  (hr:dJ k0 X.A)(hkk:kc<=k0)(hw:∀C w,wd C=some w->bN X.K C/\qH X.K C C'=true){p1 p2 p3 p4 p5 p6 p7 p8 p9 p10 p11 p12 p13 p14 p15 p16:Pos}{j1:Nat}{vs:List V}{H:Hp}{Q:VK}{E0:XK}(h:spR X.prog X.w X.K X.mg X.base k0 told wd vs H Q E0)
  (d1:Nd few:=by decide)(d2:Nd cn:=by decide)(d3:Nd n0:=by decide)(d4:Nd n1:=by decide)(d5:Nd n2:=by decide)
  (d6:(n0==("__classdict__":Str))=false:=by decide)(d7:(n1==("__classdict__":Str))=false:=by decide)(d8:(n2==("__classdict__":Str))=false:=by decide):
  ∃t,PSs X [.Assign [.Name n1 p1] (.Constant (.str told) j1 p2) p3,.Try [.Expr (.Call (.Name n0 p4) [] [] p5) p6] [.ExceptHandler (some (.Name few p7)) (some n2) [.Assign [.Name n1 p8] (.Call (.Name cn p9) [.Name n2 p10] [] p11) p12] p13] [] [] p14,.Return (some (.Name n1 p15)) p16] t/\
   t {nx:=λ _ H'=>Q .non H',rt:=Q} (start X.N vs) H:=by
 obtain⟨f,cls,dd,sl,fd,k,sp,rfl,hH,F,hk,hb,hsp⟩:=h;have i0:X.N[0]? =some n0:=by rw[hN];rfl
 have i1:X.N[1]? =some n1:=by rw[hN];rfl
 have i2:X.N[2]? =some n2:=by rw[hN];rfl
 refine⟨_,dW (jo nd i1 (.inl l1) dO (hf:=.inl (hf _))) (dW (aDd (E':=λ c _ H1=>∃C wo,c= .ref C/\wd C=some wo/\∀H',aO H1 H'->Q (.str wo) H') D hc nd i2 l2 hm hg hC' (tb:=yJ (aAF X k0 0 λ c _ H1=>∃C wo,c= .ref C/\wd C=some wo/\∀H',aO H1 H'->Q (.str wo) H')) (th:=yL (yK (spW wd) [] E (gw (mq 2) oG)) (mX 1))
  (λ hV=>jm (rN (aDj (X:=X.tr hV _) hr Cx.tr_pass i0 (.inl l0) d3 d6))) (λ hV ea=>jm (jo (X:=X.ha hV ea) nd i1 (.inl l1) (aDo (X:=X.ha hV ea) FC ((hr.h.mono hkk).mark) hgc hmc hkc hbc .nil (aW (gQ (X:=X.ha hV ea) i2 (.inl l2) d5 d8) cM) d2) (hf:=.inl (hf _)))) d1) (jm (su (gQ i1 (.inl l1) d4 d7)))),?_⟩
 have hs:start X.N [.ref f]=[some (.ref f),none,none]:=by rw[hN];rfl
 rw[hs];have e:(λ(_:V) H1=>Q (.str told) H1)=λ(_:V) H1=>aHR (mq 1) {nx:=λ _ H'=>Q .non H',rt:=Q} [some (.ref f),some (.str told),none] H1:=by
  funext v H1;exact propext ⟨λ q=>⟨_,rfl,q⟩,λ⟨v',e',q⟩=>by cases e';exact q⟩
 rw[e]at hsp;have key:aCs X 2 C' (λ c _ H1=>∃C wo,c= .ref C/\wd C=some wo/\∀H',aO H1 H'->Q (.str wo) H') (yJ (aAF X k0 0 λ c _ H1=>∃C wo,c= .ref C/\wd C=some wo/\∀H',aO H1 H'->Q (.str wo) H')) (yL (yK (spW wd) [] E (gw (mq 2) oG)) (mX 1))
  {nx:=aHR (mq 1) {nx:=λ _ H'=>Q .non H',rt:=Q},rt:=Q} [some (.ref f),some (.str told),none] H:=?_
 .exact key
 refine⟨⟨f,cls,dd,sl,fd,k,sp,rfl,hH,F,hk,hb,hsp⟩,λ c H1 ⟨C,wo,ec,hwd,hq⟩=>⟨C,ec,(hw C wo hwd).1,(hw C wo hwd).2,λ Z1 ea hl hn=>?_⟩⟩
 .rw[hN]at hl
  obtain⟨a,b,c,rfl⟩:∃a b c,Z1=[a,b,c]:=by
   match Z1,hl with
   |[a,b,c],_=>exact⟨a,b,c,rfl⟩
  refine⟨.ref ea,rfl,ea,C,wo,rfl,bA,hwd,λ H' sm=>⟨.str wo,rfl,hq H' λ b o e=>sm b o ?_⟩⟩;rw[aX (bT e hn)];exact e
end
mutual
def eqD:D->D->Bool
 | .non,.non=>true
 | .bl a,.bl b=>a==b
 | .bl a,.int b=>(if a then 1 else 0)==b
 | .int a,.bl b=>a==(if b then 1 else 0)
 | .int a,.int b=>a==b
 | .str a,.str b=>a==b
 | .tup l,.tup m=>gf l m
 | .lst l,.lst m=>gf l m
 |_,_=>false
def gf:List D->List D->Bool
 |[],[]=>true
 |x::xs,y::ys=>eqD x y&&gf xs ys
 |_,_=>false
end
mutual
def jU:D->Nat
 | .tup l=>cR l+1
 | .lst l=>cR l+1
 |_=>0
def cR:List D->Nat
 |[]=>0
 |d::r=>max (jU d) (cR r)
end
mutual
def aZ:D->Bool
 | .tup l=>ak l
 | .lst l=>ak l
 | .dct=>false
 |_=>true
def ak:List D->Bool
 |[]=>true
 |d::r=>aZ d&&ak r
end
mutual
theorem j8:∀d:D,aZ d=true->eqD d d=true
 | .non,_=>by simp[eqD]
 | .bl b,_=>by simp[eqD]
 | .int i,_=>by simp[eqD]
 | .str x,_=>by simp[eqD]
 | .tup l,h=>by simp only[eqD];exact fL l (by simpa[aZ]using h)
 | .lst l,h=>by simp only[eqD];exact fL l (by simpa[aZ]using h)
 | .dct,h=>by simp[aZ]at h
theorem fL:∀l:List D,ak l=true->gf l l=true
 |[],_=>by simp[gf]
 |d::r,h=>by
  simp only[ak,zAE]at h;simp only[gf,zAE];exact⟨j8 d h.1,fL r h.2⟩
end
section
def inD(d:D)(es:List D):Bool:=es.any λ e=>eqD e d
end
def aAG(K:zAA)(c:V):TE:=tCB (aGu K) (gw (mq 0) (gw (tC c) oG))
def kO(K:zAA):List V->TA
 |[]=>oG
 |c::cs=>gw (aAG K c) (kO K cs)
def ur:List Str->TA
 |[]=>oG
 |x::xs=>gw (tC (.str x)) (ur xs)
def Kt(K:zAA)(C:Addr)(c:V)(b:Bool):Prop:=∃u,RelV c u/\zB2 K (.ref C) u=some b
section
variable{K:zAA}{Z:St}{H:Hp}{ea C:Addr}
def vq{c:V}{b:Bool}{Q:VK}(hs:Z[0]? =some (some (.ref ea)))(hH:H ea=some (.ext (excφ ea C)))(hk:aGj K C)(h:Kt K C c b)(q:Q (.bl b) H):aAG K c Z H Q:=by
 obtain⟨u,r,e⟩:=h;exact⟨.ref ea,hs,ea,C,c,u,b,rfl,r,hH,hk,e,q⟩
theorem kj(hs:Z[0]? =some (some (.ref ea)))(hH:H ea=some (.ext (excφ ea C)))(hk:aGj K C):∀{cs:List V} {bs:List Bool} {Q:List V->Hp->Prop},zEo (Kt K C) cs bs->Q (bs.map V.bl) H->kO K cs Z H Q
 |_,_,_,.nil,q=>q
 |_,_,_,.cons h r,q=>vq hs hH hk h (kj hs hH hk r q)
theorem sE:∀{l:List Str} {Q:List V->Hp->Prop},Q (l.map V.str) H->ur l Z H Q
 |[],_,q=>q
 |x::l,_,q=>sE (l:=l) (Q:=λ xs H2=>_) q
end
structure Wd(K:zAA)(c1 c2:V)(ks:List (List V))(ws:List Str)(C:Addr)(w:Str):Prop where
 k:aGj K C
 q1:Kt K C c1 true
 q2:Kt K C c2 true
 bs:∃(b1 b2 b3 b4:List Bool) (j:Nat) (k1 k2 k3 k4:List V),ks=[k1,k2,k3,k4]/\zEo (Kt K C) k1 b1/\zEo (Kt K C) k2 b2/\zEo (Kt K C) k3 b3/\zEo (Kt K C) k4 b4/\(b1++b2++b3++b4).length<=100/\(b1++b2++b3++b4).count true=1/\
  (b1++b2++b3++b4)[j]? =some true/\(∀m,m<j->(b1++b2++b3++b4)[m]? =some false)/\ws[j]? =some w
section
variable{X:Cx}{n0 n1 n2 odd:Str}{c1 c2:V}{k1 k2 k3 k4:List V}{l1 l2:List Str}{a1 a2:Expr}{as1 as2 e1 e2 e3 e4 w1 w2:List Expr}{kw1 kw2:List zCo}{Q:VK}{H:Hp}{vs:List V}
 {p1 p2 p3 p4 p5 p6 p7 p8 p9 p10 p11 p12 p13 p14 p15 p16 p17 p18 p19 p20 p21 p22 p23 p24 p25 p26 p27 p28 p29 p30 p31 p32 p33 p34 p35 p36 p37 p38 p39 p40:Pos}{q1 q2 q3 q4 q5 q6 q7:Pos}{j1 j2 j3 j4 j5:Nat}{E0:XK}{wd:Addr->Option Str}
end
end L2
namespace VL
open PySem PySem.Spec PyProof.Rows L2
inductive D where
 |non|bl (b:Bool)|int (i:Int)|str (x:Str)|tup (l:List D)|lst (l:List D)|dct (ks vs:List D)|set (l:List Int)|scr (l:List Int)|fn (x:Str)
instance:Inhabited D:=⟨.non⟩
def kD:Key->D
 | .inl i=>.int i
 | .inr x=>.str x
variable{K:zAA}
def mj(K:zAA)(H:Hp)(a:Addr)(ns:List Int):Prop:=(∃o,H a=some (.frz o (.lst (ns.map V.int))))\/
 ∃(o:Obj) (its:Array Value) (n:Nat),K.lookup a=some o/\o.cls= .type "list"/\o.dict=none/\o.data= .seq its n/\its.size<=zAY/\Vals (ns.map V.int) its.toList
def mj.sq(h:mj K H a ns):SqL K H a (ns.map V.int):=by
 rcases h with h|h
 .exact .inl (.inr h)
 .exact .inr h
def hsh(ns:List Int):Int:=reduceHash (zH6 (ns.map hashInt))
def dxO(a:Addr)(es:List (List Int×Addr×V)):HO:=.ext λ h=>es.length<=zAY/\(a==zGM)=false/\∃(xs:List (List Int×Addr×Value)) (o:Obj) (ts:Array DictEntry) (ep:Nat),zEo (λ e x=>e.1=x.1/\e.2.1=x.2.1/\RelV e.2.2 x.2.2) es xs/\
 h.get? a=some o/\o.ExactDict/\o.data= .dict ts ep/\ts.toList=xs.map λ x=>⟨hsh x.1,.ref x.2.1,x.2.2⟩
structure DxK(K:zAA)(H:Hp)(a:Addr)(es:List (List Int×Addr×V)):Prop where
 at_:H a=some (dxO a es)
 ks:∀e∈es,SqT K H e.2.1 (e.1.map V.int)
 nd:(es.map (·.1)).Nodup
mutual
inductive Rp(K:zAA):(Addr->Prop)->Hp->V->D->Prop where
 |non {A:Addr->Prop} {H:Hp}:Rp K A H .non .non
 |bl {A:Addr->Prop} {H:Hp} (b:Bool):Rp K A H (.bl b) (.bl b)
 |int {A:Addr->Prop} {H:Hp} (i:Int):Rp K A H (.int i) (.int i)
 |str {A:Addr->Prop} {H:Hp} (x:Str):Rp K A H (.str x) (.str x)
 |tup {A:Addr->Prop} {H:Hp} {a:Addr} {xs:List V} {ds:List D} (h:SqT K H a xs) (r:Rps K A H xs ds):Rp K A H (.ref a) (.tup ds)
 |lst {A:Addr->Prop} {H:Hp} {a:Addr} {xs:List V} {ds:List D} (h:H a=some (.lst xs)) (m:A a) (r:Rps K (λ p=>A p/\p≠a) H xs ds):Rp K A H (.ref a) (.lst ds)
 |dK {A:Addr->Prop} {H:Hp} {a:Addr} {kvs:List (Key×V)} {ds:List D} (h:H a=some (.dK kvs)) (m:A a) (r:Rps K (λ p=>A p/\p≠a) H (kvs.map (·.2)) ds):Rp K A H (.ref a) (.dct (kvs.map λ p=>kD p.1) ds)
 |dT {A:Addr->Prop} {H:Hp} {a:Addr} {es:List (List Int×Addr×V)} {ds:List D} (h:DxK K H a es) (m:A a) (r:Rps K (λ p=>A p/\p≠a) H (es.map (·.2.2)) ds):Rp K A H (.ref a) (.dct (.non::es.map λ e=>.tup (e.1.map .int)) ds)
 |set {A:Addr->Prop} {H:Hp} {a:Addr} {S:Int->Bool} {l:List Int} (h:H a=some (.set S l.length)) (m:A a) (hS:∀i,S i=decide (i∈l)) (nd:l.Nodup):Rp K A H (.ref a) (.set l)
 |scr {A:Addr->Prop} {H:Hp} {a:Addr} {ns:List Int} (h:mj K H a ns):Rp K A H (.ref a) (.scr ns)
 |fn {A:Addr->Prop} {H:Hp} {a:Addr} {x:Str} (h:zA2 K zAV x=some (some (.ref a))):Rp K A H (.ref a) (.fn x)
inductive Rps(K:zAA):(Addr->Prop)->Hp->List V->List D->Prop where
 |nil {A:Addr->Prop} {H:Hp}:Rps K A H [] []
 |cons {A:Addr->Prop} {H:Hp} {x:V} {d:D} {xs:List V} {ds:List D} (h:Rp K A H x d) (r:Rps K A H xs ds):Rps K A H (x::xs) (d::ds)
end
def mj.mono(s:aO H H')(h:mj K H a ns):mj K H' a ns:=by
 rcases h with ⟨o,h⟩|h
 .exact .inl ⟨o,s _ _ h⟩
 .exact .inr h
def DxK.mono(h:DxK K H a es)(s:aO H H'):DxK K H' a es:=⟨s _ _ h.at_,λ e he=>s.sqt (h.ks e he),h.nd⟩
def Rp.mono'(s:aO H H')(r:Rp K A H x d)(hA:∀p o,H p=some o->A p->A' p):Rp K A' H' x d:=
 Rp.rec (motive_1:=λ A H x d _=>∀H',aO H H'->∀A':Addr->Prop,(∀p o,H p=some o->A p->A' p)->Rp K A' H' x d) (motive_2:=λ A H xs ds _=>∀H',aO H H'->∀A':Addr->Prop,(∀p o,H p=some o->A p->A' p)->Rps K A' H' xs ds)
  (λ _ _ _ _=>.non) (λ b _ _ _ _=>.bl b) (λ i _ _ _ _=>.int i) (λ x _ _ _ _=>.str x) (λ h _ ih _ s _ hA=>.tup (s.sqt h) (ih _ s _ hA))
  (λ h m _ ih _ s _ hA=>.lst (s _ _ h) (hA _ _ h m) (ih _ s _ λ p o e z=>⟨hA p o e z.1,z.2⟩)) (λ h m _ ih _ s _ hA=>.dK (s _ _ h) (hA _ _ h m) (ih _ s _ λ p o e z=>⟨hA p o e z.1,z.2⟩))
  (λ h m _ ih _ s _ hA=>.dT (h.mono s) (hA _ _ h.at_ m) (ih _ s _ λ p o e z=>⟨hA p o e z.1,z.2⟩)) (λ h m hS nd _ s _ hA=>.set (s _ _ h) (hA _ _ h m) hS nd) (λ h _ s _ _=>.scr (h.mono s)) (λ h _ _ _ _=>.fn h) (λ _ _ _ _=>.nil) (λ _ _ ih ir _ s _ hA=>.cons (ih _ s _ hA) (ir _ s _ hA)) r H' s A' hA
def Rps.mono'(s:aO H H')(r:Rps K A H xs ds)(hA:∀p o,H p=some o->A p->A' p):Rps K A' H' xs ds:=
 Rps.rec (motive_1:=λ A H x d _=>∀H',aO H H'->∀A':Addr->Prop,(∀p o,H p=some o->A p->A' p)->Rp K A' H' x d) (motive_2:=λ A H xs ds _=>∀H',aO H H'->∀A':Addr->Prop,(∀p o,H p=some o->A p->A' p)->Rps K A' H' xs ds)
  (λ _ _ _ _=>.non) (λ b _ _ _ _=>.bl b) (λ i _ _ _ _=>.int i) (λ x _ _ _ _=>.str x) (λ h _ ih _ s _ hA=>.tup (s.sqt h) (ih _ s _ hA))
  (λ h m _ ih _ s _ hA=>.lst (s _ _ h) (hA _ _ h m) (ih _ s _ λ p o e z=>⟨hA p o e z.1,z.2⟩)) (λ h m _ ih _ s _ hA=>.dK (s _ _ h) (hA _ _ h m) (ih _ s _ λ p o e z=>⟨hA p o e z.1,z.2⟩))
  (λ h m _ ih _ s _ hA=>.dT (h.mono s) (hA _ _ h.at_ m) (ih _ s _ λ p o e z=>⟨hA p o e z.1,z.2⟩)) (λ h m hS nd _ s _ hA=>.set (s _ _ h) (hA _ _ h m) hS nd) (λ h _ s _ _=>.scr (h.mono s)) (λ h _ _ _ _=>.fn h) (λ _ _ _ _=>.nil) (λ _ _ ih ir _ s _ hA=>.cons (ih _ s _ hA) (ir _ s _ hA)) r H' s A' hA
def Rp.mono(s:aO H H')(hA:∀p o,H p=some o->A p->A' p)(r:Rp K A H x d):Rp K A' H' x d:=r.mono' s hA
def Rps.mono(s:aO H H')(hA:∀p o,H p=some o->A p->A' p)(r:Rps K A H x d):Rps K A' H' x d:=r.mono' s hA
def Rp.up(s:aO H H')(r:Rp K A H x d):Rp K A H' x d:=r.mono s λ _ _ _ h=>h
def Rp.wk(hA:∀p o,H p=some o->A p->A' p)(r:Rp K A H x d):Rp K A' H x d:=r.mono (aO.refl H) hA
def Rps.up(s:aO H H')(r:Rps K A H x d):Rps K A H' x d:=r.mono s λ _ _ _ h=>h
def Rps.wk(hA:∀p o,H p=some o->A p->A' p)(r:Rps K A H x d):Rps K A' H x d:=r.mono (aO.refl H) hA
def jE:HO->Bool
 | .lst _=>true| .dK _=>true| .dT _=>true| .set _ _=>true| .ext _=>true|_=>false
def vz(s:lW l H H')(hl:H l=some o)(ho:jE o=true)(h:SqT K H a xs):SqT K H' a xs:=by
 rcases h with (h|⟨u,h⟩)|h
 .refine .inl (.inl (s _ _ (λ e=>?_) h))
  subst e;rw[hl]at h;cases h;cases ho
 .refine .inl (.inr ⟨u,s _ _ (λ e=>?_) h⟩)
  subst e;rw[hl]at h;cases h;cases ho
 .exact .inr h
def aBJ(s:lW l H H')(hl:H l=some o)(ho:jE o=true)(h:mj K H a ns):mj K H' a ns:=by
 rcases h with ⟨u,h⟩|h
 .exact .inl ⟨u,s _ _ (λ e=>by subst e;rw[hl]at h;cases h;cases ho) h⟩
 .exact .inr h
def DxK.but(h:DxK K H a es)(s:lW l H H')(hl:H l=some o)(ho:jE o=true)(ne:a≠l):DxK K H' a es:=
 ⟨s _ _ ne h.at_,λ e he=>vz s hl ho (h.ks e he),h.nd⟩
def Rp.but'(s:lW l H H')(hl:H l=some o)(ho:jE o=true)(r:Rp K A H x d)(hA:¬A l):Rp K A H' x d:=
 Rp.rec (motive_1:=λ A H x d _=>∀H',lW l H H'->∀o:HO,H l=some o->jE o=true->¬A l->Rp K A H' x d) (motive_2:=λ A H xs ds _=>∀H',lW l H H'->∀o:HO,H l=some o->jE o=true->¬A l->Rps K A H' xs ds)
  (λ _ _ _ _ _ _=>.non) (λ b _ _ _ _ _ _=>.bl b) (λ i _ _ _ _ _ _=>.int i) (λ x _ _ _ _ _ _=>.str x) (λ h _ ih _ s o hl ho hA=>.tup (vz s hl ho h) (ih _ s o hl ho hA))
  (λ h m _ ih _ s o hl ho hA=>.lst (s _ _ (λ e=>hA (e▸m)) h) m (ih _ s o hl ho λ z=>hA z.1)) (λ h m _ ih _ s o hl ho hA=>.dK (s _ _ (λ e=>hA (e▸m)) h) m (ih _ s o hl ho λ z=>hA z.1))
  (λ h m _ ih _ s o hl ho hA=>.dT (h.but s hl ho λ e=>hA (e▸m)) m (ih _ s o hl ho λ z=>hA z.1)) (λ h m hS nd _ s o hl ho hA=>.set (s _ _ (λ e=>hA (e▸m)) h) m hS nd) (λ h _ s o hl ho _=>.scr (aBJ s hl ho h)) (λ h _ _ _ _ _ _=>.fn h) (λ _ _ _ _ _ _=>.nil) (λ _ _ ih ir _ s o hl ho hA=>.cons (ih _ s o hl ho hA) (ir _ s o hl ho hA)) r H' s o hl ho hA
def Rps.but'(s:lW l H H')(hl:H l=some o)(ho:jE o=true)(r:Rps K A H xs ds)(hA:¬A l):Rps K A H' xs ds:=
 Rps.rec (motive_1:=λ A H x d _=>∀H',lW l H H'->∀o:HO,H l=some o->jE o=true->¬A l->Rp K A H' x d) (motive_2:=λ A H xs ds _=>∀H',lW l H H'->∀o:HO,H l=some o->jE o=true->¬A l->Rps K A H' xs ds)
  (λ _ _ _ _ _ _=>.non) (λ b _ _ _ _ _ _=>.bl b) (λ i _ _ _ _ _ _=>.int i) (λ x _ _ _ _ _ _=>.str x) (λ h _ ih _ s o hl ho hA=>.tup (vz s hl ho h) (ih _ s o hl ho hA))
  (λ h m _ ih _ s o hl ho hA=>.lst (s _ _ (λ e=>hA (e▸m)) h) m (ih _ s o hl ho λ z=>hA z.1)) (λ h m _ ih _ s o hl ho hA=>.dK (s _ _ (λ e=>hA (e▸m)) h) m (ih _ s o hl ho λ z=>hA z.1))
  (λ h m _ ih _ s o hl ho hA=>.dT (h.but s hl ho λ e=>hA (e▸m)) m (ih _ s o hl ho λ z=>hA z.1)) (λ h m hS nd _ s o hl ho hA=>.set (s _ _ (λ e=>hA (e▸m)) h) m hS nd) (λ h _ s o hl ho _=>.scr (aBJ s hl ho h)) (λ h _ _ _ _ _ _=>.fn h) (λ _ _ _ _ _ _=>.nil) (λ _ _ ih ir _ s o hl ho hA=>.cons (ih _ s o hl ho hA) (ir _ s o hl ho hA)) r H' s o hl ho hA
def Rp.but(s:lW l H H')(hl:H l=some o)(ho:jE o=true)(hA:¬A l)(r:Rp K A H x d):Rp K A H' x d:=r.but' s hl ho hA
def Rps.but(s:lW l H H')(hl:H l=some o)(ho:jE o=true)(hA:¬A l)(r:Rps K A H x d):Rps K A H' x d:=r.but' s hl ho hA
mutual
def imm:D->Bool
 | .tup l=>jT l
 | .lst _=>false
 | .dct _ _=>false
 | .set _=>false
 |_=>true
def jT:List D->Bool
 |[]=>true
 |d::r=>imm d&&jT r
end
def vH(e:jT (d::r)=true):imm d=true/\jT r=true:=by
 simp only[jT,zAE]at e;exact e
def aGP(e:imm (.tup l)=true):jT l=true:=by simpa[imm]using e
def aGT(e:imm (.lst l)=true):False:=by simp[imm]at e
def aB9(e:imm (.dct l k)=true):False:=by simp[imm]at e
def aGQ(e:imm (.set l)=true):False:=by simp[imm]at e
def Rp.imm'(r:Rp K A H x d)(e:VL.imm d=true):Rp K A' H x d:=
 Rp.rec (motive_1:=λ _ H x d _=>VL.imm d=true->Rp K A' H x d) (motive_2:=λ _ H xs ds _=>jT ds=true->Rps K A' H xs ds)
  (λ _=>.non) (λ b _=>.bl b) (λ i _=>.int i) (λ x _=>.str x) (λ h _ ih e=>.tup h (ih (aGP e)))
  (λ _ _ _ _ e=>(aGT e).elim) (λ _ _ _ _ e=>(aB9 e).elim) (λ _ _ _ _ e=>(aB9 e).elim) (λ _ _ _ _ e=>(aGQ e).elim) (λ h _=>.scr h) (λ h _=>.fn h) (λ _=>.nil) (λ _ _ ih ir e=>.cons (ih (vH e).1) (ir (vH e).2)) r e
theorem Rp.imm(r:Rp K A H x d)(h:VL.imm d=true):Rp K A' H x d:=r.imm' h
def Rp.int_inv(r:Rp K A H v (.int i)):v= .int i:=by cases r;rfl
def Rp.bl_inv(r:Rp K A H v (.bl b)):v= .bl b:=by cases r;rfl
def Rp.tup_inv(r:Rp K A H v (.tup ds)):∃a xs,v= .ref a/\SqT K H a xs/\Rps K A H xs ds:=by cases r with|tup h r=>exact⟨_,_,rfl,h,r⟩
def Rp.lst_inv(r:Rp K A H v (.lst ds)):∃a xs,v= .ref a/\H a=some (.lst xs)/\A a/\Rps K (λ p=>A p/\p≠a) H xs ds:=by cases r with|lst h m r=>exact⟨_,_,rfl,h,m,r⟩
def Rp.scr_inv(r:Rp K A H v (.scr ns)):∃a,v= .ref a/\mj K H a ns:=by cases r with|scr h=>exact⟨_,rfl,h⟩
def Rps.one_inv(r:Rps K A H vs [d]):∃v,vs=[v]/\Rp K A H v d:=by cases r with|cons h r=>cases r;exact⟨_,rfl,h⟩
section
variable{A:Addr->Prop}{H:Hp}
theorem Rps.length:∀{xs:List V} {ds:List D},Rps K A H xs ds->xs.length=ds.length:=by
 intro xs ds h;induction xs generalizing ds with
 |nil=>cases h;rfl
 |cons x xs ih=>cases h with|cons _ r=>exact congrArg (·+1) (ih r)
theorem Rps.get:∀{xs:List V} {ds:List D} {i:Nat} {x:V},Rps K A H xs ds->xs[i]? =some x->∃d,ds[i]? =some d/\Rp K A H x d
 |_,_,_,_,.nil,e=>by simp at e
 |_,_,0,_,.cons h _,e=>by simp at e;subst e;exact⟨_,rfl,h⟩
 |_,_,i+1,x,.cons _ r,e=>by
  obtain⟨d,h1,h2⟩:=Rps.get (i:=i) (x:=x) r (by simpa using e);exact⟨d,by simpa using h1,h2⟩
theorem Rps.getD:∀{xs:List V} {ds:List D} {i:Nat} {d:D},Rps K A H xs ds->ds[i]? =some d->∃x,xs[i]? =some x/\Rp K A H x d
 |_,_,_,_,.nil,e=>by simp at e
 |_,_,0,_,.cons h _,e=>by simp at e;subst e;exact⟨_,rfl,h⟩
 |_,_,i+1,d,.cons _ r,e=>by
  obtain⟨x,h1,h2⟩:=Rps.getD (i:=i) (d:=d) r (by simpa using e);exact⟨x,by simpa using h1,h2⟩
def Rps.append:∀{xs ys:List V} {ds es:List D},Rps K A H xs ds->Rps K A H ys es->Rps K A H (xs++ys) (ds++es):=by
 intro xs ys ds es h s;induction xs generalizing ds with
 |nil=>cases h;exact s
 |cons x xs ih=>cases h with|cons h r=>exact .cons h (ih r)
theorem Rps.set(h:Rp K A H x d):∀{xs:List V} {ds:List D} (n:Nat),Rps K A H xs ds->Rps K A H (xs.set n x) (ds.set n d)
 |_,_,_,.nil=>.nil
 |_,_,0,.cons _ r=>.cons h r
 |_,_,n+1,.cons k r=>.cons k (Rps.set h n r)
theorem Rps.ints:∀{ns:List Int},Rps K A H (ns.map V.int) (ns.map D.int)
 |[]=>.nil
 |n::ns=>.cons (.int n) Rps.ints
theorem Rps.ints_of:∀{xs:List V} {ns:List Int},Rps K A H xs (ns.map D.int)->xs=ns.map V.int
 |_,[],.nil=>rfl
 |_,n::ns,.cons h r=>by
  cases h;rw[zA7,Rps.ints_of r]
end
def aM(h:a=b):a=b:=h
inductive Rs(α:Type) where
 |ok (a:α)|ex (c:Str)|st
noncomputable def Rs.bd{α β:Type}:Rs α->(α->Rs β)->Rs β
 | .ok a,f=>f a
 | .ex c,_=>.ex c
 | .st,_=>.st
@[simp] def aQ(a:α)(f:α->Rs β):(Rs.ok a).bd f=f a:=aM rfl
def dG{r:Rs α}(h:r.bd f= .ok b):∃a,r= .ok a/\f a= .ok b:=by
 cases r with
 |ok a=>exact⟨a,rfl,h⟩
 |ex c=>cases h
 |st=>cases h
inductive Slot where
 |no|sh (d:D)|nw (d:D)|ow (d:D)|oz (d:D)|o2 (l:List (List D))
abbrev En:=List Slot
abbrev Lab:=Addr->Nat×Nat
abbrev Mode:=Option (List Nat)
def inM(m:Mode)(n:Nat):Prop:=match m with
 |none=>True
 |some L=>n∈L
def jn:Mode->Mode->Mode
 |some a,some b=>some (a++b)
 |_,_=>none
def aJj(h:inM a n):inM (jn a b) n:=by
 cases a with
 |none=>cases b<;>exact trivial
 |some L=>
  cases b with
  |none=>exact trivial
  |some M=>exact zAh _ h
def aJi(h:inM b n):inM (jn a b) n:=by
 cases a with
 |none=>cases b<;>exact trivial
 |some L=>
  cases b with
  |none=>exact trivial
  |some M=>exact zAa _ h
def fpM(m:Mode)(lab:Lab)(H:Hp):Addr->Prop:=λ p=>H p=none\/inM m (lab p).1
def aHG(h:fpM a lab H p):fpM (jn a b) lab H p:=h.imp id aJj
def aHF(h:fpM b lab H p):fpM (jn a b) lab H p:=h.imp id aJi
def uB(s:aO H H')(h:fpM m lab H' p):fpM m lab H p:=h.imp (λ z=>s.free z) id
structure Gx where
 H0:Hp
 E:XK
 cl:Str->Addr
def aCQ:D->Bool
 | .lst _=>true
 | .dct _ _=>true
 | .set _=>true
 |_=>false
def dU(K:zAA)(H:Hp)(lab:Lab)(i:Nat)(v:V):Slot->Prop
 | .no=>True
 | .sh d=>Rp K (λ p=>(lab p).1<=1) H v d
 | .nw d=>Rp K (λ p=>(lab p).1=1) H v d
 | .ow d=>Rp K (λ p=>(lab p).1=1\/(lab p).1=i+2) H v d/\(aCQ d=true->∃a,v= .ref a/\(lab a).1=i+2)
 | .oz d=>∃a xs ds,v= .ref a/\d= .lst ds/\H a=some (.lst xs)/\(lab a).1=i+2/\Rps K (λ p=>(lab p).1<=1) H xs ds
 | .o2 l=>∃a xs,v= .ref a/\H a=some (.lst xs)/\lab a=(i+2,0)/\xs.length=l.length/\∀(j:Nat) x ds,xs[j]? =some x->l[j]? =some ds->Rp K (λ p=>lab p=(i+2,j+1)) H x (.lst ds)
structure RR(K:zAA)(G:Gx)(U:List (V×D))(Y:En)(Z:L2.St)(H:Hp)(lab:Lab):Prop where
 len:Z.length=Y.length
 sl:∀(i:Nat) (s:Slot),Y[i]? =some s->s= .no\/∃v,Z[i]? =some (some v)/\dU K H lab i v s
 old:aO G.H0 H
 new:∀p,(lab p).1≠0->G.H0 p=none
 tm:∀q∈U,Rp K (λ p=>(lab p).1<=1) H q.1 q.2
theorem dU.up(s:aO H H')(h:dU K H lab i v x):dU K H' lab i v x:=by
 cases x with
 |no=>exact trivial
 |sh d=>exact Rp.up s h
 |nw d=>exact Rp.up s h
 |ow d=>exact⟨Rp.up s h.1,h.2⟩
 |oz d=>
  obtain⟨a,xs,ds,e1,e2,e3,e4,e5⟩:=h;exact⟨a,xs,ds,e1,e2,s _ _ e3,e4,e5.up s⟩
 |o2 l=>
  obtain⟨a,xs,e1,e2,e3,e4,e5⟩:=h;exact⟨a,xs,e1,s _ _ e2,e3,e4,λ j x ds f1 f2=>(e5 j x ds f1 f2).up s⟩
def aDU(r:Rp K A H (.ref a) d)(hm:aCQ d=true):∃o,H a=some o/\jE o=true/\A a:=by
 cases r with
 |lst h m _=>exact⟨_,h,rfl,m⟩
 |dK h m _=>exact⟨_,h,rfl,m⟩
 |dT h m _=>exact⟨_,h.at_,rfl,m⟩
 |set h m _ _=>exact⟨_,h,rfl,m⟩
 |tup _ _=>cases hm
 |scr _=>cases hm
 |fn _=>cases hm
def aH4(r:Rp K A H v d)(hm:aCQ d=true):∃a,v= .ref a:=by
 cases r with
 |lst h m _=>exact⟨_,rfl⟩
 |dK h m _=>exact⟨_,rfl⟩
 |dT h m _=>exact⟨_,rfl⟩
 |set h m _ _=>exact⟨_,rfl⟩
 |_=>cases hm
theorem dU.lab{lab lab':Lab}(hl:∀p o,H p=some o->lab' p=lab p)(h:dU K H lab i v x):dU K H lab' i v x:=by
 cases x with
 |no=>exact trivial
 |sh d=>exact Rp.wk (λ p o e q=>(hl p o e).symm▸q) h
 |nw d=>exact Rp.wk (λ p o e q=>(hl p o e).symm▸q) h
 |ow d=>
  obtain⟨h,t⟩:=h;refine⟨Rp.wk (λ p o e q=>(hl p o e).symm▸q) h,λ m=>?_⟩;obtain⟨a,rfl,ea⟩:=t m;obtain⟨o,ho,_⟩:=aDU h m;exact⟨a,rfl,(congrArg (·.1) (hl a o ho)).trans ea⟩
 |oz d=>
  obtain⟨a,xs,ds,e1,e2,e3,e4,e5⟩:=h;exact⟨a,xs,ds,e1,e2,e3,(congrArg (·.1) (hl _ _ e3)).trans e4,Rps.wk (λ p o e q=>(hl p o e).symm▸q) e5⟩
 |o2 l=>
  obtain⟨a,xs,e1,e2,e3,e4,e5⟩:=h;exact⟨a,xs,e1,e2,(hl _ _ e2).trans e3,e4,λ j x ds f1 f2=>Rp.wk (λ p o e q=>(hl p o e).symm▸q) (e5 j x ds f1 f2)⟩
section
variable{G:Gx}{U:List (V×D)}{Y:En}{Z:L2.St}{H H':Hp}{lab lab':Lab}
theorem RR.up(R:RR K G U Y Z H lab)(s:aO H H'):RR K G U Y Z H' lab:=
 ⟨R.len,λ i x e=>(R.sl i x e).imp id λ⟨v,e1,e2⟩=>⟨v,e1,e2.up s⟩,R.old.trans s,R.new,λ q hq=>(R.tm q hq).up s⟩
def RR.relab(R:RR K G U Y Z H lab)(hl:∀p o,H p=some o->lab' p=lab p)(hn:∀p,(lab' p).1≠0->G.H0 p=none):RR K G U Y Z H lab':=
 ⟨R.len,λ i x e=>(R.sl i x e).imp id λ⟨v,e1,e2⟩=>⟨v,e1,e2.lab hl⟩,R.old,hn,λ q hq=>Rp.wk (λ p o e z=>by rw[hl p o e];exact z) (R.tm q hq)⟩
def RR.drop(R:RR K G (U'++U) Y Z H lab):RR K G U Y Z H lab:=⟨R.len,R.sl,R.old,R.new,λ z hz=>R.tm z (zAa _ hz)⟩
def RR.put(R:RR K G U Y Z H lab)(h:dU K H lab i v s):RR K G U (Y.set i s) (Z.set i (some v)) H lab:=by
 refine⟨by rw[zAp,zAp,R.len],λ j x e=>?_,R.old,R.new,R.tm⟩;by_cases hj:i=j
 .subst hj
  have hi:i<Y.length:=by
   have:=(zAG.mp e).1
   rwa [zAp]at this
  rw[zBQ hi]at e;cases e;exact .inr ⟨v,by rw[zBQ (by rw[R.len];exact hi)],h⟩
 .rw[zAy hj]at e
  rcases R.sl j x e with z|⟨u,e1,e2⟩
  .exact .inl z
  .exact .inr ⟨u,by rw[zAy hj];exact e1,e2⟩
def cN(H:Hp)(n:Nat)(lab:Lab):Lab:=λ p=>match H p with
 |none=>(n,0)
 |some _=>lab p
def bR(h:H p=some o):cN H n lab p=lab p:=by unfold cN;rw[h]
def tK(h:H p=none):cN H n lab p=(n,0):=by unfold cN;rw[h]
def RR.fresh{P:Nat->Prop}(h1:P 1)(hm:∀k,inM m k->P k)(R:RR K G U Y Z H lab)(s:aO H H')(r:Rp K (fpM m lab H) H' v d):
  RR K G U Y Z H' (cN H 1 lab)/\Rp K (λ p=>P (cN H 1 lab p).1) H' v d:=by
 refine⟨(R.relab (λ p o e=>bR e) λ p hp=>?_).up s,Rp.wk (λ p o e z=>?_) r⟩
 .cases e:H p with
  |none=>exact R.old.free e
  |some o=>rw[bR e]at hp;exact R.new p hp
 .rcases z with z|z
  .rw[tK z];exact h1
  .cases e:H p with
   |none=>rw[tK e];exact h1
   |some o=>rw[bR e];exact hm _ z
def RR.freshO(i:Nat)(hm:∀k,inM m k->k=1\/k=i+2)(R:RR K G U Y Z H lab)(s:aO H H')(r:Rp K (fpM m lab H) H' v d)(ht:aCQ d=true->∃a,v= .ref a/\H a=none):
  ∃lab',RR K G U Y Z H' lab'/\dU K H' lab' i v (.ow d):=by
 obtain⟨R',r'⟩:=R.fresh (P:=λ k=>k=1\/k=i+2) (.inl rfl) hm s r;cases hd:aCQ d with
 |false=>exact⟨_,R',r',λ z=>absurd z (by simp[hd])⟩
 |true=>
  obtain⟨a,rfl,ha⟩:=ht hd;refine⟨λ p=>if p=a then(i+2,0)else cN H 1 lab p,?_,Rp.wk (λ p o e z=>?_) r',λ _=>⟨a,rfl,by show(if a=a then((i+2,0):Nat×Nat)else cN H 1 lab a).1=i+2;rw[if_pos rfl]⟩⟩
  .refine(R.relab (lab':=λ p=>if p=a then(i+2,0)else cN H 1 lab p) (λ p o e=>?_) λ p hp=>?_).up s
   .rw[if_neg (λ z=>by subst z;rw[ha]at e;cases e),bR e]
   .by_cases z:p=a
    .subst z;exact R.old.free ha
    .rw[if_neg z]at hp;exact R'.new p hp
  .dsimp only
   by_cases q:p=a
   .rw[if_pos q];exact .inr rfl
   .rw[if_neg q];exact z
def aHA(h:dU K H lab i v (.oz d)):Rp K (λ p=>(lab p).1<=1\/(lab p).1=i+2) H v d:=by
 obtain⟨a,xs,ds,rfl,rfl,h1,h2,h3⟩:=h;exact .lst h1 (.inr h2) (h3.wk λ p o e z=>⟨.inl z,λ q=>by subst q;lia⟩)
end
structure Ct where
 ι:Type
 X:ι->Cx
 prog:zAP
 w:World
 K:zAA
 mg:Str->Option Value
 base:Heap
 k:Nat
 G:Gx
 cx:∀i,(X i).prog=prog/\(X i).w=w/\(X i).K=K/\(X i).mg=mg/\(X i).base=base
 calm:∀i,(X i).calm=true
 room:∀i,dJ k (X i).A
 own:∀i,zGx (model (X i).prog (X i).w) (X i).A (X i).env (X i).xe
 pass:∀i,ni (CX1 (X i).prog (X i).w) (X i) G.E
 dOk:Bool
 dcx:dOk=true->∀i,cT (X i) G.E
def Ct.hK(C:Ct)(i:C.ι):(C.X i).K=C.K:=(C.cx i).2.2.1
def WR{α:Type}(G:Gx)(r:Rs α)(P:α->Prop):Prop:=match r with
 | .ok a=>P a
 | .ex c=>∀H',aO G.H0 H'->G.E (.ref (G.cl c)) none H'
 | .st=>False
theorem WR.bd(h:WR G (r.bd k) P):WR G r (λ a=>WR G (k a) P):=by
 cases r with
 |ok a=>exact h
 |ex c=>exact h
 |st=>exact h
def WR.imp(h:WR G r P)(f:∀a,r= .ok a->P a->P' a):WR G r P':=by
 cases r with
 |ok a=>exact f a rfl h
 |ex c=>exact h
 |st=>exact h
abbrev QE(K:zAA)(m:Mode)(lab:Lab)(H:Hp)(Q:VK):D->Prop:=λ d=>∀v H',aO H H'->Rp K (fpM m lab H) H' v d->Q v H'
abbrev QA(K:zAA)(m:Mode)(lab:Lab)(H:Hp)(Q:List V->Hp->Prop):List D->Prop:=λ ds=>∀vs H',aO H H'->Rps K (fpM m lab H) H' vs ds->Q vs H'
abbrev QT(H:Hp)(Q:Bool->Hp->Prop):Bool->Prop:=λ b=>∀H',aO H H'->Q b H'
def iu(K:zAA)(G:Gx)(m:Mode)(t:TE)(f:En->Rs D):Prop:=∀U Z H Y lab (Q:VK),RR K G U Y Z H lab->WR G (f Y) (QE K m lab H Q)->t Z H Q
def aJC(K:zAA)(G:Gx)(m:Mode)(t:TA)(f:En->Rs (List D)):Prop:=∀U Z H Y lab (Q:List V->Hp->Prop),RR K G U Y Z H lab->WR G (f Y) (QA K m lab H Q)->t Z H Q
def aCm(K:zAA)(G:Gx)(t:TT)(f:En->Rs Bool):Prop:=∀U Z H Y lab (Q:Bool->Hp->Prop),RR K G U Y Z H lab->WR G (f Y) (QT H Q)->t Z H Q
def SE(C:Ct)(m:Mode)(e:Expr)(f:En->Rs D):Prop:=∃t,(∀i,PE (C.X i) e t)/\iu C.K C.G m t f
def SA(C:Ct)(m:Mode)(es:List Expr)(f:En->Rs (List D)):Prop:=∃t,(∀i,PA (C.X i) es t)/\aJC C.K C.G m t f
def ST(C:Ct)(e:Expr)(f:En->Rs Bool):Prop:=∃t,(∀i,PT (C.X i) e t)/\aCm C.K C.G t f
def SW(C:Ct)(e:Expr)(f:En->Rs Bool):Prop:=∃t,(∀i,PW (C.X i) e t)/\aCm C.K C.G t f
def SW.st(h:SW C e f):ST C e f:=let⟨t,h1,h2⟩:=h;⟨t,λ i=>(h1 i).pt,h2⟩
def pF(i:Nat):En->Rs D:=λ Y=>match Y[i]? with
 |some (.sh d)=>.ok d
 |some (.nw d)=>.ok d
 |some (.ow d)=>.ok d
 |some (.oz d)=>.ok d
 |some (.o2 l)=>.ok (.lst (l.map .lst))
 |_=>.st
def aB(i:Nat):En->Rs D:=λ Y=>match Y[i]? with
 |some (.sh d)=>.ok d
 |some (.nw d)=>.ok d
 |_=>.st
def pC(i:Nat):En->Rs D:=λ Y=>match Y[i]? with
 |some (.nw d)=>.ok d
 |_=>.st
def vg(i:Nat):En->Rs D:=λ Y=>match Y[i]? with
 |some (.ow d)=>.ok d
 |some (.o2 l)=>.ok (.lst (l.map .lst))
 |_=>.st
def cD(d:D):En->Rs D:=λ _=>.ok d
def aBX{K:zAA}{H:Hp}{lab:Lab}{i:Nat}{v:V}{l:List (List D)}(h:dU K H lab i v (.o2 l)):Rp K (λ p=>(lab p).1=i+2) H v (.lst (l.map .lst)):=by
 obtain⟨a,xs,rfl,ha,hla,hW,hin⟩:=h;refine .lst ha (by rw[hla]) ?_;have go:∀(xs:List V) (l:List (List D)) (n:Nat),xs.length=l.length->0<n->(∀(j:Nat) x ds,xs[j]? =some x->l[j]? =some ds->Rp K (λ p=>lab p=(i+2,n+j)) H x (.lst ds))->Rps K (λ p=>(lab p).1=i+2/\p≠a) H xs (l.map .lst):=by
  intro xs;induction xs with
  |nil=>intro l n hl _ _;cases l with|nil=>exact .nil|cons _ _=>simp at hl
  |cons x xs ih=>
   intro l n hl hn h;cases l with
   |nil=>simp at hl
   |cons ds l=>
    refine .cons (Rp.wk (λ p o e z=>⟨by rw[z],λ e=>by rw[e,hla]at z;have z2:(0:Nat)=n+0:=congrArg Prod.snd z;lia⟩) (h 0 x ds rfl rfl)) (ih l (n+1) (by simpa using hl) (by lia) λ j y es e1 e2=>?_);have z:=h (j+1) y es (by simpa using e1) (by simpa using e2);rw[show n+1+j=n+(j+1)by lia];exact z
 exact go xs l 1 hW (by lia) λ j x ds e1 e2=>by have z:=hin j x ds e1 e2;rw[show 1+j=j+1 by lia];exact z
section
variable{C:Ct}{pos:Pos}
def aBB(K:zAA)(G:Gx)(i:Nat):iu K G (some [0,1,i+2]) (mq i) (pF i):=by
 intro U Z H Y lab Q R W;unfold pF at W;cases e:Y[i]? with
 |none=>rw[e]at W;exact W.elim
 |some s=>
  rw[e]at W;rcases R.sl i s e with rfl|⟨v,ev,hv⟩
  .exact zAJ W
  .cases s with
   |no=>exact zAJ W
   |sh d=>exact⟨v,ev,W v H (aO.refl H) (Rp.wk (λ p o e z=>.inr (by show(lab p).1∈[0,1,i+2];rcases(show(lab p).1=0\/(lab p).1=1 by lia)with q|q<;>rw[q]<;>simp)) hv)⟩
   |nw d=>exact⟨v,ev,W v H (aO.refl H) (Rp.wk (λ p o e z=>.inr (by show(lab p).1∈[0,1,i+2];rw[z];simp)) hv)⟩
   |ow d=>exact⟨v,ev,W v H (aO.refl H) (Rp.wk (λ p o e z=>.inr (by show(lab p).1∈[0,1,i+2];rcases z with q|q<;>rw[q]<;>simp)) hv.1)⟩
   |oz d=>exact⟨v,ev,W v H (aO.refl H) (Rp.wk (λ p o e z=>.inr (by show(lab p).1∈[0,1,i+2];rcases(show(lab p).1=0\/(lab p).1=1\/(lab p).1=i+2 by lia)with q|q|q<;>rw[q]<;>simp)) (aHA hv))⟩
   |o2 l=>exact⟨v,ev,W v H (aO.refl H) (Rp.wk (λ p o e z=>.inr (by show(lab p).1∈[0,1,i+2];rw[z];simp)) (aBX hv))⟩
def aDH(K:zAA)(G:Gx)(i:Nat):iu K G (some [0,1]) (mq i) (aB i):=by
 intro U Z H Y lab Q R W;unfold aB at W;cases e:Y[i]? with
 |none=>rw[e]at W;exact W.elim
 |some s=>
  rw[e]at W;rcases R.sl i s e with rfl|⟨v,ev,hv⟩
  .exact zAJ W
  .cases s with
   |sh d=>exact⟨v,ev,W v H (aO.refl H) (Rp.wk (λ p o e z=>.inr (by show(lab p).1∈[0,1];rcases(show(lab p).1=0\/(lab p).1=1 by lia)with q|q<;>rw[q]<;>simp)) hv)⟩
   |nw d=>exact⟨v,ev,W v H (aO.refl H) (Rp.wk (λ p o e z=>.inr (by show(lab p).1∈[0,1];rw[z];simp)) hv)⟩
   |_=>exact zAJ W
def aDJ(K:zAA)(G:Gx)(i:Nat):iu K G (some [1]) (mq i) (pC i):=by
 intro U Z H Y lab Q R W;unfold pC at W;cases e:Y[i]? with
 |none=>rw[e]at W;exact W.elim
 |some s=>
  rw[e]at W;rcases R.sl i s e with rfl|⟨v,ev,hv⟩
  .exact zAJ W
  .cases s with
   |nw d=>exact⟨v,ev,W v H (aO.refl H) (Rp.wk (λ p o e z=>.inr (by show(lab p).1∈[1];rw[z];simp)) hv)⟩
   |_=>exact zAJ W
def aDI(K:zAA)(G:Gx)(i:Nat):iu K G (some [1,i+2]) (mq i) (vg i):=by
 intro U Z H Y lab Q R W;unfold vg at W;cases e:Y[i]? with
 |none=>rw[e]at W;exact W.elim
 |some s=>
  rw[e]at W;rcases R.sl i s e with rfl|⟨v,ev,hv⟩
  .exact zAJ W
  .cases s with
   |ow d=>exact⟨v,ev,W v H (aO.refl H) (Rp.wk (λ p o e z=>.inr (by show(lab p).1∈[1,i+2];rcases z with q|q<;>rw[q]<;>simp)) hv.1)⟩
   |o2 l=>exact⟨v,ev,W v H (aO.refl H) (Rp.wk (λ p o e z=>.inr (by show(lab p).1∈[1,i+2];rw[z];simp)) (aBX hv))⟩
   |_=>exact zAJ W
def wF(i:Nat)(hN:∀j,(C.X j).N[i]? =some x:=by intro _;rfl)(hv:∀j,Vis (C.X j).env.scope x:=by intro _;first|exact zCg rfl|exact zBx (zCg rfl)|exact zBx (zBx rfl))(hd:Nd x:=by decide)
  (hcd:(x==("__classdict__":Str))=false:=by decide):SE C (some [0,1,i+2]) (.Name x pos) (pF i):=⟨_,λ j=>gQ (hN j) (hv j) hd hcd,aBB _ _ i⟩
def aA(i:Nat)(hN:∀j,(C.X j).N[i]? =some x:=by intro _;rfl)(hv:∀j,Vis (C.X j).env.scope x:=by intro _;first|exact zCg rfl|exact zBx (zCg rfl)|exact zBx (zBx rfl))(hd:Nd x:=by decide)
  (hcd:(x==("__classdict__":Str))=false:=by decide):SE C (some [0,1]) (.Name x pos) (aB i):=⟨_,λ j=>gQ (hN j) (hv j) hd hcd,aDH _ _ i⟩
def rJ(i:Nat)(hN:∀j,(C.X j).N[i]? =some x:=by intro _;rfl)(hv:∀j,Vis (C.X j).env.scope x:=by intro _;first|exact zCg rfl|exact zBx (zCg rfl)|exact zBx (zBx rfl))(hd:Nd x:=by decide)
  (hcd:(x==("__classdict__":Str))=false:=by decide):SE C (some [1]) (.Name x pos) (pC i):=⟨_,λ j=>gQ (hN j) (hv j) hd hcd,aDJ _ _ i⟩
def aBE(i:Nat)(hN:∀j,(C.X j).N[i]? =some x:=by intro _;rfl)(hv:∀j,Vis (C.X j).env.scope x:=by intro _;first|exact zCg rfl|exact zBx (zCg rfl)|exact zBx (zBx rfl))(hd:Nd x:=by decide)
  (hcd:(x==("__classdict__":Str))=false:=by decide):SE C (some [1,i+2]) (.Name x pos) (vg i):=⟨_,λ j=>gQ (hN j) (hv j) hd hcd,aDI _ _ i⟩
def aL:SE C (some []) (.Constant (.int i) j pos) (cD (.int i)):=⟨_,λ _=>aDm,λ U Z H Y lab Q R W=>W _ H (aO.refl H) (.int i)⟩
def oM:SE C (some []) (.Constant (.bool b) j pos) (cD (.bl b)):=⟨_,λ _=>aDp,λ U Z H Y lab Q R W=>W _ H (aO.refl H) (.bl b)⟩
def wG:SE C (some []) (.Constant (.str x) j pos) (cD (.str x)):=⟨_,λ _=>dO,λ U Z H Y lab Q R W=>W _ H (aO.refl H) (.str x)⟩
def aBH(hm:C.mg x=some u)(r:RelV v u)(hd:∀A H,Rp C.K A H v d)(hdb:Nd x:=by decide)(hg:∀i,Gl (C.X i) x:=by intro _;rfl):SE C (some []) (.Name x pos) (cD d):=
 ⟨_,λ i=>cX (hg i) (by rw[(C.cx i).2.2.2.1];exact hm) r hdb,λ U Z H Y lab Q R W=>W _ H (aO.refl H) (hd _ _)⟩
def oX(d:D):Rs D:=if imm d=true then .ok d else .st
def cB(f:En->Rs D):En->Rs D:=λ Y=>(f Y).bd oX
def cI(h:SE C m e f):SE C (some []) e (cB f):=by
 obtain⟨t,h1,h2⟩:=h;refine⟨t,h1,λ U Z H Y lab Q R W=>h2 U Z H Y lab Q R (W.bd.imp λ d _ w v H' s r=>?_)⟩;unfold oX at w;by_cases hd:imm d=true
 .rw[if_pos hd]at w
  exact w v H' s (r.imm hd)
 .rw[if_neg hd]at w
  exact zAJ w
def aJ:En->Rs (List D):=λ _=>.ok []
def aC(f:En->Rs D)(g:En->Rs (List D)):En->Rs (List D):=λ Y=>(f Y).bd λ d=>(g Y).bd λ ds=>.ok (d::ds)
variable{m m1 m2:Mode}{e a b:Expr}{es:List Expr}{f fa fb:En->Rs D}{g:En->Rs (List D)}
def aH:SA C (some []) [] aJ:=⟨_,λ _=>cM,λ U Z H Y lab Q R W=>W _ H (aO.refl H) .nil⟩
def aD(h:SE C m1 e f)(hr:SA C m2 es g)(hs:∀i,zAT (e::es) (C.X i).env=(false,eval e (C.X i).env)::zAT es (C.X i).env:=by intro _;rfl):SA C (jn m1 m2) (e::es) (aC f g):=by
 obtain⟨t,h1,h2⟩:=h;obtain⟨u,k1,k2⟩:=hr;refine⟨_,λ i=>aW (h1 i) (k1 i) (hs i),λ U Z H Y lab Q R W=>?_⟩;refine h2 U Z H Y lab _ R (W.bd.imp λ d _ w x H1 s1 r1=>?_);refine k2 U Z H1 Y lab _ (R.up s1) (w.bd.imp λ ds _ w xs H2 s2 r2=>?_);exact w (x::xs) H2 (s1.trans s2) (.cons (r1.mono s2 λ p o _ z=>aHG z) (r2.wk λ p o _ z=>aHF (uB s1 z)))
def bh(g:En->Rs (List D)):En->Rs D:=λ Y=>(g Y).bd λ ds=>if ds.length<=zAY then .ok (.tup ds)else .st
def ud(g:En->Rs (List D)):En->Rs D:=λ Y=>(g Y).bd λ ds=>if ds.length<=zAY then .ok (.lst ds)else .st
def bu{x1}(h:SA C m es g):SE C m (.Tuple es x1 pos) (bh g):=by
 obtain⟨t,h1,h2⟩:=h;refine⟨_,λ i=>aFe (h1 i),λ U Z H Y lab Q R W=>h2 U Z H Y lab _ R (W.bd.imp λ ds _ w xs H1 s1 r1=>?_)⟩;by_cases hz:ds.length<=zAY
 .rw[if_pos hz]at w
  exact⟨by rw[r1.length];exact hz,λ p H' s hp _=>w _ H' (s1.trans s) (.tup (SqT.of hp) (r1.up s))⟩
 .rw[if_neg hz]at w
  exact zAJ w
def aHZ(h:SA C m es g):SE C m (.List es pos) (ud g):=by
 obtain⟨t,h1,h2⟩:=h;refine⟨_,λ i=>jq (h1 i),λ U Z H Y lab Q R W=>h2 U Z H Y lab _ R (W.bd.imp λ ds _ w xs H1 s1 r1=>?_)⟩;by_cases hz:ds.length<=zAY
 .rw[if_pos hz]at w
  exact⟨by rw[r1.length];exact hz,λ p H' s hp hn=>w _ H' (s1.trans s) (.lst hp (.inl (s1.free hn)) ((r1.wk λ q o e z=>⟨z,λ e'=>by subst e';rw[hn]at e;cases e⟩).up s))⟩
 .rw[if_neg hz]at w
  exact zAJ w
def aKC(H:Hp)(v:V)(d:D):Prop:=aCQ d=true->∃a,v= .ref a/\H a=none
def aJB(K:zAA)(G:Gx)(m:Mode)(t:TE)(f:En->Rs D):Prop:=∀U Z H Y lab (Q:VK),RR K G U Y Z H lab->WR G (f Y) (λ d=>∀v H',aO H H'->Rp K (fpM m lab H) H' v d->aKC H v d->Q v H')->t Z H Q
def SF(C:Ct)(m:Mode)(e:Expr)(f:En->Rs D):Prop:=∃t,(∀i,PE (C.X i) e t)/\aJB C.K C.G m t f
def iu.toF{K:zAA}{G:Gx}{t:TE}{f:En->Rs D}(h:iu K G (some []) t f):aJB K G (some []) t f:=λ U Z H Y lab Q R W=>
 h U Z H Y lab Q R (W.imp λ d _ w v H' s r=>w v H' s r λ hm=>by
  obtain⟨a,rfl⟩:=aH4 r hm;obtain⟨o,_,_,z⟩:=aDU r hm;rcases z with z|z
  .exact⟨a,rfl,z⟩
  .cases z)
def aKP(h:SE C (some []) e f):SF C (some []) e f:=let⟨t,h1,h2⟩:=h;⟨t,h1,h2.toF⟩
def aDN(h:SA C m es g):SF C m (.List es pos) (ud g):=by
 obtain⟨t,h1,h2⟩:=h;refine⟨_,λ i=>jq (h1 i),λ U Z H Y lab Q R W=>h2 U Z H Y lab _ R (W.bd.imp λ ds _ w xs H1 s1 r1=>?_)⟩;by_cases hz:ds.length<=zAY
 .rw[if_pos hz]at w
  exact⟨by rw[r1.length];exact hz,λ p H' s hp hn=>w _ H' (s1.trans s) (.lst hp (.inl (s1.free hn)) ((r1.wk λ q o e z=>⟨z,λ e'=>by subst e';rw[hn]at e;cases e⟩).up s)) λ _=>⟨p,rfl,s1.free hn⟩⟩
 .rw[if_neg hz]at w
  exact zAJ w
def OpS(K:zAA)(r:R2)(fd:D->D->Rs D):Prop:=∀(A:Addr->Prop) x y d e H (Q:VK) z,Rp K A H x d->Rp K A H y e->fd d e= .ok z->(∀v H',aO H H'->Rp K (λ p=>H p=none\/A p) H' v z->Q v H')->r x y H Q
def UnS(K:zAA)(r:V->Hp->VK->Prop)(fd:D->Rs D):Prop:=∀(A:Addr->Prop) x d H (Q:VK) z,Rp K A H x d->fd d= .ok z->(∀v H',aO H H'->Rp K (λ p=>H p=none\/A p) H' v z->Q v H')->r x H Q
def pB(K:zAA)(r:List V->Hp->VK->Prop)(fd:List D->Rs D):Prop:=∀(A:Addr->Prop) xs ds H (Q:VK) z,Rps K A H xs ds->fd ds= .ok z->(∀v H',aO H H'->Rp K (λ p=>H p=none\/A p) H' v z->Q v H')->r xs H Q
def okD(r:Rs D):Rs D:=match r with
 | .ok d=>.ok d
 |_=>.st
def op2(fd:D->D->Rs D)(fa fb:En->Rs D):En->Rs D:=λ Y=>(fa Y).bd λ x=>(fb Y).bd λ y=>okD (fd x y)
def op1(fd:D->Rs D)(fa:En->Rs D):En->Rs D:=λ Y=>(fa Y).bd λ x=>okD (fd x)
def opA(fd:List D->Rs D)(fa:En->Rs (List D)):En->Rs D:=λ Y=>(fa Y).bd λ x=>okD (fd x)
theorem WR.okD(h:WR G (okD r) P):∃z,r= .ok z/\P z:=by
 cases r with
 |ok z=>exact⟨z,rfl,h⟩
 |ex c=>exact zAJ h
 |st=>exact zAJ h
def wD{K:zAA}{G:Gx}{r:R2}{ta tb:TE}{fd:D->D->Rs D}(hs:OpS K r fd)(h1:iu K G m1 ta fa)(h2:iu K G m2 tb fb):iu K G (jn m1 m2) (tOp r ta tb) (op2 fd fa fb):=by
 intro U Z H Y lab Q R W;refine h1 U Z H Y lab _ R (W.bd.imp λ d _ w x H1 s1 r1=>?_);refine h2 U Z H1 Y lab _ (R.up s1) (w.bd.imp λ e _ w y H2 s2 r2=>?_);obtain⟨z,ez,w⟩:=w.okD;refine hs (fpM (jn m1 m2) lab H) x y d e H2 Q z (r1.mono s2 λ p o _ q=>aHG q) (r2.wk λ p o _ q=>aHF (uB s1 q)) ez λ v H' s r=>w v H' ((s1.trans s2).trans s) (r.wk λ p o _ q=>?_)
 rcases q with q|q
 .exact .inl ((s1.trans s2).free q)
 .exact q
def aFR{K:zAA}{G:Gx}{r:V->Hp->VK->Prop}{ta:TE}{fd:D->Rs D}(hs:UnS K r fd)(h1:iu K G m ta fa):iu K G m (tUn r ta) (op1 fd fa):=by
 intro U Z H Y lab Q R W;refine h1 U Z H Y lab _ R (W.bd.imp λ d _ w x H1 s1 r1=>?_);obtain⟨z,ez,w⟩:=w.okD;refine hs (fpM m lab H) x d H1 Q z r1 ez λ v H' s r=>w v H' (s1.trans s) (r.wk λ p o _ q=>?_)
 rcases q with q|q
 .exact .inl (s1.free q)
 .exact q
def aBC{K:zAA}{G:Gx}{r:List V->Hp->VK->Prop}{ta:TA}{fd:List D->Rs D}(hs:pB K r fd)(h1:aJC K G m ta g):iu K G m (tCB r ta) (opA fd g):=by
 intro U Z H Y lab Q R W;refine h1 U Z H Y lab _ R (W.bd.imp λ d _ w x H1 s1 r1=>?_);obtain⟨z,ez,w⟩:=w.okD;refine hs (fpM m lab H) x d H1 Q z r1 ez λ v H' s r=>w v H' (s1.trans s) (r.wk λ p o _ q=>?_)
 rcases q with q|q
 .exact .inl (s1.free q)
 .exact q
def cO(h:SE C m e f)(hi:∀Y d,f Y= .ok d->imm d=true):SE C (some []) e f:=by
 obtain⟨t,h1,h2⟩:=h;exact⟨t,h1,λ U Z H Y lab Q R W=>h2 U Z H Y lab Q R (W.imp λ d ed w v H' s r=>w v H' s (r.imm (hi Y d ed)))⟩
def fB(h:∀x y z,fd x y= .ok z->imm z=true)(e:op2 fd fa fb Y= .ok d):imm d=true:=by
 obtain⟨x,_,e⟩:=dG e;obtain⟨y,_,e⟩:=dG e;unfold okD at e;split at e
 .rename_i z hz
  cases e;exact h x y _ hz
 .cases e
def aGR(h:∀x z,fd x= .ok z->imm z=true)(e:op1 fd fa Y= .ok d):imm d=true:=by
 obtain⟨x,_,e⟩:=dG e;unfold okD at e;split at e
 .rename_i z hz
  cases e;exact h x _ hz
 .cases e
def jt(h:∀x z,fd x= .ok z->imm z=true)(e:opA fd g Y= .ok d):imm d=true:=by
 obtain⟨x,_,e⟩:=dG e;unfold okD at e;split at e
 .rename_i z hz
  cases e;exact h x _ hz
 .cases e
def mR(ro:∀i,OpR (C.X i) (zB3 op) r)(hs:OpS C.K r fd)(ha:SE C m1 a fa)(hb:SE C m2 b fb):SE C (jn m1 m2) (.BinOp a op b pos) (op2 fd fa fb):=by
 obtain⟨t,h1,h2⟩:=ha;obtain⟨u,k1,k2⟩:=hb;exact⟨_,λ i=>aDk (ro i) (h1 i) (k1 i),wD hs h2 k2⟩
def aJT(ro:∀i,UnR (C.X i) (unaryOp op) r)(hs:UnS C.K r fd)(ha:SE C m a fa):SE C m (.UnaryOp op a pos) (op1 fd fa):=by
 obtain⟨t,h1,h2⟩:=ha;exact⟨_,λ i=>aJ1 (ro i) (h1 i),aFR hs h2⟩
def aAL(ro:∀i,OpR (C.X i) (zAm op) r)(hs:OpS C.K r fd)(ha:SE C m1 a fa)(hb:SE C m2 b fb)(hm:zBb op b=false:=by first|exact aDv _|(with_unfolding_all rfl)):
  SE C (jn m1 m2) (.Compare a [op] [b] pos) (op2 fd fa fb):=by
 obtain⟨t,h1,h2⟩:=ha;obtain⟨u,k1,k2⟩:=hb;exact⟨_,λ i=>aFf (ro i) (h1 i) (k1 i) hm,wD hs h2 k2⟩
variable{p:Pos}{x:Str}{id T:String}
def iB(ro:∀i,dM (C.X i) (.builtin id) r)(hs:pB C.K r fd)(hg:∀i,Gl (C.X i) x)(hm:C.mg x=none)(hv:zAr x=some (.builtin id))(ha:SA C m (e::es) g)
  (hn:x≠"__name__":=by decide)(hdb:Nd x:=by decide)(he:∀i,zAT (e::es) (C.X i).env=(false,eval e (C.X i).env)::zAT es (C.X i).env:=by intro _;rfl)
  (hpl:∀i,(zCY pos (zAT es (C.X i).env)).any (·.1)=false:=by intro _;rfl):SE C m (.Call (.Name x p) (e::es) [] pos) (opA fd g):=by
 obtain⟨t,h1,h2⟩:=ha;exact⟨_,λ i=>oR (ro i) (hg i) (by rw[(C.cx i).2.2.2.1];exact hm) hv (h1 i) hn hdb (he i) (hpl i),aBC hs h2⟩
def aDS(ro:∀i,dM (C.X i) (.type T) r)(hs:pB C.K r fd)(hg:∀i,Gl (C.X i) x)(hm:C.mg x=none)(hv:zAr x=some (.type T))(ha:SA C m (e::es) g)
  (hn:x≠"__name__":=by decide)(hdb:Nd x:=by decide)(he:∀i,zAT (e::es) (C.X i).env=(false,eval e (C.X i).env)::zAT es (C.X i).env:=by intro _;rfl)
  (hpl:∀i,(zCY pos (zAT es (C.X i).env)).any (·.1)=false:=by intro _;rfl):SE C m (.Call (.Name x p) (e::es) [] pos) (opA fd g):=by
 obtain⟨t,h1,h2⟩:=ha;exact⟨_,λ i=>lw (ro i) (hg i) (by rw[(C.cx i).2.2.2.1];exact hm) hv (h1 i) hn hdb (he i) (hpl i),aBC hs h2⟩
def ul(f g:En->Rs D):En->Rs D:=λ Y=>(f Y).bd λ d=>match d with
 | .bl true=>g Y
 | .bl false=>.ok (.bl false)
 |_=>.st
def aIO:D->Rs D
 | .bl b=>.ok (.bl (!b))
 |_=>.st
variable{rest:List Expr}
def nC{op}(h:SE C m a fa):SE C m (.BoolOp op [a] pos) fa:=by
 obtain⟨t,h1,h2⟩:=h;exact⟨_,λ i=>aHj (h1 i),h2⟩
def lC(ha:SE C m1 a fa)(hb:SE C m2 (.BoolOp .And (b::rest) pos) fb):SE C m2 (.BoolOp .And (a::b::rest) pos) (ul fa fb):=by
 obtain⟨t,h1,h2⟩:=ha;obtain⟨u,k1,k2⟩:=hb;refine⟨_,λ i=>aHo (h1 i) (k1 i),λ U Z H Y lab Q R W=>h2 U Z H Y lab _ R (W.bd.imp λ d _ w x H1 s1 r1=>?_)⟩;cases r1 with
 |bl c=>
  refine⟨c,rfl,?_⟩;cases c with
  |true=>
   rw[if_pos rfl];exact k2 U Z H1 Y lab Q (R.up s1) (w.imp λ z _ w v H' s r=>w v H' (s1.trans s) (r.wk λ p o _ q=>uB s1 q))
  |false=>
   rw[if_neg zAc];exact w _ H1 s1 (.bl false)
 |_=>exact zAJ w
def aHY(ha:SE C m a fa):SE C (some []) (.UnaryOp .Not a pos) (op1 aIO fa):=by
 obtain⟨t,h1,h2⟩:=ha;refine⟨_,λ i=>aHk (h1 i),λ U Z H Y lab Q R W=>h2 U Z H Y lab _ R (W.bd.imp λ d _ w x H1 s1 r1=>?_)⟩;obtain⟨z,ez,w⟩:=w.okD;cases r1 with
 |bl c=>cases ez;exact⟨c,rfl,w _ H1 s1 (.bl _)⟩
 |_=>cases ez
def chD(fd fd':D->D->Rs D)(fa fb fc:En->Rs D):En->Rs D:=λ Y=>(fa Y).bd λ x=>(fb Y).bd λ y=>(okD (fd x y)).bd λ z=>match z with
 | .bl true=>(fc Y).bd λ w=>okD (fd' y w)
 | .bl false=>.ok (.bl false)
 |_=>.st
def aBx{K:zAA}{G:Gx}{r r':R2}{ta tb tc:TE}{fd fd':D->D->Rs D}{fc:En->Rs D}{m3:Mode}(hs:OpS K r fd)(hs':OpS K r' fd')(hi:∀x y z,fd' x y= .ok z->imm z=true)(h1:iu K G m1 ta fa)(h2:iu K G m2 tb fb)(h3:iu K G m3 tc fc):
  iu K G (some []) (aCu r r' ta tb tc) (chD fd fd' fa fb fc):=by
 intro U Z H Y lab Q R W;refine h1 U Z H Y lab _ R (W.bd.imp λ d _ w x H1 s1 r1=>?_);refine h2 U Z H1 Y lab _ (R.up s1) (w.bd.imp λ e _ w y H2 s2 r2=>?_);obtain⟨z,ez,w⟩:=w.bd.okD;refine hs (λ _=>True) x y d e H2 _ z (r1.mono s2 λ p o _ q=>trivial) (r2.wk λ p o _ q=>trivial) ez λ v H3 s3 r3=>?_
 cases r3 with
 |bl c=>
  refine⟨c,rfl,?_⟩;cases c with
  |false=>
   rw[if_neg zAc];exact w _ H3 ((s1.trans s2).trans s3) (.bl false)
  |true=>
   rw[if_pos rfl];refine h3 U Z H3 Y lab _ ((R.up s1).up (s2.trans s3)) (w.bd.imp λ e' _ w y' H4 s4 r4=>?_);obtain⟨z',ez',w⟩:=w.okD;exact hs' (λ _=>True) y y' e e' H4 Q z' (r2.mono (s3.trans s4) λ p o _ q=>trivial) (r4.wk λ p o _ q=>trivial) ez' λ v H5 s5 r5=>w v H5 ((((s1.trans s2).trans s3).trans s4).trans s5) (r5.imm (hi _ _ _ ez'))
 |_=>exact zAJ w
def yS(ro:∀i,OpR (C.X i) (zAm op) r)(hs:OpS C.K r fd)(ro':∀i,OpR (C.X i) (zAm op') r')(hs':OpS C.K r' fd')(hi:∀x y z,fd' x y= .ok z->imm z=true)
  (ha:SE C m1 a fa)(hb:SE C m2 b fb)(hc:SE C m3 c fc)(hm:zHD [op,op'] [b,c]=false:=by with_unfolding_all rfl):SE C (some []) (.Compare a [op,op'] [b,c] pos) (chD fd fd' fa fb fc):=by
 obtain⟨t,h1,h2⟩:=ha;obtain⟨u,k1,k2⟩:=hb;obtain⟨v,l1,l2⟩:=hc;exact⟨_,λ i=>aDn (ro i) (ro' i) (h1 i) (k1 i) (l1 i) hm,aBx hs hs' hi h2 k2 l2⟩
def aFM:D->Rs Bool
 | .non=>.ok false
 | .bl b=>.ok b
 | .int i=>.ok (i !=0)
 | .tup l=>.ok (!l.isEmpty)
 | .lst l=>.ok (!l.isEmpty)
 |_=>.st
def blD:D->Rs Bool
 | .bl b=>.ok b
 |_=>.st
def tst(f:En->Rs D):En->Rs Bool:=λ Y=>(f Y).bd aFM
def tsb(f:En->Rs D):En->Rs Bool:=λ Y=>(f Y).bd blD
def tX{K:zAA}{A:Addr->Prop}{H:Hp}{xs:List V}{ds:List D}(r:Rps K A H xs ds):(!ds.isEmpty)= !xs.isEmpty:=by cases r<;>rfl
def jh(ha:SE C m a fa)(he:∀i whole,isTrue a (C.X i).env whole=(do let v <-whole;zG0 a.pos;zDQ [v] (truthy v)):=by intro _ _;rfl):ST C a (tst fa):=by
 obtain⟨t,h1,h2⟩:=ha;refine⟨λ Z H Q=>t Z H λ x H'=>∃k,aIy C.K x H' k/\Q k H',λ i=>by rw[<-C.hK i];exact aDb (h1 i) (he i),λ U Z H Y lab Q R W=>h2 U Z H Y lab _ R (W.bd.imp λ d _ w x H1 s1 r1=>?_)⟩;cases r1 with
 |non=>exact⟨false,rfl,w H1 s1⟩
 |bl b=>exact⟨b,rfl,w H1 s1⟩
 |int i=>exact⟨i !=0,rfl,w H1 s1⟩
 |tup h r=>exact⟨_,.inr (.inl ⟨_,h,rfl⟩),by rw[<-tX r];exact w H1 s1⟩
 |lst h m r=>exact⟨_,.inl ⟨_,SqL.of h,rfl⟩,by rw[<-tX r];exact w H1 s1⟩
 |_=>exact zAJ w
def aFQ{K:zAA}{G:Gx}{t:TE}{f:En->Rs D}(h:iu K G m t f):aCm K G (aGn t) (tsb f):=λ U Z H Y lab Q R W=>h U Z H Y lab _ R (W.bd.imp λ d _ w x H1 s1 r1=>by
 cases r1 with
 |bl b=>exact⟨b,rfl,w H1 s1⟩
 |_=>exact zAJ w)
def nA(ro:∀i,OpR (C.X i) (zAm op) r)(hs:OpS C.K r fd)(ha:SE C m1 a fa)(hb:SE C m2 b fb)(hm:zBb op b=false:=by first|exact aDv _|(with_unfolding_all rfl)):
  ST C (.Compare a [op] [b] pos) (tsb (op2 fd fa fb)):=by
 obtain⟨t,h1,h2⟩:=ha;obtain⟨u,k1,k2⟩:=hb;exact⟨_,λ i=>aFa (ro i) (h1 i) (k1 i) hm,aFQ (wD hs h2 k2)⟩
variable{ga gb:En->Rs Bool}
def aIv(f g:En->Rs Bool):En->Rs Bool:=λ Y=>(f Y).bd λ k=>if k=true then g Y else .ok false
def orT(f g:En->Rs Bool):En->Rs Bool:=λ Y=>(f Y).bd λ k=>if k=true then .ok true else g Y
def qy(f:En->Rs Bool):En->Rs Bool:=λ Y=>(f Y).bd λ k=>.ok (!k)
def aFN(ha:ST C a ga):SW C (.BoolOp .And [a] pos) ga:=let⟨t,h1,h2⟩:=ha;⟨t,λ i=>aF9 (h1 i),h2⟩
def aAH(ha:ST C a ga):SW C (.BoolOp .Or [a] pos) ga:=let⟨t,h1,h2⟩:=ha;⟨t,λ i=>aD8 (h1 i),h2⟩
def aHT(ha:ST C a ga)(hb:SW C (.BoolOp .And (b::rest) pos) gb):SW C (.BoolOp .And (a::b::rest) pos) (aIv ga gb):=by
 obtain⟨t,h1,h2⟩:=ha;obtain⟨u,k1,k2⟩:=hb;refine⟨_,λ i=>aH7 (h1 i) (k1 i),λ U Z H Y lab Q R W=>h2 U Z H Y lab _ R (W.bd.imp λ k _ w H1 s1=>?_)⟩;cases k with
 |true=>
  rw[if_pos rfl]at w ⊢;exact k2 U Z H1 Y lab Q (R.up s1) (w.imp λ z _ w H' s=>w H' (s1.trans s))
 |false=>
  rw[if_neg zAc]at w ⊢;exact w H1 s1
def aCv(ha:ST C a ga)(hb:SW C (.BoolOp .Or (b::rest) pos) gb):SW C (.BoolOp .Or (a::b::rest) pos) (orT ga gb):=by
 obtain⟨t,h1,h2⟩:=ha;obtain⟨u,k1,k2⟩:=hb;refine⟨_,λ i=>aGy (h1 i) (k1 i),λ U Z H Y lab Q R W=>h2 U Z H Y lab _ R (W.bd.imp λ k _ w H1 s1=>?_)⟩;cases k with
 |false=>
  rw[if_neg zAc]at w ⊢;exact k2 U Z H1 Y lab Q (R.up s1) (w.imp λ z _ w H' s=>w H' (s1.trans s))
 |true=>
  rw[if_pos rfl]at w ⊢;exact w H1 s1
def mz(ha:ST C a ga):ST C (.UnaryOp .Not a pos) (qy ga):=by
 obtain⟨t,h1,h2⟩:=ha;exact⟨_,λ i=>aAV (h1 i),λ U Z H Y lab Q R W=>h2 U Z H Y lab _ R (W.bd.imp λ k _ w H1 s1=>w H1 s1)⟩
end
inductive Ou where
 |nx (Y:En)|rt (d:D)|bk (Y:En)|ct (Y:En)|ex (c:Str)|st
noncomputable def Rs.bo{α:Type}:Rs α->(α->Ou)->Ou
 | .ok a,f=>f a
 | .ex c,_=>.ex c
 | .st,_=>.st
@[simp] def dX(a:α)(f:α->Ou):(Rs.ok a).bo f=f a:=aM rfl
@[simp] def bo_ex(c:Str)(f:α->Ou):(Rs.ex c:Rs α).bo f= .ex c:=aM rfl
noncomputable def Ou.sq:Ou->(En->Ou)->Ou
 | .nx Y,f=>f Y
 |o,_=>o
@[simp] def bK(Y:En)(f:En->Ou):(Ou.nx Y).sq f=f Y:=aM rfl
@[simp] def sq_rt(d:D)(f:En->Ou):(Ou.rt d).sq f= .rt d:=aM rfl
@[simp] def sq_ex(c:Str)(f:En->Ou):(Ou.ex c).sq f= .ex c:=aM rfl
def WS(K:zAA)(G:Gx)(U:List (V×D))(o:Ou)(De:Ends):Prop:=match o with
 | .nx Y=>∀Z H lab,RR K G U Y Z H lab->De.nx Z H
 | .bk Y=>∀Z H lab,RR K G U Y Z H lab->De.bk Z H
 | .ct Y=>∀Z H lab,RR K G U Y Z H lab->De.ct Z H
 | .rt d=>∀v H,aO G.H0 H->Rp K (λ p=>G.H0 p=none) H v d->De.rt v H
 | .ex c=>∀H',aO G.H0 H'->G.E (.ref (G.cl c)) none H'
 | .st=>False
theorem WS.bo{K:zAA}(h:WS K G U (r.bo k) De):WR G r (λ a=>WS K G U (k a) De):=by
 cases r with
 |ok a=>exact h
 |ex c=>exact h
 |st=>exact h
def aJu(K:zAA)(G:Gx)(t:TS)(f:En->Ou):Prop:=∀U Z H Y lab (De:Ends),RR K G U Y Z H lab->WS K G U (f Y) De->t De Z H
def SS(C:Ct)(s:Stmt)(f:En->Ou):Prop:=∃t,(∀i,PS (C.X i) s t)/\aJu C.K C.G t f
def SSs(C:Ct)(s:List Stmt)(f:En->Ou):Prop:=∃t,(∀i,PSs (C.X i) s t)/\aJu C.K C.G t f
section
variable{C:Ct}{pos:Pos}{s:Stmt}{ss:List Stmt}{f g:En->Ou}{e:Expr}{m:Mode}{fe:En->Rs D}
def cW:SSs C [] .nx:=⟨_,λ _=>wW,λ U Z H Y lab De R W=>W Z H lab R⟩
def bD(f g:En->Ou):En->Ou:=λ Y=>(f Y).sq g
def aN(h:SS C s f):SSs C [s] f:=let⟨t,h1,h2⟩:=h;⟨t,λ i=>jm (h1 i),h2⟩
def aK(h:SS C s f)(k:SSs C ss g):SSs C (s::ss) (bD f g):=by
 obtain⟨t,h1,h2⟩:=h;obtain⟨u,k1,k2⟩:=k;refine⟨_,λ i=>dW (h1 i) (k1 i),λ U Z H Y lab De R W=>h2 U Z H Y lab _ R ?_⟩;unfold bD at W;cases h:f Y with
 |nx Y'=>rw[h]at W;exact λ Z' H' lab' R'=>k2 U Z' H' Y' lab' De R' W
 |rt d=>rw[h]at W;exact W
 |bk Y'=>rw[h]at W;exact W
 |ct Y'=>rw[h]at W;exact W
 |ex c=>rw[h]at W;exact W
 |st=>rw[h]at W;exact W
def frz(i:Nat)(Y:En):En:=match Y[i]? with
 |some (.ow d)=>Y.set i (.nw d)
 |some (.o2 l)=>Y.set i (.nw (.lst (l.map .lst)))
 |_=>Y
def aJ9:Mode->Bool
 |some L=>L.all (·!=0)
 |none=>false
def retS(fe:En->Rs D):En->Ou:=λ Y=>(fe Y).bo .rt
def bF(he:SE C m e fe)(hm:aJ9 m=true:=by rfl):SS C (.Return (some e) pos) (retS fe):=by
 obtain⟨t,h1,h2⟩:=he;refine⟨_,λ i=>su (h1 i),λ U Z H Y lab De R W=>h2 U Z H Y lab _ R (W.bo.imp λ d _ w v H' s r=>w v H' (R.old.trans s) (r.wk λ p o _ z=>?_))⟩;rcases z with z|z
 .exact R.old.free z
 .cases m with
  |none=>cases hm
  |some L=>
   refine R.new p λ e0=>?_
   have:=zAx.mp hm _ z
   rw[e0]at this;simp at this
def z8(fe:En->Rs D):En->Ou:=λ Y=>(fe Y).bo λ _=>.nx Y
def aFO(he:SE C m e fe)(hs:∀i,zDI e none pos.line (C.X i).env=pure false:=by intro _;rfl):SS C (.Expr e pos) (z8 fe):=by
 obtain⟨t,h1,h2⟩:=he;exact⟨_,λ i=>rN (h1 i) (hs i),λ U Z H Y lab De R W=>h2 U Z H Y lab _ R (W.bo.imp λ d _ w v H' s r=>w Z H' lab (R.up s))⟩
def ifS(c:En->Rs Bool)(f g:En->Ou):En->Ou:=λ Y=>(c Y).bo λ k=>if k=true then f Y else g Y
def iy{a b:List Stmt}(hc:ST C c fc)(ha:SSs C a f)(hb:SSs C b g):SS C (.If c a b pos) (ifS fc f g):=by
 obtain⟨tc,c1,c2⟩:=hc;obtain⟨t,h1,h2⟩:=ha;obtain⟨u,k1,k2⟩:=hb;refine⟨_,λ i=>aDf (c1 i) (h1 i) (k1 i),λ U Z H Y lab De R W=>c2 U Z H Y lab _ R (W.bo.imp λ k _ w H1 s1=>?_)⟩;cases k with
 |true=>rw[if_pos rfl]at w ⊢;exact h2 U Z H1 Y lab De (R.up s1) w
 |false=>rw[if_neg zAc]at w ⊢;exact k2 U Z H1 Y lab De (R.up s1) w
def SV(C:Ct)(i:Nat)(s:Stmt)(m:Mode)(f:En->Rs D):Prop:=∃t,(∀j,PS (C.X j) s (yL t (mX i)))/\iu C.K C.G m t f
def jM(he:SE C m e fe)(hN:∀j,(C.X j).N[i]? =some x:=by intro _;rfl)(hx:∀j,Loc (C.X j).env.scope x:=by intro _;first|exact zCg rfl|exact zBx rfl)(hs:∀j,zDI e (some (.Name x pos')) pos.line (C.X j).env=pure false:=by intro _;rfl)(hf:∀j,(C.X j).fn x=true\/(C.X j).env.scope.names.lookup x=some .local:=by intro _;first|exact .inl rfl|exact .inr rfl)(nd:∀j,(C.X j).N.Nodup:=by intro _;assumption):
  SV C i (.Assign [.Name x pos'] e pos) m fe:=by
 obtain⟨t,h1,h2⟩:=he;exact⟨t,λ j=>jo (nd j) (hN j) (hx j) (h1 j) (hs j) (hf j),h2⟩
def SVF(C:Ct)(i:Nat)(s:Stmt)(m:Mode)(f:En->Rs D):Prop:=∃t,(∀j,PS (C.X j) s (yL t (mX i)))/\aJB C.K C.G m t f
def aCw(he:SF C m e fe)(hN:∀j,(C.X j).N[i]? =some x:=by intro _;rfl)(hx:∀j,Loc (C.X j).env.scope x:=by intro _;first|exact zCg rfl|exact zBx rfl)(hs:∀j,zDI e (some (.Name x pos')) pos.line (C.X j).env=pure false:=by intro _;rfl)(hf:∀j,(C.X j).fn x=true\/(C.X j).env.scope.names.lookup x=some .local:=by intro _;first|exact .inl rfl|exact .inr rfl)(nd:∀j,(C.X j).N.Nodup:=by intro _;assumption):
  SVF C i (.Assign [.Name x pos'] e pos) m fe:=by
 obtain⟨t,h1,h2⟩:=he;exact⟨t,λ j=>jo (nd j) (hN j) (hx j) (h1 j) (hs j) (hf j),h2⟩
def aBW(P:Nat->Bool):Mode->Bool
 |some L=>L.all P
 |none=>false
def oU(h:aBW P m=true):∀k,inM m k->P k=true:=by
 intro k hk;cases m with
 |none=>cases h
 |some L=>exact zAx.mp h k hk
abbrev okS:Mode->Bool:=aBW λ k=>decide (k<=1)
abbrev okN:Mode->Bool:=aBW λ k=>k==1
abbrev okO(i:Nat):Mode->Bool:=aBW λ k=>k==1||k==i+2
def dN(i:Nat)(fe:En->Rs D):En->Ou:=λ Y=>(fe Y).bo λ d=>.nx (Y.set i (.sh d))
def qw(i:Nat)(fe:En->Rs D):En->Ou:=λ Y=>(fe Y).bo λ d=>.nx (Y.set i (.nw d))
def yQ(i:Nat)(fe:En->Rs D):En->Ou:=λ Y=>(fe Y).bo λ d=>.nx (Y.set i (.ow d))
def RR.shared{K:zAA}(hm:okS m=true)(R:RR K G U Y Z H lab)(s:aO H H')(r:Rp K (fpM m lab H) H' v d):
  RR K G U Y Z H' (cN H 1 lab)/\Rp K (λ p=>(cN H 1 lab p).1<=1) H' v d:=R.fresh (P:=λ k=>k<=1) (by decide) (λ k hk=>of_decide_eq_true (oU hm k hk)) s r
def bZ{i:Nat}(h:SV C i s m fe)(hm:okS m=true:=by rfl):SS C s (dN i fe):=by
 obtain⟨t,h1,h2⟩:=h;refine⟨_,h1,λ U Z H Y lab De R W=>h2 U Z H Y lab _ R (W.bo.imp λ d _ w v H' s r=>?_)⟩;obtain⟨R',r'⟩:=R.shared hm s r;exact w _ _ _ (R'.put (s:=.sh d) r')
def lZ(h:SV C i s m fe)(hm:okN m=true:=by rfl):SS C s (qw i fe):=by
 obtain⟨t,h1,h2⟩:=h;refine⟨_,h1,λ U Z H Y lab De R W=>h2 U Z H Y lab _ R (W.bo.imp λ d _ w v H' s r=>?_)⟩;obtain⟨R',r'⟩:=R.fresh (P:=λ k=>k=1) rfl (λ k hk=>beq_iff_eq.mp (oU hm k hk)) s r;exact w _ _ _ (R'.put (s:=.nw d) r')
def vy(h:SVF C i s m fe)(hm:okO i m=true:=by rfl):SS C s (yQ i fe):=by
 obtain⟨t,h1,h2⟩:=h;refine⟨_,h1,λ U Z H Y lab De R W=>h2 U Z H Y lab _ R (W.bo.imp λ d _ w v H' s r ht=>?_)⟩;obtain⟨lab',R',r'⟩:=R.freshO i (λ k hk=>by have:=oU hm k hk;simpa using this) s r ht;exact w _ _ _ (R'.put (s:=.ow d) r')
def aJA(K:zAA)(G:Gx)(g:TG)(fg:D->En->Rs En):Prop:=∀U v d Z H Y lab (Q:L2.St->Hp->Prop) Y',RR K G U Y Z H lab->Rp K (λ p=>(lab p).1<=1) H v d->fg d Y= .ok Y'->(∀Z',RR K G U Y' Z' H lab->Q Z' H)->g v Z H Q
def aJv(K:zAA)(G:Gx)(g:TGs)(fg:List D->En->Rs En):Prop:=∀U vs ds Z H Y lab (Q:L2.St->Hp->Prop) Y',RR K G U Y Z H lab->Rps K (λ p=>(lab p).1<=1) H vs ds->fg ds Y= .ok Y'->(∀Z',RR K G U Y' Z' H lab->Q Z' H)->g vs Z H Q
def SG(C:Ct)(tg:Expr)(ks:List Nat)(fg:D->En->Rs En):Prop:=∃g,(∀i,PG (C.X i) tg g)/\aJA C.K C.G g fg/\uV g ks/\zy g
def SGs(C:Ct)(tg:List Expr)(ks:List Nat)(fg:List D->En->Rs En):Prop:=∃g,(∀i,PGs (C.X i) tg g)/\aJv C.K C.G g fg/\uU g ks/\qL g
def gnm(i:Nat):D->En->Rs En:=λ d Y=>.ok (Y.set i (.sh d))
def gZ:List D->En->Rs En:=λ ds Y=>match ds with
 |[]=>.ok Y
 |_=>.st
def az(f:D->En->Rs En)(g:List D->En->Rs En):List D->En->Rs En:=λ ds Y=>match ds with
 |d::r=>(f d Y).bd (g r)
 |_=>.st
def gW(n:Nat)(g:List D->En->Rs En):D->En->Rs En:=λ d Y=>match d with
 | .tup ds=>if ds.length=n then g ds Y else .st
 |_=>.st
variable{ks:List Nat}{fg:D->En->Rs En}{fgs:List D->En->Rs En}{tg:Expr}{tgs:List Expr}
def bV(hN:∀j,(C.X j).N[i]? =some x:=by intro _;rfl)(hx:∀j,Loc (C.X j).env.scope x:=by intro _;first|exact zCg rfl|exact zBx rfl)(hf:∀j,(C.X j).fn x=true\/(C.X j).env.scope.names.lookup x=some .local:=by intro _;first|exact .inl rfl|exact .inr rfl)(nd:∀j,(C.X j).N.Nodup:=by intro _;assumption)(hk:i∈ks:=by decide):SG C (.Name x pos) ks (gnm i):=
 ⟨_,λ j=>aFd (nd j) (hN j) (hx j) (hf j),λ U v d Z H Y lab Q Y' R r e q=>by cases e;exact q _ (R.put (s:=.sh d) r),aGX hk,aGZ⟩
def lq:SGs C [] ks gZ:=by
 refine⟨_,λ _=>aFc,λ U vs ds Z H Y lab Q Y' R r e q=>?_,aGW,aGY⟩;cases r with
 |nil=>cases e;exact⟨rfl,q _ R⟩
 |cons _ _=>cases e
def cQ(h:SG C tg ks fg)(k:SGs C tgs ks fgs)(hs:∀i,(zCL (tg::tgs) (C.X i).env).map (·.2)=zEO tg (C.X i).env::(zCL tgs (C.X i).env).map (·.2):=by intro _;rfl):SGs C (tg::tgs) ks (az fg fgs):=by
 obtain⟨g,h1,h2,h3,h4⟩:=h;obtain⟨u,k1,k2,k3,k4⟩:=k;refine⟨_,λ i=>aDi (h1 i) (k1 i) (hs i),λ U vs ds Z H Y lab Q Y' R r e q=>?_,aEa h3 h4 k3 k4,aEe h4 k4⟩;cases r with
 |nil=>cases e
 |cons h r=>
  obtain⟨Y1,e1,e2⟩:=dG e;exact⟨_,_,rfl,h2 U _ _ Z H Y lab _ Y1 R h e1 λ Z1 R1=>k2 U _ _ Z1 H Y1 lab Q Y' R1 r e2 q⟩
def pH(h:SGs C tgs ks fgs)(hn:∀i,(zCL tgs (C.X i).env).length=n:=by intro _;rfl)(hst:∀i,(zCL tgs (C.X i).env).findIdx? (·.1)=none:=by intro _;rfl):SG C (.Tuple tgs k pos) ks (gW n fgs):=by
 obtain⟨u,k1,k2,k3,k4⟩:=h;refine⟨aG0 C.K n u,λ i=>by rw[<-C.hK i];exact aHe (C.calm i) (k1 i) (hn i) (hst i),λ U v d Z H Y lab Q Y' R r e q=>?_,aIb k3,aIc k4⟩;cases r with
 |tup h r=>
  unfold gW at e;dsimp only at e;split at e
  .rename_i hl
   exact⟨_,_,rfl,h,by rw[r.length];exact hl,k2 U _ _ Z H Y lab Q Y' R r e q⟩
  .cases e
 |_=>cases e
def aCk(fe:En->Rs D)(fg:D->En->Rs En):En->Ou:=λ Y=>(fe Y).bo λ d=>match fg d Y with
 | .ok Y'=>.nx Y'
 |_=>.st
def aDF(he:SE C m e fe)(hg:SG C tg ks fg)(hm:okS m=true:=by rfl)(hs:∀i,zG2 [tg] e pos.line (C.X i).env=pure false:=by intro _;rfl)(hw:∀i,zG1 [tg] e (C.X i).env=pure none:=by intro _;rfl)
  (h1:∀i,(zCL [tg] (C.X i).env).map (·.2)=[zEO tg (C.X i).env]:=by intro _;rfl):SS C (.Assign [tg] e pos) (aCk fe fg):=by
 obtain⟨t,p1,p2⟩:=he;obtain⟨g,q1,q2,_,_⟩:=hg;refine⟨_,λ i=>aDg (p1 i) (q1 i) (hs i) (hw i) (h1 i),λ U Z H Y lab De R W=>p2 U Z H Y lab _ R (W.bo.imp λ d _ w v H' s r=>?_)⟩;obtain⟨R',r'⟩:=R.shared hm s r;cases hgd:fg d Y with
 |ok Y'=>rw[hgd]at w;exact q2 U v d Z H' Y _ _ Y' R' r' hgd λ Z' R2=>w Z' H' _ R2
 |ex c=>rw[hgd]at w;exact zAJ w
 |st=>rw[hgd]at w;exact zAJ w
def JL(K:zAA)(lab:Lab)(J:It)(H:Hp)(ds:List D):Prop:=∀i,(ds.length<=i->J.stop i H)/\(i<ds.length->J.go i H/\∀x H',J.yld i H x H'->aO H H'/\∃d,ds[i]? =some d/\Rp K (λ p=>(lab p).1<=1) H' x d)
def aIz(K:zAA)(G:Gx)(wi:TI)(f:En->Rs (List D)):Prop:=∀U Z H Y lab (Rr:It->Hp->Prop),RR K G U Y Z H lab->
 WR G (f Y) (λ ds=>∀J H1 lab1 U1,aO H H1->(∀p o,H p=some o->lab1 p=lab p)->RR K G (U1++U) Y Z H1 lab1->(∀lab' H',(∀q∈U1,Rp K (λ p=>(lab' p).1<=1) H' q.1 q.2)->JL K lab' J H' ds)->Rr J H1)->wi Z H Rr
def SI(C:Ct)(tg iter:Expr)(f:En->Rs (List D)):Prop:=∃wi,(∀i,PI (C.X i) tg iter wi)/\aIz C.K C.G wi f
def aJk(K:zAA)(tl:TE):TI:=λ Z H R=>tl Z H λ x H1=>∃a,x= .ref a/\(((∃xs,SqL K H1 a xs)/\R (Itl K a) H1)\/((∃xs,SqT K H1 a xs)/\R (Itt K a) H1))
def aHd(hl:PE X l tl):PI X tg l (aJk X.K tl):=by
 intro hV s Z H R I h;refine thn (hl hV s Z H _ I h) λ v s1 ⟨x,H1,I1,r1,a,e,q1⟩=>?_
 subst e;cases r1;have hp:∀b∈[s1.heap.objs.size],uW X hV H1 b:=λ b hb=>by
  have e:b=s1.heap.objs.size:=by simpa using hb
  rw[e];exact I1.fpOk (zAW _) (I1.hok.fresh (zAW _))
 rcases q1 with ⟨⟨xs,hq⟩,q⟩|⟨⟨xs,hq⟩,q⟩
 .obtain⟨its,rv,p,hz⟩:=I1.list hq
  refine zDl p.isList ?_;exact⟨_,_,_,_,H1,rfl,I1.kept (t':=s1.toks) λ b o e=>zAH _ e,aBw a _,⟨_,zAR _ rfl,rfl,rfl⟩,hp,q⟩
 .obtain⟨its,rv,p,hz⟩:=I1.tuple hq
  refine wpAny_pyIter_tuple (show s1.heap.IsTuple a its.toArray from p) ?_;exact⟨_,_,_,_,H1,rfl,I1.kept (t':=s1.toks) λ b o e=>zAH _ e,aAC a _,⟨_,zAR _ rfl,rfl,rfl⟩,hp,q⟩
def itD:D->Rs (List D)
 | .tup l=>.ok l
 | .lst l=>.ok l
 | .scr l=>.ok (l.map .int)
 |_=>.st
def dg(fe:En->Rs D):En->Rs (List D):=λ Y=>(fe Y).bd itD
def aB5{K:zAA}(h:SqL K H a xs)(r:Rps K (λ p=>(lab p).1<=1) H xs ds):JL K lab (Itl K a) H ds:=by
 have hl:=r.length;refine λ i=>⟨λ hi=>⟨xs,h,by lia⟩,λ hi=>⟨⟨xs,xs[i]'(by lia),h,by simp[hl,hi]⟩,λ x H' y=>?_⟩⟩
 obtain⟨e,y⟩:=y;subst e;obtain⟨d,h1,h2⟩:=r.get (y xs h);exact⟨aO.refl _,d,h1,h2⟩
def aI2{K:zAA}(h:SqT K H a xs)(r:Rps K (λ p=>(lab p).1<=1) H xs ds):JL K lab (Itt K a) H ds:=by
 have hl:=r.length;refine λ i=>⟨λ hi=>⟨xs,h,by lia⟩,λ hi=>⟨⟨xs,xs[i]'(by lia),h,by simp[hl,hi]⟩,λ x H' y=>?_⟩⟩
 obtain⟨e,y⟩:=y;subst e;obtain⟨d,h1,h2⟩:=r.get (y xs h);exact⟨aO.refl _,d,h1,h2⟩
def eU(he:SE C m e fe)(hm:okS m=true:=by rfl):SI C tg e (dg fe):=by
 obtain⟨t,p1,p2⟩:=he;refine⟨aJk C.K t,λ i=>by rw[<-C.hK i];exact aHd (p1 i),λ U Z H Y lab Rr R W=>p2 U Z H Y lab _ R (W.bd.imp λ d _ w v H1 s r=>?_)⟩;obtain⟨R',r'⟩:=R.shared hm s r;cases d with
 |tup l=>
  cases r' with
  |tup h q=>
   rename_i a xs;refine⟨_,rfl,.inr ⟨⟨_,h⟩,w _ H1 _ [(.ref a,.tup l)] s (λ p o e=>bR e) ⟨R'.len,R'.sl,R'.old,R'.new,λ z hz=>?_⟩ λ lab' H' hq=>?_⟩⟩
   .rcases zAX.mp hz with rfl|hz
    .exact .tup h q
    .exact R'.tm z hz
   .have z:=hq _ (zAI ..)
    cases z with
    |tup h' q'=>exact aI2 h' q'
 |lst l=>
  cases r' with
  |lst h mm q=>
   rename_i a xs;refine⟨_,rfl,.inl ⟨⟨_,SqL.of h⟩,w _ H1 _ [(.ref a,.lst l)] s (λ p o e=>bR e) ⟨R'.len,R'.sl,R'.old,R'.new,λ z hz=>?_⟩ λ lab' H' hq=>?_⟩⟩
   .rcases zAX.mp hz with rfl|hz
    .exact .lst h mm q
    .exact R'.tm z hz
   .have z:=hq _ (zAI ..)
    cases z with
    |lst h' _ q'=>exact aB5 (SqL.of h') (q'.wk λ _ _ _ z=>z.1)
 |scr l=>
  cases r' with
  |scr h=>
   rename_i a;refine⟨_,rfl,.inl ⟨⟨_,h.sq⟩,w _ H1 _ [(.ref a,.scr l)] s (λ p o e=>bR e) ⟨R'.len,R'.sl,R'.old,R'.new,λ z hz=>?_⟩ λ lab' H' hq=>?_⟩⟩
   .rcases zAX.mp hz with rfl|hz
    .exact .scr h
    .exact R'.tm z hz
   .have z:=hq _ (zAI ..)
    cases z with
    |scr h'=>exact aB5 h'.sq Rps.ints
 |_=>exact zAJ w
end
section
variable{C:Ct}{pos:Pos}{s:Stmt}{ss:List Stmt}{f:En->Ou}{e a b:Expr}{es:List Expr}{m:Mode}{fa:En->Rs D}{ks:List Nat}{fg:D->En->Rs En}{tg:Expr}{fi:En->Rs (List D)}{ga:En->Rs (List D)}
def cL(lo hi:Int):List D:=(zAU (hi-lo).toNat).map λ(k:Nat)=>.int (lo+(k:Int))
def gC:List D->Rs (List D)
 |[.int j]=>if -(2^62)<=j/\j<2^62 then .ok (cL 0 j)else .st
 |_=>.st
def aAP:List D->Rs (List D)
 |[.int i,.int j]=>if (-(2^62)<=i/\i<2^62)/\(-(2^62)<=j/\j<2^62)then .ok (cL i j)else .st
 |_=>.st
def fD(r:List D->Rs (List D))(ga:En->Rs (List D)):En->Rs (List D):=λ Y=>(ga Y).bd r
def aER{K:zAA}{lo hi:Int}:JL K lab (Itr lo (hi-lo).toNat) H (cL lo hi):=by
 have hl:(cL lo hi).length=(hi-lo).toNat:=by unfold cL;simp
 refine λ i=>⟨λ h=>by show(hi-lo).toNat<=i;lia,λ h=>⟨by show i<(hi-lo).toNat;lia,λ x H' y=>?_⟩⟩
 obtain⟨e,rfl⟩:=y;subst e;refine⟨aO.refl _,.int (lo+i),?_,.int _⟩;unfold cL;rw[zAL,zBu (by lia)];rfl
def eV(ha:SA C m [a] ga)(hm:C.mg "range"=none)(hs:∀i,zAT [a] (C.X i).env=[(false,eval a (C.X i).env)]:=by intro _;rfl)(hg:∀i,Gl (C.X i) "range":=by intro _;rfl):SI C tg (.Call (.Name "range" p) [a] [] pos) (fD gC ga):=by
 obtain⟨t,h1,h2⟩:=ha;refine⟨_,λ i=>aCJ (hg i) (by rw[(C.cx i).2.2.2.1];exact hm) (h1 i) (hs i),λ U Z H Y lab Rr R W=>h2 U Z H Y lab _ R (W.bd.imp λ ds _ w vs H1 s r=>?_)⟩;unfold gC at w;split at w
 .rename_i j _
  split at w
  .rename_i hj
   cases r with
   |cons h r=>
    cases h;cases r;refine⟨j,rfl,hj.1,hj.2,?_⟩;have z:=w (Itr 0 (j-0).toNat) H1 lab [] s (λ _ _ _=>rfl) (R.up s) λ lab' H' _=>aER
    rwa [Int.sub_zero]at z
  .exact zAJ w
 .exact zAJ w
def aBD(ha:SA C m [a,b] ga)(hm:C.mg "range"=none)(hs:∀i,zAT [a,b] (C.X i).env=[(false,eval a (C.X i).env),(false,eval b (C.X i).env)]:=by intro _;rfl)(hs2:∀i,zAT [b] (C.X i).env=[(false,eval b (C.X i).env)]:=by intro _;rfl)(hg:∀i,Gl (C.X i) "range":=by intro _;rfl):SI C tg (.Call (.Name "range" p) [a,b] [] pos) (fD aAP ga):=by
 obtain⟨t,h1,h2⟩:=ha;refine⟨_,λ i=>aCI (hg i) (by rw[(C.cx i).2.2.2.1];exact hm) (h1 i) (hs i) (hs2 i),λ U Z H Y lab Rr R W=>h2 U Z H Y lab _ R (W.bd.imp λ ds _ w vs H1 s r=>?_)⟩;unfold aAP at w;split at w
 .rename_i i j _
  split at w
  .rename_i hj
   cases r with
   |cons h r=>
    cases h;cases r with
    |cons h r=>
     cases h;cases r;exact⟨i,j,rfl,⟨hj.1.1,hj.1.2,hj.2.1,hj.2.2⟩,w (Itr i (j-i).toNat) H1 lab [] s (λ _ _ _=>rfl) (R.up s) λ lab' H' _=>aER⟩
  .exact zAJ w
 .exact zAJ w
def forL(fg:D->En->Rs En)(b:En->Ou):List D->En->Ou
 |[],Y=>.nx Y
 |d::ds,Y=>match fg d Y with
  | .ok Y1=>match b Y1 with
   | .nx Y2=>forL fg b ds Y2
   | .ct Y2=>forL fg b ds Y2
   | .bk Y2=>.nx Y2
   |o=>o
  |_=>.st
def j7(fi:En->Rs (List D))(fg:D->En->Rs En)(b:En->Ou):En->Ou:=λ Y=>(fi Y).bo λ ds=>forL fg b ds Y
def gM(hi:SI C tg e fi)(hg:SG C tg ks fg)(hb:SSs C ss f)(hs:∀i,∀x,zBz e (C.X i).env x=pure x:=by intro _ _;rfl):SS C (.For tg e ss [] pos) (j7 fi fg f):=by
 obtain⟨wi,i1,i2⟩:=hi;obtain⟨gg,g1,g2,_,g4⟩:=hg;obtain⟨tb,b1,b2⟩:=hb;refine⟨_,λ i=>aHa (C.own i) (C.calm i) (i1 i) (g1 i) (b1 i) (hs i),λ U Z H Y lab De R W=>i2 U Z H Y lab _ R (W.bo.imp λ ds _ w J H1 lab1 U1 s1 _ R1 jl=>?_)⟩;refine⟨λ i n Z' H'=>∃Y' lab',RR C.K C.G (U1++U) Y' Z' H' lab'/\n=ds.length-i/\i<=ds.length/\WS C.K C.G U (forL fg f (ds.drop i) Y') De,⟨ds.length,Y,lab1,R1,by lia,by lia,w⟩,?_⟩;rintro i n Z' H' ⟨Y',lab',R',rfl,hi,w'⟩;have jj:=jl lab' H' λ q hq=>R'.tm q (zAh _ hq)
 by_cases hlt:i<ds.length
 .obtain⟨go,yl⟩:=(jj i).2 hlt
  refine .inr ⟨go,λ Z2 H2=>∃Y2 lab2,RR C.K C.G (U1++U) Y2 Z2 H2 lab2/\WS C.K C.G U (forL fg f (ds.drop (i+1)) Y2) De,λ Z2 H2 ⟨Y2,lab2,R2,w2⟩=>⟨ds.length-(i+1),by lia,Y2,lab2,R2,rfl,hlt,w2⟩,λ x H2 hy=>?_⟩;obtain⟨s2,d,ed,rx⟩:=yl x H2 hy;replace R':=R'.up s2;have ed2:ds.drop i=d::ds.drop (i+1):=by
   rw[zDX hlt]
   have:=zAC hlt
   rw[ed]at this;cases this;rfl
  rw[ed2]at w';unfold forL at w';cases eg:fg d Y' with
  |ex c=>rw[eg]at w';exact zAJ w'
  |st=>rw[eg]at w';exact zAJ w'
  |ok Y1=>
   rw[eg]at w';refine g2 (U1++U) x d Z' H2 Y' lab' _ Y1 R' rx eg λ Z1 R1'=>b2 (U1++U) Z1 H2 Y1 lab' _ R1' ?_
   dsimp only at w';cases eb:f Y1 with
   |nx Y2=>rw[eb]at w';exact λ Z2 H3 lab2 R2=>⟨Y2,lab2,R2,w'⟩
   |ct Y2=>rw[eb]at w';exact λ Z2 H3 lab2 R2=>⟨Y2,lab2,R2,w'⟩
   |bk Y2=>rw[eb]at w';exact λ Z2 H3 lab2 R2=>w' Z2 H3 lab2 R2.drop
   |rt d=>rw[eb]at w';exact w'
   |ex c=>rw[eb]at w';exact w'
   |st=>rw[eb]at w';exact w'
 .have e:i=ds.length:=by lia
  subst e;rw[zEf]at w';exact .inl ⟨(jj _).1 (zAW _),w' Z' H' lab' R'.drop⟩
def itW(c:En->Rs Bool)(b:En->Ou):Nat->En->Ou
 |0,_=>.st
 |n+1,Y=>(c Y).bo λ k=>if k=true then(match b Y with
   | .nx Y2=>itW c b n Y2
   | .ct Y2=>itW c b n Y2
   | .bk Y2=>.nx Y2
   |o=>o)else .nx Y
def fuel:Nat:=1000000
def vf(c:En->Rs Bool)(b:En->Ou):En->Ou:=itW c b fuel
def yO(hc:ST C c fc)(hb:SSs C ss f):SS C (.While c ss [] pos) (vf fc f):=by
 obtain⟨tc,c1,c2⟩:=hc;obtain⟨tb,b1,b2⟩:=hb;refine⟨_,λ i=>aDc (C.own i) (c1 i) (b1 i),λ U Z H Y lab De R W=>?_⟩;refine⟨λ n Z' H'=>∃Y' lab',RR C.K C.G U Y' Z' H' lab'/\WS C.K C.G U (itW fc f n Y') De,⟨fuel,Y,lab,R,W⟩,?_⟩;rintro n Z' H' ⟨Y',lab',R',w'⟩;cases n with
 |zero=>exact zAJ w'
 |succ n=>
  refine c2 U Z' H' Y' lab' _ R' (WS.bo (show WS C.K C.G U ((fc Y').bo _) De from w') |>.imp λ k _ w H1 s1=>?_);cases k with
  |false=>
   rw[if_neg zAc]at w ⊢;exact w Z' H1 lab' (R'.up s1)
  |true=>
   rw[if_pos rfl]at w ⊢;refine⟨λ Z2 H2=>∃Y2 lab2,RR C.K C.G U Y2 Z2 H2 lab2/\WS C.K C.G U (itW fc f n Y2) De,λ Z2 H2 ⟨Y2,lab2,R2,w2⟩=>⟨n,zC4 n,Y2,lab2,R2,w2⟩,?_⟩;refine b2 U Z' H1 Y' lab' _ (R'.up s1) ?_;cases eb:f Y' with
   |nx Y2=>rw[eb]at w;exact λ Z2 H3 lab2 R2=>⟨Y2,lab2,R2,w⟩
   |ct Y2=>rw[eb]at w;exact λ Z2 H3 lab2 R2=>⟨Y2,lab2,R2,w⟩
   |bk Y2=>rw[eb]at w;exact w
   |rt d=>rw[eb]at w;exact w
   |ex c=>rw[eb]at w;exact w
   |st=>rw[eb]at w;exact w
def sZ(x:Str)(ga:En->Rs (List D)):En->Ou:=λ Y=>(ga Y).bo λ ds=>if ds.length<=zAY then .ex x else .st
def yP{rest:List Expr}(hd:C.dOk=true)(hm:C.mg x=some (.ref Ca))(hcl:C.G.cl x=Ca)(hC:bN C.K Ca)(ha:SA C m (y8::rest) ga)(he:∀i,zAT (y8::rest) (C.X i).env=(false,eval y8 (C.X i).env)::zAT rest (C.X i).env:=by intro _;rfl)(hplain:∀i,(zCY cpos (zAT rest (C.X i).env)).any (·.1)=false:=by intro _;rfl)(hdb:Nd x:=by decide)(hg:∀i,Gl (C.X i) x:=by intro _;rfl):SS C (.Raise (some (.Call (.Name x np) (y8::rest) [] cpos)) none pos) (sZ x ga):=by
 obtain⟨t,h1,h2⟩:=ha;refine⟨_,λ i=>aDe (C.dcx hd i) (C.calm i) (by rw[(C.cx i).2.2.2.1];exact hm) (by rw[C.hK i];exact hC) (hg i) (h1 i) (he i) (hplain i) hdb,λ U Z H Y lab De R W=>h2 U Z H Y lab _ R (W.bo.imp λ ds _ w vs H1 s r=>?_)⟩;by_cases hz:ds.length<=zAY
 .rw[if_pos hz]at w
  refine⟨by rw[r.length];exact hz,?_⟩
  have:=w H1 (R.old.trans s)
  rwa [hcl]at this
 .rw[if_neg hz]at w
  exact zAJ w
def spF(K:zAA)(cl:Str->Addr)(n:Nat)(F:List D->Rs D):Sp:=λ vs H Q E=>∃ds,vs.length=n/\Rps K (λ _=>True) H vs ds/\WR ⟨H,E,cl⟩ (F ds) (λ d=>∀v H',aO H H'->Rp K (λ p=>H p=none) H' v d->Q v H')
def aj(F:List D->Rs D)(ga:En->Rs (List D)):En->Rs D:=λ Y=>(ga Y).bd F
def aDL{K:zAA}(hn:∀Y ds,ga Y= .ok ds->ds.length=n)(h:aJC K G m t ga):iu K G (some []) (yK (spF K G.cl n F) [] G.E t) (aj F ga):=by
 intro U Z H Y lab Q R W;refine h U Z H Y lab _ R (W.bd.imp λ ds eds w vs H1 s r=>⟨ds,by rw[zBF,r.length];exact hn Y ds eds,by rw[zBF];exact r.wk λ _ _ _ _=>trivial,?_⟩);cases hF:F ds with
 |ok d=>
  rw[hF]at w;exact λ v H' s' r'=>w v H' (s.trans s') (r'.wk λ p o _ z=>.inl (s.free z))
 |ex c=>rw[hF]at w;exact λ H' s'=>w H' ((R.old.trans s).trans s')
 |st=>rw[hF]at w;exact w
variable{k:Nat}{fn:Addr}{fd:zAe}{ps:List Str}{x:Str}{p:Pos}{F:List D->Rs D}{n:Nat}
def aF0(hF:cV C.prog C.w C.K C.mg C.base (CX1 C.prog C.w) k fn fd ps (spF C.K C.G.cl n F))(hr:k<=C.k)(hm:C.mg x=some (.ref fn))(hk:zBR C.K (.ref fn)=true)(hb:Binds C.K fd ps [])(ha:SA C m (e::es) ga)(hn:∀Y ds,ga Y= .ok ds->ds.length=n)(hdb:Nd x:=by decide)(he:∀i,zAT (e::es) (C.X i).env=(false,eval e (C.X i).env)::zAT es (C.X i).env:=by intro _;rfl)(hpl:∀i,(zCY pos (zAT es (C.X i).env)).any (·.1)=false:=by intro _;rfl)(hg:∀i,Gl (C.X i) x:=by intro _;rfl):SE C (some []) (.Call (.Name x p) (e::es) [] pos) (aj F ga):=by
 obtain⟨t,h1,h2⟩:=ha;refine⟨_,λ i=>?_,aDL hn h2⟩;obtain⟨e1,e2,e3,e4,e5⟩:=C.cx i;refine aFg (CX:=CX1 (C.X i).prog (C.X i).w) (by rw[e1,e2,e3,e4,e5];exact hF) ((C.room i).mono hr) (hg i) (by rw[e4];exact hm) (by rw[e3];exact hk) (by rw[e3];exact hb) .nil (C.pass i) (h1 i) hdb (he i) (hpl i)
def aGA(h:aJ Y= .ok ds):ds.length=0:=by cases h;rfl
def aEG(h:∀Y ds,ga Y= .ok ds->ds.length=n):∀Y ds,aC fa ga Y= .ok ds->ds.length=n+1:=λ Y ds e=>by
 obtain⟨d,_,e⟩:=dG e;obtain⟨r,er,e⟩:=dG e;cases e;rw[zA6,h Y r er]
end
def aa(mg:Str->Option Value):Str->Addr:=λ x=>match mg x with
 |some (.ref a)=>a
 |_=>0
abbrev ctD(P:zAP)(w:World)(K:zAA)(mg:Str->Option Value)(base:Heap)(N:List Str)(q:Str)(sc:Scope)(f:Addr)(cdv:Value)(A:zAZ)(outer:List Env)(s:zAB)(H:Hp)(E:XK)(k:Nat)(hr:dJ k (A.deeper (zC9 q sc s.heap.objs.size f cdv))):Ct where
 ι:=Unit
 X:=λ _=>rB (CX1 P w) P w K mg base N q sc f cdv A outer s H E
 prog:=P
 w:=w
 K:=K
 mg:=mg
 base:=base
 k:=k
 G:=⟨H,E,aa mg⟩
 cx:=λ _=>⟨rfl,rfl,rfl,rfl,rfl⟩
 calm:=λ _=>rfl
 room:=λ _=>hr
 own:=λ _=>cT.own cT.of
 pass:=λ _=>cT.pass cT.of
 dOk:=true
 dcx:=λ _ _=>cT.of
def aq(n:Nat)(ds:List D):En:=ds.map .sh++zAQ (n-ds.length) .no
def eX(n:Nat)(f:En->Ou):List D->Rs D:=λ ds=>match f (aq n ds)with
 | .nx _=>.ok .non
 | .rt d=>.ok d
 | .ex c=>.ex c
 |_=>.st
theorem RR.start{K:zAA}(r:Rps K (λ _=>True) H vs ds):RR K ⟨H,E,cl⟩ [] (aq N.length ds) (start N vs) H (λ _=>(0,0)):=by
 have hl:=r.length;refine⟨by unfold aq L2.start;simp[hl],λ i s e=>?_,aO.refl H,λ p hp=>absurd rfl hp,λ q hq=>by cases hq⟩;unfold aq at e;by_cases hi:i<ds.length
 .rw[zBG (by simpa using hi),zAL]at e
  cases ed:ds[i]? with
  |none=>rw[ed]at e;cases e
  |some d=>
   rw[ed]at e;cases e;obtain⟨x,ex,rx⟩:=r.getD ed;refine .inr ⟨x,?_,rx.wk λ _ _ _ _=>zAg _⟩;unfold L2.start;rw[zBG (by simpa[hl]using hi),zAL,ex];rfl
 .rw[zCT (by simpa using hi),zCb]at e
  split at e
  .cases e;exact .inl rfl
  .cases e
section
variable{P:zAP}{w:World}{K:zAA}{mg:Str->Option Value}{base:Heap}
def aIg{x q:Str}{st:Stmt}(F:L2.Fun K x q st fn fd)(S:aY N ps (aF st))
  (hb:∀cdv A outer s H E hr,SSs (ctD P w K mg base N q (aF st) fn cdv A outer s H E k hr) (cH st) f):
  cV P w K mg base (CX1 P w) (k+1) fn fd ps (spF K (aa mg) ps.length (eX N.length f)):=by
 refine F.okX S (λ vs H Q E ⟨ds,hl,_⟩=>hl) λ cdv A outer s H vs Q E hr ⟨ds,hl,r,W⟩=>?_
 obtain⟨t,h1,h2⟩:=hb cdv A outer s H E hr;refine⟨t,h1 (),h2 [] _ H _ _ _ (RR.start r) ?_⟩;unfold eX at W;cases e:f (aq N.length ds)with
 |nx Y=>rw[e]at W;exact λ Z' H' lab R=>W .non H' R.old .non
 |rt d=>rw[e]at W;exact λ v H' s r=>W v H' s r
 |ex c=>rw[e]at W;exact W
 |bk Y=>rw[e]at W;exact zAJ W
 |ct Y=>rw[e]at W;exact zAJ W
 |st=>rw[e]at W;exact zAJ W
def aG2{st:Stmt}(F:L2.Fun K x q st fn fd)(S:aY N ps (aF st))
  (hb:∀cdv A outer s H E hr,SSs (ctD P w K mg base N q (aF st) fn cdv A outer s H E k hr) (cH st) f)(hn:ps.length=n)(hF:eX N.length f=FF):
  cV P w K mg base (CX1 P w) (k+1) fn fd ps (spF K (aa mg) n FF):=by
 subst hn hF;exact aIg F S hb
end
def OpR.or(h:OpR X f r)(h':OpR X f r'):OpR X f (λ x y H Q=>r x y H Q\/r' x y H Q):=by
 intro hV s Z H x y v u Q I rx ry q;rcases q with q|q
 .exact h hV s Z H x y v u Q I rx ry q
 .exact h' hV s Z H x y v u Q I rx ry q
def OpS.or{K:zAA}(h:OpS K r fd)(h':OpS K r' fd'):OpS K (λ x y H Q=>r x y H Q\/r' x y H Q) (λ d e=>match fd d e with
  | .ok z=>.ok z
  |_=>fd' d e):=by
 intro A x y d e H Q z rx ry ez q;dsimp only at ez;cases hd:fd d e with
 |ok w=>rw[hd]at ez;cases ez;exact .inl (h A x y d e H Q _ rx ry hd q)
 |ex c=>rw[hd]at ez;exact .inr (h' A x y d e H Q z rx ry ez q)
 |st=>rw[hd]at ez;exact .inr (h' A x y d e H Q z rx ry ez q)
section
variable{K:zAA}
def i2(p:Int->Int->Bool)(g:Int->Int->D):D->D->Rs D
 | .int i,.int j=>if p i j=true then .ok (g i j)else .st
 |_,_=>.st
def tD{g:Int->Int->Int}(hp:∀i j,p i j=true->c i j):OpS K (rI c λ i j=>.int (g i j)) (i2 p λ i j=>.int (g i j)):=by
 intro A x y d e H Q z rx ry ez q;unfold i2 at ez;split at ez
 .rename_i i j
  split at ez
  .rename_i h
   cases ez;obtain rfl:=rx.int_inv;obtain rfl:=ry.int_inv;exact⟨i,j,rfl,rfl,hp i j h,q _ H (aO.refl H) (.int _)⟩
  .cases ez
 .cases ez
def wZ{g:Int->Int->Int}:OpS K (rI0 λ i j=>.int (g i j)) (i2 (λ _ _=>true) λ i j=>.int (g i j)):=by
 intro A x y d e H Q z rx ry ez q;unfold i2 at ez;split at ez
 .rename_i i j
  cases ez;obtain rfl:=rx.int_inv;obtain rfl:=ry.int_inv;exact⟨i,j,rfl,rfl,q _ H (aO.refl H) (.int _)⟩
 .cases ez
def w5{g:Int->Int->Bool}:OpS K (rI0 λ i j=>.bl (g i j)) (i2 (λ _ _=>true) λ i j=>.bl (g i j)):=by
 intro A x y d e H Q z rx ry ez q;unfold i2 at ez;split at ez
 .rename_i i j
  cases ez;obtain rfl:=rx.int_inv;obtain rfl:=ry.int_inv;exact⟨i,j,rfl,rfl,q _ H (aO.refl H) (.bl _)⟩
 .cases ez
def lN{g:Int->Int->Int}:∀x y z,i2 p (λ i j=>.int (g i j)) x y= .ok z->imm z=true:=by
 intro x y z e;unfold i2 at e;split at e
 .split at e
  .cases e;rfl
  .cases e
 .cases e
def aE5{g:Int->Int->Bool}:∀x y z,i2 p (λ i j=>.bl (g i j)) x y= .ok z->imm z=true:=by
 intro x y z e;unfold i2 at e;split at e
 .split at e
  .cases e;rfl
  .cases e
 .cases e
def cU:D->D->Rs D
 | .int i,.int j=>.ok (.int (i+j))
 | .lst l,.lst m=>if l.length+m.length<=zAY then .ok (.lst (l++m))else .st
 | .tup l,.tup m=>if l.length+m.length<=zAY then .ok (.tup (l++m))else .st
 |_,_=>.st
def aGv(K:zAA):R2:=λ x y H Q=>∃a b xs ys,x= .ref a/\y= .ref b/\SqT K H a xs/\SqT K H b ys/\xs.length+ys.length<=zAY/\
 (xs=[]->Q (.ref b) H)/\(ys=[]->Q (.ref a) H)/\New H (.tup (xs++ys)) Q
def aFn:OpR X (zB3 .Add) (aGv X.K):=by
 intro hV s Z H x y v u Q I rx ry h;obtain⟨a,b,xs,ys,rfl,rfl,ha,hb,hz,q0,q1,q2⟩:=h;by_cases hx:xs=[]
 .subst hx
  cases rx;cases ry;obtain⟨its,r1,p1,_⟩:=I.tuple ha;obtain⟨its2,r2,p2,_⟩:=I.tuple hb;cases r1;exact HT.aEq p1 p2 ⟨.ref b,H,I,rfl,q0 rfl⟩
 .exact aFo hV s Z H _ _ v u Q I rx ry ⟨a,b,xs,ys,rfl,rfl,ha,hb,hx,hz,q1,λ _ p hp=>q2.at hp⟩
def aD7(K:zAA):R2:=λ x y H Q=>rI0 (λ i j=>.int (i+j)) x y H Q\/(aD6 x y H Q\/aGv K x y H Q)
def aFp:OpR X (zB3 .Add) (aD7 X.K):=OpR.or aIN (OpR.or w6 aFn)
def aHv:OpS K (aD7 K) cU:=by
 intro A x y d e H Q z rx ry ez q;unfold cU at ez;split at ez
 .cases ez;obtain rfl:=rx.int_inv;obtain rfl:=ry.int_inv;exact .inl ⟨_,_,rfl,rfl,q _ H (aO.refl H) (.int _)⟩
 .split at ez
  .rename_i hl
   cases ez;obtain⟨_,_,rfl,h1,m1,r1⟩:=rx.lst_inv;obtain⟨_,_,rfl,h2,m2,r2⟩:=ry.lst_inv;refine .inr (.inl ⟨_,_,_,_,rfl,rfl,h1,h2,by rw[r1.length,r2.length];exact hl,λ p H' s hp hn=>q _ H' s (.lst hp (.inl hn) ?_)⟩);exact(((r1.wk λ _ _ _ z=>z.1).append (r2.wk λ _ _ _ z=>z.1)).wk (A':=λ q=>(H q=none\/A q)/\q≠p) λ q o e z=>⟨.inr z,λ e'=>by subst e';rw[hn]at e;cases e⟩).up s
  .cases ez
 .split at ez
  .rename_i hl
   cases ez;obtain⟨_,_,rfl,h1,r1⟩:=rx.tup_inv;obtain⟨_,_,rfl,h2,r2⟩:=ry.tup_inv;have r1':=r1.wk (A':=λ p=>H p=none\/A p) λ _ _ _ z=>.inr z
   have r2':=r2.wk (A':=λ p=>H p=none\/A p) λ _ _ _ z=>.inr z
   refine .inr (.inr ⟨_,_,_,_,rfl,rfl,h1,h2,by rw[r1.length,r2.length];exact hl,λ e=>?_,λ e=>?_,λ p H' s hp hn=>q _ H' s (.tup (SqT.of hp) ((r1'.append r2').up s))⟩)
   .subst e
    cases r1';exact q _ H (aO.refl H) (.tup h2 r2')
   .subst e
    cases r2';rw[zBF]at q;exact q _ H (aO.refl H) (.tup h1 r1')
  .cases ez
 .cases ez
def j0:D->D->Rs D
 | .int i,.int j=>if (decide (-(2^64)<i)&&decide (i<2^64))||(decide (-(2^64)<j)&&decide (j<2^64))then .ok (.int (i*j))else .st
 | .lst l,.int k=>if decide (-(2^63)<=k)&&decide (k<2^63)&&decide (l.length*k.toNat<=zAY)&&jT l then .ok (.lst (zAQ k.toNat l).flatten)else .st
 |_,_=>.st
theorem Rps.rep(r:Rps K A H xs ds):∀k:Nat,Rps K A H (zAQ k xs).flatten (zAQ k ds).flatten
 |0=>.nil
 |k+1=>by
  rw[zBT,zBT,zCR,zCR];exact r.append (Rps.rep r k)
def aGs:R2:=λ x y H Q=>rI aGk (λ i j=>.int (i*j)) x y H Q\/aJX x y H Q
def aFl:OpR X (zB3 .Mult) aGs:=OpR.or aID aIA
def aHu:OpS K aGs j0:=by
 intro A x y d e H Q z rx ry ez q;unfold j0 at ez;split at ez
 .split at ez
  .rename_i hc
   cases ez;obtain rfl:=rx.int_inv;obtain rfl:=ry.int_inv;refine .inl ⟨_,_,rfl,rfl,?_,q _ H (aO.refl H) (.int _)⟩;simp only[zDJ,zAE,decide_eq_true_eq]at hc;exact hc
  .cases ez
 .split at ez
  .rename_i hc
   simp only[zAE,decide_eq_true_eq]at hc;cases ez;obtain⟨_,_,rfl,h1,m1,r1⟩:=rx.lst_inv;obtain rfl:=ry.int_inv;refine .inr ⟨_,_,_,rfl,rfl,h1,hc.1.1.1,hc.1.1.2,by rw[r1.length];exact hc.1.2,λ p hp=>q _ _ (cJ hp _) (.lst bA (.inl hp) ?_)⟩;exact((r1.rep _).wk (A':=λ q=>(H q=none\/A q)/\q≠p) λ q o e z=>⟨.inr z.1,λ e'=>by subst e';rw[hp]at e;cases e⟩).up (cJ hp _)
  .cases ez
 .cases ez
def intsOf:List D->Option (List Int)
 |[]=>some []
 | .int i::r=>(intsOf r).map (i::·)
 |_=>none
theorem gF:∀{l:List D} {ns:List Int},intsOf l=some ns->l=ns.map .int
 |[],ns,h=>by cases h;rfl
 | .int i::r,ns,h=>by
  simp only[intsOf,zCD]at h;obtain⟨ms,h1,rfl⟩:=h;rw[gF h1];rfl
 | .non::_,_,h=>by cases h
 | .bl _::_,_,h=>by cases h
 | .str _::_,_,h=>by cases h
 | .tup _::_,_,h=>by cases h
 | .lst _::_,_,h=>by cases h
 | .dct _ _::_,_,h=>by cases h
 | .set _::_,_,h=>by cases h
 | .scr _::_,_,h=>by cases h
theorem fK:∀ns:List Int,intsOf (ns.map .int)=some ns
 |[]=>rfl
 |n::ns=>by simp only[zA7,intsOf,fK ns,zC7]
def ltT(p:List Int->List Int->Bool):D->D->Rs D
 | .tup l,.tup m=>match intsOf l,intsOf m with
  |some ns,some ms=>.ok (.bl (p ns ms))
  |_,_=>.st
 |_,_=>.st
def aBL(r:Rp K A H x (.tup l))(e:intsOf l=some ns):∃a,x= .ref a/\SqT K H a (ns.map V.int):=by
 have:=gF e
 subst this;cases r with
 |tup h r=>
  have:=r.ints_of
  subst this;exact⟨_,rfl,h⟩
def aBV(hr:∀x y H Q,(∃a b ns ms,x= .ref a/\y= .ref b/\SqT K H a (ns.map V.int)/\SqT K H b (ms.map V.int)/\Q (.bl (p ns ms)) H)->r x y H Q):OpS K r (ltT p):=by
 intro A x y d e H Q z rx ry ez q;unfold ltT at ez;split at ez
 .split at ez
  .rename_i ns ms e1 e2
   cases ez;obtain⟨a,rfl,ha⟩:=aBL rx e1;obtain⟨b,rfl,hb⟩:=aBL ry e2;exact hr _ _ _ _ ⟨a,b,ns,ms,rfl,rfl,ha,hb,q _ H (aO.refl H) (.bl _)⟩
  .cases ez
 .cases ez
def ltD:D->D->Rs D:=λ d e=>match i2 (λ _ _=>true) (λ i j=>.bl (decide (i<j))) d e with
 | .ok z=>.ok z
 |_=>ltT HT.lexLt d e
def leD:D->D->Rs D:=λ d e=>match i2 (λ _ _=>true) (λ i j=>.bl (decide (i<=j))) d e with
 | .ok z=>.ok z
 |_=>ltT HT.lexLe d e
def gtD:D->D->Rs D:=i2 (λ _ _=>true) (λ i j=>.bl (decide (j<i)))
def geD:D->D->Rs D:=i2 (λ _ _=>true) (λ i j=>.bl (decide (j<=i)))
def aIF(hu:X.A.units<cLine):OpR X (zAm .Lt) (λ x y H Q=>rI0 (λ i j=>.bl (decide (i<j))) x y H Q\/aF4 X.K x y H Q):=OpR.or aJ5 (aIG hu)
def aIH(hu:X.A.units<cLine):OpR X (zAm .LtE) (λ x y H Q=>rI0 (λ i j=>.bl (decide (i<=j))) x y H Q\/aF5 X.K x y H Q):=OpR.or aJ6 (aII hu)
def aDs:OpS K (λ x y H Q=>rI0 (λ i j=>.bl (decide (i<j))) x y H Q\/aF4 K x y H Q) ltD:=OpS.or w5 (aBV λ _ _ _ _ h=>h)
def aDt:OpS K (λ x y H Q=>rI0 (λ i j=>.bl (decide (i<=j))) x y H Q\/aF5 K x y H Q) leD:=OpS.or w5 (aBV λ _ _ _ _ h=>h)
def aB8(e:ltT p x y= .ok z):imm z=true:=by
 unfold ltT at e;split at e
 .split at e
  .cases e;rfl
  .cases e
 .cases e
def aE2:∀x y z,ltD x y= .ok z->imm z=true:=by
 intro x y z e;unfold ltD at e;split at e
 .rename_i w hw;cases e;exact aE5 _ _ _ hw
 .exact aB8 e
def aIa:∀x y z,leD x y= .ok z->imm z=true:=by
 intro x y z e;unfold leD at e;split at e
 .rename_i w hw;cases e;exact aE5 _ _ _ hw
 .exact aB8 e
def yw:D->Rs D
 | .int i=>.ok (.int (-i))
 |_=>.st
def aHL:UnS K (rU λ i=>.int (-i)) yw:=by
 intro A x d H Q z rx ez q;cases rx with
 |int i=>cases ez;exact⟨i,rfl,q _ H (aO.refl H) (.int _)⟩
 |_=>cases ez
def aGS:∀x z,yw x= .ok z->imm z=true:=by
 intro x z e;cases x with
 |int i=>cases e;rfl
 |_=>cases e
def atD(l:List D)(i:Int):Rs D:=match atI l i with
 |some d=>.ok d
 |none=>.st
def ixD:D->D->Rs D
 | .tup l,.int i=>atD l i
 | .lst l,.int i=>atD l i
 | .scr l,.int i=>atD (l.map .int) i
 |_,_=>.st
theorem Rps.at(r:Rps K A H xs ds)(e:atI ds i=some d):∃x,atI xs i=some x/\Rp K A H x d:=by
 unfold atI at e ⊢;rw[r.length];cases h:ixN ds.length i with
 |none=>rw[h]at e;cases e
 |some j=>
  rw[h]at e;obtain⟨x,e1,e2⟩:=r.getD (i:=j) (d:=d) e;exact⟨x,e1,e2⟩
def aJ3:OpS K (rIx K) ixD:=by
 intro A x y d e H Q z rx ry ez q;unfold ixD at ez;split at ez
 .unfold atD at ez
  split at ez
  .rename_i w hw
   cases ez;obtain⟨_,_,rfl,h,r⟩:=rx.tup_inv;obtain rfl:=ry.int_inv;obtain⟨v,e1,e2⟩:=r.at hw;exact .inr (.inl ⟨_,_,_,v,rfl,rfl,h,e1,q v H (aO.refl H) (e2.wk λ _ _ _ z=>.inr z)⟩)
  .cases ez
 .unfold atD at ez
  split at ez
  .rename_i w hw
   cases ez;obtain⟨_,_,rfl,h,m,r⟩:=rx.lst_inv;obtain rfl:=ry.int_inv;obtain⟨v,e1,e2⟩:=r.at hw;exact .inl ⟨_,_,_,v,rfl,rfl,SqL.of h,e1,q v H (aO.refl H) (e2.wk λ _ _ _ z=>.inr z.1)⟩
  .cases ez
 .unfold atD at ez
  split at ez
  .rename_i w hw
   cases ez;obtain⟨_,rfl,h⟩:=rx.scr_inv;obtain rfl:=ry.int_inv;obtain⟨v,e1,e2⟩:=(Rps.ints (K:=K) (A:=A) (H:=H)).at hw;exact .inl ⟨_,_,_,v,rfl,rfl,h.sq,e1,q v H (aO.refl H) (e2.wk λ _ _ _ z=>.inr z)⟩
  .cases ez
 .cases ez
def il:List D->Rs D
 |[.tup l]=>.ok (.int l.length)
 |[.lst l]=>.ok (.int l.length)
 |[.scr l]=>.ok (.int l.length)
 |_=>.st
def aIj:pB K (λ xs H Q=>∃p ys,xs=[.ref p]/\(SqL K H p ys\/SqT K H p ys)/\Q (.int ys.length) H) il:=by
 intro A xs ds H Q z r ez q;unfold il at ez;split at ez
 .cases ez
  obtain⟨_,rfl,h0⟩:=r.one_inv;obtain⟨_,_,rfl,h,r⟩:=h0.tup_inv;exact⟨_,_,rfl,.inr h,by rw[r.length];exact q _ H (aO.refl H) (.int _)⟩
 .cases ez
  obtain⟨_,rfl,h0⟩:=r.one_inv;obtain⟨_,_,rfl,h,m,r⟩:=h0.lst_inv;exact⟨_,_,rfl,.inl (SqL.of h),by rw[r.length];exact q _ H (aO.refl H) (.int _)⟩
 .cases ez
  obtain⟨_,rfl,h0⟩:=r.one_inv;obtain⟨_,rfl,h⟩:=h0.scr_inv;exact⟨_,_,rfl,.inl h.sq,by rw[zAF];exact q _ H (aO.refl H) (.int _)⟩
 .cases ez
def aGU:∀x z,il x= .ok z->imm z=true:=by
 intro x z e;unfold il at e;split at e<;>first|(cases e;rfl)|cases e
def tyD:D->String
 | .non=>"NoneType"| .bl _=>"bool"| .int _=>"int"| .str _=>"str"| .tup _=>"tuple"| .lst _=>"list"| .dct _ _=>"dict"| .set _=>"set"| .scr _=>"script"| .fn _=>"function"
def nW(T:String):D->Rs D:=λ d=>if mV (tyD d) T true=true then .ok (.bl true)else if mV (tyD d) T false=true then .ok (.bl false)else .st
def aGt(K:zAA)(T:String):List V->Hp->VK->Prop:=λ xs H Q=>∃x d A b,xs=[x,.ty T]/\Rp K A H x d/\mV (tyD d) T b=true/\Q (.bl b) H
def aCh:dM X (.builtin "isinstance") (aGt X.K T):=by
 intro hV s Z H xs us Q I rv h;obtain⟨x,d,A,b,rfl,rd,ok,q⟩:=h;cases rd with
 |tup h r=>
  obtain⟨u,w',rfl,ru,rw'⟩:=vals2 rv;cases ru;cases rw';obtain⟨its,_,⟨o,h1,h2,_⟩,_⟩:=I.tuple h;exact zAu zFn I.kIn ⟨o,h1,h2⟩ (aAh ok) (λ z=>nomatch z) λ tk=>⟨.bl b,H,I.tok _,rfl,q⟩
 |set h m hS nd=>cases b<;>simp[mV,tyD]at ok
 |scr h=>cases b<;>simp[mV,tyD]at ok
 |fn h=>cases b<;>simp[mV,tyD]at ok
 |non=>exact jb hV s Z H _ us Q I rv ⟨_,T,_,b,rfl,.non,ok,q⟩
 |bl c=>exact jb hV s Z H _ us Q I rv ⟨_,T,_,b,rfl,.bl c,ok,q⟩
 |int c=>exact jb hV s Z H _ us Q I rv ⟨_,T,_,b,rfl,.int c,ok,q⟩
 |str c=>exact jb hV s Z H _ us Q I rv ⟨_,T,_,b,rfl,.str c,ok,q⟩
 |lst h m r=>exact jb hV s Z H _ us Q I rv ⟨_,T,_,b,rfl,.lst h,ok,q⟩
 |dK h m r=>exact jb hV s Z H _ us Q I rv ⟨_,T,_,b,rfl,.dK h,ok,q⟩
 |dT h m r=>
  obtain⟨u,w',rfl,ru,rw'⟩:=vals2 rv;cases ru;cases rw';obtain⟨⟨_,_,_,o,_,_,_,h1,h2,_⟩,_⟩:=(show cZ X.prog X.w H s.heap _ (dxO _ _)from I.hok _ _ h.at_);exact zAu zEM I.kIn ⟨o,h1,h2.1⟩ (aAh ok) (λ z=>nomatch z) λ tk=>⟨.bl b,H,I.tok _,rfl,q⟩
end
section
variable{C:Ct}{pos p p2:Pos}{m:Mode}{a:Expr}{fa:En->Rs D}
def pM(ha:SE C m a fa)(hm:C.mg "isinstance"=none)(hmT:C.mg x=none)(hn:x≠"__name__":=by decide)(hd:Nd x:=by decide)(he:∀i,zAT [a,.Name x p2] (C.X i).env=(false,eval a (C.X i).env)::zAT [.Name x p2] (C.X i).env:=by intro _;rfl)(hpl:∀i,(zCY pos (zAT [.Name x p2] (C.X i).env)).any (·.1)=false:=by intro _;rfl)(hg:∀i,Gl (C.X i) "isinstance":=by intro _;rfl)(hv:zAr "isinstance"=some (.builtin "isinstance"):=by decide+kernel)(hgT:∀i,Gl (C.X i) x:=by intro _;rfl)(hvT:zAr x=some (.type T):=by decide+kernel):
  SE C (some []) (.Call (.Name "isinstance" p) [a,.Name x p2] [] pos) (op1 (nW T) fa):=by
 obtain⟨t,h1,h2⟩:=ha;refine⟨tCB (aGt C.K T) (gw t (gw (tC (.ty T)) oG)),λ i=>?_,λ U Z H Y lab Q R W=>?_⟩
 .rw[<-C.hK i]
  exact oR aCh (hg i) (by rw[(C.cx i).2.2.2.1];exact hm) hv (aW (h1 i) (aW (aBU (v:=.ty T) (hgT i) (by rw[(C.cx i).2.2.2.1];exact hmT) hvT rfl hn hd) cM) (he i)) (by decide) (by decide) (he i) (hpl i)
 .refine h2 U Z H Y lab _ R (W.bd.imp λ d _ w x H1 s1 r1=>?_)
  obtain⟨z,ez,w⟩:=w.okD;unfold nW at ez;split at ez
  .rename_i h;cases ez;exact⟨x,d,_,true,rfl,r1,h,w _ H1 s1 (.bl _)⟩
  .split at ez
   .rename_i h;cases ez;exact⟨x,d,_,false,rfl,r1,h,w _ H1 s1 (.bl _)⟩
   .cases ez
end
def kZ:Slot->Slot
 | .ow d=>.sh d
 | .nw d=>.sh d
 | .oz d=>.sh d
 | .o2 l=>.sh (.lst (l.map .lst))
 |s=>s
def shE(Y:En):En:=Y.map kZ
def stV(js:hZ)(Z:L2.St):L2.St:=js.map λ o=>o.bind λ j=>(Z[j]?).join
def stE(js:hZ)(Y:En):En:=js.map λ o=>match o with
 |none=>.no
 |some j=>(Y[j]?).getD .no
def aF2{K:zAA}(h:dU K H lab i v s):∃d,(s= .no\/kZ s= .sh d)/\(s= .no\/Rp K (λ _=>True) H v d):=by
 cases s with
 |no=>exact⟨.non,.inl rfl,.inl rfl⟩
 |sh d=>exact⟨d,.inr rfl,.inr (Rp.wk (λ _ _ _ _=>trivial) h)⟩
 |nw d=>exact⟨d,.inr rfl,.inr (Rp.wk (λ _ _ _ _=>trivial) h)⟩
 |ow d=>exact⟨d,.inr rfl,.inr (Rp.wk (λ _ _ _ _=>trivial) h.1)⟩
 |oz d=>exact⟨d,.inr rfl,.inr (Rp.wk (λ _ _ _ _=>trivial) (aHA h))⟩
 |o2 l=>exact⟨_,.inr rfl,.inr (Rp.wk (λ _ _ _ _=>trivial) (aBX h))⟩
theorem RR.shE{K:zAA}(R:RR K G U Y Z H lab):RR K G U (shE Y) Z H (λ _=>(0,0)):=by
 refine⟨by unfold VL.shE;rw[zAF];exact R.len,λ i s e=>?_,R.old,λ p hp=>absurd rfl hp,λ q hq=>(R.tm q hq).wk λ _ _ _ _=>zAg _⟩;unfold VL.shE at e;rw[zAL]at e;cases e0:Y[i]? with
 |none=>rw[e0]at e;cases e
 |some s0=>
  rw[e0]at e;cases e;rcases R.sl i s0 e0 with rfl|⟨v,ev,hv⟩
  .exact .inl rfl
  .obtain⟨d,h1,h2⟩:=aF2 hv
   rcases h1 with rfl|h1
   .exact .inl rfl
   .rcases h2 with rfl|h2
    .exact .inl rfl
    .exact .inr ⟨v,ev,by rw[h1];exact h2.wk λ _ _ _ _=>zAg _⟩
def aDD{i:Nat}(e:(stE js Y)[i]? =some s):s= .no\/∃j,js[i]? =some (some j)/\Y[j]? =some s:=by
 unfold stE at e;rw[zAL]at e;cases ej:js[i]? with
 |none=>rw[ej]at e;cases e
 |some o=>
  rw[ej]at e;cases o with
  |none=>cases e;exact .inl rfl
  |some j=>
   cases er:Y[j]? with
   |none=>simp[er]at e;exact .inl e.symm
   |some s'=>simp[er]at e;subst e;exact .inr ⟨j,rfl,er⟩
def RR.block{K:zAA}{U:List (V×D)}(R:RR K G U (VL.shE Y) Z H lab)(hz:∀p,(lab p).1<=1)(hl:H l=none):
  RR K G U (stE js (VL.shE Y)) (stV js Z) H (λ p=>if p=l then(2,0)else(0,0)):=by
 have nl:∀p o,H p=some o->p≠l:=λ p o e z=>by subst z;rw[hl]at e;cases e
 refine⟨by unfold stE stV;rw[zAF,zAF],λ i s e=>?_,R.old,λ p hp=>?_,λ q hq=>(R.tm q hq).wk λ p o e _=>by rw[if_neg (nl p o e)];exact zAg _⟩
 .rcases aDD e with rfl|⟨j,ej,es⟩
  .exact .inl rfl
  .rcases R.sl j s es with rfl|⟨v,ev,hv⟩
   .exact .inl rfl
   .refine .inr ⟨v,?_,?_⟩
    .unfold stV
     rw[zAL,ej];simp[ev]
    .unfold VL.shE at es
     rw[zAL]at es;cases e0:Y[j]? with
     |none=>rw[e0]at es;cases es
     |some s0=>
      rw[e0]at es;cases es;cases s0 with
      |no=>trivial
      |oz d=>exact Rp.wk (λ p o e _=>by show(if p=l then((2,0):Nat×Nat)else(0,0)).1<=1;rw[if_neg (nl p o e)];exact zAg _) hv
      |nw d=>exact Rp.wk (λ p o e _=>by show(if p=l then((2,0):Nat×Nat)else(0,0)).1<=1;rw[if_neg (nl p o e)];exact zAg _) hv
      |sh d=>exact Rp.wk (λ p o e _=>by show(if p=l then((2,0):Nat×Nat)else(0,0)).1<=1;rw[if_neg (nl p o e)];exact zAg _) hv
      |ow d=>exact Rp.wk (λ p o e _=>by show(if p=l then((2,0):Nat×Nat)else(0,0)).1<=1;rw[if_neg (nl p o e)];exact zAg _) hv
      |o2 d=>exact Rp.wk (λ p o e _=>by show(if p=l then((2,0):Nat×Nat)else(0,0)).1<=1;rw[if_neg (nl p o e)];exact zAg _) hv
 .by_cases hp':p=l
  .subst hp';exact R.old.free hl
  .exact absurd (show(if p=l then((2,0):Nat×Nat)else(0,0)).1=0 by rw[if_neg hp']) hp
def aKT(XN N:List Str)(js:hZ)(ks:List Nat)(sc:Scope):Bool:=(zAU js.length).all λ i=>match js[i]? with
 |some (some j)=>match N[i]?,XN[j]? with
  |some x,some y=>x==y&&sc.names.lookup x==some .free&& !ks.contains i
  |_,_=>false
 |_=>true
def aAr(h1:sc.kind= .function)(h2:(sc.names.all λ y=>y.2 != .cell||sc.names.lookup y.1==some .cell)=true)(h3:(sc.names.all λ y=>y.2 != .local||sc.names.lookup y.1==some .local)=true)
  (h4:(sc.names.all λ y=>y.2 != .free||(X.env.kindOf y.1==some .cell||X.env.kindOf y.1==some .free))=true)(h5:js.length=N.length)(h6:aKT X.N N js ks sc=true):gK X sc N (stV js) ks:=by
 refine⟨h1,λ y hy e=>?_,λ y hy e=>?_,λ y hy e=>?_,λ Z=>by unfold stV;rw[zAF];exact h5,λ Z i x v e1 e2=>?_⟩
 .have:=zAx.mp h2 y hy
  rw[e]at this;simpa using this
 .have:=zAx.mp h3 y hy
  rw[e]at this;simpa using this
 .have:=zAx.mp h4 y hy
  rw[e]at this;simpa using this
 .unfold stV at e2
  rw[zAL]at e2;cases ej:js[i]? with
  |none=>rw[ej]at e2;cases e2
  |some o=>
   rw[ej]at e2;cases o with
   |none=>cases e2
   |some j=>
    have hi:i<js.length:=(zAG.mp ej).1
    have:=zAx.mp h6 i (zAi.mpr hi)
    rw[ej,e1]at this;dsimp only at this;cases ey:X.N[j]? with
    |none=>rw[ey]at this;cases this
    |some y=>
     rw[ey]at this;simp only[zAE,beq_iff_eq,zG6]at this;obtain⟨⟨h,h'⟩,h''⟩:=this;subst h;refine⟨h',λ hk=>?_,j,ey,?_⟩
     .rw[List.contains_iff_mem.mpr hk]at h'';cases h''
     .simp only[zC7,zGU,zC5]at e2
      cases es:Z[j]? with
      |none=>rw[es]at e2;cases e2
      |some w=>rw[es]at e2;simp at e2;subst e2;rfl
abbrev Ct.blk(C:Ct)(sc:Scope)(N:List Str):Ct where
 ι:=C.ι×Addr×List Addr×zAB×Hp
 X:=λ i=>(C.X i.1).block sc i.2.1 N i.2.2.1 i.2.2.2.1 i.2.2.2.2
 prog:=C.prog
 w:=C.w
 K:=C.K
 mg:=C.mg
 base:=C.base
 k:=C.k
 G:={C.G with E:=λ _ _ _=>False}
 cx:=λ i=>C.cx i.1
 calm:=λ i=>C.calm i.1
 room:=λ i=>C.room i.1
 own:=λ i=>PassesOwn.never
 pass:=λ i hV Z H s e s' I h=>by obtain⟨_,_,_,_,_,_,_,_,_,_,_,_,_,hE⟩:=h;exact hE
 dOk:=false
 dcx:=λ h=>absurd h zAc
def lcL(Y:En)(fg:D->En->Rs En)(ft:En->Rs Bool)(fe:En->Rs D):List D->Rs (List D)
 |[]=>.ok []
 |d::ds=>(fg d Y).bd λ Y1=>(ft Y1).bd λ k=>if k=true then(fe Y1).bd λ y=>(lcL Y fg ft fe ds).bd λ ys=>.ok (y::ys)else lcL Y fg ft fe ds
def lcD(fi:En->Rs (List D))(js:hZ)(fg:D->En->Rs En)(ft:En->Rs Bool)(fe:En->Rs D):En->Rs D:=λ Y=>(fi (shE Y)).bd λ ds=>
 if ds.length<zAY then(match lcL (stE js (shE Y)) fg ft fe ds with
  | .ok l=>.ok (.lst l)
  |_=>.st)else .st
def aGe(C:Ct)(ifs:List Expr)(f:En->Rs Bool):Prop:=∃t,(∀i,aCo (C.X i) ifs t)/\aCm C.K C.G t f
def jK:En->Rs Bool:=λ _=>.ok true
def ji:aGe C [] jK:=⟨_,λ _=>aHh,λ U Z H Y lab Q R W=>W H (aO.refl H)⟩
def pI(h:ST C c f):aGe C [c] f:=let⟨t,h1,h2⟩:=h;⟨t,λ i=>aHg (h1 i),h2⟩
def aEH(h:lcL Y fg ft fe (d::ds)= .ok l):
  ∃Y1 k,fg d Y= .ok Y1/\ft Y1= .ok k/\((k=true/\∃y ys,fe Y1= .ok y/\lcL Y fg ft fe ds= .ok ys/\l=y::ys)\/(k=false/\lcL Y fg ft fe ds= .ok l)):=by
 unfold lcL at h;obtain⟨Y1,e1,h⟩:=dG h;obtain⟨k,e2,h⟩:=dG h;refine⟨Y1,k,e1,e2,?_⟩;cases k with
 |true=>
  rw[if_pos rfl]at h;obtain⟨y,e3,h⟩:=dG h;obtain⟨ys,e4,h⟩:=dG h;cases h;exact .inl ⟨rfl,y,ys,e3,e4,rfl⟩
 |false=>
  rw[if_neg zAc]at h;exact .inr ⟨rfl,h⟩
def RR.but_blk{K:zAA}{U:List (V×D)}(R:RR K G U (stE js (VL.shE Y)) Z H (λ p=>if p=l then(2,0)else(0,0)))(B:lW l H H')(hl:H l=some o)(ho:jE o=true)(h0:G.H0 l=none):
  RR K G U (stE js (VL.shE Y)) Z H' (λ p=>if p=l then(2,0)else(0,0)):=by
 have b9:¬((λ p=>if p=l then((2,0):Nat×Nat)else(0,0)) l).1<=1:=by simp
 refine⟨R.len,λ j s e=>?_,λ b o hb=>?_,R.new,λ q hq=>(R.tm q hq).but B hl ho b9⟩
 .rcases R.sl j s e with z|⟨u,e1,e2⟩
  .exact .inl z
  .refine .inr ⟨u,e1,?_⟩
   rcases aDD e with rfl|⟨jx,ej,es⟩
   .trivial
   .unfold VL.shE at es
    rw[zAL]at es;cases e0:Y[jx]? with
    |none=>rw[e0]at es;cases es
    |some s0=>rw[e0]at es;cases es;cases s0<;>first|trivial|exact Rp.but B hl ho b9 e2
 .exact B b o (λ z=>by subst z;rw[h0]at hb;cases hb) (R.old b o hb)
def RR.blk0{K:zAA}(R:RR K G U (VL.shE Y) Z H lab)(hG:G'.H0=G.H0):RR K G' U (VL.shE Y) Z H (λ _=>(0,0)):=by
 refine⟨R.len,λ i s e=>?_,by rw[hG];exact R.old,λ p hp=>absurd rfl hp,λ q hq=>(R.tm q hq).wk λ _ _ _ _=>zAg _⟩;rcases R.sl i s e with rfl|⟨v,ev,hv⟩
 .exact .inl rfl
 .unfold VL.shE at e
  rw[zAL]at e;cases e0:Y[i]? with
  |none=>rw[e0]at e;cases e
  |some s0=>rw[e0]at e;cases e;cases s0<;>first|exact .inl rfl|exact .inr ⟨v,ev,Rp.wk (λ _ _ _ _=>zAg _) hv⟩
section
variable{K:zAA}{G:Gx}{wi:TI}{fi:En->Rs (List D)}{js:hZ}{g:TG}{fg:D->En->Rs En}{tt:TT}{ft:En->Rs Bool}{te:TE}{fe:En->Rs D}
def aDK(hi:aIz K G wi fi)(hg:aJA K {G with E:=λ _ _ _=>False} g fg)(ht:aCm K {G with E:=λ _ _ _=>False} tt ft)(he:iu K {G with E:=λ _ _ _=>False} (some []) te fe):
  iu K G (some []) (tLC wi (stV js) g tt te) (lcD fi js fg ft fe):=by
 intro U Z H Y lab Q R W;refine hi U Z H _ _ _ R.shE (W.bd.imp λ ds _ w J H1 lab1 U1 s1 _ R1 jl=>?_);intro l hl;obtain⟨hW,out,hout,w⟩:ds.length<zAY/\∃out,lcL (stE js (VL.shE Y)) fg ft fe ds= .ok out/\QE K (some []) lab H Q (.lst out):=by
  by_cases hW:ds.length<zAY
  .rw[if_pos hW]at w
   cases hout:lcL (stE js (VL.shE Y)) fg ft fe ds with
   |ok out=>rw[hout]at w;exact⟨hW,out,rfl,w⟩
   |ex c=>rw[hout]at w;exact zAJ w
   |st=>rw[hout]at w;exact zAJ w
  .rw[if_neg hW]at w
   exact zAJ w
 have R0:RR K {G with E:=λ _ _ _=>False} (U1++U) (VL.shE Y) Z H1 (λ _=>(0,0)):=R1.blk0 rfl;have RB:=R0.block (js:=js) (λ _=>zAg _) hl;have hHl:H l=none:=s1.free hl;have b9:¬((λ p=>if p=l then((2,0):Nat×Nat)else(0,0)) l).1<=1:=by simp
 refine⟨λ i n acc H2=>∃pre,n=ds.length-i/\i<=ds.length/\H2 l=some (.lst acc)/\RR K {G with E:=λ _ _ _=>False} (U1++U) (stE js (VL.shE Y)) (stV js Z) H2 (λ p=>if p=l then(2,0)else(0,0))/\aO H H2/\acc.length<=i/\
  Rps K (λ p=>H p=none/\p≠l) H2 acc pre/\∃post,lcL (stE js (VL.shE Y)) fg ft fe (ds.drop i)= .ok post/\out=pre++post,⟨ds.length,[],by lia,by lia,bA,RB.up (cJ hl _),s1.trans (cJ hl _),zAW _,.nil,out,hout,rfl⟩,?_⟩
 rintro i n acc H2 ⟨pre,rfl,hi,hH2,R2,s2,kX,rpre,post,hpost,eout⟩;refine⟨hH2,by lia,?_⟩;have jj:=jl _ H2 λ q hq=>R2.tm q (zAh _ hq)
 by_cases hlt:i<ds.length
 .obtain⟨go,yl⟩:=(jj i).2 hlt
  refine .inr ⟨go,λ x H3 hy=>?_⟩;obtain⟨s3,d,ed,rx⟩:=yl x H3 hy;replace R2:=R2.up s3;replace hH2:=s3 _ _ hH2;replace s2:=s2.trans s3;replace rpre:=rpre.up s3;have ed2:ds.drop i=d::ds.drop (i+1):=by
   rw[zDX hlt]
   have:=zAC hlt
   rw[ed]at this;cases this;rfl
  rw[ed2]at hpost;obtain⟨Y1,k,e1,e2,e3⟩:=aEH hpost;refine hg (U1++U) x d _ H3 _ _ _ Y1 R2 rx e1 λ Z4 R4=>?_
  refine ht (U1++U) Z4 H3 Y1 _ _ R4 ?_;rw[e2];intro H5 s5;rcases e3 with ⟨rfl,y,ys,e3,e4,rfl⟩|⟨rfl,e4⟩
  .rw[if_pos rfl]
   refine he (U1++U) Z4 H5 Y1 _ _ (R4.up s5) ?_;rw[e3];intro v H6 s6 r6;have hl6:H6 l=some (.lst acc):=s6 _ _ (s5 _ _ hH2);have B:lW l H6 (upd H6 l (.lst (acc++[v]))):=λ b o ne hb=>by rw[aX ne];exact hb
   refine⟨hl6,ds.length-(i+1),by lia,pre++[y],rfl,hlt,bA,?_,?_,by rw[zAs];simp;lia,?_,ys,e4,by rw[eout];simp⟩
   .exact(R2.up (s5.trans s6)).but_blk B hl6 rfl (R1.old.free hl)
   .exact λ b o hb=>B b o (λ z=>by subst z;rw[hHl]at hb;cases hb) (((s2.trans s5).trans s6) b o hb)
   .refine((rpre.up (s5.trans s6)).append (.cons (r6.wk λ p o _ z=>?_) .nil)).but B hl6 rfl λ z=>z.2 rfl
    rcases z with z|z
    .exact⟨(s2.trans s5).free z,λ e=>by subst e;rw[s5 _ _ hH2]at z;cases z⟩
    .cases z
  .rw[if_neg zAc]
   exact⟨ds.length-(i+1),by lia,pre,rfl,hlt,s5 _ _ hH2,R2.up s5,s2.trans s5,by lia,rpre.up s5,post,e4,eout⟩
 .have ei:i=ds.length:=by lia
  subst ei;rw[zEf]at hpost;cases hpost;rw[zBF]at eout;subst eout;exact .inl ⟨(jj _).1 (zAW _),w _ H2 s2 (.lst hH2 (.inl hHl) (rpre.wk λ p o _ z=>⟨.inl z.1,z.2⟩))⟩
end
section
variable{C:Ct}{pos:Pos}{elt tg iter:Expr}{ifs:List Expr}{sc:Scope}{N:List Str}{js:hZ}{ks:List Nat}{fi:En->Rs (List D)}{fg:D->En->Rs En}{ft:En->Rs Bool}{fe:En->Rs D}
def bM{C:Ct}(nd:N.Nodup:=by decide+kernel)(hk:i∈ks:=by decide)(hN:∀j,((C.blk sc N).X j).N[i]? =some x:=by intro _;rfl)(hx:∀j,Loc ((C.blk sc N).X j).env.scope x:=by intro _;first|exact zCg rfl|exact zBx rfl)
  (hf:∀j,((C.blk sc N).X j).fn x=true\/((C.blk sc N).X j).env.scope.names.lookup x=some .local:=by intro _;first|exact .inl rfl|exact .inr rfl):SG (C.blk sc N) (.Name x pos) ks (gnm i):=
 bV hN hx hf (λ _=>nd) hk
def lB(hi:SI C tg iter fi)(hg:SG (C.blk sc N) tg ks fg)(ht:aGe (C.blk sc N) ifs ft)(he:SE (C.blk sc N) (some []) elt fe)(hs:∀i x,zBz iter (C.X i).env x=pure x:=by intro _ _;rfl)(hB:∀i,gK (C.X i) sc N (stV js) ks:=by intro _;exact aAr rfl rfl rfl rfl rfl rfl):SE C (some []) (.ListComp elt [⟨tg,iter,ifs,0⟩] sc pos) (lcD fi js fg ft fe):=by
 obtain⟨wi,i1,i2⟩:=hi;obtain⟨g,g1,g2,g3,g4⟩:=hg;obtain⟨tt,t1,t2⟩:=ht;obtain⟨te,e1,e2⟩:=he;exact⟨_,λ i=>aJ2 (hB i) (C.calm i) (i1 i) (λ c fp z5 zI=>g1 (i,c,fp,z5,zI)) g3 (λ c fp z5 zI=>t1 (i,c,fp,z5,zI)) (λ c fp z5 zI=>e1 (i,c,fp,z5,zI)) (hs i),aDK i2 g2 t2 e2⟩
def aCy(hi:SI C tg iter fi)(hg:SG (C.blk sc N) tg ks fg)(ht:aGe (C.blk sc N) ifs ft)(he:SE (C.blk sc N) (some []) elt fe)(hN:∀j,(C.X j).N[i]? =some x:=by intro _;rfl)(hx:∀j,Loc (C.X j).env.scope x:=by intro _;first|exact zCg rfl|exact zBx rfl)(hsw:∀j,zDI (.ListComp elt [⟨tg,iter,ifs,0⟩] sc pos) (some (.Name x pos')) spos.line (C.X j).env=pure true:=by intro _;rfl)(hs:∀i x,zBz iter (C.X i).env x=pure x:=by intro _ _;rfl)(hf:∀j,(C.X j).fn x=true\/(C.X j).env.scope.names.lookup x=some .local:=by intro _;first|exact .inl rfl|exact .inr rfl)(nd:∀j,(C.X j).N.Nodup:=by intro _;assumption)(hB:∀i,gK (C.X i) sc N (stV js) ks:=by intro _;exact aAr rfl rfl rfl rfl rfl rfl):
  SV C i (.Assign [.Name x pos'] (.ListComp elt [⟨tg,iter,ifs,0⟩] sc pos) spos) (some []) (lcD fi js fg ft fe):=by
 obtain⟨wi,i1,i2⟩:=hi;obtain⟨g,g1,g2,g3,g4⟩:=hg;obtain⟨tt,t1,t2⟩:=ht;obtain⟨te,e1,e2⟩:=he;exact⟨_,λ j=>yh (nd j) (hN j) (hx j) (hB j) (C.calm j) (i1 j) (λ c fp z5 zI=>g1 (j,c,fp,z5,zI)) g3 (λ c fp z5 zI=>t1 (j,c,fp,z5,zI)) (λ c fp z5 zI=>e1 (j,c,fp,z5,zI)) (hsw j) (hs j) (hf j),aDK i2 g2 t2 e2⟩
end
def RR.mut{K:zAA}(R:RR K G U Y Z H lab)(ev:Z[i]? =some (some v))(hl:H l=some o)(ho:jE o=true)(qV:(lab l).1=i+2)
  (B:lW l H H')(h':dU K H' lab i v s'):RR K G U (Y.set i s') Z H' lab:=by
 refine⟨by rw[zAp];exact R.len,λ j x e=>?_,λ b u hb=>B b u (λ z=>?_) (R.old b u hb),R.new,λ q hq=>(R.tm q hq).but B hl ho λ z=>by lia⟩
 .by_cases hj:i=j
  .subst hj
   have hi:i<Y.length:=by
    have:=(zAG.mp e).1
    rwa [zAp]at this
   rw[zBQ hi]at e;cases e;exact .inr ⟨v,ev,h'⟩
  .rw[zAy hj]at e
   rcases R.sl j x e with z|⟨u,e1,e2⟩
   .exact .inl z
   .refine .inr ⟨u,e1,?_⟩
    cases x with
    |no=>trivial
    |sh d=>exact Rp.but B hl ho (λ z=>by lia) e2
    |nw d=>exact Rp.but B hl ho (λ z=>by lia) e2
    |ow d=>exact⟨Rp.but B hl ho (λ z=>by lia) e2.1,e2.2⟩
    |oz d=>
     obtain⟨a,xs,ds,q1,q2,q3,q4,q5⟩:=e2;exact⟨a,xs,ds,q1,q2,B a _ (λ z=>by subst z;exact hj (by lia)) q3,q4,Rps.but B hl ho (λ z=>by lia) q5⟩
    |o2 ll=>
     obtain⟨a,xs,q1,q2,q3,q4,q5⟩:=e2;refine⟨a,xs,q1,B a _ (λ z=>?_) q2,q3,q4,λ jj y ds f1 f2=>(q5 jj y ds f1 f2).but B hl ho λ z=>?_⟩
     .rw[z]at q3;rw[q3]at qV;exact hj (by simpa using qV.symm)
     .rw[z]at qV;exact hj (by simpa using qV.symm)
 .subst z
  have:=R.new b (by rw[qV];lia)
  rw[this]at hb;cases hb
section
variable{C:Ct}{pos apos cpos p:Pos}{e a:Expr}{fe fa:En->Rs D}{i:Nat}{x:Str}{m:Mode}
def aCl(i:Nat)(fe:En->Rs D):En->Ou:=λ Y=>match Y[i]? with
 |some (.ow (.lst ds))=>(fe Y).bo λ d=>if ds.length<zAY then .nx (Y.set i (.ow (.lst (ds++[d]))))else .st
 |_=>.st
def uv(i:Nat)(he:SE C m e fe)(hm:okN m=true:=by rfl)(hN:∀j,(C.X j).N[i]? =some x:=by intro _;rfl)(hv:∀j,Vis (C.X j).env.scope x:=by intro _;first|exact zCg rfl|exact zBx (zCg rfl)|exact zBx (zBx rfl))(hd:Nd x:=by decide)
  (hcd:(x==("__classdict__":Str))=false:=by decide)(hs1:∀j,zAT [e] (C.X j).env=[(false,eval e (C.X j).env)]:=by intro _;rfl)
  (hbase:∀j,zDW (.Name x p) "append" (C.X j).env (eval (.Name x p) (C.X j).env)=eval (.Name x p) (C.X j).env:=by intro _;rfl)
  (hfew:∀j,((zCY cpos (zAT [e] (C.X j).env)).all (λ x=>!x.1)&&(zF9 cpos (zDy [] (C.X j).env)).all (λ x=>x.1.isSome)&&decide ([e].length+([]:List zCo).length+(if ([]:List zCo).isEmpty then 0 else 1)<30))=true:=by intro _;rfl)
  (hline:(apos.endLine==cpos.line)=true:=by rfl)
  (hsw:∀j,zDI (.Call (.Attribute (.Name x p) "append" apos) [e] [] cpos) none pos.line (C.X j).env=pure false:=by intro _;rfl):
  SS C (.Expr (.Call (.Attribute (.Name x p) "append" apos) [e] [] cpos) pos) (aCl i fe):=by
 obtain⟨t,h1,h2⟩:=he;refine⟨yJ (tBM C.K "list" sr (mq i) (gw t oG)),λ j=>rN (by rw[<-C.hK j];exact ym zBr zDe zEx tL (gQ (hN j) (hv j) hd hcd) (aW (h1 j) cM (hs1 j)) (hbase j) (hfew j) hline (hs1 j) rfl) (hsw j),λ U Z H Y lab De R W=>?_⟩;unfold aCl at W;cases es:Y[i]? with
 |none=>rw[es]at W;exact zAJ W
 |some s=>
  rw[es]at W;split at W
  .rename_i ds hs
   cases hs;rcases R.sl i _ es with z|⟨v,ev,hv'⟩
   .cases z
   .obtain⟨hv1,htop⟩:=hv'
    obtain⟨a0,ea0,la0⟩:=htop rfl;subst ea0;cases hv1 with
    |lst h mm r=>
     rename_i xs;refine⟨.ref a0,ev,.inl ⟨rfl,xs,SqL.of h⟩,h2 U Z H Y lab _ R (W.bo.imp λ d _ w y H2 s2 r2=>?_)⟩;by_cases hz:ds.length<zAY
     .rw[if_pos hz]at w
      refine⟨a0,xs,y,rfl,rfl,s2 _ _ h,by rw[r.length];exact hz,λ H3 B h3=>?_⟩;obtain⟨R',r'⟩:=R.fresh (P:=λ k=>k=1) rfl (λ k hk=>beq_iff_eq.mp (oU hm k hk)) s2 r2;have la:(cN H 1 lab a0).1=i+2:=by rw[bR h];exact la0
      refine w Z H3 _ (R'.mut ev (s2 _ _ h) rfl la B ⟨.lst h3 (.inr la) ?_,λ _=>⟨a0,rfl,la⟩⟩);have ra:Rps C.K (λ p=>((cN H 1 lab p).1=1\/(cN H 1 lab p).1=i+2)/\p≠a0) H2 (xs++[y]) (ds++[d]):=by
       refine(r.mono s2 λ p o e z=>⟨by rw[bR e];exact z.1,z.2⟩).append (.cons (r'.wk λ p o e z=>⟨.inl z,λ q=>?_⟩) .nil);subst q;rw[la]at z;lia
      exact ra.but B (s2 _ _ h) rfl λ z=>z.2 rfl
     .rw[if_neg hz]at w
      exact zAJ w
  .exact zAJ W
def at2(ll:List (List D)):D->Option (Nat×List D)
 | .int n=>(ixN ll.length n).bind λ j=>(ll[j]?).map λ ds=>(j,ds)
 |_=>none
def m9(i:Nat)(fa fe:En->Rs D):En->Ou:=λ Y=>match Y[i]? with
 |some (.o2 ll)=>(fa Y).bo λ k=>match at2 ll k with
  |some (j,ds)=>(fe Y).bo λ d=>if ds.length<zAY then .nx (Y.set i (.o2 (ll.set j (ds++[d]))))else .st
  |none=>.st
 |_=>.st
def aFA(h:at2 ll k=some (j,ds)):∃n,k= .int n/\ixN ll.length n=some j/\ll[j]? =some ds:=by
 cases k with
 |int n=>
  simp only[at2,Option.bind_eq_some_iff,zCD]at h;obtain⟨j',h1,ds',h2,h3⟩:=h;cases h3;exact⟨n,rfl,h1,h2⟩
 |_=>cases h
def sH(i:Nat){p2:Pos}(ha:SE C m a fa)(he:SE C (some []) e fe)(hN:∀j,(C.X j).N[i]? =some x:=by intro _;rfl)(hv:∀j,Vis (C.X j).env.scope x:=by intro _;first|exact zCg rfl|exact zBx (zCg rfl)|exact zBx (zBx rfl))(hd:Nd x:=by decide)
  (hcd:(x==("__classdict__":Str))=false:=by decide)(hs1:∀j,zAT [e] (C.X j).env=[(false,eval e (C.X j).env)]:=by intro _;rfl)(hp:yG a:=by exact λ _ _=>rfl)
  (hbase:∀j,zDW (.Subscript (.Name x p) a p2) "append" (C.X j).env (eval (.Subscript (.Name x p) a p2) (C.X j).env)=eval (.Subscript (.Name x p) a p2) (C.X j).env:=by intro _;rfl)
  (hfew:∀j,((zCY cpos (zAT [e] (C.X j).env)).all (λ x=>!x.1)&&(zF9 cpos (zDy [] (C.X j).env)).all (λ x=>x.1.isSome)&&decide ([e].length+([]:List zCo).length+(if ([]:List zCo).isEmpty then 0 else 1)<30))=true:=by intro _;rfl)
  (hline:(apos.endLine==cpos.line)=true:=by rfl)
  (hsw:∀j,zDI (.Call (.Attribute (.Subscript (.Name x p) a p2) "append" apos) [e] [] cpos) none pos.line (C.X j).env=pure false:=by intro _;rfl):
  SS C (.Expr (.Call (.Attribute (.Subscript (.Name x p) a p2) "append" apos) [e] [] cpos) pos) (m9 i fa fe):=by
 obtain⟨t,h1,h2⟩:=he;obtain⟨ta,a1,a2⟩:=ha;refine⟨yJ (tBM C.K "list" sr (tOp (aH6 C.K) (mq i) ta) (gw t oG)),λ j=>rN (by rw[<-C.hK j];exact ym zBr zDe zEx tL (aDl xT (gQ (hN j) (hv j) hd hcd) (a1 j) hp) (aW (h1 j) cM (hs1 j)) (hbase j) (hfew j) hline (hs1 j) rfl) (hsw j),λ U Z H Y lab De R W=>?_⟩;unfold m9 at W;cases es:Y[i]? with
 |none=>rw[es]at W;exact zAJ W
 |some s=>
  rw[es]at W;cases s with
  |o2 ll=>
   dsimp only at W;rcases R.sl i _ es with z|⟨v,ev,top,xs,rfl,ht,hlt,hW,hin⟩
   .cases z
   .refine⟨.ref top,ev,a2 U Z H Y lab _ R (W.bo.imp λ k _ w kv H1 s1 r1=>?_)⟩
    cases hk:at2 ll k with
    |none=>rw[hk]at w;exact zAJ w
    |some q=>
     obtain⟨j,ds⟩:=q;rw[hk]at w;dsimp only at w;obtain⟨n,rfl,hj,hds⟩:=aFA hk;cases r1;have hjx:∃xj,xs[j]? =some xj:=by
      have:j<xs.length:=by rw[hW];exact(zAG.mp hds).1
      exact⟨_,zAC this⟩
     obtain⟨xj,hxj⟩:=hjx;have hr:=hin j xj ds hxj hds;cases hr with
     |lst hl ml rl=>
      rename_i l ys;refine⟨top,xs,n,.ref l,rfl,rfl,SqL.of (s1 _ _ ht),by unfold atI;rw[hW,hj];exact hxj,.inl ⟨rfl,ys,SqL.of (s1 _ _ hl)⟩,h2 U Z H1 Y lab _ (R.up s1) (w.bo.imp λ d _ w y H2 s2 r2=>?_)⟩;by_cases hz:ds.length<zAY
      .rw[if_pos hz]at w
       have s12:=s1.trans s2;refine⟨l,ys,y,rfl,rfl,s12 _ _ hl,by rw[rl.length];exact hz,λ H3 B h3=>?_⟩;have ltop:l≠top:=λ e=>by rw[e,hlt]at ml;cases ml
       let lab':Lab:=λ p=>match H1 p with
        |none=>(i+2,j+1)
        |some _=>lab p
       have lo:∀{p o},H1 p=some o->lab' p=lab p:=λ{p o} e=>by show(match H1 p with|none=>_|some _=>_)=_;rw[e]
       have ln:∀{p},H1 p=none->lab' p=(i+2,j+1):=λ{p} e=>by show(match H1 p with|none=>_|some _=>_)=_;rw[e]
       have R':RR C.K C.G U Y Z H2 lab':=((R.up s1).relab (λ p o e=>lo e) λ p hp=>by
        cases e:H1 p with
        |none=>exact(R.old.trans s1).free e
        |some o=>rw[lo e]at hp;exact R.new p hp).up s2
       have bE:lab' l=(i+2,j+1):=by rw[lo (s1 _ _ hl)];exact ml
       refine w Z H3 lab' (R'.mut ev (s12 _ _ hl) rfl (by rw[bE]) B ⟨top,xs,rfl,B _ _ (zDi ltop) (s12 _ _ ht),by rw[lo (s1 _ _ ht)];exact hlt,by rw[zAp];exact hW,λ jj z dz f1 f2=>?_⟩);by_cases hjj:j=jj
       .subst hjj
        rw[hxj]at f1;cases f1;rw[zBQ (zAG.mp hds).1]at f2;cases f2;refine .lst h3 bE ?_;have ra:Rps C.K (λ p=>lab' p=(i+2,j+1)/\p≠l) H2 (ys++[y]) (ds++[d]):=by
         refine(rl.mono s12 λ p o e z=>⟨by rw[lo (s1 _ _ e)];exact z.1,z.2⟩).append (.cons (r2.wk λ p o e z=>?_) .nil);rcases z with z|z
         .exact⟨ln z,λ q=>by subst q;rw[s1 _ _ hl]at z;cases z⟩
         .cases z
        exact ra.but B (s12 _ _ hl) rfl λ z=>z.2 rfl
       .rw[zAy hjj]at f2
        refine((hin jj z dz f1 f2).mono s12 (A':=λ p=>lab' p=(i+2,jj+1)) λ p o e q=>by rw[lo (s1 _ _ e)];exact q).but B (s12 _ _ hl) rfl λ q=>?_
        rw[bE]at q;simp only[Prod.mk.injEq]at q;lia
      .rw[if_neg hz]at w
       exact zAJ w
  |_=>exact zAJ W
end
mutual
def eqD:D->D->Bool
 | .non,.non=>true
 | .bl a,.bl b=>a==b
 | .bl a,.int b=>(if a then 1 else 0)==b
 | .int a,.bl b=>a==(if b then 1 else 0)
 | .int a,.int b=>a==b
 | .str a,.str b=>a==b
 | .tup l,.tup m=>gf l m
 | .lst l,.lst m=>gf l m
 |_,_=>false
def gf:List D->List D->Bool
 |[],[]=>true
 |x::xs,y::ys=>eqD x y&&gf xs ys
 |_,_=>false
end
mutual
def jU:D->Nat
 | .tup l=>cR l+1
 | .lst l=>cR l+1
 |_=>0
def cR:List D->Nat
 |[]=>0
 |d::r=>max (jU d) (cR r)
end
mutual
def aZ:D->Bool
 | .tup l=>ak l
 | .lst l=>ak l
 | .dct _ _=>false
 | .set _=>false
 | .scr _=>false
 | .fn _=>false
 |_=>true
def ak:List D->Bool
 |[]=>true
 |d::r=>aZ d&&ak r
end
mutual
theorem j8:∀d:D,aZ d=true->eqD d d=true
 | .non,_=>by simp[eqD]
 | .bl b,_=>by simp[eqD]
 | .int i,_=>by simp[eqD]
 | .str x,_=>by simp[eqD]
 | .tup l,h=>by exact fL l (by simpa[aZ]using h)
 | .lst l,h=>by exact fL l (by simpa[aZ]using h)
 | .dct _ _,h=>by simp[aZ]at h
 | .set _,h=>by simp[aZ]at h
 | .scr _,h=>by simp[aZ]at h
theorem fL:∀l:List D,ak l=true->gf l l=true
 |[],_=>by simp[gf]
 |d::r,h=>by
  simp only[ak,zAE]at h;simp only[gf,zAE];exact⟨j8 d h.1,fL r h.2⟩
end
structure gY(K:zAA)(H:Hp)(s:zAB):Prop where
 tup:∀{a:Addr} {xs:List V},SqT K H a xs->∃its:List Value,Vals xs its/\s.heap.IsTuple a its.toArray
 lst:∀{a:Addr} {xs:List V},H a=some (.lst xs)->∃its:List Value,Vals xs its/\s.heap.IsList a its.toArray
 inj:∀{a:Addr} {xs ys:List V},SqT K H a xs->SqT K H a ys->xs=ys
 ne:∀{a:Addr} {xs ys:List V},SqT K H a xs->H a=some (.lst ys)->False
def Inv.seqOk(I:L2.Inv X hV Z H s):gY X.K H s where
 tup:=λ h=>let⟨its,r,p,_⟩:=I.tuple h;⟨its,r,p⟩
 lst:=λ h=>let⟨its,r,p,_⟩:=I.list (SqL.of h);⟨its,r,p.isList⟩
 inj:=λ h h'=>I.tuple_inj h h'
 ne:=λ h h'=>by
  obtain⟨its,_,⟨o,e,c,_⟩,_⟩:=I.tuple h;obtain⟨its2,_,⟨o2,n2,e2,c2,_⟩,_⟩:=I.list (SqL.of h');rw[e]at e2;cases e2;rw[c]at c2;injection c2 with c3
  exact absurd c3 (by decide)
section
variable{K:zAA}{H:Hp}{s:zAB}
def ndP:D->Prop
 | .dct _ _=>False
 | .set _=>False
 | .scr _=>False
 | .fn _=>False
 |_=>True
def ndx{d:D}(h:aZ d=true):ndP d:=by cases d<;>first|exact zD7|(simp[aZ]at h)
def bC(h:aZ (.dct a b)=true):False:=by simp[aZ]at h
def dH(h:aZ (.set a)=true):False:=by simp[aZ]at h
def dI(h:aZ (.scr a)=true):False:=by simp[aZ]at h
def eZ(h:aZ (.fn a)=true):False:=by simp[aZ]at h
def dq(h:aZ (.tup a)=true):ak a=true:=by simpa[aZ]using h
def gh(h:aZ (.lst a)=true):ak a=true:=by simpa[aZ]using h
def dm(h:ak (d::a)=true):aZ d=true/\ak a=true:=by
 simp only[ak,zAE]at h;exact h
def aGi(K:zAA)(s:zAB)(H:Hp)(x:V)(d:D):Prop:=gY K H s->∀(A':Addr->Prop) (e:D),Rp K A' H x e->aZ d=true->aZ e=true->d=e
def zx(K:zAA)(s:zAB)(H:Hp)(xs:List V)(ds:List D):Prop:=gY K H s->∀(A':Addr->Prop) (es:List D),Rps K A' H xs es->ak ds=true->ak es=true->ds=es
def aGN(ha:SqT K H a xs)(ih:zx K s H xs ds):aGi K s H (.ref a) (.tup ds):=λ ok A' e h n1 n2=>by
 cases h with
 |tup hb r'=>
  have e:=ok.inj ha hb;subst e;rw[ih ok _ _ r' (dq n1) (dq n2)]
 |lst hb _ _=>exact(ok.ne ha hb).elim
 |_=>exact zAJ (ndx n2)
def aGO(ha:H a=some (.lst xs))(ih:zx K s H xs ds):aGi K s H (.ref a) (.lst ds):=λ ok A' e h n1 n2=>by
 cases h with
 |tup hb r'=>exact(ok.ne hb ha).elim
 |lst hb _ r'=>
  rw[ha]at hb;cases hb;rw[ih ok _ _ r' (gh n1) (gh n2)]
 |_=>exact zAJ (ndx n2)
def aEY(h1:aGi K s H x d)(h2:zx K s H xs ds):zx K s H (x::xs) (d::ds):=λ ok A' es h n1 n2=>by
 cases h with
 |cons k r'=>rw[h1 ok _ _ k (dm n1).1 (dm n2).1,h2 ok _ _ r' (dm n1).2 (dm n2).2]
def Rp.inj(ok:gY K H s)(r:Rp K A H x d)(h:Rp K A' H x e)(n1:aZ d=true)(n2:aZ e=true):d=e:=
 Rp.rec (motive_1:=λ _ H x d _=>aGi K s H x d) (motive_2:=λ _ H xs ds _=>zx K s H xs ds)
  (λ _ _ _ h _ _=>by cases h;rfl) (λ _ _ _ _ h _ _=>by cases h;rfl) (λ _ _ _ _ h _ _=>by cases h;rfl) (λ _ _ _ _ h _ _=>by cases h;rfl) (λ ha _ ih=>aGN ha ih) (λ ha _ _ ih=>aGO ha ih)
  (λ _ _ _ _ _ _ _ _ n1 _=>(bC n1).elim) (λ _ _ _ _ _ _ _ _ n1 _=>(bC n1).elim) (λ _ _ _ _ _ _ _ _ n1 _=>(dH n1).elim) (λ _ _ _ _ _ n1 _=>(dI n1).elim) (λ _ _ _ _ _ n1 _=>(eZ n1).elim)
  (λ _ _ _ h _ _=>by cases h;rfl) (λ _ _ h1 h2=>aEY h1 h2) r ok A' e h n1 n2
end
theorem zZ:∀(l m:List D),gf l m=((zAU (min l.length m.length)).all (λ j=>match l[j]?,m[j]? with|some a,some b=>eqD a b|_,_=>true)&&l.length==m.length)
 |[],[]=>by simp[gf]
 |[],y::ys=>by simp[gf]
 |x::xs,[]=>by simp[gf]
 |x::xs,y::ys=>by
  have ih:=zZ xs ys;simp only[gf,ih,zA6,Nat.succ_min_succ,List.range_succ_eq_map,zHV,zHb,zF4,Function.comp_def,zDc,Nat.succ_eq_add_one,Nat.add_one_inj,zFO];congr 1;congr 1;simp
theorem qI:∀{l:List D} {d:D},d∈l->jU d<=cR l
 |x::r,d,h=>by
  simp only[cR];rcases zAX.mp h with rfl|h
  .exact zHN _ _
  .exact zAd (qI h) (zHH _ _)
theorem iG:∀{l:List D} {d:D},d∈l->ak l=true->aZ d=true
 |x::r,d,h,n=>by
  simp only[ak,zAE]at n;rcases zAX.mp h with rfl|h
  .exact n.1
  .exact iG h n.2
def iM(hn:n=ds.length)(hm:m=es.length):((zAU (min n m)).all (λ j=>match ds[j]?,es[j]? with|some a,some b=>eqD a b|_,_=>true)&&n==m)=gf ds es:=by
 subst hn hm;exact(zZ ds es).symm
section
variable{K:zAA}{H:Hp}{s:zAB}
def aFH(K:zAA)(H:Hp)(s:zAB)(n:Nat):Prop:=∀(A1 A2:Addr->Prop) (x y:V) (d e:D) (A:zAZ) (u v:Value),Rp K A1 H x d->Rp K A2 H y e->RelV x u->RelV y v->jU d<=n->aZ d=true->aZ e=true->A.units+n<cLine->zCN A s u v (eqD d e)
def aFI(K:zAA)(H:Hp)(s:zAB)(n:Nat):Prop:=∀(A1 A2:Addr->Prop) (xs ys:List V) (ds es:List D) (A:zAZ) (us vs:List Value),Rps K A1 H xs ds->Rps K A2 H ys es->Vals xs us->Vals ys vs->cR ds<=n->ak ds=true->ak es=true->A.units+n<cLine->
  ∀(j:Nat) (h1:j<us.toArray.size) (h2:j<vs.toArray.size),zCN A s us.toArray[j] vs.toArray[j] (match ds[j]?,es[j]? with|some a,some b=>eqD a b|_,_=>true)
def uK(ok:gY K H s)(n:Nat)(IH:∀k,n=k+1->aFI K H s k):aFH K H s n:=by
 intro A1 A2 x y d e A u v r1 r2 ru rv hd nd ne hu;have hu0:A.units<cLine:=by lia
 cases r1 with
 |tup h1 q1=>
  rename_i a xs ds;cases ru;obtain⟨its,w1,t1⟩:=ok.tup h1;cases r2 with
  |tup h2 q2=>
   rename_i b ys es;cases rv;obtain⟨its2,w2,t2⟩:=ok.tup h2;by_cases hab:a=b
   .subst hab
    have e:=Rp.inj ok (Rp.tup h1 q1) (Rp.tup h2 q2) nd ne;rw[<-e,j8 _ nd];exact zEU _
   .simp only[jU]at hd
    obtain⟨k,rfl⟩:∃k,n=k+1:=⟨n-1,by lia⟩
    have z:=zF8 t1 t2 hu0 (IH k rfl _ _ _ _ _ _ _ _ _ q1 q2 w1 w2 (by lia) (dq nd) (dq ne) (by show A.units+1+k<cLine;lia));rw[iM (by rw[zAS,<-w1.length,q1.length]) (by rw[zAS,<-w2.length,q2.length])]at z;simp only[eqD];exact zDs hab z
  |lst h2 mm2 q2=>
   cases rv;obtain⟨its2,w2,t2⟩:=ok.lst h2;simp only[eqD];exact SeqAt.EqAt.tuple_list t1 t2 hu0
  |non=>cases rv;exact SeqAt.EqAt.tuple_none t1 hu0
  |bl b=>cases rv;exact SeqAt.EqAt.tuple_bool b t1 hu0
  |int i=>obtain⟨tk,rfl⟩:=rv;exact SeqAt.EqAt.tuple_int i tk t1 hu0
  |str i=>obtain⟨tk,rfl⟩:=rv;exact SeqAt.EqAt.tuple_str i tk t1 hu0
  |_=>exact zAJ (ndx ne)
 |lst h1 mm1 q1=>
  rename_i a xs ds;cases ru;obtain⟨its,w1,t1⟩:=ok.lst h1;cases r2 with
  |lst h2 mm2 q2=>
   rename_i b ys es;cases rv;obtain⟨its2,w2,t2⟩:=ok.lst h2;by_cases hab:a=b
   .subst hab
    have e:=Rp.inj ok (Rp.lst h1 mm1 q1) (Rp.lst h2 mm2 q2) nd ne;rw[<-e,j8 _ nd];exact zEU _
   .simp only[jU]at hd
    obtain⟨k,rfl⟩:∃k,n=k+1:=⟨n-1,by lia⟩
    have l1:its.toArray.size=ds.length:=by rw[zAS,<-w1.length,q1.length]
    have l2:its2.toArray.size=es.length:=by rw[zAS,<-w2.length,q2.length]
    by_cases hl:its.toArray.size=its2.toArray.size
    .have z:=zFf t1 t2 hl hu0 (IH k rfl _ _ _ _ _ _ _ _ _ q1 q2 w1 w2 (by lia) (gh nd) (gh ne) (by show A.units+1+k<cLine;lia))
     have z':=iM (ds:=ds) (es:=es) l1 l2;rw[<-hl,Nat.min_self,beq_self_eq_true,zER]at z';rw[z']at z;simp only[eqD];exact zDs hab z
    .have z:=zEb t1 t2 (by simpa using hl) hu0
     have z':=iM (ds:=ds) (es:=es) l1 l2;rw[beq_eq_false_iff_ne.mpr hl,zFP]at z';simp only[eqD];rw[<-z'];exact zDs hab z
  |tup h2 q2=>
   cases rv;obtain⟨its2,w2,t2⟩:=ok.tup h2;simp only[eqD];exact SeqAt.EqAt.list_tuple t1 t2 hu0
  |non=>cases rv;exact SeqAt.EqAt.list_none t1 hu0
  |bl b=>cases rv;exact SeqAt.EqAt.list_bool b t1 hu0
  |int i=>obtain⟨tk,rfl⟩:=rv;exact SeqAt.EqAt.list_int i tk t1 hu0
  |str i=>obtain⟨tk,rfl⟩:=rv;exact SeqAt.EqAt.list_str i tk t1 hu0
  |_=>exact zAJ (ndx ne)
 |non=>
  cases ru;cases r2 with
  |tup h2 q2=>cases rv;obtain⟨_,_,t2⟩:=ok.tup h2;exact SeqAt.EqAt.none_tuple t2 hu0
  |lst h2 mm2 q2=>cases rv;obtain⟨_,_,t2⟩:=ok.lst h2;exact SeqAt.EqAt.none_list t2 hu0
  |dK _ _ _=>exact(bC ne).elim
  |dT _ _ _=>exact(bC ne).elim
  |set _ _ _ _=>exact(dH ne).elim
  |scr _=>exact(dI ne).elim
  |fn _=>exact(eZ ne).elim
  |non=>cases rv;exact zEU _
  |bl b=>cases rv;exact SeqAt.EqAt.none_bool b
  |int i=>obtain⟨tk,rfl⟩:=rv;exact SeqAt.EqAt.none_int i tk
  |str i=>obtain⟨tk,rfl⟩:=rv;exact SeqAt.EqAt.none_str i tk
 |bl a=>
  cases ru;cases r2 with
  |tup h2 q2=>cases rv;obtain⟨_,_,t2⟩:=ok.tup h2;exact SeqAt.EqAt.bool_tuple a t2 hu0
  |lst h2 mm2 q2=>cases rv;obtain⟨_,_,t2⟩:=ok.lst h2;exact SeqAt.EqAt.bool_list a t2 hu0
  |dK _ _ _=>exact(bC ne).elim
  |dT _ _ _=>exact(bC ne).elim
  |set _ _ _ _=>exact(dH ne).elim
  |scr _=>exact(dI ne).elim
  |fn _=>exact(eZ ne).elim
  |non=>cases rv;exact SeqAt.EqAt.bool_none a
  |bl b=>cases rv;exact zFH a b
  |int i=>obtain⟨tk,rfl⟩:=rv;exact SeqAt.EqAt.bool_int a i tk
  |str i=>obtain⟨tk,rfl⟩:=rv;exact SeqAt.EqAt.bool_str a i tk
 |int a=>
  obtain⟨tu,rfl⟩:=ru;cases r2 with
  |tup h2 q2=>cases rv;obtain⟨_,_,t2⟩:=ok.tup h2;exact SeqAt.EqAt.int_tuple a tu t2 hu0
  |lst h2 mm2 q2=>cases rv;obtain⟨_,_,t2⟩:=ok.lst h2;exact SeqAt.EqAt.int_list a tu t2 hu0
  |dK _ _ _=>exact(bC ne).elim
  |dT _ _ _=>exact(bC ne).elim
  |set _ _ _ _=>exact(dH ne).elim
  |scr _=>exact(dI ne).elim
  |fn _=>exact(eZ ne).elim
  |non=>cases rv;exact SeqAt.EqAt.int_none a tu
  |bl b=>cases rv;exact SeqAt.EqAt.int_bool a tu b
  |int i=>obtain⟨tk,rfl⟩:=rv;exact zDr a tu i tk
  |str i=>obtain⟨tk,rfl⟩:=rv;exact zFZ a tu i tk
 |str a=>
  obtain⟨tu,rfl⟩:=ru;cases r2 with
  |tup h2 q2=>cases rv;obtain⟨_,_,t2⟩:=ok.tup h2;exact SeqAt.EqAt.str_tuple a tu t2 hu0
  |lst h2 mm2 q2=>cases rv;obtain⟨_,_,t2⟩:=ok.lst h2;exact SeqAt.EqAt.str_list a tu t2 hu0
  |dK _ _ _=>exact(bC ne).elim
  |dT _ _ _=>exact(bC ne).elim
  |set _ _ _ _=>exact(dH ne).elim
  |scr _=>exact(dI ne).elim
  |fn _=>exact(eZ ne).elim
  |non=>cases rv;exact SeqAt.EqAt.str_none a tu
  |bl b=>cases rv;exact SeqAt.EqAt.str_bool a tu b
  |int i=>obtain⟨tk,rfl⟩:=rv;exact zF0 a tu i tk
  |str i=>obtain⟨tk,rfl⟩:=rv;exact SeqAt.EqAt.str_str a tu i tk
 |_=>exact zAJ (ndx nd)
def vP(ok:gY K H s)(n:Nat)(IH:aFH K H s n):aFI K H s n:=by
 intro A1 A2 xs ys ds es A us vs q1 q2 w1 w2 hd nd ne hu j h1 h2;have hj1:j<us.length:=by simpa using h1
 have hj2:j<vs.length:=by simpa using h2
 have hx:j<xs.length:=by rw[w1.length];exact hj1
 have hy:j<ys.length:=by rw[w2.length];exact hj2
 have ex:=zAC hx;have ey:=zAC hy;obtain⟨d,ed,rd⟩:=q1.get ex;obtain⟨e,ee,re⟩:=q2.get ey;obtain⟨u,eu,ru⟩:=w1.get ex;obtain⟨v,ev,rv⟩:=w2.get ey;have e1:us.toArray[j]=u:=by
  rw[zFs];exact zA8 ((zAC hj1).symm.trans eu)
 have e2:vs.toArray[j]=v:=by
  rw[zFs];exact zA8 ((zAC hj2).symm.trans ev)
 rw[e1,e2,ed,ee];exact IH _ _ _ _ _ _ _ _ _ rd re ru rv (zAd (qI (zAq ed)) hd) (iG (zAq ed) nd) (iG (zAq ee) ne) hu
theorem aEi(ok:gY K H s):∀n,aFH K H s n
 |0=>uK ok 0 λ k h=>absurd h (by simp)
 |n+1=>uK ok (n+1) λ k h=>by
  have h':=zFR h;subst h';exact vP ok n (aEi ok n)
def aEj(ok:gY K H s):∀{A1 A2:Addr->Prop} {x y:V} {d e:D} (n:Nat) {A:zAZ} {u v:Value},Rp K A1 H x d->Rp K A2 H y e->RelV x u->RelV y v->jU d<=n->aZ d=true->aZ e=true->A.units+n<cLine->zCN A s u v (eqD d e)
 |_,_,_,_,_,_,n,A,u,v,r1,r2,ru,rv,hd,nd,ne,hu=>aEi ok n _ _ _ _ _ _ _ _ _ r1 r2 ru rv hd nd ne hu
def aHH(ok:gY K H s):∀{A1 A2:Addr->Prop} {xs ys:List V} {ds es:List D} (n:Nat) {A:zAZ} {us vs:List Value},Rps K A1 H xs ds->Rps K A2 H ys es->Vals xs us->Vals ys vs->cR ds<=n->ak ds=true->ak es=true->A.units+n<cLine->
  ∀(j:Nat) (h1:j<us.toArray.size) (h2:j<vs.toArray.size),zCN A s us.toArray[j] vs.toArray[j] (match ds[j]?,es[j]? with|some a,some b=>eqD a b|_,_=>true)
 |_,_,xs,ys,ds,es,n,A,us,vs,q1,q2,w1,w2,hd,nd,ne,hu,j,h1,h2=>vP ok n (aEi ok n) _ _ _ _ _ _ _ _ _ q1 q2 w1 w2 hd nd ne hu j h1 h2
def aD2(ok:gY K H s)(n:Nat)(r1:Rp K A1 H x d)(r2:Rp K A2 H y e)(ru:RelV x u)(rv:RelV y v)(hd:jU d<=n)(nd:aZ d=true)(ne:aZ e=true)(hu:A.units+n<cLine):
  SeqAt.RcAt A s u v (eqD d e)/\SeqAt.RcNeAt A s u v (!eqD d e):=by
 have hu0:A.units<cLine:=by lia
 cases r1 with
 |tup h1 q1=>
  rename_i a xs ds;cases ru;obtain⟨its,w1,t1⟩:=ok.tup h1;cases r2 with
  |tup h2 q2=>
   rename_i b ys es;cases rv;obtain⟨its2,w2,t2⟩:=ok.tup h2;simp only[jU]at hd;obtain⟨k,rfl⟩:∃k,n=k+1:=⟨n-1,by lia⟩
   have he:=aHH ok (A:=A.in1) k q1 q2 w1 w2 (by lia) (dq nd) (dq ne) (by show A.units+1+k<cLine;lia);have z:=zF8 t1 t2 hu0 he;have z2:=SeqAt.RcNeAt.tuples t1 t2 hu0 he;rw[iM (by rw[zAS,<-w1.length,q1.length]) (by rw[zAS,<-w2.length,q2.length])]at z z2;simp only[eqD];exact⟨z,z2⟩
  |lst h2 mm2 q2=>
   cases rv;obtain⟨its2,w2,t2⟩:=ok.lst h2;simp only[eqD];exact⟨SeqAt.RcAt.tuple_list t1 t2 hu0,SeqAt.RcNeAt.tuple_list t1 t2 hu0⟩
  |non=>cases rv;exact⟨SeqAt.RcAt.tuple_none t1 hu0,SeqAt.RcNeAt.tuple_none t1 hu0⟩
  |bl b=>cases rv;exact⟨SeqAt.RcAt.tuple_bool b t1 hu0,SeqAt.RcNeAt.tuple_bool b t1 hu0⟩
  |int i=>obtain⟨tk,rfl⟩:=rv;exact⟨SeqAt.RcAt.tuple_int i tk t1 hu0,SeqAt.RcNeAt.tuple_int i tk t1 hu0⟩
  |str i=>obtain⟨tk,rfl⟩:=rv;exact⟨SeqAt.RcAt.tuple_str i tk t1 hu0,SeqAt.RcNeAt.tuple_str i tk t1 hu0⟩
  |_=>exact zAJ (ndx ne)
 |lst h1 mm1 q1=>
  rename_i a xs ds;cases ru;obtain⟨its,w1,t1⟩:=ok.lst h1;cases r2 with
  |lst h2 mm2 q2=>
   rename_i b ys es;cases rv;obtain⟨its2,w2,t2⟩:=ok.lst h2;simp only[jU]at hd;obtain⟨k,rfl⟩:∃k,n=k+1:=⟨n-1,by lia⟩
   have l1:its.toArray.size=ds.length:=by rw[zAS,<-w1.length,q1.length]
   have l2:its2.toArray.size=es.length:=by rw[zAS,<-w2.length,q2.length]
   have z':=iM (ds:=ds) (es:=es) l1 l2;by_cases hl:its.toArray.size=its2.toArray.size
   .have he:=aHH ok (A:=A.in1) k q1 q2 w1 w2 (by lia) (gh nd) (gh ne) (by show A.units+1+k<cLine;lia)
    have z:=zFf t1 t2 hl hu0 he;have z2:=SeqAt.RcNeAt.lists t1 t2 hl hu0 he;rw[<-hl,Nat.min_self,beq_self_eq_true,zER]at z';rw[z']at z z2;simp only[eqD];exact⟨z,z2⟩
   .rw[beq_eq_false_iff_ne.mpr hl,zFP]at z'
    simp only[eqD];rw[<-z'];exact⟨zEb t1 t2 (by simpa using hl) hu0,SeqAt.RcNeAt.lists_lengths t1 t2 (by simpa using hl) hu0⟩
  |tup h2 q2=>
   cases rv;obtain⟨its2,w2,t2⟩:=ok.tup h2;simp only[eqD];exact⟨SeqAt.RcAt.list_tuple t1 t2 hu0,SeqAt.RcNeAt.list_tuple t1 t2 hu0⟩
  |non=>cases rv;exact⟨SeqAt.RcAt.list_none t1 hu0,SeqAt.RcNeAt.list_none t1 hu0⟩
  |bl b=>cases rv;exact⟨SeqAt.RcAt.list_bool b t1 hu0,SeqAt.RcNeAt.list_bool b t1 hu0⟩
  |int i=>obtain⟨tk,rfl⟩:=rv;exact⟨SeqAt.RcAt.list_int i tk t1 hu0,SeqAt.RcNeAt.list_int i tk t1 hu0⟩
  |str i=>obtain⟨tk,rfl⟩:=rv;exact⟨SeqAt.RcAt.list_str i tk t1 hu0,SeqAt.RcNeAt.list_str i tk t1 hu0⟩
  |_=>exact zAJ (ndx ne)
 |non=>
  cases ru;cases r2 with
  |tup h2 q2=>cases rv;obtain⟨_,_,t2⟩:=ok.tup h2;exact⟨SeqAt.RcAt.none_tuple t2 hu0,SeqAt.RcNeAt.none_tuple t2 hu0⟩
  |lst h2 mm2 q2=>cases rv;obtain⟨_,_,t2⟩:=ok.lst h2;exact⟨SeqAt.RcAt.none_list t2 hu0,SeqAt.RcNeAt.none_list t2 hu0⟩
  |dK _ _ _=>exact(bC ne).elim
  |dT _ _ _=>exact(bC ne).elim
  |set _ _ _ _=>exact(dH ne).elim
  |scr _=>exact(dI ne).elim
  |fn _=>exact(eZ ne).elim
  |non=>cases rv;exact⟨SeqAt.RcAt.none_none,SeqAt.RcNeAt.none_none⟩
  |bl b=>cases rv;exact⟨SeqAt.RcAt.none_bool b,SeqAt.RcNeAt.none_bool b⟩
  |int i=>obtain⟨tk,rfl⟩:=rv;exact⟨SeqAt.RcAt.none_int i tk,SeqAt.RcNeAt.none_int i tk⟩
  |str i=>obtain⟨tk,rfl⟩:=rv;exact⟨SeqAt.RcAt.none_str i tk,SeqAt.RcNeAt.none_str i tk⟩
 |bl a=>
  cases ru;cases r2 with
  |tup h2 q2=>cases rv;obtain⟨_,_,t2⟩:=ok.tup h2;exact⟨SeqAt.RcAt.bool_tuple a t2 hu0,SeqAt.RcNeAt.bool_tuple a t2 hu0⟩
  |lst h2 mm2 q2=>cases rv;obtain⟨_,_,t2⟩:=ok.lst h2;exact⟨SeqAt.RcAt.bool_list a t2 hu0,SeqAt.RcNeAt.bool_list a t2 hu0⟩
  |dK _ _ _=>exact(bC ne).elim
  |dT _ _ _=>exact(bC ne).elim
  |set _ _ _ _=>exact(dH ne).elim
  |scr _=>exact(dI ne).elim
  |fn _=>exact(eZ ne).elim
  |non=>cases rv;exact⟨SeqAt.RcAt.bool_none a,SeqAt.RcNeAt.bool_none a⟩
  |bl b=>cases rv;exact⟨SeqAt.RcAt.bool_bool a b,SeqAt.RcNeAt.bool_bool a b⟩
  |int i=>obtain⟨tk,rfl⟩:=rv;exact⟨SeqAt.RcAt.bool_int a i tk,SeqAt.RcNeAt.bool_int a i tk⟩
  |str i=>obtain⟨tk,rfl⟩:=rv;exact⟨SeqAt.RcAt.bool_str a i tk,SeqAt.RcNeAt.bool_str a i tk⟩
 |int a=>
  obtain⟨tu,rfl⟩:=ru;cases r2 with
  |tup h2 q2=>cases rv;obtain⟨_,_,t2⟩:=ok.tup h2;exact⟨SeqAt.RcAt.int_tuple a tu t2 hu0,SeqAt.RcNeAt.int_tuple a tu t2 hu0⟩
  |lst h2 mm2 q2=>cases rv;obtain⟨_,_,t2⟩:=ok.lst h2;exact⟨SeqAt.RcAt.int_list a tu t2 hu0,SeqAt.RcNeAt.int_list a tu t2 hu0⟩
  |dK _ _ _=>exact(bC ne).elim
  |dT _ _ _=>exact(bC ne).elim
  |set _ _ _ _=>exact(dH ne).elim
  |scr _=>exact(dI ne).elim
  |fn _=>exact(eZ ne).elim
  |non=>cases rv;exact⟨SeqAt.RcAt.int_none a tu,SeqAt.RcNeAt.int_none a tu⟩
  |bl b=>cases rv;exact⟨SeqAt.RcAt.int_bool a tu b,SeqAt.RcNeAt.int_bool a tu b⟩
  |int i=>obtain⟨tk,rfl⟩:=rv;exact⟨SeqAt.RcAt.int_int a tu i tk,SeqAt.RcNeAt.int_int a tu i tk⟩
  |str i=>obtain⟨tk,rfl⟩:=rv;exact⟨SeqAt.RcAt.int_str a tu i tk,SeqAt.RcNeAt.int_str a tu i tk⟩
 |str a=>
  obtain⟨tu,rfl⟩:=ru;cases r2 with
  |tup h2 q2=>cases rv;obtain⟨_,_,t2⟩:=ok.tup h2;exact⟨SeqAt.RcAt.str_tuple a tu t2 hu0,SeqAt.RcNeAt.str_tuple a tu t2 hu0⟩
  |lst h2 mm2 q2=>cases rv;obtain⟨_,_,t2⟩:=ok.lst h2;exact⟨SeqAt.RcAt.str_list a tu t2 hu0,SeqAt.RcNeAt.str_list a tu t2 hu0⟩
  |dK _ _ _=>exact(bC ne).elim
  |dT _ _ _=>exact(bC ne).elim
  |set _ _ _ _=>exact(dH ne).elim
  |scr _=>exact(dI ne).elim
  |fn _=>exact(eZ ne).elim
  |non=>cases rv;exact⟨SeqAt.RcAt.str_none a tu,SeqAt.RcNeAt.str_none a tu⟩
  |bl b=>cases rv;exact⟨SeqAt.RcAt.str_bool a tu b,SeqAt.RcNeAt.str_bool a tu b⟩
  |int i=>obtain⟨tk,rfl⟩:=rv;exact⟨SeqAt.RcAt.str_int a tu i tk,SeqAt.RcNeAt.str_int a tu i tk⟩
  |str i=>obtain⟨tk,rfl⟩:=rv;exact⟨SeqAt.RcAt.str_str a tu i tk,SeqAt.RcNeAt.str_str a tu i tk⟩
 |_=>exact zAJ (ndx nd)
end
section
variable{K:zAA}{H:Hp}{s:zAB}
open Classical in
def mK(K:zAA)(H:Hp)(d:D)(u:Value):Bool:=if h:∃e,aZ e=true/\∃y,RelV y u/\Rp K (λ _=>True) H y e then eqD (choose h) d else false
def aBg(ok:gY K H s)(r:RelV y u)(h:Rp K A H y e)(ne:aZ e=true):mK K H d u=eqD e d:=by
 have hx:∃e,aZ e=true/\∃y,RelV y u/\Rp K (λ _=>True) H y e:=⟨e,ne,y,r,h.wk λ _ _ _ _=>trivial⟩
 unfold mK;rw[dif_pos hx];obtain⟨n',y',r',h'⟩:=Classical.choose_spec hx;have e1:=RelV.inj r r';subst e1;rw[Rp.inj ok h' h n' ne]
def inD(d:D)(es:List D):Bool:=es.any λ e=>eqD e d
def pA(ok:gY K H s):∀{A:Addr->Prop} {xs:List V} {es:List D} {us:List Value},Rps K A H xs es->Vals xs us->ak es=true->us.any (mK K H d)=inD d es:=by
 intro A xs es us h v n;induction v generalizing es with
 |nil=>cases h;rfl
 |cons k t ih=>
  cases h with
  |cons h r=>
   simp only[ak,zAE]at n;unfold inD;rw[zHW,zHW,aBg ok k h n.1,ih r n.2];rfl
def rn(ok:gY K H s)(rx:Rp K A0 H x d)(rv:RelV x v)(hu:A.units+n<cLine)(nd:aZ d=true):∀{A1:Addr->Prop} {xs:List V} {es:List D} {us:List Value},Rps K A1 H xs es->Vals xs us->cR es<=n->ak es=true->∀u∈us,zCN A s u v (mK K H d u):=by
 intro A1 xs es us h v' hd ne u hm;induction v' generalizing es with
 |nil=>cases hm
 |cons k t ih=>
  cases h with
  |cons h r=>
   simp only[cR]at hd;simp only[ak,zAE]at ne;rcases zAX.mp hm with z|z
   .subst z
    rw[aBg ok k h ne.1];exact aEj ok n h rx k rv (zAd (zHN _ _) hd) ne.1 nd hu
   .exact ih r (zAd (zHH _ _) hd) ne.2 z
end
section
variable{X:Cx}
def aD5(K:zAA)(neg:Bool):R2:=λ x y H Q=>∃A B d e,Rp K A H x d/\Rp K B H y e/\jU d<=60/\aZ d=true/\aZ e=true/\Q (.bl (if neg then !eqD d e else eqD d e)) H
def aIK(hu:X.A.units+64<cLine):OpR X (zAm .Eq) (aD5 X.K false):=by
 intro hV s Z H x y v u Q I rx ry h;obtain⟨A,B,d,e,r1,r2,hd,nd,ne,q⟩:=h;exact(aD2 (Inv.seqOk I) 60 r1 r2 rx ry hd nd ne (by lia)).1 X.prog X.w X.xe _ ⟨.bl (eqD d e),H,I,rfl,q⟩
def aIC(hu:X.A.units+64<cLine):OpR X (zAm .NotEq) (aD5 X.K true):=by
 intro hV s Z H x y v u Q I rx ry h;obtain⟨A,B,d,e,r1,r2,hd,nd,ne,q⟩:=h;exact(aD2 (Inv.seqOk I) 60 r1 r2 rx ry hd nd ne (by lia)).2 X.prog X.w X.xe _ ⟨.bl (!eqD d e),H,I,rfl,q⟩
def aD4(K:zAA)(neg:Bool):R2:=λ x y H Q=>∃A B d a es,Rp K A H x d/\y= .ref a/\(Rp K B H (.ref a) (.lst es)\/Rp K B H (.ref a) (.tup es))/\cR es<=60/\aZ d=true/\ak es=true/\Q (.bl (if neg then !inD d es else inD d es)) H
def aIJ(hu:X.A.units+64<cLine):OpR X (zAm .In) (aD4 X.K false):=by
 intro hV s Z H x y v u Q I rx ry h;obtain⟨A,B,d,a,es,rd,rfl,ra,hd,nd,ne,q⟩:=h;cases ry;have ok:=Inv.seqOk I;have hu1:X.A.in1.units+60<cLine:=by show X.A.units+1+60<cLine;lia
 rcases ra with ra|ra
 .cases ra with
  |lst ha _ r=>
   obtain⟨its,rv,tl⟩:=ok.lst ha;refine SeqAt.in_listAt (mK X.K H d) tl (λ w hw=>rn ok rd rx hu1 nd r rv hd ne w (by simpa using hw)) ⟨.bl _,H,I,rfl,?_⟩;rw[show its.toArray.any (mK X.K H d)=its.any (mK X.K H d)by simp,pA ok r rv ne];exact q
 .cases ra with
  |tup ha r=>
   obtain⟨its,rv,tl⟩:=ok.tup ha;refine SeqAt.in_tupleAt (mK X.K H d) tl (λ w hw=>rn ok rd rx hu1 nd r rv hd ne w (by simpa using hw)) ⟨.bl _,H,I,rfl,?_⟩;rw[show its.toArray.any (mK X.K H d)=its.any (mK X.K H d)by simp,pA ok r rv ne];exact q
def aCN(hu:X.A.units+64<cLine):OpR X (zAm .NotIn) (aD4 X.K true):=by
 intro hV s Z H x y v u Q I rx ry h;obtain⟨A,B,d,a,es,rd,rfl,ra,hd,nd,ne,q⟩:=h;cases ry;have ok:=Inv.seqOk I;have hu1:X.A.in1.units+60<cLine:=by show X.A.units+1+60<cLine;lia
 rcases ra with ra|ra
 .cases ra with
  |lst ha _ r=>
   obtain⟨its,rv,tl⟩:=ok.lst ha;refine SeqAt.notIn_listAt (mK X.K H d) tl (λ w hw=>rn ok rd rx hu1 nd r rv hd ne w (by simpa using hw)) ⟨.bl _,H,I,rfl,?_⟩;rw[show its.toArray.any (mK X.K H d)=its.any (mK X.K H d)by simp,pA ok r rv ne];exact q
 .cases ra with
  |tup ha r=>
   obtain⟨its,rv,tl⟩:=ok.tup ha;refine SeqAt.notIn_tupleAt (mK X.K H d) tl (λ w hw=>rn ok rd rx hu1 nd r rv hd ne w (by simpa using hw)) ⟨.bl _,H,I,rfl,?_⟩;rw[show its.toArray.any (mK X.K H d)=its.any (mK X.K H d)by simp,pA ok r rv ne];exact q
end
section
variable{K:zAA}
def eqR(neg:Bool):D->D->Rs D:=λ d e=>if decide (jU d<=60)&&aZ d&&aZ e then .ok (.bl (if neg then !eqD d e else eqD d e))else .st
def inR(neg:Bool):D->D->Rs D:=λ d e=>match e with
 | .lst es=>if decide (cR es<=60)&&aZ d&&ak es then .ok (.bl (if neg then !inD d es else inD d es))else .st
 | .tup es=>if decide (cR es<=60)&&aZ d&&ak es then .ok (.bl (if neg then !inD d es else inD d es))else .st
 |_=>.st
def os_eq:OpS K (aD5 K n) (eqR n):=by
 intro A x y d e H Q z rx ry ez q;unfold eqR at ez;split at ez
 .rename_i h
  simp only[zAE,decide_eq_true_eq]at h;cases ez;exact⟨A,A,d,e,rx,ry,h.1.1,h.1.2,h.2,q _ H (aO.refl H) (.bl _)⟩
 .cases ez
def aHB:OpS K (aD4 K n) (inR n):=by
 intro A x y d e H Q z rx ry ez q;unfold inR at ez;split at ez
 .split at ez
  .rename_i h
   simp only[zAE,decide_eq_true_eq]at h;cases ez;cases ry with
   |lst ha mm r=>exact⟨A,A,d,_,_,rx,rfl,.inl (.lst ha mm r),h.1.1,h.1.2,h.2,q _ H (aO.refl H) (.bl _)⟩
  .cases ez
 .split at ez
  .rename_i h
   simp only[zAE,decide_eq_true_eq]at h;cases ez;cases ry with
   |tup ha r=>exact⟨A,A,d,_,_,rx,rfl,.inr (.tup ha r),h.1.1,h.1.2,h.2,q _ H (aO.refl H) (.bl _)⟩
  .cases ez
 .cases ez
def aE3:∀x y z,eqR n x y= .ok z->imm z=true:=by
 intro x y z e;unfold eqR at e;split at e
 .cases e;rfl
 .cases e
end
section
variable{K:zAA}
def boolsOf:List D->Option (List Bool)
 |[]=>some []
 | .bl i::r=>(boolsOf r).map (i::·)
 |_=>none
theorem o8:∀{l:List D} {ns:List Bool},boolsOf l=some ns->l=ns.map .bl
 |[],ns,h=>by cases h;rfl
 | .bl i::r,ns,h=>by
  simp only[boolsOf,zCD]at h;obtain⟨ms,h1,rfl⟩:=h;rw[o8 h1];rfl
 | .non::_,_,h=>by cases h
 | .int _::_,_,h=>by cases h
 | .str _::_,_,h=>by cases h
 | .tup _::_,_,h=>by cases h
 | .lst _::_,_,h=>by cases h
 | .dct _ _::_,_,h=>by cases h
 | .set _::_,_,h=>by cases h
 | .scr _::_,_,h=>by cases h
theorem qm:∀ns:List Bool,boolsOf (ns.map .bl)=some ns
 |[]=>rfl
 |n::ns=>by simp only[zA7,boolsOf,qm ns,zC7]
theorem vZ{X:Cx}:∀{bs:List Bool} {us:List Value},Vals (bs.map V.bl) us->LSm.BoolsAre us bs
 |[],_,.nil=>.nil
 |b::bs,_,.cons r t=>by
  have e:_=zBp b:=r;subst e;exact .cons b (vZ (X:=X) t)
theorem Rps.bools_of:∀{xs:List V} {bs:List Bool},Rps K A H xs (bs.map D.bl)->xs=bs.map V.bl
 |_,[],.nil=>rfl
 |_,n::ns,.cons h r=>by
  cases h;rw[zA7,Rps.bools_of r]
def yF(f:List Bool->Bool):List D->Rs D
 |[.lst l]=>match boolsOf l with
  |some bs=>.ok (.bl (f bs))
  |none=>.st
 |_=>.st
def aEt{X:Cx}(hc:X.calm=true):dM X (.builtin "all") (λ xs H Q=>∃(p:Addr) (bs:List Bool),xs=[.ref p]/\H p=some (.lst (bs.map V.bl))/\Q (.bl (bs.all id)) H):=by
 intro hV s Z H xs us Q I r h;obtain⟨p,bs,rfl,hp,q⟩:=h;obtain⟨u,rfl,ru⟩:=vals1 r;cases ru;obtain⟨its,rv,pl,hz⟩:=I.list (SqL.of hp);have hb:=vZ (X:=X) rv;have hl:=pl.isList;have hlt:p<s.heap.objs.size:=by obtain⟨_,e,_⟩:=hl;exact zAM e
 refine call_all_walk (zDl hl ?_);refine⟨s.heap.objs.size,[s.heap.objs.size,p],[s.heap.objs.size],its.toArray.size,_,_,λ i=>(bs[i]?).getD true,rfl,zGX (A:=X.A.in1) (I.ok.hd hc) _ p (zA1 hlt) its.toArray,
  ⟨⟨_,zAR _ rfl,rfl,rfl⟩,hl.push _⟩,λ i v s' Q' E' hP hQ=>?_,λ h' tk hk=>?_⟩
 .obtain⟨b,e,rfl⟩:=hb.get i v (by simpa using hP)
  simp only[e,Option.getD_some]at hQ;exact zBY hQ
 .have e:((zAU its.toArray.size).all λ i=>(bs[i]?).getD true)=bs.all id:=by
   rw[zAS,hb.length];exact LSm.range_all bs
  rw[e];exact⟨.bl _,H,I.kept (LSm.kept_iter hk),rfl,q⟩
def aIk:pB K (λ xs H Q=>∃(p:Addr) (bs:List Bool),xs=[.ref p]/\H p=some (.lst (bs.map V.bl))/\Q (.bl (f bs)) H) (yF f):=by
 intro A xs ds H Q z r ez q;unfold yF at ez;split at ez
 .split at ez
  .rename_i l bs e
   cases ez
   have:=o8 e
   subst this;cases r with
   |cons h r=>
    cases r;cases h with
    |lst h m r=>
     have:=r.bools_of
     subst this;exact⟨_,bs,rfl,h,q _ H (aO.refl H) (.bl _)⟩
  .cases ez
 .cases ez
def aGV:∀x z,yF f x= .ok z->imm z=true:=by
 intro x z e;unfold yF at e;split at e
 .split at e
  .cases e;rfl
  .cases e
 .cases e
def mmD(f:Int->Int->Int):List D->Rs D
 |[.int i,.int j]=>.ok (.int (f i j))
 |_=>.st
def aHJ:pB K (λ xs H Q=>∃i j,xs=[.int i,.int j]/\Q (.int (f i j)) H) (mmD f):=by
 intro A xs ds H Q z r ez q;unfold mmD at ez;split at ez
 .cases ez
  cases r with
  |cons h r=>
   cases h;cases r with
   |cons h r=>
    cases h;cases r;exact⟨_,_,rfl,q _ H (aO.refl H) (.int _)⟩
 .cases ez
def aE1:∀x z,mmD f x= .ok z->imm z=true:=by
 intro x z e;unfold mmD at e;split at e
 .cases e;rfl
 .cases e
def jL:List D->Rs D
 |[.lst l]=>.ok (.tup l)
 |[.tup l]=>.ok (.tup l)
 |_=>.st
def aEo:pB K (λ xs H Q=>∃p ys,xs=[.ref p]/\((SqL K H p ys/\∀l,H l=none->Q (.ref l) (upd H l (.tup ys)))\/(SqT K H p ys/\Q (.ref p) H))) jL:=by
 intro A xs ds H Q z r ez q;unfold jL at ez;split at ez
 .cases ez
  cases r with
  |cons h r=>
   cases r;cases h with
   |lst h m r=>exact⟨_,_,rfl,.inl ⟨SqL.of h,λ l hl=>q _ _ (cJ hl _) (.tup (SqT.of bA) ((r.wk λ _ _ _ z=>.inr z.1).up (cJ hl _)))⟩⟩
 .cases ez
  cases r with
  |cons h r=>
   cases r;cases h with
   |tup h r=>exact⟨_,_,rfl,.inr ⟨h,q _ H (aO.refl H) (.tup h (r.wk λ _ _ _ z=>.inr z))⟩⟩
 .cases ez
end
section
variable{C:Ct}{pos:Pos}{m:Mode}{a e:Expr}{fe:En->Rs D}
def aEz(fd:D->D->Rs D)(i:Nat)(fe:En->Rs D):En->Ou:=λ Y=>(op2 fd (pF i) fe Y).bo λ d=>.nx (Y.set i (.sh d))
def aDE(he:SE C m e fe)(ho:∀j,PIp (C.X j) op (ipI f))(hN:∀j,(C.X j).N[i]? =some x:=by intro _;rfl)(hx:∀j,Loc (C.X j).env.scope x:=by intro _;first|exact zCg rfl|exact zBx rfl)(hf:∀j,(C.X j).fn x=true\/(C.X j).env.scope.names.lookup x=some .local:=by intro _;first|exact .inl rfl|exact .inr rfl)(nd:∀j,(C.X j).N.Nodup:=by intro _;assumption):SS C (.AugAssign (.Name x pos') op e pos) (aEz (i2 (λ _ _=>true) λ a b=>.int (f a b)) i fe):=by
 obtain⟨t,h1,h2⟩:=he;refine⟨_,λ j=>aHb (nd j) (hN j) (hx j) (h1 j) (ho j) (hf j),λ U Z H Y lab De R W=>?_⟩;have w0:=(WS.bo W).bd;refine aBB C.K C.G i U Z H Y lab (λ v H'=>t Z H' λ y H1=>ipI f v y H1 λ z H2=>De.nx (Z.set i (some z)) H2) R (w0.imp λ d _ w v H' s r=>h2 U Z H' Y lab _ (R.up s) (w.bd.imp λ e _ w y H1 s1 r1=>?_));obtain⟨z,ez,w⟩:=w.okD;unfold i2 at ez;split at ez
 .cases ez
  cases r;cases r1;exact⟨_,_,rfl,rfl,w _ _ _ (((R.up s).up s1).put (s:=.sh (.int _)) (Rp.int _))⟩
 .cases ez
end
section
variable{C:Ct}{pos p:Pos}{m m1 m2 m3:Mode}{a b c e:Expr}{fa fb fc:En->Rs D}{ga:En->Rs (List D)}
def Ct.u0(C:Ct)(i:C.ι):(C.X i).A.units<cLine:=(C.room i).units0
def Ct.u64(C:Ct)(i:C.ι):(C.X i).A.units+64<cLine:=(C.room i).units
def Ct.ltR(C:Ct)(i:C.ι):OpR (C.X i) (zAm .Lt) (λ x y H Q=>rI0 (λ i j=>.bl (decide (i<j))) x y H Q\/aF4 C.K x y H Q):=by have h:=aIF (X:=C.X i) (C.u0 i);rw[C.hK i]at h;exact h
def Ct.leR(C:Ct)(i:C.ι):OpR (C.X i) (zAm .LtE) (λ x y H Q=>rI0 (λ i j=>.bl (decide (i<=j))) x y H Q\/aF5 C.K x y H Q):=by have h:=aIH (X:=C.X i) (C.u0 i);rw[C.hK i]at h;exact h
def Ct.eqRl(C:Ct)(i:C.ι):OpR (C.X i) (zAm .Eq) (aD5 C.K false):=by have h:=aIK (X:=C.X i) (C.u64 i);rw[C.hK i]at h;exact h
def Ct.neRl(C:Ct)(i:C.ι):OpR (C.X i) (zAm .NotEq) (aD5 C.K true):=by have h:=aIC (X:=C.X i) (C.u64 i);rw[C.hK i]at h;exact h
def Ct.inRl(C:Ct)(i:C.ι):OpR (C.X i) (zAm .In) (aD4 C.K false):=by have h:=aIJ (X:=C.X i) (C.u64 i);rw[C.hK i]at h;exact h
def Ct.ninRl(C:Ct)(i:C.ι):OpR (C.X i) (zAm .NotIn) (aD4 C.K true):=by have h:=aCN (X:=C.X i) (C.u64 i);rw[C.hK i]at h;exact h
def Ct.aJs(C:Ct)(i:C.ι):OpR (C.X i) (zB3 .Add) (aD7 C.K):=by have h:=aFp (X:=C.X i);rw[C.hK i]at h;exact h
def jN:D->D->Rs D:=i2 (λ _ _=>true) λ i j=>.int (i-j)
def qR:D->D->Rs D:=i2 (λ _ j=>decide (0<j)&&decide (j<1073741824)) λ i j=>.int (i / j)
def pY:D->D->Rs D:=i2 (λ _ j=>decide (0<j)) λ i j=>.int (i%j)
def aHc:D->D->Rs D:=i2 (λ i j=>decide (0<=j)&&decide (j<=1000000)&&decide (i.natAbs<2^64)) λ i j=>.int (i^j.toNat)
def fG(ha:SE C m1 a fa)(hb:SE C m2 b fb):SE C (jn m1 m2) (.BinOp a .Add b pos) (op2 cU fa fb):=mR C.aJs aHv ha hb
def pK(ha:SE C m1 a fa)(hb:SE C m2 b fb):SE C (jn m1 m2) (.BinOp a .Mult b pos) (op2 j0 fa fb):=mR (λ _=>aFl) aHu ha hb
def pJ(ha:SE C m1 a fa)(hb:SE C m2 b fb):SE C (some []) (.BinOp a .Sub b pos) (op2 jN fa fb):=cO (mR (λ _=>aHx) wZ ha hb) λ _ _ h=>fB lN h
def aBI(ha:SE C m1 a fa)(hb:SE C m2 b fb):SE C (some []) (.BinOp a .FloorDiv b pos) (op2 qR fa fb):=cO (mR (λ _=>aFm) (tD λ i j h=>by simpa[aKB]using h) ha hb) λ _ _ h=>fB lN h
def pL(ha:SE C m1 a fa)(hb:SE C m2 b fb):SE C (some []) (.BinOp a .Mod b pos) (op2 pY fa fb):=cO (mR (λ _=>aIE) (tD λ i j h=>by simpa using h) ha hb) λ _ _ h=>fB lN h
def aHX(ha:SE C m1 a fa)(hb:SE C m2 b fb):SE C (some []) (.BinOp a .Pow b pos) (op2 aHc fa fb):=cO (mR (λ _=>aIB) (tD λ i j h=>by simp only[zAE,decide_eq_true_eq]at h;exact⟨h.1.1,h.1.2,h.2⟩) ha hb) λ _ _ h=>fB lN h
def aDR(ha:SE C m a fa):SE C (some []) (.UnaryOp .USub a pos) (op1 yw fa):=cO (aJT (λ _=>aHM) aHL ha) λ _ _ h=>aGR aGS h
def aJV(ha:SE C m1 a fa)(hb:SE C m2 b fb):SE C (some []) (.Compare a [.Lt] [b] pos) (op2 ltD fa fb):=cO (aAL C.ltR aDs ha hb) λ _ _ h=>fB aE2 h
def aGp(ha:SE C m1 a fa)(hb:SE C m2 b fb):SE C (some []) (.Compare a [.Eq] [b] pos) (op2 (eqR false) fa fb):=cO (aAL C.eqRl os_eq ha hb) λ _ _ h=>fB aE3 h
def aJU(ha:SE C m1 a fa)(hb:SE C m2 b fb):SE C (some []) (.Compare a [.NotEq] [b] pos) (op2 (eqR true) fa fb):=cO (aAL C.neRl os_eq ha hb) λ _ _ h=>fB aE3 h
def aDB(ha:SE C m1 a fa)(hb:SE C m2 b fb):ST C (.Compare a [.Lt] [b] pos) (tsb (op2 ltD fa fb)):=nA C.ltR aDs ha hb
def aJP(ha:SE C m1 a fa)(hb:SE C m2 b fb):ST C (.Compare a [.Gt] [b] pos) (tsb (op2 gtD fa fb)):=nA (λ _=>aJ7) w5 ha hb
def aJQ(ha:SE C m1 a fa)(hb:SE C m2 b fb):ST C (.Compare a [.GtE] [b] pos) (tsb (op2 geD fa fb)):=nA (λ _=>aJ8) w5 ha hb
def aDC(ha:SE C m1 a fa)(hb:SE C m2 b fb):ST C (.Compare a [.Eq] [b] pos) (tsb (op2 (eqR false) fa fb)):=nA C.eqRl os_eq ha hb
def yN(ha:SE C m1 a fa)(hb:SE C m2 b fb):ST C (.Compare a [.NotEq] [b] pos) (tsb (op2 (eqR true) fa fb)):=nA C.neRl os_eq ha hb
def aGo(ha:SE C m1 a fa)(hb:SE C m2 b fb)(hm:zBb .In b=false:=by with_unfolding_all rfl):ST C (.Compare a [.In] [b] pos) (tsb (op2 (inR false) fa fb)):=nA C.inRl aHB ha hb hm
def aDA(ha:SE C m1 a fa)(hb:SE C m2 b fb)(hm:zBb .NotIn b=false:=by with_unfolding_all rfl):ST C (.Compare a [.NotIn] [b] pos) (tsb (op2 (inR true) fa fb)):=nA C.ninRl aHB ha hb hm
def aFZ(ha:SE C m1 a fa)(hb:SE C m2 b fb)(hc:SE C m3 c fc)(hm:zHD [.LtE,.LtE] [b,c]=false:=by with_unfolding_all rfl):SE C (some []) (.Compare a [.LtE,.LtE] [b,c] pos) (chD leD leD fa fb fc):=yS C.leR aDt C.leR aDt aIa ha hb hc hm
def aFY(ha:SE C m1 a fa)(hb:SE C m2 b fb)(hc:SE C m3 c fc)(hm:zHD [.LtE,.Lt] [b,c]=false:=by with_unfolding_all rfl):SE C (some []) (.Compare a [.LtE,.Lt] [b,c] pos) (chD leD ltD fa fb fc):=yS C.leR aDt C.ltR aDs aE2 ha hb hc hm
def aR(ha:SE C m1 a fa)(hb:SE C m2 b fb)(hp:yG b:=by exact λ _ _=>rfl):SE C m1 (.Subscript a b pos) (op2 ixD fa fb):=by
 obtain⟨t,h1,h2⟩:=ha;obtain⟨u,k1,k2⟩:=hb;refine⟨tOp (rIx C.K) t u,λ i=>by rw[<-C.hK i];exact aDl aI5 (h1 i) (k1 i) hp,λ U Z H Y lab Q R W=>?_⟩;refine h2 U Z H Y lab _ R (W.bd.imp λ d _ w x H1 s1 r1=>?_);refine k2 U Z H1 Y lab _ (R.up s1) (w.bd.imp λ e _ w y H2 s2 r2=>?_);obtain⟨z,ez,w⟩:=w.okD;have hi:imm e=true:=by
  unfold ixD at ez;split at ez<;>first|rfl|cases ez
 refine aJ3 (fpM m1 lab H) x y d e H2 Q z (r1.up s2) (r2.imm hi) ez λ v H' s r=>w v H' ((s1.trans s2).trans s) (r.wk λ p o _ q=>?_)
 rcases q with q|q
 .exact .inl ((s1.trans s2).free q)
 .exact q
def jk(hm:C.mg "len"=none)(ha:SA C m [a] ga)(he:∀i,zAT [a] (C.X i).env=[(false,eval a (C.X i).env)]:=by intro _;rfl)(hg:∀i,Gl (C.X i) "len":=by intro _;rfl):SE C (some []) (.Call (.Name "len" p) [a] [] pos) (opA il ga):=
 cO (iB (λ i=>by have h:=xu (X:=C.X i);rw[C.hK i]at h;exact h) aIj hg hm PySem.boot_len ha (by decide) (by decide) he) λ _ _ h=>jt aGU h
def aH1(hm:C.mg "all"=none)(ha:SA C m [a] ga)(he:∀i,zAT [a] (C.X i).env=[(false,eval a (C.X i).env)]:=by intro _;rfl)(hg:∀i,Gl (C.X i) "all":=by intro _;rfl)(hv:zAr "all"=some (.builtin "all"):=by decide+kernel):SE C (some []) (.Call (.Name "all" p) [a] [] pos) (opA (yF λ bs=>bs.all id) ga):=
 cO (iB (λ i=>aEt (C.calm i)) aIk hg hm hv ha (by decide) (by decide) he) λ _ _ h=>jt aGV h
def aBG(hm:C.mg "min"=none)(ha:SA C m [a,b] ga)(he:∀i,zAT [a,b] (C.X i).env=(false,eval a (C.X i).env)::zAT [b] (C.X i).env:=by intro _;rfl)(hpl:∀i,(zCY pos (zAT [b] (C.X i).env)).any (·.1)=false:=by intro _;rfl)(hg:∀i,Gl (C.X i) "min":=by intro _;rfl)(hv:zAr "min"=some (.builtin "min"):=by decide+kernel):SE C (some []) (.Call (.Name "min" p) [a,b] [] pos) (opA (mmD λ i j=>if j<i then j else i) ga):=
 cO (iB (λ i=>aCe (C.calm i)) aHJ hg hm hv ha (by decide) (by decide) he hpl) λ _ _ h=>jt aE1 h
def aFX(hm:C.mg "max"=none)(ha:SA C m [a,b] ga)(he:∀i,zAT [a,b] (C.X i).env=(false,eval a (C.X i).env)::zAT [b] (C.X i).env:=by intro _;rfl)(hpl:∀i,(zCY pos (zAT [b] (C.X i).env)).any (·.1)=false:=by intro _;rfl)(hg:∀i,Gl (C.X i) "max":=by intro _;rfl)(hv:zAr "max"=some (.builtin "max"):=by decide+kernel):SE C (some []) (.Call (.Name "max" p) [a,b] [] pos) (opA (mmD λ i j=>if j>i then j else i) ga):=
 cO (iB (λ i=>aCg (C.calm i)) aHJ hg hm hv ha (by decide) (by decide) he hpl) λ _ _ h=>jt aE1 h
def oK(hm:C.mg "tuple"=none)(ha:SA C m [a] ga)(he:∀i,zAT [a] (C.X i).env=[(false,eval a (C.X i).env)]:=by intro _;rfl)(hg:∀i,Gl (C.X i) "tuple":=by intro _;rfl)(hv:zAr "tuple"=some (.type "tuple"):=by decide+kernel):SE C m (.Call (.Name "tuple" p) [a] [] pos) (opA jL ga):=
 aDS (λ i=>by have h:=uh (X:=C.X i);rw[C.hK i]at h;exact h) aEo hg hm hv ha (by decide) (by decide) he
def aH2{K:zAA}{a:Addr}(hO:Only H)(h:SqL K H a (ns.map V.int)):mj K H a ns:=by
 rcases h with (h|⟨o,h⟩)|h
 .rcases hO a with z|⟨o,xs,z⟩
  .rw[h]at z;cases z
  .rw[h]at z;cases z
 .exact .inl ⟨o,h⟩
 .exact .inr h
end
section
variable{K:zAA}
theorem mF:∀{ns:List Int} {us:List Value},Vals (ns.map V.int) us->∃ts:List (Int×Tok),us=ts.map (λ q=>zBq q.1 q.2)/\ts.map zF7=ns
 |[],_,.nil=>⟨[],rfl,rfl⟩
 |n::ns,_,.cons r t=>by
  obtain⟨tk,e⟩:∃tk,_=zBq n tk:=r
  obtain⟨ts,e1,e2⟩:=mF t;subst e;exact⟨(n,tk)::ts,by rw[e1];rfl,by rw[<-e2];rfl⟩
def aCa(hc:X.calm=true):dM X (.builtin "sum") (λ xs H Q=>∃(p:Addr) (ns:List Int),xs=[.ref p]/\H p=some (.lst (ns.map V.int))/\Q (.int ns.sum) H):=by
 intro hV s Z H xs us Q I r h;obtain⟨p,ns,rfl,hp,q⟩:=h;obtain⟨u,rfl,ru⟩:=vals1 r;cases ru;obtain⟨its,rv,pl,hz⟩:=I.list (SqL.of hp);obtain⟨ts,rfl,rfl⟩:=mF rv;refine sum_intListG (xs:=ts.toArray) (I.ok.hd hc) (by have:=pl.isList;simpa[intItems]using this) λ h' tk t' hk=>?_
 refine⟨.int (ts.map zF7).sum,H,I.kept hk,⟨t',?_⟩,q⟩;rw[preSum_eq,zFc (by simp)]
def aCf(hc:X.calm=true):dM X (.builtin "max") (λ xs H Q=>∃(p:Addr) (ns:List Int) (m:Int),xs=[.ref p]/\H p=some (.lst (ns.map V.int))/\ns.max?=some m/\Q (.int m) H):=by
 intro hV s Z H xs us Q I r h;obtain⟨p,ns,m,rfl,hp,hm,q⟩:=h;obtain⟨u,rfl,ru⟩:=vals1 r;cases ru;obtain⟨its,rv,pl,hz⟩:=I.list (SqL.of hp);obtain⟨ts,rfl,rfl⟩:=mF rv;have hsz:0<ts.toArray.size:=by
  cases ts with
  |nil=>cases hm
  |cons a b=>simp
 refine max_intList (xs:=ts.toArray) (I.ok.hd hc) (by have:=pl.isList;simpa[intItems]using this) hsz λ v h' tk hv hk=>?_
 obtain⟨t,rfl⟩:=intItems_at hv;obtain⟨h1,h2⟩:=argBest_gt (numAt ts.toArray) (ts.toArray.size-1);have hM:(ts.map zF7).max?=some (numAt ts.toArray (zBy (λ i j=>decide (numAt ts.toArray i>numAt ts.toArray j)) (ts.toArray.size-1))):=by
  rw[List.max?_eq_some_iff];refine⟨?_,λ a ha=>?_⟩
  .rw[numAt_eq];exact getD_mem (by rw[zAF];simp at h1 hsz ⊢;omega)
  .obtain⟨j,hj,rfl⟩:=mem_getD ha
   have:=h2 j (by rw[zAF]at hj;simp;omega)
   rw[numAt_eq]at this;exact this
 rw[hm]at hM;injection hM with hM
 exact⟨.int m,H,I.kept hk,⟨t,by rw[hM]⟩,q⟩
def jZ(f:List Int->Option Int):List D->Rs D
 |[.lst l]=>match intsOf l with
  |some ns=>match f ns with
   |some m=>.ok (.int m)
   |none=>.st
  |none=>.st
 |_=>.st
def aBi:pB K (λ xs H Q=>∃(p:Addr) (ns:List Int) (m:Int),xs=[.ref p]/\H p=some (.lst (ns.map V.int))/\f ns=some m/\Q (.int m) H) (jZ f):=by
 intro A xs ds H Q z r ez q;unfold jZ at ez;split at ez
 .split at ez
  .rename_i l ns e
   split at ez
   .rename_i m em
    cases ez
    have:=gF e
    subst this;cases r with
    |cons h r=>
     cases r;cases h with
     |lst h _ r=>
      have:=r.ints_of
      subst this;exact⟨_,ns,m,rfl,h,em,q _ H (aO.refl H) (.int _)⟩
   .cases ez
  .cases ez
 .cases ez
def zW:∀x z,jZ f x= .ok z->imm z=true:=by
 intro x z e;unfold jZ at e;split at e
 .split at e
  .split at e
   .cases e;rfl
   .cases e
  .cases e
 .cases e
end
section
variable{C:Ct}{pos p:Pos}{a:Expr}{ga:En->Rs (List D)}{m:Mode}
def aFV(hm:C.mg "sum"=none)(ha:SA C m [a] ga)(he:∀i,zAT [a] (C.X i).env=[(false,eval a (C.X i).env)]:=by intro _;rfl)(hg:∀i,Gl (C.X i) "sum":=by intro _;rfl)(hv:zAr "sum"=some (.builtin "sum"):=by decide+kernel):SE C (some []) (.Call (.Name "sum" p) [a] [] pos) (opA (jZ λ ns=>some ns.sum) ga):=
 cO (iB (λ i=>(aCa (C.calm i)).weaken λ xs H Q ⟨p,ns,m,e1,e2,e3,q⟩=>⟨p,ns,e1,e2,by cases e3;exact q⟩) aBi hg hm hv ha (by decide) (by decide) he) λ _ _ h=>jt zW h
def aFW(hm:C.mg "max"=none)(ha:SA C m [a] ga)(he:∀i,zAT [a] (C.X i).env=[(false,eval a (C.X i).env)]:=by intro _;rfl)(hg:∀i,Gl (C.X i) "max":=by intro _;rfl)(hv:zAr "max"=some (.builtin "max"):=by decide+kernel):SE C (some []) (.Call (.Name "max" p) [a] [] pos) (opA (jZ zFm) ga):=
 cO (iB (λ i=>aCf (C.calm i)) aBi hg hm hv ha (by decide) (by decide) he) λ _ _ h=>jt zW h
end
abbrev ctL(P:zAP)(w:World)(K:zAA)(mg:Str->Option Value)(base:Heap)(N:List Str)(q:Str)(sc:Scope)(cl:List (Str×Addr))(f:Addr)(cdv:Value)(A:zAZ)(outer:List Env)(s:zAB)(H:Hp)(E:XK)(k:Nat)(hr:dJ k (A.deeper (zC0 q sc s.heap.objs.size f cdv cl))):Ct where
 ι:=Unit
 X:=λ _=>cxL P w K mg base N q sc cl f cdv A outer s H E
 prog:=P
 w:=w
 K:=K
 mg:=mg
 base:=base
 k:=k
 G:=⟨H,E,aa mg⟩
 cx:=λ _=>⟨rfl,rfl,rfl,rfl,rfl⟩
 calm:=λ _=>rfl
 room:=λ _=>hr
 own:=λ _=>cT.own cT.ofL
 pass:=λ _=>cT.pass cT.ofL
 dOk:=true
 dcx:=λ _ _=>cT.ofL
def shS:Slot->Slot
 | .no=>.no
 | .sh d=>.sh d
 | .nw d=>.sh d
 | .ow d=>.sh d
 | .oz d=>.sh d
 | .o2 l=>.sh (.lst (l.map .lst))
def dU.shut{K:zAA}{H:Hp}{lab:Lab}{i:Nat}{v:V}{x:Slot}(h:dU K H lab i v x):dU K H (λ _=>(0,0)) i v (shS x):=by
 cases x with
 |no=>exact trivial
 |sh d=>exact Rp.wk (λ _ _ _ _=>zAg _) h
 |nw d=>exact Rp.wk (λ _ _ _ _=>zAg _) h
 |ow d=>exact Rp.wk (λ _ _ _ _=>zAg _) h.1
 |oz d=>
  obtain⟨a,xs,ds,rfl,rfl,e3,e4,e5⟩:=h;exact .lst e3 (zAg _) (Rps.wk (λ p o e z=>⟨zAg _,λ ep=>by
   have z':(lab p).1<=1:=z;rw[ep,e4]at z';omega⟩) e5)
 |o2 l=>exact Rp.wk (λ _ _ _ _=>zAg _) (aBX h)
theorem RR.shut{K:zAA}{G:Gx}{U:List (V×D)}{Y:En}{Z:L2.St}{H:Hp}{lab:Lab}{E:XK}{cl:Str->Addr}(R:RR K G U Y Z H lab):RR K ⟨H,E,cl⟩ [] (Y.map shS) Z H (λ _=>(0,0)):=by
 refine⟨by rw[zAF];exact R.len,λ i s e=>?_,aO.refl H,λ p hp=>absurd rfl hp,λ q hq=>by cases hq⟩;rw[zAL]at e;cases hr:Y[i]? with
 |none=>rw[hr]at e;cases e
 |some x=>
  rw[hr]at e;cases e;rcases R.sl i x hr with z|⟨v,e1,e2⟩
  .subst z;exact .inl rfl
  .exact .inr ⟨v,e1,e2.shut⟩
def aJS(cl:Str->Addr)(H1:Hp)(r:Rs D):Sp:=λ vs H Q E=>vs=[]/\aO H1 H/\WR ⟨H,E,cl⟩ r (λ _=>∀v H',aO H H'->Q v H')
def aCD(wn:Str->Option Str)(told:Str)(fe:En->Rs D):En->Rs D:=λ Y=>match fe (Y.map shS)with
 | .ok _=>.ok (.str told)
 | .ex c=>(match wn c with
  |some w=>.ok (.str w)
  |none=>.st)
 | .st=>.st
def aJJ(P:zAP)(w:World)(K:zAA)(mg:Str->Option Value)(N:List Str)(q:Str)(params:zCn)(body:Expr)(scope:Scope)(k0:Nat)(told:Str)(wd:Addr->Option Str)(E:XK):TE:=λ Z H Q=>
 ∀(base:Heap) (cl:List (Str×Addr)) (f c':Addr) (ctv pm:Value) (H1:Hp),aO H H1->zu q params body scope cl pm H1 f c' ctv->aFJ base N Z scope cl->spR P w K mg base k0 told wd [.ref f] H1 Q E
section
variable{C:Ct}{m:Mode}{x pc told q:Str}{p pos lpos:Pos}{k k0 kb:Nat}{fn:Addr}{fd:zAe}{wd:Addr->Option Str}{wn:Str->Option Str}{params:zCn}{body:Expr}{scope:Scope}{N:List Str}{fe:En->Rs D}
def aDQ(hF:∀base,cV C.prog C.w C.K C.mg base (CX1 C.prog C.w) k fn fd [pc] (spR C.prog C.w C.K C.mg base k0 told wd))(hr:k<=C.k)(hm:C.mg x=some (.ref fn))(hk:zBR C.K (.ref fn)=true)(hb:Binds C.K fd [pc] [])
  (hL:∀i,(∃P,qu (C.X i) P)/\(C.X i).outer=[]/\(C.X i).N=N/\(C.X i).tq=q)(S:uT scope)(hcl:C.G.cl=aa C.mg)(hwn:∀c w,wn c=some w->wd (aa C.mg c)=some w)(hkb:kb+1<=k0)
  (hbody:∀base cl f cd A outer s H E hr,SE (ctL C.prog C.w C.K C.mg base N q scope cl f cd A outer s H E kb hr) m body fe)
  (hbnd:∀cl pm c' ctv,zHZ (zEq "<lambda>" q params body scope cl pm (.ref c') ctv) ⟨[],[]⟩=pure []:=by intro _ _ _ _;rfl)(hdef:∀i,zHj params (C.X i).env=([],[]):=by intro _;rfl)
  (hfree:∀i,∀y∈scope.names,y.2= .free->(C.X i).env.kindOf y.1=some .cell\/(C.X i).env.kindOf y.1=some .free)(hdb:Nd x:=by decide)(hg:∀i,Gl (C.X i) x:=by intro _;rfl):
  SE C (some []) (.Call (.Name x p) [.Lambda params body scope lpos] [] pos) (aCD wn told fe):=by
 refine⟨aJJ C.prog C.w C.K C.mg N q params body scope k0 told wd C.G.E,λ i=>?_,λ U Z H Y lab Q R W=>?_⟩
 .obtain⟨e1,e2,e3,e4,e5⟩:=C.cx i
  obtain⟨⟨P,Lx⟩,ho,eN,eq⟩:=hL i;intro hV s Z H Q I h;refine zCS (mD I (hg i) (by rw[e4];exact hm) ?_ hdb);have ha:PA (C.X i) [.Lambda params body scope lpos] _:=aW (aHm Lx (hdef i) (hfree i)) cM;refine zEF (h₀:=(C.X i).base) I.ok.mod.kin (by rw[e3];exact hk) (thn (ha pos hV s Z H (λ vs H1=>aO H H1/\∃f c' ctv,vs=[.ref f]/\zu (C.X i).tq params body scope (L2.aa scope (C.X i).env) (((C.X i).mg "__name__").getD .none) H1 f c' ctv) I
   (λ f c' ctv H' sm l=>⟨sm,f,c',ctv,rfl,l⟩)) λ us s1 ⟨vs,H1,I1,r,sm,f,c',ctv,ev,la⟩=>⟨I1.kIn,?_⟩)
  subst ev;have hz:=h (bse (C.X i) s1 H1) (L2.aa scope (C.X i).env) f c' ctv _ H1 sm (by rw[<-eq];exact la) (by rw[<-eN];exact aIm I1 ho S (hfree i));exact aF1 (CX:=CX1 (C.X i).prog (C.X i).w) I1 (by rw[e1,e2,e3,e4];exact hF _) ((C.room i).mono hr) (by rw[e3];exact hb) (C.pass i) r (by rw[e1,e2,e3,e4]at*;exact hz)
 .intro base cl f c' ctv pm H1 sm la cp
  have R1:=R.up sm;have FL:cV C.prog C.w C.K C.mg base (CX1 C.prog C.w) (kb+1) f (zEq "<lambda>" q params body scope cl pm (.ref c') ctv) [] (aJS (aa C.mg) H1 (fe (Y.map shS))):=by
   refine aIX la S cp (λ vs H Q E h=>⟨h.1,h.2.1⟩) λ A outer s H2 Q2 E2 hr2 hsp=>?_
   obtain⟨t,h1,h2⟩:=hbody base cl f (.ref c') A outer s H2 E2 hr2;exact⟨t,h1 (),h2 [] Z H2 _ _ Q2 (R1.up hsp.2.1).shut (hsp.2.2.imp λ d _ z v H' s' _=>z v H' s')⟩
  refine⟨f,_,_,_,_,kb+1,_,rfl,la.1,FL,hkb,λ s us _ hl=>?_,rfl,aO.refl H1,?_⟩
  .have e:us=[]:=by
    rw[zBF]at hl;exact zF5.mp hl
   subst e;exact .of_eq (hbnd cl pm c' ctv)
  .unfold aCD at W
   cases he:fe (Y.map shS)with
   |ok d=>rw[he]at W;exact λ v H' s'=>W (.str told) H' (sm.trans s') (.str told)
   |ex c=>
    rw[he]at W;cases hw:wn c with
    |none=>simp only[hw]at W;exact W.elim
    |some w=>
     simp only[hw]at W;exact λ H' s'=>⟨_,w,rfl,hwn c w hw,λ H'' s''=>W (.str w) H'' (sm.trans (s'.trans s'')) (.str w)⟩
   |st=>rw[he]at W;exact W.elim
end
end VL
namespace L2
open PySem PySem.Spec PyProof.Rows
def cxW(P:zAP)(w:World)(K:zAA)(mg:Str->Option Value)(base:Heap)(N:List Str)(qual:Str)(scope:Scope)(f:Addr)(cd:Value)(A:zAZ)(s:zAB)(H:Hp)(Pt:Addr):Cx where
 prog:=P
 w:=w
 K:=K
 mg:=mg
 base:=base
 A:=A.deeper (zC9 qual scope s.heap.objs.size f cd)
 N:=N
 z5:=s
 zI:=H
 env:=zC9 qual scope s.heap.objs.size f cd
 outer:=[]
 stack:=[zC9 qual scope s.heap.objs.size f cd]
 ex:=[Pt]
 calm:=true
 fn:=λ _=>true
 pn:=[]
 xe:=λ _ _=>False
 ta:=[(Pt,zBv #[])]
 tq:=qual++".<locals>."++"<lambda>"
section
variable{P:zAP}{w:World}{K:zAA}{mg:Str->Option Value}{base:Heap}{N ps:List Str}{qual:Str}{scope:Scope}{f Pt:Addr}{cd:Value}{A:zAZ}{s s1:zAB}{H:Hp}{vs:List V}{us:List Value}
def aAl(S:aY N ps scope)(hd:A.handled=none)(e0:zz P w K mg base A [] s H)(hl:vs.length=ps.length)(r:Vals vs us)
  (hP:s.heap.get? Pt=some (zBv #[]))(hH:H Pt=none)(hb:base.get? Pt=none)
  (x:InCallC s s.heap.objs.size (bindL (zC9 qual scope s.heap.objs.size f cd).kindOf (ps.zip us) λ _=>none) (zC8 (s.heap.objs.size+1) scope.names []) (bindC (zC9 qual scope s.heap.objs.size f cd).kindOf (ps.zip us) λ _=>none) s1):
  Inv (cxW P w K mg base N qual scope f cd A s H Pt) [] (start N vs) H s1:=by
 have I:Inv (rB (CX1 P w) P w K mg base N qual scope f cd A [] s H λ _ _ _=>False) [] (start N vs) H s1:=qD S hd e0 hl r x;obtain⟨h1,tk,e1,hk⟩:=x.done;have hlt:=zAM hP;have hne:∀b∈[Pt],b≠s.heap.objs.size:=λ b hb z=>by
  have e:b=Pt:=by simpa using hb
  rw[e]at z;exact absurd hlt (by rw[z];exact zBV _)
 refine⟨⟨I.ok.mod,I.ok.kind,I.ok.glob,I.ok.blt,I.ok.above,I.ok.inj,I.ok.has,I.ok.cab,I.ok.hd,I.ok.frames,I.ok.stk,λ b hb2=>⟨hne b hb2,λ y c e z=>?_⟩,I.ok.bs,I.ok.bsz,λ b o e hb'=>?_,λ b _=>λ z=>(nomatch z),I.ok.funs,I.ok.frf⟩,
  I.os,I.bare,I.base.mono (λ b z=>z) (λ b z=>(nomatch z)),I.loc,I.cell,I.free,I.freeC,I.pin,I.hok,I.len,λ p hp=>?_⟩
 .have q:s.heap.objs.size<=c:=I.ok.cab y c rfl e
  have e2:b=Pt:=by simpa using(show b∈[Pt]from hb2)
  rw[z,e2]at q;exact absurd hlt (zF6.mpr q)
 .have e2:b=Pt:=by simpa using(show b∈[Pt]from hb')
  have e3:base.get? b=some o:=e;rw[e2,hb]at e3;cases e3
 .have e2:p=(Pt,zBv #[]):=by simpa using(show p∈[(Pt,zBv #[])]from hp)
  subst e2;refine⟨hH,hne Pt zAI,λ z=>(nomatch z),λ q hq=>(nomatch hq),#[],?_,trivial,λ pos cv e=>nomatch e⟩;subst e1;exact hk _ _ hP
end
def aCZ{P:zAP}{w:World}{K:zAA}{mg mb:Str->Option Value}{k:Nat}{fa a c Pt:Addr}{x:Str}{zS:zAB}{vs:List Value}{ns:List Int}{N:List Str}{oc doc pm ct dV kV:Value}{od:Option Addr}{osl:Array (Option Value)}{name qual:Str}{params:zCn}{body:List Stmt}{scope:Scope}{an:Option Addr}
  (KX:K.In zS.heap)(hns:zS.heap.Ns zAV mg)(hb:zS.heap.Ns zHi mb)(hbb:∀x:Str,x≠"__name__"->mb x=zAr x)(bS:zS.heap.NoLimit)(hg:zS.gens=#[])
  (ha:zS.heap.get? a=some {cls:=.type "list",data:=.seq vs.toArray})(hi:zBO vs ns)(hl:ns.length<=zAY)(hr:dJ (k+1) zCO)
  (hP:zS.heap.get? Pt=some (zBv #[]))(hKP:K.lookup Pt=none)(hC:zD6 K c Pt=true)(hbl:zS.heap.BuiltinsAt mg Pt)
  (lk:K.lookup fa=some ⟨oc,od,.func (zBU name qual params body scope dV kV doc pm an (.ref c) ct),osl⟩)(hcd:zCh K (.ref c) qual=true)(S:aY N [x] scope)
  (hbind:∀(s:zAB) (u:Value),zGP s (zBU name qual params body scope dV kV doc pm an (.ref c) ct) ⟨[u],[]⟩ [(x,u)])
  (hbody:∀(base:Heap) (s:zAB) (H:Hp),dJ k (zCO.deeper (zC9 qual scope s.heap.objs.size fa (.ref c)))->qu (cxW P w K mg base N qual scope fa (.ref c) zCO s H Pt) Pt->Only H->SqL K H a (ns.map V.int)->
   ∃t,PSs (cxW P w K mg base N qual scope fa (.ref c) zCO s H Pt) body t/\t {nx:=λ _ _=>False,rt:=λ v _=>v= .bl true} (start N [.ref a]) H):
  zCP (model P w) zCO (.call (.ref fa) ⟨[.ref a],[]⟩) (λ r s'=>r= .ok (.ret (.bool true))/\OldK zS.heap s'.heap/\s'.os=zS.os/\zEK s'.gens) zS:=by
 have rv:=uo hi;have lenV:=hi.length;have aP:a≠Pt:=λ z=>by
  rw[z,hP]at ha;have e2:=congrArg Obj.cls (zA8 ha);cases e2
 have core:∀H:Hp,Only H->SqL K H a (ns.map V.int)->HOk P w H zS.heap->(∀b,H b≠none->b=a)->(H a≠none->K.lookup a=none)->
   zCP (model P w) zCO (.call (.ref fa) ⟨[.ref a],[]⟩) (λ r s'=>r= .ok (.ret (.bool true))/\OldK zS.heap s'.heap/\s'.os=zS.os/\zEK s'.gens) zS:=by
  intro H hO hS hok hA hK;have hPn:H Pt=none:=by
   cases q:H Pt with
   |none=>rfl
   |some u=>exact absurd (hA Pt (by rw[q];simp)).symm aP
  let B:=zB6 (aE8 zS.heap H) [Pt];have base_of:∀{b:Addr} {o:Obj},zS.heap.get? b=some o->H b=none->b≠Pt->B.get? b=some o:=λ e n ne=>zBs _ (aE7 e n) (by simpa using ne)
  have noA:∀{b:Addr} {o:Obj} {es:Array DictEntry} {ep:Nat},zS.heap.get? b=some o->o.data= .dict es ep->H b=none/\b≠Pt:=λ{b o es ep} e d=>by
   refine⟨?_,λ z=>?_⟩
   .cases q:H b with
    |none=>rfl
    |some u=>
     have e':b=a:=hA b (by rw[q];simp);subst e';rw[ha]at e;cases e;have d':Data.seq vs.toArray _=Data.dict es ep:=d;cases d'
   .rw[z,hP]at e
    cases e;cases d
  have nsK:∀{b:Addr} {m:Str->Option Value},zS.heap.Ns b m->B.Ns b m:=λ{b m} ⟨o,es,ep,e,d,r⟩=>⟨o,es,ep,base_of e (noA e d).1 (noA e d).2,d,r⟩
  have hKb:K.In B:=λ b o e=>base_of (KX b o e) (by
   cases q:H b with
   |none=>rfl
   |some u=>
    have e':b=a:=hA b (by rw[q];simp);subst e';rw[hK (by rw[q];simp)]at e;cases e) (λ z=>by rw[z,hKP]at e;cases e)
  have hM:Mod K mg B:=⟨hKb,nsK hns,⟨mb,nsK hb,hbb⟩,let⟨mc,h1,h2⟩:=bS;⟨mc,nsK h1,h2⟩⟩;have e0:zz P w K mg B zCO [] zS H:=⟨rfl,hM,λ b o e=>aFs (zDN _ e),zFv ((zDk _ _).trans (aC6 _ _)),trivial,λ b hb=>absurd (show b∈([]:List Addr)from hb) (by simp),hok,.of_eq hg⟩;have gP:zAV≠Pt:=by
   obtain⟨o,es,ep,e,d,_⟩:=hns;exact(noA e d).2
  have hLx:qu (cxW P w K mg B N qual scope fa (.ref c) zCO zS H Pt) Pt:=by
   refine⟨⟨_,rfl⟩,zAI,rfl,⟨c,rfl,zFd hKb hC⟩,?_,gP⟩;obtain⟨bm,o,b1,b2,b3,b4,b5,b6,b7,b8⟩:=hbl;refine⟨bm,o,b1,b2,b3,b4,base_of b5 ?_ b4,b6,b7,b8⟩;cases q:H bm with
   |none=>rfl
   |some u=>
    have e':bm=a:=hA bm (by rw[q];simp);rw[e',ha]at b5;cases b5;cases b8
  have bP:∀y∈[x].zip [zB0 a],scope.names.lookup y.1=some .local\/(scope.names.lookup y.1=some .cell/\((zC8 (zS.heap.objs.size+1) scope.names []).lookup y.1).isSome=true):=λ⟨n,v⟩ hy=>by
   rcases S.par n (zDL hy).1 with q|q
   .exact .inl q
   .exact .inr ⟨q,zCc _ _ _ (.inl q)⟩
  refine zEP hr.depth (KX _ _ lk) rfl S.co S.gen rfl (zEG KX hcd) (hbind zS (.ref a) _ _ _ _ ?_);refine zDb S.kind bP λ env he s1 x'=>?_
  subst he;refine⟨bS.keeps x'.toInCall.keep,zHB ?_⟩;obtain⟨t,ht,hq⟩:=hbody B zS H (hr.deeper _) hLx hO hS;have I:Inv (cxW P w K mg B N qual scope fa (.ref c) zCO zS H Pt) [] (start N [.ref a]) H s1:=aAl (ps:=[x]) (us:=[.ref a]) S hr.hd e0 rfl (.cons rfl .nil) hP hPn (zDj _ zAI) x';refine zB4 (ht [] s1 (start N [.ref a]) H _ I hq) (λ fl s' hs=>?_) λ e s' hs=>hs.elim
  cases fl with
  |next=>obtain⟨_,_,_,q⟩:=hs;exact q.elim
  |brk=>obtain⟨_,_,_,q⟩:=hs;exact q.elim
  |cont=>obtain⟨_,_,_,q⟩:=hs;exact q.elim
  |ret u=>
   obtain⟨v,Z',H',J,rv',q⟩:=hs;have q':v= .bl true:=q;subst q';obtain rfl:u=zBp true:=rv';obtain⟨_,_,_,_,ps,hps,_⟩:=J.tab (Pt,zBv #[]) zAI;have all:∀b o,zS.heap.get? b=some o->b≠Pt->s'.heap.get? b=some o:=λ b o e ne=>by
    cases q:H b with
    |none=>exact J.base.keep b o e q (λ z=>(nomatch z)) (by simpa[cxW]using ne)
    |some u=>
     rcases hO b with z|⟨ob,xs,z⟩
     .rw[q]at z;cases z
     .have z2:=J.base.frzs b ob _ z
      obtain⟨e1,_⟩:=hok b _ z;obtain⟨e2,_⟩:=J.hok b _ z2;rw[e]at e1;cases e1;exact e2
   refine⟨rfl,⟨λ b o e=>?_,λ b o e=>?_⟩,J.os,J.bare⟩
   .by_cases hbP:b=Pt
    .subst hbP
     rw[hP]at e;cases e;obtain⟨⟨o1,vs1,f1,f2,f3,f4⟩,_⟩:=(zFd KX hC).tab hP;exact .inr (.inl ⟨⟨c,o1,vs1,f1,f2,f3,f4⟩,rfl,#[],ps,rfl,by simpa using hps⟩)
    .exact .inl (all b o e hbP)
   .by_cases hbP:b=Pt
    .subst hbP;exact⟨_,hps⟩
    .exact⟨o,all b o e hbP⟩
 cases hk:K.lookup a with
 |some o=>
  have e:=KX a o hk;rw[ha]at e;cases e;refine core (λ _=>none) (λ _=>.inl rfl) (.inr ⟨_,vs.toArray,_,hk,rfl,rfl,rfl,by rw[zAS,lenV];exact hl,by simpa using rv⟩) (λ b u z=>by have z':(none:Option HO)=some u:=z;cases z') (λ b z=>absurd rfl z) λ z=>absurd rfl z
 |none=>
  refine core (λ b=>if b=a then some (.frz {cls:=.type "list",data:=.seq vs.toArray} (.lst (ns.map V.int)))else none) (λ b=>?_) (.inl (.inr ⟨{cls:=.type "list",data:=.seq vs.toArray},if_pos rfl⟩)) (λ b u z=>?_) (λ b z=>?_) λ _=>hk
  .by_cases hb:b=a
   .exact .inr ⟨_,_,if_pos hb⟩
   .exact .inl (if_neg hb)
  .by_cases hb:b=a
   .have z':=(if_pos hb).symm.trans z
    cases z';subst hb;exact⟨ha,by rw[zAF];exact hl,vs,_,rv,ha⟩
   .have z':=(if_neg hb).symm.trans z
    cases z'
  .by_cases hb:b=a
   .exact hb
   .exact absurd (if_neg hb) z
end L2
namespace VL
open PySem PySem.Spec PyProof.Rows L2
abbrev ctW(P:zAP)(w:World)(K:zAA)(mg:Str->Option Value)(base:Heap)(N:List Str)(q:Str)(sc:Scope)(f:Addr)(cdv:Value)(A:zAZ)(s:zAB)(H:Hp)(Pt:Addr)(k:Nat)(hr:dJ k (A.deeper (zC9 q sc s.heap.objs.size f cdv))):Ct where
 ι:=Unit
 X:=λ _=>cxW P w K mg base N q sc f cdv A s H Pt
 prog:=P
 w:=w
 K:=K
 mg:=mg
 base:=base
 k:=k
 G:=⟨H,λ _ _ _=>False,aa mg⟩
 cx:=λ _=>⟨rfl,rfl,rfl,rfl,rfl⟩
 calm:=λ _=>rfl
 room:=λ _=>hr
 own:=λ _=>λ _ _ h=>zAJ h
 pass:=λ _=>λ _ _ _ _ _ _ _ ⟨_,_,_,_,_,_,_,_,_,_,_,_,_,z⟩=>z
 dOk:=false
 dcx:=λ z=>nomatch z
def aEJ{P:zAP}{w:World}{K:zAA}{mg:Str->Option Value}{base:Heap}{N:List Str}{q:Str}{sc:Scope}{fa a Pt:Addr}{cdv:Value}{A:zAZ}{s:zAB}{H:Hp}{k:Nat}{hr:dJ k (A.deeper (zC9 q sc s.heap.objs.size fa cdv))}{body:List Stmt}{f:En->Ou}{ns:List Int}
  (hb:SSs (ctW P w K mg base N q sc fa cdv A s H Pt k hr) body f)(e:eX N.length f [.scr ns]= .ok (.bl true))(r:Rps K (λ _=>True) H [.ref a] [.scr ns]):
  ∃t,PSs (cxW P w K mg base N q sc fa cdv A s H Pt) body t/\t {nx:=λ _ _=>False,rt:=λ v _=>v= .bl true} (start N [.ref a]) H:=by
 obtain⟨t,h1,h2⟩:=hb;refine⟨t,h1 (),h2 [] _ H _ _ _ (RR.start r) ?_⟩;unfold eX at e;cases ef:f (aq N.length [.scr ns])with
 |nx Y=>rw[ef]at e;cases e
 |rt d=>rw[ef]at e;cases e;exact λ v H' s r=>r.bl_inv
 |ex c=>rw[ef]at e;cases e
 |bk Y=>rw[ef]at e;cases e
 |ct Y=>rw[ef]at e;cases e
 |st=>rw[ef]at e;cases e
def aAR{P:zAP}{w:World}{K:zAA}{mg:Str->Option Value}{base:Heap}{x q n0 n1 n2 few cn pe told:Str}{st:Stmt}{f fc C':Addr}{fd fdc:zAe}{kc k0:Nat}{wd:Addr->Option Str}{p1 p2 p3 p4 p5 p6 p7 p8 p9 p10 p11 p12 p13 p14 p15 p16:Pos}{j1:Nat}
  (F:L2.Fun K x q st f fd)(S:aY [n0,n1,n2] [n0] (aF st))(hst:cH st=[.Assign [.Name n1 p1] (.Constant (.str told) j1 p2) p3,.Try [.Expr (.Call (.Name n0 p4) [] [] p5) p6] [.ExceptHandler (some (.Name few p7)) (some n2) [.Assign [.Name n1 p8] (.Call (.Name cn p9) [.Name n2 p10] [] p11) p12] p13] [] [] p14,.Return (some (.Name n1 p15)) p16])
  (l0:(aF st).names.lookup n0=some .local)(l1:(aF st).names.lookup n1=some .local)(l2:(aF st).names.lookup n2=some .local)(g1:(aF st).names.lookup few=some .globalImplicit)(g2:(aF st).names.lookup cn=some .globalImplicit)
  (hm:mg few=some (.ref C'))(hC':bN K C')(FC:FnH P w K mg base kc fc fdc [pe] (spW wd))(hmc:mg cn=some (.ref fc))(hkc:zBR K (.ref fc)=true)(hbc:Binds K fdc [pe] [])(hkk:kc<=k0)(hw:∀C w,wd C=some w->bN K C/\qH K C C'=true)
  (d1:Nd few:=by decide)(d2:Nd cn:=by decide)(d3:Nd n0:=by decide)(d4:Nd n1:=by decide)(d5:Nd n2:=by decide)
  (d6:(n0==("__classdict__":Str))=false:=by decide)(d7:(n1==("__classdict__":Str))=false:=by decide)(d8:(n2==("__classdict__":Str))=false:=by decide):
  cV P w K mg base (CX1 P w) (k0+1) f fd [n0] (spR P w K mg base k0 told wd):=by
 refine F.okX S (λ vs H Q E ⟨_,_,_,_,_,_,_,e,_⟩=>by rw[e];rfl) λ cdv A outer s H vs Q E hr hsp=>?_
 rw[hst];exact aDZ (X:=rB (CX1 P w) P w K mg base [n0,n1,n2] q (aF st) f cdv A outer s H E) cT.of rfl rfl S.nd l0 l1 l2 (λ _=>rfl) hm g1 hC' FC g2 hmc hkc hbc hr hkk hw hsp d1 d2 d3 d4 d5 d6 d7 d8
end VL
namespace L2
open PySem PySem.Spec PyProof.Rows
def eY{X:Cx}{n0:Str}{e:Expr}{c:V}{p p' pos:Pos}(hN:X.N[0]? =some n0)(hv:X.env.scope.names.lookup n0=some .local)(hg:Gl X "isinstance")(hm:X.mg "isinstance"=none)(hc:PE X e (tC c))(hse:zAT [e] X.env=(false,eval e X.env)::zAT [] X.env:=by rfl)
  (hpl:(zCY pos (zAT [e] X.env)).any (·.1)=false:=by rfl)(d:Nd n0:=by decide)(d':(n0==("__classdict__":Str))=false:=by decide):PE X (.Call (.Name "isinstance" p) [.Name n0 p',e] [] pos) (aAG X.K c):=
 oR aCi hg hm rfl (aW (gQ hN (.inl hv) d d') (aW hc cM hse)) (hpl:=hpl)
section
variable{P:zAP}{w:World}{K:zAA}{mg:Str->Option Value}{base:Heap}{x q n0 n1 n2 odd:Str}{st:Stmt}{f:Addr}{fd:zAe}{k:Nat}{wd:Addr->Option Str}{c1 c2:V}{k1 k2 k3 k4:List V}{l1 l2:List Str}{a1 a2:Expr}{as1 as2 e1 e2 e3 e4 w1 w2:List Expr}{kw1 kw2:List zCo}
 {p1 p2 p3 p4 p5 p6 p7 p8 p9 p10 p11 p12 p13 p14 p15 p16 p17 p18 p19 p20 p21 p22 p23 p24 p25 p26 p27 p28 p29 p30 p31 p32 p33 p34 p35 p36 p37 p38 p39 p40:Pos}{q1 q2 q3 q4 q5 q6 q7:Pos}{j1 j2 j3 j4 j5:Nat}
end
structure aBu(P:zAP)(w:World)(K:zAA)(mg:Str->Option Value)(fa Pt:Addr)(k n:Nat):Prop where
 ex:∃(x name qual:Str) (params:zCn) (body:List Stmt) (scope:Scope) (dV kV doc pm ct oc:Value) (an od:Option Addr) (c:Addr) (osl:Array (Option Value)) (N:List Str),
  K.lookup Pt=none/\zD6 K c Pt=true/\K.lookup fa=some ⟨oc,od,.func (zBU name qual params body scope dV kV doc pm an (.ref c) ct),osl⟩/\zCh K (.ref c) qual=true/\aY N [x] scope/\
  (∀(s:zAB) (u:Value),zGP s (zBU name qual params body scope dV kV doc pm an (.ref c) ct) ⟨[u],[]⟩ [(x,u)])/\
  ∀(a:Addr) (ns:List Int),ns.length<=n->∀(base:Heap) (s:zAB) (H:Hp),dJ k (zCO.deeper (zC9 qual scope s.heap.objs.size fa (.ref c)))->qu (cxW P w K mg base N qual scope fa (.ref c) zCO s H Pt) Pt->Only H->SqL K H a (ns.map V.int)->
   ∃t,PSs (cxW P w K mg base N qual scope fa (.ref c) zCO s H Pt) body t/\t {nx:=λ _ _=>False,rt:=λ v _=>v= .bl true} (start N [.ref a]) H
def aCp{l:zEa}{n k:Nat}{q:zAP}{loose:List Str}{XP:(Str->Option Value)->Heap->Prop}{YP:World->Heap->Prop}{d:DefRec}{K:Params->zAA}{Pt:Addr}
  (hn:l.most=some n)(hn2:n<=zAY)(hdf:d.params.defaults=[])(hr:dJ (k+1) zCO)
  (hY:∀(w:World) (h:Heap),YP w h->(K w.params).In h/\h.get? Pt=some (zBv #[]))
  (F:∀(w:World) (mg:Str->Option Value) (fa:Addr) (h:Heap),(K w.params).In h->h.Ns zAV mg->mg d.name=some (.ref fa)->aBu l.prog w (K w.params) mg fa Pt k n):
  zGy q loose XP YP l.row.toRowW d [] (λ f vs=>zGV f vs):=by
 refine Att.zp hn hdf λ w z5 zS mg mb fa o pm cd doc a vs ns G Y ho hd hcd hmg hobj hints hW hg=>?_
 obtain⟨KX,hP⟩:=hY w _ Y;obtain⟨x,name,qual,params,body,scope,dV,kV,doc,pm,ct,oc,an,od,c,osl,N,h1,h2,h3,h4,h5,h6,h7⟩:=(F w mg fa _ KX G.T.g hmg).ex;have hbl:zS.heap.BuiltinsAt mg Pt:=by
  obtain⟨bm,ob,b1,b2,b3,b4,b5,b6⟩:=G.T.bmain;refine⟨bm,ob,b1,b2,λ z=>?_,λ z=>?_,b3,b4,b5,b6⟩
  .obtain⟨o,es,ep,e,hd,_⟩:=G.T.g
   rw[z,e]at b3;cases b3;rw[hd]at b6;cases b6
  .rw[z,hP]at b3;cases b3;cases b4
 exact aCZ KX G.T.g G.T.b G.T.builtins G.T.nolimit hg hobj hints (zAd hW hn2) hr hP h1 h2 hbl h3 h4 h5 h6 λ base s H r1 r2 r3 r4=>h7 a ns hW base s H r1 r2 r3 r4
def clB(K:zAA)(few C:Addr):Bool:=zFG K C [.type "ValueError",.type "Exception",.type "BaseException",.type "object"] "ValueError.__new__"&&decide (zAw K (.ref C) "__class__"=some (some (.builtin "object.__class__")))&&decide (zAw K (.ref C) "__getattribute__"=some (some (.builtin "BaseException.__getattribute__")))&&decide (zAw K (.ref C) "__getattr__"=some none)&&decide (zB2 K (.ref C) (.ref few)=some true)&&decide (zB2 K (.ref C) (.type "ValueError")=some true)&&qH K C few
def aAq(K:zAA)(few:Addr)(cs:List Addr):Bool:=(zAU cs.length).all λ j=>match cs[j]? with
 |none=>true
 |some C=>clB K few C&&(zAU cs.length).all λ i=>match cs[i]? with
  |none=>true
  |some c=>decide (zB2 K (.ref C) (.ref c)=some (i==j))
theorem lookup_at{C:Addr}{w:Str}:∀{cs:List Addr} {ws:List Str},(cs.zip ws).lookup C=some w->∃j:Nat,cs[j]? =some C/\ws[j]? =some w
 |[],_,h=>by cases h
 |_::_,[],h=>by cases h
 |c::cs,x::ws,h=>by
  rw[zBB,zAk]at h;by_cases e:C==c
  .simp only[e]at h
   cases h;exact⟨0,by rw[zD2 e];rfl,rfl⟩
  .simp only[e]at h
   obtain⟨j,h1,h2⟩:=lookup_at h;exact⟨j+1,h1,h2⟩
def aGm{K:zAA}{few c0 c1 c2 c3 c4 c5 c6 c7 c8 c9 c10 c11:Addr}{ws:List Str}(h:aAq K few [c0,c1,c2,c3,c4,c5,c6,c7,c8,c9,c10,c11]=true){C:Addr}{w:Str}(hw:([c0,c1,c2,c3,c4,c5,c6,c7,c8,c9,c10,c11].zip ws).lookup C=some w):
  Wd K (.ref few) (.ty "ValueError") [[.ref c0,.ref c1,.ref c2],[.ref c3,.ref c4,.ref c5],[.ref c6,.ref c7,.ref c8],[.ref c9,.ref c10,.ref c11]] ws C w/\bN K C/\qH K C few=true:=by
 obtain⟨j,h1,h2⟩:=lookup_at hw;have hj:j<12:=(zAG.mp h1).1;have h3:=zAx.mp h j (zAi.mpr hj);simp only[h1,zAE]at h3;obtain⟨h4,h5⟩:=h3;have F:∀(i:Nat) c,[c0,c1,c2,c3,c4,c5,c6,c7,c8,c9,c10,c11][i]? =some c->Kt K C (.ref c) (i==j):=λ i c e=>by
  have h6:=zAx.mp h5 i (zAi.mpr (zAG.mp e).1);simp only[e]at h6;exact⟨_,rfl,of_decide_eq_true h6⟩
 unfold clB at h4;simp only[zAE,decide_eq_true_eq]at h4;obtain⟨⟨⟨⟨⟨⟨q1,q2⟩,q3⟩,q4⟩,q5⟩,q6⟩,q7⟩:=h4;refine⟨⟨⟨q1,q2,q3,q4⟩,⟨_,rfl,q5⟩,⟨_,rfl,q6⟩,[0==j,1==j,2==j],[3==j,4==j,5==j],[6==j,7==j,8==j],[9==j,10==j,11==j],j,_,_,_,_,rfl,.cons (F 0 c0 rfl) (.cons (F 1 c1 rfl) (.cons (F 2 c2 rfl) .nil)),.cons (F 3 c3 rfl) (.cons (F 4 c4 rfl) (.cons (F 5 c5 rfl) .nil)),
  .cons (F 6 c6 rfl) (.cons (F 7 c7 rfl) (.cons (F 8 c8 rfl) .nil)),.cons (F 9 c9 rfl) (.cons (F 10 c10 rfl) (.cons (F 11 c11 rfl) .nil)),by simp,?_,?_,?_,h2⟩,q1,q7⟩
 .exact(by decide:∀j,j<12->([0==j,1==j,2==j]++[3==j,4==j,5==j]++[6==j,7==j,8==j]++[9==j,10==j,11==j]).count true=1) j hj
 .exact(by decide:∀j,j<12->([0==j,1==j,2==j]++[3==j,4==j,5==j]++[6==j,7==j,8==j]++[9==j,10==j,11==j])[j]? =some true) j hj
 .exact λ m hm=>(by decide:∀j,j<12->∀m,m<j->([0==j,1==j,2==j]++[3==j,4==j,5==j]++[6==j,7==j,8==j]++[9==j,10==j,11==j])[m]? =some false) j hj m hm
def zP{scope sc:Scope}(h:∀y∈scope.names,y.2= .free->sc.names.lookup y.1=some .cell\/sc.names.lookup y.1=some .free):∀y∈scope.names,y.2= .free->sc.names.lookup y.1=some .cell\/sc.names.lookup y.1=some .free:=h
def zf{K:zAA}{few:Addr}{cs:List Addr}(h:aAq K few cs=true){i j:Nat}{C c:Addr}(hj:cs[j]? =some C)(hi:cs[i]? =some c):zB2 K (.ref C) (.ref c)=some (i==j):=by
 have h3:=zAx.mp h j (zAi.mpr (zAG.mp hj).1);simp only[hj,zAE]at h3;have h6:=zAx.mp h3.2 i (zAi.mpr (zAG.mp hi).1);simp only[hi]at h6;exact of_decide_eq_true h6
def aG5{K:zAA}{few:Addr}{cs:List Addr}(h:aAq K few cs=true){i j:Nat}{C:Addr}(hj:cs[j]? =some C)(hi:cs[i]? =some C):i=j:=by
 have a:=zf h hj hi;have b:=zf h hj hj;rw[a]at b;have e:=zA8 b;rw[beq_self_eq_true]at e;exact zD2 e
theorem tR{C:Addr}{w:Str}:∀{cs:List Addr} {ws:List Str} {j:Nat},(∀i:Nat,cs[i]? =some C->i=j)->cs[j]? =some C->ws[j]? =some w->(cs.zip ws).lookup C=some w
 |[],_,_,_,h,_=>by simp at h
 |_::_,[],_,_,_,h=>by simp at h
 |c::cs,x::ws,j,u,h1,h2=>by
  rw[zBB,zAk];by_cases e:C==c
  .have e0:0=j:=u 0 (by rw[zD2 e];rfl)
   subst e0;simp only[e];simpa using h2
  .simp only[e]
   cases j with
   |zero=>
    have e1:c=C:=by simpa using h1
    rw[e1]at e;simp at e
   |succ j=>exact tR (j:=j) (λ i hi=>zFR (u (i+1) hi)) h1 h2
def aJG{K:zAA}{few:Addr}{cs:List Addr}{ws:List Str}(h:aAq K few cs=true){j:Nat}{C:Addr}{w:Str}(h1:cs[j]? =some C)(h2:ws[j]? =some w):(cs.zip ws).lookup C=some w:=tR (λ i hi=>aG5 h h1 hi) h1 h2
end L2
namespace VL
open PySem PySem.Spec PyProof.Rows L2
def aJF{K:zAA}{mg:Str->Option Value}{few c0 c1 c2 c3 c4 c5 c6 c7 c8 c9 c10 c11:Addr}{ws:List Str}{ns:List Str}(h:aAq K few [c0,c1,c2,c3,c4,c5,c6,c7,c8,c9,c10,c11]=true)
  (hl:ns.map (VL.aa mg)=[c0,c1,c2,c3,c4,c5,c6,c7,c8,c9,c10,c11]):∀c w,(ns.zip ws).lookup c=some w->([c0,c1,c2,c3,c4,c5,c6,c7,c8,c9,c10,c11].zip ws).lookup (VL.aa mg c)=some w:=λ c w e=>by
 have go:∀(ns:List Str) (ws:List Str),(ns.zip ws).lookup c=some w->∃j:Nat,ns[j]? =some c/\ws[j]? =some w:=by
  intro ns;induction ns with
  |nil=>intro ws h;cases h
  |cons x ns ih=>
   intro ws h;cases ws with
   |nil=>cases h
   |cons y ws=>
    rw[zBB,zAk]at h;by_cases e:c==x
    .simp only[e]at h
     cases h;exact⟨0,by rw[zD2 e];rfl,rfl⟩
    .simp only[e]at h
     obtain⟨j,h1,h2⟩:=ih ws h;exact⟨j+1,h1,h2⟩
 obtain⟨j,h1,h2⟩:=go ns ws e;refine aJG h (j:=j) ?_ h2;rw[<-hl,zAL,h1];rfl
inductive aAx(h:Heap):List Value->List (List Int)->Prop where
 |nil:aAx h [] []
 |cons {x:Addr} {o:Obj} {xs:Array Value} {k:Nat} {ns:List Int} {vs:List Value} {nss:List (List Int)} (ho:h.get? x=some o) (hc:o.cls= .type "tuple") (hd:o.data= .seq xs k) (hi:zBO xs.toList ns) (hne:ns≠[]) (r:aAx h vs nss):aAx h (.ref x::vs) (ns::nss)
theorem sub_len[BEq α][LawfulBEq α]:∀{l l':List α},l.Nodup->(∀x∈l,x∈l')->l.length<=l'.length
 |[],_,_,_=>zAg _
 |x::l,l',nd,h=>by
  have hx:x∈l':=h x zAI;have ih:=sub_len (l:=l) (l':=l'.erase x) (zAl.mp nd).2 λ y hy=>(zFt λ e=>by subst e;exact(zAl.mp nd).1 hy).mpr (h y (zAK _ hy))
  rw[zFU hx]at ih
  have:0<l'.length:=zCj hx
  rw[zA6];lia
def Ris(xs:Array Nat):Prop:=∀i j,i<j->j<xs.size->xs.getD i 0<xs.getD j 0
theorem yC(hr:Ris xs):∀(f lo hi:Nat),lo<=hi->hi<=xs.size->hi-lo<=f->(∀i,i<lo->xs.getD i 0<j)->(∀i,hi<=i->i<xs.size->j<=xs.getD i 0)->
  zCv xs j f lo hi<=xs.size/\(∀i,i<zCv xs j f lo hi->xs.getD i 0<j)/\∀i,zCv xs j f lo hi<=i->i<xs.size->j<=xs.getD i 0
 |0,lo,hi,h1,h2,h3,h4,h5=>by
  have e:lo=hi:=by lia
  subst e;exact⟨h2,h4,h5⟩
 |f+1,lo,hi,h1,h2,h3,h4,h5=>by
  unfold zCv;by_cases hl:lo<hi
  .rw[if_pos hl]
   dsimp only;have hm:(lo+hi) / 2<xs.size:=by lia
   have e:xs.getD ((lo+hi) / 2) j=xs.getD ((lo+hi) / 2) 0:=by simp[zCi,hm]
   rw[e];by_cases hc:xs.getD ((lo+hi) / 2) 0<j
   .rw[if_pos hc]
    refine yC hr f _ hi (by lia) h2 (by lia) (λ i hi'=>?_) h5;by_cases q:i=(lo+hi) / 2
    .rw[q];exact hc
    .exact Nat.lt_trans (hr i ((lo+hi) / 2) (by lia) hm) hc
   .rw[if_neg hc]
    refine yC hr f lo _ (by lia) (by lia) (by lia) h4 λ i q1 q2=>?_
    by_cases q:i=(lo+hi) / 2
    .rw[q];lia
    .have:=hr ((lo+hi) / 2) i (by lia) q2
     lia
  .rw[if_neg hl]
   have e:lo=hi:=by lia
   subst e;exact⟨h2,h4,h5⟩
def oh(hr:Ris xs)(j:Nat):zAb xs j<=xs.size/\(∀i,i<zAb xs j->xs.getD i 0<j)/\∀i,zAb xs j<=i->i<xs.size->j<=xs.getD i 0:=
 yC hr xs.size 0 xs.size (zAg _) (zAW _) (by lia) (λ i h=>by lia) λ i h1 h2=>by lia
structure fC(t:zCd)(n:Nat):Prop where
 dum:t.dummies=#[]
 siz:t.place.size=n
 ris:Ris t.place
 top:∀i,i<n->t.place.getD i 0<=t.mask
 msk:t.mask=7/\n<5\/t.mask=31/\n<19\/t.mask=127/\n<77
 pla:t.plain=true
def fC.fresh(led:Bool):fC (zGW 0 0 led) 0:=⟨rfl,rfl,λ i j _ h=>by simp[zGW]at h,λ i h=>by lia,.inl ⟨rfl,by lia⟩,rfl⟩
def fC.few(h:fC t n):n<t.mask:=by
 rcases h.msk with ⟨e,l⟩|⟨e,l⟩|⟨e,l⟩<;>lia
theorem fC.fill(h:fC t n):t.fill=n:=by unfold zGk;rw[h.dum,h.siz];rfl
theorem fC.fits(h:fC t n):t.fits n=true:=by
 unfold zGl;rw[h.fill,h.siz]
 have:=h.few
 simp;lia
def wC(h:fC t n)(j:Nat):t.slot j= .empty\/∃i,i<n/\t.slot j= .live i/\t.place.getD i 0=j:=by
 unfold zGm;dsimp only;by_cases e:(t.place[zAb t.place j]? ==some j)=true
 .rw[if_pos e]
  have e':=beq_iff_eq.mp e;obtain⟨h1,h2⟩:=zCQ.mp e';exact .inr ⟨_,by rw[<-h.siz];exact h1,rfl,by simp[zCi,h1,h2]⟩
 .rw[if_neg e]
  have:zDd t.dummies j=false:=by rw[h.dum];unfold zDd;simp
  rw[this];exact .inl (by simp)
def aDG(h:fC t n)(e:t.slot j= .empty):∀i,i<n->t.place.getD i 0≠j:=by
 intro i hi q;obtain⟨b1,b2,b3⟩:=oh h.ris j;have hb:zAb t.place j=i:=by
  rcases zE8 (zAb t.place j) i with z|z|z
  .have z1:=b3 _ (zAW _) (by rw[h.siz];lia)
   have z2:=h.ris _ i z (by rw[h.siz];exact hi);lia
  .exact z
  .have:=b2 i z
   lia
 have hi':i<t.place.size:=by rw[h.siz];exact hi
 have e2:t.place[i]? =some j:=by rw[zCQ];exact⟨hi',by rw[<-q];simp[zCi,hi']⟩
 unfold zGm at e;dsimp only at e;rw[hb,e2]at e;simp at e
def kh(mask:Nat):Nat->Nat×Nat->Nat×Nat
 |0,st=>st
 |k+1,st=>kh mask k (zBE mask st.1 st.2)
theorem zG(mask:Nat):∀(k:Nat) (st:Nat×Nat),(kh mask k st).2=st.2 / 32^k
 |0,st=>by simp[kh]
 |k+1,st=>by
  show(kh mask k (zBE mask st.1 st.2)).2=_
  rw[zG mask k];show st.2 / 32 / 32^k=_;rw[Nat.div_div_eq_div_mul,zEg,zFw]
theorem zK(mask:Nat):∀(j k:Nat) (st:Nat×Nat),kh mask (j+k) st=kh mask k (kh mask j st)
 |0,k,st=>by rw[zFx];rfl
 |j+1,k,st=>by
  rw[show j+1+k=(j+k)+1 by lia];exact zK mask j k _
def orb(M:Nat):Nat->Nat->Nat
 |0,i=>i
 |k+1,i=>orb M k ((i*5+1)%M)
theorem rP(M:Nat):∀(j k i:Nat),orb M (j+k) i=orb M k (orb M j i)
 |0,k,i=>by rw[zFx];rfl
 |j+1,k,i=>by
  rw[show j+1+k=(j+k)+1 by lia];exact rP M j k _
theorem zH(mask:Nat):∀(k i:Nat),kh mask k (i,0)=(orb (mask+1) k i,0)
 |0,i=>rfl
 |k+1,i=>by
  show kh mask k (zBE mask i 0)=_
  have:zBE mask i 0=((i*5+1)%(mask+1),0):=by simp[zBE]
  rw[this];exact zH mask k _
def aCM:∀M∈[8,32,128],(∀t∈zAU M,∃k∈zAU M,orb M k 0=t)/\orb M M 0=0:=by decide+kernel
def aFk(hm:mask=7\/mask=31\/mask=127)(hi:i<=mask)(ht:t<=mask):∃k,k<=mask/\orb (mask+1) k i=t:=by
 have hM:mask+1∈[8,32,128]:=by rcases hm with e|e|e<;>subst e<;>decide
 obtain⟨h1,h2⟩:=aCM _ hM;obtain⟨a,ha,ea⟩:=h1 i (by simp;lia);obtain⟨b,hb,eb⟩:=h1 t (by simp;lia);simp only[zAi]at ha hb;by_cases hab:a<=b
 .refine⟨b-a,by lia,?_⟩
  rw[<-ea,<-rP,show a+(b-a)=b by lia,eb]
 .refine⟨mask+1-a+b,by lia,?_⟩
  rw[<-ea,<-rP,show a+(mask+1-a+b)=(mask+1)+b by lia,rP,h2,eb]
def aG8(h:Int):zAn h<2^64:=by
 unfold zAn;have h1:=zDO h (show(2^64:Int)≠0 by decide);have h2:=zCe h (show(0:Int)<2^64 by decide);lia
def zJ(hm:mask=7\/mask=31\/mask=127)(h:Int)(ht:t<=mask)(y7:Nat):∃k,k<mask+15/\(kh mask k (y7,zAn h)).1=t:=by
 have e1:(kh mask 13 (y7,zAn h)).2=0:=by
  rw[zG]
  have:=aG8 h
  exact Nat.div_eq_of_lt (Nat.lt_trans this (by decide))
 have e2:(kh mask 13 (y7,zAn h)).1<=mask:=by
  show(kh mask 12 (zBE mask y7 (zAn h))).1<=mask
  have go:∀k (st:Nat×Nat),st.1<=mask->(kh mask k st).1<=mask:=by
   intro k;induction k with
   |zero=>intro st q;exact q
   |succ k ih=>
    intro st q;refine ih _ ?_
    show(st.1*5+1+st.2 / 32)%(mask+1)<=mask
    exact zCV (zDM _ (zDY _))
  refine go 12 _ ?_
  show(y7*5+1+zAn h / 32)%(mask+1)<=mask
  exact zCV (zDM _ (zDY _))
 obtain⟨k,hk,ek⟩:=aFk hm e2 ht;refine⟨13+k,by lia,?_⟩;rw[zK];have e3:kh mask 13 (y7,zAn h)=((kh mask 13 (y7,zAn h)).1,0):=by rw[<-e1]
 rw[e3,zH];exact ek
def ux(hi:i<=mask):i<=zBK mask i/\zBK mask i<=mask/\zBK mask i<=i+9:=by
 unfold zBK;split<;>lia
section
variable{t:zCd}{n:Nat}{hashAt:Nat->Int}{h:Int}
abbrev aBK(t:zCd)(i pert:Nat):zEh:={j:=i,more:=zBK t.mask i-i,i:=i,perturb:=pert,dummy:=none}
def aEc(fuel:Nat)(p:zEh):zBd t hashAt h (fuel+1) p=(match t.slot p.j with
  | .empty=>some (.empty p.j p.dummy)
  | .dummy=>zBd t hashAt h fuel (t.advance {p with dummy:=some p.j})
  | .live i=>if hashAt i==h then some (.candidate p.j i (t.advance p))else zBd t hashAt h fuel (t.advance p)):=rfl
theorem aEb(T:fC t n)(hh:∀i,i<n->hashAt i≠h):∀(m fuel:Nat) (p:zEh),p.more=m->p.dummy=none->
  (∃j,p.j<=j/\j<=p.j+m/\t.slot j= .empty/\zBd t hashAt h (fuel+m+1) p=some (.empty j none))\/
  (t.slot p.j≠.empty/\zBd t hashAt h (fuel+m+1) p=zBd t hashAt h fuel (aBK t (zBE t.mask p.i p.perturb).1 (zBE t.mask p.i p.perturb).2))
 |0,fuel,p,hm,hd=>by
  rw[show fuel+0+1=fuel+1 from rfl,aEc];rcases wC T p.j with e|⟨i,hi,e,_⟩
  .rw[e]
   exact .inl ⟨p.j,zAW _,zAW _,e,by rw[hd]⟩
  .rw[e]
   right;refine⟨by simp,?_⟩;dsimp only;rw[if_neg (by simpa using hh i hi)];congr 1;unfold zFz;rw[if_neg (by lia)];simp[aBK,hd]
 |m+1,fuel,p,hm,hd=>by
  rw[aEc];rcases wC T p.j with e|⟨i,hi,e,_⟩
  .rw[e]
   exact .inl ⟨p.j,zAW _,by lia,e,by rw[hd]⟩
  .rw[e]
   dsimp only;rw[if_neg (by simpa using hh i hi)];have ha:t.advance p={p with j:=p.j+1,more:=p.more-1}:=by
    unfold zFz;rw[if_pos (by lia)]
   rw[ha];rcases aEb T hh m fuel {p with j:=p.j+1,more:=p.more-1} (by show p.more-1=m;lia) hd with ⟨j,q1,q2,q3,q4⟩|⟨q1,q2⟩
   .exact .inl ⟨j,by show p.j<=j;have:p.j+1<=j:=q1;lia,by have:j<=p.j+1+m:=q2;lia,q3,q4⟩
   .exact .inr ⟨by simp,q2⟩
theorem aBb(T:fC t n)(hh:∀i,i<n->hashAt i≠h):∀(N fuel i pert:Nat),i<=t.mask->10*N<=fuel->
  (∃j,j<=t.mask/\t.slot j= .empty/\zBd t hashAt h fuel (aBK t i pert)=some (.empty j none))\/∀k,k<N->t.slot (kh t.mask k (i,pert)).1≠.empty
 |0,fuel,i,pert,hi,hf=>.inr λ k hk=>by lia
 |N+1,fuel,i,pert,hi,hf=>by
  obtain⟨r1,r2,r3⟩:=ux hi;obtain⟨f',rfl⟩:∃f',fuel=f'+(zBK t.mask i-i)+1:=⟨fuel-(zBK t.mask i-i)-1,by lia⟩
  rcases aEb T hh (zBK t.mask i-i) f' (aBK t i pert) rfl rfl with ⟨j,q1,q2,q3,q4⟩|⟨q1,q2⟩
  .exact .inl ⟨j,by have:j<=i+(zBK t.mask i-i):=q2;lia,q3,q4⟩
  .have hl:(zBE t.mask i pert).1<=t.mask:=zCV (zDM _ (zDY _))
   rcases aBb T hh N f' _ (zBE t.mask i pert).2 hl (by lia)with ⟨j,s1,s2,s3⟩|s
   .exact .inl ⟨j,s1,s2,q2.trans s3⟩
   .right
    intro k hk;cases k with
    |zero=>exact q1
    |succ k=>exact s k (by lia)
def fC.mask3(T:fC t n):t.mask=7\/t.mask=31\/t.mask=127:=by
 rcases T.msk with ⟨e,_⟩|⟨e,_⟩|⟨e,_⟩
 .exact .inl e
 .exact .inr (.inl e)
 .exact .inr (.inr e)
def aAW(T:fC t n)(hh:∀i,i<n->hashAt i≠h):∃j,j<=t.mask/\t.slot j= .empty/\t.probe hashAt h (t.probeStart h)=some (.empty j none):=by
 have hs:zAn h%(t.mask+1)<=t.mask:=zCV (zDM _ (zDY _));rcases aBb T hh (t.mask+15) (10*zCf t.mask) _ (zAn h) hs (by unfold zCf;lia)with z|z
 .exact z
 .exfalso
  have dL:∀x∈zAU (t.mask+1),x∈t.place.toList:=by
   intro x hx;simp only[zAi]at hx;obtain⟨k,hk,ek⟩:=zJ T.mask3 h (t:=x) (by lia) (zAn h%(t.mask+1))
   have:=z k hk
   rw[ek]at this;rcases wC T x with e|⟨i,hi,_,e⟩
   .exact absurd e this
   .rw[<-e]
    have hi':i<t.place.size:=by rw[T.siz];exact hi
    rw[show t.place.getD i 0=t.place[i]by simp[zCi,hi']];exact Array.getElem_mem_toList hi'
  have:=sub_len List.nodup_range dL
  have h2:=T.few;rw[zBS,zA0,T.siz]at this;lia
end
def rY(xs:Array α)(p:Nat)(x d:α)(hp:p<=xs.size)(i:Nat):(zAv xs p x).getD i d=if i<p then xs.getD i d else if i=p then x else xs.getD (i-1) d:=by
 have e:∀(ys:Array α) i,ys.getD i d=(ys.toList[i]?).getD d:=λ ys i=>by rw[zDF,zBg]
 rw[e,e,e,SetTable.toList_insertAt];have hl:p<=xs.toList.length:=by simpa using hp
 by_cases h1:i<p
 .rw[if_pos h1,zBG (by rw[zCu];lia),List.getElem?_take,if_pos h1]
 .rw[if_neg h1,zCT (by rw[zCu];lia),zCu,Nat.min_eq_left hl]
  by_cases h2:i=p
  .rw[if_pos h2,h2,zDw]
   rfl
  .rw[if_neg h2,show i-p=(i-p-1)+1 by lia,zDc,List.getElem?_drop]
   congr 2;lia
def oW(xs:Array α)(p:Nat)(x:α):(zAv xs p x).size=xs.size+1:=by
 rw[<-zA0,(zFI xs p x).length_eq,zEX];simp
def qM{t:zCd}(hf:t.fill=n):t.tooFull=decide (t.mask*3<=n*5):=by unfold SetTable.tooFull;rw[hf]
structure lU(t:zCd)(n:Nat):Prop where
 dum:t.dummies=#[]
 siz:t.place.size=n
 ris:Ris t.place
 top:∀i,i<n->t.place.getD i 0<=t.mask
 msk:t.mask=7/\n<=5\/t.mask=31/\n<=19\/t.mask=127/\n<77
 pla:t.plain=true
theorem lU.fill(h:lU t n):t.fill=n:=by unfold zGk;rw[h.dum,h.siz];rfl
theorem lU.fits(h:lU t n):t.fits n=true:=by
 unfold zGl;rw[h.fill,h.siz]
 have:=h.msk
 simp;lia
def aH8(T:fC t n)(h64:n<76)(hj:j<=t.mask)(he:t.slot j= .empty):lU (t.put j).1 (n+1)/\(t.put j).2=zAb t.place j/\(t.put j).2<=n/\(t.put j).1.mask=t.mask/\(t.put j).1.led=t.led:=by
 have hno:=aDG T he;obtain⟨b1,b2,b3⟩:=oh T.ris j;have hsz:=T.siz;have hg:=rY t.place (zAb t.place j) j 0 b1;refine⟨⟨?_,?_,?_,?_,?_,T.pla⟩,rfl,by rw[<-hsz];exact b1,rfl,rfl⟩
 .show(if zDd t.dummies j then SetTable.eraseAt t.dummies (zAb t.dummies j)else t.dummies)=#[]
  rw[T.dum]
  have:zDd #[] j=false:=by unfold zDd;simp
  rw[this];rfl
 .show(zAv t.place _ j).size=n+1
  rw[oW,hsz]
 .intro a b hab hb
  have hb':b<n+1:=by
   have:b<(zAv t.place (zAb t.place j) j).size:=hb
   rw[oW,hsz]at this;exact this
  show(zAv t.place (zAb t.place j) j).getD a 0<(zAv t.place (zAb t.place j) j).getD b 0
  rw[hg,hg];by_cases a1:a<zAb t.place j
  .rw[if_pos a1]
   by_cases c1:b<zAb t.place j
   .rw[if_pos c1];exact T.ris a b hab (by lia)
   .rw[if_neg c1]
    by_cases c2:b=zAb t.place j
    .rw[if_pos c2];exact b2 a a1
    .rw[if_neg c2]
     exact T.ris a (b-1) (by lia) (by lia)
  .rw[if_neg a1,if_neg (show¬b<zAb t.place j by lia),if_neg (show¬b=zAb t.place j by lia)]
   by_cases a2:a=zAb t.place j
   .rw[if_pos a2]
    have q1:=b3 (b-1) (by lia) (by lia);have q2:=hno (b-1) (by lia);lia
   .rw[if_neg a2]
    exact T.ris (a-1) (b-1) (by lia) (by lia)
 .intro i hi
  show(zAv t.place (zAb t.place j) j).getD i 0<=t.mask
  rw[hg];split
  .exact T.top i (by lia)
  .split
   .exact hj
   .exact T.top (i-1) (by lia)
 .have:=T.msk
  show t.mask=7/\n+1<=5\/t.mask=31/\n+1<=19\/t.mask=127/\n+1<77;lia
def lU.still{t:zCd}(h:lU t n)(hf:t.tooFull=false):fC t n:=by
 rw[qM h.fill]at hf;simp only[decide_eq_false_iff_not]at hf;refine⟨h.dum,h.siz,h.ris,h.top,?_,h.pla⟩;rcases h.msk with ⟨e,l⟩|⟨e,l⟩|⟨e,l⟩<;>rw[e]at hf
 .exact .inl ⟨e,by lia⟩
 .exact .inr (.inl ⟨e,by lia⟩)
 .exact .inr (.inr ⟨e,by lia⟩)
def lU.full{t:zCd}(h:lU t n)(h64:n<=76)(hf:t.tooFull=true):n=5\/n=19:=by
 rw[qM h.fill]at hf;simp only[decide_eq_true_eq]at hf
 have:=h.msk
 lia
def heldBy(owner:Array (Option Nat)):List Nat:=owner.toList.filterMap id
theorem uA:∀(l:hZ) (j x:Nat),l[j]? =some none->((l.set j (some x)).filterMap id).Perm (x::l.filterMap id)
 |[],j,x,h=>by simp at h
 |a::l,0,x,h=>by
  simp at h;subst h;exact zBZ _
 |none::l,j+1,x,h=>by
  have ih:=uA l j x (by simpa using h);simpa using ih
 |some a::l,j+1,x,h=>by
  have ih:=uA l j x (by simpa using h)
  have:(((some a::l).set (j+1) (some x)).filterMap id).Perm (a::x::l.filterMap id):=by
   simpa using ih.cons a
  exact this.trans (zDg _ _ _)
theorem vJ:∀(l:hZ),(∀j,j<l.length->∃x,l[j]? =some (some x))->(l.filterMap id).length=l.length
 |[],_=>rfl
 |a::l,h=>by
  obtain⟨x,e⟩:=h 0 (by simp);have ex:a=some x:=by simpa using e
  subst ex;have ih:=vJ l λ j hj=>by simpa using h (j+1) (by simpa using hj)
  simp[ih]
theorem aBd(ho:owner.size=mask+1):∀(N i pert:Nat),i<=mask->
  (∃j,owner.toList[j]? =some none/\zBk mask owner N i pert=some j)\/∀k,k<N->∃x,owner.toList[(kh mask k (i,pert)).1]? =some (some x)
 |0,i,pert,hi=>.inr λ k hk=>by lia
 |N+1,i,pert,hi=>by
  obtain⟨r1,r2,r3⟩:=ux hi;have hone:zBk mask owner (N+1) i pert=(match (zAU (zBK mask i+1-i)).find? λ k=>(owner.getD (i+k) (some 0)).isNone with
   |some k=>some (i+k)
   |none=>zBk mask owner N (zBE mask i pert).1 (zBE mask i pert).2):=rfl
  rw[hone];cases hf:(zAU (zBK mask i+1-i)).find? λ k=>(owner.getD (i+k) (some 0)).isNone with
  |some k=>
   left;have h1:=List.mem_of_find?_eq_some hf;have h2:=List.find?_some hf;simp only[zAi]at h1;have hlt:i+k<owner.size:=by lia
   refine⟨i+k,?_,rfl⟩;have e:owner.getD (i+k) (some 0)=owner[i+k]:=by simp[zCi,hlt]
   rw[e]at h2;rw[zBg,zCQ];exact⟨hlt,by simpa using h2⟩
  |none=>
   have h0:=List.find?_eq_none.mp hf 0 (by simp;lia);have hlt:i<owner.size:=by lia
   have e:owner.getD (i+0) (some 0)=owner[i]:=by simp[zCi,hlt]
   rw[e]at h0;have hl:(zBE mask i pert).1<=mask:=zCV (zDM _ (zDY _));rcases aBd ho N _ (zBE mask i pert).2 hl with ⟨j,s1,s2⟩|s
   .exact .inl ⟨j,s1,s2⟩
   .right
    intro k hk;cases k with
    |zero=>
     show∃x,owner.toList[i]? =some (some x)
     rw[zBg];cases q:owner[i]with
     |none=>rw[q]at h0;simp at h0
     |some x=>exact⟨x,by rw[zCQ];exact⟨hlt,q⟩⟩
    |succ k=>exact s k (by lia)
def aC7(hm:mask=7\/mask=31\/mask=127)(ho:owner.size=mask+1)(hfew:(heldBy owner).length<mask+1)(h:Int):
  ∃j,owner.toList[j]? =some none/\zBk mask owner (zCf mask) (zAn h%(mask+1)) (zAn h)=some j:=by
 rcases aBd ho (zCf mask) _ (zAn h) (zCV (zDM (zAn h) (zDY mask)))with z|z
 .exact z
 .exfalso
  have:=vJ owner.toList λ j hj=>by
   rw[zA0,ho]at hj;obtain⟨k,hk,ek⟩:=zJ hm h (t:=j) (by lia) (zAn h%(mask+1));obtain⟨x,e⟩:=z k (by unfold zCf;lia);rw[ek]at e;exact⟨x,e⟩
  unfold heldBy at hfew;rw[this,zA0]at hfew;lia
def rW(mask:Nat)(acc:Option (Array (Option Nat)×Nat))(h:Int):Option (Array (Option Nat)×Nat):=do
 let(owner,k) <-acc
 let j <-zBk mask owner (zCf mask) (zAn h%(mask+1)) (zAn h)
 pure (owner.setIfInBounds j (some k),k+1)
theorem zM(hm:mask=7\/mask=31\/mask=127):∀(hs:List Int) (owner:Array (Option Nat)) (k:Nat),owner.size=mask+1->(heldBy owner).Perm (zAU k)->k+hs.length<=mask->
  ∃owner',hs.foldl (rW mask) (some (owner,k))=some (owner',k+hs.length)/\owner'.size=mask+1/\(heldBy owner').Perm (zAU (k+hs.length))
 |[],owner,k,ho,hp,hl=>⟨owner,rfl,ho,hp⟩
 |h::hs,owner,k,ho,hp,hl=>by
  rw[zA6]at hl;obtain⟨j,e1,e2⟩:=aC7 hm ho (by rw[hp.length_eq,zBS];lia) h;have hst:rW mask (some (owner,k)) h=some (owner.setIfInBounds j (some k),k+1):=by
   unfold rW;simp[e2]
  rw[zCI,hst];obtain⟨o',f1,f2,f3⟩:=zM hm hs (owner.setIfInBounds j (some k)) (k+1) (by simpa using ho) (by
   unfold heldBy;rw[Array.toList_setIfInBounds];refine(uA owner.toList j k e1).trans ?_;rw[zHG];exact(List.Perm.cons k hp).trans (List.perm_append_singleton k _).symm) (by lia)
  refine⟨o',?_,f2,?_⟩
  .rw[f1,zA6,show k+1+hs.length=k+(hs.length+1)by lia]
  .rw[zA6,show k+(hs.length+1)=k+1+hs.length by lia]
   exact f3
def aE9(m:Nat):heldBy (zEj m none)=[]:=by
 unfold heldBy;rw[Array.toList_replicate];induction m with
 |zero=>rfl
 |succ m ih=>rw[zBT];simpa using ih
def zN(hm:mask=7\/mask=31\/mask=127)(hs:Array Int)(hl:hs.size<=mask):∃owner,zFo mask hs=some owner/\owner.size=mask+1/\(heldBy owner).Perm (zAU hs.size):=by
 obtain⟨o',f1,f2,f3⟩:=zM hm hs.toList (zEj (mask+1) none) 0 (by simp) (by rw[aE9];exact zBZ _) (by simpa using hl);refine⟨o',?_,f2,by simpa using f3⟩;have e:zFo mask hs=(hs.foldl (rW mask) (some (zEj (mask+1) none,0))).map (·.1):=rfl;rw[e,<-Array.foldl_toList,f1];rfl
def jQ(owner:Array (Option Nat))(m:Nat):List (Nat×Nat):=(zAU m).filterMap λ j=>(owner.getD j none).map (j,·)
theorem zB:∀(l:hZ) (b:Nat) (f:Nat->Option Nat),(∀i,i<l.length->f (b+i)=(l[i]?).getD none)->
  ((zGI b l.length).filterMap λ j=>(f j).map (j,·)).map (·.2)=l.filterMap id
 |[],_,_,_=>rfl
 |a::l,b,f,h=>by
  have h0:=h 0 (by simp);simp at h0;have ih:=zB l (b+1) f λ i hi=>by
   have:=h (i+1) (by simpa using hi)
   rw[show b+(i+1)=b+1+i by lia]at this;simpa using this
  rw[zA6,zGu,zBJ,h0];cases a with
  |none=>simpa using ih
  |some x=>simpa using ih
def aA7(owner:Array (Option Nat)):(jQ owner owner.size).map (·.2)=heldBy owner:=by
 have:=zB owner.toList 0 (λ j=>owner.getD j none) λ i hi=>by
  rw[zFx,zDF,zBg]
 unfold jQ heldBy;rw[zFu,<-this,zA0]
theorem zE(f:Nat->Option Nat):∀(m b:Nat),(((zGI b m).filterMap λ j=>(f j).map (j,·)).map (·.1)).Pairwise (·< ·)/\∀x∈((zGI b m).filterMap λ j=>(f j).map (j,·)).map (·.1),b<=x/\x<b+m
 |0,b=>⟨.nil,λ x hx=>by simp at hx⟩
 |m+1,b=>by
  obtain⟨ih1,ih2⟩:=zE f m (b+1);rw[zGu,zBJ];cases hf:f b with
  |none=>
   simp only[zGg];exact⟨ih1,λ x hx=>by have:=ih2 x hx;lia⟩
  |some y=>
   simp only[zC7,zA7];refine⟨zBM.mpr ⟨λ x hx=>by have:=ih2 x hx;lia,ih1⟩,λ x hx=>?_⟩;rcases zAX.mp hx with e|hx
   .lia
   .have:=ih2 x hx
    lia
def aH5{l:List Nat}(h:l.Pairwise (·< ·)):Ris l.toArray:=by
 intro i j hij hj;have hj':j<l.length:=by simpa using hj
 have e:∀k,k<l.length->l.toArray.getD k 0=l[k]!:=λ k hk=>by simp[zCi,hk]
 have:=zBm.mp h i j (by lia) hj' hij
 simp[zCi,hj',show i<l.length by lia];exact this
def aDX{t:zCd}(hp:t.plain=true)(hn:n=5\/n=19)(hs:Array Int)(hl:hs.size=n):
  ∃t' order,t.relaid hs (zEi n)=some (t',order)/\fC t' n/\t'.led=t.led/\order.toList.Perm (zAU n):=by
 have hm:∃mask,SetTable.sizeAbove (zEi n)-1=mask/\(mask=31/\n=5\/mask=127/\n=19):=by
  rcases hn with e|e<;>subst e
  .exact⟨31,by decide,.inl ⟨rfl,rfl⟩⟩
  .exact⟨127,by decide,.inr ⟨rfl,rfl⟩⟩
 obtain⟨mask,em,hmn⟩:=hm;have hm3:mask=7\/mask=31\/mask=127:=by lia
 obtain⟨owner,o1,o2,o3⟩:=zN hm3 hs (by lia);have hsnd:=aA7 owner;obtain⟨r1,r2⟩:=zE (λ j=>owner.getD j none) (mask+1) 0;rw[<-zFu]at r1 r2;have hW:((jQ owner (mask+1)).map (·.1)).length=n:=by
  rw[zAF,<-zAF (f:=(·.2)),<-o2,hsnd,o3.length_eq,zBS,hl]
 refine⟨{mask:=mask,place:=((jQ owner (mask+1)).map (·.1)).toArray,dummies:=#[],finger:=t.finger,led:=t.led,moves:=t.movedTo mask,plain:=t.plain},((jQ owner (mask+1)).map (·.2)).toArray,?_,⟨rfl,?_,aH5 r1,?_,?_,hp⟩,rfl,?_⟩
 .unfold SetTable.relaid SetTable.laid
  rw[em,o1];rfl
 .simpa using hW
 .intro i hi
  have hi':i<((jQ owner (mask+1)).map (·.1)).length:=by rw[hW];exact hi
  show((jQ owner (mask+1)).map (·.1)).toArray.getD i 0<=mask
  have:((jQ owner (mask+1)).map (·.1)).toArray.getD i 0=((jQ owner (mask+1)).map (·.1))[i]:=by
   rw[zDF,List.getElem?_toArray,zAC hi'];rfl
  rw[this]
  have:=r2 _ (zCC hi')
  lia
 .show mask=7/\n<5\/mask=31/\n<19\/mask=127/\n<77
  lia
 .show((jQ owner (mask+1)).map (·.2)).Perm (zAU n)
  rw[<-o2,hsnd,<-hl];exact o3
abbrev bj(es:Array (Int×Value))(ep:Nat)(t:zCd):Obj:={cls:=.type "set",dict:=none,data:=.set es ep t}
structure TupAt(h:Heap)(x:Addr)(ns:List Int):Prop where
 ex:∃o xs k,h.get? x=some o/\o.cls= .type "tuple"/\o.data= .seq xs k/\zBO xs.toList ns
section
variable{prog:zAP}{w:World}{A:zAZ}{E:Value->zAB->Prop}{s:zAB}
def aCz(ho:s.heap.get? a=some (bj es ep t))(hz:es'.size<=4000)
  (h:(s.heap.update a (zGw es' t')).get? a=some (bj es' (ep+1) t')->Q () {s with heap:=s.heap.update a (zGw es' t')}):wpAny (model prog w) A (storeSet a es' t') Q E s:=by
 refine wpAny_storeSet_of ho rfl (h ?_) (by rw[zDB];lia)
 have:=zCH (zGw es' t') ho (by rw[putSet_of es' t' rfl];rfl)
 rw[putSet_of es' t' rfl]at this;exact this
end
end VL
namespace PySem
section
variable{prog:zAP}{w:World}{A:zAZ}{E:Value->zAB->Prop}{s:zAB}
def aDO(a:Value)(h:Q₁ (.ref s.heap.objs.size) {s with heap:=s.heap.push (VL.bj #[] 0 (.fresh 0 0 (!w.params.followText "set-order")))}):
  zCP (model prog w) A (.call (.builtin "set.__new__") ⟨[.type "set",a],[]⟩) (wants Q₁ E) s:=by
 refine codeAny_of_tree ?_;show wpAny _ A.in1 (zDz "set.__new__" ⟨[.type "set",a],[]⟩>>=λ _=>again (.builtin "set.__new__" ⟨[.type "set",a],[]⟩)) _ _ s;refine zAD (zHS (F.newCall_set_1 a) (zAN ⟨zCq zFW _,zB1 PySem.F.entry_set_new ?_⟩));rw[zBL zFW _];unfold zDZ.«set.__new__» zGp;have iX:=sub_set_self;obtain⟨hp,g,d,tk,os⟩:=s;dsimp only;wp_walk;refine zDR (zAN ?_);dsimp only;simp only[newObj];exact zAD (wpAny_alloc (zAN (zAN h)))
set_option maxHeartbeats 3200000 in
def zj{l:Addr}{T:String}{oI:Obj}{Φ:Heap->Prop}{Q:Value->zAB->Prop}(hty:s.TypeIs (.ref l) T)(hsls:isSubtype (.type T) (.type "set")=pure false)(hslf:isSubtype (.type T) (.type "frozenset")=pure false)(hne:(zDt T==zDt "dict")=false)
  (hit:∀(zC:Heap) (A₁:zAZ) (E₁:Value->zAB->Prop) (Q₁:Value->zAB->Prop),(∀b o,s.heap.get? b=some o->zC.get? b=some o)->Q₁ (.ref zC.objs.size) {s with heap:=zC.push oI}->wpAny (model prog w) A₁ (zH1 (.ref l)) Q₁ E₁ {s with heap:=zC})
  (hrun:∀R:zE4->zAB->Prop,(∀h' tk,Φ h'->(∀b o,s.heap.get? b=some o->h'.get? b=some o)->R (.ok (.ret .none)) {s with heap:=h',toks:=tk})->
   zCP (model prog w) A.in1.in1 (.builtin "set.update.loop" ⟨[.ref s.heap.objs.size,.ref (s.heap.push (VL.bj #[] 0 (.fresh 0 0 (!w.params.followText "set-order")))).objs.size],[]⟩) R {s with heap:=(s.heap.push (VL.bj #[] 0 (.fresh 0 0 (!w.params.followText "set-order")))).push oI})
  (h:∀h' tk,Φ h'->(∀b o,s.heap.get? b=some o->h'.get? b=some o)->Q (.ref s.heap.objs.size) {s with heap:=h',toks:=tk}):
  wpAny (model prog w) A (call (.type "set") [.ref l]) Q E s:=by
 obtain⟨c,tl,hmro⟩:=zCa.mro;have hmade:=zCa.made;have iX:=zCa.sub
 refine zFN (codeAny_of_tree ?_);show wpAny _ _ (callAny (.type "set") _) _ _ _;refine zAN ⟨zGQ _ (by decide+kernel),zB1 PySem.F.entry_type_call ?_⟩;rw[Around.under_plain (weight_type_call_type "set" [.ref l] []) rfl];have h1:=zCa.notType;have h2:=zCa.canCreate
 have hct:=F.typeCall_set_1 (.ref l);repeat (any_goals (first|assumption|wp_step))
 generalize hled:(!w.params.followText "set-order")=led at hrun;refine zDH (aDO (.ref l) (E:=E) (Q₁:=λ obj zS=>obj= .ref s.heap.objs.size/\zS={s with heap:=s.heap.push (VL.bj #[] 0 (.fresh 0 0 led))}) ⟨rfl,by rw[hled]⟩) λ r zS hr=>?_
 cases r with
 |error e=>exact hr
 |ok fl=>
  cases fl with
  |ret obj=>
   obtain⟨rfl,rfl⟩:=hr;have hS:(s.heap.push (VL.bj #[] 0 (.fresh 0 0 led))).get? s.heap.objs.size=some (VL.bj #[] 0 (.fresh 0 0 led)):=zAR _ rfl;have hT:Shared.TypeIs {s with heap:=s.heap.push (VL.bj #[] 0 (.fresh 0 0 led))} (.ref s.heap.objs.size) "set":=⟨_,hS,rfl⟩;have hli:=zCa.init.lookup;have hbi:=zCa.init.bind (.ref s.heap.objs.size)
   repeat (any_goals (first|assumption|wp_step))
   refine zDH (zDT (R:=wants (λ r zD=>r= .none/\∃h' tk,zD={s with heap:=h',toks:=tk}/\Φ h'/\(∀b o,s.heap.get? b=some o->h'.get? b=some o)) E) zCa.init.plain F.entry_set_init (check_set_init_1 hT ?_)) λ r₂ zD hr₂=>?_
   .obtain⟨ol,hol,hcl⟩:=hty
    obtain⟨ocls,odict,odata,oslots⟩:=ol;simp only at hcl;subst hcl;have hol':(s.heap.push (VL.bj #[] 0 (.fresh 0 0 led))).get? l=some {cls:=.type T,dict:=odict,data:=odata,slots:=oslots}:=zAH _ hol;unfold zDZ.«set.__init__» noKeywords zGs;generalize hPI:zH1=PI;wp_walk;subst hPI;refine hit _ _ _ _ (λ b o e=>zAH _ e) (zAD (wpAny_runValue (hrun _ λ h' tk g1 g2=>?_)));show wpAny _ _ _ _ _ _;refine zAN ?_;show wpAny _ _ (ret zE0) _ _ _;exact zAN ⟨rfl,h',tk,rfl,g1,g2⟩
   .cases r₂ with
    |error e=>exact hr₂
    |ok fl₂=>
     cases fl₂ with
     |ret r=>
      obtain⟨rfl,h',tk,rfl,g1,g2⟩:=hr₂
      repeat (any_goals (first|assumption|wp_step))
      exact h _ _ g1 g2
     |_=>exact hr₂.elim
  |_=>exact hr.elim
end
end PySem
namespace VL
open PySem PySem.Spec PyProof.Rows L2
theorem zX:∀{l:List α} {i:Nat} (h:i<l.length),(l[i]::l.eraseIdx i).Perm l
 |a::l,0,_=>zBZ _
 |a::l,i+1,h=>by
  have h':i<l.length:=by simpa using h
  have ih:=zX (l:=l) (i:=i) h'
  show(l[i]::a::l.eraseIdx i).Perm (a::l)
  exact(zDg _ _ _).trans (ih.cons a)
theorem aBT(next:Nat->Nat):∀(f k:Nat) (left:List α) (out:Array α),left.length<=f->(pickOrder.go next f k left out).toList.Perm (out.toList++left)
 |0,k,left,out,h=>by
  have:left=[]:=zF5.mp (by omega)
  subst this;rw[zBF];exact zBZ _
 |f+1,k,left,out,h=>by
  unfold pickOrder.go;cases left with
  |nil=>simp
  |cons a l=>
   have hlt:next k%(a::l).length<(a::l).length:=zDM _ (by simp)
   rw[zAC hlt];dsimp only;refine(aBT next f (k+1) _ _ (by rw[List.length_eraseIdx];simp only[hlt,if_true];simp at h ⊢;omega)).trans ?_;rw[zEX,zCl];exact List.Perm.append_left _ (zX hlt)
def aCH(next:Nat->Nat)(xs:Array α):(pickOrder next xs).toList.Perm xs.toList:=by
 have:=aBT next xs.size 0 xs.toList #[] (by simp)
 unfold pickOrder;simpa using this
def nQ(w:World)(d:Addr)(ep:Nat)(es:Array (Int×Value)):Array (Int×Value):=if w.params.followText "set-order" then pickOrder (w.params.setOrder d ep) es else es
def lz(w:World)(d:Addr)(ep:Nat)(es:Array (Int×Value)):(nQ w d ep es).toList.Perm es.toList:=by
 unfold nQ;split
 .exact aCH _ _
 .exact zBZ _
def slotAt(w:World)(t:zCd):Nat->Nat
 |0=>0
 |i+1=>if w.params.followText "set-order" then 0 else t.place.getD i 0+1
def aAu(T:fC t n)(hf:w.params.followText "set-order"=false):∀i,i<=n->zAb t.place (slotAt w t i)=i
 |0,_=>by
  obtain⟨b1,b2,b3⟩:=oh T.ris 0;show zAb t.place 0=0;cases h:zAb t.place 0 with
  |zero=>rfl
  |succ k=>
   rw[h]at b2
   have:=b2 0 (by omega)
   omega
 |i+1,hi=>by
  unfold slotAt;rw[hf];simp only[zAo,if_false];obtain⟨b1,b2,b3⟩:=oh T.ris (t.place.getD i 0+1);have hs:=T.siz;rcases zE8 (zAb t.place (t.place.getD i 0+1)) (i+1)with z|z|z
  .have:=b3 i (by omega) (by omega)
   omega
  .exact z
  .have h1:=b2 (i+1) (by omega)
   have h2:=T.ris i (i+1) (by omega) (by omega);omega
section
variable{prog:zAP}{w:World}{A:zAZ}{E:Value->zAB->Prop}{s:zAB}{d:Addr}{es:Array (Int×Value)}{ep:Nat}{t:zCd}
def sO(ho:s.heap.get? d=some (bj es ep t))(T:fC t es.size)(hled:t.led= !w.params.followText "set-order")(hi:i<=es.size)
  (h:Q (((nQ w d ep es)[i]?).map λ e=>(e.2,slotAt w t (i+1))) s):wpAny (model prog w) A (setNext d (slotAt w t i) i ep) Q E s:=by
 unfold setNext;refine zAD (zC3 ho rfl T.fits ?_);dsimp only;unfold zHk;refine zAD (zAD (zDR (zAN ?_)));show wpAny _ _ (if w.params.followText "set-order"=true then _ else _) _ _ _;unfold nQ at h;cases hf:w.params.followText "set-order" with
 |true=>
  rw[hf]at h;simp only[if_true]at h ⊢;simp only[bne_self_eq_false,zAo,if_false];unfold setWalk;refine zAD (zAD (zC3 ho rfl T.fits ?_));dsimp only;unfold zHk;refine zAD (zAD (zDR (zAN ?_)));show wpAny _ _ (if w.params.followText "set-order"=true then _ else _) _ _ _;rw[hf];simp only[if_true];refine zAD (zDR (zAN (zAN ?_)));have e1:slotAt w t (i+1)=slotAt w t i:=by
   unfold slotAt;cases i with
   |zero=>simp[hf]
   |succ i=>simp[hf]
  rw[e1]at h;exact h
 |false=>
  rw[hf]at h hled;simp only[zAo,if_false]at h ⊢;have hd:(!t.plain&&decide (es.size>1))=false:=by rw[T.pla];rfl
  show wpAny _ _ (if (!t.plain&&decide (es.size>1))=true then _ else _) _ _ _;rw[hd];simp only[zAo,if_false];refine zAD ?_;show wpAny _ _ (if (!t.led&& !es.isEmpty)=true then _ else _) _ _ _;rw[hled];simp only[zHM,zHU,zHL,zAo,if_false];refine zAN ?_;rw[aAu T hf i hi];have hslot:slotAt w t (i+1)=t.place.getD i 0+1:=by unfold slotAt;rw[hf];rfl
  rw[hslot]at h;by_cases hlt:i<es.size
  .have h1:es[i]? =some es[i]:=zCW hlt
   have aT:i<t.place.size:=by rw[T.siz];exact hlt
   have h2:t.place[i]? =some (t.place.getD i 0):=by
    rw[zCW aT];simp[zCi,aT]
   rw[h1,h2];rw[h1]at h;exact zAN h
  .have h1:es[i]? =none:=zF2 (by omega)
   rw[h1];rw[h1]at h;exact zAN h
def bO:PySem.Slot "set_iterator" "__next__" "set_iterator.__next__":=
 .of (owner:="set_iterator") (n:="__next__") (by rw[typeLookup_type,zHA];kernel_rfl) (by decide+kernel) (by decide+kernel) (by decide+kernel) (.inl (by decide+kernel)) (by rw[zGA];kernel_rfl)
def iz:PySem.Slot "set_iterator" "__iter__" "set_iterator.__iter__":=
 .of (owner:="set_iterator") (n:="__iter__") (by rw[typeLookup_type,zHA];kernel_rfl) (by decide+kernel) (by decide+kernel) (by decide+kernel) (.inl (by decide+kernel)) (by rw[zGA];kernel_rfl)
def iQ:zH0 table "set_iterator.__next__"=some zDZ.«set_iterator.__next__»:=entryFor_of_fast (by kernel_rfl)
def nY:zH0 table "set_iterator.__iter__"=some zDZ.«dict_keyiterator.__iter__»:=entryFor_alias (id':="dict_keyiterator.__iter__") (by kernel_rfl) rfl (by decide+kernel) (by kernel_rfl)
def rA:zH0 table "set.__iter__"=some zDZ.«frozenset.__iter__»:=entryFor_alias (id':="frozenset.__iter__") (by kernel_rfl) rfl (by decide+kernel) (by kernel_rfl)
def jJ(a:Value):zGL "set_iterator.__next__" ⟨[a],[]⟩:=by unfold zGL;kernel_rfl
def ou(a:Value):zGL "set_iterator.__iter__" ⟨[a],[]⟩:=by unfold zGL;kernel_rfl
end
section
variable{prog:zAP}{w:World}{A:zAZ}{E:Value->zAB->Prop}{s:zAB}{d I:Addr}{es:Array (Int×Value)}{ep:Nat}{t:zCd}{i':Nat}
abbrev aEW(d:Addr)(sl i n ep:Nat):Obj:={cls:=.type "set_iterator",data:=.fields #[.int sl 0,.int i 0,.ref d,.int n 0,.int ep 0]}
def aGh(h:Heap)(I d:Addr)(sl i n ep:Nat):Prop:=h.get? I=some (aEW d sl i n ep)
def aEU{h:Heap}{sl i n ep k:Nat}(e:h.get? I=some {cls:=.type "set_iterator",data:=.fields vs}):(h.update I (zHe (·.setIfInBounds k x))).get? I=some {cls:=.type "set_iterator",data:=.fields (vs.setIfInBounds k x)}:=by
 have:=zCH (zHe (·.setIfInBounds k x)) e (Obj.isFreed_of_fields (Obj.data_mapFields rfl _))
 rw[this];rfl
def aAI(hI:aGh s.heap I d (slotAt w t i') i' es.size ep)(ho:s.heap.get? d=some (bj es ep t))(T:fC t es.size)(hled:t.led= !w.params.followText "set-order"){v:Value}(hi:i'<es.size)(hv:((nQ w d ep es)[i']?).map (·.2)=some v){Q:Option Value->zAB->Prop}
  (h:∀h',aGh h' I d (slotAt w t (i'+1)) (i'+1) es.size ep->zDo I s.heap h'->Q (some v) {s with heap:=h'}):wpAny (model prog w) A (zE5 (.ref I)) Q E s:=by
 have hT:s.TypeIs (.ref I) "set_iterator":=⟨_,hI,rfl⟩;unfold zE5;refine zAD (wpAny_attempt (zG3 (name:=Str.ofString "__next__") hT bO (zDS bO hT iQ ?_ (jJ _))));show wpAny _ _ (fieldsOf (.ref I)>>=_) _ _ s;refine zAD (wpAny_fieldsOf hI rfl ?_);dsimp only;refine zAD ?_;unfold setEntries;refine zAD (zC3 ho rfl T.fits (zAN ?_));simp only[bne_self_eq_false,zAo,if_false];refine zAD ?_;simp only[zB8];refine sO ho T hled (zB7 hi) ?_;cases hq:(nQ w d ep es)[i']? with
 |none=>rw[hq]at hv;cases hv
 |some e=>
  rw[hq]at hv;cases hv;dsimp only[zC7];refine zAD (zGD hI rfl (by simp) ?_);have e1:=aEU (h:=s.heap) (I:=I) (k:=0) (x:=zH2 (slotAt w t (i'+1))) (sl:=0) (i:=0) (n:=0) (ep:=0) hI;refine zAD (zGD e1 rfl (by simp) ?_);have e2:=aEU (k:=1) (x:=zH2 (i'+1)) (sl:=0) (i:=0) (n:=0) (ep:=0) e1;exact zAN ⟨_,rfl,zAN (h _ e2 ((zBl ..).trans (zBl ..)))⟩
def aBy(hh:A.handled=none)(hI:aGh s.heap I d (slotAt w t es.size) es.size es.size ep)(ho:s.heap.get? d=some (bj es ep t))(T:fC t es.size)(hled:t.led= !w.params.followText "set-order")
  (h:∀h',Heap.ExtBut I s.heap h'->Q none {s with heap:=h'}):wpAny (model prog w) A (zE5 (.ref I)) Q E s:=by
 have hT:s.TypeIs (.ref I) "set_iterator":=⟨_,hI,rfl⟩;unfold zE5;refine zAD (wpAny_attempt (zG3 (name:=Str.ofString "__next__") hT bO (zDS bO hT iQ ?_ (jJ _))));show wpAny _ _ (fieldsOf (.ref I)>>=_) _ _ s;refine zAD (wpAny_fieldsOf hI rfl ?_);dsimp only;refine zAD ?_;unfold setEntries;refine zAD (zC3 ho rfl T.fits (zAN ?_));simp only[bne_self_eq_false,zAo,if_false];refine zAD ?_;simp only[zB8];refine sO ho T hled (zAW _) ?_;have hq:(nQ w d ep es)[es.size]? =none:=zF2 (by
  have:=(lz w d ep es).length_eq
  rw[zA0,zA0]at this;lia)
 rw[hq];dsimp only[zGg];refine zAD (zGD hI rfl (by simp) ?_);show wpAny _ _ (newExc (.type "StopIteration") []>>=_) _ _ _;refine zAD ?_;simp only[newExc,newTuple];refine zAD (zC2 (zAD (m:=firstArgMember _ _) (zHS (a:=zE0) (by first|rfl|(simp only[firstArgMember];rfl)) (zC2 ?_ (by size_fits)))) (by size_fits));simp only[raiseNew];refine zAD (wpAny_handled ?_);rw[show A.in1.handled=none from hh];refine zAD (zAN (wpAny_throw ?_));refine zAD (wpAny_isInstance (T:="StopIteration") (b:=true) ⟨_,zAR _ rfl,rfl⟩ isSubtype_stop ?_);exact zAN (h _ (((zBl ..).extBut.push _).push _))
def aBv(hh:A.handled=none)(I d:Addr)(hne:d≠I)(es:Array (Int×Value))(ep:Nat)(t:zCd)(T:fC t es.size)(hled:t.led= !w.params.followText "set-order"):
  Walks prog w A I [I,d] [I] es.size (λ i v=>((nQ w d ep es)[i]?).map (·.2)=some v) (λ i h=>aGh h I d (slotAt w t i) i es.size ep/\h.get? d=some (bj es ep t)) where
 sub:=λ b hb=>by simp at hb;simp[hb]
 frame:=λ _ _ _ st hk=>⟨hk I (by simp) _ st.1,hk d (by simp) _ st.2⟩
 item:=λ i s Q E hi st hQ=>by
  have hl:i<(nQ w d ep es).size:=by
   have:=(lz w d ep es).length_eq
   rw[zA0,zA0]at this;lia
  have hv:((nQ w d ep es)[i]?).map (·.2)=some (nQ w d ep es)[i].2:=by rw[zCW hl];rfl
  refine aAI st.1 st.2 T hled hi hv λ h' hI' hs'=>?_
  exact hQ _ h' s.toks hv ⟨hI',by rw[hs'.2 d hne];exact st.2⟩ λ b o hb e=>hs'.extBut b o (λ h=>hb (by simp[h])) e
 done:=λ s Q E st hQ=>aBy hh st.1 st.2 T hled λ h' he'=>hQ h' s.toks λ b o hb e=>he' b o (λ h=>hb (by simp[h])) e
 self:=λ i s Q E st hQ=>by
  have hT:s.TypeIs (.ref I) "set_iterator":=⟨_,st.1,rfl⟩;refine zHn hT iz (zDS iz hT nY ?_ (ou _));show wpAny _ _ (ret (.ref I)) _ _ s;exact zAN ⟨_,rfl,"set_iterator",_,hT,bO.lookup,hQ⟩
def aAU(ho:s.heap.get? d=some (bj es ep t))(T:fC t es.size)(h:Q (.ref s.heap.objs.size) {s with heap:=s.heap.push (aEW d 0 0 es.size ep)}):wpAny (model prog w) A (zH1 (.ref d)) Q E s:=by
 have hT:s.TypeIs (.ref d) "set":=⟨_,ho,rfl⟩;refine zHn hT zFX (zDS zFX hT rA ?_ (PySem.F.args_set_iter_1 _));unfold zDZ.«frozenset.__iter__» zGr slotArgs;simp only[List.isEmpty_nil,zHU,zAo,↓reduceIte,bind_assoc,zBH,bne_self_eq_false];unfold zGo zGq;refine zAD (zAN (zAD (zAN (zAD (zAD (wpAny_setEntries_of ho rfl T.fits (zAN ?_)))))));unfold setDrawn;refine zAD (zAD (zC3 ho rfl T.fits ?_));dsimp only;unfold zHk;refine zAD (zAD (zDR (zAN (zAN ?_))));have hd:(!w.params.followText "set-order"&&(!t.plain&&decide (es.size>1)))=false:=by rw[T.pla];simp
 show wpAny _ _ (if (!w.params.followText "set-order"&&(!t.plain&&decide (es.size>1)))=true then _ else _) _ _ _;rw[hd];simp only[zAo,if_false];refine zAD (zAN (zAD (wpAny_setEpoch_of ho rfl T.fits ?_)));simp only[newFields];refine zAD (zC2 (zAN ⟨_,rfl,"set_iterator",_,⟨_,zAR _ rfl,rfl⟩,bO.lookup,?_⟩));exact h
def aE6(hT:s.TypeIs (.ref r) "set")(h:Q false s):wpAny (model prog w) A (zEH (.ref r)) Q E s:=by
 unfold zEH;refine zAD (wpAny_specialOf hT PySem.F.slot_set_len.lookup ?_);generalize hid:("set.__len__":String)=id0;wp_delta;rw[show splitId id0=some ("set","__len__")from by subst hid;decide+kernel];subst hid;refine zAD (wpAny_isInstance (T:="set") (b:=true) hT (by rw[zGA];kernel_rfl) ?_);refine wpAny_ite_split (λ hab=>absurd hab (by decide)) λ _=>wpAny_ite_split (λ _=>?_) λ hab=>absurd (by decide+kernel) hab
 exact zAD (wpAny_typeOf hT (zAN h))
def aFP(T:fC t es.size)(hled:t.led= !w.params.followText "set-order"):zGj prog w "set" d d es.size (λ i v=>((nQ w d ep es)[i]?).map (·.2)=some v) (λ h=>h.get? d=some (bj es ep t)) where
 type:=λ _ hm=>⟨_,hm,rfl⟩
 there:=λ _ hm=>⟨zAM hm,zAM hm⟩
 keep:=λ _ _ hm hk=>hk d (.inl rfl) _ hm
 notList:=by decide
 notTuple:=by decide
 hint:=λ _ _ _ _ hm hq=>aE6 ⟨_,hm,rfl⟩ hq
 iter:=λ A s hh hm=>⟨aEW d 0 0 es.size ep,_,(λ _ _ hq=>aAU hm T hq),aBv hh _ d (zA1 (zAM hm)) es ep t T hled,⟨zAR _ rfl,zAH _ hm⟩⟩
end
section
variable{prog:zAP}{w:World}{A:zAZ}{E:Value->zAB->Prop}{s:zAB}{T:String}{r d:Addr}{n:Nat}{P:Nat->Value->Prop}{OK:Heap->Prop}
def zb(K:zGj prog w T r d n P OK)(hh:A.handled=none)(hok:OK s.heap)(hn:n<=zAY)
  (h:∀h' tk vs,s.heap.objs.size<h'.objs.size->(∀b o,s.heap.get? b=some o->h'.get? b=some o)->vs.length=n->(∀(j:Nat) v,vs[j]? =some v->P j v)->Q vs {s with heap:=h',toks:=tk}):wpAny (model prog w) A (collect (.ref r)) Q E s:=by
 have hlt:=K.there _ hok;unfold collect;refine zAD (wpAny_runValue (zB1 PySem.F.entry_proto_collect ?_));rw[zBL PySem.F.plain_proto_collect _];show wpAny _ A.in1 (zHP []>>=λ l=>again (.builtin "list.__iadd__" ⟨[l,.ref r],[]⟩)) _ _ s;refine zAD (zC2 (zAN ⟨zCq zFD _,zB1 PySem.F.entry_list_iadd ?_⟩));rw[zBL zFD _];show wpAny _ A.in1 (Builtin.List.listExtendWith (.ref s.heap.objs.size) (.ref r) (.ref s.heap.objs.size)) _ _ _;have fin:∀h' tk acc' c',(∀b o,b≠s.heap.objs.size->(s.heap.push (zFi "list" #[] 0)).get? b=some o->h'.get? b=some o)->h'.get? s.heap.objs.size=some {cls:=.type "list",dict:=none,data:=.seq acc' c',slots:=#[]}->ItemsOf P acc' n->
   wpAny (model prog w) A (do match (zB0 s.heap.objs.size)with
    | .ref a=>match (<-load a).data with
     | .seq xs _=>pure xs.toList
     |_=>unsupported "internal:collect"
    |_=>unsupported "internal:collect") Q E {s with heap:=h',toks:=tk}:=λ h' tk acc' c' hk hS' kX=>
  zAD (wpAny_load hS' (zAN (h h' tk acc'.toList (zAM hS') (λ b o e=>hk b o (zA1 (zAM e)) (zAH _ e)) (by rw[zA0];exact kX.1) λ j v e=>kX.2 j v (by rw[<-zBg];exact e))))
 refine zB4 (PySem.W.kdl_extend (A:=A) (s:={s with heap:=s.heap.push (zFi "list" #[] 0)}) (R:=λ r s'=>∃h' tk acc' c',r= .ok (.ret (.ref s.heap.objs.size))/\s'={s with heap:=h',toks:=tk}/\(∀b o,b≠s.heap.objs.size->(s.heap.push (zFi "list" #[] 0)).get? b=some o->h'.get? b=some o)/\h'.get? s.heap.objs.size=some {cls:=.type "list",dict:=none,data:=.seq acc' c',slots:=#[]}/\ItemsOf P acc' n)
  K hh (K.keep _ _ hok λ b _ o e=>zAH _ e) s.heap.objs.size (zCM hlt.1) (zCM hlt.2) (.ref s.heap.objs.size) 0 (zAR _ rfl) (λ h' tk acc' c' hk hS' kX=>⟨h',tk,acc',c',rfl,rfl,hk,hS',kX⟩) hn) (λ f s' hf=>?_) λ e s' he=>?_
 .cases f with
  |done f=>
   obtain⟨h',tk,acc',c',q1,q2,q3,q4,q5⟩:=hf;cases q1;subst q2;exact fin h' tk acc' c' q3 q4 q5
  |again c=>
   refine⟨hf.1,zDH hf.2 λ r s' hr=>?_⟩;obtain⟨h',tk,acc',c',q1,q2,q3,q4,q5⟩:=hr;subst q1 q2;exact fin h' tk acc' c' q3 q4 q5
 .obtain⟨h',tk,acc',c',q1,_⟩:=he
  cases q1
end
def wY(h:l.Perm m'):∀{m:List α},m'=m.map f->∃m2:List α,m2.Perm m/\l=m2.map f:=by
 induction h with
 |nil=>intro m e;exact⟨m,zBZ _,e⟩
 |cons x p ih=>
  intro m e;cases m with
  |nil=>cases e
  |cons a m=>
   rw[zA7]at e;injection e with e1 e2
   obtain⟨m2,q1,q2⟩:=ih e2;exact⟨a::m2,q1.cons a,by rw[zA7,q2,e1]⟩
 |swap x y l=>
  intro m e;cases m with
  |nil=>cases e
  |cons a m=>
   cases m with
   |nil=>rw[zA7]at e;injection e with _ e2;cases e2
   |cons b m=>
    rw[zA7,zA7]at e;injection e with e1 e2
    injection e2 with e2 e3
    exact⟨b::a::m,zDg _ _ _,by rw[zA7,zA7,e1,e2,e3]⟩
 |trans p q ih1 ih2=>
  intro m e;obtain⟨m2,a1,a2⟩:=ih2 e;obtain⟨m3,b1,b2⟩:=ih1 a2;exact⟨m3,b1.trans a1,b2⟩
section
variable{prog:zAP}{w:World}{A:zAZ}{E:Value->zAB->Prop}{s:zAB}
def wA(h:wpAny (model prog w) A.in1 (collect v) (λ vs s'=>wpAny (model prog w) A.in1 (zHP vs>>=λ l=>zDQ [l] (call (.builtin "list.sort") [l])>>=λ _=>ret l) (λ fin s'=>∃r,fin= .done (.ret r)/\Q r s') E s') E s):
  wpAny (model prog w) A (call (.builtin "sorted") [v]) Q E s:=by
 refine Calls.call_function_entry kind_sorted plain_sorted entry_sorted (args_sorted1 _) ?_;unfold zDZ.«sorted»;refine zAD (m:=checkCount "sorted" 1 1 _) (zAN (zAD ?_));exact h
end
inductive aFE(K:zAA)(H:Hp):List V->List (List Int)->Prop where
 |nil:aFE K H [] []
 |cons {a:Addr} {ns:List Int} {vs:List V} {nss:List (List Int)} (h:SqT K H a (ns.map V.int)) (hne:ns≠[]) (r:aFE K H vs nss):aFE K H (.ref a::vs) (ns::nss)
abbrev tupI(ns:List Int):D:=.tup (ns.map .int)
def insI(a:Int):List Int->List Int
 |[]=>[a]
 |b::l=>if b<a then b::insI a l else a::b::l
def sortI:List Int->List Int
 |[]=>[]
 |a::l=>insI a (sortI l)
theorem insI_perm(a:Int):∀l,(insI a l).Perm (a::l)
 |[]=>zBZ _
 |b::l=>by
  unfold insI;split
  .exact((insI_perm a l).cons b).trans (zDg _ _ _)
  .exact zBZ _
theorem sortI_perm:∀l,(sortI l).Perm l
 |[]=>zBZ _
 |a::l=>(insI_perm a _).trans ((sortI_perm l).cons a)
theorem zV(a:Int):∀l:List Int,l.Pairwise (·<=·)->(insI a l).Pairwise (·<=·)
 |[],_=>zBM.mpr ⟨λ _ h=>by simp at h,.nil⟩
 |b::l,h=>by
  obtain⟨h1,h2⟩:=zBM.mp h;unfold insI;by_cases e:b<a
  .rw[if_pos e]
   refine zBM.mpr ⟨λ x hx=>?_,zV a l h2⟩;rcases zAX.mp ((insI_perm a l).mem_iff.mp hx)with q|q
   .lia
   .exact h1 x q
  .rw[if_neg e]
   refine zBM.mpr ⟨λ x hx=>?_,h⟩;rcases zAX.mp hx with q|q
   .lia
   .have:=h1 x q;lia
theorem jX:∀l,(sortI l).Pairwise (·<=·)
 |[]=>.nil
 |a::l=>zV a _ (jX l)
theorem oE:∀{us:List Value} {ns:List Int},zBO us ns->Vals (ns.map V.int) us
 |_,_,.nil=>.nil
 |_,_,.cons n t r=>.cons ⟨t,rfl⟩ (oE r)
structure Mg{β:Type}(r:β->β->Prop)(T out ra rb:List β):Prop where
 pm:(out++(ra++rb)).Perm T
 so:out.Pairwise r
 lo:∀x∈out,∀y∈ra++rb,r x y
 sa:ra.Pairwise r
 sb:rb.Pairwise r
section
variable{β:Type}{r:β->β->Prop}{T:List β}
def Mf(r:β->β->Prop)(T o:List β):Prop:=o.Perm T/\o.Pairwise r
end
structure Eg(st st':zCw):Prop where
 k:zCy st'=zCy st
 a:arrOf st'=arrOf st
 p:zFg st'=zFg st
 f:zGY st'=zGY st
abbrev LS:=Option (Array Keyed)×Array Keyed×Nat×Nat×Nat×Nat×Nat
section
variable{O:zC1}{kf:Keyed->O.α}{T:List Keyed}{a b out:Array Keyed}{ia ib mg ac bc m0:Nat}{st:zCw}{Q:ForInStep LS->zCw->Prop}
abbrev rK(O:zC1)(kf:Keyed->O.α)(x y:Keyed):Prop:=O.kle (kf x) (kf y)
abbrev Ml(O:zC1)(kf:Keyed->O.α)(T:List Keyed)(a b out:Array Keyed)(ia ib:Nat):Prop:=Mg (rK O kf) T out.toList (a.toList.drop ia) (b.toList.drop ib)
structure Tu(O:zC1)(kf:Keyed->O.α)(T:List Keyed)(a b:Array Keyed)(m0:Nat)(st:zCw)(Q:ForInStep LS->zCw->Prop):Prop where
 ret:∀o out ia ib mg ac bc st',Eg st st'->Mf (rK O kf) T o.toList->Q (.done (some o,out,ia,ib,mg,ac,bc)) st'
 on:∀out ia ib mg ac bc st',Eg st st'->Ml O kf T a b out ia ib->ia+1<a.size->ib<b.size->m0<ia+ib->Q (.done (none,out,ia,ib,mg,ac,bc)) st'/\Q (.yield (none,out,ia,ib,mg,ac,bc)) st'
end
abbrev HS:=Option (Array Keyed)×Nat×Nat×Array Keyed×Nat×Nat×Nat
section
variable{O:zC1}{kf:Keyed->O.α}{T:List Keyed}{a b out:Array Keyed}{na nb mg ac bc m0:Nat}{st:zCw}{Q:ForInStep HS->zCw->Prop}
abbrev rH(O:zC1)(kf:Keyed->O.α)(x y:Keyed):Prop:=O.kle (kf y) (kf x)
abbrev Mh(O:zC1)(kf:Keyed->O.α)(T:List Keyed)(a b out:Array Keyed)(na nb:Nat):Prop:=Mg (rH O kf) T out.toList (a.toList.take na).reverse (b.toList.take nb).reverse
structure Th(O:zC1)(kf:Keyed->O.α)(T:List Keyed)(a b:Array Keyed)(m0:Nat)(st:zCw)(Q:ForInStep HS->zCw->Prop):Prop where
 ret:∀o na nb out mg ac bc st',Eg st st'->Mf (rK O kf) T o.toList->Q (.done (some o,na,nb,out,mg,ac,bc)) st'
 on:∀na nb out mg ac bc st',Eg st st'->Mh O kf T a b out na nb->0<na->1<nb->na<=a.size->nb<=b.size->na+nb<m0->Q (.done (none,na,nb,out,mg,ac,bc)) st'/\Q (.yield (none,na,nb,out,mg,ac,bc)) st'
end
structure Ea(st st':zCw):Prop where
 k:zCy st'=zCy st
 p:zFg st'=zFg st
 f:zGY st'=zGY st
section
variable{κ:zDE}{G:Keyed->Prop}{st:zCw}{P R:List Keyed}{lo:Nat}
structure Sg(κ:zDE)(G:Keyed->Prop)(st:zCw)(lo:Nat)(P R:List Keyed):Prop where
 k:zCy st=κ
 l:(arrOf st).toList=P++R
 p:P.length=lo
 g:∀x∈R,G x
end
def Pr(O:zC1)(kf:Keyed->O.α):Nat->List (List Keyed)->List (Nat×Nat×Nat)->Prop
 |_,[],[]=>True
 |o,x::segs,p::ps=>p.1=o/\p.2.1=x.length/\0<x.length/\x.Pairwise (rK O kf)/\Pr O kf (o+x.length) segs ps
 |_,_,_=>False
section
variable{κ:zDE}{O:zC1}{kf:Keyed->O.α}{st:zCw}{T R:List Keyed}{segs:List (List Keyed)}
structure Rn(κ:zDE)(O:zC1)(kf:Keyed->O.α)(T:List Keyed)(st:zCw)(segs:List (List Keyed))(R:List Keyed):Prop where
 k:zCy st=κ
 f:zGY st=none
 l:(arrOf st).toList=segs.flatten++R
 pm:(arrOf st).toList.Perm T
 pr:Pr O kf 0 segs (zFg st).toList
end
def ddI(ns:List Int):List Int:=ns.foldl zBf []
def aEm(ns:List Int)(n:Int):ddI (ns++[n])=zBf (ddI ns) n:=by unfold ddI;rw[List.foldl_append];rfl
def aG3(hl:l.Nodup)(n:Int):(zBf l n).Nodup/\∀x,x∈zBf l n↔x∈l\/x=n:=by
 unfold zBf;by_cases h:l.any (·==n)=true
 .rw[if_pos h]
  have:n∈l:=by simpa using h
  exact⟨hl,λ x=>⟨.inl,λ q=>q.elim id λ e=>e▸this⟩⟩
 .rw[if_neg h]
  have:n∉l:=by simpa using h
  refine⟨zD5.mpr ⟨hl,by simp,λ x hx y hy e=>?_⟩,λ x=>by simp⟩;rw[zBD]at hy;subst hy;subst e;exact this hx
theorem aEk:∀(ns acc:List Int),acc.Nodup->(ns.foldl zBf acc).Nodup/\∀x,x∈ns.foldl zBf acc↔x∈acc\/x∈ns
 |[],acc,h=>⟨h,λ x=>by simp⟩
 |n::ns,acc,h=>by
  obtain⟨h1,h2⟩:=aG3 h n;obtain⟨h3,h4⟩:=aEk ns _ h1;refine⟨h3,λ x=>?_⟩;rw[zCI,h4,h2,zAX];constructor
  .rintro((a|a)|a)
   .exact .inl a
   .exact .inr (.inl a)
   .exact .inr (.inr a)
  .rintro(a|a|a)
   .exact .inl (.inl a)
   .exact .inl (.inr a)
   .exact .inr a
def vX(ns:List Int):(ddI ns).Nodup:=(aEk ns [] (by simp)).1
def aBZ(ns:List Int)(x:Int):x∈ddI ns↔x∈ns:=by
 have:=(aEk ns [] (by simp)).2 x
 unfold ddI;simpa using this
def aEn(ns:List Int):(ddI ns).length<=ns.length:=sub_len (vX ns) λ x hx=>(aBZ ns x).mp hx
section
variable{K:zAA}{G:Gx}{wi:TI}{fi:En->Rs (List D)}{g:TG}{fg:D->En->Rs En}{tt:TT}
def aHU(hi:aIz K G wi fi)(hg:aJA K {G with E:=λ _ _ _=>False} g fg)(hfg:∀d,∃Y1,fg d [.no]= .ok Y1)(ht:aCm K {G with E:=λ _ _ _=>False} tt jK)(R:RR K G U Y Z H lab)
  (W:WR G (fi (shE Y)) (λ ds=>ds.length<zAY/\∀(l:Addr) (as:List Addr) H',aO H H'->H l=none->H' l=some (.lst (as.map V.ref))->(l::as).Nodup->as.length=ds.length->(∀a∈as,H a=none/\H' a=some (.lst []))->Q (.ref l) H')):
  tLC wi (stV [none]) g tt (aCt oG) Z H Q:=by
 refine hi U Z H _ _ _ R.shE (W.imp λ ds _ w J H1 lab1 U1 s1 _ R1 jl=>?_);obtain⟨hW,w⟩:=w;intro l hl;have hHl:H l=none:=s1.free hl;have nl:∀p o,H1 p=some o->p≠l:=λ p o e z=>by subst z;rw[hl]at e;cases e
 have RB:RR K {G with E:=λ _ _ _=>False} (U1++U) [.no] (stV [none] Z) H1 (λ p=>if p=l then(2,0)else(0,0)):=by
  refine⟨rfl,λ i s e=>?_,R1.old,λ p hp=>?_,λ q hq=>(R1.tm q hq).wk λ p o e _=>by rw[if_neg (nl p o e)];exact zAg _⟩
  .match i,e with
   |0,e=>cases e;exact .inl rfl
   |i+1,e=>simp at e
  .by_cases z:p=l
   .subst z;exact R1.old.free hl
   .exact absurd (show(if p=l then((2,0):Nat×Nat)else(0,0)).1=0 by rw[if_neg z]) hp
 have bE:¬((λ p=>if p=l then((2,0):Nat×Nat)else(0,0)) l).1<=1:=by simp
 refine⟨λ i n acc H2=>∃as:List Addr,n=ds.length-i/\i<=ds.length/\acc=as.map V.ref/\H2 l=some (.lst acc)/\RR K {G with E:=λ _ _ _=>False} (U1++U) [.no] (stV [none] Z) H2 (λ p=>if p=l then(2,0)else(0,0))/\aO H H2/\as.length=i/\(l::as).Nodup/\∀a∈as,H a=none/\H2 a=some (.lst []),
  ⟨ds.length,[],by omega,by omega,rfl,bA,RB.up (cJ hl _),s1.trans (cJ hl _),rfl,by simp,λ a h=>by simp at h⟩,?_⟩
 rintro i n acc H2 ⟨as,rfl,hi',rfl,hH2,R2,s2,hlen2,hnd,hal⟩;refine⟨hH2,by rw[zAF];omega,?_⟩;have jj:=jl _ H2 λ q hq=>R2.tm q (zAh _ hq)
 by_cases hlt:i<ds.length
 .obtain⟨go,yl⟩:=(jj i).2 hlt
  refine .inr ⟨go,λ x H3 hy=>?_⟩;obtain⟨s3,d,ed,rx⟩:=yl x H3 hy;replace R2:=R2.up s3;replace hH2:=s3 _ _ hH2;replace s2:=s2.trans s3;replace hal:=λ a ha=>(⟨(hal a ha).1,s3 _ _ (hal a ha).2⟩:H a=none/\H3 a=some (.lst []))
  obtain⟨Y1,e1⟩:=hfg d;refine hg (U1++U) x d _ H3 _ _ _ Y1 R2 rx e1 λ Z4 R4=>?_
  refine ht (U1++U) Z4 H3 Y1 _ _ R4 λ H5 s5=>?_
  rw[if_pos rfl];refine⟨zAg _,λ p H6 s6 hp hn=>?_⟩;have hl6:H6 l=some (.lst (as.map V.ref)):=s6 _ _ (s5 _ _ hH2);have hpl:p≠l:=λ z=>by subst z;rw[s5 _ _ hH2]at hn;cases hn
  have hpa:p∉as:=λ z=>by
   have:=s5 _ _ (hal p z).2
   rw[hn]at this;cases this
  have hpH:H p=none:=(s2.trans s5).free hn;have B:lW l H6 (upd H6 l (.lst (as.map V.ref++[.ref p]))):=λ b o ne hb=>by rw[aX ne];exact hb
  refine⟨hl6,ds.length-(i+1),by omega,as++[p],rfl,hlt,by rw[zBX];rfl,bA,?_,?_,by rw[zAs];simp;omega,?_,λ a ha=>?_⟩
  .have R6:=R2.up (s5.trans s6)
   refine⟨R6.len,λ j s e=>?_,λ b o hb=>?_,R6.new,λ q hq=>(R6.tm q hq).but B hl6 rfl bE⟩
   .match j,e with
    |0,e=>cases e;exact .inl rfl
    |j+1,e=>simp at e
   .exact B b o (λ z=>by subst z;rw[R1.old.free hl]at hb;cases hb) (R6.old b o hb)
  .exact λ b o hb=>B b o (λ z=>by subst z;rw[hHl]at hb;cases hb) (((s2.trans s5).trans s6) b o hb)
  .obtain⟨n1,n2⟩:=zAl.mp hnd
   refine zAl.mpr ⟨λ z=>?_,zD5.mpr ⟨n2,by simp,λ x hx y hy e=>?_⟩⟩
   .rcases zBI.mp z with z|z
    .exact n1 z
    .exact hpl (zBD.mp z).symm
   .rw[zBD]at hy
    subst hy;subst e;exact hpa hx
  .rcases zBI.mp ha with z|z
   .refine⟨(hal a z).1,?_⟩
    rw[aX λ q=>by subst q;exact(zAl.mp hnd).1 z];exact s6 _ _ (s5 _ _ (hal a z).2)
   .rw[zBD]at z
    subst z;exact⟨hpH,by rw[aX hpl];exact hp⟩
 .have ei:i=ds.length:=by omega
  exact .inl ⟨by rw[ei];exact(jj _).1 (zAW _),w l as H2 s2 hHl hH2 hnd (by omega) hal⟩
end
section
variable{C:Ct}{pos lpos:Pos}{tg iter:Expr}{sc:Scope}{N:List Str}{js:hZ}{ks:List Nat}{fi:En->Rs (List D)}{fg:D->En->Rs En}
def llS(i:Nat)(fi:En->Rs (List D))(js:hZ)(fg:D->En->Rs En):En->Ou:=λ Y=>(fi (shE Y)).bo λ ds=>if ds.length<zAY then .nx (Y.set i (.o2 (zAQ ds.length [])))else .st
def aJR(hi:SI C tg iter fi)(hg:SG (C.blk sc N) tg ks fg)(hj:js=[none]:=by rfl)(hfg:∀d,∃Y1,fg d [.no]= .ok Y1:=by intro _;exact⟨_,rfl⟩)(hN:∀j,(C.X j).N[i]? =some x:=by intro _;rfl)(hx:∀j,Loc (C.X j).env.scope x:=by intro _;first|exact zCg rfl|exact zBx rfl)(hsw:∀j,zDI (.ListComp (.List [] lpos) [⟨tg,iter,[],0⟩] sc pos) (some (.Name x pos')) spos.line (C.X j).env=pure true:=by intro _;rfl)(hs:∀i x,zBz iter (C.X i).env x=pure x:=by intro _ _;rfl)(hf:∀j,(C.X j).fn x=true\/(C.X j).env.scope.names.lookup x=some .local:=by intro _;first|exact .inl rfl|exact .inr rfl)(nd:∀j,(C.X j).N.Nodup:=by intro _;assumption)(hB:∀i,gK (C.X i) sc N (stV js) ks:=by intro _;exact aAr rfl rfl rfl rfl rfl rfl):
  SS C (.Assign [.Name x pos'] (.ListComp (.List [] lpos) [⟨tg,iter,[],0⟩] sc pos) spos) (llS i fi js fg):=by
 subst hj;obtain⟨wi,i1,i2⟩:=hi;obtain⟨g,g1,g2,g3,g4⟩:=hg;obtain⟨tt,t1,t2⟩:=ji (C:=C.blk sc N);refine⟨_,λ j=>yh (nd j) (hN j) (hx j) (hB j) (C.calm j) (i1 j) (λ c fp z5 zI=>g1 (j,c,fp,z5,zI)) g3 (λ c fp z5 zI=>t1 (j,c,fp,z5,zI)) (λ c fp z5 zI=>jq cM) (hsw j) (hs j) (hf j),λ U Z H Y lab De R W=>?_⟩;refine aHU i2 g2 hfg t2 R (W.bo.imp λ ds _ w=>?_);by_cases hl:ds.length<zAY
 .rw[if_pos hl]at w
  refine⟨hl,λ l as H' s hn hH hnd hW hal=>?_⟩;have qV:∀p o,H p=some o->(λ p=>if p=l then(i+2,0)else if p∈as then(i+2,as.idxOf p+1)else cN H 1 lab p) p=lab p:=λ p o e=>by
   dsimp only;have z1:p≠l:=λ z=>by subst z;rw[hn]at e;cases e
   have z2:p∉as:=λ z=>by rw[(hal p z).1]at e;cases e
   rw[if_neg z1,if_neg z2,bR e]
  have R':RR C.K C.G U Y Z H' (λ p=>if p=l then(i+2,0)else if p∈as then(i+2,as.idxOf p+1)else cN H 1 lab p):=by
   refine(R.relab qV λ p hp=>?_).up s;cases e:H p with
   |none=>exact R.old.free e
   |some o=>
    have:=qV p o e
    dsimp only at this hp;rw[this]at hp;exact R.new p hp
  refine w _ _ _ (R'.put (s:=.o2 (zAQ ds.length [])) ⟨l,as.map V.ref,rfl,hH,by dsimp only;rw[if_pos rfl],by rw[zAF,zCK];exact hW,λ j x es e1 e2=>?_⟩);rw[zAL,zCD]at e1;obtain⟨a,e1,rfl⟩:=e1;have ees:es=[]:=by
   rw[zCb]at e2;split at e2
   .cases e2;rfl
   .cases e2
  subst ees;have ha:a∈as:=zAq e1;have hla:a≠l:=λ z=>by subst z;exact(zAl.mp hnd).1 ha
  have hj2:j<as.length:=(zAG.mp e1).1;refine .lst (hal a ha).2 ?_ .nil
  show(if a=l then(i+2,0)else if a∈as then(i+2,as.idxOf a+1)else cN H 1 lab a)=(i+2,j+1)
  rw[if_neg hla,if_pos ha];have hix:as.idxOf a<as.length:=List.idxOf_lt_length_iff.mpr ha
  have:as[as.idxOf a]? =some a:=by rw[zAC hix];exact congrArg some (List.getElem_idxOf hix)
  have:=(List.getElem?_inj hix (zAl.mp hnd).2).mp (this.trans e1.symm)
  rw[this]
 .rw[if_neg hl]at w
  exact zAJ w
end
def aJg:∀{us:List α},us.length=6->∃a0 a1 a2 a3 a4 a5,us=[a0,a1,a2,a3,a4,a5]
 |[a0,a1,a2,a3,a4,a5],_=>⟨a0,a1,a2,a3,a4,a5,rfl⟩
def mW(j:Int):List Int:=(zAU j.toNat).map λ(k:Nat)=>0+(k:Int)
def aJW:List V->Hp->VK->Prop:=λ xs H Q=>∃j:Int,xs=[.int j]/\∀p,H p=none->Q (.ref p) (upd H p (.rng 0 j))
def aEs:dM X (.type "range") aJW:=by
 intro hV s Z H vs us Q I rv h;obtain⟨j,rfl,q⟩:=h;obtain⟨u,rfl,ru⟩:=rv.one;obtain⟨t,rfl⟩:=ru;exact call_range_1 ⟨.ref s.heap.objs.size,_,I.laid (a:=s.heap.objs.size) (o:=.rng 0 j) (t':=s.toks+1+1) (λ _ _ q=>zAH _ q) (zAW _) ⟨_,_,_,zAR _ rfl⟩,rfl,q _ (I.hok.fresh (zAW _))⟩
def yg:List V->Hp->VK->Prop:=λ xs H Q=>∃(p:Addr) (j:Int),xs=[.ref p]/\H p=some (.rng 0 j)/\-(2^62)<=j/\j<=10000/\∀l H',aO H H'->H l=none->H' l=some (.lst ((mW j).map V.int))->Q (.ref l) H'
def aFL:∀{ns:List Int} {us:List Value},ns.length=us.length->(∀(k:Nat) i,ns[k]? =some i->∃tk,us[k]? =some (.int i tk))->Vals (ns.map V.int) us:=by
 intro ns;induction ns with
 |nil=>intro us hl _;rw[List.eq_nil_of_length_eq_zero hl.symm];exact .nil
 |cons n ns ih=>
  intro us hl h;obtain⟨tk,e⟩:=h 0 n rfl;cases us with
  |nil=>cases e
  |cons u us=>
   have e':u= .int n tk:=zA8 e;subst e';exact .cons ⟨tk,rfl⟩ (ih (zFR hl) λ k i hi=>h (k+1) i hi)
def xr(hc:X.calm=true):dM X (.type "list") yg:=by
 intro hV s Z H vs us Q I rv h;obtain⟨p,j,rfl,hp,h1,h2,q⟩:=h;obtain⟨u,rfl,ru⟩:=rv.one;cases ru;obtain⟨t,u,v,hg⟩:=I.hok p _ hp;have hsz:zDG 0 j 1=(j.toNat:Int):=by
  unfold zDG;simp only[show(1:Int)>0 by decide,if_true];split<;>lia
 refine call_list_range (n:=j.toNat) (I.ok.hd hc) hg ?_ hsz (by lia) λ h' tk acc c' hk hS kX=>?_
 .have fl:∀x:Int,-(2^62)<=x->x<=2^62->zEB x=true:=λ x hx1 hx2=>by
   unfold zEB;simp;lia
  unfold zH5;rw[hsz,fl 0 (by lia) (by lia),fl j (by lia) (by lia),fl 1 (by lia) (by lia),fl _ (by lia) (by lia),if_pos (by decide),fl (j+(1-1)) (by lia) (by lia),zH4];rfl
 .have hfr:=I.hok.fresh (zAW s.heap.objs.size)
  have hv:Vals ((mW j).map V.int) acc.toList:=by
   have hl:(mW j).length=acc.toList.length:=by rw[show acc.toList.length=acc.size from zA0,kX.1];simp[mW]
   refine aFL hl λ k i hi=>?_
   have hk2:k<acc.size:=by rw[kX.1];have:=(zAG.mp hi).1;simpa[mW]using this
   obtain⟨tk,e⟩:=kX.2 k acc[k] (zCW hk2);refine⟨tk,?_⟩;have ei:i=0+(k:Int)*1:=by
    unfold mW at hi;rw[zAL]at hi;cases c:(zAU j.toNat)[k]? with
    |none=>rw[c]at hi;cases hi
    |some m=>
     rw[c]at hi;cases hi
     have:=zAG.mp c
     have:m=k:=by simpa using this.2.symm
     subst this
     show(0:Int)+(m:Int)=0+(m:Int)*1
     lia
   rw[ei,<-e];simp[hk2]
  refine⟨.ref s.heap.objs.size,upd H s.heap.objs.size (.lst ((mW j).map V.int)),I.laid (t':=tk) hk (zAW _) ⟨?_,acc.toList,c',hv,by simpa using hS⟩,rfl,q _ _ (cJ hfr _) hfr bA⟩;simp[mW]
  have:zAY=16777216:=zDB
  lia
def lrR:D->Rs D
 | .int j=>if -(2^62)<=j/\j<=10000 then .ok (.lst (cL 0 j))else .st
 |_=>.st
def lrD(fa:En->Rs D):En->Rs D:=λ Y=>(fa Y).bd lrR
def aCC(j:Int):cL 0 j=(mW j).map D.int:=by
 unfold cL mW;rw[zBC,Int.sub_zero];rfl
section
variable{C:Ct}{pos pos2 p p2:Pos}{a:Expr}{fa:En->Rs D}{m:Mode}
def aAK(hmL:C.mg "list"=none)(hmR:C.mg "range"=none)(ha:SE C m a fa)(hs:∀i,zAT [a] (C.X i).env=[(false,eval a (C.X i).env)]:=by intro _;rfl)(hs2:∀i,zAT [.Call (.Name "range" p2) [a] [] pos2] (C.X i).env=[(false,eval (.Call (.Name "range" p2) [a] [] pos2) (C.X i).env)]:=by intro _;rfl)(hgL:∀i,Gl (C.X i) "list":=by intro _;rfl)(hvL:zAr "list"=some (.type "list"):=by decide+kernel)(hgR:∀i,Gl (C.X i) "range":=by intro _;rfl):SE C (some []) (.Call (.Name "list" p) [.Call (.Name "range" p2) [a] [] pos2] [] pos) (lrD fa):=by
 obtain⟨t,h1,h2⟩:=ha;refine⟨tCB yg (gw (tCB aJW (gw t oG)) oG),λ i=>lw (xr (C.calm i)) (hgL i) (by rw[(C.cx i).2.2.2.1];exact hmL) hvL (aW (lw aEs (hgR i) (by rw[(C.cx i).2.2.2.1];exact hmR) zHh (aW (h1 i) cM (hs i)) (by decide) (by decide) (hs i) rfl) cM (hs2 i)) (by decide) (by decide) (hs2 i) rfl,λ U Z H Y lab Q R W=>?_⟩;refine h2 U Z H Y lab _ R (W.bd.imp λ d _ w y H1 s1 r1=>?_);unfold lrR at w;split at w
 .rename_i j _
  by_cases hz: -(2^62)<=j/\j<=10000
  .rw[if_pos hz]at w
   have ey:=r1.int_inv;subst ey;refine⟨j,rfl,λ q hq=>⟨q,j,rfl,bA,hz.1,hz.2,λ l H' s' hl hH'=>?_⟩⟩;have s0:=(s1.trans (cJ hq _)).trans s';have hlH:H l=none:=(s1.trans (cJ hq _)).free hl;refine w _ H' s0 (.lst hH' (.inl hlH) ?_);rw[aCC];exact Rps.ints
  .rw[if_neg hz]at w
   exact zAJ w
 .exact zAJ w
end
def aJs(Y:En)(i:Nat)(ds:List Int):D->Ou
 | .int z=>if ds.length<4000 then .nx (Y.set i (.ow (.set (zBf ds z))))else .st
 |_=>.st
abbrev Ent:=List Int×Addr×V
def aC8(p:Int×Tok):Int×Value:=(hashInt p.1,.int p.1 p.2)
def zr(h:Heap)(a:Addr)(led:Bool)(ks:List Int):Prop:=∃es ep t,h.get? a=some (bj es ep t)/\fC t es.size/\t.led=led/\∃tks:List (Int×Tok),tks.map (·.1)=ks/\es.toList.Perm (tks.map aC8)
section
variable{prog:zAP}{w:World}{A:zAZ}{E:Value->zAB->Prop}{s:zAB}{a:Addr}{led:Bool}{ks:List Int}
def aAp{es:Array (Int×Value)}{tks:List (Int×Tok)}(hp:es.toList.Perm (tks.map aC8)):ElemsOf (zDA prog w) es.toList:=λ e he=>by
 obtain⟨p,_,rfl⟩:=zAf.mp (hp.mem_iff.mp he);exact⟨⟨p.1,zFM _ _ _ _,rfl⟩,rfl⟩
def aCY(T:fC t es.size)(h63:es.size<63)(h:Int)(x:Value):∃j,layNew t es h x=(zAv es (t.put j).2 (h,x),(t.put j).1,false,false)/\lU (t.put j).1 (es.size+1)/\(t.put j).1.led=t.led:=by
 obtain⟨j,j1,j2,j3⟩:=aAW (hashAt:=λ _=>h+1) T (h:=h) λ i hi=>by omega
 obtain⟨P,p1,p2,p3,p4⟩:=aH8 T (by lia) j1 j2;have hes:(zAv es (t.put j).2 (h,x)).size=es.size+1:=oW _ _ _;refine⟨j,?_,P,p4⟩;have hf:t.freeSlot h=some (j,false):=by unfold SetTable.freeSlot;rw[j3];rfl
 unfold layNew SetTable.orStandIn;rw[hf];dsimp only;rw[hes,P.fits];rfl
def ye(P:lU t n)(hn:es.size=n)(h5:n=5\/n=19):∃es' t',relayAll t es (zEi es.size)=(es',t',false)/\fC t' es'.size/\t'.led=t.led/\es'.toList.Perm es.toList:=by
 obtain⟨t',order,r1,r2,r3,r4⟩:=aDX P.pla h5 (es.map (·.1)) (by rw[Array.size_map];exact hn);have kK:(order.filterMap (es[·]?)).toList.Perm es.toList:=by
  rw[Array.toList_filterMap];refine(r4.filterMap _).trans ?_;rw[<-hn,filterMap_getElem?_range]
 have hes:(order.filterMap (es[·]?)).size=n:=by rw[<-zA0,kK.length_eq,zA0,hn]
 refine⟨order.filterMap (es[·]?),t',?_,by rw[hes];exact r2,r3,kK⟩;unfold relayAll;rw[hn,r1];have hc:coversAll order n=true:=List.isPerm_iff.mpr r4;dsimp only;rw[hes,hc,r2.fits];rfl
def aFU(S:zr s.heap a led ks)(h63:ks.length<63)
  (q:∀h' b,zDo a s.heap h'->zr h' a led (zBf ks k)->Q b {s with heap:=h',toks:=s.toks+1}):wpAny (model prog w) A (setAdd a (.int k tk)) Q E s:=by
 obtain⟨es,ep,t,ho,T,hl,tks,hk,hp⟩:=S;have hel:ElemsOf (zDA prog w) es.toList:=aAp hp;have hsz:es.size=ks.length:=by rw[<-zA0,hp.length_eq,zAF,<-hk,zAF]
 have hb:es.size<scanBound:=by rw[hsz];unfold scanBound;omega
 have hany:∀e∈es.toList,(zDA prog w).is k e.2=true->k∈ks:=λ e he hi=>by
  obtain⟨p,hpm,rfl⟩:=zAf.mp (hp.mem_iff.mp he)
  have:k=p.1:=(zDA prog w).inj _ k p.1 hi (zFM _ _ _ _)
  rw[this,<-hk];exact zGH hpm
 unfold setAdd;refine zCG (zAD ((zDA prog w).pyHash (k:=k) (zFM _ _ _ _) ?_));unfold setAddHashed setAddHashedIn;refine zCG (zAD (zC3 (s:={s with toks:=s.toks+1}) ho rfl T.fits ?_));dsimp only;rw[byScan_of (knd:=zDA prog w) rfl hb hel];simp only[↓reduceIte];unfold setAddByScan;refine zAD (zAD (wpAny_rule (zAD (wpAny_setScan_of (knd:=zDA prog w) (s:={s with toks:=s.toks+1}) (zFM _ _ _ _) ho rfl T.fits hel ?_))));cases hr:List.findIdx? (λ e=>(zDA prog w).is k e.2) es.toList with
 |some j=>
  obtain⟨hj,hpj,_⟩:=List.findIdx?_eq_some_iff_getElem.mp hr;have hin:=hany _ (zCC hj) hpj;dsimp only;refine zAN (zAN (q s.heap _ (Heap.SameBut.refl a s.heap) ?_))
  have:zBf ks k=ks:=by unfold zBf;rw[if_pos (zEe.mpr ⟨k,hin,by simp⟩)]
  rw[this];exact⟨es,ep,t,ho,T,hl,tks,hk,hp⟩
 |none=>
  have hno:k∉ks:=λ hin=>by
   rw[<-hk]at hin;obtain⟨p,hpm,e⟩:=zAf.mp hin;have he:aC8 p∈es.toList:=hp.mem_iff.mpr (zGH hpm)
   have:=List.findIdx?_eq_none_iff.mp hr _ he
   rw[<-e]at this;have z:(zDA prog w).is p.1 (.int p.1 p.2)=false:=this;rw[zFM]at z;cases z
  have hstep:zBf ks k=ks++[k]:=by
   unfold zBf;rw[if_neg];intro h;obtain⟨y,hy,e⟩:=zEe.mp h;exact hno (by rw[<-zD2 e];exact hy)
  obtain⟨j,hL,P,pl⟩:=aCY T (by omega) ((zDA prog w).hash k) (.int k tk);have hes:(zAv es (t.put j).2 ((zDA prog w).hash k,zBq k tk)).size=es.size+1:=oW _ _ _;have kK:(zAv es (t.put j).2 ((zDA prog w).hash k,zBq k tk)).toList.Perm ((tks++[(k,tk)]).map aC8):=by
   have:=zFI es (t.put j).2 ((zDA prog w).hash k,zBq k tk)
   rw[zEX]at this;rw[zBX];exact this.trans (hp.append_right _)
  have htk:(tks++[(k,tk)]).map (·.1)=zBf ks k:=by rw[hstep,zBX,hk];rfl
  dsimp only;rw[hL];dsimp only;refine zAD (zAN ?_);rw[P.pla];simp only[↓reduceIte];refine zAD (zAN ?_);simp only[↓reduceIte];generalize zAv es (t.put j).2 ((zDA prog w).hash k,zBq k tk)=es1 at hes kK ⊢;generalize (t.put j).1=t1 at P pl ⊢;refine zAD (aCz (s:={s with toks:=s.toks+1}) ho (by omega) λ e1=>?_);simp only[zHM,Bool.true_and];cases hf:t1.tooFull with
  |true=>
   obtain⟨es2,t2,hR,T2,l2,p2⟩:=ye P hes (P.full (by omega) hf);simp only[↓reduceIte];rw[hR];dsimp only;refine zAD (zAN ?_);have hz2:es2.size<=63:=by rw[<-zA0,p2.length_eq,zA0];omega
   refine zAD (aCz e1 (by lia) λ e2=>zAN (zAN (q _ _ ((zBl s.heap a _).trans (zBl _ a _)) ⟨es2,_,t2,e2,T2,l2.trans (pl.trans hl),_,htk,p2.trans kK⟩)))
  |false=>
   simp only[zAo,if_false];exact zAN (zAN (q _ _ (zBl ..) ⟨es1,_,t1,e1,by rw[hes];exact P.still hf,pl.trans hl,_,htk,kK⟩))
def aBz{St:Nat->zAB->Prop}(W:WalksS prog w A.in1 I fp wr G n (λ i v=>vs.toArray[i]? =some v) St)(hSf:S∉fp)(hi:zBO vs ns)(hn:n=vs.length)(h64:n<64)(led:Bool):
  ∀(k i:Nat) (s:zAB),n-i=k->i<=n->St i s->zr s.heap S led (ddI (ns.take i))->(∀s',Moved (S::wr) G s s'->zr s'.heap S led (ddI ns)->R (.ok (.ret .none)) s')->
   zCP (model prog w) A (.builtin "set.update.loop" ⟨[.ref S,.ref I],[]⟩) R s:=by
 have hSw:S∉wr:=λ h=>hSf (W.sub _ h)
 have hsb:∀b∈wr,b∈S::wr:=λ b hb=>zAK _ hb
 have hW:vs.length=ns.length:=zGa hi;have keep:∀{h h':Heap} {ks:List Int},zr h S led ks->(∀o,h.get? S=some o->h'.get? S=some o)->zr h' S led ks:=λ⟨es,ep,t,e,r⟩ k=>⟨es,ep,t,k _ e,r⟩
 intro k;induction k with
 |zero=>
  intro i s hk hi' hst hS hR;have hin':i=n:=by omega
  subst hin';refine zB1 zD0 ?_;rw[zBL zCE _];show wpAny _ A.in1 (zE5 (.ref I)>>=_) _ _ s;refine zAD (W.done s _ _ hst λ s' hm=>zAN (hR s' (hm.mono hsb) ?_));rw[zFc (by omega)]at hS;exact keep hS λ o e=>hm.heap S _ hSw e
 |succ k ih=>
  intro i s hk hi' hst hS hR;have hlt:i<n:=by omega
  refine zB1 zD0 ?_;rw[zBL zCE _];show wpAny _ A.in1 (zE5 (.ref I)>>=_) _ _ s;refine zAD (W.item i s _ _ hlt hst λ v s' hP' hst' hm=>?_);have hP:vs[i]? =some v:=by simpa using hP'
  obtain⟨t,rfl⟩:=zGJ hi i v hP;have hS':zr s'.heap S led (ddI (ns.take i)):=keep hS λ o e=>hm.heap S _ hSw e
  have hle:(ddI (ns.take i)).length<63:=by
   have h1:=aEn (ns.take i);rw[zCu]at h1;omega
  have hnx:zBf (ddI (ns.take i)) (ns.getD i 0)=ddI (ns.take (i+1)):=by
   have hx:ns[i]? =some (ns.getD i 0):=by
    rw[zA3,zAC (by omega)];rfl
   rw[List.take_add_one,hx,<-aEm];rfl
  show wpAny _ A.in1 (zDQ [zBq (ns.getD i 0) t] (setAdd S (.int (ns.getD i 0) t))>>=_) _ _ s';refine zAD (zCG (aFU hS' hle λ h' b c1 c3=>?_));have kp:∀b o,b≠S->s'.heap.get? b=some o->h'.get? b=some o:=λ b o hb e=>by rw[c1.2 b hb];exact e
  rw[hnx]at c3;refine zAN ⟨zCq zCE _,ih (i+1) _ (by omega) hlt (W.frame _ s' _ _ hst' (zEL _) λ b hb o e=>kp b o (λ z=>hSf (z▸hb)) e) c3 λ s'' hm'' hS''=>?_⟩;exact hR s'' (zEl W.gtrans ((hm.mono hsb).then_heap (zEL _) λ b o hb e=>kp b o (λ z=>hb (z▸zAI)) e) hm'') hS''
def xH{Q:Value->zAB->Prop}(hI:zBO vs ns)(h64:vs.length<64)
  (h:∀(out:List Value) h' e,Vals ((sortI ns).map V.int) out->(∀b o,s.heap.get? b=some o->h'.get? b=some o)->h'.get? s.heap.objs.size=some (zFi "list" out.toArray e)->Q (.ref s.heap.objs.size) {s with heap:=h'}):
  wpAny (model prog w) A (zHP vs>>=λ l=>zDQ [l] (call (.builtin "list.sort") [l])>>=λ _=>ret l) (λ fin s'=>∃r,fin= .done (.ret r)/\Q r s') E s:=by
 refine zAD (wpAny_newList ?_ (by rw[zDB];omega));have hoL:(s.heap.push (zFi "list" vs.toArray 0)).get? s.heap.objs.size=some (zFi "list" vs.toArray 0):=zAR _ rfl;refine zAD (zCG (zDS slot_list_sort ⟨_,hoL,rfl⟩ entry_list_sort (list_sort_tree (s:={s with heap:=s.heap.push (zFi "list" vs.toArray 0)}) hoL hI h64 λ out ns' a1 a2 a3=>⟨_,rfl,zAN ⟨_,rfl,?_⟩⟩) (args_list_sort _)));have e:ns'=sortI ns:=zEY (a2.trans (sortI_perm ns).symm) a3 (jX ns);subst e;have hne:∀b o,s.heap.get? b=some o->b≠s.heap.objs.size:=λ b o e=>zA1 (zAM e)
 have g0:=get?_update_seq hoL λ _=>(#[]:Array Value)
 have g1:=zAH (zFi "list" #[] 0) (zAH (zFi "tuple" vs.toArray 0) g0);have g2:=get?_update_seq g1 (λ _=>out);refine h out.toList _ _ (oE a1) (λ b o e=>?_) (by rw[Array.toArray_toList];exact g2);unfold sortedHeap;rw[zGF _ _ _ _ (hne b o e)];refine zAH _ (zAH _ ?_);rw[zGF _ _ _ _ (hne b o e)];exact zAH _ e
end
section
variable{X:Cx}
def aDPφ(w:World)(a:Addr)(ks:List Int):Heap->Prop:=λ h=>zr h a (!w.params.followText "set-order") ks
def aGr(K:zAA)(w:World):List V->Hp->VK->Prop:=λ xs H Q=>∃p ns,xs=[.ref p]/\SqL K H p (ns.map V.int)/\ns.length<64/\∀a H',aO H H'->H' a=some (.ext (aDPφ w a (ddI ns)))->H a=none->Q (.ref a) H'
def aCb(hc:X.calm=true):dM X (.type "set") (aGr X.K X.w):=by
 intro hV s Z H xs us Q I r h;obtain⟨p,ns,rfl,hp,hz,q⟩:=h;obtain⟨u,rfl,ru⟩:=vals1 r;cases ru;have hh:X.A.in1.in1.in1.handled=none:=I.ok.hd hc;obtain⟨its,rv,pl,_⟩:=I.list hp;have hI:zBO its ns:=intsAre_of rv;have hW:its.length=ns.length:=zGa hI;obtain⟨ol,hol,hcl,nl,hdl⟩:=pl.isList;have hlS:p<s.heap.objs.size:=zAM hol;refine PySem.zj (T:="list") (Φ:=aDPφ X.w s.heap.objs.size (ddI ns)) ⟨ol,hol,hcl⟩ F.sub_list_set F.sub_list_frozenset (by decide)
  (λ zC A₁ E₁ Q₁ k q=>zDl (s:={s with heap:=zC}) (items:=its.toArray) ⟨ol,k _ _ hol,hcl,nl,hdl⟩ q) (λ R hR=>?_) λ h' tk g1 g2=>?_
 .generalize hled:(!X.w.params.followText "set-order")=led at hR ⊢
  have hS:(s.heap.push (bj #[] 0 (.fresh 0 0 led))).get? s.heap.objs.size=some (bj #[] 0 (.fresh 0 0 led)):=zAR _ rfl;have hl1:(s.heap.push (bj #[] 0 (.fresh 0 0 led))).IsList p its.toArray:=⟨ol,zAH _ hol,hcl,nl,hdl⟩;have hneI:p≠(s.heap.push (bj #[] 0 (.fresh 0 0 led))).objs.size:=by rw[zB5];exact zA1 (zCp hlS)
  have hSf:s.heap.objs.size∉[(s.heap.push (bj #[] 0 (.fresh 0 0 led))).objs.size,p]:=by
   rw[zB5];simp only[zAX,zBh,or_false,not_or];exact⟨zA1 (zC4 _),zCM hlS⟩
  refine aBz ((zGX hh _ p hneI its.toArray).toS) hSf hI (by simp) (by simpa[hW]using hz) led (its.toArray.size-0) 0 _ (by simp) (zAg _) ⟨⟨_,zAR _ rfl,rfl,rfl⟩,(hl1.push _)⟩
   ⟨#[],0,_,zAH _ hS,fC.fresh led,rfl,[],rfl,zBZ _⟩ λ s' hm hS'=>?_
  obtain⟨h',g',d',tk',os'⟩:=s';have eg:g'=s.gens:=hm.gens;have ed:d'=s.drawn:=hm.drawn;have eo:os'=s.os:=hm.os;subst eg;subst ed;subst eo;refine hR h' tk' (by unfold aDPφ;rw[hled];exact hS') λ b o e=>hm.heap b o ?_ (zAH _ (zAH _ e))
  have hb:=zAM e;rw[zB5];simp only[zAX,zBh,or_false,not_or];exact⟨zA1 hb,zA1 (zCp hb)⟩
 .have hfr:H s.heap.objs.size=none:=I.hok.fresh (zAW _)
  obtain⟨es,ep,t,ge,r⟩:=id g1;exact⟨.ref s.heap.objs.size,upd H s.heap.objs.size (.ext (aDPφ X.w s.heap.objs.size (ddI ns))),I.laid (t':=tk) g2 (zAW _) ⟨g1,⟨_,ge⟩,λ h1 h2 ⟨es,ep,t,e1,e2⟩ k=>⟨es,ep,t,k _ e1,e2⟩⟩,rfl,q _ _ (cJ hfr _) bA hfr⟩
def aD3(w:World):List V->Hp->VK->Prop:=λ xs H Q=>∃a ks,xs=[.ref a]/\H a=some (.ext (aDPφ w a ks))/\ks.length<64/\New H (.lst ((sortI ks).map V.int)) Q
theorem ints_of:∀(tks:List (Int×Tok)),zBO (tks.map λ p=>zBq p.1 p.2) (tks.map (·.1))
 |[]=>.nil
 |p::r=>.cons _ _ (ints_of r)
def xq(hc:X.calm=true):dM X (.builtin "sorted") (aD3 X.w):=by
 intro hV s Z H xs us Q I r h;obtain⟨a,ks,rfl,ha,h64,q⟩:=h;obtain⟨u,rfl,ru⟩:=vals1 r;cases ru;obtain⟨⟨es,ep,t,e1,e2,e3,tks,hk,e4⟩,_,_⟩:=I.hok a _ ha;have hsz:es.size=ks.length:=by rw[<-zA0,e4.length_eq,zAF,<-hk,zAF]
 have hh:X.A.in1.handled=none:=I.ok.hd hc;refine wA (zb (aFP (ep:=ep) e2 e3) hh e1 (by rw[hsz,zDB];omega) λ h1 tk vs1 k0 k1 k2 k3=>?_);have kK:(nQ X.w a ep es).toList.Perm (tks.map aC8):=(lz X.w a ep es).trans e4;obtain⟨zs,z1,z2⟩:=wY (f:=aC8) kK rfl;have hvs:vs1=zs.map λ p=>zBq p.1 p.2:=by
  have e5:(nQ X.w a ep es).toList.map (·.2)=zs.map λ p=>zBq p.1 p.2:=by rw[z2,zBC];rfl
  have hW:(nQ X.w a ep es).toList.length=es.size:=by rw[(lz X.w a ep es).length_eq,zA0]
  rw[<-e5];refine List.ext_getElem (by rw[k2,zAF,hW]) λ i g1 g2=>?_
  have:=k3 i _ (zAC g1)
  rw[<-zBg,<-zAL,zAC g2]at this;exact(zA8 this).symm
 subst hvs;have hps:(zs.map (·.1)).Perm ks:=by rw[<-hk];exact z1.map _
 have hss:sortI (zs.map (·.1))=sortI ks:=zEY (((sortI_perm _).trans hps).trans (sortI_perm ks).symm) (jX _) (jX _);refine xH (s:={s with heap:=h1,toks:=tk}) (ints_of zs) (by rw[k2];omega) λ out h' e a1 a2 a3=>?_
 rw[hss]at a1;have hle:s.heap.objs.size<=h1.objs.size:=zB7 k0;have hfr:H h1.objs.size=none:=I.hok.fresh hle;exact⟨.ref h1.objs.size,upd H h1.objs.size (.lst ((sortI ks).map V.int)),I.laid (t':=tk) (λ b o e=>a2 b o (k1 b o e)) hle ⟨by rw[zAF,(sortI_perm ks).length_eq];exact zAd (zB7 h64) (by decide),out,e,a1,a3⟩,rfl,q.at hfr⟩
end
def lA:List D->Rs D
 |[.lst l]=>match intsOf l with
  |some ns=>if ns.length<64 then .ok (.lst ((sortI (ddI ns)).map .int))else .st
  |none=>.st
 |_=>.st
section
variable{C:Ct}{pos pos2 p p2:Pos}{m:Mode}{a:Expr}{ga:En->Rs (List D)}
def uZ(hm:C.mg "sorted"=none)(hm2:C.mg "set"=none)(ha:SA C m [a] ga)(he:∀i,zAT [a] (C.X i).env=[(false,eval a (C.X i).env)]:=by intro _;rfl)(he2:∀i,zAT [Expr.Call (.Name "set" p2) [a] [] pos2] (C.X i).env=[(false,eval (.Call (.Name "set" p2) [a] [] pos2) (C.X i).env)]:=by intro _;rfl)(hg:∀i,Gl (C.X i) "sorted":=by intro _;rfl)(hv:zAr "sorted"=some (.builtin "sorted"):=by decide+kernel)(hg2:∀i,Gl (C.X i) "set":=by intro _;rfl)(hv2:zAr "set"=some (.type "set"):=by decide+kernel):
  SE C (some []) (.Call (.Name "sorted" p) [.Call (.Name "set" p2) [a] [] pos2] [] pos) (opA lA ga):=by
 obtain⟨t,h1,h2⟩:=ha;have hw:∀i,(C.X i).w=C.w:=λ i=>(C.cx i).2.1
 refine⟨tCB (aD3 C.w) (gw (tCB (aGr C.K C.w) t) oG),λ i=>oR (by rw[<-hw i];exact xq (C.calm i)) (hg i) (by rw[(C.cx i).2.2.2.1];exact hm) hv
  (aW (lw (by rw[<-C.hK i,<-hw i];exact aCb (C.calm i)) (hg2 i) (by rw[(C.cx i).2.2.2.1];exact hm2) hv2 (h1 i) (by decide) (by decide) (he i) rfl) cM (he2 i)) (by decide) (by decide) (he2 i) rfl,λ U Z H Y lab Q R W=>?_⟩
 refine h2 U Z H Y lab _ R (W.bd.imp λ ds _ w xs H1 s1 r1=>?_);obtain⟨z,ez,w⟩:=w.okD;unfold lA at ez;split at ez
 .obtain⟨v,rfl,rd⟩:=r1.one_inv
  obtain⟨b,ys,rfl,hb,mb,rb⟩:=rd.lst_inv;split at ez
  .rename_i ns e
   split at ez
   .rename_i hl
    cases ez;rw[gF e]at rb;have ey:=rb.ints_of;subst ey;refine⟨b,ns,rfl,SqL.of hb,hl,λ c H2 s2 hc2 hn2=>⟨c,ddI ns,rfl,hc2,zGf (aEn ns) hl,λ q H3 s3 hq hn3=>w _ H3 ((s1.trans s2).trans s3) (.lst hq (.inl ((s1.trans s2).free hn3)) Rps.ints)⟩⟩
   .cases ez
  .cases ez
 .cases ez
end
abbrev aJz:=List (Str×(List D->Rs D))
def fnOf(tab:aJz):Rs D->Option (List D->Rs D)
 | .ok (.fn x)=>tab.lookup x
 |_=>none
end VL
namespace HT
open PySem PySem.Spec PyProof.Rows
end HT
namespace VL
open PySem PySem.Spec PyProof.Rows L2
end VL
namespace PySem.AutoSeq1
end PySem.AutoSeq1
namespace VL
open PySem PySem.Spec PyProof.Rows L2
def Enr(K:zAA)(x:Str)(st:Stmt)(f:Addr)(fd:zAe):Prop:=L2.Fun K x x st f fd/\zA2 K zAV x=some (some (.ref f))
def enr{K:zAA}{st:Stmt}{oc kV dc pm cd ct:Value}(a:zA2 K zAV x=some (some (.ref f)))
  (l:K.lookup f=some ⟨oc,od,.func (zBU x x (jw st) (cH st) (aF st) .none kV dc pm an cd ct),sl⟩)(c:zCh K cd x=true)(k:zBR K (.ref f)=true):∃f fd,Enr K x st f fd:=⟨f,_,aIf (st:=st) l c k,a⟩
structure Dnr(K:zAA)(mg:Str->Option Value)(x:Str)(st:Stmt)(ps:List Str)(f:Addr)(d:zAe):Prop where
 F:L2.Fun K x x st f d
 m:mg x=some (.ref f)
 b:L2.Binds K d ps []
section
variable{C:Ct}
def bI{st:Stmt}(hF:cV C.prog C.w C.K C.mg C.base (CX1 C.prog C.w) k fn fd ps (spF C.K C.G.cl n F))(D:Dnr C.K C.mg x st ps fn fd)(ha:SA C m (e::es) ga)(hr:k<=C.k:=by exact zDv rfl)(hg:∀i,Gl (C.X i) x:=by intro _;rfl)
  (hn:∀Y ds,ga Y= .ok ds->ds.length=n:=by repeat (first|exact λ _ _ h=>aGA h|apply aEG))(hdb:Nd x:=by decide)(he:∀i,zAT (e::es) (C.X i).env=(false,eval e (C.X i).env)::zAT es (C.X i).env:=by intro _;rfl)
  (hpl:∀i,(zCY pos (zAT es (C.X i).env)).any (·.1)=false:=by intro _;rfl):SE C (some []) (.Call (.Name x p) (e::es) [] pos) (aj F ga):=aF0 hF hr D.m D.F.kp D.b ha hn hdb he hpl hg
end
def bQ{P:zAP}{w:World}{K:zAA}{st:Stmt}(D:Dnr K mg q st ps fn fd)(S:aY N ps (aF st))(hb:N.Nodup->∀cdv A outer s H E hr,SSs (ctD P w K mg base N q (aF st) fn cdv A outer s H E k hr) (cH st) f)(hn:ps.length=n:=by rfl)(hF:eX N.length f=FF:=by rfl):
  cV P w K mg base (CX1 P w) (k+1) fn fd ps (spF K (aa mg) n FF):=aG2 D.F S (hb S.nd) hn hF
def aAw(items:Array Value)(nss:Nat->List Int)(h:Heap):Prop:=∀i v,items[i]? =some v->∃x its,v= .ref x/\IsTup h x its/\zBO its.toList (nss i)
def aAT(items:Array Value):List Addr:=items.toList.filterMap λ v=>match v with| .ref x=>some x|_=>none
def aAS{items:Array Value}{i:Nat}(h:items[i]? =some (zB0 x)):x∈aAT items:=by
 unfold aAT;rw[zBi];exact⟨.ref x,by have:=zAq (l:=items.toList) (i:=i) (by simpa using h);exact this,rfl⟩
def aAw.keep(T:aAw items nss h)(k:∀b∈aAT items,∀o,h.get? b=some o->h'.get? b=some o):aAw items nss h':=λ i v e=>by
 obtain⟨x,its,rfl,⟨o,h1,h2⟩,h3⟩:=T i v e;exact⟨x,its,rfl,⟨o,k x (aAS e) o h1,h2⟩,h3⟩
def putN(ds:List D):D->Option Nat
 | .int n=>ixN ds.length n
 |_=>none
def aD9(i:Nat)(fk fe:En->Rs D):En->Ou:=λ Y=>match Y[i]? with
 |some (.ow (.lst ds))=>(fe Y).bo λ d=>(fk Y).bo λ k=>match putN ds k with
  |some j=>.nx (Y.set i (.ow (.lst (ds.set j d))))
  |none=>.st
 |_=>.st
def aCF(h:putN ds k=some j):∃n,k= .int n/\ixN ds.length n=some j:=by
 cases k with
 |int n=>exact⟨n,rfl,h⟩
 |_=>cases h
section
variable{C:Ct}{pos tpos p:Pos}{ek e:Expr}{fk fe:En->Rs D}{x:Str}{m m1:Mode}
def aBA(i:Nat)(hk:SE C m1 ek fk)(he:SE C m e fe)(hm:okN m=true:=by rfl)(hN:∀j,(C.X j).N[i]? =some x:=by intro _;rfl)(hv:∀j,Vis (C.X j).env.scope x:=by intro _;first|exact zCg rfl|exact zBx (zCg rfl)|exact zBx (zBx rfl))(hd:Nd x:=by decide)
  (hcd:(x==("__classdict__":Str))=false:=by decide)(ha:∀j v,zEO (.Subscript (.Name x p) ek tpos) (C.X j).env v=(do
   let ov <-zDQ [v] (eval (.Name x p) (C.X j).env);let iv <-zDQ [v,ov] (eval ek (C.X j).env)
   zG0 tpos
   zDQ [v,ov,iv] (setItem ov iv v)
   release [v,ov,iv] []):=by intro _ _;rfl)(hs:∀j,zG2 [.Subscript (.Name x p) ek tpos] e pos.line (C.X j).env=pure false:=by intro _;rfl)(hw:∀j,zG1 [.Subscript (.Name x p) ek tpos] e (C.X j).env=pure none:=by intro _;rfl)
  (h1:∀j,(zCL [.Subscript (.Name x p) ek tpos] (C.X j).env).map (·.2)=[zEO (.Subscript (.Name x p) ek tpos) (C.X j).env]:=by intro _;rfl):
  SS C (.Assign [.Subscript (.Name x p) ek tpos] e pos) (aD9 i fk fe):=by
 obtain⟨tk,k1,k2⟩:=hk;obtain⟨te,e1,e2⟩:=he;refine⟨yL te (aJn (mq i) tk aGq),λ j=>aDg (e1 j) (aHf (gQ (hN j) (hv j) hd hcd) (k1 j) set_list (ha j)) (hs j) (hw j) (h1 j),λ U Z H Y lab De R W=>?_⟩;unfold aD9 at W;cases es:Y[i]? with
 |none=>rw[es]at W;exact zAJ W
 |some s=>
  rw[es]at W;split at W
  .rename_i ds hs
   cases hs;rcases R.sl i _ es with z|⟨v,ev,hv'⟩
   .cases z
   .obtain⟨hv1,htop⟩:=hv'
    obtain⟨a0,ea0,la0⟩:=htop rfl;subst ea0;cases hv1 with
    |lst h mm r=>
     rename_i xs;refine e2 U Z H Y lab _ R (W.bo.imp λ d _ w y H2 s2 r2=>⟨.ref a0,ev,?_⟩);refine k2 U Z H2 Y lab _ (R.up s2) (w.bo.imp λ k _ w kv H3 s3 r3=>?_);cases hj:putN ds k with
     |none=>rw[hj]at w;exact zAJ w
     |some j=>
      rw[hj]at w;dsimp only at w;obtain⟨n,rfl,hj⟩:=aCF hj;have ey:=r3.int_inv;subst ey;have h3:H3 a0=some (.lst xs):=(s2.trans s3) _ _ h;refine⟨a0,xs,n,j,rfl,rfl,h3,by rw[r.length];exact hj,?_⟩;obtain⟨R',r'⟩:=R.fresh (P:=λ k=>k=1) rfl (λ k hk=>beq_iff_eq.mp (oU hm k hk)) s2 r2;have la:(cN H 1 lab a0).1=i+2:=by rw[bR h];exact la0
      have B:lW a0 H3 (upd H3 a0 (.lst (xs.set j y))):=λ b' o ne hb=>by rw[aX ne];exact hb
      refine w Z _ _ ((R'.up s3).mut ev h3 rfl la B ⟨.lst bA (.inr la) ?_,λ _=>⟨a0,rfl,la⟩⟩);have ra:Rps C.K (λ p=>((cN H 1 lab p).1=1\/(cN H 1 lab p).1=i+2)/\p≠a0) H3 (xs.set j y) (ds.set j d):=by
       refine Rps.set ((r'.up s3).wk λ p o e z=>⟨.inl z,λ q=>?_⟩) j (r.mono (s2.trans s3) λ p o e z=>⟨by rw[bR e];exact z.1,z.2⟩);subst q;rw[la]at z;lia
      exact ra.but B h3 rfl λ z=>z.2 rfl
  .exact zAJ W
end
def xW(i:Int):List Int->Option Nat
 |[]=>none
 |a::l=>if a=i then some 0 else(xW i l).map (·+1)
theorem vI:∀{l:List Int} {j:Nat},xW i l=some j->(l.map λ a=>a==i)[j]? =some true/\∀m,m<j->(l.map λ a=>a==i)[m]? =some false
 |a::l,j,h=>by
  unfold xW at h;split at h
  .rename_i e
   cases h;exact⟨by simp[e],λ m hm=>absurd hm (zFA _)⟩
  .rename_i e
   obtain⟨k,h1,rfl⟩:=zCD.mp h;obtain⟨h2,h3⟩:=vI h1;refine⟨h2,λ m hm=>?_⟩;cases m with
   |zero=>simp[e]
   |succ m=>exact h3 m (by lia)
def tZ(l:List D):D->Rs D
 | .int i=>match intsOf l with
  |some is=>(match xW i is with
   |some j=>.ok (.int (j:Nat))
   |none=>.st)
  |none=>.st
 |_=>.st
def isL:D->Option (List D)
 | .lst l=>some l
 |_=>none
def opL(fd:List D->D->Rs D)(fo fe:En->Rs D):En->Rs D:=λ Y=>(fo Y).bd λ d=>match isL d with
 |some l=>(fe Y).bd λ e=>okD (fd l e)
 |none=>.st
def aED{K:zAA}(r:Rp K A H x (.lst l))(h:intsOf l=some is):∃a,x= .ref a/\H a=some (.lst (is.map V.int)):=by
 rw[gF h]at r;obtain⟨a,xs,rfl,h1,_,r1⟩:=r.lst_inv;have e:=r1.ints_of;subst e;exact⟨a,rfl,h1⟩
def aBO:V->List V->Hp->VK->Prop:=λ x xs H Q=>∃(a:Addr) (i:Int) (is:List Int) (j:Nat),x= .ref a/\xs=[.int i]/\H a=some (.lst (is.map V.int))/\(is.map λ e=>e==i)[j]? =some true/\(∀m,m<j->(is.map λ e=>e==i)[m]? =some false)/\Q (.int (j:Nat)) H
def eqV(i:Int):Value->Bool
 | .int n _=>n==i
 |_=>false
def aCR{X:Cx}:MtR X "list.index" aBO:=by
 intro hV s Z H x xs v us Q I rx rxs h;obtain⟨a,i,is,j,rfl,rfl,ha,e1,e2,q⟩:=h;cases rx;obtain⟨u,rfl,ru⟩:=vals1 rxs;obtain⟨t,rfl⟩:=ru;obtain⟨its,rv,pl,hz⟩:=I.list (SqL.of ha);obtain⟨ts,rfl,hts⟩:=mF rv;subst hts;obtain⟨⟨cls,dd,data,sl⟩,ho,hc,n,hdd⟩:=id pl.isList;simp only at hc hdd;subst hc hdd;have em:(ts.map zF7).map (λ e=>e==i)=ts.map λ q=>q.1==i:=by rw[zBC];rfl
 rw[em]at e1 e2;have hj:j<ts.length:=by
  have:=(zAG.mp e1).1
  simpa using this
 have hW:ts.length<=zAY:=by simpa using hz
 have hz':zAY<2^62:=by decide
 refine zEV zC6 ⟨_,ho,rfl⟩ zEw (zEp _ _) (zGK a _ n dd sl (.int i t) (eqV i) j (by simpa using hj) (by omega) ?_ λ m hm hmj=>?_)
  ⟨ho,λ w hw=>?_,⟨.int _,H,I.tok _,⟨_,rfl⟩,q⟩⟩
 .rw[zAL,zAC hj]at e1
  simpa[eqV]using e1
 .have h2:=e2 m hmj
  have hm':m<ts.length:=by simpa using hm
  rw[zAL,zAC hm']at h2;simpa[eqV]using h2
 .have hw':w∈ts.map λ q=>zBq q.1 q.2:=by simpa using hw
  obtain⟨q,_,rfl⟩:=zAf.mp hw';exact zDr q.1 q.2 i t
section
variable{C:Ct}{m m1:Mode}{o e:Expr}{fo fe:En->Rs D}{apos cpos:Pos}
def yR(ho:SE C m o fo)(he:SE C m1 e fe)(hs1:∀j,zAT [e] (C.X j).env=[(false,eval e (C.X j).env)]:=by intro _;rfl)(hbase:∀j,zDW o "index" (C.X j).env (eval o (C.X j).env)=eval o (C.X j).env:=by intro _;rfl)
  (hfew:∀j,((zCY cpos (zAT [e] (C.X j).env)).all (λ x=>!x.1)&&(zF9 cpos (zDy [] (C.X j).env)).all (λ x=>x.1.isSome)&&decide ([e].length+([]:List zCo).length+(if ([]:List zCo).isEmpty then 0 else 1)<30))=true:=by intro _;rfl)
  (hline:(apos.endLine==cpos.line)=true:=by rfl):SE C (some []) (.Call (.Attribute o "index" apos) [e] [] cpos) (opL tZ fo fe):=by
 obtain⟨t,h1,h2⟩:=ho;obtain⟨u,k1,k2⟩:=he;refine⟨tBM C.K "list" aBO t (gw u oG),λ j=>by rw[<-C.hK j];exact ym zBr zC6 zFF aCR (h1 j) (aW (k1 j) cM (hs1 j)) (hbase j) (hfew j) hline (hs1 j) rfl,λ U Z H Y lab Q R W=>?_⟩;refine h2 U Z H Y lab _ R (W.bd.imp λ d _ w x H1 s1 r1=>?_);cases d with
 |lst l=>
  obtain⟨a,xs,rfl,ha,_⟩:=r1.lst_inv;replace w:WR C.G ((fe Y).bd λ e=>okD (tZ l e)) (QE C.K (some []) lab H Q):=w;refine⟨.inl ⟨rfl,xs,SqL.of ha⟩,k2 U Z H1 Y lab _ (R.up s1) (w.bd.imp λ e _ w y H2 s2 r2=>?_)⟩;obtain⟨z,ez,wz⟩:=w.okD;cases e with
  |int i=>
   unfold tZ at ez;dsimp only at ez;cases hi:intsOf l with
   |none=>rw[hi]at ez;cases ez
   |some is=>
    rw[hi]at ez;dsimp only at ez;have ey:=r2.int_inv;subst ey;obtain⟨a',ea,hl⟩:=aED (r1.up s2) hi;cases ea;cases hj:xW i is with
    |none=>rw[hj]at ez;cases ez
    |some j=>
     rw[hj]at ez;cases ez;obtain⟨q1,q2⟩:=vI hj;exact⟨a,i,is,j,rfl,rfl,hl,q1,q2,wz _ H2 (s1.trans s2) (.int _)⟩
  |_=>cases ez
 |_=>exact zAJ w
end
end VL
namespace PySem
open Sem(wp)
section
variable{prog:zAP}{w:World}
inductive yH{K:Type}[DecidableEq K](knd:KeyKind prog w K)(h:Heap):List Value->List (K×Value)->Prop where
 |nil:yH knd h [] []
 |cons {x:Addr} {o:Obj} {n:Nat} {kv v:Value} {k:K} {us:List Value} {ps:List (K×Value)} (ho:h.get? x=some o) (hc:o.cls= .type "tuple") (hd:o.data= .seq #[kv,v] n) (hk:knd.is k kv=true) (r:yH knd h us ps):yH knd h (.ref x::us) ((k,v)::ps)
end
end PySem
namespace VL
open PySem PySem.Spec PyProof.Rows L2
section
variable{K:Type}[DecidableEq K]
end
end VL
namespace L2
open PySem PySem.Spec PyProof.Rows
def v4:Value->Bool
 | .bool b=>b
 |_=>false
theorem vh:∀{bs:List Bool} {us:List Value},Vals (bs.map V.bl) us->us=bs.map zBp
 |[],_,.nil=>rfl
 |b::bs,_,.cons h t=>by rw[vh t];cases h;rfl
def aBf{A:zAZ}{s:zAB}{bs:List Bool}:∀y∈bs.map zBp,zCN A s y (.bool true) (v4 y):=λ y hy=>by
 obtain⟨b,_,rfl⟩:=zAf.mp hy
 have:=zFH (A:=A) (s:=s) b true
 cases b<;>exact this
def aF7:V->List V->Hp->VK->Prop:=λ x xs H Q=>∃(a:Addr) (bs:List Bool),x= .ref a/\xs=[.bl true]/\H a=some (.lst (bs.map V.bl))/\Q (.int (bs.count true:Nat)) H
def aF6:V->List V->Hp->VK->Prop:=λ x xs H Q=>∃(a:Addr) (bs:List Bool) (j:Nat),x= .ref a/\xs=[.bl true]/\H a=some (.lst (bs.map V.bl))/\bs[j]? =some true/\(∀m,m<j->bs[m]? =some false)/\Q (.int (j:Nat)) H
section
variable{X:Cx}
def aCT:MtR X "list.count" aF7:=by
 intro hV s Z H x xs v us Q I rx rxs h;obtain⟨a,bs,rfl,rfl,ha,q⟩:=h;cases rx;obtain⟨u,rfl,ru⟩:=vals1 rxs;cases ru;obtain⟨_,its,n,rv,e⟩:=I.hok a _ ha;have ei:=vh rv;subst ei;refine zEV zFE ⟨_,e,rfl⟩ PySem.F.entry_list_count (PySem.F.args_list_count_2 _ _) (SeqAt.list_countAt a _ n none #[] (.bool true) v4) ⟨e,λ y hy=>aBf y (by simpa using hy),?_⟩
 have:(bs.map zBp).countP v4=bs.count true:=by
  rw[List.countP_map];unfold List.count;congr 1;funext b;cases b<;>rfl
 rw[show(bs.map zBp).toArray.toList=bs.map zBp from rfl,this];exact⟨.int _,H,I.tok _,⟨_,rfl⟩,q⟩
def aCS:MtR X "list.index" aF6:=by
 intro hV s Z H x xs v us Q I rx rxs h;obtain⟨a,bs,j,rfl,rfl,ha,hj,hm,q⟩:=h;cases rx;obtain⟨u,rfl,ru⟩:=vals1 rxs;cases ru;obtain⟨hz,its,n,rv,e⟩:=I.hok a _ ha;have ei:=vh rv;subst ei;rw[zAF]at hz;have hl:=(zAG.mp hj).1;have h62:zAY<2^62:=by decide
 refine zEV zC6 ⟨_,e,rfl⟩ zEw (zEp _ _) (zGK a _ n none #[] (.bool true) v4 j (by simpa using hl) (by lia) ?_ λ m hm1 hmj=>?_) ⟨e,λ y hy=>aBf y (by simpa using hy),⟨.int _,H,I.tok _,⟨_,rfl⟩,q⟩⟩
 .rw[zAC hl]at hj
  simpa[v4]using hj
 .have h2:=hm m hmj
  rw[zAC (by lia)]at h2;simpa[v4]using h2
end
section
variable{X:Cx}{n0 n1 n2 odd:Str}{c1 c2:V}{k1 k2 k3 k4:List V}{l1 l2:List Str}{a1 a2:Expr}{as1 as2 e1 e2 e3 e4 w1 w2:List Expr}{kw1 kw2:List zCo}{Q:VK}{H:Hp}{vs:List V}
 {p1 p2 p3 p4 p5 p6 p7 p8 p9 p10 p11 p12 p13 p14 p15 p16 p17 p18 p19 p20 p21 p22 p23 p24 p25 p26 p27 p28 p29 p30 p31 p32 p33 p34 p35 p36 p37 p38 p39 p40:Pos}{q1 q2 q3 q4 q5 q6 q7:Pos}{j1 j2 j3 j4 j5:Nat}{E0:XK}{wd:Addr->Option Str}
end
section
variable{P:zAP}{w:World}{K:zAA}{mg:Str->Option Value}{base:Heap}{x q n0 n1 n2 odd:Str}{st:Stmt}{f:Addr}{fd:zAe}{k:Nat}{wd:Addr->Option Str}{c1 c2:V}{k1 k2 k3 k4:List V}{l1 l2:List Str}{a1 a2:Expr}{as1 as2 e1 e2 e3 e4 w1 w2:List Expr}{kw1 kw2:List zCo}
 {p1 p2 p3 p4 p5 p6 p7 p8 p9 p10 p11 p12 p13 p14 p15 p16 p17 p18 p19 p20 p21 p22 p23 p24 p25 p26 p27 p28 p29 p30 p31 p32 p33 p34 p35 p36 p37 p38 p39 p40:Pos}{q1 q2 q3 q4 q5 q6 q7:Pos}{j1 j2 j3 j4 j5:Nat}
end
section
variable{X:Cx}{n0 n1 n2 odd:Str}{c1 c2:V}{k1 k2 k3 k4:List V}{l1 l2:List Str}{a1 a2:Expr}{as1 as2 e1 e2 e3 e4 w1 w2:List Expr}{kw1 kw2:List zCo}{Q:VK}{H:Hp}{vs:List V}
 {p1 p2 p3 p4 p5 p6 p7 p8 p9 p10 p11 p12 p13 p14 p15 p16 p17 p18 p19 p20 p21 p22 p23 p24 p25 p26 p27 p28 p29 p30 p31 p32 p33 p34 p35 p36 p37 p38 p39 p40:Pos}{q1 q2 q3 q4 q5 q6 q7:Pos}{j1 j2 j3 j4 j5:Nat}{E0:XK}{wd:Addr->Option Str}
def zg(hN:X.N=[n0,n1,n2])(nd:X.N.Nodup)(m0:X.env.scope.names.lookup n0=some .local)(m1:X.env.scope.names.lookup n1=some .local)(m2:X.env.scope.names.lookup n2=some .local)
  (h1:PE X (.Call a1 as1 kw1 p1) (aAG X.K c1))(h2:PE X (.Call a2 as2 kw2 p2) (aAG X.K c2))(g1:PA X e1 (kO X.K k1))(g2:PA X e2 (kO X.K k2))(g3:PA X e3 (kO X.K k3))(g4:PA X e4 (kO X.K k4))(g5:PA X w1 (ur l1))(g6:PA X w2 (ur l2))
  (hl1:(p20.endLine==p21.line)=true)(hl2:(p30.endLine==p31.line)=true)(hz:(l1++l2).length<=100)(h:spW wd vs H Q E0)(hw:∀C w,wd C=some w->Wd X.K c1 c2 [k1,k2,k3,k4] (l1++l2) C w)
  (d0:Nd n0:=by decide)(d1:Nd n1:=by decide)(d2:Nd n2:=by decide)
  (f0:(n0==("__classdict__":Str))=false:=by decide)(f1:(n1==("__classdict__":Str))=false:=by decide)(f2:(n2==("__classdict__":Str))=false:=by decide):
  ∃t,PSs X [.If (.BoolOp .Or [.UnaryOp .Not (.Call a1 as1 kw1 p1) p3,.UnaryOp .Not (.Call a2 as2 kw2 p2) p4] p5) [.Return (some (.Constant (.str odd) j1 p6)) p7] [] p8,
   .Assign [.Name n1 p9] (.List e1 p10) p11,.Assign [.Name n1 p12] (.BinOp (.Name n1 p13) .Add (.List e2 p14) p15) p16,.Assign [.Name n1 p17] (.BinOp (.Name n1 p18) .Add (.List e3 p19) p22) p23,.Assign [.Name n1 p24] (.BinOp (.Name n1 p25) .Add (.List e4 p26) p27) p28,
   .If (.Compare (.Call (.Attribute (.Name n1 p29) "count" p20) [.Constant (.bool true) j2 p32] [] p21) [.NotEq] [.Constant (.int 1) j3 p33] p34) [.Return (some (.Constant (.str odd) j4 p35)) p36] [] p37,
   .Assign [.Name n2 p38] (.List w1 p39) p40,.Return (some (.Subscript (.BinOp (.Name n2 q1) .Add (.List w2 q2) q3) (.Call (.Attribute (.Name n1 q4) "index" p30) [.Constant (.bool true) j5 q5] [] p31) q6)) q7] t/\
   t {nx:=λ _ H'=>Q .non H',rt:=Q} (start X.N vs) H:=by
 obtain⟨ea,C,w,rfl,hH,hwd,hq⟩:=h;obtain⟨hk,hq1,hq2,b1,b2,b3,b4,j,k1',k2',k3',k4',ek,r1,r2,r3,r4,hW,hcnt,hj,hjm,hjw⟩:=hw C w hwd;cases ek;have i0:X.N[0]? =some n0:=by rw[hN];rfl
 have i1:X.N[1]? =some n1:=by rw[hN];rfl
 have i2:X.N[2]? =some n2:=by rw[hN];rfl
 have v1:∀{pos:Pos},PE X (.Name n1 pos) (mq 1):=λ{pos}=>gQ i1 (.inl m1) d1 f1
 have cat:∀{pp pq pr:Pos} {es:List Expr} {ks:List V},PA X es (kO X.K ks)->PE X (.BinOp (.Name n1 pp) .Add (.List es pq) pr) (tOp aD6 (mq 1) (aCt (kO X.K ks))):=λ g=>aDk w6 v1 (jq g)
 refine⟨_,dW (aDf (aGy (aAV (aDa h1)) (aD8 (aAV (aDa h2)))).pt (jm (su dO)) wW)
  (dW (jo nd i1 (.inl m1) (jq g1) (hf:=.inr m1)) (dW (jo nd i1 (.inl m1) (cat g2) (hf:=.inr m1)) (dW (jo nd i1 (.inl m1) (cat g3) (hf:=.inr m1)) (dW (jo nd i1 (.inl m1) (cat g4) (hf:=.inr m1))
  (dW (aDf (aH9 (aHp (ym zBr zFE PySem.F.type_list_count aCT v1 (aW aDp cM) (hline:=hl1)) aDm)) (jm (su dO)) wW)
  (dW (jo nd i2 (.inl m2) (jq g5) (hf:=.inr m2)) (jm (su (aDl xT (aDk w6 (gQ i2 (.inl m2) d2 f2) (jq g6)) (ym zBr zC6 zFF aCS v1 (aW aDp cM) (hline:=hl2)) λ _ _=>rfl))))))))),?_⟩
 have hs:start X.N [.ref ea]=[some (.ref ea),none,none]:=by rw[hN];rfl
 rw[hs];have sz:∀{n:Nat},n<=100->n<=zAY:=λ h=>zAd h (by decide)
 simp only[zAs]at hW hz;refine vq (ea:=ea) rfl hH hk hq1 ⟨true,rfl,vq (ea:=ea) rfl hH hk hq2 ⟨true,rfl,?_⟩⟩;refine kj (ea:=ea) rfl hH hk r1 ⟨sz (by rw[zAF];omega),λ a1 H1 s1 ha1 _=>?_⟩;refine⟨.ref a1,rfl,kj (ea:=ea) rfl (s1 _ _ hH) hk r2 ⟨sz (by rw[zAF];omega),λ x2 G2 t2 hx2 _=>⟨a1,x2,_,_,rfl,rfl,t2 _ _ ha1,hx2,sz (by simp only[zAF];omega),λ a2 H2 s2 ha2 _=>?_⟩⟩⟩;have hH2:=s2 _ _ (t2 _ _ (s1 _ _ hH));refine⟨.ref a2,rfl,kj (ea:=ea) rfl hH2 hk r3 ⟨sz (by rw[zAF];omega),λ x3 G3 t3 hx3 _=>⟨a2,x3,_,_,rfl,rfl,t3 _ _ ha2,hx3,sz (by simp only[zAF,zAs];omega),λ a3 H3 s3 ha3 _=>?_⟩⟩⟩;have hH3:=s3 _ _ (t3 _ _ hH2);refine⟨.ref a3,rfl,kj (ea:=ea) rfl hH3 hk r4 ⟨sz (by rw[zAF];omega),λ x4 G4 t4 hx4 _=>⟨a3,x4,_,_,rfl,rfl,t4 _ _ ha3,hx4,sz (by simp only[zAF,zAs];omega),λ a4 H4 s4 ha4 _=>?_⟩⟩⟩;rw[<-zBX,<-zBX,<-zBX]at ha4;generalize hbs:b1++b2++b3++b4=bs at hcnt hj hjm ha4;refine⟨.ref a4,rfl,.inl ⟨rfl,_,.inl (.inl ha4)⟩,a4,bs,rfl,rfl,ha4,1,1,by rw[hcnt];rfl,rfl,false,rfl,?_⟩;refine sE ⟨sz (by rw[zAF];omega),λ a5 H5 s5 ha5 _=>?_⟩;refine⟨.ref a5,rfl,sE ⟨sz (by rw[zAF];omega),λ x6 G6 t6 hx6 _=>⟨a5,x6,_,_,rfl,rfl,t6 _ _ ha5,hx6,sz (by simp only[zAF];omega),λ a7 H7 s7 ha7 _=>?_⟩⟩⟩;have ha4':=s7 _ _ (t6 _ _ (s5 _ _ ha4));refine⟨.ref a4,rfl,.inl ⟨rfl,_,.inl (.inl ha4')⟩,a4,bs,j,rfl,rfl,ha4',hj,hjm,a7,_,_,.str w,rfl,rfl,.inl (.inl ha7),?_,?_⟩
 .rw[<-zBX]
  have hjl:j<(l1++l2).length:=(zAG.mp hjw).1;unfold atI ixN;rw[if_pos (zG9 j),zAF,if_pos (by omega),zB8]
  show((l1++l2).map V.str)[j]? =_
  rw[zAL,hjw];rfl
 .exact hq _ λ b o e=>s7 _ _ (t6 _ _ (s5 _ _ (s4 _ _ (t4 _ _ (s3 _ _ (t3 _ _ (s2 _ _ (t2 _ _ (s1 _ _ e)))))))))
end
section
variable{P:zAP}{w:World}{K:zAA}{mg:Str->Option Value}{base:Heap}{x q n0 n1 n2 odd:Str}{st:Stmt}{f:Addr}{fd:zAe}{k:Nat}{wd:Addr->Option Str}{c1 c2:V}{k1 k2 k3 k4:List V}{l1 l2:List Str}{a1 a2:Expr}{as1 as2 e1 e2 e3 e4 w1 w2:List Expr}{kw1 kw2:List zCo}
 {p1 p2 p3 p4 p5 p6 p7 p8 p9 p10 p11 p12 p13 p14 p15 p16 p17 p18 p19 p20 p21 p22 p23 p24 p25 p26 p27 p28 p29 p30 p31 p32 p33 p34 p35 p36 p37 p38 p39 p40:Pos}{q1 q2 q3 q4 q5 q6 q7:Pos}{j1 j2 j3 j4 j5:Nat}
def aC9(F:Fun K x q st f fd)(S:aY [n0,n1,n2] [n0] (aF st))
  (hst:cH st=[.If (.BoolOp .Or [.UnaryOp .Not (.Call a1 as1 kw1 p1) p3,.UnaryOp .Not (.Call a2 as2 kw2 p2) p4] p5) [.Return (some (.Constant (.str odd) j1 p6)) p7] [] p8,
   .Assign [.Name n1 p9] (.List e1 p10) p11,.Assign [.Name n1 p12] (.BinOp (.Name n1 p13) .Add (.List e2 p14) p15) p16,.Assign [.Name n1 p17] (.BinOp (.Name n1 p18) .Add (.List e3 p19) p22) p23,.Assign [.Name n1 p24] (.BinOp (.Name n1 p25) .Add (.List e4 p26) p27) p28,
   .If (.Compare (.Call (.Attribute (.Name n1 p29) "count" p20) [.Constant (.bool true) j2 p32] [] p21) [.NotEq] [.Constant (.int 1) j3 p33] p34) [.Return (some (.Constant (.str odd) j4 p35)) p36] [] p37,
   .Assign [.Name n2 p38] (.List w1 p39) p40,.Return (some (.Subscript (.BinOp (.Name n2 q1) .Add (.List w2 q2) q3) (.Call (.Attribute (.Name n1 q4) "index" p30) [.Constant (.bool true) j5 q5] [] p31) q6)) q7])
  (m0:(aF st).names.lookup n0=some .local)(m1:(aF st).names.lookup n1=some .local)(m2:(aF st).names.lookup n2=some .local)
  (h:∀(cdv:Value) (A:zAZ) (outer:List Env) (s:zAB) (H:Hp),PE (cxH P w K mg base [n0,n1,n2] q (aF st) f cdv A outer s H) (.Call a1 as1 kw1 p1) (aAG K c1)/\PE (cxH P w K mg base [n0,n1,n2] q (aF st) f cdv A outer s H) (.Call a2 as2 kw2 p2) (aAG K c2)/\
   PA (cxH P w K mg base [n0,n1,n2] q (aF st) f cdv A outer s H) e1 (kO K k1)/\PA (cxH P w K mg base [n0,n1,n2] q (aF st) f cdv A outer s H) e2 (kO K k2)/\PA (cxH P w K mg base [n0,n1,n2] q (aF st) f cdv A outer s H) e3 (kO K k3)/\
   PA (cxH P w K mg base [n0,n1,n2] q (aF st) f cdv A outer s H) e4 (kO K k4)/\PA (cxH P w K mg base [n0,n1,n2] q (aF st) f cdv A outer s H) w1 (ur l1)/\PA (cxH P w K mg base [n0,n1,n2] q (aF st) f cdv A outer s H) w2 (ur l2))
  (hl1:(p20.endLine==p21.line)=true)(hl2:(p30.endLine==p31.line)=true)(hz:(l1++l2).length<=100)(hw:∀C w,wd C=some w->Wd K c1 c2 [k1,k2,k3,k4] (l1++l2) C w)
  (d0:Nd n0:=by decide)(d1:Nd n1:=by decide)(d2:Nd n2:=by decide)
  (f0:(n0==("__classdict__":Str))=false:=by decide)(f1:(n1==("__classdict__":Str))=false:=by decide)(f2:(n2==("__classdict__":Str))=false:=by decide):
  FnH P w K mg base 1 f fd [n0] (spW wd):=by
 refine F.okH (k:=0) S (λ vs H Q E ⟨_,_,_,e,_⟩=>by rw[e];rfl) λ cdv A outer s H vs Q E hr hsp=>?_
 obtain⟨g1,g2,g3,g4,g5,g6,g7,g8⟩:=h cdv A outer s H;rw[hst];exact zg (X:=cxH P w K mg base [n0,n1,n2] q (aF st) f cdv A outer s H) rfl S.nd m0 m1 m2 g1 g2 g3 g4 g5 g6 g7 g8 hl1 hl2 hz hsp hw d0 d1 d2 f0 f1 f2
end
end L2
namespace VL
open PySem PySem.Spec PyProof.Rows L2
def dnr{K:zAA}{h:Heap}{mg:Str->Option Value}{x:Str}{st:Stmt}(X:K.In h)(G:h.Ns zAV mg)(e:∃f d,Enr K x st f d)(ps:List Str)
  (hb:∀(kV doc pm:Value) (an:Option Addr) (cdv ct:Value) (us:List Value),us.length=ps.length->zHZ (zBU x x (jw st) (cH st) (aF st) .none kV doc pm an cdv ct) ⟨us,[]⟩=pure (ps.zip us):=by
   intro _ _ _ _ _ _ us hl;repeat' first|rfl|(simp at hl;done)|rcases us with _|⟨_,us⟩):∃f d,Dnr K mg x st ps f d/\zA2 K zAV x=some (some (.ref f)):=by
 obtain⟨f,d,F,a⟩:=e;exact⟨f,d,⟨F,zA4 X G a,F.binds hb⟩,a⟩
end VL
namespace L2
open PySem PySem.Spec PyProof.Rows
end L2
namespace VL
open PySem PySem.Spec PyProof.Rows L2
section
variable{prog:zAP}{w:World}{A:zAZ}{s:zAB}{kw:List (Str×Value)}
def xn{E:Value->zAB->Prop}{id:String}{b:zDZ}{args:List Value}{kw:List (Str×Value)}{Q:Value->zAB->Prop}(hk:builtinKind id=none)(hp:plainId id=true)
  (hb:zH0 table id=some b)(ha:zGL id ⟨args,kw⟩)
  (hc:wpAny (model prog w) A.in1 (b ⟨args,kw⟩) (λ fin s'=>match fin with
   | .done f=>(match (Except.ok f:zE4)with| .ok (.ret v)=>Q v s'| .ok _=>False| .error e=>E e s')
   | .again c'=>c'.quiet=true/\zCP (model prog w) A c' (λ r s'=>match r with| .ok (.ret v)=>Q v s'| .ok _=>False| .error e=>E e s') s') E s):
  wpAny (model prog w) A (call (.builtin id) args kw) Q E s:=by
 refine zFN (zDT hp hb ?_);simp only[zDz,hk];cases hsig:Manifest.signature? id with
 |none=>exact zAN hc
 |some sig=>
  simp only[zGL,hsig]at ha;have h2:zHK id sig ⟨args,kw⟩=pure ():=ha;show wpAny _ A.in1 (zHK id sig ⟨args,kw⟩) _ _ s;rw[h2];exact zAN hc
end
theorem rM{K:zAA}:∀{xs:List V} {ds:List D} {i:Nat} {v:V},Rps K A H xs ds->xs[i]? =some v->∃d,ds[i]? =some d/\Rp K A H v d
 |_,_,_,_,.nil,h=>by simp at h
 |_,_,0,_,.cons r _,h=>by simp at h;subst h;exact⟨_,rfl,r⟩
 |_,_,i+1,_,.cons _ rs,h=>by
  obtain⟨d,e,r⟩:=rM (i:=i) rs (by simpa using h);exact⟨d,by simpa using e,r⟩
def aJy(A:zAZ)(s:zAB)(v u:Value)(b:Bool):Prop:=∀(prog:zAP) (w:World) (E:Value->zAB->Prop) (Q:Value->zAB->Prop),Q (.bool b) s->wpAny (model prog w) A (zEc .Gt v u) Q E s
inductive um(A:zAZ)(s:zAB):List Value->List Value->Bool->Prop
 |nn:um A s [] [] false
 |nc:um A s [] (v::vs) false
 |cn:um A s (v::vs) [] true
 |eq:zCN A s v u true->um A s vs us b->um A s (v::vs) (u::us) b
 |un:zCN A s v u false->aJy A s v u b->um A s (v::vs) (u::us) b
section
open PySem.SeqAt
open PySem.AutoSeq1(wpAny_loadPart')
open PySem.MeetsSeq PySem.MeetsSeq2 PySem.MeetsSeq3
def vp(l b:Addr)(items items2:Array Value)(n n2:Nat)(dd dd2:Option Addr)(sl sl2:Array (Option Value))(z:Bool):
  Meets (zDZ.«tuple.__gt__» ⟨[.ref l,.ref b],[]⟩)
   (λ A R s=>s.heap.get? l=some {cls:=.type "tuple",dict:=dd,data:=.seq items n,slots:=sl}/\s.heap.get? b=some {cls:=.type "tuple",dict:=dd2,data:=.seq items2 n2,slots:=sl2}/\
    um A.in1 s items.toList items2.toList z/\R (.ok (.ret (.bool z))) s):=
 .of_wp λ prog w A R s h=>by
  obtain⟨hp,g,d,tk,os⟩:=s;obtain⟨hl,hb,hx,h⟩:=h;have f2:=zCX;wp_walk using zCA hl,zCA hb,zEA _ (λ rest b s'=>b.1=none/\s'=⟨hp,g,d,tk,os⟩/\∃(vs ws:List Value),rest=vs.zip ws/\
   um A.in1 ⟨hp,g,d,tk,os⟩ vs ws z/\vs.length+items2.size=ws.length+items.size) _
  case turn=>
   rintro⟨y,x⟩ rest b s' ⟨hb',rfl,vs,ws,hz,hx,hW⟩;cases hx with
   |nn=>cases hz
   |nc=>cases hz
   |cn=>cases hz
   |eq he hr=>
    rw[zBB]at hz;injection hz with hyx hrest
    injection hyx with hy hx
    subst hy hx;simp only[zA6]at hW;refine zAD (he prog w _ _ ?_);wp_walk;exact⟨rfl,rfl,_,_,hrest,hr,by lia⟩
   |un he hri=>
    rw[zBB]at hz;injection hz with hyx hrest
    injection hyx with hy hx
    subst hy hx;refine zAD (he prog w _ _ ?_);have hri':=hri prog w;wp_walk using hri';exact⟨_,rfl,by simpa using h⟩
  case fin=>
   rintro⟨b1,b2⟩ s' ⟨hb',rfl,vs,ws,hz,hx,hW⟩;simp only at hb';subst hb';have hv:z=decide (items.size>items2.size):=by
    cases hx with
    |nn=>simp only[zBH]at hW;exact(decide_eq_false (by lia)).symm
    |nc=>simp only[zBH,zA6]at hW;exact(decide_eq_false (by lia)).symm
    |cn=>simp only[zBH,zA6]at hW;exact(decide_eq_true (by lia)).symm
    |eq=>cases hz
    |un=>cases hz
   rw[hv]at h;wp_walk;exact⟨_,rfl,by simpa[zBe]using h⟩
  case h=>
   exact⟨rfl,rfl,items.toList,items2.toList,rfl,hx,by simp;lia⟩
end
section
variable{s:zAB}
theorem um.at{A:zAZ}{l b:Addr}{its its2:Array Value}{z:Bool}(t1:s.heap.IsTuple l its)(t2:s.heap.IsTuple b its2)(hu:A.units<cLine)(hx:um A.in1 s its.toList its2.toList z):aJy A s (.ref l) (.ref b) z:=by
 intro prog w E Q q;obtain⟨⟨cls,dd,data,sl⟩,ho,hc,n,hd⟩:=id t1;obtain⟨⟨cls2,dd2,data2,sl2⟩,ho2,hc2,n2,hd2⟩:=id t2;simp only at hc hd hc2 hd2;subst hc hd hc2 hd2;exact zCz (op:=.Gt) ⟨_,ho,rfl⟩ ⟨_,ho2,rfl⟩ PySem.F.slot_tuple_gt PySem.F.entry_tuple_gt (PySem.F.args_tuple_gt_2 _ _) (vp l b its its2 n n2 dd dd2 sl sl2 z)
  ⟨ho,ho2,hx,show zBp z≠zCx/\Q (.bool z) s from⟨(λ x=>nomatch x),q⟩⟩ hu
end
section
variable{K:zAA}
theorem aE0:∀{l:List D} {d:D},jT l=true->d∈l->imm d=true
 |_::_,d,h,hm=>by
  simp only[jT,zAE]at h;rcases zAX.mp hm with rfl|hm
  .exact h.1
  .exact aE0 h.2 hm
def ltI(f:D->D->Option Bool)(l:List D)(i j:Nat):Bool:=(f (l.getD i .non) (l.getD j .non)).getD false
structure Cmp(f:D->D->Option Bool)(l:List D):Prop where
 n0:0<l.length
 im:jT l=true
 nd:ak l=true
 dp:cR l<=40
 cm:∀x∈l,∀y∈l,(f x y).isSome=true
instance:Decidable (Cmp f l):=if h:0<l.length/\jT l=true/\ak l=true/\cR l<=40/\∀x∈l,∀y∈l,(f x y).isSome=true then .isTrue ⟨h.1,h.2.1,h.2.2.1,h.2.2.2.1,h.2.2.2.2⟩else .isFalse λ z=>h ⟨z.n0,z.im,z.nd,z.dp,z.cm⟩
def uQ(f:D->D->Option Bool)(l:List D):D:=l.getD (zBy (ltI f l) (l.length-1)) .non
def jG(f:D->D->Option Bool):List D->Rs D
 |[.lst l]=>if Cmp f l then .ok (uQ f l)else .st
 |_=>.st
theorem kI(lt:Nat->Nat->Bool):∀k,zBy lt k<=k
 |0=>by simp[zBy]
 |k+1=>by
  have:=kI lt k
  simp only[zBy];split<;>lia
def zm{f:D->D->Option Bool}{l:List D}(h:0<l.length):uQ f l∈l:=by
 have:=kI (ltI f l) (l.length-1)
 have hk:zBy (ltI f l) (l.length-1)<l.length:=by lia
 unfold uQ;rw[zA3,zAC hk];exact zCC hk
def aGx(K:zAA)(f:D->D->Option Bool):List V->Hp->VK->Prop:=λ xs H Q=>∃(p:Addr) (vs:List V) (ds:List D) (A:Addr->Prop),xs=[.ref p]/\H p=some (.lst vs)/\Rps K A H vs ds/\Cmp f ds/\∀v,vs[zBy (ltI f ds) (vs.length-1)]? =some v->Q v H
def aG4{f:D->D->Option Bool}:pB K (aGx K f) (jG f):=by
 intro A xs ds H Q z r ez q;unfold jG at ez;split at ez
 .rename_i l
  split at ez
  .rename_i hc
   cases ez;cases r with
   |cons h r=>
    cases r;obtain⟨p,vs,rfl,hp,mm,rs⟩:=h.lst_inv;refine⟨p,vs,l,_,rfl,hp,rs,hc,λ v hv=>?_⟩;obtain⟨d,ed,rd⟩:=rM rs hv
    have:uQ f l=d:=by
     unfold uQ;rw[<-rs.length,zA3,ed];rfl
    subst this;exact q _ H (aO.refl H) (rd.imm (aE0 hc.im (zm hc.n0)))
  .cases ez
 .cases ez
def aE4{f:D->D->Option Bool}:∀x z,jG f x= .ok z->imm z=true:=by
 intro x z e;unfold jG at e;split at e
 .split at e
  .rename_i hc
   cases e;exact aE0 hc.im (zm hc.n0)
  .cases e
 .cases e
theorem oF:∀{xs:List V} {us:List Value} {i:Nat} {v:Value},Vals xs us->us[i]? =some v->∃x,xs[i]? =some x/\RelV x v
 |_,_,_,_,.nil,h=>by simp at h
 |_,_,0,_,.cons r _,h=>by simp at h;subst h;exact⟨_,rfl,r⟩
 |_,_,i+1,_,.cons _ rs,h=>by
  obtain⟨d,e,r⟩:=oF (i:=i) rs (by simpa using h);exact⟨d,by simpa using e,r⟩
end
mutual
def lsD:D->D->Option Bool
 | .int a,.int b=>some (decide (a<b))
 | .tup l,.tup m=>tQ l m
 |_,_=>none
def tQ:List D->List D->Option Bool
 |[],[]=>some false
 |[],_::_=>some true
 |_::_,[]=>some false
 |x::xs,y::ys=>if eqD x y=true then tQ xs ys else lsD x y
end
def aGg(A:zAZ)(s:zAB)(v u:Value)(b:Bool):Prop:=∀(prog:zAP) (w:World) (E:Value->zAB->Prop) (Q:Value->zAB->Prop),Q (.bool b) s->wpAny (model prog w) A (zEc .Lt v u) Q E s
inductive rD(A:zAZ)(s:zAB):List Value->List Value->Bool->Prop
 |nn:rD A s [] [] false
 |nc:rD A s [] (v::vs) true
 |cn:rD A s (v::vs) [] false
 |eq:zCN A s v u true->rD A s vs us b->rD A s (v::vs) (u::us) b
 |un:zCN A s v u false->aGg A s v u b->rD A s (v::vs) (u::us) b
section
open PySem.SeqAt
open PySem.AutoSeq1(wpAny_loadPart')
open PySem.MeetsSeq PySem.MeetsSeq2 PySem.MeetsSeq3
def vo(l b:Addr)(items items2:Array Value)(n n2:Nat)(dd dd2:Option Addr)(sl sl2:Array (Option Value))(z:Bool):
  Meets (zDZ.«tuple.__lt__» ⟨[.ref l,.ref b],[]⟩)
   (λ A R s=>s.heap.get? l=some {cls:=.type "tuple",dict:=dd,data:=.seq items n,slots:=sl}/\s.heap.get? b=some {cls:=.type "tuple",dict:=dd2,data:=.seq items2 n2,slots:=sl2}/\
    rD A.in1 s items.toList items2.toList z/\R (.ok (.ret (.bool z))) s):=
 .of_wp λ prog w A R s h=>by
  obtain⟨hp,g,d,tk,os⟩:=s;obtain⟨hl,hb,hx,h⟩:=h;have f2:=zCX;wp_walk using zCA hl,zCA hb,zEA _ (λ rest b s'=>b.1=none/\s'=⟨hp,g,d,tk,os⟩/\∃(vs ws:List Value),rest=vs.zip ws/\
   rD A.in1 ⟨hp,g,d,tk,os⟩ vs ws z/\vs.length+items2.size=ws.length+items.size) _
  case turn=>
   rintro⟨y,x⟩ rest b s' ⟨hb',rfl,vs,ws,hz,hx,hW⟩;cases hx with
   |nn=>cases hz
   |nc=>cases hz
   |cn=>cases hz
   |eq he hr=>
    rw[zBB]at hz;injection hz with hyx hrest
    injection hyx with hy hx
    subst hy hx;simp only[zA6]at hW;refine zAD (he prog w _ _ ?_);wp_walk;exact⟨rfl,rfl,_,_,hrest,hr,by lia⟩
   |un he hri=>
    rw[zBB]at hz;injection hz with hyx hrest
    injection hyx with hy hx
    subst hy hx;refine zAD (he prog w _ _ ?_);have hri':=hri prog w;wp_walk using hri';exact⟨_,rfl,by simpa using h⟩
  case fin=>
   rintro⟨b1,b2⟩ s' ⟨hb',rfl,vs,ws,hz,hx,hW⟩;simp only at hb';subst hb';have hv:z=decide (items.size<items2.size):=by
    cases hx with
    |nn=>simp only[zBH]at hW;exact(decide_eq_false (by lia)).symm
    |nc=>simp only[zBH,zA6]at hW;exact(decide_eq_true (by lia)).symm
    |cn=>simp only[zBH,zA6]at hW;exact(decide_eq_false (by lia)).symm
    |eq=>cases hz
    |un=>cases hz
   rw[hv]at h;wp_walk;exact⟨_,rfl,by simpa[zBe]using h⟩
  case h=>
   exact⟨rfl,rfl,items.toList,items2.toList,rfl,hx,by simp;lia⟩
end
section
variable{K:zAA}{H:Hp}{s:zAB}
theorem rD.at{A:zAZ}{l b:Addr}{its its2:Array Value}{z:Bool}(t1:s.heap.IsTuple l its)(t2:s.heap.IsTuple b its2)(hu:A.units<cLine)(hx:rD A.in1 s its.toList its2.toList z):aGg A s (.ref l) (.ref b) z:=by
 intro prog w E Q q;obtain⟨⟨cls,dd,data,sl⟩,ho,hc,n,hd⟩:=id t1;obtain⟨⟨cls2,dd2,data2,sl2⟩,ho2,hc2,n2,hd2⟩:=id t2;simp only at hc hd hc2 hd2;subst hc hd hc2 hd2;exact zCz (op:=.Lt) ⟨_,ho,rfl⟩ ⟨_,ho2,rfl⟩ zFY zFS (zFC _ _) (vo l b its its2 n n2 dd dd2 sl sl2 z)
  ⟨ho,ho2,hx,show zBp z≠zCx/\Q (.bool z) s from⟨(λ x=>nomatch x),q⟩⟩ hu
mutual
theorem aEF(ok:gY K H s):∀(d:D) {A1 A2:Addr->Prop} {x y:V} {e:D} (n:Nat) {A:zAZ} {u v:Value} {z:Bool},Rp K A1 H x d->Rp K A2 H y e->RelV x u->RelV y v->jU d<=n->aZ d=true->aZ e=true->A.units+n<cLine->lsD d e=some z->aGg A s u v z
 | .int i,_,_,_,_,e,n,A,u,v,z,r1,r2,ru,rv,hd,nd,ne,hu,hz=>by
  cases e with
  |int j=>
   cases r1;cases r2;obtain⟨t,rfl⟩:=ru;obtain⟨t',rfl⟩:=rv;simp only[lsD,zC5]at hz;subst hz;intro prog w E Q q;exact(zEv q:wpAny (model prog w) A (zAm .Lt (.int i t) (.int j t')) Q E s)
  |_=>simp[lsD]at hz
 | .tup ds,_,_,_,_,e,n,A,u,v,z,r1,r2,ru,rv,hd,nd,ne,hu,hz=>by
  cases e with
  |tup es=>
   cases r1 with
   |tup h1 q1=>
   cases r2 with
   |tup h2 q2=>
   cases ru;cases rv;obtain⟨its,w1,t1⟩:=ok.tup h1;obtain⟨its2,w2,t2⟩:=ok.tup h2;simp only[jU]at hd;obtain⟨k,rfl⟩:∃k,n=k+1:=⟨n-1,by lia⟩
   simp only[lsD]at hz;exact rD.at t1 t2 (by lia) (aB3 ok ds (es:=es) k q1 q2 w1 w2 (by lia) (dq nd) (dq ne) (by show A.units+1+k<cLine;lia) hz)
  |_=>simp[lsD]at hz
 | .non,_,_,_,_,_,_,_,_,_,_,_,_,_,_,_,_,_,_,hz=>by simp[lsD]at hz
 | .bl _,_,_,_,_,_,_,_,_,_,_,_,_,_,_,_,_,_,_,hz=>by simp[lsD]at hz
 | .str _,_,_,_,_,_,_,_,_,_,_,_,_,_,_,_,_,_,_,hz=>by simp[lsD]at hz
 | .lst _,_,_,_,_,_,_,_,_,_,_,_,_,_,_,_,_,_,_,hz=>by simp[lsD]at hz
 | .dct _ _,_,_,_,_,_,_,_,_,_,_,_,_,_,_,_,_,_,_,hz=>by simp[lsD]at hz
 | .set _,_,_,_,_,_,_,_,_,_,_,_,_,_,_,_,_,_,_,hz=>by simp[lsD]at hz
 | .scr _,_,_,_,_,_,_,_,_,_,_,_,_,_,_,_,_,_,_,hz=>by simp[lsD]at hz
 | .fn _,_,_,_,_,_,_,_,_,_,_,_,_,_,_,_,_,_,_,hz=>by simp[lsD]at hz
theorem aB3(ok:gY K H s):∀(ds:List D) {A1 A2:Addr->Prop} {xs ys:List V} {es:List D} (n:Nat) {A:zAZ} {us vs:List Value} {z:Bool},Rps K A1 H xs ds->Rps K A2 H ys es->Vals xs us->Vals ys vs->cR ds<=n->ak ds=true->ak es=true->A.units+n<cLine->tQ ds es=some z->rD A s us vs z
 |[],_,_,_,_,es,n,A,us,vs,z,r1,r2,ru,rv,hd,nd,ne,hu,hz=>by
  cases r1;cases ru;cases r2 with
  |nil=>cases rv;simp only[tQ,zC5]at hz;subst hz;exact .nn
  |cons _ _=>cases rv;simp only[tQ,zC5]at hz;subst hz;exact .nc
 |d::ds,_,_,_,_,es,n,A,us,vs,z,r1,r2,ru,rv,hd,nd,ne,hu,hz=>by
  cases r1 with
  |cons p1 q1=>
  cases ru with
  |cons a1 b1=>
  cases r2 with
  |nil=>cases rv;simp only[tQ,zC5]at hz;subst hz;exact .cn
  |cons p2 q2=>
  cases rv with
  |cons a2 b2=>
  have hd1:jU d<=n/\cR ds<=n:=by simp only[cR]at hd;lia
  have n1:=dm nd;have n2:=dm ne;have he:=aEj ok n (A:=A) p1 p2 a1 a2 hd1.1 n1.1 n2.1 hu;simp only[tQ]at hz;split at hz
  .rename_i e
   rw[e]at he;exact .eq he (aB3 ok ds n q1 q2 b1 b2 hd1.2 n1.2 n2.2 hu hz)
  .rename_i e
   rw[zG5.mpr e]at he;exact .un he (aEF ok d n p1 p2 a1 a2 hd1.1 n1.1 n2.1 hu hz)
end
end
section
variable{prog:zAP}{w:World}{A:zAZ}{R:zE4->zAB->Prop}{I:Addr}{fp wr:List Addr}{G:Array zDD->Array zDD->Prop}{n:Nat}{St:Nat->zAB->Prop}{vs:List Value}{lt:Nat->Nat->Bool}{s:zAB}{kw:List (Str×Value)}{h0:Heap}
def aJE(h0:Heap)(A:zAZ)(vs:List Value)(lt:Nat->Nat->Bool):Prop:=∀(s:zAB),(∀b o,h0.get? b=some o->s.heap.get? b=some o)->∀i j v u,vs[i]? =some v->vs[j]? =some u->aGg A s v u (lt i j)
def aCU(W:WalksS prog w A.in1 I fp wr G n (λ i v=>vs.toArray[i]? =some v) St)(S:Addr)(hSf:S∉fp)(C:aJE h0 A.in1 vs lt)(hin:∀x o,h0.get? x=some o->x∉S::wr):
  ∀(k j:Nat) (s:zAB) (vb:Value) (c:Nat),n-(j+1)=k->j+1<=n->St (j+1) s->(∀b o,h0.get? b=some o->s.heap.get? b=some o)->vs[zBy lt j]? =some vb->
  s.heap.get? S=some {cls:=.type "list",dict:=none,data:=.seq #[vb,vb] c,slots:=#[]}->
  (∀v s',vs[zBy lt (n-1)]? =some v->Moved (S::wr) G s s'->R (.ok (.ret v)) s')->zCP (model prog w) A (.builtin "min.loop" ⟨[.ref I,.none,.ref S],kw⟩) R s:=by
 have hSw:S∉wr:=λ h=>hSf (W.sub _ h)
 have iX:∀b∈wr,b∈S::wr:=λ b hb=>zAK _ hb
 have oQ:(zFa "min"++zFa ".loop":String)="min.loop":=by decide
 have aI:∀{b:Addr},b∉S::wr->S≠b:=λ hb h=>hb (by rw[h];exact zAI)
 have dE:∀x o,h0.get? x=some o->x∉wr:=λ x o hx h=>hin x o hx (iX _ h)
 intro k;induction k with
 |zero=>
  intro j s vb c hk hj hst ht hPb hS hR;have hin:j+1=n:=by omega
  refine zB1 zD8 ?_;rw[zBL zBN _];show wpAny _ A.in1 (seqItems? (.ref S)>>=_) _ _ s;refine zAD (zGC hS rfl ?_);show wpAny _ A.in1 (zH3 (zE5 (.ref I)) _>>=_) _ _ s;refine zAD (zE7 (W.done s _ _ (hin▸hst) λ s' hm=>?_));have hS':=hm.heap S _ hSw hS;show wpAny _ A.in1 (updateSeq S (λ _=>#[])>>=_) _ _ _;refine zAD ?_;refine zFk hS' rfl (zAD (zFj (zAN ?_)));exact hR vb _ (by rw[<-hin];exact hPb) ((hm.mono iX).then_heap (tk:=s'.toks) (zAW _) λ b o hb e=>(zAz _ _ (aI hb)).trans e)
 |succ k ih=>
  intro j s vb c hk hj hst ht hPb hS hR;have hlt:j+1<n:=by omega
  refine zB1 zD8 ?_;rw[zBL zBN _];show wpAny _ A.in1 (seqItems? (.ref S)>>=_) _ _ s;refine zAD (zGC hS rfl ?_);show wpAny _ A.in1 (zH3 (zE5 (.ref I)) _>>=_) _ _ s;refine zAD (zE7 (W.item (j+1) s _ _ hlt hst λ v s' hP0 hst' hm=>?_));have hP:vs[j+1]? =some v:=by simpa using hP0
  have hS':=hm.heap S _ hSw hS;have ht':∀b o,h0.get? b=some o->s'.heap.get? b=some o:=λ b o e=>hm.heap b o (dE b o e) (ht b o e)
  show wpAny _ A.in1 (zH3 (zDQ [v,v] (zEc .Lt v vb>>=_)) _>>=_) _ _ _;refine zAD (zE7 (zCG (zAD (C s' ht' _ _ _ _ hP hPb _ _ _ _ ?_))));refine zAD (zCG (zBY ?_));refine zAD (zFj (zAN ?_));cases hb:lt (j+1) (zBy lt j)with
  |true=>
   simp only[if_true];refine zAD ?_;refine zFk hS' rfl (zAD (zFj ?_));rw[oQ];refine zAN ⟨zCq zBN _,ih (j+1) _ v _ (by omega) hlt (W.frame _ s' _ s'.toks hst' (zAW _) λ b hbf o e=>?_) (λ x o e=>(zAz _ _ (aI (hin x o e))).trans (ht' x o e)) (by simp only[zBy,hb,if_true];exact hP) (zCH _ hS' rfl)
    λ v' s'' hP' hm''=>?_⟩
   .exact(zAz _ _ (λ h:S=b=>hSf (by rw[h];exact hbf))).trans e
   .exact hR v' s'' hP' (zEl W.gtrans ((hm.mono iX).then_heap (by first|exact zAW _|exact zEL _|omega) λ b o hb e=>(zAz _ _ (aI hb)).trans e) hm'')
  |false=>
   simp only[zAo,if_false];refine zAD (zFj ?_);rw[oQ];refine zAN ⟨zCq zBN _,ih (j+1) _ vb c (by omega) hlt hst' ht' (by simp only[zBy,hb,zAo,if_false];exact hPb) hS' λ v' s'' hP' hm''=>?_⟩;exact hR v' s'' hP' (zEl W.gtrans (hm.mono iX) hm'')
def aA1(W:WalksS prog w A.in1 I fp wr G n (λ i v=>vs.toArray[i]? =some v) St)(S:Addr)(hSf:S∉fp)(C:aJE h0 A.in1 vs lt)(hin:∀x o,h0.get? x=some o->x∉S::wr){c:Nat}(hn:0<n)(hst:St 0 s)(ht:∀b o,h0.get? b=some o->s.heap.get? b=some o)
  (hS:s.heap.get? S=some {cls:=.type "list",dict:=none,data:=.seq #[] c,slots:=#[]})
  (hR:∀v s',vs[zBy lt (n-1)]? =some v->Moved (S::wr) G s s'->R (.ok (.ret v)) s'):zCP (model prog w) A (.builtin "min.loop" ⟨[.ref I,.none,.ref S],kw⟩) R s:=by
 have hSw:S∉wr:=λ h=>hSf (W.sub _ h)
 have iX:∀b∈wr,b∈S::wr:=λ b hb=>zAK _ hb
 have oQ:(zFa "min"++zFa ".loop":String)="min.loop":=by decide
 have aI:∀{b:Addr},b∉S::wr->S≠b:=λ hb h=>hb (by rw[h];exact zAI)
 have dE:∀x o,h0.get? x=some o->x∉wr:=λ x o hx h=>hin x o hx (iX _ h)
 refine zB1 zD8 ?_;rw[zBL zBN _];show wpAny _ A.in1 (seqItems? (.ref S)>>=_) _ _ s;refine zAD (zGC hS rfl ?_);show wpAny _ A.in1 (zH3 (zE5 (.ref I)) _>>=_) _ _ s;refine zAD (zE7 (W.item 0 s _ _ hn hst λ v s' hP0 hst' hm=>?_));have hP:vs[0]? =some v:=by simpa using hP0
 have hS':=hm.heap S _ hSw hS;have ht':∀b o,h0.get? b=some o->s'.heap.get? b=some o:=λ b o e=>hm.heap b o (dE b o e) (ht b o e)
 show wpAny _ A.in1 (updateSeq S (λ _=>#[v,v])>>=_) _ _ _;refine zAD ?_;refine zFk hS' rfl ?_;rw[oQ];refine zAN ⟨zCq zBN _,aCU W S hSf C hin _ 0 _ v _ rfl (by omega) (W.frame _ s' _ s'.toks hst' (zAW _) λ b hbf o e=>?_) (λ x o e=>(zAz _ _ (aI (hin x o e))).trans (ht' x o e)) hP (zCH _ hS' rfl) λ v' s'' hP' hm''=>?_⟩
 .exact(zAz _ _ (λ h:S=b=>hSf (by rw[h];exact hbf))).trans e
 .exact hR v' s'' hP' (zEl W.gtrans ((hm.mono iX).then_heap (by first|exact zAW _|exact zEL _|omega) λ b o hb e=>(zAz _ _ (aI hb)).trans e) hm'')
def aAv(a:Value):zGL "min" ⟨[a],[]⟩:=by unfold zGL;kernel_rfl
def aCc{E:Value->zAB->Prop}{l:Addr}{Q:Value->zAB->Prop}(hh:A.handled=none)(hl:s.heap.IsList l vs.toArray)(hn:0<vs.length)(C:aJE s.heap A.in1 vs lt)
  (h:∀v h' tk,vs[zBy lt (vs.length-1)]? =some v->(∀b o,s.heap.get? b=some o->h'.get? b=some o)->Q v {s with heap:=h',toks:=tk}):
  wpAny (model prog w) A (call (.builtin "min") [.ref l] []) Q E s:=by
 have oQ:(zFa "min"++zFa ".loop":String)="min.loop":=by decide
 have hlS:l<s.heap.objs.size:=by obtain⟨_,e,_⟩:=hl;exact zAM e
 refine xn PySem.F.kind_min PySem.F.plain_min PySem.F.entry_min (aAv _) ?_;show wpAny _ A.in1 (zDn "min" ["key","default"] 0 ⟨[],[]⟩>>=_) _ _ s;refine zAD (zHS (show zDn "min" ["key","default"] 0 ⟨[],[]⟩=pure [none,none]from rfl) ?_);refine zAD (zAN ?_);refine zAD (zDl hl ?_);refine zAD (zC2 ?_);rw[oQ];have hsz:∀(o:Obj),(s.heap.push o).objs.size=s.heap.objs.size+1:=λ o=>zB5 ..
 have hold:∀(o o':Obj) b ob,s.heap.get? b=some ob->((s.heap.push o).push o').get? b=some ob:=λ o o' b ob e=>zAH _ (zAH _ e)
 refine zAN ⟨zCq zBN _,aA1 (vs:=vs) (lt:=lt) (h0:=s.heap) ((zGX (A:=A.in1) hh s.heap.objs.size l (zA1 hlS) vs.toArray).toS) _ ?hSf C ?hin (by simpa using hn) ⟨⟨_,zAH _ (zAR _ rfl),rfl,rfl⟩,(hl.push _).push _⟩ (λ x o e=>hold _ _ _ _ e) (zAR _ rfl) ?hR⟩
 case hSf=>
  rw[hsz];simp only[zAX,zBh,or_false,not_or];exact⟨zCM (zC4 _),zCM (zCp hlS)⟩
 case hin=>
  intro x o e
  have:=zAM e
  rw[hsz];simp only[zAX,zBh,or_false,not_or];exact⟨zA1 (zCp this),zA1 this⟩
 case hR=>
  intro v s' hv hm;obtain⟨h',g',d',tk',os'⟩:=s';have eg:g'=s.gens:=hm.gens;have ed:d'=s.drawn:=hm.drawn;have eo:os'=s.os:=hm.os;subst eg;subst ed;subst eo;refine h v h' tk' (by simpa using hv) λ b o e=>hm.heap b o ?_ (hold _ _ _ _ e)
  have hb:=zAM e;rw[hsz];simp only[zAX,zBh,or_false,not_or];exact⟨zA1 (zCp hb),zA1 hb⟩
end
section
variable{X:Cx}
def aCd(hc:X.calm=true)(hu:X.A.units+64<cLine):dM X (.builtin "min") (aGx X.K lsD):=by
 intro hV s Z H xs us Q I r h;obtain⟨p,vs,ds,A',rfl,hp,rs,hC,q⟩:=h;obtain⟨u,rfl,ru⟩:=vals1 r;cases ru;obtain⟨its,rv,pl,hz⟩:=I.list (SqL.of hp);have l1:vs.length=its.length:=rv.length;have l2:vs.length=ds.length:=rs.length;have h0:=hC.n0;refine aCc (lt:=ltI lsD ds) (I.ok.hd hc) pl.isList (by lia) (λ s' hk i j v u hi hj=>?_) λ v h' tk hv hk=>?_
 .obtain⟨x,ex,rx⟩:=oF rv hi
  obtain⟨y,ey,ry⟩:=oF rv hj;obtain⟨d,ed,rd⟩:=rM rs ex;obtain⟨e,ee,re⟩:=rM rs ey;have md:=zAq ed;have me:=zAq ee;obtain⟨z,hz⟩:=zFB.mp (hC.cm d md e me);have g:ltI lsD ds i j=z:=by
   unfold ltI;rw[zA3,zA3,ed,ee];simp[hz]
  have ok:=Inv.seqOk (I.kept (h':=s'.heap) (t':=s'.toks) hk);have ok':gY X.K H s':=⟨ok.tup,ok.lst,ok.inj,ok.ne⟩;rw[g];exact aEF ok' d 40 rd re rx ry (zAd (qI md) hC.dp) (iG md hC.nd) (iG me hC.nd) (by show X.A.units+1+40<cLine;lia) hz
 .obtain⟨x,ex,rx⟩:=oF rv hv
  exact⟨x,H,I.kept hk,rx,q x (by rw[l1];exact ex)⟩
end
section
variable{C:Ct}{pos p:Pos}{a:Expr}{ga:En->Rs (List D)}{m:Mode}
def aBF(hm:C.mg "min"=none)(ha:SA C m [a] ga)(he:∀i,zAT [a] (C.X i).env=[(false,eval a (C.X i).env)]:=by intro _;rfl)(hg:∀i,Gl (C.X i) "min":=by intro _;rfl)(hv:zAr "min"=some (.builtin "min"):=by decide+kernel):SE C (some []) (.Call (.Name "min" p) [a] [] pos) (opA (jG lsD) ga):=
 cO (iB (λ i=>by have h:=aCd (X:=C.X i) (C.calm i) (C.u64 i);rw[C.hK i]at h;exact h) aG4 hg hm hv ha (by decide) (by decide) he) λ _ _ h=>jt aE4 h
end
theorem intsAre_of:∀{vs:List Value} {ns:List Int},vs.length=ns.length->(∀(i:Nat) v,vs[i]? =some v->∃t,v= .int (ns.getD i 0) t)->zBO vs ns
 |[],[],_,_=>.nil
 |[],_::_,h,_=>by cases h
 |_::_,[],h,_=>by cases h
 |v::vs,n::ns,h,hv=>by
  obtain⟨t,e⟩:=hv 0 v rfl;have e2:v= .int n t:=e;subst e2;exact .cons _ _ (intsAre_of (by simpa using h) λ i v e=>by
   obtain⟨t,e⟩:=hv (i+1) v (by simpa using e);exact⟨t,by simpa using e⟩)
def rC(i:Int):Nat:=if i==0 then 0 else i.natAbs.log2+1
def aAs(fo:En->Rs D):En->Rs D:=λ Y=>(fo Y).bd λ d=>match d with
 | .int i=>.ok (.int (rC i:Nat))
 |_=>.st
def aGw:V->List V->Hp->VK->Prop:=λ x xs H Q=>∃i:Int,x= .int i/\xs=[]/\Q (.int (rC i:Nat)) H
def aFu{X:Cx}:MtR X "int.bit_length" aGw:=by
 rintro hV s Z H x xs v us Q I rx rxs ⟨i,rfl,rfl,q⟩;obtain⟨t,rfl⟩:=(show∃t,v=zBq i t from rx);cases rxs;exact call_int_bit_length ⟨.int (rC i:Nat),H,I.tok _,⟨_,rfl⟩,q⟩
section
variable{C:Ct}{m:Mode}{o:Expr}{fo:En->Rs D}{apos cpos:Pos}
def uw(ho:SE C m o fo)(hbase:∀j,zDW o "bit_length" (C.X j).env (eval o (C.X j).env)=eval o (C.X j).env:=by intro _;rfl)
  (hline:(apos.endLine==cpos.line)=true:=by rfl):SE C (some []) (.Call (.Attribute o "bit_length" apos) [] [] cpos) (aAs fo):=by
 obtain⟨t,h1,h2⟩:=ho;refine⟨aJN C.K "int" aGw t,λ j=>by rw[<-C.hK j];exact aHn PySem.F.plainAttrs_int slot_int_bit_length type_int_bit_length aFu (h1 j) (hbase j) hline,λ U Z H Y lab Q R W=>?_⟩;refine h2 U Z H Y lab _ R (W.bd.imp λ d _ w x H1 s1 r1=>?_);cases d with
 |int i=>
  have ey:=r1.int_inv;subst ey;exact⟨rfl,i,rfl,rfl,w _ H1 s1 (.int _)⟩
 |_=>exact zAJ w
end
def pG:D->D->Rs D:=i2 (λ i j=>decide (0<=j)&&decide (j<=1000000)&&decide (i.natAbs<2^64)) λ i j=>.int (i*2^j.toNat)
def aDM:D->D->Rs D:=i2 (λ _ j=>decide (0<=j)) λ i j=>.int (i / 2^j.toNat)
def m8:D->D->Rs D:=i2 (λ _ _=>true) λ i j=>.int (zBt i j)
def aEu:D->D->Rs D:=i2 (λ _ _=>true) λ i j=>.int (zEC i j)
section
variable{C:Ct}{pos:Pos}{m1 m2:Mode}{a b:Expr}{fa fb:En->Rs D}
def aAJ(ha:SE C m1 a fa)(hb:SE C m2 b fb):SE C (some []) (.BinOp a .LShift b pos) (op2 pG fa fb):=cO (mR (λ _=>aHz) (tD λ i j h=>by simp only[zAE,decide_eq_true_eq]at h;exact⟨h.1.1,h.1.2,h.2⟩) ha hb) λ _ _ h=>fB lN h
def aHW(ha:SE C m1 a fa)(hb:SE C m2 b fb):SE C (some []) (.BinOp a .RShift b pos) (op2 aDM fa fb):=cO (mR (λ _=>aHy) (tD λ i j h=>by simpa using h) ha hb) λ _ _ h=>fB lN h
def wH(ha:SE C m1 a fa)(hb:SE C m2 b fb):SE C (some []) (.BinOp a .BitAnd b pos) (op2 m8 fa fb):=cO (mR (λ _=>aIM) wZ ha hb) λ _ _ h=>fB lN h
def aH0(ha:SE C m1 a fa)(hb:SE C m2 b fb):SE C (some []) (.BinOp a .BitOr b pos) (op2 aEu fa fb):=cO (mR (λ _=>aJ4) wZ ha hb) λ _ _ h=>fB lN h
end
def xR(K:zAA)(x:Str)(Pt:Addr):Bool:=match zA2 K zAV x with
 |some (some (.ref f))=>(match K.lookup f with
  |some ⟨_,_,.func fd,_⟩=>(match fd.code with| .ref c=>zD6 K c Pt|_=>false)
  |_=>false)&&(K.lookup Pt).isNone
 |_=>false
def aC0{K:zAA}{h:Heap}{mg:Str->Option Value}{fa Pt:Addr}{x:Str}(X:K.In h)(G:h.Ns zAV mg)(hm:mg x=some (.ref fa))(e:xR K x Pt=true)
  {o:Obj}{fd:zAe}(lk:K.lookup fa=some o)(hd:o.data= .func fd):K.lookup Pt=none/\∃c,fd.code= .ref c/\zD6 K c Pt=true:=by
 unfold xR at e;split at e
 .rename_i f hf
  have e1:=(zA4 X G hf).symm.trans hm;cases e1;rw[zAE]at e;refine⟨by simpa using e.2,?_⟩;have e2:=e.1;rw[lk]at e2;split at e2
  .rename_i fd' _ q
   have q2:=zA8 q;rw[q2]at hd;have hd2:Data.func fd'=Data.func fd:=hd;cases hd2;split at e2
   .rename_i c hc
    exact⟨c,hc,e2⟩
   .cases e2
  .cases e2
 .cases e
def aGC{P:zAP}{w:World}{K:zAA}{h:Heap}{mg:Str->Option Value}{fa Pt:Addr}{fd:zAe}{k n:Nat}{x:Str}{N:List Str}{st:Stmt}{f:En->Ou}{F:List D->Rs D}(X:K.In h)(G:h.Ns zAV mg)
  (hB:xR K "law" Pt=true){ps:List Str}(e:Dnr K mg "law" st ps fa fd)(S:aY N [x] (aF st))
  (hbind:∀(kV doc pm:Value) (an:Option Addr) (cdv ct:Value) (s:zAB) (u:Value),zGP s (zBU "law" "law" (jw st) (cH st) (aF st) .none kV doc pm an cdv ct) ⟨[u],[]⟩ [(x,u)])
  (body:∀(base:Heap) (c:Addr) (s:zAB) (H:Hp) (hr:dJ k (zCO.deeper (zC9 "law" (aF st) s.heap.objs.size fa (.ref c)))),qu (cxW P w K mg base N "law" (aF st) fa (.ref c) zCO s H Pt) Pt->zGb N->
   SSs (ctW P w K mg base N "law" (aF st) fa (.ref c) zCO s H Pt k hr) (cH st) f)
  (hF:F=eX N.length f)(tru:∀ns:List Int,ns.length<=n->F [.scr ns]= .ok (.bl true)):aBu P w K mg fa Pt k n:=by
 obtain⟨oc,od,kV,doc,pm,an,cdv,ct,osl,e1,lk,hcd⟩:=e.F.ex;obtain⟨h1,c,h2,h3⟩:=aC0 X G e.m hB lk rfl;subst e1;obtain rfl:cdv= .ref c:=h2;exact⟨x,"law","law",_,_,_,_,kV,doc,pm,ct,oc,an,od,c,osl,N,h1,h3,lk,hcd,S,λ s u=>hbind kV doc pm an _ ct s u,λ a ns hl base s H hr Lx hO hS=>
  aEJ (body base c s H hr Lx S.nd) (by rw[<-hF];exact tru ns hl) (.cons (.scr (aH2 hO hS)) .nil)⟩
section
variable{Y:En}{i:Nat}{f g:En->Rs D}{fb gb:En->Rs Bool}{ga:En->Rs (List D)}{u v:En->Ou}{d:D}
@[simp] def varD_ap:pF i Y=match Y[i]? with
 |some (.sh d)=>.ok d
 |some (.nw d)=>.ok d
 |some (.ow d)=>.ok d
 |some (.oz d)=>.ok d
 |some (.o2 l)=>.ok (.lst (l.map .lst))
 |_=>.st:=aM rfl
@[simp] def aFK:aB i Y=match Y[i]? with
 |some (.sh d)=>.ok d
 |some (.nw d)=>.ok d
 |_=>.st:=aM rfl
@[simp] def varN_ap:pC i Y=match Y[i]? with
 |some (.nw d)=>.ok d
 |_=>.st:=aM rfl
@[simp] def varO_ap:vg i Y=match Y[i]? with
 |some (.ow d)=>.ok d
 |some (.o2 l)=>.ok (.lst (l.map .lst))
 |_=>.st:=aM rfl
@[simp] def aBk:cD d Y= .ok d:=aM rfl
@[simp] def fu:aJ Y= .ok []:=aM rfl
@[simp] def bB:aC f ga Y=(f Y).bd λ d=>(ga Y).bd λ ds=>.ok (d::ds):=aM rfl
@[simp] def szl:zAY=16777216:=zDB
@[simp] def rG:bh ga Y=(ga Y).bd λ ds=>if ds.length<=16777216 then .ok (.tup ds)else .st:=by unfold bh;rw[szl]
@[simp] def lstD_ap:ud ga Y=(ga Y).bd λ ds=>if ds.length<=16777216 then .ok (.lst ds)else .st:=by unfold ud;rw[szl]
@[simp] def cP:okD (.ok d)= .ok d:=aM rfl
@[simp] def cg:op2 fd f g Y=(f Y).bd λ x=>(g Y).bd λ y=>okD (fd x y):=aM rfl
@[simp] def op1_ap:op1 fd f Y=(f Y).bd λ x=>okD (fd x):=aM rfl
@[simp] def jr:opA fd ga Y=(ga Y).bd λ x=>okD (fd x):=aM rfl
@[simp] def o7:aj F ga Y=(ga Y).bd F:=aM rfl
def aIw(d:D)(r:Rs D):Rs D:=match d with
 | .bl true=>r
 | .bl false=>.ok (.bl false)
 |_=>.st
@[simp] def aBs:aIw (.bl b) r=if b=true then r else .ok (.bl false):=by cases b<;>rfl
@[simp] def rz:ul f g Y=(f Y).bd λ d=>aIw d (g Y):=aM rfl
@[simp] def notD_bl:aIO (.bl b)= .ok (.bl (!b)):=aM rfl
def chR(d:D)(r:Rs D):Rs D:=match d with
 | .bl true=>r
 | .bl false=>.ok (.bl false)
 |_=>.st
@[simp] def chR_bl:chR (.bl b) r=if b=true then r else .ok (.bl false):=by cases b<;>rfl
@[simp] def chD_ap:chD fd fd' f g h Y=(f Y).bd λ x=>(g Y).bd λ y=>(okD (fd x y)).bd λ z=>chR z ((h Y).bd λ w=>okD (fd' y w)):=aM rfl
@[simp] def truD_bl:aFM (.bl b)= .ok b:=aM rfl
@[simp] def truD_int:aFM (.int n)= .ok (n !=0):=aM rfl
@[simp] def aIo:blD (.bl b)= .ok b:=aM rfl
@[simp] def tst_ap:tst f Y=(f Y).bd aFM:=aM rfl
@[simp] def aAE:tsb f Y=(f Y).bd blD:=aM rfl
@[simp] def aGc:aIv fb gb Y=(fb Y).bd λ k=>if k=true then gb Y else .ok false:=aM rfl
@[simp] def orT_ap:orT fb gb Y=(fb Y).bd λ k=>if k=true then .ok true else gb Y:=aM rfl
@[simp] def notT_ap:qy fb Y=(fb Y).bd λ k=>.ok (!k):=aM rfl
@[simp] def aV:bD u v Y=(u Y).sq v:=aM rfl
@[simp] def lu:retS f Y=(f Y).bo .rt:=aM rfl
@[simp] def dropS_ap:z8 f Y=(f Y).bo λ _=>.nx Y:=aM rfl
@[simp] def ifS_ap:ifS fb u v Y=(fb Y).bo λ k=>if k=true then u Y else v Y:=aM rfl
@[simp] def lr:dN i f Y=(f Y).bo λ d=>.nx (Y.set i (.sh d)):=aM rfl
@[simp] def oJ:qw i f Y=(f Y).bo λ d=>.nx (Y.set i (.nw d)):=aM rfl
@[simp] def aFT:yQ i f Y=(f Y).bo λ d=>.nx (Y.set i (.ow d)):=aM rfl
@[simp] def aAm:gnm i d Y= .ok (Y.set i (.sh d)):=aM rfl
@[simp] def gnil_nil:gZ [] Y= .ok Y:=aM rfl
@[simp] def gcons_cons:az a b (d::ds) Y=(a d Y).bd (b ds):=aM rfl
@[simp] def gtup_tup:gW n b (.tup ds) Y=if ds.length=n then b ds Y else .st:=aM rfl
def nxO(r:Rs En):Ou:=match r with
 | .ok Y=>.nx Y
 |_=>.st
@[simp] def nxO_ok:nxO (.ok Y)= .nx Y:=aM rfl
@[simp] def aGb:aCk f a Y=(f Y).bo λ d=>nxO (a d Y):=aM rfl
@[simp] def itD_tup:itD (.tup l)= .ok l:=aM rfl
@[simp] def itD_lst:itD (.lst l)= .ok l:=aM rfl
@[simp] def itrD_ap:dg f Y=(f Y).bd itD:=aM rfl
@[simp] def ju:j7 ga a u Y=(ga Y).bo λ ds=>forL a u ds Y:=aM rfl
noncomputable def Ou.tn(o:Ou)(k:En->Ou):Ou:=match o with
 | .nx Y2=>k Y2
 | .ct Y2=>k Y2
 | .bk Y2=>.nx Y2
 |o=>o
@[simp] def aAy:(Ou.nx Y).tn k=k Y:=aM rfl
@[simp] def tn_rt:(Ou.rt d).tn k= .rt d:=aM rfl
def okE(r:Rs En)(k:En->Ou):Ou:=match r with
 | .ok Y=>k Y
 |_=>.st
@[simp] def tG:okE (.ok Y) k=k Y:=aM rfl
def gj:forL a u (d::ds) Y=okE (a d Y) λ Y1=>(u Y1).tn (forL a u ds):=by
 unfold forL;cases a d Y with
 |ok Y1=>simp only[tG];cases u Y1<;>rfl
 |ex c=>rfl
 |st=>rfl
@[simp] def immD_ap:cB f Y=(f Y).bd oX:=aM rfl
@[simp] def aF3:fD r ga Y=(ga Y).bd r:=aM rfl
@[simp] def raiseS_ap:sZ x ga Y=(ga Y).bo λ ds=>if ds.length<=16777216 then .ex x else .st:=by unfold sZ;rw[szl]
@[simp] def yesT_ap:jK Y= .ok true:=aM rfl
end
section
variable{d e:D}{i j:Int}{l m:List D}
@[simp] def gImm_int:oX (.int i)= .ok (.int i):=aM rfl
@[simp] def addD_int:cU (.int i) (.int j)= .ok (.int (i+j)):=aM rfl
@[simp] def aFD:cU (.lst l) (.lst m)=if l.length+m.length<=16777216 then .ok (.lst (l++m))else .st:=by unfold cU;rw[szl]
@[simp] def aFC:cU (.tup l) (.tup m)=if l.length+m.length<=16777216 then .ok (.tup (l++m))else .st:=by unfold cU;rw[szl]
@[simp] def subD_int:jN (.int i) (.int j)= .ok (.int (i-j)):=aM rfl
def vL(h0:0<j)(h1:j<1073741824):qR (.int i) (.int j)= .ok (.int (i / j)):=by unfold qR i2;dsimp only;rw[if_pos (by simp[h0,h1])]
def lM(h0:0<j):pY (.int i) (.int j)= .ok (.int (i%j)):=by unfold pY i2;dsimp only;rw[if_pos (by simp[h0])]
def xK(h0: -(2^64)<i)(h1:i<2^64):j0 (.int i) (.int j)= .ok (.int (i*j)):=by unfold j0;dsimp only;rw[if_pos (by simp only[zDJ,zAE,decide_eq_true_eq];exact .inl ⟨h0,h1⟩)]
def aDz(h0: -(2^64)<j)(h1:j<2^64):j0 (.int i) (.int j)= .ok (.int (i*j)):=by unfold j0;dsimp only;rw[if_pos (by simp only[zDJ,zAE,decide_eq_true_eq];exact .inr ⟨h0,h1⟩)]
@[simp] def negD_int:yw (.int i)= .ok (.int (-i)):=aM rfl
@[simp] def ltD_int:ltD (.int i) (.int j)= .ok (.bl (decide (i<j))):=aM rfl
@[simp] def leD_int:leD (.int i) (.int j)= .ok (.bl (decide (i<=j))):=aM rfl
@[simp] def gtD_int:gtD (.int i) (.int j)= .ok (.bl (decide (j<i))):=aM rfl
@[simp] def geD_int:geD (.int i) (.int j)= .ok (.bl (decide (j<=i))):=aM rfl
def aFx(ns ms:List Int):ltD (.tup (ns.map .int)) (.tup (ms.map .int))= .ok (.bl (HT.lexLt ns ms)):=by
 unfold ltD ltT i2;simp only[fK]
@[simp] def lenD_tup:il [.tup l]= .ok (.int l.length):=aM rfl
@[simp] def lenD_lst:il [.lst l]= .ok (.int l.length):=aM rfl
@[simp] def lenD_scr:il [.scr x]= .ok (.int x.length):=aM rfl
@[simp] def tupleD_lst:jL [.lst l]= .ok (.tup l):=aM rfl
@[simp] def mmD_int:mmD f [.int i,.int j]= .ok (.int (f i j)):=aM rfl
@[simp] def aGI:ixD (.tup l) (.int i)=atD l i:=aM rfl
@[simp] def ixD_lst:ixD (.lst l) (.int i)=atD l i:=aM rfl
@[simp] def ixD_scr:ixD (.scr x) (.int i)=atD (x.map .int) i:=aM rfl
def jH{k:Nat}(h:l[k]? =some d):atD l (k:Int)= .ok d:=by
 have hk:=(zAG.mp h).1;unfold atD atI ixN;rw[if_pos (by omega),if_pos (by omega)];simp[h]
def aIu(h0:0<=i)(h1:i<l.length):∃d,atD l i= .ok d/\d∈l/\l[i.toNat]? =some d:=by
 have hk:i.toNat<l.length:=by omega
 have e:=zAC hk;refine⟨_,?_,zCC hk,e⟩
 have:=jH e
 rwa [zDP h0]at this
@[simp] def aJr{r:List D}:atD (d::r) 0= .ok d:=jH (k:=0) rfl
@[simp] def aJq{r:List D}:atD (d::e::r) 1= .ok e:=jH (k:=1) rfl
@[simp] def eqR_int:eqR n (.int i) (.int j)= .ok (.bl (if n then !(i==j)else i==j)):=aM rfl
def knd:D->Bool
 | .set _=>false
 | .scr _=>false
 | .fn _=>false
 |_=>true
def xU(hT:T∈["bool","int","str","list","tuple","dict"])(h:knd d=true):nW T d= .ok (.bl (aGK (tyD d) T)):=by
 have ht:tyD d∈["NoneType","bool","int","str","list","tuple","dict"]:=by cases d<;>simp_all [tyD,knd]
 unfold nW mV;cases e:aGK (tyD d) T<;>simp[ht,hT]
def aI6:D->Bool
 | .int _=>true
 | .bl _=>true
 |_=>false
def aJh:D->Bool
 | .bl _=>true
 |_=>false
def qC:D->Bool
 | .tup _=>true
 |_=>false
def aGJ(h:knd d=true):nW "int" d= .ok (.bl (aI6 d)):=by
 rw[xU (by simp) h];cases d<;>first|rfl|(simp[knd]at h)
def aEX(h:knd d=true):nW "bool" d= .ok (.bl (aJh d)):=by
 rw[xU (by simp) h];cases d<;>first|rfl|(simp[knd]at h)
def ph(h:knd d=true):nW "tuple" d= .ok (.bl (qC d)):=by
 rw[xU (by simp) h];cases d<;>first|rfl|(simp[knd]at h)
@[simp] def isi_tuple_tup:nW "tuple" (.tup l)= .ok (.bl true):=ph rfl
end
@[simp] def bL:eX n u ds=match u (aq n ds)with
 | .nx _=>.ok .non
 | .rt d=>.ok d
 | .ex c=>.ex c
 |_=>.st:=aM rfl
def fj(h0: -(2^62)<=j)(h1:j<2^62):gC [.int j]= .ok (cL 0 j):=by unfold gC;dsimp only;rw[if_pos ⟨h0,h1⟩]
def aBM(h0: -(2^62)<=i)(h1:i<2^62)(h2: -(2^62)<=j)(h3:j<2^62):aAP [.int i,.int j]= .ok (cL i j):=by unfold aAP;dsimp only;rw[if_pos ⟨⟨h0,h1⟩,h2,h3⟩]
def yx{lo hi:Int}:d∈cL lo hi↔∃k:Int,d= .int k/\lo<=k/\k<hi:=by
 unfold cL;rw[zAf];constructor
 .rintro⟨n,hn,rfl⟩
  have:=zAi.mp hn
  exact⟨lo+n,rfl,by omega,by omega⟩
 .rintro⟨k,rfl,h1,h2⟩
  exact⟨(k-lo).toNat,zAi.mpr (by omega),by congr 1;omega⟩
def lO(I:Nat->En->Prop)(hs:∀(i:Nat) d Y,ds[i]? =some d->I i Y->∃Y2,okE (a d Y) (λ Y1=>u Y1)= .nx Y2/\I (i+1) Y2)(h0:I 0 Y):∃Y',forL a u ds Y= .nx Y'/\I ds.length Y':=by
 have go:∀(n:Nat) (Y:En),n<=ds.length->I (ds.length-n) Y->∃Y',forL a u (ds.drop (ds.length-n)) Y= .nx Y'/\I ds.length Y':=by
  intro n;induction n with
  |zero=>intro Y _ h;exact⟨Y,by rw[Nat.sub_zero,zEf];rfl,h⟩
  |succ n ih=>
   intro Y hn h;have hlt:ds.length-(n+1)<ds.length:=by omega
   rw[zDX hlt,gj];obtain⟨Y2,e,h2⟩:=hs _ _ Y (zAC hlt) h;rw[show ds.length-(n+1)+1=ds.length-n by omega]at h2 ⊢;cases ea:a ds[ds.length-(n+1)] Y with
   |ok Y1=>
    rw[ea]at e;simp only[tG]at e ⊢;rw[e,aAy];exact ih Y2 (by omega) h2
   |ex c=>rw[ea]at e;cases e
   |st=>rw[ea]at e;cases e
 have:=go ds.length Y (zAW _) (by rw[zDw];exact h0)
 rwa [zDw,List.drop_zero]at this
end VL
namespace VL.My
open PySem L2
def wdN:Str->Option Str:=λ c=>((["NoWeb","NoPlace","NoWay","NoParting","TooMany","NoForest","NoPlan","NoOneWay","NoOrder","NoText","NoDeed","NoRow"]:List Str).zip (["web","place","way","parting","many","forest","plan","one way","order","text","deed","row"]:List Str)).lookup c
def fP:En->Ou:=
  (retS (ul (op1 (nW "int") (aB 0)) (op1 aIO (op1 (nW "bool") (aB 0)))))
def ig:List D->Rs D:=eX 1 fP
def dC:En->Ou:=
  (bD (j7 (fD aAP (aC (cD (.int 1)) (aC (opA il (aC (aB 0) aJ)) aJ))) (gnm 1)
   (ifS (qy (tsb (op2 ltD (op2 ixD (aB 0) (op2 jN (aB 1) (cD (.int 1)))) (op2 ixD (aB 0) (aB 1)))))
    (retS (cD (.bl false)))
    Ou.nx))
  (retS (cD (.bl true))))
def eO:List D->Rs D:=eX 2 dC
def fV:En->Ou:=
  (bD (aCk (aB 0) (gW 2 (az (gnm 1) (az (gnm 2) gZ))))
  (bD (llS 3 (fD gC (aC (aB 1) aJ)) [none] (gnm 0))
  (bD (j7 (dg (aB 2)) (gW 2 (az (gnm 4) (az (gnm 5) gZ)))
   (bD (m9 3 (aB 4) (cB (aB 5)))
   (m9 3 (aB 5) (cB (aB 4)))))
  (retS (vg 3)))))
def ik:List D->Rs D:=eX 6 fV
def du:En->Ou:=
  (retS (lcD (fD gC (aC (aAs (aB 0)) aJ)) [none,some 0] (gnm 0) (tst (op2 m8 (op2 aDM (aB 1) (aB 0)) (cD (.int 1)))) (cB (aB 0))))
def gG:List D->Rs D:=eX 1 du
def pcB:En->Ou:=bD (dN 5 (op2 jN (aAs (aB 4)) (cD (.int 1)))) (bD (aEz (i2 (λ _ _=>true) λ a b=>.int (a-b)) 3 (op2 pG (cD (.int 1)) (aB 5))) (dN 4 (op2 m8 (op2 aEu (aB 4) (op2 ixD (aB 0) (aB 5))) (aB 3))))
def pcW:En->Ou:=bD (dN 4 (op2 m8 (aB 3) (op1 yw (aB 3)))) (bD (vf (tst (aB 4)) pcB) (aEz (i2 (λ _ _=>true) λ a b=>.int (a+b)) 2 (cD (.int 1))))
def bx:En->Ou:=bD (dN 2 (cD (.int 0))) (bD (dN 3 (aB 1)) (bD (vf (tst (aB 3)) pcW) (retS (cB (aB 2)))))
def bU:List D->Rs D:=eX 6 bx
def cG:En->Ou:=
  (bD (ifS (tsb (op2 ltD (aB 1) (opA il (aC (aB 0) aJ))))
   (retS (cB (op2 ixD (aB 0) (aB 1))))
   Ou.nx)
  (retS (cD (.int 0))))
def dY:List D->Rs D:=eX 2 cG
def dB:En->Ou:=
  (bD (ifS (tsb (op2 geD (aB 0) (op2 aHc (cD (.int 10)) (cD (.int 18)))))
   (bD (dN 3 (aB 0))
   (bD (j7 (fD gC (aC (aB 1) aJ)) (gnm 4)
    (bD (ifS (tsb (op2 (eqR false) (aB 3) (cD (.int 0))))
     (retS (cD (.int 0)))
     Ou.nx)
    (dN 3 (op2 qR (aB 3) (aB 2)))))
   (retS (op2 pY (aB 3) (aB 2)))))
   Ou.nx)
  (bD (dN 5 (op2 pY (op2 j0 (op2 cU (op2 cU (op2 pY (aB 0) (cD (.int 1000000007))) (op2 j0 (cD (.int 1009)) (aB 1))) (cD (.int 17))) (cD (.int 69621))) (cD (.int 2147483647))))
  (bD (dN 5 (op2 pY (op2 cU (op2 cU (op2 j0 (aB 5) (aB 5)) (op2 j0 (cD (.int 40503)) (aB 1))) (cD (.int 5))) (cD (.int 2147483629))))
  (retS (op2 pY (op2 qR (op2 pY (op2 j0 (aB 5) (cD (.int 48271))) (cD (.int 2147483647))) (cD (.int 32))) (aB 2))))))
def bJ:List D->Rs D:=eX 6 dB
def lsB:En->Ou:=bD (aD9 1 (aB 3) (opA (mmD λ i j=>if j<i then j else i) (aC (op2 ixD (pF 1) (aB 3)) (aC (op2 ixD (pF 1) (aB 4)) aJ)))) (aD9 1 (aB 4) (cB (op2 ixD (pF 1) (aB 3))))
def lsO:En->Ou:=j7 (dg (op2 ixD (aB 0) (cD (.int 1)))) (gW 2 (az (gnm 3) (az (gnm 4) gZ))) lsB
def lsI:En->Rs D:=opA jL (aC (lcD (fD gC (aC (op2 ixD (aB 1) (cD (.int 0))) aJ)) [none,some 2,some 0] (gnm 0) (tsb (op2 (eqR false) (op2 ixD (aB 1) (aB 0)) (aB 2))) (cB (aB 0))) aJ)
def lsR:En->Rs D:=lcD (dg (opA lA (aC (aB 1) aJ))) [none,some 0,some 1] (gnm 0) jK lsI
def eE:En->Ou:=bD (yQ 1 (lrD (op2 ixD (aB 0) (cD (.int 0))))) (bD (j7 (fD gC (aC (op2 ixD (aB 0) (cD (.int 0))) aJ)) (gnm 2) lsO) (retS lsR))
def gH:List D->Rs D:=eX 5 eE
def llK:En->Rs D:=lcD (fD gC (aC (op2 ixD (aB 0) (cD (.int 0))) aJ)) [none,some 1] (gnm 0) (tsb (op2 (inR true) (aB 0) (aB 1))) (cB (aB 0))
def llT:En->Rs D:=lcD (dg (op2 ixD (aB 0) (cD (.int 1)))) [none,some 2] (gnm 0) (aIv (tsb (op2 (inR false) (op2 ixD (aB 0) (cD (.int 0))) (aB 1))) (tsb (op2 (inR false) (op2 ixD (aB 0) (cD (.int 1))) (aB 1)))) (cB (aB 0))
def llL:En->Rs D:=lcD (dg (aB 3)) [none,none,some 2] (gW 2 (az (gnm 0) (az (gnm 1) gZ))) jK (bh (aC (opL tZ (aB 2) (aB 0)) (aC (opL tZ (aB 2) (aB 1)) aJ)))
def fO:En->Ou:=bD (qw 2 llK) (bD (qw 3 llT) (retS (bh (aC (opA il (aC (pC 2) aJ)) (aC (opA jL (aC llL aJ)) aJ)))))
def ie:List D->Rs D:=eX 4 fO
def evL:En->Rs D:=lcD (dg (aB 1)) [none,some 2] (gnm 0) jK (op2 cU (cB (aB 0)) (bh (aC (cB (aB 1)) aJ)))
def eF:En->Ou:=bD (qw 1 (ud (aC (bh aJ) aJ))) (bD (j7 (fD gC (aC (aB 0) aJ)) (gnm 2) (qw 1 (op2 cU (pC 1) evL))) (retS (pC 1)))
def gJ:List D->Rs D:=eX 3 eF
def gn:En->Ou:=
  (retS (ul (aj ig (aC (aB 0) aJ)) (chD leD leD (cD (.int 0)) (aB 0) (cD (.int 60)))))
def mG:List D->Rs D:=eX 1 gn
def fQ:En->Ou:=
  (retS (ul (aj ig (aC (aB 1) aJ)) (chD leD ltD (cD (.int 0)) (aB 1) (aB 0))))
def dj:List D->Rs D:=eX 2 fQ
def gk:En->Ou:=
  (bD (dN 2 (aj bJ (aC (aB 0) (aC (cD (.int 0)) (aC (op2 cU (aB 1) (cD (.int 1))) aJ)))))
  (bD (dN 3 (op2 cU (cD (.int 1)) (aj bJ (aC (aB 0) (aC (cD (.int 1)) (aC (cD (.int 6)) aJ))))))
  (bD (yQ 4 (ud aJ))
  (bD (j7 (fD gC (aC (aB 2) aJ)) (gnm 5)
   (j7 (fD aAP (aC (op2 cU (aB 5) (cD (.int 1))) (aC (aB 2) aJ))) (gnm 6)
    (ifS (tsb (op2 ltD (aj bJ (aC (aB 0) (aC (op2 cU (op2 cU (cD (.int 3)) (op2 j0 (cD (.int 61)) (aB 5))) (aB 6)) (aC (cD (.int 8)) aJ)))) (aB 3)))
     (aCl 4 (bh (aC (cB (aB 5)) (aC (cB (aB 6)) aJ))))
     Ou.nx)))
  (retS (bh (aC (cB (aB 2)) (aC (opA jL (aC (vg 4) aJ)) aJ))))))))
def jc:List D->Rs D:=eX 7 gk
def dw:En->Ou:=
  (retS (op2 jN (opA il (aC (aj gH (aC (aj ie (aC (aB 0) (aC (aB 1) aJ))) aJ)) aJ)) (opA il (aC (lcD (dg (aB 1)) [none,some 2] (gnm 0) (tsb (op2 (inR true) (aB 0) (aB 1))) (cB (aB 0))) aJ))))
def eH:List D->Rs D:=eX 3 dw
def ipE:En->Ou:=ifS (orT (qy (tst (op1 (nW "tuple") (aB 1)))) (tsb (op2 (eqR true) (opA il (aC (aB 1) aJ)) (cD (.int 2))))) (retS (cD (.bl false))) Ou.nx
def gm:En->Ou:=bD ipE (retS (ul (aj dj (aC (aB 0) (aC (op2 ixD (aB 1) (cD (.int 0))) aJ))) (ul (aj dj (aC (aB 0) (aC (op2 ixD (aB 1) (cD (.int 1))) aJ))) (op2 (eqR true) (op2 ixD (aB 1) (cD (.int 0))) (op2 ixD (aB 1) (cD (.int 1)))))))
def je:List D->Rs D:=eX 2 gm
def au:En->Ou:=
  (bD (ifS (qy (tst (op1 (nW "tuple") (aB 1))))
   (retS (cD (.bl false)))
   Ou.nx)
  (bD (j7 (dg (aB 1)) (gnm 2)
   (ifS (qy (tst (aj je (aC (aB 0) (aC (aB 2) aJ)))))
    (retS (cD (.bl false)))
    Ou.nx))
  (retS (aj eO (aC (aB 1) aJ)))))
def bG:List D->Rs D:=eX 3 au
def fU:En->Ou:=
  (retS (ul (aj bG (aC (aB 0) (aC (aB 1) aJ))) (opA (yF λ bs=>bs.all id) (aC (lcD (dg (aB 1)) [none,none] (gW 2 (az (gnm 0) (az (gnm 1) gZ))) jK (op2 ltD (aB 0) (aB 1))) aJ))))
def kJ:List D->Rs D:=eX 2 fU
def iU:En->Ou:=
  (bD (ifS (orT (qy (tst (op1 (nW "tuple") (aB 0)))) (tsb (op2 (eqR true) (opA il (aC (aB 0) aJ)) (cD (.int 2)))))
   (retS (cD (.bl false)))
   Ou.nx)
  (retS (ul (aj mG (aC (op2 ixD (aB 0) (cD (.int 0))) aJ)) (aj kJ (aC (op2 ixD (aB 0) (cD (.int 0))) (aC (op2 ixD (aB 0) (cD (.int 1))) aJ))))))
def jd:List D->Rs D:=eX 1 iU
def dD:En->Ou:=
  (ifS (qy (tst (aj jd (aC (aB 0) aJ))))
   (sZ "NoWeb" (aC (cD (.str "this is no web")) aJ))
   Ou.nx)
def cC:List D->Rs D:=eX 1 dD
def nrE:En->Rs D:=lcD (dg (aj ik (aC (aB 0) aJ))) [none] (gnm 0) jK (opA (jZ λ ns=>some ns.sum) (aC (lcD (dg (aB 0)) [none] (gnm 0) jK (op2 pG (cD (.int 1)) (aB 0))) aJ))
def bbB:En->Ou:=bD (dN 5 (opA jL (aC (aj gG (aC (aB 4) aJ)) aJ))) (aCl 3 (bh (aC (op2 jN (opA il (aC (aB 5) aJ)) (aj bU (aC (pC 1) (aC (op2 jN (aB 2) (aB 4)) aJ)))) (aC (cB (aB 5)) aJ))))
def bbI:En->Ou:=ifS (tsb (op2 gtD (op2 ixD (aB 0) (cD (.int 0))) (cD (.int 12)))) (sZ "TooMany" (aC (cD (.str "the best bar is told only of webs of at most twelve places")) aJ)) Ou.nx
def bbW:En->Ou:=dN 2 (op2 jN (op2 pG (cD (.int 1)) (op2 ixD (aB 0) (cD (.int 0)))) (cD (.int 1)))
def bbA:En->Ou:=aCk (opA (jG lsD) (aC (pF 3) aJ)) (gW 2 (az (gnm 6) (az (gnm 7) gZ)))
def bY:En->Ou:=bD (z8 (aj cC (aC (aB 0) aJ))) (bD bbI (bD (qw 1 nrE) (bD bbW (bD (yQ 3 (ud aJ)) (bD (j7 (fD gC (aC (op2 cU (aB 2) (cD (.int 1))) aJ)) (gnm 4) bbB) (bD bbA (retS (bh (aC (op1 yw (aB 6)) (aC (cB (aB 7)) aJ))))))))))
def ao:List D->Rs D:=eX 8 bY
def lwR:En->Rs (List D):=(fD gC (aC (opA (mmD λ i j=>if j>i then j else i) (aC (cD (.int 1)) (aC (opA (mmD λ i j=>if j<i then j else i) (aC (opA il (aC (aB 0) aJ)) (aC (cD (.int 3)) aJ))) aJ))) aJ))
def lQ0:En->Ou:=(dN 2 (aj dY (aC (aB 0) (aC (aB 1) aJ))))
def lQ1:En->Ou:=(dN 3 (aj jc (aC (aB 2) (aC (cD (.int 7)) aJ))))
def lQ2:En->Ou:=(qw 4 (lcD (dg (aj gJ (aC (op2 ixD (aB 3) (cD (.int 0))) aJ))) [none,some 3] (gnm 0) jK (bh (aC (aj eH (aC (aB 1) (aC (aB 0) (aC (bh aJ) aJ)))) (aC (cB (aB 0)) aJ)))))
def lQ3:En->Ou:=(dN 5 (opA (jZ zFm) (aC (lcD (dg (aB 4)) [none] (gnm 0) jK (cB (op2 ixD (aB 0) (cD (.int 0))))) aJ)))
def lQ4:En->Ou:=(dN 6 (bh (aC (aB 5) (aC (opA (jG lsD) (aC (lcD (dg (aB 4)) [none,some 5] (gnm 0) (tsb (op2 (eqR false) (op2 ixD (aB 0) (cD (.int 0))) (aB 1))) (cB (op2 ixD (aB 0) (cD (.int 1))))) aJ)) aJ))))
def lQ5:En->Ou:=(j7 (fD gC (aC (cD (.int 2)) aJ)) (gnm 7) (bD (dN 8 (aj ao (aC (aB 3) aJ))) (ifS (orT (qy (tst (op1 (nW "tuple") (aB 8)))) (tsb (op2 (eqR true) (aB 8) (aB 6)))) (retS (cD (.bl false))) Ou.nx)))
def lQ6:En->Ou:=(ifS (tsb (op2 (eqR true) (aCD wdN "told" (aj ao (aC (bh (aC (op2 cU (cD (.int 13)) (aj bJ (aC (aB 2) (aC (cD (.int 9000)) (aC (cD (.int 48)) aJ))))) (aC (bh aJ) aJ))) aJ))) (cD (.str "many")))) (retS (cD (.bl false))) Ou.nx)
def lQ7:En->Ou:=(ifS (tsb (op2 (eqR true) (aCD wdN "told" (aj ao (aC (bh (aC (op2 ixD (aB 3) (cD (.int 0))) aJ)) aJ))) (cD (.str "web")))) (retS (cD (.bl false))) Ou.nx)
def lwK:En->Ou:=bD lQ0 (bD lQ1 (bD lQ2 (bD lQ3 (bD lQ4 (bD lQ5 (bD lQ6 lQ7))))))
def lwZ:En->Rs D:=(ul (op2 (eqR false) (aj ao (aC (bh (aC (cD (.int 0)) (aC (bh aJ) aJ))) aJ)) (bh (aC (cD (.int 0)) (aC (bh aJ) aJ)))) (op2 (eqR false) (aj ao (aC (bh (aC (cD (.int 12)) (aC (bh aJ) aJ))) aJ)) (bh (aC (cD (.int 12)) (aC (bh aJ) aJ)))))
def uO:En->Ou:=bD (j7 lwR (gnm 1) lwK) (retS lwZ)
def aFG:List D->Rs D:=eX 9 uO
theorem vW(hb:0<b)(hb2:b<1073741824):∀(ds:List D) (x:Int) (s:Slot),(∀d∈ds,∃n:Int,d= .int n)->
  (∃y s',forL (gnm 4) (bD (ifS (tsb (op2 (eqR false) (aB 3) (cD (.int 0)))) (retS (cD (.int 0))) Ou.nx) (dN 3 (op2 qR (aB 3) (aB 2)))) ds [.sh (.int c),.sh (.int k),.sh (.int b),.sh (.int x),s,.no]= .nx [.sh (.int c),.sh (.int k),.sh (.int b),.sh (.int y),s',.no])\/
  forL (gnm 4) (bD (ifS (tsb (op2 (eqR false) (aB 3) (cD (.int 0)))) (retS (cD (.int 0))) Ou.nx) (dN 3 (op2 qR (aB 3) (aB 2)))) ds [.sh (.int c),.sh (.int k),.sh (.int b),.sh (.int x),s,.no]= .rt (.int 0)
 |[],x,s,_=>.inl ⟨x,s,rfl⟩
 |d::ds,x,s,h=>by
  have ih:=vW hb hb2 (c:=c) (k:=k) ds (x / b) (.sh d) λ e he=>h e (zAK _ he)
  rw[gj];by_cases hx:x=0
  .subst hx
   right;simp
  .simp[hx,vL hb hb2]
   exact ih
def aBh(hk0:0<=k)(hk1:k<2^40)(hb:0<b)(hb2:b<1073741824):∃r:Int,bJ [.int c,.int k,.int b]= .ok (.int r)/\0<=r/\r<b:=by
 have hp:aHc (.int 10) (.int 18)= .ok (.int 1000000000000000000):=rfl;by_cases hc:(1000000000000000000:Int)<=c
 .have hr:=fj (j:=k) (by lia) (by lia)
  have hl:=vW hb hb2 (c:=c) (k:=k) (cL 0 k) c .no λ d hd=>let⟨n,e,_⟩:=yx.mp hd;⟨n,e⟩
  rcases hl with ⟨y,s',e⟩|e
  .refine⟨y%b,?_,zDO _ (by lia),zCe _ hb⟩
   simp[bJ,dB,aq,hp,hc,hr,e,lM hb]
  .refine⟨0,?_,by lia,hb⟩
   simp[bJ,dB,aq,hp,hc,hr,e]
 .have s1:∀z:Int,0<=z%2147483647/\z%2147483647<2147483647:=λ z=>⟨zDO _ (by decide),zCe _ (by decide)⟩
  have s2:∀z:Int,0<=z%2147483629/\z%2147483629<2147483629:=λ z=>⟨zDO _ (by decide),zCe _ (by decide)⟩
  have m1:∀z,j0 (.int 1009) (.int z)= .ok (.int (1009*z)):=λ z=>xK (by decide) (by decide)
  have m2:∀z,j0 (.int z) (.int 69621)= .ok (.int (z*69621)):=λ z=>aDz (by decide) (by decide)
  have m3:∀z,j0 (.int 40503) (.int z)= .ok (.int (40503*z)):=λ z=>xK (by decide) (by decide)
  have m4:∀z,j0 (.int z) (.int 48271)= .ok (.int (z*48271)):=λ z=>aDz (by decide) (by decide)
  have m5:∀z:Int,j0 (.int (z%2147483647)) (.int (z%2147483647))= .ok (.int (z%2147483647*(z%2147483647))):=λ z=>xK (by have:=s1 z;lia) (by have:=s1 z;lia)
  have d1:∀z,pY (.int z) (.int 1000000007)= .ok (.int (z%1000000007)):=λ z=>lM (by decide)
  have d2:∀z,pY (.int z) (.int 2147483647)= .ok (.int (z%2147483647)):=λ z=>lM (by decide)
  have d3:∀z,pY (.int z) (.int 2147483629)= .ok (.int (z%2147483629)):=λ z=>lM (by decide)
  have d4:∀z,qR (.int z) (.int 32)= .ok (.int (z / 32)):=λ z=>vL (by decide) (by decide)
  have d5:∀z,pY (.int z) (.int b)= .ok (.int (z%b)):=λ z=>lM hb
  simp[bJ,dB,aq,hp,hc,m1,m2,m3,m4,m5,d1,d2,d3,d4,d5,-Int.emod_emod_of_dvd];exact⟨zDO _ (by lia),zCe _ hb⟩
def xY(hk0:0<=k)(hk1:k<2^40)(hb:0<b)(hb2:b<1073741824):∃r:Nat,bJ [.int c,.int k,.int b]= .ok (.int r)/\(r:Int)<b:=by
 obtain⟨r,e,h0,h1⟩:=aBh (c:=c) hk0 hk1 hb hb2;exact⟨r.toNat,by rw[zDP h0];exact e,by lia⟩
def aG6(h:0<=k):∃c:Int,dY [.scr ns,.int k]= .ok (.int c):=by
 by_cases hk:k<ns.length
 .obtain⟨d,e,hm,_⟩:=aIu (l:=ns.map .int) (i:=k) h (by simpa using hk)
  obtain⟨c,_,rfl⟩:=zAf.mp hm;exact⟨c,by simp[dY,cG,aq,hk,e]⟩
 .exact⟨0,by simp[dY,cG,aq,hk]⟩
mutual
def pln:D->Bool
 | .tup l=>pR l
 | .lst l=>pR l
 | .set _=>false
 | .scr _=>false
 | .fn _=>false
 |_=>true
def pR:List D->Bool
 |[]=>true
 |d::r=>pln d&&pR r
end
def rO(h:pln d=true):knd d=true:=by cases d<;>first|rfl|(simp[pln]at h)
theorem yj:∀{l:List D} {d:D},pR l=true->d∈l->pln d=true
 |x::r,d,h,hm=>by
  simp only[pR,zAE]at h;rcases zAX.mp hm with rfl|hm
  .exact h.1
  .exact yj h.2 hm
theorem aBS:∀{l:List D},(∀d∈l,pln d=true)->pR l=true
 |[],_=>rfl
 |x::r,h=>by
  simp only[pR,zAE];exact⟨h x (zAI ..),aBS λ d hd=>h d (zAK _ hd)⟩
def aAA:D->Bool
 | .int _=>true
 |_=>false
def aB0:D->Bool
 | .int i=>decide (0<=i)&&decide (i<=60)
 |_=>false
def fH(m:Int):D->Bool
 | .int i=>decide (0<=i)&&decide (i<m)
 |_=>false
def qP(h:knd d=true):ig [d]= .ok (.bl (aAA d)):=by
 simp[ig,fP,aq,aGJ h,aEX h];cases d<;>rfl
def aAj(h:knd d=true):mG [d]= .ok (.bl (aB0 d)):=by
 simp[mG,gn,aq,qP h];cases d<;>simp[aAA,aB0]
 rename_i i;by_cases h0:0<=i<;>simp[h0]
def qQ(h:knd d=true):dj [.int m,d]= .ok (.bl (fH m d)):=by
 simp[dj,fQ,aq,qP h];cases d<;>simp[aAA,fH]
 rename_i i;by_cases h0:0<=i<;>simp[h0]
def iD(m:Int):D->Bool
 | .tup [.int a,.int b]=>decide (0<=a)&&decide (a<m)&&decide (0<=b)&&decide (b<m)&& !(a==b)
 |_=>false
def uy(h:fH m d=true):∃i:Int,d= .int i/\0<=i/\i<m:=by
 cases d with
 |int i=>simp[fH]at h;exact⟨i,rfl,h.1,h.2⟩
 |_=>simp[fH]at h
def aCr(h:qC d=true):∃l,d= .tup l:=by cases d<;>first|exact⟨_,rfl⟩|(cases h)
def aHO(h:l.length=2):∃x y,l=[x,y]:=by
 match l,h with
 |[x,y],_=>exact⟨x,y,rfl⟩
def aDr(h:qC d=false):iD m d=false:=by cases d<;>first|rfl|(cases h)
def aCK(h:l.length≠2):iD m (.tup l)=false:=by
 match l,h with
 |[],_=>rfl
 |[x],_=>cases x<;>rfl
 |[x,y],h=>exact absurd rfl h
 |x::y::z::r,_=>cases x<;>first|rfl|(cases y<;>rfl)
def aFj(h:fH m x=false):iD m (.tup [x,y])=false:=by
 cases x with
 |int i=>
  cases y with
  |int j=>
   show((((decide (0<=i)&&decide (i<m))&&decide (0<=j))&&decide (j<m))&& !(i==j))=false
   rw[show(decide (0<=i)&&decide (i<m))=false from h];rfl
  |_=>rfl
 |_=>rfl
def aFi(h:fH m y=false):iD m (.tup [.int i,y])=false:=by
 cases y with
 |int j=>
  show((((decide (0<=i)&&decide (i<m))&&decide (0<=j))&&decide (j<m))&& !(i==j))=false
  rw[zFO (decide (0<=i)&&decide (i<m)),show(decide (0<=j)&&decide (j<m))=false from h,zFP];rfl
 |_=>rfl
def aDq(h1:fH m (.int i)=true)(h2:fH m (.int j)=true):iD m (.tup [.int i,.int j])= !(i==j):=by
 show((((decide (0<=i)&&decide (i<m))&&decide (0<=j))&&decide (j<m))&& !(i==j))= !(i==j)
 rw[zFO (decide (0<=i)&&decide (i<m)),show(decide (0<=j)&&decide (j<m))=true from h2,show(decide (0<=i)&&decide (i<m))=true from h1];rfl
def aI9(hk:knd d=true)(h:qC d=false):ipE [s,.sh d]= .rt (.bl false):=by simp[ipE,ph hk,h]
def aGM(h:l.length≠2):ipE [s,.sh (.tup l)]= .rt (.bl false):=by
 have:¬((l.length:Int)=2):=by omega
 simp[ipE,this]
def aGL:ipE [s,.sh (.tup [x,y])]= .nx [s,.sh (.tup [x,y])]:=by simp[ipE]
def aAi(h:pln d=true):je [.int m,d]= .ok (.bl (iD m d)):=by
 have st:aq 2 [.int m,d]=[.sh (.int m),.sh d]:=rfl;simp only[je,gm,bL,st];cases ht:qC d with
 |false=>rw[aV,aI9 (rO h) ht,aDr ht];rfl
 |true=>
  obtain⟨l,rfl⟩:=aCr ht;by_cases hl:l.length=2
  .obtain⟨x,y,rfl⟩:=aHO hl
   simp only[pln,pR,zAE]at h;have hx:=qQ (m:=m) (rO h.1);have hy:=qQ (m:=m) (rO h.2.1);have ex:aj dj (aC (aB 0) (aC (op2 ixD (aB 1) (cD (.int 0))) aJ)) [.sh (.int m),.sh (.tup [x,y])]= .ok (.bl (fH m x)):=by simp[hx]
   have ey:aj dj (aC (aB 0) (aC (op2 ixD (aB 1) (cD (.int 1))) aJ)) [.sh (.int m),.sh (.tup [x,y])]= .ok (.bl (fH m y)):=by simp[hy]
   rw[aV,aGL,bK,lu,rz,ex,aQ,aBs,rz,ey,aQ,aBs];cases c1:fH m x with
   |false=>rw[aFj c1];rfl
   |true=>
    obtain⟨i,rfl,_,_⟩:=uy c1;cases c2:fH m y with
    |false=>rw[aFi c2];rfl
    |true=>
     obtain⟨j,rfl,_,_⟩:=uy c2;rw[aDq c1 c2];rfl
  .rw[aV,aGM hl,aCK hl];rfl
def pD(p:Int×Int):D:=.tup [.int p.1,.int p.2]
def ltP(p q:Int×Int):Bool:=HT.lexLt [p.1,p.2] [q.1,q.2]
def sY:gX->Bool
 |[]=>true
 |[_]=>true
 |p::q::r=>ltP p q&&sY (q::r)
def aIS(p q:Int×Int):ltD (pD p) (pD q)= .ok (.bl (ltP p q)):=aFx [p.1,p.2] [q.1,q.2]
theorem qF:∀(ds:List D) (ok:Nat->Bool) (I:En->Prop) (Y:En),I Y->(∀(i:Nat) d Y,ds[i]? =some d->I Y->okE (a d Y) u= .rt r/\ok i=false\/∃Y',okE (a d Y) u= .nx Y'/\I Y'/\ok i=true)->
  (forL a u ds Y= .rt r/\∃i,i<ds.length/\ok i=false)\/(∃Y',forL a u ds Y= .nx Y'/\I Y'/\∀i,i<ds.length->ok i=true)
 |[],ok,I,Y,h,_=>.inr ⟨Y,rfl,h,λ i hi=>absurd hi (zFA _)⟩
 |d::ds,ok,I,Y,h,hs=>by
  rw[gj];rcases hs 0 d Y rfl h with ⟨e,o⟩|⟨Y',e,h',o⟩
  .left
   refine⟨?_,0,by simp,o⟩;cases ea:a d Y with
   |ok Y1=>rw[ea]at e;simp at e ⊢;rw[e];rfl
   |ex c=>rw[ea]at e;cases e
   |st=>rw[ea]at e;cases e
  .have ih:=qF ds (λ i=>ok (i+1)) I Y' h' λ i d2 Y2 e2 h2=>hs (i+1) d2 Y2 (by simpa using e2) h2
   have e3:okE (a d Y) (λ Y1=>(u Y1).tn (forL a u ds))=forL a u ds Y':=by
    cases ea:a d Y with
    |ok Y1=>rw[ea]at e;simp at e ⊢;rw[e];rfl
    |ex c=>rw[ea]at e;cases e
    |st=>rw[ea]at e;cases e
   rw[e3];rcases ih with ⟨e4,i,hi,o4⟩|⟨Y4,e4,h4,o4⟩
   .exact .inl ⟨e4,i+1,by simpa using hi,o4⟩
   .refine .inr ⟨Y4,e4,h4,λ i hi=>?_⟩
    cases i with
    |zero=>exact o
    |succ i=>exact o4 i (by simpa using hi)
def jY{i:Nat}(h:(cL lo hi)[i]? =some d):d= .int (lo+i)/\lo+i<hi:=by
 unfold cL at h;rw[zAL]at h;by_cases hi2:i<(hi-lo).toNat
 .rw[zBu hi2]at h
  cases h;exact⟨rfl,by omega⟩
 .rw[zBW (by simpa using hi2)]at h
  cases h
def iC:(cL lo hi).length=(hi-lo).toNat:=by unfold cL;simp
section
variable{α:Type}{f:α->D}{lt:α->α->Bool}
def sX(lt:α->α->Bool):List α->Bool
 |[]=>true
 |[_]=>true
 |p::q::r=>lt p q&&sX lt (q::r)
theorem oO:∀{ps:List α},sX lt ps=true↔∀(i:Nat) (p q:α),ps[i]? =some p->ps[i+1]? =some q->lt p q=true
 |[]=>by simp[sX]
 |[x]=>by
  simp only[sX,true_iff];intro i p q _ h2;simp at h2
 |x::y::r=>by
  have ih:=oO (ps:=y::r);unfold sX;rw[zAE,ih];constructor
  .rintro⟨h1,h2⟩ i p q e1 e2
   cases i with
   |zero=>simp at e1 e2;subst e1 e2;exact h1
   |succ i=>exact h2 i p q (by simpa using e1) (by simpa using e2)
  .intro h
   exact⟨h 0 x y rfl rfl,λ i p q e1 e2=>h (i+1) p q (by simpa using e1) (by simpa using e2)⟩
def zU(hlt:∀a b,ltD (f a) (f b)= .ok (.bl (lt a b)))(hl:ps.length<=100000):eO [.tup (ps.map f)]= .ok (.bl (sX lt ps)):=by
 have hr:=aBM (i:=1) (j:=(ps.length:Int)) (by decide) (by decide) (by omega) (by omega);have hW:(cL 1 (ps.length:Int)).length=ps.length-1:=by rw[iC];omega
 have L:=qF (a:=gnm 1) (u:=ifS (qy (tsb (op2 ltD (op2 ixD (aB 0) (op2 jN (aB 1) (cD (.int 1)))) (op2 ixD (aB 0) (aB 1))))) (retS (cD (.bl false))) Ou.nx) (r:=.bl false)
  (cL 1 (ps.length:Int)) (λ i=>match ps[i]?,ps[i+1]? with|some p,some q=>lt p q|_,_=>true) (λ Y=>∃s,Y=[.sh (.tup (ps.map f)),s]) [.sh (.tup (ps.map f)),.no] ⟨_,rfl⟩ (by
   rintro i d Y hd ⟨s,rfl⟩;obtain⟨rfl,h2⟩:=jY hd;have e1:ps[i]? =some ps[i]:=zAC (by omega);have e2:ps[i+1]? =some ps[i+1]:=zAC (by omega);have a1:atD (ps.map f) (1+(i:Int)-1)= .ok (f ps[i]):=by
    rw[show(1+(i:Int)-1)=(i:Int)by omega];exact jH (by rw[zAL,e1];rfl)
   have a2:atD (ps.map f) (1+(i:Int))= .ok (f ps[i+1]):=by
    rw[show(1+(i:Int))=((i+1:Nat):Int)by omega];exact jH (by rw[zAL,e2];rfl)
   simp only[e1,e2];cases c:lt ps[i] ps[i+1]with
   |true=>right;exact⟨_,by simp[a1,a2,hlt,c];rfl,⟨_,rfl⟩,rfl⟩
   |false=>left;exact⟨by simp[a1,a2,hlt,c],rfl⟩)
 have st:aq 2 [.tup (ps.map f)]=[.sh (.tup (ps.map f)),.no]:=rfl;rcases L with ⟨e,i,hi,o⟩|⟨Y',e,⟨s,rfl⟩,o⟩
 .have:sX lt ps=false:=by
   cases c:sX lt ps with
   |false=>rfl
   |true=>
    rw[hW]at hi;have z:=oO.mp c i ps[i] ps[i+1] (zAC (by omega)) (zAC (by omega));rw[zAC (by omega),zAC (by omega)]at o;simp only at o;rw[z]at o;cases o
  rw[this];simp only[eO,dC,bL,st];simp[hr,e]
 .have:sX lt ps=true:=oO.mpr λ i p q e1 e2=>by
   have h2:=(zAG.mp e2).1
   have:=o i (by rw[hW];omega)
   rw[e1,e2]at this;exact this
  rw[this];simp only[eO,dC,bL,st];simp[hr,e]
end
theorem aAQ:∀ps:gX,sY ps=sX ltP ps
 |[]=>rfl
 |[_]=>rfl
 |p::q::r=>by unfold sY sX;rw[aAQ (q::r)]
def xV(hl:ps.length<=100000):eO [.tup (ps.map pD)]= .ok (.bl (sY ps)):=by
 rw[aAQ];exact zU aIS hl
def ltI(a b:Int):Bool:=decide (a<b)
def wR:sY ps=true↔∀(i:Nat) (p q:Int×Int),ps[i]? =some p->ps[i+1]? =some q->ltP p q=true:=by rw[aAQ];exact oO
def aFb:D->Int×Int
 | .tup [.int a,.int b]=>(a,b)
 |_=>(0,0)
def aAX(h:iD m d=true):∃a b:Int,d= .tup [.int a,.int b]/\0<=a/\a<m/\0<=b/\b<m/\a≠b:=by
 unfold iD at h;split at h
 .rename_i a b
  simp at h;exact⟨a,b,rfl,h.1.1.1.1,h.1.1.1.2,h.1.1.2,h.1.2,h.2⟩
 .cases h
theorem aGz:∀{ts:List D},ts.all (iD m)=true->(ts.map aFb).map pD=ts
 |[],_=>rfl
 |t::ts,h=>by
  rw[zHV,zAE]at h;obtain⟨a,b,rfl,_⟩:=aAX h.1;simp only[zA7];rw[aGz h.2];rfl
def rpB(m:Int):D->Bool
 | .tup ts=>ts.all (iD m)&&sY (ts.map aFb)
 |_=>false
def aHV:D->Bool
 | .tup l=>decide (l.length<=100000)
 |_=>true
def mL(h:pln d=true)(hs:aHV d=true):bG [.int m,d]= .ok (.bl (rpB m d)):=by
 cases d with
 |tup ts=>
  have hp:pR ts=true:=by simpa[pln]using h
  have hl:ts.length<=100000:=by simpa[aHV]using hs
  have L:=qF (a:=gnm 2) (u:=ifS (qy (tst (aj je (aC (aB 0) (aC (aB 2) aJ))))) (retS (cD (.bl false))) Ou.nx) (r:=.bl false)
   ts (λ i=>match ts[i]? with|some t=>iD m t|none=>true) (λ Y=>∃s,Y=[.sh (.int m),.sh (.tup ts),s]) [.sh (.int m),.sh (.tup ts),.no] ⟨_,rfl⟩ (by
    rintro i d Y hd ⟨s,rfl⟩;have e:=aAi (m:=m) (yj hp (zAq hd));simp only[hd];cases c:iD m d with
    |true=>right;exact⟨_,by simp[e,c];rfl,⟨_,rfl⟩,rfl⟩
    |false=>left;exact⟨by simp[e,c],rfl⟩)
  have st:aq 3 [.int m,.tup ts]=[.sh (.int m),.sh (.tup ts),.no]:=rfl;rcases L with ⟨e,i,hi,o⟩|⟨Y',e,⟨s,rfl⟩,o⟩
  .have:ts.all (iD m)=false:=by
    rw[List.all_eq_false];rw[zAC hi]at o;exact⟨ts[i],zCC hi,by simpa using o⟩
   simp only[bG,au,bL,st];simp[e,rpB,this]
  .have:ts.all (iD m)=true:=by
    rw[zAx];intro t ht;obtain⟨i,hi,rfl⟩:=zEI ht
    have:=o i hi
    rw[zAC hi]at this;exact this
   have er:=xV (ps:=ts.map aFb) (by rw[zAF];exact hl);rw[aGz this]at er;simp only[bG,au,bL,st];simp[e,rpB,this,er]
 |_=>simp[bG,au,aq,ph (rO h),qC,rpB]
structure Ow(n:Int)(ps:gX):Prop where
 n0:0<=n
 n1:n<=60
 len:ps.length<=3600
 pr:∀p∈ps,0<=p.1/\p.1<n/\0<=p.2/\p.2<n/\p.1≠p.2
 ris:sY ps=true
def owD(n:Int)(ps:gX):D:=.tup [.int n,.tup (ps.map pD)]
def Ow.rp(h:Ow n ps):rpB n (.tup (ps.map pD))=true:=by
 have e:(ps.map pD).map aFb=ps:=by rw[zBC];exact(zEJ λ p _=>rfl).trans (List.map_id ps)
 unfold rpB;dsimp only;rw[e,h.ris,zER,zAx];intro d hd;obtain⟨p,hp,rfl⟩:=zAf.mp hd;obtain⟨a,b,c,d,e⟩:=h.pr p hp;simp[pD,iD,a,b,c,d,e]
theorem aBR:∀ps:gX,pR (ps.map pD)=true
 |[]=>rfl
 |p::ps=>by simp only[zA7,pR,aBR ps,zER];rfl
theorem z9:∀ns:List Int,cR (ns.map .int)=0/\ak (ns.map .int)=true
 |[]=>⟨rfl,rfl⟩
 |n::ns=>by
  obtain⟨h1,h2⟩:=z9 ns;simp[cR,jU,ak,aZ,h1,h2]
def rZ(neg:Bool)(y:Int)(ns:List Int):inR neg (.int y) (.lst (ns.map .int))= .ok (.bl (if neg then !decide (y∈ns)else decide (y∈ns))):=by
 obtain⟨h1,h2⟩:=z9 ns;have e:inD (.int y) (ns.map .int)=decide (y∈ns):=by
  unfold inD;rw[zDm];simp[zEe,eqD]
 unfold inR;dsimp only;rw[h1,h2,e];rfl
def xx(f:α->Bool)(l:List α):boolsOf (l.map λ x=>D.bl (f x))=some (l.map f):=by
 have:=qm (l.map f)
 rwa [zBC]at this
def aFB(f:α->Bool)(l:List α):yF (λ bs=>bs.all id) [.lst (l.map λ x=>D.bl (f x))]= .ok (.bl (l.all f)):=by
 unfold yF;dsimp only;rw[xx];dsimp only;rw[zHb];rfl
theorem jC:∀(l:List α),(∀x∈l,∃Y1,fg (f x) Y= .ok Y1/\ft Y1= .ok (t x)/\fe Y1= .ok (g x))->lcL Y fg ft fe (l.map f)= .ok ((l.filter t).map g)
 |[],_=>rfl
 |x::l,h=>by
  obtain⟨Y1,e1,e2,e3⟩:=h x zAI;have ih:=jC l λ y hy=>h y (zAK _ hy)
  rw[zA7];unfold lcL;rw[e1,aQ,e2,aQ,e3,aQ,ih,aQ,List.filter_cons];cases t x<;>rfl
theorem aHD{Y:En}:∀(ps:gX),lcL [.no,.no] (gW 2 (az (gnm 0) (az (gnm 1) gZ))) jK (op2 ltD (aB 0) (aB 1)) (ps.map pD)= .ok (ps.map λ p=>.bl (decide (p.1<p.2)))
 |[]=>rfl
 |p::ps=>by
  unfold lcL;simp[pD,aHD (Y:=Y) ps]
def zq{n:Int}(h:Ow n ps)(low:∀p∈ps,p.1<p.2):kJ [.int n,.tup (ps.map pD)]= .ok (.bl true):=by
 have hl:=h.len;have e:=mL (m:=n) (d:=.tup (ps.map pD)) (by simpa[pln]using aBR ps) (by simp[aHV];lia);rw[h.rp]at e;have el:=aHD (Y:=[]) ps;have ei:lcD (dg (aB 1)) [none,none] (gW 2 (az (gnm 0) (az (gnm 1) gZ))) jK (op2 ltD (aB 0) (aB 1)) [.sh (.int n),.sh (.tup (ps.map pD))]= .ok (.lst (ps.map λ p=>.bl (decide (p.1<p.2)))):=by
  have hi:dg (aB 1) (shE [.sh (.int n),.sh (.tup (ps.map pD))])= .ok (ps.map pD):=by simp[shE,kZ]
  unfold lcD;rw[hi,aQ,if_pos (by rw[szl,zAF];lia)]
  show(match lcL [.no,.no] _ jK _ (ps.map pD)with| .ok l=>Rs.ok (D.lst l)|_=>Rs.st)=_
  rw[el]
 have ha:opA (yF λ bs=>bs.all id) (aC (lcD (dg (aB 1)) [none,none] (gW 2 (az (gnm 0) (az (gnm 1) gZ))) jK (op2 ltD (aB 0) (aB 1))) aJ) [.sh (.int n),.sh (.tup (ps.map pD))]= .ok (.bl true):=by
  rw[jr,bB,ei,aQ,fu,aQ,aQ,aFB,cP];rw[zAx.mpr λ p hp=>decide_eq_true (low p hp)]
 have st:aq 2 [.int n,.tup (ps.map pD)]=[.sh (.int n),.sh (.tup (ps.map pD))]:=rfl;have ec:aj bG (aC (aB 0) (aC (aB 1) aJ)) [.sh (.int n),.sh (.tup (ps.map pD))]= .ok (.bl true):=by rw[o7];exact e
 simp only[kJ,fU,bL,st];rw[lu,rz,ec,ha];rfl
def aC5(h:Ow n ps)(low:∀p∈ps,p.1<p.2):jd [owD n ps]= .ok (.bl true):=by
 have e1:=aAj (d:=.int n) rfl;have e2:=zq h low;have e3:aB0 (.int n)=true:=by simp[aB0,h.n0,h.n1]
 rw[e3]at e1;simp[jd,iU,owD,aq,e1,e2]
def mn(a b:Int):Int:=if b<a then b else a
def gU(h1:fi (shE Y)= .ok ds)(h2:ds.length<16777216)(h3:lcL (stE js (shE Y)) fg ft fe ds= .ok out):lcD fi js fg ft fe Y= .ok (.lst out):=by
 unfold lcD;rw[h1,aQ,if_pos (by rw[szl];exact h2),h3]
def nU(l:List α)(h:∀x∈l,∃Y1,fg (f x) Y= .ok Y1/\fe Y1= .ok (g x)):lcL Y fg jK fe (l.map f)= .ok (l.map g):=by
 have:=jC (Y:=Y) (fg:=fg) (ft:=jK) (fe:=fe) (f:=f) (g:=g) (t:=λ _=>true) l λ x hx=>by
  obtain⟨Y1,h1,h2⟩:=h x hx;exact⟨Y1,h1,rfl,h2⟩
 rwa [zDK.mpr λ _ _=>rfl]at this
def aEZ(neg:Bool)(y:Int)(ns:List Int):inR neg (.int y) (.tup (ns.map .int))= .ok (.bl (if neg then !decide (y∈ns)else decide (y∈ns))):=rZ neg y ns
def bf(ll:List (List D))(p:Int×Int):List (List D):=ll.set p.1.toNat (ll.getD p.1.toNat []++[.int p.2])
theorem qG:∀(ps:gX) (ll:List (List D)),(ps.foldl bf ll).length=ll.length
 |[],_=>rfl
 |p::ps,ll=>by rw[zCI,qG ps];unfold bf;rw[zAp]
def bW(ps:gX)(i:Int):List Int:=(ps.filter λ p=>p.1==i).map (·.2)
theorem vK:∀(ps:gX) (ll:List (List D)) (i:Nat),(∀p∈ps,0<=p.1/\p.1<ll.length)->i<ll.length->(ps.foldl bf ll).getD i []=ll.getD i []++(bW ps i).map .int
 |[],ll,i,_,_=>by simp[bW]
 |p::ps,ll,i,h,hi=>by
  obtain⟨h0,h1⟩:=h p zAI;rw[zCI,vK ps (bf ll p) i (λ q hq=>by unfold bf;rw[zAp];exact h q (zAK _ hq)) (by unfold bf;rw[zAp];exact hi)];unfold bf bW;by_cases c:p.1=i
  .have hk:p.1.toNat=i:=by lia
   rw[hk,List.filter_cons_of_pos (by simpa using c)];simp[hi]
  .have hk:p.1.toNat≠i:=by lia
   rw[List.filter_cons_of_neg (by simpa using c)];simp[zAy hk]
def rQ:b∈bW ps a↔(a,b)∈ps:=by
 unfold bW;simp only[zAf,zA5];constructor
 .rintro⟨p,⟨h1,h2⟩,rfl⟩
  have:p.1=a:=by simpa using h2
  rw[<-this];exact h1
 .intro h
  exact⟨(a,b),⟨h,by simp⟩,rfl⟩
def dbl(ps:gX):gX:=ps.flatMap λ p=>[p,(p.2,p.1)]
def bz:(a,b)∈dbl ps↔(a,b)∈ps\/(b,a)∈ps:=by
 unfold dbl;simp only[List.mem_flatMap,zAX,zBh,or_false];constructor
 .rintro⟨p,hp,h|h⟩
  .rw[h];exact .inl hp
  .cases h;exact .inr hp
 .rintro(h|h)
  .exact⟨_,h,.inl rfl⟩
  .exact⟨_,h,.inr rfl⟩
def za(p:Int×Int)(ps:gX):dbl (p::ps)=p::(p.2,p.1)::dbl ps:=rfl
def aBq(hi:Y[i]? =some (.o2 ll))(hf:f Y= .ok (.int a))(hg:g Y= .ok (.int b))(h0:0<=a)(h1:a<ll.length)(hz:(ll.getD a.toNat []).length<16777216):
  m9 i f g Y= .nx (Y.set i (.o2 (bf ll (a,b)))):=by
 have hk:a.toNat<ll.length:=by lia
 have ha:at2 ll (.int a)=some (a.toNat,ll.getD a.toNat []):=by
  have hx:ixN ll.length a=some a.toNat:=by
   unfold ixN;rw[if_pos (by lia),if_pos (by lia)]
  simp only[at2,hx,zGU];rw[zAC hk];simp[hk]
 unfold m9;rw[hi];dsimp only;rw[hf,dX,ha];dsimp only;rw[hg,dX,if_pos (by rw[zDB];exact hz)];rfl
def sG(ll:List (List D))(p:Int×Int):(bf ll p).length=ll.length:=by unfold bf;rw[zAp]
def aAz(h:∀l∈ll,l.length<=m):∀l∈bf ll p,l.length<=m+1:=by
 intro l hl;unfold bf at hl;rcases List.mem_or_eq_of_mem_set hl with z|z
 .exact Nat.le_succ_of_le (h l z)
 .subst z
  rw[zAs,zDp]
  have:(ll.getD p.1.toNat []).length<=m:=by
   by_cases hk:p.1.toNat<ll.length
   .exact h _ (by simp[hk])
   .simp[zBW (zEm hk)]
  lia
def aBc{ll:List (List D)}(h:∀l∈ll,l.length<=m)(k:Nat):(ll.getD k []).length<=m:=by
 by_cases hk:k<ll.length
 .exact h _ (by simp[hk])
 .simp[zBW (zEm hk)]
def atB:En->Ou:=bD (m9 3 (aB 4) (cB (aB 5))) (m9 3 (aB 5) (cB (aB 4)))
theorem uq{w s1 s2:Slot}:∀(ps:gX) (ll:List (List D)) (s4 s5:Slot),(∀p∈ps,0<=p.1/\p.1<ll.length/\0<=p.2/\p.2<ll.length)->(∀l∈ll,l.length+2*ps.length<=10000)->
  ∃s4' s5',forL (gW 2 (az (gnm 4) (az (gnm 5) gZ))) atB (ps.map pD) [w,s1,s2,.o2 ll,s4,s5]= .nx [w,s1,s2,.o2 ((dbl ps).foldl bf ll),s4',s5']
 |[],ll,s4,s5,_,_=>⟨s4,s5,rfl⟩
 |p::ps,ll,s4,s5,h,hl=>by
  obtain⟨a0,a1,b0,b1⟩:=h p zAI;have hb0:∀l∈ll,l.length<=10000-2*(ps.length+1):=λ l hm=>by
   have:=hl l hm
   rw[zA6]at this;lia
  have hb1:=aAz (p:=p) hb0;have hb2:=aAz (p:=(p.2,p.1)) hb1;by_cases hne:ll=[]
  .subst hne
   simp at a1;lia
  have hbig:2*(ps.length+1)<=10000:=by
   obtain⟨l,hm⟩:=List.exists_mem_of_ne_nil ll hne
   have:=hl l hm
   rw[zA6]at this;lia
  obtain⟨s4',s5',e⟩:=uq (w:=w) (s1:=s1) (s2:=s2) ps (bf (bf ll p) (p.2,p.1)) (.sh (.int p.1)) (.sh (.int p.2)) (λ q hq=>by rw[sG,sG];exact h q (zAK _ hq)) (λ l hm=>by have:=hb2 l hm;lia);refine⟨s4',s5',?_⟩;rw[zA7,gj,za,zCI,zCI];have hg:okE (gW 2 (az (gnm 4) (az (gnm 5) gZ)) (pD p) [w,s1,s2,.o2 ll,s4,s5]) (λ Y1=>(atB Y1).tn (forL (gW 2 (az (gnm 4) (az (gnm 5) gZ))) atB (ps.map pD)))=
    (atB [w,s1,s2,.o2 ll,.sh (.int p.1),.sh (.int p.2)]).tn (forL (gW 2 (az (gnm 4) (az (gnm 5) gZ))) atB (ps.map pD)):=by
   simp[pD]
  have c1:m9 3 (aB 4) (cB (aB 5)) [w,s1,s2,.o2 ll,.sh (.int p.1),.sh (.int p.2)]= .nx [w,s1,s2,.o2 (bf ll p),.sh (.int p.1),.sh (.int p.2)]:=
   aBq (a:=p.1) (b:=p.2) rfl (by simp) (by simp) a0 a1 (by have:=aBc hb0 p.1.toNat;lia)
  have c2:m9 3 (aB 5) (cB (aB 4)) [w,s1,s2,.o2 (bf ll p),.sh (.int p.1),.sh (.int p.2)]= .nx [w,s1,s2,.o2 (bf (bf ll p) (p.2,p.1)),.sh (.int p.1),.sh (.int p.2)]:=
   aBq (a:=p.2) (b:=p.1) rfl (by simp) (by simp) b0 (by rw[sG];exact b1) (by have:=aBc hb1 p.2.toNat;lia)
  have hc:atB [w,s1,s2,.o2 ll,.sh (.int p.1),.sh (.int p.2)]= .nx [w,s1,s2,.o2 (bf (bf ll p) (p.2,p.1)),.sh (.int p.1),.sh (.int p.2)]:=by
   unfold atB;rw[aV,c1,bK,c2]
  rw[hg,hc,aAy];exact e
structure aKY(n:Int)(es:gX)(ll:List (List D)):Prop where
 len:ll.length=n.toNat
 item:∀i:Int,0<=i->i<n->∃ws:List Int,atD (ll.map .lst) i= .ok (.lst (ws.map .int))/\∀b,b∈ws↔(i,b)∈es
def yE(h:Ow n ps):∃ll,ik [owD n ps]= .ok (.lst (ll.map .lst))/\aKY n (dbl ps) ll/\∀i:Int,0<=i->i<n->atD (ll.map .lst) i= .ok (.lst ((bW (dbl ps) i).map .int)):=by
 have hn0:=h.n0;have hn1:=h.n1;have hr:=fj (j:=n) (by lia) (by lia);have hW:(cL 0 n).length=n.toNat:=by rw[iC];lia
 have hps:=h.len;have hin:∀p∈ps,0<=p.1/\p.1<(zAQ n.toNat ([]:List D)).length/\0<=p.2/\p.2<(zAQ n.toNat ([]:List D)).length:=λ p hp=>by
  obtain⟨a,b,c,d,_⟩:=h.pr p hp;rw[zCK];lia
 have hin2:∀p∈dbl ps,0<=p.1/\p.1<(zAQ n.toNat ([]:List D)).length:=λ p hp=>by
  rcases bz.mp (show(p.1,p.2)∈dbl ps from hp)with z|z
  .have:=hin _ z;exact⟨this.1,this.2.1⟩
  .have:=hin _ z;exact⟨this.2.2.1,this.2.2.2⟩
 obtain⟨s4,s5,e⟩:=uq (w:=.sh (owD n ps)) (s1:=.sh (.int n)) (s2:=.sh (.tup (ps.map pD))) ps (zAQ n.toNat []) .no .no hin (λ l hl=>by
  rw[(List.mem_replicate.mp hl).2];simp;lia)
 have item:∀i:Int,0<=i->i<n->atD (((dbl ps).foldl bf (zAQ n.toNat [])).map .lst) i= .ok (.lst ((bW (dbl ps) i).map .int)):=by
  intro i h0 h1;have hk:i.toNat<(zAQ n.toNat ([]:List D)).length:=by rw[zCK];lia
  have hg:=vK (dbl ps) (zAQ n.toNat []) i.toNat hin2 hk;have hk2:i.toNat<((dbl ps).foldl bf (zAQ n.toNat [])).length:=by rw[qG];exact hk
  have hi:((i.toNat:Nat):Int)=i:=zDP h0;rw[hi]at hg;rw[<-hi];refine jH ?_;rw[hi,zAL,zAC hk2]
  have:((dbl ps).foldl bf (zAQ n.toNat []))[i.toNat]=(bW (dbl ps) i).map .int:=by
   have e1:((dbl ps).foldl bf (zAQ n.toNat [])).getD i.toNat []=((dbl ps).foldl bf (zAQ n.toNat []))[i.toNat]:=by simp[hk2]
   rw[<-e1,hg];have e2:(zAQ n.toNat ([]:List D)).getD i.toNat []=[]:=by
    rw[zA3,zCb];split<;>rfl
   rw[e2,zEt]
  rw[this];rfl
 refine⟨(dbl ps).foldl bf (zAQ n.toNat []),?_,⟨by rw[qG,zCK],λ i h0 h1=>⟨bW (dbl ps) i,item i h0 h1,λ b=>rQ⟩⟩,item⟩
 .have hz:n.toNat<16777216:=by lia
  have a0:aCk (aB 0) (gW 2 (az (gnm 1) (az (gnm 2) gZ))) [.sh (owD n ps),.no,.no,.no,.no,.no]= .nx [.sh (owD n ps),.sh (.int n),.sh (.tup (ps.map pD)),.no,.no,.no]:=by
   simp[owD]
  have a1:llS 3 (fD gC (aC (aB 1) aJ)) [none] (gnm 0) [.sh (owD n ps),.sh (.int n),.sh (.tup (ps.map pD)),.no,.no,.no]= .nx [.sh (owD n ps),.sh (.int n),.sh (.tup (ps.map pD)),.o2 (zAQ n.toNat []),.no,.no]:=by
   unfold llS;simp[shE,kZ,hr,hW,hz]
  have a2:j7 (dg (aB 2)) (gW 2 (az (gnm 4) (az (gnm 5) gZ))) atB [.sh (owD n ps),.sh (.int n),.sh (.tup (ps.map pD)),.o2 (zAQ n.toNat []),.no,.no]= .nx [.sh (owD n ps),.sh (.int n),.sh (.tup (ps.map pD)),.o2 ((dbl ps).foldl bf (zAQ n.toNat [])),s4,s5]:=by
   have hi:dg (aB 2) [.sh (owD n ps),.sh (.int n),.sh (.tup (ps.map pD)),.o2 (zAQ n.toNat []),.no,.no]= .ok (ps.map pD):=by simp
   rw[ju,hi,dX];exact e
  have a3:retS (vg 3) [.sh (owD n ps),.sh (.int n),.sh (.tup (ps.map pD)),.o2 ((dbl ps).foldl bf (zAQ n.toNat [])),s4,s5]= .rt (.lst (((dbl ps).foldl bf (zAQ n.toNat [])).map .lst)):=by simp
  have st:aq 6 [owD n ps]=[.sh (owD n ps),.no,.no,.no,.no,.no]:=rfl;have df:fV=bD (aCk (aB 0) (gW 2 (az (gnm 1) (az (gnm 2) gZ)))) (bD (llS 3 (fD gC (aC (aB 1) aJ)) [none] (gnm 0)) (bD (j7 (dg (aB 2)) (gW 2 (az (gnm 4) (az (gnm 5) gZ))) atB) (retS (vg 3)))):=rfl;simp only[ik,df,bL,st];rw[aV,a0,bK,aV,a1,bK,aV,a2,bK,a3]
def dR(ps:gX):List Int->Bool
 |a::b::r=>decide ((a,b)∈ps)&&dR ps (b::r)
 |_=>true
def aKO:D->Bool
 | .tup l=>decide (l.length<4000)
 |_=>true
theorem xX{a:D->En->Rs En}{u:En->Ou}{I:En->Prop}:∀(ds:List D) (Y:En),I Y->(∀d∈ds,∀Y,I Y->∃Y',okE (a d Y) u= .nx Y'/\I Y')->∃Y',forL a u ds Y= .nx Y'/\I Y'
 |[],Y,h,_=>⟨Y,rfl,h⟩
 |d::ds,Y,h,H=>by
  rw[gj];have tnE:∀(r':Rs En) (k:En->Ou),okE r' (λ Y1=>(u Y1).tn k)=(okE r' u).tn k:=λ r' k=>by cases r'<;>rfl
  rw[tnE];obtain⟨Y',e,hI⟩:=H d zAI Y h;rw[e,aAy];exact xX ds Y' hI λ y hy=>H y (zAK _ hy)
def xN:ltP p q=true↔p.1<q.1\/p.1=q.1/\p.2<q.2:=by
 unfold ltP;have e:HT.lexLt [p.1,p.2] [q.1,q.2]=true↔p.1<q.1\/p.1=q.1/\p.2<q.2:=by
  by_cases h1:p.1=q.1
  .by_cases h2:p.2=q.2
   .simp[HT.lexLt,h1,h2]
   .simp[HT.lexLt,h1,h2]
  .simp[HT.lexLt,h1]
 exact e
def aDV(h:sY ps=true)(l:∀p∈ps,ltP p q=true):sY (ps++[q])=true:=by
 rw[wR]at h ⊢;intro i a b e1 e2;by_cases hi:i+1<ps.length
 .rw[zBG (by lia)]at e1
  rw[zBG hi]at e2;exact h i a b e1 e2
 .have hj:=(zAG.mp e2).1
  rw[zAs,zDp]at hj;have hk:i+1=ps.length:=by lia
  rw[zBG (by lia)]at e1;rw[hk,zCT (zAW _),zDw]at e2;cases e2;exact l a (zAq e1)
structure Wi(n a b:Int)(ps:gX):Prop where
 ris:sY ps=true
 pr:∀p∈ps,0<=p.1/\p.1<p.2/\p.2<n/\(p.1<a\/p.1=a/\p.2<b)
def Wi.put(W:Wi n a b ps)(h0:0<=a)(h1:a<b)(h2:b<n):Wi n a (b+1) (ps++[(a,b)]):=by
 refine⟨aDV W.ris λ p hp=>?_,λ p hp=>?_⟩
 .obtain⟨_,_,_,h⟩:=W.pr p hp
  rw[xN];exact h
 .rcases zBI.mp hp with hp|hp
  .obtain⟨q1,q2,q3,q4⟩:=W.pr p hp
   exact⟨q1,q2,q3,by lia⟩
  .rw[zBD.mp hp]
   exact⟨h0,h1,h2,.inr ⟨rfl,by show b<b+1;lia⟩⟩
def Wi.on(W:Wi n a b ps)(h:a<a'\/a=a'/\b<=b'):Wi n a' b' ps:=⟨W.ris,λ p hp=>by
 obtain⟨q1,q2,q3,q4⟩:=W.pr p hp;exact⟨q1,q2,q3,by lia⟩⟩
def wbI:En->Ou:=ifS (tsb (op2 ltD (aj bJ (aC (aB 0) (aC (op2 cU (op2 cU (cD (.int 3)) (op2 j0 (cD (.int 61)) (aB 5))) (aB 6)) (aC (cD (.int 8)) aJ)))) (aB 3))) (aCl 4 (bh (aC (cB (aB 5)) (aC (cB (aB 6)) aJ)))) Ou.nx
def wbO:En->Ou:=j7 (fD aAP (aC (op2 cU (aB 5) (cD (.int 1))) (aC (aB 2) aJ))) (gnm 6) wbI
def aAd{most:Nat}(h1:most<=60):∃n ps,jc [.int c,.int most]= .ok (owD n ps)/\Ow n ps/\(∀p∈ps,p.1<p.2)/\n<=most:=by
 obtain⟨n,en,hn⟩:=xY (c:=c) (k:=0) (b:=(most:Int)+1) (by decide) (by decide) (by lia) (by lia);obtain⟨th,et,_⟩:=xY (c:=c) (k:=1) (b:=6) (by decide) (by decide) (by decide) (by decide);have hr1:=fj (j:=(n:Int)) (by lia) (by lia);have inner:∀(a:Int) (K0:Nat) (ps:gX) (s2:Slot),0<=a->a<n->K0<=3600->ps.length<=K0->Wi n a (a+1) ps->
   ∃ps' s2',forL (gnm 6) wbI (cL (a+1) n) [.sh (.int c),.sh (.int most),.sh (.int n),.sh (.int (1+th)),.ow (.lst (ps.map pD)),.sh (.int a),s2]= .nx [.sh (.int c),.sh (.int most),.sh (.int n),.sh (.int (1+th)),.ow (.lst (ps'.map pD)),.sh (.int a),s2']/\ps'.length<=K0+60/\Wi n a n ps':=by
  intro a K0 ps s2 ha0 ha1 hK hl W;obtain⟨Y',e,ps',s',rfl,hl',W'⟩:=lO (a:=gnm 6) (u:=wbI) (ds:=cL (a+1) n)
   (λ k Y=>∃(ps:gX) (s2:Slot),Y=[.sh (.int c),.sh (.int most),.sh (.int n),.sh (.int (1+th)),.ow (.lst (ps.map pD)),.sh (.int a),s2]/\ps.length<=K0+k/\Wi n a (a+1+k) ps)
   (by
    rintro i d Y hd ⟨ps,s2,rfl,hps,W⟩;obtain⟨rfl,hlt⟩:=jY hd;have hm:j0 (.int 61) (.int a)= .ok (.int (61*a)):=xK (by decide) (by decide);obtain⟨r,er,_⟩:=xY (c:=c) (k:=3+61*a+(a+1+i)) (b:=8) (by lia) (by lia) (by decide) (by decide);have hz:ps.length<16777216:=by lia
    by_cases aT:(r:Int)<1+th
    .exact⟨_,by simp[wbI,hm,er,aT,aCl,hz];rfl,ps++[(a,a+1+i)],_,by simp[pD];rfl,by simp;lia,by rw[show a+1+((i+1:Nat):Int)=a+1+(i:Int)+1 by lia];exact W.put ha0 (by lia) (by lia)⟩
    .exact⟨_,by simp[wbI,hm,er,aT];rfl,ps,_,rfl,by lia,W.on (by lia)⟩)
   (Y:=[.sh (.int c),.sh (.int most),.sh (.int n),.sh (.int (1+th)),.ow (.lst (ps.map pD)),.sh (.int a),s2]) ⟨ps,s2,rfl,by lia,W.on (by lia)⟩
  rw[iC]at hl' W';exact⟨ps',s',e,by lia,W'.on (by lia)⟩
 obtain⟨Y',e,ps,s1,s2,rfl,hl,W⟩:=lO (a:=gnm 5) (u:=wbO) (ds:=cL 0 n)
  (λ k Y=>∃(ps:gX) (s1 s2:Slot),Y=[.sh (.int c),.sh (.int most),.sh (.int n),.sh (.int (1+th)),.ow (.lst (ps.map pD)),s1,s2]/\ps.length<=60*k/\Wi n k 0 ps)
  (by
   rintro i d Y hd ⟨ps,s1,s2,rfl,hps,W⟩;obtain⟨rfl,hlt⟩:=jY hd;have hr2:=aBM (i:=0+(i:Int)+1) (j:=(n:Int)) (by lia) (by lia) (by lia) (by lia);obtain⟨ps',s2',e,hl',W'⟩:=inner (0+(i:Int)) (60*i) ps s2 (by lia) (by lia) (by lia) hps ⟨W.ris,λ p hp=>by obtain⟨q1,q2,q3,q4⟩:=W.pr p hp;exact⟨q1,q2,q3,by lia⟩⟩;refine⟨_,?_,ps',.sh (.int (0+(i:Int))),s2',rfl,by lia,W'.on (by lia)⟩;simp only[zFr]at hr2 e ⊢;simp[wbO,hr2,e])
  (Y:=[.sh (.int c),.sh (.int most),.sh (.int n),.sh (.int (1+th)),.ow (.lst []),.no,.no]) ⟨[],.no,.no,rfl,by simp,rfl,λ p hp=>by cases hp⟩
 rw[iC]at hl;refine⟨n,ps,?_,⟨by lia,by lia,by lia,λ p hp=>by obtain⟨q1,q2,q3,q4⟩:=W.pr p hp;exact⟨q1,by lia,by lia,q3,by lia⟩,W.ris⟩,λ p hp=>(W.pr p hp).2.1,by lia⟩;have st:aq 7 [.int c,.int most]=[.sh (.int c),.sh (.int most),.no,.no,.no,.no,.no]:=rfl;have df:gk=bD (dN 2 (aj bJ (aC (aB 0) (aC (cD (.int 0)) (aC (op2 cU (aB 1) (cD (.int 1))) aJ)))))
  (bD (dN 3 (op2 cU (cD (.int 1)) (aj bJ (aC (aB 0) (aC (cD (.int 1)) (aC (cD (.int 6)) aJ))))))
  (bD (yQ 4 (ud aJ)) (bD (j7 (fD gC (aC (aB 2) aJ)) (gnm 5) wbO)
  (retS (bh (aC (cB (aB 2)) (aC (opA jL (aC (vg 4) aJ)) aJ))))))):=rfl
 simp only[jc,df,bL,st];simp[en,et,hr1,e,owD]
theorem aDh:∀ws:List Int,pR (ws.map .int)=true
 |[]=>rfl
 |_::ws=>by simp only[zA7,pR,aDh ws,pln];rfl
theorem iJ:∀ws:List Int,jT (ws.map .int)=true
 |[]=>rfl
 |_::ws=>by simp only[zA7,jT,iJ ws,imm];rfl
theorem rm:∀{l:List D},(∀d∈l,imm d=true)->jT l=true
 |[],_=>rfl
 |x::r,h=>by
  simp only[jT,zAE];exact⟨h x (zAI ..),rm λ d hd=>h d (zAK _ hd)⟩
theorem oY:∀{l:List D},(∀d∈l,jU d<=k)->cR l<=k
 |[],_=>zAg _
 |x::r,h=>by
  unfold cR;exact Nat.max_le.mpr ⟨h x zAI,oY λ d hd=>h d (zAK _ hd)⟩
theorem mC:∀{l:List D},(∀d∈l,aZ d=true)->ak l=true
 |[],_=>rfl
 |x::r,h=>by
  unfold ak;rw[h x zAI,mC λ d hd=>h d (zAK _ hd)];rfl
structure El(k:Nat)(d:D):Prop where
 p:pln d=true
 e:jU d<=k
 n:aZ d=true
 i:imm d=true
theorem El.tup(h:∀d∈l,El k d):El (k+1) (.tup l):=⟨by unfold pln;exact aBS λ d hd=>(h d hd).p,by unfold jU;exact Nat.succ_le_succ (oY λ d hd=>(h d hd).e),by unfold aZ;exact mC λ d hd=>(h d hd).n,by unfold imm;exact rm λ d hd=>(h d hd).i⟩
theorem El.int{k:Nat}{i:Int}:El k (.int i):=⟨rfl,zAg _,rfl,rfl⟩
def El.ints{k:Nat}{ws:List Int}:∀d∈ws.map D.int,El k d:=λ d hd=>by obtain⟨w,_,rfl⟩:=zAf.mp hd;exact .int
def aKU(h:l.length+m.length<=16777216):cU (.tup l) (.tup m)= .ok (.tup (l++m)):=by rw[aFC,if_pos h]
def aKV(h:l.length+m.length<=16777216):cU (.lst l) (.lst m)= .ok (.lst (l++m)):=by rw[aFD,if_pos h]
structure Fn4(d:D):Prop where
 p:pln d=true
 s:aKO d=true
 e:jU d<=60
 n:aZ d=true
theorem aEV{c:En->Rs Bool}{b:En->Ou}{I:Nat->En->Prop}(st:∀m Y,I m Y->c Y= .ok false\/(c Y= .ok true/\∃Y' m',b Y= .nx Y'/\m'<m/\I m' Y')):
  ∀(n m:Nat) (Y:En),m<n->I m Y->∃Y' m',itW c b n Y= .nx Y'/\I m' Y'/\c Y'= .ok false
 |0,_,_,h,_=>absurd h (zFA _)
 |n+1,m,Y,h,hI=>by
  rcases st m Y hI with e|⟨e,Y',m',e2,hm,hI'⟩
  .exact⟨Y,m,by unfold itW;rw[e];rfl,hI,e⟩
  .obtain⟨Y2,m2,e3,r⟩:=aEV st n m' Y' (by lia) hI'
   refine⟨Y2,m2,?_,r⟩;unfold itW;rw[e,dX,if_pos rfl,e2];exact e3
def yI{c:En->Rs Bool}{b:En->Ou}(I:Nat->En->Prop)(st:∀m Y,I m Y->c Y= .ok false\/(c Y= .ok true/\∃Y' m',b Y= .nx Y'/\m'<m/\I m' Y')){m:Nat}{Y:En}(hm:m<1000000)(h:I m Y):
  ∃Y' m',vf c b Y= .nx Y'/\I m' Y'/\c Y'= .ok false:=aEV st fuel m Y hm h
def upI(n:Int):List Int:=(zAU n.toNat).map λ(k:Nat)=>(k:Int)
def wQ(n:Int):cL 0 n=(upI n).map .int:=by
 unfold cL upI;rw[zBC,show(n-0).toNat=n.toNat by lia];exact zEJ λ k _=>by simp
def gR:x∈upI n↔0<=x/\x<n:=by
 unfold upI;rw[zAf];constructor
 .rintro⟨k,hk,rfl⟩
  have:=zAi.mp hk
  lia
 .rintro⟨h0,h1⟩
  exact⟨x.toNat,zAi.mpr (by lia),by lia⟩
def eQ(n:Int):(upI n).length=n.toNat:=by unfold upI;simp
theorem uR:∀{ws:List Int} (h:ws≠[]),dR es ws=true->(ws.getLast h,v)∈es->dR es (ws++[v])=true
 |[a],_,_,h2=>by simpa[dR]using h2
 |a::b::r,_,h1,h2=>by
  simp only[dR,zAE,decide_eq_true_eq]at h1
  have:=uR (ws:=b::r) (by simp) h1.2 (by simpa using h2)
  rw[zCt,zCt,dR,zAE,decide_eq_true_eq];exact⟨h1.1,by simpa using this⟩
def aJf(hf:f Y= .ok (.int n))(h0:0<=n)(h1:n<=60):lrD f Y= .ok (.lst (cL 0 n)):=by
 unfold lrD;rw[hf,aQ];unfold lrR;simp;lia
theorem vQ:∀(a b:List Int),gf (a.map .int) (b.map .int)=decide (a=b)
 |[],[]=>rfl
 |[],y::b=>by simp[gf]
 |x::a,[]=>by simp[gf]
 |x::a,y::b=>by
  have:=vQ a b
  simp only[zA7,gf,eqD,this,List.cons.injEq];by_cases h:x=y<;>simp[h]
def yu{i j:Nat}{l m:List Int}(hf:f (shE Y)= .ok (l.map .int))(hs:stE js (shE Y)=[.no,.sh (.tup (m.map .int))]\/stE js (shE Y)=[.no,.sh (.lst (m.map .int))])(hl:l.length<=1000):
  lcD f js (gnm 0) (tsb (op2 (inR true) (aB 0) (aB 1))) (cB (aB 0)) Y= .ok (.lst ((l.filter λ x=>!decide (x∈m)).map .int)):=by
 refine gU hf (by rw[zAF];lia) ?_;rcases hs with hs|hs<;>rw[hs]
 .refine jC (fg:=gnm 0) (f:=D.int) (g:=D.int) (t:=λ x=>!decide (x∈m)) l λ x _=>⟨[.sh (.int x),.sh (.tup (m.map .int))],rfl,?_,by simp⟩
  have a2:aB 1 [.sh (.int x),.sh (.tup (m.map .int))]= .ok (.tup (m.map .int)):=rfl;have a3:aB 0 [.sh (.int x),.sh (.tup (m.map .int))]= .ok (.int x):=rfl;rw[aAE,cg,a3,aQ,a2,aQ,aEZ,cP,aQ];rfl
 .refine jC (fg:=gnm 0) (f:=D.int) (g:=D.int) (t:=λ x=>!decide (x∈m)) l λ x _=>⟨[.sh (.int x),.sh (.lst (m.map .int))],rfl,?_,by simp⟩
  have a2:aB 1 [.sh (.int x),.sh (.lst (m.map .int))]= .ok (.lst (m.map .int)):=rfl;have a3:aB 0 [.sh (.int x),.sh (.lst (m.map .int))]= .ok (.int x):=rfl;rw[aAE,cg,a3,aQ,a2,aQ,rZ,cP,aQ];rfl
def o5(h:Ow n ps)(low:∀p∈ps,p.1<p.2):cC [owD n ps]= .ok .non:=by
 have st:aq 1 [owD n ps]=[.sh (owD n ps)]:=rfl;simp only[cC,dD,bL,st];simp[aC5 h low]
inductive Cn(es:gX)(a:Int):Int->Prop where
 |refl:Cn es a a
 |step {b c:Int} (h:Cn es a b) (e:(b,c)∈es):Cn es a c
def Cn.trans(h:Cn es a b)(k:Cn es b c):Cn es a c:=by
 induction k with
 |refl=>exact h
 |step _ e ih=>exact ih.step e
def Sym(es:gX):Prop:=∀a b,(a,b)∈es->(b,a)∈es
def xZ(ps:gX):Sym (dbl ps):=λ a b h=>bz.mpr (bz.mp h).symm
def Cn.symm(S:Sym es)(h:Cn es a b):Cn es b a:=by
 induction h with
 |refl=>exact .refl
 |step _ e ih=>exact Cn.trans (.step .refl (S _ _ e)) ih
def Cn.inn(hin:∀x y,(x,y)∈es->0<=y/\y<n)(h:Cn es a b)(ha:0<=a/\a<n):0<=b/\b<n:=by
 induction h with
 |refl=>exact ha
 |step _ e _=>exact hin _ _ e
theorem vd:∀{l m:List Int},dR es (l++m)=true->dR es l=true
 |[],_,_=>rfl
 |[a],_,_=>rfl
 |a::b::r,m,h=>by
  rw[zCt,zCt,dR,zAE]at h;rw[dR,zAE];exact⟨h.1,vd (l:=b::r) (by simpa using h.2)⟩
structure aJw(es:gX)(a b:Int)(l:List Int):Prop where
 hd:l.head?=some a
 lt:l.getLast?=some b
 al:dR es l=true
def Cn.path(h:Cn es a b):∃l,aJw es a b l/\l.Nodup:=by
 induction h with
 |refl=>exact⟨[a],⟨rfl,rfl,rfl⟩,by simp⟩
 |step _ e ih=>
  rename_i b c _;obtain⟨l,P,nd⟩:=ih;have hne:l≠[]:=by intro z;have:=P.hd;rw[z]at this;cases this
  by_cases hc:c∈l
  .obtain⟨l1,l2,rfl⟩:=List.append_of_mem hc
   refine⟨l1++[c],⟨?_,by simp,vd (m:=l2) (by rw[zCl];exact P.al)⟩,?_⟩
   .have:=P.hd
    cases l1 with
    |nil=>simpa using this
    |cons x r=>simpa using this
   .have e2:l1++c::l2=(l1++[c])++l2:=by simp
    rw[e2]at nd;exact(zD5.mp nd).1
  .refine⟨l++[c],⟨?_,by simp,?_⟩,?_⟩
   .have:=P.hd
    cases l with
    |nil=>exact absurd rfl hne
    |cons x r=>simpa using this
   .refine uR hne P.al ?_
    have:=P.lt
    rw[List.getLast?_eq_some_getLast hne]at this;rw[zA8 this];exact e
   .rw[zD5]
    exact⟨nd,by simp,λ x hx y hy z=>by rw[zBD.mp hy]at z;subst z;exact hc hx⟩
theorem yo:∀{l:List Int},dR es (a::l)=true->∀x∈a::l,Cn es a x
 |[],_,x,hx=>by rw[zBD.mp hx];exact .refl
 |b::r,h,x,hx=>by
  rw[dR,zAE,decide_eq_true_eq]at h;rcases zAX.mp hx with rfl|hx
  .exact .refl
  .exact Cn.trans (.step .refl h.1) (yo h.2 x hx)
def prB(p:Prop):Bool:=@decide p (zEk p)
def aBQ:prB p=true↔p:=@decide_eq_true_iff p (zEk p)
def aBj(n:Int)(es:gX)(a:Int):List Int:=(upI n).filter λ b=>prB (Cn es a b)
def jR(es:gX)(a:Int):Bool:=prB (∀b,0<=b->Cn es a b->a<=b)
def fJ:jR es a=true↔∀b,0<=b->Cn es a b->a<=b:=aBQ
def nP(n:Int)(es:gX):List (List Int):=((upI n).filter (jR es)).map (aBj n es)
def vm(n:Int):(upI n).Pairwise (·< ·):=by
 unfold upI;rw[zE3];exact List.pairwise_lt_range.imp λ h=>by lia
theorem aDW:∀{l m:List Int},l.Pairwise (·< ·)->m.Pairwise (·< ·)->(∀x,x∈l↔x∈m)->l=m
 |[],[],_,_,_=>rfl
 |[],b::m,_,_,h=>by have:=(h b).mpr zAI;cases this
 |a::l,[],_,_,h=>by have:=(h a).mp zAI;cases this
 |a::l,b::m,h1,h2,h=>by
  obtain⟨p1,p2⟩:=zBM.mp h1;obtain⟨q1,q2⟩:=zBM.mp h2;have e:a=b:=by
   rcases zAX.mp ((h a).mp zAI)with z|z
   .exact z
   .rcases zAX.mp ((h b).mpr zAI)with y|y
    .exact y.symm
    .have:=q1 a z;have:=p1 b y;lia
  subst e;rw[aDW p2 q2 λ x=>?_];constructor
  .intro hx
   rcases zAX.mp ((h x).mp (zAK _ hx))with z|z
   .subst z;have:=p1 x hx;lia
   .exact z
  .intro hx
   rcases zAX.mp ((h x).mpr (zAK _ hx))with z|z
   .subst z;have:=q1 x hx;lia
   .exact z
def wB(nd:l.Nodup):(sortI l).Pairwise (·< ·):=by
 have h1:=jX l;have h2:(sortI l).Nodup:=(sortI_perm l).nodup_iff.mpr nd;rw[zCU]at h2;exact(h1.and h2).imp λ⟨a,b⟩=>by lia
def gL(L:List Int)(i:Int):Int:=L.getD i.toNat 0
def mU(L:List Int)(p:Int×Int):List Int:=(L.set p.1.toNat (mn (gL L p.1) (gL L p.2))).set p.2.toNat (mn (gL L p.1) (gL L p.2))
def aEQ(L:List Int)(p:Int×Int):(mU L p).length=L.length:=by unfold mU;rw[zAp,zAp]
def aJe(a b:Int):mn a b<=a/\mn a b<=b/\(mn a b=a\/mn a b=b):=by
 unfold mn;split<;>lia
def aAo(hi:i<L.length)(x:Int)(h0:0<=x):gL (L.set i v) x=if x.toNat=i then v else gL L x:=by
 unfold gL;rw[zA3,zA3];split
 .rename_i e
  rw[e,zBQ hi];rfl
 .rename_i e
  rw[zAy (λ z=>e z.symm)]
def aG1(h1:0<=p.1/\p.1.toNat<L.length)(h2:0<=p.2/\p.2.toNat<L.length)(x:Int)(h0:0<=x):gL (mU L p) x=if x=p.1\/x=p.2 then mn (gL L p.1) (gL L p.2)else gL L x:=by
 unfold mU;rw[aAo (by rw[zAp];exact h2.2) x h0,aAo h1.2 x h0];by_cases e2:x=p.2
 .subst e2;simp
 .have:x.toNat≠p.2.toNat:=by lia
  rw[if_neg this];by_cases e1:x=p.1
  .subst e1;simp
  .have:x.toNat≠p.1.toNat:=by lia
   rw[if_neg this,if_neg (by lia)]
structure Lb(n:Int)(es:gX)(L:List Int):Prop where
 len:L.length=n.toNat
 cn:∀x,0<=x->x<n->Cn es x (gL L x)/\gL L x<=x/\0<=gL L x
section
variable{n:Int}{ps:gX}{L:List Int}{s2 s3 s4:Slot}
def Lb.join(B:Lb n (dbl ps) L)(hp:p∈ps)(h:0<=p.1/\p.1<n/\0<=p.2/\p.2<n):Lb n (dbl ps) (mU L p)/\(∀x,0<=x->x<n->gL (mU L p) x<=gL L x)/\gL (mU L p) p.1<=gL L p.2/\gL (mU L p) p.2<=gL L p.1:=by
 have hl:=B.len;have g:=λ x h0=>aG1 (L:=L) (p:=p) ⟨h.1,by lia⟩ ⟨h.2.2.1,by lia⟩ x h0
 obtain⟨m1,m2,m3⟩:=aJe (gL L p.1) (gL L p.2);have c1:=B.cn p.1 h.1 h.2.1;have c2:=B.cn p.2 h.2.2.1 h.2.2.2;have e12:(p.1,p.2)∈dbl ps:=bz.mpr (.inl hp);have e21:(p.2,p.1)∈dbl ps:=bz.mpr (.inr hp);have k1:Cn (dbl ps) p.1 (mn (gL L p.1) (gL L p.2)):=by
  rcases m3 with z|z
  .rw[z];exact c1.1
  .rw[z];exact Cn.trans (.step .refl e12) c2.1
 have k2:Cn (dbl ps) p.2 (mn (gL L p.1) (gL L p.2)):=Cn.trans (.step .refl e21) k1;refine⟨⟨by rw[aEQ];exact hl,λ x h0 h1=>?_⟩,λ x h0 h1=>?_,?_,?_⟩
 .rw[g x h0]
  split
  .rename_i e
   rcases e with rfl|rfl
   .exact⟨k1,by lia,by lia⟩
   .exact⟨k2,by lia,by lia⟩
  .exact B.cn x h0 h1
 .rw[g x h0]
  split
  .rename_i e
   rcases e with rfl|rfl
   .exact m1
   .exact m2
  .exact zDf _
 .rw[g p.1 h.1,if_pos (.inl rfl)];exact m2
 .rw[g p.2 h.2.2.1,if_pos (.inr rfl)];exact m1
def aBp(h0:0<=x)(h1:x.toNat<L.length):atD (L.map .int) x= .ok (.int (gL L x)):=by
 have:=jH (l:=L.map D.int) (k:=x.toNat) (d:=.int (gL L x)) (by rw[zAL,zAC h1];unfold gL;rw[zA3,zAC h1];rfl)
 rwa [zDP h0]at this
def aBP(hk:fk [w,.ow (.lst (L.map .int)),s2,s3,s4]= .ok (.int k))(he:fe [w,.ow (.lst (L.map .int)),s2,s3,s4]= .ok (.int v))(h0:0<=k)(h1:k.toNat<L.length):
  aD9 1 fk fe [w,.ow (.lst (L.map .int)),s2,s3,s4]= .nx [w,.ow (.lst ((L.set k.toNat v).map .int)),s2,s3,s4]:=by
 have e:putN (L.map .int) (.int k)=some k.toNat:=by
  show ixN (L.map D.int).length k=_;unfold ixN;rw[zAF,if_pos (by lia),if_pos (by lia)]
 show((fe [w,.ow (.lst (L.map .int)),s2,s3,s4]).bo λ d=>(fk [w,.ow (.lst (L.map .int)),s2,s3,s4]).bo λ k=>match putN (L.map .int) k with
  |some j=>.nx [w,.ow (.lst ((L.map .int).set j d)),s2,s3,s4]
  |none=>.st)=_
 rw[he,dX,hk,dX,e];simp[zHd]
def aIT(hl:L.length=n.toNat)(h:0<=p.1/\p.1<n/\0<=p.2/\p.2<n):
  lsB [w,.ow (.lst (L.map .int)),s2,.sh (.int p.1),.sh (.int p.2)]= .nx [w,.ow (.lst ((mU L p).map .int)),s2,.sh (.int p.1),.sh (.int p.2)]:=by
 have a1:=aBp (L:=L) h.1 (by lia);have a2:=aBp (L:=L) h.2.2.1 (by lia);have b1:=aBP (L:=L) (w:=w) (s2:=s2) (s3:=.sh (.int p.1)) (s4:=.sh (.int p.2)) (fk:=aB 3) (fe:=opA (mmD λ i j=>if j<i then j else i) (aC (op2 ixD (pF 1) (aB 3)) (aC (op2 ixD (pF 1) (aB 4)) aJ))) (k:=p.1) (v:=mn (gL L p.1) (gL L p.2)) (by simp) (by simp[a1,a2,mn]) h.1 (by lia);have hl2:(L.set p.1.toNat (mn (gL L p.1) (gL L p.2))).length=L.length:=zAp;have a3:=aBp (L:=L.set p.1.toNat (mn (gL L p.1) (gL L p.2))) h.1 (by lia);rw[aAo (by lia) p.1 h.1,if_pos rfl]at a3;have b2:=aBP (L:=L.set p.1.toNat (mn (gL L p.1) (gL L p.2))) (w:=w) (s2:=s2) (s3:=.sh (.int p.1)) (s4:=.sh (.int p.2)) (fk:=aB 4) (fe:=cB (op2 ixD (pF 1) (aB 3))) (k:=p.2) (v:=mn (gL L p.1) (gL L p.2)) (by simp) (by rw[zHd]at a3;simp[a3]) h.2.2.1 (by lia);rw[lsB,aV,b1,bK,b2];rfl
theorem zA(hpr:∀p∈ps,0<=p.1/\p.1<n/\0<=p.2/\p.2<n):∀(qs:gX) (L:List Int) (s3 s4:Slot),(∀q∈qs,q∈ps)->Lb n (dbl ps) L->
  ∃L' s3' s4',forL (gW 2 (az (gnm 3) (az (gnm 4) gZ))) lsB (qs.map pD) [w,.ow (.lst (L.map .int)),s2,s3,s4]= .nx [w,.ow (.lst (L'.map .int)),s2,s3',s4']/\Lb n (dbl ps) L'/\(∀x,0<=x->x<n->gL L' x<=gL L x)/\∀q∈qs,gL L' q.1<=gL L q.2/\gL L' q.2<=gL L q.1
 |[],L,s3,s4,_,B=>⟨L,s3,s4,rfl,B,λ _ _ _=>zDf _,λ q hq=>by cases hq⟩
 |q::qs,L,s3,s4,h,B=>by
  have hq:=h q zAI;have hr:=hpr q hq;obtain⟨B1,m1,m2,m3⟩:=B.join hq hr;obtain⟨L',s3',s4',e,B',k1,k2⟩:=zA (w:=w) hpr qs (mU L q) (.sh (.int q.1)) (.sh (.int q.2)) (λ x hx=>h x (zAK _ hx)) B1;refine⟨L',s3',s4',?_,B',λ x h0 h1=>zDu (k1 x h0 h1) (m1 x h0 h1),λ x hx=>?_⟩
  .rw[zA7,gj]
   have g:okE (gW 2 (az (gnm 3) (az (gnm 4) gZ)) (pD q) [w,.ow (.lst (L.map .int)),s2,s3,s4]) (λ Y1=>(lsB Y1).tn (forL (gW 2 (az (gnm 3) (az (gnm 4) gZ))) lsB (qs.map pD)))=(lsB [w,.ow (.lst (L.map .int)),s2,.sh (.int q.1),.sh (.int q.2)]).tn (forL (gW 2 (az (gnm 3) (az (gnm 4) gZ))) lsB (qs.map pD)):=by simp[pD]
   rw[g,aIT B.len hr,aAy,e]
  .rcases zAX.mp hx with rfl|hx
   .exact⟨zDu (k1 _ hr.1 hr.2.1) m2,zDu (k1 _ hr.2.2.1 hr.2.2.2) m3⟩
   .have hx':=hpr x (h x (zAK _ hx))
    exact⟨zDu (k2 x hx).1 (m1 _ hx'.2.2.1 hx'.2.2.2),zDu (k2 x hx).2 (m1 _ hx'.1 hx'.2.1)⟩
def Rd1(n:Int)(es:gX)(t:Nat)(L:List Int):Prop:=∀(l:List Int) (a b:Int),0<=a->a<n->aJw es a b l->l.length<=t+1->gL L a<=b
def aFh(hin:∀x y,(x,y)∈es->0<=y/\y<n)(h:dR es (a::b::r)=true):(a,b)∈es/\0<=b/\b<n:=by
 rw[dR,zAE,decide_eq_true_eq]at h;exact⟨h.1,hin _ _ h.1⟩
def aAe(h:Ow n ps):∃L s2 s3 s4,forL (gnm 2) lsO (cL 0 n) [.sh (owD n ps),.ow (.lst ((upI n).map .int)),.no,.no,.no]= .nx [.sh (owD n ps),.ow (.lst (L.map .int)),s2,s3,s4]/\Lb n (dbl ps) L/\∀a,0<=a->a<n->∀b,Cn (dbl ps) a b->gL L a<=b:=by
 have hpr:∀p∈ps,0<=p.1/\p.1<n/\0<=p.2/\p.2<n:=λ p hp=>by have:=h.pr p hp;exact⟨this.1,this.2.1,this.2.2.1,this.2.2.2.1⟩
 have hin:∀x y,(x,y)∈dbl ps->0<=y/\y<n:=λ x y m=>by
  rcases bz.mp m with z|z
  .have:=h.pr _ z;exact⟨this.2.2.1,this.2.2.2.1⟩
  .have:=h.pr _ z;exact⟨this.1,this.2.1⟩
 have g0:∀x,0<=x->x<n->gL (upI n) x=x:=λ x h0 h1=>by
  unfold gL upI;rw[zA3,zAL,zBu (by lia)]
  show(((x.toNat:Nat):Int))=x
  lia
 obtain⟨Y',e,L,s2,s3,s4,rfl,B,hR⟩:=lO (a:=gnm 2) (u:=lsO) (ds:=cL 0 n)
  (λ t Y=>∃(L:List Int) (s2 s3 s4:Slot),Y=[.sh (owD n ps),.ow (.lst (L.map .int)),s2,s3,s4]/\Lb n (dbl ps) L/\Rd1 n (dbl ps) t L)
  (by
   rintro i d Y hd ⟨L,s2,s3,s4,rfl,B,hR⟩;obtain⟨rfl,hlt⟩:=jY hd;obtain⟨L',s3',s4',e,B',k1,k2⟩:=zA (w:=.sh (owD n ps)) (s2:=.sh (.int (0+(i:Int)))) hpr ps L s3 s4 (λ _ h=>h) B;refine⟨[.sh (owD n ps),.ow (.lst (L'.map .int)),.sh (.int (0+(i:Int))),s3',s4'],?_,L',_,_,_,rfl,B',λ l a b h0 h1 P hl=>?_⟩
   .show lsO [.sh (owD n ps),.ow (.lst (L.map .int)),.sh (.int (0+(i:Int))),s3,s4]=_
    have hi:dg (op2 ixD (aB 0) (cD (.int 1))) [.sh (owD n ps),.ow (.lst (L.map .int)),.sh (.int (0+(i:Int))),s3,s4]= .ok (ps.map pD):=by simp[owD]
    rw[lsO,ju,hi,dX,e]
   .match l,P,hl with
    |[],P,_=>cases P.hd
    |[x],P,_=>
     have e1:=P.hd;have e2:=P.lt;cases e1;cases e2;exact(B'.cn a h0 h1).2.1
    |x::y::r,P,hl=>
     have e1:=P.hd;cases e1;obtain⟨q1,q2⟩:=aFh hin P.al;have hy:=hR (y::r) y b q2.1 q2.2 ⟨rfl,by have:=P.lt;simpa using this,by have:=P.al;rw[dR,zAE]at this;exact this.2⟩ (by simp at hl ⊢;lia)
     have:gL L' a<=gL L y:=by
      rcases bz.mp q1 with z|z
      .exact(k2 _ z).1
      .exact(k2 _ z).2
     lia)
  (Y:=[.sh (owD n ps),.ow (.lst ((upI n).map .int)),.no,.no,.no]) ⟨upI n,.no,.no,.no,rfl,⟨eQ n,λ x h0 h1=>by rw[g0 x h0 h1];exact⟨.refl,zDf _,h0⟩⟩,λ l a b h0 h1 P hl=>by
   rw[g0 a h0 h1]
   match l,P,hl with
   |[],P,_=>cases P.hd
   |[x],P,_=>
    have e1:=P.hd;have e2:=P.lt;cases e1;cases e2;exact zDf _
   |x::y::r,P,hl=>simp at hl⟩
 refine⟨L,s2,s3,s4,e,B,λ a h0 h1 b hc=>?_⟩;obtain⟨l,P,nd⟩:=hc.path;refine hR l a b h0 h1 P ?_;have iX:∀x∈l,x∈upI n:=λ x hx=>by
  cases l with
  |nil=>cases hx
  |cons y r=>
   have e1:=P.hd;cases e1;exact gR.mpr ((yo P.al x hx).inn hin ⟨h0,h1⟩)
 have:=sub_len nd iX
 rw[eQ]at this;rw[iC];lia
def xP(h:Ow n ps):gH [owD n ps]= .ok (.lst ((nP n (dbl ps)).map tupI)):=by
 obtain⟨L,s2,s3,s4,e,B,hmin⟩:=aAe h;have hn0:=h.n0;have hn1:=h.n1;have hLl:=B.len;have st:aq 5 [owD n ps]=[.sh (owD n ps),.no,.no,.no,.no]:=rfl;have hlr:=aJf (f:=op2 ixD (aB 0) (cD (.int 0))) (Y:=[.sh (owD n ps),.no,.no,.no,.no]) (n:=n) (by simp[owD]) h.n0 h.n1;have hr:=fj (j:=n) (by lia) (by lia);have hS:sortI (ddI L)=(upI n).filter (jR (dbl ps)):=by
  refine aDW (wB (vX L)) ((vm n).filter _) λ x=>?_
  rw[(sortI_perm _).mem_iff,aBZ,zA5,gR,fJ];constructor
  .intro hx
   obtain⟨i,hi,rfl⟩:=zEI hx;have hg:gL L (i:Int)=L[i]:=by unfold gL;rw[zB8,zA3,zAC hi];rfl
   have c:=B.cn (i:Int) (by lia) (by lia);rw[hg]at c;refine⟨⟨c.2.2,by lia⟩,λ b hb hc=>?_⟩
   have:=hmin (i:Int) (by lia) (by lia) b (c.1.trans hc)
   rwa [hg]at this
  .rintro⟨⟨h0,h1⟩,hl⟩
   have c:=B.cn x h0 h1;have e1:=hl _ c.2.2 c.1;have e2:gL L x=x:=by lia
   rw[<-e2];unfold gL;rw[zA3,zAC (show x.toNat<L.length by lia)];exact zCC _
 have c0:yQ 1 (lrD (op2 ixD (aB 0) (cD (.int 0)))) [.sh (owD n ps),.no,.no,.no,.no]= .nx [.sh (owD n ps),.ow (.lst ((upI n).map .int)),.no,.no,.no]:=by
  rw[aFT,hlr,dX,wQ];rfl
 have c1:j7 (fD gC (aC (op2 ixD (aB 0) (cD (.int 0))) aJ)) (gnm 2) lsO [.sh (owD n ps),.ow (.lst ((upI n).map .int)),.no,.no,.no]= .nx [.sh (owD n ps),.ow (.lst (L.map .int)),s2,s3,s4]:=by
  have hi:fD gC (aC (op2 ixD (aB 0) (cD (.int 0))) aJ) [.sh (owD n ps),.ow (.lst ((upI n).map .int)),.no,.no,.no]= .ok (cL 0 n):=by simp[owD,hr]
  rw[ju,hi,dX,e]
 have c2:lsR [.sh (owD n ps),.ow (.lst (L.map .int)),s2,s3,s4]= .ok (.lst ((nP n (dbl ps)).map tupI)):=by
  have hs:lA [.lst (L.map .int)]= .ok (.lst ((sortI (ddI L)).map .int)):=by
   unfold lA;dsimp only;rw[fK];dsimp only;rw[if_pos (by lia)]
  rw[hS]at hs;refine gU (ds:=((upI n).filter (jR (dbl ps))).map .int) (by simp[shE,kZ,hs]) (by
   rw[zAF]
   have:=zCJ (jR (dbl ps)) (upI n)
   rw[eQ]at this;lia) ?_
  unfold nP;rw[zBC];refine nU _ λ a ha=>⟨[.sh (.int a),.sh (owD n ps),.sh (.lst (L.map .int))],rfl,?_⟩
  obtain⟨ha1,ha2⟩:=zA5.mp ha;have ha0:=gR.mp ha1;rw[fJ]at ha2;have hc:lcD (fD gC (aC (op2 ixD (aB 1) (cD (.int 0))) aJ)) [none,some 2,some 0] (gnm 0) (tsb (op2 (eqR false) (op2 ixD (aB 1) (aB 0)) (aB 2))) (cB (aB 0)) [.sh (.int a),.sh (owD n ps),.sh (.lst (L.map .int))]= .ok (.lst ((aBj n (dbl ps) a).map .int)):=by
   refine gU (ds:=(upI n).map .int) (by rw[<-wQ];simp[shE,kZ,owD,hr]) (by rw[zAF,eQ];lia) ?_;have ef:aBj n (dbl ps) a=(upI n).filter λ b=>gL L b==a:=by
    unfold aBj;refine zE2 λ b hb=>?_
    have hb0:=gR.mp hb;have c:=B.cn b hb0.1 hb0.2;rw[zDm,aBQ,beq_iff_eq];constructor
    .intro hab
     have q1:=ha2 _ c.2.2 (hab.trans c.1);have q2:=hmin b hb0.1 hb0.2 a (hab.symm (xZ ps));lia
    .intro hg
     rw[hg]at c;exact c.1.symm (xZ ps)
   rw[ef];refine jC (upI n) λ b hb=>⟨[.sh (.int b),.sh (.lst (L.map .int)),.sh (.int a)],rfl,?_,?_⟩
   .have hb0:=gR.mp hb
    have:=aBp (L:=L) hb0.1 (by lia)
    simp[this]
   .simp
  rw[lsI,jr,bB,hc];simp[tupI]
 simp only[gH,eE,bL,st];rw[aV,c0,bK,aV,c1,bK,lu,c2];rfl
end
def sW{ps:gX}:sY ps=true↔ps.Pairwise λ p q=>p.1<q.1\/p.1=q.1/\p.2<q.2:=by
 constructor
 .intro h
  have h':=wR.mp h;clear h;induction ps with
  |nil=>exact .nil
  |cons p ps ih=>
   have hs:∀(i:Nat) (p q:Int×Int),ps[i]? =some p->ps[i+1]? =some q->ltP p q=true:=λ i a b e1 e2=>h' (i+1) a b e1 e2
   have hp:=ih hs;refine zBM.mpr ⟨λ q hq=>?_,hp⟩;cases ps with
   |nil=>cases hq
   |cons r rs=>
    have h1:=xN.mp (h' 0 p r rfl rfl);rcases zAX.mp hq with rfl|hq
    .exact h1
    .have h2:=(zBM.mp hp).1 q hq
     lia
 .intro h
  rw[wR];intro i p q e1 e2;rw[xN];obtain⟨h1,rfl⟩:=zAG.mp e1;obtain⟨h2,rfl⟩:=zAG.mp e2;exact zBm.mp h i (i+1) h1 h2 (zC4 i)
section
variable{n:Int}{ps:gX}
def yp(h:Ow n ps):ps.Nodup:=by
 refine(sW.mp h.ris).imp λ{a b} q e=>?_
 subst e;lia
end
theorem aDx{α:Type}[DecidableEq α]:∀{l m:List α},l.Nodup->(∀x∈l,x∈m)->l.length<=m.length
 |[],_,_,_=>zAg _
 |x::l,m,h,hs=>by
  obtain⟨h1,h2⟩:=zAl.mp h;have hx:=hs x zAI
  have:=aDx (m:=m.erase x) h2 λ y hy=>(zFt (λ e:y=x=>h1 (e▸hy))).mpr (hs y (zAK _ hy))
  have hp:=zCj hx;rw[zFU hx]at this;rw[zA6];lia
section
variable{ps:gX}
theorem vY:∀{ps:gX},ps.Nodup->(∀p∈ps,p.1<p.2)->(dbl ps).Nodup
 |[],_,_=>List.nodup_nil
 |p::ps,h,low=>by
  obtain⟨h1,h2⟩:=zAl.mp h;have ih:=vY h2 λ q hq=>low q (zAK _ hq)
  have lp:=low p zAI;have no:∀q∈ps,q≠(p.2,p.1):=λ q hq e=>by
   have:=low q (zAK _ hq)
   rw[e]at this;dsimp only at this;lia
  rw[za];refine zAl.mpr ⟨λ z=>?_,zAl.mpr ⟨λ z=>?_,ih⟩⟩
  .rcases zAX.mp z with e|z
   .have:=congrArg zF7 e
    dsimp only at this;lia
   .rcases bz.mp (show(p.1,p.2)∈dbl ps from z)with z|z
    .exact h1 z
    .exact no _ z rfl
  .rcases bz.mp z with z|z
   .exact no _ z rfl
   .exact h1 z
def vD(h:ps.Nodup)(low:∀p∈ps,p.1<p.2)(a:Int):(bW (dbl ps) a).Nodup:=by
 unfold bW zGb;rw[zE3];refine zHa ?_ ((vY h low).filter _);intro p q hp hq ne e;have e1:p.1=a:=by simpa using(zA5.mp hp).2
 have e2:q.1=a:=by simpa using(zA5.mp hq).2
 exact ne (Prod.ext (e1.trans e2.symm) e)
end
theorem aBa{x:Int}:∀{l:List Int},x∈l->∃j,xW x l=some j/\l[j]? =some x
 |a::l,h=>by
  unfold xW;by_cases c:a=x
  .subst c
   exact⟨0,if_pos rfl,rfl⟩
  .rw[if_neg c]
   obtain⟨j,h1,h2⟩:=aBa ((zAX.mp h).resolve_left λ z=>c z.symm);exact⟨j+1,by rw[h1];rfl,h2⟩
def bH(n:Int)(ws:List Int):List Int:=(upI n).filter λ x=>!decide (x∈ws)
def ixK(ks:List Int)(x:Int):Int:=((xW x ks).getD 0:Nat)
def km(ks:List Int)(p:Int×Int):Bool:=decide (p.1∈ks)&&decide (p.2∈ks)
def iI(ks:List Int)(ps:gX):gX:=(ps.filter (km ks)).map λ p=>(ixK ks p.1,ixK ks p.2)
section
variable{n:Int}{ps:gX}{ws ks:List Int}
def aEP:(bH n ws).Pairwise (·< ·):=(vm n).filter _
def zR(h0:0<=n):((bH n ws).length:Int)<=n:=by
 have:=zCJ (λ x=>!decide (x∈ws)) (upI n)
 rw[eQ]at this;unfold bH;lia
def zT{x:Int}(h:x∈ks):∃j:Nat,xW x ks=some j/\ixK ks x=(j:Int)/\ks[j]? =some x:=by
 obtain⟨j,h1,h2⟩:=aBa h;exact⟨j,h1,by unfold ixK;rw[h1];rfl,h2⟩
def jD(hr:ks.Pairwise (·< ·)){x y:Int}(hx:x∈ks)(hy:y∈ks)(h:x<y):ixK ks x<ixK ks y:=by
 obtain⟨i,_,e1,f1⟩:=zT hx;obtain⟨j,_,e2,f2⟩:=zT hy;rw[e1,e2];have hi:=(zAG.mp f1).1;have hj:=(zAG.mp f2).1;by_cases c:i<j
 .lia
 .exfalso
  have g1:=(zAG.mp f1).2;have g2:=(zAG.mp f2).2;by_cases c2:i=j
  .subst c2
   rw[g1]at g2;lia
  .have:=zBm.mp hr j i hj hi (by lia)
   lia
def aET{x:Int}(h:x∈ks):0<=ixK ks x/\ixK ks x<(ks.length:Int):=by
 obtain⟨j,_,e,f⟩:=zT h
 have:=(zAG.mp f).1
 rw[e];lia
def iH{p:Int×Int}(h:p∈ps.filter (km ks)):p∈ps/\p.1∈ks/\p.2∈ks:=by
 obtain⟨h1,h2⟩:=zA5.mp h;unfold km at h2;rw[zAE,decide_eq_true_eq,decide_eq_true_eq]at h2;exact⟨h1,h2⟩
def aGB(h:Ow n ps)(low:∀p∈ps,p.1<p.2):Ow ((bH n ws).length:Int) (iI (bH n ws) ps)/\∀p∈iI (bH n ws) ps,p.1<p.2:=by
 have hr:=aEP (n:=n) (ws:=ws);have hl:=zR (ws:=ws) h.n0;have hn1:=h.n1;refine⟨⟨by lia,by lia,?_,λ p hp=>?_,?_⟩,λ p hp=>?_⟩
 .unfold iI
  rw[zAF];exact zAd (zCJ _ _) h.len
 .obtain⟨q,hq,rfl⟩:=zAf.mp hp
  obtain⟨h1,h2,h3⟩:=iH hq;have a1:=aET h2;have a2:=aET h3;have a3:=jD hr h2 h3 (low q h1);exact⟨a1.1,a1.2,a2.1,a2.2,by show ixK _ q.1≠ixK _ q.2;lia⟩
 .rw[sW]
  unfold iI;rw[zE3];have hps:=(sW.mp h.ris).filter (km (bH n ws));refine hps.imp_of_mem λ{p q} hp hq hpq=>?_
  obtain⟨_,p1,p2⟩:=iH hp;obtain⟨_,q1,q2⟩:=iH hq;rcases hpq with z|⟨z1,z2⟩
  .exact .inl (jD hr p1 q1 z)
  .exact .inr ⟨by show ixK _ p.1=ixK _ q.1;rw[z1],jD hr p2 q2 z2⟩
 .obtain⟨q,hq,rfl⟩:=zAf.mp hp
  obtain⟨h1,h2,h3⟩:=iH hq;exact jD hr h2 h3 (low q h1)
def aGG{Y:En}{fi:En->Rs (List D)}{js:hZ}(h0:0<=n)(h1:n<=60)(hf:fi (shE Y)= .ok (cL 0 n))(hs:stE js (shE Y)=[.no,.sh (tupI ws)]):
  lcD fi js (gnm 0) (tsb (op2 (inR true) (aB 0) (aB 1))) (cB (aB 0)) Y= .ok (.lst ((bH n ws).map .int)):=by
 rw[wQ]at hf;exact yu (i:=0) (j:=0) hf (.inl hs) (by rw[eQ];lia)
def zO(h:Ow n ps):ie [owD n ps,tupI ws]= .ok (owD ((bH n ws).length:Int) (iI (bH n ws) ps)):=by
 have hn0:=h.n0;have hn1:=h.n1;have hkl:=zR (ws:=ws) hn0;have hps:=h.len;have st:aq 4 [owD n ps,tupI ws]=[.sh (owD n ps),.sh (tupI ws),.no,.no]:=rfl;have hr:=fj (j:=n) (by lia) (by lia);have c0:llK [.sh (owD n ps),.sh (tupI ws),.no,.no]= .ok (.lst ((bH n ws).map .int)):=aGG hn0 hn1 (by simp[shE,kZ,owD,hr]) rfl;have c1:llT [.sh (owD n ps),.sh (tupI ws),.nw (.lst ((bH n ws).map .int)),.no]= .ok (.lst ((ps.filter (km (bH n ws))).map pD)):=by
  refine gU (ds:=ps.map pD) (by simp[shE,kZ,owD]) (by rw[zAF];lia) (jC ps λ p hp=>⟨[.sh (pD p),.sh (.lst ((bH n ws).map .int))],rfl,?_,?_⟩)
  .have i1:=rZ false p.1 (bH n ws)
   have i2:=rZ false p.2 (bH n ws);simp only[aGc,aAE,cg,aFK,aBk,zF4,zDc,aQ,pD,aGI,aJr,aJq,cP,i1,i2,aIo];unfold km;cases decide (p.1∈bH n ws)<;>rfl
  .have:oX (pD p)= .ok (pD p):=rfl
   simp[this]
 have c2:llL [.sh (owD n ps),.sh (tupI ws),.nw (.lst ((bH n ws).map .int)),.nw (.lst ((ps.filter (km (bH n ws))).map pD))]= .ok (.lst ((iI (bH n ws) ps).map pD)):=by
  refine gU (ds:=(ps.filter (km (bH n ws))).map pD) (by simp[shE,kZ]) (by rw[zAF];have:=zCJ (km (bH n ws)) ps;lia) ?_;unfold iI;rw[zBC];refine nU _ λ p hp=>⟨[.sh (.int p.1),.sh (.int p.2),.sh (.lst ((bH n ws).map .int))],?_,?_⟩
  .show gW 2 (az (gnm 0) (az (gnm 1) gZ)) (pD p) [.no,.no,.sh (.lst ((bH n ws).map .int))]=_
   simp[pD]
  .obtain⟨_,h2,h3⟩:=iH hp
   have ixf:∀(x:Int),x∈bH n ws->tZ ((bH n ws).map .int) (.int x)= .ok (.int (ixK (bH n ws) x)):=λ x hx=>by
    obtain⟨j,a1,a2,_⟩:=zT hx;unfold tZ;dsimp only;rw[fK];dsimp only;rw[a1,a2]
   have o1:opL tZ (aB 2) (aB 0) [.sh (.int p.1),.sh (.int p.2),.sh (.lst ((bH n ws).map .int))]= .ok (.int (ixK (bH n ws) p.1)):=by
    show okD (tZ ((bH n ws).map .int) (.int p.1))=_;rw[ixf _ h2];rfl
   have o2:opL tZ (aB 2) (aB 1) [.sh (.int p.1),.sh (.int p.2),.sh (.lst ((bH n ws).map .int))]= .ok (.int (ixK (bH n ws) p.2)):=by
    show okD (tZ ((bH n ws).map .int) (.int p.2))=_;rw[ixf _ h3];rfl
   rw[rG,bB,o1,bB,o2];rfl
 simp only[ie,fO,bL,st];rw[aV,oJ,c0,dX,bK,aV,oJ]
 show(match ((llT [.sh (owD n ps),.sh (tupI ws),.nw (.lst ((bH n ws).map .int)),.no]).bo λ d=>Ou.nx [.sh (owD n ps),.sh (tupI ws),.nw (.lst ((bH n ws).map .int)),.nw d]).sq _ with| .nx _=>Rs.ok D.non| .rt d=>.ok d| .ex c=>.ex c|_=>.st)=_
 rw[c1,dX,bK,lu,rG,bB,bB,jr,jr,bB,bB,c2];simp[owD]
end
def aCL(es ws:List Int):List Int:=ws.filter λ x=>!decide (x∈es)
def sJ(n:Int)(ps:gX)(es ws:List Int):Int:=((nP ((bH n ws).length:Int) (dbl (iI (bH n ws) ps))).length:Int)-((aCL es ws).length:Int)
section
variable{n:Int}{ps:gX}{ws es:List Int}
def aHt{Y:En}{fi:En->Rs (List D)}{js:hZ}(hf:fi (shE Y)= .ok (ws.map .int))(hs:stE js (shE Y)=[.no,.sh (tupI es)])(hl:ws.length<=1000):
  lcD fi js (gnm 0) (tsb (op2 (inR true) (aB 0) (aB 1))) (cB (aB 0)) Y= .ok (.lst ((aCL es ws).map .int)):=
 yu (i:=0) (j:=0) hf (.inl hs) (by lia)
def xO(h:Ow n ps)(low:∀p∈ps,p.1<p.2)(hl:ws.length<=1000):eH [owD n ps,tupI ws,tupI es]= .ok (.int (sJ n ps es ws)):=by
 have st:aq 3 [owD n ps,tupI ws,tupI es]=[.sh (owD n ps),.sh (tupI ws),.sh (tupI es)]:=rfl;have hwo:=zO (ws:=ws) h;obtain⟨h',low'⟩:=aGB (ws:=ws) h low;have hp:=xP h';have lc:lcD (dg (aB 1)) [none,some 2] (gnm 0) (tsb (op2 (inR true) (aB 0) (aB 1))) (cB (aB 0)) [.sh (owD n ps),.sh (tupI ws),.sh (tupI es)]= .ok (.lst ((aCL es ws).map .int)):=aHt (by simp[shE,kZ,tupI]) rfl hl;have r1:opA il (aC (aj gH (aC (aj ie (aC (aB 0) (aC (aB 1) aJ))) aJ)) aJ) [.sh (owD n ps),.sh (tupI ws),.sh (tupI es)]= .ok (.int ((nP ((bH n ws).length:Int) (dbl (iI (bH n ws) ps))).length:Int)):=by simp[hwo,hp]
 have r2:opA il (aC (lcD (dg (aB 1)) [none,some 2] (gnm 0) (tsb (op2 (inR true) (aB 0) (aB 1))) (cB (aB 0))) aJ) [.sh (owD n ps),.sh (tupI ws),.sh (tupI es)]= .ok (.int ((aCL es ws).length:Int)):=by
  rw[jr,bB,lc];simp
 simp only[eH,dw,bL,st];rw[lu,cg,r1,aQ,r2];simp[sJ]
end
def aBr(a b:Nat):zBt (a:Int) (b:Int)=((a&&& b:Nat):Int):=by
 unfold zBt;simp
def aHw(a b:Nat):zEC (a:Int) (b:Int)=((a|||b:Nat):Int):=by
 unfold zEC zBt zG7;have h1:decide (0<= -(a:Int)-1)=false:=by simp;lia
 have h2:decide (0<= -(b:Int)-1)=false:=by simp;lia
 rw[h1,h2];dsimp only;have e1:(-(-(a:Int)-1)-1).toNat=a:=by lia
 have e2:(-(-(b:Int)-1)-1).toNat=b:=by lia
 rw[e1,e2];lia
def aFy(a:Nat)(h:0<a):zBt (a:Int) (-(a:Int))=((a-(a&&& (a-1)):Nat):Int):=by
 unfold zBt zG7;have h1:decide (0<=(a:Int))=true:=by simp
 have h2:decide (0<= -(a:Int))=false:=by simp;lia
 rw[h1,h2];dsimp only;have e1:(-(-(a:Int))-1).toNat=a-1:=by lia
 have e2:(a:Int).toNat=a:=by lia
 rw[e1,e2]
 have:a&&& (a-1)<=a:=Nat.and_le_left
 lia
def aFS(a i:Nat):zBt ((a:Int) / 2^i) 1=if a.testBit i then 1 else 0:=by
 have e:(a:Int) / 2^i=((a / 2^i:Nat):Int):=by push_cast;rfl
 rw[e,show(1:Int)=((1:Nat):Int)from rfl,aBr,Nat.and_one_is_mod,<-zFV]
 have:a.testBit i=decide ((a>>>i)%2=1):=by
  rw[zCk,zFV]
 rw[this];by_cases c:(a>>>i)%2=1
 .simp[c]
 .have:(a>>>i)%2=0:=by lia
  simp[this]
def aG9{a i:Nat}(h:a.testBit i=true):i<rC (a:Int):=by
 unfold rC;have h1:=zBn h;have h0:a≠0:=λ z=>by rw[z]at h;simp at h
 have:((a:Int)==0)=false:=by simp;exact h0
 rw[this,zG8]
 have:=(Nat.le_log2 h0).mpr h1
 simp;lia
def aEx{a:Nat}(h:a≠0):∃i,rC (a:Int)=i+1/\a.testBit i=true:=by
 refine⟨a.log2,?_,?_⟩
 .unfold rC
  have:((a:Int)==0)=false:=by simp;exact h
  rw[this,zG8];simp
 .rw[zCk]
  have h1:=Nat.log2_self_le h;have h2:=Nat.lt_log2_self (n:=a);have h3:a / 2^a.log2=1:=by
   refine Nat.div_eq_of_lt_le (by simpa using h1) ?_;rw[zEg]at h2;lia
  rw[h3];rfl
def aIp{a n:Nat}(h:a<2^n):rC (a:Int)<=n:=by
 by_cases h0:a=0
 .subst h0
  exact zAg _
 .obtain⟨i,e,hi⟩:=aEx h0
  rw[e];refine zAt λ z=>?_
  have:=zBn hi
  have h2:2^n<=2^i:=zBA (by decide) (by lia);lia
def aG(n:Int)(g:Nat):List Int:=(upI n).filter λ p=>g.testBit p.toNat
def cu{n:Int}{g:Nat}{x:Int}:x∈aG n g↔(0<=x/\x<n)/\g.testBit x.toNat=true:=by
 unfold aG;rw[zA5,gR]
def lR(n:Int)(g:Nat):(aG n g).Pairwise (·< ·):=(vm n).filter _
def aBN:∀{a b:List Int},a.Pairwise (·< ·)->b.Pairwise (·< ·)->(∀x,x∈a↔x∈b)->a=b:=λ{a b} h1 h2 h=>by
 have p:a.Perm b:=(zEz (zCU.mpr (h1.imp λ z=>by lia)) (zCU.mpr (h2.imp λ z=>by lia))).mpr h;exact zEY p (h1.imp λ z=>Int.le_of_lt z) (h2.imp λ z=>Int.le_of_lt z)
def wX{n:Int}{g:Nat}(h0:0<=n)(h1:n<=60)(hg:g<2^n.toNat):gG [.int (g:Int)]= .ok (.lst ((aG n g).map .int)):=by
 have st:aq 1 [.int (g:Int)]=[.sh (.int (g:Int))]:=rfl;have hb:=aIp hg;have hr:=fj (j:=(rC (g:Int):Nat)) (by lia) (by lia);have e1:aG n g=(upI (rC (g:Int):Nat)).filter λ p=>g.testBit p.toNat:=aBN (lR n g) ((vm _).filter _) λ x=>by
  rw[cu,zA5,gR];constructor
  .rintro⟨⟨a,b⟩,c⟩
   exact⟨⟨a,by have:=aG9 c;lia⟩,c⟩
  .rintro⟨⟨a,b⟩,c⟩
   exact⟨⟨a,by lia⟩,c⟩
 have hlc:lcD (fD gC (aC (aAs (aB 0)) aJ)) [none,some 0] (gnm 0) (tst (op2 m8 (op2 aDM (aB 1) (aB 0)) (cD (.int 1)))) (cB (aB 0)) [.sh (.int (g:Int))]= .ok (.lst ((aG n g).map .int)):=by
  rw[e1];refine gU (ds:=(upI (rC (g:Int):Nat)).map .int) ?_ (by rw[zAF,eQ];lia) (jC _ λ p hp=>⟨[.sh (.int p),.sh (.int (g:Int))],rfl,?_,rfl⟩)
  .have:aAs (aB 0) (shE [.sh (.int (g:Int))])= .ok (.int (rC (g:Int):Nat)):=rfl
   rw[wQ]at hr;simp[this,hr]
  .obtain⟨a,b⟩:=gR.mp hp
   have e2:=aFS g p.toNat;have e3:aDM (.int (g:Int)) (.int p)= .ok (.int ((g:Int) / 2^p.toNat)):=by simp[aDM,i2,a]
   have e4:m8 (.int ((g:Int) / 2^p.toNat)) (.int 1)= .ok (.int (if g.testBit p.toNat then 1 else 0)):=by
    rw[<-e2];rfl
   cases c:g.testBit p.toNat<;>rw[c]at e4<;>simp[e3,e4,tst]
 simp only[gG,du,bL,st];simp[hlc]
def qJ{a i:Nat}(h:a.testBit i=true):2^i<=a/\∀j,(a-2^i).testBit j=(a.testBit j&&decide (j≠i)):=by
 refine⟨zBn h,λ j=>?_⟩;have hq:a / 2^i%2=1:=by rw[zCk]at h;simpa using h
 have hr:a%2^i<2^i:=zDM _ (zBa i);have e:=Nat.div_add_mod a (2^i);generalize a / 2^i=q at e hq;generalize a%2^i=r at e hr;obtain⟨k,rfl⟩:∃k,q=2*k+1:=⟨q / 2,by lia⟩
 have e2:a-2^i=2^i*(2*k)+r:=by
  rw[<-e,zGS,zGT];lia
 rw[e2,<-e,zB9 _ hr,zB9 _ hr];by_cases c:j<i
 .rw[if_pos c,if_pos c]
  have:j≠i:=by lia
  simp[this]
 .rw[if_neg c,if_neg c]
  by_cases c2:j=i
  .subst c2
   simp[zEn]
  .obtain⟨m,hm⟩:∃m,j-i=m+1:=⟨j-i-1,by lia⟩
   rw[hm,zDh,zDh,show 2*k / 2=(2*k+1) / 2 by lia];simp[c2]
def low_split:∀a:Nat,0<a->∃i k,a=2^i*(2*k+1):=by
 intro a;induction a using Nat.strongRecOn with
 |_ a ih=>
  intro h;by_cases c:a%2=1
  .exact⟨0,a / 2,by lia⟩
  .obtain⟨i,k,e⟩:=ih (a / 2) (by lia) (by lia)
   refine⟨i+1,k,?_⟩;rw[zEg,zFw (2^i) 2,Nat.mul_assoc,<-e];lia
def aFz{a:Nat}(h:0<a):∃i,a-(a&&& (a-1))=2^i/\a.testBit i=true/\∀j,j<i->a.testBit j=false:=by
 obtain⟨i,k,e⟩:=low_split a h;have hp:=zBa i;have b1:∀j,a.testBit j=if j<i then false else(2*k+1).testBit (j-i):=λ j=>by
  have:=zB9 (2*k+1) hp j
  rw[Nat.add_zero,<-e]at this;rw[this];simp
 have e1:a-1=2^i*(2*k)+(2^i-1):=by rw[e,zGS,zGT];lia
 have b2:∀j,(a-1).testBit j=if j<i then(2^i-1).testBit j else(2*k).testBit (j-i):=λ j=>by
  rw[e1];exact zB9 (2*k) (by lia) j
 have b3:a&&& (a-1)=2^i*(2*k):=Nat.eq_of_testBit_eq λ j=>by
  have h3:=zB9 (2*k) hp j;rw[Nat.add_zero]at h3;rw[zHO,b1,b2,h3];by_cases c:j<i
  .simp[c]
  .rw[if_neg c,if_neg c,if_neg c]
   cases hm:j-i with
   |zero=>simp[zEn]
   |succ m=>rw[zDh,zDh,show(2*k+1) / 2=2*k / 2 by lia,Bool.and_self]
 refine⟨i,?_,?_,λ j hj=>?_⟩
 .rw[b3,e,zGS,zGT]
  lia
 .rw[b1,if_neg (zBV i),zDw]
  simp[zEn]
 .rw[b1,if_pos hj]
abbrev pcE(M:List Nat)(u found left ahead:Nat)(s5:Slot):En:=[.sh (.lst (M.map λ m:Nat=>D.int (m:Int))),.sh (.int (u:Int)),.sh (.int (found:Int)),.sh (.int (left:Int)),.sh (.int (ahead:Int)),s5]
def aBt(n:Int)(es:gX)(M:List Nat):Prop:=∀i:Nat,(i:Int)<n->∃m,M[i]? =some m/\∀j:Nat,m.testBit j=true↔((i:Int),(j:Int))∈es
def inU(es:gX)(u:Nat):gX:=es.filter λ e=>u.testBit e.1.toNat&&u.testBit e.2.toNat
structure Ji(es:gX)(u L0 p0 left ahead:Nat):Prop where
 sub:∀j,ahead.testBit j=true->left.testBit j=true
 sb:∀j,left.testBit j=true->L0.testBit j=true
 v:∀j,L0.testBit j=true->left.testBit j=false->Cn (inU es u) (p0:Int) (j:Int)
 a:∀j,ahead.testBit j=true->Cn (inU es u) (p0:Int) (j:Int)
 cl:∀i j,L0.testBit i=true->left.testBit i=false->L0.testBit j=true->((i:Int),(j:Int))∈es->left.testBit j=false\/ahead.testBit j=true
 st:left.testBit p0=false\/ahead.testBit p0=true
def rR{es:gX}{u i j:Nat}:((i:Int),(j:Int))∈inU es u↔((i:Int),(j:Int))∈es/\u.testBit i=true/\u.testBit j=true:=by
 unfold inU;rw[zA5,zAE];rfl
theorem Ji.step{es:gX}{u L0 p0 left ahead i m:Nat}(J:Ji es u L0 p0 left ahead)(hu:∀j,L0.testBit j=true->u.testBit j=true)(hi:ahead.testBit i=true)(hm:∀j:Nat,m.testBit j=true↔((i:Int),(j:Int))∈es):
  Ji es u L0 p0 (left-2^i) ((ahead|||m)&&& (left-2^i)):=by
 have hl:=J.sub i hi;obtain⟨_,hb⟩:=qJ hl;have ha:∀j,((ahead|||m)&&& (left-2^i)).testBit j=((ahead.testBit j||m.testBit j)&&(left.testBit j&&decide (j≠i))):=λ j=>by rw[zHO,Nat.testBit_or,hb]
 refine⟨λ j h=>?_,λ j h=>?_,λ j h1 h2=>?_,λ j h=>?_,λ x y h1 h2 h3 h4=>?_,?_⟩
 .rw[ha,zAE]at h
  rw[hb];exact h.2
 .rw[hb,zAE]at h
  exact J.sb j h.1
 .rw[hb]at h2
  by_cases c:j=i
  .subst c
   exact J.a j hi
  .exact J.v j h1 (by simpa[c]using h2)
 .rw[ha,zAE,zDJ,zAE]at h
  rcases h.1 with z|z
  .exact J.a j z
  .exact(J.a i hi).step (rR.mpr ⟨(hm j).mp z,hu i (J.sb i hl),hu j (J.sb j h.2.1)⟩)
 .rw[hb]at h2
  rw[hb,ha];by_cases cy:y=i
  .left;simp[cy]
  .by_cases cx:x=i
   .subst cx
    have:=(hm y).mpr h4
    cases left.testBit y<;>simp[this,cy]
   .rcases J.cl x y h1 (by simpa[cx]using h2) h3 h4 with z|z
    .left;simp[z]
    .right;simp[z,J.sub y z,cy]
 .rw[hb,ha]
  by_cases c:p0=i
  .left;simp[c]
  .rcases J.st with z|z
   .left;simp[z]
   .right;simp[z,J.sub _ z,c]
def Ji.done{es:gX}{u L0 p0 left:Nat}(J:Ji es u L0 p0 left 0)(h0:L0.testBit p0=true)(hcl:∀i j,L0.testBit i=true->u.testBit j=true->((i:Int),(j:Int))∈es->L0.testBit j=true)
  (hin:∀x y,(x,y)∈es->0<=x/\0<=y)(j:Nat)(hj:L0.testBit j=true):left.testBit j=false↔Cn (inU es u) (p0:Int) (j:Int):=by
 refine⟨J.v j hj,λ h=>?_⟩;have go:∀y,Cn (inU es u) (p0:Int) y->0<=y/\L0.testBit y.toNat=true/\left.testBit y.toNat=false:=λ y hy=>by
  induction hy with
  |refl=>
   refine⟨by lia,by simpa using h0,?_⟩;rcases J.st with z|z
   .simpa using z
   .simp at z
  |@step b c _ e ih=>
   obtain⟨b0,b1,b2⟩:=ih;have he:=(zA5.mp e).1;have c0:=(hin _ _ he).2;obtain⟨i,rfl⟩:=zBw b0;obtain⟨k,rfl⟩:=zBw c0;obtain⟨h1,h2,h3⟩:=rR.mp e;rw[zB8]at b1 b2 ⊢;have h4:=hcl i k b1 h3 h1;refine⟨c0,h4,?_⟩;rcases J.cl i k b1 b2 h4 h1 with z|z
   .exact z
   .simp at z
 simpa using(go _ h).2.2
def aGa{M:List Nat}{i m:Nat}(h:M[i]? =some m)(hl:M.length<=60):atD (M.map λ m:Nat=>D.int (m:Int)) (i:Int)= .ok (.int (m:Int)):=by
 have hi:=(zAG.mp h).1;have h1:ixN (M.map λ m:Nat=>D.int (m:Int)).length (i:Int)=some i:=by
  unfold ixN;rw[zAF];simp;lia
 unfold atD atI;rw[h1];simp[h]
def aEw{u i:Nat}{n:Int}(h:u<2^n.toNat)(hi:u.testBit i=true):(i:Int)<n:=by
 have h1:=zBn hi;refine zAt λ z=>?_
 have h2:2^n.toNat<=2^i:=zBA (by decide) (by lia);lia
def aHs{es:gX}{n:Int}{M:List Nat}{u L0 p0 found left ahead:Nat}{s5:Slot}(hn:n<=12)(N:aBt n es M)(hM:M.length<=60)(hL:L0<2^n.toNat)(hu:∀j,L0.testBit j=true->u.testBit j=true)(J:Ji es u L0 p0 left ahead)(h0:ahead≠0):
  ∃i left' ahead',pcB (pcE M u found left ahead s5)= .nx (pcE M u found left' ahead' (.sh (.int (i:Nat))))/\left'<left/\Ji es u L0 p0 left' ahead':=by
 obtain⟨i,e1,hi⟩:=aEx h0;have hl:=J.sub i hi;have hin:=aEw hL (J.sb i hl);obtain⟨m,hm,hb⟩:=N i hin;have hle:=(qJ hl).1;have hp:=zBa i;refine⟨i,left-2^i,(ahead|||m)&&& (left-2^i),?_,by lia,J.step hu hi hb⟩;have c1:dN 5 (op2 jN (aAs (aB 4)) (cD (.int 1))) (pcE M u found left ahead s5)= .nx (pcE M u found left ahead (.sh (.int (i:Nat)))):=by
  have:aAs (aB 4) (pcE M u found left ahead s5)= .ok (.int ((i+1:Nat):Int)):=by rw[<-e1];rfl
  have e2:jN (.int ((i+1:Nat):Int)) (.int 1)= .ok (.int (i:Nat)):=by
   show Rs.ok (D.int (((i+1:Nat):Int)-1))=_;congr 2;lia
  rw[lr,cg,this,aQ,aBk,aQ,e2];rfl
 have c2:aEz (i2 (λ _ _=>true) λ a b=>.int (a-b)) 3 (op2 pG (cD (.int 1)) (aB 5)) (pcE M u found left ahead (.sh (.int (i:Nat))))= .nx (pcE M u found (left-2^i) ahead (.sh (.int (i:Nat)))):=by
  have e2:pG (.int 1) (.int (i:Nat))= .ok (.int ((2^i:Nat):Int)):=by
   have hc:(decide (0<=(i:Int))&&decide ((i:Int)<=1000000)&&decide ((1:Int).natAbs<2^64))=true:=by
    rw[zAE,zAE,decide_eq_true_eq,decide_eq_true_eq];exact⟨⟨by lia,by lia⟩,by decide⟩
   unfold pG i2;dsimp only;rw[if_pos hc];simp
  have e3:i2 (λ _ _=>true) (λ a b=>D.int (a-b)) (.int (left:Int)) (.int ((2^i:Nat):Int))= .ok (.int ((left-2^i:Nat):Int)):=by
   show Rs.ok (D.int ((left:Int)-((2^i:Nat):Int)))=_;congr 2;lia
  have e4:op2 pG (cD (.int 1)) (aB 5) (pcE M u found left ahead (.sh (.int (i:Nat))))= .ok (.int ((2^i:Nat):Int)):=by
   rw[cg,aBk,aQ]
   show(Rs.ok (D.int (i:Nat))).bd _=_
   rw[aQ,e2,cP]
  unfold aEz;rw[cg]
  show(((Rs.ok (D.int (left:Int))).bd _).bo _)=_
  rw[aQ,e4,aQ,e3,cP,dX];rfl
 have c3:dN 4 (op2 m8 (op2 aEu (aB 4) (op2 ixD (aB 0) (aB 5))) (aB 3)) (pcE M u found (left-2^i) ahead (.sh (.int (i:Nat))))= .nx (pcE M u found (left-2^i) ((ahead|||m)&&& (left-2^i)) (.sh (.int (i:Nat)))):=by
  have e2:aEu (.int (ahead:Int)) (.int (m:Int))= .ok (.int ((ahead|||m:Nat):Int)):=by rw[<-aHw];rfl
  have e3:m8 (.int ((ahead|||m:Nat):Int)) (.int ((left-2^i:Nat):Int))= .ok (.int (((ahead|||m)&&& (left-2^i):Nat):Int)):=by rw[<-aBr];rfl
  have e4:op2 ixD (aB 0) (aB 5) (pcE M u found (left-2^i) ahead (.sh (.int (i:Nat))))= .ok (.int (m:Int)):=by
   have:=aGa hm hM
   simp[this]
  have e5:op2 aEu (aB 4) (op2 ixD (aB 0) (aB 5)) (pcE M u found (left-2^i) ahead (.sh (.int (i:Nat))))= .ok (.int ((ahead|||m:Nat):Int)):=by
   rw[cg]
   show((Rs.ok (D.int (ahead:Int))).bd _)=_
   rw[aQ,e4,aQ,e2,cP]
  rw[lr,cg,e5,aQ]
  show((((Rs.ok (D.int ((left-2^i:Nat):Int))).bd _)).bo _)=_
  rw[aQ,e3,cP,dX];rfl
 rw[pcB,aV,c1,bK,aV,c2,bK,c3]
def lQ(n:Int)(es:gX)(u left:Nat):Nat:=((aG n left).filter (jR (inU es u))).length
def aHr{es:gX}{n:Int}{M:List Nat}{u found L0:Nat}{s5:Slot}{s4:Slot}(hn:n<=12)(N:aBt n es M)(hM:M.length<=60)(hL:L0<2^n.toNat)(hu:∀j,L0.testBit j=true->u.testBit j=true)
  (S:Sym es)(hin:∀x y,(x,y)∈es->0<=x/\0<=y)(hcl:∀i j,L0.testBit i=true->u.testBit j=true->((i:Int),(j:Int))∈es->L0.testBit j=true)(h0:L0≠0):
  ∃(left':Nat) (t4 t5:Slot),pcW [.sh (.lst (M.map λ m:Nat=>D.int (m:Int))),.sh (.int (u:Int)),.sh (.int (found:Int)),.sh (.int (L0:Int)),s4,s5]= .nx [.sh (.lst (M.map λ m:Nat=>D.int (m:Int))),.sh (.int (u:Int)),.sh (.int ((found+1:Nat):Int)),.sh (.int (left':Int)),t4,t5]/\left'<L0/\
   ∃p0:Nat,L0.testBit p0=true/\(∀j,j<p0->L0.testBit j=false)/\(∀j,left'.testBit j=true->L0.testBit j=true)/\∀j,L0.testBit j=true->(left'.testBit j=false↔Cn (inU es u) (p0:Int) (j:Int)):=by
 obtain⟨p0,e0,hp0,hlow⟩:=aFz (a:=L0) (by lia);have c1:dN 4 (op2 m8 (aB 3) (op1 yw (aB 3))) [.sh (.lst (M.map λ m:Nat=>D.int (m:Int))),.sh (.int (u:Int)),.sh (.int (found:Int)),.sh (.int (L0:Int)),s4,s5]= .nx (pcE M u found L0 (2^p0) s5):=by
  have e2:m8 (.int (L0:Int)) (.int (-(L0:Int)))= .ok (.int ((2^p0:Nat):Int)):=by
   rw[<-e0,<-aFy L0 (by lia)];rfl
  rw[lr,cg]
  show(((Rs.ok (D.int (L0:Int))).bd _).bo _)=_
  rw[aQ]
  show((((Rs.ok (D.int (-(L0:Int))))).bd _).bo _)=_
  rw[aQ,e2,cP,dX];rfl
 have J0:Ji es u L0 p0 L0 (2^p0):=by
  have hb:∀j,(2^p0).testBit j=true->j=p0:=λ j h=>by
   rw[Nat.testBit_two_pow]at h;simpa using(of_decide_eq_true h).symm
  refine⟨λ j h=>by rw[hb j h];exact hp0,λ j h=>h,λ j h1 h2=>absurd (h1.symm.trans h2) (by decide),λ j h=>by rw[hb j h];exact .refl,λ i j h1 h2=>absurd (h1.symm.trans h2) (by decide),.inr (by rw[Nat.testBit_two_pow_self])⟩
 have hl12:L0<1000000:=by
  have:2^n.toNat<=2^12:=zBA (by decide) (by lia)
  lia
 obtain⟨Y',m',e',⟨left,ahead,t5,rfl,J,rfl⟩,ht⟩:=yI (c:=tst (aB 4)) (b:=pcB)
  (λ m Y=>∃(left ahead:Nat) (t5:Slot),Y=pcE M u found left ahead t5/\Ji es u L0 p0 left ahead/\m=left)
  (by
   rintro m Y ⟨left,ahead,t5,rfl,J,rfl⟩;by_cases c:ahead=0
   .left;subst c;rfl
   .right
    obtain⟨i,l',a',e,hlt,J'⟩:=aHs (found:=found) (s5:=t5) hn N hM hL hu J c;refine⟨?_,_,l',e,hlt,l',a',_,rfl,J',rfl⟩;simp[c]) (m:=L0) hl12 ⟨L0,2^p0,s5,rfl,J0,rfl⟩
 have ha:ahead=0:=by
  refine zAt λ c=>?_
  simp[c]at ht
 subst ha;have hd:=J.done hp0 hcl hin;refine⟨m',.sh (.int ((0:Nat):Int)),t5,?_,?_,p0,hp0,hlow,J.sb,hd⟩
 .rw[pcW,aV,c1,bK,aV,e',bK]
  rfl
 .have h1:m'.testBit p0=false:=(hd p0 hp0).mpr .refl
  have h2:m'<=L0:=zGv J.sb;rcases Nat.lt_or_eq_of_le h2 with z|z
  .exact z
  .rw[z,hp0]at h1
   cases h1
def Cn.inB{es:gX}{u L:Nat}(hin:∀x y,(x,y)∈es->0<=x/\0<=y)(hcl:∀i j,L.testBit i=true->u.testBit j=true->((i:Int),(j:Int))∈es->L.testBit j=true){a:Nat}(ha:L.testBit a=true){b:Int}(h:Cn (inU es u) (a:Int) b):∃j:Nat,b=(j:Int)/\L.testBit j=true:=by
 induction h with
 |refl=>exact⟨a,rfl,ha⟩
 |@step b c _ e ih=>
  obtain⟨i,rfl,hi⟩:=ih;obtain⟨k,rfl⟩:=zBw (hin _ _ (zA5.mp e).1).2;obtain⟨h1,_,h3⟩:=rR.mp e;exact⟨k,rfl,hcl i k hi h3 h1⟩
def aB7{es:gX}(S:Sym es)(u:Nat):Sym (inU es u):=λ a b h=>by
 unfold inU at h ⊢;rw[zA5,zAE]at h ⊢;exact⟨S _ _ h.1,h.2.2,h.2.1⟩
def aEp{es:gX}{n:Int}{u L0 left p0:Nat}(hL:L0<2^n.toNat)(S:Sym es)(hin:∀x y,(x,y)∈es->0<=x/\0<=y)(hcl:∀i j,L0.testBit i=true->u.testBit j=true->((i:Int),(j:Int))∈es->L0.testBit j=true)
  (h0:L0.testBit p0=true)(hlow:∀j,j<p0->L0.testBit j=false)(sb:∀j,left.testBit j=true->L0.testBit j=true)(hd:∀j,L0.testBit j=true->(left.testBit j=false↔Cn (inU es u) (p0:Int) (j:Int))):lQ n es u L0=lQ n es u left+1:=by
 have SU:=aB7 S u;have nd:∀g,((aG n g).filter (jR (inU es u))).Nodup:=λ g=>(zCU.mpr ((lR n g).imp λ z=>by lia)).filter _
 have hp:((aG n L0).filter (jR (inU es u))).Perm ((p0:Int)::(aG n left).filter (jR (inU es u))):=by
  refine(zEz (nd L0) ?_).mpr λ x=>?_
  .rw[zAl]
   refine⟨λ z=>?_,nd left⟩;have h1:=(cu.mp (zA5.mp z).1).2;rw[zB8,(hd p0 h0).mpr .refl]at h1;cases h1
  .rw[zAX,zA5,zA5,cu,cu]
   constructor
   .rintro⟨⟨⟨x0,x1⟩,x2⟩,xl⟩
    obtain⟨k,rfl⟩:=zBw x0;rw[zB8]at x2 ⊢;cases c:left.testBit k with
    |true=>exact .inr ⟨⟨⟨x0,x1⟩,rfl⟩,xl⟩
    |false=>
     left;have h1:=fJ.mp xl (p0:Int) (by lia) (((hd k x2).mp c).symm SU);refine zAt λ z=>?_
     have:=hlow k (by lia)
     rw[x2]at this;cases this
   .rintro(rfl|⟨⟨⟨x0,x1⟩,x2⟩,xl⟩)
    .refine⟨⟨⟨by lia,aEw hL h0⟩,by rw[zB8];exact h0⟩,fJ.mpr λ b hb hc=>?_⟩
     obtain⟨j,rfl,hj⟩:=hc.inB hin hcl h0;refine zAt λ z=>?_
     have:=hlow j (by lia)
     rw[hj]at this;cases this
    .exact⟨⟨⟨x0,x1⟩,sb _ x2⟩,xl⟩
 unfold lQ;rw[hp.length_eq,zA6]
def pU{es:gX}{n:Int}{M:List Nat}{u:Nat}(hn:n<=12)(N:aBt n es M)(hM:M.length<=60)(hu:u<2^n.toNat)(S:Sym es)(hin:∀x y,(x,y)∈es->0<=x/\0<=y):
  bU [.lst (M.map λ m:Nat=>D.int (m:Int)),.int (u:Int)]= .ok (.int (lQ n es u u:Nat)):=by
 have st:aq 6 [.lst (M.map λ m:Nat=>D.int (m:Int)),.int (u:Int)]=[.sh (.lst (M.map λ m:Nat=>D.int (m:Int))),.sh (.int (u:Int)),.no,.no,.no,.no]:=rfl;have hu12:u<1000000:=by
  have:2^n.toNat<=2^12:=zBA (by decide) (by lia)
  lia
 have SU:=aB7 S u;obtain⟨Y',m',e',⟨left,found,t4,t5,rfl,hlu,hcl,hf,rfl⟩,ht⟩:=yI (c:=tst (aB 3)) (b:=pcW)
  (λ m Y=>∃(left found:Nat) (t4 t5:Slot),Y=[.sh (.lst (M.map λ m:Nat=>D.int (m:Int))),.sh (.int (u:Int)),.sh (.int (found:Int)),.sh (.int (left:Int)),t4,t5]/\(∀j,left.testBit j=true->u.testBit j=true)/\
   (∀i j,left.testBit i=true->u.testBit j=true->((i:Int),(j:Int))∈es->left.testBit j=true)/\found+lQ n es u left=lQ n es u u/\left=m)
  (by
   rintro m Y ⟨left,found,t4,t5,rfl,hlu,hcl,hf,rfl⟩;by_cases c:left=0
   .left;subst c;rfl
   .right
    have hle:=zGv hlu;obtain⟨left',u4,u5,e,hlt,p0,h0,hlow,sb,hd⟩:=aHr (found:=found) (s4:=t4) (s5:=t5) hn N hM (show left<2^n.toNat by lia) hlu S hin hcl c;refine⟨by simp[c],_,left',e,hlt,left',found+1,u4,u5,rfl,λ j h=>hlu j (sb j h),λ i j h1 h2 h3=>?_,?_,rfl⟩
    .have hj:=hcl i j (sb i h1) h2 h3
     cases cj:left'.testBit j with
     |true=>rfl
     |false=>
      have hc:=((hd j hj).mp cj).step (rR.mpr ⟨S _ _ h3,h2,hlu i (sb i h1)⟩)
      have:=(hd i (sb i h1)).mpr hc
      rw[h1]at this;cases this
    .have:=aEp (show left<2^n.toNat by lia) S hin hcl h0 hlow sb hd
     lia) (m:=u) (Y:=[.sh (.lst (M.map λ m:Nat=>D.int (m:Int))),.sh (.int (u:Int)),.sh (.int ((0:Nat):Int)),.sh (.int (u:Int)),.no,.no]) hu12 ⟨u,0,.no,.no,rfl,λ j h=>h,λ i j _ h _=>h,by lia,rfl⟩
 have hl:left=0:=by
  refine zAt λ c=>?_
  simp[c]at ht
 subst hl;have hz:lQ n es u 0=0:=by
  unfold lQ aG;simp
 have hff:found=lQ n es u u:=by lia
 subst hff;simp only[bU,bx,bL,st];have c1:dN 2 (cD (.int 0)) [.sh (.lst (M.map λ m:Nat=>D.int (m:Int))),.sh (.int (u:Int)),.no,.no,.no,.no]= .nx [.sh (.lst (M.map λ m:Nat=>D.int (m:Int))),.sh (.int (u:Int)),.sh (.int ((0:Nat):Int)),.no,.no,.no]:=rfl;have c2:dN 3 (aB 1) [.sh (.lst (M.map λ m:Nat=>D.int (m:Int))),.sh (.int (u:Int)),.sh (.int ((0:Nat):Int)),.no,.no,.no]= .nx [.sh (.lst (M.map λ m:Nat=>D.int (m:Int))),.sh (.int (u:Int)),.sh (.int ((0:Nat):Int)),.sh (.int (u:Int)),.no,.no]:=rfl;rw[aV,c1,bK,aV,c2,bK,aV,e',bK];simp[oX,imm]
def aBm{r a:Nat}(h:r.testBit a=false)(j:Nat):(2^a+r).testBit j=(r.testBit j||decide (j=a)):=by
 have h1:(2^a+r).testBit a=true:=by rw[Nat.testBit_two_pow_add_eq,h];rfl
 have h2:=(qJ h1).2 j;rw[Nat.add_sub_cancel_left]at h2;rw[h2];by_cases c:j=a
 .subst c;simp[h1]
 .simp[c]
def my(l:List Int):Nat:=(l.map λ y=>2^y.toNat).sum
theorem yM:∀{l:List Int},l.Nodup->(∀y∈l,0<=y)->∀j:Nat,(my l).testBit j=decide ((j:Int)∈l)
 |[],_,_,j=>by simp[my]
 |a::l,nd,h0,j=>by
  obtain⟨h1,h2⟩:=zAl.mp nd;have ih:=yM h2 λ y hy=>h0 y (zAK _ hy)
  have ha:=h0 a zAI;obtain⟨k,rfl⟩:=zBw ha;have e:my ((k:Int)::l)=2^k+my l:=by simp[my]
  rw[e,aBm (by rw[ih k];simpa using h1),ih j];by_cases c:j=k
  .subst c;simp
  .have:¬(j:Int)=(k:Int):=by lia
   simp[c,this]
def aCP{n:Int}{ps:gX}{Y:En}(O:Ow n ps)(low:∀p∈ps,p.1<p.2)(hY:Y[0]? =some (.sh (owD n ps))):nrE Y= .ok (.lst (((upI n).map λ i=>my (bW (dbl ps) i)).map λ m:Nat=>D.int (m:Int))):=by
 obtain⟨ll,e,N,item⟩:=yE O;have hn0:=O.n0;have hn1:=O.n1;have el:ll=(upI n).map λ i=>(bW (dbl ps) i).map D.int:=by
  refine zGc λ k=>?_
  by_cases hk:k<ll.length
  .have hk':=hk
   rw[N.len]at hk';have h1:=item (k:Int) (by lia) (by lia);have h2:=jH (l:=ll.map D.lst) (k:=k) (d:=.lst ll[k]) (by rw[zAL,zAC hk];rfl);rw[h1]at h2;injection h2 with h2
   injection h2 with h2
   rw[zAC hk,<-h2,zAL]
   have:(upI n)[k]? =some (k:Int):=by
    unfold upI;rw[zAL,zBu hk'];rfl
   rw[this];rfl
  .rw[zBW (by lia),zBW (by rw[zAF,eQ,<-N.len];lia)]
 have hit:dg (aj ik (aC (aB 0) aJ)) (shE Y)= .ok (((upI n).map λ i=>(bW (dbl ps) i).map D.int).map D.lst):=by
  rw[el]at e
  have:(shE Y)[0]? =some (.sh (owD n ps)):=by simp[shE,kZ,hY]
  simp[this,e]
 rw[zBC]at hit;unfold nrE;rw[zBC];refine gU hit (by rw[zAF,eQ];lia) (nU _ λ i hi=>⟨[.sh (.lst ((bW (dbl ps) i).map D.int))],rfl,?_⟩);obtain⟨i0,i1⟩:=gR.mp hi;have hm:∀y∈bW (dbl ps) i,0<=y/\y<n:=λ y hy=>by
  rcases bz.mp (rQ.mp hy)with z|z
  .obtain⟨_,_,c,d,_⟩:=O.pr _ z;exact⟨c,d⟩
  .obtain⟨a,b,_⟩:=O.pr _ z;exact⟨a,b⟩
 have hlc:lcD (dg (aB 0)) [none] (gnm 0) jK (op2 pG (cD (.int 1)) (aB 0)) [.sh (.lst ((bW (dbl ps) i).map D.int))]= .ok (.lst ((bW (dbl ps) i).map λ y=>D.int ((2^y.toNat:Nat):Int))):=by
  refine gU (ds:=(bW (dbl ps) i).map D.int) (by simp[shE,kZ]) (by
   rw[zAF]
   have:=aDx (m:=upI n) (vD (yp O) low i) λ y hy=>gR.mpr (hm y hy)
   rw[eQ]at this;lia) (nU _ λ y hy=>⟨[.sh (.int y)],rfl,?_⟩)
  obtain⟨y0,y1⟩:=hm y hy;have e2:pG (.int 1) (.int y)= .ok (.int ((2^y.toNat:Nat):Int)):=by
   have hc:(decide (0<=y)&&decide (y<=1000000)&&decide ((1:Int).natAbs<2^64))=true:=by
    rw[zAE,zAE,decide_eq_true_eq,decide_eq_true_eq];exact⟨⟨by lia,by lia⟩,by decide⟩
   unfold pG i2;dsimp only;rw[if_pos hc];simp
  simp[e2]
 have hs:jZ (λ ns=>some ns.sum) [.lst ((bW (dbl ps) i).map λ y=>D.int ((2^y.toNat:Nat):Int))]= .ok (.int (my (bW (dbl ps) i):Nat)):=by
  have e1:intsOf ((bW (dbl ps) i).map λ y=>D.int ((2^y.toNat:Nat):Int))=some ((bW (dbl ps) i).map λ y=>((2^y.toNat:Nat):Int)):=by
   rw[show((bW (dbl ps) i).map λ y=>D.int ((2^y.toNat:Nat):Int))=((bW (dbl ps) i).map λ y=>((2^y.toNat:Nat):Int)).map D.int by rw[zBC];rfl];exact fK _
  have e2:∀l:List Int,((l.map λ y=>((2^y.toNat:Nat):Int)).sum)=((my l:Nat):Int):=λ l=>by
   unfold my;induction l with
   |nil=>rfl
   |cons a l ih=>simp only[zA7,List.sum_cons,ih];push_cast;rfl
  unfold jZ;simp only[e1,e2]
 rw[jr,bB,hlc];simp only[aQ,fu,hs,cP];rfl
def near_is{n:Int}{ps:gX}(O:Ow n ps)(low:∀p∈ps,p.1<p.2):aBt n (dbl ps) ((upI n).map λ i=>my (bW (dbl ps) i)):=λ i hi=>by
 refine⟨my (bW (dbl ps) i),?_,λ j=>?_⟩
 .have:(upI n)[i]? =some (i:Int):=by
   unfold upI;rw[zAL,zBu (by lia)];rfl
  rw[zAL,this];rfl
 .rw[yM (vD (yp O) low i) λ y hy=>by
   rcases bz.mp (rQ.mp hy)with z|z
   .exact(O.pr _ z).2.2.1
   .exact(O.pr _ z).1,decide_eq_true_eq,rQ]
section
variable{n:Int}{ps:gX}
def aJH{ks:List Int}(hr:ks.Pairwise (·< ·)):upI (ks.length:Int)=ks.map (ixK ks):=by
 refine zGc λ i=>?_
 by_cases h:i<ks.length
 .have e1:(upI (ks.length:Int))[i]? =some (i:Int):=by
   unfold upI;rw[zAL,zBu (by lia)];rfl
  rw[e1,zAL,zAC h];obtain⟨j,_,e2,e3⟩:=zT (ks:=ks) (x:=ks[i]) (zCC h);obtain⟨hj,e4⟩:=zAG.mp e3
  have:i=j:=by
   rcases zE8 i j with z|z|z
   .have:=zBm.mp hr i j h hj z
    lia
   .exact z
   .have:=zBm.mp hr j i hj h z
    lia
  show some (i:Int)=some (ixK ks ks[i]);rw[e2,this]
 .rw[zBW (by rw[eQ];lia),zBW (by rw[zAF];lia)]
def aGH{ks:List Int}(hr:ks.Pairwise (·< ·)){x y:Int}(hx:x∈ks)(hy:y∈ks)(h:ixK ks x=ixK ks y):x=y:=by
 rcases Int.lt_trichotomy x y with z|z|z
 .have:=jD hr hx hy z
  lia
 .exact z
 .have:=jD hr hy hx z
  lia
def aES{ks:List Int}(hr:ks.Pairwise (·< ·)){x y:Int}(hx:x∈ks)(hy:y∈ks):ixK ks x<=ixK ks y↔x<=y:=by
 constructor
 .intro h
  refine zAt λ z=>?_
  have:=jD hr hy hx (by lia)
  lia
 .intro h
  rcases Int.lt_or_eq_of_le h with z|z
  .have:=jD hr hx hy z
   lia
  .rw[z]
   exact zDf _
def vB{ks:List Int}{x y:Int}:(x,y)∈dbl (iI ks ps)↔∃a b,(a,b)∈dbl ps/\a∈ks/\b∈ks/\x=ixK ks a/\y=ixK ks b:=by
 rw[bz];unfold iI;constructor
 .rintro(h|h)
  .obtain⟨p,hp,e⟩:=zAf.mp h
   obtain⟨h1,h2,h3⟩:=iH hp;cases e;exact⟨p.1,p.2,bz.mpr (.inl h1),h2,h3,rfl,rfl⟩
  .obtain⟨p,hp,e⟩:=zAf.mp h
   obtain⟨h1,h2,h3⟩:=iH hp;cases e;exact⟨p.2,p.1,bz.mpr (.inr h1),h3,h2,rfl,rfl⟩
 .rintro⟨a,b,h,ha,hb,rfl,rfl⟩
  rcases bz.mp h with z|z
  .exact .inl (zAf.mpr ⟨(a,b),zA5.mpr ⟨z,by simp[km,ha,hb]⟩,rfl⟩)
  .exact .inr (zAf.mpr ⟨(b,a),zA5.mpr ⟨z,by simp[km,ha,hb]⟩,rfl⟩)
def aAb(O:Ow n ps){u:Nat}:(nP ((aG n u).length:Int) (dbl (iI (aG n u) ps))).length=lQ n (dbl ps) u u:=by
 have hr:=lR n u;have hm:∀a b,(a,b)∈dbl ps->(0<=a/\a<n)/\(0<=b/\b<n):=λ a b h=>by
  rcases bz.mp h with z|z
  .obtain⟨a,b,c,d,_⟩:=O.pr _ z;exact⟨⟨a,b⟩,c,d⟩
  .obtain⟨a,b,c,d,_⟩:=O.pr _ z;exact⟨⟨c,d⟩,a,b⟩
 have hU:∀a b,(a,b)∈inU (dbl ps) u↔(a,b)∈dbl ps/\a∈aG n u/\b∈aG n u:=λ a b=>by
  unfold inU;rw[zA5,zAE,cu,cu];exact⟨λ h=>⟨h.1,⟨(hm a b h.1).1,h.2.1⟩,(hm a b h.1).2,h.2.2⟩,λ h=>⟨h.1,h.2.1.2,h.2.2.2⟩⟩
 have fw:∀{a b},a∈aG n u->Cn (inU (dbl ps) u) a b->b∈aG n u/\Cn (dbl (iI (aG n u) ps)) (ixK (aG n u) a) (ixK (aG n u) b):=λ{a b} ha h=>by
  induction h with
  |refl=>exact⟨ha,.refl⟩
  |step _ e ih=>
   obtain⟨h1,h2,h3⟩:=(hU _ _).mp e;exact⟨h3,ih.2.step (vB.mpr ⟨_,_,h1,h2,h3,rfl,rfl⟩)⟩
 have bw:∀{a y},a∈aG n u->Cn (dbl (iI (aG n u) ps)) (ixK (aG n u) a) y->∃b,b∈aG n u/\y=ixK (aG n u) b/\Cn (inU (dbl ps) u) a b:=λ{a y} ha h=>by
  induction h with
  |refl=>exact⟨a,ha,rfl,.refl⟩
  |step _ e ih=>
   obtain⟨b,hb,rfl,hc⟩:=ih;obtain⟨a',b',h1,h2,h3,e1,rfl⟩:=vB.mp e;cases aGH hr hb h2 e1;exact⟨b',h3,rfl,hc.step ((hU _ _).mpr ⟨h1,h2,h3⟩)⟩
 unfold nP lQ;rw[zAF,aJH hr,List.filter_map,zAF];refine congrArg zGG (zE2 λ a ha=>?_);show jR (dbl (iI (aG n u) ps)) (ixK (aG n u) a)=_;rw[zDm,fJ,fJ];constructor
 .intro h b hb hc
  obtain⟨h1,h2⟩:=fw ha hc;exact(aES hr ha h1).mp (h _ (aET h1).1 h2)
 .intro h y hy hc
  obtain⟨b,h1,rfl,h2⟩:=bw ha hc;exact(aES hr ha h1).mpr (h b (cu.mp h1).1.1 h2)
def aC3{g:Nat}(hg:g<2^n.toNat):bH n (aG n g)=aG n (2^n.toNat-(g+1)):=by
 unfold bH;refine zE2 λ x hx=>?_
 obtain⟨h0,h1⟩:=gR.mp hx;rw[zEu hg];have h2:x.toNat<n.toNat:=by lia
 have h3:decide (x∈aG n g)=g.testBit x.toNat:=by
  rw[zDm,decide_eq_true_eq,cu];exact⟨λ h=>h.2,λ h=>⟨⟨h0,h1⟩,h⟩⟩
 rw[h3];simp[h2]
def sI(O:Ow n ps){g:Nat}(hg:g<2^n.toNat):sJ n ps [] (aG n g)=(lQ n (dbl ps) (2^n.toNat-(g+1)) (2^n.toNat-(g+1)):Int)-((aG n g).length:Int):=by
 unfold sJ;rw[aC3 hg,aAb O]
 have:aCL [] (aG n g)=aG n g:=by
  unfold aCL;exact zDK.mpr λ x _=>by simp
 rw[this]
end
section
variable{n:Int}
def bits_add{i g:Nat}(hi:(i:Int)<n)(hg:g<2^i):aG n (2^i+g)=aG n g++[(i:Int)]:=by
 have hb:g.testBit i=false:=Nat.testBit_lt_two_pow hg;have hlt:∀x∈aG n g,x<(i:Int):=λ x hx=>by
  obtain⟨⟨h0,_⟩,h⟩:=cu.mp hx;refine zAt λ z=>?_
  have h1:=zBn h;have h2:2^i<=2^x.toNat:=zBA (by decide) (by lia);lia
 refine aBN (lR _ _) (List.pairwise_append.mpr ⟨lR _ _,by simp,λ x hx y hy=>by rw[zBD.mp hy];exact hlt x hx⟩) λ x=>?_
 rw[zBI,zBD,cu,cu,aBm hb,zDJ,decide_eq_true_eq];constructor
 .rintro⟨h1,h2|h2⟩
  .exact .inl ⟨h1,h2⟩
  .exact .inr (by lia)
 .rintro(⟨h1,h2⟩|rfl)
  .exact⟨h1,.inl h2⟩
  .exact⟨⟨by lia,hi⟩,.inr (by lia)⟩
def o9(g:Nat):(aG n g).length<=n.toNat:=by
 have:=zCJ (λ p:Int=>g.testBit p.toNat) (upI n)
 rwa [eQ]at this
def aCE(i:Nat):zAU (2^(i+1))=zAU (2^i)++(zAU (2^i)).map (2^i+·):=by
 rw[zEg,Nat.mul_two,List.range_add]
def aIh{s0:Slot}{k:Int}{ws:List (List Int)}(hw:∀w∈ws,w.length<=60)(hl:ws.length<16777216):evL [s0,.nw (.lst (ws.map tupI)),.sh (.int k)]= .ok (.lst ((ws.map λ w=>w++[k]).map tupI)):=by
 rw[zBC];refine gU (ds:=ws.map tupI) (by simp[shE,kZ]) (by rw[zAF];exact hl) (nU ws λ w h=>⟨[.sh (tupI w),.sh (.int k)],rfl,?_⟩);have h3:=hw w h;have i1:imm (tupI w)=true:=iJ w;have A:cU (tupI w) (.tup [.int k])= .ok (tupI (w++[k])):=by
  show cU (.tup (w.map .int)) (.tup [.int k])=_;rw[aKU (by simp;lia)];simp[tupI]
 have i2:jT (w.map D.int)=true:=iJ w;simp[oX,A,imm,i2]
def xQ(h0:0<=n)(h1:n<=12):gJ [.int n]= .ok (.lst (((zAU (2^n.toNat)).map (aG n)).map tupI)):=by
 have st:aq 3 [.int n]=[.sh (.int n),.no,.no]:=rfl;have b0:aG n 0=[]:=by
  unfold aG;simp
 have c1:qw 1 (ud (aC (bh aJ) aJ)) [.sh (.int n),.no,.no]= .nx [.sh (.int n),.nw (.lst ([[]].map tupI)),.no]:=by simp[tupI]
 have hr:fD gC (aC (aB 0) aJ) [.sh (.int n),.nw (.lst ([[]].map tupI)),.no]= .ok (cL 0 n):=by
  have:=fj (j:=n) (by lia) (by lia)
  simp[this]
 obtain⟨Y',e,s2,rfl⟩:=lO (ds:=cL 0 n) (a:=gnm 2) (u:=qw 1 (op2 cU (pC 1) evL)) (Y:=[.sh (.int n),.nw (.lst ([[]].map tupI)),.no])
  (λ i Y=>∃(s2:Slot),Y=[.sh (.int n),.nw (.lst (((zAU (2^i)).map (aG n)).map tupI)),s2]) (by
   rintro i d Y hd ⟨s2,rfl⟩;obtain⟨rfl,hi⟩:=jY hd;rw[zFr]at hi ⊢;have hle:2^i<=2^12:=zBA (by decide) (by lia);have hw:∀w∈(zAU (2^i)).map (aG n),w.length<=60:=λ w h=>by
    obtain⟨g,_,rfl⟩:=zAf.mp h
    have:=o9 (n:=n) g
    lia
   have hb:((zAU (2^i)).map (aG n)).length<=4096:=by rw[zAF,zBS];exact hle
   have e:=aIh (s0:=.sh (.int n)) (k:=(i:Int)) hw (by lia);have e2:(zAU (2^(i+1))).map (aG n)=(zAU (2^i)).map (aG n)++((zAU (2^i)).map (aG n)).map λ w=>w++[(i:Int)]:=by
    rw[aCE,zBX,zBC,zBC];congr 1;exact zEJ λ g hg=>bits_add hi (zAi.mp hg)
   generalize (zAU (2^i)).map (aG n)=ws at*;refine⟨[.sh (.int n),.nw (.lst ((ws++ws.map λ w=>w++[(i:Int)]).map tupI)),.sh (.int (i:Int))],?_,_,by rw[e2]⟩;rw[aAm,tG];have A:cU (.lst (ws.map tupI)) (.lst ((ws.map λ w=>w++[(i:Int)]).map tupI))= .ok (.lst ((ws++ws.map λ w=>w++[(i:Int)]).map tupI)):=by
    rw[aKV (by simp;lia),zBX]
   rw[oJ,cg];have v:pC 1 [.sh (.int n),.nw (.lst (ws.map tupI)),.sh (.int (i:Int))]= .ok (.lst (ws.map tupI)):=rfl;have e':evL ([.sh (.int n),.nw (.lst (ws.map tupI)),s2].set 2 (.sh (.int (i:Int))))=_:=e;simp only[List.set_cons_succ,List.set_cons_zero]at e' ⊢;rw[v,aQ,e',aQ,A];rfl) ⟨.no,by simp[b0]⟩
 have hW:(cL 0 n).length=n.toNat:=by rw[iC];lia
 rw[hW]at e;simp only[gJ,eF,bL,st];rw[aV,c1,bK,aV,ju,hr,dX,e,bK];simp
end
theorem qt{lt:Nat->Nat->Bool}(irr:∀i,lt i i=false)(tr:∀i j k,lt i j=true->lt j k=true->lt i k=true):∀k i,i<=k->lt i (zBy lt k)=false
 |0,i,h=>by
  rw[show i=0 by lia];exact irr 0
 |k+1,i,h=>by
  have ih:=qt irr tr k;simp only[zBy];by_cases c:lt (k+1) (zBy lt k)=true
  .rw[if_pos c]
   by_cases e:i=k+1
   .rw[e];exact irr _
   .have h1:=ih i (by lia)
    cases h2:lt i (k+1)with
    |false=>rfl
    |true=>rw[tr _ _ _ h2 c]at h1;cases h1
  .rw[if_neg c]
   by_cases e:i=k+1
   .rw[e];simpa using c
   .exact ih i (by lia)
def aBn{α:Type}{f:D->D->Option Bool}{F:α->D}{L:α->α->Bool}{l:List α}(hF:∀x∈l,∀y∈l,f (F x) (F y)=some (L x y))(irr:∀x,L x x=false)(tr:∀x y z,L x y=true->L y z=true->L x z=true)(h0:0<l.length):
  ∃x∈l,uQ f (l.map F)=F x/\∀y∈l,L y x=false:=by
 have hne:l≠[]:=λ z=>by rw[z]at h0;simp at h0
 have hd:∀i,i<l.length->∃x,l[i]? =some x/\(l.map F).getD i .non=F x:=λ i hi=>by
  refine⟨l[i],zAC hi,?_⟩;rw[zA3,zAL,zAC hi];rfl
 let g:Nat->α:=λ i=>l.getD i (l.head hne)
 have hg:∀i,i<l.length->l[i]? =some (g i)/\(l.map F).getD i .non=F (g i):=λ i hi=>by
  obtain⟨x,h1,h2⟩:=hd i hi
  have:g i=x:=by show l.getD i _=x;rw[zA3,h1];rfl
  rw[this];exact⟨h1,h2⟩
 have cS:∀i,i<l.length->g i∈l:=λ i hi=>zAq (hg i hi).1
 have hlt:∀i j,i<l.length->j<l.length->VL.ltI f (l.map F) i j=L (g i) (g j):=λ i j hi hj=>by
  unfold VL.ltI;rw[(hg i hi).2,(hg j hj).2,hF _ (cS i hi) _ (cS j hj)];rfl
 have hab:∀k,k<l.length->zBy (VL.ltI f (l.map F)) k=zBy (λ i j=>L (g i) (g j)) k:=λ k=>by
  induction k with
  |zero=>intro _;rfl
  |succ k ih=>
   intro hk;have ih:=ih (by lia);have hle:=kI (λ i j=>L (g i) (g j)) k;simp only[zBy];rw[ih,hlt (k+1) _ hk (by lia)]
 have hk:l.length-1<l.length:=by lia
 have hb:=hab (l.length-1) hk;have hle:=kI (λ i j=>L (g i) (g j)) (l.length-1);have hbl:zBy (λ i j=>L (g i) (g j)) (l.length-1)<l.length:=by lia
 refine⟨g (zBy (λ i j=>L (g i) (g j)) (l.length-1)),cS _ hbl,?_,λ y hy=>?_⟩
 .unfold uQ
  rw[zAF,hb];exact(hg _ hbl).2
 .obtain⟨i,hi,e⟩:=zEI hy
  have e1:g i=y:=by
   have:=(hg i hi).1
   rw[zAC hi,e]at this;injection this with this
   exact this.symm
  rw[<-e1];exact qt (lt:=λ i j=>L (g i) (g j)) (λ i=>irr _) (λ i j k=>tr _ _ _) (l.length-1) i (by lia)
def nT:List Int->List Int->Bool
 |[],[]=>false
 |[],_::_=>true
 |_::_,[]=>false
 |x::a,y::b=>if x=y then nT a b else decide (x<y)
theorem aB2:∀a b:List Int,tQ (a.map D.int) (b.map D.int)=some (nT a b)
 |[],[]=>rfl
 |[],_::_=>rfl
 |_::_,[]=>rfl
 |x::a,y::b=>by
  rw[zA7,zA7,tQ,nT];by_cases c:x=y
  .subst c
   rw[if_pos (by simp[eqD]),if_pos rfl];exact aB2 a b
  .rw[if_neg (by simp[eqD,c]),if_neg c]
   rfl
def aA6(a b:List Int):lsD (tupI a) (tupI b)=some (nT a b):=aB2 a b
theorem rT:∀a:List Int,nT a a=false
 |[]=>rfl
 |x::a=>by rw[nT,if_pos rfl];exact rT a
theorem aA8:∀a b c:List Int,nT a b=true->nT b c=true->nT a c=true
 |[],[],_,h,_=>by cases h
 |[],_::_,[],_,h=>by cases h
 |[],_::_,_::_,_,_=>rfl
 |_::_,[],_,h,_=>by cases h
 |_::_,_::_,[],_,h=>by cases h
 |x::a,y::b,z::c,h1,h2=>by
  rw[nT]at h1 h2 ⊢;by_cases c1:x=y
  .subst c1
   rw[if_pos rfl]at h1;by_cases c2:x=z
   .rw[if_pos c2]at h2 ⊢
    exact aA8 a b c h1 h2
   .rw[if_neg c2]at h2 ⊢
    exact h2
  .rw[if_neg c1,decide_eq_true_eq]at h1
   by_cases c2:y=z
   .subst c2
    rw[if_neg c1,decide_eq_true_eq];exact h1
   .rw[if_neg c2,decide_eq_true_eq]at h2
    rw[if_neg (by lia),decide_eq_true_eq];lia
theorem zF:∀a b:List Int,nT a b=false->nT b a=false->a=b
 |[],[],_,_=>rfl
 |[],_::_,h,_=>by cases h
 |_::_,[],_,h=>by cases h
 |x::a,y::b,h1,h2=>by
  rw[nT]at h1 h2;by_cases c:x=y
  .subst c
   rw[if_pos rfl]at h1 h2;rw[zF a b h1 h2]
  .rw[if_neg c,decide_eq_false_iff_not]at h1
   rw[if_neg (λ z=>c z.symm),decide_eq_false_iff_not]at h2;lia
def gr(k:Int)(w:List Int):D:=.tup [.int k,tupI w]
def tO(k:Int)(w:List Int)(k':Int)(w':List Int):Bool:=if k=k' then nT w w' else decide (k<k')
def aEE(k k':Int)(w w':List Int):lsD (gr k w) (gr k' w')=some (tO k w k' w'):=by
 unfold gr tO;rw[lsD,tQ];by_cases c:k=k'
 .subst c
  rw[if_pos (by simp[eqD]),if_pos rfl,tQ];split
  .rename_i h
   have:w=w':=by
    have h2:gf (w.map D.int) (w'.map D.int)=true:=h;rw[vQ,decide_eq_true_eq]at h2;exact h2
   rw[this,rT];rfl
  .exact aA6 w w'
 .rw[if_neg (by simp[eqD,c]),if_neg c]
  rfl
def svI(n:Int)(ps:gX)(g:Nat):Int:=sJ n ps [] (aG n g)
def trF(n:Int)(ps:gX)(g:Nat):D:=gr (-svI n ps g) (aG n g)
abbrev bbE(n:Int)(ps:gX)(nr:D)(ts:List D)(s4 s5:Slot):En:=[.sh (owD n ps),.nw nr,.sh (.int ((2^n.toNat-1:Nat):Int)),.ow (.lst ts),s4,s5,.no,.no]
def sub_int(i j:Int):jN (.int i) (.int j)= .ok (.int (i-j)):=rfl
section
variable{n:Int}{ps:gX}
def aIt{ts:List D}{s5:Slot}{g:Nat}(O:Ow n ps)(low:∀p∈ps,p.1<p.2)(hn:n<=12)(hg:g<2^n.toNat)(hl:ts.length<=4096):
  ∃t5,bbB (bbE n ps (.lst (((upI n).map λ i=>my (bW (dbl ps) i)).map λ m:Nat=>D.int (m:Int))) ts (.sh (.int (g:Int))) s5)= .nx (bbE n ps (.lst (((upI n).map λ i=>my (bW (dbl ps) i)).map λ m:Nat=>D.int (m:Int))) (ts++[trF n ps g]) (.sh (.int (g:Int))) t5):=by
 have hn0:=O.n0;have hp:=wX (n:=n) hn0 (by lia) hg;have hb:=o9 (n:=n) g;have hpc:=pU (u:=2^n.toNat-(g+1)) hn (near_is O low) (by rw[zAF,eQ];lia) (by lia) (xZ ps) λ x y h=>by
  rcases bz.mp h with z|z
  .obtain⟨a,b,c,d,_⟩:=O.pr _ z;exact⟨a,c⟩
  .obtain⟨a,b,c,d,_⟩:=O.pr _ z;exact⟨c,a⟩
 have hs:=sI O hg;have i2:jT ((aG n g).map D.int)=true:=iJ _;generalize (((upI n).map λ i=>my (bW (dbl ps) i)).map λ m:Nat=>D.int (m:Int))=nr at hpc ⊢;refine⟨.sh (tupI (aG n g)),?_⟩;have c1:dN 5 (opA jL (aC (aj gG (aC (aB 4) aJ)) aJ)) (bbE n ps (.lst nr) ts (.sh (.int (g:Int))) s5)= .nx (bbE n ps (.lst nr) ts (.sh (.int (g:Int))) (.sh (tupI (aG n g)))):=by
  simp[hp,tupI]
 have e1:op2 jN (aB 2) (aB 4) (bbE n ps (.lst nr) ts (.sh (.int (g:Int))) (.sh (tupI (aG n g))))= .ok (.int ((2^n.toNat-(g+1):Nat):Int)):=by
  have:jN (.int ((2^n.toNat-1:Nat):Int)) (.int (g:Int))= .ok (.int ((2^n.toNat-(g+1):Nat):Int)):=by
   have q:((2^n.toNat-1:Nat):Int)-(g:Int)=((2^n.toNat-(g+1):Nat):Int):=by
    generalize 2^n.toNat=N at hg;lia
   rw[sub_int,q]
  rw[cg]
  show((Rs.ok (D.int ((2^n.toNat-1:Nat):Int))).bd λ x=>(Rs.ok (D.int (g:Int))).bd λ y=>okD (jN x y))=_
  rw[aQ,aQ,this,cP]
 have e2:aj bU (aC (pC 1) (aC (op2 jN (aB 2) (aB 4)) aJ)) (bbE n ps (.lst nr) ts (.sh (.int (g:Int))) (.sh (tupI (aG n g))))= .ok (.int (lQ n (dbl ps) (2^n.toNat-(g+1)) (2^n.toNat-(g+1)):Nat)):=by
  rw[o7,bB]
  show((Rs.ok (D.lst nr)).bd _).bd _=_
  rw[aQ,bB,e1,aQ,fu,aQ,aQ,aQ,hpc]
 have e3:opA il (aC (aB 5) aJ) (bbE n ps (.lst nr) ts (.sh (.int (g:Int))) (.sh (tupI (aG n g))))= .ok (.int ((aG n g).length:Nat)):=by
  simp[tupI]
 have e4:bh (aC (op2 jN (opA il (aC (aB 5) aJ)) (aj bU (aC (pC 1) (aC (op2 jN (aB 2) (aB 4)) aJ)))) (aC (cB (aB 5)) aJ)) (bbE n ps (.lst nr) ts (.sh (.int (g:Int))) (.sh (tupI (aG n g))))= .ok (trF n ps g):=by
  have e5:op2 jN (opA il (aC (aB 5) aJ)) (aj bU (aC (pC 1) (aC (op2 jN (aB 2) (aB 4)) aJ))) (bbE n ps (.lst nr) ts (.sh (.int (g:Int))) (.sh (tupI (aG n g))))= .ok (.int (-svI n ps g)):=by
   have:jN (.int ((aG n g).length:Nat)) (.int (lQ n (dbl ps) (2^n.toNat-(g+1)) (2^n.toNat-(g+1)):Nat))= .ok (.int (-svI n ps g)):=by
    rw[sub_int];unfold svI;rw[hs];generalize (lQ n (dbl ps) (2^n.toNat-(g+1)) (2^n.toNat-(g+1)))=c;rw[Int.neg_sub]
   rw[cg,e3,aQ,e2,aQ,this,cP]
  have e6:cB (aB 5) (bbE n ps (.lst nr) ts (.sh (.int (g:Int))) (.sh (tupI (aG n g))))= .ok (tupI (aG n g)):=by
   simp[oX,imm,tupI,i2]
  rw[rG,bB,e5,aQ,bB,e6,aQ,fu,aQ,aQ,aQ];rfl
 rw[bbB,aV,c1,bK]
 show((bh _ _).bo λ d=>if ts.length<zAY then .nx [.sh (owD n ps),.nw (.lst nr),.sh (.int ((2^n.toNat-1:Nat):Int)),.ow (.lst (ts++[d])),.sh (.int (g:Int)),.sh (tupI (aG n g)),.no,.no]else .st)=_
 rw[e4,dX,if_pos (by rw[szl];lia)]
end
def add_int(i j:Int):cU (.int i) (.int j)= .ok (.int (i+j)):=rfl
section
variable{n:Int}{ps:gX}
def El.tr(k:Int)(w:List Int):El 2 (gr k w):=.tup λ d hd=>by
 simp only[zAX,zBh,or_false]at hd;rcases hd with rfl|rfl
 .exact .int
 .exact .tup El.ints
def aEy{l:List Nat}(h:0<l.length):∃g∈l,jG lsD [.lst (l.map (trF n ps))]= .ok (trF n ps g)/\∀g'∈l,tO (-svI n ps g') (aG n g') (-svI n ps g) (aG n g)=false:=by
 have E:∀d∈l.map (trF n ps),El 2 d:=λ d hd=>by
  obtain⟨q,_,rfl⟩:=zAf.mp hd;exact .tr _ _
 have C:Cmp lsD (l.map (trF n ps)):=⟨by simpa using h,rm λ d hd=>(E d hd).i,mC λ d hd=>(E d hd).n,zAd (oY λ d hd=>(E d hd).e) (by decide),λ x hx y hy=>by
  obtain⟨a,_,rfl⟩:=zAf.mp hx;obtain⟨b,_,rfl⟩:=zAf.mp hy;unfold trF;rw[aEE];rfl⟩
 obtain⟨g,hg,e,hm⟩:=aBn (f:=lsD) (F:=trF n ps) (L:=λ a b=>tO (-svI n ps a) (aG n a) (-svI n ps b) (aG n b)) (l:=l) (λ x _ y _=>aEE _ _ _ _) (λ x=>by unfold tO;rw[if_pos rfl];exact rT _) (λ x y z h1 h2=>by
  unfold tO at h1 h2 ⊢;by_cases c1: -svI n ps x= -svI n ps y
  .rw[if_pos c1]at h1
   by_cases c2: -svI n ps y= -svI n ps z
   .rw[if_pos c2]at h2
    rw[if_pos (c1.trans c2)];exact aA8 _ _ _ h1 h2
   .rw[if_neg c2]at h2
    rw[c1,if_neg c2];exact h2
  .rw[if_neg c1,decide_eq_true_eq]at h1
   by_cases c2: -svI n ps y= -svI n ps z
   .rw[<-c2,if_neg c1,decide_eq_true_eq]
    exact h1
   .rw[if_neg c2,decide_eq_true_eq]at h2
    rw[if_neg (by lia),decide_eq_true_eq];lia) h
 refine⟨g,hg,?_,hm⟩;unfold jG;dsimp only;rw[if_pos C,e]
def aIr{nr:List D}(hn0:0<=n)(hn:n<=12):bbW [.sh (owD n ps),.nw (.lst nr),.no,.no,.no,.no,.no,.no]= .nx [.sh (owD n ps),.nw (.lst nr),.sh (.int ((2^n.toNat-1:Nat):Int)),.no,.no,.no,.no,.no]:=by
 have hx:ixD (owD n ps) (.int 0)= .ok (.int n):=by simp[owD]
 have pV:=zBa n.toNat;have e2:pG (.int 1) (.int n)= .ok (.int ((2^n.toNat:Nat):Int)):=by
  have hc:(decide (0<=n)&&decide (n<=1000000)&&decide ((1:Int).natAbs<2^64))=true:=by
   rw[zAE,zAE,decide_eq_true_eq,decide_eq_true_eq];exact⟨⟨by lia,by lia⟩,by decide⟩
  unfold pG i2;dsimp only;rw[if_pos hc];simp
 have e3:op2 ixD (aB 0) (cD (.int 0)) [.sh (owD n ps),.nw (.lst nr),.no,.no,.no,.no,.no,.no]= .ok (.int n):=by simp[hx]
 have q:((2^n.toNat:Nat):Int)-1=((2^n.toNat-1:Nat):Int):=by
  generalize 2^n.toNat=N at pV;lia
 unfold bbW;rw[lr,cg,cg,aBk,aQ,e3,aQ,e2,cP,aQ,aQ,sub_int,cP,q,dX];rfl
def aIs{nr:List D}{N:Nat}(pV:0<N)(hle:N<=4096):fD gC (aC (op2 cU (aB 2) (cD (.int 1))) aJ) [.sh (owD n ps),.nw (.lst nr),.sh (.int ((N-1:Nat):Int)),.ow (.lst []),.no,.no,.no,.no]= .ok (cL 0 (N:Int)):=by
 have h1:=fj (j:=(N:Int)) (by lia) (by lia);have q1:((N-1:Nat):Int)+1=(N:Int):=by lia
 have q:cU (.int ((N-1:Nat):Int)) (.int 1)= .ok (.int (N:Int)):=by rw[add_int,q1]
 rw[aF3,bB,cg]
 show(((Rs.ok (D.int ((N-1:Nat):Int))).bd λ x=>(Rs.ok (D.int 1)).bd λ y=>okD (cU x y)).bd _).bd _=_
 rw[aQ,aQ,q,cP,aQ,fu,aQ,aQ,h1]
def qp(O:Ow n ps)(low:∀p∈ps,p.1<p.2)(hn:n<=12):∃g<2^n.toNat,ao [owD n ps]= .ok (.tup [.int (svI n ps g),tupI (aG n g)])/\∀g'<2^n.toNat,tO (-svI n ps g') (aG n g') (-svI n ps g) (aG n g)=false:=by
 have hn0:=O.n0;have st:aq 8 [owD n ps]=[.sh (owD n ps),.no,.no,.no,.no,.no,.no,.no]:=rfl;have hx:ixD (owD n ps) (.int 0)= .ok (.int n):=by simp[owD]
 have hle:2^n.toNat<=2^12:=zBA (by decide) (by lia);have pV:=zBa n.toNat;have hc:=o5 O low;have c0:z8 (aj cC (aC (aB 0) aJ)) [.sh (owD n ps),.no,.no,.no,.no,.no,.no,.no]= .nx [.sh (owD n ps),.no,.no,.no,.no,.no,.no,.no]:=by simp[hc]
 have c1:bbI [.sh (owD n ps),.no,.no,.no,.no,.no,.no,.no]= .nx [.sh (owD n ps),.no,.no,.no,.no,.no,.no,.no]:=by
  have:¬n>12:=by lia
  simp[bbI,hx,this]
 have hnr:=aCP (Y:=[.sh (owD n ps),.no,.no,.no,.no,.no,.no,.no]) O low rfl;obtain⟨nr,enr⟩:∃nr,nr=(((upI n).map λ i=>my (bW (dbl ps) i)).map λ m:Nat=>D.int (m:Int)):=⟨_,rfl⟩
 have hB:=λ(ts:List D) (s5:Slot) (g:Nat)=>aIt (ts:=ts) (s5:=s5) (g:=g) O low hn
 rw[<-enr]at hnr hB;have c2:qw 1 nrE [.sh (owD n ps),.no,.no,.no,.no,.no,.no,.no]= .nx [.sh (owD n ps),.nw (.lst nr),.no,.no,.no,.no,.no,.no]:=by
  rw[oJ,hnr];rfl
 have c3:=aIr (ps:=ps) (nr:=nr) hn0 hn;have hr:=aIs (n:=n) (ps:=ps) (nr:=nr) (N:=2^n.toNat) pV hle;generalize hN:2^n.toNat=N at*;obtain⟨Y',e,s4,s5,rfl⟩:=lO (ds:=cL 0 (N:Int)) (a:=gnm 4) (u:=bbB) (Y:=[.sh (owD n ps),.nw (.lst nr),.sh (.int ((N-1:Nat):Int)),.ow (.lst []),.no,.no,.no,.no])
  (λ i Y=>∃(s4 s5:Slot),Y=[.sh (owD n ps),.nw (.lst nr),.sh (.int ((N-1:Nat):Int)),.ow (.lst ((zAU i).map (trF n ps))),s4,s5,.no,.no]) (by
   rintro i d Y hd ⟨s4,s5,rfl⟩;obtain⟨rfl,hi⟩:=jY hd;rw[zFr]at hi ⊢;obtain⟨t5,e⟩:=hB ((zAU i).map (trF n ps)) s5 i (by lia) (by rw[zAF,zBS];lia);refine⟨_,?_,.sh (.int (i:Int)),t5,rfl⟩;rw[aAm,tG,zHG,zBX];unfold bbE at e;rw[hN]at e;exact e) ⟨.no,.no,rfl⟩
 have c4:yQ 3 (ud aJ) [.sh (owD n ps),.nw (.lst nr),.sh (.int ((N-1:Nat):Int)),.no,.no,.no,.no,.no]= .nx [.sh (owD n ps),.nw (.lst nr),.sh (.int ((N-1:Nat):Int)),.ow (.lst []),.no,.no,.no,.no]:=rfl;have hW:(cL 0 (N:Int)).length=N:=by rw[iC];lia
 rw[hW]at e;obtain⟨g,hg,eb,hm⟩:=aEy (n:=n) (ps:=ps) (l:=zAU N) (by simpa using pV);have i2:jT ((aG n g).map D.int)=true:=iJ _;have c6:bbA [.sh (owD n ps),.nw (.lst nr),.sh (.int ((N-1:Nat):Int)),.ow (.lst ((zAU N).map (trF n ps))),s4,s5,.no,.no]= .nx [.sh (owD n ps),.nw (.lst nr),.sh (.int ((N-1:Nat):Int)),.ow (.lst ((zAU N).map (trF n ps))),s4,s5,.sh (.int (-svI n ps g)),.sh (tupI (aG n g))]:=by
  have v:opA (jG lsD) (aC (pF 3) aJ) [.sh (owD n ps),.nw (.lst nr),.sh (.int ((N-1:Nat):Int)),.ow (.lst ((zAU N).map (trF n ps))),s4,s5,.no,.no]= .ok (trF n ps g):=by
   rw[jr,bB]
   show((Rs.ok (D.lst ((zAU N).map (trF n ps)))).bd _).bd _=_
   rw[aQ,fu,aQ,aQ,eb,cP]
  unfold bbA;rw[aGb,v];simp[trF,gr]
 refine⟨g,zAi.mp hg,?_,λ g' h=>hm g' (zAi.mpr h)⟩;have c7:retS (bh (aC (op1 yw (aB 6)) (aC (cB (aB 7)) aJ))) [.sh (owD n ps),.nw (.lst nr),.sh (.int ((N-1:Nat):Int)),.ow (.lst ((zAU N).map (trF n ps))),s4,s5,.sh (.int (-svI n ps g)),.sh (tupI (aG n g))]= .rt (.tup [.int (svI n ps g),tupI (aG n g)]):=by
  generalize svI n ps g=z;generalize ((zAU N).map (trF n ps))=ts;simp[oX,imm,tupI,i2]
 have key:bY [.sh (owD n ps),.no,.no,.no,.no,.no,.no,.no]= .rt (.tup [.int (svI n ps g),tupI (aG n g)]):=by
  rw[bY,aV,c0,bK,aV,c1,bK,aV,c2,bK,aV,c3,bK,aV,c4,bK,aV,ju,hr,dX,e,bK,aV,c6,bK,c7]
 unfold ao;rw[bL,st,key]
end
def loT:En->Rs D:=lcD (dg (aj gJ (aC (op2 ixD (aB 3) (cD (.int 0))) aJ))) [none,some 3] (gnm 0) jK (bh (aC (aj eH (aC (aB 1) (aC (aB 0) (aC (bh aJ) aJ)))) (aC (cB (aB 0)) aJ)))
def loM:En->Rs D:=opA (jZ zFm) (aC (lcD (dg (aB 4)) [none] (gnm 0) jK (cB (op2 ixD (aB 0) (cD (.int 0))))) aJ)
def loB:En->Rs D:=lcD (dg (aB 4)) [none,some 5] (gnm 0) (tsb (op2 (eqR false) (op2 ixD (aB 0) (cD (.int 0))) (aB 1))) (cB (op2 ixD (aB 0) (cD (.int 1))))
section
variable{n:Int}{ps:gX}
def toR(n:Int)(ps:gX):List D:=(zAU (2^n.toNat)).map λ g=>gr (svI n ps g) (aG n g)
def aIU{Y:En}(O:Ow n ps)(low:∀p∈ps,p.1<p.2)(hn:n<=12)(h3:Y[3]? =some (.sh (owD n ps))):loT Y= .ok (.lst (toR n ps)):=by
 have hn0:=O.n0;have hx:ixD (owD n ps) (.int 0)= .ok (.int n):=by simp[owD]
 have he:=xQ (n:=n) hn0 hn;have hle:2^n.toNat<=2^12:=zBA (by decide) (by lia);rw[zBC]at he;unfold loT toR;refine gU (ds:=(zAU (2^n.toNat)).map (tupI∘aG n)) ?_ (by rw[zAF,zBS];lia) (nU _ λ g hg=>⟨[.sh (tupI (aG n g)),.sh (owD n ps)],by simp[stE,shE,kZ,h3],?_⟩)
 .have:(shE Y)[3]? =some (.sh (owD n ps)):=by simp[shE,kZ,h3]
  simp[this,hx,he]
 .have hs:=xO (es:=[]) (ws:=aG n g) O low (by have:=o9 (n:=n) g;lia)
  have hs':eH [owD n ps,tupI (aG n g),.tup []]= .ok (.int (svI n ps g)):=hs;have i2:jT ((aG n g).map D.int)=true:=iJ _;have i3:oX (tupI (aG n g))= .ok (tupI (aG n g)):=by simp[oX,imm,tupI,i2]
  simp[hs',i3,gr]
def aIV{Y:En}(hn:n<=12)(h4:Y[4]? =some (.nw (.lst (toR n ps)))):∃m g,loM Y= .ok (.int m)/\g<2^n.toNat/\m=svI n ps g/\∀g'<2^n.toNat,svI n ps g'<=m:=by
 have hle:2^n.toNat<=2^12:=zBA (by decide) (by lia);have pV:=zBa n.toNat;have hlc:lcD (dg (aB 4)) [none] (gnm 0) jK (cB (op2 ixD (aB 0) (cD (.int 0)))) Y= .ok (.lst (((zAU (2^n.toNat)).map (svI n ps)).map D.int)):=by
  rw[zBC];refine gU (ds:=(zAU (2^n.toNat)).map λ g=>gr (svI n ps g) (aG n g)) (by simp[shE,kZ,h4,toR]) (by rw[zAF,zBS];lia) (nU _ λ g hg=>⟨[.sh (gr (svI n ps g) (aG n g))],rfl,?_⟩);simp[gr,oX,imm]
 cases hm:((zAU (2^n.toNat)).map (svI n ps)).max? with
 |none=>
  rw[List.max?_eq_none_iff]at hm
  have:=congrArg zGG hm
  rw[zAF,zBS]at this;simp at this
 |some m=>
  have h1:=List.max?_mem hm;obtain⟨g,hg,e⟩:=zAf.mp h1;refine⟨m,g,?_,zAi.mp hg,e.symm,λ g' hg'=>(List.max?_le_iff hm).mp (zDf m) _ (zAf.mpr ⟨g',zAi.mpr hg',rfl⟩)⟩;unfold loM;rw[jr,bB,hlc,aQ,fu,aQ,aQ]
  have:jZ zFm [.lst (((zAU (2^n.toNat)).map (svI n ps)).map D.int)]= .ok (.int m):=by
   unfold jZ;simp only[fK,hm]
  rw[this,cP]
def aIW{Y:En}{m:Int}(hn:n<=12)(h4:Y[4]? =some (.nw (.lst (toR n ps))))(h5:Y[5]? =some (.sh (.int m))):loB Y= .ok (.lst (((zAU (2^n.toNat)).filter λ g=>decide (svI n ps g=m)).map λ g=>tupI (aG n g))):=by
 have hle:2^n.toNat<=2^12:=zBA (by decide) (by lia);unfold loB;refine gU (ds:=(zAU (2^n.toNat)).map λ g=>gr (svI n ps g) (aG n g)) (by simp[shE,kZ,h4,toR]) (by rw[zAF,zBS];lia) (jC _ λ g hg=>⟨[.sh (gr (svI n ps g) (aG n g)),.sh (.int m)],by simp[stE,shE,kZ,h5],?_,?_⟩)
 .simp[gr]
  rfl
 .have i2:jT ((aG n g).map D.int)=true:=iJ _
  have i3:oX (tupI (aG n g))= .ok (tupI (aG n g)):=by simp[oX,imm,tupI,i2]
  simp[gr,i3]
def aIi{Y:En}{m:Int}{g0:Nat}(hn:n<=12)(h4:Y[4]? =some (.nw (.lst (toR n ps))))(h5:Y[5]? =some (.sh (.int m)))(hg0:g0<2^n.toNat)(hs:svI n ps g0=m)(hmx:∀g'<2^n.toNat,svI n ps g'<=m){g:Nat}(hg:g<2^n.toNat)(hb:∀g'<2^n.toNat,tO (-svI n ps g') (aG n g') (-svI n ps g) (aG n g)=false):
  svI n ps g=m/\opA (jG lsD) (aC loB aJ) Y= .ok (tupI (aG n g)):=by
 have e1:svI n ps g=m:=by
  have h1:=hb g0 hg0;have h2:=hmx g hg;unfold tO at h1;by_cases c: -svI n ps g0= -svI n ps g
  .lia
  .rw[if_neg c,decide_eq_false_iff_not]at h1
   lia
 refine⟨e1,?_⟩;have hgl:g∈(zAU (2^n.toNat)).filter λ g=>decide (svI n ps g=m):=zA5.mpr ⟨zAi.mpr hg,by simpa using e1⟩
 have hlo:=aIW hn h4 h5;generalize hl:((zAU (2^n.toNat)).filter λ g=>decide (svI n ps g=m))=l at hgl hlo;obtain⟨x,hx,e,hm⟩:=aBn (f:=lsD) (F:=λ g=>tupI (aG n g)) (L:=λ a b=>nT (aG n a) (aG n b)) (l:=l) (λ x _ y _=>aA6 _ _) (λ x=>rT _) (λ x y z=>aA8 _ _ _) (zCj hgl);have E:∀d∈l.map λ g=>tupI (aG n g),El 1 d:=λ d hd=>by
  obtain⟨q,_,rfl⟩:=zAf.mp hd;exact .tup El.ints
 have C:Cmp lsD (l.map λ g=>tupI (aG n g)):=⟨by rw[zAF];exact zCj hgl,rm λ d hd=>(E d hd).i,mC λ d hd=>(E d hd).n,zAd (oY λ d hd=>(E d hd).e) (by decide),λ x hx y hy=>by
  obtain⟨a,_,rfl⟩:=zAf.mp hx;obtain⟨b,_,rfl⟩:=zAf.mp hy;rw[aA6];rfl⟩
 have hx2:x<2^n.toNat/\svI n ps x=m:=by
  rw[<-hl,zA5,zAi,decide_eq_true_eq]at hx;exact hx
 have e2:aG n x=aG n g:=by
  refine zF _ _ ?_ (hm g hgl)
  have:=hb x hx2.1
  unfold tO at this
  rwa [if_pos (by rw[e1,hx2.2])]at this
 have hbd:jG lsD [.lst (l.map λ g=>tupI (aG n g))]= .ok (tupI (aG n g)):=by
  unfold jG;dsimp only;rw[if_pos C,e,e2]
 rw[jr,bB,hlo,aQ,fu,aQ,aQ,hbd,cP]
end
def aIl{a b:Int}(h:Cn [] a b):a=b:=by
 induction h with
 |refl=>rfl
 |step _ e _=>cases e
def aCx{n:Int}(O:Ow n []){g:Nat}(hg:g<2^n.toNat):svI n [] g=((aG n (2^n.toNat-(g+1))).length:Int)-((aG n g).length:Int):=by
 unfold svI;rw[sI O hg]
 have:lQ n (dbl []) (2^n.toNat-(g+1)) (2^n.toNat-(g+1))=(aG n (2^n.toNat-(g+1))).length:=by
  unfold lQ;rw[zDK.mpr];intro a _;refine fJ.mpr λ b _ hc=>?_
  have:a=b:=aIl hc
  lia
 rw[this]
def aEv{n:Int}:aG n (2^n.toNat-(0+1))=upI n:=by
 unfold aG;refine zDK.mpr λ x hx=>?_
 obtain⟨a,b⟩:=gR.mp hx;rw[zEu (zBa _)]
 have:x.toNat<n.toNat:=by lia
 simp[this]
def v9{n:Int}(h0:0<=n)(hn:n<=12):ao [.tup [.int n,.tup []]]= .ok (.tup [.int n,.tup []]):=by
 have O:Ow n []:=⟨h0,by lia,by simp,λ p hp=>(nomatch hp),rfl⟩;obtain⟨g,hg,e,hb⟩:=qp O (λ p hp=>(nomatch hp)) hn;have z0:aG n 0=[]:=by
  unfold aG;simp
 have h1:=hb 0 (zBa _);have s0:svI n [] 0=n:=by
  rw[aCx O (zBa _),aEv,eQ,z0];simp;lia
 have sg:=aCx O hg;have l1:=o9 (n:=n) (2^n.toNat-(g+1));unfold tO at h1;rw[s0,z0]at h1;by_cases c: -n= -svI n [] g
 .rw[if_pos c]at h1
  have hb0:aG n g=[]:=by
   cases hq:aG n g with
   |nil=>rfl
   |cons a l=>rw[hq]at h1;cases h1
  rw[hb0,<-show n=svI n [] g by lia]at e;exact e
 .rw[if_neg c,decide_eq_false_iff_not]at h1
  lia
def aCj{n:Int}(h0:12<n)(hn:n<=60):ao [.tup [.int n,.tup []]]= .ex "TooMany":=by
 have O:Ow n []:=⟨by lia,hn,by simp,λ p hp=>(nomatch hp),rfl⟩;have hc:=o5 O (λ p hp=>(nomatch hp));have hc':cC [.tup [.int n,.tup []]]= .ok .non:=hc;have st:aq 8 [.tup [.int n,.tup []]]=[.sh (.tup [.int n,.tup []]),.no,.no,.no,.no,.no,.no,.no]:=rfl;have c0:z8 (aj cC (aC (aB 0) aJ)) [.sh (.tup [.int n,.tup []]),.no,.no,.no,.no,.no,.no,.no]= .nx [.sh (.tup [.int n,.tup []]),.no,.no,.no,.no,.no,.no,.no]:=by simp[hc']
 have c1:bbI [.sh (.tup [.int n,.tup []]),.no,.no,.no,.no,.no,.no,.no]= .ex "TooMany":=by
  simp[bbI,h0]
 have key:bY [.sh (.tup [.int n,.tup []]),.no,.no,.no,.no,.no,.no,.no]= .ex "TooMany":=by
  rw[bY,aV,c0,bK,aV,c1];rfl
 unfold ao;rw[bL,st,key]
def aAt{n:Int}:ao [.tup [.int n]]= .ex "NoWeb":=by
 have hw:jd [.tup [.int n]]= .ok (.bl false):=by
  simp[jd,iU,bL,aq]
 have hc:cC [.tup [.int n]]= .ex "NoWeb":=by
  have st:aq 1 [.tup [.int n]]=[.sh (.tup [.int n])]:=rfl;simp only[cC,dD,bL,st];simp[hw]
 have st:aq 8 [.tup [.int n]]=[.sh (.tup [.int n]),.no,.no,.no,.no,.no,.no,.no]:=rfl;have key:bY [.sh (.tup [.int n]),.no,.no,.no,.no,.no,.no,.no]= .ex "NoWeb":=by
  rw[bY,aV];simp[hc]
 unfold ao;rw[bL,st,key]
def lFb:En->Ou:=(bD (dN 8 (aj ao (aC (aB 3) aJ))) (ifS (orT (qy (tst (op1 (nW "tuple") (aB 8)))) (tsb (op2 (eqR true) (aB 8) (aB 6)))) (retS (cD (.bl false))) Ou.nx))
abbrev lV(ns:List Int)(k c n:Int)(ps:gX)(s4 s5 s6 s7 s8:Slot):En:=[.sh (.scr ns),.sh (.int k),.sh (.int c),.sh (owD n ps),s4,s5,s6,s7,s8]
def aDY(h:fe (Y.map shS)= .ex c)(hw:wdN c=some w):aCD wdN "told" fe Y= .ok (.str w):=by
 unfold aCD;rw[h];dsimp only;rw[hw]
def aIR{ns:List Int}{k:Int}{s2 s3 s4 s5 s6 s7 s8:Slot}(hk:0<=k):∃t2 t3 t4 t5 t6 t7 t8,lwK [.sh (.scr ns),.sh (.int k),s2,s3,s4,s5,s6,s7,s8]= .nx [.sh (.scr ns),.sh (.int k),t2,t3,t4,t5,t6,t7,t8]:=by
 obtain⟨c,ec⟩:=aG6 (ns:=ns) hk;obtain⟨n,ps,ew,O,low,hn⟩:=aAd (c:=c) (most:=7) (by decide);have ew':jc [.int c,.int 7]= .ok (owD n ps):=ew;have hn7:n<=7:=hn;have bX:n<=12:=by lia
 have hn0:=O.n0;have hx:ixD (owD n ps) (.int 0)= .ok (.int n):=by simp[owD]
 obtain⟨dr,ed,d0,d1⟩:=aBh (c:=c) (k:=9000) (b:=48) (by decide) (by decide) (by decide) (by decide);have c0:lQ0 [.sh (.scr ns),.sh (.int k),s2,s3,s4,s5,s6,s7,s8]= .nx [.sh (.scr ns),.sh (.int k),.sh (.int c),s3,s4,s5,s6,s7,s8]:=by simp[lQ0,ec]
 have c1:lQ1 [.sh (.scr ns),.sh (.int k),.sh (.int c),s3,s4,s5,s6,s7,s8]= .nx (lV ns k c n ps s4 s5 s6 s7 s8):=by simp[lQ1,ew']
 have c2:lQ2 (lV ns k c n ps s4 s5 s6 s7 s8)= .nx (lV ns k c n ps (.nw (.lst (toR n ps))) s5 s6 s7 s8):=by
  have:=aIU (Y:=lV ns k c n ps s4 s5 s6 s7 s8) O low bX rfl
  have u:lQ2=qw 4 loT:=rfl;rw[u,oJ,this];rfl
 obtain⟨m,g0,em,hg0,hm0,hmx⟩:=aIV (Y:=lV ns k c n ps (.nw (.lst (toR n ps))) s5 s6 s7 s8) (n:=n) (ps:=ps) bX rfl;have c3:lQ3 (lV ns k c n ps (.nw (.lst (toR n ps))) s5 s6 s7 s8)= .nx (lV ns k c n ps (.nw (.lst (toR n ps))) (.sh (.int m)) s6 s7 s8):=by
  have u:lQ3=dN 5 loM:=rfl;rw[u,lr,em];rfl
 obtain⟨g,hg,eb,hb⟩:=qp O low bX;obtain⟨e1,e2⟩:=aIi (Y:=lV ns k c n ps (.nw (.lst (toR n ps))) (.sh (.int m)) s6 s7 s8) bX rfl rfl hg0 hm0.symm hmx hg hb;have c4:lQ4 (lV ns k c n ps (.nw (.lst (toR n ps))) (.sh (.int m)) s6 s7 s8)= .nx (lV ns k c n ps (.nw (.lst (toR n ps))) (.sh (.int m)) (.sh (.tup [.int m,tupI (aG n g)])) s7 s8):=by
  have u:lQ4=dN 6 (bh (aC (aB 5) (aC (opA (jG lsD) (aC loB aJ)) aJ))):=rfl;rw[u,lr,rG,bB,bB,e2];rfl
 rw[e1]at eb;have hr:fD gC (aC (cD (.int 2)) aJ) (lV ns k c n ps (.nw (.lst (toR n ps))) (.sh (.int m)) (.sh (.tup [.int m,tupI (aG n g)])) s7 s8)= .ok (cL 0 2):=by
  have:=fj (j:=2) (by decide) (by decide)
  simp[this]
 have q0:eqR true (.tup [.int m,tupI (aG n g)]) (.tup [.int m,tupI (aG n g)])= .ok (.bl false):=by
  have E:El 2 (.tup [.int m,tupI (aG n g)]):=.tr m (aG n g);unfold eqR;rw[if_pos (by rw[zAE,zAE,decide_eq_true_eq];exact⟨⟨zAd E.e (by decide),E.n⟩,E.n⟩),if_pos rfl,j8 _ E.n];rfl
 obtain⟨Y',e,t7,t8,rfl⟩:=xX (a:=gnm 7) (u:=lFb) (I:=λ Y=>∃t7 t8,Y=lV ns k c n ps (.nw (.lst (toR n ps))) (.sh (.int m)) (.sh (.tup [.int m,tupI (aG n g)])) t7 t8) (cL 0 2) (lV ns k c n ps (.nw (.lst (toR n ps))) (.sh (.int m)) (.sh (.tup [.int m,tupI (aG n g)])) s7 s8) ⟨_,_,rfl⟩ (by
  rintro d hd Y ⟨t7,t8,rfl⟩;refine⟨lV ns k c n ps (.nw (.lst (toR n ps))) (.sh (.int m)) (.sh (.tup [.int m,tupI (aG n g)])) (.sh d) (.sh (.tup [.int m,tupI (aG n g)])),?_,_,_,rfl⟩;rw[aAm,tG];show lFb (lV ns k c n ps (.nw (.lst (toR n ps))) (.sh (.int m)) (.sh (.tup [.int m,tupI (aG n g)])) (.sh d) t8)=_;simp[lFb,eb,q0])
 have c5:lQ5 (lV ns k c n ps (.nw (.lst (toR n ps))) (.sh (.int m)) (.sh (.tup [.int m,tupI (aG n g)])) s7 s8)= .nx (lV ns k c n ps (.nw (.lst (toR n ps))) (.sh (.int m)) (.sh (.tup [.int m,tupI (aG n g)])) t7 t8):=by
  have u:lQ5=j7 (fD gC (aC (cD (.int 2)) aJ)) (gnm 7) lFb:=rfl;rw[u,ju,hr,dX,e]
 have hb1:=aCj (n:=13+dr) (by lia) (by lia);have hb2:=aAt (n:=n);have c6:lQ6 (lV ns k c n ps (.nw (.lst (toR n ps))) (.sh (.int m)) (.sh (.tup [.int m,tupI (aG n g)])) t7 t8)= .nx (lV ns k c n ps (.nw (.lst (toR n ps))) (.sh (.int m)) (.sh (.tup [.int m,tupI (aG n g)])) t7 t8):=by
  have r:=aDY (Y:=lV ns k c n ps (.nw (.lst (toR n ps))) (.sh (.int m)) (.sh (.tup [.int m,tupI (aG n g)])) t7 t8) (fe:=aj ao (aC (bh (aC (op2 cU (cD (.int 13)) (aj bJ (aC (aB 2) (aC (cD (.int 9000)) (aC (cD (.int 48)) aJ))))) (aC (bh aJ) aJ))) aJ)) (c:="TooMany") (w:="many") (by simp[ed,hb1,shS]) rfl;have q:eqR true (.str "many") (.str "many")= .ok (.bl false):=by kernel_rfl
  unfold lQ6;simp[r,q]
 have c7:lQ7 (lV ns k c n ps (.nw (.lst (toR n ps))) (.sh (.int m)) (.sh (.tup [.int m,tupI (aG n g)])) t7 t8)= .nx (lV ns k c n ps (.nw (.lst (toR n ps))) (.sh (.int m)) (.sh (.tup [.int m,tupI (aG n g)])) t7 t8):=by
  have r:=aDY (Y:=lV ns k c n ps (.nw (.lst (toR n ps))) (.sh (.int m)) (.sh (.tup [.int m,tupI (aG n g)])) t7 t8) (fe:=aj ao (aC (bh (aC (op2 ixD (aB 3) (cD (.int 0))) aJ)) aJ)) (c:="NoWeb") (w:="web") (by simp[hx,hb2,shS]) rfl;have q:eqR true (.str "web") (.str "web")= .ok (.bl false):=by kernel_rfl
  unfold lQ7;simp[r,q]
 exact⟨_,_,_,_,_,_,_,by rw[lwK,aV,c0,bK,aV,c1,bK,aV,c2,bK,aV,c3,bK,aV,c4,bK,aV,c5,bK,aV,c6,bK,c7]⟩
def aEI(ns:List Int)(hl:ns.length<=63):aFG [.scr ns]= .ok (.bl true):=by
 have st:aq 9 [.scr ns]=[.sh (.scr ns),.no,.no,.no,.no,.no,.no,.no,.no]:=rfl;let m:Int:=if (if (3:Int)<ns.length then(3:Int)else ns.length)>1 then(if (3:Int)<ns.length then(3:Int)else ns.length)else 1
 have hm:1<=m/\m<=3:=by
  show 1<=(if (if (3:Int)<ns.length then(3:Int)else ns.length)>1 then(if (3:Int)<ns.length then(3:Int)else ns.length)else 1)/\(if (if (3:Int)<ns.length then(3:Int)else ns.length)>1 then(if (3:Int)<ns.length then(3:Int)else ns.length)else 1)<=3;split<;>split<;>lia
 have hr:=fj (j:=m) (by lia) (by lia);have hR:lwR [.sh (.scr ns),.no,.no,.no,.no,.no,.no,.no,.no]= .ok (cL 0 m):=by
  rw[<-hr];unfold lwR;simp[m]
 obtain⟨Y',el,t1,t2,t3,t4,t5,t6,t7,t8,rfl⟩:=xX (a:=gnm 1) (u:=lwK) (I:=λ Y=>∃t1 t2 t3 t4 t5 t6 t7 t8,Y=[.sh (.scr ns),t1,t2,t3,t4,t5,t6,t7,t8]) (cL 0 m) [.sh (.scr ns),.no,.no,.no,.no,.no,.no,.no,.no] ⟨.no,.no,.no,.no,.no,.no,.no,.no,rfl⟩ (by
  rintro d hd Y ⟨t1,t2,t3,t4,t5,t6,t7,t8,rfl⟩;obtain⟨k,rfl,k0,k1⟩:=yx.mp hd;obtain⟨u2,u3,u4,u5,u6,u7,u8,e⟩:=aIR (ns:=ns) (k:=k) (s2:=t2) (s3:=t3) (s4:=t4) (s5:=t5) (s6:=t6) (s7:=t7) (s8:=t8) k0;exact⟨_,e,_,_,_,_,_,_,_,_,rfl⟩)
 have z1:=v9 (n:=0) (by decide) (by decide);have z2:=v9 (n:=12) (by decide) (by decide);have z3:eqR false (.tup [.int 0,.tup []]) (.tup [.int 0,.tup []])= .ok (.bl true):=rfl;have z4:eqR false (.tup [.int 12,.tup []]) (.tup [.int 12,.tup []])= .ok (.bl true):=rfl;have cz:lwZ [.sh (.scr ns),t1,t2,t3,t4,t5,t6,t7,t8]= .ok (.bl true):=by
  have b0:bh (aC (cD (.int 0)) (aC (bh aJ) aJ)) [.sh (.scr ns),t1,t2,t3,t4,t5,t6,t7,t8]= .ok (.tup [.int 0,.tup []]):=rfl;have b12:bh (aC (cD (.int 12)) (aC (bh aJ) aJ)) [.sh (.scr ns),t1,t2,t3,t4,t5,t6,t7,t8]= .ok (.tup [.int 12,.tup []]):=rfl;have a1:aj ao (aC (bh (aC (cD (.int 0)) (aC (bh aJ) aJ))) aJ) [.sh (.scr ns),t1,t2,t3,t4,t5,t6,t7,t8]= .ok (.tup [.int 0,.tup []]):=by
   rw[o7,bB,b0,aQ,fu,aQ,aQ,z1]
  have a2:aj ao (aC (bh (aC (cD (.int 12)) (aC (bh aJ) aJ))) aJ) [.sh (.scr ns),t1,t2,t3,t4,t5,t6,t7,t8]= .ok (.tup [.int 12,.tup []]):=by
   rw[o7,bB,b12,aQ,fu,aQ,aQ,z2]
  unfold lwZ;simp only[rz,cg,a1,a2,b0,b12,aQ,z3,z4,cP,aIw]
 have key:uO [.sh (.scr ns),.no,.no,.no,.no,.no,.no,.no,.no]= .rt (.bl true):=by
  rw[uO,aV,ju,hR,dX,el,bK,lu,cz,dX]
 unfold aFG;rw[bL,st,key]
local macro_rules|`(tactic|walk_at "sc")=>`(tactic|exact⟨rfl,rfl,rfl,by decide+kernel,rfl,by decide+kernel,by decide+kernel⟩)
def top(i:Nat):Stmt:=PySem.Challenge.pw_fewways_k23_best_bars.main.body.getD i (.Pass ⟨0,0,0,0⟩)
abbrev nG:Stmt:=top 16
abbrev pQ:Stmt:=top 17
abbrev nH:Stmt:=top 18
abbrev pP:Stmt:=top 19
abbrev lJ:Stmt:=top 20
abbrev dZ:Stmt:=top 21
abbrev nM:Stmt:=top 22
abbrev sV:Stmt:=top 23
abbrev lK:Stmt:=top 24
abbrev nO:Stmt:=top 25
abbrev lD:Stmt:=top 27
abbrev gO:Stmt:=top 30
abbrev nJ:Stmt:=top 31
abbrev jP:Stmt:=top 33
abbrev nF:Stmt:=top 34
abbrev pO:Stmt:=top 35
abbrev lF:Stmt:=top 36
abbrev nD:Stmt:=top 37
abbrev lE:Stmt:=top 38
abbrev lH:Stmt:=top 39
abbrev jO:Stmt:=top 40
abbrev lG:Stmt:=top 41
abbrev oN:Stmt:=top 42
def yW:aY ["thing"] ["thing"] (aF nG):=by walk_at "sc"
def aAO:aY ["thing"] ["thing"] (aF pQ):=by walk_at "sc"
def yX:aY ["many","thing"] ["many","thing"] (aF nH):=by walk_at "sc"
def aAN:aY ["many","thing"] ["many","thing"] (aF pP):=by walk_at "sc"
def wN:aY ["things","at"] ["things"] (aF lJ):=by walk_at "sc"
def mH:aY ["many","thing","pair"] ["many","thing"] (aF dZ):=by walk_at "sc"
def yc:aY ["many","thing"] ["many","thing"] (aF nM):=by walk_at "sc"
def aCB:aY ["thing"] ["thing"] (aF sV):=by walk_at "sc"
def wO:aY ["thing"] ["thing"] (aF lK):=by walk_at "sc"
def yd:aY ["web","many","ties","near","low","high"] ["web"] (aF nO):=by walk_at "sc"
def wI:aY ["group"] ["group"] (aF lD):=by walk_at "sc"
def pN:aY ["near","group","found","left","ahead","place"] ["near","group"] (aF gO):=by walk_at "sc"
def yZ:aY ["web","near","whole","tries","group","bar","lack","best"] ["web"] (aF nJ):=by walk_at "sc"
def sU:aY ["_law_script","_law_k"] ["_law_script","_law_k"] (aF jP):=by walk_at "sc"
def yV:aY ["_law_cell","_law_k","_law_bound","_law_left_here","_law_j","_law_stir"] ["_law_cell","_law_k","_law_bound"] (aF nF):=by walk_at "sc"
def aAM:aY ["_law_cell","_law_most","_law_many","_law_thick","_law_ties","_law_one","_law_other"] ["_law_cell","_law_most"] (aF pO):=by walk_at "sc"
def wK:aY ["_law_web_here","_law_least","_law_turn","_law_one","_law_other"] ["_law_web_here"] (aF lF):=by walk_at "sc"
def yU:aY ["_law_web_here","_law_places","_law_stays","_law_ties"] ["_law_web_here","_law_places"] (aF nD):=by walk_at "sc"
def wJ:aY ["_law_web_here","_law_bar","_law_ends"] ["_law_web_here","_law_bar","_law_ends"] (aF lE):=by walk_at "sc"
def wM:aY ["_law_error","_law_kinds","_law_words"] ["_law_error"] (aF lH):=by walk_at "sc"
def sS:aY ["_law_call","_law_word","_law_error"] ["_law_call"] (aF jO):=by walk_at "sc"
def wL:aY ["_law_many","_law_found","_law_place"] ["_law_many"] (aF lG):=by walk_at "sc"
def aH3:aY ["_law_script","_law_k","_law_cell","_law_web_here","_law_told","_law_most","_law_due","_law_turn","_law_found"] ["_law_script"] (aF oN):=by walk_at "sc"
set_option genInjectivity false in
set_option genSizeOf false in
structure Adr where
 uE:Addr
 fP:zAe
 vO:Addr
 gn:zAe
 uF:Addr
 fQ:zAe
 vN:Addr
 gm:zAe
 qZ:Addr
 dC:zAe
 iK:Addr
 au:zAe
 uH:Addr
 fU:zAe
 zY:Addr
 iU:zAe
 q9:Addr
 dD:zAe
 uI:Addr
 fV:zAe
 qT:Addr
 du:zAe
 kW:Addr
 bx:zAe
 uG:Addr
 bY:zAe
 mZ:Addr
 cG:zAe
 uD:Addr
 dB:zAe
 vM:Addr
 gk:zAe
 qW:Addr
 eE:zAe
 uC:Addr
 fO:zAe
 qU:Addr
 dw:zAe
 qY:Addr
 ql:zAe
 mY:Addr
 m7:zAe
 qX:Addr
 eF:zAe
 aBe:Addr
 uO:zAe
 mO:Value
 mQ:Value
 fZ:Addr
 jy:Addr
 fX:Addr
 jz:Addr
 dF:Addr
 fW:Addr
 di:Addr
 iW:Addr
 dh:Addr
 fY:Addr
 iV:Addr
 iY:Addr
 kE:Addr
def wdA(t:Adr):Addr->Option Str:=λ C=>(([t.jy,t.fX,t.jz,t.dF,t.fW,t.di,t.iW,t.dh,t.fY,t.iV,t.iY,t.kE]:List Addr).zip (["web","place","way","parting","many","forest","plan","one way","order","text","deed","row"]:List Str)).lookup C
structure Txt(K:zAA)(mg:Str->Option Value)(t:Adr):Prop where
 nZ:Dnr K mg "is_whole" nG ["thing"] t.uE t.fP
 vV:Dnr K mg "is_many" pQ ["thing"] t.vO t.gn
 n6:Dnr K mg "is_place" nH ["many","thing"] t.uF t.fQ
 vU:Dnr K mg "is_pair" pP ["many","thing"] t.vN t.gm
 qi:Dnr K mg "is_rising" lJ ["things"] t.qZ t.dC
 iT:Dnr K mg "are_rising_pairs" dZ ["many","thing"] t.iK t.au
 uM:Dnr K mg "are_ties" nM ["many","thing"] t.uH t.fU
 z7:Dnr K mg "is_web" sV ["thing"] t.zY t.iU
 qj:Dnr K mg "check_web" lK ["thing"] t.q9 t.dD
 uN:Dnr K mg "all_tied" nO ["web"] t.uI t.fV
 qb:Dnr K mg "places_in" lD ["group"] t.qT t.du
 kY:Dnr K mg "parts_counted" gO ["near","group"] t.kW t.bx
 fM:Dnr K mg "best_bar" nJ ["web"] t.uG t.bY
 m6:Dnr K mg "_law_cell_at" jP ["_law_script","_law_k"] t.mZ t.cG
 iR:Dnr K mg "_law_draw" nF ["_law_cell","_law_k","_law_bound"] t.uD t.dB
 vR:Dnr K mg "_law_web" pO ["_law_cell","_law_most"] t.vM t.gk
 qe:Dnr K mg "_law_parts" lF ["_law_web_here"] t.qW t.eE
 uL:Dnr K mg "_law_left" nD ["_law_web_here","_law_places"] t.uC t.fO
 qd:Dnr K mg "_law_shown" lE ["_law_web_here","_law_bar","_law_ends"] t.qU t.dw
 jF:Dnr K mg "_law_class" lH ["_law_error"] t.qY t.ql
 cF:Dnr K mg "_law_refused" jO ["_law_call"] t.mY t.m7
 qg:Dnr K mg "_law_every" lG ["_law_many"] t.qX t.eF
 aHI:Dnr K mg "law" oN ["_law_script"] t.aBe t.uO
 gA:mg "MOST_PLACES"=some t.mO
 u9:RelV (.int 60) t.mO
 gB:mg "MOST_BARRED"=some t.mQ
 uc:RelV (.int 12) t.mQ
 tM:mg "FewError"=some (.ref t.fZ)
 l_FewError:aa mg "FewError"=t.fZ
 gq:bN K t.fZ
 aB1:mg "NoWeb"=some (.ref t.jy)
 aB4:aa mg "NoWeb"=t.jy
 nj:bN K t.jy
 aCV:mg "NoPlace"=some (.ref t.fX)
 aC1:aa mg "NoPlace"=t.fX
 lX:bN K t.fX
 aFv:mg "NoWay"=some (.ref t.jz)
 aGD:aa mg "NoWay"=t.jz
 rE:bN K t.jz
 yz:mg "NoParting"=some (.ref t.dF)
 zQ:aa mg "NoParting"=t.dF
 iw:bN K t.dF
 vC:mg "TooMany"=some (.ref t.fW)
 vG:aa mg "TooMany"=t.fW
 jW:bN K t.fW
 aA4:mg "NoForest"=some (.ref t.di)
 aAg:aa mg "NoForest"=t.di
 jg:bN K t.di
 aEB:mg "NoPlan"=some (.ref t.iW)
 aEM:aa mg "NoPlan"=t.iW
 nu:bN K t.iW
 aA3:mg "NoOneWay"=some (.ref t.dh)
 aAf:aa mg "NoOneWay"=t.dh
 jf:bN K t.dh
 aCW:mg "NoOrder"=some (.ref t.fY)
 aC2:aa mg "NoOrder"=t.fY
 lY:bN K t.fY
 aEA:mg "NoText"=some (.ref t.iV)
 aEL:aa mg "NoText"=t.iV
 nq:bN K t.iV
 aEC:mg "NoDeed"=some (.ref t.iY)
 aEN:aa mg "NoDeed"=t.iY
 oA:bN K t.iY
 aFw:mg "NoRow"=some (.ref t.kE)
 aGE:aa mg "NoRow"=t.kE
 rF:bN K t.kE
 xJ:mg "ValueError"=none
 aJd:mg "all"=none
 aIQ:mg "bool"=none
 aJc:mg "int"=none
 aU:mg "isinstance"=none
 oV:mg "len"=none
 aIP:mg "list"=none
 aHC:mg "max"=none
 aBY:mg "min"=none
 cY:mg "range"=none
 aJb:mg "set"=none
 aDy:mg "sorted"=none
 aJa:mg "sum"=none
 jB:mg "tuple"=none
 cb:aAq K t.fZ [t.jy,t.fX,t.jz,t.dF,t.fW,t.di,t.iW,t.dh,t.fY,t.iV,t.iY,t.kE]=true
open PySem.Spec PyProof.Rows
section
variable{P:zAP}{w:World}{K:zAA}{mg:Str->Option Value}{base:Heap}{t:Adr}
def qN(T:Txt K mg t):cV P w K mg base (CX1 P w) 1 t.uE t.fP ["thing"] (spF K (aa mg) 1 ig):=
 bQ (k:=0) (f:=fP) T.nZ yW λ n _ _ _ _ _ _ _=>
  (aN (bF (lC (pM (aA 0) T.aU T.aJc) (nC (aHY (pM (aA 0) T.aU T.aIQ))))))
def xF(T:Txt K mg t):cV P w K mg base (CX1 P w) 1 t.qZ t.dC ["things"] (spF K (aa mg) 1 eO):=
 bQ (k:=0) (f:=dC) T.qi wN λ n _ _ _ _ _ _ _=>
  (aK (gM (aBD (aD aL (aD (jk T.oV (aD (aA 0) aH)) aH)) T.cY) (bV (ks:=[1]))
   (aN (iy (mz (aDB (aR (aA 0) (pJ (aA 1) aL)) (aR (aA 0) (aA 1))))
    (aN (bF oM))
    cW)))
  (aN (bF oM)))
def yt(T:Txt K mg t):cV P w K mg base (CX1 P w) 1 t.uI t.fV ["web"] (spF K (aa mg) 1 ik):=
 bQ (k:=0) (f:=fV) T.uN yd λ n _ _ _ _ _ _ _=>
  (aK (aDF (aA 0) (pH (n:=2) (cQ (bV (ks:=[1,2])) (cQ (bV (ks:=[1,2])) lq))))
  (aK (aJR (N:=["place"]) (js:=[none]) (ks:=[0]) (eV (aD (aA 1) aH) T.cY) bM)
  (aK (gM (eU (aA 2)) (pH (n:=2) (cQ (bV (ks:=[4,5])) (cQ (bV (ks:=[4,5])) lq)))
   (aK (sH 3 (aA 4) (cI (aA 5)))
   (aN (sH 3 (aA 5) (cI (aA 4))))))
  (aN (bF (aBE 3))))))
def wg(T:Txt K mg t):cV P w K mg base (CX1 P w) 1 t.qT t.du ["group"] (spF K (aa mg) 1 gG):=
 bQ (k:=0) (f:=du) T.qb wI λ n _ _ _ _ _ _ _=>
  (aN (bF (lB (N:=["place","group"]) (js:=[none,some 0]) (ks:=[0]) (eV (aD (uw (aA 0)) aH) T.cY) bM (pI (jh (wH (aHW (aA 1) (aA 0)) aL))) (cI (aA 0)))))
def pX(T:Txt K mg t):cV P w K mg base (CX1 P w) 1 t.kW t.bx ["near","group"] (spF K (aa mg) 2 bU):=
 bQ (k:=0) (f:=bx) T.kY pN λ n _ _ _ _ _ _ _=>
  (aK (bZ (i:=2) (jM aL))
  (aK (bZ (i:=3) (jM (aA 1)))
  (aK (yO (jh (aA 3))
   (aK (bZ (i:=4) (jM (wH (aA 3) (aDR (aA 3)))))
   (aK (yO (jh (aA 4))
    (aK (bZ (i:=5) (jM (pJ (uw (aA 4)) aL)))
    (aK (aDE (i:=3) (aAJ aL (aA 5)) (λ _=>aI7))
    (aN (bZ (i:=4) (jM (wH (aH0 (aA 4) (aR (aA 0) (aA 5))) (aA 3))))))))
   (aN (aDE (i:=2) aL (λ _=>aI8))))))
  (aN (bF (cI (aA 2)))))))
def tE(T:Txt K mg t):cV P w K mg base (CX1 P w) 1 t.mZ t.cG ["_law_script","_law_k"] (spF K (aa mg) 2 dY):=
 bQ (k:=0) (f:=cG) T.m6 sU λ n _ _ _ _ _ _ _=>
  (aK (iy (aDB (aA 1) (jk T.oV (aD (aA 0) aH)))
   (aN (bF (cI (aR (aA 0) (aA 1)))))
   cW)
  (aN (bF aL)))
def jA(T:Txt K mg t):cV P w K mg base (CX1 P w) 1 t.uD t.dB ["_law_cell","_law_k","_law_bound"] (spF K (aa mg) 3 bJ):=
 bQ (k:=0) (f:=dB) T.iR yV λ n _ _ _ _ _ _ _=>
  (aK (iy (aJQ (aA 0) (aHX aL aL))
   (aK (bZ (i:=3) (jM (aA 0)))
   (aK (gM (eV (aD (aA 1) aH) T.cY) (bV (ks:=[4]))
    (aK (iy (aDC (aA 3) aL)
     (aN (bF aL))
     cW)
    (aN (bZ (i:=3) (jM (aBI (aA 3) (aA 2)))))))
   (aN (bF (pL (aA 3) (aA 2))))))
   cW)
  (aK (bZ (i:=5) (jM (pL (pK (fG (fG (pL (aA 0) aL) (pK aL (aA 1))) aL) aL) aL)))
  (aK (bZ (i:=5) (jM (pL (fG (fG (pK (aA 5) (aA 5)) (pK aL (aA 1))) aL) aL)))
  (aN (bF (pL (aBI (pL (pK (aA 5) aL) aL) aL) (aA 2)))))))
def wu(T:Txt K mg t):cV P w K mg base (CX1 P w) 1 t.qW t.eE ["_law_web_here"] (spF K (aa mg) 1 gH):=
 bQ (k:=0) (f:=eE) T.qe wK λ n _ _ _ _ _ _ _=>
  (aK (vy (i:=1) (aCw (aKP (aAK T.aIP T.cY (aR (aA 0) aL)))))
  (aK (gM (eV (aD (aR (aA 0) aL) aH) T.cY) (bV (ks:=[2]))
   (aN (gM (eU (aR (aA 0) aL)) (pH (n:=2) (cQ (bV (ks:=[3,4])) (cQ (bV (ks:=[3,4])) lq)))
    (aK (aBA 1 (aA 3) (aBG T.aBY (aD (aR (wF 1) (aA 3)) (aD (aR (wF 1) (aA 4)) aH))))
    (aN (aBA 1 (aA 4) (cI (aR (wF 1) (aA 3)))))))))
  (aN (bF (lB (N:=["_law_low","_law_web_here","_law_least"]) (js:=[none,some 0,some 1]) (ks:=[0]) (eU (uZ T.aDy T.aJb (aD (aA 1) aH))) bM ji (oK T.jB (aD (lB (N:=["_law_place","_law_least","_law_low"]) (js:=[none,some 2,some 0]) (ks:=[0]) (eV (aD (aR (aA 1) aL) aH) T.cY) bM (pI (aDC (aR (aA 1) (aA 0)) (aA 2))) (cI (aA 0))) aH)))))))
def yq(T:Txt K mg t):cV P w K mg base (CX1 P w) 1 t.uC t.fO ["_law_web_here","_law_places"] (spF K (aa mg) 2 ie):=
 bQ (k:=0) (f:=fO) T.uL yU λ n _ _ _ _ _ _ _=>
  (aK (lZ (i:=2) (jM (lB (N:=["_law_place","_law_places"]) (js:=[none,some 1]) (ks:=[0]) (eV (aD (aR (aA 0) aL) aH) T.cY) bM (pI (aDA (aA 0) (aA 1))) (cI (aA 0)))))
  (aK (lZ (i:=3) (aCy (N:=["_law_tie","_law_stays"]) (js:=[none,some 2]) (ks:=[0]) (eU (aR (aA 0) aL)) bM (pI (SW.st (aHT (aGo (aR (aA 0) aL) (aA 1)) (aFN (aGo (aR (aA 0) aL) (aA 1)))))) (cI (aA 0))))
  (aN (bF (bu (aD (jk T.oV (aD (rJ 2) aH)) (aD (oK T.jB (aD (lB (N:=["_law_one","_law_other","_law_stays"]) (js:=[none,none,some 2]) (ks:=[0,1]) (eU (aA 3)) (pH (n:=2) (cQ bM (cQ bM lq))) ji (bu (aD (yR (aA 2) (aA 0)) (aD (yR (aA 2) (aA 1)) aH)))) aH)) aH)))))))
def wy(T:Txt K mg t):FnH P w K mg base 1 t.qY t.ql ["_law_error"] (spW (wdA t)):=
 aC9 (c1:=.ref t.fZ) (c2:=.ty "ValueError") (k1:=[.ref t.jy,.ref t.fX,.ref t.jz]) (k2:=[.ref t.dF,.ref t.fW,.ref t.di]) (k3:=[.ref t.iW,.ref t.dh,.ref t.fY]) (k4:=[.ref t.iV,.ref t.iY,.ref t.kE]) (l1:=["web","place","way","parting","many","forest","plan","one way"]) (l2:=["order","text","deed","row"]) T.jF.F wM rfl rfl rfl rfl (λ cdv A outer s H=>⟨(eY rfl rfl rfl T.aU (cX (v:=.ref t.fZ) rfl T.tM rfl)),(eY rfl rfl rfl T.aU (aBU (v:=.ty "ValueError") (u:=.type "ValueError") rfl T.xJ rfl rfl)),(aW (eY rfl rfl rfl T.aU (cX (v:=.ref t.jy) rfl T.aB1 rfl)) (aW (eY rfl rfl rfl T.aU (cX (v:=.ref t.fX) rfl T.aCV rfl)) (aW (eY rfl rfl rfl T.aU (cX (v:=.ref t.jz) rfl T.aFv rfl)) cM))),(aW (eY rfl rfl rfl T.aU (cX (v:=.ref t.dF) rfl T.yz rfl)) (aW (eY rfl rfl rfl T.aU (cX (v:=.ref t.fW) rfl T.vC rfl)) (aW (eY rfl rfl rfl T.aU (cX (v:=.ref t.di) rfl T.aA4 rfl)) cM))),(aW (eY rfl rfl rfl T.aU (cX (v:=.ref t.iW) rfl T.aEB rfl)) (aW (eY rfl rfl rfl T.aU (cX (v:=.ref t.dh) rfl T.aA3 rfl)) (aW (eY rfl rfl rfl T.aU (cX (v:=.ref t.fY) rfl T.aCW rfl)) cM))),(aW (eY rfl rfl rfl T.aU (cX (v:=.ref t.iV) rfl T.aEA rfl)) (aW (eY rfl rfl rfl T.aU (cX (v:=.ref t.iY) rfl T.aEC rfl)) (aW (eY rfl rfl rfl T.aU (cX (v:=.ref t.kE) rfl T.aFw rfl)) cM))),(aW dO (aW dO (aW dO (aW dO (aW dO (aW dO (aW dO (aW dO cM)))))))),(aW dO (aW dO (aW dO (aW dO cM))))⟩) rfl rfl (by decide) λ C w h=>(aGm T.cb h).1
def ww(T:Txt K mg t):cV P w K mg base (CX1 P w) 1 t.qX t.eF ["_law_many"] (spF K (aa mg) 1 gJ):=
 bQ (k:=0) (f:=eF) T.qg wL λ n _ _ _ _ _ _ _=>
  (aK (lZ (i:=1) (jM (aHZ (aD (bu aH) aH))))
  (aK (gM (eV (aD (aA 0) aH) T.cY) (bV (ks:=[2]))
   (aN (lZ (i:=1) (jM (fG (rJ 1) (lB (N:=["_law_bar","_law_place"]) (js:=[none,some 2]) (ks:=[0]) (eU (aA 1)) bM ji (fG (cI (aA 0)) (bu (aD (cI (aA 1)) aH)))))))))
  (aN (bF (rJ 1)))))
def aA0(T:Txt K mg t):cV P w K mg base (CX1 P w) 2 t.vO t.gn ["thing"] (spF K (aa mg) 1 mG):=
 bQ (k:=1) (f:=gn) T.vV aAO λ n _ _ _ _ _ _ _=>
  (aN (bF (lC (bI (qN T) T.nZ (aD (aA 0) aH)) (nC (aFZ aL (aA 0) (aBH T.gA T.u9 (λ _ _=>.int _)))))))
def qO(T:Txt K mg t):cV P w K mg base (CX1 P w) 2 t.uF t.fQ ["many","thing"] (spF K (aa mg) 2 dj):=
 bQ (k:=1) (f:=fQ) T.n6 yX λ n _ _ _ _ _ _ _=>
  (aN (bF (lC (bI (qN T) T.nZ (aD (aA 1) aH)) (nC (aFY aL (aA 1) (aA 0))))))
def aAY(T:Txt K mg t):cV P w K mg base (CX1 P w) 2 t.vM t.gk ["_law_cell","_law_most"] (spF K (aa mg) 2 jc):=
 bQ (k:=1) (f:=gk) T.vR aAM λ n _ _ _ _ _ _ _=>
  (aK (bZ (i:=2) (jM (bI (jA T) T.iR (aD (aA 0) (aD aL (aD (fG (aA 1) aL) aH))))))
  (aK (bZ (i:=3) (jM (fG aL (bI (jA T) T.iR (aD (aA 0) (aD aL (aD aL aH)))))))
  (aK (vy (i:=4) (aCw (aDN aH)))
  (aK (gM (eV (aD (aA 2) aH) T.cY) (bV (ks:=[5]))
   (aN (gM (aBD (aD (fG (aA 5) aL) (aD (aA 2) aH)) T.cY) (bV (ks:=[6]))
    (aN (iy (aDB (bI (jA T) T.iR (aD (aA 0) (aD (fG (fG aL (pK aL (aA 5))) (aA 6)) (aD aL aH)))) (aA 3))
     (aN (uv 4 (bu (aD (cI (aA 5)) (aD (cI (aA 6)) aH)))))
     cW)))))
  (aN (bF (bu (aD (cI (aA 2)) (aD (oK T.jB (aD (aBE 4) aH)) aH)))))))))
def wj(T:Txt K mg t):cV P w K mg base (CX1 P w) 2 t.qU t.dw ["_law_web_here","_law_bar","_law_ends"] (spF K (aa mg) 3 eH):=
 bQ (k:=1) (f:=dw) T.qd wJ λ n _ _ _ _ _ _ _=>
  (aN (bF (pJ (jk T.oV (aD (bI (wu T) T.qe (aD (bI (yq T) T.uL (aD (aA 0) (aD (aA 1) aH))) aH)) aH)) (jk T.oV (aD (lB (N:=["_law_place","_law_ends"]) (js:=[none,some 2]) (ks:=[0]) (eU (aA 1)) bM (pI (aDA (aA 0) (aA 1))) (cI (aA 0))) aH)))))
def aAZ(T:Txt K mg t):cV P w K mg base (CX1 P w) 3 t.vN t.gm ["many","thing"] (spF K (aa mg) 2 je):=
 bQ (k:=2) (f:=gm) T.vU aAN λ n _ _ _ _ _ _ _=>
  (aK (iy (SW.st (aCv (mz (jh (pM (aA 1) T.aU T.jB))) (aAH (yN (jk T.oV (aD (aA 1) aH)) aL))))
   (aN (bF oM))
   cW)
  (aN (bF (lC (bI (qO T) T.n6 (aD (aA 0) (aD (aR (aA 1) aL) aH))) (lC (bI (qO T) T.n6 (aD (aA 0) (aD (aR (aA 1) aL) aH))) (nC (aJU (aR (aA 1) aL) (aR (aA 1) aL))))))))
def mJ(T:Txt K mg t):cV P w K mg base (CX1 P w) 4 t.iK t.au ["many","thing"] (spF K (aa mg) 2 bG):=
 bQ (k:=3) (f:=au) T.iT mH λ n _ _ _ _ _ _ _=>
  (aK (iy (mz (jh (pM (aA 1) T.aU T.jB)))
   (aN (bF oM))
   cW)
  (aK (gM (eU (aA 1)) (bV (ks:=[2]))
   (aN (iy (mz (jh (bI (aAZ T) T.vU (aD (aA 0) (aD (aA 2) aH)))))
    (aN (bF oM))
    cW)))
  (aN (bF (bI (xF T) T.qi (aD (aA 1) aH))))))
def yr(T:Txt K mg t):cV P w K mg base (CX1 P w) 5 t.uH t.fU ["many","thing"] (spF K (aa mg) 2 kJ):=
 bQ (k:=4) (f:=fU) T.uM yc λ n _ _ _ _ _ _ _=>
  (aN (bF (lC (bI (mJ T) T.iT (aD (aA 0) (aD (aA 1) aH))) (nC (aH1 T.aJd (aD (lB (N:=["low","high"]) (js:=[none,none]) (ks:=[0,1]) (eU (aA 1)) (pH (n:=2) (cQ bM (cQ bM lq))) ji (aJV (aA 0) (aA 1))) aH))))))
def aCO(T:Txt K mg t):cV P w K mg base (CX1 P w) 6 t.zY t.iU ["thing"] (spF K (aa mg) 1 jd):=
 bQ (k:=5) (f:=iU) T.z7 aCB λ n _ _ _ _ _ _ _=>
  (aK (iy (SW.st (aCv (mz (jh (pM (aA 0) T.aU T.jB))) (aAH (yN (jk T.oV (aD (aA 0) aH)) aL))))
   (aN (bF oM))
   cW)
  (aN (bF (lC (bI (aA0 T) T.vV (aD (aR (aA 0) aL) aH)) (nC (bI (yr T) T.uM (aD (aR (aA 0) aL) (aD (aR (aA 0) aL) aH))))))))
def xG(T:Txt K mg t):cV P w K mg base (CX1 P w) 7 t.q9 t.dD ["thing"] (spF K (aa mg) 1 cC):=
 bQ (k:=6) (f:=dD) T.qj wO λ n _ _ _ _ _ _ _=>
  (aN (iy (mz (jh (bI (aCO T) T.z7 (aD (aA 0) aH))))
   (aN (yP rfl T.aB1 T.aB4 T.nj (aD wG aH)))
   cW))
def gD(T:Txt K mg t):cV P w K mg base (CX1 P w) 8 t.uG t.bY ["web"] (spF K (aa mg) 1 ao):=
 bQ (k:=7) (f:=bY) T.fM yZ λ n _ _ _ _ _ _ _=>
  (aK (aFO (bI (xG T) T.qj (aD (aA 0) aH)))
  (aK (iy (aJP (aR (aA 0) aL) (aBH T.gB T.uc (λ _ _=>.int _)))
   (aN (yP rfl T.vC T.vG T.jW (aD wG aH)))
   cW)
  (aK (lZ (i:=1) (aCy (N:=["others"]) (js:=[none]) (ks:=[0]) (eU (bI (yt T) T.uN (aD (aA 0) aH))) bM ji (aFV T.aJa (aD (lB (N:=["other"]) (js:=[none]) (ks:=[0]) (eU (aA 0)) bM ji (aAJ aL (aA 0))) aH))))
  (aK (bZ (i:=2) (jM (pJ (aAJ aL (aR (aA 0) aL)) aL)))
  (aK (vy (i:=3) (aCw (aDN aH)))
  (aK (gM (eV (aD (fG (aA 2) aL) aH) T.cY) (bV (ks:=[4]))
   (aK (bZ (i:=5) (jM (oK T.jB (aD (bI (wg T) T.qb (aD (aA 4) aH)) aH))))
   (aN (uv 3 (bu (aD (pJ (jk T.oV (aD (aA 5) aH)) (bI (pX T) T.kY (aD (rJ 1) (aD (pJ (aA 2) (aA 4)) aH)))) (aD (cI (aA 5)) aH)))))))
  (aK (aDF (aBF T.aBY (aD (wF 3) aH)) (pH (n:=2) (cQ (bV (ks:=[6,7])) (cQ (bV (ks:=[6,7])) lq))))
  (aN (bF (bu (aD (aDR (aA 6)) (aD (cI (aA 7)) aH))))))))))))
def lL(T:Txt K mg t):cV P w K mg base (CX1 P w) 10 t.mY t.m7 ["_law_call"] (spR P w K mg base 9 "told" (wdA t)):=
 aAR T.cF.F sS rfl rfl rfl rfl rfl rfl T.tM T.gq (wy T) T.jF.m T.jF.F.kp T.jF.b (by decide) λ C w h=>(aGm T.cb h).2
def aGl(T:Txt K mg t):∀c w,wdN c=some w->wdA t (aa mg c)=some w:=aJF (ns:=["NoWeb","NoPlace","NoWay","NoParting","TooMany","NoForest","NoPlan","NoOneWay","NoOrder","NoText","NoDeed","NoRow"]) T.cb (by simp only[List.map,T.aB4,T.aC1,T.aGD,T.zQ,T.vG,T.aAg,T.aEM,T.aAf,T.aC2,T.aEL,T.aEN,T.aGE])
def aJp(T:Txt K mg t){c Pt:Addr}{s:zAB}{H:Hp}(hr:dJ 10 (zCO.deeper (zC9 "law" (aF oN) s.heap.objs.size t.aBe (.ref c))))(Lx:qu (cxW P w K mg base ["_law_script","_law_k","_law_cell","_law_web_here","_law_told","_law_most","_law_due","_law_turn","_law_found"] "law" (aF oN) t.aBe (.ref c) zCO s H Pt) Pt)(n:zGb (["_law_script","_law_k","_law_cell","_law_web_here","_law_told","_law_most","_law_due","_law_turn","_law_found"]:List Str)):
  SSs (ctW P w K mg base ["_law_script","_law_k","_law_cell","_law_web_here","_law_told","_law_most","_law_due","_law_turn","_law_found"] "law" (aF oN) t.aBe (.ref c) zCO s H Pt 10 hr) (cH oN) uO:=
  (aK (gM (eV (aD (aFX T.aHC (aD aL (aD (aBG T.aBY (aD (jk T.oV (aD (aA 0) aH)) (aD aL aH))) aH))) aH) T.cY) (bV (ks:=[1]))
   (aK (bZ (i:=2) (jM (bI (tE T) T.m6 (aD (aA 0) (aD (aA 1) aH)))))
   (aK (bZ (i:=3) (jM (bI (aAY T) T.vR (aD (aA 2) (aD aL aH)))))
   (aK (lZ (i:=4) (aCy (N:=["_law_bar","_law_web_here"]) (js:=[none,some 3]) (ks:=[0]) (eU (bI (ww T) T.qg (aD (aR (aA 3) aL) aH))) bM ji (bu (aD (bI (wj T) T.qd (aD (aA 1) (aD (aA 0) (aD (bu aH) aH)))) (aD (cI (aA 0)) aH)))))
   (aK (bZ (i:=5) (jM (aFW T.aHC (aD (lB (N:=["_law_row"]) (js:=[none]) (ks:=[0]) (eU (aA 4)) bM ji (cI (aR (aA 0) aL))) aH))))
   (aK (bZ (i:=6) (jM (bu (aD (aA 5) (aD (aBF T.aBY (aD (lB (N:=["_law_row","_law_most"]) (js:=[none,some 5]) (ks:=[0]) (eU (aA 4)) bM (pI (aDC (aR (aA 0) aL) (aA 1))) (cI (aR (aA 0) aL))) aH)) aH)))))
   (aK (gM (eV (aD aL aH) T.cY) (bV (ks:=[7]))
    (aK (bZ (i:=8) (jM (bI (gD T) T.fM (aD (aA 3) aH))))
    (aN (iy (SW.st (aCv (mz (jh (pM (aA 8) T.aU T.jB))) (aAH (yN (aA 8) (aA 6)))))
     (aN (bF oM))
     cW))))
   (aK (iy (yN (aDQ (k:=10) (k0:=9) (kb:=8) (wn:=wdN) (wd:=wdA t) (λ _=>lL T) (zDv rfl) T.cF.m T.cF.F.kp T.cF.b (λ _=>⟨⟨_,Lx⟩,rfl,rfl,rfl⟩) ⟨rfl,rfl,rfl,by decide+kernel,by decide+kernel⟩ rfl (aGl T) (by decide) (λ _ _ _ _ _ _ _ _ _ _=>(bI (gD T) T.fM (aD (bu (aD (fG aL (bI (jA T) T.iR (aD (aA 2) (aD aL (aD aL aH))))) (aD (bu aH) aH))) aH))) (hfree:=λ _=>zP (sc:=aF oN) (by decide+kernel))) wG)
    (aN (bF oM))
    cW)
   (aN (iy (yN (aDQ (k:=10) (k0:=9) (kb:=8) (wn:=wdN) (wd:=wdA t) (λ _=>lL T) (zDv rfl) T.cF.m T.cF.F.kp T.cF.b (λ _=>⟨⟨_,Lx⟩,rfl,rfl,rfl⟩) ⟨rfl,rfl,rfl,by decide+kernel,by decide+kernel⟩ rfl (aGl T) (by decide) (λ _ _ _ _ _ _ _ _ _ _=>(bI (gD T) T.fM (aD (bu (aD (aR (aA 3) aL) aH)) aH))) (hfree:=λ _=>zP (sc:=aF oN) (by decide+kernel))) wG)
    (aN (bF oM))
    cW))))))))))
  (aN (bF (lC (aGp (bI (gD T) T.fM (aD (bu (aD aL (aD (bu aH) aH))) aH)) (bu (aD aL (aD (bu aH) aH)))) (nC (aGp (bI (gD T) T.fM (aD (bu (aD aL (aD (bu aH) aH))) aH)) (bu (aD aL (aD (bu aH) aH)))))))))
end
def aHN{K:zAA}{h:Heap}{mg:Str->Option Value}{tk_MOST_PLACES:Tok}{tk_MOST_BARRED:Tok}{q_FewError:Addr}{q_NoWeb:Addr}{q_NoPlace:Addr}{q_NoWay:Addr}{q_NoParting:Addr}{q_TooMany:Addr}{q_NoForest:Addr}{q_NoPlan:Addr}{q_NoOneWay:Addr}{q_NoOrder:Addr}{q_NoText:Addr}{q_NoDeed:Addr}{q_NoRow:Addr}(X:K.In h)(G:h.Ns zAV mg)
  (h0:∃f d,Enr K "is_whole" nG f d)
  (h1:∃f d,Enr K "is_many" pQ f d)
  (h2:∃f d,Enr K "is_place" nH f d)
  (h3:∃f d,Enr K "is_pair" pP f d)
  (h4:∃f d,Enr K "is_rising" lJ f d)
  (h5:∃f d,Enr K "are_rising_pairs" dZ f d)
  (h6:∃f d,Enr K "are_ties" nM f d)
  (h7:∃f d,Enr K "is_web" sV f d)
  (h8:∃f d,Enr K "check_web" lK f d)
  (h9:∃f d,Enr K "all_tied" nO f d)
  (h10:∃f d,Enr K "places_in" lD f d)
  (h11:∃f d,Enr K "parts_counted" gO f d)
  (h12:∃f d,Enr K "best_bar" nJ f d)
  (h13:∃f d,Enr K "_law_cell_at" jP f d)
  (h14:∃f d,Enr K "_law_draw" nF f d)
  (h15:∃f d,Enr K "_law_web" pO f d)
  (h16:∃f d,Enr K "_law_parts" lF f d)
  (h17:∃f d,Enr K "_law_left" nD f d)
  (h18:∃f d,Enr K "_law_shown" lE f d)
  (h19:∃f d,Enr K "_law_class" lH f d)
  (h20:∃f d,Enr K "_law_refused" jO f d)
  (h21:∃f d,Enr K "_law_every" lG f d)
  (h22:∃f d,Enr K "law" oN f d)
  (gA:zA2 K zAV "MOST_PLACES"=some (some (.int 60 tk_MOST_PLACES)))
  (gB:zA2 K zAV "MOST_BARRED"=some (some (.int 12 tk_MOST_BARRED)))
  (y_FewError:zA2 K zAV "FewError"=some (some (.ref q_FewError)))
  (gq:bN K q_FewError)
  (y_NoWeb:zA2 K zAV "NoWeb"=some (some (.ref q_NoWeb)))
  (nj:bN K q_NoWeb)
  (y_NoPlace:zA2 K zAV "NoPlace"=some (some (.ref q_NoPlace)))
  (lX:bN K q_NoPlace)
  (y_NoWay:zA2 K zAV "NoWay"=some (some (.ref q_NoWay)))
  (rE:bN K q_NoWay)
  (y_NoParting:zA2 K zAV "NoParting"=some (some (.ref q_NoParting)))
  (iw:bN K q_NoParting)
  (y_TooMany:zA2 K zAV "TooMany"=some (some (.ref q_TooMany)))
  (jW:bN K q_TooMany)
  (y_NoForest:zA2 K zAV "NoForest"=some (some (.ref q_NoForest)))
  (jg:bN K q_NoForest)
  (y_NoPlan:zA2 K zAV "NoPlan"=some (some (.ref q_NoPlan)))
  (nu:bN K q_NoPlan)
  (y_NoOneWay:zA2 K zAV "NoOneWay"=some (some (.ref q_NoOneWay)))
  (jf:bN K q_NoOneWay)
  (y_NoOrder:zA2 K zAV "NoOrder"=some (some (.ref q_NoOrder)))
  (lY:bN K q_NoOrder)
  (y_NoText:zA2 K zAV "NoText"=some (some (.ref q_NoText)))
  (nq:bN K q_NoText)
  (y_NoDeed:zA2 K zAV "NoDeed"=some (some (.ref q_NoDeed)))
  (oA:bN K q_NoDeed)
  (y_NoRow:zA2 K zAV "NoRow"=some (some (.ref q_NoRow)))
  (rF:bN K q_NoRow)
  (cb:L2.aAq K q_FewError [q_NoWeb,q_NoPlace,q_NoWay,q_NoParting,q_TooMany,q_NoForest,q_NoPlan,q_NoOneWay,q_NoOrder,q_NoText,q_NoDeed,q_NoRow]=true)
  (z_ValueError:zA2 K zAV "ValueError"=some none)
  (z_all:zA2 K zAV "all"=some none)
  (z_bool:zA2 K zAV "bool"=some none)
  (z_int:zA2 K zAV "int"=some none)
  (z_isinstance:zA2 K zAV "isinstance"=some none)
  (z_len:zA2 K zAV "len"=some none)
  (z_list:zA2 K zAV "list"=some none)
  (z_max:zA2 K zAV "max"=some none)
  (z_min:zA2 K zAV "min"=some none)
  (z_range:zA2 K zAV "range"=some none)
  (z_set:zA2 K zAV "set"=some none)
  (z_sorted:zA2 K zAV "sorted"=some none)
  (z_sum:zA2 K zAV "sum"=some none)
  (z_tuple:zA2 K zAV "tuple"=some none):
  ∃t,Txt K mg t:=by
 obtain⟨f0,d0,F0,a0⟩:=dnr X G h0 ["thing"];obtain⟨f1,d1,F1,a1⟩:=dnr X G h1 ["thing"];obtain⟨f2,d2,F2,a2⟩:=dnr X G h2 ["many","thing"];obtain⟨f3,d3,F3,a3⟩:=dnr X G h3 ["many","thing"];obtain⟨f4,d4,F4,a4⟩:=dnr X G h4 ["things"];obtain⟨f5,d5,F5,a5⟩:=dnr X G h5 ["many","thing"];obtain⟨f6,d6,F6,a6⟩:=dnr X G h6 ["many","thing"];obtain⟨f7,d7,F7,a7⟩:=dnr X G h7 ["thing"];obtain⟨f8,d8,F8,a8⟩:=dnr X G h8 ["thing"];obtain⟨f9,d9,F9,a9⟩:=dnr X G h9 ["web"];obtain⟨f10,d10,F10,a10⟩:=dnr X G h10 ["group"];obtain⟨f11,d11,F11,a11⟩:=dnr X G h11 ["near","group"];obtain⟨f12,d12,F12,a12⟩:=dnr X G h12 ["web"];obtain⟨f13,d13,F13,a13⟩:=dnr X G h13 ["_law_script","_law_k"];obtain⟨f14,d14,F14,a14⟩:=dnr X G h14 ["_law_cell","_law_k","_law_bound"];obtain⟨f15,d15,F15,a15⟩:=dnr X G h15 ["_law_cell","_law_most"];obtain⟨f16,d16,F16,a16⟩:=dnr X G h16 ["_law_web_here"];obtain⟨f17,d17,F17,a17⟩:=dnr X G h17 ["_law_web_here","_law_places"];obtain⟨f18,d18,F18,a18⟩:=dnr X G h18 ["_law_web_here","_law_bar","_law_ends"];obtain⟨f19,d19,F19,a19⟩:=dnr X G h19 ["_law_error"];obtain⟨f20,d20,F20,a20⟩:=dnr X G h20 ["_law_call"];obtain⟨f21,d21,F21,a21⟩:=dnr X G h21 ["_law_many"];obtain⟨f22,d22,F22,a22⟩:=dnr X G h22 ["_law_script"]
 exact⟨⟨f0,_,f1,_,f2,_,f3,_,f4,_,f5,_,f6,_,f7,_,f8,_,f9,_,f10,_,f11,_,f12,_,f13,_,f14,_,f15,_,f16,_,f17,_,f18,_,f19,_,f20,_,f21,_,f22,_,_,_,q_FewError,q_NoWeb,q_NoPlace,q_NoWay,q_NoParting,q_TooMany,q_NoForest,q_NoPlan,q_NoOneWay,q_NoOrder,q_NoText,q_NoDeed,q_NoRow⟩,⟨F0,F1,F2,F3,F4,F5,F6,F7,F8,F9,F10,F11,F12,F13,F14,F15,F16,F17,F18,F19,F20,F21,F22,zA4 X G gA,⟨_,rfl⟩,zA4 X G gB,⟨_,rfl⟩,zA4 X G y_FewError,(by unfold aa;rw[zA4 X G y_FewError]),gq,zA4 X G y_NoWeb,(by unfold aa;rw[zA4 X G y_NoWeb]),nj,zA4 X G y_NoPlace,(by unfold aa;rw[zA4 X G y_NoPlace]),lX,zA4 X G y_NoWay,(by unfold aa;rw[zA4 X G y_NoWay]),rE,zA4 X G y_NoParting,(by unfold aa;rw[zA4 X G y_NoParting]),iw,zA4 X G y_TooMany,(by unfold aa;rw[zA4 X G y_TooMany]),jW,zA4 X G y_NoForest,(by unfold aa;rw[zA4 X G y_NoForest]),jg,zA4 X G y_NoPlan,(by unfold aa;rw[zA4 X G y_NoPlan]),nu,zA4 X G y_NoOneWay,(by unfold aa;rw[zA4 X G y_NoOneWay]),jf,zA4 X G y_NoOrder,(by unfold aa;rw[zA4 X G y_NoOrder]),lY,zA4 X G y_NoText,(by unfold aa;rw[zA4 X G y_NoText]),nq,zA4 X G y_NoDeed,(by unfold aa;rw[zA4 X G y_NoDeed]),oA,zA4 X G y_NoRow,(by unfold aa;rw[zA4 X G y_NoRow]),rF,zAj X G z_ValueError,zAj X G z_all,zAj X G z_bool,zAj X G z_int,zAj X G z_isinstance,zAj X G z_len,zAj X G z_list,zAj X G z_max,zAj X G z_min,zAj X G z_range,zAj X G z_set,zAj X G z_sorted,zAj X G z_sum,zAj X G z_tuple,cb⟩⟩
def aIx{l:zEa}{w:World}{K:zAA}{h:Heap}{mg:Str->Option Value}{fa Pt:Addr}(X:K.In h)(G:h.Ns zAV mg)(hfa:mg "law"=some (.ref fa))(hB:xR K "law" Pt=true)(ht:∃t,Txt K mg t):L2.aBu l.prog w K mg fa Pt 10 63:=by
 obtain⟨t,T⟩:=ht;have e:=hfa.symm.trans T.aHI.m;cases e;exact aGC (f:=uO) (F:=aFG) X G hB T.aHI aH3 (λ _ _ _ _ _ _ _ _=>.of_eq rfl) (λ base c s H hr Lx nd=>aJp T hr Lx nd) rfl aEI
def walk{l:zEa}{q:zAP}{loose:List Str}{XP:(Str->Option Value)->Heap->Prop}{YP:World->Heap->Prop}{d:DefRec}{K:Params->zAA}{Pt:Addr}(hn:l.most=some 63)(hdf:d.params.defaults=[])
  (hY:∀(w:World) (h:Heap),YP w h->(K w.params).In h/\h.get? Pt=some (zBv #[]))
  (F:∀(w:World) (mg:Str->Option Value) (fa:Addr) (h:Heap),(K w.params).In h->h.Ns zAV mg->mg d.name=some (.ref fa)->L2.aBu l.prog w (K w.params) mg fa Pt 10 63):
  zGy q loose XP YP l.row.toRowW d [] (λ f vs=>zGV f vs):=
 L2.aCp hn (by decide) hdf ⟨rfl,by decide,by decide⟩ hY F
end VL.My
open PySem PySem.W PyProof.Rows
set_option maxRecDepth 100000 in
set_option maxHeartbeats 0 in
theorem PySem.Challenge.cw_fewways_k23_best_bars_holds : PySem.Challenge.rw_fewways_k23_best_bars.Holds := by
 w_on; o_law; k_head; (case hw=>w_witness2)
 k_fill
 refine VL.My.walk (l:=PySem.Challenge.rw_fewways_k23_best_bars) rfl rfl (fun w h Y=>⟨PySem.W.km_in_of Y,PySem.W.km_tabs_of Y _ zAI⟩) ?F
 case F =>
  intro w mg fa h KX G hmg
  refine VL.My.aIx KX G hmg ?B ?T
  (case B=>kernel_rfl)
  case T =>
   refine' VL.My.aHN KX G (VL.enr ?a0 ?l0 ?c0 ?k0) (VL.enr ?a1 ?l1 ?c1 ?k1) (VL.enr ?a2 ?l2 ?c2 ?k2) (VL.enr ?a3 ?l3 ?c3 ?k3) (VL.enr ?a4 ?l4 ?c4 ?k4) (VL.enr ?a5 ?l5 ?c5 ?k5) (VL.enr ?a6 ?l6 ?c6 ?k6) (VL.enr ?a7 ?l7 ?c7 ?k7) (VL.enr ?a8 ?l8 ?c8 ?k8) (VL.enr ?a9 ?l9 ?c9 ?k9) (VL.enr ?a10 ?l10 ?c10 ?k10) (VL.enr ?a11 ?l11 ?c11 ?k11) (VL.enr ?a12 ?l12 ?c12 ?k12) (VL.enr ?a13 ?l13 ?c13 ?k13) (VL.enr ?a14 ?l14 ?c14 ?k14) (VL.enr ?a15 ?l15 ?c15 ?k15) (VL.enr ?a16 ?l16 ?c16 ?k16) (VL.enr ?a17 ?l17 ?c17 ?k17) (VL.enr ?a18 ?l18 ?c18 ?k18) (VL.enr ?a19 ?l19 ?c19 ?k19) (VL.enr ?a20 ?l20 ?c20 ?k20) (VL.enr ?a21 ?l21 ?c21 ?k21) (VL.enr ?a22 ?l22 ?c22 ?k22) ?gA ?gB ?y_FewError ?gq ?y_NoWeb ?nj ?y_NoPlace ?lX ?y_NoWay ?rE ?y_NoParting ?iw ?y_TooMany ?jW ?y_NoForest ?jg ?y_NoPlan ?nu ?y_NoOneWay ?jf ?y_NoOrder ?lY ?y_NoText ?nq ?y_NoDeed ?oA ?y_NoRow ?rF ?cb ?z_ValueError ?z_all ?z_bool ?z_int ?z_isinstance ?z_len ?z_list ?z_max ?z_min ?z_range ?z_set ?z_sorted ?z_sum ?z_tuple
   (case y_FewError=>k_is); (case gq=>unfold L2.bN; k_exc)
   (case y_NoWeb=>k_is); (case nj=>unfold L2.bN; k_exc)
   (case y_NoPlace=>k_is); (case lX=>unfold L2.bN; k_exc)
   (case y_NoWay=>k_is); (case rE=>unfold L2.bN; k_exc)
   (case y_NoParting=>k_is); (case iw=>unfold L2.bN; k_exc)
   (case y_TooMany=>k_is); (case jW=>unfold L2.bN; k_exc)
   (case y_NoForest=>k_is); (case jg=>unfold L2.bN; k_exc)
   (case y_NoPlan=>k_is); (case nu=>unfold L2.bN; k_exc)
   (case y_NoOneWay=>k_is); (case jf=>unfold L2.bN; k_exc)
   (case y_NoOrder=>k_is); (case lY=>unfold L2.bN; k_exc)
   (case y_NoText=>k_is); (case nq=>unfold L2.bN; k_exc)
   (case y_NoDeed=>k_is); (case oA=>unfold L2.bN; k_exc)
   (case y_NoRow=>k_is); (case rF=>unfold L2.bN; k_exc)
   (case cb=>kernel_rfl)
   any_goals k_is
