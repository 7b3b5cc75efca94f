import PyProof.Rows.All
import KE.KDictOf
import PyProof.DictWalks
import Wide.All
import OpenK.AllK
import Wide.FinOn
import Lean
import PyProof.EqAt
import PyProof.EqKinds
import PyProof.TupleCall
import KE.LcSums
import PySem.Challenge.RW_fewways_k35_open_places
open Array renaming length_toList->zBU,getD_eq_getD_getElem?->zEe,getElem?_toList->zFo,toArray_toList->zGD,append_assoc->zGX,toList->zHX
open Array.Perm renaming refl->zGC
open Bool renaming and_eq_true->zAP,false_ne_true->zA5,eq_iff_iff->zBH,not_eq_true'->zBM,and_false->zCR,or_eq_true->zC0,and_true->zDU,and_assoc->zDv,false_eq_true->zET,or_true->zGE
open Classical renaming byContradiction->zE2,propDecidable->zEg,choose_spec->zEy,not_imp->zFp,skolem->zGG
open False renaming elim->zAJ
open ForInStep renaming yield->zBf
open Function renaming comp_def->zEF
open Int renaming toNat_of_nonneg->zB6,emod_lt_of_pos->zDG,emod_nonneg->zDk,zero_add->zDl,toNat_natCast->zGr
open LawfulBEq renaming eq_of_beq->zEm
open List renaming length_map->zAB,mem_singleton->zAD,getElem?_eq_getElem->zAE,mem_cons_of_mem->zAG,map_cons->zAH,size_toArray->zAI,mem_append_left->zAK,mem_cons_self->zAL,getElem?_eq_some_iff->zAM,replicate->zAN,mem_append->zAQ,mem_map->zAS,getElem?_map->zAT,length_append->zAV,map_append->zAW,mem_cons->zAX,mem_append_right->zA0,length_cons->zA2,mem_filter->zA6,mem_of_getElem?->zA9,getD_eq_getElem?_getD->zAa,nodup_append->zAb,map_map->zAe,nodup_iff_pairwise_ne->zAg,nodup_cons->zAh,pairwise_cons->zAi,append_nil->zAm,append_assoc->zAo,length_singleton->zAs,getElem?_set_ne->zAu,all_eq_true->zAv,range->zAw,map_congr_left->zAz,length_take->zBB,getElem?_set_self->zBF,take_of_length_le->zBG,pairwise_iff_getElem->zBI,filter_cons->zBJ,lookup_cons->zBK,length_set->zBP,zip_cons_cons->zBY,mem_of_mem_take->zB0,pairwise_map->zB2,length_nil->zB4,replicate_succ->zB5,map_reverse->zBa,mem_reverse->zBb,filter_append->zBc,length_filter_le->zBd,drop_eq_getElem_cons->zBh,getElem?_append_left->zBi,filter_congr->zBn,filterMap_cons->zBu,getElem?_replicate->zBv,getElem_of_mem->zBw,mem_filterMap->zCC,length_replicate->zCF,map_nil->zCG,flatten_cons->zCI,getElem?_inj->zCJ,reverse_cons->zCK,perm_ext_iff_of_nodup->zCL,mem_erase_of_ne->zCN,any_cons->zC2,getElem?_cons_zero->zC3,mem_range->zC9,countP_cons->zCg,getElem_map->zCh,getElem_mem->zCi,getElem_toArray->zCl,foldl_cons->zCt,nil_append->zCu,getElem?_append_right->zCy,append_of_mem->zDA,ne_nil_of_mem->zDB,length_erase_of_mem->zDO,take_add_one->zDP,getElem?_cons_succ->zDV,drop_length->zDZ,filter_nil->zDa,find?_cons->zDb,getElem?_eq_none->zDc,of_mem_zip->zDd,isEmpty_toArray->zDr,drop_zero->zDy,filter_eq_self->zEG,getElem?_range->zEH,length_flatMap->zEI,length_reverse->zEJ,lookup_append->zEV,set_cons_succ->zEW,set_cons_zero->zEX,sum_cons->zEY,reverse_perm->zE1,length_drop->zE9,mem_flatMap->zEa,not_mem_nil->zEb,exists_mem_of_ne_nil->zFW,foldl->zFd,all_cons->zFh,length_eq_zero_iff->zFi,length_pos_of_mem->zFq,range_succ_eq_map->zFr,all_map->zGJ,concat_eq_append->zGK,eq_nil_or_concat->zGL,max?_eq_some_iff->zGM,filter_sublist->zGZ,length->zG0,map_id->zG1,contains_cons->zG6,zip_nil_right->zG7,take_sublist->zGj,zip_nil_left->zGk,any_eq_true->zGs,append_inj'->zGt,flatMap_def->zGu,map_fst_zip->zGv,map_snd_zip->zGw,length_zip->zHH,max?->zHI,nodup_nil->zHN,sum->zHZ
open List.Pairwise renaming nil->zEz,imp_of_mem->zH8
open List.Perm renaming refl->zBp,swap->zE4
open List.Sublist renaming refl->zD9
open List.cons renaming injEq->zDR
open Nat renaming le_refl->zAU,lt_of_lt_of_le->zA3,le_trans->zAc,zero_le->zAj,ne_of_lt->zAn,le_of_lt->zBN,lt_irrefl->zBg,le_max_right->zD1,le_of_not_lt->zD2,lt_succ_self->zD3,le_max_left->zDm,min_self->zDn,ne_of_gt->zDo,pow_le_pow_right->zDz,sub_zero->zEc,le_succ->zFA,not_lt_zero->zFB,not_lt->zFj,mul_comm->zGQ,succ_eq_add_one->zG8,lt_trichotomy->zGx,succ_min_succ->zGz,add_one_inj->zHO
open Nat.succ renaming inj->zGy
open Ne renaming symm->zCz
open Option renaming map_eq_some_iff->zC4,map_some->zD4,isSome_some->zGR,toList_some->zGS,bind_some->zG9,getD_none->zGa,none->zH0
open Option.some renaming inj->zAk
open Or renaming inr->zBD,inl->zB3
open Prod renaming fst->zDp,snd->zEk,ext->zFk
open Prod.mk renaming injEq->zCf
open PyProof.Rows renaming step_dedup->zBA,IntsAre->zBC,slot_tuple_getitem->zBQ,seqObj->zBW,KeyOrd->zBr,callWith_type1->zC7,SortSt->zCj,kindOf->zCk,SortKind->zCr,get?_update_seq->zDM,envOfC->zDt,AllBare->zEM,lt_int->zEo,boot_range->zFR,sortedHeap->zFU,failedOf->zFn,pendingOf->zFx,listUpdate_at->zGd,subscriptTail->zGf,subscriptTail_builtinR->zGo,entry_tuple_getitem->zHR,seqEpoch_at->zHT,args_tuple_getitem->zH3,Subscript_->zHb
open PyProof.Rows.IsTup renaming new->zEj
open PyProof.Rows.KeyOrd renaming kle_refl->zCY,kle_trans->zDQ,kle_of_klt->zEU,kle_antisymm->zGI
open PySem renaming Shared->zAF,sizeLine->zAO,wpAny_bind->zAR,starEach->zAY,Program->zAZ,wpAny_pure->zA7,mainGlobals->zA8,Around->zAd,FuncData->zAf,mem_of_lookup->zAp,bootBuiltins->zAq,compareOp->zAr,sizeLine_eq->zB1,foldedSetIterable->zB8,wpAny_newObj_type->zB9,binaryOp->zBe,Keyword->zBj,swapsWith->zBm,backTo->zBx,call_meets->zBy,wpAny_mono->zBz,wpAny_truthy_bool->zCA,behindInMarks->zCD,keywordEach->zCO,wpAny_loadPart'->zCP,wpAny_passesOwn->zCQ,assignEach->zCT,attributeBase->zCU,wpAny_binaryOp_repeat_ref->zCZ,sysModules->zC6,typeIs_int->zCo,wpAny_loadPart_at->zCp,GenState->zCq,NameKind->zDC,wpAny_holding->zDF,cellsFrom->zDJ,codeAny->zDK,codeAny_builtin->zDL,sliceBounds->zDN,backToKw->zDW,wpAny_Call_Name_kw->zDX,Builtin->zDj,wpAny_call_entry->zDu,codeAny_mono->zEQ,letOwnedTupleGo->zER,wpAny_execs_nil->zES,typeLookup->zEZ,callerA->zE8,BindsTo->zEx,newList->zFS,slot_list_getitem->zFT,IsPart->zFV,Result->zFY,assign->zFb,wpAny_typeOf->zFc,noFill_tuple_add->zFg,SetTable->zFm,excClassObj->zFu,getItem->zFv,holding->zFw,relabel->zFy,richCompare->zFz,tupleKind->zGA,unsupported->zGB,newFunctionEnv->zGV,recursionLimit->zGW,closureFor->zG3,wpAny_comprehension_free->zG4,wpAny_getItem_list_slice->zG5,call->zGb,evalPart_none->zGc,seq_tuple_add->zGe,wpAny_callSpecial?_slot->zGg,wpAny_newList->zGh,seqSlot_of->zGm,richCompare_meets_room->zGn,Arguments->zGp,Paired->zHA,PassesOwn->zHB,concat_meets->zHE,inplaceOp->zHF,lastMarks->zHG,codeAny_call_builtin->zHK,wpAny_loadName_local->zHL,collect->zHQ,intKind->zHS,wpAny_field->zHU,wpAny_isSubtype_exc->zHV,wpAny_loadName_cell->zHW,Within->zH2,builtinsNs->zHd,wpAny_Name->zHe,wpAny_assign_Name->zHf,wpAny_load->zHg,wpAny_pyIter_list->zHh,wpAny_sequenceKey->zHi
open PySem.Around renaming under_plainId->zCd
open PySem.AutoSeq1 renaming sub_tuple_tuple->zEf
open PySem.Builtin.List renaming listTooLong->zBE,listExtendWith->zEB
open PySem.Builtin.Range renaming rangeSize->zAl,rangeFitsLong->zBL,small->zBX
open PySem.Builtin.Slice renaming slicePlaces->zCB,sliceAdjust->zCe,sliceApplied->zEC,sliceFields->zH4,slicePartIndex->zH5
open PySem.Builtin.Tuple renaming tupleExact->zBT,tupleCompareSizes->zD5,tupleItemsOf->zED,tupleTooMany->zEE,tupleHashOf->zH6,tupleIsExact->zH7
open PySem.Calls renaming Name_function_global->zEn,evalArgs_plain->zGF
open PySem.Data renaming seq->zHY
open PySem.F renaming plainAttrs_list->zBZ,slot_int_rmul->zBq,plain_list_iadd->zCW,slot_list_append->zC1,slot_list_extend->zCa,slot_tuple_mul->zCs,args_tuple_add_2->zDD,type_list_append->zDE,entry_tuple_add->zDH,slot_tuple_add->zDS,args_int_rmul_2->zDY,entry_list_iadd->zD6,entry_int_rmul->zD7,slot_int_index->zD8,fills_int_mul->zDw,typeOf_object_class->zDx,args_tuple_mul_2->zE3,entry_proto_collect->zE5,plain_proto_collect->zE6,args_object_init_2->zEd,entry_tuple_mul->zEh,typeCall_tuple_1->zEp,type_list_extend->zEq,entry_tuple_new->zFC,newCall_tuple_1->zFD,slot_list_count->zFE,called_tuple->zFl,slot_gs_get->zGP,slot_list_iadd->zGY,args_list_extend_2->zGi,entry_list_extend->zGq,slot_tuple_rmul->zHM
open PySem.Heap renaming get?_push_of_some->zAC,get?_push_size->zA1,lt_size->zA4,get?_update_ne->zBt,size_push->zC8,SameBut->zGH
open PySem.Heap.IsSliceOf renaming new->zEi
open PySem.NameKind renaming free->zB7,cell->zCb
open PySem.Obj renaming mapSeq->zCM
open PySem.Operator renaming Add->zEN
open PySem.Paired renaming length->zEK,snoc->zH1
open PySem.SeqAt renaming EqAt->zBl
open PySem.SeqAt.EqAt renaming of_refs->zBs,same->zCS,int_int->zDf,int_str->zDg,str_int->zDh,bool_tuple->zEr,list_tuple->zEs,none_tuple->zEt,tuple_bool->zEu,tuple_list->zEv,tuple_none->zEw,bool_bool->zFF,bool_list->zFG,bool_none->zFH,int_tuple->zFI,list_bool->zFJ,list_none->zFK,none_bool->zFL,none_list->zFM,str_tuple->zFN,tuple_int->zFO,tuple_str->zFP,bool_int->zFZ,bool_str->zF0,int_bool->zF1,int_list->zF2,int_none->zF3,list_int->zF4,list_str->zF5,none_int->zF6,none_str->zF7,str_bool->zF8,str_list->zF9,str_none->zFa,str_str->zFf
open PySem.SeqAt.RcAt renaming lists_lengths->zCv,tuples->zDs,lists->zEL
open PySem.Value renaming ref->zBS,none->zBV,type->zCV,int->zDI,builtin->zDT,bool->zDi,notImplemented->zDq,isInt->zEl,str->zFt,isStrOf->zHP,float->zHc
open PySem.W renaming Frag->zAA,nsIn->zAt,mg_none_of->zAx,kia_one->zAy,findIn->zBO,emptyDict->zBR,instObj->zBk,fnOf->zBo,mg_of->zCE,keepIn->zC5,looks_findIn->zCc,hideAll->zCm,hideAll_get->zCn,codeIn->zCw,kitOne->zCx,kas_rev->zD0,lookIn->zDe,Looks->zEA,kitx_dict->zEO,methodObj->zEP,plainGet->zE0,OpenLaw->zE7,cellsFrom_some->zFX,KasT->zFe,plainGet_of->zFs,kitx_tuple->zGN,of_hideAll->zGO,kas_place->zGT,kitx_list->zGU,ksm_same->zG2,InstAt->zGl,WalkO->zHC,excIn->zHD,isFn->zHJ
open PySem.W.Looks renaming ld->zH9,now->zHa
open Sum renaming inl->zCH,inr->zFQ
open True renaming intro->zCX
noncomputable section
namespace PySem.W.Fast
def tw1936212995525254648:=0
def tw15466196337346984760:=0
def tw1302589413965967288:=0
def tw12466487429123613752:=0
def tw3794939871640231992:=0
def tw17356972085890618776:=0
def tw18395929718893179480:=0
def tw13708964658712337225:=0
def tw2596030610488668713:=0
def tw5009045431532989033:=0
def tw7492936370260285481:=0
def tw2505098290078410857:=0
def tw12553993957773138089:=0
def tw10755737500553472649:=0
def tw7715596368203585226:=0
def tw5529160649475720458:=0
def tw8927858418272461499:=0
def tw1493821660576307483:=0
def tw2203679494315540475:=0
def tw456536955232289371:=0
def tw10913604505448585531:=0
def tw14427234076588331387:=0
def tw7976852601133179259:=0
def tw5908803828800671099:=0
def tw2093754866315172732:=0
def tw14157237118875781404:=0
def tw9890440330380197308:=0
def tw8176589204259991324:=0
def tw1495021422613167900:=0
def tw12731000028140236412:=0
def tw12951096757428099036:=0
def tw13862659150751161437:=0
def tw1013200933880220605:=0
def tw7562038011576257725:=0
def tw14147257036486599101:=0
def tw5260980418603211982:=0
def tw18352684422511325518:=0
def tw6388611422828801614:=0
def tw7608973553155503150:=0
def tw2848118644104855598:=0
def tw4054387168091215630:=0
def tw16909780123756868718:=0
def tw12302378758335038702:=0
def tw3785178468504073454:=0
def tw6915078856504685103:=0
def tw9950048570989405999:=0
def tw15397042876471971471:=0
def tw16765939628317917295:=0
def tw7173399473751677775:=0
def tw11373260054893064079:=0
def tw1611072788616250671:=0
def tw17233049487051224272:=0
def tw2172512388102184816:=0
def tw15860385602887177200:=0
def tw10588628708272229488:=0
def tw5887511931101994224:=0
def tw6483956209749848833:=0
def tw5310467289555594721:=0
def tw4461002821222171233:=0
def tw2828174486003879841:=0
def tw17521727237320636577:=0
def tw12464353646437174785:=0
def tw17635950663690243426:=0
def tw15017752941685226434:=0
def tw2523785966120421026:=0
def tw15708192513870041090:=0
def tw10812495897747840866:=0
def tw12395048502584005826:=0
def tw7335433041550500034:=0
def tw7349693122725206946:=0
def tw12708151994767413410:=0
def tw13263497280007736787:=0
def tw9190151040486107955:=0
def tw15456575012255497939:=0
def tw9411756908909244531:=0
def tw9574106735011175731:=0
def tw6918657207819441587:=0
def tw8882172487094075380:=0
def tw7090782695899983860:=0
def tw18287482364581400756:=0
def tw8498429983926156308:=0
def tw7138312348889186324:=0
def tw8911104830593500532:=0
def tw14658777727822643669:=0
def tw1844919268301615925:=0
def tw9692345156911837045:=0
def tw11113907422212804245:=0
def tw4715033524428477446:=0
def tw6468779973792104358:=0
def tw770628771163359334:=0
def tw12479815636444475014:=0
def tw3971154306397290150:=0
def tw8558974806226187463:=0
def tw10814443130943447751:=0
def tw16700799659900434375:=0
def tw15909281736218525351:=0
def tw7325395637817873416:=0
def tw4895108165115303720:=0
def tw17577957812477111496:=0
def tw8996728254125641992:=0
def tw13363669576987638088:=0
def tw16635577180778471464:=0
def tw7361658207222691400:=0
def tw15800902713458542280:=0
def tw2542295338328118088:=0
def tw6969072936033267769:=0
def tw711613876381585113:=0
def tw16214699177504410297:=0
def tw12248868159608606521:=0
def tw16815292465281075417:=0
def tw17269385103627635098:=0
def tw14253067667811821402:=0
def tw18051830974548875482:=0
def tw6880351003438139115:=0
def tw9934482245412304747:=0
def tw8931588229851240267:=0
def tw1209100931678453995:=0
def tw5925210282191879467:=0
def tw423314887267733579:=0
def tw13867616400455500395:=0
def tw14768377270729387884:=0
def tw2472797283368344396:=0
def tw8848758229343851052:=0
def tw17084991426770049709:=0
def tw13996171969909971821:=0
def tw9758966086221675085:=0
def tw5286778430043528237:=0
def tw4647781537779698445:=0
def tw7292479986839782221:=0
def tw16896085888066854061:=0
def tw9956681936766235885:=0
def tw10747587797399685982:=0
def tw616881467692298814:=0
def tw17529801517870290974:=0
def tw1444534410079384318:=0
def tw1530400172050150142:=0
def tw14937339197467542686:=0
def tw6742477397863591038:=0
def tw7552912896725107838:=0
def tw13504644046510849214:=0
def tw5756248367147628126:=0
def tw36870004202608127:=0
def tw17004937539993291391:=0
def tw9324837743374739071:=0
def tw9598405592955984991:=0
def tw143961711150475359:=0
def tw9863756292845334687:=0
def tw6749971918991538303:=0
def tw9753132351602555423:=0
def tw7996531294969357280:=0
def tw15086785720929537984:=0
def tw11884817806480629824:=0
def tw15588275191151428064:=0
def tw14411450864351928369:=0
def tw1954975942322621553:=0
def tw6472306443458368593:=0
def tw9757014211199750577:=0
def tw7221137891647921425:=0
def tw15563282763786226001:=0
def tw7355811589146879154:=0
def tw11319213863717479698:=0
def tw16133541896487361394:=0
def tw6967113581250967474:=0
def tw8908947063054045106:=0
def tw11238929335677494307:=0
def tw8866059367749661027:=0
def tw4607102549394353571:=0
def tw10639052659273485731:=0
def tw4915943347706884099:=0
def tw7184808509603163267:=0
def tw3671051697866795939:=0
def tw8951300748801860931:=0
def tw7172937480483751300:=0
def tw4526184861261551780:=0
def tw1602576902071273956:=0
def tw1845348159754920484:=0
def tw3881708247263871365:=0
def tw17855859691655716965:=0
def tw14714069909812509125:=0
def tw17552816566797768997:=0
def tw1157228604690079557:=0
def tw9822493749159428037:=0
def tw8063792271666206853:=0
def tw8794793205217107205:=0
def tw16896493622492864485:=0
def tw1674263855958084982:=0
def tw2093179137843000086:=0
def tw8297532227529100118:=0
def tw6342094373656996662:=0
def tw6652612874544592758:=0
def tw6217190576410810486:=0
def tw1224005944935891126:=0
def tw18101662966471205046:=0
def tw15348584538177711414:=0
def tw1110668300834502327:=0
def tw13195029212010917815:=0
def tw5356161865762641975:=0
def tw12368483118843998327:=0
def tw13709876143077100055:=0
def tw9511134164532329111:=0
def tw1185235896170369673:=0
def tw10982395246472582975:=0
end PySem.W.Fast
abbrev gX:=List (Int×Int)
abbrev gV:=List (List Int)
abbrev hZ:=List (PySem.Addr×PySem.Obj)
set_option bootstrap.genMatcherCode false
set_option compiler.extract_closed false
set_option Elab.async false
set_option linter.all false
set_option maxRecDepth 100000
namespace L2
open PySem PySem.Spec PyProof.Rows
abbrev Key:=Sum Int Str
def vQ:Key->Value->Bool
 | .inl k,v=>zEl k v
 | .inr x,v=>zHP x v
def aKc(w:World):Key->Int
 | .inl k=>hashInt k
 | .inr x=>hashStr w x
def b8:∀{k:Key} {v:Value},vQ k v=true->(∃i t,k=zCH i/\v=zDI i t)\/(∃x t,k=zFQ x/\v=zFt x t)
 | .inl i,v,h=>by
  obtain⟨t,e⟩:=Value.isInt_shape (k:=i) (v:=v) h;exact .inl ⟨i,t,rfl,e⟩
 | .inr x,v,h=>by
  obtain⟨t,e⟩:=Value.isStrOf_shape (x:=x) (v:=v) h;exact .inr ⟨x,t,rfl,e⟩
def aCR(i:Int)(t:Tok):vQ (.inl i) (.int i t)=true:=by simp[vQ,zEl]
def aCQ(x:Str)(t:Tok):vQ (.inr x) (.str x t)=true:=by simp[vQ,zHP]
def aI9(a b:Int):decide ((zCH a:Key)=zCH b)=(a==b):=by
 by_cases e:a=b
 .subst e;simp
 .have h:¬(zCH a:Key)=zCH b:=λ q=>e (Sum.inl.inj q)
  rw[decide_eq_false h];exact(beq_eq_false_iff_ne.mpr e).symm
def aI6(a b:Str):decide ((zFQ a:Key)=zFQ b)=decide (a=b):=by
 by_cases e:a=b
 .subst e;simp
 .have h:¬(zFQ a:Key)=zFQ b:=λ q=>e (Sum.inr.inj q)
  rw[decide_eq_false h,decide_eq_false e]
def aI8(a:Int)(b:Str):decide ((zCH a:Key)=zFQ b)=false:=decide_eq_false (λ q=>nomatch q)
def aI7(a:Str)(b:Int):decide ((zFQ a:Key)=zCH b)=false:=decide_eq_false (λ q=>nomatch q)
def cF(prog:zAZ)(w:World):PySem.KeyKind prog w Key where
 is:=vQ
 hash:=aKc w
 inj:=λ v a b ha hb=>by
  rcases b8 ha with ⟨i,t,rfl,rfl⟩|⟨x,t,rfl,rfl⟩
  .rcases b8 hb with ⟨j,u,rfl,e⟩|⟨y,u,rfl,e⟩
   .injection e with e1 _;rw[e1]
   .exact nomatch e
  .rcases b8 hb with ⟨j,u,rfl,e⟩|⟨y,u,rfl,e⟩
   .exact nomatch e
   .injection e with e1 _;rw[e1]
 byValue:=λ k v h=>by
  rcases b8 h with ⟨i,t,rfl,rfl⟩|⟨x,t,rfl,rfl⟩<;>rfl
 pyHash:=λ hv h=>by
  rcases b8 hv with ⟨i,t,rfl,rfl⟩|⟨x,t,rfl,rfl⟩
  .exact wpAny_pyHash_int h
  .exact wpAny_pyHash_str h
 eqBool:=λ hu hv h=>by
  rcases b8 hu with ⟨i,t,rfl,rfl⟩|⟨x,t,rfl,rfl⟩
  .rcases b8 hv with ⟨j,u,rfl,rfl⟩|⟨y,u,rfl,rfl⟩
   .rw[aI9]at h;exact wpAny_eqBool_int h
   .rw[aI8]at h;exact zDg i t y u _ _ _ _ h
  .rcases b8 hv with ⟨j,u,rfl,rfl⟩|⟨y,u,rfl,rfl⟩
   .rw[aI7]at h;exact zDh x t j u _ _ _ _ h
   .rw[aI6]at h;exact wpAny_eqBool_str h
 «strs»:=λ k x t v h=>by
  rcases b8 h with ⟨i,u,rfl,e⟩|⟨y,u,rfl,e⟩
  .exact nomatch e
  .injection e with e1 _
   subst e1;cases v<;>rfl
def zL(prog:zAZ)(w:World)(i:Int)(t:Tok):(cF prog w).is (.inl i) (.int i t)=true:=aCR i t
def zK(prog:zAZ)(w:World)(x:Str)(t:Tok):(cF prog w).is (.inr x) (.str x t)=true:=aCQ x t
inductive V where
 |non|bl (b:Bool)|int (i:Int)|str (x:Str)|byt (b:Array UInt8)|flt (b:UInt64)|ref (a:Addr)|ty (n:String)
 deriving DecidableEq
def RelV:V->Value->Prop
 | .non,u=>u=zBV
 | .bl b,u=>u=zDi b
 | .int i,u=>∃t,u=zDI i t
 | .str x,u=>∃t,u=zFt x t
 | .byt b,u=>∃t,u=Value.bytes b t
 | .flt b,u=>∃t,u=zHc b t
 | .ref a,u=>u=zBS a
 | .ty n,u=>u=zCV n
abbrev Vals:List V->List Value->Prop:=zHA RelV
theorem Vals.length(r:Vals xs us):xs.length=us.length:=zEK r
theorem Vals.get:∀{xs:List V} {us:List Value} {i:Nat} {x:V},Vals xs us->xs[i]? =some x->∃u,us[i]? =some u/\RelV x u
 |_,_,_,_,.nil,e=>by simp at e
 |_,_,0,_,.cons r _,e=>by simp at e;subst e;exact⟨_,rfl,r⟩
 |_,_,i+1,x,.cons _ t,e=>by
  obtain⟨u,h1,h2⟩:=Vals.get (i:=i) (x:=x) t (by simpa using e);exact⟨u,by simpa using h1,h2⟩
theorem Vals.append:∀{xs ys:List V} {us ws:List Value},Vals xs us->Vals ys ws->Vals (xs++ys) (us++ws)
 |_,_,_,_,.nil,s=>s
 |_,_,_,_,.cons r t,s=>.cons r (Vals.append t s)
theorem Vals.take:∀{xs:List V} {us:List Value} (n:Nat),Vals xs us->Vals (xs.take n) (us.take n)
 |_,_,0,_=>.nil
 |_,_,_+1,.nil=>.nil
 |_,_,n+1,.cons r t=>.cons r (Vals.take n t)
theorem Vals.drop:∀{xs:List V} {us:List Value} (n:Nat),Vals xs us->Vals (xs.drop n) (us.drop n)
 |_,_,0,r=>r
 |_,_,_+1,.nil=>.nil
 |_,_,n+1,.cons _ t=>Vals.drop n t
def yF:Option V->Option Value->Prop
 |some v,some u=>RelV v u
 |none,none=>True
 |_,_=>False
def KV{κ:Type}:List (κ×V)->List (κ×Value)->Prop:=zHA λ(p:κ×V) (q:κ×Value)=>p.1=q.1/\RelV p.2 q.2
def kV:Key->V
 | .inl i=>.int i
 | .inr x=>.str x
inductive HO where
 |lst (xs:List V)
 |tup (xs:List V)
 |dK (kvs:List (Key×V))|dT (kvs:List (List Key×V))
 |set (S:Int->Bool) (n:Nat)
 |ins (C dx:Addr) (fs:List (Str×V))
 |own (x:Addr)
 |xd (fs:List (Str×V))
 |met (f x:Addr)
 |rng (lo hi:Int)
 |frz (o:Obj) (u:HO)
 |tbl (ps:Array Value)
 |ext (φ:Heap->Prop)
abbrev Hp:=Addr->Option HO
def upd(H:Hp)(a:Addr)(o:HO):Hp:=λ b=>if b=a then some o else H b
def aa:upd H a o a=some o:=by unfold upd;rw[if_pos rfl]
def bJ(h:b≠a):upd H a o b=H b:=by unfold upd;rw[if_neg h]
def aJe{H:Hp}{a b:Addr}{o u:HO}(h:H a=some o)(h':H b=some u)(d:o≠u):a≠b:=by
 intro e;subst e;rw[h]at h';exact d (zAk h')
def fZ{H:Hp}{a b:Addr}{o:HO}(h:H a=some o)(h':H b=none):a≠b:=by
 intro e;subst e;rw[h]at h';cases h'
def NoD(h:Heap)(a:Addr):Prop:=∀o,h.get? a=some o->o.dict=none
theorem NoD.push(h:Heap){o:Obj}(hl:o.isFreed=false:=by rfl)(hd:o.dict=none:=by rfl):NoD (h.push o) h.objs.size:=λ u e=>by rw[zA1 _ hl]at e;cases e;exact hd
def NoD.keep{h h':Heap}{a:Addr}{o:Obj}(n:NoD h a)(e:h.get? a=some o)(e':h'.get? a=some o):NoD h' a:=λ u q=>by rw[e']at q;cases q;exact n o e
section
variable(P:zAZ)(w:World)
def cO(H:Hp)(h:Heap)(a:Addr):HO->Prop
 | .lst xs=>xs.length<=zAO/\∃(its:List Value) (n:Nat),Vals xs its/\h.get? a=some {cls:=.type "list",data:=.seq its.toArray n}
 | .tup xs=>(xs.length<=zAO/\NoD h a)/\∃its:List Value,Vals xs its/\IsTup h a its.toArray
 | .dK kvs=>kvs.length<=zAO/\(a==zC6)=false/\∃vs,KV kvs vs/\h.DictOf (cF P w) a vs
 | .dT kvs=>kvs.length<=zAO/\(a==zC6)=false/\∃xs:List (List Key×Addr×Value),
   zHA (λ(p:List Key×V) (q:List Key×Addr×Value)=>p.1=q.1/\H q.2.1=some (.tup (p.1.map kV))/\RelV p.2 q.2.2) kvs xs/\
   ∃o es ep,h.get? a=some o/\o.ExactDict/\o.data= .dict es ep/\es.toList=xs.map (entryOfKey (zGA (cF P w)))/\(xs.map (·.1)).Nodup
 | .set S n=>h.SetOf (zHS P w) a S n
 | .ins C dx fs=>H dx=some (.own a)/\fs.length<=1000/\dx≠a/\h.get? a=some (zBk C dx)/\
   ∃mA,h.Ns1 dx mA/\(∀f,yF (fs.lookup f) (mA f))/\zH2 mA (fs.map (·.1))
 | .own _=>∃o,h.get? a=some o
 | .xd fs=>∃mA,h.Ns1 a mA/\∀f,yF (fs.lookup f) (mA f)
 | .rng lo hi=>∃t u v,h.get? a=some {cls:=.type "range",data:=.fields #[.int lo t,.int hi u,.int 1 v]}
 | .frz o u=>h.get? a=some o/\cO H h a u
 | .tbl ps=>h.get? a=some {cls:=.none,data:=.fields ps}
 | .met f x=>h.get? a=some (zEP (.ref f) (.ref x))
 | .ext φ=>φ h/\(∃o,h.get? a=some o)/\∀h1 h2:Heap,φ h1->(∀o,h1.get? a=some o->h2.get? a=some o)->φ h2
def HOk(H:Hp)(h:Heap):Prop:=∀a o,H a=some o->cO P w H h a o
end
section
variable{P:zAZ}{w:World}{H H':Hp}{h h':Heap}{a:Addr}{o:HO}
theorem cO.lt(x:cO P w H h a o):a<h.objs.size:=by
 cases o with
 |lst xs=>obtain⟨_,_,_,_,e⟩:=x;exact zA4 e
 |tup xs=>obtain⟨_,_,_,p⟩:=x;exact p.lt
 |dK kvs=>obtain⟨_,_,_,_,o,_,_,e,_⟩:=x;exact zA4 e
 |dT kvs=>obtain⟨_,_,_,_,o,_,_,e,_⟩:=x;exact zA4 e
 |set S n=>obtain⟨o,_,_,_,e,_⟩:=x;exact zA4 e
 |ins C dx fs=>obtain⟨_,_,_,e,_⟩:=x;exact zA4 e
 |own y=>obtain⟨_,e⟩:=x;exact zA4 e
 |xd fs=>obtain⟨_,⟨_,_,_,e,_⟩,_⟩:=x;exact zA4 e
 |rng lo hi=>obtain⟨_,_,_,e⟩:=x;exact zA4 e
 |frz ob u=>obtain⟨e,_⟩:=x;exact zA4 e
 |tbl ps=>exact zA4 (show h.get? a=some _ from x)
 |met f y=>exact zA4 (show h.get? a=some _ from x)
 |ext φ=>obtain⟨_,⟨_,e⟩,_⟩:=x;exact zA4 e
theorem Paired.mapP:∀{l₁:List α} {l₂:List β},zHA F l₁ l₂->(∀a b,F a b->G a b)->zHA G l₁ l₂
 |_,_,.nil,_=>.nil
 |_,_,.cons r t,f=>.cons (f _ _ r) (Paired.mapP t f)
def cO.stay(x:cO P w H h a o)(k:∀b u,(b=a\/H b=some (.own a))->h.get? b=some u->h'.get? b=some u)
  (ho:∀b,H b=some (.own a)->H' b=some (.own a))(ht:∀b xs,H b=some (.tup xs)->H' b=some (.tup xs)):cO P w H' h' a o:=by
 induction o with
 |lst xs=>obtain⟨z,its,n,r,e⟩:=x;exact⟨z,its,n,r,k _ _ (.inl rfl) e⟩
 |tup xs=>obtain⟨z,its,r,ob,e,c⟩:=x;exact⟨⟨z.1,z.2.keep e (k _ _ (.inl rfl) e)⟩,its,r,ob,k _ _ (.inl rfl) e,c⟩
 |dK kvs=>obtain⟨z,y,vs,r,ob,es,ep,e,c⟩:=x;exact⟨z,y,vs,r,ob,es,ep,k _ _ (.inl rfl) e,c⟩
 |dT kvs=>
  obtain⟨z,y,xs,r,ob,es,ep,e,c⟩:=x;exact⟨z,y,xs,Paired.mapP r λ p q z=>⟨z.1,ht _ _ z.2.1,z.2.2⟩,ob,es,ep,k _ _ (.inl rfl) e,c⟩
 |set S n=>obtain⟨ob,es,ep,t,e,c⟩:=x;exact⟨ob,es,ep,t,k _ _ (.inl rfl) e,c⟩
 |ins C dx fs=>
  obtain⟨d,z,ne,e,mA,⟨od,es,ep,e2,c⟩,r⟩:=x;exact⟨ho _ d,z,ne,k _ _ (.inl rfl) e,mA,⟨od,es,ep,k _ _ (.inr d) e2,c⟩,r⟩
 |own y=>obtain⟨ob,e⟩:=x;exact⟨ob,k _ _ (.inl rfl) e⟩
 |xd fs=>obtain⟨mA,⟨od,es,ep,e,c⟩,r⟩:=x;exact⟨mA,⟨od,es,ep,k _ _ (.inl rfl) e,c⟩,r⟩
 |rng lo hi=>obtain⟨t,u,v,e⟩:=x;exact⟨t,u,v,k _ _ (.inl rfl) e⟩
 |frz ob u ih=>obtain⟨e,q⟩:=x;exact⟨k _ _ (.inl rfl) e,ih q⟩
 |tbl ps=>
  have e:h.get? a=some {cls:=.none,data:=.fields ps}:=x;show h'.get? a=some {cls:=.none,data:=.fields ps};exact k a _ (.inl rfl) e
 |met f y=>
  have e:h.get? a=some (zEP (.ref f) (.ref y)):=x;show h'.get? a=some (zEP (.ref f) (.ref y));exact k a _ (.inl rfl) e
 |ext φ=>obtain⟨p,⟨o,e⟩,st⟩:=x;exact⟨st _ _ p λ o q=>k _ _ (.inl rfl) q,⟨o,k _ _ (.inl rfl) e⟩,st⟩
theorem HOk.lt(x:HOk P w H h)(e:H a=some o):a<h.objs.size:=(x a o e).lt
def HOk.fresh(x:HOk P w H h)(e:h.objs.size<=a):H a=none:=by
 cases q:H a with
 |none=>rfl
 |some u=>exact absurd (zA3 (x.lt q) e) (zBg _)
def HOk.kept(x:HOk P w H h)(k:∀b u,h.get? b=some u->h'.get? b=some u):HOk P w H h':=λ a o e=>
 (x a o e).stay (λ b u _ q=>k b u q) (λ _ q=>q) λ _ _ q=>q
def HOk.laid(x:HOk P w H h)(k:∀b u,h.get? b=some u->h'.get? b=some u)(hp:h.objs.size<=a)(new:cO P w (upd H a o) h' a o):HOk P w (upd H a o) h':=λ b u e=>by
 have hn:=x.fresh hp;by_cases hb:b=a
 .subst hb;rw[aa]at e;cases e;exact new
 .rw[bJ hb]at e
  exact(x b u e).stay (λ c v _ q=>k c v q) (λ c q=>by rw[bJ (fZ q hn)];exact q) λ c xs q=>by rw[bJ (fZ q hn)];exact q
end
def Rd(H:Hp)(a:Addr)(u:HO):Prop:=H a=some u\/∃o,H a=some (.frz o u)
def Rd.ok(r:Rd H a u)(x:HOk P w H h):cO P w H h a u:=by
 rcases r with r|⟨o,r⟩
 .exact x a u r
 .obtain⟨_,q⟩:=x a _ r
  exact q
def Mut:Option HO->Prop
 |some (.lst _)=>True
 |some (.dK _)=>True
 |some (.dT _)=>True
 |some (.set _ _)=>True
 |some (.ins _ _ _)=>True
 |some (.ext _)=>True
 |_=>False
section
variable{P:zAZ}{w:World}{H:Hp}{h h':Heap}{x e:Addr}{o':HO}
def HOk.write(ok:HOk P w H h)(mu:Mut (H x))(he:e=x\/H e=some (.own x))(k:∀b u,b≠e->h.get? b=some u->h'.get? b=some u)(heo:∃u,h'.get? e=some u)
  (new:cO P w (upd H x o') h' x o'):HOk P w (upd H x o') h':=λ b u q=>by
 have nown:∀c y,H c=some (.own y)->c≠x:=λ c y r z=>by subst z;rw[r]at mu;exact mu
 have ntup:∀c xs,H c=some (.tup xs)->c≠x:=λ c xs r z=>by subst z;rw[r]at mu;exact mu
 by_cases hb:b=x
 .subst hb;rw[aa]at q;cases q;exact new
 .rw[bJ hb]at q
  by_cases hbe:b=e
  .have q':H b=some (.own x):=by
    rcases he with z|z
    .exact absurd (hbe.trans z) hb
    .rw[hbe];exact z
   rw[q]at q';cases q';obtain⟨v,hv⟩:=heo;exact⟨v,by rw[hbe];exact hv⟩
  .refine(ok b u q).stay (λ c v hc r=>k c v ?_ r) (λ c r=>by rw[bJ (nown c b r)];exact r) λ c xs r=>by rw[bJ (ntup c xs r)];exact r
   rcases hc with rfl|hc
   .exact hbe
   .rintro rfl
    rcases he with z|z
    .exact nown c b hc z
    .rw[hc]at z;cases z;exact hb rfl
end
structure Un(fs ex:List Addr)(H H':Hp)(h h':Heap):Prop where
 keep:∀b o,h.get? b=some o->H b=none->b∉fs->b∉ex->h'.get? b=some o
 slot:∀b o,h.get? b=some o->H b=none->b∈fs->b∉ex->∃sl,h'.get? b=some {o with slots:=sl}
 free:∀b o,h.get? b=some o->H b=none->b∉ex->H' b=none
 there:∀b o,h.get? b=some o->b∉ex->∃o',h'.get? b=some o'
 tups:∀b xs,H b=some (.tup xs)->H' b=some (.tup xs)
 frzs:∀b o u,H b=some (.frz o u)->H' b=some (.frz o u)
 tbls:∀b ps,H b=some (.tbl ps)->∃more,H' b=some (.tbl (ps++more))
section
variable{fs ex:List Addr}{H H1:Hp}{h h1 h':Heap}{a x e:Addr}{o:HO}
def Un.any(u:Un fs ex H H1 h h1)(q:h.get? b=some ob)(n:H b=none)(hx:b∉ex):∃sl,h1.get? b=some {ob with slots:=sl}:=by
 by_cases hb:b∈fs
 .exact u.slot b ob q n hb hx
 .exact⟨ob.slots,u.keep b ob q n hb hx⟩
def Un.kept(k:∀b u,h.get? b=some u->h'.get? b=some u):Un fs ex H H h h':=
 ⟨λ b ob q _ _ _=>k b ob q,λ b ob q _ _ _=>⟨ob.slots,k b ob q⟩,λ _ _ _ n _=>n,λ b ob q _=>⟨ob,k b ob q⟩,λ _ _ q=>q,λ _ _ _ q=>q,λ _ ps q=>⟨#[],by rw[q];simp⟩⟩
def Un.refl:Un fs ex H H h h:=Un.kept λ _ _ q=>q
def Un.laid(k:∀b u,h.get? b=some u->h'.get? b=some u)(hp:h.objs.size<=a)(hn:H a=none):Un fs ex H (upd H a o) h h' where
 keep:=λ b u q _ _ _=>k b u q
 slot:=λ b u q _ _ _=>⟨u.slots,k b u q⟩
 free:=λ b u q n _=>by rw[bJ (zAn (zA3 (zA4 q) hp))];exact n
 there:=λ b u q _=>⟨u,k b u q⟩
 tups:=λ b xs q=>by rw[bJ (fZ q hn)];exact q
 frzs:=λ b u xs q=>by rw[bJ (fZ q hn)];exact q
 tbls:=λ b ps q=>⟨#[],by rw[bJ (fZ q hn),q];simp⟩
def Un.write(mu:Mut (H x))(he:e=x\/H e=some (.own x))(k:∀b u,b≠e->h.get? b=some u->h'.get? b=some u)(heo:∃u,h'.get? e=some u):Un fs ex H (upd H x o) h h':=by
 have hx:∀b,H b=none->b≠x:=λ b n z=>by subst z;rw[n]at mu;exact mu
 have hb:∀b,H b=none->b≠e:=λ b n z=>by
  subst z;rcases he with r|r
  .exact hx b n r
  .rw[n]at r;cases r
 have hm:∀b u,H b=some u->¬Mut (some u)->b≠x:=λ b u q nm z=>by subst z;rw[q]at mu;exact nm mu
 refine⟨λ b u q n _ _=>k b u (hb b n) q,λ b u q n _ _=>⟨u.slots,k b u (hb b n) q⟩,λ b u q n _=>by rw[bJ (hx b n)];exact n,λ b u q _=>?_,
  λ b xs q=>by rw[bJ (hm b _ q λ z=>z)];exact q,λ b u xs q=>by rw[bJ (hm b _ q λ z=>z)];exact q,λ b ps q=>⟨#[],by rw[bJ (hm b _ q λ z=>z),q];simp⟩⟩
 by_cases hbe:b=e
 .subst hbe;exact heo
 .exact⟨u,k b u hbe q⟩
end
def trk(h:Heap)(H:Hp):List Addr:=(zAw h.objs.size).filter λ a=>(H a).isSome
def xP(h:Heap)(H:Hp):Heap:=zCm h (trk h H)
def aCX(h:Heap)(H:Hp):(xP h H).objs.size=h.objs.size:=PySem.W.hideAll_size _ _
def aER(e:h.get? b=some o)(n:H b=none):(xP h H).get? b=some o:=
 zCn _ e λ hm=>by
  have q:(H b).isSome=true:=(zA6.mp hm).2;rw[n]at q;simp at q
def aFr(e:(xP h H).get? b=some o):h.get? b=some o/\H b=none:=by
 have e':h.get? b=some o:=zGO (trk h H) e;refine⟨e',?_⟩;cases q:H b with
 |none=>rfl
 |some x=>
  have hm:b∈trk h H:=zA6.mpr ⟨zC9.mpr (zA4 e'),by simp[q]⟩;have z:(xP h H).get? b=none:=PySem.W.hideAll_none (trk h H) hm;rw[z]at e;cases e
def aGe(g h:Heap)(L:Addr):hZ:=(zAw h.objs.size).filterMap λ a=>if a=L\/(g.get? a).isSome=true then none else(h.get? a).map λ o=>(a,o)
def rest(g h:Heap)(L d:Addr):hZ:=(aGe g h L).filter λ p=>decide (p.1≠d)
structure Mod(K:zAA)(mg:Str->Option Value)(base:Heap):Prop where
 kin:K.In base
 glob:base.Ns zA8 mg
 blt:∃mb,base.Ns zHd mb/\∀x:Str,x≠"__name__"->mb x=zAq x
 nolimit:base.NoLimit
structure Cx where
 prog:zAZ
 w:World
 K:zAA
 mg:Str->Option Value
 base:Heap
 A:zAd
 N:List Str
 z5:zAF
 z4:Hp
 env:Env
 outer:List Env
 stack:List Env
 ex:List Addr
 fn:Str->Bool
 calm:Bool
 pn:hZ
 xe:Value->zAF->Prop
 ta:hZ:=[]
 tq:Str:=""
def frs(l:List Env):List Addr:=l.filterMap (·.frame)
abbrev Cx.fs(X:Cx):List Addr:=frs X.outer
def Vis(sc:Scope)(x:Str):Prop:=sc.names.lookup x=some .local\/sc.names.lookup x=some .cell\/sc.names.lookup x=some .free
def Loc(sc:Scope)(x:Str):Prop:=sc.names.lookup x=some .local\/sc.names.lookup x=some .cell
def Look(env:Env)(h:Heap)(m:Str->Option Value)(x:Str)(u:Value):Prop:=
 (env.kindOf x=some .local/\m x=some u)\/((env.kindOf x=some .cell\/env.kindOf x=some .free)/\∃c,env.cells.lookup x=some c/\h.IsCell c (some u))
structure Cx.Ok(X:Cx):Prop where
 mod:Mod X.K X.mg X.base
 kind:X.env.scope.kind= .function
 glob:X.env.globals=zA8
 blt:X.env.builtins=zHd
 above:X.z5.heap.objs.size<=X.env.locals
 inj:∀x y c,X.env.cells.lookup x=some c->X.env.cells.lookup y=some c->x=y
 has:∀x,(X.env.kindOf x=some .cell\/X.env.kindOf x=some .free)->∃c,X.env.cells.lookup x=some c
 cab:∀x c,X.fn x=true->X.env.cells.lookup x=some c->X.z5.heap.objs.size<=c
 hd:X.calm=true->X.A.handled=none
 frames:X.A.frames=some X.stack
 stk:X.stack=X.outer\/(X.stack=X.env::X.outer/\X.env.frame=some X.env.locals)
 exf:∀b∈X.ex,b≠X.env.locals/\∀x c,X.env.cells.lookup x=some c->c≠b
 bs:∀b o,X.base.get? b=some o->X.z5.heap.get? b=some o/\X.z4 b=none
 bsz:X.base.objs.size<=X.z5.heap.objs.size
 noex:∀b o,X.base.get? b=some o->b∉X.ex
 exfs:∀b∈X.ex,b∉X.fs
 funs:X.z5.heap.FunFrames X.base X.outer
 frf:∀b∈X.fs,X.z4 b=none
def aKO(q:Str)(oc:Obj):Prop:=∃vs t,oc.data= .fields vs/\vs[1]? =some (.str q t)
def TabOk(q:Str)(H:Hp)(ps:Array Value):Prop:=TriplesOk ps.toList/\∀pos cv,codeAmong pos ps.toList=some cv->∃c' oc,cv= .ref c'/\H c'=some (.frz oc (.own c'))/\aKO q oc
def TabOk.mono(t:TabOk q H ps)(f:∀b o u,H b=some (.frz o u)->H' b=some (.frz o u)):TabOk q H' ps:=⟨t.1,λ pos cv hc=>let⟨c',oc,z,a,b⟩:=t.2 pos cv hc;⟨c',oc,z,f _ _ _ a,b⟩⟩
structure Inv(X:Cx)(hV:hZ)(σ:List (Option V))(H:Hp)(s:zAF):Prop where
 ok:X.Ok
 os:s.os=X.z5.os
 bare:zEM s.gens
 base:Un X.fs X.ex X.z4 H X.z5.heap s.heap
 loc:∃m,s.heap.Ns X.env.locals m/\∀(i:Nat) (x:Str) (v:V),X.N[i]? =some x->σ[i]? =some (some v)->Vis X.env.scope x->∃u,RelV v u/\Look X.env s.heap m x u
 cell:∀x c,X.env.cells.lookup x=some c->∃v,s.heap.IsCell c v
 free:H X.env.locals=none
 freeC:∀x c,X.env.cells.lookup x=some c->H c=none
 pin:∀p∈X.pn++hV,s.heap.get? p.1=some p.2/\H p.1=none/\p.1≠X.env.locals/\p.1∉X.fs/\∀v,p.2.data≠.cell v
 hok:HOk X.prog X.w H s.heap
 len:σ.length=X.N.length
 tab:∀p∈X.ta,H p.1=none/\p.1≠X.env.locals/\p.1∉X.fs/\(∀q∈X.pn++hV,q.1≠p.1)/\∃ps,s.heap.get? p.1=some {cls:=.none,data:=.fields ps}/\TabOk X.tq H ps
section
variable{X:Cx}{hV:hZ}{σ:List (Option V)}{H H':Hp}{s:zAF}{h':Heap}
def Cx.Ok.nofr(ok:X.Ok)(e:X.base.get? b=some o):b∉X.fs:=λ hb=>by
 have:=(ok.funs.mem hb).1
 rw[e]at this;cases this
theorem Inv.bs(I:Inv X hV σ H s):∀b o,X.base.get? b=some o->s.heap.get? b=some o/\H b=none:=λ b o e=>
 ⟨I.base.keep b o (I.ok.bs b o e).1 (I.ok.bs b o e).2 (I.ok.nofr e) (I.ok.noex b o e),I.base.free b o (I.ok.bs b o e).1 (I.ok.bs b o e).2 (I.ok.noex b o e)⟩
def Inv.bk(I:Inv X hV σ H s):∀b o,X.base.get? b=some o->s.heap.get? b=some o:=λ b o e=>(I.bs b o e).1
theorem Inv.mod(I:Inv X hV σ H s):Mod X.K X.mg X.base:=I.ok.mod
def Inv.kIn(I:Inv X hV σ H s):X.K.In s.heap:=I.ok.mod.kin.keeps I.bk
def Inv.fr(I:Inv X hV σ H s):∃m,Fr X.base X.env.locals s.heap m:=
 let⟨m,hn,_⟩:=I.loc
 ⟨m,hn,I.bk,zAc I.ok.bsz I.ok.above⟩
theorem Inv.lt(I:Inv X hV σ H s):X.env.locals<s.heap.objs.size:=let⟨_,hn,_⟩:=I.loc;hn.lt
def Inv.sz(I:Inv X hV σ H s):X.z5.heap.objs.size<=s.heap.objs.size:=zAc I.ok.above (zBN I.lt)
def Inv.nofs(I:Inv X hV σ H s)(h:s.heap.objs.size<=a):a∉X.fs:=λ hb=>by
 obtain⟨_,o,ho,_⟩:=I.ok.funs.mem hb;exact absurd (zA3 (zA4 ho) (zAc I.sz h)) (zBg _)
def Inv.cne(I:Inv X hV σ H s):∀x c,X.env.cells.lookup x=some c->c≠X.env.locals:=λ x c e z=>by
 obtain⟨v,o,ho,hd⟩:=I.cell x c e;obtain⟨m,⟨o',es,ep,ho',hd',_⟩,_⟩:=I.loc;rw[z,ho']at ho;cases ho;rw[hd']at hd;cases hd
theorem Inv.funs(I:Inv X hV σ H s):s.heap.FunFrames X.base X.outer:=by
 have all:∀(l:List Env),(∀b∈frs l,b∈X.fs)->X.z5.heap.FunFrames X.base l->s.heap.FunFrames X.base l:=by
  intro l;induction l with
  |nil=>intro _ _;trivial
  |cons env r ih=>
   intro hs hl;obtain⟨hk,⟨L,o,hf,hn,ho,hd⟩,hr⟩:=hl;have hL:L∈X.fs:=hs L (by unfold frs;rw[zBu,hf];exact zAL);obtain⟨sl,e⟩:=I.base.slot L o ho (I.ok.frf L hL) hL λ z=>I.ok.exfs L z hL
   exact⟨hk,⟨L,_,hf,hn,e,hd⟩,ih (λ b hb=>hs b (by unfold frs;rw[zBu,hf];exact zAG _ hb)) hr⟩
 exact all X.outer (λ _ hb=>hb) I.ok.funs
theorem Inv.stack(I:Inv X hV σ H s):s.heap.FunFrames X.base X.stack:=by
 rcases I.ok.stk with e|⟨e,hf⟩
 .rw[e];exact I.funs
 .rw[e]
  obtain⟨m,hn,_⟩:=I.loc;refine .cons (by rw[I.ok.kind];decide) hf hn ?_ I.funs;exact Heap.get?_none_of_le (zAc I.ok.bsz I.ok.above)
def Inv.stkSub(I:Inv X hV σ H s):∀b∈frs X.stack,b∈X.env.locals::X.fs:=λ b hb=>by
 rcases I.ok.stk with e|⟨e,hf⟩
 .rw[e]at hb;exact zAG _ hb
 .rw[e]at hb
  unfold frs at hb;rw[zBu,hf]at hb;exact hb
def Inv.stkFree(I:Inv X hV σ H s):∀b∈frs X.stack,H b=none:=λ b hb=>by
 rcases zAX.mp (I.stkSub b hb)with e|hb
 .rw[e];exact I.free
 .obtain⟨_,o,ho,_⟩:=I.ok.funs.mem hb
  exact I.base.free b o ho (I.ok.frf b hb) λ z=>I.ok.exfs b z hb
def Inv.step{g':Array zCq}{t':Nat}{d':Drawn}{ch:List Addr}(I:Inv X hV σ H s)
  (hch:∀b∈ch,(b∈X.ex\/X.z5.heap.objs.size<=b)/\b≠X.env.locals/\(∀x c,X.env.cells.lookup x=some c->c≠b)/\∀p∈X.ta++(X.pn++hV),p.1≠b)
  (keep:∀b o,b≠X.env.locals->b∉X.fs->b∉ch->s.heap.get? b=some o->H b=none->h'.get? b=some o)
  (slot:∀b o,b≠X.env.locals->b∈X.fs->b∉ch->s.heap.get? b=some o->H b=none->∃sl,h'.get? b=some {o with slots:=sl})(free:∀b o,b∉ch->s.heap.get? b=some o->H b=none->H' b=none)
  (there:∀b o,b∉ch->s.heap.get? b=some o->∃o',h'.get? b=some o')
  (tups:∀b xs,H b=some (.tup xs)->H' b=some (.tup xs))(frzs:∀b o u,H b=some (.frz o u)->H' b=some (.frz o u))(tbls:∀b ps,H b=some (.tbl ps)->∃more,H' b=some (.tbl (ps++more)))
  (ns:∀m,s.heap.Ns X.env.locals m->h'.Ns X.env.locals m)(hok:HOk X.prog X.w H' h')(hg:zEM g'):
  Inv X hV σ H' {s with heap:=h',gens:=g',drawn:=d',toks:=t'}:=by
 have neL:∀b o,X.z5.heap.get? b=some o->b≠X.env.locals:=λ b o e=>zAn (zA3 (zA4 e) I.ok.above)
 have neC:∀b o,X.z5.heap.get? b=some o->b∉X.ex->b∉ch:=λ b o e hx hb=>by
  rcases(hch b hb).1 with z|z
  .exact hx z
  .exact absurd (zA3 (zA4 e) z) (zBg _)
 have b9:∀x c,X.env.cells.lookup x=some c->∀v,s.heap.IsCell c v->h'.IsCell c v:=λ x c e v ⟨o,ho,hd⟩=>by
  have nch:c∉ch:=λ z=>(hch c z).2.2.1 x c e rfl
  by_cases hc:c∈X.fs
  .obtain⟨sl,q⟩:=slot c o (I.cne x c e) hc nch ho (I.freeC x c e)
   exact⟨_,q,hd⟩
  .exact⟨o,keep c o (I.cne x c e) hc nch ho (I.freeC x c e),hd⟩
 refine⟨I.ok,I.os,hg,⟨λ b o e n hb hx=>?_,λ b o e n hb hx=>?_,λ b o e n hx=>?_,λ b o e hx=>?_,λ b xs e=>tups b xs (I.base.tups b xs e),λ b o xs e=>frzs b o xs (I.base.frzs b o xs e),λ b ps e=>?_⟩,?_,λ x c e=>?_,?_,λ x c e=>?_,λ p hp=>?_,hok,I.len,λ p hp=>?_⟩
 .exact keep b o (neL b o e) hb (neC b o e hx) (I.base.keep b o e n hb hx) (I.base.free b o e n hx)
 .obtain⟨sl,e1⟩:=I.base.slot b o e n hb hx
  obtain⟨sl',e2⟩:=slot b _ (neL b o e) hb (neC b o e hx) e1 (I.base.free b o e n hx);exact⟨sl',e2⟩
 .obtain⟨o',e1⟩:=I.base.there b o e hx
  exact free b o' (neC b o e hx) e1 (I.base.free b o e n hx)
 .obtain⟨o',e1⟩:=I.base.there b o e hx
  exact there b o' (neC b o e hx) e1
 .obtain⟨m1,e1⟩:=I.base.tbls b ps e
  obtain⟨m2,e2⟩:=tbls b _ e1;exact⟨m1++m2,by rw[e2,zGX]⟩
 .obtain⟨m,hn,hl⟩:=I.loc
  refine⟨m,ns m hn,λ i x v e1 e2 e3=>?_⟩;obtain⟨u,r,l⟩:=hl i x v e1 e2 e3;refine⟨u,r,?_⟩;rcases l with l|⟨k,c,e,z⟩
  .exact .inl l
  .exact .inr ⟨k,c,e,b9 x c e _ z⟩
 .obtain⟨v,z⟩:=I.cell x c e
  exact⟨v,b9 x c e v z⟩
 .obtain⟨m,⟨o,_,_,ho,_⟩,_⟩:=I.loc
  exact free _ o (λ z=>(hch _ z).2.1 rfl) ho I.free
 .obtain⟨v,o,ho,hd⟩:=I.cell x c e
  exact free c o (λ z=>(hch c z).2.2.1 x c e rfl) ho (I.freeC x c e)
 .obtain⟨e,n,ne,nf,d⟩:=I.pin p hp
  have nch:p.1∉ch:=λ z=>(hch p.1 z).2.2.2 p (zA0 _ hp) rfl
  exact⟨keep p.1 p.2 ne nf nch e n,free p.1 p.2 nch e n,ne,nf,d⟩
 .obtain⟨n,ne,nf,np,ps,e,t⟩:=I.tab p hp
  have nch:p.1∉ch:=λ z=>(hch p.1 z).2.2.2 p (zAK _ hp) rfl
  exact⟨free p.1 _ nch e n,ne,nf,np,ps,keep p.1 _ ne nf nch e n,t.mono frzs⟩
def Inv.pinL(I:Inv X hV σ H s)(hp:p∈X.ta++(X.pn++hV)):p.1<s.heap.objs.size:=by
 rcases zAQ.mp hp with z|z
 .obtain⟨_,_,_,_,_,e,_⟩:=I.tab p z
  exact zA4 e
 .exact zA4 (I.pin p z).1
def Inv.un{t':Nat}(I:Inv X hV σ H s)(u:Un X.fs [] H H' s.heap h')(hok:HOk X.prog X.w H' h'):Inv X hV σ H' {s with heap:=h',toks:=t'}:=by
 obtain⟨m,⟨o,es,ep,ho,r⟩,_⟩:=id I.loc;obtain⟨sl,hL⟩:=u.any ho I.free (by simp);exact I.step (g':=s.gens) (d':=s.drawn) (ch:=[]) (λ _ z=>nomatch z) (λ b o _ hb _ e n=>u.keep b o e n hb (by simp)) (λ b o _ hb _ e n=>u.slot b o e n hb (by simp)) (λ b o _ e n=>u.free b o e n (by simp)) (λ b o _ e=>u.there b o e (by simp)) u.tups u.frzs u.tbls (λ m' hm=>by
  obtain⟨o',es',ep',ho',r'⟩:=hm;rw[ho]at ho';cases ho';exact⟨_,es',ep',hL,r'⟩) hok I.bare
def Inv.call{g':Array zCq}{t':Nat}{d':Drawn}{ch:List Addr}(I:Inv X hV σ H s)(u:Un (frs X.stack) ch H H' s.heap h')(hok:HOk X.prog X.w H' h')(hg:zEM g')
  (hch:∀b∈ch,(b∈X.ex\/X.z5.heap.objs.size<=b)/\b≠X.env.locals/\(∀x c,X.env.cells.lookup x=some c->c≠b)/\∀p∈X.ta++(X.pn++hV),p.1≠b):
  Inv X hV σ H' {s with heap:=h',gens:=g',drawn:=d',toks:=t'}:=by
 obtain⟨m,⟨o,es,ep,ho,r⟩,_⟩:=id I.loc;obtain⟨sl,hL⟩:=u.any ho I.free λ z=>(hch _ z).2.1 rfl
 exact I.step (ch:=ch) hch (λ b o hL hb hc e n=>u.keep b o e n (λ z=>(zAX.mp (I.stkSub b z)).elim hL hb) hc) (λ b o _ _ hc e n=>u.any e n hc) (λ b o hc e n=>u.free b o e n hc) (λ b o hc e=>u.there b o e hc) u.tups u.frzs u.tbls (λ m' hm=>by
  obtain⟨o',es',ep',ho',r'⟩:=hm;rw[ho]at ho';cases ho';exact⟨_,es',ep',hL,r'⟩) hok hg
def Inv.turned{t':Nat}{it:Addr}(I:Inv X hV σ H s)(k:∀b o,b≠it->s.heap.get? b=some o->h'.get? b=some o)(hn:H it=none)(hL:it≠X.env.locals)
  (h1:it∈X.ex\/X.z5.heap.objs.size<=it)(h2:∀x c,X.env.cells.lookup x=some c->c≠it)(h3:∀p∈X.ta++(X.pn++hV),p.1≠it):Inv X hV σ H {s with heap:=h',toks:=t'}:=by
 have nit:∀b u,H b=some u->b≠it:=λ b u e z=>by rw[z,hn]at e;cases e
 refine I.step (g':=s.gens) (d':=s.drawn) (ch:=[it]) (λ b hb=>?_) (λ b o _ _ hc e _=>k b o (λ z=>hc (by simp[z])) e) (λ b o _ _ hc e _=>⟨o.slots,k b o (λ z=>hc (by simp[z])) e⟩) (λ _ _ _ _ n=>n)
  (λ b o hc e=>⟨o,k b o (λ z=>hc (by simp[z])) e⟩) (λ _ _ e=>e) (λ _ _ _ e=>e) (λ b ps e=>⟨#[],by rw[e];simp⟩) (λ m hm=>?_) (λ b u e=>?_) I.bare
 .have e:b=it:=by simpa using hb
  subst e;exact⟨h1,hL,h2,h3⟩
 .obtain⟨o,es,ep,ho,r⟩:=hm
  exact⟨o,es,ep,k _ o (zCz hL) ho,r⟩
 .refine(I.hok b u e).stay (λ c v hc q=>k c v ?_ q) (λ _ q=>q) λ _ _ q=>q
  rcases hc with z|z
  .rw[z];exact nit b u e
  .exact nit c _ z
def Inv.tok(I:Inv X hV σ H s)(t:Nat):Inv X hV σ H {s with toks:=t}:=I.un (h':=s.heap) (t':=t) Un.refl I.hok
theorem Inv.kept(I:Inv X hV σ H s)(k:∀b u,s.heap.get? b=some u->h'.get? b=some u):Inv X hV σ H {s with heap:=h',toks:=t'}:=I.un (Un.kept k) (I.hok.kept k)
theorem Inv.laid(I:Inv X hV σ H s)(k:∀b u,s.heap.get? b=some u->h'.get? b=some u)(hp:s.heap.objs.size<=a)(new:cO X.prog X.w (upd H a o) h' a o):
  Inv X hV σ (upd H a o) {s with heap:=h',toks:=t'}:=I.un (Un.laid k hp (I.hok.fresh hp)) (I.hok.laid k hp new)
theorem Inv.write(I:Inv X hV σ H s)(mu:Mut (H x))(he:e=x\/H e=some (.own x))(k:∀b u,b≠e->s.heap.get? b=some u->h'.get? b=some u)(heo:∃u,h'.get? e=some u)
  (new:cO X.prog X.w (upd H x o) h' x o):Inv X hV σ (upd H x o) {s with heap:=h',toks:=t'}:=I.un (Un.write mu he k heo) (I.hok.write mu he k heo new)
def Inv.weak(I:Inv X hV σ H s)(hl:σ'.length=σ.length)(w:∀(i:Nat) v,σ'[i]? =some (some v)->σ[i]? =some (some v)):Inv X hV σ' H s:=
 ⟨I.ok,I.os,I.bare,I.base,let⟨m,hn,hl'⟩:=I.loc;⟨m,hn,λ i x v e1 e2 e3=>hl' i x v e1 (w i v e2) e3⟩,I.cell,I.free,I.freeC,I.pin,I.hok,hl.trans I.len,I.tab⟩
def Inv.pins_of(I:Inv X hV σ H s)(h:∀p∈pins',s.heap.get? p.1=some p.2/\H p.1=none/\p.1≠X.env.locals/\p.1∉X.fs/\∀v,p.2.data≠.cell v)(h2:∀q∈pins',∀p∈X.ta,q.1≠p.1):Inv X pins' σ H s:=
 ⟨I.ok,I.os,I.bare,I.base,I.loc,I.cell,I.free,I.freeC,λ p hp=>(zAQ.mp hp).elim (λ z=>I.pin p (zAK _ z)) (h p),I.hok,I.len,λ p hp=>let⟨a,b,c,d,e⟩:=I.tab p hp;⟨a,b,c,λ q hq=>(zAQ.mp hq).elim (λ z=>d q (zAK _ z)) (λ z=>h2 q z p hp),e⟩⟩
def zG{N:List Str}(hN:N.Nodup){i j:Nat}{x:Str}(a:N[i]? =some x)(b:N[j]? =some x):i=j:=by
 obtain⟨h1,e1⟩:=zAM.mp a;obtain⟨h2,e2⟩:=zAM.mp b;exact(List.getElem_inj hN).mp (e1.trans e2.symm)
def vC{M:Model}{A:zAd}{E:Value->zAF->Prop}{i:Nat}{x:Str}{v:V}{u:Value}{Q:Unit->zAF->Prop}(I:Inv X hV σ H s)(hN:X.N.Nodup)(hi:X.N[i]? =some x)(hx:Loc X.env.scope x)(r:RelV v u)
  (h:∀s',Inv X hV (σ.set i (some v)) H s'->(∃a,zGH a s.heap s'.heap/\(a=X.env.locals\/X.env.cells.lookup x=some a))->Q () s')(hf:X.fn x=true\/X.env.scope.names.lookup x=some .local:=by first|exact .inl rfl|exact .inr rfl|assumption):wpAny M A (storeName X.env x u) Q E s:=by
 obtain⟨m,hn,hl⟩:=id I.loc;have hcls:(X.env.scope.kind== .class||(X.env.scope.kind== .module&&X.env.locals !=X.env.globals))=false:=by rw[I.ok.kind];rfl
 have hiσ:i<σ.length:=by rw[I.len];exact(zAM.mp hi).1
 have cne:=I.cne;have yY:∀{a:Addr} {h':Heap},(∃o,s.heap.get? a=some o/\H a=none)->zGH a s.heap h'->HOk X.prog X.w H h':=λ{a h'} ha hs b ob e=>by
  obtain⟨_,_,hfree⟩:=ha;refine(I.hok b ob e).stay (λ c w' hc q=>(hs.2 c ?_).trans q) (λ _ q=>q) λ _ _ q=>q
  rintro rfl;rcases hc with rfl|hc
  .rw[hfree]at e;cases e
  .rw[hfree]at hc;cases hc
 rcases hx with hk|hk
 .refine wpAny_storeName_local hk hn (λ h' hn' hs=>?_) hcls
  obtain⟨oL,_,_,hoL,_⟩:=id hn;refine h _ ⟨I.ok,I.os,I.bare,⟨λ b o e n hb hx=>?_,λ b o e n hb hx=>?_,I.base.free,λ b o e hx=>?_,I.base.tups,I.base.frzs,I.base.tbls⟩,⟨_,hn',λ j y v' e1 e2 e3=>?_⟩,λ y c e=>?_,I.free,I.freeC,λ p hp=>?_,yY ⟨oL,hoL,I.free⟩ hs,by simpa using I.len,λ p hp=>?_⟩ ⟨_,hs,.inl rfl⟩
  .exact(hs.2 b (zAn (zA3 (zA4 e) I.ok.above))).trans (I.base.keep b o e n hb hx)
  .obtain⟨sl,e1⟩:=I.base.slot b o e n hb hx
   exact⟨sl,(hs.2 b (zAn (zA3 (zA4 e) I.ok.above))).trans e1⟩
  .obtain⟨o',e1⟩:=I.base.there b o e hx
   exact⟨o',(hs.2 b (zAn (zA3 (zA4 e) I.ok.above))).trans e1⟩
  .by_cases hj:j=i
   .subst hj
    rw[hi]at e1;cases e1;rw[zBF hiσ]at e2;cases e2;exact⟨u,r,.inl ⟨hk,by simp⟩⟩
   .rw[zAu (zCz hj)]at e2
    obtain⟨u',r',q⟩:=hl j y v' e1 e2 e3;refine⟨u',r',?_⟩;rcases q with ⟨k,e⟩|⟨k,c,e,z⟩
    .refine .inl ⟨k,?_⟩
     have:y≠x:=λ e=>hj (zG hN e1 (e▸hi))
     simp[this,e]
    .exact .inr ⟨k,c,e,z.sameBut hs (cne y c e)⟩
  .obtain⟨w',z⟩:=I.cell y c e
   exact⟨w',z.sameBut hs (cne y c e)⟩
  .obtain⟨e,n,ne,nf,d⟩:=I.pin p hp
   exact⟨(hs.2 p.1 ne).trans e,n,ne,nf,d⟩
  .obtain⟨n,ne,nf,np,ps,e,t⟩:=I.tab p hp
   exact⟨n,ne,nf,np,ps,(hs.2 p.1 ne).trans e,t⟩
 .have hfn:X.fn x=true:=by
   rcases hf with z|z
   .exact z
   .rw[z]at hk;cases hk
  obtain⟨c,hc⟩:=I.ok.has x (.inl hk);obtain⟨w',z⟩:=I.cell x c hc;refine wpAny_storeName_cell I.ok.kind hk hc z (λ h' hc' hs=>?_);obtain⟨oc,hoc,hocd⟩:=id z;refine h {s with heap:=h'} ⟨I.ok,I.os,I.bare,⟨λ b o e n hb hx=>?_,λ b o e n hb hx=>?_,I.base.free,λ b o e hx=>?_,I.base.tups,I.base.frzs,I.base.tbls⟩,⟨m,hn.sameBut hs (zCz (cne x c hc)),λ j y v' e1 e2 e3=>?_⟩,λ y c' e=>?_,I.free,I.freeC,λ p hp=>?_,yY ⟨oc,hoc,I.freeC x c hc⟩ hs,by simpa using I.len,λ p hp=>?_⟩ ⟨c,hs,.inr hc⟩
  .exact(hs.2 b (zAn (zA3 (zA4 e) (I.ok.cab x c hfn hc)))).trans (I.base.keep b o e n hb hx)
  .obtain⟨sl,e1⟩:=I.base.slot b o e n hb hx
   exact⟨sl,(hs.2 b (zAn (zA3 (zA4 e) (I.ok.cab x c hfn hc)))).trans e1⟩
  .obtain⟨o',e1⟩:=I.base.there b o e hx
   exact⟨o',(hs.2 b (zAn (zA3 (zA4 e) (I.ok.cab x c hfn hc)))).trans e1⟩
  .by_cases hj:j=i
   .subst hj
    rw[hi]at e1;cases e1;rw[zBF hiσ]at e2;cases e2;exact⟨u,r,.inr ⟨.inl hk,c,hc,hc'⟩⟩
   .rw[zAu (zCz hj)]at e2
    obtain⟨u',r',q⟩:=hl j y v' e1 e2 e3;refine⟨u',r',?_⟩;rcases q with q|⟨k,c',e,z'⟩
    .exact .inl q
    .refine .inr ⟨k,c',e,z'.sameBut hs ?_⟩
     rintro rfl;exact hj (zG hN e1 (I.ok.inj _ _ _ e hc▸hi))
  .by_cases hcc:c'=c
   .subst hcc;exact⟨_,hc'⟩
   .obtain⟨w2,z2⟩:=I.cell y c' e
    exact⟨w2,z2.sameBut hs hcc⟩
  .obtain⟨e,n,ne,nf,d⟩:=I.pin p hp
   refine⟨(hs.2 p.1 ?_).trans e,n,ne,nf,d⟩;intro q;rw[q,hoc]at e;have q':oc=p.2:=zAk e;exact d w' (by rw[<-q'];exact hocd)
  .obtain⟨n,ne,nf,np,ps,e,t⟩:=I.tab p hp
   refine⟨n,ne,nf,np,ps,(hs.2 p.1 ?_).trans e,t⟩;intro q;rw[q,hoc]at e;rw[zAk e]at hocd;cases hocd
def rZ(I:Inv X hV σ H s)(hN:X.N.Nodup)(hi:X.N[i]? =some x)(hx:Loc X.env.scope x)(r:RelV v u)
  (h:∀s',Inv X hV (σ.set i (some v)) H s'->Q () s')(hf:X.fn x=true\/X.env.scope.names.lookup x=some .local:=by first|exact .inl rfl|exact .inr rfl|assumption):wpAny M A (storeName X.env x u) Q E s:=
 vC I hN hi hx r (λ s' I' _=>h s' I') hf
def Inv.call'(I:Inv X hV σ H s)(ho:s'.os=s.os)(u:Un (frs X.stack) ch H H' s.heap s'.heap)(hok:HOk X.prog X.w H' s'.heap)(hg:zEM s'.gens)
  (hch:∀b∈ch,(b∈X.ex\/X.z5.heap.objs.size<=b)/\b≠X.env.locals/\(∀x c,X.env.cells.lookup x=some c->c≠b)/\∀p∈X.ta++(X.pn++hV),p.1≠b):Inv X hV σ H' s':=by
 obtain⟨h',g',d',t',o'⟩:=s';have e:o'=s.os:=ho;subst e;exact I.call (g':=g') (t':=t') (d':=d') u hok hg hch
end
abbrev XK:=Value->Option Addr->Hp->Prop
abbrev St:=List (Option V)
abbrev VK:=V->Hp->Prop
abbrev TE:=St->Hp->VK->Prop
abbrev TT:=St->Hp->(Bool->Hp->Prop)->Prop
abbrev TA:=St->Hp->(List V->Hp->Prop)->Prop
structure Ends where
 nx:St->Hp->Prop
 rt:VK
 bk:St->Hp->Prop:=λ _ _=>False
 ct:St->Hp->Prop:=λ _ _=>False
abbrev TS:=Ends->St->Hp->Prop
def EP(X:Cx)(hV:hZ)(σ:St)(Q:VK)(u:Value)(s':zAF):Prop:=∃v H',Inv X hV σ H' s'/\RelV v u/\Q v H'
def TP(X:Cx)(hV:hZ)(σ:St)(Q:Bool->Hp->Prop)(b:Bool)(s':zAF):Prop:=∃H',Inv X hV σ H' s'/\Q b H'
def AP(X:Cx)(hV:hZ)(σ:St)(Q:List V->Hp->Prop)(us:List Value)(s':zAF):Prop:=∃vs H',Inv X hV σ H' s'/\Vals vs us/\Q vs H'
def SP(X:Cx)(hV:hZ)(D:Ends)(f:Flow)(s':zAF):Prop:=
 match f with
 | .next=>∃σ' H',Inv X hV σ' H' s'/\D.nx σ' H'
 | .brk=>∃σ' H',Inv X hV σ' H' s'/\D.bk σ' H'
 | .cont=>∃σ' H',Inv X hV σ' H' s'/\D.ct σ' H'
 | .ret u=>∃v σ' H',Inv X hV σ' H' s'/\RelV v u/\D.rt v H'
def PE(X:Cx)(e:Expr)(t:TE):Prop:=
 ∀(hV:hZ) (s:zAF) (σ:St) (H:Hp) (Q:VK),Inv X hV σ H s->t σ H Q->wpAny (model X.prog X.w) X.A (eval e X.env) (EP X hV σ Q) X.xe s
def PT(X:Cx)(e:Expr)(t:TT):Prop:=
 ∀(hV:hZ) (s:zAF) (σ:St) (H:Hp) (Q:Bool->Hp->Prop),Inv X hV σ H s->t σ H Q->wpAny (model X.prog X.w) X.A (isTrue e X.env (eval e X.env)) (TP X hV σ Q) X.xe s
def PW(X:Cx)(e:Expr)(t:TT):Prop:=
 ∀(whole:Sem Value) (hV:hZ) (s:zAF) (σ:St) (H:Hp) (Q:Bool->Hp->Prop),Inv X hV σ H s->t σ H Q->wpAny (model X.prog X.w) X.A (isTrue e X.env whole) (TP X hV σ Q) X.xe s
def PW.pt(h:PW X e t):PT X e t:=h _
def PA(X:Cx)(es:List Expr)(t:TA):Prop:=
 ∀(pos:Pos) (hV:hZ) (s:zAF) (σ:St) (H:Hp) (Q:List V->Hp->Prop),Inv X hV σ H s->t σ H Q->wpAny (model X.prog X.w) X.A (spliced (zBx pos (zAY es X.env))) (AP X hV σ Q) X.xe s
def PS(X:Cx)(st:Stmt)(t:TS):Prop:=
 ∀(hV:hZ) (s:zAF) (σ:St) (H:Hp) (D:Ends),Inv X hV σ H s->t D σ H->wpAny (model X.prog X.w) X.A (exec st X.env) (SP X hV D) X.xe s
def PSs(X:Cx)(st:List Stmt)(t:TS):Prop:=
 ∀(hV:hZ) (s:zAF) (σ:St) (H:Hp) (D:Ends),Inv X hV σ H s->t D σ H->wpAny (model X.prog X.w) X.A (execs st X.env) (SP X hV D) X.xe s
def thn(h:wpAny M A t Q E s)(hQ:∀a s,Q a s->Q' a s):wpAny M A t Q' E s:=zBz h hQ λ _ _ x=>x
section
variable{X:Cx}
def mq(i:Nat):TE:=λ σ H Q=>∃v,σ[i]? =some (some v)/\Q v H
def tC(v:V):TE:=λ _ H Q=>Q v H
abbrev _root_.Nd(x:PySem.Str):Prop:=(x==("__debug__":PySem.Str))=false
def fL(hN:X.N[i]? =some x)(hv:Vis X.env.scope x)(hd:Nd x:=by decide)(hcd:(x==("__classdict__":Str))=false:=by decide):PE X (.Name x pos) (mq i):=by
 intro hV s σ H Q I h;obtain⟨v,e,h⟩:=h;obtain⟨m,hn,hl⟩:=I.loc;obtain⟨u,r,l⟩:=hl i x v hN e hv;have fin:EP X hV σ Q u s:=⟨v,H,I,r,h⟩;rcases l with ⟨hk,hm⟩|⟨hk,c,hc,hcell⟩
 .exact zHe (zHL I.ok.kind hk hn hm fin) hd
 .rcases hk with hk|hk
  .exact zHe (zHW I.ok.kind hk hc hcell fin) hd
  .exact zHe (wpAny_loadName_free I.ok.kind hk hc hcell fin hcd) hd
def aD9{i j pos}:PE X (.Constant (.int i) j pos) (tC (.int i)):=λ _ _ _ H _ I h=>wpAny_Constant_int ⟨.int i,H,I.tok _,⟨_,rfl⟩,h⟩
def aJ6{b j pos}:PE X (.Constant (.bool b) j pos) (tC (.bl b)):=λ _ _ _ H _ I h=>Constant_bool ⟨.bl b,H,I,rfl,h⟩
def aID{j pos}:PE X (.Constant .none j pos) (tC .non):=λ _ _ _ H _ I h=>Constant_none ⟨.non,H,I,rfl,h⟩
def aIA{x j pos}:PE X (.Constant (.str x) j pos) (tC (.str x)):=λ _ _ _ H _ I h=>Calls.Constant_str ⟨.str x,H,I.tok _,⟨_,rfl⟩,h⟩
def Gl(X:Cx)(x:Str):Prop:=X.env.kindOf x=some .globalImplicit
def xJ(I:Inv X hV σ H s)(hg:Gl X x)(hm:X.mg x=some u)(h:Q u s)
  (hd:Nd x:=by decide):wpAny (model X.prog X.w) X.A (eval (.Name x pos) X.env) Q E s:=
 zEn I.ok.kind hg (Calls.loadGlobal_global (by rw[I.ok.glob];exact I.mod.glob.keeps I.bk) hm h) hd
def pW(I:Inv X hV σ H s)(hg:Gl X x)(hm:X.mg x=none)(hv:zAq x=some u)(h:Q u s)
  (hn:x≠"__name__":=by decide)(hd:Nd x:=by decide):wpAny (model X.prog X.w) X.A (eval (.Name x pos) X.env) Q E s:=by
 obtain⟨mb,h1,h2⟩:=I.mod.blt;exact zEn I.ok.kind hg (Calls.loadGlobal_builtin (by rw[I.ok.glob];exact I.mod.glob.keeps I.bk) hm (by rw[I.ok.blt];exact h1.keeps I.bk) ((h2 x hn).trans hv) h) hd
def aF4(hg:Gl X x)(hm:X.mg x=some u)(r:RelV v u)(hd:Nd x:=by decide):PE X (.Name x pos) (tC v):=
 λ _ _ _ H _ I h=>xJ I hg hm ⟨v,H,I,r,h⟩ hd
def aF8(hg:Gl X x)(hm:X.mg x=none)(hv:zAq x=some u)(r:RelV v u)(hn:x≠"__name__":=by decide)(hd:Nd x:=by decide):PE X (.Name x pos) (tC v):=
 λ _ _ _ H _ I h=>pW I hg hm hv ⟨v,H,I,r,h⟩ hn hd
variable{a b:Expr}{ta tb:TE}{pos:Pos}
variable{tA tB':TT}{rest:List Expr}
def aK0(t u:TT):TT:=λ σ H Q=>t σ H λ c H1=>if c=true then u σ H1 Q else Q false H1
def tOr(t u:TT):TT:=λ σ H Q=>t σ H λ c H1=>if c=true then Q true H1 else u σ H1 Q
def aKW(t:TT):TT:=λ σ H Q=>t σ H λ c H1=>Q (!c) H1
def aFU(ha:PT X a tA):PW X (.BoolOp .And [a] pos) tA:=by
 intro wh hV s σ H Q I h;refine isTrue_and (thn (ha hV s σ H Q I h) λ c s1 e=>?_);cases c with
 |true=>exact isTrue_and_nil e
 |false=>exact e
def aHn(ha:PT X a tA):PW X (.BoolOp .Or [a] pos) tA:=by
 intro wh hV s σ H Q I h;refine isTrue_or (thn (ha hV s σ H Q I h) λ c s1 e=>?_);cases c with
 |false=>exact isTrue_or_nil e
 |true=>exact e
def aHo(ha:PT X a tA)(hb:PW X (.BoolOp .And (b::rest) pos) tB'):PW X (.BoolOp .And (a::b::rest) pos) (aK0 tA tB'):=by
 intro wh hV s σ H Q I h;refine isTrue_and (thn (ha hV s σ H _ I h) λ c s1 ⟨H1,I1,q1⟩=>?_);cases c with
 |true=>exact hb wh hV s1 σ H1 Q I1 q1
 |false=>exact⟨H1,I1,q1⟩
def aJ1(ha:PT X a tA)(hb:PW X (.BoolOp .Or (b::rest) pos) tB'):PW X (.BoolOp .Or (a::b::rest) pos) (tOr tA tB'):=by
 intro wh hV s σ H Q I h;refine isTrue_or (thn (ha hV s σ H _ I h) λ c s1 ⟨H1,I1,q1⟩=>?_);cases c with
 |true=>exact⟨H1,I1,q1⟩
 |false=>exact hb wh hV s1 σ H1 Q I1 q1
def aHr(ha:PT X a tA):PT X (.UnaryOp .Not a pos) (aKW tA):=by
 intro hV s σ H Q I h;exact isTrue_not (ha hV s σ H (λ c H1=>Q (!c) H1) I h)
def aJO(ta tb:TE):TE:=λ σ H Q=>ta σ H λ x H1=>∃c,x= .bl c/\if c=true then tb σ H1 Q else Q (.bl false) H1
def aKV(ta tb:TE):TE:=λ σ H Q=>ta σ H λ x H1=>∃c,x= .bl c/\if c=true then Q (.bl true) H1 else tb σ H1 Q
def aJJ(ta:TE):TE:=λ σ H Q=>ta σ H λ x H1=>∃c,x= .bl c/\Q (.bl (!c)) H1
def aIB{op}(h:PE X a t):PE X (.BoolOp op [a] pos) t:=λ hV s σ H Q I hw=>BoolOp_one (h hV s σ H Q I hw)
def aIF(ha:PE X a ta)(hb:PE X (.BoolOp .And (b::rest) pos) tb):PE X (.BoolOp .And (a::b::rest) pos) (aJO ta tb):=by
 intro hV s σ H Q I h;refine BoolOp_and (thn (ha hV s σ H _ I h) λ v s1 ⟨x,H1,I1,r1,q1⟩=>?_);obtain⟨c,rfl,q1⟩:=q1;cases r1;refine zCA ?_;cases c with
 |true=>exact hb hV s1 σ H1 Q I1 q1
 |false=>exact⟨.bl false,H1,I1,rfl,q1⟩
def aJ3(ha:PE X a ta)(hb:PE X (.BoolOp .Or (b::rest) pos) tb):PE X (.BoolOp .Or (a::b::rest) pos) (aKV ta tb):=by
 intro hV s σ H Q I h;refine BoolOp_or (thn (ha hV s σ H _ I h) λ v s1 ⟨x,H1,I1,r1,q1⟩=>?_);obtain⟨c,rfl,q1⟩:=q1;cases r1;refine zCA ?_;cases c with
 |false=>exact hb hV s1 σ H1 Q I1 q1
 |true=>exact⟨.bl true,H1,I1,rfl,q1⟩
def aIC(ha:PE X a ta):PE X (.UnaryOp .Not a pos) (aJJ ta):=by
 intro hV s σ H Q I h;refine UnaryOp_ (thn (ha hV s σ H _ I h) λ v s1 ⟨x,H1,I1,r1,q1⟩=>?_);obtain⟨c,rfl,q1⟩:=q1;cases r1;exact not_of (zCA ⟨.bl (!c),H1,I1,rfl,q1⟩)
def tIf(t:TT)(ta tb:TE):TE:=λ σ H Q=>t σ H λ c H1=>if c=true then ta σ H1 Q else tb σ H1 Q
def aDa(hc:PT X c tA)(ha:PE X a ta)(hb:PE X b tb):PE X (.IfExp c a b pos) (tIf tA ta tb):=by
 intro hV s σ H Q I h;refine wpAny_IfExp (thn (hc hV s σ H _ I h) λ d s1 ⟨H1,I1,q1⟩=>?_);cases d with
 |true=>exact ha hV s1 σ H1 Q I1 q1
 |false=>exact hb hV s1 σ H1 Q I1 q1
end
def SqL(K:zAA)(H:Hp)(a:Addr)(xs:List V):Prop:=
 Rd H a (.lst xs)\/
  ∃(o:Obj) (its:Array Value) (n:Nat),K.lookup a=some o/\o.cls= .type "list"/\o.dict=none/\o.data= .seq its n/\its.size<=zAO/\Vals xs its.toList
def SqT(K:zAA)(H:Hp)(a:Addr)(xs:List V):Prop:=
 Rd H a (.tup xs)\/
  ∃(o:Obj) (its:Array Value) (n:Nat),K.lookup a=some o/\o.cls= .type "tuple"/\o.dict=none/\o.data= .seq its n/\its.size<=zAO/\Vals xs its.toList
def aKf:Value->Option V
 | .none=>some .non
 | .bool b=>some (.bl b)
 | .int i _=>some (.int i)
 | .str x _=>some (.str x)
 | .bytes b _=>some (.byt b)
 | .float b _=>some (.flt b)
 | .ref a=>some (.ref a)
 | .type n=>some (.ty n)
 |_=>none
def RelV.abs(r:RelV x u):aKf u=some x:=by
 cases x with
 |non=>cases r;rfl
 |bl _=>cases r;rfl
 |int _=>obtain⟨t,rfl⟩:=r;rfl
 |str _=>obtain⟨t,rfl⟩:=r;rfl
 |byt _=>obtain⟨t,rfl⟩:=r;rfl
 |flt _=>obtain⟨t,rfl⟩:=r;rfl
 |ref _=>cases r;rfl
 |ty _=>cases r;rfl
def RelV.inj(r:RelV x u)(q:RelV y u):x=y:=zAk (r.abs.symm.trans q.abs)
theorem Vals.inj:∀{xs ys:List V} {us:List Value},Vals xs us->Vals ys us->xs=ys
 |_,_,_,.nil,.nil=>rfl
 |_,_,_,.cons r t,.cons r' t'=>by rw[r.inj r',Vals.inj t t']
section
variable{X:Cx}{hV:hZ}{σ:St}{H:Hp}{s:zAF}{a:Addr}{xs ys:List V}
def SqL.of{K:zAA}(h:H a=some (.lst xs)):SqL K H a xs:=.inl (.inl h)
def SqT.of{K:zAA}(h:H a=some (.tup xs)):SqT K H a xs:=.inl (.inl h)
def Inv.list(I:Inv X hV σ H s)(h:SqL X.K H a xs):∃its:List Value,Vals xs its/\PlainL s.heap a its.toArray/\xs.length<=zAO:=by
 rcases h with h|⟨o,its,n,hk,hc,hd,hs,hz,r⟩
 .obtain⟨z,its,n,r,e⟩:=h.ok I.hok
  exact⟨its,r,⟨_,n,e,rfl,rfl,rfl⟩,z⟩
 .refine⟨its.toList,r,⟨o,n,I.kIn a o hk,hc,hd,by simpa using hs⟩,?_⟩
  have e:=r.length;simp only[zBU]at e;lia
def Inv.tuple(I:Inv X hV σ H s)(h:SqT X.K H a xs):∃its:List Value,Vals xs its/\IsTup s.heap a its.toArray/\xs.length<=zAO:=by
 rcases h with h|⟨o,its,n,hk,hc,hd,hs,hz,r⟩
 .obtain⟨z,its,r,p⟩:=h.ok I.hok
  exact⟨its,r,p,z.1⟩
 .refine⟨its.toList,r,⟨o,I.kIn a o hk,hc,n,by simpa using hs⟩,?_⟩
  have e:=r.length;simp only[zBU]at e;lia
def Inv.list_inj(I:Inv X hV σ H s)(h:SqL X.K H a xs)(h':SqL X.K H a ys):xs=ys:=by
 obtain⟨its,r,⟨o,n,e,_,_,d⟩,_⟩:=I.list h;obtain⟨its',r',⟨o',n',e',_,_,d'⟩,_⟩:=I.list h';rw[e]at e';cases e';rw[d]at d';injection d' with d1 _
 have:its=its':=by simpa using congrArg zHX d1
 subst this;exact r.inj r'
def Inv.tuple_inj(I:Inv X hV σ H s)(h:SqT X.K H a xs)(h':SqT X.K H a ys):xs=ys:=by
 obtain⟨its,r,⟨o,e,_,n,d⟩,_⟩:=I.tuple h;obtain⟨its',r',⟨o',e',_,n',d'⟩,_⟩:=I.tuple h';rw[e]at e';cases e';rw[d]at d';injection d' with d1 _
 have:its=its':=by simpa using congrArg zHX d1
 subst this;exact r.inj r'
end
section
variable{X:Cx}{st:Stmt}{rest:List Stmt}{t u:TS}{e:Expr}{te:TE}{pos:Pos}
def aJK:TS:=λ D σ H=>D.nx σ H
def aKT(t u:TS):TS:=λ D σ H=>t {D with nx:=u D} σ H
def aB2:PSs X [] aJK:=λ _ _ σ H _ I h=>zES ⟨σ,H,I,h⟩
def yw(h1:PS X st t)(h2:PSs X rest u):PSs X (st::rest) (aKT t u):=by
 intro hV s σ H D I h;refine wpAny_execs_cons (thn (h1 hV s σ H {D with nx:=u D} I h) λ f s1 q=>?_);cases f with
 |next=>
  obtain⟨σ',H',I',q⟩:=q;exact h2 hV s1 σ' H' D I' q
 |ret v=>exact q
 |brk=>exact q
 |cont=>exact q
def aB1(h1:PS X st t):PSs X [st] t:=by
 intro hV s σ H D I h;refine wpAny_execs_cons (thn (h1 hV s σ H D I h) λ f s1 q=>?_);cases f with
 |next=>exact zES q
 |ret v=>exact q
 |brk=>exact q
 |cont=>exact q
def Inv.quiet(I:Inv X hV σ H s):interactive X.env=false:=by simp[interactive,I.ok.kind]
def rY(te:TE):TS:=λ D σ H=>te σ H λ _ H1=>D.nx σ H1
def jh(he:PE X e te)(hs:zBm e none pos.line X.env=pure false:=by rfl):PS X (.Expr e pos) (rY te):=by
 intro hV s σ H D I h;exact wpAny_Expr_any (thn (he hV s σ H _ I h) λ v s1 ⟨x,H1,I1,r1,q1⟩=>⟨σ,H1,I1,q1⟩) I.quiet hs
def aKU(te:TE):TS:=λ D σ H=>te σ H D.rt
def aHs(he:PE X e te):PS X (.Return (some e) pos) (aKU te):=by
 intro hV s σ H D I h;exact wpAny_Return_some (thn (he hV s σ H _ I h) λ v s1 ⟨x,H1,I1,r1,q1⟩=>⟨x,σ,H1,I1,r1,q1⟩)
def aKZ(c:TT)(t u:TS):TS:=λ D σ H=>c σ H λ b H1=>if b=true then t D σ H1 else u D σ H1
def aHH(hc:PT X c tc)(ha:PSs X a t)(hb:PSs X b u):PS X (.If c a b pos) (aKZ tc t u):=by
 intro hV s σ H D I h;refine wpAny_If (thn (hc hV s σ H _ I h) λ d s1 ⟨H1,I1,q1⟩=>?_);cases d with
 |true=>exact ha hV s1 σ H1 D I1 q1
 |false=>exact hb hV s1 σ H1 D I1 q1
end
abbrev TG:=V->St->Hp->(St->Hp->Prop)->Prop
abbrev TGs:=List V->St->Hp->(St->Hp->Prop)->Prop
def PG(X:Cx)(target:Expr)(t:TG):Prop:=
 ∀(hV:hZ) (s:zAF) (σ:St) (H:Hp) (v:V) (u:Value) (Q:St->Hp->Prop),Inv X hV σ H s->RelV v u->t v σ H Q->
  wpAny (model X.prog X.w) X.A (zFb target X.env u) (λ _ s'=>∃σ' H',Inv X hV σ' H' s'/\Q σ' H') X.xe s
def PGs(X:Cx)(ts:List Expr)(t:TGs):Prop:=
 ∀(hV:hZ) (s:zAF) (σ:St) (H:Hp) (vs:List V) (us:List Value) (Q:St->Hp->Prop),Inv X hV σ H s->Vals vs us->t vs σ H Q->
  wpAny (model X.prog X.w) X.A (assignInOrder ((zCT ts X.env).map (·.2)) us) (λ _ s'=>∃σ' H',Inv X hV σ' H' s'/\Q σ' H') X.xe s
abbrev TIp:=V->V->Hp->VK->Prop
def PIp(X:Cx)(op:Operator)(t:TIp):Prop:=
 ∀(hV:hZ) (s:zAF) (σ:St) (H:Hp) (x y:V) (v u:Value) (Q:VK),Inv X hV σ H s->RelV x v->RelV y u->t x y H Q->
  wpAny (model X.prog X.w) X.A (zHF op v u) (EP X hV σ Q) X.xe s
section
variable{X:Cx}{pos:Pos}
def qR(i:Nat):TG:=λ v σ H Q=>Q (σ.set i (some v)) H
def aF1(hN:X.N.Nodup)(hi:X.N[i]? =some x)(hx:Loc X.env.scope x)(hf:X.fn x=true\/X.env.scope.names.lookup x=some .local:=by first|exact .inl rfl|exact .inr rfl|assumption):PG X (.Name x pos) (qR i):=by
 intro hV s σ H v u Q I r h;exact zHf (rZ I hN hi hx r (λ s' I'=>⟨_,H,I',h⟩) hf)
def aIn:TGs:=λ vs σ H Q=>vs=[]/\Q σ H
def aEW(t:TG)(u:TGs):TGs:=λ vs σ H Q=>∃v r,vs=v::r/\t v σ H λ σ' H'=>u r σ' H' Q
def aF0:PGs X [] aIn:=by
 intro hV s σ H vs us Q I r h;obtain⟨e,h⟩:=h;subst e;cases r;exact assignInOrder_nil ⟨σ,H,I,h⟩
def aD7(h1:PG X e t)(h2:PGs X es u)
  (hs:(zCT (e::es) X.env).map (·.2)=zFb e X.env::(zCT es X.env).map (·.2):=by rfl):PGs X (e::es) (aEW t u):=by
 intro hV s σ H vs us Q I r h;obtain⟨v,vr,e1,h⟩:=h;subst e1;cases r with
 |cons r rr=>
  rw[hs];refine assignInOrder_cons (thn (h1 hV s σ H _ _ _ I r h) λ _ s1 ⟨σ1,H1,I1,q1⟩=>?_);exact h2 hV s1 σ1 H1 _ _ Q I1 rr q1
def aGX(K:zAA)(n:Nat)(t:TGs):TG:=λ v σ H Q=>∃a xs,v= .ref a/\SqT K H a xs/\xs.length=n/\t xs σ H Q
def aHw(hc:X.calm=true)(h:PGs X es t)
  (hn:(zCT es X.env).length=n:=by rfl)(hst:(zCT es X.env).findIdx? (·.1)=none:=by rfl):PG X (.Tuple es k pos) (aGX X.K n t):=by
 intro hV s σ H v u Q I r hw;obtain⟨a,xs,e1,hq,hl,hw⟩:=hw;subst e1;cases r;obtain⟨its,rv,ht,hz⟩:=I.tuple hq;refine assign_Tuple_tuple (I.ok.hd hc) ht (by simp[hn,<-hl,rv.length]) hst λ h' hx=>?_
 have I1:Inv X hV σ H {s with heap:=h'}:=I.kept (t':=s.toks) λ b o e=>hx b o (zAn (zA4 e)) e
 exact h hV _ σ H xs _ Q I1 (by simpa using rv) hw
def aCn(te:TE)(g:TG):TS:=λ D σ H=>te σ H λ x H1=>g x σ H1 D.nx
def aHt(he:PE X e te)(hg:PG X tg g)(hs:swapsWithSole [tg] e pos.line X.env=pure false:=by rfl)(hw:swappedStores [tg] e X.env=pure none:=by rfl)
  (h1:(zCT [tg] X.env).map (·.2)=[zFb tg X.env]:=by rfl):PS X (.Assign [tg] e pos) (aCn te g):=by
 intro hV s σ H D I h;refine wpAny_Assign_stores (thn (he hV s σ H _ I h) λ v s1 ⟨x,H1,I1,r1,q1⟩=>?_) hs hw;rw[h1];exact thn (hg hV s1 σ H1 x v _ I1 r1 q1) λ _ s2 q=>q
def aD0(hN:X.N.Nodup)(hi:X.N[i]? =some x)(hx:Loc X.env.scope x)(he:PE X e te)(hs:zBm e (some (.Name x pos')) pos.line X.env=pure false:=by rfl)(hf:X.fn x=true\/X.env.scope.names.lookup x=some .local:=by first|exact .inl rfl|exact .inr rfl|assumption):
  PS X (.Assign [.Name x pos'] e pos) (aCn te (qR i)):=by
 intro hV s σ H D I h;refine wpAny_Assign_Name (thn (he hV s σ H _ I h) λ v s1 ⟨y,H1,I1,r1,q1⟩=>?_) hs;exact rZ I1 hN hi hx r1 (λ s2 I2=>⟨_,H1,I2,q1⟩) hf
def aJN(i:Nat)(te:TE)(ti:TIp):TS:=λ D σ H=>∃x,σ[i]? =some (some x)/\te σ H λ y H1=>ti x y H1 λ z H2=>D.nx (σ.set i (some z)) H2
def aD3(hN:X.N.Nodup)(hi:X.N[i]? =some x)(hx:Loc X.env.scope x)(he:PE X e te)(ho:PIp X op ti)(hf:X.fn x=true\/X.env.scope.names.lookup x=some .local:=by first|exact .inl rfl|exact .inr rfl|assumption):
  PS X (.AugAssign (.Name x pos') op e pos) (aJN i te ti):=by
 intro hV s σ H D I h;obtain⟨v,e1,h⟩:=h;obtain⟨m,hn,hl⟩:=I.loc;have vis:Vis X.env.scope x:=by rcases hx with k|k;exact .inl k;exact .inr (.inl k)
 obtain⟨u,r,l⟩:=hl i x v hi e1 vis;refine wpAny_AugAssign_Name ?_;have go:wpAny (model X.prog X.w) X.A (eval e X.env) (λ w zS=>wpAny (model X.prog X.w) X.A (zHF op u w) (λ r zI=>wpAny (model X.prog X.w) X.A (storeName X.env x r) (λ _=>SP X hV D .next) X.xe zI) X.xe zS) X.xe s:=by
  refine thn (he hV s σ H _ I h) λ w s1 ⟨y,H1,I1,r1,q1⟩=>?_
  refine thn (ho hV s1 σ H1 v y u w _ I1 r r1 q1) λ z s2 ⟨zv,H2,I2,r2,q2⟩=>?_
  exact rZ I2 hN hi hx r2 (λ s3 I3=>⟨_,H2,I3,q2⟩) hf
 rcases l with ⟨hk,hm⟩|⟨hk,c,hc,hcell⟩
 .exact zHL I.ok.kind hk hn hm go
 .rcases hk with hk|hk
  .exact zHW I.ok.kind hk hc hcell go
  .rcases hx with k|k
   .have:X.env.scope.names.lookup x=some .free:=hk
    rw[k]at this;cases this
   .have:X.env.scope.names.lookup x=some .free:=hk
    rw[k]at this;cases this
def ipI(f:Int->Int->Int):TIp:=λ x y H Q=>∃i j,x= .int i/\y= .int j/\Q (.int (f i j)) H
def aEG:PIp X .Add (ipI λ i j=>i+j):=by
 intro hV s σ H x y v u Q I r1 r2 h;obtain⟨i,j,e1,e2,q⟩:=h;subst e1;subst e2;obtain⟨t,rfl⟩:=r1;obtain⟨t',rfl⟩:=r2;exact iadd_int ⟨.int _,H,I.tok _,⟨_,rfl⟩,q⟩
end
section
variable{X:Cx}{pos:Pos}
def aH0(c:TT)(tb:TS):TS:=λ D σ H=>∃W:Nat->St->Hp->Prop,(∃m,W m σ H)/\∀m σ H,W m σ H->
 c σ H λ b H1=>if b=true then∃N:St->Hp->Prop,(∀σ' H',N σ' H'->∃m',m'<m/\W m' σ' H')/\tb {D with nx:=N,ct:=N,bk:=D.nx} σ H1 else D.nx σ H1
def aDZ(hp:zHB (model X.prog X.w) X.A X.env X.xe)(hc:PT X c tc)(hb:PSs X body tb):PS X (.While c body [] pos) (aH0 tc tb):=by
 intro hV s σ H D I h;obtain⟨W,⟨m0,w0⟩,turn⟩:=h;refine wpAny_While (codeAny_whileLoop (λ n s'=>∃σ' H',Inv X hV σ' H' s'/\W n σ' H') ?_ m0 ⟨σ,H,I,w0⟩);rintro n s1 ⟨σ1,H1,I1,w1⟩;refine zCQ hp (thn (hc hV s1 σ1 H1 _ I1 (turn n σ1 H1 w1)) λ b s2 ⟨H2,I2,q2⟩=>?_);cases b with
 |true=>
  obtain⟨N,hN,q2⟩:=q2;rw[if_pos rfl];refine zCQ hp (thn (hb hV s2 σ1 H2 _ I2 q2) λ f s3 q3=>?_);cases f with
  |next=>
   obtain⟨σ3,H3,I3,n3⟩:=q3;obtain⟨m',hm,w3⟩:=hN σ3 H3 n3;exact⟨m',hm,σ3,H3,I3,w3⟩
  |cont=>
   obtain⟨σ3,H3,I3,n3⟩:=q3;obtain⟨m',hm,w3⟩:=hN σ3 H3 n3;exact⟨m',hm,σ3,H3,I3,w3⟩
  |brk=>exact q3
  |ret v=>exact q3
 |false=>
  rw[if_neg zA5];exact zES ⟨σ1,H2,I2,q2⟩
end
structure It where
 go:Nat->Hp->Prop
 yld:Nat->Hp->V->Hp->Prop
 stop:Nat->Hp->Prop
def uX(X:Cx)(hV:hZ)(H:Hp)(b:Addr):Prop:=
 H b=none/\b≠X.env.locals/\b∉X.fs/\(b∈X.ex\/X.z5.heap.objs.size<=b)/\(∀x c,X.env.cells.lookup x=some c->c≠b)/\∀p∈X.ta++(X.pn++hV),p.1≠b
def Inv.fpOk(I:Inv X hV σ H s)(hb:s.heap.objs.size<=b)(hn:H' b=none):uX X hV H' b:=by
 refine⟨hn,zDo (zA3 I.lt hb),I.nofs hb,.inr (zAc I.sz hb),λ x c e z=>?_,λ p hp z=>?_⟩
 .obtain⟨v,q⟩:=I.cell x c e
  exact absurd (zA3 q.lt (by rw[z];exact hb)) (zBg _)
 .exact absurd (zA3 (I.pinL hp) (by rw[z];exact hb)) (zBg _)
structure Turn(P:zAZ)(w:World)(K:zAA)(tg:Expr)(J:It)(fp:List Addr)(it:Addr)(tn:Nat->Heap->Prop):Prop where
 mem:it∈fp
 obj:∀i h,tn i h->∀b∈fp,∃o,h.get? b=some o/\∀v,o.data≠.cell v
 keep:∀i h h',tn i h->(∀b∈fp,∀o,h.get? b=some o->h'.get? b=some o)->tn i h'
 item:∀(X:Cx),X.prog=P->X.w=w->X.K=K->X.calm=true->∀(i:Nat) (hV:hZ) (s:zAF) (σ:St) (H:Hp) (E:Value->zAF->Prop),Inv X hV σ H s->(∀b∈fp,uX X hV H b)->tn i s.heap->J.go i H->
  wpAny (model P w) X.A (pyNext (.ref it)) (λ r s1=>∃u,r=some u/\
   wpAny (model P w) X.A (zER tg (.ref it) u) (λ _ s2=>∃x H',Inv X hV σ H' s2/\RelV x u/\J.yld i H x H'/\tn (i+1) s2.heap/\∀b∈fp,H' b=none) E s1) E s
 done:∀(X:Cx),X.prog=P->X.w=w->X.K=K->X.calm=true->∀(i:Nat) (hV:hZ) (s:zAF) (σ:St) (H:Hp) (E:Value->zAF->Prop),Inv X hV σ H s->(∀b∈fp,uX X hV H b)->tn i s.heap->J.stop i H->
  wpAny (model P w) X.A (pyNext (.ref it)) (λ r s1=>r=none/\Inv X hV σ H s1) E s
 self:∀(A:zAd) (i:Nat) (s:zAF) (Q:Value->zAF->Prop) (E:Value->zAF->Prop),tn i s.heap->Q (.ref it) s->wpAny (model P w) A (pyIter (.ref it)) Q E s
abbrev TI:=St->Hp->(It->Hp->Prop)->Prop
def PIE(X:Cx)(hV:hZ)(σ:St)(tg:Expr)(R:It->Hp->Prop)(itv:Value)(s2:zAF):Prop:=
 ∃(it:Addr) (fp:List Addr) (tn:Nat->Heap->Prop) (J:It) (H':Hp),itv= .ref it/\Inv X hV σ H' s2/\Turn X.prog X.w X.K tg J fp it tn/\tn 0 s2.heap/\(∀b∈fp,uX X hV H' b)/\R J H'
def PI(X:Cx)(tg iter:Expr)(wi:TI):Prop:=
 ∀(hV:hZ) (s:zAF) (σ:St) (H:Hp) (R:It->Hp->Prop),Inv X hV σ H s->wi σ H R->
  wpAny (model X.prog X.w) X.A (eval iter X.env) (λ v s1=>wpAny (model X.prog X.w) X.A (pyIter v) (PIE X hV σ tg R) X.xe s1) X.xe s
def aET(ho:s.heap.get? it=some o)(hc:o.cls= .type n)(hd:o.data= .fields vs)
    (hn:["enumerate","zip","dict_itemiterator","dict_reverseitemiterator","odict_iterator","itertools.zip_longest","itertools.pairwise"].contains n=false)(hQ:Q () s):wpAny M A (zER tg (.ref it) u) Q E s:=by
  unfold zER;cases tg<;>first
    |exact zA7 hQ
    | (cases u <;> first
        |exact zA7 hQ
        | (refine zAR (zHg ho ?_)
           rw[hc,hd];show wpAny M A (if (["enumerate","zip","dict_itemiterator","dict_reverseitemiterator","odict_iterator","itertools.zip_longest","itertools.pairwise"].contains n&&vs[0]? ==some (rawInt _))=true then _ else _) Q E s;rw[if_neg (by intro h;rw[hn,Bool.false_and]at h;cases h)];exact zA7 hQ))
def Itl(K:zAA)(a:Addr):It:=
 ⟨λ i H=>∃xs x,SqL K H a xs/\xs[i]? =some x,λ i H x H'=>H'=H/\∀xs,SqL K H a xs->xs[i]? =some x,λ i H=>∃xs,SqL K H a xs/\xs.length<=i⟩
def Itt(K:zAA)(a:Addr):It:=
 ⟨λ i H=>∃xs x,SqT K H a xs/\xs[i]? =some x,λ i H x H'=>H'=H/\∀xs,SqT K H a xs->xs[i]? =some x,λ i H=>∃xs,SqT K H a xs/\xs.length<=i⟩
def Itr(lo:Int)(n:Nat):It:=⟨λ i _=>i<n,λ i H x H'=>H'=H/\x= .int (lo+i),λ i _=>n<=i⟩
def aBs{P:zAZ}{w:World}{K:zAA}{tg:Expr}(a it:Addr):Turn P w K tg (Itl K a) [it] it (λ i h=>h.IsListIter it a i) where
 mem:=by simp
 obj:=λ i h st b hb=>by
  have e:b=it:=by simpa using hb
  subst e;obtain⟨o,e,c,d⟩:=st;exact⟨o,e,λ v z=>by rw[d]at z;cases z⟩
 keep:=λ i h h' st k=>st.at λ o e=>k it (by simp) o e
 item:=by
  intro X hP hw hK hc i hV s σ H E I hf st hg;subst hP hw hK;obtain⟨xs,x,hq,hx⟩:=hg;obtain⟨its,rv,p,hz⟩:=I.list hq;obtain⟨u,hu,ru⟩:=rv.get hx;obtain⟨f0,f1,f2,f3,f4,f5⟩:=hf it (by simp);refine wpAny_pyNext_list_item st p.isList (x:=u) (by simpa using hu) λ h' st' sb=>?_
  have I1:Inv X hV σ H {s with heap:=h'}:=I.turned (t':=s.toks) (λ b o hb e=>(sb.2 b hb).trans e) f0 f1 f3 f4 f5;obtain⟨o,e,c,d⟩:=id st';exact⟨u,rfl,aET (s:={s with heap:=h'}) e c d (by decide) ⟨x,H,I1,ru,⟨rfl,λ ys hy=>by rw[I.list_inj hy hq];exact hx⟩,st',λ b hb=>(hf b hb).1⟩⟩
 done:=by
  intro X hP hw hK hc i hV s σ H E I hf st hg;subst hP hw hK;obtain⟨xs,hq,hx⟩:=hg;obtain⟨its,rv,p,hz⟩:=I.list hq;obtain⟨f0,f1,f2,f3,f4,f5⟩:=hf it (by simp);have hl:=rv.length;exact wpAny_pyNext_list_end (I.ok.hd hc) st p.isList (by simp;lia) λ h' eb=>⟨rfl,I.turned (t':=s.toks) (λ b o hb e=>eb b o hb e) f0 f1 f3 f4 f5⟩
 self:=λ _ _ _ _ _ st h=>wpAny_pyIter_listiter st h
def aAH{P:zAZ}{w:World}{K:zAA}{tg:Expr}(a it:Addr):Turn P w K tg (Itt K a) [it] it (λ i h=>h.IsTupleIter it a i) where
 mem:=by simp
 obj:=λ i h st b hb=>by
  have e:b=it:=by simpa using hb
  subst e;obtain⟨o,e,c,d⟩:=st;exact⟨o,e,λ v z=>by rw[d]at z;cases z⟩
 keep:=λ i h h' st k=>st.at λ o e=>k it (by simp) o e
 item:=by
  intro X hP hw hK hc i hV s σ H E I hf st hg;subst hP hw hK;obtain⟨xs,x,hq,hx⟩:=hg;obtain⟨its,rv,p,hz⟩:=I.tuple hq;obtain⟨u,hu,ru⟩:=rv.get hx;obtain⟨f0,f1,f2,f3,f4,f5⟩:=hf it (by simp);refine wpAny_pyNext_tuple_item st (show s.heap.IsTuple a its.toArray from p) (x:=u) (by simpa using hu) λ h' st' sb=>?_
  have I1:Inv X hV σ H {s with heap:=h'}:=I.turned (t':=s.toks) (λ b o hb e=>(sb.2 b hb).trans e) f0 f1 f3 f4 f5;obtain⟨o,e,c,d⟩:=id st';exact⟨u,rfl,aET (s:={s with heap:=h'}) e c d (by decide) ⟨x,H,I1,ru,⟨rfl,λ ys hy=>by rw[I.tuple_inj hy hq];exact hx⟩,st',λ b hb=>(hf b hb).1⟩⟩
 done:=by
  intro X hP hw hK hc i hV s σ H E I hf st hg;subst hP hw hK;obtain⟨xs,hq,hx⟩:=hg;obtain⟨its,rv,p,hz⟩:=I.tuple hq;obtain⟨f0,f1,f2,f3,f4,f5⟩:=hf it (by simp);have hl:=rv.length;exact wpAny_pyNext_tuple_end (I.ok.hd hc) st (show s.heap.IsTuple a its.toArray from p) (by simp;lia) λ h' eb=>⟨rfl,I.turned (t':=s.toks) (λ b o hb e=>eb b o hb e) f0 f1 f3 f4 f5⟩
 self:=λ _ _ _ _ _ st h=>wpAny_pyIter_tupleiter st h
def aAI{P:zAZ}{w:World}{K:zAA}{tg:Expr}(it:Addr)(lo:Int)(n:Nat):Turn P w K tg (Itr lo n) [it] it (λ i h=>IsRangeIter h it (lo+(i:Nat)*1) ((n:Int)-(i:Nat)) 1) where
 mem:=by simp
 obj:=λ i h st b hb=>by
  have e:b=it:=by simpa using hb
  subst e;exact⟨_,st,λ v z=>by
   have z':Data.fields _=Data.cell v:=z;cases z'⟩
 keep:=λ i h h' st k=>k it (by simp) _ st
 item:=by
  intro X hP hw hK hc i hV s σ H E I hf st hg;subst hP hw hK;obtain⟨f0,f1,f2,f3,f4,f5⟩:=hf it (by simp);have W:=Walks.range (prog:=X.prog) (w:=X.w) (I.ok.hd hc) it lo 1 n;refine W.item i s _ _ hg st λ v h' tk hv st' kk=>?_
  obtain⟨t,rfl⟩:=hv;have I1:Inv X hV σ H {s with heap:=h',toks:=tk}:=I.turned (λ b o hb e=>kk b o (by simpa using hb) e) f0 f1 f3 f4 f5;refine⟨_,rfl,aET (s:={s with heap:=h',toks:=tk}) (n:="range_iterator") st' rfl rfl (by decide) ⟨.int (lo+i),H,I1,⟨t,?_⟩,⟨rfl,rfl⟩,st',λ b hb=>(hf b hb).1⟩⟩;rw[Int.mul_one]
 done:=by
  intro X hP hw hK hc i hV s σ H E I hf st hg;subst hP hw hK;obtain⟨f0,f1,f2,f3,f4,f5⟩:=hf it (by simp);exact wpAny_pyNext_range_end (I.ok.hd hc) st (by have:n<=i:=hg;lia) λ h' eb=>⟨rfl,I.turned (t':=s.toks) (λ b o hb e=>eb b o hb e) f0 f1 f3 f4 f5⟩
 self:=λ _ _ _ _ _ st h=>wpAny_pyIter_rangeiter st h
section
variable{X:Cx}{tg:Expr}
def yp{hV:hZ}{σ:St}{H:Hp}{s:zAF}{R:It->Hp->Prop}{E:Value->zAF->Prop}{lo hi:Int}{t u v:Tok}{tk:Nat}(I:Inv X hV σ H s)(h1: -(2^62)<=lo)(h2:lo<2^62)(h3: -(2^62)<=hi)(h4:hi<2^62)
  (q:R (Itr lo (hi-lo).toNat) H):wpAny (model X.prog X.w) X.A (pyIter (.ref s.heap.objs.size)) (PIE X hV σ tg R) E {s with heap:=s.heap.push {cls:=.type "range",data:=.fields #[.int lo t,.int hi u,.int 1 v]},toks:=tk}:=by
 refine wpAny_pyIter_range (IsRange.new ..) (small_one h1 h2 h3 h4) ?_;have I1:Inv X hV σ H {s with heap:=s.heap.push {cls:=.type "range",data:=.fields #[.int lo t,.int hi u,.int 1 v]},toks:=tk}:=I.kept λ b o e=>zAC _ e
 refine⟨(s.heap.push {cls:=.type "range",data:=.fields #[.int lo t,.int hi u,.int 1 v]}).objs.size,[(s.heap.push {cls:=.type "range",data:=.fields #[.int lo t,.int hi u,.int 1 v]}).objs.size],_,_,H,rfl,
  I1.kept (t':=tk) λ b o e=>zAC _ e,aAI _ lo (hi-lo).toNat,?_,λ b hb=>?_,q⟩
 .have e1:lo+((0:Nat):Int)*1=lo:=by simp
  have e2:(((hi-lo).toNat:Nat):Int)-((0:Nat):Int)=zAl lo hi 1:=by rw[rangeSize_one];split<;>lia
  show IsRangeIter _ _ (lo+((0:Nat):Int)*1) ((((hi-lo).toNat:Nat):Int)-((0:Nat):Int)) 1;rw[e1,e2];exact zA1 _ rfl
 .have e:b=(s.heap.push {cls:=.type "range",data:=.fields #[.int lo t,.int hi u,.int 1 v]}).objs.size:=by simpa using hb
  subst e;exact I1.fpOk (zAU _) (I1.hok.fresh (zAU _))
def aKB(ta:TA):TI:=λ σ H R=>ta σ H λ vs H1=>∃j:Int,vs=[.int j]/\-(2^62)<=j/\j<2^62/\R (Itr 0 j.toNat) H1
def aKA(ta:TA):TI:=λ σ H R=>ta σ H λ vs H1=>∃i j:Int,vs=[.int i,.int j]/\(-(2^62)<=i/\i<2^62/\-(2^62)<=j/\j<2^62)/\R (Itr i (j-i).toNat) H1
def aCG{a:Expr}{ta:TA}{p pos:Pos}(hg:Gl X "range")(hm:X.mg "range"=none)(ha:PA X [a] ta)(hs:zAY [a] X.env=[(false,eval a X.env)]:=by rfl):PI X tg (.Call (.Name "range" p) [a] [] pos) (aKB ta):=by
 intro hV s σ H R I h;refine Call_ (pW I hg hm zFR (zC7 (thn (ha pos hV s σ H _ I h) λ us s1 ⟨vs,H1,I1,r1,q1⟩=>?_) hs rfl));obtain⟨j,e,q1,q2,q⟩:=q1;subst e;cases r1 with
 |cons r rr=>
  cases rr;obtain⟨t,rfl⟩:=r;exact call_range_1 (yp I1 (by lia) (by lia) q1 q2 (by simpa using q))
def aCF(hg:Gl X "range")(hm:X.mg "range"=none)(ha:PA X [a,b] ta)(hs:zAY [a,b] X.env=[(false,eval a X.env),(false,eval b X.env)]:=by rfl)(hs2:zAY [b] X.env=[(false,eval b X.env)]:=by rfl):
  PI X tg (.Call (.Name "range" p) [a,b] [] pos) (aKA ta):=by
 intro hV s σ H R I h;refine Call_ (pW I hg hm zFR (zC7 (thn (ha pos hV s σ H _ I h) λ us s1 ⟨vs,H1,I1,r1,q1⟩=>?_) (by rw[hs,hs2]) (by rw[hs2];rfl)));obtain⟨i,j,e,⟨q1,q2,q3,q4⟩,q⟩:=q1;subst e;cases r1 with
 |cons r rr=>
  cases rr with
  |cons r' rr=>
   cases rr;obtain⟨t,rfl⟩:=r;obtain⟨t',rfl⟩:=r';exact call_range_2 (yp I1 q1 q2 q3 q4 q)
def aJL(wi:TI)(g:TG)(tb:TS):TS:=λ D σ H=>wi σ H λ J H1=>∃W:Nat->Nat->St->Hp->Prop,(∃m,W 0 m σ H1)/\∀i m σ H,W i m σ H->
 (J.stop i H/\D.nx σ H)\/(J.go i H/\∃N:St->Hp->Prop,(∀σ' H',N σ' H'->∃m',m'<m/\W (i+1) m' σ' H')/\∀x H',J.yld i H x H'->g x σ H' λ σ2 H2=>tb {D with nx:=N,ct:=N,bk:=D.nx} σ2 H2)
def tE(fp:List Addr)(h:Heap):hZ:=fp.filterMap λ b=>(h.get? b).map λ o=>(b,o)
def nR(hb:b∈fp)(e:h.get? b=some o):(b,o)∈tE fp h:=zCC.mpr ⟨b,hb,by rw[e];rfl⟩
def vN(hp:p∈tE fp h):p.1∈fp/\h.get? p.1=some p.2:=by
 obtain⟨b,hb,e⟩:=zCC.mp hp;cases q:h.get? b with
 |none=>rw[q]at e;cases e
 |some o=>
  rw[q]at e;have e':(b,o)=p:=zAk e;subst e';exact⟨hb,q⟩
def Inv.pinned(I:Inv X hV σ H s)(hf:∀b∈fp,uX X hV H b)(ho:∀b∈fp,∃o,s.heap.get? b=some o/\∀v,o.data≠.cell v):Inv X (hV++tE fp s.heap) σ H s:=
 I.pins_of (λ p hp=>(zAQ.mp hp).elim (λ z=>I.pin p (zA0 _ z)) λ z=>by
  obtain⟨hb,e⟩:=vN z;obtain⟨f0,f1,f2,_⟩:=hf p.1 hb;obtain⟨o,e',d⟩:=ho p.1 hb;rw[e]at e';cases e';exact⟨e,f0,f1,f2,d⟩) λ q hq p hp=>(zAQ.mp hq).elim (λ z=>(I.tab p hp).2.2.2.1 q (zA0 _ z)) λ z=>((hf q.1 (vN z).1).2.2.2.2.2 p (zAK _ hp)).symm
def Inv.unpinned(I:Inv X (hV++pl) σ H s):Inv X hV σ H s:=I.pins_of (λ p hp=>I.pin p (zA0 _ (zAK _ hp))) λ q hq p hp=>(I.tab p hp).2.2.2.1 q (zA0 _ (zAK _ hq))
def aD2(hp:zHB (model X.prog X.w) X.A X.env X.xe)(hc:X.calm=true)(hi:PI X tg iter wi)(hg:PG X tg g)(hb:PSs X body tb)
  (hs:∀x,zB8 iter X.env x=pure x:=by intro _;rfl):PS X (.For tg iter body [] pos) (aJL wi g tb):=by
 intro hV s σ H D I h;refine wpAny_For (thn (hi hV s σ H _ I h) λ v s1 h1=>thn h1 λ itv s2 h2=>?_) hs;obtain⟨it,fp,tn,J,H2,e,I2,T,st2,f2,W,⟨m0,w0⟩,turn⟩:=h2;subst e;have qV:∀{H':Hp},(∀b∈fp,H' b=none)->∀b∈fp,uX X hV H' b:=λ hn b hb=>⟨hn b hb,(f2 b hb).2⟩
 refine codeAny_forLoop_any (λ n s'=>∃i σ' H',Inv X hV σ' H' s'/\tn i s'.heap/\(∀b∈fp,H' b=none)/\W i n σ' H') ?_ m0 ⟨0,σ,H2,I2,st2,λ b hb=>(f2 b hb).1,w0⟩;rintro n s3 ⟨i,σ3,H3,I3,st3,fr3,w3⟩;rcases turn i n σ3 H3 w3 with ⟨stop,qn⟩|⟨go,N,hN,step⟩
 .refine zCQ hp (thn (T.done X rfl rfl rfl hc i hV s3 σ3 H3 X.xe I3 (qV fr3) st3 stop) λ r s4 ⟨hr,I4⟩=>?_)
  subst hr;exact zES ⟨σ3,H3,I4,qn⟩
 .refine zCQ hp (thn (T.item X rfl rfl rfl hc i hV s3 σ3 H3 X.xe I3 (qV fr3) st3 go) λ r s4 ⟨u,hr,h4⟩=>?_)
  subst hr;refine zCQ hp (thn h4 λ _ s5 ⟨x,H5,I5,r5,y5,st5,fr5⟩=>?_);have I5':=I5.pinned (qV fr5) (T.obj _ _ st5);refine zCQ hp (thn (hg _ s5 σ3 H5 x u _ I5' r5 (step x H5 y5)) λ _ s6 ⟨σ6,H6,I6,q6⟩=>?_);refine zCQ hp (thn (hb _ s6 σ6 H6 _ I6 q6) λ f s7 q7=>?_);have again:∀{σ7:St} {H7:Hp},Inv X (hV++tE fp s5.heap) σ7 H7 s7->N σ7 H7->∃m,m<n/\∃i σ' H',Inv X hV σ' H' s7/\tn i s7.heap/\(∀b∈fp,H' b=none)/\W i m σ' H':=λ{σ7 H7} I7 n7=>by
   obtain⟨m',hm,w7⟩:=hN σ7 H7 n7;refine⟨m',hm,i+1,σ7,H7,I7.unpinned,T.keep _ _ _ st5 λ b hb o e=>(I7.pin (b,o) (zA0 _ (zA0 _ (nR hb e)))).1,λ b hb=>?_,w7⟩;obtain⟨o,e,d⟩:=T.obj _ _ st5 b hb;exact(I7.pin (b,o) (zA0 _ (zA0 _ (nR hb e)))).2.1
  cases f with
  |next=>obtain⟨σ7,H7,I7,n7⟩:=q7;exact again I7 n7
  |cont=>obtain⟨σ7,H7,I7,n7⟩:=q7;exact again I7 n7
  |brk=>obtain⟨σ7,H7,I7,q7⟩:=q7;exact⟨σ7,H7,I7.unpinned,q7⟩
  |ret v=>obtain⟨x7,σ7,H7,I7,r7,q7⟩:=q7;exact⟨x7,σ7,H7,I7.unpinned,r7,q7⟩
end
abbrev R2:=V->V->Hp->VK->Prop
def OpR(X:Cx)(f:Value->Value->Sem Value)(r:R2):Prop:=
 ∀(hV:hZ) (s:zAF) (σ:St) (H:Hp) (x y:V) (v u:Value) (Q:VK),Inv X hV σ H s->RelV x v->RelV y u->r x y H Q->
  wpAny (model X.prog X.w) X.A (f v u) (EP X hV σ Q) X.xe s
def UnR(X:Cx)(f:Value->Sem Value)(r:V->Hp->VK->Prop):Prop:=
 ∀(hV:hZ) (s:zAF) (σ:St) (H:Hp) (x:V) (v:Value) (Q:VK),Inv X hV σ H s->RelV x v->r x H Q->
  wpAny (model X.prog X.w) X.A (f v) (EP X hV σ Q) X.xe s
def cA(X:Cx)(f:Value)(r:List V->Hp->VK->Prop):Prop:=
 ∀(hV:hZ) (s:zAF) (σ:St) (H:Hp) (xs:List V) (us:List Value) (Q:VK),Inv X hV σ H s->Vals xs us->r xs H Q->
  wpAny (model X.prog X.w) X.A (call f us) (EP X hV σ Q) X.xe s
def aKg(X:Cx)(r:V->Hp->(Bool->Hp->Prop)->Prop):Prop:=
 ∀(hV:hZ) (s:zAF) (σ:St) (H:Hp) (x:V) (v:Value) (Q:Bool->Hp->Prop),Inv X hV σ H s->RelV x v->r x H Q->
  wpAny (model X.prog X.w) X.A (truthy v) (TP X hV σ Q) X.xe s
def tOp(r:R2)(ta tb:TE):TE:=λ σ H Q=>ta σ H λ x H1=>tb σ H1 λ y H2=>r x y H2 Q
def tUn(r:V->Hp->VK->Prop)(ta:TE):TE:=λ σ H Q=>ta σ H λ x H1=>r x H1 Q
def rI(C:Int->Int->Prop)(g:Int->Int->V):R2:=λ x y H Q=>∃i j,x= .int i/\y= .int j/\C i j/\Q (g i j) H
def rI0(g:Int->Int->V):R2:=λ x y H Q=>∃i j,x= .int i/\y= .int j/\Q (g i j) H
def rU(g:Int->V):V->Hp->VK->Prop:=λ x H Q=>∃i,x= .int i/\Q (g i) H
section
variable{X:Cx}{a b:Expr}{ta tb:TE}{pos:Pos}
def aIy(ha:PE X a ta)(hb:PE X b tb){hV:hZ}{s:zAF}{σ:St}{H:Hp}{R:V->V->Hp->Prop}(I:Inv X hV σ H s)
  (h:ta σ H λ x H1=>tb σ H1 λ y H2=>R x y H2){Q:Value->zAF->Prop}{f:Value->Value->Sem Value}
  (hf:∀v u s2 x y H2,Inv X hV σ H2 s2->RelV x v->RelV y u->R x y H2->wpAny (model X.prog X.w) X.A (f v u) Q X.xe s2):
  wpAny (model X.prog X.w) X.A (eval a X.env) (λ v z3=>wpAny (model X.prog X.w) X.A (eval b X.env) (λ u zS=>wpAny (model X.prog X.w) X.A (f v u) Q X.xe zS) X.xe z3) X.xe s:=by
 refine thn (ha hV s σ H _ I h) λ v s1 ⟨x,H1,I1,r1,q1⟩=>?_
 refine thn (hb hV s1 σ H1 _ I1 q1) λ u s2 ⟨y,H2,I2,r2,q2⟩=>?_
 exact hf v u s2 x y H2 I2 r1 r2 q2
def aJ4{op:Operator}{r:R2}(ho:OpR X (zBe op) r)(ha:PE X a ta)(hb:PE X b tb):PE X (.BinOp a op b pos) (tOp r ta tb):=by
 intro hV s σ H Q I h;exact wpAny_BinOp (aIy ha hb I h λ v u s2 x y H2 I2 rx ry q=>ho hV s2 σ H2 x y v u Q I2 rx ry q)
def aJ2(ho:UnR X (unaryOp op) r)(ha:PE X a ta):PE X (.UnaryOp op a pos) (tUn r ta):=by
 intro hV s σ H Q I h;exact UnaryOp_ (thn (ha hV s σ H _ I h) λ v s1 ⟨x,H1,I1,r1,q1⟩=>ho hV s1 σ H1 x v Q I1 r1 q1)
def opI{f:Value->Value->Sem Value}{C:Int->Int->Prop}{g:Int->Int->Int}
  (rule:∀(i j:Int) (t u:Tok) (s:zAF) (Q:Value->zAF->Prop) (E:Value->zAF->Prop),C i j->Q (.int (g i j) s.toks) {s with toks:=s.toks+1}->wpAny (model X.prog X.w) X.A (f (.int i t) (.int j u)) Q E s):
  OpR X f (rI C λ i j=>.int (g i j)):=by
 intro hV s σ H x y v u Q I rx ry h;obtain⟨i,j,rfl,rfl,hc,q⟩:=h;obtain⟨t,rfl⟩:=rx;obtain⟨t',rfl⟩:=ry;exact rule i j t t' s _ _ hc ⟨.int (g i j),H,I.tok _,⟨_,rfl⟩,q⟩
def aJc{f:Value->Value->Sem Value}{g:Int->Int->Int}
  (rule:∀(i j:Int) (t u:Tok) (s:zAF) (Q:Value->zAF->Prop) (E:Value->zAF->Prop),Q (.int (g i j) s.toks) {s with toks:=s.toks+1}->wpAny (model X.prog X.w) X.A (f (.int i t) (.int j u)) Q E s):
  OpR X f (rI0 λ i j=>.int (g i j)):=by
 intro hV s σ H x y v u Q I rx ry h;obtain⟨i,j,rfl,rfl,q⟩:=h;obtain⟨t,rfl⟩:=rx;obtain⟨t',rfl⟩:=ry;exact rule i j t t' s _ _ ⟨.int (g i j),H,I.tok _,⟨_,rfl⟩,q⟩
def aFp{f:Value->Value->Sem Value}{g:Int->Int->Bool}
  (rule:∀(i j:Int) (t u:Tok) (s:zAF) (Q:Value->zAF->Prop) (E:Value->zAF->Prop),Q (.bool (g i j)) s->wpAny (model X.prog X.w) X.A (f (.int i t) (.int j u)) Q E s):
  OpR X f (rI0 λ i j=>.bl (g i j)):=by
 intro hV s σ H x y v u Q I rx ry h;obtain⟨i,j,rfl,rfl,q⟩:=h;obtain⟨t,rfl⟩:=rx;obtain⟨t',rfl⟩:=ry;exact rule i j t t' s _ _ ⟨.bl (g i j),H,I,rfl,q⟩
def aKP(i j:Int):Prop:=0<j/\j<1073741824
def aKl(i j:Int):Prop:=0<=j/\j<=1000000/\i.natAbs<2^64
def aGl(i j:Int):Prop:=(-(2^64)<i/\i<2^64)\/(-(2^64)<j/\j<2^64)
def aGl.ok(h:aGl i j):IntMulOk i j:=by
 rcases h with ⟨h1,h2⟩|⟨h1,h2⟩
 .exact .of_left (intBits_le_64 h1 h2)
 .exact .of_right (intBits_le_64 h1 h2)
def aIW:OpR X (zBe .Add) (rI0 λ i j=>.int (i+j)):=aJc λ _ _ _ _ _ _ _ q=>add_int q
def aIJ:OpR X (zBe .Sub) (rI0 λ i j=>.int (i-j)):=aJc λ _ _ _ _ _ _ _ q=>sub_int q
def aIN:OpR X (zBe .Mult) (rI aGl λ i j=>.int (i*j)):=opI λ _ _ _ _ _ _ _ hc q=>mul_int q hc.ok
def aFk:OpR X (zBe .FloorDiv) (rI aKP λ i j=>.int (i / j)):=opI λ i j _ _ _ _ _ hc q=>by
 have h1:(0:Int)<j:=hc.1;have h2:j<1073741824:=hc.2;exact floordiv_int (by lia) (by rw[Int.fdiv_eq_ediv_of_nonneg i (by lia)];exact q) (.inl (PyProof.noPylong_small (by lia)))
def aIO:OpR X (zBe .Mod) (rI (λ _ j=>0<j) λ i j=>.int (i%j)):=opI λ i j _ _ _ _ _ hc q=>by
 have h1:(0:Int)<j:=hc;exact mod_int' (by lia) (by rw[Int.fmod_eq_emod_of_nonneg i (by lia)];exact q)
def aIL:OpR X (zBe .Pow) (rI aKl λ i j=>.int (i^j.toNat)):=opI λ _ _ _ _ _ _ _ hc q=>pow_int_small hc.1 hc.2.1 hc.2.2 q
def unI{f:Value->Sem Value}{g:Int->Int}
  (rule:∀(i:Int) (t:Tok) (s:zAF) (Q:Value->zAF->Prop) (E:Value->zAF->Prop),Q (.int (g i) s.toks) {s with toks:=s.toks+1}->wpAny (model X.prog X.w) X.A (f (.int i t)) Q E s):
  UnR X f (rU λ i=>.int (g i)):=by
 intro hV s σ H x v Q I rx h;obtain⟨i,rfl,q⟩:=h;obtain⟨t,rfl⟩:=rx;exact rule i t s _ _ ⟨.int (g i),H,I.tok _,⟨_,rfl⟩,q⟩
def aHU:UnR X (unaryOp .USub) (rU λ i=>.int (-i)):=unI λ _ _ _ _ _ q=>neg_int q
end
section
variable{X:Cx}{a b c:Expr}{ta tb tc:TE}{pos:Pos}
def aIt(I:Inv X hV σ H s)(q:Q (.bl k) H)(e:k=k'):EP X hV σ Q (.bool k') s:=by
 subst e;exact⟨.bl k,H,I,rfl,q⟩
def aJ8:OpR X (zAr .Lt) (rI0 λ i j=>.bl (decide (i<j))):=aFp λ _ _ _ _ _ _ _ q=>lt_int q
def aJ9:OpR X (zAr .LtE) (rI0 λ i j=>.bl (decide (i<=j))):=aFp λ _ _ _ _ _ _ _ q=>le_int q
def aJa:OpR X (zAr .Gt) (rI0 λ i j=>.bl (decide (j<i))):=aFp λ _ _ _ _ _ _ _ q=>gt_int q
def aJb:OpR X (zAr .GtE) (rI0 λ i j=>.bl (decide (j<=i))):=aFp λ _ _ _ _ _ _ _ q=>ge_int q
def aFh:OpR X (zAr .IsNot) (λ x y H Q=>y= .non/\Q (.bl (!decide (x= .non))) H):=by
 intro hV s σ H x y v u Q I rx ry h;obtain⟨rfl,q⟩:=h;cases ry;refine isnot_none_gen (aIt I q ?_);cases x<;>first
  |(cases rx;rfl)
  |(obtain⟨t,rfl⟩:=rx;rfl)
def isObj:HO->Bool
 | .lst _=>true
 | .ins _ _ _=>true
 |_=>false
def OpR.or(h:OpR X f r)(h':OpR X f r'):OpR X f (λ x y H Q=>r x y H Q\/r' x y H Q):=by
 intro hV s σ H x y v u Q I rx ry q;rcases q with q|q
 .exact h hV s σ H x y v u Q I rx ry q
 .exact h' hV s σ H x y v u Q I rx ry q
def aDp(b:Expr)(h:op≠.In:=by decide)(h2:op≠.NotIn:=by decide):zCD op b=false:=by
 have e1:(op==CmpOp.In)=false:=by cases op<;>first|rfl|exact absurd rfl h
 have e2:(op==CmpOp.NotIn)=false:=by cases op<;>first|rfl|exact absurd rfl h2
 cases b<;>simp[zCD,e1,e2]
def aF6{op:CmpOp}{r:R2}(ho:OpR X (zAr op) r)(ha:PE X a ta)(hb:PE X b tb)(hm:zCD op b=false):PE X (.Compare a [op] [b] pos) (tOp r ta tb):=by
 intro hV s σ H Q I h;exact wpAny_Compare1 (aIy ha hb I h λ v u s2 x y H2 I2 rx ry q=>ho hV s2 σ H2 x y v u Q I2 rx ry q) hm
def aGm(t:TE):TT:=λ σ H Q=>t σ H λ x H'=>∃k,x= .bl k/\Q k H'
def aFV(ho:OpR X (zAr op) r)(ha:PE X a ta)(hb:PE X b tb)(hm:zCD op b=false):PT X (.Compare a [op] [b] pos) (aGm (tOp r ta tb)):=by
 intro hV s σ H Q I h;refine wpAny_isTrue_Compare1 (thn (ha hV s σ H _ I h) λ v s1 ⟨x,H1,I1,r1,q1⟩=>thn (hb hV s1 σ H1 _ I1 q1) λ u s2 ⟨y,H2,I2,r2,q2⟩=>
  thn (ho hV s2 σ H2 x y v u _ I2 r1 r2 q2) λ c s3 ⟨z,H3,I3,r3,k,e,q3⟩=>?_) hm
 subst e;cases r3;exact zCA ⟨H3,I3,q3⟩
def aCm(r r':R2)(ta tb tc:TE):TE:=λ σ H Q=>ta σ H λ x H1=>tb σ H1 λ y H2=>r x y H2 λ z H3=>∃k,z= .bl k/\
 (if k=true then tc σ H3 λ w' H4=>r' y w' H4 Q else Q (.bl false) H3)
def aDc(ho:OpR X (zAr op) r)(ho':OpR X (zAr op') r')(ha:PE X a ta)(hb:PE X b tb)(hc:PE X c tc)
  (hm:zHG [op,op'] [b,c]=false:=by with_unfolding_all rfl):PE X (.Compare a [op,op'] [b,c] pos) (aCm r r' ta tb tc):=by
 intro hV s σ H Q I h;refine Compare_chain (thn (ha hV s σ H _ I h) λ v s1 ⟨x,H1,I1,r1,q1⟩=>chain_link (thn (hb hV s1 σ H1 _ I1 q1) λ u s2 ⟨y,H2,I2,r2,q2⟩=>
  thn (ho hV s2 σ H2 x y v u _ I2 r1 r2 q2) λ d s3 ⟨z,H3,I3,r3,k,e,q3⟩=>?_)) hm
 subst e;cases r3;refine zCA ?_;cases k with
 |false=>exact ite_ff ⟨.bl false,H3,I3,rfl,q3⟩
 |true=>exact ite_tt (chain_last (thn (hc hV s3 σ H3 _ I3 q3) λ w' s4 ⟨z',H4,I4,r4,q4⟩=>ho' hV s4 σ H4 y z' u w' Q I4 r2 r4 q4))
def aJA(K:zAA)(x:V)(H:Hp)(k:Bool):Prop:=
 match x with
 | .non=>k=false
 | .bl b=>k=b
 | .int i=>k=(i !=0)
 | .str y=>y.length<=zAO/\k=((y.length:Int)!=0)
 | .byt y=>y.size<=zAO/\k=((y.size:Int)!=0)
 | .ref p=>(∃xs,SqL K H p xs/\k= !xs.isEmpty)\/(∃xs,SqT K H p xs/\k= !xs.isEmpty)\/∃kvs,H p=some (.dK kvs)/\k= !kvs.isEmpty
 |_=>False
def aAw(r:KV kvs vs):(!vs.isEmpty)= !kvs.isEmpty:=by
 cases r<;>rfl
def uB(r:Vals xs its):(!its.toArray.isEmpty)= !xs.isEmpty:=by
 cases r<;>simp
def tU:(zAO:Nat)<2^63:=by rw[zB1];decide
def aHY:aKg X (λ x H Q=>∃k,aJA X.K x H k/\Q k H):=by
 intro hV s σ H x v Q I rx h;obtain⟨k,e,q⟩:=h;have hl:=tU;have hs:zAO=16777216:=zB1;cases x with
 |non=>
  cases rx;have e':k=false:=e;subst e';exact truthy_none ⟨H,I,q⟩
 |bl b=>
  cases rx;have e':k=b:=e;subst e';exact zCA ⟨H,I,q⟩
 |int i=>
  obtain⟨t,rfl⟩:=rx;have e':k=(i !=0):=e;subst e';exact PySem.P.truthy_int ⟨H,I,q⟩
 |str y=>
  obtain⟨t,rfl⟩:=rx;obtain⟨hy,e'⟩:y.length<=zAO/\k=((y.length:Int)!=0):=e;subst e';exact PySem.P.truthy_str (by lia) ⟨H,I.tok _,q⟩
 |byt y=>
  obtain⟨t,rfl⟩:=rx;obtain⟨hy,e'⟩:y.size<=zAO/\k=((y.size:Int)!=0):=e;subst e';exact PySem.W.truthy_bytes (by lia) ⟨H,I.tok _,q⟩
 |ref p=>
  cases rx;have e':(∃xs,SqL X.K H p xs/\k= !xs.isEmpty)\/(∃xs,SqT X.K H p xs/\k= !xs.isEmpty)\/∃kvs,H p=some (.dK kvs)/\k= !kvs.isEmpty:=e
  rcases e' with ⟨xs,hx,e'⟩|⟨xs,hx,e'⟩|⟨kvs,hx,e'⟩
  .subst e'
   obtain⟨its,r,pl,hz⟩:=I.list hx;have hW:=r.length;exact wpAny_truthy_list pl.isList (by simp only[zAI];lia) ⟨H,I.tok _,by rw[uB r];exact q⟩
  .subst e'
   obtain⟨its,r,pl,hz⟩:=I.tuple hx;have hW:=r.length;exact truthy_tuple pl (by simp only[zAI];lia) ⟨H,I.tok _,by rw[uB r];exact q⟩
  .subst e'
   obtain⟨hz,hS,vs,r,m⟩:kvs.length<=zAO/\(p==zC6)=false/\∃vs,KV kvs vs/\s.heap.DictOf (cF X.prog X.w) p vs:=I.hok p _ hx
   have hW:kvs.length=vs.length:=zEK r;exact wpAny_truthy_dict hS m (by lia) ⟨H,I.tok _,by rw[aAw r];exact q⟩
 |_=>exact(show False from e).elim
def aDY(ha:PE X a ta)(he:∀whole,isTrue a X.env whole=(do let v <-whole;standAt a.pos;zFw [v] (truthy v))):
  PT X a (λ σ H Q=>ta σ H λ x H'=>∃k,aJA X.K x H' k/\Q k H'):=by
 intro hV s σ H Q I h;exact isTrue_plain (thn (ha hV s σ H _ I h) λ v s1 ⟨x,H1,I1,r1,q1⟩=>aHY hV s1 σ H1 x v Q I1 r1 q1) (he _)
def vals1(r:Vals [x] us):∃u,us=[u]/\RelV x u:=by
 cases r with
 |cons r1 r2=>cases r2;exact⟨_,rfl,r1⟩
def vals2(r:Vals [x,y] us):∃u w',us=[u,w']/\RelV x u/\RelV y w':=by
 cases r with
 |cons r1 r2=>
  cases r2 with
  |cons r3 r4=>cases r4;exact⟨_,_,rfl,r1,r3⟩
def aC6(hc:X.calm=true):cA X (.builtin "max") (λ xs H Q=>∃i j,xs=[.int i,.int j]/\Q (.int (if j>i then j else i)) H):=by
 intro hV s σ H xs us Q I r h;obtain⟨i,j,rfl,q⟩:=h;obtain⟨u,w',rfl,⟨t,rfl⟩,⟨t',rfl⟩⟩:=vals2 r;refine max_two_ints (I.ok.hd hc) λ h' tk k=>⟨_,H,I.kept k,?_,q⟩
 by_cases hj:j>i
 .rw[if_pos hj,if_pos hj];exact⟨_,rfl⟩
 .rw[if_neg hj,if_neg hj];exact⟨_,rfl⟩
def aC4(hc:X.calm=true):cA X (.builtin "min") (λ xs H Q=>∃i j,xs=[.int i,.int j]/\Q (.int (if j<i then j else i)) H):=by
 intro hV s σ H xs us Q I r h;obtain⟨i,j,rfl,q⟩:=h;obtain⟨u,w',rfl,⟨t,rfl⟩,⟨t',rfl⟩⟩:=vals2 r;refine min_two_ints (I.ok.hd hc) λ h' tk k=>⟨_,H,I.kept k,?_,q⟩
 by_cases hj:j<i
 .rw[if_pos hj,if_pos hj];exact⟨_,rfl⟩
 .rw[if_neg hj,if_neg hj];exact⟨_,rfl⟩
end
structure aGi(h:Heap)(x dx C:Addr)(mA:Str->Option Value):Prop where
 obj:h.get? x=some (zBk C dx)
 ns:h.Ns1 dx mA
 ne:dx≠x
def aCO{h:Heap}{dx:Addr}{mA:Str->Option Value}(n:h.Ns1 dx mA):∃od,h.get? dx=some od/\∀name,zDe name od=some (mA name):=by
 obtain⟨o,es,ep,ho,hd,hk,_,hm⟩:=n;refine⟨o,ho,λ name=>?_⟩;have e:=hm name;unfold nsFind findBy at e;rw[<-Array.find?_toList]at e;unfold zDe;rw[hd];dsimp only;split
 .rename_i y q
  rw[q]at e;exact congrArg some e
 .rename_i q
  rw[q]at e;have a:es.toList.any (·.refKey)=false:=by
   rw[List.any_eq_false];intro y hy;obtain⟨z,t,hkey⟩:=hk y (Array.mem_toList_iff.mp hy);simp[DictEntry.refKey,hkey]
  have a':¬es.toList.any (·.refKey)=true:=by rw[a];exact zA5
  rw[if_neg a'];exact congrArg some e
def aGi.look(I:aGi h x dx C mA):∃od,zGl h x (zBk C dx) C (some od)/\∀name,zDe name od=some (mA name):=
 let⟨od,ho,hl⟩:=aCO I.ns
 ⟨od,⟨I.obj,rfl,rfl,ho⟩,hl⟩
section
variable{prog:zAZ}{w:World}{A:zAd}{E:Value->zAF->Prop}{s:zAF}{K:zAA}{x dx C f:Addr}{mA:Str->Option Value}{name:Str}
def aEV(X:K.In s.heap)(I:aGi s.heap x dx C mA)(hg:zE0 K C name=true)
  (hf:zBO K (.ref C) name=some (some (.ref f)))(ht:zHJ K (.ref f)=true)(hv:mA name=none)(h:Q (.ref f,[.ref x]) s):
  wpAny (model prog w) A (getMethod (.ref x) name pl) Q E s:=by
 obtain⟨od,J,hl⟩:=I.look;exact PySem.W.method_fn X J (zFs hg).1 (zFs hg).2 hf (beq_iff_eq.mp ht) (by show(zDe name od).map (·.isSome)=some false;rw[hl,hv];rfl) h
def make_map(X:K.In s.heap)(hm:PySem.W.makesIn K C=true)
  (hi:zBO K (.ref C) "__init__"=some (some (.ref f)))(hf:PySem.W.typeIn K (.ref f)=some (.type "function"))
  (h:zDK (model prog w) (A.under (.builtin "type.__call__" ⟨.ref C::vs,kw⟩)) (.call (.ref f) ⟨.ref (s.heap.objs.size+1)::vs,kw⟩) (PySem.W.InitBack (s.heap.objs.size+1) R)
   {s with heap:=(s.heap.push zBR).push (zBk C s.heap.objs.size)}):
  zDK (model prog w) A (.call (.ref C) ⟨vs,kw⟩) R s:=by
 obtain⟨hh,g,d,t,os⟩:=s;exact PySem.W.make_core (PySem.W.makes_of X hm) (zCc X hi) (λ self=>PySem.W.bind_fn X self hf) (.inl rfl) h
end
def yF.none_of(r:yF none o):o=none:=by
 cases o with
 |none=>rfl
 |some u=>exact(show False from r).elim
section
variable{P:zAZ}{w:World}{H:Hp}{h:Heap}{a C dx:Addr}{fs:List (Str×V)}
def aBe(hok:HOk P w H h)(e:H a=some (.ins C dx fs)):∃mA,aGi h a dx C mA/\(∀f,yF (fs.lookup f) (mA f))/\zH2 mA (fs.map (·.1))/\fs.length<=1000/\H dx=some (.own a):=by
 obtain⟨d,z,ne,ob,mA,n,r,q⟩:=(show cO P w H h a (.ins C dx fs)from hok a _ e);exact⟨mA,⟨ob,n,ne⟩,r,q,z,d⟩
end
structure Cls(K:zAA)(C:Addr):Prop where
 pg:zE0 K C Str.empty=true
 hd:PySem.W.hasDictIn K C=true
 po:PySem.W.plainOver K C=true
 sa:zBO K (.ref C) "__setattr__"=some (some (.builtin "object.__setattr__"))
def Cls.get{K:zAA}{C:Addr}(c:Cls K C)(f:Str):zE0 K C f=true:=c.pg
def aJE(K:zAA)(C:Addr)(f:Str):Prop:=zBO K (.ref C) f=some none
structure Meth(K:zAA)(C:Addr)(m:Str)(f:Addr):Prop where
 at_:zBO K (.ref C) m=some (some (.ref f))
 fn:zHJ K (.ref f)=true
 kp:zC5 K (.ref f)=true
section
variable{X:Cx}{hV:hZ}{σ:St}{H:Hp}{s:zAF}{a C dx:Addr}{fs:List (Str×V)}{A:zAd}{E:Value->zAF->Prop}
def aAx(I:Inv X hV σ H s)(e:H a=some (.ins C dx fs))(c:Cls X.K C)(k:Meth X.K C m g)(l:fs.lookup m=none)
  (h:Q (.ref g,[.ref a]) s):wpAny (model X.prog X.w) A (getMethod (.ref a) m pl) Q E s:=by
 obtain⟨mA,O,r,_,_,_⟩:=aBe I.hok e;have hn:mA m=none:=yF.none_of (by rw[<-l];exact r m);exact aEV I.kIn O (c.get m) k.at_ k.fn hn h
def Inv.made(I:Inv X hV σ H s):Inv X hV σ (upd (upd H s.heap.objs.size (.own (s.heap.objs.size+1))) (s.heap.objs.size+1) (.ins C s.heap.objs.size []))
  {s with heap:=(s.heap.push zBR).push (zBk C s.heap.objs.size)}:=by
 have e1:(s.heap.push zBR).get? s.heap.objs.size=some zBR:=zA1 s.heap rfl;have e2:((s.heap.push zBR).push (zBk C s.heap.objs.size)).get? (s.heap.objs.size+1)=some (zBk C s.heap.objs.size):=by
  have:=zA1 (s.heap.push zBR) (o:=zBk C s.heap.objs.size) rfl
  rwa [zC8]at this
 have e3:(s.heap.push zBR).Ns s.heap.objs.size (λ _=>none):=⟨zBR,#[],_,e1,rfl,(λ e he=>absurd he (by simp)),λ _=>rfl⟩;have I1:=I.laid (a:=s.heap.objs.size) (o:=.own (s.heap.objs.size+1)) (h':=s.heap.push zBR) (t':=s.toks) (λ b u q=>zAC _ q) (zAU _) ⟨_,e1⟩;refine I1.laid (a:=s.heap.objs.size+1) (o:=.ins C s.heap.objs.size []) (t':=s.toks) (λ b u q=>zAC _ q) (Nat.le_of_eq (zC8 _ _)) ?_;have ne:s.heap.objs.size≠s.heap.objs.size+1:=zAn (zD3 _);refine⟨by rw[bJ ne,aa],zAj _,ne,e2,λ _=>none,(Heap.Ns1.of_empty e3).at λ o q=>zAC _ q,λ _=>zCX,λ y hy=>absurd rfl hy⟩
end
def tFld(K:zAA)(ta:TE)(f:Str):TE:=λ σ H Q=>ta σ H λ x H1=>∃a C dx fs v,x= .ref a/\H1 a=some (.ins C dx fs)/\Cls K C/\aJE K C f/\fs.lookup f=some v/\Q v H1
section
variable{X:Cx}{e:Expr}{f:Str}{pos:Pos}
def methcall_of(he:PE X e te)(I:Inv X hV σ H s)
  (h:te σ H λ x H1=>∃a C dx fs g,x= .ref a/\H1 a=some (.ins C dx fs)/\Cls X.K C/\Meth X.K C m g/\fs.lookup m=none/\
   ∀s1,Inv X hV σ H1 s1->wpAny (model X.prog X.w) X.A (callWith pos (.ref g) [.ref a] (zBx pos (zAY args X.env)) (zDW pos (zCO [] X.env))) Q X.xe s1)
  (ht:eval (.Call (.Attribute e m apos) args [] pos) X.env=(do
   let ov <-eval e X.env
   standAt apos.atName
   let(f,first) <-zFw [ov] (getMethod ov m pl)
   callWith pos f first (zBx pos (zAY args X.env)) (zDW pos (zCO [] X.env)))):
  wpAny (model X.prog X.w) X.A (eval (.Call (.Attribute e m apos) args [] pos) X.env) Q X.xe s:=by
 refine PySem.W.methodCall_KW (pl:=pl) (thn (he hV s σ H _ I h) λ u s1 ⟨x,H1,I1,rx,a,C,dx,fs,g,ex,ea,c,k,l,q⟩=>?_) ht;subst ex;obtain rfl:u=zBS a:=rx;exact aAx I1 ea c k l (q s1 I1)
end
section
variable{X:Cx}{hV:hZ}{σ:St}{H:Hp}{s:zAF}{A:zAd}{E:Value->zAF->Prop}{Q:Value->zAF->Prop}{c:Value}{b:Bool}
inductive qF(K:zAA)(H:Hp):V->Value->Prop where
 |non:qF K H .non (.type "NoneType")
 |bl (x:Bool):qF K H (.bl x) (.type "bool")
 |int (i:Int):qF K H (.int i) (.type "int")
 |str (x:Str):qF K H (.str x) (.type "str")
 |flt (x:UInt64):qF K H (.flt x) (.type "float")
 |lst {a:Addr} {xs:List V} (e:H a=some (.lst xs)):qF K H (.ref a) (.type "list")
 |frz {a:Addr} {o:Obj} {xs:List V} (e:H a=some (.frz o (.lst xs))):qF K H (.ref a) (.type "list")
 |tup {a:Addr} {xs:List V} (e:H a=some (.tup xs)):qF K H (.ref a) (.type "tuple")
 |dK {a:Addr} {kvs:List (Key×V)} (e:H a=some (.dK kvs)):qF K H (.ref a) (.type "dict")
 |dT {a:Addr} {kvs:List (List Key×V)} (e:H a=some (.dT kvs)):qF K H (.ref a) (.type "dict")
 |ins {a C dx:Addr} {fs:List (Str×V)} (e:H a=some (.ins C dx fs)) (cl:Cls K C) (ha:zBO K (.ref C) "__class__"=some (some (.builtin "object.__class__")))
   (hn:PySem.W.specialIn K (.builtin "object.__class__") "__get__"=some (some (.builtin "getset_descriptor.__get__"))) (htk:PySem.W.takesIn K (.builtin "object.__class__")=some true)
   (hm:PySem.W.mroIn K C (.type "object")=some true):qF K H (.ref a) (.ref C)
def aCT(I:Inv X hV σ H s)(rx:RelV x u)(ty:qF X.K H x t)(e:zCx X.K t c=some b)(h:∀tk,Q (.bool b) {s with toks:=tk}):
  wpAny (model X.prog X.w) A (call (.builtin "isinstance") [u,c]) Q E s:=by
 cases ty with
 |non=>cases (show u=zBV from rx);exact zAy PySem.W.kitx_none I.kIn zCX e (λ z=>nomatch z) h
 |bl y=>cases (show u=zDi y from rx);exact zAy PySem.W.kitx_bool I.kIn zCX e (λ z=>nomatch z) h
 |int i=>obtain⟨t,q⟩:=(show∃t,u=zDI i t from rx);cases q;exact zAy PySem.W.kitx_int I.kIn zCX e (λ z=>nomatch z) h
 |str y=>obtain⟨t,q⟩:=(show∃t,u=zFt y t from rx);cases q;exact zAy PySem.W.kitx_str I.kIn zCX e (λ z=>nomatch z) h
 |flt y=>obtain⟨t,q⟩:=(show∃t,u=zHc y t from rx);cases q;exact zAy PySem.W.kitx_float I.kIn zCX e (λ z=>nomatch z) h
 |@lst a xs ea=>
  cases (show u=zBS a from rx);obtain⟨_,_,n,_,h1⟩:=(show cO X.prog X.w H s.heap a (.lst xs)from I.hok a _ ea);exact zAy zGU I.kIn ⟨_,h1,rfl⟩ e (λ z=>nomatch z) h
 |@frz a ob xs ea=>
  cases (show u=zBS a from rx);obtain⟨_,_,_,n,_,h1⟩:=(show cO X.prog X.w H s.heap a (.frz ob (.lst xs))from I.hok a _ ea);exact zAy zGU I.kIn ⟨_,h1,rfl⟩ e (λ z=>nomatch z) h
 |@tup a xs ea=>
  cases (show u=zBS a from rx);obtain⟨_,_,_,p⟩:=(show cO X.prog X.w H s.heap a (.tup xs)from I.hok a _ ea);obtain⟨o,h1,h2,_⟩:=p;exact zAy zGN I.kIn ⟨o,h1,h2⟩ e (λ z=>nomatch z) h
 |@dK a kvs ea=>
  cases (show u=zBS a from rx);obtain⟨_,_,vs,_,p⟩:=(show cO X.prog X.w H s.heap a (.dK kvs)from I.hok a _ ea);obtain⟨o,es,ep,h1,h2,_⟩:=p;exact zAy zEO I.kIn ⟨o,h1,h2.1⟩ e (λ z=>nomatch z) h
 |@dT a kvs ea=>
  cases (show u=zBS a from rx);obtain⟨_,_,xs,_,o,es,ep,h1,h2,_⟩:=(show cO X.prog X.w H s.heap a (.dT kvs)from I.hok a _ ea);exact zAy zEO I.kIn ⟨o,h1,h2.1⟩ e (λ z=>nomatch z) h
 |@ins a C dx fs ea cl ha hn htk hm=>
  cases (show u=zBS a from rx);obtain⟨mA,O,_⟩:=aBe I.hok ea;obtain⟨od,J,_⟩:=O.look;exact zAy (PySem.W.kitx_own (cl.get _) cl.hd ha hn htk hm) I.kIn J e (λ z=>nomatch z) h
end
structure iw(k:Nat)(A:zAd):Prop where
 hd:A.handled=none
 dp:A.depth+3*k+5<zGW
 un:A.units+16*k+200<cLine
def iw.mono(r:iw k A)(h:j<=k):iw j A:=⟨r.hd,by have:=r.dp;lia,by have:=r.un;lia⟩
theorem iw.deeper(r:iw (k+1) A)(env:Env):iw k (A.deeper env):=
 ⟨r.hd,by have:=r.dp;show A.depth+1+3*k+5<_;lia,by have:=r.un;show A.units+3+16*k+200<_;lia⟩
theorem iw.depth(r:iw k A):A.depth<zGW:=by have:=r.dp;lia
theorem iw.units(r:iw k A):A.units+64<cLine:=by have:=r.un;lia
def iw.units0(r:iw k A):A.units<cLine:=by have:=r.un;lia
def jz:TA:=λ _ H Q=>Q [] H
def gP(ta:TE)(tr:TA):TA:=λ σ H Q=>ta σ H λ x H1=>tr σ H1 λ xs H2=>Q (x::xs) H2
section
variable{X:Cx}{e:Expr}{es:List Expr}{te:TE}{t:TA}{pos:Pos}
def dY:PA X [] jz:=λ _ _ _ _ H Q I h=>Calls.spliced_nil ⟨[],H,I,.nil,h⟩
def bj(ha:PE X e te)(hr:PA X es t)(hs:zAY (e::es) X.env=(false,eval e X.env)::zAY es X.env:=by rfl):PA X (e::es) (gP te t):=by
 intro pos hV s σ H Q I h;rw[hs];show wpAny _ _ (spliced ((false,eval e X.env)::zBx pos (zAY es X.env))) _ _ s;refine Calls.spliced_cons (thn (ha hV s σ H _ I h) λ u s1 ⟨x,H1,I1,r1,q1⟩=>?_);exact thn (hr pos hV s1 σ H1 _ I1 q1) λ us s2 ⟨xs,H2,I2,r2,q2⟩=>⟨x::xs,H2,I2,.cons r1 r2,q2⟩
def aKS(t:TA):TE:=λ σ H Q=>t σ H λ xs H1=>xs.length<=zAO/\∀p,H1 p=none->Q (.ref p) (upd H1 p (.tup xs))
def aKX(t:TA):TE:=λ σ H Q=>t σ H λ xs H1=>xs.length<=zAO/\∀p,H1 p=none->Q (.ref p) (upd H1 p (.lst xs))
def aHz{x1}(h:PA X es t):PE X (.Tuple es x1 pos) (aKS t):=by
 intro hV s σ H Q I hq;refine wpAny_Tuple_spliced (thn (h pos hV s σ H _ I hq) λ us s1 ⟨xs,H1,I1,r,z,q⟩=>⟨by rw[<-r.length];exact z,?_⟩);have hf:H1 s1.heap.objs.size=none:=I1.hok.fresh (zAU _);refine⟨.ref s1.heap.objs.size,upd H1 s1.heap.objs.size (.tup xs),I1.laid (t':=s1.toks) (λ b u e=>zAC _ e) (zAU _) ?_,rfl,q _ hf⟩;exact⟨⟨z,NoD.push _⟩,us,r,⟨_,zA1 _ rfl,rfl,_,rfl⟩⟩
def aIE(h:PA X es t):PE X (.List es pos) (aKX t):=by
 intro hV s σ H Q I hq;refine wpAny_List_spliced (thn (h pos hV s σ H _ I hq) λ us s1 ⟨xs,H1,I1,r,z,q⟩=>⟨by rw[<-r.length];exact z,?_⟩);have hf:H1 s1.heap.objs.size=none:=I1.hok.fresh (zAU _);refine⟨.ref s1.heap.objs.size,upd H1 s1.heap.objs.size (.lst xs),I1.laid (t':=s1.toks) (λ b u e=>zAC _ e) (zAU _) ?_,rfl,q _ hf⟩;exact⟨z,us,0,r,zA1 _ rfl⟩
end
abbrev Sp:=List V->Hp->VK->XK->Prop
abbrev CXT:=List Env->Hp->zAF->XK->Value->zAF->Prop
structure aEm(P:zAZ)(w:World)(K:zAA)(mg:Str->Option Value)(base:Heap)(A:zAd)(outer:List Env)(s:zAF)(H:Hp):Prop where
 frames:A.frames=some outer
 mod:Mod K mg base
 bs:∀b o,base.get? b=some o->s.heap.get? b=some o/\H b=none
 bsz:base.objs.size<=s.heap.objs.size
 funs:s.heap.FunFrames base outer
 frf:∀b∈frs outer,H b=none
 hok:HOk P w H s.heap
 bare:zEM s.gens
def CE(outer:List Env)(P:zAZ)(w:World)(H:Hp)(s:zAF)(Q:VK)(u:Value)(s':zAF):Prop:=
 ∃v H',s'.os=s.os/\zEM s'.gens/\Un (frs outer) [] H H' s.heap s'.heap/\HOk P w H' s'.heap/\RelV v u/\Q v H'
def CR(CX:CXT)(outer:List Env)(P:zAZ)(w:World)(H:Hp)(s:zAF)(Q:VK)(E:XK)(r:zFY)(s':zAF):Prop:=
 match r with
 | .ok (.ret u)=>CE outer P w H s Q u s'
 | .ok _=>False
 | .error e=>CX outer H s E e s'
structure cB(P:zAZ)(w:World)(K:zAA)(mg:Str->Option Value)(base:Heap)(CX:CXT)(k:Nat)(f:Addr)(fd:zAf)(ps:List Str)(sp:Sp):Prop where
 len:∀vs H Q E,sp vs H Q E->vs.length=ps.length
 run:∀(A:zAd) (outer:List Env) (s:zAF) (H:Hp) (args:Args) (us:List Value) (vs:List V) (Q:VK) (E:XK),iw k A->aEm P w K mg base A outer s H->zEx s fd args (ps.zip us)->Vals vs us->sp vs H Q E->
  zDK (model P w) A (.call (.ref f) args) (CR CX outer P w H s Q E) s
def cB.imp{P:zAZ}{w:World}{K:zAA}{mg:Str->Option Value}{base:Heap}{CX:CXT}{k:Nat}{f:Addr}{fd:zAf}{ps:List Str}{sp sp':Sp}(F:cB P w K mg base CX k f fd ps sp)
  (h:∀vs H Q E,sp' vs H Q E->sp vs H Q E):cB P w K mg base CX k f fd ps sp':=
 ⟨λ vs H Q E q=>F.len vs H Q E (h _ _ _ _ q),λ A outer s H args us vs Q E hr he hb hv hs=>F.run A outer s H args us vs Q E hr he hb hv (h _ _ _ _ hs)⟩
section
variable{X:Cx}{hV:hZ}{σ:St}{H:Hp}{s s':zAF}
def Inv.env0(I:Inv X hV σ H s):aEm X.prog X.w X.K X.mg X.base X.A X.stack s H:=
 ⟨I.ok.frames,I.ok.mod,I.bs,zAc I.ok.bsz I.sz,I.stack,I.stkFree,I.hok,I.bare⟩
def Inv.after(I:Inv X hV σ H s)(h:CE X.stack X.prog X.w H s Q u s'):EP X hV σ Q u s':=by
 obtain⟨v,H',os,bare,un,hok,r,q⟩:=h;obtain⟨hh,g,d,t,os'⟩:=s';obtain rfl:os'=s.os:=os;exact⟨v,H',I.call (h':=hh) (g':=g) (d':=d) (t':=t) (ch:=[]) un hok bare (λ b z=>absurd z (by simp)),r,q⟩
end
def aGp(sp:Sp)(dvs:List V)(E:XK)(t:TA):TE:=λ σ H Q=>t σ H λ vs H1=>sp (vs++dvs) H1 Q E
def tMeth(C:Addr)(m:Str)(sp:Sp)(dvs:List V)(E:XK)(ta:TE)(t:TA):TE:=λ σ H Q=>ta σ H λ x H1=>∃a dx fs,x= .ref a/\H1 a=some (.ins C dx fs)/\fs.lookup m=none/\
 t σ H1 λ vs H2=>sp (x::(vs++dvs)) H2 Q E
def tMake(C:Addr)(sp:Sp)(dvs:List V)(E:XK)(t:TA):TE:=λ σ H Q=>t σ H λ vs H1=>∀x dx,H1 x=none->H1 dx=none->dx≠x->
 sp (.ref x::(vs++dvs)) (upd (upd H1 dx (.own x)) x (.ins C dx [])) (λ v H2=>v= .non/\Q (.ref x) H2) E
def Binds(K:zAA)(fd:zAf)(ps:List Str)(ds:List Value):Prop:=
 ∀(s:zAF) (us:List Value),K.In s.heap->(us++ds).length=ps.length->zEx s fd ⟨us,[]⟩ (ps.zip (us++ds))
def Binds.all{K:zAA}{fd:zAf}{ps:List Str}(h:∀us:List Value,us.length=ps.length->bindArgs fd ⟨us,[]⟩=pure (ps.zip us)):Binds K fd ps []:=λ s us _ hl=>by
 rw[zAm]at hl ⊢;exact .of_eq (h us hl)
def yH(CX:CXT)(X:Cx)(E:XK):Prop:=∀(hV:hZ) (σ:St) (H:Hp) (s:zAF) (e:Value) (s':zAF),Inv X hV σ H s->CX X.stack H s E e s'->X.xe e s'
section
variable{X:Cx}{CX:CXT}{k:Nat}{f:Addr}{fd:zAf}{ps:List Str}{sp:Sp}{dvs:List V}{ds:List Value}{E:XK}{x:Str}{p pos:Pos}{e:Expr}{es:List Expr}{t:TA}
def aHe(F:cB X.prog X.w X.K X.mg X.base CX k f fd ps sp)(hr:iw k X.A)(hb:Binds X.K fd ps ds)(hd:Vals dvs ds)(hx:yH CX X E)
  (I:Inv X hV σ H s)(r:Vals vs us)(h:sp (vs++dvs) H Q E):wpAny (model X.prog X.w) X.A (call (.ref f) us) (EP X hV σ Q) X.xe s:=by
 have r2:Vals (vs++dvs) (us++ds):=r.append hd;have hl:(us++ds).length=ps.length:=by rw[<-r2.length];exact F.len _ _ _ _ h
 refine wpAny_call (zEQ (F.run X.A X.stack s H ⟨us,[]⟩ (us++ds) (vs++dvs) Q E hr I.env0 (hb s us I.kIn hl) r2 h) λ r s' hq=>?_);cases r with
 |error e=>exact hx hV σ H s e s' I hq
 |ok fl=>
  cases fl with
  |ret u=>exact I.after hq
  |next=>exact zAJ hq
  |brk=>exact zAJ hq
  |cont=>exact zAJ hq
def aF7(F:cB X.prog X.w X.K X.mg X.base CX k f fd ps sp)(hr:iw k X.A)(hg:Gl X x)(hm:X.mg x=some (.ref f))(hk:zC5 X.K (.ref f)=true)(hb:Binds X.K fd ps ds)(hd:Vals dvs ds)(hx:yH CX X E)
  (ha:PA X (e::es) t)(hdb:Nd x:=by decide)(he:zAY (e::es) X.env=(false,eval e X.env)::zAY es X.env:=by rfl)(hpl:(zBx pos (zAY es X.env)).any (·.1)=false:=by rfl):
  PE X (.Call (.Name x p) (e::es) [] pos) (aGp sp dvs E t):=by
 intro hV s σ H Q I h;refine zDX (xJ I hg hm ?_ hdb);refine PySem.W.callWith_K (h₀:=X.base) I.ok.mod.kin hk (thn (ha pos hV s σ H _ I h) λ us s1 ⟨vs,H1,I1,r,q⟩=>⟨I1.kIn,?_⟩) he hpl;exact aHe F hr hb hd hx I1 r q
end
structure aY(N P:List Str)(sc:Scope):Prop where
 kind:sc.kind= .function
 co:sc.isCoroutine=false
 gen:sc.isGenerator=false
 nd:N.Nodup
 pre:N.take P.length=P
 par:∀x∈P,sc.names.lookup x=some .local\/sc.names.lookup x=some .cell
 nofree:∀y∈sc.names,y.2≠.free
theorem vf{zCk:Str->Option zDC}{x:Str}:∀{binds:List (Str×Value)} {m:Str->Option Value},(∀v,(x,v)∉binds)->bindL zCk binds m x=m x
 |[],_,_=>rfl
 |(n,v)::r,m,h=>by
  unfold bindL;rw[vf λ w hw=>h w (zAG _ hw)];split
  .have:x≠n:=by rintro rfl;exact h v zAL
   simp[this]
  .rfl
theorem vh{zCk:Str->Option zDC}{x:Str}:∀{binds:List (Str×Value)} {m:Str->Option Value},(∀v,(x,v)∉binds)->bindC zCk binds m x=m x
 |[],_,_=>rfl
 |(n,v)::r,m,h=>by
  unfold bindC;rw[vh λ w hw=>h w (zAG _ hw)];split
  .rfl
  .have:x≠n:=by rintro rfl;exact h v zAL
   simp[this]
theorem vg{zCk:Str->Option zDC}{x:Str}{v:Value}:∀{P:List Str} {vs:List Value} {i:Nat} {m:Str->Option Value},P.Nodup->P[i]? =some x->vs[i]? =some v->zCk x=some .local->
  bindL zCk (P.zip vs) m x=some v
 |[],_,_,_,_,h,_,_=>by simp at h
 |_::_,[],_,_,_,_,h,_=>by simp at h
 |p::P,w::vs,0,m,nd,h1,h2,hk=>by
  simp at h1 h2;subst h1;subst h2;show bindL zCk ((p,w)::P.zip vs) m p=_;unfold bindL;rw[vf λ v hv=>(zAh.mp nd).1 (zDd hv).1,if_pos hk];simp
 |p::P,w::vs,i+1,m,nd,h1,h2,hk=>by
  show bindL zCk ((p,w)::P.zip vs) m x=_;unfold bindL;exact vg (i:=i) (zAh.mp nd).2 (by simpa using h1) (by simpa using h2) hk
theorem vm{zCk:Str->Option zDC}{x:Str}{v:Value}:∀{P:List Str} {vs:List Value} {i:Nat} {m:Str->Option Value},P.Nodup->P[i]? =some x->vs[i]? =some v->zCk x≠some .local->
  bindC zCk (P.zip vs) m x=some v
 |[],_,_,_,_,h,_,_=>by simp at h
 |_::_,[],_,_,_,_,h,_=>by simp at h
 |p::P,w::vs,0,m,nd,h1,h2,hk=>by
  simp at h1 h2;subst h1;subst h2;show bindC zCk ((p,w)::P.zip vs) m p=_;unfold bindC;rw[vh λ v hv=>(zAh.mp nd).1 (zDd hv).1,if_neg hk];simp
 |p::P,w::vs,i+1,m,nd,h1,h2,hk=>by
  show bindC zCk ((p,w)::P.zip vs) m x=_;unfold bindC;exact vm (i:=i) (zAh.mp nd).2 (by simpa using h1) (by simpa using h2) hk
def start(N:List Str)(vs:List V):St:=vs.map some++zAN (N.length-vs.length) none
def zf(CX:CXT)(P:zAZ)(w:World)(K:zAA)(mg:Str->Option Value)(base:Heap)(N:List Str)(qual:Str)(scope:Scope)(f:Addr)(cd:Value)(A:zAd)(outer:List Env)(s:zAF)(H:Hp)(E:XK):Cx where
 prog:=P
 w:=w
 K:=K
 mg:=mg
 base:=base
 A:=A.deeper (zDt qual scope s.heap.objs.size f cd)
 N:=N
 z5:=s
 z4:=H
 env:=zDt qual scope s.heap.objs.size f cd
 outer:=outer
 stack:=zDt qual scope s.heap.objs.size f cd::outer
 ex:=[]
 calm:=true
 fn:=λ _=>true
 pn:=[]
 xe:=λ e s'=>wpAny (model P w) (A.deeper (zDt qual scope s.heap.objs.size f cd)) (leaving (zDt qual scope s.heap.objs.size f cd) e) (λ _ s''=>CX outer H s E e s'') (λ e' s''=>CX outer H s E e' s'') s'
def o7{sc:Scope}{n:Nat}{x:Str}(h:sc.names.lookup x=some .cell):∃c,(zDJ n sc.names []).lookup x=some c:=by
 have q:=zFX sc.names n [] (.inl h);exact Option.isSome_iff_exists.mp q
def aCV{CX:CXT}{P:zAZ}{w:World}{K:zAA}{mg:Str->Option Value}{base:Heap}{N ps:List Str}{qual:Str}{scope:Scope}{f:Addr}{cd:Value}{A:zAd}{outer:List Env}{s s1:zAF}{H:Hp}{E:XK}{us:List Value}{vs:List V}
  (S:aY N ps scope)(hd:A.handled=none)(e0:aEm P w K mg base A outer s H)(hl:vs.length=ps.length)(r:Vals vs us)
  (x:InCallC s s.heap.objs.size (bindL (zDt qual scope s.heap.objs.size f cd).kindOf (ps.zip us) λ _=>none) (zDJ (s.heap.objs.size+1) scope.names []) (bindC (zDt qual scope s.heap.objs.size f cd).kindOf (ps.zip us) λ _=>none) s1):
  Inv (zf CX P w K mg base N qual scope f cd A outer s H E) [] (start N vs) H s1:=by
 have hpl:ps.length<=N.length:=by have:=congrArg zG0 S.pre;rw[zBB]at this;lia
 obtain⟨h1,tk,rfl,hk⟩:=x.done;have noA:∀b:Addr,b∉(zf CX P w K mg base N qual scope f cd A outer s H E).ex:=λ b z=>absurd (show b∈([]:List Addr)from z) (by simp)
 refine⟨⟨e0.mod,S.kind,rfl,rfl,zAU _,λ y z c h1 h2=>?_,λ y hy=>?_,λ y c _ h=>?_,λ _=>hd,Around.frames_deeper e0.frames,.inr ⟨rfl,rfl⟩,λ b z=>absurd z (noA b),e0.bs,e0.bsz,λ b _ _=>noA b,λ b z=>absurd z (noA b),e0.funs,e0.frf⟩,
  rfl,e0.bare,Un.kept hk,⟨_,x.toInCall.ns,λ i y v h1 h2 h3=>?_⟩,λ y c h=>⟨_,x.cell y c h⟩,e0.hok.fresh (zAU _),λ y c h=>?_,λ p hp=>absurd (show p∈([]:hZ)from hp) (by simp),e0.hok.kept hk,?_,λ p hp=>absurd (show p∈([]:hZ)from hp) (by simp)⟩
 .exact name_of_addr x.apart (zAp h1) (zAp h2)
 .have hy:scope.names.lookup y=some .cell\/scope.names.lookup y=some .free:=hy
  rcases hy with hy|hy
  .exact o7 hy
  .exact absurd rfl (S.nofree _ (zAp hy))
 .exact zBN (x.above y c (zAp h))
 .have hi:i<vs.length:=by
   unfold start at h2;by_cases hi:i<vs.length
   .exact hi
   .rw[zCy (by simpa using hi)]at h2
    rw[zBv]at h2;split at h2<;>cases h2
  have ha:vs[i]? =some v:=by
   unfold start at h2;rw[zBi (by simpa using hi),zAT]at h2;cases e:vs[i]? with
   |none=>rw[e]at h2;cases h2
   |some a=>rw[e]at h2;cases h2;rfl
  obtain⟨u,hu,rv⟩:=r.get ha;have hp:ps[i]? =some y:=by
   rw[<-S.pre,List.getElem?_take_of_lt (by lia)];exact h1
  have ndP:ps.Nodup:=by rw[<-S.pre];exact S.nd.sublist (zGj _ _)
  refine⟨u,rv,?_⟩;rcases S.par y (zA9 hp)with k|k
  .exact .inl ⟨k,vg ndP hp hu k⟩
  .obtain⟨c,e⟩:=o7 (n:=s.heap.objs.size+1) k
   refine .inr ⟨.inl k,c,e,?_⟩;have q:=x.cell y c e;rw[vm ndP hp hu (by show scope.names.lookup y≠_;rw[k];decide)]at q;exact q
 .exact e0.hok.fresh (zBN (x.above y c (zAp h)))
 .unfold start
  show _=N.length;rw[zAV,zAB,zCF];lia
def aKC{CX:CXT}{P:zAZ}{w:World}{K:zAA}{mg:Str->Option Value}{base:Heap}{k:Nat}{f:Addr}{name qual:Str}{params:zGp}{body:List Stmt}{scope:Scope}{dV kV doc pm cdv ct oc:Value}{an od:Option Addr}
  {osl:Array (Option Value)}{N ps:List Str}{sp:Sp}(lk:K.lookup f=some ⟨oc,od,.func (zBo name qual params body scope dV kV doc pm an cdv ct),osl⟩)(hcd:zCw K cdv qual=true)(S:aY N ps scope)
  (len:∀vs H Q E,sp vs H Q E->vs.length=ps.length)
  (hbody:∀(A:zAd) (outer:List Env) (s:zAF) (H:Hp) (vs:List V) (Q:VK) (E:XK),iw k (A.deeper (zDt qual scope s.heap.objs.size f cdv))->sp vs H Q E->
   ∃t,PSs (zf CX P w K mg base N qual scope f cdv A outer s H E) body t/\t {nx:=λ _ H'=>Q .non H',rt:=Q} (start N vs) H):
  cB P w K mg base CX (k+1) f (zBo name qual params body scope dV kV doc pm an cdv ct) ps sp:=by
 refine⟨len,λ A outer s H args us vs Q E hr e0 hb r hsp=>?_⟩;have hl:=len _ _ _ _ hsp;have KX:K.In s.heap:=e0.mod.kin.keeps λ b o e=>(e0.bs b o e).1
 have lim:s.heap.NoLimit:=e0.mod.nolimit.keeps λ b o e=>(e0.bs b o e).1
 have hkind:∀y∈ps.zip us,scope.names.lookup y.1=some .local\/(scope.names.lookup y.1=some .cell/\((zDJ (s.heap.objs.size+1) scope.names []).lookup y.1).isSome=true):=λ⟨n,v⟩ hy=>by
  rcases S.par n (zDd hy).1 with q|q
  .exact .inl q
  .exact .inr ⟨q,zFX _ _ _ (.inl q)⟩
 refine codeAny_call_function hr.depth (KX _ _ lk) rfl S.co S.gen rfl (PySem.W.codeRec_of KX hcd) (hb _ _ _ _ ?_);refine wpAny_newFunctionEnv_cells S.kind hkind λ env he s1 x=>?_
 subst he;refine⟨lim.keeps x.toInCall.keep,codeAny_func ?_⟩;obtain⟨t,ht,hq⟩:=hbody A outer s H vs Q E (hr.deeper _) hsp;have I:Inv (zf CX P w K mg base N qual scope f cdv A outer s H E) [] (start N vs) H s1:=aCV S hr.hd e0 hl r x;refine zBz (ht [] s1 (start N vs) H _ I hq) (λ fl s' hs=>?_) λ e s' hs=>hs
 have fin:∀{σ':St} {H':Hp} {v:V} {u:Value},Inv (zf CX P w K mg base N qual scope f cdv A outer s H E) [] σ' H' s'->RelV v u->Q v H'->CE outer P w H s Q u s':=
  λ{σ' H' v u} J rv q=>⟨v,H',J.os,J.bare,J.base,J.hok,rv,q⟩
 cases fl with
 |ret u=>
  obtain⟨v,σ',H',J,rv,q⟩:=hs;exact fin J rv q
 |next=>
  obtain⟨σ',H',J,q⟩:=hs;exact fin (v:=V.non) (u:=zBV) J rfl q
 |brk=>
  obtain⟨_,_,_,q⟩:=hs;exact zAJ q
 |cont=>
  obtain⟨_,_,_,q⟩:=hs;exact zAJ q
section
variable{X:Cx}{x:Str}{p pos:Pos}{e:Expr}{es:List Expr}{t:TA}{id T:String}{r:List V->Hp->VK->Prop}
def tCB(r:List V->Hp->VK->Prop)(t:TA):TE:=λ σ H Q=>t σ H λ vs H1=>r vs H1 Q
def lD(hc:cA X (.builtin id) r)(hg:Gl X x)(hm:X.mg x=none)(hv:zAq x=some (.builtin id))(ha:PA X (e::es) t)(hn:x≠"__name__":=by decide)(hdb:Nd x:=by decide)
  (he:zAY (e::es) X.env=(false,eval e X.env)::zAY es X.env:=by rfl)(hpl:(zBx pos (zAY es X.env)).any (·.1)=false:=by rfl):PE X (.Call (.Name x p) (e::es) [] pos) (tCB r t):=by
 intro hV s σ H Q I h;refine zDX (pW I hg hm hv ?_ hn hdb);exact PyProof.Rows.callWith_builtin1 (thn (ha pos hV s σ H _ I h) λ us s1 ⟨vs,H1,I1,r1,q1⟩=>hc hV s1 σ H1 vs us Q I1 r1 q1) he hpl
def fY(hc:cA X (.type T) r)(hg:Gl X x)(hm:X.mg x=none)(hv:zAq x=some (.type T))(ha:PA X (e::es) t)(hn:x≠"__name__":=by decide)(hdb:Nd x:=by decide)
  (he:zAY (e::es) X.env=(false,eval e X.env)::zAY es X.env:=by rfl)(hpl:(zBx pos (zAY es X.env)).any (·.1)=false:=by rfl):PE X (.Call (.Name x p) (e::es) [] pos) (tCB r t):=by
 intro hV s σ H Q I h;refine zDX (pW I hg hm hv ?_ hn hdb);exact zC7 (thn (ha pos hV s σ H _ I h) λ us s1 ⟨vs,H1,I1,r1,q1⟩=>hc hV s1 σ H1 vs us Q I1 r1 q1) he hpl
def aA9(hc:cA X (.type T) r)(hg:Gl X x)(hm:X.mg x=none)(hv:zAq x=some (.type T))(hn:x≠"__name__":=by decide)(hdb:Nd x:=by decide):
  PE X (.Call (.Name x p) [] [] pos) (tCB r jz):=by
 intro hV s σ H Q I h;refine zDX (pW I hg hm hv ?_ hn hdb);exact PyProof.Rows.callWith_type0 (hc hV s σ H [] [] Q I .nil h)
end
end L2
namespace HT
open PySem PyProof.Rows
def lexLt:List Int->List Int->Bool
 |[],[]=>false
 |[],_::_=>true
 |_::_,[]=>false
 |x::xs,y::ys=>if x=y then lexLt xs ys else decide (x<y)
def iR(x y:Int)(xs ys:List Int):lexLt (x::xs) (y::ys)=if x=y then lexLt xs ys else decide (x<y):=rfl
def uq:lexLt [] []=false:=rfl
def tV(y:Int)(ys:List Int):lexLt [] (y::ys)=true:=rfl
def tW(x:Int)(xs:List Int):lexLt (x::xs) []=false:=rfl
def z6(A:zAd)(s:zAF)(a:Int)(t:Tok)(c:Int)(u:Tok):∃e,zBl A s (.int a t) (.int c u) e/\(e=true↔a=c):=
 ⟨(a==c),zDf a t c u,by simp⟩
def aDR(A:zAd)(s:zAF)(a:Int)(t:Tok)(c:Int)(u:Tok)(prog:zAZ)(w:World)(E:Value->zAF->Prop)(Q:Value->zAF->Prop)(h:Q (.bool (decide (a<c))) s):
  wpAny (model prog w) A (zFz .Lt (.int a t) (.int c u)) Q E s:=
 (zEo h:wpAny (model prog w) A (zAr .Lt (.int a t) (.int c u)) Q E s)
section
open PySem.SeqAt
open PySem.AutoSeq1(wpAny_loadPart')
open PySem.MeetsSeq PySem.MeetsSeq2 PySem.MeetsSeq3
def uZ(l b:Addr)(items items2:Array Value)(n n2:Nat)(dd dd2:Option Addr)(sl sl2:Array (Option Value))(ns ms:List Int)(hi:zBC items.toList ns)(hj:zBC items2.toList ms):
  Meets (zDj.«tuple.__lt__» ⟨[.ref l,.ref b],[]⟩)
   (λ _ R s=>s.heap.get? l=some {cls:=.type "tuple",dict:=dd,data:=.seq items n,slots:=sl}/\s.heap.get? b=some {cls:=.type "tuple",dict:=dd2,data:=.seq items2 n2,slots:=sl2}/\
    R (.ok (.ret (.bool (lexLt ns ms)))) s):=
 .of_wp λ prog w A R s h=>by
  obtain⟨hp,g,d,tk,os⟩:=s;obtain⟨hl,hb,h⟩:=h;have f2:=zEf;have z1:items.size=ns.length:=by rw[<-hi.length];simp
  have z2:items2.size=ms.length:=by rw[<-hj.length];simp
  wp_walk using zCP hl,zCP hb,wpAny_forIn_list _ (λ rest b s'=>b.1=none/\s'=⟨hp,g,d,tk,os⟩/\∃(vs ws:List Value) (ns' ms':List Int),rest=vs.zip ws/\
   zBC vs ns'/\zBC ws ms'/\ns'.length+items2.size=ms'.length+items.size/\R (.ok (.ret (.bool (lexLt ns' ms')))) ⟨hp,g,d,tk,os⟩) _
  case turn=>
   rintro⟨y,x⟩ rest b s' ⟨hb',rfl,vs,ws,ns',ms',hz,hvi,hwi,hW,hR⟩;cases hvi with
   |nil=>rw[zGk]at hz;cases hz
   |cons a t hvi'=>
    cases hwi with
    |nil=>rw[zG7]at hz;cases hz
    |cons c u hwi'=>
     rw[zBY]at hz;injection hz with hyx hrest
     injection hyx with hy hx
     subst hy hx;rw[iR]at hR;simp only[zA2]at hW;obtain⟨e,he,hiff⟩:=z6 A.in1 ⟨hp,g,d,tk,os⟩ a t c u;refine zAR (he prog w _ _ ?_);cases e with
     |true=>
      rw[if_pos (hiff.mp rfl)]at hR;wp_walk;exact⟨rfl,rfl,_,_,_,_,hrest,hvi',hwi',by lia,hR⟩
     |false=>
      rw[if_neg (λ q=>absurd (hiff.mpr q) zA5)]at hR;have hri:=aDR A.in1 ⟨hp,g,d,tk,os⟩ a t c u prog w;wp_walk using hri;exact⟨_,rfl,by simpa using hR⟩
  case fin=>
   rintro⟨b1,b2⟩ s' ⟨hb',rfl,vs,ws,ns',ms',hz,hvi,hwi,hW,hR⟩;simp only at hb';subst hb';have hv:lexLt ns' ms'=decide (items.size<items2.size):=by
    cases hvi with
    |nil=>
     cases hwi with
     |nil=>
      simp only[zB4]at hW;rw[uq];exact(decide_eq_false (by lia)).symm
     |cons c u hw=>
      simp only[zB4,zA2]at hW;rw[tV];exact(decide_eq_true (by lia)).symm
    |cons a t hv=>
     cases hwi with
     |nil=>
      simp only[zB4,zA2]at hW;rw[tW];exact(decide_eq_false (by lia)).symm
     |cons c u hw=>
      rw[zBY]at hz;cases hz
   rw[hv]at hR;wp_walk;exact⟨_,rfl,by simpa[zD5]using hR⟩
  case h=>
   exact⟨rfl,rfl,items.toList,items2.toList,ns,ms,rfl,hi,hj,by lia,h⟩
end
section
variable{prog:zAZ}{w:World}{A:zAd}{E:Value->zAF->Prop}{s:zAF}
def aAk(hl:IsTup s.heap l items)(hb:IsTup s.heap b items2)(hi:zBC items.toList ns)(hj:zBC items2.toList ms)
  (hu:A.units<cLine)(h:Q (.bool (lexLt ns ms)) s):wpAny (model prog w) A (zAr .Lt (.ref l) (.ref b)) Q E s:=by
 obtain⟨⟨cls,dd,data,sl⟩,ho,hc,n,hd⟩:=id hl;obtain⟨⟨cls2,dd2,data2,sl2⟩,ho2,hc2,n2,hd2⟩:=id hb;simp only at hc hd hc2 hd2;subst hc hd hc2 hd2;exact zGn (op:=.Lt) ⟨_,ho,rfl⟩ ⟨_,ho2,rfl⟩ PySem.F.slot_tuple_lt PySem.F.entry_tuple_lt (PySem.F.args_tuple_lt_2 _ _) (uZ l b items items2 n n2 dd dd2 sl sl2 ns ms hi hj)
  ⟨ho,ho2,show zDi (lexLt ns ms)≠zDq/\Q (.bool (lexLt ns ms)) s from⟨(λ x=>nomatch x),h⟩⟩ hu
def aG9(ht:IsTup s.heap t vs.toArray)(hb:IsTup s.heap b ws.toArray)(hv:vs≠[])
  (h1:ws=[]->Q (.ref t) s)(h2:ws≠[]->Q (.ref s.heap.objs.size) {s with heap:=s.heap.push {cls:=.type "tuple",data:=.seq (vs++ws).toArray}})
  (hsz:vs.length+ws.length<=zAO):wpAny (model prog w) A (zBe .Add (.ref t) (.ref b)) Q E s:=by
 obtain⟨⟨cls,dd,data,sl⟩,ho,hc,n,hd⟩:=id ht;obtain⟨⟨cls2,dd2,data2,sl2⟩,ho2,hc2,n2,hd2⟩:=id hb;simp only at hc hd hc2 hd2;subst hc hd hc2 hd2;have e:vs.toArray++ws.toArray=(vs++ws).toArray:=by simp
 by_cases hw:ws=[]
 .exact zHE ⟨_,ho,rfl⟩ ⟨_,ho2,rfl⟩ zFg zGe zDS zDH (zDD _ _)
   (tuple_addW1 t b vs.toArray ws.toArray n n2 dd dd2 sl sl2 (by simpa using hv) (by simp[hw])) ⟨ho,ho2,h1 hw⟩
 .refine zHE ⟨_,ho,rfl⟩ ⟨_,ho2,rfl⟩ zFg zGe zDS zDH (zDD _ _)
   (tuple_addW2 t b vs.toArray ws.toArray n n2 dd dd2 sl sl2 (by simpa using hv) (by simpa using hw) (by rw[zAI,zAI];exact hsz)) ⟨ho,ho2,?_⟩
  rw[e];exact h2 hw
def sIx(n d:Nat):Option Int->Nat
 |none=>d
 |some v=>if v<0 then(v+(n:Int)).toNat else min v.toNat n
def aHd(n d:Nat)(hd:d<=n)(o:Option Int):sIx n d o<=n:=by
 cases o with
 |none=>exact hd
 |some v=>
  show(if v<0 then(v+(n:Int)).toNat else min v.toNat n)<=n
  by_cases hv:v<0
  .rw[if_pos hv];lia
  .rw[if_neg hv];exact Nat.min_le_right _ _
def aBp(v:Int)(n d:Nat):(if v<0 then max (v+(n:Int)) 0 else min v (n:Int))=((sIx n d (some v):Nat):Int):=by
 show(if v<0 then max (v+(n:Int)) 0 else min v (n:Int))=(((if v<0 then(v+(n:Int)).toNat else min v.toNat n):Nat):Int)
 by_cases hv:v<0
 .simp only[if_pos hv];lia
 .simp only[if_neg hv];lia
def aBC(lo hi:Option Int)(n:Nat):zCe lo hi 1 (n:Int)=(((sIx n 0 lo:Nat):Int),((sIx n n hi:Nat):Int)):=by
 have h1:¬((1:Int)<0):=by lia
 unfold zCe;simp only[h1,if_false];refine zFk ?_ ?_
 .cases lo with
  |none=>rfl
  |some v=>exact aBp v n 0
 .cases hi with
  |none=>rfl
  |some v=>exact aBp v n n
def aA8(i j:Nat):zCB (i:Int) (j:Int) 1=j-i:=by
 unfold zCB;have h1:(1:Int)>0:=by lia
 simp only[h1,if_true,Int.ediv_one];split<;>lia
def sJ(p:zFV v o)(h:Q o s):wpAny (model prog w) A (zH5 v) Q E s:=by
 cases p with
 |none=>exact slicePart_none h
 |int i t=>exact slicePart_int h
def jQ{sl:Addr}{vl vu:Value}{lo hi:Option Int}{n:Nat}{Q:Int×Int×Nat->zAF->Prop}(hs:s.heap.IsSliceOf sl vl vu .none)(pl:zFV vl lo)(pu:zFV vu hi)
  (h:Q (((sIx n 0 lo:Nat):Int),1,sIx n n hi-sIx n 0 lo) s):wpAny (model prog w) A (zEC (.ref sl) (pure (n:Int))) Q E s:=by
 obtain⟨os,hos,hcs,hds⟩:=id hs;unfold zEC zH4;refine zAR (zAR (zHU hos hds (x:=vl) rfl (zAR (zHU hos hds (x:=vu) rfl (zAR (zHU hos hds (x:=.none) rfl (zA7 ?_)))))));refine zAR (slicePart_none ?_);show wpAny _ _ (if ((1:Int)==0)=true then _ else _) _ _ s;rw[if_neg (by decide)];refine zAR (sJ pl (zAR (sJ pu (zAR (zA7 ?_)))));show wpAny _ _ (match zCe lo hi 1 (n:Int)with|(lo,hi)=>pure (lo,(1:Int),zCB lo hi 1)) _ _ s;rw[aBC lo hi n];show wpAny _ _ (pure (((sIx n 0 lo:Nat):Int),(1:Int),zCB ((sIx n 0 lo:Nat):Int) ((sIx n n hi:Nat):Int) 1)) _ _ s;rw[aA8];exact zA7 h
def aD5(xs:Array Value)(i k:Nat):((zAw k).filterMap λ(m:Nat)=>xs[((i:Int)+(m:Int)*1).toNat]?).toArray=((xs.toList.drop i).take k).toArray:=by
 have e:(λ(m:Nat)=>xs[((i:Int)+(m:Int)*1).toNat]?)=λ m=>xs[i+m]?:=by
  funext m
  have:((i:Int)+(m:Int)*1).toNat=i+m:=by lia
  rw[this]
 rw[e]
 have:=pick_run xs i k
 rw[List.filterMap_map]at this;have e2:((λ x=>xs[x]?)∘λ x=>i+x)=λ m=>xs[i+m]?:=rfl
 rw[e2]at this;rw[this]
def oW{t sl:Addr}{items:Array Value}{vl vu:Value}{lo hi:Option Int}{Q:Value->zAF->Prop}(ht:IsTup s.heap t items)(hs:s.heap.IsSliceOf sl vl vu .none)(pl:zFV vl lo)(pu:zFV vu hi)
  (hw:¬(sIx items.size 0 lo=0/\sIx items.size items.size hi=items.size))
  (h:Q (.ref s.heap.objs.size) {s with heap:=s.heap.push {cls:=.type "tuple",data:=.seq ((items.toList.drop (sIx items.size 0 lo)).take (sIx items.size items.size hi-sIx items.size 0 lo)).toArray}})
  (hsz:items.size<=zAO):wpAny (model prog w) A (zFv (.ref t) (.ref sl)) Q E s:=by
 have aE:sizeOk (.seq ((items.toList.drop (sIx items.size 0 lo)).take (sIx items.size items.size hi-sIx items.size 0 lo)).toArray):=by
  show((items.toList.drop (sIx items.size 0 lo)).take (sIx items.size items.size hi-sIx items.size 0 lo)).toArray.size<=zAO
  rw[zAI,zBB,zE9,zBU];lia
 have hj:sIx items.size items.size hi<=items.size:=aHd _ _ (zAU _) hi;obtain⟨os,hos,hcs,hds⟩:=id hs;have hTs:s.TypeIs (.ref sl) "slice":=⟨os,hos,hcs⟩;unfold zFv
 try with_reducible refine zDF ?_
 first|refine zAR (zA7 ?_)|skip
 refine zAR (zHi ht.typeIs (by decide) ?_);refine zAR (zGg (name:=Str.ofString "__getitem__") ht.typeIs zBQ
  (zDu zBQ ht.typeIs zHR ?_ (zH3 _ _)))
 show wpAny _ _ (zED (.ref t)>>=_) _ _ s;refine zAR (tupleItemsOf_ ht ?_);refine zAR (zFc hTs ?_);rw[if_pos (by decide)];refine zAR (jQ hs pl pu ?_);have hno:¬((((sIx items.size 0 lo:Nat):Int)==0&&(1:Int)==1&&(sIx items.size items.size hi-sIx items.size 0 lo)==items.size)=true):=by
  intro q;rw[zAP,zAP]at q;have q1:((sIx items.size 0 lo:Nat):Int)=0:=zEm q.1.1;have q2:sIx items.size items.size hi-sIx items.size 0 lo=items.size:=zEm q.2;exact hw ⟨by lia,by lia⟩
 show wpAny _ _ (if (((sIx items.size 0 lo:Nat):Int)==0&&(1:Int)==1&&(sIx items.size items.size hi-sIx items.size 0 lo)==items.size)=true then _ else _) _ _ s;rw[if_neg hno,aD5]
 first
  |exact zAR (m:=zBT _) (zB9 (zA7 ⟨_,rfl,zA7 h⟩) aE)
  |exact zAR (m:=zBT _) (zB9 (zAR (zA7 (zA7 ⟨_,rfl,zA7 h⟩))) aE)
  |exact zAR (zAR (m:=zBT _) (zB9 (zA7 (zA7 ⟨_,rfl,zA7 h⟩)) aE))
  |exact zAR (zAR (m:=zBT _) (zB9 (zA7 ⟨_,rfl,zA7 h⟩) aE))
end
end HT
namespace L2
open PySem PySem.Spec PyProof.Rows
abbrev TO:=St->Hp->(Option Int->Hp->Prop)->Prop
def PO(X:Cx)(e:Option Expr)(t:TO):Prop:=
 ∀(hV:hZ) (s:zAF) (σ:St) (H:Hp) (Q:Option Int->Hp->Prop),Inv X hV σ H s->t σ H Q->
  wpAny (model X.prog X.w) X.A (evalPart e X.env) (λ u s'=>∃o H',Inv X hV σ H' s'/\zFV u o/\Q o H') X.xe s
def aEt:TO:=λ _ H Q=>Q none H
def aJI(t:TE):TO:=λ σ H Q=>t σ H λ x H1=>∃i,x= .int i/\Q (some i) H1
def intsAre_of:∀{us:List Value},Vals (ns.map V.int) us->zBC us ns:=by
 induction ns with
 |nil=>intro us r;rw[zCG]at r;cases r;exact .nil
 |cons n ns ih=>
  intro us r;rw[zAH]at r;cases r with
  |cons r1 r2=>
   obtain⟨t,e⟩:=r1;subst e;exact .cons n t (ih r2)
section
variable{X:Cx}{e:Expr}{te:TE}{lo hi:Option Expr}{tl th:TO}{pos p2:Pos}
def aFZ:PO X none aEt:=by
 intro hV s σ H Q I h;rw[zGc];exact zA7 ⟨none,H,I,.none,h⟩
def aFY(h:PE X e te):PO X (some e) (aJI te):=by
 intro hV s σ H Q I hw;rw[evalPart_some];refine thn (h hV s σ H _ I hw) λ u s1 ⟨x,H1,I1,r1,q1⟩=>?_
 obtain⟨i,rfl,q⟩:=q1;obtain⟨t,rfl⟩:=r1;exact⟨some i,H1,I1,.int i t,q⟩
def SlR(X:Cx)(r:V->Option Int->Option Int->Hp->VK->Prop):Prop:=
 ∀(hV:hZ) (s:zAF) (σ:St) (H:Hp) (x:V) (v vl vu:Value) (lo hi:Option Int) (sl:Addr) (Q:VK),Inv X hV σ H s->RelV x v->s.heap.IsSliceOf sl vl vu .none->zFV vl lo->zFV vu hi->r x lo hi H Q->
  ∃T id,zEZ (.type T) "__getitem__"=pure (some (.builtin id))/\s.TypeIs v T/\wpAny (model X.prog X.w) X.A (zFv v (.ref sl)) (EP X hV σ Q) X.xe s
def SlR.or(h:SlR X r)(h':SlR X r'):SlR X (λ x lo hi H Q=>r x lo hi H Q\/r' x lo hi H Q):=by
 intro hV s σ H x v vl vu lo hi sl Q I rx hs pl pu q;rcases q with q|q
 .exact h hV s σ H x v vl vu lo hi sl Q I rx hs pl pu q
 .exact h' hV s σ H x v vl vu lo hi sl Q I rx hs pl pu q
def tSl(r:V->Option Int->Option Int->Hp->VK->Prop)(te:TE)(tl th:TO):TE:=λ σ H Q=>te σ H λ x H1=>tl σ H1 λ l H2=>th σ H2 λ u H3=>r x l u H3 Q
def aD8(hr:SlR X r)(he:PE X e te)(hl:PO X lo tl)(hu:PO X hi th):PE X (.Subscript e (.Slice lo hi none p2) pos) (tSl r te tl th):=by
 intro hV s σ H Q I h;refine zHb (thn (he hV s σ H _ I h) λ v s1 ⟨x,H1,I1,r1,q1⟩=>?_);refine wpAny_Slice (thn (hl hV s1 σ H1 _ I1 q1) λ vl s2 ⟨l,H2,I2,pl,q2⟩=>thn (hu hV s2 σ H2 _ I2 q2) λ vu s3 ⟨u,H3,I3,pu,q3⟩=>?_);rw[zGc];refine zA7 ?_;have I4:Inv X hV σ H3 {s3 with heap:=s3.heap.push {cls:=.type "slice",data:=.fields #[vl,vu,.none]}}:=I3.kept (t':=s3.toks) λ b ob q=>zAC _ q
 obtain⟨T,id,hT,ht,hg⟩:=hr hV {s3 with heap:=s3.heap.push {cls:=.type "slice",data:=.fields #[vl,vu,.none]}} σ H3 x v vl vu l u s3.heap.objs.size Q I4 r1 (zEi ..) pl pu q3;show wpAny (model X.prog X.w) X.A (zGf e (.Slice lo hi none p2) v (.ref s3.heap.objs.size)) (EP X hV σ Q) X.xe {s3 with heap:=s3.heap.push {cls:=.type "slice",data:=.fields #[vl,vu,.none]}};exact tail_any (ops:=[.ref s3.heap.objs.size,v]) ht hT hg (by with_unfolding_all rfl)
def uT(xs:List V)(lo hi:Option Int):List V:=(xs.drop (HT.sIx xs.length 0 lo)).take (HT.sIx xs.length xs.length hi-HT.sIx xs.length 0 lo)
def qe(xs:List V)(lo hi:Option Int):(uT xs lo hi).length<=xs.length:=by
 unfold uT;rw[zBB,zE9];lia
def aFQ(K:zAA):R2:=λ x y H Q=>∃a b ns ms,x= .ref a/\y= .ref b/\SqT K H a (ns.map V.int)/\SqT K H b (ms.map V.int)/\Q (.bl (HT.lexLt ns ms)) H
def aIQ(hu:X.A.units<cLine):OpR X (zAr .Lt) (aFQ X.K):=by
 intro hV s σ H x y v u Q I rx ry h;obtain⟨a,b,ns,ms,rfl,rfl,ha,hb,q⟩:=h;cases rx;cases ry;obtain⟨its,r1,p1,_⟩:=I.tuple ha;obtain⟨its2,r2,p2,_⟩:=I.tuple hb;have i1:zBC its.toArray.toList ns:=intsAre_of r1;have i2:zBC its2.toArray.toList ms:=intsAre_of r2;exact HT.aAk p1 p2 i1 i2 hu ⟨.bl (HT.lexLt ns ms),H,I,rfl,q⟩
def aJ0(K:zAA):R2:=λ x y H Q=>∃a b xs ys,x= .ref a/\y= .ref b/\SqT K H a xs/\SqT K H b ys/\xs≠[]/\xs.length+ys.length<=zAO/\
 (ys=[]->Q (.ref a) H)/\(ys≠[]->∀p,H p=none->Q (.ref p) (upd H p (.tup (xs++ys))))
def Vals.nil_iff(r:Vals xs us):us=[]↔xs=[]:=by
 cases r with
 |nil=>simp
 |cons _ _=>simp
def aFm:OpR X (zBe .Add) (aJ0 X.K):=by
 intro hV s σ H x y v u Q I rx ry h;obtain⟨a,b,xs,ys,rfl,rfl,ha,hb,hx,hz,q1,q2⟩:=h;cases rx;cases ry;obtain⟨its,r1,p1,_⟩:=I.tuple ha;obtain⟨its2,r2,p2,_⟩:=I.tuple hb;refine HT.aG9 p1 p2 (λ z=>hx (r1.nil_iff.mp z)) (λ z=>⟨.ref a,H,I,rfl,q1 (r2.nil_iff.mp z)⟩) (λ z=>?_) (by rw[<-r1.length,<-r2.length];exact hz);refine⟨.ref s.heap.objs.size,_,I.laid (t':=s.toks) (o:=.tup (xs++ys)) (λ b ob q=>zAC _ q) (zAU _) ?_,rfl,q2 (λ w=>z (r2.nil_iff.mpr w)) _ (I.hok.fresh (zAU _))⟩;exact⟨⟨by rw[zAV];exact hz,NoD.push _⟩,_,r1.append r2,zEj _ _⟩
end
def ixN(n:Nat)(i:Int):Option Nat:=if 0<=i then(if i<n then some i.toNat else none)else if -(n:Int)<=i then some (i+n).toNat else none
def atI{α:Type}(xs:List α)(i:Int):Option α:=(ixN xs.length i).bind λ j=>xs[j]?
def aGF(h:ixN n i=some j):seqIndex? i n=some j/\j<n/\-(n:Int)<=i/\i<n:=by
 unfold ixN at h;by_cases h0:0<=i
 .rw[if_pos h0]at h
  by_cases h1:i<n
  .rw[if_pos h1]at h
   have e:i.toNat=j:=zAk h;exact⟨by rw[seqIndex_of h0 h1,e],by lia,by lia,h1⟩
  .rw[if_neg h1]at h;cases h
 .rw[if_neg h0]at h
  by_cases h1: -(n:Int)<=i
  .rw[if_pos h1]at h
   have e:(i+n).toNat=j:=zAk h;exact⟨by rw[seqIndex_neg (by lia) h1,e],by lia,h1,by lia⟩
  .rw[if_neg h1]at h;cases h
def xx(h:atI xs i=some v):∃j,seqIndex? i xs.length=some j/\xs[j]? =some v/\j<xs.length/\-(xs.length:Int)<=i/\i<xs.length:=by
 unfold atI at h;cases e:ixN xs.length i with
 |none=>rw[e]at h;cases h
 |some j=>
  rw[e]at h;obtain⟨h1,h2,h3,h4⟩:=aGF e;exact⟨j,h1,h,h2,h3,h4⟩
def yG(b:Expr):Prop:=∀o i,subscripted b false o i=operate [o,i] (zFv o i)
def IxR(X:Cx)(r:R2):Prop:=
 ∀(value slice:Expr) (hV:hZ) (s:zAF) (σ:St) (H:Hp) (x y:V) (v u:Value) (Q:VK),Inv X hV σ H s->RelV x v->RelV y u->r x y H Q->
  subscripted slice false v u=operate [v,u] (zFv v u)->wpAny (model X.prog X.w) X.A (zGf value slice v u) (EP X hV σ Q) X.xe s
def MtR(X:Cx)(id:String)(r:V->List V->Hp->VK->Prop):Prop:=
 ∀(hV:hZ) (s:zAF) (σ:St) (H:Hp) (x:V) (xs:List V) (v:Value) (us:List Value) (Q:VK),Inv X hV σ H s->RelV x v->Vals xs us->r x xs H Q->
  wpAny (model X.prog X.w) X.A (call (.builtin id) (v::us)) (EP X hV σ Q) X.xe s
section
variable{X:Cx}{a b:Expr}{ta tb:TE}{pos:Pos}
def IxR.or(h:IxR X r)(h':IxR X r'):IxR X (λ x y H Q=>r x y H Q\/r' x y H Q):=by
 intro value slice hV s σ H x y v u Q I rx ry q hs;rcases q with q|q
 .exact h value slice hV s σ H x y v u Q I rx ry q hs
 .exact h' value slice hV s σ H x y v u Q I rx ry q hs
def aHJ{r:R2}(hr:IxR X r)(ha:PE X a ta)(hb:PE X b tb)(hs:yG b):PE X (.Subscript a b pos) (tOp r ta tb):=by
 intro hV s σ H Q I h;exact zHb (aIy ha hb I h λ v u s2 x y H2 I2 rx ry q=>hr a b hV s2 σ H2 x y v u Q I2 rx ry q (hs _ _))
def aHm(K:zAA):R2:=λ x y H Q=>∃p xs i v,x= .ref p/\y= .int i/\SqL K H p xs/\atI xs i=some v/\Q v H
def aJX(K:zAA):R2:=λ x y H Q=>∃p xs i v,x= .ref p/\y= .int i/\SqT K H p xs/\atI xs i=some v/\Q v H
def aJY:R2:=λ x y H Q=>∃z i c,x= .str z/\y= .int i/\z.length<=zAO/\atI z.cps.toList i=some c/\Q (.str ⟨#[c]⟩) H
def aBd:IxR X (aHm X.K):=by
 intro value slice hV s σ H x y v u Q I rx ry h hs;obtain⟨p,xs,i,z,rfl,rfl,hq,he,q⟩:=h;cases rx;obtain⟨t,rfl⟩:=ry;obtain⟨its,r,pl,hz⟩:=I.list hq;obtain⟨j,h1,h2,h3,h4,h5⟩:=xx he;obtain⟨w,ew,rw'⟩:=r.get h2;have hl:=r.length;have hn:=tU;have fin:EP X hV σ Q w s:=⟨z,H,I,rw',q⟩;by_cases h0:0<=i
 .have hj:i.toNat=j:=by
   rw[seqIndex_of h0 h5]at h1;exact zAk h1
  exact item_listR pl.isList h0 (by lia) (by rw[hj];simpa using ew) fin hs
 .have hj:(i+(its.toArray.size:Int)).toNat=j:=by
   rw[seqIndex_neg (by lia) h4]at h1;rw[zAI,<-hl];exact zAk h1
  exact zGo (x:=w) pl.isList.typeIs zFT.lookup
   (wpAny_getItem_list_neg (Q:=λ r s'=>r=w/\EP X hV σ Q r s') pl.isList (by lia) (by rw[zAI]<;>lia) (by lia) (by rw[hj];simpa using ew) ⟨rfl,fin⟩) hs
def aIc:IxR X (aJX X.K):=by
 intro value slice hV s σ H x y v u Q I rx ry h hs;obtain⟨p,xs,i,z,rfl,rfl,hq,he,q⟩:=h;cases rx;obtain⟨t,rfl⟩:=ry;obtain⟨its,r,pl,hz⟩:=I.tuple hq;obtain⟨j,h1,h2,h3,h4,h5⟩:=xx he;obtain⟨w,ew,rw'⟩:=r.get h2;have hl:=r.length;have hn:=tU;have fin:EP X hV σ Q w s:=⟨z,H,I,rw',q⟩;exact zGo (x:=w) pl.typeIs slot_tuple_getitem.lookup
  (getItem_tuple (j:=j) (Q:=λ r s'=>r=w/\EP X hV σ Q r s') pl (by lia) (by lia) (by rw[zAI,<-hl];exact h1) (by simpa using ew) ⟨rfl,fin⟩) hs
def aIe:IxR X aJY:=by
 intro value slice hV s σ H x y v u Q I rx ry h hs;obtain⟨z,i,c,rfl,rfl,hz,he,q⟩:=h;obtain⟨t,rfl⟩:=rx;obtain⟨t',rfl⟩:=ry;obtain⟨j,h1,h2,h3,h4,h5⟩:=xx he;have hl:z.cps.toList.length=z.length:=by simp[Str.length]
 rw[hl]at h1 h4 h5;have hn:=tU;exact tail_any (typeIs_str s z t) slot_str_getitem.lookup (getItem_str (c:=c) (by
  have e1:decide (i < -(2^63:Int))=false:=decide_eq_false (by lia);have e2:decide (i ≥ 2^63)=false:=decide_eq_false (by lia);rw[e1,e2,Bool.or_false]) (by rw[h1];simpa using h2) ⟨.str ⟨#[c]⟩,H,I.tok _,⟨_,rfl⟩,q⟩) hs
def rIx(K:zAA):R2:=λ x y H Q=>aHm K x y H Q\/aJX K x y H Q\/aJY x y H Q
def aIf:IxR X (rIx X.K):=aBd.or (aIc.or aIe)
def wG(lo hi:Option Int)(n:Nat):(zDN lo hi none n).1=((HT.sIx n 0 lo:Nat):Int)/\(zDN lo hi none n).2.1=((HT.sIx n n hi:Nat):Int)/\(zDN lo hi none n).2.2=1:=by
 refine⟨?_,?_,rfl⟩
 .cases lo with
  |none=>simp[zDN,HT.sIx]
  |some i=>
   simp only[zDN,HT.sIx,zGa,show(1:Int)>0 by decide,if_true];by_cases h:i<0
   .simp only[h,if_true]<;>lia
   .simp only[h,if_false]<;>lia
 .cases hi with
  |none=>simp[zDN,HT.sIx]
  |some i=>
   simp only[zDN,HT.sIx,zGa,show(1:Int)>0 by decide,if_true];by_cases h:i<0
   .simp only[h,if_true]<;>lia
   .simp only[h,if_false]<;>lia
def ue(its:List Value)(lo hi:Option Int):slicePick its.toArray lo hi none=((its.drop (HT.sIx its.length 0 lo)).take (HT.sIx its.length its.length hi-HT.sIx its.length 0 lo)).toArray:=by
 obtain⟨h1,h2,h3⟩:=wG lo hi its.toArray.size;unfold slicePick;rw[h1,h2,h3];simp only[sliceRange_one,pick_run,zAI]<;>rfl
def aJV(K:zAA):V->Option Int->Option Int->Hp->VK->Prop:=λ x lo hi H Q=>∃a xs,x= .ref a/\SqL K H a xs/\∀p,H p=none->Q (.ref p) (upd H p (.lst (uT xs lo hi)))
def aFB:SlR X (aJV X.K):=by
 intro hV s σ H x v vl vu lo hi sl Q I rx hs pl pu h;obtain⟨a,xs,rfl,hx,q⟩:=h;cases rx;obtain⟨its,r,ht,hz⟩:=I.list hx;have hW:=r.length;refine⟨"list",_,zFT.lookup,ht.isList.typeIs,?_⟩;refine zG5 ht.isList hs pl pu .none (by simp) ?_ (by rw[zAI]<;>lia);rw[ue,<-hW];refine⟨.ref s.heap.objs.size,_,I.laid (t':=s.toks) (o:=.lst (uT xs lo hi)) (λ b ob q=>zAC _ q) (zAU _) ?_,rfl,q _ (I.hok.fresh (zAU _))⟩;exact⟨zAc (qe xs lo hi) hz,_,0,(r.drop (HT.sIx xs.length 0 lo)).take (HT.sIx xs.length xs.length hi-HT.sIx xs.length 0 lo),zA1 _ rfl⟩
def xq:cA X (.builtin "len") (λ xs H Q=>∃p ys,xs=[.ref p]/\(SqL X.K H p ys\/SqT X.K H p ys)/\Q (.int ys.length) H):=by
 intro hV s σ H xs us Q I r h;obtain⟨p,ys,rfl,hq,q⟩:=h;obtain⟨u,rfl,rx⟩:=vals1 r;cases rx;have hn:=tU;rcases hq with hq|hq
 .obtain⟨its,r',pl,hz⟩:=I.list hq
  have hW:=r'.length;exact Calls.call_len_list pl.isList (by simp only[zAI]<;>lia) ⟨.int ys.length,H,I.tok _,⟨s.toks+1,by rw[zAI,hW]⟩,q⟩
 .obtain⟨its,r',pl,hz⟩:=I.tuple hq
  have hW:=r'.length;exact len_tuple pl (by simp only[zAI]<;>lia) ⟨.int ys.length,H,I.tok _,⟨s.toks+1,by rw[zAI,hW]⟩,q⟩
def cA.or(h:cA X f r)(h':cA X f r'):cA X f (λ xs H Q=>r xs H Q\/r' xs H Q):=by
 intro hV s σ H xs us Q I rs q;rcases q with q|q
 .exact h hV s σ H xs us Q I rs q
 .exact h' hV s σ H xs us Q I rs q
def uw:cA X (.type "tuple") (λ xs H Q=>∃p ys,xs=[.ref p]/\((SqL X.K H p ys/\∀l,H l=none->Q (.ref l) (upd H l (.tup ys)))\/(SqT X.K H p ys/\Q (.ref p) H))):=by
 intro hV s σ H xs us Q I r h;obtain⟨p,ys,rfl,h⟩:=h;obtain⟨u,rfl,rx⟩:=vals1 r;cases rx;rcases h with ⟨hq,q⟩|⟨hq,q⟩
 .obtain⟨its,r',pl,hz⟩:=I.list hq
  have hW:=r'.length;refine call_tuple_list pl.isList (λ h' kp=>?_) (by simp only[zAI]<;>lia);have I1:Inv X hV σ H {s with heap:=h'}:=I.kept (t':=s.toks) kp;have I2:Inv X hV σ (upd H h'.objs.size (.tup ys)) {s with heap:=h'.push {cls:=.type "tuple",data:=.seq its.toArray}}:=
   I1.laid (t':=s.toks) (λ b o e=>zAC _ e) (zAU _) (show cO X.prog X.w _ _ _ (.tup ys)from⟨⟨hz,NoD.push _⟩,its,r',zEj _ _⟩)
  exact⟨.ref h'.objs.size,_,I2,rfl,q _ (I1.hok.fresh (zAU _))⟩
 .obtain⟨its,r',pl,hz⟩:=I.tuple hq
  exact call_tuple_same pl ⟨.ref p,H,I,rfl,q⟩
def tyV(K:zAA)(T:String)(x:V)(H:Hp):Prop:=match x with
 | .str _=>T="str"
 | .int _=>T="int"
 | .ref p=>(T="list"/\∃xs,SqL K H p xs)\/(T="tuple"/\∃o,K.lookup p=some o/\o.cls= .type "tuple"/\o.dict=none)\/
   (T="dict"/\((∃kvs,H p=some (.dK kvs))\/∃kvs,H p=some (.dT kvs)))\/(T="set"/\∃S n,H p=some (.set S n))
 |_=>False
def aHV(I:Inv X hV σ H s)(r:RelV x v)(ty:tyV X.K T x H):
  s.TypeIs v T/\∀a,v= .ref a->∃ob,s.heap.get? a=some ob/\ob.dict=none:=by
 cases x with
 |str z=>
  obtain⟨t,rfl⟩:=r;cases (show T="str" from ty);exact⟨typeIs_str s z t,λ _ e=>nomatch e⟩
 |int i=>
  obtain⟨t,rfl⟩:=r;cases (show T="int" from ty);exact⟨zCo s i t,λ _ e=>nomatch e⟩
 |ref p=>
  cases r;rcases ty with ⟨rfl,xs,hq⟩|⟨rfl,o,hk,hc,hd⟩|⟨rfl,hk⟩|⟨rfl,S,n,hk⟩
  .obtain⟨its,_,pl,_⟩:=I.list hq
   refine⟨pl.isList.typeIs,λ a e=>?_⟩;cases e;obtain⟨o,n,e,c,hd,_⟩:=pl;exact⟨o,e,hd⟩
  .refine⟨⟨o,I.kIn p o hk,hc⟩,λ a e=>?_⟩
   cases e;exact⟨o,I.kIn _ o hk,hd⟩
  .have z:∃o,s.heap.get? p=some o/\o.ExactDict:=by
    rcases hk with ⟨kvs,hk⟩|⟨kvs,hk⟩
    .obtain⟨_,_,_,_,o,_,_,e,ex,_⟩:=I.hok p _ hk
     exact⟨o,e,ex⟩
    .obtain⟨_,_,_,_,o,_,_,e,ex,_⟩:=I.hok p _ hk
     exact⟨o,e,ex⟩
   obtain⟨o,e,ex⟩:=z;refine⟨⟨o,e,ex.1⟩,λ a e2=>?_⟩;cases e2;exact⟨o,e,ex.2.1⟩
  .obtain⟨o,_,_,_,e,ex,_⟩:=I.hok p _ hk
   refine⟨⟨o,e,ex.1⟩,λ a e2=>?_⟩;cases e2;exact⟨o,e,ex.2.1⟩
 |_=>exact zAJ ty
def tBM(K:zAA)(T:String)(r:V->List V->Hp->VK->Prop)(to:TE)(t:TA):TE:=λ σ H Q=>to σ H λ x H1=>tyV K T x H1/\t σ H1 λ xs H2=>r x xs H2 Q
variable{o e:Expr}{es:List Expr}{to:TE}{t:TA}{name:Str}{apos cpos:Pos}{T id:String}{r:V->List V->Hp->VK->Prop}
def tG(pa:PlainAttrs T)(slot:Slot T name id)(hty:typeOf (.builtin id)=pure (.type "method_descriptor"))(hm:MtR X id r)(ho:PE X o to)(ha:PA X (e::es) t)
  (hbase:zCU o name X.env (eval o X.env)=eval o X.env:=by rfl)
  (hfew:((zBx cpos (zAY (e::es) X.env)).all (λ x=>!x.1)&&(zDW cpos (zCO [] X.env)).all (λ x=>x.1.isSome)
   &&decide ((e::es).length+([]:List zBj).length+(if ([]:List zBj).isEmpty then 0 else 1)<30))=true:=by rfl)
  (hline:(apos.endLine==cpos.line)=true:=by rfl)(hs:zAY (e::es) X.env=(false,eval e X.env)::zAY es X.env:=by rfl)(hplain:(zBx cpos (zAY es X.env)).any (·.1)=false:=by rfl):
  PE X (.Call (.Attribute o name apos) (e::es) [] cpos) (tBM X.K T r to t):=by
 intro hV s σ H Q I h;refine wpAny_Call_method_late hbase hfew hline rfl (thn (ho hV s σ H _ I h) λ v s1 ⟨x,H1,I1,r1,ty,q1⟩=>?_);obtain⟨h1,h2⟩:=aHV I1 r1 ty;refine⟨T,id,pa,slot,hty,h1,h2,?_⟩;have hA:=ha cpos hV s1 σ H1 _ I1 q1;rw[hs]at hA ⊢;refine Calls.callWith_builtin (by show(false||(zBx cpos (zAY es X.env)).any (·.1))=false;rw[hplain]<;>rfl) (zGF ?_);exact thn hA λ us s2 ⟨vs,H2,I2,r2,q2⟩=>hm hV s2 σ H2 x vs v us Q I2 r1 r2 q2
end
def MtM(X:Cx)(id:String)(r:V->List V->Hp->VK->Prop):Prop:=
 ∀(hV:hZ) (s:zAF) (σ:St) (H:Hp) (x:V) (xs:List V) (v:Value) (us:List Value) (Q:VK),Inv X hV σ H s->RelV x v->Vals xs us->r x xs H Q->
  wpAny (model X.prog X.w) X.A (call (.builtin id) (v::us)) (EP X hV σ Q) X.xe s
def Vals.one:∀{x:V} {us:List Value},Vals [x] us->∃u,us=[u]/\RelV x u
 |_,_,.cons r .nil=>⟨_,rfl,r⟩
theorem Vals.reverse(h:Vals xs us):Vals xs.reverse us.reverse:=by
 induction h with
 |nil=>exact .nil
 |cons r t ih=>rw[zCK,zCK];exact Vals.append ih (.cons r .nil)
theorem Vals.rep(h:Vals xs us):∀k:Nat,Vals (zAN k xs).flatten (zAN k us).flatten
 |0=>.nil
 |k+1=>by
  rw[zB5,zB5,zCI,zCI];exact Vals.append h (Vals.rep h k)
theorem foldl_rep(its:List Value):∀(k:Nat) (acc:List Value),
  zFd (λ x1 x2=>x1++x2) acc.toArray (zAN k its.toArray)=(acc++(zAN k its).flatten).toArray
 |0,acc=>by simp
 |k+1,acc=>by
  have e:acc.toArray++its.toArray=(acc++its).toArray:=by simp
  have e2:(acc++its)++(zAN k its).flatten=acc++(zAN (k+1) its).flatten:=by
   rw[zB5,zCI,zAo]
  rw[<-e2,<-foldl_rep its k (acc++its),<-e,zB5,zCt]
section
variable{X:Cx}{hV:hZ}{σ:St}{H:Hp}{s:zAF}{l:Addr}{xs ys:List V}
def Inv.lset{its its':List Value}{n:Nat}{f:Array Value->Array Value}{t':Nat}(I:Inv X hV σ H s)(hH:H l=some (.lst xs))
  (e:s.heap.get? l=some {cls:=.type "list",data:=.seq its.toArray n})(hf:f its.toArray=its'.toArray)(hv:Vals ys its')(hz:ys.length<=zAO):
  Inv X hV σ (upd H l (.lst ys)) {s with heap:=s.heap.update l (zCM f),toks:=t'}:=by
 have q:=PySem.IsL.update e f;rw[hf]at q;refine I.write (x:=l) (e:=l) (by rw[hH];exact trivial) (.inl rfl) (λ b' u hb hu=>(Heap.get?_update_other s.heap (zCM f) (zCz hb)).trans hu) ⟨_,q⟩ ?_;exact⟨hz,its',_,hv,q⟩
def Inv.lnew(I:Inv X hV σ H s)(hv:Vals ys its)(hz:ys.length<=zAO):
  Inv X hV σ (upd H s.heap.objs.size (.lst ys)) {s with heap:=s.heap.push {cls:=.type "list",data:=.seq its.toArray},toks:=t'}:=
 I.laid (λ _ _ q=>zAC _ q) (zAU _) ⟨hz,its,0,hv,zA1 _ rfl⟩
theorem Inv.fresh(I:Inv X hV σ H s):H s.heap.objs.size=none:=I.hok.fresh (zAU _)
def Inv.lstM(I:Inv X hV σ H s)(hH:H l=some (.lst xs)):xs.length<=zAO/\∃(its:List Value) (n:Nat),Vals xs its/\xs.length=its.length/\s.heap.get? l=some {cls:=.type "list",data:=.seq its.toArray n}:=by
 obtain⟨z,its,n,r,e⟩:=I.hok l _ hH;exact⟨z,its,n,r,r.length,e⟩
def oR(h:n<=zAO):zBE n=false:=by
 unfold zBE;exact decide_eq_false (by lia)
end
section
variable{X:Cx}
def aFT:V->List V->Hp->VK->Prop:=λ x vs H Q=>∃l xs y,x= .ref l/\vs=[y]/\H l=some (.lst xs)/\xs.length<zAO/\Q .non (upd H l (.lst (xs++[y])))
def vP:MtM X "list.append" aFT:=by
 intro hV s σ H x vs v us Q I rx rv h;obtain⟨l,xs,y,rfl,rfl,hH,hz,q⟩:=h;cases rx;obtain⟨u,rfl,ru⟩:=rv.one;obtain⟨z,its,n,r,hl,e⟩:=I.lstM hH;refine zBy zC1 ⟨_,e,rfl⟩ F.entry_list_append (F.args_list_append_2 _ _) (PySem.list_append l its.toArray n u (by rw[zAI];lia)) ⟨e,?_⟩;refine⟨.non,_,I.lset (its':=its++[u]) hH e (by simp) (r.append (.cons ru .nil)) ?_,rfl,q⟩;rw[zAV,zAs];lia
def aFS:V->List V->Hp->VK->Prop:=λ x vs H Q=>∃l b xs zs,x= .ref l/\vs=[.ref b]/\H l=some (.lst xs)/\H b=some (.lst zs)/\xs.length+zs.length<=zAO/\Q .non (upd H l (.lst (xs++zs)))
def aCM:MtM X "list.extend" aFS:=by
 intro hV s σ H x vs v us Q I rx rv h;obtain⟨l,b,xs,zs,rfl,rfl,hH,hB,hz,q⟩:=h;cases rx;obtain⟨u,rfl,ru⟩:=rv.one;cases ru;obtain⟨z,its,n,r,hl,e⟩:=I.lstM hH;obtain⟨z2,its2,n2,r2,hl2,e2⟩:=I.lstM hB;have hsz:its.toArray.size+its2.toArray.size<=zAO:=by rw[zAI,zAI];lia
 have kK:¬(!its.toArray.isEmpty&&zBE (its.toArray.size+its2.toArray.size))=true:=by
  rw[oR hsz,zCR];exact zA5
 refine zBy zCa ⟨_,e,rfl⟩ zGq (zGi _ _)
  (AutoSeq1.list_extend_list_list_0 l its.toArray n b its2.toArray n2 kK (by rw[zAI];lia) (by lia)) ⟨e,e2,?_⟩
 refine⟨.non,_,I.lset (its':=its++its2) hH e (by simp) (r.append r2) ?_,rfl,q⟩;rw[zAV];lia
def aK4:R2:=λ x y H Q=>∃l b xs zs,x= .ref l/\y= .ref b/\H l=some (.lst xs)/\H b=some (.lst zs)/\xs.length+zs.length<=zAO/\∀p,H p=none->Q (.ref p) (upd H p (.lst (xs++zs)))
def aIV:OpR X (zBe .Add) aK4:=by
 intro hV s σ H x y v u Q I rx ry h;obtain⟨l,b,xs,zs,rfl,rfl,hH,hB,hz,q⟩:=h;cases rx;cases ry;obtain⟨z,its,n,r,hl,e⟩:=I.lstM hH;obtain⟨z2,its2,n2,r2,hl2,e2⟩:=I.lstM hB;refine PySem.P.add_list e e2 ?_ (by rw[zAI,zAI];lia);have ea:its.toArray++its2.toArray=(its++its2).toArray:=by simp
 rw[ea];exact⟨.ref _,_,I.lnew (t':=s.toks) (r.append r2) (by rw[zAV];lia),rfl,q _ I.fresh⟩
def aJW:R2:=λ x y H Q=>∃l k xs,x= .ref l/\y= .int k/\H l=some (.lst xs)/\-(2^63)<=k/\k<2^63/\xs.length*k.toNat<=zAO/\
 ∀p,H p=none->Q (.ref p) (upd H p (.lst (zAN k.toNat xs).flatten))
def len_rep(xs:List α)(k:Nat):(zAN k xs).flatten.length=k*xs.length:=by
 induction k with
 |zero=>simp
 |succ k ih=>rw[zB5,zCI,zAV,ih,Nat.succ_mul,Nat.add_comm]
def aIK:OpR X (zBe .Mult) aJW:=by
 intro hV s σ H x y v u Q I rx ry h;obtain⟨l,k,xs,rfl,rfl,hH,h1,h2,hz,q⟩:=h;cases rx;obtain⟨t,rfl⟩:=ry;obtain⟨z,its,n,r,hl,e⟩:=I.lstM hH;have hW:its.toArray.size*k.toNat<=zAO:=by rw[zAI,<-hl];exact hz
 have hcap:¬its.toArray.size*k.toNat>(2^63-1) / 8:=by
  have:(zAO:Nat)<=(2^63-1) / 8:=by decide
  lia
 have hfit:¬(!Builtin.List.listFitsIndex k)=true:=by
  rw[fitsIndex_both h1 h2];exact zA5
 have kK:¬zBE (its.toArray.size*k.toNat)=true:=by
  rw[oR hW];exact zA5
 have hnew:zFd (λ x1 x2=>x1++x2) #[] (zAN (if its.toArray.isEmpty=true then 0 else k.toNat) its.toArray)=(zAN k.toNat its).flatten.toArray:=by
  have f0:∀m:Nat,zFd (λ x1 x2=>x1++x2) #[] (zAN m its.toArray)=(zAN m its).flatten.toArray:=λ m=>by
   have:=foldl_rep its m []
   rw[zCu]at this;exact this
  rw[f0];cases its with
  |nil=>simp
  |cons a r'=>rw[if_neg (by simp)]
 refine zCZ (T:="list") (U:="int") (by decide) ⟨_,e,rfl⟩ (λ s'=>zCo s' k t) noFill_list_mul zDw zBq repeat_list zD8.lookup
  (zBy zBq (zCo s k t) zD7 (zDY _ _) (int___rmul___int_list k t l its.toArray n)
   ⟨e,rfl,⟨_,e,rfl⟩,zBy F.slot_list_mul ⟨_,e,rfl⟩ F.entry_list_mul (F.args_list_mul_2 _ _) (AutoListH.list___mul___list_int_3 l its.toArray n k t hfit hcap kK) ⟨e,?_⟩⟩)
 rw[hnew];exact⟨.ref _,_,I.lnew (t':=s.toks) (r.rep k.toNat) (by rw[len_rep,zGQ];exact hz),rfl,q _ I.fresh⟩
end
end L2
namespace Att
open PySem PySem.W PySem.Calls PyProof.Rows
def qy:∀(ns:List Int) (vs:List Value),WellAll P h vs (ns.map WData.int)->zBC vs ns:=by
 intro ns;induction ns with
 |nil=>
  intro vs w;rw[zCG]at w;cases w;exact .nil
 |cons n ns ih=>
  intro vs w;rw[zAH]at w;cases w with
  |cons a b=>
   cases a;exact .cons _ _ (ih _ b)
def aCA{l:OpenLaw}{n:Nat}(hn:l.most=some n){P:Params}{h:Heap}{args:List WData}{vals:List Value}
  (hpre:l.row.toRowW.claim.pre args=true)(hwl:WellAll P h vals args):
  ∃a vs ns,vals=[zBS a]/\args=[WData.list (ns.map WData.int)]/\h.get? a=some {cls:=.type "list",data:=.seq vs.toArray}/\zBC vs ns/\ns.length<=n:=by
 have hsh:WShape.hasAll [] args [.list .int]=true:=(pre_splitW hpre).1;have hc:l.pre.holds [] {args:=args}=true:=(pre_splitW hpre).2;obtain⟨d,r,rfl,h1,h2⟩:=hasAllW_cons hsh;obtain rfl:=hasAllW_nil h2;obtain⟨xs,rfl,h3⟩:=hasW_list h1;obtain⟨ns,rfl⟩:=items_int h3;have hW:ns.length<=n:=by
  unfold OpenLaw.pre at hc;have h4:(WTm.not (.lt (.lit (.int (n:Int))) (.len (.arg 0)))).holds [] {args:=[.list (ns.map .int)]}=true:=by
   have h4:=(holds_andW hc).1;rw[hn]at h4;exact h4
  have h5:=condW_of h4 (w_not (w_lt w_lit (w_len_list (w_arg rfl))));rw[zAB]at h5;refine zD2 λ q=>?_
  have q':(n:Int)<((ns.length:Nat):Int):=by lia
  first
   |(rw[decide_eq_true q']at h5;exact absurd h5 (by decide))
   |(simp at h5;lia)
 cases hwl with
 |cons w1 w2=>
  cases w2;cases w1 with
  |list ho kQ=>exact⟨_,_,ns,rfl,rfl,ho,qy ns _ kQ,hW⟩
def aCE(l:OpenLaw)(args:List WData):l.row.toRowW.claim.post args (.bool true) args=true:=
 postW_of (r:=l.row.toRowW) (X:=(true==true))
  (show WShape.has [] (.bool true) .bool=true by first|rfl|decide|simp[WShape.has,WShape.arms,WShape.armsAll])
  (show(WTm.eq .res (.lit (.bool true))).value [] {args:=args,res:=some (.bool true),after:=args}=some (.bool (true==true))from w_eq_bool (w_res rfl) w_lit) rfl
def zu{l:OpenLaw}{n:Nat}{q:zAZ}{loose:List Str}{XP:(Str->Option Value)->Heap->Prop}{YP:World->Heap->Prop}{d:DefRec}
  (hn:l.most=some n)(hdf:d.params.defaults=[])
  (call:∀(w:World) (z5 z3:zAF) (mg mb:Str->Option Value) (fa:Addr) (o:Obj) (pm cd doc:Value) (a:Addr) (vs:List Value) (ns:List Int),
   Ground q loose [] XP w z5 mg mb z3.heap->YP w z3.heap->
   z3.heap.get? fa=some o->o.data= .func (docDef d.name d.params d.body d.scope pm cd doc)->z3.heap.CodeRec cd d.name->mg d.name=some (.ref fa)->
   z3.heap.get? a=some {cls:=.type "list",data:=.seq vs.toArray}->zBC vs ns->ns.length<=n->z3.gens=#[]->
   zDK (model l.prog w) zE8 (.call (.ref fa) ⟨[.ref a],[]⟩) (λ r s'=>r= .ok (.ret (.bool true))/\OldK z3.heap s'.heap/\s'.os=z3.os/\zEM s'.gens) z3):
  WalkO q loose XP YP l.row.toRowW d [] (λ f vs=>zGb f vs):=by
 intro w z5 z3 mg mb G Y fa o pm cd doc dV kV ho hd hcd hD hmg hg args vals as hpre hlay hrd hwl hlo;obtain rfl:dV= .none:=Dflts.none hD hdf;obtain rfl:kV= .none:=Dflts.noKw hD;obtain⟨a,vs,ns,rfl,rfl,hobj,hints,hW⟩:=aCA hn hpre hwl;refine enter_call (zEQ (call w z5 z3 mg mb fa o pm cd doc a vs ns G Y ho (fd_plain hd) hcd hmg hobj hints hW hg) λ r s' hq=>?_);obtain⟨rfl,h2,h3,h4⟩:=hq;exact⟨.inl ⟨.bool true,.bool true,[],rfl,λ _=>rfl,.bool true,aCE l _,λ _=>⟨zEz,λ _ hm=>(nomatch hm)⟩⟩,h2,h3,h4⟩
section
variable{prog:zAZ}{w:World}{A:zAd}{E:Value->zAF->Prop}{s:zAF}{K:Frag}
def make_obj(X:K.In s.heap)(hm:makesIn K C=true)(hi:findIn K (.ref C) "__init__"=some (some (.ref fI)))(hf:isFn K (.ref fI)=true)
  (h:zDK (model prog w) (A.under (.builtin "type.__call__" ⟨.ref C::rest,kw⟩)) (.call (.ref fI) ⟨.ref (s.heap.objs.size+1)::rest,kw⟩) (InitBack (s.heap.objs.size+1) R)
   {s with heap:=(s.heap.push emptyDict).push (instObj C s.heap.objs.size)}):zDK (model prog w) A (.call (.ref C) ⟨rest,kw⟩) R s:=by
 obtain⟨hh,g,d,t,os⟩:=s;exact make_core (makes_of X hm) (looks_findIn X hi) (λ self=>bind_fn X self (beq_iff_eq.mp hf)) (.inl rfl) h
def get_field(X:K.In s.heap)(I:zGl s.heap x ox C (some (dictOf es n)))(hg:plainGet K C name=true)(hh:hasDictIn K C=true)(ha:findIn K (.ref C) name=some none)
  (hl:getL name es=some (some v))(hv:handedIn v=true)(h:Q v {s with toks:=s.toks+1}):wpAny (model prog w) A (getAttr (.ref x) name expr) Q E s:=
 get_value X I (plainGet_of hg).1 (findObj_own hh ha rfl hl) hv h
def ledger(h:Heap)(L d:Addr):hZ:=(zAw h.objs.size).filterMap λ a=>if a=L\/a=d then none else(h.get? a).map λ o=>(a,o)
end
end Att
namespace L2
open PySem PySem.Spec PyProof.Rows
theorem vA:∀{vs:List Value} {ns:List Int},zBC vs ns->Vals (ns.map V.int) vs
 |_,_,.nil=>.nil
 |_,_,.cons n t h=>.cons ⟨t,rfl⟩ (vA h)
def Only(H:Hp):Prop:=∀b,H b=none\/∃o xs,H b=some (.frz o (.lst xs))
def aDz{P:zAZ}{w:World}{K:zAA}{mg mb:Str->Option Value}{CX:CXT}{k:Nat}{fa a:Addr}{fd:zAf}{x:Str}{sp:Sp}{z3:zAF}{vs:List Value}{ns:List Int}
  (KX:K.In z3.heap)(hns:z3.heap.Ns zA8 mg)(hb:z3.heap.Ns zHd mb)(hbb:∀x:Str,x≠"__name__"->mb x=zAq x)(hlim:z3.heap.NoLimit)(hg:z3.gens=#[])
  (ha:z3.heap.get? a=some {cls:=.type "list",data:=.seq vs.toArray})(hi:zBC vs ns)(hl:ns.length<=zAO)(hr:iw k zE8)
  (F:∀base:Heap,K.In base->base.Ns zA8 mg->cB P w K mg base CX k fa fd [x] sp)(hbind:∀(s:zAF) (u:Value),zEx s fd ⟨[u],[]⟩ [(x,u)])
  (hsp:∀H:Hp,Only H->SqL K H a (ns.map V.int)->sp [.ref a] H (λ v _=>v= .bl true) λ _ _ _=>False)
  (hCX:∀H e s',CX [] H z3 (λ _ _ _=>False) e s'->False):
  zDK (model P w) zE8 (.call (.ref fa) ⟨[.ref a],[]⟩) (λ r s'=>r= .ok (.ret (.bool true))/\OldK z3.heap s'.heap/\s'.os=z3.os/\zEM s'.gens) z3:=by
 have rv:=vA hi;have lenV:=hi.length;have core:∀H:Hp,Only H->SqL K H a (ns.map V.int)->HOk P w H z3.heap->(∀b,H b≠none->b=a)->(H a≠none->K.lookup a=none)->
   zDK (model P w) zE8 (.call (.ref fa) ⟨[.ref a],[]⟩) (λ r s'=>r= .ok (.ret (.bool true))/\OldK z3.heap s'.heap/\s'.os=z3.os/\zEM s'.gens) z3:=by
  intro H hO hS hok hA hK;have base_of:∀{b:Addr} {o:Obj},z3.heap.get? b=some o->H b=none->(xP z3.heap H).get? b=some o:=λ e n=>aER e n
  have noA:∀{b:Addr} {o:Obj} {es:Array DictEntry} {ep:Nat},z3.heap.get? b=some o->o.data= .dict es ep->H b=none:=λ{b o es ep} e d=>by
   cases q:H b with
   |none=>rfl
   |some u=>
    have e':b=a:=hA b (by rw[q];simp);subst e';rw[ha]at e;cases e;have d':zHY vs.toArray _=Data.dict es ep:=d;cases d'
  have nsK:∀{b:Addr} {m:Str->Option Value},z3.heap.Ns b m->(xP z3.heap H).Ns b m:=λ{b m} ⟨o,es,ep,e,d,r⟩=>⟨o,es,ep,base_of e (noA e d),d,r⟩
  have hKb:K.In (xP z3.heap H):=λ b o e=>base_of (KX b o e) (by
   cases q:H b with
   |none=>rfl
   |some u=>
    have e':b=a:=hA b (by rw[q];simp);subst e';rw[hK (by rw[q];simp)]at e;cases e)
  have hM:Mod K mg (xP z3.heap H):=⟨hKb,nsK hns,⟨mb,nsK hb,hbb⟩,let⟨mc,h1,h2⟩:=hlim;⟨mc,nsK h1,h2⟩⟩;have e0:aEm P w K mg (xP z3.heap H) zE8 [] z3 H:=⟨rfl,hM,λ b o e=>aFr e,Nat.le_of_eq (aCX _ _),trivial,λ b hb=>absurd (show b∈([]:List Addr)from hb) (by simp),hok,.of_eq hg⟩;refine zEQ ((F _ hKb (nsK hns)).run zE8 [] z3 H ⟨[.ref a],[]⟩ [.ref a] [.ref a] _ _ hr e0 (hbind z3 (.ref a)) (.cons rfl .nil) (hsp H hO hS)) λ r s' h=>?_
  cases r with
  |error e=>exact(hCX H e s' h).elim
  |ok fl=>
   cases fl with
   |next=>exact zAJ h
   |brk=>exact zAJ h
   |cont=>exact zAJ h
   |ret u=>
    obtain⟨v,H',os,bare,un,hok',r',q⟩:=h;have q':v= .bl true:=q;subst q';obtain rfl:u=zDi true:=r';refine⟨rfl,OldK.of_keep λ b o e=>?_,os,bare⟩;cases q:H b with
    |none=>exact un.keep b o e q (by intro z;exact absurd (show b∈([]:List Addr)from z) (by simp)) (by simp)
    |some u=>
     rcases hO b with z|⟨ob,xs,z⟩
     .rw[q]at z;cases z
     .have z2:=un.frzs b ob _ z
      obtain⟨e1,_⟩:=hok b _ z;obtain⟨e2,_⟩:=hok' b _ z2;rw[e]at e1;cases e1;exact e2
 cases hk:K.lookup a with
 |some o=>
  have e:=KX a o hk;rw[ha]at e;cases e;refine core (λ _=>none) (λ _=>.inl rfl) (.inr ⟨_,vs.toArray,_,hk,rfl,rfl,rfl,by rw[zAI,lenV];exact hl,by simpa using rv⟩) (λ b u z=>by have z':(none:Option HO)=some u:=z;cases z') (λ b z=>absurd rfl z) λ z=>absurd rfl z
 |none=>
  refine core (λ b=>if b=a then some (.frz {cls:=.type "list",data:=.seq vs.toArray} (.lst (ns.map V.int)))else none) (λ b=>?_) (.inl (.inr ⟨{cls:=.type "list",data:=.seq vs.toArray},if_pos rfl⟩)) (λ b u z=>?_) (λ b z=>?_) λ _=>hk
  .by_cases hb:b=a
   .exact .inr ⟨_,_,if_pos hb⟩
   .exact .inl (if_neg hb)
  .by_cases hb:b=a
   .have z':=(if_pos hb).symm.trans z
    cases z';subst hb;exact⟨ha,by rw[zAB];exact hl,vs,_,rv,ha⟩
   .have z':=(if_neg hb).symm.trans z
    cases z'
  .by_cases hb:b=a
   .exact hb
   .exact absurd (if_neg hb) z
def aEq{l:zE7}{n k:Nat}{q:zAZ}{loose:List Str}{XP:(Str->Option Value)->Heap->Prop}{YP:World->Heap->Prop}{d:DefRec}{K:Params->zAA}{CX:World->CXT}{sp:World->Sp}{x:Str}
  (hn:l.most=some n)(hn2:n<=zAO)(hdf:d.params.defaults=[])(hr:iw k zE8)
  (hY:∀(w:World) (h:Heap),YP w h->(K w.params).In h)
  (F:∀(w:World) (mg:Str->Option Value) (fa:Addr) (h:Heap),(K w.params).In h->h.Ns zA8 mg->mg d.name=some (.ref fa)->
   ∃fd:zAf,(∀(s:zAF) (u:Value),zEx s fd ⟨[u],[]⟩ [(x,u)])/\
    ∀base:Heap,(K w.params).In base->base.Ns zA8 mg->cB l.prog w (K w.params) mg base (CX w) k fa fd [x] (sp w))
  (hsp:∀(w:World) (H:Hp) (a:Addr) (ns:List Int),ns.length<=n->Only H->SqL (K w.params) H a (ns.map V.int)->sp w [.ref a] H (λ v _=>v= .bl true) λ _ _ _=>False)
  (hCX:∀(w:World) (H:Hp) (s:zAF) (e:Value) (s':zAF),CX w [] H s (λ _ _ _=>False) e s'->False):
  zHC q loose XP YP l.row.toRowW d [] (λ f vs=>zGb f vs):=by
 refine Att.zu hn hdf λ w z5 z3 mg mb fa o pm cd doc a vs ns G Y ho hd hcd hmg hobj hints hW hg=>?_
 have KX:=hY w _ Y;obtain⟨fd,hb,hF⟩:=F w mg fa _ KX G.T.g hmg;exact aDz KX G.T.g G.T.b G.T.builtins G.T.nolimit hg hobj hints (zAc hW hn2) hr hF hb (λ H hO hS=>hsp w H a ns hW hO hS) λ H e s'=>hCX w H z3 e s'
def mD(s:Stmt):zGp:=match s with
 | .FunctionDef _ a _ _ _ _ _ _ _ _=>a
 |_=>{posonlyargs:=[],args:=[],vararg:=none,kwonlyargs:=[],kw_defaults:=[],kwarg:=none,defaults:=[]}
def gO(s:Stmt):List Stmt:=match s with
 | .FunctionDef _ _ b _ _ _ _ _ _ _=>b
 |_=>[]
def aO(s:Stmt):Scope:=match s with
 | .FunctionDef _ _ _ _ _ _ sc _ _ _=>sc
 |_=>{kind:=.function,names:=[],isGenerator:=false,isCoroutine:=false}
abbrev CX0:CXT:=λ _ _ _ _ _ _=>False
abbrev E0:XK:=λ _ _ _=>False
structure Fun(K:zAA)(x qual:Str)(st:Stmt)(f:Addr)(fd:zAf):Prop where
 ex:∃(oc:Value) (od:Option Addr) (kV doc pm:Value) (an:Option Addr) (cdv ct:Value) (osl:Array (Option Value)),
  fd=zBo x qual (mD st) (gO st) (aO st) .none kV doc pm an cdv ct/\K.lookup f=some ⟨oc,od,.func fd,osl⟩/\zCw K cdv qual=true
 kp:zC5 K (.ref f)=true
section
variable{K:zAA}
def Fun.binds{x qual:Str}{st:Stmt}{f:Addr}{fd:zAf}{ps:List Str}(F:Fun K x qual st f fd)
  (h:∀(kV doc pm:Value) (an:Option Addr) (cdv ct:Value) (us:List Value),us.length=ps.length->bindArgs (zBo x qual (mD st) (gO st) (aO st) .none kV doc pm an cdv ct) ⟨us,[]⟩=pure (ps.zip us)):Binds K fd ps []:=by
 obtain⟨oc,od,kV,doc,pm,an,cdv,ct,osl,rfl,lk,hcd⟩:=F.ex;exact .all (h kV doc pm an cdv ct)
def aIq{x qual:Str}{st:Stmt}{f:Addr}{oc:Value}{od an:Option Addr}{osl:Array (Option Value)}{kV doc pm cdv ct:Value}(l:K.lookup f=some ⟨oc,od,.func (zBo x qual (mD st) (gO st) (aO st) .none kV doc pm an cdv ct),osl⟩)
  (c:zCw K cdv qual=true)(k:zC5 K (.ref f)=true):Fun K x qual st f (zBo x qual (mD st) (gO st) (aO st) .none kV doc pm an cdv ct):=⟨⟨oc,od,kV,doc,pm,an,cdv,ct,osl,rfl,l,c⟩,k⟩
end
def aQ(H H':Hp):Prop:=∀b o,H b=some o->H' b=some o
def aQ.refl(H:Hp):aQ H H:=λ _ _ h=>h
def aQ.trans(a:aQ H H1)(b:aQ H1 H2):aQ H H2:=λ c o h=>b c o (a c o h)
def aQ.free(e:aQ H H')(h:H' l=zH0):H l=zH0:=by
 cases q:H l with
 |none=>rfl
 |some o=>
  rw[e l o q]at h;cases h
end L2
set_option maxHeartbeats 4000000
namespace HT
open PySem PyProof.Rows
def lexLe:List Int->List Int->Bool
 |[],_=>true
 |_::_,[]=>false
 |x::xs,y::ys=>if x=y then lexLe xs ys else decide (x<=y)
def aAn(x y:Int)(xs ys:List Int):lexLe (x::xs) (y::ys)=if x=y then lexLe xs ys else decide (x<=y):=rfl
def aDS(A:zAd)(s:zAF)(a:Int)(t:Tok)(c:Int)(u:Tok)(prog:zAZ)(w:World)(E:Value->zAF->Prop)(Q:Value->zAF->Prop)(h:Q (.bool (decide (a<=c))) s):
  wpAny (model prog w) A (zFz .LtE (.int a t) (.int c u)) Q E s:=
 (PyProof.Rows.le_int h:wpAny (model prog w) A (zAr .LtE (.int a t) (.int c u)) Q E s)
section
open PySem.SeqAt
open PySem.AutoSeq1(wpAny_loadPart')
open PySem.MeetsSeq PySem.MeetsSeq2 PySem.MeetsSeq3
def uc(l b:Addr)(items items2:Array Value)(n n2:Nat)(dd dd2:Option Addr)(sl sl2:Array (Option Value))(ns ms:List Int)(hi:zBC items.toList ns)(hj:zBC items2.toList ms):
  Meets (zDj.«tuple.__le__» ⟨[.ref l,.ref b],[]⟩)
   (λ _ R s=>s.heap.get? l=some {cls:=.type "tuple",dict:=dd,data:=.seq items n,slots:=sl}/\s.heap.get? b=some {cls:=.type "tuple",dict:=dd2,data:=.seq items2 n2,slots:=sl2}/\
    R (.ok (.ret (.bool (lexLe ns ms)))) s):=
 .of_wp λ prog w A R s h=>by
  obtain⟨hp,g,d,tk,os⟩:=s;obtain⟨hl,hb,h⟩:=h;have f2:=zEf;have z1:items.size=ns.length:=by rw[<-hi.length];simp
  have z2:items2.size=ms.length:=by rw[<-hj.length];simp
  wp_walk using zCP hl,zCP hb,wpAny_forIn_list _ (λ rest b s'=>b.1=none/\s'=⟨hp,g,d,tk,os⟩/\∃(vs ws:List Value) (ns' ms':List Int),rest=vs.zip ws/\
   zBC vs ns'/\zBC ws ms'/\ns'.length+items2.size=ms'.length+items.size/\R (.ok (.ret (.bool (lexLe ns' ms')))) ⟨hp,g,d,tk,os⟩) _
  case turn=>
   rintro⟨y,x⟩ rest b s' ⟨hb',rfl,vs,ws,ns',ms',hz,hvi,hwi,hW,hR⟩;cases hvi with
   |nil=>rw[zGk]at hz;cases hz
   |cons a t hvi'=>
    cases hwi with
    |nil=>rw[zG7]at hz;cases hz
    |cons c u hwi'=>
     rw[zBY]at hz;injection hz with hyx hrest
     injection hyx with hy hx
     subst hy hx;rw[aAn]at hR;simp only[zA2]at hW;obtain⟨e,he,hiff⟩:=z6 A.in1 ⟨hp,g,d,tk,os⟩ a t c u;refine zAR (he prog w _ _ ?_);cases e with
     |true=>
      rw[if_pos (hiff.mp rfl)]at hR;wp_walk;exact⟨rfl,rfl,_,_,_,_,hrest,hvi',hwi',by lia,hR⟩
     |false=>
      rw[if_neg (λ q=>absurd (hiff.mpr q) zA5)]at hR;have hri:=aDS A.in1 ⟨hp,g,d,tk,os⟩ a t c u prog w;wp_walk using hri;exact⟨_,rfl,by simpa using hR⟩
  case fin=>
   rintro⟨b1,b2⟩ s' ⟨hb',rfl,vs,ws,ns',ms',hz,hvi,hwi,hW,hR⟩;simp only at hb';subst hb';have hv:lexLe ns' ms'=decide (items.size<=items2.size):=by
    cases hvi with
    |nil=>
     simp only[zB4]at hW;have e:lexLe [] ms'=true:=by cases ms'<;>rfl
     rw[e];exact(decide_eq_true (by lia)).symm
    |cons a t hv=>
     cases hwi with
     |nil=>
      simp only[zB4,zA2]at hW;show false=_;exact(decide_eq_false (by lia)).symm
     |cons c u hw=>
      rw[zBY]at hz;cases hz
   rw[hv]at hR;wp_walk;exact⟨_,rfl,by simpa[zD5]using hR⟩
  case h=>
   exact⟨rfl,rfl,items.toList,items2.toList,ns,ms,rfl,hi,hj,by lia,h⟩
end
section
variable{prog:zAZ}{w:World}{A:zAd}{E:Value->zAF->Prop}{s:zAF}
def aAp(hl:IsTup s.heap l items)(hb:IsTup s.heap b items2)(hi:zBC items.toList ns)(hj:zBC items2.toList ms)
  (hu:A.units<cLine)(h:Q (.bool (lexLe ns ms)) s):wpAny (model prog w) A (zAr .LtE (.ref l) (.ref b)) Q E s:=by
 obtain⟨⟨cls,dd,data,sl⟩,ho,hc,n,hd⟩:=id hl;obtain⟨⟨cls2,dd2,data2,sl2⟩,ho2,hc2,n2,hd2⟩:=id hb;simp only at hc hd hc2 hd2;subst hc hd hc2 hd2;exact zGn (op:=.LtE) ⟨_,ho,rfl⟩ ⟨_,ho2,rfl⟩ PySem.F.slot_tuple_le PySem.F.entry_tuple_le (PySem.F.args_tuple_le_2 _ _) (uc l b items items2 n n2 dd dd2 sl sl2 ns ms hi hj)
  ⟨ho,ho2,show zDi (lexLe ns ms)≠zDq/\Q (.bool (lexLe ns ms)) s from⟨(λ x=>nomatch x),h⟩⟩ hu
def aE9{ws:List Value}(ht:IsTup s.heap t #[])(hb:IsTup s.heap b ws.toArray)(h1:Q (.ref b) s):wpAny (model prog w) A (zBe .Add (.ref t) (.ref b)) Q E s:=by
 obtain⟨⟨cls,dd,data,sl⟩,ho,hc,n,hd⟩:=id ht;obtain⟨⟨cls2,dd2,data2,sl2⟩,ho2,hc2,n2,hd2⟩:=id hb;simp only at hc hd hc2 hd2;subst hc hd hc2 hd2;exact zHE ⟨_,ho,rfl⟩ ⟨_,ho2,rfl⟩ zFg zGe zDS zDH (zDD _ _)
   (tuple_addW0 t b #[] ws.toArray n n2 dd dd2 sl sl2 (by simp)) ⟨ho,ho2,h1⟩
def oX{lo hi:Option Int}(ht:IsTup s.heap t items)(hs:s.heap.IsSliceOf sl vl vu .none)(pl:zFV vl lo)(pu:zFV vu hi)
  (h1:sIx items.size 0 lo=0)(h2:sIx items.size items.size hi=items.size)
  (h:Q (.ref t) s):wpAny (model prog w) A (zFv (.ref t) (.ref sl)) Q E s:=by
 obtain⟨os,hos,hcs,hds⟩:=id hs;have hTs:s.TypeIs (.ref sl) "slice":=⟨os,hos,hcs⟩;obtain⟨ot,hot,hct,hdt⟩:=id ht;unfold zFv
 try with_reducible refine zDF ?_
 first|refine zAR (zA7 ?_)|skip
 refine zAR (zHi ht.typeIs (by decide) ?_);refine zAR (zGg (name:=Str.ofString "__getitem__") ht.typeIs zBQ
  (zDu zBQ ht.typeIs zHR ?_ (zH3 _ _)))
 show wpAny _ _ (zED (.ref t)>>=_) _ _ s;refine zAR (tupleItemsOf_ ht ?_);refine zAR (zFc hTs ?_);rw[if_pos (by decide)];refine zAR (jQ hs pl pu ?_);have hyes:(((sIx items.size 0 lo:Nat):Int)==0&&(1:Int)==1&&(sIx items.size items.size hi-sIx items.size 0 lo)==items.size)=true:=by
  rw[h1,h2];simp
 show wpAny _ _ (if (((sIx items.size 0 lo:Nat):Int)==0&&(1:Int)==1&&(sIx items.size items.size hi-sIx items.size 0 lo)==items.size)=true then _ else _) _ _ s;rw[if_pos hyes];unfold zH7;refine zAR (zAR (zFc ht.typeIs (zA7 ?_)));rw[if_pos (by decide)];exact zAR (wpAny_rule (zA7 ⟨_,rfl,zA7 h⟩))
end
end HT
namespace L2
open PySem PySem.Spec PyProof.Rows
def aGK(t T:String):Bool:=decide (t=T)||(decide (t="bool")&&decide (T="int"))
def aGE{K:zAA}(ht:t∈["NoneType","bool","int","str","list","tuple","dict"])(hT:T∈["bool","int","str","list","tuple","dict"]):
  zCx K (.type t) (.type T)=some (aGK t T):=by
 simp only[zAX,zEb,or_false]at ht hT;rcases ht with rfl|rfl|rfl|rfl|rfl|rfl|rfl<;>rcases hT with rfl|rfl|rfl|rfl|rfl|rfl<;>kernel_rfl
def mX(t T:String)(b:Bool):Bool:=decide (t∈["NoneType","bool","int","str","list","tuple","dict"])&&decide (T∈["bool","int","str","list","tuple","dict"])&&(aGK t T==b)
def aAs{K:zAA}(h:mX t T b=true):zCx K (.type t) (.type T)=some b:=by
 unfold mX at h;rw[zAP,zAP]at h;rw[aGE (of_decide_eq_true h.1.1) (of_decide_eq_true h.1.2),zEm h.2]
def bB(h:H p=none)(o:HO):aQ H (upd H p o):=λ b u q=>by rw[bJ (fZ q h)];exact q
section
variable{X:Cx}
def aK3(K:zAA):List V->Hp->VK->Prop:=λ xs H Q=>∃x T t b,xs=[x,.ty T]/\qF K H x (.type t)/\mX t T b=true/\Q (.bl b) H
def j7:cA X (.builtin "isinstance") (aK3 X.K):=by
 intro hV s σ H xs us Q I r h;obtain⟨x,T,t,b,rfl,ty,ok,q⟩:=h;obtain⟨u,w',rfl,r1,r2⟩:=vals2 r;obtain rfl:w'=zCV T:=r2;exact aCT I r1 ty (aAs ok) λ tk=>⟨.bl b,H,I.tok tk,rfl,q⟩
def aFR(K:zAA):R2:=λ x y H Q=>∃a b ns ms,x= .ref a/\y= .ref b/\SqT K H a (ns.map V.int)/\SqT K H b (ms.map V.int)/\Q (.bl (HT.lexLe ns ms)) H
def aIS(hu:X.A.units<cLine):OpR X (zAr .LtE) (aFR X.K):=by
 intro hV s σ H x y v u Q I rx ry h;obtain⟨a,b,ns,ms,rfl,rfl,ha,hb,q⟩:=h;cases rx;cases ry;obtain⟨its,r1,p1,_⟩:=I.tuple ha;obtain⟨its2,r2,p2,_⟩:=I.tuple hb;have i1:zBC its.toArray.toList ns:=intsAre_of r1;have i2:zBC its2.toArray.toList ms:=intsAre_of r2;exact HT.aAp p1 p2 i1 i2 hu ⟨.bl (HT.lexLe ns ms),H,I,rfl,q⟩
def Inv.big'(I:Inv X hV σ H s):zC6<s.heap.objs.size:=by
 have h:zA8<s.heap.objs.size:=(I.mod.glob.keeps I.bk).lt;exact Nat.lt_trans (by decide) h
def aJM:TE:=λ _ H Q=>∀p,H p=none->Q (.ref p) (upd H p (.dK []))
def aF5:PE X (.Dict [] [] pos) aJM:=λ hV s σ H Q I h=>
 wpAny_Dict_empty ⟨.ref s.heap.objs.size,_,I.laid (a:=s.heap.objs.size) (o:=.dK []) (t':=s.toks) (λ _ _ q=>zAC _ q) (zAU _)
  ⟨zAj _,beq_eq_false_iff_ne.mpr (zCz (zAn I.big')),[],.nil,Heap.DictOf.new s.heap⟩,rfl,h _ (I.hok.fresh (zAU _))⟩
end
def jO(l:Addr)(H H':Hp):Prop:=∀b o,b≠l->H b=some o->H' b=some o
def aQ.sqt{K:zAA}(e:aQ H H')(h:SqT K H a xs):SqT K H' a xs:=by
 rcases h with (h|⟨o,h⟩)|h
 .exact .inl (.inl (e _ _ h))
 .exact .inl (.inr ⟨o,e _ _ h⟩)
 .exact .inr h
inductive D where
 |non|bl (b:Bool)|int (i:Int)|str (x:Str)|tup (l:List D)|lst (l:List D)|dct
mutual
inductive Rep(H:Hp):V->D->Prop where
 |non:Rep H .non .non
 |bl (b:Bool):Rep H (.bl b) (.bl b)
 |int (i:Int):Rep H (.int i) (.int i)
 |str (x:Str):Rep H (.str x) (.str x)
 |tup {a:Addr} {xs:List V} {ds:List D} (h:H a=some (.tup xs)) (r:iy H xs ds):Rep H (.ref a) (.tup ds)
 |lst {a:Addr} {xs:List V} {ds:List D} (h:H a=some (.lst xs)) (r:iy H xs ds):Rep H (.ref a) (.lst ds)
 |dct {a:Addr} (h:H a=some (.dK [])):Rep H (.ref a) .dct
inductive iy(H:Hp):List V->List D->Prop where
 |nil:iy H [] []
 |cons {x:V} {d:D} {xs:List V} {ds:List D} (h:Rep H x d) (r:iy H xs ds):iy H (x::xs) (d::ds)
end
theorem iy.length:∀{xs:List V} {ds:List D},iy H xs ds->xs.length=ds.length
 |_,_,.nil=>rfl
 |_,_,.cons _ r=>by rw[zA2,zA2,iy.length r]
theorem iy.get:∀{xs:List V} {ds:List D} {i:Nat} {x:V},iy H xs ds->xs[i]? =some x->∃d,ds[i]? =some d/\Rep H x d
 |_,_,_,_,.nil,e=>by simp at e
 |_,_,0,_,.cons h _,e=>by simp at e;subst e;exact⟨_,rfl,h⟩
 |_,_,i+1,x,.cons _ r,e=>by
  obtain⟨d,h1,h2⟩:=iy.get (i:=i) (x:=x) r (by simpa using e);exact⟨d,by simpa using h1,h2⟩
def PE.weaken(h:PE X e t)(imp:∀σ H Q,t' σ H Q->t σ H Q):PE X e t':=λ hV s σ H Q I q=>h hV s σ H Q I (imp σ H Q q)
def OpR.weaken(h:OpR X f r)(imp:∀x y H Q,r' x y H Q->r x y H Q):OpR X f r':=λ hV s σ H x y v u Q I rx ry q=>h hV s σ H x y v u Q I rx ry (imp x y H Q q)
def New(H:Hp)(o:HO)(Q:VK):Prop:=∀p H',aQ H H'->H' p=some o->H p=none->Q (.ref p) H'
def New.at(n:New H o Q)(hp:H p=none):Q (.ref p) (upd H p o):=n p _ (bB hp o) aa hp
section
variable{X:Cx}{es:List Expr}{t:TA}{pos:Pos}
def aJH(t:TA):TE:=λ σ H Q=>t σ H λ xs H1=>xs.length<=zAO/\New H1 (.tup xs) Q
def aGo(t:TA):TE:=λ σ H Q=>t σ H λ xs H1=>xs.length<=zAO/\New H1 (.lst xs) Q
def aF2{x1}(h:PA X es t):PE X (.Tuple es x1 pos) (aJH t):=by
 have h':PA X es (λ σ H Q=>∃R:List V->Hp->Prop,t σ H R/\∀xs H',R xs H'->Q xs H'):=by
  intro pos hV s σ H Q I ⟨R,q,imp⟩;exact thn (h pos hV s σ H R I q) λ us s' ⟨vs,H',I',r,q'⟩=>⟨vs,H',I',r,imp _ _ q'⟩
 exact(aHz h').weaken λ σ H Q q=>⟨_,q,λ xs H' ⟨z,n⟩=>⟨z,λ p hp=>n.at hp⟩⟩
def wZ(h:PA X es t):PE X (.List es pos) (aGo t):=by
 have h':PA X es (λ σ H Q=>∃R:List V->Hp->Prop,t σ H R/\∀xs H',R xs H'->Q xs H'):=by
  intro pos hV s σ H Q I ⟨R,q,imp⟩;exact thn (h pos hV s σ H R I q) λ us s' ⟨vs,H',I',r,q'⟩=>⟨vs,H',I',r,imp _ _ q'⟩
 exact(aIE h').weaken λ σ H Q q=>⟨_,q,λ xs H' ⟨z,n⟩=>⟨z,λ p hp=>n.at hp⟩⟩
def aH2:TE:=λ _ H Q=>New H (.dK []) Q
def aDb:PE X (.Dict [] [] pos) aH2:=aF5.weaken λ σ H Q n p hp=>n.at hp
def aHF:R2:=λ x y H Q=>∃l b xs zs,x= .ref l/\y= .ref b/\H l=some (.lst xs)/\H b=some (.lst zs)/\xs.length+zs.length<=zAO/\New H (.lst (xs++zs)) Q
def aFn:OpR X (zBe .Add) aHF:=aIV.weaken λ x y H Q ⟨l,b,xs,zs,e1,e2,h1,h2,z,n⟩=>⟨l,b,xs,zs,e1,e2,h1,h2,z,λ p hp=>n.at hp⟩
def oK:V->List V->Hp->VK->Prop:=λ x vs H Q=>∃l xs y,x= .ref l/\vs=[y]/\H l=some (.lst xs)/\xs.length<zAO/\∀H',jO l H H'->H' l=some (.lst (xs++[y]))->Q .non H'
def nQ:MtM X "list.append" oK:=λ hV s σ H x xs v us Q I rx rv ⟨l,ys,y,e1,e2,h,z,n⟩=>
 vP hV s σ H x xs v us Q I rx rv ⟨l,ys,y,e1,e2,h,z,n _ (λ b o ne hb=>by rw[bJ ne];exact hb) aa⟩
end
def bU(scope:Scope)(env:Env):List (Str×Addr):=(scope.names.filterMap λ y=>if y.2== .free then(env.cells.lookup y.1).map λ c=>(y.1,c)else none).reverse
theorem uU(env:Env):∀(names:List (Str×zDC)) (acc:List (Str×Addr)),(∀y∈names,y.2= .free->∃c,env.cells.lookup y.1=some c)->
  (forIn names acc λ(x:Str×zDC) r=>if (x.2== .free)=true then do let c <-cellOf env x.1;pure (zBf ((x.1,c)::r))else pure (zBf r):Sem (List (Str×Addr)))=
   pure ((names.filterMap λ y=>if y.2== .free then(env.cells.lookup y.1).map λ c=>(y.1,c)else none).reverse++acc)
 |[],acc,_=>rfl
 |(n,k)::r,acc,h=>by
  rw[List.forIn_cons];have ih:=λ acc'=>uU env r acc' λ y hy=>h y (zAG _ hy)
  by_cases hk:k= .free
  .subst hk
   obtain⟨c,hc⟩:=h (n,.free) zAL rfl;have hc':env.cells.lookup n=some c:=hc;simp only[beq_self_eq_true,if_true,cellOf,hc',zBu,zD4,zCK,zAo,List.singleton_append];exact ih _
  .have hb:(k==zB7)=false:=by simpa using hk
   simp only[hb,zET,if_false,zBu];exact ih _
def m9(h:∀y∈scope.names,y.2= .free->∃c,env.cells.lookup y.1=some c):zG3 scope env=pure (bU scope env):=by
 have e:=uU env scope.names [] h;rw[zAm]at e;have e2:zG3 scope env=((forIn scope.names ([]:List (Str×Addr)) λ(x:Str×zDC) r=>if (x.2== .free)=true then do let c <-cellOf env x.1;pure (zBf ((x.1,c)::r))else pure (zBf r):Sem (List (Str×Addr)))>>=λ r=>pure r):=rfl;rw[e2,e];rfl
def qi(h:(bU scope env).lookup x=some c):env.cells.lookup x=some c:=by
 have hm:=zAp h;unfold bU at hm;rw[zBb,zCC]at hm;obtain⟨y,hy,e⟩:=hm;split at e
 .cases q:env.cells.lookup y.1 with
  |none=>rw[q]at e;cases e
  |some c'=>
   rw[q]at e;have e':=zAk e;injection e' with e1 e2
   subst e1 e2;exact q
 .cases e
def zp(hx:scope.names.lookup x=some .free)(h:env.cells.lookup x=some c):(bU scope env).lookup x=some c:=by
 have hm:(x,zB7)∈scope.names:=zAp hx
 have:(x,c)∈bU scope env:=by
  unfold bU;rw[zBb,zCC];exact⟨_,hm,by simp[h]⟩
 cases q:(bU scope env).lookup x with
 |none=>
  exact absurd this (by
   intro hm'
   have:=List.lookup_eq_none_iff.mp q _ hm'
   simp at this)
 |some c'=>
  have:=qi q
  rw[h]at this;exact this.symm▸rfl
def qt(scope:Scope)(C:Addr):List (Str×Addr):=zDJ (C+1) scope.names []
theorem j6:∀(names:List (Str×zDC)) (n:Nat) (acc:List (Str×Addr)),zDJ n names acc=zDJ n names []++acc
 |[],_,_=>rfl
 |(x,k)::r,n,acc=>by
  unfold zDJ;split
  .rw[j6 r (n+1) ((x,n)::acc),j6 r (n+1) [(x,n)],zAo];rfl
  .exact j6 r n acc
theorem n6:∀{names:List (Str×zDC)} {n:Nat} {x:Str} {c:Addr},(x,c)∈zDJ n names []->(x,zCb)∈names
 |(y,k)::r,n,x,c,h=>by
  unfold zDJ at h;split at h
  .rename_i hk
   rw[j6,zAQ]at h;rcases h with h|h
   .exact zAG _ (n6 h)
   .have e:=zAD.mp h
    cases e;rw[zEm hk];exact zAL
  .exact zAG _ (n6 h)
 |[],_,_,_,h=>by cases h
def jW{l m:List (Str×Addr)}(h:(l++m).lookup x=some c):l.lookup x=some c\/(l.lookup x=none/\m.lookup x=some c):=by
 rw[zEV]at h;cases e:l.lookup x with
 |some c'=>rw[e]at h;exact .inl h
 |none=>rw[e]at h;exact .inr ⟨rfl,h⟩
def aFs{M:Model}{A:zAd}{E:Value->zAF->Prop}{s:zAF}{scope:Scope}{globals:Addr}{cl:List (Str×Addr)}{qual:Str}{env:Env}{Q:Env->zAF->Prop}
  (h:∀h':Heap,h'.Ns s.heap.objs.size (λ _=>none)->(∀b o,s.heap.get? b=some o->h'.get? b=some o)->CellsOk h' (s.heap.objs.size+1) (qt scope s.heap.objs.size)->
   Q {scope:=scope,locals:=s.heap.objs.size,globals:=globals,cells:=qt scope s.heap.objs.size++cl,qual:=qual,func:=none,code:=env.code,frame:=env.frame,builtins:=env.builtins} {s with heap:=h'}):
  wpAny M A (zGV scope globals cl [] qual none .none (some env)) Q E s:=by
 simp only[zGV,zGR,if_true];refine zAR (wpAny_alloc ?_);refine zAR (wpAny_layCells _ (λ name kind cells=>by cases hkc:kind==zCb<;>simp[hkc]) _ _ _ _ ?_);have ok:=cellsFrom_ok scope.names (s.heap.push {cls:=.type "dict",data:=.dict #[]}) (s.heap.objs.size+1) [] ⟨λ _ _ hm=>(nomatch hm),zEz⟩ (by rw[zC8];exact zAU _);rw[zC8]at ok;rw[show({s with heap:=s.heap.push {cls:=.type "dict",data:=.dict #[]}}:zAF).heap.objs.size=s.heap.objs.size+1 from zC8 ..,j6];refine zA7 ?_;exact h _ ((Heap.Ns.new s.heap (.type "dict")).keeps (pushCells_keeps _ _)) (λ b o e=>pushCells_keeps _ _ b o (zAC _ e)) ok
def Cx.block(X:Cx)(scope:Scope)(C:Addr)(N:List Str)(fp:List Addr)(z5:zAF)(z4:Hp):Cx:=
  {prog:=X.prog,w:=X.w,K:=X.K,mg:=X.mg,base:=X.base,A:=X.A,N:=N,z5:=z5,z4:=z4,env:=compEnvC scope (qt scope C++bU scope X.env) C X.env,outer:=X.stack,stack:=X.stack,ex:=fp,
    fn:=λ x=>scope.names.lookup x==some .cell,calm:=X.calm,pn:=[],xe:=λ _ _=>False}
structure gj(X:Cx)(scope:Scope)(N:List Str)(st:St->St)(ks:List Nat):Prop where
 kind:scope.kind= .function
 sep:∀y∈scope.names,y.2= .cell->scope.names.lookup y.1=some .cell
 loc:∀y∈scope.names,y.2= .local->scope.names.lookup y.1=some .local
 free:∀y∈scope.names,y.2= .free->X.env.kindOf y.1=some .cell\/X.env.kindOf y.1=some .free
 len:∀σ,(st σ).length=N.length
 val:∀σ (i:Nat) x v,N[i]? =some x->(st σ)[i]? =some (some v)->scope.names.lookup x=some .free/\i∉ks/\∃j:Nat,X.N[j]? =some x/\σ[j]? =some (some v)
def wX(h:(zFy scope env).names.lookup x=some .cell\/(zFy scope env).names.lookup x=some .free):scope.names.lookup x=some .free\/scope.names.lookup x=some .cell:=by
 have go:∀names:List (Str×zDC),((names.map λ(n,k)=>if (k==zB7&&env.scope.kind== .function&&env.kindOf n==some .cell)then(n,zCb)else(n,k)).lookup x=some .cell\/
   (names.map λ(n,k)=>if (k==zB7&&env.scope.kind== .function&&env.kindOf n==some .cell)then(n,zCb)else(n,k)).lookup x=some .free)->names.lookup x=some .free\/names.lookup x=some .cell:=by
  intro names;induction names with
  |nil=>intro h;simp at h
  |cons y r ih=>
   obtain⟨n,k⟩:=y;intro h;rw[zAH]at h;by_cases hx:x==n
   .rw[zBK,hx]
    show some k=some .free\/some k=some .cell;by_cases hcc:(k==zB7&&env.scope.kind== .function&&env.kindOf n==some .cell)=true
    .rw[zAP,zAP]at hcc
     rw[zEm hcc.1.1];exact .inl rfl
    .simp only[if_neg hcc,zBK,hx]at h
     exact h.elim .inr .inl
   .have hx':(x==n)=false:=by simpa using hx
    rw[zBK,hx'];refine ih ?_;by_cases hcc:(k==zB7&&env.scope.kind== .function&&env.kindOf n==some .cell)=true
    .simp only[if_pos hcc,zBK,hx']at h
     exact h
    .simp only[if_neg hcc,zBK,hx']at h
     exact h
 exact go scope.names h
def wY(h:scope.names.lookup x=some .free):(zFy scope env).names.lookup x=some .cell\/(zFy scope env).names.lookup x=some .free:=by
 have go:∀names:List (Str×zDC),names.lookup x=some .free->((names.map λ(n,k)=>if (k==zB7&&env.scope.kind== .function&&env.kindOf n==some .cell)then(n,zCb)else(n,k)).lookup x=some .cell\/
   (names.map λ(n,k)=>if (k==zB7&&env.scope.kind== .function&&env.kindOf n==some .cell)then(n,zCb)else(n,k)).lookup x=some .free):=by
  intro names;induction names with
  |nil=>intro h;simp at h
  |cons y r ih=>
   obtain⟨n,k⟩:=y;intro h;rw[zAH];by_cases hx:x==n
   .rw[zBK,hx]at h
    have hk:k= .free:=zAk h;by_cases hcc:(k==zB7&&env.scope.kind== .function&&env.kindOf n==some .cell)=true
    .simp only[if_pos hcc,zBK,hx]
     exact .inl trivial
    .simp only[if_neg hcc,zBK,hx]
     exact .inr (by rw[hk])
   .have hx':(x==n)=false:=by simpa using hx
    rw[zBK,hx']at h;by_cases hcc:(k==zB7&&env.scope.kind== .function&&env.kindOf n==some .cell)=true
    .simp only[if_pos hcc,zBK,hx']
     exact ih h
    .simp only[if_neg hcc,zBK,hx']
     exact ih h
 exact go scope.names h
section
variable{X:Cx}{hV:hZ}{σ:St}{H:Hp}{s:zAF}
theorem Inv.block{st:St->St}{D C:Addr}(I:Inv X hV σ H s)(B:gj X scope N st ks)
  (hfp:∀b∈fp,uX X hV H b)(hob:∀b∈fp,∃ob,s.heap.get? b=some ob)
  (hD:s.heap.objs.size<=D)(hC:s.heap.objs.size<=C)(hDC:D≠C)(keep:∀b u,s.heap.get? b=some u->h'.get? b=some u)(hns:h'.Ns C λ _=>none)(hcs:CellsOk h' (C+1) (qt scope C))(hDo:∀c,C<c->D≠c)(iX:cO X.prog X.w (upd H D o) h' D o):
  Inv (X.block scope C N fp s H) [] (st σ) (upd H D o) {s with heap:=h',toks:=tk}:=by
 have hHD:H D=none:=I.hok.fresh hD;have hcl:∀x c,(bU scope X.env).lookup x=some c->X.env.cells.lookup x=some c:=λ x c e=>qi e
 have hol:∀x c,(qt scope C).lookup x=some c->C<c/\h'.IsCell c none:=λ x c e=>let⟨q1,q2⟩:=hcs.empty x c (zAp e);⟨q2,q1⟩
 have hlt:∀x c,(bU scope X.env).lookup x=some c->c<s.heap.objs.size:=λ x c e=>let⟨v,ic⟩:=I.cell x c (hcl x c e);ic.lt
 have aT:∀b∈fp,b<s.heap.objs.size:=λ b hb=>by
  obtain⟨ob,e⟩:=hob b hb;exact zA4 e
 refine⟨⟨I.mod,?_,I.ok.glob,I.ok.blt,hC,λ x y c e1 e2=>?_,λ x hx=>?_,λ x c hf e=>?_,I.ok.hd,I.ok.frames,.inl rfl,λ b hb=>⟨?_,λ x c e z=>?_⟩,
  I.bs,?_,λ b ob e hb=>?_,λ b hb hs=>?_,I.stack,I.stkFree⟩,rfl,I.bare,Un.laid keep hD hHD,⟨_,hns,λ i x v e1 e2 hv=>?_⟩,λ x c e=>?_,?_,λ x c e=>?_,λ p hp=>absurd (show p∈([]:hZ)from hp) (by simp),I.hok.laid keep hD iX,B.len σ,λ p hp=>absurd (show p∈([]:hZ)from hp) (by simp)⟩
 .show(zFy scope X.env).kind= .function
  exact B.kind
 .rcases jW e1 with a1|⟨_,a1⟩<;>rcases jW e2 with a2|⟨_,a2⟩
  .exact PySem.name_of_addr hcs.apart (zAp a1) (zAp a2)
  .exact absurd (hlt y c a2) (zFj.mpr (zAc hC (zBN (hol x c a1).1)))
  .exact absurd (hlt x c a1) (zFj.mpr (zAc hC (zBN (hol y c a2).1)))
  .exact I.ok.inj x y c (hcl x c a1) (hcl y c a2)
 .show∃c,(qt scope C++bU scope X.env).lookup x=some c
  rw[zEV];cases e:(qt scope C).lookup x with
  |some c=>exact⟨c,rfl⟩
  |none=>
   rcases wX hx with hfree|hcell
   .obtain⟨c,hc⟩:=I.ok.has x (B.free (x,.free) (zAp hfree) rfl)
    exact⟨c,zp hfree hc⟩
   .obtain⟨c,hc⟩:=o7 (n:=C+1) hcell
    rw[show(qt scope C).lookup x=some c from hc]at e;cases e
 .rcases jW e with a1|⟨a0,_⟩
  .exact zAc hC (zBN (hol x c a1).1)
  .obtain⟨c',hc'⟩:=o7 (n:=C+1) (zEm hf)
   rw[show(qt scope C).lookup x=some c' from hc']at a0;cases a0
 .exact zAn (zA3 (aT b hb) hC)
 .rcases jW e with a1|⟨_,a1⟩
  .exact absurd (aT b hb) (zFj.mpr (by rw[<-z];exact zAc hC (zBN (hol x c a1).1)))
  .exact(hfp b hb).2.2.2.2.1 x c (hcl x c a1) z
 .exact zAc I.ok.bsz I.sz
 .rcases(hfp b hb).2.2.2.1 with z|z
  .exact I.ok.noex b ob e z
  .exact absurd (zA3 (zA4 (I.ok.bs b ob e).1) z) (zBg _)
 .rcases zAX.mp (I.stkSub b hs)with z|z
  .exact(hfp b hb).2.1 z
  .exact(hfp b hb).2.2.1 z
 .obtain⟨hfree,_,j,f1,f2⟩:=B.val σ i x v e1 e2
  obtain⟨m,hn,hl⟩:=I.loc;have hk:=B.free (x,.free) (zAp hfree) rfl;obtain⟨u,ru,hu⟩:=hl j x v f1 f2 (hk.elim (λ z=>.inr (.inl z)) λ z=>.inr (.inr z));rcases hu with ⟨k,_⟩|⟨_,c,ec,ic⟩
  .rcases hk with z|z
   .exact absurd (k.symm.trans z) (by decide)
   .exact absurd (k.symm.trans z) (by decide)
  .have hno:(qt scope C).lookup x=none:=by
    cases e:(qt scope C).lookup x with
    |none=>rfl
    |some c'=>
     have:=B.sep _ (n6 (zAp e)) rfl
     rw[hfree]at this;cases this
   refine⟨u,ru,.inr ⟨?_,c,by show(qt scope C++bU scope X.env).lookup x=some c;rw[zEV,hno];exact zp hfree ec,ic.keeps keep⟩⟩;rcases hv with z|z|z
   .have z':(zFy scope X.env).names.lookup x=some .local:=z
    rcases wY (env:=X.env) hfree with y|y
    .exact absurd (z'.symm.trans y) (by decide)
    .exact absurd (z'.symm.trans y) (by decide)
   .exact .inl z
   .exact .inr z
 .rcases jW e with a1|⟨_,a1⟩
  .exact⟨_,(hol x c a1).2⟩
  .obtain⟨v,ic⟩:=I.cell x c (hcl x c a1)
   exact⟨v,ic.keeps keep⟩
 .show upd H D o C=none
  rw[bJ (zCz hDC)];exact I.hok.fresh hC
 .show upd H D o c=none
  rcases jW e with a1|⟨_,a1⟩
  .rw[bJ (zCz (hDo c (hol x c a1).1))]
   exact I.hok.fresh (zAc hC (zBN (hol x c a1).1))
  .obtain⟨v,ic⟩:=I.cell x c (hcl x c a1)
   rw[bJ (zAn (zA3 ic.lt hD))];exact I.freeC x c (hcl x c a1)
end
section
variable{prog:zAZ}{w:World}{A:zAd}{R:zFY->zAF->Prop}{s:zAF}
def xW(I:Nat->zAF->Prop)
  (turn:∀n s,I n s->wpAny (model prog w) A (pyNext it) (λ r z3=>match r with
   |none=>R (.ok .next) z3
   |some v=>wpAny (model prog w) A (zER target it v) (λ _ z3=>wpAny (model prog w) A (zFb target env v) (λ _ zS=>
     wpAny (model prog w) A (forIn ifs true λ c r=>if r=true then do let ok <-isTrue c env (eval c env);pure (zBf ok)else pure (zBf r)) (λ ok zI=>
      if ok=true then wpAny (model prog w) A (eval elt env) (λ x s₄=>
       wpAny (model prog w) A (call (.builtin "list.append") [acc,x]) (λ _ s₅=>∃m,m<n/\I m s₅) (λ _ _=>False) s₄) (λ _ _=>False) zI
      else∃m,m<n/\I m zI) (λ _ _=>False) zS) (λ _ _=>False) z3) (λ _ _=>False) z3) (λ _ _=>False) s)
  (n:Nat)(h:I n s):zDK (model prog w) A (.compLoop (.ListComp elt [⟨target,iter,ifs,0⟩] scope pos) 0 it acc env) R s:=by
 refine codeAny_loop rfl I (λ n s hI=>?_) n h;show wpAny _ A ((compTurn (.ListComp elt [⟨target,iter,ifs,0⟩] scope pos) 0 it acc env).onRaise (λ x=>do noteFrame x env;theTreesLotGoes x)) _ _ s;refine wpAny_noted ?_;rw[compTurn_list];refine zAR (wpAny_standAt (zAR (zBz (turn n s hI) (λ r z3 zD=>?_) λ _ _ h'=>h'.elim)));cases r with
 |none=>exact zA7 zD
 |some v=>
  refine zAR (zBz zD (λ _ z3 zD=>?_) λ _ _ h'=>h'.elim);refine zAR (zBz zD (λ _ zS h₂=>zAR (zBz h₂ (λ ok zI h₃=>?_) λ _ _ h'=>h'.elim)) λ _ _ h'=>h'.elim);cases ok with
  |false=>exact zA7 ⟨rfl,h₃⟩
  |true=>
   exact zAR (zAR (zBz h₃ (λ x s₄ h₄=>zAR (zBz h₄ (λ _ s₅ h₅=>zA7 (zA7 ⟨rfl,h₅⟩)) λ _ _ h'=>h'.elim)) λ _ _ h'=>h'.elim))
end
def uW(g:TG)(ks:List Nat):Prop:=∀v σ H (Q:St->Hp->Prop),g v σ H Q->g v σ H (λ σ' H'=>Q σ' H'/\σ'.length=σ.length/\∀k,k∉ks->σ'[k]? =σ[k]?)
def uV(g:TGs)(ks:List Nat):Prop:=∀vs σ H (Q:St->Hp->Prop),g vs σ H Q->g vs σ H (λ σ' H'=>Q σ' H'/\σ'.length=σ.length/\∀k,k∉ks->σ'[k]? =σ[k]?)
def aGU(h:i∈ks):uW (qR i) ks:=λ v σ H Q q=>⟨q,zBP,λ k hk=>zAu (λ(e:i=k)=>hk (e▸h))⟩
def aGT:uV aIn ks:=λ vs σ H Q ⟨e,q⟩=>⟨e,q,rfl,λ _ _=>rfl⟩
def aAD(g:TG):Prop:=∀v σ H (Q Q':St->Hp->Prop),(∀σ' H',Q σ' H'->Q' σ' H')->g v σ H Q->g v σ H Q'
def qG(g:TGs):Prop:=∀v σ H (Q Q':St->Hp->Prop),(∀σ' H',Q σ' H'->Q' σ' H')->g v σ H Q->g v σ H Q'
def aGW:aAD (qR i):=λ v σ H Q Q' imp q=>imp _ _ q
def aGV:qG aIn:=λ v σ H Q Q' imp ⟨e,q⟩=>⟨e,imp _ _ q⟩
def aEU(h1:aAD t)(h2:qG u):qG (aEW t u):=λ vs σ H Q Q' imp ⟨v,r,e,q⟩=>⟨v,r,e,h1 _ _ _ _ _ (λ σ' H' q'=>h2 _ _ _ _ _ imp q') q⟩
def aES(h1:uW t ks)(m1:aAD t)(h2:uV u ks)(m2:qG u):uV (aEW t u) ks:=λ vs σ H Q ⟨v,r,e,q⟩=>
 ⟨v,r,e,m1 _ _ _ _ _ (λ σ' H' ⟨q',l',k'⟩=>m2 _ _ _ _ _ (λ σ2 H2 ⟨q2,l2,k2⟩=>⟨q2,l2.trans l',λ k hk=>(k2 k hk).trans (k' k hk)⟩) (h2 _ _ _ _ q')) (h1 _ _ _ _ q)⟩
def aIl{K:zAA}(h:uV t ks):uW (aGX K n t) ks:=λ v σ H Q ⟨a,xs,e1,e2,e3,q⟩=>⟨a,xs,e1,e2,e3,h _ _ _ _ q⟩
def aIm{K:zAA}(h:qG t):aAD (aGX K n t):=λ v σ H Q Q' imp ⟨a,xs,e1,e2,e3,q⟩=>⟨a,xs,e1,e2,e3,h _ _ _ _ _ imp q⟩
def aCb(X:Cx)(ifs:List Expr)(t:TT):Prop:=
 ∀(hV:hZ) (s:zAF) (σ:St) (H:Hp) (Q:Bool->Hp->Prop),Inv X hV σ H s->t σ H Q->
  wpAny (model X.prog X.w) X.A (forIn ifs true λ c r=>if r=true then do let ok <-isTrue c X.env (eval c X.env);pure (zBf ok)else pure (zBf r)) (TP X hV σ Q) X.xe s
def aKR:TT:=λ _ H Q=>Q true H
def aHy:aCb X [] aKR:=λ _ _ _ H _ I h=>wpAny_tests_nil ⟨H,I,h⟩
def aHx(h:PT X c t):aCb X [c] t:=λ hV s σ H Q I q=>wpAny_tests_one (h hV s σ H Q I q)
def tLC(wi:TI)(st:St->St)(g:TG)(tt:TT)(te:TE):TE:=λ σ H Q=>wi σ H λ J H1=>∀l,H1 l=none->∃W:Nat->Nat->List V->Hp->Prop,(∃m,W 0 m [] (upd H1 l (.lst [])))/\
 ∀i m acc H2,W i m acc H2->H2 l=some (.lst acc)/\acc.length<zAO/\((J.stop i H2/\Q (.ref l) H2)\/(J.go i H2/\∀x H3,J.yld i H2 x H3->g x (st σ) H3 λ σ4 H4=>tt σ4 H4 λ ok H5=>
  if ok=true then te σ4 H5 λ y H6=>H6 l=some (.lst acc)/\∃m',m'<m/\W (i+1) m' (acc++[y]) (upd H6 l (.lst (acc++[y])))else∃m',m'<m/\W (i+1) m' acc H5))
section
variable{X:Cx}{elt tg iter:Expr}{ifs:List Expr}{scope:Scope}{pos:Pos}{N:List Str}{st:St->St}{ks:List Nat}{wi:TI}{g:TG}{tt:TT}{te:TE}
def zO(B:gj X scope N st ks)(hc:X.calm=true)(hg:∀C fp z5 z4,PG (X.block scope C N fp z5 z4) tg g)(hgo:uW g ks)(ht:∀C fp z5 z4,aCb (X.block scope C N fp z5 z4) ifs tt)
  (he:∀C fp z5 z4,PE (X.block scope C N fp z5 z4) elt te){H1:Hp}{Q:VK}{RR:Value->Addr->zFY->zAF->Prop}
  (I:Inv X hV σ H1 zS)(T:Turn X.prog X.w X.K tg J fp it tn)(h0:tn 0 zS.heap)(hfp:∀b∈fp,uX X hV H1 b)
  (h:∀l,H1 l=none->∃W:Nat->Nat->List V->Hp->Prop,(∃m,W 0 m [] (upd H1 l (.lst [])))/\
   ∀i m acc H2,W i m acc H2->H2 l=some (.lst acc)/\acc.length<zAO/\((J.stop i H2/\Q (.ref l) H2)\/(J.go i H2/\∀x H3,J.yld i H2 x H3->g x (st σ) H3 λ σ4 H4=>tt σ4 H4 λ ok H5=>
    if ok=true then te σ4 H5 λ y H6=>H6 l=some (.lst acc)/\∃m',m'<m/\W (i+1) m' (acc++[y]) (upd H6 l (.lst (acc++[y])))else∃m',m'<m/\W (i+1) m' acc H5)))
  (hRR:∀D C H' s',(∃σ',Inv (X.block scope C N fp zS H1) [] σ' H' s')->zS.heap.objs.size<=C->Q (.ref D) H'->RR (.ref D) C (.ok .next) s'):
  wpAny (model X.prog X.w) X.A (zFS []) (λ acc zI=>wpAny (model X.prog X.w) X.A (zGV scope X.env.globals (bU scope X.env) [] X.env.qual none .none (some X.env)) (λ cenv s₄=>
   zDK (model X.prog X.w) X.A (.compStart (.ListComp elt [⟨tg,iter,ifs,0⟩] scope pos) 0 (.ref it) acc {cenv with scope:=zFy scope X.env}) (RR acc cenv.locals) s₄) E zI) E zS:=by
 refine zB9 (aFs λ zD hns₁ y9 hcs₁=>?_);dsimp only at hns₁ y9 hcs₁ ⊢;generalize hH2:zS.heap.push {cls:=.type "list",dict:=none,data:=.seq ([]:List Value).toArray}=P2 at hns₁ y9 hcs₁ ⊢;have hC:P2.objs.size=zS.heap.objs.size+1:=by rw[<-hH2,zC8]
 have hDC:zS.heap.objs.size≠P2.objs.size:=by rw[hC];exact zAn (zD3 _)
 have kX:zS.heap.objs.size<=P2.objs.size:=by rw[hC];exact zFA _
 have old:∀b o,zS.heap.get? b=some o->zD.get? b=some o:=λ b o e=>y9 b o (hH2▸zAC _ e)
 have iX:zD.get? zS.heap.objs.size=some {cls:=.type "list",dict:=none,data:=.seq ([]:List Value).toArray}:=y9 _ _ (hH2▸zA1 _ rfl);generalize hCe:P2.objs.size=C at hns₁ y9 hcs₁ hDC kX hC ⊢;have hHD:H1 zS.heap.objs.size=none:=I.hok.fresh (zAU _);have I0:Inv (X.block scope C N fp zS H1) [] (st σ) (upd H1 zS.heap.objs.size (.lst [])) {zS with heap:=zD,toks:=zS.toks}:=
  I.block B hfp (λ b hb=>by obtain⟨o,e,_⟩:=T.obj 0 _ h0 b hb;exact⟨o,e⟩) (zAU _) kX hDC old hns₁ hcs₁ (λ c hc=>zAn (Nat.lt_of_le_of_lt kX hc)) ⟨zAj _,[],0,.nil,iX⟩
 obtain⟨W,⟨m0,w0⟩,step⟩:=h _ hHD;have h01:tn 0 zD:=T.keep 0 _ _ h0 λ b _ o e=>old b o e
 have qV:∀{H':Hp},(∀b∈fp,H' b=none)->∀b∈fp,uX (X.block scope C N fp zS H1) [] H' b:=λ{H'} hn b hb=>
  ⟨hn b hb,(I0.ok.exf b hb).1,I0.ok.exfs b hb,.inl hb,λ x c e=>(I0.ok.exf b hb).2 x c e,λ p hp=>absurd (show p∈([]:hZ)from hp) (by simp)⟩
 have fr0:∀b∈fp,upd H1 zS.heap.objs.size (.lst []) b=none:=λ b hb=>by
  obtain⟨o,e,_⟩:=T.obj 0 _ h0 b hb;rw[bJ (zAn (zA4 e))];exact(hfp b hb).1
 have loop:∀zI:zAF,zI={zS with heap:=zD,toks:=zS.toks}->
   zDK (model X.prog X.w) X.A (.compLoop (.ListComp elt [⟨tg,iter,ifs,0⟩] scope pos) 0 (.ref it) (.ref zS.heap.objs.size) (X.block scope C N fp zS H1).env) (RR (.ref zS.heap.objs.size) C) zI:=by
  rintro zI rfl;refine xW (λ n s'=>∃i acc H2,Inv (X.block scope C N fp zS H1) [] (st σ) H2 s'/\tn i s'.heap/\(∀b∈fp,H2 b=none)/\W i n acc H2) ?_ m0 ⟨0,[],_,I0,h01,fr0,w0⟩;rintro n s3 ⟨i,acc,H2,I2,st2,fr2,w2⟩;obtain⟨hl,hz,alt⟩:=step i n acc H2 w2;rcases alt with ⟨stop,q⟩|⟨go,nxt⟩
  .refine thn (T.done (X.block scope C N fp zS H1) rfl rfl rfl hc i [] s3 (st σ) H2 _ I2 (qV fr2) st2 stop) λ r s4 ⟨hr,I4⟩=>?_
   subst hr;exact hRR _ C H2 s4 ⟨_,I4⟩ kX q
  .refine thn (T.item (X.block scope C N fp zS H1) rfl rfl rfl hc i [] s3 (st σ) H2 _ I2 (qV fr2) st2 go) λ r s4 ⟨u,hr,h4⟩=>?_
   subst hr;refine thn h4 λ _ s5 ⟨x,H5,I5,r5,y5,st5,fr5⟩=>?_
   have I5':=I5.pinned (qV fr5) (T.obj _ _ st5);refine thn (hg C fp zS H1 _ s5 (st σ) H5 x u _ I5' r5 (hgo _ _ _ _ (nxt x H5 y5))) λ _ s6 ⟨σ6,H6,I6,q6,aJi,ag6⟩=>?_
   refine thn (ht C fp zS H1 _ s6 σ6 H6 _ I6 q6) λ ok s7 ⟨H7,I7,q7⟩=>?_
   have again:∀{H9:Hp} {s9:zAF} {acc':List V},Inv (X.block scope C N fp zS H1) ([]++tE fp s5.heap) σ6 H9 s9->(∃m',m'<n/\W (i+1) m' acc' H9)->
     ∃m,m<n/\∃i acc H2,Inv (X.block scope C N fp zS H1) [] (st σ) H2 s9/\tn i s9.heap/\(∀b∈fp,H2 b=none)/\W i m acc H2:=λ{H9 s9 acc'} I9 ⟨m',hm,w9⟩=>by
    have pin9:∀b∈fp,∀o,s5.heap.get? b=some o->s9.heap.get? b=some o/\H9 b=none:=λ b hb o e=>by
     have z:=I9.pin (b,o) (zA0 _ (zA0 _ (nR hb e)));exact⟨z.1,z.2.1⟩
    refine⟨m',hm,i+1,acc',H9,I9.unpinned.weak (by rw[aJi]) (λ k v e=>?_),T.keep _ _ _ st5 λ b hb o e=>(pin9 b hb o e).1,λ b hb=>?_,w9⟩
    .have hk:k<(st σ).length:=(zAM.mp e).1
     have hkN:k<N.length:=by rw[<-B.len σ];exact hk
     obtain⟨_,hks,_⟩:=B.val σ k _ v (zAE hkN) e;rw[ag6 k hks];exact e
    .obtain⟨o,e,_⟩:=T.obj _ _ st5 b hb
     exact(pin9 b hb o e).2
   cases ok with
   |false=>
    rw[if_neg zA5]at q7 ⊢;exact again I7 q7
   |true=>
    rw[if_pos rfl]at q7 ⊢;refine thn (he C fp zS H1 _ s7 σ6 H7 _ I7 q7) λ u8 s8 ⟨y,H8,I8,r8,hl8,q8⟩=>?_
    refine thn (vP _ s8 σ6 H8 (.ref zS.heap.objs.size) [y] (.ref zS.heap.objs.size) [u8] (λ _ H9=>H9=upd H8 zS.heap.objs.size (.lst (acc++[y]))) I8 rfl (.cons r8 .nil) ⟨_,acc,y,rfl,rfl,hl8,hz,rfl⟩) λ _ s9 ⟨_,H9,I9,_,e9⟩=>?_
    subst e9;exact again I9 q8
 exact codeAny_compStart_list (loop _ rfl) (T.self X.A 0 _ _ _ h01 (loop _ rfl))
def aBq(I:Inv X hV σ H1 zS)(hfp:∀b∈fp,uX X hV H1 b)(h:∃σ',Inv (X.block scope C N fp zS H1) [] σ' H' s'):Inv X hV σ H' s':=by
 obtain⟨σ',J⟩:=h;exact I.call' (ch:=fp) J.os J.base J.hok J.bare λ b hb=>⟨(hfp b hb).2.2.2.1,(hfp b hb).2.1,(hfp b hb).2.2.2.2.1,(hfp b hb).2.2.2.2.2⟩
def aJ5(B:gj X scope N st ks)(hc:X.calm=true)(hi:PI X tg iter wi)(hg:∀C fp z5 z4,PG (X.block scope C N fp z5 z4) tg g)(hgo:uW g ks)(ht:∀C fp z5 z4,aCb (X.block scope C N fp z5 z4) ifs tt)
  (he:∀C fp z5 z4,PE (X.block scope C N fp z5 z4) elt te)(hs:∀x,zB8 iter X.env x=pure x:=by intro _;rfl):PE X (.ListComp elt [⟨tg,iter,ifs,0⟩] scope pos) (tLC wi st g tt te):=by
 intro hV s σ H Q I h;have hcl:zG3 scope X.env=pure (bU scope X.env):=m9 λ y hy hk=>I.ok.has _ (B.free y hy hk)
 rw[eval_ListComp];refine zG4 (use:=none) rfl hs hcl B.kind B.loc (thn (hi hV s σ H _ I h) λ v s1 h1=>thn h1 λ itv s2 h2=>?_);obtain⟨it,fp,tn,J,H2,e,I2,T,st2,f2,hq⟩:=h2;subst e;refine zO (RR:=λ acc C=>compPost (model X.prog X.w) X.A X.xe none (EP X hV σ Q) acc C) B hc hg hgo ht he I2 T st2 f2 hq ?_;intro D C H' s' hJ kX q;have I3:=aBq I2 f2 hJ;obtain⟨σ',J'⟩:=hJ;obtain⟨m,hn,_⟩:=id J'.loc;have hHC:H' C=none:=J'.free;refine⟨m,hn,λ h'' hs''=>⟨.ref D,H',?_,rfl,q⟩⟩;exact I3.turned (t':=s'.toks) (λ b o ne e=>(hs''.2 b ne).trans e) hHC (zDo (zA3 I2.lt kX)) (.inr (zAc I2.sz kX))
  (λ x c e z=>by obtain⟨v,ic⟩:=I2.cell x c e;exact absurd (zA3 ic.lt (by rw[z];exact kX)) (zBg _))
  (λ p hp z=>absurd (zA3 (I2.pinL hp) (by rw[z];exact kX)) (zBg _))
def yx(hN:X.N.Nodup)(hx1:X.N[i]? =some x)(hx2:Loc X.env.scope x)(B:gj X scope N st ks)(hc:X.calm=true)(hi:PI X tg iter wi)(hg:∀C fp z5 z4,PG (X.block scope C N fp z5 z4) tg g)(hgo:uW g ks)
  (ht:∀C fp z5 z4,aCb (X.block scope C N fp z5 z4) ifs tt)(he:∀C fp z5 z4,PE (X.block scope C N fp z5 z4) elt te)(hsw:zBm (.ListComp elt [⟨tg,iter,ifs,0⟩] scope pos) (some (.Name x pos')) spos.line X.env=pure true)
  (hs:∀x,zB8 iter X.env x=pure x:=by intro _;rfl)(hf:X.fn x=true\/X.env.scope.names.lookup x=some .local:=by first|exact .inl rfl|exact .inr rfl|assumption):
  PS X (.Assign [.Name x pos'] (.ListComp elt [⟨tg,iter,ifs,0⟩] scope pos) spos) (aCn (tLC wi st g tt te) (qR i)):=by
 intro hV s σ H D I h;have hcl:zG3 scope X.env=pure (bU scope X.env):=m9 λ y hy hk=>I.ok.has _ (B.free y hy hk)
 rw[exec_Assign_Name_used _ _ _ _ hsw];refine zAR (wpAny_standAt (zAR ?_));show wpAny _ _ (do let _ <-comprehension (.ListComp elt [⟨tg,iter,ifs,0⟩] scope pos) scope X.env _ (zFS []) false (eval iter X.env) (some (zFb (.Name x pos') X.env))) _ _ s;refine zAR (zBz (zG4 (use:=some (zFb (.Name x pos') X.env)) (Q:=λ _ s'=>SP X hV D .next s') rfl hs hcl B.kind B.loc (thn (hi hV s σ H _ I h) λ v s1 h1=>thn h1 λ itv s2 h2=>?_)) (λ _ s' hq=>zA7 (zA7 hq)) λ _ _ e=>e);obtain⟨it,fp,tn,J,H2,e,I2,T,st2,f2,hq⟩:=h2;subst e;refine zO (Q:=λ x H1=>qR i x σ H1 D.nx) (RR:=λ acc C=>compPost (model X.prog X.w) X.A X.xe (some (zFb (.Name x pos') X.env)) (λ _ s'=>SP X hV D .next s') acc C) B hc hg hgo ht he I2 T st2 f2 hq ?_;intro DD C H' s' hJ kX q;have I3:=aBq I2 f2 hJ;obtain⟨σ',J'⟩:=hJ;obtain⟨m,hn,_⟩:=id J'.loc;have hHC:H' C=none:=J'.free;have neL:C≠X.env.locals:=zDo (zA3 I2.lt kX);have neC:∀x c,X.env.cells.lookup x=some c->c≠C:=λ x c e z=>by obtain⟨v,ic⟩:=I2.cell x c e;exact absurd (zA3 ic.lt (by rw[z];exact kX)) (zBg _)
 show wpAny _ _ (zFb (.Name x pos') X.env (.ref DD)) _ _ _;refine zHf ?_;refine vC I3 hN hx1 hx2 (show RelV (.ref DD) (.ref DD)from rfl) (λ s4 I4 ⟨a,hsa,ha⟩=>?_) hf;have nea:C≠a:=by
  rcases ha with z|z
  .rw[z];exact neL
  .exact zCz (neC _ _ z)
 refine⟨m,hn.sameBut hsa nea,λ h'' hs''=>⟨_,H',?_,q⟩⟩;exact I4.turned (t':=s4.toks) (λ b o ne e=>(hs''.2 b ne).trans e) hHC neL (.inr (zAc I2.sz kX)) neC
  (λ p hp z=>absurd (zA3 (I2.pinL hp) (by rw[z];exact kX)) (zBg _))
end
def CX1(P:zAZ)(w:World):CXT:=λ outer H s E e s'=>∃(ea:Addr) (cls a0:Value) (B:Heap) (H':Hp),e= .ref ea/\s'.os=s.os/\zEM s'.gens/\Un (frs outer) [] H H' s.heap s'.heap/\HOk P w H' B/\Heap.FlyingW B outer ea cls a0 s'.heap/\
 (∀b o,s.heap.get? b=some o->H b=none->b∉frs outer->B.get? b=some o)/\(∀b o,s.heap.get? b=some o->b∉frs outer->∃o',B.get? b=some o')/\E cls none H'
structure ig(X:Cx)(E:XK):Prop where
 stk:X.stack=X.env::X.outer
 fr:X.env.frame=some X.env.locals
 ex:X.ex=[]
 xe:X.xe=λ e s'=>wpAny (model X.prog X.w) X.A (leaving X.env e) (λ _ s''=>CX1 X.prog X.w X.outer X.z4 X.z5 E e s'') (λ e' s''=>CX1 X.prog X.w X.outer X.z4 X.z5 E e' s'') s'
def ig.of{K:zAA}:
  ig (zf (CX1 P w) P w K mg base N qual scope f cd A outer z5 z4 E) E:=⟨rfl,rfl,rfl,rfl⟩
section
variable{X:Cx}{E:XK}
def aEZ{B h':Heap}(hX:X.ex=[])(I:Inv X hV σ H s)
  (a1:∀b o,s.heap.get? b=some o->H b=none->b∉frs X.stack->B.get? b=some o)(a2:∀b o,s.heap.get? b=some o->b∉frs X.stack->∃o',B.get? b=some o')
  (a3:B.StaysIn h')(a4:∀b o,b∈frs X.outer->s.heap.get? b=some o->H b=none->(∀vs,o.data≠.fields vs)->∃sl,h'.get? b=some {o with slots:=sl})
  (a5:∀b o,s.heap.get? b=some o->H b=none->H' b=none)(a6:∀b xs,H b=some (.tup xs)->H' b=some (.tup xs))(a7:∀b o u,H b=some (.frz o u)->H' b=some (.frz o u))(a8:∀b ps,H b=some (.tbl ps)->∃more,H' b=some (.tbl (ps++more))):
  Un (frs X.outer) [] X.z4 H' X.z5.heap h'/\(∀b o,X.z5.heap.get? b=some o->X.z4 b=none->b∉frs X.outer->B.get? b=some o)/\(∀b o,X.z5.heap.get? b=some o->b∉frs X.outer->∃o',B.get? b=some o'):=by
 have nx:∀b,b∉X.ex:=λ b z=>by rw[hX]at z;cases z
 have noS:∀b o,X.z5.heap.get? b=some o->b∉frs X.outer->b∉frs X.stack:=λ b o e nf hb=>by
  rcases zAX.mp (I.stkSub b hb)with z|z
  .exact absurd z (zAn (zA3 (zA4 e) I.ok.above))
  .exact nf z
 have bk:∀b o,X.z5.heap.get? b=some o->X.z4 b=none->b∉frs X.outer->B.get? b=some o:=λ b o e n nf=>
  a1 b o (I.base.keep b o e n nf (nx b)) (I.base.free b o e n (nx b)) (noS b o e nf)
 have ba:∀b o,X.z5.heap.get? b=some o->b∉frs X.outer->∃o',B.get? b=some o':=λ b o e nf=>by
  obtain⟨o1,e1⟩:=I.base.there b o e (nx b);exact a2 b o1 e1 (noS b o e nf)
 have sl:∀b o,X.z5.heap.get? b=some o->X.z4 b=none->b∈frs X.outer->∃sl,h'.get? b=some {o with slots:=sl}:=λ b o e n hb=>by
  obtain⟨sl1,e1⟩:=I.base.slot b o e n hb (nx b);obtain⟨_,o2,ho2,hnf⟩:=I.ok.funs.mem hb;rw[e]at ho2;cases ho2;obtain⟨sl2,e2⟩:=a4 b _ hb e1 (I.base.free b o e n (nx b)) hnf;exact⟨sl2,e2⟩
 refine⟨⟨λ b o e n nf _=>a3 b o (bk b o e n nf),λ b o e n hb _=>sl b o e n hb,λ b o e n _=>?_,λ b o e _=>?_,λ b xs e=>a6 b xs (I.base.tups b xs e),λ b o u e=>a7 b o u (I.base.frzs b o u e),λ b ps e=>?_⟩,bk,ba⟩
 .obtain⟨o1,e1⟩:=I.base.there b o e (nx b)
  exact a5 b o1 e1 (I.base.free b o e n (nx b))
 .by_cases hb:b∈frs X.outer
  .obtain⟨s2,e2⟩:=sl b o e (I.ok.frf b hb) hb
   exact⟨_,e2⟩
  .obtain⟨o',e'⟩:=ba b o e hb
   exact⟨o',a3 b o' e'⟩
 .obtain⟨m1,e1⟩:=I.base.tbls b ps e
  obtain⟨m2,e2⟩:=a8 b _ e1;exact⟨m1++m2,by rw[e2,zGX]⟩
def ig.pass(D:ig X E):yH (CX1 X.prog X.w) X E:=by
 intro hV σ H s e s' I h;obtain⟨ea,cls,a0,B,H',rfl,os,bare,un,hok,fly,bk,ba,hE⟩:=h;rw[D.xe];have fly':=fly;rw[D.stk]at fly';have hfr:=I.ok.frames;rw[D.stk]at hfr;refine wpAny_leaves_onW (L:=X.env.locals) hfr D.fr fly' λ h' fl up=>?_
 have a4:∀b o,b∈frs X.outer->s.heap.get? b=some o->H b=none->(∀vs,o.data≠.fields vs)->∃sl,h'.get? b=some {o with slots:=sl}:=λ b o hb e n nf=>by
  have hb':b∈frs X.stack:=by
   rw[D.stk];unfold frs;rw[zBu,D.fr];exact zAG _ hb
  obtain⟨s1,e1⟩:=un.slot b o e n hb' (λ z=>nomatch z);obtain⟨s2,e2⟩:=up b _ e1 nf;exact⟨s2,e2⟩
 obtain⟨u1,u2,u3⟩:=aEZ (B:=B) (h':=h') (H':=H') D.ex I bk ba fl.1 a4 (λ b o e n=>un.free b o e n (λ z=>nomatch z)) un.tups un.frzs un.tbls;exact⟨ea,cls,a0,B,H',rfl,os.trans I.os,bare,u1,hok,fl,u2,u3,hE⟩
def ig.raise(D:ig X E){ea:Addr}(I:Inv X hV σ H s)
  (hx:Heap.MadeExcOf s.heap h1 ea cls vs)(hE:E cls none H):X.xe (.ref ea) {s with heap:=h1}:=by
 rw[D.xe];have stk:s.heap.FunFrames X.base X.stack:=I.stack;have hin:∀env∈X.stack,∀a,env.frame=some a->a∈frs X.stack:=λ env he a ha=>zCC.mpr ⟨env,he,ha⟩
 have stk2:=PySem.W.funFrames_hide stk hin;have hfr:=I.ok.frames;rw[D.stk]at hfr;have stk3:s.heap.FunFrames (zCm s.heap (frs X.stack)) (X.env::X.outer):=by rw[<-D.stk];exact stk2
 refine wpAny_leaves_madeW (L:=X.env.locals) (base:=zCm s.heap (frs X.stack)) hfr D.fr (λ b o q=>zGO _ q) stk3 hx λ h' t fl tup bn up=>?_
 have hok:HOk X.prog X.w H (zCm s.heap (frs X.stack)):=λ a o e=>by
  refine(I.hok a o e).stay (λ b u hb q=>zCn _ q λ hm=>?_) (λ _ z=>z) λ _ _ z=>z
  have hn:=I.stkFree b hm;rcases hb with z|z
  .rw[z,e]at hn;cases hn
  .rw[z]at hn;cases hn
 obtain⟨u1,u2,u3⟩:=aEZ (B:=zCm s.heap (frs X.stack)) (h':=h') (H':=H) D.ex I (λ b o e n nf=>zCn _ e nf) (λ b o e nf=>⟨o,zCn _ e nf⟩) fl.1
  (λ b o hb e n nf=>up b o (hx.keeps b o e) nf) (λ b o e n=>n) (λ _ _ e=>e) (λ _ _ _ e=>e) (λ b ps e=>⟨#[],by rw[e];simp⟩)
 exact⟨ea,cls,.ref t,_,H,rfl,I.os,I.bare,u1,hok,fl,u2,u3,hE⟩
def ig.own(D:ig X E):zHB (model X.prog X.w) X.A X.env X.xe:=λ e s' h=>by
 rw[D.xe]at h ⊢;exact wpAny_leaving_again (SameStack.refl _) h
end
section
variable{P:zAZ}{w:World}{K:zAA}{mg:Str->Option Value}{base:Heap}
def Fun.okX{st:Stmt}(F:Fun K x q st f fd)(S:aY N ps (aO st))(len:∀vs H Q E,sp vs H Q E->vs.length=ps.length)
  (hbody:∀(cdv:Value) (A:zAd) (outer:List Env) (s:zAF) (H:Hp) (vs:List V) (Q:VK) (E:XK),iw k (A.deeper (zDt q (aO st) s.heap.objs.size f cdv))->sp vs H Q E->
   ∃t,PSs (zf (CX1 P w) P w K mg base N q (aO st) f cdv A outer s H E) (gO st) t/\t {nx:=λ _ H'=>Q .non H',rt:=Q} (start N vs) H):cB P w K mg base (CX1 P w) (k+1) f fd ps sp:=by
 obtain⟨oc,od,kV,doc,pm,an,cdv,ct,osl,rfl,lk,hcd⟩:=F.ex;exact aKC lk hcd S len λ A outer s H vs Q E hr hsp=>hbody cdv A outer s H vs Q E hr hsp
end
def nu(K:zAA)(C:Addr):Prop:=zHD K C [.type "ValueError",.type "Exception",.type "BaseException",.type "object"] "ValueError.__new__"=true
def w6{K:zAA}(X:K.In h)(hm:mg x=some (.ref C))(q:nu K C):OwnCls x C [.type "ValueError",.type "Exception",.type "BaseException",.type "object"] "ValueError.__new__" mg h:=by
 refine⟨hm,?_⟩;unfold nu zHD at q;split at q
 .rename_i dd cd sl ho
  split at q
  .rename_i C' bm k0 k1 k2 k3 n k5 hm' hs
   simp only[zAP,beq_iff_eq,zBM]at q;obtain⟨⟨⟨⟨⟨rfl,rfl⟩,hdel⟩,ht⟩,hok⟩,hni⟩:=q;obtain⟨nm,bs,mro,ns,qn,hd,sn,sub,ab,col,del⟩:=cd;dsimp only at hm' hdel hok hni;subst hm' hdel;have hsl:sl=#[k0,k1,k2,k3,some (.builtin "ValueError.__new__"),k5]:=by
    obtain⟨l⟩:=sl;simp only at hs;rw[hs]
   subst hsl;exact⟨bm,ns,nm,qn,bs,hd,sn,sub,ab,col,dd,k0,k1,k2,k3,k5,_,X _ _ ho,.of_isNs (PySem.W.isNs_of_in X hok),PySem.W.nsMap_none_of_in X hok hni,PySem.W.tail_of_in X ht⟩
  .cases q
 .cases q
def aH1(C:Addr)(E:XK)(ta:TA):TS:=λ _ σ H=>ta σ H λ vs H1=>vs.length<=zAO/\E (.ref C) none H1
section
variable{X:Cx}{E:XK}
def aD1(D:ig X E)(hc:X.calm=true){rest:List Expr}(hm:X.mg x=some (.ref C))(hC:nu X.K C)(hg:Gl X x)
  (ha:PA X (zC::rest) ta)(he:zAY (zC::rest) X.env=(false,eval zC X.env)::zAY rest X.env:=by rfl)
  (hplain:(zBx cpos (zAY rest X.env)).any (·.1)=false:=by rfl)(hd:Nd x:=by decide):
  PS X (.Raise (some (.Call (.Name x np) (zC::rest) [] cpos)) none pos) (aH1 C E ta):=by
 intro hV s σ H DD I h;obtain⟨tl,NN,nm,q,bs,hdct,sn,sub,ab,col,dd,k0,k1,k2,k3,k5,mN,hCo,hN,hni,T⟩:=(w6 (h:=X.base) I.mod.kin hm hC).obj;have FB:=PySem.F.excBase_ValueError;refine wpAny_Raise_call_subU (C:=C) (nm:=nm) (q:=q) (N:=NN) (bs:=bs) (bm:=tl) (hdct:=hdct) (sn:=sn) (sub:=sub) (ab:=ab) (col:=col) (dd:=dd) (k0:=k0) (k1:=k1) (k2:=k2) (k3:=k3) (k5:=k5)
  FB FB.hasB FB (mN:=mN) (T.hasType FB.hasBase) (I.ok.hd hc) (by rw[he];show(false||(zBx cpos (zAY rest X.env)).any (·.1))=false;rw[hplain];rfl) hni
  (xJ I hg hm ⟨rfl,?_⟩ hd)
 have harg:=ha cpos hV s σ H _ I h;rw[he]at harg ⊢;refine zGF (zBz harg (λ vs zS h₂=>?_) λ _ _ y=>y);obtain⟨xs,H2,I2,rv,hz,hE⟩:=h₂;refine⟨rfl,by show vs.length<=zAO;rw[<-rv.length];exact hz,I2.bk _ _ hCo,hN.keeps I2.bk,T.keeps I2.bk,λ h' ea hx=>D.raise I2 hx hE⟩
end
section
variable{κ:Type}[DecidableEq κ]
def aAG(kvs:List (κ×V))(k:κ):Option V:=(kvs.find? λ kv=>decide (kv.1=k)).map (·.2)
def putK(kvs:List (κ×V))(k:κ)(v:V):List (κ×V):=
 if (kvs.any λ kv=>decide (kv.1=k))=true then kvs.map (λ kv=>if kv.1=k then(kv.1,v)else kv)else kvs++[(k,v)]
def yL{p:κ×V}{r:List (κ×V)}{k:κ}(e:p.1=k):aAG (p::r) k=some p.2:=by simp[aAG,zDb,e]
def yM{p:κ×V}{r:List (κ×V)}{k:κ}(e:¬p.1=k):aAG (p::r) k=aAG r k:=by simp[aAG,zDb,e]
theorem yN(k:κ):∀kvs:List (κ×V),(kvs.any λ kv=>decide (kv.1=k))=(aAG kvs k).isSome
 |[]=>rfl
 |p::r=>by
  rw[zC2];by_cases e:p.1=k
  .simp only[yL e,decide_eq_true e,Bool.true_or,zGR]
  .rw[yM e,decide_eq_false e,Bool.false_or];exact yN k r
def qO(kvs:List (κ×V))(k:κ)(v:V):(putK kvs k v).length<=kvs.length+1:=by
 unfold putK;split
 .rw[zAB];omega
 .rw[zAV,zA2,zB4];omega
def yF.isSome_eq{o:Option V}{u:Option Value}(r:yF o u):o.isSome=u.isSome:=by
 cases o with
 |none=>cases u with
  |none=>rfl
  |some _=>exact(show False from r).elim
 |some _=>cases u with
  |none=>exact(show False from r).elim
  |some _=>rfl
theorem KV.any{kvs:List (κ×V)}{vs:List (κ×Value)}(r:KV kvs vs)(k:κ):(kvs.any λ kv=>decide (kv.1=k))=vs.any λ kv=>decide (kv.1=k):=by
 unfold KV at r;induction r with
 |nil=>rfl
 |cons h t ih=>rw[zC2,zC2,ih,h.1]
def KV.repl{kvs:List (κ×V)}{vs:List (κ×Value)}(r:KV kvs vs)(k:κ){y:V}{u:Value}(ry:RelV y u):
  KV (kvs.map λ kv=>if kv.1=k then(kv.1,y)else kv) (vs.map λ kv=>if kv.1=k then(kv.1,u)else kv):=by
 unfold KV at r ⊢;induction r with
 |nil=>exact .nil
 |@cons p q ps qs h t ih=>
  rw[zAH,zAH];refine .cons ?_ ih;obtain⟨h1,h2⟩:=h;by_cases e:p.1=k
  .rw[if_pos e,if_pos (h1.symm.trans e)];exact⟨h1,ry⟩
  .rw[if_neg e,if_neg (λ z=>e (h1.trans z))];exact⟨h1,h2⟩
def KV.put{kvs:List (κ×V)}{vs:List (κ×Value)}(r:KV kvs vs)(k:κ){y:V}{u:Value}(ry:RelV y u):KV (putK kvs k y) (stored vs k u):=by
 unfold putK stored;rw[r.any k];by_cases e:(vs.any λ kv=>decide (kv.1=k))=true
 .rw[if_pos e,if_pos e];exact r.repl k ry
 .rw[if_neg e,if_neg e];exact zH1 r ⟨rfl,ry⟩
theorem KV.length{kvs:List (κ×V)}{vs:List (κ×Value)}(r:KV kvs vs):kvs.length=vs.length:=zEK r
end
def aHO{P:zAZ}{w:World}{k:Key}{u:Value}(r:RelV (kV k) u):(cF P w).is k u=true:=by
 cases k with
 |inl i=>obtain⟨t,e⟩:=(show∃t,u=zDI i t from r);subst e;exact zL P w i t
 |inr x=>obtain⟨t,e⟩:=(show∃t,u=zFt x t from r);subst e;exact zK P w x t
theorem vR{P:zAZ}{w:World}:∀{ks:List Key} {us:List Value},Vals (ks.map kV) us->ItemsAre (cF P w) ks us
 |[],_,r=>by rw[zCG]at r;cases r;exact .nil
 |k::ks,_,r=>by
  rw[zAH]at r;cases r with
  |cons h t=>exact .cons (aHO h) (vR t)
abbrev KT(H:Hp):List (List Key×V)->List (List Key×Addr×Value)->Prop:=zHA λ p q=>p.1=q.1/\H q.2.1=some (.tup (p.1.map kV))/\RelV p.2 q.2.2
def KT.val{H:Hp}{kvs:List (List Key×V)}{xs:List (List Key×Addr×Value)}(r:KT H kvs xs)(k:List Key):yF (aAG kvs k) ((atKey xs k).map (·.2)):=by
 induction r with
 |nil=>exact zCX
 |@cons p q ps qs h t ih=>
  obtain⟨h1,_,h2⟩:=h;by_cases e:p.1=k
  .have e':q.1=k:=h1.symm.trans e
   have b:atKey (q::qs) k=some q.2:=by simp[atKey,zDb,e']
   rw[yL e,b];exact h2
  .have e':¬q.1=k:=λ z=>e (h1.trans z)
   have b:atKey (q::qs) k=atKey qs k:=by simp[atKey,zDb,e']
   rw[yM e,b];exact ih
def KT.repl{H:Hp}{kvs:List (List Key×V)}{xs:List (List Key×Addr×Value)}(r:KT H kvs xs)(k:List Key){y:V}{u:Value}(ry:RelV y u):
  KT H (kvs.map λ kv=>if kv.1=k then(kv.1,y)else kv) (xs.map (putAt k u)):=by
 induction r with
 |nil=>exact .nil
 |@cons p q ps qs h t ih=>
  rw[zAH,zAH];refine .cons ?_ ih;obtain⟨h1,h2,h3⟩:=h;unfold putAt;by_cases e:p.1=k
  .rw[if_pos e,if_pos (h1.symm.trans e)];exact⟨h1,h2,ry⟩
  .rw[if_neg e,if_neg (λ z=>e (h1.trans z))];exact⟨h1,h2,h3⟩
def KT.put{H:Hp}{kvs:List (List Key×V)}{xs:List (List Key×Addr×Value)}(r:KT H kvs xs)(k:List Key){b:Addr}{y:V}{u:Value}(hb:H b=some (.tup (k.map kV)))(ry:RelV y u):
  KT H (putK kvs k y) (storedH xs k b u):=by
 have e:(kvs.any λ kv=>decide (kv.1=k))=(atKey xs k).isSome:=by
  rw[yN,(r.val k).isSome_eq,Option.isSome_map]
 unfold putK storedH;rw[e];by_cases q:(atKey xs k).isSome=true
 .rw[if_pos q,if_pos q];exact r.repl k ry
 .rw[if_neg q,if_neg q];exact zH1 r ⟨rfl,hb,ry⟩
def KT.keeps{H H':Hp}{kvs:List (List Key×V)}{xs:List (List Key×Addr×Value)}(r:KT H kvs xs)(ht:∀b ys,H b=some (.tup ys)->H' b=some (.tup ys)):KT H' kvs xs:=
 Paired.mapP r λ _ _ z=>⟨z.1,ht _ _ z.2.1,z.2.2⟩
section
variable{P:zAZ}{w:World}{H:Hp}{h:Heap}{a:Addr}
def aGw{u:HO}(ok:HOk P w H h)(e:Rd H a u):cO P w H h a u:=e.ok ok
def aKF{kvs:List (Key×V)}(ok:HOk P w H h)(e:Rd H a (.dK kvs)):kvs.length<=zAO/\(a==zC6)=false/\∃vs,KV kvs vs/\h.DictOf (cF P w) a vs:=
 show cO P w H h a (.dK kvs)from aGw ok e
def aHR{kvs:List (Key×V)}(ok:HOk P w H h)(e:H a=some (.dK kvs)):kvs.length<=zAO/\(a==zC6)=false/\∃vs,KV kvs vs/\h.DictOf (cF P w) a vs:=aKF ok (.inl e)
def aEC{ks:List Key}(ok:HOk P w H h)(e:H a=some (.tup (ks.map kV))):(zGA (cF P w)).is h ks a:=by
 obtain⟨_,its,r,o,h1,h2,n,h3⟩:=(show cO P w H h a (.tup (ks.map kV))from ok a _ e);exact⟨o,its.toArray,n,h1,h2,h3,by simpa using vR r⟩
def aKD{kvs:List (List Key×V)}(ok:HOk P w H h)(e:Rd H a (.dT kvs)):kvs.length<=zAO/\(a==zC6)=false/\
  ∃xs,KT H kvs xs/\h.DictOfH (zGA (cF P w)) a xs:=by
 obtain⟨z,y,xs,r,o,es,ep,h1,h2,h3,h4,h5⟩:=(show cO P w H h a (.dT kvs)from aGw ok e);refine⟨z,y,xs,r,o,es,ep,h1,h2,h3,h4,λ x hx=>?_,h5⟩;have all:∀{l:List (List Key×V)} {m:List (List Key×Addr×Value)},KT H l m->∀x∈m,(zGA (cF P w)).is h x.1 x.2.1:=by
  intro l m q;induction q with
  |nil=>intro x hx;exact nomatch hx
  |@cons p q ps qs hq t ih=>
   intro x hx;rcases zAX.mp hx with e|hx
   .subst e
    exact aEC ok (by rw[<-hq.1];exact hq.2.1)
   .exact ih x hx
 exact all r x hx
def aKE{kvs:List (List Key×V)}(ok:HOk P w H h)(e:H a=some (.dT kvs)):kvs.length<=zAO/\(a==zC6)=false/\
  ∃xs,KT H kvs xs/\h.DictOfH (zGA (cF P w)) a xs:=aKD ok (.inl e)
end
def aEn(H:Hp)(a:Addr)(y v:V)(H':Hp):Prop:=
 (∃kvs k,H a=some (.dK kvs)/\y=kV k/\kvs.length<zAO/\H'=upd H a (.dK (putK kvs k v)))\/
 ∃kvs k b,H a=some (.dT kvs)/\y= .ref b/\H b=some (.tup (k.map kV))/\kvs.length<zAO/\H'=upd H a (.dT (putK kvs k v))
theorem aEn.k{H:Hp}{a:Addr}{kvs:List (Key×V)}{k:Key}{v:V}(e:H a=some (.dK kvs))(hl:kvs.length<zAO):aEn H a (kV k) v (upd H a (.dK (putK kvs k v))):=.inl ⟨kvs,k,e,rfl,hl,rfl⟩
section
variable{X:Cx}{hV:hZ}{σ:St}{H:Hp}{s:zAF}{a:Addr}{y v:V}{u r:Value}{A:zAd}{E:Value->zAF->Prop}
def aBo{h':Heap}{t':Nat}{ob:HO}(I:Inv X hV σ H s)(mu:Mut (H a))(hs:zGH a s.heap h')(he:∃q,h'.get? a=some q)(new:cO X.prog X.w (upd H a ob) h' a ob):
  Inv X hV σ (upd H a ob) {s with heap:=h',toks:=t'}:=
 I.write (x:=a) (e:=a) mu (.inl rfl) (λ b q hb z=>(hs.2 b hb).trans z) he new
def aIu{P:zAZ}{w:World}{H':Hp}{h':Heap}{kvs:List (Key×V)}{vs:List (Key×Value)}(z:kvs.length<=zAO)(hd:(a==zC6)=false)(rel:KV kvs vs)(dd:h'.DictOf (cF P w) a vs):
  cO P w H' h' a (.dK kvs):=⟨z,hd,vs,rel,dd⟩
def aC0{H':Hp}{Q:Unit->zAF->Prop}(hu:A.units+1<cLine)(I:Inv X hV σ H s)(g:aEn H a y v H')(ry:RelV y u)(rv:RelV v r)(h:∀s',Inv X hV σ H' s'->Q () s'):
  wpAny (model X.prog X.w) A (setItem (.ref a) u r) Q E s:=by
 rcases g with ⟨kvs,k,e,ey,l,eH⟩|⟨kvs,k,b,e,ey,eb,l,eH⟩
 .subst ey eH
  obtain⟨z,hd,vs,rel,dd⟩:=aHR I.hok e;have hz:vs.length<=zAO:=by rw[<-rel.length];exact z
  have hl:(putK kvs k v).length<=zAO:=by have:=qO kvs k v;omega
  refine wpAny_setItem_pairs (hsz:=hz) (aHO ry) dd λ h' dd' hs=>h _ ?_
  have he:∃q,h'.get? a=some q:=let⟨q,_,_,hq,_⟩:=dd';⟨q,hq⟩
  exact aBo I (by rw[e];exact zCX) hs he (aIu hl hd (rel.put k rv) dd')
 .subst ey eH
  cases (show u=zBS b from ry);obtain⟨z,hd,xs,rel,dd⟩:=aKE I.hok e;have hz:xs.length<=zAO:=by rw[<-zEK rel];exact z
  have hl:(putK kvs k v).length<=zAO:=by have:=qO kvs k v;omega
  refine wpAny_setItem_heap (hsz:=hz) (tupleKind_room_in1 hu) (aEC I.hok eb) dd λ h' dd' hs=>h _ ?_
  obtain⟨q,es,ep,hq,h2,h3,h4,_,h5⟩:=dd';refine aBo I (by rw[e];exact zCX) hs ⟨q,hq⟩ ⟨hl,hd,_,(rel.put k eb rv).keeps λ c ys ec=>?_,q,es,ep,hq,h2,h3,h4,h5⟩;rw[bJ (aJe ec e (λ z=>nomatch z))];exact ec
end
def aGu(td ty tv:TE):TS:=λ D σ H=>tv σ H λ v H1=>td σ H1 λ x H2=>ty σ H2 λ y H3=>∃a H4,x= .ref a/\aEn H3 a y v H4/\D.nx σ H4
section
variable{X:Cx}{o i value:Expr}{pos pos':Pos}{td ty tv:TE}
def aFW(hu:X.A.units+1<cLine)(ho:PE X o td)(hi:PE X i ty)(hv:PE X value tv)(hs:zBm value (some (.Subscript o i pos')) pos.line X.env=pure false):
  PS X (.Assign [.Subscript o i pos'] value pos) (aGu td ty tv):=by
 intro hV s σ H D I h;refine wpAny_Assign_Subscript (thn (hv hV s σ H _ I h) λ r s1 ⟨v,H1,I1,rv,q1⟩=>thn (ho hV s1 σ H1 _ I1 q1) λ u s2 ⟨x,H2,I2,rx,q2⟩=>thn (hi hV s2 σ H2 _ I2 q2) λ iv s3 ⟨y,H3,I3,ry,a,H4,ex,g,q3⟩=>?_) hs;subst ex;obtain rfl:u=zBS a:=rx;exact aC0 hu I3 g ry rv λ s4 I4=>⟨σ,H4,I4,q3⟩
end
end L2
namespace Att
open PySem PySem.W PySem.Calls PyProof.Rows
end Att
namespace L2
open PySem PySem.Spec PyProof.Rows
section
variable{κ:Type}[DecidableEq κ]
end
section
variable{X:Cx}
structure aKM(X:Cx)(P:Addr):Prop where
 ta:∃o,X.ta=[(P,o)]
 ex:P∈X.ex
 tq:X.tq=X.env.qual++"<lambda>"
 code:∃c,X.env.code= .ref c/\PySem.W.CodeHd X.base c P
 blt:X.base.BuiltinsAt X.mg P
 gne:zA8≠P
end
abbrev bmV:List Value:=[.type "ValueError",.type "Exception",.type "BaseException",.type "object"]
section
variable{prog:zAZ}{w:World}{A:zAd}{E:Value->zAF->Prop}{h:Heap}{g:Array zCq}{d:Drawn}{t:Nat}{os:OsState}{a:Addr}{o:Obj}
 {nm q:Str}{C N:Addr}{bs bm:List Value}{hdct:Bool}{sn:List Str}{sub:List Value}{ab:Bool}{col:Option Bool}{dd:Option Addr}{k0 k1 k2 k3 k5:Option Value}{newId:String}{K:zAA}
def zm{R:zFY->zAF->Prop}(hC:h.get? C=some (zFu nm q C N bs bm hdct sn sub ab col dd k0 k1 k2 k3 k5 newId))(T:OwnTail h bmV bm)
  (hx:h.get? a=some o)(hc:o.cls= .ref C)(hq:R (.ok (.ret (.ref C))) ⟨h,g,d,t,os⟩):
  zDK (model prog w) A (.call (.builtin "getset_descriptor.__get__") ⟨[.builtin "object.__class__",.ref a,.ref C],[]⟩) R ⟨h,g,d,t,os⟩:=by
 have hT5:(⟨h,g,d,t,os⟩:zAF).TypeIs (.builtin "object.__class__") "getset_descriptor":=zDx;have hcB:(zBS C::bm).contains (.type (".".intercalate ("object.__class__".cutAt '.').dropLast))=true:=by
  rw[F.owner_object_class,zG6,T.hasType (X:="object") (b:=true) (by decide+kernel)];rfl
 refine zHK zGP.plain F.entry_gs_get (zGP.check _ _ _ _ _ _ _ _ hT5 (F.args_gs_get _ _ _) ?_)
 repeat (any_goals (first|assumption|(with_reducible refine zCp hx ?_;rw[hc])|(with_reducible refine zHV hC ?_;rw[hcB])|wp_step))
 refine⟨Code.quiet_builtin _ (by decide+kernel),zDL F.entry_object_class ?_⟩
 repeat (any_goals (first|assumption|(with_reducible refine zCp hx ?_;rw[hc])|wp_step))
def xZ{M:Model}{nameV:Value}{Q:Unit->zAF->Prop}(hC:h.get? C=some (zFu nm q C N bs bm hdct sn sub ab col dd k0 k1 k2 k3 k5 newId))(T:OwnTail h bmV bm)
  (hx:h.get? a=some o)(hc:o.cls= .ref C)(hq:Q () ⟨h,g,d,t,os⟩):wpAny M A (checkBuiltinCall "BaseException.__getattribute__" ⟨[.ref a,nameV],[]⟩) Q E ⟨h,g,d,t,os⟩:=by
 have hk:builtinKind "BaseException.__getattribute__"=some .slot:=by decide+kernel
 have cE:splitId "BaseException.__getattribute__"=some ("BaseException","__getattribute__"):=by decide+kernel
 have hcB:(zBS C::bm).contains (.type "BaseException")=true:=by rw[zG6,T.hasType (X:="BaseException") (b:=true) (by decide+kernel)];rfl
 have ha:=F.args_bexc_ga (.ref a) nameV;simp only[checkBuiltinCall,hk,cE];refine zAR ?_
 .unfold isInstance
  repeat (first|(with_reducible refine zCp hx ?_;rw[hc])|(with_reducible refine zHV hC ?_;rw[hcB])|wp_step)
  exact hq
def uv{tk:Tok}{Q:Fin->zAF->Prop}(hC:h.get? C=some (zFu nm q C N bs bm hdct sn sub ab col dd k0 k1 k2 k3 k5 newId))(T:OwnTail h bmV bm)(lk:∀M:Model,zEA M h (zEZ (.ref C) "__class__") (some (.builtin "object.__class__")))
  (hx:h.get? a=some o)(hc:o.cls= .ref C)(hq:Q (.done (.ret (.ref C))) ⟨h,g,d,t,os⟩):
  wpAny (model prog w) A (zDj.«object.__getattribute__» ⟨[.ref a,.str "__class__" tk],[]⟩) Q E ⟨h,g,d,t,os⟩:=by
 have hT5:(⟨h,g,d,t,os⟩:zAF).TypeIs (.builtin "object.__class__") "getset_descriptor":=zDx;have f5:=zDx;have f6:=zGP.lookup;have f7:=F.slot_gs_set.lookup
 repeat (any_goals (first|assumption|(with_reducible refine zCp hx ?_;rw[hc])|with_reducible refine(lk _).here ?_|wp_step))
 refine zm hC T hx hc ?_
 repeat (any_goals (first|assumption|wp_step))
def xX{Q:Option Value->zAF->Prop}(hC:h.get? C=some (zFu nm q C N bs bm hdct sn sub ab col dd k0 k1 k2 k3 k5 newId))(T:OwnTail h bmV bm)(lk:∀M:Model,zEA M h (zEZ (.ref C) "__class__") (some (.builtin "object.__class__")))
  (lg:∀M:Model,zEA M h (zEZ (.ref C) "__getattribute__") (some (.builtin "BaseException.__getattribute__")))(ln:∀M:Model,zEA M h (zEZ (.ref C) "__getattr__") none)
  (hx:h.get? a=some o)(hc:o.cls= .ref C)(hq:Q (some (.ref C)) ⟨h,g,d,t+1,os⟩):wpAny (model prog w) A (getAttr? (.ref a) "__class__") Q E ⟨h,g,d,t,os⟩:=by
 have by_exc:∀{E:Value->zAF->Prop} {t:Nat} {tk:Tok} {Q:Value->zAF->Prop},Q (.ref C) ⟨h,g,d,t,os⟩->wpAny (model prog w) A (getAttrBy (.ref a) (.str "__class__" tk) false) Q E ⟨h,g,d,t,os⟩:=by
  intro E t tk Q hq;have FB:=PySem.F.excAttr_ValueError;have f3:=FB.ga.bind (.ref a);have hx0:(false&&onTheHeap (zDT "BaseException.__getattribute__"))=false:=rfl;have hx2:(zDT "BaseException.__getattribute__"==zDT "object.__getattribute__")=false:=by decide+kernel
  have hx1:(onTheHeap (zBS C)&&zDT "BaseException.__getattribute__"==zDT "object.__getattribute__")=false:=by rw[hx2];rfl
  repeat (any_goals (first|assumption|(with_reducible refine zCp hx ?_;rw[hc])|with_reducible refine(lg _).here ?_|with_reducible refine(ln _).here ?_|wp_step))
  refine zHK FB.ga.plain F.entry_bexc_ga (xZ hC T hx hc (uv hC T lk hx hc ?_))
  repeat (any_goals (first|assumption|wp_step))
 unfold getAttr? getAttrBy?
 repeat (any_goals (first|assumption|with_reducible apply by_exc|wp_step))
def aEB(hE:nu K C)(ha:zBO K (.ref C) "__class__"=some (some (.builtin "object.__class__")))(hgt:zBO K (.ref C) "__getattribute__"=some (some (.builtin "BaseException.__getattribute__")))
  (hga:zBO K (.ref C) "__getattr__"=some none):PySem.W.KitX K (.ref a) (.ref C) (λ h=>∃o,h.get? a=some o/\o.cls= .ref C) where
 ty:=λ M h _ ⟨o,h1,h2⟩=>h2▸(zH9 h1).andThen .now
 it:=λ M h X _=>by
  obtain⟨bm,NN,nm,q,bs,hdct,sn,sub,ab,col,dd,k0,k1,k2,k3,k5,mN,hC,_⟩:=(w6 (h:=h) (mg:=λ _=>some (.ref C)) (x:="x") X rfl hE).obj;intro A' Q' E' s' k q;unfold isType loadHead;exact zAR (wpAny_loadPart (k _ _ hC) (zA7 q))
 ne:=λ h tp dd its n sl X htp=>by
  obtain⟨bm,NN,nm,q,bs,hdct,sn,sub,ab,col,dd,k0,k1,k2,k3,k5,mN,hC,_⟩:=(w6 (h:=h) (mg:=λ _=>some (.ref C)) (x:="x") X rfl hE).obj;refine Bool.eq_false_iff.mpr λ z=>?_
  have e:C=tp:=Value.ref.inj (beq_iff_eq.mp z);subst e;rw[hC]at htp;exact absurd (congrArg Obj.cls (zAk htp)) (by show zCV "type"≠zCV "tuple";decide+kernel)
 ca:=λ{prog w A E Q s} X ⟨o,h1,h2⟩ k=>by
  obtain⟨h,g,d,t,os⟩:=s;obtain⟨bm,NN,nm,q,bs,hdct,sn,sub,ab,col,dd,k0,k1,k2,k3,k5,mN,hC,hN,hni,T⟩:=(w6 (h:=h) (mg:=λ _=>some (.ref C)) (x:="x") X rfl hE).obj;exact xX hC T (λ M=>zCc X ha) (λ M=>zCc X hgt) (λ M=>zCc X hga) h1 h2 k
end
def excφ(a C:Addr):Heap->Prop:=λ h=>∃o,h.get? a=some o/\o.cls= .ref C
structure aKk(K:zAA)(C:Addr):Prop where
 ex:nu K C
 ca:zBO K (.ref C) "__class__"=some (some (.builtin "object.__class__"))
 gt:zBO K (.ref C) "__getattribute__"=some (some (.builtin "BaseException.__getattribute__"))
 ga:zBO K (.ref C) "__getattr__"=some none
section
variable{X:Cx}
def aHC(K:zAA):List V->Hp->VK->Prop:=λ xs H Q=>∃a C y c b,xs=[.ref a,y]/\RelV y c/\H a=some (.ext (excφ a C))/\aKk K C/\zCx K (.ref C) c=some b/\Q (.bl b) H
def aC8:cA X (.builtin "isinstance") (aHC X.K):=by
 intro hV s σ H xs us Q I r h;obtain⟨a,C,y,c,b,rfl,ry,ha,kc,e,q⟩:=h;obtain⟨u,w',rfl,r1,r2⟩:=vals2 r;cases r1;have hc:w'=c:=by
  cases y<;>first
   |(cases r2;cases ry;rfl)
   |(obtain⟨t1,rfl⟩:=r2;obtain⟨t2,rfl⟩:=ry;exact absurd e (by simp[zCx,PySem.W.kitCls]))
 subst hc;obtain⟨p,_⟩:excφ a C s.heap/\_:=I.hok a _ ha;exact zAy (aEB kc.ex kc.ca kc.gt kc.ga) I.kIn p e (λ z=>nomatch z) λ tk=>⟨.bl b,H,I.tok tk,rfl,q⟩
end
structure aKL(k:Nat)(A:zAd):Prop where
 dp:A.depth+3*k+5<zGW
 un:A.units+16*k+200<cLine
structure FnH(P:zAZ)(w:World)(K:zAA)(mg:Str->Option Value)(base:Heap)(k:Nat)(f:Addr)(fd:zAf)(ps:List Str)(sp:Sp):Prop where
 len:∀vs H Q E,sp vs H Q E->vs.length=ps.length
 run:∀(A:zAd) (outer:List Env) (s:zAF) (H:Hp) (args:Args) (us:List Value) (vs:List V) (Q:VK) (E:XK),aKL k A->aEm P w K mg base A outer s H->zEx s fd args (ps.zip us)->Vals vs us->sp vs H Q E->
  zDK (model P w) A (.call (.ref f) args) (CR CX0 outer P w H s Q E) s
mutual
def eqD:D->D->Bool
 | .non,.non=>true
 | .bl a,.bl b=>a==b
 | .bl a,.int b=>(if a then 1 else 0)==b
 | .int a,.bl b=>a==(if b then 1 else 0)
 | .int a,.int b=>a==b
 | .str a,.str b=>a==b
 | .tup l,.tup m=>fP l m
 | .lst l,.lst m=>fP l m
 |_,_=>false
def fP:List D->List D->Bool
 |[],[]=>true
 |x::xs,y::ys=>eqD x y&&fP xs ys
 |_,_=>false
end
mutual
def gm:D->Nat
 | .tup l=>bZ l+1
 | .lst l=>bZ l+1
 |_=>0
def bZ:List D->Nat
 |[]=>0
 |d::r=>max (gm d) (bZ r)
end
mutual
def aP:D->Bool
 | .tup l=>aV l
 | .lst l=>aV l
 | .dct=>false
 |_=>true
def aV:List D->Bool
 |[]=>true
 |d::r=>aP d&&aV r
end
mutual
theorem iW:∀d:D,aP d=true->eqD d d=true
 | .non,_=>by simp[eqD]
 | .bl b,_=>by simp[eqD]
 | .int i,_=>by simp[eqD]
 | .str x,_=>by simp[eqD]
 | .tup l,h=>by simp only[eqD];exact fu l (by simpa[aP]using h)
 | .lst l,h=>by simp only[eqD];exact fu l (by simpa[aP]using h)
 | .dct,h=>by simp[aP]at h
theorem fu:∀l:List D,aV l=true->fP l l=true
 |[],_=>by simp[fP]
 |d::r,h=>by
  simp only[aV,zAP]at h;simp only[fP,zAP];exact⟨iW d h.1,fu r h.2⟩
end
mutual
theorem Rep.inj{H:Hp}:∀{x:V} {d e:D},Rep H x d->Rep H x e->d=e
 |_,_,_,.non,h=>by cases h;rfl
 |_,_,_,.bl b,h=>by cases h;rfl
 |_,_,_,.int i,h=>by cases h;rfl
 |_,_,_,.str x,h=>by cases h;rfl
 |_,_,_,.tup ha r,h=>by
  cases h with
  |tup hb r'=>rw[ha]at hb;cases hb;rw[iy.inj r r']
  |lst hb _=>rw[ha]at hb;cases hb
  |dct hb=>rw[ha]at hb;cases hb
 |_,_,_,.lst ha r,h=>by
  cases h with
  |tup hb _=>rw[ha]at hb;cases hb
  |lst hb r'=>rw[ha]at hb;cases hb;rw[iy.inj r r']
  |dct hb=>rw[ha]at hb;cases hb
 |_,_,_,.dct ha,h=>by
  cases h with
  |tup hb _=>rw[ha]at hb;cases hb
  |lst hb _=>rw[ha]at hb;cases hb
  |dct hb=>rfl
theorem iy.inj{H:Hp}:∀{xs:List V} {ds es:List D},iy H xs ds->iy H xs es->ds=es
 |_,_,_,.nil,h=>by cases h;rfl
 |_,_,_,.cons h r,h'=>by
  cases h' with
  |cons k r'=>rw[Rep.inj h k,iy.inj r r']
end
theorem lQ:∀(l m:List D),fP l m=((zAw (min l.length m.length)).all (λ j=>match l[j]?,m[j]? with|some a,some b=>eqD a b|_,_=>true)&&l.length==m.length)
 |[],[]=>by simp[fP]
 |[],y::ys=>by simp[fP]
 |x::xs,[]=>by simp[fP]
 |x::xs,y::ys=>by
  have ih:=lQ xs ys;simp only[fP,ih,zA2,zGz,zFr,zFh,zGJ,zC3,zEF,zDV,zG8,zHO,zDv];congr 1;congr 1;simp
theorem jY:∀{l:List D} {d:D},d∈l->gm d<=bZ l
 |x::r,d,h=>by
  simp only[bZ];rcases zAX.mp h with rfl|h
  .exact zDm _ _
  .exact zAc (jY h) (zD1 _ _)
theorem dw:∀{l:List D} {d:D},d∈l->aV l=true->aP d=true
 |x::r,d,h,n=>by
  simp only[aV,zAP]at n;rcases zAX.mp h with rfl|h
  .exact n.1
  .exact dw h n.2
def cV{ds es:List D}{n m:Nat}(hn:n=ds.length)(hm:m=es.length):((zAw (min n m)).all (λ j=>match ds[j]?,es[j]? with|some a,some b=>eqD a b|_,_=>true)&&n==m)=fP ds es:=by
 subst hn hm;exact(lQ ds es).symm
def mj{P:zAZ}{w:World}{H:Hp}{h:Heap}(hok:HOk P w H h){a:Addr}{xs:List V}(e:H a=some (.tup xs)):∃its:List Value,Vals xs its/\h.IsTuple a its.toArray:=by
 obtain⟨_,its,r,p⟩:=hok a _ e;exact⟨its,r,p⟩
def lH{P:zAZ}{w:World}{H:Hp}{h:Heap}(hok:HOk P w H h){a:Addr}{xs:List V}(e:H a=some (.lst xs)):∃its:List Value,Vals xs its/\h.IsList a its.toArray:=by
 obtain⟨_,its,n,r,p⟩:=hok a _ e;exact⟨its,r,_,p,rfl,n,rfl⟩
section
variable{P:zAZ}{w:World}{H:Hp}{s:zAF}
mutual
theorem xU(hok:HOk P w H s.heap):∀{x y:V} {d e:D} (n:Nat) {A:zAd} {u v:Value},Rep H x d->Rep H y e->RelV x u->RelV y v->gm d<=n->aP d=true->aP e=true->A.units+n<cLine->zBl A s u v (eqD d e)
 |_,_,_,_,n,A,u,v,r1,r2,ru,rv,hd,nd,ne,hu=>by
  have hu0:A.units<cLine:=by omega
  cases r1 with
  |tup h1 q1=>
   rename_i a xs ds;cases ru;obtain⟨its,w1,t1⟩:=mj hok h1;cases r2 with
   |tup h2 q2=>
    rename_i b ys es;cases rv;obtain⟨its2,w2,t2⟩:=mj hok h2;by_cases hab:a=b
    .subst hab
     have e:=Rep.inj (Rep.tup h1 q1) (Rep.tup h2 q2);rw[<-e,iW _ nd];exact zCS _
    .simp only[gm]at hd
     obtain⟨k,rfl⟩:∃k,n=k+1:=⟨n-1,by omega⟩
     have z:=zDs t1 t2 hu0 (zZ hok k q1 q2 w1 w2 (by omega) (by simpa[aP]using nd) (by simpa[aP]using ne) (by show A.units+1+k<cLine;omega));rw[cV (by rw[zAI,<-w1.length,q1.length]) (by rw[zAI,<-w2.length,q2.length])]at z;simp only[eqD];exact zBs hab z
   |lst h2 q2=>
    cases rv;obtain⟨its2,w2,t2⟩:=lH hok h2;simp only[eqD];exact zEv t1 t2 hu0
   |dct h2=>simp[aP]at ne
   |non=>cases rv;simp only[eqD];exact zEw t1 hu0
   |bl b=>cases rv;simp only[eqD];exact zEu b t1 hu0
   |int i=>obtain⟨tk,rfl⟩:=rv;simp only[eqD];exact zFO i tk t1 hu0
   |str i=>obtain⟨tk,rfl⟩:=rv;simp only[eqD];exact zFP i tk t1 hu0
  |lst h1 q1=>
   rename_i a xs ds;cases ru;obtain⟨its,w1,t1⟩:=lH hok h1;cases r2 with
   |lst h2 q2=>
    rename_i b ys es;cases rv;obtain⟨its2,w2,t2⟩:=lH hok h2;by_cases hab:a=b
    .subst hab
     have e:=Rep.inj (Rep.lst h1 q1) (Rep.lst h2 q2);rw[<-e,iW _ nd];exact zCS _
    .simp only[gm]at hd
     obtain⟨k,rfl⟩:∃k,n=k+1:=⟨n-1,by omega⟩
     have l1:its.toArray.size=ds.length:=by rw[zAI,<-w1.length,q1.length]
     have l2:its2.toArray.size=es.length:=by rw[zAI,<-w2.length,q2.length]
     by_cases hl:its.toArray.size=its2.toArray.size
     .have z:=zEL t1 t2 hl hu0 (zZ hok k q1 q2 w1 w2 (by omega) (by simpa[aP]using nd) (by simpa[aP]using ne) (by show A.units+1+k<cLine;omega))
      have z':=cV (ds:=ds) (es:=es) l1 l2;rw[<-hl,zDn,beq_self_eq_true,zDU]at z';rw[z']at z;simp only[eqD];exact zBs hab z
     .have z:=zCv t1 t2 (by simpa using hl) hu0
      have z':=cV (ds:=ds) (es:=es) l1 l2;rw[beq_eq_false_iff_ne.mpr hl,zCR]at z';simp only[eqD];rw[<-z'];exact zBs hab z
   |tup h2 q2=>
    cases rv;obtain⟨its2,w2,t2⟩:=mj hok h2;simp only[eqD];exact zEs t1 t2 hu0
   |dct h2=>simp[aP]at ne
   |non=>cases rv;simp only[eqD];exact zFK t1 hu0
   |bl b=>cases rv;simp only[eqD];exact zFJ b t1 hu0
   |int i=>obtain⟨tk,rfl⟩:=rv;simp only[eqD];exact zF4 i tk t1 hu0
   |str i=>obtain⟨tk,rfl⟩:=rv;simp only[eqD];exact zF5 i tk t1 hu0
  |dct h1=>simp[aP]at nd
  |non=>
   cases ru;cases r2 with
   |tup h2 q2=>cases rv;obtain⟨_,_,t2⟩:=mj hok h2;simp only[eqD];exact zEt t2 hu0
   |lst h2 q2=>cases rv;obtain⟨_,_,t2⟩:=lH hok h2;simp only[eqD];exact zFM t2 hu0
   |dct h2=>simp[aP]at ne
   |non=>cases rv;simp only[eqD];exact zCS _
   |bl b=>cases rv;simp only[eqD];exact zFL b
   |int i=>obtain⟨tk,rfl⟩:=rv;simp only[eqD];exact zF6 i tk
   |str i=>obtain⟨tk,rfl⟩:=rv;simp only[eqD];exact zF7 i tk
  |bl a=>
   cases ru;cases r2 with
   |tup h2 q2=>cases rv;obtain⟨_,_,t2⟩:=mj hok h2;simp only[eqD];exact zEr a t2 hu0
   |lst h2 q2=>cases rv;obtain⟨_,_,t2⟩:=lH hok h2;simp only[eqD];exact zFG a t2 hu0
   |dct h2=>simp[aP]at ne
   |non=>cases rv;simp only[eqD];exact zFH a
   |bl b=>cases rv;simp only[eqD];exact zFF a b
   |int i=>obtain⟨tk,rfl⟩:=rv;simp only[eqD];exact zFZ a i tk
   |str i=>obtain⟨tk,rfl⟩:=rv;simp only[eqD];exact zF0 a i tk
  |int a=>
   obtain⟨tu,rfl⟩:=ru;cases r2 with
   |tup h2 q2=>cases rv;obtain⟨_,_,t2⟩:=mj hok h2;simp only[eqD];exact zFI a tu t2 hu0
   |lst h2 q2=>cases rv;obtain⟨_,_,t2⟩:=lH hok h2;simp only[eqD];exact zF2 a tu t2 hu0
   |dct h2=>simp[aP]at ne
   |non=>cases rv;simp only[eqD];exact zF3 a tu
   |bl b=>cases rv;simp only[eqD];exact zF1 a tu b
   |int i=>obtain⟨tk,rfl⟩:=rv;simp only[eqD];exact zDf a tu i tk
   |str i=>obtain⟨tk,rfl⟩:=rv;simp only[eqD];exact zDg a tu i tk
  |str a=>
   obtain⟨tu,rfl⟩:=ru;cases r2 with
   |tup h2 q2=>cases rv;obtain⟨_,_,t2⟩:=mj hok h2;simp only[eqD];exact zFN a tu t2 hu0
   |lst h2 q2=>cases rv;obtain⟨_,_,t2⟩:=lH hok h2;simp only[eqD];exact zF9 a tu t2 hu0
   |dct h2=>simp[aP]at ne
   |non=>cases rv;simp only[eqD];exact zFa a tu
   |bl b=>cases rv;simp only[eqD];exact zF8 a tu b
   |int i=>obtain⟨tk,rfl⟩:=rv;simp only[eqD];exact zDh a tu i tk
   |str i=>obtain⟨tk,rfl⟩:=rv;simp only[eqD];exact zFf a tu i tk
 termination_by _ _ _ _ n=>(n,0)
theorem zZ(hok:HOk P w H s.heap):∀{xs ys:List V} {ds es:List D} (n:Nat) {A:zAd} {us vs:List Value},iy H xs ds->iy H ys es->Vals xs us->Vals ys vs->bZ ds<=n->aV ds=true->aV es=true->A.units+n<cLine->
  ∀(j:Nat) (h1:j<us.toArray.size) (h2:j<vs.toArray.size),zBl A s us.toArray[j] vs.toArray[j] (match ds[j]?,es[j]? with|some a,some b=>eqD a b|_,_=>true)
 |xs,ys,ds,es,n,A,us,vs,q1,q2,w1,w2,hd,nd,ne,hu,j,h1,h2=>by
  have hj1:j<us.length:=by simpa using h1
  have hj2:j<vs.length:=by simpa using h2
  have hx:j<xs.length:=by rw[w1.length];exact hj1
  have hy:j<ys.length:=by rw[w2.length];exact hj2
  have ex:=zAE hx;have ey:=zAE hy;obtain⟨d,ed,rd⟩:=q1.get ex;obtain⟨e,ee,re⟩:=q2.get ey;obtain⟨u,eu,ru⟩:=w1.get ex;obtain⟨v,ev,rv⟩:=w2.get ey;have e1:us.toArray[j]=u:=by
   rw[zCl];exact zAk ((zAE hj1).symm.trans eu)
  have e2:vs.toArray[j]=v:=by
   rw[zCl];exact zAk ((zAE hj2).symm.trans ev)
  rw[e1,e2,ed,ee];exact xU hok n rd re ru rv (zAc (jY (zA9 ed)) hd) (dw (zA9 ed) nd) (dw (zA9 ee) ne) hu
 termination_by _ _ _ _ n=>(n,1)
end
end
section
def inD(d:D)(es:List D):Bool:=es.any λ e=>eqD e d
end
section
variable{P:zAZ}{w:World}{H:Hp}{s:zAF}
open Classical in
def il(H:Hp)(d:D)(u:Value):Bool:=if h:∃e,∃y,RelV y u/\Rep H y e then eqD (choose h) d else false
def o5{d e:D}{y:V}{u:Value}(r:RelV y u)(h:Rep H y e):il H d u=eqD e d:=by
 have hx:∃e,∃y,RelV y u/\Rep H y e:=⟨e,y,r,h⟩
 unfold il;rw[dif_pos hx];obtain⟨y',r',h'⟩:=zEy hx;have e1:=RelV.inj r r';subst e1;rw[Rep.inj h' h]
theorem jq(hok:HOk P w H s.heap){d:D}{x:V}{v:Value}(rx:Rep H x d)(rv:RelV x v){n:Nat}{A:zAd}(hu:A.units+n<cLine)(nd:aP d=true):∀{xs:List V} {es:List D} {us:List Value},iy H xs es->Vals xs us->bZ es<=n->aV es=true->∀u∈us,zBl A s u v (il H d u)
 |_,_,_,.nil,.nil,_,_,u,hm=>by cases hm
 |_,_,_,.cons h r,.cons k t,hd,ne,u,hm=>by
  simp only[bZ]at hd;simp only[aV,zAP]at ne;rcases zAX.mp hm with z|z
  .subst z
   rw[o5 k h];exact xU hok n h rx k rv (zAc (zDm _ _) hd) ne.1 nd hu
  .exact jq hok rx rv hu nd r t (zAc (zD1 _ _) hd) ne.2 u z
end
section
variable{H:Hp}{d:D}
theorem qg:∀{xs:List V} {es:List D} {us:List Value},iy H xs es->Vals xs us->us.countP (il H d)=es.countP (λ e=>eqD e d)
 |_,_,_,.nil,.nil=>rfl
 |_,_,_,.cons h r,.cons k t=>by rw[zCg,zCg,o5 k h,qg r t]
end
section
variable{X:Cx}
def aB0:V->List V->Hp->VK->Prop:=λ x xs H Q=>∃a y d es,x= .ref a/\xs=[y]/\Rep H (.ref a) (.lst es)/\Rep H y d/\bZ es<=60/\aP d=true/\aV es=true/\Q (.int (es.countP (λ e=>eqD e d):Nat)) H
def aCN(hu:X.A.units+64<cLine):MtR X "list.count" aB0:=by
 intro hV s σ H x xs v us Q I rx rxs h;obtain⟨a,y,d,es,rfl,rfl,ra,rd,hd,nd,ne,q⟩:=h;cases rx;obtain⟨u,rfl,ru⟩:=Vals.one rxs;have hu1:X.A.in1.units+60<cLine:=by show X.A.units+1+60<cLine;omega
 cases ra with
 |lst ha r=>
  obtain⟨its,rv,tl⟩:=lH I.hok ha;obtain⟨⟨cls,dd,data,sl⟩,ho,hc,n,hdd⟩:=id tl;simp only at hc hdd;subst hc hdd;refine zBy zFE ⟨_,ho,rfl⟩ PySem.F.entry_list_count (PySem.F.args_list_count_2 _ _) (SeqAt.list_countAt a its.toArray n dd sl u (il H d))
   ⟨ho,λ w hw=>jq I.hok rd ru hu1 nd r rv hd ne w (by simpa using hw),?_⟩
  rw[show its.toArray.toList=its from rfl,qg r rv];exact⟨.int _,H,I.tok _,⟨_,rfl⟩,q⟩
end
def aKY(K:zAA)(c:V):TE:=tCB (aHC K) (gP (mq 0) (gP (tC c) jz))
section
variable{X:Cx}{n0 n1 n2 odd:Str}{c1 c2:V}{k1 k2 k3 k4:List V}{l1 l2:List Str}{a1 a2:Expr}{as1 as2 e1 e2 e3 e4 w1 w2:List Expr}{kw1 kw2:List zBj}{Q:VK}{H:Hp}{vs:List V}
 {p1 p2 p3 p4 p5 p6 p7 p8 p9 p10 p11 p12 p13 p14 p15 p16 p17 p18 p19 p20 p21 p22 p23 p24 p25 p26 p27 p28 p29 p30 p31 p32 p33 p34 p35 p36 p37 p38 p39 p40:Pos}{q1 q2 q3 q4 q5 q6 q7:Pos}{j1 j2 j3 j4 j5:Nat}{E0:XK}{wd:Addr->Option Str}
end
end L2
namespace VL
open PySem PySem.Spec PyProof.Rows L2
inductive D where
 |non|bl (b:Bool)|int (i:Int)|str (x:Str)|tup (l:List D)|lst (l:List D)|dct (ks vs:List D)|set (l:List Int)|scr (l:List Int)|fn (x:Str)
instance:Inhabited D:=⟨.non⟩
def kD:Key->D
 | .inl i=>.int i
 | .inr x=>.str x
variable{K:zAA}
def lZ(K:zAA)(H:Hp)(a:Addr)(ns:List Int):Prop:=(∃o,H a=some (.frz o (.lst (ns.map V.int))))\/
 ∃(o:Obj) (its:Array Value) (n:Nat),K.lookup a=some o/\o.cls= .type "list"/\o.dict=none/\o.data= .seq its n/\its.size<=zAO/\Vals (ns.map V.int) its.toList
def lZ.sq(h:lZ K H a ns):SqL K H a (ns.map V.int):=by
 rcases h with h|h
 .exact .inl (.inr h)
 .exact .inr h
def hsh(ns:List Int):Int:=reduceHash (zH6 (ns.map hashInt))
def dxO(a:Addr)(es:List (List Int×Addr×V)):HO:=.ext λ h=>es.length<=zAO/\(a==zC6)=false/\∃(xs:List (List Int×Addr×Value)) (o:Obj) (ts:Array DictEntry) (ep:Nat),zHA (λ e x=>e.1=x.1/\e.2.1=x.2.1/\RelV e.2.2 x.2.2) es xs/\
 h.get? a=some o/\o.ExactDict/\o.data= .dict ts ep/\ts.toList=xs.map λ x=>⟨hsh x.1,.ref x.2.1,x.2.2⟩
structure DxK(K:zAA)(H:Hp)(a:Addr)(es:List (List Int×Addr×V)):Prop where
 at_:H a=some (dxO a es)
 ks:∀e∈es,SqT K H e.2.1 (e.1.map V.int)
 nd:(es.map (·.1)).Nodup
mutual
inductive Rp(K:zAA):(Addr->Prop)->Hp->V->D->Prop where
 |non {A:Addr->Prop} {H:Hp}:Rp K A H .non .non
 |bl {A:Addr->Prop} {H:Hp} (b:Bool):Rp K A H (.bl b) (.bl b)
 |int {A:Addr->Prop} {H:Hp} (i:Int):Rp K A H (.int i) (.int i)
 |str {A:Addr->Prop} {H:Hp} (x:Str):Rp K A H (.str x) (.str x)
 |tup {A:Addr->Prop} {H:Hp} {a:Addr} {xs:List V} {ds:List D} (h:SqT K H a xs) (r:Rps K A H xs ds):Rp K A H (.ref a) (.tup ds)
 |lst {A:Addr->Prop} {H:Hp} {a:Addr} {xs:List V} {ds:List D} (h:H a=some (.lst xs)) (m:A a) (r:Rps K (λ p=>A p/\p≠a) H xs ds):Rp K A H (.ref a) (.lst ds)
 |dK {A:Addr->Prop} {H:Hp} {a:Addr} {kvs:List (Key×V)} {ds:List D} (h:H a=some (.dK kvs)) (m:A a) (r:Rps K (λ p=>A p/\p≠a) H (kvs.map (·.2)) ds):Rp K A H (.ref a) (.dct (kvs.map λ p=>kD p.1) ds)
 |dT {A:Addr->Prop} {H:Hp} {a:Addr} {es:List (List Int×Addr×V)} {ds:List D} (h:DxK K H a es) (m:A a) (r:Rps K (λ p=>A p/\p≠a) H (es.map (·.2.2)) ds):Rp K A H (.ref a) (.dct (.non::es.map λ e=>.tup (e.1.map .int)) ds)
 |set {A:Addr->Prop} {H:Hp} {a:Addr} {S:Int->Bool} {l:List Int} (h:H a=some (.set S l.length)) (m:A a) (hS:∀i,S i=decide (i∈l)) (nd:l.Nodup):Rp K A H (.ref a) (.set l)
 |scr {A:Addr->Prop} {H:Hp} {a:Addr} {ns:List Int} (h:lZ K H a ns):Rp K A H (.ref a) (.scr ns)
 |fn {A:Addr->Prop} {H:Hp} {a:Addr} {x:Str} (h:zAt K zA8 x=some (some (.ref a))):Rp K A H (.ref a) (.fn x)
inductive Rps(K:zAA):(Addr->Prop)->Hp->List V->List D->Prop where
 |nil {A:Addr->Prop} {H:Hp}:Rps K A H [] []
 |cons {A:Addr->Prop} {H:Hp} {x:V} {d:D} {xs:List V} {ds:List D} (h:Rp K A H x d) (r:Rps K A H xs ds):Rps K A H (x::xs) (d::ds)
end
def lZ.mono(s:aQ H H')(h:lZ K H a ns):lZ K H' a ns:=by
 rcases h with ⟨o,h⟩|h
 .exact .inl ⟨o,s _ _ h⟩
 .exact .inr h
def DxK.mono(h:DxK K H a es)(s:aQ H H'):DxK K H' a es:=⟨s _ _ h.at_,λ e he=>s.sqt (h.ks e he),h.nd⟩
def Rp.mono'(s:aQ H H')(r:Rp K A H x d)(hA:∀p o,H p=some o->A p->A' p):Rp K A' H' x d:=
 Rp.rec (motive_1:=λ A H x d _=>∀H',aQ H H'->∀A':Addr->Prop,(∀p o,H p=some o->A p->A' p)->Rp K A' H' x d) (motive_2:=λ A H xs ds _=>∀H',aQ H H'->∀A':Addr->Prop,(∀p o,H p=some o->A p->A' p)->Rps K A' H' xs ds)
  (λ _ _ _ _=>.non) (λ b _ _ _ _=>.bl b) (λ i _ _ _ _=>.int i) (λ x _ _ _ _=>.str x) (λ h _ ih _ s _ hA=>.tup (s.sqt h) (ih _ s _ hA))
  (λ h m _ ih _ s _ hA=>.lst (s _ _ h) (hA _ _ h m) (ih _ s _ λ p o e z=>⟨hA p o e z.1,z.2⟩)) (λ h m _ ih _ s _ hA=>.dK (s _ _ h) (hA _ _ h m) (ih _ s _ λ p o e z=>⟨hA p o e z.1,z.2⟩))
  (λ h m _ ih _ s _ hA=>.dT (h.mono s) (hA _ _ h.at_ m) (ih _ s _ λ p o e z=>⟨hA p o e z.1,z.2⟩)) (λ h m hS nd _ s _ hA=>.set (s _ _ h) (hA _ _ h m) hS nd) (λ h _ s _ _=>.scr (h.mono s)) (λ h _ _ _ _=>.fn h) (λ _ _ _ _=>.nil) (λ _ _ ih ir _ s _ hA=>.cons (ih _ s _ hA) (ir _ s _ hA)) r H' s A' hA
def Rps.mono'(s:aQ H H')(r:Rps K A H xs ds)(hA:∀p o,H p=some o->A p->A' p):Rps K A' H' xs ds:=
 Rps.rec (motive_1:=λ A H x d _=>∀H',aQ H H'->∀A':Addr->Prop,(∀p o,H p=some o->A p->A' p)->Rp K A' H' x d) (motive_2:=λ A H xs ds _=>∀H',aQ H H'->∀A':Addr->Prop,(∀p o,H p=some o->A p->A' p)->Rps K A' H' xs ds)
  (λ _ _ _ _=>.non) (λ b _ _ _ _=>.bl b) (λ i _ _ _ _=>.int i) (λ x _ _ _ _=>.str x) (λ h _ ih _ s _ hA=>.tup (s.sqt h) (ih _ s _ hA))
  (λ h m _ ih _ s _ hA=>.lst (s _ _ h) (hA _ _ h m) (ih _ s _ λ p o e z=>⟨hA p o e z.1,z.2⟩)) (λ h m _ ih _ s _ hA=>.dK (s _ _ h) (hA _ _ h m) (ih _ s _ λ p o e z=>⟨hA p o e z.1,z.2⟩))
  (λ h m _ ih _ s _ hA=>.dT (h.mono s) (hA _ _ h.at_ m) (ih _ s _ λ p o e z=>⟨hA p o e z.1,z.2⟩)) (λ h m hS nd _ s _ hA=>.set (s _ _ h) (hA _ _ h m) hS nd) (λ h _ s _ _=>.scr (h.mono s)) (λ h _ _ _ _=>.fn h) (λ _ _ _ _=>.nil) (λ _ _ ih ir _ s _ hA=>.cons (ih _ s _ hA) (ir _ s _ hA)) r H' s A' hA
def Rp.mono(s:aQ H H')(hA:∀p o,H p=some o->A p->A' p)(r:Rp K A H x d):Rp K A' H' x d:=r.mono' s hA
def Rps.mono(s:aQ H H')(hA:∀p o,H p=some o->A p->A' p)(r:Rps K A H x d):Rps K A' H' x d:=r.mono' s hA
def Rp.up(s:aQ H H')(r:Rp K A H x d):Rp K A H' x d:=r.mono s λ _ _ _ h=>h
def Rp.wk(hA:∀p o,H p=some o->A p->A' p)(r:Rp K A H x d):Rp K A' H x d:=r.mono (aQ.refl H) hA
def Rps.up(s:aQ H H')(r:Rps K A H x d):Rps K A H' x d:=r.mono s λ _ _ _ h=>h
def Rps.wk(hA:∀p o,H p=some o->A p->A' p)(r:Rps K A H x d):Rps K A' H x d:=r.mono (aQ.refl H) hA
def jD:HO->Bool
 | .lst _=>true| .dK _=>true| .dT _=>true| .set _ _=>true| .ext _=>true|_=>false
def wD(s:jO l H H')(hl:H l=some o)(ho:jD o=true)(h:SqT K H a xs):SqT K H' a xs:=by
 rcases h with (h|⟨u,h⟩)|h
 .refine .inl (.inl (s _ _ (λ e=>?_) h))
  subst e;rw[hl]at h;cases h;cases ho
 .refine .inl (.inr ⟨u,s _ _ (λ e=>?_) h⟩)
  subst e;rw[hl]at h;cases h;cases ho
 .exact .inr h
def aBU(s:jO l H H')(hl:H l=some o)(ho:jD o=true)(h:lZ K H a ns):lZ K H' a ns:=by
 rcases h with ⟨u,h⟩|h
 .exact .inl ⟨u,s _ _ (λ e=>by subst e;rw[hl]at h;cases h;cases ho) h⟩
 .exact .inr h
def DxK.but(h:DxK K H a es)(s:jO l H H')(hl:H l=some o)(ho:jD o=true)(ne:a≠l):DxK K H' a es:=
 ⟨s _ _ ne h.at_,λ e he=>wD s hl ho (h.ks e he),h.nd⟩
def Rp.but'(s:jO l H H')(hl:H l=some o)(ho:jD o=true)(r:Rp K A H x d)(hA:¬A l):Rp K A H' x d:=
 Rp.rec (motive_1:=λ A H x d _=>∀H',jO l H H'->∀o:HO,H l=some o->jD o=true->¬A l->Rp K A H' x d) (motive_2:=λ A H xs ds _=>∀H',jO l H H'->∀o:HO,H l=some o->jD o=true->¬A l->Rps K A H' xs ds)
  (λ _ _ _ _ _ _=>.non) (λ b _ _ _ _ _ _=>.bl b) (λ i _ _ _ _ _ _=>.int i) (λ x _ _ _ _ _ _=>.str x) (λ h _ ih _ s o hl ho hA=>.tup (wD s hl ho h) (ih _ s o hl ho hA))
  (λ h m _ ih _ s o hl ho hA=>.lst (s _ _ (λ e=>hA (e▸m)) h) m (ih _ s o hl ho λ z=>hA z.1)) (λ h m _ ih _ s o hl ho hA=>.dK (s _ _ (λ e=>hA (e▸m)) h) m (ih _ s o hl ho λ z=>hA z.1))
  (λ h m _ ih _ s o hl ho hA=>.dT (h.but s hl ho λ e=>hA (e▸m)) m (ih _ s o hl ho λ z=>hA z.1)) (λ h m hS nd _ s o hl ho hA=>.set (s _ _ (λ e=>hA (e▸m)) h) m hS nd) (λ h _ s o hl ho _=>.scr (aBU s hl ho h)) (λ h _ _ _ _ _ _=>.fn h) (λ _ _ _ _ _ _=>.nil) (λ _ _ ih ir _ s o hl ho hA=>.cons (ih _ s o hl ho hA) (ir _ s o hl ho hA)) r H' s o hl ho hA
def Rps.but'(s:jO l H H')(hl:H l=some o)(ho:jD o=true)(r:Rps K A H xs ds)(hA:¬A l):Rps K A H' xs ds:=
 Rps.rec (motive_1:=λ A H x d _=>∀H',jO l H H'->∀o:HO,H l=some o->jD o=true->¬A l->Rp K A H' x d) (motive_2:=λ A H xs ds _=>∀H',jO l H H'->∀o:HO,H l=some o->jD o=true->¬A l->Rps K A H' xs ds)
  (λ _ _ _ _ _ _=>.non) (λ b _ _ _ _ _ _=>.bl b) (λ i _ _ _ _ _ _=>.int i) (λ x _ _ _ _ _ _=>.str x) (λ h _ ih _ s o hl ho hA=>.tup (wD s hl ho h) (ih _ s o hl ho hA))
  (λ h m _ ih _ s o hl ho hA=>.lst (s _ _ (λ e=>hA (e▸m)) h) m (ih _ s o hl ho λ z=>hA z.1)) (λ h m _ ih _ s o hl ho hA=>.dK (s _ _ (λ e=>hA (e▸m)) h) m (ih _ s o hl ho λ z=>hA z.1))
  (λ h m _ ih _ s o hl ho hA=>.dT (h.but s hl ho λ e=>hA (e▸m)) m (ih _ s o hl ho λ z=>hA z.1)) (λ h m hS nd _ s o hl ho hA=>.set (s _ _ (λ e=>hA (e▸m)) h) m hS nd) (λ h _ s o hl ho _=>.scr (aBU s hl ho h)) (λ h _ _ _ _ _ _=>.fn h) (λ _ _ _ _ _ _=>.nil) (λ _ _ ih ir _ s o hl ho hA=>.cons (ih _ s o hl ho hA) (ir _ s o hl ho hA)) r H' s o hl ho hA
def Rp.but(s:jO l H H')(hl:H l=some o)(ho:jD o=true)(hA:¬A l)(r:Rp K A H x d):Rp K A H' x d:=r.but' s hl ho hA
def Rps.but(s:jO l H H')(hl:H l=some o)(ho:jD o=true)(hA:¬A l)(r:Rps K A H x d):Rps K A H' x d:=r.but' s hl ho hA
mutual
def imm:D->Bool
 | .tup l=>dR l
 | .lst _=>false
 | .dct _ _=>false
 | .set _=>false
 |_=>true
def dR:List D->Bool
 |[]=>true
 |d::r=>imm d&&dR r
end
def lw(e:dR (d::r)=true):imm d=true/\dR r=true:=by
 simp only[dR,zAP]at e;exact e
def aBg(e:imm (.tup l)=true):dR l=true:=by simpa[imm]using e
def aBj(e:imm (.lst l)=true):False:=by simp[imm]at e
def rN(e:imm (.dct l k)=true):False:=by simp[imm]at e
def aBh(e:imm (.set l)=true):False:=by simp[imm]at e
def Rp.imm'(r:Rp K A H x d)(e:VL.imm d=true):Rp K A' H x d:=
 Rp.rec (motive_1:=λ _ H x d _=>VL.imm d=true->Rp K A' H x d) (motive_2:=λ _ H xs ds _=>dR ds=true->Rps K A' H xs ds)
  (λ _=>.non) (λ b _=>.bl b) (λ i _=>.int i) (λ x _=>.str x) (λ h _ ih e=>.tup h (ih (aBg e)))
  (λ _ _ _ _ e=>(aBj e).elim) (λ _ _ _ _ e=>(rN e).elim) (λ _ _ _ _ e=>(rN e).elim) (λ _ _ _ _ e=>(aBh e).elim) (λ h _=>.scr h) (λ h _=>.fn h) (λ _=>.nil) (λ _ _ ih ir e=>.cons (ih (lw e).1) (ir (lw e).2)) r e
def Rps.imm'(r:Rps K A H xs ds)(e:dR ds=true):Rps K A' H xs ds:=
 Rps.rec (motive_1:=λ _ H x d _=>VL.imm d=true->Rp K A' H x d) (motive_2:=λ _ H xs ds _=>dR ds=true->Rps K A' H xs ds)
  (λ _=>.non) (λ b _=>.bl b) (λ i _=>.int i) (λ x _=>.str x) (λ h _ ih e=>.tup h (ih (aBg e)))
  (λ _ _ _ _ e=>(aBj e).elim) (λ _ _ _ _ e=>(rN e).elim) (λ _ _ _ _ e=>(rN e).elim) (λ _ _ _ _ e=>(aBh e).elim) (λ h _=>.scr h) (λ h _=>.fn h) (λ _=>.nil) (λ _ _ ih ir e=>.cons (ih (lw e).1) (ir (lw e).2)) r e
theorem Rp.imm(r:Rp K A H x d)(h:VL.imm d=true):Rp K A' H x d:=r.imm' h
def Rps.imm(r:Rps K A H x d)(h:dR d=true):Rps K A' H x d:=r.imm' h
def Rp.int_inv(r:Rp K A H v (.int i)):v= .int i:=by cases r;rfl
def Rp.tup_inv(r:Rp K A H v (.tup ds)):∃a xs,v= .ref a/\SqT K H a xs/\Rps K A H xs ds:=by cases r with|tup h r=>exact⟨_,_,rfl,h,r⟩
def Rp.lst_inv(r:Rp K A H v (.lst ds)):∃a xs,v= .ref a/\H a=some (.lst xs)/\A a/\Rps K (λ p=>A p/\p≠a) H xs ds:=by cases r with|lst h m r=>exact⟨_,_,rfl,h,m,r⟩
def Rp.scr_inv(r:Rp K A H v (.scr ns)):∃a,v= .ref a/\lZ K H a ns:=by cases r with|scr h=>exact⟨_,rfl,h⟩
def Rps.one_inv(r:Rps K A H vs [d]):∃v,vs=[v]/\Rp K A H v d:=by cases r with|cons h r=>cases r;exact⟨_,rfl,h⟩
section
variable{A:Addr->Prop}{H:Hp}
theorem Rps.length:∀{xs:List V} {ds:List D},Rps K A H xs ds->xs.length=ds.length:=by
 intro xs ds h;induction xs generalizing ds with
 |nil=>cases h;rfl
 |cons x xs ih=>cases h with|cons _ r=>exact congrArg (·+1) (ih r)
theorem Rps.get:∀{xs:List V} {ds:List D} {i:Nat} {x:V},Rps K A H xs ds->xs[i]? =some x->∃d,ds[i]? =some d/\Rp K A H x d
 |_,_,_,_,.nil,e=>by simp at e
 |_,_,0,_,.cons h _,e=>by simp at e;subst e;exact⟨_,rfl,h⟩
 |_,_,i+1,x,.cons _ r,e=>by
  obtain⟨d,h1,h2⟩:=Rps.get (i:=i) (x:=x) r (by simpa using e);exact⟨d,by simpa using h1,h2⟩
theorem Rps.getD:∀{xs:List V} {ds:List D} {i:Nat} {d:D},Rps K A H xs ds->ds[i]? =some d->∃x,xs[i]? =some x/\Rp K A H x d
 |_,_,_,_,.nil,e=>by simp at e
 |_,_,0,_,.cons h _,e=>by simp at e;subst e;exact⟨_,rfl,h⟩
 |_,_,i+1,d,.cons _ r,e=>by
  obtain⟨x,h1,h2⟩:=Rps.getD (i:=i) (d:=d) r (by simpa using e);exact⟨x,by simpa using h1,h2⟩
def Rps.append:∀{xs ys:List V} {ds es:List D},Rps K A H xs ds->Rps K A H ys es->Rps K A H (xs++ys) (ds++es):=by
 intro xs ys ds es h s;induction xs generalizing ds with
 |nil=>cases h;exact s
 |cons x xs ih=>cases h with|cons h r=>exact .cons h (ih r)
theorem Rps.take:∀{xs:List V} {ds:List D} (n:Nat),Rps K A H xs ds->Rps K A H (xs.take n) (ds.take n)
 |_,_,0,_=>.nil
 |_,_,_+1,.nil=>.nil
 |_,_,n+1,.cons h r=>.cons h (Rps.take n r)
theorem Rps.drop:∀{xs:List V} {ds:List D} (n:Nat),Rps K A H xs ds->Rps K A H (xs.drop n) (ds.drop n)
 |_,_,0,r=>r
 |_,_,_+1,.nil=>.nil
 |_,_,n+1,.cons _ r=>Rps.drop n r
theorem Rps.reverse:∀{xs:List V} {ds:List D},Rps K A H xs ds->Rps K A H xs.reverse ds.reverse:=by
 intro xs ds h;induction xs generalizing ds with
 |nil=>cases h;exact .nil
 |cons x xs ih=>
  cases h with
  |cons h r=>
   rw[zCK,zCK];exact Rps.append (ih r) (.cons h .nil)
theorem Rps.ints:∀{ns:List Int},Rps K A H (ns.map V.int) (ns.map D.int)
 |[]=>.nil
 |n::ns=>.cons (.int n) Rps.ints
theorem Rps.ints_of:∀{xs:List V} {ns:List Int},Rps K A H xs (ns.map D.int)->xs=ns.map V.int
 |_,[],.nil=>rfl
 |_,n::ns,.cons h r=>by
  cases h;rw[zAH,Rps.ints_of r]
end
def aN(h:a=b):a=b:=h
inductive Rs(α:Type) where
 |ok (a:α)|ex (c:Str)|st
noncomputable def Rs.bd{α β:Type}:Rs α->(α->Rs β)->Rs β
 | .ok a,f=>f a
 | .ex c,_=>.ex c
 | .st,_=>.st
@[simp] def bx(a:α)(f:α->Rs β):(Rs.ok a).bd f=f a:=aN rfl
def di{r:Rs α}(h:r.bd f= .ok b):∃a,r= .ok a/\f a= .ok b:=by
 cases r with
 |ok a=>exact⟨a,rfl,h⟩
 |ex c=>cases h
 |st=>cases h
abbrev cK:=List (List D)
inductive Slot where
 |no|sh (d:D)|nw (d:D)|ow (d:D)|oz (d:D)|o2 (l:cK)
abbrev En:=List Slot
abbrev Lab:=Addr->Nat×Nat
abbrev Mode:=Option (List Nat)
def inM(m:Mode)(n:Nat):Prop:=match m with
 |none=>True
 |some L=>n∈L
def jn:Mode->Mode->Mode
 |some a,some b=>some (a++b)
 |_,_=>none
def aJz(h:inM a n):inM (jn a b) n:=by
 cases a with
 |none=>cases b<;>exact trivial
 |some L=>
  cases b with
  |none=>exact trivial
  |some M=>exact zAK _ h
def aJy(h:inM b n):inM (jn a b) n:=by
 cases a with
 |none=>cases b<;>exact trivial
 |some L=>
  cases b with
  |none=>exact trivial
  |some M=>exact zA0 _ h
def fpM(m:Mode)(lab:Lab)(H:Hp):Addr->Prop:=λ p=>H p=none\/inM m (lab p).1
def aEY(h:fpM a lab H p):fpM (jn a b) lab H p:=h.imp id aJz
def aEX(h:fpM b lab H p):fpM (jn a b) lab H p:=h.imp id aJy
def jX(s:aQ H H')(h:fpM m lab H' p):fpM m lab H p:=h.imp (λ z=>s.free z) id
structure Gx where
 H0:Hp
 E:XK
 cl:Str->Addr
def aCL:D->Bool
 | .lst _=>true
 | .dct _ _=>true
 | .set _=>true
 |_=>false
def gJ(K:zAA)(H:Hp)(lab:Lab)(i:Nat)(v:V):Slot->Prop
 | .no=>True
 | .sh d=>Rp K (λ p=>(lab p).1<=1) H v d
 | .nw d=>Rp K (λ p=>(lab p).1=1) H v d
 | .ow d=>Rp K (λ p=>(lab p).1=1\/(lab p).1=i+2) H v d/\(aCL d=true->∃a,v= .ref a/\(lab a).1=i+2)
 | .oz d=>∃a xs ds,v= .ref a/\d= .lst ds/\H a=some (.lst xs)/\(lab a).1=i+2/\Rps K (λ p=>(lab p).1<=1) H xs ds
 | .o2 l=>∃a xs,v= .ref a/\H a=some (.lst xs)/\lab a=(i+2,0)/\xs.length=l.length/\∀(j:Nat) x ds,xs[j]? =some x->l[j]? =some ds->Rp K (λ p=>lab p=(i+2,j+1)) H x (.lst ds)
structure RR(K:zAA)(G:Gx)(U:List (V×D))(ρ:En)(σ:L2.St)(H:Hp)(lab:Lab):Prop where
 len:σ.length=ρ.length
 sl:∀(i:Nat) (s:Slot),ρ[i]? =some s->s= .no\/∃v,σ[i]? =some (some v)/\gJ K H lab i v s
 old:aQ G.H0 H
 new:∀p,(lab p).1≠0->G.H0 p=none
 tm:∀q∈U,Rp K (λ p=>(lab p).1<=1) H q.1 q.2
theorem gJ.up(s:aQ H H')(h:gJ K H lab i v x):gJ K H' lab i v x:=by
 cases x with
 |no=>exact trivial
 |sh d=>exact Rp.up s h
 |nw d=>exact Rp.up s h
 |ow d=>exact⟨Rp.up s h.1,h.2⟩
 |oz d=>
  obtain⟨a,xs,ds,e1,e2,e3,e4,e5⟩:=h;exact⟨a,xs,ds,e1,e2,s _ _ e3,e4,e5.up s⟩
 |o2 l=>
  obtain⟨a,xs,e1,e2,e3,e4,e5⟩:=h;exact⟨a,xs,e1,s _ _ e2,e3,e4,λ j x ds f1 f2=>(e5 j x ds f1 f2).up s⟩
def aDM(r:Rp K A H (.ref a) d)(hm:aCL d=true):∃o,H a=some o/\jD o=true/\A a:=by
 cases r with
 |lst h m _=>exact⟨_,h,rfl,m⟩
 |dK h m _=>exact⟨_,h,rfl,m⟩
 |dT h m _=>exact⟨_,h.at_,rfl,m⟩
 |set h m _ _=>exact⟨_,h,rfl,m⟩
 |tup _ _=>cases hm
 |scr _=>cases hm
 |fn _=>cases hm
def aHf(r:Rp K A H v d)(hm:aCL d=true):∃a,v= .ref a:=by
 cases r with
 |lst h m _=>exact⟨_,rfl⟩
 |dK h m _=>exact⟨_,rfl⟩
 |dT h m _=>exact⟨_,rfl⟩
 |set h m _ _=>exact⟨_,rfl⟩
 |_=>cases hm
theorem gJ.lab{lab lab':Lab}(hl:∀p o,H p=some o->lab' p=lab p)(h:gJ K H lab i v x):gJ K H lab' i v x:=by
 cases x with
 |no=>exact trivial
 |sh d=>exact Rp.wk (λ p o e q=>(hl p o e).symm▸q) h
 |nw d=>exact Rp.wk (λ p o e q=>(hl p o e).symm▸q) h
 |ow d=>
  obtain⟨h,t⟩:=h;refine⟨Rp.wk (λ p o e q=>(hl p o e).symm▸q) h,λ m=>?_⟩;obtain⟨a,rfl,ea⟩:=t m;obtain⟨o,ho,_⟩:=aDM h m;exact⟨a,rfl,(congrArg (·.1) (hl a o ho)).trans ea⟩
 |oz d=>
  obtain⟨a,xs,ds,e1,e2,e3,e4,e5⟩:=h;exact⟨a,xs,ds,e1,e2,e3,(congrArg (·.1) (hl _ _ e3)).trans e4,Rps.wk (λ p o e q=>(hl p o e).symm▸q) e5⟩
 |o2 l=>
  obtain⟨a,xs,e1,e2,e3,e4,e5⟩:=h;exact⟨a,xs,e1,e2,(hl _ _ e2).trans e3,e4,λ j x ds f1 f2=>Rp.wk (λ p o e q=>(hl p o e).symm▸q) (e5 j x ds f1 f2)⟩
section
variable{G:Gx}{U:List (V×D)}{ρ:En}{σ:L2.St}{H H':Hp}{lab lab':Lab}
theorem RR.up(R:RR K G U ρ σ H lab)(s:aQ H H'):RR K G U ρ σ H' lab:=
 ⟨R.len,λ i x e=>(R.sl i x e).imp id λ⟨v,e1,e2⟩=>⟨v,e1,e2.up s⟩,R.old.trans s,R.new,λ q hq=>(R.tm q hq).up s⟩
def RR.relab(R:RR K G U ρ σ H lab)(hl:∀p o,H p=some o->lab' p=lab p)(hn:∀p,(lab' p).1≠0->G.H0 p=none):RR K G U ρ σ H lab':=
 ⟨R.len,λ i x e=>(R.sl i x e).imp id λ⟨v,e1,e2⟩=>⟨v,e1,e2.lab hl⟩,R.old,hn,λ q hq=>Rp.wk (λ p o e z=>by rw[hl p o e];exact z) (R.tm q hq)⟩
def RR.drop(R:RR K G (U'++U) ρ σ H lab):RR K G U ρ σ H lab:=⟨R.len,R.sl,R.old,R.new,λ z hz=>R.tm z (zA0 _ hz)⟩
def RR.put(R:RR K G U ρ σ H lab)(h:gJ K H lab i v s):RR K G U (ρ.set i s) (σ.set i (some v)) H lab:=by
 refine⟨by rw[zBP,zBP,R.len],λ j x e=>?_,R.old,R.new,R.tm⟩;by_cases hj:i=j
 .subst hj
  have hi:i<ρ.length:=by
   have:=(zAM.mp e).1
   rwa [zBP]at this
  rw[zBF hi]at e;cases e;exact .inr ⟨v,by rw[zBF (by rw[R.len];exact hi)],h⟩
 .rw[zAu hj]at e
  rcases R.sl j x e with z|⟨u,e1,e2⟩
  .exact .inl z
  .exact .inr ⟨u,by rw[zAu hj];exact e1,e2⟩
def bR(H:Hp)(n:Nat)(lab:Lab):Lab:=λ p=>match H p with
 |none=>(n,0)
 |some _=>lab p
def bD(h:H p=some o):bR H n lab p=lab p:=by unfold bR;rw[h]
def tM(h:H p=none):bR H n lab p=(n,0):=by unfold bR;rw[h]
def RR.fresh{P:Nat->Prop}(h1:P 1)(hm:∀k,inM m k->P k)(R:RR K G U ρ σ H lab)(s:aQ H H')(r:Rp K (fpM m lab H) H' v d):
  RR K G U ρ σ H' (bR H 1 lab)/\Rp K (λ p=>P (bR H 1 lab p).1) H' v d:=by
 refine⟨(R.relab (λ p o e=>bD e) λ p hp=>?_).up s,Rp.wk (λ p o e z=>?_) r⟩
 .cases e:H p with
  |none=>exact R.old.free e
  |some o=>rw[bD e]at hp;exact R.new p hp
 .rcases z with z|z
  .rw[tM z];exact h1
  .cases e:H p with
   |none=>rw[tM e];exact h1
   |some o=>rw[bD e];exact hm _ z
def RR.freshO(i:Nat)(hm:∀k,inM m k->k=1\/k=i+2)(R:RR K G U ρ σ H lab)(s:aQ H H')(r:Rp K (fpM m lab H) H' v d)(ht:aCL d=true->∃a,v= .ref a/\H a=none):
  ∃lab',RR K G U ρ σ H' lab'/\gJ K H' lab' i v (.ow d):=by
 obtain⟨R',r'⟩:=R.fresh (P:=λ k=>k=1\/k=i+2) (.inl rfl) hm s r;cases hd:aCL d with
 |false=>exact⟨_,R',r',λ z=>absurd z (by simp[hd])⟩
 |true=>
  obtain⟨a,rfl,ha⟩:=ht hd;refine⟨λ p=>if p=a then(i+2,0)else bR H 1 lab p,?_,Rp.wk (λ p o e z=>?_) r',λ _=>⟨a,rfl,by show(if a=a then((i+2,0):Nat×Nat)else bR H 1 lab a).1=i+2;rw[if_pos rfl]⟩⟩
  .refine(R.relab (lab':=λ p=>if p=a then(i+2,0)else bR H 1 lab p) (λ p o e=>?_) λ p hp=>?_).up s
   .rw[if_neg (λ z=>by subst z;rw[ha]at e;cases e),bD e]
   .by_cases z:p=a
    .subst z;exact R.old.free ha
    .rw[if_neg z]at hp;exact R'.new p hp
  .dsimp only
   by_cases q:p=a
   .rw[if_pos q];exact .inr rfl
   .rw[if_neg q];exact z
def aHK(h:gJ K H lab i v (.oz d)):Rp K (λ p=>(lab p).1<=1\/(lab p).1=i+2) H v d:=by
 obtain⟨a,xs,ds,rfl,rfl,h1,h2,h3⟩:=h;exact .lst h1 (.inr h2) (h3.wk λ p o e z=>⟨.inl z,λ q=>by subst q;lia⟩)
end
structure Ct where
 ι:Type
 X:ι->Cx
 prog:zAZ
 w:World
 K:zAA
 mg:Str->Option Value
 base:Heap
 k:Nat
 G:Gx
 cx:∀i,(X i).prog=prog/\(X i).w=w/\(X i).K=K/\(X i).mg=mg/\(X i).base=base
 calm:∀i,(X i).calm=true
 room:∀i,iw k (X i).A
 own:∀i,zHB (model (X i).prog (X i).w) (X i).A (X i).env (X i).xe
 pass:∀i,yH (CX1 (X i).prog (X i).w) (X i) G.E
 dOk:Bool
 dcx:dOk=true->∀i,ig (X i) G.E
def Ct.hK(C:Ct)(i:C.ι):(C.X i).K=C.K:=(C.cx i).2.2.1
def WR{α:Type}(G:Gx)(r:Rs α)(P:α->Prop):Prop:=match r with
 | .ok a=>P a
 | .ex c=>∀H',aQ G.H0 H'->G.E (.ref (G.cl c)) none H'
 | .st=>False
theorem WR.bd(h:WR G (r.bd k) P):WR G r (λ a=>WR G (k a) P):=by
 cases r with
 |ok a=>exact h
 |ex c=>exact h
 |st=>exact h
def WR.imp(h:WR G r P)(f:∀a,r= .ok a->P a->P' a):WR G r P':=by
 cases r with
 |ok a=>exact f a rfl h
 |ex c=>exact h
 |st=>exact h
abbrev QE(K:zAA)(m:Mode)(lab:Lab)(H:Hp)(Q:VK):D->Prop:=λ d=>∀v H',aQ H H'->Rp K (fpM m lab H) H' v d->Q v H'
abbrev QA(K:zAA)(m:Mode)(lab:Lab)(H:Hp)(Q:List V->Hp->Prop):List D->Prop:=λ ds=>∀vs H',aQ H H'->Rps K (fpM m lab H) H' vs ds->Q vs H'
abbrev QT(H:Hp)(Q:Bool->Hp->Prop):Bool->Prop:=λ b=>∀H',aQ H H'->Q b H'
def jN(K:zAA)(G:Gx)(m:Mode)(t:TE)(f:En->Rs D):Prop:=∀U σ H ρ lab (Q:VK),RR K G U ρ σ H lab->WR G (f ρ) (QE K m lab H Q)->t σ H Q
def aGf(K:zAA)(G:Gx)(m:Mode)(t:TA)(f:En->Rs (List D)):Prop:=∀U σ H ρ lab (Q:List V->Hp->Prop),RR K G U ρ σ H lab->WR G (f ρ) (QA K m lab H Q)->t σ H Q
def aCa(K:zAA)(G:Gx)(t:TT)(f:En->Rs Bool):Prop:=∀U σ H ρ lab (Q:Bool->Hp->Prop),RR K G U ρ σ H lab->WR G (f ρ) (QT H Q)->t σ H Q
def SE(C:Ct)(m:Mode)(e:Expr)(f:En->Rs D):Prop:=∃t,(∀i,PE (C.X i) e t)/\jN C.K C.G m t f
def SA(C:Ct)(m:Mode)(es:List Expr)(f:En->Rs (List D)):Prop:=∃t,(∀i,PA (C.X i) es t)/\aGf C.K C.G m t f
def ST(C:Ct)(e:Expr)(f:En->Rs Bool):Prop:=∃t,(∀i,PT (C.X i) e t)/\aCa C.K C.G t f
def SW(C:Ct)(e:Expr)(f:En->Rs Bool):Prop:=∃t,(∀i,PW (C.X i) e t)/\aCa C.K C.G t f
def SW.st(h:SW C e f):ST C e f:=let⟨t,h1,h2⟩:=h;⟨t,λ i=>(h1 i).pt,h2⟩
def dZ(i:Nat):En->Rs D:=λ ρ=>match ρ[i]? with
 |some (.sh d)=>.ok d
 |some (.nw d)=>.ok d
 |some (.ow d)=>.ok d
 |some (.oz d)=>.ok d
 |some (.o2 l)=>.ok (.lst (l.map .lst))
 |_=>.st
def aD(i:Nat):En->Rs D:=λ ρ=>match ρ[i]? with
 |some (.sh d)=>.ok d
 |some (.nw d)=>.ok d
 |_=>.st
def pI(i:Nat):En->Rs D:=λ ρ=>match ρ[i]? with
 |some (.nw d)=>.ok d
 |_=>.st
def vo(i:Nat):En->Rs D:=λ ρ=>match ρ[i]? with
 |some (.ow d)=>.ok d
 |some (.o2 l)=>.ok (.lst (l.map .lst))
 |_=>.st
def cD(d:D):En->Rs D:=λ _=>.ok d
def aDo{K:zAA}{H:Hp}{lab:Lab}{i:Nat}{v:V}{l:cK}(h:gJ K H lab i v (.o2 l)):Rp K (λ p=>(lab p).1=i+2) H v (.lst (l.map .lst)):=by
 obtain⟨a,xs,rfl,ha,hla,hW,hin⟩:=h;refine .lst ha (by rw[hla]) ?_;have go:∀(xs:List V) (l:cK) (n:Nat),xs.length=l.length->0<n->(∀(j:Nat) x ds,xs[j]? =some x->l[j]? =some ds->Rp K (λ p=>lab p=(i+2,n+j)) H x (.lst ds))->Rps K (λ p=>(lab p).1=i+2/\p≠a) H xs (l.map .lst):=by
  intro xs;induction xs with
  |nil=>intro l n hl _ _;cases l with|nil=>exact .nil|cons _ _=>simp at hl
  |cons x xs ih=>
   intro l n hl hn h;cases l with
   |nil=>simp at hl
   |cons ds l=>
    refine .cons (Rp.wk (λ p o e z=>⟨by rw[z],λ e=>by rw[e,hla]at z;have z2:(0:Nat)=n+0:=congrArg zEk z;lia⟩) (h 0 x ds rfl rfl)) (ih l (n+1) (by simpa using hl) (by lia) λ j y es e1 e2=>?_);have z:=h (j+1) y es (by simpa using e1) (by simpa using e2);rw[show n+1+j=n+(j+1)by lia];exact z
 exact go xs l 1 hW (by lia) λ j x ds e1 e2=>by have z:=hin j x ds e1 e2;rw[show 1+j=j+1 by lia];exact z
section
variable{C:Ct}{pos:Pos}
def aBR(K:zAA)(G:Gx)(i:Nat):jN K G (some [0,1,i+2]) (mq i) (dZ i):=by
 intro U σ H ρ lab Q R W;unfold dZ at W;cases e:ρ[i]? with
 |none=>rw[e]at W;exact W.elim
 |some s=>
  rw[e]at W;rcases R.sl i s e with rfl|⟨v,ev,hv⟩
  .exact zAJ W
  .cases s with
   |no=>exact zAJ W
   |sh d=>exact⟨v,ev,W v H (aQ.refl H) (Rp.wk (λ p o e z=>.inr (by show(lab p).1∈[0,1,i+2];rcases(show(lab p).1=0\/(lab p).1=1 by lia)with q|q<;>rw[q]<;>simp)) hv)⟩
   |nw d=>exact⟨v,ev,W v H (aQ.refl H) (Rp.wk (λ p o e z=>.inr (by show(lab p).1∈[0,1,i+2];rw[z];simp)) hv)⟩
   |ow d=>exact⟨v,ev,W v H (aQ.refl H) (Rp.wk (λ p o e z=>.inr (by show(lab p).1∈[0,1,i+2];rcases z with q|q<;>rw[q]<;>simp)) hv.1)⟩
   |oz d=>exact⟨v,ev,W v H (aQ.refl H) (Rp.wk (λ p o e z=>.inr (by show(lab p).1∈[0,1,i+2];rcases(show(lab p).1=0\/(lab p).1=1\/(lab p).1=i+2 by lia)with q|q|q<;>rw[q]<;>simp)) (aHK hv))⟩
   |o2 l=>exact⟨v,ev,W v H (aQ.refl H) (Rp.wk (λ p o e z=>.inr (by show(lab p).1∈[0,1,i+2];rw[z];simp)) (aDo hv))⟩
def aCx(K:zAA)(G:Gx)(i:Nat):jN K G (some [0,1]) (mq i) (aD i):=by
 intro U σ H ρ lab Q R W;unfold aD at W;cases e:ρ[i]? with
 |none=>rw[e]at W;exact W.elim
 |some s=>
  rw[e]at W;rcases R.sl i s e with rfl|⟨v,ev,hv⟩
  .exact zAJ W
  .cases s with
   |sh d=>exact⟨v,ev,W v H (aQ.refl H) (Rp.wk (λ p o e z=>.inr (by show(lab p).1∈[0,1];rcases(show(lab p).1=0\/(lab p).1=1 by lia)with q|q<;>rw[q]<;>simp)) hv)⟩
   |nw d=>exact⟨v,ev,W v H (aQ.refl H) (Rp.wk (λ p o e z=>.inr (by show(lab p).1∈[0,1];rw[z];simp)) hv)⟩
   |_=>exact zAJ W
def aCz(K:zAA)(G:Gx)(i:Nat):jN K G (some [1]) (mq i) (pI i):=by
 intro U σ H ρ lab Q R W;unfold pI at W;cases e:ρ[i]? with
 |none=>rw[e]at W;exact W.elim
 |some s=>
  rw[e]at W;rcases R.sl i s e with rfl|⟨v,ev,hv⟩
  .exact zAJ W
  .cases s with
   |nw d=>exact⟨v,ev,W v H (aQ.refl H) (Rp.wk (λ p o e z=>.inr (by show(lab p).1∈[1];rw[z];simp)) hv)⟩
   |_=>exact zAJ W
def aCy(K:zAA)(G:Gx)(i:Nat):jN K G (some [1,i+2]) (mq i) (vo i):=by
 intro U σ H ρ lab Q R W;unfold vo at W;cases e:ρ[i]? with
 |none=>rw[e]at W;exact W.elim
 |some s=>
  rw[e]at W;rcases R.sl i s e with rfl|⟨v,ev,hv⟩
  .exact zAJ W
  .cases s with
   |ow d=>exact⟨v,ev,W v H (aQ.refl H) (Rp.wk (λ p o e z=>.inr (by show(lab p).1∈[1,i+2];rcases z with q|q<;>rw[q]<;>simp)) hv.1)⟩
   |o2 l=>exact⟨v,ev,W v H (aQ.refl H) (Rp.wk (λ p o e z=>.inr (by show(lab p).1∈[1,i+2];rw[z];simp)) (aDo hv))⟩
   |_=>exact zAJ W
def fG(i:Nat)(hN:∀j,(C.X j).N[i]? =some x:=by intro _;rfl)(hv:∀j,Vis (C.X j).env.scope x:=by intro _;first|exact zB3 rfl|exact zBD (zB3 rfl)|exact zBD (zBD rfl))(hd:Nd x:=by decide)
  (hcd:(x==("__classdict__":Str))=false:=by decide):SE C (some [0,1,i+2]) (.Name x pos) (dZ i):=⟨_,λ j=>fL (hN j) (hv j) hd hcd,aBR _ _ i⟩
def aA(i:Nat)(hN:∀j,(C.X j).N[i]? =some x:=by intro _;rfl)(hv:∀j,Vis (C.X j).env.scope x:=by intro _;first|exact zB3 rfl|exact zBD (zB3 rfl)|exact zBD (zBD rfl))(hd:Nd x:=by decide)
  (hcd:(x==("__classdict__":Str))=false:=by decide):SE C (some [0,1]) (.Name x pos) (aD i):=⟨_,λ j=>fL (hN j) (hv j) hd hcd,aCx _ _ i⟩
def jf(i:Nat)(hN:∀j,(C.X j).N[i]? =some x:=by intro _;rfl)(hv:∀j,Vis (C.X j).env.scope x:=by intro _;first|exact zB3 rfl|exact zBD (zB3 rfl)|exact zBD (zBD rfl))(hd:Nd x:=by decide)
  (hcd:(x==("__classdict__":Str))=false:=by decide):SE C (some [1]) (.Name x pos) (pI i):=⟨_,λ j=>fL (hN j) (hv j) hd hcd,aCz _ _ i⟩
def wK(i:Nat)(hN:∀j,(C.X j).N[i]? =some x:=by intro _;rfl)(hv:∀j,Vis (C.X j).env.scope x:=by intro _;first|exact zB3 rfl|exact zBD (zB3 rfl)|exact zBD (zBD rfl))(hd:Nd x:=by decide)
  (hcd:(x==("__classdict__":Str))=false:=by decide):SE C (some [1,i+2]) (.Name x pos) (vo i):=⟨_,λ j=>fL (hN j) (hv j) hd hcd,aCy _ _ i⟩
def aJ:SE C (some []) (.Constant (.int i) j pos) (cD (.int i)):=⟨_,λ _=>aD9,λ U σ H ρ lab Q R W=>W _ H (aQ.refl H) (.int i)⟩
def oH:SE C (some []) (.Constant (.bool b) j pos) (cD (.bl b)):=⟨_,λ _=>aJ6,λ U σ H ρ lab Q R W=>W _ H (aQ.refl H) (.bl b)⟩
def aDE:SE C (some []) (.Constant .none j pos) (cD .non):=⟨_,λ _=>aID,λ U σ H ρ lab Q R W=>W _ H (aQ.refl H) .non⟩
def aDC:SE C (some []) (.Constant (.str x) j pos) (cD (.str x)):=⟨_,λ _=>aIA,λ U σ H ρ lab Q R W=>W _ H (aQ.refl H) (.str x)⟩
def aFL(hm:C.mg x=some u)(r:RelV v u)(hd:∀A H,Rp C.K A H v d)(hdb:Nd x:=by decide)(hg:∀i,Gl (C.X i) x:=by intro _;rfl):SE C (some []) (.Name x pos) (cD d):=
 ⟨_,λ i=>aF4 (hg i) (by rw[(C.cx i).2.2.2.1];exact hm) r hdb,λ U σ H ρ lab Q R W=>W _ H (aQ.refl H) (hd _ _)⟩
def oY(d:D):Rs D:=if imm d=true then .ok d else .st
def aq(f:En->Rs D):En->Rs D:=λ ρ=>(f ρ).bd oY
def ak(h:SE C m e f):SE C (some []) e (aq f):=by
 obtain⟨t,h1,h2⟩:=h;refine⟨t,h1,λ U σ H ρ lab Q R W=>h2 U σ H ρ lab Q R (W.bd.imp λ d _ w v H' s r=>?_)⟩;unfold oY at w;by_cases hd:imm d=true
 .rw[if_pos hd]at w
  exact w v H' s (r.imm hd)
 .rw[if_neg hd]at w
  exact zAJ w
def aH:En->Rs (List D):=λ _=>.ok []
def aC(f:En->Rs D)(g:En->Rs (List D)):En->Rs (List D):=λ ρ=>(f ρ).bd λ d=>(g ρ).bd λ ds=>.ok (d::ds)
variable{m m1 m2:Mode}{e a b:Expr}{es:List Expr}{f fa fb:En->Rs D}{g:En->Rs (List D)}
def aF:SA C (some []) [] aH:=⟨_,λ _=>dY,λ U σ H ρ lab Q R W=>W _ H (aQ.refl H) .nil⟩
def aB(h:SE C m1 e f)(hr:SA C m2 es g)(hs:∀i,zAY (e::es) (C.X i).env=(false,eval e (C.X i).env)::zAY es (C.X i).env:=by intro _;rfl):SA C (jn m1 m2) (e::es) (aC f g):=by
 obtain⟨t,h1,h2⟩:=h;obtain⟨u,k1,k2⟩:=hr;refine⟨_,λ i=>bj (h1 i) (k1 i) (hs i),λ U σ H ρ lab Q R W=>?_⟩;refine h2 U σ H ρ lab _ R (W.bd.imp λ d _ w x H1 s1 r1=>?_);refine k2 U σ H1 ρ lab _ (R.up s1) (w.bd.imp λ ds _ w xs H2 s2 r2=>?_);exact w (x::xs) H2 (s1.trans s2) (.cons (r1.mono s2 λ p o _ z=>aEY z) (r2.wk λ p o _ z=>aEX (jX s1 z)))
def cH(g:En->Rs (List D)):En->Rs D:=λ ρ=>(g ρ).bd λ ds=>if ds.length<=zAO then .ok (.tup ds)else .st
def eE(g:En->Rs (List D)):En->Rs D:=λ ρ=>(g ρ).bd λ ds=>if ds.length<=zAO then .ok (.lst ds)else .st
def bQ{x1}(h:SA C m es g):SE C m (.Tuple es x1 pos) (cH g):=by
 obtain⟨t,h1,h2⟩:=h;refine⟨_,λ i=>aF2 (h1 i),λ U σ H ρ lab Q R W=>h2 U σ H ρ lab _ R (W.bd.imp λ ds _ w xs H1 s1 r1=>?_)⟩;by_cases hz:ds.length<=zAO
 .rw[if_pos hz]at w
  exact⟨by rw[r1.length];exact hz,λ p H' s hp _=>w _ H' (s1.trans s) (.tup (SqT.of hp) (r1.up s))⟩
 .rw[if_neg hz]at w
  exact zAJ w
def aDF(h:SA C m es g):SE C m (.List es pos) (eE g):=by
 obtain⟨t,h1,h2⟩:=h;refine⟨_,λ i=>wZ (h1 i),λ U σ H ρ lab Q R W=>h2 U σ H ρ lab _ R (W.bd.imp λ ds _ w xs H1 s1 r1=>?_)⟩;by_cases hz:ds.length<=zAO
 .rw[if_pos hz]at w
  exact⟨by rw[r1.length];exact hz,λ p H' s hp hn=>w _ H' (s1.trans s) (.lst hp (.inl (s1.free hn)) ((r1.wk λ q o e z=>⟨z,λ e'=>by subst e';rw[hn]at e;cases e⟩).up s))⟩
 .rw[if_neg hz]at w
  exact zAJ w
def aFM:SE C (some []) (.Dict [] [] pos) (cD (.dct [] [])):=
 ⟨_,λ _=>aDb,λ U σ H ρ lab Q R W p H' s hp hn=>W _ H' s (.dK (kvs:=[]) hp (.inl hn) .nil)⟩
def aKQ(H:Hp)(v:V)(d:D):Prop:=aCL d=true->∃a,v= .ref a/\H a=none
def aJD(K:zAA)(G:Gx)(m:Mode)(t:TE)(f:En->Rs D):Prop:=∀U σ H ρ lab (Q:VK),RR K G U ρ σ H lab->WR G (f ρ) (λ d=>∀v H',aQ H H'->Rp K (fpM m lab H) H' v d->aKQ H v d->Q v H')->t σ H Q
def SF(C:Ct)(m:Mode)(e:Expr)(f:En->Rs D):Prop:=∃t,(∀i,PE (C.X i) e t)/\aJD C.K C.G m t f
def jN.toF{K:zAA}{G:Gx}{t:TE}{f:En->Rs D}(h:jN K G (some []) t f):aJD K G (some []) t f:=λ U σ H ρ lab Q R W=>
 h U σ H ρ lab Q R (W.imp λ d _ w v H' s r=>w v H' s r λ hm=>by
  obtain⟨a,rfl⟩:=aHf r hm;obtain⟨o,_,_,z⟩:=aDM r hm;rcases z with z|z
  .exact⟨a,rfl,z⟩
  .cases z)
def aH7(h:SE C (some []) e f):SF C (some []) e f:=let⟨t,h1,h2⟩:=h;⟨t,h1,h2.toF⟩
def iI(h:SA C m es g):SF C m (.List es pos) (eE g):=by
 obtain⟨t,h1,h2⟩:=h;refine⟨_,λ i=>wZ (h1 i),λ U σ H ρ lab Q R W=>h2 U σ H ρ lab _ R (W.bd.imp λ ds _ w xs H1 s1 r1=>?_)⟩;by_cases hz:ds.length<=zAO
 .rw[if_pos hz]at w
  exact⟨by rw[r1.length];exact hz,λ p H' s hp hn=>w _ H' (s1.trans s) (.lst hp (.inl (s1.free hn)) ((r1.wk λ q o e z=>⟨z,λ e'=>by subst e';rw[hn]at e;cases e⟩).up s)) λ _=>⟨p,rfl,s1.free hn⟩⟩
 .rw[if_neg hz]at w
  exact zAJ w
def OpS(K:zAA)(r:R2)(fd:D->D->Rs D):Prop:=∀(A:Addr->Prop) x y d e H (Q:VK) z,Rp K A H x d->Rp K A H y e->fd d e= .ok z->(∀v H',aQ H H'->Rp K (λ p=>H p=none\/A p) H' v z->Q v H')->r x y H Q
def pG(K:zAA)(r:List V->Hp->VK->Prop)(fd:List D->Rs D):Prop:=∀(A:Addr->Prop) xs ds H (Q:VK) z,Rps K A H xs ds->fd ds= .ok z->(∀v H',aQ H H'->Rp K (λ p=>H p=none\/A p) H' v z->Q v H')->r xs H Q
def okD(r:Rs D):Rs D:=match r with
 | .ok d=>.ok d
 |_=>.st
def op2(fd:D->D->Rs D)(fa fb:En->Rs D):En->Rs D:=λ ρ=>(fa ρ).bd λ x=>(fb ρ).bd λ y=>okD (fd x y)
def op1(fd:D->Rs D)(fa:En->Rs D):En->Rs D:=λ ρ=>(fa ρ).bd λ x=>okD (fd x)
def opA(fd:List D->Rs D)(fa:En->Rs (List D)):En->Rs D:=λ ρ=>(fa ρ).bd λ x=>okD (fd x)
theorem WR.okD(h:WR G (okD r) P):∃z,r= .ok z/\P z:=by
 cases r with
 |ok z=>exact⟨z,rfl,h⟩
 |ex c=>exact zAJ h
 |st=>exact zAJ h
def wH{K:zAA}{G:Gx}{r:R2}{ta tb:TE}{fd:D->D->Rs D}(hs:OpS K r fd)(h1:jN K G m1 ta fa)(h2:jN K G m2 tb fb):jN K G (jn m1 m2) (tOp r ta tb) (op2 fd fa fb):=by
 intro U σ H ρ lab Q R W;refine h1 U σ H ρ lab _ R (W.bd.imp λ d _ w x H1 s1 r1=>?_);refine h2 U σ H1 ρ lab _ (R.up s1) (w.bd.imp λ e _ w y H2 s2 r2=>?_);obtain⟨z,ez,w⟩:=w.okD;refine hs (fpM (jn m1 m2) lab H) x y d e H2 Q z (r1.mono s2 λ p o _ q=>aEY q) (r2.wk λ p o _ q=>aEX (jX s1 q)) ez λ v H' s r=>w v H' ((s1.trans s2).trans s) (r.wk λ p o _ q=>?_)
 rcases q with q|q
 .exact .inl ((s1.trans s2).free q)
 .exact q
def aBS{K:zAA}{G:Gx}{r:List V->Hp->VK->Prop}{ta:TA}{fd:List D->Rs D}(hs:pG K r fd)(h1:aGf K G m ta g):jN K G m (tCB r ta) (opA fd g):=by
 intro U σ H ρ lab Q R W;refine h1 U σ H ρ lab _ R (W.bd.imp λ d _ w x H1 s1 r1=>?_);obtain⟨z,ez,w⟩:=w.okD;refine hs (fpM m lab H) x d H1 Q z r1 ez λ v H' s r=>w v H' (s1.trans s) (r.wk λ p o _ q=>?_)
 rcases q with q|q
 .exact .inl (s1.free q)
 .exact q
def fW(h:SE C m e f)(hi:∀ρ d,f ρ= .ok d->imm d=true):SE C (some []) e f:=by
 obtain⟨t,h1,h2⟩:=h;exact⟨t,h1,λ U σ H ρ lab Q R W=>h2 U σ H ρ lab Q R (W.imp λ d ed w v H' s r=>w v H' s (r.imm (hi ρ d ed)))⟩
def jo(h:∀x y z,fd x y= .ok z->imm z=true)(e:op2 fd fa fb ρ= .ok d):imm d=true:=by
 obtain⟨x,_,e⟩:=di e;obtain⟨y,_,e⟩:=di e;unfold okD at e;split at e
 .rename_i z hz
  cases e;exact h x y _ hz
 .cases e
def lz(h:∀x z,fd x= .ok z->imm z=true)(e:opA fd g ρ= .ok d):imm d=true:=by
 obtain⟨x,_,e⟩:=di e;unfold okD at e;split at e
 .rename_i z hz
  cases e;exact h x _ hz
 .cases e
def sS(ro:∀i,OpR (C.X i) (zBe op) r)(hs:OpS C.K r fd)(ha:SE C m1 a fa)(hb:SE C m2 b fb):SE C (jn m1 m2) (.BinOp a op b pos) (op2 fd fa fb):=by
 obtain⟨t,h1,h2⟩:=ha;obtain⟨u,k1,k2⟩:=hb;exact⟨_,λ i=>aJ4 (ro i) (h1 i) (k1 i),wH hs h2 k2⟩
def aAU(ro:∀i,OpR (C.X i) (zAr op) r)(hs:OpS C.K r fd)(ha:SE C m1 a fa)(hb:SE C m2 b fb)(hm:zCD op b=false:=by first|exact aDp _|(with_unfolding_all rfl)):
  SE C (jn m1 m2) (.Compare a [op] [b] pos) (op2 fd fa fb):=by
 obtain⟨t,h1,h2⟩:=ha;obtain⟨u,k1,k2⟩:=hb;exact⟨_,λ i=>aF6 (ro i) (h1 i) (k1 i) hm,wH hs h2 k2⟩
variable{p:Pos}{x:Str}{id T:String}
def kW(ro:∀i,cA (C.X i) (.builtin id) r)(hs:pG C.K r fd)(hg:∀i,Gl (C.X i) x)(hm:C.mg x=none)(hv:zAq x=some (.builtin id))(ha:SA C m (e::es) g)
  (hn:x≠"__name__":=by decide)(hdb:Nd x:=by decide)(he:∀i,zAY (e::es) (C.X i).env=(false,eval e (C.X i).env)::zAY es (C.X i).env:=by intro _;rfl)
  (hpl:∀i,(zBx pos (zAY es (C.X i).env)).any (·.1)=false:=by intro _;rfl):SE C m (.Call (.Name x p) (e::es) [] pos) (opA fd g):=by
 obtain⟨t,h1,h2⟩:=ha;exact⟨_,λ i=>lD (ro i) (hg i) (by rw[(C.cx i).2.2.2.1];exact hm) hv (h1 i) hn hdb (he i) (hpl i),aBS hs h2⟩
def yc(ro:∀i,cA (C.X i) (.type T) r)(hs:pG C.K r fd)(hg:∀i,Gl (C.X i) x)(hm:C.mg x=none)(hv:zAq x=some (.type T))(ha:SA C m (e::es) g)
  (hn:x≠"__name__":=by decide)(hdb:Nd x:=by decide)(he:∀i,zAY (e::es) (C.X i).env=(false,eval e (C.X i).env)::zAY es (C.X i).env:=by intro _;rfl)
  (hpl:∀i,(zBx pos (zAY es (C.X i).env)).any (·.1)=false:=by intro _;rfl):SE C m (.Call (.Name x p) (e::es) [] pos) (opA fd g):=by
 obtain⟨t,h1,h2⟩:=ha;exact⟨_,λ i=>fY (ro i) (hg i) (by rw[(C.cx i).2.2.2.1];exact hm) hv (h1 i) hn hdb (he i) (hpl i),aBS hs h2⟩
def uy(f g:En->Rs D):En->Rs D:=λ ρ=>(f ρ).bd λ d=>match d with
 | .bl true=>g ρ
 | .bl false=>.ok (.bl false)
 |_=>.st
def orD(f g:En->Rs D):En->Rs D:=λ ρ=>(f ρ).bd λ d=>match d with
 | .bl false=>g ρ
 | .bl true=>.ok (.bl true)
 |_=>.st
def aIY:D->Rs D
 | .bl b=>.ok (.bl (!b))
 |_=>.st
variable{rest:List Expr}
def kO{op}(h:SE C m a fa):SE C m (.BoolOp op [a] pos) fa:=by
 obtain⟨t,h1,h2⟩:=h;exact⟨_,λ i=>aIB (h1 i),h2⟩
def kY(ha:SE C m1 a fa)(hb:SE C m2 (.BoolOp .And (b::rest) pos) fb):SE C m2 (.BoolOp .And (a::b::rest) pos) (uy fa fb):=by
 obtain⟨t,h1,h2⟩:=ha;obtain⟨u,k1,k2⟩:=hb;refine⟨_,λ i=>aIF (h1 i) (k1 i),λ U σ H ρ lab Q R W=>h2 U σ H ρ lab _ R (W.bd.imp λ d _ w x H1 s1 r1=>?_)⟩;cases r1 with
 |bl c=>
  refine⟨c,rfl,?_⟩;cases c with
  |true=>
   rw[if_pos rfl];exact k2 U σ H1 ρ lab Q (R.up s1) (w.imp λ z _ w v H' s r=>w v H' (s1.trans s) (r.wk λ p o _ q=>jX s1 q))
  |false=>
   rw[if_neg zA5];exact w _ H1 s1 (.bl false)
 |_=>exact zAJ w
def aJR(ha:SE C m1 a fa)(hb:SE C m2 (.BoolOp .Or (b::rest) pos) fb):SE C m2 (.BoolOp .Or (a::b::rest) pos) (orD fa fb):=by
 obtain⟨t,h1,h2⟩:=ha;obtain⟨u,k1,k2⟩:=hb;refine⟨_,λ i=>aJ3 (h1 i) (k1 i),λ U σ H ρ lab Q R W=>h2 U σ H ρ lab _ R (W.bd.imp λ d _ w x H1 s1 r1=>?_)⟩;cases r1 with
 |bl c=>
  refine⟨c,rfl,?_⟩;cases c with
  |false=>
   rw[if_neg zA5];exact k2 U σ H1 ρ lab Q (R.up s1) (w.imp λ z _ w v H' s r=>w v H' (s1.trans s) (r.wk λ p o _ q=>jX s1 q))
  |true=>
   rw[if_pos rfl];exact w _ H1 s1 (.bl true)
 |_=>exact zAJ w
def aH9(ha:SE C m a fa):SE C (some []) (.UnaryOp .Not a pos) (op1 aIY fa):=by
 obtain⟨t,h1,h2⟩:=ha;refine⟨_,λ i=>aIC (h1 i),λ U σ H ρ lab Q R W=>h2 U σ H ρ lab _ R (W.bd.imp λ d _ w x H1 s1 r1=>?_)⟩;obtain⟨z,ez,w⟩:=w.okD;cases r1 with
 |bl c=>cases ez;exact⟨c,rfl,w _ H1 s1 (.bl _)⟩
 |_=>cases ez
def ifD(c:En->Rs Bool)(f g:En->Rs D):En->Rs D:=λ ρ=>(c ρ).bd λ k=>if k=true then f ρ else g ρ
def aGt(hc:ST C c fc)(ha:SE C m1 a fa)(hb:SE C m2 b fb):SE C (jn m1 m2) (.IfExp c a b pos) (ifD fc fa fb):=by
 obtain⟨tc,c1,c2⟩:=hc;obtain⟨t,h1,h2⟩:=ha;obtain⟨u,k1,k2⟩:=hb;refine⟨_,λ i=>aDa (c1 i) (h1 i) (k1 i),λ U σ H ρ lab Q R W=>c2 U σ H ρ lab _ R (W.bd.imp λ k _ w H1 s1=>?_)⟩;cases k with
 |true=>
  rw[if_pos rfl]at w ⊢;exact h2 U σ H1 ρ lab Q (R.up s1) (w.imp λ z _ w v H' s r=>w v H' (s1.trans s) (r.wk λ p o _ q=>aEY (jX s1 q)))
 |false=>
  rw[if_neg zA5]at w ⊢;exact k2 U σ H1 ρ lab Q (R.up s1) (w.imp λ z _ w v H' s r=>w v H' (s1.trans s) (r.wk λ p o _ q=>aEX (jX s1 q)))
def chD(fd fd':D->D->Rs D)(fa fb fc:En->Rs D):En->Rs D:=λ ρ=>(fa ρ).bd λ x=>(fb ρ).bd λ y=>(okD (fd x y)).bd λ z=>match z with
 | .bl true=>(fc ρ).bd λ w=>okD (fd' y w)
 | .bl false=>.ok (.bl false)
 |_=>.st
def aBy{K:zAA}{G:Gx}{r r':R2}{ta tb tc:TE}{fd fd':D->D->Rs D}{fc:En->Rs D}{m3:Mode}(hs:OpS K r fd)(hs':OpS K r' fd')(hi:∀x y z,fd' x y= .ok z->imm z=true)(h1:jN K G m1 ta fa)(h2:jN K G m2 tb fb)(h3:jN K G m3 tc fc):
  jN K G (some []) (aCm r r' ta tb tc) (chD fd fd' fa fb fc):=by
 intro U σ H ρ lab Q R W;refine h1 U σ H ρ lab _ R (W.bd.imp λ d _ w x H1 s1 r1=>?_);refine h2 U σ H1 ρ lab _ (R.up s1) (w.bd.imp λ e _ w y H2 s2 r2=>?_);obtain⟨z,ez,w⟩:=w.bd.okD;refine hs (λ _=>True) x y d e H2 _ z (r1.mono s2 λ p o _ q=>trivial) (r2.wk λ p o _ q=>trivial) ez λ v H3 s3 r3=>?_
 cases r3 with
 |bl c=>
  refine⟨c,rfl,?_⟩;cases c with
  |false=>
   rw[if_neg zA5];exact w _ H3 ((s1.trans s2).trans s3) (.bl false)
  |true=>
   rw[if_pos rfl];refine h3 U σ H3 ρ lab _ ((R.up s1).up (s2.trans s3)) (w.bd.imp λ e' _ w y' H4 s4 r4=>?_);obtain⟨z',ez',w⟩:=w.okD;exact hs' (λ _=>True) y y' e e' H4 Q z' (r2.mono (s3.trans s4) λ p o _ q=>trivial) (r4.wk λ p o _ q=>trivial) ez' λ v H5 s5 r5=>w v H5 ((((s1.trans s2).trans s3).trans s4).trans s5) (r5.imm (hi _ _ _ ez'))
 |_=>exact zAJ w
def yZ(ro:∀i,OpR (C.X i) (zAr op) r)(hs:OpS C.K r fd)(ro':∀i,OpR (C.X i) (zAr op') r')(hs':OpS C.K r' fd')(hi:∀x y z,fd' x y= .ok z->imm z=true)
  (ha:SE C m1 a fa)(hb:SE C m2 b fb)(hc:SE C m3 c fc)(hm:zHG [op,op'] [b,c]=false:=by with_unfolding_all rfl):SE C (some []) (.Compare a [op,op'] [b,c] pos) (chD fd fd' fa fb fc):=by
 obtain⟨t,h1,h2⟩:=ha;obtain⟨u,k1,k2⟩:=hb;obtain⟨v,l1,l2⟩:=hc;exact⟨_,λ i=>aDc (ro i) (ro' i) (h1 i) (k1 i) (l1 i) hm,aBy hs hs' hi h2 k2 l2⟩
def aHZ:D->Rs Bool
 | .non=>.ok false
 | .bl b=>.ok b
 | .int i=>.ok (i !=0)
 | .tup l=>.ok (!l.isEmpty)
 | .lst l=>.ok (!l.isEmpty)
 |_=>.st
def blD:D->Rs Bool
 | .bl b=>.ok b
 |_=>.st
def tst(f:En->Rs D):En->Rs Bool:=λ ρ=>(f ρ).bd aHZ
def tsb(f:En->Rs D):En->Rs Bool:=λ ρ=>(f ρ).bd blD
def uA{K:zAA}{A:Addr->Prop}{H:Hp}{xs:List V}{ds:List D}(r:Rps K A H xs ds):(!ds.isEmpty)= !xs.isEmpty:=by cases r<;>rfl
def my(ha:SE C m a fa)(he:∀i whole,isTrue a (C.X i).env whole=(do let v <-whole;standAt a.pos;zFw [v] (truthy v)):=by intro _ _;rfl):ST C a (tst fa):=by
 obtain⟨t,h1,h2⟩:=ha;refine⟨λ σ H Q=>t σ H λ x H'=>∃k,aJA C.K x H' k/\Q k H',λ i=>by rw[<-C.hK i];exact aDY (h1 i) (he i),λ U σ H ρ lab Q R W=>h2 U σ H ρ lab _ R (W.bd.imp λ d _ w x H1 s1 r1=>?_)⟩;cases r1 with
 |non=>exact⟨false,rfl,w H1 s1⟩
 |bl b=>exact⟨b,rfl,w H1 s1⟩
 |int i=>exact⟨i !=0,rfl,w H1 s1⟩
 |tup h r=>exact⟨_,.inr (.inl ⟨_,h,rfl⟩),by rw[<-uA r];exact w H1 s1⟩
 |lst h m r=>exact⟨_,.inl ⟨_,SqL.of h,rfl⟩,by rw[<-uA r];exact w H1 s1⟩
 |_=>exact zAJ w
def aFC{K:zAA}{G:Gx}{t:TE}{f:En->Rs D}(h:jN K G m t f):aCa K G (aGm t) (tsb f):=λ U σ H ρ lab Q R W=>h U σ H ρ lab _ R (W.bd.imp λ d _ w x H1 s1 r1=>by
 cases r1 with
 |bl b=>exact⟨b,rfl,w H1 s1⟩
 |_=>exact zAJ w)
def jd(ro:∀i,OpR (C.X i) (zAr op) r)(hs:OpS C.K r fd)(ha:SE C m1 a fa)(hb:SE C m2 b fb)(hm:zCD op b=false:=by first|exact aDp _|(with_unfolding_all rfl)):
  ST C (.Compare a [op] [b] pos) (tsb (op2 fd fa fb)):=by
 obtain⟨t,h1,h2⟩:=ha;obtain⟨u,k1,k2⟩:=hb;exact⟨_,λ i=>aFV (ro i) (h1 i) (k1 i) hm,aFC (wH hs h2 k2)⟩
variable{ga gb:En->Rs Bool}
def aGd(f g:En->Rs Bool):En->Rs Bool:=λ ρ=>(f ρ).bd λ k=>if k=true then g ρ else .ok false
def orT(f g:En->Rs Bool):En->Rs Bool:=λ ρ=>(f ρ).bd λ k=>if k=true then .ok true else g ρ
def qx(f:En->Rs Bool):En->Rs Bool:=λ ρ=>(f ρ).bd λ k=>.ok (!k)
def aEu(ha:ST C a ga):SW C (.BoolOp .And [a] pos) ga:=let⟨t,h1,h2⟩:=ha;⟨t,λ i=>aFU (h1 i),h2⟩
def wA(ha:ST C a ga):SW C (.BoolOp .Or [a] pos) ga:=let⟨t,h1,h2⟩:=ha;⟨t,λ i=>aHn (h1 i),h2⟩
def aCo(ha:ST C a ga)(hb:SW C (.BoolOp .And (b::rest) pos) gb):SW C (.BoolOp .And (a::b::rest) pos) (aGd ga gb):=by
 obtain⟨t,h1,h2⟩:=ha;obtain⟨u,k1,k2⟩:=hb;refine⟨_,λ i=>aHo (h1 i) (k1 i),λ U σ H ρ lab Q R W=>h2 U σ H ρ lab _ R (W.bd.imp λ k _ w H1 s1=>?_)⟩;cases k with
 |true=>
  rw[if_pos rfl]at w ⊢;exact k2 U σ H1 ρ lab Q (R.up s1) (w.imp λ z _ w H' s=>w H' (s1.trans s))
 |false=>
  rw[if_neg zA5]at w ⊢;exact w H1 s1
def aBK(ha:ST C a ga)(hb:SW C (.BoolOp .Or (b::rest) pos) gb):SW C (.BoolOp .Or (a::b::rest) pos) (orT ga gb):=by
 obtain⟨t,h1,h2⟩:=ha;obtain⟨u,k1,k2⟩:=hb;refine⟨_,λ i=>aJ1 (h1 i) (k1 i),λ U σ H ρ lab Q R W=>h2 U σ H ρ lab _ R (W.bd.imp λ k _ w H1 s1=>?_)⟩;cases k with
 |false=>
  rw[if_neg zA5]at w ⊢;exact k2 U σ H1 ρ lab Q (R.up s1) (w.imp λ z _ w H' s=>w H' (s1.trans s))
 |true=>
  rw[if_pos rfl]at w ⊢;exact w H1 s1
def kI(ha:ST C a ga):ST C (.UnaryOp .Not a pos) (qx ga):=by
 obtain⟨t,h1,h2⟩:=ha;exact⟨_,λ i=>aHr (h1 i),λ U σ H ρ lab Q R W=>h2 U σ H ρ lab _ R (W.bd.imp λ k _ w H1 s1=>w H1 s1)⟩
end
inductive Ou where
 |nx (ρ:En)|rt (d:D)|bk (ρ:En)|ct (ρ:En)|ex (c:Str)|st
noncomputable def Rs.bo{α:Type}:Rs α->(α->Ou)->Ou
 | .ok a,f=>f a
 | .ex c,_=>.ex c
 | .st,_=>.st
@[simp] def bG(a:α)(f:α->Ou):(Rs.ok a).bo f=f a:=aN rfl
noncomputable def Ou.sq:Ou->(En->Ou)->Ou
 | .nx ρ,f=>f ρ
 |o,_=>o
@[simp] def aR(ρ:En)(f:En->Ou):(Ou.nx ρ).sq f=f ρ:=aN rfl
@[simp] def sq_rt(d:D)(f:En->Ou):(Ou.rt d).sq f= .rt d:=aN rfl
def WS(K:zAA)(G:Gx)(U:List (V×D))(o:Ou)(De:Ends):Prop:=match o with
 | .nx ρ=>∀σ H lab,RR K G U ρ σ H lab->De.nx σ H
 | .bk ρ=>∀σ H lab,RR K G U ρ σ H lab->De.bk σ H
 | .ct ρ=>∀σ H lab,RR K G U ρ σ H lab->De.ct σ H
 | .rt d=>∀v H,aQ G.H0 H->Rp K (λ p=>G.H0 p=none) H v d->De.rt v H
 | .ex c=>∀H',aQ G.H0 H'->G.E (.ref (G.cl c)) none H'
 | .st=>False
theorem WS.bo{K:zAA}(h:WS K G U (r.bo k) De):WR G r (λ a=>WS K G U (k a) De):=by
 cases r with
 |ok a=>exact h
 |ex c=>exact h
 |st=>exact h
def aKI(K:zAA)(G:Gx)(t:TS)(f:En->Ou):Prop:=∀U σ H ρ lab (De:Ends),RR K G U ρ σ H lab->WS K G U (f ρ) De->t De σ H
def SS(C:Ct)(s:Stmt)(f:En->Ou):Prop:=∃t,(∀i,PS (C.X i) s t)/\aKI C.K C.G t f
def SSs(C:Ct)(s:List Stmt)(f:En->Ou):Prop:=∃t,(∀i,PSs (C.X i) s t)/\aKI C.K C.G t f
section
variable{C:Ct}{pos:Pos}{s:Stmt}{ss:List Stmt}{f g:En->Ou}{e:Expr}{m:Mode}{fe:En->Rs D}
def bT:SSs C [] .nx:=⟨_,λ _=>aB2,λ U σ H ρ lab De R W=>W σ H lab R⟩
def aW(f g:En->Ou):En->Ou:=λ ρ=>(f ρ).sq g
def aL(h:SS C s f):SSs C [s] f:=let⟨t,h1,h2⟩:=h;⟨t,λ i=>aB1 (h1 i),h2⟩
def aG(h:SS C s f)(k:SSs C ss g):SSs C (s::ss) (aW f g):=by
 obtain⟨t,h1,h2⟩:=h;obtain⟨u,k1,k2⟩:=k;refine⟨_,λ i=>yw (h1 i) (k1 i),λ U σ H ρ lab De R W=>h2 U σ H ρ lab _ R ?_⟩;unfold aW at W;cases h:f ρ with
 |nx ρ'=>rw[h]at W;exact λ σ' H' lab' R'=>k2 U σ' H' ρ' lab' De R' W
 |rt d=>rw[h]at W;exact W
 |bk ρ'=>rw[h]at W;exact W
 |ct ρ'=>rw[h]at W;exact W
 |ex c=>rw[h]at W;exact W
 |st=>rw[h]at W;exact W
def frz(i:Nat)(ρ:En):En:=match ρ[i]? with
 |some (.ow d)=>ρ.set i (.nw d)
 |some (.o2 l)=>ρ.set i (.nw (.lst (l.map .lst)))
 |_=>ρ
def aJd:Mode->Bool
 |some L=>L.all (·!=0)
 |none=>false
def retS(fe:En->Rs D):En->Ou:=λ ρ=>(fe ρ).bo .rt
def bA(he:SE C m e fe)(hm:aJd m=true:=by rfl):SS C (.Return (some e) pos) (retS fe):=by
 obtain⟨t,h1,h2⟩:=he;refine⟨_,λ i=>aHs (h1 i),λ U σ H ρ lab De R W=>h2 U σ H ρ lab _ R (W.bo.imp λ d _ w v H' s r=>w v H' (R.old.trans s) (r.wk λ p o _ z=>?_))⟩;rcases z with z|z
 .exact R.old.free z
 .cases m with
  |none=>cases hm
  |some L=>
   refine R.new p λ e0=>?_
   have:=zAv.mp hm _ z
   rw[e0]at this;simp at this
def v6(fe:En->Rs D):En->Ou:=λ ρ=>(fe ρ).bo λ _=>.nx ρ
def aBP(he:SE C m e fe)(hs:∀i,zBm e none pos.line (C.X i).env=pure false:=by intro _;rfl):SS C (.Expr e pos) (v6 fe):=by
 obtain⟨t,h1,h2⟩:=he;exact⟨_,λ i=>jh (h1 i) (hs i),λ U σ H ρ lab De R W=>h2 U σ H ρ lab _ R (W.bo.imp λ d _ w v H' s r=>w σ H' lab (R.up s))⟩
def ifS(c:En->Rs Bool)(f g:En->Ou):En->Ou:=λ ρ=>(c ρ).bo λ k=>if k=true then f ρ else g ρ
def dX{a b:List Stmt}(hc:ST C c fc)(ha:SSs C a f)(hb:SSs C b g):SS C (.If c a b pos) (ifS fc f g):=by
 obtain⟨tc,c1,c2⟩:=hc;obtain⟨t,h1,h2⟩:=ha;obtain⟨u,k1,k2⟩:=hb;refine⟨_,λ i=>aHH (c1 i) (h1 i) (k1 i),λ U σ H ρ lab De R W=>c2 U σ H ρ lab _ R (W.bo.imp λ k _ w H1 s1=>?_)⟩;cases k with
 |true=>rw[if_pos rfl]at w ⊢;exact h2 U σ H1 ρ lab De (R.up s1) w
 |false=>rw[if_neg zA5]at w ⊢;exact k2 U σ H1 ρ lab De (R.up s1) w
def SV(C:Ct)(i:Nat)(s:Stmt)(m:Mode)(f:En->Rs D):Prop:=∃t,(∀j,PS (C.X j) s (aCn t (qR i)))/\jN C.K C.G m t f
def gQ(he:SE C m e fe)(hN:∀j,(C.X j).N[i]? =some x:=by intro _;rfl)(hx:∀j,Loc (C.X j).env.scope x:=by intro _;first|exact zB3 rfl|exact zBD rfl)(hs:∀j,zBm e (some (.Name x pos')) pos.line (C.X j).env=pure false:=by intro _;rfl)(hf:∀j,(C.X j).fn x=true\/(C.X j).env.scope.names.lookup x=some .local:=by intro _;first|exact .inl rfl|exact .inr rfl)(nd:∀j,(C.X j).N.Nodup:=by intro _;assumption):
  SV C i (.Assign [.Name x pos'] e pos) m fe:=by
 obtain⟨t,h1,h2⟩:=he;exact⟨t,λ j=>aD0 (nd j) (hN j) (hx j) (h1 j) (hs j) (hf j),h2⟩
def SVF(C:Ct)(i:Nat)(s:Stmt)(m:Mode)(f:En->Rs D):Prop:=∃t,(∀j,PS (C.X j) s (aCn t (qR i)))/\aJD C.K C.G m t f
def iz(he:SF C m e fe)(hN:∀j,(C.X j).N[i]? =some x:=by intro _;rfl)(hx:∀j,Loc (C.X j).env.scope x:=by intro _;first|exact zB3 rfl|exact zBD rfl)(hs:∀j,zBm e (some (.Name x pos')) pos.line (C.X j).env=pure false:=by intro _;rfl)(hf:∀j,(C.X j).fn x=true\/(C.X j).env.scope.names.lookup x=some .local:=by intro _;first|exact .inl rfl|exact .inr rfl)(nd:∀j,(C.X j).N.Nodup:=by intro _;assumption):
  SVF C i (.Assign [.Name x pos'] e pos) m fe:=by
 obtain⟨t,h1,h2⟩:=he;exact⟨t,λ j=>aD0 (nd j) (hN j) (hx j) (h1 j) (hs j) (hf j),h2⟩
def aB7(P:Nat->Bool):Mode->Bool
 |some L=>L.all P
 |none=>false
def ji(h:aB7 P m=true):∀k,inM m k->P k=true:=by
 intro k hk;cases m with
 |none=>cases h
 |some L=>exact zAv.mp h k hk
abbrev okS:Mode->Bool:=aB7 λ k=>decide (k<=1)
abbrev okN:Mode->Bool:=aB7 λ k=>k==1
abbrev okO(i:Nat):Mode->Bool:=aB7 λ k=>k==1||k==i+2
def cQ(i:Nat)(fe:En->Rs D):En->Ou:=λ ρ=>(fe ρ).bo λ d=>.nx (ρ.set i (.sh d))
def ug(i:Nat)(fe:En->Rs D):En->Ou:=λ ρ=>(fe ρ).bo λ d=>.nx (ρ.set i (.nw d))
def fB(i:Nat)(fe:En->Rs D):En->Ou:=λ ρ=>(fe ρ).bo λ d=>.nx (ρ.set i (.ow d))
def RR.shared{K:zAA}(hm:okS m=true)(R:RR K G U ρ σ H lab)(s:aQ H H')(r:Rp K (fpM m lab H) H' v d):
  RR K G U ρ σ H' (bR H 1 lab)/\Rp K (λ p=>(bR H 1 lab p).1<=1) H' v d:=R.fresh (P:=λ k=>k<=1) (by decide) (λ k hk=>of_decide_eq_true (ji hm k hk)) s r
def b7{i:Nat}(h:SV C i s m fe)(hm:okS m=true:=by rfl):SS C s (cQ i fe):=by
 obtain⟨t,h1,h2⟩:=h;refine⟨_,h1,λ U σ H ρ lab De R W=>h2 U σ H ρ lab _ R (W.bo.imp λ d _ w v H' s r=>?_)⟩;obtain⟨R',r'⟩:=R.shared hm s r;exact w _ _ _ (R'.put (s:=.sh d) r')
def rB(h:SV C i s m fe)(hm:okN m=true:=by rfl):SS C s (ug i fe):=by
 obtain⟨t,h1,h2⟩:=h;refine⟨_,h1,λ U σ H ρ lab De R W=>h2 U σ H ρ lab _ R (W.bo.imp λ d _ w v H' s r=>?_)⟩;obtain⟨R',r'⟩:=R.fresh (P:=λ k=>k=1) rfl (λ k hk=>beq_iff_eq.mp (ji hm k hk)) s r;exact w _ _ _ (R'.put (s:=.nw d) r')
def dD(h:SVF C i s m fe)(hm:okO i m=true:=by rfl):SS C s (fB i fe):=by
 obtain⟨t,h1,h2⟩:=h;refine⟨_,h1,λ U σ H ρ lab De R W=>h2 U σ H ρ lab _ R (W.bo.imp λ d _ w v H' s r ht=>?_)⟩;obtain⟨lab',R',r'⟩:=R.freshO i (λ k hk=>by have:=ji hm k hk;simpa using this) s r ht;exact w _ _ _ (R'.put (s:=.ow d) r')
def aJC(K:zAA)(G:Gx)(g:TG)(fg:D->En->Rs En):Prop:=∀U v d σ H ρ lab (Q:L2.St->Hp->Prop) ρ',RR K G U ρ σ H lab->Rp K (λ p=>(lab p).1<=1) H v d->fg d ρ= .ok ρ'->(∀σ',RR K G U ρ' σ' H lab->Q σ' H)->g v σ H Q
def aKK(K:zAA)(G:Gx)(g:TGs)(fg:List D->En->Rs En):Prop:=∀U vs ds σ H ρ lab (Q:L2.St->Hp->Prop) ρ',RR K G U ρ σ H lab->Rps K (λ p=>(lab p).1<=1) H vs ds->fg ds ρ= .ok ρ'->(∀σ',RR K G U ρ' σ' H lab->Q σ' H)->g vs σ H Q
def SG(C:Ct)(tg:Expr)(ks:List Nat)(fg:D->En->Rs En):Prop:=∃g,(∀i,PG (C.X i) tg g)/\aJC C.K C.G g fg/\uW g ks/\aAD g
def SGs(C:Ct)(tg:List Expr)(ks:List Nat)(fg:List D->En->Rs En):Prop:=∃g,(∀i,PGs (C.X i) tg g)/\aKK C.K C.G g fg/\uV g ks/\qG g
def gnm(i:Nat):D->En->Rs En:=λ d ρ=>.ok (ρ.set i (.sh d))
def iU:List D->En->Rs En:=λ ds ρ=>match ds with
 |[]=>.ok ρ
 |_=>.st
def bC(f:D->En->Rs En)(g:List D->En->Rs En):List D->En->Rs En:=λ ds ρ=>match ds with
 |d::r=>(f d ρ).bd (g r)
 |_=>.st
def gq(n:Nat)(g:List D->En->Rs En):D->En->Rs En:=λ d ρ=>match d with
 | .tup ds=>if ds.length=n then g ds ρ else .st
 |_=>.st
variable{ks:List Nat}{fg:D->En->Rs En}{fgs:List D->En->Rs En}{tg:Expr}{tgs:List Expr}
def aj(hN:∀j,(C.X j).N[i]? =some x:=by intro _;rfl)(hx:∀j,Loc (C.X j).env.scope x:=by intro _;first|exact zB3 rfl|exact zBD rfl)(hf:∀j,(C.X j).fn x=true\/(C.X j).env.scope.names.lookup x=some .local:=by intro _;first|exact .inl rfl|exact .inr rfl)(nd:∀j,(C.X j).N.Nodup:=by intro _;assumption)(hk:i∈ks:=by decide):SG C (.Name x pos) ks (gnm i):=
 ⟨_,λ j=>aF1 (nd j) (hN j) (hx j) (hf j),λ U v d σ H ρ lab Q ρ' R r e q=>by cases e;exact q _ (R.put (s:=.sh d) r),aGU hk,aGW⟩
def je:SGs C [] ks iU:=by
 refine⟨_,λ _=>aF0,λ U vs ds σ H ρ lab Q ρ' R r e q=>?_,aGT,aGV⟩;cases r with
 |nil=>cases e;exact⟨rfl,q _ R⟩
 |cons _ _=>cases e
def bh(h:SG C tg ks fg)(k:SGs C tgs ks fgs)(hs:∀i,(zCT (tg::tgs) (C.X i).env).map (·.2)=zFb tg (C.X i).env::(zCT tgs (C.X i).env).map (·.2):=by intro _;rfl):SGs C (tg::tgs) ks (bC fg fgs):=by
 obtain⟨g,h1,h2,h3,h4⟩:=h;obtain⟨u,k1,k2,k3,k4⟩:=k;refine⟨_,λ i=>aD7 (h1 i) (k1 i) (hs i),λ U vs ds σ H ρ lab Q ρ' R r e q=>?_,aES h3 h4 k3 k4,aEU h4 k4⟩;cases r with
 |nil=>cases e
 |cons h r=>
  obtain⟨ρ1,e1,e2⟩:=di e;exact⟨_,_,rfl,h2 U _ _ σ H ρ lab _ ρ1 R h e1 λ σ1 R1=>k2 U _ _ σ1 H ρ1 lab Q ρ' R1 r e2 q⟩
def nD(h:SGs C tgs ks fgs)(hn:∀i,(zCT tgs (C.X i).env).length=n:=by intro _;rfl)(hst:∀i,(zCT tgs (C.X i).env).findIdx? (·.1)=none:=by intro _;rfl):SG C (.Tuple tgs k pos) ks (gq n fgs):=by
 obtain⟨u,k1,k2,k3,k4⟩:=h;refine⟨aGX C.K n u,λ i=>by rw[<-C.hK i];exact aHw (C.calm i) (k1 i) (hn i) (hst i),λ U v d σ H ρ lab Q ρ' R r e q=>?_,aIl k3,aIm k4⟩;cases r with
 |tup h r=>
  unfold gq at e;dsimp only at e;split at e
  .rename_i hl
   exact⟨_,_,rfl,h,by rw[r.length];exact hl,k2 U _ _ σ H ρ lab Q ρ' R r e q⟩
  .cases e
 |_=>cases e
def aBB(fe:En->Rs D)(fg:D->En->Rs En):En->Ou:=λ ρ=>(fe ρ).bo λ d=>match fg d ρ with
 | .ok ρ'=>.nx ρ'
 |_=>.st
def aCu(he:SE C m e fe)(hg:SG C tg ks fg)(hm:okS m=true:=by rfl)(hs:∀i,swapsWithSole [tg] e pos.line (C.X i).env=pure false:=by intro _;rfl)(hw:∀i,swappedStores [tg] e (C.X i).env=pure none:=by intro _;rfl)
  (h1:∀i,(zCT [tg] (C.X i).env).map (·.2)=[zFb tg (C.X i).env]:=by intro _;rfl):SS C (.Assign [tg] e pos) (aBB fe fg):=by
 obtain⟨t,p1,p2⟩:=he;obtain⟨g,q1,q2,_,_⟩:=hg;refine⟨_,λ i=>aHt (p1 i) (q1 i) (hs i) (hw i) (h1 i),λ U σ H ρ lab De R W=>p2 U σ H ρ lab _ R (W.bo.imp λ d _ w v H' s r=>?_)⟩;obtain⟨R',r'⟩:=R.shared hm s r;cases hgd:fg d ρ with
 |ok ρ'=>rw[hgd]at w;exact q2 U v d σ H' ρ _ _ ρ' R' r' hgd λ σ' R2=>w σ' H' _ R2
 |ex c=>rw[hgd]at w;exact zAJ w
 |st=>rw[hgd]at w;exact zAJ w
def JL(K:zAA)(lab:Lab)(J:It)(H:Hp)(ds:List D):Prop:=∀i,(ds.length<=i->J.stop i H)/\(i<ds.length->J.go i H/\∀x H',J.yld i H x H'->aQ H H'/\∃d,ds[i]? =some d/\Rp K (λ p=>(lab p).1<=1) H' x d)
def aJB(K:zAA)(G:Gx)(wi:TI)(f:En->Rs (List D)):Prop:=∀U σ H ρ lab (Rr:It->Hp->Prop),RR K G U ρ σ H lab->
 WR G (f ρ) (λ ds=>∀J H1 lab1 U1,aQ H H1->(∀p o,H p=some o->lab1 p=lab p)->RR K G (U1++U) ρ σ H1 lab1->(∀lab' H',(∀q∈U1,Rp K (λ p=>(lab' p).1<=1) H' q.1 q.2)->JL K lab' J H' ds)->Rr J H1)->wi σ H Rr
def SI(C:Ct)(tg iter:Expr)(f:En->Rs (List D)):Prop:=∃wi,(∀i,PI (C.X i) tg iter wi)/\aJB C.K C.G wi f
def aIj(K:zAA)(tl:TE):TI:=λ σ H R=>tl σ H λ x H1=>∃a,x= .ref a/\(((∃xs,SqL K H1 a xs)/\R (Itl K a) H1)\/((∃xs,SqT K H1 a xs)/\R (Itt K a) H1))
def aD6(hl:PE X l tl):PI X tg l (aIj X.K tl):=by
 intro hV s σ H R I h;refine thn (hl hV s σ H _ I h) λ v s1 ⟨x,H1,I1,r1,a,e,q1⟩=>?_
 subst e;cases r1;have hp:∀b∈[s1.heap.objs.size],uX X hV H1 b:=λ b hb=>by
  have e:b=s1.heap.objs.size:=by simpa using hb
  rw[e];exact I1.fpOk (zAU _) (I1.hok.fresh (zAU _))
 rcases q1 with ⟨⟨xs,hq⟩,q⟩|⟨⟨xs,hq⟩,q⟩
 .obtain⟨its,rv,p,hz⟩:=I1.list hq
  refine zHh p.isList ?_;exact⟨_,_,_,_,H1,rfl,I1.kept (t':=s1.toks) λ b o e=>zAC _ e,aBs a _,⟨_,zA1 _ rfl,rfl,rfl⟩,hp,q⟩
 .obtain⟨its,rv,p,hz⟩:=I1.tuple hq
  refine wpAny_pyIter_tuple (show s1.heap.IsTuple a its.toArray from p) ?_;exact⟨_,_,_,_,H1,rfl,I1.kept (t':=s1.toks) λ b o e=>zAC _ e,aAH a _,⟨_,zA1 _ rfl,rfl,rfl⟩,hp,q⟩
def itD:D->Rs (List D)
 | .tup l=>.ok l
 | .lst l=>.ok l
 | .scr l=>.ok (l.map .int)
 |_=>.st
def cL(fe:En->Rs D):En->Rs (List D):=λ ρ=>(fe ρ).bd itD
def aBc{K:zAA}(h:SqL K H a xs)(r:Rps K (λ p=>(lab p).1<=1) H xs ds):JL K lab (Itl K a) H ds:=by
 have hl:=r.length;refine λ i=>⟨λ hi=>⟨xs,h,by lia⟩,λ hi=>⟨⟨xs,xs[i]'(by lia),h,by simp[hl,hi]⟩,λ x H' y=>?_⟩⟩
 obtain⟨e,y⟩:=y;subst e;obtain⟨d,h1,h2⟩:=r.get (y xs h);exact⟨aQ.refl _,d,h1,h2⟩
def aIb{K:zAA}(h:SqT K H a xs)(r:Rps K (λ p=>(lab p).1<=1) H xs ds):JL K lab (Itt K a) H ds:=by
 have hl:=r.length;refine λ i=>⟨λ hi=>⟨xs,h,by lia⟩,λ hi=>⟨⟨xs,xs[i]'(by lia),h,by simp[hl,hi]⟩,λ x H' y=>?_⟩⟩
 obtain⟨e,y⟩:=y;subst e;obtain⟨d,h1,h2⟩:=r.get (y xs h);exact⟨aQ.refl _,d,h1,h2⟩
def cI(he:SE C m e fe)(hm:okS m=true:=by rfl):SI C tg e (cL fe):=by
 obtain⟨t,p1,p2⟩:=he;refine⟨aIj C.K t,λ i=>by rw[<-C.hK i];exact aD6 (p1 i),λ U σ H ρ lab Rr R W=>p2 U σ H ρ lab _ R (W.bd.imp λ d _ w v H1 s r=>?_)⟩;obtain⟨R',r'⟩:=R.shared hm s r;cases d with
 |tup l=>
  cases r' with
  |tup h q=>
   rename_i a xs;refine⟨_,rfl,.inr ⟨⟨_,h⟩,w _ H1 _ [(.ref a,.tup l)] s (λ p o e=>bD e) ⟨R'.len,R'.sl,R'.old,R'.new,λ z hz=>?_⟩ λ lab' H' hq=>?_⟩⟩
   .rcases zAX.mp hz with rfl|hz
    .exact .tup h q
    .exact R'.tm z hz
   .have z:=hq _ (zAL ..)
    cases z with
    |tup h' q'=>exact aIb h' q'
 |lst l=>
  cases r' with
  |lst h mm q=>
   rename_i a xs;refine⟨_,rfl,.inl ⟨⟨_,SqL.of h⟩,w _ H1 _ [(.ref a,.lst l)] s (λ p o e=>bD e) ⟨R'.len,R'.sl,R'.old,R'.new,λ z hz=>?_⟩ λ lab' H' hq=>?_⟩⟩
   .rcases zAX.mp hz with rfl|hz
    .exact .lst h mm q
    .exact R'.tm z hz
   .have z:=hq _ (zAL ..)
    cases z with
    |lst h' _ q'=>exact aBc (SqL.of h') (q'.wk λ _ _ _ z=>z.1)
 |scr l=>
  cases r' with
  |scr h=>
   rename_i a;refine⟨_,rfl,.inl ⟨⟨_,h.sq⟩,w _ H1 _ [(.ref a,.scr l)] s (λ p o e=>bD e) ⟨R'.len,R'.sl,R'.old,R'.new,λ z hz=>?_⟩ λ lab' H' hq=>?_⟩⟩
   .rcases zAX.mp hz with rfl|hz
    .exact .scr h
    .exact R'.tm z hz
   .have z:=hq _ (zAL ..)
    cases z with
    |scr h'=>exact aBc h'.sq Rps.ints
 |_=>exact zAJ w
end
section
variable{C:Ct}{pos:Pos}{s:Stmt}{ss:List Stmt}{f:En->Ou}{e a b:Expr}{es:List Expr}{m:Mode}{fa:En->Rs D}{ks:List Nat}{fg:D->En->Rs En}{tg:Expr}{fi:En->Rs (List D)}{ga:En->Rs (List D)}
def au(lo hi:Int):List D:=(zAw (hi-lo).toNat).map λ(k:Nat)=>.int (lo+(k:Int))
def iM:List D->Rs (List D)
 |[.int j]=>if -(2^62)<=j/\j<2^62 then .ok (au 0 j)else .st
 |_=>.st
def yo:List D->Rs (List D)
 |[.int i,.int j]=>if (-(2^62)<=i/\i<2^62)/\(-(2^62)<=j/\j<2^62)then .ok (au i j)else .st
 |_=>.st
def gW(r:List D->Rs (List D))(ga:En->Rs (List D)):En->Rs (List D):=λ ρ=>(ga ρ).bd r
def aED{K:zAA}{lo hi:Int}:JL K lab (Itr lo (hi-lo).toNat) H (au lo hi):=by
 have hl:(au lo hi).length=(hi-lo).toNat:=by unfold au;simp
 refine λ i=>⟨λ h=>by show(hi-lo).toNat<=i;lia,λ h=>⟨by show i<(hi-lo).toNat;lia,λ x H' y=>?_⟩⟩
 obtain⟨e,rfl⟩:=y;subst e;refine⟨aQ.refl _,.int (lo+i),?_,.int _⟩;unfold au;rw[zAT,zEH (by lia)];rfl
def fD(ha:SA C m [a] ga)(hm:C.mg "range"=none)(hs:∀i,zAY [a] (C.X i).env=[(false,eval a (C.X i).env)]:=by intro _;rfl)(hg:∀i,Gl (C.X i) "range":=by intro _;rfl):SI C tg (.Call (.Name "range" p) [a] [] pos) (gW iM ga):=by
 obtain⟨t,h1,h2⟩:=ha;refine⟨_,λ i=>aCG (hg i) (by rw[(C.cx i).2.2.2.1];exact hm) (h1 i) (hs i),λ U σ H ρ lab Rr R W=>h2 U σ H ρ lab _ R (W.bd.imp λ ds _ w vs H1 s r=>?_)⟩;unfold iM at w;split at w
 .rename_i j _
  split at w
  .rename_i hj
   cases r with
   |cons h r=>
    cases h;cases r;refine⟨j,rfl,hj.1,hj.2,?_⟩;have z:=w (Itr 0 (j-0).toNat) H1 lab [] s (λ _ _ _=>rfl) (R.up s) λ lab' H' _=>aED
    rwa [Int.sub_zero]at z
  .exact zAJ w
 .exact zAJ w
def wI(ha:SA C m [a,b] ga)(hm:C.mg "range"=none)(hs:∀i,zAY [a,b] (C.X i).env=[(false,eval a (C.X i).env),(false,eval b (C.X i).env)]:=by intro _;rfl)(hs2:∀i,zAY [b] (C.X i).env=[(false,eval b (C.X i).env)]:=by intro _;rfl)(hg:∀i,Gl (C.X i) "range":=by intro _;rfl):SI C tg (.Call (.Name "range" p) [a,b] [] pos) (gW yo ga):=by
 obtain⟨t,h1,h2⟩:=ha;refine⟨_,λ i=>aCF (hg i) (by rw[(C.cx i).2.2.2.1];exact hm) (h1 i) (hs i) (hs2 i),λ U σ H ρ lab Rr R W=>h2 U σ H ρ lab _ R (W.bd.imp λ ds _ w vs H1 s r=>?_)⟩;unfold yo at w;split at w
 .rename_i i j _
  split at w
  .rename_i hj
   cases r with
   |cons h r=>
    cases h;cases r with
    |cons h r=>
     cases h;cases r;exact⟨i,j,rfl,⟨hj.1.1,hj.1.2,hj.2.1,hj.2.2⟩,w (Itr i (j-i).toNat) H1 lab [] s (λ _ _ _=>rfl) (R.up s) λ lab' H' _=>aED⟩
  .exact zAJ w
 .exact zAJ w
def forL(fg:D->En->Rs En)(b:En->Ou):List D->En->Ou
 |[],ρ=>.nx ρ
 |d::ds,ρ=>match fg d ρ with
  | .ok ρ1=>match b ρ1 with
   | .nx ρ2=>forL fg b ds ρ2
   | .ct ρ2=>forL fg b ds ρ2
   | .bk ρ2=>.nx ρ2
   |o=>o
  |_=>.st
def gk(fi:En->Rs (List D))(fg:D->En->Rs En)(b:En->Ou):En->Ou:=λ ρ=>(fi ρ).bo λ ds=>forL fg b ds ρ
def cT(hi:SI C tg e fi)(hg:SG C tg ks fg)(hb:SSs C ss f)(hs:∀i,∀x,zB8 e (C.X i).env x=pure x:=by intro _ _;rfl):SS C (.For tg e ss [] pos) (gk fi fg f):=by
 obtain⟨wi,i1,i2⟩:=hi;obtain⟨gg,g1,g2,_,g4⟩:=hg;obtain⟨tb,b1,b2⟩:=hb;refine⟨_,λ i=>aD2 (C.own i) (C.calm i) (i1 i) (g1 i) (b1 i) (hs i),λ U σ H ρ lab De R W=>i2 U σ H ρ lab _ R (W.bo.imp λ ds _ w J H1 lab1 U1 s1 _ R1 jl=>?_)⟩;refine⟨λ i n σ' H'=>∃ρ' lab',RR C.K C.G (U1++U) ρ' σ' H' lab'/\n=ds.length-i/\i<=ds.length/\WS C.K C.G U (forL fg f (ds.drop i) ρ') De,⟨ds.length,ρ,lab1,R1,by lia,by lia,w⟩,?_⟩;rintro i n σ' H' ⟨ρ',lab',R',rfl,hi,w'⟩;have jj:=jl lab' H' λ q hq=>R'.tm q (zAK _ hq)
 by_cases hlt:i<ds.length
 .obtain⟨go,yl⟩:=(jj i).2 hlt
  refine .inr ⟨go,λ σ2 H2=>∃ρ2 lab2,RR C.K C.G (U1++U) ρ2 σ2 H2 lab2/\WS C.K C.G U (forL fg f (ds.drop (i+1)) ρ2) De,λ σ2 H2 ⟨ρ2,lab2,R2,w2⟩=>⟨ds.length-(i+1),by lia,ρ2,lab2,R2,rfl,hlt,w2⟩,λ x H2 hy=>?_⟩;obtain⟨s2,d,ed,rx⟩:=yl x H2 hy;replace R':=R'.up s2;have ed2:ds.drop i=d::ds.drop (i+1):=by
   rw[zBh hlt]
   have:=zAE hlt
   rw[ed]at this;cases this;rfl
  rw[ed2]at w';unfold forL at w';cases eg:fg d ρ' with
  |ex c=>rw[eg]at w';exact zAJ w'
  |st=>rw[eg]at w';exact zAJ w'
  |ok ρ1=>
   rw[eg]at w';refine g2 (U1++U) x d σ' H2 ρ' lab' _ ρ1 R' rx eg λ σ1 R1'=>b2 (U1++U) σ1 H2 ρ1 lab' _ R1' ?_
   dsimp only at w';cases eb:f ρ1 with
   |nx ρ2=>rw[eb]at w';exact λ σ2 H3 lab2 R2=>⟨ρ2,lab2,R2,w'⟩
   |ct ρ2=>rw[eb]at w';exact λ σ2 H3 lab2 R2=>⟨ρ2,lab2,R2,w'⟩
   |bk ρ2=>rw[eb]at w';exact λ σ2 H3 lab2 R2=>w' σ2 H3 lab2 R2.drop
   |rt d=>rw[eb]at w';exact w'
   |ex c=>rw[eb]at w';exact w'
   |st=>rw[eb]at w';exact w'
 .have e:i=ds.length:=by lia
  subst e;rw[zDZ]at w';exact .inl ⟨(jj _).1 (zAU _),w' σ' H' lab' R'.drop⟩
def itW(c:En->Rs Bool)(b:En->Ou):Nat->En->Ou
 |0,_=>.st
 |n+1,ρ=>(c ρ).bo λ k=>if k=true then(match b ρ with
   | .nx ρ2=>itW c b n ρ2
   | .ct ρ2=>itW c b n ρ2
   | .bk ρ2=>.nx ρ2
   |o=>o)else .nx ρ
def fuel:Nat:=1000000
def pH(c:En->Rs Bool)(b:En->Ou):En->Ou:=itW c b fuel
def yS(hc:ST C c fc)(hb:SSs C ss f):SS C (.While c ss [] pos) (pH fc f):=by
 obtain⟨tc,c1,c2⟩:=hc;obtain⟨tb,b1,b2⟩:=hb;refine⟨_,λ i=>aDZ (C.own i) (c1 i) (b1 i),λ U σ H ρ lab De R W=>?_⟩;refine⟨λ n σ' H'=>∃ρ' lab',RR C.K C.G U ρ' σ' H' lab'/\WS C.K C.G U (itW fc f n ρ') De,⟨fuel,ρ,lab,R,W⟩,?_⟩;rintro n σ' H' ⟨ρ',lab',R',w'⟩;cases n with
 |zero=>exact zAJ w'
 |succ n=>
  refine c2 U σ' H' ρ' lab' _ R' (WS.bo (show WS C.K C.G U ((fc ρ').bo _) De from w') |>.imp λ k _ w H1 s1=>?_);cases k with
  |false=>
   rw[if_neg zA5]at w ⊢;exact w σ' H1 lab' (R'.up s1)
  |true=>
   rw[if_pos rfl]at w ⊢;refine⟨λ σ2 H2=>∃ρ2 lab2,RR C.K C.G U ρ2 σ2 H2 lab2/\WS C.K C.G U (itW fc f n ρ2) De,λ σ2 H2 ⟨ρ2,lab2,R2,w2⟩=>⟨n,zD3 n,ρ2,lab2,R2,w2⟩,?_⟩;refine b2 U σ' H1 ρ' lab' _ (R'.up s1) ?_;cases eb:f ρ' with
   |nx ρ2=>rw[eb]at w;exact λ σ2 H3 lab2 R2=>⟨ρ2,lab2,R2,w⟩
   |ct ρ2=>rw[eb]at w;exact λ σ2 H3 lab2 R2=>⟨ρ2,lab2,R2,w⟩
   |bk ρ2=>rw[eb]at w;exact w
   |rt d=>rw[eb]at w;exact w
   |ex c=>rw[eb]at w;exact w
   |st=>rw[eb]at w;exact w
def tB(x:Str)(ga:En->Rs (List D)):En->Ou:=λ ρ=>(ga ρ).bo λ ds=>if ds.length<=zAO then .ex x else .st
def yU{rest:List Expr}(hd:C.dOk=true)(hm:C.mg x=some (.ref Ca))(hcl:C.G.cl x=Ca)(hC:nu C.K Ca)(ha:SA C m (zC::rest) ga)(he:∀i,zAY (zC::rest) (C.X i).env=(false,eval zC (C.X i).env)::zAY rest (C.X i).env:=by intro _;rfl)(hplain:∀i,(zBx cpos (zAY rest (C.X i).env)).any (·.1)=false:=by intro _;rfl)(hdb:Nd x:=by decide)(hg:∀i,Gl (C.X i) x:=by intro _;rfl):SS C (.Raise (some (.Call (.Name x np) (zC::rest) [] cpos)) none pos) (tB x ga):=by
 obtain⟨t,h1,h2⟩:=ha;refine⟨_,λ i=>aD1 (C.dcx hd i) (C.calm i) (by rw[(C.cx i).2.2.2.1];exact hm) (by rw[C.hK i];exact hC) (hg i) (h1 i) (he i) (hplain i) hdb,λ U σ H ρ lab De R W=>h2 U σ H ρ lab _ R (W.bo.imp λ ds _ w vs H1 s r=>?_)⟩;by_cases hz:ds.length<=zAO
 .rw[if_pos hz]at w
  refine⟨by rw[r.length];exact hz,?_⟩
  have:=w H1 (R.old.trans s)
  rwa [hcl]at this
 .rw[if_neg hz]at w
  exact zAJ w
def spF(K:zAA)(cl:Str->Addr)(n:Nat)(F:List D->Rs D):Sp:=λ vs H Q E=>∃ds,vs.length=n/\Rps K (λ _=>True) H vs ds/\WR ⟨H,E,cl⟩ (F ds) (λ d=>∀v H',aQ H H'->Rp K (λ p=>H p=none) H' v d->Q v H')
def aU(F:List D->Rs D)(ga:En->Rs (List D)):En->Rs D:=λ ρ=>(ga ρ).bd F
def aDB{K:zAA}(hn:∀ρ ds,ga ρ= .ok ds->ds.length=n)(h:aGf K G m t ga):jN K G (some []) (aGp (spF K G.cl n F) [] G.E t) (aU F ga):=by
 intro U σ H ρ lab Q R W;refine h U σ H ρ lab _ R (W.bd.imp λ ds eds w vs H1 s r=>⟨ds,by rw[zAm,r.length];exact hn ρ ds eds,by rw[zAm];exact r.wk λ _ _ _ _=>trivial,?_⟩);cases hF:F ds with
 |ok d=>
  rw[hF]at w;exact λ v H' s' r'=>w v H' (s.trans s') (r'.wk λ p o _ z=>.inl (s.free z))
 |ex c=>rw[hF]at w;exact λ H' s'=>w H' ((R.old.trans s).trans s')
 |st=>rw[hF]at w;exact w
variable{k:Nat}{fn:Addr}{fd:zAf}{ps:List Str}{x:Str}{p:Pos}{F:List D->Rs D}{n:Nat}
def aFN(hF:cB C.prog C.w C.K C.mg C.base (CX1 C.prog C.w) k fn fd ps (spF C.K C.G.cl n F))(hr:k<=C.k)(hm:C.mg x=some (.ref fn))(hk:zC5 C.K (.ref fn)=true)(hb:Binds C.K fd ps [])(ha:SA C m (e::es) ga)(hn:∀ρ ds,ga ρ= .ok ds->ds.length=n)(hdb:Nd x:=by decide)(he:∀i,zAY (e::es) (C.X i).env=(false,eval e (C.X i).env)::zAY es (C.X i).env:=by intro _;rfl)(hpl:∀i,(zBx pos (zAY es (C.X i).env)).any (·.1)=false:=by intro _;rfl)(hg:∀i,Gl (C.X i) x:=by intro _;rfl):SE C (some []) (.Call (.Name x p) (e::es) [] pos) (aU F ga):=by
 obtain⟨t,h1,h2⟩:=ha;refine⟨_,λ i=>?_,aDB hn h2⟩;obtain⟨e1,e2,e3,e4,e5⟩:=C.cx i;refine aF7 (CX:=CX1 (C.X i).prog (C.X i).w) (by rw[e1,e2,e3,e4,e5];exact hF) ((C.room i).mono hr) (hg i) (by rw[e4];exact hm) (by rw[e3];exact hk) (by rw[e3];exact hb) .nil (C.pass i) (h1 i) hdb (he i) (hpl i)
def aGB(h:aH ρ= .ok ds):ds.length=0:=by cases h;rfl
def aDv(h:∀ρ ds,ga ρ= .ok ds->ds.length=n):∀ρ ds,aC fa ga ρ= .ok ds->ds.length=n+1:=λ ρ ds e=>by
 obtain⟨d,_,e⟩:=di e;obtain⟨r,er,e⟩:=di e;cases e;rw[zA2,h ρ r er]
end
def bU(mg:Str->Option Value):Str->Addr:=λ x=>match mg x with
 |some (.ref a)=>a
 |_=>0
abbrev ctD(P:zAZ)(w:World)(K:zAA)(mg:Str->Option Value)(base:Heap)(N:List Str)(q:Str)(sc:Scope)(f:Addr)(cdv:Value)(A:zAd)(outer:List Env)(s:zAF)(H:Hp)(E:XK)(k:Nat)(hr:iw k (A.deeper (zDt q sc s.heap.objs.size f cdv))):Ct where
 ι:=Unit
 X:=λ _=>zf (CX1 P w) P w K mg base N q sc f cdv A outer s H E
 prog:=P
 w:=w
 K:=K
 mg:=mg
 base:=base
 k:=k
 G:=⟨H,E,bU mg⟩
 cx:=λ _=>⟨rfl,rfl,rfl,rfl,rfl⟩
 calm:=λ _=>rfl
 room:=λ _=>hr
 own:=λ _=>ig.own ig.of
 pass:=λ _=>ig.pass ig.of
 dOk:=true
 dcx:=λ _ _=>ig.of
def ao(n:Nat)(ds:List D):En:=ds.map .sh++zAN (n-ds.length) .no
def du(n:Nat)(f:En->Ou):List D->Rs D:=λ ds=>match f (ao n ds)with
 | .nx _=>.ok .non
 | .rt d=>.ok d
 | .ex c=>.ex c
 |_=>.st
theorem RR.start{K:zAA}(r:Rps K (λ _=>True) H vs ds):RR K ⟨H,E,cl⟩ [] (ao N.length ds) (start N vs) H (λ _=>(0,0)):=by
 have hl:=r.length;refine⟨by unfold ao L2.start;simp[hl],λ i s e=>?_,aQ.refl H,λ p hp=>absurd rfl hp,λ q hq=>by cases hq⟩;unfold ao at e;by_cases hi:i<ds.length
 .rw[zBi (by simpa using hi),zAT]at e
  cases ed:ds[i]? with
  |none=>rw[ed]at e;cases e
  |some d=>
   rw[ed]at e;cases e;obtain⟨x,ex,rx⟩:=r.getD ed;refine .inr ⟨x,?_,rx.wk λ _ _ _ _=>zAj _⟩;unfold L2.start;rw[zBi (by simpa[hl]using hi),zAT,ex];rfl
 .rw[zCy (by simpa using hi),zBv]at e
  split at e
  .cases e;exact .inl rfl
  .cases e
section
variable{P:zAZ}{w:World}{K:zAA}{mg:Str->Option Value}{base:Heap}
def aIs{x q:Str}{st:Stmt}(F:L2.Fun K x q st fn fd)(S:aY N ps (aO st))
  (hb:∀cdv A outer s H E hr,SSs (ctD P w K mg base N q (aO st) fn cdv A outer s H E k hr) (gO st) f):
  cB P w K mg base (CX1 P w) (k+1) fn fd ps (spF K (bU mg) ps.length (du N.length f)):=by
 refine F.okX S (λ vs H Q E ⟨ds,hl,_⟩=>hl) λ cdv A outer s H vs Q E hr ⟨ds,hl,r,W⟩=>?_
 obtain⟨t,h1,h2⟩:=hb cdv A outer s H E hr;refine⟨t,h1 (),h2 [] _ H _ _ _ (RR.start r) ?_⟩;unfold du at W;cases e:f (ao N.length ds)with
 |nx ρ=>rw[e]at W;exact λ σ' H' lab R=>W .non H' R.old .non
 |rt d=>rw[e]at W;exact λ v H' s r=>W v H' s r
 |ex c=>rw[e]at W;exact W
 |bk ρ=>rw[e]at W;exact zAJ W
 |ct ρ=>rw[e]at W;exact zAJ W
 |st=>rw[e]at W;exact zAJ W
def aGZ{st:Stmt}(F:L2.Fun K x q st fn fd)(S:aY N ps (aO st))
  (hb:∀cdv A outer s H E hr,SSs (ctD P w K mg base N q (aO st) fn cdv A outer s H E k hr) (gO st) f)(hn:ps.length=n)(hF:du N.length f=FF):
  cB P w K mg base (CX1 P w) (k+1) fn fd ps (spF K (bU mg) n FF):=by
 subst hn hF;exact aIs F S hb
end
def OpR.or(h:OpR X f r)(h':OpR X f r'):OpR X f (λ x y H Q=>r x y H Q\/r' x y H Q):=by
 intro hV s σ H x y v u Q I rx ry q;rcases q with q|q
 .exact h hV s σ H x y v u Q I rx ry q
 .exact h' hV s σ H x y v u Q I rx ry q
def OpS.or{K:zAA}(h:OpS K r fd)(h':OpS K r' fd'):OpS K (λ x y H Q=>r x y H Q\/r' x y H Q) (λ d e=>match fd d e with
  | .ok z=>.ok z
  |_=>fd' d e):=by
 intro A x y d e H Q z rx ry ez q;dsimp only at ez;cases hd:fd d e with
 |ok w=>rw[hd]at ez;cases ez;exact .inl (h A x y d e H Q _ rx ry hd q)
 |ex c=>rw[hd]at ez;exact .inr (h' A x y d e H Q z rx ry ez q)
 |st=>rw[hd]at ez;exact .inr (h' A x y d e H Q z rx ry ez q)
section
variable{K:zAA}
def i2(p:Int->Int->Bool)(g:Int->Int->D):D->D->Rs D
 | .int i,.int j=>if p i j=true then .ok (g i j)else .st
 |_,_=>.st
def aAb{g:Int->Int->Int}(hp:∀i j,p i j=true->c i j):OpS K (rI c λ i j=>.int (g i j)) (i2 p λ i j=>.int (g i j)):=by
 intro A x y d e H Q z rx ry ez q;unfold i2 at ez;split at ez
 .rename_i i j
  split at ez
  .rename_i h
   cases ez;obtain rfl:=rx.int_inv;obtain rfl:=ry.int_inv;exact⟨i,j,rfl,rfl,hp i j h,q _ H (aQ.refl H) (.int _)⟩
  .cases ez
 .cases ez
def aFd{g:Int->Int->Int}:OpS K (rI0 λ i j=>.int (g i j)) (i2 (λ _ _=>true) λ i j=>.int (g i j)):=by
 intro A x y d e H Q z rx ry ez q;unfold i2 at ez;split at ez
 .rename_i i j
  cases ez;obtain rfl:=rx.int_inv;obtain rfl:=ry.int_inv;exact⟨i,j,rfl,rfl,q _ H (aQ.refl H) (.int _)⟩
 .cases ez
def wg{g:Int->Int->Bool}:OpS K (rI0 λ i j=>.bl (g i j)) (i2 (λ _ _=>true) λ i j=>.bl (g i j)):=by
 intro A x y d e H Q z rx ry ez q;unfold i2 at ez;split at ez
 .rename_i i j
  cases ez;obtain rfl:=rx.int_inv;obtain rfl:=ry.int_inv;exact⟨i,j,rfl,rfl,q _ H (aQ.refl H) (.bl _)⟩
 .cases ez
def xO{g:Int->Int->Int}:∀x y z,i2 p (λ i j=>.int (g i j)) x y= .ok z->imm z=true:=by
 intro x y z e;unfold i2 at e;split at e
 .split at e
  .cases e;rfl
  .cases e
 .cases e
def aEP{g:Int->Int->Bool}:∀x y z,i2 p (λ i j=>.bl (g i j)) x y= .ok z->imm z=true:=by
 intro x y z e;unfold i2 at e;split at e
 .split at e
  .cases e;rfl
  .cases e
 .cases e
def fU:D->D->Rs D
 | .int i,.int j=>.ok (.int (i+j))
 | .lst l,.lst m=>if l.length+m.length<=zAO then .ok (.lst (l++m))else .st
 | .tup l,.tup m=>if l.length+m.length<=zAO then .ok (.tup (l++m))else .st
 |_,_=>.st
def aHE(K:zAA):R2:=λ x y H Q=>∃a b xs ys,x= .ref a/\y= .ref b/\SqT K H a xs/\SqT K H b ys/\xs.length+ys.length<=zAO/\
 (xs=[]->Q (.ref b) H)/\(ys=[]->Q (.ref a) H)/\New H (.tup (xs++ys)) Q
def aFl:OpR X (zBe .Add) (aHE X.K):=by
 intro hV s σ H x y v u Q I rx ry h;obtain⟨a,b,xs,ys,rfl,rfl,ha,hb,hz,q0,q1,q2⟩:=h;by_cases hx:xs=[]
 .subst hx
  cases rx;cases ry;obtain⟨its,r1,p1,_⟩:=I.tuple ha;obtain⟨its2,r2,p2,_⟩:=I.tuple hb;cases r1;exact HT.aE9 p1 p2 ⟨.ref b,H,I,rfl,q0 rfl⟩
 .exact aFm hV s σ H _ _ v u Q I rx ry ⟨a,b,xs,ys,rfl,rfl,ha,hb,hx,hz,q1,λ _ p hp=>q2.at hp⟩
def aDX(K:zAA):R2:=λ x y H Q=>rI0 (λ i j=>.int (i+j)) x y H Q\/(aHF x y H Q\/aHE K x y H Q)
def aFo:OpR X (zBe .Add) (aDX X.K):=OpR.or aIW (OpR.or aFn aFl)
def aII:OpS K (aDX K) fU:=by
 intro A x y d e H Q z rx ry ez q;unfold fU at ez;split at ez
 .cases ez;obtain rfl:=rx.int_inv;obtain rfl:=ry.int_inv;exact .inl ⟨_,_,rfl,rfl,q _ H (aQ.refl H) (.int _)⟩
 .split at ez
  .rename_i hl
   cases ez;obtain⟨_,_,rfl,h1,m1,r1⟩:=rx.lst_inv;obtain⟨_,_,rfl,h2,m2,r2⟩:=ry.lst_inv;refine .inr (.inl ⟨_,_,_,_,rfl,rfl,h1,h2,by rw[r1.length,r2.length];exact hl,λ p H' s hp hn=>q _ H' s (.lst hp (.inl hn) ?_)⟩);exact(((r1.wk λ _ _ _ z=>z.1).append (r2.wk λ _ _ _ z=>z.1)).wk (A':=λ q=>(H q=none\/A q)/\q≠p) λ q o e z=>⟨.inr z,λ e'=>by subst e';rw[hn]at e;cases e⟩).up s
  .cases ez
 .split at ez
  .rename_i hl
   cases ez;obtain⟨_,_,rfl,h1,r1⟩:=rx.tup_inv;obtain⟨_,_,rfl,h2,r2⟩:=ry.tup_inv;have r1':=r1.wk (A':=λ p=>H p=none\/A p) λ _ _ _ z=>.inr z
   have r2':=r2.wk (A':=λ p=>H p=none\/A p) λ _ _ _ z=>.inr z
   refine .inr (.inr ⟨_,_,_,_,rfl,rfl,h1,h2,by rw[r1.length,r2.length];exact hl,λ e=>?_,λ e=>?_,λ p H' s hp hn=>q _ H' s (.tup (SqT.of hp) ((r1'.append r2').up s))⟩)
   .subst e
    cases r1';exact q _ H (aQ.refl H) (.tup h2 r2')
   .subst e
    cases r2';rw[zAm]at q;exact q _ H (aQ.refl H) (.tup h1 r1')
  .cases ez
 .cases ez
def lF:D->D->Rs D
 | .int i,.int j=>if (decide (-(2^64)<i)&&decide (i<2^64))||(decide (-(2^64)<j)&&decide (j<2^64))then .ok (.int (i*j))else .st
 | .lst l,.int k=>if decide (-(2^63)<=k)&&decide (k<2^63)&&decide (l.length*k.toNat<=zAO)&&dR l then .ok (.lst (zAN k.toNat l).flatten)else .st
 |_,_=>.st
theorem Rps.rep(r:Rps K A H xs ds):∀k:Nat,Rps K A H (zAN k xs).flatten (zAN k ds).flatten
 |0=>.nil
 |k+1=>by
  rw[zB5,zB5,zCI,zCI];exact r.append (Rps.rep r k)
def aHA:R2:=λ x y H Q=>rI aGl (λ i j=>.int (i*j)) x y H Q\/aJW x y H Q
def aFj:OpR X (zBe .Mult) aHA:=OpR.or aIN aIK
def aIG:OpS K aHA lF:=by
 intro A x y d e H Q z rx ry ez q;unfold lF at ez;split at ez
 .split at ez
  .rename_i hc
   cases ez;obtain rfl:=rx.int_inv;obtain rfl:=ry.int_inv;refine .inl ⟨_,_,rfl,rfl,?_,q _ H (aQ.refl H) (.int _)⟩;simp only[zC0,zAP,decide_eq_true_eq]at hc;exact hc
  .cases ez
 .split at ez
  .rename_i hc
   simp only[zAP,decide_eq_true_eq]at hc;cases ez;obtain⟨_,_,rfl,h1,m1,r1⟩:=rx.lst_inv;obtain rfl:=ry.int_inv;refine .inr ⟨_,_,_,rfl,rfl,h1,hc.1.1.1,hc.1.1.2,by rw[r1.length];exact hc.1.2,λ p hp=>q _ _ (bB hp _) (.lst aa (.inl hp) ?_)⟩;exact((r1.rep _).wk (A':=λ q=>(H q=none\/A q)/\q≠p) λ q o e z=>⟨.inr z.1,λ e'=>by subst e';rw[hp]at e;cases e⟩).up (bB hp _)
  .cases ez
 .cases ez
def intsOf:List D->Option (List Int)
 |[]=>some []
 | .int i::r=>(intsOf r).map (i::·)
 |_=>none
theorem dG:∀{l:List D} {ns:List Int},intsOf l=some ns->l=ns.map .int
 |[],ns,h=>by cases h;rfl
 | .int i::r,ns,h=>by
  simp only[intsOf,zC4]at h;obtain⟨ms,h1,rfl⟩:=h;rw[dG h1];rfl
 | .non::_,_,h=>by cases h
 | .bl _::_,_,h=>by cases h
 | .str _::_,_,h=>by cases h
 | .tup _::_,_,h=>by cases h
 | .lst _::_,_,h=>by cases h
 | .dct _ _::_,_,h=>by cases h
 | .set _::_,_,h=>by cases h
 | .scr _::_,_,h=>by cases h
theorem dH:∀ns:List Int,intsOf (ns.map .int)=some ns
 |[]=>rfl
 |n::ns=>by simp only[zAH,intsOf,dH ns,zD4]
def ltT(p:List Int->List Int->Bool):D->D->Rs D
 | .tup l,.tup m=>match intsOf l,intsOf m with
  |some ns,some ms=>.ok (.bl (p ns ms))
  |_,_=>.st
 |_,_=>.st
def aBW(r:Rp K A H x (.tup l))(e:intsOf l=some ns):∃a,x= .ref a/\SqT K H a (ns.map V.int):=by
 have:=dG e
 subst this;cases r with
 |tup h r=>
  have:=r.ints_of
  subst this;exact⟨_,rfl,h⟩
def aB6(hr:∀x y H Q,(∃a b ns ms,x= .ref a/\y= .ref b/\SqT K H a (ns.map V.int)/\SqT K H b (ms.map V.int)/\Q (.bl (p ns ms)) H)->r x y H Q):OpS K r (ltT p):=by
 intro A x y d e H Q z rx ry ez q;unfold ltT at ez;split at ez
 .split at ez
  .rename_i ns ms e1 e2
   cases ez;obtain⟨a,rfl,ha⟩:=aBW rx e1;obtain⟨b,rfl,hb⟩:=aBW ry e2;exact hr _ _ _ _ ⟨a,b,ns,ms,rfl,rfl,ha,hb,q _ H (aQ.refl H) (.bl _)⟩
  .cases ez
 .cases ez
def ltD:D->D->Rs D:=λ d e=>match i2 (λ _ _=>true) (λ i j=>.bl (decide (i<j))) d e with
 | .ok z=>.ok z
 |_=>ltT HT.lexLt d e
def leD:D->D->Rs D:=λ d e=>match i2 (λ _ _=>true) (λ i j=>.bl (decide (i<=j))) d e with
 | .ok z=>.ok z
 |_=>ltT HT.lexLe d e
def gtD:D->D->Rs D:=i2 (λ _ _=>true) (λ i j=>.bl (decide (j<i)))
def geD:D->D->Rs D:=i2 (λ _ _=>true) (λ i j=>.bl (decide (j<=i)))
def aIP(hu:X.A.units<cLine):OpR X (zAr .Lt) (λ x y H Q=>rI0 (λ i j=>.bl (decide (i<j))) x y H Q\/aFQ X.K x y H Q):=OpR.or aJ8 (aIQ hu)
def aIR(hu:X.A.units<cLine):OpR X (zAr .LtE) (λ x y H Q=>rI0 (λ i j=>.bl (decide (i<=j))) x y H Q\/aFR X.K x y H Q):=OpR.or aJ9 (aIS hu)
def aDg:OpS K (λ x y H Q=>rI0 (λ i j=>.bl (decide (i<j))) x y H Q\/aFQ K x y H Q) ltD:=OpS.or wg (aB6 λ _ _ _ _ h=>h)
def aDh:OpS K (λ x y H Q=>rI0 (λ i j=>.bl (decide (i<=j))) x y H Q\/aFR K x y H Q) leD:=OpS.or wg (aB6 λ _ _ _ _ h=>h)
def aBi(e:ltT p x y= .ok z):imm z=true:=by
 unfold ltT at e;split at e
 .split at e
  .cases e;rfl
  .cases e
 .cases e
def aEM:∀x y z,ltD x y= .ok z->imm z=true:=by
 intro x y z e;unfold ltD at e;split at e
 .rename_i w hw;cases e;exact aEP _ _ _ hw
 .exact aBi e
def aIi:∀x y z,leD x y= .ok z->imm z=true:=by
 intro x y z e;unfold leD at e;split at e
 .rename_i w hw;cases e;exact aEP _ _ _ hw
 .exact aBi e
def isD(neg:Bool):D->D->Rs D
 | .bl a,.bl b=>if neg then .st else .ok (.bl (a==b))
 |d,.non=>match d with
  | .non=>.ok (.bl (!neg))
  |_=>.ok (.bl neg)
 |_,_=>.st
def aHg(r:Rp K A H x d)(h:d≠.non):x≠.non:=by
 cases r with
 |non=>exact absurd rfl h
 |_=>exact λ e=>by cases e
def aDi:OpS K (λ x y H Q=>y= .non/\Q (.bl (!decide (x= .non))) H) (isD true):=by
 intro A x y d e H Q z rx ry ez q;unfold isD at ez;split at ez
 .cases ez
 .cases ry
  split at ez
  .cases ez;cases rx;exact⟨rfl,by rw[decide_eq_true rfl];exact q _ H (aQ.refl H) (.bl _)⟩
  .rename_i hn
   cases ez;exact⟨rfl,by rw[decide_eq_false (aHg rx hn)];exact q _ H (aQ.refl H) (.bl _)⟩
 .cases ez
def atD(l:List D)(i:Int):Rs D:=match atI l i with
 |some d=>.ok d
 |none=>.st
def ixD:D->D->Rs D
 | .tup l,.int i=>atD l i
 | .lst l,.int i=>atD l i
 | .scr l,.int i=>atD (l.map .int) i
 |_,_=>.st
theorem Rps.at(r:Rps K A H xs ds)(e:atI ds i=some d):∃x,atI xs i=some x/\Rp K A H x d:=by
 unfold atI at e ⊢;rw[r.length];cases h:ixN ds.length i with
 |none=>rw[h]at e;cases e
 |some j=>
  rw[h]at e;obtain⟨x,e1,e2⟩:=r.getD (i:=j) (d:=d) e;exact⟨x,e1,e2⟩
def aJ7:OpS K (rIx K) ixD:=by
 intro A x y d e H Q z rx ry ez q;unfold ixD at ez;split at ez
 .unfold atD at ez
  split at ez
  .rename_i w hw
   cases ez;obtain⟨_,_,rfl,h,r⟩:=rx.tup_inv;obtain rfl:=ry.int_inv;obtain⟨v,e1,e2⟩:=r.at hw;exact .inr (.inl ⟨_,_,_,v,rfl,rfl,h,e1,q v H (aQ.refl H) (e2.wk λ _ _ _ z=>.inr z)⟩)
  .cases ez
 .unfold atD at ez
  split at ez
  .rename_i w hw
   cases ez;obtain⟨_,_,rfl,h,m,r⟩:=rx.lst_inv;obtain rfl:=ry.int_inv;obtain⟨v,e1,e2⟩:=r.at hw;exact .inl ⟨_,_,_,v,rfl,rfl,SqL.of h,e1,q v H (aQ.refl H) (e2.wk λ _ _ _ z=>.inr z.1)⟩
  .cases ez
 .unfold atD at ez
  split at ez
  .rename_i w hw
   cases ez;obtain⟨_,rfl,h⟩:=rx.scr_inv;obtain rfl:=ry.int_inv;obtain⟨v,e1,e2⟩:=(Rps.ints (K:=K) (A:=A) (H:=H)).at hw;exact .inl ⟨_,_,_,v,rfl,rfl,h.sq,e1,q v H (aQ.refl H) (e2.wk λ _ _ _ z=>.inr z)⟩
  .cases ez
 .cases ez
def gn:List D->Rs D
 |[.tup l]=>.ok (.int l.length)
 |[.lst l]=>.ok (.int l.length)
 |[.scr l]=>.ok (.int l.length)
 |_=>.st
def aIw:pG K (λ xs H Q=>∃p ys,xs=[.ref p]/\(SqL K H p ys\/SqT K H p ys)/\Q (.int ys.length) H) gn:=by
 intro A xs ds H Q z r ez q;unfold gn at ez;split at ez
 .cases ez
  obtain⟨_,rfl,h0⟩:=r.one_inv;obtain⟨_,_,rfl,h,r⟩:=h0.tup_inv;exact⟨_,_,rfl,.inr h,by rw[r.length];exact q _ H (aQ.refl H) (.int _)⟩
 .cases ez
  obtain⟨_,rfl,h0⟩:=r.one_inv;obtain⟨_,_,rfl,h,m,r⟩:=h0.lst_inv;exact⟨_,_,rfl,.inl (SqL.of h),by rw[r.length];exact q _ H (aQ.refl H) (.int _)⟩
 .cases ez
  obtain⟨_,rfl,h0⟩:=r.one_inv;obtain⟨_,rfl,h⟩:=h0.scr_inv;exact⟨_,_,rfl,.inl h.sq,by rw[zAB];exact q _ H (aQ.refl H) (.int _)⟩
 .cases ez
def aGQ:∀x z,gn x= .ok z->imm z=true:=by
 intro x z e;unfold gn at e;split at e<;>first|(cases e;rfl)|cases e
def tyD:D->String
 | .non=>"NoneType"| .bl _=>"bool"| .int _=>"int"| .str _=>"str"| .tup _=>"tuple"| .lst _=>"list"| .dct _ _=>"dict"| .set _=>"set"| .scr _=>"script"| .fn _=>"function"
def nU(T:String):D->Rs D:=λ d=>if mX (tyD d) T true=true then .ok (.bl true)else if mX (tyD d) T false=true then .ok (.bl false)else .st
def aHB(K:zAA)(T:String):List V->Hp->VK->Prop:=λ xs H Q=>∃x d A b,xs=[x,.ty T]/\Rp K A H x d/\mX (tyD d) T b=true/\Q (.bl b) H
def aC7:cA X (.builtin "isinstance") (aHB X.K T):=by
 intro hV s σ H xs us Q I rv h;obtain⟨x,d,A,b,rfl,rd,ok,q⟩:=h;cases rd with
 |tup h r=>
  obtain⟨u,w',rfl,ru,rw'⟩:=vals2 rv;cases ru;cases rw';obtain⟨its,_,⟨o,h1,h2,_⟩,_⟩:=I.tuple h;exact zAy zGN I.kIn ⟨o,h1,h2⟩ (aAs ok) (λ z=>nomatch z) λ tk=>⟨.bl b,H,I.tok _,rfl,q⟩
 |set h m hS nd=>cases b<;>simp[mX,tyD]at ok
 |scr h=>cases b<;>simp[mX,tyD]at ok
 |fn h=>cases b<;>simp[mX,tyD]at ok
 |non=>exact j7 hV s σ H _ us Q I rv ⟨_,T,_,b,rfl,.non,ok,q⟩
 |bl c=>exact j7 hV s σ H _ us Q I rv ⟨_,T,_,b,rfl,.bl c,ok,q⟩
 |int c=>exact j7 hV s σ H _ us Q I rv ⟨_,T,_,b,rfl,.int c,ok,q⟩
 |str c=>exact j7 hV s σ H _ us Q I rv ⟨_,T,_,b,rfl,.str c,ok,q⟩
 |lst h m r=>exact j7 hV s σ H _ us Q I rv ⟨_,T,_,b,rfl,.lst h,ok,q⟩
 |dK h m r=>exact j7 hV s σ H _ us Q I rv ⟨_,T,_,b,rfl,.dK h,ok,q⟩
 |dT h m r=>
  obtain⟨u,w',rfl,ru,rw'⟩:=vals2 rv;cases ru;cases rw';obtain⟨⟨_,_,_,o,_,_,_,h1,h2,_⟩,_⟩:=(show cO X.prog X.w H s.heap _ (dxO _ _)from I.hok _ _ h.at_);exact zAy zEO I.kIn ⟨o,h1,h2.1⟩ (aAs ok) (λ z=>nomatch z) λ tk=>⟨.bl b,H,I.tok _,rfl,q⟩
end
section
variable{C:Ct}{pos p p2:Pos}{m:Mode}{a:Expr}{fa:En->Rs D}
def pK(ha:SE C m a fa)(hm:C.mg "isinstance"=none)(hmT:C.mg x=none)(hn:x≠"__name__":=by decide)(hd:Nd x:=by decide)(he:∀i,zAY [a,.Name x p2] (C.X i).env=(false,eval a (C.X i).env)::zAY [.Name x p2] (C.X i).env:=by intro _;rfl)(hpl:∀i,(zBx pos (zAY [.Name x p2] (C.X i).env)).any (·.1)=false:=by intro _;rfl)(hg:∀i,Gl (C.X i) "isinstance":=by intro _;rfl)(hv:zAq "isinstance"=some (.builtin "isinstance"):=by decide+kernel)(hgT:∀i,Gl (C.X i) x:=by intro _;rfl)(hvT:zAq x=some (.type T):=by decide+kernel):
  SE C (some []) (.Call (.Name "isinstance" p) [a,.Name x p2] [] pos) (op1 (nU T) fa):=by
 obtain⟨t,h1,h2⟩:=ha;refine⟨tCB (aHB C.K T) (gP t (gP (tC (.ty T)) jz)),λ i=>?_,λ U σ H ρ lab Q R W=>?_⟩
 .rw[<-C.hK i]
  exact lD aC7 (hg i) (by rw[(C.cx i).2.2.2.1];exact hm) hv (bj (h1 i) (bj (aF8 (v:=.ty T) (hgT i) (by rw[(C.cx i).2.2.2.1];exact hmT) hvT rfl hn hd) dY) (he i)) (by decide) (by decide) (he i) (hpl i)
 .refine h2 U σ H ρ lab _ R (W.bd.imp λ d _ w x H1 s1 r1=>?_)
  obtain⟨z,ez,w⟩:=w.okD;unfold nU at ez;split at ez
  .rename_i h;cases ez;exact⟨x,d,_,true,rfl,r1,h,w _ H1 s1 (.bl _)⟩
  .split at ez
   .rename_i h;cases ez;exact⟨x,d,_,false,rfl,r1,h,w _ H1 s1 (.bl _)⟩
   .cases ez
end
def mJ:Slot->Slot
 | .ow d=>.sh d
 | .nw d=>.sh d
 | .oz d=>.sh d
 | .o2 l=>.sh (.lst (l.map .lst))
 |s=>s
def shE(ρ:En):En:=ρ.map mJ
def stV(js:List (Option Nat))(σ:L2.St):L2.St:=js.map λ o=>o.bind λ j=>(σ[j]?).join
def stE(js:List (Option Nat))(ρ:En):En:=js.map λ o=>match o with
 |none=>.no
 |some j=>(ρ[j]?).getD .no
def aFP{K:zAA}(h:gJ K H lab i v s):∃d,(s= .no\/mJ s= .sh d)/\(s= .no\/Rp K (λ _=>True) H v d):=by
 cases s with
 |no=>exact⟨.non,.inl rfl,.inl rfl⟩
 |sh d=>exact⟨d,.inr rfl,.inr (Rp.wk (λ _ _ _ _=>trivial) h)⟩
 |nw d=>exact⟨d,.inr rfl,.inr (Rp.wk (λ _ _ _ _=>trivial) h)⟩
 |ow d=>exact⟨d,.inr rfl,.inr (Rp.wk (λ _ _ _ _=>trivial) h.1)⟩
 |oz d=>exact⟨d,.inr rfl,.inr (Rp.wk (λ _ _ _ _=>trivial) (aHK h))⟩
 |o2 l=>exact⟨_,.inr rfl,.inr (Rp.wk (λ _ _ _ _=>trivial) (aDo h))⟩
theorem RR.shE{K:zAA}(R:RR K G U ρ σ H lab):RR K G U (shE ρ) σ H (λ _=>(0,0)):=by
 refine⟨by unfold VL.shE;rw[zAB];exact R.len,λ i s e=>?_,R.old,λ p hp=>absurd rfl hp,λ q hq=>(R.tm q hq).wk λ _ _ _ _=>zAj _⟩;unfold VL.shE at e;rw[zAT]at e;cases e0:ρ[i]? with
 |none=>rw[e0]at e;cases e
 |some s0=>
  rw[e0]at e;cases e;rcases R.sl i s0 e0 with rfl|⟨v,ev,hv⟩
  .exact .inl rfl
  .obtain⟨d,h1,h2⟩:=aFP hv
   rcases h1 with rfl|h1
   .exact .inl rfl
   .rcases h2 with rfl|h2
    .exact .inl rfl
    .exact .inr ⟨v,ev,by rw[h1];exact h2.wk λ _ _ _ _=>zAj _⟩
def aCr{i:Nat}(e:(stE js ρ)[i]? =some s):s= .no\/∃j,js[i]? =some (some j)/\ρ[j]? =some s:=by
 unfold stE at e;rw[zAT]at e;cases ej:js[i]? with
 |none=>rw[ej]at e;cases e
 |some o=>
  rw[ej]at e;cases o with
  |none=>cases e;exact .inl rfl
  |some j=>
   cases er:ρ[j]? with
   |none=>simp[er]at e;exact .inl e.symm
   |some s'=>simp[er]at e;subst e;exact .inr ⟨j,rfl,er⟩
def RR.block{K:zAA}{U:List (V×D)}(R:RR K G U (VL.shE ρ) σ H lab)(hz:∀p,(lab p).1<=1)(hl:H l=none):
  RR K G U (stE js (VL.shE ρ)) (stV js σ) H (λ p=>if p=l then(2,0)else(0,0)):=by
 have nl:∀p o,H p=some o->p≠l:=λ p o e z=>by subst z;rw[hl]at e;cases e
 refine⟨by unfold stE stV;rw[zAB,zAB],λ i s e=>?_,R.old,λ p hp=>?_,λ q hq=>(R.tm q hq).wk λ p o e _=>by rw[if_neg (nl p o e)];exact zAj _⟩
 .rcases aCr e with rfl|⟨j,ej,es⟩
  .exact .inl rfl
  .rcases R.sl j s es with rfl|⟨v,ev,hv⟩
   .exact .inl rfl
   .refine .inr ⟨v,?_,?_⟩
    .unfold stV
     rw[zAT,ej];simp[ev]
    .unfold VL.shE at es
     rw[zAT]at es;cases e0:ρ[j]? with
     |none=>rw[e0]at es;cases es
     |some s0=>
      rw[e0]at es;cases es;cases s0 with
      |no=>trivial
      |oz d=>exact Rp.wk (λ p o e _=>by show(if p=l then((2,0):Nat×Nat)else(0,0)).1<=1;rw[if_neg (nl p o e)];exact zAj _) hv
      |nw d=>exact Rp.wk (λ p o e _=>by show(if p=l then((2,0):Nat×Nat)else(0,0)).1<=1;rw[if_neg (nl p o e)];exact zAj _) hv
      |sh d=>exact Rp.wk (λ p o e _=>by show(if p=l then((2,0):Nat×Nat)else(0,0)).1<=1;rw[if_neg (nl p o e)];exact zAj _) hv
      |ow d=>exact Rp.wk (λ p o e _=>by show(if p=l then((2,0):Nat×Nat)else(0,0)).1<=1;rw[if_neg (nl p o e)];exact zAj _) hv
      |o2 d=>exact Rp.wk (λ p o e _=>by show(if p=l then((2,0):Nat×Nat)else(0,0)).1<=1;rw[if_neg (nl p o e)];exact zAj _) hv
 .by_cases hp':p=l
  .subst hp';exact R.old.free hl
  .exact absurd (show(if p=l then((2,0):Nat×Nat)else(0,0)).1=0 by rw[if_neg hp']) hp
def aKd(XN N:List Str)(js:List (Option Nat))(ks:List Nat)(sc:Scope):Bool:=(zAw js.length).all λ i=>match js[i]? with
 |some (some j)=>match N[i]?,XN[j]? with
  |some x,some y=>x==y&&sc.names.lookup x==some .free&& !ks.contains i
  |_,_=>false
 |_=>true
def aBA(h1:sc.kind= .function)(h2:(sc.names.all λ y=>y.2 != .cell||sc.names.lookup y.1==some .cell)=true)(h3:(sc.names.all λ y=>y.2 != .local||sc.names.lookup y.1==some .local)=true)
  (h4:(sc.names.all λ y=>y.2 != .free||(X.env.kindOf y.1==some .cell||X.env.kindOf y.1==some .free))=true)(h5:js.length=N.length)(h6:aKd X.N N js ks sc=true):gj X sc N (stV js) ks:=by
 refine⟨h1,λ y hy e=>?_,λ y hy e=>?_,λ y hy e=>?_,λ σ=>by unfold stV;rw[zAB];exact h5,λ σ i x v e1 e2=>?_⟩
 .have:=zAv.mp h2 y hy
  rw[e]at this;simpa using this
 .have:=zAv.mp h3 y hy
  rw[e]at this;simpa using this
 .have:=zAv.mp h4 y hy
  rw[e]at this;simpa using this
 .unfold stV at e2
  rw[zAT]at e2;cases ej:js[i]? with
  |none=>rw[ej]at e2;cases e2
  |some o=>
   rw[ej]at e2;cases o with
   |none=>cases e2
   |some j=>
    have hi:i<js.length:=(zAM.mp ej).1
    have:=zAv.mp h6 i (zC9.mpr hi)
    rw[ej,e1]at this;dsimp only at this;cases ey:X.N[j]? with
    |none=>rw[ey]at this;cases this
    |some y=>
     rw[ey]at this;simp only[zAP,beq_iff_eq,zBM]at this;obtain⟨⟨h,h'⟩,h''⟩:=this;subst h;refine⟨h',λ hk=>?_,j,ey,?_⟩
     .rw[List.contains_iff_mem.mpr hk]at h'';cases h''
     .simp only[zD4,zG9,Option.some.injEq]at e2
      cases es:σ[j]? with
      |none=>rw[es]at e2;cases e2
      |some w=>rw[es]at e2;simp at e2;subst e2;rfl
abbrev Ct.blk(C:Ct)(sc:Scope)(N:List Str):Ct where
 ι:=C.ι×Addr×List Addr×zAF×Hp
 X:=λ i=>(C.X i.1).block sc i.2.1 N i.2.2.1 i.2.2.2.1 i.2.2.2.2
 prog:=C.prog
 w:=C.w
 K:=C.K
 mg:=C.mg
 base:=C.base
 k:=C.k
 G:={C.G with E:=λ _ _ _=>False}
 cx:=λ i=>C.cx i.1
 calm:=λ i=>C.calm i.1
 room:=λ i=>C.room i.1
 own:=λ i=>PassesOwn.never
 pass:=λ i hV σ H s e s' I h=>by obtain⟨_,_,_,_,_,_,_,_,_,_,_,_,_,hE⟩:=h;exact hE
 dOk:=false
 dcx:=λ h=>absurd h zA5
def lcL(ρ:En)(fg:D->En->Rs En)(ft:En->Rs Bool)(fe:En->Rs D):List D->Rs (List D)
 |[]=>.ok []
 |d::ds=>(fg d ρ).bd λ ρ1=>(ft ρ1).bd λ k=>if k=true then(fe ρ1).bd λ y=>(lcL ρ fg ft fe ds).bd λ ys=>.ok (y::ys)else lcL ρ fg ft fe ds
def lcD(fi:En->Rs (List D))(js:List (Option Nat))(fg:D->En->Rs En)(ft:En->Rs Bool)(fe:En->Rs D):En->Rs D:=λ ρ=>(fi (shE ρ)).bd λ ds=>
 if ds.length<zAO then(match lcL (stE js (shE ρ)) fg ft fe ds with
  | .ok l=>.ok (.lst l)
  |_=>.st)else .st
def aGg(C:Ct)(ifs:List Expr)(f:En->Rs Bool):Prop:=∃t,(∀i,aCb (C.X i) ifs t)/\aCa C.K C.G t f
def ik:En->Rs Bool:=λ _=>.ok true
def iH:aGg C [] ik:=⟨_,λ _=>aHy,λ U σ H ρ lab Q R W=>W H (aQ.refl H)⟩
def aAQ(h:ST C c f):aGg C [c] f:=let⟨t,h1,h2⟩:=h;⟨t,λ i=>aHx (h1 i),h2⟩
def aDx(h:lcL ρ fg ft fe (d::ds)= .ok l):
  ∃ρ1 k,fg d ρ= .ok ρ1/\ft ρ1= .ok k/\((k=true/\∃y ys,fe ρ1= .ok y/\lcL ρ fg ft fe ds= .ok ys/\l=y::ys)\/(k=false/\lcL ρ fg ft fe ds= .ok l)):=by
 unfold lcL at h;obtain⟨ρ1,e1,h⟩:=di h;obtain⟨k,e2,h⟩:=di h;refine⟨ρ1,k,e1,e2,?_⟩;cases k with
 |true=>
  rw[if_pos rfl]at h;obtain⟨y,e3,h⟩:=di h;obtain⟨ys,e4,h⟩:=di h;cases h;exact .inl ⟨rfl,y,ys,e3,e4,rfl⟩
 |false=>
  rw[if_neg zA5]at h;exact .inr ⟨rfl,h⟩
def RR.but_blk{K:zAA}{U:List (V×D)}(R:RR K G U (stE js (VL.shE ρ)) σ H (λ p=>if p=l then(2,0)else(0,0)))(B:jO l H H')(hl:H l=some o)(ho:jD o=true)(h0:G.H0 l=none):
  RR K G U (stE js (VL.shE ρ)) σ H' (λ p=>if p=l then(2,0)else(0,0)):=by
 have aS:¬((λ p=>if p=l then((2,0):Nat×Nat)else(0,0)) l).1<=1:=by simp
 refine⟨R.len,λ j s e=>?_,λ b o hb=>?_,R.new,λ q hq=>(R.tm q hq).but B hl ho aS⟩
 .rcases R.sl j s e with z|⟨u,e1,e2⟩
  .exact .inl z
  .refine .inr ⟨u,e1,?_⟩
   rcases aCr e with rfl|⟨jx,ej,es⟩
   .trivial
   .unfold VL.shE at es
    rw[zAT]at es;cases e0:ρ[jx]? with
    |none=>rw[e0]at es;cases es
    |some s0=>rw[e0]at es;cases es;cases s0<;>first|trivial|exact Rp.but B hl ho aS e2
 .exact B b o (λ z=>by subst z;rw[h0]at hb;cases hb) (R.old b o hb)
def RR.blk0{K:zAA}(R:RR K G U (VL.shE ρ) σ H lab)(hG:G'.H0=G.H0):RR K G' U (VL.shE ρ) σ H (λ _=>(0,0)):=by
 refine⟨R.len,λ i s e=>?_,by rw[hG];exact R.old,λ p hp=>absurd rfl hp,λ q hq=>(R.tm q hq).wk λ _ _ _ _=>zAj _⟩;rcases R.sl i s e with rfl|⟨v,ev,hv⟩
 .exact .inl rfl
 .unfold VL.shE at e
  rw[zAT]at e;cases e0:ρ[i]? with
  |none=>rw[e0]at e;cases e
  |some s0=>rw[e0]at e;cases e;cases s0<;>first|exact .inl rfl|exact .inr ⟨v,ev,Rp.wk (λ _ _ _ _=>zAj _) hv⟩
section
variable{K:zAA}{G:Gx}{wi:TI}{fi:En->Rs (List D)}{js:List (Option Nat)}{g:TG}{fg:D->En->Rs En}{tt:TT}{ft:En->Rs Bool}{te:TE}{fe:En->Rs D}
def aDA(hi:aJB K G wi fi)(hg:aJC K {G with E:=λ _ _ _=>False} g fg)(ht:aCa K {G with E:=λ _ _ _=>False} tt ft)(he:jN K {G with E:=λ _ _ _=>False} (some []) te fe):
  jN K G (some []) (tLC wi (stV js) g tt te) (lcD fi js fg ft fe):=by
 intro U σ H ρ lab Q R W;refine hi U σ H _ _ _ R.shE (W.bd.imp λ ds _ w J H1 lab1 U1 s1 _ R1 jl=>?_);intro l hl;obtain⟨hW,out,pV,w⟩:ds.length<zAO/\∃out,lcL (stE js (VL.shE ρ)) fg ft fe ds= .ok out/\QE K (some []) lab H Q (.lst out):=by
  by_cases hW:ds.length<zAO
  .rw[if_pos hW]at w
   cases pV:lcL (stE js (VL.shE ρ)) fg ft fe ds with
   |ok out=>rw[pV]at w;exact⟨hW,out,rfl,w⟩
   |ex c=>rw[pV]at w;exact zAJ w
   |st=>rw[pV]at w;exact zAJ w
  .rw[if_neg hW]at w
   exact zAJ w
 have R0:RR K {G with E:=λ _ _ _=>False} (U1++U) (VL.shE ρ) σ H1 (λ _=>(0,0)):=R1.blk0 rfl;have RB:=R0.block (js:=js) (λ _=>zAj _) hl;have hHl:H l=none:=s1.free hl;have aS:¬((λ p=>if p=l then((2,0):Nat×Nat)else(0,0)) l).1<=1:=by simp
 refine⟨λ i n acc H2=>∃pre,n=ds.length-i/\i<=ds.length/\H2 l=some (.lst acc)/\RR K {G with E:=λ _ _ _=>False} (U1++U) (stE js (VL.shE ρ)) (stV js σ) H2 (λ p=>if p=l then(2,0)else(0,0))/\aQ H H2/\acc.length<=i/\
  Rps K (λ p=>H p=none/\p≠l) H2 acc pre/\∃post,lcL (stE js (VL.shE ρ)) fg ft fe (ds.drop i)= .ok post/\out=pre++post,⟨ds.length,[],by lia,by lia,aa,RB.up (bB hl _),s1.trans (bB hl _),zAU _,.nil,out,pV,rfl⟩,?_⟩
 rintro i n acc H2 ⟨pre,rfl,hi,hH2,R2,s2,iX,rpre,post,hpost,eout⟩;refine⟨hH2,by lia,?_⟩;have jj:=jl _ H2 λ q hq=>R2.tm q (zAK _ hq)
 by_cases hlt:i<ds.length
 .obtain⟨go,yl⟩:=(jj i).2 hlt
  refine .inr ⟨go,λ x H3 hy=>?_⟩;obtain⟨s3,d,ed,rx⟩:=yl x H3 hy;replace R2:=R2.up s3;replace hH2:=s3 _ _ hH2;replace s2:=s2.trans s3;replace rpre:=rpre.up s3;have ed2:ds.drop i=d::ds.drop (i+1):=by
   rw[zBh hlt]
   have:=zAE hlt
   rw[ed]at this;cases this;rfl
  rw[ed2]at hpost;obtain⟨ρ1,k,e1,e2,e3⟩:=aDx hpost;refine hg (U1++U) x d _ H3 _ _ _ ρ1 R2 rx e1 λ σ4 R4=>?_
  refine ht (U1++U) σ4 H3 ρ1 _ _ R4 ?_;rw[e2];intro H5 s5;rcases e3 with ⟨rfl,y,ys,e3,e4,rfl⟩|⟨rfl,e4⟩
  .rw[if_pos rfl]
   refine he (U1++U) σ4 H5 ρ1 _ _ (R4.up s5) ?_;rw[e3];intro v H6 s6 r6;have hl6:H6 l=some (.lst acc):=s6 _ _ (s5 _ _ hH2);have B:jO l H6 (upd H6 l (.lst (acc++[v]))):=λ b o ne hb=>by rw[bJ ne];exact hb
   refine⟨hl6,ds.length-(i+1),by lia,pre++[y],rfl,hlt,aa,?_,?_,by rw[zAV];simp;lia,?_,ys,e4,by rw[eout];simp⟩
   .exact(R2.up (s5.trans s6)).but_blk B hl6 rfl (R1.old.free hl)
   .exact λ b o hb=>B b o (λ z=>by subst z;rw[hHl]at hb;cases hb) (((s2.trans s5).trans s6) b o hb)
   .refine((rpre.up (s5.trans s6)).append (.cons (r6.wk λ p o _ z=>?_) .nil)).but B hl6 rfl λ z=>z.2 rfl
    rcases z with z|z
    .exact⟨(s2.trans s5).free z,λ e=>by subst e;rw[s5 _ _ hH2]at z;cases z⟩
    .cases z
  .rw[if_neg zA5]
   exact⟨ds.length-(i+1),by lia,pre,rfl,hlt,s5 _ _ hH2,R2.up s5,s2.trans s5,by lia,rpre.up s5,post,e4,eout⟩
 .have ei:i=ds.length:=by lia
  subst ei;rw[zDZ]at hpost;cases hpost;rw[zAm]at eout;subst eout;exact .inl ⟨(jj _).1 (zAU _),w _ H2 s2 (.lst hH2 (.inl hHl) (rpre.wk λ p o _ z=>⟨.inl z.1,z.2⟩))⟩
end
section
variable{C:Ct}{pos:Pos}{elt tg iter:Expr}{ifs:List Expr}{sc:Scope}{N:List Str}{js:List (Option Nat)}{ks:List Nat}{fi:En->Rs (List D)}{fg:D->En->Rs En}{ft:En->Rs Bool}{fe:En->Rs D}
def bY{C:Ct}(nd:N.Nodup:=by decide+kernel)(hk:i∈ks:=by decide)(hN:∀j,((C.blk sc N).X j).N[i]? =some x:=by intro _;rfl)(hx:∀j,Loc ((C.blk sc N).X j).env.scope x:=by intro _;first|exact zB3 rfl|exact zBD rfl)
  (hf:∀j,((C.blk sc N).X j).fn x=true\/((C.blk sc N).X j).env.scope.names.lookup x=some .local:=by intro _;first|exact .inl rfl|exact .inr rfl):SG (C.blk sc N) (.Name x pos) ks (gnm i):=
 aj hN hx hf (λ _=>nd) hk
def jw(hi:SI C tg iter fi)(hg:SG (C.blk sc N) tg ks fg)(ht:aGg (C.blk sc N) ifs ft)(he:SE (C.blk sc N) (some []) elt fe)(hs:∀i x,zB8 iter (C.X i).env x=pure x:=by intro _ _;rfl)(hB:∀i,gj (C.X i) sc N (stV js) ks:=by intro _;exact aBA rfl rfl rfl rfl rfl rfl):SE C (some []) (.ListComp elt [⟨tg,iter,ifs,0⟩] sc pos) (lcD fi js fg ft fe):=by
 obtain⟨wi,i1,i2⟩:=hi;obtain⟨g,g1,g2,g3,g4⟩:=hg;obtain⟨tt,t1,t2⟩:=ht;obtain⟨te,e1,e2⟩:=he;exact⟨_,λ i=>aJ5 (hB i) (C.calm i) (i1 i) (λ c fp z5 z4=>g1 (i,c,fp,z5,z4)) g3 (λ c fp z5 z4=>t1 (i,c,fp,z5,z4)) (λ c fp z5 z4=>e1 (i,c,fp,z5,z4)) (hs i),aDA i2 g2 t2 e2⟩
def aJP(hi:SI C tg iter fi)(hg:SG (C.blk sc N) tg ks fg)(ht:aGg (C.blk sc N) ifs ft)(he:SE (C.blk sc N) (some []) elt fe)(hN:∀j,(C.X j).N[i]? =some x:=by intro _;rfl)(hx:∀j,Loc (C.X j).env.scope x:=by intro _;first|exact zB3 rfl|exact zBD rfl)(hsw:∀j,zBm (.ListComp elt [⟨tg,iter,ifs,0⟩] sc pos) (some (.Name x pos')) spos.line (C.X j).env=pure true:=by intro _;rfl)(hs:∀i x,zB8 iter (C.X i).env x=pure x:=by intro _ _;rfl)(hf:∀j,(C.X j).fn x=true\/(C.X j).env.scope.names.lookup x=some .local:=by intro _;first|exact .inl rfl|exact .inr rfl)(nd:∀j,(C.X j).N.Nodup:=by intro _;assumption)(hB:∀i,gj (C.X i) sc N (stV js) ks:=by intro _;exact aBA rfl rfl rfl rfl rfl rfl):
  SV C i (.Assign [.Name x pos'] (.ListComp elt [⟨tg,iter,ifs,0⟩] sc pos) spos) (some []) (lcD fi js fg ft fe):=by
 obtain⟨wi,i1,i2⟩:=hi;obtain⟨g,g1,g2,g3,g4⟩:=hg;obtain⟨tt,t1,t2⟩:=ht;obtain⟨te,e1,e2⟩:=he;exact⟨_,λ j=>yx (nd j) (hN j) (hx j) (hB j) (C.calm j) (i1 j) (λ c fp z5 z4=>g1 (j,c,fp,z5,z4)) g3 (λ c fp z5 z4=>t1 (j,c,fp,z5,z4)) (λ c fp z5 z4=>e1 (j,c,fp,z5,z4)) (hsw j) (hs j) (hf j),aDA i2 g2 t2 e2⟩
end
def RR.mut{K:zAA}(R:RR K G U ρ σ H lab)(ev:σ[i]? =some (some v))(hl:H l=some o)(ho:jD o=true)(oQ:(lab l).1=i+2)
  (B:jO l H H')(h':gJ K H' lab i v s'):RR K G U (ρ.set i s') σ H' lab:=by
 refine⟨by rw[zBP];exact R.len,λ j x e=>?_,λ b u hb=>B b u (λ z=>?_) (R.old b u hb),R.new,λ q hq=>(R.tm q hq).but B hl ho λ z=>by lia⟩
 .by_cases hj:i=j
  .subst hj
   have hi:i<ρ.length:=by
    have:=(zAM.mp e).1
    rwa [zBP]at this
   rw[zBF hi]at e;cases e;exact .inr ⟨v,ev,h'⟩
  .rw[zAu hj]at e
   rcases R.sl j x e with z|⟨u,e1,e2⟩
   .exact .inl z
   .refine .inr ⟨u,e1,?_⟩
    cases x with
    |no=>trivial
    |sh d=>exact Rp.but B hl ho (λ z=>by lia) e2
    |nw d=>exact Rp.but B hl ho (λ z=>by lia) e2
    |ow d=>exact⟨Rp.but B hl ho (λ z=>by lia) e2.1,e2.2⟩
    |oz d=>
     obtain⟨a,xs,ds,q1,q2,q3,q4,q5⟩:=e2;exact⟨a,xs,ds,q1,q2,B a _ (λ z=>by subst z;exact hj (by lia)) q3,q4,Rps.but B hl ho (λ z=>by lia) q5⟩
    |o2 ll=>
     obtain⟨a,xs,q1,q2,q3,q4,q5⟩:=e2;refine⟨a,xs,q1,B a _ (λ z=>?_) q2,q3,q4,λ jj y ds f1 f2=>(q5 jj y ds f1 f2).but B hl ho λ z=>?_⟩
     .rw[z]at q3;rw[q3]at oQ;exact hj (by simpa using oQ.symm)
     .rw[z]at oQ;exact hj (by simpa using oQ.symm)
 .subst z
  have:=R.new b (by rw[oQ];lia)
  rw[this]at hb;cases hb
section
variable{C:Ct}{pos apos cpos p:Pos}{e a:Expr}{fe fa:En->Rs D}{i:Nat}{x:Str}{m:Mode}
def iu(i:Nat)(fe:En->Rs D):En->Ou:=λ ρ=>match ρ[i]? with
 |some (.ow (.lst ds))=>(fe ρ).bo λ d=>if ds.length<zAO then .nx (ρ.set i (.ow (.lst (ds++[d]))))else .st
 |_=>.st
def fV(i:Nat)(he:SE C m e fe)(hm:okN m=true:=by rfl)(hN:∀j,(C.X j).N[i]? =some x:=by intro _;rfl)(hv:∀j,Vis (C.X j).env.scope x:=by intro _;first|exact zB3 rfl|exact zBD (zB3 rfl)|exact zBD (zBD rfl))(hd:Nd x:=by decide)
  (hcd:(x==("__classdict__":Str))=false:=by decide)(hs1:∀j,zAY [e] (C.X j).env=[(false,eval e (C.X j).env)]:=by intro _;rfl)
  (hbase:∀j,zCU (.Name x p) "append" (C.X j).env (eval (.Name x p) (C.X j).env)=eval (.Name x p) (C.X j).env:=by intro _;rfl)
  (hfew:∀j,((zBx cpos (zAY [e] (C.X j).env)).all (λ x=>!x.1)&&(zDW cpos (zCO [] (C.X j).env)).all (λ x=>x.1.isSome)&&decide ([e].length+([]:List zBj).length+(if ([]:List zBj).isEmpty then 0 else 1)<30))=true:=by intro _;rfl)
  (hline:(apos.endLine==cpos.line)=true:=by rfl)
  (hsw:∀j,zBm (.Call (.Attribute (.Name x p) "append" apos) [e] [] cpos) none pos.line (C.X j).env=pure false:=by intro _;rfl):
  SS C (.Expr (.Call (.Attribute (.Name x p) "append" apos) [e] [] cpos) pos) (iu i fe):=by
 obtain⟨t,h1,h2⟩:=he;refine⟨rY (tBM C.K "list" oK (mq i) (gP t jz)),λ j=>jh (by rw[<-C.hK j];exact tG zBZ zC1 zDE nQ (fL (hN j) (hv j) hd hcd) (bj (h1 j) dY (hs1 j)) (hbase j) (hfew j) hline (hs1 j) rfl) (hsw j),λ U σ H ρ lab De R W=>?_⟩;unfold iu at W;cases es:ρ[i]? with
 |none=>rw[es]at W;exact zAJ W
 |some s=>
  rw[es]at W;split at W
  .rename_i ds hs
   cases hs;rcases R.sl i _ es with z|⟨v,ev,hv'⟩
   .cases z
   .obtain⟨hv1,htop⟩:=hv'
    obtain⟨a0,ea0,la0⟩:=htop rfl;subst ea0;cases hv1 with
    |lst h mm r=>
     rename_i xs;refine⟨.ref a0,ev,.inl ⟨rfl,xs,SqL.of h⟩,h2 U σ H ρ lab _ R (W.bo.imp λ d _ w y H2 s2 r2=>?_)⟩;by_cases hz:ds.length<zAO
     .rw[if_pos hz]at w
      refine⟨a0,xs,y,rfl,rfl,s2 _ _ h,by rw[r.length];exact hz,λ H3 B h3=>?_⟩;obtain⟨R',r'⟩:=R.fresh (P:=λ k=>k=1) rfl (λ k hk=>beq_iff_eq.mp (ji hm k hk)) s2 r2;have la:(bR H 1 lab a0).1=i+2:=by rw[bD h];exact la0
      refine w σ H3 _ (R'.mut ev (s2 _ _ h) rfl la B ⟨.lst h3 (.inr la) ?_,λ _=>⟨a0,rfl,la⟩⟩);have ra:Rps C.K (λ p=>((bR H 1 lab p).1=1\/(bR H 1 lab p).1=i+2)/\p≠a0) H2 (xs++[y]) (ds++[d]):=by
       refine(r.mono s2 λ p o e z=>⟨by rw[bD e];exact z.1,z.2⟩).append (.cons (r'.wk λ p o e z=>⟨.inl z,λ q=>?_⟩) .nil);subst q;rw[la]at z;lia
      exact ra.but B (s2 _ _ h) rfl λ z=>z.2 rfl
     .rw[if_neg hz]at w
      exact zAJ w
  .exact zAJ W
def at2(ll:cK):D->Option (Nat×List D)
 | .int n=>(ixN ll.length n).bind λ j=>(ll[j]?).map λ ds=>(j,ds)
 |_=>none
def lY(i:Nat)(fa fe:En->Rs D):En->Ou:=λ ρ=>match ρ[i]? with
 |some (.o2 ll)=>(fa ρ).bo λ k=>match at2 ll k with
  |some (j,ds)=>(fe ρ).bo λ d=>if ds.length<zAO then .nx (ρ.set i (.o2 (ll.set j (ds++[d]))))else .st
  |none=>.st
 |_=>.st
def aEc(h:at2 ll k=some (j,ds)):∃n,k= .int n/\ixN ll.length n=some j/\ll[j]? =some ds:=by
 cases k with
 |int n=>
  simp only[at2,Option.bind_eq_some_iff,zC4]at h;obtain⟨j',h1,ds',h2,h3⟩:=h;cases h3;exact⟨n,rfl,h1,h2⟩
 |_=>cases h
def mz(i:Nat){p2:Pos}(ha:SE C m a fa)(he:SE C (some []) e fe)(hN:∀j,(C.X j).N[i]? =some x:=by intro _;rfl)(hv:∀j,Vis (C.X j).env.scope x:=by intro _;first|exact zB3 rfl|exact zBD (zB3 rfl)|exact zBD (zBD rfl))(hd:Nd x:=by decide)
  (hcd:(x==("__classdict__":Str))=false:=by decide)(hs1:∀j,zAY [e] (C.X j).env=[(false,eval e (C.X j).env)]:=by intro _;rfl)(hp:yG a:=by exact λ _ _=>rfl)
  (hbase:∀j,zCU (.Subscript (.Name x p) a p2) "append" (C.X j).env (eval (.Subscript (.Name x p) a p2) (C.X j).env)=eval (.Subscript (.Name x p) a p2) (C.X j).env:=by intro _;rfl)
  (hfew:∀j,((zBx cpos (zAY [e] (C.X j).env)).all (λ x=>!x.1)&&(zDW cpos (zCO [] (C.X j).env)).all (λ x=>x.1.isSome)&&decide ([e].length+([]:List zBj).length+(if ([]:List zBj).isEmpty then 0 else 1)<30))=true:=by intro _;rfl)
  (hline:(apos.endLine==cpos.line)=true:=by rfl)
  (hsw:∀j,zBm (.Call (.Attribute (.Subscript (.Name x p) a p2) "append" apos) [e] [] cpos) none pos.line (C.X j).env=pure false:=by intro _;rfl):
  SS C (.Expr (.Call (.Attribute (.Subscript (.Name x p) a p2) "append" apos) [e] [] cpos) pos) (lY i fa fe):=by
 obtain⟨t,h1,h2⟩:=he;obtain⟨ta,a1,a2⟩:=ha;refine⟨rY (tBM C.K "list" oK (tOp (aHm C.K) (mq i) ta) (gP t jz)),λ j=>jh (by rw[<-C.hK j];exact tG zBZ zC1 zDE nQ (aHJ aBd (fL (hN j) (hv j) hd hcd) (a1 j) hp) (bj (h1 j) dY (hs1 j)) (hbase j) (hfew j) hline (hs1 j) rfl) (hsw j),λ U σ H ρ lab De R W=>?_⟩;unfold lY at W;cases es:ρ[i]? with
 |none=>rw[es]at W;exact zAJ W
 |some s=>
  rw[es]at W;cases s with
  |o2 ll=>
   dsimp only at W;rcases R.sl i _ es with z|⟨v,ev,top,xs,rfl,ht,hlt,hW,hin⟩
   .cases z
   .refine⟨.ref top,ev,a2 U σ H ρ lab _ R (W.bo.imp λ k _ w kv H1 s1 r1=>?_)⟩
    cases hk:at2 ll k with
    |none=>rw[hk]at w;exact zAJ w
    |some q=>
     obtain⟨j,ds⟩:=q;rw[hk]at w;dsimp only at w;obtain⟨n,rfl,hj,hds⟩:=aEc hk;cases r1;have hjx:∃xj,xs[j]? =some xj:=by
      have:j<xs.length:=by rw[hW];exact(zAM.mp hds).1
      exact⟨_,zAE this⟩
     obtain⟨xj,hxj⟩:=hjx;have hr:=hin j xj ds hxj hds;cases hr with
     |lst hl ml rl=>
      rename_i l ys;refine⟨top,xs,n,.ref l,rfl,rfl,SqL.of (s1 _ _ ht),by unfold atI;rw[hW,hj];exact hxj,.inl ⟨rfl,ys,SqL.of (s1 _ _ hl)⟩,h2 U σ H1 ρ lab _ (R.up s1) (w.bo.imp λ d _ w y H2 s2 r2=>?_)⟩;by_cases hz:ds.length<zAO
      .rw[if_pos hz]at w
       have s12:=s1.trans s2;refine⟨l,ys,y,rfl,rfl,s12 _ _ hl,by rw[rl.length];exact hz,λ H3 B h3=>?_⟩;have ltop:l≠top:=λ e=>by rw[e,hlt]at ml;cases ml
       let lab':Lab:=λ p=>match H1 p with
        |none=>(i+2,j+1)
        |some _=>lab p
       have lo:∀{p o},H1 p=some o->lab' p=lab p:=λ{p o} e=>by show(match H1 p with|none=>_|some _=>_)=_;rw[e]
       have ln:∀{p},H1 p=none->lab' p=(i+2,j+1):=λ{p} e=>by show(match H1 p with|none=>_|some _=>_)=_;rw[e]
       have R':RR C.K C.G U ρ σ H2 lab':=((R.up s1).relab (λ p o e=>lo e) λ p hp=>by
        cases e:H1 p with
        |none=>exact(R.old.trans s1).free e
        |some o=>rw[lo e]at hp;exact R.new p hp).up s2
       have aI:lab' l=(i+2,j+1):=by rw[lo (s1 _ _ hl)];exact ml
       refine w σ H3 lab' (R'.mut ev (s12 _ _ hl) rfl (by rw[aI]) B ⟨top,xs,rfl,B _ _ (zCz ltop) (s12 _ _ ht),by rw[lo (s1 _ _ ht)];exact hlt,by rw[zBP];exact hW,λ jj z dz f1 f2=>?_⟩);by_cases hjj:j=jj
       .subst hjj
        rw[hxj]at f1;cases f1;rw[zBF (zAM.mp hds).1]at f2;cases f2;refine .lst h3 aI ?_;have ra:Rps C.K (λ p=>lab' p=(i+2,j+1)/\p≠l) H2 (ys++[y]) (ds++[d]):=by
         refine(rl.mono s12 λ p o e z=>⟨by rw[lo (s1 _ _ e)];exact z.1,z.2⟩).append (.cons (r2.wk λ p o e z=>?_) .nil);rcases z with z|z
         .exact⟨ln z,λ q=>by subst q;rw[s1 _ _ hl]at z;cases z⟩
         .cases z
        exact ra.but B (s12 _ _ hl) rfl λ z=>z.2 rfl
       .rw[zAu hjj]at f2
        refine((hin jj z dz f1 f2).mono s12 (A':=λ p=>lab' p=(i+2,jj+1)) λ p o e q=>by rw[lo (s1 _ _ e)];exact q).but B (s12 _ _ hl) rfl λ q=>?_
        rw[aI]at q;simp only[zCf]at q;lia
      .rw[if_neg hz]at w
       exact zAJ w
  |_=>exact zAJ W
end
mutual
def eqD:D->D->Bool
 | .non,.non=>true
 | .bl a,.bl b=>a==b
 | .bl a,.int b=>(if a then 1 else 0)==b
 | .int a,.bl b=>a==(if b then 1 else 0)
 | .int a,.int b=>a==b
 | .str a,.str b=>a==b
 | .tup l,.tup m=>fP l m
 | .lst l,.lst m=>fP l m
 |_,_=>false
def fP:List D->List D->Bool
 |[],[]=>true
 |x::xs,y::ys=>eqD x y&&fP xs ys
 |_,_=>false
end
mutual
def gm:D->Nat
 | .tup l=>bZ l+1
 | .lst l=>bZ l+1
 |_=>0
def bZ:List D->Nat
 |[]=>0
 |d::r=>max (gm d) (bZ r)
end
mutual
def aP:D->Bool
 | .tup l=>aV l
 | .lst l=>aV l
 | .dct _ _=>false
 | .set _=>false
 | .scr _=>false
 | .fn _=>false
 |_=>true
def aV:List D->Bool
 |[]=>true
 |d::r=>aP d&&aV r
end
mutual
theorem iW:∀d:D,aP d=true->eqD d d=true
 | .non,_=>by simp[eqD]
 | .bl b,_=>by simp[eqD]
 | .int i,_=>by simp[eqD]
 | .str x,_=>by simp[eqD]
 | .tup l,h=>by exact fu l (by simpa[aP]using h)
 | .lst l,h=>by exact fu l (by simpa[aP]using h)
 | .dct _ _,h=>by simp[aP]at h
 | .set _,h=>by simp[aP]at h
 | .scr _,h=>by simp[aP]at h
theorem fu:∀l:List D,aV l=true->fP l l=true
 |[],_=>by simp[fP]
 |d::r,h=>by
  simp only[aV,zAP]at h;simp only[fP,zAP];exact⟨iW d h.1,fu r h.2⟩
end
structure j8(K:zAA)(H:Hp)(s:zAF):Prop where
 tup:∀{a:Addr} {xs:List V},SqT K H a xs->∃its:List Value,Vals xs its/\s.heap.IsTuple a its.toArray
 lst:∀{a:Addr} {xs:List V},H a=some (.lst xs)->∃its:List Value,Vals xs its/\s.heap.IsList a its.toArray
 inj:∀{a:Addr} {xs ys:List V},SqT K H a xs->SqT K H a ys->xs=ys
 ne:∀{a:Addr} {xs ys:List V},SqT K H a xs->H a=some (.lst ys)->False
def Inv.seqOk(I:L2.Inv X hV σ H s):j8 X.K H s where
 tup:=λ h=>let⟨its,r,p,_⟩:=I.tuple h;⟨its,r,p⟩
 lst:=λ h=>let⟨its,r,p,_⟩:=I.list (SqL.of h);⟨its,r,p.isList⟩
 inj:=λ h h'=>I.tuple_inj h h'
 ne:=λ h h'=>by
  obtain⟨its,_,⟨o,e,c,_⟩,_⟩:=I.tuple h;obtain⟨its2,_,⟨o2,n2,e2,c2,_⟩,_⟩:=I.list (SqL.of h');rw[e]at e2;cases e2;rw[c]at c2;injection c2 with c3
  exact absurd c3 (by decide)
section
variable{K:zAA}{H:Hp}{s:zAF}
def ndP:D->Prop
 | .dct _ _=>False
 | .set _=>False
 | .scr _=>False
 | .fn _=>False
 |_=>True
def ndx{d:D}(h:aP d=true):ndP d:=by cases d<;>first|exact zCX|(simp[aP]at h)
def bH(h:aP (.dct a b)=true):False:=by simp[aP]at h
def dM(h:aP (.set a)=true):False:=by simp[aP]at h
def dN(h:aP (.scr a)=true):False:=by simp[aP]at h
def fM(h:aP (.fn a)=true):False:=by simp[aP]at h
def gr(h:aP (.tup a)=true):aV a=true:=by simpa[aP]using h
def gw(h:aP (.lst a)=true):aV a=true:=by simpa[aP]using h
def jB(h:aV (d::a)=true):aP d=true/\aV a=true:=by
 simp only[aV,zAP]at h;exact h
def aGk(K:zAA)(s:zAF)(H:Hp)(x:V)(d:D):Prop:=j8 K H s->∀(A':Addr->Prop) (e:D),Rp K A' H x e->aP d=true->aP e=true->d=e
def aAC(K:zAA)(s:zAF)(H:Hp)(xs:List V)(ds:List D):Prop:=j8 K H s->∀(A':Addr->Prop) (es:List D),Rps K A' H xs es->aV ds=true->aV es=true->ds=es
def aGO(ha:SqT K H a xs)(ih:aAC K s H xs ds):aGk K s H (.ref a) (.tup ds):=λ ok A' e h n1 n2=>by
 cases h with
 |tup hb r'=>
  have e:=ok.inj ha hb;subst e;rw[ih ok _ _ r' (gr n1) (gr n2)]
 |lst hb _ _=>exact(ok.ne ha hb).elim
 |_=>exact zAJ (ndx n2)
def aGP(ha:H a=some (.lst xs))(ih:aAC K s H xs ds):aGk K s H (.ref a) (.lst ds):=λ ok A' e h n1 n2=>by
 cases h with
 |tup hb r'=>exact(ok.ne hb ha).elim
 |lst hb _ r'=>
  rw[ha]at hb;cases hb;rw[ih ok _ _ r' (gw n1) (gw n2)]
 |_=>exact zAJ (ndx n2)
def aEH(h1:aGk K s H x d)(h2:aAC K s H xs ds):aAC K s H (x::xs) (d::ds):=λ ok A' es h n1 n2=>by
 cases h with
 |cons k r'=>rw[h1 ok _ _ k (jB n1).1 (jB n2).1,h2 ok _ _ r' (jB n1).2 (jB n2).2]
def Rp.inj(ok:j8 K H s)(r:Rp K A H x d)(h:Rp K A' H x e)(n1:aP d=true)(n2:aP e=true):d=e:=
 Rp.rec (motive_1:=λ _ H x d _=>aGk K s H x d) (motive_2:=λ _ H xs ds _=>aAC K s H xs ds)
  (λ _ _ _ h _ _=>by cases h;rfl) (λ _ _ _ _ h _ _=>by cases h;rfl) (λ _ _ _ _ h _ _=>by cases h;rfl) (λ _ _ _ _ h _ _=>by cases h;rfl) (λ ha _ ih=>aGO ha ih) (λ ha _ _ ih=>aGP ha ih)
  (λ _ _ _ _ _ _ _ _ n1 _=>(bH n1).elim) (λ _ _ _ _ _ _ _ _ n1 _=>(bH n1).elim) (λ _ _ _ _ _ _ _ _ n1 _=>(dM n1).elim) (λ _ _ _ _ _ n1 _=>(dN n1).elim) (λ _ _ _ _ _ n1 _=>(fM n1).elim)
  (λ _ _ _ h _ _=>by cases h;rfl) (λ _ _ h1 h2=>aEH h1 h2) r ok A' e h n1 n2
end
theorem lQ:∀(l m:List D),fP l m=((zAw (min l.length m.length)).all (λ j=>match l[j]?,m[j]? with|some a,some b=>eqD a b|_,_=>true)&&l.length==m.length)
 |[],[]=>by simp[fP]
 |[],y::ys=>by simp[fP]
 |x::xs,[]=>by simp[fP]
 |x::xs,y::ys=>by
  have ih:=lQ xs ys;simp only[fP,ih,zA2,zGz,zFr,zFh,zGJ,zC3,zEF,zDV,zG8,zHO,zDv];congr 1;congr 1;simp
theorem jY:∀{l:List D} {d:D},d∈l->gm d<=bZ l
 |x::r,d,h=>by
  simp only[bZ];rcases zAX.mp h with rfl|h
  .exact zDm _ _
  .exact zAc (jY h) (zD1 _ _)
theorem dw:∀{l:List D} {d:D},d∈l->aV l=true->aP d=true
 |x::r,d,h,n=>by
  simp only[aV,zAP]at n;rcases zAX.mp h with rfl|h
  .exact n.1
  .exact dw h n.2
def cV(hn:n=ds.length)(hm:m=es.length):((zAw (min n m)).all (λ j=>match ds[j]?,es[j]? with|some a,some b=>eqD a b|_,_=>true)&&n==m)=fP ds es:=by
 subst hn hm;exact(lQ ds es).symm
section
variable{K:zAA}{H:Hp}{s:zAF}
def aEj(K:zAA)(H:Hp)(s:zAF)(n:Nat):Prop:=∀(A1 A2:Addr->Prop) (x y:V) (d e:D) (A:zAd) (u v:Value),Rp K A1 H x d->Rp K A2 H y e->RelV x u->RelV y v->gm d<=n->aP d=true->aP e=true->A.units+n<cLine->zBl A s u v (eqD d e)
def aEk(K:zAA)(H:Hp)(s:zAF)(n:Nat):Prop:=∀(A1 A2:Addr->Prop) (xs ys:List V) (ds es:List D) (A:zAd) (us vs:List Value),Rps K A1 H xs ds->Rps K A2 H ys es->Vals xs us->Vals ys vs->bZ ds<=n->aV ds=true->aV es=true->A.units+n<cLine->
  ∀(j:Nat) (h1:j<us.toArray.size) (h2:j<vs.toArray.size),zBl A s us.toArray[j] vs.toArray[j] (match ds[j]?,es[j]? with|some a,some b=>eqD a b|_,_=>true)
def uM(ok:j8 K H s)(n:Nat)(IH:∀k,n=k+1->aEk K H s k):aEj K H s n:=by
 intro A1 A2 x y d e A u v r1 r2 ru rv hd nd ne hu;have hu0:A.units<cLine:=by lia
 cases r1 with
 |tup h1 q1=>
  rename_i a xs ds;cases ru;obtain⟨its,w1,t1⟩:=ok.tup h1;cases r2 with
  |tup h2 q2=>
   rename_i b ys es;cases rv;obtain⟨its2,w2,t2⟩:=ok.tup h2;by_cases hab:a=b
   .subst hab
    have e:=Rp.inj ok (Rp.tup h1 q1) (Rp.tup h2 q2) nd ne;rw[<-e,iW _ nd];exact zCS _
   .simp only[gm]at hd
    obtain⟨k,rfl⟩:∃k,n=k+1:=⟨n-1,by lia⟩
    have z:=zDs t1 t2 hu0 (IH k rfl _ _ _ _ _ _ _ _ _ q1 q2 w1 w2 (by lia) (gr nd) (gr ne) (by show A.units+1+k<cLine;lia));rw[cV (by rw[zAI,<-w1.length,q1.length]) (by rw[zAI,<-w2.length,q2.length])]at z;simp only[eqD];exact zBs hab z
  |lst h2 mm2 q2=>
   cases rv;obtain⟨its2,w2,t2⟩:=ok.lst h2;simp only[eqD];exact zEv t1 t2 hu0
  |non=>cases rv;exact zEw t1 hu0
  |bl b=>cases rv;exact zEu b t1 hu0
  |int i=>obtain⟨tk,rfl⟩:=rv;exact zFO i tk t1 hu0
  |str i=>obtain⟨tk,rfl⟩:=rv;exact zFP i tk t1 hu0
  |_=>exact zAJ (ndx ne)
 |lst h1 mm1 q1=>
  rename_i a xs ds;cases ru;obtain⟨its,w1,t1⟩:=ok.lst h1;cases r2 with
  |lst h2 mm2 q2=>
   rename_i b ys es;cases rv;obtain⟨its2,w2,t2⟩:=ok.lst h2;by_cases hab:a=b
   .subst hab
    have e:=Rp.inj ok (Rp.lst h1 mm1 q1) (Rp.lst h2 mm2 q2) nd ne;rw[<-e,iW _ nd];exact zCS _
   .simp only[gm]at hd
    obtain⟨k,rfl⟩:∃k,n=k+1:=⟨n-1,by lia⟩
    have l1:its.toArray.size=ds.length:=by rw[zAI,<-w1.length,q1.length]
    have l2:its2.toArray.size=es.length:=by rw[zAI,<-w2.length,q2.length]
    by_cases hl:its.toArray.size=its2.toArray.size
    .have z:=zEL t1 t2 hl hu0 (IH k rfl _ _ _ _ _ _ _ _ _ q1 q2 w1 w2 (by lia) (gw nd) (gw ne) (by show A.units+1+k<cLine;lia))
     have z':=cV (ds:=ds) (es:=es) l1 l2;rw[<-hl,zDn,beq_self_eq_true,zDU]at z';rw[z']at z;simp only[eqD];exact zBs hab z
    .have z:=zCv t1 t2 (by simpa using hl) hu0
     have z':=cV (ds:=ds) (es:=es) l1 l2;rw[beq_eq_false_iff_ne.mpr hl,zCR]at z';simp only[eqD];rw[<-z'];exact zBs hab z
  |tup h2 q2=>
   cases rv;obtain⟨its2,w2,t2⟩:=ok.tup h2;simp only[eqD];exact zEs t1 t2 hu0
  |non=>cases rv;exact zFK t1 hu0
  |bl b=>cases rv;exact zFJ b t1 hu0
  |int i=>obtain⟨tk,rfl⟩:=rv;exact zF4 i tk t1 hu0
  |str i=>obtain⟨tk,rfl⟩:=rv;exact zF5 i tk t1 hu0
  |_=>exact zAJ (ndx ne)
 |non=>
  cases ru;cases r2 with
  |tup h2 q2=>cases rv;obtain⟨_,_,t2⟩:=ok.tup h2;exact zEt t2 hu0
  |lst h2 mm2 q2=>cases rv;obtain⟨_,_,t2⟩:=ok.lst h2;exact zFM t2 hu0
  |dK _ _ _=>exact(bH ne).elim
  |dT _ _ _=>exact(bH ne).elim
  |set _ _ _ _=>exact(dM ne).elim
  |scr _=>exact(dN ne).elim
  |fn _=>exact(fM ne).elim
  |non=>cases rv;exact zCS _
  |bl b=>cases rv;exact zFL b
  |int i=>obtain⟨tk,rfl⟩:=rv;exact zF6 i tk
  |str i=>obtain⟨tk,rfl⟩:=rv;exact zF7 i tk
 |bl a=>
  cases ru;cases r2 with
  |tup h2 q2=>cases rv;obtain⟨_,_,t2⟩:=ok.tup h2;exact zEr a t2 hu0
  |lst h2 mm2 q2=>cases rv;obtain⟨_,_,t2⟩:=ok.lst h2;exact zFG a t2 hu0
  |dK _ _ _=>exact(bH ne).elim
  |dT _ _ _=>exact(bH ne).elim
  |set _ _ _ _=>exact(dM ne).elim
  |scr _=>exact(dN ne).elim
  |fn _=>exact(fM ne).elim
  |non=>cases rv;exact zFH a
  |bl b=>cases rv;exact zFF a b
  |int i=>obtain⟨tk,rfl⟩:=rv;exact zFZ a i tk
  |str i=>obtain⟨tk,rfl⟩:=rv;exact zF0 a i tk
 |int a=>
  obtain⟨tu,rfl⟩:=ru;cases r2 with
  |tup h2 q2=>cases rv;obtain⟨_,_,t2⟩:=ok.tup h2;exact zFI a tu t2 hu0
  |lst h2 mm2 q2=>cases rv;obtain⟨_,_,t2⟩:=ok.lst h2;exact zF2 a tu t2 hu0
  |dK _ _ _=>exact(bH ne).elim
  |dT _ _ _=>exact(bH ne).elim
  |set _ _ _ _=>exact(dM ne).elim
  |scr _=>exact(dN ne).elim
  |fn _=>exact(fM ne).elim
  |non=>cases rv;exact zF3 a tu
  |bl b=>cases rv;exact zF1 a tu b
  |int i=>obtain⟨tk,rfl⟩:=rv;exact zDf a tu i tk
  |str i=>obtain⟨tk,rfl⟩:=rv;exact zDg a tu i tk
 |str a=>
  obtain⟨tu,rfl⟩:=ru;cases r2 with
  |tup h2 q2=>cases rv;obtain⟨_,_,t2⟩:=ok.tup h2;exact zFN a tu t2 hu0
  |lst h2 mm2 q2=>cases rv;obtain⟨_,_,t2⟩:=ok.lst h2;exact zF9 a tu t2 hu0
  |dK _ _ _=>exact(bH ne).elim
  |dT _ _ _=>exact(bH ne).elim
  |set _ _ _ _=>exact(dM ne).elim
  |scr _=>exact(dN ne).elim
  |fn _=>exact(fM ne).elim
  |non=>cases rv;exact zFa a tu
  |bl b=>cases rv;exact zF8 a tu b
  |int i=>obtain⟨tk,rfl⟩:=rv;exact zDh a tu i tk
  |str i=>obtain⟨tk,rfl⟩:=rv;exact zFf a tu i tk
 |_=>exact zAJ (ndx nd)
def vY(ok:j8 K H s)(n:Nat)(IH:aEj K H s n):aEk K H s n:=by
 intro A1 A2 xs ys ds es A us vs q1 q2 w1 w2 hd nd ne hu j h1 h2;have hj1:j<us.length:=by simpa using h1
 have hj2:j<vs.length:=by simpa using h2
 have hx:j<xs.length:=by rw[w1.length];exact hj1
 have hy:j<ys.length:=by rw[w2.length];exact hj2
 have ex:=zAE hx;have ey:=zAE hy;obtain⟨d,ed,rd⟩:=q1.get ex;obtain⟨e,ee,re⟩:=q2.get ey;obtain⟨u,eu,ru⟩:=w1.get ex;obtain⟨v,ev,rv⟩:=w2.get ey;have e1:us.toArray[j]=u:=by
  rw[zCl];exact zAk ((zAE hj1).symm.trans eu)
 have e2:vs.toArray[j]=v:=by
  rw[zCl];exact zAk ((zAE hj2).symm.trans ev)
 rw[e1,e2,ed,ee];exact IH _ _ _ _ _ _ _ _ _ rd re ru rv (zAc (jY (zA9 ed)) hd) (dw (zA9 ed) nd) (dw (zA9 ee) ne) hu
theorem aE3(ok:j8 K H s):∀n,aEj K H s n
 |0=>uM ok 0 λ k h=>absurd h (by simp)
 |n+1=>uM ok (n+1) λ k h=>by
  have h':=zGy h;subst h';exact vY ok n (aE3 ok n)
def xU(ok:j8 K H s):∀{A1 A2:Addr->Prop} {x y:V} {d e:D} (n:Nat) {A:zAd} {u v:Value},Rp K A1 H x d->Rp K A2 H y e->RelV x u->RelV y v->gm d<=n->aP d=true->aP e=true->A.units+n<cLine->zBl A s u v (eqD d e)
 |_,_,_,_,_,_,n,A,u,v,r1,r2,ru,rv,hd,nd,ne,hu=>aE3 ok n _ _ _ _ _ _ _ _ _ r1 r2 ru rv hd nd ne hu
def zZ(ok:j8 K H s):∀{A1 A2:Addr->Prop} {xs ys:List V} {ds es:List D} (n:Nat) {A:zAd} {us vs:List Value},Rps K A1 H xs ds->Rps K A2 H ys es->Vals xs us->Vals ys vs->bZ ds<=n->aV ds=true->aV es=true->A.units+n<cLine->
  ∀(j:Nat) (h1:j<us.toArray.size) (h2:j<vs.toArray.size),zBl A s us.toArray[j] vs.toArray[j] (match ds[j]?,es[j]? with|some a,some b=>eqD a b|_,_=>true)
 |_,_,xs,ys,ds,es,n,A,us,vs,q1,q2,w1,w2,hd,nd,ne,hu,j,h1,h2=>vY ok n (aE3 ok n) _ _ _ _ _ _ _ _ _ q1 q2 w1 w2 hd nd ne hu j h1 h2
def aDT(ok:j8 K H s)(n:Nat)(r1:Rp K A1 H x d)(r2:Rp K A2 H y e)(ru:RelV x u)(rv:RelV y v)(hd:gm d<=n)(nd:aP d=true)(ne:aP e=true)(hu:A.units+n<cLine):
  SeqAt.RcAt A s u v (eqD d e)/\SeqAt.RcNeAt A s u v (!eqD d e):=by
 have hu0:A.units<cLine:=by lia
 cases r1 with
 |tup h1 q1=>
  rename_i a xs ds;cases ru;obtain⟨its,w1,t1⟩:=ok.tup h1;cases r2 with
  |tup h2 q2=>
   rename_i b ys es;cases rv;obtain⟨its2,w2,t2⟩:=ok.tup h2;simp only[gm]at hd;obtain⟨k,rfl⟩:∃k,n=k+1:=⟨n-1,by lia⟩
   have he:=zZ ok (A:=A.in1) k q1 q2 w1 w2 (by lia) (gr nd) (gr ne) (by show A.units+1+k<cLine;lia);have z:=zDs t1 t2 hu0 he;have z2:=SeqAt.RcNeAt.tuples t1 t2 hu0 he;rw[cV (by rw[zAI,<-w1.length,q1.length]) (by rw[zAI,<-w2.length,q2.length])]at z z2;simp only[eqD];exact⟨z,z2⟩
  |lst h2 mm2 q2=>
   cases rv;obtain⟨its2,w2,t2⟩:=ok.lst h2;simp only[eqD];exact⟨SeqAt.RcAt.tuple_list t1 t2 hu0,SeqAt.RcNeAt.tuple_list t1 t2 hu0⟩
  |non=>cases rv;exact⟨SeqAt.RcAt.tuple_none t1 hu0,SeqAt.RcNeAt.tuple_none t1 hu0⟩
  |bl b=>cases rv;exact⟨SeqAt.RcAt.tuple_bool b t1 hu0,SeqAt.RcNeAt.tuple_bool b t1 hu0⟩
  |int i=>obtain⟨tk,rfl⟩:=rv;exact⟨SeqAt.RcAt.tuple_int i tk t1 hu0,SeqAt.RcNeAt.tuple_int i tk t1 hu0⟩
  |str i=>obtain⟨tk,rfl⟩:=rv;exact⟨SeqAt.RcAt.tuple_str i tk t1 hu0,SeqAt.RcNeAt.tuple_str i tk t1 hu0⟩
  |_=>exact zAJ (ndx ne)
 |lst h1 mm1 q1=>
  rename_i a xs ds;cases ru;obtain⟨its,w1,t1⟩:=ok.lst h1;cases r2 with
  |lst h2 mm2 q2=>
   rename_i b ys es;cases rv;obtain⟨its2,w2,t2⟩:=ok.lst h2;simp only[gm]at hd;obtain⟨k,rfl⟩:∃k,n=k+1:=⟨n-1,by lia⟩
   have l1:its.toArray.size=ds.length:=by rw[zAI,<-w1.length,q1.length]
   have l2:its2.toArray.size=es.length:=by rw[zAI,<-w2.length,q2.length]
   have z':=cV (ds:=ds) (es:=es) l1 l2;by_cases hl:its.toArray.size=its2.toArray.size
   .have he:=zZ ok (A:=A.in1) k q1 q2 w1 w2 (by lia) (gw nd) (gw ne) (by show A.units+1+k<cLine;lia)
    have z:=zEL t1 t2 hl hu0 he;have z2:=SeqAt.RcNeAt.lists t1 t2 hl hu0 he;rw[<-hl,zDn,beq_self_eq_true,zDU]at z';rw[z']at z z2;simp only[eqD];exact⟨z,z2⟩
   .rw[beq_eq_false_iff_ne.mpr hl,zCR]at z'
    simp only[eqD];rw[<-z'];exact⟨zCv t1 t2 (by simpa using hl) hu0,SeqAt.RcNeAt.lists_lengths t1 t2 (by simpa using hl) hu0⟩
  |tup h2 q2=>
   cases rv;obtain⟨its2,w2,t2⟩:=ok.tup h2;simp only[eqD];exact⟨SeqAt.RcAt.list_tuple t1 t2 hu0,SeqAt.RcNeAt.list_tuple t1 t2 hu0⟩
  |non=>cases rv;exact⟨SeqAt.RcAt.list_none t1 hu0,SeqAt.RcNeAt.list_none t1 hu0⟩
  |bl b=>cases rv;exact⟨SeqAt.RcAt.list_bool b t1 hu0,SeqAt.RcNeAt.list_bool b t1 hu0⟩
  |int i=>obtain⟨tk,rfl⟩:=rv;exact⟨SeqAt.RcAt.list_int i tk t1 hu0,SeqAt.RcNeAt.list_int i tk t1 hu0⟩
  |str i=>obtain⟨tk,rfl⟩:=rv;exact⟨SeqAt.RcAt.list_str i tk t1 hu0,SeqAt.RcNeAt.list_str i tk t1 hu0⟩
  |_=>exact zAJ (ndx ne)
 |non=>
  cases ru;cases r2 with
  |tup h2 q2=>cases rv;obtain⟨_,_,t2⟩:=ok.tup h2;exact⟨SeqAt.RcAt.none_tuple t2 hu0,SeqAt.RcNeAt.none_tuple t2 hu0⟩
  |lst h2 mm2 q2=>cases rv;obtain⟨_,_,t2⟩:=ok.lst h2;exact⟨SeqAt.RcAt.none_list t2 hu0,SeqAt.RcNeAt.none_list t2 hu0⟩
  |dK _ _ _=>exact(bH ne).elim
  |dT _ _ _=>exact(bH ne).elim
  |set _ _ _ _=>exact(dM ne).elim
  |scr _=>exact(dN ne).elim
  |fn _=>exact(fM ne).elim
  |non=>cases rv;exact⟨SeqAt.RcAt.none_none,SeqAt.RcNeAt.none_none⟩
  |bl b=>cases rv;exact⟨SeqAt.RcAt.none_bool b,SeqAt.RcNeAt.none_bool b⟩
  |int i=>obtain⟨tk,rfl⟩:=rv;exact⟨SeqAt.RcAt.none_int i tk,SeqAt.RcNeAt.none_int i tk⟩
  |str i=>obtain⟨tk,rfl⟩:=rv;exact⟨SeqAt.RcAt.none_str i tk,SeqAt.RcNeAt.none_str i tk⟩
 |bl a=>
  cases ru;cases r2 with
  |tup h2 q2=>cases rv;obtain⟨_,_,t2⟩:=ok.tup h2;exact⟨SeqAt.RcAt.bool_tuple a t2 hu0,SeqAt.RcNeAt.bool_tuple a t2 hu0⟩
  |lst h2 mm2 q2=>cases rv;obtain⟨_,_,t2⟩:=ok.lst h2;exact⟨SeqAt.RcAt.bool_list a t2 hu0,SeqAt.RcNeAt.bool_list a t2 hu0⟩
  |dK _ _ _=>exact(bH ne).elim
  |dT _ _ _=>exact(bH ne).elim
  |set _ _ _ _=>exact(dM ne).elim
  |scr _=>exact(dN ne).elim
  |fn _=>exact(fM ne).elim
  |non=>cases rv;exact⟨SeqAt.RcAt.bool_none a,SeqAt.RcNeAt.bool_none a⟩
  |bl b=>cases rv;exact⟨SeqAt.RcAt.bool_bool a b,SeqAt.RcNeAt.bool_bool a b⟩
  |int i=>obtain⟨tk,rfl⟩:=rv;exact⟨SeqAt.RcAt.bool_int a i tk,SeqAt.RcNeAt.bool_int a i tk⟩
  |str i=>obtain⟨tk,rfl⟩:=rv;exact⟨SeqAt.RcAt.bool_str a i tk,SeqAt.RcNeAt.bool_str a i tk⟩
 |int a=>
  obtain⟨tu,rfl⟩:=ru;cases r2 with
  |tup h2 q2=>cases rv;obtain⟨_,_,t2⟩:=ok.tup h2;exact⟨SeqAt.RcAt.int_tuple a tu t2 hu0,SeqAt.RcNeAt.int_tuple a tu t2 hu0⟩
  |lst h2 mm2 q2=>cases rv;obtain⟨_,_,t2⟩:=ok.lst h2;exact⟨SeqAt.RcAt.int_list a tu t2 hu0,SeqAt.RcNeAt.int_list a tu t2 hu0⟩
  |dK _ _ _=>exact(bH ne).elim
  |dT _ _ _=>exact(bH ne).elim
  |set _ _ _ _=>exact(dM ne).elim
  |scr _=>exact(dN ne).elim
  |fn _=>exact(fM ne).elim
  |non=>cases rv;exact⟨SeqAt.RcAt.int_none a tu,SeqAt.RcNeAt.int_none a tu⟩
  |bl b=>cases rv;exact⟨SeqAt.RcAt.int_bool a tu b,SeqAt.RcNeAt.int_bool a tu b⟩
  |int i=>obtain⟨tk,rfl⟩:=rv;exact⟨SeqAt.RcAt.int_int a tu i tk,SeqAt.RcNeAt.int_int a tu i tk⟩
  |str i=>obtain⟨tk,rfl⟩:=rv;exact⟨SeqAt.RcAt.int_str a tu i tk,SeqAt.RcNeAt.int_str a tu i tk⟩
 |str a=>
  obtain⟨tu,rfl⟩:=ru;cases r2 with
  |tup h2 q2=>cases rv;obtain⟨_,_,t2⟩:=ok.tup h2;exact⟨SeqAt.RcAt.str_tuple a tu t2 hu0,SeqAt.RcNeAt.str_tuple a tu t2 hu0⟩
  |lst h2 mm2 q2=>cases rv;obtain⟨_,_,t2⟩:=ok.lst h2;exact⟨SeqAt.RcAt.str_list a tu t2 hu0,SeqAt.RcNeAt.str_list a tu t2 hu0⟩
  |dK _ _ _=>exact(bH ne).elim
  |dT _ _ _=>exact(bH ne).elim
  |set _ _ _ _=>exact(dM ne).elim
  |scr _=>exact(dN ne).elim
  |fn _=>exact(fM ne).elim
  |non=>cases rv;exact⟨SeqAt.RcAt.str_none a tu,SeqAt.RcNeAt.str_none a tu⟩
  |bl b=>cases rv;exact⟨SeqAt.RcAt.str_bool a tu b,SeqAt.RcNeAt.str_bool a tu b⟩
  |int i=>obtain⟨tk,rfl⟩:=rv;exact⟨SeqAt.RcAt.str_int a tu i tk,SeqAt.RcNeAt.str_int a tu i tk⟩
  |str i=>obtain⟨tk,rfl⟩:=rv;exact⟨SeqAt.RcAt.str_str a tu i tk,SeqAt.RcNeAt.str_str a tu i tk⟩
 |_=>exact zAJ (ndx nd)
end
section
variable{K:zAA}{H:Hp}{s:zAF}
open Classical in
def il(K:zAA)(H:Hp)(d:D)(u:Value):Bool:=if h:∃e,aP e=true/\∃y,RelV y u/\Rp K (λ _=>True) H y e then eqD (choose h) d else false
def o5(ok:j8 K H s)(r:RelV y u)(h:Rp K A H y e)(ne:aP e=true):il K H d u=eqD e d:=by
 have hx:∃e,aP e=true/\∃y,RelV y u/\Rp K (λ _=>True) H y e:=⟨e,ne,y,r,h.wk λ _ _ _ _=>trivial⟩
 unfold il;rw[dif_pos hx];obtain⟨n',y',r',h'⟩:=zEy hx;have e1:=RelV.inj r r';subst e1;rw[Rp.inj ok h' h n' ne]
def inD(d:D)(es:List D):Bool:=es.any λ e=>eqD e d
def ou(ok:j8 K H s):∀{A:Addr->Prop} {xs:List V} {es:List D} {us:List Value},Rps K A H xs es->Vals xs us->aV es=true->us.any (il K H d)=inD d es:=by
 intro A xs es us h v n;induction v generalizing es with
 |nil=>cases h;rfl
 |cons k t ih=>
  cases h with
  |cons h r=>
   simp only[aV,zAP]at n;unfold inD;rw[zC2,zC2,o5 ok k h n.1,ih r n.2];rfl
def jq(ok:j8 K H s)(rx:Rp K A0 H x d)(rv:RelV x v)(hu:A.units+n<cLine)(nd:aP d=true):∀{A1:Addr->Prop} {xs:List V} {es:List D} {us:List Value},Rps K A1 H xs es->Vals xs us->bZ es<=n->aV es=true->∀u∈us,zBl A s u v (il K H d u):=by
 intro A1 xs es us h v' hd ne u hm;induction v' generalizing es with
 |nil=>cases hm
 |cons k t ih=>
  cases h with
  |cons h r=>
   simp only[bZ]at hd;simp only[aV,zAP]at ne;rcases zAX.mp hm with z|z
   .subst z
    rw[o5 ok k h ne.1];exact xU ok n h rx k rv (zAc (zDm _ _) hd) ne.1 nd hu
   .exact ih r (zAc (zD1 _ _) hd) ne.2 z
end
section
variable{X:Cx}
def aDW(K:zAA)(neg:Bool):R2:=λ x y H Q=>∃A B d e,Rp K A H x d/\Rp K B H y e/\gm d<=60/\aP d=true/\aP e=true/\Q (.bl (if neg then !eqD d e else eqD d e)) H
def aIU(hu:X.A.units+64<cLine):OpR X (zAr .Eq) (aDW X.K false):=by
 intro hV s σ H x y v u Q I rx ry h;obtain⟨A,B,d,e,r1,r2,hd,nd,ne,q⟩:=h;exact(aDT (Inv.seqOk I) 60 r1 r2 rx ry hd nd ne (by lia)).1 X.prog X.w X.xe _ ⟨.bl (eqD d e),H,I,rfl,q⟩
def aIM(hu:X.A.units+64<cLine):OpR X (zAr .NotEq) (aDW X.K true):=by
 intro hV s σ H x y v u Q I rx ry h;obtain⟨A,B,d,e,r1,r2,hd,nd,ne,q⟩:=h;exact(aDT (Inv.seqOk I) 60 r1 r2 rx ry hd nd ne (by lia)).2 X.prog X.w X.xe _ ⟨.bl (!eqD d e),H,I,rfl,q⟩
def aCD(K:zAA)(neg:Bool):R2:=λ x y H Q=>∃A B d a es,Rp K A H x d/\y= .ref a/\(Rp K B H (.ref a) (.lst es)\/Rp K B H (.ref a) (.tup es))/\bZ es<=60/\aP d=true/\aV es=true/\Q (.bl (if neg then !inD d es else inD d es)) H
def aIT(hu:X.A.units+64<cLine):OpR X (zAr .In) (aCD X.K false):=by
 intro hV s σ H x y v u Q I rx ry h;obtain⟨A,B,d,a,es,rd,rfl,ra,hd,nd,ne,q⟩:=h;cases ry;have ok:=Inv.seqOk I;have hu1:X.A.in1.units+60<cLine:=by show X.A.units+1+60<cLine;lia
 rcases ra with ra|ra
 .cases ra with
  |lst ha _ r=>
   obtain⟨its,rv,tl⟩:=ok.lst ha;refine SeqAt.in_listAt (il X.K H d) tl (λ w hw=>jq ok rd rx hu1 nd r rv hd ne w (by simpa using hw)) ⟨.bl _,H,I,rfl,?_⟩;rw[show its.toArray.any (il X.K H d)=its.any (il X.K H d)by simp,ou ok r rv ne];exact q
 .cases ra with
  |tup ha r=>
   obtain⟨its,rv,tl⟩:=ok.tup ha;refine SeqAt.in_tupleAt (il X.K H d) tl (λ w hw=>jq ok rd rx hu1 nd r rv hd ne w (by simpa using hw)) ⟨.bl _,H,I,rfl,?_⟩;rw[show its.toArray.any (il X.K H d)=its.any (il X.K H d)by simp,ou ok r rv ne];exact q
def aCI(hu:X.A.units+64<cLine):OpR X (zAr .NotIn) (aCD X.K true):=by
 intro hV s σ H x y v u Q I rx ry h;obtain⟨A,B,d,a,es,rd,rfl,ra,hd,nd,ne,q⟩:=h;cases ry;have ok:=Inv.seqOk I;have hu1:X.A.in1.units+60<cLine:=by show X.A.units+1+60<cLine;lia
 rcases ra with ra|ra
 .cases ra with
  |lst ha _ r=>
   obtain⟨its,rv,tl⟩:=ok.lst ha;refine SeqAt.notIn_listAt (il X.K H d) tl (λ w hw=>jq ok rd rx hu1 nd r rv hd ne w (by simpa using hw)) ⟨.bl _,H,I,rfl,?_⟩;rw[show its.toArray.any (il X.K H d)=its.any (il X.K H d)by simp,ou ok r rv ne];exact q
 .cases ra with
  |tup ha r=>
   obtain⟨its,rv,tl⟩:=ok.tup ha;refine SeqAt.notIn_tupleAt (il X.K H d) tl (λ w hw=>jq ok rd rx hu1 nd r rv hd ne w (by simpa using hw)) ⟨.bl _,H,I,rfl,?_⟩;rw[show its.toArray.any (il X.K H d)=its.any (il X.K H d)by simp,ou ok r rv ne];exact q
end
section
variable{K:zAA}
def eqR(neg:Bool):D->D->Rs D:=λ d e=>if decide (gm d<=60)&&aP d&&aP e then .ok (.bl (if neg then !eqD d e else eqD d e))else .st
def inR(neg:Bool):D->D->Rs D:=λ d e=>match e with
 | .lst es=>if decide (bZ es<=60)&&aP d&&aV es then .ok (.bl (if neg then !inD d es else inD d es))else .st
 | .tup es=>if decide (bZ es<=60)&&aP d&&aV es then .ok (.bl (if neg then !inD d es else inD d es))else .st
 |_=>.st
def os_eq:OpS K (aDW K n) (eqR n):=by
 intro A x y d e H Q z rx ry ez q;unfold eqR at ez;split at ez
 .rename_i h
  simp only[zAP,decide_eq_true_eq]at h;cases ez;exact⟨A,A,d,e,rx,ry,h.1.1,h.1.2,h.2,q _ H (aQ.refl H) (.bl _)⟩
 .cases ez
def aDj:OpS K (aCD K n) (inR n):=by
 intro A x y d e H Q z rx ry ez q;unfold inR at ez;split at ez
 .split at ez
  .rename_i h
   simp only[zAP,decide_eq_true_eq]at h;cases ez;cases ry with
   |lst ha mm r=>exact⟨A,A,d,_,_,rx,rfl,.inl (.lst ha mm r),h.1.1,h.1.2,h.2,q _ H (aQ.refl H) (.bl _)⟩
  .cases ez
 .split at ez
  .rename_i h
   simp only[zAP,decide_eq_true_eq]at h;cases ez;cases ry with
   |tup ha r=>exact⟨A,A,d,_,_,rx,rfl,.inr (.tup ha r),h.1.1,h.1.2,h.2,q _ H (aQ.refl H) (.bl _)⟩
  .cases ez
 .cases ez
def aEO:∀x y z,eqR n x y= .ok z->imm z=true:=by
 intro x y z e;unfold eqR at e;split at e
 .cases e;rfl
 .cases e
end
section
variable{K:zAA}
def boolsOf:List D->Option (List Bool)
 |[]=>some []
 | .bl i::r=>(boolsOf r).map (i::·)
 |_=>none
theorem o9:∀{l:List D} {ns:List Bool},boolsOf l=some ns->l=ns.map .bl
 |[],ns,h=>by cases h;rfl
 | .bl i::r,ns,h=>by
  simp only[boolsOf,zC4]at h;obtain⟨ms,h1,rfl⟩:=h;rw[o9 h1];rfl
 | .non::_,_,h=>by cases h
 | .int _::_,_,h=>by cases h
 | .str _::_,_,h=>by cases h
 | .tup _::_,_,h=>by cases h
 | .lst _::_,_,h=>by cases h
 | .dct _ _::_,_,h=>by cases h
 | .set _::_,_,h=>by cases h
 | .scr _::_,_,h=>by cases h
theorem qj:∀ns:List Bool,boolsOf (ns.map .bl)=some ns
 |[]=>rfl
 |n::ns=>by simp only[zAH,boolsOf,qj ns,zD4]
theorem vd{X:Cx}:∀{bs:List Bool} {us:List Value},Vals (bs.map V.bl) us->LSm.BoolsAre us bs
 |[],_,.nil=>.nil
 |b::bs,_,.cons r t=>by
  have e:_=zDi b:=r;subst e;exact .cons b (vd (X:=X) t)
theorem Rps.bools_of:∀{xs:List V} {bs:List Bool},Rps K A H xs (bs.map D.bl)->xs=bs.map V.bl
 |_,[],.nil=>rfl
 |_,n::ns,.cons h r=>by
  cases h;rw[zAH,Rps.bools_of r]
def yE(f:List Bool->Bool):List D->Rs D
 |[.lst l]=>match boolsOf l with
  |some bs=>.ok (.bl (f bs))
  |none=>.st
 |_=>.st
def aEa{X:Cx}(hc:X.calm=true):cA X (.builtin "all") (λ xs H Q=>∃(p:Addr) (bs:List Bool),xs=[.ref p]/\H p=some (.lst (bs.map V.bl))/\Q (.bl (bs.all id)) H):=by
 intro hV s σ H xs us Q I r h;obtain⟨p,bs,rfl,hp,q⟩:=h;obtain⟨u,rfl,ru⟩:=vals1 r;cases ru;obtain⟨its,rv,pl,hz⟩:=I.list (SqL.of hp);have hb:=vd (X:=X) rv;have hl:=pl.isList;have hlt:p<s.heap.objs.size:=by obtain⟨_,e,_⟩:=hl;exact zA4 e
 refine call_all_walk (zHh hl ?_);refine⟨s.heap.objs.size,[s.heap.objs.size,p],[s.heap.objs.size],its.toArray.size,_,_,λ i=>(bs[i]?).getD true,rfl,Walks.list (A:=X.A.in1) (I.ok.hd hc) _ p (zAn hlt) its.toArray,
  ⟨⟨_,zA1 _ rfl,rfl,rfl⟩,hl.push _⟩,λ i v s' Q' E' hP hQ=>?_,λ h' tk hk=>?_⟩
 .obtain⟨b,e,rfl⟩:=hb.get i v (by simpa using hP)
  simp only[e,Option.getD_some]at hQ;exact zCA hQ
 .have e:((zAw its.toArray.size).all λ i=>(bs[i]?).getD true)=bs.all id:=by
   rw[zAI,hb.length];exact LSm.range_all bs
  rw[e];exact⟨.bl _,H,I.kept (LSm.kept_iter hk),rfl,q⟩
def aIx:pG K (λ xs H Q=>∃(p:Addr) (bs:List Bool),xs=[.ref p]/\H p=some (.lst (bs.map V.bl))/\Q (.bl (f bs)) H) (yE f):=by
 intro A xs ds H Q z r ez q;unfold yE at ez;split at ez
 .split at ez
  .rename_i l bs e
   cases ez
   have:=o9 e
   subst this;cases r with
   |cons h r=>
    cases r;cases h with
    |lst h m r=>
     have:=r.bools_of
     subst this;exact⟨_,bs,rfl,h,q _ H (aQ.refl H) (.bl _)⟩
  .cases ez
 .cases ez
def aGR:∀x z,yE f x= .ok z->imm z=true:=by
 intro x z e;unfold yE at e;split at e
 .split at e
  .cases e;rfl
  .cases e
 .cases e
def mmD(f:Int->Int->Int):List D->Rs D
 |[.int i,.int j]=>.ok (.int (f i j))
 |_=>.st
def aHS:pG K (λ xs H Q=>∃i j,xs=[.int i,.int j]/\Q (.int (f i j)) H) (mmD f):=by
 intro A xs ds H Q z r ez q;unfold mmD at ez;split at ez
 .cases ez
  cases r with
  |cons h r=>
   cases h;cases r with
   |cons h r=>
    cases h;cases r;exact⟨_,_,rfl,q _ H (aQ.refl H) (.int _)⟩
 .cases ez
def aEL:∀x z,mmD f x= .ok z->imm z=true:=by
 intro x z e;unfold mmD at e;split at e
 .cases e;rfl
 .cases e
def fC:List D->Rs D
 |[.lst l]=>.ok (.tup l)
 |[.tup l]=>.ok (.tup l)
 |_=>.st
def aE8:pG K (λ xs H Q=>∃p ys,xs=[.ref p]/\((SqL K H p ys/\∀l,H l=none->Q (.ref l) (upd H l (.tup ys)))\/(SqT K H p ys/\Q (.ref p) H))) fC:=by
 intro A xs ds H Q z r ez q;unfold fC at ez;split at ez
 .cases ez
  cases r with
  |cons h r=>
   cases r;cases h with
   |lst h m r=>exact⟨_,_,rfl,.inl ⟨SqL.of h,λ l hl=>q _ _ (bB hl _) (.tup (SqT.of aa) ((r.wk λ _ _ _ z=>.inr z.1).up (bB hl _)))⟩⟩
 .cases ez
  cases r with
  |cons h r=>
   cases r;cases h with
   |tup h r=>exact⟨_,_,rfl,.inr ⟨h,q _ H (aQ.refl H) (.tup h (r.wk λ _ _ _ z=>.inr z))⟩⟩
 .cases ez
end
def cutD(l:List D)(lo hi:Option Int):List D:=(l.drop (HT.sIx l.length 0 lo)).take (HT.sIx l.length l.length hi-HT.sIx l.length 0 lo)
def Rps.cut{K:zAA}(r:Rps K A H xs ds)(lo hi:Option Int):Rps K A H (uT xs lo hi) (cutD ds lo hi):=by
 unfold uT cutD;rw[r.length];exact(r.drop _).take _
def slD(d:D)(lo hi:Option Int):Rs D:=match d with
 | .tup l=>.ok (.tup (cutD l lo hi))
 | .lst l=>.ok (.lst (cutD l lo hi))
 |_=>.st
def aJU(K:zAA):V->Option Int->Option Int->Hp->VK->Prop:=λ x lo hi H Q=>(∃a xs,x= .ref a/\SqT K H a xs/\∀c H',aQ H H'->SqT K H' c (uT xs lo hi)->Q (.ref c) H')\/aJV K x lo hi H Q
def aFA:SlR X (λ x lo hi H Q=>∃a xs,x= .ref a/\SqT X.K H a xs/\∀c H',aQ H H'->SqT X.K H' c (uT xs lo hi)->Q (.ref c) H'):=by
 intro hV s σ H x v vl vu lo hi sl Q I rx hs pl pu h;obtain⟨a,xs,rfl,hx,q⟩:=h;cases rx;obtain⟨its,r,ht,hz⟩:=I.tuple hx;have hW:its.toArray.size=xs.length:=by rw[zAI];exact r.length.symm
 refine⟨"tuple",_,zBQ.lookup,ht.typeIs,?_⟩;by_cases hw:HT.sIx xs.length 0 lo=0/\HT.sIx xs.length xs.length hi=xs.length
 .refine HT.oX ht hs pl pu (by rw[hW];exact hw.1) (by rw[hW];exact hw.2) ⟨.ref a,H,I,rfl,q a H (aQ.refl H) ?_⟩
  have:uT xs lo hi=xs:=by
   unfold uT;rw[hw.1,hw.2,zDy,zEc,List.take_length]
  rw[this];exact hx
 .refine HT.oW ht hs pl pu (by rw[hW];exact hw) ?_ (by rw[hW];exact hz)
  rw[hW];refine⟨.ref s.heap.objs.size,_,I.laid (t':=s.toks) (o:=.tup (uT xs lo hi)) (λ b ob q=>zAC _ q) (zAU _) ?_,rfl,q _ _ (bB (I.hok.fresh (zAU _)) _) (SqT.of aa)⟩;exact⟨⟨zAc (qe xs lo hi) hz,NoD.push _⟩,_,(r.drop (HT.sIx xs.length 0 lo)).take (HT.sIx xs.length xs.length hi-HT.sIx xs.length 0 lo),zEj _ _⟩
def aK1:SlR X (aJU X.K):=aFA.or aFB
section
variable{C:Ct}{pos p2:Pos}{m:Mode}{a e:Expr}{fa fe:En->Rs D}{lo hi:Option Expr}
def aKh(K:zAA)(G:Gx)(t:TO)(f:En->Rs (Option Int)):Prop:=∀U σ H ρ lab (Q:Option Int->Hp->Prop),RR K G U ρ σ H lab->WR G (f ρ) (λ o=>∀H',aQ H H'->Q o H')->t σ H Q
def SO(C:Ct)(e:Option Expr)(f:En->Rs (Option Int)):Prop:=∃t,(∀i,PO (C.X i) e t)/\aKh C.K C.G t f
def aDn:En->Rs (Option Int):=λ _=>.ok none
def aDm(fe:En->Rs D):En->Rs (Option Int):=λ ρ=>(fe ρ).bd λ d=>match d with
 | .int i=>.ok (some i)
 |_=>.st
def aEz:SO C none aDn:=⟨_,λ _=>aFZ,λ U σ H ρ lab Q R W=>W H (aQ.refl H)⟩
def aEy(h:SE C m e fe):SO C (some e) (aDm fe):=by
 obtain⟨t,h1,h2⟩:=h;refine⟨_,λ i=>aFY (h1 i),λ U σ H ρ lab Q R W=>h2 U σ H ρ lab _ R (W.bd.imp λ d _ w x H1 s r=>?_)⟩;cases r with
 |int i=>exact⟨i,rfl,w H1 s⟩
 |_=>exact zAJ w
def aAP(fa:En->Rs D)(fl fh:En->Rs (Option Int)):En->Rs D:=λ ρ=>(fa ρ).bd λ d=>(fl ρ).bd λ l=>(fh ρ).bd λ h=>okD (slD d l h)
def aDD{fl fh:En->Rs (Option Int)}(ha:SE C m a fa)(hl:SO C lo fl)(hh:SO C hi fh):SE C m (.Subscript a (.Slice lo hi none p2) pos) (aAP fa fl fh):=by
 obtain⟨t,h1,h2⟩:=ha;obtain⟨tl,l1,l2⟩:=hl;obtain⟨th,k1,k2⟩:=hh;refine⟨tSl (aJU C.K) t tl th,λ i=>by rw[<-C.hK i];exact aD8 aK1 (h1 i) (l1 i) (k1 i),λ U σ H ρ lab Q R W=>h2 U σ H ρ lab _ R (W.bd.imp λ d _ w x H1 s1 r1=>?_)⟩;refine l2 U σ H1 ρ lab _ (R.up s1) (w.bd.imp λ ol _ w H2 s2=>?_);refine k2 U σ H2 ρ lab _ ((R.up s1).up s2) (w.bd.imp λ oh _ w H3 s3=>?_);obtain⟨z,ez,w⟩:=w.okD;have s:=s1.trans (s2.trans s3);have r3:=r1.up (s2.trans s3);cases d with
 |tup l=>
  cases ez;cases r3 with
  |tup h r=>exact .inl ⟨_,_,rfl,h,λ c H' s' hc=>w _ H' (s.trans s') (.tup hc ((r.cut ol oh).up s'))⟩
 |lst l=>
  cases ez;cases r3 with
  |lst h mm r=>
   exact .inr ⟨_,_,rfl,SqL.of h,λ p hp=>w _ _ (s.trans (bB hp _)) (.lst aa (.inl (s.free hp)) (((r.cut ol oh).wk λ q o e z=>⟨z.1,λ e'=>by subst e';rw[hp]at e;cases e⟩).up (bB hp _)))⟩
 |_=>cases ez
def aGa(fd:D->D->Rs D)(i:Nat)(fe:En->Rs D):En->Ou:=λ ρ=>(op2 fd (dZ i) fe ρ).bo λ d=>.nx (ρ.set i (.sh d))
def aCt(he:SE C m e fe)(ho:∀j,PIp (C.X j) op (ipI f))(hN:∀j,(C.X j).N[i]? =some x:=by intro _;rfl)(hx:∀j,Loc (C.X j).env.scope x:=by intro _;first|exact zB3 rfl|exact zBD rfl)(hf:∀j,(C.X j).fn x=true\/(C.X j).env.scope.names.lookup x=some .local:=by intro _;first|exact .inl rfl|exact .inr rfl)(nd:∀j,(C.X j).N.Nodup:=by intro _;assumption):SS C (.AugAssign (.Name x pos') op e pos) (aGa (i2 (λ _ _=>true) λ a b=>.int (f a b)) i fe):=by
 obtain⟨t,h1,h2⟩:=he;refine⟨_,λ j=>aD3 (nd j) (hN j) (hx j) (h1 j) (ho j) (hf j),λ U σ H ρ lab De R W=>?_⟩;have w0:=(WS.bo W).bd;refine aBR C.K C.G i U σ H ρ lab (λ v H'=>t σ H' λ y H1=>ipI f v y H1 λ z H2=>De.nx (σ.set i (some z)) H2) R (w0.imp λ d _ w v H' s r=>h2 U σ H' ρ lab _ (R.up s) (w.bd.imp λ e _ w y H1 s1 r1=>?_));obtain⟨z,ez,w⟩:=w.okD;unfold i2 at ez;split at ez
 .cases ez
  cases r;cases r1;exact⟨_,_,rfl,rfl,w _ _ _ (((R.up s).up s1).put (s:=.sh (.int _)) (Rp.int _))⟩
 .cases ez
end
section
variable{C:Ct}{pos p:Pos}{m m1 m2 m3:Mode}{a b c e:Expr}{fa fb fc:En->Rs D}{ga:En->Rs (List D)}
def Ct.u0(C:Ct)(i:C.ι):(C.X i).A.units<cLine:=(C.room i).units0
def Ct.u64(C:Ct)(i:C.ι):(C.X i).A.units+64<cLine:=(C.room i).units
def Ct.ltR(C:Ct)(i:C.ι):OpR (C.X i) (zAr .Lt) (λ x y H Q=>rI0 (λ i j=>.bl (decide (i<j))) x y H Q\/aFQ C.K x y H Q):=by have h:=aIP (X:=C.X i) (C.u0 i);rw[C.hK i]at h;exact h
def Ct.leR(C:Ct)(i:C.ι):OpR (C.X i) (zAr .LtE) (λ x y H Q=>rI0 (λ i j=>.bl (decide (i<=j))) x y H Q\/aFR C.K x y H Q):=by have h:=aIR (X:=C.X i) (C.u0 i);rw[C.hK i]at h;exact h
def Ct.eqRl(C:Ct)(i:C.ι):OpR (C.X i) (zAr .Eq) (aDW C.K false):=by have h:=aIU (X:=C.X i) (C.u64 i);rw[C.hK i]at h;exact h
def Ct.neRl(C:Ct)(i:C.ι):OpR (C.X i) (zAr .NotEq) (aDW C.K true):=by have h:=aIM (X:=C.X i) (C.u64 i);rw[C.hK i]at h;exact h
def Ct.inRl(C:Ct)(i:C.ι):OpR (C.X i) (zAr .In) (aCD C.K false):=by have h:=aIT (X:=C.X i) (C.u64 i);rw[C.hK i]at h;exact h
def Ct.ninRl(C:Ct)(i:C.ι):OpR (C.X i) (zAr .NotIn) (aCD C.K true):=by have h:=aCI (X:=C.X i) (C.u64 i);rw[C.hK i]at h;exact h
def Ct.aAA(C:Ct)(i:C.ι):OpR (C.X i) (zBe .Add) (aDX C.K):=by have h:=aFo (X:=C.X i);rw[C.hK i]at h;exact h
def wC:D->D->Rs D:=i2 (λ _ _=>true) λ i j=>.int (i-j)
def jE:D->D->Rs D:=i2 (λ _ j=>decide (0<j)&&decide (j<1073741824)) λ i j=>.int (i / j)
def pU:D->D->Rs D:=i2 (λ _ j=>decide (0<j)) λ i j=>.int (i%j)
def aHu:D->D->Rs D:=i2 (λ i j=>decide (0<=j)&&decide (j<=1000000)&&decide (i.natAbs<2^64)) λ i j=>.int (i^j.toNat)
def fJ(ha:SE C m1 a fa)(hb:SE C m2 b fb):SE C (jn m1 m2) (.BinOp a .Add b pos) (op2 fU fa fb):=sS C.aAA aII ha hb
def sU(ha:SE C m1 a fa)(hb:SE C m2 b fb):SE C (jn m1 m2) (.BinOp a .Mult b pos) (op2 lF fa fb):=sS (λ _=>aFj) aIG ha hb
def sO(ha:SE C m1 a fa)(hb:SE C m2 b fb):SE C (some []) (.BinOp a .Sub b pos) (op2 wC fa fb):=fW (sS (λ _=>aIJ) aFd ha hb) λ _ _ h=>jo xO h
def rE(ha:SE C m1 a fa)(hb:SE C m2 b fb):SE C (some []) (.BinOp a .FloorDiv b pos) (op2 jE fa fb):=fW (sS (λ _=>aFk) (aAb λ i j h=>by simpa[aKP]using h) ha hb) λ _ _ h=>jo xO h
def pJ(ha:SE C m1 a fa)(hb:SE C m2 b fb):SE C (some []) (.BinOp a .Mod b pos) (op2 pU fa fb):=fW (sS (λ _=>aIO) (aAb λ i j h=>by simpa using h) ha hb) λ _ _ h=>jo xO h
def aH8(ha:SE C m1 a fa)(hb:SE C m2 b fb):SE C (some []) (.BinOp a .Pow b pos) (op2 aHu fa fb):=fW (sS (λ _=>aIL) (aAb λ i j h=>by simp only[zAP,decide_eq_true_eq]at h;exact⟨h.1.1,h.1.2,h.2⟩) ha hb) λ _ _ h=>jo xO h
def aJT(ha:SE C m1 a fa)(hb:SE C m2 b fb):SE C (some []) (.Compare a [.Lt] [b] pos) (op2 ltD fa fb):=fW (aAU C.ltR aDg ha hb) λ _ _ h=>jo aEM h
def yW(ha:SE C m1 a fa)(hb:SE C m2 b fb):SE C (some []) (.Compare a [.Eq] [b] pos) (op2 (eqR false) fa fb):=fW (aAU C.eqRl os_eq ha hb) λ _ _ h=>jo aEO h
def aJS(ha:SE C m1 a fa)(hb:SE C m2 b fb):SE C (some []) (.Compare a [.NotEq] [b] pos) (op2 (eqR true) fa fb):=fW (aAU C.neRl os_eq ha hb) λ _ _ h=>jo aEO h
def rz(ha:SE C m1 a fa)(hb:SE C m2 b fb):ST C (.Compare a [.Lt] [b] pos) (tsb (op2 ltD fa fb)):=jd C.ltR aDg ha hb
def aGq(ha:SE C m1 a fa)(hb:SE C m2 b fb):ST C (.Compare a [.Gt] [b] pos) (tsb (op2 gtD fa fb)):=jd (λ _=>aJa) wg ha hb
def aGr(ha:SE C m1 a fa)(hb:SE C m2 b fb):ST C (.Compare a [.GtE] [b] pos) (tsb (op2 geD fa fb)):=jd (λ _=>aJb) wg ha hb
def vD(ha:SE C m1 a fa)(hb:SE C m2 b fb):ST C (.Compare a [.Eq] [b] pos) (tsb (op2 (eqR false) fa fb)):=jd C.eqRl os_eq ha hb
def rn(ha:SE C m1 a fa)(hb:SE C m2 b fb):ST C (.Compare a [.NotEq] [b] pos) (tsb (op2 (eqR true) fa fb)):=jd C.neRl os_eq ha hb
def aJQ(ha:SE C m1 a fa)(hb:SE C m2 b fb)(hm:zCD .In b=false:=by with_unfolding_all rfl):ST C (.Compare a [.In] [b] pos) (tsb (op2 (inR false) fa fb)):=jd C.inRl aDj ha hb hm
def aH3(ha:SE C m1 a fa)(hb:SE C m2 b fb)(hm:zCD .NotIn b=false:=by with_unfolding_all rfl):ST C (.Compare a [.NotIn] [b] pos) (tsb (op2 (inR true) fa fb)):=jd C.ninRl aDj ha hb hm
def aCq(ha:SE C m1 a fa)(hb:SE C m2 b fb):ST C (.Compare a [.IsNot] [b] pos) (tsb (op2 (isD true) fa fb)):=jd (λ _=>aFh) aDi ha hb
def aFJ(ha:SE C m1 a fa)(hb:SE C m2 b fb)(hc:SE C m3 c fc)(hm:zHG [.LtE,.LtE] [b,c]=false:=by with_unfolding_all rfl):SE C (some []) (.Compare a [.LtE,.LtE] [b,c] pos) (chD leD leD fa fb fc):=yZ C.leR aDh C.leR aDh aIi ha hb hc hm
def aFI(ha:SE C m1 a fa)(hb:SE C m2 b fb)(hc:SE C m3 c fc)(hm:zHG [.LtE,.Lt] [b,c]=false:=by with_unfolding_all rfl):SE C (some []) (.Compare a [.LtE,.Lt] [b,c] pos) (chD leD ltD fa fb fc):=yZ C.leR aDh C.ltR aDg aEM ha hb hc hm
def aM(ha:SE C m1 a fa)(hb:SE C m2 b fb)(hp:yG b:=by exact λ _ _=>rfl):SE C m1 (.Subscript a b pos) (op2 ixD fa fb):=by
 obtain⟨t,h1,h2⟩:=ha;obtain⟨u,k1,k2⟩:=hb;refine⟨tOp (rIx C.K) t u,λ i=>by rw[<-C.hK i];exact aHJ aIf (h1 i) (k1 i) hp,λ U σ H ρ lab Q R W=>?_⟩;refine h2 U σ H ρ lab _ R (W.bd.imp λ d _ w x H1 s1 r1=>?_);refine k2 U σ H1 ρ lab _ (R.up s1) (w.bd.imp λ e _ w y H2 s2 r2=>?_);obtain⟨z,ez,w⟩:=w.okD;have hi:imm e=true:=by
  unfold ixD at ez;split at ez<;>first|rfl|cases ez
 refine aJ7 (fpM m1 lab H) x y d e H2 Q z (r1.up s2) (r2.imm hi) ez λ v H' s r=>w v H' ((s1.trans s2).trans s) (r.wk λ p o _ q=>?_)
 rcases q with q|q
 .exact .inl ((s1.trans s2).free q)
 .exact q
def fH(hm:C.mg "len"=none)(ha:SA C m [a] ga)(he:∀i,zAY [a] (C.X i).env=[(false,eval a (C.X i).env)]:=by intro _;rfl)(hg:∀i,Gl (C.X i) "len":=by intro _;rfl):SE C (some []) (.Call (.Name "len" p) [a] [] pos) (opA gn ga):=
 fW (kW (λ i=>by have h:=xq (X:=C.X i);rw[C.hK i]at h;exact h) aIw hg hm PySem.boot_len ha (by decide) (by decide) he) λ _ _ h=>lz aGQ h
def aHa(hm:C.mg "all"=none)(ha:SA C m [a] ga)(he:∀i,zAY [a] (C.X i).env=[(false,eval a (C.X i).env)]:=by intro _;rfl)(hg:∀i,Gl (C.X i) "all":=by intro _;rfl)(hv:zAq "all"=some (.builtin "all"):=by decide+kernel):SE C (some []) (.Call (.Name "all" p) [a] [] pos) (opA (yE λ bs=>bs.all id) ga):=
 fW (kW (λ i=>aEa (C.calm i)) aIx hg hm hv ha (by decide) (by decide) he) λ _ _ h=>lz aGR h
def rC(hm:C.mg "min"=none)(ha:SA C m [a,b] ga)(he:∀i,zAY [a,b] (C.X i).env=(false,eval a (C.X i).env)::zAY [b] (C.X i).env:=by intro _;rfl)(hpl:∀i,(zBx pos (zAY [b] (C.X i).env)).any (·.1)=false:=by intro _;rfl)(hg:∀i,Gl (C.X i) "min":=by intro _;rfl)(hv:zAq "min"=some (.builtin "min"):=by decide+kernel):SE C (some []) (.Call (.Name "min" p) [a,b] [] pos) (opA (mmD λ i j=>if j<i then j else i) ga):=
 fW (kW (λ i=>aC4 (C.calm i)) aHS hg hm hv ha (by decide) (by decide) he hpl) λ _ _ h=>lz aEL h
def rD(hm:C.mg "max"=none)(ha:SA C m [a,b] ga)(he:∀i,zAY [a,b] (C.X i).env=(false,eval a (C.X i).env)::zAY [b] (C.X i).env:=by intro _;rfl)(hpl:∀i,(zBx pos (zAY [b] (C.X i).env)).any (·.1)=false:=by intro _;rfl)(hg:∀i,Gl (C.X i) "max":=by intro _;rfl)(hv:zAq "max"=some (.builtin "max"):=by decide+kernel):SE C (some []) (.Call (.Name "max" p) [a,b] [] pos) (opA (mmD λ i j=>if j>i then j else i) ga):=
 fW (kW (λ i=>aC6 (C.calm i)) aHS hg hm hv ha (by decide) (by decide) he hpl) λ _ _ h=>lz aEL h
def dh(hm:C.mg "tuple"=none)(ha:SA C m [a] ga)(he:∀i,zAY [a] (C.X i).env=[(false,eval a (C.X i).env)]:=by intro _;rfl)(hg:∀i,Gl (C.X i) "tuple":=by intro _;rfl)(hv:zAq "tuple"=some (.type "tuple"):=by decide+kernel):SE C m (.Call (.Name "tuple" p) [a] [] pos) (opA fC ga):=
 yc (λ i=>by have h:=uw (X:=C.X i);rw[C.hK i]at h;exact h) aE8 hg hm hv ha (by decide) (by decide) he
def aBQ(K:zAA):Sp:=λ vs H Q E=>∃a ns,vs=[.ref a]/\lZ K H a ns/\ns.length<=63/\∀H',Q (.bl true) H'
def aGC{K:zAA}(h:∀ns:List Int,ns.length<=63->F [.scr ns]= .ok (.bl true)):∀vs H Q E,aBQ K vs H Q E->spF K cl 1 F vs H Q E:=by
 rintro vs H Q E ⟨a,ns,rfl,hs,hl,q⟩;refine⟨[.scr ns],rfl,.cons (.scr hs) .nil,?_⟩;rw[h ns hl];intro v H' s r;cases r;exact q H'
def aHb{K:zAA}{a:Addr}(hO:Only H)(h:SqL K H a (ns.map V.int)):lZ K H a ns:=by
 rcases h with (h|⟨o,h⟩)|h
 .rcases hO a with z|⟨o,xs,z⟩
  .rw[h]at z;cases z
  .rw[h]at z;cases z
 .exact .inl ⟨o,h⟩
 .exact .inr h
end
def yt:V->List V->Hp->VK->Prop:=λ x vs H Q=>∃l b xs zs,x= .ref l/\vs=[.ref b]/\H l=some (.lst xs)/\H b=some (.lst zs)/\xs.length+zs.length<=zAO/\∀H',jO l H H'->H' l=some (.lst (xs++zs))->Q .non H'
def aAg:MtM X "list.extend" yt:=λ hV s σ H x xs v us Q I rx rv ⟨l,b,ys,zs,e1,e2,h,h2,z,n⟩=>
 aCM hV s σ H x xs v us Q I rx rv ⟨l,b,ys,zs,e1,e2,h,h2,z,n _ (λ b o ne hb=>by rw[bJ ne];exact hb) aa⟩
section
variable{K:zAA}
theorem vU:∀{ns:List Int} {us:List Value},Vals (ns.map V.int) us->∃ts:List (Int×Tok),us=ts.map (λ q=>zDI q.1 q.2)/\ts.map zDp=ns
 |[],_,.nil=>⟨[],rfl,rfl⟩
 |n::ns,_,.cons r t=>by
  obtain⟨tk,e⟩:∃tk,_=zDI n tk:=r
  obtain⟨ts,e1,e2⟩:=vU t;subst e;exact⟨(n,tk)::ts,by rw[e1];rfl,by rw[<-e2];rfl⟩
def aC5(hc:X.calm=true):cA X (.builtin "max") (λ xs H Q=>∃(p:Addr) (ns:List Int) (m:Int),xs=[.ref p]/\H p=some (.lst (ns.map V.int))/\ns.max?=some m/\Q (.int m) H):=by
 intro hV s σ H xs us Q I r h;obtain⟨p,ns,m,rfl,hp,hm,q⟩:=h;obtain⟨u,rfl,ru⟩:=vals1 r;cases ru;obtain⟨its,rv,pl,hz⟩:=I.list (SqL.of hp);obtain⟨ts,rfl,rfl⟩:=vU rv;have hsz:0<ts.toArray.size:=by
  cases ts with
  |nil=>cases hm
  |cons a b=>simp
 refine max_intList (xs:=ts.toArray) (I.ok.hd hc) (by have:=pl.isList;simpa[intItems]using this) hsz λ v h' tk hv hk=>?_
 obtain⟨t,rfl⟩:=intItems_at hv;obtain⟨h1,h2⟩:=argBest_gt (numAt ts.toArray) (ts.toArray.size-1);have hM:(ts.map zDp).max?=some (numAt ts.toArray (argBest (λ i j=>decide (numAt ts.toArray i>numAt ts.toArray j)) (ts.toArray.size-1))):=by
  rw[zGM];refine⟨?_,λ a ha=>?_⟩
  .rw[numAt_eq];exact getD_mem (by rw[zAB];simp at h1 hsz ⊢;omega)
  .obtain⟨j,hj,rfl⟩:=mem_getD ha
   have:=h2 j (by rw[zAB]at hj;simp;omega)
   rw[numAt_eq]at this;exact this
 rw[hm]at hM;injection hM with hM
 exact⟨.int m,H,I.kept hk,⟨t,by rw[hM]⟩,q⟩
def qN(f:List Int->Option Int):List D->Rs D
 |[.lst l]=>match intsOf l with
  |some ns=>match f ns with
   |some m=>.ok (.int m)
   |none=>.st
  |none=>.st
 |_=>.st
def aG5:pG K (λ xs H Q=>∃(p:Addr) (ns:List Int) (m:Int),xs=[.ref p]/\H p=some (.lst (ns.map V.int))/\f ns=some m/\Q (.int m) H) (qN f):=by
 intro A xs ds H Q z r ez q;unfold qN at ez;split at ez
 .split at ez
  .rename_i l ns e
   split at ez
   .rename_i m em
    cases ez
    have:=dG e
    subst this;cases r with
    |cons h r=>
     cases r;cases h with
     |lst h _ r=>
      have:=r.ints_of
      subst this;exact⟨_,ns,m,rfl,h,em,q _ H (aQ.refl H) (.int _)⟩
   .cases ez
  .cases ez
 .cases ez
def aEK:∀x z,qN f x= .ok z->imm z=true:=by
 intro x z e;unfold qN at e;split at e
 .split at e
  .split at e
   .cases e;rfl
   .cases e
  .cases e
 .cases e
end
section
variable{C:Ct}{pos p:Pos}{a:Expr}{ga:En->Rs (List D)}{m:Mode}
def aFH(hm:C.mg "max"=none)(ha:SA C m [a] ga)(he:∀i,zAY [a] (C.X i).env=[(false,eval a (C.X i).env)]:=by intro _;rfl)(hg:∀i,Gl (C.X i) "max":=by intro _;rfl)(hv:zAq "max"=some (.builtin "max"):=by decide+kernel):SE C (some []) (.Call (.Name "max" p) [a] [] pos) (opA (qN zHI) ga):=
 fW (kW (λ i=>aC5 (C.calm i)) aG5 hg hm hv ha (by decide) (by decide) he) λ _ _ h=>lz aEK h
end
def vy:fillsNumberSlot (.type "tuple") "mul"=pure false:=
 PySem.fillsNumberSlot_seq (id:="tuple.__mul__") (r:=some (.builtin "tuple.__rmul__")) zCs.lookup (by decide+kernel) zHM.lookup (by decide+kernel)
def rT:seqRepeat? (.type "tuple")=pure (some (.builtin "tuple.__mul__")):=by
 unfold seqRepeat?;rw[zGm (T:="tuple") (name:="__mul__") (id:="tuple.__mul__") zCs.lookup (by decide+kernel)];rw[zGm (T:="tuple") (name:="__rmul__") (id:="tuple.__rmul__") zHM.lookup (by decide+kernel)];rfl
def rW(k:Int)(t:Tok)(a:Addr)(its:Array Value)(n:Nat)(dd:Option Addr)(sl:Array (Option Value)):
  Meets (zDj.«int.__rmul__» ⟨[.int k t,.ref a],[]⟩) (λ _ R s=>s.heap.get? a=some {cls:=.type "tuple",dict:=dd,data:=.seq its n,slots:=sl}/\R (.ok (.ret zDq)) s):=by
 refine .of_wp λ P w A R s h=>?_
 obtain⟨_,_,_,_,_⟩:=s;obtain⟨hl,h⟩:=h;wp_walk;exact⟨_,rfl,h⟩
def aCk(k:Int)(t:Tok)(a:Addr)(l:List Value)(n:Nat)(dd:Option Addr)(sl:Array (Option Value))(h1:1<k)(h2:k<2^63)(hz:l.length*k.toNat<=zAO)(he:l.isEmpty=false):
  Meets (zDj.«tuple.__mul__» ⟨[.ref a,.int k t],[]⟩) (λ _ R s=>s.heap.get? a=some {cls:=.type "tuple",dict:=dd,data:=.seq l.toArray n,slots:=sl}/\
   R (.ok (.ret (zBS s.heap.objs.size))) {s with heap:=s.heap.push {cls:=zCV "tuple",data:=zHY (zAN k.toNat l).flatten.toArray}}):=by
 have hs:(l.length:Int)*k<=zAO:=by
  have:((l.length*k.toNat:Nat):Int)=(l.length:Int)*k:=by
   rw[Int.natCast_mul,zB6 (by lia)]
  rw[<-this];exact Int.ofNat_le.mpr hz
 have hb:(zAO:Int)<=(2^63-1) / 8:=by decide
 have c0:¬(decide (k < -2^63)||decide (k ≥ 2^63))=true:=by simp;lia
 have c1:¬(l.toArray.isEmpty||k==1)=true:=by simp only[zDr,he];simp;lia
 have c2:¬(decide (k<=0)||l.toArray.isEmpty)=true:=by simp only[zDr,he];simp;lia
 have c3:¬((l.toArray.size:Int)*k>(2^63-1) / 8):=by rw[zAI];lia
 have c4:¬zEE ((l.toArray.size:Int)*k)=true:=by rw[zAI];unfold zEE;simp[zAO]at hs ⊢;lia
 have ef:zFd (λ x1 x2=>x1++x2) #[] (zAN k.toNat l.toArray)=(zAN k.toNat l).flatten.toArray:=by
  have:=foldl_rep l k.toNat []
  simpa using this
 have c5:¬((zAN k.toNat l).flatten.toArray.size>zAO):=by rw[zAI,len_rep,zGQ];lia
 refine .of_wp λ P w A R s h=>?_
 obtain⟨_,_,_,_,_⟩:=s;obtain⟨hl,h⟩:=h;wp_walk;rw[if_neg c0];wp_walk
 try rw[if_neg c1]
 wp_walk
 try rw[if_neg c2]
 wp_walk
 try rw[if_neg c3]
 wp_walk
 try rw[if_neg c4]
 try rw[ef]
 wp_walk
 try rw[if_neg c5]
 wp_walk;exact⟨_,rfl,h⟩
def aDV(K:zAA):R2:=λ x y H Q=>∃a k xs,x= .ref a/\y= .int k/\SqT K H a xs/\1<k/\k<2^63/\xs≠[]/\xs.length*k.toNat<=zAO/\New H (.tup (zAN k.toNat xs).flatten) Q
def aFg:OpR X (zBe .Mult) (aDV X.K):=by
 intro hV s σ H x y v u Q I rx ry h;obtain⟨a,k,xs,rfl,rfl,ha,h1,h2,hne,hz,q⟩:=h;cases rx;obtain⟨t,rfl⟩:=ry;obtain⟨its,r,p1,_⟩:=I.tuple ha;obtain⟨⟨cls,dd,data,sl⟩,ho,hc,n,hd⟩:=id p1;simp only at hc hd;subst hc hd;have hl:its.length*k.toNat<=zAO:=by rw[<-r.length];exact hz
 have he:its.isEmpty=false:=by
  cases its with
  |nil=>exact absurd (r.nil_iff.mp rfl) hne
  |cons _ _=>rfl
 refine zCZ (T:="tuple") (U:="int") (by decide) ⟨_,ho,rfl⟩ (λ s'=>zCo s' k t) vy zDw zBq rT zD8.lookup
  (zBy zBq (zCo s k t) zD7 (zDY _ _) (rW k t a its.toArray n dd sl)
   ⟨ho,rfl,⟨_,ho,rfl⟩,zBy zCs ⟨_,ho,rfl⟩ zEh (zE3 _ _) (aCk k t a its n dd sl h1 h2 hl he) ⟨ho,?_⟩⟩)
 refine⟨.ref s.heap.objs.size,_,I.laid (t':=s.toks) (o:=.tup (zAN k.toNat xs).flatten) (λ b ob q=>zAC _ q) (zAU _) ?_,rfl,q.at (I.hok.fresh (zAU _))⟩;exact⟨⟨by rw[len_rep,zGQ];exact hz,NoD.push _⟩,_,r.rep k.toNat,zEj _ _⟩
def aFt:D->D->Rs D
 | .tup l,.int k=>if decide (1<k)&&decide (k<2^63)&& !l.isEmpty&&decide (l.length*k.toNat<=zAO)then .ok (.tup (zAN k.toNat l).flatten)else .st
 |_,_=>.st
def aFc{K:zAA}:OpS K (aDV K) aFt:=by
 intro A x y d e H Q z rx ry ez q;unfold aFt at ez;split at ez
 .split at ez
  .rename_i hc
   simp only[zAP,decide_eq_true_eq,zBM]at hc;obtain⟨⟨⟨c1,c2⟩,c3⟩,c4⟩:=hc;cases ez;cases ry;cases rx with
   |tup h r=>
    refine⟨_,_,_,rfl,rfl,h,c1,c2,λ e=>?_,by rw[r.length];exact c4,λ p H' s hp hn=>q _ H' s (.tup (SqT.of hp) ?_)⟩
    .subst e
     cases r;cases c3
    .exact((Rps.rep r _).up s).wk λ _ _ _ z=>.inr z
  .cases ez
 .cases ez
def shS:Slot->Slot
 | .no=>.no
 | .sh d=>.sh d
 | .nw d=>.sh d
 | .ow d=>.sh d
 | .oz d=>.sh d
 | .o2 l=>.sh (.lst (l.map .lst))
end VL
namespace L2
open PySem PySem.Spec PyProof.Rows
def cxW(P:zAZ)(w:World)(K:zAA)(mg:Str->Option Value)(base:Heap)(N:List Str)(qual:Str)(scope:Scope)(f:Addr)(cd:Value)(A:zAd)(s:zAF)(H:Hp)(Pt:Addr):Cx where
 prog:=P
 w:=w
 K:=K
 mg:=mg
 base:=base
 A:=A.deeper (zDt qual scope s.heap.objs.size f cd)
 N:=N
 z5:=s
 z4:=H
 env:=zDt qual scope s.heap.objs.size f cd
 outer:=[]
 stack:=[zDt qual scope s.heap.objs.size f cd]
 ex:=[Pt]
 calm:=true
 fn:=λ _=>true
 pn:=[]
 xe:=λ _ _=>False
 ta:=[(Pt,PySem.W.tabObj #[])]
 tq:=qual++".<locals>."++"<lambda>"
end L2
namespace VL
open PySem PySem.Spec PyProof.Rows L2
end VL
namespace L2
open PySem PySem.Spec PyProof.Rows
def pe_isi{X:Cx}{n0:Str}{e:Expr}{c:V}{p p' pos:Pos}(hN:X.N[0]? =some n0)(hv:X.env.scope.names.lookup n0=some .local)(hg:Gl X "isinstance")(hm:X.mg "isinstance"=none)(hc:PE X e (tC c))(hse:zAY [e] X.env=(false,eval e X.env)::zAY [] X.env:=by rfl)
  (hpl:(zBx pos (zAY [e] X.env)).any (·.1)=false:=by rfl)(d:Nd n0:=by decide)(d':(n0==("__classdict__":Str))=false:=by decide):PE X (.Call (.Name "isinstance" p) [.Name n0 p',e] [] pos) (aKY X.K c):=
 lD aC8 hg hm rfl (bj (fL hN (.inl hv) d d') (bj hc dY hse)) (hpl:=hpl)
section
variable{P:zAZ}{w:World}{K:zAA}{mg:Str->Option Value}{base:Heap}{x q n0 n1 n2 odd:Str}{st:Stmt}{f:Addr}{fd:zAf}{k:Nat}{wd:Addr->Option Str}{c1 c2:V}{k1 k2 k3 k4:List V}{l1 l2:List Str}{a1 a2:Expr}{as1 as2 e1 e2 e3 e4 w1 w2:List Expr}{kw1 kw2:List zBj}
 {p1 p2 p3 p4 p5 p6 p7 p8 p9 p10 p11 p12 p13 p14 p15 p16 p17 p18 p19 p20 p21 p22 p23 p24 p25 p26 p27 p28 p29 p30 p31 p32 p33 p34 p35 p36 p37 p38 p39 p40:Pos}{q1 q2 q3 q4 q5 q6 q7:Pos}{j1 j2 j3 j4 j5:Nat}
end
structure LawOk(P:zAZ)(w:World)(K:zAA)(mg:Str->Option Value)(fa Pt:Addr)(k n:Nat):Prop where
 ex:∃(x name qual:Str) (params:zGp) (body:List Stmt) (scope:Scope) (dV kV doc pm ct oc:Value) (an od:Option Addr) (c:Addr) (osl:Array (Option Value)) (N:List Str),
  K.lookup Pt=none/\PySem.W.codeHdIn K c Pt=true/\K.lookup fa=some ⟨oc,od,.func (zBo name qual params body scope dV kV doc pm an (.ref c) ct),osl⟩/\zCw K (.ref c) qual=true/\aY N [x] scope/\
  (∀(s:zAF) (u:Value),zEx s (zBo name qual params body scope dV kV doc pm an (.ref c) ct) ⟨[u],[]⟩ [(x,u)])/\
  ∀(a:Addr) (ns:List Int),ns.length<=n->∀(base:Heap) (s:zAF) (H:Hp),iw k (callerA.deeper (zDt qual scope s.heap.objs.size fa (.ref c)))->aKM (cxW P w K mg base N qual scope fa (.ref c) zE8 s H Pt) Pt->Only H->SqL K H a (ns.map V.int)->
   ∃t,PSs (cxW P w K mg base N qual scope fa (.ref c) zE8 s H Pt) body t/\t {nx:=λ _ _=>False,rt:=λ v _=>v= .bl true} (start N [.ref a]) H
end L2
namespace VL
open PySem PySem.Spec PyProof.Rows L2
section
variable{O:zBr}{kz:Nat->O.α}{n:Nat}
def Wr{α:Type}(kz:Nat->O.α)(n:Nat):zFe α->(α->Prop)->Prop
 | .ret a,Q=>Q a
 | .ask i j k,Q=>i<n/\j<n/\Wr kz n (k (O.blt (kz i) (kz j))) Q
theorem Wr.bindI:∀{t:zFe α},Wr kz n t (λ a=>Wr kz n (g a) Q)->Wr kz n (t.bind g) Q
 | .ret _,h=>h
 | .ask _ _ _,⟨h1,h2,h3⟩=>⟨h1,h2,Wr.bindI h3⟩
abbrev Pm(n:Nat)(p:Array Nat):Prop:=p.Perm (zAw n).toArray
def Pm.sz(h:Pm n p):p.size=n:=by
 have:=h.size_eq
 simpa using this
def Pm.in(h:Pm n p)(hi:i<n):p.getD i 0<n:=by
 have hs:i<p.size:=by rw[h.sz];exact hi
 have e:p.getD i 0=p[i]:=by simp[Array.getD,hs]
 rw[e];have hm:p[i]∈(zAw n).toArray:=h.mem_iff.mp (Array.getElem_mem hs);simpa using hm
def Kp(kz:Nat->O.α)(p:Array Nat)(i:Nat):O.α:=kz (p.getD i 0)
def zR(h:p[i]? =q[j]?):Kp kz p i=Kp kz q j:=by
 unfold Kp;congr 1;rw[zEe,zEe,h]
def aEA(hs:c<p.size)(hd:d<=c)(k:Nat):
  Kp kz (bubble p c d) k=if k=c-d then Kp kz p c else if c-d<k/\k<=c then Kp kz p (k-1)else Kp kz p k:=by
 have e:=getElem?_bubble hs d hd k;by_cases u1:k=c-d
 .rw[if_pos u1]at e ⊢
  exact zR e
 .rw[if_neg u1]at e ⊢
  by_cases u2:c-d<k/\k<=c
  .rw[if_pos u2]at e ⊢
   exact zR e
  .rw[if_neg u2]at e ⊢
   exact zR e
def aAr(hj:j<=p.size)(k:Nat):Kp kz (zD0 p i j) k=if i<=k/\k<j then Kp kz p (i+j-1-k)else Kp kz p k:=by
 unfold zD0;have e:=getElem?_mirror_all (i:=i) hj k;by_cases u1:i<=k/\k<j
 .rw[if_pos u1]at e ⊢
  exact zR e
 .rw[if_neg u1]at e ⊢
  exact zR e
def lu(hj:j<=p.size)(he:∀k,i<=k->k<j->Kp kz p k=Kp kz p (j-1))(k:Nat):Kp kz (zD0 p i j) k=Kp kz p k:=by
 rw[aAr hj];split
 .rw[he _ (by lia) (by lia),he k (by lia) (by lia)]
 .rfl
def Up(kz:Nat->O.α)(p:Array Nat)(k:Nat):Prop:=∀i j,i<=j->j<k->O.kle (Kp kz p i) (Kp kz p j)
def Dn(kz:Nat->O.α)(p:Array Nat)(k:Nat):Prop:=∀i j,i<=j->j<k->O.kle (Kp kz p j) (Kp kz p i)
def sy(h:Pm n p)(i j:Nat):Pm n (zD0 p i j):=(mirror_perm _ _ _ _).trans h
def Up.succ(h:Up kz p m)(hm:1<=m)(hl:O.kle (Kp kz p (m-1)) (Kp kz p m)):Up kz p (m+1):=by
 intro i j hij hj;by_cases q:j<m
 .exact h i j hij q
 .have q':j=m:=by lia
  subst q';by_cases q2:i=j
  .rw[q2];exact zCY _
  .exact zDQ (h i (j-1) (by lia) (by lia)) hl
def Dn.succ(h:Dn kz p m)(hm:1<=m)(hl:O.kle (Kp kz p m) (Kp kz p (m-1))):Dn kz p (m+1):=by
 intro i j hij hj;by_cases q:j<m
 .exact h i j hij q
 .have q':j=m:=by lia
  subst q';by_cases q2:i=j
  .rw[q2];exact zCY _
  .exact zDQ hl (h i (j-1) (by lia) (by lia))
theorem aAE(hp:Pm n p)(hr:r<=n):∀(f m:Nat),1<=m->m+f=r->Up kz p m->
  (∀m',1<=m'->m'<=r->Up kz p m'->(m'=r\/O.klt (Kp kz p m') (Kp kz p (m'-1)))->Q m')->Wr kz n (PySem.W.kas_asc p f m) Q
 |0,m,h1,hm,hu,k=>k m h1 (by lia) hu (.inl (by lia))
 |f+1,m,h1,hm,hu,k=>by
  refine⟨hp.in (by lia),hp.in (by lia),?_⟩;have hd:O.blt (kz (p.getD m 0)) (kz (p.getD (m-1) 0))=O.blt (Kp kz p m) (Kp kz p (m-1)):=rfl;rw[hd];cases hb:O.blt (Kp kz p m) (Kp kz p (m-1))with
  |true=>exact k m h1 (by lia) hu (.inr hb)
  |false=>exact aAE hp hr f (m+1) (by lia) (by lia) (hu.succ h1 hb) k
theorem rA(hr:r<=n):∀(f:Nat) (p:Array Nat) (m e:Nat),Pm n p->1<=m->m+f=r->Dn kz p m->e+1<=m->(∀i,m-(e+1)<=i->i<m->Kp kz p i=Kp kz p (m-1))->
  (∀p' m' e',Pm n p'->1<=m'->m'<=r->Dn kz p' m'->e'+1<=m'->(∀i,m'-(e'+1)<=i->i<m'->Kp kz p' i=Kp kz p' (m'-1))->Q (p',m',e'))->Wr kz n (PySem.W.kas_desc f p m e) Q
 |0,p,m,e,hp,h1,hm,hd,he,hq,k=>k p m e hp h1 (by lia) hd he hq
 |f+1,p,m,e,hp,h1,hm,hd,he,hq,k=>by
  have hsz:m<=p.size:=by rw[hp.sz];lia
  refine⟨hp.in (by lia),hp.in (by lia),?_⟩;have hx:O.blt (kz (p.getD m 0)) (kz (p.getD (m-1) 0))=O.blt (Kp kz p m) (Kp kz p (m-1)):=rfl;rw[hx];cases hb:O.blt (Kp kz p m) (Kp kz p (m-1))with
  |true=>
   have hd':Dn kz p (m+1):=hd.succ h1 (zEU hb);dsimp only;rw[if_pos rfl];by_cases hz:e>0
   .rw[if_pos hz]
    refine rA hr f _ (m+1) 0 (sy hp _ _) (by lia) (by lia) (λ i j hij hj=>?_) (by lia) (λ i u v=>by congr 1;lia) k;rw[lu hsz hq,lu hsz hq];exact hd' i j hij hj
   .rw[if_neg hz]
    exact rA hr f p (m+1) 0 hp (by lia) (by lia) hd' (by lia) (λ i u v=>by congr 1;lia) k
  |false=>
   dsimp only;rw[if_neg (by simp)];refine⟨hp.in (by lia),hp.in (by lia),?_⟩;have hy:O.blt (kz (p.getD (m-1) 0)) (kz (p.getD m 0))=O.blt (Kp kz p (m-1)) (Kp kz p m):=rfl;rw[hy];cases hc:O.blt (Kp kz p (m-1)) (Kp kz p m)with
   |true=>exact k p m e hp h1 (by lia) hd he hq
   |false=>
    dsimp only;rw[if_neg (by simp)];have hee:Kp kz p m=Kp kz p (m-1):=zGI hc hb;refine rA hr f p (m+1) (e+1) hp (by lia) (by lia) (hd.succ h1 hc) (by lia) (λ i u v=>?_) k;rw[show m+1-1=m by lia];by_cases hi:i=m
    .rw[hi]
    .rw[hee]
     exact hq i (by lia) (by lia)
def aBF(hr:r<=n)(hp:Pm n p)(h1:1<=m)(hm:m<=r)(hd:Dn kz p m)(k:∀m' p',Pm n p'->1<=m'->m'<=r->Up kz p' m'->Q (m',p')):Wr kz n (PySem.W.kas_tail3 m r p) Q:=by
 have hsz:m<=p.size:=by rw[hp.sz];lia
 refine Wr.bindI (aAE (sy hp 0 m) hr (r-m) m h1 (by lia) (λ i j hij hj=>?_) λ m' a1 a2 a3 _=>k m' _ (sy hp 0 m) a1 a2 a3);rw[aAr hsz,aAr hsz,if_pos (by lia),if_pos (by lia)];exact hd _ _ (by lia) (by lia)
def qH(hr:r<=n)(hp:Pm n p)(hm:m+1<=r)(hd:Dn kz p (m+1))(k:∀m' p',Pm n p'->1<=m'->m'<=r->Up kz p' m'->Q (m',p')):Wr kz n (PySem.W.kas_descPart m r p) Q:=by
 refine Wr.bindI (rA hr (r-(m+1)) p (m+1) 0 hp (by lia) (by lia) hd (by lia) (λ i u v=>by congr 1;lia) λ p' m' e' a1 a2 a3 a4 a5 a6=>?_);have hsz:m'<=p'.size:=by rw[a1.sz];lia
 dsimp only;by_cases hz:e'>0
 .rw[if_pos hz]
  refine aBF hr (sy a1 _ _) a2 a3 (λ i j hij hj=>?_) k;rw[lu hsz a6,lu hsz a6];exact a4 i j hij hj
 .rw[if_neg hz]
  exact aBF hr a1 a2 a3 a4 k
def aCf(hr:r<=n)(hp:Pm n p)(h1:1<=r)(k:∀m' p',Pm n p'->1<=m'->m'<=r->Up kz p' m'->Q (m',p')):Wr kz n (PySem.W.kas_count r p) Q:=by
 refine Wr.bindI (aAE hp hr (r-1) 1 (zAU 1) (by lia) (λ i j hij hj=>by rw[show i=j by lia];exact zCY _) λ m a1 a2 a3 a4=>?_);by_cases hm:m=r
 .rw[if_pos (by simpa using hm)]
  exact k m p hp a1 a2 a3
 .rw[if_neg (by simpa using hm)]
  have hl:O.klt (Kp kz p m) (Kp kz p (m-1)):=a4.resolve_left hm;by_cases hg:m>1
  .rw[if_pos hg]
   refine⟨hp.in (by lia),hp.in (by lia),?_⟩;have hx:O.blt (kz (p.getD 0 0)) (kz (p.getD (m-1) 0))=O.blt (Kp kz p 0) (Kp kz p (m-1)):=rfl;rw[hx];cases hb:O.blt (Kp kz p 0) (Kp kz p (m-1))with
   |true=>exact k m p hp a1 a2 a3
   |false=>
    dsimp only;rw[if_neg (by simp)];have hsz:m<=p.size:=by rw[hp.sz];lia
    have kQ:∀i,0<=i->i<m->Kp kz p i=Kp kz p (m-1):=λ i _ hi=>zGI (a3 i (m-1) (by lia) (by lia)) (zDQ hb (a3 0 i (by lia) hi))
    refine qH hr (sy hp 0 m) (by lia) (λ i j hij hj=>?_) k;rw[lu hsz kQ,lu hsz kQ];by_cases hjm:j<m
    .rw[kQ i (by lia) (by lia),kQ j (by lia) hjm];exact zCY _
    .have hj':j=m:=by lia
     subst hj';by_cases hi:i=j
     .rw[hi];exact zCY _
     .rw[kQ i (by lia) (by lia)];exact zEU hl
  .rw[if_neg hg]
   have hm1:m=1:=by lia
   subst hm1;refine qH hr hp (by lia) (λ i j hij hj=>?_) k;by_cases hi:i=j
   .rw[hi];exact zCY _
   .have e1:i=0:=by lia
    have e2:j=1:=by lia
    subst e1 e2;exact zEU hl
theorem rP(hp:Pm n p)(hc:c<n)(hu:Up kz p c):∀(f l r:Nat),l<=r->r<=c->r-l<=f->(∀i,i<l->O.kle (Kp kz p i) (Kp kz p c))->(∀i,r<=i->i<c->O.klt (Kp kz p c) (Kp kz p i))->
  (∀l',l'<=c->(∀i,i<l'->O.kle (Kp kz p i) (Kp kz p c))->(∀i,l'<=i->i<c->O.klt (Kp kz p c) (Kp kz p i))->Q l')->Wr kz n (zGT p c f l r) Q
 |0,l,r,a1,a2,a3,a4,a5,k=>by
  have e:l=r:=by lia
  subst e;exact k l a2 a4 a5
 |f+1,l,r,a1,a2,a3,a4,a5,k=>by
  unfold zGT;by_cases hg:l ≥ r
  .rw[if_pos hg]
   have e:l=r:=by lia
   subst e;exact k l a2 a4 a5
  .rw[if_neg hg]
   refine⟨hp.in hc,hp.in (by lia),?_⟩;have hx:O.blt (kz (p.getD c 0)) (kz (p.getD ((l+r) / 2) 0))=O.blt (Kp kz p c) (Kp kz p ((l+r) / 2)):=rfl;rw[hx];cases hb:O.blt (Kp kz p c) (Kp kz p ((l+r) / 2))with
   |true=>exact rP hp hc hu f l ((l+r) / 2) (by lia) (by lia) (by lia) a4 (λ i u v=>KeyOrd.klt_of_klt_of_kle hb (hu _ _ u v)) k
   |false=>exact rP hp hc hu f ((l+r) / 2+1) r (by lia) a2 (by lia) (λ i u=>zDQ (hu i ((l+r) / 2) (by lia) (by lia)) hb) a5 k
theorem aCg:∀(f:Nat) (p:Array Nat) (c:Nat),Pm n p->c+f=n->Up kz p c->(∀p',Pm n p'->Up kz p' n->Q p')->Wr kz n (PySem.W.kas_bin f p c) Q
 |0,p,c,hp,hc,hu,k=>k p hp (by rw[show n=c by lia];exact hu)
 |f+1,p,c,hp,hc,hu,k=>by
  refine Wr.bindI (rP hp (by lia) hu c 0 c (by lia) (zAU c) (by lia) (λ i u=>by lia) (λ i u v=>by lia) λ l a1 a2 a3=>?_);refine aCg f _ (c+1) ((bubble_perm _ _ _).trans hp) (by lia) (λ i j hij hj=>?_) k;have hs:c<p.size:=by rw[hp.sz];lia
  rw[aEA hs (by lia),aEA hs (by lia),show c-(c-l)=l by lia]
  repeat' split
  all_goals first
   |(exfalso;lia)
   |exact O.irrefl _
   |exact a2 _ (by lia)
   |exact KeyOrd.klt_asymm (a3 _ (by lia) (by lia))
   |exact hu _ _ (by lia) (by lia)
def aEp(h1:1<=n)(k:∀p,Pm n p->Up kz p n->Q p):Wr kz n (PySem.W.kas_sort n) Q:=by
 refine Wr.bindI (aCf (zAU n) (zGC _) h1 λ m p a1 a2 a3 a4=>?_);dsimp only;by_cases hm:m<n
 .rw[if_pos hm]
  exact aCg _ p _ a1 (by lia) (by rw[show max m 1=m by lia];exact a4) k
 .rw[if_neg hm]
  exact k p a1 (by rw[show n=m by lia];exact a4)
theorem yJ{I:zAF->Prop}(hc:∀i j (C:Bool->zAF->Prop) s,I s->i<n->j<n->(∀s',I s'->C (O.blt (kz i) (kz j)) s')->cmp i j C s):
  ∀(t:zFe α) (s:zAF),I s->Wr kz n t (λ a=>∀s',I s'->Q a s')->t.kasWp cmp Q s
 | .ret a,s,hI,h=>h s hI
 | .ask i j k,s,hI,⟨h1,h2,h3⟩=>hc i j _ s hI h1 h2 λ s' hI'=>yJ hc _ s' hI' h3
end
theorem xH:∀a:List Int,HT.lexLt a a=false
 |[]=>rfl
 |x::a=>by rw[HT.iR,if_pos rfl];exact xH a
theorem oU:∀a b c:List Int,HT.lexLt a b=true->HT.lexLt b c=true->HT.lexLt a c=true
 |[],[],c,h,_=>by cases h
 |[],_::_,[],_,h=>by cases h
 |[],_::_,_::_,_,_=>rfl
 |_::_,[],_,h,_=>by cases h
 |_::_,_::_,[],_,h=>by cases h
 |x::a,y::b,z::c,h1,h2=>by
  rw[HT.iR]at h1 h2 ⊢;by_cases e1:x=y
  .subst e1
   rw[if_pos rfl]at h1;by_cases e2:x=z
   .rw[if_pos e2]at h2 ⊢
    exact oU a b c h1 h2
   .rw[if_neg e2]at h2 ⊢
    exact h2
  .rw[if_neg e1]at h1
   simp only[decide_eq_true_eq]at h1;by_cases e2:y=z
   .subst e2
    rw[if_neg e1];simpa using h1
   .rw[if_neg e2]at h2
    simp only[decide_eq_true_eq]at h2;rw[if_neg (by lia)];simp only[decide_eq_true_eq];lia
theorem tQ:∀a b:List Int,HT.lexLt a b=false->HT.lexLt b a=false->a=b
 |[],[],_,_=>rfl
 |[],_::_,h,_=>by cases h
 |_::_,[],_,h=>by cases h
 |x::a,y::b,h1,h2=>by
  rw[HT.iR]at h1 h2;by_cases e:x=y
  .subst e
   rw[if_pos rfl]at h1 h2;rw[tQ a b h1 h2]
  .rw[if_neg e]at h1
   rw[if_neg λ q=>e q.symm]at h2;simp only[decide_eq_false_iff_not]at h1 h2;lia
def aDt(a b c:List Int)(h:HT.lexLt a c=true):HT.lexLt a b=true\/HT.lexLt b c=true:=by
 cases e1:HT.lexLt a b with
 |true=>exact .inl rfl
 |false=>
  right;cases e2:HT.lexLt b a with
  |true=>exact oU b a c e2 h
  |false=>rw[<-tQ a b e1 e2];exact h
def aAm:zBr:=⟨List Int,HT.lexLt,xH,oU,aDt,tQ⟩
inductive dC(h:Heap):List Value->List (List Int)->Prop where
 |nil:dC h [] []
 |cons {x:Addr} {o:Obj} {xs:Array Value} {k:Nat} {ns:List Int} {vs:List Value} {nss:gV} (ho:h.get? x=some o) (hc:o.cls= .type "tuple") (hd:o.data= .seq xs k) (hi:zBC xs.toList ns) (hne:ns≠[]) (r:dC h vs nss):dC h (.ref x::vs) (ns::nss)
theorem dC.mono(k:∀x o,h.get? x=some o->o.cls= .type "tuple"->h'.get? x=some o):∀{vs:List Value} {nss:gV},dC h vs nss->dC h' vs nss
 |_,_,.nil=>.nil
 |_,_,.cons ho hc hd hi hne r=>.cons (k _ _ ho hc) hc hd hi hne (dC.mono k r)
theorem dC.at:∀{vs:List Value} {nss:gV} {i:Nat},dC h vs nss->i<vs.length->∃x o xs k,vs.getD i zBV= .ref x/\h.get? x=some o/\o.cls= .type "tuple"/\o.data= .seq xs k/\zBC xs.toList (nss.getD i [])/\nss.getD i []≠[]
 |_,_,_,.nil,hi=>by simp at hi
 |_,_,0,.cons ho hc hd hi hne _,_=>⟨_,_,_,_,rfl,ho,hc,hd,hi,hne⟩
 |_,_,i+1,.cons _ _ _ _ _ r,hi=>by
  obtain⟨x,o,xs,k,q⟩:=dC.at (i:=i) r (by simpa using hi);exact⟨x,o,xs,k,by simpa using q⟩
theorem dC.firsts:∀{vs:List Value} {nss:gV},dC h vs nss->∃fs,PySem.W.KatTups h vs fs/\fs.length=vs.length/\∀f∈fs,∃n t,f=zDI n t
 |_,_,.nil=>⟨[],.nil,rfl,λ f hf=>by simp at hf⟩
 |_,_,.cons (xs:=xs) ho hc hd hi hne r=>by
  obtain⟨fs,h1,h2,h3⟩:=dC.firsts r;obtain⟨l,rfl⟩:∃l:List Value,xs=l.toArray:=⟨xs.toList,by simp⟩
  rw[show l.toArray.toList=l by simp]at hi;cases hi with
  |nil=>exact absurd rfl hne
  |cons n t q=>
   rename_i l' ns';refine⟨.int n t::fs,.cons ho hc hd (by simp) h1,by simp[h2],λ f hf=>?_⟩;rcases zAX.mp hf with rfl|hf
   .exact⟨n,t,rfl⟩
   .exact h3 f hf
section
variable{prog:zAZ}{w:World}{A:zAd}{E:Value->zAF->Prop}{s:zAF}
def zT:∀{xs ys:List Value} {ns ms:List Int} (i:Nat),zBC xs ns->zBC ys ms->fin=decide (xs.length<ys.length)->Q (HT.lexLt ns ms) s->PySem.W.KatLex prog w A b fin Q (xs.zip ys) i s:=by
 intro xs ys ns ms i hx;induction hx generalizing ys ms i with
 |nil=>intro hy hf q;cases hy<;>(subst hf;exact q)
 |@cons x t xs ns r ih=>
  intro hy hf q;cases hy with
  |nil=>subst hf;exact q
  |@cons y u ys ms r'=>?_
  rw[zBY];refine PySem.W.kat_cons (wpAny_eqBool_int ?_);rw[HT.iR]at q;by_cases e:x=y
  .rw[if_pos e]at q
   rw[show(x==y)=true by simpa using e];exact PySem.W.kat_yes (ih (i+1) r' (by rw[hf];simp) q)
  .rw[if_neg e]at q
   rw[show(x==y)=false by simpa using e];refine PySem.W.kat_no ?_;cases hb:(b&&i==0)with
   |true=>exact oneLt_int q
   |false=>exact PySem.W.kat_one _ _ (zEo q)
def aAt(hx:s.heap.get? x=some ox)(dx:ox.data= .seq xs n)(hy:s.heap.get? y=some oy)(dy:oy.data= .seq ys k)(hi:zBC xs.toList ns)(hj:zBC ys.toList ms)
  (q:Q (HT.lexLt ns ms) s):wpAny (model prog w) A (keyLt' (tuples' b) (.ref x) (.ref y)) Q E s:=
 PySem.W.kat_lt hx dx hy dy (zT 0 hi hj (by simp) q)
def mL(vs:List Value)(p:Array Nat):Array Value:=(p.toList.map λ i=>vs.getD i zBV).toArray
def aEo(h:vs.length<2):(vs.toArray.zip vs.toArray).map (·.2)=mL vs (zAw vs.length).toArray:=by
 cases vs with
 |nil=>simp[mL]
 |cons v t=>
  cases t with
  |nil=>simp[mL]
  |cons u t=>exact absurd h (zFj.mpr (Nat.le_add_left 2 t.length))
def aAl(ho:s.heap.get? a=some (zBW "list" vs.toArray c))(ht:dC s.heap vs nss)(h64:vs.length<64)
  (h:∀p:Array Nat,Pm vs.length p->Up (O:=aAm) (λ i=>nss.getD i []) p vs.length->P (.done (.ret .none)) {s with heap:=zFU s.heap a vs (mL vs p)}):
  wpAny (model prog w) A (zDj.«list.sort» ⟨[.ref a],[]⟩) P E s:=by
 have hlt:a<s.heap.objs.size:=zA4 ho;have hz:vs.length<=zAO:=by rw[zB1];lia
 obtain⟨e1,ho1⟩:∃e1,(s.heap.update a (zCM λ _=>(#[]:Array Value))).get? a=some (zBW "list" #[] e1):=⟨_,zDM ho λ _=>#[]⟩
 have keep:∀x o,s.heap.get? x=some o->o.cls= .type "tuple"->(((s.heap.update a (zCM λ _=>(#[]:Array Value))).push (zBW "tuple" vs.toArray 0)).push (zBW "list" #[] 0)).get? x=some o:=λ x o e q=>by
  have hxa:x≠a:=λ z=>by
   subst z;rw[ho]at e;cases e;exact absurd q (show¬(zCV "list"=zCV "tuple")by decide)
  refine zAC _ (zAC _ ?_);rw[zBt _ _ _ _ hxa];exact e
 have ho6:(((s.heap.update a (zCM λ _=>(#[]:Array Value))).push (zBW "tuple" vs.toArray 0)).push (zBW "list" #[] 0)).get? a=some (zBW "list" #[] e1):=zAC _ (zAC _ ho1);have ht6:=ht.mono keep;rw[list_sort_plain];refine zAR (listItems_at ho rfl (zAR (zGd ho rfl ?_ (by rw[zAI];exact hz) (zAj _))));refine zAR (zHT ho1 rfl (zAR (wpAny_newTuple ?_ (by show vs.length<=_;exact hz))));refine zAR (zGh (zDF ?_) (zAj _));show wpAny (model prog w) A _ P E {s with heap:=((s.heap.update a (zCM λ _=>(#[]:Array Value))).push (zBW "tuple" vs.toArray 0)).push (zBW "list" #[] 0)};dsimp only;have hsz:∀p:Array Nat,Pm vs.length p->(mL vs p).size=vs.length:=λ p a1=>by unfold mL;rw[zAI,zAB,zBU,a1.sz]
 by_cases h2:vs.toArray.size<2
 .rw[if_pos h2,if_pos h2]
  refine zAR (zA7 ?_);rw[StateT.run_pure];refine zAR (zA7 ?_);have h2':vs.length<2:=by simpa using h2
  have a1:Pm vs.length (zAw vs.length).toArray:=zGC _;have a3:=aEo h2';dsimp only;refine zAR (zHT ho6 rfl ?_);show wpAny (model prog w) A (Builtin.List.listUpdate (.ref a) (λ _=>(vs.toArray.zip vs.toArray).map (·.2))>>=_) P E _;rw[a3];refine zAR (zGd ho6 rfl ?_ (zAj _) (by show(mL vs _).size<=_;rw[hsz _ a1];lia));simp only[bne_self_eq_false,zET,if_false];exact zA7 (h _ a1 λ i j hij hj=>by rw[show i=j by lia];exact xH _)
 .rw[if_neg h2,if_neg h2]
  have h2':2<=vs.length:=zD2 (show¬vs.length<2 by simpa using h2);obtain⟨fs,f1,f2,f3⟩:=ht6.firsts;refine zAR (PySem.W.kat_kind (T:=.type "int") f1 (by lia) (λ v hv=>?_) (by decide) ?_)
  .obtain⟨n,t,rfl⟩:=f3 v hv
   exact zHa
  rw[show(zCV "int" !=zCV "tuple")=true by decide];refine zAR (zBz (PySem.W.kat_run (κ:=tuples' true) (ks:=vs) (vs:=vs) (Q:=λ st s'=>s'={s with heap:=((s.heap.update a (zCM λ _=>(#[]:Array Value))).push (zBW "tuple" vs.toArray 0)).push (zBW "list" #[] 0)}/\∃p:Array Nat,Pm vs.length p/\Up (O:=aAm) (λ i=>nss.getD i []) p vs.length/\(arrOf st).map (·.2)=mL vs p/\zFn st=none)
   (G:=λ p s'=>s'={s with heap:=((s.heap.update a (zCM λ _=>(#[]:Array Value))).push (zBW "tuple" vs.toArray 0)).push (zBW "list" #[] 0)}/\Pm vs.length p/\Up (O:=aAm) (λ i=>nss.getD i []) p vs.length)
   rfl h2' h64 (λ p st s' _ b2 b3 b4=>⟨b4.1,p,b4.2.1,b4.2.2,PySem.W.kat_snds rfl b2,b3⟩) ?_) (λ r s' hr=>?_) λ _ _ e=>e)
  .refine yJ (O:=aAm) (kz:=λ i=>nss.getD i []) (n:=vs.length) (I:=λ s'=>s'={s with heap:=((s.heap.update a (zCM λ _=>(#[]:Array Value))).push (zBW "tuple" vs.toArray 0)).push (zBW "list" #[] 0)}) (λ i j C s' hI hi hj hC=>?_) _ _ rfl (aEp (by lia) λ p a1 a2 s' hs'=>⟨hs',a1,a2⟩)
   subst hI;unfold PySem.W.kas_ask;obtain⟨x,ox,xs,kx,x1,x2,_,x4,x5,_⟩:=ht6.at hi;obtain⟨y,oy,ys,ky,y1,y2,_,y4,y5,_⟩:=ht6.at hj;rw[x1,y1];exact aAt x2 x4 y2 y4 x5 y5 (hC _ rfl)
  .obtain⟨⟨⟩,st⟩:=r
   obtain⟨e,p,b1,b2,b3,b4⟩:=hr;subst e;refine zAR (zHT ho6 rfl ?_);rw[b3,b4];refine zAR (zGd ho6 rfl ?_ (zAj _) (by show(mL vs p).size<=_;rw[hsz p b1];lia));simp only[bne_self_eq_false,zET,if_false];exact zA7 (h p b1 b2)
end
theorem sub_len[BEq α][LawfulBEq α]:∀{l l':List α},l.Nodup->(∀x∈l,x∈l')->l.length<=l'.length
 |[],_,_,_=>zAj _
 |x::l,l',nd,h=>by
  have hx:x∈l':=h x zAL;have ih:=sub_len (l:=l) (l':=l'.erase x) (zAh.mp nd).2 λ y hy=>(zCN λ e=>by subst e;exact(zAh.mp nd).1 hy).mpr (h y (zAG _ hy))
  rw[zDO hx]at ih
  have:0<l'.length:=zFq hx
  rw[zA2];lia
def Ris(xs:Array Nat):Prop:=∀i j,i<j->j<xs.size->xs.getD i 0<xs.getD j 0
structure TbOk(t:zFm)(n:Nat):Prop where
 dum:t.dummies=#[]
 siz:t.place.size=n
 ris:Ris t.place
 top:∀i,i<n->t.place.getD i 0<=t.mask
 msk:t.mask=7/\n<5\/t.mask=31/\n<19\/t.mask=127/\n<77
 pla:t.plain=true
structure TbPut(t:zFm)(n:Nat):Prop where
 dum:t.dummies=#[]
 siz:t.place.size=n
 ris:Ris t.place
 top:∀i,i<n->t.place.getD i 0<=t.mask
 msk:t.mask=7/\n<=5\/t.mask=31/\n<=19\/t.mask=127/\n<77
 pla:t.plain=true
structure TupAt(h:Heap)(x:Addr)(ns:List Int):Prop where
 ex:∃o xs k,h.get? x=some o/\o.cls= .type "tuple"/\o.data= .seq xs k/\zBC xs.toList ns
end VL
namespace PySem
end PySem
namespace VL
open PySem PySem.Spec PyProof.Rows L2
section
variable{prog:zAZ}{w:World}{A:zAd}{E:Value->zAF->Prop}{s:zAF}{T:String}{r d:Addr}{n:Nat}{P:Nat->Value->Prop}{OK:Heap->Prop}
def zg(K:PySem.W.KdlSrc prog w T r d n P OK)(hh:A.handled=none)(hok:OK s.heap)(hn:n<=zAO)
  (h:∀h' tk vs,s.heap.objs.size<h'.objs.size->(∀b o,s.heap.get? b=some o->h'.get? b=some o)->vs.length=n->(∀(j:Nat) v,vs[j]? =some v->P j v)->Q vs {s with heap:=h',toks:=tk}):wpAny (model prog w) A (zHQ (.ref r)) Q E s:=by
 have hlt:=K.there _ hok;unfold zHQ;refine zAR (wpAny_runValue (zDL zE5 ?_));rw[zCd zE6 _];show wpAny _ A.in1 (zFS []>>=λ l=>again (.builtin "list.__iadd__" ⟨[l,.ref r],[]⟩)) _ _ s;refine zAR (zB9 (zA7 ⟨plainId_quiet zCW _,zDL zD6 ?_⟩));rw[zCd zCW _];show wpAny _ A.in1 (zEB (.ref s.heap.objs.size) (.ref r) (.ref s.heap.objs.size)) _ _ _;have fin:∀h' tk acc' c',(∀b o,b≠s.heap.objs.size->(s.heap.push (zBW "list" #[] 0)).get? b=some o->h'.get? b=some o)->h'.get? s.heap.objs.size=some {cls:=.type "list",dict:=none,data:=.seq acc' c',slots:=#[]}->ItemsOf P acc' n->
   wpAny (model prog w) A (do match (zBS s.heap.objs.size)with
    | .ref a=>match (<-load a).data with
     | .seq xs _=>pure xs.toList
     |_=>zGB "internal:collect"
    |_=>zGB "internal:collect") Q E {s with heap:=h',toks:=tk}:=λ h' tk acc' c' hk hS' iX=>
  zAR (zHg hS' (zA7 (h h' tk acc'.toList (zA4 hS') (λ b o e=>hk b o (zAn (zA4 e)) (zAC _ e)) (by rw[zBU];exact iX.1) λ j v e=>iX.2 j v (by rw[<-zFo];exact e))))
 refine zBz (PySem.W.kdl_extend (A:=A) (s:={s with heap:=s.heap.push (zBW "list" #[] 0)}) (R:=λ r s'=>∃h' tk acc' c',r= .ok (.ret (.ref s.heap.objs.size))/\s'={s with heap:=h',toks:=tk}/\(∀b o,b≠s.heap.objs.size->(s.heap.push (zBW "list" #[] 0)).get? b=some o->h'.get? b=some o)/\h'.get? s.heap.objs.size=some {cls:=.type "list",dict:=none,data:=.seq acc' c',slots:=#[]}/\ItemsOf P acc' n)
  K hh (K.keep _ _ hok λ b _ o e=>zAC _ e) s.heap.objs.size (zDo hlt.1) (zDo hlt.2) (.ref s.heap.objs.size) 0 (zA1 _ rfl) (λ h' tk acc' c' hk hS' iX=>⟨h',tk,acc',c',rfl,rfl,hk,hS',iX⟩) hn) (λ f s' hf=>?_) λ e s' he=>?_
 .cases f with
  |done f=>
   obtain⟨h',tk,acc',c',q1,q2,q3,q4,q5⟩:=hf;cases q1;subst q2;exact fin h' tk acc' c' q3 q4 q5
  |again c=>
   refine⟨hf.1,zEQ hf.2 λ r s' hr=>?_⟩;obtain⟨h',tk,acc',c',q1,q2,q3,q4,q5⟩:=hr;subst q1 q2;exact fin h' tk acc' c' q3 q4 q5
 .obtain⟨h',tk,acc',c',q1,_⟩:=he
  cases q1
end
def aGh(h:Heap)(p:Value×List Int):Prop:=∃x o xs k,p.1= .ref x/\h.get? x=some o/\o.cls= .type "tuple"/\o.data= .seq xs k/\zBC xs.toList p.2/\p.2≠[]
theorem dC.all:∀{vs:List Value} {nss:gV},dC h vs nss->∀p∈vs.zip nss,aGh h p
 |_,_,.nil,p,hp=>by simp at hp
 |_,_,.cons ho hc hd hi hne r,p,hp=>by
  rw[zBY]at hp;rcases zAX.mp hp with e|hp
  .subst e;exact⟨_,_,_,_,rfl,ho,hc,hd,hi,hne⟩
  .exact r.all p hp
theorem aBI:∀{zs:List (Value×List Int)},(∀p∈zs,aGh h p)->dC h (zs.map (·.1)) (zs.map (·.2))
 |[],_=>.nil
 |p::zs,hz=>by
  obtain⟨x,o,xs,k,e1,e2,e3,e4,e5,e6⟩:=hz p zAL;rw[zAH,zAH,e1];exact .cons e2 e3 e4 e5 e6 (aBI λ q hq=>hz q (zAG _ hq))
def oM(h:l.Perm m'):∀{m:List α},m'=m.map f->∃m2:List α,m2.Perm m/\l=m2.map f:=by
 induction h with
 |nil=>intro m e;exact⟨m,zBp _,e⟩
 |cons x p ih=>
  intro m e;cases m with
  |nil=>cases e
  |cons a m=>
   rw[zAH]at e;injection e with e1 e2
   obtain⟨m2,q1,q2⟩:=ih e2;exact⟨a::m2,q1.cons a,by rw[zAH,q2,e1]⟩
 |swap x y l=>
  intro m e;cases m with
  |nil=>cases e
  |cons a m=>
   cases m with
   |nil=>rw[zAH]at e;injection e with _ e2;cases e2
   |cons b m=>
    rw[zAH,zAH]at e;injection e with e1 e2
    injection e2 with e2 e3
    exact⟨b::a::m,zE4 _ _ _,by rw[zAH,zAH,e1,e2,e3]⟩
 |trans p q ih1 ih2=>
  intro m e;obtain⟨m2,a1,a2⟩:=ih2 e;obtain⟨m3,b1,b2⟩:=ih1 a2;exact⟨m3,b1.trans a1,b2⟩
def pB(l:gV):Prop:=l.Pairwise λ a b=>HT.lexLt b a=false
section
variable{prog:zAZ}{w:World}{A:zAd}{E:Value->zAF->Prop}{s:zAF}
def yV{Q:Value->zAF->Prop}(hz:∀p∈zs,aGh s.heap p)(h64:zs.length<64)
  (h:∀(zs':List (Value×List Int)) h' e,zs'.Perm zs->pB (zs'.map (·.2))->(∀b o,s.heap.get? b=some o->h'.get? b=some o)->h'.get? s.heap.objs.size=some (zBW "list" (zs'.map (·.1)).toArray e)->Q (.ref s.heap.objs.size) {s with heap:=h'}):
  wpAny (model prog w) A (zFS (zs.map (·.1))>>=λ l=>zFw [l] (call (.builtin "list.sort") [l])>>=λ _=>ret l) (λ fin s'=>∃r,fin= .done (.ret r)/\Q r s') E s:=by
 have hW:(zs.map (·.1)).length=zs.length:=zAB _;refine zAR (zGh ?_ (by rw[zB1];omega));have hoL:(s.heap.push (zBW "list" (zs.map (·.1)).toArray 0)).get? s.heap.objs.size=some (zBW "list" (zs.map (·.1)).toArray 0):=zA1 _ rfl;refine zAR (zDF (zDu slot_list_sort ⟨_,hoL,rfl⟩ entry_list_sort ?_ (args_list_sort _)));refine aAl (s:={s with heap:=s.heap.push (zBW "list" (zs.map (·.1)).toArray 0)}) hoL (aBI λ p hp=>?_) (by omega) λ p a1 a2=>⟨_,rfl,?_⟩
 .obtain⟨x,o,xs,k,e1,e2,e3⟩:=hz p hp
  exact⟨x,o,xs,k,e1,zAC _ e2,e3⟩
 rw[hW]at a1 a2;have bS:p.toList.map (λ i=>(zs.map (·.1)).getD i zBV)=(p.toList.map λ i=>zs.getD i (zBV,[])).map (·.1):=by
  rw[zAe];refine zAz λ i hi=>?_
  show(zs.map (·.1)).getD i zBV=(zs.getD i (zBV,[])).1
  rw[zAa,zAa,zAT];cases zs[i]?<;>rfl
 have hperm:(p.toList.map λ i=>zs.getD i (zBV,[])).Perm zs:=by
  have h1:p.toList.Perm (zAw zs.length):=by
   have:=Array.perm_iff_toList_perm.mp a1
   simpa using this
  refine(h1.map _).trans ?_
  have:(zAw zs.length).map (λ i=>zs.getD i (zBV,[]))=zs:=by
   refine List.ext_getElem (by simp) λ i h1 h2=>?_
   rw[zCh,List.getElem_range,zAa,zAE h2];rfl
  rw[this]
 have hne:∀b o,s.heap.get? b=some o->b≠s.heap.objs.size:=λ b o e=>zAn (zA4 e)
 obtain⟨e1,he1⟩:∃e1,((s.heap.push (zBW "list" (zs.map (·.1)).toArray 0)).update s.heap.objs.size (zCM λ _=>(#[]:Array Value))).get? s.heap.objs.size=some (zBW "list" #[] e1):=⟨_,zDM hoL λ _=>#[]⟩
 have g1:=zAC (zBW "list" #[] 0) (zAC (zBW "tuple" (zs.map (·.1)).toArray 0) he1);have g2:=zDM g1 (λ _=>mL (zs.map (·.1)) p);generalize (if ((mL (zs.map (·.1)) p).size==(#[]:Array Value).size)=true then e1 else e1+1)=c1 at g2;have hend:(zFU (s.heap.push (zBW "list" (zs.map (·.1)).toArray 0)) s.heap.objs.size (zs.map (·.1)) (mL (zs.map (·.1)) p)).get? s.heap.objs.size=some (zBW "list" (mL (zs.map (·.1)) p) c1):=g2;have pV:mL (zs.map (·.1)) p=((p.toList.map λ i=>zs.getD i (zBV,[])).map (·.1)).toArray:=by unfold mL;rw[bS]
 have hris:pB ((p.toList.map λ i=>zs.getD i (zBV,[])).map (·.2)):=by
  unfold pB;rw[zAe];refine zBI.mpr λ i j hi hj hij=>?_
  rw[zAB,zBU,a1.sz]at hi hj;have hk:∀k (hk:k<zs.length),Kp (O:=aAm) (λ i=>(zs.map (·.2)).getD i []) p k=(zs.getD (p.getD k 0) (zBV,[])).2:=λ k hk=>by
   show(zs.map (·.2)).getD (p.getD k 0) []=_
   rw[zAa,zAa,zAT];cases zs[p.getD k 0]?<;>rfl
  have hg:∀k (hk:k<p.toList.length),p.toList[k]=p.getD k 0:=λ k hk=>by
   have:k<p.size:=by simpa using hk
   simp[Array.getD,this]
  have this:HT.lexLt (Kp (O:=aAm) (λ i=>(zs.map (·.2)).getD i []) p j) (Kp (O:=aAm) (λ i=>(zs.map (·.2)).getD i []) p i)=false:=a2 i j (zBN hij) hj;rw[hk i hi,hk j hj]at this;rw[zCh,zCh,hg,hg];exact this
 have b6:∀b o,s.heap.get? b=some o->(zFU (s.heap.push (zBW "list" (zs.map (·.1)).toArray 0)) s.heap.objs.size (zs.map (·.1)) (mL (zs.map (·.1)) p)).get? b=some o:=λ b o e=>by
  unfold zFU;rw[zBt _ _ _ _ (hne b o e)];refine zAC _ (zAC _ ?_);rw[zBt _ _ _ _ (hne b o e)];exact zAC _ e
 rw[pV]at hend b6;have hq:=h (p.toList.map λ i=>zs.getD i (zBV,[])) _ c1 hperm hris b6 hend;rw[<-pV]at hq;exact zA7 ⟨_,rfl,hq⟩
def oG(h:wpAny (model prog w) A.in1 (zHQ v) (λ vs s'=>wpAny (model prog w) A.in1 (zFS vs>>=λ l=>zFw [l] (call (.builtin "list.sort") [l])>>=λ _=>ret l) (λ fin s'=>∃r,fin= .done (.ret r)/\Q r s') E s') E s):
  wpAny (model prog w) A (call (.builtin "sorted") [v]) Q E s:=by
 refine Calls.call_function_entry kind_sorted plain_sorted entry_sorted (args_sorted1 _) ?_;unfold zDj.«sorted»;refine zAR (m:=checkCount "sorted" 1 1 _) (zA7 (zAR ?_));exact h
end
inductive g8(K:zAA)(H:Hp):List V->List (List Int)->Prop where
 |nil:g8 K H [] []
 |cons {a:Addr} {ns:List Int} {vs:List V} {nss:gV} (h:SqT K H a (ns.map V.int)) (hne:ns≠[]) (r:g8 K H vs nss):g8 K H (.ref a::vs) (ns::nss)
def pO:V->Value
 | .ref a=>.ref a
 |_=>.none
def g8.vals{K:zAA}:∀{vs:List V} {nss:gV} {us:List Value},g8 K H vs nss->Vals vs us->us=vs.map pO:=by
 intro vs nss us t v;induction v generalizing nss with
 |nil=>rfl
 |cons q s ih=>
  cases t with
  |cons _ _ r=>
   cases q;rw[zAH,ih r];rfl
theorem g8.len{K:zAA}:∀{vs:List V} {nss:gV},g8 K H vs nss->vs.length=nss.length
 |_,_,.nil=>rfl
 |_,_,.cons _ _ r=>by rw[zA2,zA2,r.len]
theorem g8.refs{K:zAA}:∀{vs:List V} {nss:gV},g8 K H vs nss->∀v∈vs,RelV v (pO v)
 |_,_,.nil,v,hv=>by simp at hv
 |_,_,.cons _ _ r,v,hv=>by
  rcases zAX.mp hv with e|hv
  .subst e;exact rfl
  .exact r.refs v hv
theorem g8.at(I:Inv X hV σ H s):∀{vs:List V} {nss:gV},g8 X.K H vs nss->dC s.heap (vs.map pO) nss
 |_,_,.nil=>.nil
 |_,_,.cons h hne r=>by
  obtain⟨its,rv,⟨o,ho,hc,n,hd⟩,_⟩:=I.tuple h;exact .cons ho hc hd (by simpa using intsAre_of rv) hne (r.at I)
theorem uz:∀{vs:List V},(∀v∈vs,RelV v (pO v))->Vals vs (vs.map pO)
 |[],_=>.nil
 |v::vs,h=>.cons (h v zAL) (uz λ u hu=>h u (zAG _ hu))
section
variable{X:Cx}
def aEh(H:Hp)(vs:List V)(nss:gV)(Q:VK):Prop:=∀zs:List (V×List Int),zs.Perm (vs.zip nss)->pB (zs.map (·.2))->New H (.lst (zs.map (·.1))) Q
def aAM{hV:hZ}(I:Inv X hV σ H s)(ht:g8 X.K H vs nss)(h64:vs.length<64)(q:aEh H vs nss Q)
  (hs1:∃h1 tk,s1={s with heap:=h1,toks:=tk}/\s.heap.objs.size<=h1.objs.size/\∀b o,s.heap.get? b=some o->h1.get? b=some o){zs:List (Value×List Int)}(hz:zs.Perm ((vs.map pO).zip nss))(hus:us=zs.map (·.1)):
  wpAny (model X.prog X.w) X.A.in1 (zFS us>>=λ l=>zFw [l] (call (.builtin "list.sort") [l])>>=λ _=>ret l) (λ fin s'=>∃r,fin= .done (.ret r)/\EP X hV σ Q r s') X.xe s1:=by
 obtain⟨h1,tk,rfl,hsz,keep⟩:=hs1;subst hus;have kQ:∀p∈zs,aGh h1 p:=λ p hp=>by
  obtain⟨x,o,xs,k,e1,e2,e3⟩:=(ht.at I).all p (hz.mem_iff.mp hp);exact⟨x,o,xs,k,e1,keep _ _ e2,e3⟩
 have hW:zs.length<64:=by
  rw[hz.length_eq,zHH,zAB,<-ht.len,zDn];exact h64
 refine yV (s:={s with heap:=h1,toks:=tk}) kQ hW λ zs' h' e a1 a2 a3 a4=>?_
 have bS:(vs.map pO).zip nss=(vs.zip nss).map λ p=>(pO p.1,p.2):=by rw[List.zip_map_left];rfl
 obtain⟨ws,w1,w2⟩:=oM (f:=λ p:V×List Int=>(pO p.1,p.2)) (a1.trans hz) bS;have hfr:H h1.objs.size=none:=I.hok.fresh hsz;have b5:∀v∈ws.map (·.1),RelV v (pO v):=λ v hv=>by
  obtain⟨p,hp,rfl⟩:=zAS.mp hv;exact ht.refs p.1 (zDd (w1.mem_iff.mp hp)).1
 have hws:zs'.map (·.1)=(ws.map (·.1)).map pO:=by rw[w2,zAe,zAe];rfl
 have hwl:(ws.map (·.1)).length<=zAO:=by
  rw[zAB,w1.length_eq,zHH,<-ht.len,zDn,zB1];lia
 refine⟨.ref h1.objs.size,upd H h1.objs.size (.lst (ws.map (·.1))),I.laid (t':=tk) (λ b o e=>a3 b o (keep b o e)) hsz ⟨hwl,(ws.map (·.1)).map pO,e,uz b5,?_⟩,rfl,(q ws w1 ?_).at hfr⟩
 .rw[<-hws];exact a4
 .have:ws.map (·.2)=zs'.map (·.2):=by rw[w2,zAe];rfl
  rw[this];exact a2
def aA2(K:zAA):List V->Hp->VK->Prop:=λ xs H Q=>∃p vs nss,xs=[.ref p]/\SqL K H p vs/\g8 K H vs nss/\vs.length<64/\aEh H vs nss Q
def ux:cA X (.builtin "sorted") (aA2 X.K):=by
 intro hV s σ H xs us Q I r h;obtain⟨p,vs,nss,rfl,hp,ht,h64,q⟩:=h;obtain⟨u,rfl,ru⟩:=vals1 r;cases ru;obtain⟨its,rv,pl,hz⟩:=I.list hp;have e:=ht.vals rv;subst e;have hl2:(vs.map pO).length=nss.length:=by rw[zAB];exact ht.len
 refine oG (collect_list pl.isList ?_ (by rw[zAB];exact hz));refine aAM I ht h64 q ⟨_,_,rfl,?_,λ b o e=>?_⟩ (zBp _) ?_
 .rw[Heap.size_update,size_push']
  exact zFA _
 .rw[zBt _ _ _ _ (zAn (zA4 e))]
  exact zAC _ e
 .exact(zGv (by lia)).symm
end
def aCW(a:List Int):gV->List (List Int)
 |[]=>[a]
 |b::l=>if HT.lexLt b a then b::aCW a l else a::b::l
def sG:gV->List (List Int)
 |[]=>[]
 |a::l=>aCW a (sG l)
theorem pZ(a:List Int):∀l,(aCW a l).Perm (a::l)
 |[]=>zBp _
 |b::l=>by
  unfold aCW;split
  .exact((pZ a l).cons b).trans (zE4 _ _ _)
  .exact zBp _
theorem nC:∀l,(sG l).Perm l
 |[]=>zBp _
 |a::l=>(pZ a _).trans ((nC l).cons a)
def aFz(h:HT.lexLt a b=true):HT.lexLt b a=false:=by
 cases e:HT.lexLt b a with
 |false=>rfl
 |true=>have:=oU a b a h e;rw[xH]at this;cases this
def aI1(h1:HT.lexLt b a=false)(h2:HT.lexLt c b=false):HT.lexLt c a=false:=by
 cases e:HT.lexLt c a with
 |false=>rfl
 |true=>
  rcases aDt c b a e with z|z
  .rw[h2]at z;cases z
  .rw[h1]at z;cases z
theorem uC(a:List Int):∀l,pB l->pB (aCW a l)
 |[],_=>zAi.mpr ⟨λ _ h=>by simp at h,.nil⟩
 |b::l,h=>by
  obtain⟨h1,h2⟩:=zAi.mp h;unfold aCW;cases e:HT.lexLt b a with
  |true=>
   rw[if_pos rfl];refine zAi.mpr ⟨λ x hx=>?_,uC a l h2⟩;rcases zAX.mp ((pZ a l).mem_iff.mp hx)with q|q
   .subst q;exact aFz e
   .exact h1 x q
  |false=>
   rw[if_neg (by simp)];refine zAi.mpr ⟨λ x hx=>?_,h⟩;rcases zAX.mp hx with q|q
   .subst q;exact e
   .exact aI1 e (h1 x q)
theorem kJ:∀l,pB (sG l)
 |[]=>.nil
 |a::l=>uC a _ (kJ l)
theorem vI:∀{a b:gV},a.Perm b->pB a->pB b->a=b
 |[],b,p,_,_=>p.nil_eq
 |x::a,b,p,h1,h2=>by
  cases b with
  |nil=>exact absurd p.length_eq (by simp)
  |cons y b=>
   have hxy:x=y:=by
    obtain⟨q1,_⟩:=zAi.mp h1;obtain⟨q2,_⟩:=zAi.mp h2;have m1:x∈y::b:=p.mem_iff.mp zAL;have m2:y∈x::a:=p.mem_iff.mpr zAL;rcases zAX.mp m1 with e|m1
    .exact e
    .rcases zAX.mp m2 with e|m2
     .exact e.symm
     .exact tQ _ _ (q2 x m1) (q1 y m2)
   subst hxy;rw[vI (List.Perm.cons_inv p) (zAi.mp h1).2 (zAi.mp h2).2]
abbrev tupI(ns:List Int):D:=.tup (ns.map .int)
def kE:List D->Option gV
 |[]=>some []
 | .tup l::r=>match intsOf l,kE r with
  |some (n::ns),some nss=>some ((n::ns)::nss)
  |_,_=>none
 |_=>none
theorem qI:∀{l:List D} {nss:gV},kE l=some nss->l=nss.map tupI/\∀ns∈nss,ns≠[]
 |[],nss,h=>by cases h;exact⟨rfl,λ ns h=>by simp at h⟩
 | .tup l::r,nss,h=>by
  unfold kE at h;split at h
  .rename_i n ns nss' e1 e2
   cases h;obtain⟨q1,q2⟩:=qI e2;rw[dG e1,q1];refine⟨rfl,λ ms hm=>?_⟩;rcases zAX.mp hm with e|hm
   .subst e;simp
   .exact q2 ms hm
  .cases h
 | .non::_,_,h=>by cases h
 | .int _::_,_,h=>by cases h
 | .bl _::_,_,h=>by cases h
 | .str _::_,_,h=>by cases h
 | .lst _::_,_,h=>by cases h
 | .dct _ _::_,_,h=>by cases h
 | .set _::_,_,h=>by cases h
 | .scr _::_,_,h=>by cases h
theorem rR:∀{nss:gV},(∀ns∈nss,ns≠[])->kE (nss.map tupI)=some nss
 |[],_=>rfl
 |[]::nss,h=>absurd rfl (h [] zAL)
 |(n::ns)::nss,h=>by
  have ih:=rR λ ms hm=>h ms (zAG _ hm)
  rw[zAH];unfold kE;rw[ih,show intsOf (List.map D.int (n::ns))=some (n::ns)from dH _]
theorem yO{K:zAA}:∀{xs:List V} {nss:gV},Rps K A H xs (nss.map tupI)->(∀ns∈nss,ns≠[])->g8 K H xs nss
 |_,[],.nil,_=>.nil
 |_,ns::nss,.cons h r,hne=>by
  cases h with
  |tup h r'=>
   have e:=r'.ints_of;subst e;exact .cons h (hne ns zAL) (yO r λ ms hm=>hne ms (zAG _ hm))
theorem aDL{K:zAA}:∀{zs:List (V×List Int)},(∀p∈zs,∃a,p.1= .ref a/\SqT K H a (p.2.map V.int))->Rps K A H (zs.map (·.1)) ((zs.map (·.2)).map tupI)
 |[],_=>.nil
 |p::zs,h=>by
  obtain⟨a,e1,e2⟩:=h p zAL;rw[zAH,zAH,zAH,e1];exact .cons (.tup e2 .ints) (aDL λ q hq=>h q (zAG _ hq))
theorem g8.all{K:zAA}:∀{vs:List V} {nss:gV},g8 K H vs nss->∀p∈vs.zip nss,∃a,p.1= .ref a/\SqT K H a (p.2.map V.int)
 |_,_,.nil,p,hp=>by simp at hp
 |_,_,.cons h _ r,p,hp=>by
  rw[zBY]at hp;rcases zAX.mp hp with e|hp
  .subst e;exact⟨_,rfl,h⟩
  .exact r.all p hp
def aCw{K:zAA}(ht:g8 K H vs nss)(q:∀v H',aQ H H'->Rp K (λ p=>H p=none) H' v (.lst ((sG nss).map tupI))->Q v H'):aEh H vs nss Q:=by
 intro zs hz hr p H' s hp hn;have e:zs.map (·.2)=sG nss:=vI (((hz.map (·.2)).trans (by rw[zGw (by rw[ht.len];exact zAU _)])).trans (nC nss).symm) hr (kJ nss);refine q _ H' s (.lst hp hn ?_);rw[<-e];exact aDL λ p hp=>by
  obtain⟨a,e1,e2⟩:=ht.all p (hz.mem_iff.mp hp);exact⟨a,e1,s.sqt e2⟩
def insI(a:Int):List Int->List Int
 |[]=>[a]
 |b::l=>if b<a then b::insI a l else a::b::l
def sortI:List Int->List Int
 |[]=>[]
 |a::l=>insI a (sortI l)
theorem insI_perm(a:Int):∀l,(insI a l).Perm (a::l)
 |[]=>zBp _
 |b::l=>by
  unfold insI;split
  .exact((insI_perm a l).cons b).trans (zE4 _ _ _)
  .exact zBp _
theorem sortI_perm:∀l,(sortI l).Perm l
 |[]=>zBp _
 |a::l=>(insI_perm a _).trans ((sortI_perm l).cons a)
theorem zV(a:Int):∀l:List Int,l.Pairwise (·<=·)->(insI a l).Pairwise (·<=·)
 |[],_=>zAi.mpr ⟨λ _ h=>by simp at h,.nil⟩
 |b::l,h=>by
  obtain⟨h1,h2⟩:=zAi.mp h;unfold insI;by_cases e:b<a
  .rw[if_pos e]
   refine zAi.mpr ⟨λ x hx=>?_,zV a l h2⟩;rcases zAX.mp ((insI_perm a l).mem_iff.mp hx)with q|q
   .lia
   .exact h1 x q
  .rw[if_neg e]
   refine zAi.mpr ⟨λ x hx=>?_,h⟩;rcases zAX.mp hx with q|q
   .lia
   .have:=h1 x q;lia
theorem jP:∀l,(sortI l).Pairwise (·<=·)
 |[]=>.nil
 |a::l=>zV a _ (jP l)
theorem jc:∀{us:List Value} {ns:List Int},zBC us ns->Vals (ns.map V.int) us
 |_,_,.nil=>.nil
 |_,_,.cons n t r=>.cons ⟨t,rfl⟩ (jc r)
section
variable{X:Cx}
def aA3(K:zAA):List V->Hp->VK->Prop:=λ xs H Q=>∃p ns,xs=[.ref p]/\SqL K H p (ns.map V.int)/\ns.length<64/\New H (.lst ((sortI ns).map V.int)) Q
def xm:cA X (.builtin "sorted") (aA3 X.K):=by
 intro hV s σ H xs us Q I r h;obtain⟨p,ns,rfl,hp,h64,q⟩:=h;obtain⟨u,rfl,ru⟩:=vals1 r;cases ru;obtain⟨its,rv,pl,hz⟩:=I.list hp;have hI:zBC its ns:=intsAre_of rv;have hW:its.length<64:=by
  have:=rv.length
  rw[zAB]at this;lia
 refine sorted_ints pl.isList hI hW λ out ns' h1 h2 h3=>?_
 have e:ns'=sortI ns:=zG2 (h2.trans (sortI_perm ns).symm) h3 (jP ns);subst e;obtain⟨e,he⟩:=sortedAll_at s.heap its out;have hfr:H (s.heap.objs.size+1)=none:=I.hok.fresh (zFA _);refine⟨.ref (s.heap.objs.size+1),upd H (s.heap.objs.size+1) (.lst ((sortI ns).map V.int)),I.laid (t':=s.toks) (λ b o q=>sortedAll_old q) (zFA _) ?_,rfl,q.at hfr⟩;refine⟨?_,out.toList,e,jc h1,?_⟩
 .rw[zAB,h2.length_eq]
  exact zAc (zBN h64) (by decide)
 .rw[zGD]
  exact he
end
def aHT(K:zAA)(r:List V->Hp->VK->Prop)(fd:List D->Rs D):Prop:=∀(A:Addr->Prop) xs ds H (Q:VK) z,Rps K A H xs ds->fd ds= .ok z->(∀v H',aQ H H'->Rp K (λ p=>H p=none) H' v z->Q v H')->r xs H Q
def aFD{K:zAA}(hs:aHT K r fd)(h1:aGf K G m ta g):jN K G (some []) (tCB r ta) (opA fd g):=by
 intro U σ H ρ lab Q R W;refine h1 U σ H ρ lab _ R (W.bd.imp λ d _ w x H1 s1 r1=>?_);obtain⟨z,ez,w⟩:=w.okD;exact hs (fpM m lab H) x d H1 Q z r1 ez λ v H' s r=>w v H' (s1.trans s) (r.wk λ p o _ q=>.inl (s1.free q))
def ju:List D->Rs D
 |[.lst l]=>match kE l with
  |some nss=>if nss.length<64 then .ok (.lst ((sG nss).map tupI))else .st
  |none=>match intsOf l with
   |some ns=>if ns.length<64 then .ok (.lst ((sortI ns).map .int))else .st
   |none=>.st
 |_=>.st
def aC1{K:zAA}:aHT K (λ xs H Q=>aA2 K xs H Q\/aA3 K xs H Q) ju:=by
 intro A xs ds H Q z r ez q;unfold ju at ez;split at ez
 .cases r with
  |cons h r=>
   cases r;cases h with
   |lst h m r=>
    split at ez
    .rename_i nss e
     obtain⟨e1,e2⟩:=qI e;subst e1;split at ez
     .rename_i hl
      cases ez;have ht:=yO r e2;exact .inl ⟨_,_,nss,rfl,SqL.of h,ht,by rw[ht.len];exact hl,aCw ht q⟩
     .cases ez
    .split at ez
     .rename_i ns e
      have e1:=dG e;subst e1;split at ez
      .rename_i hl
       cases ez;have e2:=r.ints_of;subst e2;exact .inr ⟨_,ns,rfl,SqL.of h,hl,λ p H' s hp hn=>q _ H' s (.lst hp hn .ints)⟩
      .cases ez
     .cases ez
 .cases ez
section
variable{C:Ct}{pos p:Pos}{m:Mode}{a:Expr}{ga:En->Rs (List D)}
def jR(hm:C.mg "sorted"=none)(ha:SA C m [a] ga)(he:∀i,zAY [a] (C.X i).env=[(false,eval a (C.X i).env)]:=by intro _;rfl)(hg:∀i,Gl (C.X i) "sorted":=by intro _;rfl)(hv:zAq "sorted"=some (.builtin "sorted"):=by decide+kernel):SE C (some []) (.Call (.Name "sorted" p) [a] [] pos) (opA ju ga):=by
 obtain⟨t,h1,h2⟩:=ha;refine⟨_,λ i=>lD (r:=λ xs H Q=>aA2 C.K xs H Q\/aA3 C.K xs H Q) (by rw[<-C.hK i];exact ux.or xm) (hg i) (by rw[(C.cx i).2.2.2.1];exact hm) hv (h1 i) (by decide) (by decide) (he i) rfl,aFD aC1 h2⟩
end
structure Mg{β:Type}(r:β->β->Prop)(T out ra rb:List β):Prop where
 pm:(out++(ra++rb)).Perm T
 so:out.Pairwise r
 lo:∀x∈out,∀y∈ra++rb,r x y
 sa:ra.Pairwise r
 sb:rb.Pairwise r
section
variable{β:Type}{r:β->β->Prop}{T:List β}
def Mf(r:β->β->Prop)(T o:List β):Prop:=o.Perm T/\o.Pairwise r
end
structure Eg(st st':zCj):Prop where
 k:zCk st'=zCk st
 a:arrOf st'=arrOf st
 p:zFx st'=zFx st
 f:zFn st'=zFn st
abbrev LS:=Option (Array Keyed)×Array Keyed×Nat×Nat×Nat×Nat×Nat
section
variable{O:zBr}{kf:Keyed->O.α}{T:List Keyed}{a b out:Array Keyed}{ia ib mg ac bc m0:Nat}{st:zCj}{Q:ForInStep LS->zCj->Prop}
abbrev rK(O:zBr)(kf:Keyed->O.α)(x y:Keyed):Prop:=O.kle (kf x) (kf y)
abbrev Ml(O:zBr)(kf:Keyed->O.α)(T:List Keyed)(a b out:Array Keyed)(ia ib:Nat):Prop:=Mg (rK O kf) T out.toList (a.toList.drop ia) (b.toList.drop ib)
structure Tu(O:zBr)(kf:Keyed->O.α)(T:List Keyed)(a b:Array Keyed)(m0:Nat)(st:zCj)(Q:ForInStep LS->zCj->Prop):Prop where
 ret:∀o out ia ib mg ac bc st',Eg st st'->Mf (rK O kf) T o.toList->Q (.done (some o,out,ia,ib,mg,ac,bc)) st'
 on:∀out ia ib mg ac bc st',Eg st st'->Ml O kf T a b out ia ib->ia+1<a.size->ib<b.size->m0<ia+ib->Q (.done (none,out,ia,ib,mg,ac,bc)) st'/\Q (.yield (none,out,ia,ib,mg,ac,bc)) st'
end
abbrev HS:=Option (Array Keyed)×Nat×Nat×Array Keyed×Nat×Nat×Nat
section
variable{O:zBr}{kf:Keyed->O.α}{T:List Keyed}{a b out:Array Keyed}{na nb mg ac bc m0:Nat}{st:zCj}{Q:ForInStep HS->zCj->Prop}
abbrev rH(O:zBr)(kf:Keyed->O.α)(x y:Keyed):Prop:=O.kle (kf y) (kf x)
abbrev Mh(O:zBr)(kf:Keyed->O.α)(T:List Keyed)(a b out:Array Keyed)(na nb:Nat):Prop:=Mg (rH O kf) T out.toList (a.toList.take na).reverse (b.toList.take nb).reverse
structure Th(O:zBr)(kf:Keyed->O.α)(T:List Keyed)(a b:Array Keyed)(m0:Nat)(st:zCj)(Q:ForInStep HS->zCj->Prop):Prop where
 ret:∀o na nb out mg ac bc st',Eg st st'->Mf (rK O kf) T o.toList->Q (.done (some o,na,nb,out,mg,ac,bc)) st'
 on:∀na nb out mg ac bc st',Eg st st'->Mh O kf T a b out na nb->0<na->1<nb->na<=a.size->nb<=b.size->na+nb<m0->Q (.done (none,na,nb,out,mg,ac,bc)) st'/\Q (.yield (none,na,nb,out,mg,ac,bc)) st'
end
structure Ea(st st':zCj):Prop where
 k:zCk st'=zCk st
 p:zFx st'=zFx st
 f:zFn st'=zFn st
section
variable{κ:zCr}{G:Keyed->Prop}{st:zCj}{P R:List Keyed}{lo:Nat}
structure Sg(κ:zCr)(G:Keyed->Prop)(st:zCj)(lo:Nat)(P R:List Keyed):Prop where
 k:zCk st=κ
 l:(arrOf st).toList=P++R
 p:P.length=lo
 g:∀x∈R,G x
end
def Pr(O:zBr)(kf:Keyed->O.α):Nat->List (List Keyed)->List (Nat×Nat×Nat)->Prop
 |_,[],[]=>True
 |o,x::segs,p::ps=>p.1=o/\p.2.1=x.length/\0<x.length/\x.Pairwise (rK O kf)/\Pr O kf (o+x.length) segs ps
 |_,_,_=>False
section
variable{κ:zCr}{O:zBr}{kf:Keyed->O.α}{st:zCj}{T R:List Keyed}{segs:List (List Keyed)}
structure Rn(κ:zCr)(O:zBr)(kf:Keyed->O.α)(T:List Keyed)(st:zCj)(segs:List (List Keyed))(R:List Keyed):Prop where
 k:zCk st=κ
 f:zFn st=none
 l:(arrOf st).toList=segs.flatten++R
 pm:(arrOf st).toList.Perm T
 pr:Pr O kf 0 segs (zFx st).toList
end
section
variable{K:zAA}{G:Gx}{wi:TI}{fi:En->Rs (List D)}{g:TG}{fg:D->En->Rs En}{tt:TT}
def aH5(hi:aJB K G wi fi)(hg:aJC K {G with E:=λ _ _ _=>False} g fg)(hfg:∀d,∃ρ1,fg d [.no]= .ok ρ1)(ht:aCa K {G with E:=λ _ _ _=>False} tt ik)(R:RR K G U ρ σ H lab)
  (W:WR G (fi (shE ρ)) (λ ds=>ds.length<zAO/\∀(l:Addr) (as:List Addr) H',aQ H H'->H l=none->H' l=some (.lst (as.map V.ref))->(l::as).Nodup->as.length=ds.length->(∀a∈as,H a=none/\H' a=some (.lst []))->Q (.ref l) H')):
  tLC wi (stV [none]) g tt (aGo jz) σ H Q:=by
 refine hi U σ H _ _ _ R.shE (W.imp λ ds _ w J H1 lab1 U1 s1 _ R1 jl=>?_);obtain⟨hW,w⟩:=w;intro l hl;have hHl:H l=none:=s1.free hl;have nl:∀p o,H1 p=some o->p≠l:=λ p o e z=>by subst z;rw[hl]at e;cases e
 have RB:RR K {G with E:=λ _ _ _=>False} (U1++U) [.no] (stV [none] σ) H1 (λ p=>if p=l then(2,0)else(0,0)):=by
  refine⟨rfl,λ i s e=>?_,R1.old,λ p hp=>?_,λ q hq=>(R1.tm q hq).wk λ p o e _=>by rw[if_neg (nl p o e)];exact zAj _⟩
  .match i,e with
   |0,e=>cases e;exact .inl rfl
   |i+1,e=>simp at e
  .by_cases z:p=l
   .subst z;exact R1.old.free hl
   .exact absurd (show(if p=l then((2,0):Nat×Nat)else(0,0)).1=0 by rw[if_neg z]) hp
 have aI:¬((λ p=>if p=l then((2,0):Nat×Nat)else(0,0)) l).1<=1:=by simp
 refine⟨λ i n acc H2=>∃as:List Addr,n=ds.length-i/\i<=ds.length/\acc=as.map V.ref/\H2 l=some (.lst acc)/\RR K {G with E:=λ _ _ _=>False} (U1++U) [.no] (stV [none] σ) H2 (λ p=>if p=l then(2,0)else(0,0))/\aQ H H2/\as.length=i/\(l::as).Nodup/\∀a∈as,H a=none/\H2 a=some (.lst []),
  ⟨ds.length,[],by omega,by omega,rfl,aa,RB.up (bB hl _),s1.trans (bB hl _),rfl,by simp,λ a h=>by simp at h⟩,?_⟩
 rintro i n acc H2 ⟨as,rfl,hi',rfl,hH2,R2,s2,hlen2,hnd,hal⟩;refine⟨hH2,by rw[zAB];omega,?_⟩;have jj:=jl _ H2 λ q hq=>R2.tm q (zAK _ hq)
 by_cases hlt:i<ds.length
 .obtain⟨go,yl⟩:=(jj i).2 hlt
  refine .inr ⟨go,λ x H3 hy=>?_⟩;obtain⟨s3,d,ed,rx⟩:=yl x H3 hy;replace R2:=R2.up s3;replace hH2:=s3 _ _ hH2;replace s2:=s2.trans s3;replace hal:=λ a ha=>(⟨(hal a ha).1,s3 _ _ (hal a ha).2⟩:H a=none/\H3 a=some (.lst []))
  obtain⟨ρ1,e1⟩:=hfg d;refine hg (U1++U) x d _ H3 _ _ _ ρ1 R2 rx e1 λ σ4 R4=>?_
  refine ht (U1++U) σ4 H3 ρ1 _ _ R4 λ H5 s5=>?_
  rw[if_pos rfl];refine⟨zAj _,λ p H6 s6 hp hn=>?_⟩;have hl6:H6 l=some (.lst (as.map V.ref)):=s6 _ _ (s5 _ _ hH2);have hpl:p≠l:=λ z=>by subst z;rw[s5 _ _ hH2]at hn;cases hn
  have hpa:p∉as:=λ z=>by
   have:=s5 _ _ (hal p z).2
   rw[hn]at this;cases this
  have hpH:H p=none:=(s2.trans s5).free hn;have B:jO l H6 (upd H6 l (.lst (as.map V.ref++[.ref p]))):=λ b o ne hb=>by rw[bJ ne];exact hb
  refine⟨hl6,ds.length-(i+1),by omega,as++[p],rfl,hlt,by rw[zAW];rfl,aa,?_,?_,by rw[zAV];simp;omega,?_,λ a ha=>?_⟩
  .have R6:=R2.up (s5.trans s6)
   refine⟨R6.len,λ j s e=>?_,λ b o hb=>?_,R6.new,λ q hq=>(R6.tm q hq).but B hl6 rfl aI⟩
   .match j,e with
    |0,e=>cases e;exact .inl rfl
    |j+1,e=>simp at e
   .exact B b o (λ z=>by subst z;rw[R1.old.free hl]at hb;cases hb) (R6.old b o hb)
  .exact λ b o hb=>B b o (λ z=>by subst z;rw[hHl]at hb;cases hb) (((s2.trans s5).trans s6) b o hb)
  .obtain⟨n1,n2⟩:=zAh.mp hnd
   refine zAh.mpr ⟨λ z=>?_,zAb.mpr ⟨n2,by simp,λ x hx y hy e=>?_⟩⟩
   .rcases zAQ.mp z with z|z
    .exact n1 z
    .exact hpl (zAD.mp z).symm
   .rw[zAD]at hy
    subst hy;subst e;exact hpa hx
  .rcases zAQ.mp ha with z|z
   .refine⟨(hal a z).1,?_⟩
    rw[bJ λ q=>by subst q;exact(zAh.mp hnd).1 z];exact s6 _ _ (s5 _ _ (hal a z).2)
   .rw[zAD]at z
    subst z;exact⟨hpH,by rw[bJ hpl];exact hp⟩
 .have ei:i=ds.length:=by omega
  exact .inl ⟨by rw[ei];exact(jj _).1 (zAU _),w l as H2 s2 hHl hH2 hnd (by omega) hal⟩
end
section
variable{C:Ct}{pos lpos:Pos}{tg iter:Expr}{sc:Scope}{N:List Str}{js:List (Option Nat)}{ks:List Nat}{fi:En->Rs (List D)}{fg:D->En->Rs En}
def llS(i:Nat)(fi:En->Rs (List D))(js:List (Option Nat))(fg:D->En->Rs En):En->Ou:=λ ρ=>(fi (shE ρ)).bo λ ds=>if ds.length<zAO then .nx (ρ.set i (.o2 (zAN ds.length [])))else .st
def aGs(hi:SI C tg iter fi)(hg:SG (C.blk sc N) tg ks fg)(hj:js=[none]:=by rfl)(hfg:∀d,∃ρ1,fg d [.no]= .ok ρ1:=by intro _;exact⟨_,rfl⟩)(hN:∀j,(C.X j).N[i]? =some x:=by intro _;rfl)(hx:∀j,Loc (C.X j).env.scope x:=by intro _;first|exact zB3 rfl|exact zBD rfl)(hsw:∀j,zBm (.ListComp (.List [] lpos) [⟨tg,iter,[],0⟩] sc pos) (some (.Name x pos')) spos.line (C.X j).env=pure true:=by intro _;rfl)(hs:∀i x,zB8 iter (C.X i).env x=pure x:=by intro _ _;rfl)(hf:∀j,(C.X j).fn x=true\/(C.X j).env.scope.names.lookup x=some .local:=by intro _;first|exact .inl rfl|exact .inr rfl)(nd:∀j,(C.X j).N.Nodup:=by intro _;assumption)(hB:∀i,gj (C.X i) sc N (stV js) ks:=by intro _;exact aBA rfl rfl rfl rfl rfl rfl):
  SS C (.Assign [.Name x pos'] (.ListComp (.List [] lpos) [⟨tg,iter,[],0⟩] sc pos) spos) (llS i fi js fg):=by
 subst hj;obtain⟨wi,i1,i2⟩:=hi;obtain⟨g,g1,g2,g3,g4⟩:=hg;obtain⟨tt,t1,t2⟩:=iH (C:=C.blk sc N);refine⟨_,λ j=>yx (nd j) (hN j) (hx j) (hB j) (C.calm j) (i1 j) (λ c fp z5 z4=>g1 (j,c,fp,z5,z4)) g3 (λ c fp z5 z4=>t1 (j,c,fp,z5,z4)) (λ c fp z5 z4=>wZ dY) (hsw j) (hs j) (hf j),λ U σ H ρ lab De R W=>?_⟩;refine aH5 i2 g2 hfg t2 R (W.bo.imp λ ds _ w=>?_);by_cases hl:ds.length<zAO
 .rw[if_pos hl]at w
  refine⟨hl,λ l as H' s hn hH hnd hW hal=>?_⟩;have oQ:∀p o,H p=some o->(λ p=>if p=l then(i+2,0)else if p∈as then(i+2,as.idxOf p+1)else bR H 1 lab p) p=lab p:=λ p o e=>by
   dsimp only;have z1:p≠l:=λ z=>by subst z;rw[hn]at e;cases e
   have z2:p∉as:=λ z=>by rw[(hal p z).1]at e;cases e
   rw[if_neg z1,if_neg z2,bD e]
  have R':RR C.K C.G U ρ σ H' (λ p=>if p=l then(i+2,0)else if p∈as then(i+2,as.idxOf p+1)else bR H 1 lab p):=by
   refine(R.relab oQ λ p hp=>?_).up s;cases e:H p with
   |none=>exact R.old.free e
   |some o=>
    have:=oQ p o e
    dsimp only at this hp;rw[this]at hp;exact R.new p hp
  refine w _ _ _ (R'.put (s:=.o2 (zAN ds.length [])) ⟨l,as.map V.ref,rfl,hH,by dsimp only;rw[if_pos rfl],by rw[zAB,zCF];exact hW,λ j x es e1 e2=>?_⟩);rw[zAT,zC4]at e1;obtain⟨a,e1,rfl⟩:=e1;have ees:es=[]:=by
   rw[zBv]at e2;split at e2
   .cases e2;rfl
   .cases e2
  subst ees;have ha:a∈as:=zA9 e1;have hla:a≠l:=λ z=>by subst z;exact(zAh.mp hnd).1 ha
  have hj2:j<as.length:=(zAM.mp e1).1;refine .lst (hal a ha).2 ?_ .nil
  show(if a=l then(i+2,0)else if a∈as then(i+2,as.idxOf a+1)else bR H 1 lab a)=(i+2,j+1)
  rw[if_neg hla,if_pos ha];have hix:as.idxOf a<as.length:=List.idxOf_lt_length_iff.mpr ha
  have:as[as.idxOf a]? =some a:=by rw[zAE hix];exact congrArg some (List.getElem_idxOf hix)
  have:=(zCJ hix (zAh.mp hnd).2).mp (this.trans e1.symm)
  rw[this]
 .rw[if_neg hl]at w
  exact zAJ w
end
def aJi:∀{us:List α},us.length=6->∃a0 a1 a2 a3 a4 a5,us=[a0,a1,a2,a3,a4,a5]
 |[a0,a1,a2,a3,a4,a5],_=>⟨a0,a1,a2,a3,a4,a5,rfl⟩
def gY(j:Int):List Int:=(zAw j.toNat).map λ(k:Nat)=>0+(k:Int)
def aHl:List V->Hp->VK->Prop:=λ xs H Q=>∃j:Int,xs=[.int j]/\∀p,H p=none->Q (.ref p) (upd H p (.rng 0 j))
def zr:cA X (.type "range") aHl:=by
 intro hV s σ H vs us Q I rv h;obtain⟨j,rfl,q⟩:=h;obtain⟨u,rfl,ru⟩:=rv.one;obtain⟨t,rfl⟩:=ru;exact call_range_1 ⟨.ref s.heap.objs.size,_,I.laid (a:=s.heap.objs.size) (o:=.rng 0 j) (t':=s.toks+1+1) (λ _ _ q=>zAC _ q) (zAU _) ⟨_,_,_,zA1 _ rfl⟩,rfl,q _ (I.hok.fresh (zAU _))⟩
def yr:List V->Hp->VK->Prop:=λ xs H Q=>∃(p:Addr) (j:Int),xs=[.ref p]/\H p=some (.rng 0 j)/\-(2^62)<=j/\j<=10000/\∀l H',aQ H H'->H l=none->H' l=some (.lst ((gY j).map V.int))->Q (.ref l) H'
def vp:∀{ns:List Int} {us:List Value},ns.length=us.length->(∀(k:Nat) i,ns[k]? =some i->∃tk,us[k]? =some (.int i tk))->Vals (ns.map V.int) us:=by
 intro ns;induction ns with
 |nil=>intro us hl _;rw[List.eq_nil_of_length_eq_zero hl.symm];exact .nil
 |cons n ns ih=>
  intro us hl h;obtain⟨tk,e⟩:=h 0 n rfl;cases us with
  |nil=>cases e
  |cons u us=>
   have e':u= .int n tk:=zAk e;subst e';exact .cons ⟨tk,rfl⟩ (ih (zGy hl) λ k i hi=>h (k+1) i hi)
def xn(hc:X.calm=true):cA X (.type "list") yr:=by
 intro hV s σ H vs us Q I rv h;obtain⟨p,j,rfl,hp,h1,h2,q⟩:=h;obtain⟨u,rfl,ru⟩:=rv.one;cases ru;obtain⟨t,u,v,hg⟩:=I.hok p _ hp;have hsz:zAl 0 j 1=(j.toNat:Int):=by
  unfold zAl;simp only[show(1:Int)>0 by decide,if_true];split<;>lia
 refine call_list_range (n:=j.toNat) (I.ok.hd hc) hg ?_ hsz (by lia) λ h' tk acc c' hk hS iX=>?_
 .have fl:∀x:Int,-(2^62)<=x->x<=2^62->zBL x=true:=λ x hx1 hx2=>by
   unfold zBL;simp;lia
  unfold zBX;rw[hsz,fl 0 (by lia) (by lia),fl j (by lia) (by lia),fl 1 (by lia) (by lia),fl _ (by lia) (by lia),if_pos (by decide),fl (j+(1-1)) (by lia) (by lia),zGE];rfl
 .have hfr:=I.hok.fresh (zAU s.heap.objs.size)
  have hv:Vals ((gY j).map V.int) acc.toList:=by
   have hl:(gY j).length=acc.toList.length:=by rw[show acc.toList.length=acc.size from zBU,iX.1];simp[gY]
   refine vp hl λ k i hi=>?_
   have hk2:k<acc.size:=by rw[iX.1];have:=(zAM.mp hi).1;simpa[gY]using this
   obtain⟨tk,e⟩:=iX.2 k acc[k] (Array.getElem?_eq_getElem hk2);refine⟨tk,?_⟩;have ei:i=0+(k:Int)*1:=by
    unfold gY at hi;rw[zAT]at hi;cases c:(zAw j.toNat)[k]? with
    |none=>rw[c]at hi;cases hi
    |some m=>
     rw[c]at hi;cases hi
     have:=zAM.mp c
     have:m=k:=by simpa using this.2.symm
     subst this
     show(0:Int)+(m:Int)=0+(m:Int)*1
     lia
   rw[ei,<-e];simp[hk2]
  refine⟨.ref s.heap.objs.size,upd H s.heap.objs.size (.lst ((gY j).map V.int)),I.laid (t':=tk) hk (zAU _) ⟨?_,acc.toList,c',hv,by simpa using hS⟩,rfl,q _ _ (bB hfr _) hfr aa⟩;simp[gY]
  have:zAO=16777216:=zB1
  lia
def lrR:D->Rs D
 | .int j=>if -(2^62)<=j/\j<=10000 then .ok (.lst (au 0 j))else .st
 |_=>.st
def lrD(fa:En->Rs D):En->Rs D:=λ ρ=>(fa ρ).bd lrR
def vH(j:Int):au 0 j=(gY j).map D.int:=by
 unfold au gY;rw[zAe,Int.sub_zero];rfl
section
variable{C:Ct}{pos pos2 p p2:Pos}{a:Expr}{fa:En->Rs D}{m:Mode}
def aAT(hmL:C.mg "list"=none)(hmR:C.mg "range"=none)(ha:SE C m a fa)(hs:∀i,zAY [a] (C.X i).env=[(false,eval a (C.X i).env)]:=by intro _;rfl)(hs2:∀i,zAY [.Call (.Name "range" p2) [a] [] pos2] (C.X i).env=[(false,eval (.Call (.Name "range" p2) [a] [] pos2) (C.X i).env)]:=by intro _;rfl)(hgL:∀i,Gl (C.X i) "list":=by intro _;rfl)(hvL:zAq "list"=some (.type "list"):=by decide+kernel)(hgR:∀i,Gl (C.X i) "range":=by intro _;rfl):SE C (some []) (.Call (.Name "list" p) [.Call (.Name "range" p2) [a] [] pos2] [] pos) (lrD fa):=by
 obtain⟨t,h1,h2⟩:=ha;refine⟨tCB yr (gP (tCB aHl (gP t jz)) jz),λ i=>fY (xn (C.calm i)) (hgL i) (by rw[(C.cx i).2.2.2.1];exact hmL) hvL (bj (fY zr (hgR i) (by rw[(C.cx i).2.2.2.1];exact hmR) zFR (bj (h1 i) dY (hs i)) (by decide) (by decide) (hs i) rfl) dY (hs2 i)) (by decide) (by decide) (hs2 i) rfl,λ U σ H ρ lab Q R W=>?_⟩;refine h2 U σ H ρ lab _ R (W.bd.imp λ d _ w y H1 s1 r1=>?_);unfold lrR at w;split at w
 .rename_i j _
  by_cases hz: -(2^62)<=j/\j<=10000
  .rw[if_pos hz]at w
   have ey:=r1.int_inv;subst ey;refine⟨j,rfl,λ q hq=>⟨q,j,rfl,aa,hz.1,hz.2,λ l H' s' hl hH'=>?_⟩⟩;have s0:=(s1.trans (bB hq _)).trans s';have hlH:H l=none:=(s1.trans (bB hq _)).free hl;refine w _ H' s0 (.lst hH' (.inl hlH) ?_);rw[vH];exact Rps.ints
  .rw[if_neg hz]at w
   exact zAJ w
 .exact zAJ w
end
def aHG:V->List V->Hp->VK->Prop:=λ x vs H Q=>∃(l:Addr) (S:Int->Bool) (n:Nat) (i:Int),x= .ref l/\vs=[.int i]/\H l=some (.set S n)/\n+1<scanBound/\∀H',jO l H H'->H' l=some (.set (λ k=>S k||decide (k=i)) (if S i=true then n else n+1))->Q .non H'
def aFv:MtM X "set.add" aHG:=by
 intro hV s σ H x vs v us Q I rx rv h;obtain⟨l,S,n,i,rfl,rfl,hH,hn,q⟩:=h;cases rx;obtain⟨u,rfl,ru⟩:=rv.one;obtain⟨t,rfl⟩:=ru;have hS:s.heap.SetOf (zHS X.prog X.w) l S n:=I.hok l _ hH;refine call_set_add (k:=i) (by simp[zHS,zEl]) rfl hS hn λ h' hsb hS'=>⟨.non,_,?_,rfl,q _ (λ b o ne hb=>by rw[bJ ne];exact hb) aa⟩
 refine I.write (x:=l) (e:=l) (by rw[hH];exact trivial) (.inl rfl) (λ b' u hb hu=>(hsb.2 b' hb).trans hu) ?_ hS';obtain⟨o,_,_,_,ho,_⟩:=hS';exact⟨o,ho⟩
def aCZ(ds:List Int)(z:Int):(zBA ds z).length=if decide (z∈ds)=true then ds.length else ds.length+1:=by
 unfold zBA;by_cases h:z∈ds
 .rw[if_pos (by simpa using h),if_pos (by simpa using h)]
 .rw[if_neg (by simpa using h),if_neg (by simpa using h),zAV,zAs]
def v8(ds:List Int)(z k:Int):(decide (k∈ds)||decide (k=z))=decide (k∈zBA ds z):=by
 unfold zBA;rw[zBH];split
 .rename_i h
  have h':z∈ds:=by simpa using h
  simp only[zC0,decide_eq_true_eq];exact⟨λ q=>q.elim id λ e=>e▸h',.inl⟩
 .simp
def zb{z:Int}(nd:ds.Nodup):(zBA ds z).Nodup:=by
 unfold zBA;split
 .exact nd
 .rename_i h
  have h':¬z∈ds:=by simpa using h
  refine zAb.mpr ⟨nd,by simp,λ a ha b hb e=>?_⟩;rw[zAD]at hb;subst hb;subst e;exact h' ha
def aAA(ρ:En)(i:Nat)(ds:List Int):D->Ou
 | .int z=>if ds.length<4000 then .nx (ρ.set i (.ow (.set (zBA ds z))))else .st
 |_=>.st
def aEg(i:Nat)(fe:En->Rs D):En->Ou:=λ ρ=>match ρ[i]? with
 |some (.ow (.set ds))=>(fe ρ).bo λ d=>aAA ρ i ds d
 |_=>.st
section
variable{C:Ct}{pos apos cpos p:Pos}{e:Expr}{fe:En->Rs D}{i:Nat}{x:Str}{m:Mode}
def aCv(i:Nat)(he:SE C m e fe)(hm:okN m=true:=by rfl)(hN:∀j,(C.X j).N[i]? =some x:=by intro _;rfl)(hv:∀j,Vis (C.X j).env.scope x:=by intro _;first|exact zB3 rfl|exact zBD (zB3 rfl)|exact zBD (zBD rfl))(hd:Nd x:=by decide)
  (hcd:(x==("__classdict__":Str))=false:=by decide)(hs1:∀j,zAY [e] (C.X j).env=[(false,eval e (C.X j).env)]:=by intro _;rfl)
  (hbase:∀j,zCU (.Name x p) "add" (C.X j).env (eval (.Name x p) (C.X j).env)=eval (.Name x p) (C.X j).env:=by intro _;rfl)
  (hfew:∀j,((zBx cpos (zAY [e] (C.X j).env)).all (λ x=>!x.1)&&(zDW cpos (zCO [] (C.X j).env)).all (λ x=>x.1.isSome)&&decide ([e].length+([]:List zBj).length+(if ([]:List zBj).isEmpty then 0 else 1)<30))=true:=by intro _;rfl)
  (hline:(apos.endLine==cpos.line)=true:=by rfl)
  (hsw:∀j,zBm (.Call (.Attribute (.Name x p) "add" apos) [e] [] cpos) none pos.line (C.X j).env=pure false:=by intro _;rfl):
  SS C (.Expr (.Call (.Attribute (.Name x p) "add" apos) [e] [] cpos) pos) (aEg i fe):=by
 obtain⟨t,h1,h2⟩:=he;refine⟨rY (tBM C.K "set" aHG (mq i) (gP t jz)),λ j=>jh (by rw[<-C.hK j];exact tG PySem.F.plainAttrs_set PySem.F.slot_set_add PySem.F.type_set_add aFv (fL (hN j) (hv j) hd hcd) (bj (h1 j) dY (hs1 j)) (hbase j) (hfew j) hline (hs1 j) rfl) (hsw j),λ U σ H ρ lab De R W=>?_⟩;unfold aEg at W;cases es:ρ[i]? with
 |none=>rw[es]at W;exact zAJ W
 |some s=>
  rw[es]at W;split at W
  .rename_i ds hs
   cases hs;rcases R.sl i _ es with z|⟨v,ev,hv'⟩
   .cases z
   .obtain⟨hv1,htop⟩:=hv'
    obtain⟨a0,ea0,la0⟩:=htop rfl;subst ea0;cases hv1 with
    |set h mm hS nd=>
     rename_i S;refine⟨.ref a0,ev,.inr (.inr (.inr ⟨rfl,S,_,h⟩)),h2 U σ H ρ lab _ R (W.bo.imp λ d _ w y H2 s2 r2=>?_)⟩;unfold aAA at w;split at w
     .rename_i z _
      by_cases hz:ds.length<4000
      .rw[if_pos hz]at w
       have ey:=r2.int_inv;subst ey;have hb:scanBound=4096:=rfl;refine⟨a0,S,ds.length,z,rfl,rfl,s2 _ _ h,by omega,λ H3 B h3=>?_⟩;refine w σ H3 _ ((R.up s2).mut ev (s2 _ _ h) rfl la0 B ⟨?_,λ _=>⟨a0,rfl,la0⟩⟩);have e1:(if S z=true then ds.length else ds.length+1)=(zBA ds z).length:=by
        rw[hS z];exact(aCZ ds z).symm
       rw[e1]at h3;exact .set h3 (.inr la0) (λ k=>by rw[hS k];exact v8 ds z k) (zb nd)
      .rw[if_neg hz]at w
       exact zAJ w
     .exact zAJ w
  .exact zAJ W
end
def aGx:List V->Hp->VK->Prop:=λ xs H Q=>xs=[]/\∀p,H p=none->Q (.ref p) (upd H p (.set (λ _=>false) 0))
def aC2:cA X (.type "set") aGx:=by
 intro hV s σ H vs us Q I rv h;obtain⟨rfl,q⟩:=h;cases rv;refine call_set_0 λ led=>⟨.ref s.heap.objs.size,_,I.laid (a:=s.heap.objs.size) (o:=.set (λ _=>false) 0) (t':=s.toks) (λ _ _ q=>zAC _ q) (zAU _) ?_,rfl,q _ (I.hok.fresh (zAU _))⟩
 exact⟨_,#[],0,_,zA1 _ rfl,⟨rfl,rfl,rfl⟩,rfl,λ e he=>by simp at he,λ k=>by simp,by decide,by rfl,rfl⟩
def aJZ(neg:Bool):R2:=λ x y H Q=>∃(i:Int) (a:Addr) (S:Int->Bool) (n:Nat),x= .int i/\y= .ref a/\H a=some (.set S n)/\Q (.bl (if neg then !S i else S i)) H
def aFi:OpR X (zAr .NotIn) (aJZ true):=by
 intro hV s σ H x y v u Q I rx ry h;obtain⟨i,a,S,n,rfl,rfl,hH,q⟩:=h;obtain⟨t,rfl⟩:=rx;cases ry;have hS:s.heap.SetOf (zHS X.prog X.w) a S n:=I.hok a _ hH;exact wpAny_notInSet_of (k:=i) (by simp[zHS,zEl]) rfl hS ⟨.bl (!S i),H,I.tok _,rfl,q⟩
def inX(neg:Bool):D->D->Rs D
 | .int i,.set l=>.ok (.bl (if neg then !decide (i∈l)else decide (i∈l)))
 |d,e=>inR neg d e
def aIH{K:zAA}:OpS K (λ x y H Q=>aCD K n x y H Q\/aJZ n x y H Q) (inX n):=by
 intro A x y d e H Q z rx ry ez q;unfold inX at ez;split at ez
 .cases ez
  have ex:=rx.int_inv;subst ex;cases ry with
  |set h m hS nd=>exact .inr ⟨_,_,_,_,rfl,rfl,h,by rw[hS];exact q _ H (aQ.refl H) (.bl _)⟩
 .exact .inl (aDj A x y d e H Q z rx ry ez q)
section
variable{C:Ct}{pos p:Pos}{a b:Expr}{fa fb:En->Rs D}{m1 m2:Mode}
def aBO(ha:SE C m1 a fa)(hb:SE C m2 b fb)(hm:zCD .NotIn b=false:=by with_unfolding_all rfl):ST C (.Compare a [.NotIn] [b] pos) (tsb (op2 (inX true) fa fb)):=jd (λ i=>(C.ninRl i).or aFi) aIH ha hb hm
def aBT(hm:C.mg "set"=none)(hg:∀i,Gl (C.X i) "set":=by intro _;rfl)(hv:zAq "set"=some (.type "set"):=by decide+kernel):SE C (some []) (.Call (.Name "set" p) [] [] pos) (cD (.set [])):=by
 refine⟨tCB aGx jz,λ i=>aA9 aC2 (hg i) (by rw[(C.cx i).2.2.2.1];exact hm) hv,λ U σ H ρ lab Q R W=>?_⟩;exact⟨rfl,λ q hq=>W _ _ (bB hq _) (.set aa (.inl hq) (λ _=>by simp) (by simp))⟩
end
section
variable{prog:zAZ}{w:World}{A:zAd}{E:Value->zAF->Prop}{s:zAF}{r:Addr}{a b c:Int}{t u v:Tok}{n:Nat}
def PR(a c:Int):Nat->Value->Prop:=λ i v=>∃t,v= .int (a+i*c) t
def zj(hh:A.handled=none)(hr:IsRange s.heap r a b c t u v)(hsmall:zBX a b c=true)(hn:zAl a b c=n)(hW:n<=2^24)
  (h:∀h' tk vs,s.heap.objs.size<h'.objs.size->(∀b o,s.heap.get? b=some o->h'.get? b=some o)->vs.length=n->(∀(j:Nat) v,vs[j]? =some v->PR a c j v)->Q vs {s with heap:=h',toks:=tk}):wpAny (model prog w) A (zHQ (.ref r)) Q E s:=by
 unfold zHQ;refine zAR (wpAny_runValue (zDL zE5 ?_));rw[zCd zE6 _];show wpAny _ A.in1 (zFS []>>=λ l=>again (.builtin "list.__iadd__" ⟨[l,.ref r],[]⟩)) _ _ s;refine zAR (zB9 (zA7 ⟨plainId_quiet zCW _,zDL zD6 ?_⟩));rw[zCd zCW _];show wpAny _ A.in1 (zEB (.ref s.heap.objs.size) (.ref r) (.ref s.heap.objs.size)) _ _ _;have fin:∀h' tk acc' c',(∀b o,b≠s.heap.objs.size->(s.heap.push (zBW "list" #[] 0)).get? b=some o->h'.get? b=some o)->h'.get? s.heap.objs.size=some {cls:=.type "list",dict:=none,data:=.seq acc' c',slots:=#[]}->ItemsOf (PR a c) acc' n->
   wpAny (model prog w) A (do match (zBS s.heap.objs.size)with
    | .ref a=>match (<-load a).data with
     | .seq xs _=>pure xs.toList
     |_=>zGB "internal:collect"
    |_=>zGB "internal:collect") Q E {s with heap:=h',toks:=tk}:=λ h' tk acc' c' hk hS' iX=>
  zAR (zHg hS' (zA7 (h h' tk acc'.toList (zA4 hS') (λ b o e=>hk b o (zAn (zA4 e)) (zAC _ e)) (by rw[zBU];exact iX.1) λ j v e=>iX.2 j v (by rw[<-zFo];exact e))))
 refine zBz (wpAny_extend_range (A:=A) (s:={s with heap:=s.heap.push (zBW "list" #[] 0)}) (R:=λ r s'=>∃h' tk acc' c',r= .ok (.ret (.ref s.heap.objs.size))/\s'={s with heap:=h',toks:=tk}/\(∀b o,b≠s.heap.objs.size->(s.heap.push (zBW "list" #[] 0)).get? b=some o->h'.get? b=some o)/\h'.get? s.heap.objs.size=some {cls:=.type "list",dict:=none,data:=.seq acc' c',slots:=#[]}/\ItemsOf (PR a c) acc' n)
  hh (zAC _ hr) hsmall hn hW s.heap.objs.size (.ref s.heap.objs.size) 0 (zA1 _ rfl) (λ h' tk acc' c' hk hS' iX=>⟨h',tk,acc',c',rfl,rfl,hk,hS',iX⟩)) (λ f s' hf=>?_) λ e s' he=>?_
 .cases f with
  |done f=>
   obtain⟨h',tk,acc',c',q1,q2,q3,q4,q5⟩:=hf;cases q1;subst q2;exact fin h' tk acc' c' q3 q4 q5
  |again c=>
   refine⟨hf.1,zEQ hf.2 λ r s' hr=>?_⟩;obtain⟨h',tk,acc',c',q1,q2,q3,q4,q5⟩:=hr;subst q1 q2;exact fin h' tk acc' c' q3 q4 q5
 .obtain⟨h',tk,acc',c',q1,_⟩:=he
  cases q1
end
def jy(r:Addr)(a b c:Int)(t u v:Tok)(n:Nat)(hsmall:zBX a b c=true)(hn:zAl a b c=n)(hW:n<=10000):
  Meets (zDj.«tuple.__new__» ⟨[.type "tuple",.ref r],[]⟩)
   (λ A R s=>A.handled=none/\IsRange s.heap r a b c t u v/\∀(h':Heap) (tk:Nat) (vs:List Value),s.heap.objs.size<h'.objs.size->(∀b o',s.heap.get? b=some o'->h'.get? b=some o')->vs.length=n->(∀(j:Nat) v,vs[j]? =some v->PR a c j v)->
    R (.ok (.ret (.ref h'.objs.size))) {s with heap:=h'.push {cls:=.type "tuple",data:=.seq vs.toArray},toks:=tk}):=
 .of_wp λ prog w A R s h=>by
  obtain⟨hp,g,d,tk,os⟩:=s;obtain⟨hh,ht,h⟩:=h;have bX:=sub_tuple_self;have hinit:=init_tuple_lookup;have hmh:=madeHere_tuple;have hT:Shared.TypeIs ⟨hp,g,d,tk,os⟩ (.ref r) "range":=⟨_,ht,rfl⟩;wp_walk using zCP ht,zFc hT,zj (A:=A.in1) (show A.in1.handled=none from hh) ht hsmall hn (zAc hW (by decide));intro h' tk' vs hlt hk hl hv;show wpAny _ _ (zBT vs.toArray>>=λ v=>ret v) _ _ _;unfold zBT;refine zAR (zB9 ?_ (by show vs.toArray.size<=zAO;rw[zAI,hl,zB1];lia));exact zA7 ⟨_,rfl,h h' tk' vs hlt hk hl hv⟩
def aBZ:List V->Hp->VK->Prop:=λ xs H Q=>∃(p:Addr) (j:Int),xs=[.ref p]/\H p=some (.rng 0 j)/\-(2^62)<=j/\j<=10000/\∀l H',aQ H H'->H l=none->H' l=some (.tup ((gY j).map V.int))->Q (.ref l) H'
def aBx(h1: -(2^62)<=j)(h2:j<=10000):zAl 0 j 1=(j.toNat:Int)/\zBX 0 j 1=true:=by
 have hsz:zAl 0 j 1=(j.toNat:Int):=by
  unfold zAl;simp only[show(1:Int)>0 by decide,if_true];split<;>lia
 refine⟨hsz,?_⟩;have fl:∀x:Int,-(2^62)<=x->x<=2^62->zBL x=true:=λ x hx1 hx2=>by
  unfold zBL;simp;lia
 unfold zBX;rw[hsz,fl 0 (by lia) (by lia),fl j (by lia) (by lia),fl 1 (by lia) (by lia),fl _ (by lia) (by lia),if_pos (by decide),fl (j+(1-1)) (by lia) (by lia),zGE];rfl
def zq(hc:X.calm=true):cA X (.type "tuple") aBZ:=by
 intro hV s σ H vs us Q I rv h;obtain⟨p,j,rfl,hp,h1,h2,q⟩:=h;obtain⟨u,rfl,ru⟩:=rv.one;cases ru;obtain⟨t,u,v,hg⟩:=I.hok p _ hp;obtain⟨hsz,hsm⟩:=aBx h1 h2;refine callType_new zFl (by decide) (zEp _) (zFD _) (λ obj=>zEd obj _) zFC
  (jy p 0 j 1 t u v j.toNat hsm hsz (by lia)) ⟨I.ok.hd hc,hg,λ h' tk vs hlt hk hl hv=>⟨⟨_,zA1 _ rfl,rfl⟩,?_⟩⟩
 have hle:s.heap.objs.size<=h'.objs.size:=zBN hlt;have hv2:Vals ((gY j).map V.int) vs:=by
  have hl2:(gY j).length=vs.length:=by rw[hl];simp[gY]
  refine vp hl2 λ k i hi=>?_
  have hk2:k<vs.length:=by rw[<-hl2];exact(zAM.mp hi).1
  obtain⟨tk,e⟩:=hv k vs[k] (zAE hk2);refine⟨tk,?_⟩;have ei:i=0+(k:Int)*1:=by
   unfold gY at hi;rw[zAT]at hi;cases c:(zAw j.toNat)[k]? with
   |none=>rw[c]at hi;cases hi
   |some m=>
    rw[c]at hi;cases hi
    have:=zAM.mp c
    have:m=k:=by simpa using this.2.symm
    subst this
    show(0:Int)+(m:Int)=0+(m:Int)*1
    lia
  rw[ei,<-e];exact zAE hk2
 have hfr:H h'.objs.size=none:=I.hok.fresh hle;refine⟨.ref h'.objs.size,upd H h'.objs.size (.tup ((gY j).map V.int)),I.laid (t':=tk) (λ b o e=>zAC _ (hk b o e)) hle ⟨⟨?_,NoD.push _⟩,vs,hv2,?_⟩,rfl,q _ _ (bB hfr _) hfr aa⟩
 .simp[gY]
  have:zAO=16777216:=zB1
  lia
 .exact⟨_,zA1 _ rfl,rfl,0,rfl⟩
def trR:D->Rs D
 | .int j=>if -(2^62)<=j/\j<=10000 then .ok (.tup (au 0 j))else .st
 |_=>.st
def trD(fa:En->Rs D):En->Rs D:=λ ρ=>(fa ρ).bd trR
section
variable{C:Ct}{pos pos2 p p2:Pos}{a:Expr}{fa:En->Rs D}{m:Mode}
def aBz(hmL:C.mg "tuple"=none)(hmR:C.mg "range"=none)(ha:SE C m a fa)(hs:∀i,zAY [a] (C.X i).env=[(false,eval a (C.X i).env)]:=by intro _;rfl)(hs2:∀i,zAY [.Call (.Name "range" p2) [a] [] pos2] (C.X i).env=[(false,eval (.Call (.Name "range" p2) [a] [] pos2) (C.X i).env)]:=by intro _;rfl)(hgL:∀i,Gl (C.X i) "tuple":=by intro _;rfl)(hvL:zAq "tuple"=some (.type "tuple"):=by decide+kernel)(hgR:∀i,Gl (C.X i) "range":=by intro _;rfl):SE C (some []) (.Call (.Name "tuple" p) [.Call (.Name "range" p2) [a] [] pos2] [] pos) (trD fa):=by
 obtain⟨t,h1,h2⟩:=ha;refine⟨tCB aBZ (gP (tCB aHl (gP t jz)) jz),λ i=>fY (zq (C.calm i)) (hgL i) (by rw[(C.cx i).2.2.2.1];exact hmL) hvL (bj (fY zr (hgR i) (by rw[(C.cx i).2.2.2.1];exact hmR) zFR (bj (h1 i) dY (hs i)) (by decide) (by decide) (hs i) rfl) dY (hs2 i)) (by decide) (by decide) (hs2 i) rfl,λ U σ H ρ lab Q R W=>?_⟩;refine h2 U σ H ρ lab _ R (W.bd.imp λ d _ w y H1 s1 r1=>?_);unfold trR at w;split at w
 .rename_i j _
  by_cases hz: -(2^62)<=j/\j<=10000
  .rw[if_pos hz]at w
   have ey:=r1.int_inv;subst ey;refine⟨j,rfl,λ q hq=>⟨q,j,rfl,aa,hz.1,hz.2,λ l H' s' hl hH'=>?_⟩⟩;refine w _ H' ((s1.trans (bB hq _)).trans s') (.tup (SqT.of hH') ?_);rw[vH];exact Rps.ints
  .rw[if_neg hz]at w
   exact zAJ w
 .exact zAJ w
end
abbrev Ent:=List Int×Addr×V
section
variable{prog:zAZ}{w:World}{A:zAd}{E:Value->zAF->Prop}{s:zAF}
def xF{Q:Value->zAF->Prop}(hI:zBC vs ns)(h64:vs.length<64)
  (h:∀(out:List Value) h' e,Vals ((sortI ns).map V.int) out->(∀b o,s.heap.get? b=some o->h'.get? b=some o)->h'.get? s.heap.objs.size=some (zBW "list" out.toArray e)->Q (.ref s.heap.objs.size) {s with heap:=h'}):
  wpAny (model prog w) A (zFS vs>>=λ l=>zFw [l] (call (.builtin "list.sort") [l])>>=λ _=>ret l) (λ fin s'=>∃r,fin= .done (.ret r)/\Q r s') E s:=by
 refine zAR (zGh ?_ (by rw[zB1];omega));have hoL:(s.heap.push (zBW "list" vs.toArray 0)).get? s.heap.objs.size=some (zBW "list" vs.toArray 0):=zA1 _ rfl;refine zAR (zDF (zDu slot_list_sort ⟨_,hoL,rfl⟩ entry_list_sort (list_sort_tree (s:={s with heap:=s.heap.push (zBW "list" vs.toArray 0)}) hoL hI h64 λ out ns' a1 a2 a3=>⟨_,rfl,zA7 ⟨_,rfl,?_⟩⟩) (args_list_sort _)));have e:ns'=sortI ns:=zG2 (a2.trans (sortI_perm ns).symm) a3 (jP ns);subst e;have hne:∀b o,s.heap.get? b=some o->b≠s.heap.objs.size:=λ b o e=>zAn (zA4 e)
 have g0:=zDM hoL λ _=>(#[]:Array Value)
 have g1:=zAC (zBW "list" #[] 0) (zAC (zBW "tuple" vs.toArray 0) g0);have g2:=zDM g1 (λ _=>out);refine h out.toList _ _ (jc a1) (λ b o e=>?_) (by rw[zGD];exact g2);unfold zFU;rw[zBt _ _ _ _ (hne b o e)];refine zAC _ (zAC _ ?_);rw[zBt _ _ _ _ (hne b o e)];exact zAC _ e
end
section
theorem ints_of:∀(tks:List (Int×Tok)),zBC (tks.map λ p=>zDI p.1 p.2) (tks.map (·.1))
 |[]=>.nil
 |p::r=>.cons _ _ (ints_of r)
end
abbrev aKN:=List (Str×(List D->Rs D))
def fnOf(tab:aKN):Rs D->Option (List D->Rs D)
 | .ok (.fn x)=>tab.lookup x
 |_=>none
end VL
namespace HT
open PySem PySem.Spec PyProof.Rows
end HT
namespace VL
open PySem PySem.Spec PyProof.Rows L2
end VL
namespace PySem.AutoSeq1
set_option maxRecDepth 8000 in
def aAi(l:Addr)(items:Array Value)(n:Nat)(b:Addr)(items2:Array Value)(n2:Nat)(dd:Option Addr)(sl:Array (Option Value))(hs0:¬(!items.isEmpty&&zBE (items.size+items2.size))=true)(hs1:items.size<=zAO)(hs2:items.size+items2.size<=zAO+1):
  Meets (zDj.«list.extend» ⟨[.ref l,.ref b],[]⟩) (λ _ R s=>s.heap.get? l=some {cls:=.type "list",dict:=none,data:=.seq items n,slots:=#[]}/\s.heap.get? b=some {cls:=.type "tuple",dict:=dd,data:=.seq items2 n2,slots:=sl}/\
   R (.ok (.ret zBV)) {s with heap:=s.heap.update l (zCM λ x=>x++items2),toks:=s.toks}):=
 .of_wp λ prog w A R s h=>by
  obtain⟨hp,g,d,tk,os⟩:=s;obtain⟨hl,hb,h⟩:=h;have f1:=idx_int;have f2:=sub_tuple_tuple;have f3:=sub_list_list;have f4:=sub_tuple_list;have f5:=sub_list_tuple;have hz':(items++items2).size<=zAO+1:=by rw[Array.size_append];exact hs2
  wp_walk using(wpAny_updateSeq hl rfl (hz:=hs1) (_hz':=hz')),zCP hl,zCP hb;exact⟨_,rfl,h⟩
end PySem.AutoSeq1
namespace VL
open PySem PySem.Spec PyProof.Rows L2
def aHD(K:zAA):V->List V->Hp->VK->Prop:=λ x vs H Q=>∃l b xs zs,x= .ref l/\vs=[.ref b]/\H l=some (.lst xs)/\SqT K H b zs/\xs.length+zs.length<=zAO/\∀H',jO l H H'->H' l=some (.lst (xs++zs))->Q .non H'
def aFu:MtM X "list.extend" (aHD X.K):=by
 intro hV s σ H x vs v us Q I rx rv h;obtain⟨l,b,xs,zs,rfl,rfl,hH,hB,hz,q⟩:=h;cases rx;obtain⟨u,rfl,ru⟩:=rv.one;cases ru;obtain⟨z,its,n,r,hl,e⟩:=I.lstM hH;obtain⟨its2,r2,⟨⟨c2,dd,dt,sl⟩,e2,hc2,n2,hd2⟩,z2⟩:=I.tuple hB;replace hc2:c2= .type "tuple":=hc2;replace hd2:dt= .seq its2.toArray n2:=hd2;subst hc2 hd2;have l1:=r.length;have l2:=r2.length;have hsz:its.toArray.size+its2.toArray.size<=zAO:=by rw[zAI,zAI];lia
 have kK:¬(!its.toArray.isEmpty&&zBE (its.toArray.size+its2.toArray.size))=true:=by
  rw[oR hsz,zCR];exact zA5
 refine zBy zCa ⟨_,e,rfl⟩ zGq (zGi _ _) (AutoSeq1.aAi l its.toArray n b its2.toArray n2 dd sl kK (by lia) (by lia)) ⟨e,e2,?_⟩;refine⟨.non,_,I.lset (its':=its++its2) hH e (by simp) (r.append r2) ?_,rfl,q _ (λ b o ne hb=>by rw[bJ ne];exact hb) aa⟩;rw[zAV];lia
section
variable{C:Ct}{pos apos cpos p:Pos}{e:Expr}{fe:En->Rs D}{i:Nat}{x:Str}{m:Mode}
def aCY(ds:List D)(k:List D->Ou):D->Ou
 | .tup es=>if ds.length+es.length<=zAO then k (ds++es)else .st
 |_=>.st
def aG0(i:Nat)(fe:En->Rs D):En->Ou:=λ ρ=>match ρ[i]? with
 |some (.ow (.lst ds))=>(fe ρ).bo (aCY ds λ l=>.nx (ρ.set i (.ow (.lst l))))
 |_=>.st
def sE(i:Nat)(he:SE C m e fe)(hm:okN m=true:=by rfl)(hN:∀j,(C.X j).N[i]? =some x:=by intro _;rfl)(hv:∀j,Vis (C.X j).env.scope x:=by intro _;first|exact zB3 rfl|exact zBD (zB3 rfl)|exact zBD (zBD rfl))(hd:Nd x:=by decide)
  (hcd:(x==("__classdict__":Str))=false:=by decide)(hs1:∀j,zAY [e] (C.X j).env=[(false,eval e (C.X j).env)]:=by intro _;rfl)
  (hbase:∀j,zCU (.Name x p) "extend" (C.X j).env (eval (.Name x p) (C.X j).env)=eval (.Name x p) (C.X j).env:=by intro _;rfl)
  (hfew:∀j,((zBx cpos (zAY [e] (C.X j).env)).all (λ x=>!x.1)&&(zDW cpos (zCO [] (C.X j).env)).all (λ x=>x.1.isSome)&&decide ([e].length+([]:List zBj).length+(if ([]:List zBj).isEmpty then 0 else 1)<30))=true:=by intro _;rfl)
  (hline:(apos.endLine==cpos.line)=true:=by rfl)
  (hsw:∀j,zBm (.Call (.Attribute (.Name x p) "extend" apos) [e] [] cpos) none pos.line (C.X j).env=pure false:=by intro _;rfl):
  SS C (.Expr (.Call (.Attribute (.Name x p) "extend" apos) [e] [] cpos) pos) (aG0 i fe):=by
 obtain⟨t,h1,h2⟩:=he;refine⟨rY (tBM C.K "list" (aHD C.K) (mq i) (gP t jz)),λ j=>jh (by rw[<-C.hK j];exact tG zBZ zCa zEq aFu (fL (hN j) (hv j) hd hcd) (bj (h1 j) dY (hs1 j)) (hbase j) (hfew j) hline (hs1 j) rfl) (hsw j),λ U σ H ρ lab De R W=>?_⟩;unfold aG0 at W;cases es:ρ[i]? with
 |none=>rw[es]at W;exact zAJ W
 |some s=>
  rw[es]at W;split at W
  .rename_i ds hs
   cases hs;rcases R.sl i _ es with z|⟨v,ev,hv'⟩
   .cases z
   .obtain⟨hv1,htop⟩:=hv'
    obtain⟨a0,ea0,la0⟩:=htop rfl;subst ea0;obtain⟨a1,xs,ea1,h,mm,r⟩:=hv1.lst_inv;cases ea1;refine⟨.ref a0,ev,.inl ⟨rfl,xs,SqL.of h⟩,h2 U σ H ρ lab _ R (W.bo.imp λ d _ w y H2 s2 r2=>?_)⟩;cases d with
    |tup es'=>
     dsimp only[aCY]at w;by_cases hz:ds.length+es'.length<=zAO
     .rw[if_pos hz]at w
      obtain⟨R',r'⟩:=R.fresh (P:=λ k=>k=1) rfl (λ k hk=>beq_iff_eq.mp (ji hm k hk)) s2 r2;have la:(bR H 1 lab a0).1=i+2:=by rw[bD h];exact la0
      obtain⟨b,zs,rfl,hb,rb⟩:=r'.tup_inv;refine⟨a0,b,xs,zs,rfl,rfl,s2 _ _ h,hb,by rw[r.length,rb.length];exact hz,λ H3 B h3=>?_⟩;refine w σ H3 _ (R'.mut ev (s2 _ _ h) rfl la B ⟨.lst h3 (.inr la) ?_,λ _=>⟨a0,rfl,la⟩⟩);have ra:Rps C.K (λ p=>((bR H 1 lab p).1=1\/(bR H 1 lab p).1=i+2)/\p≠a0) H2 (xs++zs) (ds++es'):=by
       refine(r.mono s2 λ p o e z=>⟨by rw[bD e];exact z.1,z.2⟩).append (rb.wk λ p o e z=>⟨.inl z,λ q=>?_⟩);subst q;have z1:(bR H 1 lab p).1=1:=z;lia
      exact ra.but B (s2 _ _ h) rfl λ z=>z.2 rfl
     .rw[if_neg hz]at w
      exact zAJ w
    |_=>exact zAJ w
  .exact zAJ W
end
def Enr(K:zAA)(x:Str)(st:Stmt)(f:Addr)(fd:zAf):Prop:=L2.Fun K x x st f fd/\zAt K zA8 x=some (some (.ref f))
def enr{K:zAA}{st:Stmt}{oc kV dc pm cd ct:Value}(a:zAt K zA8 x=some (some (.ref f)))
  (l:K.lookup f=some ⟨oc,od,.func (zBo x x (mD st) (gO st) (aO st) .none kV dc pm an cd ct),sl⟩)(c:zCw K cd x=true)(k:zC5 K (.ref f)=true):∃f fd,Enr K x st f fd:=⟨f,_,aIq (st:=st) l c k,a⟩
structure Dnr(K:zAA)(mg:Str->Option Value)(x:Str)(st:Stmt)(ps:List Str)(f:Addr)(d:zAf):Prop where
 F:L2.Fun K x x st f d
 m:mg x=some (.ref f)
 b:L2.Binds K d ps []
section
variable{C:Ct}
def aZ{st:Stmt}(hF:cB C.prog C.w C.K C.mg C.base (CX1 C.prog C.w) k fn fd ps (spF C.K C.G.cl n F))(D:Dnr C.K C.mg x st ps fn fd)(ha:SA C m (e::es) ga)(hr:k<=C.k:=by exact Nat.le_of_ble_eq_true rfl)(hg:∀i,Gl (C.X i) x:=by intro _;rfl)
  (hn:∀ρ ds,ga ρ= .ok ds->ds.length=n:=by repeat (first|exact λ _ _ h=>aGB h|apply aDv))(hdb:Nd x:=by decide)(he:∀i,zAY (e::es) (C.X i).env=(false,eval e (C.X i).env)::zAY es (C.X i).env:=by intro _;rfl)
  (hpl:∀i,(zBx pos (zAY es (C.X i).env)).any (·.1)=false:=by intro _;rfl):SE C (some []) (.Call (.Name x p) (e::es) [] pos) (aU F ga):=aFN hF hr D.m D.F.kp D.b ha hn hdb he hpl hg
end
def bF{P:zAZ}{w:World}{K:zAA}{st:Stmt}(D:Dnr K mg q st ps fn fd)(S:aY N ps (aO st))(hb:N.Nodup->∀cdv A outer s H E hr,SSs (ctD P w K mg base N q (aO st) fn cdv A outer s H E k hr) (gO st) f)(hn:ps.length=n:=by rfl)(hF:du N.length f=FF:=by rfl):
  cB P w K mg base (CX1 P w) (k+1) fn fd ps (spF K (bU mg) n FF):=aGZ D.F S (hb S.nd) hn hF
def aBD(items:Array Value)(nss:Nat->List Int)(h:Heap):Prop:=∀i v,items[i]? =some v->∃x its,v= .ref x/\IsTup h x its/\zBC its.toList (nss i)
def aA1(items:Array Value):List Addr:=items.toList.filterMap λ v=>match v with| .ref x=>some x|_=>none
def aA0{items:Array Value}{i:Nat}(h:items[i]? =some (zBS x)):x∈aA1 items:=by
 unfold aA1;rw[zCC];exact⟨.ref x,by have:=zA9 (l:=items.toList) (i:=i) (by simpa using h);exact this,rfl⟩
def aBD.keep(T:aBD items nss h)(k:∀b∈aA1 items,∀o,h.get? b=some o->h'.get? b=some o):aBD items nss h':=λ i v e=>by
 obtain⟨x,its,rfl,⟨o,h1,h2⟩,h3⟩:=T i v e;exact⟨x,its,rfl,⟨o,k x (aA0 e) o h1,h2⟩,h3⟩
def mV(ks vs:List D):Option (List (Int×D)):=match intsOf ks with
 |some is=>if is.length=vs.length then some (is.zip vs)else none
 |none=>none
def xV(ps:List (Int×D)):D:=.dct (ps.map λ p=>.int p.1) (ps.map (·.2))
def aA7(h:mV ks vs=some ps):ks=ps.map (λ p=>.int p.1)/\vs=ps.map (·.2):=by
 unfold mV at h;split at h
 .rename_i is hi
  split at h
  .rename_i hl
   cases h;refine⟨?_,?_⟩
   .rw[dG hi,show(λ p:Int×D=>D.int p.1)=(λ i=>D.int i)∘zDp from rfl,<-zAe,zGv (by lia)]
   .rw[zGw (by lia)]
  .cases h
 .cases h
theorem aCe:∀ps:List (Int×D),(ps.map (·.1)).zip (ps.map (·.2))=ps
 |[]=>rfl
 |p::ps=>by rw[zAH,zAH,zBY,aCe ps]
def vL(ps:List (Int×D)):mV (ps.map λ p=>.int p.1) (ps.map (·.2))=some ps:=by
 unfold mV;have e:intsOf (ps.map λ p=>D.int p.1)=some (ps.map (·.1)):=by
  rw[show(ps.map λ p=>D.int p.1)=(ps.map (·.1)).map D.int by rw[zAe];rfl];exact dH _
 rw[e];dsimp only;rw[if_pos (by rw[zAB,zAB]),aCe]
def Rp.dctI_inv{K:zAA}(r:Rp K A H v (.dct ks vs))(h:mV ks vs=some ps):
  ∃a kvs,v= .ref a/\H a=some (.dK kvs)/\A a/\Rps K (λ p=>A p/\p≠a) H (kvs.map (·.2)) (ps.map (·.2))/\kvs.map (·.1)=ps.map λ p=>(zCH p.1:Key):=by
 obtain⟨h1,h2⟩:=aA7 h;generalize hd:D.dct ks vs=d at r;cases r with
 |dK hh m r=>
  rename_i kvs ds;injection hd with q1 q2
  subst q2;refine⟨_,kvs,rfl,hh,m,by rw[<-h2];exact r,?_⟩;rw[h1]at q1;clear r h h1 h2 hh;induction kvs generalizing ps with
  |nil=>cases ps with
   |nil=>rfl
   |cons _ _=>cases q1
  |cons p kvs ih=>cases ps with
   |nil=>cases q1
   |cons q ps=>
    obtain⟨p1,p2⟩:=p;rw[zAH,zAH]at q1;injection q1 with q3 q4
    rw[zAH,zAH,ih q4];cases p1 with
    |inl i=>injection q3 with q3;rw[q3]
    |inr x=>cases q3
 |dT hh m r=>
  injection hd with q1 q2
  rw[h1]at q1;cases ps<;>cases q1
 |_=>cases hd
def aA4(ps:List (Int×D))(i:Int)(d:D):List (Int×D):=if (ps.any λ p=>decide (p.1=i))=true then ps.map (λ p=>if p.1=i then(p.1,d)else p)else ps++[(i,d)]
theorem aEd:∀{kvs:List (Key×V)} {ps:List (Int×D)} {i:Int},(kvs.map (·.1)=ps.map λ p=>(zCH p.1:Key))->(kvs.any λ kv=>decide (kv.1=(.inl i:Key)))=ps.any λ p=>decide (p.1=i)
 |[],[],_,_=>rfl
 |[],_::_,_,e=>by cases e
 |_::_,[],_,e=>by cases e
 |(p1,p2)::kvs,q::ps,i,e=>by
  rw[zAH,zAH]at e;injection e with e1 e2
  replace e1:p1= .inl q.1:=e1;subst e1;rw[zC2,zC2,aEd e2];simp
theorem aDQ{K:zAA}{i:Int}{v:V}{d:D}(h:Rp K A H v d):∀{kvs:List (Key×V)} {ps:List (Int×D)},Rps K A H (kvs.map (·.2)) (ps.map (·.2))->(kvs.map (·.1)=ps.map λ p=>(zCH p.1:Key))->
  Rps K A H ((kvs.map λ kv=>if kv.1= .inl i then(kv.1,v)else kv).map (·.2)) ((ps.map λ p=>if p.1=i then(p.1,d)else p).map (·.2))/\((kvs.map λ kv=>if kv.1= .inl i then(kv.1,v)else kv).map (·.1)=(ps.map λ p=>if p.1=i then(p.1,d)else p).map λ p=>(zCH p.1:Key))
 |[],[],_,_=>⟨.nil,rfl⟩
 |[],_::_,_,e=>by cases e
 |_::_,[],_,e=>by cases e
 |(p1,p2)::kvs,(q1,q2)::ps,r,e=>by
  rw[zAH,zAH]at e;injection e with e1 e2
  replace e1:p1= .inl q1:=e1;subst e1;rw[zAH,zAH]at r;cases r with
  |cons h1 r1=>
   obtain⟨z1,z2⟩:=aDQ h r1 e2;rw[zAH,zAH,zAH,zAH,zAH,zAH,z2];by_cases c:q1=i
   .subst c
    rw[if_pos rfl,if_pos rfl];exact⟨.cons h z1,rfl⟩
   .rw[if_neg (show¬((zCH q1:Key),p2).1=zCH i by simpa using c),if_neg (show¬(q1,q2).1=i from c)]
    exact⟨.cons h1 z1,rfl⟩
def aHq{K:zAA}{kvs:List (Key×V)}{ps:List (Int×D)}{i:Int}{v:V}{d:D}(r:Rps K A H (kvs.map (·.2)) (ps.map (·.2)))(e:kvs.map (·.1)=ps.map λ p=>(zCH p.1:Key))(h:Rp K A H v d):
  Rps K A H ((putK kvs (.inl i) v).map (·.2)) ((aA4 ps i d).map (·.2))/\(putK kvs (.inl i) v).map (·.1)=(aA4 ps i d).map λ p=>(zCH p.1:Key):=by
 unfold putK aA4;rw[aEd e];split
 .exact aDQ h r e
 .rw[zAW,zAW,zAW,zAW,e]
  exact⟨r.append (.cons h .nil),rfl⟩
def aG3{K:zAA}{kvs:List (Key×V)}{ps:List (Int×D)}(h:H a=some (.dK kvs))(m:A a)(r:Rps K (λ p=>A p/\p≠a) H (kvs.map (·.2)) (ps.map (·.2)))(e:kvs.map (·.1)=ps.map λ p=>(zCH p.1:Key)):Rp K A H (.ref a) (xV ps):=by
 have e1:(kvs.map λ p=>kD p.1)=ps.map λ p=>.int p.1:=by
  rw[show(kvs.map λ p=>kD p.1)=(kvs.map (·.1)).map kD by rw[zAe];rfl,e,zAe];rfl
 have:=Rp.dK h m r
 rw[e1]at this;exact this
def vK:D->D->Option (List (Int×D)×Int)
 | .dct ks vs,.int i=>(mV ks vs).map λ ps=>(ps,i)
 |_,_=>none
def pdS(i:Nat)(fk fe:En->Rs D):En->Ou:=λ ρ=>match ρ[i]? with
 |some (.ow c)=>(fe ρ).bo λ d=>(fk ρ).bo λ k=>match vK c k with
  |some (ps,j)=>if ps.length<zAO then .nx (ρ.set i (.ow (xV (aA4 ps j d))))else .st
  |none=>.st
 |_=>.st
def aA6(h:vK c k=some (ps,j)):∃ks vs,c= .dct ks vs/\k= .int j/\mV ks vs=some ps:=by
 unfold vK at h;split at h
 .rename_i ks vs i
  cases hp:mV ks vs with
  |none=>rw[hp]at h;cases h
  |some ps'=>rw[hp]at h;cases h;exact⟨ks,vs,rfl,rfl,hp⟩
 .cases h
section
variable{C:Ct}{pos tpos p:Pos}{ek e:Expr}{fk fe:En->Rs D}{x:Str}{m m1:Mode}
def aEv(i:Nat)(hk:SE C m1 ek fk)(he:SE C m e fe)(hm:okN m=true:=by rfl)(hN:∀j,(C.X j).N[i]? =some x:=by intro _;rfl)(hv:∀j,Vis (C.X j).env.scope x:=by intro _;first|exact zB3 rfl|exact zBD (zB3 rfl)|exact zBD (zBD rfl))(hd:Nd x:=by decide)
  (hcd:(x==("__classdict__":Str))=false:=by decide)(hs:∀j,zBm e (some (.Subscript (.Name x p) ek tpos)) pos.line (C.X j).env=pure false:=by intro _;rfl):
  SS C (.Assign [.Subscript (.Name x p) ek tpos] e pos) (pdS i fk fe):=by
 obtain⟨tk,k1,k2⟩:=hk;obtain⟨te,e1,e2⟩:=he;refine⟨aGu (mq i) tk te,λ j=>aFW (by have:=(C.room j).un;lia) (fL (hN j) (hv j) hd hcd) (k1 j) (e1 j) (hs j),λ U σ H ρ lab De R W=>?_⟩;unfold pdS at W;cases es:ρ[i]? with
 |none=>rw[es]at W;exact zAJ W
 |some s=>
  rw[es]at W;split at W
  .rename_i c hs
   cases hs;rcases R.sl i _ es with z|⟨v,ev,hv'⟩
   .cases z
   .obtain⟨hv1,htop⟩:=hv'
    refine e2 U σ H ρ lab _ R (W.bo.imp λ d _ w0 y H2 s2 r2=>⟨v,ev,?_⟩);refine k2 U σ H2 ρ lab _ (R.up s2) (w0.bo.imp λ k _ w kv H3 s3 r3=>?_);clear w0;cases hj:vK c k with
    |none=>rw[hj]at w;exact zAJ w
    |some q=>
     obtain⟨ps,j⟩:=q;rw[hj]at w;dsimp only at w;obtain⟨ks,vs,rfl,rfl,hp⟩:=aA6 hj;obtain⟨a0,ea0,la0⟩:=htop rfl;subst ea0;have ey:=r3.int_inv;subst ey;obtain⟨a1,kvs,ea,h,mm,r,hk⟩:=hv1.dctI_inv hp;cases ea;by_cases hz:ps.length<zAO
     .rw[if_pos hz]at w
      have hW:kvs.length=ps.length:=by have:=congrArg zG0 hk;simpa using this
      have h3:H3 a0=some (.dK kvs):=(s2.trans s3) _ _ h;refine⟨a0,_,rfl,aEn.k (k:=.inl j) (v:=y) h3 (by rw[hW];exact hz),?_⟩;obtain⟨R',r'⟩:=R.fresh (P:=λ k=>k=1) rfl (λ k hk=>beq_iff_eq.mp (ji hm k hk)) s2 r2;have la:(bR H 1 lab a0).1=i+2:=by rw[bD h];exact la0
      have B:jO a0 H3 (upd H3 a0 (.dK (putK kvs (.inl j) y))):=λ b' o ne hb=>by rw[bJ ne];exact hb
      obtain⟨q1,q2⟩:=aHq (i:=j) (A:=λ p=>((bR H 1 lab p).1=1\/(bR H 1 lab p).1=i+2)/\p≠a0) (r.mono (s2.trans s3) λ p o e z=>⟨by rw[bD e];exact z.1,z.2⟩) hk ((r'.up s3).wk λ p o e z=>⟨.inl z,λ q=>by subst q;rw[la]at z;lia⟩);refine w σ _ _ ((R'.up s3).mut ev h3 rfl la B ⟨aG3 aa (.inr la) (q1.but B h3 rfl λ z=>z.2 rfl) q2,λ _=>⟨a0,rfl,la⟩⟩)
     .rw[if_neg hz]at w
      exact zAJ w
  .exact zAJ W
end
def qD(l:List D):D->Rs D
 | .int i=>match intsOf l with
  |some is=>.ok (.int (is.countP λ a=>a==i:Nat))
  |none=>.st
 |_=>.st
def isL:D->Option (List D)
 | .lst l=>some l
 |_=>none
def opL(fd:List D->D->Rs D)(fo fe:En->Rs D):En->Rs D:=λ ρ=>(fo ρ).bd λ d=>match isL d with
 |some l=>(fe ρ).bd λ e=>okD (fd l e)
 |none=>.st
theorem vJ{H:Hp}:∀is:List Int,L2.iy H (is.map V.int) (is.map L2.D.int)
 |[]=>.nil
 |i::is=>.cons (.int i) (vJ is)
theorem aAz:∀is:List Int,L2.bZ (is.map L2.D.int)=0/\L2.aV (is.map L2.D.int)=true
 |[]=>⟨rfl,rfl⟩
 |i::is=>by
  obtain⟨h1,h2⟩:=aAz is;simp[L2.bZ,L2.gm,L2.aV,L2.aP,h1,h2]
def aDu{K:zAA}(r:Rp K A H x (.lst l))(h:intsOf l=some is):∃a,x= .ref a/\H a=some (.lst (is.map V.int)):=by
 rw[dG h]at r;obtain⟨a,xs,rfl,h1,_,r1⟩:=r.lst_inv;have e:=r1.ints_of;subst e;exact⟨a,rfl,h1⟩
section
variable{C:Ct}{m m1:Mode}{o e:Expr}{fo fe:En->Rs D}{apos cpos:Pos}
def yX(ho:SE C m o fo)(he:SE C m1 e fe)(hs1:∀j,zAY [e] (C.X j).env=[(false,eval e (C.X j).env)]:=by intro _;rfl)(hbase:∀j,zCU o "count" (C.X j).env (eval o (C.X j).env)=eval o (C.X j).env:=by intro _;rfl)
  (hfew:∀j,((zBx cpos (zAY [e] (C.X j).env)).all (λ x=>!x.1)&&(zDW cpos (zCO [] (C.X j).env)).all (λ x=>x.1.isSome)&&decide ([e].length+([]:List zBj).length+(if ([]:List zBj).isEmpty then 0 else 1)<30))=true:=by intro _;rfl)
  (hline:(apos.endLine==cpos.line)=true:=by rfl):SE C (some []) (.Call (.Attribute o "count" apos) [e] [] cpos) (opL qD fo fe):=by
 obtain⟨t,h1,h2⟩:=ho;obtain⟨u,k1,k2⟩:=he;refine⟨tBM C.K "list" aB0 t (gP u jz),λ j=>by rw[<-C.hK j];exact tG zBZ zFE PySem.F.type_list_count (aCN (by have:=(C.room j).un;lia)) (h1 j) (bj (k1 j) dY (hs1 j)) (hbase j) (hfew j) hline (hs1 j) rfl,λ U σ H ρ lab Q R W=>?_⟩;refine h2 U σ H ρ lab _ R (W.bd.imp λ d _ w x H1 s1 r1=>?_);cases d with
 |lst l=>
  obtain⟨a,xs,rfl,ha,_⟩:=r1.lst_inv;replace w:WR C.G ((fe ρ).bd λ e=>okD (qD l e)) (QE C.K (some []) lab H Q):=w;refine⟨.inl ⟨rfl,xs,SqL.of ha⟩,k2 U σ H1 ρ lab _ (R.up s1) (w.bd.imp λ e _ w y H2 s2 r2=>?_)⟩;obtain⟨z,ez,wz⟩:=w.okD;cases e with
  |int i=>
   unfold qD at ez;dsimp only at ez;cases hi:intsOf l with
   |none=>rw[hi]at ez;cases ez
   |some is=>
    rw[hi]at ez;dsimp only at ez;have ey:=r2.int_inv;subst ey;obtain⟨a',ea,hl⟩:=aDu (r1.up s2) hi;cases ea;cases ez;refine⟨a,.int i,.int i,is.map L2.D.int,rfl,rfl,.lst hl (vJ is),.int i,by rw[(aAz is).1];decide,rfl,(aAz is).2,?_⟩;rw[List.countP_map];exact wz _ H2 (s1.trans s2) (.int _)
  |_=>cases ez
 |_=>exact zAJ w
end
def aC9{X:Cx}:cA X (.type "int") (λ xs H Q=>∃b,xs=[.bl b]/\Q (.int (if b=true then 1 else 0)) H):=by
 intro hV s σ H xs us Q I r h;obtain⟨b,rfl,q⟩:=h;obtain⟨u,rfl,r1⟩:=vals1 r;cases r1;exact call_int_bool ⟨.int _,H,I.tok _,⟨_,rfl⟩,q⟩
def lJ:List D->Rs D
 |[.bl b]=>.ok (.int (if b=true then 1 else 0))
 |_=>.st
def aG6{K:zAA}:pG K (λ xs H Q=>∃b,xs=[.bl b]/\Q (.int (if b=true then 1 else 0)) H) lJ:=by
 intro A xs ds H Q z r ez q;unfold lJ at ez;split at ez
 .cases ez
  cases r with
  |cons h' r=>cases h';cases r;exact⟨_,rfl,q _ H (aQ.refl H) (.int _)⟩
 .cases ez
def aEN:∀x z,lJ x= .ok z->imm z=true:=by
 intro x z e;unfold lJ at e;split at e
 .cases e;rfl
 .cases e
section
variable{C:Ct}{pos p:Pos}{m:Mode}{a:Expr}{ga:En->Rs (List D)}
def aFK(hm:C.mg "int"=none)(ha:SA C m [a] ga)(he:∀i,zAY [a] (C.X i).env=[(false,eval a (C.X i).env)]:=by intro _;rfl)(hg:∀i,Gl (C.X i) "int":=by intro _;rfl)(hv:zAq "int"=some (.type "int"):=by decide+kernel):SE C (some []) (.Call (.Name "int" p) [a] [] pos) (opA lJ ga):=
 fW (yc (λ i=>aC9) aG6 hg hm hv ha (by decide) (by decide) he) λ _ _ h=>lz aEN h
end
end VL
namespace PySem
open Sem(wp)
section
variable{prog:zAZ}{w:World}
inductive yI{K:Type}[DecidableEq K](knd:KeyKind prog w K)(h:Heap):List Value->List (K×Value)->Prop where
 |nil:yI knd h [] []
 |cons {x:Addr} {o:Obj} {n:Nat} {kv v:Value} {k:K} {us:List Value} {ps:List (K×Value)} (ho:h.get? x=some o) (hc:o.cls= .type "tuple") (hd:o.data= .seq #[kv,v] n) (hk:knd.is k kv=true) (r:yI knd h us ps):yI knd h (.ref x::us) ((k,v)::ps)
end
end PySem
namespace VL
open PySem PySem.Spec PyProof.Rows L2
section
variable{K:Type}[DecidableEq K]
end
end VL
namespace L2
open PySem PySem.Spec PyProof.Rows
section
variable{X:Cx}{n0 n1 n2 odd:Str}{c1 c2:V}{k1 k2 k3 k4:List V}{l1 l2:List Str}{a1 a2:Expr}{as1 as2 e1 e2 e3 e4 w1 w2:List Expr}{kw1 kw2:List zBj}{Q:VK}{H:Hp}{vs:List V}
 {p1 p2 p3 p4 p5 p6 p7 p8 p9 p10 p11 p12 p13 p14 p15 p16 p17 p18 p19 p20 p21 p22 p23 p24 p25 p26 p27 p28 p29 p30 p31 p32 p33 p34 p35 p36 p37 p38 p39 p40:Pos}{q1 q2 q3 q4 q5 q6 q7:Pos}{j1 j2 j3 j4 j5:Nat}{E0:XK}{wd:Addr->Option Str}
end
section
variable{P:zAZ}{w:World}{K:zAA}{mg:Str->Option Value}{base:Heap}{x q n0 n1 n2 odd:Str}{st:Stmt}{f:Addr}{fd:zAf}{k:Nat}{wd:Addr->Option Str}{c1 c2:V}{k1 k2 k3 k4:List V}{l1 l2:List Str}{a1 a2:Expr}{as1 as2 e1 e2 e3 e4 w1 w2:List Expr}{kw1 kw2:List zBj}
 {p1 p2 p3 p4 p5 p6 p7 p8 p9 p10 p11 p12 p13 p14 p15 p16 p17 p18 p19 p20 p21 p22 p23 p24 p25 p26 p27 p28 p29 p30 p31 p32 p33 p34 p35 p36 p37 p38 p39 p40:Pos}{q1 q2 q3 q4 q5 q6 q7:Pos}{j1 j2 j3 j4 j5:Nat}
end
section
variable{X:Cx}{n0 n1 n2 odd:Str}{c1 c2:V}{k1 k2 k3 k4:List V}{l1 l2:List Str}{a1 a2:Expr}{as1 as2 e1 e2 e3 e4 w1 w2:List Expr}{kw1 kw2:List zBj}{Q:VK}{H:Hp}{vs:List V}
 {p1 p2 p3 p4 p5 p6 p7 p8 p9 p10 p11 p12 p13 p14 p15 p16 p17 p18 p19 p20 p21 p22 p23 p24 p25 p26 p27 p28 p29 p30 p31 p32 p33 p34 p35 p36 p37 p38 p39 p40:Pos}{q1 q2 q3 q4 q5 q6 q7:Pos}{j1 j2 j3 j4 j5:Nat}{E0:XK}{wd:Addr->Option Str}
end
section
variable{P:zAZ}{w:World}{K:zAA}{mg:Str->Option Value}{base:Heap}{x q n0 n1 n2 odd:Str}{st:Stmt}{f:Addr}{fd:zAf}{k:Nat}{wd:Addr->Option Str}{c1 c2:V}{k1 k2 k3 k4:List V}{l1 l2:List Str}{a1 a2:Expr}{as1 as2 e1 e2 e3 e4 w1 w2:List Expr}{kw1 kw2:List zBj}
 {p1 p2 p3 p4 p5 p6 p7 p8 p9 p10 p11 p12 p13 p14 p15 p16 p17 p18 p19 p20 p21 p22 p23 p24 p25 p26 p27 p28 p29 p30 p31 p32 p33 p34 p35 p36 p37 p38 p39 p40:Pos}{q1 q2 q3 q4 q5 q6 q7:Pos}{j1 j2 j3 j4 j5:Nat}
end
end L2
namespace VL
open PySem PySem.Spec PyProof.Rows L2
def dnr{K:zAA}{h:Heap}{mg:Str->Option Value}{x:Str}{st:Stmt}(X:K.In h)(G:h.Ns zA8 mg)(e:∃f d,Enr K x st f d)(ps:List Str)
  (hb:∀(kV doc pm:Value) (an:Option Addr) (cdv ct:Value) (us:List Value),us.length=ps.length->bindArgs (zBo x x (mD st) (gO st) (aO st) .none kV doc pm an cdv ct) ⟨us,[]⟩=pure (ps.zip us):=by
   intro _ _ _ _ _ _ us hl;repeat' first|rfl|(simp at hl;done)|rcases us with _|⟨_,us⟩):∃f d,Dnr K mg x st ps f d/\zAt K zA8 x=some (some (.ref f)):=by
 obtain⟨f,d,F,a⟩:=e;exact⟨f,d,⟨F,zCE X G a,F.binds hb⟩,a⟩
def aBY:D->Rs D
 | .lst l=>.ok (.lst l.reverse)
 |_=>.st
def aGn(K:zAA)(te:TE):TE:=λ σ H Q=>te σ H λ x H1=>∃a xs,x= .ref a/\SqL K H1 a xs/\∀p,H1 p=none->Q (.ref p) (upd H1 p (.lst xs.reverse))
def aF3{X:Cx}(he:PE X e te):PE X (.Subscript e (.Slice none none (some (.UnaryOp .USub (.Constant (.int 1) j p3) p4)) p2) pos) (aGn X.K te):=by
 intro hV s σ H Q I h;refine zHb (thn (he hV s σ H _ I h) λ v s1 ⟨x,H1,I1,r1,q1⟩=>?_);obtain⟨a,xs,rfl,hx,q⟩:=q1;cases r1;have hm:PE X (.UnaryOp .USub (.Constant (.int 1) j p3) p4) (tUn (rU λ i=>.int (-i)) (tC (.int 1))):=aJ2 aHU aD9;refine wpAny_Slice ?_;rw[zGc];refine zA7 (zA7 ?_);rw[evalPart_some];refine thn (hm hV s1 σ H1 (λ z H2=>z= .int (-1)/\H2=H1) I1 ⟨1,rfl,rfl,rfl⟩) λ u s2 ⟨z,H2,I2,r2,ez,eH⟩=>?_
 subst ez eH;obtain⟨tk,rfl⟩:=r2;have I4:Inv X hV σ H2 {s2 with heap:=s2.heap.push {cls:=.type "slice",data:=.fields #[.none,.none,.int (-1) tk]}}:=I2.kept (t':=s2.toks) λ b ob q=>zAC _ q
 obtain⟨its,r,ht,hz⟩:=I4.list hx;have hW:its.toArray.size=xs.length:=by rw[zAI];exact r.length.symm
 show wpAny (model X.prog X.w) X.A (zGf e _ (.ref a) (.ref s2.heap.objs.size)) (EP X hV σ Q) X.xe _;refine tail_any (ops:=[.ref a,.ref s2.heap.objs.size]) ht.isList.typeIs zFT.lookup ?_ (by with_unfolding_all rfl);refine zG5 ht.isList (zEi ..) .none .none (.int _ _) (by decide) ?_ (by rw[hW];exact hz);rw[PySem.W.krv_pick];refine⟨.ref _,_,I4.laid (t':=s2.toks) (o:=.lst xs.reverse) (λ b ob q=>zAC _ q) (zAU _) ?_,rfl,q _ (I4.hok.fresh (zAU _))⟩;exact⟨by rw[zEJ];exact hz,_,0,r.reverse,zA1 _ rfl⟩
section
variable{C:Ct}{pos p2 p3 p4:Pos}{m:Mode}{e:Expr}{fe:En->Rs D}
def aFF(h:SE C m e fe):SE C m (.Subscript e (.Slice none none (some (.UnaryOp .USub (.Constant (.int 1) j p3) p4)) p2) pos) (op1 aBY fe):=by
 obtain⟨t,h1,h2⟩:=h;refine⟨aGn C.K t,λ i=>by rw[<-C.hK i];exact aF3 (h1 i),λ U σ H ρ lab Q R W=>h2 U σ H ρ lab _ R (W.bd.imp λ d _ w x H1 s1 r1=>?_)⟩;obtain⟨z,ez,w⟩:=w.okD;cases d with
 |lst l=>
  cases ez;obtain⟨a,xs,rfl,h,mm,r⟩:=r1.lst_inv;exact⟨a,xs,rfl,SqL.of h,λ p hp=>w _ _ (s1.trans (bB hp _)) (.lst aa (.inl (s1.free hp)) ((r.reverse.wk λ q o e z=>⟨z.1,λ e'=>by subst e';rw[hp]at e;cases e⟩).up (bB hp _)))⟩
 |_=>cases ez
end
end VL
namespace L2
open PySem PySem.Spec PyProof.Rows
end L2
namespace VL
open PySem PySem.Spec PyProof.Rows L2
theorem KV.at:∀{kvs:List (Key×V)} {vs:List (Key×Value)},KV kvs vs->vs.map (·.1)=kvs.map (·.1)
 |_,_,.nil=>rfl
 |_,_,.cons e r=>by rw[zAH,zAH,KV.at r,e.1]
def aKj(A:zAd)(s:zAF)(v u:Value)(b:Bool):Prop:=∀(prog:zAZ) (w:World) (E:Value->zAF->Prop) (Q:Value->zAF->Prop),Q (.bool b) s->wpAny (model prog w) A (zFz .Gt v u) Q E s
inductive aCd(A:zAd)(s:zAF):List Value->List Value->Bool->Prop
 |nn:aCd A s [] [] false
 |nc:aCd A s [] (v::vs) false
 |cn:aCd A s (v::vs) [] true
 |eq:zBl A s v u true->aCd A s vs us b->aCd A s (v::vs) (u::us) b
 |un:zBl A s v u false->aKj A s v u b->aCd A s (v::vs) (u::us) b
section
open PySem.SeqAt
open PySem.AutoSeq1(wpAny_loadPart')
open PySem.MeetsSeq PySem.MeetsSeq2 PySem.MeetsSeq3
end
section
theorem aHP:∀{l:List D} {d:D},dR l=true->d∈l->imm d=true
 |_::_,d,h,hm=>by
  simp only[dR,zAP]at h;rcases zAX.mp hm with rfl|hm
  .exact h.1
  .exact aHP h.2 hm
structure Cmp(f:D->D->Option Bool)(l:List D):Prop where
 n0:0<l.length
 im:dR l=true
 nd:aV l=true
 dp:bZ l<=40
 cm:∀x∈l,∀y∈l,(f x y).isSome=true
instance:Decidable (Cmp f l):=if h:0<l.length/\dR l=true/\aV l=true/\bZ l<=40/\∀x∈l,∀y∈l,(f x y).isSome=true then .isTrue ⟨h.1,h.2.1,h.2.2.1,h.2.2.2.1,h.2.2.2.2⟩else .isFalse λ z=>h ⟨z.n0,z.im,z.nd,z.dp,z.cm⟩
end
def aKi(A:zAd)(s:zAF)(v u:Value)(b:Bool):Prop:=∀(prog:zAZ) (w:World) (E:Value->zAF->Prop) (Q:Value->zAF->Prop),Q (.bool b) s->wpAny (model prog w) A (zFz .Lt v u) Q E s
inductive aCc(A:zAd)(s:zAF):List Value->List Value->Bool->Prop
 |nn:aCc A s [] [] false
 |nc:aCc A s [] (v::vs) true
 |cn:aCc A s (v::vs) [] false
 |eq:zBl A s v u true->aCc A s vs us b->aCc A s (v::vs) (u::us) b
 |un:zBl A s v u false->aKi A s v u b->aCc A s (v::vs) (u::us) b
section
open PySem.SeqAt
open PySem.AutoSeq1(wpAny_loadPart')
open PySem.MeetsSeq PySem.MeetsSeq2 PySem.MeetsSeq3
end
def aG1(i k:Nat):En->Ou:=λ ρ=>match ρ[i]?,ρ[k]? with
 |some (.ow (.lst ds)),some (.ow (.lst es))=>if ds.length+es.length<=zAO/\dR es=true then .nx (ρ.set i (.ow (.lst (ds++es))))else .st
 |_,_=>.st
section
variable{C:Ct}{pos apos cpos p p':Pos}{i k:Nat}{x y:Str}
def aAL(i k:Nat)(hN:∀j,(C.X j).N[i]? =some x:=by intro _;rfl)(hv:∀j,Vis (C.X j).env.scope x:=by intro _;first|exact zB3 rfl|exact zBD (zB3 rfl)|exact zBD (zBD rfl))(hd:Nd x:=by decide)
  (hcd:(x==("__classdict__":Str))=false:=by decide)(hN':∀j,(C.X j).N[k]? =some y:=by intro _;rfl)(hv':∀j,Vis (C.X j).env.scope y:=by intro _;first|exact zB3 rfl|exact zBD (zB3 rfl)|exact zBD (zBD rfl))(hd':Nd y:=by decide)
  (hcd':(y==("__classdict__":Str))=false:=by decide)(hs1:∀j,zAY [.Name y p'] (C.X j).env=[(false,eval (.Name y p') (C.X j).env)]:=by intro _;rfl)
  (hbase:∀j,zCU (.Name x p) "extend" (C.X j).env (eval (.Name x p) (C.X j).env)=eval (.Name x p) (C.X j).env:=by intro _;rfl)
  (hfew:∀j,((zBx cpos (zAY [.Name y p'] (C.X j).env)).all (λ x=>!x.1)&&(zDW cpos (zCO [] (C.X j).env)).all (λ x=>x.1.isSome)&&decide ([Expr.Name y p'].length+([]:List zBj).length+(if ([]:List zBj).isEmpty then 0 else 1)<30))=true:=by intro _;rfl)
  (hline:(apos.endLine==cpos.line)=true:=by rfl)
  (hsw:∀j,zBm (.Call (.Attribute (.Name x p) "extend" apos) [.Name y p'] [] cpos) none pos.line (C.X j).env=pure false:=by intro _;rfl):
  SS C (.Expr (.Call (.Attribute (.Name x p) "extend" apos) [.Name y p'] [] cpos) pos) (aG1 i k):=by
 refine⟨rY (tBM C.K "list" yt (mq i) (gP (mq k) jz)),λ j=>jh (by rw[<-C.hK j];exact tG zBZ zCa zEq aAg (fL (hN j) (hv j) hd hcd) (bj (fL (hN' j) (hv' j) hd' hcd') dY (hs1 j)) (hbase j) (hfew j) hline (hs1 j) rfl) (hsw j),λ U σ H ρ lab De R W=>?_⟩;unfold aG1 at W;split at W
 .rename_i ds es e1 e2
  by_cases hz:ds.length+es.length<=zAO/\dR es=true
  .rw[if_pos hz]at W
   rcases R.sl i _ e1 with z|⟨v,ev,hv1,htop⟩
   .cases z
   rcases R.sl k _ e2 with z|⟨v2,ev2,hv2,_⟩
   .cases z
   obtain⟨a0,ea0,la0⟩:=htop rfl;subst ea0;obtain⟨a1,xs,ea1,h,mm,r⟩:=hv1.lst_inv;cases ea1;obtain⟨b,zs,eb,hb,mb,rb⟩:=hv2.lst_inv;subst eb;refine⟨.ref a0,ev,.inl ⟨rfl,xs,SqL.of h⟩,.ref b,ev2,a0,b,xs,zs,rfl,rfl,h,hb,by rw[r.length,rb.length];exact hz.1,λ H3 B h3=>?_⟩;refine W σ H3 _ (R.mut ev h rfl la0 B ⟨.lst h3 (.inr la0) ?_,λ _=>⟨a0,rfl,la0⟩⟩);exact(r.append (rb.imm hz.2)).but B h rfl λ z=>z.2 rfl
  .rw[if_neg hz]at W
   exact zAJ W
 .exact zAJ W
end
mutual
def gR:D->D->Bool
 | .non,.non=>true
 | .bl a,.bl b=>a==b
 | .int a,.int b=>a==b
 | .tup l,.tup m=>fK l m
 |_,_=>false
def fK:List D->List D->Bool
 |[],[]=>true
 |x::xs,y::ys=>gR x y&&fK xs ys
 |_,_=>false
end
mutual
theorem aDI:∀(a b:D),gR a b=true->a=b
 | .non,b,h=>by cases b<;>simp[gR]at h;rfl
 | .bl a,b,h=>by cases b<;>simp[gR]at h;rw[h]
 | .int a,b,h=>by cases b<;>simp[gR]at h;rw[h]
 | .tup l,b,h=>by cases b<;>simp[gR]at h;rw[pL _ _ h]
 | .str _,b,h=>by simp[gR]at h
 | .lst _,b,h=>by simp[gR]at h
 | .dct _ _,b,h=>by simp[gR]at h
 | .set _,b,h=>by simp[gR]at h
 | .scr _,b,h=>by simp[gR]at h
 | .fn _,b,h=>by simp[gR]at h
theorem pL:∀(a b:List D),fK a b=true->a=b
 |[],b,h=>by cases b<;>simp[fK]at h;rfl
 |x::xs,b,h=>by
  cases b with
  |nil=>simp[fK]at h
  |cons y ys=>
   simp only[fK,zAP]at h;rw[aDI _ _ h.1,pL _ _ h.2]
end
def WK(K:zAA)(G:Gx)(U:List (V×D))(k:Nat)(v0:V)(o:Ou)(De:Ends):Prop:=match o with
 | .nx ρ=>∀σ H lab,RR K G U ρ σ H lab->σ[k]? =some (some v0)->De.nx σ H
 | .bk ρ=>∀σ H lab,RR K G U ρ σ H lab->σ[k]? =some (some v0)->De.bk σ H
 | .ct ρ=>∀σ H lab,RR K G U ρ σ H lab->σ[k]? =some (some v0)->De.ct σ H
 | .rt d=>∀v H,aQ G.H0 H->Rp K (λ p=>G.H0 p=none) H v d->De.rt v H
 | .ex c=>∀H',aQ G.H0 H'->G.E (.ref (G.cl c)) none H'
 | .st=>False
theorem WK.bo{K:zAA}{G:Gx}{r:Rs α}{g:α->Ou}(h:WK K G U k v0 (r.bo g) De):WR G r (λ a=>WK K G U k v0 (g a) De):=by
 cases r with
 |ok a=>exact h
 |ex c=>exact h
 |st=>exact h
def aKJ(K:zAA)(G:Gx)(k:Nat)(t:TS)(f:En->Ou):Prop:=∀U σ H ρ lab (De:Ends) (v0:V),RR K G U ρ σ H lab->σ[k]? =some (some v0)->WK K G U k v0 (f ρ) De->t De σ H
def SSk(C:Ct)(k:Nat)(s:Stmt)(f:En->Ou):Prop:=∃t,(∀i,PS (C.X i) s t)/\aKJ C.K C.G k t f
def aBE(C:Ct)(k:Nat)(s:List Stmt)(f:En->Ou):Prop:=∃t,(∀i,PSs (C.X i) s t)/\aKJ C.K C.G k t f
section
variable{C:Ct}{pos apos cpos p:Pos}{s:Stmt}{ss:List Stmt}{f g:En->Ou}{e a:Expr}{m:Mode}{fe:En->Rs D}{k i:Nat}{x:Str}
def aCs:aBE C k [] .nx:=⟨_,λ _=>aB2,λ U σ H ρ lab De v0 R f0 W=>W σ H lab R f0⟩
def yR(h:SSk C k s f):aBE C k [s] f:=let⟨t,h1,h2⟩:=h;⟨t,λ i=>aB1 (h1 i),h2⟩
def lq(h:SSk C k s f)(kk:aBE C k ss g):aBE C k (s::ss) (aW f g):=by
 obtain⟨t,h1,h2⟩:=h;obtain⟨u,k1,k2⟩:=kk;refine⟨_,λ i=>yw (h1 i) (k1 i),λ U σ H ρ lab De v0 R f0 W=>h2 U σ H ρ lab _ v0 R f0 ?_⟩;unfold aW at W;cases h:f ρ with
 |nx ρ'=>rw[h]at W;exact λ σ' H' lab' R' f'=>k2 U σ' H' ρ' lab' De v0 R' f' W
 |rt d=>rw[h]at W;exact W
 |bk ρ'=>rw[h]at W;exact W
 |ct ρ'=>rw[h]at W;exact W
 |ex c=>rw[h]at W;exact W
 |st=>rw[h]at W;exact W
def aH4{a b:List Stmt}{c:Expr}{fc:En->Rs Bool}(hc:ST C c fc)(ha:aBE C k a f)(hb:aBE C k b g):SSk C k (.If c a b pos) (ifS fc f g):=by
 obtain⟨tc,c1,c2⟩:=hc;obtain⟨t,h1,h2⟩:=ha;obtain⟨u,k1,k2⟩:=hb;refine⟨_,λ i=>aHH (c1 i) (h1 i) (k1 i),λ U σ H ρ lab De v0 R f0 W=>c2 U σ H ρ lab _ R (WK.bo W |>.imp λ q _ w H1 s1=>?_)⟩;cases q with
 |true=>rw[if_pos rfl]at w ⊢;exact h2 U σ H1 ρ lab De v0 (R.up s1) f0 w
 |false=>rw[if_neg zA5]at w ⊢;exact k2 U σ H1 ρ lab De v0 (R.up s1) f0 w
def oF(h:SV C i s m fe)(hm:okS m=true:=by rfl)(hk:(k==i)=false:=by rfl):SSk C k s (cQ i fe):=by
 obtain⟨t,h1,h2⟩:=h;refine⟨_,h1,λ U σ H ρ lab De v0 R f0 W=>h2 U σ H ρ lab _ R (WK.bo W |>.imp λ d _ w v H' s r=>?_)⟩;obtain⟨R',r'⟩:=R.shared hm s r;exact w _ _ _ (R'.put (s:=.sh d) r') (by rw[zAu (λ e=>by rw[e]at hk;simp at hk)];exact f0)
def aAK(i:Nat)(he:SE C m e fe)(hm:okN m=true:=by rfl)(hN:∀j,(C.X j).N[i]? =some x:=by intro _;rfl)(hv:∀j,Vis (C.X j).env.scope x:=by intro _;first|exact zB3 rfl|exact zBD (zB3 rfl)|exact zBD (zBD rfl))(hd:Nd x:=by decide)
  (hcd:(x==("__classdict__":Str))=false:=by decide)(hs1:∀j,zAY [e] (C.X j).env=[(false,eval e (C.X j).env)]:=by intro _;rfl)
  (hbase:∀j,zCU (.Name x p) "append" (C.X j).env (eval (.Name x p) (C.X j).env)=eval (.Name x p) (C.X j).env:=by intro _;rfl)
  (hfew:∀j,((zBx cpos (zAY [e] (C.X j).env)).all (λ x=>!x.1)&&(zDW cpos (zCO [] (C.X j).env)).all (λ x=>x.1.isSome)&&decide ([e].length+([]:List zBj).length+(if ([]:List zBj).isEmpty then 0 else 1)<30))=true:=by intro _;rfl)
  (hline:(apos.endLine==cpos.line)=true:=by rfl)
  (hsw:∀j,zBm (.Call (.Attribute (.Name x p) "append" apos) [e] [] cpos) none pos.line (C.X j).env=pure false:=by intro _;rfl):
  SSk C k (.Expr (.Call (.Attribute (.Name x p) "append" apos) [e] [] cpos) pos) (iu i fe):=by
 obtain⟨t,h1,h2⟩:=he;refine⟨rY (tBM C.K "list" oK (mq i) (gP t jz)),λ j=>jh (by rw[<-C.hK j];exact tG zBZ zC1 zDE nQ (fL (hN j) (hv j) hd hcd) (bj (h1 j) dY (hs1 j)) (hbase j) (hfew j) hline (hs1 j) rfl) (hsw j),λ U σ H ρ lab De v0 R f0 W=>?_⟩;unfold iu at W;cases es:ρ[i]? with
 |none=>rw[es]at W;exact zAJ W
 |some s=>
  rw[es]at W;split at W
  .rename_i ds hs
   cases hs;rcases R.sl i _ es with z|⟨v,ev,hv'⟩
   .cases z
   .obtain⟨hv1,htop⟩:=hv'
    obtain⟨a0,ea0,la0⟩:=htop rfl;subst ea0;cases hv1 with
    |lst h mm r=>
     rename_i xs;refine⟨.ref a0,ev,.inl ⟨rfl,xs,SqL.of h⟩,h2 U σ H ρ lab _ R (WK.bo W |>.imp λ d _ w y H2 s2 r2=>?_)⟩;by_cases hz:ds.length<zAO
     .rw[if_pos hz]at w
      refine⟨a0,xs,y,rfl,rfl,s2 _ _ h,by rw[r.length];exact hz,λ H3 B h3=>?_⟩;obtain⟨R',r'⟩:=R.fresh (P:=λ k=>k=1) rfl (λ k hk=>beq_iff_eq.mp (ji hm k hk)) s2 r2;have la:(bR H 1 lab a0).1=i+2:=by rw[bD h];exact la0
      refine w σ H3 _ (R'.mut ev (s2 _ _ h) rfl la B ⟨.lst h3 (.inr la) ?_,λ _=>⟨a0,rfl,la⟩⟩) f0;have ra:Rps C.K (λ p=>((bR H 1 lab p).1=1\/(bR H 1 lab p).1=i+2)/\p≠a0) H2 (xs++[y]) (ds++[d]):=by
       refine(r.mono s2 λ p o e z=>⟨by rw[bD e];exact z.1,z.2⟩).append (.cons (r'.wk λ p o e z=>⟨.inl z,λ q=>?_⟩) .nil);subst q;rw[la]at z;lia
      exact ra.but B (s2 _ _ h) rfl λ z=>z.2 rfl
     .rw[if_neg hz]at w
      exact zAJ w
  .exact zAJ W
def qJ(k:Nat)(l:List D)(ρ:En):Bool:=match ρ[k]? with
 |some (.ow (.lst m))=>fK m l
 |_=>false
def lM(k:Nat)(l:List D)(fg:D->En->Rs En)(b:En->Ou):List D->En->Ou
 |[],ρ=>if qJ k l ρ=true then .nx ρ else .st
 |d::ds,ρ=>if qJ k l ρ=true then(match fg d ρ with
  | .ok ρ1=>match b ρ1 with
   | .nx ρ2=>lM k l fg b ds ρ2
   | .ct ρ2=>lM k l fg b ds ρ2
   | .bk _=>.st
   |o=>o
  |_=>.st)else .st
def aGY(k:Nat)(fg:D->En->Rs En)(b:En->Ou):En->Ou:=λ ρ=>match ρ[k]? with
 |some (.ow (.lst l))=>if dR l=true then lM k l fg b l ρ else .st
 |_=>.st
def aEw{tg:Expr}{ks:List Nat}{fg:D->En->Rs En}(k:Nat)(hg:SG C tg ks fg)(hb:aBE C k ss f)(hk:k∉ks:=by decide)(hN:∀j,(C.X j).N[k]? =some x:=by intro _;rfl)(hv:∀j,Vis (C.X j).env.scope x:=by intro _;first|exact zB3 rfl|exact zBD (zB3 rfl)|exact zBD (zBD rfl))(hd:Nd x:=by decide)
  (hcd:(x==("__classdict__":Str))=false:=by decide)(hs:∀i,∀y,zB8 (.Name x p) (C.X i).env y=pure y:=by intro _ _;rfl):SS C (.For tg (.Name x p) ss [] pos) (aGY k fg f):=by
 obtain⟨gg,g1,g2,g3,g4⟩:=hg;obtain⟨tb,b1,b2⟩:=hb;refine⟨aJL (aIj C.K (mq k)) gg tb,λ i=>aD2 (C.own i) (C.calm i) (by rw[<-C.hK i];exact aD6 (fL (hN i) (hv i) hd hcd)) (g1 i) (b1 i) (hs i),λ U σ H ρ lab De R W=>?_⟩;unfold aGY at W;split at W
 .rename_i l e1
  by_cases him:dR l=true
  .rw[if_pos him]at W
   rcases R.sl k _ e1 with z|⟨v,ev,hv1,htop⟩
   .cases z
   obtain⟨a0,xs,rfl,h,mm,r⟩:=hv1.lst_inv;refine⟨.ref a0,ev,a0,rfl,.inl ⟨⟨xs,SqL.of h⟩,?_⟩⟩;refine⟨λ i n σ' H'=>∃ρ' lab',RR C.K C.G U ρ' σ' H' lab'/\σ'[k]? =some (some (.ref a0))/\n=l.length-i/\i<=l.length/\WS C.K C.G U (lM k l fg f (l.drop i) ρ') De,⟨l.length,ρ,lab,R,ev,by lia,by lia,W⟩,?_⟩;rintro i n σ' H' ⟨ρ',lab',R',f',rfl,hi,w'⟩;have own:qJ k l ρ'=true->∃(P:Addr->Prop) (xs':List V),H' a0=some (.lst xs')/\Rps C.K P H' xs' l:=λ o=>by
    unfold qJ at o;split at o
    .rename_i m e2
     have:=pL m l o
     subst this;rcases R'.sl k _ e2 with z|⟨v,ev',hv',_⟩
     .cases z
     rw[f']at ev';cases ev';obtain⟨a1,xs',ea,h',mm',r'⟩:=hv'.lst_inv;cases ea;exact⟨_,xs',h',r'⟩
    .cases o
   by_cases hlt:i<l.length
   .have ed2:l.drop i=l[i]::l.drop (i+1):=zBh hlt
    rw[ed2]at w';unfold lM at w';by_cases o:qJ k l ρ'=true
    .rw[if_pos o]at w'
     obtain⟨P,xs',h',r'⟩:=own o;have hl:=r'.length;refine .inr ⟨⟨xs',xs'[i]'(by lia),SqL.of h',zAE (by lia)⟩,λ σ2 H2=>∃ρ2 lab2,RR C.K C.G U ρ2 σ2 H2 lab2/\σ2[k]? =some (some (.ref a0))/\WS C.K C.G U (lM k l fg f (l.drop (i+1)) ρ2) De,λ σ2 H2 ⟨ρ2,lab2,R2,f2,w2⟩=>⟨l.length-(i+1),by lia,ρ2,lab2,R2,f2,rfl,hlt,w2⟩,λ x H2 hy=>?_⟩;obtain⟨e,y⟩:=hy;subst e;obtain⟨d,ed,rd⟩:=r'.get (y xs' (SqL.of h'));rw[zAE hlt]at ed;cases ed;have rx:Rp C.K (λ p=>(lab' p).1<=1) H2 x l[i]:=rd.imm (aHP him (zCi hlt));cases eg:fg l[i] ρ' with
     |ex c=>rw[eg]at w';exact zAJ w'
     |st=>rw[eg]at w';exact zAJ w'
     |ok ρ1=>
      rw[eg]at w';have G:=g2 U x l[i] σ' H2 ρ' lab' (λ σ1 H1=>RR C.K C.G U ρ1 σ1 H2 lab'/\H1=H2) ρ1 R' rx eg λ σ1 R1=>⟨R1,rfl⟩
      refine g4 _ _ _ _ _ (λ σ1 H1 z=>?_) (g3 _ _ _ _ G);obtain⟨⟨R1,e⟩,_,fr⟩:=z;subst e;refine b2 U σ1 H1 ρ1 lab' _ (.ref a0) R1 ((fr k hk).trans f') ?_;dsimp only at w';cases eb:f ρ1 with
      |nx ρ2=>rw[eb]at w';exact λ σ2 H3 lab2 R2 f2=>⟨ρ2,lab2,R2,f2,w'⟩
      |ct ρ2=>rw[eb]at w';exact λ σ2 H3 lab2 R2 f2=>⟨ρ2,lab2,R2,f2,w'⟩
      |bk ρ2=>rw[eb]at w';exact zAJ w'
      |rt d=>rw[eb]at w';exact w'
      |ex c=>rw[eb]at w';exact w'
      |st=>rw[eb]at w';exact w'
    .rw[if_neg o]at w'
     exact zAJ w'
   .have e:i=l.length:=by lia
    subst e;rw[zDZ]at w';unfold lM at w';by_cases o:qJ k l ρ'=true
    .rw[if_pos o]at w'
     obtain⟨P,xs',h',r'⟩:=own o;exact .inl ⟨⟨xs',SqL.of h',by rw[r'.length];exact zAU _⟩,w' σ' H' lab' R'⟩
    .rw[if_neg o]at w'
     exact zAJ w'
  .rw[if_neg him]at W
   exact zAJ W
 .exact zAJ W
end
def aBv(t:Tok)(a:Addr)(l:List Value)(n:Nat)(dd:Option Addr)(sl:Array (Option Value))(he:l.isEmpty=false):
  Meets (zDj.«tuple.__mul__» ⟨[.ref a,.int 0 t],[]⟩) (λ _ R s=>s.heap.get? a=some {cls:=.type "tuple",dict:=dd,data:=.seq l.toArray n,slots:=sl}/\
   R (.ok (.ret (zBS s.heap.objs.size))) {s with heap:=s.heap.push {cls:=zCV "tuple",data:=zHY #[]}}):=by
 have c0:¬(decide ((0:Int) < -2^63)||decide ((0:Int) ≥ 2^63))=true:=by decide
 have c1:¬(l.toArray.isEmpty||(0:Int)==1)=true:=by simp only[zDr,he];simp
 have c2:(decide ((0:Int)<=0)||l.toArray.isEmpty)=true:=by simp
 refine .of_wp λ P w A R s h=>?_
 obtain⟨_,_,_,_,_⟩:=s;obtain⟨hl,h⟩:=h;wp_walk
 try rw[if_neg c0]
 wp_walk
 try rw[if_neg c1]
 wp_walk
 try rw[if_pos c2]
 wp_walk;exact⟨_,rfl,h⟩
def aBu(t:Tok)(a:Addr)(l:List Value)(n:Nat)(dd:Option Addr)(sl:Array (Option Value)):
  Meets (zDj.«tuple.__mul__» ⟨[.ref a,.int 1 t],[]⟩) (λ _ R s=>s.heap.get? a=some {cls:=.type "tuple",dict:=dd,data:=.seq l.toArray n,slots:=sl}/\
   R (.ok (.ret (zBS a))) s):=by
 have c0:¬(decide ((1:Int) < -2^63)||decide ((1:Int) ≥ 2^63))=true:=by decide
 have c1:(l.toArray.isEmpty||(1:Int)==1)=true:=by simp
 refine .of_wp λ P w A R s h=>?_
 obtain⟨_,_,_,_,_⟩:=s;obtain⟨hl,h⟩:=h;wp_walk
 try rw[if_neg c0]
 wp_walk
 try rw[if_pos c1]
 wp_walk;exact⟨_,rfl,h⟩
def aGz(K:zAA):R2:=λ x y H Q=>aDV K x y H Q\/∃a xs,x= .ref a/\SqT K H a xs/\xs≠[]/\((y= .int 0/\New H (.tup []) Q)\/(y= .int 1/\Q (.ref a) H))
def aFf:OpR X (zBe .Mult) (aGz X.K):=by
 intro hV s σ H x y v u Q I rx ry h;rcases h with h|⟨a,xs,rfl,ha,hne,h⟩
 .exact aFg hV s σ H x y v u Q I rx ry h
 .cases rx
  obtain⟨its,r,p1,_⟩:=I.tuple ha;obtain⟨⟨cls,dd,data,sl⟩,ho,hc,n,hd⟩:=id p1;simp only at hc hd;subst hc hd;have he:its.isEmpty=false:=by
   cases its with
   |nil=>exact absurd (r.nil_iff.mp rfl) hne
   |cons _ _=>rfl
  rcases h with ⟨rfl,q⟩|⟨rfl,q⟩
  .obtain⟨t,rfl⟩:=ry
   refine zCZ (T:="tuple") (U:="int") (by decide) ⟨_,ho,rfl⟩ (λ s'=>zCo s' 0 t) vy zDw zBq rT zD8.lookup
    (zBy zBq (zCo s 0 t) zD7 (zDY _ _) (rW 0 t a its.toArray n dd sl)
     ⟨ho,rfl,⟨_,ho,rfl⟩,zBy zCs ⟨_,ho,rfl⟩ zEh (zE3 _ _) (aBv t a its n dd sl he) ⟨ho,?_⟩⟩)
   refine⟨.ref s.heap.objs.size,_,I.laid (t':=s.toks) (o:=.tup []) (λ b ob q=>zAC _ q) (zAU _) ?_,rfl,q.at (I.hok.fresh (zAU _))⟩;exact⟨⟨by simp,NoD.push _⟩,_,.nil,zEj _ _⟩
  .obtain⟨t,rfl⟩:=ry
   refine zCZ (T:="tuple") (U:="int") (by decide) ⟨_,ho,rfl⟩ (λ s'=>zCo s' 1 t) vy zDw zBq rT zD8.lookup
    (zBy zBq (zCo s 1 t) zD7 (zDY _ _) (rW 1 t a its.toArray n dd sl)
     ⟨ho,rfl,⟨_,ho,rfl⟩,zBy zCs ⟨_,ho,rfl⟩ zEh (zE3 _ _) (aBu t a its n dd sl) ⟨ho,?_⟩⟩)
   exact⟨.ref a,H,I,rfl,q⟩
def aAe:D->D->Rs D
 | .tup l,.int k=>if k=0/\l.isEmpty=false then .ok (.tup [])else if k=1/\l.isEmpty=false then .ok (.tup l)else aFt (.tup l) (.int k)
 |_,_=>.st
def aFb{K:zAA}:OpS K (aGz K) aAe:=by
 intro A x y d e H Q z rx ry ez q;unfold aAe at ez;split at ez
 .split at ez
  .rename_i hc
   obtain⟨rfl,c⟩:=hc;cases ez;cases ry;cases rx with
   |tup h r=>
    refine .inr ⟨_,_,rfl,h,λ e=>?_,.inl ⟨rfl,λ p H' s hp hn=>q _ H' s (.tup (SqT.of hp) .nil)⟩⟩;subst e;cases r;cases c
  .split at ez
   .rename_i hc
    obtain⟨rfl,c⟩:=hc;cases ez;cases ry;have rx':=rx;cases rx with
    |tup h r=>
     refine .inr ⟨_,_,rfl,h,λ e=>?_,.inr ⟨rfl,q _ H (aQ.refl H) (rx'.wk λ _ _ _ z=>.inr z)⟩⟩;subst e;cases r;cases c
   .exact .inl (aFc _ _ _ _ _ _ _ _ rx ry ez q)
 .cases ez
section
variable{C:Ct}{pos:Pos}{a b:Expr}{fa fb:En->Rs D}{m1 m2:Mode}
def aFG(ha:SE C m1 a fa)(hb:SE C m2 b fb):SE C (jn m1 m2) (.BinOp a .Mult b pos) (op2 aAe fa fb):=sS (λ i=>by rw[<-C.hK i];exact aFf) aFb ha hb
end
def aCh{M:Model}{A:zAd}{E:Value->zAF->Prop}{s:zAF}{a b:Value}{Q:Value->zAF->Prop}(ha:s.TypeIs a "list")(hb:s.TypeIs b "list")(h:wpAny M A (call (.builtin "list.__iadd__") [a,b]) Q E s):wpAny M A (zHF .Add a b) Q E s:=by
 have t1:zEZ (.type "list") (dunderI zEN.info.snd)=pure (some (.builtin "list.__iadd__")):=zGY.lookup;have t2:seqSlot? (.type "list") (dunderI zEN.info.snd)=pure (some (.builtin "list.__iadd__")):=by rfl
 have f1:fillsNumberSlot (.type "list") zEN.info.snd=pure false:=by rfl
 unfold zHF;refine zDF ?_;wp_walk using(wpAny_binaryOp1_none (nm:=zEN.info.snd) ha hb f1),h
def ipL:TIp:=λ x y H Q=>∃l b xs zs,x= .ref l/\y= .ref b/\H l=some (.lst xs)/\H b=some (.lst zs)/\xs.length+zs.length<=zAO/\∀H',jO l H H'->H' l=some (.lst (xs++zs))->Q (.ref l) H'
def aGL{X:Cx}:PIp X .Add ipL:=by
 intro hV s σ H x y v u Q I rx ry h;obtain⟨l,b,xs,zs,rfl,rfl,hH,hB,hz,q⟩:=h;cases rx;cases ry;obtain⟨z,its,n,r,hl,e⟩:=I.lstM hH;obtain⟨z2,its2,n2,r2,hl2,e2⟩:=I.lstM hB;have hsz:its.toArray.size+its2.toArray.size<=zAO:=by rw[zAI,zAI];lia
 have kK:¬(!its.toArray.isEmpty&&zBE (its.toArray.size+its2.toArray.size))=true:=by
  rw[oR hsz,zCR];exact zA5
 refine aCh ⟨_,e,rfl⟩ ⟨_,e2,rfl⟩ (zBy zGY ⟨_,e,rfl⟩ zD6 (F.args_list_iadd_2 _ _)
  (AutoSeq1.list___iadd___list_list_0 l its.toArray n b its2.toArray n2 kK (by rw[zAI];lia) (by lia)) ⟨e,e2,?_⟩)
 refine⟨.ref l,_,I.lset (its':=its++its2) hH e (by simp) (r.append r2) ?_,rfl,q _ (λ b o ne hb=>by rw[bJ ne];exact hb) aa⟩;rw[zAV];lia
def aGb(i:Nat)(fe:En->Rs D):En->Ou:=λ ρ=>match ρ[i]? with
 |some (.ow (.lst ds))=>(fe ρ).bo λ d=>match d with
  | .lst es=>if ds.length+es.length<=zAO/\dR es=true then .nx (ρ.set i (.ow (.lst (ds++es))))else .st
  |_=>.st
 |_=>.st
section
variable{C:Ct}{pos p:Pos}{i:Nat}{x:Str}{e:Expr}{m:Mode}{fe:En->Rs D}
def aEx(i:Nat)(he:SE C m e fe)(hN:∀j,(C.X j).N[i]? =some x:=by intro _;rfl)(hx:∀j,Loc (C.X j).env.scope x:=by intro _;first|exact zB3 rfl|exact zBD rfl)(hf:∀j,(C.X j).fn x=true\/(C.X j).env.scope.names.lookup x=some .local:=by intro _;first|exact .inl rfl|exact .inr rfl)
  (hnd:∀j,(C.X j).N.Nodup:=by intro _;assumption):SS C (.AugAssign (.Name x p) .Add e pos) (aGb i fe):=by
 obtain⟨t,h1,h2⟩:=he;refine⟨aJN i t ipL,λ j=>aD3 (hnd j) (hN j) (hx j) (h1 j) aGL (hf j),λ U σ H ρ lab De R W=>?_⟩;unfold aGb at W;split at W
 .rename_i ds e1
  rcases R.sl i _ e1 with z|⟨v,ev,hv1,htop⟩
  .cases z
  obtain⟨a0,ea0,la0⟩:=htop rfl;subst ea0;refine⟨.ref a0,ev,h2 U σ H ρ lab _ R (W.bo.imp λ d _ w y H2 s2 r2=>?_)⟩;split at w
  .rename_i es
   split at w
   .rename_i hz
    obtain⟨a1,xs,ea1,h,mm,r⟩:=hv1.lst_inv;cases ea1;obtain⟨b,zs,eb,hb,mb,rb⟩:=r2.lst_inv;subst eb;refine⟨a0,b,xs,zs,rfl,rfl,s2 _ _ h,hb,by rw[r.length,rb.length];exact hz.1,λ H3 B h3=>?_⟩;have eσ:σ.set i (some (.ref a0))=σ:=by
     refine List.ext_getElem? λ j=>?_
     by_cases q:i=j
     .subst q
      rw[zBF (zAM.mp ev).1,ev]
     .rw[zAu q]
    show De.nx (σ.set i (some (.ref a0))) H3;rw[eσ];have R2:=R.up s2;refine w σ H3 lab (R2.mut ev (s2 _ _ h) rfl la0 B ⟨.lst h3 (.inr la0) ?_,λ _=>⟨a0,rfl,la0⟩⟩);exact((r.up s2).append (rb.imm hz.2)).but B (s2 _ _ h) rfl λ z=>z.2 rfl
   .exact zAJ w
  .exact zAJ w
 .exact zAJ W
end
theorem intsAre_of:∀{vs:List Value} {ns:List Int},vs.length=ns.length->(∀(i:Nat) v,vs[i]? =some v->∃t,v= .int (ns.getD i 0) t)->zBC vs ns
 |[],[],_,_=>.nil
 |[],_::_,h,_=>by cases h
 |_::_,[],h,_=>by cases h
 |v::vs,n::ns,h,hv=>by
  obtain⟨t,e⟩:=hv 0 v rfl;have e2:v= .int n t:=e;subst e2;exact .cons _ _ (intsAre_of (by simpa using h) λ i v e=>by
   obtain⟨t,e⟩:=hv (i+1) v (by simpa using e);exact⟨t,by simpa using e⟩)
def aDU:List V->Hp->VK->Prop:=λ xs H Q=>∃(p:Addr) (kvs:List (Key×V)) (ns:List Int),xs=[.ref p]/\H p=some (.dK kvs)/\kvs.map (·.1)=ns.map (λ n=>(zCH n:Key))/\ns.length<64/\New H (.lst ((sortI ns).map V.int)) Q
def xg{X:Cx}(hc:X.calm=true):cA X (.builtin "sorted") aDU:=by
 intro hV s σ H xs us Q I r h;obtain⟨p,kvs,ns,rfl,hp,hk,h64,q⟩:=h;obtain⟨u,rfl,ru⟩:=vals1 r;cases ru;obtain⟨z,hd,vs,rel,dd⟩:=aHR I.hok hp;obtain⟨ep,hda⟩:=dd.dictAt;have hvk:vs.map (·.1)=ns.map (λ n=>(zCH n:Key)):=(KV.at rel).trans hk;have hW:vs.length=ns.length:=by have:=congrArg zG0 hvk;simpa using this
 have hat:∀(i:Nat) v,(∃k x,vs[i]? =some (k,x)/\(cF X.prog X.w).is k v=true)->∃t,v= .int (ns.getD i 0) t:=λ i v ⟨k,x,e,hv⟩=>by
  have h1:(vs.map (·.1))[i]? =some k:=by rw[zAT,e];rfl
  rw[hvk,zAT]at h1;cases hn:ns[i]? with
  |none=>rw[hn]at h1;cases h1
  |some n=>
   rw[hn]at h1
   have:k=zCH n:=(zAk h1).symm
   subst this;rcases b8 (k:=.inl n) (v:=v) hv with ⟨j,t,e1,e2⟩|⟨y,t,e1,e2⟩
   .cases e1;exact⟨t,by rw[e2,zAa,hn];rfl⟩
   .cases e1
 have hh:X.A.in1.handled=none:=I.ok.hd hc;refine oG (zg (PySem.W.kdl_dict (knd:=cF X.prog X.w) (ep:=ep) hd) hh hda (by rw[hW,zB1];lia) λ h1 tk vs1 k0 k1 k2 k3=>?_);have hI:zBC vs1 ns:=intsAre_of (by rw[k2,hW]) λ i v e=>hat i v (k3 i v e)
 refine xF (s:={s with heap:=h1,toks:=tk}) hI (by rw[k2];lia) λ out h' e a1 a2 a3=>?_
 have hle:s.heap.objs.size<=h1.objs.size:=zBN k0;have hfr:H h1.objs.size=none:=I.hok.fresh hle;exact⟨.ref h1.objs.size,upd H h1.objs.size (.lst ((sortI ns).map V.int)),I.laid (t':=tk) (λ b o e=>a2 b o (k1 b o e)) hle ⟨by rw[zAB,(sortI_perm ns).length_eq];exact zAc (zBN h64) (by decide),out,e,a1,a3⟩,rfl,q.at hfr⟩
def sH:List D->Rs D
 |[.dct ks vs]=>match mV ks vs with
  |some ps=>if ps.length<64 then .ok (.lst ((sortI (ps.map (·.1))).map .int))else .st
  |none=>.st
 |_=>.st
section
variable{C:Ct}{pos p:Pos}{m:Mode}{a:Expr}{ga:En->Rs (List D)}
def aAS(hm:C.mg "sorted"=none)(ha:SA C m [a] ga)(he:∀i,zAY [a] (C.X i).env=[(false,eval a (C.X i).env)]:=by intro _;rfl)(hg:∀i,Gl (C.X i) "sorted":=by intro _;rfl)(hv:zAq "sorted"=some (.builtin "sorted"):=by decide+kernel):SE C (some []) (.Call (.Name "sorted" p) [a] [] pos) (opA sH ga):=by
 obtain⟨t,h1,h2⟩:=ha;refine⟨tCB aDU t,λ i=>lD (xg (C.calm i)) (hg i) (by rw[(C.cx i).2.2.2.1];exact hm) hv (h1 i) (by decide) (by decide) (he i) rfl,λ U σ H ρ lab Q R W=>?_⟩;refine h2 U σ H ρ lab _ R (W.bd.imp λ ds _ w xs H1 s1 r1=>?_);obtain⟨z,ez,w⟩:=w.okD;unfold sH at ez;split at ez
 .obtain⟨v,rfl,rd⟩:=r1.one_inv
  split at ez
  .rename_i ps hp
   split at ez
   .rename_i hl
    cases ez;obtain⟨c,kvs,rfl,g,_,_,hk⟩:=rd.dctI_inv hp;exact⟨c,kvs,ps.map (·.1),rfl,g,by rw[hk,zAe];rfl,by rw[zAB];exact hl,λ q H3 s3 hq hn3=>w _ H3 (s1.trans s3) (.lst hq (.inl (s1.free hn3)) Rps.ints)⟩
   .cases ez
  .cases ez
 .cases ez
end
def jk(a b:Int):List Int:=(zAw (b-a).toNat).map λ(k:Nat)=>a+(k:Int)
def aGy:List V->Hp->VK->Prop:=λ xs H Q=>∃i j:Int,xs=[.int i,.int j]/\∀p,H p=none->Q (.ref p) (upd H p (.rng i j))
def aC3{X:Cx}:cA X (.type "range") aGy:=by
 intro hV s σ H vs us Q I rv h;obtain⟨i,j,rfl,q⟩:=h;cases rv with
 |cons r1 rv=>
  cases rv with
  |cons r2 rv=>
   cases rv;obtain⟨t,rfl⟩:=r1;obtain⟨t2,rfl⟩:=r2;exact call_range_2 ⟨.ref s.heap.objs.size,_,I.laid (a:=s.heap.objs.size) (o:=.rng i j) (t':=s.toks+1) (λ _ _ q=>zAC _ q) (zAU _) ⟨_,_,_,zA1 _ rfl⟩,rfl,q _ (I.hok.fresh (zAU _))⟩
def yq:List V->Hp->VK->Prop:=λ xs H Q=>∃(p:Addr) (i j:Int),xs=[.ref p]/\H p=some (.rng i j)/\(-(2^62)<=i/\i<=10000)/\(-(2^62)<=j/\j<=10000)/\j-i<=10000/\∀l H',aQ H H'->H l=none->H' l=some (.tup ((jk i j).map V.int))->Q (.ref l) H'
def aAO{i j:Int}(h1: -(2^62)<=i/\i<=10000)(h2: -(2^62)<=j/\j<=10000)(h3:j-i<=10000):zAl i j 1=((j-i).toNat:Int)/\zBX i j 1=true:=by
 have hsz:zAl i j 1=((j-i).toNat:Int):=by
  unfold zAl;simp only[show(1:Int)>0 by decide,if_true];split<;>lia
 refine⟨hsz,?_⟩;have fl:∀x:Int,-(2^62)<=x->x<=2^62->zBL x=true:=λ x hx1 hx2=>by
  unfold zBL;simp;lia
 unfold zBX;rw[hsz,fl i (by lia) (by lia),fl j (by lia) (by lia),fl 1 (by lia) (by lia),fl _ (by lia) (by lia),if_pos (by decide),fl (j+(1-1)) (by lia) (by lia),zGE];rfl
def xf{X:Cx}(hc:X.calm=true):cA X (.type "tuple") yq:=by
 intro hV s σ H vs us Q I rv h;obtain⟨p,i,j,rfl,hp,h1,h2,h3,q⟩:=h;obtain⟨u,rfl,ru⟩:=rv.one;cases ru;obtain⟨t,u,v,hg⟩:=I.hok p _ hp;obtain⟨hsz,hsm⟩:=aAO h1 h2 h3;refine callType_new zFl (by decide) (zEp _) (zFD _) (λ obj=>zEd obj _) zFC
  (jy p i j 1 t u v (j-i).toNat hsm hsz (by lia)) ⟨I.ok.hd hc,hg,λ h' tk vs hlt hk hl hv=>⟨⟨_,zA1 _ rfl,rfl⟩,?_⟩⟩
 have hle:s.heap.objs.size<=h'.objs.size:=zBN hlt;have hv2:Vals ((jk i j).map V.int) vs:=by
  have hl2:(jk i j).length=vs.length:=by rw[hl];simp[jk]
  refine vp hl2 λ k x hi=>?_
  have hk2:k<vs.length:=by rw[<-hl2];exact(zAM.mp hi).1
  obtain⟨tk,e⟩:=hv k vs[k] (zAE hk2);refine⟨tk,?_⟩;have ei:x=i+(k:Int)*1:=by
   unfold jk at hi;rw[zAT]at hi;cases c:(zAw (j-i).toNat)[k]? with
   |none=>rw[c]at hi;cases hi
   |some m=>
    rw[c]at hi;cases hi
    have:=zAM.mp c
    have:m=k:=by simpa using this.2.symm
    subst this;lia
  rw[ei,<-e];exact zAE hk2
 have hfr:H h'.objs.size=none:=I.hok.fresh hle;refine⟨.ref h'.objs.size,upd H h'.objs.size (.tup ((jk i j).map V.int)),I.laid (t':=tk) (λ b o e=>zAC _ (hk b o e)) hle ⟨⟨?_,NoD.push _⟩,vs,hv2,?_⟩,rfl,q _ _ (bB hfr _) hfr aa⟩
 .simp[jk]
  have:zAO=16777216:=zB1
  lia
 .exact⟨_,zA1 _ rfl,rfl,0,rfl⟩
def aJF:List D->Rs D
 |[.int i,.int j]=>if ((-(2^62)<=i/\i<=10000)/\(-(2^62)<=j/\j<=10000))/\j-i<=10000 then .ok (.tup (au i j))else .st
 |_=>.st
def aJG(ga:En->Rs (List D)):En->Rs D:=λ ρ=>(ga ρ).bd aJF
section
variable{C:Ct}{pos pos2 p p2:Pos}{m:Mode}{a b:Expr}{ga:En->Rs (List D)}
def aAR(hmL:C.mg "tuple"=none)(hmR:C.mg "range"=none)(ha:SA C m [a,b] ga)(hs:∀i,zAY [a,b] (C.X i).env=(false,eval a (C.X i).env)::zAY [b] (C.X i).env:=by intro _;rfl)(hpl:∀i,(zBx pos2 (zAY [b] (C.X i).env)).any (·.1)=false:=by intro _;rfl)(hs2:∀i,zAY [.Call (.Name "range" p2) [a,b] [] pos2] (C.X i).env=[(false,eval (.Call (.Name "range" p2) [a,b] [] pos2) (C.X i).env)]:=by intro _;rfl)(hgL:∀i,Gl (C.X i) "tuple":=by intro _;rfl)(hvL:zAq "tuple"=some (.type "tuple"):=by decide+kernel)(hgR:∀i,Gl (C.X i) "range":=by intro _;rfl):SE C (some []) (.Call (.Name "tuple" p) [.Call (.Name "range" p2) [a,b] [] pos2] [] pos) (aJG ga):=by
 obtain⟨t,h1,h2⟩:=ha;refine⟨tCB yq (gP (tCB aGy t) jz),λ i=>fY (xf (C.calm i)) (hgL i) (by rw[(C.cx i).2.2.2.1];exact hmL) hvL (bj (fY aC3 (hgR i) (by rw[(C.cx i).2.2.2.1];exact hmR) zFR (h1 i) (by decide) (by decide) (hs i) (hpl i)) dY (hs2 i)) (by decide) (by decide) (hs2 i) rfl,λ U σ H ρ lab Q R W=>?_⟩;refine h2 U σ H ρ lab _ R (W.bd.imp λ ds _ w vs H1 s1 r1=>?_);unfold aJF at w;split at w
 .rename_i i j _
  split at w
  .rename_i hb
   cases r1 with
   |cons x1 r1=>
    cases r1 with
    |cons x2 r1=>
     cases r1;cases x1;cases x2;refine⟨i,j,rfl,λ q hq=>?_⟩;refine⟨q,i,j,rfl,aa,hb.1.1,hb.1.2,hb.2,λ l H2 s2 hl hl2=>w _ H2 ((s1.trans (bB hq _)).trans s2) ?_⟩;have e:au i j=(jk i j).map D.int:=by
      unfold au jk;rw[zAe];rfl
     rw[e];exact .tup (SqT.of hl2) Rps.ints
  .exact zAJ w
 .exact zAJ w
end
section
variable{ρ:En}{i:Nat}{f g:En->Rs D}{fb gb:En->Rs Bool}{ga:En->Rs (List D)}{u v:En->Ou}{d:D}
@[simp] def varD_ap:dZ i ρ=match ρ[i]? with
 |some (.sh d)=>.ok d
 |some (.nw d)=>.ok d
 |some (.ow d)=>.ok d
 |some (.oz d)=>.ok d
 |some (.o2 l)=>.ok (.lst (l.map .lst))
 |_=>.st:=aN rfl
@[simp] def aBG:aD i ρ=match ρ[i]? with
 |some (.sh d)=>.ok d
 |some (.nw d)=>.ok d
 |_=>.st:=aN rfl
@[simp] def varN_ap:pI i ρ=match ρ[i]? with
 |some (.nw d)=>.ok d
 |_=>.st:=aN rfl
@[simp] def varO_ap:vo i ρ=match ρ[i]? with
 |some (.ow d)=>.ok d
 |some (.o2 l)=>.ok (.lst (l.map .lst))
 |_=>.st:=aN rfl
@[simp] def aKG:cD d ρ= .ok d:=aN rfl
@[simp] def rJ:aH ρ= .ok []:=aN rfl
@[simp] def bw:aC f ga ρ=(f ρ).bd λ d=>(ga ρ).bd λ ds=>.ok (d::ds):=aN rfl
@[simp] def szl:zAO=16777216:=zB1
@[simp] def tupD_ap:cH ga ρ=(ga ρ).bd λ ds=>if ds.length<=16777216 then .ok (.tup ds)else .st:=by unfold cH;rw[szl]
@[simp] def lstD_ap:eE ga ρ=(ga ρ).bd λ ds=>if ds.length<=16777216 then .ok (.lst ds)else .st:=by unfold eE;rw[szl]
@[simp] def pR:okD (.ok d)= .ok d:=aN rfl
@[simp] def pQ:op2 fd f g ρ=(f ρ).bd λ x=>(g ρ).bd λ y=>okD (fd x y):=aN rfl
@[simp] def op1_ap:op1 fd f ρ=(f ρ).bd λ x=>okD (fd x):=aN rfl
@[simp] def jK:opA fd ga ρ=(ga ρ).bd λ x=>okD (fd x):=aN rfl
@[simp] def o8:aU F ga ρ=(ga ρ).bd F:=aN rfl
def aKH(d:D)(r:Rs D):Rs D:=match d with
 | .bl true=>r
 | .bl false=>.ok (.bl false)
 |_=>.st
def orR(d:D)(r:Rs D):Rs D:=match d with
 | .bl false=>r
 | .bl true=>.ok (.bl true)
 |_=>.st
@[simp] def aBr:aKH (.bl b) r=if b=true then r else .ok (.bl false):=by cases b<;>rfl
@[simp] def orR_bl:orR (.bl b) r=if b=true then .ok (.bl true)else r:=by cases b<;>rfl
@[simp] def yD:uy f g ρ=(f ρ).bd λ d=>aKH d (g ρ):=aN rfl
@[simp] def orD_ap:orD f g ρ=(f ρ).bd λ d=>orR d (g ρ):=aN rfl
@[simp] def notD_bl:aIY (.bl b)= .ok (.bl (!b)):=aN rfl
@[simp] def ifD_ap:ifD fb f g ρ=(fb ρ).bd λ k=>if k=true then f ρ else g ρ:=aN rfl
def chR(d:D)(r:Rs D):Rs D:=match d with
 | .bl true=>r
 | .bl false=>.ok (.bl false)
 |_=>.st
@[simp] def chR_bl:chR (.bl b) r=if b=true then r else .ok (.bl false):=by cases b<;>rfl
@[simp] def chD_ap:chD fd fd' f g h ρ=(f ρ).bd λ x=>(g ρ).bd λ y=>(okD (fd x y)).bd λ z=>chR z ((h ρ).bd λ w=>okD (fd' y w)):=aN rfl
@[simp] def truD_bl:aHZ (.bl b)= .ok b:=aN rfl
@[simp] def blD_bl:blD (.bl b)= .ok b:=aN rfl
@[simp] def tst_ap:tst f ρ=(f ρ).bd aHZ:=aN rfl
@[simp] def aAJ:tsb f ρ=(f ρ).bd blD:=aN rfl
@[simp] def andT_ap:aGd fb gb ρ=(fb ρ).bd λ k=>if k=true then gb ρ else .ok false:=aN rfl
@[simp] def orT_ap:orT fb gb ρ=(fb ρ).bd λ k=>if k=true then .ok true else gb ρ:=aN rfl
@[simp] def notT_ap:qx fb ρ=(fb ρ).bd λ k=>.ok (!k):=aN rfl
@[simp] def aK:aW u v ρ=(u ρ).sq v:=aN rfl
@[simp] def jA:retS f ρ=(f ρ).bo .rt:=aN rfl
@[simp] def aE6:v6 f ρ=(f ρ).bo λ _=>.nx ρ:=aN rfl
@[simp] def fj:ifS fb u v ρ=(fb ρ).bo λ k=>if k=true then u ρ else v ρ:=aN rfl
@[simp] def wJ:cQ i f ρ=(f ρ).bo λ d=>.nx (ρ.set i (.sh d)):=aN rfl
@[simp] def aFE:ug i f ρ=(f ρ).bo λ d=>.nx (ρ.set i (.nw d)):=aN rfl
@[simp] def setO_ap:fB i f ρ=(f ρ).bo λ d=>.nx (ρ.set i (.ow d)):=aN rfl
@[simp] def lL:gnm i d ρ= .ok (ρ.set i (.sh d)):=aN rfl
@[simp] def gnil_nil:iU [] ρ= .ok ρ:=aN rfl
@[simp] def gcons_cons:bC a b (d::ds) ρ=(a d ρ).bd (b ds):=aN rfl
@[simp] def gtup_tup:gq n b (.tup ds) ρ=if ds.length=n then b ds ρ else .st:=aN rfl
def nxO(r:Rs En):Ou:=match r with
 | .ok ρ=>.nx ρ
 |_=>.st
@[simp] def nxO_ok:nxO (.ok ρ)= .nx ρ:=aN rfl
@[simp] def aGc:aBB f a ρ=(f ρ).bo λ d=>nxO (a d ρ):=aN rfl
@[simp] def itD_tup:itD (.tup l)= .ok l:=aN rfl
@[simp] def itD_lst:itD (.lst l)= .ok l:=aN rfl
@[simp] def aGI:cL f ρ=(f ρ).bd itD:=aN rfl
@[simp] def cG:gk ga a u ρ=(ga ρ).bo λ ds=>forL a u ds ρ:=aN rfl
@[simp] def forL_nil:forL a u [] ρ= .nx ρ:=aN rfl
noncomputable def Ou.tn(o:Ou)(k:En->Ou):Ou:=match o with
 | .nx ρ2=>k ρ2
 | .ct ρ2=>k ρ2
 | .bk ρ2=>.nx ρ2
 |o=>o
@[simp] def mU:(Ou.nx ρ).tn k=k ρ:=aN rfl
@[simp] def tn_rt:(Ou.rt d).tn k= .rt d:=aN rfl
def okE(r:Rs En)(k:En->Ou):Ou:=match r with
 | .ok ρ=>k ρ
 |_=>.st
@[simp] def jL:okE (.ok ρ) k=k ρ:=aN rfl
def cY:forL a u (d::ds) ρ=okE (a d ρ) λ ρ1=>(u ρ1).tn (forL a u ds):=by
 unfold forL;cases a d ρ with
 |ok ρ1=>simp only[jL];cases u ρ1<;>rfl
 |ex c=>rfl
 |st=>rfl
@[simp] def oNone_ap:aDn ρ= .ok none:=aN rfl
@[simp] def oSome_ap:aDm f ρ=(f ρ).bd λ d=>match d with
 | .int i=>.ok (some i)
 |_=>.st:=aN rfl
@[simp] def sliceD_ap:aAP f a b ρ=(f ρ).bd λ d=>(a ρ).bd λ l=>(b ρ).bd λ h=>okD (slD d l h):=aN rfl
@[simp] def slD_lst:slD (.lst l) a b= .ok (.lst (cutD l a b)):=aN rfl
@[simp] def aBk:aq f ρ=(f ρ).bd oY:=aN rfl
@[simp] def rngA_ap:gW r ga ρ=(ga ρ).bd r:=aN rfl
@[simp] def raiseS_ap:tB x ga ρ=(ga ρ).bo λ ds=>if ds.length<=16777216 then .ex x else .st:=by unfold tB;rw[szl]
@[simp] def yesT_ap:ik ρ= .ok true:=aN rfl
end
section
variable{d e:D}{i j:Int}{l m:List D}
def xQ(h:imm d=true):oY d= .ok d:=by unfold oY;rw[if_pos h]
@[simp] def gImm_int:oY (.int i)= .ok (.int i):=aN rfl
@[simp] def addD_int:fU (.int i) (.int j)= .ok (.int (i+j)):=aN rfl
@[simp] def aAB:fU (.tup l) (.tup m)=if l.length+m.length<=16777216 then .ok (.tup (l++m))else .st:=by unfold fU;rw[szl]
@[simp] def subD_int:wC (.int i) (.int j)= .ok (.int (i-j)):=aN rfl
def mC(h0:0<j)(h1:j<1073741824):jE (.int i) (.int j)= .ok (.int (i / j)):=by unfold jE i2;dsimp only;rw[if_pos (by simp[h0,h1])]
def lG(h0:0<j):pU (.int i) (.int j)= .ok (.int (i%j)):=by unfold pU i2;dsimp only;rw[if_pos (by simp[h0])]
def aAf(h0: -(2^64)<i)(h1:i<2^64):lF (.int i) (.int j)= .ok (.int (i*j)):=by unfold lF;dsimp only;rw[if_pos (by simp only[zC0,zAP,decide_eq_true_eq];exact .inl ⟨h0,h1⟩)]
def aDq(h0: -(2^64)<j)(h1:j<2^64):lF (.int i) (.int j)= .ok (.int (i*j)):=by unfold lF;dsimp only;rw[if_pos (by simp only[zC0,zAP,decide_eq_true_eq];exact .inr ⟨h0,h1⟩)]
@[simp] def ltD_int:ltD (.int i) (.int j)= .ok (.bl (decide (i<j))):=aN rfl
@[simp] def leD_int:leD (.int i) (.int j)= .ok (.bl (decide (i<=j))):=aN rfl
@[simp] def gtD_int:gtD (.int i) (.int j)= .ok (.bl (decide (j<i))):=aN rfl
@[simp] def geD_int:geD (.int i) (.int j)= .ok (.bl (decide (j<=i))):=aN rfl
def aGA(ns ms:List Int):ltD (.tup (ns.map .int)) (.tup (ms.map .int))= .ok (.bl (HT.lexLt ns ms)):=by
 unfold ltD ltT i2;simp only[dH]
@[simp] def lenD_tup:gn [.tup l]= .ok (.int l.length):=aN rfl
@[simp] def lenD_lst:gn [.lst l]= .ok (.int l.length):=aN rfl
@[simp] def lenD_scr:gn [.scr x]= .ok (.int x.length):=aN rfl
@[simp] def tupleD_lst:fC [.lst l]= .ok (.tup l):=aN rfl
@[simp] def mmD_int:mmD f [.int i,.int j]= .ok (.int (f i j)):=aN rfl
@[simp] def aGG:ixD (.tup l) (.int i)=atD l i:=aN rfl
@[simp] def aGH:ixD (.lst l) (.int i)=atD l i:=aN rfl
@[simp] def ixD_scr:ixD (.scr x) (.int i)=atD (x.map .int) i:=aN rfl
def dj{k:Nat}(h:l[k]? =some d):atD l (k:Int)= .ok d:=by
 have hk:=(zAM.mp h).1;unfold atD atI ixN;rw[if_pos (by omega),if_pos (by omega)];simp[h]
def aEb(h0:0<=i)(h1:i<l.length):∃d,atD l i= .ok d/\d∈l/\l[i.toNat]? =some d:=by
 have hk:i.toNat<l.length:=by omega
 have e:=zAE hk;refine⟨_,?_,zCi hk,e⟩
 have:=dj e
 rwa [zB6 h0]at this
@[simp] def atD_0{r:List D}:atD (d::r) 0= .ok d:=dj (k:=0) rfl
@[simp] def atD_1{r:List D}:atD (d::e::r) 1= .ok e:=dj (k:=1) rfl
@[simp] def eqR_int:eqR n (.int i) (.int j)= .ok (.bl (if n then !(i==j)else i==j)):=aN rfl
def knd:D->Bool
 | .set _=>false
 | .scr _=>false
 | .fn _=>false
 |_=>true
def xK(hT:T∈["bool","int","str","list","tuple","dict"])(h:knd d=true):nU T d= .ok (.bl (aGK (tyD d) T)):=by
 have ht:tyD d∈["NoneType","bool","int","str","list","tuple","dict"]:=by cases d<;>simp_all [tyD,knd]
 unfold nU mX;cases e:aGK (tyD d) T<;>simp[ht,hT]
def aIg:D->Bool
 | .int _=>true
 | .bl _=>true
 |_=>false
def aJx:D->Bool
 | .bl _=>true
 |_=>false
def pY:D->Bool
 | .tup _=>true
 |_=>false
def aGJ(h:knd d=true):nU "int" d= .ok (.bl (aIg d)):=by
 rw[xK (by simp) h];cases d<;>first|rfl|(simp[knd]at h)
def aEF(h:knd d=true):nU "bool" d= .ok (.bl (aJx d)):=by
 rw[xK (by simp) h];cases d<;>first|rfl|(simp[knd]at h)
def pX(h:knd d=true):nU "tuple" d= .ok (.bl (pY d)):=by
 rw[xK (by simp) h];cases d<;>first|rfl|(simp[knd]at h)
@[simp] def ut:nU "tuple" (.tup l)= .ok (.bl true):=pX rfl
end
@[simp] def bO:du n u ds=match u (ao n ds)with
 | .nx _=>.ok .non
 | .rt d=>.ok d
 | .ex c=>.ex c
 |_=>.st:=aN rfl
def gK(h0: -(2^62)<=j)(h1:j<2^62):iM [.int j]= .ok (au 0 j):=by unfold iM;dsimp only;rw[if_pos ⟨h0,h1⟩]
def aBX(h0: -(2^62)<=i)(h1:i<2^62)(h2: -(2^62)<=j)(h3:j<2^62):yo [.int i,.int j]= .ok (au i j):=by unfold yo;dsimp only;rw[if_pos ⟨⟨h0,h1⟩,h2,h3⟩]
def zM{lo hi:Int}:d∈au lo hi↔∃k:Int,d= .int k/\lo<=k/\k<hi:=by
 unfold au;rw[zAS];constructor
 .rintro⟨n,hn,rfl⟩
  have:=zC9.mp hn
  exact⟨lo+n,rfl,by omega,by omega⟩
 .rintro⟨k,rfl,h1,h2⟩
  exact⟨(k-lo).toNat,zC9.mpr (by omega),by congr 1;omega⟩
def gZ(I:Nat->En->Prop)(hs:∀(i:Nat) d ρ,ds[i]? =some d->I i ρ->∃ρ2,okE (a d ρ) (λ ρ1=>u ρ1)= .nx ρ2/\I (i+1) ρ2)(h0:I 0 ρ):∃ρ',forL a u ds ρ= .nx ρ'/\I ds.length ρ':=by
 have go:∀(n:Nat) (ρ:En),n<=ds.length->I (ds.length-n) ρ->∃ρ',forL a u (ds.drop (ds.length-n)) ρ= .nx ρ'/\I ds.length ρ':=by
  intro n;induction n with
  |zero=>intro ρ _ h;exact⟨ρ,by rw[zEc,zDZ];rfl,h⟩
  |succ n ih=>
   intro ρ hn h;have hlt:ds.length-(n+1)<ds.length:=by omega
   rw[zBh hlt,cY];obtain⟨ρ2,e,h2⟩:=hs _ _ ρ (zAE hlt) h;rw[show ds.length-(n+1)+1=ds.length-n by omega]at h2 ⊢;cases ea:a ds[ds.length-(n+1)] ρ with
   |ok ρ1=>
    rw[ea]at e;simp only[jL]at e ⊢;rw[e,mU];exact ih ρ2 (by omega) h2
   |ex c=>rw[ea]at e;cases e
   |st=>rw[ea]at e;cases e
 have:=go ds.length ρ (zAU _) (by rw[Nat.sub_self];exact h0)
 rwa [Nat.sub_self,zDy]at this
end VL
namespace VL.My
open PySem L2
def gD:En->Ou:=
  (retS (uy (op1 (nU "int") (aD 0)) (op1 aIY (op1 (nU "bool") (aD 0)))))
def ie:List D->Rs D:=du 1 gD
def dJ:En->Ou:=
  (aW (gk (gW yo (aC (cD (.int 1)) (aC (opA gn (aC (aD 0) aH)) aH))) (gnm 1)
   (ifS (qx (tsb (op2 ltD (op2 ixD (aD 0) (op2 wC (aD 1) (cD (.int 1)))) (op2 ixD (aD 0) (aD 1)))))
    (retS (cD (.bl false)))
    Ou.nx))
  (retS (cD (.bl true))))
def eY:List D->Rs D:=du 2 dJ
def jZ:En->Ou:=
  (retS (cH (aC (opA (mmD λ i j=>if j<i then j else i) (aC (aD 0) (aC (aD 1) aH))) (aC (opA (mmD λ i j=>if j>i then j else i) (aC (aD 0) (aC (aD 1) aH))) aH))))
def pC:List D->Rs D:=du 2 jZ
def gH:En->Ou:=
  (aW (aBB (aD 0) (gq 2 (bC (gnm 1) (bC (gnm 2) iU))))
  (aW (llS 3 (gW iM (aC (aD 1) aH)) [none] (gnm 0))
  (aW (gk (cL (aD 2)) (gq 2 (bC (gnm 4) (bC (gnm 5) iU)))
   (aW (lY 3 (aD 4) (aq (aD 5)))
   (lY 3 (aD 5) (aq (aD 4)))))
  (retS (vo 3)))))
def cX:List D->Rs D:=du 6 gH
def pwI:En->Ou:=ifS (tsb (op2 (inR true) (aD 5) (dZ 2))) (iu 2 (aq (aD 5))) Ou.nx
def pwW:En->Ou:=aW (ug 4 (aq (op2 ixD (dZ 2) (aD 3)))) (aW (gk (cL (op2 ixD (aD 0) (pI 4))) (gnm 5) pwI) (aGa (i2 (λ _ _=>true) λ a b=>.int (a+b)) 3 (cD (.int 1))))
def pwT:En->Rs Bool:=tsb (op2 ltD (aD 3) (opA gn (aC (dZ 2) aH)))
def eN:En->Ou:=aW (fB 2 (eE (aC (aq (aD 1)) aH))) (aW (cQ 3 (cD (.int 0))) (aW (pH pwT pwW) (retS (opA fC (aC (opA ju (aC (dZ 2) aH)) aH)))))
def gf:List D->Rs D:=du 6 eN
def bz:En->Ou:=
  (aW (ifS (tsb (op2 ltD (aD 1) (opA gn (aC (aD 0) aH))))
   (retS (aq (op2 ixD (aD 0) (aD 1))))
   Ou.nx)
  (retS (cD (.int 0))))
def cz:List D->Rs D:=du 2 bz
def dI:En->Ou:=
  (aW (ifS (tsb (op2 geD (aD 0) (op2 aHu (cD (.int 10)) (cD (.int 18)))))
   (aW (cQ 3 (aD 0))
   (aW (gk (gW iM (aC (aD 1) aH)) (gnm 4)
    (aW (ifS (tsb (op2 (eqR false) (aD 3) (cD (.int 0))))
     (retS (cD (.int 0)))
     Ou.nx)
    (cQ 3 (op2 jE (aD 3) (aD 2)))))
   (retS (op2 pU (aD 3) (aD 2)))))
   Ou.nx)
  (aW (cQ 5 (op2 pU (op2 lF (op2 fU (op2 fU (op2 pU (aD 0) (cD (.int 1000000007))) (op2 lF (cD (.int 1009)) (aD 1))) (cD (.int 17))) (cD (.int 69621))) (cD (.int 2147483647))))
  (aW (cQ 5 (op2 pU (op2 fU (op2 fU (op2 lF (aD 5) (aD 5)) (op2 lF (cD (.int 40503)) (aD 1))) (cD (.int 5))) (cD (.int 2147483629))))
  (retS (op2 pU (op2 jE (op2 pU (op2 lF (aD 5) (cD (.int 48271))) (cD (.int 2147483647))) (cD (.int 32))) (aD 2))))))
def aX:List D->Rs D:=du 6 dI
def roL:En->Rs D:=opA fC (aC (lcD (cL (aD 6)) [none,some 9,some 8] (gnm 0) ik (ifD (tsb (op2 (eqR false) (aD 0) (aD 1))) (aq (aD 2)) (aq (aD 0)))) aH)
def roU:En->Rs D:=opA fC (aC (lcD (gW iM (aC (op2 ixD (aD 0) (cD (.int 0))) aH)) [none,some 7,some 2,some 3] (gnm 0) ik (op2 fU (aq (op2 ixD (aD 1) (aD 0))) (opA lJ (aC (orD (op2 (eqR false) (aD 0) (aD 2)) (op2 (eqR false) (aD 0) (aD 3))) aH)))) aH)
def roT:En->Rs Bool:=aGd (tsb (op2 ltD (op2 ixD (aD 7) (aD 2)) (cD (.int 2)))) (aGd (tsb (op2 ltD (op2 ixD (aD 7) (aD 3)) (cD (.int 2)))) (tsb (op2 (eqR true) (op2 ixD (aD 6) (aD 2)) (op2 ixD (aD 6) (aD 3)))))
def roA:En->Ou:=iu 4 (cH (aC (op2 fU (aq (aD 5)) (cH (aC (cH (aC (aq (aD 2)) (aC (aq (aD 3)) aH))) aH))) (aC (aq (aD 10)) (aC (aq (aD 11)) aH))))
def roB:En->Ou:=ifS roT (aW (cQ 8 (opA (mmD λ i j=>if j<i then j else i) (aC (op2 ixD (aD 6) (aD 2)) (aC (op2 ixD (aD 6) (aD 3)) aH)))) (aW (cQ 9 (opA (mmD λ i j=>if j>i then j else i) (aC (op2 ixD (aD 6) (aD 2)) (aC (op2 ixD (aD 6) (aD 3)) aH)))) (aW (cQ 10 roL) (aW (cQ 11 roU) roA)))) Ou.nx
abbrev roG:D->En->Rs En:=gq 3 (bC (gnm 5) (bC (gnm 6) (bC (gnm 7) iU)))
def roO:En->Ou:=aW (fB 4 (eE aH)) (aW (aGY 1 roG roB) (aG1 1 4))
def roR:En->Rs D:=lcD (cL (aD 1)) [none] (gnm 0) ik (aq (op2 ixD (aD 0) (cD (.int 0))))
def gB:En->Ou:=aW (fB 1 (eE (aC (cH (aC (cH aH) (aC (trD (op2 ixD (aD 0) (cD (.int 0)))) (aC (op2 aAe (cH (aC (cD (.int 0)) aH)) (aq (op2 ixD (aD 0) (cD (.int 0))))) aH)))) aH))) (aW (gk (cL (op2 ixD (aD 0) (cD (.int 1)))) (gq 2 (bC (gnm 2) (bC (gnm 3) iU))) roO) (retS roR))
def iZ:List D->Rs D:=du 12 gB
def iC:En->Ou:=
  (retS (uy (aU ie (aC (aD 0) aH)) (chD leD leD (cD (.int 0)) (aD 0) (cD (.int 60)))))
def mH:List D->Rs D:=du 1 iC
def gF:En->Ou:=
  (retS (uy (aU ie (aC (aD 1) aH)) (chD leD ltD (cD (.int 0)) (aD 1) (aD 0))))
def eF:List D->Rs D:=du 2 gF
def paF:En->Ou:=aEg 3 (aq (aD 6))
def paB:En->Ou:=ifS (tsb (op2 (inX true) (aD 4) (dZ 3))) (aW (cQ 5 (aU gf (aC (aD 0) (aC (aD 4) aH)))) (aW (iu 2 (aq (aD 5))) (gk (cL (aD 5)) (gnm 6) paF))) Ou.nx
def cg:En->Ou:=aW (fB 2 (eE aH)) (aW (fB 3 (cD (.set []))) (aW (gk (cL (aD 1)) (gnm 4) paB) (retS (vo 2))))
def cu:List D->Rs D:=du 7 cg
def huI:En->Ou:=ifS (tsb (op2 (eqR true) (aD 8) (aD 7))) (aW (aEg 2 (aq (aD 8))) (iu 3 (cH (aC (aq (aD 8)) (aC (aq (aD 6)) aH))))) Ou.nx
def huW:En->Ou:=aW (aBB (aq (op2 ixD (dZ 3) (aD 4))) (gq 2 (bC (gnm 6) (bC (gnm 7) iU)))) (aW (gk (cL (op2 ixD (aD 1) (aD 6))) (gnm 8) huI) (aGa (i2 (λ _ _=>true) λ a b=>.int (a+b)) 4 (cD (.int 1))))
def huT:En->Rs Bool:=tsb (op2 ltD (aD 4) (opA gn (aC (dZ 3) aH)))
def huB:En->Ou:=aW (ifS (tsb (op2 (inX true) (aD 5) (dZ 2))) (iu 3 (cH (aC (aq (aD 5)) (aC (cD .non) aH)))) Ou.nx) (pH huT huW)
def qC:En->Ou:=aW (cQ 1 (aU cX (aC (aD 0) aH))) (aW (fB 2 (cD (.set []))) (aW (fB 3 (eE aH)) (aW (cQ 4 (cD (.int 0))) (aW (gk (gW iM (aC (op2 ixD (aD 0) (cD (.int 0))) aH)) (gnm 5) huB) (retS (vo 3))))))
def uY:List D->Rs D:=du 9 qC
def foB:En->Ou:=aW (ug 7 (op2 ixD (eE (aC (op2 wC (aD 6) (cD (.int 1))) (aC (op2 jE (aD 6) (cD (.int 2))) (aC (op2 jE (aD 6) (cD (.int 4))) (aC (aU aX (aC (aD 0) (aC (op2 fU (cD (.int 300)) (aD 6)) (aC (aD 6) aH)))) aH))))) (aD 3)))
   (aW (ifS (tsb (op2 (eqR false) (aU aX (aC (aD 0) (aC (op2 fU (cD (.int 400)) (aD 6)) (aC (cD (.int 3)) aH)))) (cD (.int 0))))
    (ug 7 (aU aX (aC (aD 0) (aC (op2 fU (cD (.int 500)) (aD 6)) (aC (aD 6) aH)))))
    Ou.nx)
   (ifS (tsb (op2 gtD (aU aX (aC (aD 0) (aC (op2 fU (cD (.int 600)) (aD 6)) (aC (cD (.int 9)) aH)))) (cD (.int 0))))
    (iu 5 (cH (aC (opA (mmD λ i j=>if j<i then j else i) (aC (op2 ixD (pI 4) (pI 7)) (aC (op2 ixD (pI 4) (aD 6)) aH))) (aC (opA (mmD λ i j=>if j>i then j else i) (aC (op2 ixD (pI 4) (pI 7)) (aC (op2 ixD (pI 4) (aD 6)) aH))) aH))))
    Ou.nx))
def foO:En->Rs D:=lcD (cL (opA ju (aC (lcD (gW iM (aC (aD 2) aH)) [none,some 0] (gnm 0) ik (cH (aC (aU aX (aC (aD 1) (aC (op2 fU (cD (.int 200)) (aD 0)) (aC (cD (.int 97)) aH)))) (aC (aq (aD 0)) aH)))) aH))) [none] (gnm 0) ik (aq (op2 ixD (aD 0) (cD (.int 1))))
def dU:En->Ou:=aW (cQ 2 (aU aX (aC (aD 0) (aC (cD (.int 0)) (aC (op2 fU (aD 1) (cD (.int 1))) aH))))) (aW (cQ 3 (aU aX (aC (aD 0) (aC (cD (.int 1)) (aC (cD (.int 4)) aH))))) (aW (ug 4 foO) (aW (fB 5 (eE aH)) (aW (gk (gW yo (aC (cD (.int 1)) (aC (aD 2) aH))) (gnm 6) foB) (retS (cH (aC (aq (aD 2)) (aC (opA fC (aC (opA ju (aC (dZ 5) aH)) aH)) aH))))))))
def dW:List D->Rs D:=du 8 dU
def fwE:En->Ou:=aG0 4 (aq (aD 5))
def fwK:En->Rs D:=lcD (cL (aD 1)) [none,some 4] (gnm 0) (tsb (op2 gtD (opL qD (aD 1) (aD 0)) (cD (.int 1)))) (aq (aD 0))
def fwB:En->Ou:=aW (fB 4 (eE aH)) (aW (gk (cL (aD 3)) (gnm 5) fwE) (ifS (tsb (op2 (eqR false) fwK (eE aH))) (iu 2 (aq (aD 3))) Ou.nx))
def fwM:En->Rs D:=lcD (cL (aD 2)) [none] (gnm 0) ik (opA gn (aC (aD 0) aH))
def fwR:En->Rs D:=lcD (cL (aD 2)) [none,some 6] (gnm 0) (tsb (op2 (eqR false) (opA gn (aC (aD 0) aH)) (aD 1))) (aq (aD 0))
def cM:En->Ou:=aW (fB 2 (eE aH)) (aW (gk (cL (aU iZ (aC (aD 0) aH))) (gnm 3) fwB) (aW (cQ 6 (opA (qN zHI) (aC fwM aH))) (retS fwR)))
def cP:List D->Rs D:=du 7 cM
def ipE:En->Ou:=ifS (orT (qx (tst (op1 (nU "tuple") (aD 1)))) (tsb (op2 (eqR true) (opA gn (aC (aD 1) aH)) (cD (.int 2))))) (retS (cD (.bl false))) Ou.nx
def iB:En->Ou:=aW ipE (retS (uy (aU eF (aC (aD 0) (aC (op2 ixD (aD 1) (cD (.int 0))) aH))) (uy (aU eF (aC (aD 0) (aC (op2 ixD (aD 1) (cD (.int 1))) aH))) (op2 (eqR true) (op2 ixD (aD 1) (cD (.int 0))) (op2 ixD (aD 1) (cD (.int 1)))))))
def j9:List D->Rs D:=du 2 iB
def joA:En->Rs D:=lcD (cL (aAP (op2 ixD (aD 2) (aD 5)) aDn (aDm (aD 7)))) [none,some 5] (gnm 0) ik (aU pC (aC (aD 1) (aC (aD 0) aH)))
def joB:En->Ou:=aW (cQ 7 (ifD (tsb (op2 (inR false) (aD 5) (aD 1))) (cD (.int 1)) (cD (.int 2)))) (aW (aGb 3 joA) (ifS (tsb (op2 geD (opA gn (aC (op2 ixD (dZ 2) (aD 5)) aH)) (aD 7))) (iu 4 (aq (aD 5))) (ifS (tsb (op2 (isD true) (aD 6) (cD .non))) (lY 2 (aD 6) (aq (aD 5))) Ou.nx)))
def eU:En->Ou:=aW (llS 2 (gW iM (aC (op2 ixD (aD 0) (cD (.int 0))) aH)) [none] (gnm 0)) (aW (fB 3 (eE aH)) (aW (fB 4 (eE aH)) (aW (gk (cL (op1 aBY (aU uY (aC (aD 0) aH)))) (gq 2 (bC (gnm 5) (bC (gnm 6) iU))) joB) (retS (cH (aC (opA fC (aC (opA ju (aC (dZ 3) aH)) aH)) (aC (opA fC (aC (opA ju (aC (dZ 4) aH)) aH)) aH)))))))
def bf:List D->Rs D:=du 8 eU
def loE:En->Ou:=aG0 3 (aq (aD 4))
def loI:En->Ou:=ifS (tsb (op2 ltD (opL qD (dZ 3) (aD 5)) (cD (.int 2)))) (pdS 1 (aD 5) (cD (.bl true))) Ou.nx
def loB:En->Ou:=aW (fB 3 (eE aH)) (aW (gk (cL (aD 2)) (gnm 4) loE) (gk (gW iM (aC (op2 ixD (aD 0) (cD (.int 0))) aH)) (gnm 5) loI))
def gC:En->Ou:=aW (fB 1 (cD (.dct [] []))) (aW (gk (cL (aU cP (aC (aD 0) (aC (cH aH) aH)))) (gnm 2) loB) (retS (opA fC (aC (opA sH (aC (dZ 1) aH)) aH))))
def jr:List D->Rs D:=du 6 gC
def az:En->Ou:=
  (aW (ifS (qx (tst (op1 (nU "tuple") (aD 1))))
   (retS (cD (.bl false)))
   Ou.nx)
  (aW (gk (cL (aD 1)) (gnm 2)
   (ifS (qx (tst (aU j9 (aC (aD 0) (aC (aD 2) aH)))))
    (retS (cD (.bl false)))
    Ou.nx))
  (retS (aU eY (aC (aD 1) aH)))))
def bK:List D->Rs D:=du 3 az
def gG:En->Ou:=
  (retS (uy (aU bK (aC (aD 0) (aC (aD 1) aH))) (opA (yE λ bs=>bs.all id) (aC (lcD (cL (aD 1)) [none,none] (gq 2 (bC (gnm 0) (bC (gnm 1) iU))) ik (op2 ltD (aD 0) (aD 1))) aH))))
def jt:List D->Rs D:=du 2 gG
def j0:En->Ou:=
  (aW (ifS (orT (qx (tst (op1 (nU "tuple") (aD 0)))) (tsb (op2 (eqR true) (opA gn (aC (aD 0) aH)) (cD (.int 2)))))
   (retS (cD (.bl false)))
   Ou.nx)
  (retS (uy (aU mH (aC (op2 ixD (aD 0) (cD (.int 0))) aH)) (aU jt (aC (op2 ixD (aD 0) (cD (.int 0))) (aC (op2 ixD (aD 0) (cD (.int 1))) aH))))))
def pF:List D->Rs D:=du 1 j0
def eX:En->Ou:=
  (ifS (qx (tst (aU pF (aC (aD 0) aH))))
   (tB "NoWeb" (aC (cD (.str "this is no web")) aH))
   Ou.nx)
def eZ:List D->Rs D:=du 1 eX
def mG:En->Ou:=
  (aW (v6 (aU eZ (aC (aD 0) aH)))
  (retS (aU cu (aC (aU cX (aC (aD 0) aH)) (aC (lrD (op2 ixD (aD 0) (cD (.int 0)))) aH)))))
def rO:List D->Rs D:=du 1 mG
def eV:En->Ou:=
  (retS (op2 (eqR false) (opA gn (aC (aU rO (aC (aD 0) aH)) aH)) (op2 wC (op2 ixD (aD 0) (cD (.int 0))) (opA gn (aC (op2 ixD (aD 0) (cD (.int 1))) aH)))))
def gh:List D->Rs D:=du 1 eV
def cN:En->Ou:=
  (ifS (qx (tst (aU gh (aC (aD 0) aH))))
   (tB "NoForest" (aC (cD (.str "the web has a ring")) aH))
   Ou.nx)
def fQ:List D->Rs D:=du 1 cN
def opB:En->Rs D:=lcD (gW iM (aC (op2 ixD (aD 0) (cD (.int 0))) aH)) [none,some 0,some 1] (gnm 0) (tsb (op2 (eqR false) (opA gn (aC (op2 ixD (aU bf (aC (aD 1) (aC (cH (aC (aD 0) aH)) aH))) (cD (.int 0))) aH)) (aD 2))) (aq (aD 0))
def cj:En->Ou:=aW (v6 (aU fQ (aC (aD 0) aH))) (aW (cQ 1 (opA gn (aC (op2 ixD (aU bf (aC (aD 0) (aC (cH aH) aH))) (cD (.int 0))) aH))) (retS (opA fC (aC opB aH))))
def bN:List D->Rs D:=du 2 cj
def lwR:En->Rs (List D):=(gW iM (aC (opA (mmD λ i j=>if j>i then j else i) (aC (cD (.int 1)) (aC (opA (mmD λ i j=>if j<i then j else i) (aC (opA gn (aC (aD 0) aH)) (aC (cD (.int 6)) aH))) aH))) aH))
def lB:En->Ou:=(aW (cQ 5 (aU bN (aC (aD 3) aH))) (ifS (orT (qx (tst (op1 (nU "tuple") (aD 5)))) (tsb (op2 (eqR true) (aD 5) (aU jr (aC (aD 3) aH))))) (retS (cD (.bl false))) Ou.nx))
def lS6:En->Ou:=(cQ 6 (op2 fU (cD (.int 4)) (aU aX (aC (aD 2) (aC (cD (.int 9000)) (aC (cD (.int 20)) aH))))))
def lS7:En->Ou:=(cQ 7 (cH (aC (aD 6) (aC (opA fC (aC (lcD (gW yo (aC (cD (.int 1)) (aC (aD 6) aH))) [none] (gnm 0) ik (cH (aC (cD (.int 0)) (aC (aq (aD 0)) aH)))) aH)) aH))))
def lS8:En->Ou:=(cQ 8 (cH (aC (aD 6) (aC (opA fC (aC (lcD (gW iM (aC (op2 wC (aD 6) (cD (.int 1))) aH)) [none] (gnm 0) ik (cH (aC (aq (aD 0)) (aC (op2 fU (aq (aD 0)) (cD (.int 1))) aH)))) aH)) aH))))
def lIf:En->Ou:=(ifS (orT (tsb (op2 (eqR true) (aU bN (aC (aD 7) aH)) (aJG (aC (cD (.int 1)) (aC (aD 6) aH))))) (tsb (op2 (eqR true) (aU bN (aC (aD 8) aH)) (cH (aC (cD (.int 0)) (aC (op2 wC (aD 6) (cD (.int 1))) aH)))))) (retS (cD (.bl false))) Ou.nx)
def lT:En->Ou:=aW lS7 (aW lS8 lIf)
def lwK:En->Ou:=aW (cQ 2 (aU cz (aC (aD 0) (aC (aD 1) aH)))) (aW (cQ 3 (aU dW (aC (aD 2) (aC (cD (.int 9)) aH)))) (aW (gk (gW iM (aC (cD (.int 2)) aH)) (gnm 4) lB) (aW lS6 lT)))
def lwZ:En->Rs D:=(uy (op2 (eqR false) (aU bN (aC (cH (aC (cD (.int 0)) (aC (cH aH) aH))) aH)) (cH aH)) (op2 (eqR false) (aU bN (aC (cH (aC (cD (.int 1)) (aC (cH aH) aH))) aH)) (cH (aC (cD (.int 0)) aH))))
def uR:En->Ou:=aW (gk lwR (gnm 1) lwK) (retS lwZ)
def aEi:List D->Rs D:=du 9 uR
theorem v7(hb:0<b)(hb2:b<1073741824):∀(ds:List D) (x:Int) (s:Slot),(∀d∈ds,∃n:Int,d= .int n)->
  (∃y s',forL (gnm 4) (aW (ifS (tsb (op2 (eqR false) (aD 3) (cD (.int 0)))) (retS (cD (.int 0))) Ou.nx) (cQ 3 (op2 jE (aD 3) (aD 2)))) ds [.sh (.int c),.sh (.int k),.sh (.int b),.sh (.int x),s,.no]= .nx [.sh (.int c),.sh (.int k),.sh (.int b),.sh (.int y),s',.no])\/
  forL (gnm 4) (aW (ifS (tsb (op2 (eqR false) (aD 3) (cD (.int 0)))) (retS (cD (.int 0))) Ou.nx) (cQ 3 (op2 jE (aD 3) (aD 2)))) ds [.sh (.int c),.sh (.int k),.sh (.int b),.sh (.int x),s,.no]= .rt (.int 0)
 |[],x,s,_=>.inl ⟨x,s,rfl⟩
 |d::ds,x,s,h=>by
  have ih:=v7 hb hb2 (c:=c) (k:=k) ds (x / b) (.sh d) λ e he=>h e (zAG _ he)
  rw[cY];by_cases hx:x=0
  .subst hx
   right;simp
  .simp[hx,mC hb hb2]
   exact ih
def aG2(hk0:0<=k)(hk1:k<2^40)(hb:0<b)(hb2:b<1073741824):∃r:Int,aX [.int c,.int k,.int b]= .ok (.int r)/\0<=r/\r<b:=by
 have hp:aHu (.int 10) (.int 18)= .ok (.int 1000000000000000000):=rfl;by_cases hc:(1000000000000000000:Int)<=c
 .have hr:=gK (j:=k) (by lia) (by lia)
  have hl:=v7 hb hb2 (c:=c) (k:=k) (au 0 k) c .no λ d hd=>let⟨n,e,_⟩:=zM.mp hd;⟨n,e⟩
  rcases hl with ⟨y,s',e⟩|e
  .refine⟨y%b,?_,zDk _ (by lia),zDG _ hb⟩
   simp[aX,dI,ao,hp,hc,hr,e,lG hb]
  .refine⟨0,?_,by lia,hb⟩
   simp[aX,dI,ao,hp,hc,hr,e]
 .have s1:∀z:Int,0<=z%2147483647/\z%2147483647<2147483647:=λ z=>⟨zDk _ (by decide),zDG _ (by decide)⟩
  have s2:∀z:Int,0<=z%2147483629/\z%2147483629<2147483629:=λ z=>⟨zDk _ (by decide),zDG _ (by decide)⟩
  have m1:∀z,lF (.int 1009) (.int z)= .ok (.int (1009*z)):=λ z=>aAf (by decide) (by decide)
  have m2:∀z,lF (.int z) (.int 69621)= .ok (.int (z*69621)):=λ z=>aDq (by decide) (by decide)
  have m3:∀z,lF (.int 40503) (.int z)= .ok (.int (40503*z)):=λ z=>aAf (by decide) (by decide)
  have m4:∀z,lF (.int z) (.int 48271)= .ok (.int (z*48271)):=λ z=>aDq (by decide) (by decide)
  have m5:∀z:Int,lF (.int (z%2147483647)) (.int (z%2147483647))= .ok (.int (z%2147483647*(z%2147483647))):=λ z=>aAf (by have:=s1 z;lia) (by have:=s1 z;lia)
  have d1:∀z,pU (.int z) (.int 1000000007)= .ok (.int (z%1000000007)):=λ z=>lG (by decide)
  have d2:∀z,pU (.int z) (.int 2147483647)= .ok (.int (z%2147483647)):=λ z=>lG (by decide)
  have d3:∀z,pU (.int z) (.int 2147483629)= .ok (.int (z%2147483629)):=λ z=>lG (by decide)
  have d4:∀z,jE (.int z) (.int 32)= .ok (.int (z / 32)):=λ z=>mC (by decide) (by decide)
  have d5:∀z,pU (.int z) (.int b)= .ok (.int (z%b)):=λ z=>lG hb
  simp[aX,dI,ao,hp,hc,m1,m2,m3,m4,m5,d1,d2,d3,d4,d5,-Int.emod_emod_of_dvd];exact⟨zDk _ (by lia),zDG _ hb⟩
def jF(hk0:0<=k)(hk1:k<2^40)(hb:0<b)(hb2:b<1073741824):∃r:Nat,aX [.int c,.int k,.int b]= .ok (.int r)/\(r:Int)<b:=by
 obtain⟨r,e,h0,h1⟩:=aG2 (c:=c) hk0 hk1 hb hb2;exact⟨r.toNat,by rw[zB6 h0];exact e,by lia⟩
def aG8(h:0<=k):∃c:Int,cz [.scr ns,.int k]= .ok (.int c):=by
 by_cases hk:k<ns.length
 .obtain⟨d,e,hm,_⟩:=aEb (l:=ns.map .int) (i:=k) h (by simpa using hk)
  obtain⟨c,_,rfl⟩:=zAS.mp hm;exact⟨c,by simp[cz,bz,ao,hk,e]⟩
 .exact⟨0,by simp[cz,bz,ao,hk]⟩
mutual
def pln:D->Bool
 | .tup l=>pP l
 | .lst l=>pP l
 | .set _=>false
 | .scr _=>false
 | .fn _=>false
 |_=>true
def pP:List D->Bool
 |[]=>true
 |d::r=>pln d&&pP r
end
def rG(h:pln d=true):knd d=true:=by cases d<;>first|rfl|(simp[pln]at h)
theorem yz:∀{l:List D} {d:D},pP l=true->d∈l->pln d=true
 |x::r,d,h,hm=>by
  simp only[pP,zAP]at h;rcases zAX.mp hm with rfl|hm
  .exact h.1
  .exact yz h.2 hm
theorem aB5:∀{l:List D},(∀d∈l,pln d=true)->pP l=true
 |[],_=>rfl
 |x::r,h=>by
  simp only[pP,zAP];exact⟨h x (zAL ..),aB5 λ d hd=>h d (zAG _ hd)⟩
def aAF:D->Bool
 | .int _=>true
 |_=>false
def aBa:D->Bool
 | .int i=>decide (0<=i)&&decide (i<=60)
 |_=>false
def fX(m:Int):D->Bool
 | .int i=>decide (0<=i)&&decide (i<m)
 |_=>false
def qP(h:knd d=true):ie [d]= .ok (.bl (aAF d)):=by
 simp[ie,gD,ao,aGJ h,aEF h];cases d<;>rfl
def aAv(h:knd d=true):mH [d]= .ok (.bl (aBa d)):=by
 simp[mH,iC,ao,qP h];cases d<;>simp[aAF,aBa]
 rename_i i;by_cases h0:0<=i<;>simp[h0]
def qQ(h:knd d=true):eF [.int m,d]= .ok (.bl (fX m d)):=by
 simp[eF,gF,ao,qP h];cases d<;>simp[aAF,fX]
 rename_i i;by_cases h0:0<=i<;>simp[h0]
def iQ(m:Int):D->Bool
 | .tup [.int a,.int b]=>decide (0<=a)&&decide (a<m)&&decide (0<=b)&&decide (b<m)&& !(a==b)
 |_=>false
def vM(h:fX m d=true):∃i:Int,d= .int i/\0<=i/\i<m:=by
 cases d with
 |int i=>simp[fX]at h;exact⟨i,rfl,h.1,h.2⟩
 |_=>simp[fX]at h
def aCj(h:pY d=true):∃l,d= .tup l:=by cases d<;>first|exact⟨_,rfl⟩|(cases h)
def aHX(h:l.length=2):∃x y,l=[x,y]:=by
 match l,h with
 |[x,y],_=>exact⟨x,y,rfl⟩
def aDf(h:pY d=false):iQ m d=false:=by cases d<;>first|rfl|(cases h)
def aCH(h:l.length≠2):iQ m (.tup l)=false:=by
 match l,h with
 |[],_=>rfl
 |[x],_=>cases x<;>rfl
 |[x,y],h=>exact absurd rfl h
 |x::y::z::r,_=>cases x<;>first|rfl|(cases y<;>rfl)
def aFa(h:fX m x=false):iQ m (.tup [x,y])=false:=by
 cases x with
 |int i=>
  cases y with
  |int j=>
   show((((decide (0<=i)&&decide (i<m))&&decide (0<=j))&&decide (j<m))&& !(i==j))=false
   rw[show(decide (0<=i)&&decide (i<m))=false from h];rfl
  |_=>rfl
 |_=>rfl
def aF9(h:fX m y=false):iQ m (.tup [.int i,y])=false:=by
 cases y with
 |int j=>
  show((((decide (0<=i)&&decide (i<m))&&decide (0<=j))&&decide (j<m))&& !(i==j))=false
  rw[zDv (decide (0<=i)&&decide (i<m)),show(decide (0<=j)&&decide (j<m))=false from h,zCR];rfl
 |_=>rfl
def aDe(h1:fX m (.int i)=true)(h2:fX m (.int j)=true):iQ m (.tup [.int i,.int j])= !(i==j):=by
 show((((decide (0<=i)&&decide (i<m))&&decide (0<=j))&&decide (j<m))&& !(i==j))= !(i==j)
 rw[zDv (decide (0<=i)&&decide (i<m)),show(decide (0<=j)&&decide (j<m))=true from h2,show(decide (0<=i)&&decide (i<m))=true from h1];rfl
def aIh(hk:knd d=true)(h:pY d=false):ipE [s,.sh d]= .rt (.bl false):=by simp[ipE,pX hk,h]
def aGN(h:l.length≠2):ipE [s,.sh (.tup l)]= .rt (.bl false):=by
 have:¬((l.length:Int)=2):=by omega
 simp[ipE,this]
def aGM:ipE [s,.sh (.tup [x,y])]= .nx [s,.sh (.tup [x,y])]:=by simp[ipE]
def aAu(h:pln d=true):j9 [.int m,d]= .ok (.bl (iQ m d)):=by
 have st:ao 2 [.int m,d]=[.sh (.int m),.sh d]:=rfl;simp only[j9,iB,bO,st];cases ht:pY d with
 |false=>rw[aK,aIh (rG h) ht,aDf ht];rfl
 |true=>
  obtain⟨l,rfl⟩:=aCj ht;by_cases hl:l.length=2
  .obtain⟨x,y,rfl⟩:=aHX hl
   simp only[pln,pP,zAP]at h;have hx:=qQ (m:=m) (rG h.1);have hy:=qQ (m:=m) (rG h.2.1);have ex:aU eF (aC (aD 0) (aC (op2 ixD (aD 1) (cD (.int 0))) aH)) [.sh (.int m),.sh (.tup [x,y])]= .ok (.bl (fX m x)):=by simp[hx]
   have ey:aU eF (aC (aD 0) (aC (op2 ixD (aD 1) (cD (.int 1))) aH)) [.sh (.int m),.sh (.tup [x,y])]= .ok (.bl (fX m y)):=by simp[hy]
   rw[aK,aGM,aR,jA,yD,ex,bx,aBr,yD,ey,bx,aBr];cases c1:fX m x with
   |false=>rw[aFa c1];rfl
   |true=>
    obtain⟨i,rfl,_,_⟩:=vM c1;cases c2:fX m y with
    |false=>rw[aF9 c2];rfl
    |true=>
     obtain⟨j,rfl,_,_⟩:=vM c2;rw[aDe c1 c2];rfl
  .rw[aK,aGN hl,aCH hl];rfl
def pD(p:Int×Int):D:=.tup [.int p.1,.int p.2]
def ltP(p q:Int×Int):Bool:=HT.lexLt [p.1,p.2] [q.1,q.2]
def ul:gX->Bool
 |[]=>true
 |[_]=>true
 |p::q::r=>ltP p q&&ul (q::r)
def aI3(p q:Int×Int):ltD (pD p) (pD q)= .ok (.bl (ltP p q)):=aGA [p.1,p.2] [q.1,q.2]
theorem ph:∀(ds:List D) (ok:Nat->Bool) (I:En->Prop) (ρ:En),I ρ->(∀(i:Nat) d ρ,ds[i]? =some d->I ρ->okE (a d ρ) u= .rt r/\ok i=false\/∃ρ',okE (a d ρ) u= .nx ρ'/\I ρ'/\ok i=true)->
  (forL a u ds ρ= .rt r/\∃i,i<ds.length/\ok i=false)\/(∃ρ',forL a u ds ρ= .nx ρ'/\I ρ'/\∀i,i<ds.length->ok i=true)
 |[],ok,I,ρ,h,_=>.inr ⟨ρ,rfl,h,λ i hi=>absurd hi (zFB _)⟩
 |d::ds,ok,I,ρ,h,hs=>by
  rw[cY];rcases hs 0 d ρ rfl h with ⟨e,o⟩|⟨ρ',e,h',o⟩
  .left
   refine⟨?_,0,by simp,o⟩;cases ea:a d ρ with
   |ok ρ1=>rw[ea]at e;simp at e ⊢;rw[e];rfl
   |ex c=>rw[ea]at e;cases e
   |st=>rw[ea]at e;cases e
  .have ih:=ph ds (λ i=>ok (i+1)) I ρ' h' λ i d2 ρ2 e2 h2=>hs (i+1) d2 ρ2 (by simpa using e2) h2
   have e3:okE (a d ρ) (λ ρ1=>(u ρ1).tn (forL a u ds))=forL a u ds ρ':=by
    cases ea:a d ρ with
    |ok ρ1=>rw[ea]at e;simp at e ⊢;rw[e];rfl
    |ex c=>rw[ea]at e;cases e
    |st=>rw[ea]at e;cases e
   rw[e3];rcases ih with ⟨e4,i,hi,o4⟩|⟨ρ4,e4,h4,o4⟩
   .exact .inl ⟨e4,i+1,by simpa using hi,o4⟩
   .refine .inr ⟨ρ4,e4,h4,λ i hi=>?_⟩
    cases i with
    |zero=>exact o
    |succ i=>exact o4 i (by simpa using hi)
def lC{i:Nat}(h:(au lo hi)[i]? =some d):d= .int (lo+i)/\lo+i<hi:=by
 unfold au at h;rw[zAT]at h;by_cases hi2:i<(hi-lo).toNat
 .rw[zEH hi2]at h
  cases h;exact⟨rfl,by omega⟩
 .rw[zDc (by simpa using hi2)]at h
  cases h
def gU:(au lo hi).length=(hi-lo).toNat:=by unfold au;simp
section
variable{α:Type}{f:α->D}{lt:α->α->Bool}
def su(lt:α->α->Bool):List α->Bool
 |[]=>true
 |[_]=>true
 |p::q::r=>lt p q&&su lt (q::r)
theorem oJ:∀{ps:List α},su lt ps=true↔∀(i:Nat) (p q:α),ps[i]? =some p->ps[i+1]? =some q->lt p q=true
 |[]=>by simp[su]
 |[x]=>by
  simp only[su,true_iff];intro i p q _ h2;simp at h2
 |x::y::r=>by
  have ih:=oJ (ps:=y::r);unfold su;rw[zAP,ih];constructor
  .rintro⟨h1,h2⟩ i p q e1 e2
   cases i with
   |zero=>simp at e1 e2;subst e1 e2;exact h1
   |succ i=>exact h2 i p q (by simpa using e1) (by simpa using e2)
  .intro h
   exact⟨h 0 x y rfl rfl,λ i p q e1 e2=>h (i+1) p q (by simpa using e1) (by simpa using e2)⟩
def zU(hlt:∀a b,ltD (f a) (f b)= .ok (.bl (lt a b)))(hl:ps.length<=100000):eY [.tup (ps.map f)]= .ok (.bl (su lt ps)):=by
 have hr:=aBX (i:=1) (j:=(ps.length:Int)) (by decide) (by decide) (by omega) (by omega);have hW:(au 1 (ps.length:Int)).length=ps.length-1:=by rw[gU];omega
 have L:=ph (a:=gnm 1) (u:=ifS (qx (tsb (op2 ltD (op2 ixD (aD 0) (op2 wC (aD 1) (cD (.int 1)))) (op2 ixD (aD 0) (aD 1))))) (retS (cD (.bl false))) Ou.nx) (r:=.bl false)
  (au 1 (ps.length:Int)) (λ i=>match ps[i]?,ps[i+1]? with|some p,some q=>lt p q|_,_=>true) (λ ρ=>∃s,ρ=[.sh (.tup (ps.map f)),s]) [.sh (.tup (ps.map f)),.no] ⟨_,rfl⟩ (by
   rintro i d ρ hd ⟨s,rfl⟩;obtain⟨rfl,h2⟩:=lC hd;have e1:ps[i]? =some ps[i]:=zAE (by omega);have e2:ps[i+1]? =some ps[i+1]:=zAE (by omega);have a1:atD (ps.map f) (1+(i:Int)-1)= .ok (f ps[i]):=by
    rw[show(1+(i:Int)-1)=(i:Int)by omega];exact dj (by rw[zAT,e1];rfl)
   have a2:atD (ps.map f) (1+(i:Int))= .ok (f ps[i+1]):=by
    rw[show(1+(i:Int))=((i+1:Nat):Int)by omega];exact dj (by rw[zAT,e2];rfl)
   simp only[e1,e2];cases c:lt ps[i] ps[i+1]with
   |true=>right;exact⟨_,by simp[a1,a2,hlt,c];rfl,⟨_,rfl⟩,rfl⟩
   |false=>left;exact⟨by simp[a1,a2,hlt,c],rfl⟩)
 have st:ao 2 [.tup (ps.map f)]=[.sh (.tup (ps.map f)),.no]:=rfl;rcases L with ⟨e,i,hi,o⟩|⟨ρ',e,⟨s,rfl⟩,o⟩
 .have:su lt ps=false:=by
   cases c:su lt ps with
   |false=>rfl
   |true=>
    rw[hW]at hi;have z:=oJ.mp c i ps[i] ps[i+1] (zAE (by omega)) (zAE (by omega));rw[zAE (by omega),zAE (by omega)]at o;simp only at o;rw[z]at o;cases o
  rw[this];simp only[eY,dJ,bO,st];simp[hr,e]
 .have:su lt ps=true:=oJ.mpr λ i p q e1 e2=>by
   have h2:=(zAM.mp e2).1
   have:=o i (by rw[hW];omega)
   rw[e1,e2]at this;exact this
  rw[this];simp only[eY,dJ,bO,st];simp[hr,e]
end
theorem aAZ:∀ps:gX,ul ps=su ltP ps
 |[]=>rfl
 |[_]=>rfl
 |p::q::r=>by unfold ul su;rw[aAZ (q::r)]
def xM(hl:ps.length<=100000):eY [.tup (ps.map pD)]= .ok (.bl (ul ps)):=by
 rw[aAZ];exact zU aI3 hl
def wW:ul ps=true↔∀(i:Nat) (p q:Int×Int),ps[i]? =some p->ps[i+1]? =some q->ltP p q=true:=by rw[aAZ];exact oJ
def aFX:D->Int×Int
 | .tup [.int a,.int b]=>(a,b)
 |_=>(0,0)
def aAa(h:iQ m d=true):∃a b:Int,d= .tup [.int a,.int b]/\0<=a/\a<m/\0<=b/\b<m/\a≠b:=by
 unfold iQ at h;split at h
 .rename_i a b
  simp at h;exact⟨a,b,rfl,h.1.1.1.1,h.1.1.1.2,h.1.1.2,h.1.2,h.2⟩
 .cases h
theorem aHI:∀{ts:List D},ts.all (iQ m)=true->(ts.map aFX).map pD=ts
 |[],_=>rfl
 |t::ts,h=>by
  rw[zFh,zAP]at h;obtain⟨a,b,rfl,_⟩:=aAa h.1;simp only[zAH];rw[aHI h.2];rfl
def rpB(m:Int):D->Bool
 | .tup ts=>ts.all (iQ m)&&ul (ts.map aFX)
 |_=>false
def aH6:D->Bool
 | .tup l=>decide (l.length<=100000)
 |_=>true
def mQ(h:pln d=true)(hs:aH6 d=true):bK [.int m,d]= .ok (.bl (rpB m d)):=by
 cases d with
 |tup ts=>
  have hp:pP ts=true:=by simpa[pln]using h
  have hl:ts.length<=100000:=by simpa[aH6]using hs
  have L:=ph (a:=gnm 2) (u:=ifS (qx (tst (aU j9 (aC (aD 0) (aC (aD 2) aH))))) (retS (cD (.bl false))) Ou.nx) (r:=.bl false)
   ts (λ i=>match ts[i]? with|some t=>iQ m t|none=>true) (λ ρ=>∃s,ρ=[.sh (.int m),.sh (.tup ts),s]) [.sh (.int m),.sh (.tup ts),.no] ⟨_,rfl⟩ (by
    rintro i d ρ hd ⟨s,rfl⟩;have e:=aAu (m:=m) (yz hp (zA9 hd));simp only[hd];cases c:iQ m d with
    |true=>right;exact⟨_,by simp[e,c];rfl,⟨_,rfl⟩,rfl⟩
    |false=>left;exact⟨by simp[e,c],rfl⟩)
  have st:ao 3 [.int m,.tup ts]=[.sh (.int m),.sh (.tup ts),.no]:=rfl;rcases L with ⟨e,i,hi,o⟩|⟨ρ',e,⟨s,rfl⟩,o⟩
  .have:ts.all (iQ m)=false:=by
    rw[List.all_eq_false];rw[zAE hi]at o;exact⟨ts[i],zCi hi,by simpa using o⟩
   simp only[bK,az,bO,st];simp[e,rpB,this]
  .have:ts.all (iQ m)=true:=by
    rw[zAv];intro t ht;obtain⟨i,hi,rfl⟩:=zBw ht
    have:=o i hi
    rw[zAE hi]at this;exact this
   have er:=xM (ps:=ts.map aFX) (by rw[zAB];exact hl);rw[aHI this]at er;simp only[bK,az,bO,st];simp[e,rpB,this,er]
 |_=>simp[bK,az,ao,pX (rG h),pY,rpB]
structure Ow(n:Int)(ps:gX):Prop where
 n0:0<=n
 n1:n<=60
 len:ps.length<=3600
 pr:∀p∈ps,0<=p.1/\p.1<n/\0<=p.2/\p.2<n/\p.1≠p.2
 ris:ul ps=true
def owD(n:Int)(ps:gX):D:=.tup [.int n,.tup (ps.map pD)]
def Ow.rp(h:Ow n ps):rpB n (.tup (ps.map pD))=true:=by
 have e:(ps.map pD).map aFX=ps:=by rw[zAe];exact(zAz λ p _=>rfl).trans (zG1 ps)
 unfold rpB;dsimp only;rw[e,h.ris,zDU,zAv];intro d hd;obtain⟨p,hp,rfl⟩:=zAS.mp hd;obtain⟨a,b,c,d,e⟩:=h.pr p hp;simp[pD,iQ,a,b,c,d,e]
theorem aB4:∀ps:gX,pP (ps.map pD)=true
 |[]=>rfl
 |p::ps=>by simp only[zAH,pP,aB4 ps,zDU];rfl
theorem uQ:∀ns:List Int,bZ (ns.map .int)=0/\aV (ns.map .int)=true
 |[]=>⟨rfl,rfl⟩
 |n::ns=>by
  obtain⟨h1,h2⟩:=uQ ns;simp[bZ,gm,aV,aP,h1,h2]
def aBf(neg:Bool)(y:Int)(ns:List Int):inR neg (.int y) (.lst (ns.map .int))= .ok (.bl (if neg then !decide (y∈ns)else decide (y∈ns))):=by
 obtain⟨h1,h2⟩:=uQ ns;have e:inD (.int y) (ns.map .int)=decide (y∈ns):=by
  unfold inD;rw[zBH];simp[zGs,eqD]
 unfold inR;dsimp only;rw[h1,h2,e];rfl
def xu(f:α->Bool)(l:List α):boolsOf (l.map λ x=>D.bl (f x))=some (l.map f):=by
 have:=qj (l.map f)
 rwa [zAe]at this
def aEf(f:α->Bool)(l:List α):yE (λ bs=>bs.all id) [.lst (l.map λ x=>D.bl (f x))]= .ok (.bl (l.all f)):=by
 unfold yE;dsimp only;rw[xu];dsimp only;rw[zGJ];rfl
theorem oV:∀(l:List α),(∀x∈l,∃ρ1,fg (f x) ρ= .ok ρ1/\ft ρ1= .ok (t x)/\fe ρ1= .ok (g x))->lcL ρ fg ft fe (l.map f)= .ok ((l.filter t).map g)
 |[],_=>rfl
 |x::l,h=>by
  obtain⟨ρ1,e1,e2,e3⟩:=h x zAL;have ih:=oV l λ y hy=>h y (zAG _ hy)
  rw[zAH];unfold lcL;rw[e1,bx,e2,bx,e3,bx,ih,bx,zBJ];cases t x<;>rfl
theorem aHN{ρ:En}:∀(ps:gX),lcL [.no,.no] (gq 2 (bC (gnm 0) (bC (gnm 1) iU))) ik (op2 ltD (aD 0) (aD 1)) (ps.map pD)= .ok (ps.map λ p=>.bl (decide (p.1<p.2)))
 |[]=>rfl
 |p::ps=>by
  unfold lcL;simp[pD,aHN (ρ:=ρ) ps]
def zy{n:Int}(h:Ow n ps)(low:∀p∈ps,p.1<p.2):jt [.int n,.tup (ps.map pD)]= .ok (.bl true):=by
 have hl:=h.len;have e:=mQ (m:=n) (d:=.tup (ps.map pD)) (by simpa[pln]using aB4 ps) (by simp[aH6];lia);rw[h.rp]at e;have el:=aHN (ρ:=[]) ps;have ei:lcD (cL (aD 1)) [none,none] (gq 2 (bC (gnm 0) (bC (gnm 1) iU))) ik (op2 ltD (aD 0) (aD 1)) [.sh (.int n),.sh (.tup (ps.map pD))]= .ok (.lst (ps.map λ p=>.bl (decide (p.1<p.2)))):=by
  have hi:cL (aD 1) (shE [.sh (.int n),.sh (.tup (ps.map pD))])= .ok (ps.map pD):=by simp[shE,mJ]
  unfold lcD;rw[hi,bx,if_pos (by rw[szl,zAB];lia)]
  show(match lcL [.no,.no] _ ik _ (ps.map pD)with| .ok l=>Rs.ok (D.lst l)|_=>Rs.st)=_
  rw[el]
 have ha:opA (yE λ bs=>bs.all id) (aC (lcD (cL (aD 1)) [none,none] (gq 2 (bC (gnm 0) (bC (gnm 1) iU))) ik (op2 ltD (aD 0) (aD 1))) aH) [.sh (.int n),.sh (.tup (ps.map pD))]= .ok (.bl true):=by
  rw[jK,bw,ei,bx,rJ,bx,bx,aEf,pR];rw[zAv.mpr λ p hp=>decide_eq_true (low p hp)]
 have st:ao 2 [.int n,.tup (ps.map pD)]=[.sh (.int n),.sh (.tup (ps.map pD))]:=rfl;have ec:aU bK (aC (aD 0) (aC (aD 1) aH)) [.sh (.int n),.sh (.tup (ps.map pD))]= .ok (.bl true):=by rw[o8];exact e
 simp only[jt,gG,bO,st];rw[jA,yD,ec,ha];rfl
def aCU(h:Ow n ps)(low:∀p∈ps,p.1<p.2):pF [owD n ps]= .ok (.bl true):=by
 have e1:=aAv (d:=.int n) rfl;have e2:=zy h low;have e3:aBa (.int n)=true:=by simp[aBa,h.n0,h.n1]
 rw[e3]at e1;simp[pF,j0,owD,ao,e1,e2]
def jM(h1:fi (shE ρ)= .ok ds)(h2:ds.length<16777216)(h3:lcL (stE js (shE ρ)) fg ft fe ds= .ok out):lcD fi js fg ft fe ρ= .ok (.lst out):=by
 unfold lcD;rw[h1,bx,if_pos (by rw[szl];exact h2),h3]
def nT(l:List α)(h:∀x∈l,∃ρ1,fg (f x) ρ= .ok ρ1/\fe ρ1= .ok (g x)):lcL ρ fg ik fe (l.map f)= .ok (l.map g):=by
 have:=oV (ρ:=ρ) (fg:=fg) (ft:=ik) (fe:=fe) (f:=f) (g:=g) (t:=λ _=>true) l λ x hx=>by
  obtain⟨ρ1,h1,h2⟩:=h x hx;exact⟨ρ1,h1,rfl,h2⟩
 rwa [zEG.mpr λ _ _=>rfl]at this
def aEI(neg:Bool)(y:Int)(ns:List Int):inR neg (.int y) (.tup (ns.map .int))= .ok (.bl (if neg then !decide (y∈ns)else decide (y∈ns))):=aBf neg y ns
def bW(ll:cK)(p:Int×Int):cK:=ll.set p.1.toNat (ll.getD p.1.toNat []++[.int p.2])
theorem pq:∀(ps:gX) (ll:cK),(ps.foldl bW ll).length=ll.length
 |[],_=>rfl
 |p::ps,ll=>by rw[zCt,pq ps];unfold bW;rw[zBP]
def iT(ps:gX)(i:Int):List Int:=(ps.filter λ p=>p.1==i).map (·.2)
theorem vV:∀(ps:gX) (ll:cK) (i:Nat),(∀p∈ps,0<=p.1/\p.1<ll.length)->i<ll.length->(ps.foldl bW ll).getD i []=ll.getD i []++(iT ps i).map .int
 |[],ll,i,_,_=>by simp[iT]
 |p::ps,ll,i,h,hi=>by
  obtain⟨h0,h1⟩:=h p zAL;rw[zCt,vV ps (bW ll p) i (λ q hq=>by unfold bW;rw[zBP];exact h q (zAG _ hq)) (by unfold bW;rw[zBP];exact hi)];unfold bW iT;by_cases c:p.1=i
  .have hk:p.1.toNat=i:=by lia
   rw[hk,List.filter_cons_of_pos (by simpa using c)];simp[hi]
  .have hk:p.1.toNat≠i:=by lia
   rw[List.filter_cons_of_neg (by simpa using c)];simp[zAu hk]
def xG:b∈iT ps a↔(a,b)∈ps:=by
 unfold iT;simp only[zAS,zA6];constructor
 .rintro⟨p,⟨h1,h2⟩,rfl⟩
  have:p.1=a:=by simpa using h2
  rw[<-this];exact h1
 .intro h
  exact⟨(a,b),⟨h,by simp⟩,rfl⟩
def dbl(ps:gX):gX:=ps.flatMap λ p=>[p,(p.2,p.1)]
def cU:(a,b)∈dbl ps↔(a,b)∈ps\/(b,a)∈ps:=by
 unfold dbl;simp only[zEa,zAX,zEb,or_false];constructor
 .rintro⟨p,hp,h|h⟩
  .rw[h];exact .inl hp
  .cases h;exact .inr hp
 .rintro(h|h)
  .exact⟨_,h,.inl rfl⟩
  .exact⟨_,h,.inr rfl⟩
def zc(p:Int×Int)(ps:gX):dbl (p::ps)=p::(p.2,p.1)::dbl ps:=rfl
def yC(hi:ρ[i]? =some (.o2 ll))(hf:f ρ= .ok (.int a))(hg:g ρ= .ok (.int b))(h0:0<=a)(h1:a<ll.length)(hz:(ll.getD a.toNat []).length<16777216):
  lY i f g ρ= .nx (ρ.set i (.o2 (bW ll (a,b)))):=by
 have hk:a.toNat<ll.length:=by lia
 have ha:at2 ll (.int a)=some (a.toNat,ll.getD a.toNat []):=by
  have hx:ixN ll.length a=some a.toNat:=by
   unfold ixN;rw[if_pos (by lia),if_pos (by lia)]
  simp only[at2,hx,zG9];rw[zAE hk];simp[hk]
 unfold lY;rw[hi];dsimp only;rw[hf,bG,ha];dsimp only;rw[hg,bG,if_pos (by rw[zB1];exact hz)];rfl
def oE(ll:cK)(p:Int×Int):(bW ll p).length=ll.length:=by unfold bW;rw[zBP]
def aBN(h:∀l∈ll,l.length<=m):∀l∈bW ll p,l.length<=m+1:=by
 intro l hl;unfold bW at hl;rcases List.mem_or_eq_of_mem_set hl with z|z
 .exact Nat.le_succ_of_le (h l z)
 .subst z
  rw[zAV,zAs]
  have:(ll.getD p.1.toNat []).length<=m:=by
   by_cases hk:p.1.toNat<ll.length
   .exact h _ (by simp[hk])
   .simp[zDc (zD2 hk)]
  lia
def aBl{ll:cK}(h:∀l∈ll,l.length<=m)(k:Nat):(ll.getD k []).length<=m:=by
 by_cases hk:k<ll.length
 .exact h _ (by simp[hk])
 .simp[zDc (zD2 hk)]
def atB:En->Ou:=aW (lY 3 (aD 4) (aq (aD 5))) (lY 3 (aD 5) (aq (aD 4)))
theorem vB{w s1 s2:Slot}:∀(ps:gX) (ll:cK) (s4 s5:Slot),(∀p∈ps,0<=p.1/\p.1<ll.length/\0<=p.2/\p.2<ll.length)->(∀l∈ll,l.length+2*ps.length<=10000)->
  ∃s4' s5',forL (gq 2 (bC (gnm 4) (bC (gnm 5) iU))) atB (ps.map pD) [w,s1,s2,.o2 ll,s4,s5]= .nx [w,s1,s2,.o2 ((dbl ps).foldl bW ll),s4',s5']
 |[],ll,s4,s5,_,_=>⟨s4,s5,rfl⟩
 |p::ps,ll,s4,s5,h,hl=>by
  obtain⟨a0,a1,b0,b1⟩:=h p zAL;have hb0:∀l∈ll,l.length<=10000-2*(ps.length+1):=λ l hm=>by
   have:=hl l hm
   rw[zA2]at this;lia
  have hb1:=aBN (p:=p) hb0;have hb2:=aBN (p:=(p.2,p.1)) hb1;by_cases hne:ll=[]
  .subst hne
   simp at a1;lia
  have hbig:2*(ps.length+1)<=10000:=by
   obtain⟨l,hm⟩:=zFW ll hne
   have:=hl l hm
   rw[zA2]at this;lia
  obtain⟨s4',s5',e⟩:=vB (w:=w) (s1:=s1) (s2:=s2) ps (bW (bW ll p) (p.2,p.1)) (.sh (.int p.1)) (.sh (.int p.2)) (λ q hq=>by rw[oE,oE];exact h q (zAG _ hq)) (λ l hm=>by have:=hb2 l hm;lia);refine⟨s4',s5',?_⟩;rw[zAH,cY,zc,zCt,zCt];have hg:okE (gq 2 (bC (gnm 4) (bC (gnm 5) iU)) (pD p) [w,s1,s2,.o2 ll,s4,s5]) (λ ρ1=>(atB ρ1).tn (forL (gq 2 (bC (gnm 4) (bC (gnm 5) iU))) atB (ps.map pD)))=
    (atB [w,s1,s2,.o2 ll,.sh (.int p.1),.sh (.int p.2)]).tn (forL (gq 2 (bC (gnm 4) (bC (gnm 5) iU))) atB (ps.map pD)):=by
   simp[pD]
  have c1:lY 3 (aD 4) (aq (aD 5)) [w,s1,s2,.o2 ll,.sh (.int p.1),.sh (.int p.2)]= .nx [w,s1,s2,.o2 (bW ll p),.sh (.int p.1),.sh (.int p.2)]:=
   yC (a:=p.1) (b:=p.2) rfl (by simp) (by simp) a0 a1 (by have:=aBl hb0 p.1.toNat;lia)
  have c2:lY 3 (aD 5) (aq (aD 4)) [w,s1,s2,.o2 (bW ll p),.sh (.int p.1),.sh (.int p.2)]= .nx [w,s1,s2,.o2 (bW (bW ll p) (p.2,p.1)),.sh (.int p.1),.sh (.int p.2)]:=
   yC (a:=p.2) (b:=p.1) rfl (by simp) (by simp) b0 (by rw[oE];exact b1) (by have:=aBl hb1 p.2.toNat;lia)
  have hc:atB [w,s1,s2,.o2 ll,.sh (.int p.1),.sh (.int p.2)]= .nx [w,s1,s2,.o2 (bW (bW ll p) (p.2,p.1)),.sh (.int p.1),.sh (.int p.2)]:=by
   unfold atB;rw[aK,c1,aR,c2]
  rw[hg,hc,mU];exact e
structure aGj(n:Int)(es:gX)(ll:cK):Prop where
 len:ll.length=n.toNat
 item:∀i:Int,0<=i->i<n->∃ws:List Int,atD (ll.map .lst) i= .ok (.lst (ws.map .int))/\∀b,b∈ws↔(i,b)∈es
def pA(h:Ow n ps):∃ll,cX [owD n ps]= .ok (.lst (ll.map .lst))/\aGj n (dbl ps) ll/\∀i:Int,0<=i->i<n->atD (ll.map .lst) i= .ok (.lst ((iT (dbl ps) i).map .int)):=by
 have hn0:=h.n0;have hn1:=h.n1;have hr:=gK (j:=n) (by lia) (by lia);have hW:(au 0 n).length=n.toNat:=by rw[gU];lia
 have hps:=h.len;have hin:∀p∈ps,0<=p.1/\p.1<(zAN n.toNat ([]:List D)).length/\0<=p.2/\p.2<(zAN n.toNat ([]:List D)).length:=λ p hp=>by
  obtain⟨a,b,c,d,_⟩:=h.pr p hp;rw[zCF];lia
 have bE:∀p∈dbl ps,0<=p.1/\p.1<(zAN n.toNat ([]:List D)).length:=λ p hp=>by
  rcases cU.mp (show(p.1,p.2)∈dbl ps from hp)with z|z
  .have:=hin _ z;exact⟨this.1,this.2.1⟩
  .have:=hin _ z;exact⟨this.2.2.1,this.2.2.2⟩
 obtain⟨s4,s5,e⟩:=vB (w:=.sh (owD n ps)) (s1:=.sh (.int n)) (s2:=.sh (.tup (ps.map pD))) ps (zAN n.toNat []) .no .no hin (λ l hl=>by
  rw[(List.mem_replicate.mp hl).2];simp;lia)
 have item:∀i:Int,0<=i->i<n->atD (((dbl ps).foldl bW (zAN n.toNat [])).map .lst) i= .ok (.lst ((iT (dbl ps) i).map .int)):=by
  intro i h0 h1;have hk:i.toNat<(zAN n.toNat ([]:List D)).length:=by rw[zCF];lia
  have hg:=vV (dbl ps) (zAN n.toNat []) i.toNat bE hk;have hk2:i.toNat<((dbl ps).foldl bW (zAN n.toNat [])).length:=by rw[pq];exact hk
  have hi:((i.toNat:Nat):Int)=i:=zB6 h0;rw[hi]at hg;rw[<-hi];refine dj ?_;rw[hi,zAT,zAE hk2]
  have:((dbl ps).foldl bW (zAN n.toNat []))[i.toNat]=(iT (dbl ps) i).map .int:=by
   have e1:((dbl ps).foldl bW (zAN n.toNat [])).getD i.toNat []=((dbl ps).foldl bW (zAN n.toNat []))[i.toNat]:=by simp[hk2]
   rw[<-e1,hg];have e2:(zAN n.toNat ([]:List D)).getD i.toNat []=[]:=by
    rw[zAa,zBv];split<;>rfl
   rw[e2,zCu]
  rw[this];rfl
 refine⟨(dbl ps).foldl bW (zAN n.toNat []),?_,⟨by rw[pq,zCF],λ i h0 h1=>⟨iT (dbl ps) i,item i h0 h1,λ b=>xG⟩⟩,item⟩
 .have hz:n.toNat<16777216:=by lia
  have a0:aBB (aD 0) (gq 2 (bC (gnm 1) (bC (gnm 2) iU))) [.sh (owD n ps),.no,.no,.no,.no,.no]= .nx [.sh (owD n ps),.sh (.int n),.sh (.tup (ps.map pD)),.no,.no,.no]:=by
   simp[owD]
  have a1:llS 3 (gW iM (aC (aD 1) aH)) [none] (gnm 0) [.sh (owD n ps),.sh (.int n),.sh (.tup (ps.map pD)),.no,.no,.no]= .nx [.sh (owD n ps),.sh (.int n),.sh (.tup (ps.map pD)),.o2 (zAN n.toNat []),.no,.no]:=by
   unfold llS;simp[shE,mJ,hr,hW,hz]
  have a2:gk (cL (aD 2)) (gq 2 (bC (gnm 4) (bC (gnm 5) iU))) atB [.sh (owD n ps),.sh (.int n),.sh (.tup (ps.map pD)),.o2 (zAN n.toNat []),.no,.no]= .nx [.sh (owD n ps),.sh (.int n),.sh (.tup (ps.map pD)),.o2 ((dbl ps).foldl bW (zAN n.toNat [])),s4,s5]:=by
   have hi:cL (aD 2) [.sh (owD n ps),.sh (.int n),.sh (.tup (ps.map pD)),.o2 (zAN n.toNat []),.no,.no]= .ok (ps.map pD):=by simp
   rw[cG,hi,bG];exact e
  have a3:retS (vo 3) [.sh (owD n ps),.sh (.int n),.sh (.tup (ps.map pD)),.o2 ((dbl ps).foldl bW (zAN n.toNat [])),s4,s5]= .rt (.lst (((dbl ps).foldl bW (zAN n.toNat [])).map .lst)):=by simp
  have st:ao 6 [owD n ps]=[.sh (owD n ps),.no,.no,.no,.no,.no]:=rfl;have df:gH=aW (aBB (aD 0) (gq 2 (bC (gnm 1) (bC (gnm 2) iU)))) (aW (llS 3 (gW iM (aC (aD 1) aH)) [none] (gnm 0)) (aW (gk (cL (aD 2)) (gq 2 (bC (gnm 4) (bC (gnm 5) iU))) atB) (retS (vo 3)))):=rfl;simp only[cX,df,bO,st];rw[aK,a0,aR,aK,a1,aR,aK,a2,aR,a3]
def zz(h:Ow n ps):∃ll,cX [owD n ps]= .ok (.lst (ll.map .lst))/\aGj n (dbl ps) ll:=let⟨ll,a,b,_⟩:=pA h;⟨ll,a,b⟩
def aEe(ps:gX):List Int->Bool
 |a::b::r=>decide ((a,b)∈ps)&&aEe ps (b::r)
 |_=>true
def aK2:D->Bool
 | .tup l=>decide (l.length<4000)
 |_=>true
def cutD_from{l:List D}{k:Nat}(h:k<=l.length):cutD l (some (k:Int)) none=l.drop k:=by
 have e1:HT.sIx l.length 0 (some (k:Int))=k:=by simp[HT.sIx];lia
 have e2:HT.sIx l.length l.length none=l.length:=rfl;unfold cutD;rw[e1,e2,zBG (by rw[zE9];exact zAU _)]
def aG4{l:List D}{k:Nat}(h:k<=l.length):cutD l none (some (k:Int))=l.take k:=by
 have e1:HT.sIx l.length l.length (some (k:Int))=k:=by simp[HT.sIx];lia
 have e2:HT.sIx l.length 0 none=0:=rfl;unfold cutD;rw[e1,e2,zDy,zEc]
theorem xR{a:D->En->Rs En}{u:En->Ou}{I:En->Prop}:∀(ds:List D) (ρ:En),I ρ->(∀d∈ds,∀ρ,I ρ->∃ρ',okE (a d ρ) u= .nx ρ'/\I ρ')->∃ρ',forL a u ds ρ= .nx ρ'/\I ρ'
 |[],ρ,h,_=>⟨ρ,rfl,h⟩
 |d::ds,ρ,h,H=>by
  rw[cY];have tnE:∀(r':Rs En) (k:En->Ou),okE r' (λ ρ1=>(u ρ1).tn k)=(okE r' u).tn k:=λ r' k=>by cases r'<;>rfl
  rw[tnE];obtain⟨ρ',e,hI⟩:=H d zAL ρ h;rw[e,mU];exact xR ds ρ' hI λ y hy=>H y (zAG _ hy)
theorem aD4:∀ws:List Int,pP (ws.map .int)=true
 |[]=>rfl
 |_::ws=>by simp only[zAH,pP,aD4 ws,pln];rfl
theorem lK:∀ws:List Int,dR (ws.map .int)=true
 |[]=>rfl
 |_::ws=>by simp only[zAH,dR,lK ws,imm];rfl
theorem jm:∀{l:List D},(∀d∈l,imm d=true)->dR l=true
 |[],_=>rfl
 |x::r,h=>by
  simp only[dR,zAP];exact⟨h x (zAL ..),jm λ d hd=>h d (zAG _ hd)⟩
theorem za:∀{l:List D},(∀d∈l,gm d<=k)->bZ l<=k
 |[],_=>zAj _
 |x::r,h=>by
  unfold bZ;exact Nat.max_le.mpr ⟨h x zAL,za λ d hd=>h d (zAG _ hd)⟩
theorem vO:∀{l:List D},(∀d∈l,aP d=true)->aV l=true
 |[],_=>rfl
 |x::r,h=>by
  unfold aV;rw[h x zAL,vO λ d hd=>h d (zAG _ hd)];rfl
structure El(k:Nat)(d:D):Prop where
 p:pln d=true
 e:gm d<=k
 n:aP d=true
 i:imm d=true
theorem El.tup(h:∀d∈l,El k d):El (k+1) (.tup l):=⟨by unfold pln;exact aB5 λ d hd=>(h d hd).p,by unfold gm;exact Nat.succ_le_succ (za λ d hd=>(h d hd).e),by unfold aP;exact vO λ d hd=>(h d hd).n,by unfold imm;exact jm λ d hd=>(h d hd).i⟩
theorem El.int{k:Nat}{i:Int}:El k (.int i):=⟨rfl,zAj _,rfl,rfl⟩
def El.ints{k:Nat}{ws:List Int}:∀d∈ws.map D.int,El k d:=λ d hd=>by obtain⟨w,_,rfl⟩:=zAS.mp hd;exact .int
def El.g(h:El k d):oY d= .ok d:=xQ h.i
def aKe(h:l.length+m.length<=16777216):fU (.tup l) (.tup m)= .ok (.tup (l++m)):=by rw[aAB,if_pos h]
structure Fn4(d:D):Prop where
 p:pln d=true
 s:aK2 d=true
 e:gm d<=60
 n:aP d=true
theorem aEE{c:En->Rs Bool}{b:En->Ou}{I:Nat->En->Prop}(st:∀m ρ,I m ρ->c ρ= .ok false\/(c ρ= .ok true/\∃ρ' m',b ρ= .nx ρ'/\m'<m/\I m' ρ')):
  ∀(n m:Nat) (ρ:En),m<n->I m ρ->∃ρ' m',itW c b n ρ= .nx ρ'/\I m' ρ'/\c ρ'= .ok false
 |0,_,_,h,_=>absurd h (zFB _)
 |n+1,m,ρ,h,hI=>by
  rcases st m ρ hI with e|⟨e,ρ',m',e2,hm,hI'⟩
  .exact⟨ρ,m,by unfold itW;rw[e];rfl,hI,e⟩
  .obtain⟨ρ2,m2,e3,r⟩:=aEE st n m' ρ' (by lia) hI'
   refine⟨ρ2,m2,?_,r⟩;unfold itW;rw[e,bG,if_pos rfl,e2];exact e3
def yK{c:En->Rs Bool}{b:En->Ou}(I:Nat->En->Prop)(st:∀m ρ,I m ρ->c ρ= .ok false\/(c ρ= .ok true/\∃ρ' m',b ρ= .nx ρ'/\m'<m/\I m' ρ')){m:Nat}{ρ:En}(hm:m<1000000)(h:I m ρ):
  ∃ρ' m',pH c b ρ= .nx ρ'/\I m' ρ'/\c ρ'= .ok false:=aEE st fuel m ρ hm h
def upI(n:Int):List Int:=(zAw n.toNat).map λ(k:Nat)=>(k:Int)
def wV(n:Int):au 0 n=(upI n).map .int:=by
 unfold au upI;rw[zAe,show(n-0).toNat=n.toNat by lia];exact zAz λ k _=>by simp
def iG(n:Int):(upI n).Nodup:=by
 unfold upI;rw[zAg,zB2];exact List.nodup_range.imp λ h e=>h (by lia)
def bV:x∈upI n↔0<=x/\x<n:=by
 unfold upI;rw[zAS];constructor
 .rintro⟨k,hk,rfl⟩
  have:=zC9.mp hk
  lia
 .rintro⟨h0,h1⟩
  exact⟨x.toNat,zC9.mpr (by lia),by lia⟩
def dB(n:Int):(upI n).length=n.toNat:=by unfold upI;simp
def vG(h:l.length<64):ju [.lst (l.map .int)]= .ok (.lst ((sortI l).map .int)):=by
 cases l with
 |nil=>rfl
 |cons i r=>
  have e:kE ((i::r).map D.int)=none:=rfl;unfold ju;dsimp only;rw[e];dsimp only;rw[dH];dsimp only;rw[if_pos h]
def aJh(hf:f ρ= .ok (.int n))(h0:0<=n)(h1:n<=60):lrD f ρ= .ok (.lst (au 0 n)):=by
 unfold lrD;rw[hf,bx];unfold lrR;simp;lia
theorem vZ:∀(a b:List Int),fP (a.map .int) (b.map .int)=decide (a=b)
 |[],[]=>rfl
 |[],y::b=>by simp[fP]
 |x::a,[]=>by simp[fP]
 |x::a,y::b=>by
  have:=vZ a b
  simp only[zAH,fP,eqD,this,zDR];by_cases h:x=y<;>simp[h]
def xY(h:Ow n ps)(low:∀p∈ps,p.1<p.2):eZ [owD n ps]= .ok .non:=by
 have st:ao 1 [owD n ps]=[.sh (owD n ps)]:=rfl;simp only[eZ,eX,bO,st];simp[aCU h low]
inductive Cn(es:gX)(a:Int):Int->Prop where
 |refl:Cn es a a
 |step {b c:Int} (h:Cn es a b) (e:(b,c)∈es):Cn es a c
def Cn.trans(h:Cn es a b)(k:Cn es b c):Cn es a c:=by
 induction k with
 |refl=>exact h
 |step _ e ih=>exact ih.step e
def Sym(es:gX):Prop:=∀a b,(a,b)∈es->(b,a)∈es
def mF(ps:gX):Sym (dbl ps):=λ a b h=>cU.mpr (cU.mp h).symm
def Cn.symm(S:Sym es)(h:Cn es a b):Cn es b a:=by
 induction h with
 |refl=>exact .refl
 |step _ e ih=>exact Cn.trans (.step .refl (S _ _ e)) ih
def Cn.inn(hin:∀x y,(x,y)∈es->0<=y/\y<n)(h:Cn es a b)(ha:0<=a/\a<n):0<=b/\b<n:=by
 induction h with
 |refl=>exact ha
 |step _ e _=>exact hin _ _ e
structure Path(es:gX)(a b:Int)(l:List Int):Prop where
 hd:l.head?=some a
 lt:l.getLast?=some b
 al:aEe es l=true
def prB(p:Prop):Bool:=@decide p (zEg p)
def aB3:prB p=true↔p:=@decide_eq_true_iff p (zEg p)
def bM(n:Int)(es:gX)(a:Int):List Int:=(upI n).filter λ b=>prB (Cn es a b)
def tO:b∈bM n es a↔(0<=b/\b<n)/\Cn es a b:=by
 unfold bM;rw[zA6,bV,aB3]
def bI(es:gX)(a:Int):Bool:=prB (∀b,0<=b->Cn es a b->a<=b)
def cJ:bI es a=true↔∀b,0<=b->Cn es a b->a<=b:=aB3
def lE(n:Int)(es:gX):gV:=((upI n).filter (bI es)).map (bM n es)
def vq(n:Int):(upI n).Pairwise (·< ·):=by
 unfold upI;rw[zB2];exact List.pairwise_lt_range.imp λ h=>by lia
theorem aAY:∀{l m:List Int},l.Pairwise (·< ·)->m.Pairwise (·< ·)->(∀x,x∈l↔x∈m)->l=m
 |[],[],_,_,_=>rfl
 |[],b::m,_,_,h=>by have:=(h b).mpr zAL;cases this
 |a::l,[],_,_,h=>by have:=(h a).mp zAL;cases this
 |a::l,b::m,h1,h2,h=>by
  obtain⟨p1,p2⟩:=zAi.mp h1;obtain⟨q1,q2⟩:=zAi.mp h2;have e:a=b:=by
   rcases zAX.mp ((h a).mp zAL)with z|z
   .exact z
   .rcases zAX.mp ((h b).mpr zAL)with y|y
    .exact y.symm
    .have:=q1 a z;have:=p1 b y;lia
  subst e;rw[aAY p2 q2 λ x=>?_];constructor
  .intro hx
   rcases zAX.mp ((h x).mp (zAG _ hx))with z|z
   .subst z;have:=p1 x hx;lia
   .exact z
  .intro hx
   rcases zAX.mp ((h x).mpr (zAG _ hx))with z|z
   .subst z;have:=q1 x hx;lia
   .exact z
def wF(nd:l.Nodup):(sortI l).Pairwise (·< ·):=by
 have h1:=jP l;have h2:(sortI l).Nodup:=(sortI_perm l).nodup_iff.mpr nd;rw[zAg]at h2;exact(h1.and h2).imp λ⟨a,b⟩=>by lia
def aAN(nd:l.Nodup)(h:∀x,x∈l↔(0<=x/\x<n)/\Cn es a x):sortI l=bM n es a:=
 aAY (wF nd) ((vq n).filter _) λ x=>by rw[(sortI_perm l).mem_iff,h,tO]
abbrev wE(ll:cK)(a:Int)(part:List Int)(k:Int)(s4 s5:Slot):En:=[.sh (.lst (ll.map .lst)),.sh (.int a),.ow (.lst (part.map .int)),.sh (.int k),s4,s5]
structure Pw(n:Int)(es:gX)(a:Int)(part:List Int):Prop where
 nd:part.Nodup
 cn:∀x∈part,Cn es a x
 inn:∀x∈part,0<=x/\x<n
 st:a∈part
section
variable{n:Int}{es:gX}{ll:cK}{a k:Int}{part:List Int}{s4 s5:Slot}
def Pw.len(P:Pw n es a part):part.length<=n.toNat:=by
 have:=sub_len (l':=upI n) P.nd λ x hx=>bV.mpr (P.inn x hx)
 rwa [dB]at this
theorem tD(hn:n<=60)(hin:∀x y,(x,y)∈es->0<=y/\y<n):∀(us:List Int) (part:List Int) (s5:Slot),(∀u∈us,(p,u)∈es)->p∈part->Pw n es a part->
  ∃part' s5',forL (gnm 5) pwI (us.map .int) (wE ll a part k s4 s5)= .nx (wE ll a part' k s4 s5')/\Pw n es a part'/\(∃m,part'=part++m)/\∀u∈us,u∈part'
 |[],part,s5,_,_,P=>⟨part,s5,rfl,P,⟨[],by simp⟩,λ u hu=>by cases hu⟩
 |u::us,part,s5,h,hp,P=>by
  have hu:=h u zAL;have hl:=P.len;rw[zAH,cY,lL,jL]
  show∃part' s5',(pwI (wE ll a part k s4 (.sh (.int u)))).tn _=_/\_
  have hi:=aBf true u part;by_cases hm:u∈part
  .have e:pwI (wE ll a part k s4 (.sh (.int u)))= .nx (wE ll a part k s4 (.sh (.int u))):=by simp[pwI,hi,hm]
   rw[e,mU];obtain⟨part',s5',e2,P',⟨m,hm'⟩,h2⟩:=tD hn hin us part (.sh (.int u)) (λ v hv=>h v (zAG _ hv)) hp P;refine⟨part',s5',e2,P',⟨m,hm'⟩,λ v hv=>?_⟩;rcases zAX.mp hv with rfl|hv
   .rw[hm'];exact zAK _ hm
   .exact h2 v hv
  .have hz:part.length<16777216:=by lia
   have e:pwI (wE ll a part k s4 (.sh (.int u)))= .nx (wE ll a (part++[u]) k s4 (.sh (.int u))):=by simp[pwI,hi,hm,iu,hz]
   rw[e,mU];have P1:Pw n es a (part++[u]):=by
    refine⟨?_,λ x hx=>?_,λ x hx=>?_,zAK _ P.st⟩
    .rw[zAb]
     exact⟨P.nd,by simp,λ x hx y hy z=>by rw[zAD.mp hy]at z;subst z;exact hm hx⟩
    .rcases zAQ.mp hx with hx|hx
     .exact P.cn x hx
     .rw[zAD.mp hx];exact(P.cn p hp).step hu
    .rcases zAQ.mp hx with hx|hx
     .exact P.inn x hx
     .rw[zAD.mp hx];exact hin _ _ hu
   obtain⟨part',s5',e2,P',⟨m,hm'⟩,h2⟩:=tD hn hin us (part++[u]) (.sh (.int u)) (λ v hv=>h v (zAG _ hv)) (zAK _ hp) P1;refine⟨part',s5',e2,P',⟨[u]++m,by rw[hm',zAo]⟩,λ v hv=>?_⟩;rcases zAX.mp hv with rfl|hv
   .rw[hm'];exact zAK _ (by simp)
   .exact h2 v hv
def w5(hn:n<=60)(N:aGj n es ll)(hin:∀x y,(x,y)∈es->0<=y/\y<n)(h0:0<=a)(h1:a<n):gf [.lst (ll.map .lst),.int a]= .ok (tupI (bM n es a)):=by
 have st:ao 6 [.lst (ll.map .lst),.int a]=[.sh (.lst (ll.map .lst)),.sh (.int a),.no,.no,.no,.no]:=rfl;obtain⟨ρ',m',e,⟨part,k,s4,s5,rfl,P,hk,hcl,_⟩,ht⟩:=yK (c:=pwT) (b:=pwW)
  (λ m ρ=>∃(part:List Int) (k:Nat) (s4 s5:Slot),ρ=wE ll a part k s4 s5/\Pw n es a part/\k<=part.length/\(∀i x,i<k->part[i]? =some x->∀y,(x,y)∈es->y∈part)/\m=n.toNat-k)
  (by
   rintro m ρ ⟨part,k,s4,s5,rfl,P,hk,hcl,rfl⟩;have hl:=P.len;by_cases hlt:k<part.length
   .right
    have hx:=zAE hlt;have ha:atD (part.map .int) (k:Int)= .ok (.int part[k]):=dj (by rw[zAT,hx];rfl);have hp:=P.inn _ (zCi hlt);obtain⟨us,e1,e2⟩:=N.item _ hp.1 hp.2;obtain⟨part',s5',e3,P',⟨m,hm⟩,h2⟩:=tD (ll:=ll) (k:=(k:Int)) (s4:=.nw (.int part[k])) hn hin us part s5 (λ u hu=>(e2 u).mp hu) (zCi hlt) P;have c0:pwT (wE ll a part k s4 s5)= .ok true:=by simp[pwT,hlt]
    have c1:ug 4 (aq (op2 ixD (dZ 2) (aD 3))) (wE ll a part k s4 s5)= .nx (wE ll a part k (.nw (.int part[k])) s5):=by simp[ha]
    have c2:gk (cL (op2 ixD (aD 0) (pI 4))) (gnm 5) pwI (wE ll a part k (.nw (.int part[k])) s5)= .nx (wE ll a part' k (.nw (.int part[k])) s5'):=by
     have hi:cL (op2 ixD (aD 0) (pI 4)) (wE ll a part k (.nw (.int part[k])) s5)= .ok (us.map .int):=by simp[e1]
     rw[cG,hi,bG,e3]
    have c3:aGa (i2 (λ _ _=>true) λ a b=>.int (a+b)) 3 (cD (.int 1)) (wE ll a part' k (.nw (.int part[k])) s5')= .nx (wE ll a part' ((k:Int)+1) (.nw (.int part[k])) s5'):=rfl;refine⟨c0,wE ll a part' ((k+1:Nat):Int) (.nw (.int part[k])) s5',n.toNat-(k+1),?_,by lia,part',k+1,_,_,rfl,P',?_,λ i x hi hx' y hy=>?_,rfl⟩
    .rw[pwW,aK,c1,aR,aK,c2,aR,c3]
     rfl
    .rw[hm,zAV];lia
    .by_cases hik:i=k
     .subst hik
      rw[hm,zBi hlt,hx]at hx';cases hx';exact h2 y ((e2 y).mpr hy)
     .rw[hm,zBi (by lia)]at hx'
      rw[hm];exact zAK _ (hcl i x (by lia) hx' y hy)
   .left
    simp[pwT,show¬k<part.length from hlt])
  (m:=n.toNat-0) (ρ:=wE ll a [a] (0:Nat) .no .no) (by lia) ⟨[a],0,.no,.no,rfl,⟨by simp,λ x hx=>by rw[zAD.mp hx];exact .refl,λ x hx=>by rw[zAD.mp hx];exact⟨h0,h1⟩,by simp⟩,by simp,λ i x hi=>absurd hi (zFB _),rfl⟩
 have hlt:¬k<part.length:=λ z=>by
  have:pwT (wE ll a part k s4 s5)= .ok true:=by simp[pwT,z]
  rw[this]at ht;cases ht
 have go:∀x,Cn es a x->x∈part:=λ x hc=>by
  induction hc with
  |refl=>exact P.st
  |step hb he ih=>
   obtain⟨i,hi,hx⟩:=zBw ih;exact hcl i _ (by lia) (by rw[zAE hi,hx]) _ he
 have kQ:∀x,x∈part↔(0<=x/\x<n)/\Cn es a x:=λ x=>⟨λ hx=>⟨P.inn x hx,P.cn x hx⟩,λ h=>go x h.2⟩
 have hs:=vG (l:=part) (by have:=P.len;lia);rw[aAN P.nd kQ]at hs;have c0:fB 2 (eE (aC (aq (aD 1)) aH)) [.sh (.lst (ll.map .lst)),.sh (.int a),.no,.no,.no,.no]= .nx [.sh (.lst (ll.map .lst)),.sh (.int a),.ow (.lst [.int a]),.no,.no,.no]:=by simp
 have c1:cQ 3 (cD (.int 0)) [.sh (.lst (ll.map .lst)),.sh (.int a),.ow (.lst [.int a]),.no,.no,.no]= .nx (wE ll a [a] (0:Nat) .no .no):=rfl;simp only[gf,eN,bO,st];rw[aK,c0,aR,aK,c1,aR,aK,e,aR];have hd:dZ 2 (wE ll a part k s4 s5)= .ok (.lst (part.map .int)):=rfl;rw[jA,jK,bw,jK,bw,hd];simp[hs,tupI]
end
abbrev qE(ll:cK)(w:D)(rws:gV)(seen:List Int)(s4 s5 s6:Slot):En:=[.sh (.lst (ll.map .lst)),.sh w,.ow (.lst (rws.map tupI)),.ow (.set seen),s4,s5,s6]
section
variable{n:Int}{es:gX}{ll:cK}{w:D}{rws:gV}{s4 s5 s6:Slot}
theorem zA:∀(us:List Int) (seen:List Int) (s6:Slot),(∀u∈us,0<=u/\u<n)->seen.Nodup->(∀u∈seen,0<=u/\u<n)->n<=60->
  ∃seen' s6',forL (gnm 6) paF (us.map .int) (qE ll w rws seen s4 s5 s6)= .nx (qE ll w rws seen' s4 s5 s6')/\seen'.Nodup/\(∀x,x∈seen'↔x∈seen\/x∈us)/\(∀u∈seen',0<=u/\u<n)
 |[],seen,s6,_,nd,hin,_=>⟨seen,s6,rfl,nd,λ x=>by simp,hin⟩
 |u::us,seen,s6,h,nd,hin,hn=>by
  have hl:seen.length<=n.toNat:=by
   have:=sub_len (l':=upI n) nd λ x hx=>bV.mpr (hin x hx)
   rwa [dB]at this
  have nd':=zb (z:=u) nd;have hm':∀x,x∈zBA seen u↔x∈seen\/x=u:=λ x=>by
   have:=v8 seen u x
   rw[zBH]at this;simpa using this.symm
  obtain⟨seen',s6',e,q1,q2,q3⟩:=zA us (zBA seen u) (.sh (.int u)) (λ v hv=>h v (zAG _ hv)) nd' (λ x hx=>by
   rcases(hm' x).mp hx with z|z
   .exact hin x z
   .rw[z];exact h u zAL) hn
  refine⟨seen',s6',?_,q1,λ x=>?_,q3⟩
  .rw[zAH,cY,lL,jL]
   show(paF (qE ll w rws seen s4 s5 (.sh (.int u)))).tn _=_
   have e1:paF (qE ll w rws seen s4 s5 (.sh (.int u)))= .nx (qE ll w rws (zBA seen u) s4 s5 (.sh (.int u))):=by
    have hv:aq (aD 6) (qE ll w rws seen s4 s5 (.sh (.int u)))= .ok (.int u):=by simp
    show((aq (aD 6) (qE ll w rws seen s4 s5 (.sh (.int u)))).bo λ d=>aAA (qE ll w rws seen s4 s5 (.sh (.int u))) 3 seen d)=_
    rw[hv,bG];unfold aAA;dsimp only;rw[if_pos (by lia)];rfl
   rw[e1,mU,e]
  .rw[q2,hm',zAX]
   constructor
   .rintro((z|z)|z)
    .exact .inl z
    .exact .inr (.inl z)
    .exact .inr (.inr z)
   .rintro(z|z|z)
    .exact .inl (.inl z)
    .exact .inl (.inr z)
    .exact .inr z
def aBH(k:Nat):upI ((k+1:Nat):Int)=upI (k:Int)++[(k:Int)]:=by
 unfold upI;rw[zGr,zGr,List.range_succ,zAW];rfl
def tH(hn0:0<=n)(hn:n<=60)(S:Sym es)(N:aGj n es ll)(hin:∀x y,(x,y)∈es->0<=y/\y<n):cu [.lst (ll.map .lst),.lst (au 0 n)]= .ok (.lst ((lE n es).map tupI)):=by
 have st:ao 7 [.lst (ll.map .lst),.lst (au 0 n)]=[.sh (.lst (ll.map .lst)),.sh (.lst (au 0 n)),.no,.no,.no,.no,.no]:=rfl;obtain⟨ρ',e,seen,s4,s5,s6,rfl,_⟩:=gZ (a:=gnm 4) (u:=paB) (ds:=au 0 n)
  (λ k ρ=>∃(seen:List Int) (s4 s5 s6:Slot),ρ=qE ll (.lst (au 0 n)) (((upI (k:Int)).filter (bI es)).map (bM n es)) seen s4 s5 s6/\seen.Nodup/\(∀x,x∈seen↔(0<=x/\x<n)/\∃j,(0<=j/\j<(k:Int))/\Cn es j x))
  (by
   rintro i d ρ hd ⟨seen,s4,s5,s6,rfl,nd,hs⟩;obtain⟨rfl,hlt⟩:=lC hd;rw[zDl]at hlt ⊢;have hk:0<=(i:Int)/\(i:Int)<n:=⟨by lia,hlt⟩;have hg:okE (gnm 4 (.int (i:Int)) (qE ll (.lst (au 0 n)) (((upI (i:Int)).filter (bI es)).map (bM n es)) seen s4 s5 s6)) (λ ρ1=>paB ρ1)=paB (qE ll (.lst (au 0 n)) (((upI (i:Int)).filter (bI es)).map (bM n es)) seen (.sh (.int (i:Int))) s5 s6):=rfl;rw[hg];have hlb:bI es (i:Int)= !decide ((i:Int)∈seen):=by
    rw[zBH,cJ];constructor
    .intro h
     simp only[zBM,decide_eq_false_iff_not];intro hm;obtain⟨_,j,hj,hc⟩:=(hs _).mp hm
     have:=h j hj.1 (hc.symm S)
     lia
    .intro h b hb hc
     simp only[zBM,decide_eq_false_iff_not]at h
     have:=λ z:b<(i:Int)=>h ((hs _).mpr ⟨hk,b,⟨hb,z⟩,hc.symm S⟩)
     lia
   have hx:inX true (.int (i:Int)) (.set seen)= .ok (.bl (!decide ((i:Int)∈seen))):=rfl;have hrl:(((upI (i:Int)).filter (bI es)).map (bM n es)).length<16777216:=by
    rw[zAB]
    have:=zBd (bI es) (upI (i:Int))
    rw[dB]at this;lia
   by_cases hm:(i:Int)∈seen
   .have hb:paB (qE ll (.lst (au 0 n)) (((upI (i:Int)).filter (bI es)).map (bM n es)) seen (.sh (.int (i:Int))) s5 s6)= .nx (qE ll (.lst (au 0 n)) (((upI (i:Int)).filter (bI es)).map (bM n es)) seen (.sh (.int (i:Int))) s5 s6):=by
     simp[paB,hx,hm]
    refine⟨_,hb,seen,.sh (.int (i:Int)),s5,s6,?_,nd,λ x=>?_⟩
    .rw[aBH,zBc,zBJ,hlb]
     simp[hm]
    .rw[hs]
     constructor
     .rintro⟨h1,j,h2,h3⟩
      exact⟨h1,j,⟨h2.1,by lia⟩,h3⟩
     .rintro⟨h1,j,h2,h3⟩
      by_cases hj:j<(i:Int)
      .exact⟨h1,j,⟨h2.1,hj⟩,h3⟩
      .have hj':j=(i:Int):=by lia
       subst hj';obtain⟨_,j',h4,h5⟩:=(hs _).mp hm;exact⟨h1,j',h4,h5.trans h3⟩
   .have hp:=w5 hn N hin hk.1 hk.2
    have hsin:∀u∈seen,0<=u/\u<n:=λ u hu=>((hs u).mp hu).1
    obtain⟨seen',s6',e,q1,q2,q3⟩:=zA (ll:=ll) (w:=.lst (au 0 n)) (rws:=((upI (i:Int)).filter (bI es)).map (bM n es)++[bM n es (i:Int)]) (s4:=.sh (.int (i:Int))) (s5:=.sh (tupI (bM n es (i:Int)))) (bM n es (i:Int)) seen s6 (λ u hu=>(tO.mp hu).1) nd hsin hn;have gi:oY (tupI (bM n es (i:Int)))= .ok (tupI (bM n es (i:Int))):=(El.tup (k:=0) El.ints).g;have hb:paB (qE ll (.lst (au 0 n)) (((upI (i:Int)).filter (bI es)).map (bM n es)) seen (.sh (.int (i:Int))) s5 s6)= .nx (qE ll (.lst (au 0 n)) (((upI (i:Int)).filter (bI es)).map (bM n es)++[bM n es (i:Int)]) seen' (.sh (.int (i:Int))) (.sh (tupI (bM n es (i:Int)))) s6'):=by
     have t1:tsb (op2 (inX true) (aD 4) (dZ 3)) (qE ll (.lst (au 0 n)) (((upI (i:Int)).filter (bI es)).map (bM n es)) seen (.sh (.int (i:Int))) s5 s6)= .ok true:=by simp[hx,hm]
     have t2:cQ 5 (aU gf (aC (aD 0) (aC (aD 4) aH))) (qE ll (.lst (au 0 n)) (((upI (i:Int)).filter (bI es)).map (bM n es)) seen (.sh (.int (i:Int))) s5 s6)= .nx (qE ll (.lst (au 0 n)) (((upI (i:Int)).filter (bI es)).map (bM n es)) seen (.sh (.int (i:Int))) (.sh (tupI (bM n es (i:Int)))) s6):=by simp[hp]
     have t3:iu 2 (aq (aD 5)) (qE ll (.lst (au 0 n)) (((upI (i:Int)).filter (bI es)).map (bM n es)) seen (.sh (.int (i:Int))) (.sh (tupI (bM n es (i:Int)))) s6)= .nx (qE ll (.lst (au 0 n)) (((upI (i:Int)).filter (bI es)).map (bM n es)++[bM n es (i:Int)]) seen (.sh (.int (i:Int))) (.sh (tupI (bM n es (i:Int)))) s6):=by
      generalize ((upI (i:Int)).filter (bI es)).map (bM n es)=R at hrl ⊢;have hv:aq (aD 5) (qE ll (.lst (au 0 n)) R seen (.sh (.int (i:Int))) (.sh (tupI (bM n es (i:Int)))) s6)= .ok (tupI (bM n es (i:Int))):=by simp[gi]
      show((aq (aD 5) (qE ll (.lst (au 0 n)) R seen (.sh (.int (i:Int))) (.sh (tupI (bM n es (i:Int)))) s6)).bo λ d=>if (R.map tupI).length<zAO then .nx [.sh (.lst (ll.map .lst)),.sh (.lst (au 0 n)),.ow (.lst (R.map tupI++[d])),.ow (.set seen),.sh (.int (i:Int)),.sh (tupI (bM n es (i:Int))),s6]else .st)=_
      rw[hv,bG,if_pos (by rw[szl,zAB];exact hrl)];simp[zAW]
     have t4:cL (aD 5) (qE ll (.lst (au 0 n)) (((upI (i:Int)).filter (bI es)).map (bM n es)++[bM n es (i:Int)]) seen (.sh (.int (i:Int))) (.sh (tupI (bM n es (i:Int)))) s6)= .ok ((bM n es (i:Int)).map .int):=by simp[tupI]
     rw[paB,fj,t1,bG,if_pos rfl,aK,t2,aR,aK,t3,aR,cG,t4,bG,e]
    refine⟨_,hb,seen',.sh (.int (i:Int)),.sh (tupI (bM n es (i:Int))),s6',?_,q1,λ x=>?_⟩
    .rw[aBH,zBc,zBJ,hlb]
     simp[hm]
    .rw[q2,hs,tO]
     constructor
     .rintro(⟨h1,j,h2,h3⟩|⟨h1,h2⟩)
      .exact⟨h1,j,⟨h2.1,by lia⟩,h3⟩
      .exact⟨h1,(i:Int),⟨by lia,by lia⟩,h2⟩
     .rintro⟨h1,j,h2,h3⟩
      by_cases hj:j<(i:Int)
      .exact .inl ⟨h1,j,⟨h2.1,hj⟩,h3⟩
      .have hj':j=(i:Int):=by lia
       subst hj';exact .inr ⟨h1,h3⟩)
  (ρ:=qE ll (.lst (au 0 n)) [] [] .no .no .no) ⟨[],.no,.no,.no,rfl,zHN,λ x=>⟨λ h=>(nomatch h),λ⟨_,j,h,_⟩=>absurd h.2 (by have:=h.1;lia)⟩⟩
 have c0:fB 2 (eE aH) [.sh (.lst (ll.map .lst)),.sh (.lst (au 0 n)),.no,.no,.no,.no,.no]= .nx [.sh (.lst (ll.map .lst)),.sh (.lst (au 0 n)),.ow (.lst []),.no,.no,.no,.no]:=by simp
 have c1:fB 3 (cD (.set [])) [.sh (.lst (ll.map .lst)),.sh (.lst (au 0 n)),.ow (.lst []),.no,.no,.no,.no]= .nx (qE ll (.lst (au 0 n)) [] [] .no .no .no):=rfl;have hi:cL (aD 1) (qE ll (.lst (au 0 n)) [] [] .no .no .no)= .ok (au 0 n):=by simp
 have hln:(((au 0 n).length:Nat):Int)=n:=by rw[gU];lia
 rw[hln]at e;simp only[cu,cg,bO,st];rw[aK,c0,aR,aK,c1,aR,aK,cG,hi,bG,e,aR];simp[lE]
def aDd(h:Ow n ps)(low:∀p∈ps,p.1<p.2):rO [owD n ps]= .ok (.lst ((lE n (dbl ps)).map tupI)):=by
 obtain⟨ll,e,N⟩:=zz h;have st:ao 1 [owD n ps]=[.sh (owD n ps)]:=rfl;have hp:=tH h.n0 h.n1 (mF ps) N (λ x y m=>by
  rcases cU.mp m with z|z
  .have:=h.pr _ z;exact⟨this.2.2.1,this.2.2.2.1⟩
  .have:=h.pr _ z;exact⟨this.1,this.2.1⟩)
 have hlr:=aJh (f:=op2 ixD (aD 0) (cD (.int 0))) (ρ:=[.sh (owD n ps)]) (n:=n) (by simp[owD]) h.n0 h.n1;have c0:v6 (aU eZ (aC (aD 0) aH)) [.sh (owD n ps)]= .nx [.sh (owD n ps)]:=by simp[xY h low]
 have c1:aU cu (aC (aU cX (aC (aD 0) aH)) (aC (lrD (op2 ixD (aD 0) (cD (.int 0)))) aH)) [.sh (owD n ps)]= .ok (.lst ((lE n (dbl ps)).map tupI)):=by
  rw[o8,bw,o8,bw,bw,hlr];simp[e,hp]
 have df:mG=aW (v6 (aU eZ (aC (aD 0) aH))) (retS (aU cu (aC (aU cX (aC (aD 0) aH)) (aC (lrD (op2 ixD (aD 0) (cD (.int 0)))) aH)))):=rfl;simp only[rO,df,bO,st];rw[aK,c0,aR,jA,c1];rfl
end
def pl(p:Int×Int):List Int:=[p.1,p.2]
def aEr(p:Int×Int):tupI (pl p)=pD p:=rfl
def aHv{p q:Int×Int}(h:pl p=pl q):p=q:=by
 unfold pl at h;injection h with h1 h2
 injection h2 with h2 _
 exact zFk h1 h2
def ud{ps:gX}(nd:ps.Nodup):∃qs:gX,sG (ps.map pl)=qs.map pl/\qs.Perm ps/\ul qs=true:=by
 obtain⟨qs,q1,q2⟩:=oM (f:=pl) (nC (ps.map pl)) rfl;refine⟨qs,q2,q1,wW.mpr λ i p q e1 e2=>?_⟩;have hr:=kJ (ps.map pl);rw[q2]at hr;have hnd:qs.Nodup:=q1.nodup_iff.mpr nd;have h1:=(zAM.mp e1).1;have h2:=(zAM.mp e2).1;have f1:(qs.map pl)[i]'(by simpa using h1)=pl p:=by
  rw[zCh,(zAM.mp e1).2]
 have f2:(qs.map pl)[i+1]'(by simpa using h2)=pl q:=by
  rw[zCh,(zAM.mp e2).2]
 have z:=zBI.mp hr i (i+1) (by simpa using h1) (by simpa using h2) (by omega);rw[f1,f2]at z;have hne:p≠q:=λ e=>by
  subst e
  have:=(zCJ h1 hnd).mp (e1.trans e2.symm)
  omega
 show HT.lexLt (pl p) (pl q)=true;cases c:HT.lexLt (pl p) (pl q)with
 |true=>rfl
 |false=>exact absurd (aHv (tQ _ _ c z)) hne
def aBt(ps:gX):kE (ps.map pD)=some (ps.map pl):=by
 have:=rR (nss:=ps.map pl) λ ns h=>by
  obtain⟨p,_,rfl⟩:=zAS.mp h;simp[pl]
 rw[zAe]at this;exact this
def nA{ps:gX}(nd:ps.Nodup)(h:ps.length<64):∃qs:gX,ju [.lst (ps.map pD)]= .ok (.lst (qs.map pD))/\qs.Perm ps/\ul qs=true:=by
 obtain⟨qs,q1,q2,q3⟩:=ud nd;refine⟨qs,?_,q2,q3⟩;unfold ju;dsimp only;rw[aBt];dsimp only;rw[if_pos (by rw[zAB];exact h),q1,zAe];exact congrArg (λ l=>Rs.ok (D.lst l)) (zAz λ p _=>aEr p)
def mnI(a b:Int):Int:=if b<a then b else a
def mxI(a b:Int):Int:=if b>a then b else a
def aK5{a b a' b':Int}(h:mnI a b=mnI a' b')(h':mxI a b=mxI a' b'):b=a'\/b=b':=by
 unfold mnI at h;unfold mxI at h';split at h<;>split at h<;>split at h'<;>split at h'<;>lia
def aJg{a b:Int}(h:a≠b):mnI a b<mxI a b:=by
 unfold mnI mxI;split<;>split<;>lia
def aDr{a b:Int}(P:Int->Prop)(ha:P a)(hb:P b):P (mnI a b)/\P (mxI a b):=by
 unfold mnI mxI;constructor<;>split<;>assumption
abbrev foV(c most n kd:Int)(O:List Int)(ps:gX)(s6 s7:Slot):En:=[.sh (.int c),.sh (.int most),.sh (.int n),.sh (.int kd),.nw (.lst (O.map .int)),.ow (.lst (ps.map pD)),s6,s7]
section
variable{c most n kd:Int}{O:List Int}
def aDk{s4 s5 s6 s7:Slot}(h0:0<=n)(h1:n<=60):∃O:List Int,foO [.sh (.int c),.sh (.int most),.sh (.int n),.sh (.int kd),s4,s5,s6,s7]= .ok (.lst (O.map .int))/\O.Perm (upI n):=by
 have hr:=gK (j:=n) (by lia) (by lia);have hd:∀i:Int,∃r:Int,0<=i->i<n->aX [.int c,.int (200+i),.int 97]= .ok (.int r):=λ i=>by
  by_cases q:0<=i/\i<n
  .obtain⟨r,e,_⟩:=jF (c:=c) (k:=200+i) (b:=97) (by lia) (by lia) (by decide) (by decide)
   exact⟨r,λ _ _=>e⟩
  .exact⟨0,λ a b=>absurd ⟨a,b⟩ q⟩
 obtain⟨f,hf⟩:=zGG.mp hd;have e1:∀ρ:En,ρ=shE [.sh (.int c),.sh (.int most),.sh (.int n),.sh (.int kd),s4,s5,s6,s7]->lcD (gW iM (aC (aD 2) aH)) [none,some 0] (gnm 0) ik (cH (aC (aU aX (aC (aD 1) (aC (op2 fU (cD (.int 200)) (aD 0)) (aC (cD (.int 97)) aH)))) (aC (aq (aD 0)) aH))) ρ= .ok (.lst (((upI n).map λ i=>(f i,i)).map pD)):=λ ρ e=>by
  subst e;refine jM (ds:=(upI n).map .int) (by rw[<-wV];simp[shE,mJ,shS,hr]) (by rw[zAB,dB];lia) ?_;rw[zAe];refine nT (f:=D.int) (g:=λ i=>pD (f i,i)) (upI n) λ i hi=>⟨[.sh (.int i),.sh (.int c)],rfl,?_⟩
  have hi':=bV.mp hi;simp[hf i hi'.1 hi'.2,pD]
 have nd:((upI n).map λ i=>(f i,i)).Nodup:=by
  rw[zAg,zB2];exact(vq n).imp λ{a b} h e=>by
   have:=congrArg zEk e
   dsimp only at this;lia
 obtain⟨qs,q1,q2,q3⟩:=nA nd (by rw[zAB,dB];lia);have hql:qs.length<=60:=by rw[q2.length_eq,zAB,dB];lia
 refine⟨qs.map (·.2),?_,?_⟩
 .unfold foO
  refine jM (ds:=qs.map pD) ?_ (by rw[zAB];lia) ?_
  .rw[aGI,jK,bw,e1 _ rfl]
   simp[q1,-zAe]
  .rw[zAe]
   refine nT (f:=pD) (g:=λ p=>.int p.2) qs λ p hp=>⟨[.sh (pD p)],rfl,?_⟩
   simp[pD]
 .have:=q2.map (·.2)
  rw[zAe]at this;simpa[zEF]using this
inductive Fr:gX->Prop where
 |nil:Fr []
 |snoc {ps:gX} {a b:Int} (h:Fr ps) (ne:a≠b) (no:∀p∈ps,p.1≠b/\p.2≠b):Fr (ps++[(mnI a b,mxI a b)])
structure Fo(O:List Int)(v:Nat)(ps:gX):Prop where
 nd:ps.Nodup
 fr:Fr ps
 at_:∀p∈ps,∃(i j:Nat) (a b:Int),i<j/\j<v/\O[i]? =some a/\O[j]? =some b/\p=(mnI a b,mxI a b)
def Fo.up{ps:gX}{v:Nat}(F:Fo O v ps):Fo O (v+1) ps:=⟨F.nd,F.fr,λ p hp=>by
 obtain⟨i,j,a,b,h1,h2,h3⟩:=F.at_ p hp;exact⟨i,j,a,b,h1,by lia,h3⟩⟩
theorem Fo.snoc{ps:gX}{v i:Nat}{a b:Int}(hO:O.Nodup)(F:Fo O v ps)(hi:i<v)(ha:O[i]? =some a)(hb:O[v]? =some b):Fo O (v+1) (ps++[(mnI a b,mxI a b)]):=by
 have hne:∀{k:Nat} {x:Int},k<v->O[k]? =some x->x≠b:=λ{k x} hk hx e=>by
  subst e
  have:=(zCJ (zAM.mp hb).1 hO).mp (hb.trans hx.symm)
  lia
 refine⟨?_,.snoc F.fr (hne hi ha) λ p hp=>?_,λ p hp=>?_⟩
 rotate_left
 .obtain⟨i',j',a',b',h1,h2,h3,h4,rfl⟩:=F.at_ p hp
  exact aDr (λ x=>x≠b) (hne (by lia) h3) (hne h2 h4)
 rotate_left
 .rw[zAb]
  refine⟨F.nd,by simp,λ p hp q hq e=>?_⟩;rw[zAD]at hq;subst hq;obtain⟨i',j',a',b',h1,h2,h3,h4,rfl⟩:=F.at_ p hp;have hv:=(zAM.mp hb).1;rcases aK5 (congrArg zDp e).symm (congrArg zEk e).symm with z|z
  .subst z
   have:=(zCJ hv hO).mp (hb.trans h3.symm)
   lia
  .subst z
   have:=(zCJ hv hO).mp (hb.trans h4.symm)
   lia
 .rcases zAQ.mp hp with z|z
  .exact F.up.at_ p z
  .rw[zAD]at z
   exact⟨i,v,a,b,hi,by lia,ha,hb,z⟩
def aIr{ps:gX}{v:Nat}{s7:Slot}(hO:O.Nodup)(hv:v<O.length)(hv0:0<v)(hv2:v<60)(hk0:0<=kd)(hk:kd<4)(hl:ps.length<=v)(F:Fo O v ps):
  ∃ps' s7',foB (foV c most n kd O ps (.sh (.int (v:Int))) s7)= .nx (foV c most n kd O ps' (.sh (.int (v:Int))) s7')/\ps'.length<=v+1/\Fo O (v+1) ps':=by
 obtain⟨r3,e3,h3⟩:=jF (c:=c) (k:=300+(v:Int)) (b:=(v:Int)) (by lia) (by lia) (by lia) (by lia);obtain⟨r4,e4,h4⟩:=jF (c:=c) (k:=400+(v:Int)) (b:=3) (by lia) (by lia) (by decide) (by decide);obtain⟨r5,e5,h5⟩:=jF (c:=c) (k:=500+(v:Int)) (b:=(v:Int)) (by lia) (by lia) (by lia) (by lia);obtain⟨r6,e6,h6⟩:=jF (c:=c) (k:=600+(v:Int)) (b:=9) (by lia) (by lia) (by decide) (by decide);have f2:jE (.int (v:Int)) (.int 2)= .ok (.int ((v:Int) / 2)):=mC (by decide) (by decide);have f4:jE (.int (v:Int)) (.int 4)= .ok (.int ((v:Int) / 4)):=mC (by decide) (by decide);obtain⟨d,ed,hd,_⟩:=aEb (l:=[.int ((v:Int)-1),.int ((v:Int) / 2),.int ((v:Int) / 4),.int (r3:Int)]) (i:=kd) hk0 (by simpa using hk);obtain⟨u,rfl,hu⟩:∃u:Nat,d= .int (u:Int)/\u<v:=by
  simp only[zAX,zEb,or_false]at hd;rcases hd with rfl|rfl|rfl|rfl
  .exact⟨v-1,by congr 1;lia,by lia⟩
  .exact⟨v / 2,by congr 1,by lia⟩
  .exact⟨v / 4,by congr 1,by lia⟩
  .exact⟨r3,rfl,by lia⟩
 have g1:ug 7 (op2 ixD (eE (aC (op2 wC (aD 6) (cD (.int 1))) (aC (op2 jE (aD 6) (cD (.int 2))) (aC (op2 jE (aD 6) (cD (.int 4))) (aC (aU aX (aC (aD 0) (aC (op2 fU (cD (.int 300)) (aD 6)) (aC (aD 6) aH)))) aH))))) (aD 3)) (foV c most n kd O ps (.sh (.int (v:Int))) s7)= .nx (foV c most n kd O ps (.sh (.int (v:Int))) (.nw (.int (u:Int)))):=by simp[e3,f2,f4,ed]
 obtain⟨t,ht,g2⟩:∃t:Nat,t<v/\ifS (tsb (op2 (eqR false) (aU aX (aC (aD 0) (aC (op2 fU (cD (.int 400)) (aD 6)) (aC (cD (.int 3)) aH)))) (cD (.int 0)))) (ug 7 (aU aX (aC (aD 0) (aC (op2 fU (cD (.int 500)) (aD 6)) (aC (aD 6) aH))))) Ou.nx (foV c most n kd O ps (.sh (.int (v:Int))) (.nw (.int (u:Int))))= .nx (foV c most n kd O ps (.sh (.int (v:Int))) (.nw (.int (t:Int)))):=by
  by_cases q:r4=0
  .exact⟨r5,by lia,by simp[e4,e5,q]⟩
  .exact⟨u,hu,by simp[e4,q]⟩
 have htl:t<O.length:=by lia
 obtain⟨a,ha⟩:∃a,O[t]? =some a:=⟨_,zAE htl⟩
 obtain⟨b,hb⟩:∃b,O[v]? =some b:=⟨_,zAE hv⟩
 have xa:atD (O.map .int) (t:Int)= .ok (.int a):=dj (by rw[zAT,ha];rfl);have xb:atD (O.map .int) (v:Int)= .ok (.int b):=dj (by rw[zAT,hb];rfl);have hz:ps.length<16777216:=by lia
 by_cases q:0<r6
 .refine⟨ps++[(mnI a b,mxI a b)],.nw (.int (t:Int)),?_,by simp;lia,F.snoc hO ht ha hb⟩
  rw[foB,aK,g1,aR,aK,g2,aR];simp[e6,q,xa,xb,iu,hz,pD,mnI,mxI]
 .refine⟨ps,.nw (.int (t:Int)),?_,by lia,F.up⟩
  rw[foB,aK,g1,aR,aK,g2,aR];simp[e6,q]
def ur{most:Nat}(h1:most<=60):∃n ps,dW [.int c,.int most]= .ok (owD n ps)/\Ow n ps/\(∀p∈ps,p.1<p.2)/\n<=most/\∃rs,ps.Perm rs/\Fr rs:=by
 obtain⟨n,en,hn⟩:=jF (c:=c) (k:=0) (b:=(most:Int)+1) (by decide) (by decide) (by lia) (by lia);obtain⟨kd,ek,hk⟩:=jF (c:=c) (k:=1) (b:=4) (by decide) (by decide) (by decide) (by decide);obtain⟨O,eO,hO⟩:=aDk (c:=c) (most:=most) (n:=n) (kd:=kd) (s4:=.no) (s5:=.no) (s6:=.no) (s7:=.no) (by lia) (by lia);have hnd:O.Nodup:=hO.nodup_iff.mpr (by
  rw[zAg];exact(vq n).imp λ h=>by lia)
 have hW:O.length=n:=by rw[hO.length_eq,dB];lia
 have b5:∀a∈O,0<=a/\a<(n:Int):=λ a ha=>bV.mp (hO.mem_iff.mp ha)
 have hr:=aBX (i:=1) (j:=(n:Int)) (by decide) (by decide) (by lia) (by lia);have hrl:(au 1 (n:Int)).length<=60:=by rw[gU];lia
 obtain⟨ρ',e,ps,s6,s7,rfl,hl,F⟩:=gZ (a:=gnm 6) (u:=foB) (ds:=au 1 n)
  (λ i ρ=>∃(ps:gX) (s6 s7:Slot),ρ=foV c most n kd O ps s6 s7/\ps.length<=i+1/\Fo O (i+1) ps)
  (by
   rintro i d ρ hd ⟨ps,s6,s7,rfl,hps,F⟩;obtain⟨rfl,hlt⟩:=lC hd;have hi:((1:Int)+(i:Int))=((i+1:Nat):Int):=by lia
   rw[hi];obtain⟨ps',s7',e,l',F'⟩:=aIr (c:=c) (most:=most) (n:=n) (kd:=kd) (v:=i+1) (s7:=s7) hnd (by lia) (by lia) (by lia) (by lia) hk hps F;exact⟨_,e,ps',_,s7',rfl,l',F'⟩)
  (ρ:=foV c most n kd O [] .no .no) ⟨[],.no,.no,rfl,by simp,⟨by simp,.nil,λ p hp=>(nomatch hp)⟩⟩
 have hps60:ps.length<=61:=by lia
 obtain⟨qs,q1,q2,q3⟩:=nA F.nd (by lia);have hq:∀p∈qs,(0<=p.1/\p.1<(n:Int))/\(0<=p.2/\p.2<(n:Int))/\p.1<p.2:=λ p hp=>by
  obtain⟨i,j,a,b,h1,h2,h3,h4,rfl⟩:=F.at_ p (q2.mem_iff.mp hp);have hne:a≠b:=λ e=>by
   subst e
   have:=(zCJ (zAM.mp h3).1 hnd).mp (h3.trans h4.symm)
   lia
  obtain⟨m1,m2⟩:=aDr (λ x=>0<=x/\x<(n:Int)) (b5 a (zA9 h3)) (b5 b (zA9 h4));exact⟨m1,m2,aJg hne⟩
 have hpl:ps.length<=n:=by
  rcases Nat.eq_zero_or_pos n with z|z
  .have:ps=[]:=by
    cases ps with
    |nil=>rfl
    |cons p ps=>
     obtain⟨m1,_⟩:=hq p (q2.mem_iff.mpr zAL);lia
   rw[this];exact zAj _
  .rw[gU]at hl
   lia
 refine⟨n,qs,?_,⟨by lia,by lia,by rw[q2.length_eq];lia,λ p hp=>?_,q3⟩,λ p hp=>(hq p hp).2.2,by lia,ps,q2,F.fr⟩
 .have st:ao 8 [.int c,.int most]=[.sh (.int c),.sh (.int most),.no,.no,.no,.no,.no,.no]:=rfl
  have g1:cQ 2 (aU aX (aC (aD 0) (aC (cD (.int 0)) (aC (op2 fU (aD 1) (cD (.int 1))) aH)))) [.sh (.int c),.sh (.int most),.no,.no,.no,.no,.no,.no]= .nx [.sh (.int c),.sh (.int most),.sh (.int n),.no,.no,.no,.no,.no]:=by simp[en]
  have g2:cQ 3 (aU aX (aC (aD 0) (aC (cD (.int 1)) (aC (cD (.int 4)) aH)))) [.sh (.int c),.sh (.int most),.sh (.int n),.no,.no,.no,.no,.no]= .nx [.sh (.int c),.sh (.int most),.sh (.int n),.sh (.int kd),.no,.no,.no,.no]:=by simp[ek]
  have g3:ug 4 foO [.sh (.int c),.sh (.int most),.sh (.int n),.sh (.int kd),.no,.no,.no,.no]= .nx [.sh (.int c),.sh (.int most),.sh (.int n),.sh (.int kd),.nw (.lst (O.map .int)),.no,.no,.no]:=by rw[aFE,eO];rfl
  have g4:fB 5 (eE aH) [.sh (.int c),.sh (.int most),.sh (.int n),.sh (.int kd),.nw (.lst (O.map .int)),.no,.no,.no]= .nx (foV c most n kd O [] .no .no):=rfl;have g5:gW yo (aC (cD (.int 1)) (aC (aD 2) aH)) (foV c most n kd O [] .no .no)= .ok (au 1 n):=by simp[hr]
  simp only[dW,dU,bO,st];rw[aK,g1,aR,aK,g2,aR,aK,g3,aR,aK,g4,aR,aK,cG,g5,bG,e,aR];simp[q1,owD]
 .obtain⟨⟨a1,a2⟩,⟨b1,b2⟩,lt⟩:=hq p hp
  exact⟨a1,a2,b1,b2,by lia⟩
end
def aBb:ltP p q=true↔p.1<q.1\/p.1=q.1/\p.2<q.2:=by
 unfold ltP;have e:HT.lexLt [p.1,p.2] [q.1,q.2]=true↔p.1<q.1\/p.1=q.1/\p.2<q.2:=by
  by_cases h1:p.1=q.1
  .by_cases h2:p.2=q.2
   .simp[HT.lexLt,h1,h2]
   .simp[HT.lexLt,h1,h2]
  .simp[HT.lexLt,h1]
 exact e
def aDP{ps:gX}:ul ps=true↔ps.Pairwise λ p q=>p.1<q.1\/p.1=q.1/\p.2<q.2:=by
 constructor
 .intro h
  have h':=wW.mp h;clear h;induction ps with
  |nil=>exact .nil
  |cons p ps ih=>
   have hs:∀(i:Nat) (p q:Int×Int),ps[i]? =some p->ps[i+1]? =some q->ltP p q=true:=λ i a b e1 e2=>h' (i+1) a b e1 e2
   have hp:=ih hs;refine zAi.mpr ⟨λ q hq=>?_,hp⟩;cases ps with
   |nil=>cases hq
   |cons r rs=>
    have h1:=aBb.mp (h' 0 p r rfl rfl);rcases zAX.mp hq with rfl|hq
    .exact h1
    .have h2:=(zAi.mp hp).1 q hq
     lia
 .intro h
  rw[wW];intro i p q e1 e2;rw[aBb];obtain⟨h1,rfl⟩:=zAM.mp e1;obtain⟨h2,rfl⟩:=zAM.mp e2;exact zBI.mp h i (i+1) h1 h2 (zD3 i)
def xN{n:Int}{ps:gX}(h:Ow n ps)(low:∀p∈ps,p.1<p.2):gh [owD n ps]= .ok (.bl (((lE n (dbl ps)).length:Int)==n-(ps.length:Int))):=by
 have e:=aDd h low;have st:ao 1 [owD n ps]=[.sh (owD n ps)]:=rfl;have h0:ixD (owD n ps) (.int 0)= .ok (.int n):=by simp[owD]
 have h1:ixD (owD n ps) (.int 1)= .ok (.tup (ps.map pD)):=by simp[owD]
 simp only[gh,eV,bO,st];simp[e,h0,h1]
section
variable{ps qs:gX}{S:List Int}
def inN(S:List Int)(ps:gX):Nat:=(ps.filter λ p=>decide (p.1∈S)&&decide (p.2∈S)).length
def Ac(ps:gX):Prop:=∀S:List Int,S.Nodup->S≠[]->inN S ps+1<=S.length
def aEJ(h:ps.Perm qs):inN S ps=inN S qs:=(h.filter _).length_eq
def Ac.perm(h:ps.Perm qs)(A:Ac qs):Ac ps:=λ S nd ne=>by rw[aEJ h];exact A S nd ne
def mW(a b:Int):(mnI a b=a/\mxI a b=b)\/(mnI a b=b/\mxI a b=a):=by
 unfold mnI mxI;split<;>split
 .lia
 .exact .inr ⟨rfl,rfl⟩
 .exact .inl ⟨rfl,rfl⟩
 .have:a=b:=by lia
  exact .inl ⟨rfl,this⟩
def aDs{a b:Int}:(decide (mnI a b∈S)&&decide (mxI a b∈S))=(decide (a∈S)&&decide (b∈S)):=by
 rcases mW a b with ⟨h1,h2⟩|⟨h1,h2⟩
 .rw[h1,h2]
 .rw[h1,h2,Bool.and_comm]
def Fr.ac(h:Fr ps):Ac ps:=by
 induction h with
 |nil=>
  intro S _ ne
  have:=List.length_pos_iff.mpr ne
  show 0+1<=S.length;lia
 |@snoc ps a b h ne no ih=>
  intro S nd hS;unfold inN;rw[zBc,zAV,zBJ,zDa];dsimp only;rw[aDs];by_cases c:a∈S/\b∈S
  .rw[if_pos (by simp[c])]
   have e:(ps.filter λ p=>decide (p.1∈S)&&decide (p.2∈S))=ps.filter λ p=>decide (p.1∈S.erase b)&&decide (p.2∈S.erase b):=zBn λ p hp=>by
    simp only[zCN (no p hp).1,zCN (no p hp).2]
   have h1:=ih (S.erase b) (nd.erase b) (zDB ((zCN ne).mpr c.1));unfold inN at h1;rw[zDO c.2]at h1;rw[e];simp only[zA2,zB4];lia
  .rw[if_neg (by simpa using c)]
   have:=ih S nd hS
   unfold inN at this;simpa using this
end
section
variable{n:Int}{ps qs:gX}
def Cn.sub(h:Cn es a b)(s:∀p∈es,p∈es'):Cn es' a b:=by
 induction h with
 |refl=>exact .refl
 |step _ e ih=>exact ih.step (s _ e)
def aAh{a b x y:Int}:(x,y)∈dbl (ps++[(mnI a b,mxI a b)])↔(x,y)∈dbl ps\/(x=a/\y=b)\/(x=b/\y=a):=by
 rw[cU,cU,zAQ,zAQ,zAD,zAD,zCf,zCf];rcases mW a b with ⟨h1,h2⟩|⟨h1,h2⟩
 .rw[h1,h2]
  constructor
  .rintro((h|h)|(h|h))
   .exact .inl (.inl h)
   .exact .inr (.inl h)
   .exact .inl (.inr h)
   .exact .inr (.inr ⟨h.2,h.1⟩)
  .rintro((h|h)|(h|h))
   .exact .inl (.inl h)
   .exact .inr (.inl h)
   .exact .inl (.inr h)
   .exact .inr (.inr ⟨h.2,h.1⟩)
 .rw[h1,h2]
  constructor
  .rintro((h|h)|(h|h))
   .exact .inl (.inl h)
   .exact .inr (.inr h)
   .exact .inl (.inr h)
   .exact .inr (.inl ⟨h.2,h.1⟩)
  .rintro((h|h)|(h|h))
   .exact .inl (.inl h)
   .exact .inr (.inl h)
   .exact .inr (.inr ⟨h.2,h.1⟩)
   .exact .inl (.inr h)
def alone(no:∀p∈ps,p.1≠b/\p.2≠b)(h:Cn (dbl ps) x y):x=b↔y=b:=by
 induction h with
 |refl=>exact Iff.rfl
 |@step u v _ e ih=>
  have:u≠b/\v≠b:=by
   rcases cU.mp e with z|z
   .exact⟨(no _ z).1,(no _ z).2⟩
   .exact⟨(no _ z).2,(no _ z).1⟩
  rw[ih];exact⟨λ z=>absurd z this.1,λ z=>absurd z this.2⟩
def aG7(no:∀p∈ps,p.1≠b/\p.2≠b)(h:Cn (dbl (ps++[(mnI a b,mxI a b)])) x y):Cn (dbl ps) x y\/(Cn (dbl ps) x a/\y=b)\/(x=b/\Cn (dbl ps) a y):=by
 induction h with
 |refl=>exact .inl .refl
 |@step u v _ e ih=>
  rcases aAh.mp e with e2|⟨rfl,rfl⟩|⟨rfl,rfl⟩
  .rcases ih with h|⟨h,e3⟩|⟨e3,h⟩
   .exact .inl (h.step e2)
   .exact .inr (.inl ⟨h,(alone no (.step .refl e2)).mp e3⟩)
   .exact .inr (.inr ⟨e3,h.step e2⟩)
  .rcases ih with h|⟨h,e1⟩|⟨h,k⟩
   .exact .inr (.inl ⟨h,rfl⟩)
   .exact .inr (.inl ⟨h,rfl⟩)
   .subst h;exact .inl .refl
  .rcases ih with h|⟨h,_⟩|⟨h,k⟩
   .have:=(alone no h).mpr rfl
    subst this;exact .inr (.inr ⟨rfl,.refl⟩)
   .exact .inl h
   .exact .inr (.inr ⟨h,.refl⟩)
def aDw(hin:∀p∈ps,(0<=p.1/\p.1<n)/\(0<=p.2/\p.2<n))(ha:0<=a/\a<n):∃m,(0<=m/\m<n)/\Cn (dbl ps) a m/\bI (dbl ps) m=true:=by
 have bE:∀x y,(x,y)∈dbl ps->0<=y/\y<n:=λ x y h=>by
  rcases cU.mp h with z|z
  .exact(hin _ z).2
  .exact(hin _ z).1
 have:∀k:Nat,∀a:Int,(0<=a/\a<n)->a.toNat<=k->∃m,(0<=m/\m<n)/\Cn (dbl ps) a m/\bI (dbl ps) m=true:=by
  intro k;induction k with
  |zero=>exact λ a ha hk=>⟨a,ha,.refl,cJ.mpr λ b hb _=>by lia⟩
  |succ k ih=>
   intro a ha hk;by_cases c:bI (dbl ps) a=true
   .exact⟨a,ha,.refl,c⟩
   .rw[cJ]at c
    obtain⟨b,hb⟩:=Classical.not_forall.mp c;obtain⟨hb0,hb⟩:=zFp.mp hb;obtain⟨hb1,hb⟩:=zFp.mp hb;obtain⟨m,h1,h2,h3⟩:=ih b (hb1.inn bE ha) (by lia);exact⟨m,h1,hb1.trans h2,h3⟩
 exact this a.toNat a ha (zAU _)
def aE0{l:List Int}{p:Int->Bool}{M:Int}(nd:l.Nodup)(hm:M∈l)(hp:p M=true):(l.filter λ x=>p x&& !decide (x=M)).length+1=(l.filter p).length:=by
 induction l with
 |nil=>cases hm
 |cons x l ih=>
  obtain⟨h1,h2⟩:=zAh.mp nd;by_cases c:x=M
  .subst c
   have e:(l.filter λ y=>p y&& !decide (y=x))=l.filter p:=zBn λ y hy=>by
    have:y≠x:=λ e=>h1 (e▸hy)
    simp[this]
   simp[hp,e]
  .have hm':M∈l:=(zAX.mp hm).resolve_left λ e=>c e.symm
   have:=ih h2 hm'
   by_cases d:p x=true
   .simp[d,c];exact this
   .simp[d];exact this
def Fr.parts(h:Fr ps)(hin:∀p∈ps,(0<=p.1/\p.1<n)/\(0<=p.2/\p.2<n)):((upI n).filter (bI (dbl ps))).length+ps.length=n.toNat:=by
 induction h with
 |nil=>
  have e:(upI n).filter (bI (dbl []))=upI n:=zEG.mpr λ x hx=>cJ.mpr λ b hb h=>by
   have:∀y,Cn (dbl []) x y->y=x:=λ y h=>by
    induction h with
    |refl=>rfl
    |step _ e _=>cases e
   rw[this b h];exact Int.le_refl _
  rw[e,dB];rfl
 |@snoc ps a b h ne no ih=>
  have hin':∀p∈ps,(0<=p.1/\p.1<n)/\(0<=p.2/\p.2<n):=λ p hp=>hin p (zAK _ hp)
  have hab:(0<=a/\a<n)/\(0<=b/\b<n):=by
   have:=hin (mnI a b,mxI a b) (by simp)
   dsimp only at this;rcases mW a b with ⟨h1,h2⟩|⟨h1,h2⟩
   .rw[h1,h2]at this;exact this
   .rw[h1,h2]at this;exact⟨this.2,this.1⟩
  obtain⟨m,hm1,hm2,hm3⟩:=aDw hin' hab.1;have hmb:m≠b:=λ z=>ne ((alone no hm2).mpr z)
  have S:=mF ps;have S':=mF (ps++[(mnI a b,mxI a b)]);have sub:∀p∈dbl ps,p∈dbl (ps++[(mnI a b,mxI a b)]):=λ p hp=>aAh.mpr (.inl hp)
  have tie:Cn (dbl (ps++[(mnI a b,mxI a b)])) m b:=((hm2.sub sub).symm S').step (aAh.mpr (.inr (.inl ⟨rfl,rfl⟩)));have lb:bI (dbl ps) b=true:=cJ.mpr λ y _ h=>by rw[(alone no h).mp rfl];exact Int.le_refl _
  have key:∀x∈upI n,bI (dbl (ps++[(mnI a b,mxI a b)])) x=(bI (dbl ps) x&& !decide (x=if m<b then b else m)):=λ x hx=>by
   have hx:=bV.mp hx;rw[zBH,zAP,cJ,cJ];constructor
   .intro h
    refine⟨λ y hy hc=>h y hy (hc.sub sub),?_⟩;rw[zBM,decide_eq_false_iff_not];intro e;split at e
    .subst e
     have:=h m hm1.1 (tie.symm S')
     lia
    .subst e
     have:=h b hab.2.1 tie
     lia
   .rintro⟨h,hM⟩ y hy hc
    rw[zBM,decide_eq_false_iff_not]at hM;rcases aG7 no hc with h1|⟨h1,rfl⟩|⟨rfl,h1⟩
    .exact h y hy h1
    .have e1:=h m hm1.1 (h1.trans hm2)
     have e2:=cJ.mp hm3 x hx.1 ((hm2.symm S).trans (h1.symm S));split at hM<;>lia
    .have e1:=cJ.mp hm3 y hy ((hm2.symm S).trans h1)
     split at hM<;>lia
  rw[zBn key];have hM:(if m<b then b else m)∈upI n:=by
   split
   .exact bV.mpr hab.2
   .exact bV.mpr hm1
  have hp:bI (dbl ps) (if m<b then b else m)=true:=by
   split
   .exact lb
   .exact hm3
  have:=aE0 (iG n) hM hp
  have:=ih hin'
  rw[zAV,zAs];lia
def aAo(h:∀p,p∈ps↔p∈qs):bI (dbl ps)=bI (dbl qs):=by
 have e:∀p,p∈dbl ps↔p∈dbl qs:=λ⟨x,y⟩=>by rw[cU,cU,h,h]
 funext x;rw[zBH,cJ,cJ];exact⟨λ k y hy hc=>k y hy (hc.sub λ p hp=>(e p).mpr hp),λ k y hy hc=>k y hy (hc.sub λ p hp=>(e p).mp hp)⟩
def tZ(h:Ow n ps)(low:∀p∈ps,p.1<p.2)(hp:ps.Perm qs)(F:Fr qs):gh [owD n ps]= .ok (.bl true):=by
 rw[xN h low];have e:=F.parts (n:=n) λ p hq=>by
  obtain⟨a,b,c,d,_⟩:=h.pr p (hp.mem_iff.mpr hq);exact⟨⟨a,b⟩,c,d⟩
 have hl:(lE n (dbl ps)).length=((upI n).filter (bI (dbl qs))).length:=by
  unfold lE;rw[zAB,aAo λ p=>hp.mem_iff]
 have h0:=h.n0
 have:(((lE n (dbl ps)).length:Int)==n-(ps.length:Int))=true:=by
  rw[beq_iff_eq,hl,hp.length_eq];lia
 rw[this]
end
theorem fO{α:Type}[DecidableEq α]:∀{l m:List α},l.Nodup->(∀x∈l,x∈m)->l.length<=m.length
 |[],_,_,_=>zAj _
 |x::l,m,h,hs=>by
  obtain⟨h1,h2⟩:=zAh.mp h;have hx:=hs x zAL
  have:=fO (m:=m.erase x) h2 λ y hy=>(zCN (λ e:y=x=>h1 (e▸hy))).mpr (hs y (zAG _ hy))
  have hp:=zFq hx;rw[zDO hx]at this;rw[zA2];lia
section
variable{n:Int}{ps:gX}
def oN(h:Ow n ps):ps.Nodup:=by
 refine(aDP.mp h.ris).imp λ{a b} q e=>?_
 subst e;lia
end
section
variable{ps:gX}
theorem v9:∀{ps:gX},ps.Nodup->(∀p∈ps,p.1<p.2)->(dbl ps).Nodup
 |[],_,_=>zHN
 |p::ps,h,low=>by
  obtain⟨h1,h2⟩:=zAh.mp h;have ih:=v9 h2 λ q hq=>low q (zAG _ hq)
  have lp:=low p zAL;have no:∀q∈ps,q≠(p.2,p.1):=λ q hq e=>by
   have:=low q (zAG _ hq)
   rw[e]at this;dsimp only at this;lia
  rw[zc];refine zAh.mpr ⟨λ z=>?_,zAh.mpr ⟨λ z=>?_,ih⟩⟩
  .rcases zAX.mp z with e|z
   .have:=congrArg zDp e
    dsimp only at this;lia
   .rcases cU.mp (show(p.1,p.2)∈dbl ps from z)with z|z
    .exact h1 z
    .exact no _ z rfl
  .rcases cU.mp z with z|z
   .exact no _ z rfl
   .exact h1 z
def aCP(h:ps.Nodup)(low:∀p∈ps,p.1<p.2)(a:Int):(iT (dbl ps) a).Nodup:=by
 unfold iT List.Nodup;rw[zB2];refine zH8 ?_ ((v9 h low).filter _);intro p q hp hq ne e;have e1:p.1=a:=by simpa using(zA6.mp hp).2
 have e2:q.1=a:=by simpa using(zA6.mp hq).2
 exact ne (zFk (e1.trans e2.symm) e)
end
abbrev Hr:=Int×Option Int
def upD:Option Int->D
 |none=>.non
 |some u=>.int u
def hrD(r:Hr):D:=.tup [.int r.1,upD r.2]
structure Hg(n:Int)(ps:gX)(A T:List Hr):Prop where
 nd:((A++T).map (·.1)).Nodup
 inn:∀r∈A++T,0<=r.1/\r.1<n
 tie:∀r∈A++T,∀u,r.2=some u->(r.1,u)∈dbl ps
 ord:∀X r Y,A++T=X++r::Y->∀u,r.2=some u->u∈X.map (·.1)
 cl:∀r∈A,∀q,(r.1,q)∈dbl ps->r.2=some q\/(q,some r.1)∈A
 hd:T=[]\/∃t T',T=(t,none)::T'/\∀r∈T',∃u,r.2=some u/\u∈T.map (·.1)
theorem yu{α:Type}{R:α->α->Prop}:∀{l:List α},(∀X r Y,l=X++r::Y->∀s∈Y,R r s)->l.Pairwise R
 |[],_=>.nil
 |a::l,h=>.cons (h [] a l rfl) (yu λ X r Y e=>h (a::X) r Y (by rw[e];rfl))
section
variable{n:Int}{ps:gX}
def vz(low:∀p∈ps,p.1<p.2){x y:Int}(h:(x,y)∈dbl ps):(mnI x y,mxI x y)∈ps:=by
 unfold mnI mxI;rcases cU.mp h with z|z
 .have:=low _ z
  dsimp only at this;rw[if_neg (by lia),if_pos (by lia)];exact z
 .have:=low _ z
  dsimp only at this;rw[if_pos (by lia),if_neg (by lia)];exact z
def aB9{a b c d:Int}(h:(mnI a b,mxI a b)=(mnI c d,mxI c d)):(a=c/\b=d)\/(a=d/\b=c):=by
 rw[zCf]at h;obtain⟨h1,h2⟩:=h;rcases mW a b with ⟨e1,e2⟩|⟨e1,e2⟩<;>rcases mW c d with ⟨e3,e4⟩|⟨e3,e4⟩<;>rw[e1,e3]at h1<;>rw[e2,e4]at h2
 .exact .inl ⟨h1,h2⟩
 .exact .inr ⟨h1,h2⟩
 .exact .inr ⟨h2,h1⟩
 .exact .inl ⟨h2,h1⟩
def aEs(r:Hr):Int×Int:=(mnI r.1 (r.2.getD 0),mxI r.1 (r.2.getD 0))
def Hg.row(h:Hg n ps A T){r s:Hr}(hr:r∈A++T)(hs:s∈A++T)(e:r.1=s.1):r=s:=by
 have:=h.nd
 rw[zAg,zB2]at this;exact zE2 λ z=>by
  obtain⟨i,hi,rfl⟩:=zBw hr;obtain⟨j,hj,rfl⟩:=zBw hs;rcases zGx i j with k|k|k
  .exact zBI.mp this i j hi hj k e
  .subst k;exact z rfl
  .exact zBI.mp this j i hj hi k e.symm
def Hg.apart(h:Hg n ps A T){x:Int}(h1:x∈A.map (·.1))(h2:x∈T.map (·.1)):False:=by
 have:=h.nd
 rw[zAW,zAb]at this;exact this.2.2 x h1 x h2 rfl
def Hg.fresh(h:Hg n ps A T)(low:∀p∈ps,p.1<p.2)(Ac':Ac ps)(hr:r∈T)(ht:(r.1,q)∈dbl ps)(hu:r.2≠some q)(hn:(q,some r.1)∉T):q∉(A++T).map (·.1):=by
 have hrT:r.1∈T.map (·.1):=zAS.mpr ⟨r,hr,rfl⟩;intro hq;rw[zAW]at hq;rcases zAQ.mp hq with hq|hq
 .obtain⟨s,hs,rfl⟩:=zAS.mp hq
  rcases h.cl s hs r.1 (mF ps _ _ ht)with e|e
  .obtain⟨X,Y,rfl⟩:=zDA hs
   have:=h.ord X s (Y++T) (by simp) r.1 e
   exact h.apart (by rw[zAW];exact zAK _ this) hrT
  .exact h.apart (zAS.mpr ⟨_,e,rfl⟩) hrT
 .rcases h.hd with z|⟨t,T',rfl,hT⟩
  .rw[z]at hr;cases hr
  have ndT:(((t,none)::T').map (·.1)).Nodup:=by
   have:=h.nd
   rw[zAW,zAb]at this;exact this.2.1
  have sub:∀{s:Hr},s∈T'->s∈A++(t,none)::T':=λ hs=>zA0 _ (zAG _ hs)
  have tR:∀{s:Hr} {u:Int},s.2=some u->aEs s=(mnI s.1 u,mxI s.1 u):=λ{s u} e=>by unfold aEs;rw[e];rfl
  have hL:(T'.map aEs++[(mnI r.1 q,mxI r.1 q)]).Nodup:=by
   rw[zAb];refine⟨?_,by simp,λ a ha b hb e=>?_⟩
   .rw[zAg,zB2]
    refine yu λ X s Y e s' hs' z=>?_
    have hs:s∈T':=by rw[e];simp
    have hs2:s'∈T':=by rw[e];simp[hs']
    obtain⟨u,eu,_⟩:=hT s hs;obtain⟨u',eu',_⟩:=hT s' hs2;rw[tR eu,tR eu']at z;have ne:s.1≠s'.1:=λ z2=>by
     rw[e]at ndT;rw[zAH,zAW,zAH]at ndT
     have:=(zAh.mp (zAb.mp (zAh.mp ndT).2).2.1).1
     exact this (by rw[z2];exact zAS.mpr ⟨s',hs',rfl⟩)
    rcases aB9 z with ⟨z1,_⟩|⟨z1,z2⟩
    .exact ne z1
    .have:=h.ord (A++(t,none)::X) s Y (by rw[e];simp) u eu
     rw[z2]at this;have nd:=h.nd;rw[e]at nd;rw[show A++(t,none)::(X++s::Y)=(A++(t,none)::X)++s::Y by simp,zAW,zAb]at nd;exact nd.2.2 _ this _ (zAS.mpr ⟨s',zAG _ hs',rfl⟩) rfl
   .rw[zAD]at hb
    subst hb;obtain⟨s,hs,rfl⟩:=zAS.mp ha;obtain⟨u,eu,_⟩:=hT s hs;rw[tR eu]at e;rcases aB9 e with ⟨z1,z2⟩|⟨z1,z2⟩
    .have:=h.row (sub hs) (zA0 A hr) z1
     subst this;rw[z2]at eu;exact hu eu
    .refine hn (zAG _ ?_)
     have:s=(q,some r.1):=zFk z1 (by rw[eu,z2])
     rw[<-this];exact hs
  have hin:∀p∈T'.map aEs++[(mnI r.1 q,mxI r.1 q)],p∈ps.filter λ p=>decide (p.1∈((t,none)::T').map (·.1))&&decide (p.2∈((t,none)::T').map (·.1)):=λ p hp=>by
   rcases zAQ.mp hp with z|z
   .obtain⟨s,hs,rfl⟩:=zAS.mp z
    obtain⟨u,eu,hm⟩:=hT s hs;rw[tR eu];refine zA6.mpr ⟨vz low (h.tie s (sub hs) u eu),?_⟩;dsimp only;rw[aDs,zAP,decide_eq_true_eq,decide_eq_true_eq];exact⟨zAS.mpr ⟨s,zAG _ hs,rfl⟩,hm⟩
   .rw[zAD.mp z]
    refine zA6.mpr ⟨vz low ht,?_⟩;dsimp only;rw[aDs,zAP,decide_eq_true_eq,decide_eq_true_eq];exact⟨hrT,hq⟩
  have h1:=fO hL hin;have h2:=Ac' (((t,none)::T').map (·.1)) ndT (by simp);unfold inN at h2;rw[zAV,zAB,zAs]at h1;rw[zAB,zA2]at h2;lia
def sI{α:Type}{l X Y:List α}{a r:α}(e:l++[a]=X++r::Y):(X=l/\r=a/\Y=[])\/∃Y',Y=Y'++[a]/\l=X++r::Y':=by
 rcases zGL Y with rfl|⟨Y',b,rfl⟩
 .have:=zGt e rfl
  rw[zDR]at this;exact .inl ⟨this.1.symm,this.2.1.symm,rfl⟩
 .have e2:l++[a]=(X++r::Y')++[b]:=by rw[e];simp
  have:=zGt e2 rfl
  rw[zDR]at this;exact .inr ⟨Y',by rw[this.2.1,zGK],this.1⟩
def Hg.snoc(h:Hg n ps A T)(hr:r∈T)(hq:0<=q/\q<n)(ht:(r.1,q)∈dbl ps)(hn:q∉(A++T).map (·.1)):Hg n ps A (T++[(q,some r.1)]):=by
 have hrT:r.1∈T.map (·.1):=zAS.mpr ⟨r,hr,rfl⟩;refine⟨?_,λ s hs=>?_,λ s hs u eu=>?_,λ X s Y e u eu=>?_,h.cl,.inr ?_⟩
 .rw[<-zAo,zAW,zAb]
  exact⟨h.nd,by simp,λ x hx y hy e=>by rw[zAH,zCG,zAD]at hy;subst hy;subst e;exact hn hx⟩
 .rw[<-zAo]at hs
  rcases zAQ.mp hs with z|z
  .exact h.inn s z
  .rw[zAD.mp z];exact hq
 .rw[<-zAo]at hs
  rcases zAQ.mp hs with z|z
  .exact h.tie s z u eu
  .rw[zAD.mp z]at eu ⊢
   cases eu;exact mF ps _ _ ht
 .rw[<-zAo]at e
  rcases sI e with ⟨rfl,rfl,_⟩|⟨Y',_,e2⟩
  .cases eu
   rw[zAW];exact zA0 _ hrT
  .exact h.ord X s Y' e2 u eu
 .rcases h.hd with z|⟨t,T',rfl,hT⟩
  .rw[z]at hr;cases hr
  .refine⟨t,T'++[(q,some r.1)],rfl,λ s hs=>?_⟩
   rcases zAQ.mp hs with z|z
   .obtain⟨u,e1,e2⟩:=hT s z
    exact⟨u,e1,by rw[zAW];exact zAK _ e2⟩
   .rw[zAD.mp z]
    exact⟨r.1,rfl,by rw[zAW];exact zAK _ hrT⟩
def Hg.len(h:Hg n ps A T):(A++T).length<=n.toNat:=by
 have:=fO (m:=upI n) h.nd λ x hx=>by
  obtain⟨r,hr,rfl⟩:=zAS.mp hx;exact bV.mpr (h.inn r hr)
 rwa [zAB,dB]at this
end
section
variable{n:Int}{ps:gX}
abbrev huE(n:Int)(ps:gX)(ll:cK)(seen:List Int)(rows:List Hr)(k:Int)(s5 s6 s7 s8:Slot):En:=[.sh (owD n ps),.sh (.lst (ll.map .lst)),.ow (.set seen),.ow (.lst (rows.map hrD)),.sh (.int k),s5,s6,s7,s8]
structure Sn(seen:List Int)(rows:List Hr):Prop where
 nd:seen.Nodup
 iff:∀x,x∈seen↔∃u,(x,some u)∈rows
def Sn.len(S:Sn seen (A++T))(h:Hg n ps A T):seen.length<=n.toNat:=by
 have:=fO (m:=upI n) S.nd λ x hx=>by
  obtain⟨u,hu⟩:=(S.iff x).mp hx;exact bV.mpr (h.inn _ hu)
 rwa [dB]at this
theorem uD(O:Ow n ps)(low:∀p∈ps,p.1<p.2)(Ac':Ac ps):∀(us:List Int) (T:List Hr) (seen:List Int) (s8:Slot),r∈T->us.Nodup->(∀u∈us,(r.1,u)∈dbl ps)->(∀u∈us,(u,some r.1)∉T)->Hg n ps A T->Sn seen (A++T)->
  ∃M seen' s8',forL (gnm 8) huI (us.map .int) (huE n ps ll seen (A++T) k s5 (.sh (.int r.1)) (.sh (upD r.2)) s8)= .nx (huE n ps ll seen' (A++(T++M)) k s5 (.sh (.int r.1)) (.sh (upD r.2)) s8')/\Hg n ps A (T++M)/\Sn seen' (A++(T++M))/\(∀u∈us,r.2=some u\/(u,some r.1)∈T++M)/\∀s∈M,s.2=some r.1
 |[],T,seen,s8,_,_,_,_,h,S=>⟨[],seen,s8,by simp,by simpa using h,by simpa using S,λ u hu=>(nomatch hu),λ s hs=>(nomatch hs)⟩
 |q::us,T,seen,s8,hr,nd,ht,hn,h,S=>by
  obtain⟨nd1,nd2⟩:=zAh.mp nd;have tq:=ht q zAL;have hq:0<=q/\q<n:=by
   rcases cU.mp tq with z|z
   .have:=O.pr _ z;exact⟨this.2.2.1,this.2.2.2.1⟩
   .have:=O.pr _ z;exact⟨this.1,this.2.1⟩
  have hW:=h.len;have hsl:=S.len h;have hn1:=O.n1;rw[zAH,cY,lL,jL]
  show∃M seen' s8',(huI (huE n ps ll seen (A++T) k s5 (.sh (.int r.1)) (.sh (upD r.2)) (.sh (.int q)))).tn _=_/\_
  by_cases c:r.2=some q
  .have e:huI (huE n ps ll seen (A++T) k s5 (.sh (.int r.1)) (.sh (upD r.2)) (.sh (.int q)))= .nx (huE n ps ll seen (A++T) k s5 (.sh (.int r.1)) (.sh (upD r.2)) (.sh (.int q))):=by
    simp[huI,c,upD]
   rw[e,mU];obtain⟨M,seen',s8',e1,h1,h2,h3,h4⟩:=uD O low Ac' us T seen (.sh (.int q)) hr nd2 (λ u hu=>ht u (zAG _ hu)) (λ u hu=>hn u (zAG _ hu)) h S;refine⟨M,seen',s8',e1,h1,h2,λ u hu=>?_,h4⟩;rcases zAX.mp hu with rfl|hu
   .exact .inl c
   .exact h3 u hu
  .have fr:=h.fresh low Ac' hr tq c (hn q zAL)
   have hg:=h.snoc hr hq tq fr;have hns:q∉seen:=λ z=>by
    obtain⟨u,hu⟩:=(S.iff q).mp z;exact fr (zAS.mpr ⟨_,hu,rfl⟩)
   have ed:zBA seen q=seen++[q]:=by
    unfold zBA;simp[hns]
   have S':Sn (seen++[q]) (A++(T++[(q,some r.1)])):=by
    refine⟨by rw[zAb];exact⟨S.nd,by simp,λ x hx y hy e=>by rw[zAD.mp hy]at e;subst e;exact hns hx⟩,λ x=>?_⟩;rw[zAQ,S.iff,zAD];constructor
    .rintro(⟨u,hu⟩|rfl)
     .exact⟨u,by rw[<-zAo];exact zAK _ hu⟩
     .exact⟨r.1,by simp⟩
    .rintro⟨u,hu⟩
     rw[<-zAo]at hu;rcases zAQ.mp hu with z|z
     .exact .inl ⟨u,z⟩
     .rw[zAD]at z
      cases z;exact .inr rfl
   have a0:tsb (op2 (eqR true) (aD 8) (aD 7)) (huE n ps ll seen (A++T) k s5 (.sh (.int r.1)) (.sh (upD r.2)) (.sh (.int q)))= .ok true:=by
    obtain⟨r1,r2⟩:=r;cases r2 with
    |none=>simp[upD];rfl
    |some u=>
     have:q≠u:=λ z=>c (by rw[z])
     simp[upD,this]
   have a1:aEg 2 (aq (aD 8)) (huE n ps ll seen (A++T) k s5 (.sh (.int r.1)) (.sh (upD r.2)) (.sh (.int q)))= .nx (huE n ps ll (seen++[q]) (A++T) k s5 (.sh (.int r.1)) (.sh (upD r.2)) (.sh (.int q))):=by
    have hv:aq (aD 8) (huE n ps ll seen (A++T) k s5 (.sh (.int r.1)) (.sh (upD r.2)) (.sh (.int q)))= .ok (.int q):=by simp
    show((aq (aD 8) (huE n ps ll seen (A++T) k s5 (.sh (.int r.1)) (.sh (upD r.2)) (.sh (.int q)))).bo λ d=>aAA (huE n ps ll seen (A++T) k s5 (.sh (.int r.1)) (.sh (upD r.2)) (.sh (.int q))) 2 seen d)=_
    rw[hv,bG];unfold aAA;dsimp only;rw[if_pos (by lia),ed];rfl
   have a2:iu 3 (cH (aC (aq (aD 8)) (aC (aq (aD 6)) aH))) (huE n ps ll (seen++[q]) (A++T) k s5 (.sh (.int r.1)) (.sh (upD r.2)) (.sh (.int q)))= .nx (huE n ps ll (seen++[q]) (A++(T++[(q,some r.1)])) k s5 (.sh (.int r.1)) (.sh (upD r.2)) (.sh (.int q))):=by
    have hz:((A++T).map hrD).length<16777216:=by rw[zAB];lia
    have hv:cH (aC (aq (aD 8)) (aC (aq (aD 6)) aH)) (huE n ps ll (seen++[q]) (A++T) k s5 (.sh (.int r.1)) (.sh (upD r.2)) (.sh (.int q)))= .ok (hrD (q,some r.1)):=by simp[hrD,upD]
    show((cH (aC (aq (aD 8)) (aC (aq (aD 6)) aH)) (huE n ps ll (seen++[q]) (A++T) k s5 (.sh (.int r.1)) (.sh (upD r.2)) (.sh (.int q)))).bo λ d=>if ((A++T).map hrD).length<zAO then .nx ((huE n ps ll (seen++[q]) (A++T) k s5 (.sh (.int r.1)) (.sh (upD r.2)) (.sh (.int q))).set 3 (.ow (.lst ((A++T).map hrD++[d]))))else .st)=_
    rw[hv,bG,if_pos (by rw[szl];exact hz)];simp
   have e:huI (huE n ps ll seen (A++T) k s5 (.sh (.int r.1)) (.sh (upD r.2)) (.sh (.int q)))= .nx (huE n ps ll (seen++[q]) (A++(T++[(q,some r.1)])) k s5 (.sh (.int r.1)) (.sh (upD r.2)) (.sh (.int q))):=by
    rw[huI,fj,a0,bG,if_pos rfl,aK,a1,aR,a2]
   rw[e,mU];obtain⟨M,seen',s8',e1,h1,h2,h3,h4⟩:=uD O low Ac' us (T++[(q,some r.1)]) (seen++[q]) (.sh (.int q)) (zAK _ hr) nd2 (λ u hu=>ht u (zAG _ hu)) (λ u hu z=>by
    rcases zAQ.mp z with z|z
    .exact hn u (zAG _ hu) z
    .rw[zAD]at z
     cases z;exact nd1 hu) hg S'
   rw[zAo]at e1 h1 h2 h3;refine⟨[(q,some r.1)]++M,seen',s8',e1,h1,h2,λ u hu=>?_,λ s hs=>?_⟩
   .rcases zAX.mp hu with rfl|hu
    .exact .inr (by simp)
    .exact h3 u hu
   .rcases zAQ.mp hs with z|z
    .rw[zAD.mp z]
    .exact h4 s z
def aCi{c:En->Rs Bool}{b:En->Ou}{ρ:En}(h:c ρ= .ok false):pH c b ρ= .nx ρ:=by
 show itW c b (999999+1) ρ= .nx ρ;unfold itW;rw[h];rfl
structure Hw(n:Int)(ps:gX)(A T1 T2:List Hr):Prop where
 g:Hg n ps A (T1++T2)
 pr:∀r∈T1,∀q,(r.1,q)∈dbl ps->r.2=some q\/(q,some r.1)∈T1++T2
 up:∀r∈T1++T2,∀u,r.2=some u->u∈T1.map (·.1)
def aIk{T1 T2:List Hr}(O:Ow n ps)(low:∀p∈ps,p.1<p.2)(Ac':Ac ps)(L:∀i:Int,0<=i->i<n->atD (ll.map .lst) i= .ok (.lst ((iT (dbl ps) i).map .int)))(h:Hw n ps A T1 (r::T2))(S:Sn seen (A++(T1++r::T2))):
  ∃M seen' s6' s7' s8',huW (huE n ps ll seen (A++(T1++r::T2)) ((A.length+T1.length:Nat):Int) s5 s6 s7 s8)= .nx (huE n ps ll seen' (A++((T1++[r])++(T2++M))) ((A.length+(T1++[r]).length:Nat):Int) s5 s6' s7' s8')/\Hw n ps A (T1++[r]) (T2++M)/\Sn seen' (A++((T1++[r])++(T2++M))):=by
 have hrT:r∈T1++r::T2:=by simp
 have hri:=h.g.inn r (zA0 _ hrT);have nd:=h.g.nd;rw[show A++(T1++r::T2)=(A++T1)++r::T2 by simp,zAW,zAb]at nd;have hp:r.1∉T1.map (·.1):=λ z=>nd.2.2 r.1 (by rw[zAW];exact zA0 _ z) r.1 (by simp) rfl
 obtain⟨M,seen',s8',e,h1,h2,h3,h4⟩:=uD (ll:=ll) (k:=((A.length+T1.length:Nat):Int)) (s5:=s5) (r:=r) O low Ac' (iT (dbl ps) r.1) (T1++r::T2) seen s8 hrT (aCP (oN O) low r.1) (λ u hu=>xG.mp hu) (λ u hu z=>hp (h.up _ z r.1 rfl)) h.g S;have eq:(T1++r::T2)++M=(T1++[r])++(T2++M):=by simp
 rw[eq]at e h1 h2 h3;have ea:(((A++(T1++r::T2)).map hrD)[A.length+T1.length]?)=some (hrD r):=by
  rw[zAT,show A++(T1++r::T2)=(A++T1)++r::T2 by simp,zCy (by simp)];simp
 have ea':=dj ea;have im:oY (hrD r)= .ok (hrD r):=by
  obtain⟨r1,r2⟩:=r;cases r2<;>rfl
 have c1:aBB (aq (op2 ixD (dZ 3) (aD 4))) (gq 2 (bC (gnm 6) (bC (gnm 7) iU))) (huE n ps ll seen (A++(T1++r::T2)) ((A.length+T1.length:Nat):Int) s5 s6 s7 s8)= .nx (huE n ps ll seen (A++(T1++r::T2)) ((A.length+T1.length:Nat):Int) s5 (.sh (.int r.1)) (.sh (upD r.2)) s8):=by
  have hv:aq (op2 ixD (dZ 3) (aD 4)) (huE n ps ll seen (A++(T1++r::T2)) ((A.length+T1.length:Nat):Int) s5 s6 s7 s8)= .ok (hrD r):=by
   have v1:dZ 3 (huE n ps ll seen (A++(T1++r::T2)) ((A.length+T1.length:Nat):Int) s5 s6 s7 s8)= .ok (.lst ((A++(T1++r::T2)).map hrD)):=rfl;have v2:aD 4 (huE n ps ll seen (A++(T1++r::T2)) ((A.length+T1.length:Nat):Int) s5 s6 s7 s8)= .ok (.int ((A.length+T1.length:Nat):Int)):=rfl;rw[aBk,pQ,v1,bx,v2,bx,aGH,ea',pR,bx,im]
  rw[aGc,hv,bG];simp[hrD]
 have c2:gk (cL (op2 ixD (aD 1) (aD 6))) (gnm 8) huI (huE n ps ll seen (A++(T1++r::T2)) ((A.length+T1.length:Nat):Int) s5 (.sh (.int r.1)) (.sh (upD r.2)) s8)= .nx (huE n ps ll seen' (A++((T1++[r])++(T2++M))) ((A.length+T1.length:Nat):Int) s5 (.sh (.int r.1)) (.sh (upD r.2)) s8'):=by
  have hi:cL (op2 ixD (aD 1) (aD 6)) (huE n ps ll seen (A++(T1++r::T2)) ((A.length+T1.length:Nat):Int) s5 (.sh (.int r.1)) (.sh (upD r.2)) s8)= .ok ((iT (dbl ps) r.1).map .int):=by simp[L _ hri.1 hri.2,-zAW]
  rw[cG,hi,bG,e]
 refine⟨M,seen',.sh (.int r.1),.sh (upD r.2),s8',?_,⟨h1,λ s hs q hq=>?_,λ s hs u eu=>?_⟩,h2⟩
 .rw[huW,aK,c1,aR,aK,c2,aR]
  show Ou.nx (huE n ps ll seen' (A++((T1++[r])++(T2++M))) (((A.length+T1.length:Nat):Int)+1) s5 (.sh (.int r.1)) (.sh (upD r.2)) s8')=_;rw[show(((A.length+T1.length:Nat):Int)+1)=((A.length+(T1++[r]).length:Nat):Int)by simp;lia]
 .rcases zAQ.mp hs with z|z
  .rcases h.pr s z q hq with e|e
   .exact .inl e
   .exact .inr (by rw[<-eq];exact zAK _ e)
  .rw[zAD.mp z]at hq ⊢
   exact h3 q (xG.mpr hq)
 .rw[<-eq]at hs
  rw[zAW];rcases zAQ.mp hs with z|z
  .exact zAK _ (h.up s z u eu)
  .rw[h4 s z]at eu
   cases eu;exact zA0 _ (by simp)
def aEQ{T:List Hr}(O:Ow n ps)(low:∀p∈ps,p.1<p.2)(Ac':Ac ps)(L:∀i:Int,0<=i->i<n->atD (ll.map .lst) i= .ok (.lst ((iT (dbl ps) i).map .int)))(h:Hw n ps A [] T)(S:Sn seen (A++T)):
  ∃T' seen' s6' s7' s8',pH huT huW (huE n ps ll seen (A++T) (A.length:Int) s5 s6 s7 s8)= .nx (huE n ps ll seen' (A++T') ((A++T').length:Int) s5 s6' s7' s8')/\Hw n ps A T' []/\Sn seen' (A++T')/\∃M,T'=T++M:=by
 have hn1:=O.n1;obtain⟨ρ',m',e,⟨T1,T2,seen',s6',s7',s8',rfl,h',S',hm,M,hM⟩,ht⟩:=yK (c:=huT) (b:=huW)
  (λ m ρ=>∃(T1 T2:List Hr) (seen':List Int) (s6 s7 s8:Slot),ρ=huE n ps ll seen' (A++(T1++T2)) ((A.length+T1.length:Nat):Int) s5 s6 s7 s8/\Hw n ps A T1 T2/\Sn seen' (A++(T1++T2))/\m=n.toNat-(A.length+T1.length)/\∃M,T1++T2=T++M)
  (by
   rintro m ρ ⟨T1,T2,seen',s6,s7,s8,rfl,h',S',rfl,M,hM⟩;have hW:=h'.g.len;rw[zAV,zAV]at hW;cases T2 with
   |nil=>
    left;simp[huT]
   |cons r T2=>
    right;rw[zA2]at hW;refine⟨by simp[huT];lia,?_⟩;obtain⟨M',seen2,t6,t7,t8,e,q1,q2⟩:=aIk (s5:=s5) (s6:=s6) (s7:=s7) (s8:=s8) O low Ac' L h' S';refine⟨_,n.toNat-(A.length+(T1++[r]).length),e,by simp;lia,_,_,_,_,_,_,rfl,q1,q2,rfl,M++M',?_⟩;rw[<-zAo T,<-hM];simp)
  (m:=n.toNat-(A.length+([]:List Hr).length)) (ρ:=huE n ps ll seen (A++T) (A.length:Int) s5 s6 s7 s8) (by lia) ⟨[],T,seen,s6,s7,s8,by simp,h,by simpa using S,rfl,[],by simp⟩
 have:T2=[]:=by
  cases T2 with
  |nil=>rfl
  |cons r T2=>
   have:huT (huE n ps ll seen' (A++(T1++r::T2)) ((A.length+T1.length:Nat):Int) s5 s6' s7' s8')= .ok true:=by simp[huT];lia
   rw[this]at ht;cases ht
 subst this;rw[zAm]at e hM S';refine⟨T1,seen',s6',s7',s8',?_,h',S',M,hM⟩;rw[e,zAV]
structure nj(n:Int)(ps:gX)(rows:List Hr):Prop where
 pm:(rows.map (·.1)).Perm (upI n)
 tie:∀r∈rows,∀u,r.2=some u->(r.1,u)∈dbl ps
 ord:∀X r Y,rows=X++r::Y->∀u,r.2=some u->u∈X.map (·.1)
 cl:∀r∈rows,∀q,(r.1,q)∈dbl ps->r.2=some q\/(q,some r.1)∈rows
def aGS(O:Ow n ps)(low:∀p∈ps,p.1<p.2)(Ac':Ac ps):∃rows,uY [owD n ps]= .ok (.lst (rows.map hrD))/\nj n ps rows:=by
 obtain⟨ll,el,_,L⟩:=pA O;have hn0:=O.n0;have hn1:=O.n1;have hx:ixD (owD n ps) (.int 0)= .ok (.int n):=by simp[owD]
 have st:ao 9 [owD n ps]=[.sh (owD n ps),.no,.no,.no,.no,.no,.no,.no,.no]:=rfl;have hr:=gK (j:=n) (by lia) (by lia);have c1:cQ 1 (aU cX (aC (aD 0) aH)) [.sh (owD n ps),.no,.no,.no,.no,.no,.no,.no,.no]= .nx [.sh (owD n ps),.sh (.lst (ll.map .lst)),.no,.no,.no,.no,.no,.no,.no]:=by simp[el]
 have c2:fB 2 (cD (.set [])) [.sh (owD n ps),.sh (.lst (ll.map .lst)),.no,.no,.no,.no,.no,.no,.no]= .nx [.sh (owD n ps),.sh (.lst (ll.map .lst)),.ow (.set []),.no,.no,.no,.no,.no,.no]:=by simp
 have c3:fB 3 (eE aH) [.sh (owD n ps),.sh (.lst (ll.map .lst)),.ow (.set []),.no,.no,.no,.no,.no,.no]= .nx [.sh (owD n ps),.sh (.lst (ll.map .lst)),.ow (.set []),.ow (.lst []),.no,.no,.no,.no,.no]:=by simp
 have c4:cQ 4 (cD (.int 0)) [.sh (owD n ps),.sh (.lst (ll.map .lst)),.ow (.set []),.ow (.lst []),.no,.no,.no,.no,.no]= .nx (huE n ps ll [] [] 0 .no .no .no .no):=by simp
 have hi:gW iM (aC (op2 ixD (aD 0) (cD (.int 0))) aH) (huE n ps ll [] [] 0 .no .no .no .no)= .ok (au 0 n):=by simp[hx,hr]
 obtain⟨ρ',e,A,seen,s5,s6,s7,s8,rfl,h,S,kQ,_⟩:=gZ (ds:=au 0 n) (a:=gnm 5) (u:=huB) (ρ:=huE n ps ll [] [] 0 .no .no .no .no)
  (λ i ρ=>∃(A:List Hr) (seen:List Int) (s5 s6 s7 s8:Slot),ρ=huE n ps ll seen A (A.length:Int) s5 s6 s7 s8/\Hw n ps A [] []/\Sn seen A/\(∀x:Int,0<=x->x<i->x∈A.map (·.1))/\∀r∈A,r.2=none->r.1<i) (by
   rintro i d ρ hd ⟨A,seen,s5,s6,s7,s8,rfl,h,S,kQ,hrt⟩;obtain⟨rfl,hlt⟩:=lC hd;rw[zDl]at hlt;rw[lL,jL,zDl]
   show∃ρ2,huB (huE n ps ll seen A (A.length:Int) (.sh (.int (i:Int))) s6 s7 s8)= .nx ρ2/\_
   have hW:=h.g.len;rw[zAm,zAm]at hW;have t0:tsb (op2 (inX true) (aD 5) (dZ 2)) (huE n ps ll seen A (A.length:Int) (.sh (.int (i:Int))) s6 s7 s8)= .ok (!decide ((i:Int)∈seen)):=by
    have hx2:inX true (.int (i:Int)) (.set seen)= .ok (.bl (!decide ((i:Int)∈seen))):=rfl;simp[hx2]
   have Aend:∀(T':List Hr),Hw n ps A T' []->Hw n ps (A++T') [] []:=λ T' h'=>by
    have g:=h'.g;rw[zAm]at g;refine⟨⟨by simpa using g.nd,by simpa using g.inn,by simpa using g.tie,by simpa using g.ord,λ s hs q hq=>?_,.inl rfl⟩,λ s hs=>(nomatch hs),λ s hs=>(nomatch hs)⟩;rcases zAQ.mp hs with z|z
    .rcases g.cl s z q hq with e|e
     .exact .inl e
     .exact .inr (zAK _ e)
    .rcases h'.pr s z q hq with e|e
     .exact .inl e
     .rw[zAm]at e
      exact .inr (zA0 _ e)
   by_cases c:(i:Int)∈seen
   .refine⟨_,?_,A,seen,.sh (.int (i:Int)),s6,s7,s8,rfl,h,S,λ x h0 h1=>?_,λ r hr hn=>by have:=hrt r hr hn;lia⟩
    .have e0:ifS (tsb (op2 (inX true) (aD 5) (dZ 2))) (iu 3 (cH (aC (aq (aD 5)) (aC (cD .non) aH)))) Ou.nx (huE n ps ll seen A (A.length:Int) (.sh (.int (i:Int))) s6 s7 s8)= .nx (huE n ps ll seen A (A.length:Int) (.sh (.int (i:Int))) s6 s7 s8):=by
      rw[fj,t0,bG,if_neg (by simp[c])]
     rw[huB,aK,e0,aR];exact aCi (by simp[huT])
    .by_cases z:x<i
     .exact kQ x h0 z
     .have:x=(i:Int):=by lia
      subst this;obtain⟨u,hu⟩:=(S.iff _).mp c;exact zAS.mpr ⟨_,hu,rfl⟩
   .have hni:(i:Int)∉A.map (·.1):=λ z=>by
     obtain⟨r,hr,e⟩:=zAS.mp z;cases e2:r.2 with
     |none=>have:=hrt r hr e2;lia
     |some u=>exact c ((S.iff _).mpr ⟨u,by rw[<-e,<-e2];exact hr⟩)
    have gA:=h.g;rw[zAm]at gA;have h1:Hw n ps A [] [((i:Int),none)]:=by
     refine⟨⟨?_,λ r hr=>?_,λ r hr u eu=>?_,λ X r Y e u eu=>?_,gA.cl,.inr ⟨_,[],rfl,λ r hr=>(nomatch hr)⟩⟩,λ r hr=>(nomatch hr),λ r hr u eu=>?_⟩
     .have:=gA.nd
      rw[zAm]at this;rw[zCu,zAW,zAb];exact⟨this,by simp,λ x hx y hy e=>by rw[zAH,zCG,zAD]at hy;subst hy;subst e;exact hni hx⟩
     .rcases zAQ.mp hr with z|z
      .exact gA.inn r (zAK _ z)
      .rw[zAD.mp z];exact⟨by lia,hlt⟩
     .rcases zAQ.mp hr with z|z
      .exact gA.tie r (zAK _ z) u eu
      .rw[zAD.mp z]at eu;cases eu
     .rcases sI e with ⟨_,rfl,_⟩|⟨Y',_,e2⟩
      .cases eu
      .exact gA.ord X r Y' (by rw[zAm];exact e2) u eu
     .rw[zAD.mp hr]at eu;cases eu
    have S1:Sn seen (A++[((i:Int),none)]):=⟨S.nd,λ x=>by
     rw[S.iff];constructor
     .rintro⟨u,hu⟩
      exact⟨u,zAK _ hu⟩
     .rintro⟨u,hu⟩
      rcases zAQ.mp hu with z|z
      .exact⟨u,z⟩
      .rw[zAD]at z;cases z⟩
    have e0:ifS (tsb (op2 (inX true) (aD 5) (dZ 2))) (iu 3 (cH (aC (aq (aD 5)) (aC (cD .non) aH)))) Ou.nx (huE n ps ll seen A (A.length:Int) (.sh (.int (i:Int))) s6 s7 s8)= .nx (huE n ps ll seen (A++[((i:Int),none)]) (A.length:Int) (.sh (.int (i:Int))) s6 s7 s8):=by
     rw[fj,t0,bG,if_pos (by simp[c])];have hz:A.length<16777216:=by lia
     simp[iu,hz,hrD,upD]
    obtain⟨T',seen',t6,t7,t8,e,h',S',M,hM⟩:=aEQ (ll:=ll) (T:=[((i:Int),none)]) (s5:=.sh (.int (i:Int))) (s6:=s6) (s7:=s7) (s8:=s8) O low Ac' L h1 S1;refine⟨_,by rw[huB,aK,e0,aR];exact e,A++T',seen',_,t6,t7,t8,rfl,Aend T' h',S',λ x h0 h1=>?_,λ r hr hn=>?_⟩
    .rw[zAW]
     by_cases z:x<i
     .exact zAK _ (kQ x h0 z)
     .have:x=(i:Int):=by lia
      subst this;rw[hM];exact zA0 _ (by simp)
    .rcases zAQ.mp hr with z|z
     .have:=hrt r z hn;lia
     .have hd:=h'.g.hd
      rw[zAm]at hd;rcases hd with q|⟨t,T2,q,qq⟩
      .rw[q]at z;cases z
      .rw[q]at z
       rcases zAX.mp z with z|z
       .rw[q]at hM
        have:t=(i:Int):=by
         rw[List.cons_append,zDR]at hM;exact congrArg zDp hM.1
        rw[z];dsimp only;lia
       .obtain⟨u,eu,_⟩:=qq r z
        rw[eu]at hn;cases hn) ⟨[],[],.no,.no,.no,.no,rfl,⟨⟨by simp,λ r hr=>(nomatch hr),λ r hr=>(nomatch hr),λ X r Y e=>by simp at e,λ r hr=>(nomatch hr),.inl rfl⟩,λ r hr=>(nomatch hr),λ r hr=>(nomatch hr)⟩,⟨by simp,λ x=>by simp⟩,λ x h0 h1=>by lia,λ r hr=>(nomatch hr)⟩
 have g:=h.g;simp only[zAm]at g;have hl:((au 0 n).length:Int)=n:=by rw[gU];lia
 have nd:=g.nd;have ord:=g.ord;have tie:=g.tie;rw[zAm]at nd ord tie;refine⟨A,?_,⟨?_,tie,ord,g.cl⟩⟩
 .simp only[uY,qC,bO,st]
  rw[aK,c1,aR,aK,c2,aR,aK,c3,aR,aK,c4,aR,aK,cG,hi,bG,e,aR];rfl
 .refine(zCL nd (iG n)).mpr λ x=>⟨λ hx=>?_,λ hx=>?_⟩
  .obtain⟨r,hr,rfl⟩:=zAS.mp hx
   exact bV.mpr (g.inn r (zAK _ hr))
  .have:=bV.mp hx
   exact kQ x this.1 (by rw[hl];exact this.2)
end
section
variable{n:Int}{ps:gX}
def room(es:List Int)(p:Int):Nat:=if p∈es then 1 else 2
def dm(p c:Int):Int×Int:=(mnI p c,mxI p c)
def aIv(l:List D)(k:Nat):cutD l none (some (k:Int))=l.take k:=by
 by_cases h:k<=l.length
 .exact aG4 h
 .have e1:HT.sIx l.length l.length (some (k:Int))=l.length:=by simp[HT.sIx];lia
  have e2:HT.sIx l.length 0 none=0:=rfl;unfold cutD;rw[e1,e2,zDy,zEc,zBG (zAU _),zBG (by lia)]
def aBw(p c:Int):pC [.int p,.int c]= .ok (pD (dm p c)):=by
 have st:ao 2 [.int p,.int c]=[.sh (.int p),.sh (.int c)]:=rfl;simp only[pC,jZ,bO,st];simp[pD,dm,mnI,mxI]
abbrev joE(n:Int)(ps:gX)(es:List Int)(ll:cK)(T:gX)(Fd:List Int)(s5 s6 s7:Slot):En:=[.sh (owD n ps),.sh (tupI es),.o2 ll,.ow (.lst (T.map pD)),.ow (.lst (Fd.map .int)),s5,s6,s7]
structure Wt(n:Int)(ll:cK)(W:Int->List Int):Prop where
 len:ll.length=n.toNat
 at_:∀x:Int,0<=x->x<n->ll.getD x.toNat []=(W x).map .int
def Wt.ix(h:Wt n ll W){x:Int}(h0:0<=x)(h1:x<n):atD (ll.map .lst) x= .ok (.lst ((W x).map .int)):=by
 have hk:x.toNat<ll.length:=by rw[h.len];lia
 have ex:((x.toNat:Nat):Int)=x:=zB6 h0
 have:=dj (l:=ll.map .lst) (k:=x.toNat) (d:=.lst ((W x).map .int)) (by
  rw[zAT,zAE hk,<-h.at_ x h0 h1,zAa,zAE hk];rfl)
 rwa [ex]at this
def Wt.put(h:Wt n ll W){x c:Int}(h0:0<=x)(h1:x<n):Wt n (bW ll (x,c)) (λ y=>if y=x then W x++[c]else W y):=by
 refine⟨by rw[oE];exact h.len,λ y y0 y1=>?_⟩;have hk:x.toNat<ll.length:=by rw[h.len];lia
 unfold bW;dsimp only;by_cases e:y=x
 .subst e
  rw[if_pos rfl,zAa,zBF hk,h.at_ y y0 y1];simp
 .rw[if_neg e,zAa,zAu (by lia),<-zAa,h.at_ y y0 y1]
structure Jo(n:Int)(es:List Int)(Z:List Hr)(W:Int->List Int)(T:gX)(Fd:List Int):Prop where
 w:∀x c,c∈W x↔(c,some x)∈Z/\c∉Fd
 nd:∀x,(W x).Nodup
 fnd:Fd.Nodup
 fz:∀p∈Fd,p∈Z.map (·.1)
 fi:∀p∈Z.map (·.1),p∈Fd↔room es p<=(W p).length
 t:T=(Z.map (·.1)).flatMap λ p=>((W p).take (room es p)).map (dm p)
def Jo.len(J:Jo n es Z W T Fd)(hz:(Z.map (·.1)).Nodup)(hi:∀r∈Z,0<=r.1/\r.1<n)(x:Int):(W x).length<=n.toNat:=by
 have:=fO (m:=upI n) (J.nd x) λ c hc=>bV.mpr (hi _ ((J.w x c).mp hc).1)
 rwa [dB]at this
theorem aCp{f:Int->Nat}{k:Nat}(h:∀x,f x<=k):∀l:List Int,(l.map f).sum<=k*l.length
 |[]=>zAj _
 |x::l=>by
  have:=aCp h l
  have:=h x
  rw[zAH,zEY,zA2,Nat.mul_succ];lia
def Jo.tlen(J:Jo n es Z W T Fd):T.length<=2*Z.length:=by
 rw[J.t,zEI]
 have:=aCp (f:=λ p=>(((W p).take (room es p)).map (dm p)).length) (k:=2) (λ x=>by
  rw[zAB,zBB];unfold room;split<;>lia) (Z.map (·.1))
 rwa [zAB]at this
def aIa(hn0:0<=n)(hn:n<=60)(J:Jo n es Z W T Fd)(H:Wt n ll W)(hz:(Z.map (·.1)).Nodup)(hi:∀s∈Z,0<=s.1/\s.1<n)(hr:0<=r.1/\r.1<n)(hp:r.1∉Z.map (·.1))(hu:∀u,r.2=some u->(0<=u/\u<n)/\u≠r.1/\u∉Z.map (·.1))(hlz:Z.length<=100):
  ∃ll' W' T' Fd' s7',joB (joE n ps es ll T Fd (.sh (.int r.1)) (.sh (upD r.2)) s7)= .nx (joE n ps es ll' T' Fd' (.sh (.int r.1)) (.sh (upD r.2)) s7')/\Jo n es (Z++[r]) W' T' Fd'/\Wt n ll' W':=by
 have hwl:=J.len hz hi r.1;have hwl2:=λ u=>J.len hz hi u
 have htl:=J.tlen;have hfl:Fd.length<=Z.length:=by
  have:=fO J.fnd J.fz
  rwa [zAB]at this
 have c1:cQ 7 (ifD (tsb (op2 (inR false) (aD 5) (aD 1))) (cD (.int 1)) (cD (.int 2))) (joE n ps es ll T Fd (.sh (.int r.1)) (.sh (upD r.2)) s7)= .nx (joE n ps es ll T Fd (.sh (.int r.1)) (.sh (upD r.2)) (.sh (.int (room es r.1:Int)))):=by
  have:=aEI false r.1 es
  have h2:inR false (.int r.1) (tupI es)= .ok (.bl (decide (r.1∈es))):=this;unfold room;by_cases c:r.1∈es
  .simp[h2,c]
  .simp[h2,c]
 have a1:joA (joE n ps es ll T Fd (.sh (.int r.1)) (.sh (upD r.2)) (.sh (.int (room es r.1:Int))))= .ok (.lst ((((W r.1).take (room es r.1)).map (dm r.1)).map pD)):=by
  unfold joA;rw[zAe];refine jM (ds:=((W r.1).take (room es r.1)).map .int) ?_ (by rw[zAB,zBB];lia) (nT _ λ c hc=>⟨[.sh (.int c),.sh (.int r.1)],rfl,?_⟩)
  .have ct:=aIv ((W r.1).map .int) (room es r.1)
   simp[shE,mJ,H.ix hr.1 hr.2,ct]
  .simp[aBw]
 have c2:aGb 3 joA (joE n ps es ll T Fd (.sh (.int r.1)) (.sh (upD r.2)) (.sh (.int (room es r.1:Int))))= .nx (joE n ps es ll (T++((W r.1).take (room es r.1)).map (dm r.1)) Fd (.sh (.int r.1)) (.sh (upD r.2)) (.sh (.int (room es r.1:Int)))):=by
  show((joA (joE n ps es ll T Fd (.sh (.int r.1)) (.sh (upD r.2)) (.sh (.int (room es r.1:Int))))).bo λ d=>match d with
   | .lst es'=>if (T.map pD).length+es'.length<=zAO/\dR es'=true then .nx ((joE n ps es ll T Fd (.sh (.int r.1)) (.sh (upD r.2)) (.sh (.int (room es r.1:Int)))).set 3 (.ow (.lst (T.map pD++es'))))else .st
   |_=>.st)=_
  rw[a1,bG];dsimp only;rw[if_pos ⟨by rw[szl,zAB,zAB,zAB,zBB];lia,jm λ d hd=>by
   obtain⟨p,_,rfl⟩:=zAS.mp hd;rfl⟩]
  simp
 have t3:tsb (op2 geD (opA gn (aC (op2 ixD (dZ 2) (aD 5)) aH)) (aD 7)) (joE n ps es ll (T++((W r.1).take (room es r.1)).map (dm r.1)) Fd (.sh (.int r.1)) (.sh (upD r.2)) (.sh (.int (room es r.1:Int))))= .ok (decide (room es r.1<=(W r.1).length)):=by
  simp[H.ix hr.1 hr.2]
 have tw:∀W':Int->List Int,(∀p∈Z.map (·.1),W' p=W p)->W' r.1=W r.1->T++((W r.1).take (room es r.1)).map (dm r.1)=((Z++[r]).map (·.1)).flatMap λ p=>((W' p).take (room es p)).map (dm p):=λ W' h1 h2=>by
  rw[zAW,List.flatMap_append,J.t];congr 1
  .rw[zGu,zGu]
   congr 1;exact zAz λ p hp=>by rw[h1 p hp]
  .simp[h2]
 by_cases c:room es r.1<=(W r.1).length
 .refine⟨ll,W,T++((W r.1).take (room es r.1)).map (dm r.1),Fd++[r.1],.sh (.int (room es r.1:Int)),?_,⟨λ x c'=>?_,J.nd,?_,λ p hp'=>?_,λ p hp'=>?_,tw W (λ _ _=>rfl) rfl⟩,H⟩
  .rw[joB,aK,c1,aR,aK,c2,aR,fj,t3,bG,if_pos (by simpa using c)]
   have hz:Fd.length<16777216:=by lia
   simp[iu,hz]
  .rw[J.w,zAQ,zAQ,zAD,zAD]
   constructor
   .rintro⟨h1,h2⟩
    refine⟨.inl h1,λ z=>?_⟩;rcases z with z|z
    .exact h2 z
    .exact hp (zAS.mpr ⟨_,h1,z⟩)
   .rintro⟨h1|h1,h2⟩
    .exact⟨h1,λ z=>h2 (.inl z)⟩
    .exact absurd (.inr (congrArg zDp h1)) h2
  .rw[zAb]
   exact⟨J.fnd,by simp,λ x hx y hy e=>by rw[zAD.mp hy]at e;subst e;exact hp (J.fz _ hx)⟩
  .rw[zAW]
   rcases zAQ.mp hp' with z|z
   .exact zAK _ (J.fz p z)
   .rw[zAD.mp z];simp
  .rw[zAW]at hp'
   rw[zAQ,zAD];rcases zAQ.mp hp' with z|z
   .rw[J.fi p z]
    exact⟨λ q=>q.elim id λ e=>absurd (e▸z) hp,.inl⟩
   .rw[zAH,zCG,zAD]at z
    subst z;exact⟨λ _=>c,λ _=>.inr rfl⟩
 .cases hu2:r.2 with
  |none=>
   refine⟨ll,W,T++((W r.1).take (room es r.1)).map (dm r.1),Fd,.sh (.int (room es r.1:Int)),?_,⟨λ x c'=>?_,J.nd,J.fnd,λ p hp'=>?_,λ p hp'=>?_,tw W (λ _ _=>rfl) rfl⟩,H⟩
   .rw[hu2]at c1 c2 t3
    have e6:tsb (op2 (isD true) (aD 6) (cD .non)) (joE n ps es ll (T++((W r.1).take (room es r.1)).map (dm r.1)) Fd (.sh (.int r.1)) (.sh (upD none)) (.sh (.int (room es r.1:Int))))= .ok false:=rfl;rw[joB,aK,c1,aR,aK,c2,aR,fj,t3,bG,if_neg (by simpa using c),fj,e6];rfl
   .rw[J.w,zAQ,zAD]
    constructor
    .rintro⟨h1,h2⟩
     exact⟨.inl h1,h2⟩
    .rintro⟨h1|h1,h2⟩
     .exact⟨h1,h2⟩
     .have:=congrArg zEk h1
      rw[hu2]at this;cases this
   .rw[zAW]
    exact zAK _ (J.fz p hp')
   .rw[zAW]at hp'
    rcases zAQ.mp hp' with z|z
    .exact J.fi p z
    .rw[zAH,zCG,zAD]at z
     subst z;exact⟨λ q=>absurd (J.fz _ q) hp,λ q=>absurd q c⟩
  |some u=>
   obtain⟨hu0,hu1,hu3⟩:=hu u hu2;refine⟨bW ll (u,r.1),λ y=>if y=u then W u++[r.1]else W y,T++((W r.1).take (room es r.1)).map (dm r.1),Fd,.sh (.int (room es r.1:Int)),?_,⟨λ x c'=>?_,λ x=>?_,J.fnd,λ p hp'=>?_,λ p hp'=>?_,tw (λ y=>if y=u then W u++[r.1]else W y) (λ p hp'=>if_neg λ e:p=u=>hu3 (e▸hp')) (if_neg λ e:r.1=u=>hu1 e.symm)⟩,H.put hu0.1 hu0.2⟩
   .rw[hu2]at c1 c2 t3
    have e6:tsb (op2 (isD true) (aD 6) (cD .non)) (joE n ps es ll (T++((W r.1).take (room es r.1)).map (dm r.1)) Fd (.sh (.int r.1)) (.sh (upD (some u))) (.sh (.int (room es r.1:Int))))= .ok true:=rfl;rw[joB,aK,c1,aR,aK,c2,aR,fj,t3,bG,if_neg (by simpa using c),fj,e6,bG,if_pos rfl];have hl:(ll.getD u.toNat []).length<16777216:=by
     rw[H.at_ u hu0.1 hu0.2,zAB]
     have:=hwl2 u
     lia
    exact yC (a:=u) (b:=r.1) rfl (by simp[upD]) (by simp) hu0.1 (by rw[H.len];lia) hl
   .rw[zAQ,zAD]
    by_cases e:x=u
    .subst e
     rw[if_pos rfl,zAQ,J.w,zAD];constructor
     .rintro(⟨h1,h2⟩|rfl)
      .exact⟨.inl h1,h2⟩
      .exact⟨.inr (zFk rfl hu2.symm),λ z=>hp (J.fz _ z)⟩
     .rintro⟨h1|h1,h2⟩
      .exact .inl ⟨h1,h2⟩
      .exact .inr (congrArg zDp h1)
    .rw[if_neg e,J.w]
     constructor
     .rintro⟨h1,h2⟩
      exact⟨.inl h1,h2⟩
     .rintro⟨h1|h1,h2⟩
      .exact⟨h1,h2⟩
      .have:=congrArg zEk h1
       rw[hu2]at this;cases this;exact absurd rfl e
   .split
    .rw[zAb]
     exact⟨J.nd u,by simp,λ a ha b hb e=>by rw[zAD.mp hb]at e;subst e;exact hp (zAS.mpr ⟨_,((J.w u _).mp ha).1,rfl⟩)⟩
    .exact J.nd x
   .rw[zAW]
    exact zAK _ (J.fz p hp')
   .rw[zAW]at hp'
    rcases zAQ.mp hp' with z|z
    .rw[if_neg λ e:p=u=>hu3 (e▸z)]
     exact J.fi p z
    .rw[zAH,zCG,zAD]at z
     subst z;rw[if_neg λ e:r.1=u=>hu1 e.symm];exact⟨λ q=>absurd (J.fz _ q) hp,λ q=>absurd q c⟩
def aCS(O:Ow n ps)(low:∀p∈ps,p.1<p.2)(Ac':Ac ps)(es:List Int):∃rows W T Fd,nj n ps rows/\Jo n es rows.reverse W T Fd/\∀(hT:T.Nodup) (hl:T.length<64),∃qs:gX,bf [owD n ps,tupI es]= .ok (.tup [.tup (qs.map pD),tupI (sortI Fd)])/\qs.Perm T:=by
 obtain⟨rows,eh,Hu⟩:=aGS O low Ac';have hn0:=O.n0;have hn1:=O.n1;have hx:ixD (owD n ps) (.int 0)= .ok (.int n):=by simp[owD]
 have st:ao 8 [owD n ps,tupI es]=[.sh (owD n ps),.sh (tupI es),.no,.no,.no,.no,.no,.no]:=rfl;have hr:=gK (j:=n) (by lia) (by lia);have hW:(au 0 n).length=n.toNat:=by rw[gU];lia
 have hz:n.toNat<16777216:=by lia
 have c1:llS 2 (gW iM (aC (op2 ixD (aD 0) (cD (.int 0))) aH)) [none] (gnm 0) [.sh (owD n ps),.sh (tupI es),.no,.no,.no,.no,.no,.no]= .nx [.sh (owD n ps),.sh (tupI es),.o2 (zAN n.toNat []),.no,.no,.no,.no,.no]:=by
  unfold llS;simp[shE,mJ,hx,hr,hW,hz]
 have c2:fB 3 (eE aH) [.sh (owD n ps),.sh (tupI es),.o2 (zAN n.toNat []),.no,.no,.no,.no,.no]= .nx [.sh (owD n ps),.sh (tupI es),.o2 (zAN n.toNat []),.ow (.lst []),.no,.no,.no,.no]:=by simp
 have c3:fB 4 (eE aH) [.sh (owD n ps),.sh (tupI es),.o2 (zAN n.toNat []),.ow (.lst []),.no,.no,.no,.no]= .nx (joE n ps es (zAN n.toNat []) [] [] .no .no .no):=by simp
 have hi:cL (op1 aBY (aU uY (aC (aD 0) aH))) (joE n ps es (zAN n.toNat []) [] [] .no .no .no)= .ok (rows.reverse.map hrD):=by
  have rv:aBY (.lst (rows.map hrD))= .ok (.lst (rows.map hrD).reverse):=rfl;simp[eh,rv]
 have hrl:rows.length=n.toNat:=by
  have:=Hu.pm.length_eq
  rwa [zAB,dB]at this
 have hin:∀s∈rows,0<=s.1/\s.1<n:=λ s hs=>bV.mp (Hu.pm.mem_iff.mp (zAS.mpr ⟨s,hs,rfl⟩))
 have hnd:(rows.map (·.1)).Nodup:=Hu.pm.nodup_iff.mpr (iG n);have rnd:(rows.reverse.map (·.1)).Nodup:=by rw[zBa];exact(zE1 _).nodup_iff.mpr hnd
 obtain⟨ρ',e,ll,W,T,Fd,s5,s6,s7,rfl,J,H⟩:=gZ (ds:=rows.reverse.map hrD) (a:=gq 2 (bC (gnm 5) (bC (gnm 6) iU))) (u:=joB) (ρ:=joE n ps es (zAN n.toNat []) [] [] .no .no .no)
  (λ i ρ=>∃(ll:cK) (W:Int->List Int) (T:gX) (Fd:List Int) (s5 s6 s7:Slot),ρ=joE n ps es ll T Fd s5 s6 s7/\Jo n es (rows.reverse.take i) W T Fd/\Wt n ll W) (by
   rintro i d ρ hd ⟨ll,W,T,Fd,s5,s6,s7,rfl,J,H⟩;rw[zAT]at hd;cases er:rows.reverse[i]? with
   |none=>rw[er]at hd;cases hd
   |some r=>
    rw[er]at hd;cases hd;have hil:=(zAM.mp er).1;have sp:rows.reverse=rows.reverse.take i++r::rows.reverse.drop (i+1):=by
     have h1:=List.take_append_drop i rows.reverse;rw[zBh hil]at h1;have h2:=zAE hil;rw[er]at h2;cases h2;exact h1.symm
    have nd2:=rnd;rw[sp,zAW,zAb,zAH]at nd2;have rm:r∈rows:=by
     have:r∈rows.reverse:=zA9 er
     simpa using this
    have hp:r.1∉(rows.reverse.take i).map (·.1):=λ z=>nd2.2.2 _ z _ zAL rfl
    have hu:∀u,r.2=some u->(0<=u/\u<n)/\u≠r.1/\u∉(rows.reverse.take i).map (·.1):=λ u eu=>by
     have sp2:rows=(rows.reverse.drop (i+1)).reverse++r::(rows.reverse.take i).reverse:=by
      have:=congrArg List.reverse sp
      rw[List.reverse_reverse,List.reverse_append,zCK,zAo]at this;exact this
     have hm:=Hu.ord _ _ _ sp2 u eu;rw[zBa,zBb]at hm;refine⟨?_,λ z=>?_,λ z=>nd2.2.2 _ z _ (zAG _ hm) rfl⟩
     .obtain⟨s,hs,rfl⟩:=zAS.mp hm
      exact hin s (by have:=List.mem_of_mem_drop hs;simpa using this)
     .subst z
      exact(zAh.mp nd2.2.1).1 hm
    obtain⟨ll',W',T',Fd',s7',e,J',H'⟩:=aIa (ps:=ps) (s7:=s7) hn0 hn1 J H nd2.1 (λ s hs=>hin s (by have:=zB0 hs;simpa using this)) (hin r rm) hp hu (by rw[zBB,zEJ];lia);refine⟨_,by simp[hrD];exact e,ll',W',T',Fd',_,_,s7',rfl,?_,H'⟩;rw[zDP,er];exact J') ⟨_,λ _=>[],[],[],_,_,_,rfl,⟨λ x c=>by simp,λ x=>by simp,by simp,λ p hp=>(nomatch hp),λ p hp=>(nomatch hp),by simp⟩,⟨by simp,λ x h0 h1=>by
   rw[zAa,zBv];split<;>rfl⟩⟩
 rw[zBG (by rw[zAB];exact zAU _)]at J;refine⟨rows,W,T,Fd,Hu,J,λ hT hl=>?_⟩;have hfl:Fd.length<=rows.length:=by
  have:=fO J.fnd J.fz
  rwa [zAB,zEJ]at this
 obtain⟨qs,q1,q2,_⟩:=nA hT hl;have q4:=vG (l:=Fd) (by lia);refine⟨qs,?_,q2⟩;simp only[bf,eU,bO,st];rw[aK,c1,aR,aK,c2,aR,aK,c3,aR,aK,cG,hi,bG,e,aR];simp[q1,q4,tupI]
end
section
variable{n:Int}{ps:gX}
def dgr(F:gX)(x:Int):Nat:=(F.filter λ t=>decide (t.1=x)||decide (t.2=x)).length
theorem aBM{f g:Int->Nat}:∀l:List Int,(l.map λ x=>f x+g x).sum=(l.map f).sum+(l.map g).sum
 |[]=>rfl
 |x::l=>by
  have:=aBM (f:=f) (g:=g) l
  simp only[zAH,zEY];lia
theorem yQ{f g:Int->Nat}:∀{l:List Int},(∀x∈l,f x<=g x)->(l.map f).sum<=(l.map g).sum
 |[],_=>zAU _
 |x::l,h=>by
  have:=yQ λ y hy=>h y (zAG _ hy)
  have:=h x zAL
  simp only[zAH,zEY];lia
theorem wB{f:Int->Nat}:∀{l:List Int} {x:Int},x∈l->f x<=(l.map f).sum
 |y::l,x,h=>by
  simp only[zAH,zEY];rcases zAX.mp h with rfl|h
  .lia
  .have:=wB (f:=f) h
   lia
theorem yP{f:Int->Nat}{q:Int->Bool}:∀l:List Int,(l.map f).sum=((l.filter q).map f).sum+((l.filter λ x=>!q x).map f).sum
 |[]=>rfl
 |x::l=>by
  have:=yP (f:=f) (q:=q) l
  cases c:q x<;>simp[c]<;>lia
def z9(t:Int×Int)(F:gX)(x:Int):dgr (t::F) x=dgr F x+(if t.1=x\/t.2=x then 1 else 0):=by
 unfold dgr;rw[zBJ];by_cases c:t.1=x\/t.2=x
 .rw[if_pos (by simpa using c),if_pos c,zA2]
 .rw[if_neg (by simpa using c),if_neg c]
  rfl
def zH(Fd:List Int)(t:Int×Int):Bool:=!(decide (t.1∈Fd)||decide (t.2∈Fd))
theorem aBL(Fd:List Int):∀F:gX,F.length<=(Fd.map (dgr F)).sum+(F.filter (zH Fd)).length
 |[]=>zAj _
 |t::F=>by
  have ih:=aBL Fd F;have e:(Fd.map (dgr (t::F))).sum=(Fd.map (dgr F)).sum+(Fd.map λ x=>if t.1=x\/t.2=x then 1 else 0).sum:=by
   rw[<-aBM];exact congrArg zHZ (zAz λ x _=>z9 t F x)
  rw[e,zBJ,zA2];cases c:zH Fd t with
  |true=>simp only[if_pos,zA2];lia
  |false=>
   rw[if_neg (by simp)];unfold zH at c;simp at c
   have:1<=(Fd.map λ x=>if t.1=x\/t.2=x then 1 else 0).sum:=by
    by_cases c1:t.1∈Fd
    .have:=wB (f:=λ x=>if t.1=x\/t.2=x then 1 else 0) c1
     simp at this;simpa using this
    .have:=wB (f:=λ x=>if t.1=x\/t.2=x then 1 else 0) (c c1)
     simp at this;simpa using this
   lia
def aFw(a b:Int):dm a b=dm b a:=by
 unfold dm;rcases mW a b with ⟨h1,h2⟩|⟨h1,h2⟩<;>rcases mW b a with ⟨h3,h4⟩|⟨h3,h4⟩<;>rw[h1,h2,h3,h4]
 .unfold mnI at h1 h3
  split at h1<;>split at h3<;>·rw[zCf];lia
 .unfold mnI at h1 h3
  split at h1<;>split at h3<;>·rw[zCf];lia
def aBJ{x y:Int}(h:x<y):dm x y=(x,y):=by
 unfold dm mnI mxI;rw[if_neg (by lia),if_pos (by lia)]
def nj.nd(Hu:nj n ps rows):(rows.map (·.1)).Nodup:=Hu.pm.nodup_iff.mpr (iG n)
def nj.row(Hu:nj n ps rows){r s:Hr}(hr:r∈rows)(hs:s∈rows)(e:r.1=s.1):r=s:=by
 have:=Hu.nd
 rw[zAg,zB2]at this;refine zE2 λ z=>?_
 obtain⟨i,hi,rfl⟩:=zBw hr;obtain⟨j,hj,rfl⟩:=zBw hs;rcases zGx i j with k|k|k
 .exact zBI.mp this i j hi hj k e
 .subst k;exact z rfl
 .exact zBI.mp this j i hj hi k e.symm
def nj.no2(Hu:nj n ps rows)(h1:(c,some p)∈rows)(h2:(p,some c)∈rows):False:=by
 obtain⟨X,Y,e⟩:=zDA h1;obtain⟨s,hs,es⟩:=zAS.mp (Hu.ord X _ Y e p rfl);have hs2:s∈rows:=by rw[e];exact zAK _ hs
 have:=Hu.row hs2 h2 es
 subst this;obtain⟨X1,X2,e2⟩:=zDA hs;have e3:rows=X1++(p,some c)::(X2++(c,some p)::Y):=by rw[e,e2];simp
 have hc:=Hu.ord X1 _ _ e3 c rfl;have nd:=Hu.nd;rw[e3,zAW,zAb]at nd;exact nd.2.2 c hc c (by simp) rfl
def nj.up_in(Hu:nj n ps rows)(h1:(c,some p)∈rows):p∈rows.map (·.1):=by
 obtain⟨X,Y,e⟩:=zDA h1;rw[e,zAW];exact zAK _ (Hu.ord X _ Y e p rfl)
def Jo.mem{rows:List Hr}(J:Jo n es rows.reverse W T Fd){t:Int×Int}:t∈T↔∃p∈rows.map (·.1),∃c∈(W p).take (room es p),t=dm p c:=by
 rw[J.t,zEa];constructor
 .rintro⟨p,hp,ht⟩
  obtain⟨c,hc,rfl⟩:=zAS.mp ht;exact⟨p,by rw[zBa,zBb]at hp;exact hp,c,hc,rfl⟩
 .rintro⟨p,hp,c,hc,rfl⟩
  exact⟨p,by rw[zBa,zBb];exact hp,zAS.mpr ⟨c,hc,rfl⟩⟩
def Jo.wr{rows:List Hr}(J:Jo n es rows.reverse W T Fd):c∈W x↔(c,some x)∈rows/\c∉Fd:=by
 rw[J.w,zBb]
def Jo.nodup(Hu:nj n ps rows)(J:Jo n es rows.reverse W T Fd):T.Nodup:=by
 rw[J.t,zAg,List.pairwise_flatMap];refine⟨λ p hp=>?_,?_⟩
 .rw[zB2]
  have:=((J.nd p).sublist (zGj (room es p) (W p)))
  rw[zAg]at this;exact this.imp λ{a b} ne e=>by
   rcases aB9 e with ⟨_,z⟩|⟨z1,z2⟩
   .exact ne z
   .exact ne (z2.trans z1)
 .have nd:(rows.reverse.map (·.1)).Nodup:=by rw[zBa];exact(zE1 _).nodup_iff.mpr Hu.nd
  rw[zAg]at nd;refine nd.imp λ{p p'} ne t ht t' ht' e=>?_
  obtain⟨c,hc,rfl⟩:=zAS.mp ht;obtain⟨c',hc',rfl⟩:=zAS.mp ht';rcases aB9 e with ⟨z,_⟩|⟨z1,z2⟩
  .exact ne z
  .subst z1 z2
   exact Hu.no2 (J.wr.mp (zB0 hc)).1 (J.wr.mp (zB0 hc')).1
def Jo.sub(Hu:nj n ps rows)(low:∀p∈ps,p.1<p.2)(J:Jo n es rows.reverse W T Fd):∀t∈T,t∈ps:=λ t ht=>by
 obtain⟨p,_,c,hc,rfl⟩:=J.mem.mp ht;exact vz low (mF ps _ _ (Hu.tie _ (J.wr.mp (zB0 hc)).1 p rfl))
def aDO(es:List Int)(x:Int):1<=room es x:=by unfold room;split<;>lia
def Jo.less(Hu:nj n ps rows)(J:Jo n es rows.reverse W T Fd)(h:x∉Fd):(W x).length<room es x:=by
 by_cases c:x∈rows.map (·.1)
 .have:=J.fi x (by rw[zBa,zBb];exact c)
  exact Nat.lt_of_not_le λ z=>h (this.mpr z)
 .have:W x=[]:=by
   rw[List.eq_nil_iff_forall_not_mem];exact λ c' hc=>c (Hu.up_in (J.wr.mp hc).1)
  rw[this];exact aDO es x
def aCl{p c x:Int}(h:(decide ((dm p c).1=x)||decide ((dm p c).2=x))=true):p=x\/c=x:=by
 unfold dm at h;simp at h;rcases mW p c with ⟨h1,h2⟩|⟨h1,h2⟩<;>rw[h1,h2]at h
 .exact h
 .exact h.symm
def Jo.deg(Hu:nj n ps rows)(J:Jo n es rows.reverse W T Fd)(x:Int):dgr T x<=room es x:=by
 have nd:=(J.nodup Hu).filter λ t=>decide (t.1=x)||decide (t.2=x)
 have hx:∀t∈T.filter (λ t=>decide (t.1=x)||decide (t.2=x)),t∈((W x).take (room es x)).map (dm x)\/∃p,t=dm p x/\(x,some p)∈rows/\x∉Fd:=λ t ht=>by
  obtain⟨h1,h2⟩:=zA6.mp ht;obtain⟨p,_,c,hc,rfl⟩:=J.mem.mp h1;rcases aCl h2 with rfl|rfl
  .exact .inl (zAS.mpr ⟨c,hc,rfl⟩)
  .exact .inr ⟨p,rfl,J.wr.mp (zB0 hc)⟩
 unfold dgr;by_cases c:x∈Fd
 .have:=fO nd λ t ht=>(hx t ht).resolve_right λ⟨p,_,_,z⟩=>z c
  rw[zAB,zBB]at this;lia
 .have hl:=J.less Hu c
  by_cases h:∃u,(x,some u)∈rows
  .obtain⟨u,hu⟩:=h
   have:=fO (m:=(W x).map (dm x)++[dm u x]) nd λ t ht=>by
    rcases hx t ht with z|⟨p,rfl,z,_⟩
    .obtain⟨c',hc',rfl⟩:=zAS.mp z
     exact zAK _ (zAS.mpr ⟨c',zB0 hc',rfl⟩)
    .have:=congrArg zEk (Hu.row z hu rfl)
     dsimp only at this;cases this;simp
   rw[zAV,zAB,zAs]at this;lia
  .have:=fO (m:=(W x).map (dm x)) nd λ t ht=>by
    rcases hx t ht with z|⟨p,_,z,_⟩
    .obtain⟨c',hc',rfl⟩:=zAS.mp z
     exact zAS.mpr ⟨c',zB0 hc',rfl⟩
    .exact absurd ⟨p,z⟩ h
   rw[zAB]at this;lia
def Jo.most(O:Ow n ps)(Hu:nj n ps rows)(low:∀p∈ps,p.1<p.2)(J:Jo n es rows.reverse W T Fd)(nd:F.Nodup)(sub:∀t∈F,t∈ps)(deg:∀x,dgr F x<=room es x):F.length<=T.length:=by
 have h1:=aBL Fd F;have h2:=yQ (l:=Fd) λ x _=>deg x
 have ndP:(rows.reverse.map (·.1)).Nodup:=by rw[zBa];exact(zE1 _).nodup_iff.mpr Hu.nd
 have e1:T.length=((rows.reverse.map (·.1)).map λ p=>((W p).take (room es p)).length).sum:=by
  rw[J.t,zEI];exact congrArg zHZ (zAz λ p _=>by rw[zAB])
 rw[yP (q:=λ p=>decide (p∈Fd))]at e1;have pm:((rows.reverse.map (·.1)).filter λ p=>decide (p∈Fd)).Perm Fd:=(zCL (ndP.filter _) J.fnd).mpr λ p=>by
  rw[zA6,decide_eq_true_eq];exact⟨λ h=>h.2,λ h=>⟨J.fz p h,h⟩⟩
 have e2:(((rows.reverse.map (·.1)).filter λ p=>decide (p∈Fd)).map λ p=>((W p).take (room es p)).length).sum=(Fd.map (room es)).sum:=by
  rw[(pm.map _).sum_nat];refine congrArg zHZ (zAz λ p hp=>?_)
  have:=(J.fi p (J.fz p hp)).mp hp
  rw[zBB];lia
 have h3:(F.filter (zH Fd)).length<=(((rows.reverse.map (·.1)).filter λ p=>!decide (p∈Fd)).flatMap λ p=>((W p).take (room es p)).map (dm p)).length:=by
  refine fO (nd.filter _) λ t ht=>?_
  obtain⟨h4,h5⟩:=zA6.mp ht;have hp:=sub t h4;have hl:=low t hp;obtain⟨x,y⟩:=t;simp only[zH,zBM,Bool.or_eq_false_iff,decide_eq_false_iff_not]at h5;dsimp only at hl;obtain⟨x0,x1,y0,y1,_⟩:=O.pr _ hp;have key:∀c p,(c,some p)∈rows->c∉Fd->p∉Fd->dm p c=(x,y)->(x,y)∈((rows.reverse.map (·.1)).filter λ p=>!decide (p∈Fd)).flatMap λ p=>((W p).take (room es p)).map (dm p):=λ c p h1 h2 h3 e=>by
   refine zEa.mpr ⟨p,zA6.mpr ⟨by rw[zBa,zBb];exact Hu.up_in h1,by simpa using h3⟩,?_⟩;rw[<-e,zBG (zBN (J.less Hu h3))];exact zAS.mpr ⟨c,J.wr.mpr ⟨h1,h2⟩,rfl⟩
  have hxm:x∈rows.map (·.1):=Hu.pm.mem_iff.mpr (bV.mpr ⟨x0,x1⟩);obtain⟨r,hr,rfl⟩:=zAS.mp hxm;rcases Hu.cl r hr y (cU.mpr (.inl hp))with z|z
  .exact key r.1 y (by rw[<-z];exact hr) h5.1 h5.2 (by rw[aFw,aBJ hl])
  .exact key y r.1 z h5.2 h5.1 (aBJ hl)
 rw[zEI]at h3;simp only[zAB]at h3;rw[e2]at e1;lia
end
abbrev Tr:=List (Int×Int)×(Int->Int)×(Int->Int)
def wU(qs:gX)(ls us:List Int):D:=.tup [.tup (qs.map pD),tupI ls,tupI us]
def rwF(n:Int)(t:Tr):D:=wU t.1 ((upI n).map t.2.1) ((upI n).map t.2.2)
def cnd(p:Int×Int)(t:Tr):Bool:=decide (t.2.2 p.1<2)&&(decide (t.2.2 p.2<2)&& !decide (t.2.1 p.1=t.2.1 p.2))
def nwT(p:Int×Int)(t:Tr):Tr:=(t.1++[p],(λ z=>if t.2.1 z=mxI (t.2.1 p.1) (t.2.1 p.2)then mnI (t.2.1 p.1) (t.2.1 p.2)else t.2.1 z),λ z=>t.2.2 z+(if z=p.1\/z=p.2 then 1 else 0))
def bL(ps:gX):List Tr:=ps.foldl (λ L p=>L++(L.filter (cnd p)).map (nwT p)) [([],id,λ _=>0)]
section
variable{n:Int}{ps:gX}
def zx{f:Int->Int}{x:Int}(h0:0<=x)(h1:x<n):atD (((upI n).map f).map .int) x= .ok (.int (f x)):=by
 have ex:((x.toNat:Nat):Int)=x:=zB6 h0
 have:=dj (l:=((upI n).map f).map .int) (k:=x.toNat) (d:=.int (f x)) (by
  rw[zAT,zAT];unfold upI;rw[zAT,zEH (by lia)];simp[ex])
 rwa [ex]at this
def aHj{x y:Int}(h6:ρ[6]? =some (.sh (tupI ((upI n).map lf))))(h8:ρ[8]? =some (.sh (.int x)))(h9:ρ[9]? =some (.sh (.int y)))(hl:n<=60):roL ρ= .ok (tupI ((upI n).map λ z=>if lf z=y then x else lf z)):=by
 have hu:(upI n).length<=60:=by rw[dB];lia
 have e:lcD (cL (aD 6)) [none,some 9,some 8] (gnm 0) ik (ifD (tsb (op2 (eqR false) (aD 0) (aD 1))) (aq (aD 2)) (aq (aD 0))) ρ= .ok (.lst (((upI n).map λ z=>if lf z=y then x else lf z).map .int)):=by
  rw[zAe];refine jM (ds:=(upI n).map λ z=>.int (lf z)) (by simp[shE,mJ,tupI,h6]) (by rw[zAB];lia) (nT (upI n) λ z hz=>⟨[.sh (.int (lf z)),.sh (.int y),.sh (.int x)],by simp[stE,shE,mJ,h8,h9],?_⟩);by_cases c:lf z=y<;>simp[c,oY,imm]
 unfold roL;rw[jK,bw,e];simp[tupI]
def aHi(h:Ow n ps)(h0:ρ[0]? =some (.sh (owD n ps)))(h7:ρ[7]? =some (.sh (tupI ((upI n).map uf))))(h2:ρ[2]? =some (.sh (.int a)))(h3:ρ[3]? =some (.sh (.int b))):roU ρ= .ok (tupI ((upI n).map λ z=>uf z+(if z=a\/z=b then 1 else 0))):=by
 have hn1:=h.n1;have hn0:=h.n0;have hr:=gK (j:=n) (by lia) (by lia);have hx:ixD (owD n ps) (.int 0)= .ok (.int n):=by simp[owD]
 have e:lcD (gW iM (aC (op2 ixD (aD 0) (cD (.int 0))) aH)) [none,some 7,some 2,some 3] (gnm 0) ik (op2 fU (aq (op2 ixD (aD 1) (aD 0))) (opA lJ (aC (orD (op2 (eqR false) (aD 0) (aD 2)) (op2 (eqR false) (aD 0) (aD 3))) aH))) ρ= .ok (.lst (((upI n).map λ z=>uf z+(if z=a\/z=b then 1 else 0)).map .int)):=by
  rw[zAe];refine jM (ds:=(upI n).map .int) ?_ (by rw[zAB,dB];lia) (nT (upI n) λ z hz=>⟨[.sh (.int z),.sh (tupI ((upI n).map uf)),.sh (.int a),.sh (.int b)],by simp[stE,shE,mJ,h7,h2,h3],?_⟩)
  .simp[shE,mJ,h0,hx,hr,wV]
  .obtain⟨z0,z1⟩:=bV.mp hz
   have g:=zx (f:=uf) z0 z1;have v:aq (op2 ixD (aD 1) (aD 0)) [.sh (.int z),.sh (tupI ((upI n).map uf)),.sh (.int a),.sh (.int b)]= .ok (.int (uf z)):=by
    simp only[aBk,pQ,aBG,zC3,zDV,bx,tupI,aGG,g,pR];rfl
   rw[pQ,v,bx];by_cases c1:z=a
   .subst c1
    by_cases c2:z=b
    .subst c2
     simp[lJ]
    .simp[c2,lJ]
   .by_cases c2:z=b
    .subst c2
     simp[c1,lJ]
    .simp[c1,c2,lJ]
 unfold roU;rw[jK,bw,e];simp[tupI]
abbrev roV(n:Int)(ps:gX)(s1:Slot)(a b:Int)(lg:List D)(t:Tr)(s8 s9 s10 s11:Slot):En:=[.sh (owD n ps),s1,.sh (.int a),.sh (.int b),.ow (.lst lg),.sh (.tup (t.1.map pD)),.sh (tupI ((upI n).map t.2.1)),.sh (tupI ((upI n).map t.2.2)),s8,s9,s10,s11]
def aHk{lg:List D}(h:Ow n ps)(ha:0<=a/\a<n)(hb:0<=b/\b<n)(hg:lg.length<100000)(hq:t.1.length<=1000):
  ∃s8' s9' s10' s11',roB (roV n ps s1 a b lg t s8 s9 s10 s11)= .nx (roV n ps s1 a b (lg++(if cnd (a,b) t=true then[rwF n (nwT (a,b) t)]else[])) t s8' s9' s10' s11'):=by
 have hn1:=h.n1;have g1:=zx (f:=t.2.2) ha.1 ha.2;have g2:=zx (f:=t.2.2) hb.1 hb.2;have g3:=zx (f:=t.2.1) ha.1 ha.2;have g4:=zx (f:=t.2.1) hb.1 hb.2;have x1:ixD (tupI ((upI n).map t.2.2)) (.int a)= .ok (.int (t.2.2 a)):=g1;have x2:ixD (tupI ((upI n).map t.2.2)) (.int b)= .ok (.int (t.2.2 b)):=g2;have x3:ixD (tupI ((upI n).map t.2.1)) (.int a)= .ok (.int (t.2.1 a)):=g3;have x4:ixD (tupI ((upI n).map t.2.1)) (.int b)= .ok (.int (t.2.1 b)):=g4;have ez:roT (roV n ps s1 a b lg t s8 s9 s10 s11)= .ok (cnd (a,b) t):=by
  unfold cnd;by_cases c1:t.2.2 a<2
  .by_cases c2:t.2.2 b<2
   .by_cases c3:t.2.1 a=t.2.1 b<;>simp[roT,x1,x2,x3,x4,c1,c2,c3]
   .simp[roT,x1,x2,x3,x4,c1,c2]
  .simp[roT,x1,x2,x3,x4,c1]
 cases z:cnd (a,b) t with
 |false=>exact⟨s8,s9,s10,s11,by rw[roB,fj,ez,z];simp⟩
 |true=>
  have ex:cQ 8 (opA (mmD λ i j=>if j<i then j else i) (aC (op2 ixD (aD 6) (aD 2)) (aC (op2 ixD (aD 6) (aD 3)) aH))) (roV n ps s1 a b lg t s8 s9 s10 s11)= .nx (roV n ps s1 a b lg t (.sh (.int (mnI (t.2.1 a) (t.2.1 b)))) s9 s10 s11):=by simp[x3,x4,mnI]
  have ey:cQ 9 (opA (mmD λ i j=>if j>i then j else i) (aC (op2 ixD (aD 6) (aD 2)) (aC (op2 ixD (aD 6) (aD 3)) aH))) (roV n ps s1 a b lg t (.sh (.int (mnI (t.2.1 a) (t.2.1 b)))) s9 s10 s11)= .nx (roV n ps s1 a b lg t (.sh (.int (mnI (t.2.1 a) (t.2.1 b)))) (.sh (.int (mxI (t.2.1 a) (t.2.1 b)))) s10 s11):=by simp[x3,x4,mxI]
  have e1:=aHj (ρ:=roV n ps s1 a b lg t (.sh (.int (mnI (t.2.1 a) (t.2.1 b)))) (.sh (.int (mxI (t.2.1 a) (t.2.1 b)))) s10 s11) (n:=n) (lf:=t.2.1) rfl rfl rfl hn1;have e2:=λ s=>aHi (ρ:=roV n ps s1 a b lg t (.sh (.int (mnI (t.2.1 a) (t.2.1 b)))) (.sh (.int (mxI (t.2.1 a) (t.2.1 b)))) s s11) (uf:=t.2.2) h rfl rfl rfl rfl
  obtain⟨l',hl'⟩:∃l':List Int,l'=(upI n).map λ z=>if t.2.1 z=mxI (t.2.1 a) (t.2.1 b)then mnI (t.2.1 a) (t.2.1 b)else t.2.1 z:=⟨_,rfl⟩
  obtain⟨u',hu'⟩:∃u':List Int,u'=(upI n).map λ z=>t.2.2 z+(if z=a\/z=b then 1 else 0):=⟨_,rfl⟩
  rw[<-hl']at e1;simp only[<-hu']at e2;have er:rwF n (nwT (a,b) t)=wU (t.1++[(a,b)]) l' u':=by rw[hl',hu'];rfl
  have e3:roA (roV n ps s1 a b lg t (.sh (.int (mnI (t.2.1 a) (t.2.1 b)))) (.sh (.int (mxI (t.2.1 a) (t.2.1 b)))) (.sh (tupI l')) (.sh (tupI u')))= .nx (roV n ps s1 a b (lg++[wU (t.1++[(a,b)]) l' u']) t (.sh (.int (mnI (t.2.1 a) (t.2.1 b)))) (.sh (.int (mxI (t.2.1 a) (t.2.1 b)))) (.sh (tupI l')) (.sh (tupI u'))):=by
   have A:fU (.tup (t.1.map pD)) (.tup [.tup [.int a,.int b]])= .ok (.tup ((t.1++[(a,b)]).map pD)):=by
    rw[aKe (by simp;lia),zAW];rfl
   have i1:dR (t.1.map pD)=true:=jm λ d hd=>by
    obtain⟨p,_,rfl⟩:=zAS.mp hd;rfl
   have i2:dR (l'.map D.int)=true:=lK l';have i3:dR (u'.map D.int)=true:=lK u';have hz:lg.length<16777216:=by lia
   simp[roA,iu,tupI,oY,imm,i1,i2,i3,A,wU,hz,-aAB]
  refine⟨.sh (.int (mnI (t.2.1 a) (t.2.1 b))),.sh (.int (mxI (t.2.1 a) (t.2.1 b))),.sh (tupI l'),.sh (tupI u'),?_⟩
  .rw[roB,fj,ez,z,bG,if_pos rfl,aK,ex,aR,aK,ey,aR,aK,wJ,e1,bG]
   simp only[zEW,zEX,aR];rw[aK,wJ,e2,bG];simp only[zEW,zEX,aR];rw[if_pos trivial,er];exact e3
theorem lr:∀{l:List D},(∀d∈l,gR d d=true)->fK l l=true
 |[],_=>rfl
 |x::l,h=>by
  rw[fK,h x zAL,lr λ d hd=>h d (zAG _ hd)];rfl
def same_ints(l:List Int):fK (l.map .int) (l.map .int)=true:=lr λ d hd=>by
 obtain⟨i,_,rfl⟩:=zAS.mp hd;simp[gR]
def aDH(l:gX):fK (l.map pD) (l.map pD)=true:=lr λ d hd=>by
 obtain⟨i,_,rfl⟩:=zAS.mp hd;simp[pD,gR,fK]
def rM(l:gX):dR (l.map pD)=true:=jm λ d hd=>by
 obtain⟨p,_,rfl⟩:=zAS.mp hd;rfl
def aDK(t:Tr):gR (rwF n t) (rwF n t)=true:=by
 have h1:=same_ints ((upI n).map t.2.1);have h2:=same_ints ((upI n).map t.2.2);have h3:=aDH t.1;unfold rwF wU tupI;simp only[gR,fK,h1,h2,h3];rfl
def aBV(t:Tr):VL.imm (rwF n t)=true:=by
 have h1:dR (((upI n).map t.2.1).map D.int)=true:=lK _;have h2:dR (((upI n).map t.2.2).map D.int)=true:=lK _;have h3:=rM t.1;unfold rwF wU tupI;simp only[VL.imm,dR,h1,h2,h3];rfl
abbrev roW(n:Int)(ps:gX)(l:List D)(a b:Int)(lg:List D)(s5 s6 s7 s8 s9 s10 s11:Slot):En:=[.sh (owD n ps),.ow (.lst l),.sh (.int a),.sh (.int b),.ow (.lst lg),s5,s6,s7,s8,s9,s10,s11]
theorem aGv{l:List D}(h:Ow n ps)(ha:0<=a/\a<n)(hb:0<=b/\b<n)(hl:fK l l=true):∀(L lg:List Tr) (s5 s6 s7 s8 s9 s10 s11:Slot),(∀t∈L,t.1.length<=1000)->lg.length+L.length<100000->
  ∃s5' s6' s7' s8' s9' s10' s11',lM 1 l roG roB (L.map (rwF n)) (roW n ps l a b (lg.map (rwF n)) s5 s6 s7 s8 s9 s10 s11)= .nx (roW n ps l a b ((lg++(L.filter (cnd (a,b))).map (nwT (a,b))).map (rwF n)) s5' s6' s7' s8' s9' s10' s11')
 |[],lg,s5,s6,s7,s8,s9,s10,s11,_,_=>by
  refine⟨s5,s6,s7,s8,s9,s10,s11,?_⟩;have o:qJ 1 l (roW n ps l a b (lg.map (rwF n)) s5 s6 s7 s8 s9 s10 s11)=true:=hl;rw[zCG];unfold lM;rw[if_pos o];simp
 |t::L,lg,s5,s6,s7,s8,s9,s10,s11,h1,h3=>by
  rw[zA2]at h3;obtain⟨t8,t9,t10,t11,e⟩:=aHk (t:=t) (s1:=.ow (.lst l)) (lg:=lg.map (rwF n)) (s8:=s8) (s9:=s9) (s10:=s10) (s11:=s11) h ha hb (by rw[zAB];lia) (h1 t zAL);have el:lg.map (rwF n)++(if cnd (a,b) t=true then[rwF n (nwT (a,b) t)]else[])=(lg++(if cnd (a,b) t=true then[nwT (a,b) t]else[])).map (rwF n):=by
   split<;>simp
  rw[el]at e;obtain⟨u5,u6,u7,u8,u9,u10,u11,e2⟩:=aGv h ha hb hl L (lg++(if cnd (a,b) t=true then[nwT (a,b) t]else[])) (.sh (.tup (t.1.map pD))) (.sh (tupI ((upI n).map t.2.1))) (.sh (tupI ((upI n).map t.2.2))) t8 t9 t10 t11 (λ d hd=>h1 d (zAG _ hd)) (by rw[zAV];split<;>simp<;>lia);refine⟨u5,u6,u7,u8,u9,u10,u11,?_⟩;have o:qJ 1 l (roW n ps l a b (lg.map (rwF n)) s5 s6 s7 s8 s9 s10 s11)=true:=hl;have g:roG (rwF n t) (roW n ps l a b (lg.map (rwF n)) s5 s6 s7 s8 s9 s10 s11)= .ok (roV n ps (.ow (.lst l)) a b (lg.map (rwF n)) t s8 s9 s10 s11):=by simp[roG,rwF,wU]
  rw[zAH];unfold lM;rw[if_pos o,g];dsimp only;rw[e];dsimp only;have ef:(lg++(if cnd (a,b) t=true then[nwT (a,b) t]else[]))++(L.filter (cnd (a,b))).map (nwT (a,b))=lg++((t::L).filter (cnd (a,b))).map (nwT (a,b)):=by
   rw[zBJ];split<;>simp
  rw[e2,ef]
abbrev roE(n:Int)(ps:gX)(L:List Tr)(s2 s3 s4 s5 s6 s7 s8 s9 s10 s11:Slot):En:=[.sh (owD n ps),.ow (.lst (L.map (rwF n))),s2,s3,s4,s5,s6,s7,s8,s9,s10,s11]
def aHh(h:Ow n ps)(ha:0<=a/\a<n)(hb:0<=b/\b<n)(hl:∀t∈L,t.1.length<=1000)(hz:L.length<=40000){s4:Slot}:
  ∃s4' s5' s6' s7' s8' s9' s10' s11',roO (roE n ps L (.sh (.int a)) (.sh (.int b)) s4 s5 s6 s7 s8 s9 s10 s11)= .nx (roE n ps (L++(L.filter (cnd (a,b))).map (nwT (a,b))) (.sh (.int a)) (.sh (.int b)) s4' s5' s6' s7' s8' s9' s10' s11'):=by
 obtain⟨t5,t6,t7,t8,t9,t10,t11,e⟩:=aGv (l:=L.map (rwF n)) h ha hb (lr λ d hd=>by obtain⟨t,_,rfl⟩:=zAS.mp hd;exact aDK t) L [] s5 s6 s7 s8 s9 s10 s11 hl (by simp;lia);have hf:=zBd (cnd (a,b)) L;have c1:fB 4 (eE aH) (roE n ps L (.sh (.int a)) (.sh (.int b)) s4 s5 s6 s7 s8 s9 s10 s11)= .nx (roW n ps (L.map (rwF n)) a b [] s5 s6 s7 s8 s9 s10 s11):=by simp
 have c2:aGY 1 roG roB (roW n ps (L.map (rwF n)) a b [] s5 s6 s7 s8 s9 s10 s11)= .nx (roW n ps (L.map (rwF n)) a b (((L.filter (cnd (a,b))).map (nwT (a,b))).map (rwF n)) t5 t6 t7 t8 t9 t10 t11):=by
  show(if dR (L.map (rwF n))=true then lM 1 (L.map (rwF n)) roG roB (L.map (rwF n)) (roW n ps (L.map (rwF n)) a b [] s5 s6 s7 s8 s9 s10 s11)else .st)=_
  rw[if_pos (jm λ d hd=>by obtain⟨t,_,rfl⟩:=zAS.mp hd;exact aBV t)];exact e
 have c3:aG1 1 4 (roW n ps (L.map (rwF n)) a b (((L.filter (cnd (a,b))).map (nwT (a,b))).map (rwF n)) t5 t6 t7 t8 t9 t10 t11)= .nx (roW n ps (L.map (rwF n)++((L.filter (cnd (a,b))).map (nwT (a,b))).map (rwF n)) a b (((L.filter (cnd (a,b))).map (nwT (a,b))).map (rwF n)) t5 t6 t7 t8 t9 t10 t11):=by
  show(if (L.map (rwF n)).length+(((L.filter (cnd (a,b))).map (nwT (a,b))).map (rwF n)).length<=zAO/\dR (((L.filter (cnd (a,b))).map (nwT (a,b))).map (rwF n))=true then Ou.nx (roW n ps (L.map (rwF n)++((L.filter (cnd (a,b))).map (nwT (a,b))).map (rwF n)) a b (((L.filter (cnd (a,b))).map (nwT (a,b))).map (rwF n)) t5 t6 t7 t8 t9 t10 t11)else .st)=_
  rw[if_pos ⟨by rw[szl,zAB,zAB,zAB];lia,jm λ d hd=>by obtain⟨t,_,rfl⟩:=zAS.mp hd;exact aBV t⟩]
 refine⟨.ow (.lst (((L.filter (cnd (a,b))).map (nwT (a,b))).map (rwF n))),t5,t6,t7,t8,t9,t10,t11,?_⟩;rw[roO,aK,c1,aR,aK,c2,aR,c3,<-zAW]
def jT(ps:gX)(p:Int×Int):bL (ps++[p])=bL ps++((bL ps).filter (cnd p)).map (nwT p):=by
 unfold bL;rw[List.foldl_append];rfl
def snoc_ind{α:Type}{P:List α->Prop}(h0:P [])(h1:∀l a,P l->P (l++[a]))(l:List α):P l:=by
 have:∀k (l:List α),l.length=k->P l:=by
  intro k;induction k with
  |zero=>exact λ l e=>by rw[zFi.mp e];exact h0
  |succ k ih=>
   intro l e;rcases zGL l with rfl|⟨l',a,rfl⟩
   .exact h0
   .rw[zGK]at e ⊢
    rw[zAV,zAs]at e;exact h1 l' a (ih l' (by lia))
 exact this _ l rfl
def sr(ps:gX):(bL ps).length<=2^ps.length/\∀t∈bL ps,t.1.length<=ps.length:=by
 induction ps using snoc_ind with
 |h0=>exact⟨by simp[bL],λ t ht=>by
  rw[zAD.mp ht];exact zAU _⟩
 |h1 l a ih=>
  rw[jT];have hf:=zBd (cnd a) (bL l);refine⟨by rw[zAV,zAB,zAV,zAs,Nat.pow_succ];have:=ih.1;lia,λ t ht=>?_⟩;rw[zAV,zAs];rcases zAQ.mp ht with z|z
  .have:=ih.2 t z;lia
  .obtain⟨s,hs,rfl⟩:=zAS.mp z
   have:=ih.2 s (zA6.mp hs).1
   simp[nwT];lia
def rwD(qs:gX):D:=.tup (qs.map pD)
def zP(h:Ow n ps)(hn:n<=12)(hps:ps.length<=12):iZ [owD n ps]= .ok (.lst ((bL ps).map λ t=>rwD t.1)):=by
 have hn0:=h.n0;have st:ao 12 [owD n ps]=[.sh (owD n ps),.no,.no,.no,.no,.no,.no,.no,.no,.no,.no,.no]:=rfl;have hx:ixD (owD n ps) (.int 0)= .ok (.int n):=by simp[owD]
 obtain⟨N,rfl⟩:∃N:Nat,n=N:=⟨n.toNat,(zB6 hn0).symm⟩
 have hi0:rwF N ([],id,λ _=>0)= .tup [.tup [],tupI (upI N),tupI (zAN N 0)]:=by
  unfold rwF wU;rw[zG1]
  have:(upI N).map (λ _=>(0:Int))=zAN N 0:=by
   rw[List.map_const',dB];rfl
  rw[this];rfl
 have c1:fB 1 (eE (aC (cH (aC (cH aH) (aC (trD (op2 ixD (aD 0) (cD (.int 0)))) (aC (op2 aAe (cH (aC (cD (.int 0)) aH)) (aq (op2 ixD (aD 0) (cD (.int 0))))) aH)))) aH)) [.sh (owD N ps),.no,.no,.no,.no,.no,.no,.no,.no,.no,.no,.no]= .nx (roE N ps (bL []) .no .no .no .no .no .no .no .no .no .no):=by
  have t1:trD (op2 ixD (aD 0) (cD (.int 0))) [.sh (owD N ps),.no,.no,.no,.no,.no,.no,.no,.no,.no,.no,.no]= .ok (tupI (upI N)):=by
   have v:op2 ixD (aD 0) (cD (.int 0)) [.sh (owD N ps),.no,.no,.no,.no,.no,.no,.no,.no,.no,.no,.no]= .ok (.int N):=by simp[hx]
   unfold trD;rw[v,bx];unfold trR;dsimp only;rw[if_pos (by lia),wV,tupI]
  have t2:aAe (.tup [.int 0]) (.int N)= .ok (tupI (zAN N 0)):=by
   have:N=0\/N=1\/N=2\/N=3\/N=4\/N=5\/N=6\/N=7\/N=8\/N=9\/N=10\/N=11\/N=12:=by lia
   rcases this with rfl|rfl|rfl|rfl|rfl|rfl|rfl|rfl|rfl|rfl|rfl|rfl|rfl<;>simp[aAe,aFt,zB1,tupI,zAN]
  show _=Ou.nx [.sh (owD N ps),.ow (.lst [rwF N ([],id,λ _=>0)]),.no,.no,.no,.no,.no,.no,.no,.no,.no,.no];rw[hi0];simp[t1,t2,hx]
 have hi:cL (op2 ixD (aD 0) (cD (.int 1))) (roE N ps (bL []) .no .no .no .no .no .no .no .no .no .no)= .ok (ps.map pD):=by simp[owD]
 obtain⟨ρ',e,s2,s3,s4,s5,s6,s7,s8,s9,s10,s11,rfl⟩:=gZ (ds:=ps.map pD) (a:=gq 2 (bC (gnm 2) (bC (gnm 3) iU))) (u:=roO) (ρ:=roE N ps (bL []) .no .no .no .no .no .no .no .no .no .no)
  (λ i ρ=>∃(s2 s3 s4 s5 s6 s7 s8 s9 s10 s11:Slot),ρ=roE N ps (bL (ps.take i)) s2 s3 s4 s5 s6 s7 s8 s9 s10 s11) (by
   rintro i d ρ hd ⟨s2,s3,s4,s5,s6,s7,s8,s9,s10,s11,rfl⟩;rw[zAT]at hd;cases ep:ps[i]? with
   |none=>rw[ep]at hd;cases hd
   |some p=>
    rw[ep]at hd;cases hd;obtain⟨a0,a1,b0,b1,_⟩:=h.pr p (zA9 ep);obtain⟨r1,r2⟩:=sr (ps.take i);have hle:2^(ps.take i).length<=2^12:=zDz (by decide) (by rw[zBB];lia);have hlt:(ps.take i).length<=12:=by rw[zBB];lia
    obtain⟨t4,t5,t6,t7,t8,t9,t10,t11,e⟩:=aHh (L:=bL (ps.take i)) (s4:=s4) (s5:=s5) (s6:=s6) (s7:=s7) (s8:=s8) (s9:=s9) (s10:=s10) (s11:=s11) h ⟨a0,a1⟩ ⟨b0,b1⟩ (λ t ht=>by have:=r2 t ht;lia) (by lia);refine⟨_,by simp[pD];exact e,.sh (.int p.1),.sh (.int p.2),t4,t5,t6,t7,t8,t9,t10,t11,?_⟩;rw[zDP,ep];show _=roE N ps (bL (ps.take i++[p])) _ _ _ _ _ _ _ _ _ _;rw[jT]) ⟨_,_,_,_,_,_,_,_,_,_,rfl⟩
 rw[zBG (by rw[zAB];exact zAU _)]at e;have hle:2^ps.length<=2^12:=zDz (by decide) hps;have hrl:=(sr ps).1;have eR:roR (roE N ps (bL ps) s2 s3 s4 s5 s6 s7 s8 s9 s10 s11)= .ok (.lst ((bL ps).map λ t=>rwD t.1)):=by
  refine jM (ds:=(bL ps).map (rwF N)) (by simp[shE,mJ]) (by rw[zAB];lia) (nT (bL ps) λ t hm=>⟨[.sh (rwF N t)],rfl,?_⟩);have i1:=rM t.1;simp[rwF,wU,oY,imm,i1,rwD]
 simp only[iZ,gB,bO,st];rw[aK,c1,aR,aK,cG,hi,bG,e,aR,jA,eR];rfl
end
section
variable{n:Int}{ps:gX}
theorem aAy{α:Type}{P Q:α->Bool}:∀{l:List α},(∀x∈l,¬(P x=true/\Q x=true))->(l.filter λ x=>P x||Q x).length=(l.filter P).length+(l.filter Q).length
 |[],_=>rfl
 |x::l,h=>by
  have ih:=aAy λ y hy=>h y (zAG _ hy)
  have hx:=h x zAL;cases c1:P x<;>cases c2:Q x<;>simp[c1,c2]at hx ⊢<;>lia
def nq(lf:Int->Int)(qs:gX)(v:Int):Nat:=(qs.filter λ q=>decide (lf q.1=v)).length
def nc(n:Int)(lf:Int->Int)(v:Int):Nat:=((upI n).filter λ z=>decide (lf z=v)).length
structure RI(n:Int)(t:Tr):Prop where
 inn:∀q∈t.1,(0<=q.1/\q.1<n)/\(0<=q.2/\q.2<n)
 u:∀x,t.2.2 x=(dgr t.1 x:Int)
 l:∀q∈t.1,t.2.1 q.1=t.2.1 q.2
 c:∀x,0<=x->x<n->nq t.2.1 t.1 (t.2.1 x)+1=nc n t.2.1 (t.2.1 x)
def lX(F:gX)(p:Int×Int)(x:Int):dgr (F++[p]) x=dgr F x+(if x=p.1\/x=p.2 then 1 else 0):=by
 unfold dgr;rw[zBc,zAV,zBJ];by_cases c:x=p.1\/x=p.2
 .rw[if_pos (by rcases c with c|c<;>simp[c]),if_pos c]
  simp
 .rw[if_neg (by rw[not_or]at c;simp[zCz c.1,zCz c.2]),if_neg c]
  simp
def RI.step(R:RI n t)(hp:(0<=p.1/\p.1<n)/\(0<=p.2/\p.2<n))(hc:cnd p t=true):RI n (nwT p t):=by
 obtain⟨qs,lf,uf⟩:=t;simp only[cnd,zAP,decide_eq_true_eq,zBM,decide_eq_false_iff_not]at hc;obtain⟨h1,h2,h3⟩:=hc;obtain⟨lo,hlo⟩:∃lo,lo=mnI (lf p.1) (lf p.2):=⟨_,rfl⟩
 obtain⟨hi,hhi⟩:∃hi,hi=mxI (lf p.1) (lf p.2):=⟨_,rfl⟩
 have hne:lo≠hi:=by
  rw[hlo,hhi];rcases mW (lf p.1) (lf p.2)with ⟨e1,e2⟩|⟨e1,e2⟩<;>rw[e1,e2]
  .exact h3
  .exact zCz h3
 have hab:(lf p.1=lo/\lf p.2=hi)\/(lf p.1=hi/\lf p.2=lo):=by
  rw[hlo,hhi];rcases mW (lf p.1) (lf p.2)with ⟨e1,e2⟩|⟨e1,e2⟩
  .exact .inl ⟨e1.symm,e2.symm⟩
  .exact .inr ⟨e2.symm,e1.symm⟩
 have ca:=R.c p.1 hp.1.1 hp.1.2;have cb:=R.c p.2 hp.2.1 hp.2.2;dsimp only at ca cb;have clo:nq lf qs lo+1=nc n lf lo:=by
  rcases hab with ⟨e1,e2⟩|⟨e1,e2⟩
  .rw[<-e1];exact ca
  .rw[<-e2];exact cb
 have chi:nq lf qs hi+1=nc n lf hi:=by
  rcases hab with ⟨e1,e2⟩|⟨e1,e2⟩
  .rw[<-e2];exact cb
  .rw[<-e1];exact ca
 have lab:∀z,(if lf z=hi then lo else lf z)=lo↔lf z=lo\/lf z=hi:=λ z=>by
  split
  .rename_i e
   exact⟨λ _=>.inr e,λ _=>rfl⟩
  .rename_i e
   exact⟨.inl,λ q=>q.resolve_right e⟩
 have labv:∀z v,v≠lo->v≠hi->((if lf z=hi then lo else lf z)=v↔lf z=v):=λ z v h1 h2=>by
  split
  .rename_i e
   exact⟨λ q=>absurd q.symm h1,λ q=>absurd (q.symm.trans e) h2⟩
  .exact Iff.rfl
 have nohi:∀z,(if lf z=hi then lo else lf z)≠hi:=λ z=>by
  split
  .exact hne
  .assumption
 have pl:(if lf p.1=hi then lo else lf p.1)=lo:=(lab p.1).mpr (hab.elim (λ z=>.inl z.1) λ z=>.inr z.1);have pl2:(if lf p.2=hi then lo else lf p.2)=lo:=(lab p.2).mpr (hab.elim (λ z=>.inr z.2) λ z=>.inl z.2);refine⟨λ q hq=>?_,λ x=>?_,λ q hq=>?_,λ x x0 x1=>?_⟩
 .rcases zAQ.mp hq with z|z
  .exact R.inn q z
  .rw[zAD.mp z];exact hp
 .have:=R.u x
  dsimp only at this;show uf x+(if x=p.1\/x=p.2 then 1 else 0)=(dgr (qs++[p]) x:Int);rw[lX,this];split<;>simp
 .show(if lf q.1=mxI (lf p.1) (lf p.2)then mnI (lf p.1) (lf p.2)else lf q.1)=(if lf q.2=mxI (lf p.1) (lf p.2)then mnI (lf p.1) (lf p.2)else lf q.2)
  rw[<-hlo,<-hhi];rcases zAQ.mp hq with z|z
  .have:=R.l q z
   dsimp only at this;rw[this]
  .rw[zAD.mp z,pl,pl2]
 .show nq (λ z=>if lf z=mxI (lf p.1) (lf p.2)then mnI (lf p.1) (lf p.2)else lf z) (qs++[p]) (if lf x=mxI (lf p.1) (lf p.2)then mnI (lf p.1) (lf p.2)else lf x)+1=nc n (λ z=>if lf z=mxI (lf p.1) (lf p.2)then mnI (lf p.1) (lf p.2)else lf z) (if lf x=mxI (lf p.1) (lf p.2)then mnI (lf p.1) (lf p.2)else lf x)
  rw[<-hlo,<-hhi];have hv:=nohi x;have hw:(if lf x=hi then lo else lf x)=lo\/(if lf x=hi then lo else lf x)=lf x:=by
   split
   .exact .inl rfl
   .exact .inr rfl
  have cx:=R.c x x0 x1;dsimp only at cx;generalize (if lf x=hi then lo else lf x)=w at hv hw ⊢;unfold nq nc at*;rw[zBc,zAV];by_cases c:w=lo
  .subst c
   have e1:(qs.filter λ q=>decide ((if lf q.1=hi then w else lf q.1)=w))=qs.filter λ q=>decide (lf q.1=w)||decide (lf q.1=hi):=zBn λ q _=>by
    rw[zBH,decide_eq_true_eq,zC0,decide_eq_true_eq,decide_eq_true_eq];exact lab q.1
   have e2:((upI n).filter λ z=>decide ((if lf z=hi then w else lf z)=w))=(upI n).filter λ z=>decide (lf z=w)||decide (lf z=hi):=zBn λ z _=>by
    rw[zBH,decide_eq_true_eq,zC0,decide_eq_true_eq,decide_eq_true_eq];exact lab z
   have no:∀z:Int,¬(decide (lf z=w)=true/\decide (lf z=hi)=true):=λ z q=>by
    rw[decide_eq_true_eq,decide_eq_true_eq]at q;exact hne (q.1.symm.trans q.2)
   rw[e1,e2,aAy λ q _=>no q.1,aAy λ z _=>no z,zBJ,if_pos (decide_eq_true pl)];simp only[zDa,zA2,zB4];lia
  .have hwx:=hw.resolve_left c
   have e1:(qs.filter λ q=>decide ((if lf q.1=hi then lo else lf q.1)=w))=qs.filter λ q=>decide (lf q.1=w):=zBn λ q _=>by
    rw[zBH,decide_eq_true_eq,decide_eq_true_eq];exact labv q.1 w c hv
   have e2:((upI n).filter λ z=>decide ((if lf z=hi then lo else lf z)=w))=(upI n).filter λ z=>decide (lf z=w):=zBn λ z _=>by
    rw[zBH,decide_eq_true_eq,decide_eq_true_eq];exact labv z w c hv
   rw[e1,e2,zBJ,if_neg (by rw[decide_eq_true_eq];exact λ e=>c (e.symm.trans pl)),hwx];simp only[zDa,zB4];exact cx
def rF(hp:∀p∈ps,(0<=p.1/\p.1<n)/\(0<=p.2/\p.2<n)):∀t∈bL ps,RI n t/\t.1.Sublist ps/\∀x,dgr t.1 x<=2:=by
 induction ps using snoc_ind with
 |h0=>
  intro t ht;rw[zAD.mp ht];refine⟨⟨λ q hq=>(nomatch hq),λ x=>rfl,λ q hq=>(nomatch hq),λ x x0 x1=>?_⟩,zD9 _,λ x=>zAj _⟩;show 0+1=nc n id x;unfold nc;have h1:(upI n).filter (λ z=>decide (id z=x))=[x]:=by
   have nd:=(iG n).filter λ z=>decide (id z=x)
   have hm:∀z,z∈(upI n).filter (λ z=>decide (id z=x))↔z∈[x]:=λ z=>by
    rw[zA6,zAD,decide_eq_true_eq,bV];exact⟨λ q=>q.2,λ q=>⟨by rw[q];exact⟨x0,x1⟩,q⟩⟩
   exact List.perm_singleton.mp ((zCL nd (by simp)).mpr hm)
  rw[h1];rfl
 |h1 l a ih=>
  intro t ht;have hl:∀p∈l,(0<=p.1/\p.1<n)/\(0<=p.2/\p.2<n):=λ p h=>hp p (zAK _ h)
  rw[jT]at ht;rcases zAQ.mp ht with z|z
  .obtain⟨h1,h2,h3⟩:=ih hl t z
   exact⟨h1,h2.trans (List.sublist_append_left _ _),h3⟩
  .obtain⟨s,hs,rfl⟩:=zAS.mp z
   obtain⟨hs1,hs2⟩:=zA6.mp hs;obtain⟨h1,h2,h3⟩:=ih hl s hs1;refine⟨h1.step (hp a (by simp)) hs2,h2.append (zD9 _),λ x=>?_⟩;show dgr (s.1++[a]) x<=2;rw[lX];simp only[cnd,zAP,decide_eq_true_eq]at hs2;obtain⟨c1,c2,_⟩:=hs2;rw[h1.u]at c1 c2;split
   .rename_i e
    rcases e with rfl|rfl<;>lia
   .have:=h3 x;lia
def Ac.pre{l:gX}{a:Int×Int}(A:Ac (l++[a])):Ac l:=λ S nd ne=>by
 have:=A S nd ne
 unfold inN at this ⊢;rw[zBc,zAV]at this;lia
def aDN(hp:∀p∈ps,(0<=p.1/\p.1<n)/\(0<=p.2/\p.2<n))(nd:ps.Nodup)(A:Ac ps):∀sub:gX,sub.Sublist ps->(∀x,dgr sub x<=2)->∃t∈bL ps,t.1=sub:=by
 induction ps using snoc_ind with
 |h0=>
  intro sub hs _;rw[List.sublist_nil.mp hs];exact⟨_,zAD.mpr rfl,rfl⟩
 |h1 l a ih=>
  intro sub hs hd;have hl:∀p∈l,(0<=p.1/\p.1<n)/\(0<=p.2/\p.2<n):=λ p h=>hp p (zAK _ h)
  have ih:=ih hl (zAb.mp nd).1 A.pre;rw[jT];obtain⟨s1,s2,rfl,h1,h2⟩:=List.sublist_append_iff.mp hs;have h2':s2=[]\/s2=[a]:=by
   cases s2 with
   |nil=>exact .inl rfl
   |cons b r=>
    right;have hl:=h2.length_le;have hm:=h2.subset zAL;rw[zA2,zAs]at hl;rw[zFi.mp (show r.length=0 by lia),zAD.mp hm]
  rcases h2' with rfl|rfl
  .rw[zAm]at hd ⊢
   obtain⟨t,ht,e⟩:=ih s1 h1 hd;exact⟨t,zAK _ ht,e⟩
  .have hd1:∀x,dgr s1 x<=2:=λ x=>by
    have:=hd x
    rw[lX]at this;lia
   obtain⟨t,ht,rfl⟩:=ih s1 h1 hd1;obtain⟨R,_,_⟩:=rF hl t ht;have ha:=hp a (by simp);refine⟨nwT a t,zA0 _ (zAS.mpr ⟨t,zA6.mpr ⟨ht,?_⟩,rfl⟩),rfl⟩;simp only[cnd,zAP,decide_eq_true_eq,zBM,decide_eq_false_iff_not];have d1:=hd a.1;have d2:=hd a.2;rw[lX,if_pos (.inl rfl)]at d1;rw[lX,if_pos (.inr rfl)]at d2;refine⟨by rw[R.u];lia,by rw[R.u];lia,λ e=>?_⟩;have c:=R.c a.1 ha.1.1 ha.1.2;have hS:=A ((upI n).filter λ z=>decide (t.2.1 z=t.2.1 a.1)) ((iG n).filter _) (zDB (zA6.mpr ⟨bV.mpr ha.1,by simp⟩));have hN:((t.1.filter λ q=>decide (t.2.1 q.1=t.2.1 a.1))++[a]).Nodup:=((nd.sublist hs).sublist ((zGZ (p:=λ q:Int×Int=>decide (t.2.1 q.1=t.2.1 a.1))).append (zD9 _)));have hm:=fO (m:=(l++[a]).filter λ p=>decide (p.1∈(upI n).filter λ z=>decide (t.2.1 z=t.2.1 a.1))&&decide (p.2∈(upI n).filter λ z=>decide (t.2.1 z=t.2.1 a.1))) hN λ q hq=>by
    rw[zA6,zAP,decide_eq_true_eq,decide_eq_true_eq,zA6,zA6,decide_eq_true_eq,decide_eq_true_eq,bV,bV];rcases zAQ.mp hq with z|z
    .obtain⟨z1,z2⟩:=zA6.mp z
     rw[decide_eq_true_eq]at z2
     have:=R.inn q z1
     exact⟨zAK _ (h1.subset z1),⟨this.1,z2⟩,this.2,by rw[<-R.l q z1];exact z2⟩
    .rw[zAD.mp z]
     exact⟨by simp,⟨ha.1,rfl⟩,ha.2,e.symm⟩
   unfold inN at hS;unfold nq nc at c;rw[zAV,zAs]at hm;lia
end
section
variable{n:Int}{ps:gX}
def usL(qs:gX):List Int:=qs.flatMap λ q=>[q.1,q.2]
theorem rQ(x:Int):∀{qs:gX},(∀q∈qs,q.1<q.2)->(usL qs).countP (λ a=>a==x)=dgr qs x
 |[],_=>rfl
 |q::qs,h=>by
  have ih:=rQ x λ p hp=>h p (zAG _ hp)
  have hq:=h q zAL;rw[z9]
  show([q.1,q.2]++usL qs).countP (λ a=>a==x)=_
  rw[List.countP_append,ih];by_cases c1:q.1=x
  .have c2:¬q.2=x:=by lia
   simp[zCg,c1,c2];lia
  .by_cases c2:q.2=x
   .simp[zCg,c1,c2]
    lia
   .simp[zCg,c1,c2]
abbrev fwV(n:Int)(ps:gX)(es:List Int)(l2:List D)(s3 s4 s5 s6:Slot):En:=[.sh (owD n ps),.sh (tupI es),.ow (.lst l2),s3,s4,s5,s6]
theorem zW:∀(qs:gX) (us:List Int) (s5:Slot),us.length+2*qs.length<=10000->∃s5',forL (gnm 5) fwE (qs.map pD) (fwV n ps es l2 s3 (.ow (.lst (us.map .int))) s5 s6)= .nx (fwV n ps es l2 s3 (.ow (.lst ((us++usL qs).map .int))) s5' s6)
 |[],us,s5,_=>⟨s5,by simp[usL]⟩
 |q::qs,us,s5,h=>by
  rw[zA2]at h;obtain⟨s5',e⟩:=zW qs (us++[q.1,q.2]) (.sh (pD q)) (by simp;lia);refine⟨s5',?_⟩;rw[zAH,cY,lL,jL]
  show(fwE (fwV n ps es l2 s3 (.ow (.lst (us.map .int))) (.sh (pD q)) s6)).tn _=_
  have e1:fwE (fwV n ps es l2 s3 (.ow (.lst (us.map .int))) (.sh (pD q)) s6)= .nx (fwV n ps es l2 s3 (.ow (.lst ((us++[q.1,q.2]).map .int))) (.sh (pD q)) s6):=by
   have hv:aq (aD 5) (fwV n ps es l2 s3 (.ow (.lst (us.map .int))) (.sh (pD q)) s6)= .ok (pD q):=rfl
   show(aq (aD 5) (fwV n ps es l2 s3 (.ow (.lst (us.map .int))) (.sh (pD q)) s6)).bo (aCY (us.map .int) λ l=>.nx ((fwV n ps es l2 s3 (.ow (.lst (us.map .int))) (.sh (pD q)) s6).set 4 (.ow (.lst l))))=_
   rw[hv,bG];unfold aCY pD;dsimp only;rw[if_pos (by rw[szl,zAB];simp;lia)];simp
  rw[e1,mU,e,zAo];rfl
def kpB(es:List Int)(qs:gX):Bool:=es.all λ x=>decide (dgr qs x<=1)
def aIo(low:∀q∈qs,q.1<q.2)(he:es.length<=1000){s3:Slot}:∃ks:List Int,fwK (fwV n ps es l2 s3 (.ow (.lst ((usL qs).map .int))) s5 s6)= .ok (.lst (ks.map .int))/\ks.isEmpty=kpB es qs:=by
 refine⟨es.filter λ x=>decide (1<dgr qs x),?_,?_⟩
 .refine jM (ds:=es.map .int) (by simp[shE,mJ,tupI]) (by rw[zAB];lia) (oV es λ x hx=>⟨[.sh (.int x),.sh (.lst ((usL qs).map .int))],rfl,?_,by simp⟩)
  have cn:qD ((usL qs).map .int) (.int x)= .ok (.int (dgr qs x:Int)):=by
   unfold qD;dsimp only;rw[dH];dsimp only;rw[rQ x low]
  have ov:opL qD (aD 1) (aD 0) [.sh (.int x),.sh (.lst ((usL qs).map .int))]= .ok (.int (dgr qs x:Int)):=by
   show okD (qD ((usL qs).map .int) (.int x))=_;rw[cn,pR]
  rw[aAJ,pQ,ov,bx];simp;exact⟨λ h=>by lia,λ h=>by lia⟩
 .unfold kpB
  rw[zBH,List.isEmpty_iff,List.filter_eq_nil_iff,zAv];simp
def aIp(low:∀q∈qs,q.1<q.2)(hq:qs.length<=1000)(he:es.length<=1000)(hl:l2.length<100000){s4:Slot}:∃s4' s5',fwB (fwV n ps es l2 (.sh (rwD qs)) s4 s5 s6)= .nx (fwV n ps es (l2++(if kpB es qs=true then[rwD qs]else[])) (.sh (rwD qs)) s4' s5' s6):=by
 obtain⟨s5',e⟩:=zW (n:=n) (ps:=ps) (es:=es) (l2:=l2) (s3:=.sh (rwD qs)) (s6:=s6) qs [] s5 (by simp;lia);rw[zCu]at e;obtain⟨ks,ek,hk⟩:=aIo (n:=n) (ps:=ps) (l2:=l2) (s3:=.sh (rwD qs)) (s5:=s5') (s6:=s6) low he;have c1:fB 4 (eE aH) (fwV n ps es l2 (.sh (rwD qs)) s4 s5 s6)= .nx (fwV n ps es l2 (.sh (rwD qs)) (.ow (.lst ([].map .int))) s5 s6):=by simp
 have hi:cL (aD 3) (fwV n ps es l2 (.sh (rwD qs)) (.ow (.lst ([].map .int))) s5 s6)= .ok (qs.map pD):=by simp[rwD]
 have t2:tsb (op2 (eqR false) fwK (eE aH)) (fwV n ps es l2 (.sh (rwD qs)) (.ow (.lst ((usL qs).map .int))) s5' s6)= .ok (kpB es qs):=by
  have hn:eE aH (fwV n ps es l2 (.sh (rwD qs)) (.ow (.lst ((usL qs).map .int))) s5' s6)= .ok (.lst []):=by simp
  have hq2:eqR false (.lst (ks.map .int)) (.lst [])= .ok (.bl ks.isEmpty):=by
   obtain⟨h1,h2⟩:bZ (ks.map .int)=0/\aV (ks.map .int)=true:=by
    clear hk ek;induction ks with
    |nil=>exact⟨rfl,rfl⟩
    |cons k ks ih=>exact⟨by rw[zAH,bZ,ih.1];rfl,by rw[zAH,aV,ih.2];rfl⟩
   unfold eqR;rw[if_pos (by simp[gm,aP,bZ,aV,h1,h2])];cases ks<;>rfl
  rw[aAJ,pQ,ek,bx,hn,bx,hq2,hk];rfl
 refine⟨.ow (.lst ((usL qs).map .int)),s5',?_⟩;rw[fwB,aK,c1,aR,aK,cG,hi,bG,e,aR,fj,t2,bG];cases kpB es qs with
 |false=>simp
 |true=>
  have g:oY (rwD qs)= .ok (rwD qs):=xQ (rM qs);have hz:l2.length<16777216:=by lia
  simp[iu,g,hz]
def xT(O:Ow n ps)(low:∀p∈ps,p.1<p.2)(hn:n<=12)(hps:ps.length<=12)(he:es.length<=1000):∃(Q:List gX) (M:Nat),cP [owD n ps,tupI es]= .ok (.lst (Q.map rwD))/\(∀q,q∈Q↔(∃t∈bL ps,t.1=q)/\kpB es q=true/\q.length=M)/\(∀t∈bL ps,kpB es t.1=true->t.1.length<=M)/\Q≠[]/\Q.length<=4096:=by
 have er:=zP O hn hps;have hin:∀p∈ps,(0<=p.1/\p.1<n)/\(0<=p.2/\p.2<n):=λ p hp=>by
  obtain⟨a,b,c,d,_⟩:=O.pr p hp;exact⟨⟨a,b⟩,c,d⟩
 obtain⟨hl1,hl2⟩:=sr ps;have hle:2^ps.length<=2^12:=zDz (by decide) hps;have lowt:∀t∈bL ps,∀q∈t.1,q.1<q.2:=λ t ht q hq=>low q ((rF hin t ht).2.1.subset hq)
 have st:ao 7 [owD n ps,tupI es]=[.sh (owD n ps),.sh (tupI es),.no,.no,.no,.no,.no]:=rfl;have c1:fB 2 (eE aH) [.sh (owD n ps),.sh (tupI es),.no,.no,.no,.no,.no]= .nx (fwV n ps es [] .no .no .no .no):=by simp
 have hi:cL (aU iZ (aC (aD 0) aH)) (fwV n ps es [] .no .no .no .no)= .ok ((bL ps).map λ t=>rwD t.1):=by simp[er]
 obtain⟨K,hK⟩:∃K,K=((bL ps).filter λ t=>kpB es t.1).map (·.1):=⟨_,rfl⟩
 obtain⟨ρ',e,s3,s4,s5,rfl⟩:=gZ (ds:=(bL ps).map λ t=>rwD t.1) (a:=gnm 3) (u:=fwB) (ρ:=fwV n ps es [] .no .no .no .no)
  (λ i ρ=>∃(s3 s4 s5:Slot),ρ=fwV n ps es ((((bL ps).take i).filter λ t=>kpB es t.1).map λ t=>rwD t.1) s3 s4 s5 .no) (by
   rintro i d ρ hd ⟨s3,s4,s5,rfl⟩;rw[zAT]at hd;cases ep:(bL ps)[i]? with
   |none=>rw[ep]at hd;cases hd
   |some t=>
    rw[ep]at hd;cases hd;have htm:=zA9 ep;have hf:=zBd (λ t=>kpB es t.1) ((bL ps).take i);have htl:=hl2 t htm;rw[zBB]at hf;obtain⟨t4,t5,e⟩:=aIp (n:=n) (ps:=ps) (l2:=(((bL ps).take i).filter λ t=>kpB es t.1).map λ t=>rwD t.1) (s4:=s4) (s5:=s5) (s6:=.no) (lowt t htm) (by lia) he (by rw[zAB];lia);refine⟨_,e,.sh (rwD t.1),t4,t5,?_⟩;rw[zDP,ep];simp only[zGS,zBc,zAW,zBJ,zDa];split<;>simp) ⟨_,_,_,rfl⟩
 rw[zBG (by rw[zAB];exact zAU _)]at e;have eK:(((bL ps).filter λ t=>kpB es t.1).map λ t=>rwD t.1)=K.map rwD:=by rw[hK,zAe];rfl
 rw[eK]at e;have hKl:K.length<=4096:=by
  have hf:=zBd (λ t=>kpB es t.1) (bL ps);rw[hK,zAB];lia
 have a1:fwM (fwV n ps es (K.map rwD) s3 s4 s5 .no)= .ok (.lst ((K.map λ q=>(q.length:Int)).map .int)):=by
  rw[zAe];refine jM (ds:=K.map rwD) (by simp[shE,mJ]) (by rw[zAB];lia) (nT K λ q hq=>⟨[.sh (rwD q)],rfl,?_⟩);simp[rwD]
 have bP:∀q,q∈K↔∃t∈bL ps,t.1=q/\kpB es q=true:=λ q=>by
  rw[hK,zAS];constructor
  .rintro⟨t,ht,rfl⟩
   obtain⟨h1,h2⟩:=zA6.mp ht;exact⟨t,h1,rfl,h2⟩
  .rintro⟨t,h1,rfl,h2⟩
   exact⟨t,zA6.mpr ⟨h1,h2⟩,rfl⟩
 have hne:K≠[]:=λ z=>by
  obtain⟨t,ht,e⟩:∃t∈bL ps,t.1=[]:=by
   have:∀l:gX,∃t∈bL l,t.1=[]:=λ l=>by
    induction l using snoc_ind with
    |h0=>exact⟨_,zAD.mpr rfl,rfl⟩
    |h1 l a ih=>
     obtain⟨t,h1,h2⟩:=ih;exact⟨t,by rw[jT];exact zAK _ h1,h2⟩
   exact this ps
  have:[]∈K:=(bP []).mpr ⟨t,ht,e,by unfold kpB;rw[zAv];intro x _;simp[dgr]⟩
  rw[z]at this;cases this
 obtain⟨M,hM⟩:∃M,(K.map λ q=>(q.length:Int)).max?=some M:=by
  cases c:(K.map λ q=>(q.length:Int)).max? with
  |some M=>exact⟨M,rfl⟩
  |none=>
   rw[List.max?_eq_none_iff,List.map_eq_nil_iff]at c;exact absurd c hne
 have hM2:=zGM.mp hM;have a2:qN zHI [.lst ((K.map λ q=>(q.length:Int)).map .int)]= .ok (.int M):=by
  unfold qN;dsimp only;rw[dH];dsimp only;rw[hM]
 have a3:fwR (fwV n ps es (K.map rwD) s3 s4 s5 (.sh (.int M)))= .ok (.lst ((K.filter λ q=>decide ((q.length:Int)=M)).map rwD)):=by
  refine jM (ds:=K.map rwD) (by simp[shE,mJ]) (by rw[zAB];lia) (oV K λ q hq=>⟨[.sh (rwD q),.sh (.int M)],rfl,?_,?_⟩)
  .by_cases c:(q.length:Int)=M<;>simp[rwD,c]
  .have g:oY (rwD q)= .ok (rwD q):=xQ (rM q)
   simp[g]
 obtain⟨qm,hqm,eqm⟩:=zAS.mp hM2.1;have hmq:∀q,q∈(K.filter λ q=>decide ((q.length:Int)=M))↔(∃t∈bL ps,t.1=q)/\kpB es q=true/\q.length=qm.length:=λ q=>by
  rw[zA6,decide_eq_true_eq,bP];constructor
  .rintro⟨⟨t,h1,h2,h3⟩,h4⟩
   exact⟨⟨t,h1,h2⟩,h3,by lia⟩
  .rintro⟨⟨t,h1,h2⟩,h3,h4⟩
   exact⟨⟨t,h1,h2,h3⟩,by lia⟩
 refine⟨K.filter λ q=>decide ((q.length:Int)=M),qm.length,?_,hmq,λ t ht hk=>?_,zDB (zA6.mpr ⟨hqm,by simpa using eqm⟩),zAc (zBd _ _) hKl⟩
 .simp only[cP,cM,bO,st]
  rw[aK,c1,aR,aK,cG,hi,bG,e,aR,aK,wJ,jK,bw,a1,bx,rJ,bx,bx,a2];simp only[pR,bG,zEW,zEX,aR];rw[jA,a3];rfl
 .have:=hM2.2 (t.1.length:Int) (zAS.mpr ⟨t.1,(bP _).mpr ⟨t,ht,rfl,hk⟩,rfl⟩)
  lia
end
section
variable{n:Int}{ps:gX}
def uE(O:Ow n ps)(A:Ac ps):(ps.length:Int)<=n:=by
 have hn0:=O.n0;cases hp:ps with
 |nil=>simpa using hn0
 |cons p l=>
  have hm:p∈ps:=by rw[hp];exact zAL
  obtain⟨a,b,_⟩:=O.pr p hm;have h:=A (upI n) (iG n) (zDB (bV.mpr ⟨a,b⟩));have e:inN (upI n) ps=ps.length:=by
   unfold inN;rw[zEG.mpr λ q hq=>by
    obtain⟨a,b,c,d,_⟩:=O.pr q hq;rw[zAP,decide_eq_true_eq,decide_eq_true_eq,bV,bV];exact⟨⟨a,b⟩,c,d⟩]
  rw[e,dB]at h;rw[<-hp];lia
def aE7{F G:gX}(h:F.Perm G)(x:Int):dgr F x=dgr G x:=(h.filter _).length_eq
structure Mx(ps:gX)(es:List Int)(m:Nat):Prop where
 le:∀t∈bL ps,kpB es t.1=true->t.1.length<=m
 at_:∃t∈bL ps,kpB es t.1=true/\t.1.length=m
def tY(O:Ow n ps)(low:∀p∈ps,p.1<p.2)(hn:n<=12)(A:Ac ps)(es:List Int):∃(qs:gX) (b:D),bf [owD n ps,tupI es]= .ok (.tup [.tup (qs.map pD),b])/\Mx ps es qs.length:=by
 have hpl:=uE O A;have hn0:=O.n0;have hin:∀p∈ps,(0<=p.1/\p.1<n)/\(0<=p.2/\p.2<n):=λ p hp=>by
  obtain⟨a,b,c,d,_⟩:=O.pr p hp;exact⟨⟨a,b⟩,c,d⟩
 obtain⟨rows,W,T,Fd,Hu,J,hj⟩:=aCS O low A es;have hT:=J.nodup Hu;have bX:=J.sub Hu low;have hTl:T.length<=ps.length:=fO hT bX;obtain⟨qs,ej,hq⟩:=hj hT (by lia);refine⟨qs,_,ej,λ t ht hk=>?_,?_⟩
 .have hri:=rF hin t ht
  rw[hq.length_eq];exact J.most O Hu low ((oN O).sublist hri.2.1) (λ q hq=>hri.2.1.subset hq) λ x=>by
   unfold room;split
   .rename_i c
    have:=zAv.mp hk x c
    simpa using this
   .exact hri.2.2 x
 .have pm:(ps.filter λ q=>decide (q∈T)).Perm T:=(zCL ((oN O).filter _) hT).mpr λ q=>by
   rw[zA6,decide_eq_true_eq];exact⟨λ h=>h.2,λ h=>⟨bX q h,h⟩⟩
  have dg:∀x,dgr (ps.filter λ q=>decide (q∈T)) x<=room es x:=λ x=>by
   rw[aE7 pm x];exact J.deg Hu x
  obtain⟨t2,ht2,et2⟩:=aDN hin (oN O) A (ps.filter λ q=>decide (q∈T)) zGZ λ x=>by
   have:=dg x
   unfold room at this;split at this<;>lia
  refine⟨t2,ht2,?_,by rw[et2,pm.length_eq,hq.length_eq]⟩;rw[et2];unfold kpB;rw[zAv];intro x hx
  have:=dg x
  unfold room at this;rw[if_pos hx]at this;simpa using this
def qz(O:Ow n ps)(low:∀p∈ps,p.1<p.2)(hp:ps.Perm rs)(F:Fr rs):fQ [owD n ps]= .ok .non:=by
 have f1:=tZ O low hp F;have st:ao 1 [owD n ps]=[.sh (owD n ps)]:=rfl;simp only[fQ,cN,bO,st];simp[f1]
end
section
variable{n:Int}{ps:gX}
def opP(ps:gX)(x:Int):Prop:=∃t∈bL ps,(∀s∈bL ps,s.1.length<=t.1.length)/\dgr t.1 x<=1
def tX(qs:gX):kpB [] qs=true:=rfl
def aFe(O:Ow n ps)(low:∀p∈ps,p.1<p.2)(hn:n<=12)(hp:ps.Perm rs)(F:Fr rs):∃ks:List Int,bN [owD n ps]= .ok (tupI ks)/\ks.Pairwise (·< ·)/\∀x,x∈ks↔(0<=x/\x<n)/\opP ps x:=by
 have A:Ac ps:=F.ac.perm hp;have hn0:=O.n0;have hx:ixD (owD n ps) (.int 0)= .ok (.int n):=by simp[owD]
 have hr:=gK (j:=n) (by lia) (by lia);obtain⟨q0,b0,e0,M0⟩:=tY O low hn A [];have hm:∀x:Int,∃m:Nat,Mx ps [x] m/\∃(qs:gX) (b:D),bf [owD n ps,tupI [x]]= .ok (.tup [.tup (qs.map pD),b])/\qs.length=m:=λ x=>by
  obtain⟨q,b,e,M⟩:=tY O low hn A [x];exact⟨q.length,M,q,b,e,rfl⟩
 obtain⟨f,hf⟩:=zGG.mp hm;have c0:=qz O low hp F;have st:ao 2 [owD n ps]=[.sh (owD n ps),.no]:=rfl;have c1:cQ 1 (opA gn (aC (op2 ixD (aU bf (aC (aD 0) (aC (cH aH) aH))) (cD (.int 0))) aH)) [.sh (owD n ps),.no]= .nx [.sh (owD n ps),.sh (.int (q0.length:Int))]:=by
  have e0':bf [owD n ps,.tup []]= .ok (.tup [.tup (q0.map pD),b0]):=e0;simp[e0']
 have a1:opB [.sh (owD n ps),.sh (.int (q0.length:Int))]= .ok (.lst (((upI n).filter λ x=>decide (f x=q0.length)).map .int)):=by
  refine jM (ds:=(upI n).map .int) (by rw[<-wV];simp[shE,mJ,hx,hr]) (by rw[zAB,dB];lia) (oV (upI n) λ x hx=>⟨[.sh (.int x),.sh (owD n ps),.sh (.int (q0.length:Int))],rfl,?_,by simp⟩);obtain⟨_,qs,b,e,hl⟩:=hf x;have e':bf [owD n ps,.tup [.int x]]= .ok (.tup [.tup (qs.map pD),b]):=e;by_cases c:f x=q0.length
  .simp[e',hl,c]
  .have:¬((f x:Nat):Int)=(q0.length:Int):=by lia
   simp[e',hl,c,this]
 refine⟨(upI n).filter λ x=>decide (f x=q0.length),?_,(vq n).filter _,λ x=>?_⟩
 .simp only[bN,cj,bO,st]
  rw[aK,aE6,o8];simp only[bw,aBG,zC3,bx,rJ,c0,bG,aR];rw[aK,c1,aR,jA,jK,bw,a1];simp[tupI]
 .rw[zA6,bV,decide_eq_true_eq]
  refine and_congr_right λ _=>?_
  obtain⟨M1,_⟩:=hf x;obtain⟨t0,ht0,_,el0⟩:=M0.at_;constructor
  .intro e
   obtain⟨t,ht,hk,el⟩:=M1.at_;refine⟨t,ht,λ s hs=>?_,?_⟩
   .have:=M0.le s hs (tX _)
    lia
   .have:=zAv.mp hk x (by simp)
    simpa using this
  .rintro⟨t,ht,hmax,hd⟩
   have h1:=M1.le t ht (by unfold kpB;simpa using hd);have h2:=hmax t0 ht0;obtain⟨t1,ht1,_,el1⟩:=M1.at_;have h3:=M0.le t1 ht1 (tX _);lia
def trP(x:Int):Int×D:=(x,.bl true)
abbrev loV(n:Int)(ps:gX)(fs:List Int)(s2 s3 s4 s5:Slot):En:=[.sh (owD n ps),.ow (xV (fs.map trP)),s2,s3,s4,s5]
theorem zN{fs:List Int}{s2 s5:Slot}:∀(qs:gX) (us:List Int) (s4:Slot),us.length+2*qs.length<=10000->∃s4',forL (gnm 4) loE (qs.map pD) (loV n ps fs s2 (.ow (.lst (us.map .int))) s4 s5)= .nx (loV n ps fs s2 (.ow (.lst ((us++usL qs).map .int))) s4' s5)
 |[],us,s4,_=>⟨s4,by simp[usL]⟩
 |q::qs,us,s4,h=>by
  rw[zA2]at h;obtain⟨s4',e⟩:=zN qs (us++[q.1,q.2]) (.sh (pD q)) (by simp;lia);refine⟨s4',?_⟩;rw[zAH,cY,lL,jL]
  show(loE (loV n ps fs s2 (.ow (.lst (us.map .int))) (.sh (pD q)) s5)).tn _=_
  have e1:loE (loV n ps fs s2 (.ow (.lst (us.map .int))) (.sh (pD q)) s5)= .nx (loV n ps fs s2 (.ow (.lst ((us++[q.1,q.2]).map .int))) (.sh (pD q)) s5):=by
   have hv:aq (aD 4) (loV n ps fs s2 (.ow (.lst (us.map .int))) (.sh (pD q)) s5)= .ok (pD q):=rfl
   show(aq (aD 4) (loV n ps fs s2 (.ow (.lst (us.map .int))) (.sh (pD q)) s5)).bo (aCY (us.map .int) λ l=>.nx ((loV n ps fs s2 (.ow (.lst (us.map .int))) (.sh (pD q)) s5).set 3 (.ow (.lst l))))=_
   rw[hv,bG];unfold aCY pD;dsimp only;rw[if_pos (by rw[szl,zAB];simp;lia)];simp
  rw[e1,mU,e,zAo];rfl
def aA5(fs:List Int)(x:Int):List Int:=if x∈fs then fs else fs++[x]
def aHp(fs:List Int)(x:Int):aA4 (fs.map trP) x (.bl true)=(aA5 fs x).map trP:=by
 unfold aA4 aA5;have e:((fs.map trP).any λ p=>decide (p.1=x))=decide (x∈fs):=by
  rw[zBH,zGs,decide_eq_true_eq];constructor
  .rintro⟨p,hp,e⟩
   obtain⟨y,hy,rfl⟩:=zAS.mp hp
   have:y=x:=of_decide_eq_true e
   rw[<-this];exact hy
  .exact λ h=>⟨_,zAS.mpr ⟨x,h,rfl⟩,by simp[trP]⟩
 rw[e];by_cases c:x∈fs
 .rw[if_pos (by simpa using c),if_pos c,zAe]
  refine zAz λ y _=>?_
  show(if (trP y).1=x then((trP y).1,D.bl true)else trP y)=trP y
  split<;>rfl
 .rw[if_neg (by simpa using c),if_neg c,zAW]
  rfl
structure Lo(n:Int)(fs:List Int):Prop where
 nd:fs.Nodup
 inn:∀x∈fs,0<=x/\x<n
def Lo.len{fs:List Int}(h:Lo n fs):fs.length<=n.toNat:=by
 have:=fO (m:=upI n) h.nd λ x hx=>bV.mpr (h.inn x hx)
 rwa [dB]at this
def Lo.put{fs:List Int}{x:Int}(h:Lo n fs)(hx:0<=x/\x<n):Lo n (aA5 fs x):=by
 unfold aA5;split
 .exact h
 .rename_i c
  refine⟨by rw[zAb];exact⟨h.nd,by simp,λ a ha b hb e=>by rw[zAD.mp hb]at e;subst e;exact c ha⟩,λ y hy=>?_⟩;rcases zAQ.mp hy with z|z
  .exact h.inn y z
  .rw[zAD.mp z];exact hx
def aFx{fs:List Int}{x y:Int}:y∈aA5 fs x↔y∈fs\/y=x:=by
 unfold aA5;split
 .rename_i c
  exact⟨.inl,λ h=>h.elim id λ e=>e▸c⟩
 .rw[zAQ,zAD]
def aI4{fs:List Int}{qs:gX}{s2 s4:Slot}{x:Int}(low:∀q∈qs,q.1<q.2)(hn:n<=60)(h:Lo n fs):loI (loV n ps fs s2 (.ow (.lst ((usL qs).map .int))) s4 (.sh (.int x)))= .nx (loV n ps (if dgr qs x<2 then aA5 fs x else fs) s2 (.ow (.lst ((usL qs).map .int))) s4 (.sh (.int x))):=by
 have hl:=h.len;have ov:opL qD (dZ 3) (aD 5) (loV n ps fs s2 (.ow (.lst ((usL qs).map .int))) s4 (.sh (.int x)))= .ok (.int (dgr qs x:Int)):=by
  show okD (qD ((usL qs).map .int) (.int x))=_;unfold qD;dsimp only;rw[dH];dsimp only;rw[rQ x low,pR]
 have t:tsb (op2 ltD (opL qD (dZ 3) (aD 5)) (cD (.int 2))) (loV n ps fs s2 (.ow (.lst ((usL qs).map .int))) s4 (.sh (.int x)))= .ok (decide (dgr qs x<2)):=by
  rw[aAJ,pQ,ov,bx];simp;exact⟨λ h=>by lia,λ h=>by lia⟩
 rw[loI,fj,t,bG];by_cases c:dgr qs x<2
 .rw[if_pos (by simpa using c),if_pos c]
  show((cD (.bl true) (loV n ps fs s2 (.ow (.lst ((usL qs).map .int))) s4 (.sh (.int x)))).bo λ d=>(aD 5 (loV n ps fs s2 (.ow (.lst ((usL qs).map .int))) s4 (.sh (.int x)))).bo λ k=>match vK (xV (fs.map trP)) k with
   |some (ps',j)=>if ps'.length<zAO then .nx ((loV n ps fs s2 (.ow (.lst ((usL qs).map .int))) s4 (.sh (.int x))).set 1 (.ow (xV (aA4 ps' j d))))else .st
   |none=>.st)=_
  have v:aD 5 (loV n ps fs s2 (.ow (.lst ((usL qs).map .int))) s4 (.sh (.int x)))= .ok (.int x):=rfl;have pn:vK (xV (fs.map trP)) (.int x)=some (fs.map trP,x):=by
   show(mV ((fs.map trP).map λ p=>.int p.1) ((fs.map trP).map (·.2))).map _=_
   rw[vL];rfl
  rw[aKG,bG,v,bG,pn];dsimp only;rw[if_pos (by rw[szl,zAB];lia),aHp];rfl
 .rw[if_neg (by simpa using c),if_neg c]
def aI5{fs:List Int}{qs:gX}{s3 s4 s5:Slot}(O:Ow n ps)(low:∀q∈qs,q.1<q.2)(hq:qs.length<=1000)(h:Lo n fs):∃fs' s3' s4' s5',loB (loV n ps fs (.sh (rwD qs)) s3 s4 s5)= .nx (loV n ps fs' (.sh (rwD qs)) s3' s4' s5')/\Lo n fs'/\∀y,y∈fs'↔y∈fs\/(0<=y/\y<n)/\dgr qs y<2:=by
 have hn0:=O.n0;have hn1:=O.n1;have hx:ixD (owD n ps) (.int 0)= .ok (.int n):=by simp[owD]
 have hr:=gK (j:=n) (by lia) (by lia);obtain⟨t4,e⟩:=zN (n:=n) (ps:=ps) (fs:=fs) (s2:=.sh (rwD qs)) (s5:=s5) qs [] s4 (by simp;lia);rw[zCu]at e;have c1:fB 3 (eE aH) (loV n ps fs (.sh (rwD qs)) s3 s4 s5)= .nx (loV n ps fs (.sh (rwD qs)) (.ow (.lst (([]:List Int).map .int))) s4 s5):=by simp
 have hi:cL (aD 2) (loV n ps fs (.sh (rwD qs)) (.ow (.lst (([]:List Int).map .int))) s4 s5)= .ok (qs.map pD):=by simp[rwD]
 have hi2:gW iM (aC (op2 ixD (aD 0) (cD (.int 0))) aH) (loV n ps fs (.sh (rwD qs)) (.ow (.lst ((usL qs).map .int))) t4 s5)= .ok (au 0 n):=by simp[hx,hr]
 obtain⟨ρ',e2,fs',t5,rfl,h',hm⟩:=gZ (ds:=au 0 n) (a:=gnm 5) (u:=loI) (ρ:=loV n ps fs (.sh (rwD qs)) (.ow (.lst ((usL qs).map .int))) t4 s5)
  (λ i ρ=>∃(fs':List Int) (t5:Slot),ρ=loV n ps fs' (.sh (rwD qs)) (.ow (.lst ((usL qs).map .int))) t4 t5/\Lo n fs'/\∀y,y∈fs'↔y∈fs\/(0<=y/\y<(i:Int))/\dgr qs y<2) (by
   rintro i d ρ hd ⟨fs',t5,rfl,h',hm⟩;obtain⟨rfl,hlt⟩:=lC hd;rw[zDl]at hlt;rw[lL,jL,zDl];refine⟨_,aI4 low hn1 h',_,_,rfl,?_,λ y=>?_⟩
   .split
    .exact h'.put ⟨by lia,hlt⟩
    .exact h'
   .split
    .rename_i c
     rw[aFx,hm];constructor
     .rintro((z|z)|rfl)
      .exact .inl z
      .exact .inr ⟨by lia,z.2⟩
      .exact .inr ⟨by lia,c⟩
     .rintro(z|⟨z1,z2⟩)
      .exact .inl (.inl z)
      .by_cases q:y=(i:Int)
       .exact .inr q
       .exact .inl (.inr ⟨by lia,z2⟩)
    .rename_i c
     rw[hm];constructor
     .rintro(z|z)
      .exact .inl z
      .exact .inr ⟨by lia,z.2⟩
     .rintro(z|⟨z1,z2⟩)
      .exact .inl z
      .refine .inr ⟨⟨z1.1,?_⟩,z2⟩
       have:y≠(i:Int):=λ e=>c (e▸z2)
       lia) ⟨fs,s5,rfl,h,λ y=>⟨.inl,λ z=>z.elim id λ q=>by lia⟩⟩
 have hl:((au 0 n).length:Int)=n:=by rw[gU];lia
 rw[hl]at hm;exact⟨fs',_,t4,t5,by rw[loB,aK,c1,aR,aK,cG,hi,bG,e,aR,cG,hi2,bG,e2],h',hm⟩
def zQ(O:Ow n ps)(low:∀p∈ps,p.1<p.2)(hn:n<=12)(A:Ac ps):∃ks:List Int,jr [owD n ps]= .ok (tupI ks)/\ks.Pairwise (·< ·)/\∀x,x∈ks↔(0<=x/\x<n)/\opP ps x:=by
 have hpl:=uE O A;have hn0:=O.n0;have hin:∀p∈ps,(0<=p.1/\p.1<n)/\(0<=p.2/\p.2<n):=λ p hp=>by
  obtain⟨a,b,c,d,_⟩:=O.pr p hp;exact⟨⟨a,b⟩,c,d⟩
 obtain⟨Q,M,eQ,hQ,hM,hne,_⟩:=xT (es:=[]) O low hn (by lia) (by simp);have eQ':cP [owD n ps,.tup []]= .ok (.lst (Q.map rwD)):=eQ;have st:ao 6 [owD n ps]=[.sh (owD n ps),.no,.no,.no,.no,.no]:=rfl;have c1:fB 1 (cD (.dct [] [])) [.sh (owD n ps),.no,.no,.no,.no,.no]= .nx (loV n ps [] .no .no .no .no):=rfl;have hi:cL (aU cP (aC (aD 0) (aC (cH aH) aH))) (loV n ps [] .no .no .no .no)= .ok (Q.map rwD):=by simp[eQ']
 obtain⟨ρ',e,fs,s2,s3,s4,s5,rfl,h,hm⟩:=gZ (ds:=Q.map rwD) (a:=gnm 2) (u:=loB) (ρ:=loV n ps [] .no .no .no .no)
  (λ i ρ=>∃(fs:List Int) (s2 s3 s4 s5:Slot),ρ=loV n ps fs s2 s3 s4 s5/\Lo n fs/\∀y,y∈fs↔(0<=y/\y<n)/\∃q∈Q.take i,dgr q y<2) (by
   rintro i d ρ hd ⟨fs,s2,s3,s4,s5,rfl,h,hm⟩;rw[zAT]at hd;cases ep:Q[i]? with
   |none=>rw[ep]at hd;cases hd
   |some q=>
    rw[ep]at hd;cases hd;obtain⟨⟨t,ht,et⟩,_,_⟩:=(hQ q).mp (zA9 ep);have hri:=rF hin t ht;rw[et]at hri;have hql:=hri.2.1.length_le;obtain⟨fs',t3,t4,t5,e,h',hm'⟩:=aI5 (s3:=s3) (s4:=s4) (s5:=s5) O (λ p hp=>low p (hri.2.1.subset hp)) (by lia) h;refine⟨_,e,fs',_,t3,t4,t5,rfl,h',λ y=>?_⟩;rw[hm',hm,zDP,ep];simp only[zGS,zAQ,zAD];constructor
    .rintro(⟨h1,p,h2,h3⟩|⟨h1,h2⟩)
     .exact⟨h1,p,.inl h2,h3⟩
     .exact⟨h1,q,.inr rfl,h2⟩
    .rintro⟨h1,p,h2|rfl,h3⟩
     .exact .inl ⟨h1,p,h2,h3⟩
     .exact .inr ⟨h1,h3⟩) ⟨[],_,_,_,_,rfl,⟨by simp,λ x hx=>(nomatch hx)⟩,λ y=>by simp⟩
 rw[zBG (by rw[zAB];exact zAU _)]at hm;have hl:=h.len;have sk:sH [xV (fs.map trP)]= .ok (.lst ((sortI fs).map .int)):=by
  unfold sH xV;dsimp only;rw[vL];dsimp only;rw[if_pos (by rw[zAB];lia),zAe]
  have:fs.map ((·.1)∘trP)=fs:=by
   conv=>rhs;rw[<-zG1 fs]
   exact zAz λ x _=>rfl
  rw[this]
 have nd2:(sortI fs).Nodup:=(sortI_perm _).nodup_iff.mpr h.nd;rw[zAg]at nd2;refine⟨sortI fs,?_,((jP _).and nd2).imp λ⟨a,b⟩=>by lia,λ x=>?_⟩
 .simp only[jr,gC,bO,st]
  rw[aK,c1,aR,aK,cG,hi,bG,e,aR];have v:dZ 1 (loV n ps fs s2 s3 s4 s5)= .ok (xV (fs.map trP)):=rfl;rw[jA,jK,bw,jK,bw,v,bx,rJ,bx,bx,sk];simp[tupI]
 .rw[(sortI_perm fs).mem_iff,hm]
  refine and_congr_right λ _=>?_
  constructor
  .rintro⟨q,hq,hd⟩
   obtain⟨⟨t,ht,rfl⟩,_,hl⟩:=(hQ q).mp hq;exact⟨t,ht,λ s hs=>by rw[hl];exact hM s hs (tX _),by lia⟩
  .rintro⟨t,ht,hmax,hd⟩
   obtain⟨q0,hq0⟩:=zFW Q hne;obtain⟨⟨t0,ht0,e0⟩,_,hl0⟩:=(hQ q0).mp hq0;have h1:=hmax t0 ht0;have h2:=hM t ht (tX _);rw[e0,hl0]at h1;exact⟨t.1,(hQ t.1).mpr ⟨⟨t,ht,rfl⟩,tX _,by lia⟩,by lia⟩
end
def eG(m:Nat):D:=.tup [.int m,.tup ((zAw (m-1)).map λ(k:Nat)=>D.tup [.int 0,.int (1+(k:Int))])]
def jU(m:Nat):D:=.tup [.int m,.tup ((zAw (m-1)).map λ(k:Nat)=>D.tup [.int (0+(k:Int)),.int (0+(k:Int)+1)])]
section
variable{a0 a1 a2 a3 a4 a5 a7 a8:Slot}
def aKb:∃t7 t8,lT [a0,a1,a2,a3,a4,a5,.sh (.int 4),a7,a8]= .nx [a0,a1,a2,a3,a4,a5,.sh (.int 4),t7,t8]:=⟨.sh (eG 4),.sh (jU 4),by kernel_rfl⟩
def aKa:∃t7 t8,lT [a0,a1,a2,a3,a4,a5,.sh (.int 5),a7,a8]= .nx [a0,a1,a2,a3,a4,a5,.sh (.int 5),t7,t8]:=⟨.sh (eG 5),.sh (jU 5),by kernel_rfl⟩
def aK9:∃t7 t8,lT [a0,a1,a2,a3,a4,a5,.sh (.int 6),a7,a8]= .nx [a0,a1,a2,a3,a4,a5,.sh (.int 6),t7,t8]:=⟨.sh (eG 6),.sh (jU 6),by kernel_rfl⟩
def aK8:∃t7 t8,lT [a0,a1,a2,a3,a4,a5,.sh (.int 7),a7,a8]= .nx [a0,a1,a2,a3,a4,a5,.sh (.int 7),t7,t8]:=⟨.sh (eG 7),.sh (jU 7),by kernel_rfl⟩
def aK7:∃t7 t8,lT [a0,a1,a2,a3,a4,a5,.sh (.int 8),a7,a8]= .nx [a0,a1,a2,a3,a4,a5,.sh (.int 8),t7,t8]:=⟨.sh (eG 8),.sh (jU 8),by kernel_rfl⟩
def aK6:∃t7 t8,lT [a0,a1,a2,a3,a4,a5,.sh (.int 9),a7,a8]= .nx [a0,a1,a2,a3,a4,a5,.sh (.int 9),t7,t8]:=⟨.sh (eG 9),.sh (jU 9),by kernel_rfl⟩
def aJw:∃t7 t8,lT [a0,a1,a2,a3,a4,a5,.sh (.int 10),a7,a8]= .nx [a0,a1,a2,a3,a4,a5,.sh (.int 10),t7,t8]:=⟨.sh (eG 10),.sh (jU 10),by kernel_rfl⟩
def aJv:∃t7 t8,lT [a0,a1,a2,a3,a4,a5,.sh (.int 11),a7,a8]= .nx [a0,a1,a2,a3,a4,a5,.sh (.int 11),t7,t8]:=⟨.sh (eG 11),.sh (jU 11),by kernel_rfl⟩
def aJu:∃t7 t8,lT [a0,a1,a2,a3,a4,a5,.sh (.int 12),a7,a8]= .nx [a0,a1,a2,a3,a4,a5,.sh (.int 12),t7,t8]:=⟨.sh (eG 12),.sh (jU 12),by kernel_rfl⟩
def aJt:∃t7 t8,lT [a0,a1,a2,a3,a4,a5,.sh (.int 13),a7,a8]= .nx [a0,a1,a2,a3,a4,a5,.sh (.int 13),t7,t8]:=⟨.sh (eG 13),.sh (jU 13),by kernel_rfl⟩
def aJs:∃t7 t8,lT [a0,a1,a2,a3,a4,a5,.sh (.int 14),a7,a8]= .nx [a0,a1,a2,a3,a4,a5,.sh (.int 14),t7,t8]:=⟨.sh (eG 14),.sh (jU 14),by kernel_rfl⟩
def aJr:∃t7 t8,lT [a0,a1,a2,a3,a4,a5,.sh (.int 15),a7,a8]= .nx [a0,a1,a2,a3,a4,a5,.sh (.int 15),t7,t8]:=⟨.sh (eG 15),.sh (jU 15),by kernel_rfl⟩
def aJq:∃t7 t8,lT [a0,a1,a2,a3,a4,a5,.sh (.int 16),a7,a8]= .nx [a0,a1,a2,a3,a4,a5,.sh (.int 16),t7,t8]:=⟨.sh (eG 16),.sh (jU 16),by kernel_rfl⟩
def aJp:∃t7 t8,lT [a0,a1,a2,a3,a4,a5,.sh (.int 17),a7,a8]= .nx [a0,a1,a2,a3,a4,a5,.sh (.int 17),t7,t8]:=⟨.sh (eG 17),.sh (jU 17),by kernel_rfl⟩
def aJo:∃t7 t8,lT [a0,a1,a2,a3,a4,a5,.sh (.int 18),a7,a8]= .nx [a0,a1,a2,a3,a4,a5,.sh (.int 18),t7,t8]:=⟨.sh (eG 18),.sh (jU 18),by kernel_rfl⟩
def aJn:∃t7 t8,lT [a0,a1,a2,a3,a4,a5,.sh (.int 19),a7,a8]= .nx [a0,a1,a2,a3,a4,a5,.sh (.int 19),t7,t8]:=⟨.sh (eG 19),.sh (jU 19),by kernel_rfl⟩
def aJm:∃t7 t8,lT [a0,a1,a2,a3,a4,a5,.sh (.int 20),a7,a8]= .nx [a0,a1,a2,a3,a4,a5,.sh (.int 20),t7,t8]:=⟨.sh (eG 20),.sh (jU 20),by kernel_rfl⟩
def aJl:∃t7 t8,lT [a0,a1,a2,a3,a4,a5,.sh (.int 21),a7,a8]= .nx [a0,a1,a2,a3,a4,a5,.sh (.int 21),t7,t8]:=⟨.sh (eG 21),.sh (jU 21),by kernel_rfl⟩
def aJk:∃t7 t8,lT [a0,a1,a2,a3,a4,a5,.sh (.int 22),a7,a8]= .nx [a0,a1,a2,a3,a4,a5,.sh (.int 22),t7,t8]:=⟨.sh (eG 22),.sh (jU 22),by kernel_rfl⟩
def aJj:∃t7 t8,lT [a0,a1,a2,a3,a4,a5,.sh (.int 23),a7,a8]= .nx [a0,a1,a2,a3,a4,a5,.sh (.int 23),t7,t8]:=⟨.sh (eG 23),.sh (jU 23),by kernel_rfl⟩
end
def kt{a0 a1 a2 a3 a4 a5 a7 a8:Slot}{r:Nat}(h:(r:Int)<20):∃t7 t8,lT [a0,a1,a2,a3,a4,a5,.sh (.int (4+(r:Int))),a7,a8]= .nx [a0,a1,a2,a3,a4,a5,.sh (.int (4+(r:Int))),t7,t8]:=by
 have:r=0\/r=1\/r=2\/r=3\/r=4\/r=5\/r=6\/r=7\/r=8\/r=9\/r=10\/r=11\/r=12\/r=13\/r=14\/r=15\/r=16\/r=17\/r=18\/r=19:=by lia
 rcases this with rfl|rfl|rfl|rfl|rfl|rfl|rfl|rfl|rfl|rfl|rfl|rfl|rfl|rfl|rfl|rfl|rfl|rfl|rfl|rfl
 .exact aKb
 .exact aKa
 .exact aK9
 .exact aK8
 .exact aK7
 .exact aK6
 .exact aJw
 .exact aJv
 .exact aJu
 .exact aJt
 .exact aJs
 .exact aJr
 .exact aJq
 .exact aJp
 .exact aJo
 .exact aJn
 .exact aJm
 .exact aJl
 .exact aJk
 .exact aJj
abbrev lV(ns:List Int)(k c n:Int)(ps:gX)(s4 s5 s6 s7 s8:Slot):En:=[.sh (.scr ns),.sh (.int k),.sh (.int c),.sh (owD n ps),s4,s5,s6,s7,s8]
def aE2(od:List Int):eqR true (tupI od) (tupI od)= .ok (.bl false):=by
 obtain⟨h1,h2⟩:=uQ od;unfold eqR;rw[if_pos (by simp[tupI,aP,gm,h1,h2])];simp[tupI,eqD,vZ]
def aI2{ns:List Int}{k:Int}{s2 s3 s4 s5 s6 s7 s8:Slot}(hk:0<=k):∃t2 t3 t4 t5 t6 t7 t8,lwK [.sh (.scr ns),.sh (.int k),s2,s3,s4,s5,s6,s7,s8]= .nx [.sh (.scr ns),.sh (.int k),t2,t3,t4,t5,t6,t7,t8]:=by
 obtain⟨c,ec⟩:=aG8 (ns:=ns) hk;obtain⟨n,ps,ew,O,low,hn,rs,hp,F⟩:=ur (c:=c) (most:=9) (by decide);have ew':dW [.int c,.int 9]= .ok (owD n ps):=ew;have hn9:n<=9:=hn;obtain⟨ks,e1,r1,m1⟩:=aFe O low (by lia) hp F;obtain⟨ks2,e2,r2,m2⟩:=zQ O low (by lia) (F.ac.perm hp);have ek:ks2=ks:=aAY r2 r1 λ x=>by rw[m1,m2]
 subst ek;have c2:cQ 2 (aU cz (aC (aD 0) (aC (aD 1) aH))) [.sh (.scr ns),.sh (.int k),s2,s3,s4,s5,s6,s7,s8]= .nx [.sh (.scr ns),.sh (.int k),.sh (.int c),s3,s4,s5,s6,s7,s8]:=by simp[ec]
 have c3:cQ 3 (aU dW (aC (aD 2) (aC (cD (.int 9)) aH))) [.sh (.scr ns),.sh (.int k),.sh (.int c),s3,s4,s5,s6,s7,s8]= .nx (lV ns k c n ps s4 s5 s6 s7 s8):=by simp[ew']
 have hr:gW iM (aC (cD (.int 2)) aH) (lV ns k c n ps s4 s5 s6 s7 s8)= .ok (au 0 2):=by
  have:=gK (j:=2) (by decide) (by decide)
  simp[this]
 have q3:nU "tuple" (tupI ks2)= .ok (.bl true):=ut;have q4:=aE2 ks2;obtain⟨ρ',e,t4,t5,rfl⟩:=xR (a:=gnm 4) (u:=lB) (I:=λ ρ=>∃t4 t5,ρ=lV ns k c n ps t4 t5 s6 s7 s8) (au 0 2) (lV ns k c n ps s4 s5 s6 s7 s8) ⟨_,_,rfl⟩ (by
  rintro d hd ρ ⟨t4,t5,rfl⟩;refine⟨lV ns k c n ps (.sh d) (.sh (tupI ks2)) s6 s7 s8,?_,_,_,rfl⟩;rw[lL,jL];show lB (lV ns k c n ps (.sh d) t5 s6 s7 s8)=_;simp[lB,e1,e2,q3,q4])
 obtain⟨r,er,hr1⟩:=jF (c:=c) (k:=9000) (b:=20) (by decide) (by decide) (by decide) (by decide);have c6:lS6 (lV ns k c n ps t4 t5 s6 s7 s8)= .nx (lV ns k c n ps t4 t5 (.sh (.int (4+(r:Int)))) s7 s8):=by simp[lS6,er]
 obtain⟨t7,t8,e7⟩:=kt (a0:=.sh (.scr ns)) (a1:=.sh (.int k)) (a2:=.sh (.int c)) (a3:=.sh (owD n ps)) (a4:=t4) (a5:=t5) (a7:=s7) (a8:=s8) hr1;refine⟨.sh (.int c),.sh (owD n ps),t4,t5,.sh (.int (4+(r:Int))),t7,t8,?_⟩;rw[lwK,aK,c2,aR,aK,c3,aR,aK,cG,hr,bG,e,aR,aK,c6,aR,e7]
def aDy(ns:List Int)(hl:ns.length<=63):aEi [.scr ns]= .ok (.bl true):=by
 have st:ao 9 [.scr ns]=[.sh (.scr ns),.no,.no,.no,.no,.no,.no,.no,.no]:=rfl;let m:Int:=if (if (6:Int)<ns.length then(6:Int)else ns.length)>1 then(if (6:Int)<ns.length then(6:Int)else ns.length)else 1
 have hm:1<=m/\m<=6:=by
  show 1<=(if (if (6:Int)<ns.length then(6:Int)else ns.length)>1 then(if (6:Int)<ns.length then(6:Int)else ns.length)else 1)/\(if (if (6:Int)<ns.length then(6:Int)else ns.length)>1 then(if (6:Int)<ns.length then(6:Int)else ns.length)else 1)<=6;split<;>split<;>lia
 have hr:=gK (j:=m) (by lia) (by lia);have hR:lwR [.sh (.scr ns),.no,.no,.no,.no,.no,.no,.no,.no]= .ok (au 0 m):=by
  rw[<-hr];unfold lwR;simp[m]
 obtain⟨ρ',el,t1,t2,t3,t4,t5,t6,t7,t8,rfl⟩:=xR (a:=gnm 1) (u:=lwK) (I:=λ ρ=>∃t1 t2 t3 t4 t5 t6 t7 t8,ρ=[.sh (.scr ns),t1,t2,t3,t4,t5,t6,t7,t8]) (au 0 m) [.sh (.scr ns),.no,.no,.no,.no,.no,.no,.no,.no] ⟨.no,.no,.no,.no,.no,.no,.no,.no,rfl⟩ (by
  rintro d hd ρ ⟨t1,t2,t3,t4,t5,t6,t7,t8,rfl⟩;obtain⟨k,rfl,k0,k1⟩:=zM.mp hd;obtain⟨u2,u3,u4,u5,u6,u7,u8,e⟩:=aI2 (ns:=ns) (k:=k) (s2:=t2) (s3:=t3) (s4:=t4) (s5:=t5) (s6:=t6) (s7:=t7) (s8:=t8) k0;exact⟨_,e,_,_,_,_,_,_,_,_,rfl⟩)
 have z1:bN [.tup [.int 0,.tup []]]= .ok (.tup []):=by kernel_rfl
 have z2:bN [.tup [.int 1,.tup []]]= .ok (.tup [.int 0]):=by kernel_rfl
 have q1:eqR false (.tup []) (.tup [])= .ok (.bl true):=rfl;have q2:eqR false (.tup [.int 0]) (.tup [.int 0])= .ok (.bl true):=rfl;simp only[aEi,uR,bO,st];rw[aK,cG,hR,bG,el,aR];unfold lwZ;simp[z1,z2,q1,q2]
local macro_rules|`(tactic|walk_at "sc")=>`(tactic|exact⟨rfl,rfl,rfl,by decide+kernel,rfl,by decide+kernel,by decide+kernel⟩)
def top(i:Nat):Stmt:=PySem.Challenge.pw_fewways_k35_open_places.main.body.getD i (.Pass ⟨0,0,0,0⟩)
abbrev nJ:Stmt:=top 6
abbrev pN:Stmt:=top 7
abbrev nM:Stmt:=top 8
abbrev pM:Stmt:=top 9
abbrev kj:Stmt:=top 10
abbrev dq:Stmt:=top 11
abbrev nO:Stmt:=top 12
abbrev sZ:Stmt:=top 13
abbrev lA:Stmt:=top 14
abbrev sY:Stmt:=top 15
abbrev nP:Stmt:=top 16
abbrev kZ:Stmt:=top 17
abbrev jG:Stmt:=top 18
abbrev wR:Stmt:=top 19
abbrev km:Stmt:=top 21
abbrev iK:Stmt:=top 22
abbrev aAX:Stmt:=top 23
abbrev kh:Stmt:=top 24
abbrev jH:Stmt:=top 26
abbrev jJ:Stmt:=top 28
abbrev nH:Stmt:=top 29
abbrev jg:Stmt:=top 30
abbrev nF:Stmt:=top 31
abbrev iJ:Stmt:=top 32
abbrev nG:Stmt:=top 33
abbrev aDJ:Stmt:=top 34
def yg:aY ["thing"] ["thing"] (aO nJ):=by walk_at "sc"
def aAW:aY ["thing"] ["thing"] (aO pN):=by walk_at "sc"
def yh:aY ["many","thing"] ["many","thing"] (aO nM):=by walk_at "sc"
def aAV:aY ["many","thing"] ["many","thing"] (aO pM):=by walk_at "sc"
def wN:aY ["things","at"] ["things"] (aO kj):=by walk_at "sc"
def mK:aY ["many","thing","pair"] ["many","thing"] (aO dq):=by walk_at "sc"
def yj:aY ["many","thing"] ["many","thing"] (aO nO):=by walk_at "sc"
def aCC:aY ["thing"] ["thing"] (aO sZ):=by walk_at "sc"
def wQ:aY ["thing"] ["thing"] (aO lA):=by walk_at "sc"
def aCB:aY ["one","other"] ["one","other"] (aO sY):=by walk_at "sc"
def ym:aY ["web","many","ties","near","low","high"] ["web"] (aO nP):=by walk_at "sc"
def wL:aY ["near","start","part","at","place","other"] ["near","start"] (aO kZ):=by walk_at "sc"
def sV:aY ["near","places","found","seen","place","part","other"] ["near","places"] (aO jG):=by walk_at "sc"
def aDG:aY ["web"] ["web"] (aO wR):=by walk_at "sc"
def wO:aY ["web"] ["web"] (aO km):=by walk_at "sc"
def qp:aY ["web"] ["web"] (aO iK):=by walk_at "sc"
def aFO:aY ["web","near","seen","rows","at","top","place","upper","other"] ["web"] (aO aAX):=by walk_at "sc"
def wM:aY ["web","ends","waiting","ties","filled","place","upper","room"] ["web","ends"] (aO kh):=by walk_at "sc"
def sW:aY ["web","most"] ["web"] (aO jH):=by walk_at "sc"
def sX:aY ["_law_script","_law_k"] ["_law_script","_law_k"] (aO jJ):=by walk_at "sc"
def yf:aY ["_law_cell","_law_k","_law_bound","_law_left","_law_j","_law_stir"] ["_law_cell","_law_k","_law_bound"] (aO nH):=by walk_at "sc"
def uh:aY ["_law_cell","_law_most","_law_many","_law_kind","_law_order","_law_ties","_law_place","_law_over"] ["_law_cell","_law_most"] (aO jg):=by walk_at "sc"
def yd:aY ["_law_web","_law_found","_law_one","_law_other","_law_longer","_law_some","_law_least","_law_uses","_law_low","_law_high","_law_more","_law_used"] ["_law_web"] (aO nF):=by walk_at "sc"
def ql:aY ["_law_web","_law_ends","_law_some","_law_row","_law_used","_law_tie","_law_most"] ["_law_web","_law_ends"] (aO iJ):=by walk_at "sc"
def ye:aY ["_law_web","_law_found","_law_row","_law_used","_law_tie","_law_place"] ["_law_web"] (aO nG):=by walk_at "sc"
def aHc:aY ["_law_script","_law_k","_law_cell","_law_web","_law_turn","_law_found","_law_many","_law_star","_law_row"] ["_law_script"] (aO aDJ):=by walk_at "sc"
set_option genInjectivity false in
set_option genSizeOf false in
structure Adr where
 uI:Addr
 gD:zAf
 vX:Addr
 iC:zAf
 uJ:Addr
 gF:zAf
 vW:Addr
 iB:zAf
 qW:Addr
 dJ:zAf
 iV:Addr
 az:zAf
 uK:Addr
 gG:zAf
 zY:Addr
 j0:zAf
 qY:Addr
 eX:zAf
 zX:Addr
 jZ:zAf
 uL:Addr
 gH:zAf
 qT:Addr
 eN:zAf
 mY:Addr
 cg:zAf
 aBm:Addr
 mG:zAf
 qX:Addr
 eV:zAf
 lO:Addr
 cN:zAf
 aE1:Addr
 qC:zAf
 qU:Addr
 eU:zAf
 mZ:Addr
 cj:zAf
 m6:Addr
 bz:zAf
 uH:Addr
 dI:zAf
 oZ:Addr
 dU:zAf
 uF:Addr
 gB:zAf
 lN:Addr
 cM:zAf
 uG:Addr
 gC:zAf
 aHQ:Addr
 uR:zAf
 mR:Value
 ni:Addr
 xr:Addr
 n8:Addr
structure Txt(K:zAA)(mg:Str->Option Value)(t:Adr):Prop where
 nW:Dnr K mg "is_whole" nJ ["thing"] t.uI t.gD
 v5:Dnr K mg "is_many" pN ["thing"] t.vX t.iC
 nY:Dnr K mg "is_place" nM ["many","thing"] t.uJ t.gF
 v4:Dnr K mg "is_pair" pM ["many","thing"] t.vW t.iB
 q9:Dnr K mg "is_rising" kj ["things"] t.qW t.dJ
 iY:Dnr K mg "are_rising_pairs" dq ["many","thing"] t.iV t.az
 uP:Dnr K mg "are_ties" nO ["many","thing"] t.uK t.gG
 z8:Dnr K mg "is_web" sZ ["thing"] t.zY t.j0
 qd:Dnr K mg "check_web" lA ["thing"] t.qY t.eX
 z7:Dnr K mg "tie_of" sY ["one","other"] t.zX t.jZ
 nZ:Dnr K mg "all_tied" nP ["web"] t.uL t.gH
 qZ:Dnr K mg "part_with" kZ ["near","start"] t.qT t.eN
 m7:Dnr K mg "parts_among" jG ["near","places"] t.mY t.cg
 aBn:Dnr K mg "parts" wR ["web"] t.aBm t.mG
 qb:Dnr K mg "is_forest" km ["web"] t.qX t.eV
 lW:Dnr K mg "check_forest" iK ["web"] t.lO t.cN
 aE5:Dnr K mg "hung" aAX ["web"] t.aE1 t.qC
 lU:Dnr K mg "joined_up" kh ["web","ends"] t.qU t.eU
 cZ:Dnr K mg "open_places" jH ["web"] t.mZ t.cj
 m8:Dnr K mg "_law_cell_at" jJ ["_law_script","_law_k"] t.m6 t.bz
 cW:Dnr K mg "_law_draw" nH ["_law_cell","_law_k","_law_bound"] t.uH t.dI
 o6:Dnr K mg "_law_forest" jg ["_law_cell","_law_most"] t.oZ t.dU
 uN:Dnr K mg "_law_rows" nF ["_law_web"] t.uF t.gB
 lR:Dnr K mg "_law_few_rows" iJ ["_law_web","_law_ends"] t.lN t.cM
 uO:Dnr K mg "_law_open" nG ["_law_web"] t.uG t.gC
 aE4:Dnr K mg "law" aDJ ["_law_script"] t.aHQ t.uR
 gM:mg "MOST_PLACES"=some t.mR
 um:RelV (.int 60) t.mR
 m_FewError:mg "FewError"=some (.ref t.ni)
 l_FewError:bU mg "FewError"=t.ni
 jb:nu K t.ni
 aFy:mg "NoWeb"=some (.ref t.xr)
 aGD:bU mg "NoWeb"=t.xr
 oA:nu K t.xr
 aAj:mg "NoForest"=some (.ref t.n8)
 aAq:bU mg "NoForest"=t.n8
 iD:nu K t.n8
 aJf:mg "all"=none
 aI0:mg "bool"=none
 aHM:mg "int"=none
 dO:mg "isinstance"=none
 jC:mg "len"=none
 aIZ:mg "list"=none
 zJ:mg "max"=none
 aB8:mg "min"=none
 bu:mg "range"=none
 aHL:mg "set"=none
 jV:mg "sorted"=none
 cC:mg "tuple"=none
section
variable{P:zAZ}{w:World}{K:zAA}{mg:Str->Option Value}{base:Heap}{t:Adr}
def qK(T:Txt K mg t):cB P w K mg base (CX1 P w) 1 t.uI t.gD ["thing"] (spF K (bU mg) 1 ie):=
 bF (k:=0) (f:=gD) T.nW yg λ n _ _ _ _ _ _ _=>
  (aL (bA (kY (pK (aA 0) T.dO T.aHM) (kO (aH9 (pK (aA 0) T.dO T.aI0))))))
def wu(T:Txt K mg t):cB P w K mg base (CX1 P w) 1 t.qW t.dJ ["things"] (spF K (bU mg) 1 eY):=
 bF (k:=0) (f:=dJ) T.q9 wN λ n _ _ _ _ _ _ _=>
  (aG (cT (wI (aB aJ (aB (fH T.jC (aB (aA 0) aF)) aF)) T.bu) (aj (ks:=[1]))
   (aL (dX (kI (rz (aM (aA 0) (sO (aA 1) aJ)) (aM (aA 0) (aA 1))))
    (aL (bA oH))
    bT)))
  (aL (bA oH)))
def aCJ(T:Txt K mg t):cB P w K mg base (CX1 P w) 1 t.zX t.jZ ["one","other"] (spF K (bU mg) 2 pC):=
 bF (k:=0) (f:=jZ) T.z7 aCB λ n _ _ _ _ _ _ _=>
  (aL (bA (bQ (aB (rC T.aB8 (aB (aA 0) (aB (aA 1) aF))) (aB (rD T.zJ (aB (aA 0) (aB (aA 1) aF))) aF)))))
def qM(T:Txt K mg t):cB P w K mg base (CX1 P w) 1 t.uL t.gH ["web"] (spF K (bU mg) 1 cX):=
 bF (k:=0) (f:=gH) T.nZ ym λ n _ _ _ _ _ _ _=>
  (aG (aCu (aA 0) (nD (n:=2) (bh (aj (ks:=[1,2])) (bh (aj (ks:=[1,2])) je))))
  (aG (aGs (N:=["place"]) (js:=[none]) (ks:=[0]) (fD (aB (aA 1) aF) T.bu) bY)
  (aG (cT (cI (aA 2)) (nD (n:=2) (bh (aj (ks:=[4,5])) (bh (aj (ks:=[4,5])) je)))
   (aG (mz 3 (aA 4) (ak (aA 5)))
   (aL (mz 3 (aA 5) (ak (aA 4))))))
  (aL (bA (wK 3))))))
def wj(T:Txt K mg t):cB P w K mg base (CX1 P w) 1 t.qT t.eN ["near","start"] (spF K (bU mg) 2 gf):=
 bF (k:=0) (f:=eN) T.qZ wL λ n _ _ _ _ _ _ _=>
  (aG (dD (i:=2) (iz (iI (aB (ak (aA 1)) aF))))
  (aG (b7 (i:=3) (gQ aJ))
  (aG (yS (rz (aA 3) (fH T.jC (aB (fG 2) aF)))
   (aG (rB (i:=4) (gQ (ak (aM (fG 2) (aA 3)))))
   (aG (cT (cI (aM (aA 0) (jf 4))) (aj (ks:=[5]))
    (aL (dX (aH3 (aA 5) (fG 2))
     (aL (fV 2 (ak (aA 5))))
     bT)))
   (aL (aCt (i:=3) aJ (λ _=>aEG))))))
  (aL (bA (dh T.cC (aB (jR T.jV (aB (fG 2) aF)) aF)))))))
def tL(T:Txt K mg t):cB P w K mg base (CX1 P w) 1 t.m6 t.bz ["_law_script","_law_k"] (spF K (bU mg) 2 cz):=
 bF (k:=0) (f:=bz) T.m8 sX λ n _ _ _ _ _ _ _=>
  (aG (dX (rz (aA 1) (fH T.jC (aB (aA 0) aF)))
   (aL (bA (ak (aM (aA 0) (aA 1)))))
   bT)
  (aL (bA aJ)))
def cR(T:Txt K mg t):cB P w K mg base (CX1 P w) 1 t.uH t.dI ["_law_cell","_law_k","_law_bound"] (spF K (bU mg) 3 aX):=
 bF (k:=0) (f:=dI) T.cW yf λ n _ _ _ _ _ _ _=>
  (aG (dX (aGr (aA 0) (aH8 aJ aJ))
   (aG (b7 (i:=3) (gQ (aA 0)))
   (aG (cT (fD (aB (aA 1) aF) T.bu) (aj (ks:=[4]))
    (aG (dX (vD (aA 3) aJ)
     (aL (bA aJ))
     bT)
    (aL (b7 (i:=3) (gQ (rE (aA 3) (aA 2)))))))
   (aL (bA (pJ (aA 3) (aA 2))))))
   bT)
  (aG (b7 (i:=5) (gQ (pJ (sU (fJ (fJ (pJ (aA 0) aJ) (sU aJ (aA 1))) aJ) aJ) aJ)))
  (aG (b7 (i:=5) (gQ (pJ (fJ (fJ (sU (aA 5) (aA 5)) (sU aJ (aA 1))) aJ) aJ)))
  (aL (bA (pJ (rE (pJ (sU (aA 5) aJ) aJ) aJ) (aA 2)))))))
def zB(T:Txt K mg t):cB P w K mg base (CX1 P w) 1 t.uF t.gB ["_law_web"] (spF K (bU mg) 1 iZ):=
 bF (k:=0) (f:=gB) T.uN yd λ n _ _ _ _ _ _ _=>
  (aG (dD (i:=1) (iz (iI (aB (bQ (aB (bQ aF) (aB (aBz T.cC T.bu (aM (aA 0) aJ)) (aB (aFG (bQ (aB aJ aF)) (ak (aM (aA 0) aJ))) aF)))) aF))))
  (aG (cT (cI (aM (aA 0) aJ)) (nD (n:=2) (bh (aj (ks:=[2,3])) (bh (aj (ks:=[2,3])) je)))
   (aG (dD (i:=4) (iz (iI aF)))
   (aG (aEw 1 (nD (n:=3) (bh (aj (ks:=[5,6,7])) (bh (aj (ks:=[5,6,7])) (bh (aj (ks:=[5,6,7])) je))))
    (yR (aH4 (SW.st (aCo (rz (aM (aA 7) (aA 2)) aJ) (aCo (rz (aM (aA 7) (aA 3)) aJ) (aEu (rn (aM (aA 6) (aA 2)) (aM (aA 6) (aA 3)))))))
     (lq (oF (i:=8) (gQ (rC T.aB8 (aB (aM (aA 6) (aA 2)) (aB (aM (aA 6) (aA 3)) aF)))))
     (lq (oF (i:=9) (gQ (rD T.zJ (aB (aM (aA 6) (aA 2)) (aB (aM (aA 6) (aA 3)) aF)))))
     (lq (oF (i:=10) (gQ (dh T.cC (aB (jw (N:=["_law_here","_law_high","_law_low"]) (js:=[none,some 9,some 8]) (ks:=[0]) (cI (aA 6)) bY iH (aGt (vD (aA 0) (aA 1)) (ak (aA 2)) (ak (aA 0)))) aF))))
     (lq (oF (i:=11) (gQ (dh T.cC (aB (jw (N:=["_law_k","_law_uses","_law_one","_law_other"]) (js:=[none,some 7,some 2,some 3]) (ks:=[0]) (fD (aB (aM (aA 0) aJ) aF) T.bu) bY iH (fJ (ak (aM (aA 1) (aA 0))) (aFK T.aHM (aB (aJR (yW (aA 0) (aA 2)) (kO (yW (aA 0) (aA 3)))) aF)))) aF))))
     (yR (aAK 4 (bQ (aB (fJ (ak (aA 5)) (bQ (aB (bQ (aB (ak (aA 2)) (aB (ak (aA 3)) aF))) aF))) (aB (ak (aA 10)) (aB (ak (aA 11)) aF))))))))))
     aCs)))
   (aL (aAL 1 4)))))
  (aL (bA (jw (N:=["_law_row"]) (js:=[none]) (ks:=[0]) (cI (aA 1)) bY iH (ak (aM (aA 0) aJ)))))))
def aAd(T:Txt K mg t):cB P w K mg base (CX1 P w) 2 t.vX t.iC ["thing"] (spF K (bU mg) 1 mH):=
 bF (k:=1) (f:=iC) T.v5 aAW λ n _ _ _ _ _ _ _=>
  (aL (bA (kY (aZ (qK T) T.nW (aB (aA 0) aF)) (kO (aFJ aJ (aA 0) (aFL T.gM T.um (λ _ _=>.int _)))))))
def qL(T:Txt K mg t):cB P w K mg base (CX1 P w) 2 t.uJ t.gF ["many","thing"] (spF K (bU mg) 2 eF):=
 bF (k:=1) (f:=gF) T.nY yh λ n _ _ _ _ _ _ _=>
  (aL (bA (kY (aZ (qK T) T.nW (aB (aA 1) aF)) (kO (aFI aJ (aA 1) (aA 0))))))
def tK(T:Txt K mg t):cB P w K mg base (CX1 P w) 2 t.mY t.cg ["near","places"] (spF K (bU mg) 2 cu):=
 bF (k:=1) (f:=cg) T.m7 sV λ n _ _ _ _ _ _ _=>
  (aG (dD (i:=2) (iz (iI aF)))
  (aG (dD (i:=3) (iz (aH7 (aBT T.aHL))))
  (aG (cT (cI (aA 1)) (aj (ks:=[4]))
   (aL (dX (aBO (aA 4) (fG 3))
    (aG (b7 (i:=5) (gQ (aZ (wj T) T.qZ (aB (aA 0) (aB (aA 4) aF)))))
    (aG (fV 2 (ak (aA 5)))
    (aL (cT (cI (aA 5)) (aj (ks:=[6]))
     (aL (aCv 3 (ak (aA 6))))))))
    bT)))
  (aL (bA (wK 2))))))
def aFq(T:Txt K mg t):cB P w K mg base (CX1 P w) 2 t.aE1 t.qC ["web"] (spF K (bU mg) 1 uY):=
 bF (k:=1) (f:=qC) T.aE5 aFO λ n _ _ _ _ _ _ _=>
  (aG (b7 (i:=1) (gQ (aZ (qM T) T.nZ (aB (aA 0) aF))))
  (aG (dD (i:=2) (iz (aH7 (aBT T.aHL))))
  (aG (dD (i:=3) (iz (iI aF)))
  (aG (b7 (i:=4) (gQ aJ))
  (aG (cT (fD (aB (aM (aA 0) aJ) aF) T.bu) (aj (ks:=[5]))
   (aG (dX (aBO (aA 5) (fG 2))
    (aL (fV 3 (bQ (aB (ak (aA 5)) (aB aDE aF)))))
    bT)
   (aL (yS (rz (aA 4) (fH T.jC (aB (fG 3) aF)))
    (aG (aCu (ak (aM (fG 3) (aA 4))) (nD (n:=2) (bh (aj (ks:=[6,7])) (bh (aj (ks:=[6,7])) je))))
    (aG (cT (cI (aM (aA 1) (aA 6))) (aj (ks:=[8]))
     (aL (dX (rn (aA 8) (aA 7))
      (aG (aCv 2 (ak (aA 8)))
      (aL (fV 3 (bQ (aB (ak (aA 8)) (aB (ak (aA 6)) aF))))))
      bT)))
    (aL (aCt (i:=4) aJ (λ _=>aEG)))))))))
  (aL (bA (wK 3))))))))
def uo(T:Txt K mg t):cB P w K mg base (CX1 P w) 2 t.oZ t.dU ["_law_cell","_law_most"] (spF K (bU mg) 2 dW):=
 bF (k:=1) (f:=dU) T.o6 uh λ n _ _ _ _ _ _ _=>
  (aG (b7 (i:=2) (gQ (aZ (cR T) T.cW (aB (aA 0) (aB aJ (aB (fJ (aA 1) aJ) aF))))))
  (aG (b7 (i:=3) (gQ (aZ (cR T) T.cW (aB (aA 0) (aB aJ (aB aJ aF))))))
  (aG (rB (i:=4) (aJP (N:=["_law_row"]) (js:=[none]) (ks:=[0]) (cI (jR T.jV (aB (jw (N:=["_law_place","_law_cell"]) (js:=[none,some 0]) (ks:=[0]) (fD (aB (aA 2) aF) T.bu) bY iH (bQ (aB (aZ (cR T) T.cW (aB (aA 1) (aB (fJ aJ (aA 0)) (aB aJ aF)))) (aB (ak (aA 0)) aF)))) aF))) bY iH (ak (aM (aA 0) aJ))))
  (aG (dD (i:=5) (iz (iI aF)))
  (aG (cT (wI (aB aJ (aB (aA 2) aF)) T.bu) (aj (ks:=[6]))
   (aG (rB (i:=7) (gQ (aM (aDF (aB (sO (aA 6) aJ) (aB (rE (aA 6) aJ) (aB (rE (aA 6) aJ) (aB (aZ (cR T) T.cW (aB (aA 0) (aB (fJ aJ (aA 6)) (aB (aA 6) aF)))) aF))))) (aA 3))))
   (aG (dX (vD (aZ (cR T) T.cW (aB (aA 0) (aB (fJ aJ (aA 6)) (aB aJ aF)))) aJ)
    (aL (rB (i:=7) (gQ (aZ (cR T) T.cW (aB (aA 0) (aB (fJ aJ (aA 6)) (aB (aA 6) aF)))))))
    bT)
   (aL (dX (aGq (aZ (cR T) T.cW (aB (aA 0) (aB (fJ aJ (aA 6)) (aB aJ aF)))) aJ)
    (aL (fV 5 (bQ (aB (rC T.aB8 (aB (aM (jf 4) (jf 7)) (aB (aM (jf 4) (aA 6)) aF))) (aB (rD T.zJ (aB (aM (jf 4) (jf 7)) (aB (aM (jf 4) (aA 6)) aF))) aF)))))
    bT)))))
  (aL (bA (bQ (aB (ak (aA 2)) (aB (dh T.cC (aB (jR T.jV (aB (fG 5) aF)) aF)) aF))))))))))
def qu(T:Txt K mg t):cB P w K mg base (CX1 P w) 2 t.lN t.cM ["_law_web","_law_ends"] (spF K (bU mg) 2 cP):=
 bF (k:=1) (f:=cM) T.lR ql λ n _ _ _ _ _ _ _=>
  (aG (dD (i:=2) (iz (iI aF)))
  (aG (cT (cI (aZ (zB T) T.uN (aB (aA 0) aF))) (aj (ks:=[3]))
   (aG (dD (i:=4) (iz (iI aF)))
   (aG (cT (cI (aA 3)) (aj (ks:=[5]))
    (aL (sE 4 (ak (aA 5)))))
   (aL (dX (vD (jw (N:=["_law_place","_law_used"]) (js:=[none,some 4]) (ks:=[0]) (cI (aA 1)) bY (aAQ (aGq (yX (aA 1) (aA 0)) aJ)) (ak (aA 0))) (aDF aF))
    (aL (fV 2 (ak (aA 3))))
    bT)))))
  (aG (b7 (i:=6) (gQ (aFH T.zJ (aB (jw (N:=["_law_row"]) (js:=[none]) (ks:=[0]) (cI (aA 2)) bY iH (fH T.jC (aB (aA 0) aF))) aF))))
  (aL (bA (jw (N:=["_law_row","_law_most"]) (js:=[none,some 6]) (ks:=[0]) (cI (aA 2)) bY (aAQ (vD (fH T.jC (aB (aA 0) aF)) (aA 1))) (ak (aA 0))))))))
def aAc(T:Txt K mg t):cB P w K mg base (CX1 P w) 3 t.vW t.iB ["many","thing"] (spF K (bU mg) 2 j9):=
 bF (k:=2) (f:=iB) T.v4 aAV λ n _ _ _ _ _ _ _=>
  (aG (dX (SW.st (aBK (kI (my (pK (aA 1) T.dO T.cC))) (wA (rn (fH T.jC (aB (aA 1) aF)) aJ))))
   (aL (bA oH))
   bT)
  (aL (bA (kY (aZ (qL T) T.nY (aB (aA 0) (aB (aM (aA 1) aJ) aF))) (kY (aZ (qL T) T.nY (aB (aA 0) (aB (aM (aA 1) aJ) aF))) (kO (aJS (aM (aA 1) aJ) (aM (aA 1) aJ))))))))
def oO(T:Txt K mg t):cB P w K mg base (CX1 P w) 3 t.qU t.eU ["web","ends"] (spF K (bU mg) 2 bf):=
 bF (k:=2) (f:=eU) T.lU wM λ n _ _ _ _ _ _ _=>
  (aG (aGs (N:=["place"]) (js:=[none]) (ks:=[0]) (fD (aB (aM (aA 0) aJ) aF) T.bu) bY)
  (aG (dD (i:=3) (iz (iI aF)))
  (aG (dD (i:=4) (iz (iI aF)))
  (aG (cT (cI (aFF (aZ (aFq T) T.aE5 (aB (aA 0) aF)))) (nD (n:=2) (bh (aj (ks:=[5,6])) (bh (aj (ks:=[5,6])) je)))
   (aG (b7 (i:=7) (gQ (aGt (aJQ (aA 5) (aA 1)) aJ aJ)))
   (aG (aEx 3 (jw (N:=["other","place"]) (js:=[none,some 5]) (ks:=[0]) (cI (aDD (aM (aA 2) (aA 5)) aEz (aEy (aA 7)))) bY iH (aZ (aCJ T) T.z7 (aB (aA 1) (aB (aA 0) aF)))))
   (aL (dX (aGr (fH T.jC (aB (aM (fG 2) (aA 5)) aF)) (aA 7))
    (aL (fV 4 (ak (aA 5))))
    (aL (dX (aCq (aA 6) aDE)
     (aL (mz 2 (aA 6) (ak (aA 5))))
     bT)))))))
  (aL (bA (bQ (aB (dh T.cC (aB (jR T.jV (aB (fG 3) aF)) aF)) (aB (dh T.cC (aB (jR T.jV (aB (fG 4) aF)) aF)) aF)))))))))
def zE(T:Txt K mg t):cB P w K mg base (CX1 P w) 3 t.uG t.gC ["_law_web"] (spF K (bU mg) 1 jr):=
 bF (k:=2) (f:=gC) T.uO ye λ n _ _ _ _ _ _ _=>
  (aG (dD (i:=1) (iz (aH7 aFM)))
  (aG (cT (cI (aZ (qu T) T.lR (aB (aA 0) (aB (bQ aF) aF)))) (aj (ks:=[2]))
   (aG (dD (i:=3) (iz (iI aF)))
   (aG (cT (cI (aA 2)) (aj (ks:=[4]))
    (aL (sE 3 (ak (aA 4)))))
   (aL (cT (fD (aB (aM (aA 0) aJ) aF) T.bu) (aj (ks:=[5]))
    (aL (dX (rz (yX (fG 3) (aA 5)) aJ)
     (aL (aEv 1 (aA 5) oH))
     bT)))))))
  (aL (bA (dh T.cC (aB (aAS T.jV (aB (fG 1) aF)) aF))))))
def mO(T:Txt K mg t):cB P w K mg base (CX1 P w) 4 t.iV t.az ["many","thing"] (spF K (bU mg) 2 bK):=
 bF (k:=3) (f:=az) T.iY mK λ n _ _ _ _ _ _ _=>
  (aG (dX (kI (my (pK (aA 1) T.dO T.cC)))
   (aL (bA oH))
   bT)
  (aG (cT (cI (aA 1)) (aj (ks:=[2]))
   (aL (dX (kI (my (aZ (aAc T) T.v4 (aB (aA 0) (aB (aA 2) aF)))))
    (aL (bA oH))
    bT)))
  (aL (bA (aZ (wu T) T.q9 (aB (aA 1) aF))))))
def zF(T:Txt K mg t):cB P w K mg base (CX1 P w) 5 t.uK t.gG ["many","thing"] (spF K (bU mg) 2 jt):=
 bF (k:=4) (f:=gG) T.uP yj λ n _ _ _ _ _ _ _=>
  (aL (bA (kY (aZ (mO T) T.iY (aB (aA 0) (aB (aA 1) aF))) (kO (aHa T.aJf (aB (jw (N:=["low","high"]) (js:=[none,none]) (ks:=[0,1]) (cI (aA 1)) (nD (n:=2) (bh bY (bh bY je))) iH (aJT (aA 0) (aA 1))) aF))))))
def aCK(T:Txt K mg t):cB P w K mg base (CX1 P w) 6 t.zY t.j0 ["thing"] (spF K (bU mg) 1 pF):=
 bF (k:=5) (f:=j0) T.z8 aCC λ n _ _ _ _ _ _ _=>
  (aG (dX (SW.st (aBK (kI (my (pK (aA 0) T.dO T.cC))) (wA (rn (fH T.jC (aB (aA 0) aF)) aJ))))
   (aL (bA oH))
   bT)
  (aL (bA (kY (aZ (aAd T) T.v5 (aB (aM (aA 0) aJ) aF)) (kO (aZ (zF T) T.uP (aB (aM (aA 0) aJ) (aB (aM (aA 0) aJ) aF))))))))
def wy(T:Txt K mg t):cB P w K mg base (CX1 P w) 7 t.qY t.eX ["thing"] (spF K (bU mg) 1 eZ):=
 bF (k:=6) (f:=eX) T.qd wQ λ n _ _ _ _ _ _ _=>
  (aL (dX (kI (my (aZ (aCK T) T.z8 (aB (aA 0) aF))))
   (aL (yU rfl T.aFy T.aGD T.oA (aB aDC aF)))
   bT))
def aDl(T:Txt K mg t):cB P w K mg base (CX1 P w) 8 t.aBm t.mG ["web"] (spF K (bU mg) 1 rO):=
 bF (k:=7) (f:=mG) T.aBn aDG λ n _ _ _ _ _ _ _=>
  (aG (aBP (aZ (wy T) T.qd (aB (aA 0) aF)))
  (aL (bA (aZ (tK T) T.m7 (aB (aZ (qM T) T.nZ (aB (aA 0) aF)) (aB (aAT T.aIZ T.bu (aM (aA 0) aJ)) aF))))))
def ww(T:Txt K mg t):cB P w K mg base (CX1 P w) 9 t.qX t.eV ["web"] (spF K (bU mg) 1 gh):=
 bF (k:=8) (f:=eV) T.qb wO λ n _ _ _ _ _ _ _=>
  (aL (bA (yW (fH T.jC (aB (aZ (aDl T) T.aBn (aB (aA 0) aF)) aF)) (sO (aM (aA 0) aJ) (fH T.jC (aB (aM (aA 0) aJ) aF))))))
def qw(T:Txt K mg t):cB P w K mg base (CX1 P w) 10 t.lO t.cN ["web"] (spF K (bU mg) 1 fQ):=
 bF (k:=9) (f:=cN) T.lW qp λ n _ _ _ _ _ _ _=>
  (aL (dX (kI (my (aZ (ww T) T.qb (aB (aA 0) aF))))
   (aL (yU rfl T.aAj T.aAq T.iD (aB aDC aF)))
   bT))
def dF(T:Txt K mg t):cB P w K mg base (CX1 P w) 11 t.mZ t.cj ["web"] (spF K (bU mg) 1 bN):=
 bF (k:=10) (f:=cj) T.cZ sW λ n _ _ _ _ _ _ _=>
  (aG (aBP (aZ (qw T) T.lW (aB (aA 0) aF)))
  (aG (b7 (i:=1) (gQ (fH T.jC (aB (aM (aZ (oO T) T.lU (aB (aA 0) (aB (bQ aF) aF))) aJ) aF))))
  (aL (bA (dh T.cC (aB (jw (N:=["place","web","most"]) (js:=[none,some 0,some 1]) (ks:=[0]) (fD (aB (aM (aA 0) aJ) aF) T.bu) bY (aAQ (vD (fH T.jC (aB (aM (aZ (oO T) T.lU (aB (aA 1) (aB (bQ (aB (aA 0) aF)) aF))) aJ) aF)) (aA 2))) (ak (aA 0))) aF))))))
def aIX(T:Txt K mg t):cB P w K mg base (CX1 P w) 12 t.aHQ t.uR ["_law_script"] (spF K (bU mg) 1 aEi):=
 bF (k:=11) (f:=uR) T.aE4 aHc λ n _ _ _ _ _ _ _=>
  (aG (cT (fD (aB (rD T.zJ (aB aJ (aB (rC T.aB8 (aB (fH T.jC (aB (aA 0) aF)) (aB aJ aF))) aF))) aF) T.bu) (aj (ks:=[1]))
   (aG (b7 (i:=2) (gQ (aZ (tL T) T.m8 (aB (aA 0) (aB (aA 1) aF)))))
   (aG (b7 (i:=3) (gQ (aZ (uo T) T.o6 (aB (aA 2) (aB aJ aF)))))
   (aG (cT (fD (aB aJ aF) T.bu) (aj (ks:=[4]))
    (aG (b7 (i:=5) (gQ (aZ (dF T) T.cZ (aB (aA 3) aF))))
    (aL (dX (SW.st (aBK (kI (my (pK (aA 5) T.dO T.cC))) (wA (rn (aA 5) (aZ (zE T) T.uO (aB (aA 3) aF))))))
     (aL (bA oH))
     bT))))
   (aG (b7 (i:=6) (gQ (fJ aJ (aZ (cR T) T.cW (aB (aA 2) (aB aJ (aB aJ aF)))))))
   (aG (b7 (i:=7) (gQ (bQ (aB (aA 6) (aB (dh T.cC (aB (jw (N:=["_law_place"]) (js:=[none]) (ks:=[0]) (wI (aB aJ (aB (aA 6) aF)) T.bu) bY iH (bQ (aB aJ (aB (ak (aA 0)) aF)))) aF)) aF)))))
   (aG (b7 (i:=8) (gQ (bQ (aB (aA 6) (aB (dh T.cC (aB (jw (N:=["_law_place"]) (js:=[none]) (ks:=[0]) (fD (aB (sO (aA 6) aJ) aF) T.bu) bY iH (bQ (aB (ak (aA 0)) (aB (fJ (ak (aA 0)) aJ) aF)))) aF)) aF)))))
   (aL (dX (SW.st (aBK (rn (aZ (dF T) T.cZ (aB (aA 7) aF)) (aAR T.cC T.bu (aB aJ (aB (aA 6) aF)))) (wA (rn (aZ (dF T) T.cZ (aB (aA 8) aF)) (bQ (aB aJ (aB (sO (aA 6) aJ) aF)))))))
    (aL (bA oH))
    bT)))))))))
  (aL (bA (kY (yW (aZ (dF T) T.cZ (aB (bQ (aB aJ (aB (bQ aF) aF))) aF)) (bQ aF)) (kO (yW (aZ (dF T) T.cZ (aB (bQ (aB aJ (aB (bQ aF) aF))) aF)) (bQ (aB aJ aF))))))))
end
def aHW{K:zAA}{h:Heap}{mg:Str->Option Value}{tk_MOST_PLACES:Tok}{q_FewError:Addr}{q_NoWeb:Addr}{q_NoForest:Addr}(X:K.In h)(G:h.Ns zA8 mg)
  (h0:∃f d,Enr K "is_whole" nJ f d)
  (h1:∃f d,Enr K "is_many" pN f d)
  (h2:∃f d,Enr K "is_place" nM f d)
  (h3:∃f d,Enr K "is_pair" pM f d)
  (h4:∃f d,Enr K "is_rising" kj f d)
  (h5:∃f d,Enr K "are_rising_pairs" dq f d)
  (h6:∃f d,Enr K "are_ties" nO f d)
  (h7:∃f d,Enr K "is_web" sZ f d)
  (h8:∃f d,Enr K "check_web" lA f d)
  (h9:∃f d,Enr K "tie_of" sY f d)
  (h10:∃f d,Enr K "all_tied" nP f d)
  (h11:∃f d,Enr K "part_with" kZ f d)
  (h12:∃f d,Enr K "parts_among" jG f d)
  (h13:∃f d,Enr K "parts" wR f d)
  (h14:∃f d,Enr K "is_forest" km f d)
  (h15:∃f d,Enr K "check_forest" iK f d)
  (h16:∃f d,Enr K "hung" aAX f d)
  (h17:∃f d,Enr K "joined_up" kh f d)
  (h18:∃f d,Enr K "open_places" jH f d)
  (h19:∃f d,Enr K "_law_cell_at" jJ f d)
  (h20:∃f d,Enr K "_law_draw" nH f d)
  (h21:∃f d,Enr K "_law_forest" jg f d)
  (h22:∃f d,Enr K "_law_rows" nF f d)
  (h23:∃f d,Enr K "_law_few_rows" iJ f d)
  (h24:∃f d,Enr K "_law_open" nG f d)
  (h25:∃f d,Enr K "law" aDJ f d)
  (gM:zAt K zA8 "MOST_PLACES"=some (some (.int 60 tk_MOST_PLACES)))
  (y_FewError:zAt K zA8 "FewError"=some (some (.ref q_FewError)))
  (jb:nu K q_FewError)
  (y_NoWeb:zAt K zA8 "NoWeb"=some (some (.ref q_NoWeb)))
  (oA:nu K q_NoWeb)
  (y_NoForest:zAt K zA8 "NoForest"=some (some (.ref q_NoForest)))
  (iD:nu K q_NoForest)
  (z_all:zAt K zA8 "all"=some none)
  (z_bool:zAt K zA8 "bool"=some none)
  (z_int:zAt K zA8 "int"=some none)
  (z_isinstance:zAt K zA8 "isinstance"=some none)
  (z_len:zAt K zA8 "len"=some none)
  (z_list:zAt K zA8 "list"=some none)
  (z_max:zAt K zA8 "max"=some none)
  (z_min:zAt K zA8 "min"=some none)
  (z_range:zAt K zA8 "range"=some none)
  (z_set:zAt K zA8 "set"=some none)
  (z_sorted:zAt K zA8 "sorted"=some none)
  (z_tuple:zAt K zA8 "tuple"=some none):
  ∃t,Txt K mg t:=by
 obtain⟨f0,d0,F0,a0⟩:=dnr X G h0 ["thing"];obtain⟨f1,d1,F1,a1⟩:=dnr X G h1 ["thing"];obtain⟨f2,d2,F2,a2⟩:=dnr X G h2 ["many","thing"];obtain⟨f3,d3,F3,a3⟩:=dnr X G h3 ["many","thing"];obtain⟨f4,d4,F4,a4⟩:=dnr X G h4 ["things"];obtain⟨f5,d5,F5,a5⟩:=dnr X G h5 ["many","thing"];obtain⟨f6,d6,F6,a6⟩:=dnr X G h6 ["many","thing"];obtain⟨f7,d7,F7,a7⟩:=dnr X G h7 ["thing"];obtain⟨f8,d8,F8,a8⟩:=dnr X G h8 ["thing"];obtain⟨f9,d9,F9,a9⟩:=dnr X G h9 ["one","other"];obtain⟨f10,d10,F10,a10⟩:=dnr X G h10 ["web"];obtain⟨f11,d11,F11,a11⟩:=dnr X G h11 ["near","start"];obtain⟨f12,d12,F12,a12⟩:=dnr X G h12 ["near","places"];obtain⟨f13,d13,F13,a13⟩:=dnr X G h13 ["web"];obtain⟨f14,d14,F14,a14⟩:=dnr X G h14 ["web"];obtain⟨f15,d15,F15,a15⟩:=dnr X G h15 ["web"];obtain⟨f16,d16,F16,a16⟩:=dnr X G h16 ["web"];obtain⟨f17,d17,F17,a17⟩:=dnr X G h17 ["web","ends"];obtain⟨f18,d18,F18,a18⟩:=dnr X G h18 ["web"];obtain⟨f19,d19,F19,a19⟩:=dnr X G h19 ["_law_script","_law_k"];obtain⟨f20,d20,F20,a20⟩:=dnr X G h20 ["_law_cell","_law_k","_law_bound"];obtain⟨f21,d21,F21,a21⟩:=dnr X G h21 ["_law_cell","_law_most"];obtain⟨f22,d22,F22,a22⟩:=dnr X G h22 ["_law_web"];obtain⟨f23,d23,F23,a23⟩:=dnr X G h23 ["_law_web","_law_ends"];obtain⟨f24,d24,F24,a24⟩:=dnr X G h24 ["_law_web"];obtain⟨f25,d25,F25,a25⟩:=dnr X G h25 ["_law_script"];exact⟨⟨f0,_,f1,_,f2,_,f3,_,f4,_,f5,_,f6,_,f7,_,f8,_,f9,_,f10,_,f11,_,f12,_,f13,_,f14,_,f15,_,f16,_,f17,_,f18,_,f19,_,f20,_,f21,_,f22,_,f23,_,f24,_,f25,_,_,q_FewError,q_NoWeb,q_NoForest⟩,⟨F0,F1,F2,F3,F4,F5,F6,F7,F8,F9,F10,F11,F12,F13,F14,F15,F16,F17,F18,F19,F20,F21,F22,F23,F24,F25,zCE X G gM,⟨_,rfl⟩,zCE X G y_FewError,(by unfold bU;rw[zCE X G y_FewError]),jb,zCE X G y_NoWeb,(by unfold bU;rw[zCE X G y_NoWeb]),oA,zCE X G y_NoForest,(by unfold bU;rw[zCE X G y_NoForest]),iD,zAx X G z_all,zAx X G z_bool,zAx X G z_int,zAx X G z_isinstance,zAx X G z_len,zAx X G z_list,zAx X G z_max,zAx X G z_min,zAx X G z_range,zAx X G z_set,zAx X G z_sorted,zAx X G z_tuple⟩⟩
def aIz{l:zE7}{w:World}{K:zAA}{h:Heap}{mg:Str->Option Value}{fa:Addr}(X:K.In h)(G:h.Ns zA8 mg)(hfa:mg "law"=some (.ref fa))(ht:∃t,Txt K mg t):
  ∃fd:zAf,(∀(s:zAF) (v:Value),zEx s fd ⟨[v],[]⟩ [("_law_script",v)])/\∀base:Heap,K.In base->base.Ns zA8 mg->cB l.prog w K mg base (CX1 l.prog w) 12 fa fd ["_law_script"] (aBQ K):=by
 obtain⟨t,T⟩:=ht;have e:=hfa.symm.trans T.aE4.m;cases e;refine⟨t.uR,λ s v=>?_,λ base _ _=>(aIX T).imp (aGC aDy)⟩;obtain⟨oc,od,kV,doc,pm,an,cdv,ct,osl,e,lk,hcd⟩:=T.aE4.F.ex;rw[e];exact .of_eq rfl
def walk{l:zE7}{q:zAZ}{loose:List Str}{XP:(Str->Option Value)->Heap->Prop}{YP:World->Heap->Prop}{d:DefRec}{K:Params->zAA}(hn:l.most=some 63)(hdf:d.params.defaults=[])
  (hY:∀(w:World) (h:Heap),YP w h->(K w.params).In h)
  (F:∀(w:World) (mg:Str->Option Value) (fa:Addr) (h:Heap),(K w.params).In h->h.Ns zA8 mg->mg d.name=some (.ref fa)->
   ∃fd:zAf,(∀(s:zAF) (u:Value),zEx s fd ⟨[u],[]⟩ [("_law_script",u)])/\∀base:Heap,(K w.params).In base->base.Ns zA8 mg->cB l.prog w (K w.params) mg base (CX1 l.prog w) 12 fa fd ["_law_script"] (aBQ (K w.params))):
  zHC q loose XP YP l.row.toRowW d [] (λ f vs=>zGb f vs):=
 L2.aEq (n:=63) (k:=12) (x:="_law_script") (CX:=λ w=>CX1 l.prog w) (sp:=λ w=>aBQ (K w.params)) hn (by decide) hdf ⟨rfl,by decide,by decide⟩ hY F (λ _ _ a ns hl hO hS=>⟨a,ns,rfl,aHb hO hS,hl,λ _=>rfl⟩) λ _ _ _ _ _ ⟨_,_,_,_,_,_,_,_,_,_,_,_,_,z⟩=>z
end VL.My
open PySem PySem.W PyProof.Rows
set_option maxRecDepth 100000 in
set_option maxHeartbeats 0 in
theorem PySem.Challenge.cw_fewways_k35_open_places_holds : PySem.Challenge.rw_fewways_k35_open_places.Holds := by
 w_on; o_law; k_head; (case hw=>w_witness2)
 k_fill
 refine VL.My.walk (l:=PySem.Challenge.rw_fewways_k35_open_places) rfl rfl (fun w h Y=>PySem.W.kIn_of Y) ?F
 case F =>
  intro w mg fa h KX G hmg
  refine VL.My.aIz KX G hmg ?T
  case T =>
   refine' VL.My.aHW KX G (VL.enr ?a0 ?l0 ?c0 ?k0) (VL.enr ?a1 ?l1 ?c1 ?k1) (VL.enr ?a2 ?l2 ?c2 ?k2) (VL.enr ?a3 ?l3 ?c3 ?k3) (VL.enr ?a4 ?l4 ?c4 ?k4) (VL.enr ?a5 ?l5 ?c5 ?k5) (VL.enr ?a6 ?l6 ?c6 ?k6) (VL.enr ?a7 ?l7 ?c7 ?k7) (VL.enr ?a8 ?l8 ?c8 ?k8) (VL.enr ?a9 ?l9 ?c9 ?k9) (VL.enr ?a10 ?l10 ?c10 ?k10) (VL.enr ?a11 ?l11 ?c11 ?k11) (VL.enr ?a12 ?l12 ?c12 ?k12) (VL.enr ?a13 ?l13 ?c13 ?k13) (VL.enr ?a14 ?l14 ?c14 ?k14) (VL.enr ?a15 ?l15 ?c15 ?k15) (VL.enr ?a16 ?l16 ?c16 ?k16) (VL.enr ?a17 ?l17 ?c17 ?k17) (VL.enr ?a18 ?l18 ?c18 ?k18) (VL.enr ?a19 ?l19 ?c19 ?k19) (VL.enr ?a20 ?l20 ?c20 ?k20) (VL.enr ?a21 ?l21 ?c21 ?k21) (VL.enr ?a22 ?l22 ?c22 ?k22) (VL.enr ?a23 ?l23 ?c23 ?k23) (VL.enr ?a24 ?l24 ?c24 ?k24) (VL.enr ?a25 ?l25 ?c25 ?k25) ?gM ?y_FewError ?jb ?y_NoWeb ?oA ?y_NoForest ?iD ?z_all ?z_bool ?z_int ?z_isinstance ?z_len ?z_list ?z_max ?z_min ?z_range ?z_set ?z_sorted ?z_tuple
   (case y_FewError=>k_is); (case jb=>unfold L2.nu; k_exc)
   (case y_NoWeb=>k_is); (case oA=>unfold L2.nu; k_exc)
   (case y_NoForest=>k_is); (case iD=>unfold L2.nu; k_exc)
   any_goals k_is
