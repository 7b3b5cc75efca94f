import PyProof.Rows.All
import KE.KDictOf
import PyProof.DictWalks
import Wide.All
import OpenK.AllK
import Wide.FinOn
import Lean
import PyProof.EqAt
import PyProof.EqKinds
import PyProof.TupleCall
import KE.LcSums
import PySem.Challenge.RW_fewways_k32_fewest_ways_of_forests
open Array renaming length_toList->zBW,getD_eq_getD_getElem?->zEX,append_assoc->zFw,toList->zGu
open Array.Perm renaming refl->zFd
open Bool renaming and_eq_true->zAN,false_ne_true->zA3,not_eq_true'->zBI,eq_iff_iff->zBK,and_false->zCO,or_eq_true->zCX,and_true->zCl,and_assoc->zDg,false_eq_true->zEB,or_true->zHC
open Classical renaming byContradiction->zEP,propDecidable->zEZ,choose_spec->zEf,not_imp->zF2
open False renaming elim->zAK
open ForInStep renaming yield->zBa
open Function renaming comp_def->zDp
open Int renaming toNat_of_nonneg->zB0,emod_lt_of_pos->zCz,emod_nonneg->zD8,zero_add->zFo,toNat_natCast->zG2
open LawfulBEq renaming eq_of_beq->zE4
open List renaming length_map->zAB,getElem?_eq_getElem->zAC,mem_singleton->zAD,mem_cons_of_mem->zAF,size_toArray->zAH,mem_append_left->zAI,mem_cons_self->zAJ,getElem?_eq_some_iff->zAL,replicate->zAM,mem_append->zAO,map_cons->zAP,mem_map->zAS,mem_cons->zAT,getElem?_map->zAV,length_append->zAW,mem_append_right->zAY,map_append->zA0,length_cons->zA2,mem_filter->zA5,mem_of_getElem?->zAa,pairwise_cons->zAb,nodup_append->zAd,getD_eq_getElem?_getD->zAf,nodup_iff_pairwise_ne->zAg,nodup_cons->zAh,append_nil->zAj,all_eq_true->zAn,append_assoc->zAo,length_singleton->zAq,map_map->zAs,getElem?_set_ne->zAt,pairwise_iff_getElem->zAx,length_take->zBA,range->zBB,getElem?_set_self->zBD,filter_cons->zBF,lookup_cons->zBG,length_set->zBL,take_of_length_le->zBP,map_congr_left->zBQ,mem_of_mem_take->zBT,pairwise_map->zBU,getElem_of_mem->zBY,replicate_succ->zBZ,map_reverse->zB4,mem_reverse->zB5,filter_append->zB7,zip_cons_cons->zB8,drop_eq_getElem_cons->zBc,getElem?_append_left->zBd,filter_congr->zBh,length_nil->zBi,filterMap_cons->zBp,getElem?_replicate->zBq,mem_filterMap->zBx,length_filter_le->zCC,length_replicate->zCD,flatten_cons->zCF,getElem?_inj->zCG,reverse_cons->zCH,perm_ext_iff_of_nodup->zCI,mem_erase_of_ne->zCK,getElem_mem->zCQ,map_nil->zCU,getElem?_cons_succ->zCZ,getElem?_cons_zero->zC0,mem_range->zC5,countP_cons->zCb,getElem_map->zCc,getElem_toArray->zCf,foldl_cons->zCq,getElem?_append_right->zCu,append_of_mem->zCv,length_erase_of_mem->zDE,drop_length->zDN,not_mem_nil->zDO,filter_nil->zDY,getElem?_eq_none->zDZ,nil_append->zD0,of_mem_zip->zD1,isEmpty_toArray->zDd,drop_zero->zDj,filter_eq_self->zDq,getElem?_range->zDr,length_flatMap->zDs,length_reverse->zDt,all_cons->zED,lookup_append->zEE,ne_nil_of_mem->zEF,set_cons_succ->zEG,set_cons_zero->zEH,sum_cons->zEI,reverse_perm->zEN,take_add_one->zEO,length_drop->zEU,mem_flatMap->zEV,foldl->zFR,length_eq_zero_iff->zFW,length_pos_of_mem->zF3,range_succ_eq_map->zF4,all_map->zFg,concat_eq_append->zFh,eq_nil_or_concat->zFi,max?_eq_some_iff->zFj,filter_sublist->zFy,contains_cons->zGF,zip_nil_right->zGG,all_eq_false->zGT,take_sublist->zGU,zip_nil_left->zGV,append_inj'->zG3,flatMap_def->zG4,length_zip->zGf,max?->zGg,nodup_nil->zGm,any_cons->zGw,sum->zGx
open List.Pairwise renaming nil->zEg,imp_of_mem->zHI
open List.Perm renaming refl->zBk,swap->zER
open List.Sublist renaming refl->zDX
open List.cons renaming injEq->zEL
open Nat renaming le_refl->zAU,lt_of_lt_of_le->zA1,le_trans->zAe,zero_le->zAi,ne_of_lt->zAu,le_of_lt->zBV,lt_irrefl->zBb,lt_succ_self->zCg,le_max_right->zDQ,le_of_not_lt->zDR,le_max_left->zD9,min_self->zDa,pow_le_pow_right->zDk,sub_zero->zEW,le_succ->zEh,not_lt_zero->zEi,not_lt->zFX,mul_comm->zFp,ne_of_gt->zFq,succ_eq_add_one->zGH,lt_trichotomy->zG5,succ_min_succ->zG7,add_one_inj->zGn
open Nat.succ renaming inj->zG6
open Ne renaming symm->zDF
open Option renaming map_eq_some_iff->zC1,map_some->zDS,bind_some->zGI,getD_none->zGJ,none->zGy
open Option.some renaming inj->zAl
open Or renaming inr->zBH,inl->zB6
open Prod renaming fst->zEJ,snd->zE3,ext->zFY
open Prod.mk renaming injEq->zCa
open PyProof.Rows renaming step_dedup->zAz,IntsAre->zBE,slot_tuple_getitem->zBM,KeyOrd->zBn,seqObj->zBs,callWith_type1->zC3,SortSt->zCd,kindOf->zCe,SortKind->zCn,envOfC->zDf,AllBare->zDv,lt_int->zE6,failedOf->zF0,get?_update_seq->zF8,pendingOf->zFa,boot_range->zFz,sortedHeap->zGB,listUpdate_at->zGN,subscriptTail->zGQ,subscriptTail_builtinR->zGZ,entry_tuple_getitem->zGo,seqEpoch_at->zGq,args_tuple_getitem->zHB,Subscript_->zHL
open PyProof.Rows.IsTup renaming new->zE2
open PyProof.Rows.KeyOrd renaming kle_refl->zCV,kle_trans->zDH,kle_of_klt->zEC,kle_antisymm->zFf
open PySem renaming Shared->zAE,sizeLine->zAQ,wpAny_bind->zAR,starEach->zAX,Program->zAZ,wpAny_pure->zA7,mainGlobals->zA8,FuncData->zA9,Around->zAc,mem_of_lookup->zAk,compareOp->zAp,bootBuiltins->zAr,foldedSetIterable->zB3,binaryOp->zB9,Keyword->zBe,call_meets->zBr,wpAny_newObj_type->zBt,wpAny_truthy_bool->zBu,backTo->zBv,behindInMarks->zBy,sizeLine_eq->zBz,swapsWith->zCB,wpAny_mono->zCE,keywordEach->zCL,wpAny_loadPart'->zCM,wpAny_passesOwn->zCN,assignEach->zCR,attributeBase->zCS,wpAny_binaryOp_repeat_ref->zCW,typeIs_int->zCj,wpAny_loadPart_at->zCk,GenState->zCm,NameKind->zCw,cellsFrom->zDB,codeAny->zDC,sliceBounds->zDD,backToKw->zDK,wpAny_Call_Name_kw->zDL,Builtin->zD7,wpAny_holding->zDc,letOwnedTupleGo->zDz,wpAny_execs_nil->zEA,typeLookup->zEK,callerA->zET,BindsTo->zEe,slot_list_getitem->zEy,IsPart->zEz,Result->zFB,assign->zFO,codeAny_mono->zFP,wpAny_typeOf->zFQ,noFill_tuple_add->zFU,wpAny_call_entry->zFV,SetTable->zFZ,codeAny_builtin->zF6,excClassObj->zF7,getItem->zF9,relabel->zFb,richCompare->zFc,newFunctionEnv->zFu,recursionLimit->zFv,closureFor->zGA,sysModules->zGC,wpAny_comprehension_free->zGD,wpAny_getItem_list_slice->zGE,call->zGK,evalPart_none->zGL,holding->zGM,newList->zGO,seq_tuple_add->zGP,wpAny_callSpecial?_slot->zGR,seqSlot_of->zGX,richCompare_meets_room->zGY,Arguments->zG0,PassesOwn->zG8,concat_meets->zGc,inplaceOp->zGd,lastMarks->zGe,codeAny_call_builtin->zGj,wpAny_loadName_local->zGk,intKind->zGp,wpAny_field->zGr,wpAny_isSubtype_exc->zGs,wpAny_loadName_cell->zGt,Paired->zGz,Within->zHA,builtinsNs->zHN,wpAny_Name->zHO,wpAny_assign_Name->zHP,wpAny_pyIter_list->zHQ,wpAny_sequenceKey->zHR
open PySem.Around renaming under_plainId->zF1
open PySem.AutoSeq1 renaming sub_tuple_tuple->zEY
open PySem.Builtin.List renaming listTooLong->zBC
open PySem.Builtin.Range renaming rangeSize->zAy,rangeFitsLong->zBl,small->zCA
open PySem.Builtin.Slice renaming slicePlaces->zBw,sliceAdjust->zC9,sliceApplied->zDm,sliceFields->zHD,slicePartIndex->zHE
open PySem.Builtin.Tuple renaming tupleExact->zBO,tupleCompareSizes->zDT,tupleItemsOf->zDn,tupleTooMany->zDo,tupleHashOf->zHF,tupleIsExact->zHG
open PySem.Calls renaming Name_function_global->zE5,evalArgs_plain->zFe
open PySem.Data renaming seq->zGv
open PySem.F renaming plainAttrs_list->zBS,slot_int_rmul->zBm,slot_list_append->zCY,slot_list_extend->zC6,slot_tuple_mul->zCo,args_tuple_add_2->zCx,type_list_append->zCy,entry_tuple_add->zDA,slot_tuple_add->zDI,args_int_rmul_2->zDM,entry_int_rmul->zDV,slot_int_index->zDW,fills_int_mul->zDh,typeOf_object_class->zDi,args_tuple_mul_2->zEQ,entry_tuple_mul->zE0,type_list_extend->zE7,plain_list_iadd->zEj,slot_list_count->zEk,entry_list_iadd->zFm,slot_gs_get->zFn,slot_list_iadd->zFx,args_list_extend_2->zGS,entry_list_extend->zG1,slot_tuple_rmul->zGl
open PySem.Heap renaming get?_push_of_some->zAG,lt_size->zA4,get?_push_size->zA6,size_push->zC4,get?_update_ne->zCp,SameBut->zHH
open PySem.Heap.IsSliceOf renaming new->zE1
open PySem.NameKind renaming free->zB1,cell->zC7
open PySem.Obj renaming mapSeq->zCJ
open PySem.Operator renaming Add->zDw
open PySem.Paired renaming length->zGh
open PySem.SeqAt renaming EqAt->zBg
open PySem.SeqAt.EqAt renaming of_refs->zBo,same->zCP,int_int->zD3,int_str->zD4,str_int->zD5,bool_tuple->zE8,list_tuple->zE9,none_tuple->zEa,tuple_bool->zEb,tuple_list->zEc,tuple_none->zEd,bool_bool->zEl,bool_list->zEm,bool_none->zEn,int_tuple->zEo,list_bool->zEp,list_none->zEq,none_bool->zEr,none_list->zEs,str_tuple->zEt,tuple_int->zEu,tuple_str->zEv,bool_int->zFC,bool_str->zFD,int_bool->zFE,int_list->zFF,int_none->zFG,list_int->zFH,list_str->zFI,none_int->zFJ,none_str->zFK,str_bool->zFL,str_list->zFM,str_none->zFN,str_str->zFT
open PySem.SeqAt.RcAt renaming lists_lengths->zCr,tuples->zDe,lists->zDu
open PySem.Value renaming none->zBR,ref->zBX,type->zCT,builtin->zDJ,int->zDU,bool->zD6,notImplemented->zDb,isInt->zFt,str->zGb,float->zHM
open PySem.W renaming Frag->zAA,nsIn->zAm,mg_none_of->zAv,kia_one->zAw,findIn->zBJ,emptyDict->zBN,mg_of->zB2,instObj->zBf,fnOf->zBj,keepIn->zC2,looks_findIn->zC8,hideAll->zCh,hideAll_get->zCi,codeIn->zCs,kitOne->zCt,kas_rev->zDP,lookIn->zD2,Looks->zDl,kitx_dict->zDx,methodObj->zDy,plainGet->zEM,OpenLaw->zES,cellsFrom_some->zFA,KasT->zFS,plainGet_of->zF5,kitx_tuple->zFk,of_hideAll->zFl,kas_place->zFr,kitx_list->zFs,InstAt->zGW,WalkO->zG9,excIn->zGa,isFn->zGi
open PySem.W.Looks renaming ld->zHJ,now->zHK
open Sum renaming inl->zEw,inr->zEx
open True renaming intro->zDG
noncomputable section
namespace PySem.W.Fast
def tw14161082016201705228:=0
def tw413841183151114764:=0
def tw11280216262090283468:=0
def tw8680378319772345676:=0
def tw10086453639939950828:=0
def tw3699383999704035532:=0
def tw17988292305502999756:=0
def tw2724861124845327532:=0
def tw10824826401429006316:=0
def tw17246334467419948597:=0
def tw17396143665676507669:=0
def tw3493749291155008981:=0
def tw9196959303384351765:=0
def tw38916957453087701:=0
def tw1048635795097429781:=0
def tw11306462478666696437:=0
def tw17146858700437106142:=0
def tw8939101478531749150:=0
def tw3446025865404436382:=0
def tw5448434133574317918:=0
def tw11518497646414443102:=0
def tw16797523487186475303:=0
def tw15076225289480875271:=0
def tw17000715777593852039:=0
def tw15279472494583482471:=0
def tw16292953030984407047:=0
def tw12091641143365872615:=0
def tw15636818448685276871:=0
def tw6721679240691327655:=0
def tw17168508000472087207:=0
def tw10523698408981019239:=0
def tw7953880916639223399:=0
def tw16016397226914686696:=0
def tw2470469492124910952:=0
def tw8351112995099595944:=0
def tw11607954099385038984:=0
def tw4275754561086130312:=0
def tw3276198165805376488:=0
def tw11247535167123931080:=0
def tw1428035788593789585:=0
def tw14843728281511190129:=0
def tw4420164129165762865:=0
def tw14465816200298477777:=0
def tw1005460800767615953:=0
def tw10415555927983957306:=0
def tw12428883805676720314:=0
def tw16310471191521846202:=0
def tw13021027281249153818:=0
def tw6263562996440012570:=0
def tw15785953348500581114:=0
def tw17875347755668951770:=0
def tw5460382499020071514:=0
def tw1319216714012381786:=0
def tw4078533738460255491:=0
def tw8876349207809071203:=0
def tw7520231274566813763:=0
def tw7529184246455178051:=0
def tw17420494215000973987:=0
def tw7936521303716773539:=0
def tw4099115837752691203:=0
def tw11651976158245911011:=0
def tw2920208157910255011:=0
def tw8407394646873782627:=0
def tw11977119069195994435:=0
def tw14964319073322006244:=0
def tw17189679870033322372:=0
def tw15688542861838925060:=0
def tw14149864682498172036:=0
def tw8161620417055847428:=0
def tw13212251675720821700:=0
def tw18051097897770941037:=0
def tw18034981192261755373:=0
def tw16330587408578131405:=0
def tw7882589797223397517:=0
def tw9948067267577876365:=0
def tw4095223619516460909:=0
def tw9809028718076816886:=0
def tw16295212738197550422:=0
def tw14765357479571988758:=0
def tw12524470538489341142:=0
def tw16581273612589626550:=0
def tw8436482776556581014:=0
def tw1165468332030261398:=0
def tw181841842295483382:=0
def tw18073447754885996502:=0
def tw12206811146247614390:=0
def tw5210847490234080982:=0
def tw1170322919013792438:=0
def tw10770688818195178687:=0
def tw17733712097466535071:=0
def tw13707112718835533663:=0
def tw8274208824716753567:=0
def tw1503778232534151711:=0
def tw5437875472161358656:=0
def tw17292669254188385056:=0
def tw11566914558387617472:=0
def tw17510299931867680352:=0
def tw12961296191242339808:=0
def tw14752813916893002208:=0
def tw13233528578929692064:=0
def tw7917260126023706880:=0
def tw1375668780070386944:=0
def tw1641292904743483616:=0
def tw14994687865015602368:=0
def tw13698296975650634345:=0
def tw3759551046959996489:=0
def tw30748475696108041:=0
def tw12784368178309229042:=0
def tw15551064357131028754:=0
def tw11141456951083331666:=0
def tw8305385638857534546:=0
def tw14685572078099607410:=0
def tw561784974670818395:=0
def tw3557945297846974139:=0
def tw8016945385987190363:=0
def tw13541201947061007899:=0
def tw17182015892178884955:=0
def tw18152024506787192123:=0
def tw3812260499709227932:=0
def tw3214357478095661884:=0
def tw14133061887240526556:=0
def tw14421144826007471772:=0
def tw2123569845333495388:=0
def tw13331791253764350524:=0
def tw15455569772967238076:=0
def tw2811383300925448540:=0
def tw18124384563160281308:=0
def tw5920964918303809724:=0
def tw11486677891203208284:=0
def tw1633682754894412796:=0
def tw13794623136303894181:=0
def tw9354206834435818821:=0
def tw11192268454892538117:=0
def tw13586241683284988965:=0
def tw9708573933174714277:=0
def tw4178795811831590821:=0
def tw13271523399497358766:=0
def tw16105136019216490478:=0
def tw11641391046823071342:=0
def tw9538259407603597559:=0
def tw15567860314568432855:=0
def tw1096065607470173271:=0
def tw3121273924351596471:=0
def tw2293719442613113559:=0
def tw1423832604709783191:=0
def tw14079183777628868151:=0
def tw10899792617839509847:=0
def tw8342788406806461144:=0
def tw7389148133932579256:=0
def tw321903205434727864:=0
def tw10653690859173120152:=0
def tw15519738474253166616:=0
def tw12519944298154133464:=0
def tw9917846408040116929:=0
def tw13559317067539815905:=0
def tw6208205463555321249:=0
def tw16749110397154734401:=0
def tw1239757830954536225:=0
def tw7535459919127962849:=0
def tw16729761508798132417:=0
def tw16158374471177156801:=0
def tw6650599520206215297:=0
def tw8685053034552499265:=0
def tw13489911093732834209:=0
def tw16732211566616080193:=0
def tw11999910701960218954:=0
def tw15581298239296478506:=0
def tw18165117527617309834:=0
def tw13157329324501810282:=0
def tw3642779519403118602:=0
def tw11368348406596100842:=0
def tw812665703828509354:=0
def tw3486323178824305811:=0
def tw9664209819024676883:=0
def tw850092543434284051:=0
def tw3232482656778239859:=0
def tw6774548996576208691:=0
def tw2902364625631844883:=0
def tw3353518244469824947:=0
def tw11269282198473071220:=0
def tw10887745255336816212:=0
def tw1017833837671204340:=0
def tw1270035069530626388:=0
def tw7777159934437349588:=0
def tw14895766375434009716:=0
def tw16606974193754431069:=0
def tw15246818045952352797:=0
def tw764857715801667069:=0
def tw2373790045663254813:=0
def tw17824318763006077053:=0
def tw11859103598742871101:=0
def tw3255550722871168989:=0
def tw2274946884916143037:=0
def tw8927992923518022557:=0
def tw5157604747999336317:=0
def tw4888662631598266694:=0
def tw1404667900883026854:=0
def tw9159284760092603014:=0
def tw1884552879701857862:=0
def tw14145909424576310854:=0
def tw2204078838877741327:=0
def tw16448460311502428047:=0
def tw4083949318903953295:=0
def tw1273020363701566063:=0
def tw2267500300185341423:=0
def tw11242673843704195471:=0
def tw6213760073838814511:=0
def tw9743519263234694000:=0
def tw6922643108691679856:=0
def tw2025878689540008336:=0
def tw12953713468058507865:=0
def tw7641819399897671097:=0
def tw18397401831078188249:=0
def tw6887851275383436377:=0
def tw16035896961497897881:=0
def tw2419841682670341017:=0
def tw14309831789776793058:=0
def tw510832033630776738:=0
def tw1768115773509713282:=0
def tw10534168698746860866:=0
def tw12349356842296247490:=0
def tw1849799337928880322:=0
def tw10656152673677656098:=0
def tw5618390900710134754:=0
def tw9565579931166342114:=0
def tw13075178636176959330:=0
def tw11588287133429474018:=0
def tw10994544956417436322:=0
def tw689706627810127394:=0
def tw15485676823976044555:=0
def tw15483031637391128523:=0
def tw14593961627429105355:=0
def tw12130297086383736395:=0
def tw17490805249397767691:=0
def tw2130448461315172779:=0
def tw3195924517952437579:=0
def tw8339817543270013227:=0
def tw959576684812585976:=0
def tw5320866782254146750:=0
end PySem.W.Fast
abbrev gX:=List (Int×Int)
abbrev gV:=List (List Int)
abbrev hZ:=List (PySem.Addr×PySem.Obj)
set_option bootstrap.genMatcherCode false
set_option compiler.extract_closed false
set_option Elab.async false
set_option linter.all false
set_option maxRecDepth 100000
namespace L2
open PySem PySem.Spec PyProof.Rows
abbrev Key:=Sum Int Str
def aGq:Key->Value->Bool
 | .inl k,v=>zFt k v
 | .inr x,v=>Value.isStrOf x v
def aJk(w:World):Key->Int
 | .inl k=>hashInt k
 | .inr x=>hashStr w x
def bj:∀{k:Key} {v:Value},aGq k v=true->(∃i t,k=zEw i/\v=zDU i t)\/(∃x t,k=zEx x/\v=zGb x t)
 | .inl i,v,h=>by
  obtain⟨t,e⟩:=Value.isInt_shape (k:=i) (v:=v) h;exact .inl ⟨i,t,rfl,e⟩
 | .inr x,v,h=>by
  obtain⟨t,e⟩:=Value.isStrOf_shape (x:=x) (v:=v) h;exact .inr ⟨x,t,rfl,e⟩
def aIF(a b:Int):decide ((zEw a:Key)=zEw b)=(a==b):=by
 by_cases e:a=b
 .subst e;simp
 .have h:¬(zEw a:Key)=zEw b:=λ q=>e (Sum.inl.inj q)
  rw[decide_eq_false h];exact(beq_eq_false_iff_ne.mpr e).symm
def aIC(a b:Str):decide ((zEx a:Key)=zEx b)=decide (a=b):=by
 by_cases e:a=b
 .subst e;simp
 .have h:¬(zEx a:Key)=zEx b:=λ q=>e (Sum.inr.inj q)
  rw[decide_eq_false h,decide_eq_false e]
def aIE(a:Int)(b:Str):decide ((zEw a:Key)=zEx b)=false:=decide_eq_false (λ q=>nomatch q)
def aID(a:Str)(b:Int):decide ((zEx a:Key)=zEw b)=false:=decide_eq_false (λ q=>nomatch q)
def xQ(prog:zAZ)(w:World):PySem.KeyKind prog w Key where
 is:=aGq
 hash:=aJk w
 inj:=λ v a b ha hb=>by
  rcases bj ha with ⟨i,t,rfl,rfl⟩|⟨x,t,rfl,rfl⟩
  .rcases bj hb with ⟨j,u,rfl,e⟩|⟨y,u,rfl,e⟩
   .injection e with e1 _;rw[e1]
   .exact nomatch e
  .rcases bj hb with ⟨j,u,rfl,e⟩|⟨y,u,rfl,e⟩
   .exact nomatch e
   .injection e with e1 _;rw[e1]
 byValue:=λ k v h=>by
  rcases bj h with ⟨i,t,rfl,rfl⟩|⟨x,t,rfl,rfl⟩<;>rfl
 pyHash:=λ hv h=>by
  rcases bj hv with ⟨i,t,rfl,rfl⟩|⟨x,t,rfl,rfl⟩
  .exact wpAny_pyHash_int h
  .exact wpAny_pyHash_str h
 eqBool:=λ hu hv h=>by
  rcases bj hu with ⟨i,t,rfl,rfl⟩|⟨x,t,rfl,rfl⟩
  .rcases bj hv with ⟨j,u,rfl,rfl⟩|⟨y,u,rfl,rfl⟩
   .rw[aIF]at h;exact wpAny_eqBool_int h
   .rw[aIE]at h;exact zD4 i t y u _ _ _ _ h
  .rcases bj hv with ⟨j,u,rfl,rfl⟩|⟨y,u,rfl,rfl⟩
   .rw[aID]at h;exact zD5 x t j u _ _ _ _ h
   .rw[aIC]at h;exact wpAny_eqBool_str h
 «strs»:=λ k x t v h=>by
  rcases bj h with ⟨i,u,rfl,e⟩|⟨y,u,rfl,e⟩
  .exact nomatch e
  .injection e with e1 _
   subst e1;cases v<;>rfl
inductive V where
 |non|bl (b:Bool)|int (i:Int)|str (x:Str)|byt (b:Array UInt8)|flt (b:UInt64)|ref (a:Addr)|ty (n:String)
 deriving DecidableEq
def RelV:V->Value->Prop
 | .non,u=>u=zBR
 | .bl b,u=>u=zD6 b
 | .int i,u=>∃t,u=zDU i t
 | .str x,u=>∃t,u=zGb x t
 | .byt b,u=>∃t,u=Value.bytes b t
 | .flt b,u=>∃t,u=zHM b t
 | .ref a,u=>u=zBX a
 | .ty n,u=>u=zCT n
abbrev Vals:List V->List Value->Prop:=zGz RelV
theorem Vals.length(r:Vals xs us):xs.length=us.length:=zGh r
theorem Vals.get:∀{xs:List V} {us:List Value} {i:Nat} {x:V},Vals xs us->xs[i]? =some x->∃u,us[i]? =some u/\RelV x u
 |_,_,_,_,.nil,e=>by simp at e
 |_,_,0,_,.cons r _,e=>by simp at e;subst e;exact⟨_,rfl,r⟩
 |_,_,i+1,x,.cons _ t,e=>by
  obtain⟨u,h1,h2⟩:=Vals.get (i:=i) (x:=x) t (by simpa using e);exact⟨u,by simpa using h1,h2⟩
theorem Vals.append:∀{xs ys:List V} {us ws:List Value},Vals xs us->Vals ys ws->Vals (xs++ys) (us++ws)
 |_,_,_,_,.nil,s=>s
 |_,_,_,_,.cons r t,s=>.cons r (Vals.append t s)
theorem Vals.take:∀{xs:List V} {us:List Value} (n:Nat),Vals xs us->Vals (xs.take n) (us.take n)
 |_,_,0,_=>.nil
 |_,_,_+1,.nil=>.nil
 |_,_,n+1,.cons r t=>.cons r (Vals.take n t)
theorem Vals.drop:∀{xs:List V} {us:List Value} (n:Nat),Vals xs us->Vals (xs.drop n) (us.drop n)
 |_,_,0,r=>r
 |_,_,_+1,.nil=>.nil
 |_,_,n+1,.cons _ t=>Vals.drop n t
def aC5:Option V->Option Value->Prop
 |some v,some u=>RelV v u
 |none,none=>True
 |_,_=>False
def KV{κ:Type}:List (κ×V)->List (κ×Value)->Prop:=zGz λ(p:κ×V) (q:κ×Value)=>p.1=q.1/\RelV p.2 q.2
def kV:Key->V
 | .inl i=>.int i
 | .inr x=>.str x
inductive HO where
 |lst (xs:List V)
 |tup (xs:List V)
 |dK (kvs:List (Key×V))|dT (kvs:List (List Key×V))
 |set (S:Int->Bool) (n:Nat)
 |ins (C dx:Addr) (fs:List (Str×V))
 |own (x:Addr)
 |xd (fs:List (Str×V))
 |met (f x:Addr)
 |rng (lo hi:Int)
 |frz (o:Obj) (u:HO)
 |tbl (ps:Array Value)
 |ext (φ:Heap->Prop)
abbrev Hp:=Addr->Option HO
def upd(H:Hp)(a:Addr)(o:HO):Hp:=λ b=>if b=a then some o else H b
def aq:upd H a o a=some o:=by unfold upd;rw[if_pos rfl]
def bK(h:b≠a):upd H a o b=H b:=by unfold upd;rw[if_neg h]
def fV{H:Hp}{a b:Addr}{o:HO}(h:H a=some o)(h':H b=none):a≠b:=by
 intro e;subst e;rw[h]at h';cases h'
def NoD(h:Heap)(a:Addr):Prop:=∀o,h.get? a=some o->o.dict=none
theorem NoD.push(h:Heap){o:Obj}(hl:o.isFreed=false:=by rfl)(hd:o.dict=none:=by rfl):NoD (h.push o) h.objs.size:=λ u e=>by rw[zA6 _ hl]at e;cases e;exact hd
def NoD.keep{h h':Heap}{a:Addr}{o:Obj}(n:NoD h a)(e:h.get? a=some o)(e':h'.get? a=some o):NoD h' a:=λ u q=>by rw[e']at q;cases q;exact n o e
section
variable(P:zAZ)(w:World)
def dj(H:Hp)(h:Heap)(a:Addr):HO->Prop
 | .lst xs=>xs.length<=zAQ/\∃(its:List Value) (n:Nat),Vals xs its/\h.get? a=some {cls:=.type "list",data:=.seq its.toArray n}
 | .tup xs=>(xs.length<=zAQ/\NoD h a)/\∃its:List Value,Vals xs its/\IsTup h a its.toArray
 | .dK kvs=>kvs.length<=zAQ/\(a==zGC)=false/\∃vs,KV kvs vs/\h.DictOf (xQ P w) a vs
 | .dT kvs=>kvs.length<=zAQ/\(a==zGC)=false/\∃xs:List (List Key×Addr×Value),
   zGz (λ(p:List Key×V) (q:List Key×Addr×Value)=>p.1=q.1/\H q.2.1=some (.tup (p.1.map kV))/\RelV p.2 q.2.2) kvs xs/\
   ∃o es ep,h.get? a=some o/\o.ExactDict/\o.data= .dict es ep/\es.toList=xs.map (entryOfKey (tupleKind (xQ P w)))/\(xs.map (·.1)).Nodup
 | .set S n=>h.SetOf (zGp P w) a S n
 | .ins C dx fs=>H dx=some (.own a)/\fs.length<=1000/\dx≠a/\h.get? a=some (zBf C dx)/\
   ∃mA,h.Ns1 dx mA/\(∀f,aC5 (fs.lookup f) (mA f))/\zHA mA (fs.map (·.1))
 | .own _=>∃o,h.get? a=some o
 | .xd fs=>∃mA,h.Ns1 a mA/\∀f,aC5 (fs.lookup f) (mA f)
 | .rng lo hi=>∃t u v,h.get? a=some {cls:=.type "range",data:=.fields #[.int lo t,.int hi u,.int 1 v]}
 | .frz o u=>h.get? a=some o/\dj H h a u
 | .tbl ps=>h.get? a=some {cls:=.none,data:=.fields ps}
 | .met f x=>h.get? a=some (zDy (.ref f) (.ref x))
 | .ext φ=>φ h/\(∃o,h.get? a=some o)/\∀h1 h2:Heap,φ h1->(∀o,h1.get? a=some o->h2.get? a=some o)->φ h2
def HOk(H:Hp)(h:Heap):Prop:=∀a o,H a=some o->dj P w H h a o
end
section
variable{P:zAZ}{w:World}{H H':Hp}{h h':Heap}{a:Addr}{o:HO}
theorem dj.lt(x:dj P w H h a o):a<h.objs.size:=by
 cases o with
 |lst xs=>obtain⟨_,_,_,_,e⟩:=x;exact zA4 e
 |tup xs=>obtain⟨_,_,_,p⟩:=x;exact p.lt
 |dK kvs=>obtain⟨_,_,_,_,o,_,_,e,_⟩:=x;exact zA4 e
 |dT kvs=>obtain⟨_,_,_,_,o,_,_,e,_⟩:=x;exact zA4 e
 |set S n=>obtain⟨o,_,_,_,e,_⟩:=x;exact zA4 e
 |ins C dx fs=>obtain⟨_,_,_,e,_⟩:=x;exact zA4 e
 |own y=>obtain⟨_,e⟩:=x;exact zA4 e
 |xd fs=>obtain⟨_,⟨_,_,_,e,_⟩,_⟩:=x;exact zA4 e
 |rng lo hi=>obtain⟨_,_,_,e⟩:=x;exact zA4 e
 |frz ob u=>obtain⟨e,_⟩:=x;exact zA4 e
 |tbl ps=>exact zA4 (show h.get? a=some _ from x)
 |met f y=>exact zA4 (show h.get? a=some _ from x)
 |ext φ=>obtain⟨_,⟨_,e⟩,_⟩:=x;exact zA4 e
theorem Paired.mapP:∀{l₁:List α} {l₂:List β},zGz F l₁ l₂->(∀a b,F a b->G a b)->zGz G l₁ l₂
 |_,_,.nil,_=>.nil
 |_,_,.cons r t,f=>.cons (f _ _ r) (Paired.mapP t f)
def dj.stay(x:dj P w H h a o)(k:∀b u,(b=a\/H b=some (.own a))->h.get? b=some u->h'.get? b=some u)
  (ho:∀b,H b=some (.own a)->H' b=some (.own a))(ht:∀b xs,H b=some (.tup xs)->H' b=some (.tup xs)):dj P w H' h' a o:=by
 induction o with
 |lst xs=>obtain⟨z,its,n,r,e⟩:=x;exact⟨z,its,n,r,k _ _ (.inl rfl) e⟩
 |tup xs=>obtain⟨z,its,r,ob,e,c⟩:=x;exact⟨⟨z.1,z.2.keep e (k _ _ (.inl rfl) e)⟩,its,r,ob,k _ _ (.inl rfl) e,c⟩
 |dK kvs=>obtain⟨z,y,vs,r,ob,es,ep,e,c⟩:=x;exact⟨z,y,vs,r,ob,es,ep,k _ _ (.inl rfl) e,c⟩
 |dT kvs=>
  obtain⟨z,y,xs,r,ob,es,ep,e,c⟩:=x;exact⟨z,y,xs,Paired.mapP r λ p q z=>⟨z.1,ht _ _ z.2.1,z.2.2⟩,ob,es,ep,k _ _ (.inl rfl) e,c⟩
 |set S n=>obtain⟨ob,es,ep,t,e,c⟩:=x;exact⟨ob,es,ep,t,k _ _ (.inl rfl) e,c⟩
 |ins C dx fs=>
  obtain⟨d,z,ne,e,mA,⟨od,es,ep,e2,c⟩,r⟩:=x;exact⟨ho _ d,z,ne,k _ _ (.inl rfl) e,mA,⟨od,es,ep,k _ _ (.inr d) e2,c⟩,r⟩
 |own y=>obtain⟨ob,e⟩:=x;exact⟨ob,k _ _ (.inl rfl) e⟩
 |xd fs=>obtain⟨mA,⟨od,es,ep,e,c⟩,r⟩:=x;exact⟨mA,⟨od,es,ep,k _ _ (.inl rfl) e,c⟩,r⟩
 |rng lo hi=>obtain⟨t,u,v,e⟩:=x;exact⟨t,u,v,k _ _ (.inl rfl) e⟩
 |frz ob u ih=>obtain⟨e,q⟩:=x;exact⟨k _ _ (.inl rfl) e,ih q⟩
 |tbl ps=>
  have e:h.get? a=some {cls:=.none,data:=.fields ps}:=x;show h'.get? a=some {cls:=.none,data:=.fields ps};exact k a _ (.inl rfl) e
 |met f y=>
  have e:h.get? a=some (zDy (.ref f) (.ref y)):=x;show h'.get? a=some (zDy (.ref f) (.ref y));exact k a _ (.inl rfl) e
 |ext φ=>obtain⟨p,⟨o,e⟩,st⟩:=x;exact⟨st _ _ p λ o q=>k _ _ (.inl rfl) q,⟨o,k _ _ (.inl rfl) e⟩,st⟩
theorem HOk.lt(x:HOk P w H h)(e:H a=some o):a<h.objs.size:=(x a o e).lt
def HOk.fresh(x:HOk P w H h)(e:h.objs.size<=a):H a=none:=by
 cases q:H a with
 |none=>rfl
 |some u=>exact absurd (zA1 (x.lt q) e) (zBb _)
def HOk.kept(x:HOk P w H h)(k:∀b u,h.get? b=some u->h'.get? b=some u):HOk P w H h':=λ a o e=>
 (x a o e).stay (λ b u _ q=>k b u q) (λ _ q=>q) λ _ _ q=>q
def HOk.laid(x:HOk P w H h)(k:∀b u,h.get? b=some u->h'.get? b=some u)(hp:h.objs.size<=a)(new:dj P w (upd H a o) h' a o):HOk P w (upd H a o) h':=λ b u e=>by
 have hn:=x.fresh hp;by_cases hb:b=a
 .subst hb;rw[aq]at e;cases e;exact new
 .rw[bK hb]at e
  exact(x b u e).stay (λ c v _ q=>k c v q) (λ c q=>by rw[bK (fV q hn)];exact q) λ c xs q=>by rw[bK (fV q hn)];exact q
end
def Rd(H:Hp)(a:Addr)(u:HO):Prop:=H a=some u\/∃o,H a=some (.frz o u)
def Rd.ok(r:Rd H a u)(x:HOk P w H h):dj P w H h a u:=by
 rcases r with r|⟨o,r⟩
 .exact x a u r
 .obtain⟨_,q⟩:=x a _ r
  exact q
def Mut:Option HO->Prop
 |some (.lst _)=>True
 |some (.dK _)=>True
 |some (.dT _)=>True
 |some (.set _ _)=>True
 |some (.ins _ _ _)=>True
 |some (.ext _)=>True
 |_=>False
section
variable{P:zAZ}{w:World}{H:Hp}{h h':Heap}{x e:Addr}{o':HO}
def HOk.write(ok:HOk P w H h)(mu:Mut (H x))(he:e=x\/H e=some (.own x))(k:∀b u,b≠e->h.get? b=some u->h'.get? b=some u)(heo:∃u,h'.get? e=some u)
  (new:dj P w (upd H x o') h' x o'):HOk P w (upd H x o') h':=λ b u q=>by
 have nown:∀c y,H c=some (.own y)->c≠x:=λ c y r z=>by subst z;rw[r]at mu;exact mu
 have ntup:∀c xs,H c=some (.tup xs)->c≠x:=λ c xs r z=>by subst z;rw[r]at mu;exact mu
 by_cases hb:b=x
 .subst hb;rw[aq]at q;cases q;exact new
 .rw[bK hb]at q
  by_cases hbe:b=e
  .have q':H b=some (.own x):=by
    rcases he with z|z
    .exact absurd (hbe.trans z) hb
    .rw[hbe];exact z
   rw[q]at q';cases q';obtain⟨v,hv⟩:=heo;exact⟨v,by rw[hbe];exact hv⟩
  .refine(ok b u q).stay (λ c v hc r=>k c v ?_ r) (λ c r=>by rw[bK (nown c b r)];exact r) λ c xs r=>by rw[bK (ntup c xs r)];exact r
   rcases hc with rfl|hc
   .exact hbe
   .rintro rfl
    rcases he with z|z
    .exact nown c b hc z
    .rw[hc]at z;cases z;exact hb rfl
end
structure Un(fs ex:List Addr)(H H':Hp)(h h':Heap):Prop where
 keep:∀b o,h.get? b=some o->H b=none->b∉fs->b∉ex->h'.get? b=some o
 slot:∀b o,h.get? b=some o->H b=none->b∈fs->b∉ex->∃sl,h'.get? b=some {o with slots:=sl}
 free:∀b o,h.get? b=some o->H b=none->b∉ex->H' b=none
 there:∀b o,h.get? b=some o->b∉ex->∃o',h'.get? b=some o'
 tups:∀b xs,H b=some (.tup xs)->H' b=some (.tup xs)
 frzs:∀b o u,H b=some (.frz o u)->H' b=some (.frz o u)
 tbls:∀b ps,H b=some (.tbl ps)->∃more,H' b=some (.tbl (ps++more))
section
variable{fs ex:List Addr}{H H1:Hp}{h h1 h':Heap}{a x e:Addr}{o:HO}
def Un.any(u:Un fs ex H H1 h h1)(q:h.get? b=some ob)(n:H b=none)(hx:b∉ex):∃sl,h1.get? b=some {ob with slots:=sl}:=by
 by_cases hb:b∈fs
 .exact u.slot b ob q n hb hx
 .exact⟨ob.slots,u.keep b ob q n hb hx⟩
def Un.kept(k:∀b u,h.get? b=some u->h'.get? b=some u):Un fs ex H H h h':=
 ⟨λ b ob q _ _ _=>k b ob q,λ b ob q _ _ _=>⟨ob.slots,k b ob q⟩,λ _ _ _ n _=>n,λ b ob q _=>⟨ob,k b ob q⟩,λ _ _ q=>q,λ _ _ _ q=>q,λ _ ps q=>⟨#[],by rw[q];simp⟩⟩
def Un.refl:Un fs ex H H h h:=Un.kept λ _ _ q=>q
def Un.laid(k:∀b u,h.get? b=some u->h'.get? b=some u)(hp:h.objs.size<=a)(hn:H a=none):Un fs ex H (upd H a o) h h' where
 keep:=λ b u q _ _ _=>k b u q
 slot:=λ b u q _ _ _=>⟨u.slots,k b u q⟩
 free:=λ b u q n _=>by rw[bK (zAu (zA1 (zA4 q) hp))];exact n
 there:=λ b u q _=>⟨u,k b u q⟩
 tups:=λ b xs q=>by rw[bK (fV q hn)];exact q
 frzs:=λ b u xs q=>by rw[bK (fV q hn)];exact q
 tbls:=λ b ps q=>⟨#[],by rw[bK (fV q hn),q];simp⟩
def Un.write(mu:Mut (H x))(he:e=x\/H e=some (.own x))(k:∀b u,b≠e->h.get? b=some u->h'.get? b=some u)(heo:∃u,h'.get? e=some u):Un fs ex H (upd H x o) h h':=by
 have hx:∀b,H b=none->b≠x:=λ b n z=>by subst z;rw[n]at mu;exact mu
 have hb:∀b,H b=none->b≠e:=λ b n z=>by
  subst z;rcases he with r|r
  .exact hx b n r
  .rw[n]at r;cases r
 have hm:∀b u,H b=some u->¬Mut (some u)->b≠x:=λ b u q nm z=>by subst z;rw[q]at mu;exact nm mu
 refine⟨λ b u q n _ _=>k b u (hb b n) q,λ b u q n _ _=>⟨u.slots,k b u (hb b n) q⟩,λ b u q n _=>by rw[bK (hx b n)];exact n,λ b u q _=>?_,
  λ b xs q=>by rw[bK (hm b _ q λ z=>z)];exact q,λ b u xs q=>by rw[bK (hm b _ q λ z=>z)];exact q,λ b ps q=>⟨#[],by rw[bK (hm b _ q λ z=>z),q];simp⟩⟩
 by_cases hbe:b=e
 .subst hbe;exact heo
 .exact⟨u,k b u hbe q⟩
end
def trk(h:Heap)(H:Hp):List Addr:=(zBB h.objs.size).filter λ a=>(H a).isSome
def xZ(h:Heap)(H:Hp):Heap:=zCh h (trk h H)
def aCU(h:Heap)(H:Hp):(xZ h H).objs.size=h.objs.size:=PySem.W.hideAll_size _ _
def aEH(e:h.get? b=some o)(n:H b=none):(xZ h H).get? b=some o:=
 zCi _ e λ hm=>by
  have q:(H b).isSome=true:=(zA5.mp hm).2;rw[n]at q;simp at q
def aF7(e:(xZ h H).get? b=some o):h.get? b=some o/\H b=none:=by
 have e':h.get? b=some o:=zFl (trk h H) e;refine⟨e',?_⟩;cases q:H b with
 |none=>rfl
 |some x=>
  have hm:b∈trk h H:=zA5.mpr ⟨zC5.mpr (zA4 e'),by simp[q]⟩;have z:(xZ h H).get? b=none:=PySem.W.hideAll_none (trk h H) hm;rw[z]at e;cases e
def aGU(g h:Heap)(L:Addr):hZ:=(zBB h.objs.size).filterMap λ a=>if a=L\/(g.get? a).isSome=true then none else(h.get? a).map λ o=>(a,o)
def rest(g h:Heap)(L d:Addr):hZ:=(aGU g h L).filter λ p=>decide (p.1≠d)
structure Mod(K:zAA)(mg:Str->Option Value)(base:Heap):Prop where
 kin:K.In base
 glob:base.Ns zA8 mg
 blt:∃mb,base.Ns zHN mb/\∀x:Str,x≠"__name__"->mb x=zAr x
 nolimit:base.NoLimit
structure Cx where
 prog:zAZ
 w:World
 K:zAA
 mg:Str->Option Value
 base:Heap
 A:zAc
 N:List Str
 z5:zAE
 z4:Hp
 env:Env
 outer:List Env
 stack:List Env
 ex:List Addr
 fn:Str->Bool
 calm:Bool
 pn:hZ
 xe:Value->zAE->Prop
 ta:hZ:=[]
 tq:Str:=""
def frs(l:List Env):List Addr:=l.filterMap (·.frame)
abbrev Cx.fs(X:Cx):List Addr:=frs X.outer
def Vis(sc:Scope)(x:Str):Prop:=sc.names.lookup x=some .local\/sc.names.lookup x=some .cell\/sc.names.lookup x=some .free
def Loc(sc:Scope)(x:Str):Prop:=sc.names.lookup x=some .local\/sc.names.lookup x=some .cell
def Look(env:Env)(h:Heap)(m:Str->Option Value)(x:Str)(u:Value):Prop:=
 (env.kindOf x=some .local/\m x=some u)\/((env.kindOf x=some .cell\/env.kindOf x=some .free)/\∃c,env.cells.lookup x=some c/\h.IsCell c (some u))
structure Cx.Ok(X:Cx):Prop where
 mod:Mod X.K X.mg X.base
 kind:X.env.scope.kind= .function
 glob:X.env.globals=zA8
 blt:X.env.builtins=zHN
 above:X.z5.heap.objs.size<=X.env.locals
 inj:∀x y c,X.env.cells.lookup x=some c->X.env.cells.lookup y=some c->x=y
 has:∀x,(X.env.kindOf x=some .cell\/X.env.kindOf x=some .free)->∃c,X.env.cells.lookup x=some c
 cab:∀x c,X.fn x=true->X.env.cells.lookup x=some c->X.z5.heap.objs.size<=c
 hd:X.calm=true->X.A.handled=none
 frames:X.A.frames=some X.stack
 stk:X.stack=X.outer\/(X.stack=X.env::X.outer/\X.env.frame=some X.env.locals)
 exf:∀b∈X.ex,b≠X.env.locals/\∀x c,X.env.cells.lookup x=some c->c≠b
 bs:∀b o,X.base.get? b=some o->X.z5.heap.get? b=some o/\X.z4 b=none
 bsz:X.base.objs.size<=X.z5.heap.objs.size
 noex:∀b o,X.base.get? b=some o->b∉X.ex
 exfs:∀b∈X.ex,b∉X.fs
 funs:X.z5.heap.FunFrames X.base X.outer
 frf:∀b∈X.fs,X.z4 b=none
def aJ2(q:Str)(oc:Obj):Prop:=∃vs t,oc.data= .fields vs/\vs[1]? =some (.str q t)
def TabOk(q:Str)(H:Hp)(ps:Array Value):Prop:=TriplesOk ps.toList/\∀pos cv,codeAmong pos ps.toList=some cv->∃c' oc,cv= .ref c'/\H c'=some (.frz oc (.own c'))/\aJ2 q oc
def TabOk.mono(t:TabOk q H ps)(f:∀b o u,H b=some (.frz o u)->H' b=some (.frz o u)):TabOk q H' ps:=⟨t.1,λ pos cv hc=>let⟨c',oc,z,a,b⟩:=t.2 pos cv hc;⟨c',oc,z,f _ _ _ a,b⟩⟩
structure Inv(X:Cx)(hV:hZ)(σ:List (Option V))(H:Hp)(s:zAE):Prop where
 ok:X.Ok
 os:s.os=X.z5.os
 bare:zDv s.gens
 base:Un X.fs X.ex X.z4 H X.z5.heap s.heap
 loc:∃m,s.heap.Ns X.env.locals m/\∀(i:Nat) (x:Str) (v:V),X.N[i]? =some x->σ[i]? =some (some v)->Vis X.env.scope x->∃u,RelV v u/\Look X.env s.heap m x u
 cell:∀x c,X.env.cells.lookup x=some c->∃v,s.heap.IsCell c v
 free:H X.env.locals=none
 freeC:∀x c,X.env.cells.lookup x=some c->H c=none
 pin:∀p∈X.pn++hV,s.heap.get? p.1=some p.2/\H p.1=none/\p.1≠X.env.locals/\p.1∉X.fs/\∀v,p.2.data≠.cell v
 hok:HOk X.prog X.w H s.heap
 len:σ.length=X.N.length
 tab:∀p∈X.ta,H p.1=none/\p.1≠X.env.locals/\p.1∉X.fs/\(∀q∈X.pn++hV,q.1≠p.1)/\∃ps,s.heap.get? p.1=some {cls:=.none,data:=.fields ps}/\TabOk X.tq H ps
section
variable{X:Cx}{hV:hZ}{σ:List (Option V)}{H H':Hp}{s:zAE}{h':Heap}
def Cx.Ok.nofr(ok:X.Ok)(e:X.base.get? b=some o):b∉X.fs:=λ hb=>by
 have:=(ok.funs.mem hb).1
 rw[e]at this;cases this
theorem Inv.bs(I:Inv X hV σ H s):∀b o,X.base.get? b=some o->s.heap.get? b=some o/\H b=none:=λ b o e=>
 ⟨I.base.keep b o (I.ok.bs b o e).1 (I.ok.bs b o e).2 (I.ok.nofr e) (I.ok.noex b o e),I.base.free b o (I.ok.bs b o e).1 (I.ok.bs b o e).2 (I.ok.noex b o e)⟩
def Inv.bk(I:Inv X hV σ H s):∀b o,X.base.get? b=some o->s.heap.get? b=some o:=λ b o e=>(I.bs b o e).1
theorem Inv.mod(I:Inv X hV σ H s):Mod X.K X.mg X.base:=I.ok.mod
def Inv.kIn(I:Inv X hV σ H s):X.K.In s.heap:=I.ok.mod.kin.keeps I.bk
def Inv.fr(I:Inv X hV σ H s):∃m,Fr X.base X.env.locals s.heap m:=
 let⟨m,hn,_⟩:=I.loc
 ⟨m,hn,I.bk,zAe I.ok.bsz I.ok.above⟩
theorem Inv.lt(I:Inv X hV σ H s):X.env.locals<s.heap.objs.size:=let⟨_,hn,_⟩:=I.loc;hn.lt
def Inv.sz(I:Inv X hV σ H s):X.z5.heap.objs.size<=s.heap.objs.size:=zAe I.ok.above (zBV I.lt)
def Inv.nofs(I:Inv X hV σ H s)(h:s.heap.objs.size<=a):a∉X.fs:=λ hb=>by
 obtain⟨_,o,ho,_⟩:=I.ok.funs.mem hb;exact absurd (zA1 (zA4 ho) (zAe I.sz h)) (zBb _)
def Inv.cne(I:Inv X hV σ H s):∀x c,X.env.cells.lookup x=some c->c≠X.env.locals:=λ x c e z=>by
 obtain⟨v,o,ho,hd⟩:=I.cell x c e;obtain⟨m,⟨o',es,ep,ho',hd',_⟩,_⟩:=I.loc;rw[z,ho']at ho;cases ho;rw[hd']at hd;cases hd
theorem Inv.funs(I:Inv X hV σ H s):s.heap.FunFrames X.base X.outer:=by
 have all:∀(l:List Env),(∀b∈frs l,b∈X.fs)->X.z5.heap.FunFrames X.base l->s.heap.FunFrames X.base l:=by
  intro l;induction l with
  |nil=>intro _ _;trivial
  |cons env r ih=>
   intro hs hl;obtain⟨hk,⟨L,o,hf,hn,ho,hd⟩,hr⟩:=hl;have hL:L∈X.fs:=hs L (by unfold frs;rw[zBp,hf];exact zAJ);obtain⟨sl,e⟩:=I.base.slot L o ho (I.ok.frf L hL) hL λ z=>I.ok.exfs L z hL
   exact⟨hk,⟨L,_,hf,hn,e,hd⟩,ih (λ b hb=>hs b (by unfold frs;rw[zBp,hf];exact zAF _ hb)) hr⟩
 exact all X.outer (λ _ hb=>hb) I.ok.funs
theorem Inv.stack(I:Inv X hV σ H s):s.heap.FunFrames X.base X.stack:=by
 rcases I.ok.stk with e|⟨e,hf⟩
 .rw[e];exact I.funs
 .rw[e]
  obtain⟨m,hn,_⟩:=I.loc;refine .cons (by rw[I.ok.kind];decide) hf hn ?_ I.funs;exact Heap.get?_none_of_le (zAe I.ok.bsz I.ok.above)
def Inv.stkSub(I:Inv X hV σ H s):∀b∈frs X.stack,b∈X.env.locals::X.fs:=λ b hb=>by
 rcases I.ok.stk with e|⟨e,hf⟩
 .rw[e]at hb;exact zAF _ hb
 .rw[e]at hb
  unfold frs at hb;rw[zBp,hf]at hb;exact hb
def Inv.stkFree(I:Inv X hV σ H s):∀b∈frs X.stack,H b=none:=λ b hb=>by
 rcases zAT.mp (I.stkSub b hb)with e|hb
 .rw[e];exact I.free
 .obtain⟨_,o,ho,_⟩:=I.ok.funs.mem hb
  exact I.base.free b o ho (I.ok.frf b hb) λ z=>I.ok.exfs b z hb
def Inv.step{g':Array zCm}{t':Nat}{d':Drawn}{ch:List Addr}(I:Inv X hV σ H s)
  (hch:∀b∈ch,(b∈X.ex\/X.z5.heap.objs.size<=b)/\b≠X.env.locals/\(∀x c,X.env.cells.lookup x=some c->c≠b)/\∀p∈X.ta++(X.pn++hV),p.1≠b)
  (keep:∀b o,b≠X.env.locals->b∉X.fs->b∉ch->s.heap.get? b=some o->H b=none->h'.get? b=some o)
  (slot:∀b o,b≠X.env.locals->b∈X.fs->b∉ch->s.heap.get? b=some o->H b=none->∃sl,h'.get? b=some {o with slots:=sl})(free:∀b o,b∉ch->s.heap.get? b=some o->H b=none->H' b=none)
  (there:∀b o,b∉ch->s.heap.get? b=some o->∃o',h'.get? b=some o')
  (tups:∀b xs,H b=some (.tup xs)->H' b=some (.tup xs))(frzs:∀b o u,H b=some (.frz o u)->H' b=some (.frz o u))(tbls:∀b ps,H b=some (.tbl ps)->∃more,H' b=some (.tbl (ps++more)))
  (ns:∀m,s.heap.Ns X.env.locals m->h'.Ns X.env.locals m)(hok:HOk X.prog X.w H' h')(hg:zDv g'):
  Inv X hV σ H' {s with heap:=h',gens:=g',drawn:=d',toks:=t'}:=by
 have neL:∀b o,X.z5.heap.get? b=some o->b≠X.env.locals:=λ b o e=>zAu (zA1 (zA4 e) I.ok.above)
 have neC:∀b o,X.z5.heap.get? b=some o->b∉X.ex->b∉ch:=λ b o e hx hb=>by
  rcases(hch b hb).1 with z|z
  .exact hx z
  .exact absurd (zA1 (zA4 e) z) (zBb _)
 have b9:∀x c,X.env.cells.lookup x=some c->∀v,s.heap.IsCell c v->h'.IsCell c v:=λ x c e v ⟨o,ho,hd⟩=>by
  have nch:c∉ch:=λ z=>(hch c z).2.2.1 x c e rfl
  by_cases hc:c∈X.fs
  .obtain⟨sl,q⟩:=slot c o (I.cne x c e) hc nch ho (I.freeC x c e)
   exact⟨_,q,hd⟩
  .exact⟨o,keep c o (I.cne x c e) hc nch ho (I.freeC x c e),hd⟩
 refine⟨I.ok,I.os,hg,⟨λ b o e n hb hx=>?_,λ b o e n hb hx=>?_,λ b o e n hx=>?_,λ b o e hx=>?_,λ b xs e=>tups b xs (I.base.tups b xs e),λ b o xs e=>frzs b o xs (I.base.frzs b o xs e),λ b ps e=>?_⟩,?_,λ x c e=>?_,?_,λ x c e=>?_,λ p hp=>?_,hok,I.len,λ p hp=>?_⟩
 .exact keep b o (neL b o e) hb (neC b o e hx) (I.base.keep b o e n hb hx) (I.base.free b o e n hx)
 .obtain⟨sl,e1⟩:=I.base.slot b o e n hb hx
  obtain⟨sl',e2⟩:=slot b _ (neL b o e) hb (neC b o e hx) e1 (I.base.free b o e n hx);exact⟨sl',e2⟩
 .obtain⟨o',e1⟩:=I.base.there b o e hx
  exact free b o' (neC b o e hx) e1 (I.base.free b o e n hx)
 .obtain⟨o',e1⟩:=I.base.there b o e hx
  exact there b o' (neC b o e hx) e1
 .obtain⟨m1,e1⟩:=I.base.tbls b ps e
  obtain⟨m2,e2⟩:=tbls b _ e1;exact⟨m1++m2,by rw[e2,zFw]⟩
 .obtain⟨m,hn,hl⟩:=I.loc
  refine⟨m,ns m hn,λ i x v e1 e2 e3=>?_⟩;obtain⟨u,r,l⟩:=hl i x v e1 e2 e3;refine⟨u,r,?_⟩;rcases l with l|⟨k,c,e,z⟩
  .exact .inl l
  .exact .inr ⟨k,c,e,b9 x c e _ z⟩
 .obtain⟨v,z⟩:=I.cell x c e
  exact⟨v,b9 x c e v z⟩
 .obtain⟨m,⟨o,_,_,ho,_⟩,_⟩:=I.loc
  exact free _ o (λ z=>(hch _ z).2.1 rfl) ho I.free
 .obtain⟨v,o,ho,hd⟩:=I.cell x c e
  exact free c o (λ z=>(hch c z).2.2.1 x c e rfl) ho (I.freeC x c e)
 .obtain⟨e,n,ne,nf,d⟩:=I.pin p hp
  have nch:p.1∉ch:=λ z=>(hch p.1 z).2.2.2 p (zAY _ hp) rfl
  exact⟨keep p.1 p.2 ne nf nch e n,free p.1 p.2 nch e n,ne,nf,d⟩
 .obtain⟨n,ne,nf,np,ps,e,t⟩:=I.tab p hp
  have nch:p.1∉ch:=λ z=>(hch p.1 z).2.2.2 p (zAI _ hp) rfl
  exact⟨free p.1 _ nch e n,ne,nf,np,ps,keep p.1 _ ne nf nch e n,t.mono frzs⟩
def Inv.pinL(I:Inv X hV σ H s)(hp:p∈X.ta++(X.pn++hV)):p.1<s.heap.objs.size:=by
 rcases zAO.mp hp with z|z
 .obtain⟨_,_,_,_,_,e,_⟩:=I.tab p z
  exact zA4 e
 .exact zA4 (I.pin p z).1
def Inv.un{t':Nat}(I:Inv X hV σ H s)(u:Un X.fs [] H H' s.heap h')(hok:HOk X.prog X.w H' h'):Inv X hV σ H' {s with heap:=h',toks:=t'}:=by
 obtain⟨m,⟨o,es,ep,ho,r⟩,_⟩:=id I.loc;obtain⟨sl,hL⟩:=u.any ho I.free (by simp);exact I.step (g':=s.gens) (d':=s.drawn) (ch:=[]) (λ _ z=>nomatch z) (λ b o _ hb _ e n=>u.keep b o e n hb (by simp)) (λ b o _ hb _ e n=>u.slot b o e n hb (by simp)) (λ b o _ e n=>u.free b o e n (by simp)) (λ b o _ e=>u.there b o e (by simp)) u.tups u.frzs u.tbls (λ m' hm=>by
  obtain⟨o',es',ep',ho',r'⟩:=hm;rw[ho]at ho';cases ho';exact⟨_,es',ep',hL,r'⟩) hok I.bare
def Inv.call{g':Array zCm}{t':Nat}{d':Drawn}{ch:List Addr}(I:Inv X hV σ H s)(u:Un (frs X.stack) ch H H' s.heap h')(hok:HOk X.prog X.w H' h')(hg:zDv g')
  (hch:∀b∈ch,(b∈X.ex\/X.z5.heap.objs.size<=b)/\b≠X.env.locals/\(∀x c,X.env.cells.lookup x=some c->c≠b)/\∀p∈X.ta++(X.pn++hV),p.1≠b):
  Inv X hV σ H' {s with heap:=h',gens:=g',drawn:=d',toks:=t'}:=by
 obtain⟨m,⟨o,es,ep,ho,r⟩,_⟩:=id I.loc;obtain⟨sl,hL⟩:=u.any ho I.free λ z=>(hch _ z).2.1 rfl
 exact I.step (ch:=ch) hch (λ b o hL hb hc e n=>u.keep b o e n (λ z=>(zAT.mp (I.stkSub b z)).elim hL hb) hc) (λ b o _ _ hc e n=>u.any e n hc) (λ b o hc e n=>u.free b o e n hc) (λ b o hc e=>u.there b o e hc) u.tups u.frzs u.tbls (λ m' hm=>by
  obtain⟨o',es',ep',ho',r'⟩:=hm;rw[ho]at ho';cases ho';exact⟨_,es',ep',hL,r'⟩) hok hg
def Inv.turned{t':Nat}{it:Addr}(I:Inv X hV σ H s)(k:∀b o,b≠it->s.heap.get? b=some o->h'.get? b=some o)(hn:H it=none)(hL:it≠X.env.locals)
  (h1:it∈X.ex\/X.z5.heap.objs.size<=it)(h2:∀x c,X.env.cells.lookup x=some c->c≠it)(h3:∀p∈X.ta++(X.pn++hV),p.1≠it):Inv X hV σ H {s with heap:=h',toks:=t'}:=by
 have nit:∀b u,H b=some u->b≠it:=λ b u e z=>by rw[z,hn]at e;cases e
 refine I.step (g':=s.gens) (d':=s.drawn) (ch:=[it]) (λ b hb=>?_) (λ b o _ _ hc e _=>k b o (λ z=>hc (by simp[z])) e) (λ b o _ _ hc e _=>⟨o.slots,k b o (λ z=>hc (by simp[z])) e⟩) (λ _ _ _ _ n=>n)
  (λ b o hc e=>⟨o,k b o (λ z=>hc (by simp[z])) e⟩) (λ _ _ e=>e) (λ _ _ _ e=>e) (λ b ps e=>⟨#[],by rw[e];simp⟩) (λ m hm=>?_) (λ b u e=>?_) I.bare
 .have e:b=it:=by simpa using hb
  subst e;exact⟨h1,hL,h2,h3⟩
 .obtain⟨o,es,ep,ho,r⟩:=hm
  exact⟨o,es,ep,k _ o (zDF hL) ho,r⟩
 .refine(I.hok b u e).stay (λ c v hc q=>k c v ?_ q) (λ _ q=>q) λ _ _ q=>q
  rcases hc with z|z
  .rw[z];exact nit b u e
  .exact nit c _ z
def Inv.tok(I:Inv X hV σ H s)(t:Nat):Inv X hV σ H {s with toks:=t}:=I.un (h':=s.heap) (t':=t) Un.refl I.hok
theorem Inv.kept(I:Inv X hV σ H s)(k:∀b u,s.heap.get? b=some u->h'.get? b=some u):Inv X hV σ H {s with heap:=h',toks:=t'}:=I.un (Un.kept k) (I.hok.kept k)
theorem Inv.laid(I:Inv X hV σ H s)(k:∀b u,s.heap.get? b=some u->h'.get? b=some u)(hp:s.heap.objs.size<=a)(new:dj X.prog X.w (upd H a o) h' a o):
  Inv X hV σ (upd H a o) {s with heap:=h',toks:=t'}:=I.un (Un.laid k hp (I.hok.fresh hp)) (I.hok.laid k hp new)
theorem Inv.write(I:Inv X hV σ H s)(mu:Mut (H x))(he:e=x\/H e=some (.own x))(k:∀b u,b≠e->s.heap.get? b=some u->h'.get? b=some u)(heo:∃u,h'.get? e=some u)
  (new:dj X.prog X.w (upd H x o) h' x o):Inv X hV σ (upd H x o) {s with heap:=h',toks:=t'}:=I.un (Un.write mu he k heo) (I.hok.write mu he k heo new)
def Inv.weak(I:Inv X hV σ H s)(hl:σ'.length=σ.length)(w:∀(i:Nat) v,σ'[i]? =some (some v)->σ[i]? =some (some v)):Inv X hV σ' H s:=
 ⟨I.ok,I.os,I.bare,I.base,let⟨m,hn,hl'⟩:=I.loc;⟨m,hn,λ i x v e1 e2 e3=>hl' i x v e1 (w i v e2) e3⟩,I.cell,I.free,I.freeC,I.pin,I.hok,hl.trans I.len,I.tab⟩
def Inv.pins_of(I:Inv X hV σ H s)(h:∀p∈pins',s.heap.get? p.1=some p.2/\H p.1=none/\p.1≠X.env.locals/\p.1∉X.fs/\∀v,p.2.data≠.cell v)(h2:∀q∈pins',∀p∈X.ta,q.1≠p.1):Inv X pins' σ H s:=
 ⟨I.ok,I.os,I.bare,I.base,I.loc,I.cell,I.free,I.freeC,λ p hp=>(zAO.mp hp).elim (λ z=>I.pin p (zAI _ z)) (h p),I.hok,I.len,λ p hp=>let⟨a,b,c,d,e⟩:=I.tab p hp;⟨a,b,c,λ q hq=>(zAO.mp hq).elim (λ z=>d q (zAI _ z)) (λ z=>h2 q z p hp),e⟩⟩
def zE{N:List Str}(hN:N.Nodup){i j:Nat}{x:Str}(a:N[i]? =some x)(b:N[j]? =some x):i=j:=by
 obtain⟨h1,e1⟩:=zAL.mp a;obtain⟨h2,e2⟩:=zAL.mp b;exact(List.getElem_inj hN).mp (e1.trans e2.symm)
def vW{M:Model}{A:zAc}{E:Value->zAE->Prop}{i:Nat}{x:Str}{v:V}{u:Value}{Q:Unit->zAE->Prop}(I:Inv X hV σ H s)(hN:X.N.Nodup)(hi:X.N[i]? =some x)(hx:Loc X.env.scope x)(r:RelV v u)
  (h:∀s',Inv X hV (σ.set i (some v)) H s'->(∃a,zHH a s.heap s'.heap/\(a=X.env.locals\/X.env.cells.lookup x=some a))->Q () s')(hf:X.fn x=true\/X.env.scope.names.lookup x=some .local:=by first|exact .inl rfl|exact .inr rfl|assumption):wpAny M A (storeName X.env x u) Q E s:=by
 obtain⟨m,hn,hl⟩:=id I.loc;have hcls:(X.env.scope.kind== .class||(X.env.scope.kind== .module&&X.env.locals !=X.env.globals))=false:=by rw[I.ok.kind];rfl
 have hiσ:i<σ.length:=by rw[I.len];exact(zAL.mp hi).1
 have cne:=I.cne;have aE:∀{a:Addr} {h':Heap},(∃o,s.heap.get? a=some o/\H a=none)->zHH a s.heap h'->HOk X.prog X.w H h':=λ{a h'} ha hs b ob e=>by
  obtain⟨_,_,hfree⟩:=ha;refine(I.hok b ob e).stay (λ c w' hc q=>(hs.2 c ?_).trans q) (λ _ q=>q) λ _ _ q=>q
  rintro rfl;rcases hc with rfl|hc
  .rw[hfree]at e;cases e
  .rw[hfree]at hc;cases hc
 rcases hx with hk|hk
 .refine wpAny_storeName_local hk hn (λ h' hn' hs=>?_) hcls
  obtain⟨oL,_,_,hoL,_⟩:=id hn;refine h _ ⟨I.ok,I.os,I.bare,⟨λ b o e n hb hx=>?_,λ b o e n hb hx=>?_,I.base.free,λ b o e hx=>?_,I.base.tups,I.base.frzs,I.base.tbls⟩,⟨_,hn',λ j y v' e1 e2 e3=>?_⟩,λ y c e=>?_,I.free,I.freeC,λ p hp=>?_,aE ⟨oL,hoL,I.free⟩ hs,by simpa using I.len,λ p hp=>?_⟩ ⟨_,hs,.inl rfl⟩
  .exact(hs.2 b (zAu (zA1 (zA4 e) I.ok.above))).trans (I.base.keep b o e n hb hx)
  .obtain⟨sl,e1⟩:=I.base.slot b o e n hb hx
   exact⟨sl,(hs.2 b (zAu (zA1 (zA4 e) I.ok.above))).trans e1⟩
  .obtain⟨o',e1⟩:=I.base.there b o e hx
   exact⟨o',(hs.2 b (zAu (zA1 (zA4 e) I.ok.above))).trans e1⟩
  .by_cases hj:j=i
   .subst hj
    rw[hi]at e1;cases e1;rw[zBD hiσ]at e2;cases e2;exact⟨u,r,.inl ⟨hk,by simp⟩⟩
   .rw[zAt (zDF hj)]at e2
    obtain⟨u',r',q⟩:=hl j y v' e1 e2 e3;refine⟨u',r',?_⟩;rcases q with ⟨k,e⟩|⟨k,c,e,z⟩
    .refine .inl ⟨k,?_⟩
     have:y≠x:=λ e=>hj (zE hN e1 (e▸hi))
     simp[this,e]
    .exact .inr ⟨k,c,e,z.sameBut hs (cne y c e)⟩
  .obtain⟨w',z⟩:=I.cell y c e
   exact⟨w',z.sameBut hs (cne y c e)⟩
  .obtain⟨e,n,ne,nf,d⟩:=I.pin p hp
   exact⟨(hs.2 p.1 ne).trans e,n,ne,nf,d⟩
  .obtain⟨n,ne,nf,np,ps,e,t⟩:=I.tab p hp
   exact⟨n,ne,nf,np,ps,(hs.2 p.1 ne).trans e,t⟩
 .have hfn:X.fn x=true:=by
   rcases hf with z|z
   .exact z
   .rw[z]at hk;cases hk
  obtain⟨c,hc⟩:=I.ok.has x (.inl hk);obtain⟨w',z⟩:=I.cell x c hc;refine wpAny_storeName_cell I.ok.kind hk hc z (λ h' hc' hs=>?_);obtain⟨oc,hoc,hocd⟩:=id z;refine h {s with heap:=h'} ⟨I.ok,I.os,I.bare,⟨λ b o e n hb hx=>?_,λ b o e n hb hx=>?_,I.base.free,λ b o e hx=>?_,I.base.tups,I.base.frzs,I.base.tbls⟩,⟨m,hn.sameBut hs (zDF (cne x c hc)),λ j y v' e1 e2 e3=>?_⟩,λ y c' e=>?_,I.free,I.freeC,λ p hp=>?_,aE ⟨oc,hoc,I.freeC x c hc⟩ hs,by simpa using I.len,λ p hp=>?_⟩ ⟨c,hs,.inr hc⟩
  .exact(hs.2 b (zAu (zA1 (zA4 e) (I.ok.cab x c hfn hc)))).trans (I.base.keep b o e n hb hx)
  .obtain⟨sl,e1⟩:=I.base.slot b o e n hb hx
   exact⟨sl,(hs.2 b (zAu (zA1 (zA4 e) (I.ok.cab x c hfn hc)))).trans e1⟩
  .obtain⟨o',e1⟩:=I.base.there b o e hx
   exact⟨o',(hs.2 b (zAu (zA1 (zA4 e) (I.ok.cab x c hfn hc)))).trans e1⟩
  .by_cases hj:j=i
   .subst hj
    rw[hi]at e1;cases e1;rw[zBD hiσ]at e2;cases e2;exact⟨u,r,.inr ⟨.inl hk,c,hc,hc'⟩⟩
   .rw[zAt (zDF hj)]at e2
    obtain⟨u',r',q⟩:=hl j y v' e1 e2 e3;refine⟨u',r',?_⟩;rcases q with q|⟨k,c',e,z'⟩
    .exact .inl q
    .refine .inr ⟨k,c',e,z'.sameBut hs ?_⟩
     rintro rfl;exact hj (zE hN e1 (I.ok.inj _ _ _ e hc▸hi))
  .by_cases hcc:c'=c
   .subst hcc;exact⟨_,hc'⟩
   .obtain⟨w2,z2⟩:=I.cell y c' e
    exact⟨w2,z2.sameBut hs hcc⟩
  .obtain⟨e,n,ne,nf,d⟩:=I.pin p hp
   refine⟨(hs.2 p.1 ?_).trans e,n,ne,nf,d⟩;intro q;rw[q,hoc]at e;have q':oc=p.2:=zAl e;exact d w' (by rw[<-q'];exact hocd)
  .obtain⟨n,ne,nf,np,ps,e,t⟩:=I.tab p hp
   refine⟨n,ne,nf,np,ps,(hs.2 p.1 ?_).trans e,t⟩;intro q;rw[q,hoc]at e;rw[zAl e]at hocd;cases hocd
def tG(I:Inv X hV σ H s)(hN:X.N.Nodup)(hi:X.N[i]? =some x)(hx:Loc X.env.scope x)(r:RelV v u)
  (h:∀s',Inv X hV (σ.set i (some v)) H s'->Q () s')(hf:X.fn x=true\/X.env.scope.names.lookup x=some .local:=by first|exact .inl rfl|exact .inr rfl|assumption):wpAny M A (storeName X.env x u) Q E s:=
 vW I hN hi hx r (λ s' I' _=>h s' I') hf
def Inv.call'(I:Inv X hV σ H s)(ho:s'.os=s.os)(u:Un (frs X.stack) ch H H' s.heap s'.heap)(hok:HOk X.prog X.w H' s'.heap)(hg:zDv s'.gens)
  (hch:∀b∈ch,(b∈X.ex\/X.z5.heap.objs.size<=b)/\b≠X.env.locals/\(∀x c,X.env.cells.lookup x=some c->c≠b)/\∀p∈X.ta++(X.pn++hV),p.1≠b):Inv X hV σ H' s':=by
 obtain⟨h',g',d',t',o'⟩:=s';have e:o'=s.os:=ho;subst e;exact I.call (g':=g') (t':=t') (d':=d') u hok hg hch
end
abbrev XK:=Value->Option Addr->Hp->Prop
abbrev St:=List (Option V)
abbrev VK:=V->Hp->Prop
abbrev TE:=St->Hp->VK->Prop
abbrev TT:=St->Hp->(Bool->Hp->Prop)->Prop
abbrev TA:=St->Hp->(List V->Hp->Prop)->Prop
structure Ends where
 nx:St->Hp->Prop
 rt:VK
 bk:St->Hp->Prop:=λ _ _=>False
 ct:St->Hp->Prop:=λ _ _=>False
abbrev TS:=Ends->St->Hp->Prop
def EP(X:Cx)(hV:hZ)(σ:St)(Q:VK)(u:Value)(s':zAE):Prop:=∃v H',Inv X hV σ H' s'/\RelV v u/\Q v H'
def TP(X:Cx)(hV:hZ)(σ:St)(Q:Bool->Hp->Prop)(b:Bool)(s':zAE):Prop:=∃H',Inv X hV σ H' s'/\Q b H'
def AP(X:Cx)(hV:hZ)(σ:St)(Q:List V->Hp->Prop)(us:List Value)(s':zAE):Prop:=∃vs H',Inv X hV σ H' s'/\Vals vs us/\Q vs H'
def SP(X:Cx)(hV:hZ)(D:Ends)(f:Flow)(s':zAE):Prop:=
 match f with
 | .next=>∃σ' H',Inv X hV σ' H' s'/\D.nx σ' H'
 | .brk=>∃σ' H',Inv X hV σ' H' s'/\D.bk σ' H'
 | .cont=>∃σ' H',Inv X hV σ' H' s'/\D.ct σ' H'
 | .ret u=>∃v σ' H',Inv X hV σ' H' s'/\RelV v u/\D.rt v H'
def PE(X:Cx)(e:Expr)(t:TE):Prop:=
 ∀(hV:hZ) (s:zAE) (σ:St) (H:Hp) (Q:VK),Inv X hV σ H s->t σ H Q->wpAny (model X.prog X.w) X.A (eval e X.env) (EP X hV σ Q) X.xe s
def PT(X:Cx)(e:Expr)(t:TT):Prop:=
 ∀(hV:hZ) (s:zAE) (σ:St) (H:Hp) (Q:Bool->Hp->Prop),Inv X hV σ H s->t σ H Q->wpAny (model X.prog X.w) X.A (isTrue e X.env (eval e X.env)) (TP X hV σ Q) X.xe s
def PW(X:Cx)(e:Expr)(t:TT):Prop:=
 ∀(whole:Sem Value) (hV:hZ) (s:zAE) (σ:St) (H:Hp) (Q:Bool->Hp->Prop),Inv X hV σ H s->t σ H Q->wpAny (model X.prog X.w) X.A (isTrue e X.env whole) (TP X hV σ Q) X.xe s
def PW.pt(h:PW X e t):PT X e t:=h _
def PA(X:Cx)(es:List Expr)(t:TA):Prop:=
 ∀(pos:Pos) (hV:hZ) (s:zAE) (σ:St) (H:Hp) (Q:List V->Hp->Prop),Inv X hV σ H s->t σ H Q->wpAny (model X.prog X.w) X.A (spliced (zBv pos (zAX es X.env))) (AP X hV σ Q) X.xe s
def PS(X:Cx)(st:Stmt)(t:TS):Prop:=
 ∀(hV:hZ) (s:zAE) (σ:St) (H:Hp) (D:Ends),Inv X hV σ H s->t D σ H->wpAny (model X.prog X.w) X.A (exec st X.env) (SP X hV D) X.xe s
def PSs(X:Cx)(st:List Stmt)(t:TS):Prop:=
 ∀(hV:hZ) (s:zAE) (σ:St) (H:Hp) (D:Ends),Inv X hV σ H s->t D σ H->wpAny (model X.prog X.w) X.A (execs st X.env) (SP X hV D) X.xe s
def thn(h:wpAny M A t Q E s)(hQ:∀a s,Q a s->Q' a s):wpAny M A t Q' E s:=zCE h hQ λ _ _ x=>x
section
variable{X:Cx}
def oY(i:Nat):TE:=λ σ H Q=>∃v,σ[i]? =some (some v)/\Q v H
def tC(v:V):TE:=λ _ H Q=>Q v H
abbrev _root_.Nd(x:PySem.Str):Prop:=(x==("__debug__":PySem.Str))=false
def fQ(hN:X.N[i]? =some x)(hv:Vis X.env.scope x)(hd:Nd x:=by decide)(hcd:(x==("__classdict__":Str))=false:=by decide):PE X (.Name x pos) (oY i):=by
 intro hV s σ H Q I h;obtain⟨v,e,h⟩:=h;obtain⟨m,hn,hl⟩:=I.loc;obtain⟨u,r,l⟩:=hl i x v hN e hv;have fin:EP X hV σ Q u s:=⟨v,H,I,r,h⟩;rcases l with ⟨hk,hm⟩|⟨hk,c,hc,hcell⟩
 .exact zHO (zGk I.ok.kind hk hn hm fin) hd
 .rcases hk with hk|hk
  .exact zHO (zGt I.ok.kind hk hc hcell fin) hd
  .exact zHO (wpAny_loadName_free I.ok.kind hk hc hcell fin hcd) hd
def aD0{i j pos}:PE X (.Constant (.int i) j pos) (tC (.int i)):=λ _ _ _ H _ I h=>wpAny_Constant_int ⟨.int i,H,I.tok _,⟨_,rfl⟩,h⟩
def aJB{b j pos}:PE X (.Constant (.bool b) j pos) (tC (.bl b)):=λ _ _ _ H _ I h=>Constant_bool ⟨.bl b,H,I,rfl,h⟩
def aHa{j pos}:PE X (.Constant .none j pos) (tC .non):=λ _ _ _ H _ I h=>Constant_none ⟨.non,H,I,rfl,h⟩
def aH7{x j pos}:PE X (.Constant (.str x) j pos) (tC (.str x)):=λ _ _ _ H _ I h=>Calls.Constant_str ⟨.str x,H,I.tok _,⟨_,rfl⟩,h⟩
def Gl(X:Cx)(x:Str):Prop:=X.env.kindOf x=some .globalImplicit
def xU(I:Inv X hV σ H s)(hg:Gl X x)(hm:X.mg x=some u)(h:Q u s)
  (hd:Nd x:=by decide):wpAny (model X.prog X.w) X.A (eval (.Name x pos) X.env) Q E s:=
 zE5 I.ok.kind hg (Calls.loadGlobal_global (by rw[I.ok.glob];exact I.mod.glob.keeps I.bk) hm h) hd
def qP(I:Inv X hV σ H s)(hg:Gl X x)(hm:X.mg x=none)(hv:zAr x=some u)(h:Q u s)
  (hn:x≠"__name__":=by decide)(hd:Nd x:=by decide):wpAny (model X.prog X.w) X.A (eval (.Name x pos) X.env) Q E s:=by
 obtain⟨mb,h1,h2⟩:=I.mod.blt;exact zE5 I.ok.kind hg (Calls.loadGlobal_builtin (by rw[I.ok.glob];exact I.mod.glob.keeps I.bk) hm (by rw[I.ok.blt];exact h1.keeps I.bk) ((h2 x hn).trans hv) h) hd
def aFM(hg:Gl X x)(hm:X.mg x=some u)(r:RelV v u)(hd:Nd x:=by decide):PE X (.Name x pos) (tC v):=
 λ _ _ _ H _ I h=>xU I hg hm ⟨v,H,I,r,h⟩ hd
def aFP(hg:Gl X x)(hm:X.mg x=none)(hv:zAr x=some u)(r:RelV v u)(hn:x≠"__name__":=by decide)(hd:Nd x:=by decide):PE X (.Name x pos) (tC v):=
 λ _ _ _ H _ I h=>qP I hg hm hv ⟨v,H,I,r,h⟩ hn hd
variable{a b:Expr}{ta tb:TE}{pos:Pos}
variable{tA tB':TT}{rest:List Expr}
def aJe(t u:TT):TT:=λ σ H Q=>t σ H λ c H1=>if c=true then u σ H1 Q else Q false H1
def tOr(t u:TT):TT:=λ σ H Q=>t σ H λ c H1=>if c=true then Q true H1 else u σ H1 Q
def aJa(t:TT):TT:=λ σ H Q=>t σ H λ c H1=>Q (!c) H1
def aFD(ha:PT X a tA):PW X (.BoolOp .And [a] pos) tA:=by
 intro wh hV s σ H Q I h;refine isTrue_and (thn (ha hV s σ H Q I h) λ c s1 e=>?_);cases c with
 |true=>exact isTrue_and_nil e
 |false=>exact e
def aHV(ha:PT X a tA):PW X (.BoolOp .Or [a] pos) tA:=by
 intro wh hV s σ H Q I h;refine isTrue_or (thn (ha hV s σ H Q I h) λ c s1 e=>?_);cases c with
 |false=>exact isTrue_or_nil e
 |true=>exact e
def aHW(ha:PT X a tA)(hb:PW X (.BoolOp .And (b::rest) pos) tB'):PW X (.BoolOp .And (a::b::rest) pos) (aJe tA tB'):=by
 intro wh hV s σ H Q I h;refine isTrue_and (thn (ha hV s σ H _ I h) λ c s1 ⟨H1,I1,q1⟩=>?_);cases c with
 |true=>exact hb wh hV s1 σ H1 Q I1 q1
 |false=>exact⟨H1,I1,q1⟩
def aIw(ha:PT X a tA)(hb:PW X (.BoolOp .Or (b::rest) pos) tB'):PW X (.BoolOp .Or (a::b::rest) pos) (tOr tA tB'):=by
 intro wh hV s σ H Q I h;refine isTrue_or (thn (ha hV s σ H _ I h) λ c s1 ⟨H1,I1,q1⟩=>?_);cases c with
 |true=>exact⟨H1,I1,q1⟩
 |false=>exact hb wh hV s1 σ H1 Q I1 q1
def aHX(ha:PT X a tA):PT X (.UnaryOp .Not a pos) (aJa tA):=by
 intro hV s σ H Q I h;exact isTrue_not (ha hV s σ H (λ c H1=>Q (!c) H1) I h)
def aIh(ta tb:TE):TE:=λ σ H Q=>ta σ H λ x H1=>∃c,x= .bl c/\if c=true then tb σ H1 Q else Q (.bl false) H1
def aJ9(ta tb:TE):TE:=λ σ H Q=>ta σ H λ x H1=>∃c,x= .bl c/\if c=true then Q (.bl true) H1 else tb σ H1 Q
def aIc(ta:TE):TE:=λ σ H Q=>ta σ H λ x H1=>∃c,x= .bl c/\Q (.bl (!c)) H1
def aH8{op}(h:PE X a t):PE X (.BoolOp op [a] pos) t:=λ hV s σ H Q I hw=>BoolOp_one (h hV s σ H Q I hw)
def aHc(ha:PE X a ta)(hb:PE X (.BoolOp .And (b::rest) pos) tb):PE X (.BoolOp .And (a::b::rest) pos) (aIh ta tb):=by
 intro hV s σ H Q I h;refine BoolOp_and (thn (ha hV s σ H _ I h) λ v s1 ⟨x,H1,I1,r1,q1⟩=>?_);obtain⟨c,rfl,q1⟩:=q1;cases r1;refine zBu ?_;cases c with
 |true=>exact hb hV s1 σ H1 Q I1 q1
 |false=>exact⟨.bl false,H1,I1,rfl,q1⟩
def aIy(ha:PE X a ta)(hb:PE X (.BoolOp .Or (b::rest) pos) tb):PE X (.BoolOp .Or (a::b::rest) pos) (aJ9 ta tb):=by
 intro hV s σ H Q I h;refine BoolOp_or (thn (ha hV s σ H _ I h) λ v s1 ⟨x,H1,I1,r1,q1⟩=>?_);obtain⟨c,rfl,q1⟩:=q1;cases r1;refine zBu ?_;cases c with
 |false=>exact hb hV s1 σ H1 Q I1 q1
 |true=>exact⟨.bl true,H1,I1,rfl,q1⟩
def aH9(ha:PE X a ta):PE X (.UnaryOp .Not a pos) (aIc ta):=by
 intro hV s σ H Q I h;refine UnaryOp_ (thn (ha hV s σ H _ I h) λ v s1 ⟨x,H1,I1,r1,q1⟩=>?_);obtain⟨c,rfl,q1⟩:=q1;cases r1;exact not_of (zBu ⟨.bl (!c),H1,I1,rfl,q1⟩)
def tIf(t:TT)(ta tb:TE):TE:=λ σ H Q=>t σ H λ c H1=>if c=true then ta σ H1 Q else tb σ H1 Q
def aD1(hc:PT X c tA)(ha:PE X a ta)(hb:PE X b tb):PE X (.IfExp c a b pos) (tIf tA ta tb):=by
 intro hV s σ H Q I h;refine wpAny_IfExp (thn (hc hV s σ H _ I h) λ d s1 ⟨H1,I1,q1⟩=>?_);cases d with
 |true=>exact ha hV s1 σ H1 Q I1 q1
 |false=>exact hb hV s1 σ H1 Q I1 q1
end
def SqL(K:zAA)(H:Hp)(a:Addr)(xs:List V):Prop:=
 Rd H a (.lst xs)\/
  ∃(o:Obj) (its:Array Value) (n:Nat),K.lookup a=some o/\o.cls= .type "list"/\o.dict=none/\o.data= .seq its n/\its.size<=zAQ/\Vals xs its.toList
def SqT(K:zAA)(H:Hp)(a:Addr)(xs:List V):Prop:=
 Rd H a (.tup xs)\/
  ∃(o:Obj) (its:Array Value) (n:Nat),K.lookup a=some o/\o.cls= .type "tuple"/\o.dict=none/\o.data= .seq its n/\its.size<=zAQ/\Vals xs its.toList
def aJn:Value->Option V
 | .none=>some .non
 | .bool b=>some (.bl b)
 | .int i _=>some (.int i)
 | .str x _=>some (.str x)
 | .bytes b _=>some (.byt b)
 | .float b _=>some (.flt b)
 | .ref a=>some (.ref a)
 | .type n=>some (.ty n)
 |_=>none
def RelV.abs(r:RelV x u):aJn u=some x:=by
 cases x with
 |non=>cases r;rfl
 |bl _=>cases r;rfl
 |int _=>obtain⟨t,rfl⟩:=r;rfl
 |str _=>obtain⟨t,rfl⟩:=r;rfl
 |byt _=>obtain⟨t,rfl⟩:=r;rfl
 |flt _=>obtain⟨t,rfl⟩:=r;rfl
 |ref _=>cases r;rfl
 |ty _=>cases r;rfl
def RelV.inj(r:RelV x u)(q:RelV y u):x=y:=zAl (r.abs.symm.trans q.abs)
theorem Vals.inj:∀{xs ys:List V} {us:List Value},Vals xs us->Vals ys us->xs=ys
 |_,_,_,.nil,.nil=>rfl
 |_,_,_,.cons r t,.cons r' t'=>by rw[r.inj r',Vals.inj t t']
section
variable{X:Cx}{hV:hZ}{σ:St}{H:Hp}{s:zAE}{a:Addr}{xs ys:List V}
def SqL.of{K:zAA}(h:H a=some (.lst xs)):SqL K H a xs:=.inl (.inl h)
def SqT.of{K:zAA}(h:H a=some (.tup xs)):SqT K H a xs:=.inl (.inl h)
def Inv.list(I:Inv X hV σ H s)(h:SqL X.K H a xs):∃its:List Value,Vals xs its/\PlainL s.heap a its.toArray/\xs.length<=zAQ:=by
 rcases h with h|⟨o,its,n,hk,hc,hd,hs,hz,r⟩
 .obtain⟨z,its,n,r,e⟩:=h.ok I.hok
  exact⟨its,r,⟨_,n,e,rfl,rfl,rfl⟩,z⟩
 .refine⟨its.toList,r,⟨o,n,I.kIn a o hk,hc,hd,by simpa using hs⟩,?_⟩
  have e:=r.length;simp only[zBW]at e;lia
def Inv.tuple(I:Inv X hV σ H s)(h:SqT X.K H a xs):∃its:List Value,Vals xs its/\IsTup s.heap a its.toArray/\xs.length<=zAQ:=by
 rcases h with h|⟨o,its,n,hk,hc,hd,hs,hz,r⟩
 .obtain⟨z,its,r,p⟩:=h.ok I.hok
  exact⟨its,r,p,z.1⟩
 .refine⟨its.toList,r,⟨o,I.kIn a o hk,hc,n,by simpa using hs⟩,?_⟩
  have e:=r.length;simp only[zBW]at e;lia
def Inv.list_inj(I:Inv X hV σ H s)(h:SqL X.K H a xs)(h':SqL X.K H a ys):xs=ys:=by
 obtain⟨its,r,⟨o,n,e,_,_,d⟩,_⟩:=I.list h;obtain⟨its',r',⟨o',n',e',_,_,d'⟩,_⟩:=I.list h';rw[e]at e';cases e';rw[d]at d';injection d' with d1 _
 have:its=its':=by simpa using congrArg zGu d1
 subst this;exact r.inj r'
def Inv.tuple_inj(I:Inv X hV σ H s)(h:SqT X.K H a xs)(h':SqT X.K H a ys):xs=ys:=by
 obtain⟨its,r,⟨o,e,_,n,d⟩,_⟩:=I.tuple h;obtain⟨its',r',⟨o',e',_,n',d'⟩,_⟩:=I.tuple h';rw[e]at e';cases e';rw[d]at d';injection d' with d1 _
 have:its=its':=by simpa using congrArg zGu d1
 subst this;exact r.inj r'
end
section
variable{X:Cx}{st:Stmt}{rest:List Stmt}{t u:TS}{e:Expr}{te:TE}{pos:Pos}
def aIe:TS:=λ D σ H=>D.nx σ H
def aJ7(t u:TS):TS:=λ D σ H=>t {D with nx:=u D} σ H
def aB1:PSs X [] aIe:=λ _ _ σ H _ I h=>zEA ⟨σ,H,I,h⟩
def yt(h1:PS X st t)(h2:PSs X rest u):PSs X (st::rest) (aJ7 t u):=by
 intro hV s σ H D I h;refine wpAny_execs_cons (thn (h1 hV s σ H {D with nx:=u D} I h) λ f s1 q=>?_);cases f with
 |next=>
  obtain⟨σ',H',I',q⟩:=q;exact h2 hV s1 σ' H' D I' q
 |ret v=>exact q
 |brk=>exact q
 |cont=>exact q
def aB0(h1:PS X st t):PSs X [st] t:=by
 intro hV s σ H D I h;refine wpAny_execs_cons (thn (h1 hV s σ H D I h) λ f s1 q=>?_);cases f with
 |next=>exact zEA q
 |ret v=>exact q
 |brk=>exact q
 |cont=>exact q
def Inv.quiet(I:Inv X hV σ H s):interactive X.env=false:=by simp[interactive,I.ok.kind]
def tE(te:TE):TS:=λ D σ H=>te σ H λ _ H1=>D.nx σ H1
def jm(he:PE X e te)(hs:zCB e none pos.line X.env=pure false:=by rfl):PS X (.Expr e pos) (tE te):=by
 intro hV s σ H D I h;exact wpAny_Expr_any (thn (he hV s σ H _ I h) λ v s1 ⟨x,H1,I1,r1,q1⟩=>⟨σ,H1,I1,q1⟩) I.quiet hs
def aJ8(te:TE):TS:=λ D σ H=>te σ H D.rt
def aHY(he:PE X e te):PS X (.Return (some e) pos) (aJ8 te):=by
 intro hV s σ H D I h;exact wpAny_Return_some (thn (he hV s σ H _ I h) λ v s1 ⟨x,H1,I1,r1,q1⟩=>⟨x,σ,H1,I1,r1,q1⟩)
def aJd(c:TT)(t u:TS):TS:=λ D σ H=>c σ H λ b H1=>if b=true then t D σ H1 else u D σ H1
def aGj(hc:PT X c tc)(ha:PSs X a t)(hb:PSs X b u):PS X (.If c a b pos) (aJd tc t u):=by
 intro hV s σ H D I h;refine wpAny_If (thn (hc hV s σ H _ I h) λ d s1 ⟨H1,I1,q1⟩=>?_);cases d with
 |true=>exact ha hV s1 σ H1 D I1 q1
 |false=>exact hb hV s1 σ H1 D I1 q1
end
abbrev TG:=V->St->Hp->(St->Hp->Prop)->Prop
abbrev TGs:=List V->St->Hp->(St->Hp->Prop)->Prop
def PG(X:Cx)(target:Expr)(t:TG):Prop:=
 ∀(hV:hZ) (s:zAE) (σ:St) (H:Hp) (v:V) (u:Value) (Q:St->Hp->Prop),Inv X hV σ H s->RelV v u->t v σ H Q->
  wpAny (model X.prog X.w) X.A (zFO target X.env u) (λ _ s'=>∃σ' H',Inv X hV σ' H' s'/\Q σ' H') X.xe s
def PGs(X:Cx)(ts:List Expr)(t:TGs):Prop:=
 ∀(hV:hZ) (s:zAE) (σ:St) (H:Hp) (vs:List V) (us:List Value) (Q:St->Hp->Prop),Inv X hV σ H s->Vals vs us->t vs σ H Q->
  wpAny (model X.prog X.w) X.A (assignInOrder ((zCR ts X.env).map (·.2)) us) (λ _ s'=>∃σ' H',Inv X hV σ' H' s'/\Q σ' H') X.xe s
abbrev TIp:=V->V->Hp->VK->Prop
def PIp(X:Cx)(op:Operator)(t:TIp):Prop:=
 ∀(hV:hZ) (s:zAE) (σ:St) (H:Hp) (x y:V) (v u:Value) (Q:VK),Inv X hV σ H s->RelV x v->RelV y u->t x y H Q->
  wpAny (model X.prog X.w) X.A (zGd op v u) (EP X hV σ Q) X.xe s
section
variable{X:Cx}{pos:Pos}
def qu(i:Nat):TG:=λ v σ H Q=>Q (σ.set i (some v)) H
def aFJ(hN:X.N.Nodup)(hi:X.N[i]? =some x)(hx:Loc X.env.scope x)(hf:X.fn x=true\/X.env.scope.names.lookup x=some .local:=by first|exact .inl rfl|exact .inr rfl|assumption):PG X (.Name x pos) (qu i):=by
 intro hV s σ H v u Q I r h;exact zHP (tG I hN hi hx r (λ s' I'=>⟨_,H,I',h⟩) hf)
def aIS:TGs:=λ vs σ H Q=>vs=[]/\Q σ H
def aEM(t:TG)(u:TGs):TGs:=λ vs σ H Q=>∃v r,vs=v::r/\t v σ H λ σ' H'=>u r σ' H' Q
def aFI:PGs X [] aIS:=by
 intro hV s σ H vs us Q I r h;obtain⟨e,h⟩:=h;subst e;cases r;exact assignInOrder_nil ⟨σ,H,I,h⟩
def aDY(h1:PG X e t)(h2:PGs X es u)
  (hs:(zCR (e::es) X.env).map (·.2)=zFO e X.env::(zCR es X.env).map (·.2):=by rfl):PGs X (e::es) (aEM t u):=by
 intro hV s σ H vs us Q I r h;obtain⟨v,vr,e1,h⟩:=h;subst e1;cases r with
 |cons r rr=>
  rw[hs];refine assignInOrder_cons (thn (h1 hV s σ H _ _ _ I r h) λ _ s1 ⟨σ1,H1,I1,q1⟩=>?_);exact h2 hV s1 σ1 H1 _ _ Q I1 rr q1
def aGD(K:zAA)(n:Nat)(t:TGs):TG:=λ v σ H Q=>∃a xs,v= .ref a/\SqT K H a xs/\xs.length=n/\t xs σ H Q
def aH3(hc:X.calm=true)(h:PGs X es t)
  (hn:(zCR es X.env).length=n:=by rfl)(hst:(zCR es X.env).findIdx? (·.1)=none:=by rfl):PG X (.Tuple es k pos) (aGD X.K n t):=by
 intro hV s σ H v u Q I r hw;obtain⟨a,xs,e1,hq,hl,hw⟩:=hw;subst e1;cases r;obtain⟨its,rv,ht,hz⟩:=I.tuple hq;refine assign_Tuple_tuple (I.ok.hd hc) ht (by simp[hn,<-hl,rv.length]) hst λ h' hx=>?_
 have I1:Inv X hV σ H {s with heap:=h'}:=I.kept (t':=s.toks) λ b o e=>hx b o (zAu (zA4 e)) e
 exact h hV _ σ H xs _ Q I1 (by simpa using rv) hw
def aCh(te:TE)(g:TG):TS:=λ D σ H=>te σ H λ x H1=>g x σ H1 D.nx
def aHZ(he:PE X e te)(hg:PG X tg g)(hs:swapsWithSole [tg] e pos.line X.env=pure false:=by rfl)(hw:swappedStores [tg] e X.env=pure none:=by rfl)
  (h1:(zCR [tg] X.env).map (·.2)=[zFO tg X.env]:=by rfl):PS X (.Assign [tg] e pos) (aCh te g):=by
 intro hV s σ H D I h;refine wpAny_Assign_stores (thn (he hV s σ H _ I h) λ v s1 ⟨x,H1,I1,r1,q1⟩=>?_) hs hw;rw[h1];exact thn (hg hV s1 σ H1 x v _ I1 r1 q1) λ _ s2 q=>q
def aDS(hN:X.N.Nodup)(hi:X.N[i]? =some x)(hx:Loc X.env.scope x)(he:PE X e te)(hs:zCB e (some (.Name x pos')) pos.line X.env=pure false:=by rfl)(hf:X.fn x=true\/X.env.scope.names.lookup x=some .local:=by first|exact .inl rfl|exact .inr rfl|assumption):
  PS X (.Assign [.Name x pos'] e pos) (aCh te (qu i)):=by
 intro hV s σ H D I h;refine wpAny_Assign_Name (thn (he hV s σ H _ I h) λ v s1 ⟨y,H1,I1,r1,q1⟩=>?_) hs;exact tG I1 hN hi hx r1 (λ s2 I2=>⟨_,H1,I2,q1⟩) hf
def aIg(i:Nat)(te:TE)(ti:TIp):TS:=λ D σ H=>∃x,σ[i]? =some (some x)/\te σ H λ y H1=>ti x y H1 λ z H2=>D.nx (σ.set i (some z)) H2
def aDV(hN:X.N.Nodup)(hi:X.N[i]? =some x)(hx:Loc X.env.scope x)(he:PE X e te)(ho:PIp X op ti)(hf:X.fn x=true\/X.env.scope.names.lookup x=some .local:=by first|exact .inl rfl|exact .inr rfl|assumption):
  PS X (.AugAssign (.Name x pos') op e pos) (aIg i te ti):=by
 intro hV s σ H D I h;obtain⟨v,e1,h⟩:=h;obtain⟨m,hn,hl⟩:=I.loc;have vis:Vis X.env.scope x:=by rcases hx with k|k;exact .inl k;exact .inr (.inl k)
 obtain⟨u,r,l⟩:=hl i x v hi e1 vis;refine wpAny_AugAssign_Name ?_;have go:wpAny (model X.prog X.w) X.A (eval e X.env) (λ w zS=>wpAny (model X.prog X.w) X.A (zGd op u w) (λ r zI=>wpAny (model X.prog X.w) X.A (storeName X.env x r) (λ _=>SP X hV D .next) X.xe zI) X.xe zS) X.xe s:=by
  refine thn (he hV s σ H _ I h) λ w s1 ⟨y,H1,I1,r1,q1⟩=>?_
  refine thn (ho hV s1 σ H1 v y u w _ I1 r r1 q1) λ z s2 ⟨zv,H2,I2,r2,q2⟩=>?_
  exact tG I2 hN hi hx r2 (λ s3 I3=>⟨_,H2,I3,q2⟩) hf
 rcases l with ⟨hk,hm⟩|⟨hk,c,hc,hcell⟩
 .exact zGk I.ok.kind hk hn hm go
 .rcases hk with hk|hk
  .exact zGt I.ok.kind hk hc hcell go
  .rcases hx with k|k
   .have:X.env.scope.names.lookup x=some .free:=hk
    rw[k]at this;cases this
   .have:X.env.scope.names.lookup x=some .free:=hk
    rw[k]at this;cases this
def ipI(f:Int->Int->Int):TIp:=λ x y H Q=>∃i j,x= .int i/\y= .int j/\Q (.int (f i j)) H
def aDw:PIp X .Add (ipI λ i j=>i+j):=by
 intro hV s σ H x y v u Q I r1 r2 h;obtain⟨i,j,e1,e2,q⟩:=h;subst e1;subst e2;obtain⟨t,rfl⟩:=r1;obtain⟨t',rfl⟩:=r2;exact iadd_int ⟨.int _,H,I.tok _,⟨_,rfl⟩,q⟩
end
section
variable{X:Cx}{pos:Pos}
def aHB(c:TT)(tb:TS):TS:=λ D σ H=>∃W:Nat->St->Hp->Prop,(∃m,W m σ H)/\∀m σ H,W m σ H->
 c σ H λ b H1=>if b=true then∃N:St->Hp->Prop,(∀σ' H',N σ' H'->∃m',m'<m/\W m' σ' H')/\tb {D with nx:=N,ct:=N,bk:=D.nx} σ H1 else D.nx σ H1
def aDR(hp:zG8 (model X.prog X.w) X.A X.env X.xe)(hc:PT X c tc)(hb:PSs X body tb):PS X (.While c body [] pos) (aHB tc tb):=by
 intro hV s σ H D I h;obtain⟨W,⟨m0,w0⟩,turn⟩:=h;refine wpAny_While (codeAny_whileLoop (λ n s'=>∃σ' H',Inv X hV σ' H' s'/\W n σ' H') ?_ m0 ⟨σ,H,I,w0⟩);rintro n s1 ⟨σ1,H1,I1,w1⟩;refine zCN hp (thn (hc hV s1 σ1 H1 _ I1 (turn n σ1 H1 w1)) λ b s2 ⟨H2,I2,q2⟩=>?_);cases b with
 |true=>
  obtain⟨N,hN,q2⟩:=q2;rw[if_pos rfl];refine zCN hp (thn (hb hV s2 σ1 H2 _ I2 q2) λ f s3 q3=>?_);cases f with
  |next=>
   obtain⟨σ3,H3,I3,n3⟩:=q3;obtain⟨m',hm,w3⟩:=hN σ3 H3 n3;exact⟨m',hm,σ3,H3,I3,w3⟩
  |cont=>
   obtain⟨σ3,H3,I3,n3⟩:=q3;obtain⟨m',hm,w3⟩:=hN σ3 H3 n3;exact⟨m',hm,σ3,H3,I3,w3⟩
  |brk=>exact q3
  |ret v=>exact q3
 |false=>
  rw[if_neg zA3];exact zEA ⟨σ1,H2,I2,q2⟩
end
structure It where
 go:Nat->Hp->Prop
 yld:Nat->Hp->V->Hp->Prop
 stop:Nat->Hp->Prop
def uv(X:Cx)(hV:hZ)(H:Hp)(b:Addr):Prop:=
 H b=none/\b≠X.env.locals/\b∉X.fs/\(b∈X.ex\/X.z5.heap.objs.size<=b)/\(∀x c,X.env.cells.lookup x=some c->c≠b)/\∀p∈X.ta++(X.pn++hV),p.1≠b
def Inv.fpOk(I:Inv X hV σ H s)(hb:s.heap.objs.size<=b)(hn:H' b=none):uv X hV H' b:=by
 refine⟨hn,zFq (zA1 I.lt hb),I.nofs hb,.inr (zAe I.sz hb),λ x c e z=>?_,λ p hp z=>?_⟩
 .obtain⟨v,q⟩:=I.cell x c e
  exact absurd (zA1 q.lt (by rw[z];exact hb)) (zBb _)
 .exact absurd (zA1 (I.pinL hp) (by rw[z];exact hb)) (zBb _)
structure Turn(P:zAZ)(w:World)(K:zAA)(tg:Expr)(J:It)(fp:List Addr)(it:Addr)(tn:Nat->Heap->Prop):Prop where
 mem:it∈fp
 obj:∀i h,tn i h->∀b∈fp,∃o,h.get? b=some o/\∀v,o.data≠.cell v
 keep:∀i h h',tn i h->(∀b∈fp,∀o,h.get? b=some o->h'.get? b=some o)->tn i h'
 item:∀(X:Cx),X.prog=P->X.w=w->X.K=K->X.calm=true->∀(i:Nat) (hV:hZ) (s:zAE) (σ:St) (H:Hp) (E:Value->zAE->Prop),Inv X hV σ H s->(∀b∈fp,uv X hV H b)->tn i s.heap->J.go i H->
  wpAny (model P w) X.A (pyNext (.ref it)) (λ r s1=>∃u,r=some u/\
   wpAny (model P w) X.A (zDz tg (.ref it) u) (λ _ s2=>∃x H',Inv X hV σ H' s2/\RelV x u/\J.yld i H x H'/\tn (i+1) s2.heap/\∀b∈fp,H' b=none) E s1) E s
 done:∀(X:Cx),X.prog=P->X.w=w->X.K=K->X.calm=true->∀(i:Nat) (hV:hZ) (s:zAE) (σ:St) (H:Hp) (E:Value->zAE->Prop),Inv X hV σ H s->(∀b∈fp,uv X hV H b)->tn i s.heap->J.stop i H->
  wpAny (model P w) X.A (pyNext (.ref it)) (λ r s1=>r=none/\Inv X hV σ H s1) E s
 self:∀(A:zAc) (i:Nat) (s:zAE) (Q:Value->zAE->Prop) (E:Value->zAE->Prop),tn i s.heap->Q (.ref it) s->wpAny (model P w) A (pyIter (.ref it)) Q E s
abbrev TI:=St->Hp->(It->Hp->Prop)->Prop
def PIE(X:Cx)(hV:hZ)(σ:St)(tg:Expr)(R:It->Hp->Prop)(itv:Value)(s2:zAE):Prop:=
 ∃(it:Addr) (fp:List Addr) (tn:Nat->Heap->Prop) (J:It) (H':Hp),itv= .ref it/\Inv X hV σ H' s2/\Turn X.prog X.w X.K tg J fp it tn/\tn 0 s2.heap/\(∀b∈fp,uv X hV H' b)/\R J H'
def PI(X:Cx)(tg iter:Expr)(wi:TI):Prop:=
 ∀(hV:hZ) (s:zAE) (σ:St) (H:Hp) (R:It->Hp->Prop),Inv X hV σ H s->wi σ H R->
  wpAny (model X.prog X.w) X.A (eval iter X.env) (λ v s1=>wpAny (model X.prog X.w) X.A (pyIter v) (PIE X hV σ tg R) X.xe s1) X.xe s
def aEJ(ho:s.heap.get? it=some o)(hc:o.cls= .type n)(hd:o.data= .fields vs)
    (hn:["enumerate","zip","dict_itemiterator","dict_reverseitemiterator","odict_iterator","itertools.zip_longest","itertools.pairwise"].contains n=false)(hQ:Q () s):wpAny M A (zDz tg (.ref it) u) Q E s:=by
  unfold zDz;cases tg<;>first
    |exact zA7 hQ
    | (cases u <;> first
        |exact zA7 hQ
        | (refine zAR (wpAny_load ho ?_)
           rw[hc,hd];show wpAny M A (if (["enumerate","zip","dict_itemiterator","dict_reverseitemiterator","odict_iterator","itertools.zip_longest","itertools.pairwise"].contains n&&vs[0]? ==some (rawInt _))=true then _ else _) Q E s;rw[if_neg (by intro h;rw[hn,Bool.false_and]at h;cases h)];exact zA7 hQ))
def Itl(K:zAA)(a:Addr):It:=
 ⟨λ i H=>∃xs x,SqL K H a xs/\xs[i]? =some x,λ i H x H'=>H'=H/\∀xs,SqL K H a xs->xs[i]? =some x,λ i H=>∃xs,SqL K H a xs/\xs.length<=i⟩
def Itt(K:zAA)(a:Addr):It:=
 ⟨λ i H=>∃xs x,SqT K H a xs/\xs[i]? =some x,λ i H x H'=>H'=H/\∀xs,SqT K H a xs->xs[i]? =some x,λ i H=>∃xs,SqT K H a xs/\xs.length<=i⟩
def Itr(lo:Int)(n:Nat):It:=⟨λ i _=>i<n,λ i H x H'=>H'=H/\x= .int (lo+i),λ i _=>n<=i⟩
def aBq{P:zAZ}{w:World}{K:zAA}{tg:Expr}(a it:Addr):Turn P w K tg (Itl K a) [it] it (λ i h=>h.IsListIter it a i) where
 mem:=by simp
 obj:=λ i h st b hb=>by
  have e:b=it:=by simpa using hb
  subst e;obtain⟨o,e,c,d⟩:=st;exact⟨o,e,λ v z=>by rw[d]at z;cases z⟩
 keep:=λ i h h' st k=>st.at λ o e=>k it (by simp) o e
 item:=by
  intro X hP hw hK hc i hV s σ H E I hf st hg;subst hP hw hK;obtain⟨xs,x,hq,hx⟩:=hg;obtain⟨its,rv,p,hz⟩:=I.list hq;obtain⟨u,hu,ru⟩:=rv.get hx;obtain⟨f0,f1,f2,f3,f4,f5⟩:=hf it (by simp);refine wpAny_pyNext_list_item st p.isList (x:=u) (by simpa using hu) λ h' st' sb=>?_
  have I1:Inv X hV σ H {s with heap:=h'}:=I.turned (t':=s.toks) (λ b o hb e=>(sb.2 b hb).trans e) f0 f1 f3 f4 f5;obtain⟨o,e,c,d⟩:=id st';exact⟨u,rfl,aEJ (s:={s with heap:=h'}) e c d (by decide) ⟨x,H,I1,ru,⟨rfl,λ ys hy=>by rw[I.list_inj hy hq];exact hx⟩,st',λ b hb=>(hf b hb).1⟩⟩
 done:=by
  intro X hP hw hK hc i hV s σ H E I hf st hg;subst hP hw hK;obtain⟨xs,hq,hx⟩:=hg;obtain⟨its,rv,p,hz⟩:=I.list hq;obtain⟨f0,f1,f2,f3,f4,f5⟩:=hf it (by simp);have hl:=rv.length;exact wpAny_pyNext_list_end (I.ok.hd hc) st p.isList (by simp;lia) λ h' eb=>⟨rfl,I.turned (t':=s.toks) (λ b o hb e=>eb b o hb e) f0 f1 f3 f4 f5⟩
 self:=λ _ _ _ _ _ st h=>wpAny_pyIter_listiter st h
def aAF{P:zAZ}{w:World}{K:zAA}{tg:Expr}(a it:Addr):Turn P w K tg (Itt K a) [it] it (λ i h=>h.IsTupleIter it a i) where
 mem:=by simp
 obj:=λ i h st b hb=>by
  have e:b=it:=by simpa using hb
  subst e;obtain⟨o,e,c,d⟩:=st;exact⟨o,e,λ v z=>by rw[d]at z;cases z⟩
 keep:=λ i h h' st k=>st.at λ o e=>k it (by simp) o e
 item:=by
  intro X hP hw hK hc i hV s σ H E I hf st hg;subst hP hw hK;obtain⟨xs,x,hq,hx⟩:=hg;obtain⟨its,rv,p,hz⟩:=I.tuple hq;obtain⟨u,hu,ru⟩:=rv.get hx;obtain⟨f0,f1,f2,f3,f4,f5⟩:=hf it (by simp);refine wpAny_pyNext_tuple_item st (show s.heap.IsTuple a its.toArray from p) (x:=u) (by simpa using hu) λ h' st' sb=>?_
  have I1:Inv X hV σ H {s with heap:=h'}:=I.turned (t':=s.toks) (λ b o hb e=>(sb.2 b hb).trans e) f0 f1 f3 f4 f5;obtain⟨o,e,c,d⟩:=id st';exact⟨u,rfl,aEJ (s:={s with heap:=h'}) e c d (by decide) ⟨x,H,I1,ru,⟨rfl,λ ys hy=>by rw[I.tuple_inj hy hq];exact hx⟩,st',λ b hb=>(hf b hb).1⟩⟩
 done:=by
  intro X hP hw hK hc i hV s σ H E I hf st hg;subst hP hw hK;obtain⟨xs,hq,hx⟩:=hg;obtain⟨its,rv,p,hz⟩:=I.tuple hq;obtain⟨f0,f1,f2,f3,f4,f5⟩:=hf it (by simp);have hl:=rv.length;exact wpAny_pyNext_tuple_end (I.ok.hd hc) st (show s.heap.IsTuple a its.toArray from p) (by simp;lia) λ h' eb=>⟨rfl,I.turned (t':=s.toks) (λ b o hb e=>eb b o hb e) f0 f1 f3 f4 f5⟩
 self:=λ _ _ _ _ _ st h=>wpAny_pyIter_tupleiter st h
def aAG{P:zAZ}{w:World}{K:zAA}{tg:Expr}(it:Addr)(lo:Int)(n:Nat):Turn P w K tg (Itr lo n) [it] it (λ i h=>IsRangeIter h it (lo+(i:Nat)*1) ((n:Int)-(i:Nat)) 1) where
 mem:=by simp
 obj:=λ i h st b hb=>by
  have e:b=it:=by simpa using hb
  subst e;exact⟨_,st,λ v z=>by
   have z':Data.fields _=Data.cell v:=z;cases z'⟩
 keep:=λ i h h' st k=>k it (by simp) _ st
 item:=by
  intro X hP hw hK hc i hV s σ H E I hf st hg;subst hP hw hK;obtain⟨f0,f1,f2,f3,f4,f5⟩:=hf it (by simp);have W:=Walks.range (prog:=X.prog) (w:=X.w) (I.ok.hd hc) it lo 1 n;refine W.item i s _ _ hg st λ v h' tk hv st' kk=>?_
  obtain⟨t,rfl⟩:=hv;have I1:Inv X hV σ H {s with heap:=h',toks:=tk}:=I.turned (λ b o hb e=>kk b o (by simpa using hb) e) f0 f1 f3 f4 f5;refine⟨_,rfl,aEJ (s:={s with heap:=h',toks:=tk}) (n:="range_iterator") st' rfl rfl (by decide) ⟨.int (lo+i),H,I1,⟨t,?_⟩,⟨rfl,rfl⟩,st',λ b hb=>(hf b hb).1⟩⟩;rw[Int.mul_one]
 done:=by
  intro X hP hw hK hc i hV s σ H E I hf st hg;subst hP hw hK;obtain⟨f0,f1,f2,f3,f4,f5⟩:=hf it (by simp);exact wpAny_pyNext_range_end (I.ok.hd hc) st (by have:n<=i:=hg;lia) λ h' eb=>⟨rfl,I.turned (t':=s.toks) (λ b o hb e=>eb b o hb e) f0 f1 f3 f4 f5⟩
 self:=λ _ _ _ _ _ st h=>wpAny_pyIter_rangeiter st h
section
variable{X:Cx}{tg:Expr}
def yo{hV:hZ}{σ:St}{H:Hp}{s:zAE}{R:It->Hp->Prop}{E:Value->zAE->Prop}{lo hi:Int}{t u v:Tok}{tk:Nat}(I:Inv X hV σ H s)(h1: -(2^62)<=lo)(h2:lo<2^62)(h3: -(2^62)<=hi)(h4:hi<2^62)
  (q:R (Itr lo (hi-lo).toNat) H):wpAny (model X.prog X.w) X.A (pyIter (.ref s.heap.objs.size)) (PIE X hV σ tg R) E {s with heap:=s.heap.push {cls:=.type "range",data:=.fields #[.int lo t,.int hi u,.int 1 v]},toks:=tk}:=by
 refine wpAny_pyIter_range (IsRange.new ..) (small_one h1 h2 h3 h4) ?_;have I1:Inv X hV σ H {s with heap:=s.heap.push {cls:=.type "range",data:=.fields #[.int lo t,.int hi u,.int 1 v]},toks:=tk}:=I.kept λ b o e=>zAG _ e
 refine⟨(s.heap.push {cls:=.type "range",data:=.fields #[.int lo t,.int hi u,.int 1 v]}).objs.size,[(s.heap.push {cls:=.type "range",data:=.fields #[.int lo t,.int hi u,.int 1 v]}).objs.size],_,_,H,rfl,
  I1.kept (t':=tk) λ b o e=>zAG _ e,aAG _ lo (hi-lo).toNat,?_,λ b hb=>?_,q⟩
 .have e1:lo+((0:Nat):Int)*1=lo:=by simp
  have e2:(((hi-lo).toNat:Nat):Int)-((0:Nat):Int)=zAy lo hi 1:=by rw[rangeSize_one];split<;>lia
  show IsRangeIter _ _ (lo+((0:Nat):Int)*1) ((((hi-lo).toNat:Nat):Int)-((0:Nat):Int)) 1;rw[e1,e2];exact zA6 _ rfl
 .have e:b=(s.heap.push {cls:=.type "range",data:=.fields #[.int lo t,.int hi u,.int 1 v]}).objs.size:=by simpa using hb
  subst e;exact I1.fpOk (zAU _) (I1.hok.fresh (zAU _))
def aJS(ta:TA):TI:=λ σ H R=>ta σ H λ vs H1=>∃j:Int,vs=[.int j]/\-(2^62)<=j/\j<2^62/\R (Itr 0 j.toNat) H1
def aJR(ta:TA):TI:=λ σ H R=>ta σ H λ vs H1=>∃i j:Int,vs=[.int i,.int j]/\(-(2^62)<=i/\i<2^62/\-(2^62)<=j/\j<2^62)/\R (Itr i (j-i).toNat) H1
def aCD{a:Expr}{ta:TA}{p pos:Pos}(hg:Gl X "range")(hm:X.mg "range"=none)(ha:PA X [a] ta)(hs:zAX [a] X.env=[(false,eval a X.env)]:=by rfl):PI X tg (.Call (.Name "range" p) [a] [] pos) (aJS ta):=by
 intro hV s σ H R I h;refine Call_ (qP I hg hm zFz (zC3 (thn (ha pos hV s σ H _ I h) λ us s1 ⟨vs,H1,I1,r1,q1⟩=>?_) hs rfl));obtain⟨j,e,q1,q2,q⟩:=q1;subst e;cases r1 with
 |cons r rr=>
  cases rr;obtain⟨t,rfl⟩:=r;exact call_range_1 (yo I1 (by lia) (by lia) q1 q2 (by simpa using q))
def aCC(hg:Gl X "range")(hm:X.mg "range"=none)(ha:PA X [a,b] ta)(hs:zAX [a,b] X.env=[(false,eval a X.env),(false,eval b X.env)]:=by rfl)(hs2:zAX [b] X.env=[(false,eval b X.env)]:=by rfl):
  PI X tg (.Call (.Name "range" p) [a,b] [] pos) (aJR ta):=by
 intro hV s σ H R I h;refine Call_ (qP I hg hm zFz (zC3 (thn (ha pos hV s σ H _ I h) λ us s1 ⟨vs,H1,I1,r1,q1⟩=>?_) (by rw[hs,hs2]) (by rw[hs2];rfl)));obtain⟨i,j,e,⟨q1,q2,q3,q4⟩,q⟩:=q1;subst e;cases r1 with
 |cons r rr=>
  cases rr with
  |cons r' rr=>
   cases rr;obtain⟨t,rfl⟩:=r;obtain⟨t',rfl⟩:=r';exact call_range_2 (yo I1 q1 q2 q3 q4 q)
def aIf(wi:TI)(g:TG)(tb:TS):TS:=λ D σ H=>wi σ H λ J H1=>∃W:Nat->Nat->St->Hp->Prop,(∃m,W 0 m σ H1)/\∀i m σ H,W i m σ H->
 (J.stop i H/\D.nx σ H)\/(J.go i H/\∃N:St->Hp->Prop,(∀σ' H',N σ' H'->∃m',m'<m/\W (i+1) m' σ' H')/\∀x H',J.yld i H x H'->g x σ H' λ σ2 H2=>tb {D with nx:=N,ct:=N,bk:=D.nx} σ2 H2)
def uE(fp:List Addr)(h:Heap):hZ:=fp.filterMap λ b=>(h.get? b).map λ o=>(b,o)
def oF(hb:b∈fp)(e:h.get? b=some o):(b,o)∈uE fp h:=zBx.mpr ⟨b,hb,by rw[e];rfl⟩
def v7(hp:p∈uE fp h):p.1∈fp/\h.get? p.1=some p.2:=by
 obtain⟨b,hb,e⟩:=zBx.mp hp;cases q:h.get? b with
 |none=>rw[q]at e;cases e
 |some o=>
  rw[q]at e;have e':(b,o)=p:=zAl e;subst e';exact⟨hb,q⟩
def Inv.pinned(I:Inv X hV σ H s)(hf:∀b∈fp,uv X hV H b)(ho:∀b∈fp,∃o,s.heap.get? b=some o/\∀v,o.data≠.cell v):Inv X (hV++uE fp s.heap) σ H s:=
 I.pins_of (λ p hp=>(zAO.mp hp).elim (λ z=>I.pin p (zAY _ z)) λ z=>by
  obtain⟨hb,e⟩:=v7 z;obtain⟨f0,f1,f2,_⟩:=hf p.1 hb;obtain⟨o,e',d⟩:=ho p.1 hb;rw[e]at e';cases e';exact⟨e,f0,f1,f2,d⟩) λ q hq p hp=>(zAO.mp hq).elim (λ z=>(I.tab p hp).2.2.2.1 q (zAY _ z)) λ z=>((hf q.1 (v7 z).1).2.2.2.2.2 p (zAI _ hp)).symm
def Inv.unpinned(I:Inv X (hV++pl) σ H s):Inv X hV σ H s:=I.pins_of (λ p hp=>I.pin p (zAY _ (zAI _ hp))) λ q hq p hp=>(I.tab p hp).2.2.2.1 q (zAY _ (zAI _ hq))
def aDU(hp:zG8 (model X.prog X.w) X.A X.env X.xe)(hc:X.calm=true)(hi:PI X tg iter wi)(hg:PG X tg g)(hb:PSs X body tb)
  (hs:∀x,zB3 iter X.env x=pure x:=by intro _;rfl):PS X (.For tg iter body [] pos) (aIf wi g tb):=by
 intro hV s σ H D I h;refine wpAny_For (thn (hi hV s σ H _ I h) λ v s1 h1=>thn h1 λ itv s2 h2=>?_) hs;obtain⟨it,fp,tn,J,H2,e,I2,T,st2,f2,W,⟨m0,w0⟩,turn⟩:=h2;subst e;have qV:∀{H':Hp},(∀b∈fp,H' b=none)->∀b∈fp,uv X hV H' b:=λ hn b hb=>⟨hn b hb,(f2 b hb).2⟩
 refine codeAny_forLoop_any (λ n s'=>∃i σ' H',Inv X hV σ' H' s'/\tn i s'.heap/\(∀b∈fp,H' b=none)/\W i n σ' H') ?_ m0 ⟨0,σ,H2,I2,st2,λ b hb=>(f2 b hb).1,w0⟩;rintro n s3 ⟨i,σ3,H3,I3,st3,fr3,w3⟩;rcases turn i n σ3 H3 w3 with ⟨stop,qn⟩|⟨go,N,hN,step⟩
 .refine zCN hp (thn (T.done X rfl rfl rfl hc i hV s3 σ3 H3 X.xe I3 (qV fr3) st3 stop) λ r s4 ⟨hr,I4⟩=>?_)
  subst hr;exact zEA ⟨σ3,H3,I4,qn⟩
 .refine zCN hp (thn (T.item X rfl rfl rfl hc i hV s3 σ3 H3 X.xe I3 (qV fr3) st3 go) λ r s4 ⟨u,hr,h4⟩=>?_)
  subst hr;refine zCN hp (thn h4 λ _ s5 ⟨x,H5,I5,r5,y5,st5,fr5⟩=>?_);have I5':=I5.pinned (qV fr5) (T.obj _ _ st5);refine zCN hp (thn (hg _ s5 σ3 H5 x u _ I5' r5 (step x H5 y5)) λ _ s6 ⟨σ6,H6,I6,q6⟩=>?_);refine zCN hp (thn (hb _ s6 σ6 H6 _ I6 q6) λ f s7 q7=>?_);have again:∀{σ7:St} {H7:Hp},Inv X (hV++uE fp s5.heap) σ7 H7 s7->N σ7 H7->∃m,m<n/\∃i σ' H',Inv X hV σ' H' s7/\tn i s7.heap/\(∀b∈fp,H' b=none)/\W i m σ' H':=λ{σ7 H7} I7 n7=>by
   obtain⟨m',hm,w7⟩:=hN σ7 H7 n7;refine⟨m',hm,i+1,σ7,H7,I7.unpinned,T.keep _ _ _ st5 λ b hb o e=>(I7.pin (b,o) (zAY _ (zAY _ (oF hb e)))).1,λ b hb=>?_,w7⟩;obtain⟨o,e,d⟩:=T.obj _ _ st5 b hb;exact(I7.pin (b,o) (zAY _ (zAY _ (oF hb e)))).2.1
  cases f with
  |next=>obtain⟨σ7,H7,I7,n7⟩:=q7;exact again I7 n7
  |cont=>obtain⟨σ7,H7,I7,n7⟩:=q7;exact again I7 n7
  |brk=>obtain⟨σ7,H7,I7,q7⟩:=q7;exact⟨σ7,H7,I7.unpinned,q7⟩
  |ret v=>obtain⟨x7,σ7,H7,I7,r7,q7⟩:=q7;exact⟨x7,σ7,H7,I7.unpinned,r7,q7⟩
end
abbrev R2:=V->V->Hp->VK->Prop
def OpR(X:Cx)(f:Value->Value->Sem Value)(r:R2):Prop:=
 ∀(hV:hZ) (s:zAE) (σ:St) (H:Hp) (x y:V) (v u:Value) (Q:VK),Inv X hV σ H s->RelV x v->RelV y u->r x y H Q->
  wpAny (model X.prog X.w) X.A (f v u) (EP X hV σ Q) X.xe s
def UnR(X:Cx)(f:Value->Sem Value)(r:V->Hp->VK->Prop):Prop:=
 ∀(hV:hZ) (s:zAE) (σ:St) (H:Hp) (x:V) (v:Value) (Q:VK),Inv X hV σ H s->RelV x v->r x H Q->
  wpAny (model X.prog X.w) X.A (f v) (EP X hV σ Q) X.xe s
def cZ(X:Cx)(f:Value)(r:List V->Hp->VK->Prop):Prop:=
 ∀(hV:hZ) (s:zAE) (σ:St) (H:Hp) (xs:List V) (us:List Value) (Q:VK),Inv X hV σ H s->Vals xs us->r xs H Q->
  wpAny (model X.prog X.w) X.A (call f us) (EP X hV σ Q) X.xe s
def aJo(X:Cx)(r:V->Hp->(Bool->Hp->Prop)->Prop):Prop:=
 ∀(hV:hZ) (s:zAE) (σ:St) (H:Hp) (x:V) (v:Value) (Q:Bool->Hp->Prop),Inv X hV σ H s->RelV x v->r x H Q->
  wpAny (model X.prog X.w) X.A (truthy v) (TP X hV σ Q) X.xe s
def tOp(r:R2)(ta tb:TE):TE:=λ σ H Q=>ta σ H λ x H1=>tb σ H1 λ y H2=>r x y H2 Q
def tUn(r:V->Hp->VK->Prop)(ta:TE):TE:=λ σ H Q=>ta σ H λ x H1=>r x H1 Q
def rI(C:Int->Int->Prop)(g:Int->Int->V):R2:=λ x y H Q=>∃i j,x= .int i/\y= .int j/\C i j/\Q (g i j) H
def rI0(g:Int->Int->V):R2:=λ x y H Q=>∃i j,x= .int i/\y= .int j/\Q (g i j) H
def rU(g:Int->V):V->Hp->VK->Prop:=λ x H Q=>∃i,x= .int i/\Q (g i) H
section
variable{X:Cx}{a b:Expr}{ta tb:TE}{pos:Pos}
def aI3(ha:PE X a ta)(hb:PE X b tb){hV:hZ}{s:zAE}{σ:St}{H:Hp}{R:V->V->Hp->Prop}(I:Inv X hV σ H s)
  (h:ta σ H λ x H1=>tb σ H1 λ y H2=>R x y H2){Q:Value->zAE->Prop}{f:Value->Value->Sem Value}
  (hf:∀v u s2 x y H2,Inv X hV σ H2 s2->RelV x v->RelV y u->R x y H2->wpAny (model X.prog X.w) X.A (f v u) Q X.xe s2):
  wpAny (model X.prog X.w) X.A (eval a X.env) (λ v z3=>wpAny (model X.prog X.w) X.A (eval b X.env) (λ u zS=>wpAny (model X.prog X.w) X.A (f v u) Q X.xe zS) X.xe z3) X.xe s:=by
 refine thn (ha hV s σ H _ I h) λ v s1 ⟨x,H1,I1,r1,q1⟩=>?_
 refine thn (hb hV s1 σ H1 _ I1 q1) λ u s2 ⟨y,H2,I2,r2,q2⟩=>?_
 exact hf v u s2 x y H2 I2 r1 r2 q2
def aIz{op:Operator}{r:R2}(ho:OpR X (zB9 op) r)(ha:PE X a ta)(hb:PE X b tb):PE X (.BinOp a op b pos) (tOp r ta tb):=by
 intro hV s σ H Q I h;exact wpAny_BinOp (aI3 ha hb I h λ v u s2 x y H2 I2 rx ry q=>ho hV s2 σ H2 x y v u Q I2 rx ry q)
def aIx(ho:UnR X (unaryOp op) r)(ha:PE X a ta):PE X (.UnaryOp op a pos) (tUn r ta):=by
 intro hV s σ H Q I h;exact UnaryOp_ (thn (ha hV s σ H _ I h) λ v s1 ⟨x,H1,I1,r1,q1⟩=>ho hV s1 σ H1 x v Q I1 r1 q1)
def opI{f:Value->Value->Sem Value}{C:Int->Int->Prop}{g:Int->Int->Int}
  (rule:∀(i j:Int) (t u:Tok) (s:zAE) (Q:Value->zAE->Prop) (E:Value->zAE->Prop),C i j->Q (.int (g i j) s.toks) {s with toks:=s.toks+1}->wpAny (model X.prog X.w) X.A (f (.int i t) (.int j u)) Q E s):
  OpR X f (rI C λ i j=>.int (g i j)):=by
 intro hV s σ H x y v u Q I rx ry h;obtain⟨i,j,rfl,rfl,hc,q⟩:=h;obtain⟨t,rfl⟩:=rx;obtain⟨t',rfl⟩:=ry;exact rule i j t t' s _ _ hc ⟨.int (g i j),H,I.tok _,⟨_,rfl⟩,q⟩
def aJH{f:Value->Value->Sem Value}{g:Int->Int->Int}
  (rule:∀(i j:Int) (t u:Tok) (s:zAE) (Q:Value->zAE->Prop) (E:Value->zAE->Prop),Q (.int (g i j) s.toks) {s with toks:=s.toks+1}->wpAny (model X.prog X.w) X.A (f (.int i t) (.int j u)) Q E s):
  OpR X f (rI0 λ i j=>.int (g i j)):=by
 intro hV s σ H x y v u Q I rx ry h;obtain⟨i,j,rfl,rfl,q⟩:=h;obtain⟨t,rfl⟩:=rx;obtain⟨t',rfl⟩:=ry;exact rule i j t t' s _ _ ⟨.int (g i j),H,I.tok _,⟨_,rfl⟩,q⟩
def aF5{f:Value->Value->Sem Value}{g:Int->Int->Bool}
  (rule:∀(i j:Int) (t u:Tok) (s:zAE) (Q:Value->zAE->Prop) (E:Value->zAE->Prop),Q (.bool (g i j)) s->wpAny (model X.prog X.w) X.A (f (.int i t) (.int j u)) Q E s):
  OpR X f (rI0 λ i j=>.bl (g i j)):=by
 intro hV s σ H x y v u Q I rx ry h;obtain⟨i,j,rfl,rfl,q⟩:=h;obtain⟨t,rfl⟩:=rx;obtain⟨t',rfl⟩:=ry;exact rule i j t t' s _ _ ⟨.bl (g i j),H,I,rfl,q⟩
def aJ3(i j:Int):Prop:=0<j/\j<1073741824
def aJt(i j:Int):Prop:=0<=j/\j<=1000000/\i.natAbs<2^64
def aG1(i j:Int):Prop:=(-(2^64)<i/\i<2^64)\/(-(2^64)<j/\j<2^64)
def aG1.ok(h:aG1 i j):IntMulOk i j:=by
 rcases h with ⟨h1,h2⟩|⟨h1,h2⟩
 .exact .of_left (intBits_le_64 h1 h2)
 .exact .of_right (intBits_le_64 h1 h2)
def aHv:OpR X (zB9 .Add) (rI0 λ i j=>.int (i+j)):=aJH λ _ _ _ _ _ _ _ q=>add_int q
def aHi:OpR X (zB9 .Sub) (rI0 λ i j=>.int (i-j)):=aJH λ _ _ _ _ _ _ _ q=>sub_int q
def aHm:OpR X (zB9 .Mult) (rI aG1 λ i j=>.int (i*j)):=opI λ _ _ _ _ _ _ _ hc q=>mul_int q hc.ok
def aF0:OpR X (zB9 .FloorDiv) (rI aJ3 λ i j=>.int (i / j)):=opI λ i j _ _ _ _ _ hc q=>by
 have h1:(0:Int)<j:=hc.1;have h2:j<1073741824:=hc.2;exact floordiv_int (by lia) (by rw[Int.fdiv_eq_ediv_of_nonneg i (by lia)];exact q) (.inl (PyProof.noPylong_small (by lia)))
def aHn:OpR X (zB9 .Mod) (rI (λ _ j=>0<j) λ i j=>.int (i%j)):=opI λ i j _ _ _ _ _ hc q=>by
 have h1:(0:Int)<j:=hc;exact mod_int' (by lia) (by rw[Int.fmod_eq_emod_of_nonneg i (by lia)];exact q)
def aHk:OpR X (zB9 .Pow) (rI aJt λ i j=>.int (i^j.toNat)):=opI λ _ _ _ _ _ _ _ hc q=>pow_int_small hc.1 hc.2.1 hc.2.2 q
def unI{f:Value->Sem Value}{g:Int->Int}
  (rule:∀(i:Int) (t:Tok) (s:zAE) (Q:Value->zAE->Prop) (E:Value->zAE->Prop),Q (.int (g i) s.toks) {s with toks:=s.toks+1}->wpAny (model X.prog X.w) X.A (f (.int i t)) Q E s):
  UnR X f (rU λ i=>.int (g i)):=by
 intro hV s σ H x v Q I rx h;obtain⟨i,rfl,q⟩:=h;obtain⟨t,rfl⟩:=rx;exact rule i t s _ _ ⟨.int (g i),H,I.tok _,⟨_,rfl⟩,q⟩
def aGv:UnR X (unaryOp .USub) (rU λ i=>.int (-i)):=unI λ _ _ _ _ _ q=>neg_int q
end
section
variable{X:Cx}{a b c:Expr}{ta tb tc:TE}{pos:Pos}
def aIY(I:Inv X hV σ H s)(q:Q (.bl k) H)(e:k=k'):EP X hV σ Q (.bool k') s:=by
 subst e;exact⟨.bl k,H,I,rfl,q⟩
def aJD:OpR X (zAp .Lt) (rI0 λ i j=>.bl (decide (i<j))):=aF5 λ _ _ _ _ _ _ _ q=>lt_int q
def aJE:OpR X (zAp .LtE) (rI0 λ i j=>.bl (decide (i<=j))):=aF5 λ _ _ _ _ _ _ _ q=>le_int q
def aJF:OpR X (zAp .Gt) (rI0 λ i j=>.bl (decide (j<i))):=aF5 λ _ _ _ _ _ _ _ q=>gt_int q
def aJG:OpR X (zAp .GtE) (rI0 λ i j=>.bl (decide (j<=i))):=aF5 λ _ _ _ _ _ _ _ q=>ge_int q
def aFX:OpR X (zAp .IsNot) (λ x y H Q=>y= .non/\Q (.bl (!decide (x= .non))) H):=by
 intro hV s σ H x y v u Q I rx ry h;obtain⟨rfl,q⟩:=h;cases ry;refine isnot_none_gen (aIY I q ?_);cases x<;>first
  |(cases rx;rfl)
  |(obtain⟨t,rfl⟩:=rx;rfl)
def isObj:HO->Bool
 | .lst _=>true
 | .ins _ _ _=>true
 |_=>false
def OpR.or(h:OpR X f r)(h':OpR X f r'):OpR X f (λ x y H Q=>r x y H Q\/r' x y H Q):=by
 intro hV s σ H x y v u Q I rx ry q;rcases q with q|q
 .exact h hV s σ H x y v u Q I rx ry q
 .exact h' hV s σ H x y v u Q I rx ry q
def aDf(b:Expr)(h:op≠.In:=by decide)(h2:op≠.NotIn:=by decide):zBy op b=false:=by
 have e1:(op==CmpOp.In)=false:=by cases op<;>first|rfl|exact absurd rfl h
 have e2:(op==CmpOp.NotIn)=false:=by cases op<;>first|rfl|exact absurd rfl h2
 cases b<;>simp[zBy,e1,e2]
def aFN{op:CmpOp}{r:R2}(ho:OpR X (zAp op) r)(ha:PE X a ta)(hb:PE X b tb)(hm:zBy op b=false):PE X (.Compare a [op] [b] pos) (tOp r ta tb):=by
 intro hV s σ H Q I h;exact wpAny_Compare1 (aI3 ha hb I h λ v u s2 x y H2 I2 rx ry q=>ho hV s2 σ H2 x y v u Q I2 rx ry q) hm
def aG2(t:TE):TT:=λ σ H Q=>t σ H λ x H'=>∃k,x= .bl k/\Q k H'
def aFE(ho:OpR X (zAp op) r)(ha:PE X a ta)(hb:PE X b tb)(hm:zBy op b=false):PT X (.Compare a [op] [b] pos) (aG2 (tOp r ta tb)):=by
 intro hV s σ H Q I h;refine wpAny_isTrue_Compare1 (thn (ha hV s σ H _ I h) λ v s1 ⟨x,H1,I1,r1,q1⟩=>thn (hb hV s1 σ H1 _ I1 q1) λ u s2 ⟨y,H2,I2,r2,q2⟩=>
  thn (ho hV s2 σ H2 x y v u _ I2 r1 r2 q2) λ c s3 ⟨z,H3,I3,r3,k,e,q3⟩=>?_) hm
 subst e;cases r3;exact zBu ⟨H3,I3,q3⟩
def aCg(r r':R2)(ta tb tc:TE):TE:=λ σ H Q=>ta σ H λ x H1=>tb σ H1 λ y H2=>r x y H2 λ z H3=>∃k,z= .bl k/\
 (if k=true then tc σ H3 λ w' H4=>r' y w' H4 Q else Q (.bl false) H3)
def aD2(ho:OpR X (zAp op) r)(ho':OpR X (zAp op') r')(ha:PE X a ta)(hb:PE X b tb)(hc:PE X c tc)
  (hm:zGe [op,op'] [b,c]=false:=by with_unfolding_all rfl):PE X (.Compare a [op,op'] [b,c] pos) (aCg r r' ta tb tc):=by
 intro hV s σ H Q I h;refine Compare_chain (thn (ha hV s σ H _ I h) λ v s1 ⟨x,H1,I1,r1,q1⟩=>chain_link (thn (hb hV s1 σ H1 _ I1 q1) λ u s2 ⟨y,H2,I2,r2,q2⟩=>
  thn (ho hV s2 σ H2 x y v u _ I2 r1 r2 q2) λ d s3 ⟨z,H3,I3,r3,k,e,q3⟩=>?_)) hm
 subst e;cases r3;refine zBu ?_;cases k with
 |false=>exact ite_ff ⟨.bl false,H3,I3,rfl,q3⟩
 |true=>exact ite_tt (chain_last (thn (hc hV s3 σ H3 _ I3 q3) λ w' s4 ⟨z',H4,I4,r4,q4⟩=>ho' hV s4 σ H4 y z' u w' Q I4 r2 r4 q4))
def aI5(K:zAA)(x:V)(H:Hp)(k:Bool):Prop:=
 match x with
 | .non=>k=false
 | .bl b=>k=b
 | .int i=>k=(i !=0)
 | .str y=>y.length<=zAQ/\k=((y.length:Int)!=0)
 | .byt y=>y.size<=zAQ/\k=((y.size:Int)!=0)
 | .ref p=>(∃xs,SqL K H p xs/\k= !xs.isEmpty)\/(∃xs,SqT K H p xs/\k= !xs.isEmpty)\/∃kvs,H p=some (.dK kvs)/\k= !kvs.isEmpty
 |_=>False
def aAs(r:KV kvs vs):(!vs.isEmpty)= !kvs.isEmpty:=by
 cases r<;>rfl
def uR(r:Vals xs its):(!its.toArray.isEmpty)= !xs.isEmpty:=by
 cases r<;>simp
def uM:(zAQ:Nat)<2^63:=by rw[zBz];decide
def aGz:aJo X (λ x H Q=>∃k,aI5 X.K x H k/\Q k H):=by
 intro hV s σ H x v Q I rx h;obtain⟨k,e,q⟩:=h;have hl:=uM;have hs:zAQ=16777216:=zBz;cases x with
 |non=>
  cases rx;have e':k=false:=e;subst e';exact truthy_none ⟨H,I,q⟩
 |bl b=>
  cases rx;have e':k=b:=e;subst e';exact zBu ⟨H,I,q⟩
 |int i=>
  obtain⟨t,rfl⟩:=rx;have e':k=(i !=0):=e;subst e';exact PySem.P.truthy_int ⟨H,I,q⟩
 |str y=>
  obtain⟨t,rfl⟩:=rx;obtain⟨hy,e'⟩:y.length<=zAQ/\k=((y.length:Int)!=0):=e;subst e';exact PySem.P.truthy_str (by lia) ⟨H,I.tok _,q⟩
 |byt y=>
  obtain⟨t,rfl⟩:=rx;obtain⟨hy,e'⟩:y.size<=zAQ/\k=((y.size:Int)!=0):=e;subst e';exact PySem.W.truthy_bytes (by lia) ⟨H,I.tok _,q⟩
 |ref p=>
  cases rx;have e':(∃xs,SqL X.K H p xs/\k= !xs.isEmpty)\/(∃xs,SqT X.K H p xs/\k= !xs.isEmpty)\/∃kvs,H p=some (.dK kvs)/\k= !kvs.isEmpty:=e
  rcases e' with ⟨xs,hx,e'⟩|⟨xs,hx,e'⟩|⟨kvs,hx,e'⟩
  .subst e'
   obtain⟨its,r,pl,hz⟩:=I.list hx;have hW:=r.length;exact wpAny_truthy_list pl.isList (by simp only[zAH];lia) ⟨H,I.tok _,by rw[uR r];exact q⟩
  .subst e'
   obtain⟨its,r,pl,hz⟩:=I.tuple hx;have hW:=r.length;exact truthy_tuple pl (by simp only[zAH];lia) ⟨H,I.tok _,by rw[uR r];exact q⟩
  .subst e'
   obtain⟨hz,hS,vs,r,m⟩:kvs.length<=zAQ/\(p==zGC)=false/\∃vs,KV kvs vs/\s.heap.DictOf (xQ X.prog X.w) p vs:=I.hok p _ hx
   have hW:kvs.length=vs.length:=zGh r;exact wpAny_truthy_dict hS m (by lia) ⟨H,I.tok _,by rw[aAs r];exact q⟩
 |_=>exact(show False from e).elim
def aDQ(ha:PE X a ta)(he:∀whole,isTrue a X.env whole=(do let v <-whole;standAt a.pos;zGM [v] (truthy v))):
  PT X a (λ σ H Q=>ta σ H λ x H'=>∃k,aI5 X.K x H' k/\Q k H'):=by
 intro hV s σ H Q I h;exact isTrue_plain (thn (ha hV s σ H _ I h) λ v s1 ⟨x,H1,I1,r1,q1⟩=>aGz hV s1 σ H1 x v Q I1 r1 q1) (he _)
def vals1(r:Vals [x] us):∃u,us=[u]/\RelV x u:=by
 cases r with
 |cons r1 r2=>cases r2;exact⟨_,rfl,r1⟩
def vals2(r:Vals [x,y] us):∃u w',us=[u,w']/\RelV x u/\RelV y w':=by
 cases r with
 |cons r1 r2=>
  cases r2 with
  |cons r3 r4=>cases r4;exact⟨_,_,rfl,r1,r3⟩
def aC0(hc:X.calm=true):cZ X (.builtin "max") (λ xs H Q=>∃i j,xs=[.int i,.int j]/\Q (.int (if j>i then j else i)) H):=by
 intro hV s σ H xs us Q I r h;obtain⟨i,j,rfl,q⟩:=h;obtain⟨u,w',rfl,⟨t,rfl⟩,⟨t',rfl⟩⟩:=vals2 r;refine max_two_ints (I.ok.hd hc) λ h' tk k=>⟨_,H,I.kept k,?_,q⟩
 by_cases hj:j>i
 .rw[if_pos hj,if_pos hj];exact⟨_,rfl⟩
 .rw[if_neg hj,if_neg hj];exact⟨_,rfl⟩
def aCY(hc:X.calm=true):cZ X (.builtin "min") (λ xs H Q=>∃i j,xs=[.int i,.int j]/\Q (.int (if j<i then j else i)) H):=by
 intro hV s σ H xs us Q I r h;obtain⟨i,j,rfl,q⟩:=h;obtain⟨u,w',rfl,⟨t,rfl⟩,⟨t',rfl⟩⟩:=vals2 r;refine min_two_ints (I.ok.hd hc) λ h' tk k=>⟨_,H,I.kept k,?_,q⟩
 by_cases hj:j<i
 .rw[if_pos hj,if_pos hj];exact⟨_,rfl⟩
 .rw[if_neg hj,if_neg hj];exact⟨_,rfl⟩
end
structure aGY(h:Heap)(x dx C:Addr)(mA:Str->Option Value):Prop where
 obj:h.get? x=some (zBf C dx)
 ns:h.Ns1 dx mA
 ne:dx≠x
def aCM{h:Heap}{dx:Addr}{mA:Str->Option Value}(n:h.Ns1 dx mA):∃od,h.get? dx=some od/\∀name,zD2 name od=some (mA name):=by
 obtain⟨o,es,ep,ho,hd,hk,_,hm⟩:=n;refine⟨o,ho,λ name=>?_⟩;have e:=hm name;unfold nsFind findBy at e;rw[<-Array.find?_toList]at e;unfold zD2;rw[hd];dsimp only;split
 .rename_i y q
  rw[q]at e;exact congrArg some e
 .rename_i q
  rw[q]at e;have a:es.toList.any (·.refKey)=false:=by
   rw[List.any_eq_false];intro y hy;obtain⟨z,t,hkey⟩:=hk y (Array.mem_toList_iff.mp hy);simp[DictEntry.refKey,hkey]
  have a':¬es.toList.any (·.refKey)=true:=by rw[a];exact zA3
  rw[if_neg a'];exact congrArg some e
def aGY.look(I:aGY h x dx C mA):∃od,zGW h x (zBf C dx) C (some od)/\∀name,zD2 name od=some (mA name):=
 let⟨od,ho,hl⟩:=aCM I.ns
 ⟨od,⟨I.obj,rfl,rfl,ho⟩,hl⟩
section
variable{prog:zAZ}{w:World}{A:zAc}{E:Value->zAE->Prop}{s:zAE}{K:zAA}{x dx C f:Addr}{mA:Str->Option Value}{name:Str}
def aEL(X:K.In s.heap)(I:aGY s.heap x dx C mA)(hg:zEM K C name=true)
  (hf:zBJ K (.ref C) name=some (some (.ref f)))(ht:zGi K (.ref f)=true)(hv:mA name=none)(h:Q (.ref f,[.ref x]) s):
  wpAny (model prog w) A (getMethod (.ref x) name pl) Q E s:=by
 obtain⟨od,J,hl⟩:=I.look;exact PySem.W.method_fn X J (zF5 hg).1 (zF5 hg).2 hf (beq_iff_eq.mp ht) (by show(zD2 name od).map (·.isSome)=some false;rw[hl,hv];rfl) h
def make_map(X:K.In s.heap)(hm:PySem.W.makesIn K C=true)
  (hi:zBJ K (.ref C) "__init__"=some (some (.ref f)))(hf:PySem.W.typeIn K (.ref f)=some (.type "function"))
  (h:zDC (model prog w) (A.under (.builtin "type.__call__" ⟨.ref C::vs,kw⟩)) (.call (.ref f) ⟨.ref (s.heap.objs.size+1)::vs,kw⟩) (PySem.W.InitBack (s.heap.objs.size+1) R)
   {s with heap:=(s.heap.push zBN).push (zBf C s.heap.objs.size)}):
  zDC (model prog w) A (.call (.ref C) ⟨vs,kw⟩) R s:=by
 obtain⟨hh,g,d,t,os⟩:=s;exact PySem.W.make_core (PySem.W.makes_of X hm) (zC8 X hi) (λ self=>PySem.W.bind_fn X self hf) (.inl rfl) h
end
def aC5.none_of(r:aC5 none o):o=none:=by
 cases o with
 |none=>rfl
 |some u=>exact(show False from r).elim
section
variable{P:zAZ}{w:World}{H:Hp}{h:Heap}{a C dx:Addr}{fs:List (Str×V)}
def aBd(hok:HOk P w H h)(e:H a=some (.ins C dx fs)):∃mA,aGY h a dx C mA/\(∀f,aC5 (fs.lookup f) (mA f))/\zHA mA (fs.map (·.1))/\fs.length<=1000/\H dx=some (.own a):=by
 obtain⟨d,z,ne,ob,mA,n,r,q⟩:=(show dj P w H h a (.ins C dx fs)from hok a _ e);exact⟨mA,⟨ob,n,ne⟩,r,q,z,d⟩
end
structure Cls(K:zAA)(C:Addr):Prop where
 pg:zEM K C Str.empty=true
 hd:PySem.W.hasDictIn K C=true
 po:PySem.W.plainOver K C=true
 sa:zBJ K (.ref C) "__setattr__"=some (some (.builtin "object.__setattr__"))
def Cls.get{K:zAA}{C:Addr}(c:Cls K C)(f:Str):zEM K C f=true:=c.pg
def aI9(K:zAA)(C:Addr)(f:Str):Prop:=zBJ K (.ref C) f=some none
structure Meth(K:zAA)(C:Addr)(m:Str)(f:Addr):Prop where
 at_:zBJ K (.ref C) m=some (some (.ref f))
 fn:zGi K (.ref f)=true
 kp:zC2 K (.ref f)=true
section
variable{X:Cx}{hV:hZ}{σ:St}{H:Hp}{s:zAE}{a C dx:Addr}{fs:List (Str×V)}{A:zAc}{E:Value->zAE->Prop}
def aAt(I:Inv X hV σ H s)(e:H a=some (.ins C dx fs))(c:Cls X.K C)(k:Meth X.K C m g)(l:fs.lookup m=none)
  (h:Q (.ref g,[.ref a]) s):wpAny (model X.prog X.w) A (getMethod (.ref a) m pl) Q E s:=by
 obtain⟨mA,O,r,_,_,_⟩:=aBd I.hok e;have hn:mA m=none:=aC5.none_of (by rw[<-l];exact r m);exact aEL I.kIn O (c.get m) k.at_ k.fn hn h
def Inv.made(I:Inv X hV σ H s):Inv X hV σ (upd (upd H s.heap.objs.size (.own (s.heap.objs.size+1))) (s.heap.objs.size+1) (.ins C s.heap.objs.size []))
  {s with heap:=(s.heap.push zBN).push (zBf C s.heap.objs.size)}:=by
 have e1:(s.heap.push zBN).get? s.heap.objs.size=some zBN:=zA6 s.heap rfl;have e2:((s.heap.push zBN).push (zBf C s.heap.objs.size)).get? (s.heap.objs.size+1)=some (zBf C s.heap.objs.size):=by
  have:=zA6 (s.heap.push zBN) (o:=zBf C s.heap.objs.size) rfl
  rwa [zC4]at this
 have e3:(s.heap.push zBN).Ns s.heap.objs.size (λ _=>none):=⟨zBN,#[],_,e1,rfl,(λ e he=>absurd he (by simp)),λ _=>rfl⟩;have I1:=I.laid (a:=s.heap.objs.size) (o:=.own (s.heap.objs.size+1)) (h':=s.heap.push zBN) (t':=s.toks) (λ b u q=>zAG _ q) (zAU _) ⟨_,e1⟩;refine I1.laid (a:=s.heap.objs.size+1) (o:=.ins C s.heap.objs.size []) (t':=s.toks) (λ b u q=>zAG _ q) (Nat.le_of_eq (zC4 _ _)) ?_;have ne:s.heap.objs.size≠s.heap.objs.size+1:=zAu (zCg _);refine⟨by rw[bK ne,aq],zAi _,ne,e2,λ _=>none,(Heap.Ns1.of_empty e3).at λ o q=>zAG _ q,λ _=>zDG,λ y hy=>absurd rfl hy⟩
end
def tFld(K:zAA)(ta:TE)(f:Str):TE:=λ σ H Q=>ta σ H λ x H1=>∃a C dx fs v,x= .ref a/\H1 a=some (.ins C dx fs)/\Cls K C/\aI9 K C f/\fs.lookup f=some v/\Q v H1
section
variable{X:Cx}{e:Expr}{f:Str}{pos:Pos}
def methcall_of(he:PE X e te)(I:Inv X hV σ H s)
  (h:te σ H λ x H1=>∃a C dx fs g,x= .ref a/\H1 a=some (.ins C dx fs)/\Cls X.K C/\Meth X.K C m g/\fs.lookup m=none/\
   ∀s1,Inv X hV σ H1 s1->wpAny (model X.prog X.w) X.A (callWith pos (.ref g) [.ref a] (zBv pos (zAX args X.env)) (zDK pos (zCL [] X.env))) Q X.xe s1)
  (ht:eval (.Call (.Attribute e m apos) args [] pos) X.env=(do
   let ov <-eval e X.env
   standAt apos.atName
   let(f,first) <-zGM [ov] (getMethod ov m pl)
   callWith pos f first (zBv pos (zAX args X.env)) (zDK pos (zCL [] X.env)))):
  wpAny (model X.prog X.w) X.A (eval (.Call (.Attribute e m apos) args [] pos) X.env) Q X.xe s:=by
 refine PySem.W.methodCall_KW (pl:=pl) (thn (he hV s σ H _ I h) λ u s1 ⟨x,H1,I1,rx,a,C,dx,fs,g,ex,ea,c,k,l,q⟩=>?_) ht;subst ex;obtain rfl:u=zBX a:=rx;exact aAt I1 ea c k l (q s1 I1)
end
section
variable{X:Cx}{hV:hZ}{σ:St}{H:Hp}{s:zAE}{A:zAc}{E:Value->zAE->Prop}{Q:Value->zAE->Prop}{c:Value}{b:Bool}
inductive qX(K:zAA)(H:Hp):V->Value->Prop where
 |non:qX K H .non (.type "NoneType")
 |bl (x:Bool):qX K H (.bl x) (.type "bool")
 |int (i:Int):qX K H (.int i) (.type "int")
 |str (x:Str):qX K H (.str x) (.type "str")
 |flt (x:UInt64):qX K H (.flt x) (.type "float")
 |lst {a:Addr} {xs:List V} (e:H a=some (.lst xs)):qX K H (.ref a) (.type "list")
 |frz {a:Addr} {o:Obj} {xs:List V} (e:H a=some (.frz o (.lst xs))):qX K H (.ref a) (.type "list")
 |tup {a:Addr} {xs:List V} (e:H a=some (.tup xs)):qX K H (.ref a) (.type "tuple")
 |dK {a:Addr} {kvs:List (Key×V)} (e:H a=some (.dK kvs)):qX K H (.ref a) (.type "dict")
 |dT {a:Addr} {kvs:List (List Key×V)} (e:H a=some (.dT kvs)):qX K H (.ref a) (.type "dict")
 |ins {a C dx:Addr} {fs:List (Str×V)} (e:H a=some (.ins C dx fs)) (cl:Cls K C) (ha:zBJ K (.ref C) "__class__"=some (some (.builtin "object.__class__")))
   (hn:PySem.W.specialIn K (.builtin "object.__class__") "__get__"=some (some (.builtin "getset_descriptor.__get__"))) (htk:PySem.W.takesIn K (.builtin "object.__class__")=some true)
   (hm:PySem.W.mroIn K C (.type "object")=some true):qX K H (.ref a) (.ref C)
def aCQ(I:Inv X hV σ H s)(rx:RelV x u)(ty:qX X.K H x t)(e:zCt X.K t c=some b)(h:∀tk,Q (.bool b) {s with toks:=tk}):
  wpAny (model X.prog X.w) A (call (.builtin "isinstance") [u,c]) Q E s:=by
 cases ty with
 |non=>cases (show u=zBR from rx);exact zAw PySem.W.kitx_none I.kIn zDG e (λ z=>nomatch z) h
 |bl y=>cases (show u=zD6 y from rx);exact zAw PySem.W.kitx_bool I.kIn zDG e (λ z=>nomatch z) h
 |int i=>obtain⟨t,q⟩:=(show∃t,u=zDU i t from rx);cases q;exact zAw PySem.W.kitx_int I.kIn zDG e (λ z=>nomatch z) h
 |str y=>obtain⟨t,q⟩:=(show∃t,u=zGb y t from rx);cases q;exact zAw PySem.W.kitx_str I.kIn zDG e (λ z=>nomatch z) h
 |flt y=>obtain⟨t,q⟩:=(show∃t,u=zHM y t from rx);cases q;exact zAw PySem.W.kitx_float I.kIn zDG e (λ z=>nomatch z) h
 |@lst a xs ea=>
  cases (show u=zBX a from rx);obtain⟨_,_,n,_,h1⟩:=(show dj X.prog X.w H s.heap a (.lst xs)from I.hok a _ ea);exact zAw zFs I.kIn ⟨_,h1,rfl⟩ e (λ z=>nomatch z) h
 |@frz a ob xs ea=>
  cases (show u=zBX a from rx);obtain⟨_,_,_,n,_,h1⟩:=(show dj X.prog X.w H s.heap a (.frz ob (.lst xs))from I.hok a _ ea);exact zAw zFs I.kIn ⟨_,h1,rfl⟩ e (λ z=>nomatch z) h
 |@tup a xs ea=>
  cases (show u=zBX a from rx);obtain⟨_,_,_,p⟩:=(show dj X.prog X.w H s.heap a (.tup xs)from I.hok a _ ea);obtain⟨o,h1,h2,_⟩:=p;exact zAw zFk I.kIn ⟨o,h1,h2⟩ e (λ z=>nomatch z) h
 |@dK a kvs ea=>
  cases (show u=zBX a from rx);obtain⟨_,_,vs,_,p⟩:=(show dj X.prog X.w H s.heap a (.dK kvs)from I.hok a _ ea);obtain⟨o,es,ep,h1,h2,_⟩:=p;exact zAw zDx I.kIn ⟨o,h1,h2.1⟩ e (λ z=>nomatch z) h
 |@dT a kvs ea=>
  cases (show u=zBX a from rx);obtain⟨_,_,xs,_,o,es,ep,h1,h2,_⟩:=(show dj X.prog X.w H s.heap a (.dT kvs)from I.hok a _ ea);exact zAw zDx I.kIn ⟨o,h1,h2.1⟩ e (λ z=>nomatch z) h
 |@ins a C dx fs ea cl ha hn htk hm=>
  cases (show u=zBX a from rx);obtain⟨mA,O,_⟩:=aBd I.hok ea;obtain⟨od,J,_⟩:=O.look;exact zAw (PySem.W.kitx_own (cl.get _) cl.hd ha hn htk hm) I.kIn J e (λ z=>nomatch z) h
end
structure jA(k:Nat)(A:zAc):Prop where
 hd:A.handled=none
 dp:A.depth+3*k+5<zFv
 un:A.units+16*k+200<cLine
def jA.mono(r:jA k A)(h:j<=k):jA j A:=⟨r.hd,by have:=r.dp;lia,by have:=r.un;lia⟩
theorem jA.deeper(r:jA (k+1) A)(env:Env):jA k (A.deeper env):=
 ⟨r.hd,by have:=r.dp;show A.depth+1+3*k+5<_;lia,by have:=r.un;show A.units+3+16*k+200<_;lia⟩
theorem jA.depth(r:jA k A):A.depth<zFv:=by have:=r.dp;lia
theorem jA.units(r:jA k A):A.units+64<cLine:=by have:=r.un;lia
def jA.units0(r:jA k A):A.units<cLine:=by have:=r.un;lia
def kJ:TA:=λ _ H Q=>Q [] H
def gj(ta:TE)(tr:TA):TA:=λ σ H Q=>ta σ H λ x H1=>tr σ H1 λ xs H2=>Q (x::xs) H2
section
variable{X:Cx}{e:Expr}{es:List Expr}{te:TE}{t:TA}{pos:Pos}
def eF:PA X [] kJ:=λ _ _ _ _ H Q I h=>Calls.spliced_nil ⟨[],H,I,.nil,h⟩
def bz(ha:PE X e te)(hr:PA X es t)(hs:zAX (e::es) X.env=(false,eval e X.env)::zAX es X.env:=by rfl):PA X (e::es) (gj te t):=by
 intro pos hV s σ H Q I h;rw[hs];show wpAny _ _ (spliced ((false,eval e X.env)::zBv pos (zAX es X.env))) _ _ s;refine Calls.spliced_cons (thn (ha hV s σ H _ I h) λ u s1 ⟨x,H1,I1,r1,q1⟩=>?_);exact thn (hr pos hV s1 σ H1 _ I1 q1) λ us s2 ⟨xs,H2,I2,r2,q2⟩=>⟨x::xs,H2,I2,.cons r1 r2,q2⟩
def aJ6(t:TA):TE:=λ σ H Q=>t σ H λ xs H1=>xs.length<=zAQ/\∀p,H1 p=none->Q (.ref p) (upd H1 p (.tup xs))
def aJb(t:TA):TE:=λ σ H Q=>t σ H λ xs H1=>xs.length<=zAQ/\∀p,H1 p=none->Q (.ref p) (upd H1 p (.lst xs))
def aH6{x1}(h:PA X es t):PE X (.Tuple es x1 pos) (aJ6 t):=by
 intro hV s σ H Q I hq;refine wpAny_Tuple_spliced (thn (h pos hV s σ H _ I hq) λ us s1 ⟨xs,H1,I1,r,z,q⟩=>⟨by rw[<-r.length];exact z,?_⟩);have hf:H1 s1.heap.objs.size=none:=I1.hok.fresh (zAU _);refine⟨.ref s1.heap.objs.size,upd H1 s1.heap.objs.size (.tup xs),I1.laid (t':=s1.toks) (λ b u e=>zAG _ e) (zAU _) ?_,rfl,q _ hf⟩;exact⟨⟨z,NoD.push _⟩,us,r,⟨_,zA6 _ rfl,rfl,_,rfl⟩⟩
def aHb(h:PA X es t):PE X (.List es pos) (aJb t):=by
 intro hV s σ H Q I hq;refine wpAny_List_spliced (thn (h pos hV s σ H _ I hq) λ us s1 ⟨xs,H1,I1,r,z,q⟩=>⟨by rw[<-r.length];exact z,?_⟩);have hf:H1 s1.heap.objs.size=none:=I1.hok.fresh (zAU _);refine⟨.ref s1.heap.objs.size,upd H1 s1.heap.objs.size (.lst xs),I1.laid (t':=s1.toks) (λ b u e=>zAG _ e) (zAU _) ?_,rfl,q _ hf⟩;exact⟨z,us,0,r,zA6 _ rfl⟩
end
abbrev Sp:=List V->Hp->VK->XK->Prop
abbrev CXT:=List Env->Hp->zAE->XK->Value->zAE->Prop
structure aE8(P:zAZ)(w:World)(K:zAA)(mg:Str->Option Value)(base:Heap)(A:zAc)(outer:List Env)(s:zAE)(H:Hp):Prop where
 frames:A.frames=some outer
 mod:Mod K mg base
 bs:∀b o,base.get? b=some o->s.heap.get? b=some o/\H b=none
 bsz:base.objs.size<=s.heap.objs.size
 funs:s.heap.FunFrames base outer
 frf:∀b∈frs outer,H b=none
 hok:HOk P w H s.heap
 bare:zDv s.gens
def CE(outer:List Env)(P:zAZ)(w:World)(H:Hp)(s:zAE)(Q:VK)(u:Value)(s':zAE):Prop:=
 ∃v H',s'.os=s.os/\zDv s'.gens/\Un (frs outer) [] H H' s.heap s'.heap/\HOk P w H' s'.heap/\RelV v u/\Q v H'
def CR(CX:CXT)(outer:List Env)(P:zAZ)(w:World)(H:Hp)(s:zAE)(Q:VK)(E:XK)(r:zFB)(s':zAE):Prop:=
 match r with
 | .ok (.ret u)=>CE outer P w H s Q u s'
 | .ok _=>False
 | .error e=>CX outer H s E e s'
structure b7(P:zAZ)(w:World)(K:zAA)(mg:Str->Option Value)(base:Heap)(CX:CXT)(k:Nat)(f:Addr)(fd:zA9)(ps:List Str)(sp:Sp):Prop where
 len:∀vs H Q E,sp vs H Q E->vs.length=ps.length
 run:∀(A:zAc) (outer:List Env) (s:zAE) (H:Hp) (args:Args) (us:List Value) (vs:List V) (Q:VK) (E:XK),jA k A->aE8 P w K mg base A outer s H->zEe s fd args (ps.zip us)->Vals vs us->sp vs H Q E->
  zDC (model P w) A (.call (.ref f) args) (CR CX outer P w H s Q E) s
def b7.imp{P:zAZ}{w:World}{K:zAA}{mg:Str->Option Value}{base:Heap}{CX:CXT}{k:Nat}{f:Addr}{fd:zA9}{ps:List Str}{sp sp':Sp}(F:b7 P w K mg base CX k f fd ps sp)
  (h:∀vs H Q E,sp' vs H Q E->sp vs H Q E):b7 P w K mg base CX k f fd ps sp':=
 ⟨λ vs H Q E q=>F.len vs H Q E (h _ _ _ _ q),λ A outer s H args us vs Q E hr he hb hv hs=>F.run A outer s H args us vs Q E hr he hb hv (h _ _ _ _ hs)⟩
section
variable{X:Cx}{hV:hZ}{σ:St}{H:Hp}{s s':zAE}
def Inv.env0(I:Inv X hV σ H s):aE8 X.prog X.w X.K X.mg X.base X.A X.stack s H:=
 ⟨I.ok.frames,I.ok.mod,I.bs,zAe I.ok.bsz I.sz,I.stack,I.stkFree,I.hok,I.bare⟩
def Inv.after(I:Inv X hV σ H s)(h:CE X.stack X.prog X.w H s Q u s'):EP X hV σ Q u s':=by
 obtain⟨v,H',os,bare,un,hok,r,q⟩:=h;obtain⟨hh,g,d,t,os'⟩:=s';obtain rfl:os'=s.os:=os;exact⟨v,H',I.call (h':=hh) (g':=g) (d':=d) (t':=t) (ch:=[]) un hok bare (λ b z=>absurd z (by simp)),r,q⟩
end
def aG5(sp:Sp)(dvs:List V)(E:XK)(t:TA):TE:=λ σ H Q=>t σ H λ vs H1=>sp (vs++dvs) H1 Q E
def tMeth(C:Addr)(m:Str)(sp:Sp)(dvs:List V)(E:XK)(ta:TE)(t:TA):TE:=λ σ H Q=>ta σ H λ x H1=>∃a dx fs,x= .ref a/\H1 a=some (.ins C dx fs)/\fs.lookup m=none/\
 t σ H1 λ vs H2=>sp (x::(vs++dvs)) H2 Q E
def tMake(C:Addr)(sp:Sp)(dvs:List V)(E:XK)(t:TA):TE:=λ σ H Q=>t σ H λ vs H1=>∀x dx,H1 x=none->H1 dx=none->dx≠x->
 sp (.ref x::(vs++dvs)) (upd (upd H1 dx (.own x)) x (.ins C dx [])) (λ v H2=>v= .non/\Q (.ref x) H2) E
def Binds(K:zAA)(fd:zA9)(ps:List Str)(ds:List Value):Prop:=
 ∀(s:zAE) (us:List Value),K.In s.heap->(us++ds).length=ps.length->zEe s fd ⟨us,[]⟩ (ps.zip (us++ds))
def Binds.all{K:zAA}{fd:zA9}{ps:List Str}(h:∀us:List Value,us.length=ps.length->bindArgs fd ⟨us,[]⟩=pure (ps.zip us)):Binds K fd ps []:=λ s us _ hl=>by
 rw[zAj]at hl ⊢;exact .of_eq (h us hl)
def yK(CX:CXT)(X:Cx)(E:XK):Prop:=∀(hV:hZ) (σ:St) (H:Hp) (s:zAE) (e:Value) (s':zAE),Inv X hV σ H s->CX X.stack H s E e s'->X.xe e s'
section
variable{X:Cx}{CX:CXT}{k:Nat}{f:Addr}{fd:zA9}{ps:List Str}{sp:Sp}{dvs:List V}{ds:List Value}{E:XK}{x:Str}{p pos:Pos}{e:Expr}{es:List Expr}{t:TA}
def aHM(F:b7 X.prog X.w X.K X.mg X.base CX k f fd ps sp)(hr:jA k X.A)(hb:Binds X.K fd ps ds)(hd:Vals dvs ds)(hx:yK CX X E)
  (I:Inv X hV σ H s)(r:Vals vs us)(h:sp (vs++dvs) H Q E):wpAny (model X.prog X.w) X.A (call (.ref f) us) (EP X hV σ Q) X.xe s:=by
 have r2:Vals (vs++dvs) (us++ds):=r.append hd;have hl:(us++ds).length=ps.length:=by rw[<-r2.length];exact F.len _ _ _ _ h
 refine wpAny_call (zFP (F.run X.A X.stack s H ⟨us,[]⟩ (us++ds) (vs++dvs) Q E hr I.env0 (hb s us I.kIn hl) r2 h) λ r s' hq=>?_);cases r with
 |error e=>exact hx hV σ H s e s' I hq
 |ok fl=>
  cases fl with
  |ret u=>exact I.after hq
  |next=>exact zAK hq
  |brk=>exact zAK hq
  |cont=>exact zAK hq
def aFO(F:b7 X.prog X.w X.K X.mg X.base CX k f fd ps sp)(hr:jA k X.A)(hg:Gl X x)(hm:X.mg x=some (.ref f))(hk:zC2 X.K (.ref f)=true)(hb:Binds X.K fd ps ds)(hd:Vals dvs ds)(hx:yK CX X E)
  (ha:PA X (e::es) t)(hdb:Nd x:=by decide)(he:zAX (e::es) X.env=(false,eval e X.env)::zAX es X.env:=by rfl)(hpl:(zBv pos (zAX es X.env)).any (·.1)=false:=by rfl):
  PE X (.Call (.Name x p) (e::es) [] pos) (aG5 sp dvs E t):=by
 intro hV s σ H Q I h;refine zDL (xU I hg hm ?_ hdb);refine PySem.W.callWith_K (h₀:=X.base) I.ok.mod.kin hk (thn (ha pos hV s σ H _ I h) λ us s1 ⟨vs,H1,I1,r,q⟩=>⟨I1.kIn,?_⟩) he hpl;exact aHM F hr hb hd hx I1 r q
end
structure aX(N P:List Str)(sc:Scope):Prop where
 kind:sc.kind= .function
 co:sc.isCoroutine=false
 gen:sc.isGenerator=false
 nd:N.Nodup
 pre:N.take P.length=P
 par:∀x∈P,sc.names.lookup x=some .local\/sc.names.lookup x=some .cell
 nofree:∀y∈sc.names,y.2≠.free
theorem wB{zCe:Str->Option zCw}{x:Str}:∀{binds:List (Str×Value)} {m:Str->Option Value},(∀v,(x,v)∉binds)->bindL zCe binds m x=m x
 |[],_,_=>rfl
 |(n,v)::r,m,h=>by
  unfold bindL;rw[wB λ w hw=>h w (zAF _ hw)];split
  .have:x≠n:=by rintro rfl;exact h v zAJ
   simp[this]
  .rfl
theorem wD{zCe:Str->Option zCw}{x:Str}:∀{binds:List (Str×Value)} {m:Str->Option Value},(∀v,(x,v)∉binds)->bindC zCe binds m x=m x
 |[],_,_=>rfl
 |(n,v)::r,m,h=>by
  unfold bindC;rw[wD λ w hw=>h w (zAF _ hw)];split
  .rfl
  .have:x≠n:=by rintro rfl;exact h v zAJ
   simp[this]
theorem wC{zCe:Str->Option zCw}{x:Str}{v:Value}:∀{P:List Str} {vs:List Value} {i:Nat} {m:Str->Option Value},P.Nodup->P[i]? =some x->vs[i]? =some v->zCe x=some .local->
  bindL zCe (P.zip vs) m x=some v
 |[],_,_,_,_,h,_,_=>by simp at h
 |_::_,[],_,_,_,_,h,_=>by simp at h
 |p::P,w::vs,0,m,nd,h1,h2,hk=>by
  simp at h1 h2;subst h1;subst h2;show bindL zCe ((p,w)::P.zip vs) m p=_;unfold bindL;rw[wB λ v hv=>(zAh.mp nd).1 (zD1 hv).1,if_pos hk];simp
 |p::P,w::vs,i+1,m,nd,h1,h2,hk=>by
  show bindL zCe ((p,w)::P.zip vs) m x=_;unfold bindL;exact wC (i:=i) (zAh.mp nd).2 (by simpa using h1) (by simpa using h2) hk
theorem wF{zCe:Str->Option zCw}{x:Str}{v:Value}:∀{P:List Str} {vs:List Value} {i:Nat} {m:Str->Option Value},P.Nodup->P[i]? =some x->vs[i]? =some v->zCe x≠some .local->
  bindC zCe (P.zip vs) m x=some v
 |[],_,_,_,_,h,_,_=>by simp at h
 |_::_,[],_,_,_,_,h,_=>by simp at h
 |p::P,w::vs,0,m,nd,h1,h2,hk=>by
  simp at h1 h2;subst h1;subst h2;show bindC zCe ((p,w)::P.zip vs) m p=_;unfold bindC;rw[wD λ v hv=>(zAh.mp nd).1 (zD1 hv).1,if_neg hk];simp
 |p::P,w::vs,i+1,m,nd,h1,h2,hk=>by
  show bindC zCe ((p,w)::P.zip vs) m x=_;unfold bindC;exact wF (i:=i) (zAh.mp nd).2 (by simpa using h1) (by simpa using h2) hk
def start(N:List Str)(vs:List V):St:=vs.map some++zAM (N.length-vs.length) none
def za(CX:CXT)(P:zAZ)(w:World)(K:zAA)(mg:Str->Option Value)(base:Heap)(N:List Str)(qual:Str)(scope:Scope)(f:Addr)(cd:Value)(A:zAc)(outer:List Env)(s:zAE)(H:Hp)(E:XK):Cx where
 prog:=P
 w:=w
 K:=K
 mg:=mg
 base:=base
 A:=A.deeper (zDf qual scope s.heap.objs.size f cd)
 N:=N
 z5:=s
 z4:=H
 env:=zDf qual scope s.heap.objs.size f cd
 outer:=outer
 stack:=zDf qual scope s.heap.objs.size f cd::outer
 ex:=[]
 calm:=true
 fn:=λ _=>true
 pn:=[]
 xe:=λ e s'=>wpAny (model P w) (A.deeper (zDf qual scope s.heap.objs.size f cd)) (leaving (zDf qual scope s.heap.objs.size f cd) e) (λ _ s''=>CX outer H s E e s'') (λ e' s''=>CX outer H s E e' s'') s'
def pQ{sc:Scope}{n:Nat}{x:Str}(h:sc.names.lookup x=some .cell):∃c,(zDB n sc.names []).lookup x=some c:=by
 have q:=zFA sc.names n [] (.inl h);exact Option.isSome_iff_exists.mp q
def aCS{CX:CXT}{P:zAZ}{w:World}{K:zAA}{mg:Str->Option Value}{base:Heap}{N ps:List Str}{qual:Str}{scope:Scope}{f:Addr}{cd:Value}{A:zAc}{outer:List Env}{s s1:zAE}{H:Hp}{E:XK}{us:List Value}{vs:List V}
  (S:aX N ps scope)(hd:A.handled=none)(e0:aE8 P w K mg base A outer s H)(hl:vs.length=ps.length)(r:Vals vs us)
  (x:InCallC s s.heap.objs.size (bindL (zDf qual scope s.heap.objs.size f cd).kindOf (ps.zip us) λ _=>none) (zDB (s.heap.objs.size+1) scope.names []) (bindC (zDf qual scope s.heap.objs.size f cd).kindOf (ps.zip us) λ _=>none) s1):
  Inv (za CX P w K mg base N qual scope f cd A outer s H E) [] (start N vs) H s1:=by
 have hpl:ps.length<=N.length:=by have:=congrArg List.length S.pre;rw[zBA]at this;lia
 obtain⟨h1,tk,rfl,hk⟩:=x.done;have noA:∀b:Addr,b∉(za CX P w K mg base N qual scope f cd A outer s H E).ex:=λ b z=>absurd (show b∈([]:List Addr)from z) (by simp)
 refine⟨⟨e0.mod,S.kind,rfl,rfl,zAU _,λ y z c h1 h2=>?_,λ y hy=>?_,λ y c _ h=>?_,λ _=>hd,Around.frames_deeper e0.frames,.inr ⟨rfl,rfl⟩,λ b z=>absurd z (noA b),e0.bs,e0.bsz,λ b _ _=>noA b,λ b z=>absurd z (noA b),e0.funs,e0.frf⟩,
  rfl,e0.bare,Un.kept hk,⟨_,x.toInCall.ns,λ i y v h1 h2 h3=>?_⟩,λ y c h=>⟨_,x.cell y c h⟩,e0.hok.fresh (zAU _),λ y c h=>?_,λ p hp=>absurd (show p∈([]:hZ)from hp) (by simp),e0.hok.kept hk,?_,λ p hp=>absurd (show p∈([]:hZ)from hp) (by simp)⟩
 .exact name_of_addr x.apart (zAk h1) (zAk h2)
 .have hy:scope.names.lookup y=some .cell\/scope.names.lookup y=some .free:=hy
  rcases hy with hy|hy
  .exact pQ hy
  .exact absurd rfl (S.nofree _ (zAk hy))
 .exact zBV (x.above y c (zAk h))
 .have hi:i<vs.length:=by
   unfold start at h2;by_cases hi:i<vs.length
   .exact hi
   .rw[zCu (by simpa using hi)]at h2
    rw[zBq]at h2;split at h2<;>cases h2
  have ha:vs[i]? =some v:=by
   unfold start at h2;rw[zBd (by simpa using hi),zAV]at h2;cases e:vs[i]? with
   |none=>rw[e]at h2;cases h2
   |some a=>rw[e]at h2;cases h2;rfl
  obtain⟨u,hu,rv⟩:=r.get ha;have hp:ps[i]? =some y:=by
   rw[<-S.pre,List.getElem?_take_of_lt (by lia)];exact h1
  have ndP:ps.Nodup:=by rw[<-S.pre];exact S.nd.sublist (zGU _ _)
  refine⟨u,rv,?_⟩;rcases S.par y (zAa hp)with k|k
  .exact .inl ⟨k,wC ndP hp hu k⟩
  .obtain⟨c,e⟩:=pQ (n:=s.heap.objs.size+1) k
   refine .inr ⟨.inl k,c,e,?_⟩;have q:=x.cell y c e;rw[wF ndP hp hu (by show scope.names.lookup y≠_;rw[k];decide)]at q;exact q
 .exact e0.hok.fresh (zBV (x.above y c (zAk h)))
 .unfold start
  show _=N.length;rw[zAW,zAB,zCD];lia
def aJT{CX:CXT}{P:zAZ}{w:World}{K:zAA}{mg:Str->Option Value}{base:Heap}{k:Nat}{f:Addr}{name qual:Str}{params:zG0}{body:List Stmt}{scope:Scope}{dV kV doc pm cdv ct oc:Value}{an od:Option Addr}
  {osl:Array (Option Value)}{N ps:List Str}{sp:Sp}(lk:K.lookup f=some ⟨oc,od,.func (zBj name qual params body scope dV kV doc pm an cdv ct),osl⟩)(hcd:zCs K cdv qual=true)(S:aX N ps scope)
  (len:∀vs H Q E,sp vs H Q E->vs.length=ps.length)
  (hbody:∀(A:zAc) (outer:List Env) (s:zAE) (H:Hp) (vs:List V) (Q:VK) (E:XK),jA k (A.deeper (zDf qual scope s.heap.objs.size f cdv))->sp vs H Q E->
   ∃t,PSs (za CX P w K mg base N qual scope f cdv A outer s H E) body t/\t {nx:=λ _ H'=>Q .non H',rt:=Q} (start N vs) H):
  b7 P w K mg base CX (k+1) f (zBj name qual params body scope dV kV doc pm an cdv ct) ps sp:=by
 refine⟨len,λ A outer s H args us vs Q E hr e0 hb r hsp=>?_⟩;have hl:=len _ _ _ _ hsp;have KX:K.In s.heap:=e0.mod.kin.keeps λ b o e=>(e0.bs b o e).1
 have lim:s.heap.NoLimit:=e0.mod.nolimit.keeps λ b o e=>(e0.bs b o e).1
 have hkind:∀y∈ps.zip us,scope.names.lookup y.1=some .local\/(scope.names.lookup y.1=some .cell/\((zDB (s.heap.objs.size+1) scope.names []).lookup y.1).isSome=true):=λ⟨n,v⟩ hy=>by
  rcases S.par n (zD1 hy).1 with q|q
  .exact .inl q
  .exact .inr ⟨q,zFA _ _ _ (.inl q)⟩
 refine codeAny_call_function hr.depth (KX _ _ lk) rfl S.co S.gen rfl (PySem.W.codeRec_of KX hcd) (hb _ _ _ _ ?_);refine wpAny_newFunctionEnv_cells S.kind hkind λ env he s1 x=>?_
 subst he;refine⟨lim.keeps x.toInCall.keep,codeAny_func ?_⟩;obtain⟨t,ht,hq⟩:=hbody A outer s H vs Q E (hr.deeper _) hsp;have I:Inv (za CX P w K mg base N qual scope f cdv A outer s H E) [] (start N vs) H s1:=aCS S hr.hd e0 hl r x;refine zCE (ht [] s1 (start N vs) H _ I hq) (λ fl s' hs=>?_) λ e s' hs=>hs
 have fin:∀{σ':St} {H':Hp} {v:V} {u:Value},Inv (za CX P w K mg base N qual scope f cdv A outer s H E) [] σ' H' s'->RelV v u->Q v H'->CE outer P w H s Q u s':=
  λ{σ' H' v u} J rv q=>⟨v,H',J.os,J.bare,J.base,J.hok,rv,q⟩
 cases fl with
 |ret u=>
  obtain⟨v,σ',H',J,rv,q⟩:=hs;exact fin J rv q
 |next=>
  obtain⟨σ',H',J,q⟩:=hs;exact fin (v:=V.non) (u:=zBR) J rfl q
 |brk=>
  obtain⟨_,_,_,q⟩:=hs;exact zAK q
 |cont=>
  obtain⟨_,_,_,q⟩:=hs;exact zAK q
section
variable{X:Cx}{x:Str}{p pos:Pos}{e:Expr}{es:List Expr}{t:TA}{id T:String}{r:List V->Hp->VK->Prop}
def tCB(r:List V->Hp->VK->Prop)(t:TA):TE:=λ σ H Q=>t σ H λ vs H1=>r vs H1 Q
def pB(hc:cZ X (.builtin id) r)(hg:Gl X x)(hm:X.mg x=none)(hv:zAr x=some (.builtin id))(ha:PA X (e::es) t)(hn:x≠"__name__":=by decide)(hdb:Nd x:=by decide)
  (he:zAX (e::es) X.env=(false,eval e X.env)::zAX es X.env:=by rfl)(hpl:(zBv pos (zAX es X.env)).any (·.1)=false:=by rfl):PE X (.Call (.Name x p) (e::es) [] pos) (tCB r t):=by
 intro hV s σ H Q I h;refine zDL (qP I hg hm hv ?_ hn hdb);exact PyProof.Rows.callWith_builtin1 (thn (ha pos hV s σ H _ I h) λ us s1 ⟨vs,H1,I1,r1,q1⟩=>hc hV s1 σ H1 vs us Q I1 r1 q1) he hpl
def jX(hc:cZ X (.type T) r)(hg:Gl X x)(hm:X.mg x=none)(hv:zAr x=some (.type T))(ha:PA X (e::es) t)(hn:x≠"__name__":=by decide)(hdb:Nd x:=by decide)
  (he:zAX (e::es) X.env=(false,eval e X.env)::zAX es X.env:=by rfl)(hpl:(zBv pos (zAX es X.env)).any (·.1)=false:=by rfl):PE X (.Call (.Name x p) (e::es) [] pos) (tCB r t):=by
 intro hV s σ H Q I h;refine zDL (qP I hg hm hv ?_ hn hdb);exact zC3 (thn (ha pos hV s σ H _ I h) λ us s1 ⟨vs,H1,I1,r1,q1⟩=>hc hV s1 σ H1 vs us Q I1 r1 q1) he hpl
def aA5(hc:cZ X (.type T) r)(hg:Gl X x)(hm:X.mg x=none)(hv:zAr x=some (.type T))(hn:x≠"__name__":=by decide)(hdb:Nd x:=by decide):
  PE X (.Call (.Name x p) [] [] pos) (tCB r kJ):=by
 intro hV s σ H Q I h;refine zDL (qP I hg hm hv ?_ hn hdb);exact PyProof.Rows.callWith_type0 (hc hV s σ H [] [] Q I .nil h)
end
end L2
namespace HT
open PySem PyProof.Rows
def lexLt:List Int->List Int->Bool
 |[],[]=>false
 |[],_::_=>true
 |_::_,[]=>false
 |x::xs,y::ys=>if x=y then lexLt xs ys else decide (x<y)
def iW(x y:Int)(xs ys:List Int):lexLt (x::xs) (y::ys)=if x=y then lexLt xs ys else decide (x<y):=rfl
def vK:lexLt [] []=false:=rfl
def uN(y:Int)(ys:List Int):lexLt [] (y::ys)=true:=rfl
def uO(x:Int)(xs:List Int):lexLt (x::xs) []=false:=rfl
def zW(A:zAc)(s:zAE)(a:Int)(t:Tok)(c:Int)(u:Tok):∃e,zBg A s (.int a t) (.int c u) e/\(e=true↔a=c):=
 ⟨(a==c),zD3 a t c u,by simp⟩
def aDK(A:zAc)(s:zAE)(a:Int)(t:Tok)(c:Int)(u:Tok)(prog:zAZ)(w:World)(E:Value->zAE->Prop)(Q:Value->zAE->Prop)(h:Q (.bool (decide (a<c))) s):
  wpAny (model prog w) A (zFc .Lt (.int a t) (.int c u)) Q E s:=
 (zE6 h:wpAny (model prog w) A (zAp .Lt (.int a t) (.int c u)) Q E s)
section
open PySem.SeqAt
open PySem.AutoSeq1(wpAny_loadPart')
open PySem.MeetsSeq PySem.MeetsSeq2 PySem.MeetsSeq3
def ux(l b:Addr)(items items2:Array Value)(n n2:Nat)(dd dd2:Option Addr)(sl sl2:Array (Option Value))(ns ms:List Int)(hi:zBE items.toList ns)(hj:zBE items2.toList ms):
  Meets (zD7.«tuple.__lt__» ⟨[.ref l,.ref b],[]⟩)
   (λ _ R s=>s.heap.get? l=some {cls:=.type "tuple",dict:=dd,data:=.seq items n,slots:=sl}/\s.heap.get? b=some {cls:=.type "tuple",dict:=dd2,data:=.seq items2 n2,slots:=sl2}/\
    R (.ok (.ret (.bool (lexLt ns ms)))) s):=
 .of_wp λ prog w A R s h=>by
  obtain⟨hp,g,d,tk,os⟩:=s;obtain⟨hl,hb,h⟩:=h;have f2:=zEY;have z1:items.size=ns.length:=by rw[<-hi.length];simp
  have z2:items2.size=ms.length:=by rw[<-hj.length];simp
  wp_walk using zCM hl,zCM hb,wpAny_forIn_list _ (λ rest b s'=>b.1=none/\s'=⟨hp,g,d,tk,os⟩/\∃(vs ws:List Value) (ns' ms':List Int),rest=vs.zip ws/\
   zBE vs ns'/\zBE ws ms'/\ns'.length+items2.size=ms'.length+items.size/\R (.ok (.ret (.bool (lexLt ns' ms')))) ⟨hp,g,d,tk,os⟩) _
  case turn=>
   rintro⟨y,x⟩ rest b s' ⟨hb',rfl,vs,ws,ns',ms',hz,hvi,hwi,hW,hR⟩;cases hvi with
   |nil=>rw[zGV]at hz;cases hz
   |cons a t hvi'=>
    cases hwi with
    |nil=>rw[zGG]at hz;cases hz
    |cons c u hwi'=>
     rw[zB8]at hz;injection hz with hyx hrest
     injection hyx with hy hx
     subst hy hx;rw[iW]at hR;simp only[zA2]at hW;obtain⟨e,he,hiff⟩:=zW A.in1 ⟨hp,g,d,tk,os⟩ a t c u;refine zAR (he prog w _ _ ?_);cases e with
     |true=>
      rw[if_pos (hiff.mp rfl)]at hR;wp_walk;exact⟨rfl,rfl,_,_,_,_,hrest,hvi',hwi',by lia,hR⟩
     |false=>
      rw[if_neg (λ q=>absurd (hiff.mpr q) zA3)]at hR;have hri:=aDK A.in1 ⟨hp,g,d,tk,os⟩ a t c u prog w;wp_walk using hri;exact⟨_,rfl,by simpa using hR⟩
  case fin=>
   rintro⟨b1,b2⟩ s' ⟨hb',rfl,vs,ws,ns',ms',hz,hvi,hwi,hW,hR⟩;simp only at hb';subst hb';have hv:lexLt ns' ms'=decide (items.size<items2.size):=by
    cases hvi with
    |nil=>
     cases hwi with
     |nil=>
      simp only[zBi]at hW;rw[vK];exact(decide_eq_false (by lia)).symm
     |cons c u hw=>
      simp only[zBi,zA2]at hW;rw[uN];exact(decide_eq_true (by lia)).symm
    |cons a t hv=>
     cases hwi with
     |nil=>
      simp only[zBi,zA2]at hW;rw[uO];exact(decide_eq_false (by lia)).symm
     |cons c u hw=>
      rw[zB8]at hz;cases hz
   rw[hv]at hR;wp_walk;exact⟨_,rfl,by simpa[zDT]using hR⟩
  case h=>
   exact⟨rfl,rfl,items.toList,items2.toList,ns,ms,rfl,hi,hj,by lia,h⟩
end
section
variable{prog:zAZ}{w:World}{A:zAc}{E:Value->zAE->Prop}{s:zAE}
def aAg(hl:IsTup s.heap l items)(hb:IsTup s.heap b items2)(hi:zBE items.toList ns)(hj:zBE items2.toList ms)
  (hu:A.units<cLine)(h:Q (.bool (lexLt ns ms)) s):wpAny (model prog w) A (zAp .Lt (.ref l) (.ref b)) Q E s:=by
 obtain⟨⟨cls,dd,data,sl⟩,ho,hc,n,hd⟩:=id hl;obtain⟨⟨cls2,dd2,data2,sl2⟩,ho2,hc2,n2,hd2⟩:=id hb;simp only at hc hd hc2 hd2;subst hc hd hc2 hd2;exact zGY (op:=.Lt) ⟨_,ho,rfl⟩ ⟨_,ho2,rfl⟩ PySem.F.slot_tuple_lt PySem.F.entry_tuple_lt (PySem.F.args_tuple_lt_2 _ _) (ux l b items items2 n n2 dd dd2 sl sl2 ns ms hi hj)
  ⟨ho,ho2,show zD6 (lexLt ns ms)≠zDb/\Q (.bool (lexLt ns ms)) s from⟨(λ x=>nomatch x),h⟩⟩ hu
def aGO(ht:IsTup s.heap t vs.toArray)(hb:IsTup s.heap b ws.toArray)(hv:vs≠[])
  (h1:ws=[]->Q (.ref t) s)(h2:ws≠[]->Q (.ref s.heap.objs.size) {s with heap:=s.heap.push {cls:=.type "tuple",data:=.seq (vs++ws).toArray}})
  (hsz:vs.length+ws.length<=zAQ):wpAny (model prog w) A (zB9 .Add (.ref t) (.ref b)) Q E s:=by
 obtain⟨⟨cls,dd,data,sl⟩,ho,hc,n,hd⟩:=id ht;obtain⟨⟨cls2,dd2,data2,sl2⟩,ho2,hc2,n2,hd2⟩:=id hb;simp only at hc hd hc2 hd2;subst hc hd hc2 hd2;have e:vs.toArray++ws.toArray=(vs++ws).toArray:=by simp
 by_cases hw:ws=[]
 .exact zGc ⟨_,ho,rfl⟩ ⟨_,ho2,rfl⟩ zFU zGP zDI zDA (zCx _ _)
   (tuple_addW1 t b vs.toArray ws.toArray n n2 dd dd2 sl sl2 (by simpa using hv) (by simp[hw])) ⟨ho,ho2,h1 hw⟩
 .refine zGc ⟨_,ho,rfl⟩ ⟨_,ho2,rfl⟩ zFU zGP zDI zDA (zCx _ _)
   (tuple_addW2 t b vs.toArray ws.toArray n n2 dd dd2 sl sl2 (by simpa using hv) (by simpa using hw) (by rw[zAH,zAH];exact hsz)) ⟨ho,ho2,?_⟩
  rw[e];exact h2 hw
def sIx(n d:Nat):Option Int->Nat
 |none=>d
 |some v=>if v<0 then(v+(n:Int)).toNat else min v.toNat n
def aHL(n d:Nat)(hd:d<=n)(o:Option Int):sIx n d o<=n:=by
 cases o with
 |none=>exact hd
 |some v=>
  show(if v<0 then(v+(n:Int)).toNat else min v.toNat n)<=n
  by_cases hv:v<0
  .rw[if_pos hv];lia
  .rw[if_neg hv];exact Nat.min_le_right _ _
def aBn(v:Int)(n d:Nat):(if v<0 then max (v+(n:Int)) 0 else min v (n:Int))=((sIx n d (some v):Nat):Int):=by
 show(if v<0 then max (v+(n:Int)) 0 else min v (n:Int))=(((if v<0 then(v+(n:Int)).toNat else min v.toNat n):Nat):Int)
 by_cases hv:v<0
 .simp only[if_pos hv];lia
 .simp only[if_neg hv];lia
def aAz(lo hi:Option Int)(n:Nat):zC9 lo hi 1 (n:Int)=(((sIx n 0 lo:Nat):Int),((sIx n n hi:Nat):Int)):=by
 have h1:¬((1:Int)<0):=by lia
 unfold zC9;simp only[h1,if_false];refine zFY ?_ ?_
 .cases lo with
  |none=>rfl
  |some v=>exact aBn v n 0
 .cases hi with
  |none=>rfl
  |some v=>exact aBn v n n
def aA4(i j:Nat):zBw (i:Int) (j:Int) 1=j-i:=by
 unfold zBw;have h1:(1:Int)>0:=by lia
 simp only[h1,if_true,Int.ediv_one];split<;>lia
def tO(p:zEz v o)(h:Q o s):wpAny (model prog w) A (zHE v) Q E s:=by
 cases p with
 |none=>exact slicePart_none h
 |int i t=>exact slicePart_int h
def jT{sl:Addr}{vl vu:Value}{lo hi:Option Int}{n:Nat}{Q:Int×Int×Nat->zAE->Prop}(hs:s.heap.IsSliceOf sl vl vu .none)(pl:zEz vl lo)(pu:zEz vu hi)
  (h:Q (((sIx n 0 lo:Nat):Int),1,sIx n n hi-sIx n 0 lo) s):wpAny (model prog w) A (zDm (.ref sl) (pure (n:Int))) Q E s:=by
 obtain⟨os,hos,hcs,hds⟩:=id hs;unfold zDm zHD;refine zAR (zAR (zGr hos hds (x:=vl) rfl (zAR (zGr hos hds (x:=vu) rfl (zAR (zGr hos hds (x:=.none) rfl (zA7 ?_)))))));refine zAR (slicePart_none ?_);show wpAny _ _ (if ((1:Int)==0)=true then _ else _) _ _ s;rw[if_neg (by decide)];refine zAR (tO pl (zAR (tO pu (zAR (zA7 ?_)))));show wpAny _ _ (match zC9 lo hi 1 (n:Int)with|(lo,hi)=>pure (lo,(1:Int),zBw lo hi 1)) _ _ s;rw[aAz lo hi n];show wpAny _ _ (pure (((sIx n 0 lo:Nat):Int),(1:Int),zBw ((sIx n 0 lo:Nat):Int) ((sIx n n hi:Nat):Int) 1)) _ _ s;rw[aA4];exact zA7 h
def aDW(xs:Array Value)(i k:Nat):((zBB k).filterMap λ(m:Nat)=>xs[((i:Int)+(m:Int)*1).toNat]?).toArray=((xs.toList.drop i).take k).toArray:=by
 have e:(λ(m:Nat)=>xs[((i:Int)+(m:Int)*1).toNat]?)=λ m=>xs[i+m]?:=by
  funext m
  have:((i:Int)+(m:Int)*1).toNat=i+m:=by lia
  rw[this]
 rw[e]
 have:=pick_run xs i k
 rw[List.filterMap_map]at this;have e2:((λ x=>xs[x]?)∘λ x=>i+x)=λ m=>xs[i+m]?:=rfl
 rw[e2]at this;rw[this]
def pI{t sl:Addr}{items:Array Value}{vl vu:Value}{lo hi:Option Int}{Q:Value->zAE->Prop}(ht:IsTup s.heap t items)(hs:s.heap.IsSliceOf sl vl vu .none)(pl:zEz vl lo)(pu:zEz vu hi)
  (hw:¬(sIx items.size 0 lo=0/\sIx items.size items.size hi=items.size))
  (h:Q (.ref s.heap.objs.size) {s with heap:=s.heap.push {cls:=.type "tuple",data:=.seq ((items.toList.drop (sIx items.size 0 lo)).take (sIx items.size items.size hi-sIx items.size 0 lo)).toArray}})
  (hsz:items.size<=zAQ):wpAny (model prog w) A (zF9 (.ref t) (.ref sl)) Q E s:=by
 have yY:sizeOk (.seq ((items.toList.drop (sIx items.size 0 lo)).take (sIx items.size items.size hi-sIx items.size 0 lo)).toArray):=by
  show((items.toList.drop (sIx items.size 0 lo)).take (sIx items.size items.size hi-sIx items.size 0 lo)).toArray.size<=zAQ
  rw[zAH,zBA,zEU,zBW];lia
 have hj:sIx items.size items.size hi<=items.size:=aHL _ _ (zAU _) hi;obtain⟨os,hos,hcs,hds⟩:=id hs;have hTs:s.TypeIs (.ref sl) "slice":=⟨os,hos,hcs⟩;unfold zF9
 try with_reducible refine zDc ?_
 first|refine zAR (zA7 ?_)|skip
 refine zAR (zHR ht.typeIs (by decide) ?_);refine zAR (zGR (name:=Str.ofString "__getitem__") ht.typeIs zBM
  (zFV zBM ht.typeIs zGo ?_ (zHB _ _)))
 show wpAny _ _ (zDn (.ref t)>>=_) _ _ s;refine zAR (tupleItemsOf_ ht ?_);refine zAR (zFQ hTs ?_);rw[if_pos (by decide)];refine zAR (jT hs pl pu ?_);have hno:¬((((sIx items.size 0 lo:Nat):Int)==0&&(1:Int)==1&&(sIx items.size items.size hi-sIx items.size 0 lo)==items.size)=true):=by
  intro q;rw[zAN,zAN]at q;have q1:((sIx items.size 0 lo:Nat):Int)=0:=zE4 q.1.1;have q2:sIx items.size items.size hi-sIx items.size 0 lo=items.size:=zE4 q.2;exact hw ⟨by lia,by lia⟩
 show wpAny _ _ (if (((sIx items.size 0 lo:Nat):Int)==0&&(1:Int)==1&&(sIx items.size items.size hi-sIx items.size 0 lo)==items.size)=true then _ else _) _ _ s;rw[if_neg hno,aDW]
 first
  |exact zAR (m:=zBO _) (zBt (zA7 ⟨_,rfl,zA7 h⟩) yY)
  |exact zAR (m:=zBO _) (zBt (zAR (zA7 (zA7 ⟨_,rfl,zA7 h⟩))) yY)
  |exact zAR (zAR (m:=zBO _) (zBt (zA7 (zA7 ⟨_,rfl,zA7 h⟩)) yY))
  |exact zAR (zAR (m:=zBO _) (zBt (zA7 ⟨_,rfl,zA7 h⟩) yY))
end
end HT
namespace L2
open PySem PySem.Spec PyProof.Rows
abbrev TO:=St->Hp->(Option Int->Hp->Prop)->Prop
def PO(X:Cx)(e:Option Expr)(t:TO):Prop:=
 ∀(hV:hZ) (s:zAE) (σ:St) (H:Hp) (Q:Option Int->Hp->Prop),Inv X hV σ H s->t σ H Q->
  wpAny (model X.prog X.w) X.A (evalPart e X.env) (λ u s'=>∃o H',Inv X hV σ H' s'/\zEz u o/\Q o H') X.xe s
def aEe:TO:=λ _ H Q=>Q none H
def aIb(t:TE):TO:=λ σ H Q=>t σ H λ x H1=>∃i,x= .int i/\Q (some i) H1
def intsAre_of:∀{us:List Value},Vals (ns.map V.int) us->zBE us ns:=by
 induction ns with
 |nil=>intro us r;rw[zCU]at r;cases r;exact .nil
 |cons n ns ih=>
  intro us r;rw[zAP]at r;cases r with
  |cons r1 r2=>
   obtain⟨t,e⟩:=r1;subst e;exact .cons n t (ih r2)
section
variable{X:Cx}{e:Expr}{te:TE}{lo hi:Option Expr}{tl th:TO}{pos p2:Pos}
def aFH:PO X none aEe:=by
 intro hV s σ H Q I h;rw[zGL];exact zA7 ⟨none,H,I,.none,h⟩
def aFG(h:PE X e te):PO X (some e) (aIb te):=by
 intro hV s σ H Q I hw;rw[evalPart_some];refine thn (h hV s σ H _ I hw) λ u s1 ⟨x,H1,I1,r1,q1⟩=>?_
 obtain⟨i,rfl,q⟩:=q1;obtain⟨t,rfl⟩:=r1;exact⟨some i,H1,I1,.int i t,q⟩
def SlR(X:Cx)(r:V->Option Int->Option Int->Hp->VK->Prop):Prop:=
 ∀(hV:hZ) (s:zAE) (σ:St) (H:Hp) (x:V) (v vl vu:Value) (lo hi:Option Int) (sl:Addr) (Q:VK),Inv X hV σ H s->RelV x v->s.heap.IsSliceOf sl vl vu .none->zEz vl lo->zEz vu hi->r x lo hi H Q->
  ∃T id,zEK (.type T) "__getitem__"=pure (some (.builtin id))/\s.TypeIs v T/\wpAny (model X.prog X.w) X.A (zF9 v (.ref sl)) (EP X hV σ Q) X.xe s
def SlR.or(h:SlR X r)(h':SlR X r'):SlR X (λ x lo hi H Q=>r x lo hi H Q\/r' x lo hi H Q):=by
 intro hV s σ H x v vl vu lo hi sl Q I rx hs pl pu q;rcases q with q|q
 .exact h hV s σ H x v vl vu lo hi sl Q I rx hs pl pu q
 .exact h' hV s σ H x v vl vu lo hi sl Q I rx hs pl pu q
def tSl(r:V->Option Int->Option Int->Hp->VK->Prop)(te:TE)(tl th:TO):TE:=λ σ H Q=>te σ H λ x H1=>tl σ H1 λ l H2=>th σ H2 λ u H3=>r x l u H3 Q
def aDZ(hr:SlR X r)(he:PE X e te)(hl:PO X lo tl)(hu:PO X hi th):PE X (.Subscript e (.Slice lo hi none p2) pos) (tSl r te tl th):=by
 intro hV s σ H Q I h;refine zHL (thn (he hV s σ H _ I h) λ v s1 ⟨x,H1,I1,r1,q1⟩=>?_);refine wpAny_Slice (thn (hl hV s1 σ H1 _ I1 q1) λ vl s2 ⟨l,H2,I2,pl,q2⟩=>thn (hu hV s2 σ H2 _ I2 q2) λ vu s3 ⟨u,H3,I3,pu,q3⟩=>?_);rw[zGL];refine zA7 ?_;have I4:Inv X hV σ H3 {s3 with heap:=s3.heap.push {cls:=.type "slice",data:=.fields #[vl,vu,.none]}}:=I3.kept (t':=s3.toks) λ b ob q=>zAG _ q
 obtain⟨T,id,hT,ht,hg⟩:=hr hV {s3 with heap:=s3.heap.push {cls:=.type "slice",data:=.fields #[vl,vu,.none]}} σ H3 x v vl vu l u s3.heap.objs.size Q I4 r1 (zE1 ..) pl pu q3;show wpAny (model X.prog X.w) X.A (zGQ e (.Slice lo hi none p2) v (.ref s3.heap.objs.size)) (EP X hV σ Q) X.xe {s3 with heap:=s3.heap.push {cls:=.type "slice",data:=.fields #[vl,vu,.none]}};exact tail_any (ops:=[.ref s3.heap.objs.size,v]) ht hT hg (by with_unfolding_all rfl)
def uo(xs:List V)(lo hi:Option Int):List V:=(xs.drop (HT.sIx xs.length 0 lo)).take (HT.sIx xs.length xs.length hi-HT.sIx xs.length 0 lo)
def rF(xs:List V)(lo hi:Option Int):(uo xs lo hi).length<=xs.length:=by
 unfold uo;rw[zBA,zEU];lia
def aEz(K:zAA):R2:=λ x y H Q=>∃a b ns ms,x= .ref a/\y= .ref b/\SqT K H a (ns.map V.int)/\SqT K H b (ms.map V.int)/\Q (.bl (HT.lexLt ns ms)) H
def aHp(hu:X.A.units<cLine):OpR X (zAp .Lt) (aEz X.K):=by
 intro hV s σ H x y v u Q I rx ry h;obtain⟨a,b,ns,ms,rfl,rfl,ha,hb,q⟩:=h;cases rx;cases ry;obtain⟨its,r1,p1,_⟩:=I.tuple ha;obtain⟨its2,r2,p2,_⟩:=I.tuple hb;have i1:zBE its.toArray.toList ns:=intsAre_of r1;have i2:zBE its2.toArray.toList ms:=intsAre_of r2;exact HT.aAg p1 p2 i1 i2 hu ⟨.bl (HT.lexLt ns ms),H,I,rfl,q⟩
def aIv(K:zAA):R2:=λ x y H Q=>∃a b xs ys,x= .ref a/\y= .ref b/\SqT K H a xs/\SqT K H b ys/\xs≠[]/\xs.length+ys.length<=zAQ/\
 (ys=[]->Q (.ref a) H)/\(ys≠[]->∀p,H p=none->Q (.ref p) (upd H p (.tup (xs++ys))))
def Vals.nil_iff(r:Vals xs us):us=[]↔xs=[]:=by
 cases r with
 |nil=>simp
 |cons _ _=>simp
def aF2:OpR X (zB9 .Add) (aIv X.K):=by
 intro hV s σ H x y v u Q I rx ry h;obtain⟨a,b,xs,ys,rfl,rfl,ha,hb,hx,hz,q1,q2⟩:=h;cases rx;cases ry;obtain⟨its,r1,p1,_⟩:=I.tuple ha;obtain⟨its2,r2,p2,_⟩:=I.tuple hb;refine HT.aGO p1 p2 (λ z=>hx (r1.nil_iff.mp z)) (λ z=>⟨.ref a,H,I,rfl,q1 (r2.nil_iff.mp z)⟩) (λ z=>?_) (by rw[<-r1.length,<-r2.length];exact hz);refine⟨.ref s.heap.objs.size,_,I.laid (t':=s.toks) (o:=.tup (xs++ys)) (λ b ob q=>zAG _ q) (zAU _) ?_,rfl,q2 (λ w=>z (r2.nil_iff.mpr w)) _ (I.hok.fresh (zAU _))⟩;exact⟨⟨by rw[zAW];exact hz,NoD.push _⟩,_,r1.append r2,zE2 _ _⟩
end
def ixN(n:Nat)(i:Int):Option Nat:=if 0<=i then(if i<n then some i.toNat else none)else if -(n:Int)<=i then some (i+n).toNat else none
def atI{α:Type}(xs:List α)(i:Int):Option α:=(ixN xs.length i).bind λ j=>xs[j]?
def aFl(h:ixN n i=some j):seqIndex? i n=some j/\j<n/\-(n:Int)<=i/\i<n:=by
 unfold ixN at h;by_cases h0:0<=i
 .rw[if_pos h0]at h
  by_cases h1:i<n
  .rw[if_pos h1]at h
   have e:i.toNat=j:=zAl h;exact⟨by rw[seqIndex_of h0 h1,e],by lia,by lia,h1⟩
  .rw[if_neg h1]at h;cases h
 .rw[if_neg h0]at h
  by_cases h1: -(n:Int)<=i
  .rw[if_pos h1]at h
   have e:(i+n).toNat=j:=zAl h;exact⟨by rw[seqIndex_neg (by lia) h1,e],by lia,h1,by lia⟩
  .rw[if_neg h1]at h;cases h
def yF(h:atI xs i=some v):∃j,seqIndex? i xs.length=some j/\xs[j]? =some v/\j<xs.length/\-(xs.length:Int)<=i/\i<xs.length:=by
 unfold atI at h;cases e:ixN xs.length i with
 |none=>rw[e]at h;cases h
 |some j=>
  rw[e]at h;obtain⟨h1,h2,h3,h4⟩:=aFl e;exact⟨j,h1,h,h2,h3,h4⟩
def yJ(b:Expr):Prop:=∀o i,subscripted b false o i=operate [o,i] (zF9 o i)
def IxR(X:Cx)(r:R2):Prop:=
 ∀(value slice:Expr) (hV:hZ) (s:zAE) (σ:St) (H:Hp) (x y:V) (v u:Value) (Q:VK),Inv X hV σ H s->RelV x v->RelV y u->r x y H Q->
  subscripted slice false v u=operate [v,u] (zF9 v u)->wpAny (model X.prog X.w) X.A (zGQ value slice v u) (EP X hV σ Q) X.xe s
def MtR(X:Cx)(id:String)(r:V->List V->Hp->VK->Prop):Prop:=
 ∀(hV:hZ) (s:zAE) (σ:St) (H:Hp) (x:V) (xs:List V) (v:Value) (us:List Value) (Q:VK),Inv X hV σ H s->RelV x v->Vals xs us->r x xs H Q->
  wpAny (model X.prog X.w) X.A (call (.builtin id) (v::us)) (EP X hV σ Q) X.xe s
section
variable{X:Cx}{a b:Expr}{ta tb:TE}{pos:Pos}
def IxR.or(h:IxR X r)(h':IxR X r'):IxR X (λ x y H Q=>r x y H Q\/r' x y H Q):=by
 intro value slice hV s σ H x y v u Q I rx ry q hs;rcases q with q|q
 .exact h value slice hV s σ H x y v u Q I rx ry q hs
 .exact h' value slice hV s σ H x y v u Q I rx ry q hs
def aGl{r:R2}(hr:IxR X r)(ha:PE X a ta)(hb:PE X b tb)(hs:yJ b):PE X (.Subscript a b pos) (tOp r ta tb):=by
 intro hV s σ H Q I h;exact zHL (aI3 ha hb I h λ v u s2 x y H2 I2 rx ry q=>hr a b hV s2 σ H2 x y v u Q I2 rx ry q (hs _ _))
def aHU(K:zAA):R2:=λ x y H Q=>∃p xs i v,x= .ref p/\y= .int i/\SqL K H p xs/\atI xs i=some v/\Q v H
def aIs(K:zAA):R2:=λ x y H Q=>∃p xs i v,x= .ref p/\y= .int i/\SqT K H p xs/\atI xs i=some v/\Q v H
def aIt:R2:=λ x y H Q=>∃z i c,x= .str z/\y= .int i/\z.length<=zAQ/\atI z.cps.toList i=some c/\Q (.str ⟨#[c]⟩) H
def aBc:IxR X (aHU X.K):=by
 intro value slice hV s σ H x y v u Q I rx ry h hs;obtain⟨p,xs,i,z,rfl,rfl,hq,he,q⟩:=h;cases rx;obtain⟨t,rfl⟩:=ry;obtain⟨its,r,pl,hz⟩:=I.list hq;obtain⟨j,h1,h2,h3,h4,h5⟩:=yF he;obtain⟨w,ew,rw'⟩:=r.get h2;have hl:=r.length;have hn:=uM;have fin:EP X hV σ Q w s:=⟨z,H,I,rw',q⟩;by_cases h0:0<=i
 .have hj:i.toNat=j:=by
   rw[seqIndex_of h0 h5]at h1;exact zAl h1
  exact item_listR pl.isList h0 (by lia) (by rw[hj];simpa using ew) fin hs
 .have hj:(i+(its.toArray.size:Int)).toNat=j:=by
   rw[seqIndex_neg (by lia) h4]at h1;rw[zAH,<-hl];exact zAl h1
  exact zGZ (x:=w) pl.isList.typeIs zEy.lookup
   (wpAny_getItem_list_neg (Q:=λ r s'=>r=w/\EP X hV σ Q r s') pl.isList (by lia) (by rw[zAH]<;>lia) (by lia) (by rw[hj];simpa using ew) ⟨rfl,fin⟩) hs
def aII:IxR X (aIs X.K):=by
 intro value slice hV s σ H x y v u Q I rx ry h hs;obtain⟨p,xs,i,z,rfl,rfl,hq,he,q⟩:=h;cases rx;obtain⟨t,rfl⟩:=ry;obtain⟨its,r,pl,hz⟩:=I.tuple hq;obtain⟨j,h1,h2,h3,h4,h5⟩:=yF he;obtain⟨w,ew,rw'⟩:=r.get h2;have hl:=r.length;have hn:=uM;have fin:EP X hV σ Q w s:=⟨z,H,I,rw',q⟩;exact zGZ (x:=w) pl.typeIs slot_tuple_getitem.lookup
  (getItem_tuple (j:=j) (Q:=λ r s'=>r=w/\EP X hV σ Q r s') pl (by lia) (by lia) (by rw[zAH,<-hl];exact h1) (by simpa using ew) ⟨rfl,fin⟩) hs
def aIJ:IxR X aIt:=by
 intro value slice hV s σ H x y v u Q I rx ry h hs;obtain⟨z,i,c,rfl,rfl,hz,he,q⟩:=h;obtain⟨t,rfl⟩:=rx;obtain⟨t',rfl⟩:=ry;obtain⟨j,h1,h2,h3,h4,h5⟩:=yF he;have hl:z.cps.toList.length=z.length:=by simp[Str.length]
 rw[hl]at h1 h4 h5;have hn:=uM;exact tail_any (typeIs_str s z t) slot_str_getitem.lookup (getItem_str (c:=c) (by
  have e1:decide (i < -(2^63:Int))=false:=decide_eq_false (by lia);have e2:decide (i ≥ 2^63)=false:=decide_eq_false (by lia);rw[e1,e2,Bool.or_false]) (by rw[h1];simpa using h2) ⟨.str ⟨#[c]⟩,H,I.tok _,⟨_,rfl⟩,q⟩) hs
def rIx(K:zAA):R2:=λ x y H Q=>aHU K x y H Q\/aIs K x y H Q\/aIt x y H Q
def aIK:IxR X (rIx X.K):=aBc.or (aII.or aIJ)
def wR(lo hi:Option Int)(n:Nat):(zDD lo hi none n).1=((HT.sIx n 0 lo:Nat):Int)/\(zDD lo hi none n).2.1=((HT.sIx n n hi:Nat):Int)/\(zDD lo hi none n).2.2=1:=by
 refine⟨?_,?_,rfl⟩
 .cases lo with
  |none=>simp[zDD,HT.sIx]
  |some i=>
   simp only[zDD,HT.sIx,zGJ,show(1:Int)>0 by decide,if_true];by_cases h:i<0
   .simp only[h,if_true]<;>lia
   .simp only[h,if_false]<;>lia
 .cases hi with
  |none=>simp[zDD,HT.sIx]
  |some i=>
   simp only[zDD,HT.sIx,zGJ,show(1:Int)>0 by decide,if_true];by_cases h:i<0
   .simp only[h,if_true]<;>lia
   .simp only[h,if_false]<;>lia
def vA(its:List Value)(lo hi:Option Int):slicePick its.toArray lo hi none=((its.drop (HT.sIx its.length 0 lo)).take (HT.sIx its.length its.length hi-HT.sIx its.length 0 lo)).toArray:=by
 obtain⟨h1,h2,h3⟩:=wR lo hi its.toArray.size;unfold slicePick;rw[h1,h2,h3];simp only[sliceRange_one,pick_run,zAH]<;>rfl
def aIq(K:zAA):V->Option Int->Option Int->Hp->VK->Prop:=λ x lo hi H Q=>∃a xs,x= .ref a/\SqL K H a xs/\∀p,H p=none->Q (.ref p) (upd H p (.lst (uo xs lo hi)))
def aEk:SlR X (aIq X.K):=by
 intro hV s σ H x v vl vu lo hi sl Q I rx hs pl pu h;obtain⟨a,xs,rfl,hx,q⟩:=h;cases rx;obtain⟨its,r,ht,hz⟩:=I.list hx;have hW:=r.length;refine⟨"list",_,zEy.lookup,ht.isList.typeIs,?_⟩;refine zGE ht.isList hs pl pu .none (by simp) ?_ (by rw[zAH]<;>lia);rw[vA,<-hW];refine⟨.ref s.heap.objs.size,_,I.laid (t':=s.toks) (o:=.lst (uo xs lo hi)) (λ b ob q=>zAG _ q) (zAU _) ?_,rfl,q _ (I.hok.fresh (zAU _))⟩;exact⟨zAe (rF xs lo hi) hz,_,0,(r.drop (HT.sIx xs.length 0 lo)).take (HT.sIx xs.length xs.length hi-HT.sIx xs.length 0 lo),zA6 _ rfl⟩
def yC:cZ X (.builtin "len") (λ xs H Q=>∃p ys,xs=[.ref p]/\(SqL X.K H p ys\/SqT X.K H p ys)/\Q (.int ys.length) H):=by
 intro hV s σ H xs us Q I r h;obtain⟨p,ys,rfl,hq,q⟩:=h;obtain⟨u,rfl,rx⟩:=vals1 r;cases rx;have hn:=uM;rcases hq with hq|hq
 .obtain⟨its,r',pl,hz⟩:=I.list hq
  have hW:=r'.length;exact Calls.call_len_list pl.isList (by simp only[zAH]<;>lia) ⟨.int ys.length,H,I.tok _,⟨s.toks+1,by rw[zAH,hW]⟩,q⟩
 .obtain⟨its,r',pl,hz⟩:=I.tuple hq
  have hW:=r'.length;exact len_tuple pl (by simp only[zAH]<;>lia) ⟨.int ys.length,H,I.tok _,⟨s.toks+1,by rw[zAH,hW]⟩,q⟩
def cZ.or(h:cZ X f r)(h':cZ X f r'):cZ X f (λ xs H Q=>r xs H Q\/r' xs H Q):=by
 intro hV s σ H xs us Q I rs q;rcases q with q|q
 .exact h hV s σ H xs us Q I rs q
 .exact h' hV s σ H xs us Q I rs q
def vN:cZ X (.type "tuple") (λ xs H Q=>∃p ys,xs=[.ref p]/\((SqL X.K H p ys/\∀l,H l=none->Q (.ref l) (upd H l (.tup ys)))\/(SqT X.K H p ys/\Q (.ref p) H))):=by
 intro hV s σ H xs us Q I r h;obtain⟨p,ys,rfl,h⟩:=h;obtain⟨u,rfl,rx⟩:=vals1 r;cases rx;rcases h with ⟨hq,q⟩|⟨hq,q⟩
 .obtain⟨its,r',pl,hz⟩:=I.list hq
  have hW:=r'.length;refine call_tuple_list pl.isList (λ h' kp=>?_) (by simp only[zAH]<;>lia);have I1:Inv X hV σ H {s with heap:=h'}:=I.kept (t':=s.toks) kp;have I2:Inv X hV σ (upd H h'.objs.size (.tup ys)) {s with heap:=h'.push {cls:=.type "tuple",data:=.seq its.toArray}}:=
   I1.laid (t':=s.toks) (λ b o e=>zAG _ e) (zAU _) (show dj X.prog X.w _ _ _ (.tup ys)from⟨⟨hz,NoD.push _⟩,its,r',zE2 _ _⟩)
  exact⟨.ref h'.objs.size,_,I2,rfl,q _ (I1.hok.fresh (zAU _))⟩
 .obtain⟨its,r',pl,hz⟩:=I.tuple hq
  exact call_tuple_same pl ⟨.ref p,H,I,rfl,q⟩
def tyV(K:zAA)(T:String)(x:V)(H:Hp):Prop:=match x with
 | .str _=>T="str"
 | .int _=>T="int"
 | .ref p=>(T="list"/\∃xs,SqL K H p xs)\/(T="tuple"/\∃o,K.lookup p=some o/\o.cls= .type "tuple"/\o.dict=none)\/
   (T="dict"/\((∃kvs,H p=some (.dK kvs))\/∃kvs,H p=some (.dT kvs)))\/(T="set"/\∃S n,H p=some (.set S n))
 |_=>False
def aGw(I:Inv X hV σ H s)(r:RelV x v)(ty:tyV X.K T x H):
  s.TypeIs v T/\∀a,v= .ref a->∃ob,s.heap.get? a=some ob/\ob.dict=none:=by
 cases x with
 |str z=>
  obtain⟨t,rfl⟩:=r;cases (show T="str" from ty);exact⟨typeIs_str s z t,λ _ e=>nomatch e⟩
 |int i=>
  obtain⟨t,rfl⟩:=r;cases (show T="int" from ty);exact⟨zCj s i t,λ _ e=>nomatch e⟩
 |ref p=>
  cases r;rcases ty with ⟨rfl,xs,hq⟩|⟨rfl,o,hk,hc,hd⟩|⟨rfl,hk⟩|⟨rfl,S,n,hk⟩
  .obtain⟨its,_,pl,_⟩:=I.list hq
   refine⟨pl.isList.typeIs,λ a e=>?_⟩;cases e;obtain⟨o,n,e,c,hd,_⟩:=pl;exact⟨o,e,hd⟩
  .refine⟨⟨o,I.kIn p o hk,hc⟩,λ a e=>?_⟩
   cases e;exact⟨o,I.kIn _ o hk,hd⟩
  .have z:∃o,s.heap.get? p=some o/\o.ExactDict:=by
    rcases hk with ⟨kvs,hk⟩|⟨kvs,hk⟩
    .obtain⟨_,_,_,_,o,_,_,e,ex,_⟩:=I.hok p _ hk
     exact⟨o,e,ex⟩
    .obtain⟨_,_,_,_,o,_,_,e,ex,_⟩:=I.hok p _ hk
     exact⟨o,e,ex⟩
   obtain⟨o,e,ex⟩:=z;refine⟨⟨o,e,ex.1⟩,λ a e2=>?_⟩;cases e2;exact⟨o,e,ex.2.1⟩
  .obtain⟨o,_,_,_,e,ex,_⟩:=I.hok p _ hk
   refine⟨⟨o,e,ex.1⟩,λ a e2=>?_⟩;cases e2;exact⟨o,e,ex.2.1⟩
 |_=>exact zAK ty
def tBM(K:zAA)(T:String)(r:V->List V->Hp->VK->Prop)(to:TE)(t:TA):TE:=λ σ H Q=>to σ H λ x H1=>tyV K T x H1/\t σ H1 λ xs H2=>r x xs H2 Q
variable{o e:Expr}{es:List Expr}{to:TE}{t:TA}{name:Str}{apos cpos:Pos}{T id:String}{r:V->List V->Hp->VK->Prop}
def uF(pa:PlainAttrs T)(slot:Slot T name id)(hty:typeOf (.builtin id)=pure (.type "method_descriptor"))(hm:MtR X id r)(ho:PE X o to)(ha:PA X (e::es) t)
  (hbase:zCS o name X.env (eval o X.env)=eval o X.env:=by rfl)
  (hfew:((zBv cpos (zAX (e::es) X.env)).all (λ x=>!x.1)&&(zDK cpos (zCL [] X.env)).all (λ x=>x.1.isSome)
   &&decide ((e::es).length+([]:List zBe).length+(if ([]:List zBe).isEmpty then 0 else 1)<30))=true:=by rfl)
  (hline:(apos.endLine==cpos.line)=true:=by rfl)(hs:zAX (e::es) X.env=(false,eval e X.env)::zAX es X.env:=by rfl)(hplain:(zBv cpos (zAX es X.env)).any (·.1)=false:=by rfl):
  PE X (.Call (.Attribute o name apos) (e::es) [] cpos) (tBM X.K T r to t):=by
 intro hV s σ H Q I h;refine wpAny_Call_method_late hbase hfew hline rfl (thn (ho hV s σ H _ I h) λ v s1 ⟨x,H1,I1,r1,ty,q1⟩=>?_);obtain⟨h1,h2⟩:=aGw I1 r1 ty;refine⟨T,id,pa,slot,hty,h1,h2,?_⟩;have hA:=ha cpos hV s1 σ H1 _ I1 q1;rw[hs]at hA ⊢;refine Calls.callWith_builtin (by show(false||(zBv cpos (zAX es X.env)).any (·.1))=false;rw[hplain]<;>rfl) (zFe ?_);exact thn hA λ us s2 ⟨vs,H2,I2,r2,q2⟩=>hm hV s2 σ H2 x vs v us Q I2 r1 r2 q2
end
def MtM(X:Cx)(id:String)(r:V->List V->Hp->VK->Prop):Prop:=
 ∀(hV:hZ) (s:zAE) (σ:St) (H:Hp) (x:V) (xs:List V) (v:Value) (us:List Value) (Q:VK),Inv X hV σ H s->RelV x v->Vals xs us->r x xs H Q->
  wpAny (model X.prog X.w) X.A (call (.builtin id) (v::us)) (EP X hV σ Q) X.xe s
def Vals.one:∀{x:V} {us:List Value},Vals [x] us->∃u,us=[u]/\RelV x u
 |_,_,.cons r .nil=>⟨_,rfl,r⟩
theorem Vals.reverse(h:Vals xs us):Vals xs.reverse us.reverse:=by
 induction h with
 |nil=>exact .nil
 |cons r t ih=>rw[zCH,zCH];exact Vals.append ih (.cons r .nil)
theorem Vals.rep(h:Vals xs us):∀k:Nat,Vals (zAM k xs).flatten (zAM k us).flatten
 |0=>.nil
 |k+1=>by
  rw[zBZ,zBZ,zCF,zCF];exact Vals.append h (Vals.rep h k)
theorem foldl_rep(its:List Value):∀(k:Nat) (acc:List Value),
  zFR (λ x1 x2=>x1++x2) acc.toArray (zAM k its.toArray)=(acc++(zAM k its).flatten).toArray
 |0,acc=>by simp
 |k+1,acc=>by
  have e:acc.toArray++its.toArray=(acc++its).toArray:=by simp
  have e2:(acc++its)++(zAM k its).flatten=acc++(zAM (k+1) its).flatten:=by
   rw[zBZ,zCF,zAo]
  rw[<-e2,<-foldl_rep its k (acc++its),<-e,zBZ,zCq]
section
variable{X:Cx}{hV:hZ}{σ:St}{H:Hp}{s:zAE}{l:Addr}{xs ys:List V}
def Inv.lset{its its':List Value}{n:Nat}{f:Array Value->Array Value}{t':Nat}(I:Inv X hV σ H s)(hH:H l=some (.lst xs))
  (e:s.heap.get? l=some {cls:=.type "list",data:=.seq its.toArray n})(hf:f its.toArray=its'.toArray)(hv:Vals ys its')(hz:ys.length<=zAQ):
  Inv X hV σ (upd H l (.lst ys)) {s with heap:=s.heap.update l (zCJ f),toks:=t'}:=by
 have q:=PySem.IsL.update e f;rw[hf]at q;refine I.write (x:=l) (e:=l) (by rw[hH];exact trivial) (.inl rfl) (λ b' u hb hu=>(Heap.get?_update_other s.heap (zCJ f) (zDF hb)).trans hu) ⟨_,q⟩ ?_;exact⟨hz,its',_,hv,q⟩
def Inv.lnew(I:Inv X hV σ H s)(hv:Vals ys its)(hz:ys.length<=zAQ):
  Inv X hV σ (upd H s.heap.objs.size (.lst ys)) {s with heap:=s.heap.push {cls:=.type "list",data:=.seq its.toArray},toks:=t'}:=
 I.laid (λ _ _ q=>zAG _ q) (zAU _) ⟨hz,its,0,hv,zA6 _ rfl⟩
theorem Inv.fresh(I:Inv X hV σ H s):H s.heap.objs.size=none:=I.hok.fresh (zAU _)
def Inv.lstM(I:Inv X hV σ H s)(hH:H l=some (.lst xs)):xs.length<=zAQ/\∃(its:List Value) (n:Nat),Vals xs its/\xs.length=its.length/\s.heap.get? l=some {cls:=.type "list",data:=.seq its.toArray n}:=by
 obtain⟨z,its,n,r,e⟩:=I.hok l _ hH;exact⟨z,its,n,r,r.length,e⟩
def pG(h:n<=zAQ):zBC n=false:=by
 unfold zBC;exact decide_eq_false (by lia)
end
section
variable{X:Cx}
def aFC:V->List V->Hp->VK->Prop:=λ x vs H Q=>∃l xs y,x= .ref l/\vs=[y]/\H l=some (.lst xs)/\xs.length<zAQ/\Q .non (upd H l (.lst (xs++[y])))
def v9:MtM X "list.append" aFC:=by
 intro hV s σ H x vs v us Q I rx rv h;obtain⟨l,xs,y,rfl,rfl,hH,hz,q⟩:=h;cases rx;obtain⟨u,rfl,ru⟩:=rv.one;obtain⟨z,its,n,r,hl,e⟩:=I.lstM hH;refine zBr zCY ⟨_,e,rfl⟩ F.entry_list_append (F.args_list_append_2 _ _) (PySem.list_append l its.toArray n u (by rw[zAH];lia)) ⟨e,?_⟩;refine⟨.non,_,I.lset (its':=its++[u]) hH e (by simp) (r.append (.cons ru .nil)) ?_,rfl,q⟩;rw[zAW,zAq];lia
def aFB:V->List V->Hp->VK->Prop:=λ x vs H Q=>∃l b xs zs,x= .ref l/\vs=[.ref b]/\H l=some (.lst xs)/\H b=some (.lst zs)/\xs.length+zs.length<=zAQ/\Q .non (upd H l (.lst (xs++zs)))
def aCJ:MtM X "list.extend" aFB:=by
 intro hV s σ H x vs v us Q I rx rv h;obtain⟨l,b,xs,zs,rfl,rfl,hH,hB,hz,q⟩:=h;cases rx;obtain⟨u,rfl,ru⟩:=rv.one;cases ru;obtain⟨z,its,n,r,hl,e⟩:=I.lstM hH;obtain⟨z2,its2,n2,r2,hl2,e2⟩:=I.lstM hB;have hsz:its.toArray.size+its2.toArray.size<=zAQ:=by rw[zAH,zAH];lia
 have kK:¬(!its.toArray.isEmpty&&zBC (its.toArray.size+its2.toArray.size))=true:=by
  rw[pG hsz,zCO];exact zA3
 refine zBr zC6 ⟨_,e,rfl⟩ zG1 (zGS _ _)
  (AutoSeq1.list_extend_list_list_0 l its.toArray n b its2.toArray n2 kK (by rw[zAH];lia) (by lia)) ⟨e,e2,?_⟩
 refine⟨.non,_,I.lset (its':=its++its2) hH e (by simp) (r.append r2) ?_,rfl,q⟩;rw[zAW];lia
def aJi:R2:=λ x y H Q=>∃l b xs zs,x= .ref l/\y= .ref b/\H l=some (.lst xs)/\H b=some (.lst zs)/\xs.length+zs.length<=zAQ/\∀p,H p=none->Q (.ref p) (upd H p (.lst (xs++zs)))
def aHu:OpR X (zB9 .Add) aJi:=by
 intro hV s σ H x y v u Q I rx ry h;obtain⟨l,b,xs,zs,rfl,rfl,hH,hB,hz,q⟩:=h;cases rx;cases ry;obtain⟨z,its,n,r,hl,e⟩:=I.lstM hH;obtain⟨z2,its2,n2,r2,hl2,e2⟩:=I.lstM hB;refine PySem.P.add_list e e2 ?_ (by rw[zAH,zAH];lia);have ea:its.toArray++its2.toArray=(its++its2).toArray:=by simp
 rw[ea];exact⟨.ref _,_,I.lnew (t':=s.toks) (r.append r2) (by rw[zAW];lia),rfl,q _ I.fresh⟩
def aIr:R2:=λ x y H Q=>∃l k xs,x= .ref l/\y= .int k/\H l=some (.lst xs)/\-(2^63)<=k/\k<2^63/\xs.length*k.toNat<=zAQ/\
 ∀p,H p=none->Q (.ref p) (upd H p (.lst (zAM k.toNat xs).flatten))
def len_rep(xs:List α)(k:Nat):(zAM k xs).flatten.length=k*xs.length:=by
 induction k with
 |zero=>simp
 |succ k ih=>rw[zBZ,zCF,zAW,ih,Nat.succ_mul,Nat.add_comm]
def aHj:OpR X (zB9 .Mult) aIr:=by
 intro hV s σ H x y v u Q I rx ry h;obtain⟨l,k,xs,rfl,rfl,hH,h1,h2,hz,q⟩:=h;cases rx;obtain⟨t,rfl⟩:=ry;obtain⟨z,its,n,r,hl,e⟩:=I.lstM hH;have hW:its.toArray.size*k.toNat<=zAQ:=by rw[zAH,<-hl];exact hz
 have hcap:¬its.toArray.size*k.toNat>(2^63-1) / 8:=by
  have:(zAQ:Nat)<=(2^63-1) / 8:=by decide
  lia
 have hfit:¬(!Builtin.List.listFitsIndex k)=true:=by
  rw[fitsIndex_both h1 h2];exact zA3
 have kK:¬zBC (its.toArray.size*k.toNat)=true:=by
  rw[pG hW];exact zA3
 have hnew:zFR (λ x1 x2=>x1++x2) #[] (zAM (if its.toArray.isEmpty=true then 0 else k.toNat) its.toArray)=(zAM k.toNat its).flatten.toArray:=by
  have f0:∀m:Nat,zFR (λ x1 x2=>x1++x2) #[] (zAM m its.toArray)=(zAM m its).flatten.toArray:=λ m=>by
   have:=foldl_rep its m []
   rw[zD0]at this;exact this
  rw[f0];cases its with
  |nil=>simp
  |cons a r'=>rw[if_neg (by simp)]
 refine zCW (T:="list") (U:="int") (by decide) ⟨_,e,rfl⟩ (λ s'=>zCj s' k t) noFill_list_mul zDh zBm repeat_list zDW.lookup
  (zBr zBm (zCj s k t) zDV (zDM _ _) (int___rmul___int_list k t l its.toArray n)
   ⟨e,rfl,⟨_,e,rfl⟩,zBr F.slot_list_mul ⟨_,e,rfl⟩ F.entry_list_mul (F.args_list_mul_2 _ _) (AutoListH.list___mul___list_int_3 l its.toArray n k t hfit hcap kK) ⟨e,?_⟩⟩)
 rw[hnew];exact⟨.ref _,_,I.lnew (t':=s.toks) (r.rep k.toNat) (by rw[len_rep,zFp];exact hz),rfl,q _ I.fresh⟩
end
end L2
namespace Att
open PySem PySem.W PySem.Calls PyProof.Rows
def rz:∀(ns:List Int) (vs:List Value),WellAll P h vs (ns.map WData.int)->zBE vs ns:=by
 intro ns;induction ns with
 |nil=>
  intro vs w;rw[zCU]at w;cases w;exact .nil
 |cons n ns ih=>
  intro vs w;rw[zAP]at w;cases w with
  |cons a b=>
   cases a;exact .cons _ _ (ih _ b)
def aBx{l:OpenLaw}{n:Nat}(hn:l.most=some n){P:Params}{h:Heap}{args:List WData}{vals:List Value}
  (hpre:l.row.toRowW.claim.pre args=true)(hwl:WellAll P h vals args):
  ∃a vs ns,vals=[zBX a]/\args=[WData.list (ns.map WData.int)]/\h.get? a=some {cls:=.type "list",data:=.seq vs.toArray}/\zBE vs ns/\ns.length<=n:=by
 have hsh:WShape.hasAll [] args [.list .int]=true:=(pre_splitW hpre).1;have hc:l.pre.holds [] {args:=args}=true:=(pre_splitW hpre).2;obtain⟨d,r,rfl,h1,h2⟩:=hasAllW_cons hsh;obtain rfl:=hasAllW_nil h2;obtain⟨xs,rfl,h3⟩:=hasW_list h1;obtain⟨ns,rfl⟩:=items_int h3;have hW:ns.length<=n:=by
  unfold OpenLaw.pre at hc;have h4:(WTm.not (.lt (.lit (.int (n:Int))) (.len (.arg 0)))).holds [] {args:=[.list (ns.map .int)]}=true:=by
   have h4:=(holds_andW hc).1;rw[hn]at h4;exact h4
  have h5:=condW_of h4 (w_not (w_lt w_lit (w_len_list (w_arg rfl))));rw[zAB]at h5;refine zDR λ q=>?_
  have q':(n:Int)<((ns.length:Nat):Int):=by lia
  first
   |(rw[decide_eq_true q']at h5;exact absurd h5 (by decide))
   |(simp at h5;lia)
 cases hwl with
 |cons w1 w2=>
  cases w2;cases w1 with
  |list ho iX=>exact⟨_,_,ns,rfl,rfl,ho,rz ns _ iX,hW⟩
def aCB(l:OpenLaw)(args:List WData):l.row.toRowW.claim.post args (.bool true) args=true:=
 postW_of (r:=l.row.toRowW) (X:=(true==true))
  (show WShape.has [] (.bool true) .bool=true by first|rfl|decide|simp[WShape.has,WShape.arms,WShape.armsAll])
  (show(WTm.eq .res (.lit (.bool true))).value [] {args:=args,res:=some (.bool true),after:=args}=some (.bool (true==true))from w_eq_bool (w_res rfl) w_lit) rfl
def zp{l:OpenLaw}{n:Nat}{q:zAZ}{loose:List Str}{XP:(Str->Option Value)->Heap->Prop}{YP:World->Heap->Prop}{d:DefRec}
  (hn:l.most=some n)(hdf:d.params.defaults=[])
  (call:∀(w:World) (z5 z3:zAE) (mg mb:Str->Option Value) (fa:Addr) (o:Obj) (pm cd doc:Value) (a:Addr) (vs:List Value) (ns:List Int),
   Ground q loose [] XP w z5 mg mb z3.heap->YP w z3.heap->
   z3.heap.get? fa=some o->o.data= .func (docDef d.name d.params d.body d.scope pm cd doc)->z3.heap.CodeRec cd d.name->mg d.name=some (.ref fa)->
   z3.heap.get? a=some {cls:=.type "list",data:=.seq vs.toArray}->zBE vs ns->ns.length<=n->z3.gens=#[]->
   zDC (model l.prog w) zET (.call (.ref fa) ⟨[.ref a],[]⟩) (λ r s'=>r= .ok (.ret (.bool true))/\OldK z3.heap s'.heap/\s'.os=z3.os/\zDv s'.gens) z3):
  WalkO q loose XP YP l.row.toRowW d [] (λ f vs=>zGK f vs):=by
 intro w z5 z3 mg mb G Y fa o pm cd doc dV kV ho hd hcd hD hmg hg args vals as hpre hlay hrd hwl hlo;obtain rfl:dV= .none:=Dflts.none hD hdf;obtain rfl:kV= .none:=Dflts.noKw hD;obtain⟨a,vs,ns,rfl,rfl,hobj,hints,hW⟩:=aBx hn hpre hwl;refine enter_call (zFP (call w z5 z3 mg mb fa o pm cd doc a vs ns G Y ho (fd_plain hd) hcd hmg hobj hints hW hg) λ r s' hq=>?_);obtain⟨rfl,h2,h3,h4⟩:=hq;exact⟨.inl ⟨.bool true,.bool true,[],rfl,λ _=>rfl,.bool true,aCB l _,λ _=>⟨zEg,λ _ hm=>(nomatch hm)⟩⟩,h2,h3,h4⟩
section
variable{prog:zAZ}{w:World}{A:zAc}{E:Value->zAE->Prop}{s:zAE}{K:Frag}
def make_obj(X:K.In s.heap)(hm:makesIn K C=true)(hi:findIn K (.ref C) "__init__"=some (some (.ref fI)))(hf:isFn K (.ref fI)=true)
  (h:zDC (model prog w) (A.under (.builtin "type.__call__" ⟨.ref C::rest,kw⟩)) (.call (.ref fI) ⟨.ref (s.heap.objs.size+1)::rest,kw⟩) (InitBack (s.heap.objs.size+1) R)
   {s with heap:=(s.heap.push emptyDict).push (instObj C s.heap.objs.size)}):zDC (model prog w) A (.call (.ref C) ⟨rest,kw⟩) R s:=by
 obtain⟨hh,g,d,t,os⟩:=s;exact make_core (makes_of X hm) (looks_findIn X hi) (λ self=>bind_fn X self (beq_iff_eq.mp hf)) (.inl rfl) h
def get_field(X:K.In s.heap)(I:zGW s.heap x ox C (some (dictOf es n)))(hg:plainGet K C name=true)(hh:hasDictIn K C=true)(ha:findIn K (.ref C) name=some none)
  (hl:getL name es=some (some v))(hv:handedIn v=true)(h:Q v {s with toks:=s.toks+1}):wpAny (model prog w) A (getAttr (.ref x) name expr) Q E s:=
 get_value X I (plainGet_of hg).1 (findObj_own hh ha rfl hl) hv h
def ledger(h:Heap)(L d:Addr):hZ:=(zBB h.objs.size).filterMap λ a=>if a=L\/a=d then none else(h.get? a).map λ o=>(a,o)
end
end Att
namespace L2
open PySem PySem.Spec PyProof.Rows
theorem vU:∀{vs:List Value} {ns:List Int},zBE vs ns->Vals (ns.map V.int) vs
 |_,_,.nil=>.nil
 |_,_,.cons n t h=>.cons ⟨t,rfl⟩ (vU h)
def Only(H:Hp):Prop:=∀b,H b=none\/∃o xs,H b=some (.frz o (.lst xs))
def aDr{P:zAZ}{w:World}{K:zAA}{mg mb:Str->Option Value}{CX:CXT}{k:Nat}{fa a:Addr}{fd:zA9}{x:Str}{sp:Sp}{z3:zAE}{vs:List Value}{ns:List Int}
  (KX:K.In z3.heap)(hns:z3.heap.Ns zA8 mg)(hb:z3.heap.Ns zHN mb)(hbb:∀x:Str,x≠"__name__"->mb x=zAr x)(hlim:z3.heap.NoLimit)(hg:z3.gens=#[])
  (ha:z3.heap.get? a=some {cls:=.type "list",data:=.seq vs.toArray})(hi:zBE vs ns)(hl:ns.length<=zAQ)(hr:jA k zET)
  (F:∀base:Heap,K.In base->base.Ns zA8 mg->b7 P w K mg base CX k fa fd [x] sp)(hbind:∀(s:zAE) (u:Value),zEe s fd ⟨[u],[]⟩ [(x,u)])
  (hsp:∀H:Hp,Only H->SqL K H a (ns.map V.int)->sp [.ref a] H (λ v _=>v= .bl true) λ _ _ _=>False)
  (hCX:∀H e s',CX [] H z3 (λ _ _ _=>False) e s'->False):
  zDC (model P w) zET (.call (.ref fa) ⟨[.ref a],[]⟩) (λ r s'=>r= .ok (.ret (.bool true))/\OldK z3.heap s'.heap/\s'.os=z3.os/\zDv s'.gens) z3:=by
 have rv:=vU hi;have lenV:=hi.length;have core:∀H:Hp,Only H->SqL K H a (ns.map V.int)->HOk P w H z3.heap->(∀b,H b≠none->b=a)->(H a≠none->K.lookup a=none)->
   zDC (model P w) zET (.call (.ref fa) ⟨[.ref a],[]⟩) (λ r s'=>r= .ok (.ret (.bool true))/\OldK z3.heap s'.heap/\s'.os=z3.os/\zDv s'.gens) z3:=by
  intro H hO hS hok hA hK;have base_of:∀{b:Addr} {o:Obj},z3.heap.get? b=some o->H b=none->(xZ z3.heap H).get? b=some o:=λ e n=>aEH e n
  have noA:∀{b:Addr} {o:Obj} {es:Array DictEntry} {ep:Nat},z3.heap.get? b=some o->o.data= .dict es ep->H b=none:=λ{b o es ep} e d=>by
   cases q:H b with
   |none=>rfl
   |some u=>
    have e':b=a:=hA b (by rw[q];simp);subst e';rw[ha]at e;cases e;have d':zGv vs.toArray _=Data.dict es ep:=d;cases d'
  have nsK:∀{b:Addr} {m:Str->Option Value},z3.heap.Ns b m->(xZ z3.heap H).Ns b m:=λ{b m} ⟨o,es,ep,e,d,r⟩=>⟨o,es,ep,base_of e (noA e d),d,r⟩
  have hKb:K.In (xZ z3.heap H):=λ b o e=>base_of (KX b o e) (by
   cases q:H b with
   |none=>rfl
   |some u=>
    have e':b=a:=hA b (by rw[q];simp);subst e';rw[hK (by rw[q];simp)]at e;cases e)
  have hM:Mod K mg (xZ z3.heap H):=⟨hKb,nsK hns,⟨mb,nsK hb,hbb⟩,let⟨mc,h1,h2⟩:=hlim;⟨mc,nsK h1,h2⟩⟩;have e0:aE8 P w K mg (xZ z3.heap H) zET [] z3 H:=⟨rfl,hM,λ b o e=>aF7 e,Nat.le_of_eq (aCU _ _),trivial,λ b hb=>absurd (show b∈([]:List Addr)from hb) (by simp),hok,.of_eq hg⟩;refine zFP ((F _ hKb (nsK hns)).run zET [] z3 H ⟨[.ref a],[]⟩ [.ref a] [.ref a] _ _ hr e0 (hbind z3 (.ref a)) (.cons rfl .nil) (hsp H hO hS)) λ r s' h=>?_
  cases r with
  |error e=>exact(hCX H e s' h).elim
  |ok fl=>
   cases fl with
   |next=>exact zAK h
   |brk=>exact zAK h
   |cont=>exact zAK h
   |ret u=>
    obtain⟨v,H',os,bare,un,hok',r',q⟩:=h;have q':v= .bl true:=q;subst q';obtain rfl:u=zD6 true:=r';refine⟨rfl,OldK.of_keep λ b o e=>?_,os,bare⟩;cases q:H b with
    |none=>exact un.keep b o e q (by intro z;exact absurd (show b∈([]:List Addr)from z) (by simp)) (by simp)
    |some u=>
     rcases hO b with z|⟨ob,xs,z⟩
     .rw[q]at z;cases z
     .have z2:=un.frzs b ob _ z
      obtain⟨e1,_⟩:=hok b _ z;obtain⟨e2,_⟩:=hok' b _ z2;rw[e]at e1;cases e1;exact e2
 cases hk:K.lookup a with
 |some o=>
  have e:=KX a o hk;rw[ha]at e;cases e;refine core (λ _=>none) (λ _=>.inl rfl) (.inr ⟨_,vs.toArray,_,hk,rfl,rfl,rfl,by rw[zAH,lenV];exact hl,by simpa using rv⟩) (λ b u z=>by have z':(none:Option HO)=some u:=z;cases z') (λ b z=>absurd rfl z) λ z=>absurd rfl z
 |none=>
  refine core (λ b=>if b=a then some (.frz {cls:=.type "list",data:=.seq vs.toArray} (.lst (ns.map V.int)))else none) (λ b=>?_) (.inl (.inr ⟨{cls:=.type "list",data:=.seq vs.toArray},if_pos rfl⟩)) (λ b u z=>?_) (λ b z=>?_) λ _=>hk
  .by_cases hb:b=a
   .exact .inr ⟨_,_,if_pos hb⟩
   .exact .inl (if_neg hb)
  .by_cases hb:b=a
   .have z':=(if_pos hb).symm.trans z
    cases z';subst hb;exact⟨ha,by rw[zAB];exact hl,vs,_,rv,ha⟩
   .have z':=(if_neg hb).symm.trans z
    cases z'
  .by_cases hb:b=a
   .exact hb
   .exact absurd (if_neg hb) z
def aEb{l:zES}{n k:Nat}{q:zAZ}{loose:List Str}{XP:(Str->Option Value)->Heap->Prop}{YP:World->Heap->Prop}{d:DefRec}{K:Params->zAA}{CX:World->CXT}{sp:World->Sp}{x:Str}
  (hn:l.most=some n)(hn2:n<=zAQ)(hdf:d.params.defaults=[])(hr:jA k zET)
  (hY:∀(w:World) (h:Heap),YP w h->(K w.params).In h)
  (F:∀(w:World) (mg:Str->Option Value) (fa:Addr) (h:Heap),(K w.params).In h->h.Ns zA8 mg->mg d.name=some (.ref fa)->
   ∃fd:zA9,(∀(s:zAE) (u:Value),zEe s fd ⟨[u],[]⟩ [(x,u)])/\
    ∀base:Heap,(K w.params).In base->base.Ns zA8 mg->b7 l.prog w (K w.params) mg base (CX w) k fa fd [x] (sp w))
  (hsp:∀(w:World) (H:Hp) (a:Addr) (ns:List Int),ns.length<=n->Only H->SqL (K w.params) H a (ns.map V.int)->sp w [.ref a] H (λ v _=>v= .bl true) λ _ _ _=>False)
  (hCX:∀(w:World) (H:Hp) (s:zAE) (e:Value) (s':zAE),CX w [] H s (λ _ _ _=>False) e s'->False):
  zG9 q loose XP YP l.row.toRowW d [] (λ f vs=>zGK f vs):=by
 refine Att.zp hn hdf λ w z5 z3 mg mb fa o pm cd doc a vs ns G Y ho hd hcd hmg hobj hints hW hg=>?_
 have KX:=hY w _ Y;obtain⟨fd,hb,hF⟩:=F w mg fa _ KX G.T.g hmg;exact aDr KX G.T.g G.T.b G.T.builtins G.T.nolimit hg hobj hints (zAe hW hn2) hr hF hb (λ H hO hS=>hsp w H a ns hW hO hS) λ H e s'=>hCX w H z3 e s'
def m6(s:Stmt):zG0:=match s with
 | .FunctionDef _ a _ _ _ _ _ _ _ _=>a
 |_=>{posonlyargs:=[],args:=[],vararg:=none,kwonlyargs:=[],kw_defaults:=[],kwarg:=none,defaults:=[]}
def gH(s:Stmt):List Stmt:=match s with
 | .FunctionDef _ _ b _ _ _ _ _ _ _=>b
 |_=>[]
def aO(s:Stmt):Scope:=match s with
 | .FunctionDef _ _ _ _ _ _ sc _ _ _=>sc
 |_=>{kind:=.function,names:=[],isGenerator:=false,isCoroutine:=false}
abbrev CX0:CXT:=λ _ _ _ _ _ _=>False
abbrev E0:XK:=λ _ _ _=>False
structure Fun(K:zAA)(x qual:Str)(st:Stmt)(f:Addr)(fd:zA9):Prop where
 ex:∃(oc:Value) (od:Option Addr) (kV doc pm:Value) (an:Option Addr) (cdv ct:Value) (osl:Array (Option Value)),
  fd=zBj x qual (m6 st) (gH st) (aO st) .none kV doc pm an cdv ct/\K.lookup f=some ⟨oc,od,.func fd,osl⟩/\zCs K cdv qual=true
 kp:zC2 K (.ref f)=true
section
variable{K:zAA}
def Fun.binds{x qual:Str}{st:Stmt}{f:Addr}{fd:zA9}{ps:List Str}(F:Fun K x qual st f fd)
  (h:∀(kV doc pm:Value) (an:Option Addr) (cdv ct:Value) (us:List Value),us.length=ps.length->bindArgs (zBj x qual (m6 st) (gH st) (aO st) .none kV doc pm an cdv ct) ⟨us,[]⟩=pure (ps.zip us)):Binds K fd ps []:=by
 obtain⟨oc,od,kV,doc,pm,an,cdv,ct,osl,rfl,lk,hcd⟩:=F.ex;exact .all (h kV doc pm an cdv ct)
def aIV{x qual:Str}{st:Stmt}{f:Addr}{oc:Value}{od an:Option Addr}{osl:Array (Option Value)}{kV doc pm cdv ct:Value}(l:K.lookup f=some ⟨oc,od,.func (zBj x qual (m6 st) (gH st) (aO st) .none kV doc pm an cdv ct),osl⟩)
  (c:zCs K cdv qual=true)(k:zC2 K (.ref f)=true):Fun K x qual st f (zBj x qual (m6 st) (gH st) (aO st) .none kV doc pm an cdv ct):=⟨⟨oc,od,kV,doc,pm,an,cdv,ct,osl,rfl,l,c⟩,k⟩
end
def aU(H H':Hp):Prop:=∀b o,H b=some o->H' b=some o
def aU.refl(H:Hp):aU H H:=λ _ _ h=>h
def aU.trans(a:aU H H1)(b:aU H1 H2):aU H H2:=λ c o h=>b c o (a c o h)
def aU.free(e:aU H H')(h:H' l=zGy):H l=zGy:=by
 cases q:H l with
 |none=>rfl
 |some o=>
  rw[e l o q]at h;cases h
end L2
set_option maxHeartbeats 4000000
namespace HT
open PySem PyProof.Rows
def lexLe:List Int->List Int->Bool
 |[],_=>true
 |_::_,[]=>false
 |x::xs,y::ys=>if x=y then lexLe xs ys else decide (x<=y)
def aAj(x y:Int)(xs ys:List Int):lexLe (x::xs) (y::ys)=if x=y then lexLe xs ys else decide (x<=y):=rfl
def aDL(A:zAc)(s:zAE)(a:Int)(t:Tok)(c:Int)(u:Tok)(prog:zAZ)(w:World)(E:Value->zAE->Prop)(Q:Value->zAE->Prop)(h:Q (.bool (decide (a<=c))) s):
  wpAny (model prog w) A (zFc .LtE (.int a t) (.int c u)) Q E s:=
 (PyProof.Rows.le_int h:wpAny (model prog w) A (zAp .LtE (.int a t) (.int c u)) Q E s)
section
open PySem.SeqAt
open PySem.AutoSeq1(wpAny_loadPart')
open PySem.MeetsSeq PySem.MeetsSeq2 PySem.MeetsSeq3
def uy(l b:Addr)(items items2:Array Value)(n n2:Nat)(dd dd2:Option Addr)(sl sl2:Array (Option Value))(ns ms:List Int)(hi:zBE items.toList ns)(hj:zBE items2.toList ms):
  Meets (zD7.«tuple.__le__» ⟨[.ref l,.ref b],[]⟩)
   (λ _ R s=>s.heap.get? l=some {cls:=.type "tuple",dict:=dd,data:=.seq items n,slots:=sl}/\s.heap.get? b=some {cls:=.type "tuple",dict:=dd2,data:=.seq items2 n2,slots:=sl2}/\
    R (.ok (.ret (.bool (lexLe ns ms)))) s):=
 .of_wp λ prog w A R s h=>by
  obtain⟨hp,g,d,tk,os⟩:=s;obtain⟨hl,hb,h⟩:=h;have f2:=zEY;have z1:items.size=ns.length:=by rw[<-hi.length];simp
  have z2:items2.size=ms.length:=by rw[<-hj.length];simp
  wp_walk using zCM hl,zCM hb,wpAny_forIn_list _ (λ rest b s'=>b.1=none/\s'=⟨hp,g,d,tk,os⟩/\∃(vs ws:List Value) (ns' ms':List Int),rest=vs.zip ws/\
   zBE vs ns'/\zBE ws ms'/\ns'.length+items2.size=ms'.length+items.size/\R (.ok (.ret (.bool (lexLe ns' ms')))) ⟨hp,g,d,tk,os⟩) _
  case turn=>
   rintro⟨y,x⟩ rest b s' ⟨hb',rfl,vs,ws,ns',ms',hz,hvi,hwi,hW,hR⟩;cases hvi with
   |nil=>rw[zGV]at hz;cases hz
   |cons a t hvi'=>
    cases hwi with
    |nil=>rw[zGG]at hz;cases hz
    |cons c u hwi'=>
     rw[zB8]at hz;injection hz with hyx hrest
     injection hyx with hy hx
     subst hy hx;rw[aAj]at hR;simp only[zA2]at hW;obtain⟨e,he,hiff⟩:=zW A.in1 ⟨hp,g,d,tk,os⟩ a t c u;refine zAR (he prog w _ _ ?_);cases e with
     |true=>
      rw[if_pos (hiff.mp rfl)]at hR;wp_walk;exact⟨rfl,rfl,_,_,_,_,hrest,hvi',hwi',by lia,hR⟩
     |false=>
      rw[if_neg (λ q=>absurd (hiff.mpr q) zA3)]at hR;have hri:=aDL A.in1 ⟨hp,g,d,tk,os⟩ a t c u prog w;wp_walk using hri;exact⟨_,rfl,by simpa using hR⟩
  case fin=>
   rintro⟨b1,b2⟩ s' ⟨hb',rfl,vs,ws,ns',ms',hz,hvi,hwi,hW,hR⟩;simp only at hb';subst hb';have hv:lexLe ns' ms'=decide (items.size<=items2.size):=by
    cases hvi with
    |nil=>
     simp only[zBi]at hW;have e:lexLe [] ms'=true:=by cases ms'<;>rfl
     rw[e];exact(decide_eq_true (by lia)).symm
    |cons a t hv=>
     cases hwi with
     |nil=>
      simp only[zBi,zA2]at hW;show false=_;exact(decide_eq_false (by lia)).symm
     |cons c u hw=>
      rw[zB8]at hz;cases hz
   rw[hv]at hR;wp_walk;exact⟨_,rfl,by simpa[zDT]using hR⟩
  case h=>
   exact⟨rfl,rfl,items.toList,items2.toList,ns,ms,rfl,hi,hj,by lia,h⟩
end
section
variable{prog:zAZ}{w:World}{A:zAc}{E:Value->zAE->Prop}{s:zAE}
def aAl(hl:IsTup s.heap l items)(hb:IsTup s.heap b items2)(hi:zBE items.toList ns)(hj:zBE items2.toList ms)
  (hu:A.units<cLine)(h:Q (.bool (lexLe ns ms)) s):wpAny (model prog w) A (zAp .LtE (.ref l) (.ref b)) Q E s:=by
 obtain⟨⟨cls,dd,data,sl⟩,ho,hc,n,hd⟩:=id hl;obtain⟨⟨cls2,dd2,data2,sl2⟩,ho2,hc2,n2,hd2⟩:=id hb;simp only at hc hd hc2 hd2;subst hc hd hc2 hd2;exact zGY (op:=.LtE) ⟨_,ho,rfl⟩ ⟨_,ho2,rfl⟩ PySem.F.slot_tuple_le PySem.F.entry_tuple_le (PySem.F.args_tuple_le_2 _ _) (uy l b items items2 n n2 dd dd2 sl sl2 ns ms hi hj)
  ⟨ho,ho2,show zD6 (lexLe ns ms)≠zDb/\Q (.bool (lexLe ns ms)) s from⟨(λ x=>nomatch x),h⟩⟩ hu
def aEX{ws:List Value}(ht:IsTup s.heap t #[])(hb:IsTup s.heap b ws.toArray)(h1:Q (.ref b) s):wpAny (model prog w) A (zB9 .Add (.ref t) (.ref b)) Q E s:=by
 obtain⟨⟨cls,dd,data,sl⟩,ho,hc,n,hd⟩:=id ht;obtain⟨⟨cls2,dd2,data2,sl2⟩,ho2,hc2,n2,hd2⟩:=id hb;simp only at hc hd hc2 hd2;subst hc hd hc2 hd2;exact zGc ⟨_,ho,rfl⟩ ⟨_,ho2,rfl⟩ zFU zGP zDI zDA (zCx _ _)
   (tuple_addW0 t b #[] ws.toArray n n2 dd dd2 sl sl2 (by simp)) ⟨ho,ho2,h1⟩
def pJ{lo hi:Option Int}(ht:IsTup s.heap t items)(hs:s.heap.IsSliceOf sl vl vu .none)(pl:zEz vl lo)(pu:zEz vu hi)
  (h1:sIx items.size 0 lo=0)(h2:sIx items.size items.size hi=items.size)
  (h:Q (.ref t) s):wpAny (model prog w) A (zF9 (.ref t) (.ref sl)) Q E s:=by
 obtain⟨os,hos,hcs,hds⟩:=id hs;have hTs:s.TypeIs (.ref sl) "slice":=⟨os,hos,hcs⟩;obtain⟨ot,hot,hct,hdt⟩:=id ht;unfold zF9
 try with_reducible refine zDc ?_
 first|refine zAR (zA7 ?_)|skip
 refine zAR (zHR ht.typeIs (by decide) ?_);refine zAR (zGR (name:=Str.ofString "__getitem__") ht.typeIs zBM
  (zFV zBM ht.typeIs zGo ?_ (zHB _ _)))
 show wpAny _ _ (zDn (.ref t)>>=_) _ _ s;refine zAR (tupleItemsOf_ ht ?_);refine zAR (zFQ hTs ?_);rw[if_pos (by decide)];refine zAR (jT hs pl pu ?_);have hyes:(((sIx items.size 0 lo:Nat):Int)==0&&(1:Int)==1&&(sIx items.size items.size hi-sIx items.size 0 lo)==items.size)=true:=by
  rw[h1,h2];simp
 show wpAny _ _ (if (((sIx items.size 0 lo:Nat):Int)==0&&(1:Int)==1&&(sIx items.size items.size hi-sIx items.size 0 lo)==items.size)=true then _ else _) _ _ s;rw[if_pos hyes];unfold zHG;refine zAR (zAR (zFQ ht.typeIs (zA7 ?_)));rw[if_pos (by decide)];exact zAR (wpAny_rule (zA7 ⟨_,rfl,zA7 h⟩))
end
end HT
namespace L2
open PySem PySem.Spec PyProof.Rows
def aFq(t T:String):Bool:=decide (t=T)||(decide (t="bool")&&decide (T="int"))
def aFk{K:zAA}(ht:t∈["NoneType","bool","int","str","list","tuple","dict"])(hT:T∈["bool","int","str","list","tuple","dict"]):
  zCt K (.type t) (.type T)=some (aFq t T):=by
 simp only[zAT,zDO,or_false]at ht hT;rcases ht with rfl|rfl|rfl|rfl|rfl|rfl|rfl<;>rcases hT with rfl|rfl|rfl|rfl|rfl|rfl<;>kernel_rfl
def nF(t T:String)(b:Bool):Bool:=decide (t∈["NoneType","bool","int","str","list","tuple","dict"])&&decide (T∈["bool","int","str","list","tuple","dict"])&&(aFq t T==b)
def aAo{K:zAA}(h:nF t T b=true):zCt K (.type t) (.type T)=some b:=by
 unfold nF at h;rw[zAN,zAN]at h;rw[aFk (of_decide_eq_true h.1.1) (of_decide_eq_true h.1.2),zE4 h.2]
def bI(h:H p=none)(o:HO):aU H (upd H p o):=λ b u q=>by rw[bK (fV q h)];exact q
section
variable{X:Cx}
def aJh(K:zAA):List V->Hp->VK->Prop:=λ xs H Q=>∃x T t b,xs=[x,.ty T]/\qX K H x (.type t)/\nF t T b=true/\Q (.bl b) H
def j9:cZ X (.builtin "isinstance") (aJh X.K):=by
 intro hV s σ H xs us Q I r h;obtain⟨x,T,t,b,rfl,ty,ok,q⟩:=h;obtain⟨u,w',rfl,r1,r2⟩:=vals2 r;obtain rfl:w'=zCT T:=r2;exact aCQ I r1 ty (aAo ok) λ tk=>⟨.bl b,H,I.tok tk,rfl,q⟩
def aFA(K:zAA):R2:=λ x y H Q=>∃a b ns ms,x= .ref a/\y= .ref b/\SqT K H a (ns.map V.int)/\SqT K H b (ms.map V.int)/\Q (.bl (HT.lexLe ns ms)) H
def aHr(hu:X.A.units<cLine):OpR X (zAp .LtE) (aFA X.K):=by
 intro hV s σ H x y v u Q I rx ry h;obtain⟨a,b,ns,ms,rfl,rfl,ha,hb,q⟩:=h;cases rx;cases ry;obtain⟨its,r1,p1,_⟩:=I.tuple ha;obtain⟨its2,r2,p2,_⟩:=I.tuple hb;have i1:zBE its.toArray.toList ns:=intsAre_of r1;have i2:zBE its2.toArray.toList ms:=intsAre_of r2;exact HT.aAl p1 p2 i1 i2 hu ⟨.bl (HT.lexLe ns ms),H,I,rfl,q⟩
end
def jd(l:Addr)(H H':Hp):Prop:=∀b o,b≠l->H b=some o->H' b=some o
def aU.sqt{K:zAA}(e:aU H H')(h:SqT K H a xs):SqT K H' a xs:=by
 rcases h with (h|⟨o,h⟩)|h
 .exact .inl (.inl (e _ _ h))
 .exact .inl (.inr ⟨o,e _ _ h⟩)
 .exact .inr h
inductive D where
 |non|bl (b:Bool)|int (i:Int)|str (x:Str)|tup (l:List D)|lst (l:List D)|dct
mutual
inductive Rep(H:Hp):V->D->Prop where
 |non:Rep H .non .non
 |bl (b:Bool):Rep H (.bl b) (.bl b)
 |int (i:Int):Rep H (.int i) (.int i)
 |str (x:Str):Rep H (.str x) (.str x)
 |tup {a:Addr} {xs:List V} {ds:List D} (h:H a=some (.tup xs)) (r:jB H xs ds):Rep H (.ref a) (.tup ds)
 |lst {a:Addr} {xs:List V} {ds:List D} (h:H a=some (.lst xs)) (r:jB H xs ds):Rep H (.ref a) (.lst ds)
 |dct {a:Addr} (h:H a=some (.dK [])):Rep H (.ref a) .dct
inductive jB(H:Hp):List V->List D->Prop where
 |nil:jB H [] []
 |cons {x:V} {d:D} {xs:List V} {ds:List D} (h:Rep H x d) (r:jB H xs ds):jB H (x::xs) (d::ds)
end
theorem jB.length:∀{xs:List V} {ds:List D},jB H xs ds->xs.length=ds.length
 |_,_,.nil=>rfl
 |_,_,.cons _ r=>by rw[zA2,zA2,jB.length r]
theorem jB.get:∀{xs:List V} {ds:List D} {i:Nat} {x:V},jB H xs ds->xs[i]? =some x->∃d,ds[i]? =some d/\Rep H x d
 |_,_,_,_,.nil,e=>by simp at e
 |_,_,0,_,.cons h _,e=>by simp at e;subst e;exact⟨_,rfl,h⟩
 |_,_,i+1,x,.cons _ r,e=>by
  obtain⟨d,h1,h2⟩:=jB.get (i:=i) (x:=x) r (by simpa using e);exact⟨d,by simpa using h1,h2⟩
def PE.weaken(h:PE X e t)(imp:∀σ H Q,t' σ H Q->t σ H Q):PE X e t':=λ hV s σ H Q I q=>h hV s σ H Q I (imp σ H Q q)
def OpR.weaken(h:OpR X f r)(imp:∀x y H Q,r' x y H Q->r x y H Q):OpR X f r':=λ hV s σ H x y v u Q I rx ry q=>h hV s σ H x y v u Q I rx ry (imp x y H Q q)
def New(H:Hp)(o:HO)(Q:VK):Prop:=∀p H',aU H H'->H' p=some o->H p=none->Q (.ref p) H'
def New.at(n:New H o Q)(hp:H p=none):Q (.ref p) (upd H p o):=n p _ (bI hp o) aq hp
section
variable{X:Cx}{es:List Expr}{t:TA}{pos:Pos}
def aIa(t:TA):TE:=λ σ H Q=>t σ H λ xs H1=>xs.length<=zAQ/\New H1 (.tup xs) Q
def aG4(t:TA):TE:=λ σ H Q=>t σ H λ xs H1=>xs.length<=zAQ/\New H1 (.lst xs) Q
def aFK{x1}(h:PA X es t):PE X (.Tuple es x1 pos) (aIa t):=by
 have h':PA X es (λ σ H Q=>∃R:List V->Hp->Prop,t σ H R/\∀xs H',R xs H'->Q xs H'):=by
  intro pos hV s σ H Q I ⟨R,q,imp⟩;exact thn (h pos hV s σ H R I q) λ us s' ⟨vs,H',I',r,q'⟩=>⟨vs,H',I',r,imp _ _ q'⟩
 exact(aH6 h').weaken λ σ H Q q=>⟨_,q,λ xs H' ⟨z,n⟩=>⟨z,λ p hp=>n.at hp⟩⟩
def xF(h:PA X es t):PE X (.List es pos) (aG4 t):=by
 have h':PA X es (λ σ H Q=>∃R:List V->Hp->Prop,t σ H R/\∀xs H',R xs H'->Q xs H'):=by
  intro pos hV s σ H Q I ⟨R,q,imp⟩;exact thn (h pos hV s σ H R I q) λ us s' ⟨vs,H',I',r,q'⟩=>⟨vs,H',I',r,imp _ _ q'⟩
 exact(aHb h').weaken λ σ H Q q=>⟨_,q,λ xs H' ⟨z,n⟩=>⟨z,λ p hp=>n.at hp⟩⟩
def aGh:R2:=λ x y H Q=>∃l b xs zs,x= .ref l/\y= .ref b/\H l=some (.lst xs)/\H b=some (.lst zs)/\xs.length+zs.length<=zAQ/\New H (.lst (xs++zs)) Q
def aF3:OpR X (zB9 .Add) aGh:=aHu.weaken λ x y H Q ⟨l,b,xs,zs,e1,e2,h1,h2,z,n⟩=>⟨l,b,xs,zs,e1,e2,h1,h2,z,λ p hp=>n.at hp⟩
def o9:V->List V->Hp->VK->Prop:=λ x vs H Q=>∃l xs y,x= .ref l/\vs=[y]/\H l=some (.lst xs)/\xs.length<zAQ/\∀H',jd l H H'->H' l=some (.lst (xs++[y]))->Q .non H'
def oE:MtM X "list.append" o9:=λ hV s σ H x xs v us Q I rx rv ⟨l,ys,y,e1,e2,h,z,n⟩=>
 v9 hV s σ H x xs v us Q I rx rv ⟨l,ys,y,e1,e2,h,z,n _ (λ b o ne hb=>by rw[bK ne];exact hb) aq⟩
end
def bQ(scope:Scope)(env:Env):List (Str×Addr):=(scope.names.filterMap λ y=>if y.2== .free then(env.cells.lookup y.1).map λ c=>(y.1,c)else none).reverse
theorem uq(env:Env):∀(names:List (Str×zCw)) (acc:List (Str×Addr)),(∀y∈names,y.2= .free->∃c,env.cells.lookup y.1=some c)->
  (forIn names acc λ(x:Str×zCw) r=>if (x.2== .free)=true then do let c <-cellOf env x.1;pure (zBa ((x.1,c)::r))else pure (zBa r):Sem (List (Str×Addr)))=
   pure ((names.filterMap λ y=>if y.2== .free then(env.cells.lookup y.1).map λ c=>(y.1,c)else none).reverse++acc)
 |[],acc,_=>rfl
 |(n,k)::r,acc,h=>by
  rw[List.forIn_cons];have ih:=λ acc'=>uq env r acc' λ y hy=>h y (zAF _ hy)
  by_cases hk:k= .free
  .subst hk
   obtain⟨c,hc⟩:=h (n,.free) zAJ rfl;have hc':env.cells.lookup n=some c:=hc;simp only[beq_self_eq_true,if_true,cellOf,hc',zBp,zDS,zCH,zAo,List.singleton_append];exact ih _
  .have hb:(k==zB1)=false:=by simpa using hk
   simp only[hb,zEB,if_false,zBp];exact ih _
def nO(h:∀y∈scope.names,y.2= .free->∃c,env.cells.lookup y.1=some c):zGA scope env=pure (bQ scope env):=by
 have e:=uq env scope.names [] h;rw[zAj]at e;have e2:zGA scope env=((forIn scope.names ([]:List (Str×Addr)) λ(x:Str×zCw) r=>if (x.2== .free)=true then do let c <-cellOf env x.1;pure (zBa ((x.1,c)::r))else pure (zBa r):Sem (List (Str×Addr)))>>=λ r=>pure r):=rfl;rw[e2,e];rfl
def rJ(h:(bQ scope env).lookup x=some c):env.cells.lookup x=some c:=by
 have hm:=zAk h;unfold bQ at hm;rw[zB5,zBx]at hm;obtain⟨y,hy,e⟩:=hm;split at e
 .cases q:env.cells.lookup y.1 with
  |none=>rw[q]at e;cases e
  |some c'=>
   rw[q]at e;have e':=zAl e;injection e' with e1 e2
   subst e1 e2;exact q
 .cases e
def zg(hx:scope.names.lookup x=some .free)(h:env.cells.lookup x=some c):(bQ scope env).lookup x=some c:=by
 have hm:(x,zB1)∈scope.names:=zAk hx
 have:(x,c)∈bQ scope env:=by
  unfold bQ;rw[zB5,zBx];exact⟨_,hm,by simp[h]⟩
 cases q:(bQ scope env).lookup x with
 |none=>
  exact absurd this (by
   intro hm'
   have:=List.lookup_eq_none_iff.mp q _ hm'
   simp at this)
 |some c'=>
  have:=rJ q
  rw[h]at this;exact this.symm▸rfl
def rR(scope:Scope)(C:Addr):List (Str×Addr):=zDB (C+1) scope.names []
theorem j8:∀(names:List (Str×zCw)) (n:Nat) (acc:List (Str×Addr)),zDB n names acc=zDB n names []++acc
 |[],_,_=>rfl
 |(x,k)::r,n,acc=>by
  unfold zDB;split
  .rw[j8 r (n+1) ((x,n)::acc),j8 r (n+1) [(x,n)],zAo];rfl
  .exact j8 r n acc
theorem oN:∀{names:List (Str×zCw)} {n:Nat} {x:Str} {c:Addr},(x,c)∈zDB n names []->(x,zC7)∈names
 |(y,k)::r,n,x,c,h=>by
  unfold zDB at h;split at h
  .rename_i hk
   rw[j8,zAO]at h;rcases h with h|h
   .exact zAF _ (oN h)
   .have e:=zAD.mp h
    cases e;rw[zE4 hk];exact zAJ
  .exact zAF _ (oN h)
 |[],_,_,_,h=>by cases h
def jY{l m:List (Str×Addr)}(h:(l++m).lookup x=some c):l.lookup x=some c\/(l.lookup x=none/\m.lookup x=some c):=by
 rw[zEE]at h;cases e:l.lookup x with
 |some c'=>rw[e]at h;exact .inl h
 |none=>rw[e]at h;exact .inr ⟨rfl,h⟩
def aF8{M:Model}{A:zAc}{E:Value->zAE->Prop}{s:zAE}{scope:Scope}{globals:Addr}{cl:List (Str×Addr)}{qual:Str}{env:Env}{Q:Env->zAE->Prop}
  (h:∀h':Heap,h'.Ns s.heap.objs.size (λ _=>none)->(∀b o,s.heap.get? b=some o->h'.get? b=some o)->CellsOk h' (s.heap.objs.size+1) (rR scope s.heap.objs.size)->
   Q {scope:=scope,locals:=s.heap.objs.size,globals:=globals,cells:=rR scope s.heap.objs.size++cl,qual:=qual,func:=none,code:=env.code,frame:=env.frame,builtins:=env.builtins} {s with heap:=h'}):
  wpAny M A (zFu scope globals cl [] qual none .none (some env)) Q E s:=by
 simp only[zFu,Option.isSome_some,if_true];refine zAR (wpAny_alloc ?_);refine zAR (wpAny_layCells _ (λ name kind cells=>by cases hkc:kind==zC7<;>simp[hkc]) _ _ _ _ ?_);have ok:=cellsFrom_ok scope.names (s.heap.push {cls:=.type "dict",data:=.dict #[]}) (s.heap.objs.size+1) [] ⟨λ _ _ hm=>(nomatch hm),zEg⟩ (by rw[zC4];exact zAU _);rw[zC4]at ok;rw[show({s with heap:=s.heap.push {cls:=.type "dict",data:=.dict #[]}}:zAE).heap.objs.size=s.heap.objs.size+1 from zC4 ..,j8];refine zA7 ?_;exact h _ ((Heap.Ns.new s.heap (.type "dict")).keeps (pushCells_keeps _ _)) (λ b o e=>pushCells_keeps _ _ b o (zAG _ e)) ok
def Cx.block(X:Cx)(scope:Scope)(C:Addr)(N:List Str)(fp:List Addr)(z5:zAE)(z4:Hp):Cx:=
  {prog:=X.prog,w:=X.w,K:=X.K,mg:=X.mg,base:=X.base,A:=X.A,N:=N,z5:=z5,z4:=z4,env:=compEnvC scope (rR scope C++bQ scope X.env) C X.env,outer:=X.stack,stack:=X.stack,ex:=fp,
    fn:=λ x=>scope.names.lookup x==some .cell,calm:=X.calm,pn:=[],xe:=λ _ _=>False}
structure gU(X:Cx)(scope:Scope)(N:List Str)(st:St->St)(ks:List Nat):Prop where
 kind:scope.kind= .function
 sep:∀y∈scope.names,y.2= .cell->scope.names.lookup y.1=some .cell
 loc:∀y∈scope.names,y.2= .local->scope.names.lookup y.1=some .local
 free:∀y∈scope.names,y.2= .free->X.env.kindOf y.1=some .cell\/X.env.kindOf y.1=some .free
 len:∀σ,(st σ).length=N.length
 val:∀σ (i:Nat) x v,N[i]? =some x->(st σ)[i]? =some (some v)->scope.names.lookup x=some .free/\i∉ks/\∃j:Nat,X.N[j]? =some x/\σ[j]? =some (some v)
def ww(h:(zFb scope env).names.lookup x=some .cell\/(zFb scope env).names.lookup x=some .free):scope.names.lookup x=some .free\/scope.names.lookup x=some .cell:=by
 have go:∀names:List (Str×zCw),((names.map λ(n,k)=>if (k==zB1&&env.scope.kind== .function&&env.kindOf n==some .cell)then(n,zC7)else(n,k)).lookup x=some .cell\/
   (names.map λ(n,k)=>if (k==zB1&&env.scope.kind== .function&&env.kindOf n==some .cell)then(n,zC7)else(n,k)).lookup x=some .free)->names.lookup x=some .free\/names.lookup x=some .cell:=by
  intro names;induction names with
  |nil=>intro h;simp at h
  |cons y r ih=>
   obtain⟨n,k⟩:=y;intro h;rw[zAP]at h;by_cases hx:x==n
   .rw[zBG,hx]
    show some k=some .free\/some k=some .cell;by_cases hcc:(k==zB1&&env.scope.kind== .function&&env.kindOf n==some .cell)=true
    .rw[zAN,zAN]at hcc
     rw[zE4 hcc.1.1];exact .inl rfl
    .simp only[if_neg hcc,zBG,hx]at h
     exact h.elim .inr .inl
   .have hx':(x==n)=false:=by simpa using hx
    rw[zBG,hx'];refine ih ?_;by_cases hcc:(k==zB1&&env.scope.kind== .function&&env.kindOf n==some .cell)=true
    .simp only[if_pos hcc,zBG,hx']at h
     exact h
    .simp only[if_neg hcc,zBG,hx']at h
     exact h
 exact go scope.names h
def wy(h:scope.names.lookup x=some .free):(zFb scope env).names.lookup x=some .cell\/(zFb scope env).names.lookup x=some .free:=by
 have go:∀names:List (Str×zCw),names.lookup x=some .free->((names.map λ(n,k)=>if (k==zB1&&env.scope.kind== .function&&env.kindOf n==some .cell)then(n,zC7)else(n,k)).lookup x=some .cell\/
   (names.map λ(n,k)=>if (k==zB1&&env.scope.kind== .function&&env.kindOf n==some .cell)then(n,zC7)else(n,k)).lookup x=some .free):=by
  intro names;induction names with
  |nil=>intro h;simp at h
  |cons y r ih=>
   obtain⟨n,k⟩:=y;intro h;rw[zAP];by_cases hx:x==n
   .rw[zBG,hx]at h
    have hk:k= .free:=zAl h;by_cases hcc:(k==zB1&&env.scope.kind== .function&&env.kindOf n==some .cell)=true
    .simp only[if_pos hcc,zBG,hx]
     exact .inl trivial
    .simp only[if_neg hcc,zBG,hx]
     exact .inr (by rw[hk])
   .have hx':(x==n)=false:=by simpa using hx
    rw[zBG,hx']at h;by_cases hcc:(k==zB1&&env.scope.kind== .function&&env.kindOf n==some .cell)=true
    .simp only[if_pos hcc,zBG,hx']
     exact ih h
    .simp only[if_neg hcc,zBG,hx']
     exact ih h
 exact go scope.names h
section
variable{X:Cx}{hV:hZ}{σ:St}{H:Hp}{s:zAE}
theorem Inv.block{st:St->St}{D C:Addr}(I:Inv X hV σ H s)(B:gU X scope N st ks)
  (hfp:∀b∈fp,uv X hV H b)(hob:∀b∈fp,∃ob,s.heap.get? b=some ob)
  (hD:s.heap.objs.size<=D)(hC:s.heap.objs.size<=C)(hDC:D≠C)(keep:∀b u,s.heap.get? b=some u->h'.get? b=some u)(hns:h'.Ns C λ _=>none)(hcs:CellsOk h' (C+1) (rR scope C))(hDo:∀c,C<c->D≠c)(kX:dj X.prog X.w (upd H D o) h' D o):
  Inv (X.block scope C N fp s H) [] (st σ) (upd H D o) {s with heap:=h',toks:=tk}:=by
 have hHD:H D=none:=I.hok.fresh hD;have hcl:∀x c,(bQ scope X.env).lookup x=some c->X.env.cells.lookup x=some c:=λ x c e=>rJ e
 have hol:∀x c,(rR scope C).lookup x=some c->C<c/\h'.IsCell c none:=λ x c e=>let⟨q1,q2⟩:=hcs.empty x c (zAk e);⟨q2,q1⟩
 have hlt:∀x c,(bQ scope X.env).lookup x=some c->c<s.heap.objs.size:=λ x c e=>let⟨v,ic⟩:=I.cell x c (hcl x c e);ic.lt
 have aT:∀b∈fp,b<s.heap.objs.size:=λ b hb=>by
  obtain⟨ob,e⟩:=hob b hb;exact zA4 e
 refine⟨⟨I.mod,?_,I.ok.glob,I.ok.blt,hC,λ x y c e1 e2=>?_,λ x hx=>?_,λ x c hf e=>?_,I.ok.hd,I.ok.frames,.inl rfl,λ b hb=>⟨?_,λ x c e z=>?_⟩,
  I.bs,?_,λ b ob e hb=>?_,λ b hb hs=>?_,I.stack,I.stkFree⟩,rfl,I.bare,Un.laid keep hD hHD,⟨_,hns,λ i x v e1 e2 hv=>?_⟩,λ x c e=>?_,?_,λ x c e=>?_,λ p hp=>absurd (show p∈([]:hZ)from hp) (by simp),I.hok.laid keep hD kX,B.len σ,λ p hp=>absurd (show p∈([]:hZ)from hp) (by simp)⟩
 .show(zFb scope X.env).kind= .function
  exact B.kind
 .rcases jY e1 with a1|⟨_,a1⟩<;>rcases jY e2 with a2|⟨_,a2⟩
  .exact PySem.name_of_addr hcs.apart (zAk a1) (zAk a2)
  .exact absurd (hlt y c a2) (zFX.mpr (zAe hC (zBV (hol x c a1).1)))
  .exact absurd (hlt x c a1) (zFX.mpr (zAe hC (zBV (hol y c a2).1)))
  .exact I.ok.inj x y c (hcl x c a1) (hcl y c a2)
 .show∃c,(rR scope C++bQ scope X.env).lookup x=some c
  rw[zEE];cases e:(rR scope C).lookup x with
  |some c=>exact⟨c,rfl⟩
  |none=>
   rcases ww hx with hfree|hcell
   .obtain⟨c,hc⟩:=I.ok.has x (B.free (x,.free) (zAk hfree) rfl)
    exact⟨c,zg hfree hc⟩
   .obtain⟨c,hc⟩:=pQ (n:=C+1) hcell
    rw[show(rR scope C).lookup x=some c from hc]at e;cases e
 .rcases jY e with a1|⟨a0,_⟩
  .exact zAe hC (zBV (hol x c a1).1)
  .obtain⟨c',hc'⟩:=pQ (n:=C+1) (zE4 hf)
   rw[show(rR scope C).lookup x=some c' from hc']at a0;cases a0
 .exact zAu (zA1 (aT b hb) hC)
 .rcases jY e with a1|⟨_,a1⟩
  .exact absurd (aT b hb) (zFX.mpr (by rw[<-z];exact zAe hC (zBV (hol x c a1).1)))
  .exact(hfp b hb).2.2.2.2.1 x c (hcl x c a1) z
 .exact zAe I.ok.bsz I.sz
 .rcases(hfp b hb).2.2.2.1 with z|z
  .exact I.ok.noex b ob e z
  .exact absurd (zA1 (zA4 (I.ok.bs b ob e).1) z) (zBb _)
 .rcases zAT.mp (I.stkSub b hs)with z|z
  .exact(hfp b hb).2.1 z
  .exact(hfp b hb).2.2.1 z
 .obtain⟨hfree,_,j,f1,f2⟩:=B.val σ i x v e1 e2
  obtain⟨m,hn,hl⟩:=I.loc;have hk:=B.free (x,.free) (zAk hfree) rfl;obtain⟨u,ru,hu⟩:=hl j x v f1 f2 (hk.elim (λ z=>.inr (.inl z)) λ z=>.inr (.inr z));rcases hu with ⟨k,_⟩|⟨_,c,ec,ic⟩
  .rcases hk with z|z
   .exact absurd (k.symm.trans z) (by decide)
   .exact absurd (k.symm.trans z) (by decide)
  .have hno:(rR scope C).lookup x=none:=by
    cases e:(rR scope C).lookup x with
    |none=>rfl
    |some c'=>
     have:=B.sep _ (oN (zAk e)) rfl
     rw[hfree]at this;cases this
   refine⟨u,ru,.inr ⟨?_,c,by show(rR scope C++bQ scope X.env).lookup x=some c;rw[zEE,hno];exact zg hfree ec,ic.keeps keep⟩⟩;rcases hv with z|z|z
   .have z':(zFb scope X.env).names.lookup x=some .local:=z
    rcases wy (env:=X.env) hfree with y|y
    .exact absurd (z'.symm.trans y) (by decide)
    .exact absurd (z'.symm.trans y) (by decide)
   .exact .inl z
   .exact .inr z
 .rcases jY e with a1|⟨_,a1⟩
  .exact⟨_,(hol x c a1).2⟩
  .obtain⟨v,ic⟩:=I.cell x c (hcl x c a1)
   exact⟨v,ic.keeps keep⟩
 .show upd H D o C=none
  rw[bK (zDF hDC)];exact I.hok.fresh hC
 .show upd H D o c=none
  rcases jY e with a1|⟨_,a1⟩
  .rw[bK (zDF (hDo c (hol x c a1).1))]
   exact I.hok.fresh (zAe hC (zBV (hol x c a1).1))
  .obtain⟨v,ic⟩:=I.cell x c (hcl x c a1)
   rw[bK (zAu (zA1 ic.lt hD))];exact I.freeC x c (hcl x c a1)
end
section
variable{prog:zAZ}{w:World}{A:zAc}{R:zFB->zAE->Prop}{s:zAE}
def xm(I:Nat->zAE->Prop)
  (turn:∀n s,I n s->wpAny (model prog w) A (pyNext it) (λ r z3=>match r with
   |none=>R (.ok .next) z3
   |some v=>wpAny (model prog w) A (zDz target it v) (λ _ z3=>wpAny (model prog w) A (zFO target env v) (λ _ zS=>
     wpAny (model prog w) A (forIn ifs true λ c r=>if r=true then do let ok <-isTrue c env (eval c env);pure (zBa ok)else pure (zBa r)) (λ ok zI=>
      if ok=true then wpAny (model prog w) A (eval elt env) (λ x s₄=>
       wpAny (model prog w) A (call (.builtin "list.append") [acc,x]) (λ _ s₅=>∃m,m<n/\I m s₅) (λ _ _=>False) s₄) (λ _ _=>False) zI
      else∃m,m<n/\I m zI) (λ _ _=>False) zS) (λ _ _=>False) z3) (λ _ _=>False) z3) (λ _ _=>False) s)
  (n:Nat)(h:I n s):zDC (model prog w) A (.compLoop (.ListComp elt [⟨target,iter,ifs,0⟩] scope pos) 0 it acc env) R s:=by
 refine codeAny_loop rfl I (λ n s hI=>?_) n h;show wpAny _ A ((compTurn (.ListComp elt [⟨target,iter,ifs,0⟩] scope pos) 0 it acc env).onRaise (λ x=>do noteFrame x env;theTreesLotGoes x)) _ _ s;refine wpAny_noted ?_;rw[compTurn_list];refine zAR (wpAny_standAt (zAR (zCE (turn n s hI) (λ r z3 zD=>?_) λ _ _ h'=>h'.elim)));cases r with
 |none=>exact zA7 zD
 |some v=>
  refine zAR (zCE zD (λ _ z3 zD=>?_) λ _ _ h'=>h'.elim);refine zAR (zCE zD (λ _ zS h₂=>zAR (zCE h₂ (λ ok zI h₃=>?_) λ _ _ h'=>h'.elim)) λ _ _ h'=>h'.elim);cases ok with
  |false=>exact zA7 ⟨rfl,h₃⟩
  |true=>
   exact zAR (zAR (zCE h₃ (λ x s₄ h₄=>zAR (zCE h₄ (λ _ s₅ h₅=>zA7 (zA7 ⟨rfl,h₅⟩)) λ _ _ h'=>h'.elim)) λ _ _ h'=>h'.elim))
end
def ut(g:TG)(ks:List Nat):Prop:=∀v σ H (Q:St->Hp->Prop),g v σ H Q->g v σ H (λ σ' H'=>Q σ' H'/\σ'.length=σ.length/\∀k,k∉ks->σ'[k]? =σ[k]?)
def ur(g:TGs)(ks:List Nat):Prop:=∀vs σ H (Q:St->Hp->Prop),g vs σ H Q->g vs σ H (λ σ' H'=>Q σ' H'/\σ'.length=σ.length/\∀k,k∉ks->σ'[k]? =σ[k]?)
def aGA(h:i∈ks):ut (qu i) ks:=λ v σ H Q q=>⟨q,zBL,λ k hk=>zAt (λ(e:i=k)=>hk (e▸h))⟩
def aFz:ur aIS ks:=λ vs σ H Q ⟨e,q⟩=>⟨e,q,rfl,λ _ _=>rfl⟩
def aAC(g:TG):Prop:=∀v σ H (Q Q':St->Hp->Prop),(∀σ' H',Q σ' H'->Q' σ' H')->g v σ H Q->g v σ H Q'
def qY(g:TGs):Prop:=∀v σ H (Q Q':St->Hp->Prop),(∀σ' H',Q σ' H'->Q' σ' H')->g v σ H Q->g v σ H Q'
def aGC:aAC (qu i):=λ v σ H Q Q' imp q=>imp _ _ q
def aGB:qY aIS:=λ v σ H Q Q' imp ⟨e,q⟩=>⟨e,imp _ _ q⟩
def aEK(h1:aAC t)(h2:qY u):qY (aEM t u):=λ vs σ H Q Q' imp ⟨v,r,e,q⟩=>⟨v,r,e,h1 _ _ _ _ _ (λ σ' H' q'=>h2 _ _ _ _ _ imp q') q⟩
def aEI(h1:ut t ks)(m1:aAC t)(h2:ur u ks)(m2:qY u):ur (aEM t u) ks:=λ vs σ H Q ⟨v,r,e,q⟩=>
 ⟨v,r,e,m1 _ _ _ _ _ (λ σ' H' ⟨q',l',k'⟩=>m2 _ _ _ _ _ (λ σ2 H2 ⟨q2,l2,k2⟩=>⟨q2,l2.trans l',λ k hk=>(k2 k hk).trans (k' k hk)⟩) (h2 _ _ _ _ q')) (h1 _ _ _ _ q)⟩
def aIQ{K:zAA}(h:ur t ks):ut (aGD K n t) ks:=λ v σ H Q ⟨a,xs,e1,e2,e3,q⟩=>⟨a,xs,e1,e2,e3,h _ _ _ _ q⟩
def aIR{K:zAA}(h:qY t):aAC (aGD K n t):=λ v σ H Q Q' imp ⟨a,xs,e1,e2,e3,q⟩=>⟨a,xs,e1,e2,e3,h _ _ _ _ _ imp q⟩
def aC6(X:Cx)(ifs:List Expr)(t:TT):Prop:=
 ∀(hV:hZ) (s:zAE) (σ:St) (H:Hp) (Q:Bool->Hp->Prop),Inv X hV σ H s->t σ H Q->
  wpAny (model X.prog X.w) X.A (forIn ifs true λ c r=>if r=true then do let ok <-isTrue c X.env (eval c X.env);pure (zBa ok)else pure (zBa r)) (TP X hV σ Q) X.xe s
def aJ5:TT:=λ _ H Q=>Q true H
def aH5:aC6 X [] aJ5:=λ _ _ _ H _ I h=>wpAny_tests_nil ⟨H,I,h⟩
def aH4(h:PT X c t):aC6 X [c] t:=λ hV s σ H Q I q=>wpAny_tests_one (h hV s σ H Q I q)
def tLC(wi:TI)(st:St->St)(g:TG)(tt:TT)(te:TE):TE:=λ σ H Q=>wi σ H λ J H1=>∀l,H1 l=none->∃W:Nat->Nat->List V->Hp->Prop,(∃m,W 0 m [] (upd H1 l (.lst [])))/\
 ∀i m acc H2,W i m acc H2->H2 l=some (.lst acc)/\acc.length<zAQ/\((J.stop i H2/\Q (.ref l) H2)\/(J.go i H2/\∀x H3,J.yld i H2 x H3->g x (st σ) H3 λ σ4 H4=>tt σ4 H4 λ ok H5=>
  if ok=true then te σ4 H5 λ y H6=>H6 l=some (.lst acc)/\∃m',m'<m/\W (i+1) m' (acc++[y]) (upd H6 l (.lst (acc++[y])))else∃m',m'<m/\W (i+1) m' acc H5))
section
variable{X:Cx}{elt tg iter:Expr}{ifs:List Expr}{scope:Scope}{pos:Pos}{N:List Str}{st:St->St}{ks:List Nat}{wi:TI}{g:TG}{tt:TT}{te:TE}
def zJ(B:gU X scope N st ks)(hc:X.calm=true)(hg:∀C fp z5 z4,PG (X.block scope C N fp z5 z4) tg g)(hgo:ut g ks)(ht:∀C fp z5 z4,aC6 (X.block scope C N fp z5 z4) ifs tt)
  (he:∀C fp z5 z4,PE (X.block scope C N fp z5 z4) elt te){H1:Hp}{Q:VK}{RR:Value->Addr->zFB->zAE->Prop}
  (I:Inv X hV σ H1 zS)(T:Turn X.prog X.w X.K tg J fp it tn)(h0:tn 0 zS.heap)(hfp:∀b∈fp,uv X hV H1 b)
  (h:∀l,H1 l=none->∃W:Nat->Nat->List V->Hp->Prop,(∃m,W 0 m [] (upd H1 l (.lst [])))/\
   ∀i m acc H2,W i m acc H2->H2 l=some (.lst acc)/\acc.length<zAQ/\((J.stop i H2/\Q (.ref l) H2)\/(J.go i H2/\∀x H3,J.yld i H2 x H3->g x (st σ) H3 λ σ4 H4=>tt σ4 H4 λ ok H5=>
    if ok=true then te σ4 H5 λ y H6=>H6 l=some (.lst acc)/\∃m',m'<m/\W (i+1) m' (acc++[y]) (upd H6 l (.lst (acc++[y])))else∃m',m'<m/\W (i+1) m' acc H5)))
  (hRR:∀D C H' s',(∃σ',Inv (X.block scope C N fp zS H1) [] σ' H' s')->zS.heap.objs.size<=C->Q (.ref D) H'->RR (.ref D) C (.ok .next) s'):
  wpAny (model X.prog X.w) X.A (zGO []) (λ acc zI=>wpAny (model X.prog X.w) X.A (zFu scope X.env.globals (bQ scope X.env) [] X.env.qual none .none (some X.env)) (λ cenv s₄=>
   zDC (model X.prog X.w) X.A (.compStart (.ListComp elt [⟨tg,iter,ifs,0⟩] scope pos) 0 (.ref it) acc {cenv with scope:=zFb scope X.env}) (RR acc cenv.locals) s₄) E zI) E zS:=by
 refine zBt (aF8 λ zD hns₁ y9 hcs₁=>?_);dsimp only at hns₁ y9 hcs₁ ⊢;generalize hH2:zS.heap.push {cls:=.type "list",dict:=none,data:=.seq ([]:List Value).toArray}=P2 at hns₁ y9 hcs₁ ⊢;have hC:P2.objs.size=zS.heap.objs.size+1:=by rw[<-hH2,zC4]
 have hDC:zS.heap.objs.size≠P2.objs.size:=by rw[hC];exact zAu (zCg _)
 have kQ:zS.heap.objs.size<=P2.objs.size:=by rw[hC];exact zEh _
 have old:∀b o,zS.heap.get? b=some o->zD.get? b=some o:=λ b o e=>y9 b o (hH2▸zAG _ e)
 have kX:zD.get? zS.heap.objs.size=some {cls:=.type "list",dict:=none,data:=.seq ([]:List Value).toArray}:=y9 _ _ (hH2▸zA6 _ rfl);generalize hCe:P2.objs.size=C at hns₁ y9 hcs₁ hDC kQ hC ⊢;have hHD:H1 zS.heap.objs.size=none:=I.hok.fresh (zAU _);have I0:Inv (X.block scope C N fp zS H1) [] (st σ) (upd H1 zS.heap.objs.size (.lst [])) {zS with heap:=zD,toks:=zS.toks}:=
  I.block B hfp (λ b hb=>by obtain⟨o,e,_⟩:=T.obj 0 _ h0 b hb;exact⟨o,e⟩) (zAU _) kQ hDC old hns₁ hcs₁ (λ c hc=>zAu (Nat.lt_of_le_of_lt kQ hc)) ⟨zAi _,[],0,.nil,kX⟩
 obtain⟨W,⟨m0,w0⟩,step⟩:=h _ hHD;have h01:tn 0 zD:=T.keep 0 _ _ h0 λ b _ o e=>old b o e
 have qV:∀{H':Hp},(∀b∈fp,H' b=none)->∀b∈fp,uv (X.block scope C N fp zS H1) [] H' b:=λ{H'} hn b hb=>
  ⟨hn b hb,(I0.ok.exf b hb).1,I0.ok.exfs b hb,.inl hb,λ x c e=>(I0.ok.exf b hb).2 x c e,λ p hp=>absurd (show p∈([]:hZ)from hp) (by simp)⟩
 have fr0:∀b∈fp,upd H1 zS.heap.objs.size (.lst []) b=none:=λ b hb=>by
  obtain⟨o,e,_⟩:=T.obj 0 _ h0 b hb;rw[bK (zAu (zA4 e))];exact(hfp b hb).1
 have loop:∀zI:zAE,zI={zS with heap:=zD,toks:=zS.toks}->
   zDC (model X.prog X.w) X.A (.compLoop (.ListComp elt [⟨tg,iter,ifs,0⟩] scope pos) 0 (.ref it) (.ref zS.heap.objs.size) (X.block scope C N fp zS H1).env) (RR (.ref zS.heap.objs.size) C) zI:=by
  rintro zI rfl;refine xm (λ n s'=>∃i acc H2,Inv (X.block scope C N fp zS H1) [] (st σ) H2 s'/\tn i s'.heap/\(∀b∈fp,H2 b=none)/\W i n acc H2) ?_ m0 ⟨0,[],_,I0,h01,fr0,w0⟩;rintro n s3 ⟨i,acc,H2,I2,st2,fr2,w2⟩;obtain⟨hl,hz,alt⟩:=step i n acc H2 w2;rcases alt with ⟨stop,q⟩|⟨go,nxt⟩
  .refine thn (T.done (X.block scope C N fp zS H1) rfl rfl rfl hc i [] s3 (st σ) H2 _ I2 (qV fr2) st2 stop) λ r s4 ⟨hr,I4⟩=>?_
   subst hr;exact hRR _ C H2 s4 ⟨_,I4⟩ kQ q
  .refine thn (T.item (X.block scope C N fp zS H1) rfl rfl rfl hc i [] s3 (st σ) H2 _ I2 (qV fr2) st2 go) λ r s4 ⟨u,hr,h4⟩=>?_
   subst hr;refine thn h4 λ _ s5 ⟨x,H5,I5,r5,y5,st5,fr5⟩=>?_
   have I5':=I5.pinned (qV fr5) (T.obj _ _ st5);refine thn (hg C fp zS H1 _ s5 (st σ) H5 x u _ I5' r5 (hgo _ _ _ _ (nxt x H5 y5))) λ _ s6 ⟨σ6,H6,I6,q6,aJM,ag6⟩=>?_
   refine thn (ht C fp zS H1 _ s6 σ6 H6 _ I6 q6) λ ok s7 ⟨H7,I7,q7⟩=>?_
   have again:∀{H9:Hp} {s9:zAE} {acc':List V},Inv (X.block scope C N fp zS H1) ([]++uE fp s5.heap) σ6 H9 s9->(∃m',m'<n/\W (i+1) m' acc' H9)->
     ∃m,m<n/\∃i acc H2,Inv (X.block scope C N fp zS H1) [] (st σ) H2 s9/\tn i s9.heap/\(∀b∈fp,H2 b=none)/\W i m acc H2:=λ{H9 s9 acc'} I9 ⟨m',hm,w9⟩=>by
    have pin9:∀b∈fp,∀o,s5.heap.get? b=some o->s9.heap.get? b=some o/\H9 b=none:=λ b hb o e=>by
     have z:=I9.pin (b,o) (zAY _ (zAY _ (oF hb e)));exact⟨z.1,z.2.1⟩
    refine⟨m',hm,i+1,acc',H9,I9.unpinned.weak (by rw[aJM]) (λ k v e=>?_),T.keep _ _ _ st5 λ b hb o e=>(pin9 b hb o e).1,λ b hb=>?_,w9⟩
    .have hk:k<(st σ).length:=(zAL.mp e).1
     have hkN:k<N.length:=by rw[<-B.len σ];exact hk
     obtain⟨_,hks,_⟩:=B.val σ k _ v (zAC hkN) e;rw[ag6 k hks];exact e
    .obtain⟨o,e,_⟩:=T.obj _ _ st5 b hb
     exact(pin9 b hb o e).2
   cases ok with
   |false=>
    rw[if_neg zA3]at q7 ⊢;exact again I7 q7
   |true=>
    rw[if_pos rfl]at q7 ⊢;refine thn (he C fp zS H1 _ s7 σ6 H7 _ I7 q7) λ u8 s8 ⟨y,H8,I8,r8,hl8,q8⟩=>?_
    refine thn (v9 _ s8 σ6 H8 (.ref zS.heap.objs.size) [y] (.ref zS.heap.objs.size) [u8] (λ _ H9=>H9=upd H8 zS.heap.objs.size (.lst (acc++[y]))) I8 rfl (.cons r8 .nil) ⟨_,acc,y,rfl,rfl,hl8,hz,rfl⟩) λ _ s9 ⟨_,H9,I9,_,e9⟩=>?_
    subst e9;exact again I9 q8
 exact codeAny_compStart_list (loop _ rfl) (T.self X.A 0 _ _ _ h01 (loop _ rfl))
def aBo(I:Inv X hV σ H1 zS)(hfp:∀b∈fp,uv X hV H1 b)(h:∃σ',Inv (X.block scope C N fp zS H1) [] σ' H' s'):Inv X hV σ H' s':=by
 obtain⟨σ',J⟩:=h;exact I.call' (ch:=fp) J.os J.base J.hok J.bare λ b hb=>⟨(hfp b hb).2.2.2.1,(hfp b hb).2.1,(hfp b hb).2.2.2.2.1,(hfp b hb).2.2.2.2.2⟩
def aJA(B:gU X scope N st ks)(hc:X.calm=true)(hi:PI X tg iter wi)(hg:∀C fp z5 z4,PG (X.block scope C N fp z5 z4) tg g)(hgo:ut g ks)(ht:∀C fp z5 z4,aC6 (X.block scope C N fp z5 z4) ifs tt)
  (he:∀C fp z5 z4,PE (X.block scope C N fp z5 z4) elt te)(hs:∀x,zB3 iter X.env x=pure x:=by intro _;rfl):PE X (.ListComp elt [⟨tg,iter,ifs,0⟩] scope pos) (tLC wi st g tt te):=by
 intro hV s σ H Q I h;have hcl:zGA scope X.env=pure (bQ scope X.env):=nO λ y hy hk=>I.ok.has _ (B.free y hy hk)
 rw[eval_ListComp];refine zGD (use:=none) rfl hs hcl B.kind B.loc (thn (hi hV s σ H _ I h) λ v s1 h1=>thn h1 λ itv s2 h2=>?_);obtain⟨it,fp,tn,J,H2,e,I2,T,st2,f2,hq⟩:=h2;subst e;refine zJ (RR:=λ acc C=>compPost (model X.prog X.w) X.A X.xe none (EP X hV σ Q) acc C) B hc hg hgo ht he I2 T st2 f2 hq ?_;intro D C H' s' hJ kQ q;have I3:=aBo I2 f2 hJ;obtain⟨σ',J'⟩:=hJ;obtain⟨m,hn,_⟩:=id J'.loc;have hHC:H' C=none:=J'.free;refine⟨m,hn,λ h'' hs''=>⟨.ref D,H',?_,rfl,q⟩⟩;exact I3.turned (t':=s'.toks) (λ b o ne e=>(hs''.2 b ne).trans e) hHC (zFq (zA1 I2.lt kQ)) (.inr (zAe I2.sz kQ))
  (λ x c e z=>by obtain⟨v,ic⟩:=I2.cell x c e;exact absurd (zA1 ic.lt (by rw[z];exact kQ)) (zBb _))
  (λ p hp z=>absurd (zA1 (I2.pinL hp) (by rw[z];exact kQ)) (zBb _))
def yu(hN:X.N.Nodup)(hx1:X.N[i]? =some x)(hx2:Loc X.env.scope x)(B:gU X scope N st ks)(hc:X.calm=true)(hi:PI X tg iter wi)(hg:∀C fp z5 z4,PG (X.block scope C N fp z5 z4) tg g)(hgo:ut g ks)
  (ht:∀C fp z5 z4,aC6 (X.block scope C N fp z5 z4) ifs tt)(he:∀C fp z5 z4,PE (X.block scope C N fp z5 z4) elt te)(hsw:zCB (.ListComp elt [⟨tg,iter,ifs,0⟩] scope pos) (some (.Name x pos')) spos.line X.env=pure true)
  (hs:∀x,zB3 iter X.env x=pure x:=by intro _;rfl)(hf:X.fn x=true\/X.env.scope.names.lookup x=some .local:=by first|exact .inl rfl|exact .inr rfl|assumption):
  PS X (.Assign [.Name x pos'] (.ListComp elt [⟨tg,iter,ifs,0⟩] scope pos) spos) (aCh (tLC wi st g tt te) (qu i)):=by
 intro hV s σ H D I h;have hcl:zGA scope X.env=pure (bQ scope X.env):=nO λ y hy hk=>I.ok.has _ (B.free y hy hk)
 rw[exec_Assign_Name_used _ _ _ _ hsw];refine zAR (wpAny_standAt (zAR ?_));show wpAny _ _ (do let _ <-comprehension (.ListComp elt [⟨tg,iter,ifs,0⟩] scope pos) scope X.env _ (zGO []) false (eval iter X.env) (some (zFO (.Name x pos') X.env))) _ _ s;refine zAR (zCE (zGD (use:=some (zFO (.Name x pos') X.env)) (Q:=λ _ s'=>SP X hV D .next s') rfl hs hcl B.kind B.loc (thn (hi hV s σ H _ I h) λ v s1 h1=>thn h1 λ itv s2 h2=>?_)) (λ _ s' hq=>zA7 (zA7 hq)) λ _ _ e=>e);obtain⟨it,fp,tn,J,H2,e,I2,T,st2,f2,hq⟩:=h2;subst e;refine zJ (Q:=λ x H1=>qu i x σ H1 D.nx) (RR:=λ acc C=>compPost (model X.prog X.w) X.A X.xe (some (zFO (.Name x pos') X.env)) (λ _ s'=>SP X hV D .next s') acc C) B hc hg hgo ht he I2 T st2 f2 hq ?_;intro DD C H' s' hJ kQ q;have I3:=aBo I2 f2 hJ;obtain⟨σ',J'⟩:=hJ;obtain⟨m,hn,_⟩:=id J'.loc;have hHC:H' C=none:=J'.free;have neL:C≠X.env.locals:=zFq (zA1 I2.lt kQ);have neC:∀x c,X.env.cells.lookup x=some c->c≠C:=λ x c e z=>by obtain⟨v,ic⟩:=I2.cell x c e;exact absurd (zA1 ic.lt (by rw[z];exact kQ)) (zBb _)
 show wpAny _ _ (zFO (.Name x pos') X.env (.ref DD)) _ _ _;refine zHP ?_;refine vW I3 hN hx1 hx2 (show RelV (.ref DD) (.ref DD)from rfl) (λ s4 I4 ⟨a,hsa,ha⟩=>?_) hf;have nea:C≠a:=by
  rcases ha with z|z
  .rw[z];exact neL
  .exact zDF (neC _ _ z)
 refine⟨m,hn.sameBut hsa nea,λ h'' hs''=>⟨_,H',?_,q⟩⟩;exact I4.turned (t':=s4.toks) (λ b o ne e=>(hs''.2 b ne).trans e) hHC neL (.inr (zAe I2.sz kQ)) neC
  (λ p hp z=>absurd (zA1 (I2.pinL hp) (by rw[z];exact kQ)) (zBb _))
end
def CX1(P:zAZ)(w:World):CXT:=λ outer H s E e s'=>∃(ea:Addr) (cls a0:Value) (B:Heap) (H':Hp),e= .ref ea/\s'.os=s.os/\zDv s'.gens/\Un (frs outer) [] H H' s.heap s'.heap/\HOk P w H' B/\Heap.FlyingW B outer ea cls a0 s'.heap/\
 (∀b o,s.heap.get? b=some o->H b=none->b∉frs outer->B.get? b=some o)/\(∀b o,s.heap.get? b=some o->b∉frs outer->∃o',B.get? b=some o')/\E cls none H'
structure iy(X:Cx)(E:XK):Prop where
 stk:X.stack=X.env::X.outer
 fr:X.env.frame=some X.env.locals
 ex:X.ex=[]
 xe:X.xe=λ e s'=>wpAny (model X.prog X.w) X.A (leaving X.env e) (λ _ s''=>CX1 X.prog X.w X.outer X.z4 X.z5 E e s'') (λ e' s''=>CX1 X.prog X.w X.outer X.z4 X.z5 E e' s'') s'
def iy.of{K:zAA}:
  iy (za (CX1 P w) P w K mg base N qual scope f cd A outer z5 z4 E) E:=⟨rfl,rfl,rfl,rfl⟩
section
variable{X:Cx}{E:XK}
def aEP{B h':Heap}(hX:X.ex=[])(I:Inv X hV σ H s)
  (a1:∀b o,s.heap.get? b=some o->H b=none->b∉frs X.stack->B.get? b=some o)(a2:∀b o,s.heap.get? b=some o->b∉frs X.stack->∃o',B.get? b=some o')
  (a3:B.StaysIn h')(a4:∀b o,b∈frs X.outer->s.heap.get? b=some o->H b=none->(∀vs,o.data≠.fields vs)->∃sl,h'.get? b=some {o with slots:=sl})
  (a5:∀b o,s.heap.get? b=some o->H b=none->H' b=none)(a6:∀b xs,H b=some (.tup xs)->H' b=some (.tup xs))(a7:∀b o u,H b=some (.frz o u)->H' b=some (.frz o u))(a8:∀b ps,H b=some (.tbl ps)->∃more,H' b=some (.tbl (ps++more))):
  Un (frs X.outer) [] X.z4 H' X.z5.heap h'/\(∀b o,X.z5.heap.get? b=some o->X.z4 b=none->b∉frs X.outer->B.get? b=some o)/\(∀b o,X.z5.heap.get? b=some o->b∉frs X.outer->∃o',B.get? b=some o'):=by
 have nx:∀b,b∉X.ex:=λ b z=>by rw[hX]at z;cases z
 have noS:∀b o,X.z5.heap.get? b=some o->b∉frs X.outer->b∉frs X.stack:=λ b o e nf hb=>by
  rcases zAT.mp (I.stkSub b hb)with z|z
  .exact absurd z (zAu (zA1 (zA4 e) I.ok.above))
  .exact nf z
 have bk:∀b o,X.z5.heap.get? b=some o->X.z4 b=none->b∉frs X.outer->B.get? b=some o:=λ b o e n nf=>
  a1 b o (I.base.keep b o e n nf (nx b)) (I.base.free b o e n (nx b)) (noS b o e nf)
 have ba:∀b o,X.z5.heap.get? b=some o->b∉frs X.outer->∃o',B.get? b=some o':=λ b o e nf=>by
  obtain⟨o1,e1⟩:=I.base.there b o e (nx b);exact a2 b o1 e1 (noS b o e nf)
 have sl:∀b o,X.z5.heap.get? b=some o->X.z4 b=none->b∈frs X.outer->∃sl,h'.get? b=some {o with slots:=sl}:=λ b o e n hb=>by
  obtain⟨sl1,e1⟩:=I.base.slot b o e n hb (nx b);obtain⟨_,o2,ho2,hnf⟩:=I.ok.funs.mem hb;rw[e]at ho2;cases ho2;obtain⟨sl2,e2⟩:=a4 b _ hb e1 (I.base.free b o e n (nx b)) hnf;exact⟨sl2,e2⟩
 refine⟨⟨λ b o e n nf _=>a3 b o (bk b o e n nf),λ b o e n hb _=>sl b o e n hb,λ b o e n _=>?_,λ b o e _=>?_,λ b xs e=>a6 b xs (I.base.tups b xs e),λ b o u e=>a7 b o u (I.base.frzs b o u e),λ b ps e=>?_⟩,bk,ba⟩
 .obtain⟨o1,e1⟩:=I.base.there b o e (nx b)
  exact a5 b o1 e1 (I.base.free b o e n (nx b))
 .by_cases hb:b∈frs X.outer
  .obtain⟨s2,e2⟩:=sl b o e (I.ok.frf b hb) hb
   exact⟨_,e2⟩
  .obtain⟨o',e'⟩:=ba b o e hb
   exact⟨o',a3 b o' e'⟩
 .obtain⟨m1,e1⟩:=I.base.tbls b ps e
  obtain⟨m2,e2⟩:=a8 b _ e1;exact⟨m1++m2,by rw[e2,zFw]⟩
def iy.pass(D:iy X E):yK (CX1 X.prog X.w) X E:=by
 intro hV σ H s e s' I h;obtain⟨ea,cls,a0,B,H',rfl,os,bare,un,hok,fly,bk,ba,hE⟩:=h;rw[D.xe];have fly':=fly;rw[D.stk]at fly';have hfr:=I.ok.frames;rw[D.stk]at hfr;refine wpAny_leaves_onW (L:=X.env.locals) hfr D.fr fly' λ h' fl up=>?_
 have a4:∀b o,b∈frs X.outer->s.heap.get? b=some o->H b=none->(∀vs,o.data≠.fields vs)->∃sl,h'.get? b=some {o with slots:=sl}:=λ b o hb e n nf=>by
  have hb':b∈frs X.stack:=by
   rw[D.stk];unfold frs;rw[zBp,D.fr];exact zAF _ hb
  obtain⟨s1,e1⟩:=un.slot b o e n hb' (λ z=>nomatch z);obtain⟨s2,e2⟩:=up b _ e1 nf;exact⟨s2,e2⟩
 obtain⟨u1,u2,u3⟩:=aEP (B:=B) (h':=h') (H':=H') D.ex I bk ba fl.1 a4 (λ b o e n=>un.free b o e n (λ z=>nomatch z)) un.tups un.frzs un.tbls;exact⟨ea,cls,a0,B,H',rfl,os.trans I.os,bare,u1,hok,fl,u2,u3,hE⟩
def iy.raise(D:iy X E){ea:Addr}(I:Inv X hV σ H s)
  (hx:Heap.MadeExcOf s.heap h1 ea cls vs)(hE:E cls none H):X.xe (.ref ea) {s with heap:=h1}:=by
 rw[D.xe];have stk:s.heap.FunFrames X.base X.stack:=I.stack;have hin:∀env∈X.stack,∀a,env.frame=some a->a∈frs X.stack:=λ env he a ha=>zBx.mpr ⟨env,he,ha⟩
 have stk2:=PySem.W.funFrames_hide stk hin;have hfr:=I.ok.frames;rw[D.stk]at hfr;have stk3:s.heap.FunFrames (zCh s.heap (frs X.stack)) (X.env::X.outer):=by rw[<-D.stk];exact stk2
 refine wpAny_leaves_madeW (L:=X.env.locals) (base:=zCh s.heap (frs X.stack)) hfr D.fr (λ b o q=>zFl _ q) stk3 hx λ h' t fl tup bn up=>?_
 have hok:HOk X.prog X.w H (zCh s.heap (frs X.stack)):=λ a o e=>by
  refine(I.hok a o e).stay (λ b u hb q=>zCi _ q λ hm=>?_) (λ _ z=>z) λ _ _ z=>z
  have hn:=I.stkFree b hm;rcases hb with z|z
  .rw[z,e]at hn;cases hn
  .rw[z]at hn;cases hn
 obtain⟨u1,u2,u3⟩:=aEP (B:=zCh s.heap (frs X.stack)) (h':=h') (H':=H) D.ex I (λ b o e n nf=>zCi _ e nf) (λ b o e nf=>⟨o,zCi _ e nf⟩) fl.1
  (λ b o hb e n nf=>up b o (hx.keeps b o e) nf) (λ b o e n=>n) (λ _ _ e=>e) (λ _ _ _ e=>e) (λ b ps e=>⟨#[],by rw[e];simp⟩)
 exact⟨ea,cls,.ref t,_,H,rfl,I.os,I.bare,u1,hok,fl,u2,u3,hE⟩
def iy.own(D:iy X E):zG8 (model X.prog X.w) X.A X.env X.xe:=λ e s' h=>by
 rw[D.xe]at h ⊢;exact wpAny_leaving_again (SameStack.refl _) h
end
section
variable{P:zAZ}{w:World}{K:zAA}{mg:Str->Option Value}{base:Heap}
def Fun.okX{st:Stmt}(F:Fun K x q st f fd)(S:aX N ps (aO st))(len:∀vs H Q E,sp vs H Q E->vs.length=ps.length)
  (hbody:∀(cdv:Value) (A:zAc) (outer:List Env) (s:zAE) (H:Hp) (vs:List V) (Q:VK) (E:XK),jA k (A.deeper (zDf q (aO st) s.heap.objs.size f cdv))->sp vs H Q E->
   ∃t,PSs (za (CX1 P w) P w K mg base N q (aO st) f cdv A outer s H E) (gH st) t/\t {nx:=λ _ H'=>Q .non H',rt:=Q} (start N vs) H):b7 P w K mg base (CX1 P w) (k+1) f fd ps sp:=by
 obtain⟨oc,od,kV,doc,pm,an,cdv,ct,osl,rfl,lk,hcd⟩:=F.ex;exact aJT lk hcd S len λ A outer s H vs Q E hr hsp=>hbody cdv A outer s H vs Q E hr hsp
end
def kE(K:zAA)(C:Addr):Prop:=zGa K C [.type "ValueError",.type "Exception",.type "BaseException",.type "object"] "ValueError.__new__"=true
def xH{K:zAA}(X:K.In h)(hm:mg x=some (.ref C))(q:kE K C):OwnCls x C [.type "ValueError",.type "Exception",.type "BaseException",.type "object"] "ValueError.__new__" mg h:=by
 refine⟨hm,?_⟩;unfold kE zGa at q;split at q
 .rename_i dd cd sl ho
  split at q
  .rename_i C' bm k0 k1 k2 k3 n k5 hm' hs
   simp only[zAN,beq_iff_eq,zBI]at q;obtain⟨⟨⟨⟨⟨rfl,rfl⟩,hdel⟩,ht⟩,hok⟩,hni⟩:=q;obtain⟨nm,bs,mro,ns,qn,hd,sn,sub,ab,col,del⟩:=cd;dsimp only at hm' hdel hok hni;subst hm' hdel;have hsl:sl=#[k0,k1,k2,k3,some (.builtin "ValueError.__new__"),k5]:=by
    obtain⟨l⟩:=sl;simp only at hs;rw[hs]
   subst hsl;exact⟨bm,ns,nm,qn,bs,hd,sn,sub,ab,col,dd,k0,k1,k2,k3,k5,_,X _ _ ho,.of_isNs (PySem.W.isNs_of_in X hok),PySem.W.nsMap_none_of_in X hok hni,PySem.W.tail_of_in X ht⟩
  .cases q
 .cases q
def aHC(C:Addr)(E:XK)(ta:TA):TS:=λ _ σ H=>ta σ H λ vs H1=>vs.length<=zAQ/\E (.ref C) none H1
section
variable{X:Cx}{E:XK}
def aDT(D:iy X E)(hc:X.calm=true){rest:List Expr}(hm:X.mg x=some (.ref C))(hC:kE X.K C)(hg:Gl X x)
  (ha:PA X (zC::rest) ta)(he:zAX (zC::rest) X.env=(false,eval zC X.env)::zAX rest X.env:=by rfl)
  (hplain:(zBv cpos (zAX rest X.env)).any (·.1)=false:=by rfl)(hd:Nd x:=by decide):
  PS X (.Raise (some (.Call (.Name x np) (zC::rest) [] cpos)) none pos) (aHC C E ta):=by
 intro hV s σ H DD I h;obtain⟨tl,NN,nm,q,bs,hdct,sn,sub,ab,col,dd,k0,k1,k2,k3,k5,mN,hCo,hN,hni,T⟩:=(xH (h:=X.base) I.mod.kin hm hC).obj;have FB:=PySem.F.excBase_ValueError;refine wpAny_Raise_call_subU (C:=C) (nm:=nm) (q:=q) (N:=NN) (bs:=bs) (bm:=tl) (hdct:=hdct) (sn:=sn) (sub:=sub) (ab:=ab) (col:=col) (dd:=dd) (k0:=k0) (k1:=k1) (k2:=k2) (k3:=k3) (k5:=k5)
  FB FB.hasB FB (mN:=mN) (T.hasType FB.hasBase) (I.ok.hd hc) (by rw[he];show(false||(zBv cpos (zAX rest X.env)).any (·.1))=false;rw[hplain];rfl) hni
  (xU I hg hm ⟨rfl,?_⟩ hd)
 have harg:=ha cpos hV s σ H _ I h;rw[he]at harg ⊢;refine zFe (zCE harg (λ vs zS h₂=>?_) λ _ _ y=>y);obtain⟨xs,H2,I2,rv,hz,hE⟩:=h₂;refine⟨rfl,by show vs.length<=zAQ;rw[<-rv.length];exact hz,I2.bk _ _ hCo,hN.keeps I2.bk,T.keeps I2.bk,λ h' ea hx=>D.raise I2 hx hE⟩
end
section
variable{κ:Type}[DecidableEq κ]
end
end L2
namespace Att
open PySem PySem.W PySem.Calls PyProof.Rows
end Att
namespace L2
open PySem PySem.Spec PyProof.Rows
section
variable{κ:Type}[DecidableEq κ]
end
section
variable{X:Cx}
structure aJ0(X:Cx)(P:Addr):Prop where
 ta:∃o,X.ta=[(P,o)]
 ex:P∈X.ex
 tq:X.tq=X.env.qual++"<lambda>"
 code:∃c,X.env.code= .ref c/\PySem.W.CodeHd X.base c P
 blt:X.base.BuiltinsAt X.mg P
 gne:zA8≠P
end
abbrev bmV:List Value:=[.type "ValueError",.type "Exception",.type "BaseException",.type "object"]
section
variable{prog:zAZ}{w:World}{A:zAc}{E:Value->zAE->Prop}{h:Heap}{g:Array zCm}{d:Drawn}{t:Nat}{os:OsState}{a:Addr}{o:Obj}
 {nm q:Str}{C N:Addr}{bs bm:List Value}{hdct:Bool}{sn:List Str}{sub:List Value}{ab:Bool}{col:Option Bool}{dd:Option Addr}{k0 k1 k2 k3 k5:Option Value}{newId:String}{K:zAA}
def zf{R:zFB->zAE->Prop}(hC:h.get? C=some (zF7 nm q C N bs bm hdct sn sub ab col dd k0 k1 k2 k3 k5 newId))(T:OwnTail h bmV bm)
  (hx:h.get? a=some o)(hc:o.cls= .ref C)(hq:R (.ok (.ret (.ref C))) ⟨h,g,d,t,os⟩):
  zDC (model prog w) A (.call (.builtin "getset_descriptor.__get__") ⟨[.builtin "object.__class__",.ref a,.ref C],[]⟩) R ⟨h,g,d,t,os⟩:=by
 have hT5:(⟨h,g,d,t,os⟩:zAE).TypeIs (.builtin "object.__class__") "getset_descriptor":=zDi;have hcB:(zBX C::bm).contains (.type (".".intercalate ("object.__class__".cutAt '.').dropLast))=true:=by
  rw[F.owner_object_class,zGF,T.hasType (X:="object") (b:=true) (by decide+kernel)];rfl
 refine zGj zFn.plain F.entry_gs_get (zFn.check _ _ _ _ _ _ _ _ hT5 (F.args_gs_get _ _ _) ?_)
 repeat (any_goals (first|assumption|(with_reducible refine zCk hx ?_;rw[hc])|(with_reducible refine zGs hC ?_;rw[hcB])|wp_step))
 refine⟨Code.quiet_builtin _ (by decide+kernel),zF6 F.entry_object_class ?_⟩
 repeat (any_goals (first|assumption|(with_reducible refine zCk hx ?_;rw[hc])|wp_step))
def xr{M:Model}{nameV:Value}{Q:Unit->zAE->Prop}(hC:h.get? C=some (zF7 nm q C N bs bm hdct sn sub ab col dd k0 k1 k2 k3 k5 newId))(T:OwnTail h bmV bm)
  (hx:h.get? a=some o)(hc:o.cls= .ref C)(hq:Q () ⟨h,g,d,t,os⟩):wpAny M A (checkBuiltinCall "BaseException.__getattribute__" ⟨[.ref a,nameV],[]⟩) Q E ⟨h,g,d,t,os⟩:=by
 have hk:builtinKind "BaseException.__getattribute__"=some .slot:=by decide+kernel
 have bP:splitId "BaseException.__getattribute__"=some ("BaseException","__getattribute__"):=by decide+kernel
 have hcB:(zBX C::bm).contains (.type "BaseException")=true:=by rw[zGF,T.hasType (X:="BaseException") (b:=true) (by decide+kernel)];rfl
 have ha:=F.args_bexc_ga (.ref a) nameV;simp only[checkBuiltinCall,hk,bP];refine zAR ?_
 .unfold isInstance
  repeat (first|(with_reducible refine zCk hx ?_;rw[hc])|(with_reducible refine zGs hC ?_;rw[hcB])|wp_step)
  exact hq
def vM{tk:Tok}{Q:Fin->zAE->Prop}(hC:h.get? C=some (zF7 nm q C N bs bm hdct sn sub ab col dd k0 k1 k2 k3 k5 newId))(T:OwnTail h bmV bm)(lk:∀M:Model,zDl M h (zEK (.ref C) "__class__") (some (.builtin "object.__class__")))
  (hx:h.get? a=some o)(hc:o.cls= .ref C)(hq:Q (.done (.ret (.ref C))) ⟨h,g,d,t,os⟩):
  wpAny (model prog w) A (zD7.«object.__getattribute__» ⟨[.ref a,.str "__class__" tk],[]⟩) Q E ⟨h,g,d,t,os⟩:=by
 have hT5:(⟨h,g,d,t,os⟩:zAE).TypeIs (.builtin "object.__class__") "getset_descriptor":=zDi;have f5:=zDi;have f6:=zFn.lookup;have f7:=F.slot_gs_set.lookup
 repeat (any_goals (first|assumption|(with_reducible refine zCk hx ?_;rw[hc])|with_reducible refine(lk _).here ?_|wp_step))
 refine zf hC T hx hc ?_
 repeat (any_goals (first|assumption|wp_step))
def xn{Q:Option Value->zAE->Prop}(hC:h.get? C=some (zF7 nm q C N bs bm hdct sn sub ab col dd k0 k1 k2 k3 k5 newId))(T:OwnTail h bmV bm)(lk:∀M:Model,zDl M h (zEK (.ref C) "__class__") (some (.builtin "object.__class__")))
  (lg:∀M:Model,zDl M h (zEK (.ref C) "__getattribute__") (some (.builtin "BaseException.__getattribute__")))(ln:∀M:Model,zDl M h (zEK (.ref C) "__getattr__") none)
  (hx:h.get? a=some o)(hc:o.cls= .ref C)(hq:Q (some (.ref C)) ⟨h,g,d,t+1,os⟩):wpAny (model prog w) A (getAttr? (.ref a) "__class__") Q E ⟨h,g,d,t,os⟩:=by
 have by_exc:∀{E:Value->zAE->Prop} {t:Nat} {tk:Tok} {Q:Value->zAE->Prop},Q (.ref C) ⟨h,g,d,t,os⟩->wpAny (model prog w) A (getAttrBy (.ref a) (.str "__class__" tk) false) Q E ⟨h,g,d,t,os⟩:=by
  intro E t tk Q hq;have FB:=PySem.F.excAttr_ValueError;have f3:=FB.ga.bind (.ref a);have hx0:(false&&onTheHeap (zDJ "BaseException.__getattribute__"))=false:=rfl;have hx2:(zDJ "BaseException.__getattribute__"==zDJ "object.__getattribute__")=false:=by decide+kernel
  have hx1:(onTheHeap (zBX C)&&zDJ "BaseException.__getattribute__"==zDJ "object.__getattribute__")=false:=by rw[hx2];rfl
  repeat (any_goals (first|assumption|(with_reducible refine zCk hx ?_;rw[hc])|with_reducible refine(lg _).here ?_|with_reducible refine(ln _).here ?_|wp_step))
  refine zGj FB.ga.plain F.entry_bexc_ga (xr hC T hx hc (vM hC T lk hx hc ?_))
  repeat (any_goals (first|assumption|wp_step))
 unfold getAttr? getAttrBy?
 repeat (any_goals (first|assumption|with_reducible apply by_exc|wp_step))
def aDt(hE:kE K C)(ha:zBJ K (.ref C) "__class__"=some (some (.builtin "object.__class__")))(hgt:zBJ K (.ref C) "__getattribute__"=some (some (.builtin "BaseException.__getattribute__")))
  (hga:zBJ K (.ref C) "__getattr__"=some none):PySem.W.KitX K (.ref a) (.ref C) (λ h=>∃o,h.get? a=some o/\o.cls= .ref C) where
 ty:=λ M h _ ⟨o,h1,h2⟩=>h2▸(zHJ h1).andThen .now
 it:=λ M h X _=>by
  obtain⟨bm,NN,nm,q,bs,hdct,sn,sub,ab,col,dd,k0,k1,k2,k3,k5,mN,hC,_⟩:=(xH (h:=h) (mg:=λ _=>some (.ref C)) (x:="x") X rfl hE).obj;intro A' Q' E' s' k q;unfold isType loadHead;exact zAR (wpAny_loadPart (k _ _ hC) (zA7 q))
 ne:=λ h tp dd its n sl X htp=>by
  obtain⟨bm,NN,nm,q,bs,hdct,sn,sub,ab,col,dd,k0,k1,k2,k3,k5,mN,hC,_⟩:=(xH (h:=h) (mg:=λ _=>some (.ref C)) (x:="x") X rfl hE).obj;refine Bool.eq_false_iff.mpr λ z=>?_
  have e:C=tp:=Value.ref.inj (beq_iff_eq.mp z);subst e;rw[hC]at htp;exact absurd (congrArg Obj.cls (zAl htp)) (by show zCT "type"≠zCT "tuple";decide+kernel)
 ca:=λ{prog w A E Q s} X ⟨o,h1,h2⟩ k=>by
  obtain⟨h,g,d,t,os⟩:=s;obtain⟨bm,NN,nm,q,bs,hdct,sn,sub,ab,col,dd,k0,k1,k2,k3,k5,mN,hC,hN,hni,T⟩:=(xH (h:=h) (mg:=λ _=>some (.ref C)) (x:="x") X rfl hE).obj;exact xn hC T (λ M=>zC8 X ha) (λ M=>zC8 X hgt) (λ M=>zC8 X hga) h1 h2 k
end
def excφ(a C:Addr):Heap->Prop:=λ h=>∃o,h.get? a=some o/\o.cls= .ref C
structure aJs(K:zAA)(C:Addr):Prop where
 ex:kE K C
 ca:zBJ K (.ref C) "__class__"=some (some (.builtin "object.__class__"))
 gt:zBJ K (.ref C) "__getattribute__"=some (some (.builtin "BaseException.__getattribute__"))
 ga:zBJ K (.ref C) "__getattr__"=some none
section
variable{X:Cx}
def aGe(K:zAA):List V->Hp->VK->Prop:=λ xs H Q=>∃a C y c b,xs=[.ref a,y]/\RelV y c/\H a=some (.ext (excφ a C))/\aJs K C/\zCt K (.ref C) c=some b/\Q (.bl b) H
def aC2:cZ X (.builtin "isinstance") (aGe X.K):=by
 intro hV s σ H xs us Q I r h;obtain⟨a,C,y,c,b,rfl,ry,ha,kc,e,q⟩:=h;obtain⟨u,w',rfl,r1,r2⟩:=vals2 r;cases r1;have hc:w'=c:=by
  cases y<;>first
   |(cases r2;cases ry;rfl)
   |(obtain⟨t1,rfl⟩:=r2;obtain⟨t2,rfl⟩:=ry;exact absurd e (by simp[zCt,PySem.W.kitCls]))
 subst hc;obtain⟨p,_⟩:excφ a C s.heap/\_:=I.hok a _ ha;exact zAw (aDt kc.ex kc.ca kc.gt kc.ga) I.kIn p e (λ z=>nomatch z) λ tk=>⟨.bl b,H,I.tok tk,rfl,q⟩
end
structure aJZ(k:Nat)(A:zAc):Prop where
 dp:A.depth+3*k+5<zFv
 un:A.units+16*k+200<cLine
structure FnH(P:zAZ)(w:World)(K:zAA)(mg:Str->Option Value)(base:Heap)(k:Nat)(f:Addr)(fd:zA9)(ps:List Str)(sp:Sp):Prop where
 len:∀vs H Q E,sp vs H Q E->vs.length=ps.length
 run:∀(A:zAc) (outer:List Env) (s:zAE) (H:Hp) (args:Args) (us:List Value) (vs:List V) (Q:VK) (E:XK),aJZ k A->aE8 P w K mg base A outer s H->zEe s fd args (ps.zip us)->Vals vs us->sp vs H Q E->
  zDC (model P w) A (.call (.ref f) args) (CR CX0 outer P w H s Q E) s
mutual
def eqD:D->D->Bool
 | .non,.non=>true
 | .bl a,.bl b=>a==b
 | .bl a,.int b=>(if a then 1 else 0)==b
 | .int a,.bl b=>a==(if b then 1 else 0)
 | .int a,.int b=>a==b
 | .str a,.str b=>a==b
 | .tup l,.tup m=>gh l m
 | .lst l,.lst m=>gh l m
 |_,_=>false
def gh:List D->List D->Bool
 |[],[]=>true
 |x::xs,y::ys=>eqD x y&&gh xs ys
 |_,_=>false
end
mutual
def gw:D->Nat
 | .tup l=>bW l+1
 | .lst l=>bW l+1
 |_=>0
def bW:List D->Nat
 |[]=>0
 |d::r=>max (gw d) (bW r)
end
mutual
def aQ:D->Bool
 | .tup l=>aV l
 | .lst l=>aV l
 | .dct=>false
 |_=>true
def aV:List D->Bool
 |[]=>true
 |d::r=>aQ d&&aV r
end
mutual
theorem ig:∀d:D,aQ d=true->eqD d d=true
 | .non,_=>by simp[eqD]
 | .bl b,_=>by simp[eqD]
 | .int i,_=>by simp[eqD]
 | .str x,_=>by simp[eqD]
 | .tup l,h=>by simp only[eqD];exact fY l (by simpa[aQ]using h)
 | .lst l,h=>by simp only[eqD];exact fY l (by simpa[aQ]using h)
 | .dct,h=>by simp[aQ]at h
theorem fY:∀l:List D,aV l=true->gh l l=true
 |[],_=>by simp[gh]
 |d::r,h=>by
  simp only[aV,zAN]at h;simp only[gh,zAN];exact⟨ig d h.1,fY r h.2⟩
end
mutual
theorem Rep.inj{H:Hp}:∀{x:V} {d e:D},Rep H x d->Rep H x e->d=e
 |_,_,_,.non,h=>by cases h;rfl
 |_,_,_,.bl b,h=>by cases h;rfl
 |_,_,_,.int i,h=>by cases h;rfl
 |_,_,_,.str x,h=>by cases h;rfl
 |_,_,_,.tup ha r,h=>by
  cases h with
  |tup hb r'=>rw[ha]at hb;cases hb;rw[jB.inj r r']
  |lst hb _=>rw[ha]at hb;cases hb
  |dct hb=>rw[ha]at hb;cases hb
 |_,_,_,.lst ha r,h=>by
  cases h with
  |tup hb _=>rw[ha]at hb;cases hb
  |lst hb r'=>rw[ha]at hb;cases hb;rw[jB.inj r r']
  |dct hb=>rw[ha]at hb;cases hb
 |_,_,_,.dct ha,h=>by
  cases h with
  |tup hb _=>rw[ha]at hb;cases hb
  |lst hb _=>rw[ha]at hb;cases hb
  |dct hb=>rfl
theorem jB.inj{H:Hp}:∀{xs:List V} {ds es:List D},jB H xs ds->jB H xs es->ds=es
 |_,_,_,.nil,h=>by cases h;rfl
 |_,_,_,.cons h r,h'=>by
  cases h' with
  |cons k r'=>rw[Rep.inj h k,jB.inj r r']
end
theorem lr:∀(l m:List D),gh l m=((zBB (min l.length m.length)).all (λ j=>match l[j]?,m[j]? with|some a,some b=>eqD a b|_,_=>true)&&l.length==m.length)
 |[],[]=>by simp[gh]
 |[],y::ys=>by simp[gh]
 |x::xs,[]=>by simp[gh]
 |x::xs,y::ys=>by
  have ih:=lr xs ys;simp only[gh,ih,zA2,zG7,zF4,zED,zFg,zC0,zDp,zCZ,zGH,zGn,zDg];congr 1;congr 1;simp
theorem j0:∀{l:List D} {d:D},d∈l->gw d<=bW l
 |x::r,d,h=>by
  simp only[bW];rcases zAT.mp h with rfl|h
  .exact zD9 _ _
  .exact zAe (j0 h) (zDQ _ _)
theorem eG:∀{l:List D} {d:D},d∈l->aV l=true->aQ d=true
 |x::r,d,h,n=>by
  simp only[aV,zAN]at n;rcases zAT.mp h with rfl|h
  .exact n.1
  .exact eG h n.2
def cU{ds es:List D}{n m:Nat}(hn:n=ds.length)(hm:m=es.length):((zBB (min n m)).all (λ j=>match ds[j]?,es[j]? with|some a,some b=>eqD a b|_,_=>true)&&n==m)=gh ds es:=by
 subst hn hm;exact(lr ds es).symm
def nP{P:zAZ}{w:World}{H:Hp}{h:Heap}(hok:HOk P w H h){a:Addr}{xs:List V}(e:H a=some (.tup xs)):∃its:List Value,Vals xs its/\h.IsTuple a its.toArray:=by
 obtain⟨_,its,r,p⟩:=hok a _ e;exact⟨its,r,p⟩
def lO{P:zAZ}{w:World}{H:Hp}{h:Heap}(hok:HOk P w H h){a:Addr}{xs:List V}(e:H a=some (.lst xs)):∃its:List Value,Vals xs its/\h.IsList a its.toArray:=by
 obtain⟨_,its,n,r,p⟩:=hok a _ e;exact⟨its,r,_,p,rfl,n,rfl⟩
section
variable{P:zAZ}{w:World}{H:Hp}{s:zAE}
mutual
theorem xg(hok:HOk P w H s.heap):∀{x y:V} {d e:D} (n:Nat) {A:zAc} {u v:Value},Rep H x d->Rep H y e->RelV x u->RelV y v->gw d<=n->aQ d=true->aQ e=true->A.units+n<cLine->zBg A s u v (eqD d e)
 |_,_,_,_,n,A,u,v,r1,r2,ru,rv,hd,nd,ne,hu=>by
  have hu0:A.units<cLine:=by omega
  cases r1 with
  |tup h1 q1=>
   rename_i a xs ds;cases ru;obtain⟨its,w1,t1⟩:=nP hok h1;cases r2 with
   |tup h2 q2=>
    rename_i b ys es;cases rv;obtain⟨its2,w2,t2⟩:=nP hok h2;by_cases hab:a=b
    .subst hab
     have e:=Rep.inj (Rep.tup h1 q1) (Rep.tup h2 q2);rw[<-e,ig _ nd];exact zCP _
    .simp only[gw]at hd
     obtain⟨k,rfl⟩:∃k,n=k+1:=⟨n-1,by omega⟩
     have z:=zDe t1 t2 hu0 (zV hok k q1 q2 w1 w2 (by omega) (by simpa[aQ]using nd) (by simpa[aQ]using ne) (by show A.units+1+k<cLine;omega));rw[cU (by rw[zAH,<-w1.length,q1.length]) (by rw[zAH,<-w2.length,q2.length])]at z;simp only[eqD];exact zBo hab z
   |lst h2 q2=>
    cases rv;obtain⟨its2,w2,t2⟩:=lO hok h2;simp only[eqD];exact zEc t1 t2 hu0
   |dct h2=>simp[aQ]at ne
   |non=>cases rv;simp only[eqD];exact zEd t1 hu0
   |bl b=>cases rv;simp only[eqD];exact zEb b t1 hu0
   |int i=>obtain⟨tk,rfl⟩:=rv;simp only[eqD];exact zEu i tk t1 hu0
   |str i=>obtain⟨tk,rfl⟩:=rv;simp only[eqD];exact zEv i tk t1 hu0
  |lst h1 q1=>
   rename_i a xs ds;cases ru;obtain⟨its,w1,t1⟩:=lO hok h1;cases r2 with
   |lst h2 q2=>
    rename_i b ys es;cases rv;obtain⟨its2,w2,t2⟩:=lO hok h2;by_cases hab:a=b
    .subst hab
     have e:=Rep.inj (Rep.lst h1 q1) (Rep.lst h2 q2);rw[<-e,ig _ nd];exact zCP _
    .simp only[gw]at hd
     obtain⟨k,rfl⟩:∃k,n=k+1:=⟨n-1,by omega⟩
     have l1:its.toArray.size=ds.length:=by rw[zAH,<-w1.length,q1.length]
     have l2:its2.toArray.size=es.length:=by rw[zAH,<-w2.length,q2.length]
     by_cases hl:its.toArray.size=its2.toArray.size
     .have z:=zDu t1 t2 hl hu0 (zV hok k q1 q2 w1 w2 (by omega) (by simpa[aQ]using nd) (by simpa[aQ]using ne) (by show A.units+1+k<cLine;omega))
      have z':=cU (ds:=ds) (es:=es) l1 l2;rw[<-hl,zDa,beq_self_eq_true,zCl]at z';rw[z']at z;simp only[eqD];exact zBo hab z
     .have z:=zCr t1 t2 (by simpa using hl) hu0
      have z':=cU (ds:=ds) (es:=es) l1 l2;rw[beq_eq_false_iff_ne.mpr hl,zCO]at z';simp only[eqD];rw[<-z'];exact zBo hab z
   |tup h2 q2=>
    cases rv;obtain⟨its2,w2,t2⟩:=nP hok h2;simp only[eqD];exact zE9 t1 t2 hu0
   |dct h2=>simp[aQ]at ne
   |non=>cases rv;simp only[eqD];exact zEq t1 hu0
   |bl b=>cases rv;simp only[eqD];exact zEp b t1 hu0
   |int i=>obtain⟨tk,rfl⟩:=rv;simp only[eqD];exact zFH i tk t1 hu0
   |str i=>obtain⟨tk,rfl⟩:=rv;simp only[eqD];exact zFI i tk t1 hu0
  |dct h1=>simp[aQ]at nd
  |non=>
   cases ru;cases r2 with
   |tup h2 q2=>cases rv;obtain⟨_,_,t2⟩:=nP hok h2;simp only[eqD];exact zEa t2 hu0
   |lst h2 q2=>cases rv;obtain⟨_,_,t2⟩:=lO hok h2;simp only[eqD];exact zEs t2 hu0
   |dct h2=>simp[aQ]at ne
   |non=>cases rv;simp only[eqD];exact zCP _
   |bl b=>cases rv;simp only[eqD];exact zEr b
   |int i=>obtain⟨tk,rfl⟩:=rv;simp only[eqD];exact zFJ i tk
   |str i=>obtain⟨tk,rfl⟩:=rv;simp only[eqD];exact zFK i tk
  |bl a=>
   cases ru;cases r2 with
   |tup h2 q2=>cases rv;obtain⟨_,_,t2⟩:=nP hok h2;simp only[eqD];exact zE8 a t2 hu0
   |lst h2 q2=>cases rv;obtain⟨_,_,t2⟩:=lO hok h2;simp only[eqD];exact zEm a t2 hu0
   |dct h2=>simp[aQ]at ne
   |non=>cases rv;simp only[eqD];exact zEn a
   |bl b=>cases rv;simp only[eqD];exact zEl a b
   |int i=>obtain⟨tk,rfl⟩:=rv;simp only[eqD];exact zFC a i tk
   |str i=>obtain⟨tk,rfl⟩:=rv;simp only[eqD];exact zFD a i tk
  |int a=>
   obtain⟨tu,rfl⟩:=ru;cases r2 with
   |tup h2 q2=>cases rv;obtain⟨_,_,t2⟩:=nP hok h2;simp only[eqD];exact zEo a tu t2 hu0
   |lst h2 q2=>cases rv;obtain⟨_,_,t2⟩:=lO hok h2;simp only[eqD];exact zFF a tu t2 hu0
   |dct h2=>simp[aQ]at ne
   |non=>cases rv;simp only[eqD];exact zFG a tu
   |bl b=>cases rv;simp only[eqD];exact zFE a tu b
   |int i=>obtain⟨tk,rfl⟩:=rv;simp only[eqD];exact zD3 a tu i tk
   |str i=>obtain⟨tk,rfl⟩:=rv;simp only[eqD];exact zD4 a tu i tk
  |str a=>
   obtain⟨tu,rfl⟩:=ru;cases r2 with
   |tup h2 q2=>cases rv;obtain⟨_,_,t2⟩:=nP hok h2;simp only[eqD];exact zEt a tu t2 hu0
   |lst h2 q2=>cases rv;obtain⟨_,_,t2⟩:=lO hok h2;simp only[eqD];exact zFM a tu t2 hu0
   |dct h2=>simp[aQ]at ne
   |non=>cases rv;simp only[eqD];exact zFN a tu
   |bl b=>cases rv;simp only[eqD];exact zFL a tu b
   |int i=>obtain⟨tk,rfl⟩:=rv;simp only[eqD];exact zD5 a tu i tk
   |str i=>obtain⟨tk,rfl⟩:=rv;simp only[eqD];exact zFT a tu i tk
 termination_by _ _ _ _ n=>(n,0)
theorem zV(hok:HOk P w H s.heap):∀{xs ys:List V} {ds es:List D} (n:Nat) {A:zAc} {us vs:List Value},jB H xs ds->jB H ys es->Vals xs us->Vals ys vs->bW ds<=n->aV ds=true->aV es=true->A.units+n<cLine->
  ∀(j:Nat) (h1:j<us.toArray.size) (h2:j<vs.toArray.size),zBg A s us.toArray[j] vs.toArray[j] (match ds[j]?,es[j]? with|some a,some b=>eqD a b|_,_=>true)
 |xs,ys,ds,es,n,A,us,vs,q1,q2,w1,w2,hd,nd,ne,hu,j,h1,h2=>by
  have hj1:j<us.length:=by simpa using h1
  have hj2:j<vs.length:=by simpa using h2
  have hx:j<xs.length:=by rw[w1.length];exact hj1
  have hy:j<ys.length:=by rw[w2.length];exact hj2
  have ex:=zAC hx;have ey:=zAC hy;obtain⟨d,ed,rd⟩:=q1.get ex;obtain⟨e,ee,re⟩:=q2.get ey;obtain⟨u,eu,ru⟩:=w1.get ex;obtain⟨v,ev,rv⟩:=w2.get ey;have e1:us.toArray[j]=u:=by
   rw[zCf];exact zAl ((zAC hj1).symm.trans eu)
  have e2:vs.toArray[j]=v:=by
   rw[zCf];exact zAl ((zAC hj2).symm.trans ev)
  rw[e1,e2,ed,ee];exact xg hok n rd re ru rv (zAe (j0 (zAa ed)) hd) (eG (zAa ed) nd) (eG (zAa ee) ne) hu
 termination_by _ _ _ _ n=>(n,1)
end
end
section
def inD(d:D)(es:List D):Bool:=es.any λ e=>eqD e d
end
section
variable{P:zAZ}{w:World}{H:Hp}{s:zAE}
open Classical in
def iz(H:Hp)(d:D)(u:Value):Bool:=if h:∃e,∃y,RelV y u/\Rep H y e then eqD (choose h) d else false
def pN{d e:D}{y:V}{u:Value}(r:RelV y u)(h:Rep H y e):iz H d u=eqD e d:=by
 have hx:∃e,∃y,RelV y u/\Rep H y e:=⟨e,y,r,h⟩
 unfold iz;rw[dif_pos hx];obtain⟨y',r',h'⟩:=zEf hx;have e1:=RelV.inj r r';subst e1;rw[Rep.inj h' h]
theorem ju(hok:HOk P w H s.heap){d:D}{x:V}{v:Value}(rx:Rep H x d)(rv:RelV x v){n:Nat}{A:zAc}(hu:A.units+n<cLine)(nd:aQ d=true):∀{xs:List V} {es:List D} {us:List Value},jB H xs es->Vals xs us->bW es<=n->aV es=true->∀u∈us,zBg A s u v (iz H d u)
 |_,_,_,.nil,.nil,_,_,u,hm=>by cases hm
 |_,_,_,.cons h r,.cons k t,hd,ne,u,hm=>by
  simp only[bW]at hd;simp only[aV,zAN]at ne;rcases zAT.mp hm with z|z
  .subst z
   rw[pN k h];exact xg hok n h rx k rv (zAe (zD9 _ _) hd) ne.1 nd hu
  .exact ju hok rx rv hu nd r t (zAe (zDQ _ _) hd) ne.2 u z
end
section
variable{H:Hp}{d:D}
theorem rG:∀{xs:List V} {es:List D} {us:List Value},jB H xs es->Vals xs us->us.countP (iz H d)=es.countP (λ e=>eqD e d)
 |_,_,_,.nil,.nil=>rfl
 |_,_,_,.cons h r,.cons k t=>by rw[zCb,zCb,pN k h,rG r t]
end
section
variable{X:Cx}
def aBZ:V->List V->Hp->VK->Prop:=λ x xs H Q=>∃a y d es,x= .ref a/\xs=[y]/\Rep H (.ref a) (.lst es)/\Rep H y d/\bW es<=60/\aQ d=true/\aV es=true/\Q (.int (es.countP (λ e=>eqD e d):Nat)) H
def aCK(hu:X.A.units+64<cLine):MtR X "list.count" aBZ:=by
 intro hV s σ H x xs v us Q I rx rxs h;obtain⟨a,y,d,es,rfl,rfl,ra,rd,hd,nd,ne,q⟩:=h;cases rx;obtain⟨u,rfl,ru⟩:=Vals.one rxs;have hu1:X.A.in1.units+60<cLine:=by show X.A.units+1+60<cLine;omega
 cases ra with
 |lst ha r=>
  obtain⟨its,rv,tl⟩:=lO I.hok ha;obtain⟨⟨cls,dd,data,sl⟩,ho,hc,n,hdd⟩:=id tl;simp only at hc hdd;subst hc hdd;refine zBr zEk ⟨_,ho,rfl⟩ PySem.F.entry_list_count (PySem.F.args_list_count_2 _ _) (SeqAt.list_countAt a its.toArray n dd sl u (iz H d))
   ⟨ho,λ w hw=>ju I.hok rd ru hu1 nd r rv hd ne w (by simpa using hw),?_⟩
  rw[show its.toArray.toList=its from rfl,rG r rv];exact⟨.int _,H,I.tok _,⟨_,rfl⟩,q⟩
end
def aJc(K:zAA)(c:V):TE:=tCB (aGe K) (gj (oY 0) (gj (tC c) kJ))
section
variable{X:Cx}{n0 n1 n2 odd:Str}{c1 c2:V}{k1 k2 k3 k4:List V}{l1 l2:List Str}{a1 a2:Expr}{as1 as2 e1 e2 e3 e4 w1 w2:List Expr}{kw1 kw2:List zBe}{Q:VK}{H:Hp}{vs:List V}
 {p1 p2 p3 p4 p5 p6 p7 p8 p9 p10 p11 p12 p13 p14 p15 p16 p17 p18 p19 p20 p21 p22 p23 p24 p25 p26 p27 p28 p29 p30 p31 p32 p33 p34 p35 p36 p37 p38 p39 p40:Pos}{q1 q2 q3 q4 q5 q6 q7:Pos}{j1 j2 j3 j4 j5:Nat}{E0:XK}{wd:Addr->Option Str}
end
end L2
namespace VL
open PySem PySem.Spec PyProof.Rows L2
inductive D where
 |non|bl (b:Bool)|int (i:Int)|str (x:Str)|tup (l:List D)|lst (l:List D)|dct (ks vs:List D)|set (l:List Int)|scr (l:List Int)|fn (x:Str)
instance:Inhabited D:=⟨.non⟩
def kD:Key->D
 | .inl i=>.int i
 | .inr x=>.str x
variable{K:zAA}
def mJ(K:zAA)(H:Hp)(a:Addr)(ns:List Int):Prop:=(∃o,H a=some (.frz o (.lst (ns.map V.int))))\/
 ∃(o:Obj) (its:Array Value) (n:Nat),K.lookup a=some o/\o.cls= .type "list"/\o.dict=none/\o.data= .seq its n/\its.size<=zAQ/\Vals (ns.map V.int) its.toList
def mJ.sq(h:mJ K H a ns):SqL K H a (ns.map V.int):=by
 rcases h with h|h
 .exact .inl (.inr h)
 .exact .inr h
def hsh(ns:List Int):Int:=reduceHash (zHF (ns.map hashInt))
def dxO(a:Addr)(es:List (List Int×Addr×V)):HO:=.ext λ h=>es.length<=zAQ/\(a==zGC)=false/\∃(xs:List (List Int×Addr×Value)) (o:Obj) (ts:Array DictEntry) (ep:Nat),zGz (λ e x=>e.1=x.1/\e.2.1=x.2.1/\RelV e.2.2 x.2.2) es xs/\
 h.get? a=some o/\o.ExactDict/\o.data= .dict ts ep/\ts.toList=xs.map λ x=>⟨hsh x.1,.ref x.2.1,x.2.2⟩
structure DxK(K:zAA)(H:Hp)(a:Addr)(es:List (List Int×Addr×V)):Prop where
 at_:H a=some (dxO a es)
 ks:∀e∈es,SqT K H e.2.1 (e.1.map V.int)
 nd:(es.map (·.1)).Nodup
mutual
inductive Rp(K:zAA):(Addr->Prop)->Hp->V->D->Prop where
 |non {A:Addr->Prop} {H:Hp}:Rp K A H .non .non
 |bl {A:Addr->Prop} {H:Hp} (b:Bool):Rp K A H (.bl b) (.bl b)
 |int {A:Addr->Prop} {H:Hp} (i:Int):Rp K A H (.int i) (.int i)
 |str {A:Addr->Prop} {H:Hp} (x:Str):Rp K A H (.str x) (.str x)
 |tup {A:Addr->Prop} {H:Hp} {a:Addr} {xs:List V} {ds:List D} (h:SqT K H a xs) (r:Rps K A H xs ds):Rp K A H (.ref a) (.tup ds)
 |lst {A:Addr->Prop} {H:Hp} {a:Addr} {xs:List V} {ds:List D} (h:H a=some (.lst xs)) (m:A a) (r:Rps K (λ p=>A p/\p≠a) H xs ds):Rp K A H (.ref a) (.lst ds)
 |dK {A:Addr->Prop} {H:Hp} {a:Addr} {kvs:List (Key×V)} {ds:List D} (h:H a=some (.dK kvs)) (m:A a) (r:Rps K (λ p=>A p/\p≠a) H (kvs.map (·.2)) ds):Rp K A H (.ref a) (.dct (kvs.map λ p=>kD p.1) ds)
 |dT {A:Addr->Prop} {H:Hp} {a:Addr} {es:List (List Int×Addr×V)} {ds:List D} (h:DxK K H a es) (m:A a) (r:Rps K (λ p=>A p/\p≠a) H (es.map (·.2.2)) ds):Rp K A H (.ref a) (.dct (.non::es.map λ e=>.tup (e.1.map .int)) ds)
 |set {A:Addr->Prop} {H:Hp} {a:Addr} {S:Int->Bool} {l:List Int} (h:H a=some (.set S l.length)) (m:A a) (hS:∀i,S i=decide (i∈l)) (nd:l.Nodup):Rp K A H (.ref a) (.set l)
 |scr {A:Addr->Prop} {H:Hp} {a:Addr} {ns:List Int} (h:mJ K H a ns):Rp K A H (.ref a) (.scr ns)
 |fn {A:Addr->Prop} {H:Hp} {a:Addr} {x:Str} (h:zAm K zA8 x=some (some (.ref a))):Rp K A H (.ref a) (.fn x)
inductive Rps(K:zAA):(Addr->Prop)->Hp->List V->List D->Prop where
 |nil {A:Addr->Prop} {H:Hp}:Rps K A H [] []
 |cons {A:Addr->Prop} {H:Hp} {x:V} {d:D} {xs:List V} {ds:List D} (h:Rp K A H x d) (r:Rps K A H xs ds):Rps K A H (x::xs) (d::ds)
end
def mJ.mono(s:aU H H')(h:mJ K H a ns):mJ K H' a ns:=by
 rcases h with ⟨o,h⟩|h
 .exact .inl ⟨o,s _ _ h⟩
 .exact .inr h
def DxK.mono(h:DxK K H a es)(s:aU H H'):DxK K H' a es:=⟨s _ _ h.at_,λ e he=>s.sqt (h.ks e he),h.nd⟩
def Rp.mono'(s:aU H H')(r:Rp K A H x d)(hA:∀p o,H p=some o->A p->A' p):Rp K A' H' x d:=
 Rp.rec (motive_1:=λ A H x d _=>∀H',aU H H'->∀A':Addr->Prop,(∀p o,H p=some o->A p->A' p)->Rp K A' H' x d) (motive_2:=λ A H xs ds _=>∀H',aU H H'->∀A':Addr->Prop,(∀p o,H p=some o->A p->A' p)->Rps K A' H' xs ds)
  (λ _ _ _ _=>.non) (λ b _ _ _ _=>.bl b) (λ i _ _ _ _=>.int i) (λ x _ _ _ _=>.str x) (λ h _ ih _ s _ hA=>.tup (s.sqt h) (ih _ s _ hA))
  (λ h m _ ih _ s _ hA=>.lst (s _ _ h) (hA _ _ h m) (ih _ s _ λ p o e z=>⟨hA p o e z.1,z.2⟩)) (λ h m _ ih _ s _ hA=>.dK (s _ _ h) (hA _ _ h m) (ih _ s _ λ p o e z=>⟨hA p o e z.1,z.2⟩))
  (λ h m _ ih _ s _ hA=>.dT (h.mono s) (hA _ _ h.at_ m) (ih _ s _ λ p o e z=>⟨hA p o e z.1,z.2⟩)) (λ h m hS nd _ s _ hA=>.set (s _ _ h) (hA _ _ h m) hS nd) (λ h _ s _ _=>.scr (h.mono s)) (λ h _ _ _ _=>.fn h) (λ _ _ _ _=>.nil) (λ _ _ ih ir _ s _ hA=>.cons (ih _ s _ hA) (ir _ s _ hA)) r H' s A' hA
def Rps.mono'(s:aU H H')(r:Rps K A H xs ds)(hA:∀p o,H p=some o->A p->A' p):Rps K A' H' xs ds:=
 Rps.rec (motive_1:=λ A H x d _=>∀H',aU H H'->∀A':Addr->Prop,(∀p o,H p=some o->A p->A' p)->Rp K A' H' x d) (motive_2:=λ A H xs ds _=>∀H',aU H H'->∀A':Addr->Prop,(∀p o,H p=some o->A p->A' p)->Rps K A' H' xs ds)
  (λ _ _ _ _=>.non) (λ b _ _ _ _=>.bl b) (λ i _ _ _ _=>.int i) (λ x _ _ _ _=>.str x) (λ h _ ih _ s _ hA=>.tup (s.sqt h) (ih _ s _ hA))
  (λ h m _ ih _ s _ hA=>.lst (s _ _ h) (hA _ _ h m) (ih _ s _ λ p o e z=>⟨hA p o e z.1,z.2⟩)) (λ h m _ ih _ s _ hA=>.dK (s _ _ h) (hA _ _ h m) (ih _ s _ λ p o e z=>⟨hA p o e z.1,z.2⟩))
  (λ h m _ ih _ s _ hA=>.dT (h.mono s) (hA _ _ h.at_ m) (ih _ s _ λ p o e z=>⟨hA p o e z.1,z.2⟩)) (λ h m hS nd _ s _ hA=>.set (s _ _ h) (hA _ _ h m) hS nd) (λ h _ s _ _=>.scr (h.mono s)) (λ h _ _ _ _=>.fn h) (λ _ _ _ _=>.nil) (λ _ _ ih ir _ s _ hA=>.cons (ih _ s _ hA) (ir _ s _ hA)) r H' s A' hA
def Rp.mono(s:aU H H')(hA:∀p o,H p=some o->A p->A' p)(r:Rp K A H x d):Rp K A' H' x d:=r.mono' s hA
def Rps.mono(s:aU H H')(hA:∀p o,H p=some o->A p->A' p)(r:Rps K A H x d):Rps K A' H' x d:=r.mono' s hA
def Rp.up(s:aU H H')(r:Rp K A H x d):Rp K A H' x d:=r.mono s λ _ _ _ h=>h
def Rp.wk(hA:∀p o,H p=some o->A p->A' p)(r:Rp K A H x d):Rp K A' H x d:=r.mono (aU.refl H) hA
def Rps.up(s:aU H H')(r:Rps K A H x d):Rps K A H' x d:=r.mono s λ _ _ _ h=>h
def Rps.wk(hA:∀p o,H p=some o->A p->A' p)(r:Rps K A H x d):Rps K A' H x d:=r.mono (aU.refl H) hA
def jF:HO->Bool
 | .lst _=>true| .dK _=>true| .dT _=>true| .set _ _=>true| .ext _=>true|_=>false
def wN(s:jd l H H')(hl:H l=some o)(ho:jF o=true)(h:SqT K H a xs):SqT K H' a xs:=by
 rcases h with (h|⟨u,h⟩)|h
 .refine .inl (.inl (s _ _ (λ e=>?_) h))
  subst e;rw[hl]at h;cases h;cases ho
 .refine .inl (.inr ⟨u,s _ _ (λ e=>?_) h⟩)
  subst e;rw[hl]at h;cases h;cases ho
 .exact .inr h
def aBT(s:jd l H H')(hl:H l=some o)(ho:jF o=true)(h:mJ K H a ns):mJ K H' a ns:=by
 rcases h with ⟨u,h⟩|h
 .exact .inl ⟨u,s _ _ (λ e=>by subst e;rw[hl]at h;cases h;cases ho) h⟩
 .exact .inr h
def DxK.but(h:DxK K H a es)(s:jd l H H')(hl:H l=some o)(ho:jF o=true)(ne:a≠l):DxK K H' a es:=
 ⟨s _ _ ne h.at_,λ e he=>wN s hl ho (h.ks e he),h.nd⟩
def Rp.but'(s:jd l H H')(hl:H l=some o)(ho:jF o=true)(r:Rp K A H x d)(hA:¬A l):Rp K A H' x d:=
 Rp.rec (motive_1:=λ A H x d _=>∀H',jd l H H'->∀o:HO,H l=some o->jF o=true->¬A l->Rp K A H' x d) (motive_2:=λ A H xs ds _=>∀H',jd l H H'->∀o:HO,H l=some o->jF o=true->¬A l->Rps K A H' xs ds)
  (λ _ _ _ _ _ _=>.non) (λ b _ _ _ _ _ _=>.bl b) (λ i _ _ _ _ _ _=>.int i) (λ x _ _ _ _ _ _=>.str x) (λ h _ ih _ s o hl ho hA=>.tup (wN s hl ho h) (ih _ s o hl ho hA))
  (λ h m _ ih _ s o hl ho hA=>.lst (s _ _ (λ e=>hA (e▸m)) h) m (ih _ s o hl ho λ z=>hA z.1)) (λ h m _ ih _ s o hl ho hA=>.dK (s _ _ (λ e=>hA (e▸m)) h) m (ih _ s o hl ho λ z=>hA z.1))
  (λ h m _ ih _ s o hl ho hA=>.dT (h.but s hl ho λ e=>hA (e▸m)) m (ih _ s o hl ho λ z=>hA z.1)) (λ h m hS nd _ s o hl ho hA=>.set (s _ _ (λ e=>hA (e▸m)) h) m hS nd) (λ h _ s o hl ho _=>.scr (aBT s hl ho h)) (λ h _ _ _ _ _ _=>.fn h) (λ _ _ _ _ _ _=>.nil) (λ _ _ ih ir _ s o hl ho hA=>.cons (ih _ s o hl ho hA) (ir _ s o hl ho hA)) r H' s o hl ho hA
def Rps.but'(s:jd l H H')(hl:H l=some o)(ho:jF o=true)(r:Rps K A H xs ds)(hA:¬A l):Rps K A H' xs ds:=
 Rps.rec (motive_1:=λ A H x d _=>∀H',jd l H H'->∀o:HO,H l=some o->jF o=true->¬A l->Rp K A H' x d) (motive_2:=λ A H xs ds _=>∀H',jd l H H'->∀o:HO,H l=some o->jF o=true->¬A l->Rps K A H' xs ds)
  (λ _ _ _ _ _ _=>.non) (λ b _ _ _ _ _ _=>.bl b) (λ i _ _ _ _ _ _=>.int i) (λ x _ _ _ _ _ _=>.str x) (λ h _ ih _ s o hl ho hA=>.tup (wN s hl ho h) (ih _ s o hl ho hA))
  (λ h m _ ih _ s o hl ho hA=>.lst (s _ _ (λ e=>hA (e▸m)) h) m (ih _ s o hl ho λ z=>hA z.1)) (λ h m _ ih _ s o hl ho hA=>.dK (s _ _ (λ e=>hA (e▸m)) h) m (ih _ s o hl ho λ z=>hA z.1))
  (λ h m _ ih _ s o hl ho hA=>.dT (h.but s hl ho λ e=>hA (e▸m)) m (ih _ s o hl ho λ z=>hA z.1)) (λ h m hS nd _ s o hl ho hA=>.set (s _ _ (λ e=>hA (e▸m)) h) m hS nd) (λ h _ s o hl ho _=>.scr (aBT s hl ho h)) (λ h _ _ _ _ _ _=>.fn h) (λ _ _ _ _ _ _=>.nil) (λ _ _ ih ir _ s o hl ho hA=>.cons (ih _ s o hl ho hA) (ir _ s o hl ho hA)) r H' s o hl ho hA
def Rp.but(s:jd l H H')(hl:H l=some o)(ho:jF o=true)(hA:¬A l)(r:Rp K A H x d):Rp K A H' x d:=r.but' s hl ho hA
def Rps.but(s:jd l H H')(hl:H l=some o)(ho:jF o=true)(hA:¬A l)(r:Rps K A H x d):Rps K A H' x d:=r.but' s hl ho hA
mutual
def imm:D->Bool
 | .tup l=>dU l
 | .lst _=>false
 | .dct _ _=>false
 | .set _=>false
 |_=>true
def dU:List D->Bool
 |[]=>true
 |d::r=>imm d&&dU r
end
def mW(e:dU (d::r)=true):imm d=true/\dU r=true:=by
 simp only[dU,zAN]at e;exact e
def aBf(e:imm (.tup l)=true):dU l=true:=by simpa[imm]using e
def aBi(e:imm (.lst l)=true):False:=by simp[imm]at e
def sX(e:imm (.dct l k)=true):False:=by simp[imm]at e
def aBg(e:imm (.set l)=true):False:=by simp[imm]at e
def Rp.imm'(r:Rp K A H x d)(e:VL.imm d=true):Rp K A' H x d:=
 Rp.rec (motive_1:=λ _ H x d _=>VL.imm d=true->Rp K A' H x d) (motive_2:=λ _ H xs ds _=>dU ds=true->Rps K A' H xs ds)
  (λ _=>.non) (λ b _=>.bl b) (λ i _=>.int i) (λ x _=>.str x) (λ h _ ih e=>.tup h (ih (aBf e)))
  (λ _ _ _ _ e=>(aBi e).elim) (λ _ _ _ _ e=>(sX e).elim) (λ _ _ _ _ e=>(sX e).elim) (λ _ _ _ _ e=>(aBg e).elim) (λ h _=>.scr h) (λ h _=>.fn h) (λ _=>.nil) (λ _ _ ih ir e=>.cons (ih (mW e).1) (ir (mW e).2)) r e
def Rps.imm'(r:Rps K A H xs ds)(e:dU ds=true):Rps K A' H xs ds:=
 Rps.rec (motive_1:=λ _ H x d _=>VL.imm d=true->Rp K A' H x d) (motive_2:=λ _ H xs ds _=>dU ds=true->Rps K A' H xs ds)
  (λ _=>.non) (λ b _=>.bl b) (λ i _=>.int i) (λ x _=>.str x) (λ h _ ih e=>.tup h (ih (aBf e)))
  (λ _ _ _ _ e=>(aBi e).elim) (λ _ _ _ _ e=>(sX e).elim) (λ _ _ _ _ e=>(sX e).elim) (λ _ _ _ _ e=>(aBg e).elim) (λ h _=>.scr h) (λ h _=>.fn h) (λ _=>.nil) (λ _ _ ih ir e=>.cons (ih (mW e).1) (ir (mW e).2)) r e
theorem Rp.imm(r:Rp K A H x d)(h:VL.imm d=true):Rp K A' H x d:=r.imm' h
def Rps.imm(r:Rps K A H x d)(h:dU d=true):Rps K A' H x d:=r.imm' h
def Rp.int_inv(r:Rp K A H v (.int i)):v= .int i:=by cases r;rfl
def Rp.tup_inv(r:Rp K A H v (.tup ds)):∃a xs,v= .ref a/\SqT K H a xs/\Rps K A H xs ds:=by cases r with|tup h r=>exact⟨_,_,rfl,h,r⟩
def Rp.lst_inv(r:Rp K A H v (.lst ds)):∃a xs,v= .ref a/\H a=some (.lst xs)/\A a/\Rps K (λ p=>A p/\p≠a) H xs ds:=by cases r with|lst h m r=>exact⟨_,_,rfl,h,m,r⟩
def Rp.scr_inv(r:Rp K A H v (.scr ns)):∃a,v= .ref a/\mJ K H a ns:=by cases r with|scr h=>exact⟨_,rfl,h⟩
def Rps.one_inv(r:Rps K A H vs [d]):∃v,vs=[v]/\Rp K A H v d:=by cases r with|cons h r=>cases r;exact⟨_,rfl,h⟩
section
variable{A:Addr->Prop}{H:Hp}
theorem Rps.length:∀{xs:List V} {ds:List D},Rps K A H xs ds->xs.length=ds.length:=by
 intro xs ds h;induction xs generalizing ds with
 |nil=>cases h;rfl
 |cons x xs ih=>cases h with|cons _ r=>exact congrArg (·+1) (ih r)
theorem Rps.get:∀{xs:List V} {ds:List D} {i:Nat} {x:V},Rps K A H xs ds->xs[i]? =some x->∃d,ds[i]? =some d/\Rp K A H x d
 |_,_,_,_,.nil,e=>by simp at e
 |_,_,0,_,.cons h _,e=>by simp at e;subst e;exact⟨_,rfl,h⟩
 |_,_,i+1,x,.cons _ r,e=>by
  obtain⟨d,h1,h2⟩:=Rps.get (i:=i) (x:=x) r (by simpa using e);exact⟨d,by simpa using h1,h2⟩
theorem Rps.getD:∀{xs:List V} {ds:List D} {i:Nat} {d:D},Rps K A H xs ds->ds[i]? =some d->∃x,xs[i]? =some x/\Rp K A H x d
 |_,_,_,_,.nil,e=>by simp at e
 |_,_,0,_,.cons h _,e=>by simp at e;subst e;exact⟨_,rfl,h⟩
 |_,_,i+1,d,.cons _ r,e=>by
  obtain⟨x,h1,h2⟩:=Rps.getD (i:=i) (d:=d) r (by simpa using e);exact⟨x,by simpa using h1,h2⟩
def Rps.append:∀{xs ys:List V} {ds es:List D},Rps K A H xs ds->Rps K A H ys es->Rps K A H (xs++ys) (ds++es):=by
 intro xs ys ds es h s;induction xs generalizing ds with
 |nil=>cases h;exact s
 |cons x xs ih=>cases h with|cons h r=>exact .cons h (ih r)
theorem Rps.take:∀{xs:List V} {ds:List D} (n:Nat),Rps K A H xs ds->Rps K A H (xs.take n) (ds.take n)
 |_,_,0,_=>.nil
 |_,_,_+1,.nil=>.nil
 |_,_,n+1,.cons h r=>.cons h (Rps.take n r)
theorem Rps.drop:∀{xs:List V} {ds:List D} (n:Nat),Rps K A H xs ds->Rps K A H (xs.drop n) (ds.drop n)
 |_,_,0,r=>r
 |_,_,_+1,.nil=>.nil
 |_,_,n+1,.cons _ r=>Rps.drop n r
theorem Rps.reverse:∀{xs:List V} {ds:List D},Rps K A H xs ds->Rps K A H xs.reverse ds.reverse:=by
 intro xs ds h;induction xs generalizing ds with
 |nil=>cases h;exact .nil
 |cons x xs ih=>
  cases h with
  |cons h r=>
   rw[zCH,zCH];exact Rps.append (ih r) (.cons h .nil)
theorem Rps.ints:∀{ns:List Int},Rps K A H (ns.map V.int) (ns.map D.int)
 |[]=>.nil
 |n::ns=>.cons (.int n) Rps.ints
theorem Rps.ints_of:∀{xs:List V} {ns:List Int},Rps K A H xs (ns.map D.int)->xs=ns.map V.int
 |_,[],.nil=>rfl
 |_,n::ns,.cons h r=>by
  cases h;rw[zAP,Rps.ints_of r]
end
def aN(h:a=b):a=b:=h
inductive Rs(α:Type) where
 |ok (a:α)|ex (c:Str)|st
noncomputable def Rs.bd{α β:Type}:Rs α->(α->Rs β)->Rs β
 | .ok a,f=>f a
 | .ex c,_=>.ex c
 | .st,_=>.st
@[simp] def cL(a:α)(f:α->Rs β):(Rs.ok a).bd f=f a:=aN rfl
def di{r:Rs α}(h:r.bd f= .ok b):∃a,r= .ok a/\f a= .ok b:=by
 cases r with
 |ok a=>exact⟨a,rfl,h⟩
 |ex c=>cases h
 |st=>cases h
abbrev cK:=List (List D)
inductive Slot where
 |no|sh (d:D)|nw (d:D)|ow (d:D)|oz (d:D)|o2 (l:cK)
abbrev En:=List Slot
abbrev Lab:=Addr->Nat×Nat
abbrev Mode:=Option (List Nat)
def inM(m:Mode)(n:Nat):Prop:=match m with
 |none=>True
 |some L=>n∈L
def jn:Mode->Mode->Mode
 |some a,some b=>some (a++b)
 |_,_=>none
def aJQ(h:inM a n):inM (jn a b) n:=by
 cases a with
 |none=>cases b<;>exact trivial
 |some L=>
  cases b with
  |none=>exact trivial
  |some M=>exact zAI _ h
def aJP(h:inM b n):inM (jn a b) n:=by
 cases a with
 |none=>cases b<;>exact trivial
 |some L=>
  cases b with
  |none=>exact trivial
  |some M=>exact zAY _ h
def fpM(m:Mode)(lab:Lab)(H:Hp):Addr->Prop:=λ p=>H p=none\/inM m (lab p).1
def aEO(h:fpM a lab H p):fpM (jn a b) lab H p:=h.imp id aJQ
def aEN(h:fpM b lab H p):fpM (jn a b) lab H p:=h.imp id aJP
def jZ(s:aU H H')(h:fpM m lab H' p):fpM m lab H p:=h.imp (λ z=>s.free z) id
structure Gx where
 H0:Hp
 E:XK
 cl:Str->Addr
def aCI:D->Bool
 | .lst _=>true
 | .dct _ _=>true
 | .set _=>true
 |_=>false
def gF(K:zAA)(H:Hp)(lab:Lab)(i:Nat)(v:V):Slot->Prop
 | .no=>True
 | .sh d=>Rp K (λ p=>(lab p).1<=1) H v d
 | .nw d=>Rp K (λ p=>(lab p).1=1) H v d
 | .ow d=>Rp K (λ p=>(lab p).1=1\/(lab p).1=i+2) H v d/\(aCI d=true->∃a,v= .ref a/\(lab a).1=i+2)
 | .oz d=>∃a xs ds,v= .ref a/\d= .lst ds/\H a=some (.lst xs)/\(lab a).1=i+2/\Rps K (λ p=>(lab p).1<=1) H xs ds
 | .o2 l=>∃a xs,v= .ref a/\H a=some (.lst xs)/\lab a=(i+2,0)/\xs.length=l.length/\∀(j:Nat) x ds,xs[j]? =some x->l[j]? =some ds->Rp K (λ p=>lab p=(i+2,j+1)) H x (.lst ds)
structure RR(K:zAA)(G:Gx)(U:List (V×D))(ρ:En)(σ:L2.St)(H:Hp)(lab:Lab):Prop where
 len:σ.length=ρ.length
 sl:∀(i:Nat) (s:Slot),ρ[i]? =some s->s= .no\/∃v,σ[i]? =some (some v)/\gF K H lab i v s
 old:aU G.H0 H
 new:∀p,(lab p).1≠0->G.H0 p=none
 tm:∀q∈U,Rp K (λ p=>(lab p).1<=1) H q.1 q.2
theorem gF.up(s:aU H H')(h:gF K H lab i v x):gF K H' lab i v x:=by
 cases x with
 |no=>exact trivial
 |sh d=>exact Rp.up s h
 |nw d=>exact Rp.up s h
 |ow d=>exact⟨Rp.up s h.1,h.2⟩
 |oz d=>
  obtain⟨a,xs,ds,e1,e2,e3,e4,e5⟩:=h;exact⟨a,xs,ds,e1,e2,s _ _ e3,e4,e5.up s⟩
 |o2 l=>
  obtain⟨a,xs,e1,e2,e3,e4,e5⟩:=h;exact⟨a,xs,e1,s _ _ e2,e3,e4,λ j x ds f1 f2=>(e5 j x ds f1 f2).up s⟩
def aDF(r:Rp K A H (.ref a) d)(hm:aCI d=true):∃o,H a=some o/\jF o=true/\A a:=by
 cases r with
 |lst h m _=>exact⟨_,h,rfl,m⟩
 |dK h m _=>exact⟨_,h,rfl,m⟩
 |dT h m _=>exact⟨_,h.at_,rfl,m⟩
 |set h m _ _=>exact⟨_,h,rfl,m⟩
 |tup _ _=>cases hm
 |scr _=>cases hm
 |fn _=>cases hm
def aHN(r:Rp K A H v d)(hm:aCI d=true):∃a,v= .ref a:=by
 cases r with
 |lst h m _=>exact⟨_,rfl⟩
 |dK h m _=>exact⟨_,rfl⟩
 |dT h m _=>exact⟨_,rfl⟩
 |set h m _ _=>exact⟨_,rfl⟩
 |_=>cases hm
theorem gF.lab{lab lab':Lab}(hl:∀p o,H p=some o->lab' p=lab p)(h:gF K H lab i v x):gF K H lab' i v x:=by
 cases x with
 |no=>exact trivial
 |sh d=>exact Rp.wk (λ p o e q=>(hl p o e).symm▸q) h
 |nw d=>exact Rp.wk (λ p o e q=>(hl p o e).symm▸q) h
 |ow d=>
  obtain⟨h,t⟩:=h;refine⟨Rp.wk (λ p o e q=>(hl p o e).symm▸q) h,λ m=>?_⟩;obtain⟨a,rfl,ea⟩:=t m;obtain⟨o,ho,_⟩:=aDF h m;exact⟨a,rfl,(congrArg (·.1) (hl a o ho)).trans ea⟩
 |oz d=>
  obtain⟨a,xs,ds,e1,e2,e3,e4,e5⟩:=h;exact⟨a,xs,ds,e1,e2,e3,(congrArg (·.1) (hl _ _ e3)).trans e4,Rps.wk (λ p o e q=>(hl p o e).symm▸q) e5⟩
 |o2 l=>
  obtain⟨a,xs,e1,e2,e3,e4,e5⟩:=h;exact⟨a,xs,e1,e2,(hl _ _ e2).trans e3,e4,λ j x ds f1 f2=>Rp.wk (λ p o e q=>(hl p o e).symm▸q) (e5 j x ds f1 f2)⟩
section
variable{G:Gx}{U:List (V×D)}{ρ:En}{σ:L2.St}{H H':Hp}{lab lab':Lab}
theorem RR.up(R:RR K G U ρ σ H lab)(s:aU H H'):RR K G U ρ σ H' lab:=
 ⟨R.len,λ i x e=>(R.sl i x e).imp id λ⟨v,e1,e2⟩=>⟨v,e1,e2.up s⟩,R.old.trans s,R.new,λ q hq=>(R.tm q hq).up s⟩
def RR.relab(R:RR K G U ρ σ H lab)(hl:∀p o,H p=some o->lab' p=lab p)(hn:∀p,(lab' p).1≠0->G.H0 p=none):RR K G U ρ σ H lab':=
 ⟨R.len,λ i x e=>(R.sl i x e).imp id λ⟨v,e1,e2⟩=>⟨v,e1,e2.lab hl⟩,R.old,hn,λ q hq=>Rp.wk (λ p o e z=>by rw[hl p o e];exact z) (R.tm q hq)⟩
def RR.drop(R:RR K G (U'++U) ρ σ H lab):RR K G U ρ σ H lab:=⟨R.len,R.sl,R.old,R.new,λ z hz=>R.tm z (zAY _ hz)⟩
def RR.put(R:RR K G U ρ σ H lab)(h:gF K H lab i v s):RR K G U (ρ.set i s) (σ.set i (some v)) H lab:=by
 refine⟨by rw[zBL,zBL,R.len],λ j x e=>?_,R.old,R.new,R.tm⟩;by_cases hj:i=j
 .subst hj
  have hi:i<ρ.length:=by
   have:=(zAL.mp e).1
   rwa [zBL]at this
  rw[zBD hi]at e;cases e;exact .inr ⟨v,by rw[zBD (by rw[R.len];exact hi)],h⟩
 .rw[zAt hj]at e
  rcases R.sl j x e with z|⟨u,e1,e2⟩
  .exact .inl z
  .exact .inr ⟨u,by rw[zAt hj];exact e1,e2⟩
def bY(H:Hp)(n:Nat)(lab:Lab):Lab:=λ p=>match H p with
 |none=>(n,0)
 |some _=>lab p
def bM(h:H p=some o):bY H n lab p=lab p:=by unfold bY;rw[h]
def uJ(h:H p=none):bY H n lab p=(n,0):=by unfold bY;rw[h]
def RR.fresh{P:Nat->Prop}(h1:P 1)(hm:∀k,inM m k->P k)(R:RR K G U ρ σ H lab)(s:aU H H')(r:Rp K (fpM m lab H) H' v d):
  RR K G U ρ σ H' (bY H 1 lab)/\Rp K (λ p=>P (bY H 1 lab p).1) H' v d:=by
 refine⟨(R.relab (λ p o e=>bM e) λ p hp=>?_).up s,Rp.wk (λ p o e z=>?_) r⟩
 .cases e:H p with
  |none=>exact R.old.free e
  |some o=>rw[bM e]at hp;exact R.new p hp
 .rcases z with z|z
  .rw[uJ z];exact h1
  .cases e:H p with
   |none=>rw[uJ e];exact h1
   |some o=>rw[bM e];exact hm _ z
def RR.freshO(i:Nat)(hm:∀k,inM m k->k=1\/k=i+2)(R:RR K G U ρ σ H lab)(s:aU H H')(r:Rp K (fpM m lab H) H' v d)(ht:aCI d=true->∃a,v= .ref a/\H a=none):
  ∃lab',RR K G U ρ σ H' lab'/\gF K H' lab' i v (.ow d):=by
 obtain⟨R',r'⟩:=R.fresh (P:=λ k=>k=1\/k=i+2) (.inl rfl) hm s r;cases hd:aCI d with
 |false=>exact⟨_,R',r',λ z=>absurd z (by simp[hd])⟩
 |true=>
  obtain⟨a,rfl,ha⟩:=ht hd;refine⟨λ p=>if p=a then(i+2,0)else bY H 1 lab p,?_,Rp.wk (λ p o e z=>?_) r',λ _=>⟨a,rfl,by show(if a=a then((i+2,0):Nat×Nat)else bY H 1 lab a).1=i+2;rw[if_pos rfl]⟩⟩
  .refine(R.relab (lab':=λ p=>if p=a then(i+2,0)else bY H 1 lab p) (λ p o e=>?_) λ p hp=>?_).up s
   .rw[if_neg (λ z=>by subst z;rw[ha]at e;cases e),bM e]
   .by_cases z:p=a
    .subst z;exact R.old.free ha
    .rw[if_neg z]at hp;exact R'.new p hp
  .dsimp only
   by_cases q:p=a
   .rw[if_pos q];exact .inr rfl
   .rw[if_neg q];exact z
def aGm(h:gF K H lab i v (.oz d)):Rp K (λ p=>(lab p).1<=1\/(lab p).1=i+2) H v d:=by
 obtain⟨a,xs,ds,rfl,rfl,h1,h2,h3⟩:=h;exact .lst h1 (.inr h2) (h3.wk λ p o e z=>⟨.inl z,λ q=>by subst q;lia⟩)
end
structure Ct where
 ι:Type
 X:ι->Cx
 prog:zAZ
 w:World
 K:zAA
 mg:Str->Option Value
 base:Heap
 k:Nat
 G:Gx
 cx:∀i,(X i).prog=prog/\(X i).w=w/\(X i).K=K/\(X i).mg=mg/\(X i).base=base
 calm:∀i,(X i).calm=true
 room:∀i,jA k (X i).A
 own:∀i,zG8 (model (X i).prog (X i).w) (X i).A (X i).env (X i).xe
 pass:∀i,yK (CX1 (X i).prog (X i).w) (X i) G.E
 dOk:Bool
 dcx:dOk=true->∀i,iy (X i) G.E
def Ct.hK(C:Ct)(i:C.ι):(C.X i).K=C.K:=(C.cx i).2.2.1
def WR{α:Type}(G:Gx)(r:Rs α)(P:α->Prop):Prop:=match r with
 | .ok a=>P a
 | .ex c=>∀H',aU G.H0 H'->G.E (.ref (G.cl c)) none H'
 | .st=>False
theorem WR.bd(h:WR G (r.bd k) P):WR G r (λ a=>WR G (k a) P):=by
 cases r with
 |ok a=>exact h
 |ex c=>exact h
 |st=>exact h
def WR.imp(h:WR G r P)(f:∀a,r= .ok a->P a->P' a):WR G r P':=by
 cases r with
 |ok a=>exact f a rfl h
 |ex c=>exact h
 |st=>exact h
abbrev QE(K:zAA)(m:Mode)(lab:Lab)(H:Hp)(Q:VK):D->Prop:=λ d=>∀v H',aU H H'->Rp K (fpM m lab H) H' v d->Q v H'
abbrev QA(K:zAA)(m:Mode)(lab:Lab)(H:Hp)(Q:List V->Hp->Prop):List D->Prop:=λ ds=>∀vs H',aU H H'->Rps K (fpM m lab H) H' vs ds->Q vs H'
abbrev QT(H:Hp)(Q:Bool->Hp->Prop):Bool->Prop:=λ b=>∀H',aU H H'->Q b H'
def jO(K:zAA)(G:Gx)(m:Mode)(t:TE)(f:En->Rs D):Prop:=∀U σ H ρ lab (Q:VK),RR K G U ρ σ H lab->WR G (f ρ) (QE K m lab H Q)->t σ H Q
def aGV(K:zAA)(G:Gx)(m:Mode)(t:TA)(f:En->Rs (List D)):Prop:=∀U σ H ρ lab (Q:List V->Hp->Prop),RR K G U ρ σ H lab->WR G (f ρ) (QA K m lab H Q)->t σ H Q
def aC4(K:zAA)(G:Gx)(t:TT)(f:En->Rs Bool):Prop:=∀U σ H ρ lab (Q:Bool->Hp->Prop),RR K G U ρ σ H lab->WR G (f ρ) (QT H Q)->t σ H Q
def SE(C:Ct)(m:Mode)(e:Expr)(f:En->Rs D):Prop:=∃t,(∀i,PE (C.X i) e t)/\jO C.K C.G m t f
def SA(C:Ct)(m:Mode)(es:List Expr)(f:En->Rs (List D)):Prop:=∃t,(∀i,PA (C.X i) es t)/\aGV C.K C.G m t f
def ST(C:Ct)(e:Expr)(f:En->Rs Bool):Prop:=∃t,(∀i,PT (C.X i) e t)/\aC4 C.K C.G t f
def SW(C:Ct)(e:Expr)(f:En->Rs Bool):Prop:=∃t,(∀i,PW (C.X i) e t)/\aC4 C.K C.G t f
def SW.st(h:SW C e f):ST C e f:=let⟨t,h1,h2⟩:=h;⟨t,λ i=>(h1 i).pt,h2⟩
def fO(i:Nat):En->Rs D:=λ ρ=>match ρ[i]? with
 |some (.sh d)=>.ok d
 |some (.nw d)=>.ok d
 |some (.ow d)=>.ok d
 |some (.oz d)=>.ok d
 |some (.o2 l)=>.ok (.lst (l.map .lst))
 |_=>.st
def aD(i:Nat):En->Rs D:=λ ρ=>match ρ[i]? with
 |some (.sh d)=>.ok d
 |some (.nw d)=>.ok d
 |_=>.st
def qC(i:Nat):En->Rs D:=λ ρ=>match ρ[i]? with
 |some (.nw d)=>.ok d
 |_=>.st
def su(i:Nat):En->Rs D:=λ ρ=>match ρ[i]? with
 |some (.ow d)=>.ok d
 |some (.o2 l)=>.ok (.lst (l.map .lst))
 |_=>.st
def cD(d:D):En->Rs D:=λ _=>.ok d
def aDe{K:zAA}{H:Hp}{lab:Lab}{i:Nat}{v:V}{l:cK}(h:gF K H lab i v (.o2 l)):Rp K (λ p=>(lab p).1=i+2) H v (.lst (l.map .lst)):=by
 obtain⟨a,xs,rfl,ha,hla,hW,hin⟩:=h;refine .lst ha (by rw[hla]) ?_;have go:∀(xs:List V) (l:cK) (n:Nat),xs.length=l.length->0<n->(∀(j:Nat) x ds,xs[j]? =some x->l[j]? =some ds->Rp K (λ p=>lab p=(i+2,n+j)) H x (.lst ds))->Rps K (λ p=>(lab p).1=i+2/\p≠a) H xs (l.map .lst):=by
  intro xs;induction xs with
  |nil=>intro l n hl _ _;cases l with|nil=>exact .nil|cons _ _=>simp at hl
  |cons x xs ih=>
   intro l n hl hn h;cases l with
   |nil=>simp at hl
   |cons ds l=>
    refine .cons (Rp.wk (λ p o e z=>⟨by rw[z],λ e=>by rw[e,hla]at z;have z2:(0:Nat)=n+0:=congrArg zE3 z;lia⟩) (h 0 x ds rfl rfl)) (ih l (n+1) (by simpa using hl) (by lia) λ j y es e1 e2=>?_);have z:=h (j+1) y es (by simpa using e1) (by simpa using e2);rw[show n+1+j=n+(j+1)by lia];exact z
 exact go xs l 1 hW (by lia) λ j x ds e1 e2=>by have z:=hin j x ds e1 e2;rw[show 1+j=j+1 by lia];exact z
section
variable{C:Ct}{pos:Pos}
def aBP(K:zAA)(G:Gx)(i:Nat):jO K G (some [0,1,i+2]) (oY i) (fO i):=by
 intro U σ H ρ lab Q R W;unfold fO at W;cases e:ρ[i]? with
 |none=>rw[e]at W;exact W.elim
 |some s=>
  rw[e]at W;rcases R.sl i s e with rfl|⟨v,ev,hv⟩
  .exact zAK W
  .cases s with
   |no=>exact zAK W
   |sh d=>exact⟨v,ev,W v H (aU.refl H) (Rp.wk (λ p o e z=>.inr (by show(lab p).1∈[0,1,i+2];rcases(show(lab p).1=0\/(lab p).1=1 by lia)with q|q<;>rw[q]<;>simp)) hv)⟩
   |nw d=>exact⟨v,ev,W v H (aU.refl H) (Rp.wk (λ p o e z=>.inr (by show(lab p).1∈[0,1,i+2];rw[z];simp)) hv)⟩
   |ow d=>exact⟨v,ev,W v H (aU.refl H) (Rp.wk (λ p o e z=>.inr (by show(lab p).1∈[0,1,i+2];rcases z with q|q<;>rw[q]<;>simp)) hv.1)⟩
   |oz d=>exact⟨v,ev,W v H (aU.refl H) (Rp.wk (λ p o e z=>.inr (by show(lab p).1∈[0,1,i+2];rcases(show(lab p).1=0\/(lab p).1=1\/(lab p).1=i+2 by lia)with q|q|q<;>rw[q]<;>simp)) (aGm hv))⟩
   |o2 l=>exact⟨v,ev,W v H (aU.refl H) (Rp.wk (λ p o e z=>.inr (by show(lab p).1∈[0,1,i+2];rw[z];simp)) (aDe hv))⟩
def aCq(K:zAA)(G:Gx)(i:Nat):jO K G (some [0,1]) (oY i) (aD i):=by
 intro U σ H ρ lab Q R W;unfold aD at W;cases e:ρ[i]? with
 |none=>rw[e]at W;exact W.elim
 |some s=>
  rw[e]at W;rcases R.sl i s e with rfl|⟨v,ev,hv⟩
  .exact zAK W
  .cases s with
   |sh d=>exact⟨v,ev,W v H (aU.refl H) (Rp.wk (λ p o e z=>.inr (by show(lab p).1∈[0,1];rcases(show(lab p).1=0\/(lab p).1=1 by lia)with q|q<;>rw[q]<;>simp)) hv)⟩
   |nw d=>exact⟨v,ev,W v H (aU.refl H) (Rp.wk (λ p o e z=>.inr (by show(lab p).1∈[0,1];rw[z];simp)) hv)⟩
   |_=>exact zAK W
def aCs(K:zAA)(G:Gx)(i:Nat):jO K G (some [1]) (oY i) (qC i):=by
 intro U σ H ρ lab Q R W;unfold qC at W;cases e:ρ[i]? with
 |none=>rw[e]at W;exact W.elim
 |some s=>
  rw[e]at W;rcases R.sl i s e with rfl|⟨v,ev,hv⟩
  .exact zAK W
  .cases s with
   |nw d=>exact⟨v,ev,W v H (aU.refl H) (Rp.wk (λ p o e z=>.inr (by show(lab p).1∈[1];rw[z];simp)) hv)⟩
   |_=>exact zAK W
def aCr(K:zAA)(G:Gx)(i:Nat):jO K G (some [1,i+2]) (oY i) (su i):=by
 intro U σ H ρ lab Q R W;unfold su at W;cases e:ρ[i]? with
 |none=>rw[e]at W;exact W.elim
 |some s=>
  rw[e]at W;rcases R.sl i s e with rfl|⟨v,ev,hv⟩
  .exact zAK W
  .cases s with
   |ow d=>exact⟨v,ev,W v H (aU.refl H) (Rp.wk (λ p o e z=>.inr (by show(lab p).1∈[1,i+2];rcases z with q|q<;>rw[q]<;>simp)) hv.1)⟩
   |o2 l=>exact⟨v,ev,W v H (aU.refl H) (Rp.wk (λ p o e z=>.inr (by show(lab p).1∈[1,i+2];rw[z];simp)) (aDe hv))⟩
   |_=>exact zAK W
def gY(i:Nat)(hN:∀j,(C.X j).N[i]? =some x:=by intro _;rfl)(hv:∀j,Vis (C.X j).env.scope x:=by intro _;first|exact zB6 rfl|exact zBH (zB6 rfl)|exact zBH (zBH rfl))(hd:Nd x:=by decide)
  (hcd:(x==("__classdict__":Str))=false:=by decide):SE C (some [0,1,i+2]) (.Name x pos) (fO i):=⟨_,λ j=>fQ (hN j) (hv j) hd hcd,aBP _ _ i⟩
def aA(i:Nat)(hN:∀j,(C.X j).N[i]? =some x:=by intro _;rfl)(hv:∀j,Vis (C.X j).env.scope x:=by intro _;first|exact zB6 rfl|exact zBH (zB6 rfl)|exact zBH (zBH rfl))(hd:Nd x:=by decide)
  (hcd:(x==("__classdict__":Str))=false:=by decide):SE C (some [0,1]) (.Name x pos) (aD i):=⟨_,λ j=>fQ (hN j) (hv j) hd hcd,aCq _ _ i⟩
def jh(i:Nat)(hN:∀j,(C.X j).N[i]? =some x:=by intro _;rfl)(hv:∀j,Vis (C.X j).env.scope x:=by intro _;first|exact zB6 rfl|exact zBH (zB6 rfl)|exact zBH (zBH rfl))(hd:Nd x:=by decide)
  (hcd:(x==("__classdict__":Str))=false:=by decide):SE C (some [1]) (.Name x pos) (qC i):=⟨_,λ j=>fQ (hN j) (hv j) hd hcd,aCs _ _ i⟩
def sJ(i:Nat)(hN:∀j,(C.X j).N[i]? =some x:=by intro _;rfl)(hv:∀j,Vis (C.X j).env.scope x:=by intro _;first|exact zB6 rfl|exact zBH (zB6 rfl)|exact zBH (zBH rfl))(hd:Nd x:=by decide)
  (hcd:(x==("__classdict__":Str))=false:=by decide):SE C (some [1,i+2]) (.Name x pos) (su i):=⟨_,λ j=>fQ (hN j) (hv j) hd hcd,aCr _ _ i⟩
def aJ:SE C (some []) (.Constant (.int i) j pos) (cD (.int i)):=⟨_,λ _=>aD0,λ U σ H ρ lab Q R W=>W _ H (aU.refl H) (.int i)⟩
def o7:SE C (some []) (.Constant (.bool b) j pos) (cD (.bl b)):=⟨_,λ _=>aJB,λ U σ H ρ lab Q R W=>W _ H (aU.refl H) (.bl b)⟩
def aCx:SE C (some []) (.Constant .none j pos) (cD .non):=⟨_,λ _=>aHa,λ U σ H ρ lab Q R W=>W _ H (aU.refl H) .non⟩
def aAR:SE C (some []) (.Constant (.str x) j pos) (cD (.str x)):=⟨_,λ _=>aH7,λ U σ H ρ lab Q R W=>W _ H (aU.refl H) (.str x)⟩
def aEv(hm:C.mg x=some u)(r:RelV v u)(hd:∀A H,Rp C.K A H v d)(hdb:Nd x:=by decide)(hg:∀i,Gl (C.X i) x:=by intro _;rfl):SE C (some []) (.Name x pos) (cD d):=
 ⟨_,λ i=>aFM (hg i) (by rw[(C.cx i).2.2.2.1];exact hm) r hdb,λ U σ H ρ lab Q R W=>W _ H (aU.refl H) (hd _ _)⟩
def pK(d:D):Rs D:=if imm d=true then .ok d else .st
def bA(f:En->Rs D):En->Rs D:=λ ρ=>(f ρ).bd pK
def bB(h:SE C m e f):SE C (some []) e (bA f):=by
 obtain⟨t,h1,h2⟩:=h;refine⟨t,h1,λ U σ H ρ lab Q R W=>h2 U σ H ρ lab Q R (W.bd.imp λ d _ w v H' s r=>?_)⟩;unfold pK at w;by_cases hd:imm d=true
 .rw[if_pos hd]at w
  exact w v H' s (r.imm hd)
 .rw[if_neg hd]at w
  exact zAK w
def aH:En->Rs (List D):=λ _=>.ok []
def aC(f:En->Rs D)(g:En->Rs (List D)):En->Rs (List D):=λ ρ=>(f ρ).bd λ d=>(g ρ).bd λ ds=>.ok (d::ds)
variable{m m1 m2:Mode}{e a b:Expr}{es:List Expr}{f fa fb:En->Rs D}{g:En->Rs (List D)}
def aF:SA C (some []) [] aH:=⟨_,λ _=>eF,λ U σ H ρ lab Q R W=>W _ H (aU.refl H) .nil⟩
def aB(h:SE C m1 e f)(hr:SA C m2 es g)(hs:∀i,zAX (e::es) (C.X i).env=(false,eval e (C.X i).env)::zAX es (C.X i).env:=by intro _;rfl):SA C (jn m1 m2) (e::es) (aC f g):=by
 obtain⟨t,h1,h2⟩:=h;obtain⟨u,k1,k2⟩:=hr;refine⟨_,λ i=>bz (h1 i) (k1 i) (hs i),λ U σ H ρ lab Q R W=>?_⟩;refine h2 U σ H ρ lab _ R (W.bd.imp λ d _ w x H1 s1 r1=>?_);refine k2 U σ H1 ρ lab _ (R.up s1) (w.bd.imp λ ds _ w xs H2 s2 r2=>?_);exact w (x::xs) H2 (s1.trans s2) (.cons (r1.mono s2 λ p o _ z=>aEO z) (r2.wk λ p o _ z=>aEN (jZ s1 z)))
def dG(g:En->Rs (List D)):En->Rs D:=λ ρ=>(g ρ).bd λ ds=>if ds.length<=zAQ then .ok (.tup ds)else .st
def dh(g:En->Rs (List D)):En->Rs D:=λ ρ=>(g ρ).bd λ ds=>if ds.length<=zAQ then .ok (.lst ds)else .st
def bZ{x1}(h:SA C m es g):SE C m (.Tuple es x1 pos) (dG g):=by
 obtain⟨t,h1,h2⟩:=h;refine⟨_,λ i=>aFK (h1 i),λ U σ H ρ lab Q R W=>h2 U σ H ρ lab _ R (W.bd.imp λ ds _ w xs H1 s1 r1=>?_)⟩;by_cases hz:ds.length<=zAQ
 .rw[if_pos hz]at w
  exact⟨by rw[r1.length];exact hz,λ p H' s hp _=>w _ H' (s1.trans s) (.tup (SqT.of hp) (r1.up s))⟩
 .rw[if_neg hz]at w
  exact zAK w
def aAS(h:SA C m es g):SE C m (.List es pos) (dh g):=by
 obtain⟨t,h1,h2⟩:=h;refine⟨_,λ i=>xF (h1 i),λ U σ H ρ lab Q R W=>h2 U σ H ρ lab _ R (W.bd.imp λ ds _ w xs H1 s1 r1=>?_)⟩;by_cases hz:ds.length<=zAQ
 .rw[if_pos hz]at w
  exact⟨by rw[r1.length];exact hz,λ p H' s hp hn=>w _ H' (s1.trans s) (.lst hp (.inl (s1.free hn)) ((r1.wk λ q o e z=>⟨z,λ e'=>by subst e';rw[hn]at e;cases e⟩).up s))⟩
 .rw[if_neg hz]at w
  exact zAK w
def aJ4(H:Hp)(v:V)(d:D):Prop:=aCI d=true->∃a,v= .ref a/\H a=none
def aI8(K:zAA)(G:Gx)(m:Mode)(t:TE)(f:En->Rs D):Prop:=∀U σ H ρ lab (Q:VK),RR K G U ρ σ H lab->WR G (f ρ) (λ d=>∀v H',aU H H'->Rp K (fpM m lab H) H' v d->aJ4 H v d->Q v H')->t σ H Q
def SF(C:Ct)(m:Mode)(e:Expr)(f:En->Rs D):Prop:=∃t,(∀i,PE (C.X i) e t)/\aI8 C.K C.G m t f
def jO.toF{K:zAA}{G:Gx}{t:TE}{f:En->Rs D}(h:jO K G (some []) t f):aI8 K G (some []) t f:=λ U σ H ρ lab Q R W=>
 h U σ H ρ lab Q R (W.imp λ d _ w v H' s r=>w v H' s r λ hm=>by
  obtain⟨a,rfl⟩:=aHN r hm;obtain⟨o,_,_,z⟩:=aDF r hm;rcases z with z|z
  .exact⟨a,rfl,z⟩
  .cases z)
def aIk(h:SE C (some []) e f):SF C (some []) e f:=let⟨t,h1,h2⟩:=h;⟨t,h1,h2.toF⟩
def iJ(h:SA C m es g):SF C m (.List es pos) (dh g):=by
 obtain⟨t,h1,h2⟩:=h;refine⟨_,λ i=>xF (h1 i),λ U σ H ρ lab Q R W=>h2 U σ H ρ lab _ R (W.bd.imp λ ds _ w xs H1 s1 r1=>?_)⟩;by_cases hz:ds.length<=zAQ
 .rw[if_pos hz]at w
  exact⟨by rw[r1.length];exact hz,λ p H' s hp hn=>w _ H' (s1.trans s) (.lst hp (.inl (s1.free hn)) ((r1.wk λ q o e z=>⟨z,λ e'=>by subst e';rw[hn]at e;cases e⟩).up s)) λ _=>⟨p,rfl,s1.free hn⟩⟩
 .rw[if_neg hz]at w
  exact zAK w
def OpS(K:zAA)(r:R2)(fd:D->D->Rs D):Prop:=∀(A:Addr->Prop) x y d e H (Q:VK) z,Rp K A H x d->Rp K A H y e->fd d e= .ok z->(∀v H',aU H H'->Rp K (λ p=>H p=none\/A p) H' v z->Q v H')->r x y H Q
def ph(K:zAA)(r:List V->Hp->VK->Prop)(fd:List D->Rs D):Prop:=∀(A:Addr->Prop) xs ds H (Q:VK) z,Rps K A H xs ds->fd ds= .ok z->(∀v H',aU H H'->Rp K (λ p=>H p=none\/A p) H' v z->Q v H')->r xs H Q
def okD(r:Rs D):Rs D:=match r with
 | .ok d=>.ok d
 |_=>.st
def op2(fd:D->D->Rs D)(fa fb:En->Rs D):En->Rs D:=λ ρ=>(fa ρ).bd λ x=>(fb ρ).bd λ y=>okD (fd x y)
def op1(fd:D->Rs D)(fa:En->Rs D):En->Rs D:=λ ρ=>(fa ρ).bd λ x=>okD (fd x)
def opA(fd:List D->Rs D)(fa:En->Rs (List D)):En->Rs D:=λ ρ=>(fa ρ).bd λ x=>okD (fd x)
theorem WR.okD(h:WR G (okD r) P):∃z,r= .ok z/\P z:=by
 cases r with
 |ok z=>exact⟨z,rfl,h⟩
 |ex c=>exact zAK h
 |st=>exact zAK h
def wU{K:zAA}{G:Gx}{r:R2}{ta tb:TE}{fd:D->D->Rs D}(hs:OpS K r fd)(h1:jO K G m1 ta fa)(h2:jO K G m2 tb fb):jO K G (jn m1 m2) (tOp r ta tb) (op2 fd fa fb):=by
 intro U σ H ρ lab Q R W;refine h1 U σ H ρ lab _ R (W.bd.imp λ d _ w x H1 s1 r1=>?_);refine h2 U σ H1 ρ lab _ (R.up s1) (w.bd.imp λ e _ w y H2 s2 r2=>?_);obtain⟨z,ez,w⟩:=w.okD;refine hs (fpM (jn m1 m2) lab H) x y d e H2 Q z (r1.mono s2 λ p o _ q=>aEO q) (r2.wk λ p o _ q=>aEN (jZ s1 q)) ez λ v H' s r=>w v H' ((s1.trans s2).trans s) (r.wk λ p o _ q=>?_)
 rcases q with q|q
 .exact .inl ((s1.trans s2).free q)
 .exact q
def aBQ{K:zAA}{G:Gx}{r:List V->Hp->VK->Prop}{ta:TA}{fd:List D->Rs D}(hs:ph K r fd)(h1:aGV K G m ta g):jO K G m (tCB r ta) (opA fd g):=by
 intro U σ H ρ lab Q R W;refine h1 U σ H ρ lab _ R (W.bd.imp λ d _ w x H1 s1 r1=>?_);obtain⟨z,ez,w⟩:=w.okD;refine hs (fpM m lab H) x d H1 Q z r1 ez λ v H' s r=>w v H' (s1.trans s) (r.wk λ p o _ q=>?_)
 rcases q with q|q
 .exact .inl (s1.free q)
 .exact q
def fP(h:SE C m e f)(hi:∀ρ d,f ρ= .ok d->imm d=true):SE C (some []) e f:=by
 obtain⟨t,h1,h2⟩:=h;exact⟨t,h1,λ U σ H ρ lab Q R W=>h2 U σ H ρ lab Q R (W.imp λ d ed w v H' s r=>w v H' s (r.imm (hi ρ d ed)))⟩
def jr(h:∀x y z,fd x y= .ok z->imm z=true)(e:op2 fd fa fb ρ= .ok d):imm d=true:=by
 obtain⟨x,_,e⟩:=di e;obtain⟨y,_,e⟩:=di e;unfold okD at e;split at e
 .rename_i z hz
  cases e;exact h x y _ hz
 .cases e
def mX(h:∀x z,fd x= .ok z->imm z=true)(e:opA fd g ρ= .ok d):imm d=true:=by
 obtain⟨x,_,e⟩:=di e;unfold okD at e;split at e
 .rename_i z hz
  cases e;exact h x _ hz
 .cases e
def tU(ro:∀i,OpR (C.X i) (zB9 op) r)(hs:OpS C.K r fd)(ha:SE C m1 a fa)(hb:SE C m2 b fb):SE C (jn m1 m2) (.BinOp a op b pos) (op2 fd fa fb):=by
 obtain⟨t,h1,h2⟩:=ha;obtain⟨u,k1,k2⟩:=hb;exact⟨_,λ i=>aIz (ro i) (h1 i) (k1 i),wU hs h2 k2⟩
def aAU(ro:∀i,OpR (C.X i) (zAp op) r)(hs:OpS C.K r fd)(ha:SE C m1 a fa)(hb:SE C m2 b fb)(hm:zBy op b=false:=by first|exact aDf _|(with_unfolding_all rfl)):
  SE C (jn m1 m2) (.Compare a [op] [b] pos) (op2 fd fa fb):=by
 obtain⟨t,h1,h2⟩:=ha;obtain⟨u,k1,k2⟩:=hb;exact⟨_,λ i=>aFN (ro i) (h1 i) (k1 i) hm,wU hs h2 k2⟩
variable{p:Pos}{x:Str}{id T:String}
def kZ(ro:∀i,cZ (C.X i) (.builtin id) r)(hs:ph C.K r fd)(hg:∀i,Gl (C.X i) x)(hm:C.mg x=none)(hv:zAr x=some (.builtin id))(ha:SA C m (e::es) g)
  (hn:x≠"__name__":=by decide)(hdb:Nd x:=by decide)(he:∀i,zAX (e::es) (C.X i).env=(false,eval e (C.X i).env)::zAX es (C.X i).env:=by intro _;rfl)
  (hpl:∀i,(zBv pos (zAX es (C.X i).env)).any (·.1)=false:=by intro _;rfl):SE C m (.Call (.Name x p) (e::es) [] pos) (opA fd g):=by
 obtain⟨t,h1,h2⟩:=ha;exact⟨_,λ i=>pB (ro i) (hg i) (by rw[(C.cx i).2.2.2.1];exact hm) hv (h1 i) hn hdb (he i) (hpl i),aBQ hs h2⟩
def yc(ro:∀i,cZ (C.X i) (.type T) r)(hs:ph C.K r fd)(hg:∀i,Gl (C.X i) x)(hm:C.mg x=none)(hv:zAr x=some (.type T))(ha:SA C m (e::es) g)
  (hn:x≠"__name__":=by decide)(hdb:Nd x:=by decide)(he:∀i,zAX (e::es) (C.X i).env=(false,eval e (C.X i).env)::zAX es (C.X i).env:=by intro _;rfl)
  (hpl:∀i,(zBv pos (zAX es (C.X i).env)).any (·.1)=false:=by intro _;rfl):SE C m (.Call (.Name x p) (e::es) [] pos) (opA fd g):=by
 obtain⟨t,h1,h2⟩:=ha;exact⟨_,λ i=>jX (ro i) (hg i) (by rw[(C.cx i).2.2.2.1];exact hm) hv (h1 i) hn hdb (he i) (hpl i),aBQ hs h2⟩
def vQ(f g:En->Rs D):En->Rs D:=λ ρ=>(f ρ).bd λ d=>match d with
 | .bl true=>g ρ
 | .bl false=>.ok (.bl false)
 |_=>.st
def orD(f g:En->Rs D):En->Rs D:=λ ρ=>(f ρ).bd λ d=>match d with
 | .bl false=>g ρ
 | .bl true=>.ok (.bl true)
 |_=>.st
def aHx:D->Rs D
 | .bl b=>.ok (.bl (!b))
 |_=>.st
variable{rest:List Expr}
def kY{op}(h:SE C m a fa):SE C m (.BoolOp op [a] pos) fa:=by
 obtain⟨t,h1,h2⟩:=h;exact⟨_,λ i=>aH8 (h1 i),h2⟩
def kh(ha:SE C m1 a fa)(hb:SE C m2 (.BoolOp .And (b::rest) pos) fb):SE C m2 (.BoolOp .And (a::b::rest) pos) (vQ fa fb):=by
 obtain⟨t,h1,h2⟩:=ha;obtain⟨u,k1,k2⟩:=hb;refine⟨_,λ i=>aHc (h1 i) (k1 i),λ U σ H ρ lab Q R W=>h2 U σ H ρ lab _ R (W.bd.imp λ d _ w x H1 s1 r1=>?_)⟩;cases r1 with
 |bl c=>
  refine⟨c,rfl,?_⟩;cases c with
  |true=>
   rw[if_pos rfl];exact k2 U σ H1 ρ lab Q (R.up s1) (w.imp λ z _ w v H' s r=>w v H' (s1.trans s) (r.wk λ p o _ q=>jZ s1 q))
  |false=>
   rw[if_neg zA3];exact w _ H1 s1 (.bl false)
 |_=>exact zAK w
def aIl(ha:SE C m1 a fa)(hb:SE C m2 (.BoolOp .Or (b::rest) pos) fb):SE C m2 (.BoolOp .Or (a::b::rest) pos) (orD fa fb):=by
 obtain⟨t,h1,h2⟩:=ha;obtain⟨u,k1,k2⟩:=hb;refine⟨_,λ i=>aIy (h1 i) (k1 i),λ U σ H ρ lab Q R W=>h2 U σ H ρ lab _ R (W.bd.imp λ d _ w x H1 s1 r1=>?_)⟩;cases r1 with
 |bl c=>
  refine⟨c,rfl,?_⟩;cases c with
  |false=>
   rw[if_neg zA3];exact k2 U σ H1 ρ lab Q (R.up s1) (w.imp λ z _ w v H' s r=>w v H' (s1.trans s) (r.wk λ p o _ q=>jZ s1 q))
  |true=>
   rw[if_pos rfl];exact w _ H1 s1 (.bl true)
 |_=>exact zAK w
def aHH(ha:SE C m a fa):SE C (some []) (.UnaryOp .Not a pos) (op1 aHx fa):=by
 obtain⟨t,h1,h2⟩:=ha;refine⟨_,λ i=>aH9 (h1 i),λ U σ H ρ lab Q R W=>h2 U σ H ρ lab _ R (W.bd.imp λ d _ w x H1 s1 r1=>?_)⟩;obtain⟨z,ez,w⟩:=w.okD;cases r1 with
 |bl c=>cases ez;exact⟨c,rfl,w _ H1 s1 (.bl _)⟩
 |_=>cases ez
def ifD(c:En->Rs Bool)(f g:En->Rs D):En->Rs D:=λ ρ=>(c ρ).bd λ k=>if k=true then f ρ else g ρ
def aG8(hc:ST C c fc)(ha:SE C m1 a fa)(hb:SE C m2 b fb):SE C (jn m1 m2) (.IfExp c a b pos) (ifD fc fa fb):=by
 obtain⟨tc,c1,c2⟩:=hc;obtain⟨t,h1,h2⟩:=ha;obtain⟨u,k1,k2⟩:=hb;refine⟨_,λ i=>aD1 (c1 i) (h1 i) (k1 i),λ U σ H ρ lab Q R W=>c2 U σ H ρ lab _ R (W.bd.imp λ k _ w H1 s1=>?_)⟩;cases k with
 |true=>
  rw[if_pos rfl]at w ⊢;exact h2 U σ H1 ρ lab Q (R.up s1) (w.imp λ z _ w v H' s r=>w v H' (s1.trans s) (r.wk λ p o _ q=>aEO (jZ s1 q)))
 |false=>
  rw[if_neg zA3]at w ⊢;exact k2 U σ H1 ρ lab Q (R.up s1) (w.imp λ z _ w v H' s r=>w v H' (s1.trans s) (r.wk λ p o _ q=>aEN (jZ s1 q)))
def chD(fd fd':D->D->Rs D)(fa fb fc:En->Rs D):En->Rs D:=λ ρ=>(fa ρ).bd λ x=>(fb ρ).bd λ y=>(okD (fd x y)).bd λ z=>match z with
 | .bl true=>(fc ρ).bd λ w=>okD (fd' y w)
 | .bl false=>.ok (.bl false)
 |_=>.st
def aBw{K:zAA}{G:Gx}{r r':R2}{ta tb tc:TE}{fd fd':D->D->Rs D}{fc:En->Rs D}{m3:Mode}(hs:OpS K r fd)(hs':OpS K r' fd')(hi:∀x y z,fd' x y= .ok z->imm z=true)(h1:jO K G m1 ta fa)(h2:jO K G m2 tb fb)(h3:jO K G m3 tc fc):
  jO K G (some []) (aCg r r' ta tb tc) (chD fd fd' fa fb fc):=by
 intro U σ H ρ lab Q R W;refine h1 U σ H ρ lab _ R (W.bd.imp λ d _ w x H1 s1 r1=>?_);refine h2 U σ H1 ρ lab _ (R.up s1) (w.bd.imp λ e _ w y H2 s2 r2=>?_);obtain⟨z,ez,w⟩:=w.bd.okD;refine hs (λ _=>True) x y d e H2 _ z (r1.mono s2 λ p o _ q=>trivial) (r2.wk λ p o _ q=>trivial) ez λ v H3 s3 r3=>?_
 cases r3 with
 |bl c=>
  refine⟨c,rfl,?_⟩;cases c with
  |false=>
   rw[if_neg zA3];exact w _ H3 ((s1.trans s2).trans s3) (.bl false)
  |true=>
   rw[if_pos rfl];refine h3 U σ H3 ρ lab _ ((R.up s1).up (s2.trans s3)) (w.bd.imp λ e' _ w y' H4 s4 r4=>?_);obtain⟨z',ez',w⟩:=w.okD;exact hs' (λ _=>True) y y' e e' H4 Q z' (r2.mono (s3.trans s4) λ p o _ q=>trivial) (r4.wk λ p o _ q=>trivial) ez' λ v H5 s5 r5=>w v H5 ((((s1.trans s2).trans s3).trans s4).trans s5) (r5.imm (hi _ _ _ ez'))
 |_=>exact zAK w
def yZ(ro:∀i,OpR (C.X i) (zAp op) r)(hs:OpS C.K r fd)(ro':∀i,OpR (C.X i) (zAp op') r')(hs':OpS C.K r' fd')(hi:∀x y z,fd' x y= .ok z->imm z=true)
  (ha:SE C m1 a fa)(hb:SE C m2 b fb)(hc:SE C m3 c fc)(hm:zGe [op,op'] [b,c]=false:=by with_unfolding_all rfl):SE C (some []) (.Compare a [op,op'] [b,c] pos) (chD fd fd' fa fb fc):=by
 obtain⟨t,h1,h2⟩:=ha;obtain⟨u,k1,k2⟩:=hb;obtain⟨v,l1,l2⟩:=hc;exact⟨_,λ i=>aD2 (ro i) (ro' i) (h1 i) (k1 i) (l1 i) hm,aBw hs hs' hi h2 k2 l2⟩
def aHA:D->Rs Bool
 | .non=>.ok false
 | .bl b=>.ok b
 | .int i=>.ok (i !=0)
 | .tup l=>.ok (!l.isEmpty)
 | .lst l=>.ok (!l.isEmpty)
 |_=>.st
def blD:D->Rs Bool
 | .bl b=>.ok b
 |_=>.st
def tst(f:En->Rs D):En->Rs Bool:=λ ρ=>(f ρ).bd aHA
def tsb(f:En->Rs D):En->Rs Bool:=λ ρ=>(f ρ).bd blD
def uQ{K:zAA}{A:Addr->Prop}{H:Hp}{xs:List V}{ds:List D}(r:Rps K A H xs ds):(!ds.isEmpty)= !xs.isEmpty:=by cases r<;>rfl
def jJ(ha:SE C m a fa)(he:∀i whole,isTrue a (C.X i).env whole=(do let v <-whole;standAt a.pos;zGM [v] (truthy v)):=by intro _ _;rfl):ST C a (tst fa):=by
 obtain⟨t,h1,h2⟩:=ha;refine⟨λ σ H Q=>t σ H λ x H'=>∃k,aI5 C.K x H' k/\Q k H',λ i=>by rw[<-C.hK i];exact aDQ (h1 i) (he i),λ U σ H ρ lab Q R W=>h2 U σ H ρ lab _ R (W.bd.imp λ d _ w x H1 s1 r1=>?_)⟩;cases r1 with
 |non=>exact⟨false,rfl,w H1 s1⟩
 |bl b=>exact⟨b,rfl,w H1 s1⟩
 |int i=>exact⟨i !=0,rfl,w H1 s1⟩
 |tup h r=>exact⟨_,.inr (.inl ⟨_,h,rfl⟩),by rw[<-uQ r];exact w H1 s1⟩
 |lst h m r=>exact⟨_,.inl ⟨_,SqL.of h,rfl⟩,by rw[<-uQ r];exact w H1 s1⟩
 |_=>exact zAK w
def aEm{K:zAA}{G:Gx}{t:TE}{f:En->Rs D}(h:jO K G m t f):aC4 K G (aG2 t) (tsb f):=λ U σ H ρ lab Q R W=>h U σ H ρ lab _ R (W.bd.imp λ d _ w x H1 s1 r1=>by
 cases r1 with
 |bl b=>exact⟨b,rfl,w H1 s1⟩
 |_=>exact zAK w)
def jf(ro:∀i,OpR (C.X i) (zAp op) r)(hs:OpS C.K r fd)(ha:SE C m1 a fa)(hb:SE C m2 b fb)(hm:zBy op b=false:=by first|exact aDf _|(with_unfolding_all rfl)):
  ST C (.Compare a [op] [b] pos) (tsb (op2 fd fa fb)):=by
 obtain⟨t,h1,h2⟩:=ha;obtain⟨u,k1,k2⟩:=hb;exact⟨_,λ i=>aFE (ro i) (h1 i) (k1 i) hm,aEm (wU hs h2 k2)⟩
variable{ga gb:En->Rs Bool}
def zx(f g:En->Rs Bool):En->Rs Bool:=λ ρ=>(f ρ).bd λ k=>if k=true then g ρ else .ok false
def orT(f g:En->Rs Bool):En->Rs Bool:=λ ρ=>(f ρ).bd λ k=>if k=true then .ok true else g ρ
def oA(f:En->Rs Bool):En->Rs Bool:=λ ρ=>(f ρ).bd λ k=>.ok (!k)
def aBJ(ha:ST C a ga):SW C (.BoolOp .And [a] pos) ga:=let⟨t,h1,h2⟩:=ha;⟨t,λ i=>aFD (h1 i),h2⟩
def wJ(ha:ST C a ga):SW C (.BoolOp .Or [a] pos) ga:=let⟨t,h1,h2⟩:=ha;⟨t,λ i=>aHV (h1 i),h2⟩
def aAI(ha:ST C a ga)(hb:SW C (.BoolOp .And (b::rest) pos) gb):SW C (.BoolOp .And (a::b::rest) pos) (zx ga gb):=by
 obtain⟨t,h1,h2⟩:=ha;obtain⟨u,k1,k2⟩:=hb;refine⟨_,λ i=>aHW (h1 i) (k1 i),λ U σ H ρ lab Q R W=>h2 U σ H ρ lab _ R (W.bd.imp λ k _ w H1 s1=>?_)⟩;cases k with
 |true=>
  rw[if_pos rfl]at w ⊢;exact k2 U σ H1 ρ lab Q (R.up s1) (w.imp λ z _ w H' s=>w H' (s1.trans s))
 |false=>
  rw[if_neg zA3]at w ⊢;exact w H1 s1
def aBI(ha:ST C a ga)(hb:SW C (.BoolOp .Or (b::rest) pos) gb):SW C (.BoolOp .Or (a::b::rest) pos) (orT ga gb):=by
 obtain⟨t,h1,h2⟩:=ha;obtain⟨u,k1,k2⟩:=hb;refine⟨_,λ i=>aIw (h1 i) (k1 i),λ U σ H ρ lab Q R W=>h2 U σ H ρ lab _ R (W.bd.imp λ k _ w H1 s1=>?_)⟩;cases k with
 |false=>
  rw[if_neg zA3]at w ⊢;exact k2 U σ H1 ρ lab Q (R.up s1) (w.imp λ z _ w H' s=>w H' (s1.trans s))
 |true=>
  rw[if_pos rfl]at w ⊢;exact w H1 s1
def jK(ha:ST C a ga):ST C (.UnaryOp .Not a pos) (oA ga):=by
 obtain⟨t,h1,h2⟩:=ha;exact⟨_,λ i=>aHX (h1 i),λ U σ H ρ lab Q R W=>h2 U σ H ρ lab _ R (W.bd.imp λ k _ w H1 s1=>w H1 s1)⟩
end
inductive Ou where
 |nx (ρ:En)|rt (d:D)|bk (ρ:En)|ct (ρ:En)|ex (c:Str)|st
noncomputable def Rs.bo{α:Type}:Rs α->(α->Ou)->Ou
 | .ok a,f=>f a
 | .ex c,_=>.ex c
 | .st,_=>.st
@[simp] def bN(a:α)(f:α->Ou):(Rs.ok a).bo f=f a:=aN rfl
noncomputable def Ou.sq:Ou->(En->Ou)->Ou
 | .nx ρ,f=>f ρ
 |o,_=>o
@[simp] def aW(ρ:En)(f:En->Ou):(Ou.nx ρ).sq f=f ρ:=aN rfl
@[simp] def sq_rt(d:D)(f:En->Ou):(Ou.rt d).sq f= .rt d:=aN rfl
def WS(K:zAA)(G:Gx)(U:List (V×D))(o:Ou)(De:Ends):Prop:=match o with
 | .nx ρ=>∀σ H lab,RR K G U ρ σ H lab->De.nx σ H
 | .bk ρ=>∀σ H lab,RR K G U ρ σ H lab->De.bk σ H
 | .ct ρ=>∀σ H lab,RR K G U ρ σ H lab->De.ct σ H
 | .rt d=>∀v H,aU G.H0 H->Rp K (λ p=>G.H0 p=none) H v d->De.rt v H
 | .ex c=>∀H',aU G.H0 H'->G.E (.ref (G.cl c)) none H'
 | .st=>False
theorem WS.bo{K:zAA}(h:WS K G U (r.bo k) De):WR G r (λ a=>WS K G U (k a) De):=by
 cases r with
 |ok a=>exact h
 |ex c=>exact h
 |st=>exact h
def aJW(K:zAA)(G:Gx)(t:TS)(f:En->Ou):Prop:=∀U σ H ρ lab (De:Ends),RR K G U ρ σ H lab->WS K G U (f ρ) De->t De σ H
def SS(C:Ct)(s:Stmt)(f:En->Ou):Prop:=∃t,(∀i,PS (C.X i) s t)/\aJW C.K C.G t f
def SSs(C:Ct)(s:List Stmt)(f:En->Ou):Prop:=∃t,(∀i,PSs (C.X i) s t)/\aJW C.K C.G t f
section
variable{C:Ct}{pos:Pos}{s:Stmt}{ss:List Stmt}{f g:En->Ou}{e:Expr}{m:Mode}{fe:En->Rs D}
def bL:SSs C [] .nx:=⟨_,λ _=>aB1,λ U σ H ρ lab De R W=>W σ H lab R⟩
def aY(f g:En->Ou):En->Ou:=λ ρ=>(f ρ).sq g
def aK(h:SS C s f):SSs C [s] f:=let⟨t,h1,h2⟩:=h;⟨t,λ i=>aB0 (h1 i),h2⟩
def aG(h:SS C s f)(k:SSs C ss g):SSs C (s::ss) (aY f g):=by
 obtain⟨t,h1,h2⟩:=h;obtain⟨u,k1,k2⟩:=k;refine⟨_,λ i=>yt (h1 i) (k1 i),λ U σ H ρ lab De R W=>h2 U σ H ρ lab _ R ?_⟩;unfold aY at W;cases h:f ρ with
 |nx ρ'=>rw[h]at W;exact λ σ' H' lab' R'=>k2 U σ' H' ρ' lab' De R' W
 |rt d=>rw[h]at W;exact W
 |bk ρ'=>rw[h]at W;exact W
 |ct ρ'=>rw[h]at W;exact W
 |ex c=>rw[h]at W;exact W
 |st=>rw[h]at W;exact W
def frz(i:Nat)(ρ:En):En:=match ρ[i]? with
 |some (.ow d)=>ρ.set i (.nw d)
 |some (.o2 l)=>ρ.set i (.nw (.lst (l.map .lst)))
 |_=>ρ
def aJI:Mode->Bool
 |some L=>L.all (·!=0)
 |none=>false
def retS(fe:En->Rs D):En->Ou:=λ ρ=>(fe ρ).bo .rt
def ak(he:SE C m e fe)(hm:aJI m=true:=by rfl):SS C (.Return (some e) pos) (retS fe):=by
 obtain⟨t,h1,h2⟩:=he;refine⟨_,λ i=>aHY (h1 i),λ U σ H ρ lab De R W=>h2 U σ H ρ lab _ R (W.bo.imp λ d _ w v H' s r=>w v H' (R.old.trans s) (r.wk λ p o _ z=>?_))⟩;rcases z with z|z
 .exact R.old.free z
 .cases m with
  |none=>cases hm
  |some L=>
   refine R.new p λ e0=>?_
   have:=zAn.mp hm _ z
   rw[e0]at this;simp at this
def ul(fe:En->Rs D):En->Ou:=λ ρ=>(fe ρ).bo λ _=>.nx ρ
def wM(he:SE C m e fe)(hs:∀i,zCB e none pos.line (C.X i).env=pure false:=by intro _;rfl):SS C (.Expr e pos) (ul fe):=by
 obtain⟨t,h1,h2⟩:=he;exact⟨_,λ i=>jm (h1 i) (hs i),λ U σ H ρ lab De R W=>h2 U σ H ρ lab _ R (W.bo.imp λ d _ w v H' s r=>w σ H' lab (R.up s))⟩
def ifS(c:En->Rs Bool)(f g:En->Ou):En->Ou:=λ ρ=>(c ρ).bo λ k=>if k=true then f ρ else g ρ
def dB{a b:List Stmt}(hc:ST C c fc)(ha:SSs C a f)(hb:SSs C b g):SS C (.If c a b pos) (ifS fc f g):=by
 obtain⟨tc,c1,c2⟩:=hc;obtain⟨t,h1,h2⟩:=ha;obtain⟨u,k1,k2⟩:=hb;refine⟨_,λ i=>aGj (c1 i) (h1 i) (k1 i),λ U σ H ρ lab De R W=>c2 U σ H ρ lab _ R (W.bo.imp λ k _ w H1 s1=>?_)⟩;cases k with
 |true=>rw[if_pos rfl]at w ⊢;exact h2 U σ H1 ρ lab De (R.up s1) w
 |false=>rw[if_neg zA3]at w ⊢;exact k2 U σ H1 ρ lab De (R.up s1) w
def SV(C:Ct)(i:Nat)(s:Stmt)(m:Mode)(f:En->Rs D):Prop:=∃t,(∀j,PS (C.X j) s (aCh t (qu i)))/\jO C.K C.G m t f
def gk(he:SE C m e fe)(hN:∀j,(C.X j).N[i]? =some x:=by intro _;rfl)(hx:∀j,Loc (C.X j).env.scope x:=by intro _;first|exact zB6 rfl|exact zBH rfl)(hs:∀j,zCB e (some (.Name x pos')) pos.line (C.X j).env=pure false:=by intro _;rfl)(hf:∀j,(C.X j).fn x=true\/(C.X j).env.scope.names.lookup x=some .local:=by intro _;first|exact .inl rfl|exact .inr rfl)(nd:∀j,(C.X j).N.Nodup:=by intro _;assumption):
  SV C i (.Assign [.Name x pos'] e pos) m fe:=by
 obtain⟨t,h1,h2⟩:=he;exact⟨t,λ j=>aDS (nd j) (hN j) (hx j) (h1 j) (hs j) (hf j),h2⟩
def SVF(C:Ct)(i:Nat)(s:Stmt)(m:Mode)(f:En->Rs D):Prop:=∃t,(∀j,PS (C.X j) s (aCh t (qu i)))/\aI8 C.K C.G m t f
def jR(he:SF C m e fe)(hN:∀j,(C.X j).N[i]? =some x:=by intro _;rfl)(hx:∀j,Loc (C.X j).env.scope x:=by intro _;first|exact zB6 rfl|exact zBH rfl)(hs:∀j,zCB e (some (.Name x pos')) pos.line (C.X j).env=pure false:=by intro _;rfl)(hf:∀j,(C.X j).fn x=true\/(C.X j).env.scope.names.lookup x=some .local:=by intro _;first|exact .inl rfl|exact .inr rfl)(nd:∀j,(C.X j).N.Nodup:=by intro _;assumption):
  SVF C i (.Assign [.Name x pos'] e pos) m fe:=by
 obtain⟨t,h1,h2⟩:=he;exact⟨t,λ j=>aDS (nd j) (hN j) (hx j) (h1 j) (hs j) (hf j),h2⟩
def aB6(P:Nat->Bool):Mode->Bool
 |some L=>L.all P
 |none=>false
def mR(h:aB6 P m=true):∀k,inM m k->P k=true:=by
 intro k hk;cases m with
 |none=>cases h
 |some L=>exact zAn.mp h k hk
abbrev okS:Mode->Bool:=aB6 λ k=>decide (k<=1)
abbrev okN:Mode->Bool:=aB6 λ k=>k==1
abbrev okO(i:Nat):Mode->Bool:=aB6 λ k=>k==1||k==i+2
def cX(i:Nat)(fe:En->Rs D):En->Ou:=λ ρ=>(fe ρ).bo λ d=>.nx (ρ.set i (.sh d))
def vB(i:Nat)(fe:En->Rs D):En->Ou:=λ ρ=>(fe ρ).bo λ d=>.nx (ρ.set i (.nw d))
def fM(i:Nat)(fe:En->Rs D):En->Ou:=λ ρ=>(fe ρ).bo λ d=>.nx (ρ.set i (.ow d))
def RR.shared{K:zAA}(hm:okS m=true)(R:RR K G U ρ σ H lab)(s:aU H H')(r:Rp K (fpM m lab H) H' v d):
  RR K G U ρ σ H' (bY H 1 lab)/\Rp K (λ p=>(bY H 1 lab p).1<=1) H' v d:=R.fresh (P:=λ k=>k<=1) (by decide) (λ k hk=>of_decide_eq_true (mR hm k hk)) s r
def bf{i:Nat}(h:SV C i s m fe)(hm:okS m=true:=by rfl):SS C s (cX i fe):=by
 obtain⟨t,h1,h2⟩:=h;refine⟨_,h1,λ U σ H ρ lab De R W=>h2 U σ H ρ lab _ R (W.bo.imp λ d _ w v H' s r=>?_)⟩;obtain⟨R',r'⟩:=R.shared hm s r;exact w _ _ _ (R'.put (s:=.sh d) r')
def sH(h:SV C i s m fe)(hm:okN m=true:=by rfl):SS C s (vB i fe):=by
 obtain⟨t,h1,h2⟩:=h;refine⟨_,h1,λ U σ H ρ lab De R W=>h2 U σ H ρ lab _ R (W.bo.imp λ d _ w v H' s r=>?_)⟩;obtain⟨R',r'⟩:=R.fresh (P:=λ k=>k=1) rfl (λ k hk=>beq_iff_eq.mp (mR hm k hk)) s r;exact w _ _ _ (R'.put (s:=.nw d) r')
def dJ(h:SVF C i s m fe)(hm:okO i m=true:=by rfl):SS C s (fM i fe):=by
 obtain⟨t,h1,h2⟩:=h;refine⟨_,h1,λ U σ H ρ lab De R W=>h2 U σ H ρ lab _ R (W.bo.imp λ d _ w v H' s r ht=>?_)⟩;obtain⟨lab',R',r'⟩:=R.freshO i (λ k hk=>by have:=mR hm k hk;simpa using this) s r ht;exact w _ _ _ (R'.put (s:=.ow d) r')
def aI7(K:zAA)(G:Gx)(g:TG)(fg:D->En->Rs En):Prop:=∀U v d σ H ρ lab (Q:L2.St->Hp->Prop) ρ',RR K G U ρ σ H lab->Rp K (λ p=>(lab p).1<=1) H v d->fg d ρ= .ok ρ'->(∀σ',RR K G U ρ' σ' H lab->Q σ' H)->g v σ H Q
def aJY(K:zAA)(G:Gx)(g:TGs)(fg:List D->En->Rs En):Prop:=∀U vs ds σ H ρ lab (Q:L2.St->Hp->Prop) ρ',RR K G U ρ σ H lab->Rps K (λ p=>(lab p).1<=1) H vs ds->fg ds ρ= .ok ρ'->(∀σ',RR K G U ρ' σ' H lab->Q σ' H)->g vs σ H Q
def SG(C:Ct)(tg:Expr)(ks:List Nat)(fg:D->En->Rs En):Prop:=∃g,(∀i,PG (C.X i) tg g)/\aI7 C.K C.G g fg/\ut g ks/\aAC g
def SGs(C:Ct)(tg:List Expr)(ks:List Nat)(fg:List D->En->Rs En):Prop:=∃g,(∀i,PGs (C.X i) tg g)/\aJY C.K C.G g fg/\ur g ks/\qY g
def gnm(i:Nat):D->En->Rs En:=λ d ρ=>.ok (ρ.set i (.sh d))
def gq:List D->En->Rs En:=λ ds ρ=>match ds with
 |[]=>.ok ρ
 |_=>.st
def au(f:D->En->Rs En)(g:List D->En->Rs En):List D->En->Rs En:=λ ds ρ=>match ds with
 |d::r=>(f d ρ).bd (g r)
 |_=>.st
def gf(n:Nat)(g:List D->En->Rs En):D->En->Rs En:=λ d ρ=>match d with
 | .tup ds=>if ds.length=n then g ds ρ else .st
 |_=>.st
variable{ks:List Nat}{fg:D->En->Rs En}{fgs:List D->En->Rs En}{tg:Expr}{tgs:List Expr}
def aa(hN:∀j,(C.X j).N[i]? =some x:=by intro _;rfl)(hx:∀j,Loc (C.X j).env.scope x:=by intro _;first|exact zB6 rfl|exact zBH rfl)(hf:∀j,(C.X j).fn x=true\/(C.X j).env.scope.names.lookup x=some .local:=by intro _;first|exact .inl rfl|exact .inr rfl)(nd:∀j,(C.X j).N.Nodup:=by intro _;assumption)(hk:i∈ks:=by decide):SG C (.Name x pos) ks (gnm i):=
 ⟨_,λ j=>aFJ (nd j) (hN j) (hx j) (hf j),λ U v d σ H ρ lab Q ρ' R r e q=>by cases e;exact q _ (R.put (s:=.sh d) r),aGA hk,aGC⟩
def jC:SGs C [] ks gq:=by
 refine⟨_,λ _=>aFI,λ U vs ds σ H ρ lab Q ρ' R r e q=>?_,aFz,aGB⟩;cases r with
 |nil=>cases e;exact⟨rfl,q _ R⟩
 |cons _ _=>cases e
def bT(h:SG C tg ks fg)(k:SGs C tgs ks fgs)(hs:∀i,(zCR (tg::tgs) (C.X i).env).map (·.2)=zFO tg (C.X i).env::(zCR tgs (C.X i).env).map (·.2):=by intro _;rfl):SGs C (tg::tgs) ks (au fg fgs):=by
 obtain⟨g,h1,h2,h3,h4⟩:=h;obtain⟨u,k1,k2,k3,k4⟩:=k;refine⟨_,λ i=>aDY (h1 i) (k1 i) (hs i),λ U vs ds σ H ρ lab Q ρ' R r e q=>?_,aEI h3 h4 k3 k4,aEK h4 k4⟩;cases r with
 |nil=>cases e
 |cons h r=>
  obtain⟨ρ1,e1,e2⟩:=di e;exact⟨_,_,rfl,h2 U _ _ σ H ρ lab _ ρ1 R h e1 λ σ1 R1=>k2 U _ _ σ1 H ρ1 lab Q ρ' R1 r e2 q⟩
def kW(h:SGs C tgs ks fgs)(hn:∀i,(zCR tgs (C.X i).env).length=n:=by intro _;rfl)(hst:∀i,(zCR tgs (C.X i).env).findIdx? (·.1)=none:=by intro _;rfl):SG C (.Tuple tgs k pos) ks (gf n fgs):=by
 obtain⟨u,k1,k2,k3,k4⟩:=h;refine⟨aGD C.K n u,λ i=>by rw[<-C.hK i];exact aH3 (C.calm i) (k1 i) (hn i) (hst i),λ U v d σ H ρ lab Q ρ' R r e q=>?_,aIQ k3,aIR k4⟩;cases r with
 |tup h r=>
  unfold gf at e;dsimp only at e;split at e
  .rename_i hl
   exact⟨_,_,rfl,h,by rw[r.length];exact hl,k2 U _ _ σ H ρ lab Q ρ' R r e q⟩
  .cases e
 |_=>cases e
def zr(fe:En->Rs D)(fg:D->En->Rs En):En->Ou:=λ ρ=>(fe ρ).bo λ d=>match fg d ρ with
 | .ok ρ'=>.nx ρ'
 |_=>.st
def aAM(he:SE C m e fe)(hg:SG C tg ks fg)(hm:okS m=true:=by rfl)(hs:∀i,swapsWithSole [tg] e pos.line (C.X i).env=pure false:=by intro _;rfl)(hw:∀i,swappedStores [tg] e (C.X i).env=pure none:=by intro _;rfl)
  (h1:∀i,(zCR [tg] (C.X i).env).map (·.2)=[zFO tg (C.X i).env]:=by intro _;rfl):SS C (.Assign [tg] e pos) (zr fe fg):=by
 obtain⟨t,p1,p2⟩:=he;obtain⟨g,q1,q2,_,_⟩:=hg;refine⟨_,λ i=>aHZ (p1 i) (q1 i) (hs i) (hw i) (h1 i),λ U σ H ρ lab De R W=>p2 U σ H ρ lab _ R (W.bo.imp λ d _ w v H' s r=>?_)⟩;obtain⟨R',r'⟩:=R.shared hm s r;cases hgd:fg d ρ with
 |ok ρ'=>rw[hgd]at w;exact q2 U v d σ H' ρ _ _ ρ' R' r' hgd λ σ' R2=>w σ' H' _ R2
 |ex c=>rw[hgd]at w;exact zAK w
 |st=>rw[hgd]at w;exact zAK w
def JL(K:zAA)(lab:Lab)(J:It)(H:Hp)(ds:List D):Prop:=∀i,(ds.length<=i->J.stop i H)/\(i<ds.length->J.go i H/\∀x H',J.yld i H x H'->aU H H'/\∃d,ds[i]? =some d/\Rp K (λ p=>(lab p).1<=1) H' x d)
def aI6(K:zAA)(G:Gx)(wi:TI)(f:En->Rs (List D)):Prop:=∀U σ H ρ lab (Rr:It->Hp->Prop),RR K G U ρ σ H lab->
 WR G (f ρ) (λ ds=>∀J H1 lab1 U1,aU H H1->(∀p o,H p=some o->lab1 p=lab p)->RR K G (U1++U) ρ σ H1 lab1->(∀lab' H',(∀q∈U1,Rp K (λ p=>(lab' p).1<=1) H' q.1 q.2)->JL K lab' J H' ds)->Rr J H1)->wi σ H Rr
def SI(C:Ct)(tg iter:Expr)(f:En->Rs (List D)):Prop:=∃wi,(∀i,PI (C.X i) tg iter wi)/\aI6 C.K C.G wi f
def aIO(K:zAA)(tl:TE):TI:=λ σ H R=>tl σ H λ x H1=>∃a,x= .ref a/\(((∃xs,SqL K H1 a xs)/\R (Itl K a) H1)\/((∃xs,SqT K H1 a xs)/\R (Itt K a) H1))
def aDX(hl:PE X l tl):PI X tg l (aIO X.K tl):=by
 intro hV s σ H R I h;refine thn (hl hV s σ H _ I h) λ v s1 ⟨x,H1,I1,r1,a,e,q1⟩=>?_
 subst e;cases r1;have hp:∀b∈[s1.heap.objs.size],uv X hV H1 b:=λ b hb=>by
  have e:b=s1.heap.objs.size:=by simpa using hb
  rw[e];exact I1.fpOk (zAU _) (I1.hok.fresh (zAU _))
 rcases q1 with ⟨⟨xs,hq⟩,q⟩|⟨⟨xs,hq⟩,q⟩
 .obtain⟨its,rv,p,hz⟩:=I1.list hq
  refine zHQ p.isList ?_;exact⟨_,_,_,_,H1,rfl,I1.kept (t':=s1.toks) λ b o e=>zAG _ e,aBq a _,⟨_,zA6 _ rfl,rfl,rfl⟩,hp,q⟩
 .obtain⟨its,rv,p,hz⟩:=I1.tuple hq
  refine wpAny_pyIter_tuple (show s1.heap.IsTuple a its.toArray from p) ?_;exact⟨_,_,_,_,H1,rfl,I1.kept (t':=s1.toks) λ b o e=>zAG _ e,aAF a _,⟨_,zA6 _ rfl,rfl,rfl⟩,hp,q⟩
def itD:D->Rs (List D)
 | .tup l=>.ok l
 | .lst l=>.ok l
 | .scr l=>.ok (l.map .int)
 |_=>.st
def cT(fe:En->Rs D):En->Rs (List D):=λ ρ=>(fe ρ).bd itD
def aBb{K:zAA}(h:SqL K H a xs)(r:Rps K (λ p=>(lab p).1<=1) H xs ds):JL K lab (Itl K a) H ds:=by
 have hl:=r.length;refine λ i=>⟨λ hi=>⟨xs,h,by lia⟩,λ hi=>⟨⟨xs,xs[i]'(by lia),h,by simp[hl,hi]⟩,λ x H' y=>?_⟩⟩
 obtain⟨e,y⟩:=y;subst e;obtain⟨d,h1,h2⟩:=r.get (y xs h);exact⟨aU.refl _,d,h1,h2⟩
def aIH{K:zAA}(h:SqT K H a xs)(r:Rps K (λ p=>(lab p).1<=1) H xs ds):JL K lab (Itt K a) H ds:=by
 have hl:=r.length;refine λ i=>⟨λ hi=>⟨xs,h,by lia⟩,λ hi=>⟨⟨xs,xs[i]'(by lia),h,by simp[hl,hi]⟩,λ x H' y=>?_⟩⟩
 obtain⟨e,y⟩:=y;subst e;obtain⟨d,h1,h2⟩:=r.get (y xs h);exact⟨aU.refl _,d,h1,h2⟩
def cA(he:SE C m e fe)(hm:okS m=true:=by rfl):SI C tg e (cT fe):=by
 obtain⟨t,p1,p2⟩:=he;refine⟨aIO C.K t,λ i=>by rw[<-C.hK i];exact aDX (p1 i),λ U σ H ρ lab Rr R W=>p2 U σ H ρ lab _ R (W.bd.imp λ d _ w v H1 s r=>?_)⟩;obtain⟨R',r'⟩:=R.shared hm s r;cases d with
 |tup l=>
  cases r' with
  |tup h q=>
   rename_i a xs;refine⟨_,rfl,.inr ⟨⟨_,h⟩,w _ H1 _ [(.ref a,.tup l)] s (λ p o e=>bM e) ⟨R'.len,R'.sl,R'.old,R'.new,λ z hz=>?_⟩ λ lab' H' hq=>?_⟩⟩
   .rcases zAT.mp hz with rfl|hz
    .exact .tup h q
    .exact R'.tm z hz
   .have z:=hq _ (zAJ ..)
    cases z with
    |tup h' q'=>exact aIH h' q'
 |lst l=>
  cases r' with
  |lst h mm q=>
   rename_i a xs;refine⟨_,rfl,.inl ⟨⟨_,SqL.of h⟩,w _ H1 _ [(.ref a,.lst l)] s (λ p o e=>bM e) ⟨R'.len,R'.sl,R'.old,R'.new,λ z hz=>?_⟩ λ lab' H' hq=>?_⟩⟩
   .rcases zAT.mp hz with rfl|hz
    .exact .lst h mm q
    .exact R'.tm z hz
   .have z:=hq _ (zAJ ..)
    cases z with
    |lst h' _ q'=>exact aBb (SqL.of h') (q'.wk λ _ _ _ z=>z.1)
 |scr l=>
  cases r' with
  |scr h=>
   rename_i a;refine⟨_,rfl,.inl ⟨⟨_,h.sq⟩,w _ H1 _ [(.ref a,.scr l)] s (λ p o e=>bM e) ⟨R'.len,R'.sl,R'.old,R'.new,λ z hz=>?_⟩ λ lab' H' hq=>?_⟩⟩
   .rcases zAT.mp hz with rfl|hz
    .exact .scr h
    .exact R'.tm z hz
   .have z:=hq _ (zAJ ..)
    cases z with
    |scr h'=>exact aBb h'.sq Rps.ints
 |_=>exact zAK w
end
section
variable{C:Ct}{pos:Pos}{s:Stmt}{ss:List Stmt}{f:En->Ou}{e a b:Expr}{es:List Expr}{m:Mode}{fa:En->Rs D}{ks:List Nat}{fg:D->En->Rs En}{tg:Expr}{fi:En->Rs (List D)}{ga:En->Rs (List D)}
def bC(lo hi:Int):List D:=(zBB (hi-lo).toNat).map λ(k:Nat)=>.int (lo+(k:Int))
def jN:List D->Rs (List D)
 |[.int j]=>if -(2^62)<=j/\j<2^62 then .ok (bC 0 j)else .st
 |_=>.st
def aAY:List D->Rs (List D)
 |[.int i,.int j]=>if (-(2^62)<=i/\i<2^62)/\(-(2^62)<=j/\j<2^62)then .ok (bC i j)else .st
 |_=>.st
def iU(r:List D->Rs (List D))(ga:En->Rs (List D)):En->Rs (List D):=λ ρ=>(ga ρ).bd r
def aDu{K:zAA}{lo hi:Int}:JL K lab (Itr lo (hi-lo).toNat) H (bC lo hi):=by
 have hl:(bC lo hi).length=(hi-lo).toNat:=by unfold bC;simp
 refine λ i=>⟨λ h=>by show(hi-lo).toNat<=i;lia,λ h=>⟨by show i<(hi-lo).toNat;lia,λ x H' y=>?_⟩⟩
 obtain⟨e,rfl⟩:=y;subst e;refine⟨aU.refl _,.int (lo+i),?_,.int _⟩;unfold bC;rw[zAV,zDr (by lia)];rfl
def gm(ha:SA C m [a] ga)(hm:C.mg "range"=none)(hs:∀i,zAX [a] (C.X i).env=[(false,eval a (C.X i).env)]:=by intro _;rfl)(hg:∀i,Gl (C.X i) "range":=by intro _;rfl):SI C tg (.Call (.Name "range" p) [a] [] pos) (iU jN ga):=by
 obtain⟨t,h1,h2⟩:=ha;refine⟨_,λ i=>aCD (hg i) (by rw[(C.cx i).2.2.2.1];exact hm) (h1 i) (hs i),λ U σ H ρ lab Rr R W=>h2 U σ H ρ lab _ R (W.bd.imp λ ds _ w vs H1 s r=>?_)⟩;unfold jN at w;split at w
 .rename_i j _
  split at w
  .rename_i hj
   cases r with
   |cons h r=>
    cases h;cases r;refine⟨j,rfl,hj.1,hj.2,?_⟩;have z:=w (Itr 0 (j-0).toNat) H1 lab [] s (λ _ _ _=>rfl) (R.up s) λ lab' H' _=>aDu
    rwa [Int.sub_zero]at z
  .exact zAK w
 .exact zAK w
def aBR(ha:SA C m [a,b] ga)(hm:C.mg "range"=none)(hs:∀i,zAX [a,b] (C.X i).env=[(false,eval a (C.X i).env),(false,eval b (C.X i).env)]:=by intro _;rfl)(hs2:∀i,zAX [b] (C.X i).env=[(false,eval b (C.X i).env)]:=by intro _;rfl)(hg:∀i,Gl (C.X i) "range":=by intro _;rfl):SI C tg (.Call (.Name "range" p) [a,b] [] pos) (iU aAY ga):=by
 obtain⟨t,h1,h2⟩:=ha;refine⟨_,λ i=>aCC (hg i) (by rw[(C.cx i).2.2.2.1];exact hm) (h1 i) (hs i) (hs2 i),λ U σ H ρ lab Rr R W=>h2 U σ H ρ lab _ R (W.bd.imp λ ds _ w vs H1 s r=>?_)⟩;unfold aAY at w;split at w
 .rename_i i j _
  split at w
  .rename_i hj
   cases r with
   |cons h r=>
    cases h;cases r with
    |cons h r=>
     cases h;cases r;exact⟨i,j,rfl,⟨hj.1.1,hj.1.2,hj.2.1,hj.2.2⟩,w (Itr i (j-i).toNat) H1 lab [] s (λ _ _ _=>rfl) (R.up s) λ lab' H' _=>aDu⟩
  .exact zAK w
 .exact zAK w
def forL(fg:D->En->Rs En)(b:En->Ou):List D->En->Ou
 |[],ρ=>.nx ρ
 |d::ds,ρ=>match fg d ρ with
  | .ok ρ1=>match b ρ1 with
   | .nx ρ2=>forL fg b ds ρ2
   | .ct ρ2=>forL fg b ds ρ2
   | .bk ρ2=>.nx ρ2
   |o=>o
  |_=>.st
def gM(fi:En->Rs (List D))(fg:D->En->Rs En)(b:En->Ou):En->Ou:=λ ρ=>(fi ρ).bo λ ds=>forL fg b ds ρ
def cP(hi:SI C tg e fi)(hg:SG C tg ks fg)(hb:SSs C ss f)(hs:∀i,∀x,zB3 e (C.X i).env x=pure x:=by intro _ _;rfl):SS C (.For tg e ss [] pos) (gM fi fg f):=by
 obtain⟨wi,i1,i2⟩:=hi;obtain⟨gg,g1,g2,_,g4⟩:=hg;obtain⟨tb,b1,b2⟩:=hb;refine⟨_,λ i=>aDU (C.own i) (C.calm i) (i1 i) (g1 i) (b1 i) (hs i),λ U σ H ρ lab De R W=>i2 U σ H ρ lab _ R (W.bo.imp λ ds _ w J H1 lab1 U1 s1 _ R1 jl=>?_)⟩;refine⟨λ i n σ' H'=>∃ρ' lab',RR C.K C.G (U1++U) ρ' σ' H' lab'/\n=ds.length-i/\i<=ds.length/\WS C.K C.G U (forL fg f (ds.drop i) ρ') De,⟨ds.length,ρ,lab1,R1,by lia,by lia,w⟩,?_⟩;rintro i n σ' H' ⟨ρ',lab',R',rfl,hi,w'⟩;have jj:=jl lab' H' λ q hq=>R'.tm q (zAI _ hq)
 by_cases hlt:i<ds.length
 .obtain⟨go,yl⟩:=(jj i).2 hlt
  refine .inr ⟨go,λ σ2 H2=>∃ρ2 lab2,RR C.K C.G (U1++U) ρ2 σ2 H2 lab2/\WS C.K C.G U (forL fg f (ds.drop (i+1)) ρ2) De,λ σ2 H2 ⟨ρ2,lab2,R2,w2⟩=>⟨ds.length-(i+1),by lia,ρ2,lab2,R2,rfl,hlt,w2⟩,λ x H2 hy=>?_⟩;obtain⟨s2,d,ed,rx⟩:=yl x H2 hy;replace R':=R'.up s2;have ed2:ds.drop i=d::ds.drop (i+1):=by
   rw[zBc hlt]
   have:=zAC hlt
   rw[ed]at this;cases this;rfl
  rw[ed2]at w';unfold forL at w';cases eg:fg d ρ' with
  |ex c=>rw[eg]at w';exact zAK w'
  |st=>rw[eg]at w';exact zAK w'
  |ok ρ1=>
   rw[eg]at w';refine g2 (U1++U) x d σ' H2 ρ' lab' _ ρ1 R' rx eg λ σ1 R1'=>b2 (U1++U) σ1 H2 ρ1 lab' _ R1' ?_
   dsimp only at w';cases eb:f ρ1 with
   |nx ρ2=>rw[eb]at w';exact λ σ2 H3 lab2 R2=>⟨ρ2,lab2,R2,w'⟩
   |ct ρ2=>rw[eb]at w';exact λ σ2 H3 lab2 R2=>⟨ρ2,lab2,R2,w'⟩
   |bk ρ2=>rw[eb]at w';exact λ σ2 H3 lab2 R2=>w' σ2 H3 lab2 R2.drop
   |rt d=>rw[eb]at w';exact w'
   |ex c=>rw[eb]at w';exact w'
   |st=>rw[eb]at w';exact w'
 .have e:i=ds.length:=by lia
  subst e;rw[zDN]at w';exact .inl ⟨(jj _).1 (zAU _),w' σ' H' lab' R'.drop⟩
def itW(c:En->Rs Bool)(b:En->Ou):Nat->En->Ou
 |0,_=>.st
 |n+1,ρ=>(c ρ).bo λ k=>if k=true then(match b ρ with
   | .nx ρ2=>itW c b n ρ2
   | .ct ρ2=>itW c b n ρ2
   | .bk ρ2=>.nx ρ2
   |o=>o)else .nx ρ
def fuel:Nat:=1000000
def pq(c:En->Rs Bool)(b:En->Ou):En->Ou:=itW c b fuel
def yV(hc:ST C c fc)(hb:SSs C ss f):SS C (.While c ss [] pos) (pq fc f):=by
 obtain⟨tc,c1,c2⟩:=hc;obtain⟨tb,b1,b2⟩:=hb;refine⟨_,λ i=>aDR (C.own i) (c1 i) (b1 i),λ U σ H ρ lab De R W=>?_⟩;refine⟨λ n σ' H'=>∃ρ' lab',RR C.K C.G U ρ' σ' H' lab'/\WS C.K C.G U (itW fc f n ρ') De,⟨fuel,ρ,lab,R,W⟩,?_⟩;rintro n σ' H' ⟨ρ',lab',R',w'⟩;cases n with
 |zero=>exact zAK w'
 |succ n=>
  refine c2 U σ' H' ρ' lab' _ R' (WS.bo (show WS C.K C.G U ((fc ρ').bo _) De from w') |>.imp λ k _ w H1 s1=>?_);cases k with
  |false=>
   rw[if_neg zA3]at w ⊢;exact w σ' H1 lab' (R'.up s1)
  |true=>
   rw[if_pos rfl]at w ⊢;refine⟨λ σ2 H2=>∃ρ2 lab2,RR C.K C.G U ρ2 σ2 H2 lab2/\WS C.K C.G U (itW fc f n ρ2) De,λ σ2 H2 ⟨ρ2,lab2,R2,w2⟩=>⟨n,zCg n,ρ2,lab2,R2,w2⟩,?_⟩;refine b2 U σ' H1 ρ' lab' _ (R'.up s1) ?_;cases eb:f ρ' with
   |nx ρ2=>rw[eb]at w;exact λ σ2 H3 lab2 R2=>⟨ρ2,lab2,R2,w⟩
   |ct ρ2=>rw[eb]at w;exact λ σ2 H3 lab2 R2=>⟨ρ2,lab2,R2,w⟩
   |bk ρ2=>rw[eb]at w;exact w
   |rt d=>rw[eb]at w;exact w
   |ex c=>rw[eb]at w;exact w
   |st=>rw[eb]at w;exact w
def qL(x:Str)(ga:En->Rs (List D)):En->Ou:=λ ρ=>(ga ρ).bo λ ds=>if ds.length<=zAQ then .ex x else .st
def tK{rest:List Expr}(hd:C.dOk=true)(hm:C.mg x=some (.ref Ca))(hcl:C.G.cl x=Ca)(hC:kE C.K Ca)(ha:SA C m (zC::rest) ga)(he:∀i,zAX (zC::rest) (C.X i).env=(false,eval zC (C.X i).env)::zAX rest (C.X i).env:=by intro _;rfl)(hplain:∀i,(zBv cpos (zAX rest (C.X i).env)).any (·.1)=false:=by intro _;rfl)(hdb:Nd x:=by decide)(hg:∀i,Gl (C.X i) x:=by intro _;rfl):SS C (.Raise (some (.Call (.Name x np) (zC::rest) [] cpos)) none pos) (qL x ga):=by
 obtain⟨t,h1,h2⟩:=ha;refine⟨_,λ i=>aDT (C.dcx hd i) (C.calm i) (by rw[(C.cx i).2.2.2.1];exact hm) (by rw[C.hK i];exact hC) (hg i) (h1 i) (he i) (hplain i) hdb,λ U σ H ρ lab De R W=>h2 U σ H ρ lab _ R (W.bo.imp λ ds _ w vs H1 s r=>?_)⟩;by_cases hz:ds.length<=zAQ
 .rw[if_pos hz]at w
  refine⟨by rw[r.length];exact hz,?_⟩
  have:=w H1 (R.old.trans s)
  rwa [hcl]at this
 .rw[if_neg hz]at w
  exact zAK w
def spF(K:zAA)(cl:Str->Addr)(n:Nat)(F:List D->Rs D):Sp:=λ vs H Q E=>∃ds,vs.length=n/\Rps K (λ _=>True) H vs ds/\WR ⟨H,E,cl⟩ (F ds) (λ d=>∀v H',aU H H'->Rp K (λ p=>H p=none) H' v d->Q v H')
def aP(F:List D->Rs D)(ga:En->Rs (List D)):En->Rs D:=λ ρ=>(ga ρ).bd F
def aCu{K:zAA}(hn:∀ρ ds,ga ρ= .ok ds->ds.length=n)(h:aGV K G m t ga):jO K G (some []) (aG5 (spF K G.cl n F) [] G.E t) (aP F ga):=by
 intro U σ H ρ lab Q R W;refine h U σ H ρ lab _ R (W.bd.imp λ ds eds w vs H1 s r=>⟨ds,by rw[zAj,r.length];exact hn ρ ds eds,by rw[zAj];exact r.wk λ _ _ _ _=>trivial,?_⟩);cases hF:F ds with
 |ok d=>
  rw[hF]at w;exact λ v H' s' r'=>w v H' (s.trans s') (r'.wk λ p o _ z=>.inl (s.free z))
 |ex c=>rw[hF]at w;exact λ H' s'=>w H' ((R.old.trans s).trans s')
 |st=>rw[hF]at w;exact w
variable{k:Nat}{fn:Addr}{fd:zA9}{ps:List Str}{x:Str}{p:Pos}{F:List D->Rs D}{n:Nat}
def aEw(hF:b7 C.prog C.w C.K C.mg C.base (CX1 C.prog C.w) k fn fd ps (spF C.K C.G.cl n F))(hr:k<=C.k)(hm:C.mg x=some (.ref fn))(hk:zC2 C.K (.ref fn)=true)(hb:Binds C.K fd ps [])(ha:SA C m (e::es) ga)(hn:∀ρ ds,ga ρ= .ok ds->ds.length=n)(hdb:Nd x:=by decide)(he:∀i,zAX (e::es) (C.X i).env=(false,eval e (C.X i).env)::zAX es (C.X i).env:=by intro _;rfl)(hpl:∀i,(zBv pos (zAX es (C.X i).env)).any (·.1)=false:=by intro _;rfl)(hg:∀i,Gl (C.X i) x:=by intro _;rfl):SE C (some []) (.Call (.Name x p) (e::es) [] pos) (aP F ga):=by
 obtain⟨t,h1,h2⟩:=ha;refine⟨_,λ i=>?_,aCu hn h2⟩;obtain⟨e1,e2,e3,e4,e5⟩:=C.cx i;refine aFO (CX:=CX1 (C.X i).prog (C.X i).w) (by rw[e1,e2,e3,e4,e5];exact hF) ((C.room i).mono hr) (hg i) (by rw[e4];exact hm) (by rw[e3];exact hk) (by rw[e3];exact hb) .nil (C.pass i) (h1 i) hdb (he i) (hpl i)
def aFh(h:aH ρ= .ok ds):ds.length=0:=by cases h;rfl
def aDm(h:∀ρ ds,ga ρ= .ok ds->ds.length=n):∀ρ ds,aC fa ga ρ= .ok ds->ds.length=n+1:=λ ρ ds e=>by
 obtain⟨d,_,e⟩:=di e;obtain⟨r,er,e⟩:=di e;cases e;rw[zA2,h ρ r er]
end
def bQ(mg:Str->Option Value):Str->Addr:=λ x=>match mg x with
 |some (.ref a)=>a
 |_=>0
abbrev ctD(P:zAZ)(w:World)(K:zAA)(mg:Str->Option Value)(base:Heap)(N:List Str)(q:Str)(sc:Scope)(f:Addr)(cdv:Value)(A:zAc)(outer:List Env)(s:zAE)(H:Hp)(E:XK)(k:Nat)(hr:jA k (A.deeper (zDf q sc s.heap.objs.size f cdv))):Ct where
 ι:=Unit
 X:=λ _=>za (CX1 P w) P w K mg base N q sc f cdv A outer s H E
 prog:=P
 w:=w
 K:=K
 mg:=mg
 base:=base
 k:=k
 G:=⟨H,E,bQ mg⟩
 cx:=λ _=>⟨rfl,rfl,rfl,rfl,rfl⟩
 calm:=λ _=>rfl
 room:=λ _=>hr
 own:=λ _=>iy.own iy.of
 pass:=λ _=>iy.pass iy.of
 dOk:=true
 dcx:=λ _ _=>iy.of
def aj(n:Nat)(ds:List D):En:=ds.map .sh++zAM (n-ds.length) .no
def dM(n:Nat)(f:En->Ou):List D->Rs D:=λ ds=>match f (aj n ds)with
 | .nx _=>.ok .non
 | .rt d=>.ok d
 | .ex c=>.ex c
 |_=>.st
theorem RR.start{K:zAA}(r:Rps K (λ _=>True) H vs ds):RR K ⟨H,E,cl⟩ [] (aj N.length ds) (start N vs) H (λ _=>(0,0)):=by
 have hl:=r.length;refine⟨by unfold aj L2.start;simp[hl],λ i s e=>?_,aU.refl H,λ p hp=>absurd rfl hp,λ q hq=>by cases hq⟩;unfold aj at e;by_cases hi:i<ds.length
 .rw[zBd (by simpa using hi),zAV]at e
  cases ed:ds[i]? with
  |none=>rw[ed]at e;cases e
  |some d=>
   rw[ed]at e;cases e;obtain⟨x,ex,rx⟩:=r.getD ed;refine .inr ⟨x,?_,rx.wk λ _ _ _ _=>zAi _⟩;unfold L2.start;rw[zBd (by simpa[hl]using hi),zAV,ex];rfl
 .rw[zCu (by simpa using hi),zBq]at e
  split at e
  .cases e;exact .inl rfl
  .cases e
section
variable{P:zAZ}{w:World}{K:zAA}{mg:Str->Option Value}{base:Heap}
def aIX{x q:Str}{st:Stmt}(F:L2.Fun K x q st fn fd)(S:aX N ps (aO st))
  (hb:∀cdv A outer s H E hr,SSs (ctD P w K mg base N q (aO st) fn cdv A outer s H E k hr) (gH st) f):
  b7 P w K mg base (CX1 P w) (k+1) fn fd ps (spF K (bQ mg) ps.length (dM N.length f)):=by
 refine F.okX S (λ vs H Q E ⟨ds,hl,_⟩=>hl) λ cdv A outer s H vs Q E hr ⟨ds,hl,r,W⟩=>?_
 obtain⟨t,h1,h2⟩:=hb cdv A outer s H E hr;refine⟨t,h1 (),h2 [] _ H _ _ _ (RR.start r) ?_⟩;unfold dM at W;cases e:f (aj N.length ds)with
 |nx ρ=>rw[e]at W;exact λ σ' H' lab R=>W .non H' R.old .non
 |rt d=>rw[e]at W;exact λ v H' s r=>W v H' s r
 |ex c=>rw[e]at W;exact W
 |bk ρ=>rw[e]at W;exact zAK W
 |ct ρ=>rw[e]at W;exact zAK W
 |st=>rw[e]at W;exact zAK W
def aGF{st:Stmt}(F:L2.Fun K x q st fn fd)(S:aX N ps (aO st))
  (hb:∀cdv A outer s H E hr,SSs (ctD P w K mg base N q (aO st) fn cdv A outer s H E k hr) (gH st) f)(hn:ps.length=n)(hF:dM N.length f=FF):
  b7 P w K mg base (CX1 P w) (k+1) fn fd ps (spF K (bQ mg) n FF):=by
 subst hn hF;exact aIX F S hb
end
def OpR.or(h:OpR X f r)(h':OpR X f r'):OpR X f (λ x y H Q=>r x y H Q\/r' x y H Q):=by
 intro hV s σ H x y v u Q I rx ry q;rcases q with q|q
 .exact h hV s σ H x y v u Q I rx ry q
 .exact h' hV s σ H x y v u Q I rx ry q
def OpS.or{K:zAA}(h:OpS K r fd)(h':OpS K r' fd'):OpS K (λ x y H Q=>r x y H Q\/r' x y H Q) (λ d e=>match fd d e with
  | .ok z=>.ok z
  |_=>fd' d e):=by
 intro A x y d e H Q z rx ry ez q;dsimp only at ez;cases hd:fd d e with
 |ok w=>rw[hd]at ez;cases ez;exact .inl (h A x y d e H Q _ rx ry hd q)
 |ex c=>rw[hd]at ez;exact .inr (h' A x y d e H Q z rx ry ez q)
 |st=>rw[hd]at ez;exact .inr (h' A x y d e H Q z rx ry ez q)
section
variable{K:zAA}
def i2(p:Int->Int->Bool)(g:Int->Int->D):D->D->Rs D
 | .int i,.int j=>if p i j=true then .ok (g i j)else .st
 |_,_=>.st
def aA7{g:Int->Int->Int}(hp:∀i j,p i j=true->c i j):OpS K (rI c λ i j=>.int (g i j)) (i2 p λ i j=>.int (g i j)):=by
 intro A x y d e H Q z rx ry ez q;unfold i2 at ez;split at ez
 .rename_i i j
  split at ez
  .rename_i h
   cases ez;obtain rfl:=rx.int_inv;obtain rfl:=ry.int_inv;exact⟨i,j,rfl,rfl,hp i j h,q _ H (aU.refl H) (.int _)⟩
  .cases ez
 .cases ez
def aFU{g:Int->Int->Int}:OpS K (rI0 λ i j=>.int (g i j)) (i2 (λ _ _=>true) λ i j=>.int (g i j)):=by
 intro A x y d e H Q z rx ry ez q;unfold i2 at ez;split at ez
 .rename_i i j
  cases ez;obtain rfl:=rx.int_inv;obtain rfl:=ry.int_inv;exact⟨i,j,rfl,rfl,q _ H (aU.refl H) (.int _)⟩
 .cases ez
def xJ{g:Int->Int->Bool}:OpS K (rI0 λ i j=>.bl (g i j)) (i2 (λ _ _=>true) λ i j=>.bl (g i j)):=by
 intro A x y d e H Q z rx ry ez q;unfold i2 at ez;split at ez
 .rename_i i j
  cases ez;obtain rfl:=rx.int_inv;obtain rfl:=ry.int_inv;exact⟨i,j,rfl,rfl,q _ H (aU.refl H) (.bl _)⟩
 .cases ez
def xY{g:Int->Int->Int}:∀x y z,i2 p (λ i j=>.int (g i j)) x y= .ok z->imm z=true:=by
 intro x y z e;unfold i2 at e;split at e
 .split at e
  .cases e;rfl
  .cases e
 .cases e
def aEF{g:Int->Int->Bool}:∀x y z,i2 p (λ i j=>.bl (g i j)) x y= .ok z->imm z=true:=by
 intro x y z e;unfold i2 at e;split at e
 .split at e
  .cases e;rfl
  .cases e
 .cases e
def cM:D->D->Rs D
 | .int i,.int j=>.ok (.int (i+j))
 | .lst l,.lst m=>if l.length+m.length<=zAQ then .ok (.lst (l++m))else .st
 | .tup l,.tup m=>if l.length+m.length<=zAQ then .ok (.tup (l++m))else .st
 |_,_=>.st
def aGg(K:zAA):R2:=λ x y H Q=>∃a b xs ys,x= .ref a/\y= .ref b/\SqT K H a xs/\SqT K H b ys/\xs.length+ys.length<=zAQ/\
 (xs=[]->Q (.ref b) H)/\(ys=[]->Q (.ref a) H)/\New H (.tup (xs++ys)) Q
def aF1:OpR X (zB9 .Add) (aGg X.K):=by
 intro hV s σ H x y v u Q I rx ry h;obtain⟨a,b,xs,ys,rfl,rfl,ha,hb,hz,q0,q1,q2⟩:=h;by_cases hx:xs=[]
 .subst hx
  cases rx;cases ry;obtain⟨its,r1,p1,_⟩:=I.tuple ha;obtain⟨its2,r2,p2,_⟩:=I.tuple hb;cases r1;exact HT.aEX p1 p2 ⟨.ref b,H,I,rfl,q0 rfl⟩
 .exact aF2 hV s σ H _ _ v u Q I rx ry ⟨a,b,xs,ys,rfl,rfl,ha,hb,hx,hz,q1,λ _ p hp=>q2.at hp⟩
def aDP(K:zAA):R2:=λ x y H Q=>rI0 (λ i j=>.int (i+j)) x y H Q\/(aGh x y H Q\/aGg K x y H Q)
def aF4:OpR X (zB9 .Add) (aDP X.K):=OpR.or aHv (OpR.or aF3 aF1)
def aHf:OpS K (aDP K) cM:=by
 intro A x y d e H Q z rx ry ez q;unfold cM at ez;split at ez
 .cases ez;obtain rfl:=rx.int_inv;obtain rfl:=ry.int_inv;exact .inl ⟨_,_,rfl,rfl,q _ H (aU.refl H) (.int _)⟩
 .split at ez
  .rename_i hl
   cases ez;obtain⟨_,_,rfl,h1,m1,r1⟩:=rx.lst_inv;obtain⟨_,_,rfl,h2,m2,r2⟩:=ry.lst_inv;refine .inr (.inl ⟨_,_,_,_,rfl,rfl,h1,h2,by rw[r1.length,r2.length];exact hl,λ p H' s hp hn=>q _ H' s (.lst hp (.inl hn) ?_)⟩);exact(((r1.wk λ _ _ _ z=>z.1).append (r2.wk λ _ _ _ z=>z.1)).wk (A':=λ q=>(H q=none\/A q)/\q≠p) λ q o e z=>⟨.inr z,λ e'=>by subst e';rw[hn]at e;cases e⟩).up s
  .cases ez
 .split at ez
  .rename_i hl
   cases ez;obtain⟨_,_,rfl,h1,r1⟩:=rx.tup_inv;obtain⟨_,_,rfl,h2,r2⟩:=ry.tup_inv;have r1':=r1.wk (A':=λ p=>H p=none\/A p) λ _ _ _ z=>.inr z
   have r2':=r2.wk (A':=λ p=>H p=none\/A p) λ _ _ _ z=>.inr z
   refine .inr (.inr ⟨_,_,_,_,rfl,rfl,h1,h2,by rw[r1.length,r2.length];exact hl,λ e=>?_,λ e=>?_,λ p H' s hp hn=>q _ H' s (.tup (SqT.of hp) ((r1'.append r2').up s))⟩)
   .subst e
    cases r1';exact q _ H (aU.refl H) (.tup h2 r2')
   .subst e
    cases r2';rw[zAj]at q;exact q _ H (aU.refl H) (.tup h1 r1')
  .cases ez
 .cases ez
def lM:D->D->Rs D
 | .int i,.int j=>if (decide (-(2^64)<i)&&decide (i<2^64))||(decide (-(2^64)<j)&&decide (j<2^64))then .ok (.int (i*j))else .st
 | .lst l,.int k=>if decide (-(2^63)<=k)&&decide (k<2^63)&&decide (l.length*k.toNat<=zAQ)&&dU l then .ok (.lst (zAM k.toNat l).flatten)else .st
 |_,_=>.st
theorem Rps.rep(r:Rps K A H xs ds):∀k:Nat,Rps K A H (zAM k xs).flatten (zAM k ds).flatten
 |0=>.nil
 |k+1=>by
  rw[zBZ,zBZ,zCF,zCF];exact r.append (Rps.rep r k)
def aGc:R2:=λ x y H Q=>rI aG1 (λ i j=>.int (i*j)) x y H Q\/aIr x y H Q
def aFZ:OpR X (zB9 .Mult) aGc:=OpR.or aHm aHj
def aHd:OpS K aGc lM:=by
 intro A x y d e H Q z rx ry ez q;unfold lM at ez;split at ez
 .split at ez
  .rename_i hc
   cases ez;obtain rfl:=rx.int_inv;obtain rfl:=ry.int_inv;refine .inl ⟨_,_,rfl,rfl,?_,q _ H (aU.refl H) (.int _)⟩;simp only[zCX,zAN,decide_eq_true_eq]at hc;exact hc
  .cases ez
 .split at ez
  .rename_i hc
   simp only[zAN,decide_eq_true_eq]at hc;cases ez;obtain⟨_,_,rfl,h1,m1,r1⟩:=rx.lst_inv;obtain rfl:=ry.int_inv;refine .inr ⟨_,_,_,rfl,rfl,h1,hc.1.1.1,hc.1.1.2,by rw[r1.length];exact hc.1.2,λ p hp=>q _ _ (bI hp _) (.lst aq (.inl hp) ?_)⟩;exact((r1.rep _).wk (A':=λ q=>(H q=none\/A q)/\q≠p) λ q o e z=>⟨.inr z.1,λ e'=>by subst e';rw[hp]at e;cases e⟩).up (bI hp _)
  .cases ez
 .cases ez
def intsOf:List D->Option (List Int)
 |[]=>some []
 | .int i::r=>(intsOf r).map (i::·)
 |_=>none
theorem eQ:∀{l:List D} {ns:List Int},intsOf l=some ns->l=ns.map .int
 |[],ns,h=>by cases h;rfl
 | .int i::r,ns,h=>by
  simp only[intsOf,zC1]at h;obtain⟨ms,h1,rfl⟩:=h;rw[eQ h1];rfl
 | .non::_,_,h=>by cases h
 | .bl _::_,_,h=>by cases h
 | .str _::_,_,h=>by cases h
 | .tup _::_,_,h=>by cases h
 | .lst _::_,_,h=>by cases h
 | .dct _ _::_,_,h=>by cases h
 | .set _::_,_,h=>by cases h
 | .scr _::_,_,h=>by cases h
theorem fW:∀ns:List Int,intsOf (ns.map .int)=some ns
 |[]=>rfl
 |n::ns=>by simp only[zAP,intsOf,fW ns,zDS]
def ltT(p:List Int->List Int->Bool):D->D->Rs D
 | .tup l,.tup m=>match intsOf l,intsOf m with
  |some ns,some ms=>.ok (.bl (p ns ms))
  |_,_=>.st
 |_,_=>.st
def aBV(r:Rp K A H x (.tup l))(e:intsOf l=some ns):∃a,x= .ref a/\SqT K H a (ns.map V.int):=by
 have:=eQ e
 subst this;cases r with
 |tup h r=>
  have:=r.ints_of
  subst this;exact⟨_,rfl,h⟩
def aB5(hr:∀x y H Q,(∃a b ns ms,x= .ref a/\y= .ref b/\SqT K H a (ns.map V.int)/\SqT K H b (ms.map V.int)/\Q (.bl (p ns ms)) H)->r x y H Q):OpS K r (ltT p):=by
 intro A x y d e H Q z rx ry ez q;unfold ltT at ez;split at ez
 .split at ez
  .rename_i ns ms e1 e2
   cases ez;obtain⟨a,rfl,ha⟩:=aBV rx e1;obtain⟨b,rfl,hb⟩:=aBV ry e2;exact hr _ _ _ _ ⟨a,b,ns,ms,rfl,rfl,ha,hb,q _ H (aU.refl H) (.bl _)⟩
  .cases ez
 .cases ez
def ltD:D->D->Rs D:=λ d e=>match i2 (λ _ _=>true) (λ i j=>.bl (decide (i<j))) d e with
 | .ok z=>.ok z
 |_=>ltT HT.lexLt d e
def leD:D->D->Rs D:=λ d e=>match i2 (λ _ _=>true) (λ i j=>.bl (decide (i<=j))) d e with
 | .ok z=>.ok z
 |_=>ltT HT.lexLe d e
def gtD:D->D->Rs D:=i2 (λ _ _=>true) (λ i j=>.bl (decide (j<i)))
def geD:D->D->Rs D:=i2 (λ _ _=>true) (λ i j=>.bl (decide (j<=i)))
def aHo(hu:X.A.units<cLine):OpR X (zAp .Lt) (λ x y H Q=>rI0 (λ i j=>.bl (decide (i<j))) x y H Q\/aEz X.K x y H Q):=OpR.or aJD (aHp hu)
def aHq(hu:X.A.units<cLine):OpR X (zAp .LtE) (λ x y H Q=>rI0 (λ i j=>.bl (decide (i<=j))) x y H Q\/aFA X.K x y H Q):=OpR.or aJE (aHr hu)
def aD6:OpS K (λ x y H Q=>rI0 (λ i j=>.bl (decide (i<j))) x y H Q\/aEz K x y H Q) ltD:=OpS.or xJ (aB5 λ _ _ _ _ h=>h)
def aD7:OpS K (λ x y H Q=>rI0 (λ i j=>.bl (decide (i<=j))) x y H Q\/aFA K x y H Q) leD:=OpS.or xJ (aB5 λ _ _ _ _ h=>h)
def aBh(e:ltT p x y= .ok z):imm z=true:=by
 unfold ltT at e;split at e
 .split at e
  .cases e;rfl
  .cases e
 .cases e
def aEC:∀x y z,ltD x y= .ok z->imm z=true:=by
 intro x y z e;unfold ltD at e;split at e
 .rename_i w hw;cases e;exact aEF _ _ _ hw
 .exact aBh e
def aIN:∀x y z,leD x y= .ok z->imm z=true:=by
 intro x y z e;unfold leD at e;split at e
 .rename_i w hw;cases e;exact aEF _ _ _ hw
 .exact aBh e
def isD(neg:Bool):D->D->Rs D
 | .bl a,.bl b=>if neg then .st else .ok (.bl (a==b))
 |d,.non=>match d with
  | .non=>.ok (.bl (!neg))
  |_=>.ok (.bl neg)
 |_,_=>.st
def aHO(r:Rp K A H x d)(h:d≠.non):x≠.non:=by
 cases r with
 |non=>exact absurd rfl h
 |_=>exact λ e=>by cases e
def aD8:OpS K (λ x y H Q=>y= .non/\Q (.bl (!decide (x= .non))) H) (isD true):=by
 intro A x y d e H Q z rx ry ez q;unfold isD at ez;split at ez
 .cases ez
 .cases ry
  split at ez
  .cases ez;cases rx;exact⟨rfl,by rw[decide_eq_true rfl];exact q _ H (aU.refl H) (.bl _)⟩
  .rename_i hn
   cases ez;exact⟨rfl,by rw[decide_eq_false (aHO rx hn)];exact q _ H (aU.refl H) (.bl _)⟩
 .cases ez
def atD(l:List D)(i:Int):Rs D:=match atI l i with
 |some d=>.ok d
 |none=>.st
def ixD:D->D->Rs D
 | .tup l,.int i=>atD l i
 | .lst l,.int i=>atD l i
 | .scr l,.int i=>atD (l.map .int) i
 |_,_=>.st
theorem Rps.at(r:Rps K A H xs ds)(e:atI ds i=some d):∃x,atI xs i=some x/\Rp K A H x d:=by
 unfold atI at e ⊢;rw[r.length];cases h:ixN ds.length i with
 |none=>rw[h]at e;cases e
 |some j=>
  rw[h]at e;obtain⟨x,e1,e2⟩:=r.getD (i:=j) (d:=d) e;exact⟨x,e1,e2⟩
def aJC:OpS K (rIx K) ixD:=by
 intro A x y d e H Q z rx ry ez q;unfold ixD at ez;split at ez
 .unfold atD at ez
  split at ez
  .rename_i w hw
   cases ez;obtain⟨_,_,rfl,h,r⟩:=rx.tup_inv;obtain rfl:=ry.int_inv;obtain⟨v,e1,e2⟩:=r.at hw;exact .inr (.inl ⟨_,_,_,v,rfl,rfl,h,e1,q v H (aU.refl H) (e2.wk λ _ _ _ z=>.inr z)⟩)
  .cases ez
 .unfold atD at ez
  split at ez
  .rename_i w hw
   cases ez;obtain⟨_,_,rfl,h,m,r⟩:=rx.lst_inv;obtain rfl:=ry.int_inv;obtain⟨v,e1,e2⟩:=r.at hw;exact .inl ⟨_,_,_,v,rfl,rfl,SqL.of h,e1,q v H (aU.refl H) (e2.wk λ _ _ _ z=>.inr z.1)⟩
  .cases ez
 .unfold atD at ez
  split at ez
  .rename_i w hw
   cases ez;obtain⟨_,rfl,h⟩:=rx.scr_inv;obtain rfl:=ry.int_inv;obtain⟨v,e1,e2⟩:=(Rps.ints (K:=K) (A:=A) (H:=H)).at hw;exact .inl ⟨_,_,_,v,rfl,rfl,h.sq,e1,q v H (aU.refl H) (e2.wk λ _ _ _ z=>.inr z)⟩
  .cases ez
 .cases ez
def g8:List D->Rs D
 |[.tup l]=>.ok (.int l.length)
 |[.lst l]=>.ok (.int l.length)
 |[.scr l]=>.ok (.int l.length)
 |_=>.st
def aI1:ph K (λ xs H Q=>∃p ys,xs=[.ref p]/\(SqL K H p ys\/SqT K H p ys)/\Q (.int ys.length) H) g8:=by
 intro A xs ds H Q z r ez q;unfold g8 at ez;split at ez
 .cases ez
  obtain⟨_,rfl,h0⟩:=r.one_inv;obtain⟨_,_,rfl,h,r⟩:=h0.tup_inv;exact⟨_,_,rfl,.inr h,by rw[r.length];exact q _ H (aU.refl H) (.int _)⟩
 .cases ez
  obtain⟨_,rfl,h0⟩:=r.one_inv;obtain⟨_,_,rfl,h,m,r⟩:=h0.lst_inv;exact⟨_,_,rfl,.inl (SqL.of h),by rw[r.length];exact q _ H (aU.refl H) (.int _)⟩
 .cases ez
  obtain⟨_,rfl,h0⟩:=r.one_inv;obtain⟨_,rfl,h⟩:=h0.scr_inv;exact⟨_,_,rfl,.inl h.sq,by rw[zAB];exact q _ H (aU.refl H) (.int _)⟩
 .cases ez
def aFw:∀x z,g8 x= .ok z->imm z=true:=by
 intro x z e;unfold g8 at e;split at e<;>first|(cases e;rfl)|cases e
def tyD:D->String
 | .non=>"NoneType"| .bl _=>"bool"| .int _=>"int"| .str _=>"str"| .tup _=>"tuple"| .lst _=>"list"| .dct _ _=>"dict"| .set _=>"set"| .scr _=>"script"| .fn _=>"function"
def mz(T:String):D->Rs D:=λ d=>if nF (tyD d) T true=true then .ok (.bl true)else if nF (tyD d) T false=true then .ok (.bl false)else .st
def aGd(K:zAA)(T:String):List V->Hp->VK->Prop:=λ xs H Q=>∃x d A b,xs=[x,.ty T]/\Rp K A H x d/\nF (tyD d) T b=true/\Q (.bl b) H
def aC1:cZ X (.builtin "isinstance") (aGd X.K T):=by
 intro hV s σ H xs us Q I rv h;obtain⟨x,d,A,b,rfl,rd,ok,q⟩:=h;cases rd with
 |tup h r=>
  obtain⟨u,w',rfl,ru,rw'⟩:=vals2 rv;cases ru;cases rw';obtain⟨its,_,⟨o,h1,h2,_⟩,_⟩:=I.tuple h;exact zAw zFk I.kIn ⟨o,h1,h2⟩ (aAo ok) (λ z=>nomatch z) λ tk=>⟨.bl b,H,I.tok _,rfl,q⟩
 |set h m hS nd=>cases b<;>simp[nF,tyD]at ok
 |scr h=>cases b<;>simp[nF,tyD]at ok
 |fn h=>cases b<;>simp[nF,tyD]at ok
 |non=>exact j9 hV s σ H _ us Q I rv ⟨_,T,_,b,rfl,.non,ok,q⟩
 |bl c=>exact j9 hV s σ H _ us Q I rv ⟨_,T,_,b,rfl,.bl c,ok,q⟩
 |int c=>exact j9 hV s σ H _ us Q I rv ⟨_,T,_,b,rfl,.int c,ok,q⟩
 |str c=>exact j9 hV s σ H _ us Q I rv ⟨_,T,_,b,rfl,.str c,ok,q⟩
 |lst h m r=>exact j9 hV s σ H _ us Q I rv ⟨_,T,_,b,rfl,.lst h,ok,q⟩
 |dK h m r=>exact j9 hV s σ H _ us Q I rv ⟨_,T,_,b,rfl,.dK h,ok,q⟩
 |dT h m r=>
  obtain⟨u,w',rfl,ru,rw'⟩:=vals2 rv;cases ru;cases rw';obtain⟨⟨_,_,_,o,_,_,_,h1,h2,_⟩,_⟩:=(show dj X.prog X.w H s.heap _ (dxO _ _)from I.hok _ _ h.at_);exact zAw zDx I.kIn ⟨o,h1,h2.1⟩ (aAo ok) (λ z=>nomatch z) λ tk=>⟨.bl b,H,I.tok _,rfl,q⟩
end
section
variable{C:Ct}{pos p p2:Pos}{m:Mode}{a:Expr}{fa:En->Rs D}
def nW(ha:SE C m a fa)(hm:C.mg "isinstance"=none)(hmT:C.mg x=none)(hn:x≠"__name__":=by decide)(hd:Nd x:=by decide)(he:∀i,zAX [a,.Name x p2] (C.X i).env=(false,eval a (C.X i).env)::zAX [.Name x p2] (C.X i).env:=by intro _;rfl)(hpl:∀i,(zBv pos (zAX [.Name x p2] (C.X i).env)).any (·.1)=false:=by intro _;rfl)(hg:∀i,Gl (C.X i) "isinstance":=by intro _;rfl)(hv:zAr "isinstance"=some (.builtin "isinstance"):=by decide+kernel)(hgT:∀i,Gl (C.X i) x:=by intro _;rfl)(hvT:zAr x=some (.type T):=by decide+kernel):
  SE C (some []) (.Call (.Name "isinstance" p) [a,.Name x p2] [] pos) (op1 (mz T) fa):=by
 obtain⟨t,h1,h2⟩:=ha;refine⟨tCB (aGd C.K T) (gj t (gj (tC (.ty T)) kJ)),λ i=>?_,λ U σ H ρ lab Q R W=>?_⟩
 .rw[<-C.hK i]
  exact pB aC1 (hg i) (by rw[(C.cx i).2.2.2.1];exact hm) hv (bz (h1 i) (bz (aFP (v:=.ty T) (hgT i) (by rw[(C.cx i).2.2.2.1];exact hmT) hvT rfl hn hd) eF) (he i)) (by decide) (by decide) (he i) (hpl i)
 .refine h2 U σ H ρ lab _ R (W.bd.imp λ d _ w x H1 s1 r1=>?_)
  obtain⟨z,ez,w⟩:=w.okD;unfold mz at ez;split at ez
  .rename_i h;cases ez;exact⟨x,d,_,true,rfl,r1,h,w _ H1 s1 (.bl _)⟩
  .split at ez
   .rename_i h;cases ez;exact⟨x,d,_,false,rfl,r1,h,w _ H1 s1 (.bl _)⟩
   .cases ez
end
def nQ:Slot->Slot
 | .ow d=>.sh d
 | .nw d=>.sh d
 | .oz d=>.sh d
 | .o2 l=>.sh (.lst (l.map .lst))
 |s=>s
def shE(ρ:En):En:=ρ.map nQ
def stV(js:List (Option Nat))(σ:L2.St):L2.St:=js.map λ o=>o.bind λ j=>(σ[j]?).join
def stE(js:List (Option Nat))(ρ:En):En:=js.map λ o=>match o with
 |none=>.no
 |some j=>(ρ[j]?).getD .no
def aEy{K:zAA}(h:gF K H lab i v s):∃d,(s= .no\/nQ s= .sh d)/\(s= .no\/Rp K (λ _=>True) H v d):=by
 cases s with
 |no=>exact⟨.non,.inl rfl,.inl rfl⟩
 |sh d=>exact⟨d,.inr rfl,.inr (Rp.wk (λ _ _ _ _=>trivial) h)⟩
 |nw d=>exact⟨d,.inr rfl,.inr (Rp.wk (λ _ _ _ _=>trivial) h)⟩
 |ow d=>exact⟨d,.inr rfl,.inr (Rp.wk (λ _ _ _ _=>trivial) h.1)⟩
 |oz d=>exact⟨d,.inr rfl,.inr (Rp.wk (λ _ _ _ _=>trivial) (aGm h))⟩
 |o2 l=>exact⟨_,.inr rfl,.inr (Rp.wk (λ _ _ _ _=>trivial) (aDe h))⟩
theorem RR.shE{K:zAA}(R:RR K G U ρ σ H lab):RR K G U (shE ρ) σ H (λ _=>(0,0)):=by
 refine⟨by unfold VL.shE;rw[zAB];exact R.len,λ i s e=>?_,R.old,λ p hp=>absurd rfl hp,λ q hq=>(R.tm q hq).wk λ _ _ _ _=>zAi _⟩;unfold VL.shE at e;rw[zAV]at e;cases e0:ρ[i]? with
 |none=>rw[e0]at e;cases e
 |some s0=>
  rw[e0]at e;cases e;rcases R.sl i s0 e0 with rfl|⟨v,ev,hv⟩
  .exact .inl rfl
  .obtain⟨d,h1,h2⟩:=aEy hv
   rcases h1 with rfl|h1
   .exact .inl rfl
   .rcases h2 with rfl|h2
    .exact .inl rfl
    .exact .inr ⟨v,ev,by rw[h1];exact h2.wk λ _ _ _ _=>zAi _⟩
def aCl{i:Nat}(e:(stE js ρ)[i]? =some s):s= .no\/∃j,js[i]? =some (some j)/\ρ[j]? =some s:=by
 unfold stE at e;rw[zAV]at e;cases ej:js[i]? with
 |none=>rw[ej]at e;cases e
 |some o=>
  rw[ej]at e;cases o with
  |none=>cases e;exact .inl rfl
  |some j=>
   cases er:ρ[j]? with
   |none=>simp[er]at e;exact .inl e.symm
   |some s'=>simp[er]at e;subst e;exact .inr ⟨j,rfl,er⟩
def RR.block{K:zAA}{U:List (V×D)}(R:RR K G U (VL.shE ρ) σ H lab)(hz:∀p,(lab p).1<=1)(hl:H l=none):
  RR K G U (stE js (VL.shE ρ)) (stV js σ) H (λ p=>if p=l then(2,0)else(0,0)):=by
 have nl:∀p o,H p=some o->p≠l:=λ p o e z=>by subst z;rw[hl]at e;cases e
 refine⟨by unfold stE stV;rw[zAB,zAB],λ i s e=>?_,R.old,λ p hp=>?_,λ q hq=>(R.tm q hq).wk λ p o e _=>by rw[if_neg (nl p o e)];exact zAi _⟩
 .rcases aCl e with rfl|⟨j,ej,es⟩
  .exact .inl rfl
  .rcases R.sl j s es with rfl|⟨v,ev,hv⟩
   .exact .inl rfl
   .refine .inr ⟨v,?_,?_⟩
    .unfold stV
     rw[zAV,ej];simp[ev]
    .unfold VL.shE at es
     rw[zAV]at es;cases e0:ρ[j]? with
     |none=>rw[e0]at es;cases es
     |some s0=>
      rw[e0]at es;cases es;cases s0 with
      |no=>trivial
      |oz d=>exact Rp.wk (λ p o e _=>by show(if p=l then((2,0):Nat×Nat)else(0,0)).1<=1;rw[if_neg (nl p o e)];exact zAi _) hv
      |nw d=>exact Rp.wk (λ p o e _=>by show(if p=l then((2,0):Nat×Nat)else(0,0)).1<=1;rw[if_neg (nl p o e)];exact zAi _) hv
      |sh d=>exact Rp.wk (λ p o e _=>by show(if p=l then((2,0):Nat×Nat)else(0,0)).1<=1;rw[if_neg (nl p o e)];exact zAi _) hv
      |ow d=>exact Rp.wk (λ p o e _=>by show(if p=l then((2,0):Nat×Nat)else(0,0)).1<=1;rw[if_neg (nl p o e)];exact zAi _) hv
      |o2 d=>exact Rp.wk (λ p o e _=>by show(if p=l then((2,0):Nat×Nat)else(0,0)).1<=1;rw[if_neg (nl p o e)];exact zAi _) hv
 .by_cases hp':p=l
  .subst hp';exact R.old.free hl
  .exact absurd (show(if p=l then((2,0):Nat×Nat)else(0,0)).1=0 by rw[if_neg hp']) hp
def aJl(XN N:List Str)(js:List (Option Nat))(ks:List Nat)(sc:Scope):Bool:=(zBB js.length).all λ i=>match js[i]? with
 |some (some j)=>match N[i]?,XN[j]? with
  |some x,some y=>x==y&&sc.names.lookup x==some .free&& !ks.contains i
  |_,_=>false
 |_=>true
def aAy(h1:sc.kind= .function)(h2:(sc.names.all λ y=>y.2 != .cell||sc.names.lookup y.1==some .cell)=true)(h3:(sc.names.all λ y=>y.2 != .local||sc.names.lookup y.1==some .local)=true)
  (h4:(sc.names.all λ y=>y.2 != .free||(X.env.kindOf y.1==some .cell||X.env.kindOf y.1==some .free))=true)(h5:js.length=N.length)(h6:aJl X.N N js ks sc=true):gU X sc N (stV js) ks:=by
 refine⟨h1,λ y hy e=>?_,λ y hy e=>?_,λ y hy e=>?_,λ σ=>by unfold stV;rw[zAB];exact h5,λ σ i x v e1 e2=>?_⟩
 .have:=zAn.mp h2 y hy
  rw[e]at this;simpa using this
 .have:=zAn.mp h3 y hy
  rw[e]at this;simpa using this
 .have:=zAn.mp h4 y hy
  rw[e]at this;simpa using this
 .unfold stV at e2
  rw[zAV]at e2;cases ej:js[i]? with
  |none=>rw[ej]at e2;cases e2
  |some o=>
   rw[ej]at e2;cases o with
   |none=>cases e2
   |some j=>
    have hi:i<js.length:=(zAL.mp ej).1
    have:=zAn.mp h6 i (zC5.mpr hi)
    rw[ej,e1]at this;dsimp only at this;cases ey:X.N[j]? with
    |none=>rw[ey]at this;cases this
    |some y=>
     rw[ey]at this;simp only[zAN,beq_iff_eq,zBI]at this;obtain⟨⟨h,h'⟩,h''⟩:=this;subst h;refine⟨h',λ hk=>?_,j,ey,?_⟩
     .rw[List.contains_iff_mem.mpr hk]at h'';cases h''
     .simp only[zDS,zGI,Option.some.injEq]at e2
      cases es:σ[j]? with
      |none=>rw[es]at e2;cases e2
      |some w=>rw[es]at e2;simp at e2;subst e2;rfl
abbrev Ct.blk(C:Ct)(sc:Scope)(N:List Str):Ct where
 ι:=C.ι×Addr×List Addr×zAE×Hp
 X:=λ i=>(C.X i.1).block sc i.2.1 N i.2.2.1 i.2.2.2.1 i.2.2.2.2
 prog:=C.prog
 w:=C.w
 K:=C.K
 mg:=C.mg
 base:=C.base
 k:=C.k
 G:={C.G with E:=λ _ _ _=>False}
 cx:=λ i=>C.cx i.1
 calm:=λ i=>C.calm i.1
 room:=λ i=>C.room i.1
 own:=λ i=>PassesOwn.never
 pass:=λ i hV σ H s e s' I h=>by obtain⟨_,_,_,_,_,_,_,_,_,_,_,_,_,hE⟩:=h;exact hE
 dOk:=false
 dcx:=λ h=>absurd h zA3
def lcL(ρ:En)(fg:D->En->Rs En)(ft:En->Rs Bool)(fe:En->Rs D):List D->Rs (List D)
 |[]=>.ok []
 |d::ds=>(fg d ρ).bd λ ρ1=>(ft ρ1).bd λ k=>if k=true then(fe ρ1).bd λ y=>(lcL ρ fg ft fe ds).bd λ ys=>.ok (y::ys)else lcL ρ fg ft fe ds
def lcD(fi:En->Rs (List D))(js:List (Option Nat))(fg:D->En->Rs En)(ft:En->Rs Bool)(fe:En->Rs D):En->Rs D:=λ ρ=>(fi (shE ρ)).bd λ ds=>
 if ds.length<zAQ then(match lcL (stE js (shE ρ)) fg ft fe ds with
  | .ok l=>.ok (.lst l)
  |_=>.st)else .st
def aGW(C:Ct)(ifs:List Expr)(f:En->Rs Bool):Prop:=∃t,(∀i,aC6 (C.X i) ifs t)/\aC4 C.K C.G t f
def jP:En->Rs Bool:=λ _=>.ok true
def jg:aGW C [] jP:=⟨_,λ _=>aH5,λ U σ H ρ lab Q R W=>W H (aU.refl H)⟩
def aCv(h:ST C c f):aGW C [c] f:=let⟨t,h1,h2⟩:=h;⟨t,λ i=>aH4 (h1 i),h2⟩
def aDp(h:lcL ρ fg ft fe (d::ds)= .ok l):
  ∃ρ1 k,fg d ρ= .ok ρ1/\ft ρ1= .ok k/\((k=true/\∃y ys,fe ρ1= .ok y/\lcL ρ fg ft fe ds= .ok ys/\l=y::ys)\/(k=false/\lcL ρ fg ft fe ds= .ok l)):=by
 unfold lcL at h;obtain⟨ρ1,e1,h⟩:=di h;obtain⟨k,e2,h⟩:=di h;refine⟨ρ1,k,e1,e2,?_⟩;cases k with
 |true=>
  rw[if_pos rfl]at h;obtain⟨y,e3,h⟩:=di h;obtain⟨ys,e4,h⟩:=di h;cases h;exact .inl ⟨rfl,y,ys,e3,e4,rfl⟩
 |false=>
  rw[if_neg zA3]at h;exact .inr ⟨rfl,h⟩
def RR.but_blk{K:zAA}{U:List (V×D)}(R:RR K G U (stE js (VL.shE ρ)) σ H (λ p=>if p=l then(2,0)else(0,0)))(B:jd l H H')(hl:H l=some o)(ho:jF o=true)(h0:G.H0 l=none):
  RR K G U (stE js (VL.shE ρ)) σ H' (λ p=>if p=l then(2,0)else(0,0)):=by
 have aI:¬((λ p=>if p=l then((2,0):Nat×Nat)else(0,0)) l).1<=1:=by simp
 refine⟨R.len,λ j s e=>?_,λ b o hb=>?_,R.new,λ q hq=>(R.tm q hq).but B hl ho aI⟩
 .rcases R.sl j s e with z|⟨u,e1,e2⟩
  .exact .inl z
  .refine .inr ⟨u,e1,?_⟩
   rcases aCl e with rfl|⟨jx,ej,es⟩
   .trivial
   .unfold VL.shE at es
    rw[zAV]at es;cases e0:ρ[jx]? with
    |none=>rw[e0]at es;cases es
    |some s0=>rw[e0]at es;cases es;cases s0<;>first|trivial|exact Rp.but B hl ho aI e2
 .exact B b o (λ z=>by subst z;rw[h0]at hb;cases hb) (R.old b o hb)
def RR.blk0{K:zAA}(R:RR K G U (VL.shE ρ) σ H lab)(hG:G'.H0=G.H0):RR K G' U (VL.shE ρ) σ H (λ _=>(0,0)):=by
 refine⟨R.len,λ i s e=>?_,by rw[hG];exact R.old,λ p hp=>absurd rfl hp,λ q hq=>(R.tm q hq).wk λ _ _ _ _=>zAi _⟩;rcases R.sl i s e with rfl|⟨v,ev,hv⟩
 .exact .inl rfl
 .unfold VL.shE at e
  rw[zAV]at e;cases e0:ρ[i]? with
  |none=>rw[e0]at e;cases e
  |some s0=>rw[e0]at e;cases e;cases s0<;>first|exact .inl rfl|exact .inr ⟨v,ev,Rp.wk (λ _ _ _ _=>zAi _) hv⟩
section
variable{K:zAA}{G:Gx}{wi:TI}{fi:En->Rs (List D)}{js:List (Option Nat)}{g:TG}{fg:D->En->Rs En}{tt:TT}{ft:En->Rs Bool}{te:TE}{fe:En->Rs D}
def aCt(hi:aI6 K G wi fi)(hg:aI7 K {G with E:=λ _ _ _=>False} g fg)(ht:aC4 K {G with E:=λ _ _ _=>False} tt ft)(he:jO K {G with E:=λ _ _ _=>False} (some []) te fe):
  jO K G (some []) (tLC wi (stV js) g tt te) (lcD fi js fg ft fe):=by
 intro U σ H ρ lab Q R W;refine hi U σ H _ _ _ R.shE (W.bd.imp λ ds _ w J H1 lab1 U1 s1 _ R1 jl=>?_);intro l hl;obtain⟨hW,out,pV,w⟩:ds.length<zAQ/\∃out,lcL (stE js (VL.shE ρ)) fg ft fe ds= .ok out/\QE K (some []) lab H Q (.lst out):=by
  by_cases hW:ds.length<zAQ
  .rw[if_pos hW]at w
   cases pV:lcL (stE js (VL.shE ρ)) fg ft fe ds with
   |ok out=>rw[pV]at w;exact⟨hW,out,rfl,w⟩
   |ex c=>rw[pV]at w;exact zAK w
   |st=>rw[pV]at w;exact zAK w
  .rw[if_neg hW]at w
   exact zAK w
 have R0:RR K {G with E:=λ _ _ _=>False} (U1++U) (VL.shE ρ) σ H1 (λ _=>(0,0)):=R1.blk0 rfl;have RB:=R0.block (js:=js) (λ _=>zAi _) hl;have hHl:H l=none:=s1.free hl;have aI:¬((λ p=>if p=l then((2,0):Nat×Nat)else(0,0)) l).1<=1:=by simp
 refine⟨λ i n acc H2=>∃pre,n=ds.length-i/\i<=ds.length/\H2 l=some (.lst acc)/\RR K {G with E:=λ _ _ _=>False} (U1++U) (stE js (VL.shE ρ)) (stV js σ) H2 (λ p=>if p=l then(2,0)else(0,0))/\aU H H2/\acc.length<=i/\
  Rps K (λ p=>H p=none/\p≠l) H2 acc pre/\∃post,lcL (stE js (VL.shE ρ)) fg ft fe (ds.drop i)= .ok post/\out=pre++post,⟨ds.length,[],by lia,by lia,aq,RB.up (bI hl _),s1.trans (bI hl _),zAU _,.nil,out,pV,rfl⟩,?_⟩
 rintro i n acc H2 ⟨pre,rfl,hi,hH2,R2,s2,kX,rpre,post,hpost,eout⟩;refine⟨hH2,by lia,?_⟩;have jj:=jl _ H2 λ q hq=>R2.tm q (zAI _ hq)
 by_cases hlt:i<ds.length
 .obtain⟨go,yl⟩:=(jj i).2 hlt
  refine .inr ⟨go,λ x H3 hy=>?_⟩;obtain⟨s3,d,ed,rx⟩:=yl x H3 hy;replace R2:=R2.up s3;replace hH2:=s3 _ _ hH2;replace s2:=s2.trans s3;replace rpre:=rpre.up s3;have ed2:ds.drop i=d::ds.drop (i+1):=by
   rw[zBc hlt]
   have:=zAC hlt
   rw[ed]at this;cases this;rfl
  rw[ed2]at hpost;obtain⟨ρ1,k,e1,e2,e3⟩:=aDp hpost;refine hg (U1++U) x d _ H3 _ _ _ ρ1 R2 rx e1 λ σ4 R4=>?_
  refine ht (U1++U) σ4 H3 ρ1 _ _ R4 ?_;rw[e2];intro H5 s5;rcases e3 with ⟨rfl,y,ys,e3,e4,rfl⟩|⟨rfl,e4⟩
  .rw[if_pos rfl]
   refine he (U1++U) σ4 H5 ρ1 _ _ (R4.up s5) ?_;rw[e3];intro v H6 s6 r6;have hl6:H6 l=some (.lst acc):=s6 _ _ (s5 _ _ hH2);have B:jd l H6 (upd H6 l (.lst (acc++[v]))):=λ b o ne hb=>by rw[bK ne];exact hb
   refine⟨hl6,ds.length-(i+1),by lia,pre++[y],rfl,hlt,aq,?_,?_,by rw[zAW];simp;lia,?_,ys,e4,by rw[eout];simp⟩
   .exact(R2.up (s5.trans s6)).but_blk B hl6 rfl (R1.old.free hl)
   .exact λ b o hb=>B b o (λ z=>by subst z;rw[hHl]at hb;cases hb) (((s2.trans s5).trans s6) b o hb)
   .refine((rpre.up (s5.trans s6)).append (.cons (r6.wk λ p o _ z=>?_) .nil)).but B hl6 rfl λ z=>z.2 rfl
    rcases z with z|z
    .exact⟨(s2.trans s5).free z,λ e=>by subst e;rw[s5 _ _ hH2]at z;cases z⟩
    .cases z
  .rw[if_neg zA3]
   exact⟨ds.length-(i+1),by lia,pre,rfl,hlt,s5 _ _ hH2,R2.up s5,s2.trans s5,by lia,rpre.up s5,post,e4,eout⟩
 .have ei:i=ds.length:=by lia
  subst ei;rw[zDN]at hpost;cases hpost;rw[zAj]at eout;subst eout;exact .inl ⟨(jj _).1 (zAU _),w _ H2 s2 (.lst hH2 (.inl hHl) (rpre.wk λ p o _ z=>⟨.inl z.1,z.2⟩))⟩
end
section
variable{C:Ct}{pos:Pos}{elt tg iter:Expr}{ifs:List Expr}{sc:Scope}{N:List Str}{js:List (Option Nat)}{ks:List Nat}{fi:En->Rs (List D)}{fg:D->En->Rs En}{ft:En->Rs Bool}{fe:En->Rs D}
def cB{C:Ct}(nd:N.Nodup:=by decide+kernel)(hk:i∈ks:=by decide)(hN:∀j,((C.blk sc N).X j).N[i]? =some x:=by intro _;rfl)(hx:∀j,Loc ((C.blk sc N).X j).env.scope x:=by intro _;first|exact zB6 rfl|exact zBH rfl)
  (hf:∀j,((C.blk sc N).X j).fn x=true\/((C.blk sc N).X j).env.scope.names.lookup x=some .local:=by intro _;first|exact .inl rfl|exact .inr rfl):SG (C.blk sc N) (.Name x pos) ks (gnm i):=
 aa hN hx hf (λ _=>nd) hk
def o6(hi:SI C tg iter fi)(hg:SG (C.blk sc N) tg ks fg)(ht:aGW (C.blk sc N) ifs ft)(he:SE (C.blk sc N) (some []) elt fe)(hs:∀i x,zB3 iter (C.X i).env x=pure x:=by intro _ _;rfl)(hB:∀i,gU (C.X i) sc N (stV js) ks:=by intro _;exact aAy rfl rfl rfl rfl rfl rfl):SE C (some []) (.ListComp elt [⟨tg,iter,ifs,0⟩] sc pos) (lcD fi js fg ft fe):=by
 obtain⟨wi,i1,i2⟩:=hi;obtain⟨g,g1,g2,g3,g4⟩:=hg;obtain⟨tt,t1,t2⟩:=ht;obtain⟨te,e1,e2⟩:=he;exact⟨_,λ i=>aJA (hB i) (C.calm i) (i1 i) (λ c fp z5 z4=>g1 (i,c,fp,z5,z4)) g3 (λ c fp z5 z4=>t1 (i,c,fp,z5,z4)) (λ c fp z5 z4=>e1 (i,c,fp,z5,z4)) (hs i),aCt i2 g2 t2 e2⟩
def aIi(hi:SI C tg iter fi)(hg:SG (C.blk sc N) tg ks fg)(ht:aGW (C.blk sc N) ifs ft)(he:SE (C.blk sc N) (some []) elt fe)(hN:∀j,(C.X j).N[i]? =some x:=by intro _;rfl)(hx:∀j,Loc (C.X j).env.scope x:=by intro _;first|exact zB6 rfl|exact zBH rfl)(hsw:∀j,zCB (.ListComp elt [⟨tg,iter,ifs,0⟩] sc pos) (some (.Name x pos')) spos.line (C.X j).env=pure true:=by intro _;rfl)(hs:∀i x,zB3 iter (C.X i).env x=pure x:=by intro _ _;rfl)(hf:∀j,(C.X j).fn x=true\/(C.X j).env.scope.names.lookup x=some .local:=by intro _;first|exact .inl rfl|exact .inr rfl)(nd:∀j,(C.X j).N.Nodup:=by intro _;assumption)(hB:∀i,gU (C.X i) sc N (stV js) ks:=by intro _;exact aAy rfl rfl rfl rfl rfl rfl):
  SV C i (.Assign [.Name x pos'] (.ListComp elt [⟨tg,iter,ifs,0⟩] sc pos) spos) (some []) (lcD fi js fg ft fe):=by
 obtain⟨wi,i1,i2⟩:=hi;obtain⟨g,g1,g2,g3,g4⟩:=hg;obtain⟨tt,t1,t2⟩:=ht;obtain⟨te,e1,e2⟩:=he;exact⟨_,λ j=>yu (nd j) (hN j) (hx j) (hB j) (C.calm j) (i1 j) (λ c fp z5 z4=>g1 (j,c,fp,z5,z4)) g3 (λ c fp z5 z4=>t1 (j,c,fp,z5,z4)) (λ c fp z5 z4=>e1 (j,c,fp,z5,z4)) (hsw j) (hs j) (hf j),aCt i2 g2 t2 e2⟩
end
def RR.mut{K:zAA}(R:RR K G U ρ σ H lab)(ev:σ[i]? =some (some v))(hl:H l=some o)(ho:jF o=true)(oQ:(lab l).1=i+2)
  (B:jd l H H')(h':gF K H' lab i v s'):RR K G U (ρ.set i s') σ H' lab:=by
 refine⟨by rw[zBL];exact R.len,λ j x e=>?_,λ b u hb=>B b u (λ z=>?_) (R.old b u hb),R.new,λ q hq=>(R.tm q hq).but B hl ho λ z=>by lia⟩
 .by_cases hj:i=j
  .subst hj
   have hi:i<ρ.length:=by
    have:=(zAL.mp e).1
    rwa [zBL]at this
   rw[zBD hi]at e;cases e;exact .inr ⟨v,ev,h'⟩
  .rw[zAt hj]at e
   rcases R.sl j x e with z|⟨u,e1,e2⟩
   .exact .inl z
   .refine .inr ⟨u,e1,?_⟩
    cases x with
    |no=>trivial
    |sh d=>exact Rp.but B hl ho (λ z=>by lia) e2
    |nw d=>exact Rp.but B hl ho (λ z=>by lia) e2
    |ow d=>exact⟨Rp.but B hl ho (λ z=>by lia) e2.1,e2.2⟩
    |oz d=>
     obtain⟨a,xs,ds,q1,q2,q3,q4,q5⟩:=e2;exact⟨a,xs,ds,q1,q2,B a _ (λ z=>by subst z;exact hj (by lia)) q3,q4,Rps.but B hl ho (λ z=>by lia) q5⟩
    |o2 ll=>
     obtain⟨a,xs,q1,q2,q3,q4,q5⟩:=e2;refine⟨a,xs,q1,B a _ (λ z=>?_) q2,q3,q4,λ jj y ds f1 f2=>(q5 jj y ds f1 f2).but B hl ho λ z=>?_⟩
     .rw[z]at q3;rw[q3]at oQ;exact hj (by simpa using oQ.symm)
     .rw[z]at oQ;exact hj (by simpa using oQ.symm)
 .subst z
  have:=R.new b (by rw[oQ];lia)
  rw[this]at hb;cases hb
section
variable{C:Ct}{pos apos cpos p:Pos}{e a:Expr}{fe fa:En->Rs D}{i:Nat}{x:Str}{m:Mode}
def gO(i:Nat)(fe:En->Rs D):En->Ou:=λ ρ=>match ρ[i]? with
 |some (.ow (.lst ds))=>(fe ρ).bo λ d=>if ds.length<zAQ then .nx (ρ.set i (.ow (.lst (ds++[d]))))else .st
 |_=>.st
def eN(i:Nat)(he:SE C m e fe)(hm:okN m=true:=by rfl)(hN:∀j,(C.X j).N[i]? =some x:=by intro _;rfl)(hv:∀j,Vis (C.X j).env.scope x:=by intro _;first|exact zB6 rfl|exact zBH (zB6 rfl)|exact zBH (zBH rfl))(hd:Nd x:=by decide)
  (hcd:(x==("__classdict__":Str))=false:=by decide)(hs1:∀j,zAX [e] (C.X j).env=[(false,eval e (C.X j).env)]:=by intro _;rfl)
  (hbase:∀j,zCS (.Name x p) "append" (C.X j).env (eval (.Name x p) (C.X j).env)=eval (.Name x p) (C.X j).env:=by intro _;rfl)
  (hfew:∀j,((zBv cpos (zAX [e] (C.X j).env)).all (λ x=>!x.1)&&(zDK cpos (zCL [] (C.X j).env)).all (λ x=>x.1.isSome)&&decide ([e].length+([]:List zBe).length+(if ([]:List zBe).isEmpty then 0 else 1)<30))=true:=by intro _;rfl)
  (hline:(apos.endLine==cpos.line)=true:=by rfl)
  (hsw:∀j,zCB (.Call (.Attribute (.Name x p) "append" apos) [e] [] cpos) none pos.line (C.X j).env=pure false:=by intro _;rfl):
  SS C (.Expr (.Call (.Attribute (.Name x p) "append" apos) [e] [] cpos) pos) (gO i fe):=by
 obtain⟨t,h1,h2⟩:=he;refine⟨tE (tBM C.K "list" o9 (oY i) (gj t kJ)),λ j=>jm (by rw[<-C.hK j];exact uF zBS zCY zCy oE (fQ (hN j) (hv j) hd hcd) (bz (h1 j) eF (hs1 j)) (hbase j) (hfew j) hline (hs1 j) rfl) (hsw j),λ U σ H ρ lab De R W=>?_⟩;unfold gO at W;cases es:ρ[i]? with
 |none=>rw[es]at W;exact zAK W
 |some s=>
  rw[es]at W;split at W
  .rename_i ds hs
   cases hs;rcases R.sl i _ es with z|⟨v,ev,hv'⟩
   .cases z
   .obtain⟨hv1,htop⟩:=hv'
    obtain⟨a0,ea0,la0⟩:=htop rfl;subst ea0;cases hv1 with
    |lst h mm r=>
     rename_i xs;refine⟨.ref a0,ev,.inl ⟨rfl,xs,SqL.of h⟩,h2 U σ H ρ lab _ R (W.bo.imp λ d _ w y H2 s2 r2=>?_)⟩;by_cases hz:ds.length<zAQ
     .rw[if_pos hz]at w
      refine⟨a0,xs,y,rfl,rfl,s2 _ _ h,by rw[r.length];exact hz,λ H3 B h3=>?_⟩;obtain⟨R',r'⟩:=R.fresh (P:=λ k=>k=1) rfl (λ k hk=>beq_iff_eq.mp (mR hm k hk)) s2 r2;have la:(bY H 1 lab a0).1=i+2:=by rw[bM h];exact la0
      refine w σ H3 _ (R'.mut ev (s2 _ _ h) rfl la B ⟨.lst h3 (.inr la) ?_,λ _=>⟨a0,rfl,la⟩⟩);have ra:Rps C.K (λ p=>((bY H 1 lab p).1=1\/(bY H 1 lab p).1=i+2)/\p≠a0) H2 (xs++[y]) (ds++[d]):=by
       refine(r.mono s2 λ p o e z=>⟨by rw[bM e];exact z.1,z.2⟩).append (.cons (r'.wk λ p o e z=>⟨.inl z,λ q=>?_⟩) .nil);subst q;rw[la]at z;lia
      exact ra.but B (s2 _ _ h) rfl λ z=>z.2 rfl
     .rw[if_neg hz]at w
      exact zAK w
  .exact zAK W
def at2(ll:cK):D->Option (Nat×List D)
 | .int n=>(ixN ll.length n).bind λ j=>(ll[j]?).map λ ds=>(j,ds)
 |_=>none
def mH(i:Nat)(fa fe:En->Rs D):En->Ou:=λ ρ=>match ρ[i]? with
 |some (.o2 ll)=>(fa ρ).bo λ k=>match at2 ll k with
  |some (j,ds)=>(fe ρ).bo λ d=>if ds.length<zAQ then .nx (ρ.set i (.o2 (ll.set j (ds++[d]))))else .st
  |none=>.st
 |_=>.st
def aE0(h:at2 ll k=some (j,ds)):∃n,k= .int n/\ixN ll.length n=some j/\ll[j]? =some ds:=by
 cases k with
 |int n=>
  simp only[at2,Option.bind_eq_some_iff,zC1]at h;obtain⟨j',h1,ds',h2,h3⟩:=h;cases h3;exact⟨n,rfl,h1,h2⟩
 |_=>cases h
def nR(i:Nat){p2:Pos}(ha:SE C m a fa)(he:SE C (some []) e fe)(hN:∀j,(C.X j).N[i]? =some x:=by intro _;rfl)(hv:∀j,Vis (C.X j).env.scope x:=by intro _;first|exact zB6 rfl|exact zBH (zB6 rfl)|exact zBH (zBH rfl))(hd:Nd x:=by decide)
  (hcd:(x==("__classdict__":Str))=false:=by decide)(hs1:∀j,zAX [e] (C.X j).env=[(false,eval e (C.X j).env)]:=by intro _;rfl)(hp:yJ a:=by exact λ _ _=>rfl)
  (hbase:∀j,zCS (.Subscript (.Name x p) a p2) "append" (C.X j).env (eval (.Subscript (.Name x p) a p2) (C.X j).env)=eval (.Subscript (.Name x p) a p2) (C.X j).env:=by intro _;rfl)
  (hfew:∀j,((zBv cpos (zAX [e] (C.X j).env)).all (λ x=>!x.1)&&(zDK cpos (zCL [] (C.X j).env)).all (λ x=>x.1.isSome)&&decide ([e].length+([]:List zBe).length+(if ([]:List zBe).isEmpty then 0 else 1)<30))=true:=by intro _;rfl)
  (hline:(apos.endLine==cpos.line)=true:=by rfl)
  (hsw:∀j,zCB (.Call (.Attribute (.Subscript (.Name x p) a p2) "append" apos) [e] [] cpos) none pos.line (C.X j).env=pure false:=by intro _;rfl):
  SS C (.Expr (.Call (.Attribute (.Subscript (.Name x p) a p2) "append" apos) [e] [] cpos) pos) (mH i fa fe):=by
 obtain⟨t,h1,h2⟩:=he;obtain⟨ta,a1,a2⟩:=ha;refine⟨tE (tBM C.K "list" o9 (tOp (aHU C.K) (oY i) ta) (gj t kJ)),λ j=>jm (by rw[<-C.hK j];exact uF zBS zCY zCy oE (aGl aBc (fQ (hN j) (hv j) hd hcd) (a1 j) hp) (bz (h1 j) eF (hs1 j)) (hbase j) (hfew j) hline (hs1 j) rfl) (hsw j),λ U σ H ρ lab De R W=>?_⟩;unfold mH at W;cases es:ρ[i]? with
 |none=>rw[es]at W;exact zAK W
 |some s=>
  rw[es]at W;cases s with
  |o2 ll=>
   dsimp only at W;rcases R.sl i _ es with z|⟨v,ev,top,xs,rfl,ht,hlt,hW,hin⟩
   .cases z
   .refine⟨.ref top,ev,a2 U σ H ρ lab _ R (W.bo.imp λ k _ w kv H1 s1 r1=>?_)⟩
    cases hk:at2 ll k with
    |none=>rw[hk]at w;exact zAK w
    |some q=>
     obtain⟨j,ds⟩:=q;rw[hk]at w;dsimp only at w;obtain⟨n,rfl,hj,hds⟩:=aE0 hk;cases r1;have hjx:∃xj,xs[j]? =some xj:=by
      have:j<xs.length:=by rw[hW];exact(zAL.mp hds).1
      exact⟨_,zAC this⟩
     obtain⟨xj,hxj⟩:=hjx;have hr:=hin j xj ds hxj hds;cases hr with
     |lst hl ml rl=>
      rename_i l ys;refine⟨top,xs,n,.ref l,rfl,rfl,SqL.of (s1 _ _ ht),by unfold atI;rw[hW,hj];exact hxj,.inl ⟨rfl,ys,SqL.of (s1 _ _ hl)⟩,h2 U σ H1 ρ lab _ (R.up s1) (w.bo.imp λ d _ w y H2 s2 r2=>?_)⟩;by_cases hz:ds.length<zAQ
      .rw[if_pos hz]at w
       have s12:=s1.trans s2;refine⟨l,ys,y,rfl,rfl,s12 _ _ hl,by rw[rl.length];exact hz,λ H3 B h3=>?_⟩;have ltop:l≠top:=λ e=>by rw[e,hlt]at ml;cases ml
       let lab':Lab:=λ p=>match H1 p with
        |none=>(i+2,j+1)
        |some _=>lab p
       have lo:∀{p o},H1 p=some o->lab' p=lab p:=λ{p o} e=>by show(match H1 p with|none=>_|some _=>_)=_;rw[e]
       have ln:∀{p},H1 p=none->lab' p=(i+2,j+1):=λ{p} e=>by show(match H1 p with|none=>_|some _=>_)=_;rw[e]
       have R':RR C.K C.G U ρ σ H2 lab':=((R.up s1).relab (λ p o e=>lo e) λ p hp=>by
        cases e:H1 p with
        |none=>exact(R.old.trans s1).free e
        |some o=>rw[lo e]at hp;exact R.new p hp).up s2
       have aS:lab' l=(i+2,j+1):=by rw[lo (s1 _ _ hl)];exact ml
       refine w σ H3 lab' (R'.mut ev (s12 _ _ hl) rfl (by rw[aS]) B ⟨top,xs,rfl,B _ _ (zDF ltop) (s12 _ _ ht),by rw[lo (s1 _ _ ht)];exact hlt,by rw[zBL];exact hW,λ jj z dz f1 f2=>?_⟩);by_cases hjj:j=jj
       .subst hjj
        rw[hxj]at f1;cases f1;rw[zBD (zAL.mp hds).1]at f2;cases f2;refine .lst h3 aS ?_;have ra:Rps C.K (λ p=>lab' p=(i+2,j+1)/\p≠l) H2 (ys++[y]) (ds++[d]):=by
         refine(rl.mono s12 λ p o e z=>⟨by rw[lo (s1 _ _ e)];exact z.1,z.2⟩).append (.cons (r2.wk λ p o e z=>?_) .nil);rcases z with z|z
         .exact⟨ln z,λ q=>by subst q;rw[s1 _ _ hl]at z;cases z⟩
         .cases z
        exact ra.but B (s12 _ _ hl) rfl λ z=>z.2 rfl
       .rw[zAt hjj]at f2
        refine((hin jj z dz f1 f2).mono s12 (A':=λ p=>lab' p=(i+2,jj+1)) λ p o e q=>by rw[lo (s1 _ _ e)];exact q).but B (s12 _ _ hl) rfl λ q=>?_
        rw[aS]at q;simp only[zCa]at q;lia
      .rw[if_neg hz]at w
       exact zAK w
  |_=>exact zAK W
end
mutual
def eqD:D->D->Bool
 | .non,.non=>true
 | .bl a,.bl b=>a==b
 | .bl a,.int b=>(if a then 1 else 0)==b
 | .int a,.bl b=>a==(if b then 1 else 0)
 | .int a,.int b=>a==b
 | .str a,.str b=>a==b
 | .tup l,.tup m=>gh l m
 | .lst l,.lst m=>gh l m
 |_,_=>false
def gh:List D->List D->Bool
 |[],[]=>true
 |x::xs,y::ys=>eqD x y&&gh xs ys
 |_,_=>false
end
mutual
def gw:D->Nat
 | .tup l=>bW l+1
 | .lst l=>bW l+1
 |_=>0
def bW:List D->Nat
 |[]=>0
 |d::r=>max (gw d) (bW r)
end
mutual
def aQ:D->Bool
 | .tup l=>aV l
 | .lst l=>aV l
 | .dct _ _=>false
 | .set _=>false
 | .scr _=>false
 | .fn _=>false
 |_=>true
def aV:List D->Bool
 |[]=>true
 |d::r=>aQ d&&aV r
end
mutual
theorem ig:∀d:D,aQ d=true->eqD d d=true
 | .non,_=>by simp[eqD]
 | .bl b,_=>by simp[eqD]
 | .int i,_=>by simp[eqD]
 | .str x,_=>by simp[eqD]
 | .tup l,h=>by exact fY l (by simpa[aQ]using h)
 | .lst l,h=>by exact fY l (by simpa[aQ]using h)
 | .dct _ _,h=>by simp[aQ]at h
 | .set _,h=>by simp[aQ]at h
 | .scr _,h=>by simp[aQ]at h
theorem fY:∀l:List D,aV l=true->gh l l=true
 |[],_=>by simp[gh]
 |d::r,h=>by
  simp only[aV,zAN]at h;simp only[gh,zAN];exact⟨ig d h.1,fY r h.2⟩
end
structure jb(K:zAA)(H:Hp)(s:zAE):Prop where
 tup:∀{a:Addr} {xs:List V},SqT K H a xs->∃its:List Value,Vals xs its/\s.heap.IsTuple a its.toArray
 lst:∀{a:Addr} {xs:List V},H a=some (.lst xs)->∃its:List Value,Vals xs its/\s.heap.IsList a its.toArray
 inj:∀{a:Addr} {xs ys:List V},SqT K H a xs->SqT K H a ys->xs=ys
 ne:∀{a:Addr} {xs ys:List V},SqT K H a xs->H a=some (.lst ys)->False
def Inv.seqOk(I:L2.Inv X hV σ H s):jb X.K H s where
 tup:=λ h=>let⟨its,r,p,_⟩:=I.tuple h;⟨its,r,p⟩
 lst:=λ h=>let⟨its,r,p,_⟩:=I.list (SqL.of h);⟨its,r,p.isList⟩
 inj:=λ h h'=>I.tuple_inj h h'
 ne:=λ h h'=>by
  obtain⟨its,_,⟨o,e,c,_⟩,_⟩:=I.tuple h;obtain⟨its2,_,⟨o2,n2,e2,c2,_⟩,_⟩:=I.list (SqL.of h');rw[e]at e2;cases e2;rw[c]at c2;injection c2 with c3
  exact absurd c3 (by decide)
section
variable{K:zAA}{H:Hp}{s:zAE}
def ndP:D->Prop
 | .dct _ _=>False
 | .set _=>False
 | .scr _=>False
 | .fn _=>False
 |_=>True
def ndx{d:D}(h:aQ d=true):ndP d:=by cases d<;>first|exact zDG|(simp[aQ]at h)
def bF(h:aQ (.dct a b)=true):False:=by simp[aQ]at h
def dN(h:aQ (.set a)=true):False:=by simp[aQ]at h
def dO(h:aQ (.scr a)=true):False:=by simp[aQ]at h
def fG(h:aQ (.fn a)=true):False:=by simp[aQ]at h
def iB(h:aQ (.tup a)=true):aV a=true:=by simpa[aQ]using h
def iC(h:aQ (.lst a)=true):aV a=true:=by simpa[aQ]using h
def jD(h:aV (d::a)=true):aQ d=true/\aV a=true:=by
 simp only[aV,zAN]at h;exact h
def aG0(K:zAA)(s:zAE)(H:Hp)(x:V)(d:D):Prop:=jb K H s->∀(A':Addr->Prop) (e:D),Rp K A' H x e->aQ d=true->aQ e=true->d=e
def aAB(K:zAA)(s:zAE)(H:Hp)(xs:List V)(ds:List D):Prop:=jb K H s->∀(A':Addr->Prop) (es:List D),Rps K A' H xs es->aV ds=true->aV es=true->ds=es
def aFu(ha:SqT K H a xs)(ih:aAB K s H xs ds):aG0 K s H (.ref a) (.tup ds):=λ ok A' e h n1 n2=>by
 cases h with
 |tup hb r'=>
  have e:=ok.inj ha hb;subst e;rw[ih ok _ _ r' (iB n1) (iB n2)]
 |lst hb _ _=>exact(ok.ne ha hb).elim
 |_=>exact zAK (ndx n2)
def aFv(ha:H a=some (.lst xs))(ih:aAB K s H xs ds):aG0 K s H (.ref a) (.lst ds):=λ ok A' e h n1 n2=>by
 cases h with
 |tup hb r'=>exact(ok.ne hb ha).elim
 |lst hb _ r'=>
  rw[ha]at hb;cases hb;rw[ih ok _ _ r' (iC n1) (iC n2)]
 |_=>exact zAK (ndx n2)
def aDx(h1:aG0 K s H x d)(h2:aAB K s H xs ds):aAB K s H (x::xs) (d::ds):=λ ok A' es h n1 n2=>by
 cases h with
 |cons k r'=>rw[h1 ok _ _ k (jD n1).1 (jD n2).1,h2 ok _ _ r' (jD n1).2 (jD n2).2]
def Rp.inj(ok:jb K H s)(r:Rp K A H x d)(h:Rp K A' H x e)(n1:aQ d=true)(n2:aQ e=true):d=e:=
 Rp.rec (motive_1:=λ _ H x d _=>aG0 K s H x d) (motive_2:=λ _ H xs ds _=>aAB K s H xs ds)
  (λ _ _ _ h _ _=>by cases h;rfl) (λ _ _ _ _ h _ _=>by cases h;rfl) (λ _ _ _ _ h _ _=>by cases h;rfl) (λ _ _ _ _ h _ _=>by cases h;rfl) (λ ha _ ih=>aFu ha ih) (λ ha _ _ ih=>aFv ha ih)
  (λ _ _ _ _ _ _ _ _ n1 _=>(bF n1).elim) (λ _ _ _ _ _ _ _ _ n1 _=>(bF n1).elim) (λ _ _ _ _ _ _ _ _ n1 _=>(dN n1).elim) (λ _ _ _ _ _ n1 _=>(dO n1).elim) (λ _ _ _ _ _ n1 _=>(fG n1).elim)
  (λ _ _ _ h _ _=>by cases h;rfl) (λ _ _ h1 h2=>aDx h1 h2) r ok A' e h n1 n2
end
theorem lr:∀(l m:List D),gh l m=((zBB (min l.length m.length)).all (λ j=>match l[j]?,m[j]? with|some a,some b=>eqD a b|_,_=>true)&&l.length==m.length)
 |[],[]=>by simp[gh]
 |[],y::ys=>by simp[gh]
 |x::xs,[]=>by simp[gh]
 |x::xs,y::ys=>by
  have ih:=lr xs ys;simp only[gh,ih,zA2,zG7,zF4,zED,zFg,zC0,zDp,zCZ,zGH,zGn,zDg];congr 1;congr 1;simp
theorem j0:∀{l:List D} {d:D},d∈l->gw d<=bW l
 |x::r,d,h=>by
  simp only[bW];rcases zAT.mp h with rfl|h
  .exact zD9 _ _
  .exact zAe (j0 h) (zDQ _ _)
theorem eG:∀{l:List D} {d:D},d∈l->aV l=true->aQ d=true
 |x::r,d,h,n=>by
  simp only[aV,zAN]at n;rcases zAT.mp h with rfl|h
  .exact n.1
  .exact eG h n.2
def cU(hn:n=ds.length)(hm:m=es.length):((zBB (min n m)).all (λ j=>match ds[j]?,es[j]? with|some a,some b=>eqD a b|_,_=>true)&&n==m)=gh ds es:=by
 subst hn hm;exact(lr ds es).symm
section
variable{K:zAA}{H:Hp}{s:zAE}
def aE6(K:zAA)(H:Hp)(s:zAE)(n:Nat):Prop:=∀(A1 A2:Addr->Prop) (x y:V) (d e:D) (A:zAc) (u v:Value),Rp K A1 H x d->Rp K A2 H y e->RelV x u->RelV y v->gw d<=n->aQ d=true->aQ e=true->A.units+n<cLine->zBg A s u v (eqD d e)
def aE7(K:zAA)(H:Hp)(s:zAE)(n:Nat):Prop:=∀(A1 A2:Addr->Prop) (xs ys:List V) (ds es:List D) (A:zAc) (us vs:List Value),Rps K A1 H xs ds->Rps K A2 H ys es->Vals xs us->Vals ys vs->bW ds<=n->aV ds=true->aV es=true->A.units+n<cLine->
  ∀(j:Nat) (h1:j<us.toArray.size) (h2:j<vs.toArray.size),zBg A s us.toArray[j] vs.toArray[j] (match ds[j]?,es[j]? with|some a,some b=>eqD a b|_,_=>true)
def ue(ok:jb K H s)(n:Nat)(IH:∀k,n=k+1->aE7 K H s k):aE6 K H s n:=by
 intro A1 A2 x y d e A u v r1 r2 ru rv hd nd ne hu;have hu0:A.units<cLine:=by lia
 cases r1 with
 |tup h1 q1=>
  rename_i a xs ds;cases ru;obtain⟨its,w1,t1⟩:=ok.tup h1;cases r2 with
  |tup h2 q2=>
   rename_i b ys es;cases rv;obtain⟨its2,w2,t2⟩:=ok.tup h2;by_cases hab:a=b
   .subst hab
    have e:=Rp.inj ok (Rp.tup h1 q1) (Rp.tup h2 q2) nd ne;rw[<-e,ig _ nd];exact zCP _
   .simp only[gw]at hd
    obtain⟨k,rfl⟩:∃k,n=k+1:=⟨n-1,by lia⟩
    have z:=zDe t1 t2 hu0 (IH k rfl _ _ _ _ _ _ _ _ _ q1 q2 w1 w2 (by lia) (iB nd) (iB ne) (by show A.units+1+k<cLine;lia));rw[cU (by rw[zAH,<-w1.length,q1.length]) (by rw[zAH,<-w2.length,q2.length])]at z;simp only[eqD];exact zBo hab z
  |lst h2 mm2 q2=>
   cases rv;obtain⟨its2,w2,t2⟩:=ok.lst h2;simp only[eqD];exact zEc t1 t2 hu0
  |non=>cases rv;exact zEd t1 hu0
  |bl b=>cases rv;exact zEb b t1 hu0
  |int i=>obtain⟨tk,rfl⟩:=rv;exact zEu i tk t1 hu0
  |str i=>obtain⟨tk,rfl⟩:=rv;exact zEv i tk t1 hu0
  |_=>exact zAK (ndx ne)
 |lst h1 mm1 q1=>
  rename_i a xs ds;cases ru;obtain⟨its,w1,t1⟩:=ok.lst h1;cases r2 with
  |lst h2 mm2 q2=>
   rename_i b ys es;cases rv;obtain⟨its2,w2,t2⟩:=ok.lst h2;by_cases hab:a=b
   .subst hab
    have e:=Rp.inj ok (Rp.lst h1 mm1 q1) (Rp.lst h2 mm2 q2) nd ne;rw[<-e,ig _ nd];exact zCP _
   .simp only[gw]at hd
    obtain⟨k,rfl⟩:∃k,n=k+1:=⟨n-1,by lia⟩
    have l1:its.toArray.size=ds.length:=by rw[zAH,<-w1.length,q1.length]
    have l2:its2.toArray.size=es.length:=by rw[zAH,<-w2.length,q2.length]
    by_cases hl:its.toArray.size=its2.toArray.size
    .have z:=zDu t1 t2 hl hu0 (IH k rfl _ _ _ _ _ _ _ _ _ q1 q2 w1 w2 (by lia) (iC nd) (iC ne) (by show A.units+1+k<cLine;lia))
     have z':=cU (ds:=ds) (es:=es) l1 l2;rw[<-hl,zDa,beq_self_eq_true,zCl]at z';rw[z']at z;simp only[eqD];exact zBo hab z
    .have z:=zCr t1 t2 (by simpa using hl) hu0
     have z':=cU (ds:=ds) (es:=es) l1 l2;rw[beq_eq_false_iff_ne.mpr hl,zCO]at z';simp only[eqD];rw[<-z'];exact zBo hab z
  |tup h2 q2=>
   cases rv;obtain⟨its2,w2,t2⟩:=ok.tup h2;simp only[eqD];exact zE9 t1 t2 hu0
  |non=>cases rv;exact zEq t1 hu0
  |bl b=>cases rv;exact zEp b t1 hu0
  |int i=>obtain⟨tk,rfl⟩:=rv;exact zFH i tk t1 hu0
  |str i=>obtain⟨tk,rfl⟩:=rv;exact zFI i tk t1 hu0
  |_=>exact zAK (ndx ne)
 |non=>
  cases ru;cases r2 with
  |tup h2 q2=>cases rv;obtain⟨_,_,t2⟩:=ok.tup h2;exact zEa t2 hu0
  |lst h2 mm2 q2=>cases rv;obtain⟨_,_,t2⟩:=ok.lst h2;exact zEs t2 hu0
  |dK _ _ _=>exact(bF ne).elim
  |dT _ _ _=>exact(bF ne).elim
  |set _ _ _ _=>exact(dN ne).elim
  |scr _=>exact(dO ne).elim
  |fn _=>exact(fG ne).elim
  |non=>cases rv;exact zCP _
  |bl b=>cases rv;exact zEr b
  |int i=>obtain⟨tk,rfl⟩:=rv;exact zFJ i tk
  |str i=>obtain⟨tk,rfl⟩:=rv;exact zFK i tk
 |bl a=>
  cases ru;cases r2 with
  |tup h2 q2=>cases rv;obtain⟨_,_,t2⟩:=ok.tup h2;exact zE8 a t2 hu0
  |lst h2 mm2 q2=>cases rv;obtain⟨_,_,t2⟩:=ok.lst h2;exact zEm a t2 hu0
  |dK _ _ _=>exact(bF ne).elim
  |dT _ _ _=>exact(bF ne).elim
  |set _ _ _ _=>exact(dN ne).elim
  |scr _=>exact(dO ne).elim
  |fn _=>exact(fG ne).elim
  |non=>cases rv;exact zEn a
  |bl b=>cases rv;exact zEl a b
  |int i=>obtain⟨tk,rfl⟩:=rv;exact zFC a i tk
  |str i=>obtain⟨tk,rfl⟩:=rv;exact zFD a i tk
 |int a=>
  obtain⟨tu,rfl⟩:=ru;cases r2 with
  |tup h2 q2=>cases rv;obtain⟨_,_,t2⟩:=ok.tup h2;exact zEo a tu t2 hu0
  |lst h2 mm2 q2=>cases rv;obtain⟨_,_,t2⟩:=ok.lst h2;exact zFF a tu t2 hu0
  |dK _ _ _=>exact(bF ne).elim
  |dT _ _ _=>exact(bF ne).elim
  |set _ _ _ _=>exact(dN ne).elim
  |scr _=>exact(dO ne).elim
  |fn _=>exact(fG ne).elim
  |non=>cases rv;exact zFG a tu
  |bl b=>cases rv;exact zFE a tu b
  |int i=>obtain⟨tk,rfl⟩:=rv;exact zD3 a tu i tk
  |str i=>obtain⟨tk,rfl⟩:=rv;exact zD4 a tu i tk
 |str a=>
  obtain⟨tu,rfl⟩:=ru;cases r2 with
  |tup h2 q2=>cases rv;obtain⟨_,_,t2⟩:=ok.tup h2;exact zEt a tu t2 hu0
  |lst h2 mm2 q2=>cases rv;obtain⟨_,_,t2⟩:=ok.lst h2;exact zFM a tu t2 hu0
  |dK _ _ _=>exact(bF ne).elim
  |dT _ _ _=>exact(bF ne).elim
  |set _ _ _ _=>exact(dN ne).elim
  |scr _=>exact(dO ne).elim
  |fn _=>exact(fG ne).elim
  |non=>cases rv;exact zFN a tu
  |bl b=>cases rv;exact zFL a tu b
  |int i=>obtain⟨tk,rfl⟩:=rv;exact zD5 a tu i tk
  |str i=>obtain⟨tk,rfl⟩:=rv;exact zFT a tu i tk
 |_=>exact zAK (ndx nd)
def vm(ok:jb K H s)(n:Nat)(IH:aE6 K H s n):aE7 K H s n:=by
 intro A1 A2 xs ys ds es A us vs q1 q2 w1 w2 hd nd ne hu j h1 h2;have hj1:j<us.length:=by simpa using h1
 have hj2:j<vs.length:=by simpa using h2
 have hx:j<xs.length:=by rw[w1.length];exact hj1
 have hy:j<ys.length:=by rw[w2.length];exact hj2
 have ex:=zAC hx;have ey:=zAC hy;obtain⟨d,ed,rd⟩:=q1.get ex;obtain⟨e,ee,re⟩:=q2.get ey;obtain⟨u,eu,ru⟩:=w1.get ex;obtain⟨v,ev,rv⟩:=w2.get ey;have e1:us.toArray[j]=u:=by
  rw[zCf];exact zAl ((zAC hj1).symm.trans eu)
 have e2:vs.toArray[j]=v:=by
  rw[zCf];exact zAl ((zAC hj2).symm.trans ev)
 rw[e1,e2,ed,ee];exact IH _ _ _ _ _ _ _ _ _ rd re ru rv (zAe (j0 (zAa ed)) hd) (eG (zAa ed) nd) (eG (zAa ee) ne) hu
theorem aES(ok:jb K H s):∀n,aE6 K H s n
 |0=>ue ok 0 λ k h=>absurd h (by simp)
 |n+1=>ue ok (n+1) λ k h=>by
  have h':=zG6 h;subst h';exact vm ok n (aES ok n)
def xg(ok:jb K H s):∀{A1 A2:Addr->Prop} {x y:V} {d e:D} (n:Nat) {A:zAc} {u v:Value},Rp K A1 H x d->Rp K A2 H y e->RelV x u->RelV y v->gw d<=n->aQ d=true->aQ e=true->A.units+n<cLine->zBg A s u v (eqD d e)
 |_,_,_,_,_,_,n,A,u,v,r1,r2,ru,rv,hd,nd,ne,hu=>aES ok n _ _ _ _ _ _ _ _ _ r1 r2 ru rv hd nd ne hu
def zV(ok:jb K H s):∀{A1 A2:Addr->Prop} {xs ys:List V} {ds es:List D} (n:Nat) {A:zAc} {us vs:List Value},Rps K A1 H xs ds->Rps K A2 H ys es->Vals xs us->Vals ys vs->bW ds<=n->aV ds=true->aV es=true->A.units+n<cLine->
  ∀(j:Nat) (h1:j<us.toArray.size) (h2:j<vs.toArray.size),zBg A s us.toArray[j] vs.toArray[j] (match ds[j]?,es[j]? with|some a,some b=>eqD a b|_,_=>true)
 |_,_,xs,ys,ds,es,n,A,us,vs,q1,q2,w1,w2,hd,nd,ne,hu,j,h1,h2=>vm ok n (aES ok n) _ _ _ _ _ _ _ _ _ q1 q2 w1 w2 hd nd ne hu j h1 h2
def aDM(ok:jb K H s)(n:Nat)(r1:Rp K A1 H x d)(r2:Rp K A2 H y e)(ru:RelV x u)(rv:RelV y v)(hd:gw d<=n)(nd:aQ d=true)(ne:aQ e=true)(hu:A.units+n<cLine):
  SeqAt.RcAt A s u v (eqD d e)/\SeqAt.RcNeAt A s u v (!eqD d e):=by
 have hu0:A.units<cLine:=by lia
 cases r1 with
 |tup h1 q1=>
  rename_i a xs ds;cases ru;obtain⟨its,w1,t1⟩:=ok.tup h1;cases r2 with
  |tup h2 q2=>
   rename_i b ys es;cases rv;obtain⟨its2,w2,t2⟩:=ok.tup h2;simp only[gw]at hd;obtain⟨k,rfl⟩:∃k,n=k+1:=⟨n-1,by lia⟩
   have he:=zV ok (A:=A.in1) k q1 q2 w1 w2 (by lia) (iB nd) (iB ne) (by show A.units+1+k<cLine;lia);have z:=zDe t1 t2 hu0 he;have z2:=SeqAt.RcNeAt.tuples t1 t2 hu0 he;rw[cU (by rw[zAH,<-w1.length,q1.length]) (by rw[zAH,<-w2.length,q2.length])]at z z2;simp only[eqD];exact⟨z,z2⟩
  |lst h2 mm2 q2=>
   cases rv;obtain⟨its2,w2,t2⟩:=ok.lst h2;simp only[eqD];exact⟨SeqAt.RcAt.tuple_list t1 t2 hu0,SeqAt.RcNeAt.tuple_list t1 t2 hu0⟩
  |non=>cases rv;exact⟨SeqAt.RcAt.tuple_none t1 hu0,SeqAt.RcNeAt.tuple_none t1 hu0⟩
  |bl b=>cases rv;exact⟨SeqAt.RcAt.tuple_bool b t1 hu0,SeqAt.RcNeAt.tuple_bool b t1 hu0⟩
  |int i=>obtain⟨tk,rfl⟩:=rv;exact⟨SeqAt.RcAt.tuple_int i tk t1 hu0,SeqAt.RcNeAt.tuple_int i tk t1 hu0⟩
  |str i=>obtain⟨tk,rfl⟩:=rv;exact⟨SeqAt.RcAt.tuple_str i tk t1 hu0,SeqAt.RcNeAt.tuple_str i tk t1 hu0⟩
  |_=>exact zAK (ndx ne)
 |lst h1 mm1 q1=>
  rename_i a xs ds;cases ru;obtain⟨its,w1,t1⟩:=ok.lst h1;cases r2 with
  |lst h2 mm2 q2=>
   rename_i b ys es;cases rv;obtain⟨its2,w2,t2⟩:=ok.lst h2;simp only[gw]at hd;obtain⟨k,rfl⟩:∃k,n=k+1:=⟨n-1,by lia⟩
   have l1:its.toArray.size=ds.length:=by rw[zAH,<-w1.length,q1.length]
   have l2:its2.toArray.size=es.length:=by rw[zAH,<-w2.length,q2.length]
   have z':=cU (ds:=ds) (es:=es) l1 l2;by_cases hl:its.toArray.size=its2.toArray.size
   .have he:=zV ok (A:=A.in1) k q1 q2 w1 w2 (by lia) (iC nd) (iC ne) (by show A.units+1+k<cLine;lia)
    have z:=zDu t1 t2 hl hu0 he;have z2:=SeqAt.RcNeAt.lists t1 t2 hl hu0 he;rw[<-hl,zDa,beq_self_eq_true,zCl]at z';rw[z']at z z2;simp only[eqD];exact⟨z,z2⟩
   .rw[beq_eq_false_iff_ne.mpr hl,zCO]at z'
    simp only[eqD];rw[<-z'];exact⟨zCr t1 t2 (by simpa using hl) hu0,SeqAt.RcNeAt.lists_lengths t1 t2 (by simpa using hl) hu0⟩
  |tup h2 q2=>
   cases rv;obtain⟨its2,w2,t2⟩:=ok.tup h2;simp only[eqD];exact⟨SeqAt.RcAt.list_tuple t1 t2 hu0,SeqAt.RcNeAt.list_tuple t1 t2 hu0⟩
  |non=>cases rv;exact⟨SeqAt.RcAt.list_none t1 hu0,SeqAt.RcNeAt.list_none t1 hu0⟩
  |bl b=>cases rv;exact⟨SeqAt.RcAt.list_bool b t1 hu0,SeqAt.RcNeAt.list_bool b t1 hu0⟩
  |int i=>obtain⟨tk,rfl⟩:=rv;exact⟨SeqAt.RcAt.list_int i tk t1 hu0,SeqAt.RcNeAt.list_int i tk t1 hu0⟩
  |str i=>obtain⟨tk,rfl⟩:=rv;exact⟨SeqAt.RcAt.list_str i tk t1 hu0,SeqAt.RcNeAt.list_str i tk t1 hu0⟩
  |_=>exact zAK (ndx ne)
 |non=>
  cases ru;cases r2 with
  |tup h2 q2=>cases rv;obtain⟨_,_,t2⟩:=ok.tup h2;exact⟨SeqAt.RcAt.none_tuple t2 hu0,SeqAt.RcNeAt.none_tuple t2 hu0⟩
  |lst h2 mm2 q2=>cases rv;obtain⟨_,_,t2⟩:=ok.lst h2;exact⟨SeqAt.RcAt.none_list t2 hu0,SeqAt.RcNeAt.none_list t2 hu0⟩
  |dK _ _ _=>exact(bF ne).elim
  |dT _ _ _=>exact(bF ne).elim
  |set _ _ _ _=>exact(dN ne).elim
  |scr _=>exact(dO ne).elim
  |fn _=>exact(fG ne).elim
  |non=>cases rv;exact⟨SeqAt.RcAt.none_none,SeqAt.RcNeAt.none_none⟩
  |bl b=>cases rv;exact⟨SeqAt.RcAt.none_bool b,SeqAt.RcNeAt.none_bool b⟩
  |int i=>obtain⟨tk,rfl⟩:=rv;exact⟨SeqAt.RcAt.none_int i tk,SeqAt.RcNeAt.none_int i tk⟩
  |str i=>obtain⟨tk,rfl⟩:=rv;exact⟨SeqAt.RcAt.none_str i tk,SeqAt.RcNeAt.none_str i tk⟩
 |bl a=>
  cases ru;cases r2 with
  |tup h2 q2=>cases rv;obtain⟨_,_,t2⟩:=ok.tup h2;exact⟨SeqAt.RcAt.bool_tuple a t2 hu0,SeqAt.RcNeAt.bool_tuple a t2 hu0⟩
  |lst h2 mm2 q2=>cases rv;obtain⟨_,_,t2⟩:=ok.lst h2;exact⟨SeqAt.RcAt.bool_list a t2 hu0,SeqAt.RcNeAt.bool_list a t2 hu0⟩
  |dK _ _ _=>exact(bF ne).elim
  |dT _ _ _=>exact(bF ne).elim
  |set _ _ _ _=>exact(dN ne).elim
  |scr _=>exact(dO ne).elim
  |fn _=>exact(fG ne).elim
  |non=>cases rv;exact⟨SeqAt.RcAt.bool_none a,SeqAt.RcNeAt.bool_none a⟩
  |bl b=>cases rv;exact⟨SeqAt.RcAt.bool_bool a b,SeqAt.RcNeAt.bool_bool a b⟩
  |int i=>obtain⟨tk,rfl⟩:=rv;exact⟨SeqAt.RcAt.bool_int a i tk,SeqAt.RcNeAt.bool_int a i tk⟩
  |str i=>obtain⟨tk,rfl⟩:=rv;exact⟨SeqAt.RcAt.bool_str a i tk,SeqAt.RcNeAt.bool_str a i tk⟩
 |int a=>
  obtain⟨tu,rfl⟩:=ru;cases r2 with
  |tup h2 q2=>cases rv;obtain⟨_,_,t2⟩:=ok.tup h2;exact⟨SeqAt.RcAt.int_tuple a tu t2 hu0,SeqAt.RcNeAt.int_tuple a tu t2 hu0⟩
  |lst h2 mm2 q2=>cases rv;obtain⟨_,_,t2⟩:=ok.lst h2;exact⟨SeqAt.RcAt.int_list a tu t2 hu0,SeqAt.RcNeAt.int_list a tu t2 hu0⟩
  |dK _ _ _=>exact(bF ne).elim
  |dT _ _ _=>exact(bF ne).elim
  |set _ _ _ _=>exact(dN ne).elim
  |scr _=>exact(dO ne).elim
  |fn _=>exact(fG ne).elim
  |non=>cases rv;exact⟨SeqAt.RcAt.int_none a tu,SeqAt.RcNeAt.int_none a tu⟩
  |bl b=>cases rv;exact⟨SeqAt.RcAt.int_bool a tu b,SeqAt.RcNeAt.int_bool a tu b⟩
  |int i=>obtain⟨tk,rfl⟩:=rv;exact⟨SeqAt.RcAt.int_int a tu i tk,SeqAt.RcNeAt.int_int a tu i tk⟩
  |str i=>obtain⟨tk,rfl⟩:=rv;exact⟨SeqAt.RcAt.int_str a tu i tk,SeqAt.RcNeAt.int_str a tu i tk⟩
 |str a=>
  obtain⟨tu,rfl⟩:=ru;cases r2 with
  |tup h2 q2=>cases rv;obtain⟨_,_,t2⟩:=ok.tup h2;exact⟨SeqAt.RcAt.str_tuple a tu t2 hu0,SeqAt.RcNeAt.str_tuple a tu t2 hu0⟩
  |lst h2 mm2 q2=>cases rv;obtain⟨_,_,t2⟩:=ok.lst h2;exact⟨SeqAt.RcAt.str_list a tu t2 hu0,SeqAt.RcNeAt.str_list a tu t2 hu0⟩
  |dK _ _ _=>exact(bF ne).elim
  |dT _ _ _=>exact(bF ne).elim
  |set _ _ _ _=>exact(dN ne).elim
  |scr _=>exact(dO ne).elim
  |fn _=>exact(fG ne).elim
  |non=>cases rv;exact⟨SeqAt.RcAt.str_none a tu,SeqAt.RcNeAt.str_none a tu⟩
  |bl b=>cases rv;exact⟨SeqAt.RcAt.str_bool a tu b,SeqAt.RcNeAt.str_bool a tu b⟩
  |int i=>obtain⟨tk,rfl⟩:=rv;exact⟨SeqAt.RcAt.str_int a tu i tk,SeqAt.RcNeAt.str_int a tu i tk⟩
  |str i=>obtain⟨tk,rfl⟩:=rv;exact⟨SeqAt.RcAt.str_str a tu i tk,SeqAt.RcNeAt.str_str a tu i tk⟩
 |_=>exact zAK (ndx nd)
end
section
variable{K:zAA}{H:Hp}{s:zAE}
open Classical in
def iz(K:zAA)(H:Hp)(d:D)(u:Value):Bool:=if h:∃e,aQ e=true/\∃y,RelV y u/\Rp K (λ _=>True) H y e then eqD (choose h) d else false
def pN(ok:jb K H s)(r:RelV y u)(h:Rp K A H y e)(ne:aQ e=true):iz K H d u=eqD e d:=by
 have hx:∃e,aQ e=true/\∃y,RelV y u/\Rp K (λ _=>True) H y e:=⟨e,ne,y,r,h.wk λ _ _ _ _=>trivial⟩
 unfold iz;rw[dif_pos hx];obtain⟨n',y',r',h'⟩:=zEf hx;have e1:=RelV.inj r r';subst e1;rw[Rp.inj ok h' h n' ne]
def inD(d:D)(es:List D):Bool:=es.any λ e=>eqD e d
def pU(ok:jb K H s):∀{A:Addr->Prop} {xs:List V} {es:List D} {us:List Value},Rps K A H xs es->Vals xs us->aV es=true->us.any (iz K H d)=inD d es:=by
 intro A xs es us h v n;induction v generalizing es with
 |nil=>cases h;rfl
 |cons k t ih=>
  cases h with
  |cons h r=>
   simp only[aV,zAN]at n;unfold inD;rw[zGw,zGw,pN ok k h n.1,ih r n.2];rfl
def ju(ok:jb K H s)(rx:Rp K A0 H x d)(rv:RelV x v)(hu:A.units+n<cLine)(nd:aQ d=true):∀{A1:Addr->Prop} {xs:List V} {es:List D} {us:List Value},Rps K A1 H xs es->Vals xs us->bW es<=n->aV es=true->∀u∈us,zBg A s u v (iz K H d u):=by
 intro A1 xs es us h v' hd ne u hm;induction v' generalizing es with
 |nil=>cases hm
 |cons k t ih=>
  cases h with
  |cons h r=>
   simp only[bW]at hd;simp only[aV,zAN]at ne;rcases zAT.mp hm with z|z
   .subst z
    rw[pN ok k h ne.1];exact xg ok n h rx k rv (zAe (zD9 _ _) hd) ne.1 nd hu
   .exact ih r (zAe (zDQ _ _) hd) ne.2 z
end
section
variable{X:Cx}
def aDO(K:zAA)(neg:Bool):R2:=λ x y H Q=>∃A B d e,Rp K A H x d/\Rp K B H y e/\gw d<=60/\aQ d=true/\aQ e=true/\Q (.bl (if neg then !eqD d e else eqD d e)) H
def aHt(hu:X.A.units+64<cLine):OpR X (zAp .Eq) (aDO X.K false):=by
 intro hV s σ H x y v u Q I rx ry h;obtain⟨A,B,d,e,r1,r2,hd,nd,ne,q⟩:=h;exact(aDM (Inv.seqOk I) 60 r1 r2 rx ry hd nd ne (by lia)).1 X.prog X.w X.xe _ ⟨.bl (eqD d e),H,I,rfl,q⟩
def aHl(hu:X.A.units+64<cLine):OpR X (zAp .NotEq) (aDO X.K true):=by
 intro hV s σ H x y v u Q I rx ry h;obtain⟨A,B,d,e,r1,r2,hd,nd,ne,q⟩:=h;exact(aDM (Inv.seqOk I) 60 r1 r2 rx ry hd nd ne (by lia)).2 X.prog X.w X.xe _ ⟨.bl (!eqD d e),H,I,rfl,q⟩
def aCA(K:zAA)(neg:Bool):R2:=λ x y H Q=>∃A B d a es,Rp K A H x d/\y= .ref a/\(Rp K B H (.ref a) (.lst es)\/Rp K B H (.ref a) (.tup es))/\bW es<=60/\aQ d=true/\aV es=true/\Q (.bl (if neg then !inD d es else inD d es)) H
def aHs(hu:X.A.units+64<cLine):OpR X (zAp .In) (aCA X.K false):=by
 intro hV s σ H x y v u Q I rx ry h;obtain⟨A,B,d,a,es,rd,rfl,ra,hd,nd,ne,q⟩:=h;cases ry;have ok:=Inv.seqOk I;have hu1:X.A.in1.units+60<cLine:=by show X.A.units+1+60<cLine;lia
 rcases ra with ra|ra
 .cases ra with
  |lst ha _ r=>
   obtain⟨its,rv,tl⟩:=ok.lst ha;refine SeqAt.in_listAt (iz X.K H d) tl (λ w hw=>ju ok rd rx hu1 nd r rv hd ne w (by simpa using hw)) ⟨.bl _,H,I,rfl,?_⟩;rw[show its.toArray.any (iz X.K H d)=its.any (iz X.K H d)by simp,pU ok r rv ne];exact q
 .cases ra with
  |tup ha r=>
   obtain⟨its,rv,tl⟩:=ok.tup ha;refine SeqAt.in_tupleAt (iz X.K H d) tl (λ w hw=>ju ok rd rx hu1 nd r rv hd ne w (by simpa using hw)) ⟨.bl _,H,I,rfl,?_⟩;rw[show its.toArray.any (iz X.K H d)=its.any (iz X.K H d)by simp,pU ok r rv ne];exact q
def aCF(hu:X.A.units+64<cLine):OpR X (zAp .NotIn) (aCA X.K true):=by
 intro hV s σ H x y v u Q I rx ry h;obtain⟨A,B,d,a,es,rd,rfl,ra,hd,nd,ne,q⟩:=h;cases ry;have ok:=Inv.seqOk I;have hu1:X.A.in1.units+60<cLine:=by show X.A.units+1+60<cLine;lia
 rcases ra with ra|ra
 .cases ra with
  |lst ha _ r=>
   obtain⟨its,rv,tl⟩:=ok.lst ha;refine SeqAt.notIn_listAt (iz X.K H d) tl (λ w hw=>ju ok rd rx hu1 nd r rv hd ne w (by simpa using hw)) ⟨.bl _,H,I,rfl,?_⟩;rw[show its.toArray.any (iz X.K H d)=its.any (iz X.K H d)by simp,pU ok r rv ne];exact q
 .cases ra with
  |tup ha r=>
   obtain⟨its,rv,tl⟩:=ok.tup ha;refine SeqAt.notIn_tupleAt (iz X.K H d) tl (λ w hw=>ju ok rd rx hu1 nd r rv hd ne w (by simpa using hw)) ⟨.bl _,H,I,rfl,?_⟩;rw[show its.toArray.any (iz X.K H d)=its.any (iz X.K H d)by simp,pU ok r rv ne];exact q
end
section
variable{K:zAA}
def eqR(neg:Bool):D->D->Rs D:=λ d e=>if decide (gw d<=60)&&aQ d&&aQ e then .ok (.bl (if neg then !eqD d e else eqD d e))else .st
def inR(neg:Bool):D->D->Rs D:=λ d e=>match e with
 | .lst es=>if decide (bW es<=60)&&aQ d&&aV es then .ok (.bl (if neg then !inD d es else inD d es))else .st
 | .tup es=>if decide (bW es<=60)&&aQ d&&aV es then .ok (.bl (if neg then !inD d es else inD d es))else .st
 |_=>.st
def os_eq:OpS K (aDO K n) (eqR n):=by
 intro A x y d e H Q z rx ry ez q;unfold eqR at ez;split at ez
 .rename_i h
  simp only[zAN,decide_eq_true_eq]at h;cases ez;exact⟨A,A,d,e,rx,ry,h.1.1,h.1.2,h.2,q _ H (aU.refl H) (.bl _)⟩
 .cases ez
def aD9:OpS K (aCA K n) (inR n):=by
 intro A x y d e H Q z rx ry ez q;unfold inR at ez;split at ez
 .split at ez
  .rename_i h
   simp only[zAN,decide_eq_true_eq]at h;cases ez;cases ry with
   |lst ha mm r=>exact⟨A,A,d,_,_,rx,rfl,.inl (.lst ha mm r),h.1.1,h.1.2,h.2,q _ H (aU.refl H) (.bl _)⟩
  .cases ez
 .split at ez
  .rename_i h
   simp only[zAN,decide_eq_true_eq]at h;cases ez;cases ry with
   |tup ha r=>exact⟨A,A,d,_,_,rx,rfl,.inr (.tup ha r),h.1.1,h.1.2,h.2,q _ H (aU.refl H) (.bl _)⟩
  .cases ez
 .cases ez
def aEE:∀x y z,eqR n x y= .ok z->imm z=true:=by
 intro x y z e;unfold eqR at e;split at e
 .cases e;rfl
 .cases e
end
section
variable{K:zAA}
def boolsOf:List D->Option (List Bool)
 |[]=>some []
 | .bl i::r=>(boolsOf r).map (i::·)
 |_=>none
theorem pR:∀{l:List D} {ns:List Bool},boolsOf l=some ns->l=ns.map .bl
 |[],ns,h=>by cases h;rfl
 | .bl i::r,ns,h=>by
  simp only[boolsOf,zC1]at h;obtain⟨ms,h1,rfl⟩:=h;rw[pR h1];rfl
 | .non::_,_,h=>by cases h
 | .int _::_,_,h=>by cases h
 | .str _::_,_,h=>by cases h
 | .tup _::_,_,h=>by cases h
 | .lst _::_,_,h=>by cases h
 | .dct _ _::_,_,h=>by cases h
 | .set _::_,_,h=>by cases h
 | .scr _::_,_,h=>by cases h
theorem rM:∀ns:List Bool,boolsOf (ns.map .bl)=some ns
 |[]=>rfl
 |n::ns=>by simp only[zAP,boolsOf,rM ns,zDS]
theorem wA{X:Cx}:∀{bs:List Bool} {us:List Value},Vals (bs.map V.bl) us->LSm.BoolsAre us bs
 |[],_,.nil=>.nil
 |b::bs,_,.cons r t=>by
  have e:_=zD6 b:=r;subst e;exact .cons b (wA (X:=X) t)
theorem Rps.bools_of:∀{xs:List V} {bs:List Bool},Rps K A H xs (bs.map D.bl)->xs=bs.map V.bl
 |_,[],.nil=>rfl
 |_,n::ns,.cons h r=>by
  cases h;rw[zAP,Rps.bools_of r]
def yI(f:List Bool->Bool):List D->Rs D
 |[.lst l]=>match boolsOf l with
  |some bs=>.ok (.bl (f bs))
  |none=>.st
 |_=>.st
def aEY{X:Cx}(hc:X.calm=true):cZ X (.builtin "all") (λ xs H Q=>∃(p:Addr) (bs:List Bool),xs=[.ref p]/\H p=some (.lst (bs.map V.bl))/\Q (.bl (bs.all id)) H):=by
 intro hV s σ H xs us Q I r h;obtain⟨p,bs,rfl,hp,q⟩:=h;obtain⟨u,rfl,ru⟩:=vals1 r;cases ru;obtain⟨its,rv,pl,hz⟩:=I.list (SqL.of hp);have hb:=wA (X:=X) rv;have hl:=pl.isList;have hlt:p<s.heap.objs.size:=by obtain⟨_,e,_⟩:=hl;exact zA4 e
 refine call_all_walk (zHQ hl ?_);refine⟨s.heap.objs.size,[s.heap.objs.size,p],[s.heap.objs.size],its.toArray.size,_,_,λ i=>(bs[i]?).getD true,rfl,Walks.list (A:=X.A.in1) (I.ok.hd hc) _ p (zAu hlt) its.toArray,
  ⟨⟨_,zA6 _ rfl,rfl,rfl⟩,hl.push _⟩,λ i v s' Q' E' hP hQ=>?_,λ h' tk hk=>?_⟩
 .obtain⟨b,e,rfl⟩:=hb.get i v (by simpa using hP)
  simp only[e,Option.getD_some]at hQ;exact zBu hQ
 .have e:((zBB its.toArray.size).all λ i=>(bs[i]?).getD true)=bs.all id:=by
   rw[zAH,hb.length];exact LSm.range_all bs
  rw[e];exact⟨.bl _,H,I.kept (LSm.kept_iter hk),rfl,q⟩
def aI2:ph K (λ xs H Q=>∃(p:Addr) (bs:List Bool),xs=[.ref p]/\H p=some (.lst (bs.map V.bl))/\Q (.bl (f bs)) H) (yI f):=by
 intro A xs ds H Q z r ez q;unfold yI at ez;split at ez
 .split at ez
  .rename_i l bs e
   cases ez
   have:=pR e
   subst this;cases r with
   |cons h r=>
    cases r;cases h with
    |lst h m r=>
     have:=r.bools_of
     subst this;exact⟨_,bs,rfl,h,q _ H (aU.refl H) (.bl _)⟩
  .cases ez
 .cases ez
def aFx:∀x z,yI f x= .ok z->imm z=true:=by
 intro x z e;unfold yI at e;split at e
 .split at e
  .cases e;rfl
  .cases e
 .cases e
def mmD(f:Int->Int->Int):List D->Rs D
 |[.int i,.int j]=>.ok (.int (f i j))
 |_=>.st
def aGt:ph K (λ xs H Q=>∃i j,xs=[.int i,.int j]/\Q (.int (f i j)) H) (mmD f):=by
 intro A xs ds H Q z r ez q;unfold mmD at ez;split at ez
 .cases ez
  cases r with
  |cons h r=>
   cases h;cases r with
   |cons h r=>
    cases h;cases r;exact⟨_,_,rfl,q _ H (aU.refl H) (.int _)⟩
 .cases ez
def aEB:∀x z,mmD f x= .ok z->imm z=true:=by
 intro x z e;unfold mmD at e;split at e
 .cases e;rfl
 .cases e
def gW:List D->Rs D
 |[.lst l]=>.ok (.tup l)
 |[.tup l]=>.ok (.tup l)
 |_=>.st
def aEW:ph K (λ xs H Q=>∃p ys,xs=[.ref p]/\((SqL K H p ys/\∀l,H l=none->Q (.ref l) (upd H l (.tup ys)))\/(SqT K H p ys/\Q (.ref p) H))) gW:=by
 intro A xs ds H Q z r ez q;unfold gW at ez;split at ez
 .cases ez
  cases r with
  |cons h r=>
   cases r;cases h with
   |lst h m r=>exact⟨_,_,rfl,.inl ⟨SqL.of h,λ l hl=>q _ _ (bI hl _) (.tup (SqT.of aq) ((r.wk λ _ _ _ z=>.inr z.1).up (bI hl _)))⟩⟩
 .cases ez
  cases r with
  |cons h r=>
   cases r;cases h with
   |tup h r=>exact⟨_,_,rfl,.inr ⟨h,q _ H (aU.refl H) (.tup h (r.wk λ _ _ _ z=>.inr z))⟩⟩
 .cases ez
end
def cutD(l:List D)(lo hi:Option Int):List D:=(l.drop (HT.sIx l.length 0 lo)).take (HT.sIx l.length l.length hi-HT.sIx l.length 0 lo)
def Rps.cut{K:zAA}(r:Rps K A H xs ds)(lo hi:Option Int):Rps K A H (uo xs lo hi) (cutD ds lo hi):=by
 unfold uo cutD;rw[r.length];exact(r.drop _).take _
def slD(d:D)(lo hi:Option Int):Rs D:=match d with
 | .tup l=>.ok (.tup (cutD l lo hi))
 | .lst l=>.ok (.lst (cutD l lo hi))
 |_=>.st
def aIp(K:zAA):V->Option Int->Option Int->Hp->VK->Prop:=λ x lo hi H Q=>(∃a xs,x= .ref a/\SqT K H a xs/\∀c H',aU H H'->SqT K H' c (uo xs lo hi)->Q (.ref c) H')\/aIq K x lo hi H Q
def aEj:SlR X (λ x lo hi H Q=>∃a xs,x= .ref a/\SqT X.K H a xs/\∀c H',aU H H'->SqT X.K H' c (uo xs lo hi)->Q (.ref c) H'):=by
 intro hV s σ H x v vl vu lo hi sl Q I rx hs pl pu h;obtain⟨a,xs,rfl,hx,q⟩:=h;cases rx;obtain⟨its,r,ht,hz⟩:=I.tuple hx;have hW:its.toArray.size=xs.length:=by rw[zAH];exact r.length.symm
 refine⟨"tuple",_,zBM.lookup,ht.typeIs,?_⟩;by_cases hw:HT.sIx xs.length 0 lo=0/\HT.sIx xs.length xs.length hi=xs.length
 .refine HT.pJ ht hs pl pu (by rw[hW];exact hw.1) (by rw[hW];exact hw.2) ⟨.ref a,H,I,rfl,q a H (aU.refl H) ?_⟩
  have:uo xs lo hi=xs:=by
   unfold uo;rw[hw.1,hw.2,zDj,zEW,List.take_length]
  rw[this];exact hx
 .refine HT.pI ht hs pl pu (by rw[hW];exact hw) ?_ (by rw[hW];exact hz)
  rw[hW];refine⟨.ref s.heap.objs.size,_,I.laid (t':=s.toks) (o:=.tup (uo xs lo hi)) (λ b ob q=>zAG _ q) (zAU _) ?_,rfl,q _ _ (bI (I.hok.fresh (zAU _)) _) (SqT.of aq)⟩;exact⟨⟨zAe (rF xs lo hi) hz,NoD.push _⟩,_,(r.drop (HT.sIx xs.length 0 lo)).take (HT.sIx xs.length xs.length hi-HT.sIx xs.length 0 lo),zE2 _ _⟩
def aJf:SlR X (aIp X.K):=aEj.or aEk
section
variable{C:Ct}{pos p2:Pos}{m:Mode}{a e:Expr}{fa fe:En->Rs D}{lo hi:Option Expr}
def aJp(K:zAA)(G:Gx)(t:TO)(f:En->Rs (Option Int)):Prop:=∀U σ H ρ lab (Q:Option Int->Hp->Prop),RR K G U ρ σ H lab->WR G (f ρ) (λ o=>∀H',aU H H'->Q o H')->t σ H Q
def SO(C:Ct)(e:Option Expr)(f:En->Rs (Option Int)):Prop:=∃t,(∀i,PO (C.X i) e t)/\aJp C.K C.G t f
def aDd:En->Rs (Option Int):=λ _=>.ok none
def aDc(fe:En->Rs D):En->Rs (Option Int):=λ ρ=>(fe ρ).bd λ d=>match d with
 | .int i=>.ok (some i)
 |_=>.st
def aEi:SO C none aDd:=⟨_,λ _=>aFH,λ U σ H ρ lab Q R W=>W H (aU.refl H)⟩
def aEh(h:SE C m e fe):SO C (some e) (aDc fe):=by
 obtain⟨t,h1,h2⟩:=h;refine⟨_,λ i=>aFG (h1 i),λ U σ H ρ lab Q R W=>h2 U σ H ρ lab _ R (W.bd.imp λ d _ w x H1 s r=>?_)⟩;cases r with
 |int i=>exact⟨i,rfl,w H1 s⟩
 |_=>exact zAK w
def aAP(fa:En->Rs D)(fl fh:En->Rs (Option Int)):En->Rs D:=λ ρ=>(fa ρ).bd λ d=>(fl ρ).bd λ l=>(fh ρ).bd λ h=>okD (slD d l h)
def aCw{fl fh:En->Rs (Option Int)}(ha:SE C m a fa)(hl:SO C lo fl)(hh:SO C hi fh):SE C m (.Subscript a (.Slice lo hi none p2) pos) (aAP fa fl fh):=by
 obtain⟨t,h1,h2⟩:=ha;obtain⟨tl,l1,l2⟩:=hl;obtain⟨th,k1,k2⟩:=hh;refine⟨tSl (aIp C.K) t tl th,λ i=>by rw[<-C.hK i];exact aDZ aJf (h1 i) (l1 i) (k1 i),λ U σ H ρ lab Q R W=>h2 U σ H ρ lab _ R (W.bd.imp λ d _ w x H1 s1 r1=>?_)⟩;refine l2 U σ H1 ρ lab _ (R.up s1) (w.bd.imp λ ol _ w H2 s2=>?_);refine k2 U σ H2 ρ lab _ ((R.up s1).up s2) (w.bd.imp λ oh _ w H3 s3=>?_);obtain⟨z,ez,w⟩:=w.okD;have s:=s1.trans (s2.trans s3);have r3:=r1.up (s2.trans s3);cases d with
 |tup l=>
  cases ez;cases r3 with
  |tup h r=>exact .inl ⟨_,_,rfl,h,λ c H' s' hc=>w _ H' (s.trans s') (.tup hc ((r.cut ol oh).up s'))⟩
 |lst l=>
  cases ez;cases r3 with
  |lst h mm r=>
   exact .inr ⟨_,_,rfl,SqL.of h,λ p hp=>w _ _ (s.trans (bI hp _)) (.lst aq (.inl (s.free hp)) (((r.cut ol oh).wk λ q o e z=>⟨z.1,λ e'=>by subst e';rw[hp]at e;cases e⟩).up (bI hp _)))⟩
 |_=>cases ez
def aGP(fd:D->D->Rs D)(i:Nat)(fe:En->Rs D):En->Ou:=λ ρ=>(op2 fd (fO i) fe ρ).bo λ d=>.nx (ρ.set i (.sh d))
def aCn(he:SE C m e fe)(ho:∀j,PIp (C.X j) op (ipI f))(hN:∀j,(C.X j).N[i]? =some x:=by intro _;rfl)(hx:∀j,Loc (C.X j).env.scope x:=by intro _;first|exact zB6 rfl|exact zBH rfl)(hf:∀j,(C.X j).fn x=true\/(C.X j).env.scope.names.lookup x=some .local:=by intro _;first|exact .inl rfl|exact .inr rfl)(nd:∀j,(C.X j).N.Nodup:=by intro _;assumption):SS C (.AugAssign (.Name x pos') op e pos) (aGP (i2 (λ _ _=>true) λ a b=>.int (f a b)) i fe):=by
 obtain⟨t,h1,h2⟩:=he;refine⟨_,λ j=>aDV (nd j) (hN j) (hx j) (h1 j) (ho j) (hf j),λ U σ H ρ lab De R W=>?_⟩;have w0:=(WS.bo W).bd;refine aBP C.K C.G i U σ H ρ lab (λ v H'=>t σ H' λ y H1=>ipI f v y H1 λ z H2=>De.nx (σ.set i (some z)) H2) R (w0.imp λ d _ w v H' s r=>h2 U σ H' ρ lab _ (R.up s) (w.bd.imp λ e _ w y H1 s1 r1=>?_));obtain⟨z,ez,w⟩:=w.okD;unfold i2 at ez;split at ez
 .cases ez
  cases r;cases r1;exact⟨_,_,rfl,rfl,w _ _ _ (((R.up s).up s1).put (s:=.sh (.int _)) (Rp.int _))⟩
 .cases ez
end
section
variable{C:Ct}{pos p:Pos}{m m1 m2 m3:Mode}{a b c e:Expr}{fa fb fc:En->Rs D}{ga:En->Rs (List D)}
def Ct.u0(C:Ct)(i:C.ι):(C.X i).A.units<cLine:=(C.room i).units0
def Ct.u64(C:Ct)(i:C.ι):(C.X i).A.units+64<cLine:=(C.room i).units
def Ct.ltR(C:Ct)(i:C.ι):OpR (C.X i) (zAp .Lt) (λ x y H Q=>rI0 (λ i j=>.bl (decide (i<j))) x y H Q\/aEz C.K x y H Q):=by have h:=aHo (X:=C.X i) (C.u0 i);rw[C.hK i]at h;exact h
def Ct.leR(C:Ct)(i:C.ι):OpR (C.X i) (zAp .LtE) (λ x y H Q=>rI0 (λ i j=>.bl (decide (i<=j))) x y H Q\/aFA C.K x y H Q):=by have h:=aHq (X:=C.X i) (C.u0 i);rw[C.hK i]at h;exact h
def Ct.eqRl(C:Ct)(i:C.ι):OpR (C.X i) (zAp .Eq) (aDO C.K false):=by have h:=aHt (X:=C.X i) (C.u64 i);rw[C.hK i]at h;exact h
def Ct.neRl(C:Ct)(i:C.ι):OpR (C.X i) (zAp .NotEq) (aDO C.K true):=by have h:=aHl (X:=C.X i) (C.u64 i);rw[C.hK i]at h;exact h
def Ct.inRl(C:Ct)(i:C.ι):OpR (C.X i) (zAp .In) (aCA C.K false):=by have h:=aHs (X:=C.X i) (C.u64 i);rw[C.hK i]at h;exact h
def Ct.ninRl(C:Ct)(i:C.ι):OpR (C.X i) (zAp .NotIn) (aCA C.K true):=by have h:=aCF (X:=C.X i) (C.u64 i);rw[C.hK i]at h;exact h
def Ct.zz(C:Ct)(i:C.ι):OpR (C.X i) (zB9 .Add) (aDP C.K):=by have h:=aF4 (X:=C.X i);rw[C.hK i]at h;exact h
def wL:D->D->Rs D:=i2 (λ _ _=>true) λ i j=>.int (i-j)
def jG:D->D->Rs D:=i2 (λ _ j=>decide (0<j)&&decide (j<1073741824)) λ i j=>.int (i / j)
def qO:D->D->Rs D:=i2 (λ _ j=>decide (0<j)) λ i j=>.int (i%j)
def aH0:D->D->Rs D:=i2 (λ i j=>decide (0<=j)&&decide (j<=1000000)&&decide (i.natAbs<2^64)) λ i j=>.int (i^j.toNat)
def dw(ha:SE C m1 a fa)(hb:SE C m2 b fb):SE C (jn m1 m2) (.BinOp a .Add b pos) (op2 cM fa fb):=tU C.zz aHf ha hb
def tV(ha:SE C m1 a fa)(hb:SE C m2 b fb):SE C (jn m1 m2) (.BinOp a .Mult b pos) (op2 lM fa fb):=tU (λ _=>aFZ) aHd ha hb
def tQ(ha:SE C m1 a fa)(hb:SE C m2 b fb):SE C (some []) (.BinOp a .Sub b pos) (op2 wL fa fb):=fP (tU (λ _=>aHi) aFU ha hb) λ _ _ h=>jr xY h
def sU(ha:SE C m1 a fa)(hb:SE C m2 b fb):SE C (some []) (.BinOp a .FloorDiv b pos) (op2 jG fa fb):=fP (tU (λ _=>aF0) (aA7 λ i j h=>by simpa[aJ3]using h) ha hb) λ _ _ h=>jr xY h
def qF(ha:SE C m1 a fa)(hb:SE C m2 b fb):SE C (some []) (.BinOp a .Mod b pos) (op2 qO fa fb):=fP (tU (λ _=>aHn) (aA7 λ i j h=>by simpa using h) ha hb) λ _ _ h=>jr xY h
def aHG(ha:SE C m1 a fa)(hb:SE C m2 b fb):SE C (some []) (.BinOp a .Pow b pos) (op2 aH0 fa fb):=fP (tU (λ _=>aHk) (aA7 λ i j h=>by simp only[zAN,decide_eq_true_eq]at h;exact⟨h.1.1,h.1.2,h.2⟩) ha hb) λ _ _ h=>jr xY h
def aIn(ha:SE C m1 a fa)(hb:SE C m2 b fb):SE C (some []) (.Compare a [.Lt] [b] pos) (op2 ltD fa fb):=fP (aAU C.ltR aD6 ha hb) λ _ _ h=>jr aEC h
def yX(ha:SE C m1 a fa)(hb:SE C m2 b fb):SE C (some []) (.Compare a [.Eq] [b] pos) (op2 (eqR false) fa fb):=fP (aAU C.eqRl os_eq ha hb) λ _ _ h=>jr aEE h
def aIm(ha:SE C m1 a fa)(hb:SE C m2 b fb):SE C (some []) (.Compare a [.NotEq] [b] pos) (op2 (eqR true) fa fb):=fP (aAU C.neRl os_eq ha hb) λ _ _ h=>jr aEE h
def vX(ha:SE C m1 a fa)(hb:SE C m2 b fb):ST C (.Compare a [.Lt] [b] pos) (tsb (op2 ltD fa fb)):=jf C.ltR aD6 ha hb
def aCk(ha:SE C m1 a fa)(hb:SE C m2 b fb):ST C (.Compare a [.Gt] [b] pos) (tsb (op2 gtD fa fb)):=jf (λ _=>aJF) xJ ha hb
def aG6(ha:SE C m1 a fa)(hb:SE C m2 b fb):ST C (.Compare a [.GtE] [b] pos) (tsb (op2 geD fa fb)):=jf (λ _=>aJG) xJ ha hb
def tH(ha:SE C m1 a fa)(hb:SE C m2 b fb):ST C (.Compare a [.Eq] [b] pos) (tsb (op2 (eqR false) fa fb)):=jf C.eqRl os_eq ha hb
def yS(ha:SE C m1 a fa)(hb:SE C m2 b fb):ST C (.Compare a [.NotEq] [b] pos) (tsb (op2 (eqR true) fa fb)):=jf C.neRl os_eq ha hb
def aIj(ha:SE C m1 a fa)(hb:SE C m2 b fb)(hm:zBy .In b=false:=by with_unfolding_all rfl):ST C (.Compare a [.In] [b] pos) (tsb (op2 (inR false) fa fb)):=jf C.inRl aD9 ha hb hm
def aHD(ha:SE C m1 a fa)(hb:SE C m2 b fb)(hm:zBy .NotIn b=false:=by with_unfolding_all rfl):ST C (.Compare a [.NotIn] [b] pos) (tsb (op2 (inR true) fa fb)):=jf C.ninRl aD9 ha hb hm
def aCj(ha:SE C m1 a fa)(hb:SE C m2 b fb):ST C (.Compare a [.IsNot] [b] pos) (tsb (op2 (isD true) fa fb)):=jf (λ _=>aFX) aD8 ha hb
def aEt(ha:SE C m1 a fa)(hb:SE C m2 b fb)(hc:SE C m3 c fc)(hm:zGe [.LtE,.LtE] [b,c]=false:=by with_unfolding_all rfl):SE C (some []) (.Compare a [.LtE,.LtE] [b,c] pos) (chD leD leD fa fb fc):=yZ C.leR aD7 C.leR aD7 aIN ha hb hc hm
def aEs(ha:SE C m1 a fa)(hb:SE C m2 b fb)(hc:SE C m3 c fc)(hm:zGe [.LtE,.Lt] [b,c]=false:=by with_unfolding_all rfl):SE C (some []) (.Compare a [.LtE,.Lt] [b,c] pos) (chD leD ltD fa fb fc):=yZ C.leR aD7 C.ltR aD6 aEC ha hb hc hm
def aL(ha:SE C m1 a fa)(hb:SE C m2 b fb)(hp:yJ b:=by exact λ _ _=>rfl):SE C m1 (.Subscript a b pos) (op2 ixD fa fb):=by
 obtain⟨t,h1,h2⟩:=ha;obtain⟨u,k1,k2⟩:=hb;refine⟨tOp (rIx C.K) t u,λ i=>by rw[<-C.hK i];exact aGl aIK (h1 i) (k1 i) hp,λ U σ H ρ lab Q R W=>?_⟩;refine h2 U σ H ρ lab _ R (W.bd.imp λ d _ w x H1 s1 r1=>?_);refine k2 U σ H1 ρ lab _ (R.up s1) (w.bd.imp λ e _ w y H2 s2 r2=>?_);obtain⟨z,ez,w⟩:=w.okD;have hi:imm e=true:=by
  unfold ixD at ez;split at ez<;>first|rfl|cases ez
 refine aJC (fpM m1 lab H) x y d e H2 Q z (r1.up s2) (r2.imm hi) ez λ v H' s r=>w v H' ((s1.trans s2).trans s) (r.wk λ p o _ q=>?_)
 rcases q with q|q
 .exact .inl ((s1.trans s2).free q)
 .exact q
def fB(hm:C.mg "len"=none)(ha:SA C m [a] ga)(he:∀i,zAX [a] (C.X i).env=[(false,eval a (C.X i).env)]:=by intro _;rfl)(hg:∀i,Gl (C.X i) "len":=by intro _;rfl):SE C (some []) (.Call (.Name "len" p) [a] [] pos) (opA g8 ga):=
 fP (kZ (λ i=>by have h:=yC (X:=C.X i);rw[C.hK i]at h;exact h) aI1 hg hm PySem.boot_len ha (by decide) (by decide) he) λ _ _ h=>mX aFw h
def aHI(hm:C.mg "all"=none)(ha:SA C m [a] ga)(he:∀i,zAX [a] (C.X i).env=[(false,eval a (C.X i).env)]:=by intro _;rfl)(hg:∀i,Gl (C.X i) "all":=by intro _;rfl)(hv:zAr "all"=some (.builtin "all"):=by decide+kernel):SE C (some []) (.Call (.Name "all" p) [a] [] pos) (opA (yI λ bs=>bs.all id) ga):=
 fP (kZ (λ i=>aEY (C.calm i)) aI2 hg hm hv ha (by decide) (by decide) he) λ _ _ h=>mX aFx h
def sO(hm:C.mg "min"=none)(ha:SA C m [a,b] ga)(he:∀i,zAX [a,b] (C.X i).env=(false,eval a (C.X i).env)::zAX [b] (C.X i).env:=by intro _;rfl)(hpl:∀i,(zBv pos (zAX [b] (C.X i).env)).any (·.1)=false:=by intro _;rfl)(hg:∀i,Gl (C.X i) "min":=by intro _;rfl)(hv:zAr "min"=some (.builtin "min"):=by decide+kernel):SE C (some []) (.Call (.Name "min" p) [a,b] [] pos) (opA (mmD λ i j=>if j<i then j else i) ga):=
 fP (kZ (λ i=>aCY (C.calm i)) aGt hg hm hv ha (by decide) (by decide) he hpl) λ _ _ h=>mX aEB h
def sS(hm:C.mg "max"=none)(ha:SA C m [a,b] ga)(he:∀i,zAX [a,b] (C.X i).env=(false,eval a (C.X i).env)::zAX [b] (C.X i).env:=by intro _;rfl)(hpl:∀i,(zBv pos (zAX [b] (C.X i).env)).any (·.1)=false:=by intro _;rfl)(hg:∀i,Gl (C.X i) "max":=by intro _;rfl)(hv:zAr "max"=some (.builtin "max"):=by decide+kernel):SE C (some []) (.Call (.Name "max" p) [a,b] [] pos) (opA (mmD λ i j=>if j>i then j else i) ga):=
 fP (kZ (λ i=>aC0 (C.calm i)) aGt hg hm hv ha (by decide) (by decide) he hpl) λ _ _ h=>mX aEB h
def iK(hm:C.mg "tuple"=none)(ha:SA C m [a] ga)(he:∀i,zAX [a] (C.X i).env=[(false,eval a (C.X i).env)]:=by intro _;rfl)(hg:∀i,Gl (C.X i) "tuple":=by intro _;rfl)(hv:zAr "tuple"=some (.type "tuple"):=by decide+kernel):SE C m (.Call (.Name "tuple" p) [a] [] pos) (opA gW ga):=
 yc (λ i=>by have h:=vN (X:=C.X i);rw[C.hK i]at h;exact h) aEW hg hm hv ha (by decide) (by decide) he
def aBO(K:zAA):Sp:=λ vs H Q E=>∃a ns,vs=[.ref a]/\mJ K H a ns/\ns.length<=63/\∀H',Q (.bl true) H'
def aFi{K:zAA}(h:∀ns:List Int,ns.length<=63->F [.scr ns]= .ok (.bl true)):∀vs H Q E,aBO K vs H Q E->spF K cl 1 F vs H Q E:=by
 rintro vs H Q E ⟨a,ns,rfl,hs,hl,q⟩;refine⟨[.scr ns],rfl,.cons (.scr hs) .nil,?_⟩;rw[h ns hl];intro v H' s r;cases r;exact q H'
def aHJ{K:zAA}{a:Addr}(hO:Only H)(h:SqL K H a (ns.map V.int)):mJ K H a ns:=by
 rcases h with (h|⟨o,h⟩)|h
 .rcases hO a with z|⟨o,xs,z⟩
  .rw[h]at z;cases z
  .rw[h]at z;cases z
 .exact .inl ⟨o,h⟩
 .exact .inr h
end
def yq:V->List V->Hp->VK->Prop:=λ x vs H Q=>∃l b xs zs,x= .ref l/\vs=[.ref b]/\H l=some (.lst xs)/\H b=some (.lst zs)/\xs.length+zs.length<=zAQ/\∀H',jd l H H'->H' l=some (.lst (xs++zs))->Q .non H'
def aAc:MtM X "list.extend" yq:=λ hV s σ H x xs v us Q I rx rv ⟨l,b,ys,zs,e1,e2,h,h2,z,n⟩=>
 aCJ hV s σ H x xs v us Q I rx rv ⟨l,b,ys,zs,e1,e2,h,h2,z,n _ (λ b o ne hb=>by rw[bK ne];exact hb) aq⟩
section
variable{K:zAA}
theorem vd:∀{ns:List Int} {us:List Value},Vals (ns.map V.int) us->∃ts:List (Int×Tok),us=ts.map (λ q=>zDU q.1 q.2)/\ts.map zEJ=ns
 |[],_,.nil=>⟨[],rfl,rfl⟩
 |n::ns,_,.cons r t=>by
  obtain⟨tk,e⟩:∃tk,_=zDU n tk:=r
  obtain⟨ts,e1,e2⟩:=vd t;subst e;exact⟨(n,tk)::ts,by rw[e1];rfl,by rw[<-e2];rfl⟩
def aCZ(hc:X.calm=true):cZ X (.builtin "max") (λ xs H Q=>∃(p:Addr) (ns:List Int) (m:Int),xs=[.ref p]/\H p=some (.lst (ns.map V.int))/\ns.max?=some m/\Q (.int m) H):=by
 intro hV s σ H xs us Q I r h;obtain⟨p,ns,m,rfl,hp,hm,q⟩:=h;obtain⟨u,rfl,ru⟩:=vals1 r;cases ru;obtain⟨its,rv,pl,hz⟩:=I.list (SqL.of hp);obtain⟨ts,rfl,rfl⟩:=vd rv;have hsz:0<ts.toArray.size:=by
  cases ts with
  |nil=>cases hm
  |cons a b=>simp
 refine max_intList (xs:=ts.toArray) (I.ok.hd hc) (by have:=pl.isList;simpa[intItems]using this) hsz λ v h' tk hv hk=>?_
 obtain⟨t,rfl⟩:=intItems_at hv;obtain⟨h1,h2⟩:=argBest_gt (numAt ts.toArray) (ts.toArray.size-1);have hM:(ts.map zEJ).max?=some (numAt ts.toArray (argBest (λ i j=>decide (numAt ts.toArray i>numAt ts.toArray j)) (ts.toArray.size-1))):=by
  rw[zFj];refine⟨?_,λ a ha=>?_⟩
  .rw[numAt_eq];exact getD_mem (by rw[zAB];simp at h1 hsz ⊢;omega)
  .obtain⟨j,hj,rfl⟩:=mem_getD ha
   have:=h2 j (by rw[zAB]at hj;simp;omega)
   rw[numAt_eq]at this;exact this
 rw[hm]at hM;injection hM with hM
 exact⟨.int m,H,I.kept hk,⟨t,by rw[hM]⟩,q⟩
def qj(f:List Int->Option Int):List D->Rs D
 |[.lst l]=>match intsOf l with
  |some ns=>match f ns with
   |some m=>.ok (.int m)
   |none=>.st
  |none=>.st
 |_=>.st
def aGK:ph K (λ xs H Q=>∃(p:Addr) (ns:List Int) (m:Int),xs=[.ref p]/\H p=some (.lst (ns.map V.int))/\f ns=some m/\Q (.int m) H) (qj f):=by
 intro A xs ds H Q z r ez q;unfold qj at ez;split at ez
 .split at ez
  .rename_i l ns e
   split at ez
   .rename_i m em
    cases ez
    have:=eQ e
    subst this;cases r with
    |cons h r=>
     cases r;cases h with
     |lst h _ r=>
      have:=r.ints_of
      subst this;exact⟨_,ns,m,rfl,h,em,q _ H (aU.refl H) (.int _)⟩
   .cases ez
  .cases ez
 .cases ez
def aEA:∀x z,qj f x= .ok z->imm z=true:=by
 intro x z e;unfold qj at e;split at e
 .split at e
  .split at e
   .cases e;rfl
   .cases e
  .cases e
 .cases e
end
section
variable{C:Ct}{pos p:Pos}{a:Expr}{ga:En->Rs (List D)}{m:Mode}
def aEr(hm:C.mg "max"=none)(ha:SA C m [a] ga)(he:∀i,zAX [a] (C.X i).env=[(false,eval a (C.X i).env)]:=by intro _;rfl)(hg:∀i,Gl (C.X i) "max":=by intro _;rfl)(hv:zAr "max"=some (.builtin "max"):=by decide+kernel):SE C (some []) (.Call (.Name "max" p) [a] [] pos) (opA (qj zGg) ga):=
 fP (kZ (λ i=>aCZ (C.calm i)) aGK hg hm hv ha (by decide) (by decide) he) λ _ _ h=>mX aEA h
end
def wH:fillsNumberSlot (.type "tuple") "mul"=pure false:=
 PySem.fillsNumberSlot_seq (id:="tuple.__mul__") (r:=some (.builtin "tuple.__rmul__")) zCo.lookup (by decide+kernel) zGl.lookup (by decide+kernel)
def tB:seqRepeat? (.type "tuple")=pure (some (.builtin "tuple.__mul__")):=by
 unfold seqRepeat?;rw[zGX (T:="tuple") (name:="__mul__") (id:="tuple.__mul__") zCo.lookup (by decide+kernel)];rw[zGX (T:="tuple") (name:="__rmul__") (id:="tuple.__rmul__") zGl.lookup (by decide+kernel)];rfl
def tD(k:Int)(t:Tok)(a:Addr)(its:Array Value)(n:Nat)(dd:Option Addr)(sl:Array (Option Value)):
  Meets (zD7.«int.__rmul__» ⟨[.int k t,.ref a],[]⟩) (λ _ R s=>s.heap.get? a=some {cls:=.type "tuple",dict:=dd,data:=.seq its n,slots:=sl}/\R (.ok (.ret zDb)) s):=by
 refine .of_wp λ P w A R s h=>?_
 obtain⟨_,_,_,_,_⟩:=s;obtain⟨hl,h⟩:=h;wp_walk;exact⟨_,rfl,h⟩
def aCe(k:Int)(t:Tok)(a:Addr)(l:List Value)(n:Nat)(dd:Option Addr)(sl:Array (Option Value))(h1:1<k)(h2:k<2^63)(hz:l.length*k.toNat<=zAQ)(he:l.isEmpty=false):
  Meets (zD7.«tuple.__mul__» ⟨[.ref a,.int k t],[]⟩) (λ _ R s=>s.heap.get? a=some {cls:=.type "tuple",dict:=dd,data:=.seq l.toArray n,slots:=sl}/\
   R (.ok (.ret (zBX s.heap.objs.size))) {s with heap:=s.heap.push {cls:=zCT "tuple",data:=zGv (zAM k.toNat l).flatten.toArray}}):=by
 have hs:(l.length:Int)*k<=zAQ:=by
  have:((l.length*k.toNat:Nat):Int)=(l.length:Int)*k:=by
   rw[Int.natCast_mul,zB0 (by lia)]
  rw[<-this];exact Int.ofNat_le.mpr hz
 have hb:(zAQ:Int)<=(2^63-1) / 8:=by decide
 have c0:¬(decide (k < -2^63)||decide (k ≥ 2^63))=true:=by simp;lia
 have c1:¬(l.toArray.isEmpty||k==1)=true:=by simp only[zDd,he];simp;lia
 have c2:¬(decide (k<=0)||l.toArray.isEmpty)=true:=by simp only[zDd,he];simp;lia
 have c3:¬((l.toArray.size:Int)*k>(2^63-1) / 8):=by rw[zAH];lia
 have c4:¬zDo ((l.toArray.size:Int)*k)=true:=by rw[zAH];unfold zDo;simp[zAQ]at hs ⊢;lia
 have ef:zFR (λ x1 x2=>x1++x2) #[] (zAM k.toNat l.toArray)=(zAM k.toNat l).flatten.toArray:=by
  have:=foldl_rep l k.toNat []
  simpa using this
 have c5:¬((zAM k.toNat l).flatten.toArray.size>zAQ):=by rw[zAH,len_rep,zFp];lia
 refine .of_wp λ P w A R s h=>?_
 obtain⟨_,_,_,_,_⟩:=s;obtain⟨hl,h⟩:=h;wp_walk;rw[if_neg c0];wp_walk
 try rw[if_neg c1]
 wp_walk
 try rw[if_neg c2]
 wp_walk
 try rw[if_neg c3]
 wp_walk
 try rw[if_neg c4]
 try rw[ef]
 wp_walk
 try rw[if_neg c5]
 wp_walk;exact⟨_,rfl,h⟩
def aDN(K:zAA):R2:=λ x y H Q=>∃a k xs,x= .ref a/\y= .int k/\SqT K H a xs/\1<k/\k<2^63/\xs≠[]/\xs.length*k.toNat<=zAQ/\New H (.tup (zAM k.toNat xs).flatten) Q
def aFW:OpR X (zB9 .Mult) (aDN X.K):=by
 intro hV s σ H x y v u Q I rx ry h;obtain⟨a,k,xs,rfl,rfl,ha,h1,h2,hne,hz,q⟩:=h;cases rx;obtain⟨t,rfl⟩:=ry;obtain⟨its,r,p1,_⟩:=I.tuple ha;obtain⟨⟨cls,dd,data,sl⟩,ho,hc,n,hd⟩:=id p1;simp only at hc hd;subst hc hd;have hl:its.length*k.toNat<=zAQ:=by rw[<-r.length];exact hz
 have he:its.isEmpty=false:=by
  cases its with
  |nil=>exact absurd (r.nil_iff.mp rfl) hne
  |cons _ _=>rfl
 refine zCW (T:="tuple") (U:="int") (by decide) ⟨_,ho,rfl⟩ (λ s'=>zCj s' k t) wH zDh zBm tB zDW.lookup
  (zBr zBm (zCj s k t) zDV (zDM _ _) (tD k t a its.toArray n dd sl)
   ⟨ho,rfl,⟨_,ho,rfl⟩,zBr zCo ⟨_,ho,rfl⟩ zE0 (zEQ _ _) (aCe k t a its n dd sl h1 h2 hl he) ⟨ho,?_⟩⟩)
 refine⟨.ref s.heap.objs.size,_,I.laid (t':=s.toks) (o:=.tup (zAM k.toNat xs).flatten) (λ b ob q=>zAG _ q) (zAU _) ?_,rfl,q.at (I.hok.fresh (zAU _))⟩;exact⟨⟨by rw[len_rep,zFp];exact hz,NoD.push _⟩,_,r.rep k.toNat,zE2 _ _⟩
def aF9:D->D->Rs D
 | .tup l,.int k=>if decide (1<k)&&decide (k<2^63)&& !l.isEmpty&&decide (l.length*k.toNat<=zAQ)then .ok (.tup (zAM k.toNat l).flatten)else .st
 |_,_=>.st
def aFT{K:zAA}:OpS K (aDN K) aF9:=by
 intro A x y d e H Q z rx ry ez q;unfold aF9 at ez;split at ez
 .split at ez
  .rename_i hc
   simp only[zAN,decide_eq_true_eq,zBI]at hc;obtain⟨⟨⟨c1,c2⟩,c3⟩,c4⟩:=hc;cases ez;cases ry;cases rx with
   |tup h r=>
    refine⟨_,_,_,rfl,rfl,h,c1,c2,λ e=>?_,by rw[r.length];exact c4,λ p H' s hp hn=>q _ H' s (.tup (SqT.of hp) ?_)⟩
    .subst e
     cases r;cases c3
    .exact((Rps.rep r _).up s).wk λ _ _ _ z=>.inr z
  .cases ez
 .cases ez
def shS:Slot->Slot
 | .no=>.no
 | .sh d=>.sh d
 | .nw d=>.sh d
 | .ow d=>.sh d
 | .oz d=>.sh d
 | .o2 l=>.sh (.lst (l.map .lst))
end VL
namespace L2
open PySem PySem.Spec PyProof.Rows
def cxW(P:zAZ)(w:World)(K:zAA)(mg:Str->Option Value)(base:Heap)(N:List Str)(qual:Str)(scope:Scope)(f:Addr)(cd:Value)(A:zAc)(s:zAE)(H:Hp)(Pt:Addr):Cx where
 prog:=P
 w:=w
 K:=K
 mg:=mg
 base:=base
 A:=A.deeper (zDf qual scope s.heap.objs.size f cd)
 N:=N
 z5:=s
 z4:=H
 env:=zDf qual scope s.heap.objs.size f cd
 outer:=[]
 stack:=[zDf qual scope s.heap.objs.size f cd]
 ex:=[Pt]
 calm:=true
 fn:=λ _=>true
 pn:=[]
 xe:=λ _ _=>False
 ta:=[(Pt,PySem.W.tabObj #[])]
 tq:=qual++".<locals>."++"<lambda>"
end L2
namespace VL
open PySem PySem.Spec PyProof.Rows L2
end VL
namespace L2
open PySem PySem.Spec PyProof.Rows
def pe_isi{X:Cx}{n0:Str}{e:Expr}{c:V}{p p' pos:Pos}(hN:X.N[0]? =some n0)(hv:X.env.scope.names.lookup n0=some .local)(hg:Gl X "isinstance")(hm:X.mg "isinstance"=none)(hc:PE X e (tC c))(hse:zAX [e] X.env=(false,eval e X.env)::zAX [] X.env:=by rfl)
  (hpl:(zBv pos (zAX [e] X.env)).any (·.1)=false:=by rfl)(d:Nd n0:=by decide)(d':(n0==("__classdict__":Str))=false:=by decide):PE X (.Call (.Name "isinstance" p) [.Name n0 p',e] [] pos) (aJc X.K c):=
 pB aC2 hg hm rfl (bz (fQ hN (.inl hv) d d') (bz hc eF hse)) (hpl:=hpl)
section
variable{P:zAZ}{w:World}{K:zAA}{mg:Str->Option Value}{base:Heap}{x q n0 n1 n2 odd:Str}{st:Stmt}{f:Addr}{fd:zA9}{k:Nat}{wd:Addr->Option Str}{c1 c2:V}{k1 k2 k3 k4:List V}{l1 l2:List Str}{a1 a2:Expr}{as1 as2 e1 e2 e3 e4 w1 w2:List Expr}{kw1 kw2:List zBe}
 {p1 p2 p3 p4 p5 p6 p7 p8 p9 p10 p11 p12 p13 p14 p15 p16 p17 p18 p19 p20 p21 p22 p23 p24 p25 p26 p27 p28 p29 p30 p31 p32 p33 p34 p35 p36 p37 p38 p39 p40:Pos}{q1 q2 q3 q4 q5 q6 q7:Pos}{j1 j2 j3 j4 j5:Nat}
end
structure LawOk(P:zAZ)(w:World)(K:zAA)(mg:Str->Option Value)(fa Pt:Addr)(k n:Nat):Prop where
 ex:∃(x name qual:Str) (params:zG0) (body:List Stmt) (scope:Scope) (dV kV doc pm ct oc:Value) (an od:Option Addr) (c:Addr) (osl:Array (Option Value)) (N:List Str),
  K.lookup Pt=none/\PySem.W.codeHdIn K c Pt=true/\K.lookup fa=some ⟨oc,od,.func (zBj name qual params body scope dV kV doc pm an (.ref c) ct),osl⟩/\zCs K (.ref c) qual=true/\aX N [x] scope/\
  (∀(s:zAE) (u:Value),zEe s (zBj name qual params body scope dV kV doc pm an (.ref c) ct) ⟨[u],[]⟩ [(x,u)])/\
  ∀(a:Addr) (ns:List Int),ns.length<=n->∀(base:Heap) (s:zAE) (H:Hp),jA k (callerA.deeper (zDf qual scope s.heap.objs.size fa (.ref c)))->aJ0 (cxW P w K mg base N qual scope fa (.ref c) zET s H Pt) Pt->Only H->SqL K H a (ns.map V.int)->
   ∃t,PSs (cxW P w K mg base N qual scope fa (.ref c) zET s H Pt) body t/\t {nx:=λ _ _=>False,rt:=λ v _=>v= .bl true} (start N [.ref a]) H
end L2
namespace VL
open PySem PySem.Spec PyProof.Rows L2
section
variable{O:zBn}{kz:Nat->O.α}{n:Nat}
def Wr{α:Type}(kz:Nat->O.α)(n:Nat):zFS α->(α->Prop)->Prop
 | .ret a,Q=>Q a
 | .ask i j k,Q=>i<n/\j<n/\Wr kz n (k (O.blt (kz i) (kz j))) Q
theorem Wr.bindI:∀{t:zFS α},Wr kz n t (λ a=>Wr kz n (g a) Q)->Wr kz n (t.bind g) Q
 | .ret _,h=>h
 | .ask _ _ _,⟨h1,h2,h3⟩=>⟨h1,h2,Wr.bindI h3⟩
abbrev Pm(n:Nat)(p:Array Nat):Prop:=p.Perm (zBB n).toArray
def Pm.sz(h:Pm n p):p.size=n:=by
 have:=h.size_eq
 simpa using this
def Pm.in(h:Pm n p)(hi:i<n):p.getD i 0<n:=by
 have hs:i<p.size:=by rw[h.sz];exact hi
 have e:p.getD i 0=p[i]:=by simp[Array.getD,hs]
 rw[e];have hm:p[i]∈(zBB n).toArray:=h.mem_iff.mp (Array.getElem_mem hs);simpa using hm
def Kp(kz:Nat->O.α)(p:Array Nat)(i:Nat):O.α:=kz (p.getD i 0)
def zL(h:p[i]? =q[j]?):Kp kz p i=Kp kz q j:=by
 unfold Kp;congr 1;rw[zEX,zEX,h]
def aDs(hs:c<p.size)(hd:d<=c)(k:Nat):
  Kp kz (bubble p c d) k=if k=c-d then Kp kz p c else if c-d<k/\k<=c then Kp kz p (k-1)else Kp kz p k:=by
 have e:=getElem?_bubble hs d hd k;by_cases u1:k=c-d
 .rw[if_pos u1]at e ⊢
  exact zL e
 .rw[if_neg u1]at e ⊢
  by_cases u2:c-d<k/\k<=c
  .rw[if_pos u2]at e ⊢
   exact zL e
  .rw[if_neg u2]at e ⊢
   exact zL e
def aAn(hj:j<=p.size)(k:Nat):Kp kz (zDP p i j) k=if i<=k/\k<j then Kp kz p (i+j-1-k)else Kp kz p k:=by
 unfold zDP;have e:=getElem?_mirror_all (i:=i) hj k;by_cases u1:i<=k/\k<j
 .rw[if_pos u1]at e ⊢
  exact zL e
 .rw[if_neg u1]at e ⊢
  exact zL e
def mU(hj:j<=p.size)(he:∀k,i<=k->k<j->Kp kz p k=Kp kz p (j-1))(k:Nat):Kp kz (zDP p i j) k=Kp kz p k:=by
 rw[aAn hj];split
 .rw[he _ (by lia) (by lia),he k (by lia) (by lia)]
 .rfl
def Up(kz:Nat->O.α)(p:Array Nat)(k:Nat):Prop:=∀i j,i<=j->j<k->O.kle (Kp kz p i) (Kp kz p j)
def Dn(kz:Nat->O.α)(p:Array Nat)(k:Nat):Prop:=∀i j,i<=j->j<k->O.kle (Kp kz p j) (Kp kz p i)
def uB(h:Pm n p)(i j:Nat):Pm n (zDP p i j):=(mirror_perm _ _ _ _).trans h
def Up.succ(h:Up kz p m)(hm:1<=m)(hl:O.kle (Kp kz p (m-1)) (Kp kz p m)):Up kz p (m+1):=by
 intro i j hij hj;by_cases q:j<m
 .exact h i j hij q
 .have q':j=m:=by lia
  subst q';by_cases q2:i=j
  .rw[q2];exact zCV _
  .exact zDH (h i (j-1) (by lia) (by lia)) hl
def Dn.succ(h:Dn kz p m)(hm:1<=m)(hl:O.kle (Kp kz p m) (Kp kz p (m-1))):Dn kz p (m+1):=by
 intro i j hij hj;by_cases q:j<m
 .exact h i j hij q
 .have q':j=m:=by lia
  subst q';by_cases q2:i=j
  .rw[q2];exact zCV _
  .exact zDH hl (h i (j-1) (by lia) (by lia))
theorem aAD(hp:Pm n p)(hr:r<=n):∀(f m:Nat),1<=m->m+f=r->Up kz p m->
  (∀m',1<=m'->m'<=r->Up kz p m'->(m'=r\/O.klt (Kp kz p m') (Kp kz p (m'-1)))->Q m')->Wr kz n (PySem.W.kas_asc p f m) Q
 |0,m,h1,hm,hu,k=>k m h1 (by lia) hu (.inl (by lia))
 |f+1,m,h1,hm,hu,k=>by
  refine⟨hp.in (by lia),hp.in (by lia),?_⟩;have hd:O.blt (kz (p.getD m 0)) (kz (p.getD (m-1) 0))=O.blt (Kp kz p m) (Kp kz p (m-1)):=rfl;rw[hd];cases hb:O.blt (Kp kz p m) (Kp kz p (m-1))with
  |true=>exact k m h1 (by lia) hu (.inr hb)
  |false=>exact aAD hp hr f (m+1) (by lia) (by lia) (hu.succ h1 hb) k
theorem sG(hr:r<=n):∀(f:Nat) (p:Array Nat) (m e:Nat),Pm n p->1<=m->m+f=r->Dn kz p m->e+1<=m->(∀i,m-(e+1)<=i->i<m->Kp kz p i=Kp kz p (m-1))->
  (∀p' m' e',Pm n p'->1<=m'->m'<=r->Dn kz p' m'->e'+1<=m'->(∀i,m'-(e'+1)<=i->i<m'->Kp kz p' i=Kp kz p' (m'-1))->Q (p',m',e'))->Wr kz n (PySem.W.kas_desc f p m e) Q
 |0,p,m,e,hp,h1,hm,hd,he,hq,k=>k p m e hp h1 (by lia) hd he hq
 |f+1,p,m,e,hp,h1,hm,hd,he,hq,k=>by
  have hsz:m<=p.size:=by rw[hp.sz];lia
  refine⟨hp.in (by lia),hp.in (by lia),?_⟩;have hx:O.blt (kz (p.getD m 0)) (kz (p.getD (m-1) 0))=O.blt (Kp kz p m) (Kp kz p (m-1)):=rfl;rw[hx];cases hb:O.blt (Kp kz p m) (Kp kz p (m-1))with
  |true=>
   have hd':Dn kz p (m+1):=hd.succ h1 (zEC hb);dsimp only;rw[if_pos rfl];by_cases hz:e>0
   .rw[if_pos hz]
    refine sG hr f _ (m+1) 0 (uB hp _ _) (by lia) (by lia) (λ i j hij hj=>?_) (by lia) (λ i u v=>by congr 1;lia) k;rw[mU hsz hq,mU hsz hq];exact hd' i j hij hj
   .rw[if_neg hz]
    exact sG hr f p (m+1) 0 hp (by lia) (by lia) hd' (by lia) (λ i u v=>by congr 1;lia) k
  |false=>
   dsimp only;rw[if_neg (by simp)];refine⟨hp.in (by lia),hp.in (by lia),?_⟩;have hy:O.blt (kz (p.getD (m-1) 0)) (kz (p.getD m 0))=O.blt (Kp kz p (m-1)) (Kp kz p m):=rfl;rw[hy];cases hc:O.blt (Kp kz p (m-1)) (Kp kz p m)with
   |true=>exact k p m e hp h1 (by lia) hd he hq
   |false=>
    dsimp only;rw[if_neg (by simp)];have hee:Kp kz p m=Kp kz p (m-1):=zFf hc hb;refine sG hr f p (m+1) (e+1) hp (by lia) (by lia) (hd.succ h1 hc) (by lia) (λ i u v=>?_) k;rw[show m+1-1=m by lia];by_cases hi:i=m
    .rw[hi]
    .rw[hee]
     exact hq i (by lia) (by lia)
def aBC(hr:r<=n)(hp:Pm n p)(h1:1<=m)(hm:m<=r)(hd:Dn kz p m)(k:∀m' p',Pm n p'->1<=m'->m'<=r->Up kz p' m'->Q (m',p')):Wr kz n (PySem.W.kas_tail3 m r p) Q:=by
 have hsz:m<=p.size:=by rw[hp.sz];lia
 refine Wr.bindI (aAD (uB hp 0 m) hr (r-m) m h1 (by lia) (λ i j hij hj=>?_) λ m' a1 a2 a3 _=>k m' _ (uB hp 0 m) a1 a2 a3);rw[aAn hsz,aAn hsz,if_pos (by lia),if_pos (by lia)];exact hd _ _ (by lia) (by lia)
def qZ(hr:r<=n)(hp:Pm n p)(hm:m+1<=r)(hd:Dn kz p (m+1))(k:∀m' p',Pm n p'->1<=m'->m'<=r->Up kz p' m'->Q (m',p')):Wr kz n (PySem.W.kas_descPart m r p) Q:=by
 refine Wr.bindI (sG hr (r-(m+1)) p (m+1) 0 hp (by lia) (by lia) hd (by lia) (λ i u v=>by congr 1;lia) λ p' m' e' a1 a2 a3 a4 a5 a6=>?_);have hsz:m'<=p'.size:=by rw[a1.sz];lia
 dsimp only;by_cases hz:e'>0
 .rw[if_pos hz]
  refine aBC hr (uB a1 _ _) a2 a3 (λ i j hij hj=>?_) k;rw[mU hsz a6,mU hsz a6];exact a4 i j hij hj
 .rw[if_neg hz]
  exact aBC hr a1 a2 a3 a4 k
def aC9(hr:r<=n)(hp:Pm n p)(h1:1<=r)(k:∀m' p',Pm n p'->1<=m'->m'<=r->Up kz p' m'->Q (m',p')):Wr kz n (PySem.W.kas_count r p) Q:=by
 refine Wr.bindI (aAD hp hr (r-1) 1 (zAU 1) (by lia) (λ i j hij hj=>by rw[show i=j by lia];exact zCV _) λ m a1 a2 a3 a4=>?_);by_cases hm:m=r
 .rw[if_pos (by simpa using hm)]
  exact k m p hp a1 a2 a3
 .rw[if_neg (by simpa using hm)]
  have hl:O.klt (Kp kz p m) (Kp kz p (m-1)):=a4.resolve_left hm;by_cases hg:m>1
  .rw[if_pos hg]
   refine⟨hp.in (by lia),hp.in (by lia),?_⟩;have hx:O.blt (kz (p.getD 0 0)) (kz (p.getD (m-1) 0))=O.blt (Kp kz p 0) (Kp kz p (m-1)):=rfl;rw[hx];cases hb:O.blt (Kp kz p 0) (Kp kz p (m-1))with
   |true=>exact k m p hp a1 a2 a3
   |false=>
    dsimp only;rw[if_neg (by simp)];have hsz:m<=p.size:=by rw[hp.sz];lia
    have iX:∀i,0<=i->i<m->Kp kz p i=Kp kz p (m-1):=λ i _ hi=>zFf (a3 i (m-1) (by lia) (by lia)) (zDH hb (a3 0 i (by lia) hi))
    refine qZ hr (uB hp 0 m) (by lia) (λ i j hij hj=>?_) k;rw[mU hsz iX,mU hsz iX];by_cases hjm:j<m
    .rw[iX i (by lia) (by lia),iX j (by lia) hjm];exact zCV _
    .have hj':j=m:=by lia
     subst hj';by_cases hi:i=j
     .rw[hi];exact zCV _
     .rw[iX i (by lia) (by lia)];exact zEC hl
  .rw[if_neg hg]
   have hm1:m=1:=by lia
   subst hm1;refine qZ hr hp (by lia) (λ i j hij hj=>?_) k;by_cases hi:i=j
   .rw[hi];exact zCV _
   .have e1:i=0:=by lia
    have e2:j=1:=by lia
    subst e1 e2;exact zEC hl
theorem sr(hp:Pm n p)(hc:c<n)(hu:Up kz p c):∀(f l r:Nat),l<=r->r<=c->r-l<=f->(∀i,i<l->O.kle (Kp kz p i) (Kp kz p c))->(∀i,r<=i->i<c->O.klt (Kp kz p c) (Kp kz p i))->
  (∀l',l'<=c->(∀i,i<l'->O.kle (Kp kz p i) (Kp kz p c))->(∀i,l'<=i->i<c->O.klt (Kp kz p c) (Kp kz p i))->Q l')->Wr kz n (zFr p c f l r) Q
 |0,l,r,a1,a2,a3,a4,a5,k=>by
  have e:l=r:=by lia
  subst e;exact k l a2 a4 a5
 |f+1,l,r,a1,a2,a3,a4,a5,k=>by
  unfold zFr;by_cases hg:l ≥ r
  .rw[if_pos hg]
   have e:l=r:=by lia
   subst e;exact k l a2 a4 a5
  .rw[if_neg hg]
   refine⟨hp.in hc,hp.in (by lia),?_⟩;have hx:O.blt (kz (p.getD c 0)) (kz (p.getD ((l+r) / 2) 0))=O.blt (Kp kz p c) (Kp kz p ((l+r) / 2)):=rfl;rw[hx];cases hb:O.blt (Kp kz p c) (Kp kz p ((l+r) / 2))with
   |true=>exact sr hp hc hu f l ((l+r) / 2) (by lia) (by lia) (by lia) a4 (λ i u v=>KeyOrd.klt_of_klt_of_kle hb (hu _ _ u v)) k
   |false=>exact sr hp hc hu f ((l+r) / 2+1) r (by lia) a2 (by lia) (λ i u=>zDH (hu i ((l+r) / 2) (by lia) (by lia)) hb) a5 k
theorem aCa:∀(f:Nat) (p:Array Nat) (c:Nat),Pm n p->c+f=n->Up kz p c->(∀p',Pm n p'->Up kz p' n->Q p')->Wr kz n (PySem.W.kas_bin f p c) Q
 |0,p,c,hp,hc,hu,k=>k p hp (by rw[show n=c by lia];exact hu)
 |f+1,p,c,hp,hc,hu,k=>by
  refine Wr.bindI (sr hp (by lia) hu c 0 c (by lia) (zAU c) (by lia) (λ i u=>by lia) (λ i u v=>by lia) λ l a1 a2 a3=>?_);refine aCa f _ (c+1) ((bubble_perm _ _ _).trans hp) (by lia) (λ i j hij hj=>?_) k;have hs:c<p.size:=by rw[hp.sz];lia
  rw[aDs hs (by lia),aDs hs (by lia),show c-(c-l)=l by lia]
  repeat' split
  all_goals first
   |(exfalso;lia)
   |exact O.irrefl _
   |exact a2 _ (by lia)
   |exact KeyOrd.klt_asymm (a3 _ (by lia) (by lia))
   |exact hu _ _ (by lia) (by lia)
def aEa(h1:1<=n)(k:∀p,Pm n p->Up kz p n->Q p):Wr kz n (PySem.W.kas_sort n) Q:=by
 refine Wr.bindI (aC9 (zAU n) (zFd _) h1 λ m p a1 a2 a3 a4=>?_);dsimp only;by_cases hm:m<n
 .rw[if_pos hm]
  exact aCa _ p _ a1 (by lia) (by rw[show max m 1=m by lia];exact a4) k
 .rw[if_neg hm]
  exact k p a1 (by rw[show n=m by lia];exact a4)
theorem yM{I:zAE->Prop}(hc:∀i j (C:Bool->zAE->Prop) s,I s->i<n->j<n->(∀s',I s'->C (O.blt (kz i) (kz j)) s')->cmp i j C s):
  ∀(t:zFS α) (s:zAE),I s->Wr kz n t (λ a=>∀s',I s'->Q a s')->t.kasWp cmp Q s
 | .ret a,s,hI,h=>h s hI
 | .ask i j k,s,hI,⟨h1,h2,h3⟩=>hc i j _ s hI h1 h2 λ s' hI'=>yM hc _ s' hI' h3
end
theorem xT:∀a:List Int,HT.lexLt a a=false
 |[]=>rfl
 |x::a=>by rw[HT.iW,if_pos rfl];exact xT a
theorem pH:∀a b c:List Int,HT.lexLt a b=true->HT.lexLt b c=true->HT.lexLt a c=true
 |[],[],c,h,_=>by cases h
 |[],_::_,[],_,h=>by cases h
 |[],_::_,_::_,_,_=>rfl
 |_::_,[],_,h,_=>by cases h
 |_::_,_::_,[],_,h=>by cases h
 |x::a,y::b,z::c,h1,h2=>by
  rw[HT.iW]at h1 h2 ⊢;by_cases e1:x=y
  .subst e1
   rw[if_pos rfl]at h1;by_cases e2:x=z
   .rw[if_pos e2]at h2 ⊢
    exact pH a b c h1 h2
   .rw[if_neg e2]at h2 ⊢
    exact h2
  .rw[if_neg e1]at h1
   simp only[decide_eq_true_eq]at h1;by_cases e2:y=z
   .subst e2
    rw[if_neg e1];simpa using h1
   .rw[if_neg e2]at h2
    simp only[decide_eq_true_eq]at h2;rw[if_neg (by lia)];simp only[decide_eq_true_eq];lia
theorem uL:∀a b:List Int,HT.lexLt a b=false->HT.lexLt b a=false->a=b
 |[],[],_,_=>rfl
 |[],_::_,h,_=>by cases h
 |_::_,[],_,h=>by cases h
 |x::a,y::b,h1,h2=>by
  rw[HT.iW]at h1 h2;by_cases e:x=y
  .subst e
   rw[if_pos rfl]at h1 h2;rw[uL a b h1 h2]
  .rw[if_neg e]at h1
   rw[if_neg λ q=>e q.symm]at h2;simp only[decide_eq_false_iff_not]at h1 h2;lia
def aDk(a b c:List Int)(h:HT.lexLt a c=true):HT.lexLt a b=true\/HT.lexLt b c=true:=by
 cases e1:HT.lexLt a b with
 |true=>exact .inl rfl
 |false=>
  right;cases e2:HT.lexLt b a with
  |true=>exact pH b a c e2 h
  |false=>rw[<-uL a b e1 e2];exact h
def aAi:zBn:=⟨List Int,HT.lexLt,xT,pH,aDk,uL⟩
inductive cz(h:Heap):List Value->List (List Int)->Prop where
 |nil:cz h [] []
 |cons {x:Addr} {o:Obj} {xs:Array Value} {k:Nat} {ns:List Int} {vs:List Value} {nss:gV} (ho:h.get? x=some o) (hc:o.cls= .type "tuple") (hd:o.data= .seq xs k) (hi:zBE xs.toList ns) (hne:ns≠[]) (r:cz h vs nss):cz h (.ref x::vs) (ns::nss)
theorem cz.mono(k:∀x o,h.get? x=some o->o.cls= .type "tuple"->h'.get? x=some o):∀{vs:List Value} {nss:gV},cz h vs nss->cz h' vs nss
 |_,_,.nil=>.nil
 |_,_,.cons ho hc hd hi hne r=>.cons (k _ _ ho hc) hc hd hi hne (cz.mono k r)
theorem cz.at:∀{vs:List Value} {nss:gV} {i:Nat},cz h vs nss->i<vs.length->∃x o xs k,vs.getD i zBR= .ref x/\h.get? x=some o/\o.cls= .type "tuple"/\o.data= .seq xs k/\zBE xs.toList (nss.getD i [])/\nss.getD i []≠[]
 |_,_,_,.nil,hi=>by simp at hi
 |_,_,0,.cons ho hc hd hi hne _,_=>⟨_,_,_,_,rfl,ho,hc,hd,hi,hne⟩
 |_,_,i+1,.cons _ _ _ _ _ r,hi=>by
  obtain⟨x,o,xs,k,q⟩:=cz.at (i:=i) r (by simpa using hi);exact⟨x,o,xs,k,by simpa using q⟩
theorem cz.firsts:∀{vs:List Value} {nss:gV},cz h vs nss->∃fs,PySem.W.KatTups h vs fs/\fs.length=vs.length/\∀f∈fs,∃n t,f=zDU n t
 |_,_,.nil=>⟨[],.nil,rfl,λ f hf=>by simp at hf⟩
 |_,_,.cons (xs:=xs) ho hc hd hi hne r=>by
  obtain⟨fs,h1,h2,h3⟩:=cz.firsts r;obtain⟨l,rfl⟩:∃l:List Value,xs=l.toArray:=⟨xs.toList,by simp⟩
  rw[show l.toArray.toList=l by simp]at hi;cases hi with
  |nil=>exact absurd rfl hne
  |cons n t q=>
   rename_i l' ns';refine⟨.int n t::fs,.cons ho hc hd (by simp) h1,by simp[h2],λ f hf=>?_⟩;rcases zAT.mp hf with rfl|hf
   .exact⟨n,t,rfl⟩
   .exact h3 f hf
section
variable{prog:zAZ}{w:World}{A:zAc}{E:Value->zAE->Prop}{s:zAE}
def zM:∀{xs ys:List Value} {ns ms:List Int} (i:Nat),zBE xs ns->zBE ys ms->fin=decide (xs.length<ys.length)->Q (HT.lexLt ns ms) s->PySem.W.KatLex prog w A b fin Q (xs.zip ys) i s:=by
 intro xs ys ns ms i hx;induction hx generalizing ys ms i with
 |nil=>intro hy hf q;cases hy<;>(subst hf;exact q)
 |@cons x t xs ns r ih=>
  intro hy hf q;cases hy with
  |nil=>subst hf;exact q
  |@cons y u ys ms r'=>?_
  rw[zB8];refine PySem.W.kat_cons (wpAny_eqBool_int ?_);rw[HT.iW]at q;by_cases e:x=y
  .rw[if_pos e]at q
   rw[show(x==y)=true by simpa using e];exact PySem.W.kat_yes (ih (i+1) r' (by rw[hf];simp) q)
  .rw[if_neg e]at q
   rw[show(x==y)=false by simpa using e];refine PySem.W.kat_no ?_;cases hb:(b&&i==0)with
   |true=>exact oneLt_int q
   |false=>exact PySem.W.kat_one _ _ (zE6 q)
def aAp(hx:s.heap.get? x=some ox)(dx:ox.data= .seq xs n)(hy:s.heap.get? y=some oy)(dy:oy.data= .seq ys k)(hi:zBE xs.toList ns)(hj:zBE ys.toList ms)
  (q:Q (HT.lexLt ns ms) s):wpAny (model prog w) A (keyLt' (tuples' b) (.ref x) (.ref y)) Q E s:=
 PySem.W.kat_lt hx dx hy dy (zM 0 hi hj (by simp) q)
def mq(vs:List Value)(p:Array Nat):Array Value:=(p.toList.map λ i=>vs.getD i zBR).toArray
def aE9(h:vs.length<2):(vs.toArray.zip vs.toArray).map (·.2)=mq vs (zBB vs.length).toArray:=by
 cases vs with
 |nil=>simp[mq]
 |cons v t=>
  cases t with
  |nil=>simp[mq]
  |cons u t=>exact absurd h (zFX.mpr (Nat.le_add_left 2 t.length))
def aAh(ho:s.heap.get? a=some (zBs "list" vs.toArray c))(ht:cz s.heap vs nss)(h64:vs.length<64)
  (h:∀p:Array Nat,Pm vs.length p->Up (O:=aAi) (λ i=>nss.getD i []) p vs.length->P (.done (.ret .none)) {s with heap:=zGB s.heap a vs (mq vs p)}):
  wpAny (model prog w) A (zD7.«list.sort» ⟨[.ref a],[]⟩) P E s:=by
 have hlt:a<s.heap.objs.size:=zA4 ho;have hz:vs.length<=zAQ:=by rw[zBz];lia
 obtain⟨e1,ho1⟩:∃e1,(s.heap.update a (zCJ λ _=>(#[]:Array Value))).get? a=some (zBs "list" #[] e1):=⟨_,zF8 ho λ _=>#[]⟩
 have keep:∀x o,s.heap.get? x=some o->o.cls= .type "tuple"->(((s.heap.update a (zCJ λ _=>(#[]:Array Value))).push (zBs "tuple" vs.toArray 0)).push (zBs "list" #[] 0)).get? x=some o:=λ x o e q=>by
  have hxa:x≠a:=λ z=>by
   subst z;rw[ho]at e;cases e;exact absurd q (show¬(zCT "list"=zCT "tuple")by decide)
  refine zAG _ (zAG _ ?_);rw[zCp _ _ _ _ hxa];exact e
 have ho6:(((s.heap.update a (zCJ λ _=>(#[]:Array Value))).push (zBs "tuple" vs.toArray 0)).push (zBs "list" #[] 0)).get? a=some (zBs "list" #[] e1):=zAG _ (zAG _ ho1);have ht6:=ht.mono keep;rw[list_sort_plain];refine zAR (listItems_at ho rfl (zAR (zGN ho rfl ?_ (by rw[zAH];exact hz) (zAi _))));refine zAR (zGq ho1 rfl (zAR (wpAny_newTuple ?_ (by show vs.length<=_;exact hz))));refine zAR (wpAny_newList (zDc ?_) (zAi _));show wpAny (model prog w) A _ P E {s with heap:=((s.heap.update a (zCJ λ _=>(#[]:Array Value))).push (zBs "tuple" vs.toArray 0)).push (zBs "list" #[] 0)};dsimp only;have hsz:∀p:Array Nat,Pm vs.length p->(mq vs p).size=vs.length:=λ p a1=>by unfold mq;rw[zAH,zAB,zBW,a1.sz]
 by_cases h2:vs.toArray.size<2
 .rw[if_pos h2,if_pos h2]
  refine zAR (zA7 ?_);rw[StateT.run_pure];refine zAR (zA7 ?_);have h2':vs.length<2:=by simpa using h2
  have a1:Pm vs.length (zBB vs.length).toArray:=zFd _;have a3:=aE9 h2';dsimp only;refine zAR (zGq ho6 rfl ?_);show wpAny (model prog w) A (Builtin.List.listUpdate (.ref a) (λ _=>(vs.toArray.zip vs.toArray).map (·.2))>>=_) P E _;rw[a3];refine zAR (zGN ho6 rfl ?_ (zAi _) (by show(mq vs _).size<=_;rw[hsz _ a1];lia));simp only[bne_self_eq_false,zEB,if_false];exact zA7 (h _ a1 λ i j hij hj=>by rw[show i=j by lia];exact xT _)
 .rw[if_neg h2,if_neg h2]
  have h2':2<=vs.length:=zDR (show¬vs.length<2 by simpa using h2);obtain⟨fs,f1,f2,f3⟩:=ht6.firsts;refine zAR (PySem.W.kat_kind (T:=.type "int") f1 (by lia) (λ v hv=>?_) (by decide) ?_)
  .obtain⟨n,t,rfl⟩:=f3 v hv
   exact zHK
  rw[show(zCT "int" !=zCT "tuple")=true by decide];refine zAR (zCE (PySem.W.kat_run (κ:=tuples' true) (ks:=vs) (vs:=vs) (Q:=λ st s'=>s'={s with heap:=((s.heap.update a (zCJ λ _=>(#[]:Array Value))).push (zBs "tuple" vs.toArray 0)).push (zBs "list" #[] 0)}/\∃p:Array Nat,Pm vs.length p/\Up (O:=aAi) (λ i=>nss.getD i []) p vs.length/\(arrOf st).map (·.2)=mq vs p/\zF0 st=none)
   (G:=λ p s'=>s'={s with heap:=((s.heap.update a (zCJ λ _=>(#[]:Array Value))).push (zBs "tuple" vs.toArray 0)).push (zBs "list" #[] 0)}/\Pm vs.length p/\Up (O:=aAi) (λ i=>nss.getD i []) p vs.length)
   rfl h2' h64 (λ p st s' _ b2 b3 b4=>⟨b4.1,p,b4.2.1,b4.2.2,PySem.W.kat_snds rfl b2,b3⟩) ?_) (λ r s' hr=>?_) λ _ _ e=>e)
  .refine yM (O:=aAi) (kz:=λ i=>nss.getD i []) (n:=vs.length) (I:=λ s'=>s'={s with heap:=((s.heap.update a (zCJ λ _=>(#[]:Array Value))).push (zBs "tuple" vs.toArray 0)).push (zBs "list" #[] 0)}) (λ i j C s' hI hi hj hC=>?_) _ _ rfl (aEa (by lia) λ p a1 a2 s' hs'=>⟨hs',a1,a2⟩)
   subst hI;unfold PySem.W.kas_ask;obtain⟨x,ox,xs,kx,x1,x2,_,x4,x5,_⟩:=ht6.at hi;obtain⟨y,oy,ys,ky,y1,y2,_,y4,y5,_⟩:=ht6.at hj;rw[x1,y1];exact aAp x2 x4 y2 y4 x5 y5 (hC _ rfl)
  .obtain⟨⟨⟩,st⟩:=r
   obtain⟨e,p,b1,b2,b3,b4⟩:=hr;subst e;refine zAR (zGq ho6 rfl ?_);rw[b3,b4];refine zAR (zGN ho6 rfl ?_ (zAi _) (by show(mq vs p).size<=_;rw[hsz p b1];lia));simp only[bne_self_eq_false,zEB,if_false];exact zA7 (h p b1 b2)
end
theorem sub_len[BEq α][LawfulBEq α]:∀{l l':List α},l.Nodup->(∀x∈l,x∈l')->l.length<=l'.length
 |[],_,_,_=>zAi _
 |x::l,l',nd,h=>by
  have hx:x∈l':=h x zAJ;have ih:=sub_len (l:=l) (l':=l'.erase x) (zAh.mp nd).2 λ y hy=>(zCK λ e=>by subst e;exact(zAh.mp nd).1 hy).mpr (h y (zAF _ hy))
  rw[zDE hx]at ih
  have:0<l'.length:=zF3 hx
  rw[zA2];lia
def Ris(xs:Array Nat):Prop:=∀i j,i<j->j<xs.size->xs.getD i 0<xs.getD j 0
structure TbOk(t:zFZ)(n:Nat):Prop where
 dum:t.dummies=#[]
 siz:t.place.size=n
 ris:Ris t.place
 top:∀i,i<n->t.place.getD i 0<=t.mask
 msk:t.mask=7/\n<5\/t.mask=31/\n<19\/t.mask=127/\n<77
 pla:t.plain=true
structure TbPut(t:zFZ)(n:Nat):Prop where
 dum:t.dummies=#[]
 siz:t.place.size=n
 ris:Ris t.place
 top:∀i,i<n->t.place.getD i 0<=t.mask
 msk:t.mask=7/\n<=5\/t.mask=31/\n<=19\/t.mask=127/\n<77
 pla:t.plain=true
structure TupAt(h:Heap)(x:Addr)(ns:List Int):Prop where
 ex:∃o xs k,h.get? x=some o/\o.cls= .type "tuple"/\o.data= .seq xs k/\zBE xs.toList ns
end VL
namespace PySem
end PySem
namespace VL
open PySem PySem.Spec PyProof.Rows L2
def aGX(h:Heap)(p:Value×List Int):Prop:=∃x o xs k,p.1= .ref x/\h.get? x=some o/\o.cls= .type "tuple"/\o.data= .seq xs k/\zBE xs.toList p.2/\p.2≠[]
theorem cz.all:∀{vs:List Value} {nss:gV},cz h vs nss->∀p∈vs.zip nss,aGX h p
 |_,_,.nil,p,hp=>by simp at hp
 |_,_,.cons ho hc hd hi hne r,p,hp=>by
  rw[zB8]at hp;rcases zAT.mp hp with e|hp
  .subst e;exact⟨_,_,_,_,rfl,ho,hc,hd,hi,hne⟩
  .exact r.all p hp
theorem aBG:∀{zs:List (Value×List Int)},(∀p∈zs,aGX h p)->cz h (zs.map (·.1)) (zs.map (·.2))
 |[],_=>.nil
 |p::zs,hz=>by
  obtain⟨x,o,xs,k,e1,e2,e3,e4,e5,e6⟩:=hz p zAJ;rw[zAP,zAP,e1];exact .cons e2 e3 e4 e5 e6 (aBG λ q hq=>hz q (zAF _ hq))
def pA(h:l.Perm m'):∀{m:List α},m'=m.map f->∃m2:List α,m2.Perm m/\l=m2.map f:=by
 induction h with
 |nil=>intro m e;exact⟨m,zBk _,e⟩
 |cons x p ih=>
  intro m e;cases m with
  |nil=>cases e
  |cons a m=>
   rw[zAP]at e;injection e with e1 e2
   obtain⟨m2,q1,q2⟩:=ih e2;exact⟨a::m2,q1.cons a,by rw[zAP,q2,e1]⟩
 |swap x y l=>
  intro m e;cases m with
  |nil=>cases e
  |cons a m=>
   cases m with
   |nil=>rw[zAP]at e;injection e with _ e2;cases e2
   |cons b m=>
    rw[zAP,zAP]at e;injection e with e1 e2
    injection e2 with e2 e3
    exact⟨b::a::m,zER _ _ _,by rw[zAP,zAP,e1,e2,e3]⟩
 |trans p q ih1 ih2=>
  intro m e;obtain⟨m2,a1,a2⟩:=ih2 e;obtain⟨m3,b1,b2⟩:=ih1 a2;exact⟨m3,b1.trans a1,b2⟩
def pX(l:gV):Prop:=l.Pairwise λ a b=>HT.lexLt b a=false
section
variable{prog:zAZ}{w:World}{A:zAc}{E:Value->zAE->Prop}{s:zAE}
def yW{Q:Value->zAE->Prop}(hz:∀p∈zs,aGX s.heap p)(h64:zs.length<64)
  (h:∀(zs':List (Value×List Int)) h' e,zs'.Perm zs->pX (zs'.map (·.2))->(∀b o,s.heap.get? b=some o->h'.get? b=some o)->h'.get? s.heap.objs.size=some (zBs "list" (zs'.map (·.1)).toArray e)->Q (.ref s.heap.objs.size) {s with heap:=h'}):
  wpAny (model prog w) A (zGO (zs.map (·.1))>>=λ l=>zGM [l] (call (.builtin "list.sort") [l])>>=λ _=>ret l) (λ fin s'=>∃r,fin= .done (.ret r)/\Q r s') E s:=by
 have hW:(zs.map (·.1)).length=zs.length:=zAB _;refine zAR (wpAny_newList ?_ (by rw[zBz];omega));have hoL:(s.heap.push (zBs "list" (zs.map (·.1)).toArray 0)).get? s.heap.objs.size=some (zBs "list" (zs.map (·.1)).toArray 0):=zA6 _ rfl;refine zAR (zDc (zFV slot_list_sort ⟨_,hoL,rfl⟩ entry_list_sort ?_ (args_list_sort _)));refine aAh (s:={s with heap:=s.heap.push (zBs "list" (zs.map (·.1)).toArray 0)}) hoL (aBG λ p hp=>?_) (by omega) λ p a1 a2=>⟨_,rfl,?_⟩
 .obtain⟨x,o,xs,k,e1,e2,e3⟩:=hz p hp
  exact⟨x,o,xs,k,e1,zAG _ e2,e3⟩
 rw[hW]at a1 a2;have bS:p.toList.map (λ i=>(zs.map (·.1)).getD i zBR)=(p.toList.map λ i=>zs.getD i (zBR,[])).map (·.1):=by
  rw[zAs];refine zBQ λ i hi=>?_
  show(zs.map (·.1)).getD i zBR=(zs.getD i (zBR,[])).1
  rw[zAf,zAf,zAV];cases zs[i]?<;>rfl
 have hperm:(p.toList.map λ i=>zs.getD i (zBR,[])).Perm zs:=by
  have h1:p.toList.Perm (zBB zs.length):=by
   have:=Array.perm_iff_toList_perm.mp a1
   simpa using this
  refine(h1.map _).trans ?_
  have:(zBB zs.length).map (λ i=>zs.getD i (zBR,[]))=zs:=by
   refine List.ext_getElem (by simp) λ i h1 h2=>?_
   rw[zCc,List.getElem_range,zAf,zAC h2];rfl
  rw[this]
 have hne:∀b o,s.heap.get? b=some o->b≠s.heap.objs.size:=λ b o e=>zAu (zA4 e)
 obtain⟨e1,he1⟩:∃e1,((s.heap.push (zBs "list" (zs.map (·.1)).toArray 0)).update s.heap.objs.size (zCJ λ _=>(#[]:Array Value))).get? s.heap.objs.size=some (zBs "list" #[] e1):=⟨_,zF8 hoL λ _=>#[]⟩
 have g1:=zAG (zBs "list" #[] 0) (zAG (zBs "tuple" (zs.map (·.1)).toArray 0) he1);have g2:=zF8 g1 (λ _=>mq (zs.map (·.1)) p);generalize (if ((mq (zs.map (·.1)) p).size==(#[]:Array Value).size)=true then e1 else e1+1)=c1 at g2;have hend:(zGB (s.heap.push (zBs "list" (zs.map (·.1)).toArray 0)) s.heap.objs.size (zs.map (·.1)) (mq (zs.map (·.1)) p)).get? s.heap.objs.size=some (zBs "list" (mq (zs.map (·.1)) p) c1):=g2;have pV:mq (zs.map (·.1)) p=((p.toList.map λ i=>zs.getD i (zBR,[])).map (·.1)).toArray:=by unfold mq;rw[bS]
 have hris:pX ((p.toList.map λ i=>zs.getD i (zBR,[])).map (·.2)):=by
  unfold pX;rw[zAs];refine zAx.mpr λ i j hi hj hij=>?_
  rw[zAB,zBW,a1.sz]at hi hj;have hk:∀k (hk:k<zs.length),Kp (O:=aAi) (λ i=>(zs.map (·.2)).getD i []) p k=(zs.getD (p.getD k 0) (zBR,[])).2:=λ k hk=>by
   show(zs.map (·.2)).getD (p.getD k 0) []=_
   rw[zAf,zAf,zAV];cases zs[p.getD k 0]?<;>rfl
  have hg:∀k (hk:k<p.toList.length),p.toList[k]=p.getD k 0:=λ k hk=>by
   have:k<p.size:=by simpa using hk
   simp[Array.getD,this]
  have this:HT.lexLt (Kp (O:=aAi) (λ i=>(zs.map (·.2)).getD i []) p j) (Kp (O:=aAi) (λ i=>(zs.map (·.2)).getD i []) p i)=false:=a2 i j (zBV hij) hj;rw[hk i hi,hk j hj]at this;rw[zCc,zCc,hg,hg];exact this
 have b6:∀b o,s.heap.get? b=some o->(zGB (s.heap.push (zBs "list" (zs.map (·.1)).toArray 0)) s.heap.objs.size (zs.map (·.1)) (mq (zs.map (·.1)) p)).get? b=some o:=λ b o e=>by
  unfold zGB;rw[zCp _ _ _ _ (hne b o e)];refine zAG _ (zAG _ ?_);rw[zCp _ _ _ _ (hne b o e)];exact zAG _ e
 rw[pV]at hend b6;have hq:=h (p.toList.map λ i=>zs.getD i (zBR,[])) _ c1 hperm hris b6 hend;rw[<-pV]at hq;exact zA7 ⟨_,rfl,hq⟩
def wO(h:wpAny (model prog w) A.in1 (collect v) (λ vs s'=>wpAny (model prog w) A.in1 (zGO vs>>=λ l=>zGM [l] (call (.builtin "list.sort") [l])>>=λ _=>ret l) (λ fin s'=>∃r,fin= .done (.ret r)/\Q r s') E s') E s):
  wpAny (model prog w) A (call (.builtin "sorted") [v]) Q E s:=by
 refine Calls.call_function_entry kind_sorted plain_sorted entry_sorted (args_sorted1 _) ?_;unfold zD7.«sorted»;refine zAR (m:=checkCount "sorted" 1 1 _) (zA7 (zAR ?_));exact h
end
inductive gP(K:zAA)(H:Hp):List V->List (List Int)->Prop where
 |nil:gP K H [] []
 |cons {a:Addr} {ns:List Int} {vs:List V} {nss:gV} (h:SqT K H a (ns.map V.int)) (hne:ns≠[]) (r:gP K H vs nss):gP K H (.ref a::vs) (ns::nss)
def qK:V->Value
 | .ref a=>.ref a
 |_=>.none
def gP.vals{K:zAA}:∀{vs:List V} {nss:gV} {us:List Value},gP K H vs nss->Vals vs us->us=vs.map qK:=by
 intro vs nss us t v;induction v generalizing nss with
 |nil=>rfl
 |cons q s ih=>
  cases t with
  |cons _ _ r=>
   cases q;rw[zAP,ih r];rfl
theorem gP.len{K:zAA}:∀{vs:List V} {nss:gV},gP K H vs nss->vs.length=nss.length
 |_,_,.nil=>rfl
 |_,_,.cons _ _ r=>by rw[zA2,zA2,r.len]
theorem gP.refs{K:zAA}:∀{vs:List V} {nss:gV},gP K H vs nss->∀v∈vs,RelV v (qK v)
 |_,_,.nil,v,hv=>by simp at hv
 |_,_,.cons _ _ r,v,hv=>by
  rcases zAT.mp hv with e|hv
  .subst e;exact rfl
  .exact r.refs v hv
theorem gP.at(I:Inv X hV σ H s):∀{vs:List V} {nss:gV},gP X.K H vs nss->cz s.heap (vs.map qK) nss
 |_,_,.nil=>.nil
 |_,_,.cons h hne r=>by
  obtain⟨its,rv,⟨o,ho,hc,n,hd⟩,_⟩:=I.tuple h;exact .cons ho hc hd (by simpa using intsAre_of rv) hne (r.at I)
theorem vR:∀{vs:List V},(∀v∈vs,RelV v (qK v))->Vals vs (vs.map qK)
 |[],_=>.nil
 |v::vs,h=>.cons (h v zAJ) (vR λ u hu=>h u (zAF _ hu))
section
variable{X:Cx}
def aE4(H:Hp)(vs:List V)(nss:gV)(Q:VK):Prop:=∀zs:List (V×List Int),zs.Perm (vs.zip nss)->pX (zs.map (·.2))->New H (.lst (zs.map (·.1))) Q
def aAN{hV:hZ}(I:Inv X hV σ H s)(ht:gP X.K H vs nss)(h64:vs.length<64)(q:aE4 H vs nss Q)
  (hs1:∃h1 tk,s1={s with heap:=h1,toks:=tk}/\s.heap.objs.size<=h1.objs.size/\∀b o,s.heap.get? b=some o->h1.get? b=some o){zs:List (Value×List Int)}(hz:zs.Perm ((vs.map qK).zip nss))(hus:us=zs.map (·.1)):
  wpAny (model X.prog X.w) X.A.in1 (zGO us>>=λ l=>zGM [l] (call (.builtin "list.sort") [l])>>=λ _=>ret l) (λ fin s'=>∃r,fin= .done (.ret r)/\EP X hV σ Q r s') X.xe s1:=by
 obtain⟨h1,tk,rfl,hsz,keep⟩:=hs1;subst hus;have iX:∀p∈zs,aGX h1 p:=λ p hp=>by
  obtain⟨x,o,xs,k,e1,e2,e3⟩:=(ht.at I).all p (hz.mem_iff.mp hp);exact⟨x,o,xs,k,e1,keep _ _ e2,e3⟩
 have hW:zs.length<64:=by
  rw[hz.length_eq,zGf,zAB,<-ht.len,zDa];exact h64
 refine yW (s:={s with heap:=h1,toks:=tk}) iX hW λ zs' h' e a1 a2 a3 a4=>?_
 have bS:(vs.map qK).zip nss=(vs.zip nss).map λ p=>(qK p.1,p.2):=by rw[List.zip_map_left];rfl
 obtain⟨ws,w1,w2⟩:=pA (f:=λ p:V×List Int=>(qK p.1,p.2)) (a1.trans hz) bS;have hfr:H h1.objs.size=none:=I.hok.fresh hsz;have b5:∀v∈ws.map (·.1),RelV v (qK v):=λ v hv=>by
  obtain⟨p,hp,rfl⟩:=zAS.mp hv;exact ht.refs p.1 (zD1 (w1.mem_iff.mp hp)).1
 have hws:zs'.map (·.1)=(ws.map (·.1)).map qK:=by rw[w2,zAs,zAs];rfl
 have hwl:(ws.map (·.1)).length<=zAQ:=by
  rw[zAB,w1.length_eq,zGf,<-ht.len,zDa,zBz];lia
 refine⟨.ref h1.objs.size,upd H h1.objs.size (.lst (ws.map (·.1))),I.laid (t':=tk) (λ b o e=>a3 b o (keep b o e)) hsz ⟨hwl,(ws.map (·.1)).map qK,e,vR b5,?_⟩,rfl,(q ws w1 ?_).at hfr⟩
 .rw[<-hws];exact a4
 .have:ws.map (·.2)=zs'.map (·.2):=by rw[w2,zAs];rfl
  rw[this];exact a2
def aA2(K:zAA):List V->Hp->VK->Prop:=λ xs H Q=>∃p vs nss,xs=[.ref p]/\SqL K H p vs/\gP K H vs nss/\vs.length<64/\aE4 H vs nss Q
def vO:cZ X (.builtin "sorted") (aA2 X.K):=by
 intro hV s σ H xs us Q I r h;obtain⟨p,vs,nss,rfl,hp,ht,h64,q⟩:=h;obtain⟨u,rfl,ru⟩:=vals1 r;cases ru;obtain⟨its,rv,pl,hz⟩:=I.list hp;have e:=ht.vals rv;subst e;have hl2:(vs.map qK).length=nss.length:=by rw[zAB];exact ht.len
 refine wO (collect_list pl.isList ?_ (by rw[zAB];exact hz));refine aAN I ht h64 q ⟨_,_,rfl,?_,λ b o e=>?_⟩ (zBk _) ?_
 .rw[Heap.size_update,size_push']
  exact zEh _
 .rw[zCp _ _ _ _ (zAu (zA4 e))]
  exact zAG _ e
 .exact(List.map_fst_zip (by lia)).symm
end
def aCT(a:List Int):gV->List (List Int)
 |[]=>[a]
 |b::l=>if HT.lexLt b a then b::aCT a l else a::b::l
def tL:gV->List (List Int)
 |[]=>[]
 |a::l=>aCT a (tL l)
theorem qQ(a:List Int):∀l,(aCT a l).Perm (a::l)
 |[]=>zBk _
 |b::l=>by
  unfold aCT;split
  .exact((qQ a l).cons b).trans (zER _ _ _)
  .exact zBk _
theorem nU:∀l,(tL l).Perm l
 |[]=>zBk _
 |a::l=>(qQ a _).trans ((nU l).cons a)
def aFe(h:HT.lexLt a b=true):HT.lexLt b a=false:=by
 cases e:HT.lexLt b a with
 |false=>rfl
 |true=>have:=pH a b a h e;rw[xT]at this;cases this
def aHz(h1:HT.lexLt b a=false)(h2:HT.lexLt c b=false):HT.lexLt c a=false:=by
 cases e:HT.lexLt c a with
 |false=>rfl
 |true=>
  rcases aDk c b a e with z|z
  .rw[h2]at z;cases z
  .rw[h1]at z;cases z
theorem uT(a:List Int):∀l,pX l->pX (aCT a l)
 |[],_=>zAb.mpr ⟨λ _ h=>by simp at h,.nil⟩
 |b::l,h=>by
  obtain⟨h1,h2⟩:=zAb.mp h;unfold aCT;cases e:HT.lexLt b a with
  |true=>
   rw[if_pos rfl];refine zAb.mpr ⟨λ x hx=>?_,uT a l h2⟩;rcases zAT.mp ((qQ a l).mem_iff.mp hx)with q|q
   .subst q;exact aFe e
   .exact h1 x q
  |false=>
   rw[if_neg (by simp)];refine zAb.mpr ⟨λ x hx=>?_,h⟩;rcases zAT.mp hx with q|q
   .subst q;exact e
   .exact aHz e (h1 x q)
theorem kO:∀l,pX (tL l)
 |[]=>.nil
 |a::l=>uT a _ (kO l)
theorem v5:∀{a b:gV},a.Perm b->pX a->pX b->a=b
 |[],b,p,_,_=>p.nil_eq
 |x::a,b,p,h1,h2=>by
  cases b with
  |nil=>exact absurd p.length_eq (by simp)
  |cons y b=>
   have hxy:x=y:=by
    obtain⟨q1,_⟩:=zAb.mp h1;obtain⟨q2,_⟩:=zAb.mp h2;have m1:x∈y::b:=p.mem_iff.mp zAJ;have m2:y∈x::a:=p.mem_iff.mpr zAJ;rcases zAT.mp m1 with e|m1
    .exact e
    .rcases zAT.mp m2 with e|m2
     .exact e.symm
     .exact uL _ _ (q2 x m1) (q1 y m2)
   subst hxy;rw[v5 (List.Perm.cons_inv p) (zAb.mp h1).2 (zAb.mp h2).2]
abbrev tupI(ns:List Int):D:=.tup (ns.map .int)
def kI:List D->Option gV
 |[]=>some []
 | .tup l::r=>match intsOf l,kI r with
  |some (n::ns),some nss=>some ((n::ns)::nss)
  |_,_=>none
 |_=>none
theorem q9:∀{l:List D} {nss:gV},kI l=some nss->l=nss.map tupI/\∀ns∈nss,ns≠[]
 |[],nss,h=>by cases h;exact⟨rfl,λ ns h=>by simp at h⟩
 | .tup l::r,nss,h=>by
  unfold kI at h;split at h
  .rename_i n ns nss' e1 e2
   cases h;obtain⟨q1,q2⟩:=q9 e2;rw[eQ e1,q1];refine⟨rfl,λ ms hm=>?_⟩;rcases zAT.mp hm with e|hm
   .subst e;simp
   .exact q2 ms hm
  .cases h
 | .non::_,_,h=>by cases h
 | .int _::_,_,h=>by cases h
 | .bl _::_,_,h=>by cases h
 | .str _::_,_,h=>by cases h
 | .lst _::_,_,h=>by cases h
 | .dct _ _::_,_,h=>by cases h
 | .set _::_,_,h=>by cases h
 | .scr _::_,_,h=>by cases h
theorem sy:∀{nss:gV},(∀ns∈nss,ns≠[])->kI (nss.map tupI)=some nss
 |[],_=>rfl
 |[]::nss,h=>absurd rfl (h [] zAJ)
 |(n::ns)::nss,h=>by
  have ih:=sy λ ms hm=>h ms (zAF _ hm)
  rw[zAP];unfold kI;rw[ih,show intsOf (List.map D.int (n::ns))=some (n::ns)from fW _]
theorem yP{K:zAA}:∀{xs:List V} {nss:gV},Rps K A H xs (nss.map tupI)->(∀ns∈nss,ns≠[])->gP K H xs nss
 |_,[],.nil,_=>.nil
 |_,ns::nss,.cons h r,hne=>by
  cases h with
  |tup h r'=>
   have e:=r'.ints_of;subst e;exact .cons h (hne ns zAJ) (yP r λ ms hm=>hne ms (zAF _ hm))
theorem aDE{K:zAA}:∀{zs:List (V×List Int)},(∀p∈zs,∃a,p.1= .ref a/\SqT K H a (p.2.map V.int))->Rps K A H (zs.map (·.1)) ((zs.map (·.2)).map tupI)
 |[],_=>.nil
 |p::zs,h=>by
  obtain⟨a,e1,e2⟩:=h p zAJ;rw[zAP,zAP,zAP,e1];exact .cons (.tup e2 .ints) (aDE λ q hq=>h q (zAF _ hq))
theorem gP.all{K:zAA}:∀{vs:List V} {nss:gV},gP K H vs nss->∀p∈vs.zip nss,∃a,p.1= .ref a/\SqT K H a (p.2.map V.int)
 |_,_,.nil,p,hp=>by simp at hp
 |_,_,.cons h _ r,p,hp=>by
  rw[zB8]at hp;rcases zAT.mp hp with e|hp
  .subst e;exact⟨_,rfl,h⟩
  .exact r.all p hp
def aCp{K:zAA}(ht:gP K H vs nss)(q:∀v H',aU H H'->Rp K (λ p=>H p=none) H' v (.lst ((tL nss).map tupI))->Q v H'):aE4 H vs nss Q:=by
 intro zs hz hr p H' s hp hn;have e:zs.map (·.2)=tL nss:=v5 (((hz.map (·.2)).trans (by rw[List.map_snd_zip (by rw[ht.len];exact zAU _)])).trans (nU nss).symm) hr (kO nss);refine q _ H' s (.lst hp hn ?_);rw[<-e];exact aDE λ p hp=>by
  obtain⟨a,e1,e2⟩:=ht.all p (hz.mem_iff.mp hp);exact⟨a,e1,s.sqt e2⟩
def insI(a:Int):List Int->List Int
 |[]=>[a]
 |b::l=>if b<a then b::insI a l else a::b::l
def sortI:List Int->List Int
 |[]=>[]
 |a::l=>insI a (sortI l)
theorem insI_perm(a:Int):∀l,(insI a l).Perm (a::l)
 |[]=>zBk _
 |b::l=>by
  unfold insI;split
  .exact((insI_perm a l).cons b).trans (zER _ _ _)
  .exact zBk _
theorem sortI_perm:∀l,(sortI l).Perm l
 |[]=>zBk _
 |a::l=>(insI_perm a _).trans ((sortI_perm l).cons a)
theorem zP(a:Int):∀l:List Int,l.Pairwise (·<=·)->(insI a l).Pairwise (·<=·)
 |[],_=>zAb.mpr ⟨λ _ h=>by simp at h,.nil⟩
 |b::l,h=>by
  obtain⟨h1,h2⟩:=zAb.mp h;unfold insI;by_cases e:b<a
  .rw[if_pos e]
   refine zAb.mpr ⟨λ x hx=>?_,zP a l h2⟩;rcases zAT.mp ((insI_perm a l).mem_iff.mp hx)with q|q
   .lia
   .exact h1 x q
  .rw[if_neg e]
   refine zAb.mpr ⟨λ x hx=>?_,h⟩;rcases zAT.mp hx with q|q
   .lia
   .have:=h1 x q;lia
theorem qD:∀l,(sortI l).Pairwise (·<=·)
 |[]=>.nil
 |a::l=>zP a _ (qD l)
theorem oW:∀{us:List Value} {ns:List Int},zBE us ns->Vals (ns.map V.int) us
 |_,_,.nil=>.nil
 |_,_,.cons n t r=>.cons ⟨t,rfl⟩ (oW r)
section
variable{X:Cx}
def aA3(K:zAA):List V->Hp->VK->Prop:=λ xs H Q=>∃p ns,xs=[.ref p]/\SqL K H p (ns.map V.int)/\ns.length<64/\New H (.lst ((sortI ns).map V.int)) Q
def xu:cZ X (.builtin "sorted") (aA3 X.K):=by
 intro hV s σ H xs us Q I r h;obtain⟨p,ns,rfl,hp,h64,q⟩:=h;obtain⟨u,rfl,ru⟩:=vals1 r;cases ru;obtain⟨its,rv,pl,hz⟩:=I.list hp;have hI:zBE its ns:=intsAre_of rv;have hW:its.length<64:=by
  have:=rv.length
  rw[zAB]at this;lia
 refine sorted_ints pl.isList hI hW λ out ns' h1 h2 h3=>?_
 have e:ns'=sortI ns:=PySem.W.ksm_same (h2.trans (sortI_perm ns).symm) h3 (qD ns);subst e;obtain⟨e,he⟩:=sortedAll_at s.heap its out;have hfr:H (s.heap.objs.size+1)=none:=I.hok.fresh (zEh _);refine⟨.ref (s.heap.objs.size+1),upd H (s.heap.objs.size+1) (.lst ((sortI ns).map V.int)),I.laid (t':=s.toks) (λ b o q=>sortedAll_old q) (zEh _) ?_,rfl,q.at hfr⟩;refine⟨?_,out.toList,e,oW h1,?_⟩
 .rw[zAB,h2.length_eq]
  exact zAe (zBV h64) (by decide)
 .rw[Array.toArray_toList]
  exact he
end
def aGu(K:zAA)(r:List V->Hp->VK->Prop)(fd:List D->Rs D):Prop:=∀(A:Addr->Prop) xs ds H (Q:VK) z,Rps K A H xs ds->fd ds= .ok z->(∀v H',aU H H'->Rp K (λ p=>H p=none) H' v z->Q v H')->r xs H Q
def aEn{K:zAA}(hs:aGu K r fd)(h1:aGV K G m ta g):jO K G (some []) (tCB r ta) (opA fd g):=by
 intro U σ H ρ lab Q R W;refine h1 U σ H ρ lab _ R (W.bd.imp λ d _ w x H1 s1 r1=>?_);obtain⟨z,ez,w⟩:=w.okD;exact hs (fpM m lab H) x d H1 Q z r1 ez λ v H' s r=>w v H' (s1.trans s) (r.wk λ p o _ q=>.inl (s1.free q))
def jy:List D->Rs D
 |[.lst l]=>match kI l with
  |some nss=>if nss.length<64 then .ok (.lst ((tL nss).map tupI))else .st
  |none=>match intsOf l with
   |some ns=>if ns.length<64 then .ok (.lst ((sortI ns).map .int))else .st
   |none=>.st
 |_=>.st
def aCW{K:zAA}:aGu K (λ xs H Q=>aA2 K xs H Q\/aA3 K xs H Q) jy:=by
 intro A xs ds H Q z r ez q;unfold jy at ez;split at ez
 .cases r with
  |cons h r=>
   cases r;cases h with
   |lst h m r=>
    split at ez
    .rename_i nss e
     obtain⟨e1,e2⟩:=q9 e;subst e1;split at ez
     .rename_i hl
      cases ez;have ht:=yP r e2;exact .inl ⟨_,_,nss,rfl,SqL.of h,ht,by rw[ht.len];exact hl,aCp ht q⟩
     .cases ez
    .split at ez
     .rename_i ns e
      have e1:=eQ e;subst e1;split at ez
      .rename_i hl
       cases ez;have e2:=r.ints_of;subst e2;exact .inr ⟨_,ns,rfl,SqL.of h,hl,λ p H' s hp hn=>q _ H' s (.lst hp hn .ints)⟩
      .cases ez
     .cases ez
 .cases ez
section
variable{C:Ct}{pos p:Pos}{m:Mode}{a:Expr}{ga:En->Rs (List D)}
def jU(hm:C.mg "sorted"=none)(ha:SA C m [a] ga)(he:∀i,zAX [a] (C.X i).env=[(false,eval a (C.X i).env)]:=by intro _;rfl)(hg:∀i,Gl (C.X i) "sorted":=by intro _;rfl)(hv:zAr "sorted"=some (.builtin "sorted"):=by decide+kernel):SE C (some []) (.Call (.Name "sorted" p) [a] [] pos) (opA jy ga):=by
 obtain⟨t,h1,h2⟩:=ha;refine⟨_,λ i=>pB (r:=λ xs H Q=>aA2 C.K xs H Q\/aA3 C.K xs H Q) (by rw[<-C.hK i];exact vO.or xu) (hg i) (by rw[(C.cx i).2.2.2.1];exact hm) hv (h1 i) (by decide) (by decide) (he i) rfl,aEn aCW h2⟩
end
structure Mg{β:Type}(r:β->β->Prop)(T out ra rb:List β):Prop where
 pm:(out++(ra++rb)).Perm T
 so:out.Pairwise r
 lo:∀x∈out,∀y∈ra++rb,r x y
 sa:ra.Pairwise r
 sb:rb.Pairwise r
section
variable{β:Type}{r:β->β->Prop}{T:List β}
def Mf(r:β->β->Prop)(T o:List β):Prop:=o.Perm T/\o.Pairwise r
end
structure Eg(st st':zCd):Prop where
 k:zCe st'=zCe st
 a:arrOf st'=arrOf st
 p:zFa st'=zFa st
 f:zF0 st'=zF0 st
abbrev LS:=Option (Array Keyed)×Array Keyed×Nat×Nat×Nat×Nat×Nat
section
variable{O:zBn}{kf:Keyed->O.α}{T:List Keyed}{a b out:Array Keyed}{ia ib mg ac bc m0:Nat}{st:zCd}{Q:ForInStep LS->zCd->Prop}
abbrev rK(O:zBn)(kf:Keyed->O.α)(x y:Keyed):Prop:=O.kle (kf x) (kf y)
abbrev Ml(O:zBn)(kf:Keyed->O.α)(T:List Keyed)(a b out:Array Keyed)(ia ib:Nat):Prop:=Mg (rK O kf) T out.toList (a.toList.drop ia) (b.toList.drop ib)
structure Tu(O:zBn)(kf:Keyed->O.α)(T:List Keyed)(a b:Array Keyed)(m0:Nat)(st:zCd)(Q:ForInStep LS->zCd->Prop):Prop where
 ret:∀o out ia ib mg ac bc st',Eg st st'->Mf (rK O kf) T o.toList->Q (.done (some o,out,ia,ib,mg,ac,bc)) st'
 on:∀out ia ib mg ac bc st',Eg st st'->Ml O kf T a b out ia ib->ia+1<a.size->ib<b.size->m0<ia+ib->Q (.done (none,out,ia,ib,mg,ac,bc)) st'/\Q (.yield (none,out,ia,ib,mg,ac,bc)) st'
end
abbrev HS:=Option (Array Keyed)×Nat×Nat×Array Keyed×Nat×Nat×Nat
section
variable{O:zBn}{kf:Keyed->O.α}{T:List Keyed}{a b out:Array Keyed}{na nb mg ac bc m0:Nat}{st:zCd}{Q:ForInStep HS->zCd->Prop}
abbrev rH(O:zBn)(kf:Keyed->O.α)(x y:Keyed):Prop:=O.kle (kf y) (kf x)
abbrev Mh(O:zBn)(kf:Keyed->O.α)(T:List Keyed)(a b out:Array Keyed)(na nb:Nat):Prop:=Mg (rH O kf) T out.toList (a.toList.take na).reverse (b.toList.take nb).reverse
structure Th(O:zBn)(kf:Keyed->O.α)(T:List Keyed)(a b:Array Keyed)(m0:Nat)(st:zCd)(Q:ForInStep HS->zCd->Prop):Prop where
 ret:∀o na nb out mg ac bc st',Eg st st'->Mf (rK O kf) T o.toList->Q (.done (some o,na,nb,out,mg,ac,bc)) st'
 on:∀na nb out mg ac bc st',Eg st st'->Mh O kf T a b out na nb->0<na->1<nb->na<=a.size->nb<=b.size->na+nb<m0->Q (.done (none,na,nb,out,mg,ac,bc)) st'/\Q (.yield (none,na,nb,out,mg,ac,bc)) st'
end
structure Ea(st st':zCd):Prop where
 k:zCe st'=zCe st
 p:zFa st'=zFa st
 f:zF0 st'=zF0 st
section
variable{κ:zCn}{G:Keyed->Prop}{st:zCd}{P R:List Keyed}{lo:Nat}
structure Sg(κ:zCn)(G:Keyed->Prop)(st:zCd)(lo:Nat)(P R:List Keyed):Prop where
 k:zCe st=κ
 l:(arrOf st).toList=P++R
 p:P.length=lo
 g:∀x∈R,G x
end
def Pr(O:zBn)(kf:Keyed->O.α):Nat->List (List Keyed)->List (Nat×Nat×Nat)->Prop
 |_,[],[]=>True
 |o,x::segs,p::ps=>p.1=o/\p.2.1=x.length/\0<x.length/\x.Pairwise (rK O kf)/\Pr O kf (o+x.length) segs ps
 |_,_,_=>False
section
variable{κ:zCn}{O:zBn}{kf:Keyed->O.α}{st:zCd}{T R:List Keyed}{segs:List (List Keyed)}
structure Rn(κ:zCn)(O:zBn)(kf:Keyed->O.α)(T:List Keyed)(st:zCd)(segs:List (List Keyed))(R:List Keyed):Prop where
 k:zCe st=κ
 f:zF0 st=none
 l:(arrOf st).toList=segs.flatten++R
 pm:(arrOf st).toList.Perm T
 pr:Pr O kf 0 segs (zFa st).toList
end
section
variable{K:zAA}{G:Gx}{wi:TI}{fi:En->Rs (List D)}{g:TG}{fg:D->En->Rs En}{tt:TT}
def aHF(hi:aI6 K G wi fi)(hg:aI7 K {G with E:=λ _ _ _=>False} g fg)(hfg:∀d,∃ρ1,fg d [.no]= .ok ρ1)(ht:aC4 K {G with E:=λ _ _ _=>False} tt jP)(R:RR K G U ρ σ H lab)
  (W:WR G (fi (shE ρ)) (λ ds=>ds.length<zAQ/\∀(l:Addr) (as:List Addr) H',aU H H'->H l=none->H' l=some (.lst (as.map V.ref))->(l::as).Nodup->as.length=ds.length->(∀a∈as,H a=none/\H' a=some (.lst []))->Q (.ref l) H')):
  tLC wi (stV [none]) g tt (aG4 kJ) σ H Q:=by
 refine hi U σ H _ _ _ R.shE (W.imp λ ds _ w J H1 lab1 U1 s1 _ R1 jl=>?_);obtain⟨hW,w⟩:=w;intro l hl;have hHl:H l=none:=s1.free hl;have nl:∀p o,H1 p=some o->p≠l:=λ p o e z=>by subst z;rw[hl]at e;cases e
 have RB:RR K {G with E:=λ _ _ _=>False} (U1++U) [.no] (stV [none] σ) H1 (λ p=>if p=l then(2,0)else(0,0)):=by
  refine⟨rfl,λ i s e=>?_,R1.old,λ p hp=>?_,λ q hq=>(R1.tm q hq).wk λ p o e _=>by rw[if_neg (nl p o e)];exact zAi _⟩
  .match i,e with
   |0,e=>cases e;exact .inl rfl
   |i+1,e=>simp at e
  .by_cases z:p=l
   .subst z;exact R1.old.free hl
   .exact absurd (show(if p=l then((2,0):Nat×Nat)else(0,0)).1=0 by rw[if_neg z]) hp
 have aS:¬((λ p=>if p=l then((2,0):Nat×Nat)else(0,0)) l).1<=1:=by simp
 refine⟨λ i n acc H2=>∃as:List Addr,n=ds.length-i/\i<=ds.length/\acc=as.map V.ref/\H2 l=some (.lst acc)/\RR K {G with E:=λ _ _ _=>False} (U1++U) [.no] (stV [none] σ) H2 (λ p=>if p=l then(2,0)else(0,0))/\aU H H2/\as.length=i/\(l::as).Nodup/\∀a∈as,H a=none/\H2 a=some (.lst []),
  ⟨ds.length,[],by omega,by omega,rfl,aq,RB.up (bI hl _),s1.trans (bI hl _),rfl,by simp,λ a h=>by simp at h⟩,?_⟩
 rintro i n acc H2 ⟨as,rfl,hi',rfl,hH2,R2,s2,hlen2,hnd,hal⟩;refine⟨hH2,by rw[zAB];omega,?_⟩;have jj:=jl _ H2 λ q hq=>R2.tm q (zAI _ hq)
 by_cases hlt:i<ds.length
 .obtain⟨go,yl⟩:=(jj i).2 hlt
  refine .inr ⟨go,λ x H3 hy=>?_⟩;obtain⟨s3,d,ed,rx⟩:=yl x H3 hy;replace R2:=R2.up s3;replace hH2:=s3 _ _ hH2;replace s2:=s2.trans s3;replace hal:=λ a ha=>(⟨(hal a ha).1,s3 _ _ (hal a ha).2⟩:H a=none/\H3 a=some (.lst []))
  obtain⟨ρ1,e1⟩:=hfg d;refine hg (U1++U) x d _ H3 _ _ _ ρ1 R2 rx e1 λ σ4 R4=>?_
  refine ht (U1++U) σ4 H3 ρ1 _ _ R4 λ H5 s5=>?_
  rw[if_pos rfl];refine⟨zAi _,λ p H6 s6 hp hn=>?_⟩;have hl6:H6 l=some (.lst (as.map V.ref)):=s6 _ _ (s5 _ _ hH2);have hpl:p≠l:=λ z=>by subst z;rw[s5 _ _ hH2]at hn;cases hn
  have hpa:p∉as:=λ z=>by
   have:=s5 _ _ (hal p z).2
   rw[hn]at this;cases this
  have hpH:H p=none:=(s2.trans s5).free hn;have B:jd l H6 (upd H6 l (.lst (as.map V.ref++[.ref p]))):=λ b o ne hb=>by rw[bK ne];exact hb
  refine⟨hl6,ds.length-(i+1),by omega,as++[p],rfl,hlt,by rw[zA0];rfl,aq,?_,?_,by rw[zAW];simp;omega,?_,λ a ha=>?_⟩
  .have R6:=R2.up (s5.trans s6)
   refine⟨R6.len,λ j s e=>?_,λ b o hb=>?_,R6.new,λ q hq=>(R6.tm q hq).but B hl6 rfl aS⟩
   .match j,e with
    |0,e=>cases e;exact .inl rfl
    |j+1,e=>simp at e
   .exact B b o (λ z=>by subst z;rw[R1.old.free hl]at hb;cases hb) (R6.old b o hb)
  .exact λ b o hb=>B b o (λ z=>by subst z;rw[hHl]at hb;cases hb) (((s2.trans s5).trans s6) b o hb)
  .obtain⟨n1,n2⟩:=zAh.mp hnd
   refine zAh.mpr ⟨λ z=>?_,zAd.mpr ⟨n2,by simp,λ x hx y hy e=>?_⟩⟩
   .rcases zAO.mp z with z|z
    .exact n1 z
    .exact hpl (zAD.mp z).symm
   .rw[zAD]at hy
    subst hy;subst e;exact hpa hx
  .rcases zAO.mp ha with z|z
   .refine⟨(hal a z).1,?_⟩
    rw[bK λ q=>by subst q;exact(zAh.mp hnd).1 z];exact s6 _ _ (s5 _ _ (hal a z).2)
   .rw[zAD]at z
    subst z;exact⟨hpH,by rw[bK hpl];exact hp⟩
 .have ei:i=ds.length:=by omega
  exact .inl ⟨by rw[ei];exact(jj _).1 (zAU _),w l as H2 s2 hHl hH2 hnd (by omega) hal⟩
end
section
variable{C:Ct}{pos lpos:Pos}{tg iter:Expr}{sc:Scope}{N:List Str}{js:List (Option Nat)}{ks:List Nat}{fi:En->Rs (List D)}{fg:D->En->Rs En}
def llS(i:Nat)(fi:En->Rs (List D))(js:List (Option Nat))(fg:D->En->Rs En):En->Ou:=λ ρ=>(fi (shE ρ)).bo λ ds=>if ds.length<zAQ then .nx (ρ.set i (.o2 (zAM ds.length [])))else .st
def aG7(hi:SI C tg iter fi)(hg:SG (C.blk sc N) tg ks fg)(hj:js=[none]:=by rfl)(hfg:∀d,∃ρ1,fg d [.no]= .ok ρ1:=by intro _;exact⟨_,rfl⟩)(hN:∀j,(C.X j).N[i]? =some x:=by intro _;rfl)(hx:∀j,Loc (C.X j).env.scope x:=by intro _;first|exact zB6 rfl|exact zBH rfl)(hsw:∀j,zCB (.ListComp (.List [] lpos) [⟨tg,iter,[],0⟩] sc pos) (some (.Name x pos')) spos.line (C.X j).env=pure true:=by intro _;rfl)(hs:∀i x,zB3 iter (C.X i).env x=pure x:=by intro _ _;rfl)(hf:∀j,(C.X j).fn x=true\/(C.X j).env.scope.names.lookup x=some .local:=by intro _;first|exact .inl rfl|exact .inr rfl)(nd:∀j,(C.X j).N.Nodup:=by intro _;assumption)(hB:∀i,gU (C.X i) sc N (stV js) ks:=by intro _;exact aAy rfl rfl rfl rfl rfl rfl):
  SS C (.Assign [.Name x pos'] (.ListComp (.List [] lpos) [⟨tg,iter,[],0⟩] sc pos) spos) (llS i fi js fg):=by
 subst hj;obtain⟨wi,i1,i2⟩:=hi;obtain⟨g,g1,g2,g3,g4⟩:=hg;obtain⟨tt,t1,t2⟩:=jg (C:=C.blk sc N);refine⟨_,λ j=>yu (nd j) (hN j) (hx j) (hB j) (C.calm j) (i1 j) (λ c fp z5 z4=>g1 (j,c,fp,z5,z4)) g3 (λ c fp z5 z4=>t1 (j,c,fp,z5,z4)) (λ c fp z5 z4=>xF eF) (hsw j) (hs j) (hf j),λ U σ H ρ lab De R W=>?_⟩;refine aHF i2 g2 hfg t2 R (W.bo.imp λ ds _ w=>?_);by_cases hl:ds.length<zAQ
 .rw[if_pos hl]at w
  refine⟨hl,λ l as H' s hn hH hnd hW hal=>?_⟩;have oQ:∀p o,H p=some o->(λ p=>if p=l then(i+2,0)else if p∈as then(i+2,as.idxOf p+1)else bY H 1 lab p) p=lab p:=λ p o e=>by
   dsimp only;have z1:p≠l:=λ z=>by subst z;rw[hn]at e;cases e
   have z2:p∉as:=λ z=>by rw[(hal p z).1]at e;cases e
   rw[if_neg z1,if_neg z2,bM e]
  have R':RR C.K C.G U ρ σ H' (λ p=>if p=l then(i+2,0)else if p∈as then(i+2,as.idxOf p+1)else bY H 1 lab p):=by
   refine(R.relab oQ λ p hp=>?_).up s;cases e:H p with
   |none=>exact R.old.free e
   |some o=>
    have:=oQ p o e
    dsimp only at this hp;rw[this]at hp;exact R.new p hp
  refine w _ _ _ (R'.put (s:=.o2 (zAM ds.length [])) ⟨l,as.map V.ref,rfl,hH,by dsimp only;rw[if_pos rfl],by rw[zAB,zCD];exact hW,λ j x es e1 e2=>?_⟩);rw[zAV,zC1]at e1;obtain⟨a,e1,rfl⟩:=e1;have ees:es=[]:=by
   rw[zBq]at e2;split at e2
   .cases e2;rfl
   .cases e2
  subst ees;have ha:a∈as:=zAa e1;have hla:a≠l:=λ z=>by subst z;exact(zAh.mp hnd).1 ha
  have hj2:j<as.length:=(zAL.mp e1).1;refine .lst (hal a ha).2 ?_ .nil
  show(if a=l then(i+2,0)else if a∈as then(i+2,as.idxOf a+1)else bY H 1 lab a)=(i+2,j+1)
  rw[if_neg hla,if_pos ha];have hix:as.idxOf a<as.length:=List.idxOf_lt_length_iff.mpr ha
  have:as[as.idxOf a]? =some a:=by rw[zAC hix];exact congrArg some (List.getElem_idxOf hix)
  have:=(zCG hix (zAh.mp hnd).2).mp (this.trans e1.symm)
  rw[this]
 .rw[if_neg hl]at w
  exact zAK w
end
def aJM:∀{us:List α},us.length=6->∃a0 a1 a2 a3 a4 a5,us=[a0,a1,a2,a3,a4,a5]
 |[a0,a1,a2,a3,a4,a5],_=>⟨a0,a1,a2,a3,a4,a5,rfl⟩
def gK(j:Int):List Int:=(zBB j.toNat).map λ(k:Nat)=>0+(k:Int)
def aHT:List V->Hp->VK->Prop:=λ xs H Q=>∃j:Int,xs=[.int j]/\∀p,H p=none->Q (.ref p) (upd H p (.rng 0 j))
def zm:cZ X (.type "range") aHT:=by
 intro hV s σ H vs us Q I rv h;obtain⟨j,rfl,q⟩:=h;obtain⟨u,rfl,ru⟩:=rv.one;obtain⟨t,rfl⟩:=ru;exact call_range_1 ⟨.ref s.heap.objs.size,_,I.laid (a:=s.heap.objs.size) (o:=.rng 0 j) (t':=s.toks+1+1) (λ _ _ q=>zAG _ q) (zAU _) ⟨_,_,_,zA6 _ rfl⟩,rfl,q _ (I.hok.fresh (zAU _))⟩
def yp:List V->Hp->VK->Prop:=λ xs H Q=>∃(p:Addr) (j:Int),xs=[.ref p]/\H p=some (.rng 0 j)/\-(2^62)<=j/\j<=10000/\∀l H',aU H H'->H l=none->H' l=some (.lst ((gK j).map V.int))->Q (.ref l) H'
def aBE:∀{ns:List Int} {us:List Value},ns.length=us.length->(∀(k:Nat) i,ns[k]? =some i->∃tk,us[k]? =some (.int i tk))->Vals (ns.map V.int) us:=by
 intro ns;induction ns with
 |nil=>intro us hl _;rw[List.eq_nil_of_length_eq_zero hl.symm];exact .nil
 |cons n ns ih=>
  intro us hl h;obtain⟨tk,e⟩:=h 0 n rfl;cases us with
  |nil=>cases e
  |cons u us=>
   have e':u= .int n tk:=zAl e;subst e';exact .cons ⟨tk,rfl⟩ (ih (zG6 hl) λ k i hi=>h (k+1) i hi)
def xx(hc:X.calm=true):cZ X (.type "list") yp:=by
 intro hV s σ H vs us Q I rv h;obtain⟨p,j,rfl,hp,h1,h2,q⟩:=h;obtain⟨u,rfl,ru⟩:=rv.one;cases ru;obtain⟨t,u,v,hg⟩:=I.hok p _ hp;have hsz:zAy 0 j 1=(j.toNat:Int):=by
  unfold zAy;simp only[show(1:Int)>0 by decide,if_true];split<;>lia
 refine call_list_range (n:=j.toNat) (I.ok.hd hc) hg ?_ hsz (by lia) λ h' tk acc c' hk hS kX=>?_
 .have fl:∀x:Int,-(2^62)<=x->x<=2^62->zBl x=true:=λ x hx1 hx2=>by
   unfold zBl;simp;lia
  unfold zCA;rw[hsz,fl 0 (by lia) (by lia),fl j (by lia) (by lia),fl 1 (by lia) (by lia),fl _ (by lia) (by lia),if_pos (by decide),fl (j+(1-1)) (by lia) (by lia),zHC];rfl
 .have hfr:=I.hok.fresh (zAU s.heap.objs.size)
  have hv:Vals ((gK j).map V.int) acc.toList:=by
   have hl:(gK j).length=acc.toList.length:=by rw[show acc.toList.length=acc.size from zBW,kX.1];simp[gK]
   refine aBE hl λ k i hi=>?_
   have hk2:k<acc.size:=by rw[kX.1];have:=(zAL.mp hi).1;simpa[gK]using this
   obtain⟨tk,e⟩:=kX.2 k acc[k] (Array.getElem?_eq_getElem hk2);refine⟨tk,?_⟩;have ei:i=0+(k:Int)*1:=by
    unfold gK at hi;rw[zAV]at hi;cases c:(zBB j.toNat)[k]? with
    |none=>rw[c]at hi;cases hi
    |some m=>
     rw[c]at hi;cases hi
     have:=zAL.mp c
     have:m=k:=by simpa using this.2.symm
     subst this
     show(0:Int)+(m:Int)=0+(m:Int)*1
     lia
   rw[ei,<-e];simp[hk2]
  refine⟨.ref s.heap.objs.size,upd H s.heap.objs.size (.lst ((gK j).map V.int)),I.laid (t':=tk) hk (zAU _) ⟨?_,acc.toList,c',hv,by simpa using hS⟩,rfl,q _ _ (bI hfr _) hfr aq⟩;simp[gK]
  have:zAQ=16777216:=zBz
  lia
def lrR:D->Rs D
 | .int j=>if -(2^62)<=j/\j<=10000 then .ok (.lst (bC 0 j))else .st
 |_=>.st
def lrD(fa:En->Rs D):En->Rs D:=λ ρ=>(fa ρ).bd lrR
def v4(j:Int):bC 0 j=(gK j).map D.int:=by
 unfold bC gK;rw[zAs,Int.sub_zero];rfl
section
variable{C:Ct}{pos pos2 p p2:Pos}{a:Expr}{fa:En->Rs D}{m:Mode}
def aAT(hmL:C.mg "list"=none)(hmR:C.mg "range"=none)(ha:SE C m a fa)(hs:∀i,zAX [a] (C.X i).env=[(false,eval a (C.X i).env)]:=by intro _;rfl)(hs2:∀i,zAX [.Call (.Name "range" p2) [a] [] pos2] (C.X i).env=[(false,eval (.Call (.Name "range" p2) [a] [] pos2) (C.X i).env)]:=by intro _;rfl)(hgL:∀i,Gl (C.X i) "list":=by intro _;rfl)(hvL:zAr "list"=some (.type "list"):=by decide+kernel)(hgR:∀i,Gl (C.X i) "range":=by intro _;rfl):SE C (some []) (.Call (.Name "list" p) [.Call (.Name "range" p2) [a] [] pos2] [] pos) (lrD fa):=by
 obtain⟨t,h1,h2⟩:=ha;refine⟨tCB yp (gj (tCB aHT (gj t kJ)) kJ),λ i=>jX (xx (C.calm i)) (hgL i) (by rw[(C.cx i).2.2.2.1];exact hmL) hvL (bz (jX zm (hgR i) (by rw[(C.cx i).2.2.2.1];exact hmR) zFz (bz (h1 i) eF (hs i)) (by decide) (by decide) (hs i) rfl) eF (hs2 i)) (by decide) (by decide) (hs2 i) rfl,λ U σ H ρ lab Q R W=>?_⟩;refine h2 U σ H ρ lab _ R (W.bd.imp λ d _ w y H1 s1 r1=>?_);unfold lrR at w;split at w
 .rename_i j _
  by_cases hz: -(2^62)<=j/\j<=10000
  .rw[if_pos hz]at w
   have ey:=r1.int_inv;subst ey;refine⟨j,rfl,λ q hq=>⟨q,j,rfl,aq,hz.1,hz.2,λ l H' s' hl hH'=>?_⟩⟩;have s0:=(s1.trans (bI hq _)).trans s';have hlH:H l=none:=(s1.trans (bI hq _)).free hl;refine w _ H' s0 (.lst hH' (.inl hlH) ?_);rw[v4];exact Rps.ints
  .rw[if_neg hz]at w
   exact zAK w
 .exact zAK w
end
def aGi:V->List V->Hp->VK->Prop:=λ x vs H Q=>∃(l:Addr) (S:Int->Bool) (n:Nat) (i:Int),x= .ref l/\vs=[.int i]/\H l=some (.set S n)/\n+1<scanBound/\∀H',jd l H H'->H' l=some (.set (λ k=>S k||decide (k=i)) (if S i=true then n else n+1))->Q .non H'
def aFb:MtM X "set.add" aGi:=by
 intro hV s σ H x vs v us Q I rx rv h;obtain⟨l,S,n,i,rfl,rfl,hH,hn,q⟩:=h;cases rx;obtain⟨u,rfl,ru⟩:=rv.one;obtain⟨t,rfl⟩:=ru;have hS:s.heap.SetOf (zGp X.prog X.w) l S n:=I.hok l _ hH;refine call_set_add (k:=i) (by simp[zGp,zFt]) rfl hS hn λ h' hsb hS'=>⟨.non,_,?_,rfl,q _ (λ b o ne hb=>by rw[bK ne];exact hb) aq⟩
 refine I.write (x:=l) (e:=l) (by rw[hH];exact trivial) (.inl rfl) (λ b' u hb hu=>(hsb.2 b' hb).trans hu) ?_ hS';obtain⟨o,_,_,_,ho,_⟩:=hS';exact⟨o,ho⟩
def aCV(ds:List Int)(z:Int):(zAz ds z).length=if decide (z∈ds)=true then ds.length else ds.length+1:=by
 unfold zAz;by_cases h:z∈ds
 .rw[if_pos (by simpa using h),if_pos (by simpa using h)]
 .rw[if_neg (by simpa using h),if_neg (by simpa using h),zAW,zAq]
def vy(ds:List Int)(z k:Int):(decide (k∈ds)||decide (k=z))=decide (k∈zAz ds z):=by
 unfold zAz;rw[zBK];split
 .rename_i h
  have h':z∈ds:=by simpa using h
  simp only[zCX,decide_eq_true_eq];exact⟨λ q=>q.elim id λ e=>e▸h',.inl⟩
 .simp
def z8{z:Int}(nd:ds.Nodup):(zAz ds z).Nodup:=by
 unfold zAz;split
 .exact nd
 .rename_i h
  have h':¬z∈ds:=by simpa using h
  refine zAd.mpr ⟨nd,by simp,λ a ha b hb e=>?_⟩;rw[zAD]at hb;subst hb;subst e;exact h' ha
def zz(ρ:En)(i:Nat)(ds:List Int):D->Ou
 | .int z=>if ds.length<4000 then .nx (ρ.set i (.ow (.set (zAz ds z))))else .st
 |_=>.st
def aE3(i:Nat)(fe:En->Rs D):En->Ou:=λ ρ=>match ρ[i]? with
 |some (.ow (.set ds))=>(fe ρ).bo λ d=>zz ρ i ds d
 |_=>.st
section
variable{C:Ct}{pos apos cpos p:Pos}{e:Expr}{fe:En->Rs D}{i:Nat}{x:Str}{m:Mode}
def aCo(i:Nat)(he:SE C m e fe)(hm:okN m=true:=by rfl)(hN:∀j,(C.X j).N[i]? =some x:=by intro _;rfl)(hv:∀j,Vis (C.X j).env.scope x:=by intro _;first|exact zB6 rfl|exact zBH (zB6 rfl)|exact zBH (zBH rfl))(hd:Nd x:=by decide)
  (hcd:(x==("__classdict__":Str))=false:=by decide)(hs1:∀j,zAX [e] (C.X j).env=[(false,eval e (C.X j).env)]:=by intro _;rfl)
  (hbase:∀j,zCS (.Name x p) "add" (C.X j).env (eval (.Name x p) (C.X j).env)=eval (.Name x p) (C.X j).env:=by intro _;rfl)
  (hfew:∀j,((zBv cpos (zAX [e] (C.X j).env)).all (λ x=>!x.1)&&(zDK cpos (zCL [] (C.X j).env)).all (λ x=>x.1.isSome)&&decide ([e].length+([]:List zBe).length+(if ([]:List zBe).isEmpty then 0 else 1)<30))=true:=by intro _;rfl)
  (hline:(apos.endLine==cpos.line)=true:=by rfl)
  (hsw:∀j,zCB (.Call (.Attribute (.Name x p) "add" apos) [e] [] cpos) none pos.line (C.X j).env=pure false:=by intro _;rfl):
  SS C (.Expr (.Call (.Attribute (.Name x p) "add" apos) [e] [] cpos) pos) (aE3 i fe):=by
 obtain⟨t,h1,h2⟩:=he;refine⟨tE (tBM C.K "set" aGi (oY i) (gj t kJ)),λ j=>jm (by rw[<-C.hK j];exact uF PySem.F.plainAttrs_set PySem.F.slot_set_add PySem.F.type_set_add aFb (fQ (hN j) (hv j) hd hcd) (bz (h1 j) eF (hs1 j)) (hbase j) (hfew j) hline (hs1 j) rfl) (hsw j),λ U σ H ρ lab De R W=>?_⟩;unfold aE3 at W;cases es:ρ[i]? with
 |none=>rw[es]at W;exact zAK W
 |some s=>
  rw[es]at W;split at W
  .rename_i ds hs
   cases hs;rcases R.sl i _ es with z|⟨v,ev,hv'⟩
   .cases z
   .obtain⟨hv1,htop⟩:=hv'
    obtain⟨a0,ea0,la0⟩:=htop rfl;subst ea0;cases hv1 with
    |set h mm hS nd=>
     rename_i S;refine⟨.ref a0,ev,.inr (.inr (.inr ⟨rfl,S,_,h⟩)),h2 U σ H ρ lab _ R (W.bo.imp λ d _ w y H2 s2 r2=>?_)⟩;unfold zz at w;split at w
     .rename_i z _
      by_cases hz:ds.length<4000
      .rw[if_pos hz]at w
       have ey:=r2.int_inv;subst ey;have hb:scanBound=4096:=rfl;refine⟨a0,S,ds.length,z,rfl,rfl,s2 _ _ h,by omega,λ H3 B h3=>?_⟩;refine w σ H3 _ ((R.up s2).mut ev (s2 _ _ h) rfl la0 B ⟨?_,λ _=>⟨a0,rfl,la0⟩⟩);have e1:(if S z=true then ds.length else ds.length+1)=(zAz ds z).length:=by
        rw[hS z];exact(aCV ds z).symm
       rw[e1]at h3;exact .set h3 (.inr la0) (λ k=>by rw[hS k];exact vy ds z k) (z8 nd)
      .rw[if_neg hz]at w
       exact zAK w
     .exact zAK w
  .exact zAK W
end
def aGa:List V->Hp->VK->Prop:=λ xs H Q=>xs=[]/\∀p,H p=none->Q (.ref p) (upd H p (.set (λ _=>false) 0))
def aCX:cZ X (.type "set") aGa:=by
 intro hV s σ H vs us Q I rv h;obtain⟨rfl,q⟩:=h;cases rv;refine call_set_0 λ led=>⟨.ref s.heap.objs.size,_,I.laid (a:=s.heap.objs.size) (o:=.set (λ _=>false) 0) (t':=s.toks) (λ _ _ q=>zAG _ q) (zAU _) ?_,rfl,q _ (I.hok.fresh (zAU _))⟩
 exact⟨_,#[],0,_,zA6 _ rfl,⟨rfl,rfl,rfl⟩,rfl,λ e he=>by simp at he,λ k=>by simp,by decide,by rfl,rfl⟩
def aIu(neg:Bool):R2:=λ x y H Q=>∃(i:Int) (a:Addr) (S:Int->Bool) (n:Nat),x= .int i/\y= .ref a/\H a=some (.set S n)/\Q (.bl (if neg then !S i else S i)) H
def aFY:OpR X (zAp .NotIn) (aIu true):=by
 intro hV s σ H x y v u Q I rx ry h;obtain⟨i,a,S,n,rfl,rfl,hH,q⟩:=h;obtain⟨t,rfl⟩:=rx;cases ry;have hS:s.heap.SetOf (zGp X.prog X.w) a S n:=I.hok a _ hH;exact wpAny_notInSet_of (k:=i) (by simp[zGp,zFt]) rfl hS ⟨.bl (!S i),H,I.tok _,rfl,q⟩
def inX(neg:Bool):D->D->Rs D
 | .int i,.set l=>.ok (.bl (if neg then !decide (i∈l)else decide (i∈l)))
 |d,e=>inR neg d e
def aHe{K:zAA}:OpS K (λ x y H Q=>aCA K n x y H Q\/aIu n x y H Q) (inX n):=by
 intro A x y d e H Q z rx ry ez q;unfold inX at ez;split at ez
 .cases ez
  have ex:=rx.int_inv;subst ex;cases ry with
  |set h m hS nd=>exact .inr ⟨_,_,_,_,rfl,rfl,h,by rw[hS];exact q _ H (aU.refl H) (.bl _)⟩
 .exact .inl (aD9 A x y d e H Q z rx ry ez q)
section
variable{C:Ct}{pos p:Pos}{a b:Expr}{fa fb:En->Rs D}{m1 m2:Mode}
def aBN(ha:SE C m1 a fa)(hb:SE C m2 b fb)(hm:zBy .NotIn b=false:=by with_unfolding_all rfl):ST C (.Compare a [.NotIn] [b] pos) (tsb (op2 (inX true) fa fb)):=jf (λ i=>(C.ninRl i).or aFY) aHe ha hb hm
def aBS(hm:C.mg "set"=none)(hg:∀i,Gl (C.X i) "set":=by intro _;rfl)(hv:zAr "set"=some (.type "set"):=by decide+kernel):SE C (some []) (.Call (.Name "set" p) [] [] pos) (cD (.set [])):=by
 refine⟨tCB aGa kJ,λ i=>aA5 aCX (hg i) (by rw[(C.cx i).2.2.2.1];exact hm) hv,λ U σ H ρ lab Q R W=>?_⟩;exact⟨rfl,λ q hq=>W _ _ (bI hq _) (.set aq (.inl hq) (λ _=>by simp) (by simp))⟩
end
section
variable{prog:zAZ}{w:World}{A:zAc}{E:Value->zAE->Prop}{s:zAE}{r:Addr}{a b c:Int}{t u v:Tok}{n:Nat}
def PR(a c:Int):Nat->Value->Prop:=λ i v=>∃t,v= .int (a+i*c) t
def zb(hh:A.handled=none)(hr:IsRange s.heap r a b c t u v)(hsmall:zCA a b c=true)(hn:zAy a b c=n)(hW:n<=2^24)
  (h:∀h' tk vs,s.heap.objs.size<h'.objs.size->(∀b o,s.heap.get? b=some o->h'.get? b=some o)->vs.length=n->(∀(j:Nat) v,vs[j]? =some v->PR a c j v)->Q vs {s with heap:=h',toks:=tk}):wpAny (model prog w) A (collect (.ref r)) Q E s:=by
 unfold collect;refine zAR (wpAny_runValue (zF6 PySem.F.entry_proto_collect ?_));rw[zF1 PySem.F.plain_proto_collect _];show wpAny _ A.in1 (zGO []>>=λ l=>again (.builtin "list.__iadd__" ⟨[l,.ref r],[]⟩)) _ _ s;refine zAR (zBt (zA7 ⟨plainId_quiet zEj _,zF6 zFm ?_⟩));rw[zF1 zEj _];show wpAny _ A.in1 (Builtin.List.listExtendWith (.ref s.heap.objs.size) (.ref r) (.ref s.heap.objs.size)) _ _ _;have fin:∀h' tk acc' c',(∀b o,b≠s.heap.objs.size->(s.heap.push (zBs "list" #[] 0)).get? b=some o->h'.get? b=some o)->h'.get? s.heap.objs.size=some {cls:=.type "list",dict:=none,data:=.seq acc' c',slots:=#[]}->ItemsOf (PR a c) acc' n->
   wpAny (model prog w) A (do match (zBX s.heap.objs.size)with
    | .ref a=>match (<-load a).data with
     | .seq xs _=>pure xs.toList
     |_=>unsupported "internal:collect"
    |_=>unsupported "internal:collect") Q E {s with heap:=h',toks:=tk}:=λ h' tk acc' c' hk hS' kX=>
  zAR (wpAny_load hS' (zA7 (h h' tk acc'.toList (zA4 hS') (λ b o e=>hk b o (zAu (zA4 e)) (zAG _ e)) (by rw[zBW];exact kX.1) λ j v e=>kX.2 j v (by rw[<-Array.getElem?_toList];exact e))))
 refine zCE (wpAny_extend_range (A:=A) (s:={s with heap:=s.heap.push (zBs "list" #[] 0)}) (R:=λ r s'=>∃h' tk acc' c',r= .ok (.ret (.ref s.heap.objs.size))/\s'={s with heap:=h',toks:=tk}/\(∀b o,b≠s.heap.objs.size->(s.heap.push (zBs "list" #[] 0)).get? b=some o->h'.get? b=some o)/\h'.get? s.heap.objs.size=some {cls:=.type "list",dict:=none,data:=.seq acc' c',slots:=#[]}/\ItemsOf (PR a c) acc' n)
  hh (zAG _ hr) hsmall hn hW s.heap.objs.size (.ref s.heap.objs.size) 0 (zA6 _ rfl) (λ h' tk acc' c' hk hS' kX=>⟨h',tk,acc',c',rfl,rfl,hk,hS',kX⟩)) (λ f s' hf=>?_) λ e s' he=>?_
 .cases f with
  |done f=>
   obtain⟨h',tk,acc',c',q1,q2,q3,q4,q5⟩:=hf;cases q1;subst q2;exact fin h' tk acc' c' q3 q4 q5
  |again c=>
   refine⟨hf.1,zFP hf.2 λ r s' hr=>?_⟩;obtain⟨h',tk,acc',c',q1,q2,q3,q4,q5⟩:=hr;subst q1 q2;exact fin h' tk acc' c' q3 q4 q5
 .obtain⟨h',tk,acc',c',q1,_⟩:=he
  cases q1
end
def rn(r:Addr)(a b c:Int)(t u v:Tok)(n:Nat)(hsmall:zCA a b c=true)(hn:zAy a b c=n)(hW:n<=10000):
  Meets (zD7.«tuple.__new__» ⟨[.type "tuple",.ref r],[]⟩)
   (λ A R s=>A.handled=none/\IsRange s.heap r a b c t u v/\∀(h':Heap) (tk:Nat) (vs:List Value),s.heap.objs.size<h'.objs.size->(∀b o',s.heap.get? b=some o'->h'.get? b=some o')->vs.length=n->(∀(j:Nat) v,vs[j]? =some v->PR a c j v)->
    R (.ok (.ret (.ref h'.objs.size))) {s with heap:=h'.push {cls:=.type "tuple",data:=.seq vs.toArray},toks:=tk}):=
 .of_wp λ prog w A R s h=>by
  obtain⟨hp,g,d,tk,os⟩:=s;obtain⟨hh,ht,h⟩:=h;have bX:=sub_tuple_self;have hinit:=init_tuple_lookup;have hmh:=madeHere_tuple;have hT:Shared.TypeIs ⟨hp,g,d,tk,os⟩ (.ref r) "range":=⟨_,ht,rfl⟩;wp_walk using zCM ht,zFQ hT,zb (A:=A.in1) (show A.in1.handled=none from hh) ht hsmall hn (zAe hW (by decide));intro h' tk' vs hlt hk hl hv;show wpAny _ _ (zBO vs.toArray>>=λ v=>ret v) _ _ _;unfold zBO;refine zAR (zBt ?_ (by show vs.toArray.size<=zAQ;rw[zAH,hl,zBz];lia));exact zA7 ⟨_,rfl,h h' tk' vs hlt hk hl hv⟩
def aBY:List V->Hp->VK->Prop:=λ xs H Q=>∃(p:Addr) (j:Int),xs=[.ref p]/\H p=some (.rng 0 j)/\-(2^62)<=j/\j<=10000/\∀l H',aU H H'->H l=none->H' l=some (.tup ((gK j).map V.int))->Q (.ref l) H'
def aBv(h1: -(2^62)<=j)(h2:j<=10000):zAy 0 j 1=(j.toNat:Int)/\zCA 0 j 1=true:=by
 have hsz:zAy 0 j 1=(j.toNat:Int):=by
  unfold zAy;simp only[show(1:Int)>0 by decide,if_true];split<;>lia
 refine⟨hsz,?_⟩;have fl:∀x:Int,-(2^62)<=x->x<=2^62->zBl x=true:=λ x hx1 hx2=>by
  unfold zBl;simp;lia
 unfold zCA;rw[hsz,fl 0 (by lia) (by lia),fl j (by lia) (by lia),fl 1 (by lia) (by lia),fl _ (by lia) (by lia),if_pos (by decide),fl (j+(1-1)) (by lia) (by lia),zHC];rfl
def zj(hc:X.calm=true):cZ X (.type "tuple") aBY:=by
 intro hV s σ H vs us Q I rv h;obtain⟨p,j,rfl,hp,h1,h2,q⟩:=h;obtain⟨u,rfl,ru⟩:=rv.one;cases ru;obtain⟨t,u,v,hg⟩:=I.hok p _ hp;obtain⟨hsz,hsm⟩:=aBv h1 h2;refine callType_new PySem.F.called_tuple (by decide) (PySem.F.typeCall_tuple_1 _) (PySem.F.newCall_tuple_1 _) (λ obj=>PySem.F.args_object_init_2 obj _) PySem.F.entry_tuple_new
  (rn p 0 j 1 t u v j.toNat hsm hsz (by lia)) ⟨I.ok.hd hc,hg,λ h' tk vs hlt hk hl hv=>⟨⟨_,zA6 _ rfl,rfl⟩,?_⟩⟩
 have hle:s.heap.objs.size<=h'.objs.size:=zBV hlt;have hv2:Vals ((gK j).map V.int) vs:=by
  have hl2:(gK j).length=vs.length:=by rw[hl];simp[gK]
  refine aBE hl2 λ k i hi=>?_
  have hk2:k<vs.length:=by rw[<-hl2];exact(zAL.mp hi).1
  obtain⟨tk,e⟩:=hv k vs[k] (zAC hk2);refine⟨tk,?_⟩;have ei:i=0+(k:Int)*1:=by
   unfold gK at hi;rw[zAV]at hi;cases c:(zBB j.toNat)[k]? with
   |none=>rw[c]at hi;cases hi
   |some m=>
    rw[c]at hi;cases hi
    have:=zAL.mp c
    have:m=k:=by simpa using this.2.symm
    subst this
    show(0:Int)+(m:Int)=0+(m:Int)*1
    lia
  rw[ei,<-e];exact zAC hk2
 have hfr:H h'.objs.size=none:=I.hok.fresh hle;refine⟨.ref h'.objs.size,upd H h'.objs.size (.tup ((gK j).map V.int)),I.laid (t':=tk) (λ b o e=>zAG _ (hk b o e)) hle ⟨⟨?_,NoD.push _⟩,vs,hv2,?_⟩,rfl,q _ _ (bI hfr _) hfr aq⟩
 .simp[gK]
  have:zAQ=16777216:=zBz
  lia
 .exact⟨_,zA6 _ rfl,rfl,0,rfl⟩
def trR:D->Rs D
 | .int j=>if -(2^62)<=j/\j<=10000 then .ok (.tup (bC 0 j))else .st
 |_=>.st
def trD(fa:En->Rs D):En->Rs D:=λ ρ=>(fa ρ).bd trR
section
variable{C:Ct}{pos pos2 p p2:Pos}{a:Expr}{fa:En->Rs D}{m:Mode}
def vZ(hmL:C.mg "tuple"=none)(hmR:C.mg "range"=none)(ha:SE C m a fa)(hs:∀i,zAX [a] (C.X i).env=[(false,eval a (C.X i).env)]:=by intro _;rfl)(hs2:∀i,zAX [.Call (.Name "range" p2) [a] [] pos2] (C.X i).env=[(false,eval (.Call (.Name "range" p2) [a] [] pos2) (C.X i).env)]:=by intro _;rfl)(hgL:∀i,Gl (C.X i) "tuple":=by intro _;rfl)(hvL:zAr "tuple"=some (.type "tuple"):=by decide+kernel)(hgR:∀i,Gl (C.X i) "range":=by intro _;rfl):SE C (some []) (.Call (.Name "tuple" p) [.Call (.Name "range" p2) [a] [] pos2] [] pos) (trD fa):=by
 obtain⟨t,h1,h2⟩:=ha;refine⟨tCB aBY (gj (tCB aHT (gj t kJ)) kJ),λ i=>jX (zj (C.calm i)) (hgL i) (by rw[(C.cx i).2.2.2.1];exact hmL) hvL (bz (jX zm (hgR i) (by rw[(C.cx i).2.2.2.1];exact hmR) zFz (bz (h1 i) eF (hs i)) (by decide) (by decide) (hs i) rfl) eF (hs2 i)) (by decide) (by decide) (hs2 i) rfl,λ U σ H ρ lab Q R W=>?_⟩;refine h2 U σ H ρ lab _ R (W.bd.imp λ d _ w y H1 s1 r1=>?_);unfold trR at w;split at w
 .rename_i j _
  by_cases hz: -(2^62)<=j/\j<=10000
  .rw[if_pos hz]at w
   have ey:=r1.int_inv;subst ey;refine⟨j,rfl,λ q hq=>⟨q,j,rfl,aq,hz.1,hz.2,λ l H' s' hl hH'=>?_⟩⟩;refine w _ H' ((s1.trans (bI hq _)).trans s') (.tup (SqT.of hH') ?_);rw[v4];exact Rps.ints
  .rw[if_neg hz]at w
   exact zAK w
 .exact zAK w
end
abbrev Ent:=List Int×Addr×V
section
theorem ints_of:∀(tks:List (Int×Tok)),zBE (tks.map λ p=>zDU p.1 p.2) (tks.map (·.1))
 |[]=>.nil
 |p::r=>.cons _ _ (ints_of r)
end
abbrev aJ1:=List (Str×(List D->Rs D))
def fnOf(tab:aJ1):Rs D->Option (List D->Rs D)
 | .ok (.fn x)=>tab.lookup x
 |_=>none
end VL
namespace HT
open PySem PySem.Spec PyProof.Rows
end HT
namespace VL
open PySem PySem.Spec PyProof.Rows L2
end VL
namespace PySem.AutoSeq1
set_option maxRecDepth 8000 in
def aAe(l:Addr)(items:Array Value)(n:Nat)(b:Addr)(items2:Array Value)(n2:Nat)(dd:Option Addr)(sl:Array (Option Value))(hs0:¬(!items.isEmpty&&zBC (items.size+items2.size))=true)(hs1:items.size<=zAQ)(hs2:items.size+items2.size<=zAQ+1):
  Meets (zD7.«list.extend» ⟨[.ref l,.ref b],[]⟩) (λ _ R s=>s.heap.get? l=some {cls:=.type "list",dict:=none,data:=.seq items n,slots:=#[]}/\s.heap.get? b=some {cls:=.type "tuple",dict:=dd,data:=.seq items2 n2,slots:=sl}/\
   R (.ok (.ret zBR)) {s with heap:=s.heap.update l (zCJ λ x=>x++items2),toks:=s.toks}):=
 .of_wp λ prog w A R s h=>by
  obtain⟨hp,g,d,tk,os⟩:=s;obtain⟨hl,hb,h⟩:=h;have f1:=idx_int;have f2:=sub_tuple_tuple;have f3:=sub_list_list;have f4:=sub_tuple_list;have f5:=sub_list_tuple;have hz':(items++items2).size<=zAQ+1:=by rw[Array.size_append];exact hs2
  wp_walk using(wpAny_updateSeq hl rfl (hz:=hs1) (_hz':=hz')),zCM hl,zCM hb;exact⟨_,rfl,h⟩
end PySem.AutoSeq1
namespace VL
open PySem PySem.Spec PyProof.Rows L2
def aGf(K:zAA):V->List V->Hp->VK->Prop:=λ x vs H Q=>∃l b xs zs,x= .ref l/\vs=[.ref b]/\H l=some (.lst xs)/\SqT K H b zs/\xs.length+zs.length<=zAQ/\∀H',jd l H H'->H' l=some (.lst (xs++zs))->Q .non H'
def aFa:MtM X "list.extend" (aGf X.K):=by
 intro hV s σ H x vs v us Q I rx rv h;obtain⟨l,b,xs,zs,rfl,rfl,hH,hB,hz,q⟩:=h;cases rx;obtain⟨u,rfl,ru⟩:=rv.one;cases ru;obtain⟨z,its,n,r,hl,e⟩:=I.lstM hH;obtain⟨its2,r2,⟨⟨c2,dd,dt,sl⟩,e2,hc2,n2,hd2⟩,z2⟩:=I.tuple hB;replace hc2:c2= .type "tuple":=hc2;replace hd2:dt= .seq its2.toArray n2:=hd2;subst hc2 hd2;have l1:=r.length;have l2:=r2.length;have hsz:its.toArray.size+its2.toArray.size<=zAQ:=by rw[zAH,zAH];lia
 have kK:¬(!its.toArray.isEmpty&&zBC (its.toArray.size+its2.toArray.size))=true:=by
  rw[pG hsz,zCO];exact zA3
 refine zBr zC6 ⟨_,e,rfl⟩ zG1 (zGS _ _) (AutoSeq1.aAe l its.toArray n b its2.toArray n2 dd sl kK (by lia) (by lia)) ⟨e,e2,?_⟩;refine⟨.non,_,I.lset (its':=its++its2) hH e (by simp) (r.append r2) ?_,rfl,q _ (λ b o ne hb=>by rw[bK ne];exact hb) aq⟩;rw[zAW];lia
section
variable{C:Ct}{pos apos cpos p:Pos}{e:Expr}{fe:En->Rs D}{i:Nat}{x:Str}{m:Mode}
def aGG(ds:List D)(k:List D->Ou):D->Ou
 | .tup es=>if ds.length+es.length<=zAQ then k (ds++es)else .st
 |_=>.st
def aIZ(i:Nat)(fe:En->Rs D):En->Ou:=λ ρ=>match ρ[i]? with
 |some (.ow (.lst ds))=>(fe ρ).bo (aGG ds λ l=>.nx (ρ.set i (.ow (.lst l))))
 |_=>.st
def aAK(i:Nat)(he:SE C m e fe)(hm:okN m=true:=by rfl)(hN:∀j,(C.X j).N[i]? =some x:=by intro _;rfl)(hv:∀j,Vis (C.X j).env.scope x:=by intro _;first|exact zB6 rfl|exact zBH (zB6 rfl)|exact zBH (zBH rfl))(hd:Nd x:=by decide)
  (hcd:(x==("__classdict__":Str))=false:=by decide)(hs1:∀j,zAX [e] (C.X j).env=[(false,eval e (C.X j).env)]:=by intro _;rfl)
  (hbase:∀j,zCS (.Name x p) "extend" (C.X j).env (eval (.Name x p) (C.X j).env)=eval (.Name x p) (C.X j).env:=by intro _;rfl)
  (hfew:∀j,((zBv cpos (zAX [e] (C.X j).env)).all (λ x=>!x.1)&&(zDK cpos (zCL [] (C.X j).env)).all (λ x=>x.1.isSome)&&decide ([e].length+([]:List zBe).length+(if ([]:List zBe).isEmpty then 0 else 1)<30))=true:=by intro _;rfl)
  (hline:(apos.endLine==cpos.line)=true:=by rfl)
  (hsw:∀j,zCB (.Call (.Attribute (.Name x p) "extend" apos) [e] [] cpos) none pos.line (C.X j).env=pure false:=by intro _;rfl):
  SS C (.Expr (.Call (.Attribute (.Name x p) "extend" apos) [e] [] cpos) pos) (aIZ i fe):=by
 obtain⟨t,h1,h2⟩:=he;refine⟨tE (tBM C.K "list" (aGf C.K) (oY i) (gj t kJ)),λ j=>jm (by rw[<-C.hK j];exact uF zBS zC6 zE7 aFa (fQ (hN j) (hv j) hd hcd) (bz (h1 j) eF (hs1 j)) (hbase j) (hfew j) hline (hs1 j) rfl) (hsw j),λ U σ H ρ lab De R W=>?_⟩;unfold aIZ at W;cases es:ρ[i]? with
 |none=>rw[es]at W;exact zAK W
 |some s=>
  rw[es]at W;split at W
  .rename_i ds hs
   cases hs;rcases R.sl i _ es with z|⟨v,ev,hv'⟩
   .cases z
   .obtain⟨hv1,htop⟩:=hv'
    obtain⟨a0,ea0,la0⟩:=htop rfl;subst ea0;obtain⟨a1,xs,ea1,h,mm,r⟩:=hv1.lst_inv;cases ea1;refine⟨.ref a0,ev,.inl ⟨rfl,xs,SqL.of h⟩,h2 U σ H ρ lab _ R (W.bo.imp λ d _ w y H2 s2 r2=>?_)⟩;cases d with
    |tup es'=>
     dsimp only[aGG]at w;by_cases hz:ds.length+es'.length<=zAQ
     .rw[if_pos hz]at w
      obtain⟨R',r'⟩:=R.fresh (P:=λ k=>k=1) rfl (λ k hk=>beq_iff_eq.mp (mR hm k hk)) s2 r2;have la:(bY H 1 lab a0).1=i+2:=by rw[bM h];exact la0
      obtain⟨b,zs,rfl,hb,rb⟩:=r'.tup_inv;refine⟨a0,b,xs,zs,rfl,rfl,s2 _ _ h,hb,by rw[r.length,rb.length];exact hz,λ H3 B h3=>?_⟩;refine w σ H3 _ (R'.mut ev (s2 _ _ h) rfl la B ⟨.lst h3 (.inr la) ?_,λ _=>⟨a0,rfl,la⟩⟩);have ra:Rps C.K (λ p=>((bY H 1 lab p).1=1\/(bY H 1 lab p).1=i+2)/\p≠a0) H2 (xs++zs) (ds++es'):=by
       refine(r.mono s2 λ p o e z=>⟨by rw[bM e];exact z.1,z.2⟩).append (rb.wk λ p o e z=>⟨.inl z,λ q=>?_⟩);subst q;have z1:(bY H 1 lab p).1=1:=z;lia
      exact ra.but B (s2 _ _ h) rfl λ z=>z.2 rfl
     .rw[if_neg hz]at w
      exact zAK w
    |_=>exact zAK w
  .exact zAK W
end
def Enr(K:zAA)(x:Str)(st:Stmt)(f:Addr)(fd:zA9):Prop:=L2.Fun K x x st f fd/\zAm K zA8 x=some (some (.ref f))
def enr{K:zAA}{st:Stmt}{oc kV dc pm cd ct:Value}(a:zAm K zA8 x=some (some (.ref f)))
  (l:K.lookup f=some ⟨oc,od,.func (zBj x x (m6 st) (gH st) (aO st) .none kV dc pm an cd ct),sl⟩)(c:zCs K cd x=true)(k:zC2 K (.ref f)=true):∃f fd,Enr K x st f fd:=⟨f,_,aIV (st:=st) l c k,a⟩
structure Dnr(K:zAA)(mg:Str->Option Value)(x:Str)(st:Stmt)(ps:List Str)(f:Addr)(d:zA9):Prop where
 F:L2.Fun K x x st f d
 m:mg x=some (.ref f)
 b:L2.Binds K d ps []
section
variable{C:Ct}
def aZ{st:Stmt}(hF:b7 C.prog C.w C.K C.mg C.base (CX1 C.prog C.w) k fn fd ps (spF C.K C.G.cl n F))(D:Dnr C.K C.mg x st ps fn fd)(ha:SA C m (e::es) ga)(hr:k<=C.k:=by exact Nat.le_of_ble_eq_true rfl)(hg:∀i,Gl (C.X i) x:=by intro _;rfl)
  (hn:∀ρ ds,ga ρ= .ok ds->ds.length=n:=by repeat (first|exact λ _ _ h=>aFh h|apply aDm))(hdb:Nd x:=by decide)(he:∀i,zAX (e::es) (C.X i).env=(false,eval e (C.X i).env)::zAX es (C.X i).env:=by intro _;rfl)
  (hpl:∀i,(zBv pos (zAX es (C.X i).env)).any (·.1)=false:=by intro _;rfl):SE C (some []) (.Call (.Name x p) (e::es) [] pos) (aP F ga):=aEw hF hr D.m D.F.kp D.b ha hn hdb he hpl hg
end
def ao{P:zAZ}{w:World}{K:zAA}{st:Stmt}(D:Dnr K mg q st ps fn fd)(S:aX N ps (aO st))(hb:N.Nodup->∀cdv A outer s H E hr,SSs (ctD P w K mg base N q (aO st) fn cdv A outer s H E k hr) (gH st) f)(hn:ps.length=n:=by rfl)(hF:dM N.length f=FF:=by rfl):
  b7 P w K mg base (CX1 P w) (k+1) fn fd ps (spF K (bQ mg) n FF):=aGF D.F S (hb S.nd) hn hF
def aBA(items:Array Value)(nss:Nat->List Int)(h:Heap):Prop:=∀i v,items[i]? =some v->∃x its,v= .ref x/\IsTup h x its/\zBE its.toList (nss i)
def aA1(items:Array Value):List Addr:=items.toList.filterMap λ v=>match v with| .ref x=>some x|_=>none
def aA0{items:Array Value}{i:Nat}(h:items[i]? =some (zBX x)):x∈aA1 items:=by
 unfold aA1;rw[zBx];exact⟨.ref x,by have:=zAa (l:=items.toList) (i:=i) (by simpa using h);exact this,rfl⟩
def aBA.keep(T:aBA items nss h)(k:∀b∈aA1 items,∀o,h.get? b=some o->h'.get? b=some o):aBA items nss h':=λ i v e=>by
 obtain⟨x,its,rfl,⟨o,h1,h2⟩,h3⟩:=T i v e;exact⟨x,its,rfl,⟨o,k x (aA0 e) o h1,h2⟩,h3⟩
def zc(l:List D):D->Rs D
 | .int i=>match intsOf l with
  |some is=>.ok (.int (is.countP λ a=>a==i:Nat))
  |none=>.st
 |_=>.st
def isL:D->Option (List D)
 | .lst l=>some l
 |_=>none
def opL(fd:List D->D->Rs D)(fo fe:En->Rs D):En->Rs D:=λ ρ=>(fo ρ).bd λ d=>match isL d with
 |some l=>(fe ρ).bd λ e=>okD (fd l e)
 |none=>.st
theorem v6{H:Hp}:∀is:List Int,L2.jB H (is.map V.int) (is.map L2.D.int)
 |[]=>.nil
 |i::is=>.cons (.int i) (v6 is)
theorem aAx:∀is:List Int,L2.bW (is.map L2.D.int)=0/\L2.aV (is.map L2.D.int)=true
 |[]=>⟨rfl,rfl⟩
 |i::is=>by
  obtain⟨h1,h2⟩:=aAx is;simp[L2.bW,L2.gw,L2.aV,L2.aQ,h1,h2]
def aDl{K:zAA}(r:Rp K A H x (.lst l))(h:intsOf l=some is):∃a,x= .ref a/\H a=some (.lst (is.map V.int)):=by
 rw[eQ h]at r;obtain⟨a,xs,rfl,h1,_,r1⟩:=r.lst_inv;have e:=r1.ints_of;subst e;exact⟨a,rfl,h1⟩
section
variable{C:Ct}{m m1:Mode}{o e:Expr}{fo fe:En->Rs D}{apos cpos:Pos}
def aCy(ho:SE C m o fo)(he:SE C m1 e fe)(hs1:∀j,zAX [e] (C.X j).env=[(false,eval e (C.X j).env)]:=by intro _;rfl)(hbase:∀j,zCS o "count" (C.X j).env (eval o (C.X j).env)=eval o (C.X j).env:=by intro _;rfl)
  (hfew:∀j,((zBv cpos (zAX [e] (C.X j).env)).all (λ x=>!x.1)&&(zDK cpos (zCL [] (C.X j).env)).all (λ x=>x.1.isSome)&&decide ([e].length+([]:List zBe).length+(if ([]:List zBe).isEmpty then 0 else 1)<30))=true:=by intro _;rfl)
  (hline:(apos.endLine==cpos.line)=true:=by rfl):SE C (some []) (.Call (.Attribute o "count" apos) [e] [] cpos) (opL zc fo fe):=by
 obtain⟨t,h1,h2⟩:=ho;obtain⟨u,k1,k2⟩:=he;refine⟨tBM C.K "list" aBZ t (gj u kJ),λ j=>by rw[<-C.hK j];exact uF zBS zEk PySem.F.type_list_count (aCK (by have:=(C.room j).un;lia)) (h1 j) (bz (k1 j) eF (hs1 j)) (hbase j) (hfew j) hline (hs1 j) rfl,λ U σ H ρ lab Q R W=>?_⟩;refine h2 U σ H ρ lab _ R (W.bd.imp λ d _ w x H1 s1 r1=>?_);cases d with
 |lst l=>
  obtain⟨a,xs,rfl,ha,_⟩:=r1.lst_inv;replace w:WR C.G ((fe ρ).bd λ e=>okD (zc l e)) (QE C.K (some []) lab H Q):=w;refine⟨.inl ⟨rfl,xs,SqL.of ha⟩,k2 U σ H1 ρ lab _ (R.up s1) (w.bd.imp λ e _ w y H2 s2 r2=>?_)⟩;obtain⟨z,ez,wz⟩:=w.okD;cases e with
  |int i=>
   unfold zc at ez;dsimp only at ez;cases hi:intsOf l with
   |none=>rw[hi]at ez;cases ez
   |some is=>
    rw[hi]at ez;dsimp only at ez;have ey:=r2.int_inv;subst ey;obtain⟨a',ea,hl⟩:=aDl (r1.up s2) hi;cases ea;cases ez;refine⟨a,.int i,.int i,is.map L2.D.int,rfl,rfl,.lst hl (v6 is),.int i,by rw[(aAx is).1];decide,rfl,(aAx is).2,?_⟩;rw[List.countP_map];exact wz _ H2 (s1.trans s2) (.int _)
  |_=>cases ez
 |_=>exact zAK w
end
def aC3{X:Cx}:cZ X (.type "int") (λ xs H Q=>∃b,xs=[.bl b]/\Q (.int (if b=true then 1 else 0)) H):=by
 intro hV s σ H xs us Q I r h;obtain⟨b,rfl,q⟩:=h;obtain⟨u,rfl,r1⟩:=vals1 r;cases r1;exact call_int_bool ⟨.int _,H,I.tok _,⟨_,rfl⟩,q⟩
def lR:List D->Rs D
 |[.bl b]=>.ok (.int (if b=true then 1 else 0))
 |_=>.st
def aGL{K:zAA}:ph K (λ xs H Q=>∃b,xs=[.bl b]/\Q (.int (if b=true then 1 else 0)) H) lR:=by
 intro A xs ds H Q z r ez q;unfold lR at ez;split at ez
 .cases ez
  cases r with
  |cons h' r=>cases h';cases r;exact⟨_,rfl,q _ H (aU.refl H) (.int _)⟩
 .cases ez
def aED:∀x z,lR x= .ok z->imm z=true:=by
 intro x z e;unfold lR at e;split at e
 .cases e;rfl
 .cases e
section
variable{C:Ct}{pos p:Pos}{m:Mode}{a:Expr}{ga:En->Rs (List D)}
def aEu(hm:C.mg "int"=none)(ha:SA C m [a] ga)(he:∀i,zAX [a] (C.X i).env=[(false,eval a (C.X i).env)]:=by intro _;rfl)(hg:∀i,Gl (C.X i) "int":=by intro _;rfl)(hv:zAr "int"=some (.type "int"):=by decide+kernel):SE C (some []) (.Call (.Name "int" p) [a] [] pos) (opA lR ga):=
 fP (yc (λ i=>aC3) aGL hg hm hv ha (by decide) (by decide) he) λ _ _ h=>mX aED h
end
end VL
namespace PySem
open Sem(wp)
section
variable{prog:zAZ}{w:World}
inductive yL{K:Type}[DecidableEq K](knd:KeyKind prog w K)(h:Heap):List Value->List (K×Value)->Prop where
 |nil:yL knd h [] []
 |cons {x:Addr} {o:Obj} {n:Nat} {kv v:Value} {k:K} {us:List Value} {ps:List (K×Value)} (ho:h.get? x=some o) (hc:o.cls= .type "tuple") (hd:o.data= .seq #[kv,v] n) (hk:knd.is k kv=true) (r:yL knd h us ps):yL knd h (.ref x::us) ((k,v)::ps)
end
end PySem
namespace VL
open PySem PySem.Spec PyProof.Rows L2
section
variable{K:Type}[DecidableEq K]
end
end VL
namespace L2
open PySem PySem.Spec PyProof.Rows
section
variable{X:Cx}{n0 n1 n2 odd:Str}{c1 c2:V}{k1 k2 k3 k4:List V}{l1 l2:List Str}{a1 a2:Expr}{as1 as2 e1 e2 e3 e4 w1 w2:List Expr}{kw1 kw2:List zBe}{Q:VK}{H:Hp}{vs:List V}
 {p1 p2 p3 p4 p5 p6 p7 p8 p9 p10 p11 p12 p13 p14 p15 p16 p17 p18 p19 p20 p21 p22 p23 p24 p25 p26 p27 p28 p29 p30 p31 p32 p33 p34 p35 p36 p37 p38 p39 p40:Pos}{q1 q2 q3 q4 q5 q6 q7:Pos}{j1 j2 j3 j4 j5:Nat}{E0:XK}{wd:Addr->Option Str}
end
section
variable{P:zAZ}{w:World}{K:zAA}{mg:Str->Option Value}{base:Heap}{x q n0 n1 n2 odd:Str}{st:Stmt}{f:Addr}{fd:zA9}{k:Nat}{wd:Addr->Option Str}{c1 c2:V}{k1 k2 k3 k4:List V}{l1 l2:List Str}{a1 a2:Expr}{as1 as2 e1 e2 e3 e4 w1 w2:List Expr}{kw1 kw2:List zBe}
 {p1 p2 p3 p4 p5 p6 p7 p8 p9 p10 p11 p12 p13 p14 p15 p16 p17 p18 p19 p20 p21 p22 p23 p24 p25 p26 p27 p28 p29 p30 p31 p32 p33 p34 p35 p36 p37 p38 p39 p40:Pos}{q1 q2 q3 q4 q5 q6 q7:Pos}{j1 j2 j3 j4 j5:Nat}
end
section
variable{X:Cx}{n0 n1 n2 odd:Str}{c1 c2:V}{k1 k2 k3 k4:List V}{l1 l2:List Str}{a1 a2:Expr}{as1 as2 e1 e2 e3 e4 w1 w2:List Expr}{kw1 kw2:List zBe}{Q:VK}{H:Hp}{vs:List V}
 {p1 p2 p3 p4 p5 p6 p7 p8 p9 p10 p11 p12 p13 p14 p15 p16 p17 p18 p19 p20 p21 p22 p23 p24 p25 p26 p27 p28 p29 p30 p31 p32 p33 p34 p35 p36 p37 p38 p39 p40:Pos}{q1 q2 q3 q4 q5 q6 q7:Pos}{j1 j2 j3 j4 j5:Nat}{E0:XK}{wd:Addr->Option Str}
end
section
variable{P:zAZ}{w:World}{K:zAA}{mg:Str->Option Value}{base:Heap}{x q n0 n1 n2 odd:Str}{st:Stmt}{f:Addr}{fd:zA9}{k:Nat}{wd:Addr->Option Str}{c1 c2:V}{k1 k2 k3 k4:List V}{l1 l2:List Str}{a1 a2:Expr}{as1 as2 e1 e2 e3 e4 w1 w2:List Expr}{kw1 kw2:List zBe}
 {p1 p2 p3 p4 p5 p6 p7 p8 p9 p10 p11 p12 p13 p14 p15 p16 p17 p18 p19 p20 p21 p22 p23 p24 p25 p26 p27 p28 p29 p30 p31 p32 p33 p34 p35 p36 p37 p38 p39 p40:Pos}{q1 q2 q3 q4 q5 q6 q7:Pos}{j1 j2 j3 j4 j5:Nat}
end
end L2
namespace VL
open PySem PySem.Spec PyProof.Rows L2
def dnr{K:zAA}{h:Heap}{mg:Str->Option Value}{x:Str}{st:Stmt}(X:K.In h)(G:h.Ns zA8 mg)(e:∃f d,Enr K x st f d)(ps:List Str)
  (hb:∀(kV doc pm:Value) (an:Option Addr) (cdv ct:Value) (us:List Value),us.length=ps.length->bindArgs (zBj x x (m6 st) (gH st) (aO st) .none kV doc pm an cdv ct) ⟨us,[]⟩=pure (ps.zip us):=by
   intro _ _ _ _ _ _ us hl;repeat' first|rfl|(simp at hl;done)|rcases us with _|⟨_,us⟩):∃f d,Dnr K mg x st ps f d/\zAm K zA8 x=some (some (.ref f)):=by
 obtain⟨f,d,F,a⟩:=e;exact⟨f,d,⟨F,zB2 X G a,F.binds hb⟩,a⟩
def aBX:D->Rs D
 | .lst l=>.ok (.lst l.reverse)
 |_=>.st
def aG3(K:zAA)(te:TE):TE:=λ σ H Q=>te σ H λ x H1=>∃a xs,x= .ref a/\SqL K H1 a xs/\∀p,H1 p=none->Q (.ref p) (upd H1 p (.lst xs.reverse))
def aFL{X:Cx}(he:PE X e te):PE X (.Subscript e (.Slice none none (some (.UnaryOp .USub (.Constant (.int 1) j p3) p4)) p2) pos) (aG3 X.K te):=by
 intro hV s σ H Q I h;refine zHL (thn (he hV s σ H _ I h) λ v s1 ⟨x,H1,I1,r1,q1⟩=>?_);obtain⟨a,xs,rfl,hx,q⟩:=q1;cases r1;have hm:PE X (.UnaryOp .USub (.Constant (.int 1) j p3) p4) (tUn (rU λ i=>.int (-i)) (tC (.int 1))):=aIx aGv aD0;refine wpAny_Slice ?_;rw[zGL];refine zA7 (zA7 ?_);rw[evalPart_some];refine thn (hm hV s1 σ H1 (λ z H2=>z= .int (-1)/\H2=H1) I1 ⟨1,rfl,rfl,rfl⟩) λ u s2 ⟨z,H2,I2,r2,ez,eH⟩=>?_
 subst ez eH;obtain⟨tk,rfl⟩:=r2;have I4:Inv X hV σ H2 {s2 with heap:=s2.heap.push {cls:=.type "slice",data:=.fields #[.none,.none,.int (-1) tk]}}:=I2.kept (t':=s2.toks) λ b ob q=>zAG _ q
 obtain⟨its,r,ht,hz⟩:=I4.list hx;have hW:its.toArray.size=xs.length:=by rw[zAH];exact r.length.symm
 show wpAny (model X.prog X.w) X.A (zGQ e _ (.ref a) (.ref s2.heap.objs.size)) (EP X hV σ Q) X.xe _;refine tail_any (ops:=[.ref a,.ref s2.heap.objs.size]) ht.isList.typeIs zEy.lookup ?_ (by with_unfolding_all rfl);refine zGE ht.isList (zE1 ..) .none .none (.int _ _) (by decide) ?_ (by rw[hW];exact hz);rw[PySem.W.krv_pick];refine⟨.ref _,_,I4.laid (t':=s2.toks) (o:=.lst xs.reverse) (λ b ob q=>zAG _ q) (zAU _) ?_,rfl,q _ (I4.hok.fresh (zAU _))⟩;exact⟨by rw[zDt];exact hz,_,0,r.reverse,zA6 _ rfl⟩
section
variable{C:Ct}{pos p2 p3 p4:Pos}{m:Mode}{e:Expr}{fe:En->Rs D}
def aEp(h:SE C m e fe):SE C m (.Subscript e (.Slice none none (some (.UnaryOp .USub (.Constant (.int 1) j p3) p4)) p2) pos) (op1 aBX fe):=by
 obtain⟨t,h1,h2⟩:=h;refine⟨aG3 C.K t,λ i=>by rw[<-C.hK i];exact aFL (h1 i),λ U σ H ρ lab Q R W=>h2 U σ H ρ lab _ R (W.bd.imp λ d _ w x H1 s1 r1=>?_)⟩;obtain⟨z,ez,w⟩:=w.okD;cases d with
 |lst l=>
  cases ez;obtain⟨a,xs,rfl,h,mm,r⟩:=r1.lst_inv;exact⟨a,xs,rfl,SqL.of h,λ p hp=>w _ _ (s1.trans (bI hp _)) (.lst aq (.inl (s1.free hp)) ((r.reverse.wk λ q o e z=>⟨z.1,λ e'=>by subst e';rw[hp]at e;cases e⟩).up (bI hp _)))⟩
 |_=>cases ez
end
end VL
namespace L2
open PySem PySem.Spec PyProof.Rows
end L2
namespace VL
open PySem PySem.Spec PyProof.Rows L2
def aJr(A:zAc)(s:zAE)(v u:Value)(b:Bool):Prop:=∀(prog:zAZ) (w:World) (E:Value->zAE->Prop) (Q:Value->zAE->Prop),Q (.bool b) s->wpAny (model prog w) A (zFc .Gt v u) Q E s
inductive aC8(A:zAc)(s:zAE):List Value->List Value->Bool->Prop
 |nn:aC8 A s [] [] false
 |nc:aC8 A s [] (v::vs) false
 |cn:aC8 A s (v::vs) [] true
 |eq:zBg A s v u true->aC8 A s vs us b->aC8 A s (v::vs) (u::us) b
 |un:zBg A s v u false->aJr A s v u b->aC8 A s (v::vs) (u::us) b
section
open PySem.SeqAt
open PySem.AutoSeq1(wpAny_loadPart')
open PySem.MeetsSeq PySem.MeetsSeq2 PySem.MeetsSeq3
end
section
theorem aGr:∀{l:List D} {d:D},dU l=true->d∈l->imm d=true
 |_::_,d,h,hm=>by
  simp only[dU,zAN]at h;rcases zAT.mp hm with rfl|hm
  .exact h.1
  .exact aGr h.2 hm
structure Cmp(f:D->D->Option Bool)(l:List D):Prop where
 n0:0<l.length
 im:dU l=true
 nd:aV l=true
 dp:bW l<=40
 cm:∀x∈l,∀y∈l,(f x y).isSome=true
instance:Decidable (Cmp f l):=if h:0<l.length/\dU l=true/\aV l=true/\bW l<=40/\∀x∈l,∀y∈l,(f x y).isSome=true then .isTrue ⟨h.1,h.2.1,h.2.2.1,h.2.2.2.1,h.2.2.2.2⟩else .isFalse λ z=>h ⟨z.n0,z.im,z.nd,z.dp,z.cm⟩
end
def aJq(A:zAc)(s:zAE)(v u:Value)(b:Bool):Prop:=∀(prog:zAZ) (w:World) (E:Value->zAE->Prop) (Q:Value->zAE->Prop),Q (.bool b) s->wpAny (model prog w) A (zFc .Lt v u) Q E s
inductive aC7(A:zAc)(s:zAE):List Value->List Value->Bool->Prop
 |nn:aC7 A s [] [] false
 |nc:aC7 A s [] (v::vs) true
 |cn:aC7 A s (v::vs) [] false
 |eq:zBg A s v u true->aC7 A s vs us b->aC7 A s (v::vs) (u::us) b
 |un:zBg A s v u false->aJq A s v u b->aC7 A s (v::vs) (u::us) b
section
open PySem.SeqAt
open PySem.AutoSeq1(wpAny_loadPart')
open PySem.MeetsSeq PySem.MeetsSeq2 PySem.MeetsSeq3
end
def aGH(i k:Nat):En->Ou:=λ ρ=>match ρ[i]?,ρ[k]? with
 |some (.ow (.lst ds)),some (.ow (.lst es))=>if ds.length+es.length<=zAQ/\dU es=true then .nx (ρ.set i (.ow (.lst (ds++es))))else .st
 |_,_=>.st
section
variable{C:Ct}{pos apos cpos p p':Pos}{i k:Nat}{x y:Str}
def aAL(i k:Nat)(hN:∀j,(C.X j).N[i]? =some x:=by intro _;rfl)(hv:∀j,Vis (C.X j).env.scope x:=by intro _;first|exact zB6 rfl|exact zBH (zB6 rfl)|exact zBH (zBH rfl))(hd:Nd x:=by decide)
  (hcd:(x==("__classdict__":Str))=false:=by decide)(hN':∀j,(C.X j).N[k]? =some y:=by intro _;rfl)(hv':∀j,Vis (C.X j).env.scope y:=by intro _;first|exact zB6 rfl|exact zBH (zB6 rfl)|exact zBH (zBH rfl))(hd':Nd y:=by decide)
  (hcd':(y==("__classdict__":Str))=false:=by decide)(hs1:∀j,zAX [.Name y p'] (C.X j).env=[(false,eval (.Name y p') (C.X j).env)]:=by intro _;rfl)
  (hbase:∀j,zCS (.Name x p) "extend" (C.X j).env (eval (.Name x p) (C.X j).env)=eval (.Name x p) (C.X j).env:=by intro _;rfl)
  (hfew:∀j,((zBv cpos (zAX [.Name y p'] (C.X j).env)).all (λ x=>!x.1)&&(zDK cpos (zCL [] (C.X j).env)).all (λ x=>x.1.isSome)&&decide ([Expr.Name y p'].length+([]:List zBe).length+(if ([]:List zBe).isEmpty then 0 else 1)<30))=true:=by intro _;rfl)
  (hline:(apos.endLine==cpos.line)=true:=by rfl)
  (hsw:∀j,zCB (.Call (.Attribute (.Name x p) "extend" apos) [.Name y p'] [] cpos) none pos.line (C.X j).env=pure false:=by intro _;rfl):
  SS C (.Expr (.Call (.Attribute (.Name x p) "extend" apos) [.Name y p'] [] cpos) pos) (aGH i k):=by
 refine⟨tE (tBM C.K "list" yq (oY i) (gj (oY k) kJ)),λ j=>jm (by rw[<-C.hK j];exact uF zBS zC6 zE7 aAc (fQ (hN j) (hv j) hd hcd) (bz (fQ (hN' j) (hv' j) hd' hcd') eF (hs1 j)) (hbase j) (hfew j) hline (hs1 j) rfl) (hsw j),λ U σ H ρ lab De R W=>?_⟩;unfold aGH at W;split at W
 .rename_i ds es e1 e2
  by_cases hz:ds.length+es.length<=zAQ/\dU es=true
  .rw[if_pos hz]at W
   rcases R.sl i _ e1 with z|⟨v,ev,hv1,htop⟩
   .cases z
   rcases R.sl k _ e2 with z|⟨v2,ev2,hv2,_⟩
   .cases z
   obtain⟨a0,ea0,la0⟩:=htop rfl;subst ea0;obtain⟨a1,xs,ea1,h,mm,r⟩:=hv1.lst_inv;cases ea1;obtain⟨b,zs,eb,hb,mb,rb⟩:=hv2.lst_inv;subst eb;refine⟨.ref a0,ev,.inl ⟨rfl,xs,SqL.of h⟩,.ref b,ev2,a0,b,xs,zs,rfl,rfl,h,hb,by rw[r.length,rb.length];exact hz.1,λ H3 B h3=>?_⟩;refine W σ H3 _ (R.mut ev h rfl la0 B ⟨.lst h3 (.inr la0) ?_,λ _=>⟨a0,rfl,la0⟩⟩);exact(r.append (rb.imm hz.2)).but B h rfl λ z=>z.2 rfl
  .rw[if_neg hz]at W
   exact zAK W
 .exact zAK W
end
mutual
def gJ:D->D->Bool
 | .non,.non=>true
 | .bl a,.bl b=>a==b
 | .int a,.int b=>a==b
 | .tup l,.tup m=>fC l m
 |_,_=>false
def fC:List D->List D->Bool
 |[],[]=>true
 |x::xs,y::ys=>gJ x y&&fC xs ys
 |_,_=>false
end
mutual
theorem aDB:∀(a b:D),gJ a b=true->a=b
 | .non,b,h=>by cases b<;>simp[gJ]at h;rfl
 | .bl a,b,h=>by cases b<;>simp[gJ]at h;rw[h]
 | .int a,b,h=>by cases b<;>simp[gJ]at h;rw[h]
 | .tup l,b,h=>by cases b<;>simp[gJ]at h;rw[qH _ _ h]
 | .str _,b,h=>by simp[gJ]at h
 | .lst _,b,h=>by simp[gJ]at h
 | .dct _ _,b,h=>by simp[gJ]at h
 | .set _,b,h=>by simp[gJ]at h
 | .scr _,b,h=>by simp[gJ]at h
 | .fn _,b,h=>by simp[gJ]at h
theorem qH:∀(a b:List D),fC a b=true->a=b
 |[],b,h=>by cases b<;>simp[fC]at h;rfl
 |x::xs,b,h=>by
  cases b with
  |nil=>simp[fC]at h
  |cons y ys=>
   simp only[fC,zAN]at h;rw[aDB _ _ h.1,qH _ _ h.2]
end
def WK(K:zAA)(G:Gx)(U:List (V×D))(k:Nat)(v0:V)(o:Ou)(De:Ends):Prop:=match o with
 | .nx ρ=>∀σ H lab,RR K G U ρ σ H lab->σ[k]? =some (some v0)->De.nx σ H
 | .bk ρ=>∀σ H lab,RR K G U ρ σ H lab->σ[k]? =some (some v0)->De.bk σ H
 | .ct ρ=>∀σ H lab,RR K G U ρ σ H lab->σ[k]? =some (some v0)->De.ct σ H
 | .rt d=>∀v H,aU G.H0 H->Rp K (λ p=>G.H0 p=none) H v d->De.rt v H
 | .ex c=>∀H',aU G.H0 H'->G.E (.ref (G.cl c)) none H'
 | .st=>False
theorem WK.bo{K:zAA}{G:Gx}{r:Rs α}{g:α->Ou}(h:WK K G U k v0 (r.bo g) De):WR G r (λ a=>WK K G U k v0 (g a) De):=by
 cases r with
 |ok a=>exact h
 |ex c=>exact h
 |st=>exact h
def aJX(K:zAA)(G:Gx)(k:Nat)(t:TS)(f:En->Ou):Prop:=∀U σ H ρ lab (De:Ends) (v0:V),RR K G U ρ σ H lab->σ[k]? =some (some v0)->WK K G U k v0 (f ρ) De->t De σ H
def SSk(C:Ct)(k:Nat)(s:Stmt)(f:En->Ou):Prop:=∃t,(∀i,PS (C.X i) s t)/\aJX C.K C.G k t f
def aBB(C:Ct)(k:Nat)(s:List Stmt)(f:En->Ou):Prop:=∃t,(∀i,PSs (C.X i) s t)/\aJX C.K C.G k t f
section
variable{C:Ct}{pos apos cpos p:Pos}{s:Stmt}{ss:List Stmt}{f g:En->Ou}{e a:Expr}{m:Mode}{fe:En->Rs D}{k i:Nat}{x:Str}
def aCm:aBB C k [] .nx:=⟨_,λ _=>aB1,λ U σ H ρ lab De v0 R f0 W=>W σ H lab R f0⟩
def yU(h:SSk C k s f):aBB C k [s] f:=let⟨t,h1,h2⟩:=h;⟨t,λ i=>aB0 (h1 i),h2⟩
def mK(h:SSk C k s f)(kk:aBB C k ss g):aBB C k (s::ss) (aY f g):=by
 obtain⟨t,h1,h2⟩:=h;obtain⟨u,k1,k2⟩:=kk;refine⟨_,λ i=>yt (h1 i) (k1 i),λ U σ H ρ lab De v0 R f0 W=>h2 U σ H ρ lab _ v0 R f0 ?_⟩;unfold aY at W;cases h:f ρ with
 |nx ρ'=>rw[h]at W;exact λ σ' H' lab' R' f'=>k2 U σ' H' ρ' lab' De v0 R' f' W
 |rt d=>rw[h]at W;exact W
 |bk ρ'=>rw[h]at W;exact W
 |ct ρ'=>rw[h]at W;exact W
 |ex c=>rw[h]at W;exact W
 |st=>rw[h]at W;exact W
def aHE{a b:List Stmt}{c:Expr}{fc:En->Rs Bool}(hc:ST C c fc)(ha:aBB C k a f)(hb:aBB C k b g):SSk C k (.If c a b pos) (ifS fc f g):=by
 obtain⟨tc,c1,c2⟩:=hc;obtain⟨t,h1,h2⟩:=ha;obtain⟨u,k1,k2⟩:=hb;refine⟨_,λ i=>aGj (c1 i) (h1 i) (k1 i),λ U σ H ρ lab De v0 R f0 W=>c2 U σ H ρ lab _ R (WK.bo W |>.imp λ q _ w H1 s1=>?_)⟩;cases q with
 |true=>rw[if_pos rfl]at w ⊢;exact h2 U σ H1 ρ lab De v0 (R.up s1) f0 w
 |false=>rw[if_neg zA3]at w ⊢;exact k2 U σ H1 ρ lab De v0 (R.up s1) f0 w
def o5(h:SV C i s m fe)(hm:okS m=true:=by rfl)(hk:(k==i)=false:=by rfl):SSk C k s (cX i fe):=by
 obtain⟨t,h1,h2⟩:=h;refine⟨_,h1,λ U σ H ρ lab De v0 R f0 W=>h2 U σ H ρ lab _ R (WK.bo W |>.imp λ d _ w v H' s r=>?_)⟩;obtain⟨R',r'⟩:=R.shared hm s r;exact w _ _ _ (R'.put (s:=.sh d) r') (by rw[zAt (λ e=>by rw[e]at hk;simp at hk)];exact f0)
def aAJ(i:Nat)(he:SE C m e fe)(hm:okN m=true:=by rfl)(hN:∀j,(C.X j).N[i]? =some x:=by intro _;rfl)(hv:∀j,Vis (C.X j).env.scope x:=by intro _;first|exact zB6 rfl|exact zBH (zB6 rfl)|exact zBH (zBH rfl))(hd:Nd x:=by decide)
  (hcd:(x==("__classdict__":Str))=false:=by decide)(hs1:∀j,zAX [e] (C.X j).env=[(false,eval e (C.X j).env)]:=by intro _;rfl)
  (hbase:∀j,zCS (.Name x p) "append" (C.X j).env (eval (.Name x p) (C.X j).env)=eval (.Name x p) (C.X j).env:=by intro _;rfl)
  (hfew:∀j,((zBv cpos (zAX [e] (C.X j).env)).all (λ x=>!x.1)&&(zDK cpos (zCL [] (C.X j).env)).all (λ x=>x.1.isSome)&&decide ([e].length+([]:List zBe).length+(if ([]:List zBe).isEmpty then 0 else 1)<30))=true:=by intro _;rfl)
  (hline:(apos.endLine==cpos.line)=true:=by rfl)
  (hsw:∀j,zCB (.Call (.Attribute (.Name x p) "append" apos) [e] [] cpos) none pos.line (C.X j).env=pure false:=by intro _;rfl):
  SSk C k (.Expr (.Call (.Attribute (.Name x p) "append" apos) [e] [] cpos) pos) (gO i fe):=by
 obtain⟨t,h1,h2⟩:=he;refine⟨tE (tBM C.K "list" o9 (oY i) (gj t kJ)),λ j=>jm (by rw[<-C.hK j];exact uF zBS zCY zCy oE (fQ (hN j) (hv j) hd hcd) (bz (h1 j) eF (hs1 j)) (hbase j) (hfew j) hline (hs1 j) rfl) (hsw j),λ U σ H ρ lab De v0 R f0 W=>?_⟩;unfold gO at W;cases es:ρ[i]? with
 |none=>rw[es]at W;exact zAK W
 |some s=>
  rw[es]at W;split at W
  .rename_i ds hs
   cases hs;rcases R.sl i _ es with z|⟨v,ev,hv'⟩
   .cases z
   .obtain⟨hv1,htop⟩:=hv'
    obtain⟨a0,ea0,la0⟩:=htop rfl;subst ea0;cases hv1 with
    |lst h mm r=>
     rename_i xs;refine⟨.ref a0,ev,.inl ⟨rfl,xs,SqL.of h⟩,h2 U σ H ρ lab _ R (WK.bo W |>.imp λ d _ w y H2 s2 r2=>?_)⟩;by_cases hz:ds.length<zAQ
     .rw[if_pos hz]at w
      refine⟨a0,xs,y,rfl,rfl,s2 _ _ h,by rw[r.length];exact hz,λ H3 B h3=>?_⟩;obtain⟨R',r'⟩:=R.fresh (P:=λ k=>k=1) rfl (λ k hk=>beq_iff_eq.mp (mR hm k hk)) s2 r2;have la:(bY H 1 lab a0).1=i+2:=by rw[bM h];exact la0
      refine w σ H3 _ (R'.mut ev (s2 _ _ h) rfl la B ⟨.lst h3 (.inr la) ?_,λ _=>⟨a0,rfl,la⟩⟩) f0;have ra:Rps C.K (λ p=>((bY H 1 lab p).1=1\/(bY H 1 lab p).1=i+2)/\p≠a0) H2 (xs++[y]) (ds++[d]):=by
       refine(r.mono s2 λ p o e z=>⟨by rw[bM e];exact z.1,z.2⟩).append (.cons (r'.wk λ p o e z=>⟨.inl z,λ q=>?_⟩) .nil);subst q;rw[la]at z;lia
      exact ra.but B (s2 _ _ h) rfl λ z=>z.2 rfl
     .rw[if_neg hz]at w
      exact zAK w
  .exact zAK W
def qd(k:Nat)(l:List D)(ρ:En):Bool:=match ρ[k]? with
 |some (.ow (.lst m))=>fC m l
 |_=>false
def lW(k:Nat)(l:List D)(fg:D->En->Rs En)(b:En->Ou):List D->En->Ou
 |[],ρ=>if qd k l ρ=true then .nx ρ else .st
 |d::ds,ρ=>if qd k l ρ=true then(match fg d ρ with
  | .ok ρ1=>match b ρ1 with
   | .nx ρ2=>lW k l fg b ds ρ2
   | .ct ρ2=>lW k l fg b ds ρ2
   | .bk _=>.st
   |o=>o
  |_=>.st)else .st
def aGE(k:Nat)(fg:D->En->Rs En)(b:En->Ou):En->Ou:=λ ρ=>match ρ[k]? with
 |some (.ow (.lst l))=>if dU l=true then lW k l fg b l ρ else .st
 |_=>.st
def aEf{tg:Expr}{ks:List Nat}{fg:D->En->Rs En}(k:Nat)(hg:SG C tg ks fg)(hb:aBB C k ss f)(hk:k∉ks:=by decide)(hN:∀j,(C.X j).N[k]? =some x:=by intro _;rfl)(hv:∀j,Vis (C.X j).env.scope x:=by intro _;first|exact zB6 rfl|exact zBH (zB6 rfl)|exact zBH (zBH rfl))(hd:Nd x:=by decide)
  (hcd:(x==("__classdict__":Str))=false:=by decide)(hs:∀i,∀y,zB3 (.Name x p) (C.X i).env y=pure y:=by intro _ _;rfl):SS C (.For tg (.Name x p) ss [] pos) (aGE k fg f):=by
 obtain⟨gg,g1,g2,g3,g4⟩:=hg;obtain⟨tb,b1,b2⟩:=hb;refine⟨aIf (aIO C.K (oY k)) gg tb,λ i=>aDU (C.own i) (C.calm i) (by rw[<-C.hK i];exact aDX (fQ (hN i) (hv i) hd hcd)) (g1 i) (b1 i) (hs i),λ U σ H ρ lab De R W=>?_⟩;unfold aGE at W;split at W
 .rename_i l e1
  by_cases him:dU l=true
  .rw[if_pos him]at W
   rcases R.sl k _ e1 with z|⟨v,ev,hv1,htop⟩
   .cases z
   obtain⟨a0,xs,rfl,h,mm,r⟩:=hv1.lst_inv;refine⟨.ref a0,ev,a0,rfl,.inl ⟨⟨xs,SqL.of h⟩,?_⟩⟩;refine⟨λ i n σ' H'=>∃ρ' lab',RR C.K C.G U ρ' σ' H' lab'/\σ'[k]? =some (some (.ref a0))/\n=l.length-i/\i<=l.length/\WS C.K C.G U (lW k l fg f (l.drop i) ρ') De,⟨l.length,ρ,lab,R,ev,by lia,by lia,W⟩,?_⟩;rintro i n σ' H' ⟨ρ',lab',R',f',rfl,hi,w'⟩;have own:qd k l ρ'=true->∃(P:Addr->Prop) (xs':List V),H' a0=some (.lst xs')/\Rps C.K P H' xs' l:=λ o=>by
    unfold qd at o;split at o
    .rename_i m e2
     have:=qH m l o
     subst this;rcases R'.sl k _ e2 with z|⟨v,ev',hv',_⟩
     .cases z
     rw[f']at ev';cases ev';obtain⟨a1,xs',ea,h',mm',r'⟩:=hv'.lst_inv;cases ea;exact⟨_,xs',h',r'⟩
    .cases o
   by_cases hlt:i<l.length
   .have ed2:l.drop i=l[i]::l.drop (i+1):=zBc hlt
    rw[ed2]at w';unfold lW at w';by_cases o:qd k l ρ'=true
    .rw[if_pos o]at w'
     obtain⟨P,xs',h',r'⟩:=own o;have hl:=r'.length;refine .inr ⟨⟨xs',xs'[i]'(by lia),SqL.of h',zAC (by lia)⟩,λ σ2 H2=>∃ρ2 lab2,RR C.K C.G U ρ2 σ2 H2 lab2/\σ2[k]? =some (some (.ref a0))/\WS C.K C.G U (lW k l fg f (l.drop (i+1)) ρ2) De,λ σ2 H2 ⟨ρ2,lab2,R2,f2,w2⟩=>⟨l.length-(i+1),by lia,ρ2,lab2,R2,f2,rfl,hlt,w2⟩,λ x H2 hy=>?_⟩;obtain⟨e,y⟩:=hy;subst e;obtain⟨d,ed,rd⟩:=r'.get (y xs' (SqL.of h'));rw[zAC hlt]at ed;cases ed;have rx:Rp C.K (λ p=>(lab' p).1<=1) H2 x l[i]:=rd.imm (aGr him (zCQ hlt));cases eg:fg l[i] ρ' with
     |ex c=>rw[eg]at w';exact zAK w'
     |st=>rw[eg]at w';exact zAK w'
     |ok ρ1=>
      rw[eg]at w';have G:=g2 U x l[i] σ' H2 ρ' lab' (λ σ1 H1=>RR C.K C.G U ρ1 σ1 H2 lab'/\H1=H2) ρ1 R' rx eg λ σ1 R1=>⟨R1,rfl⟩
      refine g4 _ _ _ _ _ (λ σ1 H1 z=>?_) (g3 _ _ _ _ G);obtain⟨⟨R1,e⟩,_,fr⟩:=z;subst e;refine b2 U σ1 H1 ρ1 lab' _ (.ref a0) R1 ((fr k hk).trans f') ?_;dsimp only at w';cases eb:f ρ1 with
      |nx ρ2=>rw[eb]at w';exact λ σ2 H3 lab2 R2 f2=>⟨ρ2,lab2,R2,f2,w'⟩
      |ct ρ2=>rw[eb]at w';exact λ σ2 H3 lab2 R2 f2=>⟨ρ2,lab2,R2,f2,w'⟩
      |bk ρ2=>rw[eb]at w';exact zAK w'
      |rt d=>rw[eb]at w';exact w'
      |ex c=>rw[eb]at w';exact w'
      |st=>rw[eb]at w';exact w'
    .rw[if_neg o]at w'
     exact zAK w'
   .have e:i=l.length:=by lia
    subst e;rw[zDN]at w';unfold lW at w';by_cases o:qd k l ρ'=true
    .rw[if_pos o]at w'
     obtain⟨P,xs',h',r'⟩:=own o;exact .inl ⟨⟨xs',SqL.of h',by rw[r'.length];exact zAU _⟩,w' σ' H' lab' R'⟩
    .rw[if_neg o]at w'
     exact zAK w'
  .rw[if_neg him]at W
   exact zAK W
 .exact zAK W
end
def aBt(t:Tok)(a:Addr)(l:List Value)(n:Nat)(dd:Option Addr)(sl:Array (Option Value))(he:l.isEmpty=false):
  Meets (zD7.«tuple.__mul__» ⟨[.ref a,.int 0 t],[]⟩) (λ _ R s=>s.heap.get? a=some {cls:=.type "tuple",dict:=dd,data:=.seq l.toArray n,slots:=sl}/\
   R (.ok (.ret (zBX s.heap.objs.size))) {s with heap:=s.heap.push {cls:=zCT "tuple",data:=zGv #[]}}):=by
 have c0:¬(decide ((0:Int) < -2^63)||decide ((0:Int) ≥ 2^63))=true:=by decide
 have c1:¬(l.toArray.isEmpty||(0:Int)==1)=true:=by simp only[zDd,he];simp
 have c2:(decide ((0:Int)<=0)||l.toArray.isEmpty)=true:=by simp
 refine .of_wp λ P w A R s h=>?_
 obtain⟨_,_,_,_,_⟩:=s;obtain⟨hl,h⟩:=h;wp_walk
 try rw[if_neg c0]
 wp_walk
 try rw[if_neg c1]
 wp_walk
 try rw[if_pos c2]
 wp_walk;exact⟨_,rfl,h⟩
def aBs(t:Tok)(a:Addr)(l:List Value)(n:Nat)(dd:Option Addr)(sl:Array (Option Value)):
  Meets (zD7.«tuple.__mul__» ⟨[.ref a,.int 1 t],[]⟩) (λ _ R s=>s.heap.get? a=some {cls:=.type "tuple",dict:=dd,data:=.seq l.toArray n,slots:=sl}/\
   R (.ok (.ret (zBX a))) s):=by
 have c0:¬(decide ((1:Int) < -2^63)||decide ((1:Int) ≥ 2^63))=true:=by decide
 have c1:(l.toArray.isEmpty||(1:Int)==1)=true:=by simp
 refine .of_wp λ P w A R s h=>?_
 obtain⟨_,_,_,_,_⟩:=s;obtain⟨hl,h⟩:=h;wp_walk
 try rw[if_neg c0]
 wp_walk
 try rw[if_pos c1]
 wp_walk;exact⟨_,rfl,h⟩
def aGb(K:zAA):R2:=λ x y H Q=>aDN K x y H Q\/∃a xs,x= .ref a/\SqT K H a xs/\xs≠[]/\((y= .int 0/\New H (.tup []) Q)\/(y= .int 1/\Q (.ref a) H))
def aFV:OpR X (zB9 .Mult) (aGb X.K):=by
 intro hV s σ H x y v u Q I rx ry h;rcases h with h|⟨a,xs,rfl,ha,hne,h⟩
 .exact aFW hV s σ H x y v u Q I rx ry h
 .cases rx
  obtain⟨its,r,p1,_⟩:=I.tuple ha;obtain⟨⟨cls,dd,data,sl⟩,ho,hc,n,hd⟩:=id p1;simp only at hc hd;subst hc hd;have he:its.isEmpty=false:=by
   cases its with
   |nil=>exact absurd (r.nil_iff.mp rfl) hne
   |cons _ _=>rfl
  rcases h with ⟨rfl,q⟩|⟨rfl,q⟩
  .obtain⟨t,rfl⟩:=ry
   refine zCW (T:="tuple") (U:="int") (by decide) ⟨_,ho,rfl⟩ (λ s'=>zCj s' 0 t) wH zDh zBm tB zDW.lookup
    (zBr zBm (zCj s 0 t) zDV (zDM _ _) (tD 0 t a its.toArray n dd sl)
     ⟨ho,rfl,⟨_,ho,rfl⟩,zBr zCo ⟨_,ho,rfl⟩ zE0 (zEQ _ _) (aBt t a its n dd sl he) ⟨ho,?_⟩⟩)
   refine⟨.ref s.heap.objs.size,_,I.laid (t':=s.toks) (o:=.tup []) (λ b ob q=>zAG _ q) (zAU _) ?_,rfl,q.at (I.hok.fresh (zAU _))⟩;exact⟨⟨by simp,NoD.push _⟩,_,.nil,zE2 _ _⟩
  .obtain⟨t,rfl⟩:=ry
   refine zCW (T:="tuple") (U:="int") (by decide) ⟨_,ho,rfl⟩ (λ s'=>zCj s' 1 t) wH zDh zBm tB zDW.lookup
    (zBr zBm (zCj s 1 t) zDV (zDM _ _) (tD 1 t a its.toArray n dd sl)
     ⟨ho,rfl,⟨_,ho,rfl⟩,zBr zCo ⟨_,ho,rfl⟩ zE0 (zEQ _ _) (aBs t a its n dd sl) ⟨ho,?_⟩⟩)
   exact⟨.ref a,H,I,rfl,q⟩
def aAa:D->D->Rs D
 | .tup l,.int k=>if k=0/\l.isEmpty=false then .ok (.tup [])else if k=1/\l.isEmpty=false then .ok (.tup l)else aF9 (.tup l) (.int k)
 |_,_=>.st
def aFS{K:zAA}:OpS K (aGb K) aAa:=by
 intro A x y d e H Q z rx ry ez q;unfold aAa at ez;split at ez
 .split at ez
  .rename_i hc
   obtain⟨rfl,c⟩:=hc;cases ez;cases ry;cases rx with
   |tup h r=>
    refine .inr ⟨_,_,rfl,h,λ e=>?_,.inl ⟨rfl,λ p H' s hp hn=>q _ H' s (.tup (SqT.of hp) .nil)⟩⟩;subst e;cases r;cases c
  .split at ez
   .rename_i hc
    obtain⟨rfl,c⟩:=hc;cases ez;cases ry;have rx':=rx;cases rx with
    |tup h r=>
     refine .inr ⟨_,_,rfl,h,λ e=>?_,.inr ⟨rfl,q _ H (aU.refl H) (rx'.wk λ _ _ _ z=>.inr z)⟩⟩;subst e;cases r;cases c
   .exact .inl (aFT _ _ _ _ _ _ _ _ rx ry ez q)
 .cases ez
section
variable{C:Ct}{pos:Pos}{a b:Expr}{fa fb:En->Rs D}{m1 m2:Mode}
def aEq(ha:SE C m1 a fa)(hb:SE C m2 b fb):SE C (jn m1 m2) (.BinOp a .Mult b pos) (op2 aAa fa fb):=tU (λ i=>by rw[<-C.hK i];exact aFV) aFS ha hb
end
def aCb{M:Model}{A:zAc}{E:Value->zAE->Prop}{s:zAE}{a b:Value}{Q:Value->zAE->Prop}(ha:s.TypeIs a "list")(hb:s.TypeIs b "list")(h:wpAny M A (call (.builtin "list.__iadd__") [a,b]) Q E s):wpAny M A (zGd .Add a b) Q E s:=by
 have t1:zEK (.type "list") (dunderI zDw.info.snd)=pure (some (.builtin "list.__iadd__")):=zFx.lookup;have t2:seqSlot? (.type "list") (dunderI zDw.info.snd)=pure (some (.builtin "list.__iadd__")):=by rfl
 have f1:fillsNumberSlot (.type "list") zDw.info.snd=pure false:=by rfl
 unfold zGd;refine zDc ?_;wp_walk using(wpAny_binaryOp1_none (nm:=zDw.info.snd) ha hb f1),h
def ipL:TIp:=λ x y H Q=>∃l b xs zs,x= .ref l/\y= .ref b/\H l=some (.lst xs)/\H b=some (.lst zs)/\xs.length+zs.length<=zAQ/\∀H',jd l H H'->H' l=some (.lst (xs++zs))->Q (.ref l) H'
def aFr{X:Cx}:PIp X .Add ipL:=by
 intro hV s σ H x y v u Q I rx ry h;obtain⟨l,b,xs,zs,rfl,rfl,hH,hB,hz,q⟩:=h;cases rx;cases ry;obtain⟨z,its,n,r,hl,e⟩:=I.lstM hH;obtain⟨z2,its2,n2,r2,hl2,e2⟩:=I.lstM hB;have hsz:its.toArray.size+its2.toArray.size<=zAQ:=by rw[zAH,zAH];lia
 have kK:¬(!its.toArray.isEmpty&&zBC (its.toArray.size+its2.toArray.size))=true:=by
  rw[pG hsz,zCO];exact zA3
 refine aCb ⟨_,e,rfl⟩ ⟨_,e2,rfl⟩ (zBr zFx ⟨_,e,rfl⟩ zFm (F.args_list_iadd_2 _ _)
  (AutoSeq1.list___iadd___list_list_0 l its.toArray n b its2.toArray n2 kK (by rw[zAH];lia) (by lia)) ⟨e,e2,?_⟩)
 refine⟨.ref l,_,I.lset (its':=its++its2) hH e (by simp) (r.append r2) ?_,rfl,q _ (λ b o ne hb=>by rw[bK ne];exact hb) aq⟩;rw[zAW];lia
def aGQ(i:Nat)(fe:En->Rs D):En->Ou:=λ ρ=>match ρ[i]? with
 |some (.ow (.lst ds))=>(fe ρ).bo λ d=>match d with
  | .lst es=>if ds.length+es.length<=zAQ/\dU es=true then .nx (ρ.set i (.ow (.lst (ds++es))))else .st
  |_=>.st
 |_=>.st
section
variable{C:Ct}{pos p:Pos}{i:Nat}{x:Str}{e:Expr}{m:Mode}{fe:En->Rs D}
def aEg(i:Nat)(he:SE C m e fe)(hN:∀j,(C.X j).N[i]? =some x:=by intro _;rfl)(hx:∀j,Loc (C.X j).env.scope x:=by intro _;first|exact zB6 rfl|exact zBH rfl)(hf:∀j,(C.X j).fn x=true\/(C.X j).env.scope.names.lookup x=some .local:=by intro _;first|exact .inl rfl|exact .inr rfl)
  (hnd:∀j,(C.X j).N.Nodup:=by intro _;assumption):SS C (.AugAssign (.Name x p) .Add e pos) (aGQ i fe):=by
 obtain⟨t,h1,h2⟩:=he;refine⟨aIg i t ipL,λ j=>aDV (hnd j) (hN j) (hx j) (h1 j) aFr (hf j),λ U σ H ρ lab De R W=>?_⟩;unfold aGQ at W;split at W
 .rename_i ds e1
  rcases R.sl i _ e1 with z|⟨v,ev,hv1,htop⟩
  .cases z
  obtain⟨a0,ea0,la0⟩:=htop rfl;subst ea0;refine⟨.ref a0,ev,h2 U σ H ρ lab _ R (W.bo.imp λ d _ w y H2 s2 r2=>?_)⟩;split at w
  .rename_i es
   split at w
   .rename_i hz
    obtain⟨a1,xs,ea1,h,mm,r⟩:=hv1.lst_inv;cases ea1;obtain⟨b,zs,eb,hb,mb,rb⟩:=r2.lst_inv;subst eb;refine⟨a0,b,xs,zs,rfl,rfl,s2 _ _ h,hb,by rw[r.length,rb.length];exact hz.1,λ H3 B h3=>?_⟩;have eσ:σ.set i (some (.ref a0))=σ:=by
     refine List.ext_getElem? λ j=>?_
     by_cases q:i=j
     .subst q
      rw[zBD (zAL.mp ev).1,ev]
     .rw[zAt q]
    show De.nx (σ.set i (some (.ref a0))) H3;rw[eσ];have R2:=R.up s2;refine w σ H3 lab (R2.mut ev (s2 _ _ h) rfl la0 B ⟨.lst h3 (.inr la0) ?_,λ _=>⟨a0,rfl,la0⟩⟩);exact((r.up s2).append (rb.imm hz.2)).but B (s2 _ _ h) rfl λ z=>z.2 rfl
   .exact zAK w
  .exact zAK w
 .exact zAK W
end
theorem intsAre_of:∀{vs:List Value} {ns:List Int},vs.length=ns.length->(∀(i:Nat) v,vs[i]? =some v->∃t,v= .int (ns.getD i 0) t)->zBE vs ns
 |[],[],_,_=>.nil
 |[],_::_,h,_=>by cases h
 |_::_,[],h,_=>by cases h
 |v::vs,n::ns,h,hv=>by
  obtain⟨t,e⟩:=hv 0 v rfl;have e2:v= .int n t:=e;subst e2;exact .cons _ _ (intsAre_of (by simpa using h) λ i v e=>by
   obtain⟨t,e⟩:=hv (i+1) v (by simpa using e);exact⟨t,by simpa using e⟩)
section
variable{ρ:En}{i:Nat}{f g:En->Rs D}{fb gb:En->Rs Bool}{ga:En->Rs (List D)}{u v:En->Ou}{d:D}
@[simp] def varD_ap:fO i ρ=match ρ[i]? with
 |some (.sh d)=>.ok d
 |some (.nw d)=>.ok d
 |some (.ow d)=>.ok d
 |some (.oz d)=>.ok d
 |some (.o2 l)=>.ok (.lst (l.map .lst))
 |_=>.st:=aN rfl
@[simp] def aBD:aD i ρ=match ρ[i]? with
 |some (.sh d)=>.ok d
 |some (.nw d)=>.ok d
 |_=>.st:=aN rfl
@[simp] def varN_ap:qC i ρ=match ρ[i]? with
 |some (.nw d)=>.ok d
 |_=>.st:=aN rfl
@[simp] def varO_ap:su i ρ=match ρ[i]? with
 |some (.ow d)=>.ok d
 |some (.o2 l)=>.ok (.lst (l.map .lst))
 |_=>.st:=aN rfl
@[simp] def aJU:cD d ρ= .ok d:=aN rfl
@[simp] def xP:aH ρ= .ok []:=aN rfl
@[simp] def cY:aC f ga ρ=(f ρ).bd λ d=>(ga ρ).bd λ ds=>.ok (d::ds):=aN rfl
@[simp] def szl:zAQ=16777216:=zBz
@[simp] def tupD_ap:dG ga ρ=(ga ρ).bd λ ds=>if ds.length<=16777216 then .ok (.tup ds)else .st:=by unfold dG;rw[szl]
@[simp] def lstD_ap:dh ga ρ=(ga ρ).bd λ ds=>if ds.length<=16777216 then .ok (.lst ds)else .st:=by unfold dh;rw[szl]
@[simp] def qN:okD (.ok d)= .ok d:=aN rfl
@[simp] def lH:op2 fd f g ρ=(f ρ).bd λ x=>(g ρ).bd λ y=>okD (fd x y):=aN rfl
@[simp] def op1_ap:op1 fd f ρ=(f ρ).bd λ x=>okD (fd x):=aN rfl
@[simp] def lG:opA fd ga ρ=(ga ρ).bd λ x=>okD (fd x):=aN rfl
@[simp] def mG:aP F ga ρ=(ga ρ).bd F:=aN rfl
def aJV(d:D)(r:Rs D):Rs D:=match d with
 | .bl true=>r
 | .bl false=>.ok (.bl false)
 |_=>.st
def orR(d:D)(r:Rs D):Rs D:=match d with
 | .bl false=>r
 | .bl true=>.ok (.bl true)
 |_=>.st
@[simp] def aBp:aJV (.bl b) r=if b=true then r else .ok (.bl false):=by cases b<;>rfl
@[simp] def orR_bl:orR (.bl b) r=if b=true then .ok (.bl true)else r:=by cases b<;>rfl
@[simp] def yH:vQ f g ρ=(f ρ).bd λ d=>aJV d (g ρ):=aN rfl
@[simp] def orD_ap:orD f g ρ=(f ρ).bd λ d=>orR d (g ρ):=aN rfl
@[simp] def notD_bl:aHx (.bl b)= .ok (.bl (!b)):=aN rfl
@[simp] def ifD_ap:ifD fb f g ρ=(fb ρ).bd λ k=>if k=true then f ρ else g ρ:=aN rfl
def chR(d:D)(r:Rs D):Rs D:=match d with
 | .bl true=>r
 | .bl false=>.ok (.bl false)
 |_=>.st
@[simp] def chR_bl:chR (.bl b) r=if b=true then r else .ok (.bl false):=by cases b<;>rfl
@[simp] def chD_ap:chD fd fd' f g h ρ=(f ρ).bd λ x=>(g ρ).bd λ y=>(okD (fd x y)).bd λ z=>chR z ((h ρ).bd λ w=>okD (fd' y w)):=aN rfl
@[simp] def truD_bl:aHA (.bl b)= .ok b:=aN rfl
@[simp] def blD_bl:blD (.bl b)= .ok b:=aN rfl
@[simp] def tst_ap:tst f ρ=(f ρ).bd aHA:=aN rfl
@[simp] def aAH:tsb f ρ=(f ρ).bd blD:=aN rfl
@[simp] def aGT:zx fb gb ρ=(fb ρ).bd λ k=>if k=true then gb ρ else .ok false:=aN rfl
@[simp] def aHh:orT fb gb ρ=(fb ρ).bd λ k=>if k=true then .ok true else gb ρ:=aN rfl
@[simp] def notT_ap:oA fb ρ=(fb ρ).bd λ k=>.ok (!k):=aN rfl
@[simp] def aM:aY u v ρ=(u ρ).sq v:=aN rfl
@[simp] def mO:retS f ρ=(f ρ).bo .rt:=aN rfl
@[simp] def dropS_ap:ul f ρ=(f ρ).bo λ _=>.nx ρ:=aN rfl
@[simp] def fX:ifS fb u v ρ=(fb ρ).bo λ k=>if k=true then u ρ else v ρ:=aN rfl
@[simp] def sI:cX i f ρ=(f ρ).bo λ d=>.nx (ρ.set i (.sh d)):=aN rfl
@[simp] def aEo:vB i f ρ=(f ρ).bo λ d=>.nx (ρ.set i (.nw d)):=aN rfl
@[simp] def setO_ap:fM i f ρ=(f ρ).bo λ d=>.nx (ρ.set i (.ow d)):=aN rfl
@[simp] def qR:gnm i d ρ= .ok (ρ.set i (.sh d)):=aN rfl
@[simp] def gnil_nil:gq [] ρ= .ok ρ:=aN rfl
@[simp] def gcons_cons:au a b (d::ds) ρ=(a d ρ).bd (b ds):=aN rfl
@[simp] def gtup_tup:gf n b (.tup ds) ρ=if ds.length=n then b ds ρ else .st:=aN rfl
def nxO(r:Rs En):Ou:=match r with
 | .ok ρ=>.nx ρ
 |_=>.st
@[simp] def nxO_ok:nxO (.ok ρ)= .nx ρ:=aN rfl
@[simp] def aGR:zr f a ρ=(f ρ).bo λ d=>nxO (a d ρ):=aN rfl
@[simp] def itD_tup:itD (.tup l)= .ok l:=aN rfl
@[simp] def itD_lst:itD (.lst l)= .ok l:=aN rfl
@[simp] def aFo:cT f ρ=(f ρ).bd itD:=aN rfl
@[simp] def dD:gM ga a u ρ=(ga ρ).bo λ ds=>forL a u ds ρ:=aN rfl
@[simp] def forL_nil:forL a u [] ρ= .nx ρ:=aN rfl
noncomputable def Ou.tn(o:Ou)(k:En->Ou):Ou:=match o with
 | .nx ρ2=>k ρ2
 | .ct ρ2=>k ρ2
 | .bk ρ2=>.nx ρ2
 |o=>o
@[simp] def oX:(Ou.nx ρ).tn k=k ρ:=aN rfl
@[simp] def tn_rt:(Ou.rt d).tn k= .rt d:=aN rfl
def okE(r:Rs En)(k:En->Ou):Ou:=match r with
 | .ok ρ=>k ρ
 |_=>.st
@[simp] def lK:okE (.ok ρ) k=k ρ:=aN rfl
def dW:forL a u (d::ds) ρ=okE (a d ρ) λ ρ1=>(u ρ1).tn (forL a u ds):=by
 unfold forL;cases a d ρ with
 |ok ρ1=>simp only[lK];cases u ρ1<;>rfl
 |ex c=>rfl
 |st=>rfl
@[simp] def oNone_ap:aDd ρ= .ok none:=aN rfl
@[simp] def oSome_ap:aDc f ρ=(f ρ).bd λ d=>match d with
 | .int i=>.ok (some i)
 |_=>.st:=aN rfl
@[simp] def sliceD_ap:aAP f a b ρ=(f ρ).bd λ d=>(a ρ).bd λ l=>(b ρ).bd λ h=>okD (slD d l h):=aN rfl
@[simp] def slD_lst:slD (.lst l) a b= .ok (.lst (cutD l a b)):=aN rfl
@[simp] def aBj:bA f ρ=(f ρ).bd pK:=aN rfl
@[simp] def rngA_ap:iU r ga ρ=(ga ρ).bd r:=aN rfl
@[simp] def raiseS_ap:qL x ga ρ=(ga ρ).bo λ ds=>if ds.length<=16777216 then .ex x else .st:=by unfold qL;rw[szl]
@[simp] def yesT_ap:jP ρ= .ok true:=aN rfl
end
section
variable{d e:D}{i j:Int}{l m:List D}
def xf(h:imm d=true):pK d= .ok d:=by unfold pK;rw[if_pos h]
@[simp] def gImm_int:pK (.int i)= .ok (.int i):=aN rfl
@[simp] def addD_int:cM (.int i) (.int j)= .ok (.int (i+j)):=aN rfl
@[simp] def aAA:cM (.tup l) (.tup m)=if l.length+m.length<=16777216 then .ok (.tup (l++m))else .st:=by unfold cM;rw[szl]
@[simp] def subD_int:wL (.int i) (.int j)= .ok (.int (i-j)):=aN rfl
def mZ(h0:0<j)(h1:j<1073741824):jG (.int i) (.int j)= .ok (.int (i / j)):=by unfold jG i2;dsimp only;rw[if_pos (by simp[h0,h1])]
def lN(h0:0<j):qO (.int i) (.int j)= .ok (.int (i%j)):=by unfold qO i2;dsimp only;rw[if_pos (by simp[h0])]
def aAb(h0: -(2^64)<i)(h1:i<2^64):lM (.int i) (.int j)= .ok (.int (i*j)):=by unfold lM;dsimp only;rw[if_pos (by simp only[zCX,zAN,decide_eq_true_eq];exact .inl ⟨h0,h1⟩)]
def aDh(h0: -(2^64)<j)(h1:j<2^64):lM (.int i) (.int j)= .ok (.int (i*j)):=by unfold lM;dsimp only;rw[if_pos (by simp only[zCX,zAN,decide_eq_true_eq];exact .inr ⟨h0,h1⟩)]
@[simp] def aFg:ltD (.int i) (.int j)= .ok (.bl (decide (i<j))):=aN rfl
@[simp] def leD_int:leD (.int i) (.int j)= .ok (.bl (decide (i<=j))):=aN rfl
@[simp] def gtD_int:gtD (.int i) (.int j)= .ok (.bl (decide (j<i))):=aN rfl
@[simp] def geD_int:geD (.int i) (.int j)= .ok (.bl (decide (j<=i))):=aN rfl
def aFf(ns ms:List Int):ltD (.tup (ns.map .int)) (.tup (ms.map .int))= .ok (.bl (HT.lexLt ns ms)):=by
 unfold ltD ltT i2;simp only[fW]
@[simp] def aDn:g8 [.tup l]= .ok (.int l.length):=aN rfl
@[simp] def lenD_lst:g8 [.lst l]= .ok (.int l.length):=aN rfl
@[simp] def lenD_scr:g8 [.scr x]= .ok (.int x.length):=aN rfl
@[simp] def tupleD_lst:gW [.lst l]= .ok (.tup l):=aN rfl
@[simp] def mmD_int:mmD f [.int i,.int j]= .ok (.int (f i j)):=aN rfl
@[simp] def aFm:ixD (.tup l) (.int i)=atD l i:=aN rfl
@[simp] def aFn:ixD (.lst l) (.int i)=atD l i:=aN rfl
@[simp] def ixD_scr:ixD (.scr x) (.int i)=atD (x.map .int) i:=aN rfl
def dq{k:Nat}(h:l[k]? =some d):atD l (k:Int)= .ok d:=by
 have hk:=(zAL.mp h).1;unfold atD atI ixN;rw[if_pos (by omega),if_pos (by omega)];simp[h]
def aEZ(h0:0<=i)(h1:i<l.length):∃d,atD l i= .ok d/\d∈l/\l[i.toNat]? =some d:=by
 have hk:i.toNat<l.length:=by omega
 have e:=zAC hk;refine⟨_,?_,zCQ hk,e⟩
 have:=dq e
 rwa [zB0 h0]at this
@[simp] def atD_0{r:List D}:atD (d::r) 0= .ok d:=dq (k:=0) rfl
@[simp] def atD_1{r:List D}:atD (d::e::r) 1= .ok e:=dq (k:=1) rfl
@[simp] def eqR_int:eqR n (.int i) (.int j)= .ok (.bl (if n then !(i==j)else i==j)):=aN rfl
def knd:D->Bool
 | .set _=>false
 | .scr _=>false
 | .fn _=>false
 |_=>true
def xV(hT:T∈["bool","int","str","list","tuple","dict"])(h:knd d=true):mz T d= .ok (.bl (aFq (tyD d) T)):=by
 have ht:tyD d∈["NoneType","bool","int","str","list","tuple","dict"]:=by cases d<;>simp_all [tyD,knd]
 unfold mz nF;cases e:aFq (tyD d) T<;>simp[ht,hT]
def aIL:D->Bool
 | .int _=>true
 | .bl _=>true
 |_=>false
def aJO:D->Bool
 | .bl _=>true
 |_=>false
def oH:D->Bool
 | .tup _=>true
 |_=>false
def aFp(h:knd d=true):mz "int" d= .ok (.bl (aIL d)):=by
 rw[xV (by simp) h];cases d<;>first|rfl|(simp[knd]at h)
def zN(h:knd d=true):mz "bool" d= .ok (.bl (aJO d)):=by
 rw[xV (by simp) h];cases d<;>first|rfl|(simp[knd]at h)
def mV(h:knd d=true):mz "tuple" d= .ok (.bl (oH d)):=by
 rw[xV (by simp) h];cases d<;>first|rfl|(simp[knd]at h)
@[simp] def isi_tuple_tup:mz "tuple" (.tup l)= .ok (.bl true):=mV rfl
@[simp] def isi_bool_int:mz "bool" (.int i)= .ok (.bl false):=zN rfl
end
@[simp] def bD:dM n u ds=match u (aj n ds)with
 | .nx _=>.ok .non
 | .rt d=>.ok d
 | .ex c=>.ex c
 |_=>.st:=aN rfl
def gn(h0: -(2^62)<=j)(h1:j<2^62):jN [.int j]= .ok (bC 0 j):=by unfold jN;dsimp only;rw[if_pos ⟨h0,h1⟩]
def aBW(h0: -(2^62)<=i)(h1:i<2^62)(h2: -(2^62)<=j)(h3:j<2^62):aAY [.int i,.int j]= .ok (bC i j):=by unfold aAY;dsimp only;rw[if_pos ⟨⟨h0,h1⟩,h2,h3⟩]
def zH{lo hi:Int}:d∈bC lo hi↔∃k:Int,d= .int k/\lo<=k/\k<hi:=by
 unfold bC;rw[zAS];constructor
 .rintro⟨n,hn,rfl⟩
  have:=zC5.mp hn
  exact⟨lo+n,rfl,by omega,by omega⟩
 .rintro⟨k,rfl,h1,h2⟩
  exact⟨(k-lo).toNat,zC5.mpr (by omega),by congr 1;omega⟩
def iZ(I:Nat->En->Prop)(hs:∀(i:Nat) d ρ,ds[i]? =some d->I i ρ->∃ρ2,okE (a d ρ) (λ ρ1=>u ρ1)= .nx ρ2/\I (i+1) ρ2)(h0:I 0 ρ):∃ρ',forL a u ds ρ= .nx ρ'/\I ds.length ρ':=by
 have go:∀(n:Nat) (ρ:En),n<=ds.length->I (ds.length-n) ρ->∃ρ',forL a u (ds.drop (ds.length-n)) ρ= .nx ρ'/\I ds.length ρ':=by
  intro n;induction n with
  |zero=>intro ρ _ h;exact⟨ρ,by rw[zEW,zDN];rfl,h⟩
  |succ n ih=>
   intro ρ hn h;have hlt:ds.length-(n+1)<ds.length:=by omega
   rw[zBc hlt,dW];obtain⟨ρ2,e,h2⟩:=hs _ _ ρ (zAC hlt) h;rw[show ds.length-(n+1)+1=ds.length-n by omega]at h2 ⊢;cases ea:a ds[ds.length-(n+1)] ρ with
   |ok ρ1=>
    rw[ea]at e;simp only[lK]at e ⊢;rw[e,oX];exact ih ρ2 (by omega) h2
   |ex c=>rw[ea]at e;cases e
   |st=>rw[ea]at e;cases e
 have:=go ds.length ρ (zAU _) (by rw[Nat.sub_self];exact h0)
 rwa [Nat.sub_self,zDj]at this
end VL
namespace VL.My
open PySem L2
def fu:En->Ou:=
  (retS (vQ (op1 (mz "int") (aD 0)) (op1 aHx (op1 (mz "bool") (aD 0)))))
def iw:List D->Rs D:=dM 1 fu
def dI:En->Ou:=
  (aY (gM (iU aAY (aC (cD (.int 1)) (aC (opA g8 (aC (aD 0) aH)) aH))) (gnm 1)
   (ifS (oA (tsb (op2 ltD (op2 ixD (aD 0) (op2 wL (aD 1) (cD (.int 1)))) (op2 ixD (aD 0) (aD 1)))))
    (retS (cD (.bl false)))
    Ou.nx))
  (retS (cD (.bl true))))
def cO:List D->Rs D:=dM 2 dI
def j6:En->Ou:=
  (retS (dG (aC (opA (mmD λ i j=>if j<i then j else i) (aC (aD 0) (aC (aD 1) aH))) (aC (opA (mmD λ i j=>if j>i then j else i) (aC (aD 0) (aC (aD 1) aH))) aH))))
def pY:List D->Rs D:=dM 2 j6
def gD:En->Ou:=
  (aY (zr (aD 0) (gf 2 (au (gnm 1) (au (gnm 2) gq))))
  (aY (llS 3 (iU jN (aC (aD 1) aH)) [none] (gnm 0))
  (aY (gM (cT (aD 2)) (gf 2 (au (gnm 4) (au (gnm 5) gq)))
   (aY (mH 3 (aD 4) (bA (aD 5)))
   (mH 3 (aD 5) (bA (aD 4)))))
  (retS (su 3)))))
def cW:List D->Rs D:=dM 6 gD
def pwI:En->Ou:=ifS (tsb (op2 (inR true) (aD 5) (fO 2))) (gO 2 (bA (aD 5))) Ou.nx
def pwW:En->Ou:=aY (vB 4 (bA (op2 ixD (fO 2) (aD 3)))) (aY (gM (cT (op2 ixD (aD 0) (qC 4))) (gnm 5) pwI) (aGP (i2 (λ _ _=>true) λ a b=>.int (a+b)) 3 (cD (.int 1))))
def pwT:En->Rs Bool:=tsb (op2 ltD (aD 3) (opA g8 (aC (fO 2) aH)))
def eU:En->Ou:=aY (fM 2 (dh (aC (bA (aD 1)) aH))) (aY (cX 3 (cD (.int 0))) (aY (pq pwT pwW) (retS (opA gW (aC (opA jy (aC (fO 2) aH)) aH)))))
def gQ:List D->Rs D:=dM 6 eU
def bx:En->Ou:=
  (aY (ifS (tsb (op2 ltD (aD 1) (opA g8 (aC (aD 0) aH))))
   (retS (bA (op2 ixD (aD 0) (aD 1))))
   Ou.nx)
  (retS (cD (.int 0))))
def cu:List D->Rs D:=dM 2 bx
def dH:En->Ou:=
  (aY (ifS (tsb (op2 geD (aD 0) (op2 aH0 (cD (.int 10)) (cD (.int 18)))))
   (aY (cX 3 (aD 0))
   (aY (gM (iU jN (aC (aD 1) aH)) (gnm 4)
    (aY (ifS (tsb (op2 (eqR false) (aD 3) (cD (.int 0))))
     (retS (cD (.int 0)))
     Ou.nx)
    (cX 3 (op2 jG (aD 3) (aD 2)))))
   (retS (op2 qO (aD 3) (aD 2)))))
   Ou.nx)
  (aY (cX 5 (op2 qO (op2 lM (op2 cM (op2 cM (op2 qO (aD 0) (cD (.int 1000000007))) (op2 lM (cD (.int 1009)) (aD 1))) (cD (.int 17))) (cD (.int 69621))) (cD (.int 2147483647))))
  (aY (cX 5 (op2 qO (op2 cM (op2 cM (op2 lM (aD 5) (aD 5)) (op2 lM (cD (.int 40503)) (aD 1))) (cD (.int 5))) (cD (.int 2147483629))))
  (retS (op2 qO (op2 jG (op2 qO (op2 lM (aD 5) (cD (.int 48271))) (cD (.int 2147483647))) (cD (.int 32))) (aD 2))))))
def aR:List D->Rs D:=dM 6 dH
def roL:En->Rs D:=opA gW (aC (lcD (cT (aD 6)) [none,some 9,some 8] (gnm 0) jP (ifD (tsb (op2 (eqR false) (aD 0) (aD 1))) (bA (aD 2)) (bA (aD 0)))) aH)
def roU:En->Rs D:=opA gW (aC (lcD (iU jN (aC (op2 ixD (aD 0) (cD (.int 0))) aH)) [none,some 7,some 2,some 3] (gnm 0) jP (op2 cM (bA (op2 ixD (aD 1) (aD 0))) (opA lR (aC (orD (op2 (eqR false) (aD 0) (aD 2)) (op2 (eqR false) (aD 0) (aD 3))) aH)))) aH)
def roT:En->Rs Bool:=zx (tsb (op2 ltD (op2 ixD (aD 7) (aD 2)) (cD (.int 2)))) (zx (tsb (op2 ltD (op2 ixD (aD 7) (aD 3)) (cD (.int 2)))) (tsb (op2 (eqR true) (op2 ixD (aD 6) (aD 2)) (op2 ixD (aD 6) (aD 3)))))
def roA:En->Ou:=gO 4 (dG (aC (op2 cM (bA (aD 5)) (dG (aC (dG (aC (bA (aD 2)) (aC (bA (aD 3)) aH))) aH))) (aC (bA (aD 10)) (aC (bA (aD 11)) aH))))
def roB:En->Ou:=ifS roT (aY (cX 8 (opA (mmD λ i j=>if j<i then j else i) (aC (op2 ixD (aD 6) (aD 2)) (aC (op2 ixD (aD 6) (aD 3)) aH)))) (aY (cX 9 (opA (mmD λ i j=>if j>i then j else i) (aC (op2 ixD (aD 6) (aD 2)) (aC (op2 ixD (aD 6) (aD 3)) aH)))) (aY (cX 10 roL) (aY (cX 11 roU) roA)))) Ou.nx
abbrev roG:D->En->Rs En:=gf 3 (au (gnm 5) (au (gnm 6) (au (gnm 7) gq)))
def roO:En->Ou:=aY (fM 4 (dh aH)) (aY (aGE 1 roG roB) (aGH 1 4))
def roR:En->Rs D:=lcD (cT (aD 1)) [none] (gnm 0) jP (bA (op2 ixD (aD 0) (cD (.int 0))))
def fj:En->Ou:=aY (fM 1 (dh (aC (dG (aC (dG aH) (aC (trD (op2 ixD (aD 0) (cD (.int 0)))) (aC (op2 aAa (dG (aC (cD (.int 0)) aH)) (bA (op2 ixD (aD 0) (cD (.int 0))))) aH)))) aH))) (aY (gM (cT (op2 ixD (aD 0) (cD (.int 1)))) (gf 2 (au (gnm 2) (au (gnm 3) gq))) roO) (retS roR))
def iu:List D->Rs D:=dM 12 fj
def iG:En->Ou:=
  (retS (vQ (aP iw (aC (aD 0) aH)) (chD leD leD (cD (.int 0)) (aD 0) (cD (.int 60)))))
def m9:List D->Rs D:=dM 1 iG
def gB:En->Ou:=
  (retS (vQ (aP iw (aC (aD 1) aH)) (chD leD ltD (cD (.int 0)) (aD 1) (aD 0))))
def cV:List D->Rs D:=dM 2 gB
def paF:En->Ou:=aE3 3 (bA (aD 6))
def paB:En->Ou:=ifS (tsb (op2 (inX true) (aD 4) (fO 3))) (aY (cX 5 (aP gQ (aC (aD 0) (aC (aD 4) aH)))) (aY (gO 2 (bA (aD 5))) (gM (cT (aD 5)) (gnm 6) paF))) Ou.nx
def cg:En->Ou:=aY (fM 2 (dh aH)) (aY (fM 3 (cD (.set []))) (aY (gM (cT (aD 1)) (gnm 4) paB) (retS (su 2))))
def cj:List D->Rs D:=dM 7 cg
def huI:En->Ou:=ifS (tsb (op2 (eqR true) (aD 8) (aD 7))) (aY (aE3 2 (bA (aD 8))) (gO 3 (dG (aC (bA (aD 8)) (aC (bA (aD 6)) aH))))) Ou.nx
def huW:En->Ou:=aY (zr (bA (op2 ixD (fO 3) (aD 4))) (gf 2 (au (gnm 6) (au (gnm 7) gq)))) (aY (gM (cT (op2 ixD (aD 1) (aD 6))) (gnm 8) huI) (aGP (i2 (λ _ _=>true) λ a b=>.int (a+b)) 4 (cD (.int 1))))
def huT:En->Rs Bool:=tsb (op2 ltD (aD 4) (opA g8 (aC (fO 3) aH)))
def huB:En->Ou:=aY (ifS (tsb (op2 (inX true) (aD 5) (fO 2))) (gO 3 (dG (aC (bA (aD 5)) (aC (cD .non) aH)))) Ou.nx) (pq huT huW)
def qU:En->Ou:=aY (cX 1 (aP cW (aC (aD 0) aH))) (aY (fM 2 (cD (.set []))) (aY (fM 3 (dh aH)) (aY (cX 4 (cD (.int 0))) (aY (gM (iU jN (aC (op2 ixD (aD 0) (cD (.int 0))) aH)) (gnm 5) huB) (retS (su 3))))))
def uw:List D->Rs D:=dM 9 qU
def fZ:En->Ou:=
  (aY (cX 3 (aP aR (aC (aD 0) (aC (aD 2) (aC (cD (.int 6)) aH)))))
  (aY (fM 4 (dh aH))
  (aY (gM (iU jN (aC (aD 1) aH)) (gnm 5)
   (ifS (orT (tsb (op2 (eqR false) (aD 3) (cD (.int 0)))) (zx (tsb (op2 gtD (aD 3) (cD (.int 1)))) (tsb (op2 (eqR false) (aP aR (aC (aD 0) (aC (op2 cM (op2 cM (aD 2) (cD (.int 1))) (aD 5)) (aC (op2 cM (cD (.int 1)) (aD 3)) aH)))) (cD (.int 0))))))
    (gO 4 (bA (aD 5)))
    Ou.nx))
  (retS (opA gW (aC (su 4) aH))))))
def il:List D->Rs D:=dM 6 fZ
def foB:En->Ou:=aY (vB 7 (op2 ixD (dh (aC (op2 wL (aD 6) (cD (.int 1))) (aC (op2 jG (aD 6) (cD (.int 2))) (aC (op2 jG (aD 6) (cD (.int 4))) (aC (aP aR (aC (aD 0) (aC (op2 cM (cD (.int 300)) (aD 6)) (aC (aD 6) aH)))) aH))))) (aD 3)))
   (aY (ifS (tsb (op2 (eqR false) (aP aR (aC (aD 0) (aC (op2 cM (cD (.int 400)) (aD 6)) (aC (cD (.int 3)) aH)))) (cD (.int 0))))
    (vB 7 (aP aR (aC (aD 0) (aC (op2 cM (cD (.int 500)) (aD 6)) (aC (aD 6) aH)))))
    Ou.nx)
   (ifS (tsb (op2 gtD (aP aR (aC (aD 0) (aC (op2 cM (cD (.int 600)) (aD 6)) (aC (cD (.int 9)) aH)))) (cD (.int 0))))
    (gO 5 (dG (aC (opA (mmD λ i j=>if j<i then j else i) (aC (op2 ixD (qC 4) (qC 7)) (aC (op2 ixD (qC 4) (aD 6)) aH))) (aC (opA (mmD λ i j=>if j>i then j else i) (aC (op2 ixD (qC 4) (qC 7)) (aC (op2 ixD (qC 4) (aD 6)) aH))) aH))))
    Ou.nx))
def foO:En->Rs D:=lcD (cT (opA jy (aC (lcD (iU jN (aC (aD 2) aH)) [none,some 0] (gnm 0) jP (dG (aC (aP aR (aC (aD 1) (aC (op2 cM (cD (.int 200)) (aD 0)) (aC (cD (.int 97)) aH)))) (aC (bA (aD 0)) aH)))) aH))) [none] (gnm 0) jP (bA (op2 ixD (aD 0) (cD (.int 1))))
def dX:En->Ou:=aY (cX 2 (aP aR (aC (aD 0) (aC (cD (.int 0)) (aC (op2 cM (aD 1) (cD (.int 1))) aH))))) (aY (cX 3 (aP aR (aC (aD 0) (aC (cD (.int 1)) (aC (cD (.int 4)) aH))))) (aY (vB 4 foO) (aY (fM 5 (dh aH)) (aY (gM (iU aAY (aC (cD (.int 1)) (aC (aD 2) aH))) (gnm 6) foB) (retS (dG (aC (bA (aD 2)) (aC (opA gW (aC (opA jy (aC (fO 5) aH)) aH)) aH))))))))
def dY:List D->Rs D:=dM 8 dX
def fwE:En->Ou:=aIZ 4 (bA (aD 5))
def fwK:En->Rs D:=lcD (cT (aD 1)) [none,some 4] (gnm 0) (tsb (op2 gtD (opL zc (aD 1) (aD 0)) (cD (.int 1)))) (bA (aD 0))
def fwB:En->Ou:=aY (fM 4 (dh aH)) (aY (gM (cT (aD 3)) (gnm 5) fwE) (ifS (tsb (op2 (eqR false) fwK (dh aH))) (gO 2 (bA (aD 3))) Ou.nx))
def fwM:En->Rs D:=lcD (cT (aD 2)) [none] (gnm 0) jP (opA g8 (aC (aD 0) aH))
def fwR:En->Rs D:=lcD (cT (aD 2)) [none,some 6] (gnm 0) (tsb (op2 (eqR false) (opA g8 (aC (aD 0) aH)) (aD 1))) (bA (aD 0))
def cG:En->Ou:=aY (fM 2 (dh aH)) (aY (gM (cT (aP iu (aC (aD 0) aH))) (gnm 3) fwB) (aY (cX 6 (opA (qj zGg) (aC fwM aH))) (retS fwR)))
def cN:List D->Rs D:=dM 7 cG
def ipE:En->Ou:=ifS (orT (oA (tst (op1 (mz "tuple") (aD 1)))) (tsb (op2 (eqR true) (opA g8 (aC (aD 1) aH)) (cD (.int 2))))) (retS (cD (.bl false))) Ou.nx
def iD:En->Ou:=aY ipE (retS (vQ (aP cV (aC (aD 0) (aC (op2 ixD (aD 1) (cD (.int 0))) aH))) (vQ (aP cV (aC (aD 0) (aC (op2 ixD (aD 1) (cD (.int 1))) aH))) (op2 (eqR true) (op2 ixD (aD 1) (cD (.int 0))) (op2 ixD (aD 1) (cD (.int 1)))))))
def jc:List D->Rs D:=dM 2 iD
def bu:En->Ou:=
  (aY (ifS (oA (tst (op1 (mz "tuple") (aD 1))))
   (retS (cD (.bl false)))
   Ou.nx)
  (aY (gM (cT (aD 1)) (gnm 2)
   (ifS (oA (tst (aP cV (aC (aD 0) (aC (aD 2) aH)))))
    (retS (cD (.bl false)))
    Ou.nx))
  (retS (aP cO (aC (aD 1) aH)))))
def dZ:List D->Rs D:=dM 3 bu
def joA:En->Rs D:=lcD (cT (aAP (op2 ixD (aD 2) (aD 5)) aDd (aDc (aD 7)))) [none,some 5] (gnm 0) jP (aP pY (aC (aD 1) (aC (aD 0) aH)))
def joB:En->Ou:=aY (cX 7 (ifD (tsb (op2 (inR false) (aD 5) (aD 1))) (cD (.int 1)) (cD (.int 2)))) (aY (aGQ 3 joA) (ifS (tsb (op2 geD (opA g8 (aC (op2 ixD (fO 2) (aD 5)) aH)) (aD 7))) (gO 4 (bA (aD 5))) (ifS (tsb (op2 (isD true) (aD 6) (cD .non))) (mH 2 (aD 6) (bA (aD 5))) Ou.nx)))
def eV:En->Ou:=aY (llS 2 (iU jN (aC (op2 ixD (aD 0) (cD (.int 0))) aH)) [none] (gnm 0)) (aY (fM 3 (dh aH)) (aY (fM 4 (dh aH)) (aY (gM (cT (op1 aBX (aP uw (aC (aD 0) aH)))) (gf 2 (au (gnm 5) (au (gnm 6) gq))) joB) (retS (dG (aC (opA gW (aC (opA jy (aC (fO 3) aH)) aH)) (aC (opA gW (aC (opA jy (aC (fO 4) aH)) aH)) aH)))))))
def jH:List D->Rs D:=dM 8 eV
def az:En->Ou:=
  (aY (ifS (oA (tst (op1 (mz "tuple") (aD 1))))
   (retS (cD (.bl false)))
   Ou.nx)
  (aY (gM (cT (aD 1)) (gnm 2)
   (ifS (oA (tst (aP jc (aC (aD 0) (aC (aD 2) aH)))))
    (retS (cD (.bl false)))
    Ou.nx))
  (retS (aP cO (aC (aD 1) aH)))))
def bH:List D->Rs D:=dM 3 az
def cI:En->Ou:=
  (ifS (oA (tst (aP dZ (aC (aD 0) (aC (aD 1) aH)))))
   (qL "NoPlace" (aC (cD (.str "these are no places of the web")) aH))
   Ou.nx)
def fK:List D->Rs D:=dM 2 cI
def gC:En->Ou:=
  (retS (vQ (aP bH (aC (aD 0) (aC (aD 1) aH))) (opA (yI λ bs=>bs.all id) (aC (lcD (cT (aD 1)) [none,none] (gf 2 (au (gnm 0) (au (gnm 1) gq))) jP (op2 ltD (aD 0) (aD 1))) aH))))
def jw:List D->Rs D:=dM 2 gC
def j7:En->Ou:=
  (aY (ifS (orT (oA (tst (op1 (mz "tuple") (aD 0)))) (tsb (op2 (eqR true) (opA g8 (aC (aD 0) aH)) (cD (.int 2)))))
   (retS (cD (.bl false)))
   Ou.nx)
  (retS (vQ (aP m9 (aC (op2 ixD (aD 0) (cD (.int 0))) aH)) (aP jw (aC (op2 ixD (aD 0) (cD (.int 0))) (aC (op2 ixD (aD 0) (cD (.int 1))) aH))))))
def pZ:List D->Rs D:=dM 1 j7
def eY:En->Ou:=
  (ifS (oA (tst (aP pZ (aC (aD 0) aH))))
   (qL "NoWeb" (aC (cD (.str "this is no web")) aH))
   Ou.nx)
def eZ:List D->Rs D:=dM 1 eY
def m8:En->Ou:=
  (aY (ul (aP eZ (aC (aD 0) aH)))
  (retS (aP cj (aC (aP cW (aC (aD 0) aH)) (aC (lrD (op2 ixD (aD 0) (cD (.int 0)))) aH)))))
def sZ:List D->Rs D:=dM 1 m8
def eX:En->Ou:=
  (retS (op2 (eqR false) (opA g8 (aC (aP sZ (aC (aD 0) aH)) aH)) (op2 wL (op2 ixD (aD 0) (cD (.int 0))) (opA g8 (aC (op2 ixD (aD 0) (cD (.int 1))) aH)))))
def gR:List D->Rs D:=dM 1 eX
def cJ:En->Ou:=
  (ifS (oA (tst (aP gR (aC (aD 0) aH))))
   (qL "NoForest" (aC (cD (.str "the web has a ring")) aH))
   Ou.nx)
def fL:List D->Rs D:=dM 1 cJ
def cH:En->Ou:=
  (aY (ul (aP fL (aC (aD 0) aH)))
  (aY (ul (aP fK (aC (op2 ixD (aD 0) (cD (.int 0))) (aC (aD 1) aH))))
  (retS (aP jH (aC (aD 0) (aC (aD 1) aH))))))
def fJ:List D->Rs D:=dM 2 cH
def b8:En->Ou:=
  (aY (zr (aP fJ (aC (aD 0) (aC (aD 1) aH))) (gf 2 (au (gnm 2) (au (gnm 3) gq))))
  (retS (op2 wL (op2 ixD (aD 0) (cD (.int 0))) (opA g8 (aC (aD 2) aH)))))
def bO:List D->Rs D:=dM 4 b8
def lwR:En->Rs (List D):=(iU jN (aC (opA (mmD λ i j=>if j>i then j else i) (aC (cD (.int 1)) (aC (opA (mmD λ i j=>if j<i then j else i) (aC (opA g8 (aC (aD 0) aH)) (aC (cD (.int 6)) aH))) aH))) aH))
def lIt:En->Rs (List D):=(cT (dh (aC (dG aH) (aC (aP il (aC (aD 2) (aC (op2 ixD (aD 3) (cD (.int 0))) (aC (cD (.int 5000)) aH)))) (aC (aP il (aC (aD 2) (aC (op2 ixD (aD 3) (cD (.int 0))) (aC (cD (.int 5100)) aH)))) (aC (trD (op2 ixD (aD 3) (cD (.int 0)))) aH))))))
def lS5:En->Ou:=(cX 5 (op2 wL (op2 ixD (aD 3) (cD (.int 0))) (opA g8 (aC (op2 ixD (aP cN (aC (aD 3) (aC (aD 4) aH))) (cD (.int 0))) aH))))
def lB:En->Ou:=(aY (cX 7 (aP bO (aC (aD 3) (aC (aD 4) aH)))) (ifS (orT (tst (op1 (mz "bool") (aD 7))) (tsb (op2 (eqR true) (aD 7) (aD 5)))) (retS (cD (.bl false))) Ou.nx))
def l4:En->Ou:=aY lS5 (gM (iU jN (aC (cD (.int 2)) aH)) (gnm 6) lB)
def lwK:En->Ou:=aY (cX 2 (aP cu (aC (aD 0) (aC (aD 1) aH)))) (aY (cX 3 (aP dY (aC (aD 2) (aC (cD (.int 9)) aH)))) (gM lIt (gnm 4) l4))
def lwZ:En->Rs D:=(vQ (op2 (eqR false) (aP bO (aC (dG (aC (cD (.int 0)) (aC (dG aH) aH))) (aC (dG aH) aH))) (cD (.int 0))) (op2 (eqR false) (aP bO (aC (dG (aC (cD (.int 4)) (aC (dG (aC (dG (aC (cD (.int 0)) (aC (cD (.int 1)) aH))) (aC (dG (aC (cD (.int 0)) (aC (cD (.int 2)) aH))) (aC (dG (aC (cD (.int 0)) (aC (cD (.int 3)) aH))) aH)))) aH))) (aC (dG aH) aH))) (cD (.int 2))))
def um:En->Ou:=aY (gM lwR (gnm 1) lwK) (retS lwZ)
def aE5:List D->Rs D:=dM 8 um
theorem vq(hb:0<b)(hb2:b<1073741824):∀(ds:List D) (x:Int) (s:Slot),(∀d∈ds,∃n:Int,d= .int n)->
  (∃y s',forL (gnm 4) (aY (ifS (tsb (op2 (eqR false) (aD 3) (cD (.int 0)))) (retS (cD (.int 0))) Ou.nx) (cX 3 (op2 jG (aD 3) (aD 2)))) ds [.sh (.int c),.sh (.int k),.sh (.int b),.sh (.int x),s,.no]= .nx [.sh (.int c),.sh (.int k),.sh (.int b),.sh (.int y),s',.no])\/
  forL (gnm 4) (aY (ifS (tsb (op2 (eqR false) (aD 3) (cD (.int 0)))) (retS (cD (.int 0))) Ou.nx) (cX 3 (op2 jG (aD 3) (aD 2)))) ds [.sh (.int c),.sh (.int k),.sh (.int b),.sh (.int x),s,.no]= .rt (.int 0)
 |[],x,s,_=>.inl ⟨x,s,rfl⟩
 |d::ds,x,s,h=>by
  have ih:=vq hb hb2 (c:=c) (k:=k) ds (x / b) (.sh d) λ e he=>h e (zAF _ he)
  rw[dW];by_cases hx:x=0
  .subst hx
   right;simp
  .simp[hx,mZ hb hb2]
   exact ih
def aGI(hk0:0<=k)(hk1:k<2^40)(hb:0<b)(hb2:b<1073741824):∃r:Int,aR [.int c,.int k,.int b]= .ok (.int r)/\0<=r/\r<b:=by
 have hp:aH0 (.int 10) (.int 18)= .ok (.int 1000000000000000000):=rfl;by_cases hc:(1000000000000000000:Int)<=c
 .have hr:=gn (j:=k) (by lia) (by lia)
  have hl:=vq hb hb2 (c:=c) (k:=k) (bC 0 k) c .no λ d hd=>let⟨n,e,_⟩:=zH.mp hd;⟨n,e⟩
  rcases hl with ⟨y,s',e⟩|e
  .refine⟨y%b,?_,zD8 _ (by lia),zCz _ hb⟩
   simp[aR,dH,aj,hp,hc,hr,e,lN hb]
  .refine⟨0,?_,by lia,hb⟩
   simp[aR,dH,aj,hp,hc,hr,e]
 .have s1:∀z:Int,0<=z%2147483647/\z%2147483647<2147483647:=λ z=>⟨zD8 _ (by decide),zCz _ (by decide)⟩
  have s2:∀z:Int,0<=z%2147483629/\z%2147483629<2147483629:=λ z=>⟨zD8 _ (by decide),zCz _ (by decide)⟩
  have m1:∀z,lM (.int 1009) (.int z)= .ok (.int (1009*z)):=λ z=>aAb (by decide) (by decide)
  have m2:∀z,lM (.int z) (.int 69621)= .ok (.int (z*69621)):=λ z=>aDh (by decide) (by decide)
  have m3:∀z,lM (.int 40503) (.int z)= .ok (.int (40503*z)):=λ z=>aAb (by decide) (by decide)
  have m4:∀z,lM (.int z) (.int 48271)= .ok (.int (z*48271)):=λ z=>aDh (by decide) (by decide)
  have m5:∀z:Int,lM (.int (z%2147483647)) (.int (z%2147483647))= .ok (.int (z%2147483647*(z%2147483647))):=λ z=>aAb (by have:=s1 z;lia) (by have:=s1 z;lia)
  have d1:∀z,qO (.int z) (.int 1000000007)= .ok (.int (z%1000000007)):=λ z=>lN (by decide)
  have d2:∀z,qO (.int z) (.int 2147483647)= .ok (.int (z%2147483647)):=λ z=>lN (by decide)
  have d3:∀z,qO (.int z) (.int 2147483629)= .ok (.int (z%2147483629)):=λ z=>lN (by decide)
  have d4:∀z,jG (.int z) (.int 32)= .ok (.int (z / 32)):=λ z=>mZ (by decide) (by decide)
  have d5:∀z,qO (.int z) (.int b)= .ok (.int (z%b)):=λ z=>lN hb
  simp[aR,dH,aj,hp,hc,m1,m2,m3,m4,m5,d1,d2,d3,d4,d5,-Int.emod_emod_of_dvd];exact⟨zD8 _ (by lia),zCz _ hb⟩
def gr(hk0:0<=k)(hk1:k<2^40)(hb:0<b)(hb2:b<1073741824):∃r:Nat,aR [.int c,.int k,.int b]= .ok (.int r)/\(r:Int)<b:=by
 obtain⟨r,e,h0,h1⟩:=aGI (c:=c) hk0 hk1 hb hb2;exact⟨r.toNat,by rw[zB0 h0];exact e,by lia⟩
def aGN(h:0<=k):∃c:Int,cu [.scr ns,.int k]= .ok (.int c):=by
 by_cases hk:k<ns.length
 .obtain⟨d,e,hm,_⟩:=aEZ (l:=ns.map .int) (i:=k) h (by simpa using hk)
  obtain⟨c,_,rfl⟩:=zAS.mp hm;exact⟨c,by simp[cu,bx,aj,hk,e]⟩
 .exact⟨0,by simp[cu,bx,aj,hk]⟩
mutual
def pln:D->Bool
 | .tup l=>ou l
 | .lst l=>ou l
 | .set _=>false
 | .scr _=>false
 | .fn _=>false
 |_=>true
def ou:List D->Bool
 |[]=>true
 |d::r=>pln d&&ou r
end
def mQ(h:pln d=true):knd d=true:=by cases d<;>first|rfl|(simp[pln]at h)
theorem uD:∀{l:List D} {d:D},ou l=true->d∈l->pln d=true
 |x::r,d,h,hm=>by
  simp only[ou,zAN]at h;rcases zAT.mp hm with rfl|hm
  .exact h.1
  .exact uD h.2 hm
theorem aB4:∀{l:List D},(∀d∈l,pln d=true)->ou l=true
 |[],_=>rfl
 |x::r,h=>by
  simp only[ou,zAN];exact⟨h x (zAJ ..),aB4 λ d hd=>h d (zAF _ hd)⟩
def aAE:D->Bool
 | .int _=>true
 |_=>false
def aB9:D->Bool
 | .int i=>decide (0<=i)&&decide (i<=60)
 |_=>false
def cC(m:Int):D->Bool
 | .int i=>decide (0<=i)&&decide (i<m)
 |_=>false
def qp(h:knd d=true):iw [d]= .ok (.bl (aAE d)):=by
 simp[iw,fu,aj,aFp h,zN h];cases d<;>rfl
def aAr(h:knd d=true):m9 [d]= .ok (.bl (aB9 d)):=by
 simp[m9,iG,aj,qp h];cases d<;>simp[aAE,aB9]
 rename_i i;by_cases h0:0<=i<;>simp[h0]
def lQ(h:knd d=true):cV [.int m,d]= .ok (.bl (cC m d)):=by
 simp[cV,gB,aj,qp h];cases d<;>simp[aAE,cC]
 rename_i i;by_cases h0:0<=i<;>simp[h0]
def iV(m:Int):D->Bool
 | .tup [.int a,.int b]=>decide (0<=a)&&decide (a<m)&&decide (0<=b)&&decide (b<m)&& !(a==b)
 |_=>false
def qM(h:cC m d=true):∃i:Int,d= .int i/\0<=i/\i<m:=by
 cases d with
 |int i=>simp[cC]at h;exact⟨i,rfl,h.1,h.2⟩
 |_=>simp[cC]at h
def aCd(h:oH d=true):∃l,d= .tup l:=by cases d<;>first|exact⟨_,rfl⟩|(cases h)
def aGy(h:l.length=2):∃x y,l=[x,y]:=by
 match l,h with
 |[x,y],_=>exact⟨x,y,rfl⟩
def aD5(h:oH d=false):iV m d=false:=by cases d<;>first|rfl|(cases h)
def aCE(h:l.length≠2):iV m (.tup l)=false:=by
 match l,h with
 |[],_=>rfl
 |[x],_=>cases x<;>rfl
 |[x,y],h=>exact absurd rfl h
 |x::y::z::r,_=>cases x<;>first|rfl|(cases y<;>rfl)
def aFR(h:cC m x=false):iV m (.tup [x,y])=false:=by
 cases x with
 |int i=>
  cases y with
  |int j=>
   show((((decide (0<=i)&&decide (i<m))&&decide (0<=j))&&decide (j<m))&& !(i==j))=false
   rw[show(decide (0<=i)&&decide (i<m))=false from h];rfl
  |_=>rfl
 |_=>rfl
def aFQ(h:cC m y=false):iV m (.tup [.int i,y])=false:=by
 cases y with
 |int j=>
  show((((decide (0<=i)&&decide (i<m))&&decide (0<=j))&&decide (j<m))&& !(i==j))=false
  rw[zDg (decide (0<=i)&&decide (i<m)),show(decide (0<=j)&&decide (j<m))=false from h,zCO];rfl
 |_=>rfl
def aD4(h1:cC m (.int i)=true)(h2:cC m (.int j)=true):iV m (.tup [.int i,.int j])= !(i==j):=by
 show((((decide (0<=i)&&decide (i<m))&&decide (0<=j))&&decide (j<m))&& !(i==j))= !(i==j)
 rw[zDg (decide (0<=i)&&decide (i<m)),show(decide (0<=j)&&decide (j<m))=true from h2,show(decide (0<=i)&&decide (i<m))=true from h1];rfl
def aIM(hk:knd d=true)(h:oH d=false):ipE [s,.sh d]= .rt (.bl false):=by simp[ipE,mV hk,h]
def aFt(h:l.length≠2):ipE [s,.sh (.tup l)]= .rt (.bl false):=by
 have:¬((l.length:Int)=2):=by omega
 simp[ipE,this]
def aFs:ipE [s,.sh (.tup [x,y])]= .nx [s,.sh (.tup [x,y])]:=by simp[ipE]
def aAq(h:pln d=true):jc [.int m,d]= .ok (.bl (iV m d)):=by
 have st:aj 2 [.int m,d]=[.sh (.int m),.sh d]:=rfl;simp only[jc,iD,bD,st];cases ht:oH d with
 |false=>rw[aM,aIM (mQ h) ht,aD5 ht];rfl
 |true=>
  obtain⟨l,rfl⟩:=aCd ht;by_cases hl:l.length=2
  .obtain⟨x,y,rfl⟩:=aGy hl
   simp only[pln,ou,zAN]at h;have hx:=lQ (m:=m) (mQ h.1);have hy:=lQ (m:=m) (mQ h.2.1);have ex:aP cV (aC (aD 0) (aC (op2 ixD (aD 1) (cD (.int 0))) aH)) [.sh (.int m),.sh (.tup [x,y])]= .ok (.bl (cC m x)):=by simp[hx]
   have ey:aP cV (aC (aD 0) (aC (op2 ixD (aD 1) (cD (.int 1))) aH)) [.sh (.int m),.sh (.tup [x,y])]= .ok (.bl (cC m y)):=by simp[hy]
   rw[aM,aFs,aW,mO,yH,ex,cL,aBp,yH,ey,cL,aBp];cases c1:cC m x with
   |false=>rw[aFR c1];rfl
   |true=>
    obtain⟨i,rfl,_,_⟩:=qM c1;cases c2:cC m y with
    |false=>rw[aFQ c2];rfl
    |true=>
     obtain⟨j,rfl,_,_⟩:=qM c2;rw[aD4 c1 c2];rfl
  .rw[aM,aFt hl,aCE hl];rfl
def pD(p:Int×Int):D:=.tup [.int p.1,.int p.2]
def ltP(p q:Int×Int):Bool:=HT.lexLt [p.1,p.2] [q.1,q.2]
def vG:gX->Bool
 |[]=>true
 |[_]=>true
 |p::q::r=>ltP p q&&vG (q::r)
def aIB(p q:Int×Int):ltD (pD p) (pD q)= .ok (.bl (ltP p q)):=aFf [p.1,p.2] [q.1,q.2]
theorem mY:∀(ds:List D) (ok:Nat->Bool) (I:En->Prop) (ρ:En),I ρ->(∀(i:Nat) d ρ,ds[i]? =some d->I ρ->okE (a d ρ) u= .rt r/\ok i=false\/∃ρ',okE (a d ρ) u= .nx ρ'/\I ρ'/\ok i=true)->
  (forL a u ds ρ= .rt r/\∃i,i<ds.length/\ok i=false)\/(∃ρ',forL a u ds ρ= .nx ρ'/\I ρ'/\∀i,i<ds.length->ok i=true)
 |[],ok,I,ρ,h,_=>.inr ⟨ρ,rfl,h,λ i hi=>absurd hi (zEi _)⟩
 |d::ds,ok,I,ρ,h,hs=>by
  rw[dW];rcases hs 0 d ρ rfl h with ⟨e,o⟩|⟨ρ',e,h',o⟩
  .left
   refine⟨?_,0,by simp,o⟩;cases ea:a d ρ with
   |ok ρ1=>rw[ea]at e;simp at e ⊢;rw[e];rfl
   |ex c=>rw[ea]at e;cases e
   |st=>rw[ea]at e;cases e
  .have ih:=mY ds (λ i=>ok (i+1)) I ρ' h' λ i d2 ρ2 e2 h2=>hs (i+1) d2 ρ2 (by simpa using e2) h2
   have e3:okE (a d ρ) (λ ρ1=>(u ρ1).tn (forL a u ds))=forL a u ds ρ':=by
    cases ea:a d ρ with
    |ok ρ1=>rw[ea]at e;simp at e ⊢;rw[e];rfl
    |ex c=>rw[ea]at e;cases e
    |st=>rw[ea]at e;cases e
   rw[e3];rcases ih with ⟨e4,i,hi,o4⟩|⟨ρ4,e4,h4,o4⟩
   .exact .inl ⟨e4,i+1,by simpa using hi,o4⟩
   .refine .inr ⟨ρ4,e4,h4,λ i hi=>?_⟩
    cases i with
    |zero=>exact o
    |succ i=>exact o4 i (by simpa using hi)
def lE{i:Nat}(h:(bC lo hi)[i]? =some d):d= .int (lo+i)/\lo+i<hi:=by
 unfold bC at h;rw[zAV]at h;by_cases hi2:i<(hi-lo).toNat
 .rw[zDr hi2]at h
  cases h;exact⟨rfl,by omega⟩
 .rw[zDZ (by simpa using hi2)]at h
  cases h
def fD:(bC lo hi).length=(hi-lo).toNat:=by unfold bC;simp
section
variable{α:Type}{f:α->D}{lt:α->α->Bool}
def o8(lt:α->α->Bool):List α->Bool
 |[]=>true
 |[_]=>true
 |p::q::r=>lt p q&&o8 lt (q::r)
theorem jW:∀{ps:List α},o8 lt ps=true↔∀(i:Nat) (p q:α),ps[i]? =some p->ps[i+1]? =some q->lt p q=true
 |[]=>by simp[o8]
 |[x]=>by
  simp only[o8,true_iff];intro i p q _ h2;simp at h2
 |x::y::r=>by
  have ih:=jW (ps:=y::r);unfold o8;rw[zAN,ih];constructor
  .rintro⟨h1,h2⟩ i p q e1 e2
   cases i with
   |zero=>simp at e1 e2;subst e1 e2;exact h1
   |succ i=>exact h2 i p q (by simpa using e1) (by simpa using e2)
  .intro h
   exact⟨h 0 x y rfl rfl,λ i p q e1 e2=>h (i+1) p q (by simpa using e1) (by simpa using e2)⟩
def qt(hlt:∀a b,ltD (f a) (f b)= .ok (.bl (lt a b)))(hl:ps.length<=100000):cO [.tup (ps.map f)]= .ok (.bl (o8 lt ps)):=by
 have hr:=aBW (i:=1) (j:=(ps.length:Int)) (by decide) (by decide) (by omega) (by omega);have hW:(bC 1 (ps.length:Int)).length=ps.length-1:=by rw[fD];omega
 have L:=mY (a:=gnm 1) (u:=ifS (oA (tsb (op2 ltD (op2 ixD (aD 0) (op2 wL (aD 1) (cD (.int 1)))) (op2 ixD (aD 0) (aD 1))))) (retS (cD (.bl false))) Ou.nx) (r:=.bl false)
  (bC 1 (ps.length:Int)) (λ i=>match ps[i]?,ps[i+1]? with|some p,some q=>lt p q|_,_=>true) (λ ρ=>∃s,ρ=[.sh (.tup (ps.map f)),s]) [.sh (.tup (ps.map f)),.no] ⟨_,rfl⟩ (by
   rintro i d ρ hd ⟨s,rfl⟩;obtain⟨rfl,h2⟩:=lE hd;have e1:ps[i]? =some ps[i]:=zAC (by omega);have e2:ps[i+1]? =some ps[i+1]:=zAC (by omega);have a1:atD (ps.map f) (1+(i:Int)-1)= .ok (f ps[i]):=by
    rw[show(1+(i:Int)-1)=(i:Int)by omega];exact dq (by rw[zAV,e1];rfl)
   have a2:atD (ps.map f) (1+(i:Int))= .ok (f ps[i+1]):=by
    rw[show(1+(i:Int))=((i+1:Nat):Int)by omega];exact dq (by rw[zAV,e2];rfl)
   simp only[e1,e2];cases c:lt ps[i] ps[i+1]with
   |true=>right;exact⟨_,by simp[a1,a2,hlt,c];rfl,⟨_,rfl⟩,rfl⟩
   |false=>left;exact⟨by simp[a1,a2,hlt,c],rfl⟩)
 have st:aj 2 [.tup (ps.map f)]=[.sh (.tup (ps.map f)),.no]:=rfl;rcases L with ⟨e,i,hi,o⟩|⟨ρ',e,⟨s,rfl⟩,o⟩
 .have:o8 lt ps=false:=by
   cases c:o8 lt ps with
   |false=>rfl
   |true=>
    rw[hW]at hi;have z:=jW.mp c i ps[i] ps[i+1] (zAC (by omega)) (zAC (by omega));rw[zAC (by omega),zAC (by omega)]at o;simp only at o;rw[z]at o;cases o
  rw[this];simp only[cO,dI,bD,st];simp[hr,e]
 .have:o8 lt ps=true:=jW.mpr λ i p q e1 e2=>by
   have h2:=(zAL.mp e2).1
   have:=o i (by rw[hW];omega)
   rw[e1,e2]at this;exact this
  rw[this];simp only[cO,dI,bD,st];simp[hr,e]
end
theorem aAZ:∀ps:gX,vG ps=o8 ltP ps
 |[]=>rfl
 |[_]=>rfl
 |p::q::r=>by unfold vG o8;rw[aAZ (q::r)]
def xW(hl:ps.length<=100000):cO [.tup (ps.map pD)]= .ok (.bl (vG ps)):=by
 rw[aAZ];exact qt aIB hl
def ltI(a b:Int):Bool:=decide (a<b)
def zO(hl:ps.length<=100000):cO [.tup (ps.map .int)]= .ok (.bl (o8 ltI ps)):=qt (λ a b=>by rw[aFg];rfl) hl
def wu:vG ps=true↔∀(i:Nat) (p q:Int×Int),ps[i]? =some p->ps[i+1]? =some q->ltP p q=true:=by rw[aAZ];exact jW
def aFF:D->Int×Int
 | .tup [.int a,.int b]=>(a,b)
 |_=>(0,0)
def aA6(h:iV m d=true):∃a b:Int,d= .tup [.int a,.int b]/\0<=a/\a<m/\0<=b/\b<m/\a≠b:=by
 unfold iV at h;split at h
 .rename_i a b
  simp at h;exact⟨a,b,rfl,h.1.1.1.1,h.1.1.1.2,h.1.1.2,h.1.2,h.2⟩
 .cases h
theorem aGk:∀{ts:List D},ts.all (iV m)=true->(ts.map aFF).map pD=ts
 |[],_=>rfl
 |t::ts,h=>by
  rw[zED,zAN]at h;obtain⟨a,b,rfl,_⟩:=aA6 h.1;simp only[zAP];rw[aGk h.2];rfl
def rpB(m:Int):D->Bool
 | .tup ts=>ts.all (iV m)&&vG (ts.map aFF)
 |_=>false
def aAQ:D->Bool
 | .tup l=>decide (l.length<=100000)
 |_=>true
def nA(h:pln d=true)(hs:aAQ d=true):bH [.int m,d]= .ok (.bl (rpB m d)):=by
 cases d with
 |tup ts=>
  have hp:ou ts=true:=by simpa[pln]using h
  have hl:ts.length<=100000:=by simpa[aAQ]using hs
  have L:=mY (a:=gnm 2) (u:=ifS (oA (tst (aP jc (aC (aD 0) (aC (aD 2) aH))))) (retS (cD (.bl false))) Ou.nx) (r:=.bl false)
   ts (λ i=>match ts[i]? with|some t=>iV m t|none=>true) (λ ρ=>∃s,ρ=[.sh (.int m),.sh (.tup ts),s]) [.sh (.int m),.sh (.tup ts),.no] ⟨_,rfl⟩ (by
    rintro i d ρ hd ⟨s,rfl⟩;have e:=aAq (m:=m) (uD hp (zAa hd));simp only[hd];cases c:iV m d with
    |true=>right;exact⟨_,by simp[e,c];rfl,⟨_,rfl⟩,rfl⟩
    |false=>left;exact⟨by simp[e,c],rfl⟩)
  have st:aj 3 [.int m,.tup ts]=[.sh (.int m),.sh (.tup ts),.no]:=rfl;rcases L with ⟨e,i,hi,o⟩|⟨ρ',e,⟨s,rfl⟩,o⟩
  .have:ts.all (iV m)=false:=by
    rw[zGT];rw[zAC hi]at o;exact⟨ts[i],zCQ hi,by simpa using o⟩
   simp only[bH,az,bD,st];simp[e,rpB,this]
  .have:ts.all (iV m)=true:=by
    rw[zAn];intro t ht;obtain⟨i,hi,rfl⟩:=zBY ht
    have:=o i hi
    rw[zAC hi]at this;exact this
   have er:=xW (ps:=ts.map aFF) (by rw[zAB];exact hl);rw[aGk this]at er;simp only[bH,az,bD,st];simp[e,rpB,this,er]
 |_=>simp[bH,az,aj,mV (mQ h),oH,rpB]
structure Ow(n:Int)(ps:gX):Prop where
 n0:0<=n
 n1:n<=60
 len:ps.length<=3600
 pr:∀p∈ps,0<=p.1/\p.1<n/\0<=p.2/\p.2<n/\p.1≠p.2
 ris:vG ps=true
def owD(n:Int)(ps:gX):D:=.tup [.int n,.tup (ps.map pD)]
def Ow.rp(h:Ow n ps):rpB n (.tup (ps.map pD))=true:=by
 have e:(ps.map pD).map aFF=ps:=by rw[zAs];exact(zBQ λ p _=>rfl).trans (List.map_id ps)
 unfold rpB;dsimp only;rw[e,h.ris,zCl,zAn];intro d hd;obtain⟨p,hp,rfl⟩:=zAS.mp hd;obtain⟨a,b,c,d,e⟩:=h.pr p hp;simp[pD,iV,a,b,c,d,e]
theorem aB3:∀ps:gX,ou (ps.map pD)=true
 |[]=>rfl
 |p::ps=>by simp only[zAP,ou,aB3 ps,zCl];rfl
theorem z6:∀ns:List Int,bW (ns.map .int)=0/\aV (ns.map .int)=true
 |[]=>⟨rfl,rfl⟩
 |n::ns=>by
  obtain⟨h1,h2⟩:=z6 ns;simp[bW,gw,aV,aQ,h1,h2]
def aBe(neg:Bool)(y:Int)(ns:List Int):inR neg (.int y) (.lst (ns.map .int))= .ok (.bl (if neg then !decide (y∈ns)else decide (y∈ns))):=by
 obtain⟨h1,h2⟩:=z6 ns;have e:inD (.int y) (ns.map .int)=decide (y∈ns):=by
  unfold inD;rw[zBK];simp[List.any_eq_true,eqD]
 unfold inR;dsimp only;rw[h1,h2,e];rfl
def yE(f:α->Bool)(l:List α):boolsOf (l.map λ x=>D.bl (f x))=some (l.map f):=by
 have:=rM (l.map f)
 rwa [zAs]at this
def aE2(f:α->Bool)(l:List α):yI (λ bs=>bs.all id) [.lst (l.map λ x=>D.bl (f x))]= .ok (.bl (l.all f)):=by
 unfold yI;dsimp only;rw[yE];dsimp only;rw[zFg];rfl
theorem sV:∀(l:List α),(∀x∈l,∃ρ1,fg (f x) ρ= .ok ρ1/\ft ρ1= .ok (t x)/\fe ρ1= .ok (g x))->lcL ρ fg ft fe (l.map f)= .ok ((l.filter t).map g)
 |[],_=>rfl
 |x::l,h=>by
  obtain⟨ρ1,e1,e2,e3⟩:=h x zAJ;have ih:=sV l λ y hy=>h y (zAF _ hy)
  rw[zAP];unfold lcL;rw[e1,cL,e2,cL,e3,cL,ih,cL,zBF];cases t x<;>rfl
theorem aGp{ρ:En}:∀(ps:gX),lcL [.no,.no] (gf 2 (au (gnm 0) (au (gnm 1) gq))) jP (op2 ltD (aD 0) (aD 1)) (ps.map pD)= .ok (ps.map λ p=>.bl (decide (p.1<p.2)))
 |[]=>rfl
 |p::ps=>by
  unfold lcL;simp[pD,aGp (ρ:=ρ) ps]
def zu{n:Int}(h:Ow n ps)(low:∀p∈ps,p.1<p.2):jw [.int n,.tup (ps.map pD)]= .ok (.bl true):=by
 have hl:=h.len;have e:=nA (m:=n) (d:=.tup (ps.map pD)) (by simpa[pln]using aB3 ps) (by simp[aAQ];lia);rw[h.rp]at e;have el:=aGp (ρ:=[]) ps;have ei:lcD (cT (aD 1)) [none,none] (gf 2 (au (gnm 0) (au (gnm 1) gq))) jP (op2 ltD (aD 0) (aD 1)) [.sh (.int n),.sh (.tup (ps.map pD))]= .ok (.lst (ps.map λ p=>.bl (decide (p.1<p.2)))):=by
  have hi:cT (aD 1) (shE [.sh (.int n),.sh (.tup (ps.map pD))])= .ok (ps.map pD):=by simp[shE,nQ]
  unfold lcD;rw[hi,cL,if_pos (by rw[szl,zAB];lia)]
  show(match lcL [.no,.no] _ jP _ (ps.map pD)with| .ok l=>Rs.ok (D.lst l)|_=>Rs.st)=_
  rw[el]
 have ha:opA (yI λ bs=>bs.all id) (aC (lcD (cT (aD 1)) [none,none] (gf 2 (au (gnm 0) (au (gnm 1) gq))) jP (op2 ltD (aD 0) (aD 1))) aH) [.sh (.int n),.sh (.tup (ps.map pD))]= .ok (.bl true):=by
  rw[lG,cY,ei,cL,xP,cL,cL,aE2,qN];rw[zAn.mpr λ p hp=>decide_eq_true (low p hp)]
 have st:aj 2 [.int n,.tup (ps.map pD)]=[.sh (.int n),.sh (.tup (ps.map pD))]:=rfl;have ec:aP bH (aC (aD 0) (aC (aD 1) aH)) [.sh (.int n),.sh (.tup (ps.map pD))]= .ok (.bl true):=by rw[mG];exact e
 simp only[jw,gC,bD,st];rw[mO,yH,ec,ha];rfl
def aCR(h:Ow n ps)(low:∀p∈ps,p.1<p.2):pZ [owD n ps]= .ok (.bl true):=by
 have e1:=aAr (d:=.int n) rfl;have e2:=zu h low;have e3:aB9 (.int n)=true:=by simp[aB9,h.n0,h.n1]
 rw[e3]at e1;simp[pZ,j7,owD,aj,e1,e2]
def intOf:D->Int
 | .int i=>i
 |_=>0
def jo(h1:fi (shE ρ)= .ok ds)(h2:ds.length<16777216)(h3:lcL (stE js (shE ρ)) fg ft fe ds= .ok out):lcD fi js fg ft fe ρ= .ok (.lst out):=by
 unfold lcD;rw[h1,cL,if_pos (by rw[szl];exact h2),h3]
def oG(l:List α)(h:∀x∈l,∃ρ1,fg (f x) ρ= .ok ρ1/\fe ρ1= .ok (g x)):lcL ρ fg jP fe (l.map f)= .ok (l.map g):=by
 have:=sV (ρ:=ρ) (fg:=fg) (ft:=jP) (fe:=fe) (f:=f) (g:=g) (t:=λ _=>true) l λ x hx=>by
  obtain⟨ρ1,h1,h2⟩:=h x hx;exact⟨ρ1,h1,rfl,h2⟩
 rwa [zDq.mpr λ _ _=>rfl]at this
def aDy(neg:Bool)(y:Int)(ns:List Int):inR neg (.int y) (.tup (ns.map .int))= .ok (.bl (if neg then !decide (y∈ns)else decide (y∈ns))):=aBe neg y ns
def bV(ll:cK)(p:Int×Int):cK:=ll.set p.1.toNat (ll.getD p.1.toNat []++[.int p.2])
theorem qT:∀(ps:gX) (ll:cK),(ps.foldl bV ll).length=ll.length
 |[],_=>rfl
 |p::ps,ll=>by rw[zCq,qT ps];unfold bV;rw[zBL]
def iY(ps:gX)(i:Int):List Int:=(ps.filter λ p=>p.1==i).map (·.2)
theorem vf:∀(ps:gX) (ll:cK) (i:Nat),(∀p∈ps,0<=p.1/\p.1<ll.length)->i<ll.length->(ps.foldl bV ll).getD i []=ll.getD i []++(iY ps i).map .int
 |[],ll,i,_,_=>by simp[iY]
 |p::ps,ll,i,h,hi=>by
  obtain⟨h0,h1⟩:=h p zAJ;rw[zCq,vf ps (bV ll p) i (λ q hq=>by unfold bV;rw[zBL];exact h q (zAF _ hq)) (by unfold bV;rw[zBL];exact hi)];unfold bV iY;by_cases c:p.1=i
  .have hk:p.1.toNat=i:=by lia
   rw[hk,List.filter_cons_of_pos (by simpa using c)];simp[hi]
  .have hk:p.1.toNat≠i:=by lia
   rw[List.filter_cons_of_neg (by simpa using c)];simp[zAt hk]
def xR:b∈iY ps a↔(a,b)∈ps:=by
 unfold iY;simp only[zAS,zA5];constructor
 .rintro⟨p,⟨h1,h2⟩,rfl⟩
  have:p.1=a:=by simpa using h2
  rw[<-this];exact h1
 .intro h
  exact⟨(a,b),⟨h,by simp⟩,rfl⟩
def dbl(ps:gX):gX:=ps.flatMap λ p=>[p,(p.2,p.1)]
def cR:(a,b)∈dbl ps↔(a,b)∈ps\/(b,a)∈ps:=by
 unfold dbl;simp only[zEV,zAT,zDO,or_false];constructor
 .rintro⟨p,hp,h|h⟩
  .rw[h];exact .inl hp
  .cases h;exact .inr hp
 .rintro(h|h)
  .exact⟨_,h,.inl rfl⟩
  .exact⟨_,h,.inr rfl⟩
def z9(p:Int×Int)(ps:gX):dbl (p::ps)=p::(p.2,p.1)::dbl ps:=rfl
def yG(hi:ρ[i]? =some (.o2 ll))(hf:f ρ= .ok (.int a))(hg:g ρ= .ok (.int b))(h0:0<=a)(h1:a<ll.length)(hz:(ll.getD a.toNat []).length<16777216):
  mH i f g ρ= .nx (ρ.set i (.o2 (bV ll (a,b)))):=by
 have hk:a.toNat<ll.length:=by lia
 have ha:at2 ll (.int a)=some (a.toNat,ll.getD a.toNat []):=by
  have hx:ixN ll.length a=some a.toNat:=by
   unfold ixN;rw[if_pos (by lia),if_pos (by lia)]
  simp only[at2,hx,zGI];rw[zAC hk];simp[hk]
 unfold mH;rw[hi];dsimp only;rw[hf,bN,ha];dsimp only;rw[hg,bN,if_pos (by rw[zBz];exact hz)];rfl
def oZ(ll:cK)(p:Int×Int):(bV ll p).length=ll.length:=by unfold bV;rw[zBL]
def aBM(h:∀l∈ll,l.length<=m):∀l∈bV ll p,l.length<=m+1:=by
 intro l hl;unfold bV at hl;rcases List.mem_or_eq_of_mem_set hl with z|z
 .exact Nat.le_succ_of_le (h l z)
 .subst z
  rw[zAW,zAq]
  have:(ll.getD p.1.toNat []).length<=m:=by
   by_cases hk:p.1.toNat<ll.length
   .exact h _ (by simp[hk])
   .simp[zDZ (zDR hk)]
  lia
def aBk{ll:cK}(h:∀l∈ll,l.length<=m)(k:Nat):(ll.getD k []).length<=m:=by
 by_cases hk:k<ll.length
 .exact h _ (by simp[hk])
 .simp[zDZ (zDR hk)]
def atB:En->Ou:=aY (mH 3 (aD 4) (bA (aD 5))) (mH 3 (aD 5) (bA (aD 4)))
theorem vV{w s1 s2:Slot}:∀(ps:gX) (ll:cK) (s4 s5:Slot),(∀p∈ps,0<=p.1/\p.1<ll.length/\0<=p.2/\p.2<ll.length)->(∀l∈ll,l.length+2*ps.length<=10000)->
  ∃s4' s5',forL (gf 2 (au (gnm 4) (au (gnm 5) gq))) atB (ps.map pD) [w,s1,s2,.o2 ll,s4,s5]= .nx [w,s1,s2,.o2 ((dbl ps).foldl bV ll),s4',s5']
 |[],ll,s4,s5,_,_=>⟨s4,s5,rfl⟩
 |p::ps,ll,s4,s5,h,hl=>by
  obtain⟨a0,a1,b0,b1⟩:=h p zAJ;have hb0:∀l∈ll,l.length<=10000-2*(ps.length+1):=λ l hm=>by
   have:=hl l hm
   rw[zA2]at this;lia
  have hb1:=aBM (p:=p) hb0;have hb2:=aBM (p:=(p.2,p.1)) hb1;by_cases hne:ll=[]
  .subst hne
   simp at a1;lia
  have hbig:2*(ps.length+1)<=10000:=by
   obtain⟨l,hm⟩:=List.exists_mem_of_ne_nil ll hne
   have:=hl l hm
   rw[zA2]at this;lia
  obtain⟨s4',s5',e⟩:=vV (w:=w) (s1:=s1) (s2:=s2) ps (bV (bV ll p) (p.2,p.1)) (.sh (.int p.1)) (.sh (.int p.2)) (λ q hq=>by rw[oZ,oZ];exact h q (zAF _ hq)) (λ l hm=>by have:=hb2 l hm;lia);refine⟨s4',s5',?_⟩;rw[zAP,dW,z9,zCq,zCq];have hg:okE (gf 2 (au (gnm 4) (au (gnm 5) gq)) (pD p) [w,s1,s2,.o2 ll,s4,s5]) (λ ρ1=>(atB ρ1).tn (forL (gf 2 (au (gnm 4) (au (gnm 5) gq))) atB (ps.map pD)))=
    (atB [w,s1,s2,.o2 ll,.sh (.int p.1),.sh (.int p.2)]).tn (forL (gf 2 (au (gnm 4) (au (gnm 5) gq))) atB (ps.map pD)):=by
   simp[pD]
  have c1:mH 3 (aD 4) (bA (aD 5)) [w,s1,s2,.o2 ll,.sh (.int p.1),.sh (.int p.2)]= .nx [w,s1,s2,.o2 (bV ll p),.sh (.int p.1),.sh (.int p.2)]:=
   yG (a:=p.1) (b:=p.2) rfl (by simp) (by simp) a0 a1 (by have:=aBk hb0 p.1.toNat;lia)
  have c2:mH 3 (aD 5) (bA (aD 4)) [w,s1,s2,.o2 (bV ll p),.sh (.int p.1),.sh (.int p.2)]= .nx [w,s1,s2,.o2 (bV (bV ll p) (p.2,p.1)),.sh (.int p.1),.sh (.int p.2)]:=
   yG (a:=p.2) (b:=p.1) rfl (by simp) (by simp) b0 (by rw[oZ];exact b1) (by have:=aBk hb1 p.2.toNat;lia)
  have hc:atB [w,s1,s2,.o2 ll,.sh (.int p.1),.sh (.int p.2)]= .nx [w,s1,s2,.o2 (bV (bV ll p) (p.2,p.1)),.sh (.int p.1),.sh (.int p.2)]:=by
   unfold atB;rw[aM,c1,aW,c2]
  rw[hg,hc,oX];exact e
structure aGZ(n:Int)(es:gX)(ll:cK):Prop where
 len:ll.length=n.toNat
 item:∀i:Int,0<=i->i<n->∃ws:List Int,atD (ll.map .lst) i= .ok (.lst (ws.map .int))/\∀b,b∈ws↔(i,b)∈es
def pW(h:Ow n ps):∃ll,cW [owD n ps]= .ok (.lst (ll.map .lst))/\aGZ n (dbl ps) ll/\∀i:Int,0<=i->i<n->atD (ll.map .lst) i= .ok (.lst ((iY (dbl ps) i).map .int)):=by
 have hn0:=h.n0;have hn1:=h.n1;have hr:=gn (j:=n) (by lia) (by lia);have hW:(bC 0 n).length=n.toNat:=by rw[fD];lia
 have hps:=h.len;have hin:∀p∈ps,0<=p.1/\p.1<(zAM n.toNat ([]:List D)).length/\0<=p.2/\p.2<(zAM n.toNat ([]:List D)).length:=λ p hp=>by
  obtain⟨a,b,c,d,_⟩:=h.pr p hp;rw[zCD];lia
 have cE:∀p∈dbl ps,0<=p.1/\p.1<(zAM n.toNat ([]:List D)).length:=λ p hp=>by
  rcases cR.mp (show(p.1,p.2)∈dbl ps from hp)with z|z
  .have:=hin _ z;exact⟨this.1,this.2.1⟩
  .have:=hin _ z;exact⟨this.2.2.1,this.2.2.2⟩
 obtain⟨s4,s5,e⟩:=vV (w:=.sh (owD n ps)) (s1:=.sh (.int n)) (s2:=.sh (.tup (ps.map pD))) ps (zAM n.toNat []) .no .no hin (λ l hl=>by
  rw[(List.mem_replicate.mp hl).2];simp;lia)
 have item:∀i:Int,0<=i->i<n->atD (((dbl ps).foldl bV (zAM n.toNat [])).map .lst) i= .ok (.lst ((iY (dbl ps) i).map .int)):=by
  intro i h0 h1;have hk:i.toNat<(zAM n.toNat ([]:List D)).length:=by rw[zCD];lia
  have hg:=vf (dbl ps) (zAM n.toNat []) i.toNat cE hk;have hk2:i.toNat<((dbl ps).foldl bV (zAM n.toNat [])).length:=by rw[qT];exact hk
  have hi:((i.toNat:Nat):Int)=i:=zB0 h0;rw[hi]at hg;rw[<-hi];refine dq ?_;rw[hi,zAV,zAC hk2]
  have:((dbl ps).foldl bV (zAM n.toNat []))[i.toNat]=(iY (dbl ps) i).map .int:=by
   have e1:((dbl ps).foldl bV (zAM n.toNat [])).getD i.toNat []=((dbl ps).foldl bV (zAM n.toNat []))[i.toNat]:=by simp[hk2]
   rw[<-e1,hg];have e2:(zAM n.toNat ([]:List D)).getD i.toNat []=[]:=by
    rw[zAf,zBq];split<;>rfl
   rw[e2,zD0]
  rw[this];rfl
 refine⟨(dbl ps).foldl bV (zAM n.toNat []),?_,⟨by rw[qT,zCD],λ i h0 h1=>⟨iY (dbl ps) i,item i h0 h1,λ b=>xR⟩⟩,item⟩
 .have hz:n.toNat<16777216:=by lia
  have a0:zr (aD 0) (gf 2 (au (gnm 1) (au (gnm 2) gq))) [.sh (owD n ps),.no,.no,.no,.no,.no]= .nx [.sh (owD n ps),.sh (.int n),.sh (.tup (ps.map pD)),.no,.no,.no]:=by
   simp[owD]
  have a1:llS 3 (iU jN (aC (aD 1) aH)) [none] (gnm 0) [.sh (owD n ps),.sh (.int n),.sh (.tup (ps.map pD)),.no,.no,.no]= .nx [.sh (owD n ps),.sh (.int n),.sh (.tup (ps.map pD)),.o2 (zAM n.toNat []),.no,.no]:=by
   unfold llS;simp[shE,nQ,hr,hW,hz]
  have a2:gM (cT (aD 2)) (gf 2 (au (gnm 4) (au (gnm 5) gq))) atB [.sh (owD n ps),.sh (.int n),.sh (.tup (ps.map pD)),.o2 (zAM n.toNat []),.no,.no]= .nx [.sh (owD n ps),.sh (.int n),.sh (.tup (ps.map pD)),.o2 ((dbl ps).foldl bV (zAM n.toNat [])),s4,s5]:=by
   have hi:cT (aD 2) [.sh (owD n ps),.sh (.int n),.sh (.tup (ps.map pD)),.o2 (zAM n.toNat []),.no,.no]= .ok (ps.map pD):=by simp
   rw[dD,hi,bN];exact e
  have a3:retS (su 3) [.sh (owD n ps),.sh (.int n),.sh (.tup (ps.map pD)),.o2 ((dbl ps).foldl bV (zAM n.toNat [])),s4,s5]= .rt (.lst (((dbl ps).foldl bV (zAM n.toNat [])).map .lst)):=by simp
  have st:aj 6 [owD n ps]=[.sh (owD n ps),.no,.no,.no,.no,.no]:=rfl;have df:gD=aY (zr (aD 0) (gf 2 (au (gnm 1) (au (gnm 2) gq)))) (aY (llS 3 (iU jN (aC (aD 1) aH)) [none] (gnm 0)) (aY (gM (cT (aD 2)) (gf 2 (au (gnm 4) (au (gnm 5) gq))) atB) (retS (su 3)))):=rfl;simp only[cW,df,bD,st];rw[aM,a0,aW,aM,a1,aW,aM,a2,aW,a3]
def zy(h:Ow n ps):∃ll,cW [owD n ps]= .ok (.lst (ll.map .lst))/\aGZ n (dbl ps) ll:=let⟨ll,a,b,_⟩:=pW h;⟨ll,a,b⟩
def aE1(ps:gX):List Int->Bool
 |a::b::r=>decide ((a,b)∈ps)&&aE1 ps (b::r)
 |_=>true
def aJg:D->Bool
 | .tup l=>decide (l.length<4000)
 |_=>true
def cutD_from{l:List D}{k:Nat}(h:k<=l.length):cutD l (some (k:Int)) none=l.drop k:=by
 have e1:HT.sIx l.length 0 (some (k:Int))=k:=by simp[HT.sIx];lia
 have e2:HT.sIx l.length l.length none=l.length:=rfl;unfold cutD;rw[e1,e2,zBP (by rw[zEU];exact zAU _)]
def aGJ{l:List D}{k:Nat}(h:k<=l.length):cutD l none (some (k:Int))=l.take k:=by
 have e1:HT.sIx l.length l.length (some (k:Int))=k:=by simp[HT.sIx];lia
 have e2:HT.sIx l.length 0 none=0:=rfl;unfold cutD;rw[e1,e2,zDj,zEW]
theorem sY{a:D->En->Rs En}{u:En->Ou}{I:En->Prop}:∀(ds:List D) (ρ:En),I ρ->(∀d∈ds,∀ρ,I ρ->∃ρ',okE (a d ρ) u= .nx ρ'/\I ρ')->∃ρ',forL a u ds ρ= .nx ρ'/\I ρ'
 |[],ρ,h,_=>⟨ρ,rfl,h⟩
 |d::ds,ρ,h,H=>by
  rw[dW];have tnE:∀(r':Rs En) (k:En->Ou),okE r' (λ ρ1=>(u ρ1).tn k)=(okE r' u).tn k:=λ r' k=>by cases r'<;>rfl
  rw[tnE];obtain⟨ρ',e,hI⟩:=H d zAJ ρ h;rw[e,oX];exact sY ds ρ' hI λ y hy=>H y (zAF _ hy)
theorem yw:∀ws:List Int,ou (ws.map .int)=true
 |[]=>rfl
 |_::ws=>by simp only[zAP,ou,yw ws,pln];rfl
theorem lU:∀ws:List Int,dU (ws.map .int)=true
 |[]=>rfl
 |_::ws=>by simp only[zAP,dU,lU ws,imm];rfl
theorem jq:∀{l:List D},(∀d∈l,imm d=true)->dU l=true
 |[],_=>rfl
 |x::r,h=>by
  simp only[dU,zAN];exact⟨h x (zAJ ..),jq λ d hd=>h d (zAF _ hd)⟩
theorem z7:∀{l:List D},(∀d∈l,gw d<=k)->bW l<=k
 |[],_=>zAi _
 |x::r,h=>by
  unfold bW;exact Nat.max_le.mpr ⟨h x zAJ,z7 λ d hd=>h d (zAF _ hd)⟩
theorem v8:∀{l:List D},(∀d∈l,aQ d=true)->aV l=true
 |[],_=>rfl
 |x::r,h=>by
  unfold aV;rw[h x zAJ,v8 λ d hd=>h d (zAF _ hd)];rfl
structure El(k:Nat)(d:D):Prop where
 p:pln d=true
 e:gw d<=k
 n:aQ d=true
 i:imm d=true
theorem El.tup(h:∀d∈l,El k d):El (k+1) (.tup l):=⟨by unfold pln;exact aB4 λ d hd=>(h d hd).p,by unfold gw;exact Nat.succ_le_succ (z7 λ d hd=>(h d hd).e),by unfold aQ;exact v8 λ d hd=>(h d hd).n,by unfold imm;exact jq λ d hd=>(h d hd).i⟩
theorem El.int{k:Nat}{i:Int}:El k (.int i):=⟨rfl,zAi _,rfl,rfl⟩
def El.ints{k:Nat}{ws:List Int}:∀d∈ws.map D.int,El k d:=λ d hd=>by obtain⟨w,_,rfl⟩:=zAS.mp hd;exact .int
def El.g(h:El k d):pK d= .ok d:=xf h.i
def aJm(h:l.length+m.length<=16777216):cM (.tup l) (.tup m)= .ok (.tup (l++m)):=by rw[aAA,if_pos h]
structure Fn4(d:D):Prop where
 p:pln d=true
 s:aJg d=true
 e:gw d<=60
 n:aQ d=true
theorem aDv{c:En->Rs Bool}{b:En->Ou}{I:Nat->En->Prop}(st:∀m ρ,I m ρ->c ρ= .ok false\/(c ρ= .ok true/\∃ρ' m',b ρ= .nx ρ'/\m'<m/\I m' ρ')):
  ∀(n m:Nat) (ρ:En),m<n->I m ρ->∃ρ' m',itW c b n ρ= .nx ρ'/\I m' ρ'/\c ρ'= .ok false
 |0,_,_,h,_=>absurd h (zEi _)
 |n+1,m,ρ,h,hI=>by
  rcases st m ρ hI with e|⟨e,ρ',m',e2,hm,hI'⟩
  .exact⟨ρ,m,by unfold itW;rw[e];rfl,hI,e⟩
  .obtain⟨ρ2,m2,e3,r⟩:=aDv st n m' ρ' (by lia) hI'
   refine⟨ρ2,m2,?_,r⟩;unfold itW;rw[e,bN,if_pos rfl,e2];exact e3
def yN{c:En->Rs Bool}{b:En->Ou}(I:Nat->En->Prop)(st:∀m ρ,I m ρ->c ρ= .ok false\/(c ρ= .ok true/\∃ρ' m',b ρ= .nx ρ'/\m'<m/\I m' ρ')){m:Nat}{ρ:En}(hm:m<1000000)(h:I m ρ):
  ∃ρ' m',pq c b ρ= .nx ρ'/\I m' ρ'/\c ρ'= .ok false:=aDv st fuel m ρ hm h
def upI(n:Int):List Int:=(zBB n.toNat).map λ(k:Nat)=>(k:Int)
def wj(n:Int):bC 0 n=(upI n).map .int:=by
 unfold bC upI;rw[zAs,show(n-0).toNat=n.toNat by lia];exact zBQ λ k _=>by simp
def iI(n:Int):(upI n).Nodup:=by
 unfold upI;rw[zAg,zBU];exact List.nodup_range.imp λ h e=>h (by lia)
def bU:x∈upI n↔0<=x/\x<n:=by
 unfold upI;rw[zAS];constructor
 .rintro⟨k,hk,rfl⟩
  have:=zC5.mp hk
  lia
 .rintro⟨h0,h1⟩
  exact⟨x.toNat,zC5.mpr (by lia),by lia⟩
def dF(n:Int):(upI n).length=n.toNat:=by unfold upI;simp
def vY(h:l.length<64):jy [.lst (l.map .int)]= .ok (.lst ((sortI l).map .int)):=by
 cases l with
 |nil=>rfl
 |cons i r=>
  have e:kI ((i::r).map D.int)=none:=rfl;unfold jy;dsimp only;rw[e];dsimp only;rw[fW];dsimp only;rw[if_pos h]
def aJL(hf:f ρ= .ok (.int n))(h0:0<=n)(h1:n<=60):lrD f ρ= .ok (.lst (bC 0 n)):=by
 unfold lrD;rw[hf,cL];unfold lrR;simp;lia
def xq(h:Ow n ps)(low:∀p∈ps,p.1<p.2):eZ [owD n ps]= .ok .non:=by
 have st:aj 1 [owD n ps]=[.sh (owD n ps)]:=rfl;simp only[eZ,eY,bD,st];simp[aCR h low]
inductive Cn(es:gX)(a:Int):Int->Prop where
 |refl:Cn es a a
 |step {b c:Int} (h:Cn es a b) (e:(b,c)∈es):Cn es a c
def Cn.trans(h:Cn es a b)(k:Cn es b c):Cn es a c:=by
 induction k with
 |refl=>exact h
 |step _ e ih=>exact ih.step e
def Sym(es:gX):Prop:=∀a b,(a,b)∈es->(b,a)∈es
def m7(ps:gX):Sym (dbl ps):=λ a b h=>cR.mpr (cR.mp h).symm
def Cn.symm(S:Sym es)(h:Cn es a b):Cn es b a:=by
 induction h with
 |refl=>exact .refl
 |step _ e ih=>exact Cn.trans (.step .refl (S _ _ e)) ih
def Cn.inn(hin:∀x y,(x,y)∈es->0<=y/\y<n)(h:Cn es a b)(ha:0<=a/\a<n):0<=b/\b<n:=by
 induction h with
 |refl=>exact ha
 |step _ e _=>exact hin _ _ e
structure Path(es:gX)(a b:Int)(l:List Int):Prop where
 hd:l.head?=some a
 lt:l.getLast?=some b
 al:aE1 es l=true
def prB(p:Prop):Bool:=@decide p (zEZ p)
def aB2:prB p=true↔p:=@decide_eq_true_iff p (zEZ p)
def bJ(n:Int)(es:gX)(a:Int):List Int:=(upI n).filter λ b=>prB (Cn es a b)
def uK:b∈bJ n es a↔(0<=b/\b<n)/\Cn es a b:=by
 unfold bJ;rw[zA5,bU,aB2]
def bG(es:gX)(a:Int):Bool:=prB (∀b,0<=b->Cn es a b->a<=b)
def cF:bG es a=true↔∀b,0<=b->Cn es a b->a<=b:=aB2
def lF(n:Int)(es:gX):gV:=((upI n).filter (bG es)).map (bJ n es)
def wG(n:Int):(upI n).Pairwise (·< ·):=by
 unfold upI;rw[zBU];exact List.pairwise_lt_range.imp λ h=>by lia
theorem aDJ:∀{l m:List Int},l.Pairwise (·< ·)->m.Pairwise (·< ·)->(∀x,x∈l↔x∈m)->l=m
 |[],[],_,_,_=>rfl
 |[],b::m,_,_,h=>by have:=(h b).mpr zAJ;cases this
 |a::l,[],_,_,h=>by have:=(h a).mp zAJ;cases this
 |a::l,b::m,h1,h2,h=>by
  obtain⟨p1,p2⟩:=zAb.mp h1;obtain⟨q1,q2⟩:=zAb.mp h2;have e:a=b:=by
   rcases zAT.mp ((h a).mp zAJ)with z|z
   .exact z
   .rcases zAT.mp ((h b).mpr zAJ)with y|y
    .exact y.symm
    .have:=q1 a z;have:=p1 b y;lia
  subst e;rw[aDJ p2 q2 λ x=>?_];constructor
  .intro hx
   rcases zAT.mp ((h x).mp (zAF _ hx))with z|z
   .subst z;have:=p1 x hx;lia
   .exact z
  .intro hx
   rcases zAT.mp ((h x).mpr (zAF _ hx))with z|z
   .subst z;have:=q1 x hx;lia
   .exact z
def wQ(nd:l.Nodup):(sortI l).Pairwise (·< ·):=by
 have h1:=qD l;have h2:(sortI l).Nodup:=(sortI_perm l).nodup_iff.mpr nd;rw[zAg]at h2;exact(h1.and h2).imp λ⟨a,b⟩=>by lia
def aAO(nd:l.Nodup)(h:∀x,x∈l↔(0<=x/\x<n)/\Cn es a x):sortI l=bJ n es a:=
 aDJ (wQ nd) ((wG n).filter _) λ x=>by rw[(sortI_perm l).mem_iff,h,uK]
abbrev wE(ll:cK)(a:Int)(part:List Int)(k:Int)(s4 s5:Slot):En:=[.sh (.lst (ll.map .lst)),.sh (.int a),.ow (.lst (part.map .int)),.sh (.int k),s4,s5]
structure Pw(n:Int)(es:gX)(a:Int)(part:List Int):Prop where
 nd:part.Nodup
 cn:∀x∈part,Cn es a x
 inn:∀x∈part,0<=x/\x<n
 st:a∈part
section
variable{n:Int}{es:gX}{ll:cK}{a k:Int}{part:List Int}{s4 s5:Slot}
def Pw.len(P:Pw n es a part):part.length<=n.toNat:=by
 have:=sub_len (l':=upI n) P.nd λ x hx=>bU.mpr (P.inn x hx)
 rwa [dF]at this
theorem uC(hn:n<=60)(hin:∀x y,(x,y)∈es->0<=y/\y<n):∀(us:List Int) (part:List Int) (s5:Slot),(∀u∈us,(p,u)∈es)->p∈part->Pw n es a part->
  ∃part' s5',forL (gnm 5) pwI (us.map .int) (wE ll a part k s4 s5)= .nx (wE ll a part' k s4 s5')/\Pw n es a part'/\(∃m,part'=part++m)/\∀u∈us,u∈part'
 |[],part,s5,_,_,P=>⟨part,s5,rfl,P,⟨[],by simp⟩,λ u hu=>by cases hu⟩
 |u::us,part,s5,h,hp,P=>by
  have hu:=h u zAJ;have hl:=P.len;rw[zAP,dW,qR,lK]
  show∃part' s5',(pwI (wE ll a part k s4 (.sh (.int u)))).tn _=_/\_
  have hi:=aBe true u part;by_cases hm:u∈part
  .have e:pwI (wE ll a part k s4 (.sh (.int u)))= .nx (wE ll a part k s4 (.sh (.int u))):=by simp[pwI,hi,hm]
   rw[e,oX];obtain⟨part',s5',e2,P',⟨m,hm'⟩,h2⟩:=uC hn hin us part (.sh (.int u)) (λ v hv=>h v (zAF _ hv)) hp P;refine⟨part',s5',e2,P',⟨m,hm'⟩,λ v hv=>?_⟩;rcases zAT.mp hv with rfl|hv
   .rw[hm'];exact zAI _ hm
   .exact h2 v hv
  .have hz:part.length<16777216:=by lia
   have e:pwI (wE ll a part k s4 (.sh (.int u)))= .nx (wE ll a (part++[u]) k s4 (.sh (.int u))):=by simp[pwI,hi,hm,gO,hz]
   rw[e,oX];have P1:Pw n es a (part++[u]):=by
    refine⟨?_,λ x hx=>?_,λ x hx=>?_,zAI _ P.st⟩
    .rw[zAd]
     exact⟨P.nd,by simp,λ x hx y hy z=>by rw[zAD.mp hy]at z;subst z;exact hm hx⟩
    .rcases zAO.mp hx with hx|hx
     .exact P.cn x hx
     .rw[zAD.mp hx];exact(P.cn p hp).step hu
    .rcases zAO.mp hx with hx|hx
     .exact P.inn x hx
     .rw[zAD.mp hx];exact hin _ _ hu
   obtain⟨part',s5',e2,P',⟨m,hm'⟩,h2⟩:=uC hn hin us (part++[u]) (.sh (.int u)) (λ v hv=>h v (zAF _ hv)) (zAI _ hp) P1;refine⟨part',s5',e2,P',⟨[u]++m,by rw[hm',zAo]⟩,λ v hv=>?_⟩;rcases zAT.mp hv with rfl|hv
   .rw[hm'];exact zAI _ (by simp)
   .exact h2 v hv
def xG(hn:n<=60)(N:aGZ n es ll)(hin:∀x y,(x,y)∈es->0<=y/\y<n)(h0:0<=a)(h1:a<n):gQ [.lst (ll.map .lst),.int a]= .ok (tupI (bJ n es a)):=by
 have st:aj 6 [.lst (ll.map .lst),.int a]=[.sh (.lst (ll.map .lst)),.sh (.int a),.no,.no,.no,.no]:=rfl;obtain⟨ρ',m',e,⟨part,k,s4,s5,rfl,P,hk,hcl,_⟩,ht⟩:=yN (c:=pwT) (b:=pwW)
  (λ m ρ=>∃(part:List Int) (k:Nat) (s4 s5:Slot),ρ=wE ll a part k s4 s5/\Pw n es a part/\k<=part.length/\(∀i x,i<k->part[i]? =some x->∀y,(x,y)∈es->y∈part)/\m=n.toNat-k)
  (by
   rintro m ρ ⟨part,k,s4,s5,rfl,P,hk,hcl,rfl⟩;have hl:=P.len;by_cases hlt:k<part.length
   .right
    have hx:=zAC hlt;have ha:atD (part.map .int) (k:Int)= .ok (.int part[k]):=dq (by rw[zAV,hx];rfl);have hp:=P.inn _ (zCQ hlt);obtain⟨us,e1,e2⟩:=N.item _ hp.1 hp.2;obtain⟨part',s5',e3,P',⟨m,hm⟩,h2⟩:=uC (ll:=ll) (k:=(k:Int)) (s4:=.nw (.int part[k])) hn hin us part s5 (λ u hu=>(e2 u).mp hu) (zCQ hlt) P;have c0:pwT (wE ll a part k s4 s5)= .ok true:=by simp[pwT,hlt]
    have c1:vB 4 (bA (op2 ixD (fO 2) (aD 3))) (wE ll a part k s4 s5)= .nx (wE ll a part k (.nw (.int part[k])) s5):=by simp[ha]
    have c2:gM (cT (op2 ixD (aD 0) (qC 4))) (gnm 5) pwI (wE ll a part k (.nw (.int part[k])) s5)= .nx (wE ll a part' k (.nw (.int part[k])) s5'):=by
     have hi:cT (op2 ixD (aD 0) (qC 4)) (wE ll a part k (.nw (.int part[k])) s5)= .ok (us.map .int):=by simp[e1]
     rw[dD,hi,bN,e3]
    have c3:aGP (i2 (λ _ _=>true) λ a b=>.int (a+b)) 3 (cD (.int 1)) (wE ll a part' k (.nw (.int part[k])) s5')= .nx (wE ll a part' ((k:Int)+1) (.nw (.int part[k])) s5'):=rfl;refine⟨c0,wE ll a part' ((k+1:Nat):Int) (.nw (.int part[k])) s5',n.toNat-(k+1),?_,by lia,part',k+1,_,_,rfl,P',?_,λ i x hi hx' y hy=>?_,rfl⟩
    .rw[pwW,aM,c1,aW,aM,c2,aW,c3]
     rfl
    .rw[hm,zAW];lia
    .by_cases hik:i=k
     .subst hik
      rw[hm,zBd hlt,hx]at hx';cases hx';exact h2 y ((e2 y).mpr hy)
     .rw[hm,zBd (by lia)]at hx'
      rw[hm];exact zAI _ (hcl i x (by lia) hx' y hy)
   .left
    simp[pwT,show¬k<part.length from hlt])
  (m:=n.toNat-0) (ρ:=wE ll a [a] (0:Nat) .no .no) (by lia) ⟨[a],0,.no,.no,rfl,⟨by simp,λ x hx=>by rw[zAD.mp hx];exact .refl,λ x hx=>by rw[zAD.mp hx];exact⟨h0,h1⟩,by simp⟩,by simp,λ i x hi=>absurd hi (zEi _),rfl⟩
 have hlt:¬k<part.length:=λ z=>by
  have:pwT (wE ll a part k s4 s5)= .ok true:=by simp[pwT,z]
  rw[this]at ht;cases ht
 have go:∀x,Cn es a x->x∈part:=λ x hc=>by
  induction hc with
  |refl=>exact P.st
  |step hb he ih=>
   obtain⟨i,hi,hx⟩:=zBY ih;exact hcl i _ (by lia) (by rw[zAC hi,hx]) _ he
 have iX:∀x,x∈part↔(0<=x/\x<n)/\Cn es a x:=λ x=>⟨λ hx=>⟨P.inn x hx,P.cn x hx⟩,λ h=>go x h.2⟩
 have hs:=vY (l:=part) (by have:=P.len;lia);rw[aAO P.nd iX]at hs;have c0:fM 2 (dh (aC (bA (aD 1)) aH)) [.sh (.lst (ll.map .lst)),.sh (.int a),.no,.no,.no,.no]= .nx [.sh (.lst (ll.map .lst)),.sh (.int a),.ow (.lst [.int a]),.no,.no,.no]:=by simp
 have c1:cX 3 (cD (.int 0)) [.sh (.lst (ll.map .lst)),.sh (.int a),.ow (.lst [.int a]),.no,.no,.no]= .nx (wE ll a [a] (0:Nat) .no .no):=rfl;simp only[gQ,eU,bD,st];rw[aM,c0,aW,aM,c1,aW,aM,e,aW];have hd:fO 2 (wE ll a part k s4 s5)= .ok (.lst (part.map .int)):=rfl;rw[mO,lG,cY,lG,cY,hd];simp[hs,tupI]
end
abbrev qE(ll:cK)(w:D)(rws:gV)(seen:List Int)(s4 s5 s6:Slot):En:=[.sh (.lst (ll.map .lst)),.sh w,.ow (.lst (rws.map tupI)),.ow (.set seen),s4,s5,s6]
section
variable{n:Int}{es:gX}{ll:cK}{w:D}{rws:gV}{s4 s5 s6:Slot}
theorem yz:∀(us:List Int) (seen:List Int) (s6:Slot),(∀u∈us,0<=u/\u<n)->seen.Nodup->(∀u∈seen,0<=u/\u<n)->n<=60->
  ∃seen' s6',forL (gnm 6) paF (us.map .int) (qE ll w rws seen s4 s5 s6)= .nx (qE ll w rws seen' s4 s5 s6')/\seen'.Nodup/\(∀x,x∈seen'↔x∈seen\/x∈us)/\(∀u∈seen',0<=u/\u<n)
 |[],seen,s6,_,nd,hin,_=>⟨seen,s6,rfl,nd,λ x=>by simp,hin⟩
 |u::us,seen,s6,h,nd,hin,hn=>by
  have hl:seen.length<=n.toNat:=by
   have:=sub_len (l':=upI n) nd λ x hx=>bU.mpr (hin x hx)
   rwa [dF]at this
  have nd':=z8 (z:=u) nd;have hm':∀x,x∈zAz seen u↔x∈seen\/x=u:=λ x=>by
   have:=vy seen u x
   rw[zBK]at this;simpa using this.symm
  obtain⟨seen',s6',e,q1,q2,q3⟩:=yz us (zAz seen u) (.sh (.int u)) (λ v hv=>h v (zAF _ hv)) nd' (λ x hx=>by
   rcases(hm' x).mp hx with z|z
   .exact hin x z
   .rw[z];exact h u zAJ) hn
  refine⟨seen',s6',?_,q1,λ x=>?_,q3⟩
  .rw[zAP,dW,qR,lK]
   show(paF (qE ll w rws seen s4 s5 (.sh (.int u)))).tn _=_
   have e1:paF (qE ll w rws seen s4 s5 (.sh (.int u)))= .nx (qE ll w rws (zAz seen u) s4 s5 (.sh (.int u))):=by
    have hv:bA (aD 6) (qE ll w rws seen s4 s5 (.sh (.int u)))= .ok (.int u):=by simp
    show((bA (aD 6) (qE ll w rws seen s4 s5 (.sh (.int u)))).bo λ d=>zz (qE ll w rws seen s4 s5 (.sh (.int u))) 3 seen d)=_
    rw[hv,bN];unfold zz;dsimp only;rw[if_pos (by lia)];rfl
   rw[e1,oX,e]
  .rw[q2,hm',zAT]
   constructor
   .rintro((z|z)|z)
    .exact .inl z
    .exact .inr (.inl z)
    .exact .inr (.inr z)
   .rintro(z|z|z)
    .exact .inl (.inl z)
    .exact .inl (.inr z)
    .exact .inr z
def aBF(k:Nat):upI ((k+1:Nat):Int)=upI (k:Int)++[(k:Int)]:=by
 unfold upI;rw[zG2,zG2,List.range_succ,zA0];rfl
def uG(hn0:0<=n)(hn:n<=60)(S:Sym es)(N:aGZ n es ll)(hin:∀x y,(x,y)∈es->0<=y/\y<n):cj [.lst (ll.map .lst),.lst (bC 0 n)]= .ok (.lst ((lF n es).map tupI)):=by
 have st:aj 7 [.lst (ll.map .lst),.lst (bC 0 n)]=[.sh (.lst (ll.map .lst)),.sh (.lst (bC 0 n)),.no,.no,.no,.no,.no]:=rfl;obtain⟨ρ',e,seen,s4,s5,s6,rfl,_⟩:=iZ (a:=gnm 4) (u:=paB) (ds:=bC 0 n)
  (λ k ρ=>∃(seen:List Int) (s4 s5 s6:Slot),ρ=qE ll (.lst (bC 0 n)) (((upI (k:Int)).filter (bG es)).map (bJ n es)) seen s4 s5 s6/\seen.Nodup/\(∀x,x∈seen↔(0<=x/\x<n)/\∃j,(0<=j/\j<(k:Int))/\Cn es j x))
  (by
   rintro i d ρ hd ⟨seen,s4,s5,s6,rfl,nd,hs⟩;obtain⟨rfl,hlt⟩:=lE hd;rw[zFo]at hlt ⊢;have hk:0<=(i:Int)/\(i:Int)<n:=⟨by lia,hlt⟩;have hg:okE (gnm 4 (.int (i:Int)) (qE ll (.lst (bC 0 n)) (((upI (i:Int)).filter (bG es)).map (bJ n es)) seen s4 s5 s6)) (λ ρ1=>paB ρ1)=paB (qE ll (.lst (bC 0 n)) (((upI (i:Int)).filter (bG es)).map (bJ n es)) seen (.sh (.int (i:Int))) s5 s6):=rfl;rw[hg];have hlb:bG es (i:Int)= !decide ((i:Int)∈seen):=by
    rw[zBK,cF];constructor
    .intro h
     simp only[zBI,decide_eq_false_iff_not];intro hm;obtain⟨_,j,hj,hc⟩:=(hs _).mp hm
     have:=h j hj.1 (hc.symm S)
     lia
    .intro h b hb hc
     simp only[zBI,decide_eq_false_iff_not]at h
     have:=λ z:b<(i:Int)=>h ((hs _).mpr ⟨hk,b,⟨hb,z⟩,hc.symm S⟩)
     lia
   have hx:inX true (.int (i:Int)) (.set seen)= .ok (.bl (!decide ((i:Int)∈seen))):=rfl;have hrl:(((upI (i:Int)).filter (bG es)).map (bJ n es)).length<16777216:=by
    rw[zAB]
    have:=zCC (bG es) (upI (i:Int))
    rw[dF]at this;lia
   by_cases hm:(i:Int)∈seen
   .have hb:paB (qE ll (.lst (bC 0 n)) (((upI (i:Int)).filter (bG es)).map (bJ n es)) seen (.sh (.int (i:Int))) s5 s6)= .nx (qE ll (.lst (bC 0 n)) (((upI (i:Int)).filter (bG es)).map (bJ n es)) seen (.sh (.int (i:Int))) s5 s6):=by
     simp[paB,hx,hm]
    refine⟨_,hb,seen,.sh (.int (i:Int)),s5,s6,?_,nd,λ x=>?_⟩
    .rw[aBF,zB7,zBF,hlb]
     simp[hm]
    .rw[hs]
     constructor
     .rintro⟨h1,j,h2,h3⟩
      exact⟨h1,j,⟨h2.1,by lia⟩,h3⟩
     .rintro⟨h1,j,h2,h3⟩
      by_cases hj:j<(i:Int)
      .exact⟨h1,j,⟨h2.1,hj⟩,h3⟩
      .have hj':j=(i:Int):=by lia
       subst hj';obtain⟨_,j',h4,h5⟩:=(hs _).mp hm;exact⟨h1,j',h4,h5.trans h3⟩
   .have hp:=xG hn N hin hk.1 hk.2
    have hsin:∀u∈seen,0<=u/\u<n:=λ u hu=>((hs u).mp hu).1
    obtain⟨seen',s6',e,q1,q2,q3⟩:=yz (ll:=ll) (w:=.lst (bC 0 n)) (rws:=((upI (i:Int)).filter (bG es)).map (bJ n es)++[bJ n es (i:Int)]) (s4:=.sh (.int (i:Int))) (s5:=.sh (tupI (bJ n es (i:Int)))) (bJ n es (i:Int)) seen s6 (λ u hu=>(uK.mp hu).1) nd hsin hn;have gi:pK (tupI (bJ n es (i:Int)))= .ok (tupI (bJ n es (i:Int))):=(El.tup (k:=0) El.ints).g;have hb:paB (qE ll (.lst (bC 0 n)) (((upI (i:Int)).filter (bG es)).map (bJ n es)) seen (.sh (.int (i:Int))) s5 s6)= .nx (qE ll (.lst (bC 0 n)) (((upI (i:Int)).filter (bG es)).map (bJ n es)++[bJ n es (i:Int)]) seen' (.sh (.int (i:Int))) (.sh (tupI (bJ n es (i:Int)))) s6'):=by
     have t1:tsb (op2 (inX true) (aD 4) (fO 3)) (qE ll (.lst (bC 0 n)) (((upI (i:Int)).filter (bG es)).map (bJ n es)) seen (.sh (.int (i:Int))) s5 s6)= .ok true:=by simp[hx,hm]
     have t2:cX 5 (aP gQ (aC (aD 0) (aC (aD 4) aH))) (qE ll (.lst (bC 0 n)) (((upI (i:Int)).filter (bG es)).map (bJ n es)) seen (.sh (.int (i:Int))) s5 s6)= .nx (qE ll (.lst (bC 0 n)) (((upI (i:Int)).filter (bG es)).map (bJ n es)) seen (.sh (.int (i:Int))) (.sh (tupI (bJ n es (i:Int)))) s6):=by simp[hp]
     have t3:gO 2 (bA (aD 5)) (qE ll (.lst (bC 0 n)) (((upI (i:Int)).filter (bG es)).map (bJ n es)) seen (.sh (.int (i:Int))) (.sh (tupI (bJ n es (i:Int)))) s6)= .nx (qE ll (.lst (bC 0 n)) (((upI (i:Int)).filter (bG es)).map (bJ n es)++[bJ n es (i:Int)]) seen (.sh (.int (i:Int))) (.sh (tupI (bJ n es (i:Int)))) s6):=by
      generalize ((upI (i:Int)).filter (bG es)).map (bJ n es)=R at hrl ⊢;have hv:bA (aD 5) (qE ll (.lst (bC 0 n)) R seen (.sh (.int (i:Int))) (.sh (tupI (bJ n es (i:Int)))) s6)= .ok (tupI (bJ n es (i:Int))):=by simp[gi]
      show((bA (aD 5) (qE ll (.lst (bC 0 n)) R seen (.sh (.int (i:Int))) (.sh (tupI (bJ n es (i:Int)))) s6)).bo λ d=>if (R.map tupI).length<zAQ then .nx [.sh (.lst (ll.map .lst)),.sh (.lst (bC 0 n)),.ow (.lst (R.map tupI++[d])),.ow (.set seen),.sh (.int (i:Int)),.sh (tupI (bJ n es (i:Int))),s6]else .st)=_
      rw[hv,bN,if_pos (by rw[szl,zAB];exact hrl)];simp[zA0]
     have t4:cT (aD 5) (qE ll (.lst (bC 0 n)) (((upI (i:Int)).filter (bG es)).map (bJ n es)++[bJ n es (i:Int)]) seen (.sh (.int (i:Int))) (.sh (tupI (bJ n es (i:Int)))) s6)= .ok ((bJ n es (i:Int)).map .int):=by simp[tupI]
     rw[paB,fX,t1,bN,if_pos rfl,aM,t2,aW,aM,t3,aW,dD,t4,bN,e]
    refine⟨_,hb,seen',.sh (.int (i:Int)),.sh (tupI (bJ n es (i:Int))),s6',?_,q1,λ x=>?_⟩
    .rw[aBF,zB7,zBF,hlb]
     simp[hm]
    .rw[q2,hs,uK]
     constructor
     .rintro(⟨h1,j,h2,h3⟩|⟨h1,h2⟩)
      .exact⟨h1,j,⟨h2.1,by lia⟩,h3⟩
      .exact⟨h1,(i:Int),⟨by lia,by lia⟩,h2⟩
     .rintro⟨h1,j,h2,h3⟩
      by_cases hj:j<(i:Int)
      .exact .inl ⟨h1,j,⟨h2.1,hj⟩,h3⟩
      .have hj':j=(i:Int):=by lia
       subst hj';exact .inr ⟨h1,h3⟩)
  (ρ:=qE ll (.lst (bC 0 n)) [] [] .no .no .no) ⟨[],.no,.no,.no,rfl,zGm,λ x=>⟨λ h=>(nomatch h),λ⟨_,j,h,_⟩=>absurd h.2 (by have:=h.1;lia)⟩⟩
 have c0:fM 2 (dh aH) [.sh (.lst (ll.map .lst)),.sh (.lst (bC 0 n)),.no,.no,.no,.no,.no]= .nx [.sh (.lst (ll.map .lst)),.sh (.lst (bC 0 n)),.ow (.lst []),.no,.no,.no,.no]:=by simp
 have c1:fM 3 (cD (.set [])) [.sh (.lst (ll.map .lst)),.sh (.lst (bC 0 n)),.ow (.lst []),.no,.no,.no,.no]= .nx (qE ll (.lst (bC 0 n)) [] [] .no .no .no):=rfl;have hi:cT (aD 1) (qE ll (.lst (bC 0 n)) [] [] .no .no .no)= .ok (bC 0 n):=by simp
 have hln:(((bC 0 n).length:Nat):Int)=n:=by rw[fD];lia
 rw[hln]at e;simp only[cj,cg,bD,st];rw[aM,c0,aW,aM,c1,aW,aM,dD,hi,bN,e,aW];simp[lF]
def aD3(h:Ow n ps)(low:∀p∈ps,p.1<p.2):sZ [owD n ps]= .ok (.lst ((lF n (dbl ps)).map tupI)):=by
 obtain⟨ll,e,N⟩:=zy h;have st:aj 1 [owD n ps]=[.sh (owD n ps)]:=rfl;have hp:=uG h.n0 h.n1 (m7 ps) N (λ x y m=>by
  rcases cR.mp m with z|z
  .have:=h.pr _ z;exact⟨this.2.2.1,this.2.2.2.1⟩
  .have:=h.pr _ z;exact⟨this.1,this.2.1⟩)
 have hlr:=aJL (f:=op2 ixD (aD 0) (cD (.int 0))) (ρ:=[.sh (owD n ps)]) (n:=n) (by simp[owD]) h.n0 h.n1;have c0:ul (aP eZ (aC (aD 0) aH)) [.sh (owD n ps)]= .nx [.sh (owD n ps)]:=by simp[xq h low]
 have c1:aP cj (aC (aP cW (aC (aD 0) aH)) (aC (lrD (op2 ixD (aD 0) (cD (.int 0)))) aH)) [.sh (owD n ps)]= .ok (.lst ((lF n (dbl ps)).map tupI)):=by
  rw[mG,cY,mG,cY,cY,hlr];simp[e,hp]
 have df:m8=aY (ul (aP eZ (aC (aD 0) aH))) (retS (aP cj (aC (aP cW (aC (aD 0) aH)) (aC (lrD (op2 ixD (aD 0) (cD (.int 0)))) aH)))):=rfl;simp only[sZ,df,bD,st];rw[aM,c0,aW,mO,c1];rfl
end
def pl(p:Int×Int):List Int:=[p.1,p.2]
def aEc(p:Int×Int):tupI (pl p)=pD p:=rfl
def aH2{p q:Int×Int}(h:pl p=pl q):p=q:=by
 unfold pl at h;injection h with h1 h2
 injection h2 with h2 _
 exact zFY h1 h2
def uz{ps:gX}(nd:ps.Nodup):∃qs:gX,tL (ps.map pl)=qs.map pl/\qs.Perm ps/\vG qs=true:=by
 obtain⟨qs,q1,q2⟩:=pA (f:=pl) (nU (ps.map pl)) rfl;refine⟨qs,q2,q1,wu.mpr λ i p q e1 e2=>?_⟩;have hr:=kO (ps.map pl);rw[q2]at hr;have hnd:qs.Nodup:=q1.nodup_iff.mpr nd;have h1:=(zAL.mp e1).1;have h2:=(zAL.mp e2).1;have f1:(qs.map pl)[i]'(by simpa using h1)=pl p:=by
  rw[zCc,(zAL.mp e1).2]
 have f2:(qs.map pl)[i+1]'(by simpa using h2)=pl q:=by
  rw[zCc,(zAL.mp e2).2]
 have z:=zAx.mp hr i (i+1) (by simpa using h1) (by simpa using h2) (by omega);rw[f1,f2]at z;have hne:p≠q:=λ e=>by
  subst e
  have:=(zCG h1 hnd).mp (e1.trans e2.symm)
  omega
 show HT.lexLt (pl p) (pl q)=true;cases c:HT.lexLt (pl p) (pl q)with
 |true=>rfl
 |false=>exact absurd (aH2 (uL _ _ c z)) hne
def aBr(ps:gX):kI (ps.map pD)=some (ps.map pl):=by
 have:=sy (nss:=ps.map pl) λ ns h=>by
  obtain⟨p,_,rfl⟩:=zAS.mp h;simp[pl]
 rw[zAs]at this;exact this
def nT{ps:gX}(nd:ps.Nodup)(h:ps.length<64):∃qs:gX,jy [.lst (ps.map pD)]= .ok (.lst (qs.map pD))/\qs.Perm ps/\vG qs=true:=by
 obtain⟨qs,q1,q2,q3⟩:=uz nd;refine⟨qs,?_,q2,q3⟩;unfold jy;dsimp only;rw[aBr];dsimp only;rw[if_pos (by rw[zAB];exact h),q1,zAs];exact congrArg (λ l=>Rs.ok (D.lst l)) (zBQ λ p _=>aEc p)
def mnI(a b:Int):Int:=if b<a then b else a
def mxI(a b:Int):Int:=if b>a then b else a
def aJj{a b a' b':Int}(h:mnI a b=mnI a' b')(h':mxI a b=mxI a' b'):b=a'\/b=b':=by
 unfold mnI at h;unfold mxI at h';split at h<;>split at h<;>split at h'<;>split at h'<;>lia
def aJK{a b:Int}(h:a≠b):mnI a b<mxI a b:=by
 unfold mnI mxI;split<;>split<;>lia
def aDi{a b:Int}(P:Int->Prop)(ha:P a)(hb:P b):P (mnI a b)/\P (mxI a b):=by
 unfold mnI mxI;constructor<;>split<;>assumption
abbrev foV(c most n kd:Int)(O:List Int)(ps:gX)(s6 s7:Slot):En:=[.sh (.int c),.sh (.int most),.sh (.int n),.sh (.int kd),.nw (.lst (O.map .int)),.ow (.lst (ps.map pD)),s6,s7]
section
variable{c most n kd:Int}{O:List Int}
def aDa{s4 s5 s6 s7:Slot}(h0:0<=n)(h1:n<=60):∃O:List Int,foO [.sh (.int c),.sh (.int most),.sh (.int n),.sh (.int kd),s4,s5,s6,s7]= .ok (.lst (O.map .int))/\O.Perm (upI n):=by
 have hr:=gn (j:=n) (by lia) (by lia);have hd:∀i:Int,∃r:Int,0<=i->i<n->aR [.int c,.int (200+i),.int 97]= .ok (.int r):=λ i=>by
  by_cases q:0<=i/\i<n
  .obtain⟨r,e,_⟩:=gr (c:=c) (k:=200+i) (b:=97) (by lia) (by lia) (by decide) (by decide)
   exact⟨r,λ _ _=>e⟩
  .exact⟨0,λ a b=>absurd ⟨a,b⟩ q⟩
 obtain⟨f,hf⟩:=Classical.skolem.mp hd;have e1:∀ρ:En,ρ=shE [.sh (.int c),.sh (.int most),.sh (.int n),.sh (.int kd),s4,s5,s6,s7]->lcD (iU jN (aC (aD 2) aH)) [none,some 0] (gnm 0) jP (dG (aC (aP aR (aC (aD 1) (aC (op2 cM (cD (.int 200)) (aD 0)) (aC (cD (.int 97)) aH)))) (aC (bA (aD 0)) aH))) ρ= .ok (.lst (((upI n).map λ i=>(f i,i)).map pD)):=λ ρ e=>by
  subst e;refine jo (ds:=(upI n).map .int) (by rw[<-wj];simp[shE,nQ,shS,hr]) (by rw[zAB,dF];lia) ?_;rw[zAs];refine oG (f:=D.int) (g:=λ i=>pD (f i,i)) (upI n) λ i hi=>⟨[.sh (.int i),.sh (.int c)],rfl,?_⟩
  have hi':=bU.mp hi;simp[hf i hi'.1 hi'.2,pD]
 have nd:((upI n).map λ i=>(f i,i)).Nodup:=by
  rw[zAg,zBU];exact(wG n).imp λ{a b} h e=>by
   have:=congrArg zE3 e
   dsimp only at this;lia
 obtain⟨qs,q1,q2,q3⟩:=nT nd (by rw[zAB,dF];lia);have hql:qs.length<=60:=by rw[q2.length_eq,zAB,dF];lia
 refine⟨qs.map (·.2),?_,?_⟩
 .unfold foO
  refine jo (ds:=qs.map pD) ?_ (by rw[zAB];lia) ?_
  .rw[aFo,lG,cY,e1 _ rfl]
   simp[q1,-zAs]
  .rw[zAs]
   refine oG (f:=pD) (g:=λ p=>.int p.2) qs λ p hp=>⟨[.sh (pD p)],rfl,?_⟩
   simp[pD]
 .have:=q2.map (·.2)
  rw[zAs]at this;simpa[zDp]using this
inductive Fr:gX->Prop where
 |nil:Fr []
 |snoc {ps:gX} {a b:Int} (h:Fr ps) (ne:a≠b) (no:∀p∈ps,p.1≠b/\p.2≠b):Fr (ps++[(mnI a b,mxI a b)])
structure Fo(O:List Int)(v:Nat)(ps:gX):Prop where
 nd:ps.Nodup
 fr:Fr ps
 at_:∀p∈ps,∃(i j:Nat) (a b:Int),i<j/\j<v/\O[i]? =some a/\O[j]? =some b/\p=(mnI a b,mxI a b)
def Fo.up{ps:gX}{v:Nat}(F:Fo O v ps):Fo O (v+1) ps:=⟨F.nd,F.fr,λ p hp=>by
 obtain⟨i,j,a,b,h1,h2,h3⟩:=F.at_ p hp;exact⟨i,j,a,b,h1,by lia,h3⟩⟩
theorem Fo.snoc{ps:gX}{v i:Nat}{a b:Int}(hO:O.Nodup)(F:Fo O v ps)(hi:i<v)(ha:O[i]? =some a)(hb:O[v]? =some b):Fo O (v+1) (ps++[(mnI a b,mxI a b)]):=by
 have hne:∀{k:Nat} {x:Int},k<v->O[k]? =some x->x≠b:=λ{k x} hk hx e=>by
  subst e
  have:=(zCG (zAL.mp hb).1 hO).mp (hb.trans hx.symm)
  lia
 refine⟨?_,.snoc F.fr (hne hi ha) λ p hp=>?_,λ p hp=>?_⟩
 rotate_left
 .obtain⟨i',j',a',b',h1,h2,h3,h4,rfl⟩:=F.at_ p hp
  exact aDi (λ x=>x≠b) (hne (by lia) h3) (hne h2 h4)
 rotate_left
 .rw[zAd]
  refine⟨F.nd,by simp,λ p hp q hq e=>?_⟩;rw[zAD]at hq;subst hq;obtain⟨i',j',a',b',h1,h2,h3,h4,rfl⟩:=F.at_ p hp;have hv:=(zAL.mp hb).1;rcases aJj (congrArg zEJ e).symm (congrArg zE3 e).symm with z|z
  .subst z
   have:=(zCG hv hO).mp (hb.trans h3.symm)
   lia
  .subst z
   have:=(zCG hv hO).mp (hb.trans h4.symm)
   lia
 .rcases zAO.mp hp with z|z
  .exact F.up.at_ p z
  .rw[zAD]at z
   exact⟨i,v,a,b,hi,by lia,ha,hb,z⟩
def aIW{ps:gX}{v:Nat}{s7:Slot}(hO:O.Nodup)(hv:v<O.length)(hv0:0<v)(hv2:v<60)(hk0:0<=kd)(hk:kd<4)(hl:ps.length<=v)(F:Fo O v ps):
  ∃ps' s7',foB (foV c most n kd O ps (.sh (.int (v:Int))) s7)= .nx (foV c most n kd O ps' (.sh (.int (v:Int))) s7')/\ps'.length<=v+1/\Fo O (v+1) ps':=by
 obtain⟨r3,e3,h3⟩:=gr (c:=c) (k:=300+(v:Int)) (b:=(v:Int)) (by lia) (by lia) (by lia) (by lia);obtain⟨r4,e4,h4⟩:=gr (c:=c) (k:=400+(v:Int)) (b:=3) (by lia) (by lia) (by decide) (by decide);obtain⟨r5,e5,h5⟩:=gr (c:=c) (k:=500+(v:Int)) (b:=(v:Int)) (by lia) (by lia) (by lia) (by lia);obtain⟨r6,e6,h6⟩:=gr (c:=c) (k:=600+(v:Int)) (b:=9) (by lia) (by lia) (by decide) (by decide);have f2:jG (.int (v:Int)) (.int 2)= .ok (.int ((v:Int) / 2)):=mZ (by decide) (by decide);have f4:jG (.int (v:Int)) (.int 4)= .ok (.int ((v:Int) / 4)):=mZ (by decide) (by decide);obtain⟨d,ed,hd,_⟩:=aEZ (l:=[.int ((v:Int)-1),.int ((v:Int) / 2),.int ((v:Int) / 4),.int (r3:Int)]) (i:=kd) hk0 (by simpa using hk);obtain⟨u,rfl,hu⟩:∃u:Nat,d= .int (u:Int)/\u<v:=by
  simp only[zAT,zDO,or_false]at hd;rcases hd with rfl|rfl|rfl|rfl
  .exact⟨v-1,by congr 1;lia,by lia⟩
  .exact⟨v / 2,by congr 1,by lia⟩
  .exact⟨v / 4,by congr 1,by lia⟩
  .exact⟨r3,rfl,by lia⟩
 have g1:vB 7 (op2 ixD (dh (aC (op2 wL (aD 6) (cD (.int 1))) (aC (op2 jG (aD 6) (cD (.int 2))) (aC (op2 jG (aD 6) (cD (.int 4))) (aC (aP aR (aC (aD 0) (aC (op2 cM (cD (.int 300)) (aD 6)) (aC (aD 6) aH)))) aH))))) (aD 3)) (foV c most n kd O ps (.sh (.int (v:Int))) s7)= .nx (foV c most n kd O ps (.sh (.int (v:Int))) (.nw (.int (u:Int)))):=by simp[e3,f2,f4,ed]
 obtain⟨t,ht,g2⟩:∃t:Nat,t<v/\ifS (tsb (op2 (eqR false) (aP aR (aC (aD 0) (aC (op2 cM (cD (.int 400)) (aD 6)) (aC (cD (.int 3)) aH)))) (cD (.int 0)))) (vB 7 (aP aR (aC (aD 0) (aC (op2 cM (cD (.int 500)) (aD 6)) (aC (aD 6) aH))))) Ou.nx (foV c most n kd O ps (.sh (.int (v:Int))) (.nw (.int (u:Int))))= .nx (foV c most n kd O ps (.sh (.int (v:Int))) (.nw (.int (t:Int)))):=by
  by_cases q:r4=0
  .exact⟨r5,by lia,by simp[e4,e5,q]⟩
  .exact⟨u,hu,by simp[e4,q]⟩
 have htl:t<O.length:=by lia
 obtain⟨a,ha⟩:∃a,O[t]? =some a:=⟨_,zAC htl⟩
 obtain⟨b,hb⟩:∃b,O[v]? =some b:=⟨_,zAC hv⟩
 have xa:atD (O.map .int) (t:Int)= .ok (.int a):=dq (by rw[zAV,ha];rfl);have xb:atD (O.map .int) (v:Int)= .ok (.int b):=dq (by rw[zAV,hb];rfl);have hz:ps.length<16777216:=by lia
 by_cases q:0<r6
 .refine⟨ps++[(mnI a b,mxI a b)],.nw (.int (t:Int)),?_,by simp;lia,F.snoc hO ht ha hb⟩
  rw[foB,aM,g1,aW,aM,g2,aW];simp[e6,q,xa,xb,gO,hz,pD,mnI,mxI]
 .refine⟨ps,.nw (.int (t:Int)),?_,by lia,F.up⟩
  rw[foB,aM,g1,aW,aM,g2,aW];simp[e6,q]
def vL{most:Nat}(h1:most<=60):∃n ps,dY [.int c,.int most]= .ok (owD n ps)/\Ow n ps/\(∀p∈ps,p.1<p.2)/\n<=most/\∃rs,ps.Perm rs/\Fr rs:=by
 obtain⟨n,en,hn⟩:=gr (c:=c) (k:=0) (b:=(most:Int)+1) (by decide) (by decide) (by lia) (by lia);obtain⟨kd,ek,hk⟩:=gr (c:=c) (k:=1) (b:=4) (by decide) (by decide) (by decide) (by decide);obtain⟨O,eO,hO⟩:=aDa (c:=c) (most:=most) (n:=n) (kd:=kd) (s4:=.no) (s5:=.no) (s6:=.no) (s7:=.no) (by lia) (by lia);have hnd:O.Nodup:=hO.nodup_iff.mpr (by
  rw[zAg];exact(wG n).imp λ h=>by lia)
 have hW:O.length=n:=by rw[hO.length_eq,dF];lia
 have b5:∀a∈O,0<=a/\a<(n:Int):=λ a ha=>bU.mp (hO.mem_iff.mp ha)
 have hr:=aBW (i:=1) (j:=(n:Int)) (by decide) (by decide) (by lia) (by lia);have hrl:(bC 1 (n:Int)).length<=60:=by rw[fD];lia
 obtain⟨ρ',e,ps,s6,s7,rfl,hl,F⟩:=iZ (a:=gnm 6) (u:=foB) (ds:=bC 1 n)
  (λ i ρ=>∃(ps:gX) (s6 s7:Slot),ρ=foV c most n kd O ps s6 s7/\ps.length<=i+1/\Fo O (i+1) ps)
  (by
   rintro i d ρ hd ⟨ps,s6,s7,rfl,hps,F⟩;obtain⟨rfl,hlt⟩:=lE hd;have hi:((1:Int)+(i:Int))=((i+1:Nat):Int):=by lia
   rw[hi];obtain⟨ps',s7',e,l',F'⟩:=aIW (c:=c) (most:=most) (n:=n) (kd:=kd) (v:=i+1) (s7:=s7) hnd (by lia) (by lia) (by lia) (by lia) hk hps F;exact⟨_,e,ps',_,s7',rfl,l',F'⟩)
  (ρ:=foV c most n kd O [] .no .no) ⟨[],.no,.no,rfl,by simp,⟨by simp,.nil,λ p hp=>(nomatch hp)⟩⟩
 have hps60:ps.length<=61:=by lia
 obtain⟨qs,q1,q2,q3⟩:=nT F.nd (by lia);have hq:∀p∈qs,(0<=p.1/\p.1<(n:Int))/\(0<=p.2/\p.2<(n:Int))/\p.1<p.2:=λ p hp=>by
  obtain⟨i,j,a,b,h1,h2,h3,h4,rfl⟩:=F.at_ p (q2.mem_iff.mp hp);have hne:a≠b:=λ e=>by
   subst e
   have:=(zCG (zAL.mp h3).1 hnd).mp (h3.trans h4.symm)
   lia
  obtain⟨m1,m2⟩:=aDi (λ x=>0<=x/\x<(n:Int)) (b5 a (zAa h3)) (b5 b (zAa h4));exact⟨m1,m2,aJK hne⟩
 have hpl:ps.length<=n:=by
  rcases Nat.eq_zero_or_pos n with z|z
  .have:ps=[]:=by
    cases ps with
    |nil=>rfl
    |cons p ps=>
     obtain⟨m1,_⟩:=hq p (q2.mem_iff.mpr zAJ);lia
   rw[this];exact zAi _
  .rw[fD]at hl
   lia
 refine⟨n,qs,?_,⟨by lia,by lia,by rw[q2.length_eq];lia,λ p hp=>?_,q3⟩,λ p hp=>(hq p hp).2.2,by lia,ps,q2,F.fr⟩
 .have st:aj 8 [.int c,.int most]=[.sh (.int c),.sh (.int most),.no,.no,.no,.no,.no,.no]:=rfl
  have g1:cX 2 (aP aR (aC (aD 0) (aC (cD (.int 0)) (aC (op2 cM (aD 1) (cD (.int 1))) aH)))) [.sh (.int c),.sh (.int most),.no,.no,.no,.no,.no,.no]= .nx [.sh (.int c),.sh (.int most),.sh (.int n),.no,.no,.no,.no,.no]:=by simp[en]
  have g2:cX 3 (aP aR (aC (aD 0) (aC (cD (.int 1)) (aC (cD (.int 4)) aH)))) [.sh (.int c),.sh (.int most),.sh (.int n),.no,.no,.no,.no,.no]= .nx [.sh (.int c),.sh (.int most),.sh (.int n),.sh (.int kd),.no,.no,.no,.no]:=by simp[ek]
  have g3:vB 4 foO [.sh (.int c),.sh (.int most),.sh (.int n),.sh (.int kd),.no,.no,.no,.no]= .nx [.sh (.int c),.sh (.int most),.sh (.int n),.sh (.int kd),.nw (.lst (O.map .int)),.no,.no,.no]:=by rw[aEo,eO];rfl
  have g4:fM 5 (dh aH) [.sh (.int c),.sh (.int most),.sh (.int n),.sh (.int kd),.nw (.lst (O.map .int)),.no,.no,.no]= .nx (foV c most n kd O [] .no .no):=rfl;have g5:iU aAY (aC (cD (.int 1)) (aC (aD 2) aH)) (foV c most n kd O [] .no .no)= .ok (bC 1 n):=by simp[hr]
  simp only[dY,dX,bD,st];rw[aM,g1,aW,aM,g2,aW,aM,g3,aW,aM,g4,aW,aM,dD,g5,bN,e,aW];simp[q1,owD]
 .obtain⟨⟨a1,a2⟩,⟨b1,b2⟩,lt⟩:=hq p hp
  exact⟨a1,a2,b1,b2,by lia⟩
end
def aBa:ltP p q=true↔p.1<q.1\/p.1=q.1/\p.2<q.2:=by
 unfold ltP;have e:HT.lexLt [p.1,p.2] [q.1,q.2]=true↔p.1<q.1\/p.1=q.1/\p.2<q.2:=by
  by_cases h1:p.1=q.1
  .by_cases h2:p.2=q.2
   .simp[HT.lexLt,h1,h2]
   .simp[HT.lexLt,h1,h2]
  .simp[HT.lexLt,h1]
 exact e
def aDI{ps:gX}:vG ps=true↔ps.Pairwise λ p q=>p.1<q.1\/p.1=q.1/\p.2<q.2:=by
 constructor
 .intro h
  have h':=wu.mp h;clear h;induction ps with
  |nil=>exact .nil
  |cons p ps ih=>
   have hs:∀(i:Nat) (p q:Int×Int),ps[i]? =some p->ps[i+1]? =some q->ltP p q=true:=λ i a b e1 e2=>h' (i+1) a b e1 e2
   have hp:=ih hs;refine zAb.mpr ⟨λ q hq=>?_,hp⟩;cases ps with
   |nil=>cases hq
   |cons r rs=>
    have h1:=aBa.mp (h' 0 p r rfl rfl);rcases zAT.mp hq with rfl|hq
    .exact h1
    .have h2:=(zAb.mp hp).1 q hq
     lia
 .intro h
  rw[wu];intro i p q e1 e2;rw[aBa];obtain⟨h1,rfl⟩:=zAL.mp e1;obtain⟨h2,rfl⟩:=zAL.mp e2;exact zAx.mp h i (i+1) h1 h2 (zCg i)
def xX{n:Int}{ps:gX}(h:Ow n ps)(low:∀p∈ps,p.1<p.2):gR [owD n ps]= .ok (.bl (((lF n (dbl ps)).length:Int)==n-(ps.length:Int))):=by
 have e:=aD3 h low;have st:aj 1 [owD n ps]=[.sh (owD n ps)]:=rfl;have h0:ixD (owD n ps) (.int 0)= .ok (.int n):=by simp[owD]
 have h1:ixD (owD n ps) (.int 1)= .ok (.tup (ps.map pD)):=by simp[owD]
 simp only[gR,eX,bD,st];simp[e,h0,h1]
theorem qb:∀{ts:List D},ts.all (cC n)=true->(ts.map intOf).map D.int=ts
 |[],_=>rfl
 |t::ts,h=>by
  rw[zED,zAN]at h;obtain⟨a,rfl,_⟩:=qM h.1;rw[zAP,zAP,qb h.2];rfl
def yx(m:Int):D->Bool
 | .tup ts=>ts.all (cC m)&&o8 ltI (ts.map intOf)
 |_=>false
def vP(h:pln d=true)(hs:aAQ d=true):dZ [.int m,d]= .ok (.bl (yx m d)):=by
 cases d with
 |tup ts=>
  have hp:ou ts=true:=by simpa[pln]using h
  have hl:ts.length<=100000:=by simpa[aAQ]using hs
  have L:=mY (a:=gnm 2) (u:=ifS (oA (tst (aP cV (aC (aD 0) (aC (aD 2) aH))))) (retS (cD (.bl false))) Ou.nx) (r:=.bl false)
   ts (λ i=>match ts[i]? with|some t=>cC m t|none=>true) (λ ρ=>∃s,ρ=[.sh (.int m),.sh (.tup ts),s]) [.sh (.int m),.sh (.tup ts),.no] ⟨_,rfl⟩ (by
    rintro i d ρ hd ⟨s,rfl⟩;have e:=lQ (m:=m) (mQ (uD hp (zAa hd)));simp only[hd];cases c:cC m d with
    |true=>right;exact⟨_,by simp[e,c];rfl,⟨_,rfl⟩,rfl⟩
    |false=>left;exact⟨by simp[e,c],rfl⟩)
  have st:aj 3 [.int m,.tup ts]=[.sh (.int m),.sh (.tup ts),.no]:=rfl;rcases L with ⟨e,i,hi,o⟩|⟨ρ',e,⟨s,rfl⟩,o⟩
  .have:ts.all (cC m)=false:=by
    rw[zGT];rw[zAC hi]at o;exact⟨ts[i],zCQ hi,by simpa using o⟩
   simp only[dZ,bu,bD,st];simp[e,yx,this]
  .have:ts.all (cC m)=true:=by
    rw[zAn];intro t ht;obtain⟨i,hi,rfl⟩:=zBY ht
    have:=o i hi
    rw[zAC hi]at this;exact this
   have er:=zO (ps:=ts.map intOf) (by rw[zAB];exact hl);rw[qb this]at er;simp only[dZ,bu,bD,st];simp[e,yx,this,er]
 |_=>simp[dZ,bu,aj,mV (mQ h),oH,yx]
def sE(h:pln d=true)(hs:aAQ d=true):fK [.int m,d]=if yx m d=true then .ok .non else .ex "NoPlace":=by
 have st:aj 2 [.int m,d]=[.sh (.int m),.sh d]:=rfl;simp only[fK,cI,bD,st];cases c:yx m d<;>simp[vP h hs,c]
def aIo{ws:List Int}:o8 ltI ws=true↔ws.Pairwise (·< ·):=by
 constructor
 .intro h
  have h':=jW.mp h;clear h;induction ws with
  |nil=>exact .nil
  |cons x ws ih=>
   have hp:=ih λ i a b e1 e2=>h' (i+1) a b e1 e2
   refine zAb.mpr ⟨λ y hy=>?_,hp⟩;cases ws with
   |nil=>cases hy
   |cons z zs=>
    have h1:x<z:=of_decide_eq_true (h' 0 x z rfl rfl);rcases zAT.mp hy with rfl|hy
    .exact h1
    .have:=(zAb.mp hp).1 y hy
     lia
 .intro h
  rw[jW];intro i p q e1 e2;obtain⟨h1,rfl⟩:=zAL.mp e1;obtain⟨h2,rfl⟩:=zAL.mp e2;exact decide_eq_true (zAx.mp h i (i+1) h1 h2 (zCg i))
theorem ints_of:∀ws:List Int,(ws.map D.int).map intOf=ws
 |[]=>rfl
 |w::ws=>by rw[zAP,zAP,ints_of ws];rfl
def aH1{n:Int}{ws:List Int}(hr:ws.Pairwise (·< ·))(hin:∀x∈ws,0<=x/\x<n):yx n (tupI ws)=true:=by
 unfold tupI yx;dsimp only;rw[ints_of,aIo.mpr hr,zCl,zAn];intro d hd;obtain⟨x,hx,rfl⟩:=zAS.mp hd
 have:=hin x hx
 simp[cC,this]
def aHg{t u:En->Rs Bool}{ρ:En}(h1:∃b,t ρ= .ok b)(h2:∃b,u ρ= .ok b):∃b,orT t u ρ= .ok b:=by
 obtain⟨b1,e1⟩:=h1;obtain⟨b2,e2⟩:=h2;rw[aHh,e1,e2];cases b1
 .exact⟨b2,rfl⟩
 .exact⟨true,rfl⟩
def aGS{t u:En->Rs Bool}{ρ:En}(h1:∃b,t ρ= .ok b)(h2:∃b,u ρ= .ok b):∃b,zx t u ρ= .ok b:=by
 obtain⟨b1,e1⟩:=h1;obtain⟨b2,e2⟩:=h2;rw[aGT,e1,e2];cases b1
 .exact⟨false,rfl⟩
 .exact⟨b2,rfl⟩
def smB:En->Ou:=ifS (orT (tsb (op2 (eqR false) (aD 3) (cD (.int 0)))) (zx (tsb (op2 gtD (aD 3) (cD (.int 1)))) (tsb (op2 (eqR false) (aP aR (aC (aD 0) (aC (op2 cM (op2 cM (aD 2) (cD (.int 1))) (aD 5)) (aC (op2 cM (cD (.int 1)) (aD 3)) aH)))) (cD (.int 0)))))) (gO 4 (bA (aD 5))) Ou.nx
def ql{c a n:Int}(h0:0<=n)(h1:n<=60)(ha:0<=a)(ha2:a<=100000):∃ws:List Int,il [.int c,.int n,.int a]= .ok (tupI ws)/\ws.Pairwise (·< ·)/\(∀x∈ws,0<=x/\x<n)/\ws.length<=60:=by
 obtain⟨k,ek,hk6⟩:=gr (c:=c) (k:=a) (b:=6) ha (by lia) (by decide) (by decide);have hr:=gn (j:=n) (by lia) (by lia);obtain⟨ρ',e,ws,s5,rfl,w1,w2,w3⟩:=iZ (a:=gnm 5) (u:=smB) (ds:=bC 0 n)
  (λ i ρ=>∃(ws:List Int) (s5:Slot),ρ=[.sh (.int c),.sh (.int n),.sh (.int a),.sh (.int k),.ow (.lst (ws.map .int)),s5]/\ws.Pairwise (·< ·)/\(∀x∈ws,0<=x/\x<(i:Int))/\ws.length<=i)
  (by
   rintro i d ρ hd ⟨ws,s5,rfl,w1,w2,w3⟩;obtain⟨rfl,hlt⟩:=lE hd;obtain⟨r,er,_⟩:=gr (c:=c) (k:=a+1+(0+(i:Int))) (b:=1+(k:Int)) (by lia) (by lia) (by lia) (by lia);have hz:ws.length<16777216:=by lia
   have yes:∃ws':List Int,gO 4 (bA (aD 5)) [.sh (.int c),.sh (.int n),.sh (.int a),.sh (.int k),.ow (.lst (ws.map .int)),.sh (.int (0+(i:Int)))]= .nx [.sh (.int c),.sh (.int n),.sh (.int a),.sh (.int k),.ow (.lst (ws'.map .int)),.sh (.int (0+(i:Int)))]/\ws'.Pairwise (·< ·)/\(∀x∈ws',0<=x/\x<((i+1:Nat):Int))/\ws'.length<=i+1:=by
    refine⟨ws++[0+(i:Int)],by simp[gO,hz],?_,λ x hx=>?_,by simp;lia⟩
    .rw[List.pairwise_append]
     exact⟨w1,by simp,λ x hx y hy=>by rw[zAD.mp hy];have:=w2 x hx;lia⟩
    .rcases zAO.mp hx with z|z
     .have:=w2 x z;lia
     .rw[zAD.mp z];lia
   have no:∀x∈ws,0<=x/\x<((i+1:Nat):Int):=λ x hx=>by have:=w2 x hx;lia
   show∃ρ2,smB [.sh (.int c),.sh (.int n),.sh (.int a),.sh (.int k),.ow (.lst (ws.map .int)),.sh (.int (0+(i:Int)))]= .nx ρ2/\_
   unfold smB;rw[fX];obtain⟨b,eb⟩:∃b,orT (tsb (op2 (eqR false) (aD 3) (cD (.int 0)))) (zx (tsb (op2 gtD (aD 3) (cD (.int 1)))) (tsb (op2 (eqR false) (aP aR (aC (aD 0) (aC (op2 cM (op2 cM (aD 2) (cD (.int 1))) (aD 5)) (aC (op2 cM (cD (.int 1)) (aD 3)) aH)))) (cD (.int 0))))) [.sh (.int c),.sh (.int n),.sh (.int a),.sh (.int k),.ow (.lst (ws.map .int)),.sh (.int (0+(i:Int)))]= .ok b:=by
    have g:∀ρ:En,ρ=[.sh (.int c),.sh (.int n),.sh (.int a),.sh (.int k),.ow (.lst (ws.map .int)),.sh (.int (0+(i:Int)))]->tsb (op2 (eqR false) (aP aR (aC (aD 0) (aC (op2 cM (op2 cM (aD 2) (cD (.int 1))) (aD 5)) (aC (op2 cM (cD (.int 1)) (aD 3)) aH)))) (cD (.int 0))) ρ= .ok ((r:Int)==0):=λ ρ e=>by
     subst e;rw[aAH,lH,mG]
     have:aC (aD 0) (aC (op2 cM (op2 cM (aD 2) (cD (.int 1))) (aD 5)) (aC (op2 cM (cD (.int 1)) (aD 3)) aH)) [.sh (.int c),.sh (.int n),.sh (.int a),.sh (.int k),.ow (.lst (ws.map .int)),.sh (.int (0+(i:Int)))]= .ok [.int c,.int (a+1+(0+(i:Int))),.int (1+(k:Int))]:=rfl
     rw[this,cL,er];rfl
    exact aHg ⟨((k:Int)==0),by simp⟩ (aGS ⟨decide ((k:Int)>1),by simp⟩ ⟨_,g _ rfl⟩)
   rw[eb,bN];cases b with
   |true=>
    obtain⟨ws',e,q1,q2,q3⟩:=yes;rw[if_pos rfl,e];exact⟨_,rfl,ws',_,rfl,q1,q2,q3⟩
   |false=>
    rw[if_neg (by simp)];exact⟨_,rfl,ws,_,rfl,w1,no,by lia⟩)
  (ρ:=[.sh (.int c),.sh (.int n),.sh (.int a),.sh (.int k),.ow (.lst []),.no]) ⟨[],.no,rfl,.nil,λ x hx=>(nomatch hx),by simp⟩
 have hln:(((bC 0 n).length:Nat):Int)=n:=by rw[fD];lia
 rw[hln]at w2;rw[fD]at w3;refine⟨ws,?_,w1,w2,by lia⟩;have st:aj 6 [.int c,.int n,.int a]=[.sh (.int c),.sh (.int n),.sh (.int a),.no,.no,.no]:=rfl;have df:fZ=aY (cX 3 (aP aR (aC (aD 0) (aC (aD 2) (aC (cD (.int 6)) aH))))) (aY (fM 4 (dh aH)) (aY (gM (iU jN (aC (aD 1) aH)) (gnm 5) smB) (retS (opA gW (aC (su 4) aH))))):=rfl;simp only[il,df,bD,st];simp[ek,hr,e,tupI]
section
variable{ps qs:gX}{S:List Int}
def inN(S:List Int)(ps:gX):Nat:=(ps.filter λ p=>decide (p.1∈S)&&decide (p.2∈S)).length
def Ac(ps:gX):Prop:=∀S:List Int,S.Nodup->S≠[]->inN S ps+1<=S.length
def aDz(h:ps.Perm qs):inN S ps=inN S qs:=(h.filter _).length_eq
def Ac.perm(h:ps.Perm qs)(A:Ac qs):Ac ps:=λ S nd ne=>by rw[aDz h];exact A S nd ne
def nD(a b:Int):(mnI a b=a/\mxI a b=b)\/(mnI a b=b/\mxI a b=a):=by
 unfold mnI mxI;split<;>split
 .lia
 .exact .inr ⟨rfl,rfl⟩
 .exact .inl ⟨rfl,rfl⟩
 .have:a=b:=by lia
  exact .inl ⟨rfl,this⟩
def aDj{a b:Int}:(decide (mnI a b∈S)&&decide (mxI a b∈S))=(decide (a∈S)&&decide (b∈S)):=by
 rcases nD a b with ⟨h1,h2⟩|⟨h1,h2⟩
 .rw[h1,h2]
 .rw[h1,h2,Bool.and_comm]
def Fr.ac(h:Fr ps):Ac ps:=by
 induction h with
 |nil=>
  intro S _ ne
  have:=List.length_pos_iff.mpr ne
  show 0+1<=S.length;lia
 |@snoc ps a b h ne no ih=>
  intro S nd hS;unfold inN;rw[zB7,zAW,zBF,zDY];dsimp only;rw[aDj];by_cases c:a∈S/\b∈S
  .rw[if_pos (by simp[c])]
   have e:(ps.filter λ p=>decide (p.1∈S)&&decide (p.2∈S))=ps.filter λ p=>decide (p.1∈S.erase b)&&decide (p.2∈S.erase b):=zBh λ p hp=>by
    simp only[zCK (no p hp).1,zCK (no p hp).2]
   have h1:=ih (S.erase b) (nd.erase b) (zEF ((zCK ne).mpr c.1));unfold inN at h1;rw[zDE c.2]at h1;rw[e];simp only[zA2,zBi];lia
  .rw[if_neg (by simpa using c)]
   have:=ih S nd hS
   unfold inN at this;simpa using this
end
section
variable{n:Int}{ps qs:gX}
def Cn.sub(h:Cn es a b)(s:∀p∈es,p∈es'):Cn es' a b:=by
 induction h with
 |refl=>exact .refl
 |step _ e ih=>exact ih.step (s _ e)
def aAd{a b x y:Int}:(x,y)∈dbl (ps++[(mnI a b,mxI a b)])↔(x,y)∈dbl ps\/(x=a/\y=b)\/(x=b/\y=a):=by
 rw[cR,cR,zAO,zAO,zAD,zAD,zCa,zCa];rcases nD a b with ⟨h1,h2⟩|⟨h1,h2⟩
 .rw[h1,h2]
  constructor
  .rintro((h|h)|(h|h))
   .exact .inl (.inl h)
   .exact .inr (.inl h)
   .exact .inl (.inr h)
   .exact .inr (.inr ⟨h.2,h.1⟩)
  .rintro((h|h)|(h|h))
   .exact .inl (.inl h)
   .exact .inr (.inl h)
   .exact .inl (.inr h)
   .exact .inr (.inr ⟨h.2,h.1⟩)
 .rw[h1,h2]
  constructor
  .rintro((h|h)|(h|h))
   .exact .inl (.inl h)
   .exact .inr (.inr h)
   .exact .inl (.inr h)
   .exact .inr (.inl ⟨h.2,h.1⟩)
  .rintro((h|h)|(h|h))
   .exact .inl (.inl h)
   .exact .inr (.inl h)
   .exact .inr (.inr ⟨h.2,h.1⟩)
   .exact .inl (.inr h)
def alone(no:∀p∈ps,p.1≠b/\p.2≠b)(h:Cn (dbl ps) x y):x=b↔y=b:=by
 induction h with
 |refl=>exact Iff.rfl
 |@step u v _ e ih=>
  have:u≠b/\v≠b:=by
   rcases cR.mp e with z|z
   .exact⟨(no _ z).1,(no _ z).2⟩
   .exact⟨(no _ z).2,(no _ z).1⟩
  rw[ih];exact⟨λ z=>absurd z this.1,λ z=>absurd z this.2⟩
def aGM(no:∀p∈ps,p.1≠b/\p.2≠b)(h:Cn (dbl (ps++[(mnI a b,mxI a b)])) x y):Cn (dbl ps) x y\/(Cn (dbl ps) x a/\y=b)\/(x=b/\Cn (dbl ps) a y):=by
 induction h with
 |refl=>exact .inl .refl
 |@step u v _ e ih=>
  rcases aAd.mp e with e2|⟨rfl,rfl⟩|⟨rfl,rfl⟩
  .rcases ih with h|⟨h,e3⟩|⟨e3,h⟩
   .exact .inl (h.step e2)
   .exact .inr (.inl ⟨h,(alone no (.step .refl e2)).mp e3⟩)
   .exact .inr (.inr ⟨e3,h.step e2⟩)
  .rcases ih with h|⟨h,e1⟩|⟨h,k⟩
   .exact .inr (.inl ⟨h,rfl⟩)
   .exact .inr (.inl ⟨h,rfl⟩)
   .subst h;exact .inl .refl
  .rcases ih with h|⟨h,_⟩|⟨h,k⟩
   .have:=(alone no h).mpr rfl
    subst this;exact .inr (.inr ⟨rfl,.refl⟩)
   .exact .inl h
   .exact .inr (.inr ⟨h,.refl⟩)
def aDo(hin:∀p∈ps,(0<=p.1/\p.1<n)/\(0<=p.2/\p.2<n))(ha:0<=a/\a<n):∃m,(0<=m/\m<n)/\Cn (dbl ps) a m/\bG (dbl ps) m=true:=by
 have cE:∀x y,(x,y)∈dbl ps->0<=y/\y<n:=λ x y h=>by
  rcases cR.mp h with z|z
  .exact(hin _ z).2
  .exact(hin _ z).1
 have:∀k:Nat,∀a:Int,(0<=a/\a<n)->a.toNat<=k->∃m,(0<=m/\m<n)/\Cn (dbl ps) a m/\bG (dbl ps) m=true:=by
  intro k;induction k with
  |zero=>exact λ a ha hk=>⟨a,ha,.refl,cF.mpr λ b hb _=>by lia⟩
  |succ k ih=>
   intro a ha hk;by_cases c:bG (dbl ps) a=true
   .exact⟨a,ha,.refl,c⟩
   .rw[cF]at c
    obtain⟨b,hb⟩:=Classical.not_forall.mp c;obtain⟨hb0,hb⟩:=zF2.mp hb;obtain⟨hb1,hb⟩:=zF2.mp hb;obtain⟨m,h1,h2,h3⟩:=ih b (hb1.inn cE ha) (by lia);exact⟨m,h1,hb1.trans h2,h3⟩
 exact this a.toNat a ha (zAU _)
def aEQ{l:List Int}{p:Int->Bool}{M:Int}(nd:l.Nodup)(hm:M∈l)(hp:p M=true):(l.filter λ x=>p x&& !decide (x=M)).length+1=(l.filter p).length:=by
 induction l with
 |nil=>cases hm
 |cons x l ih=>
  obtain⟨h1,h2⟩:=zAh.mp nd;by_cases c:x=M
  .subst c
   have e:(l.filter λ y=>p y&& !decide (y=x))=l.filter p:=zBh λ y hy=>by
    have:y≠x:=λ e=>h1 (e▸hy)
    simp[this]
   simp[hp,e]
  .have hm':M∈l:=(zAT.mp hm).resolve_left λ e=>c e.symm
   have:=ih h2 hm'
   by_cases d:p x=true
   .simp[d,c];exact this
   .simp[d];exact this
def Fr.parts(h:Fr ps)(hin:∀p∈ps,(0<=p.1/\p.1<n)/\(0<=p.2/\p.2<n)):((upI n).filter (bG (dbl ps))).length+ps.length=n.toNat:=by
 induction h with
 |nil=>
  have e:(upI n).filter (bG (dbl []))=upI n:=zDq.mpr λ x hx=>cF.mpr λ b hb h=>by
   have:∀y,Cn (dbl []) x y->y=x:=λ y h=>by
    induction h with
    |refl=>rfl
    |step _ e _=>cases e
   rw[this b h];exact Int.le_refl _
  rw[e,dF];rfl
 |@snoc ps a b h ne no ih=>
  have hin':∀p∈ps,(0<=p.1/\p.1<n)/\(0<=p.2/\p.2<n):=λ p hp=>hin p (zAI _ hp)
  have hab:(0<=a/\a<n)/\(0<=b/\b<n):=by
   have:=hin (mnI a b,mxI a b) (by simp)
   dsimp only at this;rcases nD a b with ⟨h1,h2⟩|⟨h1,h2⟩
   .rw[h1,h2]at this;exact this
   .rw[h1,h2]at this;exact⟨this.2,this.1⟩
  obtain⟨m,hm1,hm2,hm3⟩:=aDo hin' hab.1;have hmb:m≠b:=λ z=>ne ((alone no hm2).mpr z)
  have S:=m7 ps;have S':=m7 (ps++[(mnI a b,mxI a b)]);have sub:∀p∈dbl ps,p∈dbl (ps++[(mnI a b,mxI a b)]):=λ p hp=>aAd.mpr (.inl hp)
  have tie:Cn (dbl (ps++[(mnI a b,mxI a b)])) m b:=((hm2.sub sub).symm S').step (aAd.mpr (.inr (.inl ⟨rfl,rfl⟩)));have lb:bG (dbl ps) b=true:=cF.mpr λ y _ h=>by rw[(alone no h).mp rfl];exact Int.le_refl _
  have key:∀x∈upI n,bG (dbl (ps++[(mnI a b,mxI a b)])) x=(bG (dbl ps) x&& !decide (x=if m<b then b else m)):=λ x hx=>by
   have hx:=bU.mp hx;rw[zBK,zAN,cF,cF];constructor
   .intro h
    refine⟨λ y hy hc=>h y hy (hc.sub sub),?_⟩;rw[zBI,decide_eq_false_iff_not];intro e;split at e
    .subst e
     have:=h m hm1.1 (tie.symm S')
     lia
    .subst e
     have:=h b hab.2.1 tie
     lia
   .rintro⟨h,hM⟩ y hy hc
    rw[zBI,decide_eq_false_iff_not]at hM;rcases aGM no hc with h1|⟨h1,rfl⟩|⟨rfl,h1⟩
    .exact h y hy h1
    .have e1:=h m hm1.1 (h1.trans hm2)
     have e2:=cF.mp hm3 x hx.1 ((hm2.symm S).trans (h1.symm S));split at hM<;>lia
    .have e1:=cF.mp hm3 y hy ((hm2.symm S).trans h1)
     split at hM<;>lia
  rw[zBh key];have hM:(if m<b then b else m)∈upI n:=by
   split
   .exact bU.mpr hab.2
   .exact bU.mpr hm1
  have hp:bG (dbl ps) (if m<b then b else m)=true:=by
   split
   .exact lb
   .exact hm3
  have:=aEQ (iI n) hM hp
  have:=ih hin'
  rw[zAW,zAq];lia
def aAk(h:∀p,p∈ps↔p∈qs):bG (dbl ps)=bG (dbl qs):=by
 have e:∀p,p∈dbl ps↔p∈dbl qs:=λ⟨x,y⟩=>by rw[cR,cR,h,h]
 funext x;rw[zBK,cF,cF];exact⟨λ k y hy hc=>k y hy (hc.sub λ p hp=>(e p).mpr hp),λ k y hy hc=>k y hy (hc.sub λ p hp=>(e p).mp hp)⟩
def uP(h:Ow n ps)(low:∀p∈ps,p.1<p.2)(hp:ps.Perm qs)(F:Fr qs):gR [owD n ps]= .ok (.bl true):=by
 rw[xX h low];have e:=F.parts (n:=n) λ p hq=>by
  obtain⟨a,b,c,d,_⟩:=h.pr p (hp.mem_iff.mpr hq);exact⟨⟨a,b⟩,c,d⟩
 have hl:(lF n (dbl ps)).length=((upI n).filter (bG (dbl qs))).length:=by
  unfold lF;rw[zAB,aAk λ p=>hp.mem_iff]
 have h0:=h.n0
 have:(((lF n (dbl ps)).length:Int)==n-(ps.length:Int))=true:=by
  rw[beq_iff_eq,hl,hp.length_eq];lia
 rw[this]
end
theorem fH{α:Type}[DecidableEq α]:∀{l m:List α},l.Nodup->(∀x∈l,x∈m)->l.length<=m.length
 |[],_,_,_=>zAi _
 |x::l,m,h,hs=>by
  obtain⟨h1,h2⟩:=zAh.mp h;have hx:=hs x zAJ
  have:=fH (m:=m.erase x) h2 λ y hy=>(zCK (λ e:y=x=>h1 (e▸hy))).mpr (hs y (zAF _ hy))
  have hp:=zF3 hx;rw[zDE hx]at this;rw[zA2];lia
section
variable{n:Int}{ps:gX}
def pC(h:Ow n ps):ps.Nodup:=by
 refine(aDI.mp h.ris).imp λ{a b} q e=>?_
 subst e;lia
end
section
variable{ps:gX}
theorem vz:∀{ps:gX},ps.Nodup->(∀p∈ps,p.1<p.2)->(dbl ps).Nodup
 |[],_,_=>zGm
 |p::ps,h,low=>by
  obtain⟨h1,h2⟩:=zAh.mp h;have ih:=vz h2 λ q hq=>low q (zAF _ hq)
  have lp:=low p zAJ;have no:∀q∈ps,q≠(p.2,p.1):=λ q hq e=>by
   have:=low q (zAF _ hq)
   rw[e]at this;dsimp only at this;lia
  rw[z9];refine zAh.mpr ⟨λ z=>?_,zAh.mpr ⟨λ z=>?_,ih⟩⟩
  .rcases zAT.mp z with e|z
   .have:=congrArg zEJ e
    dsimp only at this;lia
   .rcases cR.mp (show(p.1,p.2)∈dbl ps from z)with z|z
    .exact h1 z
    .exact no _ z rfl
  .rcases cR.mp z with z|z
   .exact no _ z rfl
   .exact h1 z
def aCN(h:ps.Nodup)(low:∀p∈ps,p.1<p.2)(a:Int):(iY (dbl ps) a).Nodup:=by
 unfold iY List.Nodup;rw[zBU];refine zHI ?_ ((vz h low).filter _);intro p q hp hq ne e;have e1:p.1=a:=by simpa using(zA5.mp hp).2
 have e2:q.1=a:=by simpa using(zA5.mp hq).2
 exact ne (zFY (e1.trans e2.symm) e)
end
abbrev Hr:=Int×Option Int
def upD:Option Int->D
 |none=>.non
 |some u=>.int u
def hrD(r:Hr):D:=.tup [.int r.1,upD r.2]
structure Hg(n:Int)(ps:gX)(A T:List Hr):Prop where
 nd:((A++T).map (·.1)).Nodup
 inn:∀r∈A++T,0<=r.1/\r.1<n
 tie:∀r∈A++T,∀u,r.2=some u->(r.1,u)∈dbl ps
 ord:∀X r Y,A++T=X++r::Y->∀u,r.2=some u->u∈X.map (·.1)
 cl:∀r∈A,∀q,(r.1,q)∈dbl ps->r.2=some q\/(q,some r.1)∈A
 hd:T=[]\/∃t T',T=(t,none)::T'/\∀r∈T',∃u,r.2=some u/\u∈T.map (·.1)
theorem yr{α:Type}{R:α->α->Prop}:∀{l:List α},(∀X r Y,l=X++r::Y->∀s∈Y,R r s)->l.Pairwise R
 |[],_=>.nil
 |a::l,h=>.cons (h [] a l rfl) (yr λ X r Y e=>h (a::X) r Y (by rw[e];rfl))
section
variable{n:Int}{ps:gX}
def wI(low:∀p∈ps,p.1<p.2){x y:Int}(h:(x,y)∈dbl ps):(mnI x y,mxI x y)∈ps:=by
 unfold mnI mxI;rcases cR.mp h with z|z
 .have:=low _ z
  dsimp only at this;rw[if_neg (by lia),if_pos (by lia)];exact z
 .have:=low _ z
  dsimp only at this;rw[if_pos (by lia),if_neg (by lia)];exact z
def aB8{a b c d:Int}(h:(mnI a b,mxI a b)=(mnI c d,mxI c d)):(a=c/\b=d)\/(a=d/\b=c):=by
 rw[zCa]at h;obtain⟨h1,h2⟩:=h;rcases nD a b with ⟨e1,e2⟩|⟨e1,e2⟩<;>rcases nD c d with ⟨e3,e4⟩|⟨e3,e4⟩<;>rw[e1,e3]at h1<;>rw[e2,e4]at h2
 .exact .inl ⟨h1,h2⟩
 .exact .inr ⟨h1,h2⟩
 .exact .inr ⟨h2,h1⟩
 .exact .inl ⟨h2,h1⟩
def aEd(r:Hr):Int×Int:=(mnI r.1 (r.2.getD 0),mxI r.1 (r.2.getD 0))
def Hg.row(h:Hg n ps A T){r s:Hr}(hr:r∈A++T)(hs:s∈A++T)(e:r.1=s.1):r=s:=by
 have:=h.nd
 rw[zAg,zBU]at this;exact zEP λ z=>by
  obtain⟨i,hi,rfl⟩:=zBY hr;obtain⟨j,hj,rfl⟩:=zBY hs;rcases zG5 i j with k|k|k
  .exact zAx.mp this i j hi hj k e
  .subst k;exact z rfl
  .exact zAx.mp this j i hj hi k e.symm
def Hg.apart(h:Hg n ps A T){x:Int}(h1:x∈A.map (·.1))(h2:x∈T.map (·.1)):False:=by
 have:=h.nd
 rw[zA0,zAd]at this;exact this.2.2 x h1 x h2 rfl
def Hg.fresh(h:Hg n ps A T)(low:∀p∈ps,p.1<p.2)(Ac':Ac ps)(hr:r∈T)(ht:(r.1,q)∈dbl ps)(hu:r.2≠some q)(hn:(q,some r.1)∉T):q∉(A++T).map (·.1):=by
 have hrT:r.1∈T.map (·.1):=zAS.mpr ⟨r,hr,rfl⟩;intro hq;rw[zA0]at hq;rcases zAO.mp hq with hq|hq
 .obtain⟨s,hs,rfl⟩:=zAS.mp hq
  rcases h.cl s hs r.1 (m7 ps _ _ ht)with e|e
  .obtain⟨X,Y,rfl⟩:=zCv hs
   have:=h.ord X s (Y++T) (by simp) r.1 e
   exact h.apart (by rw[zA0];exact zAI _ this) hrT
  .exact h.apart (zAS.mpr ⟨_,e,rfl⟩) hrT
 .rcases h.hd with z|⟨t,T',rfl,hT⟩
  .rw[z]at hr;cases hr
  have ndT:(((t,none)::T').map (·.1)).Nodup:=by
   have:=h.nd
   rw[zA0,zAd]at this;exact this.2.1
  have sub:∀{s:Hr},s∈T'->s∈A++(t,none)::T':=λ hs=>zAY _ (zAF _ hs)
  have tR:∀{s:Hr} {u:Int},s.2=some u->aEd s=(mnI s.1 u,mxI s.1 u):=λ{s u} e=>by unfold aEd;rw[e];rfl
  have hL:(T'.map aEd++[(mnI r.1 q,mxI r.1 q)]).Nodup:=by
   rw[zAd];refine⟨?_,by simp,λ a ha b hb e=>?_⟩
   .rw[zAg,zBU]
    refine yr λ X s Y e s' hs' z=>?_
    have hs:s∈T':=by rw[e];simp
    have hs2:s'∈T':=by rw[e];simp[hs']
    obtain⟨u,eu,_⟩:=hT s hs;obtain⟨u',eu',_⟩:=hT s' hs2;rw[tR eu,tR eu']at z;have ne:s.1≠s'.1:=λ z2=>by
     rw[e]at ndT;rw[zAP,zA0,zAP]at ndT
     have:=(zAh.mp (zAd.mp (zAh.mp ndT).2).2.1).1
     exact this (by rw[z2];exact zAS.mpr ⟨s',hs',rfl⟩)
    rcases aB8 z with ⟨z1,_⟩|⟨z1,z2⟩
    .exact ne z1
    .have:=h.ord (A++(t,none)::X) s Y (by rw[e];simp) u eu
     rw[z2]at this;have nd:=h.nd;rw[e]at nd;rw[show A++(t,none)::(X++s::Y)=(A++(t,none)::X)++s::Y by simp,zA0,zAd]at nd;exact nd.2.2 _ this _ (zAS.mpr ⟨s',zAF _ hs',rfl⟩) rfl
   .rw[zAD]at hb
    subst hb;obtain⟨s,hs,rfl⟩:=zAS.mp ha;obtain⟨u,eu,_⟩:=hT s hs;rw[tR eu]at e;rcases aB8 e with ⟨z1,z2⟩|⟨z1,z2⟩
    .have:=h.row (sub hs) (zAY A hr) z1
     subst this;rw[z2]at eu;exact hu eu
    .refine hn (zAF _ ?_)
     have:s=(q,some r.1):=zFY z1 (by rw[eu,z2])
     rw[<-this];exact hs
  have hin:∀p∈T'.map aEd++[(mnI r.1 q,mxI r.1 q)],p∈ps.filter λ p=>decide (p.1∈((t,none)::T').map (·.1))&&decide (p.2∈((t,none)::T').map (·.1)):=λ p hp=>by
   rcases zAO.mp hp with z|z
   .obtain⟨s,hs,rfl⟩:=zAS.mp z
    obtain⟨u,eu,hm⟩:=hT s hs;rw[tR eu];refine zA5.mpr ⟨wI low (h.tie s (sub hs) u eu),?_⟩;dsimp only;rw[aDj,zAN,decide_eq_true_eq,decide_eq_true_eq];exact⟨zAS.mpr ⟨s,zAF _ hs,rfl⟩,hm⟩
   .rw[zAD.mp z]
    refine zA5.mpr ⟨wI low ht,?_⟩;dsimp only;rw[aDj,zAN,decide_eq_true_eq,decide_eq_true_eq];exact⟨hrT,hq⟩
  have h1:=fH hL hin;have h2:=Ac' (((t,none)::T').map (·.1)) ndT (by simp);unfold inN at h2;rw[zAW,zAB,zAq]at h1;rw[zAB,zA2]at h2;lia
def tM{α:Type}{l X Y:List α}{a r:α}(e:l++[a]=X++r::Y):(X=l/\r=a/\Y=[])\/∃Y',Y=Y'++[a]/\l=X++r::Y':=by
 rcases zFi Y with rfl|⟨Y',b,rfl⟩
 .have:=zG3 e rfl
  rw[zEL]at this;exact .inl ⟨this.1.symm,this.2.1.symm,rfl⟩
 .have e2:l++[a]=(X++r::Y')++[b]:=by rw[e];simp
  have:=zG3 e2 rfl
  rw[zEL]at this;exact .inr ⟨Y',by rw[this.2.1,zFh],this.1⟩
def Hg.snoc(h:Hg n ps A T)(hr:r∈T)(hq:0<=q/\q<n)(ht:(r.1,q)∈dbl ps)(hn:q∉(A++T).map (·.1)):Hg n ps A (T++[(q,some r.1)]):=by
 have hrT:r.1∈T.map (·.1):=zAS.mpr ⟨r,hr,rfl⟩;refine⟨?_,λ s hs=>?_,λ s hs u eu=>?_,λ X s Y e u eu=>?_,h.cl,.inr ?_⟩
 .rw[<-zAo,zA0,zAd]
  exact⟨h.nd,by simp,λ x hx y hy e=>by rw[zAP,zCU,zAD]at hy;subst hy;subst e;exact hn hx⟩
 .rw[<-zAo]at hs
  rcases zAO.mp hs with z|z
  .exact h.inn s z
  .rw[zAD.mp z];exact hq
 .rw[<-zAo]at hs
  rcases zAO.mp hs with z|z
  .exact h.tie s z u eu
  .rw[zAD.mp z]at eu ⊢
   cases eu;exact m7 ps _ _ ht
 .rw[<-zAo]at e
  rcases tM e with ⟨rfl,rfl,_⟩|⟨Y',_,e2⟩
  .cases eu
   rw[zA0];exact zAY _ hrT
  .exact h.ord X s Y' e2 u eu
 .rcases h.hd with z|⟨t,T',rfl,hT⟩
  .rw[z]at hr;cases hr
  .refine⟨t,T'++[(q,some r.1)],rfl,λ s hs=>?_⟩
   rcases zAO.mp hs with z|z
   .obtain⟨u,e1,e2⟩:=hT s z
    exact⟨u,e1,by rw[zA0];exact zAI _ e2⟩
   .rw[zAD.mp z]
    exact⟨r.1,rfl,by rw[zA0];exact zAI _ hrT⟩
def Hg.len(h:Hg n ps A T):(A++T).length<=n.toNat:=by
 have:=fH (m:=upI n) h.nd λ x hx=>by
  obtain⟨r,hr,rfl⟩:=zAS.mp hx;exact bU.mpr (h.inn r hr)
 rwa [zAB,dF]at this
end
section
variable{n:Int}{ps:gX}
abbrev huE(n:Int)(ps:gX)(ll:cK)(seen:List Int)(rows:List Hr)(k:Int)(s5 s6 s7 s8:Slot):En:=[.sh (owD n ps),.sh (.lst (ll.map .lst)),.ow (.set seen),.ow (.lst (rows.map hrD)),.sh (.int k),s5,s6,s7,s8]
structure Sn(seen:List Int)(rows:List Hr):Prop where
 nd:seen.Nodup
 iff:∀x,x∈seen↔∃u,(x,some u)∈rows
def Sn.len(S:Sn seen (A++T))(h:Hg n ps A T):seen.length<=n.toNat:=by
 have:=fH (m:=upI n) S.nd λ x hx=>by
  obtain⟨u,hu⟩:=(S.iff x).mp hx;exact bU.mpr (h.inn _ hu)
 rwa [dF]at this
theorem uU(O:Ow n ps)(low:∀p∈ps,p.1<p.2)(Ac':Ac ps):∀(us:List Int) (T:List Hr) (seen:List Int) (s8:Slot),r∈T->us.Nodup->(∀u∈us,(r.1,u)∈dbl ps)->(∀u∈us,(u,some r.1)∉T)->Hg n ps A T->Sn seen (A++T)->
  ∃M seen' s8',forL (gnm 8) huI (us.map .int) (huE n ps ll seen (A++T) k s5 (.sh (.int r.1)) (.sh (upD r.2)) s8)= .nx (huE n ps ll seen' (A++(T++M)) k s5 (.sh (.int r.1)) (.sh (upD r.2)) s8')/\Hg n ps A (T++M)/\Sn seen' (A++(T++M))/\(∀u∈us,r.2=some u\/(u,some r.1)∈T++M)/\∀s∈M,s.2=some r.1
 |[],T,seen,s8,_,_,_,_,h,S=>⟨[],seen,s8,by simp,by simpa using h,by simpa using S,λ u hu=>(nomatch hu),λ s hs=>(nomatch hs)⟩
 |q::us,T,seen,s8,hr,nd,ht,hn,h,S=>by
  obtain⟨nd1,nd2⟩:=zAh.mp nd;have tq:=ht q zAJ;have hq:0<=q/\q<n:=by
   rcases cR.mp tq with z|z
   .have:=O.pr _ z;exact⟨this.2.2.1,this.2.2.2.1⟩
   .have:=O.pr _ z;exact⟨this.1,this.2.1⟩
  have hW:=h.len;have hsl:=S.len h;have hn1:=O.n1;rw[zAP,dW,qR,lK]
  show∃M seen' s8',(huI (huE n ps ll seen (A++T) k s5 (.sh (.int r.1)) (.sh (upD r.2)) (.sh (.int q)))).tn _=_/\_
  by_cases c:r.2=some q
  .have e:huI (huE n ps ll seen (A++T) k s5 (.sh (.int r.1)) (.sh (upD r.2)) (.sh (.int q)))= .nx (huE n ps ll seen (A++T) k s5 (.sh (.int r.1)) (.sh (upD r.2)) (.sh (.int q))):=by
    simp[huI,c,upD]
   rw[e,oX];obtain⟨M,seen',s8',e1,h1,h2,h3,h4⟩:=uU O low Ac' us T seen (.sh (.int q)) hr nd2 (λ u hu=>ht u (zAF _ hu)) (λ u hu=>hn u (zAF _ hu)) h S;refine⟨M,seen',s8',e1,h1,h2,λ u hu=>?_,h4⟩;rcases zAT.mp hu with rfl|hu
   .exact .inl c
   .exact h3 u hu
  .have fr:=h.fresh low Ac' hr tq c (hn q zAJ)
   have hg:=h.snoc hr hq tq fr;have hns:q∉seen:=λ z=>by
    obtain⟨u,hu⟩:=(S.iff q).mp z;exact fr (zAS.mpr ⟨_,hu,rfl⟩)
   have ed:zAz seen q=seen++[q]:=by
    unfold zAz;simp[hns]
   have S':Sn (seen++[q]) (A++(T++[(q,some r.1)])):=by
    refine⟨by rw[zAd];exact⟨S.nd,by simp,λ x hx y hy e=>by rw[zAD.mp hy]at e;subst e;exact hns hx⟩,λ x=>?_⟩;rw[zAO,S.iff,zAD];constructor
    .rintro(⟨u,hu⟩|rfl)
     .exact⟨u,by rw[<-zAo];exact zAI _ hu⟩
     .exact⟨r.1,by simp⟩
    .rintro⟨u,hu⟩
     rw[<-zAo]at hu;rcases zAO.mp hu with z|z
     .exact .inl ⟨u,z⟩
     .rw[zAD]at z
      cases z;exact .inr rfl
   have a0:tsb (op2 (eqR true) (aD 8) (aD 7)) (huE n ps ll seen (A++T) k s5 (.sh (.int r.1)) (.sh (upD r.2)) (.sh (.int q)))= .ok true:=by
    obtain⟨r1,r2⟩:=r;cases r2 with
    |none=>simp[upD];rfl
    |some u=>
     have:q≠u:=λ z=>c (by rw[z])
     simp[upD,this]
   have a1:aE3 2 (bA (aD 8)) (huE n ps ll seen (A++T) k s5 (.sh (.int r.1)) (.sh (upD r.2)) (.sh (.int q)))= .nx (huE n ps ll (seen++[q]) (A++T) k s5 (.sh (.int r.1)) (.sh (upD r.2)) (.sh (.int q))):=by
    have hv:bA (aD 8) (huE n ps ll seen (A++T) k s5 (.sh (.int r.1)) (.sh (upD r.2)) (.sh (.int q)))= .ok (.int q):=by simp
    show((bA (aD 8) (huE n ps ll seen (A++T) k s5 (.sh (.int r.1)) (.sh (upD r.2)) (.sh (.int q)))).bo λ d=>zz (huE n ps ll seen (A++T) k s5 (.sh (.int r.1)) (.sh (upD r.2)) (.sh (.int q))) 2 seen d)=_
    rw[hv,bN];unfold zz;dsimp only;rw[if_pos (by lia),ed];rfl
   have a2:gO 3 (dG (aC (bA (aD 8)) (aC (bA (aD 6)) aH))) (huE n ps ll (seen++[q]) (A++T) k s5 (.sh (.int r.1)) (.sh (upD r.2)) (.sh (.int q)))= .nx (huE n ps ll (seen++[q]) (A++(T++[(q,some r.1)])) k s5 (.sh (.int r.1)) (.sh (upD r.2)) (.sh (.int q))):=by
    have hz:((A++T).map hrD).length<16777216:=by rw[zAB];lia
    have hv:dG (aC (bA (aD 8)) (aC (bA (aD 6)) aH)) (huE n ps ll (seen++[q]) (A++T) k s5 (.sh (.int r.1)) (.sh (upD r.2)) (.sh (.int q)))= .ok (hrD (q,some r.1)):=by simp[hrD,upD]
    show((dG (aC (bA (aD 8)) (aC (bA (aD 6)) aH)) (huE n ps ll (seen++[q]) (A++T) k s5 (.sh (.int r.1)) (.sh (upD r.2)) (.sh (.int q)))).bo λ d=>if ((A++T).map hrD).length<zAQ then .nx ((huE n ps ll (seen++[q]) (A++T) k s5 (.sh (.int r.1)) (.sh (upD r.2)) (.sh (.int q))).set 3 (.ow (.lst ((A++T).map hrD++[d]))))else .st)=_
    rw[hv,bN,if_pos (by rw[szl];exact hz)];simp
   have e:huI (huE n ps ll seen (A++T) k s5 (.sh (.int r.1)) (.sh (upD r.2)) (.sh (.int q)))= .nx (huE n ps ll (seen++[q]) (A++(T++[(q,some r.1)])) k s5 (.sh (.int r.1)) (.sh (upD r.2)) (.sh (.int q))):=by
    rw[huI,fX,a0,bN,if_pos rfl,aM,a1,aW,a2]
   rw[e,oX];obtain⟨M,seen',s8',e1,h1,h2,h3,h4⟩:=uU O low Ac' us (T++[(q,some r.1)]) (seen++[q]) (.sh (.int q)) (zAI _ hr) nd2 (λ u hu=>ht u (zAF _ hu)) (λ u hu z=>by
    rcases zAO.mp z with z|z
    .exact hn u (zAF _ hu) z
    .rw[zAD]at z
     cases z;exact nd1 hu) hg S'
   rw[zAo]at e1 h1 h2 h3;refine⟨[(q,some r.1)]++M,seen',s8',e1,h1,h2,λ u hu=>?_,λ s hs=>?_⟩
   .rcases zAT.mp hu with rfl|hu
    .exact .inr (by simp)
    .exact h3 u hu
   .rcases zAO.mp hs with z|z
    .rw[zAD.mp z]
    .exact h4 s z
def aCc{c:En->Rs Bool}{b:En->Ou}{ρ:En}(h:c ρ= .ok false):pq c b ρ= .nx ρ:=by
 show itW c b (999999+1) ρ= .nx ρ;unfold itW;rw[h];rfl
structure Hw(n:Int)(ps:gX)(A T1 T2:List Hr):Prop where
 g:Hg n ps A (T1++T2)
 pr:∀r∈T1,∀q,(r.1,q)∈dbl ps->r.2=some q\/(q,some r.1)∈T1++T2
 up:∀r∈T1++T2,∀u,r.2=some u->u∈T1.map (·.1)
def aIP{T1 T2:List Hr}(O:Ow n ps)(low:∀p∈ps,p.1<p.2)(Ac':Ac ps)(L:∀i:Int,0<=i->i<n->atD (ll.map .lst) i= .ok (.lst ((iY (dbl ps) i).map .int)))(h:Hw n ps A T1 (r::T2))(S:Sn seen (A++(T1++r::T2))):
  ∃M seen' s6' s7' s8',huW (huE n ps ll seen (A++(T1++r::T2)) ((A.length+T1.length:Nat):Int) s5 s6 s7 s8)= .nx (huE n ps ll seen' (A++((T1++[r])++(T2++M))) ((A.length+(T1++[r]).length:Nat):Int) s5 s6' s7' s8')/\Hw n ps A (T1++[r]) (T2++M)/\Sn seen' (A++((T1++[r])++(T2++M))):=by
 have hrT:r∈T1++r::T2:=by simp
 have hri:=h.g.inn r (zAY _ hrT);have nd:=h.g.nd;rw[show A++(T1++r::T2)=(A++T1)++r::T2 by simp,zA0,zAd]at nd;have hp:r.1∉T1.map (·.1):=λ z=>nd.2.2 r.1 (by rw[zA0];exact zAY _ z) r.1 (by simp) rfl
 obtain⟨M,seen',s8',e,h1,h2,h3,h4⟩:=uU (ll:=ll) (k:=((A.length+T1.length:Nat):Int)) (s5:=s5) (r:=r) O low Ac' (iY (dbl ps) r.1) (T1++r::T2) seen s8 hrT (aCN (pC O) low r.1) (λ u hu=>xR.mp hu) (λ u hu z=>hp (h.up _ z r.1 rfl)) h.g S;have eq:(T1++r::T2)++M=(T1++[r])++(T2++M):=by simp
 rw[eq]at e h1 h2 h3;have ea:(((A++(T1++r::T2)).map hrD)[A.length+T1.length]?)=some (hrD r):=by
  rw[zAV,show A++(T1++r::T2)=(A++T1)++r::T2 by simp,zCu (by simp)];simp
 have ea':=dq ea;have im:pK (hrD r)= .ok (hrD r):=by
  obtain⟨r1,r2⟩:=r;cases r2<;>rfl
 have c1:zr (bA (op2 ixD (fO 3) (aD 4))) (gf 2 (au (gnm 6) (au (gnm 7) gq))) (huE n ps ll seen (A++(T1++r::T2)) ((A.length+T1.length:Nat):Int) s5 s6 s7 s8)= .nx (huE n ps ll seen (A++(T1++r::T2)) ((A.length+T1.length:Nat):Int) s5 (.sh (.int r.1)) (.sh (upD r.2)) s8):=by
  have hv:bA (op2 ixD (fO 3) (aD 4)) (huE n ps ll seen (A++(T1++r::T2)) ((A.length+T1.length:Nat):Int) s5 s6 s7 s8)= .ok (hrD r):=by
   have v1:fO 3 (huE n ps ll seen (A++(T1++r::T2)) ((A.length+T1.length:Nat):Int) s5 s6 s7 s8)= .ok (.lst ((A++(T1++r::T2)).map hrD)):=rfl;have v2:aD 4 (huE n ps ll seen (A++(T1++r::T2)) ((A.length+T1.length:Nat):Int) s5 s6 s7 s8)= .ok (.int ((A.length+T1.length:Nat):Int)):=rfl;rw[aBj,lH,v1,cL,v2,cL,aFn,ea',qN,cL,im]
  rw[aGR,hv,bN];simp[hrD]
 have c2:gM (cT (op2 ixD (aD 1) (aD 6))) (gnm 8) huI (huE n ps ll seen (A++(T1++r::T2)) ((A.length+T1.length:Nat):Int) s5 (.sh (.int r.1)) (.sh (upD r.2)) s8)= .nx (huE n ps ll seen' (A++((T1++[r])++(T2++M))) ((A.length+T1.length:Nat):Int) s5 (.sh (.int r.1)) (.sh (upD r.2)) s8'):=by
  have hi:cT (op2 ixD (aD 1) (aD 6)) (huE n ps ll seen (A++(T1++r::T2)) ((A.length+T1.length:Nat):Int) s5 (.sh (.int r.1)) (.sh (upD r.2)) s8)= .ok ((iY (dbl ps) r.1).map .int):=by simp[L _ hri.1 hri.2,-zA0]
  rw[dD,hi,bN,e]
 refine⟨M,seen',.sh (.int r.1),.sh (upD r.2),s8',?_,⟨h1,λ s hs q hq=>?_,λ s hs u eu=>?_⟩,h2⟩
 .rw[huW,aM,c1,aW,aM,c2,aW]
  show Ou.nx (huE n ps ll seen' (A++((T1++[r])++(T2++M))) (((A.length+T1.length:Nat):Int)+1) s5 (.sh (.int r.1)) (.sh (upD r.2)) s8')=_;rw[show(((A.length+T1.length:Nat):Int)+1)=((A.length+(T1++[r]).length:Nat):Int)by simp;lia]
 .rcases zAO.mp hs with z|z
  .rcases h.pr s z q hq with e|e
   .exact .inl e
   .exact .inr (by rw[<-eq];exact zAI _ e)
  .rw[zAD.mp z]at hq ⊢
   exact h3 q (xR.mpr hq)
 .rw[<-eq]at hs
  rw[zA0];rcases zAO.mp hs with z|z
  .exact zAI _ (h.up s z u eu)
  .rw[h4 s z]at eu
   cases eu;exact zAY _ (by simp)
def aEG{T:List Hr}(O:Ow n ps)(low:∀p∈ps,p.1<p.2)(Ac':Ac ps)(L:∀i:Int,0<=i->i<n->atD (ll.map .lst) i= .ok (.lst ((iY (dbl ps) i).map .int)))(h:Hw n ps A [] T)(S:Sn seen (A++T)):
  ∃T' seen' s6' s7' s8',pq huT huW (huE n ps ll seen (A++T) (A.length:Int) s5 s6 s7 s8)= .nx (huE n ps ll seen' (A++T') ((A++T').length:Int) s5 s6' s7' s8')/\Hw n ps A T' []/\Sn seen' (A++T')/\∃M,T'=T++M:=by
 have hn1:=O.n1;obtain⟨ρ',m',e,⟨T1,T2,seen',s6',s7',s8',rfl,h',S',hm,M,hM⟩,ht⟩:=yN (c:=huT) (b:=huW)
  (λ m ρ=>∃(T1 T2:List Hr) (seen':List Int) (s6 s7 s8:Slot),ρ=huE n ps ll seen' (A++(T1++T2)) ((A.length+T1.length:Nat):Int) s5 s6 s7 s8/\Hw n ps A T1 T2/\Sn seen' (A++(T1++T2))/\m=n.toNat-(A.length+T1.length)/\∃M,T1++T2=T++M)
  (by
   rintro m ρ ⟨T1,T2,seen',s6,s7,s8,rfl,h',S',rfl,M,hM⟩;have hW:=h'.g.len;rw[zAW,zAW]at hW;cases T2 with
   |nil=>
    left;simp[huT]
   |cons r T2=>
    right;rw[zA2]at hW;refine⟨by simp[huT];lia,?_⟩;obtain⟨M',seen2,t6,t7,t8,e,q1,q2⟩:=aIP (s5:=s5) (s6:=s6) (s7:=s7) (s8:=s8) O low Ac' L h' S';refine⟨_,n.toNat-(A.length+(T1++[r]).length),e,by simp;lia,_,_,_,_,_,_,rfl,q1,q2,rfl,M++M',?_⟩;rw[<-zAo T,<-hM];simp)
  (m:=n.toNat-(A.length+([]:List Hr).length)) (ρ:=huE n ps ll seen (A++T) (A.length:Int) s5 s6 s7 s8) (by lia) ⟨[],T,seen,s6,s7,s8,by simp,h,by simpa using S,rfl,[],by simp⟩
 have:T2=[]:=by
  cases T2 with
  |nil=>rfl
  |cons r T2=>
   have:huT (huE n ps ll seen' (A++(T1++r::T2)) ((A.length+T1.length:Nat):Int) s5 s6' s7' s8')= .ok true:=by simp[huT];lia
   rw[this]at ht;cases ht
 subst this;rw[zAj]at e hM S';refine⟨T1,seen',s6',s7',s8',?_,h',S',M,hM⟩;rw[e,zAW]
structure oU(n:Int)(ps:gX)(rows:List Hr):Prop where
 pm:(rows.map (·.1)).Perm (upI n)
 tie:∀r∈rows,∀u,r.2=some u->(r.1,u)∈dbl ps
 ord:∀X r Y,rows=X++r::Y->∀u,r.2=some u->u∈X.map (·.1)
 cl:∀r∈rows,∀q,(r.1,q)∈dbl ps->r.2=some q\/(q,some r.1)∈rows
def aFy(O:Ow n ps)(low:∀p∈ps,p.1<p.2)(Ac':Ac ps):∃rows,uw [owD n ps]= .ok (.lst (rows.map hrD))/\oU n ps rows:=by
 obtain⟨ll,el,_,L⟩:=pW O;have hn0:=O.n0;have hn1:=O.n1;have hx:ixD (owD n ps) (.int 0)= .ok (.int n):=by simp[owD]
 have st:aj 9 [owD n ps]=[.sh (owD n ps),.no,.no,.no,.no,.no,.no,.no,.no]:=rfl;have hr:=gn (j:=n) (by lia) (by lia);have c1:cX 1 (aP cW (aC (aD 0) aH)) [.sh (owD n ps),.no,.no,.no,.no,.no,.no,.no,.no]= .nx [.sh (owD n ps),.sh (.lst (ll.map .lst)),.no,.no,.no,.no,.no,.no,.no]:=by simp[el]
 have c2:fM 2 (cD (.set [])) [.sh (owD n ps),.sh (.lst (ll.map .lst)),.no,.no,.no,.no,.no,.no,.no]= .nx [.sh (owD n ps),.sh (.lst (ll.map .lst)),.ow (.set []),.no,.no,.no,.no,.no,.no]:=by simp
 have c3:fM 3 (dh aH) [.sh (owD n ps),.sh (.lst (ll.map .lst)),.ow (.set []),.no,.no,.no,.no,.no,.no]= .nx [.sh (owD n ps),.sh (.lst (ll.map .lst)),.ow (.set []),.ow (.lst []),.no,.no,.no,.no,.no]:=by simp
 have c4:cX 4 (cD (.int 0)) [.sh (owD n ps),.sh (.lst (ll.map .lst)),.ow (.set []),.ow (.lst []),.no,.no,.no,.no,.no]= .nx (huE n ps ll [] [] 0 .no .no .no .no):=by simp
 have hi:iU jN (aC (op2 ixD (aD 0) (cD (.int 0))) aH) (huE n ps ll [] [] 0 .no .no .no .no)= .ok (bC 0 n):=by simp[hx,hr]
 obtain⟨ρ',e,A,seen,s5,s6,s7,s8,rfl,h,S,iX,_⟩:=iZ (ds:=bC 0 n) (a:=gnm 5) (u:=huB) (ρ:=huE n ps ll [] [] 0 .no .no .no .no)
  (λ i ρ=>∃(A:List Hr) (seen:List Int) (s5 s6 s7 s8:Slot),ρ=huE n ps ll seen A (A.length:Int) s5 s6 s7 s8/\Hw n ps A [] []/\Sn seen A/\(∀x:Int,0<=x->x<i->x∈A.map (·.1))/\∀r∈A,r.2=none->r.1<i) (by
   rintro i d ρ hd ⟨A,seen,s5,s6,s7,s8,rfl,h,S,iX,hrt⟩;obtain⟨rfl,hlt⟩:=lE hd;rw[zFo]at hlt;rw[qR,lK,zFo]
   show∃ρ2,huB (huE n ps ll seen A (A.length:Int) (.sh (.int (i:Int))) s6 s7 s8)= .nx ρ2/\_
   have hW:=h.g.len;rw[zAj,zAj]at hW;have t0:tsb (op2 (inX true) (aD 5) (fO 2)) (huE n ps ll seen A (A.length:Int) (.sh (.int (i:Int))) s6 s7 s8)= .ok (!decide ((i:Int)∈seen)):=by
    have hx2:inX true (.int (i:Int)) (.set seen)= .ok (.bl (!decide ((i:Int)∈seen))):=rfl;simp[hx2]
   have Aend:∀(T':List Hr),Hw n ps A T' []->Hw n ps (A++T') [] []:=λ T' h'=>by
    have g:=h'.g;rw[zAj]at g;refine⟨⟨by simpa using g.nd,by simpa using g.inn,by simpa using g.tie,by simpa using g.ord,λ s hs q hq=>?_,.inl rfl⟩,λ s hs=>(nomatch hs),λ s hs=>(nomatch hs)⟩;rcases zAO.mp hs with z|z
    .rcases g.cl s z q hq with e|e
     .exact .inl e
     .exact .inr (zAI _ e)
    .rcases h'.pr s z q hq with e|e
     .exact .inl e
     .rw[zAj]at e
      exact .inr (zAY _ e)
   by_cases c:(i:Int)∈seen
   .refine⟨_,?_,A,seen,.sh (.int (i:Int)),s6,s7,s8,rfl,h,S,λ x h0 h1=>?_,λ r hr hn=>by have:=hrt r hr hn;lia⟩
    .have e0:ifS (tsb (op2 (inX true) (aD 5) (fO 2))) (gO 3 (dG (aC (bA (aD 5)) (aC (cD .non) aH)))) Ou.nx (huE n ps ll seen A (A.length:Int) (.sh (.int (i:Int))) s6 s7 s8)= .nx (huE n ps ll seen A (A.length:Int) (.sh (.int (i:Int))) s6 s7 s8):=by
      rw[fX,t0,bN,if_neg (by simp[c])]
     rw[huB,aM,e0,aW];exact aCc (by simp[huT])
    .by_cases z:x<i
     .exact iX x h0 z
     .have:x=(i:Int):=by lia
      subst this;obtain⟨u,hu⟩:=(S.iff _).mp c;exact zAS.mpr ⟨_,hu,rfl⟩
   .have hni:(i:Int)∉A.map (·.1):=λ z=>by
     obtain⟨r,hr,e⟩:=zAS.mp z;cases e2:r.2 with
     |none=>have:=hrt r hr e2;lia
     |some u=>exact c ((S.iff _).mpr ⟨u,by rw[<-e,<-e2];exact hr⟩)
    have gA:=h.g;rw[zAj]at gA;have h1:Hw n ps A [] [((i:Int),none)]:=by
     refine⟨⟨?_,λ r hr=>?_,λ r hr u eu=>?_,λ X r Y e u eu=>?_,gA.cl,.inr ⟨_,[],rfl,λ r hr=>(nomatch hr)⟩⟩,λ r hr=>(nomatch hr),λ r hr u eu=>?_⟩
     .have:=gA.nd
      rw[zAj]at this;rw[zD0,zA0,zAd];exact⟨this,by simp,λ x hx y hy e=>by rw[zAP,zCU,zAD]at hy;subst hy;subst e;exact hni hx⟩
     .rcases zAO.mp hr with z|z
      .exact gA.inn r (zAI _ z)
      .rw[zAD.mp z];exact⟨by lia,hlt⟩
     .rcases zAO.mp hr with z|z
      .exact gA.tie r (zAI _ z) u eu
      .rw[zAD.mp z]at eu;cases eu
     .rcases tM e with ⟨_,rfl,_⟩|⟨Y',_,e2⟩
      .cases eu
      .exact gA.ord X r Y' (by rw[zAj];exact e2) u eu
     .rw[zAD.mp hr]at eu;cases eu
    have S1:Sn seen (A++[((i:Int),none)]):=⟨S.nd,λ x=>by
     rw[S.iff];constructor
     .rintro⟨u,hu⟩
      exact⟨u,zAI _ hu⟩
     .rintro⟨u,hu⟩
      rcases zAO.mp hu with z|z
      .exact⟨u,z⟩
      .rw[zAD]at z;cases z⟩
    have e0:ifS (tsb (op2 (inX true) (aD 5) (fO 2))) (gO 3 (dG (aC (bA (aD 5)) (aC (cD .non) aH)))) Ou.nx (huE n ps ll seen A (A.length:Int) (.sh (.int (i:Int))) s6 s7 s8)= .nx (huE n ps ll seen (A++[((i:Int),none)]) (A.length:Int) (.sh (.int (i:Int))) s6 s7 s8):=by
     rw[fX,t0,bN,if_pos (by simp[c])];have hz:A.length<16777216:=by lia
     simp[gO,hz,hrD,upD]
    obtain⟨T',seen',t6,t7,t8,e,h',S',M,hM⟩:=aEG (ll:=ll) (T:=[((i:Int),none)]) (s5:=.sh (.int (i:Int))) (s6:=s6) (s7:=s7) (s8:=s8) O low Ac' L h1 S1;refine⟨_,by rw[huB,aM,e0,aW];exact e,A++T',seen',_,t6,t7,t8,rfl,Aend T' h',S',λ x h0 h1=>?_,λ r hr hn=>?_⟩
    .rw[zA0]
     by_cases z:x<i
     .exact zAI _ (iX x h0 z)
     .have:x=(i:Int):=by lia
      subst this;rw[hM];exact zAY _ (by simp)
    .rcases zAO.mp hr with z|z
     .have:=hrt r z hn;lia
     .have hd:=h'.g.hd
      rw[zAj]at hd;rcases hd with q|⟨t,T2,q,qq⟩
      .rw[q]at z;cases z
      .rw[q]at z
       rcases zAT.mp z with z|z
       .rw[q]at hM
        have:t=(i:Int):=by
         rw[List.cons_append,zEL]at hM;exact congrArg zEJ hM.1
        rw[z];dsimp only;lia
       .obtain⟨u,eu,_⟩:=qq r z
        rw[eu]at hn;cases hn) ⟨[],[],.no,.no,.no,.no,rfl,⟨⟨by simp,λ r hr=>(nomatch hr),λ r hr=>(nomatch hr),λ X r Y e=>by simp at e,λ r hr=>(nomatch hr),.inl rfl⟩,λ r hr=>(nomatch hr),λ r hr=>(nomatch hr)⟩,⟨by simp,λ x=>by simp⟩,λ x h0 h1=>by lia,λ r hr=>(nomatch hr)⟩
 have g:=h.g;simp only[zAj]at g;have hl:((bC 0 n).length:Int)=n:=by rw[fD];lia
 have nd:=g.nd;have ord:=g.ord;have tie:=g.tie;rw[zAj]at nd ord tie;refine⟨A,?_,⟨?_,tie,ord,g.cl⟩⟩
 .simp only[uw,qU,bD,st]
  rw[aM,c1,aW,aM,c2,aW,aM,c3,aW,aM,c4,aW,aM,dD,hi,bN,e,aW];rfl
 .refine(zCI nd (iI n)).mpr λ x=>⟨λ hx=>?_,λ hx=>?_⟩
  .obtain⟨r,hr,rfl⟩:=zAS.mp hx
   exact bU.mpr (g.inn r (zAI _ hr))
  .have:=bU.mp hx
   exact iX x this.1 (by rw[hl];exact this.2)
end
section
variable{n:Int}{ps:gX}
def room(es:List Int)(p:Int):Nat:=if p∈es then 1 else 2
def du(p c:Int):Int×Int:=(mnI p c,mxI p c)
def aI0(l:List D)(k:Nat):cutD l none (some (k:Int))=l.take k:=by
 by_cases h:k<=l.length
 .exact aGJ h
 .have e1:HT.sIx l.length l.length (some (k:Int))=l.length:=by simp[HT.sIx];lia
  have e2:HT.sIx l.length 0 none=0:=rfl;unfold cutD;rw[e1,e2,zDj,zEW,zBP (zAU _),zBP (by lia)]
def aBu(p c:Int):pY [.int p,.int c]= .ok (pD (du p c)):=by
 have st:aj 2 [.int p,.int c]=[.sh (.int p),.sh (.int c)]:=rfl;simp only[pY,j6,bD,st];simp[pD,du,mnI,mxI]
abbrev joE(n:Int)(ps:gX)(es:List Int)(ll:cK)(T:gX)(Fd:List Int)(s5 s6 s7:Slot):En:=[.sh (owD n ps),.sh (tupI es),.o2 ll,.ow (.lst (T.map pD)),.ow (.lst (Fd.map .int)),s5,s6,s7]
structure Wt(n:Int)(ll:cK)(W:Int->List Int):Prop where
 len:ll.length=n.toNat
 at_:∀x:Int,0<=x->x<n->ll.getD x.toNat []=(W x).map .int
def Wt.ix(h:Wt n ll W){x:Int}(h0:0<=x)(h1:x<n):atD (ll.map .lst) x= .ok (.lst ((W x).map .int)):=by
 have hk:x.toNat<ll.length:=by rw[h.len];lia
 have ex:((x.toNat:Nat):Int)=x:=zB0 h0
 have:=dq (l:=ll.map .lst) (k:=x.toNat) (d:=.lst ((W x).map .int)) (by
  rw[zAV,zAC hk,<-h.at_ x h0 h1,zAf,zAC hk];rfl)
 rwa [ex]at this
def Wt.put(h:Wt n ll W){x c:Int}(h0:0<=x)(h1:x<n):Wt n (bV ll (x,c)) (λ y=>if y=x then W x++[c]else W y):=by
 refine⟨by rw[oZ];exact h.len,λ y y0 y1=>?_⟩;have hk:x.toNat<ll.length:=by rw[h.len];lia
 unfold bV;dsimp only;by_cases e:y=x
 .subst e
  rw[if_pos rfl,zAf,zBD hk,h.at_ y y0 y1];simp
 .rw[if_neg e,zAf,zAt (by lia),<-zAf,h.at_ y y0 y1]
structure Jo(n:Int)(es:List Int)(Z:List Hr)(W:Int->List Int)(T:gX)(Fd:List Int):Prop where
 w:∀x c,c∈W x↔(c,some x)∈Z/\c∉Fd
 nd:∀x,(W x).Nodup
 fnd:Fd.Nodup
 fz:∀p∈Fd,p∈Z.map (·.1)
 fi:∀p∈Z.map (·.1),p∈Fd↔room es p<=(W p).length
 t:T=(Z.map (·.1)).flatMap λ p=>((W p).take (room es p)).map (du p)
def Jo.len(J:Jo n es Z W T Fd)(hz:(Z.map (·.1)).Nodup)(hi:∀r∈Z,0<=r.1/\r.1<n)(x:Int):(W x).length<=n.toNat:=by
 have:=fH (m:=upI n) (J.nd x) λ c hc=>bU.mpr (hi _ ((J.w x c).mp hc).1)
 rwa [dF]at this
theorem aCi{f:Int->Nat}{k:Nat}(h:∀x,f x<=k):∀l:List Int,(l.map f).sum<=k*l.length
 |[]=>zAi _
 |x::l=>by
  have:=aCi h l
  have:=h x
  rw[zAP,zEI,zA2,Nat.mul_succ];lia
def Jo.tlen(J:Jo n es Z W T Fd):T.length<=2*Z.length:=by
 rw[J.t,zDs]
 have:=aCi (f:=λ p=>(((W p).take (room es p)).map (du p)).length) (k:=2) (λ x=>by
  rw[zAB,zBA];unfold room;split<;>lia) (Z.map (·.1))
 rwa [zAB]at this
def aIG(hn0:0<=n)(hn:n<=60)(J:Jo n es Z W T Fd)(H:Wt n ll W)(hz:(Z.map (·.1)).Nodup)(hi:∀s∈Z,0<=s.1/\s.1<n)(hr:0<=r.1/\r.1<n)(hp:r.1∉Z.map (·.1))(hu:∀u,r.2=some u->(0<=u/\u<n)/\u≠r.1/\u∉Z.map (·.1))(hlz:Z.length<=100):
  ∃ll' W' T' Fd' s7',joB (joE n ps es ll T Fd (.sh (.int r.1)) (.sh (upD r.2)) s7)= .nx (joE n ps es ll' T' Fd' (.sh (.int r.1)) (.sh (upD r.2)) s7')/\Jo n es (Z++[r]) W' T' Fd'/\Wt n ll' W':=by
 have hwl:=J.len hz hi r.1;have hwl2:=λ u=>J.len hz hi u
 have htl:=J.tlen;have hfl:Fd.length<=Z.length:=by
  have:=fH J.fnd J.fz
  rwa [zAB]at this
 have c1:cX 7 (ifD (tsb (op2 (inR false) (aD 5) (aD 1))) (cD (.int 1)) (cD (.int 2))) (joE n ps es ll T Fd (.sh (.int r.1)) (.sh (upD r.2)) s7)= .nx (joE n ps es ll T Fd (.sh (.int r.1)) (.sh (upD r.2)) (.sh (.int (room es r.1:Int)))):=by
  have:=aDy false r.1 es
  have h2:inR false (.int r.1) (tupI es)= .ok (.bl (decide (r.1∈es))):=this;unfold room;by_cases c:r.1∈es
  .simp[h2,c]
  .simp[h2,c]
 have a1:joA (joE n ps es ll T Fd (.sh (.int r.1)) (.sh (upD r.2)) (.sh (.int (room es r.1:Int))))= .ok (.lst ((((W r.1).take (room es r.1)).map (du r.1)).map pD)):=by
  unfold joA;rw[zAs];refine jo (ds:=((W r.1).take (room es r.1)).map .int) ?_ (by rw[zAB,zBA];lia) (oG _ λ c hc=>⟨[.sh (.int c),.sh (.int r.1)],rfl,?_⟩)
  .have ct:=aI0 ((W r.1).map .int) (room es r.1)
   simp[shE,nQ,H.ix hr.1 hr.2,ct]
  .simp[aBu]
 have c2:aGQ 3 joA (joE n ps es ll T Fd (.sh (.int r.1)) (.sh (upD r.2)) (.sh (.int (room es r.1:Int))))= .nx (joE n ps es ll (T++((W r.1).take (room es r.1)).map (du r.1)) Fd (.sh (.int r.1)) (.sh (upD r.2)) (.sh (.int (room es r.1:Int)))):=by
  show((joA (joE n ps es ll T Fd (.sh (.int r.1)) (.sh (upD r.2)) (.sh (.int (room es r.1:Int))))).bo λ d=>match d with
   | .lst es'=>if (T.map pD).length+es'.length<=zAQ/\dU es'=true then .nx ((joE n ps es ll T Fd (.sh (.int r.1)) (.sh (upD r.2)) (.sh (.int (room es r.1:Int)))).set 3 (.ow (.lst (T.map pD++es'))))else .st
   |_=>.st)=_
  rw[a1,bN];dsimp only;rw[if_pos ⟨by rw[szl,zAB,zAB,zAB,zBA];lia,jq λ d hd=>by
   obtain⟨p,_,rfl⟩:=zAS.mp hd;rfl⟩]
  simp
 have t3:tsb (op2 geD (opA g8 (aC (op2 ixD (fO 2) (aD 5)) aH)) (aD 7)) (joE n ps es ll (T++((W r.1).take (room es r.1)).map (du r.1)) Fd (.sh (.int r.1)) (.sh (upD r.2)) (.sh (.int (room es r.1:Int))))= .ok (decide (room es r.1<=(W r.1).length)):=by
  simp[H.ix hr.1 hr.2]
 have tw:∀W':Int->List Int,(∀p∈Z.map (·.1),W' p=W p)->W' r.1=W r.1->T++((W r.1).take (room es r.1)).map (du r.1)=((Z++[r]).map (·.1)).flatMap λ p=>((W' p).take (room es p)).map (du p):=λ W' h1 h2=>by
  rw[zA0,List.flatMap_append,J.t];congr 1
  .rw[zG4,zG4]
   congr 1;exact zBQ λ p hp=>by rw[h1 p hp]
  .simp[h2]
 by_cases c:room es r.1<=(W r.1).length
 .refine⟨ll,W,T++((W r.1).take (room es r.1)).map (du r.1),Fd++[r.1],.sh (.int (room es r.1:Int)),?_,⟨λ x c'=>?_,J.nd,?_,λ p hp'=>?_,λ p hp'=>?_,tw W (λ _ _=>rfl) rfl⟩,H⟩
  .rw[joB,aM,c1,aW,aM,c2,aW,fX,t3,bN,if_pos (by simpa using c)]
   have hz:Fd.length<16777216:=by lia
   simp[gO,hz]
  .rw[J.w,zAO,zAO,zAD,zAD]
   constructor
   .rintro⟨h1,h2⟩
    refine⟨.inl h1,λ z=>?_⟩;rcases z with z|z
    .exact h2 z
    .exact hp (zAS.mpr ⟨_,h1,z⟩)
   .rintro⟨h1|h1,h2⟩
    .exact⟨h1,λ z=>h2 (.inl z)⟩
    .exact absurd (.inr (congrArg zEJ h1)) h2
  .rw[zAd]
   exact⟨J.fnd,by simp,λ x hx y hy e=>by rw[zAD.mp hy]at e;subst e;exact hp (J.fz _ hx)⟩
  .rw[zA0]
   rcases zAO.mp hp' with z|z
   .exact zAI _ (J.fz p z)
   .rw[zAD.mp z];simp
  .rw[zA0]at hp'
   rw[zAO,zAD];rcases zAO.mp hp' with z|z
   .rw[J.fi p z]
    exact⟨λ q=>q.elim id λ e=>absurd (e▸z) hp,.inl⟩
   .rw[zAP,zCU,zAD]at z
    subst z;exact⟨λ _=>c,λ _=>.inr rfl⟩
 .cases hu2:r.2 with
  |none=>
   refine⟨ll,W,T++((W r.1).take (room es r.1)).map (du r.1),Fd,.sh (.int (room es r.1:Int)),?_,⟨λ x c'=>?_,J.nd,J.fnd,λ p hp'=>?_,λ p hp'=>?_,tw W (λ _ _=>rfl) rfl⟩,H⟩
   .rw[hu2]at c1 c2 t3
    have e6:tsb (op2 (isD true) (aD 6) (cD .non)) (joE n ps es ll (T++((W r.1).take (room es r.1)).map (du r.1)) Fd (.sh (.int r.1)) (.sh (upD none)) (.sh (.int (room es r.1:Int))))= .ok false:=rfl;rw[joB,aM,c1,aW,aM,c2,aW,fX,t3,bN,if_neg (by simpa using c),fX,e6];rfl
   .rw[J.w,zAO,zAD]
    constructor
    .rintro⟨h1,h2⟩
     exact⟨.inl h1,h2⟩
    .rintro⟨h1|h1,h2⟩
     .exact⟨h1,h2⟩
     .have:=congrArg zE3 h1
      rw[hu2]at this;cases this
   .rw[zA0]
    exact zAI _ (J.fz p hp')
   .rw[zA0]at hp'
    rcases zAO.mp hp' with z|z
    .exact J.fi p z
    .rw[zAP,zCU,zAD]at z
     subst z;exact⟨λ q=>absurd (J.fz _ q) hp,λ q=>absurd q c⟩
  |some u=>
   obtain⟨hu0,hu1,hu3⟩:=hu u hu2;refine⟨bV ll (u,r.1),λ y=>if y=u then W u++[r.1]else W y,T++((W r.1).take (room es r.1)).map (du r.1),Fd,.sh (.int (room es r.1:Int)),?_,⟨λ x c'=>?_,λ x=>?_,J.fnd,λ p hp'=>?_,λ p hp'=>?_,tw (λ y=>if y=u then W u++[r.1]else W y) (λ p hp'=>if_neg λ e:p=u=>hu3 (e▸hp')) (if_neg λ e:r.1=u=>hu1 e.symm)⟩,H.put hu0.1 hu0.2⟩
   .rw[hu2]at c1 c2 t3
    have e6:tsb (op2 (isD true) (aD 6) (cD .non)) (joE n ps es ll (T++((W r.1).take (room es r.1)).map (du r.1)) Fd (.sh (.int r.1)) (.sh (upD (some u))) (.sh (.int (room es r.1:Int))))= .ok true:=rfl;rw[joB,aM,c1,aW,aM,c2,aW,fX,t3,bN,if_neg (by simpa using c),fX,e6,bN,if_pos rfl];have hl:(ll.getD u.toNat []).length<16777216:=by
     rw[H.at_ u hu0.1 hu0.2,zAB]
     have:=hwl2 u
     lia
    exact yG (a:=u) (b:=r.1) rfl (by simp[upD]) (by simp) hu0.1 (by rw[H.len];lia) hl
   .rw[zAO,zAD]
    by_cases e:x=u
    .subst e
     rw[if_pos rfl,zAO,J.w,zAD];constructor
     .rintro(⟨h1,h2⟩|rfl)
      .exact⟨.inl h1,h2⟩
      .exact⟨.inr (zFY rfl hu2.symm),λ z=>hp (J.fz _ z)⟩
     .rintro⟨h1|h1,h2⟩
      .exact .inl ⟨h1,h2⟩
      .exact .inr (congrArg zEJ h1)
    .rw[if_neg e,J.w]
     constructor
     .rintro⟨h1,h2⟩
      exact⟨.inl h1,h2⟩
     .rintro⟨h1|h1,h2⟩
      .exact⟨h1,h2⟩
      .have:=congrArg zE3 h1
       rw[hu2]at this;cases this;exact absurd rfl e
   .split
    .rw[zAd]
     exact⟨J.nd u,by simp,λ a ha b hb e=>by rw[zAD.mp hb]at e;subst e;exact hp (zAS.mpr ⟨_,((J.w u _).mp ha).1,rfl⟩)⟩
    .exact J.nd x
   .rw[zA0]
    exact zAI _ (J.fz p hp')
   .rw[zA0]at hp'
    rcases zAO.mp hp' with z|z
    .rw[if_neg λ e:p=u=>hu3 (e▸z)]
     exact J.fi p z
    .rw[zAP,zCU,zAD]at z
     subst z;rw[if_neg λ e:r.1=u=>hu1 e.symm];exact⟨λ q=>absurd (J.fz _ q) hp,λ q=>absurd q c⟩
def aCP(O:Ow n ps)(low:∀p∈ps,p.1<p.2)(Ac':Ac ps)(es:List Int):∃rows W T Fd,oU n ps rows/\Jo n es rows.reverse W T Fd/\∀(hT:T.Nodup) (hl:T.length<64),∃qs:gX,jH [owD n ps,tupI es]= .ok (.tup [.tup (qs.map pD),tupI (sortI Fd)])/\qs.Perm T:=by
 obtain⟨rows,eh,Hu⟩:=aFy O low Ac';have hn0:=O.n0;have hn1:=O.n1;have hx:ixD (owD n ps) (.int 0)= .ok (.int n):=by simp[owD]
 have st:aj 8 [owD n ps,tupI es]=[.sh (owD n ps),.sh (tupI es),.no,.no,.no,.no,.no,.no]:=rfl;have hr:=gn (j:=n) (by lia) (by lia);have hW:(bC 0 n).length=n.toNat:=by rw[fD];lia
 have hz:n.toNat<16777216:=by lia
 have c1:llS 2 (iU jN (aC (op2 ixD (aD 0) (cD (.int 0))) aH)) [none] (gnm 0) [.sh (owD n ps),.sh (tupI es),.no,.no,.no,.no,.no,.no]= .nx [.sh (owD n ps),.sh (tupI es),.o2 (zAM n.toNat []),.no,.no,.no,.no,.no]:=by
  unfold llS;simp[shE,nQ,hx,hr,hW,hz]
 have c2:fM 3 (dh aH) [.sh (owD n ps),.sh (tupI es),.o2 (zAM n.toNat []),.no,.no,.no,.no,.no]= .nx [.sh (owD n ps),.sh (tupI es),.o2 (zAM n.toNat []),.ow (.lst []),.no,.no,.no,.no]:=by simp
 have c3:fM 4 (dh aH) [.sh (owD n ps),.sh (tupI es),.o2 (zAM n.toNat []),.ow (.lst []),.no,.no,.no,.no]= .nx (joE n ps es (zAM n.toNat []) [] [] .no .no .no):=by simp
 have hi:cT (op1 aBX (aP uw (aC (aD 0) aH))) (joE n ps es (zAM n.toNat []) [] [] .no .no .no)= .ok (rows.reverse.map hrD):=by
  have rv:aBX (.lst (rows.map hrD))= .ok (.lst (rows.map hrD).reverse):=rfl;simp[eh,rv]
 have hrl:rows.length=n.toNat:=by
  have:=Hu.pm.length_eq
  rwa [zAB,dF]at this
 have hin:∀s∈rows,0<=s.1/\s.1<n:=λ s hs=>bU.mp (Hu.pm.mem_iff.mp (zAS.mpr ⟨s,hs,rfl⟩))
 have hnd:(rows.map (·.1)).Nodup:=Hu.pm.nodup_iff.mpr (iI n);have rnd:(rows.reverse.map (·.1)).Nodup:=by rw[zB4];exact(zEN _).nodup_iff.mpr hnd
 obtain⟨ρ',e,ll,W,T,Fd,s5,s6,s7,rfl,J,H⟩:=iZ (ds:=rows.reverse.map hrD) (a:=gf 2 (au (gnm 5) (au (gnm 6) gq))) (u:=joB) (ρ:=joE n ps es (zAM n.toNat []) [] [] .no .no .no)
  (λ i ρ=>∃(ll:cK) (W:Int->List Int) (T:gX) (Fd:List Int) (s5 s6 s7:Slot),ρ=joE n ps es ll T Fd s5 s6 s7/\Jo n es (rows.reverse.take i) W T Fd/\Wt n ll W) (by
   rintro i d ρ hd ⟨ll,W,T,Fd,s5,s6,s7,rfl,J,H⟩;rw[zAV]at hd;cases er:rows.reverse[i]? with
   |none=>rw[er]at hd;cases hd
   |some r=>
    rw[er]at hd;cases hd;have hil:=(zAL.mp er).1;have sp:rows.reverse=rows.reverse.take i++r::rows.reverse.drop (i+1):=by
     have h1:=List.take_append_drop i rows.reverse;rw[zBc hil]at h1;have h2:=zAC hil;rw[er]at h2;cases h2;exact h1.symm
    have nd2:=rnd;rw[sp,zA0,zAd,zAP]at nd2;have rm:r∈rows:=by
     have:r∈rows.reverse:=zAa er
     simpa using this
    have hp:r.1∉(rows.reverse.take i).map (·.1):=λ z=>nd2.2.2 _ z _ zAJ rfl
    have hu:∀u,r.2=some u->(0<=u/\u<n)/\u≠r.1/\u∉(rows.reverse.take i).map (·.1):=λ u eu=>by
     have sp2:rows=(rows.reverse.drop (i+1)).reverse++r::(rows.reverse.take i).reverse:=by
      have:=congrArg List.reverse sp
      rw[List.reverse_reverse,List.reverse_append,zCH,zAo]at this;exact this
     have hm:=Hu.ord _ _ _ sp2 u eu;rw[zB4,zB5]at hm;refine⟨?_,λ z=>?_,λ z=>nd2.2.2 _ z _ (zAF _ hm) rfl⟩
     .obtain⟨s,hs,rfl⟩:=zAS.mp hm
      exact hin s (by have:=List.mem_of_mem_drop hs;simpa using this)
     .subst z
      exact(zAh.mp nd2.2.1).1 hm
    obtain⟨ll',W',T',Fd',s7',e,J',H'⟩:=aIG (ps:=ps) (s7:=s7) hn0 hn1 J H nd2.1 (λ s hs=>hin s (by have:=zBT hs;simpa using this)) (hin r rm) hp hu (by rw[zBA,zDt];lia);refine⟨_,by simp[hrD];exact e,ll',W',T',Fd',_,_,s7',rfl,?_,H'⟩;rw[zEO,er];exact J') ⟨_,λ _=>[],[],[],_,_,_,rfl,⟨λ x c=>by simp,λ x=>by simp,by simp,λ p hp=>(nomatch hp),λ p hp=>(nomatch hp),by simp⟩,⟨by simp,λ x h0 h1=>by
   rw[zAf,zBq];split<;>rfl⟩⟩
 rw[zBP (by rw[zAB];exact zAU _)]at J;refine⟨rows,W,T,Fd,Hu,J,λ hT hl=>?_⟩;have hfl:Fd.length<=rows.length:=by
  have:=fH J.fnd J.fz
  rwa [zAB,zDt]at this
 obtain⟨qs,q1,q2,_⟩:=nT hT hl;have q4:=vY (l:=Fd) (by lia);refine⟨qs,?_,q2⟩;simp only[jH,eV,bD,st];rw[aM,c1,aW,aM,c2,aW,aM,c3,aW,aM,dD,hi,bN,e,aW];simp[q1,q4,tupI]
end
section
variable{n:Int}{ps:gX}
def dgr(F:gX)(x:Int):Nat:=(F.filter λ t=>decide (t.1=x)||decide (t.2=x)).length
theorem aBL{f g:Int->Nat}:∀l:List Int,(l.map λ x=>f x+g x).sum=(l.map f).sum+(l.map g).sum
 |[]=>rfl
 |x::l=>by
  have:=aBL (f:=f) (g:=g) l
  simp only[zAP,zEI];lia
theorem yR{f g:Int->Nat}:∀{l:List Int},(∀x∈l,f x<=g x)->(l.map f).sum<=(l.map g).sum
 |[],_=>zAU _
 |x::l,h=>by
  have:=yR λ y hy=>h y (zAF _ hy)
  have:=h x zAJ
  simp only[zAP,zEI];lia
theorem wK{f:Int->Nat}:∀{l:List Int} {x:Int},x∈l->f x<=(l.map f).sum
 |y::l,x,h=>by
  simp only[zAP,zEI];rcases zAT.mp h with rfl|h
  .lia
  .have:=wK (f:=f) h
   lia
theorem yQ{f:Int->Nat}{q:Int->Bool}:∀l:List Int,(l.map f).sum=((l.filter q).map f).sum+((l.filter λ x=>!q x).map f).sum
 |[]=>rfl
 |x::l=>by
  have:=yQ (f:=f) (q:=q) l
  cases c:q x<;>simp[c]<;>lia
def zZ(t:Int×Int)(F:gX)(x:Int):dgr (t::F) x=dgr F x+(if t.1=x\/t.2=x then 1 else 0):=by
 unfold dgr;rw[zBF];by_cases c:t.1=x\/t.2=x
 .rw[if_pos (by simpa using c),if_pos c,zA2]
 .rw[if_neg (by simpa using c),if_neg c]
  rfl
def zF(Fd:List Int)(t:Int×Int):Bool:=!(decide (t.1∈Fd)||decide (t.2∈Fd))
theorem aBK(Fd:List Int):∀F:gX,F.length<=(Fd.map (dgr F)).sum+(F.filter (zF Fd)).length
 |[]=>zAi _
 |t::F=>by
  have ih:=aBK Fd F;have e:(Fd.map (dgr (t::F))).sum=(Fd.map (dgr F)).sum+(Fd.map λ x=>if t.1=x\/t.2=x then 1 else 0).sum:=by
   rw[<-aBL];exact congrArg zGx (zBQ λ x _=>zZ t F x)
  rw[e,zBF,zA2];cases c:zF Fd t with
  |true=>simp only[if_pos,zA2];lia
  |false=>
   rw[if_neg (by simp)];unfold zF at c;simp at c
   have:1<=(Fd.map λ x=>if t.1=x\/t.2=x then 1 else 0).sum:=by
    by_cases c1:t.1∈Fd
    .have:=wK (f:=λ x=>if t.1=x\/t.2=x then 1 else 0) c1
     simp at this;simpa using this
    .have:=wK (f:=λ x=>if t.1=x\/t.2=x then 1 else 0) (c c1)
     simp at this;simpa using this
   lia
def aFc(a b:Int):du a b=du b a:=by
 unfold du;rcases nD a b with ⟨h1,h2⟩|⟨h1,h2⟩<;>rcases nD b a with ⟨h3,h4⟩|⟨h3,h4⟩<;>rw[h1,h2,h3,h4]
 .unfold mnI at h1 h3
  split at h1<;>split at h3<;>·rw[zCa];lia
 .unfold mnI at h1 h3
  split at h1<;>split at h3<;>·rw[zCa];lia
def aBH{x y:Int}(h:x<y):du x y=(x,y):=by
 unfold du mnI mxI;rw[if_neg (by lia),if_pos (by lia)]
def oU.nd(Hu:oU n ps rows):(rows.map (·.1)).Nodup:=Hu.pm.nodup_iff.mpr (iI n)
def oU.row(Hu:oU n ps rows){r s:Hr}(hr:r∈rows)(hs:s∈rows)(e:r.1=s.1):r=s:=by
 have:=Hu.nd
 rw[zAg,zBU]at this;refine zEP λ z=>?_
 obtain⟨i,hi,rfl⟩:=zBY hr;obtain⟨j,hj,rfl⟩:=zBY hs;rcases zG5 i j with k|k|k
 .exact zAx.mp this i j hi hj k e
 .subst k;exact z rfl
 .exact zAx.mp this j i hj hi k e.symm
def oU.no2(Hu:oU n ps rows)(h1:(c,some p)∈rows)(h2:(p,some c)∈rows):False:=by
 obtain⟨X,Y,e⟩:=zCv h1;obtain⟨s,hs,es⟩:=zAS.mp (Hu.ord X _ Y e p rfl);have hs2:s∈rows:=by rw[e];exact zAI _ hs
 have:=Hu.row hs2 h2 es
 subst this;obtain⟨X1,X2,e2⟩:=zCv hs;have e3:rows=X1++(p,some c)::(X2++(c,some p)::Y):=by rw[e,e2];simp
 have hc:=Hu.ord X1 _ _ e3 c rfl;have nd:=Hu.nd;rw[e3,zA0,zAd]at nd;exact nd.2.2 c hc c (by simp) rfl
def oU.up_in(Hu:oU n ps rows)(h1:(c,some p)∈rows):p∈rows.map (·.1):=by
 obtain⟨X,Y,e⟩:=zCv h1;rw[e,zA0];exact zAI _ (Hu.ord X _ Y e p rfl)
def Jo.mem{rows:List Hr}(J:Jo n es rows.reverse W T Fd){t:Int×Int}:t∈T↔∃p∈rows.map (·.1),∃c∈(W p).take (room es p),t=du p c:=by
 rw[J.t,zEV];constructor
 .rintro⟨p,hp,ht⟩
  obtain⟨c,hc,rfl⟩:=zAS.mp ht;exact⟨p,by rw[zB4,zB5]at hp;exact hp,c,hc,rfl⟩
 .rintro⟨p,hp,c,hc,rfl⟩
  exact⟨p,by rw[zB4,zB5];exact hp,zAS.mpr ⟨c,hc,rfl⟩⟩
def Jo.wr{rows:List Hr}(J:Jo n es rows.reverse W T Fd):c∈W x↔(c,some x)∈rows/\c∉Fd:=by
 rw[J.w,zB5]
def Jo.nodup(Hu:oU n ps rows)(J:Jo n es rows.reverse W T Fd):T.Nodup:=by
 rw[J.t,zAg,List.pairwise_flatMap];refine⟨λ p hp=>?_,?_⟩
 .rw[zBU]
  have:=((J.nd p).sublist (zGU (room es p) (W p)))
  rw[zAg]at this;exact this.imp λ{a b} ne e=>by
   rcases aB8 e with ⟨_,z⟩|⟨z1,z2⟩
   .exact ne z
   .exact ne (z2.trans z1)
 .have nd:(rows.reverse.map (·.1)).Nodup:=by rw[zB4];exact(zEN _).nodup_iff.mpr Hu.nd
  rw[zAg]at nd;refine nd.imp λ{p p'} ne t ht t' ht' e=>?_
  obtain⟨c,hc,rfl⟩:=zAS.mp ht;obtain⟨c',hc',rfl⟩:=zAS.mp ht';rcases aB8 e with ⟨z,_⟩|⟨z1,z2⟩
  .exact ne z
  .subst z1 z2
   exact Hu.no2 (J.wr.mp (zBT hc)).1 (J.wr.mp (zBT hc')).1
def Jo.sub(Hu:oU n ps rows)(low:∀p∈ps,p.1<p.2)(J:Jo n es rows.reverse W T Fd):∀t∈T,t∈ps:=λ t ht=>by
 obtain⟨p,_,c,hc,rfl⟩:=J.mem.mp ht;exact wI low (m7 ps _ _ (Hu.tie _ (J.wr.mp (zBT hc)).1 p rfl))
def aDH(es:List Int)(x:Int):1<=room es x:=by unfold room;split<;>lia
def Jo.less(Hu:oU n ps rows)(J:Jo n es rows.reverse W T Fd)(h:x∉Fd):(W x).length<room es x:=by
 by_cases c:x∈rows.map (·.1)
 .have:=J.fi x (by rw[zB4,zB5];exact c)
  exact Nat.lt_of_not_le λ z=>h (this.mpr z)
 .have:W x=[]:=by
   rw[List.eq_nil_iff_forall_not_mem];exact λ c' hc=>c (Hu.up_in (J.wr.mp hc).1)
  rw[this];exact aDH es x
def aCf{p c x:Int}(h:(decide ((du p c).1=x)||decide ((du p c).2=x))=true):p=x\/c=x:=by
 unfold du at h;simp at h;rcases nD p c with ⟨h1,h2⟩|⟨h1,h2⟩<;>rw[h1,h2]at h
 .exact h
 .exact h.symm
def Jo.deg(Hu:oU n ps rows)(J:Jo n es rows.reverse W T Fd)(x:Int):dgr T x<=room es x:=by
 have nd:=(J.nodup Hu).filter λ t=>decide (t.1=x)||decide (t.2=x)
 have hx:∀t∈T.filter (λ t=>decide (t.1=x)||decide (t.2=x)),t∈((W x).take (room es x)).map (du x)\/∃p,t=du p x/\(x,some p)∈rows/\x∉Fd:=λ t ht=>by
  obtain⟨h1,h2⟩:=zA5.mp ht;obtain⟨p,_,c,hc,rfl⟩:=J.mem.mp h1;rcases aCf h2 with rfl|rfl
  .exact .inl (zAS.mpr ⟨c,hc,rfl⟩)
  .exact .inr ⟨p,rfl,J.wr.mp (zBT hc)⟩
 unfold dgr;by_cases c:x∈Fd
 .have:=fH nd λ t ht=>(hx t ht).resolve_right λ⟨p,_,_,z⟩=>z c
  rw[zAB,zBA]at this;lia
 .have hl:=J.less Hu c
  by_cases h:∃u,(x,some u)∈rows
  .obtain⟨u,hu⟩:=h
   have:=fH (m:=(W x).map (du x)++[du u x]) nd λ t ht=>by
    rcases hx t ht with z|⟨p,rfl,z,_⟩
    .obtain⟨c',hc',rfl⟩:=zAS.mp z
     exact zAI _ (zAS.mpr ⟨c',zBT hc',rfl⟩)
    .have:=congrArg zE3 (Hu.row z hu rfl)
     dsimp only at this;cases this;simp
   rw[zAW,zAB,zAq]at this;lia
  .have:=fH (m:=(W x).map (du x)) nd λ t ht=>by
    rcases hx t ht with z|⟨p,_,z,_⟩
    .obtain⟨c',hc',rfl⟩:=zAS.mp z
     exact zAS.mpr ⟨c',zBT hc',rfl⟩
    .exact absurd ⟨p,z⟩ h
   rw[zAB]at this;lia
def Jo.most(O:Ow n ps)(Hu:oU n ps rows)(low:∀p∈ps,p.1<p.2)(J:Jo n es rows.reverse W T Fd)(nd:F.Nodup)(sub:∀t∈F,t∈ps)(deg:∀x,dgr F x<=room es x):F.length<=T.length:=by
 have h1:=aBK Fd F;have h2:=yR (l:=Fd) λ x _=>deg x
 have ndP:(rows.reverse.map (·.1)).Nodup:=by rw[zB4];exact(zEN _).nodup_iff.mpr Hu.nd
 have e1:T.length=((rows.reverse.map (·.1)).map λ p=>((W p).take (room es p)).length).sum:=by
  rw[J.t,zDs];exact congrArg zGx (zBQ λ p _=>by rw[zAB])
 rw[yQ (q:=λ p=>decide (p∈Fd))]at e1;have pm:((rows.reverse.map (·.1)).filter λ p=>decide (p∈Fd)).Perm Fd:=(zCI (ndP.filter _) J.fnd).mpr λ p=>by
  rw[zA5,decide_eq_true_eq];exact⟨λ h=>h.2,λ h=>⟨J.fz p h,h⟩⟩
 have e2:(((rows.reverse.map (·.1)).filter λ p=>decide (p∈Fd)).map λ p=>((W p).take (room es p)).length).sum=(Fd.map (room es)).sum:=by
  rw[(pm.map _).sum_nat];refine congrArg zGx (zBQ λ p hp=>?_)
  have:=(J.fi p (J.fz p hp)).mp hp
  rw[zBA];lia
 have h3:(F.filter (zF Fd)).length<=(((rows.reverse.map (·.1)).filter λ p=>!decide (p∈Fd)).flatMap λ p=>((W p).take (room es p)).map (du p)).length:=by
  refine fH (nd.filter _) λ t ht=>?_
  obtain⟨h4,h5⟩:=zA5.mp ht;have hp:=sub t h4;have hl:=low t hp;obtain⟨x,y⟩:=t;simp only[zF,zBI,Bool.or_eq_false_iff,decide_eq_false_iff_not]at h5;dsimp only at hl;obtain⟨x0,x1,y0,y1,_⟩:=O.pr _ hp;have key:∀c p,(c,some p)∈rows->c∉Fd->p∉Fd->du p c=(x,y)->(x,y)∈((rows.reverse.map (·.1)).filter λ p=>!decide (p∈Fd)).flatMap λ p=>((W p).take (room es p)).map (du p):=λ c p h1 h2 h3 e=>by
   refine zEV.mpr ⟨p,zA5.mpr ⟨by rw[zB4,zB5];exact Hu.up_in h1,by simpa using h3⟩,?_⟩;rw[<-e,zBP (zBV (J.less Hu h3))];exact zAS.mpr ⟨c,J.wr.mpr ⟨h1,h2⟩,rfl⟩
  have hxm:x∈rows.map (·.1):=Hu.pm.mem_iff.mpr (bU.mpr ⟨x0,x1⟩);obtain⟨r,hr,rfl⟩:=zAS.mp hxm;rcases Hu.cl r hr y (cR.mpr (.inl hp))with z|z
  .exact key r.1 y (by rw[<-z];exact hr) h5.1 h5.2 (by rw[aFc,aBH hl])
  .exact key y r.1 z h5.2 h5.1 (aBH hl)
 rw[zDs]at h3;simp only[zAB]at h3;rw[e2]at e1;lia
end
abbrev Tr:=List (Int×Int)×(Int->Int)×(Int->Int)
def wg(qs:gX)(ls us:List Int):D:=.tup [.tup (qs.map pD),tupI ls,tupI us]
def rwF(n:Int)(t:Tr):D:=wg t.1 ((upI n).map t.2.1) ((upI n).map t.2.2)
def cnd(p:Int×Int)(t:Tr):Bool:=decide (t.2.2 p.1<2)&&(decide (t.2.2 p.2<2)&& !decide (t.2.1 p.1=t.2.1 p.2))
def nwT(p:Int×Int)(t:Tr):Tr:=(t.1++[p],(λ z=>if t.2.1 z=mxI (t.2.1 p.1) (t.2.1 p.2)then mnI (t.2.1 p.1) (t.2.1 p.2)else t.2.1 z),λ z=>t.2.2 z+(if z=p.1\/z=p.2 then 1 else 0))
def bR(ps:gX):List Tr:=ps.foldl (λ L p=>L++(L.filter (cnd p)).map (nwT p)) [([],id,λ _=>0)]
section
variable{n:Int}{ps:gX}
def zq{f:Int->Int}{x:Int}(h0:0<=x)(h1:x<n):atD (((upI n).map f).map .int) x= .ok (.int (f x)):=by
 have ex:((x.toNat:Nat):Int)=x:=zB0 h0
 have:=dq (l:=((upI n).map f).map .int) (k:=x.toNat) (d:=.int (f x)) (by
  rw[zAV,zAV];unfold upI;rw[zAV,zDr (by lia)];simp[ex])
 rwa [ex]at this
def aHR{x y:Int}(h6:ρ[6]? =some (.sh (tupI ((upI n).map lf))))(h8:ρ[8]? =some (.sh (.int x)))(h9:ρ[9]? =some (.sh (.int y)))(hl:n<=60):roL ρ= .ok (tupI ((upI n).map λ z=>if lf z=y then x else lf z)):=by
 have hu:(upI n).length<=60:=by rw[dF];lia
 have e:lcD (cT (aD 6)) [none,some 9,some 8] (gnm 0) jP (ifD (tsb (op2 (eqR false) (aD 0) (aD 1))) (bA (aD 2)) (bA (aD 0))) ρ= .ok (.lst (((upI n).map λ z=>if lf z=y then x else lf z).map .int)):=by
  rw[zAs];refine jo (ds:=(upI n).map λ z=>.int (lf z)) (by simp[shE,nQ,tupI,h6]) (by rw[zAB];lia) (oG (upI n) λ z hz=>⟨[.sh (.int (lf z)),.sh (.int y),.sh (.int x)],by simp[stE,shE,nQ,h8,h9],?_⟩);by_cases c:lf z=y<;>simp[c,pK,imm]
 unfold roL;rw[lG,cY,e];simp[tupI]
def aHQ(h:Ow n ps)(h0:ρ[0]? =some (.sh (owD n ps)))(h7:ρ[7]? =some (.sh (tupI ((upI n).map uf))))(h2:ρ[2]? =some (.sh (.int a)))(h3:ρ[3]? =some (.sh (.int b))):roU ρ= .ok (tupI ((upI n).map λ z=>uf z+(if z=a\/z=b then 1 else 0))):=by
 have hn1:=h.n1;have hn0:=h.n0;have hr:=gn (j:=n) (by lia) (by lia);have hx:ixD (owD n ps) (.int 0)= .ok (.int n):=by simp[owD]
 have e:lcD (iU jN (aC (op2 ixD (aD 0) (cD (.int 0))) aH)) [none,some 7,some 2,some 3] (gnm 0) jP (op2 cM (bA (op2 ixD (aD 1) (aD 0))) (opA lR (aC (orD (op2 (eqR false) (aD 0) (aD 2)) (op2 (eqR false) (aD 0) (aD 3))) aH))) ρ= .ok (.lst (((upI n).map λ z=>uf z+(if z=a\/z=b then 1 else 0)).map .int)):=by
  rw[zAs];refine jo (ds:=(upI n).map .int) ?_ (by rw[zAB,dF];lia) (oG (upI n) λ z hz=>⟨[.sh (.int z),.sh (tupI ((upI n).map uf)),.sh (.int a),.sh (.int b)],by simp[stE,shE,nQ,h7,h2,h3],?_⟩)
  .simp[shE,nQ,h0,hx,hr,wj]
  .obtain⟨z0,z1⟩:=bU.mp hz
   have g:=zq (f:=uf) z0 z1;have v:bA (op2 ixD (aD 1) (aD 0)) [.sh (.int z),.sh (tupI ((upI n).map uf)),.sh (.int a),.sh (.int b)]= .ok (.int (uf z)):=by
    simp only[aBj,lH,aBD,zC0,zCZ,cL,tupI,aFm,g,qN];rfl
   rw[lH,v,cL];by_cases c1:z=a
   .subst c1
    by_cases c2:z=b
    .subst c2
     simp[lR]
    .simp[c2,lR]
   .by_cases c2:z=b
    .subst c2
     simp[c1,lR]
    .simp[c1,c2,lR]
 unfold roU;rw[lG,cY,e];simp[tupI]
abbrev roV(n:Int)(ps:gX)(s1:Slot)(a b:Int)(lg:List D)(t:Tr)(s8 s9 s10 s11:Slot):En:=[.sh (owD n ps),s1,.sh (.int a),.sh (.int b),.ow (.lst lg),.sh (.tup (t.1.map pD)),.sh (tupI ((upI n).map t.2.1)),.sh (tupI ((upI n).map t.2.2)),s8,s9,s10,s11]
def aHS{lg:List D}(h:Ow n ps)(ha:0<=a/\a<n)(hb:0<=b/\b<n)(hg:lg.length<100000)(hq:t.1.length<=1000):
  ∃s8' s9' s10' s11',roB (roV n ps s1 a b lg t s8 s9 s10 s11)= .nx (roV n ps s1 a b (lg++(if cnd (a,b) t=true then[rwF n (nwT (a,b) t)]else[])) t s8' s9' s10' s11'):=by
 have hn1:=h.n1;have g1:=zq (f:=t.2.2) ha.1 ha.2;have g2:=zq (f:=t.2.2) hb.1 hb.2;have g3:=zq (f:=t.2.1) ha.1 ha.2;have g4:=zq (f:=t.2.1) hb.1 hb.2;have x1:ixD (tupI ((upI n).map t.2.2)) (.int a)= .ok (.int (t.2.2 a)):=g1;have x2:ixD (tupI ((upI n).map t.2.2)) (.int b)= .ok (.int (t.2.2 b)):=g2;have x3:ixD (tupI ((upI n).map t.2.1)) (.int a)= .ok (.int (t.2.1 a)):=g3;have x4:ixD (tupI ((upI n).map t.2.1)) (.int b)= .ok (.int (t.2.1 b)):=g4;have ez:roT (roV n ps s1 a b lg t s8 s9 s10 s11)= .ok (cnd (a,b) t):=by
  unfold cnd;by_cases c1:t.2.2 a<2
  .by_cases c2:t.2.2 b<2
   .by_cases c3:t.2.1 a=t.2.1 b<;>simp[roT,x1,x2,x3,x4,c1,c2,c3]
   .simp[roT,x1,x2,x3,x4,c1,c2]
  .simp[roT,x1,x2,x3,x4,c1]
 cases z:cnd (a,b) t with
 |false=>exact⟨s8,s9,s10,s11,by rw[roB,fX,ez,z];simp⟩
 |true=>
  have ex:cX 8 (opA (mmD λ i j=>if j<i then j else i) (aC (op2 ixD (aD 6) (aD 2)) (aC (op2 ixD (aD 6) (aD 3)) aH))) (roV n ps s1 a b lg t s8 s9 s10 s11)= .nx (roV n ps s1 a b lg t (.sh (.int (mnI (t.2.1 a) (t.2.1 b)))) s9 s10 s11):=by simp[x3,x4,mnI]
  have ey:cX 9 (opA (mmD λ i j=>if j>i then j else i) (aC (op2 ixD (aD 6) (aD 2)) (aC (op2 ixD (aD 6) (aD 3)) aH))) (roV n ps s1 a b lg t (.sh (.int (mnI (t.2.1 a) (t.2.1 b)))) s9 s10 s11)= .nx (roV n ps s1 a b lg t (.sh (.int (mnI (t.2.1 a) (t.2.1 b)))) (.sh (.int (mxI (t.2.1 a) (t.2.1 b)))) s10 s11):=by simp[x3,x4,mxI]
  have e1:=aHR (ρ:=roV n ps s1 a b lg t (.sh (.int (mnI (t.2.1 a) (t.2.1 b)))) (.sh (.int (mxI (t.2.1 a) (t.2.1 b)))) s10 s11) (n:=n) (lf:=t.2.1) rfl rfl rfl hn1;have e2:=λ s=>aHQ (ρ:=roV n ps s1 a b lg t (.sh (.int (mnI (t.2.1 a) (t.2.1 b)))) (.sh (.int (mxI (t.2.1 a) (t.2.1 b)))) s s11) (uf:=t.2.2) h rfl rfl rfl rfl
  obtain⟨l',hl'⟩:∃l':List Int,l'=(upI n).map λ z=>if t.2.1 z=mxI (t.2.1 a) (t.2.1 b)then mnI (t.2.1 a) (t.2.1 b)else t.2.1 z:=⟨_,rfl⟩
  obtain⟨u',hu'⟩:∃u':List Int,u'=(upI n).map λ z=>t.2.2 z+(if z=a\/z=b then 1 else 0):=⟨_,rfl⟩
  rw[<-hl']at e1;simp only[<-hu']at e2;have er:rwF n (nwT (a,b) t)=wg (t.1++[(a,b)]) l' u':=by rw[hl',hu'];rfl
  have e3:roA (roV n ps s1 a b lg t (.sh (.int (mnI (t.2.1 a) (t.2.1 b)))) (.sh (.int (mxI (t.2.1 a) (t.2.1 b)))) (.sh (tupI l')) (.sh (tupI u')))= .nx (roV n ps s1 a b (lg++[wg (t.1++[(a,b)]) l' u']) t (.sh (.int (mnI (t.2.1 a) (t.2.1 b)))) (.sh (.int (mxI (t.2.1 a) (t.2.1 b)))) (.sh (tupI l')) (.sh (tupI u'))):=by
   have A:cM (.tup (t.1.map pD)) (.tup [.tup [.int a,.int b]])= .ok (.tup ((t.1++[(a,b)]).map pD)):=by
    rw[aJm (by simp;lia),zA0];rfl
   have i1:dU (t.1.map pD)=true:=jq λ d hd=>by
    obtain⟨p,_,rfl⟩:=zAS.mp hd;rfl
   have i2:dU (l'.map D.int)=true:=lU l';have i3:dU (u'.map D.int)=true:=lU u';have hz:lg.length<16777216:=by lia
   simp[roA,gO,tupI,pK,imm,i1,i2,i3,A,wg,hz,-aAA]
  refine⟨.sh (.int (mnI (t.2.1 a) (t.2.1 b))),.sh (.int (mxI (t.2.1 a) (t.2.1 b))),.sh (tupI l'),.sh (tupI u'),?_⟩
  .rw[roB,fX,ez,z,bN,if_pos rfl,aM,ex,aW,aM,ey,aW,aM,sI,e1,bN]
   simp only[zEG,zEH,aW];rw[aM,sI,e2,bN];simp only[zEG,zEH,aW];rw[if_pos trivial,er];exact e3
theorem mL:∀{l:List D},(∀d∈l,gJ d d=true)->fC l l=true
 |[],_=>rfl
 |x::l,h=>by
  rw[fC,h x zAJ,mL λ d hd=>h d (zAF _ hd)];rfl
def same_ints(l:List Int):fC (l.map .int) (l.map .int)=true:=mL λ d hd=>by
 obtain⟨i,_,rfl⟩:=zAS.mp hd;simp[gJ]
def aDA(l:gX):fC (l.map pD) (l.map pD)=true:=mL λ d hd=>by
 obtain⟨i,_,rfl⟩:=zAS.mp hd;simp[pD,gJ,fC]
def sW(l:gX):dU (l.map pD)=true:=jq λ d hd=>by
 obtain⟨p,_,rfl⟩:=zAS.mp hd;rfl
def aDD(t:Tr):gJ (rwF n t) (rwF n t)=true:=by
 have h1:=same_ints ((upI n).map t.2.1);have h2:=same_ints ((upI n).map t.2.2);have h3:=aDA t.1;unfold rwF wg tupI;simp only[gJ,fC,h1,h2,h3];rfl
def aBU(t:Tr):VL.imm (rwF n t)=true:=by
 have h1:dU (((upI n).map t.2.1).map D.int)=true:=lU _;have h2:dU (((upI n).map t.2.2).map D.int)=true:=lU _;have h3:=sW t.1;unfold rwF wg tupI;simp only[VL.imm,dU,h1,h2,h3];rfl
abbrev roW(n:Int)(ps:gX)(l:List D)(a b:Int)(lg:List D)(s5 s6 s7 s8 s9 s10 s11:Slot):En:=[.sh (owD n ps),.ow (.lst l),.sh (.int a),.sh (.int b),.ow (.lst lg),s5,s6,s7,s8,s9,s10,s11]
theorem aG9{l:List D}(h:Ow n ps)(ha:0<=a/\a<n)(hb:0<=b/\b<n)(hl:fC l l=true):∀(L lg:List Tr) (s5 s6 s7 s8 s9 s10 s11:Slot),(∀t∈L,t.1.length<=1000)->lg.length+L.length<100000->
  ∃s5' s6' s7' s8' s9' s10' s11',lW 1 l roG roB (L.map (rwF n)) (roW n ps l a b (lg.map (rwF n)) s5 s6 s7 s8 s9 s10 s11)= .nx (roW n ps l a b ((lg++(L.filter (cnd (a,b))).map (nwT (a,b))).map (rwF n)) s5' s6' s7' s8' s9' s10' s11')
 |[],lg,s5,s6,s7,s8,s9,s10,s11,_,_=>by
  refine⟨s5,s6,s7,s8,s9,s10,s11,?_⟩;have o:qd 1 l (roW n ps l a b (lg.map (rwF n)) s5 s6 s7 s8 s9 s10 s11)=true:=hl;rw[zCU];unfold lW;rw[if_pos o];simp
 |t::L,lg,s5,s6,s7,s8,s9,s10,s11,h1,h3=>by
  rw[zA2]at h3;obtain⟨t8,t9,t10,t11,e⟩:=aHS (t:=t) (s1:=.ow (.lst l)) (lg:=lg.map (rwF n)) (s8:=s8) (s9:=s9) (s10:=s10) (s11:=s11) h ha hb (by rw[zAB];lia) (h1 t zAJ);have el:lg.map (rwF n)++(if cnd (a,b) t=true then[rwF n (nwT (a,b) t)]else[])=(lg++(if cnd (a,b) t=true then[nwT (a,b) t]else[])).map (rwF n):=by
   split<;>simp
  rw[el]at e;obtain⟨u5,u6,u7,u8,u9,u10,u11,e2⟩:=aG9 h ha hb hl L (lg++(if cnd (a,b) t=true then[nwT (a,b) t]else[])) (.sh (.tup (t.1.map pD))) (.sh (tupI ((upI n).map t.2.1))) (.sh (tupI ((upI n).map t.2.2))) t8 t9 t10 t11 (λ d hd=>h1 d (zAF _ hd)) (by rw[zAW];split<;>simp<;>lia);refine⟨u5,u6,u7,u8,u9,u10,u11,?_⟩;have o:qd 1 l (roW n ps l a b (lg.map (rwF n)) s5 s6 s7 s8 s9 s10 s11)=true:=hl;have g:roG (rwF n t) (roW n ps l a b (lg.map (rwF n)) s5 s6 s7 s8 s9 s10 s11)= .ok (roV n ps (.ow (.lst l)) a b (lg.map (rwF n)) t s8 s9 s10 s11):=by simp[roG,rwF,wg]
  rw[zAP];unfold lW;rw[if_pos o,g];dsimp only;rw[e];dsimp only;have ef:(lg++(if cnd (a,b) t=true then[nwT (a,b) t]else[]))++(L.filter (cnd (a,b))).map (nwT (a,b))=lg++((t::L).filter (cnd (a,b))).map (nwT (a,b)):=by
   rw[zBF];split<;>simp
  rw[e2,ef]
abbrev roE(n:Int)(ps:gX)(L:List Tr)(s2 s3 s4 s5 s6 s7 s8 s9 s10 s11:Slot):En:=[.sh (owD n ps),.ow (.lst (L.map (rwF n))),s2,s3,s4,s5,s6,s7,s8,s9,s10,s11]
def aHP(h:Ow n ps)(ha:0<=a/\a<n)(hb:0<=b/\b<n)(hl:∀t∈L,t.1.length<=1000)(hz:L.length<=40000){s4:Slot}:
  ∃s4' s5' s6' s7' s8' s9' s10' s11',roO (roE n ps L (.sh (.int a)) (.sh (.int b)) s4 s5 s6 s7 s8 s9 s10 s11)= .nx (roE n ps (L++(L.filter (cnd (a,b))).map (nwT (a,b))) (.sh (.int a)) (.sh (.int b)) s4' s5' s6' s7' s8' s9' s10' s11'):=by
 obtain⟨t5,t6,t7,t8,t9,t10,t11,e⟩:=aG9 (l:=L.map (rwF n)) h ha hb (mL λ d hd=>by obtain⟨t,_,rfl⟩:=zAS.mp hd;exact aDD t) L [] s5 s6 s7 s8 s9 s10 s11 hl (by simp;lia);have hf:=zCC (cnd (a,b)) L;have c1:fM 4 (dh aH) (roE n ps L (.sh (.int a)) (.sh (.int b)) s4 s5 s6 s7 s8 s9 s10 s11)= .nx (roW n ps (L.map (rwF n)) a b [] s5 s6 s7 s8 s9 s10 s11):=by simp
 have c2:aGE 1 roG roB (roW n ps (L.map (rwF n)) a b [] s5 s6 s7 s8 s9 s10 s11)= .nx (roW n ps (L.map (rwF n)) a b (((L.filter (cnd (a,b))).map (nwT (a,b))).map (rwF n)) t5 t6 t7 t8 t9 t10 t11):=by
  show(if dU (L.map (rwF n))=true then lW 1 (L.map (rwF n)) roG roB (L.map (rwF n)) (roW n ps (L.map (rwF n)) a b [] s5 s6 s7 s8 s9 s10 s11)else .st)=_
  rw[if_pos (jq λ d hd=>by obtain⟨t,_,rfl⟩:=zAS.mp hd;exact aBU t)];exact e
 have c3:aGH 1 4 (roW n ps (L.map (rwF n)) a b (((L.filter (cnd (a,b))).map (nwT (a,b))).map (rwF n)) t5 t6 t7 t8 t9 t10 t11)= .nx (roW n ps (L.map (rwF n)++((L.filter (cnd (a,b))).map (nwT (a,b))).map (rwF n)) a b (((L.filter (cnd (a,b))).map (nwT (a,b))).map (rwF n)) t5 t6 t7 t8 t9 t10 t11):=by
  show(if (L.map (rwF n)).length+(((L.filter (cnd (a,b))).map (nwT (a,b))).map (rwF n)).length<=zAQ/\dU (((L.filter (cnd (a,b))).map (nwT (a,b))).map (rwF n))=true then Ou.nx (roW n ps (L.map (rwF n)++((L.filter (cnd (a,b))).map (nwT (a,b))).map (rwF n)) a b (((L.filter (cnd (a,b))).map (nwT (a,b))).map (rwF n)) t5 t6 t7 t8 t9 t10 t11)else .st)=_
  rw[if_pos ⟨by rw[szl,zAB,zAB,zAB];lia,jq λ d hd=>by obtain⟨t,_,rfl⟩:=zAS.mp hd;exact aBU t⟩]
 refine⟨.ow (.lst (((L.filter (cnd (a,b))).map (nwT (a,b))).map (rwF n))),t5,t6,t7,t8,t9,t10,t11,?_⟩;rw[roO,aM,c1,aW,aM,c2,aW,c3,<-zA0]
def jV(ps:gX)(p:Int×Int):bR (ps++[p])=bR ps++((bR ps).filter (cnd p)).map (nwT p):=by
 unfold bR;rw[List.foldl_append];rfl
def snoc_ind{α:Type}{P:List α->Prop}(h0:P [])(h1:∀l a,P l->P (l++[a]))(l:List α):P l:=by
 have:∀k (l:List α),l.length=k->P l:=by
  intro k;induction k with
  |zero=>exact λ l e=>by rw[zFW.mp e];exact h0
  |succ k ih=>
   intro l e;rcases zFi l with rfl|⟨l',a,rfl⟩
   .exact h0
   .rw[zFh]at e ⊢
    rw[zAW,zAq]at e;exact h1 l' a (ih l' (by lia))
 exact this _ l rfl
def uA(ps:gX):(bR ps).length<=2^ps.length/\∀t∈bR ps,t.1.length<=ps.length:=by
 induction ps using snoc_ind with
 |h0=>exact⟨by simp[bR],λ t ht=>by
  rw[zAD.mp ht];exact zAU _⟩
 |h1 l a ih=>
  rw[jV];have hf:=zCC (cnd a) (bR l);refine⟨by rw[zAW,zAB,zAW,zAq,Nat.pow_succ];have:=ih.1;lia,λ t ht=>?_⟩;rw[zAW,zAq];rcases zAO.mp ht with z|z
  .have:=ih.2 t z;lia
  .obtain⟨s,hs,rfl⟩:=zAS.mp z
   have:=ih.2 s (zA5.mp hs).1
   simp[nwT];lia
def rwD(qs:gX):D:=.tup (qs.map pD)
def zK(h:Ow n ps)(hn:n<=12)(hps:ps.length<=12):iu [owD n ps]= .ok (.lst ((bR ps).map λ t=>rwD t.1)):=by
 have hn0:=h.n0;have st:aj 12 [owD n ps]=[.sh (owD n ps),.no,.no,.no,.no,.no,.no,.no,.no,.no,.no,.no]:=rfl;have hx:ixD (owD n ps) (.int 0)= .ok (.int n):=by simp[owD]
 obtain⟨N,rfl⟩:∃N:Nat,n=N:=⟨n.toNat,(zB0 hn0).symm⟩
 have hi0:rwF N ([],id,λ _=>0)= .tup [.tup [],tupI (upI N),tupI (zAM N 0)]:=by
  unfold rwF wg;rw[List.map_id]
  have:(upI N).map (λ _=>(0:Int))=zAM N 0:=by
   rw[List.map_const',dF];rfl
  rw[this];rfl
 have c1:fM 1 (dh (aC (dG (aC (dG aH) (aC (trD (op2 ixD (aD 0) (cD (.int 0)))) (aC (op2 aAa (dG (aC (cD (.int 0)) aH)) (bA (op2 ixD (aD 0) (cD (.int 0))))) aH)))) aH)) [.sh (owD N ps),.no,.no,.no,.no,.no,.no,.no,.no,.no,.no,.no]= .nx (roE N ps (bR []) .no .no .no .no .no .no .no .no .no .no):=by
  have t1:trD (op2 ixD (aD 0) (cD (.int 0))) [.sh (owD N ps),.no,.no,.no,.no,.no,.no,.no,.no,.no,.no,.no]= .ok (tupI (upI N)):=by
   have v:op2 ixD (aD 0) (cD (.int 0)) [.sh (owD N ps),.no,.no,.no,.no,.no,.no,.no,.no,.no,.no,.no]= .ok (.int N):=by simp[hx]
   unfold trD;rw[v,cL];unfold trR;dsimp only;rw[if_pos (by lia),wj,tupI]
  have t2:aAa (.tup [.int 0]) (.int N)= .ok (tupI (zAM N 0)):=by
   have:N=0\/N=1\/N=2\/N=3\/N=4\/N=5\/N=6\/N=7\/N=8\/N=9\/N=10\/N=11\/N=12:=by lia
   rcases this with rfl|rfl|rfl|rfl|rfl|rfl|rfl|rfl|rfl|rfl|rfl|rfl|rfl<;>simp[aAa,aF9,zBz,tupI,zAM]
  show _=Ou.nx [.sh (owD N ps),.ow (.lst [rwF N ([],id,λ _=>0)]),.no,.no,.no,.no,.no,.no,.no,.no,.no,.no];rw[hi0];simp[t1,t2,hx]
 have hi:cT (op2 ixD (aD 0) (cD (.int 1))) (roE N ps (bR []) .no .no .no .no .no .no .no .no .no .no)= .ok (ps.map pD):=by simp[owD]
 obtain⟨ρ',e,s2,s3,s4,s5,s6,s7,s8,s9,s10,s11,rfl⟩:=iZ (ds:=ps.map pD) (a:=gf 2 (au (gnm 2) (au (gnm 3) gq))) (u:=roO) (ρ:=roE N ps (bR []) .no .no .no .no .no .no .no .no .no .no)
  (λ i ρ=>∃(s2 s3 s4 s5 s6 s7 s8 s9 s10 s11:Slot),ρ=roE N ps (bR (ps.take i)) s2 s3 s4 s5 s6 s7 s8 s9 s10 s11) (by
   rintro i d ρ hd ⟨s2,s3,s4,s5,s6,s7,s8,s9,s10,s11,rfl⟩;rw[zAV]at hd;cases ep:ps[i]? with
   |none=>rw[ep]at hd;cases hd
   |some p=>
    rw[ep]at hd;cases hd;obtain⟨a0,a1,b0,b1,_⟩:=h.pr p (zAa ep);obtain⟨r1,r2⟩:=uA (ps.take i);have hle:2^(ps.take i).length<=2^12:=zDk (by decide) (by rw[zBA];lia);have hlt:(ps.take i).length<=12:=by rw[zBA];lia
    obtain⟨t4,t5,t6,t7,t8,t9,t10,t11,e⟩:=aHP (L:=bR (ps.take i)) (s4:=s4) (s5:=s5) (s6:=s6) (s7:=s7) (s8:=s8) (s9:=s9) (s10:=s10) (s11:=s11) h ⟨a0,a1⟩ ⟨b0,b1⟩ (λ t ht=>by have:=r2 t ht;lia) (by lia);refine⟨_,by simp[pD];exact e,.sh (.int p.1),.sh (.int p.2),t4,t5,t6,t7,t8,t9,t10,t11,?_⟩;rw[zEO,ep];show _=roE N ps (bR (ps.take i++[p])) _ _ _ _ _ _ _ _ _ _;rw[jV]) ⟨_,_,_,_,_,_,_,_,_,_,rfl⟩
 rw[zBP (by rw[zAB];exact zAU _)]at e;have hle:2^ps.length<=2^12:=zDk (by decide) hps;have hrl:=(uA ps).1;have eR:roR (roE N ps (bR ps) s2 s3 s4 s5 s6 s7 s8 s9 s10 s11)= .ok (.lst ((bR ps).map λ t=>rwD t.1)):=by
  refine jo (ds:=(bR ps).map (rwF N)) (by simp[shE,nQ]) (by rw[zAB];lia) (oG (bR ps) λ t hm=>⟨[.sh (rwF N t)],rfl,?_⟩);have i1:=sW t.1;simp[rwF,wg,pK,imm,i1,rwD]
 simp only[iu,fj,bD,st];rw[aM,c1,aW,aM,dD,hi,bN,e,aW,mO,eR];rfl
end
section
variable{n:Int}{ps:gX}
theorem aAv{α:Type}{P Q:α->Bool}:∀{l:List α},(∀x∈l,¬(P x=true/\Q x=true))->(l.filter λ x=>P x||Q x).length=(l.filter P).length+(l.filter Q).length
 |[],_=>rfl
 |x::l,h=>by
  have ih:=aAv λ y hy=>h y (zAF _ hy)
  have hx:=h x zAJ;cases c1:P x<;>cases c2:Q x<;>simp[c1,c2]at hx ⊢<;>lia
def nq(lf:Int->Int)(qs:gX)(v:Int):Nat:=(qs.filter λ q=>decide (lf q.1=v)).length
def nc(n:Int)(lf:Int->Int)(v:Int):Nat:=((upI n).filter λ z=>decide (lf z=v)).length
structure RI(n:Int)(t:Tr):Prop where
 inn:∀q∈t.1,(0<=q.1/\q.1<n)/\(0<=q.2/\q.2<n)
 u:∀x,t.2.2 x=(dgr t.1 x:Int)
 l:∀q∈t.1,t.2.1 q.1=t.2.1 q.2
 c:∀x,0<=x->x<n->nq t.2.1 t.1 (t.2.1 x)+1=nc n t.2.1 (t.2.1 x)
def mF(F:gX)(p:Int×Int)(x:Int):dgr (F++[p]) x=dgr F x+(if x=p.1\/x=p.2 then 1 else 0):=by
 unfold dgr;rw[zB7,zAW,zBF];by_cases c:x=p.1\/x=p.2
 .rw[if_pos (by rcases c with c|c<;>simp[c]),if_pos c]
  simp
 .rw[if_neg (by rw[not_or]at c;simp[zDF c.1,zDF c.2]),if_neg c]
  simp
def RI.step(R:RI n t)(hp:(0<=p.1/\p.1<n)/\(0<=p.2/\p.2<n))(hc:cnd p t=true):RI n (nwT p t):=by
 obtain⟨qs,lf,uf⟩:=t;simp only[cnd,zAN,decide_eq_true_eq,zBI,decide_eq_false_iff_not]at hc;obtain⟨h1,h2,h3⟩:=hc;obtain⟨lo,hlo⟩:∃lo,lo=mnI (lf p.1) (lf p.2):=⟨_,rfl⟩
 obtain⟨hi,hhi⟩:∃hi,hi=mxI (lf p.1) (lf p.2):=⟨_,rfl⟩
 have hne:lo≠hi:=by
  rw[hlo,hhi];rcases nD (lf p.1) (lf p.2)with ⟨e1,e2⟩|⟨e1,e2⟩<;>rw[e1,e2]
  .exact h3
  .exact zDF h3
 have hab:(lf p.1=lo/\lf p.2=hi)\/(lf p.1=hi/\lf p.2=lo):=by
  rw[hlo,hhi];rcases nD (lf p.1) (lf p.2)with ⟨e1,e2⟩|⟨e1,e2⟩
  .exact .inl ⟨e1.symm,e2.symm⟩
  .exact .inr ⟨e2.symm,e1.symm⟩
 have ca:=R.c p.1 hp.1.1 hp.1.2;have cb:=R.c p.2 hp.2.1 hp.2.2;dsimp only at ca cb;have clo:nq lf qs lo+1=nc n lf lo:=by
  rcases hab with ⟨e1,e2⟩|⟨e1,e2⟩
  .rw[<-e1];exact ca
  .rw[<-e2];exact cb
 have chi:nq lf qs hi+1=nc n lf hi:=by
  rcases hab with ⟨e1,e2⟩|⟨e1,e2⟩
  .rw[<-e2];exact cb
  .rw[<-e1];exact ca
 have lab:∀z,(if lf z=hi then lo else lf z)=lo↔lf z=lo\/lf z=hi:=λ z=>by
  split
  .rename_i e
   exact⟨λ _=>.inr e,λ _=>rfl⟩
  .rename_i e
   exact⟨.inl,λ q=>q.resolve_right e⟩
 have labv:∀z v,v≠lo->v≠hi->((if lf z=hi then lo else lf z)=v↔lf z=v):=λ z v h1 h2=>by
  split
  .rename_i e
   exact⟨λ q=>absurd q.symm h1,λ q=>absurd (q.symm.trans e) h2⟩
  .exact Iff.rfl
 have nohi:∀z,(if lf z=hi then lo else lf z)≠hi:=λ z=>by
  split
  .exact hne
  .assumption
 have pl:(if lf p.1=hi then lo else lf p.1)=lo:=(lab p.1).mpr (hab.elim (λ z=>.inl z.1) λ z=>.inr z.1);have pl2:(if lf p.2=hi then lo else lf p.2)=lo:=(lab p.2).mpr (hab.elim (λ z=>.inr z.2) λ z=>.inl z.2);refine⟨λ q hq=>?_,λ x=>?_,λ q hq=>?_,λ x x0 x1=>?_⟩
 .rcases zAO.mp hq with z|z
  .exact R.inn q z
  .rw[zAD.mp z];exact hp
 .have:=R.u x
  dsimp only at this;show uf x+(if x=p.1\/x=p.2 then 1 else 0)=(dgr (qs++[p]) x:Int);rw[mF,this];split<;>simp
 .show(if lf q.1=mxI (lf p.1) (lf p.2)then mnI (lf p.1) (lf p.2)else lf q.1)=(if lf q.2=mxI (lf p.1) (lf p.2)then mnI (lf p.1) (lf p.2)else lf q.2)
  rw[<-hlo,<-hhi];rcases zAO.mp hq with z|z
  .have:=R.l q z
   dsimp only at this;rw[this]
  .rw[zAD.mp z,pl,pl2]
 .show nq (λ z=>if lf z=mxI (lf p.1) (lf p.2)then mnI (lf p.1) (lf p.2)else lf z) (qs++[p]) (if lf x=mxI (lf p.1) (lf p.2)then mnI (lf p.1) (lf p.2)else lf x)+1=nc n (λ z=>if lf z=mxI (lf p.1) (lf p.2)then mnI (lf p.1) (lf p.2)else lf z) (if lf x=mxI (lf p.1) (lf p.2)then mnI (lf p.1) (lf p.2)else lf x)
  rw[<-hlo,<-hhi];have hv:=nohi x;have hw:(if lf x=hi then lo else lf x)=lo\/(if lf x=hi then lo else lf x)=lf x:=by
   split
   .exact .inl rfl
   .exact .inr rfl
  have cx:=R.c x x0 x1;dsimp only at cx;generalize (if lf x=hi then lo else lf x)=w at hv hw ⊢;unfold nq nc at*;rw[zB7,zAW];by_cases c:w=lo
  .subst c
   have e1:(qs.filter λ q=>decide ((if lf q.1=hi then w else lf q.1)=w))=qs.filter λ q=>decide (lf q.1=w)||decide (lf q.1=hi):=zBh λ q _=>by
    rw[zBK,decide_eq_true_eq,zCX,decide_eq_true_eq,decide_eq_true_eq];exact lab q.1
   have e2:((upI n).filter λ z=>decide ((if lf z=hi then w else lf z)=w))=(upI n).filter λ z=>decide (lf z=w)||decide (lf z=hi):=zBh λ z _=>by
    rw[zBK,decide_eq_true_eq,zCX,decide_eq_true_eq,decide_eq_true_eq];exact lab z
   have no:∀z:Int,¬(decide (lf z=w)=true/\decide (lf z=hi)=true):=λ z q=>by
    rw[decide_eq_true_eq,decide_eq_true_eq]at q;exact hne (q.1.symm.trans q.2)
   rw[e1,e2,aAv λ q _=>no q.1,aAv λ z _=>no z,zBF,if_pos (decide_eq_true pl)];simp only[zDY,zA2,zBi];lia
  .have hwx:=hw.resolve_left c
   have e1:(qs.filter λ q=>decide ((if lf q.1=hi then lo else lf q.1)=w))=qs.filter λ q=>decide (lf q.1=w):=zBh λ q _=>by
    rw[zBK,decide_eq_true_eq,decide_eq_true_eq];exact labv q.1 w c hv
   have e2:((upI n).filter λ z=>decide ((if lf z=hi then lo else lf z)=w))=(upI n).filter λ z=>decide (lf z=w):=zBh λ z _=>by
    rw[zBK,decide_eq_true_eq,decide_eq_true_eq];exact labv z w c hv
   rw[e1,e2,zBF,if_neg (by rw[decide_eq_true_eq];exact λ e=>c (e.symm.trans pl)),hwx];simp only[zDY,zBi];exact cx
def w6(hp:∀p∈ps,(0<=p.1/\p.1<n)/\(0<=p.2/\p.2<n)):∀t∈bR ps,RI n t/\t.1.Sublist ps/\∀x,dgr t.1 x<=2:=by
 induction ps using snoc_ind with
 |h0=>
  intro t ht;rw[zAD.mp ht];refine⟨⟨λ q hq=>(nomatch hq),λ x=>rfl,λ q hq=>(nomatch hq),λ x x0 x1=>?_⟩,zDX _,λ x=>zAi _⟩;show 0+1=nc n id x;unfold nc;have h1:(upI n).filter (λ z=>decide (id z=x))=[x]:=by
   have nd:=(iI n).filter λ z=>decide (id z=x)
   have hm:∀z,z∈(upI n).filter (λ z=>decide (id z=x))↔z∈[x]:=λ z=>by
    rw[zA5,zAD,decide_eq_true_eq,bU];exact⟨λ q=>q.2,λ q=>⟨by rw[q];exact⟨x0,x1⟩,q⟩⟩
   exact List.perm_singleton.mp ((zCI nd (by simp)).mpr hm)
  rw[h1];rfl
 |h1 l a ih=>
  intro t ht;have hl:∀p∈l,(0<=p.1/\p.1<n)/\(0<=p.2/\p.2<n):=λ p h=>hp p (zAI _ h)
  rw[jV]at ht;rcases zAO.mp ht with z|z
  .obtain⟨h1,h2,h3⟩:=ih hl t z
   exact⟨h1,h2.trans (List.sublist_append_left _ _),h3⟩
  .obtain⟨s,hs,rfl⟩:=zAS.mp z
   obtain⟨hs1,hs2⟩:=zA5.mp hs;obtain⟨h1,h2,h3⟩:=ih hl s hs1;refine⟨h1.step (hp a (by simp)) hs2,h2.append (zDX _),λ x=>?_⟩;show dgr (s.1++[a]) x<=2;rw[mF];simp only[cnd,zAN,decide_eq_true_eq]at hs2;obtain⟨c1,c2,_⟩:=hs2;rw[h1.u]at c1 c2;split
   .rename_i e
    rcases e with rfl|rfl<;>lia
   .have:=h3 x;lia
def Ac.pre{l:gX}{a:Int×Int}(A:Ac (l++[a])):Ac l:=λ S nd ne=>by
 have:=A S nd ne
 unfold inN at this ⊢;rw[zB7,zAW]at this;lia
def aDG(hp:∀p∈ps,(0<=p.1/\p.1<n)/\(0<=p.2/\p.2<n))(nd:ps.Nodup)(A:Ac ps):∀sub:gX,sub.Sublist ps->(∀x,dgr sub x<=2)->∃t∈bR ps,t.1=sub:=by
 induction ps using snoc_ind with
 |h0=>
  intro sub hs _;rw[List.sublist_nil.mp hs];exact⟨_,zAD.mpr rfl,rfl⟩
 |h1 l a ih=>
  intro sub hs hd;have hl:∀p∈l,(0<=p.1/\p.1<n)/\(0<=p.2/\p.2<n):=λ p h=>hp p (zAI _ h)
  have ih:=ih hl (zAd.mp nd).1 A.pre;rw[jV];obtain⟨s1,s2,rfl,h1,h2⟩:=List.sublist_append_iff.mp hs;have h2':s2=[]\/s2=[a]:=by
   cases s2 with
   |nil=>exact .inl rfl
   |cons b r=>
    right;have hl:=h2.length_le;have hm:=h2.subset zAJ;rw[zA2,zAq]at hl;rw[zFW.mp (show r.length=0 by lia),zAD.mp hm]
  rcases h2' with rfl|rfl
  .rw[zAj]at hd ⊢
   obtain⟨t,ht,e⟩:=ih s1 h1 hd;exact⟨t,zAI _ ht,e⟩
  .have hd1:∀x,dgr s1 x<=2:=λ x=>by
    have:=hd x
    rw[mF]at this;lia
   obtain⟨t,ht,rfl⟩:=ih s1 h1 hd1;obtain⟨R,_,_⟩:=w6 hl t ht;have ha:=hp a (by simp);refine⟨nwT a t,zAY _ (zAS.mpr ⟨t,zA5.mpr ⟨ht,?_⟩,rfl⟩),rfl⟩;simp only[cnd,zAN,decide_eq_true_eq,zBI,decide_eq_false_iff_not];have d1:=hd a.1;have d2:=hd a.2;rw[mF,if_pos (.inl rfl)]at d1;rw[mF,if_pos (.inr rfl)]at d2;refine⟨by rw[R.u];lia,by rw[R.u];lia,λ e=>?_⟩;have c:=R.c a.1 ha.1.1 ha.1.2;have hS:=A ((upI n).filter λ z=>decide (t.2.1 z=t.2.1 a.1)) ((iI n).filter _) (zEF (zA5.mpr ⟨bU.mpr ha.1,by simp⟩));have hN:((t.1.filter λ q=>decide (t.2.1 q.1=t.2.1 a.1))++[a]).Nodup:=((nd.sublist hs).sublist ((zFy (p:=λ q:Int×Int=>decide (t.2.1 q.1=t.2.1 a.1))).append (zDX _)));have hm:=fH (m:=(l++[a]).filter λ p=>decide (p.1∈(upI n).filter λ z=>decide (t.2.1 z=t.2.1 a.1))&&decide (p.2∈(upI n).filter λ z=>decide (t.2.1 z=t.2.1 a.1))) hN λ q hq=>by
    rw[zA5,zAN,decide_eq_true_eq,decide_eq_true_eq,zA5,zA5,decide_eq_true_eq,decide_eq_true_eq,bU,bU];rcases zAO.mp hq with z|z
    .obtain⟨z1,z2⟩:=zA5.mp z
     rw[decide_eq_true_eq]at z2
     have:=R.inn q z1
     exact⟨zAI _ (h1.subset z1),⟨this.1,z2⟩,this.2,by rw[<-R.l q z1];exact z2⟩
    .rw[zAD.mp z]
     exact⟨by simp,⟨ha.1,rfl⟩,ha.2,e.symm⟩
   unfold inN at hS;unfold nq nc at c;rw[zAW,zAq]at hm;lia
end
section
variable{n:Int}{ps:gX}
def usL(qs:gX):List Int:=qs.flatMap λ q=>[q.1,q.2]
theorem yO(x:Int):∀{qs:gX},(∀q∈qs,q.1<q.2)->(usL qs).countP (λ a=>a==x)=dgr qs x
 |[],_=>rfl
 |q::qs,h=>by
  have ih:=yO x λ p hp=>h p (zAF _ hp)
  have hq:=h q zAJ;rw[zZ]
  show([q.1,q.2]++usL qs).countP (λ a=>a==x)=_
  rw[List.countP_append,ih];by_cases c1:q.1=x
  .have c2:¬q.2=x:=by lia
   simp[zCb,c1,c2];lia
  .by_cases c2:q.2=x
   .simp[zCb,c1,c2]
    lia
   .simp[zCb,c1,c2]
abbrev fwV(n:Int)(ps:gX)(es:List Int)(l2:List D)(s3 s4 s5 s6:Slot):En:=[.sh (owD n ps),.sh (tupI es),.ow (.lst l2),s3,s4,s5,s6]
theorem zQ:∀(qs:gX) (us:List Int) (s5:Slot),us.length+2*qs.length<=10000->∃s5',forL (gnm 5) fwE (qs.map pD) (fwV n ps es l2 s3 (.ow (.lst (us.map .int))) s5 s6)= .nx (fwV n ps es l2 s3 (.ow (.lst ((us++usL qs).map .int))) s5' s6)
 |[],us,s5,_=>⟨s5,by simp[usL]⟩
 |q::qs,us,s5,h=>by
  rw[zA2]at h;obtain⟨s5',e⟩:=zQ qs (us++[q.1,q.2]) (.sh (pD q)) (by simp;lia);refine⟨s5',?_⟩;rw[zAP,dW,qR,lK]
  show(fwE (fwV n ps es l2 s3 (.ow (.lst (us.map .int))) (.sh (pD q)) s6)).tn _=_
  have e1:fwE (fwV n ps es l2 s3 (.ow (.lst (us.map .int))) (.sh (pD q)) s6)= .nx (fwV n ps es l2 s3 (.ow (.lst ((us++[q.1,q.2]).map .int))) (.sh (pD q)) s6):=by
   have hv:bA (aD 5) (fwV n ps es l2 s3 (.ow (.lst (us.map .int))) (.sh (pD q)) s6)= .ok (pD q):=rfl
   show(bA (aD 5) (fwV n ps es l2 s3 (.ow (.lst (us.map .int))) (.sh (pD q)) s6)).bo (aGG (us.map .int) λ l=>.nx ((fwV n ps es l2 s3 (.ow (.lst (us.map .int))) (.sh (pD q)) s6).set 4 (.ow (.lst l))))=_
   rw[hv,bN];unfold aGG pD;dsimp only;rw[if_pos (by rw[szl,zAB];simp;lia)];simp
  rw[e1,oX,e,zAo];rfl
def kpB(es:List Int)(qs:gX):Bool:=es.all λ x=>decide (dgr qs x<=1)
def aIT(low:∀q∈qs,q.1<q.2)(he:es.length<=1000){s3:Slot}:∃ks:List Int,fwK (fwV n ps es l2 s3 (.ow (.lst ((usL qs).map .int))) s5 s6)= .ok (.lst (ks.map .int))/\ks.isEmpty=kpB es qs:=by
 refine⟨es.filter λ x=>decide (1<dgr qs x),?_,?_⟩
 .refine jo (ds:=es.map .int) (by simp[shE,nQ,tupI]) (by rw[zAB];lia) (sV es λ x hx=>⟨[.sh (.int x),.sh (.lst ((usL qs).map .int))],rfl,?_,by simp⟩)
  have cn:zc ((usL qs).map .int) (.int x)= .ok (.int (dgr qs x:Int)):=by
   unfold zc;dsimp only;rw[fW];dsimp only;rw[yO x low]
  have ov:opL zc (aD 1) (aD 0) [.sh (.int x),.sh (.lst ((usL qs).map .int))]= .ok (.int (dgr qs x:Int)):=by
   show okD (zc ((usL qs).map .int) (.int x))=_;rw[cn,qN]
  rw[aAH,lH,ov,cL];simp;exact⟨λ h=>by lia,λ h=>by lia⟩
 .unfold kpB
  rw[zBK,List.isEmpty_iff,List.filter_eq_nil_iff,zAn];simp
def aIU(low:∀q∈qs,q.1<q.2)(hq:qs.length<=1000)(he:es.length<=1000)(hl:l2.length<100000){s4:Slot}:∃s4' s5',fwB (fwV n ps es l2 (.sh (rwD qs)) s4 s5 s6)= .nx (fwV n ps es (l2++(if kpB es qs=true then[rwD qs]else[])) (.sh (rwD qs)) s4' s5' s6):=by
 obtain⟨s5',e⟩:=zQ (n:=n) (ps:=ps) (es:=es) (l2:=l2) (s3:=.sh (rwD qs)) (s6:=s6) qs [] s5 (by simp;lia);rw[zD0]at e;obtain⟨ks,ek,hk⟩:=aIT (n:=n) (ps:=ps) (l2:=l2) (s3:=.sh (rwD qs)) (s5:=s5') (s6:=s6) low he;have c1:fM 4 (dh aH) (fwV n ps es l2 (.sh (rwD qs)) s4 s5 s6)= .nx (fwV n ps es l2 (.sh (rwD qs)) (.ow (.lst ([].map .int))) s5 s6):=by simp
 have hi:cT (aD 3) (fwV n ps es l2 (.sh (rwD qs)) (.ow (.lst ([].map .int))) s5 s6)= .ok (qs.map pD):=by simp[rwD]
 have t2:tsb (op2 (eqR false) fwK (dh aH)) (fwV n ps es l2 (.sh (rwD qs)) (.ow (.lst ((usL qs).map .int))) s5' s6)= .ok (kpB es qs):=by
  have hn:dh aH (fwV n ps es l2 (.sh (rwD qs)) (.ow (.lst ((usL qs).map .int))) s5' s6)= .ok (.lst []):=by simp
  have hq2:eqR false (.lst (ks.map .int)) (.lst [])= .ok (.bl ks.isEmpty):=by
   obtain⟨h1,h2⟩:bW (ks.map .int)=0/\aV (ks.map .int)=true:=by
    clear hk ek;induction ks with
    |nil=>exact⟨rfl,rfl⟩
    |cons k ks ih=>exact⟨by rw[zAP,bW,ih.1];rfl,by rw[zAP,aV,ih.2];rfl⟩
   unfold eqR;rw[if_pos (by simp[gw,aQ,bW,aV,h1,h2])];cases ks<;>rfl
  rw[aAH,lH,ek,cL,hn,cL,hq2,hk];rfl
 refine⟨.ow (.lst ((usL qs).map .int)),s5',?_⟩;rw[fwB,aM,c1,aW,aM,dD,hi,bN,e,aW,fX,t2,bN];cases kpB es qs with
 |false=>simp
 |true=>
  have g:pK (rwD qs)= .ok (rwD qs):=xf (sW qs);have hz:l2.length<16777216:=by lia
  simp[gO,g,hz]
def zR(O:Ow n ps)(low:∀p∈ps,p.1<p.2)(hn:n<=12)(hps:ps.length<=12)(he:es.length<=1000):∃(q0:gX) (rest:List gX),cN [owD n ps,tupI es]= .ok (.lst ((q0::rest).map rwD))/\(∃t∈bR ps,t.1=q0)/\kpB es q0=true/\∀t∈bR ps,kpB es t.1=true->t.1.length<=q0.length:=by
 have er:=zK O hn hps;have hin:∀p∈ps,(0<=p.1/\p.1<n)/\(0<=p.2/\p.2<n):=λ p hp=>by
  obtain⟨a,b,c,d,_⟩:=O.pr p hp;exact⟨⟨a,b⟩,c,d⟩
 obtain⟨hl1,hl2⟩:=uA ps;have hle:2^ps.length<=2^12:=zDk (by decide) hps;have lowt:∀t∈bR ps,∀q∈t.1,q.1<q.2:=λ t ht q hq=>low q ((w6 hin t ht).2.1.subset hq)
 have st:aj 7 [owD n ps,tupI es]=[.sh (owD n ps),.sh (tupI es),.no,.no,.no,.no,.no]:=rfl;have c1:fM 2 (dh aH) [.sh (owD n ps),.sh (tupI es),.no,.no,.no,.no,.no]= .nx (fwV n ps es [] .no .no .no .no):=by simp
 have hi:cT (aP iu (aC (aD 0) aH)) (fwV n ps es [] .no .no .no .no)= .ok ((bR ps).map λ t=>rwD t.1):=by simp[er]
 obtain⟨K,hK⟩:∃K,K=((bR ps).filter λ t=>kpB es t.1).map (·.1):=⟨_,rfl⟩
 obtain⟨ρ',e,s3,s4,s5,rfl⟩:=iZ (ds:=(bR ps).map λ t=>rwD t.1) (a:=gnm 3) (u:=fwB) (ρ:=fwV n ps es [] .no .no .no .no)
  (λ i ρ=>∃(s3 s4 s5:Slot),ρ=fwV n ps es ((((bR ps).take i).filter λ t=>kpB es t.1).map λ t=>rwD t.1) s3 s4 s5 .no) (by
   rintro i d ρ hd ⟨s3,s4,s5,rfl⟩;rw[zAV]at hd;cases ep:(bR ps)[i]? with
   |none=>rw[ep]at hd;cases hd
   |some t=>
    rw[ep]at hd;cases hd;have htm:=zAa ep;have hf:=zCC (λ t=>kpB es t.1) ((bR ps).take i);have htl:=hl2 t htm;rw[zBA]at hf;obtain⟨t4,t5,e⟩:=aIU (n:=n) (ps:=ps) (l2:=(((bR ps).take i).filter λ t=>kpB es t.1).map λ t=>rwD t.1) (s4:=s4) (s5:=s5) (s6:=.no) (lowt t htm) (by lia) he (by rw[zAB];lia);refine⟨_,e,.sh (rwD t.1),t4,t5,?_⟩;rw[zEO,ep];simp only[Option.toList_some,zB7,zA0,zBF,zDY];split<;>simp) ⟨_,_,_,rfl⟩
 rw[zBP (by rw[zAB];exact zAU _)]at e;have eK:(((bR ps).filter λ t=>kpB es t.1).map λ t=>rwD t.1)=K.map rwD:=by rw[hK,zAs];rfl
 rw[eK]at e;have hKl:K.length<=4096:=by
  have hf:=zCC (λ t=>kpB es t.1) (bR ps);rw[hK,zAB];lia
 have a1:fwM (fwV n ps es (K.map rwD) s3 s4 s5 .no)= .ok (.lst ((K.map λ q=>(q.length:Int)).map .int)):=by
  rw[zAs];refine jo (ds:=K.map rwD) (by simp[shE,nQ]) (by rw[zAB];lia) (oG K λ q hq=>⟨[.sh (rwD q)],rfl,?_⟩);simp[rwD]
 have bE:∀q,q∈K↔∃t∈bR ps,t.1=q/\kpB es q=true:=λ q=>by
  rw[hK,zAS];constructor
  .rintro⟨t,ht,rfl⟩
   obtain⟨h1,h2⟩:=zA5.mp ht;exact⟨t,h1,rfl,h2⟩
  .rintro⟨t,h1,rfl,h2⟩
   exact⟨t,zA5.mpr ⟨h1,h2⟩,rfl⟩
 have hne:K≠[]:=λ z=>by
  obtain⟨t,ht,e⟩:∃t∈bR ps,t.1=[]:=by
   have:∀l:gX,∃t∈bR l,t.1=[]:=λ l=>by
    induction l using snoc_ind with
    |h0=>exact⟨_,zAD.mpr rfl,rfl⟩
    |h1 l a ih=>
     obtain⟨t,h1,h2⟩:=ih;exact⟨t,by rw[jV];exact zAI _ h1,h2⟩
   exact this ps
  have:[]∈K:=(bE []).mpr ⟨t,ht,e,by unfold kpB;rw[zAn];intro x _;simp[dgr]⟩
  rw[z]at this;cases this
 obtain⟨M,hM⟩:∃M,(K.map λ q=>(q.length:Int)).max?=some M:=by
  cases c:(K.map λ q=>(q.length:Int)).max? with
  |some M=>exact⟨M,rfl⟩
  |none=>
   rw[List.max?_eq_none_iff,List.map_eq_nil_iff]at c;exact absurd c hne
 have hM2:=zFj.mp hM;have a2:qj zGg [.lst ((K.map λ q=>(q.length:Int)).map .int)]= .ok (.int M):=by
  unfold qj;dsimp only;rw[fW];dsimp only;rw[hM]
 have a3:fwR (fwV n ps es (K.map rwD) s3 s4 s5 (.sh (.int M)))= .ok (.lst ((K.filter λ q=>decide ((q.length:Int)=M)).map rwD)):=by
  refine jo (ds:=K.map rwD) (by simp[shE,nQ]) (by rw[zAB];lia) (sV K λ q hq=>⟨[.sh (rwD q),.sh (.int M)],rfl,?_,?_⟩)
  .by_cases c:(q.length:Int)=M<;>simp[rwD,c]
  .have g:pK (rwD q)= .ok (rwD q):=xf (sW q)
   simp[g]
 obtain⟨qm,hqm,eqm⟩:=zAS.mp hM2.1;cases hf:K.filter λ q=>decide ((q.length:Int)=M)with
 |nil=>
  have:qm∈K.filter λ q=>decide ((q.length:Int)=M):=zA5.mpr ⟨hqm,by simpa using eqm⟩
  rw[hf]at this;cases this
 |cons q0 rest=>
  have h0:q0∈K.filter λ q=>decide ((q.length:Int)=M):=by rw[hf];exact zAJ
  obtain⟨h1,h2⟩:=zA5.mp h0;rw[decide_eq_true_eq]at h2;obtain⟨t,ht,et,hkp⟩:=(bE q0).mp h1;refine⟨q0,rest,?_,⟨t,ht,et⟩,hkp,λ t ht hk=>?_⟩
  .rw[hf]at a3
   simp only[cN,cG,bD,st];rw[aM,c1,aW,aM,dD,hi,bN,e,aW,aM,sI,lG,cY,a1,cL,xP,cL,cL,a2];simp only[qN,bN,zEG,zEH,aW];rw[mO,a3];rfl
  .have:=hM2.2 (t.1.length:Int) (zAS.mpr ⟨t.1,(bE _).mpr ⟨t,ht,rfl,hk⟩,rfl⟩)
   lia
end
section
variable{n:Int}{ps:gX}
def aAu(O:Ow n ps)(A:Ac ps):(ps.length:Int)<=n:=by
 have hn0:=O.n0;cases hp:ps with
 |nil=>simpa using hn0
 |cons p l=>
  have hm:p∈ps:=by rw[hp];exact zAJ
  obtain⟨a,b,_⟩:=O.pr p hm;have h:=A (upI n) (iI n) (zEF (bU.mpr ⟨a,b⟩));have e:inN (upI n) ps=ps.length:=by
   unfold inN;rw[zDq.mpr λ q hq=>by
    obtain⟨a,b,c,d,_⟩:=O.pr q hq;rw[zAN,decide_eq_true_eq,decide_eq_true_eq,bU,bU];exact⟨⟨a,b⟩,c,d⟩]
  rw[e,dF]at h;rw[<-hp];lia
def aEV{F G:gX}(h:F.Perm G)(x:Int):dgr F x=dgr G x:=(h.filter _).length_eq
def aAw(O:Ow n ps)(low:∀p∈ps,p.1<p.2)(hn:n<=12)(hp:ps.Perm rs)(F:Fr rs)(er:es.Pairwise (·< ·))(ei:∀x∈es,0<=x/\x<n):∃(q0:gX) (rest:List gX),cN [owD n ps,tupI es]= .ok (.lst ((q0::rest).map rwD))/\bO [owD n ps,tupI es]= .ok (.int (n-(q0.length:Int))):=by
 have A:Ac ps:=F.ac.perm hp;have hpl:=aAu O A;have hn0:=O.n0;have he:es.length<=60:=by
  have:=fH (l:=es) (m:=upI n) (by rw[zAg];exact er.imp λ{a b} z=>by lia) λ x hx=>bU.mpr (ei x hx)
  rw[dF]at this;lia
 have hin:∀p∈ps,(0<=p.1/\p.1<n)/\(0<=p.2/\p.2<n):=λ p hp=>by
  obtain⟨a,b,c,d,_⟩:=O.pr p hp;exact⟨⟨a,b⟩,c,d⟩
 obtain⟨q0,rest,e1,⟨t,ht,et⟩,hk,hm⟩:=zR (es:=es) O low hn (by lia) (by lia);obtain⟨rows,W,T,Fd,Hu,J,hj⟩:=aCP O low A es;have hT:=J.nodup Hu;have bX:=J.sub Hu low;have hTl:T.length<=ps.length:=fH hT bX;obtain⟨qs,ej,hq⟩:=hj hT (by lia);have key:q0.length=T.length:=by
  have hri:=w6 hin t ht;rw[et]at hri;have h1:q0.length<=T.length:=J.most O Hu low ((pC O).sublist hri.2.1) (λ q hq=>hri.2.1.subset hq) λ x=>by
   unfold room;split
   .rename_i c
    have:=zAn.mp hk x c
    simpa using this
   .exact hri.2.2 x
  have pm:(ps.filter λ q=>decide (q∈T)).Perm T:=(zCI ((pC O).filter _) hT).mpr λ q=>by
   rw[zA5,decide_eq_true_eq];exact⟨λ h=>h.2,λ h=>⟨bX q h,h⟩⟩
  have dg:∀x,dgr (ps.filter λ q=>decide (q∈T)) x<=room es x:=λ x=>by
   rw[aEV pm x];exact J.deg Hu x
  obtain⟨t2,ht2,et2⟩:=aDG hin (pC O) A (ps.filter λ q=>decide (q∈T)) zFy λ x=>by
   have:=dg x
   unfold room at this;split at this<;>lia
  have h2:=hm t2 ht2 (by
   rw[et2];unfold kpB;rw[zAn];intro x hx
   have:=dg x
   unfold room at this;rw[if_pos hx]at this;simpa using this)
  rw[et2,pm.length_eq]at h2;lia
 refine⟨q0,rest,e1,?_⟩;have hx:ixD (owD n ps) (.int 0)= .ok (.int n):=by simp[owD]
 have f1:=uP O low hp F;have f2:fL [owD n ps]= .ok .non:=by
  have st:aj 1 [owD n ps]=[.sh (owD n ps)]:=rfl;simp only[fL,cJ,bD,st];simp[f1]
 have f3:=sE (m:=n) (d:=tupI es) (yw es) (by simp[tupI,aAQ];lia);rw[aH1 er ei,if_pos rfl]at f3;have f4:fJ [owD n ps,tupI es]= .ok (.tup [.tup (qs.map pD),tupI (sortI Fd)]):=by
  have st:aj 2 [owD n ps,tupI es]=[.sh (owD n ps),.sh (tupI es)]:=rfl;simp only[fJ,cH,bD,st];simp[f2,hx,f3,ej]
 have st:aj 4 [owD n ps,tupI es]=[.sh (owD n ps),.sh (tupI es),.no,.no]:=rfl;have ln:g8 [.tup (qs.map pD)]= .ok (.int (q0.length:Int)):=by simp[hq.length_eq,key]
 simp only[bO,b8,bD,st];simp[f4,hx,ln,-aDn]
end
abbrev lV(ns:List Int)(k c n:Int)(ps:gX)(s4 s5 s6 s7:Slot):En:=[.sh (.scr ns),.sh (.int k),.sh (.int c),.sh (owD n ps),s4,s5,s6,s7]
def aJN{ns:List Int}{k c n:Int}{ps rs:gX}{s5 s6 s7:Slot}{es:List Int}(O:Ow n ps)(low:∀p∈ps,p.1<p.2)(hn:n<=9)(hp:ps.Perm rs)(F:Fr rs)(er:es.Pairwise (·< ·))(ei:∀x∈es,0<=x/\x<n):∃t5 t6 t7,l4 (lV ns k c n ps (.sh (tupI es)) s5 s6 s7)= .nx (lV ns k c n ps (.sh (tupI es)) t5 t6 t7):=by
 obtain⟨q0,rest,e1,e2⟩:=aAw O low (by lia) hp F er ei;have hx:ixD (owD n ps) (.int 0)= .ok (.int n):=by simp[owD]
 have x0:ixD (.lst ((q0::rest).map rwD)) (.int 0)= .ok (rwD q0):=by simp
 have ln:g8 [rwD q0]= .ok (.int (q0.length:Int)):=by simp[rwD]
 have c1:lS5 (lV ns k c n ps (.sh (tupI es)) s5 s6 s7)= .nx (lV ns k c n ps (.sh (tupI es)) (.sh (.int (n-(q0.length:Int)))) s6 s7):=by
  have v:op2 ixD (aP cN (aC (aD 3) (aC (aD 4) aH))) (cD (.int 0)) (lV ns k c n ps (.sh (tupI es)) s5 s6 s7)= .ok (rwD q0):=by
   rw[lH,mG];simp only[cY,aBD,zC0,zCZ,cL,xP,e1,aJU,x0,qN]
  unfold lS5;rw[sI,lH,lG,cY,v];simp[hx,ln]
 have hr:iU jN (aC (cD (.int 2)) aH) (lV ns k c n ps (.sh (tupI es)) (.sh (.int (n-(q0.length:Int)))) s6 s7)= .ok (bC 0 2):=by
  have:=gn (j:=2) (by decide) (by decide)
  simp[this]
 obtain⟨ρ',e,t6,t7,rfl⟩:=sY (a:=gnm 6) (u:=lB) (I:=λ ρ=>∃t6 t7,ρ=lV ns k c n ps (.sh (tupI es)) (.sh (.int (n-(q0.length:Int)))) t6 t7) (bC 0 2) (lV ns k c n ps (.sh (tupI es)) (.sh (.int (n-(q0.length:Int)))) s6 s7) ⟨_,_,rfl⟩ (by
  rintro d hd ρ ⟨t6,t7,rfl⟩;refine⟨lV ns k c n ps (.sh (tupI es)) (.sh (.int (n-(q0.length:Int)))) (.sh d) (.sh (.int (n-(q0.length:Int)))),?_,_,_,rfl⟩;rw[qR,lK];show lB (lV ns k c n ps (.sh (tupI es)) (.sh (.int (n-(q0.length:Int)))) (.sh d) t7)=_;simp[lB,e2])
 exact⟨_,_,_,by rw[l4,aM,c1,aW,dD,hr,bN,e]⟩
def aIA{ns:List Int}{k:Int}{s2 s3 s4 s5 s6 s7:Slot}(hk:0<=k):∃t2 t3 t4 t5 t6 t7,lwK [.sh (.scr ns),.sh (.int k),s2,s3,s4,s5,s6,s7]= .nx [.sh (.scr ns),.sh (.int k),t2,t3,t4,t5,t6,t7]:=by
 obtain⟨c,ec⟩:=aGN (ns:=ns) hk;obtain⟨n,ps,ew,O,low,hn,rs,hp,F⟩:=vL (c:=c) (most:=9) (by decide);have ew':dY [.int c,.int 9]= .ok (owD n ps):=ew;have hn9:n<=9:=hn;obtain⟨u,eu,u1,u2,_⟩:=ql (c:=c) (n:=n) (a:=5000) O.n0 O.n1 (by decide) (by decide);obtain⟨v,ev,v1,v2,_⟩:=ql (c:=c) (n:=n) (a:=5100) O.n0 O.n1 (by decide) (by decide);have hx:ixD (owD n ps) (.int 0)= .ok (.int n):=by simp[owD]
 have hn0:=O.n0;have c2:cX 2 (aP cu (aC (aD 0) (aC (aD 1) aH))) [.sh (.scr ns),.sh (.int k),s2,s3,s4,s5,s6,s7]= .nx [.sh (.scr ns),.sh (.int k),.sh (.int c),s3,s4,s5,s6,s7]:=by simp[ec]
 have c3:cX 3 (aP dY (aC (aD 2) (aC (cD (.int 9)) aH))) [.sh (.scr ns),.sh (.int k),.sh (.int c),s3,s4,s5,s6,s7]= .nx (lV ns k c n ps s4 s5 s6 s7):=by simp[ew']
 have hi:lIt (lV ns k c n ps s4 s5 s6 s7)= .ok [tupI [],tupI u,tupI v,tupI (upI n)]:=by
  have t1:trD (op2 ixD (aD 3) (cD (.int 0))) (lV ns k c n ps s4 s5 s6 s7)= .ok (tupI (upI n)):=by
   have v:op2 ixD (aD 3) (cD (.int 0)) (lV ns k c n ps s4 s5 s6 s7)= .ok (.int n):=by simp[hx]
   unfold trD;rw[v,cL];unfold trR;dsimp only;rw[if_pos (by lia),wj,tupI]
  simp[lIt,hx,eu,ev,t1]
  try rfl
 obtain⟨ρ',e,t4,t5,t6,t7,rfl⟩:=sY (a:=gnm 4) (u:=l4) (I:=λ ρ=>∃t4 t5 t6 t7,ρ=lV ns k c n ps t4 t5 t6 t7) [tupI [],tupI u,tupI v,tupI (upI n)] (lV ns k c n ps s4 s5 s6 s7) ⟨_,_,_,_,rfl⟩ (by
  rintro d hd ρ ⟨t4,t5,t6,t7,rfl⟩;obtain⟨es,rfl,h1,h2⟩:∃es,d=tupI es/\es.Pairwise (·< ·)/\∀x∈es,0<=x/\x<n:=by
   simp only[zAT,zDO,or_false]at hd;rcases hd with rfl|rfl|rfl|rfl
   .exact⟨[],rfl,.nil,λ x hx=>(nomatch hx)⟩
   .exact⟨u,rfl,u1,u2⟩
   .exact⟨v,rfl,v1,v2⟩
   .exact⟨upI n,rfl,wG n,λ x hx=>bU.mp hx⟩
  obtain⟨u5,u6,u7,e⟩:=aJN (ns:=ns) (k:=k) (c:=c) (s5:=t5) (s6:=t6) (s7:=t7) O low hn9 hp F h1 h2;exact⟨_,e,_,_,_,_,rfl⟩)
 refine⟨.sh (.int c),.sh (owD n ps),t4,t5,t6,t7,?_⟩;rw[lwK,aM,c2,aW,aM,c3,aW,dD,hi,bN,e]
def aDq(ns:List Int)(hl:ns.length<=63):aE5 [.scr ns]= .ok (.bl true):=by
 have st:aj 8 [.scr ns]=[.sh (.scr ns),.no,.no,.no,.no,.no,.no,.no]:=rfl;let m:Int:=if (if (6:Int)<ns.length then(6:Int)else ns.length)>1 then(if (6:Int)<ns.length then(6:Int)else ns.length)else 1
 have hm:1<=m/\m<=6:=by
  show 1<=(if (if (6:Int)<ns.length then(6:Int)else ns.length)>1 then(if (6:Int)<ns.length then(6:Int)else ns.length)else 1)/\(if (if (6:Int)<ns.length then(6:Int)else ns.length)>1 then(if (6:Int)<ns.length then(6:Int)else ns.length)else 1)<=6;split<;>split<;>lia
 have hr:=gn (j:=m) (by lia) (by lia);have hR:lwR [.sh (.scr ns),.no,.no,.no,.no,.no,.no,.no]= .ok (bC 0 m):=by
  rw[<-hr];unfold lwR;simp[m]
 obtain⟨ρ',el,t1,t2,t3,t4,t5,t6,t7,rfl⟩:=sY (a:=gnm 1) (u:=lwK) (I:=λ ρ=>∃t1 t2 t3 t4 t5 t6 t7,ρ=[.sh (.scr ns),t1,t2,t3,t4,t5,t6,t7]) (bC 0 m) [.sh (.scr ns),.no,.no,.no,.no,.no,.no,.no] ⟨.no,.no,.no,.no,.no,.no,.no,rfl⟩ (by
  rintro d hd ρ ⟨t1,t2,t3,t4,t5,t6,t7,rfl⟩;obtain⟨k,rfl,k0,k1⟩:=zH.mp hd;obtain⟨u2,u3,u4,u5,u6,u7,e⟩:=aIA (ns:=ns) (k:=k) (s2:=t2) (s3:=t3) (s4:=t4) (s5:=t5) (s6:=t6) (s7:=t7) k0;exact⟨_,e,_,_,_,_,_,_,_,rfl⟩)
 have z1:bO [.tup [.int 0,.tup []],.tup []]= .ok (.int 0):=by kernel_rfl
 have z2:bO [.tup [.int 4,.tup [.tup [.int 0,.int 1],.tup [.int 0,.int 2],.tup [.int 0,.int 3]]],.tup []]= .ok (.int 2):=by kernel_rfl
 simp only[aE5,um,bD,st];rw[aM,dD,hR,bN,el,aW];unfold lwZ;simp[z1,z2]
local macro_rules|`(tactic|walk_at "sc")=>`(tactic|exact⟨rfl,rfl,rfl,by decide+kernel,rfl,by decide+kernel,by decide+kernel⟩)
def top(i:Nat):Stmt:=PySem.Challenge.pw_fewways_k32_fewest_ways_of_forests.main.body.getD i (.Pass ⟨0,0,0,0⟩)
abbrev n8:Stmt:=top 7
abbrev qJ:Stmt:=top 8
abbrev ni:Stmt:=top 9
abbrev qI:Stmt:=top 10
abbrev lA:Stmt:=top 11
abbrev eE:Stmt:=top 12
abbrev nj:Stmt:=top 13
abbrev jk:Stmt:=top 14
abbrev tZ:Stmt:=top 15
abbrev lD:Stmt:=top 16
abbrev iR:Stmt:=top 17
abbrev tY:Stmt:=top 18
abbrev nu:Stmt:=top 19
abbrev kj:Stmt:=top 20
abbrev jL:Stmt:=top 21
abbrev w5:Stmt:=top 22
abbrev lC:Stmt:=top 24
abbrev iT:Stmt:=top 25
abbrev aAX:Stmt:=top 26
abbrev km:Stmt:=top 27
abbrev iQ:Stmt:=top 28
abbrev gZ:Stmt:=top 29
abbrev jM:Stmt:=top 31
abbrev n6:Stmt:=top 32
abbrev nY:Stmt:=top 33
abbrev ji:Stmt:=top 34
abbrev nZ:Stmt:=top 35
abbrev iM:Stmt:=top 36
abbrev aDC:Stmt:=top 37
def yg:aX ["thing"] ["thing"] (aO n8):=by walk_at "sc"
def aAW:aX ["thing"] ["thing"] (aO qJ):=by walk_at "sc"
def yh:aX ["many","thing"] ["many","thing"] (aO ni):=by walk_at "sc"
def aAV:aX ["many","thing"] ["many","thing"] (aO qI):=by walk_at "sc"
def wX:aX ["things","at"] ["things"] (aO lA):=by walk_at "sc"
def mj:aX ["many","thing","pair"] ["many","thing"] (aO eE):=by walk_at "sc"
def yj:aX ["many","thing"] ["many","thing"] (aO nj):=by walk_at "sc"
def vD:aX ["many","thing","place"] ["many","thing"] (aO jk):=by walk_at "sc"
def aBz:aX ["thing"] ["thing"] (aO tZ):=by walk_at "sc"
def wZ:aX ["thing"] ["thing"] (aO lD):=by walk_at "sc"
def rP:aX ["many","thing"] ["many","thing"] (aO iR):=by walk_at "sc"
def aBy:aX ["one","other"] ["one","other"] (aO tY):=by walk_at "sc"
def ym:aX ["web","many","ties","near","low","high"] ["web"] (aO nu):=by walk_at "sc"
def wV:aX ["near","start","part","at","place","other"] ["near","start"] (aO kj):=by walk_at "sc"
def tW:aX ["near","places","found","seen","place","part","other"] ["near","places"] (aO jL):=by walk_at "sc"
def aCz:aX ["web"] ["web"] (aO w5):=by walk_at "sc"
def wY:aX ["web"] ["web"] (aO lC):=by walk_at "sc"
def rQ:aX ["web"] ["web"] (aO iT):=by walk_at "sc"
def aEx:aX ["web","near","seen","rows","at","top","place","upper","other"] ["web"] (aO aAX):=by walk_at "sc"
def wW:aX ["web","ends","waiting","ties","filled","place","upper","room"] ["web","ends"] (aO km):=by walk_at "sc"
def rO:aX ["web","ends"] ["web","ends"] (aO iQ):=by walk_at "sc"
def qG:aX ["web","ends","ties","bar"] ["web","ends"] (aO gZ):=by walk_at "sc"
def tX:aX ["_law_script","_law_k"] ["_law_script","_law_k"] (aO jM):=by walk_at "sc"
def yf:aX ["_law_cell","_law_k","_law_bound","_law_left","_law_j","_law_stir"] ["_law_cell","_law_k","_law_bound"] (aO n6):=by walk_at "sc"
def yd:aX ["_law_cell","_law_many","_law_at","_law_kind","_law_found","_law_place"] ["_law_cell","_law_many","_law_at"] (aO nY):=by walk_at "sc"
def vC:aX ["_law_cell","_law_most","_law_many","_law_kind","_law_order","_law_ties","_law_place","_law_over"] ["_law_cell","_law_most"] (aO ji):=by walk_at "sc"
def ye:aX ["_law_web","_law_found","_law_one","_law_other","_law_longer","_law_some_here","_law_least","_law_uses","_law_low","_law_high","_law_more","_law_used"] ["_law_web"] (aO nZ):=by walk_at "sc"
def rN:aX ["_law_web","_law_ends","_law_some_here","_law_row","_law_used","_law_tie","_law_most"] ["_law_web","_law_ends"] (aO iM):=by walk_at "sc"
def aHK:aX ["_law_script","_law_k","_law_cell","_law_web","_law_ends","_law_due","_law_turn","_law_found"] ["_law_script"] (aO aDC):=by walk_at "sc"
set_option genInjectivity false in
set_option genSizeOf false in
structure Adr where
 uY:Addr
 fu:zA9
 vh:Addr
 iG:zA9
 uZ:Addr
 gB:zA9
 vg:Addr
 iD:zA9
 qy:Addr
 dI:zA9
 ie:Addr
 az:zA9
 uc:Addr
 gC:zA9
 pM:Addr
 bu:zA9
 zU:Addr
 j7:zA9
 rA:Addr
 eY:zA9
 lZ:Addr
 cI:zA9
 zT:Addr
 j6:zA9
 ud:Addr
 gD:zA9
 qw:Addr
 eU:zA9
 nG:Addr
 cg:zA9
 aBl:Addr
 m8:zA9
 qz:Addr
 eX:zA9
 lq:Addr
 cJ:zA9
 aER:Addr
 qU:zA9
 qx:Addr
 eV:zA9
 lY:Addr
 cH:zA9
 jz:Addr
 b8:zA9
 nH:Addr
 bx:zA9
 uX:Addr
 dH:zA9
 uV:Addr
 fZ:zA9
 pL:Addr
 dX:zA9
 uW:Addr
 fj:zA9
 lX:Addr
 cG:zA9
 aGs:Addr
 um:zA9
 nC:Value
 oR:Addr
 yD:Addr
 qW:Addr
 oO:Addr
structure Txt(K:zAA)(mg:Str->Option Value)(t:Adr):Prop where
 oK:Dnr K mg "is_whole" n8 ["thing"] t.uY t.fu
 vp:Dnr K mg "is_many" qJ ["thing"] t.vh t.iG
 jt:Dnr K mg "is_place" ni ["many","thing"] t.uZ t.gB
 vo:Dnr K mg "is_pair" qI ["many","thing"] t.vg t.iD
 lw:Dnr K mg "is_rising" lA ["things"] t.qy t.dI
 ik:Dnr K mg "are_rising_pairs" eE ["many","thing"] t.ie t.az
 uh:Dnr K mg "are_ties" nj ["many","thing"] t.uc t.gC
 pP:Dnr K mg "are_places" jk ["many","thing"] t.pM t.bu
 zY:Dnr K mg "is_web" tZ ["thing"] t.zU t.j7
 rE:Dnr K mg "check_web" lD ["thing"] t.rA t.eY
 mC:Dnr K mg "check_places" iR ["many","thing"] t.lZ t.cI
 zX:Dnr K mg "tie_of" tY ["one","other"] t.zT t.j6
 oM:Dnr K mg "all_tied" nu ["web"] t.ud t.gD
 rB:Dnr K mg "part_with" kj ["near","start"] t.qw t.eU
 nJ:Dnr K mg "parts_among" jL ["near","places"] t.nG t.cg
 aBm:Dnr K mg "parts" w5 ["web"] t.aBl t.m8
 rD:Dnr K mg "is_forest" lC ["web"] t.qz t.eX
 mD:Dnr K mg "check_forest" iT ["web"] t.lq t.cJ
 aEU:Dnr K mg "hung" aAX ["web"] t.aER t.qU
 rC:Dnr K mg "joined_up" km ["web","ends"] t.qx t.eV
 lz:Dnr K mg "checked_join" iQ ["web","ends"] t.lY t.cH
 dm:Dnr K mg "forest_fewest" gZ ["web","ends"] t.jz t.b8
 nM:Dnr K mg "_law_cell_at" jM ["_law_script","_law_k"] t.nH t.bx
 bw:Dnr K mg "_law_draw" n6 ["_law_cell","_law_k","_law_bound"] t.uX t.dH
 oJ:Dnr K mg "_law_some" nY ["_law_cell","_law_many","_law_at"] t.uV t.fZ
 pO:Dnr K mg "_law_forest" ji ["_law_cell","_law_most"] t.pL t.dX
 ug:Dnr K mg "_law_rows" nZ ["_law_web"] t.uW t.fj
 lu:Dnr K mg "_law_few_rows" iM ["_law_web","_law_ends"] t.lX t.cG
 aET:Dnr K mg "law" aDC ["_law_script"] t.aGs t.um
 gG:mg "MOST_PLACES"=some t.nC
 vH:RelV (.int 60) t.nC
 m_FewError:mg "FewError"=some (.ref t.oR)
 l_FewError:bQ mg "FewError"=t.oR
 je:kE K t.oR
 aFd:mg "NoWeb"=some (.ref t.yD)
 aFj:bQ mg "NoWeb"=t.yD
 oV:kE K t.yD
 aCL:mg "NoPlace"=some (.ref t.qW)
 aCO:bQ mg "NoPlace"=t.qW
 jQ:kE K t.qW
 aAf:mg "NoForest"=some (.ref t.oO)
 aAm:bQ mg "NoForest"=t.oO
 iH:kE K t.oO
 aJJ:mg "all"=none
 aDg:mg "bool"=none
 aGo:mg "int"=none
 cQ:mg "isinstance"=none
 jE:mg "len"=none
 aHy:mg "list"=none
 zG:mg "max"=none
 aB7:mg "min"=none
 dC:mg "range"=none
 aGn:mg "set"=none
 lL:mg "sorted"=none
 dR:mg "tuple"=none
section
variable{P:zAZ}{w:World}{K:zAA}{mg:Str->Option Value}{base:Heap}{t:Adr}
def qg(T:Txt K mg t):b7 P w K mg base (CX1 P w) 1 t.uY t.fu ["thing"] (spF K (bQ mg) 1 iw):=
 ao (k:=0) (f:=fu) T.oK yg λ n _ _ _ _ _ _ _=>
  (aK (ak (kh (nW (aA 0) T.cQ T.aGo) (kY (aHH (nW (aA 0) T.cQ T.aDg))))))
def pF(T:Txt K mg t):b7 P w K mg base (CX1 P w) 1 t.qy t.dI ["things"] (spF K (bQ mg) 1 cO):=
 ao (k:=0) (f:=dI) T.lw wX λ n _ _ _ _ _ _ _=>
  (aG (cP (aBR (aB aJ (aB (fB T.jE (aB (aA 0) aF)) aF)) T.dC) (aa (ks:=[1]))
   (aK (dB (jK (vX (aL (aA 0) (tQ (aA 1) aJ)) (aL (aA 0) (aA 1))))
    (aK (ak o7))
    bL)))
  (aK (ak o7)))
def aCG(T:Txt K mg t):b7 P w K mg base (CX1 P w) 1 t.zT t.j6 ["one","other"] (spF K (bQ mg) 2 pY):=
 ao (k:=0) (f:=j6) T.zX aBy λ n _ _ _ _ _ _ _=>
  (aK (ak (bZ (aB (sO T.aB7 (aB (aA 0) (aB (aA 1) aF))) (aB (sS T.zG (aB (aA 0) (aB (aA 1) aF))) aF)))))
def qi(T:Txt K mg t):b7 P w K mg base (CX1 P w) 1 t.ud t.gD ["web"] (spF K (bQ mg) 1 cW):=
 ao (k:=0) (f:=gD) T.oM ym λ n _ _ _ _ _ _ _=>
  (aG (aAM (aA 0) (kW (n:=2) (bT (aa (ks:=[1,2])) (bT (aa (ks:=[1,2])) jC))))
  (aG (aG7 (N:=["place"]) (js:=[none]) (ks:=[0]) (gm (aB (aA 1) aF) T.dC) cB)
  (aG (cP (cA (aA 2)) (kW (n:=2) (bT (aa (ks:=[4,5])) (bT (aa (ks:=[4,5])) jC)))
   (aG (nR 3 (aA 4) (bB (aA 5)))
   (aK (nR 3 (aA 5) (bB (aA 4))))))
  (aK (ak (sJ 3))))))
def xK(T:Txt K mg t):b7 P w K mg base (CX1 P w) 1 t.qw t.eU ["near","start"] (spF K (bQ mg) 2 gQ):=
 ao (k:=0) (f:=eU) T.rB wV λ n _ _ _ _ _ _ _=>
  (aG (dJ (i:=2) (jR (iJ (aB (bB (aA 1)) aF))))
  (aG (bf (i:=3) (gk aJ))
  (aG (yV (vX (aA 3) (fB T.jE (aB (gY 2) aF)))
   (aG (sH (i:=4) (gk (bB (aL (gY 2) (aA 3)))))
   (aG (cP (cA (aL (aA 0) (jh 4))) (aa (ks:=[5]))
    (aK (dB (aHD (aA 5) (gY 2))
     (aK (eN 2 (bB (aA 5))))
     bL)))
   (aK (aCn (i:=3) aJ (λ _=>aDw))))))
  (aK (ak (iK T.dR (aB (jU T.lL (aB (gY 2) aF)) aF)))))))
def uI(T:Txt K mg t):b7 P w K mg base (CX1 P w) 1 t.nH t.bx ["_law_script","_law_k"] (spF K (bQ mg) 2 cu):=
 ao (k:=0) (f:=bx) T.nM tX λ n _ _ _ _ _ _ _=>
  (aG (dB (vX (aA 1) (fB T.jE (aB (aA 0) aF)))
   (aK (ak (bB (aL (aA 0) (aA 1)))))
   bL)
  (aK (ak aJ)))
def bh(T:Txt K mg t):b7 P w K mg base (CX1 P w) 1 t.uX t.dH ["_law_cell","_law_k","_law_bound"] (spF K (bQ mg) 3 aR):=
 ao (k:=0) (f:=dH) T.bw yf λ n _ _ _ _ _ _ _=>
  (aG (dB (aG6 (aA 0) (aHG aJ aJ))
   (aG (bf (i:=3) (gk (aA 0)))
   (aG (cP (gm (aB (aA 1) aF) T.dC) (aa (ks:=[4]))
    (aG (dB (tH (aA 3) aJ)
     (aK (ak aJ))
     bL)
    (aK (bf (i:=3) (gk (sU (aA 3) (aA 2)))))))
   (aK (ak (qF (aA 3) (aA 2))))))
   bL)
  (aG (bf (i:=5) (gk (qF (tV (dw (dw (qF (aA 0) aJ) (tV aJ (aA 1))) aJ) aJ) aJ)))
  (aG (bf (i:=5) (gk (qF (dw (dw (tV (aA 5) (aA 5)) (tV aJ (aA 1))) aJ) aJ)))
  (aK (ak (qF (sU (qF (tV (aA 5) aJ) aJ) aJ) (aA 2)))))))
def zA(T:Txt K mg t):b7 P w K mg base (CX1 P w) 1 t.uW t.fj ["_law_web"] (spF K (bQ mg) 1 iu):=
 ao (k:=0) (f:=fj) T.ug ye λ n _ _ _ _ _ _ _=>
  (aG (dJ (i:=1) (jR (iJ (aB (bZ (aB (bZ aF) (aB (vZ T.dR T.dC (aL (aA 0) aJ)) (aB (aEq (bZ (aB aJ aF)) (bB (aL (aA 0) aJ))) aF)))) aF))))
  (aG (cP (cA (aL (aA 0) aJ)) (kW (n:=2) (bT (aa (ks:=[2,3])) (bT (aa (ks:=[2,3])) jC)))
   (aG (dJ (i:=4) (jR (iJ aF)))
   (aG (aEf 1 (kW (n:=3) (bT (aa (ks:=[5,6,7])) (bT (aa (ks:=[5,6,7])) (bT (aa (ks:=[5,6,7])) jC))))
    (yU (aHE (SW.st (aAI (vX (aL (aA 7) (aA 2)) aJ) (aAI (vX (aL (aA 7) (aA 3)) aJ) (aBJ (yS (aL (aA 6) (aA 2)) (aL (aA 6) (aA 3)))))))
     (mK (o5 (i:=8) (gk (sO T.aB7 (aB (aL (aA 6) (aA 2)) (aB (aL (aA 6) (aA 3)) aF)))))
     (mK (o5 (i:=9) (gk (sS T.zG (aB (aL (aA 6) (aA 2)) (aB (aL (aA 6) (aA 3)) aF)))))
     (mK (o5 (i:=10) (gk (iK T.dR (aB (o6 (N:=["_law_here","_law_high","_law_low"]) (js:=[none,some 9,some 8]) (ks:=[0]) (cA (aA 6)) cB jg (aG8 (tH (aA 0) (aA 1)) (bB (aA 2)) (bB (aA 0)))) aF))))
     (mK (o5 (i:=11) (gk (iK T.dR (aB (o6 (N:=["_law_k","_law_uses","_law_one","_law_other"]) (js:=[none,some 7,some 2,some 3]) (ks:=[0]) (gm (aB (aL (aA 0) aJ) aF) T.dC) cB jg (dw (bB (aL (aA 1) (aA 0))) (aEu T.aGo (aB (aIl (yX (aA 0) (aA 2)) (kY (yX (aA 0) (aA 3)))) aF)))) aF))))
     (yU (aAJ 4 (bZ (aB (dw (bB (aA 5)) (bZ (aB (bZ (aB (bB (aA 2)) (aB (bB (aA 3)) aF))) aF))) (aB (bB (aA 10)) (aB (bB (aA 11)) aF))))))))))
     aCm)))
   (aK (aAL 1 4)))))
  (aK (ak (o6 (N:=["_law_row"]) (js:=[none]) (ks:=[0]) (cA (aA 1)) cB jg (bB (aL (aA 0) aJ)))))))
def aA9(T:Txt K mg t):b7 P w K mg base (CX1 P w) 2 t.vh t.iG ["thing"] (spF K (bQ mg) 1 m9):=
 ao (k:=1) (f:=iG) T.vp aAW λ n _ _ _ _ _ _ _=>
  (aK (ak (kh (aZ (qg T) T.oK (aB (aA 0) aF)) (kY (aEt aJ (aA 0) (aEv T.gG T.vH (λ _ _=>.int _)))))))
def lJ(T:Txt K mg t):b7 P w K mg base (CX1 P w) 2 t.uZ t.gB ["many","thing"] (spF K (bQ mg) 2 cV):=
 ao (k:=1) (f:=gB) T.jt yh λ n _ _ _ _ _ _ _=>
  (aK (ak (kh (aZ (qg T) T.oK (aB (aA 1) aF)) (kY (aEs aJ (aA 1) (aA 0))))))
def uH(T:Txt K mg t):b7 P w K mg base (CX1 P w) 2 t.nG t.cg ["near","places"] (spF K (bQ mg) 2 cj):=
 ao (k:=1) (f:=cg) T.nJ tW λ n _ _ _ _ _ _ _=>
  (aG (dJ (i:=2) (jR (iJ aF)))
  (aG (dJ (i:=3) (jR (aIk (aBS T.aGn))))
  (aG (cP (cA (aA 1)) (aa (ks:=[4]))
   (aK (dB (aBN (aA 4) (gY 3))
    (aG (bf (i:=5) (gk (aZ (xK T) T.rB (aB (aA 0) (aB (aA 4) aF)))))
    (aG (eN 2 (bB (aA 5)))
    (aK (cP (cA (aA 5)) (aa (ks:=[6]))
     (aK (aCo 3 (bB (aA 6))))))))
    bL)))
  (aK (ak (sJ 2))))))
def aF6(T:Txt K mg t):b7 P w K mg base (CX1 P w) 2 t.aER t.qU ["web"] (spF K (bQ mg) 1 uw):=
 ao (k:=1) (f:=qU) T.aEU aEx λ n _ _ _ _ _ _ _=>
  (aG (bf (i:=1) (gk (aZ (qi T) T.oM (aB (aA 0) aF))))
  (aG (dJ (i:=2) (jR (aIk (aBS T.aGn))))
  (aG (dJ (i:=3) (jR (iJ aF)))
  (aG (bf (i:=4) (gk aJ))
  (aG (cP (gm (aB (aL (aA 0) aJ) aF) T.dC) (aa (ks:=[5]))
   (aG (dB (aBN (aA 5) (gY 2))
    (aK (eN 3 (bZ (aB (bB (aA 5)) (aB aCx aF)))))
    bL)
   (aK (yV (vX (aA 4) (fB T.jE (aB (gY 3) aF)))
    (aG (aAM (bB (aL (gY 3) (aA 4))) (kW (n:=2) (bT (aa (ks:=[6,7])) (bT (aa (ks:=[6,7])) jC))))
    (aG (cP (cA (aL (aA 1) (aA 6))) (aa (ks:=[8]))
     (aK (dB (yS (aA 8) (aA 7))
      (aG (aCo 2 (bB (aA 8)))
      (aK (eN 3 (bZ (aB (bB (aA 8)) (aB (bB (aA 6)) aF))))))
      bL)))
    (aK (aCn (i:=4) aJ (λ _=>aDw)))))))))
  (aK (ak (sJ 3))))))))
def qe(T:Txt K mg t):b7 P w K mg base (CX1 P w) 2 t.uV t.fZ ["_law_cell","_law_many","_law_at"] (spF K (bQ mg) 3 il):=
 ao (k:=1) (f:=fZ) T.oJ yd λ n _ _ _ _ _ _ _=>
  (aG (bf (i:=3) (gk (aZ (bh T) T.bw (aB (aA 0) (aB (aA 2) (aB aJ aF))))))
  (aG (dJ (i:=4) (jR (iJ aF)))
  (aG (cP (gm (aB (aA 1) aF) T.dC) (aa (ks:=[5]))
   (aK (dB (SW.st (aBI (tH (aA 3) aJ) (wJ (SW.st (aAI (aCk (aA 3) aJ) (aBJ (tH (aZ (bh T) T.bw (aB (aA 0) (aB (dw (dw (aA 2) aJ) (aA 5)) (aB (dw aJ (aA 3)) aF)))) aJ)))))))
    (aK (eN 4 (bB (aA 5))))
    bL)))
  (aK (ak (iK T.dR (aB (sJ 4) aF)))))))
def vI(T:Txt K mg t):b7 P w K mg base (CX1 P w) 2 t.pL t.dX ["_law_cell","_law_most"] (spF K (bQ mg) 2 dY):=
 ao (k:=1) (f:=dX) T.pO vC λ n _ _ _ _ _ _ _=>
  (aG (bf (i:=2) (gk (aZ (bh T) T.bw (aB (aA 0) (aB aJ (aB (dw (aA 1) aJ) aF))))))
  (aG (bf (i:=3) (gk (aZ (bh T) T.bw (aB (aA 0) (aB aJ (aB aJ aF))))))
  (aG (sH (i:=4) (aIi (N:=["_law_row"]) (js:=[none]) (ks:=[0]) (cA (jU T.lL (aB (o6 (N:=["_law_place","_law_cell"]) (js:=[none,some 0]) (ks:=[0]) (gm (aB (aA 2) aF) T.dC) cB jg (bZ (aB (aZ (bh T) T.bw (aB (aA 1) (aB (dw aJ (aA 0)) (aB aJ aF)))) (aB (bB (aA 0)) aF)))) aF))) cB jg (bB (aL (aA 0) aJ))))
  (aG (dJ (i:=5) (jR (iJ aF)))
  (aG (cP (aBR (aB aJ (aB (aA 2) aF)) T.dC) (aa (ks:=[6]))
   (aG (sH (i:=7) (gk (aL (aAS (aB (tQ (aA 6) aJ) (aB (sU (aA 6) aJ) (aB (sU (aA 6) aJ) (aB (aZ (bh T) T.bw (aB (aA 0) (aB (dw aJ (aA 6)) (aB (aA 6) aF)))) aF))))) (aA 3))))
   (aG (dB (tH (aZ (bh T) T.bw (aB (aA 0) (aB (dw aJ (aA 6)) (aB aJ aF)))) aJ)
    (aK (sH (i:=7) (gk (aZ (bh T) T.bw (aB (aA 0) (aB (dw aJ (aA 6)) (aB (aA 6) aF)))))))
    bL)
   (aK (dB (aCk (aZ (bh T) T.bw (aB (aA 0) (aB (dw aJ (aA 6)) (aB aJ aF)))) aJ)
    (aK (eN 5 (bZ (aB (sO T.aB7 (aB (aL (jh 4) (jh 7)) (aB (aL (jh 4) (aA 6)) aF))) (aB (sS T.zG (aB (aL (jh 4) (jh 7)) (aB (aL (jh 4) (aA 6)) aF))) aF)))))
    bL)))))
  (aK (ak (bZ (aB (bB (aA 2)) (aB (iK T.dR (aB (jU T.lL (aB (gY 5) aF)) aF)) aF))))))))))
def rT(T:Txt K mg t):b7 P w K mg base (CX1 P w) 2 t.lX t.cG ["_law_web","_law_ends"] (spF K (bQ mg) 2 cN):=
 ao (k:=1) (f:=cG) T.lu rN λ n _ _ _ _ _ _ _=>
  (aG (dJ (i:=2) (jR (iJ aF)))
  (aG (cP (cA (aZ (zA T) T.ug (aB (aA 0) aF))) (aa (ks:=[3]))
   (aG (dJ (i:=4) (jR (iJ aF)))
   (aG (cP (cA (aA 3)) (aa (ks:=[5]))
    (aK (aAK 4 (bB (aA 5)))))
   (aK (dB (tH (o6 (N:=["_law_place","_law_used"]) (js:=[none,some 4]) (ks:=[0]) (cA (aA 1)) cB (aCv (aCk (aCy (aA 1) (aA 0)) aJ)) (bB (aA 0))) (aAS aF))
    (aK (eN 2 (bB (aA 3))))
    bL)))))
  (aG (bf (i:=6) (gk (aEr T.zG (aB (o6 (N:=["_law_row"]) (js:=[none]) (ks:=[0]) (cA (aA 2)) cB jg (fB T.jE (aB (aA 0) aF))) aF))))
  (aK (ak (o6 (N:=["_law_row","_law_most"]) (js:=[none,some 6]) (ks:=[0]) (cA (aA 2)) cB (aCv (tH (fB T.jE (aB (aA 0) aF)) (aA 1))) (bB (aA 0))))))))
def aA8(T:Txt K mg t):b7 P w K mg base (CX1 P w) 3 t.vg t.iD ["many","thing"] (spF K (bQ mg) 2 jc):=
 ao (k:=2) (f:=iD) T.vo aAV λ n _ _ _ _ _ _ _=>
  (aG (dB (SW.st (aBI (jK (jJ (nW (aA 1) T.cQ T.dR))) (wJ (yS (fB T.jE (aB (aA 1) aF)) aJ))))
   (aK (ak o7))
   bL)
  (aK (ak (kh (aZ (lJ T) T.jt (aB (aA 0) (aB (aL (aA 1) aJ) aF))) (kh (aZ (lJ T) T.jt (aB (aA 0) (aB (aL (aA 1) aJ) aF))) (kY (aIm (aL (aA 1) aJ) (aL (aA 1) aJ))))))))
def vJ(T:Txt K mg t):b7 P w K mg base (CX1 P w) 3 t.pM t.bu ["many","thing"] (spF K (bQ mg) 2 dZ):=
 ao (k:=2) (f:=bu) T.pP vD λ n _ _ _ _ _ _ _=>
  (aG (dB (jK (jJ (nW (aA 1) T.cQ T.dR)))
   (aK (ak o7))
   bL)
  (aG (cP (cA (aA 1)) (aa (ks:=[2]))
   (aK (dB (jK (jJ (aZ (lJ T) T.jt (aB (aA 0) (aB (aA 2) aF)))))
    (aK (ak o7))
    bL)))
  (aK (ak (aZ (pF T) T.lw (aB (aA 1) aF))))))
def xM(T:Txt K mg t):b7 P w K mg base (CX1 P w) 3 t.qx t.eV ["web","ends"] (spF K (bQ mg) 2 jH):=
 ao (k:=2) (f:=eV) T.rC wW λ n _ _ _ _ _ _ _=>
  (aG (aG7 (N:=["place"]) (js:=[none]) (ks:=[0]) (gm (aB (aL (aA 0) aJ) aF) T.dC) cB)
  (aG (dJ (i:=3) (jR (iJ aF)))
  (aG (dJ (i:=4) (jR (iJ aF)))
  (aG (cP (cA (aEp (aZ (aF6 T) T.aEU (aB (aA 0) aF)))) (kW (n:=2) (bT (aa (ks:=[5,6])) (bT (aa (ks:=[5,6])) jC)))
   (aG (bf (i:=7) (gk (aG8 (aIj (aA 5) (aA 1)) aJ aJ)))
   (aG (aEg 3 (o6 (N:=["other","place"]) (js:=[none,some 5]) (ks:=[0]) (cA (aCw (aL (aA 2) (aA 5)) aEi (aEh (aA 7)))) cB jg (aZ (aCG T) T.zX (aB (aA 1) (aB (aA 0) aF)))))
   (aK (dB (aG6 (fB T.jE (aB (aL (gY 2) (aA 5)) aF)) (aA 7))
    (aK (eN 4 (bB (aA 5))))
    (aK (dB (aCj (aA 6) aCx)
     (aK (nR 2 (aA 6) (bB (aA 5))))
     bL)))))))
  (aK (ak (bZ (aB (iK T.dR (aB (jU T.lL (aB (gY 3) aF)) aF)) (aB (iK T.dR (aB (jU T.lL (aB (gY 4) aF)) aF)) aF)))))))))
def my(T:Txt K mg t):b7 P w K mg base (CX1 P w) 4 t.ie t.az ["many","thing"] (spF K (bQ mg) 2 bH):=
 ao (k:=3) (f:=az) T.ik mj λ n _ _ _ _ _ _ _=>
  (aG (dB (jK (jJ (nW (aA 1) T.cQ T.dR)))
   (aK (ak o7))
   bL)
  (aG (cP (cA (aA 1)) (aa (ks:=[2]))
   (aK (dB (jK (jJ (aZ (aA8 T) T.vo (aB (aA 0) (aB (aA 2) aF)))))
    (aK (ak o7))
    bL)))
  (aK (ak (aZ (pF T) T.lw (aB (aA 1) aF))))))
def rY(T:Txt K mg t):b7 P w K mg base (CX1 P w) 4 t.lZ t.cI ["many","thing"] (spF K (bQ mg) 2 fK):=
 ao (k:=3) (f:=cI) T.mC rP λ n _ _ _ _ _ _ _=>
  (aK (dB (jK (jJ (aZ (vJ T) T.pP (aB (aA 0) (aB (aA 1) aF)))))
   (aK (tK rfl T.aCL T.aCO T.jQ (aB aAR aF)))
   bL))
def zB(T:Txt K mg t):b7 P w K mg base (CX1 P w) 5 t.uc t.gC ["many","thing"] (spF K (bQ mg) 2 jw):=
 ao (k:=4) (f:=gC) T.uh yj λ n _ _ _ _ _ _ _=>
  (aK (ak (kh (aZ (my T) T.ik (aB (aA 0) (aB (aA 1) aF))) (kY (aHI T.aJJ (aB (o6 (N:=["low","high"]) (js:=[none,none]) (ks:=[0,1]) (cA (aA 1)) (kW (n:=2) (bT cB (bT cB jC))) jg (aIn (aA 0) (aA 1))) aF))))))
def aCH(T:Txt K mg t):b7 P w K mg base (CX1 P w) 6 t.zU t.j7 ["thing"] (spF K (bQ mg) 1 pZ):=
 ao (k:=5) (f:=j7) T.zY aBz λ n _ _ _ _ _ _ _=>
  (aG (dB (SW.st (aBI (jK (jJ (nW (aA 0) T.cQ T.dR))) (wJ (yS (fB T.jE (aB (aA 0) aF)) aJ))))
   (aK (ak o7))
   bL)
  (aK (ak (kh (aZ (aA9 T) T.vp (aB (aL (aA 0) aJ) aF)) (kY (aZ (zB T) T.uh (aB (aL (aA 0) aJ) (aB (aL (aA 0) aJ) aF))))))))
def xO(T:Txt K mg t):b7 P w K mg base (CX1 P w) 7 t.rA t.eY ["thing"] (spF K (bQ mg) 1 eZ):=
 ao (k:=6) (f:=eY) T.rE wZ λ n _ _ _ _ _ _ _=>
  (aK (dB (jK (jJ (aZ (aCH T) T.zY (aB (aA 0) aF))))
   (aK (tK rfl T.aFd T.aFj T.oV (aB aAR aF)))
   bL))
def aDb(T:Txt K mg t):b7 P w K mg base (CX1 P w) 8 t.aBl t.m8 ["web"] (spF K (bQ mg) 1 sZ):=
 ao (k:=7) (f:=m8) T.aBm aCz λ n _ _ _ _ _ _ _=>
  (aG (wM (aZ (xO T) T.rE (aB (aA 0) aF)))
  (aK (ak (aZ (uH T) T.nJ (aB (aZ (qi T) T.oM (aB (aA 0) aF)) (aB (aAT T.aHy T.dC (aL (aA 0) aJ)) aF))))))
def xN(T:Txt K mg t):b7 P w K mg base (CX1 P w) 9 t.qz t.eX ["web"] (spF K (bQ mg) 1 gR):=
 ao (k:=8) (f:=eX) T.rD wY λ n _ _ _ _ _ _ _=>
  (aK (ak (yX (fB T.jE (aB (aZ (aDb T) T.aBm (aB (aA 0) aF)) aF)) (tQ (aL (aA 0) aJ) (fB T.jE (aB (aL (aA 0) aJ) aF))))))
def rZ(T:Txt K mg t):b7 P w K mg base (CX1 P w) 10 t.lq t.cJ ["web"] (spF K (bQ mg) 1 fL):=
 ao (k:=9) (f:=cJ) T.mD rQ λ n _ _ _ _ _ _ _=>
  (aK (dB (jK (jJ (aZ (xN T) T.rD (aB (aA 0) aF))))
   (aK (tK rfl T.aAf T.aAm T.iH (aB aAR aF)))
   bL))
def rW(T:Txt K mg t):b7 P w K mg base (CX1 P w) 11 t.lY t.cH ["web","ends"] (spF K (bQ mg) 2 fJ):=
 ao (k:=10) (f:=cH) T.lz rO λ n _ _ _ _ _ _ _=>
  (aG (wM (aZ (rZ T) T.mD (aB (aA 0) aF)))
  (aG (wM (aZ (rY T) T.mC (aB (aL (aA 0) aJ) (aB (aA 1) aF))))
  (aK (ak (aZ (xM T) T.rC (aB (aA 0) (aB (aA 1) aF)))))))
def fU(T:Txt K mg t):b7 P w K mg base (CX1 P w) 12 t.jz t.b8 ["web","ends"] (spF K (bQ mg) 2 bO):=
 ao (k:=11) (f:=b8) T.dm qG λ n _ _ _ _ _ _ _=>
  (aG (aAM (aZ (rW T) T.lz (aB (aA 0) (aB (aA 1) aF))) (kW (n:=2) (bT (aa (ks:=[2,3])) (bT (aa (ks:=[2,3])) jC))))
  (aK (ak (tQ (aL (aA 0) aJ) (fB T.jE (aB (aA 2) aF))))))
def aHw(T:Txt K mg t):b7 P w K mg base (CX1 P w) 13 t.aGs t.um ["_law_script"] (spF K (bQ mg) 1 aE5):=
 ao (k:=12) (f:=um) T.aET aHK λ n _ _ _ _ _ _ _=>
  (aG (cP (gm (aB (sS T.zG (aB aJ (aB (sO T.aB7 (aB (fB T.jE (aB (aA 0) aF)) (aB aJ aF))) aF))) aF) T.dC) (aa (ks:=[1]))
   (aG (bf (i:=2) (gk (aZ (uI T) T.nM (aB (aA 0) (aB (aA 1) aF)))))
   (aG (bf (i:=3) (gk (aZ (vI T) T.pO (aB (aA 2) (aB aJ aF)))))
   (aK (cP (cA (aAS (aB (bZ aF) (aB (aZ (qe T) T.oJ (aB (aA 2) (aB (aL (aA 3) aJ) (aB aJ aF)))) (aB (aZ (qe T) T.oJ (aB (aA 2) (aB (aL (aA 3) aJ) (aB aJ aF)))) (aB (vZ T.dR T.dC (aL (aA 3) aJ)) aF)))))) (aa (ks:=[4]))
    (aG (bf (i:=5) (gk (tQ (aL (aA 3) aJ) (fB T.jE (aB (aL (aZ (rT T) T.lu (aB (aA 3) (aB (aA 4) aF))) aJ) aF)))))
    (aK (cP (gm (aB aJ aF) T.dC) (aa (ks:=[6]))
     (aG (bf (i:=7) (gk (aZ (fU T) T.dm (aB (aA 3) (aB (aA 4) aF)))))
     (aK (dB (SW.st (aBI (jJ (nW (aA 7) T.cQ T.aDg)) (wJ (yS (aA 7) (aA 5)))))
      (aK (ak o7))
      bL)))))))))))
  (aK (ak (kh (yX (aZ (fU T) T.dm (aB (bZ (aB aJ (aB (bZ aF) aF))) (aB (bZ aF) aF))) aJ) (kY (yX (aZ (fU T) T.dm (aB (bZ (aB aJ (aB (bZ (aB (bZ (aB aJ (aB aJ aF))) (aB (bZ (aB aJ (aB aJ aF))) (aB (bZ (aB aJ (aB aJ aF))) aF)))) aF))) (aB (bZ aF) aF))) aJ))))))
end
def aGx{K:zAA}{h:Heap}{mg:Str->Option Value}{tk_MOST_PLACES:Tok}{q_FewError:Addr}{q_NoWeb:Addr}{q_NoPlace:Addr}{q_NoForest:Addr}(X:K.In h)(G:h.Ns zA8 mg)
  (h0:∃f d,Enr K "is_whole" n8 f d)
  (h1:∃f d,Enr K "is_many" qJ f d)
  (h2:∃f d,Enr K "is_place" ni f d)
  (h3:∃f d,Enr K "is_pair" qI f d)
  (h4:∃f d,Enr K "is_rising" lA f d)
  (h5:∃f d,Enr K "are_rising_pairs" eE f d)
  (h6:∃f d,Enr K "are_ties" nj f d)
  (h7:∃f d,Enr K "are_places" jk f d)
  (h8:∃f d,Enr K "is_web" tZ f d)
  (h9:∃f d,Enr K "check_web" lD f d)
  (h10:∃f d,Enr K "check_places" iR f d)
  (h11:∃f d,Enr K "tie_of" tY f d)
  (h12:∃f d,Enr K "all_tied" nu f d)
  (h13:∃f d,Enr K "part_with" kj f d)
  (h14:∃f d,Enr K "parts_among" jL f d)
  (h15:∃f d,Enr K "parts" w5 f d)
  (h16:∃f d,Enr K "is_forest" lC f d)
  (h17:∃f d,Enr K "check_forest" iT f d)
  (h18:∃f d,Enr K "hung" aAX f d)
  (h19:∃f d,Enr K "joined_up" km f d)
  (h20:∃f d,Enr K "checked_join" iQ f d)
  (h21:∃f d,Enr K "forest_fewest" gZ f d)
  (h22:∃f d,Enr K "_law_cell_at" jM f d)
  (h23:∃f d,Enr K "_law_draw" n6 f d)
  (h24:∃f d,Enr K "_law_some" nY f d)
  (h25:∃f d,Enr K "_law_forest" ji f d)
  (h26:∃f d,Enr K "_law_rows" nZ f d)
  (h27:∃f d,Enr K "_law_few_rows" iM f d)
  (h28:∃f d,Enr K "law" aDC f d)
  (gG:zAm K zA8 "MOST_PLACES"=some (some (.int 60 tk_MOST_PLACES)))
  (y_FewError:zAm K zA8 "FewError"=some (some (.ref q_FewError)))
  (je:kE K q_FewError)
  (y_NoWeb:zAm K zA8 "NoWeb"=some (some (.ref q_NoWeb)))
  (oV:kE K q_NoWeb)
  (y_NoPlace:zAm K zA8 "NoPlace"=some (some (.ref q_NoPlace)))
  (jQ:kE K q_NoPlace)
  (y_NoForest:zAm K zA8 "NoForest"=some (some (.ref q_NoForest)))
  (iH:kE K q_NoForest)
  (z_all:zAm K zA8 "all"=some none)
  (z_bool:zAm K zA8 "bool"=some none)
  (z_int:zAm K zA8 "int"=some none)
  (z_isinstance:zAm K zA8 "isinstance"=some none)
  (z_len:zAm K zA8 "len"=some none)
  (z_list:zAm K zA8 "list"=some none)
  (z_max:zAm K zA8 "max"=some none)
  (z_min:zAm K zA8 "min"=some none)
  (z_range:zAm K zA8 "range"=some none)
  (z_set:zAm K zA8 "set"=some none)
  (z_sorted:zAm K zA8 "sorted"=some none)
  (z_tuple:zAm K zA8 "tuple"=some none):
  ∃t,Txt K mg t:=by
 obtain⟨f0,d0,F0,a0⟩:=dnr X G h0 ["thing"];obtain⟨f1,d1,F1,a1⟩:=dnr X G h1 ["thing"];obtain⟨f2,d2,F2,a2⟩:=dnr X G h2 ["many","thing"];obtain⟨f3,d3,F3,a3⟩:=dnr X G h3 ["many","thing"];obtain⟨f4,d4,F4,a4⟩:=dnr X G h4 ["things"];obtain⟨f5,d5,F5,a5⟩:=dnr X G h5 ["many","thing"];obtain⟨f6,d6,F6,a6⟩:=dnr X G h6 ["many","thing"];obtain⟨f7,d7,F7,a7⟩:=dnr X G h7 ["many","thing"];obtain⟨f8,d8,F8,a8⟩:=dnr X G h8 ["thing"];obtain⟨f9,d9,F9,a9⟩:=dnr X G h9 ["thing"];obtain⟨f10,d10,F10,a10⟩:=dnr X G h10 ["many","thing"];obtain⟨f11,d11,F11,a11⟩:=dnr X G h11 ["one","other"];obtain⟨f12,d12,F12,a12⟩:=dnr X G h12 ["web"];obtain⟨f13,d13,F13,a13⟩:=dnr X G h13 ["near","start"];obtain⟨f14,d14,F14,a14⟩:=dnr X G h14 ["near","places"];obtain⟨f15,d15,F15,a15⟩:=dnr X G h15 ["web"];obtain⟨f16,d16,F16,a16⟩:=dnr X G h16 ["web"];obtain⟨f17,d17,F17,a17⟩:=dnr X G h17 ["web"];obtain⟨f18,d18,F18,a18⟩:=dnr X G h18 ["web"];obtain⟨f19,d19,F19,a19⟩:=dnr X G h19 ["web","ends"];obtain⟨f20,d20,F20,a20⟩:=dnr X G h20 ["web","ends"];obtain⟨f21,d21,F21,a21⟩:=dnr X G h21 ["web","ends"];obtain⟨f22,d22,F22,a22⟩:=dnr X G h22 ["_law_script","_law_k"];obtain⟨f23,d23,F23,a23⟩:=dnr X G h23 ["_law_cell","_law_k","_law_bound"];obtain⟨f24,d24,F24,a24⟩:=dnr X G h24 ["_law_cell","_law_many","_law_at"];obtain⟨f25,d25,F25,a25⟩:=dnr X G h25 ["_law_cell","_law_most"];obtain⟨f26,d26,F26,a26⟩:=dnr X G h26 ["_law_web"];obtain⟨f27,d27,F27,a27⟩:=dnr X G h27 ["_law_web","_law_ends"];obtain⟨f28,d28,F28,a28⟩:=dnr X G h28 ["_law_script"];exact⟨⟨f0,_,f1,_,f2,_,f3,_,f4,_,f5,_,f6,_,f7,_,f8,_,f9,_,f10,_,f11,_,f12,_,f13,_,f14,_,f15,_,f16,_,f17,_,f18,_,f19,_,f20,_,f21,_,f22,_,f23,_,f24,_,f25,_,f26,_,f27,_,f28,_,_,q_FewError,q_NoWeb,q_NoPlace,q_NoForest⟩,⟨F0,F1,F2,F3,F4,F5,F6,F7,F8,F9,F10,F11,F12,F13,F14,F15,F16,F17,F18,F19,F20,F21,F22,F23,F24,F25,F26,F27,F28,zB2 X G gG,⟨_,rfl⟩,zB2 X G y_FewError,(by unfold bQ;rw[zB2 X G y_FewError]),je,zB2 X G y_NoWeb,(by unfold bQ;rw[zB2 X G y_NoWeb]),oV,zB2 X G y_NoPlace,(by unfold bQ;rw[zB2 X G y_NoPlace]),jQ,zB2 X G y_NoForest,(by unfold bQ;rw[zB2 X G y_NoForest]),iH,zAv X G z_all,zAv X G z_bool,zAv X G z_int,zAv X G z_isinstance,zAv X G z_len,zAv X G z_list,zAv X G z_max,zAv X G z_min,zAv X G z_range,zAv X G z_set,zAv X G z_sorted,zAv X G z_tuple⟩⟩
def aI4{l:zES}{w:World}{K:zAA}{h:Heap}{mg:Str->Option Value}{fa:Addr}(X:K.In h)(G:h.Ns zA8 mg)(hfa:mg "law"=some (.ref fa))(ht:∃t,Txt K mg t):
  ∃fd:zA9,(∀(s:zAE) (v:Value),zEe s fd ⟨[v],[]⟩ [("_law_script",v)])/\∀base:Heap,K.In base->base.Ns zA8 mg->b7 l.prog w K mg base (CX1 l.prog w) 13 fa fd ["_law_script"] (aBO K):=by
 obtain⟨t,T⟩:=ht;have e:=hfa.symm.trans T.aET.m;cases e;refine⟨t.um,λ s v=>?_,λ base _ _=>(aHw T).imp (aFi aDq)⟩;obtain⟨oc,od,kV,doc,pm,an,cdv,ct,osl,e,lk,hcd⟩:=T.aET.F.ex;rw[e];exact .of_eq rfl
def walk{l:zES}{q:zAZ}{loose:List Str}{XP:(Str->Option Value)->Heap->Prop}{YP:World->Heap->Prop}{d:DefRec}{K:Params->zAA}(hn:l.most=some 63)(hdf:d.params.defaults=[])
  (hY:∀(w:World) (h:Heap),YP w h->(K w.params).In h)
  (F:∀(w:World) (mg:Str->Option Value) (fa:Addr) (h:Heap),(K w.params).In h->h.Ns zA8 mg->mg d.name=some (.ref fa)->
   ∃fd:zA9,(∀(s:zAE) (u:Value),zEe s fd ⟨[u],[]⟩ [("_law_script",u)])/\∀base:Heap,(K w.params).In base->base.Ns zA8 mg->b7 l.prog w (K w.params) mg base (CX1 l.prog w) 13 fa fd ["_law_script"] (aBO (K w.params))):
  zG9 q loose XP YP l.row.toRowW d [] (λ f vs=>zGK f vs):=
 L2.aEb (n:=63) (k:=13) (x:="_law_script") (CX:=λ w=>CX1 l.prog w) (sp:=λ w=>aBO (K w.params)) hn (by decide) hdf ⟨rfl,by decide,by decide⟩ hY F (λ _ _ a ns hl hO hS=>⟨a,ns,rfl,aHJ hO hS,hl,λ _=>rfl⟩) λ _ _ _ _ _ ⟨_,_,_,_,_,_,_,_,_,_,_,_,_,z⟩=>z
end VL.My
open PySem PySem.W PyProof.Rows
set_option maxRecDepth 100000 in
set_option maxHeartbeats 0 in
theorem PySem.Challenge.cw_fewways_k32_fewest_ways_of_forests_holds : PySem.Challenge.rw_fewways_k32_fewest_ways_of_forests.Holds := by
 w_on; o_law; k_head; (case hw=>w_witness2)
 k_fill
 refine VL.My.walk (l:=PySem.Challenge.rw_fewways_k32_fewest_ways_of_forests) rfl rfl (fun w h Y=>PySem.W.kIn_of Y) ?F
 case F =>
  intro w mg fa h KX G hmg
  refine VL.My.aI4 KX G hmg ?T
  case T =>
   refine' VL.My.aGx KX G (VL.enr ?a0 ?l0 ?c0 ?k0) (VL.enr ?a1 ?l1 ?c1 ?k1) (VL.enr ?a2 ?l2 ?c2 ?k2) (VL.enr ?a3 ?l3 ?c3 ?k3) (VL.enr ?a4 ?l4 ?c4 ?k4) (VL.enr ?a5 ?l5 ?c5 ?k5) (VL.enr ?a6 ?l6 ?c6 ?k6) (VL.enr ?a7 ?l7 ?c7 ?k7) (VL.enr ?a8 ?l8 ?c8 ?k8) (VL.enr ?a9 ?l9 ?c9 ?k9) (VL.enr ?a10 ?l10 ?c10 ?k10) (VL.enr ?a11 ?l11 ?c11 ?k11) (VL.enr ?a12 ?l12 ?c12 ?k12) (VL.enr ?a13 ?l13 ?c13 ?k13) (VL.enr ?a14 ?l14 ?c14 ?k14) (VL.enr ?a15 ?l15 ?c15 ?k15) (VL.enr ?a16 ?l16 ?c16 ?k16) (VL.enr ?a17 ?l17 ?c17 ?k17) (VL.enr ?a18 ?l18 ?c18 ?k18) (VL.enr ?a19 ?l19 ?c19 ?k19) (VL.enr ?a20 ?l20 ?c20 ?k20) (VL.enr ?a21 ?l21 ?c21 ?k21) (VL.enr ?a22 ?l22 ?c22 ?k22) (VL.enr ?a23 ?l23 ?c23 ?k23) (VL.enr ?a24 ?l24 ?c24 ?k24) (VL.enr ?a25 ?l25 ?c25 ?k25) (VL.enr ?a26 ?l26 ?c26 ?k26) (VL.enr ?a27 ?l27 ?c27 ?k27) (VL.enr ?a28 ?l28 ?c28 ?k28) ?gG ?y_FewError ?je ?y_NoWeb ?oV ?y_NoPlace ?jQ ?y_NoForest ?iH ?z_all ?z_bool ?z_int ?z_isinstance ?z_len ?z_list ?z_max ?z_min ?z_range ?z_set ?z_sorted ?z_tuple
   (case y_FewError=>k_is); (case je=>unfold L2.kE; k_exc)
   (case y_NoWeb=>k_is); (case oV=>unfold L2.kE; k_exc)
   (case y_NoPlace=>k_is); (case jQ=>unfold L2.kE; k_exc)
   (case y_NoForest=>k_is); (case iH=>unfold L2.kE; k_exc)
   any_goals k_is
