import PyProof.Rows.All
import KE.KDictOf
import PyProof.DictWalks
import Wide.All
import OpenK.AllK
import Wide.FinOn
import Lean
import PyProof.EqAt
import PyProof.EqKinds
import PyProof.TupleCall
import KE.LcSums
import PySem.Challenge.RW_fewways_k76_shelves_and_the_longest_way
open Array renaming length_toList->zCZ,getD_eq_getD_getElem?->zEX,toList_append->zFZ,toList->zGV
open Array.Perm renaming refl->zFQ
open Bool renaming and_eq_true->zAU,false_ne_true->zA8,false_eq_true->zBD,and_true->zCJ,and_assoc->zDo,and_false->zDp,eq_false_iff->zEK,not_eq_true'->zEL,eq_iff_iff->zE2,or_eq_true->zE3
open Classical renaming byContradiction->zEO
open False renaming elim->zAH
open ForInStep renaming yield->zBc
open Int renaming toNat_of_nonneg->zB2,emod_lt_of_pos->zDK,emod_nonneg->zDi,toNat_natCast->zFw
open LawfulBEq renaming eq_of_beq->zGI
open List renaming length_map->zAB,getElem?_eq_getElem->zAD,map_cons->zAG,size_toArray->zAI,replicate->zAJ,mem_cons_of_mem->zAK,getElem?_map->zAL,getElem?_eq_some_iff->zAM,mem_cons_self->zAP,getD_eq_getElem?_getD->zAQ,mem_append_right->zAR,mem_cons->zAV,mem_map->zAZ,mem_of_getElem?->zA0,length_cons->zA2,mem_singleton->zA7,length_append->zA9,map_map->zAc,mem_append->zAe,pairwise_cons->zAf,mem_append_left->zAh,mem_filter->zAl,nodup_cons->zAm,lookup_cons->zAn,range->zAp,zip_cons_cons->zAr,append_nil->zAv,length_set->zAw,length_nil->zAz,getElem?_cons_zero->zBA,getElem?_set_ne->zBC,getElem?_set_self->zBE,getElem?_append_left->zBG,map_append->zBH,replicate_succ->zBJ,length_replicate->zBK,getElem?_cons_succ->zBN,nodup_append->zBU,length_pos_iff->zB1,nodup_iff_pairwise_ne->zB8,all_eq_true->zB9,length_singleton->zBb,flatten_cons->zBk,filterMap_cons->zBq,getElem?_range->zBr,getElem?_replicate->zBs,length_eq_zero_iff->zBt,map_eq_nil_iff->zBu,not_mem_nil->zCA,mem_filterMap->zCB,nil_append->zCE,append_assoc->zCK,getElem?_inj->zCL,length_range->zCM,getElem_toArray->zCQ,drop_eq_getElem_cons->zCX,map_congr_left->zC5,any_cons->zC9,find?_cons->zCa,reverse_cons->zCf,mem_range->zCh,getElem?_eq_none->zCk,cons_append->zCo,filter_cons->zCp,getElem_map->zCq,dropLast_concat_getLast->zCy,foldl_cons->zDD,getElem_of_mem->zDE,idxOf_lt_length_of_mem->zDF,pairwise_iff_getElem->zDL,pairwise_map->zDS,length_take->zD2,length_filter_le->zD8,max?->zD9,max?_eq_some_iff->zDa,of_mem_zip->zDb,take_append_drop->zDc,length->zDs,length_reverse->zDt,getElem_idxOf->zEE,lookup_append->zEF,erase_eq_eraseIdx_of_idxOf->zEM,map_nil->zEQ,getElem_mem->zEU,mem_flatMap->zEV,min?->zE5,getElem?_append_right->zEc,mem_or_eq_of_mem_set->zEh,mem_take_iff_getElem->zEi,idxOf_lt_length_iff->zEn,filter_eq_nil_iff->zFD,take_of_length_le->zFE,mem_of_mem_erase->zFV,mem_erase_of_ne->zF1,map_id->zF9,contains_cons->zFe,mem_replicate->zFf,zip_nil_right->zFg,ext_getElem?->zFp,foldl->zFq,take_add_one->zFr,zip_nil_left->zFs,any_eq_true->zFx,append_inj'->zFy,drop_length->zFz,map_fst_zip->zGA,map_snd_zip->zGB,mem_reverse->zGC,length_zip->zGK,all_cons->zGX
open List.Pairwise renaming nil->zD5,imp_of_mem->zED
open List.Perm renaming refl->zBp,swap->zEP
open MonadExcept renaming tryCatch->zC4
open Nat renaming le_refl->zAT,lt_of_lt_of_le->zAY,ne_of_lt->zA5,le_trans->zAi,zero_le->zAo,lt_succ_self->zBX,le_of_lt->zBd,lt_irrefl->zBe,le_succ->zCG,ne_of_gt->zCH,lt_succ_of_lt->zCP,le_of_ble_eq_true->zDj,not_lt_zero->zDk,min_self->zEW,not_lt->zEw,le_max_right->zGL,le_of_not_lt->zGM,le_max_left->zGP
open Ne renaming symm->zDT
open Option renaming isSome_iff_exists->zC0,map_eq_some_iff->zCc,bind_some->zCm,map_some->zD4,isSome_some->zF2,none->zGY
open Option.some renaming inj->zAb,injEq->zBO
open Or renaming inr->zBM,inl->zBi
open Prod renaming ext->zEx,fst->zEy
open PyProof.Rows renaming IntsAre->zBI,seqObj->zBW,KeyOrd->zBj,callWith_type1->zCg,SortSt->zCr,kindOf->zCt,SortKind->zCz,get?_update_seq->zDQ,lt_int->zDZ,envOfC->zDm,AllBare->zDv,failedOf->zFB,pendingOf->zFK,sortedHeap->zFc,listUpdate_at->zFk,subscriptTail->zFo,subscriptTail_builtinR->zFu,seqEpoch_at->zGS,Subscript_->zGa
open PyProof.Rows.KeyOrd renaming kle_refl->zC7,kle_trans->zDU,kle_of_klt->zEC,kle_antisymm->zFU
open PySem renaming Shared->zAC,wpAny_bind->zAE,sizeLine->zAN,Program->zAO,starEach->zAS,wpAny_pure->zA1,Around->zA3,mainGlobals->zA4,FuncData->zAa,mem_of_lookup->zAg,bootBuiltins->zAj,compareOp->zAk,argBest->zAq,wpAny_tryCatch->zAt,codeAny_builtin->zBR,plainId_quiet->zBS,wpAny_holding->zBT,wpAny_mono->zBV,wpAny_seqItems->zB5,wpAny_truthy_bool->zB7,wpAny_updateSeq->zBa,backTo->zBg,wpAny_letGo->zBo,binaryOp->zBv,Keyword->zBw,foldedSetIterable->zBx,swapsWith->zBy,wpAny_loadPart'->zBz,codeAny->zCI,Arguments->zCR,holding->zCU,keywordEach->zCV,wpAny_passesOwn->zCW,assignEach->zC1,attributeBase->zC2,behindInMarks->zC3,GenState->zC8,sysModules->zCe,wpAny_Call_Name_kw->zCi,richCompare_meets_room->zCu,wpAny_loadPart_at->zCx,seqItems?->zDB,NameKind->zDI,cellsFrom->zDP,richCompare->zDR,backToKw->zD0,wpAny_newObj_type->zD6,wpAny_pyIter_list->zD7,sizeLine_eq->zDl,wpAny_forIn_list->zDn,Result->zDy,letOwnedTupleGo->zDz,pyNext->zEA,wpAny_execs_nil->zEB,call_meets->zEH,codeAny_call_builtin->zEJ,assign->zEN,callerA->zET,codeAmong->zEZ,updateSeq->zE0,wpAny_standAt->zE1,BindsTo->zEa,Builtin->zEb,closureFor->zEf,typeLookup->zEg,codeAny_mono->zEl,seqIndex_neg->zEm,checkBuiltinCall->zEt,noFill_tuple_add->zEu,SetTable->zFA,excClassObj->zFJ,relabel->zFL,seqIndex_of->zFM,subscripted->zFN,tupleKind->zFO,valueAt->zFP,newFunctionEnv->zF7,recursionLimit->zF8,argsOk->zFb,wpAny_comprehension_free->zFd,call->zFh,bindArgs->zFi,getItem->zFj,seq_tuple_add->zFl,setItem->zFm,standAt->zFn,wpAny_getItem_list_neg->zFv,Paired->zGD,PassesOwn->zGE,concat_meets->zGH,lastMarks->zGJ,newList->zGR,wpAny_isSubtype_exc->zGT,wpAny_of_eq->zGU,Within->zG2,numAt_eq->zG3,tupleKind_room_in1->zG4,builtinsNs->zGd,defaultsOf->zGe,slot_list_getitem->zGf,typeIs_int->zGg,wpAny_Name->zGh,wpAny_assign_Name->zGi,wpAny_call->zGj
open PySem.Around renaming under_plainId->zAx,frames_deeper->zFC
open PySem.AutoSeq1 renaming sub_tuple_tuple->zCS,list_insert_list_int_val_1->zG0
open PySem.Bind renaming checkArgs->zGO
open PySem.Builtin.Builtins renaming bindParams->zBF
open PySem.Builtin.List renaming listTooLong->zCF,listFitsIndex->zCj
open PySem.Builtin.Range renaming rangeSize->zG5
open PySem.Builtin.Tuple renaming tupleCompareSizes->zB6,tupleHashOf->zG6
open PySem.Calls renaming Name_function_global->zE4,callWith_builtin->zEv,evalArgs_plain->zFR
open PySem.F renaming plain_min_loop->zAd,plain_max_loop->zAy,entry_min_loop->zBZ,plainAttrs_list->zBm,entry_max_loop->zCb,args_tuple_add_2->zDJ,entry_tuple_add->zDM,slot_tuple_add->zDW,slot_list_append->zD1,typeOf_object_class->zDq,slot_dict_values->zE6,slot_list_insert->zE7,slot_list_remove->zE8,type_list_append->zE9,args_tuple_lt_2->zEd,entry_tuple_lt->zEj,slot_tuple_lt->zEo,slot_list_extend->zFS,slot_gs_get->zF0,entry_min->zF3,plain_min->zF4,kind_min->zFa,slot_int_rmul->zG7
open PySem.Heap renaming get?_push_of_some->zAF,get?_push_size->zAW,lt_size->zAX,get?_update_other->zA6,size_push->zBf,get?_update_self->zCD,get?_update_ne->zDC,SameBut->zFT
open PySem.Heap.IsSliceOf renaming new->zGW
open PySem.Heap.SameBut renaming update->zDY
open PySem.MeetsSeq renaming list_remove->zG1
open PySem.MeetsSeq.EqGives renaming int->zFW
open PySem.Moved renaming trans->zDV
open PySem.NameKind renaming free->zB3,cell->zCl
open PySem.Obj renaming mapSeq->zBP
open PySem.Paired renaming length->zDu,snoc->zGZ
open PySem.SeqAt renaming EqAt->zC6
open PySem.SeqAt.EqAt renaming of_refs->zDg,same->zEG,int_int->zEq,int_str->zEr,str_int->zEs
open PySem.SeqAt.RcAt renaming lists_lengths->zES,tuples->zEz,lists->zFH
open PySem.Value renaming none->zBY,ref->zB0,notImplemented->zCs,type->zDA,bool->zDN,int->zDO,builtin->zDX,str->zFI,isStrOf->zGQ,float->zGb,isInt->zGc
open PySem.W renaming Frag->zAA,nsIn->zAs,kia_one->zAu,mg_none_of->zBB,findIn->zBL,emptyDict->zBQ,codeHdIn->zB4,instObj->zBh,fnOf->zBl,mg_of->zBn,kla_obj->zCC,envX->zCY,keepIn->zCd,looks_findIn->zCn,hideAll->zCv,hideAll_get->zCw,codeIn->zDG,kitOne->zDH,kas_rev->zD3,kla_fn->zDd,lookIn->zDe,tabObj->zDf,Looks->zDr,kitx_dict->zDw,methodObj->zDx,plainGet->zEI,OpenLaw->zER,CodeHd->zEY,cellsFrom_some->zEk,KasT->zEp,codeHd_of_K->zFF,plainGet_of->zFG,kitx_tuple->zFX,of_hideAll->zFY,kas_place->zF5,kitx_list->zF6,InstAt->zFt,WalkO->zGF,excIn->zGG,isFn->zGN
open PySem.W.Looks renaming ld->zG8,now->zG9
open PySem.Walks renaming list->zDh
open Sum renaming inl->zCT,inr->zEe
open ToString renaming toString->zCO
open True renaming intro->zCN
noncomputable section
namespace PySem.W.Fast
def tw7136776074811071000:=0
def tw15927762630343227224:=0
def tw9980607093702918872:=0
def tw65542030155245880:=0
def tw7631156045209646680:=0
def tw17051251189969695320:=0
def tw763017629906616952:=0
def tw10473202137007087672:=0
def tw6232635681737634601:=0
def tw17887031613117842505:=0
def tw5436334433126666633:=0
def tw9156544728474211913:=0
def tw17030290642578888137:=0
def tw8072728008899531081:=0
def tw11528319893709243306:=0
def tw2109706815930830186:=0
def tw5381850524048072923:=0
def tw18336858442537343643:=0
def tw11216177855671540987:=0
def tw11077899911702887963:=0
def tw2713687964992985403:=0
def tw9405364181105918555:=0
def tw11506320844030833819:=0
def tw5827929041672970395:=0
def tw574673995407500443:=0
def tw6119682184435723932:=0
def tw9378093966250927836:=0
def tw15867106965314745084:=0
def tw10586142042954351356:=0
def tw15151132603812597372:=0
def tw5423447481350646684:=0
def tw6923529921312015548:=0
def tw11504788232811508957:=0
def tw2808821854426182621:=0
def tw9810795959475560157:=0
def tw5328185710212072686:=0
def tw15083999473224783982:=0
def tw12108398663882091374:=0
def tw1275491808453801998:=0
def tw13691706096780821518:=0
def tw2722411693467948334:=0
def tw7411616434448043342:=0
def tw4523342921103940814:=0
def tw10008542668348913167:=0
def tw4024775598193682703:=0
def tw6351299106661630543:=0
def tw13984364480175347567:=0
def tw13499194451838399247:=0
def tw2887673038897126608:=0
def tw13414365212261052912:=0
def tw9065403299411654480:=0
def tw17642696744614144720:=0
def tw2979973093012224592:=0
def tw11961817307554875856:=0
def tw2545124392865369104:=0
def tw17375099192471434465:=0
def tw2938603075989820801:=0
def tw9625283069884588737:=0
def tw17738901655377531361:=0
def tw18246687366230477698:=0
def tw3848463267647029602:=0
def tw678645505810829986:=0
def tw5261806877048434626:=0
def tw12295166492911102178:=0
def tw7908759393238257058:=0
def tw5320820743700284098:=0
def tw8972439684348874178:=0
def tw9175445525273196275:=0
def tw14980032272853806867:=0
def tw15680210153822954995:=0
def tw18038931859721647187:=0
def tw16759490959756277011:=0
def tw8287199312805981331:=0
def tw9388169732682139252:=0
def tw13781055864897325268:=0
def tw717792347396117140:=0
def tw16733579004420870964:=0
def tw2660090481081339700:=0
def tw1253350294510531412:=0
def tw13239403678046096405:=0
def tw41739056039794406:=0
def tw12407648907928447174:=0
def tw4595155542872152710:=0
def tw10932336063145279110:=0
def tw8615551007667444838:=0
def tw5833242786876002758:=0
def tw12552997360123890855:=0
def tw6660798606919755431:=0
def tw16320448633922533799:=0
def tw17832846173001480903:=0
def tw5206504100512213992:=0
def tw18379600800173420712:=0
def tw11493260412243967720:=0
def tw2920230479554280488:=0
def tw958111938693615400:=0
def tw9283730989996203688:=0
def tw9722562855677536808:=0
def tw17126891444864551225:=0
def tw3639121064702864985:=0
def tw11962203897736488889:=0
def tw14058248608111245145:=0
def tw14633686460970284473:=0
def tw15194029497731484538:=0
def tw3104059854213431354:=0
def tw10177447777089783482:=0
def tw4503835966424074699:=0
def tw15702630131147045195:=0
def tw18199095737094557003:=0
def tw14932121448377641323:=0
def tw12449158760703006667:=0
def tw13679010327091233035:=0
def tw3450877611906451019:=0
def tw17024193462420020556:=0
def tw7892629850090166636:=0
def tw7843436432892351756:=0
def tw8220181260051318925:=0
def tw3674767241921344077:=0
def tw7135591631625282413:=0
def tw8389308831370717357:=0
def tw4578559141079293709:=0
def tw7841943225333270573:=0
def tw7736067283420785261:=0
def tw4052417851950643405:=0
def tw16510273322281503245:=0
def tw14215457495097724589:=0
def tw11839686831001292350:=0
def tw11373124690960396126:=0
def tw5276234139885268734:=0
def tw18034438945165597726:=0
def tw9033895700821416990:=0
def tw6390630512103764606:=0
def tw17965028512407530142:=0
def tw9221178345874973918:=0
def tw13132561503615705918:=0
def tw15898759242659975711:=0
def tw1812545507098041759:=0
def tw1624239072569313599:=0
def tw5141542424399398783:=0
def tw13354401810574368671:=0
def tw16628859153982176767:=0
def tw11102663561655401152:=0
def tw17280697773676361440:=0
def tw15777604972587916896:=0
def tw18039484019123061952:=0
def tw8120125654494409920:=0
def tw9542193955502318417:=0
def tw12951152502290185073:=0
def tw53734728140952465:=0
def tw16100440059280557681:=0
def tw6581386048545082865:=0
def tw10539539797630603666:=0
def tw11521755795178283314:=0
def tw15983889675919362130:=0
def tw16988269246686875282:=0
def tw8712785378825594514:=0
def tw3572262396723612483:=0
def tw4690671241671092675:=0
def tw177231400802819299:=0
def tw9291917598751191139:=0
def tw2879211413874676259:=0
def tw637081800110336708:=0
def tw11378493607734085956:=0
def tw13531144176287832165:=0
def tw9907427481271896453:=0
def tw12381680446402417317:=0
def tw9393999539709881157:=0
def tw2197022776520248613:=0
def tw7060129437612551333:=0
def tw16342588220302045541:=0
def tw16396047191805965541:=0
def tw12308870737637941238:=0
def tw12930064546934294966:=0
def tw13871741149421654614:=0
def tw5057166476619510678:=0
def tw13249036476954569366:=0
def tw10805819066922466518:=0
def tw2855073029775209175:=0
def tw972746186517823959:=0
def tw10251115682302476631:=0
def tw10284675954548482551:=0
def tw13011543623240235095:=0
def tw5573250588848902519:=0
def tw11647891361377452104:=0
def tw12990079092936247063:=0
end PySem.W.Fast
abbrev gX:=List (Int×Int)
abbrev gV:=List (List Int)
abbrev hZ:=List (PySem.Addr×PySem.Obj)
set_option bootstrap.genMatcherCode false
set_option compiler.extract_closed false
set_option Elab.async false
set_option linter.all false
set_option maxRecDepth 100000
namespace L2
open PySem PySem.Spec PyProof.Rows
abbrev Key:=Sum Int Str
def ud:Key->Value->Bool
 | .inl k,v=>zGc k v
 | .inr x,v=>zGQ x v
def aJ5(w:World):Key->Int
 | .inl k=>hashInt k
 | .inr x=>hashStr w x
def bf:∀{k:Key} {v:Value},ud k v=true->(∃i t,k=zCT i/\v=zDO i t)\/(∃x t,k=zEe x/\v=zFI x t)
 | .inl i,v,h=>by
  obtain⟨t,e⟩:=Value.isInt_shape (k:=i) (v:=v) h;exact .inl ⟨i,t,rfl,e⟩
 | .inr x,v,h=>by
  obtain⟨t,e⟩:=Value.isStrOf_shape (x:=x) (v:=v) h;exact .inr ⟨x,t,rfl,e⟩
def aB5(i:Int)(t:Tok):ud (.inl i) (.int i t)=true:=by simp[ud,zGc]
def aB4(x:Str)(t:Tok):ud (.inr x) (.str x t)=true:=by simp[ud,zGQ]
def aHo(a b:Int):decide ((zCT a:Key)=zCT b)=(a==b):=by
 by_cases e:a=b
 .subst e;simp
 .have h:¬(zCT a:Key)=zCT b:=λ q=>e (Sum.inl.inj q)
  rw[decide_eq_false h];exact(beq_eq_false_iff_ne.mpr e).symm
def aHl(a b:Str):decide ((zEe a:Key)=zEe b)=decide (a=b):=by
 by_cases e:a=b
 .subst e;simp
 .have h:¬(zEe a:Key)=zEe b:=λ q=>e (Sum.inr.inj q)
  rw[decide_eq_false h,decide_eq_false e]
def aHn(a:Int)(b:Str):decide ((zCT a:Key)=zEe b)=false:=decide_eq_false (λ q=>nomatch q)
def aHm(a:Str)(b:Int):decide ((zEe a:Key)=zCT b)=false:=decide_eq_false (λ q=>nomatch q)
def cG(prog:zAO)(w:World):PySem.KeyKind prog w Key where
 is:=ud
 hash:=aJ5 w
 inj:=λ v a b ha hb=>by
  rcases bf ha with ⟨i,t,rfl,rfl⟩|⟨x,t,rfl,rfl⟩
  .rcases bf hb with ⟨j,u,rfl,e⟩|⟨y,u,rfl,e⟩
   .injection e with e1 _;rw[e1]
   .exact nomatch e
  .rcases bf hb with ⟨j,u,rfl,e⟩|⟨y,u,rfl,e⟩
   .exact nomatch e
   .injection e with e1 _;rw[e1]
 byValue:=λ k v h=>by
  rcases bf h with ⟨i,t,rfl,rfl⟩|⟨x,t,rfl,rfl⟩<;>rfl
 pyHash:=λ hv h=>by
  rcases bf hv with ⟨i,t,rfl,rfl⟩|⟨x,t,rfl,rfl⟩
  .exact wpAny_pyHash_int h
  .exact wpAny_pyHash_str h
 eqBool:=λ hu hv h=>by
  rcases bf hu with ⟨i,t,rfl,rfl⟩|⟨x,t,rfl,rfl⟩
  .rcases bf hv with ⟨j,u,rfl,rfl⟩|⟨y,u,rfl,rfl⟩
   .rw[aHo]at h;exact wpAny_eqBool_int h
   .rw[aHn]at h;exact zEr i t y u _ _ _ _ h
  .rcases bf hv with ⟨j,u,rfl,rfl⟩|⟨y,u,rfl,rfl⟩
   .rw[aHm]at h;exact zEs x t j u _ _ _ _ h
   .rw[aHl]at h;exact wpAny_eqBool_str h
 «strs»:=λ k x t v h=>by
  rcases bf h with ⟨i,u,rfl,e⟩|⟨y,u,rfl,e⟩
  .exact nomatch e
  .injection e with e1 _
   subst e1;cases v<;>rfl
def xm(prog:zAO)(w:World)(i:Int)(t:Tok):(cG prog w).is (.inl i) (.int i t)=true:=aB5 i t
def xg(prog:zAO)(w:World)(x:Str)(t:Tok):(cG prog w).is (.inr x) (.str x t)=true:=aB4 x t
inductive V where
 |non|bl (b:Bool)|int (i:Int)|str (x:Str)|byt (b:Array UInt8)|flt (b:UInt64)|ref (a:Addr)|ty (n:String)
 deriving DecidableEq
def RelV:V->Value->Prop
 | .non,u=>u=zBY
 | .bl b,u=>u=zDN b
 | .int i,u=>∃t,u=zDO i t
 | .str x,u=>∃t,u=zFI x t
 | .byt b,u=>∃t,u=Value.bytes b t
 | .flt b,u=>∃t,u=zGb b t
 | .ref a,u=>u=zB0 a
 | .ty n,u=>u=zDA n
abbrev Vals:List V->List Value->Prop:=zGD RelV
theorem Vals.length(r:Vals xs us):xs.length=us.length:=zDu r
theorem Vals.get:∀{xs:List V} {us:List Value} {i:Nat} {x:V},Vals xs us->xs[i]? =some x->∃u,us[i]? =some u/\RelV x u
 |_,_,_,_,.nil,e=>by simp at e
 |_,_,0,_,.cons r _,e=>by simp at e;subst e;exact⟨_,rfl,r⟩
 |_,_,i+1,x,.cons _ t,e=>by
  obtain⟨u,h1,h2⟩:=Vals.get (i:=i) (x:=x) t (by simpa using e);exact⟨u,by simpa using h1,h2⟩
theorem Vals.set(r:RelV x u):∀{xs:List V} {us:List Value} (i:Nat),Vals xs us->Vals (xs.set i x) (us.set i u)
 |_,_,_,.nil=>.nil
 |_,_,0,.cons _ t=>.cons r t
 |_,_,i+1,.cons q t=>.cons q (Vals.set r i t)
theorem Vals.append:∀{xs ys:List V} {us ws:List Value},Vals xs us->Vals ys ws->Vals (xs++ys) (us++ws)
 |_,_,_,_,.nil,s=>s
 |_,_,_,_,.cons r t,s=>.cons r (Vals.append t s)
theorem Vals.take:∀{xs:List V} {us:List Value} (n:Nat),Vals xs us->Vals (xs.take n) (us.take n)
 |_,_,0,_=>.nil
 |_,_,_+1,.nil=>.nil
 |_,_,n+1,.cons r t=>.cons r (Vals.take n t)
theorem Vals.drop:∀{xs:List V} {us:List Value} (n:Nat),Vals xs us->Vals (xs.drop n) (us.drop n)
 |_,_,0,r=>r
 |_,_,_+1,.nil=>.nil
 |_,_,n+1,.cons _ t=>Vals.drop n t
def ni:Option V->Option Value->Prop
 |some v,some u=>RelV v u
 |none,none=>True
 |_,_=>False
def KV{κ:Type}:List (κ×V)->List (κ×Value)->Prop:=zGD λ(p:κ×V) (q:κ×Value)=>p.1=q.1/\RelV p.2 q.2
def kV:Key->V
 | .inl i=>.int i
 | .inr x=>.str x
inductive HO where
 |lst (xs:List V)
 |tup (xs:List V)
 |dK (kvs:List (Key×V))|dT (kvs:List (List Key×V))
 |set (S:Int->Bool) (n:Nat)
 |ins (C dx:Addr) (fs:List (Str×V))
 |own (x:Addr)
 |xd (fs:List (Str×V))
 |met (f x:Addr)
 |rng (lo hi:Int)
 |frz (o:Obj) (u:HO)
 |tbl (q:Str)
 |ext (φ:Heap->Prop)
abbrev Hp:=Addr->Option HO
def upd(H:Hp)(a:Addr)(o:HO):Hp:=λ b=>if b=a then some o else H b
def aa:upd H a o a=some o:=by unfold upd;rw[if_pos rfl]
def aW(h:b≠a):upd H a o b=H b:=by unfold upd;rw[if_neg h]
def aIs{H:Hp}{a b:Addr}{o u:HO}(h:H a=some o)(h':H b=some u)(d:o≠u):a≠b:=by
 intro e;subst e;rw[h]at h';exact d (zAb h')
def bu{H:Hp}{a b:Addr}{o:HO}(h:H a=some o)(h':H b=none):a≠b:=by
 intro e;subst e;rw[h]at h';cases h'
def NoD(h:Heap)(a:Addr):Prop:=∀o,h.get? a=some o->o.dict=none
theorem NoD.push(h:Heap){o:Obj}(hl:o.isFreed=false:=by rfl)(hd:o.dict=none:=by rfl):NoD (h.push o) h.objs.size:=λ u e=>by rw[zAW _ hl]at e;cases e;exact hd
def NoD.keep{h h':Heap}{a:Addr}{o:Obj}(n:NoD h a)(e:h.get? a=some o)(e':h'.get? a=some o):NoD h' a:=λ u q=>by rw[e']at q;cases q;exact n o e
section
variable{H H':Hp}
def aGT(q:Str)(oc:Obj):Prop:=∃vs t,oc.data= .fields vs/\vs[1]? =some (.str q t)
def TabOk(q:Str)(H:Hp)(ps:Array Value):Prop:=TriplesOk ps.toList/\∀pos cv,zEZ pos ps.toList=some cv->∃c' oc,cv= .ref c'/\H c'=some (.frz oc (.own c'))/\aGT q oc
def TabOk.mono(t:TabOk q H ps)(f:∀b o u,H b=some (.frz o u)->H' b=some (.frz o u)):TabOk q H' ps:=⟨t.1,λ pos cv hc=>let⟨c',oc,z,a,b⟩:=t.2 pos cv hc;⟨c',oc,z,f _ _ _ a,b⟩⟩
end
section
variable(P:zAO)(w:World)
def cA(H:Hp)(h:Heap)(a:Addr):HO->Prop
 | .lst xs=>xs.length<=zAN/\∃(its:List Value) (n:Nat),Vals xs its/\h.get? a=some {cls:=.type "list",data:=.seq its.toArray n}
 | .tup xs=>(xs.length<=zAN/\NoD h a)/\∃its:List Value,Vals xs its/\IsTup h a its.toArray
 | .dK kvs=>kvs.length<=zAN/\(a==zCe)=false/\∃vs,KV kvs vs/\h.DictOf (cG P w) a vs
 | .dT kvs=>kvs.length<=zAN/\(a==zCe)=false/\∃xs:List (List Key×Addr×Value),
   zGD (λ(p:List Key×V) (q:List Key×Addr×Value)=>p.1=q.1/\H q.2.1=some (.tup (p.1.map kV))/\RelV p.2 q.2.2) kvs xs/\
   ∃o es ep,h.get? a=some o/\o.ExactDict/\o.data= .dict es ep/\es.toList=xs.map (entryOfKey (zFO (cG P w)))/\(xs.map (·.1)).Nodup
 | .set S n=>h.SetOf (intKind P w) a S n
 | .ins C dx fs=>H dx=some (.own a)/\fs.length<=1000/\dx≠a/\h.get? a=some (zBh C dx)/\
   ∃mA,h.Ns1 dx mA/\(∀f,ni (fs.lookup f) (mA f))/\zG2 mA (fs.map (·.1))
 | .own _=>∃o,h.get? a=some o
 | .xd fs=>∃mA,h.Ns1 a mA/\∀f,ni (fs.lookup f) (mA f)
 | .rng lo hi=>∃t u v,h.get? a=some {cls:=.type "range",data:=.fields #[.int lo t,.int hi u,.int 1 v]}
 | .frz o u=>h.get? a=some o/\cA H h a u
 | .tbl q=>∃ps,h.get? a=some {cls:=.none,data:=.fields ps}/\TabOk q H ps
 | .met f x=>h.get? a=some (zDx (.ref f) (.ref x))
 | .ext φ=>φ h/\(∃o,h.get? a=some o)/\∀h1 h2:Heap,φ h1->(∀o,h1.get? a=some o->h2.get? a=some o)->φ h2
def HOk(H:Hp)(h:Heap):Prop:=∀a o,H a=some o->cA P w H h a o
end
section
variable{P:zAO}{w:World}{H H':Hp}{h h':Heap}{a:Addr}{o:HO}
theorem cA.lt(x:cA P w H h a o):a<h.objs.size:=by
 cases o with
 |lst xs=>obtain⟨_,_,_,_,e⟩:=x;exact zAX e
 |tup xs=>obtain⟨_,_,_,p⟩:=x;exact p.lt
 |dK kvs=>obtain⟨_,_,_,_,o,_,_,e,_⟩:=x;exact zAX e
 |dT kvs=>obtain⟨_,_,_,_,o,_,_,e,_⟩:=x;exact zAX e
 |set S n=>obtain⟨o,_,_,_,e,_⟩:=x;exact zAX e
 |ins C dx fs=>obtain⟨_,_,_,e,_⟩:=x;exact zAX e
 |own y=>obtain⟨_,e⟩:=x;exact zAX e
 |xd fs=>obtain⟨_,⟨_,_,_,e,_⟩,_⟩:=x;exact zAX e
 |rng lo hi=>obtain⟨_,_,_,e⟩:=x;exact zAX e
 |frz ob u=>obtain⟨e,_⟩:=x;exact zAX e
 |tbl q=>obtain⟨ps,e,_⟩:=x;exact zAX e
 |met f y=>exact zAX (show h.get? a=some _ from x)
 |ext φ=>obtain⟨_,⟨_,e⟩,_⟩:=x;exact zAX e
theorem Paired.mapP:∀{l₁:List α} {l₂:List β},zGD F l₁ l₂->(∀a b,F a b->G a b)->zGD G l₁ l₂
 |_,_,.nil,_=>.nil
 |_,_,.cons r t,f=>.cons (f _ _ r) (Paired.mapP t f)
def cA.stay(x:cA P w H h a o)(k:∀b u,(b=a\/H b=some (.own a))->h.get? b=some u->h'.get? b=some u)
  (ho:∀b,H b=some (.own a)->H' b=some (.own a))(ht:∀b xs,H b=some (.tup xs)->H' b=some (.tup xs))(hz:∀b o u,H b=some (.frz o u)->H' b=some (.frz o u):=by exact λ _ _ _ q=>q):cA P w H' h' a o:=by
 induction o with
 |lst xs=>obtain⟨z,its,n,r,e⟩:=x;exact⟨z,its,n,r,k _ _ (.inl rfl) e⟩
 |tup xs=>obtain⟨z,its,r,ob,e,c⟩:=x;exact⟨⟨z.1,z.2.keep e (k _ _ (.inl rfl) e)⟩,its,r,ob,k _ _ (.inl rfl) e,c⟩
 |dK kvs=>obtain⟨z,y,vs,r,ob,es,ep,e,c⟩:=x;exact⟨z,y,vs,r,ob,es,ep,k _ _ (.inl rfl) e,c⟩
 |dT kvs=>
  obtain⟨z,y,xs,r,ob,es,ep,e,c⟩:=x;exact⟨z,y,xs,Paired.mapP r λ p q z=>⟨z.1,ht _ _ z.2.1,z.2.2⟩,ob,es,ep,k _ _ (.inl rfl) e,c⟩
 |set S n=>obtain⟨ob,es,ep,t,e,c⟩:=x;exact⟨ob,es,ep,t,k _ _ (.inl rfl) e,c⟩
 |ins C dx fs=>
  obtain⟨d,z,ne,e,mA,⟨od,es,ep,e2,c⟩,r⟩:=x;exact⟨ho _ d,z,ne,k _ _ (.inl rfl) e,mA,⟨od,es,ep,k _ _ (.inr d) e2,c⟩,r⟩
 |own y=>obtain⟨ob,e⟩:=x;exact⟨ob,k _ _ (.inl rfl) e⟩
 |xd fs=>obtain⟨mA,⟨od,es,ep,e,c⟩,r⟩:=x;exact⟨mA,⟨od,es,ep,k _ _ (.inl rfl) e,c⟩,r⟩
 |rng lo hi=>obtain⟨t,u,v,e⟩:=x;exact⟨t,u,v,k _ _ (.inl rfl) e⟩
 |frz ob u ih=>obtain⟨e,q⟩:=x;exact⟨k _ _ (.inl rfl) e,ih q⟩
 |tbl q=>
  obtain⟨ps,e,t⟩:=x;exact⟨ps,k _ _ (.inl rfl) e,t.mono hz⟩
 |met f y=>
  have e:h.get? a=some (zDx (.ref f) (.ref y)):=x;show h'.get? a=some (zDx (.ref f) (.ref y));exact k a _ (.inl rfl) e
 |ext φ=>obtain⟨p,⟨o,e⟩,st⟩:=x;exact⟨st _ _ p λ o q=>k _ _ (.inl rfl) q,⟨o,k _ _ (.inl rfl) e⟩,st⟩
theorem HOk.lt(x:HOk P w H h)(e:H a=some o):a<h.objs.size:=(x a o e).lt
def HOk.fresh(x:HOk P w H h)(e:h.objs.size<=a):H a=none:=by
 cases q:H a with
 |none=>rfl
 |some u=>exact absurd (zAY (x.lt q) e) (zBe _)
def HOk.kept(x:HOk P w H h)(k:∀b u,h.get? b=some u->h'.get? b=some u):HOk P w H h':=λ a o e=>
 (x a o e).stay (λ b u _ q=>k b u q) (λ _ q=>q) λ _ _ q=>q
def HOk.laid(x:HOk P w H h)(k:∀b u,h.get? b=some u->h'.get? b=some u)(hp:h.objs.size<=a)(new:cA P w (upd H a o) h' a o):HOk P w (upd H a o) h':=λ b u e=>by
 have hn:=x.fresh hp;by_cases hb:b=a
 .subst hb;rw[aa]at e;cases e;exact new
 .rw[aW hb]at e
  exact(x b u e).stay (λ c v _ q=>k c v q) (λ c q=>by rw[aW (bu q hn)];exact q) (λ c xs q=>by rw[aW (bu q hn)];exact q) λ c o' u' q=>by rw[aW (bu q hn)];exact q
end
def Rd(H:Hp)(a:Addr)(u:HO):Prop:=H a=some u\/∃o,H a=some (.frz o u)
def Rd.ok(r:Rd H a u)(x:HOk P w H h):cA P w H h a u:=by
 rcases r with r|⟨o,r⟩
 .exact x a u r
 .obtain⟨_,q⟩:=x a _ r
  exact q
def Mut:Option HO->Prop
 |some (.lst _)=>True
 |some (.dK _)=>True
 |some (.dT _)=>True
 |some (.set _ _)=>True
 |some (.ins _ _ _)=>True
 |some (.ext _)=>True
 |_=>False
section
variable{P:zAO}{w:World}{H:Hp}{h h':Heap}{x e:Addr}{o':HO}
def HOk.write(ok:HOk P w H h)(mu:Mut (H x))(he:e=x\/H e=some (.own x))(k:∀b u,b≠e->h.get? b=some u->h'.get? b=some u)(heo:∃u,h'.get? e=some u)
  (new:cA P w (upd H x o') h' x o'):HOk P w (upd H x o') h':=λ b u q=>by
 have nown:∀c y,H c=some (.own y)->c≠x:=λ c y r z=>by subst z;rw[r]at mu;exact mu
 have ntup:∀c xs,H c=some (.tup xs)->c≠x:=λ c xs r z=>by subst z;rw[r]at mu;exact mu
 by_cases hb:b=x
 .subst hb;rw[aa]at q;cases q;exact new
 .rw[aW hb]at q
  by_cases hbe:b=e
  .have q':H b=some (.own x):=by
    rcases he with z|z
    .exact absurd (hbe.trans z) hb
    .rw[hbe];exact z
   rw[q]at q';cases q';obtain⟨v,hv⟩:=heo;exact⟨v,by rw[hbe];exact hv⟩
  .refine(ok b u q).stay (λ c v hc r=>k c v ?_ r) (λ c r=>by rw[aW (nown c b r)];exact r) (λ c xs r=>by rw[aW (ntup c xs r)];exact r) λ c o2 u2 r=>by rw[aW λ z=>by subst z;rw[r]at mu;exact mu];exact r
   rcases hc with rfl|hc
   .exact hbe
   .rintro rfl
    rcases he with z|z
    .exact nown c b hc z
    .rw[hc]at z;cases z;exact hb rfl
end
structure Un(fs ex:List Addr)(H H':Hp)(h h':Heap):Prop where
 keep:∀b o,h.get? b=some o->H b=none->b∉fs->b∉ex->h'.get? b=some o
 slot:∀b o,h.get? b=some o->H b=none->b∈fs->b∉ex->∃sl,h'.get? b=some {o with slots:=sl}
 free:∀b o,h.get? b=some o->H b=none->b∉ex->H' b=none
 there:∀b o,h.get? b=some o->b∉ex->∃o',h'.get? b=some o'
 tups:∀b xs,H b=some (.tup xs)->H' b=some (.tup xs)
 frzs:∀b o u,H b=some (.frz o u)->H' b=some (.frz o u)
 tbls:∀b q,H b=some (.tbl q)->H' b=some (.tbl q)
section
variable{fs ex:List Addr}{H H1:Hp}{h h1 h':Heap}{a x e:Addr}{o:HO}
def Un.any(u:Un fs ex H H1 h h1)(q:h.get? b=some ob)(n:H b=none)(hx:b∉ex):∃sl,h1.get? b=some {ob with slots:=sl}:=by
 by_cases hb:b∈fs
 .exact u.slot b ob q n hb hx
 .exact⟨ob.slots,u.keep b ob q n hb hx⟩
def Un.kept(k:∀b u,h.get? b=some u->h'.get? b=some u):Un fs ex H H h h':=
 ⟨λ b ob q _ _ _=>k b ob q,λ b ob q _ _ _=>⟨ob.slots,k b ob q⟩,λ _ _ _ n _=>n,λ b ob q _=>⟨ob,k b ob q⟩,λ _ _ q=>q,λ _ _ _ q=>q,λ _ _ q=>q⟩
def Un.refl:Un fs ex H H h h:=Un.kept λ _ _ q=>q
def Un.laid(k:∀b u,h.get? b=some u->h'.get? b=some u)(hp:h.objs.size<=a)(hn:H a=none):Un fs ex H (upd H a o) h h' where
 keep:=λ b u q _ _ _=>k b u q
 slot:=λ b u q _ _ _=>⟨u.slots,k b u q⟩
 free:=λ b u q n _=>by rw[aW (zA5 (zAY (zAX q) hp))];exact n
 there:=λ b u q _=>⟨u,k b u q⟩
 tups:=λ b xs q=>by rw[aW (bu q hn)];exact q
 frzs:=λ b u xs q=>by rw[aW (bu q hn)];exact q
 tbls:=λ b r q=>by rw[aW (bu q hn)];exact q
def Un.write(mu:Mut (H x))(he:e=x\/H e=some (.own x))(k:∀b u,b≠e->h.get? b=some u->h'.get? b=some u)(heo:∃u,h'.get? e=some u):Un fs ex H (upd H x o) h h':=by
 have hx:∀b,H b=none->b≠x:=λ b n z=>by subst z;rw[n]at mu;exact mu
 have hb:∀b,H b=none->b≠e:=λ b n z=>by
  subst z;rcases he with r|r
  .exact hx b n r
  .rw[n]at r;cases r
 have hm:∀b u,H b=some u->¬Mut (some u)->b≠x:=λ b u q nm z=>by subst z;rw[q]at mu;exact nm mu
 refine⟨λ b u q n _ _=>k b u (hb b n) q,λ b u q n _ _=>⟨u.slots,k b u (hb b n) q⟩,λ b u q n _=>by rw[aW (hx b n)];exact n,λ b u q _=>?_,
  λ b xs q=>by rw[aW (hm b _ q λ z=>z)];exact q,λ b u xs q=>by rw[aW (hm b _ q λ z=>z)];exact q,λ b r q=>by rw[aW (hm b _ q λ z=>z)];exact q⟩
 by_cases hbe:b=e
 .subst hbe;exact heo
 .exact⟨u,k b u hbe q⟩
end
def trk(h:Heap)(H:Hp):List Addr:=(zAp h.objs.size).filter λ a=>(H a).isSome
def uH(h:Heap)(H:Hp):Heap:=zCv h (trk h H)
def aBa(h:Heap)(H:Hp):(uH h H).objs.size=h.objs.size:=PySem.W.hideAll_size _ _
def aDR(e:h.get? b=some o)(n:H b=none):(uH h H).get? b=some o:=
 zCw _ e λ hm=>by
  have q:(H b).isSome=true:=(zAl.mp hm).2;rw[n]at q;simp at q
def aEw(e:(uH h H).get? b=some o):h.get? b=some o/\H b=none:=by
 have e':h.get? b=some o:=zFY (trk h H) e;refine⟨e',?_⟩;cases q:H b with
 |none=>rfl
 |some x=>
  have hm:b∈trk h H:=zAl.mpr ⟨zCh.mpr (zAX e'),by simp[q]⟩;have z:(uH h H).get? b=none:=PySem.W.hideAll_none (trk h H) hm;rw[z]at e;cases e
def aFc(g h:Heap)(L:Addr):hZ:=(zAp h.objs.size).filterMap λ a=>if a=L\/(g.get? a).isSome=true then none else(h.get? a).map λ o=>(a,o)
def rest(g h:Heap)(L d:Addr):hZ:=(aFc g h L).filter λ p=>decide (p.1≠d)
structure Mod(K:zAA)(mg:Str->Option Value)(base:Heap):Prop where
 kin:K.In base
 glob:base.Ns zA4 mg
 blt:∃mb,base.Ns zGd mb/\∀x:Str,x≠"__name__"->mb x=zAj x
 nolimit:base.NoLimit
structure Cx where
 prog:zAO
 w:World
 K:zAA
 mg:Str->Option Value
 base:Heap
 A:zA3
 N:List Str
 z5:zAC
 zS:Hp
 env:Env
 outer:List Env
 stack:List Env
 ex:List Addr
 fn:Str->Bool
 calm:Bool
 pn:hZ
 xe:Value->zAC->Prop
 ta:hZ:=[]
 tq:Str:=""
def frs(l:List Env):List Addr:=l.filterMap (·.frame)
abbrev Cx.fs(X:Cx):List Addr:=frs X.outer
def Vis(sc:Scope)(x:Str):Prop:=sc.names.lookup x=some .local\/sc.names.lookup x=some .cell\/sc.names.lookup x=some .free
def Loc(sc:Scope)(x:Str):Prop:=sc.names.lookup x=some .local\/sc.names.lookup x=some .cell
def Look(env:Env)(h:Heap)(m:Str->Option Value)(x:Str)(u:Value):Prop:=
 (env.kindOf x=some .local/\m x=some u)\/((env.kindOf x=some .cell\/env.kindOf x=some .free)/\∃c,env.cells.lookup x=some c/\h.IsCell c (some u))
structure Cx.Ok(X:Cx):Prop where
 mod:Mod X.K X.mg X.base
 kind:X.env.scope.kind= .function
 glob:X.env.globals=zA4
 blt:X.env.builtins=zGd
 above:X.z5.heap.objs.size<=X.env.locals
 inj:∀x y c,X.env.cells.lookup x=some c->X.env.cells.lookup y=some c->x=y
 has:∀x,(X.env.kindOf x=some .cell\/X.env.kindOf x=some .free)->∃c,X.env.cells.lookup x=some c
 cab:∀x c,X.fn x=true->X.env.cells.lookup x=some c->X.z5.heap.objs.size<=c
 hd:X.calm=true->X.A.handled=none
 frames:X.A.frames=some X.stack
 stk:X.stack=X.outer\/(X.stack=X.env::X.outer/\X.env.frame=some X.env.locals)
 exf:∀b∈X.ex,b≠X.env.locals/\∀x c,X.env.cells.lookup x=some c->c≠b
 bs:∀b o,X.base.get? b=some o->X.z5.heap.get? b=some o/\X.zS b=none
 bsz:X.base.objs.size<=X.z5.heap.objs.size
 noex:∀b o,X.base.get? b=some o->b∉X.ex
 exfs:∀b∈X.ex,b∉X.fs
 funs:X.z5.heap.FunFrames X.base X.outer
 frf:∀b∈X.fs,X.zS b=none
structure Inv(X:Cx)(hV:hZ)(Z:List (Option V))(H:Hp)(s:zAC):Prop where
 ok:X.Ok
 os:s.os=X.z5.os
 bare:zDv s.gens
 base:Un X.fs X.ex X.zS H X.z5.heap s.heap
 loc:∃m,s.heap.Ns X.env.locals m/\∀(i:Nat) (x:Str) (v:V),X.N[i]? =some x->Z[i]? =some (some v)->Vis X.env.scope x->∃u,RelV v u/\Look X.env s.heap m x u
 cell:∀x c,X.env.cells.lookup x=some c->∃v,s.heap.IsCell c v
 free:H X.env.locals=none
 freeC:∀x c,X.env.cells.lookup x=some c->H c=none
 pin:∀p∈X.pn++hV,s.heap.get? p.1=some p.2/\H p.1=none/\p.1≠X.env.locals/\p.1∉X.fs/\∀v,p.2.data≠.cell v
 hok:HOk X.prog X.w H s.heap
 len:Z.length=X.N.length
 tab:∀p∈X.ta,H p.1=none/\p.1≠X.env.locals/\p.1∉X.fs/\(∀q∈X.pn++hV,q.1≠p.1)/\∃ps,s.heap.get? p.1=some {cls:=.none,data:=.fields ps}/\TabOk X.tq H ps
section
variable{X:Cx}{hV:hZ}{Z:List (Option V)}{H H':Hp}{s:zAC}{h':Heap}
def Cx.Ok.nofr(ok:X.Ok)(e:X.base.get? b=some o):b∉X.fs:=λ hb=>by
 have:=(ok.funs.mem hb).1
 rw[e]at this;cases this
theorem Inv.bs(I:Inv X hV Z H s):∀b o,X.base.get? b=some o->s.heap.get? b=some o/\H b=none:=λ b o e=>
 ⟨I.base.keep b o (I.ok.bs b o e).1 (I.ok.bs b o e).2 (I.ok.nofr e) (I.ok.noex b o e),I.base.free b o (I.ok.bs b o e).1 (I.ok.bs b o e).2 (I.ok.noex b o e)⟩
def Inv.bk(I:Inv X hV Z H s):∀b o,X.base.get? b=some o->s.heap.get? b=some o:=λ b o e=>(I.bs b o e).1
theorem Inv.mod(I:Inv X hV Z H s):Mod X.K X.mg X.base:=I.ok.mod
def Inv.kIn(I:Inv X hV Z H s):X.K.In s.heap:=I.ok.mod.kin.keeps I.bk
def Inv.fr(I:Inv X hV Z H s):∃m,Fr X.base X.env.locals s.heap m:=
 let⟨m,hn,_⟩:=I.loc
 ⟨m,hn,I.bk,zAi I.ok.bsz I.ok.above⟩
theorem Inv.lt(I:Inv X hV Z H s):X.env.locals<s.heap.objs.size:=let⟨_,hn,_⟩:=I.loc;hn.lt
def Inv.sz(I:Inv X hV Z H s):X.z5.heap.objs.size<=s.heap.objs.size:=zAi I.ok.above (zBd I.lt)
def Inv.nofs(I:Inv X hV Z H s)(h:s.heap.objs.size<=a):a∉X.fs:=λ hb=>by
 obtain⟨_,o,ho,_⟩:=I.ok.funs.mem hb;exact absurd (zAY (zAX ho) (zAi I.sz h)) (zBe _)
def Inv.cne(I:Inv X hV Z H s):∀x c,X.env.cells.lookup x=some c->c≠X.env.locals:=λ x c e z=>by
 obtain⟨v,o,ho,hd⟩:=I.cell x c e;obtain⟨m,⟨o',es,ep,ho',hd',_⟩,_⟩:=I.loc;rw[z,ho']at ho;cases ho;rw[hd']at hd;cases hd
theorem Inv.funs(I:Inv X hV Z H s):s.heap.FunFrames X.base X.outer:=by
 have all:∀(l:List Env),(∀b∈frs l,b∈X.fs)->X.z5.heap.FunFrames X.base l->s.heap.FunFrames X.base l:=by
  intro l;induction l with
  |nil=>intro _ _;trivial
  |cons env r ih=>
   intro hs hl;obtain⟨hk,⟨L,o,hf,hn,ho,hd⟩,hr⟩:=hl;have hL:L∈X.fs:=hs L (by unfold frs;rw[zBq,hf];exact zAP);obtain⟨sl,e⟩:=I.base.slot L o ho (I.ok.frf L hL) hL λ z=>I.ok.exfs L z hL
   exact⟨hk,⟨L,_,hf,hn,e,hd⟩,ih (λ b hb=>hs b (by unfold frs;rw[zBq,hf];exact zAK _ hb)) hr⟩
 exact all X.outer (λ _ hb=>hb) I.ok.funs
theorem Inv.stack(I:Inv X hV Z H s):s.heap.FunFrames X.base X.stack:=by
 rcases I.ok.stk with e|⟨e,hf⟩
 .rw[e];exact I.funs
 .rw[e]
  obtain⟨m,hn,_⟩:=I.loc;refine .cons (by rw[I.ok.kind];decide) hf hn ?_ I.funs;exact Heap.get?_none_of_le (zAi I.ok.bsz I.ok.above)
def Inv.stkSub(I:Inv X hV Z H s):∀b∈frs X.stack,b∈X.env.locals::X.fs:=λ b hb=>by
 rcases I.ok.stk with e|⟨e,hf⟩
 .rw[e]at hb;exact zAK _ hb
 .rw[e]at hb
  unfold frs at hb;rw[zBq,hf]at hb;exact hb
def Inv.stkFree(I:Inv X hV Z H s):∀b∈frs X.stack,H b=none:=λ b hb=>by
 rcases zAV.mp (I.stkSub b hb)with e|hb
 .rw[e];exact I.free
 .obtain⟨_,o,ho,_⟩:=I.ok.funs.mem hb
  exact I.base.free b o ho (I.ok.frf b hb) λ z=>I.ok.exfs b z hb
def Inv.step{g':Array zC8}{t':Nat}{d':Drawn}{ch:List Addr}(I:Inv X hV Z H s)
  (hch:∀b∈ch,(b∈X.ex\/X.z5.heap.objs.size<=b)/\b≠X.env.locals/\(∀x c,X.env.cells.lookup x=some c->c≠b)/\∀p∈X.ta++(X.pn++hV),p.1≠b)
  (keep:∀b o,b≠X.env.locals->b∉X.fs->b∉ch->s.heap.get? b=some o->H b=none->h'.get? b=some o)
  (slot:∀b o,b≠X.env.locals->b∈X.fs->b∉ch->s.heap.get? b=some o->H b=none->∃sl,h'.get? b=some {o with slots:=sl})(free:∀b o,b∉ch->s.heap.get? b=some o->H b=none->H' b=none)
  (there:∀b o,b∉ch->s.heap.get? b=some o->∃o',h'.get? b=some o')
  (tups:∀b xs,H b=some (.tup xs)->H' b=some (.tup xs))(frzs:∀b o u,H b=some (.frz o u)->H' b=some (.frz o u))(tbls:∀b q,H b=some (.tbl q)->H' b=some (.tbl q))
  (ns:∀m,s.heap.Ns X.env.locals m->h'.Ns X.env.locals m)(hok:HOk X.prog X.w H' h')(hg:zDv g'):
  Inv X hV Z H' {s with heap:=h',gens:=g',drawn:=d',toks:=t'}:=by
 have neL:∀b o,X.z5.heap.get? b=some o->b≠X.env.locals:=λ b o e=>zA5 (zAY (zAX e) I.ok.above)
 have neC:∀b o,X.z5.heap.get? b=some o->b∉X.ex->b∉ch:=λ b o e hx hb=>by
  rcases(hch b hb).1 with z|z
  .exact hx z
  .exact absurd (zAY (zAX e) z) (zBe _)
 have cK:∀x c,X.env.cells.lookup x=some c->∀v,s.heap.IsCell c v->h'.IsCell c v:=λ x c e v ⟨o,ho,hd⟩=>by
  have nch:c∉ch:=λ z=>(hch c z).2.2.1 x c e rfl
  by_cases hc:c∈X.fs
  .obtain⟨sl,q⟩:=slot c o (I.cne x c e) hc nch ho (I.freeC x c e)
   exact⟨_,q,hd⟩
  .exact⟨o,keep c o (I.cne x c e) hc nch ho (I.freeC x c e),hd⟩
 refine⟨I.ok,I.os,hg,⟨λ b o e n hb hx=>?_,λ b o e n hb hx=>?_,λ b o e n hx=>?_,λ b o e hx=>?_,λ b xs e=>tups b xs (I.base.tups b xs e),λ b o xs e=>frzs b o xs (I.base.frzs b o xs e),λ b q e=>tbls b q (I.base.tbls b q e)⟩,?_,λ x c e=>?_,?_,λ x c e=>?_,λ p hp=>?_,hok,I.len,λ p hp=>?_⟩
 .exact keep b o (neL b o e) hb (neC b o e hx) (I.base.keep b o e n hb hx) (I.base.free b o e n hx)
 .obtain⟨sl,e1⟩:=I.base.slot b o e n hb hx
  obtain⟨sl',e2⟩:=slot b _ (neL b o e) hb (neC b o e hx) e1 (I.base.free b o e n hx);exact⟨sl',e2⟩
 .obtain⟨o',e1⟩:=I.base.there b o e hx
  exact free b o' (neC b o e hx) e1 (I.base.free b o e n hx)
 .obtain⟨o',e1⟩:=I.base.there b o e hx
  exact there b o' (neC b o e hx) e1
 .obtain⟨m,hn,hl⟩:=I.loc
  refine⟨m,ns m hn,λ i x v e1 e2 e3=>?_⟩;obtain⟨u,r,l⟩:=hl i x v e1 e2 e3;refine⟨u,r,?_⟩;rcases l with l|⟨k,c,e,z⟩
  .exact .inl l
  .exact .inr ⟨k,c,e,cK x c e _ z⟩
 .obtain⟨v,z⟩:=I.cell x c e
  exact⟨v,cK x c e v z⟩
 .obtain⟨m,⟨o,_,_,ho,_⟩,_⟩:=I.loc
  exact free _ o (λ z=>(hch _ z).2.1 rfl) ho I.free
 .obtain⟨v,o,ho,hd⟩:=I.cell x c e
  exact free c o (λ z=>(hch c z).2.2.1 x c e rfl) ho (I.freeC x c e)
 .obtain⟨e,n,ne,nf,d⟩:=I.pin p hp
  have nch:p.1∉ch:=λ z=>(hch p.1 z).2.2.2 p (zAR _ hp) rfl
  exact⟨keep p.1 p.2 ne nf nch e n,free p.1 p.2 nch e n,ne,nf,d⟩
 .obtain⟨n,ne,nf,np,ps,e,t⟩:=I.tab p hp
  have nch:p.1∉ch:=λ z=>(hch p.1 z).2.2.2 p (zAh _ hp) rfl
  exact⟨free p.1 _ nch e n,ne,nf,np,ps,keep p.1 _ ne nf nch e n,t.mono frzs⟩
def Inv.pinL(I:Inv X hV Z H s)(hp:p∈X.ta++(X.pn++hV)):p.1<s.heap.objs.size:=by
 rcases zAe.mp hp with z|z
 .obtain⟨_,_,_,_,_,e,_⟩:=I.tab p z
  exact zAX e
 .exact zAX (I.pin p z).1
def Inv.un{t':Nat}(I:Inv X hV Z H s)(u:Un X.fs [] H H' s.heap h')(hok:HOk X.prog X.w H' h'):Inv X hV Z H' {s with heap:=h',toks:=t'}:=by
 obtain⟨m,⟨o,es,ep,ho,r⟩,_⟩:=id I.loc;obtain⟨sl,hL⟩:=u.any ho I.free (by simp);exact I.step (g':=s.gens) (d':=s.drawn) (ch:=[]) (λ _ z=>nomatch z) (λ b o _ hb _ e n=>u.keep b o e n hb (by simp)) (λ b o _ hb _ e n=>u.slot b o e n hb (by simp)) (λ b o _ e n=>u.free b o e n (by simp)) (λ b o _ e=>u.there b o e (by simp)) u.tups u.frzs u.tbls (λ m' hm=>by
  obtain⟨o',es',ep',ho',r'⟩:=hm;rw[ho]at ho';cases ho';exact⟨_,es',ep',hL,r'⟩) hok I.bare
def Inv.call{g':Array zC8}{t':Nat}{d':Drawn}{ch:List Addr}(I:Inv X hV Z H s)(u:Un (frs X.stack) ch H H' s.heap h')(hok:HOk X.prog X.w H' h')(hg:zDv g')
  (hch:∀b∈ch,(b∈X.ex\/X.z5.heap.objs.size<=b)/\b≠X.env.locals/\(∀x c,X.env.cells.lookup x=some c->c≠b)/\∀p∈X.ta++(X.pn++hV),p.1≠b):
  Inv X hV Z H' {s with heap:=h',gens:=g',drawn:=d',toks:=t'}:=by
 obtain⟨m,⟨o,es,ep,ho,r⟩,_⟩:=id I.loc;obtain⟨sl,hL⟩:=u.any ho I.free λ z=>(hch _ z).2.1 rfl
 exact I.step (ch:=ch) hch (λ b o hL hb hc e n=>u.keep b o e n (λ z=>(zAV.mp (I.stkSub b z)).elim hL hb) hc) (λ b o _ _ hc e n=>u.any e n hc) (λ b o hc e n=>u.free b o e n hc) (λ b o hc e=>u.there b o e hc) u.tups u.frzs u.tbls (λ m' hm=>by
  obtain⟨o',es',ep',ho',r'⟩:=hm;rw[ho]at ho';cases ho';exact⟨_,es',ep',hL,r'⟩) hok hg
def Inv.turned{t':Nat}{it:Addr}(I:Inv X hV Z H s)(k:∀b o,b≠it->s.heap.get? b=some o->h'.get? b=some o)(hn:H it=none)(hL:it≠X.env.locals)
  (h1:it∈X.ex\/X.z5.heap.objs.size<=it)(h2:∀x c,X.env.cells.lookup x=some c->c≠it)(h3:∀p∈X.ta++(X.pn++hV),p.1≠it):Inv X hV Z H {s with heap:=h',toks:=t'}:=by
 have nit:∀b u,H b=some u->b≠it:=λ b u e z=>by rw[z,hn]at e;cases e
 refine I.step (g':=s.gens) (d':=s.drawn) (ch:=[it]) (λ b hb=>?_) (λ b o _ _ hc e _=>k b o (λ z=>hc (by simp[z])) e) (λ b o _ _ hc e _=>⟨o.slots,k b o (λ z=>hc (by simp[z])) e⟩) (λ _ _ _ _ n=>n)
  (λ b o hc e=>⟨o,k b o (λ z=>hc (by simp[z])) e⟩) (λ _ _ e=>e) (λ _ _ _ e=>e) (λ _ _ e=>e) (λ m hm=>?_) (λ b u e=>?_) I.bare
 .have e:b=it:=by simpa using hb
  subst e;exact⟨h1,hL,h2,h3⟩
 .obtain⟨o,es,ep,ho,r⟩:=hm
  exact⟨o,es,ep,k _ o (zDT hL) ho,r⟩
 .refine(I.hok b u e).stay (λ c v hc q=>k c v ?_ q) (λ _ q=>q) λ _ _ q=>q
  rcases hc with z|z
  .rw[z];exact nit b u e
  .exact nit c _ z
def Inv.tok(I:Inv X hV Z H s)(t:Nat):Inv X hV Z H {s with toks:=t}:=I.un (h':=s.heap) (t':=t) Un.refl I.hok
theorem Inv.kept(I:Inv X hV Z H s)(k:∀b u,s.heap.get? b=some u->h'.get? b=some u):Inv X hV Z H {s with heap:=h',toks:=t'}:=I.un (Un.kept k) (I.hok.kept k)
theorem Inv.laid(I:Inv X hV Z H s)(k:∀b u,s.heap.get? b=some u->h'.get? b=some u)(hp:s.heap.objs.size<=a)(new:cA X.prog X.w (upd H a o) h' a o):
  Inv X hV Z (upd H a o) {s with heap:=h',toks:=t'}:=I.un (Un.laid k hp (I.hok.fresh hp)) (I.hok.laid k hp new)
theorem Inv.write(I:Inv X hV Z H s)(mu:Mut (H x))(he:e=x\/H e=some (.own x))(k:∀b u,b≠e->s.heap.get? b=some u->h'.get? b=some u)(heo:∃u,h'.get? e=some u)
  (new:cA X.prog X.w (upd H x o) h' x o):Inv X hV Z (upd H x o) {s with heap:=h',toks:=t'}:=I.un (Un.write mu he k heo) (I.hok.write mu he k heo new)
def Inv.weak(I:Inv X hV Z H s)(hl:Z'.length=Z.length)(w:∀(i:Nat) v,Z'[i]? =some (some v)->Z[i]? =some (some v)):Inv X hV Z' H s:=
 ⟨I.ok,I.os,I.bare,I.base,let⟨m,hn,hl'⟩:=I.loc;⟨m,hn,λ i x v e1 e2 e3=>hl' i x v e1 (w i v e2) e3⟩,I.cell,I.free,I.freeC,I.pin,I.hok,hl.trans I.len,I.tab⟩
def Inv.pins_of(I:Inv X hV Z H s)(h:∀p∈pins',s.heap.get? p.1=some p.2/\H p.1=none/\p.1≠X.env.locals/\p.1∉X.fs/\∀v,p.2.data≠.cell v)(h2:∀q∈pins',∀p∈X.ta,q.1≠p.1):Inv X pins' Z H s:=
 ⟨I.ok,I.os,I.bare,I.base,I.loc,I.cell,I.free,I.freeC,λ p hp=>(zAe.mp hp).elim (λ z=>I.pin p (zAh _ z)) (h p),I.hok,I.len,λ p hp=>let⟨a,b,c,d,e⟩:=I.tab p hp;⟨a,b,c,λ q hq=>(zAe.mp hq).elim (λ z=>d q (zAh _ z)) (λ z=>h2 q z p hp),e⟩⟩
def xW{N:List Str}(hN:N.Nodup){i j:Nat}{x:Str}(a:N[i]? =some x)(b:N[j]? =some x):i=j:=by
 obtain⟨h1,e1⟩:=zAM.mp a;obtain⟨h2,e2⟩:=zAM.mp b;exact(List.getElem_inj hN).mp (e1.trans e2.symm)
def uQ{M:Model}{A:zA3}{E:Value->zAC->Prop}{i:Nat}{x:Str}{v:V}{u:Value}{Q:Unit->zAC->Prop}(I:Inv X hV Z H s)(hN:X.N.Nodup)(hi:X.N[i]? =some x)(hx:Loc X.env.scope x)(r:RelV v u)
  (h:∀s',Inv X hV (Z.set i (some v)) H s'->(∃a,zFT a s.heap s'.heap/\(a=X.env.locals\/X.env.cells.lookup x=some a))->Q () s')(hf:X.fn x=true\/X.env.scope.names.lookup x=some .local:=by first|exact .inl rfl|exact .inr rfl|assumption):wpAny M A (storeName X.env x u) Q E s:=by
 obtain⟨m,hn,hl⟩:=id I.loc;have hcls:(X.env.scope.kind== .class||(X.env.scope.kind== .module&&X.env.locals !=X.env.globals))=false:=by rw[I.ok.kind];rfl
 have hiZ:i<Z.length:=by rw[I.len];exact(zAM.mp hi).1
 have cne:=I.cne;have aT:∀{a:Addr} {h':Heap},(∃o,s.heap.get? a=some o/\H a=none)->zFT a s.heap h'->HOk X.prog X.w H h':=λ{a h'} ha hs b ob e=>by
  obtain⟨_,_,hfree⟩:=ha;refine(I.hok b ob e).stay (λ c w' hc q=>(hs.2 c ?_).trans q) (λ _ q=>q) λ _ _ q=>q
  rintro rfl;rcases hc with rfl|hc
  .rw[hfree]at e;cases e
  .rw[hfree]at hc;cases hc
 rcases hx with hk|hk
 .refine wpAny_storeName_local hk hn (λ h' hn' hs=>?_) hcls
  obtain⟨oL,_,_,hoL,_⟩:=id hn;refine h _ ⟨I.ok,I.os,I.bare,⟨λ b o e n hb hx=>?_,λ b o e n hb hx=>?_,I.base.free,λ b o e hx=>?_,I.base.tups,I.base.frzs,I.base.tbls⟩,⟨_,hn',λ j y v' e1 e2 e3=>?_⟩,λ y c e=>?_,I.free,I.freeC,λ p hp=>?_,aT ⟨oL,hoL,I.free⟩ hs,by simpa using I.len,λ p hp=>?_⟩ ⟨_,hs,.inl rfl⟩
  .exact(hs.2 b (zA5 (zAY (zAX e) I.ok.above))).trans (I.base.keep b o e n hb hx)
  .obtain⟨sl,e1⟩:=I.base.slot b o e n hb hx
   exact⟨sl,(hs.2 b (zA5 (zAY (zAX e) I.ok.above))).trans e1⟩
  .obtain⟨o',e1⟩:=I.base.there b o e hx
   exact⟨o',(hs.2 b (zA5 (zAY (zAX e) I.ok.above))).trans e1⟩
  .by_cases hj:j=i
   .subst hj
    rw[hi]at e1;cases e1;rw[zBE hiZ]at e2;cases e2;exact⟨u,r,.inl ⟨hk,by simp⟩⟩
   .rw[zBC (zDT hj)]at e2
    obtain⟨u',r',q⟩:=hl j y v' e1 e2 e3;refine⟨u',r',?_⟩;rcases q with ⟨k,e⟩|⟨k,c,e,z⟩
    .refine .inl ⟨k,?_⟩
     have:y≠x:=λ e=>hj (xW hN e1 (e▸hi))
     simp[this,e]
    .exact .inr ⟨k,c,e,z.sameBut hs (cne y c e)⟩
  .obtain⟨w',z⟩:=I.cell y c e
   exact⟨w',z.sameBut hs (cne y c e)⟩
  .obtain⟨e,n,ne,nf,d⟩:=I.pin p hp
   exact⟨(hs.2 p.1 ne).trans e,n,ne,nf,d⟩
  .obtain⟨n,ne,nf,np,ps,e,t⟩:=I.tab p hp
   exact⟨n,ne,nf,np,ps,(hs.2 p.1 ne).trans e,t⟩
 .have hfn:X.fn x=true:=by
   rcases hf with z|z
   .exact z
   .rw[z]at hk;cases hk
  obtain⟨c,hc⟩:=I.ok.has x (.inl hk);obtain⟨w',z⟩:=I.cell x c hc;refine wpAny_storeName_cell I.ok.kind hk hc z (λ h' hc' hs=>?_);obtain⟨oc,hoc,hocd⟩:=id z;refine h {s with heap:=h'} ⟨I.ok,I.os,I.bare,⟨λ b o e n hb hx=>?_,λ b o e n hb hx=>?_,I.base.free,λ b o e hx=>?_,I.base.tups,I.base.frzs,I.base.tbls⟩,⟨m,hn.sameBut hs (zDT (cne x c hc)),λ j y v' e1 e2 e3=>?_⟩,λ y c' e=>?_,I.free,I.freeC,λ p hp=>?_,aT ⟨oc,hoc,I.freeC x c hc⟩ hs,by simpa using I.len,λ p hp=>?_⟩ ⟨c,hs,.inr hc⟩
  .exact(hs.2 b (zA5 (zAY (zAX e) (I.ok.cab x c hfn hc)))).trans (I.base.keep b o e n hb hx)
  .obtain⟨sl,e1⟩:=I.base.slot b o e n hb hx
   exact⟨sl,(hs.2 b (zA5 (zAY (zAX e) (I.ok.cab x c hfn hc)))).trans e1⟩
  .obtain⟨o',e1⟩:=I.base.there b o e hx
   exact⟨o',(hs.2 b (zA5 (zAY (zAX e) (I.ok.cab x c hfn hc)))).trans e1⟩
  .by_cases hj:j=i
   .subst hj
    rw[hi]at e1;cases e1;rw[zBE hiZ]at e2;cases e2;exact⟨u,r,.inr ⟨.inl hk,c,hc,hc'⟩⟩
   .rw[zBC (zDT hj)]at e2
    obtain⟨u',r',q⟩:=hl j y v' e1 e2 e3;refine⟨u',r',?_⟩;rcases q with q|⟨k,c',e,z'⟩
    .exact .inl q
    .refine .inr ⟨k,c',e,z'.sameBut hs ?_⟩
     rintro rfl;exact hj (xW hN e1 (I.ok.inj _ _ _ e hc▸hi))
  .by_cases hcc:c'=c
   .subst hcc;exact⟨_,hc'⟩
   .obtain⟨w2,z2⟩:=I.cell y c' e
    exact⟨w2,z2.sameBut hs hcc⟩
  .obtain⟨e,n,ne,nf,d⟩:=I.pin p hp
   refine⟨(hs.2 p.1 ?_).trans e,n,ne,nf,d⟩;intro q;rw[q,hoc]at e;have q':oc=p.2:=zAb e;exact d w' (by rw[<-q'];exact hocd)
  .obtain⟨n,ne,nf,np,ps,e,t⟩:=I.tab p hp
   refine⟨n,ne,nf,np,ps,(hs.2 p.1 ?_).trans e,t⟩;intro q;rw[q,hoc]at e;rw[zAb e]at hocd;cases hocd
def wY(I:Inv X hV Z H s)(hN:X.N.Nodup)(hi:X.N[i]? =some x)(hx:Loc X.env.scope x)(r:RelV v u)
  (h:∀s',Inv X hV (Z.set i (some v)) H s'->Q () s')(hf:X.fn x=true\/X.env.scope.names.lookup x=some .local:=by first|exact .inl rfl|exact .inr rfl|assumption):wpAny M A (storeName X.env x u) Q E s:=
 uQ I hN hi hx r (λ s' I' _=>h s' I') hf
def Inv.call'(I:Inv X hV Z H s)(ho:s'.os=s.os)(u:Un (frs X.stack) ch H H' s.heap s'.heap)(hok:HOk X.prog X.w H' s'.heap)(hg:zDv s'.gens)
  (hch:∀b∈ch,(b∈X.ex\/X.z5.heap.objs.size<=b)/\b≠X.env.locals/\(∀x c,X.env.cells.lookup x=some c->c≠b)/\∀p∈X.ta++(X.pn++hV),p.1≠b):Inv X hV Z H' s':=by
 obtain⟨h',g',d',t',o'⟩:=s';have e:o'=s.os:=ho;subst e;exact I.call (g':=g') (t':=t') (d':=d') u hok hg hch
end
abbrev XK:=Value->Option Addr->Hp->Prop
abbrev St:=List (Option V)
abbrev VK:=V->Hp->Prop
abbrev TE:=St->Hp->VK->Prop
abbrev TT:=St->Hp->(Bool->Hp->Prop)->Prop
abbrev TA:=St->Hp->(List V->Hp->Prop)->Prop
structure Ends where
 nx:St->Hp->Prop
 rt:VK
 bk:St->Hp->Prop:=λ _ _=>False
 ct:St->Hp->Prop:=λ _ _=>False
abbrev TS:=Ends->St->Hp->Prop
def EP(X:Cx)(hV:hZ)(Z:St)(Q:VK)(u:Value)(s':zAC):Prop:=∃v H',Inv X hV Z H' s'/\RelV v u/\Q v H'
def TP(X:Cx)(hV:hZ)(Z:St)(Q:Bool->Hp->Prop)(b:Bool)(s':zAC):Prop:=∃H',Inv X hV Z H' s'/\Q b H'
def AP(X:Cx)(hV:hZ)(Z:St)(Q:List V->Hp->Prop)(us:List Value)(s':zAC):Prop:=∃vs H',Inv X hV Z H' s'/\Vals vs us/\Q vs H'
def SP(X:Cx)(hV:hZ)(D:Ends)(f:Flow)(s':zAC):Prop:=
 match f with
 | .next=>∃Z' H',Inv X hV Z' H' s'/\D.nx Z' H'
 | .brk=>∃Z' H',Inv X hV Z' H' s'/\D.bk Z' H'
 | .cont=>∃Z' H',Inv X hV Z' H' s'/\D.ct Z' H'
 | .ret u=>∃v Z' H',Inv X hV Z' H' s'/\RelV v u/\D.rt v H'
def PE(X:Cx)(e:Expr)(t:TE):Prop:=
 ∀(hV:hZ) (s:zAC) (Z:St) (H:Hp) (Q:VK),Inv X hV Z H s->t Z H Q->wpAny (model X.prog X.w) X.A (eval e X.env) (EP X hV Z Q) X.xe s
def PT(X:Cx)(e:Expr)(t:TT):Prop:=
 ∀(hV:hZ) (s:zAC) (Z:St) (H:Hp) (Q:Bool->Hp->Prop),Inv X hV Z H s->t Z H Q->wpAny (model X.prog X.w) X.A (isTrue e X.env (eval e X.env)) (TP X hV Z Q) X.xe s
def PW(X:Cx)(e:Expr)(t:TT):Prop:=
 ∀(whole:Sem Value) (hV:hZ) (s:zAC) (Z:St) (H:Hp) (Q:Bool->Hp->Prop),Inv X hV Z H s->t Z H Q->wpAny (model X.prog X.w) X.A (isTrue e X.env whole) (TP X hV Z Q) X.xe s
def PW.pt(h:PW X e t):PT X e t:=h _
def PA(X:Cx)(es:List Expr)(t:TA):Prop:=
 ∀(pos:Pos) (hV:hZ) (s:zAC) (Z:St) (H:Hp) (Q:List V->Hp->Prop),Inv X hV Z H s->t Z H Q->wpAny (model X.prog X.w) X.A (spliced (zBg pos (zAS es X.env))) (AP X hV Z Q) X.xe s
def PS(X:Cx)(st:Stmt)(t:TS):Prop:=
 ∀(hV:hZ) (s:zAC) (Z:St) (H:Hp) (D:Ends),Inv X hV Z H s->t D Z H->wpAny (model X.prog X.w) X.A (exec st X.env) (SP X hV D) X.xe s
def PSs(X:Cx)(st:List Stmt)(t:TS):Prop:=
 ∀(hV:hZ) (s:zAC) (Z:St) (H:Hp) (D:Ends),Inv X hV Z H s->t D Z H->wpAny (model X.prog X.w) X.A (execs st X.env) (SP X hV D) X.xe s
def thn(h:wpAny M A t Q E s)(hQ:∀a s,Q a s->Q' a s):wpAny M A t Q' E s:=zBV h hQ λ _ _ x=>x
section
variable{X:Cx}
def nC(i:Nat):TE:=λ Z H Q=>∃v,Z[i]? =some (some v)/\Q v H
def tC(v:V):TE:=λ _ H Q=>Q v H
abbrev _root_.Nd(x:PySem.Str):Prop:=(x==("__debug__":PySem.Str))=false
def fL(hN:X.N[i]? =some x)(hv:Vis X.env.scope x)(hd:Nd x:=by decide)(hcd:(x==("__classdict__":Str))=false:=by decide):PE X (.Name x pos) (nC i):=by
 intro hV s Z H Q I h;obtain⟨v,e,h⟩:=h;obtain⟨m,hn,hl⟩:=I.loc;obtain⟨u,r,l⟩:=hl i x v hN e hv;have fin:EP X hV Z Q u s:=⟨v,H,I,r,h⟩;rcases l with ⟨hk,hm⟩|⟨hk,c,hc,hcell⟩
 .exact zGh (wpAny_loadName_local I.ok.kind hk hn hm fin) hd
 .rcases hk with hk|hk
  .exact zGh (wpAny_loadName_cell I.ok.kind hk hc hcell fin) hd
  .exact zGh (wpAny_loadName_free I.ok.kind hk hc hcell fin hcd) hd
def aCe{i j pos}:PE X (.Constant (.int i) j pos) (tC (.int i)):=λ _ _ _ H _ I h=>wpAny_Constant_int ⟨.int i,H,I.tok _,⟨_,rfl⟩,h⟩
def aIk{b j pos}:PE X (.Constant (.bool b) j pos) (tC (.bl b)):=λ _ _ _ H _ I h=>Constant_bool ⟨.bl b,H,I,rfl,h⟩
def aHE{j pos}:PE X (.Constant .none j pos) (tC .non):=λ _ _ _ H _ I h=>Constant_none ⟨.non,H,I,rfl,h⟩
def aHB{x j pos}:PE X (.Constant (.str x) j pos) (tC (.str x)):=λ _ _ _ H _ I h=>Calls.Constant_str ⟨.str x,H,I.tok _,⟨_,rfl⟩,h⟩
def Gl(X:Cx)(x:Str):Prop:=X.env.kindOf x=some .globalImplicit
def vp(I:Inv X hV Z H s)(hg:Gl X x)(hm:X.mg x=some u)(h:Q u s)
  (hd:Nd x:=by decide):wpAny (model X.prog X.w) X.A (eval (.Name x pos) X.env) Q E s:=
 zE4 I.ok.kind hg (Calls.loadGlobal_global (by rw[I.ok.glob];exact I.mod.glob.keeps I.bk) hm h) hd
def mU(I:Inv X hV Z H s)(hg:Gl X x)(hm:X.mg x=none)(hv:zAj x=some u)(h:Q u s)
  (hn:x≠"__name__":=by decide)(hd:Nd x:=by decide):wpAny (model X.prog X.w) X.A (eval (.Name x pos) X.env) Q E s:=by
 obtain⟨mb,h1,h2⟩:=I.mod.blt;exact zE4 I.ok.kind hg (Calls.loadGlobal_builtin (by rw[I.ok.glob];exact I.mod.glob.keeps I.bk) hm (by rw[I.ok.blt];exact h1.keeps I.bk) ((h2 x hn).trans hv) h) hd
def aEh(hg:Gl X x)(hm:X.mg x=some u)(r:RelV v u)(hd:Nd x:=by decide):PE X (.Name x pos) (tC v):=
 λ _ _ _ H _ I h=>vp I hg hm ⟨v,H,I,r,h⟩ hd
def aEm(hg:Gl X x)(hm:X.mg x=none)(hv:zAj x=some u)(r:RelV v u)(hn:x≠"__name__":=by decide)(hd:Nd x:=by decide):PE X (.Name x pos) (tC v):=
 λ _ _ _ H _ I h=>mU I hg hm hv ⟨v,H,I,r,h⟩ hn hd
variable{a b:Expr}{ta tb:TE}{pos:Pos}
variable{tA tB':TT}{rest:List Expr}
def aJ0(t u:TT):TT:=λ Z H Q=>t Z H λ c H1=>if c=true then u Z H1 Q else Q false H1
def tOr(t u:TT):TT:=λ Z H Q=>t Z H λ c H1=>if c=true then Q true H1 else u Z H1 Q
def aJV(t:TT):TT:=λ Z H Q=>t Z H λ c H1=>Q (!c) H1
def aE4(ha:PT X a tA):PW X (.BoolOp .And [a] pos) tA:=by
 intro wh hV s Z H Q I h;refine isTrue_and (thn (ha hV s Z H Q I h) λ c s1 e=>?_);cases c with
 |true=>exact isTrue_and_nil e
 |false=>exact e
def aGm(ha:PT X a tA):PW X (.BoolOp .Or [a] pos) tA:=by
 intro wh hV s Z H Q I h;refine isTrue_or (thn (ha hV s Z H Q I h) λ c s1 e=>?_);cases c with
 |false=>exact isTrue_or_nil e
 |true=>exact e
def aGn(ha:PT X a tA)(hb:PW X (.BoolOp .And (b::rest) pos) tB'):PW X (.BoolOp .And (a::b::rest) pos) (aJ0 tA tB'):=by
 intro wh hV s Z H Q I h;refine isTrue_and (thn (ha hV s Z H _ I h) λ c s1 ⟨H1,I1,q1⟩=>?_);cases c with
 |true=>exact hb wh hV s1 Z H1 Q I1 q1
 |false=>exact⟨H1,I1,q1⟩
def aIg(ha:PT X a tA)(hb:PW X (.BoolOp .Or (b::rest) pos) tB'):PW X (.BoolOp .Or (a::b::rest) pos) (tOr tA tB'):=by
 intro wh hV s Z H Q I h;refine isTrue_or (thn (ha hV s Z H _ I h) λ c s1 ⟨H1,I1,q1⟩=>?_);cases c with
 |true=>exact⟨H1,I1,q1⟩
 |false=>exact hb wh hV s1 Z H1 Q I1 q1
def aGp(ha:PT X a tA):PT X (.UnaryOp .Not a pos) (aJV tA):=by
 intro hV s Z H Q I h;exact isTrue_not (ha hV s Z H (λ c H1=>Q (!c) H1) I h)
def aI3(ta tb:TE):TE:=λ Z H Q=>ta Z H λ x H1=>∃c,x= .bl c/\if c=true then tb Z H1 Q else Q (.bl false) H1
def aIX(ta:TE):TE:=λ Z H Q=>ta Z H λ x H1=>∃c,x= .bl c/\Q (.bl (!c)) H1
def aHC{op}(h:PE X a t):PE X (.BoolOp op [a] pos) t:=λ hV s Z H Q I hw=>BoolOp_one (h hV s Z H Q I hw)
def aHI(ha:PE X a ta)(hb:PE X (.BoolOp .And (b::rest) pos) tb):PE X (.BoolOp .And (a::b::rest) pos) (aI3 ta tb):=by
 intro hV s Z H Q I h;refine BoolOp_and (thn (ha hV s Z H _ I h) λ v s1 ⟨x,H1,I1,r1,q1⟩=>?_);obtain⟨c,rfl,q1⟩:=q1;cases r1;refine zB7 ?_;cases c with
 |true=>exact hb hV s1 Z H1 Q I1 q1
 |false=>exact⟨.bl false,H1,I1,rfl,q1⟩
def aHD(ha:PE X a ta):PE X (.UnaryOp .Not a pos) (aIX ta):=by
 intro hV s Z H Q I h;refine UnaryOp_ (thn (ha hV s Z H _ I h) λ v s1 ⟨x,H1,I1,r1,q1⟩=>?_);obtain⟨c,rfl,q1⟩:=q1;cases r1;exact not_of (zB7 ⟨.bl (!c),H1,I1,rfl,q1⟩)
def tIf(t:TT)(ta tb:TE):TE:=λ Z H Q=>t Z H λ c H1=>if c=true then ta Z H1 Q else tb Z H1 Q
def aCf(hc:PT X c tA)(ha:PE X a ta)(hb:PE X b tb):PE X (.IfExp c a b pos) (tIf tA ta tb):=by
 intro hV s Z H Q I h;refine wpAny_IfExp (thn (hc hV s Z H _ I h) λ d s1 ⟨H1,I1,q1⟩=>?_);cases d with
 |true=>exact ha hV s1 Z H1 Q I1 q1
 |false=>exact hb hV s1 Z H1 Q I1 q1
end
def SqL(K:zAA)(H:Hp)(a:Addr)(xs:List V):Prop:=
 Rd H a (.lst xs)\/
  ∃(o:Obj) (its:Array Value) (n:Nat),K.lookup a=some o/\o.cls= .type "list"/\o.dict=none/\o.data= .seq its n/\its.size<=zAN/\Vals xs its.toList
def SqT(K:zAA)(H:Hp)(a:Addr)(xs:List V):Prop:=
 Rd H a (.tup xs)\/
  ∃(o:Obj) (its:Array Value) (n:Nat),K.lookup a=some o/\o.cls= .type "tuple"/\o.dict=none/\o.data= .seq its n/\its.size<=zAN/\Vals xs its.toList
def aJ7:Value->Option V
 | .none=>some .non
 | .bool b=>some (.bl b)
 | .int i _=>some (.int i)
 | .str x _=>some (.str x)
 | .bytes b _=>some (.byt b)
 | .float b _=>some (.flt b)
 | .ref a=>some (.ref a)
 | .type n=>some (.ty n)
 |_=>none
def RelV.abs(r:RelV x u):aJ7 u=some x:=by
 cases x with
 |non=>cases r;rfl
 |bl _=>cases r;rfl
 |int _=>obtain⟨t,rfl⟩:=r;rfl
 |str _=>obtain⟨t,rfl⟩:=r;rfl
 |byt _=>obtain⟨t,rfl⟩:=r;rfl
 |flt _=>obtain⟨t,rfl⟩:=r;rfl
 |ref _=>cases r;rfl
 |ty _=>cases r;rfl
def RelV.inj(r:RelV x u)(q:RelV y u):x=y:=zAb (r.abs.symm.trans q.abs)
theorem Vals.inj:∀{xs ys:List V} {us:List Value},Vals xs us->Vals ys us->xs=ys
 |_,_,_,.nil,.nil=>rfl
 |_,_,_,.cons r t,.cons r' t'=>by rw[r.inj r',Vals.inj t t']
section
variable{X:Cx}{hV:hZ}{Z:St}{H:Hp}{s:zAC}{a:Addr}{xs ys:List V}
def SqL.of{K:zAA}(h:H a=some (.lst xs)):SqL K H a xs:=.inl (.inl h)
def SqT.of{K:zAA}(h:H a=some (.tup xs)):SqT K H a xs:=.inl (.inl h)
def Inv.list(I:Inv X hV Z H s)(h:SqL X.K H a xs):∃its:List Value,Vals xs its/\PlainL s.heap a its.toArray/\xs.length<=zAN:=by
 rcases h with h|⟨o,its,n,hk,hc,hd,hs,hz,r⟩
 .obtain⟨z,its,n,r,e⟩:=h.ok I.hok
  exact⟨its,r,⟨_,n,e,rfl,rfl,rfl⟩,z⟩
 .refine⟨its.toList,r,⟨o,n,I.kIn a o hk,hc,hd,by simpa using hs⟩,?_⟩
  have e:=r.length;simp only[zCZ]at e;lia
def Inv.tuple(I:Inv X hV Z H s)(h:SqT X.K H a xs):∃its:List Value,Vals xs its/\IsTup s.heap a its.toArray/\xs.length<=zAN:=by
 rcases h with h|⟨o,its,n,hk,hc,hd,hs,hz,r⟩
 .obtain⟨z,its,r,p⟩:=h.ok I.hok
  exact⟨its,r,p,z.1⟩
 .refine⟨its.toList,r,⟨o,I.kIn a o hk,hc,n,by simpa using hs⟩,?_⟩
  have e:=r.length;simp only[zCZ]at e;lia
def Inv.list_inj(I:Inv X hV Z H s)(h:SqL X.K H a xs)(h':SqL X.K H a ys):xs=ys:=by
 obtain⟨its,r,⟨o,n,e,_,_,d⟩,_⟩:=I.list h;obtain⟨its',r',⟨o',n',e',_,_,d'⟩,_⟩:=I.list h';rw[e]at e';cases e';rw[d]at d';injection d' with d1 _
 have:its=its':=by simpa using congrArg zGV d1
 subst this;exact r.inj r'
def Inv.tuple_inj(I:Inv X hV Z H s)(h:SqT X.K H a xs)(h':SqT X.K H a ys):xs=ys:=by
 obtain⟨its,r,⟨o,e,_,n,d⟩,_⟩:=I.tuple h;obtain⟨its',r',⟨o',e',_,n',d'⟩,_⟩:=I.tuple h';rw[e]at e';cases e';rw[d]at d';injection d' with d1 _
 have:its=its':=by simpa using congrArg zGV d1
 subst this;exact r.inj r'
end
section
variable{X:Cx}{st:Stmt}{rest:List Stmt}{t u:TS}{e:Expr}{te:TE}{pos:Pos}
def aIY:TS:=λ D Z H=>D.nx Z H
def aJT(t u:TS):TS:=λ D Z H=>t {D with nx:=u D} Z H
def aE8:PSs X [] aIY:=λ _ _ Z H _ I h=>zEB ⟨Z,H,I,h⟩
def aC8(h1:PS X st t)(h2:PSs X rest u):PSs X (st::rest) (aJT t u):=by
 intro hV s Z H D I h;refine wpAny_execs_cons (thn (h1 hV s Z H {D with nx:=u D} I h) λ f s1 q=>?_);cases f with
 |next=>
  obtain⟨Z',H',I',q⟩:=q;exact h2 hV s1 Z' H' D I' q
 |ret v=>exact q
 |brk=>exact q
 |cont=>exact q
def aE7(h1:PS X st t):PSs X [st] t:=by
 intro hV s Z H D I h;refine wpAny_execs_cons (thn (h1 hV s Z H D I h) λ f s1 q=>?_);cases f with
 |next=>exact zEB q
 |ret v=>exact q
 |brk=>exact q
 |cont=>exact q
def Inv.quiet(I:Inv X hV Z H s):interactive X.env=false:=by simp[interactive,I.ok.kind]
def uP(te:TE):TS:=λ D Z H=>te Z H λ _ H1=>D.nx Z H1
def kW(he:PE X e te)(hs:zBy e none pos.line X.env=pure false:=by rfl):PS X (.Expr e pos) (uP te):=by
 intro hV s Z H D I h;exact wpAny_Expr_any (thn (he hV s Z H _ I h) λ v s1 ⟨x,H1,I1,r1,q1⟩=>⟨Z,H1,I1,q1⟩) I.quiet hs
def aJU(te:TE):TS:=λ D Z H=>te Z H D.rt
def aGq(he:PE X e te):PS X (.Return (some e) pos) (aJU te):=by
 intro hV s Z H D I h;exact wpAny_Return_some (thn (he hV s Z H _ I h) λ v s1 ⟨x,H1,I1,r1,q1⟩=>⟨x,Z,H1,I1,r1,q1⟩)
def aJY(c:TT)(t u:TS):TS:=λ D Z H=>c Z H λ b H1=>if b=true then t D Z H1 else u D Z H1
def aIh(hc:PT X c tc)(ha:PSs X a t)(hb:PSs X b u):PS X (.If c a b pos) (aJY tc t u):=by
 intro hV s Z H D I h;refine wpAny_If (thn (hc hV s Z H _ I h) λ d s1 ⟨H1,I1,q1⟩=>?_);cases d with
 |true=>exact ha hV s1 Z H1 D I1 q1
 |false=>exact hb hV s1 Z H1 D I1 q1
end
abbrev TG:=V->St->Hp->(St->Hp->Prop)->Prop
abbrev TGs:=List V->St->Hp->(St->Hp->Prop)->Prop
def PG(X:Cx)(target:Expr)(t:TG):Prop:=
 ∀(hV:hZ) (s:zAC) (Z:St) (H:Hp) (v:V) (u:Value) (Q:St->Hp->Prop),Inv X hV Z H s->RelV v u->t v Z H Q->
  wpAny (model X.prog X.w) X.A (zEN target X.env u) (λ _ s'=>∃Z' H',Inv X hV Z' H' s'/\Q Z' H') X.xe s
def PGs(X:Cx)(ts:List Expr)(t:TGs):Prop:=
 ∀(hV:hZ) (s:zAC) (Z:St) (H:Hp) (vs:List V) (us:List Value) (Q:St->Hp->Prop),Inv X hV Z H s->Vals vs us->t vs Z H Q->
  wpAny (model X.prog X.w) X.A (assignInOrder ((zC1 ts X.env).map (·.2)) us) (λ _ s'=>∃Z' H',Inv X hV Z' H' s'/\Q Z' H') X.xe s
abbrev aIN:=V->V->V->Hp->(Hp->Prop)->Prop
def aIS(X:Cx)(t:aIN):Prop:=
 ∀(hV:hZ) (s:zAC) (Z:St) (H:Hp) (o i v:V) (ov iv u:Value) (Q:Hp->Prop),Inv X hV Z H s->RelV o ov->RelV i iv->RelV v u->t o i v H Q->
  wpAny (model X.prog X.w) X.A (zFm ov iv u) (λ _ s'=>∃H',Inv X hV Z H' s'/\Q H') X.xe s
abbrev TIp:=V->V->Hp->VK->Prop
def PIp(X:Cx)(op:Operator)(t:TIp):Prop:=
 ∀(hV:hZ) (s:zAC) (Z:St) (H:Hp) (x y:V) (v u:Value) (Q:VK),Inv X hV Z H s->RelV x v->RelV y u->t x y H Q->
  wpAny (model X.prog X.w) X.A (inplaceOp op v u) (EP X hV Z Q) X.xe s
section
variable{X:Cx}{pos:Pos}
def qD(i:Nat):TG:=λ v Z H Q=>Q (Z.set i (some v)) H
def aEd(hN:X.N.Nodup)(hi:X.N[i]? =some x)(hx:Loc X.env.scope x)(hf:X.fn x=true\/X.env.scope.names.lookup x=some .local:=by first|exact .inl rfl|exact .inr rfl|assumption):PG X (.Name x pos) (qD i):=by
 intro hV s Z H v u Q I r h;exact zGi (wY I hN hi hx r (λ s' I'=>⟨_,H,I',h⟩) hf)
def aIB:TGs:=λ vs Z H Q=>vs=[]/\Q Z H
def aD0(t:TG)(u:TGs):TGs:=λ vs Z H Q=>∃v r,vs=v::r/\t v Z H λ Z' H'=>u r Z' H' Q
def aEc:PGs X [] aIB:=by
 intro hV s Z H vs us Q I r h;obtain⟨e,h⟩:=h;subst e;cases r;exact assignInOrder_nil ⟨Z,H,I,h⟩
def aCd(h1:PG X e t)(h2:PGs X es u)
  (hs:(zC1 (e::es) X.env).map (·.2)=zEN e X.env::(zC1 es X.env).map (·.2):=by rfl):PGs X (e::es) (aD0 t u):=by
 intro hV s Z H vs us Q I r h;obtain⟨v,vr,e1,h⟩:=h;subst e1;cases r with
 |cons r rr=>
  rw[hs];refine assignInOrder_cons (thn (h1 hV s Z H _ _ _ I r h) λ _ s1 ⟨Z1,H1,I1,q1⟩=>?_);exact h2 hV s1 Z1 H1 _ _ Q I1 rr q1
def aFW(K:zAA)(n:Nat)(t:TGs):TG:=λ v Z H Q=>∃a xs,v= .ref a/\SqT K H a xs/\xs.length=n/\t xs Z H Q
def aGw(hc:X.calm=true)(h:PGs X es t)
  (hn:(zC1 es X.env).length=n:=by rfl)(hst:(zC1 es X.env).findIdx? (·.1)=none:=by rfl):PG X (.Tuple es k pos) (aFW X.K n t):=by
 intro hV s Z H v u Q I r hw;obtain⟨a,xs,e1,hq,hl,hw⟩:=hw;subst e1;cases r;obtain⟨its,rv,ht,hz⟩:=I.tuple hq;refine assign_Tuple_tuple (I.ok.hd hc) ht (by simp[hn,<-hl,rv.length]) hst λ h' hx=>?_
 have I1:Inv X hV Z H {s with heap:=h'}:=I.kept (t':=s.toks) λ b o e=>hx b o (zA5 (zAX e)) e
 exact h hV _ Z H xs _ Q I1 (by simpa using rv) hw
def aJA(to ti:TE)(t:aIN):TG:=λ v Z H Q=>to Z H λ o H1=>ti Z H1 λ i H2=>t o i v H2 λ H3=>Q Z H3
def aGx(ho:PE X o to)(hi:PE X i ti)(hs:aIS X t)
  (ha:∀v,zEN (.Subscript o i pos) X.env v=(do
   let ov <-zCU [v] (eval o X.env);let iv <-zCU [v,ov] (eval i X.env)
   zFn pos
   zCU [v,ov,iv] (zFm ov iv v)
   release [v,ov,iv] []):=by intro _;rfl):PG X (.Subscript o i pos) (aJA to ti t):=by
 intro hV s Z H v u Q I r h;rw[ha];refine zAE (zBT (thn (ho hV s Z H _ I h) λ ov s1 ⟨x,H1,I1,r1,q1⟩=>?_));refine zAE (zBT (thn (hi hV s1 Z H1 _ I1 q1) λ iv s2 ⟨y,H2,I2,r2,q2⟩=>?_));refine zAE (zE1 (zAE (zBT (thn (hs hV s2 Z H2 x y v ov iv u _ I2 r1 r2 r q2) λ _ s3 ⟨H3,I3,q3⟩=>?_))));exact wpAny_release ⟨Z,H3,I3,q3⟩
def aBB(te:TE)(g:TG):TS:=λ D Z H=>te Z H λ x H1=>g x Z H1 D.nx
def aGs(he:PE X e te)(hg:PG X tg g)(hs:swapsWithSole [tg] e pos.line X.env=pure false:=by rfl)(hw:swappedStores [tg] e X.env=pure none:=by rfl)
  (h1:(zC1 [tg] X.env).map (·.2)=[zEN tg X.env]:=by rfl):PS X (.Assign [tg] e pos) (aBB te g):=by
 intro hV s Z H D I h;refine wpAny_Assign_stores (thn (he hV s Z H _ I h) λ v s1 ⟨x,H1,I1,r1,q1⟩=>?_) hs hw;rw[h1];exact thn (hg hV s1 Z H1 x v _ I1 r1 q1) λ _ s2 q=>q
def aCa(hN:X.N.Nodup)(hi:X.N[i]? =some x)(hx:Loc X.env.scope x)(he:PE X e te)(hs:zBy e (some (.Name x pos')) pos.line X.env=pure false:=by rfl)(hf:X.fn x=true\/X.env.scope.names.lookup x=some .local:=by first|exact .inl rfl|exact .inr rfl|assumption):
  PS X (.Assign [.Name x pos'] e pos) (aBB te (qD i)):=by
 intro hV s Z H D I h;refine wpAny_Assign_Name (thn (he hV s Z H _ I h) λ v s1 ⟨y,H1,I1,r1,q1⟩=>?_) hs;exact wY I1 hN hi hx r1 (λ s2 I2=>⟨_,H1,I2,q1⟩) hf
def aFp(to ti te:TE)(tget:V->V->Hp->VK->Prop)(tip:TIp)(tset:aIN):TS:=λ D Z H=>to Z H λ o H1=>ti Z H1 λ i H2=>tget o i H2 λ x H3=>te Z H3 λ y H4=>tip x y H4 λ z H5=>tset o i z H5 λ H6=>D.nx Z H6
def aJI(X:Cx)(t:V->V->Hp->VK->Prop):Prop:=
 ∀(hV:hZ) (s:zAC) (Z:St) (H:Hp) (o i:V) (ov iv:Value) (Q:VK),Inv X hV Z H s->RelV o ov->RelV i iv->t o i H Q->
  wpAny (model X.prog X.w) X.A (zFj ov iv) (EP X hV Z Q) X.xe s
def aEa(ho:PE X o to)(hi:PE X i ti)(hg:aJI X tget)(he:PE X e te)(hp:PIp X op tip)(hs:aIS X tset)
  (ha:∀ov iv new,augStore i ov iv new=(do zCU [new,ov,iv] (zFm ov iv new);release [new,ov,iv] [];pure .next):=by intros;rfl):PS X (.AugAssign (.Subscript o i tpos) op e pos) (aFp to ti te tget tip tset):=by
 intro hV s Z H D I h;refine wpAny_AugAssign_SubscriptAny (thn (ho hV s Z H _ I h) λ ov s1 ⟨x1,H1,I1,r1,q1⟩=>?_) ha;refine thn (hi hV s1 Z H1 _ I1 q1) λ iv s2 ⟨x2,H2,I2,r2,q2⟩=>?_
 refine thn (hg hV s2 Z H2 x1 x2 ov iv _ I2 r1 r2 q2) λ old s3 ⟨x3,H3,I3,r3,q3⟩=>?_
 refine thn (he hV s3 Z H3 _ I3 q3) λ v s4 ⟨x4,H4,I4,r4,q4⟩=>?_
 refine thn (hp hV s4 Z H4 x3 x4 old v _ I4 r3 r4 q4) λ new s5 ⟨x5,H5,I5,r5,q5⟩=>?_
 exact thn (hs hV s5 Z H5 x1 x2 x5 ov iv new _ I5 r1 r2 r5 q5) λ _ s6 ⟨H6,I6,q6⟩=>⟨Z,H6,I6,q6⟩
def ipI(f:Int->Int->Int):TIp:=λ x y H Q=>∃i j,x= .int i/\y= .int j/\Q (.int (f i j)) H
def aHu:PIp X .Sub (ipI λ i j=>i-j):=by
 intro hV s Z H x y v u Q I r1 r2 h;obtain⟨i,j,e1,e2,q⟩:=h;subst e1;subst e2;obtain⟨t,rfl⟩:=r1;obtain⟨t',rfl⟩:=r2;exact isub_int ⟨.int _,H,I.tok _,⟨_,rfl⟩,q⟩
end
section
variable{X:Cx}{pos:Pos}
def aG3(c:TT)(tb:TS):TS:=λ D Z H=>∃W:Nat->St->Hp->Prop,(∃m,W m Z H)/\∀m Z H,W m Z H->
 c Z H λ b H1=>if b=true then∃N:St->Hp->Prop,(∀Z' H',N Z' H'->∃m',m'<m/\W m' Z' H')/\tb {D with nx:=N,ct:=N,bk:=D.nx} Z H1 else D.nx Z H1
def aC9(hp:zGE (model X.prog X.w) X.A X.env X.xe)(hc:PT X c tc)(hb:PSs X body tb):PS X (.While c body [] pos) (aG3 tc tb):=by
 intro hV s Z H D I h;obtain⟨W,⟨m0,w0⟩,turn⟩:=h;refine wpAny_While (codeAny_whileLoop (λ n s'=>∃Z' H',Inv X hV Z' H' s'/\W n Z' H') ?_ m0 ⟨Z,H,I,w0⟩);rintro n s1 ⟨Z1,H1,I1,w1⟩;refine zCW hp (thn (hc hV s1 Z1 H1 _ I1 (turn n Z1 H1 w1)) λ b s2 ⟨H2,I2,q2⟩=>?_);cases b with
 |true=>
  obtain⟨N,hN,q2⟩:=q2;rw[if_pos rfl];refine zCW hp (thn (hb hV s2 Z1 H2 _ I2 q2) λ f s3 q3=>?_);cases f with
  |next=>
   obtain⟨Z3,H3,I3,n3⟩:=q3;obtain⟨m',hm,w3⟩:=hN Z3 H3 n3;exact⟨m',hm,Z3,H3,I3,w3⟩
  |cont=>
   obtain⟨Z3,H3,I3,n3⟩:=q3;obtain⟨m',hm,w3⟩:=hN Z3 H3 n3;exact⟨m',hm,Z3,H3,I3,w3⟩
  |brk=>exact q3
  |ret v=>exact q3
 |false=>
  rw[if_neg zA8];exact zEB ⟨Z1,H2,I2,q2⟩
end
structure It where
 go:Nat->Hp->Prop
 yld:Nat->Hp->V->Hp->Prop
 stop:Nat->Hp->Prop
def j9(X:Cx)(hV:hZ)(H:Hp)(b:Addr):Prop:=
 H b=none/\b≠X.env.locals/\b∉X.fs/\(b∈X.ex\/X.z5.heap.objs.size<=b)/\(∀x c,X.env.cells.lookup x=some c->c≠b)/\∀p∈X.ta++(X.pn++hV),p.1≠b
def Inv.fpOk(I:Inv X hV Z H s)(hb:s.heap.objs.size<=b)(hn:H' b=none):j9 X hV H' b:=by
 refine⟨hn,zCH (zAY I.lt hb),I.nofs hb,.inr (zAi I.sz hb),λ x c e z=>?_,λ p hp z=>?_⟩
 .obtain⟨v,q⟩:=I.cell x c e
  exact absurd (zAY q.lt (by rw[z];exact hb)) (zBe _)
 .exact absurd (zAY (I.pinL hp) (by rw[z];exact hb)) (zBe _)
structure Turn(P:zAO)(w:World)(K:zAA)(tg:Expr)(J:It)(fp:List Addr)(it:Addr)(tn:Nat->Heap->Prop):Prop where
 mem:it∈fp
 obj:∀i h,tn i h->∀b∈fp,∃o,h.get? b=some o/\∀v,o.data≠.cell v
 keep:∀i h h',tn i h->(∀b∈fp,∀o,h.get? b=some o->h'.get? b=some o)->tn i h'
 item:∀(X:Cx),X.prog=P->X.w=w->X.K=K->X.calm=true->∀(i:Nat) (hV:hZ) (s:zAC) (Z:St) (H:Hp) (E:Value->zAC->Prop),Inv X hV Z H s->(∀b∈fp,j9 X hV H b)->tn i s.heap->J.go i H->
  wpAny (model P w) X.A (zEA (.ref it)) (λ r s1=>∃u,r=some u/\
   wpAny (model P w) X.A (zDz tg (.ref it) u) (λ _ s2=>∃x H',Inv X hV Z H' s2/\RelV x u/\J.yld i H x H'/\tn (i+1) s2.heap/\∀b∈fp,H' b=none) E s1) E s
 done:∀(X:Cx),X.prog=P->X.w=w->X.K=K->X.calm=true->∀(i:Nat) (hV:hZ) (s:zAC) (Z:St) (H:Hp) (E:Value->zAC->Prop),Inv X hV Z H s->(∀b∈fp,j9 X hV H b)->tn i s.heap->J.stop i H->
  wpAny (model P w) X.A (zEA (.ref it)) (λ r s1=>r=none/\Inv X hV Z H s1) E s
 self:∀(A:zA3) (i:Nat) (s:zAC) (Q:Value->zAC->Prop) (E:Value->zAC->Prop),tn i s.heap->Q (.ref it) s->wpAny (model P w) A (pyIter (.ref it)) Q E s
abbrev TI:=St->Hp->(It->Hp->Prop)->Prop
def PIE(X:Cx)(hV:hZ)(Z:St)(tg:Expr)(R:It->Hp->Prop)(itv:Value)(s2:zAC):Prop:=
 ∃(it:Addr) (fp:List Addr) (tn:Nat->Heap->Prop) (J:It) (H':Hp),itv= .ref it/\Inv X hV Z H' s2/\Turn X.prog X.w X.K tg J fp it tn/\tn 0 s2.heap/\(∀b∈fp,j9 X hV H' b)/\R J H'
def PI(X:Cx)(tg iter:Expr)(wi:TI):Prop:=
 ∀(hV:hZ) (s:zAC) (Z:St) (H:Hp) (R:It->Hp->Prop),Inv X hV Z H s->wi Z H R->
  wpAny (model X.prog X.w) X.A (eval iter X.env) (λ v s1=>wpAny (model X.prog X.w) X.A (pyIter v) (PIE X hV Z tg R) X.xe s1) X.xe s
def aDW(ho:s.heap.get? it=some o)(hc:o.cls= .type n)(hd:o.data= .fields vs)
    (hn:["enumerate","zip","dict_itemiterator","dict_reverseitemiterator","odict_iterator","itertools.zip_longest","itertools.pairwise"].contains n=false)(hQ:Q () s):wpAny M A (zDz tg (.ref it) u) Q E s:=by
  unfold zDz;cases tg<;>first
    |exact zA1 hQ
    | (cases u <;> first
        |exact zA1 hQ
        | (refine zAE (wpAny_load ho ?_)
           rw[hc,hd];show wpAny M A (if (["enumerate","zip","dict_itemiterator","dict_reverseitemiterator","odict_iterator","itertools.zip_longest","itertools.pairwise"].contains n&&vs[0]? ==some (rawInt _))=true then _ else _) Q E s;rw[if_neg (by intro h;rw[hn,Bool.false_and]at h;cases h)];exact zA1 hQ))
def Itl(K:zAA)(a:Addr):It:=
 ⟨λ i H=>∃xs x,SqL K H a xs/\xs[i]? =some x,λ i H x H'=>H'=H/\∀xs,SqL K H a xs->xs[i]? =some x,λ i H=>∃xs,SqL K H a xs/\xs.length<=i⟩
def Itt(K:zAA)(a:Addr):It:=
 ⟨λ i H=>∃xs x,SqT K H a xs/\xs[i]? =some x,λ i H x H'=>H'=H/\∀xs,SqT K H a xs->xs[i]? =some x,λ i H=>∃xs,SqT K H a xs/\xs.length<=i⟩
def Itr(lo:Int)(n:Nat):It:=⟨λ i _=>i<n,λ i H x H'=>H'=H/\x= .int (lo+i),λ i _=>n<=i⟩
def aAz{P:zAO}{w:World}{K:zAA}{tg:Expr}(a it:Addr):Turn P w K tg (Itl K a) [it] it (λ i h=>h.IsListIter it a i) where
 mem:=by simp
 obj:=λ i h st b hb=>by
  have e:b=it:=by simpa using hb
  subst e;obtain⟨o,e,c,d⟩:=st;exact⟨o,e,λ v z=>by rw[d]at z;cases z⟩
 keep:=λ i h h' st k=>st.at λ o e=>k it (by simp) o e
 item:=by
  intro X hP hw hK hc i hV s Z H E I hf st hg;subst hP hw hK;obtain⟨xs,x,hq,hx⟩:=hg;obtain⟨its,rv,p,hz⟩:=I.list hq;obtain⟨u,hu,ru⟩:=rv.get hx;obtain⟨f0,f1,f2,f3,f4,f5⟩:=hf it (by simp);refine wpAny_pyNext_list_item st p.isList (x:=u) (by simpa using hu) λ h' st' sb=>?_
  have I1:Inv X hV Z H {s with heap:=h'}:=I.turned (t':=s.toks) (λ b o hb e=>(sb.2 b hb).trans e) f0 f1 f3 f4 f5;obtain⟨o,e,c,d⟩:=id st';exact⟨u,rfl,aDW (s:={s with heap:=h'}) e c d (by decide) ⟨x,H,I1,ru,⟨rfl,λ ys hy=>by rw[I.list_inj hy hq];exact hx⟩,st',λ b hb=>(hf b hb).1⟩⟩
 done:=by
  intro X hP hw hK hc i hV s Z H E I hf st hg;subst hP hw hK;obtain⟨xs,hq,hx⟩:=hg;obtain⟨its,rv,p,hz⟩:=I.list hq;obtain⟨f0,f1,f2,f3,f4,f5⟩:=hf it (by simp);have hl:=rv.length;exact wpAny_pyNext_list_end (I.ok.hd hc) st p.isList (by simp;lia) λ h' eb=>⟨rfl,I.turned (t':=s.toks) (λ b o hb e=>eb b o hb e) f0 f1 f3 f4 f5⟩
 self:=λ _ _ _ _ _ st h=>wpAny_pyIter_listiter st h
def yo{P:zAO}{w:World}{K:zAA}{tg:Expr}(a it:Addr):Turn P w K tg (Itt K a) [it] it (λ i h=>h.IsTupleIter it a i) where
 mem:=by simp
 obj:=λ i h st b hb=>by
  have e:b=it:=by simpa using hb
  subst e;obtain⟨o,e,c,d⟩:=st;exact⟨o,e,λ v z=>by rw[d]at z;cases z⟩
 keep:=λ i h h' st k=>st.at λ o e=>k it (by simp) o e
 item:=by
  intro X hP hw hK hc i hV s Z H E I hf st hg;subst hP hw hK;obtain⟨xs,x,hq,hx⟩:=hg;obtain⟨its,rv,p,hz⟩:=I.tuple hq;obtain⟨u,hu,ru⟩:=rv.get hx;obtain⟨f0,f1,f2,f3,f4,f5⟩:=hf it (by simp);refine wpAny_pyNext_tuple_item st (show s.heap.IsTuple a its.toArray from p) (x:=u) (by simpa using hu) λ h' st' sb=>?_
  have I1:Inv X hV Z H {s with heap:=h'}:=I.turned (t':=s.toks) (λ b o hb e=>(sb.2 b hb).trans e) f0 f1 f3 f4 f5;obtain⟨o,e,c,d⟩:=id st';exact⟨u,rfl,aDW (s:={s with heap:=h'}) e c d (by decide) ⟨x,H,I1,ru,⟨rfl,λ ys hy=>by rw[I.tuple_inj hy hq];exact hx⟩,st',λ b hb=>(hf b hb).1⟩⟩
 done:=by
  intro X hP hw hK hc i hV s Z H E I hf st hg;subst hP hw hK;obtain⟨xs,hq,hx⟩:=hg;obtain⟨its,rv,p,hz⟩:=I.tuple hq;obtain⟨f0,f1,f2,f3,f4,f5⟩:=hf it (by simp);have hl:=rv.length;exact wpAny_pyNext_tuple_end (I.ok.hd hc) st (show s.heap.IsTuple a its.toArray from p) (by simp;lia) λ h' eb=>⟨rfl,I.turned (t':=s.toks) (λ b o hb e=>eb b o hb e) f0 f1 f3 f4 f5⟩
 self:=λ _ _ _ _ _ st h=>wpAny_pyIter_tupleiter st h
def yp{P:zAO}{w:World}{K:zAA}{tg:Expr}(it:Addr)(lo:Int)(n:Nat):Turn P w K tg (Itr lo n) [it] it (λ i h=>IsRangeIter h it (lo+(i:Nat)*1) ((n:Int)-(i:Nat)) 1) where
 mem:=by simp
 obj:=λ i h st b hb=>by
  have e:b=it:=by simpa using hb
  subst e;exact⟨_,st,λ v z=>by
   have z':Data.fields _=Data.cell v:=z;cases z'⟩
 keep:=λ i h h' st k=>k it (by simp) _ st
 item:=by
  intro X hP hw hK hc i hV s Z H E I hf st hg;subst hP hw hK;obtain⟨f0,f1,f2,f3,f4,f5⟩:=hf it (by simp);have W:=Walks.range (prog:=X.prog) (w:=X.w) (I.ok.hd hc) it lo 1 n;refine W.item i s _ _ hg st λ v h' tk hv st' kk=>?_
  obtain⟨t,rfl⟩:=hv;have I1:Inv X hV Z H {s with heap:=h',toks:=tk}:=I.turned (λ b o hb e=>kk b o (by simpa using hb) e) f0 f1 f3 f4 f5;refine⟨_,rfl,aDW (s:={s with heap:=h',toks:=tk}) (n:="range_iterator") st' rfl rfl (by decide) ⟨.int (lo+i),H,I1,⟨t,?_⟩,⟨rfl,rfl⟩,st',λ b hb=>(hf b hb).1⟩⟩;rw[Int.mul_one]
 done:=by
  intro X hP hw hK hc i hV s Z H E I hf st hg;subst hP hw hK;obtain⟨f0,f1,f2,f3,f4,f5⟩:=hf it (by simp);exact wpAny_pyNext_range_end (I.ok.hd hc) st (by have:n<=i:=hg;lia) λ h' eb=>⟨rfl,I.turned (t':=s.toks) (λ b o hb e=>eb b o hb e) f0 f1 f3 f4 f5⟩
 self:=λ _ _ _ _ _ st h=>wpAny_pyIter_rangeiter st h
section
variable{X:Cx}{tg:Expr}
def xO{hV:hZ}{Z:St}{H:Hp}{s:zAC}{R:It->Hp->Prop}{E:Value->zAC->Prop}{lo hi:Int}{t u v:Tok}{tk:Nat}(I:Inv X hV Z H s)(h1: -(2^62)<=lo)(h2:lo<2^62)(h3: -(2^62)<=hi)(h4:hi<2^62)
  (q:R (Itr lo (hi-lo).toNat) H):wpAny (model X.prog X.w) X.A (pyIter (.ref s.heap.objs.size)) (PIE X hV Z tg R) E {s with heap:=s.heap.push {cls:=.type "range",data:=.fields #[.int lo t,.int hi u,.int 1 v]},toks:=tk}:=by
 refine wpAny_pyIter_range (IsRange.new ..) (small_one h1 h2 h3 h4) ?_;have I1:Inv X hV Z H {s with heap:=s.heap.push {cls:=.type "range",data:=.fields #[.int lo t,.int hi u,.int 1 v]},toks:=tk}:=I.kept λ b o e=>zAF _ e
 refine⟨(s.heap.push {cls:=.type "range",data:=.fields #[.int lo t,.int hi u,.int 1 v]}).objs.size,[(s.heap.push {cls:=.type "range",data:=.fields #[.int lo t,.int hi u,.int 1 v]}).objs.size],_,_,H,rfl,
  I1.kept (t':=tk) λ b o e=>zAF _ e,yp _ lo (hi-lo).toNat,?_,λ b hb=>?_,q⟩
 .have e1:lo+((0:Nat):Int)*1=lo:=by simp
  have e2:(((hi-lo).toNat:Nat):Int)-((0:Nat):Int)=zG5 lo hi 1:=by rw[rangeSize_one];split<;>lia
  show IsRangeIter _ _ (lo+((0:Nat):Int)*1) ((((hi-lo).toNat:Nat):Int)-((0:Nat):Int)) 1;rw[e1,e2];exact zAW _ rfl
 .have e:b=(s.heap.push {cls:=.type "range",data:=.fields #[.int lo t,.int hi u,.int 1 v]}).objs.size:=by simpa using hb
  subst e;exact I1.fpOk (zAT _) (I1.hok.fresh (zAT _))
def aIz(ta:TA):TI:=λ Z H R=>ta Z H λ vs H1=>∃j:Int,vs=[.int j]/\-(2^62)<=j/\j<2^62/\R (Itr 0 j.toNat) H1
def aIy(ta:TA):TI:=λ Z H R=>ta Z H λ vs H1=>∃i j:Int,vs=[.int i,.int j]/\(-(2^62)<=i/\i<2^62/\-(2^62)<=j/\j<2^62)/\R (Itr i (j-i).toNat) H1
def aBM{a:Expr}{ta:TA}{p pos:Pos}(hg:Gl X "range")(hm:X.mg "range"=none)(ha:PA X [a] ta)(hs:zAS [a] X.env=[(false,eval a X.env)]:=by rfl):PI X tg (.Call (.Name "range" p) [a] [] pos) (aIz ta):=by
 intro hV s Z H R I h;refine Call_ (mU I hg hm boot_range (zCg (thn (ha pos hV s Z H _ I h) λ us s1 ⟨vs,H1,I1,r1,q1⟩=>?_) hs rfl));obtain⟨j,e,q1,q2,q⟩:=q1;subst e;cases r1 with
 |cons r rr=>
  cases rr;obtain⟨t,rfl⟩:=r;exact call_range_1 (xO I1 (by lia) (by lia) q1 q2 (by simpa using q))
def aBL(hg:Gl X "range")(hm:X.mg "range"=none)(ha:PA X [a,b] ta)(hs:zAS [a,b] X.env=[(false,eval a X.env),(false,eval b X.env)]:=by rfl)(hs2:zAS [b] X.env=[(false,eval b X.env)]:=by rfl):
  PI X tg (.Call (.Name "range" p) [a,b] [] pos) (aIy ta):=by
 intro hV s Z H R I h;refine Call_ (mU I hg hm boot_range (zCg (thn (ha pos hV s Z H _ I h) λ us s1 ⟨vs,H1,I1,r1,q1⟩=>?_) (by rw[hs,hs2]) (by rw[hs2];rfl)));obtain⟨i,j,e,⟨q1,q2,q3,q4⟩,q⟩:=q1;subst e;cases r1 with
 |cons r rr=>
  cases rr with
  |cons r' rr=>
   cases rr;obtain⟨t,rfl⟩:=r;obtain⟨t',rfl⟩:=r';exact call_range_2 (xO I1 q1 q2 q3 q4 q)
def aJZ(wi:TI)(g:TG)(tb:TS):TS:=λ D Z H=>wi Z H λ J H1=>∃W:Nat->Nat->St->Hp->Prop,(∃m,W 0 m Z H1)/\∀i m Z H,W i m Z H->
 (J.stop i H/\D.nx Z H)\/(J.go i H/\∃N:St->Hp->Prop,(∀Z' H',N Z' H'->∃m',m'<m/\W (i+1) m' Z' H')/\∀x H',J.yld i H x H'->g x Z H' λ Z2 H2=>tb {D with nx:=N,ct:=N,bk:=D.nx} Z2 H2)
def rP(fp:List Addr)(h:Heap):hZ:=fp.filterMap λ b=>(h.get? b).map λ o=>(b,o)
def dq(hb:b∈fp)(e:h.get? b=some o):(b,o)∈rP fp h:=zCB.mpr ⟨b,hb,by rw[e];rfl⟩
def uX(hp:p∈rP fp h):p.1∈fp/\h.get? p.1=some p.2:=by
 obtain⟨b,hb,e⟩:=zCB.mp hp;cases q:h.get? b with
 |none=>rw[q]at e;cases e
 |some o=>
  rw[q]at e;have e':(b,o)=p:=zAb e;subst e';exact⟨hb,q⟩
def Inv.pinned(I:Inv X hV Z H s)(hf:∀b∈fp,j9 X hV H b)(ho:∀b∈fp,∃o,s.heap.get? b=some o/\∀v,o.data≠.cell v):Inv X (hV++rP fp s.heap) Z H s:=
 I.pins_of (λ p hp=>(zAe.mp hp).elim (λ z=>I.pin p (zAR _ z)) λ z=>by
  obtain⟨hb,e⟩:=uX z;obtain⟨f0,f1,f2,_⟩:=hf p.1 hb;obtain⟨o,e',d⟩:=ho p.1 hb;rw[e]at e';cases e';exact⟨e,f0,f1,f2,d⟩) λ q hq p hp=>(zAe.mp hq).elim (λ z=>(I.tab p hp).2.2.2.1 q (zAR _ z)) λ z=>((hf q.1 (uX z).1).2.2.2.2.2 p (zAh _ hp)).symm
def Inv.unpinned(I:Inv X (hV++pl) Z H s):Inv X hV Z H s:=I.pins_of (λ p hp=>I.pin p (zAR _ (zAh _ hp))) λ q hq p hp=>(I.tab p hp).2.2.2.1 q (zAR _ (zAh _ hq))
def aGr(hp:zGE (model X.prog X.w) X.A X.env X.xe)(hc:X.calm=true)(hi:PI X tg iter wi)(hg:PG X tg g)(hb:PSs X body tb)
  (hs:∀x,zBx iter X.env x=pure x:=by intro _;rfl):PS X (.For tg iter body [] pos) (aJZ wi g tb):=by
 intro hV s Z H D I h;refine wpAny_For (thn (hi hV s Z H _ I h) λ v s1 h1=>thn h1 λ itv s2 h2=>?_) hs;obtain⟨it,fp,tn,J,H2,e,I2,T,st2,f2,W,⟨m0,w0⟩,turn⟩:=h2;subst e;have aI:∀{H':Hp},(∀b∈fp,H' b=none)->∀b∈fp,j9 X hV H' b:=λ hn b hb=>⟨hn b hb,(f2 b hb).2⟩
 refine codeAny_forLoop_any (λ n s'=>∃i Z' H',Inv X hV Z' H' s'/\tn i s'.heap/\(∀b∈fp,H' b=none)/\W i n Z' H') ?_ m0 ⟨0,Z,H2,I2,st2,λ b hb=>(f2 b hb).1,w0⟩;rintro n s3 ⟨i,Z3,H3,I3,st3,fr3,w3⟩;rcases turn i n Z3 H3 w3 with ⟨stop,qn⟩|⟨go,N,hN,step⟩
 .refine zCW hp (thn (T.done X rfl rfl rfl hc i hV s3 Z3 H3 X.xe I3 (aI fr3) st3 stop) λ r s4 ⟨hr,I4⟩=>?_)
  subst hr;exact zEB ⟨Z3,H3,I4,qn⟩
 .refine zCW hp (thn (T.item X rfl rfl rfl hc i hV s3 Z3 H3 X.xe I3 (aI fr3) st3 go) λ r s4 ⟨u,hr,h4⟩=>?_)
  subst hr;refine zCW hp (thn h4 λ _ s5 ⟨x,H5,I5,r5,y5,st5,fr5⟩=>?_);have I5':=I5.pinned (aI fr5) (T.obj _ _ st5);refine zCW hp (thn (hg _ s5 Z3 H5 x u _ I5' r5 (step x H5 y5)) λ _ s6 ⟨Z6,H6,I6,q6⟩=>?_);refine zCW hp (thn (hb _ s6 Z6 H6 _ I6 q6) λ f s7 q7=>?_);have again:∀{Z7:St} {H7:Hp},Inv X (hV++rP fp s5.heap) Z7 H7 s7->N Z7 H7->∃m,m<n/\∃i Z' H',Inv X hV Z' H' s7/\tn i s7.heap/\(∀b∈fp,H' b=none)/\W i m Z' H':=λ{Z7 H7} I7 n7=>by
   obtain⟨m',hm,w7⟩:=hN Z7 H7 n7;refine⟨m',hm,i+1,Z7,H7,I7.unpinned,T.keep _ _ _ st5 λ b hb o e=>(I7.pin (b,o) (zAR _ (zAR _ (dq hb e)))).1,λ b hb=>?_,w7⟩;obtain⟨o,e,d⟩:=T.obj _ _ st5 b hb;exact(I7.pin (b,o) (zAR _ (zAR _ (dq hb e)))).2.1
  cases f with
  |next=>obtain⟨Z7,H7,I7,n7⟩:=q7;exact again I7 n7
  |cont=>obtain⟨Z7,H7,I7,n7⟩:=q7;exact again I7 n7
  |brk=>obtain⟨Z7,H7,I7,q7⟩:=q7;exact⟨Z7,H7,I7.unpinned,q7⟩
  |ret v=>obtain⟨x7,Z7,H7,I7,r7,q7⟩:=q7;exact⟨x7,Z7,H7,I7.unpinned,r7,q7⟩
end
abbrev R2:=V->V->Hp->VK->Prop
def OpR(X:Cx)(f:Value->Value->Sem Value)(r:R2):Prop:=
 ∀(hV:hZ) (s:zAC) (Z:St) (H:Hp) (x y:V) (v u:Value) (Q:VK),Inv X hV Z H s->RelV x v->RelV y u->r x y H Q->
  wpAny (model X.prog X.w) X.A (f v u) (EP X hV Z Q) X.xe s
def UnR(X:Cx)(f:Value->Sem Value)(r:V->Hp->VK->Prop):Prop:=
 ∀(hV:hZ) (s:zAC) (Z:St) (H:Hp) (x:V) (v:Value) (Q:VK),Inv X hV Z H s->RelV x v->r x H Q->
  wpAny (model X.prog X.w) X.A (f v) (EP X hV Z Q) X.xe s
def dN(X:Cx)(f:Value)(r:List V->Hp->VK->Prop):Prop:=
 ∀(hV:hZ) (s:zAC) (Z:St) (H:Hp) (xs:List V) (us:List Value) (Q:VK),Inv X hV Z H s->Vals xs us->r xs H Q->
  wpAny (model X.prog X.w) X.A (call f us) (EP X hV Z Q) X.xe s
def aJ8(X:Cx)(r:V->Hp->(Bool->Hp->Prop)->Prop):Prop:=
 ∀(hV:hZ) (s:zAC) (Z:St) (H:Hp) (x:V) (v:Value) (Q:Bool->Hp->Prop),Inv X hV Z H s->RelV x v->r x H Q->
  wpAny (model X.prog X.w) X.A (truthy v) (TP X hV Z Q) X.xe s
def tOp(r:R2)(ta tb:TE):TE:=λ Z H Q=>ta Z H λ x H1=>tb Z H1 λ y H2=>r x y H2 Q
def tUn(r:V->Hp->VK->Prop)(ta:TE):TE:=λ Z H Q=>ta Z H λ x H1=>r x H1 Q
def rI(C:Int->Int->Prop)(g:Int->Int->V):R2:=λ x y H Q=>∃i j,x= .int i/\y= .int j/\C i j/\Q (g i j) H
def rI0(g:Int->Int->V):R2:=λ x y H Q=>∃i j,x= .int i/\y= .int j/\Q (g i j) H
def rU(g:Int->V):V->Hp->VK->Prop:=λ x H Q=>∃i,x= .int i/\Q (g i) H
section
variable{X:Cx}{a b:Expr}{ta tb:TE}{pos:Pos}
def aIG(ha:PE X a ta)(hb:PE X b tb){hV:hZ}{s:zAC}{Z:St}{H:Hp}{R:V->V->Hp->Prop}(I:Inv X hV Z H s)
  (h:ta Z H λ x H1=>tb Z H1 λ y H2=>R x y H2){Q:Value->zAC->Prop}{f:Value->Value->Sem Value}
  (hf:∀v u s2 x y H2,Inv X hV Z H2 s2->RelV x v->RelV y u->R x y H2->wpAny (model X.prog X.w) X.A (f v u) Q X.xe s2):
  wpAny (model X.prog X.w) X.A (eval a X.env) (λ v z4=>wpAny (model X.prog X.w) X.A (eval b X.env) (λ u zI=>wpAny (model X.prog X.w) X.A (f v u) Q X.xe zI) X.xe z4) X.xe s:=by
 refine thn (ha hV s Z H _ I h) λ v s1 ⟨x,H1,I1,r1,q1⟩=>?_
 refine thn (hb hV s1 Z H1 _ I1 q1) λ u s2 ⟨y,H2,I2,r2,q2⟩=>?_
 exact hf v u s2 x y H2 I2 r1 r2 q2
def aIi{op:Operator}{r:R2}(ho:OpR X (zBv op) r)(ha:PE X a ta)(hb:PE X b tb):PE X (.BinOp a op b pos) (tOp r ta tb):=by
 intro hV s Z H Q I h;exact wpAny_BinOp (aIG ha hb I h λ v u s2 x y H2 I2 rx ry q=>ho hV s2 Z H2 x y v u Q I2 rx ry q)
def aGG(ho:UnR X (unaryOp op) r)(ha:PE X a ta):PE X (.UnaryOp op a pos) (tUn r ta):=by
 intro hV s Z H Q I h;exact UnaryOp_ (thn (ha hV s Z H _ I h) λ v s1 ⟨x,H1,I1,r1,q1⟩=>ho hV s1 Z H1 x v Q I1 r1 q1)
def opI{f:Value->Value->Sem Value}{C:Int->Int->Prop}{g:Int->Int->Int}
  (rule:∀(i j:Int) (t u:Tok) (s:zAC) (Q:Value->zAC->Prop) (E:Value->zAC->Prop),C i j->Q (.int (g i j) s.toks) {s with toks:=s.toks+1}->wpAny (model X.prog X.w) X.A (f (.int i t) (.int j u)) Q E s):
  OpR X f (rI C λ i j=>.int (g i j)):=by
 intro hV s Z H x y v u Q I rx ry h;obtain⟨i,j,rfl,rfl,hc,q⟩:=h;obtain⟨t,rfl⟩:=rx;obtain⟨t',rfl⟩:=ry;exact rule i j t t' s _ _ hc ⟨.int (g i j),H,I.tok _,⟨_,rfl⟩,q⟩
def aIq{f:Value->Value->Sem Value}{g:Int->Int->Int}
  (rule:∀(i j:Int) (t u:Tok) (s:zAC) (Q:Value->zAC->Prop) (E:Value->zAC->Prop),Q (.int (g i j) s.toks) {s with toks:=s.toks+1}->wpAny (model X.prog X.w) X.A (f (.int i t) (.int j u)) Q E s):
  OpR X f (rI0 λ i j=>.int (g i j)):=by
 intro hV s Z H x y v u Q I rx ry h;obtain⟨i,j,rfl,rfl,q⟩:=h;obtain⟨t,rfl⟩:=rx;obtain⟨t',rfl⟩:=ry;exact rule i j t t' s _ _ ⟨.int (g i j),H,I.tok _,⟨_,rfl⟩,q⟩
def aH2{f:Value->Value->Sem Value}{g:Int->Int->Bool}
  (rule:∀(i j:Int) (t u:Tok) (s:zAC) (Q:Value->zAC->Prop) (E:Value->zAC->Prop),Q (.bool (g i j)) s->wpAny (model X.prog X.w) X.A (f (.int i t) (.int j u)) Q E s):
  OpR X f (rI0 λ i j=>.bl (g i j)):=by
 intro hV s Z H x y v u Q I rx ry h;obtain⟨i,j,rfl,rfl,q⟩:=h;obtain⟨t,rfl⟩:=rx;obtain⟨t',rfl⟩:=ry;exact rule i j t t' s _ _ ⟨.bl (g i j),H,I,rfl,q⟩
def aJP(i j:Int):Prop:=0<j/\j<1073741824
def aJa(i j:Int):Prop:=0<=j/\j<=1000000/\i.natAbs<2^64
def aFl(i j:Int):Prop:=(-(2^64)<i/\i<2^64)\/(-(2^64)<j/\j<2^64)
def aFl.ok(h:aFl i j):IntMulOk i j:=by
 rcases h with ⟨h1,h2⟩|⟨h1,h2⟩
 .exact .of_left (intBits_le_64 h1 h2)
 .exact .of_right (intBits_le_64 h1 h2)
def aH1:OpR X (zBv .Add) (rI0 λ i j=>.int (i+j)):=aIq λ _ _ _ _ _ _ _ q=>add_int q
def aHM:OpR X (zBv .Sub) (rI0 λ i j=>.int (i-j)):=aIq λ _ _ _ _ _ _ _ q=>sub_int q
def aHQ:OpR X (zBv .Mult) (rI aFl λ i j=>.int (i*j)):=opI λ _ _ _ _ _ _ _ hc q=>mul_int q hc.ok
def aEr:OpR X (zBv .FloorDiv) (rI aJP λ i j=>.int (i / j)):=opI λ i j _ _ _ _ _ hc q=>by
 have h1:(0:Int)<j:=hc.1;have h2:j<1073741824:=hc.2;exact floordiv_int (by lia) (by rw[Int.fdiv_eq_ediv_of_nonneg i (by lia)];exact q) (.inl (PyProof.noPylong_small (by lia)))
def aHR:OpR X (zBv .Mod) (rI (λ _ j=>0<j) λ i j=>.int (i%j)):=opI λ i j _ _ _ _ _ hc q=>by
 have h1:(0:Int)<j:=hc;exact mod_int' (by lia) (by rw[Int.fmod_eq_emod_of_nonneg i (by lia)];exact q)
def aHO:OpR X (zBv .Pow) (rI aJa λ i j=>.int (i^j.toNat)):=opI λ _ _ _ _ _ _ _ hc q=>pow_int_small hc.1 hc.2.1 hc.2.2 q
def unI{f:Value->Sem Value}{g:Int->Int}
  (rule:∀(i:Int) (t:Tok) (s:zAC) (Q:Value->zAC->Prop) (E:Value->zAC->Prop),Q (.int (g i) s.toks) {s with toks:=s.toks+1}->wpAny (model X.prog X.w) X.A (f (.int i t)) Q E s):
  UnR X f (rU λ i=>.int (g i)):=by
 intro hV s Z H x v Q I rx h;obtain⟨i,rfl,q⟩:=h;obtain⟨t,rfl⟩:=rx;exact rule i t s _ _ ⟨.int (g i),H,I.tok _,⟨_,rfl⟩,q⟩
def aBx:UnR X (unaryOp .USub) (rU λ i=>.int (-i)):=unI λ _ _ _ _ _ q=>neg_int q
end
section
variable{X:Cx}{a b c:Expr}{ta tb tc:TE}{pos:Pos}
def aD4(I:Inv X hV Z H s)(q:Q (.bl k) H)(e:k=k'):EP X hV Z Q (.bool k') s:=by
 subst e;exact⟨.bl k,H,I,rfl,q⟩
def aIn:OpR X (zAk .Lt) (rI0 λ i j=>.bl (decide (i<j))):=aH2 λ _ _ _ _ _ _ _ q=>lt_int q
def aIo:OpR X (zAk .LtE) (rI0 λ i j=>.bl (decide (i<=j))):=aH2 λ _ _ _ _ _ _ _ q=>le_int q
def aIp:OpR X (zAk .GtE) (rI0 λ i j=>.bl (decide (j<=i))):=aH2 λ _ _ _ _ _ _ _ q=>ge_int q
def aHX:OpR X (zAk .Is) (λ x y H Q=>y= .non/\Q (.bl (decide (x= .non))) H):=by
 intro hV s Z H x y v u Q I rx ry h;obtain⟨rfl,q⟩:=h;cases ry;refine is_none_gen (aD4 I q ?_);cases x<;>first
  |(cases rx;rfl)
  |(obtain⟨t,rfl⟩:=rx;rfl)
def isObj:HO->Bool
 | .lst _=>true
 | .ins _ _ _=>true
 |_=>false
def aCr(b:Expr)(h:op≠.In:=by decide)(h2:op≠.NotIn:=by decide):zC3 op b=false:=by
 have e1:(op==CmpOp.In)=false:=by cases op<;>first|rfl|exact absurd rfl h
 have e2:(op==CmpOp.NotIn)=false:=by cases op<;>first|rfl|exact absurd rfl h2
 cases b<;>simp[zC3,e1,e2]
def aEk{op:CmpOp}{r:R2}(ho:OpR X (zAk op) r)(ha:PE X a ta)(hb:PE X b tb)(hm:zC3 op b=false):PE X (.Compare a [op] [b] pos) (tOp r ta tb):=by
 intro hV s Z H Q I h;exact wpAny_Compare1 (aIG ha hb I h λ v u s2 x y H2 I2 rx ry q=>ho hV s2 Z H2 x y v u Q I2 rx ry q) hm
def aFm(t:TE):TT:=λ Z H Q=>t Z H λ x H'=>∃k,x= .bl k/\Q k H'
def aE6(ho:OpR X (zAk op) r)(ha:PE X a ta)(hb:PE X b tb)(hm:zC3 op b=false):PT X (.Compare a [op] [b] pos) (aFm (tOp r ta tb)):=by
 intro hV s Z H Q I h;refine wpAny_isTrue_Compare1 (thn (ha hV s Z H _ I h) λ v s1 ⟨x,H1,I1,r1,q1⟩=>thn (hb hV s1 Z H1 _ I1 q1) λ u s2 ⟨y,H2,I2,r2,q2⟩=>
  thn (ho hV s2 Z H2 x y v u _ I2 r1 r2 q2) λ c s3 ⟨z,H3,I3,r3,k,e,q3⟩=>?_) hm
 subst e;cases r3;exact zB7 ⟨H3,I3,q3⟩
def aCC(r r':R2)(ta tb tc:TE):TE:=λ Z H Q=>ta Z H λ x H1=>tb Z H1 λ y H2=>r x y H2 λ z H3=>∃k,z= .bl k/\
 (if k=true then tc Z H3 λ w' H4=>r' y w' H4 Q else Q (.bl false) H3)
def aCh(ho:OpR X (zAk op) r)(ho':OpR X (zAk op') r')(ha:PE X a ta)(hb:PE X b tb)(hc:PE X c tc)
  (hm:zGJ [op,op'] [b,c]=false:=by with_unfolding_all rfl):PE X (.Compare a [op,op'] [b,c] pos) (aCC r r' ta tb tc):=by
 intro hV s Z H Q I h;refine Compare_chain (thn (ha hV s Z H _ I h) λ v s1 ⟨x,H1,I1,r1,q1⟩=>chain_link (thn (hb hV s1 Z H1 _ I1 q1) λ u s2 ⟨y,H2,I2,r2,q2⟩=>
  thn (ho hV s2 Z H2 x y v u _ I2 r1 r2 q2) λ d s3 ⟨z,H3,I3,r3,k,e,q3⟩=>?_)) hm
 subst e;cases r3;refine zB7 ?_;cases k with
 |false=>exact ite_ff ⟨.bl false,H3,I3,rfl,q3⟩
 |true=>exact ite_tt (chain_last (thn (hc hV s3 Z H3 _ I3 q3) λ w' s4 ⟨z',H4,I4,r4,q4⟩=>ho' hV s4 Z H4 y z' u w' Q I4 r2 r4 q4))
def aIL(K:zAA)(x:V)(H:Hp)(k:Bool):Prop:=
 match x with
 | .non=>k=false
 | .bl b=>k=b
 | .int i=>k=(i !=0)
 | .str y=>y.length<=zAN/\k=((y.length:Int)!=0)
 | .byt y=>y.size<=zAN/\k=((y.size:Int)!=0)
 | .ref p=>(∃xs,SqL K H p xs/\k= !xs.isEmpty)\/(∃xs,SqT K H p xs/\k= !xs.isEmpty)\/∃kvs,H p=some (.dK kvs)/\k= !kvs.isEmpty
 |_=>False
def aAD(r:KV kvs vs):(!vs.isEmpty)= !kvs.isEmpty:=by
 cases r<;>rfl
def sX(r:Vals xs its):(!its.toArray.isEmpty)= !xs.isEmpty:=by
 cases r<;>simp
def mR:(zAN:Nat)<2^63:=by rw[zDl];decide
def aG1:aJ8 X (λ x H Q=>∃k,aIL X.K x H k/\Q k H):=by
 intro hV s Z H x v Q I rx h;obtain⟨k,e,q⟩:=h;have hl:=mR;have hs:zAN=16777216:=zDl;cases x with
 |non=>
  cases rx;have e':k=false:=e;subst e';exact truthy_none ⟨H,I,q⟩
 |bl b=>
  cases rx;have e':k=b:=e;subst e';exact zB7 ⟨H,I,q⟩
 |int i=>
  obtain⟨t,rfl⟩:=rx;have e':k=(i !=0):=e;subst e';exact PySem.P.truthy_int ⟨H,I,q⟩
 |str y=>
  obtain⟨t,rfl⟩:=rx;obtain⟨hy,e'⟩:y.length<=zAN/\k=((y.length:Int)!=0):=e;subst e';exact PySem.P.truthy_str (by lia) ⟨H,I.tok _,q⟩
 |byt y=>
  obtain⟨t,rfl⟩:=rx;obtain⟨hy,e'⟩:y.size<=zAN/\k=((y.size:Int)!=0):=e;subst e';exact PySem.W.truthy_bytes (by lia) ⟨H,I.tok _,q⟩
 |ref p=>
  cases rx;have e':(∃xs,SqL X.K H p xs/\k= !xs.isEmpty)\/(∃xs,SqT X.K H p xs/\k= !xs.isEmpty)\/∃kvs,H p=some (.dK kvs)/\k= !kvs.isEmpty:=e
  rcases e' with ⟨xs,hx,e'⟩|⟨xs,hx,e'⟩|⟨kvs,hx,e'⟩
  .subst e'
   obtain⟨its,r,pl,hz⟩:=I.list hx;have hW:=r.length;exact wpAny_truthy_list pl.isList (by simp only[zAI];lia) ⟨H,I.tok _,by rw[sX r];exact q⟩
  .subst e'
   obtain⟨its,r,pl,hz⟩:=I.tuple hx;have hW:=r.length;exact truthy_tuple pl (by simp only[zAI];lia) ⟨H,I.tok _,by rw[sX r];exact q⟩
  .subst e'
   obtain⟨hz,hS,vs,r,m⟩:kvs.length<=zAN/\(p==zCe)=false/\∃vs,KV kvs vs/\s.heap.DictOf (cG X.prog X.w) p vs:=I.hok p _ hx
   have hW:kvs.length=vs.length:=zDu r;exact wpAny_truthy_dict hS m (by lia) ⟨H,I.tok _,by rw[aAD r];exact q⟩
 |_=>exact(show False from e).elim
def aC7(ha:PE X a ta)(he:∀whole,isTrue a X.env whole=(do let v <-whole;zFn a.pos;zCU [v] (truthy v))):
  PT X a (λ Z H Q=>ta Z H λ x H'=>∃k,aIL X.K x H' k/\Q k H'):=by
 intro hV s Z H Q I h;exact isTrue_plain (thn (ha hV s Z H _ I h) λ v s1 ⟨x,H1,I1,r1,q1⟩=>aG1 hV s1 Z H1 x v Q I1 r1 q1) (he _)
def vals1(r:Vals [x] us):∃u,us=[u]/\RelV x u:=by
 cases r with
 |cons r1 r2=>cases r2;exact⟨_,rfl,r1⟩
def vals2(r:Vals [x,y] us):∃u w',us=[u,w']/\RelV x u/\RelV y w':=by
 cases r with
 |cons r1 r2=>
  cases r2 with
  |cons r3 r4=>cases r4;exact⟨_,_,rfl,r1,r3⟩
def aBk(hc:X.calm=true):dN X (.builtin "max") (λ xs H Q=>∃i j,xs=[.int i,.int j]/\Q (.int (if j>i then j else i)) H):=by
 intro hV s Z H xs us Q I r h;obtain⟨i,j,rfl,q⟩:=h;obtain⟨u,w',rfl,⟨t,rfl⟩,⟨t',rfl⟩⟩:=vals2 r;refine max_two_ints (I.ok.hd hc) λ h' tk k=>⟨_,H,I.kept k,?_,q⟩
 by_cases hj:j>i
 .rw[if_pos hj,if_pos hj];exact⟨_,rfl⟩
 .rw[if_neg hj,if_neg hj];exact⟨_,rfl⟩
def aBi(hc:X.calm=true):dN X (.builtin "min") (λ xs H Q=>∃i j,xs=[.int i,.int j]/\Q (.int (if j<i then j else i)) H):=by
 intro hV s Z H xs us Q I r h;obtain⟨i,j,rfl,q⟩:=h;obtain⟨u,w',rfl,⟨t,rfl⟩,⟨t',rfl⟩⟩:=vals2 r;refine min_two_ints (I.ok.hd hc) λ h' tk k=>⟨_,H,I.kept k,?_,q⟩
 by_cases hj:j<i
 .rw[if_pos hj,if_pos hj];exact⟨_,rfl⟩
 .rw[if_neg hj,if_neg hj];exact⟨_,rfl⟩
end
structure aFh(h:Heap)(x dx C:Addr)(mA:Str->Option Value):Prop where
 obj:h.get? x=some (zBh C dx)
 ns:h.Ns1 dx mA
 ne:dx≠x
def aBY{h:Heap}{dx:Addr}{mA:Str->Option Value}(n:h.Ns1 dx mA):∃od,h.get? dx=some od/\∀name,zDe name od=some (mA name):=by
 obtain⟨o,es,ep,ho,hd,hk,_,hm⟩:=n;refine⟨o,ho,λ name=>?_⟩;have e:=hm name;unfold nsFind findBy at e;rw[<-Array.find?_toList]at e;unfold zDe;rw[hd];dsimp only;split
 .rename_i y q
  rw[q]at e;exact congrArg some e
 .rename_i q
  rw[q]at e;have a:es.toList.any (·.refKey)=false:=by
   rw[List.any_eq_false];intro y hy;obtain⟨z,t,hkey⟩:=hk y (Array.mem_toList_iff.mp hy);simp[DictEntry.refKey,hkey]
  have a':¬es.toList.any (·.refKey)=true:=by rw[a];exact zA8
  rw[if_neg a'];exact congrArg some e
def aFh.look(I:aFh h x dx C mA):∃od,zFt h x (zBh C dx) C (some od)/\∀name,zDe name od=some (mA name):=
 let⟨od,ho,hl⟩:=aBY I.ns
 ⟨od,⟨I.obj,rfl,rfl,ho⟩,hl⟩
section
variable{prog:zAO}{w:World}{A:zA3}{E:Value->zAC->Prop}{s:zAC}{K:zAA}{x dx C f:Addr}{mA:Str->Option Value}{name:Str}
def aDY(X:K.In s.heap)(I:aFh s.heap x dx C mA)(hg:zEI K C name=true)
  (hf:zBL K (.ref C) name=some (some (.ref f)))(ht:zGN K (.ref f)=true)(hv:mA name=none)(h:Q (.ref f,[.ref x]) s):
  wpAny (model prog w) A (getMethod (.ref x) name pl) Q E s:=by
 obtain⟨od,J,hl⟩:=I.look;exact PySem.W.method_fn X J (zFG hg).1 (zFG hg).2 hf (beq_iff_eq.mp ht) (by show(zDe name od).map (·.isSome)=some false;rw[hl,hv];rfl) h
def make_map(X:K.In s.heap)(hm:PySem.W.makesIn K C=true)
  (hi:zBL K (.ref C) "__init__"=some (some (.ref f)))(hf:PySem.W.typeIn K (.ref f)=some (.type "function"))
  (h:zCI (model prog w) (A.under (.builtin "type.__call__" ⟨.ref C::vs,kw⟩)) (.call (.ref f) ⟨.ref (s.heap.objs.size+1)::vs,kw⟩) (PySem.W.InitBack (s.heap.objs.size+1) R)
   {s with heap:=(s.heap.push zBQ).push (zBh C s.heap.objs.size)}):
  zCI (model prog w) A (.call (.ref C) ⟨vs,kw⟩) R s:=by
 obtain⟨hh,g,d,t,os⟩:=s;exact PySem.W.make_core (PySem.W.makes_of X hm) (zCn X hi) (λ self=>PySem.W.bind_fn X self hf) (.inl rfl) h
end
def ni.some_of(r:ni (some v) o):∃u,o=some u/\RelV v u:=by
 cases o with
 |none=>exact(show False from r).elim
 |some u=>exact⟨u,rfl,r⟩
def ni.none_of(r:ni none o):o=none:=by
 cases o with
 |none=>rfl
 |some u=>exact(show False from r).elim
section
variable{P:zAO}{w:World}{H:Hp}{h:Heap}{a C dx:Addr}{fs:List (Str×V)}
def aAm(hok:HOk P w H h)(e:H a=some (.ins C dx fs)):∃mA,aFh h a dx C mA/\(∀f,ni (fs.lookup f) (mA f))/\zG2 mA (fs.map (·.1))/\fs.length<=1000/\H dx=some (.own a):=by
 obtain⟨d,z,ne,ob,mA,n,r,q⟩:=(show cA P w H h a (.ins C dx fs)from hok a _ e);exact⟨mA,⟨ob,n,ne⟩,r,q,z,d⟩
end
structure Cls(K:zAA)(C:Addr):Prop where
 pg:zEI K C Str.empty=true
 hd:PySem.W.hasDictIn K C=true
 po:PySem.W.plainOver K C=true
 sa:zBL K (.ref C) "__setattr__"=some (some (.builtin "object.__setattr__"))
def Cls.get{K:zAA}{C:Addr}(c:Cls K C)(f:Str):zEI K C f=true:=c.pg
def aIT(K:zAA)(C:Addr)(f:Str):Prop:=zBL K (.ref C) f=some none
structure Meth(K:zAA)(C:Addr)(m:Str)(f:Addr):Prop where
 at_:zBL K (.ref C) m=some (some (.ref f))
 fn:zGN K (.ref f)=true
 kp:zCd K (.ref f)=true
section
variable{X:Cx}{hV:hZ}{Z:St}{H:Hp}{s:zAC}{a C dx:Addr}{fs:List (Str×V)}{A:zA3}{E:Value->zAC->Prop}
def aAG(I:Inv X hV Z H s)(e:H a=some (.ins C dx fs))(c:Cls X.K C)(k:Meth X.K C m g)(l:fs.lookup m=none)
  (h:Q (.ref g,[.ref a]) s):wpAny (model X.prog X.w) A (getMethod (.ref a) m pl) Q E s:=by
 obtain⟨mA,O,r,_,_,_⟩:=aAm I.hok e;have hn:mA m=none:=ni.none_of (by rw[<-l];exact r m);exact aDY I.kIn O (c.get m) k.at_ k.fn hn h
def Inv.made(I:Inv X hV Z H s):Inv X hV Z (upd (upd H s.heap.objs.size (.own (s.heap.objs.size+1))) (s.heap.objs.size+1) (.ins C s.heap.objs.size []))
  {s with heap:=(s.heap.push zBQ).push (zBh C s.heap.objs.size)}:=by
 have e1:(s.heap.push zBQ).get? s.heap.objs.size=some zBQ:=zAW s.heap rfl;have e2:((s.heap.push zBQ).push (zBh C s.heap.objs.size)).get? (s.heap.objs.size+1)=some (zBh C s.heap.objs.size):=by
  have:=zAW (s.heap.push zBQ) (o:=zBh C s.heap.objs.size) rfl
  rwa [zBf]at this
 have e3:(s.heap.push zBQ).Ns s.heap.objs.size (λ _=>none):=⟨zBQ,#[],_,e1,rfl,(λ e he=>absurd he (by simp)),λ _=>rfl⟩;have I1:=I.laid (a:=s.heap.objs.size) (o:=.own (s.heap.objs.size+1)) (h':=s.heap.push zBQ) (t':=s.toks) (λ b u q=>zAF _ q) (zAT _) ⟨_,e1⟩;refine I1.laid (a:=s.heap.objs.size+1) (o:=.ins C s.heap.objs.size []) (t':=s.toks) (λ b u q=>zAF _ q) (Nat.le_of_eq (zBf _ _)) ?_;have ne:s.heap.objs.size≠s.heap.objs.size+1:=zA5 (zBX _);refine⟨by rw[aW ne,aa],zAo _,ne,e2,λ _=>none,(Heap.Ns1.of_empty e3).at λ o q=>zAF _ q,λ _=>zCN,λ y hy=>absurd rfl hy⟩
end
def tFld(K:zAA)(ta:TE)(f:Str):TE:=λ Z H Q=>ta Z H λ x H1=>∃a C dx fs v,x= .ref a/\H1 a=some (.ins C dx fs)/\Cls K C/\aIT K C f/\fs.lookup f=some v/\Q v H1
section
variable{X:Cx}{e:Expr}{f:Str}{pos:Pos}
def methcall_of(he:PE X e te)(I:Inv X hV Z H s)
  (h:te Z H λ x H1=>∃a C dx fs g,x= .ref a/\H1 a=some (.ins C dx fs)/\Cls X.K C/\Meth X.K C m g/\fs.lookup m=none/\
   ∀s1,Inv X hV Z H1 s1->wpAny (model X.prog X.w) X.A (callWith pos (.ref g) [.ref a] (zBg pos (zAS args X.env)) (zD0 pos (zCV [] X.env))) Q X.xe s1)
  (ht:eval (.Call (.Attribute e m apos) args [] pos) X.env=(do
   let ov <-eval e X.env
   zFn apos.atName
   let(f,first) <-zCU [ov] (getMethod ov m pl)
   callWith pos f first (zBg pos (zAS args X.env)) (zD0 pos (zCV [] X.env)))):
  wpAny (model X.prog X.w) X.A (eval (.Call (.Attribute e m apos) args [] pos) X.env) Q X.xe s:=by
 refine PySem.W.methodCall_KW (pl:=pl) (thn (he hV s Z H _ I h) λ u s1 ⟨x,H1,I1,rx,a,C,dx,fs,g,ex,ea,c,k,l,q⟩=>?_) ht;subst ex;obtain rfl:u=zB0 a:=rx;exact aAG I1 ea c k l (q s1 I1)
end
section
variable{X:Cx}{hV:hZ}{Z:St}{H:Hp}{s:zAC}{A:zA3}{E:Value->zAC->Prop}{Q:Value->zAC->Prop}{c:Value}{b:Bool}
inductive pN(K:zAA)(H:Hp):V->Value->Prop where
 |non:pN K H .non (.type "NoneType")
 |bl (x:Bool):pN K H (.bl x) (.type "bool")
 |int (i:Int):pN K H (.int i) (.type "int")
 |str (x:Str):pN K H (.str x) (.type "str")
 |flt (x:UInt64):pN K H (.flt x) (.type "float")
 |lst {a:Addr} {xs:List V} (e:H a=some (.lst xs)):pN K H (.ref a) (.type "list")
 |frz {a:Addr} {o:Obj} {xs:List V} (e:H a=some (.frz o (.lst xs))):pN K H (.ref a) (.type "list")
 |tup {a:Addr} {xs:List V} (e:H a=some (.tup xs)):pN K H (.ref a) (.type "tuple")
 |dK {a:Addr} {kvs:List (Key×V)} (e:H a=some (.dK kvs)):pN K H (.ref a) (.type "dict")
 |dT {a:Addr} {kvs:List (List Key×V)} (e:H a=some (.dT kvs)):pN K H (.ref a) (.type "dict")
 |ins {a C dx:Addr} {fs:List (Str×V)} (e:H a=some (.ins C dx fs)) (cl:Cls K C) (ha:zBL K (.ref C) "__class__"=some (some (.builtin "object.__class__")))
   (hn:PySem.W.specialIn K (.builtin "object.__class__") "__get__"=some (some (.builtin "getset_descriptor.__get__"))) (htk:PySem.W.takesIn K (.builtin "object.__class__")=some true)
   (hm:PySem.W.mroIn K C (.type "object")=some true):pN K H (.ref a) (.ref C)
def aB6(I:Inv X hV Z H s)(rx:RelV x u)(ty:pN X.K H x t)(e:zDH X.K t c=some b)(h:∀tk,Q (.bool b) {s with toks:=tk}):
  wpAny (model X.prog X.w) A (call (.builtin "isinstance") [u,c]) Q E s:=by
 cases ty with
 |non=>cases (show u=zBY from rx);exact zAu PySem.W.kitx_none I.kIn zCN e (λ z=>nomatch z) h
 |bl y=>cases (show u=zDN y from rx);exact zAu PySem.W.kitx_bool I.kIn zCN e (λ z=>nomatch z) h
 |int i=>obtain⟨t,q⟩:=(show∃t,u=zDO i t from rx);cases q;exact zAu PySem.W.kitx_int I.kIn zCN e (λ z=>nomatch z) h
 |str y=>obtain⟨t,q⟩:=(show∃t,u=zFI y t from rx);cases q;exact zAu PySem.W.kitx_str I.kIn zCN e (λ z=>nomatch z) h
 |flt y=>obtain⟨t,q⟩:=(show∃t,u=zGb y t from rx);cases q;exact zAu PySem.W.kitx_float I.kIn zCN e (λ z=>nomatch z) h
 |@lst a xs ea=>
  cases (show u=zB0 a from rx);obtain⟨_,_,n,_,h1⟩:=(show cA X.prog X.w H s.heap a (.lst xs)from I.hok a _ ea);exact zAu zF6 I.kIn ⟨_,h1,rfl⟩ e (λ z=>nomatch z) h
 |@frz a ob xs ea=>
  cases (show u=zB0 a from rx);obtain⟨_,_,_,n,_,h1⟩:=(show cA X.prog X.w H s.heap a (.frz ob (.lst xs))from I.hok a _ ea);exact zAu zF6 I.kIn ⟨_,h1,rfl⟩ e (λ z=>nomatch z) h
 |@tup a xs ea=>
  cases (show u=zB0 a from rx);obtain⟨_,_,_,p⟩:=(show cA X.prog X.w H s.heap a (.tup xs)from I.hok a _ ea);obtain⟨o,h1,h2,_⟩:=p;exact zAu zFX I.kIn ⟨o,h1,h2⟩ e (λ z=>nomatch z) h
 |@dK a kvs ea=>
  cases (show u=zB0 a from rx);obtain⟨_,_,vs,_,p⟩:=(show cA X.prog X.w H s.heap a (.dK kvs)from I.hok a _ ea);obtain⟨o,es,ep,h1,h2,_⟩:=p;exact zAu zDw I.kIn ⟨o,h1,h2.1⟩ e (λ z=>nomatch z) h
 |@dT a kvs ea=>
  cases (show u=zB0 a from rx);obtain⟨_,_,xs,_,o,es,ep,h1,h2,_⟩:=(show cA X.prog X.w H s.heap a (.dT kvs)from I.hok a _ ea);exact zAu zDw I.kIn ⟨o,h1,h2.1⟩ e (λ z=>nomatch z) h
 |@ins a C dx fs ea cl ha hn htk hm=>
  cases (show u=zB0 a from rx);obtain⟨mA,O,_⟩:=aAm I.hok ea;obtain⟨od,J,_⟩:=O.look;exact zAu (PySem.W.kitx_own (cl.get _) cl.hd ha hn htk hm) I.kIn J e (λ z=>nomatch z) h
end
structure fD(k:Nat)(A:zA3):Prop where
 hd:A.handled=none
 dp:A.depth+3*k+5<zF8
 un:A.units+16*k+200<cLine
def fD.mono(r:fD k A)(h:j<=k):fD j A:=⟨r.hd,by have:=r.dp;lia,by have:=r.un;lia⟩
theorem fD.deeper(r:fD (k+1) A)(env:Env):fD k (A.deeper env):=
 ⟨r.hd,by have:=r.dp;show A.depth+1+3*k+5<_;lia,by have:=r.un;show A.units+3+16*k+200<_;lia⟩
theorem fD.in1(r:fD (k+1) A):fD k A.in1:=
 ⟨r.hd,by have:=r.dp;show A.depth+3*k+5<_;lia,by have:=r.un;show A.units+1+16*k+200<_;lia⟩
theorem fD.depth(r:fD k A):A.depth<zF8:=by have:=r.dp;lia
theorem fD.units(r:fD k A):A.units+64<cLine:=by have:=r.un;lia
def fD.units0(r:fD k A):A.units<cLine:=by have:=r.un;lia
def lr:TA:=λ _ H Q=>Q [] H
def eU(ta:TE)(tr:TA):TA:=λ Z H Q=>ta Z H λ x H1=>tr Z H1 λ xs H2=>Q (x::xs) H2
section
variable{X:Cx}{e:Expr}{es:List Expr}{te:TE}{t:TA}{pos:Pos}
def jE:PA X [] lr:=λ _ _ _ _ H Q I h=>Calls.spliced_nil ⟨[],H,I,.nil,h⟩
def dg(ha:PE X e te)(hr:PA X es t)(hs:zAS (e::es) X.env=(false,eval e X.env)::zAS es X.env:=by rfl):PA X (e::es) (eU te t):=by
 intro pos hV s Z H Q I h;rw[hs];show wpAny _ _ (spliced ((false,eval e X.env)::zBg pos (zAS es X.env))) _ _ s;refine Calls.spliced_cons (thn (ha hV s Z H _ I h) λ u s1 ⟨x,H1,I1,r1,q1⟩=>?_);exact thn (hr pos hV s1 Z H1 _ I1 q1) λ us s2 ⟨xs,H2,I2,r2,q2⟩=>⟨x::xs,H2,I2,.cons r1 r2,q2⟩
def aJS(t:TA):TE:=λ Z H Q=>t Z H λ xs H1=>xs.length<=zAN/\∀p,H1 p=none->Q (.ref p) (upd H1 p (.tup xs))
def aJW(t:TA):TE:=λ Z H Q=>t Z H λ xs H1=>xs.length<=zAN/\∀p,H1 p=none->Q (.ref p) (upd H1 p (.lst xs))
def aHA{x1}(h:PA X es t):PE X (.Tuple es x1 pos) (aJS t):=by
 intro hV s Z H Q I hq;refine wpAny_Tuple_spliced (thn (h pos hV s Z H _ I hq) λ us s1 ⟨xs,H1,I1,r,z,q⟩=>⟨by rw[<-r.length];exact z,?_⟩);have hf:H1 s1.heap.objs.size=none:=I1.hok.fresh (zAT _);refine⟨.ref s1.heap.objs.size,upd H1 s1.heap.objs.size (.tup xs),I1.laid (t':=s1.toks) (λ b u e=>zAF _ e) (zAT _) ?_,rfl,q _ hf⟩;exact⟨⟨z,NoD.push _⟩,us,r,⟨_,zAW _ rfl,rfl,_,rfl⟩⟩
def aHG(h:PA X es t):PE X (.List es pos) (aJW t):=by
 intro hV s Z H Q I hq;refine wpAny_List_spliced (thn (h pos hV s Z H _ I hq) λ us s1 ⟨xs,H1,I1,r,z,q⟩=>⟨by rw[<-r.length];exact z,?_⟩);have hf:H1 s1.heap.objs.size=none:=I1.hok.fresh (zAT _);refine⟨.ref s1.heap.objs.size,upd H1 s1.heap.objs.size (.lst xs),I1.laid (t':=s1.toks) (λ b u e=>zAF _ e) (zAT _) ?_,rfl,q _ hf⟩;exact⟨z,us,0,r,zAW _ rfl⟩
end
abbrev Sp:=List V->Hp->VK->XK->Prop
abbrev CXT:=List Env->Hp->zAC->XK->Value->zAC->Prop
structure yg(P:zAO)(w:World)(K:zAA)(mg:Str->Option Value)(base:Heap)(A:zA3)(outer:List Env)(s:zAC)(H:Hp):Prop where
 frames:A.frames=some outer
 mod:Mod K mg base
 bs:∀b o,base.get? b=some o->s.heap.get? b=some o/\H b=none
 bsz:base.objs.size<=s.heap.objs.size
 funs:s.heap.FunFrames base outer
 frf:∀b∈frs outer,H b=none
 hok:HOk P w H s.heap
 bare:zDv s.gens
def CE(outer:List Env)(P:zAO)(w:World)(H:Hp)(s:zAC)(Q:VK)(u:Value)(s':zAC):Prop:=
 ∃v H',s'.os=s.os/\zDv s'.gens/\Un (frs outer) [] H H' s.heap s'.heap/\HOk P w H' s'.heap/\RelV v u/\Q v H'
def CR(CX:CXT)(outer:List Env)(P:zAO)(w:World)(H:Hp)(s:zAC)(Q:VK)(E:XK)(r:zDy)(s':zAC):Prop:=
 match r with
 | .ok (.ret u)=>CE outer P w H s Q u s'
 | .ok _=>False
 | .error e=>CX outer H s E e s'
structure bj(P:zAO)(w:World)(K:zAA)(mg:Str->Option Value)(base:Heap)(CX:CXT)(k:Nat)(f:Addr)(fd:zAa)(ps:List Str)(sp:Sp):Prop where
 len:∀vs H Q E,sp vs H Q E->vs.length=ps.length
 run:∀(A:zA3) (outer:List Env) (s:zAC) (H:Hp) (args:Args) (us:List Value) (vs:List V) (Q:VK) (E:XK),fD k A->yg P w K mg base A outer s H->zEa s fd args (ps.zip us)->Vals vs us->sp vs H Q E->
  zCI (model P w) A (.call (.ref f) args) (CR CX outer P w H s Q E) s
def bj.imp{P:zAO}{w:World}{K:zAA}{mg:Str->Option Value}{base:Heap}{CX:CXT}{k:Nat}{f:Addr}{fd:zAa}{ps:List Str}{sp sp':Sp}(F:bj P w K mg base CX k f fd ps sp)
  (h:∀vs H Q E,sp' vs H Q E->sp vs H Q E):bj P w K mg base CX k f fd ps sp':=
 ⟨λ vs H Q E q=>F.len vs H Q E (h _ _ _ _ q),λ A outer s H args us vs Q E hr he hb hv hs=>F.run A outer s H args us vs Q E hr he hb hv (h _ _ _ _ hs)⟩
theorem yg.in1{P:zAO}{w:World}{K:zAA}{mg:Str->Option Value}{base:Heap}{A:zA3}{outer:List Env}{s:zAC}{H:Hp}(e:yg P w K mg base A outer s H):
  yg P w K mg base A.in1 outer s H:=⟨e.frames,e.mod,e.bs,e.bsz,e.funs,e.frf,e.hok,e.bare⟩
section
variable{X:Cx}{hV:hZ}{Z:St}{H:Hp}{s s':zAC}
def Inv.env0(I:Inv X hV Z H s):yg X.prog X.w X.K X.mg X.base X.A X.stack s H:=
 ⟨I.ok.frames,I.ok.mod,I.bs,zAi I.ok.bsz I.sz,I.stack,I.stkFree,I.hok,I.bare⟩
def Inv.after(I:Inv X hV Z H s)(h:CE X.stack X.prog X.w H s Q u s'):EP X hV Z Q u s':=by
 obtain⟨v,H',os,bare,un,hok,r,q⟩:=h;obtain⟨hh,g,d,t,os'⟩:=s';obtain rfl:os'=s.os:=os;exact⟨v,H',I.call (h':=hh) (g':=g) (d':=d) (t':=t) (ch:=[]) un hok bare (λ b z=>absurd z (by simp)),r,q⟩
end
def aCD(sp:Sp)(dvs:List V)(E:XK)(t:TA):TE:=λ Z H Q=>t Z H λ vs H1=>sp (vs++dvs) H1 Q E
def tMeth(C:Addr)(m:Str)(sp:Sp)(dvs:List V)(E:XK)(ta:TE)(t:TA):TE:=λ Z H Q=>ta Z H λ x H1=>∃a dx fs,x= .ref a/\H1 a=some (.ins C dx fs)/\fs.lookup m=none/\
 t Z H1 λ vs H2=>sp (x::(vs++dvs)) H2 Q E
def tMake(C:Addr)(sp:Sp)(dvs:List V)(E:XK)(t:TA):TE:=λ Z H Q=>t Z H λ vs H1=>∀x dx,H1 x=none->H1 dx=none->dx≠x->
 sp (.ref x::(vs++dvs)) (upd (upd H1 dx (.own x)) x (.ins C dx [])) (λ v H2=>v= .non/\Q (.ref x) H2) E
def Binds(K:zAA)(fd:zAa)(ps:List Str)(ds:List Value):Prop:=
 ∀(s:zAC) (us:List Value),K.In s.heap->(us++ds).length=ps.length->zEa s fd ⟨us,[]⟩ (ps.zip (us++ds))
def Binds.all{K:zAA}{fd:zAa}{ps:List Str}(h:∀us:List Value,us.length=ps.length->zFi fd ⟨us,[]⟩=pure (ps.zip us)):Binds K fd ps []:=λ s us _ hl=>by
 rw[zAv]at hl ⊢;exact .of_eq (h us hl)
def wO(CX:CXT)(X:Cx)(E:XK):Prop:=∀(hV:hZ) (Z:St) (H:Hp) (s:zAC) (e:Value) (s':zAC),Inv X hV Z H s->CX X.stack H s E e s'->X.xe e s'
section
variable{X:Cx}{CX:CXT}{k:Nat}{f:Addr}{fd:zAa}{ps:List Str}{sp:Sp}{dvs:List V}{ds:List Value}{E:XK}{x:Str}{p pos:Pos}{e:Expr}{es:List Expr}{t:TA}
def aGh(F:bj X.prog X.w X.K X.mg X.base CX k f fd ps sp)(hr:fD k X.A)(hb:Binds X.K fd ps ds)(hd:Vals dvs ds)(hx:wO CX X E)
  (I:Inv X hV Z H s)(r:Vals vs us)(h:sp (vs++dvs) H Q E):wpAny (model X.prog X.w) X.A (call (.ref f) us) (EP X hV Z Q) X.xe s:=by
 have r2:Vals (vs++dvs) (us++ds):=r.append hd;have hl:(us++ds).length=ps.length:=by rw[<-r2.length];exact F.len _ _ _ _ h
 refine zGj (zEl (F.run X.A X.stack s H ⟨us,[]⟩ (us++ds) (vs++dvs) Q E hr I.env0 (hb s us I.kIn hl) r2 h) λ r s' hq=>?_);cases r with
 |error e=>exact hx hV Z H s e s' I hq
 |ok fl=>
  cases fl with
  |ret u=>exact I.after hq
  |next=>exact zAH hq
  |brk=>exact zAH hq
  |cont=>exact zAH hq
def aA8(F:bj X.prog X.w X.K X.mg X.base CX k f fd ps sp)(hr:fD k X.A)(hg:Gl X x)(hm:X.mg x=some (.ref f))(hk:zCd X.K (.ref f)=true)(hb:Binds X.K fd ps ds)(hd:Vals dvs ds)(hx:wO CX X E)
  (ha:PA X (e::es) t)(hdb:Nd x:=by decide)(he:zAS (e::es) X.env=(false,eval e X.env)::zAS es X.env:=by rfl)(hpl:(zBg pos (zAS es X.env)).any (·.1)=false:=by rfl):
  PE X (.Call (.Name x p) (e::es) [] pos) (aCD sp dvs E t):=by
 intro hV s Z H Q I h;refine zCi (vp I hg hm ?_ hdb);refine PySem.W.callWith_K (h₀:=X.base) I.ok.mod.kin hk (thn (ha pos hV s Z H _ I h) λ us s1 ⟨vs,H1,I1,r,q⟩=>⟨I1.kIn,?_⟩) he hpl;exact aGh F hr hb hd hx I1 r q
end
def PK(X:Cx)(kws:List zBw)(t:TA):Prop:=
 ∀(pos:Pos) (hV:hZ) (s:zAC) (Z:St) (H:Hp) (Q:List V->Hp->Prop),Inv X hV Z H s->t Z H Q->wpAny (model X.prog X.w) X.A (evalAll ((zD0 pos (zCV kws X.env)).map (·.2))) (AP X hV Z Q) X.xe s
section
variable{X:Cx}{x:Str}{pos kpos:Pos}{e:Expr}{kws:List zBw}{te:TE}{t:TA}{nm:Option Str}
def aCc:PK X [] lr:=λ _ _ _ _ H Q I h=>wpAny_evalAll_nil ⟨[],H,I,.nil,h⟩
def vd(ha:PE X e te)(hr:PK X kws t):PK X (⟨nm,e,kpos⟩::kws) (eU te t):=by
 intro pos hV s Z H Q I h;show wpAny _ _ (evalAll ((do let v <-eval e X.env;zFn pos;pure v)::(zD0 pos (zCV kws X.env)).map (·.2))) _ _ s;refine wpAny_evalAll_cons (zAE (thn (ha hV s Z H _ I h) λ u s1 ⟨x,H1,I1,r1,q1⟩=>zAE (zE1 (zA1 ?_))));exact thn (hr pos hV s1 Z H1 _ I1 q1) λ us s2 ⟨xs,H2,I2,r2,q2⟩=>⟨x::xs,H2,I2,.cons r1 r2,q2⟩
end
structure aY(N P:List Str)(sc:Scope):Prop where
 kind:sc.kind= .function
 co:sc.isCoroutine=false
 gen:sc.isGenerator=false
 nd:N.Nodup
 pre:N.take P.length=P
 par:∀x∈P,sc.names.lookup x=some .local\/sc.names.lookup x=some .cell
 nofree:∀y∈sc.names,y.2≠.free
theorem vG{zCt:Str->Option zDI}{x:Str}:∀{binds:List (Str×Value)} {m:Str->Option Value},(∀v,(x,v)∉binds)->bindL zCt binds m x=m x
 |[],_,_=>rfl
 |(n,v)::r,m,h=>by
  unfold bindL;rw[vG λ w hw=>h w (zAK _ hw)];split
  .have:x≠n:=by rintro rfl;exact h v zAP
   simp[this]
  .rfl
theorem vI{zCt:Str->Option zDI}{x:Str}:∀{binds:List (Str×Value)} {m:Str->Option Value},(∀v,(x,v)∉binds)->bindC zCt binds m x=m x
 |[],_,_=>rfl
 |(n,v)::r,m,h=>by
  unfold bindC;rw[vI λ w hw=>h w (zAK _ hw)];split
  .rfl
  .have:x≠n:=by rintro rfl;exact h v zAP
   simp[this]
theorem vH{zCt:Str->Option zDI}{x:Str}{v:Value}:∀{P:List Str} {vs:List Value} {i:Nat} {m:Str->Option Value},P.Nodup->P[i]? =some x->vs[i]? =some v->zCt x=some .local->
  bindL zCt (P.zip vs) m x=some v
 |[],_,_,_,_,h,_,_=>by simp at h
 |_::_,[],_,_,_,_,h,_=>by simp at h
 |p::P,w::vs,0,m,nd,h1,h2,hk=>by
  simp at h1 h2;subst h1;subst h2;show bindL zCt ((p,w)::P.zip vs) m p=_;unfold bindL;rw[vG λ v hv=>(zAm.mp nd).1 (zDb hv).1,if_pos hk];simp
 |p::P,w::vs,i+1,m,nd,h1,h2,hk=>by
  show bindL zCt ((p,w)::P.zip vs) m x=_;unfold bindL;exact vH (i:=i) (zAm.mp nd).2 (by simpa using h1) (by simpa using h2) hk
theorem vJ{zCt:Str->Option zDI}{x:Str}{v:Value}:∀{P:List Str} {vs:List Value} {i:Nat} {m:Str->Option Value},P.Nodup->P[i]? =some x->vs[i]? =some v->zCt x≠some .local->
  bindC zCt (P.zip vs) m x=some v
 |[],_,_,_,_,h,_,_=>by simp at h
 |_::_,[],_,_,_,_,h,_=>by simp at h
 |p::P,w::vs,0,m,nd,h1,h2,hk=>by
  simp at h1 h2;subst h1;subst h2;show bindC zCt ((p,w)::P.zip vs) m p=_;unfold bindC;rw[vI λ v hv=>(zAm.mp nd).1 (zDb hv).1,if_neg hk];simp
 |p::P,w::vs,i+1,m,nd,h1,h2,hk=>by
  show bindC zCt ((p,w)::P.zip vs) m x=_;unfold bindC;exact vJ (i:=i) (zAm.mp nd).2 (by simpa using h1) (by simpa using h2) hk
def start(N:List Str)(vs:List V):St:=vs.map some++zAJ (N.length-vs.length) none
def yP(CX:CXT)(P:zAO)(w:World)(K:zAA)(mg:Str->Option Value)(base:Heap)(N:List Str)(qual:Str)(scope:Scope)(f:Addr)(cd:Value)(A:zA3)(outer:List Env)(s:zAC)(H:Hp)(E:XK):Cx where
 prog:=P
 w:=w
 K:=K
 mg:=mg
 base:=base
 A:=A.deeper (zDm qual scope s.heap.objs.size f cd)
 N:=N
 z5:=s
 zS:=H
 env:=zDm qual scope s.heap.objs.size f cd
 outer:=outer
 stack:=zDm qual scope s.heap.objs.size f cd::outer
 ex:=[]
 calm:=true
 fn:=λ _=>true
 pn:=[]
 xe:=λ e s'=>wpAny (model P w) (A.deeper (zDm qual scope s.heap.objs.size f cd)) (leaving (zDm qual scope s.heap.objs.size f cd) e) (λ _ s''=>CX outer H s E e s'') (λ e' s''=>CX outer H s E e' s'') s'
def nY{sc:Scope}{n:Nat}{x:Str}(h:sc.names.lookup x=some .cell):∃c,(zDP n sc.names []).lookup x=some c:=by
 have q:=zEk sc.names n [] (.inl h);exact zC0.mp q
def aB7{CX:CXT}{P:zAO}{w:World}{K:zAA}{mg:Str->Option Value}{base:Heap}{N ps:List Str}{qual:Str}{scope:Scope}{f:Addr}{cd:Value}{A:zA3}{outer:List Env}{s s1:zAC}{H:Hp}{E:XK}{us:List Value}{vs:List V}
  (S:aY N ps scope)(hd:A.handled=none)(e0:yg P w K mg base A outer s H)(hl:vs.length=ps.length)(r:Vals vs us)
  (x:InCallC s s.heap.objs.size (bindL (zDm qual scope s.heap.objs.size f cd).kindOf (ps.zip us) λ _=>none) (zDP (s.heap.objs.size+1) scope.names []) (bindC (zDm qual scope s.heap.objs.size f cd).kindOf (ps.zip us) λ _=>none) s1):
  Inv (yP CX P w K mg base N qual scope f cd A outer s H E) [] (start N vs) H s1:=by
 have hpl:ps.length<=N.length:=by have:=congrArg zDs S.pre;rw[zD2]at this;lia
 obtain⟨h1,tk,rfl,hk⟩:=x.done;have noA:∀b:Addr,b∉(yP CX P w K mg base N qual scope f cd A outer s H E).ex:=λ b z=>absurd (show b∈([]:List Addr)from z) (by simp)
 refine⟨⟨e0.mod,S.kind,rfl,rfl,zAT _,λ y z c h1 h2=>?_,λ y hy=>?_,λ y c _ h=>?_,λ _=>hd,zFC e0.frames,.inr ⟨rfl,rfl⟩,λ b z=>absurd z (noA b),e0.bs,e0.bsz,λ b _ _=>noA b,λ b z=>absurd z (noA b),e0.funs,e0.frf⟩,
  rfl,e0.bare,Un.kept hk,⟨_,x.toInCall.ns,λ i y v h1 h2 h3=>?_⟩,λ y c h=>⟨_,x.cell y c h⟩,e0.hok.fresh (zAT _),λ y c h=>?_,λ p hp=>absurd (show p∈([]:hZ)from hp) (by simp),e0.hok.kept hk,?_,λ p hp=>absurd (show p∈([]:hZ)from hp) (by simp)⟩
 .exact name_of_addr x.apart (zAg h1) (zAg h2)
 .have hy:scope.names.lookup y=some .cell\/scope.names.lookup y=some .free:=hy
  rcases hy with hy|hy
  .exact nY hy
  .exact absurd rfl (S.nofree _ (zAg hy))
 .exact zBd (x.above y c (zAg h))
 .have hi:i<vs.length:=by
   unfold start at h2;by_cases hi:i<vs.length
   .exact hi
   .rw[zEc (by simpa using hi)]at h2
    rw[zBs]at h2;split at h2<;>cases h2
  have ha:vs[i]? =some v:=by
   unfold start at h2;rw[zBG (by simpa using hi),zAL]at h2;cases e:vs[i]? with
   |none=>rw[e]at h2;cases h2
   |some a=>rw[e]at h2;cases h2;rfl
  obtain⟨u,hu,rv⟩:=r.get ha;have hp:ps[i]? =some y:=by
   rw[<-S.pre,List.getElem?_take_of_lt (by lia)];exact h1
  have ndP:ps.Nodup:=by rw[<-S.pre];exact S.nd.sublist (List.take_sublist _ _)
  refine⟨u,rv,?_⟩;rcases S.par y (zA0 hp)with k|k
  .exact .inl ⟨k,vH ndP hp hu k⟩
  .obtain⟨c,e⟩:=nY (n:=s.heap.objs.size+1) k
   refine .inr ⟨.inl k,c,e,?_⟩;have q:=x.cell y c e;rw[vJ ndP hp hu (by show scope.names.lookup y≠_;rw[k];decide)]at q;exact q
 .exact e0.hok.fresh (zBd (x.above y c (zAg h)))
 .unfold start
  show _=N.length;rw[zA9,zAB,zBK];lia
def aGM{CX:CXT}{P:zAO}{w:World}{K:zAA}{mg:Str->Option Value}{base:Heap}{k:Nat}{f:Addr}{name qual:Str}{params:zCR}{body:List Stmt}{scope:Scope}{dV kV doc pm cdv ct oc:Value}{an od:Option Addr}
  {osl:Array (Option Value)}{N ps:List Str}{sp:Sp}(lk:K.lookup f=some ⟨oc,od,.func (zBl name qual params body scope dV kV doc pm an cdv ct),osl⟩)(hcd:zDG K cdv qual=true)(S:aY N ps scope)
  (len:∀vs H Q E,sp vs H Q E->vs.length=ps.length)
  (hbody:∀(A:zA3) (outer:List Env) (s:zAC) (H:Hp) (vs:List V) (Q:VK) (E:XK),fD k (A.deeper (zDm qual scope s.heap.objs.size f cdv))->sp vs H Q E->
   ∃t,PSs (yP CX P w K mg base N qual scope f cdv A outer s H E) body t/\t {nx:=λ _ H'=>Q .non H',rt:=Q} (start N vs) H):
  bj P w K mg base CX (k+1) f (zBl name qual params body scope dV kV doc pm an cdv ct) ps sp:=by
 refine⟨len,λ A outer s H args us vs Q E hr e0 hb r hsp=>?_⟩;have hl:=len _ _ _ _ hsp;have KX:K.In s.heap:=e0.mod.kin.keeps λ b o e=>(e0.bs b o e).1
 have lim:s.heap.NoLimit:=e0.mod.nolimit.keeps λ b o e=>(e0.bs b o e).1
 have hkind:∀y∈ps.zip us,scope.names.lookup y.1=some .local\/(scope.names.lookup y.1=some .cell/\((zDP (s.heap.objs.size+1) scope.names []).lookup y.1).isSome=true):=λ⟨n,v⟩ hy=>by
  rcases S.par n (zDb hy).1 with q|q
  .exact .inl q
  .exact .inr ⟨q,zEk _ _ _ (.inl q)⟩
 refine codeAny_call_function hr.depth (KX _ _ lk) rfl S.co S.gen rfl (PySem.W.codeRec_of KX hcd) (hb _ _ _ _ ?_);refine wpAny_newFunctionEnv_cells S.kind hkind λ env he s1 x=>?_
 subst he;refine⟨lim.keeps x.toInCall.keep,codeAny_func ?_⟩;obtain⟨t,ht,hq⟩:=hbody A outer s H vs Q E (hr.deeper _) hsp;have I:Inv (yP CX P w K mg base N qual scope f cdv A outer s H E) [] (start N vs) H s1:=aB7 S hr.hd e0 hl r x;refine zBV (ht [] s1 (start N vs) H _ I hq) (λ fl s' hs=>?_) λ e s' hs=>hs
 have fin:∀{Z':St} {H':Hp} {v:V} {u:Value},Inv (yP CX P w K mg base N qual scope f cdv A outer s H E) [] Z' H' s'->RelV v u->Q v H'->CE outer P w H s Q u s':=
  λ{Z' H' v u} J rv q=>⟨v,H',J.os,J.bare,J.base,J.hok,rv,q⟩
 cases fl with
 |ret u=>
  obtain⟨v,Z',H',J,rv,q⟩:=hs;exact fin J rv q
 |next=>
  obtain⟨Z',H',J,q⟩:=hs;exact fin (v:=V.non) (u:=zBY) J rfl q
 |brk=>
  obtain⟨_,_,_,q⟩:=hs;exact zAH q
 |cont=>
  obtain⟨_,_,_,q⟩:=hs;exact zAH q
section
variable{X:Cx}{x:Str}{p pos:Pos}{e:Expr}{es:List Expr}{t:TA}{id T:String}{r:List V->Hp->VK->Prop}
def tCB(r:List V->Hp->VK->Prop)(t:TA):TE:=λ Z H Q=>t Z H λ vs H1=>r vs H1 Q
def nM(hc:dN X (.builtin id) r)(hg:Gl X x)(hm:X.mg x=none)(hv:zAj x=some (.builtin id))(ha:PA X (e::es) t)(hn:x≠"__name__":=by decide)(hdb:Nd x:=by decide)
  (he:zAS (e::es) X.env=(false,eval e X.env)::zAS es X.env:=by rfl)(hpl:(zBg pos (zAS es X.env)).any (·.1)=false:=by rfl):PE X (.Call (.Name x p) (e::es) [] pos) (tCB r t):=by
 intro hV s Z H Q I h;refine zCi (mU I hg hm hv ?_ hn hdb);exact PyProof.Rows.callWith_builtin1 (thn (ha pos hV s Z H _ I h) λ us s1 ⟨vs,H1,I1,r1,q1⟩=>hc hV s1 Z H1 vs us Q I1 r1 q1) he hpl
def uW(hc:dN X (.type T) r)(hg:Gl X x)(hm:X.mg x=none)(hv:zAj x=some (.type T))(ha:PA X (e::es) t)(hn:x≠"__name__":=by decide)(hdb:Nd x:=by decide)
  (he:zAS (e::es) X.env=(false,eval e X.env)::zAS es X.env:=by rfl)(hpl:(zBg pos (zAS es X.env)).any (·.1)=false:=by rfl):PE X (.Call (.Name x p) (e::es) [] pos) (tCB r t):=by
 intro hV s Z H Q I h;refine zCi (mU I hg hm hv ?_ hn hdb);exact zCg (thn (ha pos hV s Z H _ I h) λ us s1 ⟨vs,H1,I1,r1,q1⟩=>hc hV s1 Z H1 vs us Q I1 r1 q1) he hpl
end
end L2
namespace HT
open PySem PyProof.Rows
def lexLt:List Int->List Int->Bool
 |[],[]=>false
 |[],_::_=>true
 |_::_,[]=>false
 |x::xs,y::ys=>if x=y then lexLt xs ys else decide (x<y)
def iK(x y:Int)(xs ys:List Int):lexLt (x::xs) (y::ys)=if x=y then lexLt xs ys else decide (x<y):=rfl
def uF:lexLt [] []=false:=rfl
def sS(y:Int)(ys:List Int):lexLt [] (y::ys)=true:=rfl
def sU(x:Int)(xs:List Int):lexLt (x::xs) []=false:=rfl
def yN(A:zA3)(s:zAC)(a:Int)(t:Tok)(c:Int)(u:Tok):∃e,zC6 A s (.int a t) (.int c u) e/\(e=true↔a=c):=
 ⟨(a==c),zEq a t c u,by simp⟩
def aCZ(A:zA3)(s:zAC)(a:Int)(t:Tok)(c:Int)(u:Tok)(prog:zAO)(w:World)(E:Value->zAC->Prop)(Q:Value->zAC->Prop)(h:Q (.bool (decide (a<c))) s):
  wpAny (model prog w) A (zDR .Lt (.int a t) (.int c u)) Q E s:=
 (zDZ h:wpAny (model prog w) A (zAk .Lt (.int a t) (.int c u)) Q E s)
section
open PySem.SeqAt
open PySem.AutoSeq1(wpAny_loadPart')
open PySem.MeetsSeq PySem.MeetsSeq2 PySem.MeetsSeq3
def tW(l b:Addr)(items items2:Array Value)(n n2:Nat)(dd dd2:Option Addr)(sl sl2:Array (Option Value))(ns ms:List Int)(hi:zBI items.toList ns)(hj:zBI items2.toList ms):
  Meets (zEb.«tuple.__lt__» ⟨[.ref l,.ref b],[]⟩)
   (λ _ R s=>s.heap.get? l=some {cls:=.type "tuple",dict:=dd,data:=.seq items n,slots:=sl}/\s.heap.get? b=some {cls:=.type "tuple",dict:=dd2,data:=.seq items2 n2,slots:=sl2}/\
    R (.ok (.ret (.bool (lexLt ns ms)))) s):=
 .of_wp λ prog w A R s h=>by
  obtain⟨hp,g,d,tk,os⟩:=s;obtain⟨hl,hb,h⟩:=h;have f2:=zCS;have z1:items.size=ns.length:=by rw[<-hi.length];simp
  have z2:items2.size=ms.length:=by rw[<-hj.length];simp
  wp_walk using zBz hl,zBz hb,zDn _ (λ rest b s'=>b.1=none/\s'=⟨hp,g,d,tk,os⟩/\∃(vs ws:List Value) (ns' ms':List Int),rest=vs.zip ws/\
   zBI vs ns'/\zBI ws ms'/\ns'.length+items2.size=ms'.length+items.size/\R (.ok (.ret (.bool (lexLt ns' ms')))) ⟨hp,g,d,tk,os⟩) _
  case turn=>
   rintro⟨y,x⟩ rest b s' ⟨hb',rfl,vs,ws,ns',ms',hz,hvi,hwi,hW,hR⟩;cases hvi with
   |nil=>rw[zFs]at hz;cases hz
   |cons a t hvi'=>
    cases hwi with
    |nil=>rw[zFg]at hz;cases hz
    |cons c u hwi'=>
     rw[zAr]at hz;injection hz with hyx hrest
     injection hyx with hy hx
     subst hy hx;rw[iK]at hR;simp only[zA2]at hW;obtain⟨e,he,hiff⟩:=yN A.in1 ⟨hp,g,d,tk,os⟩ a t c u;refine zAE (he prog w _ _ ?_);cases e with
     |true=>
      rw[if_pos (hiff.mp rfl)]at hR;wp_walk;exact⟨rfl,rfl,_,_,_,_,hrest,hvi',hwi',by lia,hR⟩
     |false=>
      rw[if_neg (λ q=>absurd (hiff.mpr q) zA8)]at hR;have hri:=aCZ A.in1 ⟨hp,g,d,tk,os⟩ a t c u prog w;wp_walk using hri;exact⟨_,rfl,by simpa using hR⟩
  case fin=>
   rintro⟨b1,b2⟩ s' ⟨hb',rfl,vs,ws,ns',ms',hz,hvi,hwi,hW,hR⟩;simp only at hb';subst hb';have hv:lexLt ns' ms'=decide (items.size<items2.size):=by
    cases hvi with
    |nil=>
     cases hwi with
     |nil=>
      simp only[zAz]at hW;rw[uF];exact(decide_eq_false (by lia)).symm
     |cons c u hw=>
      simp only[zAz,zA2]at hW;rw[sS];exact(decide_eq_true (by lia)).symm
    |cons a t hv=>
     cases hwi with
     |nil=>
      simp only[zAz,zA2]at hW;rw[sU];exact(decide_eq_false (by lia)).symm
     |cons c u hw=>
      rw[zAr]at hz;cases hz
   rw[hv]at hR;wp_walk;exact⟨_,rfl,by simpa[zB6]using hR⟩
  case h=>
   exact⟨rfl,rfl,items.toList,items2.toList,ns,ms,rfl,hi,hj,by lia,h⟩
end
section
variable{prog:zAO}{w:World}{A:zA3}{E:Value->zAC->Prop}{s:zAC}
def z9(hl:IsTup s.heap l items)(hb:IsTup s.heap b items2)(hi:zBI items.toList ns)(hj:zBI items2.toList ms)
  (hu:A.units<cLine)(h:Q (.bool (lexLt ns ms)) s):wpAny (model prog w) A (zAk .Lt (.ref l) (.ref b)) Q E s:=by
 obtain⟨⟨cls,dd,data,sl⟩,ho,hc,n,hd⟩:=id hl;obtain⟨⟨cls2,dd2,data2,sl2⟩,ho2,hc2,n2,hd2⟩:=id hb;simp only at hc hd hc2 hd2;subst hc hd hc2 hd2;exact zCu (op:=.Lt) ⟨_,ho,rfl⟩ ⟨_,ho2,rfl⟩ zEo zEj (zEd _ _) (tW l b items items2 n n2 dd dd2 sl sl2 ns ms hi hj)
  ⟨ho,ho2,show zDN (lexLt ns ms)≠zCs/\Q (.bool (lexLt ns ms)) s from⟨(λ x=>nomatch x),h⟩⟩ hu
def aF5(ht:IsTup s.heap t vs.toArray)(hb:IsTup s.heap b ws.toArray)(hv:vs≠[])
  (h1:ws=[]->Q (.ref t) s)(h2:ws≠[]->Q (.ref s.heap.objs.size) {s with heap:=s.heap.push {cls:=.type "tuple",data:=.seq (vs++ws).toArray}})
  (hsz:vs.length+ws.length<=zAN):wpAny (model prog w) A (zBv .Add (.ref t) (.ref b)) Q E s:=by
 obtain⟨⟨cls,dd,data,sl⟩,ho,hc,n,hd⟩:=id ht;obtain⟨⟨cls2,dd2,data2,sl2⟩,ho2,hc2,n2,hd2⟩:=id hb;simp only at hc hd hc2 hd2;subst hc hd hc2 hd2;have e:vs.toArray++ws.toArray=(vs++ws).toArray:=by simp
 by_cases hw:ws=[]
 .exact zGH ⟨_,ho,rfl⟩ ⟨_,ho2,rfl⟩ zEu zFl zDW zDM (zDJ _ _)
   (tuple_addW1 t b vs.toArray ws.toArray n n2 dd dd2 sl sl2 (by simpa using hv) (by simp[hw])) ⟨ho,ho2,h1 hw⟩
 .refine zGH ⟨_,ho,rfl⟩ ⟨_,ho2,rfl⟩ zEu zFl zDW zDM (zDJ _ _)
   (tuple_addW2 t b vs.toArray ws.toArray n n2 dd dd2 sl sl2 (by simpa using hv) (by simpa using hw) (by rw[zAI,zAI];exact hsz)) ⟨ho,ho2,?_⟩
  rw[e];exact h2 hw
end
end HT
namespace L2
open PySem PySem.Spec PyProof.Rows
abbrev TO:=St->Hp->(Option Int->Hp->Prop)->Prop
def intsAre_of:∀{us:List Value},Vals (ns.map V.int) us->zBI us ns:=by
 induction ns with
 |nil=>intro us r;rw[zEQ]at r;cases r;exact .nil
 |cons n ns ih=>
  intro us r;rw[zAG]at r;cases r with
  |cons r1 r2=>
   obtain⟨t,e⟩:=r1;subst e;exact .cons n t (ih r2)
section
variable{X:Cx}{p2:Pos}
def aE0(K:zAA):R2:=λ x y H Q=>∃a b ns ms,x= .ref a/\y= .ref b/\SqT K H a (ns.map V.int)/\SqT K H b (ms.map V.int)/\Q (.bl (HT.lexLt ns ms)) H
def aHT(hu:X.A.units<cLine):OpR X (zAk .Lt) (aE0 X.K):=by
 intro hV s Z H x y v u Q I rx ry h;obtain⟨a,b,ns,ms,rfl,rfl,ha,hb,q⟩:=h;cases rx;cases ry;obtain⟨its,r1,p1,_⟩:=I.tuple ha;obtain⟨its2,r2,p2,_⟩:=I.tuple hb;have i1:zBI its.toArray.toList ns:=intsAre_of r1;have i2:zBI its2.toArray.toList ms:=intsAre_of r2;exact HT.z9 p1 p2 i1 i2 hu ⟨.bl (HT.lexLt ns ms),H,I,rfl,q⟩
def aIf(K:zAA):R2:=λ x y H Q=>∃a b xs ys,x= .ref a/\y= .ref b/\SqT K H a xs/\SqT K H b ys/\xs≠[]/\xs.length+ys.length<=zAN/\
 (ys=[]->Q (.ref a) H)/\(ys≠[]->∀p,H p=none->Q (.ref p) (upd H p (.tup (xs++ys))))
def Vals.nil_iff(r:Vals xs us):us=[]↔xs=[]:=by
 cases r with
 |nil=>simp
 |cons _ _=>simp
def aEt:OpR X (zBv .Add) (aIf X.K):=by
 intro hV s Z H x y v u Q I rx ry h;obtain⟨a,b,xs,ys,rfl,rfl,ha,hb,hx,hz,q1,q2⟩:=h;cases rx;cases ry;obtain⟨its,r1,p1,_⟩:=I.tuple ha;obtain⟨its2,r2,p2,_⟩:=I.tuple hb;refine HT.aF5 p1 p2 (λ z=>hx (r1.nil_iff.mp z)) (λ z=>⟨.ref a,H,I,rfl,q1 (r2.nil_iff.mp z)⟩) (λ z=>?_) (by rw[<-r1.length,<-r2.length];exact hz);refine⟨.ref s.heap.objs.size,_,I.laid (t':=s.toks) (o:=.tup (xs++ys)) (λ b ob q=>zAF _ q) (zAT _) ?_,rfl,q2 (λ w=>z (r2.nil_iff.mpr w)) _ (I.hok.fresh (zAT _))⟩;exact⟨⟨by rw[zA9];exact hz,NoD.push _⟩,_,r1.append r2,IsTup.new _ _⟩
end
def ixN(n:Nat)(i:Int):Option Nat:=if 0<=i then(if i<n then some i.toNat else none)else if -(n:Int)<=i then some (i+n).toNat else none
def atI{α:Type}(xs:List α)(i:Int):Option α:=(ixN xs.length i).bind λ j=>xs[j]?
def vy(h:ixN n i=some j):seqIndex? i n=some j/\j<n/\-(n:Int)<=i/\i<n:=by
 unfold ixN at h;by_cases h0:0<=i
 .rw[if_pos h0]at h
  by_cases h1:i<n
  .rw[if_pos h1]at h
   have e:i.toNat=j:=zAb h;exact⟨by rw[zFM h0 h1,e],by lia,by lia,h1⟩
  .rw[if_neg h1]at h;cases h
 .rw[if_neg h0]at h
  by_cases h1: -(n:Int)<=i
  .rw[if_pos h1]at h
   have e:(i+n).toNat=j:=zAb h;exact⟨by rw[zEm (by lia) h1,e],by lia,h1,by lia⟩
  .rw[if_neg h1]at h;cases h
def wM(h:atI xs i=some v):∃j,seqIndex? i xs.length=some j/\xs[j]? =some v/\j<xs.length/\-(xs.length:Int)<=i/\i<xs.length:=by
 unfold atI at h;cases e:ixN xs.length i with
 |none=>rw[e]at h;cases h
 |some j=>
  rw[e]at h;obtain⟨h1,h2,h3,h4⟩:=vy e;exact⟨j,h1,h,h2,h3,h4⟩
def qp(b:Expr):Prop:=∀o i,zFN b false o i=operate [o,i] (zFj o i)
def IxR(X:Cx)(r:R2):Prop:=
 ∀(value slice:Expr) (hV:hZ) (s:zAC) (Z:St) (H:Hp) (x y:V) (v u:Value) (Q:VK),Inv X hV Z H s->RelV x v->RelV y u->r x y H Q->
  zFN slice false v u=operate [v,u] (zFj v u)->wpAny (model X.prog X.w) X.A (zFo value slice v u) (EP X hV Z Q) X.xe s
def MtR(X:Cx)(id:String)(r:V->List V->Hp->VK->Prop):Prop:=
 ∀(hV:hZ) (s:zAC) (Z:St) (H:Hp) (x:V) (xs:List V) (v:Value) (us:List Value) (Q:VK),Inv X hV Z H s->RelV x v->Vals xs us->r x xs H Q->
  wpAny (model X.prog X.w) X.A (call (.builtin id) (v::us)) (EP X hV Z Q) X.xe s
section
variable{X:Cx}{a b:Expr}{ta tb:TE}{pos:Pos}
def IxR.or(h:IxR X r)(h':IxR X r'):IxR X (λ x y H Q=>r x y H Q\/r' x y H Q):=by
 intro value slice hV s Z H x y v u Q I rx ry q hs;rcases q with q|q
 .exact h value slice hV s Z H x y v u Q I rx ry q hs
 .exact h' value slice hV s Z H x y v u Q I rx ry q hs
def aGH{r:R2}(hr:IxR X r)(ha:PE X a ta)(hb:PE X b tb)(hs:qp b):PE X (.Subscript a b pos) (tOp r ta tb):=by
 intro hV s Z H Q I h;exact zGa (aIG ha hb I h λ v u s2 x y H2 I2 rx ry q=>hr a b hV s2 Z H2 x y v u Q I2 rx ry q (hs _ _))
def aGl(K:zAA):R2:=λ x y H Q=>∃p xs i v,x= .ref p/\y= .int i/\SqL K H p xs/\atI xs i=some v/\Q v H
def aIc(K:zAA):R2:=λ x y H Q=>∃p xs i v,x= .ref p/\y= .int i/\SqT K H p xs/\atI xs i=some v/\Q v H
def aIe:R2:=λ x y H Q=>∃z i c,x= .str z/\y= .int i/\z.length<=zAN/\atI z.cps.toList i=some c/\Q (.str ⟨#[c]⟩) H
def aAl:IxR X (aGl X.K):=by
 intro value slice hV s Z H x y v u Q I rx ry h hs;obtain⟨p,xs,i,z,rfl,rfl,hq,he,q⟩:=h;cases rx;obtain⟨t,rfl⟩:=ry;obtain⟨its,r,pl,hz⟩:=I.list hq;obtain⟨j,h1,h2,h3,h4,h5⟩:=wM he;obtain⟨w,ew,rw'⟩:=r.get h2;have hl:=r.length;have hn:=mR;have fin:EP X hV Z Q w s:=⟨z,H,I,rw',q⟩;by_cases h0:0<=i
 .have hj:i.toNat=j:=by
   rw[zFM h0 h5]at h1;exact zAb h1
  exact item_listR pl.isList h0 (by lia) (by rw[hj];simpa using ew) fin hs
 .have hj:(i+(its.toArray.size:Int)).toNat=j:=by
   rw[zEm (by lia) h4]at h1;rw[zAI,<-hl];exact zAb h1
  exact zFu (x:=w) pl.isList.typeIs zGf.lookup
   (zFv (Q:=λ r s'=>r=w/\EP X hV Z Q r s') pl.isList (by lia) (by rw[zAI]<;>lia) (by lia) (by rw[hj];simpa using ew) ⟨rfl,fin⟩) hs
def aHq:IxR X (aIc X.K):=by
 intro value slice hV s Z H x y v u Q I rx ry h hs;obtain⟨p,xs,i,z,rfl,rfl,hq,he,q⟩:=h;cases rx;obtain⟨t,rfl⟩:=ry;obtain⟨its,r,pl,hz⟩:=I.tuple hq;obtain⟨j,h1,h2,h3,h4,h5⟩:=wM he;obtain⟨w,ew,rw'⟩:=r.get h2;have hl:=r.length;have hn:=mR;have fin:EP X hV Z Q w s:=⟨z,H,I,rw',q⟩;exact zFu (x:=w) pl.typeIs slot_tuple_getitem.lookup
  (getItem_tuple (j:=j) (Q:=λ r s'=>r=w/\EP X hV Z Q r s') pl (by lia) (by lia) (by rw[zAI,<-hl];exact h1) (by simpa using ew) ⟨rfl,fin⟩) hs
def aHr:IxR X aIe:=by
 intro value slice hV s Z H x y v u Q I rx ry h hs;obtain⟨z,i,c,rfl,rfl,hz,he,q⟩:=h;obtain⟨t,rfl⟩:=rx;obtain⟨t',rfl⟩:=ry;obtain⟨j,h1,h2,h3,h4,h5⟩:=wM he;have hl:z.cps.toList.length=z.length:=by simp[Str.length]
 rw[hl]at h1 h4 h5;have hn:=mR;exact tail_any (typeIs_str s z t) slot_str_getitem.lookup (getItem_str (c:=c) (by
  have e1:decide (i < -(2^63:Int))=false:=decide_eq_false (by lia);have e2:decide (i ≥ 2^63)=false:=decide_eq_false (by lia);rw[e1,e2,Bool.or_false]) (by rw[h1];simpa using h2) ⟨.str ⟨#[c]⟩,H,I.tok _,⟨_,rfl⟩,q⟩) hs
def rIx(K:zAA):R2:=λ x y H Q=>aGl K x y H Q\/aIc K x y H Q\/aIe x y H Q
def aHs:IxR X (rIx X.K):=aAl.or (aHq.or aHr)
def z7(its:List Value)(n j:Nat)(u:Value):zBP (·.setIfInBounds j u) {cls:=.type "list",data:=.seq its.toArray n}={cls:=.type "list",data:=.seq (its.set j u).toArray n}:=by
 simp[zBP]
theorem Inv.lst(I:Inv X hV Z H s)(h:H p=some (.lst xs)):
  ∃(its:List Value) (n:Nat),Vals xs its/\s.heap.get? p=some {cls:=.type "list",data:=.seq its.toArray n}/\xs.length<=zAN:=by
 obtain⟨z,its,n,r,e⟩:=I.hok p _ h;exact⟨its,n,r,e,z⟩
def Inv.lstUpd{hV:hZ}{Z:St}{H:Hp}{s:zAC}{p:Addr}{xs ys:List V}{its its':List Value}{n n':Nat}{f:Obj->Obj}(I:Inv X hV Z H s)(h:H p=some (.lst xs))
  (ho:s.heap.get? p=some {cls:=.type "list",data:=.seq its.toArray n})(hf:f {cls:=.type "list",data:=.seq its.toArray n}={cls:=.type "list",data:=.seq its'.toArray n'})(r:Vals ys its')(hz:ys.length<=zAN)(t:Nat):
  Inv X hV Z (upd H p (.lst ys)) {s with heap:=s.heap.update p f,toks:=t}:=by
 have e:(s.heap.update p f).get? p=some {cls:=.type "list",data:=.seq its'.toArray n'}:=by
  rw[zCD f ho (by rw[hf]<;>rfl),hf]
 refine I.write (x:=p) (e:=p) (by rw[h];trivial) (.inl rfl) (λ b u hb q=>(zA6 _ _ (zDT hb)).trans q) ⟨_,e⟩ ?_;exact⟨hz,its',n',r,e⟩
def aC2:V->V->V->Hp->(Hp->Prop)->Prop:=λ o i v H Q=>∃p xs k j,o= .ref p/\i= .int k/\H p=some (.lst xs)/\ixN xs.length k=some j/\Q (upd H p (.lst (xs.set j v)))
def set_list:aIS X aC2:=by
 intro hV s Z H o i v ov iv u Q I ro ri rv h;obtain⟨p,xs,k,j,rfl,rfl,hp,hj,q⟩:=h;cases ro;obtain⟨t,rfl⟩:=ri;obtain⟨its,n,r,ho,hz⟩:=I.lst hp;obtain⟨h1,h2,h3,h4⟩:=vy hj;have hl:=r.length;have hn:=mR;have I':Inv X hV Z (upd H p (.lst (xs.set j v))) {s with heap:=s.heap.update p (zBP (·.setIfInBounds j u))}:=
  I.lstUpd hp ho (z7 its n j u) (r.set rv j) (by rw[zAw];exact hz) s.toks
 by_cases h0:0<=k
 .have hk:k.toNat=j:=by
   rw[zFM h0 h4]at h1;exact zAb h1
  exact PySem.W.ki_setAt ho h0 (by lia) (by rw[zAI,<-hl];exact h4) (by rw[hk];exact⟨_,I',q⟩)
 .have hk:(k+(its.toArray.size:Int)).toNat=j:=by
   rw[zEm (by lia) h3]at h1;rw[zAI,<-hl];exact zAb h1
  exact PySem.W.ki_setBack ho (by lia) (by rw[zAI,<-hl];exact h3) (by lia) (by rw[hk];exact⟨_,I',q⟩)
def wK:dN X (.builtin "len") (λ xs H Q=>∃p ys,xs=[.ref p]/\(SqL X.K H p ys\/SqT X.K H p ys)/\Q (.int ys.length) H):=by
 intro hV s Z H xs us Q I r h;obtain⟨p,ys,rfl,hq,q⟩:=h;obtain⟨u,rfl,rx⟩:=vals1 r;cases rx;have hn:=mR;rcases hq with hq|hq
 .obtain⟨its,r',pl,hz⟩:=I.list hq
  have hW:=r'.length;exact Calls.call_len_list pl.isList (by simp only[zAI]<;>lia) ⟨.int ys.length,H,I.tok _,⟨s.toks+1,by rw[zAI,hW]⟩,q⟩
 .obtain⟨its,r',pl,hz⟩:=I.tuple hq
  have hW:=r'.length;exact len_tuple pl (by simp only[zAI]<;>lia) ⟨.int ys.length,H,I.tok _,⟨s.toks+1,by rw[zAI,hW]⟩,q⟩
def dN.or(h:dN X f r)(h':dN X f r'):dN X f (λ xs H Q=>r xs H Q\/r' xs H Q):=by
 intro hV s Z H xs us Q I rs q;rcases q with q|q
 .exact h hV s Z H xs us Q I rs q
 .exact h' hV s Z H xs us Q I rs q
def uK:dN X (.type "tuple") (λ xs H Q=>∃p ys,xs=[.ref p]/\((SqL X.K H p ys/\∀l,H l=none->Q (.ref l) (upd H l (.tup ys)))\/(SqT X.K H p ys/\Q (.ref p) H))):=by
 intro hV s Z H xs us Q I r h;obtain⟨p,ys,rfl,h⟩:=h;obtain⟨u,rfl,rx⟩:=vals1 r;cases rx;rcases h with ⟨hq,q⟩|⟨hq,q⟩
 .obtain⟨its,r',pl,hz⟩:=I.list hq
  have hW:=r'.length;refine call_tuple_list pl.isList (λ h' kp=>?_) (by simp only[zAI]<;>lia);have I1:Inv X hV Z H {s with heap:=h'}:=I.kept (t':=s.toks) kp;have I2:Inv X hV Z (upd H h'.objs.size (.tup ys)) {s with heap:=h'.push {cls:=.type "tuple",data:=.seq its.toArray}}:=
   I1.laid (t':=s.toks) (λ b o e=>zAF _ e) (zAT _) (show cA X.prog X.w _ _ _ (.tup ys)from⟨⟨hz,NoD.push _⟩,its,r',IsTup.new _ _⟩)
  exact⟨.ref h'.objs.size,_,I2,rfl,q _ (I1.hok.fresh (zAT _))⟩
 .obtain⟨its,r',pl,hz⟩:=I.tuple hq
  exact call_tuple_same pl ⟨.ref p,H,I,rfl,q⟩
def tyV(K:zAA)(T:String)(x:V)(H:Hp):Prop:=match x with
 | .str _=>T="str"
 | .int _=>T="int"
 | .ref p=>(T="list"/\∃xs,SqL K H p xs)\/(T="tuple"/\∃o,K.lookup p=some o/\o.cls= .type "tuple"/\o.dict=none)\/
   (T="dict"/\((∃kvs,H p=some (.dK kvs))\/∃kvs,H p=some (.dT kvs)))\/(T="set"/\∃S n,H p=some (.set S n))
 |_=>False
def aBy(I:Inv X hV Z H s)(r:RelV x v)(ty:tyV X.K T x H):
  s.TypeIs v T/\∀a,v= .ref a->∃ob,s.heap.get? a=some ob/\ob.dict=none:=by
 cases x with
 |str z=>
  obtain⟨t,rfl⟩:=r;cases (show T="str" from ty);exact⟨typeIs_str s z t,λ _ e=>nomatch e⟩
 |int i=>
  obtain⟨t,rfl⟩:=r;cases (show T="int" from ty);exact⟨zGg s i t,λ _ e=>nomatch e⟩
 |ref p=>
  cases r;rcases ty with ⟨rfl,xs,hq⟩|⟨rfl,o,hk,hc,hd⟩|⟨rfl,hk⟩|⟨rfl,S,n,hk⟩
  .obtain⟨its,_,pl,_⟩:=I.list hq
   refine⟨pl.isList.typeIs,λ a e=>?_⟩;cases e;obtain⟨o,n,e,c,hd,_⟩:=pl;exact⟨o,e,hd⟩
  .refine⟨⟨o,I.kIn p o hk,hc⟩,λ a e=>?_⟩
   cases e;exact⟨o,I.kIn _ o hk,hd⟩
  .have z:∃o,s.heap.get? p=some o/\o.ExactDict:=by
    rcases hk with ⟨kvs,hk⟩|⟨kvs,hk⟩
    .obtain⟨_,_,_,_,o,_,_,e,ex,_⟩:=I.hok p _ hk
     exact⟨o,e,ex⟩
    .obtain⟨_,_,_,_,o,_,_,e,ex,_⟩:=I.hok p _ hk
     exact⟨o,e,ex⟩
   obtain⟨o,e,ex⟩:=z;refine⟨⟨o,e,ex.1⟩,λ a e2=>?_⟩;cases e2;exact⟨o,e,ex.2.1⟩
  .obtain⟨o,_,_,_,e,ex,_⟩:=I.hok p _ hk
   refine⟨⟨o,e,ex.1⟩,λ a e2=>?_⟩;cases e2;exact⟨o,e,ex.2.1⟩
 |_=>exact zAH ty
def aI2(K:zAA)(T:String)(r:V->List V->Hp->VK->Prop)(to:TE):TE:=λ Z H Q=>to Z H λ x H1=>tyV K T x H1/\r x [] H1 Q
def tBM(K:zAA)(T:String)(r:V->List V->Hp->VK->Prop)(to:TE)(t:TA):TE:=λ Z H Q=>to Z H λ x H1=>tyV K T x H1/\t Z H1 λ xs H2=>r x xs H2 Q
variable{o e:Expr}{es:List Expr}{to:TE}{t:TA}{name:Str}{apos cpos:Pos}{T id:String}{r:V->List V->Hp->VK->Prop}
def aHH(pa:PlainAttrs T)(slot:Slot T name id)(hty:typeOf (.builtin id)=pure (.type "method_descriptor"))(hm:MtR X id r)(ho:PE X o to)
  (hbase:zC2 o name X.env (eval o X.env)=eval o X.env:=by rfl)(hline:(apos.endLine==cpos.line)=true:=by rfl):PE X (.Call (.Attribute o name apos) [] [] cpos) (aI2 X.K T r to):=by
 intro hV s Z H Q I h;refine wpAny_Call_method0_late hbase hline (thn (ho hV s Z H _ I h) λ v s1 ⟨x,H1,I1,r1,ty,q1⟩=>?_);obtain⟨h1,h2⟩:=aBy I1 r1 ty;exact⟨T,id,pa,slot,hty,h1,h2,zEv rfl (PySem.evalArgs_none (hm hV s1 Z H1 x [] v [] Q I1 r1 .nil q1))⟩
def xT(pa:PlainAttrs T)(slot:Slot T name id)(hty:typeOf (.builtin id)=pure (.type "method_descriptor"))(hm:MtR X id r)(ho:PE X o to)(ha:PA X (e::es) t)
  (hbase:zC2 o name X.env (eval o X.env)=eval o X.env:=by rfl)
  (hfew:((zBg cpos (zAS (e::es) X.env)).all (λ x=>!x.1)&&(zD0 cpos (zCV [] X.env)).all (λ x=>x.1.isSome)
   &&decide ((e::es).length+([]:List zBw).length+(if ([]:List zBw).isEmpty then 0 else 1)<30))=true:=by rfl)
  (hline:(apos.endLine==cpos.line)=true:=by rfl)(hs:zAS (e::es) X.env=(false,eval e X.env)::zAS es X.env:=by rfl)(hplain:(zBg cpos (zAS es X.env)).any (·.1)=false:=by rfl):
  PE X (.Call (.Attribute o name apos) (e::es) [] cpos) (tBM X.K T r to t):=by
 intro hV s Z H Q I h;refine wpAny_Call_method_late hbase hfew hline rfl (thn (ho hV s Z H _ I h) λ v s1 ⟨x,H1,I1,r1,ty,q1⟩=>?_);obtain⟨h1,h2⟩:=aBy I1 r1 ty;refine⟨T,id,pa,slot,hty,h1,h2,?_⟩;have hA:=ha cpos hV s1 Z H1 _ I1 q1;rw[hs]at hA ⊢;refine zEv (by show(false||(zBg cpos (zAS es X.env)).any (·.1))=false;rw[hplain]<;>rfl) (zFR ?_);exact thn hA λ us s2 ⟨vs,H2,I2,r2,q2⟩=>hm hV s2 Z H2 x vs v us Q I2 r1 r2 q2
end
def MtM(X:Cx)(id:String)(r:V->List V->Hp->VK->Prop):Prop:=
 ∀(hV:hZ) (s:zAC) (Z:St) (H:Hp) (x:V) (xs:List V) (v:Value) (us:List Value) (Q:VK),Inv X hV Z H s->RelV x v->Vals xs us->r x xs H Q->
  wpAny (model X.prog X.w) X.A (call (.builtin id) (v::us)) (EP X hV Z Q) X.xe s
def Vals.one:∀{x:V} {us:List Value},Vals [x] us->∃u,us=[u]/\RelV x u
 |_,_,.cons r .nil=>⟨_,rfl,r⟩
theorem Vals.eraseIdx:∀{xs:List V} {us:List Value} (i:Nat),Vals xs us->Vals (xs.eraseIdx i) (us.eraseIdx i)
 |_,_,_,.nil=>.nil
 |_,_,0,.cons _ t=>t
 |_,_,i+1,.cons r t=>.cons r (Vals.eraseIdx i t)
theorem Vals.reverse(h:Vals xs us):Vals xs.reverse us.reverse:=by
 induction h with
 |nil=>exact .nil
 |cons r t ih=>rw[zCf,zCf];exact Vals.append ih (.cons r .nil)
theorem Vals.rep(h:Vals xs us):∀k:Nat,Vals (zAJ k xs).flatten (zAJ k us).flatten
 |0=>.nil
 |k+1=>by
  rw[zBJ,zBJ,zBk,zBk];exact Vals.append h (Vals.rep h k)
theorem foldl_rep(its:List Value):∀(k:Nat) (acc:List Value),
  zFq (λ x1 x2=>x1++x2) acc.toArray (zAJ k its.toArray)=(acc++(zAJ k its).flatten).toArray
 |0,acc=>by simp
 |k+1,acc=>by
  have e:acc.toArray++its.toArray=(acc++its).toArray:=by simp
  have e2:(acc++its)++(zAJ k its).flatten=acc++(zAJ (k+1) its).flatten:=by
   rw[zBJ,zBk,zCK]
  rw[<-e2,<-foldl_rep its k (acc++its),<-e,zBJ,zDD]
section
variable{X:Cx}{hV:hZ}{Z:St}{H:Hp}{s:zAC}{l:Addr}{xs ys:List V}
def Inv.lset{its its':List Value}{n:Nat}{f:Array Value->Array Value}{t':Nat}(I:Inv X hV Z H s)(hH:H l=some (.lst xs))
  (e:s.heap.get? l=some {cls:=.type "list",data:=.seq its.toArray n})(hf:f its.toArray=its'.toArray)(hv:Vals ys its')(hz:ys.length<=zAN):
  Inv X hV Z (upd H l (.lst ys)) {s with heap:=s.heap.update l (zBP f),toks:=t'}:=by
 have q:=PySem.IsL.update e f;rw[hf]at q;refine I.write (x:=l) (e:=l) (by rw[hH];exact trivial) (.inl rfl) (λ b' u hb hu=>(zA6 s.heap (zBP f) (zDT hb)).trans hu) ⟨_,q⟩ ?_;exact⟨hz,its',_,hv,q⟩
def Inv.lnew(I:Inv X hV Z H s)(hv:Vals ys its)(hz:ys.length<=zAN):
  Inv X hV Z (upd H s.heap.objs.size (.lst ys)) {s with heap:=s.heap.push {cls:=.type "list",data:=.seq its.toArray},toks:=t'}:=
 I.laid (λ _ _ q=>zAF _ q) (zAT _) ⟨hz,its,0,hv,zAW _ rfl⟩
theorem Inv.fresh(I:Inv X hV Z H s):H s.heap.objs.size=none:=I.hok.fresh (zAT _)
def Inv.lstM(I:Inv X hV Z H s)(hH:H l=some (.lst xs)):xs.length<=zAN/\∃(its:List Value) (n:Nat),Vals xs its/\xs.length=its.length/\s.heap.get? l=some {cls:=.type "list",data:=.seq its.toArray n}:=by
 obtain⟨z,its,n,r,e⟩:=I.hok l _ hH;exact⟨z,its,n,r,r.length,e⟩
def xV(h:n<=zAN):zCF n=false:=by
 unfold zCF;exact decide_eq_false (by lia)
end
section
variable{X:Cx}
def aE3:V->List V->Hp->VK->Prop:=λ x vs H Q=>∃l xs y,x= .ref l/\vs=[y]/\H l=some (.lst xs)/\xs.length<zAN/\Q .non (upd H l (.lst (xs++[y])))
def uZ:MtM X "list.append" aE3:=by
 intro hV s Z H x vs v us Q I rx rv h;obtain⟨l,xs,y,rfl,rfl,hH,hz,q⟩:=h;cases rx;obtain⟨u,rfl,ru⟩:=rv.one;obtain⟨z,its,n,r,hl,e⟩:=I.lstM hH;refine zEH zD1 ⟨_,e,rfl⟩ F.entry_list_append (F.args_list_append_2 _ _) (PySem.list_append l its.toArray n u (by rw[zAI];lia)) ⟨e,?_⟩;refine⟨.non,_,I.lset (its':=its++[u]) hH e (by simp) (r.append (.cons ru .nil)) ?_,rfl,q⟩;rw[zA9,zBb];lia
def aE2:V->List V->Hp->VK->Prop:=λ x vs H Q=>∃l b xs zs,x= .ref l/\vs=[.ref b]/\H l=some (.lst xs)/\H b=some (.lst zs)/\xs.length+zs.length<=zAN/\Q .non (upd H l (.lst (xs++zs)))
def aBS:MtM X "list.extend" aE2:=by
 intro hV s Z H x vs v us Q I rx rv h;obtain⟨l,b,xs,zs,rfl,rfl,hH,hB,hz,q⟩:=h;cases rx;obtain⟨u,rfl,ru⟩:=rv.one;cases ru;obtain⟨z,its,n,r,hl,e⟩:=I.lstM hH;obtain⟨z2,its2,n2,r2,hl2,e2⟩:=I.lstM hB;have hsz:its.toArray.size+its2.toArray.size<=zAN:=by rw[zAI,zAI];lia
 have bE:¬(!its.toArray.isEmpty&&zCF (its.toArray.size+its2.toArray.size))=true:=by
  rw[xV hsz,zDp];exact zA8
 refine zEH zFS ⟨_,e,rfl⟩ F.entry_list_extend (F.args_list_extend_2 _ _)
  (AutoSeq1.list_extend_list_list_0 l its.toArray n b its2.toArray n2 bE (by rw[zAI];lia) (by lia)) ⟨e,e2,?_⟩
 refine⟨.non,_,I.lset (its':=its++its2) hH e (by simp) (r.append r2) ?_,rfl,q⟩;rw[zA9];lia
def aJ4:R2:=λ x y H Q=>∃l b xs zs,x= .ref l/\y= .ref b/\H l=some (.lst xs)/\H b=some (.lst zs)/\xs.length+zs.length<=zAN/\∀p,H p=none->Q (.ref p) (upd H p (.lst (xs++zs)))
def aH0:OpR X (zBv .Add) aJ4:=by
 intro hV s Z H x y v u Q I rx ry h;obtain⟨l,b,xs,zs,rfl,rfl,hH,hB,hz,q⟩:=h;cases rx;cases ry;obtain⟨z,its,n,r,hl,e⟩:=I.lstM hH;obtain⟨z2,its2,n2,r2,hl2,e2⟩:=I.lstM hB;refine PySem.P.add_list e e2 ?_ (by rw[zAI,zAI];lia);have ea:its.toArray++its2.toArray=(its++its2).toArray:=by simp
 rw[ea];exact⟨.ref _,_,I.lnew (t':=s.toks) (r.append r2) (by rw[zA9];lia),rfl,q _ I.fresh⟩
def aIb:R2:=λ x y H Q=>∃l k xs,x= .ref l/\y= .int k/\H l=some (.lst xs)/\-(2^63)<=k/\k<2^63/\xs.length*k.toNat<=zAN/\
 ∀p,H p=none->Q (.ref p) (upd H p (.lst (zAJ k.toNat xs).flatten))
def len_rep(xs:List α)(k:Nat):(zAJ k xs).flatten.length=k*xs.length:=by
 induction k with
 |zero=>simp
 |succ k ih=>rw[zBJ,zBk,zA9,ih,Nat.succ_mul,Nat.add_comm]
def aHN:OpR X (zBv .Mult) aIb:=by
 intro hV s Z H x y v u Q I rx ry h;obtain⟨l,k,xs,rfl,rfl,hH,h1,h2,hz,q⟩:=h;cases rx;obtain⟨t,rfl⟩:=ry;obtain⟨z,its,n,r,hl,e⟩:=I.lstM hH;have hW:its.toArray.size*k.toNat<=zAN:=by rw[zAI,<-hl];exact hz
 have hcap:¬its.toArray.size*k.toNat>(2^63-1) / 8:=by
  have:(zAN:Nat)<=(2^63-1) / 8:=by decide
  lia
 have hfit:¬(!zCj k)=true:=by
  rw[fitsIndex_both h1 h2];exact zA8
 have bE:¬zCF (its.toArray.size*k.toNat)=true:=by
  rw[xV hW];exact zA8
 have cS:zFq (λ x1 x2=>x1++x2) #[] (zAJ (if its.toArray.isEmpty=true then 0 else k.toNat) its.toArray)=(zAJ k.toNat its).flatten.toArray:=by
  have f0:∀m:Nat,zFq (λ x1 x2=>x1++x2) #[] (zAJ m its.toArray)=(zAJ m its).flatten.toArray:=λ m=>by
   have:=foldl_rep its m []
   rw[zCE]at this;exact this
  rw[f0];cases its with
  |nil=>simp
  |cons a r'=>rw[if_neg (by simp)]
 refine wpAny_binaryOp_repeat_ref (T:="list") (U:="int") (by decide) ⟨_,e,rfl⟩ (λ s'=>zGg s' k t) noFill_list_mul F.fills_int_mul zG7 repeat_list F.slot_int_index.lookup
  (zEH zG7 (zGg s k t) F.entry_int_rmul (F.args_int_rmul_2 _ _) (int___rmul___int_list k t l its.toArray n)
   ⟨e,rfl,⟨_,e,rfl⟩,zEH F.slot_list_mul ⟨_,e,rfl⟩ F.entry_list_mul (F.args_list_mul_2 _ _) (AutoListH.list___mul___list_int_3 l its.toArray n k t hfit hcap bE) ⟨e,?_⟩⟩)
 rw[cS];exact⟨.ref _,_,I.lnew (t':=s.toks) (r.rep k.toNat) (by rw[len_rep,Nat.mul_comm];exact hz),rfl,q _ I.fresh⟩
end
end L2
namespace Att
open PySem PySem.W PySem.Calls PyProof.Rows
def qW:∀(ns:List Int) (vs:List Value),WellAll P h vs (ns.map WData.int)->zBI vs ns:=by
 intro ns;induction ns with
 |nil=>
  intro vs w;rw[zEQ]at w;cases w;exact .nil
 |cons n ns ih=>
  intro vs w;rw[zAG]at w;cases w with
  |cons a b=>
   cases a;exact .cons _ _ (ih _ b)
def aBI{l:OpenLaw}{n:Nat}(hn:l.most=some n){P:Params}{h:Heap}{args:List WData}{vals:List Value}
  (hpre:l.row.toRowW.claim.pre args=true)(hwl:WellAll P h vals args):
  ∃a vs ns,vals=[zB0 a]/\args=[WData.list (ns.map WData.int)]/\h.get? a=some {cls:=.type "list",data:=.seq vs.toArray}/\zBI vs ns/\ns.length<=n:=by
 have hsh:WShape.hasAll [] args [.list .int]=true:=(pre_splitW hpre).1;have hc:l.pre.holds [] {args:=args}=true:=(pre_splitW hpre).2;obtain⟨d,r,rfl,h1,h2⟩:=hasAllW_cons hsh;obtain rfl:=hasAllW_nil h2;obtain⟨xs,rfl,h3⟩:=hasW_list h1;obtain⟨ns,rfl⟩:=items_int h3;have hW:ns.length<=n:=by
  unfold OpenLaw.pre at hc;have h4:(WTm.not (.lt (.lit (.int (n:Int))) (.len (.arg 0)))).holds [] {args:=[.list (ns.map .int)]}=true:=by
   have h4:=(holds_andW hc).1;rw[hn]at h4;exact h4
  have h5:=condW_of h4 (w_not (w_lt w_lit (w_len_list (w_arg rfl))));rw[zAB]at h5;refine zGM λ q=>?_
  have q':(n:Int)<((ns.length:Nat):Int):=by lia
  first
   |(rw[decide_eq_true q']at h5;exact absurd h5 (by decide))
   |(simp at h5;lia)
 cases hwl with
 |cons w1 w2=>
  cases w2;cases w1 with
  |list ho qV=>exact⟨_,_,ns,rfl,rfl,ho,qW ns _ qV,hW⟩
def aBK(l:OpenLaw)(args:List WData):l.row.toRowW.claim.post args (.bool true) args=true:=
 postW_of (r:=l.row.toRowW) (X:=(true==true))
  (show WShape.has [] (.bool true) .bool=true by first|rfl|decide|simp[WShape.has,WShape.arms,WShape.armsAll])
  (show(WTm.eq .res (.lit (.bool true))).value [] {args:=args,res:=some (.bool true),after:=args}=some (.bool (true==true))from w_eq_bool (w_res rfl) w_lit) rfl
def yW{l:OpenLaw}{n:Nat}{q:zAO}{loose:List Str}{XP:(Str->Option Value)->Heap->Prop}{YP:World->Heap->Prop}{d:DefRec}
  (hn:l.most=some n)(hdf:d.params.defaults=[])
  (call:∀(w:World) (z5 z4:zAC) (mg mb:Str->Option Value) (fa:Addr) (o:Obj) (pm cd doc:Value) (a:Addr) (vs:List Value) (ns:List Int),
   Ground q loose [] XP w z5 mg mb z4.heap->YP w z4.heap->
   z4.heap.get? fa=some o->o.data= .func (docDef d.name d.params d.body d.scope pm cd doc)->z4.heap.CodeRec cd d.name->mg d.name=some (.ref fa)->
   z4.heap.get? a=some {cls:=.type "list",data:=.seq vs.toArray}->zBI vs ns->ns.length<=n->z4.gens=#[]->
   zCI (model l.prog w) zET (.call (.ref fa) ⟨[.ref a],[]⟩) (λ r s'=>r= .ok (.ret (.bool true))/\OldK z4.heap s'.heap/\s'.os=z4.os/\zDv s'.gens) z4):
  WalkO q loose XP YP l.row.toRowW d [] (λ f vs=>zFh f vs):=by
 intro w z5 z4 mg mb G Y fa o pm cd doc dV kV ho hd hcd hD hmg hg args vals as hpre hlay hrd hwl hlo;obtain rfl:dV= .none:=Dflts.none hD hdf;obtain rfl:kV= .none:=Dflts.noKw hD;obtain⟨a,vs,ns,rfl,rfl,hobj,hints,hW⟩:=aBI hn hpre hwl;refine enter_call (zEl (call w z5 z4 mg mb fa o pm cd doc a vs ns G Y ho (fd_plain hd) hcd hmg hobj hints hW hg) λ r s' hq=>?_);obtain⟨rfl,h2,h3,h4⟩:=hq;exact⟨.inl ⟨.bool true,.bool true,[],rfl,λ _=>rfl,.bool true,aBK l _,λ _=>⟨zD5,λ _ hm=>(nomatch hm)⟩⟩,h2,h3,h4⟩
section
variable{prog:zAO}{w:World}{A:zA3}{E:Value->zAC->Prop}{s:zAC}{K:Frag}
def make_obj(X:K.In s.heap)(hm:makesIn K C=true)(hi:findIn K (.ref C) "__init__"=some (some (.ref fI)))(hf:isFn K (.ref fI)=true)
  (h:zCI (model prog w) (A.under (.builtin "type.__call__" ⟨.ref C::rest,kw⟩)) (.call (.ref fI) ⟨.ref (s.heap.objs.size+1)::rest,kw⟩) (InitBack (s.heap.objs.size+1) R)
   {s with heap:=(s.heap.push emptyDict).push (instObj C s.heap.objs.size)}):zCI (model prog w) A (.call (.ref C) ⟨rest,kw⟩) R s:=by
 obtain⟨hh,g,d,t,os⟩:=s;exact make_core (makes_of X hm) (looks_findIn X hi) (λ self=>bind_fn X self (beq_iff_eq.mp hf)) (.inl rfl) h
def get_field(X:K.In s.heap)(I:zFt s.heap x ox C (some (dictOf es n)))(hg:plainGet K C name=true)(hh:hasDictIn K C=true)(ha:findIn K (.ref C) name=some none)
  (hl:getL name es=some (some v))(hv:handedIn v=true)(h:Q v {s with toks:=s.toks+1}):wpAny (model prog w) A (getAttr (.ref x) name expr) Q E s:=
 get_value X I (plainGet_of hg).1 (findObj_own hh ha rfl hl) hv h
def ledger(h:Heap)(L d:Addr):hZ:=(zAp h.objs.size).filterMap λ a=>if a=L\/a=d then none else(h.get? a).map λ o=>(a,o)
end
end Att
namespace L2
open PySem PySem.Spec PyProof.Rows
theorem uO:∀{vs:List Value} {ns:List Int},zBI vs ns->Vals (ns.map V.int) vs
 |_,_,.nil=>.nil
 |_,_,.cons n t h=>.cons ⟨t,rfl⟩ (uO h)
def Only(H:Hp):Prop:=∀b,H b=none\/∃o xs,H b=some (.frz o (.lst xs))
def lC(s:Stmt):zCR:=match s with
 | .FunctionDef _ a _ _ _ _ _ _ _ _=>a
 |_=>{posonlyargs:=[],args:=[],vararg:=none,kwonlyargs:=[],kw_defaults:=[],kwarg:=none,defaults:=[]}
def dh(s:Stmt):List Stmt:=match s with
 | .FunctionDef _ _ b _ _ _ _ _ _ _=>b
 |_=>[]
def aM(s:Stmt):Scope:=match s with
 | .FunctionDef _ _ _ _ _ _ sc _ _ _=>sc
 |_=>{kind:=.function,names:=[],isGenerator:=false,isCoroutine:=false}
abbrev CX0:CXT:=λ _ _ _ _ _ _=>False
abbrev E0:XK:=λ _ _ _=>False
structure Fun(K:zAA)(x qual:Str)(st:Stmt)(f:Addr)(fd:zAa):Prop where
 ex:∃(oc:Value) (od:Option Addr) (kV doc pm:Value) (an:Option Addr) (cdv ct:Value) (osl:Array (Option Value)),
  fd=zBl x qual (lC st) (dh st) (aM st) .none kV doc pm an cdv ct/\K.lookup f=some ⟨oc,od,.func fd,osl⟩/\zDG K cdv qual=true
 kp:zCd K (.ref f)=true
section
variable{K:zAA}
def Fun.binds{x qual:Str}{st:Stmt}{f:Addr}{fd:zAa}{ps:List Str}(F:Fun K x qual st f fd)
  (h:∀(kV doc pm:Value) (an:Option Addr) (cdv ct:Value) (us:List Value),us.length=ps.length->zFi (zBl x qual (lC st) (dh st) (aM st) .none kV doc pm an cdv ct) ⟨us,[]⟩=pure (ps.zip us)):Binds K fd ps []:=by
 obtain⟨oc,od,kV,doc,pm,an,cdv,ct,osl,rfl,lk,hcd⟩:=F.ex;exact .all (h kV doc pm an cdv ct)
def aIC{x qual:Str}{st:Stmt}{f:Addr}{oc:Value}{od an:Option Addr}{osl:Array (Option Value)}{kV doc pm cdv ct:Value}(l:K.lookup f=some ⟨oc,od,.func (zBl x qual (lC st) (dh st) (aM st) .none kV doc pm an cdv ct),osl⟩)
  (c:zDG K cdv qual=true)(k:zCd K (.ref f)=true):Fun K x qual st f (zBl x qual (lC st) (dh st) (aM st) .none kV doc pm an cdv ct):=⟨⟨oc,od,kV,doc,pm,an,cdv,ct,osl,rfl,l,c⟩,k⟩
end
def aQ(H H':Hp):Prop:=∀b o,H b=some o->H' b=some o
def aQ.refl(H:Hp):aQ H H:=λ _ _ h=>h
def aQ.trans(a:aQ H H1)(b:aQ H1 H2):aQ H H2:=λ c o h=>b c o (a c o h)
def aQ.free(e:aQ H H')(h:H' l=zGY):H l=zGY:=by
 cases q:H l with
 |none=>rfl
 |some o=>
  rw[e l o q]at h;cases h
end L2
set_option maxHeartbeats 4000000
namespace HT
open PySem PyProof.Rows
def lexLe:List Int->List Int->Bool
 |[],_=>true
 |_::_,[]=>false
 |x::xs,y::ys=>if x=y then lexLe xs ys else decide (x<=y)
def zm(x y:Int)(xs ys:List Int):lexLe (x::xs) (y::ys)=if x=y then lexLe xs ys else decide (x<=y):=rfl
def aC0(A:zA3)(s:zAC)(a:Int)(t:Tok)(c:Int)(u:Tok)(prog:zAO)(w:World)(E:Value->zAC->Prop)(Q:Value->zAC->Prop)(h:Q (.bool (decide (a<=c))) s):
  wpAny (model prog w) A (zDR .LtE (.int a t) (.int c u)) Q E s:=
 (PyProof.Rows.le_int h:wpAny (model prog w) A (zAk .LtE (.int a t) (.int c u)) Q E s)
section
open PySem.SeqAt
open PySem.AutoSeq1(wpAny_loadPart')
open PySem.MeetsSeq PySem.MeetsSeq2 PySem.MeetsSeq3
def tX(l b:Addr)(items items2:Array Value)(n n2:Nat)(dd dd2:Option Addr)(sl sl2:Array (Option Value))(ns ms:List Int)(hi:zBI items.toList ns)(hj:zBI items2.toList ms):
  Meets (zEb.«tuple.__le__» ⟨[.ref l,.ref b],[]⟩)
   (λ _ R s=>s.heap.get? l=some {cls:=.type "tuple",dict:=dd,data:=.seq items n,slots:=sl}/\s.heap.get? b=some {cls:=.type "tuple",dict:=dd2,data:=.seq items2 n2,slots:=sl2}/\
    R (.ok (.ret (.bool (lexLe ns ms)))) s):=
 .of_wp λ prog w A R s h=>by
  obtain⟨hp,g,d,tk,os⟩:=s;obtain⟨hl,hb,h⟩:=h;have f2:=zCS;have z1:items.size=ns.length:=by rw[<-hi.length];simp
  have z2:items2.size=ms.length:=by rw[<-hj.length];simp
  wp_walk using zBz hl,zBz hb,zDn _ (λ rest b s'=>b.1=none/\s'=⟨hp,g,d,tk,os⟩/\∃(vs ws:List Value) (ns' ms':List Int),rest=vs.zip ws/\
   zBI vs ns'/\zBI ws ms'/\ns'.length+items2.size=ms'.length+items.size/\R (.ok (.ret (.bool (lexLe ns' ms')))) ⟨hp,g,d,tk,os⟩) _
  case turn=>
   rintro⟨y,x⟩ rest b s' ⟨hb',rfl,vs,ws,ns',ms',hz,hvi,hwi,hW,hR⟩;cases hvi with
   |nil=>rw[zFs]at hz;cases hz
   |cons a t hvi'=>
    cases hwi with
    |nil=>rw[zFg]at hz;cases hz
    |cons c u hwi'=>
     rw[zAr]at hz;injection hz with hyx hrest
     injection hyx with hy hx
     subst hy hx;rw[zm]at hR;simp only[zA2]at hW;obtain⟨e,he,hiff⟩:=yN A.in1 ⟨hp,g,d,tk,os⟩ a t c u;refine zAE (he prog w _ _ ?_);cases e with
     |true=>
      rw[if_pos (hiff.mp rfl)]at hR;wp_walk;exact⟨rfl,rfl,_,_,_,_,hrest,hvi',hwi',by lia,hR⟩
     |false=>
      rw[if_neg (λ q=>absurd (hiff.mpr q) zA8)]at hR;have hri:=aC0 A.in1 ⟨hp,g,d,tk,os⟩ a t c u prog w;wp_walk using hri;exact⟨_,rfl,by simpa using hR⟩
  case fin=>
   rintro⟨b1,b2⟩ s' ⟨hb',rfl,vs,ws,ns',ms',hz,hvi,hwi,hW,hR⟩;simp only at hb';subst hb';have hv:lexLe ns' ms'=decide (items.size<=items2.size):=by
    cases hvi with
    |nil=>
     simp only[zAz]at hW;have e:lexLe [] ms'=true:=by cases ms'<;>rfl
     rw[e];exact(decide_eq_true (by lia)).symm
    |cons a t hv=>
     cases hwi with
     |nil=>
      simp only[zAz,zA2]at hW;show false=_;exact(decide_eq_false (by lia)).symm
     |cons c u hw=>
      rw[zAr]at hz;cases hz
   rw[hv]at hR;wp_walk;exact⟨_,rfl,by simpa[zB6]using hR⟩
  case h=>
   exact⟨rfl,rfl,items.toList,items2.toList,ns,ms,rfl,hi,hj,by lia,h⟩
end
section
variable{prog:zAO}{w:World}{A:zA3}{E:Value->zAC->Prop}{s:zAC}
def zp(hl:IsTup s.heap l items)(hb:IsTup s.heap b items2)(hi:zBI items.toList ns)(hj:zBI items2.toList ms)
  (hu:A.units<cLine)(h:Q (.bool (lexLe ns ms)) s):wpAny (model prog w) A (zAk .LtE (.ref l) (.ref b)) Q E s:=by
 obtain⟨⟨cls,dd,data,sl⟩,ho,hc,n,hd⟩:=id hl;obtain⟨⟨cls2,dd2,data2,sl2⟩,ho2,hc2,n2,hd2⟩:=id hb;simp only at hc hd hc2 hd2;subst hc hd hc2 hd2;exact zCu (op:=.LtE) ⟨_,ho,rfl⟩ ⟨_,ho2,rfl⟩ PySem.F.slot_tuple_le PySem.F.entry_tuple_le (PySem.F.args_tuple_le_2 _ _) (tX l b items items2 n n2 dd dd2 sl sl2 ns ms hi hj)
  ⟨ho,ho2,show zDN (lexLe ns ms)≠zCs/\Q (.bool (lexLe ns ms)) s from⟨(λ x=>nomatch x),h⟩⟩ hu
def aDb{ws:List Value}(ht:IsTup s.heap t #[])(hb:IsTup s.heap b ws.toArray)(h1:Q (.ref b) s):wpAny (model prog w) A (zBv .Add (.ref t) (.ref b)) Q E s:=by
 obtain⟨⟨cls,dd,data,sl⟩,ho,hc,n,hd⟩:=id ht;obtain⟨⟨cls2,dd2,data2,sl2⟩,ho2,hc2,n2,hd2⟩:=id hb;simp only at hc hd hc2 hd2;subst hc hd hc2 hd2;exact zGH ⟨_,ho,rfl⟩ ⟨_,ho2,rfl⟩ zEu zFl zDW zDM (zDJ _ _)
   (tuple_addW0 t b #[] ws.toArray n n2 dd dd2 sl sl2 (by simp)) ⟨ho,ho2,h1⟩
end
end HT
namespace L2
open PySem PySem.Spec PyProof.Rows
def aFJ(t T:String):Bool:=decide (t=T)||(decide (t="bool")&&decide (T="int"))
def aFG{K:zAA}(ht:t∈["NoneType","bool","int","str","list","tuple","dict"])(hT:T∈["bool","int","str","list","tuple","dict"]):
  zDH K (.type t) (.type T)=some (aFJ t T):=by
 simp only[zAV,zCA,or_false]at ht hT;rcases ht with rfl|rfl|rfl|rfl|rfl|rfl|rfl<;>rcases hT with rfl|rfl|rfl|rfl|rfl|rfl<;>kernel_rfl
def jt(t T:String)(b:Bool):Bool:=decide (t∈["NoneType","bool","int","str","list","tuple","dict"])&&decide (T∈["bool","int","str","list","tuple","dict"])&&(aFJ t T==b)
def zx{K:zAA}(h:jt t T b=true):zDH K (.type t) (.type T)=some b:=by
 unfold jt at h;rw[zAU,zAU]at h;rw[aFG (of_decide_eq_true h.1.1) (of_decide_eq_true h.1.2),zGI h.2]
def bY(h:H p=none)(o:HO):aQ H (upd H p o):=λ b u q=>by rw[aW (bu q h)];exact q
section
variable{X:Cx}
def aJ2(K:zAA):List V->Hp->VK->Prop:=λ xs H Q=>∃x T t b,xs=[x,.ty T]/\pN K H x (.type t)/\jt t T b=true/\Q (.bl b) H
def jR:dN X (.builtin "isinstance") (aJ2 X.K):=by
 intro hV s Z H xs us Q I r h;obtain⟨x,T,t,b,rfl,ty,ok,q⟩:=h;obtain⟨u,w',rfl,r1,r2⟩:=vals2 r;obtain rfl:w'=zDA T:=r2;exact aB6 I r1 ty (zx ok) λ tk=>⟨.bl b,H,I.tok tk,rfl,q⟩
def aE1(K:zAA):R2:=λ x y H Q=>∃a b ns ms,x= .ref a/\y= .ref b/\SqT K H a (ns.map V.int)/\SqT K H b (ms.map V.int)/\Q (.bl (HT.lexLe ns ms)) H
def aHV(hu:X.A.units<cLine):OpR X (zAk .LtE) (aE1 X.K):=by
 intro hV s Z H x y v u Q I rx ry h;obtain⟨a,b,ns,ms,rfl,rfl,ha,hb,q⟩:=h;cases rx;cases ry;obtain⟨its,r1,p1,_⟩:=I.tuple ha;obtain⟨its2,r2,p2,_⟩:=I.tuple hb;have i1:zBI its.toArray.toList ns:=intsAre_of r1;have i2:zBI its2.toArray.toList ms:=intsAre_of r2;exact HT.zp p1 p2 i1 i2 hu ⟨.bl (HT.lexLe ns ms),H,I,rfl,q⟩
def aCo:OpR X (zAk .Is) (λ x y H Q=>∃b c,x= .bl b/\y= .bl c/\Q (.bl (b==c)) H):=by
 intro hV s Z H x y v u Q I rx ry h;obtain⟨b,c,rfl,rfl,q⟩:=h;cases rx;cases ry;exact is_bool (aD4 I q rfl)
def Inv.big'(I:Inv X hV Z H s):zCe<s.heap.objs.size:=by
 have h:zA4<s.heap.objs.size:=(I.mod.glob.keeps I.bk).lt;exact Nat.lt_trans (by decide) h
def aI0:TE:=λ _ H Q=>∀p,H p=none->Q (.ref p) (upd H p (.dK []))
def aEi:PE X (.Dict [] [] pos) aI0:=λ hV s Z H Q I h=>
 wpAny_Dict_empty ⟨.ref s.heap.objs.size,_,I.laid (a:=s.heap.objs.size) (o:=.dK []) (t':=s.toks) (λ _ _ q=>zAF _ q) (zAT _)
  ⟨zAo _,beq_eq_false_iff_ne.mpr (zDT (zA5 I.big')),[],.nil,Heap.DictOf.new s.heap⟩,rfl,h _ (I.hok.fresh (zAT _))⟩
end
def iu(l:Addr)(H H':Hp):Prop:=∀b o,b≠l->H b=some o->H' b=some o
def aQ.sqt{K:zAA}(e:aQ H H')(h:SqT K H a xs):SqT K H' a xs:=by
 rcases h with (h|⟨o,h⟩)|h
 .exact .inl (.inl (e _ _ h))
 .exact .inl (.inr ⟨o,e _ _ h⟩)
 .exact .inr h
inductive D where
 |non|bl (b:Bool)|int (i:Int)|str (x:Str)|tup (l:List D)|lst (l:List D)|dct
mutual
inductive Rep(H:Hp):V->D->Prop where
 |non:Rep H .non .non
 |bl (b:Bool):Rep H (.bl b) (.bl b)
 |int (i:Int):Rep H (.int i) (.int i)
 |str (x:Str):Rep H (.str x) (.str x)
 |tup {a:Addr} {xs:List V} {ds:List D} (h:H a=some (.tup xs)) (r:aDl H xs ds):Rep H (.ref a) (.tup ds)
 |lst {a:Addr} {xs:List V} {ds:List D} (h:H a=some (.lst xs)) (r:aDl H xs ds):Rep H (.ref a) (.lst ds)
 |dct {a:Addr} (h:H a=some (.dK [])):Rep H (.ref a) .dct
inductive aDl(H:Hp):List V->List D->Prop where
 |nil:aDl H [] []
 |cons {x:V} {d:D} {xs:List V} {ds:List D} (h:Rep H x d) (r:aDl H xs ds):aDl H (x::xs) (d::ds)
end
def PE.weaken(h:PE X e t)(imp:∀Z H Q,t' Z H Q->t Z H Q):PE X e t':=λ hV s Z H Q I q=>h hV s Z H Q I (imp Z H Q q)
def OpR.weaken(h:OpR X f r)(imp:∀x y H Q,r' x y H Q->r x y H Q):OpR X f r':=λ hV s Z H x y v u Q I rx ry q=>h hV s Z H x y v u Q I rx ry (imp x y H Q q)
def New(H:Hp)(o:HO)(Q:VK):Prop:=∀p H',aQ H H'->H' p=some o->H p=none->Q (.ref p) H'
def New.at(n:New H o Q)(hp:H p=none):Q (.ref p) (upd H p o):=n p _ (bY hp o) aa hp
section
variable{X:Cx}{es:List Expr}{t:TA}{pos:Pos}
def aIW(t:TA):TE:=λ Z H Q=>t Z H λ xs H1=>xs.length<=zAN/\New H1 (.tup xs) Q
def aFo(t:TA):TE:=λ Z H Q=>t Z H λ xs H1=>xs.length<=zAN/\New H1 (.lst xs) Q
def aEe{x1}(h:PA X es t):PE X (.Tuple es x1 pos) (aIW t):=by
 have h':PA X es (λ Z H Q=>∃R:List V->Hp->Prop,t Z H R/\∀xs H',R xs H'->Q xs H'):=by
  intro pos hV s Z H Q I ⟨R,q,imp⟩;exact thn (h pos hV s Z H R I q) λ us s' ⟨vs,H',I',r,q'⟩=>⟨vs,H',I',r,imp _ _ q'⟩
 exact(aHA h').weaken λ Z H Q q=>⟨_,q,λ xs H' ⟨z,n⟩=>⟨z,λ p hp=>n.at hp⟩⟩
def vf(h:PA X es t):PE X (.List es pos) (aFo t):=by
 have h':PA X es (λ Z H Q=>∃R:List V->Hp->Prop,t Z H R/\∀xs H',R xs H'->Q xs H'):=by
  intro pos hV s Z H Q I ⟨R,q,imp⟩;exact thn (h pos hV s Z H R I q) λ us s' ⟨vs,H',I',r,q'⟩=>⟨vs,H',I',r,imp _ _ q'⟩
 exact(aHG h').weaken λ Z H Q q=>⟨_,q,λ xs H' ⟨z,n⟩=>⟨z,λ p hp=>n.at hp⟩⟩
def aG5:TE:=λ _ H Q=>New H (.dK []) Q
def aCg:PE X (.Dict [] [] pos) aG5:=aEi.weaken λ Z H Q n p hp=>n.at hp
def aGD:R2:=λ x y H Q=>∃l b xs zs,x= .ref l/\y= .ref b/\H l=some (.lst xs)/\H b=some (.lst zs)/\xs.length+zs.length<=zAN/\New H (.lst (xs++zs)) Q
def aEu:OpR X (zBv .Add) aGD:=aH0.weaken λ x y H Q ⟨l,b,xs,zs,e1,e2,h1,h2,z,n⟩=>⟨l,b,xs,zs,e1,e2,h1,h2,z,λ p hp=>n.at hp⟩
def rN:V->List V->Hp->VK->Prop:=λ x vs H Q=>∃l xs y,x= .ref l/\vs=[y]/\H l=some (.lst xs)/\xs.length<zAN/\∀H',iu l H H'->H' l=some (.lst (xs++[y]))->Q .non H'
def sH:MtM X "list.append" rN:=λ hV s Z H x xs v us Q I rx rv ⟨l,ys,y,e1,e2,h,z,n⟩=>
 uZ hV s Z H x xs v us Q I rx rv ⟨l,ys,y,e1,e2,h,z,n _ (λ b o ne hb=>by rw[aW ne];exact hb) aa⟩
end
def aq(scope:Scope)(env:Env):List (Str×Addr):=(scope.names.filterMap λ y=>if y.2== .free then(env.cells.lookup y.1).map λ c=>(y.1,c)else none).reverse
theorem tM(env:Env):∀(names:List (Str×zDI)) (acc:List (Str×Addr)),(∀y∈names,y.2= .free->∃c,env.cells.lookup y.1=some c)->
  (forIn names acc λ(x:Str×zDI) r=>if (x.2== .free)=true then do let c <-cellOf env x.1;pure (zBc ((x.1,c)::r))else pure (zBc r):Sem (List (Str×Addr)))=
   pure ((names.filterMap λ y=>if y.2== .free then(env.cells.lookup y.1).map λ c=>(y.1,c)else none).reverse++acc)
 |[],acc,_=>rfl
 |(n,k)::r,acc,h=>by
  rw[List.forIn_cons];have ih:=λ acc'=>tM env r acc' λ y hy=>h y (zAK _ hy)
  by_cases hk:k= .free
  .subst hk
   obtain⟨c,hc⟩:=h (n,.free) zAP rfl;have hc':env.cells.lookup n=some c:=hc;simp only[beq_self_eq_true,if_true,cellOf,hc',zBq,zD4,zCf,zCK,List.singleton_append];exact ih _
  .have hb:(k==zB3)=false:=by simpa using hk
   simp only[hb,zBD,if_false,zBq];exact ih _
def jF(h:∀y∈scope.names,y.2= .free->∃c,env.cells.lookup y.1=some c):zEf scope env=pure (aq scope env):=by
 have e:=tM env scope.names [] h;rw[zAv]at e;have e2:zEf scope env=((forIn scope.names ([]:List (Str×Addr)) λ(x:Str×zDI) r=>if (x.2== .free)=true then do let c <-cellOf env x.1;pure (zBc ((x.1,c)::r))else pure (zBc r):Sem (List (Str×Addr)))>>=λ r=>pure r):=rfl;rw[e2,e];rfl
def qJ(h:(aq scope env).lookup x=some c):env.cells.lookup x=some c:=by
 have hm:=zAg h;unfold aq at hm;rw[zGC,zCB]at hm;obtain⟨y,hy,e⟩:=hm;split at e
 .cases q:env.cells.lookup y.1 with
  |none=>rw[q]at e;cases e
  |some c'=>
   rw[q]at e;have e':=zAb e;injection e' with e1 e2
   subst e1 e2;exact q
 .cases e
def yR(hx:scope.names.lookup x=some .free)(h:env.cells.lookup x=some c):(aq scope env).lookup x=some c:=by
 have hm:(x,zB3)∈scope.names:=zAg hx
 have:(x,c)∈aq scope env:=by
  unfold aq;rw[zGC,zCB];exact⟨_,hm,by simp[h]⟩
 cases q:(aq scope env).lookup x with
 |none=>
  exact absurd this (by
   intro hm'
   have:=List.lookup_eq_none_iff.mp q _ hm'
   simp at this)
 |some c'=>
  have:=qJ q
  rw[h]at this;exact this.symm▸rfl
def qQ(scope:Scope)(C:Addr):List (Str×Addr):=zDP (C+1) scope.names []
theorem jQ:∀(names:List (Str×zDI)) (n:Nat) (acc:List (Str×Addr)),zDP n names acc=zDP n names []++acc
 |[],_,_=>rfl
 |(x,k)::r,n,acc=>by
  unfold zDP;split
  .rw[jQ r (n+1) ((x,n)::acc),jQ r (n+1) [(x,n)],zCK];rfl
  .exact jQ r n acc
theorem mZ:∀{names:List (Str×zDI)} {n:Nat} {x:Str} {c:Addr},(x,c)∈zDP n names []->(x,zCl)∈names
 |(y,k)::r,n,x,c,h=>by
  unfold zDP at h;split at h
  .rename_i hk
   rw[jQ,zAe]at h;rcases h with h|h
   .exact zAK _ (mZ h)
   .have e:=zA7.mp h
    cases e;rw[zGI hk];exact zAP
  .exact zAK _ (mZ h)
 |[],_,_,_,h=>by cases h
def jN{l m:List (Str×Addr)}(h:(l++m).lookup x=some c):l.lookup x=some c\/(l.lookup x=none/\m.lookup x=some c):=by
 rw[zEF]at h;cases e:l.lookup x with
 |some c'=>rw[e]at h;exact .inl h
 |none=>rw[e]at h;exact .inr ⟨rfl,h⟩
def aEx{M:Model}{A:zA3}{E:Value->zAC->Prop}{s:zAC}{scope:Scope}{globals:Addr}{cl:List (Str×Addr)}{qual:Str}{env:Env}{Q:Env->zAC->Prop}
  (h:∀h':Heap,h'.Ns s.heap.objs.size (λ _=>none)->(∀b o,s.heap.get? b=some o->h'.get? b=some o)->CellsOk h' (s.heap.objs.size+1) (qQ scope s.heap.objs.size)->
   Q {scope:=scope,locals:=s.heap.objs.size,globals:=globals,cells:=qQ scope s.heap.objs.size++cl,qual:=qual,func:=none,code:=env.code,frame:=env.frame,builtins:=env.builtins} {s with heap:=h'}):
  wpAny M A (zF7 scope globals cl [] qual none .none (some env)) Q E s:=by
 simp only[zF7,zF2,if_true];refine zAE (wpAny_alloc ?_);refine zAE (wpAny_layCells _ (λ name kind cells=>by cases hkc:kind==zCl<;>simp[hkc]) _ _ _ _ ?_);have ok:=cellsFrom_ok scope.names (s.heap.push {cls:=.type "dict",data:=.dict #[]}) (s.heap.objs.size+1) [] ⟨λ _ _ hm=>(nomatch hm),zD5⟩ (by rw[zBf];exact zAT _);rw[zBf]at ok;rw[show({s with heap:=s.heap.push {cls:=.type "dict",data:=.dict #[]}}:zAC).heap.objs.size=s.heap.objs.size+1 from zBf ..,jQ];refine zA1 ?_;exact h _ ((Heap.Ns.new s.heap (.type "dict")).keeps (pushCells_keeps _ _)) (λ b o e=>pushCells_keeps _ _ b o (zAF _ e)) ok
def Cx.block(X:Cx)(scope:Scope)(C:Addr)(N:List Str)(fp:List Addr)(z5:zAC)(zS:Hp):Cx:=
  {prog:=X.prog,w:=X.w,K:=X.K,mg:=X.mg,base:=X.base,A:=X.A,N:=N,z5:=z5,zS:=zS,env:=compEnvC scope (qQ scope C++aq scope X.env) C X.env,outer:=X.stack,stack:=X.stack,ex:=fp,
    fn:=λ x=>scope.names.lookup x==some .cell,calm:=X.calm,pn:=[],xe:=λ _ _=>False}
structure gH(X:Cx)(scope:Scope)(N:List Str)(st:St->St)(ks:List Nat):Prop where
 kind:scope.kind= .function
 sep:∀y∈scope.names,y.2= .cell->scope.names.lookup y.1=some .cell
 loc:∀y∈scope.names,y.2= .local->scope.names.lookup y.1=some .local
 free:∀y∈scope.names,y.2= .free->X.env.kindOf y.1=some .cell\/X.env.kindOf y.1=some .free
 len:∀Z,(st Z).length=N.length
 val:∀Z (i:Nat) x v,N[i]? =some x->(st Z)[i]? =some (some v)->scope.names.lookup x=some .free/\i∉ks/\∃j:Nat,X.N[j]? =some x/\Z[j]? =some (some v)
def v7(h:(zFL scope env).names.lookup x=some .cell\/(zFL scope env).names.lookup x=some .free):scope.names.lookup x=some .free\/scope.names.lookup x=some .cell:=by
 have go:∀names:List (Str×zDI),((names.map λ(n,k)=>if (k==zB3&&env.scope.kind== .function&&env.kindOf n==some .cell)then(n,zCl)else(n,k)).lookup x=some .cell\/
   (names.map λ(n,k)=>if (k==zB3&&env.scope.kind== .function&&env.kindOf n==some .cell)then(n,zCl)else(n,k)).lookup x=some .free)->names.lookup x=some .free\/names.lookup x=some .cell:=by
  intro names;induction names with
  |nil=>intro h;simp at h
  |cons y r ih=>
   obtain⟨n,k⟩:=y;intro h;rw[zAG]at h;by_cases hx:x==n
   .rw[zAn,hx]
    show some k=some .free\/some k=some .cell;by_cases hcc:(k==zB3&&env.scope.kind== .function&&env.kindOf n==some .cell)=true
    .rw[zAU,zAU]at hcc
     rw[zGI hcc.1.1];exact .inl rfl
    .simp only[if_neg hcc,zAn,hx]at h
     exact h.elim .inr .inl
   .have hx':(x==n)=false:=by simpa using hx
    rw[zAn,hx'];refine ih ?_;by_cases hcc:(k==zB3&&env.scope.kind== .function&&env.kindOf n==some .cell)=true
    .simp only[if_pos hcc,zAn,hx']at h
     exact h
    .simp only[if_neg hcc,zAn,hx']at h
     exact h
 exact go scope.names h
def v8(h:scope.names.lookup x=some .free):(zFL scope env).names.lookup x=some .cell\/(zFL scope env).names.lookup x=some .free:=by
 have go:∀names:List (Str×zDI),names.lookup x=some .free->((names.map λ(n,k)=>if (k==zB3&&env.scope.kind== .function&&env.kindOf n==some .cell)then(n,zCl)else(n,k)).lookup x=some .cell\/
   (names.map λ(n,k)=>if (k==zB3&&env.scope.kind== .function&&env.kindOf n==some .cell)then(n,zCl)else(n,k)).lookup x=some .free):=by
  intro names;induction names with
  |nil=>intro h;simp at h
  |cons y r ih=>
   obtain⟨n,k⟩:=y;intro h;rw[zAG];by_cases hx:x==n
   .rw[zAn,hx]at h
    have hk:k= .free:=zAb h;by_cases hcc:(k==zB3&&env.scope.kind== .function&&env.kindOf n==some .cell)=true
    .simp only[if_pos hcc,zAn,hx]
     exact .inl trivial
    .simp only[if_neg hcc,zAn,hx]
     exact .inr (by rw[hk])
   .have hx':(x==n)=false:=by simpa using hx
    rw[zAn,hx']at h;by_cases hcc:(k==zB3&&env.scope.kind== .function&&env.kindOf n==some .cell)=true
    .simp only[if_pos hcc,zAn,hx']
     exact ih h
    .simp only[if_neg hcc,zAn,hx']
     exact ih h
 exact go scope.names h
section
variable{X:Cx}{hV:hZ}{Z:St}{H:Hp}{s:zAC}
theorem Inv.block{st:St->St}{D C:Addr}(I:Inv X hV Z H s)(B:gH X scope N st ks)
  (hfp:∀b∈fp,j9 X hV H b)(hob:∀b∈fp,∃ob,s.heap.get? b=some ob)
  (hD:s.heap.objs.size<=D)(hC:s.heap.objs.size<=C)(hDC:D≠C)(keep:∀b u,s.heap.get? b=some u->h'.get? b=some u)(hns:h'.Ns C λ _=>none)(hcs:CellsOk h' (C+1) (qQ scope C))(hDo:∀c,C<c->D≠c)(b9:cA X.prog X.w (upd H D o) h' D o):
  Inv (X.block scope C N fp s H) [] (st Z) (upd H D o) {s with heap:=h',toks:=tk}:=by
 have hHD:H D=none:=I.hok.fresh hD;have hcl:∀x c,(aq scope X.env).lookup x=some c->X.env.cells.lookup x=some c:=λ x c e=>qJ e
 have hol:∀x c,(qQ scope C).lookup x=some c->C<c/\h'.IsCell c none:=λ x c e=>let⟨q1,q2⟩:=hcs.empty x c (zAg e);⟨q2,q1⟩
 have hlt:∀x c,(aq scope X.env).lookup x=some c->c<s.heap.objs.size:=λ x c e=>let⟨v,ic⟩:=I.cell x c (hcl x c e);ic.lt
 have bX:∀b∈fp,b<s.heap.objs.size:=λ b hb=>by
  obtain⟨ob,e⟩:=hob b hb;exact zAX e
 refine⟨⟨I.mod,?_,I.ok.glob,I.ok.blt,hC,λ x y c e1 e2=>?_,λ x hx=>?_,λ x c hf e=>?_,I.ok.hd,I.ok.frames,.inl rfl,λ b hb=>⟨?_,λ x c e z=>?_⟩,
  I.bs,?_,λ b ob e hb=>?_,λ b hb hs=>?_,I.stack,I.stkFree⟩,rfl,I.bare,Un.laid keep hD hHD,⟨_,hns,λ i x v e1 e2 hv=>?_⟩,λ x c e=>?_,?_,λ x c e=>?_,λ p hp=>absurd (show p∈([]:hZ)from hp) (by simp),I.hok.laid keep hD b9,B.len Z,λ p hp=>absurd (show p∈([]:hZ)from hp) (by simp)⟩
 .show(zFL scope X.env).kind= .function
  exact B.kind
 .rcases jN e1 with a1|⟨_,a1⟩<;>rcases jN e2 with a2|⟨_,a2⟩
  .exact PySem.name_of_addr hcs.apart (zAg a1) (zAg a2)
  .exact absurd (hlt y c a2) (zEw.mpr (zAi hC (zBd (hol x c a1).1)))
  .exact absurd (hlt x c a1) (zEw.mpr (zAi hC (zBd (hol y c a2).1)))
  .exact I.ok.inj x y c (hcl x c a1) (hcl y c a2)
 .show∃c,(qQ scope C++aq scope X.env).lookup x=some c
  rw[zEF];cases e:(qQ scope C).lookup x with
  |some c=>exact⟨c,rfl⟩
  |none=>
   rcases v7 hx with hfree|hcell
   .obtain⟨c,hc⟩:=I.ok.has x (B.free (x,.free) (zAg hfree) rfl)
    exact⟨c,yR hfree hc⟩
   .obtain⟨c,hc⟩:=nY (n:=C+1) hcell
    rw[show(qQ scope C).lookup x=some c from hc]at e;cases e
 .rcases jN e with a1|⟨a0,_⟩
  .exact zAi hC (zBd (hol x c a1).1)
  .obtain⟨c',hc'⟩:=nY (n:=C+1) (zGI hf)
   rw[show(qQ scope C).lookup x=some c' from hc']at a0;cases a0
 .exact zA5 (zAY (bX b hb) hC)
 .rcases jN e with a1|⟨_,a1⟩
  .exact absurd (bX b hb) (zEw.mpr (by rw[<-z];exact zAi hC (zBd (hol x c a1).1)))
  .exact(hfp b hb).2.2.2.2.1 x c (hcl x c a1) z
 .exact zAi I.ok.bsz I.sz
 .rcases(hfp b hb).2.2.2.1 with z|z
  .exact I.ok.noex b ob e z
  .exact absurd (zAY (zAX (I.ok.bs b ob e).1) z) (zBe _)
 .rcases zAV.mp (I.stkSub b hs)with z|z
  .exact(hfp b hb).2.1 z
  .exact(hfp b hb).2.2.1 z
 .obtain⟨hfree,_,j,f1,f2⟩:=B.val Z i x v e1 e2
  obtain⟨m,hn,hl⟩:=I.loc;have hk:=B.free (x,.free) (zAg hfree) rfl;obtain⟨u,ru,hu⟩:=hl j x v f1 f2 (hk.elim (λ z=>.inr (.inl z)) λ z=>.inr (.inr z));rcases hu with ⟨k,_⟩|⟨_,c,ec,ic⟩
  .rcases hk with z|z
   .exact absurd (k.symm.trans z) (by decide)
   .exact absurd (k.symm.trans z) (by decide)
  .have hno:(qQ scope C).lookup x=none:=by
    cases e:(qQ scope C).lookup x with
    |none=>rfl
    |some c'=>
     have:=B.sep _ (mZ (zAg e)) rfl
     rw[hfree]at this;cases this
   refine⟨u,ru,.inr ⟨?_,c,by show(qQ scope C++aq scope X.env).lookup x=some c;rw[zEF,hno];exact yR hfree ec,ic.keeps keep⟩⟩;rcases hv with z|z|z
   .have z':(zFL scope X.env).names.lookup x=some .local:=z
    rcases v8 (env:=X.env) hfree with y|y
    .exact absurd (z'.symm.trans y) (by decide)
    .exact absurd (z'.symm.trans y) (by decide)
   .exact .inl z
   .exact .inr z
 .rcases jN e with a1|⟨_,a1⟩
  .exact⟨_,(hol x c a1).2⟩
  .obtain⟨v,ic⟩:=I.cell x c (hcl x c a1)
   exact⟨v,ic.keeps keep⟩
 .show upd H D o C=none
  rw[aW (zDT hDC)];exact I.hok.fresh hC
 .show upd H D o c=none
  rcases jN e with a1|⟨_,a1⟩
  .rw[aW (zDT (hDo c (hol x c a1).1))]
   exact I.hok.fresh (zAi hC (zBd (hol x c a1).1))
  .obtain⟨v,ic⟩:=I.cell x c (hcl x c a1)
   rw[aW (zA5 (zAY ic.lt hD))];exact I.freeC x c (hcl x c a1)
end
section
variable{prog:zAO}{w:World}{A:zA3}{R:zDy->zAC->Prop}{s:zAC}
def wG(I:Nat->zAC->Prop)
  (turn:∀n s,I n s->wpAny (model prog w) A (zEA it) (λ r z4=>match r with
   |none=>R (.ok .next) z4
   |some v=>wpAny (model prog w) A (zDz target it v) (λ _ z4=>wpAny (model prog w) A (zEN target env v) (λ _ zI=>
     wpAny (model prog w) A (forIn ifs true λ c r=>if r=true then do let ok <-isTrue c env (eval c env);pure (zBc ok)else pure (zBc r)) (λ ok zC=>
      if ok=true then wpAny (model prog w) A (eval elt env) (λ x s₄=>
       wpAny (model prog w) A (call (.builtin "list.append") [acc,x]) (λ _ s₅=>∃m,m<n/\I m s₅) (λ _ _=>False) s₄) (λ _ _=>False) zC
      else∃m,m<n/\I m zC) (λ _ _=>False) zI) (λ _ _=>False) z4) (λ _ _=>False) z4) (λ _ _=>False) s)
  (n:Nat)(h:I n s):zCI (model prog w) A (.compLoop (.ListComp elt [⟨target,iter,ifs,0⟩] scope pos) 0 it acc env) R s:=by
 refine codeAny_loop rfl I (λ n s hI=>?_) n h;show wpAny _ A ((compTurn (.ListComp elt [⟨target,iter,ifs,0⟩] scope pos) 0 it acc env).onRaise (λ x=>do noteFrame x env;theTreesLotGoes x)) _ _ s;refine wpAny_noted ?_;rw[compTurn_list];refine zAE (zE1 (zAE (zBV (turn n s hI) (λ r z4 zD=>?_) λ _ _ h'=>h'.elim)));cases r with
 |none=>exact zA1 zD
 |some v=>
  refine zAE (zBV zD (λ _ z4 zD=>?_) λ _ _ h'=>h'.elim);refine zAE (zBV zD (λ _ zI y9=>zAE (zBV y9 (λ ok zC h₃=>?_) λ _ _ h'=>h'.elim)) λ _ _ h'=>h'.elim);cases ok with
  |false=>exact zA1 ⟨rfl,h₃⟩
  |true=>
   exact zAE (zAE (zBV h₃ (λ x s₄ h₄=>zAE (zBV h₄ (λ _ s₅ h₅=>zA1 (zA1 ⟨rfl,h₅⟩)) λ _ _ h'=>h'.elim)) λ _ _ h'=>h'.elim))
end
def tV(g:TG)(ks:List Nat):Prop:=∀v Z H (Q:St->Hp->Prop),g v Z H Q->g v Z H (λ Z' H'=>Q Z' H'/\Z'.length=Z.length/\∀k,k∉ks->Z'[k]? =Z[k]?)
def tU(g:TGs)(ks:List Nat):Prop:=∀vs Z H (Q:St->Hp->Prop),g vs Z H Q->g vs Z H (λ Z' H'=>Q Z' H'/\Z'.length=Z.length/\∀k,k∉ks->Z'[k]? =Z[k]?)
def aFT(h:i∈ks):tV (qD i) ks:=λ v Z H Q q=>⟨q,zAw,λ k hk=>zBC (λ(e:i=k)=>hk (e▸h))⟩
def aFS:tU aIB ks:=λ vs Z H Q ⟨e,q⟩=>⟨e,q,rfl,λ _ _=>rfl⟩
def yf(g:TG):Prop:=∀v Z H (Q Q':St->Hp->Prop),(∀Z' H',Q Z' H'->Q' Z' H')->g v Z H Q->g v Z H Q'
def pO(g:TGs):Prop:=∀v Z H (Q Q':St->Hp->Prop),(∀Z' H',Q Z' H'->Q' Z' H')->g v Z H Q->g v Z H Q'
def aFV:yf (qD i):=λ v Z H Q Q' imp q=>imp _ _ q
def aFU:pO aIB:=λ v Z H Q Q' imp ⟨e,q⟩=>⟨e,imp _ _ q⟩
def aDX(h1:yf t)(h2:pO u):pO (aD0 t u):=λ vs Z H Q Q' imp ⟨v,r,e,q⟩=>⟨v,r,e,h1 _ _ _ _ _ (λ Z' H' q'=>h2 _ _ _ _ _ imp q') q⟩
def aDV(h1:tV t ks)(m1:yf t)(h2:tU u ks)(m2:pO u):tU (aD0 t u) ks:=λ vs Z H Q ⟨v,r,e,q⟩=>
 ⟨v,r,e,m1 _ _ _ _ _ (λ Z' H' ⟨q',l',k'⟩=>m2 _ _ _ _ _ (λ Z2 H2 ⟨q2,l2,k2⟩=>⟨q2,l2.trans l',λ k hk=>(k2 k hk).trans (k' k hk)⟩) (h2 _ _ _ _ q')) (h1 _ _ _ _ q)⟩
def aHz{K:zAA}(h:tU t ks):tV (aFW K n t) ks:=λ v Z H Q ⟨a,xs,e1,e2,e3,q⟩=>⟨a,xs,e1,e2,e3,h _ _ _ _ q⟩
def aIA{K:zAA}(h:pO t):yf (aFW K n t):=λ v Z H Q Q' imp ⟨a,xs,e1,e2,e3,q⟩=>⟨a,xs,e1,e2,e3,h _ _ _ _ _ imp q⟩
def aBr(X:Cx)(ifs:List Expr)(t:TT):Prop:=
 ∀(hV:hZ) (s:zAC) (Z:St) (H:Hp) (Q:Bool->Hp->Prop),Inv X hV Z H s->t Z H Q->
  wpAny (model X.prog X.w) X.A (forIn ifs true λ c r=>if r=true then do let ok <-isTrue c X.env (eval c X.env);pure (zBc ok)else pure (zBc r)) (TP X hV Z Q) X.xe s
def aJR:TT:=λ _ H Q=>Q true H
def aGz:aBr X [] aJR:=λ _ _ _ H _ I h=>wpAny_tests_nil ⟨H,I,h⟩
def aGy(h:PT X c t):aBr X [c] t:=λ hV s Z H Q I q=>wpAny_tests_one (h hV s Z H Q I q)
def tLC(wi:TI)(st:St->St)(g:TG)(tt:TT)(te:TE):TE:=λ Z H Q=>wi Z H λ J H1=>∀l,H1 l=none->∃W:Nat->Nat->List V->Hp->Prop,(∃m,W 0 m [] (upd H1 l (.lst [])))/\
 ∀i m acc H2,W i m acc H2->H2 l=some (.lst acc)/\acc.length<zAN/\((J.stop i H2/\Q (.ref l) H2)\/(J.go i H2/\∀x H3,J.yld i H2 x H3->g x (st Z) H3 λ Z4 H4=>tt Z4 H4 λ ok H5=>
  if ok=true then te Z4 H5 λ y H6=>H6 l=some (.lst acc)/\∃m',m'<m/\W (i+1) m' (acc++[y]) (upd H6 l (.lst (acc++[y])))else∃m',m'<m/\W (i+1) m' acc H5))
section
variable{X:Cx}{elt tg iter:Expr}{ifs:List Expr}{scope:Scope}{pos:Pos}{N:List Str}{st:St->St}{ks:List Nat}{wi:TI}{g:TG}{tt:TT}{te:TE}
def yC(B:gH X scope N st ks)(hc:X.calm=true)(hg:∀C fp z5 zS,PG (X.block scope C N fp z5 zS) tg g)(hgo:tV g ks)(ht:∀C fp z5 zS,aBr (X.block scope C N fp z5 zS) ifs tt)
  (he:∀C fp z5 zS,PE (X.block scope C N fp z5 zS) elt te){H1:Hp}{Q:VK}{RR:Value->Addr->zDy->zAC->Prop}
  (I:Inv X hV Z H1 zI)(T:Turn X.prog X.w X.K tg J fp it tn)(h0:tn 0 zI.heap)(hfp:∀b∈fp,j9 X hV H1 b)
  (h:∀l,H1 l=none->∃W:Nat->Nat->List V->Hp->Prop,(∃m,W 0 m [] (upd H1 l (.lst [])))/\
   ∀i m acc H2,W i m acc H2->H2 l=some (.lst acc)/\acc.length<zAN/\((J.stop i H2/\Q (.ref l) H2)\/(J.go i H2/\∀x H3,J.yld i H2 x H3->g x (st Z) H3 λ Z4 H4=>tt Z4 H4 λ ok H5=>
    if ok=true then te Z4 H5 λ y H6=>H6 l=some (.lst acc)/\∃m',m'<m/\W (i+1) m' (acc++[y]) (upd H6 l (.lst (acc++[y])))else∃m',m'<m/\W (i+1) m' acc H5)))
  (hRR:∀D C H' s',(∃Z',Inv (X.block scope C N fp zI H1) [] Z' H' s')->zI.heap.objs.size<=C->Q (.ref D) H'->RR (.ref D) C (.ok .next) s'):
  wpAny (model X.prog X.w) X.A (zGR []) (λ acc zC=>wpAny (model X.prog X.w) X.A (zF7 scope X.env.globals (aq scope X.env) [] X.env.qual none .none (some X.env)) (λ cenv s₄=>
   zCI (model X.prog X.w) X.A (.compStart (.ListComp elt [⟨tg,iter,ifs,0⟩] scope pos) 0 (.ref it) acc {cenv with scope:=zFL scope X.env}) (RR acc cenv.locals) s₄) E zC) E zI:=by
 refine zD6 (aEx λ zD hns₁ y7 hcs₁=>?_);dsimp only at hns₁ y7 hcs₁ ⊢;generalize hH2:zI.heap.push {cls:=.type "list",dict:=none,data:=.seq ([]:List Value).toArray}=P2 at hns₁ y7 hcs₁ ⊢;have hC:P2.objs.size=zI.heap.objs.size+1:=by rw[<-hH2,zBf]
 have hDC:zI.heap.objs.size≠P2.objs.size:=by rw[hC];exact zA5 (zBX _)
 have kX:zI.heap.objs.size<=P2.objs.size:=by rw[hC];exact zCG _
 have old:∀b o,zI.heap.get? b=some o->zD.get? b=some o:=λ b o e=>y7 b o (hH2▸zAF _ e)
 have b9:zD.get? zI.heap.objs.size=some {cls:=.type "list",dict:=none,data:=.seq ([]:List Value).toArray}:=y7 _ _ (hH2▸zAW _ rfl);generalize hCe:P2.objs.size=C at hns₁ y7 hcs₁ hDC kX hC ⊢;have hHD:H1 zI.heap.objs.size=none:=I.hok.fresh (zAT _);have I0:Inv (X.block scope C N fp zI H1) [] (st Z) (upd H1 zI.heap.objs.size (.lst [])) {zI with heap:=zD,toks:=zI.toks}:=
  I.block B hfp (λ b hb=>by obtain⟨o,e,_⟩:=T.obj 0 _ h0 b hb;exact⟨o,e⟩) (zAT _) kX hDC old hns₁ hcs₁ (λ c hc=>zA5 (Nat.lt_of_le_of_lt kX hc)) ⟨zAo _,[],0,.nil,b9⟩
 obtain⟨W,⟨m0,w0⟩,step⟩:=h _ hHD;have h01:tn 0 zD:=T.keep 0 _ _ h0 λ b _ o e=>old b o e
 have aI:∀{H':Hp},(∀b∈fp,H' b=none)->∀b∈fp,j9 (X.block scope C N fp zI H1) [] H' b:=λ{H'} hn b hb=>
  ⟨hn b hb,(I0.ok.exf b hb).1,I0.ok.exfs b hb,.inl hb,λ x c e=>(I0.ok.exf b hb).2 x c e,λ p hp=>absurd (show p∈([]:hZ)from hp) (by simp)⟩
 have fr0:∀b∈fp,upd H1 zI.heap.objs.size (.lst []) b=none:=λ b hb=>by
  obtain⟨o,e,_⟩:=T.obj 0 _ h0 b hb;rw[aW (zA5 (zAX e))];exact(hfp b hb).1
 have loop:∀zC:zAC,zC={zI with heap:=zD,toks:=zI.toks}->
   zCI (model X.prog X.w) X.A (.compLoop (.ListComp elt [⟨tg,iter,ifs,0⟩] scope pos) 0 (.ref it) (.ref zI.heap.objs.size) (X.block scope C N fp zI H1).env) (RR (.ref zI.heap.objs.size) C) zC:=by
  rintro zC rfl;refine wG (λ n s'=>∃i acc H2,Inv (X.block scope C N fp zI H1) [] (st Z) H2 s'/\tn i s'.heap/\(∀b∈fp,H2 b=none)/\W i n acc H2) ?_ m0 ⟨0,[],_,I0,h01,fr0,w0⟩;rintro n s3 ⟨i,acc,H2,I2,st2,fr2,w2⟩;obtain⟨hl,hz,alt⟩:=step i n acc H2 w2;rcases alt with ⟨stop,q⟩|⟨go,nxt⟩
  .refine thn (T.done (X.block scope C N fp zI H1) rfl rfl rfl hc i [] s3 (st Z) H2 _ I2 (aI fr2) st2 stop) λ r s4 ⟨hr,I4⟩=>?_
   subst hr;exact hRR _ C H2 s4 ⟨_,I4⟩ kX q
  .refine thn (T.item (X.block scope C N fp zI H1) rfl rfl rfl hc i [] s3 (st Z) H2 _ I2 (aI fr2) st2 go) λ r s4 ⟨u,hr,h4⟩=>?_
   subst hr;refine thn h4 λ _ s5 ⟨x,H5,I5,r5,y5,st5,fr5⟩=>?_
   have I5':=I5.pinned (aI fr5) (T.obj _ _ st5);refine thn (hg C fp zI H1 _ s5 (st Z) H5 x u _ I5' r5 (hgo _ _ _ _ (nxt x H5 y5))) λ _ s6 ⟨Z6,H6,I6,q6,aIt,ag6⟩=>?_
   refine thn (ht C fp zI H1 _ s6 Z6 H6 _ I6 q6) λ ok s7 ⟨H7,I7,q7⟩=>?_
   have again:∀{H9:Hp} {s9:zAC} {acc':List V},Inv (X.block scope C N fp zI H1) ([]++rP fp s5.heap) Z6 H9 s9->(∃m',m'<n/\W (i+1) m' acc' H9)->
     ∃m,m<n/\∃i acc H2,Inv (X.block scope C N fp zI H1) [] (st Z) H2 s9/\tn i s9.heap/\(∀b∈fp,H2 b=none)/\W i m acc H2:=λ{H9 s9 acc'} I9 ⟨m',hm,w9⟩=>by
    have pin9:∀b∈fp,∀o,s5.heap.get? b=some o->s9.heap.get? b=some o/\H9 b=none:=λ b hb o e=>by
     have z:=I9.pin (b,o) (zAR _ (zAR _ (dq hb e)));exact⟨z.1,z.2.1⟩
    refine⟨m',hm,i+1,acc',H9,I9.unpinned.weak (by rw[aIt]) (λ k v e=>?_),T.keep _ _ _ st5 λ b hb o e=>(pin9 b hb o e).1,λ b hb=>?_,w9⟩
    .have hk:k<(st Z).length:=(zAM.mp e).1
     have hkN:k<N.length:=by rw[<-B.len Z];exact hk
     obtain⟨_,hks,_⟩:=B.val Z k _ v (zAD hkN) e;rw[ag6 k hks];exact e
    .obtain⟨o,e,_⟩:=T.obj _ _ st5 b hb
     exact(pin9 b hb o e).2
   cases ok with
   |false=>
    rw[if_neg zA8]at q7 ⊢;exact again I7 q7
   |true=>
    rw[if_pos rfl]at q7 ⊢;refine thn (he C fp zI H1 _ s7 Z6 H7 _ I7 q7) λ u8 s8 ⟨y,H8,I8,r8,hl8,q8⟩=>?_
    refine thn (uZ _ s8 Z6 H8 (.ref zI.heap.objs.size) [y] (.ref zI.heap.objs.size) [u8] (λ _ H9=>H9=upd H8 zI.heap.objs.size (.lst (acc++[y]))) I8 rfl (.cons r8 .nil) ⟨_,acc,y,rfl,rfl,hl8,hz,rfl⟩) λ _ s9 ⟨_,H9,I9,_,e9⟩=>?_
    subst e9;exact again I9 q8
 exact codeAny_compStart_list (loop _ rfl) (T.self X.A 0 _ _ _ h01 (loop _ rfl))
def aAx(I:Inv X hV Z H1 zI)(hfp:∀b∈fp,j9 X hV H1 b)(h:∃Z',Inv (X.block scope C N fp zI H1) [] Z' H' s'):Inv X hV Z H' s':=by
 obtain⟨Z',J⟩:=h;exact I.call' (ch:=fp) J.os J.base J.hok J.bare λ b hb=>⟨(hfp b hb).2.2.2.1,(hfp b hb).2.1,(hfp b hb).2.2.2.2.1,(hfp b hb).2.2.2.2.2⟩
def aIj(B:gH X scope N st ks)(hc:X.calm=true)(hi:PI X tg iter wi)(hg:∀C fp z5 zS,PG (X.block scope C N fp z5 zS) tg g)(hgo:tV g ks)(ht:∀C fp z5 zS,aBr (X.block scope C N fp z5 zS) ifs tt)
  (he:∀C fp z5 zS,PE (X.block scope C N fp z5 zS) elt te)(hs:∀x,zBx iter X.env x=pure x:=by intro _;rfl):PE X (.ListComp elt [⟨tg,iter,ifs,0⟩] scope pos) (tLC wi st g tt te):=by
 intro hV s Z H Q I h;have hcl:zEf scope X.env=pure (aq scope X.env):=jF λ y hy hk=>I.ok.has _ (B.free y hy hk)
 rw[eval_ListComp];refine zFd (use:=none) rfl hs hcl B.kind B.loc (thn (hi hV s Z H _ I h) λ v s1 h1=>thn h1 λ itv s2 h2=>?_);obtain⟨it,fp,tn,J,H2,e,I2,T,st2,f2,hq⟩:=h2;subst e;refine yC (RR:=λ acc C=>compPost (model X.prog X.w) X.A X.xe none (EP X hV Z Q) acc C) B hc hg hgo ht he I2 T st2 f2 hq ?_;intro D C H' s' hJ kX q;have I3:=aAx I2 f2 hJ;obtain⟨Z',J'⟩:=hJ;obtain⟨m,hn,_⟩:=id J'.loc;have hHC:H' C=none:=J'.free;refine⟨m,hn,λ h'' hs''=>⟨.ref D,H',?_,rfl,q⟩⟩;exact I3.turned (t':=s'.toks) (λ b o ne e=>(hs''.2 b ne).trans e) hHC (zCH (zAY I2.lt kX)) (.inr (zAi I2.sz kX))
  (λ x c e z=>by obtain⟨v,ic⟩:=I2.cell x c e;exact absurd (zAY ic.lt (by rw[z];exact kX)) (zBe _))
  (λ p hp z=>absurd (zAY (I2.pinL hp) (by rw[z];exact kX)) (zBe _))
def xQ(hN:X.N.Nodup)(hx1:X.N[i]? =some x)(hx2:Loc X.env.scope x)(B:gH X scope N st ks)(hc:X.calm=true)(hi:PI X tg iter wi)(hg:∀C fp z5 zS,PG (X.block scope C N fp z5 zS) tg g)(hgo:tV g ks)
  (ht:∀C fp z5 zS,aBr (X.block scope C N fp z5 zS) ifs tt)(he:∀C fp z5 zS,PE (X.block scope C N fp z5 zS) elt te)(hsw:zBy (.ListComp elt [⟨tg,iter,ifs,0⟩] scope pos) (some (.Name x pos')) spos.line X.env=pure true)
  (hs:∀x,zBx iter X.env x=pure x:=by intro _;rfl)(hf:X.fn x=true\/X.env.scope.names.lookup x=some .local:=by first|exact .inl rfl|exact .inr rfl|assumption):
  PS X (.Assign [.Name x pos'] (.ListComp elt [⟨tg,iter,ifs,0⟩] scope pos) spos) (aBB (tLC wi st g tt te) (qD i)):=by
 intro hV s Z H D I h;have hcl:zEf scope X.env=pure (aq scope X.env):=jF λ y hy hk=>I.ok.has _ (B.free y hy hk)
 rw[exec_Assign_Name_used _ _ _ _ hsw];refine zAE (zE1 (zAE ?_));show wpAny _ _ (do let _ <-comprehension (.ListComp elt [⟨tg,iter,ifs,0⟩] scope pos) scope X.env _ (zGR []) false (eval iter X.env) (some (zEN (.Name x pos') X.env))) _ _ s;refine zAE (zBV (zFd (use:=some (zEN (.Name x pos') X.env)) (Q:=λ _ s'=>SP X hV D .next s') rfl hs hcl B.kind B.loc (thn (hi hV s Z H _ I h) λ v s1 h1=>thn h1 λ itv s2 h2=>?_)) (λ _ s' hq=>zA1 (zA1 hq)) λ _ _ e=>e);obtain⟨it,fp,tn,J,H2,e,I2,T,st2,f2,hq⟩:=h2;subst e;refine yC (Q:=λ x H1=>qD i x Z H1 D.nx) (RR:=λ acc C=>compPost (model X.prog X.w) X.A X.xe (some (zEN (.Name x pos') X.env)) (λ _ s'=>SP X hV D .next s') acc C) B hc hg hgo ht he I2 T st2 f2 hq ?_;intro DD C H' s' hJ kX q;have I3:=aAx I2 f2 hJ;obtain⟨Z',J'⟩:=hJ;obtain⟨m,hn,_⟩:=id J'.loc;have hHC:H' C=none:=J'.free;have neL:C≠X.env.locals:=zCH (zAY I2.lt kX);have neC:∀x c,X.env.cells.lookup x=some c->c≠C:=λ x c e z=>by obtain⟨v,ic⟩:=I2.cell x c e;exact absurd (zAY ic.lt (by rw[z];exact kX)) (zBe _)
 show wpAny _ _ (zEN (.Name x pos') X.env (.ref DD)) _ _ _;refine zGi ?_;refine uQ I3 hN hx1 hx2 (show RelV (.ref DD) (.ref DD)from rfl) (λ s4 I4 ⟨a,hsa,ha⟩=>?_) hf;have nea:C≠a:=by
  rcases ha with z|z
  .rw[z];exact neL
  .exact zDT (neC _ _ z)
 refine⟨m,hn.sameBut hsa nea,λ h'' hs''=>⟨_,H',?_,q⟩⟩;exact I4.turned (t':=s4.toks) (λ b o ne e=>(hs''.2 b ne).trans e) hHC neL (.inr (zAi I2.sz kX)) neC
  (λ p hp z=>absurd (zAY (I2.pinL hp) (by rw[z];exact kX)) (zBe _))
end
def CX1(P:zAO)(w:World):CXT:=λ outer H s E e s'=>∃(ea:Addr) (cls a0:Value) (B:Heap) (H':Hp),e= .ref ea/\s'.os=s.os/\zDv s'.gens/\Un (frs outer) [] H H' s.heap s'.heap/\HOk P w H' B/\Heap.FlyingW B outer ea cls a0 s'.heap/\
 (∀b o,s.heap.get? b=some o->H b=none->b∉frs outer->B.get? b=some o)/\(∀b o,s.heap.get? b=some o->b∉frs outer->∃o',B.get? b=some o')/\E cls none H'
structure dM(X:Cx)(E:XK):Prop where
 stk:X.stack=X.env::X.outer
 fr:X.env.frame=some X.env.locals
 ex:X.ex=[]
 xe:X.xe=λ e s'=>wpAny (model X.prog X.w) X.A (leaving X.env e) (λ _ s''=>CX1 X.prog X.w X.outer X.zS X.z5 E e s'') (λ e' s''=>CX1 X.prog X.w X.outer X.zS X.z5 E e' s'') s'
def dM.of{K:zAA}:
  dM (yP (CX1 P w) P w K mg base N qual scope f cd A outer z5 zS E) E:=⟨rfl,rfl,rfl,rfl⟩
section
variable{X:Cx}{E:XK}
def aD3{B h':Heap}(hX:X.ex=[])(I:Inv X hV Z H s)
  (a1:∀b o,s.heap.get? b=some o->H b=none->b∉frs X.stack->B.get? b=some o)(a2:∀b o,s.heap.get? b=some o->b∉frs X.stack->∃o',B.get? b=some o')
  (a3:B.StaysIn h')(a4:∀b o,b∈frs X.outer->s.heap.get? b=some o->H b=none->(∀vs,o.data≠.fields vs)->∃sl,h'.get? b=some {o with slots:=sl})
  (a5:∀b o,s.heap.get? b=some o->H b=none->H' b=none)(a6:∀b xs,H b=some (.tup xs)->H' b=some (.tup xs))(a7:∀b o u,H b=some (.frz o u)->H' b=some (.frz o u))(a8:∀b q,H b=some (.tbl q)->H' b=some (.tbl q)):
  Un (frs X.outer) [] X.zS H' X.z5.heap h'/\(∀b o,X.z5.heap.get? b=some o->X.zS b=none->b∉frs X.outer->B.get? b=some o)/\(∀b o,X.z5.heap.get? b=some o->b∉frs X.outer->∃o',B.get? b=some o'):=by
 have nx:∀b,b∉X.ex:=λ b z=>by rw[hX]at z;cases z
 have noS:∀b o,X.z5.heap.get? b=some o->b∉frs X.outer->b∉frs X.stack:=λ b o e nf hb=>by
  rcases zAV.mp (I.stkSub b hb)with z|z
  .exact absurd z (zA5 (zAY (zAX e) I.ok.above))
  .exact nf z
 have bk:∀b o,X.z5.heap.get? b=some o->X.zS b=none->b∉frs X.outer->B.get? b=some o:=λ b o e n nf=>
  a1 b o (I.base.keep b o e n nf (nx b)) (I.base.free b o e n (nx b)) (noS b o e nf)
 have ba:∀b o,X.z5.heap.get? b=some o->b∉frs X.outer->∃o',B.get? b=some o':=λ b o e nf=>by
  obtain⟨o1,e1⟩:=I.base.there b o e (nx b);exact a2 b o1 e1 (noS b o e nf)
 have sl:∀b o,X.z5.heap.get? b=some o->X.zS b=none->b∈frs X.outer->∃sl,h'.get? b=some {o with slots:=sl}:=λ b o e n hb=>by
  obtain⟨sl1,e1⟩:=I.base.slot b o e n hb (nx b);obtain⟨_,o2,ho2,hnf⟩:=I.ok.funs.mem hb;rw[e]at ho2;cases ho2;obtain⟨sl2,e2⟩:=a4 b _ hb e1 (I.base.free b o e n (nx b)) hnf;exact⟨sl2,e2⟩
 refine⟨⟨λ b o e n nf _=>a3 b o (bk b o e n nf),λ b o e n hb _=>sl b o e n hb,λ b o e n _=>?_,λ b o e _=>?_,λ b xs e=>a6 b xs (I.base.tups b xs e),λ b o u e=>a7 b o u (I.base.frzs b o u e),λ b q e=>a8 b q (I.base.tbls b q e)⟩,bk,ba⟩
 .obtain⟨o1,e1⟩:=I.base.there b o e (nx b)
  exact a5 b o1 e1 (I.base.free b o e n (nx b))
 .by_cases hb:b∈frs X.outer
  .obtain⟨s2,e2⟩:=sl b o e (I.ok.frf b hb) hb
   exact⟨_,e2⟩
  .obtain⟨o',e'⟩:=ba b o e hb
   exact⟨o',a3 b o' e'⟩
def dM.pass(D:dM X E):wO (CX1 X.prog X.w) X E:=by
 intro hV Z H s e s' I h;obtain⟨ea,cls,a0,B,H',rfl,os,bare,un,hok,fly,bk,ba,hE⟩:=h;rw[D.xe];have fly':=fly;rw[D.stk]at fly';have hfr:=I.ok.frames;rw[D.stk]at hfr;refine wpAny_leaves_onW (L:=X.env.locals) hfr D.fr fly' λ h' fl up=>?_
 have a4:∀b o,b∈frs X.outer->s.heap.get? b=some o->H b=none->(∀vs,o.data≠.fields vs)->∃sl,h'.get? b=some {o with slots:=sl}:=λ b o hb e n nf=>by
  have hb':b∈frs X.stack:=by
   rw[D.stk];unfold frs;rw[zBq,D.fr];exact zAK _ hb
  obtain⟨s1,e1⟩:=un.slot b o e n hb' (λ z=>nomatch z);obtain⟨s2,e2⟩:=up b _ e1 nf;exact⟨s2,e2⟩
 obtain⟨u1,u2,u3⟩:=aD3 (B:=B) (h':=h') (H':=H') D.ex I bk ba fl.1 a4 (λ b o e n=>un.free b o e n (λ z=>nomatch z)) un.tups un.frzs un.tbls;exact⟨ea,cls,a0,B,H',rfl,os.trans I.os,bare,u1,hok,fl,u2,u3,hE⟩
def dM.raise(D:dM X E){ea:Addr}(I:Inv X hV Z H s)
  (hx:Heap.MadeExcOf s.heap h1 ea cls vs)(hE:E cls none H):X.xe (.ref ea) {s with heap:=h1}:=by
 rw[D.xe];have stk:s.heap.FunFrames X.base X.stack:=I.stack;have hin:∀env∈X.stack,∀a,env.frame=some a->a∈frs X.stack:=λ env he a ha=>zCB.mpr ⟨env,he,ha⟩
 have stk2:=PySem.W.funFrames_hide stk hin;have hfr:=I.ok.frames;rw[D.stk]at hfr;have stk3:s.heap.FunFrames (zCv s.heap (frs X.stack)) (X.env::X.outer):=by rw[<-D.stk];exact stk2
 refine wpAny_leaves_madeW (L:=X.env.locals) (base:=zCv s.heap (frs X.stack)) hfr D.fr (λ b o q=>zFY _ q) stk3 hx λ h' t fl tup bn up=>?_
 have hok:HOk X.prog X.w H (zCv s.heap (frs X.stack)):=λ a o e=>by
  refine(I.hok a o e).stay (λ b u hb q=>zCw _ q λ hm=>?_) (λ _ z=>z) λ _ _ z=>z
  have hn:=I.stkFree b hm;rcases hb with z|z
  .rw[z,e]at hn;cases hn
  .rw[z]at hn;cases hn
 obtain⟨u1,u2,u3⟩:=aD3 (B:=zCv s.heap (frs X.stack)) (h':=h') (H':=H) D.ex I (λ b o e n nf=>zCw _ e nf) (λ b o e nf=>⟨o,zCw _ e nf⟩) fl.1
  (λ b o hb e n nf=>up b o (hx.keeps b o e) nf) (λ b o e n=>n) (λ _ _ e=>e) (λ _ _ _ e=>e) (λ _ _ e=>e)
 exact⟨ea,cls,.ref t,_,H,rfl,I.os,I.bare,u1,hok,fl,u2,u3,hE⟩
def dM.own(D:dM X E):zGE (model X.prog X.w) X.A X.env X.xe:=λ e s' h=>by
 rw[D.xe]at h ⊢;exact wpAny_leaving_again (SameStack.refl _) h
end
section
variable{P:zAO}{w:World}{K:zAA}{mg:Str->Option Value}{base:Heap}
def Fun.okX{st:Stmt}(F:Fun K x q st f fd)(S:aY N ps (aM st))(len:∀vs H Q E,sp vs H Q E->vs.length=ps.length)
  (hbody:∀(cdv:Value) (A:zA3) (outer:List Env) (s:zAC) (H:Hp) (vs:List V) (Q:VK) (E:XK),fD k (A.deeper (zDm q (aM st) s.heap.objs.size f cdv))->sp vs H Q E->
   ∃t,PSs (yP (CX1 P w) P w K mg base N q (aM st) f cdv A outer s H E) (dh st) t/\t {nx:=λ _ H'=>Q .non H',rt:=Q} (start N vs) H):bj P w K mg base (CX1 P w) (k+1) f fd ps sp:=by
 obtain⟨oc,od,kV,doc,pm,an,cdv,ct,osl,rfl,lk,hcd⟩:=F.ex;exact aGM lk hcd S len λ A outer s H vs Q E hr hsp=>hbody cdv A outer s H vs Q E hr hsp
end
def m8(K:zAA)(C:Addr):Prop:=zGG K C [.type "ValueError",.type "Exception",.type "BaseException",.type "object"] "ValueError.__new__"=true
def vg{K:zAA}(X:K.In h)(hm:mg x=some (.ref C))(q:m8 K C):OwnCls x C [.type "ValueError",.type "Exception",.type "BaseException",.type "object"] "ValueError.__new__" mg h:=by
 refine⟨hm,?_⟩;unfold m8 zGG at q;split at q
 .rename_i dd cd sl ho
  split at q
  .rename_i C' bm k0 k1 k2 k3 n k5 hm' hs
   simp only[zAU,beq_iff_eq,zEL]at q;obtain⟨⟨⟨⟨⟨rfl,rfl⟩,hdel⟩,ht⟩,hok⟩,hni⟩:=q;obtain⟨nm,bs,mro,ns,qn,hd,sn,sub,ab,col,del⟩:=cd;dsimp only at hm' hdel hok hni;subst hm' hdel;have hsl:sl=#[k0,k1,k2,k3,some (.builtin "ValueError.__new__"),k5]:=by
    obtain⟨l⟩:=sl;simp only at hs;rw[hs]
   subst hsl;exact⟨bm,ns,nm,qn,bs,hd,sn,sub,ab,col,dd,k0,k1,k2,k3,k5,_,X _ _ ho,.of_isNs (PySem.W.isNs_of_in X hok),PySem.W.nsMap_none_of_in X hok hni,PySem.W.tail_of_in X ht⟩
  .cases q
 .cases q
def aG4(C:Addr)(E:XK)(ta:TA):TS:=λ _ Z H=>ta Z H λ vs H1=>vs.length<=zAN/\E (.ref C) none H1
section
variable{X:Cx}{E:XK}
def aCb(D:dM X E)(hc:X.calm=true){rest:List Expr}(hm:X.mg x=some (.ref C))(hC:m8 X.K C)(hg:Gl X x)
  (ha:PA X (y8::rest) ta)(he:zAS (y8::rest) X.env=(false,eval y8 X.env)::zAS rest X.env:=by rfl)
  (hplain:(zBg cpos (zAS rest X.env)).any (·.1)=false:=by rfl)(hd:Nd x:=by decide):
  PS X (.Raise (some (.Call (.Name x np) (y8::rest) [] cpos)) none pos) (aG4 C E ta):=by
 intro hV s Z H DD I h;obtain⟨tl,NN,nm,q,bs,hdct,sn,sub,ab,col,dd,k0,k1,k2,k3,k5,mN,hCo,hN,hni,T⟩:=(vg (h:=X.base) I.mod.kin hm hC).obj;have FB:=PySem.F.excBase_ValueError;refine wpAny_Raise_call_subU (C:=C) (nm:=nm) (q:=q) (N:=NN) (bs:=bs) (bm:=tl) (hdct:=hdct) (sn:=sn) (sub:=sub) (ab:=ab) (col:=col) (dd:=dd) (k0:=k0) (k1:=k1) (k2:=k2) (k3:=k3) (k5:=k5)
  FB FB.hasB FB (mN:=mN) (T.hasType FB.hasBase) (I.ok.hd hc) (by rw[he];show(false||(zBg cpos (zAS rest X.env)).any (·.1))=false;rw[hplain];rfl) hni
  (vp I hg hm ⟨rfl,?_⟩ hd)
 have harg:=ha cpos hV s Z H _ I h;rw[he]at harg ⊢;refine zFR (zBV harg (λ vs zI y9=>?_) λ _ _ y=>y);obtain⟨xs,H2,I2,rv,hz,hE⟩:=y9;refine⟨rfl,by show vs.length<=zAN;rw[<-rv.length];exact hz,I2.bk _ _ hCo,hN.keeps I2.bk,T.keeps I2.bk,λ h' ea hx=>D.raise I2 hx hE⟩
end
section
variable{κ:Type}[DecidableEq κ]
def nq(kvs:List (κ×V))(k:κ):Option V:=(kvs.find? λ kv=>decide (kv.1=k)).map (·.2)
def putK(kvs:List (κ×V))(k:κ)(v:V):List (κ×V):=
 if (kvs.any λ kv=>decide (kv.1=k))=true then kvs.map (λ kv=>if kv.1=k then(kv.1,v)else kv)else kvs++[(k,v)]
def mq{p:κ×V}{r:List (κ×V)}{k:κ}(e:p.1=k):nq (p::r) k=some p.2:=by simp[nq,zCa,e]
def my{p:κ×V}{r:List (κ×V)}{k:κ}(e:¬p.1=k):nq (p::r) k=nq r k:=by simp[nq,zCa,e]
theorem wV(k:κ):∀kvs:List (κ×V),(kvs.any λ kv=>decide (kv.1=k))=(nq kvs k).isSome
 |[]=>rfl
 |p::r=>by
  rw[zC9];by_cases e:p.1=k
  .simp only[mq e,decide_eq_true e,Bool.true_or,zF2]
  .rw[my e,decide_eq_false e,Bool.false_or];exact wV k r
def pZ(kvs:List (κ×V))(k:κ)(v:V):(putK kvs k v).length<=kvs.length+1:=by
 unfold putK;split
 .rw[zAB];omega
 .rw[zA9,zA2,zAz];omega
def ni.isSome_eq{o:Option V}{u:Option Value}(r:ni o u):o.isSome=u.isSome:=by
 cases o with
 |none=>cases u with
  |none=>rfl
  |some _=>exact(show False from r).elim
 |some _=>cases u with
  |none=>exact(show False from r).elim
  |some _=>rfl
def KV.val{kvs:List (κ×V)}{vs:List (κ×Value)}(r:KV kvs vs)(k:κ):ni (nq kvs k) (zFP vs k):=by
 unfold KV at r;induction r with
 |nil=>exact zCN
 |@cons p q ps qs h t ih=>
  obtain⟨h1,h2⟩:=h;by_cases e:p.1=k
  .have e':q.1=k:=h1.symm.trans e
   have b:zFP (q::qs) k=some q.2:=by simp[zFP,zCa,e']
   rw[mq e,b];exact h2
  .have e':¬q.1=k:=λ z=>e (h1.trans z)
   have b:zFP (q::qs) k=zFP qs k:=by simp[zFP,zCa,e']
   rw[my e,b];exact ih
theorem KV.any{kvs:List (κ×V)}{vs:List (κ×Value)}(r:KV kvs vs)(k:κ):(kvs.any λ kv=>decide (kv.1=k))=vs.any λ kv=>decide (kv.1=k):=by
 unfold KV at r;induction r with
 |nil=>rfl
 |cons h t ih=>rw[zC9,zC9,ih,h.1]
def KV.repl{kvs:List (κ×V)}{vs:List (κ×Value)}(r:KV kvs vs)(k:κ){y:V}{u:Value}(ry:RelV y u):
  KV (kvs.map λ kv=>if kv.1=k then(kv.1,y)else kv) (vs.map λ kv=>if kv.1=k then(kv.1,u)else kv):=by
 unfold KV at r ⊢;induction r with
 |nil=>exact .nil
 |@cons p q ps qs h t ih=>
  rw[zAG,zAG];refine .cons ?_ ih;obtain⟨h1,h2⟩:=h;by_cases e:p.1=k
  .rw[if_pos e,if_pos (h1.symm.trans e)];exact⟨h1,ry⟩
  .rw[if_neg e,if_neg (λ z=>e (h1.trans z))];exact⟨h1,h2⟩
def KV.put{kvs:List (κ×V)}{vs:List (κ×Value)}(r:KV kvs vs)(k:κ){y:V}{u:Value}(ry:RelV y u):KV (putK kvs k y) (stored vs k u):=by
 unfold putK stored;rw[r.any k];by_cases e:(vs.any λ kv=>decide (kv.1=k))=true
 .rw[if_pos e,if_pos e];exact r.repl k ry
 .rw[if_neg e,if_neg e];exact zGZ r ⟨rfl,ry⟩
theorem KV.length{kvs:List (κ×V)}{vs:List (κ×Value)}(r:KV kvs vs):kvs.length=vs.length:=zDu r
end
def aDG{P:zAO}{w:World}{k:Key}{u:Value}(r:RelV (kV k) u):(cG P w).is k u=true:=by
 cases k with
 |inl i=>obtain⟨t,e⟩:=(show∃t,u=zDO i t from r);subst e;exact xm P w i t
 |inr x=>obtain⟨t,e⟩:=(show∃t,u=zFI x t from r);subst e;exact xg P w x t
theorem ue{P:zAO}{w:World}:∀{ks:List Key} {us:List Value},Vals (ks.map kV) us->ItemsAre (cG P w) ks us
 |[],_,r=>by rw[zEQ]at r;cases r;exact .nil
 |k::ks,_,r=>by
  rw[zAG]at r;cases r with
  |cons h t=>exact .cons (aDG h) (ue t)
abbrev KT(H:Hp):List (List Key×V)->List (List Key×Addr×Value)->Prop:=zGD λ p q=>p.1=q.1/\H q.2.1=some (.tup (p.1.map kV))/\RelV p.2 q.2.2
def KT.val{H:Hp}{kvs:List (List Key×V)}{xs:List (List Key×Addr×Value)}(r:KT H kvs xs)(k:List Key):ni (nq kvs k) ((atKey xs k).map (·.2)):=by
 induction r with
 |nil=>exact zCN
 |@cons p q ps qs h t ih=>
  obtain⟨h1,_,h2⟩:=h;by_cases e:p.1=k
  .have e':q.1=k:=h1.symm.trans e
   have b:atKey (q::qs) k=some q.2:=by simp[atKey,zCa,e']
   rw[mq e,b];exact h2
  .have e':¬q.1=k:=λ z=>e (h1.trans z)
   have b:atKey (q::qs) k=atKey qs k:=by simp[atKey,zCa,e']
   rw[my e,b];exact ih
def KT.repl{H:Hp}{kvs:List (List Key×V)}{xs:List (List Key×Addr×Value)}(r:KT H kvs xs)(k:List Key){y:V}{u:Value}(ry:RelV y u):
  KT H (kvs.map λ kv=>if kv.1=k then(kv.1,y)else kv) (xs.map (putAt k u)):=by
 induction r with
 |nil=>exact .nil
 |@cons p q ps qs h t ih=>
  rw[zAG,zAG];refine .cons ?_ ih;obtain⟨h1,h2,h3⟩:=h;unfold putAt;by_cases e:p.1=k
  .rw[if_pos e,if_pos (h1.symm.trans e)];exact⟨h1,h2,ry⟩
  .rw[if_neg e,if_neg (λ z=>e (h1.trans z))];exact⟨h1,h2,h3⟩
def KT.put{H:Hp}{kvs:List (List Key×V)}{xs:List (List Key×Addr×Value)}(r:KT H kvs xs)(k:List Key){b:Addr}{y:V}{u:Value}(hb:H b=some (.tup (k.map kV)))(ry:RelV y u):
  KT H (putK kvs k y) (storedH xs k b u):=by
 have e:(kvs.any λ kv=>decide (kv.1=k))=(atKey xs k).isSome:=by
  rw[wV,(r.val k).isSome_eq,Option.isSome_map]
 unfold putK storedH;rw[e];by_cases q:(atKey xs k).isSome=true
 .rw[if_pos q,if_pos q];exact r.repl k ry
 .rw[if_neg q,if_neg q];exact zGZ r ⟨rfl,hb,ry⟩
def KT.keeps{H H':Hp}{kvs:List (List Key×V)}{xs:List (List Key×Addr×Value)}(r:KT H kvs xs)(ht:∀b ys,H b=some (.tup ys)->H' b=some (.tup ys)):KT H' kvs xs:=
 Paired.mapP r λ _ _ z=>⟨z.1,ht _ _ z.2.1,z.2.2⟩
section
variable{P:zAO}{w:World}{H:Hp}{h:Heap}{a:Addr}
def aFu{u:HO}(ok:HOk P w H h)(e:Rd H a u):cA P w H h a u:=e.ok ok
def aD8{kvs:List (Key×V)}(ok:HOk P w H h)(e:Rd H a (.dK kvs)):kvs.length<=zAN/\(a==zCe)=false/\∃vs,KV kvs vs/\h.DictOf (cG P w) a vs:=
 show cA P w H h a (.dK kvs)from aFu ok e
def aD9{kvs:List (Key×V)}(ok:HOk P w H h)(e:H a=some (.dK kvs)):kvs.length<=zAN/\(a==zCe)=false/\∃vs,KV kvs vs/\h.DictOf (cG P w) a vs:=aD8 ok (.inl e)
def zy{ks:List Key}(ok:HOk P w H h)(e:H a=some (.tup (ks.map kV))):(zFO (cG P w)).is h ks a:=by
 obtain⟨_,its,r,o,h1,h2,n,h3⟩:=(show cA P w H h a (.tup (ks.map kV))from ok a _ e);exact⟨o,its.toArray,n,h1,h2,h3,by simpa using ue r⟩
def aD7{kvs:List (List Key×V)}(ok:HOk P w H h)(e:Rd H a (.dT kvs)):kvs.length<=zAN/\(a==zCe)=false/\
  ∃xs,KT H kvs xs/\h.DictOfH (zFO (cG P w)) a xs:=by
 obtain⟨z,y,xs,r,o,es,ep,h1,h2,h3,h4,h5⟩:=(show cA P w H h a (.dT kvs)from aFu ok e);refine⟨z,y,xs,r,o,es,ep,h1,h2,h3,h4,λ x hx=>?_,h5⟩;have all:∀{l:List (List Key×V)} {m:List (List Key×Addr×Value)},KT H l m->∀x∈m,(zFO (cG P w)).is h x.1 x.2.1:=by
  intro l m q;induction q with
  |nil=>intro x hx;exact nomatch hx
  |@cons p q ps qs hq t ih=>
   intro x hx;rcases zAV.mp hx with e|hx
   .subst e
    exact zy ok (by rw[<-hq.1];exact hq.2.1)
   .exact ih x hx
 exact all r x hx
def aJB{kvs:List (List Key×V)}(ok:HOk P w H h)(e:H a=some (.dT kvs)):kvs.length<=zAN/\(a==zCe)=false/\
  ∃xs,KT H kvs xs/\h.DictOfH (zFO (cG P w)) a xs:=aD7 ok (.inl e)
end
def yh(H:Hp)(a:Addr)(y:V)(r:Option V):Prop:=
 (∃kvs k,Rd H a (.dK kvs)/\y=kV k/\r=nq kvs k)\/∃kvs k b,Rd H a (.dT kvs)/\y= .ref b/\H b=some (.tup (k.map kV))/\r=nq kvs k
def aDt(H:Hp)(a:Addr)(y v:V)(H':Hp):Prop:=
 (∃kvs k,H a=some (.dK kvs)/\y=kV k/\kvs.length<zAN/\H'=upd H a (.dK (putK kvs k v)))\/
 ∃kvs k b,H a=some (.dT kvs)/\y= .ref b/\H b=some (.tup (k.map kV))/\kvs.length<zAN/\H'=upd H a (.dT (putK kvs k v))
theorem yh.k{H:Hp}{a:Addr}{kvs:List (Key×V)}{k:Key}(e:H a=some (.dK kvs)):yh H a (kV k) (nq kvs k):=.inl ⟨kvs,k,.inl e,rfl,rfl⟩
theorem aDt.k{H:Hp}{a:Addr}{kvs:List (Key×V)}{k:Key}{v:V}(e:H a=some (.dK kvs))(hl:kvs.length<zAN):aDt H a (kV k) v (upd H a (.dK (putK kvs k v))):=.inl ⟨kvs,k,e,rfl,hl,rfl⟩
section
variable{X:Cx}{hV:hZ}{Z:St}{H:Hp}{s:zAC}{a:Addr}{y v:V}{u r:Value}{o:Option V}{A:zA3}{E:Value->zAC->Prop}
def aBd{Q:Value->zAC->Prop}(hu:A.units+1<cLine)(I:Inv X hV Z H s)(g:yh H a y (some v))(ry:RelV y u)(h:∀w' s',Inv X hV Z H s'->RelV v w'->Q w' s'):
  wpAny (model X.prog X.w) A (zFj (.ref a) u) Q E s:=by
 rcases g with ⟨kvs,k,e,ey,l⟩|⟨kvs,k,b,e,ey,eb,l⟩
 .subst ey
  obtain⟨z,hd,vs,rel,dd⟩:=aD8 I.hok e;obtain⟨w',hw,rw'⟩:=ni.some_of (v:=v) (o:=zFP vs k) (by rw[l];exact rel.val k);exact wpAny_getItem_of (aDG ry) dd.mapOf hw (h w' _ (I.tok _) rw')
 .subst ey
  cases (show u=zB0 b from ry);obtain⟨z,hd,xs,rel,dd⟩:=aD7 I.hok e;obtain⟨w',hw,rw'⟩:=ni.some_of (v:=v) (o:=(atKey xs k).map (·.2)) (by rw[l];exact rel.val k);obtain⟨p,hp,hp2⟩:=zCc.mp hw;refine wpAny_getItem_heap (zG4 hu) (zy I.hok eb) dd hp ?_;rw[hp2];exact h w' _ (I.tok _) rw'
def aAv{h':Heap}{t':Nat}{ob:HO}(I:Inv X hV Z H s)(mu:Mut (H a))(hs:zFT a s.heap h')(he:∃q,h'.get? a=some q)(new:cA X.prog X.w (upd H a ob) h' a ob):
  Inv X hV Z (upd H a ob) {s with heap:=h',toks:=t'}:=
 I.write (x:=a) (e:=a) mu (.inl rfl) (λ b q hb z=>(hs.2 b hb).trans z) he new
def aIE{P:zAO}{w:World}{H':Hp}{h':Heap}{kvs:List (Key×V)}{vs:List (Key×Value)}(z:kvs.length<=zAN)(hd:(a==zCe)=false)(rel:KV kvs vs)(dd:h'.DictOf (cG P w) a vs):
  cA P w H' h' a (.dK kvs):=⟨z,hd,vs,rel,dd⟩
def aBc{H':Hp}{Q:Unit->zAC->Prop}(hu:A.units+1<cLine)(I:Inv X hV Z H s)(g:aDt H a y v H')(ry:RelV y u)(rv:RelV v r)(h:∀s',Inv X hV Z H' s'->Q () s'):
  wpAny (model X.prog X.w) A (zFm (.ref a) u r) Q E s:=by
 rcases g with ⟨kvs,k,e,ey,l,eH⟩|⟨kvs,k,b,e,ey,eb,l,eH⟩
 .subst ey eH
  obtain⟨z,hd,vs,rel,dd⟩:=aD9 I.hok e;have hz:vs.length<=zAN:=by rw[<-rel.length];exact z
  have hl:(putK kvs k v).length<=zAN:=by have:=pZ kvs k v;omega
  refine wpAny_setItem_pairs (hsz:=hz) (aDG ry) dd λ h' dd' hs=>h _ ?_
  have he:∃q,h'.get? a=some q:=let⟨q,_,_,hq,_⟩:=dd';⟨q,hq⟩
  exact aAv I (by rw[e];exact zCN) hs he (aIE hl hd (rel.put k rv) dd')
 .subst ey eH
  cases (show u=zB0 b from ry);obtain⟨z,hd,xs,rel,dd⟩:=aJB I.hok e;have hz:xs.length<=zAN:=by rw[<-zDu rel];exact z
  have hl:(putK kvs k v).length<=zAN:=by have:=pZ kvs k v;omega
  refine wpAny_setItem_heap (hsz:=hz) (zG4 hu) (zy I.hok eb) dd λ h' dd' hs=>h _ ?_
  obtain⟨q,es,ep,hq,h2,h3,h4,_,h5⟩:=dd';refine aAv I (by rw[e];exact zCN) hs ⟨q,hq⟩ ⟨hl,hd,_,(rel.put k eb rv).keeps λ c ys ec=>?_,q,es,ep,hq,h2,h3,h4,h5⟩;rw[aW (aIs ec e (λ z=>nomatch z))];exact ec
end
def aJJ(i:Expr):Prop:=∀ov iv,zFN i false ov iv=operate [ov,iv] (zFj ov iv)
def aED{prog:zAO}{w:World}{A:zA3}{E:Value->zAC->Prop}{s:zAC}{env:Env}{value slice:Expr}{pos:Pos}{T id:String}{Q:Value->zAC->Prop}
  (hl:zEg (.type T) "__getitem__"=pure (some (.builtin id)))(hs:aJJ slice)
  (h:wpAny (model prog w) A (eval value env) (λ o z4=>wpAny (model prog w) A (eval slice env) (λ i zI=>zI.TypeIs o T/\wpAny (model prog w) A (zFj o i) Q E zI) E z4) E s):
  wpAny (model prog w) A (eval (.Subscript value slice pos) env) Q E s:=by
 refine zGa (zBV h (λ o z4 zD=>zBV zD (λ i zI y9=>?_) λ _ _ x=>x) λ _ _ x=>x);obtain⟨hT,y9⟩:=y9;unfold zFo;refine zAE ?_;rw[getitemInPython_of_ne hT.not_modules];refine zAE (wpAny_specialOf hT hl ?_);have fin:wpAny (model prog w) A (zFN slice false o i) (λ r zC=>wpAny (model prog w) A (letTemporaryGo value o r>>=λ _=>pure r) Q E zC) E zI:=by
  rw[hs o i];exact wpAny_operating (zBV y9 (λ r zC h₃=>zAE (wpAny_letTemporaryGo (zA1 h₃))) λ _ _ x=>x)
 first
  |exact zA1 (zAE fin)
  |exact zAE (zA1 (zAE fin))
  |exact zAE fin
def yO{X:Cx}{hV:hZ}{Z:St}{H:Hp}{s:zAC}{a:Addr}{y:V}{o:Option V}(I:Inv X hV Z H s)(g:yh H a y o):s.TypeIs (.ref a) "dict":=by
 rcases g with ⟨kvs,k,e,_,_⟩|⟨kvs,k,b,e,_,_,_⟩
 .obtain⟨_,_,vs,_,dd⟩:=aD8 I.hok e
  exact dd.typeIs
 .obtain⟨_,_,xs,_,dd⟩:=aD7 I.hok e
  exact dd.typeIs
def aI1(td ty:TE):TE:=λ Z H Q=>td Z H λ x H1=>ty Z H1 λ y H2=>∃a v,x= .ref a/\yh H2 a y (some v)/\Q v H2
def aFt(td ty tv:TE):TS:=λ D Z H=>tv Z H λ v H1=>td Z H1 λ x H2=>ty Z H2 λ y H3=>∃a H4,x= .ref a/\aDt H3 a y v H4/\D.nx Z H4
section
variable{X:Cx}{o i value:Expr}{pos pos':Pos}{td ty tv:TE}
def aEj(hu:X.A.units+1<cLine)(ho:PE X o td)(hi:PE X i ty)(hs:aJJ i):PE X (.Subscript o i pos) (aI1 td ty):=by
 intro hV s Z H Q I h;refine aED PySem.F.slot_dict_getitem.lookup hs (thn (ho hV s Z H _ I h) λ u s1 ⟨x,H1,I1,rx,q1⟩=>thn (hi hV s1 Z H1 _ I1 q1) λ iv s2 ⟨y,H2,I2,ry,a,v,ex,g,q2⟩=>?_);subst ex;obtain rfl:u=zB0 a:=rx;exact⟨yO I2 g,aBd hu I2 g ry λ w' s3 I3 rw'=>⟨v,H2,I3,rw',q2⟩⟩
def aE9(hu:X.A.units+1<cLine)(ho:PE X o td)(hi:PE X i ty)(hv:PE X value tv)(hs:zBy value (some (.Subscript o i pos')) pos.line X.env=pure false):
  PS X (.Assign [.Subscript o i pos'] value pos) (aFt td ty tv):=by
 intro hV s Z H D I h;refine wpAny_Assign_Subscript (thn (hv hV s Z H _ I h) λ r s1 ⟨v,H1,I1,rv,q1⟩=>thn (ho hV s1 Z H1 _ I1 q1) λ u s2 ⟨x,H2,I2,rx,q2⟩=>thn (hi hV s2 Z H2 _ I2 q2) λ iv s3 ⟨y,H3,I3,ry,a,H4,ex,g,q3⟩=>?_) hs;subst ex;obtain rfl:u=zB0 a:=rx;exact aBc hu I3 g ry rv λ s4 I4=>⟨Z,H4,I4,q3⟩
end
end L2
namespace Att
open PySem PySem.W PySem.Calls PyProof.Rows
end Att
namespace L2
open PySem PySem.Spec PyProof.Rows
section
variable{κ:Type}[DecidableEq κ]
end
section
variable{κ:Type}[DecidableEq κ]
end
end L2
namespace Att
open PySem PySem.W PySem.Calls PyProof.Rows
end Att
namespace L2
open PySem PySem.Spec PyProof.Rows
section
variable{κ:Type}[DecidableEq κ]
end
def uI{pos:Pos}{a b:Int}{c cv:Value}(l:List Value)(h:TriplesOk l)(e:zEZ pos (l++[rawInt a,rawInt b,c])=some cv):zEZ pos l=some cv\/cv=c:=by
 fun_induction TriplesOk l with
 |case1=>
  simp only[zCE,zEZ,rawInt]at e;split at e
  .exact .inr (zAb e).symm
  .cases e
 |case2 a' t b' u x rest ih=>
  simp only[zCo,zEZ]at e ⊢;split at e
  .rename_i hc;rw[if_pos hc];exact .inl e
  .rename_i hc;rw[if_neg hc];exact ih h e
 |case3 l h1 h2=>exact h.elim
section
variable{X:Cx}{H:Hp}
structure aJK(X:Cx)(P:Addr):Prop where
 ta:∃o,X.ta=[(P,o)]
 ex:P∈X.ex
 tq:X.tq=X.env.qual++"<lambda>"
 code:∃c,X.env.code= .ref c/\zEY X.base c P
 blt:X.base.BuiltinsAt X.mg P
 gne:zA4≠P
def aDo(q:Str)(params:zCR)(body:Expr)(scope:Scope)(cl:List (Str×Addr))(pm:Value)(H:Hp)(f c':Addr)(ctv:Value):Prop:=
 H f=some (.frz (zCC "<lambda>" q params body scope cl pm c' ctv) (.own f))/\∃oc,H c'=some (.frz oc (.own c'))/\aGT q oc
end
def cxL(P:zAO)(w:World)(K:zAA)(mg:Str->Option Value)(base:Heap)(N:List Str)(q:Str)(scope:Scope)(cl:List (Str×Addr))(f:Addr)(cd:Value)(A:zA3)(outer:List Env)(s:zAC)(H:Hp)(E:XK):Cx where
 prog:=P
 w:=w
 K:=K
 mg:=mg
 base:=base
 A:=A.deeper (zCY q scope s.heap.objs.size f cd cl)
 N:=N
 z5:=s
 zS:=H
 env:=zCY q scope s.heap.objs.size f cd cl
 outer:=outer
 stack:=zCY q scope s.heap.objs.size f cd cl::outer
 ex:=[]
 calm:=true
 fn:=λ _=>false
 pn:=[]
 xe:=λ e s'=>wpAny (model P w) (A.deeper (zCY q scope s.heap.objs.size f cd cl)) (leaving (zCY q scope s.heap.objs.size f cd cl) e) (λ _ s''=>CX1 P w outer H s E e s'') (λ e' s''=>CX1 P w outer H s E e' s'') s'
def dM.ofL{P:zAO}{w:World}{K:zAA}{mg:Str->Option Value}{base:Heap}{N:List Str}{q:Str}{scope:Scope}{cl:List (Str×Addr)}{f:Addr}{cd:Value}{A:zA3}{outer:List Env}{s:zAC}{H:Hp}{E:XK}:
  dM (cxL P w K mg base N q scope cl f cd A outer s H E) E:=⟨rfl,rfl,rfl,rfl⟩
abbrev bmV:List Value:=[.type "ValueError",.type "Exception",.type "BaseException",.type "object"]
section
variable{prog:zAO}{w:World}{A:zA3}{E:Value->zAC->Prop}{h:Heap}{g:Array zC8}{d:Drawn}{t:Nat}{os:OsState}{a:Addr}{o:Obj}
 {nm q:Str}{C N:Addr}{bs bm:List Value}{hdct:Bool}{sn:List Str}{sub:List Value}{ab:Bool}{col:Option Bool}{dd:Option Addr}{k0 k1 k2 k3 k5:Option Value}{newId:String}{K:zAA}
def yQ{R:zDy->zAC->Prop}(hC:h.get? C=some (zFJ nm q C N bs bm hdct sn sub ab col dd k0 k1 k2 k3 k5 newId))(T:OwnTail h bmV bm)
  (hx:h.get? a=some o)(hc:o.cls= .ref C)(hq:R (.ok (.ret (.ref C))) ⟨h,g,d,t,os⟩):
  zCI (model prog w) A (.call (.builtin "getset_descriptor.__get__") ⟨[.builtin "object.__class__",.ref a,.ref C],[]⟩) R ⟨h,g,d,t,os⟩:=by
 have hT5:(⟨h,g,d,t,os⟩:zAC).TypeIs (.builtin "object.__class__") "getset_descriptor":=zDq;have hcB:(zB0 C::bm).contains (.type (".".intercalate ("object.__class__".cutAt '.').dropLast))=true:=by
  rw[F.owner_object_class,zFe,T.hasType (X:="object") (b:=true) (by decide+kernel)];rfl
 refine zEJ zF0.plain F.entry_gs_get (zF0.check _ _ _ _ _ _ _ _ hT5 (F.args_gs_get _ _ _) ?_)
 repeat (any_goals (first|assumption|(with_reducible refine zCx hx ?_;rw[hc])|(with_reducible refine zGT hC ?_;rw[hcB])|wp_step))
 refine⟨Code.quiet_builtin _ (by decide+kernel),zBR F.entry_object_class ?_⟩
 repeat (any_goals (first|assumption|(with_reducible refine zCx hx ?_;rw[hc])|wp_step))
def wI{M:Model}{nameV:Value}{Q:Unit->zAC->Prop}(hC:h.get? C=some (zFJ nm q C N bs bm hdct sn sub ab col dd k0 k1 k2 k3 k5 newId))(T:OwnTail h bmV bm)
  (hx:h.get? a=some o)(hc:o.cls= .ref C)(hq:Q () ⟨h,g,d,t,os⟩):wpAny M A (zEt "BaseException.__getattribute__" ⟨[.ref a,nameV],[]⟩) Q E ⟨h,g,d,t,os⟩:=by
 have hk:builtinKind "BaseException.__getattribute__"=some .slot:=by decide+kernel
 have dE:splitId "BaseException.__getattribute__"=some ("BaseException","__getattribute__"):=by decide+kernel
 have hcB:(zB0 C::bm).contains (.type "BaseException")=true:=by rw[zFe,T.hasType (X:="BaseException") (b:=true) (by decide+kernel)];rfl
 have ha:=F.args_bexc_ga (.ref a) nameV;simp only[zEt,hk,dE];refine zAE ?_
 .unfold isInstance
  repeat (first|(with_reducible refine zCx hx ?_;rw[hc])|(with_reducible refine zGT hC ?_;rw[hcB])|wp_step)
  exact hq
def uJ{tk:Tok}{Q:Fin->zAC->Prop}(hC:h.get? C=some (zFJ nm q C N bs bm hdct sn sub ab col dd k0 k1 k2 k3 k5 newId))(T:OwnTail h bmV bm)(lk:∀M:Model,zDr M h (zEg (.ref C) "__class__") (some (.builtin "object.__class__")))
  (hx:h.get? a=some o)(hc:o.cls= .ref C)(hq:Q (.done (.ret (.ref C))) ⟨h,g,d,t,os⟩):
  wpAny (model prog w) A (zEb.«object.__getattribute__» ⟨[.ref a,.str "__class__" tk],[]⟩) Q E ⟨h,g,d,t,os⟩:=by
 have hT5:(⟨h,g,d,t,os⟩:zAC).TypeIs (.builtin "object.__class__") "getset_descriptor":=zDq;have f5:=zDq;have f6:=zF0.lookup;have f7:=F.slot_gs_set.lookup
 repeat (any_goals (first|assumption|(with_reducible refine zCx hx ?_;rw[hc])|with_reducible refine(lk _).here ?_|wp_step))
 refine yQ hC T hx hc ?_
 repeat (any_goals (first|assumption|wp_step))
def wH{Q:Option Value->zAC->Prop}(hC:h.get? C=some (zFJ nm q C N bs bm hdct sn sub ab col dd k0 k1 k2 k3 k5 newId))(T:OwnTail h bmV bm)(lk:∀M:Model,zDr M h (zEg (.ref C) "__class__") (some (.builtin "object.__class__")))
  (lg:∀M:Model,zDr M h (zEg (.ref C) "__getattribute__") (some (.builtin "BaseException.__getattribute__")))(ln:∀M:Model,zDr M h (zEg (.ref C) "__getattr__") none)
  (hx:h.get? a=some o)(hc:o.cls= .ref C)(hq:Q (some (.ref C)) ⟨h,g,d,t+1,os⟩):wpAny (model prog w) A (getAttr? (.ref a) "__class__") Q E ⟨h,g,d,t,os⟩:=by
 have by_exc:∀{E:Value->zAC->Prop} {t:Nat} {tk:Tok} {Q:Value->zAC->Prop},Q (.ref C) ⟨h,g,d,t,os⟩->wpAny (model prog w) A (getAttrBy (.ref a) (.str "__class__" tk) false) Q E ⟨h,g,d,t,os⟩:=by
  intro E t tk Q hq;have FB:=PySem.F.excAttr_ValueError;have f3:=FB.ga.bind (.ref a);have hx0:(false&&onTheHeap (zDX "BaseException.__getattribute__"))=false:=rfl;have hx2:(zDX "BaseException.__getattribute__"==zDX "object.__getattribute__")=false:=by decide+kernel
  have hx1:(onTheHeap (zB0 C)&&zDX "BaseException.__getattribute__"==zDX "object.__getattribute__")=false:=by rw[hx2];rfl
  repeat (any_goals (first|assumption|(with_reducible refine zCx hx ?_;rw[hc])|with_reducible refine(lg _).here ?_|with_reducible refine(ln _).here ?_|wp_step))
  refine zEJ FB.ga.plain F.entry_bexc_ga (wI hC T hx hc (uJ hC T lk hx hc ?_))
  repeat (any_goals (first|assumption|wp_step))
 unfold getAttr? getAttrBy?
 repeat (any_goals (first|assumption|with_reducible apply by_exc|wp_step))
def aDF(hE:m8 K C)(ha:zBL K (.ref C) "__class__"=some (some (.builtin "object.__class__")))(hgt:zBL K (.ref C) "__getattribute__"=some (some (.builtin "BaseException.__getattribute__")))
  (hga:zBL K (.ref C) "__getattr__"=some none):PySem.W.KitX K (.ref a) (.ref C) (λ h=>∃o,h.get? a=some o/\o.cls= .ref C) where
 ty:=λ M h _ ⟨o,h1,h2⟩=>h2▸(zG8 h1).andThen .now
 it:=λ M h X _=>by
  obtain⟨bm,NN,nm,q,bs,hdct,sn,sub,ab,col,dd,k0,k1,k2,k3,k5,mN,hC,_⟩:=(vg (h:=h) (mg:=λ _=>some (.ref C)) (x:="x") X rfl hE).obj;intro A' Q' E' s' k q;unfold isType loadHead;exact zAE (wpAny_loadPart (k _ _ hC) (zA1 q))
 ne:=λ h tp dd its n sl X htp=>by
  obtain⟨bm,NN,nm,q,bs,hdct,sn,sub,ab,col,dd,k0,k1,k2,k3,k5,mN,hC,_⟩:=(vg (h:=h) (mg:=λ _=>some (.ref C)) (x:="x") X rfl hE).obj;refine zEK.mpr λ z=>?_
  have e:C=tp:=Value.ref.inj (beq_iff_eq.mp z);subst e;rw[hC]at htp;exact absurd (congrArg Obj.cls (zAb htp)) (by show zDA "type"≠zDA "tuple";decide+kernel)
 ca:=λ{prog w A E Q s} X ⟨o,h1,h2⟩ k=>by
  obtain⟨h,g,d,t,os⟩:=s;obtain⟨bm,NN,nm,q,bs,hdct,sn,sub,ab,col,dd,k0,k1,k2,k3,k5,mN,hC,hN,hni,T⟩:=(vg (h:=h) (mg:=λ _=>some (.ref C)) (x:="x") X rfl hE).obj;exact wH hC T (λ M=>zCn X ha) (λ M=>zCn X hgt) (λ M=>zCn X hga) h1 h2 k
end
def excφ(a C:Addr):Heap->Prop:=λ h=>∃o,h.get? a=some o/\o.cls= .ref C
structure aJ9(K:zAA)(C:Addr):Prop where
 ex:m8 K C
 ca:zBL K (.ref C) "__class__"=some (some (.builtin "object.__class__"))
 gt:zBL K (.ref C) "__getattribute__"=some (some (.builtin "BaseException.__getattribute__"))
 ga:zBL K (.ref C) "__getattr__"=some none
section
variable{X:Cx}
def aFz(K:zAA):List V->Hp->VK->Prop:=λ xs H Q=>∃a C y c b,xs=[.ref a,y]/\RelV y c/\H a=some (.ext (excφ a C))/\aJ9 K C/\zDH K (.ref C) c=some b/\Q (.bl b) H
def aBm:dN X (.builtin "isinstance") (aFz X.K):=by
 intro hV s Z H xs us Q I r h;obtain⟨a,C,y,c,b,rfl,ry,ha,kc,e,q⟩:=h;obtain⟨u,w',rfl,r1,r2⟩:=vals2 r;cases r1;have hc:w'=c:=by
  cases y<;>first
   |(cases r2;cases ry;rfl)
   |(obtain⟨t1,rfl⟩:=r2;obtain⟨t2,rfl⟩:=ry;exact absurd e (by simp[zDH,PySem.W.kitCls]))
 subst hc;obtain⟨p,_⟩:excφ a C s.heap/\_:=I.hok a _ ha;exact zAu (aDF kc.ex kc.ca kc.gt kc.ga) I.kIn p e (λ z=>nomatch z) λ tk=>⟨.bl b,H,I.tok tk,rfl,q⟩
end
structure aJH(k:Nat)(A:zA3):Prop where
 dp:A.depth+3*k+5<zF8
 un:A.units+16*k+200<cLine
structure FnH(P:zAO)(w:World)(K:zAA)(mg:Str->Option Value)(base:Heap)(k:Nat)(f:Addr)(fd:zAa)(ps:List Str)(sp:Sp):Prop where
 len:∀vs H Q E,sp vs H Q E->vs.length=ps.length
 run:∀(A:zA3) (outer:List Env) (s:zAC) (H:Hp) (args:Args) (us:List Value) (vs:List V) (Q:VK) (E:XK),aJH k A->yg P w K mg base A outer s H->zEa s fd args (ps.zip us)->Vals vs us->sp vs H Q E->
  zCI (model P w) A (.call (.ref f) args) (CR CX0 outer P w H s Q E) s
def aJX(K:zAA)(c:V):TE:=tCB (aFz K) (eU (nC 0) (eU (tC c) lr))
section
variable{X:Cx}{n0 n1 n2 odd:Str}{c1 c2:V}{k1 k2 k3 k4:List V}{l1 l2:List Str}{a1 a2:Expr}{as1 as2 e1 e2 e3 e4 w1 w2:List Expr}{kw1 kw2:List zBw}{Q:VK}{H:Hp}{vs:List V}
 {p1 p2 p3 p4 p5 p6 p7 p8 p9 p10 p11 p12 p13 p14 p15 p16 p17 p18 p19 p20 p21 p22 p23 p24 p25 p26 p27 p28 p29 p30 p31 p32 p33 p34 p35 p36 p37 p38 p39 p40:Pos}{q1 q2 q3 q4 q5 q6 q7:Pos}{j1 j2 j3 j4 j5:Nat}{E0:XK}{wd:Addr->Option Str}
end
end L2
namespace VL
open PySem PySem.Spec PyProof.Rows L2
inductive D where
 |non|bl (b:Bool)|int (i:Int)|str (x:Str)|tup (l:List D)|lst (l:List D)|dct (ks vs:List D)|set (l:List Int)|scr (l:List Int)|fn (x:Str)|itm (o:Option Nat) (l:gX)
instance:Inhabited D:=⟨.non⟩
def kD:Key->D
 | .inl i=>.int i
 | .inr x=>.str x
variable{K:zAA}
def kE(K:zAA)(H:Hp)(a:Addr)(ns:List Int):Prop:=(∃o,H a=some (.frz o (.lst (ns.map V.int))))\/
 ∃(o:Obj) (its:Array Value) (n:Nat),K.lookup a=some o/\o.cls= .type "list"/\o.dict=none/\o.data= .seq its n/\its.size<=zAN/\Vals (ns.map V.int) its.toList
def kE.sq(h:kE K H a ns):SqL K H a (ns.map V.int):=by
 rcases h with h|h
 .exact .inl (.inr h)
 .exact .inr h
def tR(H:Hp)(a:Addr)(oo:Option Nat)(l:gX):Prop:=∃o es ep,o.data= .dict es ep/\(oo=none\/oo=some ep)/\H a=some (.frz o (.dK (l.map λ p=>(.inl p.1,V.int p.2))))
def hsh(ns:List Int):Int:=reduceHash (zG6 (ns.map hashInt))
def dxO(a:Addr)(es:List (List Int×Addr×V)):HO:=.ext λ h=>es.length<=zAN/\(a==zCe)=false/\∃(xs:List (List Int×Addr×Value)) (o:Obj) (ts:Array DictEntry) (ep:Nat),zGD (λ e x=>e.1=x.1/\e.2.1=x.2.1/\RelV e.2.2 x.2.2) es xs/\
 h.get? a=some o/\o.ExactDict/\o.data= .dict ts ep/\ts.toList=xs.map λ x=>⟨hsh x.1,.ref x.2.1,x.2.2⟩
structure DxK(K:zAA)(H:Hp)(a:Addr)(es:List (List Int×Addr×V)):Prop where
 at_:H a=some (dxO a es)
 ks:∀e∈es,SqT K H e.2.1 (e.1.map V.int)
 nd:(es.map (·.1)).Nodup
mutual
inductive Rp(K:zAA):(Addr->Prop)->Hp->V->D->Prop where
 |non {A:Addr->Prop} {H:Hp}:Rp K A H .non .non
 |bl {A:Addr->Prop} {H:Hp} (b:Bool):Rp K A H (.bl b) (.bl b)
 |int {A:Addr->Prop} {H:Hp} (i:Int):Rp K A H (.int i) (.int i)
 |str {A:Addr->Prop} {H:Hp} (x:Str):Rp K A H (.str x) (.str x)
 |tup {A:Addr->Prop} {H:Hp} {a:Addr} {xs:List V} {ds:List D} (h:SqT K H a xs) (r:Rps K A H xs ds):Rp K A H (.ref a) (.tup ds)
 |lst {A:Addr->Prop} {H:Hp} {a:Addr} {xs:List V} {ds:List D} (h:H a=some (.lst xs)) (m:A a) (r:Rps K (λ p=>A p/\p≠a) H xs ds):Rp K A H (.ref a) (.lst ds)
 |dK {A:Addr->Prop} {H:Hp} {a:Addr} {kvs:List (Key×V)} {ds:List D} (h:H a=some (.dK kvs)) (m:A a) (r:Rps K (λ p=>A p/\p≠a) H (kvs.map (·.2)) ds):Rp K A H (.ref a) (.dct (kvs.map λ p=>kD p.1) ds)
 |dT {A:Addr->Prop} {H:Hp} {a:Addr} {es:List (List Int×Addr×V)} {ds:List D} (h:DxK K H a es) (m:A a) (r:Rps K (λ p=>A p/\p≠a) H (es.map (·.2.2)) ds):Rp K A H (.ref a) (.dct (.non::es.map λ e=>.tup (e.1.map .int)) ds)
 |set {A:Addr->Prop} {H:Hp} {a:Addr} {S:Int->Bool} {l:List Int} (h:H a=some (.set S l.length)) (m:A a) (hS:∀i,S i=decide (i∈l)) (nd:l.Nodup):Rp K A H (.ref a) (.set l)
 |scr {A:Addr->Prop} {H:Hp} {a:Addr} {ns:List Int} (h:kE K H a ns):Rp K A H (.ref a) (.scr ns)
 |fn {A:Addr->Prop} {H:Hp} {a:Addr} {x:Str} (h:zAs K zA4 x=some (some (.ref a))):Rp K A H (.ref a) (.fn x)
 |itm {A:Addr->Prop} {H:Hp} {a:Addr} {oo:Option Nat} {l:gX} (h:tR H a oo l):Rp K A H (.ref a) (.itm oo l)
inductive Rps(K:zAA):(Addr->Prop)->Hp->List V->List D->Prop where
 |nil {A:Addr->Prop} {H:Hp}:Rps K A H [] []
 |cons {A:Addr->Prop} {H:Hp} {x:V} {d:D} {xs:List V} {ds:List D} (h:Rp K A H x d) (r:Rps K A H xs ds):Rps K A H (x::xs) (d::ds)
end
def kE.mono(s:aQ H H')(h:kE K H a ns):kE K H' a ns:=by
 rcases h with ⟨o,h⟩|h
 .exact .inl ⟨o,s _ _ h⟩
 .exact .inr h
def tR.mono(h:tR H a oo l)(s:aQ H H'):tR H' a oo l:=let⟨o,es,ep,y,z,e⟩:=h;⟨o,es,ep,y,z,s _ _ e⟩
def DxK.mono(h:DxK K H a es)(s:aQ H H'):DxK K H' a es:=⟨s _ _ h.at_,λ e he=>s.sqt (h.ks e he),h.nd⟩
def Rp.mono'(s:aQ H H')(r:Rp K A H x d)(hA:∀p o,H p=some o->A p->A' p):Rp K A' H' x d:=
 Rp.rec (motive_1:=λ A H x d _=>∀H',aQ H H'->∀A':Addr->Prop,(∀p o,H p=some o->A p->A' p)->Rp K A' H' x d) (motive_2:=λ A H xs ds _=>∀H',aQ H H'->∀A':Addr->Prop,(∀p o,H p=some o->A p->A' p)->Rps K A' H' xs ds)
  (λ _ _ _ _=>.non) (λ b _ _ _ _=>.bl b) (λ i _ _ _ _=>.int i) (λ x _ _ _ _=>.str x) (λ h _ ih _ s _ hA=>.tup (s.sqt h) (ih _ s _ hA))
  (λ h m _ ih _ s _ hA=>.lst (s _ _ h) (hA _ _ h m) (ih _ s _ λ p o e z=>⟨hA p o e z.1,z.2⟩)) (λ h m _ ih _ s _ hA=>.dK (s _ _ h) (hA _ _ h m) (ih _ s _ λ p o e z=>⟨hA p o e z.1,z.2⟩))
  (λ h m _ ih _ s _ hA=>.dT (h.mono s) (hA _ _ h.at_ m) (ih _ s _ λ p o e z=>⟨hA p o e z.1,z.2⟩)) (λ h m hS nd _ s _ hA=>.set (s _ _ h) (hA _ _ h m) hS nd) (λ h _ s _ _=>.scr (h.mono s)) (λ h _ _ _ _=>.fn h) (λ h _ s _ _=>.itm (h.mono s)) (λ _ _ _ _=>.nil) (λ _ _ ih ir _ s _ hA=>.cons (ih _ s _ hA) (ir _ s _ hA)) r H' s A' hA
def Rps.mono'(s:aQ H H')(r:Rps K A H xs ds)(hA:∀p o,H p=some o->A p->A' p):Rps K A' H' xs ds:=
 Rps.rec (motive_1:=λ A H x d _=>∀H',aQ H H'->∀A':Addr->Prop,(∀p o,H p=some o->A p->A' p)->Rp K A' H' x d) (motive_2:=λ A H xs ds _=>∀H',aQ H H'->∀A':Addr->Prop,(∀p o,H p=some o->A p->A' p)->Rps K A' H' xs ds)
  (λ _ _ _ _=>.non) (λ b _ _ _ _=>.bl b) (λ i _ _ _ _=>.int i) (λ x _ _ _ _=>.str x) (λ h _ ih _ s _ hA=>.tup (s.sqt h) (ih _ s _ hA))
  (λ h m _ ih _ s _ hA=>.lst (s _ _ h) (hA _ _ h m) (ih _ s _ λ p o e z=>⟨hA p o e z.1,z.2⟩)) (λ h m _ ih _ s _ hA=>.dK (s _ _ h) (hA _ _ h m) (ih _ s _ λ p o e z=>⟨hA p o e z.1,z.2⟩))
  (λ h m _ ih _ s _ hA=>.dT (h.mono s) (hA _ _ h.at_ m) (ih _ s _ λ p o e z=>⟨hA p o e z.1,z.2⟩)) (λ h m hS nd _ s _ hA=>.set (s _ _ h) (hA _ _ h m) hS nd) (λ h _ s _ _=>.scr (h.mono s)) (λ h _ _ _ _=>.fn h) (λ h _ s _ _=>.itm (h.mono s)) (λ _ _ _ _=>.nil) (λ _ _ ih ir _ s _ hA=>.cons (ih _ s _ hA) (ir _ s _ hA)) r H' s A' hA
def Rp.mono(s:aQ H H')(hA:∀p o,H p=some o->A p->A' p)(r:Rp K A H x d):Rp K A' H' x d:=r.mono' s hA
def Rps.mono(s:aQ H H')(hA:∀p o,H p=some o->A p->A' p)(r:Rps K A H x d):Rps K A' H' x d:=r.mono' s hA
def Rp.up(s:aQ H H')(r:Rp K A H x d):Rp K A H' x d:=r.mono s λ _ _ _ h=>h
def Rp.wk(hA:∀p o,H p=some o->A p->A' p)(r:Rp K A H x d):Rp K A' H x d:=r.mono (aQ.refl H) hA
def Rps.up(s:aQ H H')(r:Rps K A H x d):Rps K A H' x d:=r.mono s λ _ _ _ h=>h
def Rps.wk(hA:∀p o,H p=some o->A p->A' p)(r:Rps K A H x d):Rps K A' H x d:=r.mono (aQ.refl H) hA
def iQ:HO->Bool
 | .lst _=>true| .dK _=>true| .dT _=>true| .set _ _=>true| .ext _=>true|_=>false
def vP(s:iu l H H')(hl:H l=some o)(ho:iQ o=true)(h:SqT K H a xs):SqT K H' a xs:=by
 rcases h with (h|⟨u,h⟩)|h
 .refine .inl (.inl (s _ _ (λ e=>?_) h))
  subst e;rw[hl]at h;cases h;cases ho
 .refine .inl (.inr ⟨u,s _ _ (λ e=>?_) h⟩)
  subst e;rw[hl]at h;cases h;cases ho
 .exact .inr h
def aA4(s:iu l H H')(hl:H l=some o)(ho:iQ o=true)(h:kE K H a ns):kE K H' a ns:=by
 rcases h with ⟨u,h⟩|h
 .exact .inl ⟨u,s _ _ (λ e=>by subst e;rw[hl]at h;cases h;cases ho) h⟩
 .exact .inr h
def tR.but(h:tR H a oo q)(s:iu l H H')(hl:H l=some o)(ho:iQ o=true):tR H' a oo q:=let⟨u,es,ep,y,z,e⟩:=h;⟨u,es,ep,y,z,s _ _ (λ z=>by subst z;rw[hl]at e;cases e;cases ho) e⟩
def DxK.but(h:DxK K H a es)(s:iu l H H')(hl:H l=some o)(ho:iQ o=true)(ne:a≠l):DxK K H' a es:=
 ⟨s _ _ ne h.at_,λ e he=>vP s hl ho (h.ks e he),h.nd⟩
def Rp.but'(s:iu l H H')(hl:H l=some o)(ho:iQ o=true)(r:Rp K A H x d)(hA:¬A l):Rp K A H' x d:=
 Rp.rec (motive_1:=λ A H x d _=>∀H',iu l H H'->∀o:HO,H l=some o->iQ o=true->¬A l->Rp K A H' x d) (motive_2:=λ A H xs ds _=>∀H',iu l H H'->∀o:HO,H l=some o->iQ o=true->¬A l->Rps K A H' xs ds)
  (λ _ _ _ _ _ _=>.non) (λ b _ _ _ _ _ _=>.bl b) (λ i _ _ _ _ _ _=>.int i) (λ x _ _ _ _ _ _=>.str x) (λ h _ ih _ s o hl ho hA=>.tup (vP s hl ho h) (ih _ s o hl ho hA))
  (λ h m _ ih _ s o hl ho hA=>.lst (s _ _ (λ e=>hA (e▸m)) h) m (ih _ s o hl ho λ z=>hA z.1)) (λ h m _ ih _ s o hl ho hA=>.dK (s _ _ (λ e=>hA (e▸m)) h) m (ih _ s o hl ho λ z=>hA z.1))
  (λ h m _ ih _ s o hl ho hA=>.dT (h.but s hl ho λ e=>hA (e▸m)) m (ih _ s o hl ho λ z=>hA z.1)) (λ h m hS nd _ s o hl ho hA=>.set (s _ _ (λ e=>hA (e▸m)) h) m hS nd) (λ h _ s o hl ho _=>.scr (aA4 s hl ho h)) (λ h _ _ _ _ _ _=>.fn h) (λ h _ s o hl ho _=>.itm (h.but s hl ho)) (λ _ _ _ _ _ _=>.nil) (λ _ _ ih ir _ s o hl ho hA=>.cons (ih _ s o hl ho hA) (ir _ s o hl ho hA)) r H' s o hl ho hA
def Rps.but'(s:iu l H H')(hl:H l=some o)(ho:iQ o=true)(r:Rps K A H xs ds)(hA:¬A l):Rps K A H' xs ds:=
 Rps.rec (motive_1:=λ A H x d _=>∀H',iu l H H'->∀o:HO,H l=some o->iQ o=true->¬A l->Rp K A H' x d) (motive_2:=λ A H xs ds _=>∀H',iu l H H'->∀o:HO,H l=some o->iQ o=true->¬A l->Rps K A H' xs ds)
  (λ _ _ _ _ _ _=>.non) (λ b _ _ _ _ _ _=>.bl b) (λ i _ _ _ _ _ _=>.int i) (λ x _ _ _ _ _ _=>.str x) (λ h _ ih _ s o hl ho hA=>.tup (vP s hl ho h) (ih _ s o hl ho hA))
  (λ h m _ ih _ s o hl ho hA=>.lst (s _ _ (λ e=>hA (e▸m)) h) m (ih _ s o hl ho λ z=>hA z.1)) (λ h m _ ih _ s o hl ho hA=>.dK (s _ _ (λ e=>hA (e▸m)) h) m (ih _ s o hl ho λ z=>hA z.1))
  (λ h m _ ih _ s o hl ho hA=>.dT (h.but s hl ho λ e=>hA (e▸m)) m (ih _ s o hl ho λ z=>hA z.1)) (λ h m hS nd _ s o hl ho hA=>.set (s _ _ (λ e=>hA (e▸m)) h) m hS nd) (λ h _ s o hl ho _=>.scr (aA4 s hl ho h)) (λ h _ _ _ _ _ _=>.fn h) (λ h _ s o hl ho _=>.itm (h.but s hl ho)) (λ _ _ _ _ _ _=>.nil) (λ _ _ ih ir _ s o hl ho hA=>.cons (ih _ s o hl ho hA) (ir _ s o hl ho hA)) r H' s o hl ho hA
def Rp.but(s:iu l H H')(hl:H l=some o)(ho:iQ o=true)(hA:¬A l)(r:Rp K A H x d):Rp K A H' x d:=r.but' s hl ho hA
def Rps.but(s:iu l H H')(hl:H l=some o)(ho:iQ o=true)(hA:¬A l)(r:Rps K A H x d):Rps K A H' x d:=r.but' s hl ho hA
mutual
def imm:D->Bool
 | .tup l=>fM l
 | .lst _=>false
 | .dct _ _=>false
 | .set _=>false
 |_=>true
def fM:List D->Bool
 |[]=>true
 |d::r=>imm d&&fM r
end
def kh(e:fM (d::r)=true):imm d=true/\fM r=true:=by
 simp only[fM,zAU]at e;exact e
def aAn(e:imm (.tup l)=true):fM l=true:=by simpa[imm]using e
def aAq(e:imm (.lst l)=true):False:=by simp[imm]at e
def ql(e:imm (.dct l k)=true):False:=by simp[imm]at e
def aAo(e:imm (.set l)=true):False:=by simp[imm]at e
def Rp.imm'(r:Rp K A H x d)(e:VL.imm d=true):Rp K A' H x d:=
 Rp.rec (motive_1:=λ _ H x d _=>VL.imm d=true->Rp K A' H x d) (motive_2:=λ _ H xs ds _=>fM ds=true->Rps K A' H xs ds)
  (λ _=>.non) (λ b _=>.bl b) (λ i _=>.int i) (λ x _=>.str x) (λ h _ ih e=>.tup h (ih (aAn e)))
  (λ _ _ _ _ e=>(aAq e).elim) (λ _ _ _ _ e=>(ql e).elim) (λ _ _ _ _ e=>(ql e).elim) (λ _ _ _ _ e=>(aAo e).elim) (λ h _=>.scr h) (λ h _=>.fn h) (λ h _=>.itm h) (λ _=>.nil) (λ _ _ ih ir e=>.cons (ih (kh e).1) (ir (kh e).2)) r e
def Rps.imm'(r:Rps K A H xs ds)(e:fM ds=true):Rps K A' H xs ds:=
 Rps.rec (motive_1:=λ _ H x d _=>VL.imm d=true->Rp K A' H x d) (motive_2:=λ _ H xs ds _=>fM ds=true->Rps K A' H xs ds)
  (λ _=>.non) (λ b _=>.bl b) (λ i _=>.int i) (λ x _=>.str x) (λ h _ ih e=>.tup h (ih (aAn e)))
  (λ _ _ _ _ e=>(aAq e).elim) (λ _ _ _ _ e=>(ql e).elim) (λ _ _ _ _ e=>(ql e).elim) (λ _ _ _ _ e=>(aAo e).elim) (λ h _=>.scr h) (λ h _=>.fn h) (λ h _=>.itm h) (λ _=>.nil) (λ _ _ ih ir e=>.cons (ih (kh e).1) (ir (kh e).2)) r e
theorem Rp.imm(r:Rp K A H x d)(h:VL.imm d=true):Rp K A' H x d:=r.imm' h
def Rps.imm(r:Rps K A H x d)(h:fM d=true):Rps K A' H x d:=r.imm' h
def Rp.int_inv(r:Rp K A H v (.int i)):v= .int i:=by cases r;rfl
def Rp.tup_inv(r:Rp K A H v (.tup ds)):∃a xs,v= .ref a/\SqT K H a xs/\Rps K A H xs ds:=by cases r with|tup h r=>exact⟨_,_,rfl,h,r⟩
def Rp.lst_inv(r:Rp K A H v (.lst ds)):∃a xs,v= .ref a/\H a=some (.lst xs)/\A a/\Rps K (λ p=>A p/\p≠a) H xs ds:=by cases r with|lst h m r=>exact⟨_,_,rfl,h,m,r⟩
def Rp.scr_inv(r:Rp K A H v (.scr ns)):∃a,v= .ref a/\kE K H a ns:=by cases r with|scr h=>exact⟨_,rfl,h⟩
def Rps.one_inv(r:Rps K A H vs [d]):∃v,vs=[v]/\Rp K A H v d:=by cases r with|cons h r=>cases r;exact⟨_,rfl,h⟩
section
variable{A:Addr->Prop}{H:Hp}
theorem Rps.length:∀{xs:List V} {ds:List D},Rps K A H xs ds->xs.length=ds.length:=by
 intro xs ds h;induction xs generalizing ds with
 |nil=>cases h;rfl
 |cons x xs ih=>cases h with|cons _ r=>exact congrArg (·+1) (ih r)
theorem Rps.get:∀{xs:List V} {ds:List D} {i:Nat} {x:V},Rps K A H xs ds->xs[i]? =some x->∃d,ds[i]? =some d/\Rp K A H x d
 |_,_,_,_,.nil,e=>by simp at e
 |_,_,0,_,.cons h _,e=>by simp at e;subst e;exact⟨_,rfl,h⟩
 |_,_,i+1,x,.cons _ r,e=>by
  obtain⟨d,h1,h2⟩:=Rps.get (i:=i) (x:=x) r (by simpa using e);exact⟨d,by simpa using h1,h2⟩
theorem Rps.getD:∀{xs:List V} {ds:List D} {i:Nat} {d:D},Rps K A H xs ds->ds[i]? =some d->∃x,xs[i]? =some x/\Rp K A H x d
 |_,_,_,_,.nil,e=>by simp at e
 |_,_,0,_,.cons h _,e=>by simp at e;subst e;exact⟨_,rfl,h⟩
 |_,_,i+1,d,.cons _ r,e=>by
  obtain⟨x,h1,h2⟩:=Rps.getD (i:=i) (d:=d) r (by simpa using e);exact⟨x,by simpa using h1,h2⟩
def Rps.append:∀{xs ys:List V} {ds es:List D},Rps K A H xs ds->Rps K A H ys es->Rps K A H (xs++ys) (ds++es):=by
 intro xs ys ds es h s;induction xs generalizing ds with
 |nil=>cases h;exact s
 |cons x xs ih=>cases h with|cons h r=>exact .cons h (ih r)
theorem Rps.take:∀{xs:List V} {ds:List D} (n:Nat),Rps K A H xs ds->Rps K A H (xs.take n) (ds.take n)
 |_,_,0,_=>.nil
 |_,_,_+1,.nil=>.nil
 |_,_,n+1,.cons h r=>.cons h (Rps.take n r)
theorem Rps.drop:∀{xs:List V} {ds:List D} (n:Nat),Rps K A H xs ds->Rps K A H (xs.drop n) (ds.drop n)
 |_,_,0,r=>r
 |_,_,_+1,.nil=>.nil
 |_,_,n+1,.cons _ r=>Rps.drop n r
theorem Rps.reverse:∀{xs:List V} {ds:List D},Rps K A H xs ds->Rps K A H xs.reverse ds.reverse:=by
 intro xs ds h;induction xs generalizing ds with
 |nil=>cases h;exact .nil
 |cons x xs ih=>
  cases h with
  |cons h r=>
   rw[zCf,zCf];exact Rps.append (ih r) (.cons h .nil)
theorem Rps.set(h:Rp K A H x d):∀{xs:List V} {ds:List D} (n:Nat),Rps K A H xs ds->Rps K A H (xs.set n x) (ds.set n d)
 |_,_,_,.nil=>.nil
 |_,_,0,.cons _ r=>.cons h r
 |_,_,n+1,.cons k r=>.cons k (Rps.set h n r)
theorem Rps.ints:∀{ns:List Int},Rps K A H (ns.map V.int) (ns.map D.int)
 |[]=>.nil
 |n::ns=>.cons (.int n) Rps.ints
theorem Rps.ints_of:∀{xs:List V} {ns:List Int},Rps K A H xs (ns.map D.int)->xs=ns.map V.int
 |_,[],.nil=>rfl
 |_,n::ns,.cons h r=>by
  cases h;rw[zAG,Rps.ints_of r]
end
def aO(h:a=b):a=b:=h
inductive Rs(α:Type) where
 |ok (a:α)|ex (c:Str)|st
noncomputable def Rs.bd{α β:Type}:Rs α->(α->Rs β)->Rs β
 | .ok a,f=>f a
 | .ex c,_=>.ex c
 | .st,_=>.st
@[simp] def aK(a:α)(f:α->Rs β):(Rs.ok a).bd f=f a:=aO rfl
def dB{r:Rs α}(h:r.bd f= .ok b):∃a,r= .ok a/\f a= .ok b:=by
 cases r with
 |ok a=>exact⟨a,rfl,h⟩
 |ex c=>cases h
 |st=>cases h
abbrev dP:=List (List D)
inductive Slot where
 |no|sh (d:D)|nw (d:D)|ow (d:D)|oz (d:D)|o2 (l:dP)
abbrev En:=List Slot
abbrev Lab:=Addr->Nat×Nat
abbrev Mode:=Option (List Nat)
def inM(m:Mode)(n:Nat):Prop:=match m with
 |none=>True
 |some L=>n∈L
def jn:Mode->Mode->Mode
 |some a,some b=>some (a++b)
 |_,_=>none
def aIw(h:inM a n):inM (jn a b) n:=by
 cases a with
 |none=>cases b<;>exact trivial
 |some L=>
  cases b with
  |none=>exact trivial
  |some M=>exact zAh _ h
def aIv(h:inM b n):inM (jn a b) n:=by
 cases a with
 |none=>cases b<;>exact trivial
 |some L=>
  cases b with
  |none=>exact trivial
  |some M=>exact zAR _ h
def fpM(m:Mode)(lab:Lab)(H:Hp):Addr->Prop:=λ p=>H p=none\/inM m (lab p).1
def aD2(h:fpM a lab H p):fpM (jn a b) lab H p:=h.imp id aIw
def aD1(h:fpM b lab H p):fpM (jn a b) lab H p:=h.imp id aIv
def ju(s:aQ H H')(h:fpM m lab H' p):fpM m lab H p:=h.imp (λ z=>s.free z) id
structure Gx where
 H0:Hp
 E:XK
 cl:Str->Addr
def aBQ:D->Bool
 | .lst _=>true
 | .dct _ _=>true
 | .set _=>true
 |_=>false
def fX(K:zAA)(H:Hp)(lab:Lab)(i:Nat)(v:V):Slot->Prop
 | .no=>True
 | .sh d=>Rp K (λ p=>(lab p).1<=1) H v d
 | .nw d=>Rp K (λ p=>(lab p).1=1) H v d
 | .ow d=>Rp K (λ p=>(lab p).1=1\/(lab p).1=i+2) H v d/\(aBQ d=true->∃a,v= .ref a/\(lab a).1=i+2)
 | .oz d=>∃a xs ds,v= .ref a/\d= .lst ds/\H a=some (.lst xs)/\(lab a).1=i+2/\Rps K (λ p=>(lab p).1<=1) H xs ds
 | .o2 l=>∃a xs,v= .ref a/\H a=some (.lst xs)/\lab a=(i+2,0)/\xs.length=l.length/\∀(j:Nat) x ds,xs[j]? =some x->l[j]? =some ds->Rp K (λ p=>lab p=(i+2,j+1)) H x (.lst ds)
structure RR(K:zAA)(G:Gx)(τ:List (V×D))(Y:En)(Z:L2.St)(H:Hp)(lab:Lab):Prop where
 len:Z.length=Y.length
 sl:∀(i:Nat) (s:Slot),Y[i]? =some s->s= .no\/∃v,Z[i]? =some (some v)/\fX K H lab i v s
 old:aQ G.H0 H
 new:∀p,(lab p).1≠0->G.H0 p=none
 tm:∀q∈τ,Rp K (λ p=>(lab p).1<=1) H q.1 q.2
theorem fX.up(s:aQ H H')(h:fX K H lab i v x):fX K H' lab i v x:=by
 cases x with
 |no=>exact trivial
 |sh d=>exact Rp.up s h
 |nw d=>exact Rp.up s h
 |ow d=>exact⟨Rp.up s h.1,h.2⟩
 |oz d=>
  obtain⟨a,xs,ds,e1,e2,e3,e4,e5⟩:=h;exact⟨a,xs,ds,e1,e2,s _ _ e3,e4,e5.up s⟩
 |o2 l=>
  obtain⟨a,xs,e1,e2,e3,e4,e5⟩:=h;exact⟨a,xs,e1,s _ _ e2,e3,e4,λ j x ds f1 f2=>(e5 j x ds f1 f2).up s⟩
def aCV(r:Rp K A H (.ref a) d)(hm:aBQ d=true):∃o,H a=some o/\iQ o=true/\A a:=by
 cases r with
 |lst h m _=>exact⟨_,h,rfl,m⟩
 |dK h m _=>exact⟨_,h,rfl,m⟩
 |dT h m _=>exact⟨_,h.at_,rfl,m⟩
 |set h m _ _=>exact⟨_,h,rfl,m⟩
 |tup _ _=>cases hm
 |scr _=>cases hm
 |fn _=>cases hm
 |itm _=>cases hm
def aGi(r:Rp K A H v d)(hm:aBQ d=true):∃a,v= .ref a:=by
 cases r with
 |lst h m _=>exact⟨_,rfl⟩
 |dK h m _=>exact⟨_,rfl⟩
 |dT h m _=>exact⟨_,rfl⟩
 |set h m _ _=>exact⟨_,rfl⟩
 |_=>cases hm
theorem fX.lab{lab lab':Lab}(hl:∀p o,H p=some o->lab' p=lab p)(h:fX K H lab i v x):fX K H lab' i v x:=by
 cases x with
 |no=>exact trivial
 |sh d=>exact Rp.wk (λ p o e q=>(hl p o e).symm▸q) h
 |nw d=>exact Rp.wk (λ p o e q=>(hl p o e).symm▸q) h
 |ow d=>
  obtain⟨h,t⟩:=h;refine⟨Rp.wk (λ p o e q=>(hl p o e).symm▸q) h,λ m=>?_⟩;obtain⟨a,rfl,ea⟩:=t m;obtain⟨o,ho,_⟩:=aCV h m;exact⟨a,rfl,(congrArg (·.1) (hl a o ho)).trans ea⟩
 |oz d=>
  obtain⟨a,xs,ds,e1,e2,e3,e4,e5⟩:=h;exact⟨a,xs,ds,e1,e2,e3,(congrArg (·.1) (hl _ _ e3)).trans e4,Rps.wk (λ p o e q=>(hl p o e).symm▸q) e5⟩
 |o2 l=>
  obtain⟨a,xs,e1,e2,e3,e4,e5⟩:=h;exact⟨a,xs,e1,e2,(hl _ _ e2).trans e3,e4,λ j x ds f1 f2=>Rp.wk (λ p o e q=>(hl p o e).symm▸q) (e5 j x ds f1 f2)⟩
section
variable{G:Gx}{τ:List (V×D)}{Y:En}{Z:L2.St}{H H':Hp}{lab lab':Lab}
theorem RR.up(R:RR K G τ Y Z H lab)(s:aQ H H'):RR K G τ Y Z H' lab:=
 ⟨R.len,λ i x e=>(R.sl i x e).imp id λ⟨v,e1,e2⟩=>⟨v,e1,e2.up s⟩,R.old.trans s,R.new,λ q hq=>(R.tm q hq).up s⟩
def RR.relab(R:RR K G τ Y Z H lab)(hl:∀p o,H p=some o->lab' p=lab p)(hn:∀p,(lab' p).1≠0->G.H0 p=none):RR K G τ Y Z H lab':=
 ⟨R.len,λ i x e=>(R.sl i x e).imp id λ⟨v,e1,e2⟩=>⟨v,e1,e2.lab hl⟩,R.old,hn,λ q hq=>Rp.wk (λ p o e z=>by rw[hl p o e];exact z) (R.tm q hq)⟩
def RR.drop(R:RR K G (τ'++τ) Y Z H lab):RR K G τ Y Z H lab:=⟨R.len,R.sl,R.old,R.new,λ z hz=>R.tm z (zAR _ hz)⟩
def RR.put(R:RR K G τ Y Z H lab)(h:fX K H lab i v s):RR K G τ (Y.set i s) (Z.set i (some v)) H lab:=by
 refine⟨by rw[zAw,zAw,R.len],λ j x e=>?_,R.old,R.new,R.tm⟩;by_cases hj:i=j
 .subst hj
  have hi:i<Y.length:=by
   have:=(zAM.mp e).1
   rwa [zAw]at this
  rw[zBE hi]at e;cases e;exact .inr ⟨v,by rw[zBE (by rw[R.len];exact hi)],h⟩
 .rw[zBC hj]at e
  rcases R.sl j x e with z|⟨u,e1,e2⟩
  .exact .inl z
  .exact .inr ⟨u,by rw[zBC hj];exact e1,e2⟩
def bC(H:Hp)(n:Nat)(lab:Lab):Lab:=λ p=>match H p with
 |none=>(n,0)
 |some _=>lab p
def aZ(h:H p=some o):bC H n lab p=lab p:=by unfold bC;rw[h]
def rn(h:H p=none):bC H n lab p=(n,0):=by unfold bC;rw[h]
def RR.fresh{P:Nat->Prop}(h1:P 1)(hm:∀k,inM m k->P k)(R:RR K G τ Y Z H lab)(s:aQ H H')(r:Rp K (fpM m lab H) H' v d):
  RR K G τ Y Z H' (bC H 1 lab)/\Rp K (λ p=>P (bC H 1 lab p).1) H' v d:=by
 refine⟨(R.relab (λ p o e=>aZ e) λ p hp=>?_).up s,Rp.wk (λ p o e z=>?_) r⟩
 .cases e:H p with
  |none=>exact R.old.free e
  |some o=>rw[aZ e]at hp;exact R.new p hp
 .rcases z with z|z
  .rw[rn z];exact h1
  .cases e:H p with
   |none=>rw[rn e];exact h1
   |some o=>rw[aZ e];exact hm _ z
def RR.freshO(i:Nat)(hm:∀k,inM m k->k=1\/k=i+2)(R:RR K G τ Y Z H lab)(s:aQ H H')(r:Rp K (fpM m lab H) H' v d)(ht:aBQ d=true->∃a,v= .ref a/\H a=none):
  ∃lab',RR K G τ Y Z H' lab'/\fX K H' lab' i v (.ow d):=by
 obtain⟨R',r'⟩:=R.fresh (P:=λ k=>k=1\/k=i+2) (.inl rfl) hm s r;cases hd:aBQ d with
 |false=>exact⟨_,R',r',λ z=>absurd z (by simp[hd])⟩
 |true=>
  obtain⟨a,rfl,ha⟩:=ht hd;refine⟨λ p=>if p=a then(i+2,0)else bC H 1 lab p,?_,Rp.wk (λ p o e z=>?_) r',λ _=>⟨a,rfl,by show(if a=a then((i+2,0):Nat×Nat)else bC H 1 lab a).1=i+2;rw[if_pos rfl]⟩⟩
  .refine(R.relab (lab':=λ p=>if p=a then(i+2,0)else bC H 1 lab p) (λ p o e=>?_) λ p hp=>?_).up s
   .rw[if_neg (λ z=>by subst z;rw[ha]at e;cases e),aZ e]
   .by_cases z:p=a
    .subst z;exact R.old.free ha
    .rw[if_neg z]at hp;exact R'.new p hp
  .dsimp only
   by_cases q:p=a
   .rw[if_pos q];exact .inr rfl
   .rw[if_neg q];exact z
def aGI(h:fX K H lab i v (.oz d)):Rp K (λ p=>(lab p).1<=1\/(lab p).1=i+2) H v d:=by
 obtain⟨a,xs,ds,rfl,rfl,h1,h2,h3⟩:=h;exact .lst h1 (.inr h2) (h3.wk λ p o e z=>⟨.inl z,λ q=>by subst q;lia⟩)
end
structure Ct where
 ι:Type
 X:ι->Cx
 prog:zAO
 w:World
 K:zAA
 mg:Str->Option Value
 base:Heap
 k:Nat
 G:Gx
 cx:∀i,(X i).prog=prog/\(X i).w=w/\(X i).K=K/\(X i).mg=mg/\(X i).base=base
 calm:∀i,(X i).calm=true
 room:∀i,fD k (X i).A
 own:∀i,zGE (model (X i).prog (X i).w) (X i).A (X i).env (X i).xe
 pass:∀i,wO (CX1 (X i).prog (X i).w) (X i) G.E
 dOk:Bool
 dcx:dOk=true->∀i,dM (X i) G.E
def Ct.hK(C:Ct)(i:C.ι):(C.X i).K=C.K:=(C.cx i).2.2.1
def WR{α:Type}(G:Gx)(r:Rs α)(P:α->Prop):Prop:=match r with
 | .ok a=>P a
 | .ex c=>∀H',aQ G.H0 H'->G.E (.ref (G.cl c)) none H'
 | .st=>False
theorem WR.bd(h:WR G (r.bd k) P):WR G r (λ a=>WR G (k a) P):=by
 cases r with
 |ok a=>exact h
 |ex c=>exact h
 |st=>exact h
def WR.imp(h:WR G r P)(f:∀a,r= .ok a->P a->P' a):WR G r P':=by
 cases r with
 |ok a=>exact f a rfl h
 |ex c=>exact h
 |st=>exact h
abbrev QE(K:zAA)(m:Mode)(lab:Lab)(H:Hp)(Q:VK):D->Prop:=λ d=>∀v H',aQ H H'->Rp K (fpM m lab H) H' v d->Q v H'
abbrev QA(K:zAA)(m:Mode)(lab:Lab)(H:Hp)(Q:List V->Hp->Prop):List D->Prop:=λ ds=>∀vs H',aQ H H'->Rps K (fpM m lab H) H' vs ds->Q vs H'
abbrev QT(H:Hp)(Q:Bool->Hp->Prop):Bool->Prop:=λ b=>∀H',aQ H H'->Q b H'
def ie(K:zAA)(G:Gx)(m:Mode)(t:TE)(f:En->Rs D):Prop:=∀τ Z H Y lab (Q:VK),RR K G τ Y Z H lab->WR G (f Y) (QE K m lab H Q)->t Z H Q
def aFd(K:zAA)(G:Gx)(m:Mode)(t:TA)(f:En->Rs (List D)):Prop:=∀τ Z H Y lab (Q:List V->Hp->Prop),RR K G τ Y Z H lab->WR G (f Y) (QA K m lab H Q)->t Z H Q
def aBq(K:zAA)(G:Gx)(t:TT)(f:En->Rs Bool):Prop:=∀τ Z H Y lab (Q:Bool->Hp->Prop),RR K G τ Y Z H lab->WR G (f Y) (QT H Q)->t Z H Q
def SE(C:Ct)(m:Mode)(e:Expr)(f:En->Rs D):Prop:=∃t,(∀i,PE (C.X i) e t)/\ie C.K C.G m t f
def SA(C:Ct)(m:Mode)(es:List Expr)(f:En->Rs (List D)):Prop:=∃t,(∀i,PA (C.X i) es t)/\aFd C.K C.G m t f
def ST(C:Ct)(e:Expr)(f:En->Rs Bool):Prop:=∃t,(∀i,PT (C.X i) e t)/\aBq C.K C.G t f
def SW(C:Ct)(e:Expr)(f:En->Rs Bool):Prop:=∃t,(∀i,PW (C.X i) e t)/\aBq C.K C.G t f
def SW.st(h:SW C e f):ST C e f:=let⟨t,h1,h2⟩:=h;⟨t,λ i=>(h1 i).pt,h2⟩
def fG(i:Nat):En->Rs D:=λ Y=>match Y[i]? with
 |some (.sh d)=>.ok d
 |some (.nw d)=>.ok d
 |some (.ow d)=>.ok d
 |some (.oz d)=>.ok d
 |some (.o2 l)=>.ok (.lst (l.map .lst))
 |_=>.st
def aC(i:Nat):En->Rs D:=λ Y=>match Y[i]? with
 |some (.sh d)=>.ok d
 |some (.nw d)=>.ok d
 |_=>.st
def qO(i:Nat):En->Rs D:=λ Y=>match Y[i]? with
 |some (.nw d)=>.ok d
 |_=>.st
def qN(i:Nat):En->Rs D:=λ Y=>match Y[i]? with
 |some (.ow d)=>.ok d
 |some (.o2 l)=>.ok (.lst (l.map .lst))
 |_=>.st
def cD(d:D):En->Rs D:=λ _=>.ok d
def aCq{K:zAA}{H:Hp}{lab:Lab}{i:Nat}{v:V}{l:dP}(h:fX K H lab i v (.o2 l)):Rp K (λ p=>(lab p).1=i+2) H v (.lst (l.map .lst)):=by
 obtain⟨a,xs,rfl,ha,hla,hW,hin⟩:=h;refine .lst ha (by rw[hla]) ?_;have go:∀(xs:List V) (l:dP) (n:Nat),xs.length=l.length->0<n->(∀(j:Nat) x ds,xs[j]? =some x->l[j]? =some ds->Rp K (λ p=>lab p=(i+2,n+j)) H x (.lst ds))->Rps K (λ p=>(lab p).1=i+2/\p≠a) H xs (l.map .lst):=by
  intro xs;induction xs with
  |nil=>intro l n hl _ _;cases l with|nil=>exact .nil|cons _ _=>simp at hl
  |cons x xs ih=>
   intro l n hl hn h;cases l with
   |nil=>simp at hl
   |cons ds l=>
    refine .cons (Rp.wk (λ p o e z=>⟨by rw[z],λ e=>by rw[e,hla]at z;have z2:(0:Nat)=n+0:=congrArg Prod.snd z;lia⟩) (h 0 x ds rfl rfl)) (ih l (n+1) (by simpa using hl) (by lia) λ j y es e1 e2=>?_);have z:=h (j+1) y es (by simpa using e1) (by simpa using e2);rw[show n+1+j=n+(j+1)by lia];exact z
 exact go xs l 1 hW (by lia) λ j x ds e1 e2=>by have z:=hin j x ds e1 e2;rw[show 1+j=j+1 by lia];exact z
section
variable{C:Ct}{pos:Pos}
def aEI(K:zAA)(G:Gx)(i:Nat):ie K G (some [0,1,i+2]) (nC i) (fG i):=by
 intro τ Z H Y lab Q R W;unfold fG at W;cases e:Y[i]? with
 |none=>rw[e]at W;exact W.elim
 |some s=>
  rw[e]at W;rcases R.sl i s e with rfl|⟨v,ev,hv⟩
  .exact zAH W
  .cases s with
   |no=>exact zAH W
   |sh d=>exact⟨v,ev,W v H (aQ.refl H) (Rp.wk (λ p o e z=>.inr (by show(lab p).1∈[0,1,i+2];rcases(show(lab p).1=0\/(lab p).1=1 by lia)with q|q<;>rw[q]<;>simp)) hv)⟩
   |nw d=>exact⟨v,ev,W v H (aQ.refl H) (Rp.wk (λ p o e z=>.inr (by show(lab p).1∈[0,1,i+2];rw[z];simp)) hv)⟩
   |ow d=>exact⟨v,ev,W v H (aQ.refl H) (Rp.wk (λ p o e z=>.inr (by show(lab p).1∈[0,1,i+2];rcases z with q|q<;>rw[q]<;>simp)) hv.1)⟩
   |oz d=>exact⟨v,ev,W v H (aQ.refl H) (Rp.wk (λ p o e z=>.inr (by show(lab p).1∈[0,1,i+2];rcases(show(lab p).1=0\/(lab p).1=1\/(lab p).1=i+2 by lia)with q|q|q<;>rw[q]<;>simp)) (aGI hv))⟩
   |o2 l=>exact⟨v,ev,W v H (aQ.refl H) (Rp.wk (λ p o e z=>.inr (by show(lab p).1∈[0,1,i+2];rw[z];simp)) (aCq hv))⟩
def aCI(K:zAA)(G:Gx)(i:Nat):ie K G (some [0,1]) (nC i) (aC i):=by
 intro τ Z H Y lab Q R W;unfold aC at W;cases e:Y[i]? with
 |none=>rw[e]at W;exact W.elim
 |some s=>
  rw[e]at W;rcases R.sl i s e with rfl|⟨v,ev,hv⟩
  .exact zAH W
  .cases s with
   |sh d=>exact⟨v,ev,W v H (aQ.refl H) (Rp.wk (λ p o e z=>.inr (by show(lab p).1∈[0,1];rcases(show(lab p).1=0\/(lab p).1=1 by lia)with q|q<;>rw[q]<;>simp)) hv)⟩
   |nw d=>exact⟨v,ev,W v H (aQ.refl H) (Rp.wk (λ p o e z=>.inr (by show(lab p).1∈[0,1];rw[z];simp)) hv)⟩
   |_=>exact zAH W
def aCK(K:zAA)(G:Gx)(i:Nat):ie K G (some [1]) (nC i) (qO i):=by
 intro τ Z H Y lab Q R W;unfold qO at W;cases e:Y[i]? with
 |none=>rw[e]at W;exact W.elim
 |some s=>
  rw[e]at W;rcases R.sl i s e with rfl|⟨v,ev,hv⟩
  .exact zAH W
  .cases s with
   |nw d=>exact⟨v,ev,W v H (aQ.refl H) (Rp.wk (λ p o e z=>.inr (by show(lab p).1∈[1];rw[z];simp)) hv)⟩
   |_=>exact zAH W
def aCJ(K:zAA)(G:Gx)(i:Nat):ie K G (some [1,i+2]) (nC i) (qN i):=by
 intro τ Z H Y lab Q R W;unfold qN at W;cases e:Y[i]? with
 |none=>rw[e]at W;exact W.elim
 |some s=>
  rw[e]at W;rcases R.sl i s e with rfl|⟨v,ev,hv⟩
  .exact zAH W
  .cases s with
   |ow d=>exact⟨v,ev,W v H (aQ.refl H) (Rp.wk (λ p o e z=>.inr (by show(lab p).1∈[1,i+2];rcases z with q|q<;>rw[q]<;>simp)) hv.1)⟩
   |o2 l=>exact⟨v,ev,W v H (aQ.refl H) (Rp.wk (λ p o e z=>.inr (by show(lab p).1∈[1,i+2];rw[z];simp)) (aCq hv))⟩
   |_=>exact zAH W
def jW(i:Nat)(hN:∀j,(C.X j).N[i]? =some x:=by intro _;rfl)(hv:∀j,Vis (C.X j).env.scope x:=by intro _;first|exact zBi rfl|exact zBM (zBi rfl)|exact zBM (zBM rfl))(hd:Nd x:=by decide)
  (hcd:(x==("__classdict__":Str))=false:=by decide):SE C (some [0,1,i+2]) (.Name x pos) (fG i):=⟨_,λ j=>fL (hN j) (hv j) hd hcd,aEI _ _ i⟩
def aA(i:Nat)(hN:∀j,(C.X j).N[i]? =some x:=by intro _;rfl)(hv:∀j,Vis (C.X j).env.scope x:=by intro _;first|exact zBi rfl|exact zBM (zBi rfl)|exact zBM (zBM rfl))(hd:Nd x:=by decide)
  (hcd:(x==("__classdict__":Str))=false:=by decide):SE C (some [0,1]) (.Name x pos) (aC i):=⟨_,λ j=>fL (hN j) (hv j) hd hcd,aCI _ _ i⟩
def vY(i:Nat)(hN:∀j,(C.X j).N[i]? =some x:=by intro _;rfl)(hv:∀j,Vis (C.X j).env.scope x:=by intro _;first|exact zBi rfl|exact zBM (zBi rfl)|exact zBM (zBM rfl))(hd:Nd x:=by decide)
  (hcd:(x==("__classdict__":Str))=false:=by decide):SE C (some [1]) (.Name x pos) (qO i):=⟨_,λ j=>fL (hN j) (hv j) hd hcd,aCK _ _ i⟩
def kJ(i:Nat)(hN:∀j,(C.X j).N[i]? =some x:=by intro _;rfl)(hv:∀j,Vis (C.X j).env.scope x:=by intro _;first|exact zBi rfl|exact zBM (zBi rfl)|exact zBM (zBM rfl))(hd:Nd x:=by decide)
  (hcd:(x==("__classdict__":Str))=false:=by decide):SE C (some [1,i+2]) (.Name x pos) (qN i):=⟨_,λ j=>fL (hN j) (hv j) hd hcd,aCJ _ _ i⟩
def aJ:SE C (some []) (.Constant (.int i) j pos) (cD (.int i)):=⟨_,λ _=>aCe,λ τ Z H Y lab Q R W=>W _ H (aQ.refl H) (.int i)⟩
def pR:SE C (some []) (.Constant (.bool b) j pos) (cD (.bl b)):=⟨_,λ _=>aIk,λ τ Z H Y lab Q R W=>W _ H (aQ.refl H) (.bl b)⟩
def aCP:SE C (some []) (.Constant .none j pos) (cD .non):=⟨_,λ _=>aHE,λ τ Z H Y lab Q R W=>W _ H (aQ.refl H) .non⟩
def aCO:SE C (some []) (.Constant (.str x) j pos) (cD (.str x)):=⟨_,λ _=>aHB,λ τ Z H Y lab Q R W=>W _ H (aQ.refl H) (.str x)⟩
def aEV(hm:C.mg x=some u)(r:RelV v u)(hd:∀A H,Rp C.K A H v d)(hdb:Nd x:=by decide)(hg:∀i,Gl (C.X i) x:=by intro _;rfl):SE C (some []) (.Name x pos) (cD d):=
 ⟨_,λ i=>aEh (hg i) (by rw[(C.cx i).2.2.2.1];exact hm) r hdb,λ τ Z H Y lab Q R W=>W _ H (aQ.refl H) (hd _ _)⟩
def pA(d:D):Rs D:=if imm d=true then .ok d else .st
def bL(f:En->Rs D):En->Rs D:=λ Y=>(f Y).bd pA
def bR(h:SE C m e f):SE C (some []) e (bL f):=by
 obtain⟨t,h1,h2⟩:=h;refine⟨t,h1,λ τ Z H Y lab Q R W=>h2 τ Z H Y lab Q R (W.bd.imp λ d _ w v H' s r=>?_)⟩;unfold pA at w;by_cases hd:imm d=true
 .rw[if_pos hd]at w
  exact w v H' s (r.imm hd)
 .rw[if_neg hd]at w
  exact zAH w
def aG:En->Rs (List D):=λ _=>.ok []
def aB(f:En->Rs D)(g:En->Rs (List D)):En->Rs (List D):=λ Y=>(f Y).bd λ d=>(g Y).bd λ ds=>.ok (d::ds)
variable{m m1 m2:Mode}{e a b:Expr}{es:List Expr}{f fa fb:En->Rs D}{g:En->Rs (List D)}
def aF:SA C (some []) [] aG:=⟨_,λ _=>jE,λ τ Z H Y lab Q R W=>W _ H (aQ.refl H) .nil⟩
def aD(h:SE C m1 e f)(hr:SA C m2 es g)(hs:∀i,zAS (e::es) (C.X i).env=(false,eval e (C.X i).env)::zAS es (C.X i).env:=by intro _;rfl):SA C (jn m1 m2) (e::es) (aB f g):=by
 obtain⟨t,h1,h2⟩:=h;obtain⟨u,k1,k2⟩:=hr;refine⟨_,λ i=>dg (h1 i) (k1 i) (hs i),λ τ Z H Y lab Q R W=>?_⟩;refine h2 τ Z H Y lab _ R (W.bd.imp λ d _ w x H1 s1 r1=>?_);refine k2 τ Z H1 Y lab _ (R.up s1) (w.bd.imp λ ds _ w xs H2 s2 r2=>?_);exact w (x::xs) H2 (s1.trans s2) (.cons (r1.mono s2 λ p o _ z=>aD2 z) (r2.wk λ p o _ z=>aD1 (ju s1 z)))
def bW(g:En->Rs (List D)):En->Rs D:=λ Y=>(g Y).bd λ ds=>if ds.length<=zAN then .ok (.tup ds)else .st
def gZ(g:En->Rs (List D)):En->Rs D:=λ Y=>(g Y).bd λ ds=>if ds.length<=zAN then .ok (.lst ds)else .st
def cV{x1}(h:SA C m es g):SE C m (.Tuple es x1 pos) (bW g):=by
 obtain⟨t,h1,h2⟩:=h;refine⟨_,λ i=>aEe (h1 i),λ τ Z H Y lab Q R W=>h2 τ Z H Y lab _ R (W.bd.imp λ ds _ w xs H1 s1 r1=>?_)⟩;by_cases hz:ds.length<=zAN
 .rw[if_pos hz]at w
  exact⟨by rw[r1.length];exact hz,λ p H' s hp _=>w _ H' (s1.trans s) (.tup (SqT.of hp) (r1.up s))⟩
 .rw[if_neg hz]at w
  exact zAH w
def oG(h:SA C m es g):SE C m (.List es pos) (gZ g):=by
 obtain⟨t,h1,h2⟩:=h;refine⟨_,λ i=>vf (h1 i),λ τ Z H Y lab Q R W=>h2 τ Z H Y lab _ R (W.bd.imp λ ds _ w xs H1 s1 r1=>?_)⟩;by_cases hz:ds.length<=zAN
 .rw[if_pos hz]at w
  exact⟨by rw[r1.length];exact hz,λ p H' s hp hn=>w _ H' (s1.trans s) (.lst hp (.inl (s1.free hn)) ((r1.wk λ q o e z=>⟨z,λ e'=>by subst e';rw[hn]at e;cases e⟩).up s))⟩
 .rw[if_neg hz]at w
  exact zAH w
def aEW:SE C (some []) (.Dict [] [] pos) (cD (.dct [] [])):=
 ⟨_,λ _=>aCg,λ τ Z H Y lab Q R W p H' s hp hn=>W _ H' s (.dK (kvs:=[]) hp (.inl hn) .nil)⟩
def aJQ(H:Hp)(v:V)(d:D):Prop:=aBQ d=true->∃a,v= .ref a/\H a=none
def aIR(K:zAA)(G:Gx)(m:Mode)(t:TE)(f:En->Rs D):Prop:=∀τ Z H Y lab (Q:VK),RR K G τ Y Z H lab->WR G (f Y) (λ d=>∀v H',aQ H H'->Rp K (fpM m lab H) H' v d->aJQ H v d->Q v H')->t Z H Q
def SF(C:Ct)(m:Mode)(e:Expr)(f:En->Rs D):Prop:=∃t,(∀i,PE (C.X i) e t)/\aIR C.K C.G m t f
def ie.toF{K:zAA}{G:Gx}{t:TE}{f:En->Rs D}(h:ie K G (some []) t f):aIR K G (some []) t f:=λ τ Z H Y lab Q R W=>
 h τ Z H Y lab Q R (W.imp λ d _ w v H' s r=>w v H' s r λ hm=>by
  obtain⟨a,rfl⟩:=aGi r hm;obtain⟨o,_,_,z⟩:=aCV r hm;rcases z with z|z
  .exact⟨a,rfl,z⟩
  .cases z)
def aEM(h:SE C (some []) e f):SF C (some []) e f:=let⟨t,h1,h2⟩:=h;⟨t,h1,h2.toF⟩
def yw(h:SA C m es g):SF C m (.List es pos) (gZ g):=by
 obtain⟨t,h1,h2⟩:=h;refine⟨_,λ i=>vf (h1 i),λ τ Z H Y lab Q R W=>h2 τ Z H Y lab _ R (W.bd.imp λ ds _ w xs H1 s1 r1=>?_)⟩;by_cases hz:ds.length<=zAN
 .rw[if_pos hz]at w
  exact⟨by rw[r1.length];exact hz,λ p H' s hp hn=>w _ H' (s1.trans s) (.lst hp (.inl (s1.free hn)) ((r1.wk λ q o e z=>⟨z,λ e'=>by subst e';rw[hn]at e;cases e⟩).up s)) λ _=>⟨p,rfl,s1.free hn⟩⟩
 .rw[if_neg hz]at w
  exact zAH w
def OpS(K:zAA)(r:R2)(fd:D->D->Rs D):Prop:=∀(A:Addr->Prop) x y d e H (Q:VK) z,Rp K A H x d->Rp K A H y e->fd d e= .ok z->(∀v H',aQ H H'->Rp K (λ p=>H p=none\/A p) H' v z->Q v H')->r x y H Q
def UnS(K:zAA)(r:V->Hp->VK->Prop)(fd:D->Rs D):Prop:=∀(A:Addr->Prop) x d H (Q:VK) z,Rp K A H x d->fd d= .ok z->(∀v H',aQ H H'->Rp K (λ p=>H p=none\/A p) H' v z->Q v H')->r x H Q
def nj(K:zAA)(r:List V->Hp->VK->Prop)(fd:List D->Rs D):Prop:=∀(A:Addr->Prop) xs ds H (Q:VK) z,Rps K A H xs ds->fd ds= .ok z->(∀v H',aQ H H'->Rp K (λ p=>H p=none\/A p) H' v z->Q v H')->r xs H Q
def okD(r:Rs D):Rs D:=match r with
 | .ok d=>.ok d
 |_=>.st
def op2(fd:D->D->Rs D)(fa fb:En->Rs D):En->Rs D:=λ Y=>(fa Y).bd λ x=>(fb Y).bd λ y=>okD (fd x y)
def op1(fd:D->Rs D)(fa:En->Rs D):En->Rs D:=λ Y=>(fa Y).bd λ x=>okD (fd x)
def opA(fd:List D->Rs D)(fa:En->Rs (List D)):En->Rs D:=λ Y=>(fa Y).bd λ x=>okD (fd x)
theorem WR.okD(h:WR G (okD r) P):∃z,r= .ok z/\P z:=by
 cases r with
 |ok z=>exact⟨z,rfl,h⟩
 |ex c=>exact zAH h
 |st=>exact zAH h
def vR{K:zAA}{G:Gx}{r:R2}{ta tb:TE}{fd:D->D->Rs D}(hs:OpS K r fd)(h1:ie K G m1 ta fa)(h2:ie K G m2 tb fb):ie K G (jn m1 m2) (tOp r ta tb) (op2 fd fa fb):=by
 intro τ Z H Y lab Q R W;refine h1 τ Z H Y lab _ R (W.bd.imp λ d _ w x H1 s1 r1=>?_);refine h2 τ Z H1 Y lab _ (R.up s1) (w.bd.imp λ e _ w y H2 s2 r2=>?_);obtain⟨z,ez,w⟩:=w.okD;refine hs (fpM (jn m1 m2) lab H) x y d e H2 Q z (r1.mono s2 λ p o _ q=>aD2 q) (r2.wk λ p o _ q=>aD1 (ju s1 q)) ez λ v H' s r=>w v H' ((s1.trans s2).trans s) (r.wk λ p o _ q=>?_)
 rcases q with q|q
 .exact .inl ((s1.trans s2).free q)
 .exact q
def aEL{K:zAA}{G:Gx}{r:V->Hp->VK->Prop}{ta:TE}{fd:D->Rs D}(hs:UnS K r fd)(h1:ie K G m ta fa):ie K G m (tUn r ta) (op1 fd fa):=by
 intro τ Z H Y lab Q R W;refine h1 τ Z H Y lab _ R (W.bd.imp λ d _ w x H1 s1 r1=>?_);obtain⟨z,ez,w⟩:=w.okD;refine hs (fpM m lab H) x d H1 Q z r1 ez λ v H' s r=>w v H' (s1.trans s) (r.wk λ p o _ q=>?_)
 rcases q with q|q
 .exact .inl (s1.free q)
 .exact q
def aAZ{K:zAA}{G:Gx}{r:List V->Hp->VK->Prop}{ta:TA}{fd:List D->Rs D}(hs:nj K r fd)(h1:aFd K G m ta g):ie K G m (tCB r ta) (opA fd g):=by
 intro τ Z H Y lab Q R W;refine h1 τ Z H Y lab _ R (W.bd.imp λ d _ w x H1 s1 r1=>?_);obtain⟨z,ez,w⟩:=w.okD;refine hs (fpM m lab H) x d H1 Q z r1 ez λ v H' s r=>w v H' (s1.trans s) (r.wk λ p o _ q=>?_)
 rcases q with q|q
 .exact .inl (s1.free q)
 .exact q
def eX(h:SE C m e f)(hi:∀Y d,f Y= .ok d->imm d=true):SE C (some []) e f:=by
 obtain⟨t,h1,h2⟩:=h;exact⟨t,h1,λ τ Z H Y lab Q R W=>h2 τ Z H Y lab Q R (W.imp λ d ed w v H' s r=>w v H' s (r.imm (hi Y d ed)))⟩
def km(h:∀x y z,fd x y= .ok z->imm z=true)(e:op2 fd fa fb Y= .ok d):imm d=true:=by
 obtain⟨x,_,e⟩:=dB e;obtain⟨y,_,e⟩:=dB e;unfold okD at e;split at e
 .rename_i z hz
  cases e;exact h x y _ hz
 .cases e
def aFP(h:∀x z,fd x= .ok z->imm z=true)(e:op1 fd fa Y= .ok d):imm d=true:=by
 obtain⟨x,_,e⟩:=dB e;unfold okD at e;split at e
 .rename_i z hz
  cases e;exact h x _ hz
 .cases e
def j6(h:∀x z,fd x= .ok z->imm z=true)(e:opA fd g Y= .ok d):imm d=true:=by
 obtain⟨x,_,e⟩:=dB e;unfold okD at e;split at e
 .rename_i z hz
  cases e;exact h x _ hz
 .cases e
def uT(ro:∀i,OpR (C.X i) (zBv op) r)(hs:OpS C.K r fd)(ha:SE C m1 a fa)(hb:SE C m2 b fb):SE C (jn m1 m2) (.BinOp a op b pos) (op2 fd fa fb):=by
 obtain⟨t,h1,h2⟩:=ha;obtain⟨u,k1,k2⟩:=hb;exact⟨_,λ i=>aIi (ro i) (h1 i) (k1 i),vR hs h2 k2⟩
def aI8(ro:∀i,UnR (C.X i) (unaryOp op) r)(hs:UnS C.K r fd)(ha:SE C m a fa):SE C m (.UnaryOp op a pos) (op1 fd fa):=by
 obtain⟨t,h1,h2⟩:=ha;exact⟨_,λ i=>aGG (ro i) (h1 i),aEL hs h2⟩
def aCS(ro:∀i,OpR (C.X i) (zAk op) r)(hs:OpS C.K r fd)(ha:SE C m1 a fa)(hb:SE C m2 b fb)(hm:zC3 op b=false:=by first|exact aCr _|(with_unfolding_all rfl)):
  SE C (jn m1 m2) (.Compare a [op] [b] pos) (op2 fd fa fb):=by
 obtain⟨t,h1,h2⟩:=ha;obtain⟨u,k1,k2⟩:=hb;exact⟨_,λ i=>aEk (ro i) (h1 i) (k1 i) hm,vR hs h2 k2⟩
variable{p:Pos}{x:Str}{id T:String}
def jK(ro:∀i,dN (C.X i) (.builtin id) r)(hs:nj C.K r fd)(hg:∀i,Gl (C.X i) x)(hm:C.mg x=none)(hv:zAj x=some (.builtin id))(ha:SA C m (e::es) g)
  (hn:x≠"__name__":=by decide)(hdb:Nd x:=by decide)(he:∀i,zAS (e::es) (C.X i).env=(false,eval e (C.X i).env)::zAS es (C.X i).env:=by intro _;rfl)
  (hpl:∀i,(zBg pos (zAS es (C.X i).env)).any (·.1)=false:=by intro _;rfl):SE C m (.Call (.Name x p) (e::es) [] pos) (opA fd g):=by
 obtain⟨t,h1,h2⟩:=ha;exact⟨_,λ i=>nM (ro i) (hg i) (by rw[(C.cx i).2.2.2.1];exact hm) hv (h1 i) hn hdb (he i) (hpl i),aAZ hs h2⟩
def wj(ro:∀i,dN (C.X i) (.type T) r)(hs:nj C.K r fd)(hg:∀i,Gl (C.X i) x)(hm:C.mg x=none)(hv:zAj x=some (.type T))(ha:SA C m (e::es) g)
  (hn:x≠"__name__":=by decide)(hdb:Nd x:=by decide)(he:∀i,zAS (e::es) (C.X i).env=(false,eval e (C.X i).env)::zAS es (C.X i).env:=by intro _;rfl)
  (hpl:∀i,(zBg pos (zAS es (C.X i).env)).any (·.1)=false:=by intro _;rfl):SE C m (.Call (.Name x p) (e::es) [] pos) (opA fd g):=by
 obtain⟨t,h1,h2⟩:=ha;exact⟨_,λ i=>uW (ro i) (hg i) (by rw[(C.cx i).2.2.2.1];exact hm) hv (h1 i) hn hdb (he i) (hpl i),aAZ hs h2⟩
def uM(f g:En->Rs D):En->Rs D:=λ Y=>(f Y).bd λ d=>match d with
 | .bl true=>g Y
 | .bl false=>.ok (.bl false)
 |_=>.st
def aH8:D->Rs D
 | .bl b=>.ok (.bl (!b))
 |_=>.st
variable{rest:List Expr}
def oA{op}(h:SE C m a fa):SE C m (.BoolOp op [a] pos) fa:=by
 obtain⟨t,h1,h2⟩:=h;exact⟨_,λ i=>aHC (h1 i),h2⟩
def ji(ha:SE C m1 a fa)(hb:SE C m2 (.BoolOp .And (b::rest) pos) fb):SE C m2 (.BoolOp .And (a::b::rest) pos) (uM fa fb):=by
 obtain⟨t,h1,h2⟩:=ha;obtain⟨u,k1,k2⟩:=hb;refine⟨_,λ i=>aHI (h1 i) (k1 i),λ τ Z H Y lab Q R W=>h2 τ Z H Y lab _ R (W.bd.imp λ d _ w x H1 s1 r1=>?_)⟩;cases r1 with
 |bl c=>
  refine⟨c,rfl,?_⟩;cases c with
  |true=>
   rw[if_pos rfl];exact k2 τ Z H1 Y lab Q (R.up s1) (w.imp λ z _ w v H' s r=>w v H' (s1.trans s) (r.wk λ p o _ q=>ju s1 q))
  |false=>
   rw[if_neg zA8];exact w _ H1 s1 (.bl false)
 |_=>exact zAH w
def aGe(ha:SE C m a fa):SE C (some []) (.UnaryOp .Not a pos) (op1 aH8 fa):=by
 obtain⟨t,h1,h2⟩:=ha;refine⟨_,λ i=>aHD (h1 i),λ τ Z H Y lab Q R W=>h2 τ Z H Y lab _ R (W.bd.imp λ d _ w x H1 s1 r1=>?_)⟩;obtain⟨z,ez,w⟩:=w.okD;cases r1 with
 |bl c=>cases ez;exact⟨c,rfl,w _ H1 s1 (.bl _)⟩
 |_=>cases ez
def ifD(c:En->Rs Bool)(f g:En->Rs D):En->Rs D:=λ Y=>(c Y).bd λ k=>if k=true then f Y else g Y
def aIa(hc:ST C c fc)(ha:SE C m1 a fa)(hb:SE C m2 b fb):SE C (jn m1 m2) (.IfExp c a b pos) (ifD fc fa fb):=by
 obtain⟨tc,c1,c2⟩:=hc;obtain⟨t,h1,h2⟩:=ha;obtain⟨u,k1,k2⟩:=hb;refine⟨_,λ i=>aCf (c1 i) (h1 i) (k1 i),λ τ Z H Y lab Q R W=>c2 τ Z H Y lab _ R (W.bd.imp λ k _ w H1 s1=>?_)⟩;cases k with
 |true=>
  rw[if_pos rfl]at w ⊢;exact h2 τ Z H1 Y lab Q (R.up s1) (w.imp λ z _ w v H' s r=>w v H' (s1.trans s) (r.wk λ p o _ q=>aD2 (ju s1 q)))
 |false=>
  rw[if_neg zA8]at w ⊢;exact k2 τ Z H1 Y lab Q (R.up s1) (w.imp λ z _ w v H' s r=>w v H' (s1.trans s) (r.wk λ p o _ q=>aD1 (ju s1 q)))
def chD(fd fd':D->D->Rs D)(fa fb fc:En->Rs D):En->Rs D:=λ Y=>(fa Y).bd λ x=>(fb Y).bd λ y=>(okD (fd x y)).bd λ z=>match z with
 | .bl true=>(fc Y).bd λ w=>okD (fd' y w)
 | .bl false=>.ok (.bl false)
 |_=>.st
def aBF{K:zAA}{G:Gx}{r r':R2}{ta tb tc:TE}{fd fd':D->D->Rs D}{fc:En->Rs D}{m3:Mode}(hs:OpS K r fd)(hs':OpS K r' fd')(hi:∀x y z,fd' x y= .ok z->imm z=true)(h1:ie K G m1 ta fa)(h2:ie K G m2 tb fb)(h3:ie K G m3 tc fc):
  ie K G (some []) (aCC r r' ta tb tc) (chD fd fd' fa fb fc):=by
 intro τ Z H Y lab Q R W;refine h1 τ Z H Y lab _ R (W.bd.imp λ d _ w x H1 s1 r1=>?_);refine h2 τ Z H1 Y lab _ (R.up s1) (w.bd.imp λ e _ w y H2 s2 r2=>?_);obtain⟨z,ez,w⟩:=w.bd.okD;refine hs (λ _=>True) x y d e H2 _ z (r1.mono s2 λ p o _ q=>trivial) (r2.wk λ p o _ q=>trivial) ez λ v H3 s3 r3=>?_
 cases r3 with
 |bl c=>
  refine⟨c,rfl,?_⟩;cases c with
  |false=>
   rw[if_neg zA8];exact w _ H3 ((s1.trans s2).trans s3) (.bl false)
  |true=>
   rw[if_pos rfl];refine h3 τ Z H3 Y lab _ ((R.up s1).up (s2.trans s3)) (w.bd.imp λ e' _ w y' H4 s4 r4=>?_);obtain⟨z',ez',w⟩:=w.okD;exact hs' (λ _=>True) y y' e e' H4 Q z' (r2.mono (s3.trans s4) λ p o _ q=>trivial) (r4.wk λ p o _ q=>trivial) ez' λ v H5 s5 r5=>w v H5 ((((s1.trans s2).trans s3).trans s4).trans s5) (r5.imm (hi _ _ _ ez'))
 |_=>exact zAH w
def wg(ro:∀i,OpR (C.X i) (zAk op) r)(hs:OpS C.K r fd)(ro':∀i,OpR (C.X i) (zAk op') r')(hs':OpS C.K r' fd')(hi:∀x y z,fd' x y= .ok z->imm z=true)
  (ha:SE C m1 a fa)(hb:SE C m2 b fb)(hc:SE C m3 c fc)(hm:zGJ [op,op'] [b,c]=false:=by with_unfolding_all rfl):SE C (some []) (.Compare a [op,op'] [b,c] pos) (chD fd fd' fa fb fc):=by
 obtain⟨t,h1,h2⟩:=ha;obtain⟨u,k1,k2⟩:=hb;obtain⟨v,l1,l2⟩:=hc;exact⟨_,λ i=>aCh (ro i) (ro' i) (h1 i) (k1 i) (l1 i) hm,aBF hs hs' hi h2 k2 l2⟩
def aEC:D->Rs Bool
 | .non=>.ok false
 | .bl b=>.ok b
 | .int i=>.ok (i !=0)
 | .tup l=>.ok (!l.isEmpty)
 | .lst l=>.ok (!l.isEmpty)
 |_=>.st
def blD:D->Rs Bool
 | .bl b=>.ok b
 |_=>.st
def tst(f:En->Rs D):En->Rs Bool:=λ Y=>(f Y).bd aEC
def tsb(f:En->Rs D):En->Rs Bool:=λ Y=>(f Y).bd blD
def sW{K:zAA}{A:Addr->Prop}{H:Hp}{xs:List V}{ds:List D}(r:Rps K A H xs ds):(!ds.isEmpty)= !xs.isEmpty:=by cases r<;>rfl
def lu(ha:SE C m a fa)(he:∀i whole,isTrue a (C.X i).env whole=(do let v <-whole;zFn a.pos;zCU [v] (truthy v)):=by intro _ _;rfl):ST C a (tst fa):=by
 obtain⟨t,h1,h2⟩:=ha;refine⟨λ Z H Q=>t Z H λ x H'=>∃k,aIL C.K x H' k/\Q k H',λ i=>by rw[<-C.hK i];exact aC7 (h1 i) (he i),λ τ Z H Y lab Q R W=>h2 τ Z H Y lab _ R (W.bd.imp λ d _ w x H1 s1 r1=>?_)⟩;cases r1 with
 |non=>exact⟨false,rfl,w H1 s1⟩
 |bl b=>exact⟨b,rfl,w H1 s1⟩
 |int i=>exact⟨i !=0,rfl,w H1 s1⟩
 |tup h r=>exact⟨_,.inr (.inl ⟨_,h,rfl⟩),by rw[<-sW r];exact w H1 s1⟩
 |lst h m r=>exact⟨_,.inl ⟨_,SqL.of h,rfl⟩,by rw[<-sW r];exact w H1 s1⟩
 |_=>exact zAH w
def aEJ{K:zAA}{G:Gx}{t:TE}{f:En->Rs D}(h:ie K G m t f):aBq K G (aFm t) (tsb f):=λ τ Z H Y lab Q R W=>h τ Z H Y lab _ R (W.bd.imp λ d _ w x H1 s1 r1=>by
 cases r1 with
 |bl b=>exact⟨b,rfl,w H1 s1⟩
 |_=>exact zAH w)
def mC(ro:∀i,OpR (C.X i) (zAk op) r)(hs:OpS C.K r fd)(ha:SE C m1 a fa)(hb:SE C m2 b fb)(hm:zC3 op b=false:=by first|exact aCr _|(with_unfolding_all rfl)):
  ST C (.Compare a [op] [b] pos) (tsb (op2 fd fa fb)):=by
 obtain⟨t,h1,h2⟩:=ha;obtain⟨u,k1,k2⟩:=hb;exact⟨_,λ i=>aE6 (ro i) (h1 i) (k1 i) hm,aEJ (vR hs h2 k2)⟩
variable{ga gb:En->Rs Bool}
def aDi(f g:En->Rs Bool):En->Rs Bool:=λ Y=>(f Y).bd λ k=>if k=true then g Y else .ok false
def orT(f g:En->Rs Bool):En->Rs Bool:=λ Y=>(f Y).bd λ k=>if k=true then .ok true else g Y
def qT(f:En->Rs Bool):En->Rs Bool:=λ Y=>(f Y).bd λ k=>.ok (!k)
def aAW(ha:ST C a ga):SW C (.BoolOp .And [a] pos) ga:=let⟨t,h1,h2⟩:=ha;⟨t,λ i=>aE4 (h1 i),h2⟩
def vN(ha:ST C a ga):SW C (.BoolOp .Or [a] pos) ga:=let⟨t,h1,h2⟩:=ha;⟨t,λ i=>aGm (h1 i),h2⟩
def aCE(ha:ST C a ga)(hb:SW C (.BoolOp .And (b::rest) pos) gb):SW C (.BoolOp .And (a::b::rest) pos) (aDi ga gb):=by
 obtain⟨t,h1,h2⟩:=ha;obtain⟨u,k1,k2⟩:=hb;refine⟨_,λ i=>aGn (h1 i) (k1 i),λ τ Z H Y lab Q R W=>h2 τ Z H Y lab _ R (W.bd.imp λ k _ w H1 s1=>?_)⟩;cases k with
 |true=>
  rw[if_pos rfl]at w ⊢;exact k2 τ Z H1 Y lab Q (R.up s1) (w.imp λ z _ w H' s=>w H' (s1.trans s))
 |false=>
  rw[if_neg zA8]at w ⊢;exact w H1 s1
def aAV(ha:ST C a ga)(hb:SW C (.BoolOp .Or (b::rest) pos) gb):SW C (.BoolOp .Or (a::b::rest) pos) (orT ga gb):=by
 obtain⟨t,h1,h2⟩:=ha;obtain⟨u,k1,k2⟩:=hb;refine⟨_,λ i=>aIg (h1 i) (k1 i),λ τ Z H Y lab Q R W=>h2 τ Z H Y lab _ R (W.bd.imp λ k _ w H1 s1=>?_)⟩;cases k with
 |false=>
  rw[if_neg zA8]at w ⊢;exact k2 τ Z H1 Y lab Q (R.up s1) (w.imp λ z _ w H' s=>w H' (s1.trans s))
 |true=>
  rw[if_pos rfl]at w ⊢;exact w H1 s1
def lz(ha:ST C a ga):ST C (.UnaryOp .Not a pos) (qT ga):=by
 obtain⟨t,h1,h2⟩:=ha;exact⟨_,λ i=>aGp (h1 i),λ τ Z H Y lab Q R W=>h2 τ Z H Y lab _ R (W.bd.imp λ k _ w H1 s1=>w H1 s1)⟩
end
inductive Ou where
 |nx (Y:En)|rt (d:D)|bk (Y:En)|ct (Y:En)|ex (c:Str)|st
noncomputable def Rs.bo{α:Type}:Rs α->(α->Ou)->Ou
 | .ok a,f=>f a
 | .ex c,_=>.ex c
 | .st,_=>.st
@[simp] def bh(a:α)(f:α->Ou):(Rs.ok a).bo f=f a:=aO rfl
noncomputable def Ou.sq:Ou->(En->Ou)->Ou
 | .nx Y,f=>f Y
 |o,_=>o
@[simp] def ak(Y:En)(f:En->Ou):(Ou.nx Y).sq f=f Y:=aO rfl
@[simp] def sq_rt(d:D)(f:En->Ou):(Ou.rt d).sq f= .rt d:=aO rfl
def WS(K:zAA)(G:Gx)(τ:List (V×D))(o:Ou)(De:Ends):Prop:=match o with
 | .nx Y=>∀Z H lab,RR K G τ Y Z H lab->De.nx Z H
 | .bk Y=>∀Z H lab,RR K G τ Y Z H lab->De.bk Z H
 | .ct Y=>∀Z H lab,RR K G τ Y Z H lab->De.ct Z H
 | .rt d=>∀v H,aQ G.H0 H->Rp K (λ p=>G.H0 p=none) H v d->De.rt v H
 | .ex c=>∀H',aQ G.H0 H'->G.E (.ref (G.cl c)) none H'
 | .st=>False
theorem WS.bo{K:zAA}(h:WS K G τ (r.bo k) De):WR G r (λ a=>WS K G τ (k a) De):=by
 cases r with
 |ok a=>exact h
 |ex c=>exact h
 |st=>exact h
def aIO(K:zAA)(G:Gx)(t:TS)(f:En->Ou):Prop:=∀τ Z H Y lab (De:Ends),RR K G τ Y Z H lab->WS K G τ (f Y) De->t De Z H
def SS(C:Ct)(s:Stmt)(f:En->Ou):Prop:=∃t,(∀i,PS (C.X i) s t)/\aIO C.K C.G t f
def SSs(C:Ct)(s:List Stmt)(f:En->Ou):Prop:=∃t,(∀i,PSs (C.X i) s t)/\aIO C.K C.G t f
section
variable{C:Ct}{pos:Pos}{s:Stmt}{ss:List Stmt}{f g:En->Ou}{e:Expr}{m:Mode}{fe:En->Rs D}
def dC:SSs C [] .nx:=⟨_,λ _=>aE8,λ τ Z H Y lab De R W=>W Z H lab R⟩
def az(f g:En->Ou):En->Ou:=λ Y=>(f Y).sq g
def aN(h:SS C s f):SSs C [s] f:=let⟨t,h1,h2⟩:=h;⟨t,λ i=>aE7 (h1 i),h2⟩
def aH(h:SS C s f)(k:SSs C ss g):SSs C (s::ss) (az f g):=by
 obtain⟨t,h1,h2⟩:=h;obtain⟨u,k1,k2⟩:=k;refine⟨_,λ i=>aC8 (h1 i) (k1 i),λ τ Z H Y lab De R W=>h2 τ Z H Y lab _ R ?_⟩;unfold az at W;cases h:f Y with
 |nx Y'=>rw[h]at W;exact λ Z' H' lab' R'=>k2 τ Z' H' Y' lab' De R' W
 |rt d=>rw[h]at W;exact W
 |bk Y'=>rw[h]at W;exact W
 |ct Y'=>rw[h]at W;exact W
 |ex c=>rw[h]at W;exact W
 |st=>rw[h]at W;exact W
def frz(i:Nat)(Y:En):En:=match Y[i]? with
 |some (.ow d)=>Y.set i (.nw d)
 |some (.o2 l)=>Y.set i (.nw (.lst (l.map .lst)))
 |_=>Y
def aIr:Mode->Bool
 |some L=>L.all (·!=0)
 |none=>false
def retS(fe:En->Rs D):En->Ou:=λ Y=>(fe Y).bo .rt
def bD(he:SE C m e fe)(hm:aIr m=true:=by rfl):SS C (.Return (some e) pos) (retS fe):=by
 obtain⟨t,h1,h2⟩:=he;refine⟨_,λ i=>aGq (h1 i),λ τ Z H Y lab De R W=>h2 τ Z H Y lab _ R (W.bo.imp λ d _ w v H' s r=>w v H' (R.old.trans s) (r.wk λ p o _ z=>?_))⟩;rcases z with z|z
 .exact R.old.free z
 .cases m with
  |none=>cases hm
  |some L=>
   refine R.new p λ e0=>?_
   have:=zB9.mp hm _ z
   rw[e0]at this;simp at this
def qH(fe:En->Rs D):En->Ou:=λ Y=>(fe Y).bo λ _=>.nx Y
def vO(he:SE C m e fe)(hs:∀i,zBy e none pos.line (C.X i).env=pure false:=by intro _;rfl):SS C (.Expr e pos) (qH fe):=by
 obtain⟨t,h1,h2⟩:=he;exact⟨_,λ i=>kW (h1 i) (hs i),λ τ Z H Y lab De R W=>h2 τ Z H Y lab _ R (W.bo.imp λ d _ w v H' s r=>w Z H' lab (R.up s))⟩
def ifS(c:En->Rs Bool)(f g:En->Ou):En->Ou:=λ Y=>(c Y).bo λ k=>if k=true then f Y else g Y
def jH{a b:List Stmt}(hc:ST C c fc)(ha:SSs C a f)(hb:SSs C b g):SS C (.If c a b pos) (ifS fc f g):=by
 obtain⟨tc,c1,c2⟩:=hc;obtain⟨t,h1,h2⟩:=ha;obtain⟨u,k1,k2⟩:=hb;refine⟨_,λ i=>aIh (c1 i) (h1 i) (k1 i),λ τ Z H Y lab De R W=>c2 τ Z H Y lab _ R (W.bo.imp λ k _ w H1 s1=>?_)⟩;cases k with
 |true=>rw[if_pos rfl]at w ⊢;exact h2 τ Z H1 Y lab De (R.up s1) w
 |false=>rw[if_neg zA8]at w ⊢;exact k2 τ Z H1 Y lab De (R.up s1) w
def SV(C:Ct)(i:Nat)(s:Stmt)(m:Mode)(f:En->Rs D):Prop:=∃t,(∀j,PS (C.X j) s (aBB t (qD i)))/\ie C.K C.G m t f
def gU(he:SE C m e fe)(hN:∀j,(C.X j).N[i]? =some x:=by intro _;rfl)(hx:∀j,Loc (C.X j).env.scope x:=by intro _;first|exact zBi rfl|exact zBM rfl)(hs:∀j,zBy e (some (.Name x pos')) pos.line (C.X j).env=pure false:=by intro _;rfl)(hf:∀j,(C.X j).fn x=true\/(C.X j).env.scope.names.lookup x=some .local:=by intro _;first|exact .inl rfl|exact .inr rfl)(nd:∀j,(C.X j).N.Nodup:=by intro _;assumption):
  SV C i (.Assign [.Name x pos'] e pos) m fe:=by
 obtain⟨t,h1,h2⟩:=he;exact⟨t,λ j=>aCa (nd j) (hN j) (hx j) (h1 j) (hs j) (hf j),h2⟩
def SVF(C:Ct)(i:Nat)(s:Stmt)(m:Mode)(f:En->Rs D):Prop:=∃t,(∀j,PS (C.X j) s (aBB t (qD i)))/\aIR C.K C.G m t f
def qz(he:SF C m e fe)(hN:∀j,(C.X j).N[i]? =some x:=by intro _;rfl)(hx:∀j,Loc (C.X j).env.scope x:=by intro _;first|exact zBi rfl|exact zBM rfl)(hs:∀j,zBy e (some (.Name x pos')) pos.line (C.X j).env=pure false:=by intro _;rfl)(hf:∀j,(C.X j).fn x=true\/(C.X j).env.scope.names.lookup x=some .local:=by intro _;first|exact .inl rfl|exact .inr rfl)(nd:∀j,(C.X j).N.Nodup:=by intro _;assumption):
  SVF C i (.Assign [.Name x pos'] e pos) m fe:=by
 obtain⟨t,h1,h2⟩:=he;exact⟨t,λ j=>aCa (nd j) (hN j) (hx j) (h1 j) (hs j) (hf j),h2⟩
def aFq(h:SV C i s (some []) fe):SVF C i s (some []) fe:=let⟨t,h1,h2⟩:=h;⟨t,h1,h2.toF⟩
def aAb(P:Nat->Bool):Mode->Bool
 |some L=>L.all P
 |none=>false
def gY(h:aAb P m=true):∀k,inM m k->P k=true:=by
 intro k hk;cases m with
 |none=>cases h
 |some L=>exact zB9.mp h k hk
abbrev okS:Mode->Bool:=aAb λ k=>decide (k<=1)
abbrev okN:Mode->Bool:=aAb λ k=>k==1
abbrev okO(i:Nat):Mode->Bool:=aAb λ k=>k==1||k==i+2
def cU(i:Nat)(fe:En->Rs D):En->Ou:=λ Y=>(fe Y).bo λ d=>.nx (Y.set i (.sh d))
def tZ(i:Nat)(fe:En->Rs D):En->Ou:=λ Y=>(fe Y).bo λ d=>.nx (Y.set i (.nw d))
def jV(i:Nat)(fe:En->Rs D):En->Ou:=λ Y=>(fe Y).bo λ d=>.nx (Y.set i (.ow d))
def RR.shared{K:zAA}(hm:okS m=true)(R:RR K G τ Y Z H lab)(s:aQ H H')(r:Rp K (fpM m lab H) H' v d):
  RR K G τ Y Z H' (bC H 1 lab)/\Rp K (λ p=>(bC H 1 lab p).1<=1) H' v d:=R.fresh (P:=λ k=>k<=1) (by decide) (λ k hk=>of_decide_eq_true (gY hm k hk)) s r
def bK{i:Nat}(h:SV C i s m fe)(hm:okS m=true:=by rfl):SS C s (cU i fe):=by
 obtain⟨t,h1,h2⟩:=h;refine⟨_,h1,λ τ Z H Y lab De R W=>h2 τ Z H Y lab _ R (W.bo.imp λ d _ w v H' s r=>?_)⟩;obtain⟨R',r'⟩:=R.shared hm s r;exact w _ _ _ (R'.put (s:=.sh d) r')
def qd(h:SV C i s m fe)(hm:okN m=true:=by rfl):SS C s (tZ i fe):=by
 obtain⟨t,h1,h2⟩:=h;refine⟨_,h1,λ τ Z H Y lab De R W=>h2 τ Z H Y lab _ R (W.bo.imp λ d _ w v H' s r=>?_)⟩;obtain⟨R',r'⟩:=R.fresh (P:=λ k=>k=1) rfl (λ k hk=>beq_iff_eq.mp (gY hm k hk)) s r;exact w _ _ _ (R'.put (s:=.nw d) r')
def gW(h:SVF C i s m fe)(hm:okO i m=true:=by rfl):SS C s (jV i fe):=by
 obtain⟨t,h1,h2⟩:=h;refine⟨_,h1,λ τ Z H Y lab De R W=>h2 τ Z H Y lab _ R (W.bo.imp λ d _ w v H' s r ht=>?_)⟩;obtain⟨lab',R',r'⟩:=R.freshO i (λ k hk=>by have:=gY hm k hk;simpa using this) s r ht;exact w _ _ _ (R'.put (s:=.ow d) r')
def aIQ(K:zAA)(G:Gx)(g:TG)(fg:D->En->Rs En):Prop:=∀τ v d Z H Y lab (Q:L2.St->Hp->Prop) Y',RR K G τ Y Z H lab->Rp K (λ p=>(lab p).1<=1) H v d->fg d Y= .ok Y'->(∀Z',RR K G τ Y' Z' H lab->Q Z' H)->g v Z H Q
def aJG(K:zAA)(G:Gx)(g:TGs)(fg:List D->En->Rs En):Prop:=∀τ vs ds Z H Y lab (Q:L2.St->Hp->Prop) Y',RR K G τ Y Z H lab->Rps K (λ p=>(lab p).1<=1) H vs ds->fg ds Y= .ok Y'->(∀Z',RR K G τ Y' Z' H lab->Q Z' H)->g vs Z H Q
def SG(C:Ct)(tg:Expr)(ks:List Nat)(fg:D->En->Rs En):Prop:=∃g,(∀i,PG (C.X i) tg g)/\aIQ C.K C.G g fg/\tV g ks/\yf g
def SGs(C:Ct)(tg:List Expr)(ks:List Nat)(fg:List D->En->Rs En):Prop:=∃g,(∀i,PGs (C.X i) tg g)/\aJG C.K C.G g fg/\tU g ks/\pO g
def gnm(i:Nat):D->En->Rs En:=λ d Y=>.ok (Y.set i (.sh d))
def mV:List D->En->Rs En:=λ ds Y=>match ds with
 |[]=>.ok Y
 |_=>.st
def bz(f:D->En->Rs En)(g:List D->En->Rs En):List D->En->Rs En:=λ ds Y=>match ds with
 |d::r=>(f d Y).bd (g r)
 |_=>.st
def lJ(n:Nat)(g:List D->En->Rs En):D->En->Rs En:=λ d Y=>match d with
 | .tup ds=>if ds.length=n then g ds Y else .st
 |_=>.st
variable{ks:List Nat}{fg:D->En->Rs En}{fgs:List D->En->Rs En}{tg:Expr}{tgs:List Expr}
def cB(hN:∀j,(C.X j).N[i]? =some x:=by intro _;rfl)(hx:∀j,Loc (C.X j).env.scope x:=by intro _;first|exact zBi rfl|exact zBM rfl)(hf:∀j,(C.X j).fn x=true\/(C.X j).env.scope.names.lookup x=some .local:=by intro _;first|exact .inl rfl|exact .inr rfl)(nd:∀j,(C.X j).N.Nodup:=by intro _;assumption)(hk:i∈ks:=by decide):SG C (.Name x pos) ks (gnm i):=
 ⟨_,λ j=>aEd (nd j) (hN j) (hx j) (hf j),λ τ v d Z H Y lab Q Y' R r e q=>by cases e;exact q _ (R.put (s:=.sh d) r),aFT hk,aFV⟩
def vV:SGs C [] ks mV:=by
 refine⟨_,λ _=>aEc,λ τ vs ds Z H Y lab Q Y' R r e q=>?_,aFS,aFU⟩;cases r with
 |nil=>cases e;exact⟨rfl,q _ R⟩
 |cons _ _=>cases e
def jJ(h:SG C tg ks fg)(k:SGs C tgs ks fgs)(hs:∀i,(zC1 (tg::tgs) (C.X i).env).map (·.2)=zEN tg (C.X i).env::(zC1 tgs (C.X i).env).map (·.2):=by intro _;rfl):SGs C (tg::tgs) ks (bz fg fgs):=by
 obtain⟨g,h1,h2,h3,h4⟩:=h;obtain⟨u,k1,k2,k3,k4⟩:=k;refine⟨_,λ i=>aCd (h1 i) (k1 i) (hs i),λ τ vs ds Z H Y lab Q Y' R r e q=>?_,aDV h3 h4 k3 k4,aDX h4 k4⟩;cases r with
 |nil=>cases e
 |cons h r=>
  obtain⟨Y1,e1,e2⟩:=dB e;exact⟨_,_,rfl,h2 τ _ _ Z H Y lab _ Y1 R h e1 λ Z1 R1=>k2 τ _ _ Z1 H Y1 lab Q Y' R1 r e2 q⟩
def yu(h:SGs C tgs ks fgs)(hn:∀i,(zC1 tgs (C.X i).env).length=n:=by intro _;rfl)(hst:∀i,(zC1 tgs (C.X i).env).findIdx? (·.1)=none:=by intro _;rfl):SG C (.Tuple tgs k pos) ks (lJ n fgs):=by
 obtain⟨u,k1,k2,k3,k4⟩:=h;refine⟨aFW C.K n u,λ i=>by rw[<-C.hK i];exact aGw (C.calm i) (k1 i) (hn i) (hst i),λ τ v d Z H Y lab Q Y' R r e q=>?_,aHz k3,aIA k4⟩;cases r with
 |tup h r=>
  unfold lJ at e;dsimp only at e;split at e
  .rename_i hl
   exact⟨_,_,rfl,h,by rw[r.length];exact hl,k2 τ _ _ Z H Y lab Q Y' R r e q⟩
  .cases e
 |_=>cases e
def JL(K:zAA)(lab:Lab)(J:It)(H:Hp)(ds:List D):Prop:=∀i,(ds.length<=i->J.stop i H)/\(i<ds.length->J.go i H/\∀x H',J.yld i H x H'->aQ H H'/\∃d,ds[i]? =some d/\Rp K (λ p=>(lab p).1<=1) H' x d)
def aIP(K:zAA)(G:Gx)(wi:TI)(f:En->Rs (List D)):Prop:=∀τ Z H Y lab (Rr:It->Hp->Prop),RR K G τ Y Z H lab->
 WR G (f Y) (λ ds=>∀J H1 lab1 τ1,aQ H H1->(∀p o,H p=some o->lab1 p=lab p)->RR K G (τ1++τ) Y Z H1 lab1->(∀lab' H',(∀q∈τ1,Rp K (λ p=>(lab' p).1<=1) H' q.1 q.2)->JL K lab' J H' ds)->Rr J H1)->wi Z H Rr
def SI(C:Ct)(tg iter:Expr)(f:En->Rs (List D)):Prop:=∃wi,(∀i,PI (C.X i) tg iter wi)/\aIP C.K C.G wi f
def aIx(K:zAA)(tl:TE):TI:=λ Z H R=>tl Z H λ x H1=>∃a,x= .ref a/\(((∃xs,SqL K H1 a xs)/\R (Itl K a) H1)\/((∃xs,SqT K H1 a xs)/\R (Itt K a) H1))
def aGv(hl:PE X l tl):PI X tg l (aIx X.K tl):=by
 intro hV s Z H R I h;refine thn (hl hV s Z H _ I h) λ v s1 ⟨x,H1,I1,r1,a,e,q1⟩=>?_
 subst e;cases r1;have hp:∀b∈[s1.heap.objs.size],j9 X hV H1 b:=λ b hb=>by
  have e:b=s1.heap.objs.size:=by simpa using hb
  rw[e];exact I1.fpOk (zAT _) (I1.hok.fresh (zAT _))
 rcases q1 with ⟨⟨xs,hq⟩,q⟩|⟨⟨xs,hq⟩,q⟩
 .obtain⟨its,rv,p,hz⟩:=I1.list hq
  refine zD7 p.isList ?_;exact⟨_,_,_,_,H1,rfl,I1.kept (t':=s1.toks) λ b o e=>zAF _ e,aAz a _,⟨_,zAW _ rfl,rfl,rfl⟩,hp,q⟩
 .obtain⟨its,rv,p,hz⟩:=I1.tuple hq
  refine wpAny_pyIter_tuple (show s1.heap.IsTuple a its.toArray from p) ?_;exact⟨_,_,_,_,H1,rfl,I1.kept (t':=s1.toks) λ b o e=>zAF _ e,yo a _,⟨_,zAW _ rfl,rfl,rfl⟩,hp,q⟩
def itD:D->Rs (List D)
 | .tup l=>.ok l
 | .lst l=>.ok l
 | .scr l=>.ok (l.map .int)
 |_=>.st
def gB(fe:En->Rs D):En->Rs (List D):=λ Y=>(fe Y).bd itD
def aAk{K:zAA}(h:SqL K H a xs)(r:Rps K (λ p=>(lab p).1<=1) H xs ds):JL K lab (Itl K a) H ds:=by
 have hl:=r.length;refine λ i=>⟨λ hi=>⟨xs,h,by lia⟩,λ hi=>⟨⟨xs,xs[i]'(by lia),h,by simp[hl,hi]⟩,λ x H' y=>?_⟩⟩
 obtain⟨e,y⟩:=y;subst e;obtain⟨d,h1,h2⟩:=r.get (y xs h);exact⟨aQ.refl _,d,h1,h2⟩
def aHp{K:zAA}(h:SqT K H a xs)(r:Rps K (λ p=>(lab p).1<=1) H xs ds):JL K lab (Itt K a) H ds:=by
 have hl:=r.length;refine λ i=>⟨λ hi=>⟨xs,h,by lia⟩,λ hi=>⟨⟨xs,xs[i]'(by lia),h,by simp[hl,hi]⟩,λ x H' y=>?_⟩⟩
 obtain⟨e,y⟩:=y;subst e;obtain⟨d,h1,h2⟩:=r.get (y xs h);exact⟨aQ.refl _,d,h1,h2⟩
def gJ(he:SE C m e fe)(hm:okS m=true:=by rfl):SI C tg e (gB fe):=by
 obtain⟨t,p1,p2⟩:=he;refine⟨aIx C.K t,λ i=>by rw[<-C.hK i];exact aGv (p1 i),λ τ Z H Y lab Rr R W=>p2 τ Z H Y lab _ R (W.bd.imp λ d _ w v H1 s r=>?_)⟩;obtain⟨R',r'⟩:=R.shared hm s r;cases d with
 |tup l=>
  cases r' with
  |tup h q=>
   rename_i a xs;refine⟨_,rfl,.inr ⟨⟨_,h⟩,w _ H1 _ [(.ref a,.tup l)] s (λ p o e=>aZ e) ⟨R'.len,R'.sl,R'.old,R'.new,λ z hz=>?_⟩ λ lab' H' hq=>?_⟩⟩
   .rcases zAV.mp hz with rfl|hz
    .exact .tup h q
    .exact R'.tm z hz
   .have z:=hq _ (zAP ..)
    cases z with
    |tup h' q'=>exact aHp h' q'
 |lst l=>
  cases r' with
  |lst h mm q=>
   rename_i a xs;refine⟨_,rfl,.inl ⟨⟨_,SqL.of h⟩,w _ H1 _ [(.ref a,.lst l)] s (λ p o e=>aZ e) ⟨R'.len,R'.sl,R'.old,R'.new,λ z hz=>?_⟩ λ lab' H' hq=>?_⟩⟩
   .rcases zAV.mp hz with rfl|hz
    .exact .lst h mm q
    .exact R'.tm z hz
   .have z:=hq _ (zAP ..)
    cases z with
    |lst h' _ q'=>exact aAk (SqL.of h') (q'.wk λ _ _ _ z=>z.1)
 |scr l=>
  cases r' with
  |scr h=>
   rename_i a;refine⟨_,rfl,.inl ⟨⟨_,h.sq⟩,w _ H1 _ [(.ref a,.scr l)] s (λ p o e=>aZ e) ⟨R'.len,R'.sl,R'.old,R'.new,λ z hz=>?_⟩ λ lab' H' hq=>?_⟩⟩
   .rcases zAV.mp hz with rfl|hz
    .exact .scr h
    .exact R'.tm z hz
   .have z:=hq _ (zAP ..)
    cases z with
    |scr h'=>exact aAk h'.sq Rps.ints
 |_=>exact zAH w
end
section
variable{C:Ct}{pos:Pos}{s:Stmt}{ss:List Stmt}{f:En->Ou}{e a b:Expr}{es:List Expr}{m:Mode}{fa:En->Rs D}{ks:List Nat}{fg:D->En->Rs En}{tg:Expr}{fi:En->Rs (List D)}{ga:En->Rs (List D)}
def cN(lo hi:Int):List D:=(zAp (hi-lo).toNat).map λ(k:Nat)=>.int (lo+(k:Int))
def fJ:List D->Rs (List D)
 |[.int j]=>if -(2^62)<=j/\j<2^62 then .ok (cN 0 j)else .st
 |_=>.st
def uB:List D->Rs (List D)
 |[.int i,.int j]=>if (-(2^62)<=i/\i<2^62)/\(-(2^62)<=j/\j<2^62)then .ok (cN i j)else .st
 |_=>.st
def dm(r:List D->Rs (List D))(ga:En->Rs (List D)):En->Rs (List D):=λ Y=>(ga Y).bd r
def aDH{K:zAA}{lo hi:Int}:JL K lab (Itr lo (hi-lo).toNat) H (cN lo hi):=by
 have hl:(cN lo hi).length=(hi-lo).toNat:=by unfold cN;simp
 refine λ i=>⟨λ h=>by show(hi-lo).toNat<=i;lia,λ h=>⟨by show i<(hi-lo).toNat;lia,λ x H' y=>?_⟩⟩
 obtain⟨e,rfl⟩:=y;subst e;refine⟨aQ.refl _,.int (lo+i),?_,.int _⟩;unfold cN;rw[zAL,zBr (by lia)];rfl
def dD(ha:SA C m [a] ga)(hm:C.mg "range"=none)(hs:∀i,zAS [a] (C.X i).env=[(false,eval a (C.X i).env)]:=by intro _;rfl)(hg:∀i,Gl (C.X i) "range":=by intro _;rfl):SI C tg (.Call (.Name "range" p) [a] [] pos) (dm fJ ga):=by
 obtain⟨t,h1,h2⟩:=ha;refine⟨_,λ i=>aBM (hg i) (by rw[(C.cx i).2.2.2.1];exact hm) (h1 i) (hs i),λ τ Z H Y lab Rr R W=>h2 τ Z H Y lab _ R (W.bd.imp λ ds _ w vs H1 s r=>?_)⟩;unfold fJ at w;split at w
 .rename_i j _
  split at w
  .rename_i hj
   cases r with
   |cons h r=>
    cases h;cases r;refine⟨j,rfl,hj.1,hj.2,?_⟩;have z:=w (Itr 0 (j-0).toNat) H1 lab [] s (λ _ _ _=>rfl) (R.up s) λ lab' H' _=>aDH
    rwa [Int.sub_zero]at z
  .exact zAH w
 .exact zAH w
def vU(ha:SA C m [a,b] ga)(hm:C.mg "range"=none)(hs:∀i,zAS [a,b] (C.X i).env=[(false,eval a (C.X i).env),(false,eval b (C.X i).env)]:=by intro _;rfl)(hs2:∀i,zAS [b] (C.X i).env=[(false,eval b (C.X i).env)]:=by intro _;rfl)(hg:∀i,Gl (C.X i) "range":=by intro _;rfl):SI C tg (.Call (.Name "range" p) [a,b] [] pos) (dm uB ga):=by
 obtain⟨t,h1,h2⟩:=ha;refine⟨_,λ i=>aBL (hg i) (by rw[(C.cx i).2.2.2.1];exact hm) (h1 i) (hs i) (hs2 i),λ τ Z H Y lab Rr R W=>h2 τ Z H Y lab _ R (W.bd.imp λ ds _ w vs H1 s r=>?_)⟩;unfold uB at w;split at w
 .rename_i i j _
  split at w
  .rename_i hj
   cases r with
   |cons h r=>
    cases h;cases r with
    |cons h r=>
     cases h;cases r;exact⟨i,j,rfl,⟨hj.1.1,hj.1.2,hj.2.1,hj.2.2⟩,w (Itr i (j-i).toNat) H1 lab [] s (λ _ _ _=>rfl) (R.up s) λ lab' H' _=>aDH⟩
  .exact zAH w
 .exact zAH w
def forL(fg:D->En->Rs En)(b:En->Ou):List D->En->Ou
 |[],Y=>.nx Y
 |d::ds,Y=>match fg d Y with
  | .ok Y1=>match b Y1 with
   | .nx Y2=>forL fg b ds Y2
   | .ct Y2=>forL fg b ds Y2
   | .bk Y2=>.nx Y2
   |o=>o
  |_=>.st
def j7(fi:En->Rs (List D))(fg:D->En->Rs En)(b:En->Ou):En->Ou:=λ Y=>(fi Y).bo λ ds=>forL fg b ds Y
def fH(hi:SI C tg e fi)(hg:SG C tg ks fg)(hb:SSs C ss f)(hs:∀i,∀x,zBx e (C.X i).env x=pure x:=by intro _ _;rfl):SS C (.For tg e ss [] pos) (j7 fi fg f):=by
 obtain⟨wi,i1,i2⟩:=hi;obtain⟨gg,g1,g2,_,g4⟩:=hg;obtain⟨tb,b1,b2⟩:=hb;refine⟨_,λ i=>aGr (C.own i) (C.calm i) (i1 i) (g1 i) (b1 i) (hs i),λ τ Z H Y lab De R W=>i2 τ Z H Y lab _ R (W.bo.imp λ ds _ w J H1 lab1 τ1 s1 _ R1 jl=>?_)⟩;refine⟨λ i n Z' H'=>∃Y' lab',RR C.K C.G (τ1++τ) Y' Z' H' lab'/\n=ds.length-i/\i<=ds.length/\WS C.K C.G τ (forL fg f (ds.drop i) Y') De,⟨ds.length,Y,lab1,R1,by lia,by lia,w⟩,?_⟩;rintro i n Z' H' ⟨Y',lab',R',rfl,hi,w'⟩;have jj:=jl lab' H' λ q hq=>R'.tm q (zAh _ hq)
 by_cases hlt:i<ds.length
 .obtain⟨go,yl⟩:=(jj i).2 hlt
  refine .inr ⟨go,λ Z2 H2=>∃Y2 lab2,RR C.K C.G (τ1++τ) Y2 Z2 H2 lab2/\WS C.K C.G τ (forL fg f (ds.drop (i+1)) Y2) De,λ Z2 H2 ⟨Y2,lab2,R2,w2⟩=>⟨ds.length-(i+1),by lia,Y2,lab2,R2,rfl,hlt,w2⟩,λ x H2 hy=>?_⟩;obtain⟨s2,d,ed,rx⟩:=yl x H2 hy;replace R':=R'.up s2;have ed2:ds.drop i=d::ds.drop (i+1):=by
   rw[zCX hlt]
   have:=zAD hlt
   rw[ed]at this;cases this;rfl
  rw[ed2]at w';unfold forL at w';cases eg:fg d Y' with
  |ex c=>rw[eg]at w';exact zAH w'
  |st=>rw[eg]at w';exact zAH w'
  |ok Y1=>
   rw[eg]at w';refine g2 (τ1++τ) x d Z' H2 Y' lab' _ Y1 R' rx eg λ Z1 R1'=>b2 (τ1++τ) Z1 H2 Y1 lab' _ R1' ?_
   dsimp only at w';cases eb:f Y1 with
   |nx Y2=>rw[eb]at w';exact λ Z2 H3 lab2 R2=>⟨Y2,lab2,R2,w'⟩
   |ct Y2=>rw[eb]at w';exact λ Z2 H3 lab2 R2=>⟨Y2,lab2,R2,w'⟩
   |bk Y2=>rw[eb]at w';exact λ Z2 H3 lab2 R2=>w' Z2 H3 lab2 R2.drop
   |rt d=>rw[eb]at w';exact w'
   |ex c=>rw[eb]at w';exact w'
   |st=>rw[eb]at w';exact w'
 .have e:i=ds.length:=by lia
  subst e;rw[zFz]at w';exact .inl ⟨(jj _).1 (zAT _),w' Z' H' lab' R'.drop⟩
def itW(c:En->Rs Bool)(b:En->Ou):Nat->En->Ou
 |0,_=>.st
 |n+1,Y=>(c Y).bo λ k=>if k=true then(match b Y with
   | .nx Y2=>itW c b n Y2
   | .ct Y2=>itW c b n Y2
   | .bk Y2=>.nx Y2
   |o=>o)else .nx Y
def fuel:Nat:=1000000
def vK(c:En->Rs Bool)(b:En->Ou):En->Ou:=itW c b fuel
def wZ(hc:ST C c fc)(hb:SSs C ss f):SS C (.While c ss [] pos) (vK fc f):=by
 obtain⟨tc,c1,c2⟩:=hc;obtain⟨tb,b1,b2⟩:=hb;refine⟨_,λ i=>aC9 (C.own i) (c1 i) (b1 i),λ τ Z H Y lab De R W=>?_⟩;refine⟨λ n Z' H'=>∃Y' lab',RR C.K C.G τ Y' Z' H' lab'/\WS C.K C.G τ (itW fc f n Y') De,⟨fuel,Y,lab,R,W⟩,?_⟩;rintro n Z' H' ⟨Y',lab',R',w'⟩;cases n with
 |zero=>exact zAH w'
 |succ n=>
  refine c2 τ Z' H' Y' lab' _ R' (WS.bo (show WS C.K C.G τ ((fc Y').bo _) De from w') |>.imp λ k _ w H1 s1=>?_);cases k with
  |false=>
   rw[if_neg zA8]at w ⊢;exact w Z' H1 lab' (R'.up s1)
  |true=>
   rw[if_pos rfl]at w ⊢;refine⟨λ Z2 H2=>∃Y2 lab2,RR C.K C.G τ Y2 Z2 H2 lab2/\WS C.K C.G τ (itW fc f n Y2) De,λ Z2 H2 ⟨Y2,lab2,R2,w2⟩=>⟨n,zBX n,Y2,lab2,R2,w2⟩,?_⟩;refine b2 τ Z' H1 Y' lab' _ (R'.up s1) ?_;cases eb:f Y' with
   |nx Y2=>rw[eb]at w;exact λ Z2 H3 lab2 R2=>⟨Y2,lab2,R2,w⟩
   |ct Y2=>rw[eb]at w;exact λ Z2 H3 lab2 R2=>⟨Y2,lab2,R2,w⟩
   |bk Y2=>rw[eb]at w;exact w
   |rt d=>rw[eb]at w;exact w
   |ex c=>rw[eb]at w;exact w
   |st=>rw[eb]at w;exact w
def rM(x:Str)(ga:En->Rs (List D)):En->Ou:=λ Y=>(ga Y).bo λ ds=>if ds.length<=zAN then .ex x else .st
def w5{rest:List Expr}(hd:C.dOk=true)(hm:C.mg x=some (.ref Ca))(hcl:C.G.cl x=Ca)(hC:m8 C.K Ca)(ha:SA C m (y8::rest) ga)(he:∀i,zAS (y8::rest) (C.X i).env=(false,eval y8 (C.X i).env)::zAS rest (C.X i).env:=by intro _;rfl)(hplain:∀i,(zBg cpos (zAS rest (C.X i).env)).any (·.1)=false:=by intro _;rfl)(hdb:Nd x:=by decide)(hg:∀i,Gl (C.X i) x:=by intro _;rfl):SS C (.Raise (some (.Call (.Name x np) (y8::rest) [] cpos)) none pos) (rM x ga):=by
 obtain⟨t,h1,h2⟩:=ha;refine⟨_,λ i=>aCb (C.dcx hd i) (C.calm i) (by rw[(C.cx i).2.2.2.1];exact hm) (by rw[C.hK i];exact hC) (hg i) (h1 i) (he i) (hplain i) hdb,λ τ Z H Y lab De R W=>h2 τ Z H Y lab _ R (W.bo.imp λ ds _ w vs H1 s r=>?_)⟩;by_cases hz:ds.length<=zAN
 .rw[if_pos hz]at w
  refine⟨by rw[r.length];exact hz,?_⟩
  have:=w H1 (R.old.trans s)
  rwa [hcl]at this
 .rw[if_neg hz]at w
  exact zAH w
def spF(K:zAA)(cl:Str->Addr)(n:Nat)(F:List D->Rs D):Sp:=λ vs H Q E=>∃ds,vs.length=n/\Rps K (λ _=>True) H vs ds/\WR ⟨H,E,cl⟩ (F ds) (λ d=>∀v H',aQ H H'->Rp K (λ p=>H p=none) H' v d->Q v H')
def aU(F:List D->Rs D)(ga:En->Rs (List D)):En->Rs D:=λ Y=>(ga Y).bd F
def aCM{K:zAA}(hn:∀Y ds,ga Y= .ok ds->ds.length=n)(h:aFd K G m t ga):ie K G (some []) (aCD (spF K G.cl n F) [] G.E t) (aU F ga):=by
 intro τ Z H Y lab Q R W;refine h τ Z H Y lab _ R (W.bd.imp λ ds eds w vs H1 s r=>⟨ds,by rw[zAv,r.length];exact hn Y ds eds,by rw[zAv];exact r.wk λ _ _ _ _=>trivial,?_⟩);cases hF:F ds with
 |ok d=>
  rw[hF]at w;exact λ v H' s' r'=>w v H' (s.trans s') (r'.wk λ p o _ z=>.inl (s.free z))
 |ex c=>rw[hF]at w;exact λ H' s'=>w H' ((R.old.trans s).trans s')
 |st=>rw[hF]at w;exact w
variable{k:Nat}{fn:Addr}{fd:zAa}{ps:List Str}{x:Str}{p:Pos}{F:List D->Rs D}{n:Nat}
def aEX(hF:bj C.prog C.w C.K C.mg C.base (CX1 C.prog C.w) k fn fd ps (spF C.K C.G.cl n F))(hr:k<=C.k)(hm:C.mg x=some (.ref fn))(hk:zCd C.K (.ref fn)=true)(hb:Binds C.K fd ps [])(ha:SA C m (e::es) ga)(hn:∀Y ds,ga Y= .ok ds->ds.length=n)(hdb:Nd x:=by decide)(he:∀i,zAS (e::es) (C.X i).env=(false,eval e (C.X i).env)::zAS es (C.X i).env:=by intro _;rfl)(hpl:∀i,(zBg pos (zAS es (C.X i).env)).any (·.1)=false:=by intro _;rfl)(hg:∀i,Gl (C.X i) x:=by intro _;rfl):SE C (some []) (.Call (.Name x p) (e::es) [] pos) (aU F ga):=by
 obtain⟨t,h1,h2⟩:=ha;refine⟨_,λ i=>?_,aCM hn h2⟩;obtain⟨e1,e2,e3,e4,e5⟩:=C.cx i;refine aA8 (CX:=CX1 (C.X i).prog (C.X i).w) (by rw[e1,e2,e3,e4,e5];exact hF) ((C.room i).mono hr) (hg i) (by rw[e4];exact hm) (by rw[e3];exact hk) (by rw[e3];exact hb) .nil (C.pass i) (h1 i) hdb (he i) (hpl i)
def aAh(h:aG Y= .ok ds):ds.length=0:=by cases h;rfl
def xu(h:∀Y ds,ga Y= .ok ds->ds.length=n):∀Y ds,aB fa ga Y= .ok ds->ds.length=n+1:=λ Y ds e=>by
 obtain⟨d,_,e⟩:=dB e;obtain⟨r,er,e⟩:=dB e;cases e;rw[zA2,h Y r er]
end
def aq(mg:Str->Option Value):Str->Addr:=λ x=>match mg x with
 |some (.ref a)=>a
 |_=>0
abbrev ctD(P:zAO)(w:World)(K:zAA)(mg:Str->Option Value)(base:Heap)(N:List Str)(q:Str)(sc:Scope)(f:Addr)(cdv:Value)(A:zA3)(outer:List Env)(s:zAC)(H:Hp)(E:XK)(k:Nat)(hr:fD k (A.deeper (zDm q sc s.heap.objs.size f cdv))):Ct where
 ι:=Unit
 X:=λ _=>yP (CX1 P w) P w K mg base N q sc f cdv A outer s H E
 prog:=P
 w:=w
 K:=K
 mg:=mg
 base:=base
 k:=k
 G:=⟨H,E,aq mg⟩
 cx:=λ _=>⟨rfl,rfl,rfl,rfl,rfl⟩
 calm:=λ _=>rfl
 room:=λ _=>hr
 own:=λ _=>dM.own dM.of
 pass:=λ _=>dM.pass dM.of
 dOk:=true
 dcx:=λ _ _=>dM.of
def ao(n:Nat)(ds:List D):En:=ds.map .sh++zAJ (n-ds.length) .no
def dU(n:Nat)(f:En->Ou):List D->Rs D:=λ ds=>match f (ao n ds)with
 | .nx _=>.ok .non
 | .rt d=>.ok d
 | .ex c=>.ex c
 |_=>.st
theorem RR.start{K:zAA}(r:Rps K (λ _=>True) H vs ds):RR K ⟨H,E,cl⟩ [] (ao N.length ds) (start N vs) H (λ _=>(0,0)):=by
 have hl:=r.length;refine⟨by unfold ao L2.start;simp[hl],λ i s e=>?_,aQ.refl H,λ p hp=>absurd rfl hp,λ q hq=>by cases hq⟩;unfold ao at e;by_cases hi:i<ds.length
 .rw[zBG (by simpa using hi),zAL]at e
  cases ed:ds[i]? with
  |none=>rw[ed]at e;cases e
  |some d=>
   rw[ed]at e;cases e;obtain⟨x,ex,rx⟩:=r.getD ed;refine .inr ⟨x,?_,rx.wk λ _ _ _ _=>zAo _⟩;unfold L2.start;rw[zBG (by simpa[hl]using hi),zAL,ex];rfl
 .rw[zEc (by simpa using hi),zBs]at e
  split at e
  .cases e;exact .inl rfl
  .cases e
section
variable{P:zAO}{w:World}{K:zAA}{mg:Str->Option Value}{base:Heap}
def aID{x q:Str}{st:Stmt}(F:L2.Fun K x q st fn fd)(S:aY N ps (aM st))
  (hb:∀cdv A outer s H E hr,SSs (ctD P w K mg base N q (aM st) fn cdv A outer s H E k hr) (dh st) f):
  bj P w K mg base (CX1 P w) (k+1) fn fd ps (spF K (aq mg) ps.length (dU N.length f)):=by
 refine F.okX S (λ vs H Q E ⟨ds,hl,_⟩=>hl) λ cdv A outer s H vs Q E hr ⟨ds,hl,r,W⟩=>?_
 obtain⟨t,h1,h2⟩:=hb cdv A outer s H E hr;refine⟨t,h1 (),h2 [] _ H _ _ _ (RR.start r) ?_⟩;unfold dU at W;cases e:f (ao N.length ds)with
 |nx Y=>rw[e]at W;exact λ Z' H' lab R=>W .non H' R.old .non
 |rt d=>rw[e]at W;exact λ v H' s r=>W v H' s r
 |ex c=>rw[e]at W;exact W
 |bk Y=>rw[e]at W;exact zAH W
 |ct Y=>rw[e]at W;exact zAH W
 |st=>rw[e]at W;exact zAH W
def aFY{st:Stmt}(F:L2.Fun K x q st fn fd)(S:aY N ps (aM st))
  (hb:∀cdv A outer s H E hr,SSs (ctD P w K mg base N q (aM st) fn cdv A outer s H E k hr) (dh st) f)(hn:ps.length=n)(hF:dU N.length f=FF):
  bj P w K mg base (CX1 P w) (k+1) fn fd ps (spF K (aq mg) n FF):=by
 subst hn hF;exact aID F S hb
end
def OpR.or(h:OpR X f r)(h':OpR X f r'):OpR X f (λ x y H Q=>r x y H Q\/r' x y H Q):=by
 intro hV s Z H x y v u Q I rx ry q;rcases q with q|q
 .exact h hV s Z H x y v u Q I rx ry q
 .exact h' hV s Z H x y v u Q I rx ry q
def OpS.or{K:zAA}(h:OpS K r fd)(h':OpS K r' fd'):OpS K (λ x y H Q=>r x y H Q\/r' x y H Q) (λ d e=>match fd d e with
  | .ok z=>.ok z
  |_=>fd' d e):=by
 intro A x y d e H Q z rx ry ez q;dsimp only at ez;cases hd:fd d e with
 |ok w=>rw[hd]at ez;cases ez;exact .inl (h A x y d e H Q _ rx ry hd q)
 |ex c=>rw[hd]at ez;exact .inr (h' A x y d e H Q z rx ry ez q)
 |st=>rw[hd]at ez;exact .inr (h' A x y d e H Q z rx ry ez q)
section
variable{K:zAA}
def i2(p:Int->Int->Bool)(g:Int->Int->D):D->D->Rs D
 | .int i,.int j=>if p i j=true then .ok (g i j)else .st
 |_,_=>.st
def zT{g:Int->Int->Int}(hp:∀i j,p i j=true->c i j):OpS K (rI c λ i j=>.int (g i j)) (i2 p λ i j=>.int (g i j)):=by
 intro A x y d e H Q z rx ry ez q;unfold i2 at ez;split at ez
 .rename_i i j
  split at ez
  .rename_i h
   cases ez;obtain rfl:=rx.int_inv;obtain rfl:=ry.int_inv;exact⟨i,j,rfl,rfl,hp i j h,q _ H (aQ.refl H) (.int _)⟩
  .cases ez
 .cases ez
def aEp{g:Int->Int->Int}:OpS K (rI0 λ i j=>.int (g i j)) (i2 (λ _ _=>true) λ i j=>.int (g i j)):=by
 intro A x y d e H Q z rx ry ez q;unfold i2 at ez;split at ez
 .rename_i i j
  cases ez;obtain rfl:=rx.int_inv;obtain rfl:=ry.int_inv;exact⟨i,j,rfl,rfl,q _ H (aQ.refl H) (.int _)⟩
 .cases ez
def zU{g:Int->Int->Bool}:OpS K (rI0 λ i j=>.bl (g i j)) (i2 (λ _ _=>true) λ i j=>.bl (g i j)):=by
 intro A x y d e H Q z rx ry ez q;unfold i2 at ez;split at ez
 .rename_i i j
  cases ez;obtain rfl:=rx.int_inv;obtain rfl:=ry.int_inv;exact⟨i,j,rfl,rfl,q _ H (aQ.refl H) (.bl _)⟩
 .cases ez
def wB{g:Int->Int->Int}:∀x y z,i2 p (λ i j=>.int (g i j)) x y= .ok z->imm z=true:=by
 intro x y z e;unfold i2 at e;split at e
 .split at e
  .cases e;rfl
  .cases e
 .cases e
def aDQ{g:Int->Int->Bool}:∀x y z,i2 p (λ i j=>.bl (g i j)) x y= .ok z->imm z=true:=by
 intro x y z e;unfold i2 at e;split at e
 .split at e
  .cases e;rfl
  .cases e
 .cases e
def bT:D->D->Rs D
 | .int i,.int j=>.ok (.int (i+j))
 | .lst l,.lst m=>if l.length+m.length<=zAN then .ok (.lst (l++m))else .st
 | .tup l,.tup m=>if l.length+m.length<=zAN then .ok (.tup (l++m))else .st
 |_,_=>.st
def aGC(K:zAA):R2:=λ x y H Q=>∃a b xs ys,x= .ref a/\y= .ref b/\SqT K H a xs/\SqT K H b ys/\xs.length+ys.length<=zAN/\
 (xs=[]->Q (.ref b) H)/\(ys=[]->Q (.ref a) H)/\New H (.tup (xs++ys)) Q
def aEs:OpR X (zBv .Add) (aGC X.K):=by
 intro hV s Z H x y v u Q I rx ry h;obtain⟨a,b,xs,ys,rfl,rfl,ha,hb,hz,q0,q1,q2⟩:=h;by_cases hx:xs=[]
 .subst hx
  cases rx;cases ry;obtain⟨its,r1,p1,_⟩:=I.tuple ha;obtain⟨its2,r2,p2,_⟩:=I.tuple hb;cases r1;exact HT.aDb p1 p2 ⟨.ref b,H,I,rfl,q0 rfl⟩
 .exact aEt hV s Z H _ _ v u Q I rx ry ⟨a,b,xs,ys,rfl,rfl,ha,hb,hx,hz,q1,λ _ p hp=>q2.at hp⟩
def aC5(K:zAA):R2:=λ x y H Q=>rI0 (λ i j=>.int (i+j)) x y H Q\/(aGD x y H Q\/aGC K x y H Q)
def aEv:OpR X (zBv .Add) (aC5 X.K):=OpR.or aH1 (OpR.or aEu aEs)
def aHK:OpS K (aC5 K) bT:=by
 intro A x y d e H Q z rx ry ez q;unfold bT at ez;split at ez
 .cases ez;obtain rfl:=rx.int_inv;obtain rfl:=ry.int_inv;exact .inl ⟨_,_,rfl,rfl,q _ H (aQ.refl H) (.int _)⟩
 .split at ez
  .rename_i hl
   cases ez;obtain⟨_,_,rfl,h1,m1,r1⟩:=rx.lst_inv;obtain⟨_,_,rfl,h2,m2,r2⟩:=ry.lst_inv;refine .inr (.inl ⟨_,_,_,_,rfl,rfl,h1,h2,by rw[r1.length,r2.length];exact hl,λ p H' s hp hn=>q _ H' s (.lst hp (.inl hn) ?_)⟩);exact(((r1.wk λ _ _ _ z=>z.1).append (r2.wk λ _ _ _ z=>z.1)).wk (A':=λ q=>(H q=none\/A q)/\q≠p) λ q o e z=>⟨.inr z,λ e'=>by subst e';rw[hn]at e;cases e⟩).up s
  .cases ez
 .split at ez
  .rename_i hl
   cases ez;obtain⟨_,_,rfl,h1,r1⟩:=rx.tup_inv;obtain⟨_,_,rfl,h2,r2⟩:=ry.tup_inv;have r1':=r1.wk (A':=λ p=>H p=none\/A p) λ _ _ _ z=>.inr z
   have r2':=r2.wk (A':=λ p=>H p=none\/A p) λ _ _ _ z=>.inr z
   refine .inr (.inr ⟨_,_,_,_,rfl,rfl,h1,h2,by rw[r1.length,r2.length];exact hl,λ e=>?_,λ e=>?_,λ p H' s hp hn=>q _ H' s (.tup (SqT.of hp) ((r1'.append r2').up s))⟩)
   .subst e
    cases r1';exact q _ H (aQ.refl H) (.tup h2 r2')
   .subst e
    cases r2';rw[zAv]at q;exact q _ H (aQ.refl H) (.tup h1 r1')
  .cases ez
 .cases ez
def dR:D->D->Rs D
 | .int i,.int j=>if (decide (-(2^64)<i)&&decide (i<2^64))||(decide (-(2^64)<j)&&decide (j<2^64))then .ok (.int (i*j))else .st
 | .lst l,.int k=>if decide (-(2^63)<=k)&&decide (k<2^63)&&decide (l.length*k.toNat<=zAN)&&fM l then .ok (.lst (zAJ k.toNat l).flatten)else .st
 |_,_=>.st
theorem Rps.rep(r:Rps K A H xs ds):∀k:Nat,Rps K A H (zAJ k xs).flatten (zAJ k ds).flatten
 |0=>.nil
 |k+1=>by
  rw[zBJ,zBJ,zBk,zBk];exact r.append (Rps.rep r k)
def aFx:R2:=λ x y H Q=>rI aFl (λ i j=>.int (i*j)) x y H Q\/aIb x y H Q
def aEq:OpR X (zBv .Mult) aFx:=OpR.or aHQ aHN
def aHJ:OpS K aFx dR:=by
 intro A x y d e H Q z rx ry ez q;unfold dR at ez;split at ez
 .split at ez
  .rename_i hc
   cases ez;obtain rfl:=rx.int_inv;obtain rfl:=ry.int_inv;refine .inl ⟨_,_,rfl,rfl,?_,q _ H (aQ.refl H) (.int _)⟩;simp only[zE3,zAU,decide_eq_true_eq]at hc;exact hc
  .cases ez
 .split at ez
  .rename_i hc
   simp only[zAU,decide_eq_true_eq]at hc;cases ez;obtain⟨_,_,rfl,h1,m1,r1⟩:=rx.lst_inv;obtain rfl:=ry.int_inv;refine .inr ⟨_,_,_,rfl,rfl,h1,hc.1.1.1,hc.1.1.2,by rw[r1.length];exact hc.1.2,λ p hp=>q _ _ (bY hp _) (.lst aa (.inl hp) ?_)⟩;exact((r1.rep _).wk (A':=λ q=>(H q=none\/A q)/\q≠p) λ q o e z=>⟨.inr z.1,λ e'=>by subst e';rw[hp]at e;cases e⟩).up (bY hp _)
  .cases ez
 .cases ez
def intsOf:List D->Option (List Int)
 |[]=>some []
 | .int i::r=>(intsOf r).map (i::·)
 |_=>none
theorem cg:∀{l:List D} {ns:List Int},intsOf l=some ns->l=ns.map .int
 |[],ns,h=>by cases h;rfl
 | .int i::r,ns,h=>by
  simp only[intsOf,zCc]at h;obtain⟨ms,h1,rfl⟩:=h;rw[cg h1];rfl
 | .non::_,_,h=>by cases h
 | .bl _::_,_,h=>by cases h
 | .str _::_,_,h=>by cases h
 | .tup _::_,_,h=>by cases h
 | .lst _::_,_,h=>by cases h
 | .dct _ _::_,_,h=>by cases h
 | .set _::_,_,h=>by cases h
 | .scr _::_,_,h=>by cases h
theorem cj:∀ns:List Int,intsOf (ns.map .int)=some ns
 |[]=>rfl
 |n::ns=>by simp only[zAG,intsOf,cj ns,zD4]
def ltT(p:List Int->List Int->Bool):D->D->Rs D
 | .tup l,.tup m=>match intsOf l,intsOf m with
  |some ns,some ms=>.ok (.bl (p ns ms))
  |_,_=>.st
 |_,_=>.st
def aA5(r:Rp K A H x (.tup l))(e:intsOf l=some ns):∃a,x= .ref a/\SqT K H a (ns.map V.int):=by
 have:=cg e
 subst this;cases r with
 |tup h r=>
  have:=r.ints_of
  subst this;exact⟨_,rfl,h⟩
def aA9(hr:∀x y H Q,(∃a b ns ms,x= .ref a/\y= .ref b/\SqT K H a (ns.map V.int)/\SqT K H b (ms.map V.int)/\Q (.bl (p ns ms)) H)->r x y H Q):OpS K r (ltT p):=by
 intro A x y d e H Q z rx ry ez q;unfold ltT at ez;split at ez
 .split at ez
  .rename_i ns ms e1 e2
   cases ez;obtain⟨a,rfl,ha⟩:=aA5 rx e1;obtain⟨b,rfl,hb⟩:=aA5 ry e2;exact hr _ _ _ _ ⟨a,b,ns,ms,rfl,rfl,ha,hb,q _ H (aQ.refl H) (.bl _)⟩
  .cases ez
 .cases ez
def ltD:D->D->Rs D:=λ d e=>match i2 (λ _ _=>true) (λ i j=>.bl (decide (i<j))) d e with
 | .ok z=>.ok z
 |_=>ltT HT.lexLt d e
def leD:D->D->Rs D:=λ d e=>match i2 (λ _ _=>true) (λ i j=>.bl (decide (i<=j))) d e with
 | .ok z=>.ok z
 |_=>ltT HT.lexLe d e
def geD:D->D->Rs D:=i2 (λ _ _=>true) (λ i j=>.bl (decide (j<=i)))
def aHS(hu:X.A.units<cLine):OpR X (zAk .Lt) (λ x y H Q=>rI0 (λ i j=>.bl (decide (i<j))) x y H Q\/aE0 X.K x y H Q):=OpR.or aIn (aHT hu)
def aHU(hu:X.A.units<cLine):OpR X (zAk .LtE) (λ x y H Q=>rI0 (λ i j=>.bl (decide (i<=j))) x y H Q\/aE1 X.K x y H Q):=OpR.or aIo (aHV hu)
def aGJ:OpS K (λ x y H Q=>rI0 (λ i j=>.bl (decide (i<j))) x y H Q\/aE0 K x y H Q) ltD:=OpS.or zU (aA9 λ _ _ _ _ h=>h)
def aCk:OpS K (λ x y H Q=>rI0 (λ i j=>.bl (decide (i<=j))) x y H Q\/aE1 K x y H Q) leD:=OpS.or zU (aA9 λ _ _ _ _ h=>h)
def aAp(e:ltT p x y= .ok z):imm z=true:=by
 unfold ltT at e;split at e
 .split at e
  .cases e;rfl
  .cases e
 .cases e
def aHw:∀x y z,ltD x y= .ok z->imm z=true:=by
 intro x y z e;unfold ltD at e;split at e
 .rename_i w hw;cases e;exact aDQ _ _ _ hw
 .exact aAp e
def aHx:∀x y z,leD x y= .ok z->imm z=true:=by
 intro x y z e;unfold leD at e;split at e
 .rename_i w hw;cases e;exact aDQ _ _ _ hw
 .exact aAp e
def isD(neg:Bool):D->D->Rs D
 | .bl a,.bl b=>if neg then .st else .ok (.bl (a==b))
 |d,.non=>match d with
  | .non=>.ok (.bl (!neg))
  |_=>.ok (.bl neg)
 |_,_=>.st
def aHW:OpR X (zAk .Is) (λ x y H Q=>(∃b c,x= .bl b/\y= .bl c/\Q (.bl (b==c)) H)\/(y= .non/\Q (.bl (decide (x= .non))) H)):=OpR.or aCo aHX
def aGj(r:Rp K A H x d)(h:d≠.non):x≠.non:=by
 cases r with
 |non=>exact absurd rfl h
 |_=>exact λ e=>by cases e
def aIm:OpS K (λ x y H Q=>(∃b c,x= .bl b/\y= .bl c/\Q (.bl (b==c)) H)\/(y= .non/\Q (.bl (decide (x= .non))) H)) (isD false):=by
 intro A x y d e H Q z rx ry ez q;unfold isD at ez;split at ez
 .cases ez;cases rx;cases ry;exact .inl ⟨_,_,rfl,rfl,q _ H (aQ.refl H) (.bl _)⟩
 .cases ry
  split at ez
  .cases ez;cases rx;exact .inr ⟨rfl,by rw[decide_eq_true rfl];exact q _ H (aQ.refl H) (.bl _)⟩
  .rename_i hn
   cases ez;exact .inr ⟨rfl,by rw[decide_eq_false (aGj rx hn)];exact q _ H (aQ.refl H) (.bl _)⟩
 .cases ez
def sE:D->Rs D
 | .int i=>.ok (.int (-i))
 |_=>.st
def aGX:UnS K (rU λ i=>.int (-i)) sE:=by
 intro A x d H Q z rx ez q;cases rx with
 |int i=>cases ez;exact⟨i,rfl,q _ H (aQ.refl H) (.int _)⟩
 |_=>cases ez
def aFQ:∀x z,sE x= .ok z->imm z=true:=by
 intro x z e;cases x with
 |int i=>cases e;rfl
 |_=>cases e
def atD(l:List D)(i:Int):Rs D:=match atI l i with
 |some d=>.ok d
 |none=>.st
def ixD:D->D->Rs D
 | .tup l,.int i=>atD l i
 | .lst l,.int i=>atD l i
 | .scr l,.int i=>atD (l.map .int) i
 |_,_=>.st
theorem Rps.at(r:Rps K A H xs ds)(e:atI ds i=some d):∃x,atI xs i=some x/\Rp K A H x d:=by
 unfold atI at e ⊢;rw[r.length];cases h:ixN ds.length i with
 |none=>rw[h]at e;cases e
 |some j=>
  rw[h]at e;obtain⟨x,e1,e2⟩:=r.getD (i:=j) (d:=d) e;exact⟨x,e1,e2⟩
def aIl:OpS K (rIx K) ixD:=by
 intro A x y d e H Q z rx ry ez q;unfold ixD at ez;split at ez
 .unfold atD at ez
  split at ez
  .rename_i w hw
   cases ez;obtain⟨_,_,rfl,h,r⟩:=rx.tup_inv;obtain rfl:=ry.int_inv;obtain⟨v,e1,e2⟩:=r.at hw;exact .inr (.inl ⟨_,_,_,v,rfl,rfl,h,e1,q v H (aQ.refl H) (e2.wk λ _ _ _ z=>.inr z)⟩)
  .cases ez
 .unfold atD at ez
  split at ez
  .rename_i w hw
   cases ez;obtain⟨_,_,rfl,h,m,r⟩:=rx.lst_inv;obtain rfl:=ry.int_inv;obtain⟨v,e1,e2⟩:=r.at hw;exact .inl ⟨_,_,_,v,rfl,rfl,SqL.of h,e1,q v H (aQ.refl H) (e2.wk λ _ _ _ z=>.inr z.1)⟩
  .cases ez
 .unfold atD at ez
  split at ez
  .rename_i w hw
   cases ez;obtain⟨_,rfl,h⟩:=rx.scr_inv;obtain rfl:=ry.int_inv;obtain⟨v,e1,e2⟩:=(Rps.ints (K:=K) (A:=A) (H:=H)).at hw;exact .inl ⟨_,_,_,v,rfl,rfl,h.sq,e1,q v H (aQ.refl H) (e2.wk λ _ _ _ z=>.inr z)⟩
  .cases ez
 .cases ez
def gA:List D->Rs D
 |[.tup l]=>.ok (.int l.length)
 |[.lst l]=>.ok (.int l.length)
 |[.scr l]=>.ok (.int l.length)
 |_=>.st
def aIF:nj K (λ xs H Q=>∃p ys,xs=[.ref p]/\(SqL K H p ys\/SqT K H p ys)/\Q (.int ys.length) H) gA:=by
 intro A xs ds H Q z r ez q;unfold gA at ez;split at ez
 .cases ez
  obtain⟨_,rfl,h0⟩:=r.one_inv;obtain⟨_,_,rfl,h,r⟩:=h0.tup_inv;exact⟨_,_,rfl,.inr h,by rw[r.length];exact q _ H (aQ.refl H) (.int _)⟩
 .cases ez
  obtain⟨_,rfl,h0⟩:=r.one_inv;obtain⟨_,_,rfl,h,m,r⟩:=h0.lst_inv;exact⟨_,_,rfl,.inl (SqL.of h),by rw[r.length];exact q _ H (aQ.refl H) (.int _)⟩
 .cases ez
  obtain⟨_,rfl,h0⟩:=r.one_inv;obtain⟨_,rfl,h⟩:=h0.scr_inv;exact⟨_,_,rfl,.inl h.sq,by rw[zAB];exact q _ H (aQ.refl H) (.int _)⟩
 .cases ez
def aFR:∀x z,gA x= .ok z->imm z=true:=by
 intro x z e;unfold gA at e;split at e<;>first|(cases e;rfl)|cases e
def tyD:D->String
 | .non=>"NoneType"| .bl _=>"bool"| .int _=>"int"| .str _=>"str"| .tup _=>"tuple"| .lst _=>"list"| .dct _ _=>"dict"| .set _=>"set"| .scr _=>"script"| .fn _=>"function"| .itm _ _=>"items"
def lH(T:String):D->Rs D:=λ d=>if jt (tyD d) T true=true then .ok (.bl true)else if jt (tyD d) T false=true then .ok (.bl false)else .st
def aFy(K:zAA)(T:String):List V->Hp->VK->Prop:=λ xs H Q=>∃x d A b,xs=[x,.ty T]/\Rp K A H x d/\jt (tyD d) T b=true/\Q (.bl b) H
def aBl:dN X (.builtin "isinstance") (aFy X.K T):=by
 intro hV s Z H xs us Q I rv h;obtain⟨x,d,A,b,rfl,rd,ok,q⟩:=h;cases rd with
 |tup h r=>
  obtain⟨u,w',rfl,ru,rw'⟩:=vals2 rv;cases ru;cases rw';obtain⟨its,_,⟨o,h1,h2,_⟩,_⟩:=I.tuple h;exact zAu zFX I.kIn ⟨o,h1,h2⟩ (zx ok) (λ z=>nomatch z) λ tk=>⟨.bl b,H,I.tok _,rfl,q⟩
 |set h m hS nd=>cases b<;>simp[jt,tyD]at ok
 |scr h=>cases b<;>simp[jt,tyD]at ok
 |fn h=>cases b<;>simp[jt,tyD]at ok
 |itm h=>cases b<;>simp[jt,tyD]at ok
 |non=>exact jR hV s Z H _ us Q I rv ⟨_,T,_,b,rfl,.non,ok,q⟩
 |bl c=>exact jR hV s Z H _ us Q I rv ⟨_,T,_,b,rfl,.bl c,ok,q⟩
 |int c=>exact jR hV s Z H _ us Q I rv ⟨_,T,_,b,rfl,.int c,ok,q⟩
 |str c=>exact jR hV s Z H _ us Q I rv ⟨_,T,_,b,rfl,.str c,ok,q⟩
 |lst h m r=>exact jR hV s Z H _ us Q I rv ⟨_,T,_,b,rfl,.lst h,ok,q⟩
 |dK h m r=>exact jR hV s Z H _ us Q I rv ⟨_,T,_,b,rfl,.dK h,ok,q⟩
 |dT h m r=>
  obtain⟨u,w',rfl,ru,rw'⟩:=vals2 rv;cases ru;cases rw';obtain⟨⟨_,_,_,o,_,_,_,h1,h2,_⟩,_⟩:=(show cA X.prog X.w H s.heap _ (dxO _ _)from I.hok _ _ h.at_);exact zAu zDw I.kIn ⟨o,h1,h2.1⟩ (zx ok) (λ z=>nomatch z) λ tk=>⟨.bl b,H,I.tok _,rfl,q⟩
end
section
variable{C:Ct}{pos p p2:Pos}{m:Mode}{a:Expr}{fa:En->Rs D}
def oH(ha:SE C m a fa)(hm:C.mg "isinstance"=none)(hmT:C.mg x=none)(hn:x≠"__name__":=by decide)(hd:Nd x:=by decide)(he:∀i,zAS [a,.Name x p2] (C.X i).env=(false,eval a (C.X i).env)::zAS [.Name x p2] (C.X i).env:=by intro _;rfl)(hpl:∀i,(zBg pos (zAS [.Name x p2] (C.X i).env)).any (·.1)=false:=by intro _;rfl)(hg:∀i,Gl (C.X i) "isinstance":=by intro _;rfl)(hv:zAj "isinstance"=some (.builtin "isinstance"):=by decide+kernel)(hgT:∀i,Gl (C.X i) x:=by intro _;rfl)(hvT:zAj x=some (.type T):=by decide+kernel):
  SE C (some []) (.Call (.Name "isinstance" p) [a,.Name x p2] [] pos) (op1 (lH T) fa):=by
 obtain⟨t,h1,h2⟩:=ha;refine⟨tCB (aFy C.K T) (eU t (eU (tC (.ty T)) lr)),λ i=>?_,λ τ Z H Y lab Q R W=>?_⟩
 .rw[<-C.hK i]
  exact nM aBl (hg i) (by rw[(C.cx i).2.2.2.1];exact hm) hv (dg (h1 i) (dg (aEm (v:=.ty T) (hgT i) (by rw[(C.cx i).2.2.2.1];exact hmT) hvT rfl hn hd) jE) (he i)) (by decide) (by decide) (he i) (hpl i)
 .refine h2 τ Z H Y lab _ R (W.bd.imp λ d _ w x H1 s1 r1=>?_)
  obtain⟨z,ez,w⟩:=w.okD;unfold lH at ez;split at ez
  .rename_i h;cases ez;exact⟨x,d,_,true,rfl,r1,h,w _ H1 s1 (.bl _)⟩
  .split at ez
   .rename_i h;cases ez;exact⟨x,d,_,false,rfl,r1,h,w _ H1 s1 (.bl _)⟩
   .cases ez
end
def nA:Slot->Slot
 | .ow d=>.sh d
 | .nw d=>.sh d
 | .oz d=>.sh d
 | .o2 l=>.sh (.lst (l.map .lst))
 |s=>s
def shE(Y:En):En:=Y.map nA
def stV(js:List (Option Nat))(Z:L2.St):L2.St:=js.map λ o=>o.bind λ j=>(Z[j]?).join
def stE(js:List (Option Nat))(Y:En):En:=js.map λ o=>match o with
 |none=>.no
 |some j=>(Y[j]?).getD .no
def aEY{K:zAA}(h:fX K H lab i v s):∃d,(s= .no\/nA s= .sh d)/\(s= .no\/Rp K (λ _=>True) H v d):=by
 cases s with
 |no=>exact⟨.non,.inl rfl,.inl rfl⟩
 |sh d=>exact⟨d,.inr rfl,.inr (Rp.wk (λ _ _ _ _=>trivial) h)⟩
 |nw d=>exact⟨d,.inr rfl,.inr (Rp.wk (λ _ _ _ _=>trivial) h)⟩
 |ow d=>exact⟨d,.inr rfl,.inr (Rp.wk (λ _ _ _ _=>trivial) h.1)⟩
 |oz d=>exact⟨d,.inr rfl,.inr (Rp.wk (λ _ _ _ _=>trivial) (aGI h))⟩
 |o2 l=>exact⟨_,.inr rfl,.inr (Rp.wk (λ _ _ _ _=>trivial) (aCq h))⟩
theorem RR.shE{K:zAA}(R:RR K G τ Y Z H lab):RR K G τ (shE Y) Z H (λ _=>(0,0)):=by
 refine⟨by unfold VL.shE;rw[zAB];exact R.len,λ i s e=>?_,R.old,λ p hp=>absurd rfl hp,λ q hq=>(R.tm q hq).wk λ _ _ _ _=>zAo _⟩;unfold VL.shE at e;rw[zAL]at e;cases e0:Y[i]? with
 |none=>rw[e0]at e;cases e
 |some s0=>
  rw[e0]at e;cases e;rcases R.sl i s0 e0 with rfl|⟨v,ev,hv⟩
  .exact .inl rfl
  .obtain⟨d,h1,h2⟩:=aEY hv
   rcases h1 with rfl|h1
   .exact .inl rfl
   .rcases h2 with rfl|h2
    .exact .inl rfl
    .exact .inr ⟨v,ev,by rw[h1];exact h2.wk λ _ _ _ _=>zAo _⟩
def aCG{i:Nat}(e:(stE js Y)[i]? =some s):s= .no\/∃j,js[i]? =some (some j)/\Y[j]? =some s:=by
 unfold stE at e;rw[zAL]at e;cases ej:js[i]? with
 |none=>rw[ej]at e;cases e
 |some o=>
  rw[ej]at e;cases o with
  |none=>cases e;exact .inl rfl
  |some j=>
   cases er:Y[j]? with
   |none=>simp[er]at e;exact .inl e.symm
   |some s'=>simp[er]at e;subst e;exact .inr ⟨j,rfl,er⟩
def RR.block{K:zAA}{τ:List (V×D)}(R:RR K G τ (VL.shE Y) Z H lab)(hz:∀p,(lab p).1<=1)(hl:H l=none):
  RR K G τ (stE js (VL.shE Y)) (stV js Z) H (λ p=>if p=l then(2,0)else(0,0)):=by
 have nl:∀p o,H p=some o->p≠l:=λ p o e z=>by subst z;rw[hl]at e;cases e
 refine⟨by unfold stE stV;rw[zAB,zAB],λ i s e=>?_,R.old,λ p hp=>?_,λ q hq=>(R.tm q hq).wk λ p o e _=>by rw[if_neg (nl p o e)];exact zAo _⟩
 .rcases aCG e with rfl|⟨j,ej,es⟩
  .exact .inl rfl
  .rcases R.sl j s es with rfl|⟨v,ev,hv⟩
   .exact .inl rfl
   .refine .inr ⟨v,?_,?_⟩
    .unfold stV
     rw[zAL,ej];simp[ev]
    .unfold VL.shE at es
     rw[zAL]at es;cases e0:Y[j]? with
     |none=>rw[e0]at es;cases es
     |some s0=>
      rw[e0]at es;cases es;cases s0 with
      |no=>trivial
      |oz d=>exact Rp.wk (λ p o e _=>by show(if p=l then((2,0):Nat×Nat)else(0,0)).1<=1;rw[if_neg (nl p o e)];exact zAo _) hv
      |nw d=>exact Rp.wk (λ p o e _=>by show(if p=l then((2,0):Nat×Nat)else(0,0)).1<=1;rw[if_neg (nl p o e)];exact zAo _) hv
      |sh d=>exact Rp.wk (λ p o e _=>by show(if p=l then((2,0):Nat×Nat)else(0,0)).1<=1;rw[if_neg (nl p o e)];exact zAo _) hv
      |ow d=>exact Rp.wk (λ p o e _=>by show(if p=l then((2,0):Nat×Nat)else(0,0)).1<=1;rw[if_neg (nl p o e)];exact zAo _) hv
      |o2 d=>exact Rp.wk (λ p o e _=>by show(if p=l then((2,0):Nat×Nat)else(0,0)).1<=1;rw[if_neg (nl p o e)];exact zAo _) hv
 .by_cases hp':p=l
  .subst hp';exact R.old.free hl
  .exact absurd (show(if p=l then((2,0):Nat×Nat)else(0,0)).1=0 by rw[if_neg hp']) hp
def aJ6(XN N:List Str)(js:List (Option Nat))(ks:List Nat)(sc:Scope):Bool:=(zAp js.length).all λ i=>match js[i]? with
 |some (some j)=>match N[i]?,XN[j]? with
  |some x,some y=>x==y&&sc.names.lookup x==some .free&& !ks.contains i
  |_,_=>false
 |_=>true
def aAM(h1:sc.kind= .function)(h2:(sc.names.all λ y=>y.2 != .cell||sc.names.lookup y.1==some .cell)=true)(h3:(sc.names.all λ y=>y.2 != .local||sc.names.lookup y.1==some .local)=true)
  (h4:(sc.names.all λ y=>y.2 != .free||(X.env.kindOf y.1==some .cell||X.env.kindOf y.1==some .free))=true)(h5:js.length=N.length)(h6:aJ6 X.N N js ks sc=true):gH X sc N (stV js) ks:=by
 refine⟨h1,λ y hy e=>?_,λ y hy e=>?_,λ y hy e=>?_,λ Z=>by unfold stV;rw[zAB];exact h5,λ Z i x v e1 e2=>?_⟩
 .have:=zB9.mp h2 y hy
  rw[e]at this;simpa using this
 .have:=zB9.mp h3 y hy
  rw[e]at this;simpa using this
 .have:=zB9.mp h4 y hy
  rw[e]at this;simpa using this
 .unfold stV at e2
  rw[zAL]at e2;cases ej:js[i]? with
  |none=>rw[ej]at e2;cases e2
  |some o=>
   rw[ej]at e2;cases o with
   |none=>cases e2
   |some j=>
    have hi:i<js.length:=(zAM.mp ej).1
    have:=zB9.mp h6 i (zCh.mpr hi)
    rw[ej,e1]at this;dsimp only at this;cases ey:X.N[j]? with
    |none=>rw[ey]at this;cases this
    |some y=>
     rw[ey]at this;simp only[zAU,beq_iff_eq,zEL]at this;obtain⟨⟨h,h'⟩,h''⟩:=this;subst h;refine⟨h',λ hk=>?_,j,ey,?_⟩
     .rw[List.contains_iff_mem.mpr hk]at h'';cases h''
     .simp only[zD4,zCm,zBO]at e2
      cases es:Z[j]? with
      |none=>rw[es]at e2;cases e2
      |some w=>rw[es]at e2;simp at e2;subst e2;rfl
abbrev Ct.blk(C:Ct)(sc:Scope)(N:List Str):Ct where
 ι:=C.ι×Addr×List Addr×zAC×Hp
 X:=λ i=>(C.X i.1).block sc i.2.1 N i.2.2.1 i.2.2.2.1 i.2.2.2.2
 prog:=C.prog
 w:=C.w
 K:=C.K
 mg:=C.mg
 base:=C.base
 k:=C.k
 G:={C.G with E:=λ _ _ _=>False}
 cx:=λ i=>C.cx i.1
 calm:=λ i=>C.calm i.1
 room:=λ i=>C.room i.1
 own:=λ i=>PassesOwn.never
 pass:=λ i hV Z H s e s' I h=>by obtain⟨_,_,_,_,_,_,_,_,_,_,_,_,_,hE⟩:=h;exact hE
 dOk:=false
 dcx:=λ h=>absurd h zA8
def lcL(Y:En)(fg:D->En->Rs En)(ft:En->Rs Bool)(fe:En->Rs D):List D->Rs (List D)
 |[]=>.ok []
 |d::ds=>(fg d Y).bd λ Y1=>(ft Y1).bd λ k=>if k=true then(fe Y1).bd λ y=>(lcL Y fg ft fe ds).bd λ ys=>.ok (y::ys)else lcL Y fg ft fe ds
def lcD(fi:En->Rs (List D))(js:List (Option Nat))(fg:D->En->Rs En)(ft:En->Rs Bool)(fe:En->Rs D):En->Rs D:=λ Y=>(fi (shE Y)).bd λ ds=>
 if ds.length<zAN then(match lcL (stE js (shE Y)) fg ft fe ds with
  | .ok l=>.ok (.lst l)
  |_=>.st)else .st
def aFe(C:Ct)(ifs:List Expr)(f:En->Rs Bool):Prop:=∃t,(∀i,aBr (C.X i) ifs t)/\aBq C.K C.G t f
def m9:En->Rs Bool:=λ _=>.ok true
def jh:aFe C [] m9:=⟨_,λ _=>aGz,λ τ Z H Y lab Q R W=>W H (aQ.refl H)⟩
def nu(h:ST C c f):aFe C [c] f:=let⟨t,h1,h2⟩:=h;⟨t,λ i=>aGy (h1 i),h2⟩
def aDB(h:lcL Y fg ft fe (d::ds)= .ok l):
  ∃Y1 k,fg d Y= .ok Y1/\ft Y1= .ok k/\((k=true/\∃y ys,fe Y1= .ok y/\lcL Y fg ft fe ds= .ok ys/\l=y::ys)\/(k=false/\lcL Y fg ft fe ds= .ok l)):=by
 unfold lcL at h;obtain⟨Y1,e1,h⟩:=dB h;obtain⟨k,e2,h⟩:=dB h;refine⟨Y1,k,e1,e2,?_⟩;cases k with
 |true=>
  rw[if_pos rfl]at h;obtain⟨y,e3,h⟩:=dB h;obtain⟨ys,e4,h⟩:=dB h;cases h;exact .inl ⟨rfl,y,ys,e3,e4,rfl⟩
 |false=>
  rw[if_neg zA8]at h;exact .inr ⟨rfl,h⟩
def RR.but_blk{K:zAA}{τ:List (V×D)}(R:RR K G τ (stE js (VL.shE Y)) Z H (λ p=>if p=l then(2,0)else(0,0)))(B:iu l H H')(hl:H l=some o)(ho:iQ o=true)(h0:G.H0 l=none):
  RR K G τ (stE js (VL.shE Y)) Z H' (λ p=>if p=l then(2,0)else(0,0)):=by
 have bS:¬((λ p=>if p=l then((2,0):Nat×Nat)else(0,0)) l).1<=1:=by simp
 refine⟨R.len,λ j s e=>?_,λ b o hb=>?_,R.new,λ q hq=>(R.tm q hq).but B hl ho bS⟩
 .rcases R.sl j s e with z|⟨u,e1,e2⟩
  .exact .inl z
  .refine .inr ⟨u,e1,?_⟩
   rcases aCG e with rfl|⟨jx,ej,es⟩
   .trivial
   .unfold VL.shE at es
    rw[zAL]at es;cases e0:Y[jx]? with
    |none=>rw[e0]at es;cases es
    |some s0=>rw[e0]at es;cases es;cases s0<;>first|trivial|exact Rp.but B hl ho bS e2
 .exact B b o (λ z=>by subst z;rw[h0]at hb;cases hb) (R.old b o hb)
def RR.blk0{K:zAA}(R:RR K G τ (VL.shE Y) Z H lab)(hG:G'.H0=G.H0):RR K G' τ (VL.shE Y) Z H (λ _=>(0,0)):=by
 refine⟨R.len,λ i s e=>?_,by rw[hG];exact R.old,λ p hp=>absurd rfl hp,λ q hq=>(R.tm q hq).wk λ _ _ _ _=>zAo _⟩;rcases R.sl i s e with rfl|⟨v,ev,hv⟩
 .exact .inl rfl
 .unfold VL.shE at e
  rw[zAL]at e;cases e0:Y[i]? with
  |none=>rw[e0]at e;cases e
  |some s0=>rw[e0]at e;cases e;cases s0<;>first|exact .inl rfl|exact .inr ⟨v,ev,Rp.wk (λ _ _ _ _=>zAo _) hv⟩
section
variable{K:zAA}{G:Gx}{wi:TI}{fi:En->Rs (List D)}{js:List (Option Nat)}{g:TG}{fg:D->En->Rs En}{tt:TT}{ft:En->Rs Bool}{te:TE}{fe:En->Rs D}
def aCL(hi:aIP K G wi fi)(hg:aIQ K {G with E:=λ _ _ _=>False} g fg)(ht:aBq K {G with E:=λ _ _ _=>False} tt ft)(he:ie K {G with E:=λ _ _ _=>False} (some []) te fe):
  ie K G (some []) (tLC wi (stV js) g tt te) (lcD fi js fg ft fe):=by
 intro τ Z H Y lab Q R W;refine hi τ Z H _ _ _ R.shE (W.bd.imp λ ds _ w J H1 lab1 τ1 s1 _ R1 jl=>?_);intro l hl;obtain⟨hW,out,aE,w⟩:ds.length<zAN/\∃out,lcL (stE js (VL.shE Y)) fg ft fe ds= .ok out/\QE K (some []) lab H Q (.lst out):=by
  by_cases hW:ds.length<zAN
  .rw[if_pos hW]at w
   cases aE:lcL (stE js (VL.shE Y)) fg ft fe ds with
   |ok out=>rw[aE]at w;exact⟨hW,out,rfl,w⟩
   |ex c=>rw[aE]at w;exact zAH w
   |st=>rw[aE]at w;exact zAH w
  .rw[if_neg hW]at w
   exact zAH w
 have R0:RR K {G with E:=λ _ _ _=>False} (τ1++τ) (VL.shE Y) Z H1 (λ _=>(0,0)):=R1.blk0 rfl;have RB:=R0.block (js:=js) (λ _=>zAo _) hl;have hHl:H l=none:=s1.free hl;have bS:¬((λ p=>if p=l then((2,0):Nat×Nat)else(0,0)) l).1<=1:=by simp
 refine⟨λ i n acc H2=>∃pre,n=ds.length-i/\i<=ds.length/\H2 l=some (.lst acc)/\RR K {G with E:=λ _ _ _=>False} (τ1++τ) (stE js (VL.shE Y)) (stV js Z) H2 (λ p=>if p=l then(2,0)else(0,0))/\aQ H H2/\acc.length<=i/\
  Rps K (λ p=>H p=none/\p≠l) H2 acc pre/\∃post,lcL (stE js (VL.shE Y)) fg ft fe (ds.drop i)= .ok post/\out=pre++post,⟨ds.length,[],by lia,by lia,aa,RB.up (bY hl _),s1.trans (bY hl _),zAT _,.nil,out,aE,rfl⟩,?_⟩
 rintro i n acc H2 ⟨pre,rfl,hi,hH2,R2,s2,b9,rpre,post,hpost,eout⟩;refine⟨hH2,by lia,?_⟩;have jj:=jl _ H2 λ q hq=>R2.tm q (zAh _ hq)
 by_cases hlt:i<ds.length
 .obtain⟨go,yl⟩:=(jj i).2 hlt
  refine .inr ⟨go,λ x H3 hy=>?_⟩;obtain⟨s3,d,ed,rx⟩:=yl x H3 hy;replace R2:=R2.up s3;replace hH2:=s3 _ _ hH2;replace s2:=s2.trans s3;replace rpre:=rpre.up s3;have ed2:ds.drop i=d::ds.drop (i+1):=by
   rw[zCX hlt]
   have:=zAD hlt
   rw[ed]at this;cases this;rfl
  rw[ed2]at hpost;obtain⟨Y1,k,e1,e2,e3⟩:=aDB hpost;refine hg (τ1++τ) x d _ H3 _ _ _ Y1 R2 rx e1 λ Z4 R4=>?_
  refine ht (τ1++τ) Z4 H3 Y1 _ _ R4 ?_;rw[e2];intro H5 s5;rcases e3 with ⟨rfl,y,ys,e3,e4,rfl⟩|⟨rfl,e4⟩
  .rw[if_pos rfl]
   refine he (τ1++τ) Z4 H5 Y1 _ _ (R4.up s5) ?_;rw[e3];intro v H6 s6 r6;have hl6:H6 l=some (.lst acc):=s6 _ _ (s5 _ _ hH2);have B:iu l H6 (upd H6 l (.lst (acc++[v]))):=λ b o ne hb=>by rw[aW ne];exact hb
   refine⟨hl6,ds.length-(i+1),by lia,pre++[y],rfl,hlt,aa,?_,?_,by rw[zA9];simp;lia,?_,ys,e4,by rw[eout];simp⟩
   .exact(R2.up (s5.trans s6)).but_blk B hl6 rfl (R1.old.free hl)
   .exact λ b o hb=>B b o (λ z=>by subst z;rw[hHl]at hb;cases hb) (((s2.trans s5).trans s6) b o hb)
   .refine((rpre.up (s5.trans s6)).append (.cons (r6.wk λ p o _ z=>?_) .nil)).but B hl6 rfl λ z=>z.2 rfl
    rcases z with z|z
    .exact⟨(s2.trans s5).free z,λ e=>by subst e;rw[s5 _ _ hH2]at z;cases z⟩
    .cases z
  .rw[if_neg zA8]
   exact⟨ds.length-(i+1),by lia,pre,rfl,hlt,s5 _ _ hH2,R2.up s5,s2.trans s5,by lia,rpre.up s5,post,e4,eout⟩
 .have ei:i=ds.length:=by lia
  subst ei;rw[zFz]at hpost;cases hpost;rw[zAv]at eout;subst eout;exact .inl ⟨(jj _).1 (zAT _),w _ H2 s2 (.lst hH2 (.inl hHl) (rpre.wk λ p o _ z=>⟨.inl z.1,z.2⟩))⟩
end
section
variable{C:Ct}{pos:Pos}{elt tg iter:Expr}{ifs:List Expr}{sc:Scope}{N:List Str}{js:List (Option Nat)}{ks:List Nat}{fi:En->Rs (List D)}{fg:D->En->Rs En}{ft:En->Rs Bool}{fe:En->Rs D}
def bO{C:Ct}(nd:N.Nodup:=by decide+kernel)(hk:i∈ks:=by decide)(hN:∀j,((C.blk sc N).X j).N[i]? =some x:=by intro _;rfl)(hx:∀j,Loc ((C.blk sc N).X j).env.scope x:=by intro _;first|exact zBi rfl|exact zBM rfl)
  (hf:∀j,((C.blk sc N).X j).fn x=true\/((C.blk sc N).X j).env.scope.names.lookup x=some .local:=by intro _;first|exact .inl rfl|exact .inr rfl):SG (C.blk sc N) (.Name x pos) ks (gnm i):=
 cB hN hx hf (λ _=>nd) hk
def lO(hi:SI C tg iter fi)(hg:SG (C.blk sc N) tg ks fg)(ht:aFe (C.blk sc N) ifs ft)(he:SE (C.blk sc N) (some []) elt fe)(hs:∀i x,zBx iter (C.X i).env x=pure x:=by intro _ _;rfl)(hB:∀i,gH (C.X i) sc N (stV js) ks:=by intro _;exact aAM rfl rfl rfl rfl rfl rfl):SE C (some []) (.ListComp elt [⟨tg,iter,ifs,0⟩] sc pos) (lcD fi js fg ft fe):=by
 obtain⟨wi,i1,i2⟩:=hi;obtain⟨g,g1,g2,g3,g4⟩:=hg;obtain⟨tt,t1,t2⟩:=ht;obtain⟨te,e1,e2⟩:=he;exact⟨_,λ i=>aIj (hB i) (C.calm i) (i1 i) (λ c fp z5 zS=>g1 (i,c,fp,z5,zS)) g3 (λ c fp z5 zS=>t1 (i,c,fp,z5,zS)) (λ c fp z5 zS=>e1 (i,c,fp,z5,zS)) (hs i),aCL i2 g2 t2 e2⟩
def aCF(hi:SI C tg iter fi)(hg:SG (C.blk sc N) tg ks fg)(ht:aFe (C.blk sc N) ifs ft)(he:SE (C.blk sc N) (some []) elt fe)(hN:∀j,(C.X j).N[i]? =some x:=by intro _;rfl)(hx:∀j,Loc (C.X j).env.scope x:=by intro _;first|exact zBi rfl|exact zBM rfl)(hsw:∀j,zBy (.ListComp elt [⟨tg,iter,ifs,0⟩] sc pos) (some (.Name x pos')) spos.line (C.X j).env=pure true:=by intro _;rfl)(hs:∀i x,zBx iter (C.X i).env x=pure x:=by intro _ _;rfl)(hf:∀j,(C.X j).fn x=true\/(C.X j).env.scope.names.lookup x=some .local:=by intro _;first|exact .inl rfl|exact .inr rfl)(nd:∀j,(C.X j).N.Nodup:=by intro _;assumption)(hB:∀i,gH (C.X i) sc N (stV js) ks:=by intro _;exact aAM rfl rfl rfl rfl rfl rfl):
  SV C i (.Assign [.Name x pos'] (.ListComp elt [⟨tg,iter,ifs,0⟩] sc pos) spos) (some []) (lcD fi js fg ft fe):=by
 obtain⟨wi,i1,i2⟩:=hi;obtain⟨g,g1,g2,g3,g4⟩:=hg;obtain⟨tt,t1,t2⟩:=ht;obtain⟨te,e1,e2⟩:=he;exact⟨_,λ j=>xQ (nd j) (hN j) (hx j) (hB j) (C.calm j) (i1 j) (λ c fp z5 zS=>g1 (j,c,fp,z5,zS)) g3 (λ c fp z5 zS=>t1 (j,c,fp,z5,zS)) (λ c fp z5 zS=>e1 (j,c,fp,z5,zS)) (hsw j) (hs j) (hf j),aCL i2 g2 t2 e2⟩
end
def RR.mut{K:zAA}(R:RR K G τ Y Z H lab)(ev:Z[i]? =some (some v))(hl:H l=some o)(ho:iQ o=true)(yY:(lab l).1=i+2)
  (B:iu l H H')(h':fX K H' lab i v s'):RR K G τ (Y.set i s') Z H' lab:=by
 refine⟨by rw[zAw];exact R.len,λ j x e=>?_,λ b u hb=>B b u (λ z=>?_) (R.old b u hb),R.new,λ q hq=>(R.tm q hq).but B hl ho λ z=>by lia⟩
 .by_cases hj:i=j
  .subst hj
   have hi:i<Y.length:=by
    have:=(zAM.mp e).1
    rwa [zAw]at this
   rw[zBE hi]at e;cases e;exact .inr ⟨v,ev,h'⟩
  .rw[zBC hj]at e
   rcases R.sl j x e with z|⟨u,e1,e2⟩
   .exact .inl z
   .refine .inr ⟨u,e1,?_⟩
    cases x with
    |no=>trivial
    |sh d=>exact Rp.but B hl ho (λ z=>by lia) e2
    |nw d=>exact Rp.but B hl ho (λ z=>by lia) e2
    |ow d=>exact⟨Rp.but B hl ho (λ z=>by lia) e2.1,e2.2⟩
    |oz d=>
     obtain⟨a,xs,ds,q1,q2,q3,q4,q5⟩:=e2;exact⟨a,xs,ds,q1,q2,B a _ (λ z=>by subst z;exact hj (by lia)) q3,q4,Rps.but B hl ho (λ z=>by lia) q5⟩
    |o2 ll=>
     obtain⟨a,xs,q1,q2,q3,q4,q5⟩:=e2;refine⟨a,xs,q1,B a _ (λ z=>?_) q2,q3,q4,λ jj y ds f1 f2=>(q5 jj y ds f1 f2).but B hl ho λ z=>?_⟩
     .rw[z]at q3;rw[q3]at yY;exact hj (by simpa using yY.symm)
     .rw[z]at yY;exact hj (by simpa using yY.symm)
 .subst z
  have:=R.new b (by rw[yY];lia)
  rw[this]at hb;cases hb
section
variable{C:Ct}{pos apos cpos p:Pos}{e a:Expr}{fe fa:En->Rs D}{i:Nat}{x:Str}{m:Mode}
def qX(i:Nat)(fe:En->Rs D):En->Ou:=λ Y=>match Y[i]? with
 |some (.ow (.lst ds))=>(fe Y).bo λ d=>if ds.length<zAN then .nx (Y.set i (.ow (.lst (ds++[d]))))else .st
 |_=>.st
def kI(i:Nat)(he:SE C m e fe)(hm:okN m=true:=by rfl)(hN:∀j,(C.X j).N[i]? =some x:=by intro _;rfl)(hv:∀j,Vis (C.X j).env.scope x:=by intro _;first|exact zBi rfl|exact zBM (zBi rfl)|exact zBM (zBM rfl))(hd:Nd x:=by decide)
  (hcd:(x==("__classdict__":Str))=false:=by decide)(hs1:∀j,zAS [e] (C.X j).env=[(false,eval e (C.X j).env)]:=by intro _;rfl)
  (hbase:∀j,zC2 (.Name x p) "append" (C.X j).env (eval (.Name x p) (C.X j).env)=eval (.Name x p) (C.X j).env:=by intro _;rfl)
  (hfew:∀j,((zBg cpos (zAS [e] (C.X j).env)).all (λ x=>!x.1)&&(zD0 cpos (zCV [] (C.X j).env)).all (λ x=>x.1.isSome)&&decide ([e].length+([]:List zBw).length+(if ([]:List zBw).isEmpty then 0 else 1)<30))=true:=by intro _;rfl)
  (hline:(apos.endLine==cpos.line)=true:=by rfl)
  (hsw:∀j,zBy (.Call (.Attribute (.Name x p) "append" apos) [e] [] cpos) none pos.line (C.X j).env=pure false:=by intro _;rfl):
  SS C (.Expr (.Call (.Attribute (.Name x p) "append" apos) [e] [] cpos) pos) (qX i fe):=by
 obtain⟨t,h1,h2⟩:=he;refine⟨uP (tBM C.K "list" rN (nC i) (eU t lr)),λ j=>kW (by rw[<-C.hK j];exact xT zBm zD1 zE9 sH (fL (hN j) (hv j) hd hcd) (dg (h1 j) jE (hs1 j)) (hbase j) (hfew j) hline (hs1 j) rfl) (hsw j),λ τ Z H Y lab De R W=>?_⟩;unfold qX at W;cases es:Y[i]? with
 |none=>rw[es]at W;exact zAH W
 |some s=>
  rw[es]at W;split at W
  .rename_i ds hs
   cases hs;rcases R.sl i _ es with z|⟨v,ev,hv'⟩
   .cases z
   .obtain⟨hv1,htop⟩:=hv'
    obtain⟨a0,ea0,la0⟩:=htop rfl;subst ea0;cases hv1 with
    |lst h mm r=>
     rename_i xs;refine⟨.ref a0,ev,.inl ⟨rfl,xs,SqL.of h⟩,h2 τ Z H Y lab _ R (W.bo.imp λ d _ w y H2 s2 r2=>?_)⟩;by_cases hz:ds.length<zAN
     .rw[if_pos hz]at w
      refine⟨a0,xs,y,rfl,rfl,s2 _ _ h,by rw[r.length];exact hz,λ H3 B h3=>?_⟩;obtain⟨R',r'⟩:=R.fresh (P:=λ k=>k=1) rfl (λ k hk=>beq_iff_eq.mp (gY hm k hk)) s2 r2;have la:(bC H 1 lab a0).1=i+2:=by rw[aZ h];exact la0
      refine w Z H3 _ (R'.mut ev (s2 _ _ h) rfl la B ⟨.lst h3 (.inr la) ?_,λ _=>⟨a0,rfl,la⟩⟩);have ra:Rps C.K (λ p=>((bC H 1 lab p).1=1\/(bC H 1 lab p).1=i+2)/\p≠a0) H2 (xs++[y]) (ds++[d]):=by
       refine(r.mono s2 λ p o e z=>⟨by rw[aZ e];exact z.1,z.2⟩).append (.cons (r'.wk λ p o e z=>⟨.inl z,λ q=>?_⟩) .nil);subst q;rw[la]at z;lia
      exact ra.but B (s2 _ _ h) rfl λ z=>z.2 rfl
     .rw[if_neg hz]at w
      exact zAH w
  .exact zAH W
def at2(ll:dP):D->Option (Nat×List D)
 | .int n=>(ixN ll.length n).bind λ j=>(ll[j]?).map λ ds=>(j,ds)
 |_=>none
def eN(i:Nat)(fa fe:En->Rs D):En->Ou:=λ Y=>match Y[i]? with
 |some (.o2 ll)=>(fa Y).bo λ k=>match at2 ll k with
  |some (j,ds)=>(fe Y).bo λ d=>if ds.length<zAN then .nx (Y.set i (.o2 (ll.set j (ds++[d]))))else .st
  |none=>.st
 |_=>.st
def aDg(h:at2 ll k=some (j,ds)):∃n,k= .int n/\ixN ll.length n=some j/\ll[j]? =some ds:=by
 cases k with
 |int n=>
  simp only[at2,Option.bind_eq_some_iff,zCc]at h;obtain⟨j',h1,ds',h2,h3⟩:=h;cases h3;exact⟨n,rfl,h1,h2⟩
 |_=>cases h
def rA(i:Nat){p2:Pos}(ha:SE C m a fa)(he:SE C (some []) e fe)(hN:∀j,(C.X j).N[i]? =some x:=by intro _;rfl)(hv:∀j,Vis (C.X j).env.scope x:=by intro _;first|exact zBi rfl|exact zBM (zBi rfl)|exact zBM (zBM rfl))(hd:Nd x:=by decide)
  (hcd:(x==("__classdict__":Str))=false:=by decide)(hs1:∀j,zAS [e] (C.X j).env=[(false,eval e (C.X j).env)]:=by intro _;rfl)(hp:qp a:=by exact λ _ _=>rfl)
  (hbase:∀j,zC2 (.Subscript (.Name x p) a p2) "append" (C.X j).env (eval (.Subscript (.Name x p) a p2) (C.X j).env)=eval (.Subscript (.Name x p) a p2) (C.X j).env:=by intro _;rfl)
  (hfew:∀j,((zBg cpos (zAS [e] (C.X j).env)).all (λ x=>!x.1)&&(zD0 cpos (zCV [] (C.X j).env)).all (λ x=>x.1.isSome)&&decide ([e].length+([]:List zBw).length+(if ([]:List zBw).isEmpty then 0 else 1)<30))=true:=by intro _;rfl)
  (hline:(apos.endLine==cpos.line)=true:=by rfl)
  (hsw:∀j,zBy (.Call (.Attribute (.Subscript (.Name x p) a p2) "append" apos) [e] [] cpos) none pos.line (C.X j).env=pure false:=by intro _;rfl):
  SS C (.Expr (.Call (.Attribute (.Subscript (.Name x p) a p2) "append" apos) [e] [] cpos) pos) (eN i fa fe):=by
 obtain⟨t,h1,h2⟩:=he;obtain⟨ta,a1,a2⟩:=ha;refine⟨uP (tBM C.K "list" rN (tOp (aGl C.K) (nC i) ta) (eU t lr)),λ j=>kW (by rw[<-C.hK j];exact xT zBm zD1 zE9 sH (aGH aAl (fL (hN j) (hv j) hd hcd) (a1 j) hp) (dg (h1 j) jE (hs1 j)) (hbase j) (hfew j) hline (hs1 j) rfl) (hsw j),λ τ Z H Y lab De R W=>?_⟩;unfold eN at W;cases es:Y[i]? with
 |none=>rw[es]at W;exact zAH W
 |some s=>
  rw[es]at W;cases s with
  |o2 ll=>
   dsimp only at W;rcases R.sl i _ es with z|⟨v,ev,top,xs,rfl,ht,hlt,hW,hin⟩
   .cases z
   .refine⟨.ref top,ev,a2 τ Z H Y lab _ R (W.bo.imp λ k _ w kv H1 s1 r1=>?_)⟩
    cases hk:at2 ll k with
    |none=>rw[hk]at w;exact zAH w
    |some q=>
     obtain⟨j,ds⟩:=q;rw[hk]at w;dsimp only at w;obtain⟨n,rfl,hj,hds⟩:=aDg hk;cases r1;have hjx:∃xj,xs[j]? =some xj:=by
      have:j<xs.length:=by rw[hW];exact(zAM.mp hds).1
      exact⟨_,zAD this⟩
     obtain⟨xj,hxj⟩:=hjx;have hr:=hin j xj ds hxj hds;cases hr with
     |lst hl ml rl=>
      rename_i l ys;refine⟨top,xs,n,.ref l,rfl,rfl,SqL.of (s1 _ _ ht),by unfold atI;rw[hW,hj];exact hxj,.inl ⟨rfl,ys,SqL.of (s1 _ _ hl)⟩,h2 τ Z H1 Y lab _ (R.up s1) (w.bo.imp λ d _ w y H2 s2 r2=>?_)⟩;by_cases hz:ds.length<zAN
      .rw[if_pos hz]at w
       have s12:=s1.trans s2;refine⟨l,ys,y,rfl,rfl,s12 _ _ hl,by rw[rl.length];exact hz,λ H3 B h3=>?_⟩;have ltop:l≠top:=λ e=>by rw[e,hlt]at ml;cases ml
       let lab':Lab:=λ p=>match H1 p with
        |none=>(i+2,j+1)
        |some _=>lab p
       have lo:∀{p o},H1 p=some o->lab' p=lab p:=λ{p o} e=>by show(match H1 p with|none=>_|some _=>_)=_;rw[e]
       have ln:∀{p},H1 p=none->lab' p=(i+2,j+1):=λ{p} e=>by show(match H1 p with|none=>_|some _=>_)=_;rw[e]
       have R':RR C.K C.G τ Y Z H2 lab':=((R.up s1).relab (λ p o e=>lo e) λ p hp=>by
        cases e:H1 p with
        |none=>exact(R.old.trans s1).free e
        |some o=>rw[lo e]at hp;exact R.new p hp).up s2
       have bP:lab' l=(i+2,j+1):=by rw[lo (s1 _ _ hl)];exact ml
       refine w Z H3 lab' (R'.mut ev (s12 _ _ hl) rfl (by rw[bP]) B ⟨top,xs,rfl,B _ _ (zDT ltop) (s12 _ _ ht),by rw[lo (s1 _ _ ht)];exact hlt,by rw[zAw];exact hW,λ jj z dz f1 f2=>?_⟩);by_cases hjj:j=jj
       .subst hjj
        rw[hxj]at f1;cases f1;rw[zBE (zAM.mp hds).1]at f2;cases f2;refine .lst h3 bP ?_;have ra:Rps C.K (λ p=>lab' p=(i+2,j+1)/\p≠l) H2 (ys++[y]) (ds++[d]):=by
         refine(rl.mono s12 λ p o e z=>⟨by rw[lo (s1 _ _ e)];exact z.1,z.2⟩).append (.cons (r2.wk λ p o e z=>?_) .nil);rcases z with z|z
         .exact⟨ln z,λ q=>by subst q;rw[s1 _ _ hl]at z;cases z⟩
         .cases z
        exact ra.but B (s12 _ _ hl) rfl λ z=>z.2 rfl
       .rw[zBC hjj]at f2
        refine((hin jj z dz f1 f2).mono s12 (A':=λ p=>lab' p=(i+2,jj+1)) λ p o e q=>by rw[lo (s1 _ _ e)];exact q).but B (s12 _ _ hl) rfl λ q=>?_
        rw[bP]at q;simp only[Prod.mk.injEq]at q;lia
      .rw[if_neg hz]at w
       exact zAH w
  |_=>exact zAH W
end
mutual
def eqD:D->D->Bool
 | .non,.non=>true
 | .bl a,.bl b=>a==b
 | .bl a,.int b=>(if a then 1 else 0)==b
 | .int a,.bl b=>a==(if b then 1 else 0)
 | .int a,.int b=>a==b
 | .str a,.str b=>a==b
 | .tup l,.tup m=>jy l m
 | .lst l,.lst m=>jy l m
 |_,_=>false
def jy:List D->List D->Bool
 |[],[]=>true
 |x::xs,y::ys=>eqD x y&&jy xs ys
 |_,_=>false
end
mutual
def gR:D->Nat
 | .tup l=>bQ l+1
 | .lst l=>bQ l+1
 |_=>0
def bQ:List D->Nat
 |[]=>0
 |d::r=>max (gR d) (bQ r)
end
mutual
def aV:D->Bool
 | .tup l=>aX l
 | .lst l=>aX l
 | .dct _ _=>false
 | .set _=>false
 | .scr _=>false
 | .fn _=>false
 | .itm _ _=>false
 |_=>true
def aX:List D->Bool
 |[]=>true
 |d::r=>aV d&&aX r
end
mutual
theorem nT:∀d:D,aV d=true->eqD d d=true
 | .non,_=>by simp[eqD]
 | .bl b,_=>by simp[eqD]
 | .int i,_=>by simp[eqD]
 | .str x,_=>by simp[eqD]
 | .tup l,h=>by exact pF l (by simpa[aV]using h)
 | .lst l,h=>by exact pF l (by simpa[aV]using h)
 | .dct _ _,h=>by simp[aV]at h
 | .set _,h=>by simp[aV]at h
 | .scr _,h=>by simp[aV]at h
theorem pF:∀l:List D,aX l=true->jy l l=true
 |[],_=>by simp[jy]
 |d::r,h=>by
  simp only[aX,zAU]at h;simp only[jy,zAU];exact⟨nT d h.1,pF r h.2⟩
end
structure fB(K:zAA)(H:Hp)(s:zAC):Prop where
 tup:∀{a:Addr} {xs:List V},SqT K H a xs->∃its:List Value,Vals xs its/\s.heap.IsTuple a its.toArray
 lst:∀{a:Addr} {xs:List V},H a=some (.lst xs)->∃its:List Value,Vals xs its/\s.heap.IsList a its.toArray
 inj:∀{a:Addr} {xs ys:List V},SqT K H a xs->SqT K H a ys->xs=ys
 ne:∀{a:Addr} {xs ys:List V},SqT K H a xs->H a=some (.lst ys)->False
def Inv.seqOk(I:L2.Inv X hV Z H s):fB X.K H s where
 tup:=λ h=>let⟨its,r,p,_⟩:=I.tuple h;⟨its,r,p⟩
 lst:=λ h=>let⟨its,r,p,_⟩:=I.list (SqL.of h);⟨its,r,p.isList⟩
 inj:=λ h h'=>I.tuple_inj h h'
 ne:=λ h h'=>by
  obtain⟨its,_,⟨o,e,c,_⟩,_⟩:=I.tuple h;obtain⟨its2,_,⟨o2,n2,e2,c2,_⟩,_⟩:=I.list (SqL.of h');rw[e]at e2;cases e2;rw[c]at c2;injection c2 with c3
  exact absurd c3 (by decide)
section
variable{K:zAA}{H:Hp}{s:zAC}
def ndP:D->Prop
 | .dct _ _=>False
 | .set _=>False
 | .scr _=>False
 | .fn _=>False
 | .itm _ _=>False
 |_=>True
def ndx{d:D}(h:aV d=true):ndP d:=by cases d<;>first|exact zCN|(simp[aV]at h)
def au(h:aV (.dct a b)=true):False:=by simp[aV]at h
def dF(h:aV (.set a)=true):False:=by simp[aV]at h
def dG(h:aV (.scr a)=true):False:=by simp[aV]at h
def eZ(h:aV (.fn a)=true):False:=by simp[aV]at h
def dH(h:aV (.itm o a)=true):False:=by simp[aV]at h
def cP(h:aV (.tup a)=true):aX a=true:=by simpa[aV]using h
def gh(h:aV (.lst a)=true):aX a=true:=by simpa[aV]using h
def cL(h:aX (d::a)=true):aV d=true/\aX a=true:=by
 simp only[aX,zAU]at h;exact h
def aFj(K:zAA)(s:zAC)(H:Hp)(x:V)(d:D):Prop:=fB K H s->∀(A':Addr->Prop) (e:D),Rp K A' H x e->aV d=true->aV e=true->d=e
def ye(K:zAA)(s:zAC)(H:Hp)(xs:List V)(ds:List D):Prop:=fB K H s->∀(A':Addr->Prop) (es:List D),Rps K A' H xs es->aX ds=true->aX es=true->ds=es
def aFM(ha:SqT K H a xs)(ih:ye K s H xs ds):aFj K s H (.ref a) (.tup ds):=λ ok A' e h n1 n2=>by
 cases h with
 |tup hb r'=>
  have e:=ok.inj ha hb;subst e;rw[ih ok _ _ r' (cP n1) (cP n2)]
 |lst hb _ _=>exact(ok.ne ha hb).elim
 |_=>exact zAH (ndx n2)
def aFN(ha:H a=some (.lst xs))(ih:ye K s H xs ds):aFj K s H (.ref a) (.lst ds):=λ ok A' e h n1 n2=>by
 cases h with
 |tup hb r'=>exact(ok.ne hb ha).elim
 |lst hb _ r'=>
  rw[ha]at hb;cases hb;rw[ih ok _ _ r' (gh n1) (gh n2)]
 |_=>exact zAH (ndx n2)
def aDL(h1:aFj K s H x d)(h2:ye K s H xs ds):ye K s H (x::xs) (d::ds):=λ ok A' es h n1 n2=>by
 cases h with
 |cons k r'=>rw[h1 ok _ _ k (cL n1).1 (cL n2).1,h2 ok _ _ r' (cL n1).2 (cL n2).2]
def Rp.inj(ok:fB K H s)(r:Rp K A H x d)(h:Rp K A' H x e)(n1:aV d=true)(n2:aV e=true):d=e:=
 Rp.rec (motive_1:=λ _ H x d _=>aFj K s H x d) (motive_2:=λ _ H xs ds _=>ye K s H xs ds)
  (λ _ _ _ h _ _=>by cases h;rfl) (λ _ _ _ _ h _ _=>by cases h;rfl) (λ _ _ _ _ h _ _=>by cases h;rfl) (λ _ _ _ _ h _ _=>by cases h;rfl) (λ ha _ ih=>aFM ha ih) (λ ha _ _ ih=>aFN ha ih)
  (λ _ _ _ _ _ _ _ _ n1 _=>(au n1).elim) (λ _ _ _ _ _ _ _ _ n1 _=>(au n1).elim) (λ _ _ _ _ _ _ _ _ n1 _=>(dF n1).elim) (λ _ _ _ _ _ n1 _=>(dG n1).elim) (λ _ _ _ _ _ n1 _=>(eZ n1).elim) (λ _ _ _ _ _ n1 _=>(dH n1).elim)
  (λ _ _ _ h _ _=>by cases h;rfl) (λ _ _ h1 h2=>aDL h1 h2) r ok A' e h n1 n2
end
theorem yM:∀(l m:List D),jy l m=((zAp (min l.length m.length)).all (λ j=>match l[j]?,m[j]? with|some a,some b=>eqD a b|_,_=>true)&&l.length==m.length)
 |[],[]=>by simp[jy]
 |[],y::ys=>by simp[jy]
 |x::xs,[]=>by simp[jy]
 |x::xs,y::ys=>by
  have ih:=yM xs ys;simp only[jy,ih,zA2,Nat.succ_min_succ,List.range_succ_eq_map,zGX,List.all_map,zBA,Function.comp_def,zBN,Nat.succ_eq_add_one,Nat.add_one_inj,zDo];congr 1;congr 1;simp
theorem jP:∀{l:List D} {d:D},d∈l->gR d<=bQ l
 |x::r,d,h=>by
  simp only[bQ];rcases zAV.mp h with rfl|h
  .exact zGP _ _
  .exact zAi (jP h) (zGL _ _)
theorem cM:∀{l:List D} {d:D},d∈l->aX l=true->aV d=true
 |x::r,d,h,n=>by
  simp only[aX,zAU]at n;rcases zAV.mp h with rfl|h
  .exact n.1
  .exact cM h n.2
def iU(hn:n=ds.length)(hm:m=es.length):((zAp (min n m)).all (λ j=>match ds[j]?,es[j]? with|some a,some b=>eqD a b|_,_=>true)&&n==m)=jy ds es:=by
 subst hn hm;exact(yM ds es).symm
section
variable{K:zAA}{H:Hp}{s:zAC}
def aDq(K:zAA)(H:Hp)(s:zAC)(n:Nat):Prop:=∀(A1 A2:Addr->Prop) (x y:V) (d e:D) (A:zA3) (u v:Value),Rp K A1 H x d->Rp K A2 H y e->RelV x u->RelV y v->gR d<=n->aV d=true->aV e=true->A.units+n<cLine->zC6 A s u v (eqD d e)
def aDr(K:zAA)(H:Hp)(s:zAC)(n:Nat):Prop:=∀(A1 A2:Addr->Prop) (xs ys:List V) (ds es:List D) (A:zA3) (us vs:List Value),Rps K A1 H xs ds->Rps K A2 H ys es->Vals xs us->Vals ys vs->bQ ds<=n->aX ds=true->aX es=true->A.units+n<cLine->
  ∀(j:Nat) (h1:j<us.toArray.size) (h2:j<vs.toArray.size),zC6 A s us.toArray[j] vs.toArray[j] (match ds[j]?,es[j]? with|some a,some b=>eqD a b|_,_=>true)
def tK(ok:fB K H s)(n:Nat)(IH:∀k,n=k+1->aDr K H s k):aDq K H s n:=by
 intro A1 A2 x y d e A u v r1 r2 ru rv hd nd ne hu;have hu0:A.units<cLine:=by lia
 cases r1 with
 |tup h1 q1=>
  rename_i a xs ds;cases ru;obtain⟨its,w1,t1⟩:=ok.tup h1;cases r2 with
  |tup h2 q2=>
   rename_i b ys es;cases rv;obtain⟨its2,w2,t2⟩:=ok.tup h2;by_cases hab:a=b
   .subst hab
    have e:=Rp.inj ok (Rp.tup h1 q1) (Rp.tup h2 q2) nd ne;rw[<-e,nT _ nd];exact zEG _
   .simp only[gR]at hd
    obtain⟨k,rfl⟩:∃k,n=k+1:=⟨n-1,by lia⟩
    have z:=zEz t1 t2 hu0 (IH k rfl _ _ _ _ _ _ _ _ _ q1 q2 w1 w2 (by lia) (cP nd) (cP ne) (by show A.units+1+k<cLine;lia));rw[iU (by rw[zAI,<-w1.length,q1.length]) (by rw[zAI,<-w2.length,q2.length])]at z;simp only[eqD];exact zDg hab z
  |lst h2 mm2 q2=>
   cases rv;obtain⟨its2,w2,t2⟩:=ok.lst h2;simp only[eqD];exact SeqAt.EqAt.tuple_list t1 t2 hu0
  |non=>cases rv;exact SeqAt.EqAt.tuple_none t1 hu0
  |bl b=>cases rv;exact SeqAt.EqAt.tuple_bool b t1 hu0
  |int i=>obtain⟨tk,rfl⟩:=rv;exact SeqAt.EqAt.tuple_int i tk t1 hu0
  |str i=>obtain⟨tk,rfl⟩:=rv;exact SeqAt.EqAt.tuple_str i tk t1 hu0
  |_=>exact zAH (ndx ne)
 |lst h1 mm1 q1=>
  rename_i a xs ds;cases ru;obtain⟨its,w1,t1⟩:=ok.lst h1;cases r2 with
  |lst h2 mm2 q2=>
   rename_i b ys es;cases rv;obtain⟨its2,w2,t2⟩:=ok.lst h2;by_cases hab:a=b
   .subst hab
    have e:=Rp.inj ok (Rp.lst h1 mm1 q1) (Rp.lst h2 mm2 q2) nd ne;rw[<-e,nT _ nd];exact zEG _
   .simp only[gR]at hd
    obtain⟨k,rfl⟩:∃k,n=k+1:=⟨n-1,by lia⟩
    have l1:its.toArray.size=ds.length:=by rw[zAI,<-w1.length,q1.length]
    have l2:its2.toArray.size=es.length:=by rw[zAI,<-w2.length,q2.length]
    by_cases hl:its.toArray.size=its2.toArray.size
    .have z:=zFH t1 t2 hl hu0 (IH k rfl _ _ _ _ _ _ _ _ _ q1 q2 w1 w2 (by lia) (gh nd) (gh ne) (by show A.units+1+k<cLine;lia))
     have z':=iU (ds:=ds) (es:=es) l1 l2;rw[<-hl,zEW,beq_self_eq_true,zCJ]at z';rw[z']at z;simp only[eqD];exact zDg hab z
    .have z:=zES t1 t2 (by simpa using hl) hu0
     have z':=iU (ds:=ds) (es:=es) l1 l2;rw[beq_eq_false_iff_ne.mpr hl,zDp]at z';simp only[eqD];rw[<-z'];exact zDg hab z
  |tup h2 q2=>
   cases rv;obtain⟨its2,w2,t2⟩:=ok.tup h2;simp only[eqD];exact SeqAt.EqAt.list_tuple t1 t2 hu0
  |non=>cases rv;exact SeqAt.EqAt.list_none t1 hu0
  |bl b=>cases rv;exact SeqAt.EqAt.list_bool b t1 hu0
  |int i=>obtain⟨tk,rfl⟩:=rv;exact SeqAt.EqAt.list_int i tk t1 hu0
  |str i=>obtain⟨tk,rfl⟩:=rv;exact SeqAt.EqAt.list_str i tk t1 hu0
  |_=>exact zAH (ndx ne)
 |non=>
  cases ru;cases r2 with
  |tup h2 q2=>cases rv;obtain⟨_,_,t2⟩:=ok.tup h2;exact SeqAt.EqAt.none_tuple t2 hu0
  |lst h2 mm2 q2=>cases rv;obtain⟨_,_,t2⟩:=ok.lst h2;exact SeqAt.EqAt.none_list t2 hu0
  |dK _ _ _=>exact(au ne).elim
  |dT _ _ _=>exact(au ne).elim
  |set _ _ _ _=>exact(dF ne).elim
  |scr _=>exact(dG ne).elim
  |fn _=>exact(eZ ne).elim
  |itm _=>exact(dH ne).elim
  |non=>cases rv;exact zEG _
  |bl b=>cases rv;exact SeqAt.EqAt.none_bool b
  |int i=>obtain⟨tk,rfl⟩:=rv;exact SeqAt.EqAt.none_int i tk
  |str i=>obtain⟨tk,rfl⟩:=rv;exact SeqAt.EqAt.none_str i tk
 |bl a=>
  cases ru;cases r2 with
  |tup h2 q2=>cases rv;obtain⟨_,_,t2⟩:=ok.tup h2;exact SeqAt.EqAt.bool_tuple a t2 hu0
  |lst h2 mm2 q2=>cases rv;obtain⟨_,_,t2⟩:=ok.lst h2;exact SeqAt.EqAt.bool_list a t2 hu0
  |dK _ _ _=>exact(au ne).elim
  |dT _ _ _=>exact(au ne).elim
  |set _ _ _ _=>exact(dF ne).elim
  |scr _=>exact(dG ne).elim
  |fn _=>exact(eZ ne).elim
  |itm _=>exact(dH ne).elim
  |non=>cases rv;exact SeqAt.EqAt.bool_none a
  |bl b=>cases rv;exact SeqAt.EqAt.bool_bool a b
  |int i=>obtain⟨tk,rfl⟩:=rv;exact SeqAt.EqAt.bool_int a i tk
  |str i=>obtain⟨tk,rfl⟩:=rv;exact SeqAt.EqAt.bool_str a i tk
 |int a=>
  obtain⟨tu,rfl⟩:=ru;cases r2 with
  |tup h2 q2=>cases rv;obtain⟨_,_,t2⟩:=ok.tup h2;exact SeqAt.EqAt.int_tuple a tu t2 hu0
  |lst h2 mm2 q2=>cases rv;obtain⟨_,_,t2⟩:=ok.lst h2;exact SeqAt.EqAt.int_list a tu t2 hu0
  |dK _ _ _=>exact(au ne).elim
  |dT _ _ _=>exact(au ne).elim
  |set _ _ _ _=>exact(dF ne).elim
  |scr _=>exact(dG ne).elim
  |fn _=>exact(eZ ne).elim
  |itm _=>exact(dH ne).elim
  |non=>cases rv;exact SeqAt.EqAt.int_none a tu
  |bl b=>cases rv;exact SeqAt.EqAt.int_bool a tu b
  |int i=>obtain⟨tk,rfl⟩:=rv;exact zEq a tu i tk
  |str i=>obtain⟨tk,rfl⟩:=rv;exact zEr a tu i tk
 |str a=>
  obtain⟨tu,rfl⟩:=ru;cases r2 with
  |tup h2 q2=>cases rv;obtain⟨_,_,t2⟩:=ok.tup h2;exact SeqAt.EqAt.str_tuple a tu t2 hu0
  |lst h2 mm2 q2=>cases rv;obtain⟨_,_,t2⟩:=ok.lst h2;exact SeqAt.EqAt.str_list a tu t2 hu0
  |dK _ _ _=>exact(au ne).elim
  |dT _ _ _=>exact(au ne).elim
  |set _ _ _ _=>exact(dF ne).elim
  |scr _=>exact(dG ne).elim
  |fn _=>exact(eZ ne).elim
  |itm _=>exact(dH ne).elim
  |non=>cases rv;exact SeqAt.EqAt.str_none a tu
  |bl b=>cases rv;exact SeqAt.EqAt.str_bool a tu b
  |int i=>obtain⟨tk,rfl⟩:=rv;exact zEs a tu i tk
  |str i=>obtain⟨tk,rfl⟩:=rv;exact SeqAt.EqAt.str_str a tu i tk
 |_=>exact zAH (ndx nd)
def ux(ok:fB K H s)(n:Nat)(IH:aDq K H s n):aDr K H s n:=by
 intro A1 A2 xs ys ds es A us vs q1 q2 w1 w2 hd nd ne hu j h1 h2;have hj1:j<us.length:=by simpa using h1
 have hj2:j<vs.length:=by simpa using h2
 have hx:j<xs.length:=by rw[w1.length];exact hj1
 have hy:j<ys.length:=by rw[w2.length];exact hj2
 have ex:=zAD hx;have ey:=zAD hy;obtain⟨d,ed,rd⟩:=q1.get ex;obtain⟨e,ee,re⟩:=q2.get ey;obtain⟨u,eu,ru⟩:=w1.get ex;obtain⟨v,ev,rv⟩:=w2.get ey;have e1:us.toArray[j]=u:=by
  rw[zCQ];exact zAb ((zAD hj1).symm.trans eu)
 have e2:vs.toArray[j]=v:=by
  rw[zCQ];exact zAb ((zAD hj2).symm.trans ev)
 rw[e1,e2,ed,ee];exact IH _ _ _ _ _ _ _ _ _ rd re ru rv (zAi (jP (zA0 ed)) hd) (cM (zA0 ed) nd) (cM (zA0 ee) ne) hu
theorem aD5(ok:fB K H s):∀n,aDq K H s n
 |0=>tK ok 0 λ k h=>absurd h (by simp)
 |n+1=>tK ok (n+1) λ k h=>by
  have h':=Nat.succ.inj h;subst h';exact ux ok n (aD5 ok n)
def aAI(ok:fB K H s):∀{A1 A2:Addr->Prop} {x y:V} {d e:D} (n:Nat) {A:zA3} {u v:Value},Rp K A1 H x d->Rp K A2 H y e->RelV x u->RelV y v->gR d<=n->aV d=true->aV e=true->A.units+n<cLine->zC6 A s u v (eqD d e)
 |_,_,_,_,_,_,n,A,u,v,r1,r2,ru,rv,hd,nd,ne,hu=>aD5 ok n _ _ _ _ _ _ _ _ _ r1 r2 ru rv hd nd ne hu
def aGO(ok:fB K H s):∀{A1 A2:Addr->Prop} {xs ys:List V} {ds es:List D} (n:Nat) {A:zA3} {us vs:List Value},Rps K A1 H xs ds->Rps K A2 H ys es->Vals xs us->Vals ys vs->bQ ds<=n->aX ds=true->aX es=true->A.units+n<cLine->
  ∀(j:Nat) (h1:j<us.toArray.size) (h2:j<vs.toArray.size),zC6 A s us.toArray[j] vs.toArray[j] (match ds[j]?,es[j]? with|some a,some b=>eqD a b|_,_=>true)
 |_,_,xs,ys,ds,es,n,A,us,vs,q1,q2,w1,w2,hd,nd,ne,hu,j,h1,h2=>ux ok n (aD5 ok n) _ _ _ _ _ _ _ _ _ q1 q2 w1 w2 hd nd ne hu j h1 h2
def aC1(ok:fB K H s)(n:Nat)(r1:Rp K A1 H x d)(r2:Rp K A2 H y e)(ru:RelV x u)(rv:RelV y v)(hd:gR d<=n)(nd:aV d=true)(ne:aV e=true)(hu:A.units+n<cLine):
  SeqAt.RcAt A s u v (eqD d e)/\SeqAt.RcNeAt A s u v (!eqD d e):=by
 have hu0:A.units<cLine:=by lia
 cases r1 with
 |tup h1 q1=>
  rename_i a xs ds;cases ru;obtain⟨its,w1,t1⟩:=ok.tup h1;cases r2 with
  |tup h2 q2=>
   rename_i b ys es;cases rv;obtain⟨its2,w2,t2⟩:=ok.tup h2;simp only[gR]at hd;obtain⟨k,rfl⟩:∃k,n=k+1:=⟨n-1,by lia⟩
   have he:=aGO ok (A:=A.in1) k q1 q2 w1 w2 (by lia) (cP nd) (cP ne) (by show A.units+1+k<cLine;lia);have z:=zEz t1 t2 hu0 he;have z2:=SeqAt.RcNeAt.tuples t1 t2 hu0 he;rw[iU (by rw[zAI,<-w1.length,q1.length]) (by rw[zAI,<-w2.length,q2.length])]at z z2;simp only[eqD];exact⟨z,z2⟩
  |lst h2 mm2 q2=>
   cases rv;obtain⟨its2,w2,t2⟩:=ok.lst h2;simp only[eqD];exact⟨SeqAt.RcAt.tuple_list t1 t2 hu0,SeqAt.RcNeAt.tuple_list t1 t2 hu0⟩
  |non=>cases rv;exact⟨SeqAt.RcAt.tuple_none t1 hu0,SeqAt.RcNeAt.tuple_none t1 hu0⟩
  |bl b=>cases rv;exact⟨SeqAt.RcAt.tuple_bool b t1 hu0,SeqAt.RcNeAt.tuple_bool b t1 hu0⟩
  |int i=>obtain⟨tk,rfl⟩:=rv;exact⟨SeqAt.RcAt.tuple_int i tk t1 hu0,SeqAt.RcNeAt.tuple_int i tk t1 hu0⟩
  |str i=>obtain⟨tk,rfl⟩:=rv;exact⟨SeqAt.RcAt.tuple_str i tk t1 hu0,SeqAt.RcNeAt.tuple_str i tk t1 hu0⟩
  |_=>exact zAH (ndx ne)
 |lst h1 mm1 q1=>
  rename_i a xs ds;cases ru;obtain⟨its,w1,t1⟩:=ok.lst h1;cases r2 with
  |lst h2 mm2 q2=>
   rename_i b ys es;cases rv;obtain⟨its2,w2,t2⟩:=ok.lst h2;simp only[gR]at hd;obtain⟨k,rfl⟩:∃k,n=k+1:=⟨n-1,by lia⟩
   have l1:its.toArray.size=ds.length:=by rw[zAI,<-w1.length,q1.length]
   have l2:its2.toArray.size=es.length:=by rw[zAI,<-w2.length,q2.length]
   have z':=iU (ds:=ds) (es:=es) l1 l2;by_cases hl:its.toArray.size=its2.toArray.size
   .have he:=aGO ok (A:=A.in1) k q1 q2 w1 w2 (by lia) (gh nd) (gh ne) (by show A.units+1+k<cLine;lia)
    have z:=zFH t1 t2 hl hu0 he;have z2:=SeqAt.RcNeAt.lists t1 t2 hl hu0 he;rw[<-hl,zEW,beq_self_eq_true,zCJ]at z';rw[z']at z z2;simp only[eqD];exact⟨z,z2⟩
   .rw[beq_eq_false_iff_ne.mpr hl,zDp]at z'
    simp only[eqD];rw[<-z'];exact⟨zES t1 t2 (by simpa using hl) hu0,SeqAt.RcNeAt.lists_lengths t1 t2 (by simpa using hl) hu0⟩
  |tup h2 q2=>
   cases rv;obtain⟨its2,w2,t2⟩:=ok.tup h2;simp only[eqD];exact⟨SeqAt.RcAt.list_tuple t1 t2 hu0,SeqAt.RcNeAt.list_tuple t1 t2 hu0⟩
  |non=>cases rv;exact⟨SeqAt.RcAt.list_none t1 hu0,SeqAt.RcNeAt.list_none t1 hu0⟩
  |bl b=>cases rv;exact⟨SeqAt.RcAt.list_bool b t1 hu0,SeqAt.RcNeAt.list_bool b t1 hu0⟩
  |int i=>obtain⟨tk,rfl⟩:=rv;exact⟨SeqAt.RcAt.list_int i tk t1 hu0,SeqAt.RcNeAt.list_int i tk t1 hu0⟩
  |str i=>obtain⟨tk,rfl⟩:=rv;exact⟨SeqAt.RcAt.list_str i tk t1 hu0,SeqAt.RcNeAt.list_str i tk t1 hu0⟩
  |_=>exact zAH (ndx ne)
 |non=>
  cases ru;cases r2 with
  |tup h2 q2=>cases rv;obtain⟨_,_,t2⟩:=ok.tup h2;exact⟨SeqAt.RcAt.none_tuple t2 hu0,SeqAt.RcNeAt.none_tuple t2 hu0⟩
  |lst h2 mm2 q2=>cases rv;obtain⟨_,_,t2⟩:=ok.lst h2;exact⟨SeqAt.RcAt.none_list t2 hu0,SeqAt.RcNeAt.none_list t2 hu0⟩
  |dK _ _ _=>exact(au ne).elim
  |dT _ _ _=>exact(au ne).elim
  |set _ _ _ _=>exact(dF ne).elim
  |scr _=>exact(dG ne).elim
  |fn _=>exact(eZ ne).elim
  |itm _=>exact(dH ne).elim
  |non=>cases rv;exact⟨SeqAt.RcAt.none_none,SeqAt.RcNeAt.none_none⟩
  |bl b=>cases rv;exact⟨SeqAt.RcAt.none_bool b,SeqAt.RcNeAt.none_bool b⟩
  |int i=>obtain⟨tk,rfl⟩:=rv;exact⟨SeqAt.RcAt.none_int i tk,SeqAt.RcNeAt.none_int i tk⟩
  |str i=>obtain⟨tk,rfl⟩:=rv;exact⟨SeqAt.RcAt.none_str i tk,SeqAt.RcNeAt.none_str i tk⟩
 |bl a=>
  cases ru;cases r2 with
  |tup h2 q2=>cases rv;obtain⟨_,_,t2⟩:=ok.tup h2;exact⟨SeqAt.RcAt.bool_tuple a t2 hu0,SeqAt.RcNeAt.bool_tuple a t2 hu0⟩
  |lst h2 mm2 q2=>cases rv;obtain⟨_,_,t2⟩:=ok.lst h2;exact⟨SeqAt.RcAt.bool_list a t2 hu0,SeqAt.RcNeAt.bool_list a t2 hu0⟩
  |dK _ _ _=>exact(au ne).elim
  |dT _ _ _=>exact(au ne).elim
  |set _ _ _ _=>exact(dF ne).elim
  |scr _=>exact(dG ne).elim
  |fn _=>exact(eZ ne).elim
  |itm _=>exact(dH ne).elim
  |non=>cases rv;exact⟨SeqAt.RcAt.bool_none a,SeqAt.RcNeAt.bool_none a⟩
  |bl b=>cases rv;exact⟨SeqAt.RcAt.bool_bool a b,SeqAt.RcNeAt.bool_bool a b⟩
  |int i=>obtain⟨tk,rfl⟩:=rv;exact⟨SeqAt.RcAt.bool_int a i tk,SeqAt.RcNeAt.bool_int a i tk⟩
  |str i=>obtain⟨tk,rfl⟩:=rv;exact⟨SeqAt.RcAt.bool_str a i tk,SeqAt.RcNeAt.bool_str a i tk⟩
 |int a=>
  obtain⟨tu,rfl⟩:=ru;cases r2 with
  |tup h2 q2=>cases rv;obtain⟨_,_,t2⟩:=ok.tup h2;exact⟨SeqAt.RcAt.int_tuple a tu t2 hu0,SeqAt.RcNeAt.int_tuple a tu t2 hu0⟩
  |lst h2 mm2 q2=>cases rv;obtain⟨_,_,t2⟩:=ok.lst h2;exact⟨SeqAt.RcAt.int_list a tu t2 hu0,SeqAt.RcNeAt.int_list a tu t2 hu0⟩
  |dK _ _ _=>exact(au ne).elim
  |dT _ _ _=>exact(au ne).elim
  |set _ _ _ _=>exact(dF ne).elim
  |scr _=>exact(dG ne).elim
  |fn _=>exact(eZ ne).elim
  |itm _=>exact(dH ne).elim
  |non=>cases rv;exact⟨SeqAt.RcAt.int_none a tu,SeqAt.RcNeAt.int_none a tu⟩
  |bl b=>cases rv;exact⟨SeqAt.RcAt.int_bool a tu b,SeqAt.RcNeAt.int_bool a tu b⟩
  |int i=>obtain⟨tk,rfl⟩:=rv;exact⟨SeqAt.RcAt.int_int a tu i tk,SeqAt.RcNeAt.int_int a tu i tk⟩
  |str i=>obtain⟨tk,rfl⟩:=rv;exact⟨SeqAt.RcAt.int_str a tu i tk,SeqAt.RcNeAt.int_str a tu i tk⟩
 |str a=>
  obtain⟨tu,rfl⟩:=ru;cases r2 with
  |tup h2 q2=>cases rv;obtain⟨_,_,t2⟩:=ok.tup h2;exact⟨SeqAt.RcAt.str_tuple a tu t2 hu0,SeqAt.RcNeAt.str_tuple a tu t2 hu0⟩
  |lst h2 mm2 q2=>cases rv;obtain⟨_,_,t2⟩:=ok.lst h2;exact⟨SeqAt.RcAt.str_list a tu t2 hu0,SeqAt.RcNeAt.str_list a tu t2 hu0⟩
  |dK _ _ _=>exact(au ne).elim
  |dT _ _ _=>exact(au ne).elim
  |set _ _ _ _=>exact(dF ne).elim
  |scr _=>exact(dG ne).elim
  |fn _=>exact(eZ ne).elim
  |itm _=>exact(dH ne).elim
  |non=>cases rv;exact⟨SeqAt.RcAt.str_none a tu,SeqAt.RcNeAt.str_none a tu⟩
  |bl b=>cases rv;exact⟨SeqAt.RcAt.str_bool a tu b,SeqAt.RcNeAt.str_bool a tu b⟩
  |int i=>obtain⟨tk,rfl⟩:=rv;exact⟨SeqAt.RcAt.str_int a tu i tk,SeqAt.RcNeAt.str_int a tu i tk⟩
  |str i=>obtain⟨tk,rfl⟩:=rv;exact⟨SeqAt.RcAt.str_str a tu i tk,SeqAt.RcNeAt.str_str a tu i tk⟩
 |_=>exact zAH (ndx nd)
end
section
variable{K:zAA}{H:Hp}{s:zAC}
open Classical in
def lK(K:zAA)(H:Hp)(d:D)(u:Value):Bool:=if h:∃e,aV e=true/\∃y,RelV y u/\Rp K (λ _=>True) H y e then eqD (choose h) d else false
def aAt(ok:fB K H s)(r:RelV y u)(h:Rp K A H y e)(ne:aV e=true):lK K H d u=eqD e d:=by
 have hx:∃e,aV e=true/\∃y,RelV y u/\Rp K (λ _=>True) H y e:=⟨e,ne,y,r,h.wk λ _ _ _ _=>trivial⟩
 unfold lK;rw[dif_pos hx];obtain⟨n',y',r',h'⟩:=Classical.choose_spec hx;have e1:=RelV.inj r r';subst e1;rw[Rp.inj ok h' h n' ne]
def inD(d:D)(es:List D):Bool:=es.any λ e=>eqD e d
def n6(ok:fB K H s):∀{A:Addr->Prop} {xs:List V} {es:List D} {us:List Value},Rps K A H xs es->Vals xs us->aX es=true->us.any (lK K H d)=inD d es:=by
 intro A xs es us h v n;induction v generalizing es with
 |nil=>cases h;rfl
 |cons k t ih=>
  cases h with
  |cons h r=>
   simp only[aX,zAU]at n;unfold inD;rw[zC9,zC9,aAt ok k h n.1,ih r n.2];rfl
def qm(ok:fB K H s)(rx:Rp K A0 H x d)(rv:RelV x v)(hu:A.units+n<cLine)(nd:aV d=true):∀{A1:Addr->Prop} {xs:List V} {es:List D} {us:List Value},Rps K A1 H xs es->Vals xs us->bQ es<=n->aX es=true->∀u∈us,zC6 A s u v (lK K H d u):=by
 intro A1 xs es us h v' hd ne u hm;induction v' generalizing es with
 |nil=>cases hm
 |cons k t ih=>
  cases h with
  |cons h r=>
   simp only[bQ]at hd;simp only[aX,zAU]at ne;rcases zAV.mp hm with z|z
   .subst z
    rw[aAt ok k h ne.1];exact aAI ok n h rx k rv (zAi (zGP _ _) hd) ne.1 nd hu
   .exact ih r (zAi (zGL _ _) hd) ne.2 z
end
section
variable{X:Cx}
def aC4(K:zAA)(neg:Bool):R2:=λ x y H Q=>∃A B d e,Rp K A H x d/\Rp K B H y e/\gR d<=60/\aV d=true/\aV e=true/\Q (.bl (if neg then !eqD d e else eqD d e)) H
def aHZ(hu:X.A.units+64<cLine):OpR X (zAk .Eq) (aC4 X.K false):=by
 intro hV s Z H x y v u Q I rx ry h;obtain⟨A,B,d,e,r1,r2,hd,nd,ne,q⟩:=h;exact(aC1 (Inv.seqOk I) 60 r1 r2 rx ry hd nd ne (by lia)).1 X.prog X.w X.xe _ ⟨.bl (eqD d e),H,I,rfl,q⟩
def aHP(hu:X.A.units+64<cLine):OpR X (zAk .NotEq) (aC4 X.K true):=by
 intro hV s Z H x y v u Q I rx ry h;obtain⟨A,B,d,e,r1,r2,hd,nd,ne,q⟩:=h;exact(aC1 (Inv.seqOk I) 60 r1 r2 rx ry hd nd ne (by lia)).2 X.prog X.w X.xe _ ⟨.bl (!eqD d e),H,I,rfl,q⟩
def aC3(K:zAA)(neg:Bool):R2:=λ x y H Q=>∃A B d a es,Rp K A H x d/\y= .ref a/\(Rp K B H (.ref a) (.lst es)\/Rp K B H (.ref a) (.tup es))/\bQ es<=60/\aV d=true/\aX es=true/\Q (.bl (if neg then !inD d es else inD d es)) H
def aHY(hu:X.A.units+64<cLine):OpR X (zAk .In) (aC3 X.K false):=by
 intro hV s Z H x y v u Q I rx ry h;obtain⟨A,B,d,a,es,rd,rfl,ra,hd,nd,ne,q⟩:=h;cases ry;have ok:=Inv.seqOk I;have hu1:X.A.in1.units+60<cLine:=by show X.A.units+1+60<cLine;lia
 rcases ra with ra|ra
 .cases ra with
  |lst ha _ r=>
   obtain⟨its,rv,tl⟩:=ok.lst ha;refine SeqAt.in_listAt (lK X.K H d) tl (λ w hw=>qm ok rd rx hu1 nd r rv hd ne w (by simpa using hw)) ⟨.bl _,H,I,rfl,?_⟩;rw[show its.toArray.any (lK X.K H d)=its.any (lK X.K H d)by simp,n6 ok r rv ne];exact q
 .cases ra with
  |tup ha r=>
   obtain⟨its,rv,tl⟩:=ok.tup ha;refine SeqAt.in_tupleAt (lK X.K H d) tl (λ w hw=>qm ok rd rx hu1 nd r rv hd ne w (by simpa using hw)) ⟨.bl _,H,I,rfl,?_⟩;rw[show its.toArray.any (lK X.K H d)=its.any (lK X.K H d)by simp,n6 ok r rv ne];exact q
def aBP(hu:X.A.units+64<cLine):OpR X (zAk .NotIn) (aC3 X.K true):=by
 intro hV s Z H x y v u Q I rx ry h;obtain⟨A,B,d,a,es,rd,rfl,ra,hd,nd,ne,q⟩:=h;cases ry;have ok:=Inv.seqOk I;have hu1:X.A.in1.units+60<cLine:=by show X.A.units+1+60<cLine;lia
 rcases ra with ra|ra
 .cases ra with
  |lst ha _ r=>
   obtain⟨its,rv,tl⟩:=ok.lst ha;refine SeqAt.notIn_listAt (lK X.K H d) tl (λ w hw=>qm ok rd rx hu1 nd r rv hd ne w (by simpa using hw)) ⟨.bl _,H,I,rfl,?_⟩;rw[show its.toArray.any (lK X.K H d)=its.any (lK X.K H d)by simp,n6 ok r rv ne];exact q
 .cases ra with
  |tup ha r=>
   obtain⟨its,rv,tl⟩:=ok.tup ha;refine SeqAt.notIn_tupleAt (lK X.K H d) tl (λ w hw=>qm ok rd rx hu1 nd r rv hd ne w (by simpa using hw)) ⟨.bl _,H,I,rfl,?_⟩;rw[show its.toArray.any (lK X.K H d)=its.any (lK X.K H d)by simp,n6 ok r rv ne];exact q
end
section
variable{K:zAA}
def eqR(neg:Bool):D->D->Rs D:=λ d e=>if decide (gR d<=60)&&aV d&&aV e then .ok (.bl (if neg then !eqD d e else eqD d e))else .st
def inR(neg:Bool):D->D->Rs D:=λ d e=>match e with
 | .lst es=>if decide (bQ es<=60)&&aV d&&aX es then .ok (.bl (if neg then !inD d es else inD d es))else .st
 | .tup es=>if decide (bQ es<=60)&&aV d&&aX es then .ok (.bl (if neg then !inD d es else inD d es))else .st
 |_=>.st
def os_eq:OpS K (aC4 K n) (eqR n):=by
 intro A x y d e H Q z rx ry ez q;unfold eqR at ez;split at ez
 .rename_i h
  simp only[zAU,decide_eq_true_eq]at h;cases ez;exact⟨A,A,d,e,rx,ry,h.1.1,h.1.2,h.2,q _ H (aQ.refl H) (.bl _)⟩
 .cases ez
def aGK:OpS K (aC3 K n) (inR n):=by
 intro A x y d e H Q z rx ry ez q;unfold inR at ez;split at ez
 .split at ez
  .rename_i h
   simp only[zAU,decide_eq_true_eq]at h;cases ez;cases ry with
   |lst ha mm r=>exact⟨A,A,d,_,_,rx,rfl,.inl (.lst ha mm r),h.1.1,h.1.2,h.2,q _ H (aQ.refl H) (.bl _)⟩
  .cases ez
 .split at ez
  .rename_i h
   simp only[zAU,decide_eq_true_eq]at h;cases ez;cases ry with
   |tup ha r=>exact⟨A,A,d,_,_,rx,rfl,.inr (.tup ha r),h.1.1,h.1.2,h.2,q _ H (aQ.refl H) (.bl _)⟩
  .cases ez
 .cases ez
def aDO:∀x y z,eqR n x y= .ok z->imm z=true:=by
 intro x y z e;unfold eqR at e;split at e
 .cases e;rfl
 .cases e
end
section
variable{K:zAA}
def boolsOf:List D->Option (List Bool)
 |[]=>some []
 | .bl i::r=>(boolsOf r).map (i::·)
 |_=>none
def allD(f:List Bool->Bool):List D->Rs D
 |[.lst l]=>match boolsOf l with
  |some bs=>.ok (.bl (f bs))
  |none=>.st
 |_=>.st
def mmD(f:Int->Int->Int):List D->Rs D
 |[.int i,.int j]=>.ok (.int (f i j))
 |_=>.st
def aGP:nj K (λ xs H Q=>∃i j,xs=[.int i,.int j]/\Q (.int (f i j)) H) (mmD f):=by
 intro A xs ds H Q z r ez q;unfold mmD at ez;split at ez
 .cases ez
  cases r with
  |cons h r=>
   cases h;cases r with
   |cons h r=>
    cases h;cases r;exact⟨_,_,rfl,q _ H (aQ.refl H) (.int _)⟩
 .cases ez
def aDM:∀x z,mmD f x= .ok z->imm z=true:=by
 intro x z e;unfold mmD at e;split at e
 .cases e;rfl
 .cases e
def iG:List D->Rs D
 |[.lst l]=>.ok (.tup l)
 |[.tup l]=>.ok (.tup l)
 |_=>.st
def aDa:nj K (λ xs H Q=>∃p ys,xs=[.ref p]/\((SqL K H p ys/\∀l,H l=none->Q (.ref l) (upd H l (.tup ys)))\/(SqT K H p ys/\Q (.ref p) H))) iG:=by
 intro A xs ds H Q z r ez q;unfold iG at ez;split at ez
 .cases ez
  cases r with
  |cons h r=>
   cases r;cases h with
   |lst h m r=>exact⟨_,_,rfl,.inl ⟨SqL.of h,λ l hl=>q _ _ (bY hl _) (.tup (SqT.of aa) ((r.wk λ _ _ _ z=>.inr z.1).up (bY hl _)))⟩⟩
 .cases ez
  cases r with
  |cons h r=>
   cases r;cases h with
   |tup h r=>exact⟨_,_,rfl,.inr ⟨h,q _ H (aQ.refl H) (.tup h (r.wk λ _ _ _ z=>.inr z))⟩⟩
 .cases ez
end
section
variable{C:Ct}{pos p:Pos}{m m1 m2 m3:Mode}{a b c e:Expr}{fa fb fc:En->Rs D}{ga:En->Rs (List D)}
def Ct.u0(C:Ct)(i:C.ι):(C.X i).A.units<cLine:=(C.room i).units0
def Ct.u64(C:Ct)(i:C.ι):(C.X i).A.units+64<cLine:=(C.room i).units
def Ct.ltR(C:Ct)(i:C.ι):OpR (C.X i) (zAk .Lt) (λ x y H Q=>rI0 (λ i j=>.bl (decide (i<j))) x y H Q\/aE0 C.K x y H Q):=by have h:=aHS (X:=C.X i) (C.u0 i);rw[C.hK i]at h;exact h
def Ct.leR(C:Ct)(i:C.ι):OpR (C.X i) (zAk .LtE) (λ x y H Q=>rI0 (λ i j=>.bl (decide (i<=j))) x y H Q\/aE1 C.K x y H Q):=by have h:=aHU (X:=C.X i) (C.u0 i);rw[C.hK i]at h;exact h
def Ct.eqRl(C:Ct)(i:C.ι):OpR (C.X i) (zAk .Eq) (aC4 C.K false):=by have h:=aHZ (X:=C.X i) (C.u64 i);rw[C.hK i]at h;exact h
def Ct.neRl(C:Ct)(i:C.ι):OpR (C.X i) (zAk .NotEq) (aC4 C.K true):=by have h:=aHP (X:=C.X i) (C.u64 i);rw[C.hK i]at h;exact h
def Ct.inRl(C:Ct)(i:C.ι):OpR (C.X i) (zAk .In) (aC3 C.K false):=by have h:=aHY (X:=C.X i) (C.u64 i);rw[C.hK i]at h;exact h
def Ct.ninRl(C:Ct)(i:C.ι):OpR (C.X i) (zAk .NotIn) (aC3 C.K true):=by have h:=aBP (X:=C.X i) (C.u64 i);rw[C.hK i]at h;exact h
def Ct.aJF(C:Ct)(i:C.ι):OpR (C.X i) (zBv .Add) (aC5 C.K):=by have h:=aEv (X:=C.X i);rw[C.hK i]at h;exact h
def aEE:D->D->Rs D:=i2 (λ _ _=>true) λ i j=>.int (i-j)
def su:D->D->Rs D:=i2 (λ _ j=>decide (0<j)&&decide (j<1073741824)) λ i j=>.int (i / j)
def o5:D->D->Rs D:=i2 (λ _ j=>decide (0<j)) λ i j=>.int (i%j)
def aGt:D->D->Rs D:=i2 (λ i j=>decide (0<=j)&&decide (j<=1000000)&&decide (i.natAbs<2^64)) λ i j=>.int (i^j.toNat)
def cW(ha:SE C m1 a fa)(hb:SE C m2 b fb):SE C (jn m1 m2) (.BinOp a .Add b pos) (op2 bT fa fb):=uT C.aJF aHK ha hb
def jX(ha:SE C m1 a fa)(hb:SE C m2 b fb):SE C (jn m1 m2) (.BinOp a .Mult b pos) (op2 dR fa fb):=uT (λ _=>aEq) aHJ ha hb
def aGc(ha:SE C m1 a fa)(hb:SE C m2 b fb):SE C (some []) (.BinOp a .Sub b pos) (op2 aEE fa fb):=eX (uT (λ _=>aHM) aEp ha hb) λ _ _ h=>km wB h
def aA2(ha:SE C m1 a fa)(hb:SE C m2 b fb):SE C (some []) (.BinOp a .FloorDiv b pos) (op2 su fa fb):=eX (uT (λ _=>aEr) (zT λ i j h=>by simpa[aJP]using h) ha hb) λ _ _ h=>km wB h
def oF(ha:SE C m1 a fa)(hb:SE C m2 b fb):SE C (some []) (.BinOp a .Mod b pos) (op2 o5 fa fb):=eX (uT (λ _=>aHR) (zT λ i j h=>by simpa using h) ha hb) λ _ _ h=>km wB h
def aGd(ha:SE C m1 a fa)(hb:SE C m2 b fb):SE C (some []) (.BinOp a .Pow b pos) (op2 aGt fa fb):=eX (uT (λ _=>aHO) (zT λ i j h=>by simp only[zAU,decide_eq_true_eq]at h;exact⟨h.1.1,h.1.2,h.2⟩) ha hb) λ _ _ h=>km wB h
def yx(ha:SE C m a fa):SE C (some []) (.UnaryOp .USub a pos) (op1 sE fa):=eX (aI8 (λ _=>aBx) aGX ha) λ _ _ h=>aFP aFQ h
def aA3(ha:SE C m1 a fa)(hb:SE C m2 b fb):SE C (some []) (.Compare a [.Eq] [b] pos) (op2 (eqR false) fa fb):=eX (aCS C.eqRl os_eq ha hb) λ _ _ h=>km aDO h
def aI9(ha:SE C m1 a fa)(hb:SE C m2 b fb):SE C (some []) (.Compare a [.NotEq] [b] pos) (op2 (eqR true) fa fb):=eX (aCS C.neRl os_eq ha hb) λ _ _ h=>km aDO h
def aAY(ha:SE C m1 a fa)(hb:SE C m2 b fb):ST C (.Compare a [.Lt] [b] pos) (tsb (op2 ltD fa fb)):=mC C.ltR aGJ ha hb
def aI6(ha:SE C m1 a fa)(hb:SE C m2 b fb):ST C (.Compare a [.GtE] [b] pos) (tsb (op2 geD fa fb)):=mC (λ _=>aIp) zU ha hb
def nD(ha:SE C m1 a fa)(hb:SE C m2 b fb):ST C (.Compare a [.Eq] [b] pos) (tsb (op2 (eqR false) fa fb)):=mC C.eqRl os_eq ha hb
def aAX(ha:SE C m1 a fa)(hb:SE C m2 b fb):ST C (.Compare a [.NotEq] [b] pos) (tsb (op2 (eqR true) fa fb)):=mC C.neRl os_eq ha hb
def aI5(ha:SE C m1 a fa)(hb:SE C m2 b fb)(hm:zC3 .In b=false:=by with_unfolding_all rfl):ST C (.Compare a [.In] [b] pos) (tsb (op2 (inR false) fa fb)):=mC C.inRl aGK ha hb hm
def aG6(ha:SE C m1 a fa)(hb:SE C m2 b fb)(hm:zC3 .NotIn b=false:=by with_unfolding_all rfl):ST C (.Compare a [.NotIn] [b] pos) (tsb (op2 (inR true) fa fb)):=mC C.ninRl aGK ha hb hm
def aI4(ha:SE C m1 a fa)(hb:SE C m2 b fb):ST C (.Compare a [.Is] [b] pos) (tsb (op2 (isD false) fa fb)):=mC (λ _=>aHW) aIm ha hb
def aET(ha:SE C m1 a fa)(hb:SE C m2 b fb)(hc:SE C m3 c fc)(hm:zGJ [.LtE,.LtE] [b,c]=false:=by with_unfolding_all rfl):SE C (some []) (.Compare a [.LtE,.LtE] [b,c] pos) (chD leD leD fa fb fc):=wg C.leR aCk C.leR aCk aHx ha hb hc hm
def aES(ha:SE C m1 a fa)(hb:SE C m2 b fb)(hc:SE C m3 c fc)(hm:zGJ [.LtE,.Lt] [b,c]=false:=by with_unfolding_all rfl):SE C (some []) (.Compare a [.LtE,.Lt] [b,c] pos) (chD leD ltD fa fb fc):=wg C.leR aCk C.ltR aGJ aHw ha hb hc hm
def aL(ha:SE C m1 a fa)(hb:SE C m2 b fb)(hp:qp b:=by exact λ _ _=>rfl):SE C m1 (.Subscript a b pos) (op2 ixD fa fb):=by
 obtain⟨t,h1,h2⟩:=ha;obtain⟨u,k1,k2⟩:=hb;refine⟨tOp (rIx C.K) t u,λ i=>by rw[<-C.hK i];exact aGH aHs (h1 i) (k1 i) hp,λ τ Z H Y lab Q R W=>?_⟩;refine h2 τ Z H Y lab _ R (W.bd.imp λ d _ w x H1 s1 r1=>?_);refine k2 τ Z H1 Y lab _ (R.up s1) (w.bd.imp λ e _ w y H2 s2 r2=>?_);obtain⟨z,ez,w⟩:=w.okD;have hi:imm e=true:=by
  unfold ixD at ez;split at ez<;>first|rfl|cases ez
 refine aIl (fpM m1 lab H) x y d e H2 Q z (r1.up s2) (r2.imm hi) ez λ v H' s r=>w v H' ((s1.trans s2).trans s) (r.wk λ p o _ q=>?_)
 rcases q with q|q
 .exact .inl ((s1.trans s2).free q)
 .exact q
def iH(hm:C.mg "len"=none)(ha:SA C m [a] ga)(he:∀i,zAS [a] (C.X i).env=[(false,eval a (C.X i).env)]:=by intro _;rfl)(hg:∀i,Gl (C.X i) "len":=by intro _;rfl):SE C (some []) (.Call (.Name "len" p) [a] [] pos) (opA gA ga):=
 eX (jK (λ i=>by have h:=wK (X:=C.X i);rw[C.hK i]at h;exact h) aIF hg hm PySem.boot_len ha (by decide) (by decide) he) λ _ _ h=>j6 aFR h
def aEQ(hm:C.mg "min"=none)(ha:SA C m [a,b] ga)(he:∀i,zAS [a,b] (C.X i).env=(false,eval a (C.X i).env)::zAS [b] (C.X i).env:=by intro _;rfl)(hpl:∀i,(zBg pos (zAS [b] (C.X i).env)).any (·.1)=false:=by intro _;rfl)(hg:∀i,Gl (C.X i) "min":=by intro _;rfl)(hv:zAj "min"=some (.builtin "min"):=by decide+kernel):SE C (some []) (.Call (.Name "min" p) [a,b] [] pos) (opA (mmD λ i j=>if j<i then j else i) ga):=
 eX (jK (λ i=>aBi (C.calm i)) aGP hg hm hv ha (by decide) (by decide) he hpl) λ _ _ h=>j6 aDM h
def aER(hm:C.mg "max"=none)(ha:SA C m [a,b] ga)(he:∀i,zAS [a,b] (C.X i).env=(false,eval a (C.X i).env)::zAS [b] (C.X i).env:=by intro _;rfl)(hpl:∀i,(zBg pos (zAS [b] (C.X i).env)).any (·.1)=false:=by intro _;rfl)(hg:∀i,Gl (C.X i) "max":=by intro _;rfl)(hv:zAj "max"=some (.builtin "max"):=by decide+kernel):SE C (some []) (.Call (.Name "max" p) [a,b] [] pos) (opA (mmD λ i j=>if j>i then j else i) ga):=
 eX (jK (λ i=>aBk (C.calm i)) aGP hg hm hv ha (by decide) (by decide) he hpl) λ _ _ h=>j6 aDM h
def nF(hm:C.mg "tuple"=none)(ha:SA C m [a] ga)(he:∀i,zAS [a] (C.X i).env=[(false,eval a (C.X i).env)]:=by intro _;rfl)(hg:∀i,Gl (C.X i) "tuple":=by intro _;rfl)(hv:zAj "tuple"=some (.type "tuple"):=by decide+kernel):SE C m (.Call (.Name "tuple" p) [a] [] pos) (opA iG ga):=
 wj (λ i=>by have h:=uK (X:=C.X i);rw[C.hK i]at h;exact h) aDa hg hm hv ha (by decide) (by decide) he
def aFs(K:zAA):Sp:=λ vs H Q E=>∃a ns,vs=[.ref a]/\kE K H a ns/\ns.length<=63/\∀H',Q (.bl true) H'
def aFE{K:zAA}(h:∀ns:List Int,ns.length<=63->F [.scr ns]= .ok (.bl true)):∀vs H Q E,aFs K vs H Q E->spF K cl 1 F vs H Q E:=by
 rintro vs H Q E ⟨a,ns,rfl,hs,hl,q⟩;refine⟨[.scr ns],rfl,.cons (.scr hs) .nil,?_⟩;rw[h ns hl];intro v H' s r;cases r;exact q H'
end
def xP:V->List V->Hp->VK->Prop:=λ x vs H Q=>∃l b xs zs,x= .ref l/\vs=[.ref b]/\H l=some (.lst xs)/\H b=some (.lst zs)/\xs.length+zs.length<=zAN/\∀H',iu l H H'->H' l=some (.lst (xs++zs))->Q .non H'
def zY:MtM X "list.extend" xP:=λ hV s Z H x xs v us Q I rx rv ⟨l,b,ys,zs,e1,e2,h,h2,z,n⟩=>
 aBS hV s Z H x xs v us Q I rx rv ⟨l,b,ys,zs,e1,e2,h,h2,z,n _ (λ b o ne hb=>by rw[aW ne];exact hb) aa⟩
section
variable{C:Ct}{pos apos cpos p:Pos}{e:Expr}{fe:En->Rs D}{i:Nat}{x:Str}{m:Mode}
def aF0(ds:List D)(k:List D->Ou):D->Ou
 | .lst es=>if ds.length+es.length<=zAN then k (ds++es)else .st
 |_=>.st
def aFZ(i:Nat)(fe:En->Rs D):En->Ou:=λ Y=>match Y[i]? with
 |some (.ow (.lst ds))=>(fe Y).bo (aF0 ds λ l=>.nx (Y.set i (.ow (.lst l))))
 |_=>.st
def aBE(i:Nat)(he:SE C m e fe)(hm:okN m=true:=by rfl)(hN:∀j,(C.X j).N[i]? =some x:=by intro _;rfl)(hv:∀j,Vis (C.X j).env.scope x:=by intro _;first|exact zBi rfl|exact zBM (zBi rfl)|exact zBM (zBM rfl))(hd:Nd x:=by decide)
  (hcd:(x==("__classdict__":Str))=false:=by decide)(hs1:∀j,zAS [e] (C.X j).env=[(false,eval e (C.X j).env)]:=by intro _;rfl)
  (hbase:∀j,zC2 (.Name x p) "extend" (C.X j).env (eval (.Name x p) (C.X j).env)=eval (.Name x p) (C.X j).env:=by intro _;rfl)
  (hfew:∀j,((zBg cpos (zAS [e] (C.X j).env)).all (λ x=>!x.1)&&(zD0 cpos (zCV [] (C.X j).env)).all (λ x=>x.1.isSome)&&decide ([e].length+([]:List zBw).length+(if ([]:List zBw).isEmpty then 0 else 1)<30))=true:=by intro _;rfl)
  (hline:(apos.endLine==cpos.line)=true:=by rfl)
  (hsw:∀j,zBy (.Call (.Attribute (.Name x p) "extend" apos) [e] [] cpos) none pos.line (C.X j).env=pure false:=by intro _;rfl):
  SS C (.Expr (.Call (.Attribute (.Name x p) "extend" apos) [e] [] cpos) pos) (aFZ i fe):=by
 obtain⟨t,h1,h2⟩:=he;refine⟨uP (tBM C.K "list" xP (nC i) (eU t lr)),λ j=>kW (by rw[<-C.hK j];exact xT zBm zFS PySem.F.type_list_extend zY (fL (hN j) (hv j) hd hcd) (dg (h1 j) jE (hs1 j)) (hbase j) (hfew j) hline (hs1 j) rfl) (hsw j),λ τ Z H Y lab De R W=>?_⟩;unfold aFZ at W;cases es:Y[i]? with
 |none=>rw[es]at W;exact zAH W
 |some s=>
  rw[es]at W;split at W
  .rename_i ds hs
   cases hs;rcases R.sl i _ es with z|⟨v,ev,hv'⟩
   .cases z
   .obtain⟨hv1,htop⟩:=hv'
    obtain⟨a0,ea0,la0⟩:=htop rfl;subst ea0;cases hv1 with
    |lst h mm r=>
     rename_i xs;refine⟨.ref a0,ev,.inl ⟨rfl,xs,SqL.of h⟩,h2 τ Z H Y lab _ R (W.bo.imp λ d _ w y H2 s2 r2=>?_)⟩;cases d with
     |lst es'=>
      dsimp only[aF0]at w;by_cases hz:ds.length+es'.length<=zAN
      .rw[if_pos hz]at w
       obtain⟨R',r'⟩:=R.fresh (P:=λ k=>k=1) rfl (λ k hk=>beq_iff_eq.mp (gY hm k hk)) s2 r2;have la:(bC H 1 lab a0).1=i+2:=by rw[aZ h];exact la0
       cases r' with
       |lst hb mb rb=>
        rename_i b zs;refine⟨a0,b,xs,zs,rfl,rfl,s2 _ _ h,hb,by rw[r.length,rb.length];exact hz,λ H3 B h3=>?_⟩;refine w Z H3 _ (R'.mut ev (s2 _ _ h) rfl la B ⟨.lst h3 (.inr la) ?_,λ _=>⟨a0,rfl,la⟩⟩);have ra:Rps C.K (λ p=>((bC H 1 lab p).1=1\/(bC H 1 lab p).1=i+2)/\p≠a0) H2 (xs++zs) (ds++es'):=by
         refine(r.mono s2 λ p o e z=>⟨by rw[aZ e];exact z.1,z.2⟩).append (rb.wk λ p o e z=>⟨.inl z.1,λ q=>?_⟩);subst q;have z1:(bC H 1 lab p).1=1:=z.1;omega
        exact ra.but B (s2 _ _ h) rfl λ z=>z.2 rfl
      .rw[if_neg hz]at w
       exact zAH w
     |_=>exact zAH w
  .exact zAH W
end
section
variable{K:zAA}
theorem oh:∀{ns:List Int} {us:List Value},Vals (ns.map V.int) us->∃ts:List (Int×Tok),us=ts.map (λ q=>zDO q.1 q.2)/\ts.map zEy=ns
 |[],_,.nil=>⟨[],rfl,rfl⟩
 |n::ns,_,.cons r t=>by
  obtain⟨tk,e⟩:∃tk,_=zDO n tk:=r
  obtain⟨ts,e1,e2⟩:=oh t;subst e;exact⟨(n,tk)::ts,by rw[e1];rfl,by rw[<-e2];rfl⟩
def aBj(hc:X.calm=true):dN X (.builtin "max") (λ xs H Q=>∃(p:Addr) (ns:List Int) (m:Int),xs=[.ref p]/\H p=some (.lst (ns.map V.int))/\ns.max?=some m/\Q (.int m) H):=by
 intro hV s Z H xs us Q I r h;obtain⟨p,ns,m,rfl,hp,hm,q⟩:=h;obtain⟨u,rfl,ru⟩:=vals1 r;cases ru;obtain⟨its,rv,pl,hz⟩:=I.list (SqL.of hp);obtain⟨ts,rfl,rfl⟩:=oh rv;have hsz:0<ts.toArray.size:=by
  cases ts with
  |nil=>cases hm
  |cons a b=>simp
 refine max_intList (xs:=ts.toArray) (I.ok.hd hc) (by have:=pl.isList;simpa[intItems]using this) hsz λ v h' tk hv hk=>?_
 obtain⟨t,rfl⟩:=intItems_at hv;obtain⟨h1,h2⟩:=argBest_gt (numAt ts.toArray) (ts.toArray.size-1);have hM:(ts.map zEy).max?=some (numAt ts.toArray (zAq (λ i j=>decide (numAt ts.toArray i>numAt ts.toArray j)) (ts.toArray.size-1))):=by
  rw[zDa];refine⟨?_,λ a ha=>?_⟩
  .rw[zG3];exact getD_mem (by rw[zAB];simp at h1 hsz ⊢;omega)
  .obtain⟨j,hj,rfl⟩:=mem_getD ha
   have:=h2 j (by rw[zAB]at hj;simp;omega)
   rw[zG3]at this;exact this
 rw[hm]at hM;injection hM with hM
 exact⟨.int m,H,I.kept hk,⟨t,by rw[hM]⟩,q⟩
def aBg(hc:X.calm=true):dN X (.builtin "min") (λ xs H Q=>∃(p:Addr) (ns:List Int) (m:Int),xs=[.ref p]/\H p=some (.lst (ns.map V.int))/\ns.min?=some m/\Q (.int m) H):=by
 intro hV s Z H xs us Q I r h;obtain⟨p,ns,m,rfl,hp,hm,q⟩:=h;obtain⟨u,rfl,ru⟩:=vals1 r;cases ru;obtain⟨its,rv,pl,hz⟩:=I.list (SqL.of hp);obtain⟨ts,rfl,rfl⟩:=oh rv;have hsz:0<ts.toArray.size:=by
  cases ts with
  |nil=>cases hm
  |cons a b=>simp
 refine min_intList (xs:=ts.toArray) (I.ok.hd hc) (by have:=pl.isList;simpa[intItems]using this) hsz λ v h' tk hv hk=>?_
 obtain⟨t,rfl⟩:=intItems_at hv;obtain⟨h1,h2⟩:=argBest_lt (numAt ts.toArray) (ts.toArray.size-1);have hM:(ts.map zEy).min?=some (numAt ts.toArray (zAq (λ i j=>decide (numAt ts.toArray i<numAt ts.toArray j)) (ts.toArray.size-1))):=by
  rw[List.min?_eq_some_iff];refine⟨?_,λ a ha=>?_⟩
  .rw[zG3];exact getD_mem (by rw[zAB];simp at h1 hsz ⊢;omega)
  .obtain⟨j,hj,rfl⟩:=mem_getD ha
   have:=h2 j (by rw[zAB]at hj;simp;omega)
   rw[zG3 _ j]at this;exact this
 rw[hm]at hM;injection hM with hM
 exact⟨.int m,H,I.kept hk,⟨t,by rw[hM]⟩,q⟩
def eY(f:List Int->Option Int):List D->Rs D
 |[.lst l]=>match intsOf l with
  |some ns=>match f ns with
   |some m=>.ok (.int m)
   |none=>.st
  |none=>.st
 |_=>.st
def aAw:nj K (λ xs H Q=>∃(p:Addr) (ns:List Int) (m:Int),xs=[.ref p]/\H p=some (.lst (ns.map V.int))/\f ns=some m/\Q (.int m) H) (eY f):=by
 intro A xs ds H Q z r ez q;unfold eY at ez;split at ez
 .split at ez
  .rename_i l ns e
   split at ez
   .rename_i m em
    cases ez
    have:=cg e
    subst this;cases r with
    |cons h r=>
     cases r;cases h with
     |lst h _ r=>
      have:=r.ints_of
      subst this;exact⟨_,ns,m,rfl,h,em,q _ H (aQ.refl H) (.int _)⟩
   .cases ez
  .cases ez
 .cases ez
def yK:∀x z,eY f x= .ok z->imm z=true:=by
 intro x z e;unfold eY at e;split at e
 .split at e
  .split at e
   .cases e;rfl
   .cases e
  .cases e
 .cases e
end
section
variable{C:Ct}{pos p:Pos}{a:Expr}{ga:En->Rs (List D)}{m:Mode}
def aA1(hm:C.mg "max"=none)(ha:SA C m [a] ga)(he:∀i,zAS [a] (C.X i).env=[(false,eval a (C.X i).env)]:=by intro _;rfl)(hg:∀i,Gl (C.X i) "max":=by intro _;rfl)(hv:zAj "max"=some (.builtin "max"):=by decide+kernel):SE C (some []) (.Call (.Name "max" p) [a] [] pos) (opA (eY zD9) ga):=
 eX (jK (λ i=>aBj (C.calm i)) aAw hg hm hv ha (by decide) (by decide) he) λ _ _ h=>j6 yK h
def aEO(hm:C.mg "min"=none)(ha:SA C m [a] ga)(he:∀i,zAS [a] (C.X i).env=[(false,eval a (C.X i).env)]:=by intro _;rfl)(hg:∀i,Gl (C.X i) "min":=by intro _;rfl)(hv:zAj "min"=some (.builtin "min"):=by decide+kernel):SE C (some []) (.Call (.Name "min" p) [a] [] pos) (opA (eY zE5) ga):=
 eX (jK (λ i=>aBg (C.calm i)) aAw hg hm hv ha (by decide) (by decide) he) λ _ _ h=>j6 yK h
end
abbrev ctL(P:zAO)(w:World)(K:zAA)(mg:Str->Option Value)(base:Heap)(N:List Str)(q:Str)(sc:Scope)(cl:List (Str×Addr))(f:Addr)(cdv:Value)(A:zA3)(outer:List Env)(s:zAC)(H:Hp)(E:XK)(k:Nat)(hr:fD k (A.deeper (zCY q sc s.heap.objs.size f cdv cl))):Ct where
 ι:=Unit
 X:=λ _=>cxL P w K mg base N q sc cl f cdv A outer s H E
 prog:=P
 w:=w
 K:=K
 mg:=mg
 base:=base
 k:=k
 G:=⟨H,E,aq mg⟩
 cx:=λ _=>⟨rfl,rfl,rfl,rfl,rfl⟩
 calm:=λ _=>rfl
 room:=λ _=>hr
 own:=λ _=>dM.own dM.ofL
 pass:=λ _=>dM.pass dM.ofL
 dOk:=true
 dcx:=λ _ _=>dM.ofL
end VL
namespace L2
open PySem PySem.Spec PyProof.Rows
def cxW(P:zAO)(w:World)(K:zAA)(mg:Str->Option Value)(base:Heap)(N:List Str)(qual:Str)(scope:Scope)(f:Addr)(cd:Value)(A:zA3)(s:zAC)(H:Hp)(Pt:Addr):Cx where
 prog:=P
 w:=w
 K:=K
 mg:=mg
 base:=base
 A:=A.deeper (zDm qual scope s.heap.objs.size f cd)
 N:=N
 z5:=s
 zS:=H
 env:=zDm qual scope s.heap.objs.size f cd
 outer:=[]
 stack:=[zDm qual scope s.heap.objs.size f cd]
 ex:=[Pt]
 calm:=true
 fn:=λ _=>true
 pn:=[]
 xe:=λ _ _=>False
 ta:=[(Pt,zDf #[])]
 tq:=qual++".<locals>."++"<lambda>"
end L2
namespace VL
open PySem PySem.Spec PyProof.Rows L2
end VL
namespace L2
open PySem PySem.Spec PyProof.Rows
def pe_isi{X:Cx}{n0:Str}{e:Expr}{c:V}{p p' pos:Pos}(hN:X.N[0]? =some n0)(hv:X.env.scope.names.lookup n0=some .local)(hg:Gl X "isinstance")(hm:X.mg "isinstance"=none)(hc:PE X e (tC c))(hse:zAS [e] X.env=(false,eval e X.env)::zAS [] X.env:=by rfl)
  (hpl:(zBg pos (zAS [e] X.env)).any (·.1)=false:=by rfl)(d:Nd n0:=by decide)(d':(n0==("__classdict__":Str))=false:=by decide):PE X (.Call (.Name "isinstance" p) [.Name n0 p',e] [] pos) (aJX X.K c):=
 nM aBm hg hm rfl (dg (fL hN (.inl hv) d d') (dg hc jE hse)) (hpl:=hpl)
section
variable{P:zAO}{w:World}{K:zAA}{mg:Str->Option Value}{base:Heap}{x q n0 n1 n2 odd:Str}{st:Stmt}{f:Addr}{fd:zAa}{k:Nat}{wd:Addr->Option Str}{c1 c2:V}{k1 k2 k3 k4:List V}{l1 l2:List Str}{a1 a2:Expr}{as1 as2 e1 e2 e3 e4 w1 w2:List Expr}{kw1 kw2:List zBw}
 {p1 p2 p3 p4 p5 p6 p7 p8 p9 p10 p11 p12 p13 p14 p15 p16 p17 p18 p19 p20 p21 p22 p23 p24 p25 p26 p27 p28 p29 p30 p31 p32 p33 p34 p35 p36 p37 p38 p39 p40:Pos}{q1 q2 q3 q4 q5 q6 q7:Pos}{j1 j2 j3 j4 j5:Nat}
end
structure LawOk(P:zAO)(w:World)(K:zAA)(mg:Str->Option Value)(fa Pt:Addr)(k n:Nat):Prop where
 ex:∃(x name qual:Str) (params:zCR) (body:List Stmt) (scope:Scope) (dV kV doc pm ct oc:Value) (an od:Option Addr) (c:Addr) (osl:Array (Option Value)) (N:List Str),
  K.lookup Pt=none/\zB4 K c Pt=true/\K.lookup fa=some ⟨oc,od,.func (zBl name qual params body scope dV kV doc pm an (.ref c) ct),osl⟩/\zDG K (.ref c) qual=true/\aY N [x] scope/\
  (∀(s:zAC) (u:Value),zEa s (zBl name qual params body scope dV kV doc pm an (.ref c) ct) ⟨[u],[]⟩ [(x,u)])/\
  ∀(a:Addr) (ns:List Int),ns.length<=n->∀(base:Heap) (s:zAC) (H:Hp),fD k (callerA.deeper (zDm qual scope s.heap.objs.size fa (.ref c)))->aJK (cxW P w K mg base N qual scope fa (.ref c) zET s H Pt) Pt->Only H->SqL K H a (ns.map V.int)->
   ∃t,PSs (cxW P w K mg base N qual scope fa (.ref c) zET s H Pt) body t/\t {nx:=λ _ _=>False,rt:=λ v _=>v= .bl true} (start N [.ref a]) H
end L2
namespace VL
open PySem PySem.Spec PyProof.Rows L2
section
variable{O:zBj}{kz:Nat->O.α}{n:Nat}
def Wr{α:Type}(kz:Nat->O.α)(n:Nat):zEp α->(α->Prop)->Prop
 | .ret a,Q=>Q a
 | .ask i j k,Q=>i<n/\j<n/\Wr kz n (k (O.blt (kz i) (kz j))) Q
theorem Wr.bindI:∀{t:zEp α},Wr kz n t (λ a=>Wr kz n (g a) Q)->Wr kz n (t.bind g) Q
 | .ret _,h=>h
 | .ask _ _ _,⟨h1,h2,h3⟩=>⟨h1,h2,Wr.bindI h3⟩
abbrev Pm(n:Nat)(p:Array Nat):Prop:=p.Perm (zAp n).toArray
def Pm.sz(h:Pm n p):p.size=n:=by
 have:=h.size_eq
 simpa using this
def Pm.in(h:Pm n p)(hi:i<n):p.getD i 0<n:=by
 have hs:i<p.size:=by rw[h.sz];exact hi
 have e:p.getD i 0=p[i]:=by simp[Array.getD,hs]
 rw[e];have hm:p[i]∈(zAp n).toArray:=h.mem_iff.mp (Array.getElem_mem hs);simpa using hm
def Kp(kz:Nat->O.α)(p:Array Nat)(i:Nat):O.α:=kz (p.getD i 0)
def yE(h:p[i]? =q[j]?):Kp kz p i=Kp kz q j:=by
 unfold Kp;congr 1;rw[zEX,zEX,h]
def aDE(hs:c<p.size)(hd:d<=c)(k:Nat):
  Kp kz (bubble p c d) k=if k=c-d then Kp kz p c else if c-d<k/\k<=c then Kp kz p (k-1)else Kp kz p k:=by
 have e:=getElem?_bubble hs d hd k;by_cases u1:k=c-d
 .rw[if_pos u1]at e ⊢
  exact yE e
 .rw[if_neg u1]at e ⊢
  by_cases u2:c-d<k/\k<=c
  .rw[if_pos u2]at e ⊢
   exact yE e
  .rw[if_neg u2]at e ⊢
   exact yE e
def zu(hj:j<=p.size)(k:Nat):Kp kz (zD3 p i j) k=if i<=k/\k<j then Kp kz p (i+j-1-k)else Kp kz p k:=by
 unfold zD3;have e:=getElem?_mirror_all (i:=i) hj k;by_cases u1:i<=k/\k<j
 .rw[if_pos u1]at e ⊢
  exact yE e
 .rw[if_neg u1]at e ⊢
  exact yE e
def kY(hj:j<=p.size)(he:∀k,i<=k->k<j->Kp kz p k=Kp kz p (j-1))(k:Nat):Kp kz (zD3 p i j) k=Kp kz p k:=by
 rw[zu hj];split
 .rw[he _ (by lia) (by lia),he k (by lia) (by lia)]
 .rfl
def Up(kz:Nat->O.α)(p:Array Nat)(k:Nat):Prop:=∀i j,i<=j->j<k->O.kle (Kp kz p i) (Kp kz p j)
def Dn(kz:Nat->O.α)(p:Array Nat)(k:Nat):Prop:=∀i j,i<=j->j<k->O.kle (Kp kz p j) (Kp kz p i)
def rJ(h:Pm n p)(i j:Nat):Pm n (zD3 p i j):=(mirror_perm _ _ _ _).trans h
def Up.succ(h:Up kz p m)(hm:1<=m)(hl:O.kle (Kp kz p (m-1)) (Kp kz p m)):Up kz p (m+1):=by
 intro i j hij hj;by_cases q:j<m
 .exact h i j hij q
 .have q':j=m:=by lia
  subst q';by_cases q2:i=j
  .rw[q2];exact zC7 _
  .exact zDU (h i (j-1) (by lia) (by lia)) hl
def Dn.succ(h:Dn kz p m)(hm:1<=m)(hl:O.kle (Kp kz p m) (Kp kz p (m-1))):Dn kz p (m+1):=by
 intro i j hij hj;by_cases q:j<m
 .exact h i j hij q
 .have q':j=m:=by lia
  subst q';by_cases q2:i=j
  .rw[q2];exact zC7 _
  .exact zDU hl (h i (j-1) (by lia) (by lia))
theorem yj(hp:Pm n p)(hr:r<=n):∀(f m:Nat),1<=m->m+f=r->Up kz p m->
  (∀m',1<=m'->m'<=r->Up kz p m'->(m'=r\/O.klt (Kp kz p m') (Kp kz p (m'-1)))->Q m')->Wr kz n (PySem.W.kas_asc p f m) Q
 |0,m,h1,hm,hu,k=>k m h1 (by lia) hu (.inl (by lia))
 |f+1,m,h1,hm,hu,k=>by
  refine⟨hp.in (by lia),hp.in (by lia),?_⟩;have hd:O.blt (kz (p.getD m 0)) (kz (p.getD (m-1) 0))=O.blt (Kp kz p m) (Kp kz p (m-1)):=rfl;rw[hd];cases hb:O.blt (Kp kz p m) (Kp kz p (m-1))with
  |true=>exact k m h1 (by lia) hu (.inr hb)
  |false=>exact yj hp hr f (m+1) (by lia) (by lia) (hu.succ h1 hb) k
theorem q9(hr:r<=n):∀(f:Nat) (p:Array Nat) (m e:Nat),Pm n p->1<=m->m+f=r->Dn kz p m->e+1<=m->(∀i,m-(e+1)<=i->i<m->Kp kz p i=Kp kz p (m-1))->
  (∀p' m' e',Pm n p'->1<=m'->m'<=r->Dn kz p' m'->e'+1<=m'->(∀i,m'-(e'+1)<=i->i<m'->Kp kz p' i=Kp kz p' (m'-1))->Q (p',m',e'))->Wr kz n (PySem.W.kas_desc f p m e) Q
 |0,p,m,e,hp,h1,hm,hd,he,hq,k=>k p m e hp h1 (by lia) hd he hq
 |f+1,p,m,e,hp,h1,hm,hd,he,hq,k=>by
  have hsz:m<=p.size:=by rw[hp.sz];lia
  refine⟨hp.in (by lia),hp.in (by lia),?_⟩;have hx:O.blt (kz (p.getD m 0)) (kz (p.getD (m-1) 0))=O.blt (Kp kz p m) (Kp kz p (m-1)):=rfl;rw[hx];cases hb:O.blt (Kp kz p m) (Kp kz p (m-1))with
  |true=>
   have hd':Dn kz p (m+1):=hd.succ h1 (zEC hb);dsimp only;rw[if_pos rfl];by_cases hz:e>0
   .rw[if_pos hz]
    refine q9 hr f _ (m+1) 0 (rJ hp _ _) (by lia) (by lia) (λ i j hij hj=>?_) (by lia) (λ i u v=>by congr 1;lia) k;rw[kY hsz hq,kY hsz hq];exact hd' i j hij hj
   .rw[if_neg hz]
    exact q9 hr f p (m+1) 0 hp (by lia) (by lia) hd' (by lia) (λ i u v=>by congr 1;lia) k
  |false=>
   dsimp only;rw[if_neg (by simp)];refine⟨hp.in (by lia),hp.in (by lia),?_⟩;have hy:O.blt (kz (p.getD (m-1) 0)) (kz (p.getD m 0))=O.blt (Kp kz p (m-1)) (Kp kz p m):=rfl;rw[hy];cases hc:O.blt (Kp kz p (m-1)) (Kp kz p m)with
   |true=>exact k p m e hp h1 (by lia) hd he hq
   |false=>
    dsimp only;rw[if_neg (by simp)];have hee:Kp kz p m=Kp kz p (m-1):=zFU hc hb;refine q9 hr f p (m+1) (e+1) hp (by lia) (by lia) (hd.succ h1 hc) (by lia) (λ i u v=>?_) k;rw[show m+1-1=m by lia];by_cases hi:i=m
    .rw[hi]
    .rw[hee]
     exact hq i (by lia) (by lia)
def aAQ(hr:r<=n)(hp:Pm n p)(h1:1<=m)(hm:m<=r)(hd:Dn kz p m)(k:∀m' p',Pm n p'->1<=m'->m'<=r->Up kz p' m'->Q (m',p')):Wr kz n (PySem.W.kas_tail3 m r p) Q:=by
 have hsz:m<=p.size:=by rw[hp.sz];lia
 refine Wr.bindI (yj (rJ hp 0 m) hr (r-m) m h1 (by lia) (λ i j hij hj=>?_) λ m' a1 a2 a3 _=>k m' _ (rJ hp 0 m) a1 a2 a3);rw[zu hsz,zu hsz,if_pos (by lia),if_pos (by lia)];exact hd _ _ (by lia) (by lia)
def pP(hr:r<=n)(hp:Pm n p)(hm:m+1<=r)(hd:Dn kz p (m+1))(k:∀m' p',Pm n p'->1<=m'->m'<=r->Up kz p' m'->Q (m',p')):Wr kz n (PySem.W.kas_descPart m r p) Q:=by
 refine Wr.bindI (q9 hr (r-(m+1)) p (m+1) 0 hp (by lia) (by lia) hd (by lia) (λ i u v=>by congr 1;lia) λ p' m' e' a1 a2 a3 a4 a5 a6=>?_);have hsz:m'<=p'.size:=by rw[a1.sz];lia
 dsimp only;by_cases hz:e'>0
 .rw[if_pos hz]
  refine aAQ hr (rJ a1 _ _) a2 a3 (λ i j hij hj=>?_) k;rw[kY hsz a6,kY hsz a6];exact a4 i j hij hj
 .rw[if_neg hz]
  exact aAQ hr a1 a2 a3 a4 k
def aBt(hr:r<=n)(hp:Pm n p)(h1:1<=r)(k:∀m' p',Pm n p'->1<=m'->m'<=r->Up kz p' m'->Q (m',p')):Wr kz n (PySem.W.kas_count r p) Q:=by
 refine Wr.bindI (yj hp hr (r-1) 1 (zAT 1) (by lia) (λ i j hij hj=>by rw[show i=j by lia];exact zC7 _) λ m a1 a2 a3 a4=>?_);by_cases hm:m=r
 .rw[if_pos (by simpa using hm)]
  exact k m p hp a1 a2 a3
 .rw[if_neg (by simpa using hm)]
  have hl:O.klt (Kp kz p m) (Kp kz p (m-1)):=a4.resolve_left hm;by_cases hg:m>1
  .rw[if_pos hg]
   refine⟨hp.in (by lia),hp.in (by lia),?_⟩;have hx:O.blt (kz (p.getD 0 0)) (kz (p.getD (m-1) 0))=O.blt (Kp kz p 0) (Kp kz p (m-1)):=rfl;rw[hx];cases hb:O.blt (Kp kz p 0) (Kp kz p (m-1))with
   |true=>exact k m p hp a1 a2 a3
   |false=>
    dsimp only;rw[if_neg (by simp)];have hsz:m<=p.size:=by rw[hp.sz];lia
    have qV:∀i,0<=i->i<m->Kp kz p i=Kp kz p (m-1):=λ i _ hi=>zFU (a3 i (m-1) (by lia) (by lia)) (zDU hb (a3 0 i (by lia) hi))
    refine pP hr (rJ hp 0 m) (by lia) (λ i j hij hj=>?_) k;rw[kY hsz qV,kY hsz qV];by_cases hjm:j<m
    .rw[qV i (by lia) (by lia),qV j (by lia) hjm];exact zC7 _
    .have hj':j=m:=by lia
     subst hj';by_cases hi:i=j
     .rw[hi];exact zC7 _
     .rw[qV i (by lia) (by lia)];exact zEC hl
  .rw[if_neg hg]
   have hm1:m=1:=by lia
   subst hm1;refine pP hr hp (by lia) (λ i j hij hj=>?_) k;by_cases hi:i=j
   .rw[hi];exact zC7 _
   .have e1:i=0:=by lia
    have e2:j=1:=by lia
    subst e1 e2;exact zEC hl
theorem qu(hp:Pm n p)(hc:c<n)(hu:Up kz p c):∀(f l r:Nat),l<=r->r<=c->r-l<=f->(∀i,i<l->O.kle (Kp kz p i) (Kp kz p c))->(∀i,r<=i->i<c->O.klt (Kp kz p c) (Kp kz p i))->
  (∀l',l'<=c->(∀i,i<l'->O.kle (Kp kz p i) (Kp kz p c))->(∀i,l'<=i->i<c->O.klt (Kp kz p c) (Kp kz p i))->Q l')->Wr kz n (zF5 p c f l r) Q
 |0,l,r,a1,a2,a3,a4,a5,k=>by
  have e:l=r:=by lia
  subst e;exact k l a2 a4 a5
 |f+1,l,r,a1,a2,a3,a4,a5,k=>by
  unfold zF5;by_cases hg:l ≥ r
  .rw[if_pos hg]
   have e:l=r:=by lia
   subst e;exact k l a2 a4 a5
  .rw[if_neg hg]
   refine⟨hp.in hc,hp.in (by lia),?_⟩;have hx:O.blt (kz (p.getD c 0)) (kz (p.getD ((l+r) / 2) 0))=O.blt (Kp kz p c) (Kp kz p ((l+r) / 2)):=rfl;rw[hx];cases hb:O.blt (Kp kz p c) (Kp kz p ((l+r) / 2))with
   |true=>exact qu hp hc hu f l ((l+r) / 2) (by lia) (by lia) (by lia) a4 (λ i u v=>KeyOrd.klt_of_klt_of_kle hb (hu _ _ u v)) k
   |false=>exact qu hp hc hu f ((l+r) / 2+1) r (by lia) a2 (by lia) (λ i u=>zDU (hu i ((l+r) / 2) (by lia) (by lia)) hb) a5 k
theorem aBu:∀(f:Nat) (p:Array Nat) (c:Nat),Pm n p->c+f=n->Up kz p c->(∀p',Pm n p'->Up kz p' n->Q p')->Wr kz n (PySem.W.kas_bin f p c) Q
 |0,p,c,hp,hc,hu,k=>k p hp (by rw[show n=c by lia];exact hu)
 |f+1,p,c,hp,hc,hu,k=>by
  refine Wr.bindI (qu hp (by lia) hu c 0 c (by lia) (zAT c) (by lia) (λ i u=>by lia) (λ i u v=>by lia) λ l a1 a2 a3=>?_);refine aBu f _ (c+1) ((bubble_perm _ _ _).trans hp) (by lia) (λ i j hij hj=>?_) k;have hs:c<p.size:=by rw[hp.sz];lia
  rw[aDE hs (by lia),aDE hs (by lia),show c-(c-l)=l by lia]
  repeat' split
  all_goals first
   |(exfalso;lia)
   |exact O.irrefl _
   |exact a2 _ (by lia)
   |exact KeyOrd.klt_asymm (a3 _ (by lia) (by lia))
   |exact hu _ _ (by lia) (by lia)
def aDy(h1:1<=n)(k:∀p,Pm n p->Up kz p n->Q p):Wr kz n (PySem.W.kas_sort n) Q:=by
 refine Wr.bindI (aBt (zAT n) (zFQ _) h1 λ m p a1 a2 a3 a4=>?_);dsimp only;by_cases hm:m<n
 .rw[if_pos hm]
  exact aBu _ p _ a1 (by lia) (by rw[show max m 1=m by lia];exact a4) k
 .rw[if_neg hm]
  exact k p a1 (by rw[show n=m by lia];exact a4)
theorem wR{I:zAC->Prop}(hc:∀i j (C:Bool->zAC->Prop) s,I s->i<n->j<n->(∀s',I s'->C (O.blt (kz i) (kz j)) s')->cmp i j C s):
  ∀(t:zEp α) (s:zAC),I s->Wr kz n t (λ a=>∀s',I s'->Q a s')->t.kasWp cmp Q s
 | .ret a,s,hI,h=>h s hI
 | .ask i j k,s,hI,⟨h1,h2,h3⟩=>hc i j _ s hI h1 h2 λ s' hI'=>wR hc _ s' hI' h3
end
theorem vo:∀a:List Int,HT.lexLt a a=false
 |[]=>rfl
 |x::a=>by rw[HT.iK,if_pos rfl];exact vo a
theorem nO:∀a b c:List Int,HT.lexLt a b=true->HT.lexLt b c=true->HT.lexLt a c=true
 |[],[],c,h,_=>by cases h
 |[],_::_,[],_,h=>by cases h
 |[],_::_,_::_,_,_=>rfl
 |_::_,[],_,h,_=>by cases h
 |_::_,_::_,[],_,h=>by cases h
 |x::a,y::b,z::c,h1,h2=>by
  rw[HT.iK]at h1 h2 ⊢;by_cases e1:x=y
  .subst e1
   rw[if_pos rfl]at h1;by_cases e2:x=z
   .rw[if_pos e2]at h2 ⊢
    exact nO a b c h1 h2
   .rw[if_neg e2]at h2 ⊢
    exact h2
  .rw[if_neg e1]at h1
   simp only[decide_eq_true_eq]at h1;by_cases e2:y=z
   .subst e2
    rw[if_neg e1];simpa using h1
   .rw[if_neg e2]at h2
    simp only[decide_eq_true_eq]at h2;rw[if_neg (by lia)];simp only[decide_eq_true_eq];lia
theorem sI:∀a b:List Int,HT.lexLt a b=false->HT.lexLt b a=false->a=b
 |[],[],_,_=>rfl
 |[],_::_,h,_=>by cases h
 |_::_,[],_,h=>by cases h
 |x::a,y::b,h1,h2=>by
  rw[HT.iK]at h1 h2;by_cases e:x=y
  .subst e
   rw[if_pos rfl]at h1 h2;rw[sI a b h1 h2]
  .rw[if_neg e]at h1
   rw[if_neg λ q=>e q.symm]at h2;simp only[decide_eq_false_iff_not]at h1 h2;lia
def aCx(a b c:List Int)(h:HT.lexLt a c=true):HT.lexLt a b=true\/HT.lexLt b c=true:=by
 cases e1:HT.lexLt a b with
 |true=>exact .inl rfl
 |false=>
  right;cases e2:HT.lexLt b a with
  |true=>exact nO b a c e2 h
  |false=>rw[<-sI a b e1 e2];exact h
def zj:zBj:=⟨List Int,HT.lexLt,vo,nO,aCx,sI⟩
inductive cY(h:Heap):List Value->List (List Int)->Prop where
 |nil:cY h [] []
 |cons {x:Addr} {o:Obj} {xs:Array Value} {k:Nat} {ns:List Int} {vs:List Value} {nss:gV} (ho:h.get? x=some o) (hc:o.cls= .type "tuple") (hd:o.data= .seq xs k) (hi:zBI xs.toList ns) (hne:ns≠[]) (r:cY h vs nss):cY h (.ref x::vs) (ns::nss)
theorem cY.mono(k:∀x o,h.get? x=some o->o.cls= .type "tuple"->h'.get? x=some o):∀{vs:List Value} {nss:gV},cY h vs nss->cY h' vs nss
 |_,_,.nil=>.nil
 |_,_,.cons ho hc hd hi hne r=>.cons (k _ _ ho hc) hc hd hi hne (cY.mono k r)
theorem cY.at:∀{vs:List Value} {nss:gV} {i:Nat},cY h vs nss->i<vs.length->∃x o xs k,vs.getD i zBY= .ref x/\h.get? x=some o/\o.cls= .type "tuple"/\o.data= .seq xs k/\zBI xs.toList (nss.getD i [])/\nss.getD i []≠[]
 |_,_,_,.nil,hi=>by simp at hi
 |_,_,0,.cons ho hc hd hi hne _,_=>⟨_,_,_,_,rfl,ho,hc,hd,hi,hne⟩
 |_,_,i+1,.cons _ _ _ _ _ r,hi=>by
  obtain⟨x,o,xs,k,q⟩:=cY.at (i:=i) r (by simpa using hi);exact⟨x,o,xs,k,by simpa using q⟩
theorem cY.firsts:∀{vs:List Value} {nss:gV},cY h vs nss->∃fs,PySem.W.KatTups h vs fs/\fs.length=vs.length/\∀f∈fs,∃n t,f=zDO n t
 |_,_,.nil=>⟨[],.nil,rfl,λ f hf=>by simp at hf⟩
 |_,_,.cons (xs:=xs) ho hc hd hi hne r=>by
  obtain⟨fs,h1,h2,h3⟩:=cY.firsts r;obtain⟨l,rfl⟩:∃l:List Value,xs=l.toArray:=⟨xs.toList,by simp⟩
  rw[show l.toArray.toList=l by simp]at hi;cases hi with
  |nil=>exact absurd rfl hne
  |cons n t q=>
   rename_i l' ns';refine⟨.int n t::fs,.cons ho hc hd (by simp) h1,by simp[h2],λ f hf=>?_⟩;rcases zAV.mp hf with rfl|hf
   .exact⟨n,t,rfl⟩
   .exact h3 f hf
section
variable{prog:zAO}{w:World}{A:zA3}{E:Value->zAC->Prop}{s:zAC}
def yF:∀{xs ys:List Value} {ns ms:List Int} (i:Nat),zBI xs ns->zBI ys ms->fin=decide (xs.length<ys.length)->Q (HT.lexLt ns ms) s->PySem.W.KatLex prog w A b fin Q (xs.zip ys) i s:=by
 intro xs ys ns ms i hx;induction hx generalizing ys ms i with
 |nil=>intro hy hf q;cases hy<;>(subst hf;exact q)
 |@cons x t xs ns r ih=>
  intro hy hf q;cases hy with
  |nil=>subst hf;exact q
  |@cons y u ys ms r'=>?_
  rw[zAr];refine PySem.W.kat_cons (wpAny_eqBool_int ?_);rw[HT.iK]at q;by_cases e:x=y
  .rw[if_pos e]at q
   rw[show(x==y)=true by simpa using e];exact PySem.W.kat_yes (ih (i+1) r' (by rw[hf];simp) q)
  .rw[if_neg e]at q
   rw[show(x==y)=false by simpa using e];refine PySem.W.kat_no ?_;cases hb:(b&&i==0)with
   |true=>exact oneLt_int q
   |false=>exact PySem.W.kat_one _ _ (zDZ q)
def aAA(hx:s.heap.get? x=some ox)(dx:ox.data= .seq xs n)(hy:s.heap.get? y=some oy)(dy:oy.data= .seq ys k)(hi:zBI xs.toList ns)(hj:zBI ys.toList ms)
  (q:Q (HT.lexLt ns ms) s):wpAny (model prog w) A (keyLt' (tuples' b) (.ref x) (.ref y)) Q E s:=
 PySem.W.kat_lt hx dx hy dy (yF 0 hi hj (by simp) q)
def lF(vs:List Value)(p:Array Nat):Array Value:=(p.toList.map λ i=>vs.getD i zBY).toArray
def aDw(h:vs.length<2):(vs.toArray.zip vs.toArray).map (·.2)=lF vs (zAp vs.length).toArray:=by
 cases vs with
 |nil=>simp[lF]
 |cons v t=>
  cases t with
  |nil=>simp[lF]
  |cons u t=>exact absurd h (zEw.mpr (Nat.le_add_left 2 t.length))
def zf(ho:s.heap.get? a=some (zBW "list" vs.toArray c))(ht:cY s.heap vs nss)(h64:vs.length<64)
  (h:∀p:Array Nat,Pm vs.length p->Up (O:=zj) (λ i=>nss.getD i []) p vs.length->P (.done (.ret .none)) {s with heap:=zFc s.heap a vs (lF vs p)}):
  wpAny (model prog w) A (zEb.«list.sort» ⟨[.ref a],[]⟩) P E s:=by
 have hlt:a<s.heap.objs.size:=zAX ho;have hz:vs.length<=zAN:=by rw[zDl];lia
 obtain⟨e1,ho1⟩:∃e1,(s.heap.update a (zBP λ _=>(#[]:Array Value))).get? a=some (zBW "list" #[] e1):=⟨_,zDQ ho λ _=>#[]⟩
 have keep:∀x o,s.heap.get? x=some o->o.cls= .type "tuple"->(((s.heap.update a (zBP λ _=>(#[]:Array Value))).push (zBW "tuple" vs.toArray 0)).push (zBW "list" #[] 0)).get? x=some o:=λ x o e q=>by
  have hxa:x≠a:=λ z=>by
   subst z;rw[ho]at e;cases e;exact absurd q (show¬(zDA "list"=zDA "tuple")by decide)
  refine zAF _ (zAF _ ?_);rw[zDC _ _ _ _ hxa];exact e
 have ho6:(((s.heap.update a (zBP λ _=>(#[]:Array Value))).push (zBW "tuple" vs.toArray 0)).push (zBW "list" #[] 0)).get? a=some (zBW "list" #[] e1):=zAF _ (zAF _ ho1);have ht6:=ht.mono keep;rw[list_sort_plain];refine zAE (listItems_at ho rfl (zAE (zFk ho rfl ?_ (by rw[zAI];exact hz) (zAo _))));refine zAE (zGS ho1 rfl (zAE (wpAny_newTuple ?_ (by show vs.length<=_;exact hz))));refine zAE (wpAny_newList (zBT ?_) (zAo _));show wpAny (model prog w) A _ P E {s with heap:=((s.heap.update a (zBP λ _=>(#[]:Array Value))).push (zBW "tuple" vs.toArray 0)).push (zBW "list" #[] 0)};dsimp only;have hsz:∀p:Array Nat,Pm vs.length p->(lF vs p).size=vs.length:=λ p a1=>by unfold lF;rw[zAI,zAB,zCZ,a1.sz]
 by_cases h2:vs.toArray.size<2
 .rw[if_pos h2,if_pos h2]
  refine zAE (zA1 ?_);rw[StateT.run_pure];refine zAE (zA1 ?_);have h2':vs.length<2:=by simpa using h2
  have a1:Pm vs.length (zAp vs.length).toArray:=zFQ _;have a3:=aDw h2';dsimp only;refine zAE (zGS ho6 rfl ?_);show wpAny (model prog w) A (Builtin.List.listUpdate (.ref a) (λ _=>(vs.toArray.zip vs.toArray).map (·.2))>>=_) P E _;rw[a3];refine zAE (zFk ho6 rfl ?_ (zAo _) (by show(lF vs _).size<=_;rw[hsz _ a1];lia));simp only[bne_self_eq_false,zBD,if_false];exact zA1 (h _ a1 λ i j hij hj=>by rw[show i=j by lia];exact vo _)
 .rw[if_neg h2,if_neg h2]
  have h2':2<=vs.length:=zGM (show¬vs.length<2 by simpa using h2);obtain⟨fs,f1,f2,f3⟩:=ht6.firsts;refine zAE (PySem.W.kat_kind (T:=.type "int") f1 (by lia) (λ v hv=>?_) (by decide) ?_)
  .obtain⟨n,t,rfl⟩:=f3 v hv
   exact zG9
  rw[show(zDA "int" !=zDA "tuple")=true by decide];refine zAE (zBV (PySem.W.kat_run (κ:=tuples' true) (ks:=vs) (vs:=vs) (Q:=λ st s'=>s'={s with heap:=((s.heap.update a (zBP λ _=>(#[]:Array Value))).push (zBW "tuple" vs.toArray 0)).push (zBW "list" #[] 0)}/\∃p:Array Nat,Pm vs.length p/\Up (O:=zj) (λ i=>nss.getD i []) p vs.length/\(arrOf st).map (·.2)=lF vs p/\zFB st=none)
   (G:=λ p s'=>s'={s with heap:=((s.heap.update a (zBP λ _=>(#[]:Array Value))).push (zBW "tuple" vs.toArray 0)).push (zBW "list" #[] 0)}/\Pm vs.length p/\Up (O:=zj) (λ i=>nss.getD i []) p vs.length)
   rfl h2' h64 (λ p st s' _ b2 b3 b4=>⟨b4.1,p,b4.2.1,b4.2.2,PySem.W.kat_snds rfl b2,b3⟩) ?_) (λ r s' hr=>?_) λ _ _ e=>e)
  .refine wR (O:=zj) (kz:=λ i=>nss.getD i []) (n:=vs.length) (I:=λ s'=>s'={s with heap:=((s.heap.update a (zBP λ _=>(#[]:Array Value))).push (zBW "tuple" vs.toArray 0)).push (zBW "list" #[] 0)}) (λ i j C s' hI hi hj hC=>?_) _ _ rfl (aDy (by lia) λ p a1 a2 s' hs'=>⟨hs',a1,a2⟩)
   subst hI;unfold PySem.W.kas_ask;obtain⟨x,ox,xs,kx,x1,x2,_,x4,x5,_⟩:=ht6.at hi;obtain⟨y,oy,ys,ky,y1,y2,_,y4,y5,_⟩:=ht6.at hj;rw[x1,y1];exact aAA x2 x4 y2 y4 x5 y5 (hC _ rfl)
  .obtain⟨⟨⟩,st⟩:=r
   obtain⟨e,p,b1,b2,b3,b4⟩:=hr;subst e;refine zAE (zGS ho6 rfl ?_);rw[b3,b4];refine zAE (zFk ho6 rfl ?_ (zAo _) (by show(lF vs p).size<=_;rw[hsz p b1];lia));simp only[bne_self_eq_false,zBD,if_false];exact zA1 (h p b1 b2)
end
theorem sub_len[BEq α][LawfulBEq α]:∀{l l':List α},l.Nodup->(∀x∈l,x∈l')->l.length<=l'.length
 |[],_,_,_=>zAo _
 |x::l,l',nd,h=>by
  have hx:x∈l':=h x zAP;have ih:=sub_len (l:=l) (l':=l'.erase x) (zAm.mp nd).2 λ y hy=>(zF1 λ e=>by subst e;exact(zAm.mp nd).1 hy).mpr (h y (zAK _ hy))
  rw[List.length_erase_of_mem hx]at ih
  have:0<l'.length:=List.length_pos_of_mem hx
  rw[zA2];lia
def Ris(xs:Array Nat):Prop:=∀i j,i<j->j<xs.size->xs.getD i 0<xs.getD j 0
structure TbOk(t:zFA)(n:Nat):Prop where
 dum:t.dummies=#[]
 siz:t.place.size=n
 ris:Ris t.place
 top:∀i,i<n->t.place.getD i 0<=t.mask
 msk:t.mask=7/\n<5\/t.mask=31/\n<19\/t.mask=127/\n<77
 pla:t.plain=true
structure TbPut(t:zFA)(n:Nat):Prop where
 dum:t.dummies=#[]
 siz:t.place.size=n
 ris:Ris t.place
 top:∀i,i<n->t.place.getD i 0<=t.mask
 msk:t.mask=7/\n<=5\/t.mask=31/\n<=19\/t.mask=127/\n<77
 pla:t.plain=true
structure TupAt(h:Heap)(x:Addr)(ns:List Int):Prop where
 ex:∃o xs k,h.get? x=some o/\o.cls= .type "tuple"/\o.data= .seq xs k/\zBI xs.toList ns
end VL
namespace PySem
end PySem
namespace VL
open PySem PySem.Spec PyProof.Rows L2
def aFg(h:Heap)(p:Value×List Int):Prop:=∃x o xs k,p.1= .ref x/\h.get? x=some o/\o.cls= .type "tuple"/\o.data= .seq xs k/\zBI xs.toList p.2/\p.2≠[]
theorem cY.all:∀{vs:List Value} {nss:gV},cY h vs nss->∀p∈vs.zip nss,aFg h p
 |_,_,.nil,p,hp=>by simp at hp
 |_,_,.cons ho hc hd hi hne r,p,hp=>by
  rw[zAr]at hp;rcases zAV.mp hp with e|hp
  .subst e;exact⟨_,_,_,_,rfl,ho,hc,hd,hi,hne⟩
  .exact r.all p hp
theorem aAS:∀{zs:List (Value×List Int)},(∀p∈zs,aFg h p)->cY h (zs.map (·.1)) (zs.map (·.2))
 |[],_=>.nil
 |p::zs,hz=>by
  obtain⟨x,o,xs,k,e1,e2,e3,e4,e5,e6⟩:=hz p zAP;rw[zAG,zAG,e1];exact .cons e2 e3 e4 e5 e6 (aAS λ q hq=>hz q (zAK _ hq))
def nJ(h:l.Perm m'):∀{m:List α},m'=m.map f->∃m2:List α,m2.Perm m/\l=m2.map f:=by
 induction h with
 |nil=>intro m e;exact⟨m,zBp _,e⟩
 |cons x p ih=>
  intro m e;cases m with
  |nil=>cases e
  |cons a m=>
   rw[zAG]at e;injection e with e1 e2
   obtain⟨m2,q1,q2⟩:=ih e2;exact⟨a::m2,q1.cons a,by rw[zAG,q2,e1]⟩
 |swap x y l=>
  intro m e;cases m with
  |nil=>cases e
  |cons a m=>
   cases m with
   |nil=>rw[zAG]at e;injection e with _ e2;cases e2
   |cons b m=>
    rw[zAG,zAG]at e;injection e with e1 e2
    injection e2 with e2 e3
    exact⟨b::a::m,zEP _ _ _,by rw[zAG,zAG,e1,e2,e3]⟩
 |trans p q ih1 ih2=>
  intro m e;obtain⟨m2,a1,a2⟩:=ih2 e;obtain⟨m3,b1,b2⟩:=ih1 a2;exact⟨m3,b1.trans a1,b2⟩
def n8(l:gV):Prop:=l.Pairwise λ a b=>HT.lexLt b a=false
section
variable{prog:zAO}{w:World}{A:zA3}{E:Value->zAC->Prop}{s:zAC}
def w6{Q:Value->zAC->Prop}(hz:∀p∈zs,aFg s.heap p)(h64:zs.length<64)
  (h:∀(zs':List (Value×List Int)) h' e,zs'.Perm zs->n8 (zs'.map (·.2))->(∀b o,s.heap.get? b=some o->h'.get? b=some o)->h'.get? s.heap.objs.size=some (zBW "list" (zs'.map (·.1)).toArray e)->Q (.ref s.heap.objs.size) {s with heap:=h'}):
  wpAny (model prog w) A (zGR (zs.map (·.1))>>=λ l=>zCU [l] (call (.builtin "list.sort") [l])>>=λ _=>ret l) (λ fin s'=>∃r,fin= .done (.ret r)/\Q r s') E s:=by
 have hW:(zs.map (·.1)).length=zs.length:=zAB _;refine zAE (wpAny_newList ?_ (by rw[zDl];omega));have hoL:(s.heap.push (zBW "list" (zs.map (·.1)).toArray 0)).get? s.heap.objs.size=some (zBW "list" (zs.map (·.1)).toArray 0):=zAW _ rfl;refine zAE (zBT (wpAny_call_entry slot_list_sort ⟨_,hoL,rfl⟩ entry_list_sort ?_ (args_list_sort _)));refine zf (s:={s with heap:=s.heap.push (zBW "list" (zs.map (·.1)).toArray 0)}) hoL (aAS λ p hp=>?_) (by omega) λ p a1 a2=>⟨_,rfl,?_⟩
 .obtain⟨x,o,xs,k,e1,e2,e3⟩:=hz p hp
  exact⟨x,o,xs,k,e1,zAF _ e2,e3⟩
 rw[hW]at a1 a2;have dA:p.toList.map (λ i=>(zs.map (·.1)).getD i zBY)=(p.toList.map λ i=>zs.getD i (zBY,[])).map (·.1):=by
  rw[zAc];refine zC5 λ i hi=>?_
  show(zs.map (·.1)).getD i zBY=(zs.getD i (zBY,[])).1
  rw[zAQ,zAQ,zAL];cases zs[i]?<;>rfl
 have hperm:(p.toList.map λ i=>zs.getD i (zBY,[])).Perm zs:=by
  have h1:p.toList.Perm (zAp zs.length):=by
   have:=Array.perm_iff_toList_perm.mp a1
   simpa using this
  refine(h1.map _).trans ?_
  have:(zAp zs.length).map (λ i=>zs.getD i (zBY,[]))=zs:=by
   refine List.ext_getElem (by simp) λ i h1 h2=>?_
   rw[zCq,List.getElem_range,zAQ,zAD h2];rfl
  rw[this]
 have hne:∀b o,s.heap.get? b=some o->b≠s.heap.objs.size:=λ b o e=>zA5 (zAX e)
 obtain⟨e1,he1⟩:∃e1,((s.heap.push (zBW "list" (zs.map (·.1)).toArray 0)).update s.heap.objs.size (zBP λ _=>(#[]:Array Value))).get? s.heap.objs.size=some (zBW "list" #[] e1):=⟨_,zDQ hoL λ _=>#[]⟩
 have g1:=zAF (zBW "list" #[] 0) (zAF (zBW "tuple" (zs.map (·.1)).toArray 0) he1);have g2:=zDQ g1 (λ _=>lF (zs.map (·.1)) p);generalize (if ((lF (zs.map (·.1)) p).size==(#[]:Array Value).size)=true then e1 else e1+1)=c1 at g2;have hend:(zFc (s.heap.push (zBW "list" (zs.map (·.1)).toArray 0)) s.heap.objs.size (zs.map (·.1)) (lF (zs.map (·.1)) p)).get? s.heap.objs.size=some (zBW "list" (lF (zs.map (·.1)) p) c1):=g2;have aE:lF (zs.map (·.1)) p=((p.toList.map λ i=>zs.getD i (zBY,[])).map (·.1)).toArray:=by unfold lF;rw[dA]
 have hris:n8 ((p.toList.map λ i=>zs.getD i (zBY,[])).map (·.2)):=by
  unfold n8;rw[zAc];refine zDL.mpr λ i j hi hj hij=>?_
  rw[zAB,zCZ,a1.sz]at hi hj;have hk:∀k (hk:k<zs.length),Kp (O:=zj) (λ i=>(zs.map (·.2)).getD i []) p k=(zs.getD (p.getD k 0) (zBY,[])).2:=λ k hk=>by
   show(zs.map (·.2)).getD (p.getD k 0) []=_
   rw[zAQ,zAQ,zAL];cases zs[p.getD k 0]?<;>rfl
  have hg:∀k (hk:k<p.toList.length),p.toList[k]=p.getD k 0:=λ k hk=>by
   have:k<p.size:=by simpa using hk
   simp[Array.getD,this]
  have this:HT.lexLt (Kp (O:=zj) (λ i=>(zs.map (·.2)).getD i []) p j) (Kp (O:=zj) (λ i=>(zs.map (·.2)).getD i []) p i)=false:=a2 i j (zBd hij) hj;rw[hk i hi,hk j hj]at this;rw[zCq,zCq,hg,hg];exact this
 have cE:∀b o,s.heap.get? b=some o->(zFc (s.heap.push (zBW "list" (zs.map (·.1)).toArray 0)) s.heap.objs.size (zs.map (·.1)) (lF (zs.map (·.1)) p)).get? b=some o:=λ b o e=>by
  unfold zFc;rw[zDC _ _ _ _ (hne b o e)];refine zAF _ (zAF _ ?_);rw[zDC _ _ _ _ (hne b o e)];exact zAF _ e
 rw[aE]at hend cE;have hq:=h (p.toList.map λ i=>zs.getD i (zBY,[])) _ c1 hperm hris cE hend;rw[<-aE]at hq;exact zA1 ⟨_,rfl,hq⟩
def vQ(h:wpAny (model prog w) A.in1 (collect v) (λ vs s'=>wpAny (model prog w) A.in1 (zGR vs>>=λ l=>zCU [l] (call (.builtin "list.sort") [l])>>=λ _=>ret l) (λ fin s'=>∃r,fin= .done (.ret r)/\Q r s') E s') E s):
  wpAny (model prog w) A (call (.builtin "sorted") [v]) Q E s:=by
 refine Calls.call_function_entry kind_sorted plain_sorted entry_sorted (args_sorted1 _) ?_;unfold zEb.«sorted»;refine zAE (m:=checkCount "sorted" 1 1 _) (zA1 (zAE ?_));exact h
end
inductive gG(K:zAA)(H:Hp):List V->List (List Int)->Prop where
 |nil:gG K H [] []
 |cons {a:Addr} {ns:List Int} {vs:List V} {nss:gV} (h:SqT K H a (ns.map V.int)) (hne:ns≠[]) (r:gG K H vs nss):gG K H (.ref a::vs) (ns::nss)
def oX:V->Value
 | .ref a=>.ref a
 |_=>.none
def gG.vals{K:zAA}:∀{vs:List V} {nss:gV} {us:List Value},gG K H vs nss->Vals vs us->us=vs.map oX:=by
 intro vs nss us t v;induction v generalizing nss with
 |nil=>rfl
 |cons q s ih=>
  cases t with
  |cons _ _ r=>
   cases q;rw[zAG,ih r];rfl
theorem gG.len{K:zAA}:∀{vs:List V} {nss:gV},gG K H vs nss->vs.length=nss.length
 |_,_,.nil=>rfl
 |_,_,.cons _ _ r=>by rw[zA2,zA2,r.len]
theorem gG.refs{K:zAA}:∀{vs:List V} {nss:gV},gG K H vs nss->∀v∈vs,RelV v (oX v)
 |_,_,.nil,v,hv=>by simp at hv
 |_,_,.cons _ _ r,v,hv=>by
  rcases zAV.mp hv with e|hv
  .subst e;exact rfl
  .exact r.refs v hv
theorem gG.at(I:Inv X hV Z H s):∀{vs:List V} {nss:gV},gG X.K H vs nss->cY s.heap (vs.map oX) nss
 |_,_,.nil=>.nil
 |_,_,.cons h hne r=>by
  obtain⟨its,rv,⟨o,ho,hc,n,hd⟩,_⟩:=I.tuple h;exact .cons ho hc hd (by simpa using intsAre_of rv) hne (r.at I)
theorem uN:∀{vs:List V},(∀v∈vs,RelV v (oX v))->Vals vs (vs.map oX)
 |[],_=>.nil
 |v::vs,h=>.cons (h v zAP) (uN λ u hu=>h u (zAK _ hu))
section
variable{X:Cx}
def aDk(H:Hp)(vs:List V)(nss:gV)(Q:VK):Prop:=∀zs:List (V×List Int),zs.Perm (vs.zip nss)->n8 (zs.map (·.2))->New H (.lst (zs.map (·.1))) Q
def yq{hV:hZ}(I:Inv X hV Z H s)(ht:gG X.K H vs nss)(h64:vs.length<64)(q:aDk H vs nss Q)
  (hs1:∃h1 tk,s1={s with heap:=h1,toks:=tk}/\s.heap.objs.size<=h1.objs.size/\∀b o,s.heap.get? b=some o->h1.get? b=some o){zs:List (Value×List Int)}(hz:zs.Perm ((vs.map oX).zip nss))(hus:us=zs.map (·.1)):
  wpAny (model X.prog X.w) X.A.in1 (zGR us>>=λ l=>zCU [l] (call (.builtin "list.sort") [l])>>=λ _=>ret l) (λ fin s'=>∃r,fin= .done (.ret r)/\EP X hV Z Q r s') X.xe s1:=by
 obtain⟨h1,tk,rfl,hsz,keep⟩:=hs1;subst hus;have qV:∀p∈zs,aFg h1 p:=λ p hp=>by
  obtain⟨x,o,xs,k,e1,e2,e3⟩:=(ht.at I).all p (hz.mem_iff.mp hp);exact⟨x,o,xs,k,e1,keep _ _ e2,e3⟩
 have hW:zs.length<64:=by
  rw[hz.length_eq,zGK,zAB,<-ht.len,zEW];exact h64
 refine w6 (s:={s with heap:=h1,toks:=tk}) qV hW λ zs' h' e a1 a2 a3 a4=>?_
 have dA:(vs.map oX).zip nss=(vs.zip nss).map λ p=>(oX p.1,p.2):=by rw[List.zip_map_left];rfl
 obtain⟨ws,w1,w2⟩:=nJ (f:=λ p:V×List Int=>(oX p.1,p.2)) (a1.trans hz) dA;have hfr:H h1.objs.size=none:=I.hok.fresh hsz;have oQ:∀v∈ws.map (·.1),RelV v (oX v):=λ v hv=>by
  obtain⟨p,hp,rfl⟩:=zAZ.mp hv;exact ht.refs p.1 (zDb (w1.mem_iff.mp hp)).1
 have hws:zs'.map (·.1)=(ws.map (·.1)).map oX:=by rw[w2,zAc,zAc];rfl
 have hwl:(ws.map (·.1)).length<=zAN:=by
  rw[zAB,w1.length_eq,zGK,<-ht.len,zEW,zDl];lia
 refine⟨.ref h1.objs.size,upd H h1.objs.size (.lst (ws.map (·.1))),I.laid (t':=tk) (λ b o e=>a3 b o (keep b o e)) hsz ⟨hwl,(ws.map (·.1)).map oX,e,uN oQ,?_⟩,rfl,(q ws w1 ?_).at hfr⟩
 .rw[<-hws];exact a4
 .have:ws.map (·.2)=zs'.map (·.2):=by rw[w2,zAc];rfl
  rw[this];exact a2
def zM(K:zAA):List V->Hp->VK->Prop:=λ xs H Q=>∃p vs nss,xs=[.ref p]/\SqL K H p vs/\gG K H vs nss/\vs.length<64/\aDk H vs nss Q
def uL:dN X (.builtin "sorted") (zM X.K):=by
 intro hV s Z H xs us Q I r h;obtain⟨p,vs,nss,rfl,hp,ht,h64,q⟩:=h;obtain⟨u,rfl,ru⟩:=vals1 r;cases ru;obtain⟨its,rv,pl,hz⟩:=I.list hp;have e:=ht.vals rv;subst e;have hl2:(vs.map oX).length=nss.length:=by rw[zAB];exact ht.len
 refine vQ (collect_list pl.isList ?_ (by rw[zAB];exact hz));refine yq I ht h64 q ⟨_,_,rfl,?_,λ b o e=>?_⟩ (zBp _) ?_
 .rw[Heap.size_update,size_push']
  exact zCG _
 .rw[zDC _ _ _ _ (zA5 (zAX e))]
  exact zAF _ e
 .exact(zGA (by lia)).symm
end
def aB8(a:List Int):gV->List (List Int)
 |[]=>[a]
 |b::l=>if HT.lexLt b a then b::aB8 a l else a::b::l
def rC:gV->List (List Int)
 |[]=>[]
 |a::l=>aB8 a (rC l)
theorem ou(a:List Int):∀l,(aB8 a l).Perm (a::l)
 |[]=>zBp _
 |b::l=>by
  unfold aB8;split
  .exact((ou a l).cons b).trans (zEP _ _ _)
  .exact zBp _
theorem mD:∀l,(rC l).Perm l
 |[]=>zBp _
 |a::l=>(ou a _).trans ((mD l).cons a)
def aFC(h:HT.lexLt a b=true):HT.lexLt b a=false:=by
 cases e:HT.lexLt b a with
 |false=>rfl
 |true=>have:=nO a b a h e;rw[vo]at this;cases this
def aHa(h1:HT.lexLt b a=false)(h2:HT.lexLt c b=false):HT.lexLt c a=false:=by
 cases e:HT.lexLt c a with
 |false=>rfl
 |true=>
  rcases aCx c b a e with z|z
  .rw[h2]at z;cases z
  .rw[h1]at z;cases z
theorem sY(a:List Int):∀l,n8 l->n8 (aB8 a l)
 |[],_=>zAf.mpr ⟨λ _ h=>by simp at h,.nil⟩
 |b::l,h=>by
  obtain⟨h1,h2⟩:=zAf.mp h;unfold aB8;cases e:HT.lexLt b a with
  |true=>
   rw[if_pos rfl];refine zAf.mpr ⟨λ x hx=>?_,sY a l h2⟩;rcases zAV.mp ((ou a l).mem_iff.mp hx)with q|q
   .subst q;exact aFC e
   .exact h1 x q
  |false=>
   rw[if_neg (by simp)];refine zAf.mpr ⟨λ x hx=>?_,h⟩;rcases zAV.mp hx with q|q
   .subst q;exact e
   .exact aHa e (h1 x q)
theorem jg:∀l,n8 (rC l)
 |[]=>.nil
 |a::l=>sY a _ (jg l)
theorem uU:∀{a b:gV},a.Perm b->n8 a->n8 b->a=b
 |[],b,p,_,_=>p.nil_eq
 |x::a,b,p,h1,h2=>by
  cases b with
  |nil=>exact absurd p.length_eq (by simp)
  |cons y b=>
   have hxy:x=y:=by
    obtain⟨q1,_⟩:=zAf.mp h1;obtain⟨q2,_⟩:=zAf.mp h2;have m1:x∈y::b:=p.mem_iff.mp zAP;have m2:y∈x::a:=p.mem_iff.mpr zAP;rcases zAV.mp m1 with e|m1
    .exact e
    .rcases zAV.mp m2 with e|m2
     .exact e.symm
     .exact sI _ _ (q2 x m1) (q1 y m2)
   subst hxy;rw[uU (List.Perm.cons_inv p) (zAf.mp h1).2 (zAf.mp h2).2]
abbrev tupI(ns:List Int):D:=.tup (ns.map .int)
def lq:List D->Option gV
 |[]=>some []
 | .tup l::r=>match intsOf l,lq r with
  |some (n::ns),some nss=>some ((n::ns)::nss)
  |_,_=>none
 |_=>none
theorem pQ:∀{l:List D} {nss:gV},lq l=some nss->l=nss.map tupI/\∀ns∈nss,ns≠[]
 |[],nss,h=>by cases h;exact⟨rfl,λ ns h=>by simp at h⟩
 | .tup l::r,nss,h=>by
  unfold lq at h;split at h
  .rename_i n ns nss' e1 e2
   cases h;obtain⟨q1,q2⟩:=pQ e2;rw[cg e1,q1];refine⟨rfl,λ ms hm=>?_⟩;rcases zAV.mp hm with e|hm
   .subst e;simp
   .exact q2 ms hm
  .cases h
 | .non::_,_,h=>by cases h
 | .int _::_,_,h=>by cases h
 | .bl _::_,_,h=>by cases h
 | .str _::_,_,h=>by cases h
 | .lst _::_,_,h=>by cases h
 | .dct _ _::_,_,h=>by cases h
 | .set _::_,_,h=>by cases h
 | .scr _::_,_,h=>by cases h
theorem qx:∀{nss:gV},(∀ns∈nss,ns≠[])->lq (nss.map tupI)=some nss
 |[],_=>rfl
 |[]::nss,h=>absurd rfl (h [] zAP)
 |(n::ns)::nss,h=>by
  have ih:=qx λ ms hm=>h ms (zAK _ hm)
  rw[zAG];unfold lq;rw[ih,show intsOf (List.map D.int (n::ns))=some (n::ns)from cj _]
theorem wX{K:zAA}:∀{xs:List V} {nss:gV},Rps K A H xs (nss.map tupI)->(∀ns∈nss,ns≠[])->gG K H xs nss
 |_,[],.nil,_=>.nil
 |_,ns::nss,.cons h r,hne=>by
  cases h with
  |tup h r'=>
   have e:=r'.ints_of;subst e;exact .cons h (hne ns zAP) (wX r λ ms hm=>hne ms (zAK _ hm))
theorem aCU{K:zAA}:∀{zs:List (V×List Int)},(∀p∈zs,∃a,p.1= .ref a/\SqT K H a (p.2.map V.int))->Rps K A H (zs.map (·.1)) ((zs.map (·.2)).map tupI)
 |[],_=>.nil
 |p::zs,h=>by
  obtain⟨a,e1,e2⟩:=h p zAP;rw[zAG,zAG,zAG,e1];exact .cons (.tup e2 .ints) (aCU λ q hq=>h q (zAK _ hq))
theorem gG.all{K:zAA}:∀{vs:List V} {nss:gV},gG K H vs nss->∀p∈vs.zip nss,∃a,p.1= .ref a/\SqT K H a (p.2.map V.int)
 |_,_,.nil,p,hp=>by simp at hp
 |_,_,.cons h _ r,p,hp=>by
  rw[zAr]at hp;rcases zAV.mp hp with e|hp
  .subst e;exact⟨_,rfl,h⟩
  .exact r.all p hp
def aCH{K:zAA}(ht:gG K H vs nss)(q:∀v H',aQ H H'->Rp K (λ p=>H p=none) H' v (.lst ((rC nss).map tupI))->Q v H'):aDk H vs nss Q:=by
 intro zs hz hr p H' s hp hn;have e:zs.map (·.2)=rC nss:=uU (((hz.map (·.2)).trans (by rw[zGB (by rw[ht.len];exact zAT _)])).trans (mD nss).symm) hr (jg nss);refine q _ H' s (.lst hp hn ?_);rw[<-e];exact aCU λ p hp=>by
  obtain⟨a,e1,e2⟩:=ht.all p (hz.mem_iff.mp hp);exact⟨a,e1,s.sqt e2⟩
def insI(a:Int):List Int->List Int
 |[]=>[a]
 |b::l=>if b<a then b::insI a l else a::b::l
def sortI:List Int->List Int
 |[]=>[]
 |a::l=>insI a (sortI l)
theorem insI_perm(a:Int):∀l,(insI a l).Perm (a::l)
 |[]=>zBp _
 |b::l=>by
  unfold insI;split
  .exact((insI_perm a l).cons b).trans (zEP _ _ _)
  .exact zBp _
theorem sortI_perm:∀l,(sortI l).Perm l
 |[]=>zBp _
 |a::l=>(insI_perm a _).trans ((sortI_perm l).cons a)
theorem yH(a:Int):∀l:List Int,l.Pairwise (·<=·)->(insI a l).Pairwise (·<=·)
 |[],_=>zAf.mpr ⟨λ _ h=>by simp at h,.nil⟩
 |b::l,h=>by
  obtain⟨h1,h2⟩:=zAf.mp h;unfold insI;by_cases e:b<a
  .rw[if_pos e]
   refine zAf.mpr ⟨λ x hx=>?_,yH a l h2⟩;rcases zAV.mp ((insI_perm a l).mem_iff.mp hx)with q|q
   .lia
   .exact h1 x q
  .rw[if_neg e]
   refine zAf.mpr ⟨λ x hx=>?_,h⟩;rcases zAV.mp hx with q|q
   .lia
   .have:=h1 x q;lia
theorem uR:∀l,(sortI l).Pairwise (·<=·)
 |[]=>.nil
 |a::l=>yH a _ (uR l)
theorem mj:∀{us:List Value} {ns:List Int},zBI us ns->Vals (ns.map V.int) us
 |_,_,.nil=>.nil
 |_,_,.cons n t r=>.cons ⟨t,rfl⟩ (mj r)
section
variable{X:Cx}
def zN(K:zAA):List V->Hp->VK->Prop:=λ xs H Q=>∃p ns,xs=[.ref p]/\SqL K H p (ns.map V.int)/\ns.length<64/\New H (.lst ((sortI ns).map V.int)) Q
def wJ:dN X (.builtin "sorted") (zN X.K):=by
 intro hV s Z H xs us Q I r h;obtain⟨p,ns,rfl,hp,h64,q⟩:=h;obtain⟨u,rfl,ru⟩:=vals1 r;cases ru;obtain⟨its,rv,pl,hz⟩:=I.list hp;have hI:zBI its ns:=intsAre_of rv;have hW:its.length<64:=by
  have:=rv.length
  rw[zAB]at this;lia
 refine sorted_ints pl.isList hI hW λ out ns' h1 h2 h3=>?_
 have e:ns'=sortI ns:=PySem.W.ksm_same (h2.trans (sortI_perm ns).symm) h3 (uR ns);subst e;obtain⟨e,he⟩:=sortedAll_at s.heap its out;have hfr:H (s.heap.objs.size+1)=none:=I.hok.fresh (zCG _);refine⟨.ref (s.heap.objs.size+1),upd H (s.heap.objs.size+1) (.lst ((sortI ns).map V.int)),I.laid (t':=s.toks) (λ b o q=>sortedAll_old q) (zCG _) ?_,rfl,q.at hfr⟩;refine⟨?_,out.toList,e,mj h1,?_⟩
 .rw[zAB,h2.length_eq]
  exact zAi (zBd h64) (by decide)
 .rw[Array.toArray_toList]
  exact he
end
def aGU(K:zAA)(r:List V->Hp->VK->Prop)(fd:List D->Rs D):Prop:=∀(A:Addr->Prop) xs ds H (Q:VK) z,Rps K A H xs ds->fd ds= .ok z->(∀v H',aQ H H'->Rp K (λ p=>H p=none) H' v z->Q v H')->r xs H Q
def aEK{K:zAA}(hs:aGU K r fd)(h1:aFd K G m ta g):ie K G (some []) (tCB r ta) (opA fd g):=by
 intro τ Z H Y lab Q R W;refine h1 τ Z H Y lab _ R (W.bd.imp λ d _ w x H1 s1 r1=>?_);obtain⟨z,ez,w⟩:=w.okD;exact hs (fpM m lab H) x d H1 Q z r1 ez λ v H' s r=>w v H' (s1.trans s) (r.wk λ p o _ q=>.inl (s1.free q))
def lN:List D->Rs D
 |[.lst l]=>match lq l with
  |some nss=>if nss.length<64 then .ok (.lst ((rC nss).map tupI))else .st
  |none=>match intsOf l with
   |some ns=>if ns.length<64 then .ok (.lst ((sortI ns).map .int))else .st
   |none=>.st
 |_=>.st
def aBe{K:zAA}:aGU K (λ xs H Q=>zM K xs H Q\/zN K xs H Q) lN:=by
 intro A xs ds H Q z r ez q;unfold lN at ez;split at ez
 .cases r with
  |cons h r=>
   cases r;cases h with
   |lst h m r=>
    split at ez
    .rename_i nss e
     obtain⟨e1,e2⟩:=pQ e;subst e1;split at ez
     .rename_i hl
      cases ez;have ht:=wX r e2;exact .inl ⟨_,_,nss,rfl,SqL.of h,ht,by rw[ht.len];exact hl,aCH ht q⟩
     .cases ez
    .split at ez
     .rename_i ns e
      have e1:=cg e;subst e1;split at ez
      .rename_i hl
       cases ez;have e2:=r.ints_of;subst e2;exact .inr ⟨_,ns,rfl,SqL.of h,hl,λ p H' s hp hn=>q _ H' s (.lst hp hn .ints)⟩
      .cases ez
     .cases ez
 .cases ez
section
variable{C:Ct}{pos p:Pos}{m:Mode}{a:Expr}{ga:En->Rs (List D)}
def aBG(hm:C.mg "sorted"=none)(ha:SA C m [a] ga)(he:∀i,zAS [a] (C.X i).env=[(false,eval a (C.X i).env)]:=by intro _;rfl)(hg:∀i,Gl (C.X i) "sorted":=by intro _;rfl)(hv:zAj "sorted"=some (.builtin "sorted"):=by decide+kernel):SE C (some []) (.Call (.Name "sorted" p) [a] [] pos) (opA lN ga):=by
 obtain⟨t,h1,h2⟩:=ha;refine⟨_,λ i=>nM (r:=λ xs H Q=>zM C.K xs H Q\/zN C.K xs H Q) (by rw[<-C.hK i];exact uL.or wJ) (hg i) (by rw[(C.cx i).2.2.2.1];exact hm) hv (h1 i) (by decide) (by decide) (he i) rfl,aEK aBe h2⟩
end
structure Mg{β:Type}(r:β->β->Prop)(T out ra rb:List β):Prop where
 pm:(out++(ra++rb)).Perm T
 so:out.Pairwise r
 lo:∀x∈out,∀y∈ra++rb,r x y
 sa:ra.Pairwise r
 sb:rb.Pairwise r
section
variable{β:Type}{r:β->β->Prop}{T:List β}
def Mf(r:β->β->Prop)(T o:List β):Prop:=o.Perm T/\o.Pairwise r
end
structure Eg(st st':zCr):Prop where
 k:zCt st'=zCt st
 a:arrOf st'=arrOf st
 p:zFK st'=zFK st
 f:zFB st'=zFB st
abbrev LS:=Option (Array Keyed)×Array Keyed×Nat×Nat×Nat×Nat×Nat
section
variable{O:zBj}{kf:Keyed->O.α}{T:List Keyed}{a b out:Array Keyed}{ia ib mg ac bc m0:Nat}{st:zCr}{Q:ForInStep LS->zCr->Prop}
abbrev rK(O:zBj)(kf:Keyed->O.α)(x y:Keyed):Prop:=O.kle (kf x) (kf y)
abbrev Ml(O:zBj)(kf:Keyed->O.α)(T:List Keyed)(a b out:Array Keyed)(ia ib:Nat):Prop:=Mg (rK O kf) T out.toList (a.toList.drop ia) (b.toList.drop ib)
structure Tu(O:zBj)(kf:Keyed->O.α)(T:List Keyed)(a b:Array Keyed)(m0:Nat)(st:zCr)(Q:ForInStep LS->zCr->Prop):Prop where
 ret:∀o out ia ib mg ac bc st',Eg st st'->Mf (rK O kf) T o.toList->Q (.done (some o,out,ia,ib,mg,ac,bc)) st'
 on:∀out ia ib mg ac bc st',Eg st st'->Ml O kf T a b out ia ib->ia+1<a.size->ib<b.size->m0<ia+ib->Q (.done (none,out,ia,ib,mg,ac,bc)) st'/\Q (.yield (none,out,ia,ib,mg,ac,bc)) st'
end
abbrev HS:=Option (Array Keyed)×Nat×Nat×Array Keyed×Nat×Nat×Nat
section
variable{O:zBj}{kf:Keyed->O.α}{G:Keyed->Prop}{T:List Keyed}{a b out:Array Keyed}{na nb mg ac bc m0:Nat}{st:zCr}{Q:ForInStep HS->zCr->Prop}
abbrev rH(O:zBj)(kf:Keyed->O.α)(x y:Keyed):Prop:=O.kle (kf y) (kf x)
abbrev Mh(O:zBj)(kf:Keyed->O.α)(T:List Keyed)(a b out:Array Keyed)(na nb:Nat):Prop:=Mg (rH O kf) T out.toList (a.toList.take na).reverse (b.toList.take nb).reverse
structure Bb(O:zBj)(kf:Keyed->O.α)(G:Keyed->Prop)(a b:Array Keyed):Prop where
 ga:∀x∈a.toList,G x
 gb:∀x∈b.toList,G x
 b0:0<b.size
 fb:∀x∈a.toList,O.kle (kf b[0]) (kf x)
structure Th(O:zBj)(kf:Keyed->O.α)(T:List Keyed)(a b:Array Keyed)(m0:Nat)(st:zCr)(Q:ForInStep HS->zCr->Prop):Prop where
 ret:∀o na nb out mg ac bc st',Eg st st'->Mf (rK O kf) T o.toList->Q (.done (some o,na,nb,out,mg,ac,bc)) st'
 on:∀na nb out mg ac bc st',Eg st st'->Mh O kf T a b out na nb->0<na->1<nb->na<=a.size->nb<=b.size->na+nb<m0->Q (.done (none,na,nb,out,mg,ac,bc)) st'/\Q (.yield (none,na,nb,out,mg,ac,bc)) st'
end
structure Ea(st st':zCr):Prop where
 k:zCt st'=zCt st
 p:zFK st'=zFK st
 f:zFB st'=zFB st
section
variable{κ:zCz}{G:Keyed->Prop}{st:zCr}{P R:List Keyed}{lo:Nat}
structure Sg(κ:zCz)(G:Keyed->Prop)(st:zCr)(lo:Nat)(P R:List Keyed):Prop where
 k:zCt st=κ
 l:(arrOf st).toList=P++R
 p:P.length=lo
 g:∀x∈R,G x
end
def Pr(O:zBj)(kf:Keyed->O.α):Nat->List (List Keyed)->List (Nat×Nat×Nat)->Prop
 |_,[],[]=>True
 |o,x::segs,p::ps=>p.1=o/\p.2.1=x.length/\0<x.length/\x.Pairwise (rK O kf)/\Pr O kf (o+x.length) segs ps
 |_,_,_=>False
section
variable{κ:zCz}{O:zBj}{kf:Keyed->O.α}{st:zCr}{T R:List Keyed}{segs:List (List Keyed)}
structure Rn(κ:zCz)(O:zBj)(kf:Keyed->O.α)(T:List Keyed)(st:zCr)(segs:List (List Keyed))(R:List Keyed):Prop where
 k:zCt st=κ
 f:zFB st=none
 l:(arrOf st).toList=segs.flatten++R
 pm:(arrOf st).toList.Perm T
 pr:Pr O kf 0 segs (zFK st).toList
end
section
variable{K:zAA}{G:Gx}{wi:TI}{fi:En->Rs (List D)}{g:TG}{fg:D->En->Rs En}{tt:TT}
def aG8(hi:aIP K G wi fi)(hg:aIQ K {G with E:=λ _ _ _=>False} g fg)(hfg:∀d,∃Y1,fg d [.no]= .ok Y1)(ht:aBq K {G with E:=λ _ _ _=>False} tt m9)(R:RR K G τ Y Z H lab)
  (W:WR G (fi (shE Y)) (λ ds=>ds.length<zAN/\∀(l:Addr) (as:List Addr) H',aQ H H'->H l=none->H' l=some (.lst (as.map V.ref))->(l::as).Nodup->as.length=ds.length->(∀a∈as,H a=none/\H' a=some (.lst []))->Q (.ref l) H')):
  tLC wi (stV [none]) g tt (aFo lr) Z H Q:=by
 refine hi τ Z H _ _ _ R.shE (W.imp λ ds _ w J H1 lab1 τ1 s1 _ R1 jl=>?_);obtain⟨hW,w⟩:=w;intro l hl;have hHl:H l=none:=s1.free hl;have nl:∀p o,H1 p=some o->p≠l:=λ p o e z=>by subst z;rw[hl]at e;cases e
 have RB:RR K {G with E:=λ _ _ _=>False} (τ1++τ) [.no] (stV [none] Z) H1 (λ p=>if p=l then(2,0)else(0,0)):=by
  refine⟨rfl,λ i s e=>?_,R1.old,λ p hp=>?_,λ q hq=>(R1.tm q hq).wk λ p o e _=>by rw[if_neg (nl p o e)];exact zAo _⟩
  .match i,e with
   |0,e=>cases e;exact .inl rfl
   |i+1,e=>simp at e
  .by_cases z:p=l
   .subst z;exact R1.old.free hl
   .exact absurd (show(if p=l then((2,0):Nat×Nat)else(0,0)).1=0 by rw[if_neg z]) hp
 have bP:¬((λ p=>if p=l then((2,0):Nat×Nat)else(0,0)) l).1<=1:=by simp
 refine⟨λ i n acc H2=>∃as:List Addr,n=ds.length-i/\i<=ds.length/\acc=as.map V.ref/\H2 l=some (.lst acc)/\RR K {G with E:=λ _ _ _=>False} (τ1++τ) [.no] (stV [none] Z) H2 (λ p=>if p=l then(2,0)else(0,0))/\aQ H H2/\as.length=i/\(l::as).Nodup/\∀a∈as,H a=none/\H2 a=some (.lst []),
  ⟨ds.length,[],by omega,by omega,rfl,aa,RB.up (bY hl _),s1.trans (bY hl _),rfl,by simp,λ a h=>by simp at h⟩,?_⟩
 rintro i n acc H2 ⟨as,rfl,hi',rfl,hH2,R2,s2,hlen2,hnd,hal⟩;refine⟨hH2,by rw[zAB];omega,?_⟩;have jj:=jl _ H2 λ q hq=>R2.tm q (zAh _ hq)
 by_cases hlt:i<ds.length
 .obtain⟨go,yl⟩:=(jj i).2 hlt
  refine .inr ⟨go,λ x H3 hy=>?_⟩;obtain⟨s3,d,ed,rx⟩:=yl x H3 hy;replace R2:=R2.up s3;replace hH2:=s3 _ _ hH2;replace s2:=s2.trans s3;replace hal:=λ a ha=>(⟨(hal a ha).1,s3 _ _ (hal a ha).2⟩:H a=none/\H3 a=some (.lst []))
  obtain⟨Y1,e1⟩:=hfg d;refine hg (τ1++τ) x d _ H3 _ _ _ Y1 R2 rx e1 λ Z4 R4=>?_
  refine ht (τ1++τ) Z4 H3 Y1 _ _ R4 λ H5 s5=>?_
  rw[if_pos rfl];refine⟨zAo _,λ p H6 s6 hp hn=>?_⟩;have hl6:H6 l=some (.lst (as.map V.ref)):=s6 _ _ (s5 _ _ hH2);have hpl:p≠l:=λ z=>by subst z;rw[s5 _ _ hH2]at hn;cases hn
  have hpa:p∉as:=λ z=>by
   have:=s5 _ _ (hal p z).2
   rw[hn]at this;cases this
  have hpH:H p=none:=(s2.trans s5).free hn;have B:iu l H6 (upd H6 l (.lst (as.map V.ref++[.ref p]))):=λ b o ne hb=>by rw[aW ne];exact hb
  refine⟨hl6,ds.length-(i+1),by omega,as++[p],rfl,hlt,by rw[zBH];rfl,aa,?_,?_,by rw[zA9];simp;omega,?_,λ a ha=>?_⟩
  .have R6:=R2.up (s5.trans s6)
   refine⟨R6.len,λ j s e=>?_,λ b o hb=>?_,R6.new,λ q hq=>(R6.tm q hq).but B hl6 rfl bP⟩
   .match j,e with
    |0,e=>cases e;exact .inl rfl
    |j+1,e=>simp at e
   .exact B b o (λ z=>by subst z;rw[R1.old.free hl]at hb;cases hb) (R6.old b o hb)
  .exact λ b o hb=>B b o (λ z=>by subst z;rw[hHl]at hb;cases hb) (((s2.trans s5).trans s6) b o hb)
  .obtain⟨n1,n2⟩:=zAm.mp hnd
   refine zAm.mpr ⟨λ z=>?_,zBU.mpr ⟨n2,by simp,λ x hx y hy e=>?_⟩⟩
   .rcases zAe.mp z with z|z
    .exact n1 z
    .exact hpl (zA7.mp z).symm
   .rw[zA7]at hy
    subst hy;subst e;exact hpa hx
  .rcases zAe.mp ha with z|z
   .refine⟨(hal a z).1,?_⟩
    rw[aW λ q=>by subst q;exact(zAm.mp hnd).1 z];exact s6 _ _ (s5 _ _ (hal a z).2)
   .rw[zA7]at z
    subst z;exact⟨hpH,by rw[aW hpl];exact hp⟩
 .have ei:i=ds.length:=by omega
  exact .inl ⟨by rw[ei];exact(jj _).1 (zAT _),w l as H2 s2 hHl hH2 hnd (by omega) hal⟩
end
section
variable{C:Ct}{pos lpos:Pos}{tg iter:Expr}{sc:Scope}{N:List Str}{js:List (Option Nat)}{ks:List Nat}{fi:En->Rs (List D)}{fg:D->En->Rs En}
def llS(i:Nat)(fi:En->Rs (List D))(js:List (Option Nat))(fg:D->En->Rs En):En->Ou:=λ Y=>(fi (shE Y)).bo λ ds=>if ds.length<zAN then .nx (Y.set i (.o2 (zAJ ds.length [])))else .st
def aFr(hi:SI C tg iter fi)(hg:SG (C.blk sc N) tg ks fg)(hj:js=[none]:=by rfl)(hfg:∀d,∃Y1,fg d [.no]= .ok Y1:=by intro _;exact⟨_,rfl⟩)(hN:∀j,(C.X j).N[i]? =some x:=by intro _;rfl)(hx:∀j,Loc (C.X j).env.scope x:=by intro _;first|exact zBi rfl|exact zBM rfl)(hsw:∀j,zBy (.ListComp (.List [] lpos) [⟨tg,iter,[],0⟩] sc pos) (some (.Name x pos')) spos.line (C.X j).env=pure true:=by intro _;rfl)(hs:∀i x,zBx iter (C.X i).env x=pure x:=by intro _ _;rfl)(hf:∀j,(C.X j).fn x=true\/(C.X j).env.scope.names.lookup x=some .local:=by intro _;first|exact .inl rfl|exact .inr rfl)(nd:∀j,(C.X j).N.Nodup:=by intro _;assumption)(hB:∀i,gH (C.X i) sc N (stV js) ks:=by intro _;exact aAM rfl rfl rfl rfl rfl rfl):
  SS C (.Assign [.Name x pos'] (.ListComp (.List [] lpos) [⟨tg,iter,[],0⟩] sc pos) spos) (llS i fi js fg):=by
 subst hj;obtain⟨wi,i1,i2⟩:=hi;obtain⟨g,g1,g2,g3,g4⟩:=hg;obtain⟨tt,t1,t2⟩:=jh (C:=C.blk sc N);refine⟨_,λ j=>xQ (nd j) (hN j) (hx j) (hB j) (C.calm j) (i1 j) (λ c fp z5 zS=>g1 (j,c,fp,z5,zS)) g3 (λ c fp z5 zS=>t1 (j,c,fp,z5,zS)) (λ c fp z5 zS=>vf jE) (hsw j) (hs j) (hf j),λ τ Z H Y lab De R W=>?_⟩;refine aG8 i2 g2 hfg t2 R (W.bo.imp λ ds _ w=>?_);by_cases hl:ds.length<zAN
 .rw[if_pos hl]at w
  refine⟨hl,λ l as H' s hn hH hnd hW hal=>?_⟩;have yY:∀p o,H p=some o->(λ p=>if p=l then(i+2,0)else if p∈as then(i+2,as.idxOf p+1)else bC H 1 lab p) p=lab p:=λ p o e=>by
   dsimp only;have z1:p≠l:=λ z=>by subst z;rw[hn]at e;cases e
   have z2:p∉as:=λ z=>by rw[(hal p z).1]at e;cases e
   rw[if_neg z1,if_neg z2,aZ e]
  have R':RR C.K C.G τ Y Z H' (λ p=>if p=l then(i+2,0)else if p∈as then(i+2,as.idxOf p+1)else bC H 1 lab p):=by
   refine(R.relab yY λ p hp=>?_).up s;cases e:H p with
   |none=>exact R.old.free e
   |some o=>
    have:=yY p o e
    dsimp only at this hp;rw[this]at hp;exact R.new p hp
  refine w _ _ _ (R'.put (s:=.o2 (zAJ ds.length [])) ⟨l,as.map V.ref,rfl,hH,by dsimp only;rw[if_pos rfl],by rw[zAB,zBK];exact hW,λ j x es e1 e2=>?_⟩);rw[zAL,zCc]at e1;obtain⟨a,e1,rfl⟩:=e1;have ees:es=[]:=by
   rw[zBs]at e2;split at e2
   .cases e2;rfl
   .cases e2
  subst ees;have ha:a∈as:=zA0 e1;have hla:a≠l:=λ z=>by subst z;exact(zAm.mp hnd).1 ha
  have hj2:j<as.length:=(zAM.mp e1).1;refine .lst (hal a ha).2 ?_ .nil
  show(if a=l then(i+2,0)else if a∈as then(i+2,as.idxOf a+1)else bC H 1 lab a)=(i+2,j+1)
  rw[if_neg hla,if_pos ha];have hix:as.idxOf a<as.length:=zEn.mpr ha
  have:as[as.idxOf a]? =some a:=by rw[zAD hix];exact congrArg some (zEE hix)
  have:=(zCL hix (zAm.mp hnd).2).mp (this.trans e1.symm)
  rw[this]
 .rw[if_neg hl]at w
  exact zAH w
end
def dW{α:Type}(l:List α)(i:Int)(y:α):List α:=l.take (if i<0 then(i+(l.length:Int)).toNat else min i.toNat l.length)++y::l.drop (if i<0 then(i+(l.length:Int)).toNat else min i.toNat l.length)
def ug(l:List α)(i:Int)(y:α):(dW l i y).length=l.length+1:=by
 unfold dW;rw[zA9,zA2,zD2,List.length_drop];omega
def aGA:V->List V->Hp->VK->Prop:=λ x vs H Q=>∃l xs i y,x= .ref l/\vs=[.int i,y]/\H l=some (.lst xs)/\-(2^63)<=i/\i<2^63/\xs.length<zAN/\∀H',iu l H H'->H' l=some (.lst (dW xs i y))->Q .non H'
def aEz:MtM X "list.insert" aGA:=by
 intro hV s Z H x vs v us Q I rx rv h;obtain⟨l,xs,i,y,rfl,rfl,hH,h1,h2,hz,q⟩:=h;cases rx;obtain⟨u1,u2,rfl,r1,r2⟩:=vals2 rv;obtain⟨t,rfl⟩:=r1;obtain⟨z,its,n,r,hl,e⟩:=I.lstM hH;have hf:zCj i=true:=by unfold zCj;simp;omega
 refine zEH zE7 ⟨_,e,rfl⟩ PySem.F.entry_list_insert (PySem.F.args_list_insert_3 _ _ _) (zG0 l its.toArray n i t u2 (by simp[hf]) (by rw[zAI];omega)) ⟨e,?_⟩;refine⟨.non,_,I.lset (ys:=dW xs i y) (its':=dW its i u2) hH e ?_ ?_ ?_,rfl,q _ (λ b o ne hb=>by rw[aW ne];exact hb) aa⟩
 .show(its.toArray.extract 0 (if i<0 then(i+(its.toArray.size:Int)).toNat else min i.toNat its.toArray.size)).push u2++its.toArray.extract (if i<0 then(i+(its.toArray.size:Int)).toNat else min i.toNat its.toArray.size)=(dW its i u2).toArray
  rw[PySem.W.kl_ins_eq,zAI];rfl
 .unfold dW
  rw[hl];exact(r.take _).append (.cons r2 (r.drop _))
 .rw[ug];omega
theorem Rps.dW{K:zAA}(r:Rps K A H xs ds)(h:Rp K A H x d)(i:Int):Rps K A H (VL.dW xs i x) (VL.dW ds i d):=by
 unfold VL.dW;rw[r.length];exact(r.take _).append (.cons h (r.drop _))
section
variable{C:Ct}{pos apos cpos p:Pos}{e e1 e2:Expr}{f1 f2:En->Rs D}{i:Nat}{x:Str}{m m1:Mode}
def aDK(i:Nat)(f1 f2:En->Rs D):En->Ou:=λ Y=>match Y[i]? with
 |some (.ow (.lst ds))=>(f1 Y).bo λ k=>match k with
  | .int n=>(f2 Y).bo λ d=>if -(2^63)<=n/\n<2^63/\ds.length<zAN then .nx (Y.set i (.ow (.lst (dW ds n d))))else .st
  |_=>.st
 |_=>.st
def aBD(i:Nat)(he1:SE C m1 e1 f1)(he2:SE C m e2 f2)(hm:okN m=true:=by rfl)(hN:∀j,(C.X j).N[i]? =some x:=by intro _;rfl)(hv:∀j,Vis (C.X j).env.scope x:=by intro _;first|exact zBi rfl|exact zBM (zBi rfl)|exact zBM (zBM rfl))(hd:Nd x:=by decide)
  (hcd:(x==("__classdict__":Str))=false:=by decide)(hs1:∀j,zAS [e1,e2] (C.X j).env=(false,eval e1 (C.X j).env)::zAS [e2] (C.X j).env:=by intro _;rfl)(hs2:∀j,zAS [e2] (C.X j).env=[(false,eval e2 (C.X j).env)]:=by intro _;rfl)
  (hbase:∀j,zC2 (.Name x p) "insert" (C.X j).env (eval (.Name x p) (C.X j).env)=eval (.Name x p) (C.X j).env:=by intro _;rfl)
  (hfew:∀j,((zBg cpos (zAS [e1,e2] (C.X j).env)).all (λ x=>!x.1)&&(zD0 cpos (zCV [] (C.X j).env)).all (λ x=>x.1.isSome)&&decide ([e1,e2].length+([]:List zBw).length+(if ([]:List zBw).isEmpty then 0 else 1)<30))=true:=by intro _;rfl)
  (hline:(apos.endLine==cpos.line)=true:=by rfl)(hplain:∀j,(zBg cpos (zAS [e2] (C.X j).env)).any (·.1)=false:=by intro _;rfl)
  (hsw:∀j,zBy (.Call (.Attribute (.Name x p) "insert" apos) [e1,e2] [] cpos) none pos.line (C.X j).env=pure false:=by intro _;rfl):
  SS C (.Expr (.Call (.Attribute (.Name x p) "insert" apos) [e1,e2] [] cpos) pos) (aDK i f1 f2):=by
 obtain⟨t1,a1,a2⟩:=he1;obtain⟨t2,b1,b2⟩:=he2;refine⟨uP (tBM C.K "list" aGA (nC i) (eU t1 (eU t2 lr))),λ j=>kW (by rw[<-C.hK j];exact xT zBm zE7 PySem.F.type_list_insert aEz (fL (hN j) (hv j) hd hcd) (dg (a1 j) (dg (b1 j) jE (hs2 j)) (hs1 j)) (hbase j) (hfew j) hline (hs1 j) (hplain j)) (hsw j),λ τ Z H Y lab De R W=>?_⟩;unfold aDK at W;cases es:Y[i]? with
 |none=>rw[es]at W;exact zAH W
 |some s=>
  rw[es]at W;split at W
  .rename_i ds hs
   cases hs;rcases R.sl i _ es with z|⟨v,ev,hv'⟩
   .cases z
   .obtain⟨hv1,htop⟩:=hv'
    obtain⟨a0,ea0,la0⟩:=htop rfl;subst ea0;cases hv1 with
    |lst h mm r=>
     rename_i xs;refine⟨.ref a0,ev,.inl ⟨rfl,xs,SqL.of h⟩,a2 τ Z H Y lab _ R (W.bo.imp λ k _ w y1 H1 s1 r1=>?_)⟩;cases k with
     |int n=>
      cases r1;refine b2 τ Z H1 Y lab _ (R.up s1) (w.bo.imp λ d _ w y H2 s2 r2=>?_);by_cases hz: -(2^63)<=n/\n<2^63/\ds.length<zAN
      .rw[if_pos hz]at w
       refine⟨a0,xs,n,y,rfl,rfl,(s1.trans s2) _ _ h,hz.1,hz.2.1,by rw[r.length];exact hz.2.2,λ H3 B h3=>?_⟩;obtain⟨R',r'⟩:=(R.up s1).fresh (P:=λ k=>k=1) rfl (λ k hk=>beq_iff_eq.mp (gY hm k hk)) s2 r2;have h1:H1 a0=some (.lst xs):=s1 _ _ h;have la:(bC H1 1 lab a0).1=i+2:=by rw[aZ h1];exact la0
       refine w Z H3 _ (R'.mut ev (s2 _ _ h1) rfl la B ⟨.lst h3 (.inr la) ?_,λ _=>⟨a0,rfl,la⟩⟩);have ra:Rps C.K (λ p=>((bC H1 1 lab p).1=1\/(bC H1 1 lab p).1=i+2)/\p≠a0) H2 (dW xs n y) (dW ds n d):=by
        refine(r.mono (s1.trans s2) λ p o e z=>⟨by rw[aZ (s1 _ _ e)];exact z.1,z.2⟩).dW (r'.wk λ p o e z=>⟨.inl z,λ q=>?_⟩) n;subst q;rw[la]at z;omega
       exact ra.but B (s2 _ _ h1) rfl λ z=>z.2 rfl
      .rw[if_neg hz]at w
       exact zAH w
     |_=>exact zAH w
  .exact zAH W
end
def aIt:∀{us:List α},us.length=6->∃a0 a1 a2 a3 a4 a5,us=[a0,a1,a2,a3,a4,a5]
 |[a0,a1,a2,a3,a4,a5],_=>⟨a0,a1,a2,a3,a4,a5,rfl⟩
theorem uw(f:α->β):∀(l:List α) (k:Nat),(l.map f).eraseIdx k=(l.eraseIdx k).map f
 |[],_=>rfl
 |_::_,0=>rfl
 |x::l,k+1=>by simp only[zAG,List.eraseIdx_cons_succ,uw f l k]
theorem xM{K:zAA}:∀{ns:List Int} {xs:List V},Rps K A H xs (ns.map .int)->xs=ns.map .int
 |[],_,r=>by cases r;rfl
 |n::ns,_,r=>by
  cases r with
  |cons h r=>
   rw[h.int_inv,xM r];rfl
def aFw:V->List V->Hp->VK->Prop:=λ x vs H Q=>∃(l:Addr) (ns:List Int) (i:Int),x= .ref l/\vs=[.int i]/\H l=some (.lst (ns.map V.int))/\i∈ns/\ns.length<=zAN/\∀H',iu l H H'->H' l=some (.lst ((ns.eraseIdx (ns.idxOf i)).map V.int))->Q .non H'
def aEy:MtM X "list.remove" aFw:=by
 intro hV s Z H x vs v us Q I rx rv h;obtain⟨l,ns,i,rfl,rfl,hH,hm,hz,q⟩:=h;cases rx;obtain⟨u,rfl,ru⟩:=rv.one;obtain⟨t,rfl⟩:=ru;obtain⟨z,its,n,r,hl,e⟩:=I.lstM hH;rw[zAB]at hl;have hj:ns.idxOf i<ns.length:=zEn.mpr hm;have at_:∀m (hm:m<its.length),∃tk,its[m]= .int (ns[m]'(by lia)) tk:=λ m hm=>by
  have e1:(ns.map V.int)[m]? =some (.int (ns[m]'(by lia))):=by rw[zAL,zAD (by lia)];rfl
  obtain⟨u,eu,ru⟩:=r.get e1;obtain⟨tk,rfl⟩:=ru;exact⟨tk,zAb ((zAD hm).symm.trans eu)⟩
 let eq:Value->Bool:=λ y=>match y with| .int a _=>a==i|_=>false
 refine zEH zE8 ⟨_,e,rfl⟩ PySem.F.entry_list_remove (PySem.F.args_list_remove_2 _ _) (zG1 l its.toArray n (.int i t) eq ?_ (ns.idxOf i) (by rw[zAI];lia) ?_ ?_ (by rw[zAI];lia)) ⟨e,?_⟩
 .intro y hy
  obtain⟨m,hm',rfl⟩:=Array.getElem_of_mem hy;rw[zCQ];obtain⟨tk,ey⟩:=at_ m (by simpa using hm');rw[ey];exact zFW _ _ _ _
 .rw[zCQ]
  obtain⟨tk,ey⟩:=at_ (ns.idxOf i) (by lia);rw[ey]
  show(ns[ns.idxOf i]==i)=true
  simp
 .intro m hm1 hm2
  rw[zCQ];obtain⟨tk,ey⟩:=at_ m (by simpa using hm1);rw[ey]
  show(ns[m]'(by lia)==i)=false
  have:=List.not_of_lt_findIdx (p:=(·==i)) (xs:=ns) hm2
  simpa using this
 .refine⟨.non,_,I.lset (ys:=(ns.eraseIdx (ns.idxOf i)).map V.int) (its':=its.eraseIdx (ns.idxOf i)) hH e (by simp) ?_ ?_,rfl,q _ (λ b o ne hb=>by rw[aW ne];exact hb) aa⟩
  .have:=r.eraseIdx (ns.idxOf i)
   rwa [uw]at this
  .rw[zAB,List.length_eraseIdx]
   split<;>lia
def aGk(Y:En)(i:Nat)(ds:List D)(d:D):Ou:=match intsOf ds,d with
 |some ns,.int z=>if z∈ns/\ns.length<=zAN then .nx (Y.set i (.ow (.lst ((ns.eraseIdx (ns.idxOf z)).map .int))))else .st
 |_,_=>.st
def aCY(i:Nat)(fe:En->Rs D):En->Ou:=λ Y=>match Y[i]? with
 |some (.ow (.lst ds))=>(fe Y).bo λ d=>aGk Y i ds d
 |_=>.st
section
variable{C:Ct}{pos apos cpos p:Pos}{e:Expr}{fe:En->Rs D}{i:Nat}{x:Str}{m:Mode}
def aBC(i:Nat)(he:SE C m e fe)(hm:okN m=true:=by rfl)(hN:∀j,(C.X j).N[i]? =some x:=by intro _;rfl)(hv:∀j,Vis (C.X j).env.scope x:=by intro _;first|exact zBi rfl|exact zBM (zBi rfl)|exact zBM (zBM rfl))(hd:Nd x:=by decide)
  (hcd:(x==("__classdict__":Str))=false:=by decide)(hs1:∀j,zAS [e] (C.X j).env=[(false,eval e (C.X j).env)]:=by intro _;rfl)
  (hbase:∀j,zC2 (.Name x p) "remove" (C.X j).env (eval (.Name x p) (C.X j).env)=eval (.Name x p) (C.X j).env:=by intro _;rfl)
  (hfew:∀j,((zBg cpos (zAS [e] (C.X j).env)).all (λ x=>!x.1)&&(zD0 cpos (zCV [] (C.X j).env)).all (λ x=>x.1.isSome)&&decide ([e].length+([]:List zBw).length+(if ([]:List zBw).isEmpty then 0 else 1)<30))=true:=by intro _;rfl)
  (hline:(apos.endLine==cpos.line)=true:=by rfl)
  (hsw:∀j,zBy (.Call (.Attribute (.Name x p) "remove" apos) [e] [] cpos) none pos.line (C.X j).env=pure false:=by intro _;rfl):
  SS C (.Expr (.Call (.Attribute (.Name x p) "remove" apos) [e] [] cpos) pos) (aCY i fe):=by
 obtain⟨t,h1,h2⟩:=he;refine⟨uP (tBM C.K "list" aFw (nC i) (eU t lr)),λ j=>kW (by rw[<-C.hK j];exact xT zBm zE8 PySem.F.type_list_remove aEy (fL (hN j) (hv j) hd hcd) (dg (h1 j) jE (hs1 j)) (hbase j) (hfew j) hline (hs1 j) rfl) (hsw j),λ τ Z H Y lab De R W=>?_⟩;unfold aCY at W;cases es:Y[i]? with
 |none=>rw[es]at W;exact zAH W
 |some s=>
  rw[es]at W;split at W
  .rename_i ds hs
   cases hs;rcases R.sl i _ es with z|⟨v,ev,hv'⟩
   .cases z
   .obtain⟨hv1,htop⟩:=hv'
    obtain⟨a0,ea0,la0⟩:=htop rfl;subst ea0;cases hv1 with
    |lst h mm r=>
     rename_i xs;refine⟨.ref a0,ev,.inl ⟨rfl,xs,SqL.of h⟩,h2 τ Z H Y lab _ R (W.bo.imp λ d _ w y H2 s2 r2=>?_)⟩;unfold aGk at w;split at w
     .rename_i zz ns z hns _
      by_cases hz:z∈ns/\ns.length<=zAN
      .rw[if_pos hz]at w
       have hds:=cg hns;subst hds;have ex:=xM r;subst ex;have ey:=r2.int_inv;subst ey;refine⟨a0,ns,z,rfl,rfl,s2 _ _ h,hz.1,hz.2,λ H3 B h3=>?_⟩;obtain⟨R',r'⟩:=R.fresh (P:=λ k=>k=1) rfl (λ k hk=>beq_iff_eq.mp (gY hm k hk)) s2 r2;have la:(bC H 1 lab a0).1=i+2:=by rw[aZ h];exact la0
       exact w Z H3 _ (R'.mut ev (s2 _ _ h) rfl la B ⟨.lst h3 (.inr la) Rps.ints,λ _=>⟨a0,rfl,la⟩⟩)
      .rw[if_neg hz]at w
       exact zAH w
     .exact zAH w
  .exact zAH W
end
def aGB:V->V->Hp->VK->Prop:=λ o i H Q=>∃(p:Addr) (xs:List V) (k:Int) (j:Nat) (z:V),o= .ref p/\i= .int k/\H p=some (.lst xs)/\ixN xs.length k=some j/\xs[j]? =some z/\Q z H
def aDZ:aJI X aGB:=by
 intro hV s Z H o i ov iv Q I ro ri h;obtain⟨p,xs,k,j,z,rfl,rfl,hp,hj,hz,q⟩:=h;cases ro;obtain⟨t,rfl⟩:=ri;obtain⟨its,n,r,ho,hs⟩:=I.lst hp;obtain⟨h1,h2,h3,h4⟩:=vy hj;obtain⟨w,ew,rw'⟩:=r.get hz;have hl:=r.length;have hn:=mR;have hL:s.heap.IsList p its.toArray:=⟨_,ho,rfl,n,rfl⟩;have fin:EP X hV Z Q w s:=⟨z,H,I,rw',q⟩;by_cases h0:0<=k
 .have hk:k.toNat=j:=by
   rw[zFM h0 h4]at h1;exact zAb h1
  exact wpAny_getItem_list hL h0 (by omega) (by rw[hk];simpa using ew) fin
 .have hk:(k+(its.toArray.size:Int)).toNat=j:=by
   rw[zEm (by omega) h3]at h1;rw[zAI,<-hl];exact zAb h1
  exact zFv hL (by omega) (by rw[zAI,<-hl];exact h3) (by omega) (by rw[hk];simpa using ew) fin
def aJD(g:Int->Int->Int)(Y:En)(i:Nat)(ds:List D)(j:Nat)(a:Int):D->Ou
 | .int b=>.nx (Y.set i (.ow (.lst (ds.set j (.int (g a b))))))
 |_=>.st
def aBp(ds:List D):D->Option (Nat×Int)
 | .int k=>(ixN ds.length k).bind λ j=>match ds[j]? with
  |some (.int a)=>some (j,a)
  |_=>none
 |_=>none
def aDf(g:Int->Int->Int)(i:Nat)(fk fe:En->Rs D):En->Ou:=λ Y=>match Y[i]? with
 |some (.ow (.lst ds))=>(fk Y).bo λ k=>match aBp ds k with
  |some (j,a)=>(fe Y).bo λ d=>aJD g Y i ds j a d
  |none=>.st
 |_=>.st
def aBo(h:aBp ds k=some (j,a)):∃n,k= .int n/\ixN ds.length n=some j/\ds[j]? =some (.int a):=by
 unfold aBp at h;split at h
 .rename_i n
  cases hj:ixN ds.length n with
  |none=>rw[hj]at h;cases h
  |some j'=>
   rw[hj,zCm]at h;split at h
   .rename_i a' ha
    cases h;exact⟨n,rfl,hj,ha⟩
   .cases h
 .cases h
section
variable{C:Ct}{pos tpos p:Pos}{ek e:Expr}{fk fe:En->Rs D}{x:Str}{m m1:Mode}{op:Operator}{g:Int->Int->Int}
def aEH(i:Nat)(hop:∀j,PIp (C.X j) op (ipI g))(hk:SE C m1 ek fk)(he:SE C m e fe)(hN:∀j,(C.X j).N[i]? =some x:=by intro _;rfl)(hv:∀j,Vis (C.X j).env.scope x:=by intro _;first|exact zBi rfl|exact zBM (zBi rfl)|exact zBM (zBM rfl))(hd:Nd x:=by decide)
  (hcd:(x==("__classdict__":Str))=false:=by decide)(ha:∀ov iv new,augStore ek ov iv new=(do zCU [new,ov,iv] (zFm ov iv new);release [new,ov,iv] [];pure .next):=by intros;rfl):
  SS C (.AugAssign (.Subscript (.Name x p) ek tpos) op e pos) (aDf g i fk fe):=by
 obtain⟨tk,k1,k2⟩:=hk;obtain⟨te,e1,e2⟩:=he;refine⟨aFp (nC i) tk te aGB (ipI g) aC2,λ j=>aEa (fL (hN j) (hv j) hd hcd) (k1 j) aDZ (e1 j) (hop j) set_list ha,λ τ Z H Y lab De R W=>?_⟩;unfold aDf at W;cases es:Y[i]? with
 |none=>rw[es]at W;exact zAH W
 |some s=>
  rw[es]at W;split at W
  .rename_i ds hs
   cases hs;rcases R.sl i _ es with z|⟨v,ev,hv'⟩
   .cases z
   .obtain⟨hv1,htop⟩:=hv'
    obtain⟨a0,ea0,la0⟩:=htop rfl;subst ea0;cases hv1 with
    |lst h mm r=>
     rename_i xs;refine⟨.ref a0,ev,k2 τ Z H Y lab _ R (W.bo.imp λ k _ w y1 H1 s1 r1=>?_)⟩;cases hK:aBp ds k with
     |none=>rw[hK]at w;exact zAH w
     |some ja=>
      obtain⟨j,a⟩:=ja;rw[hK]at w;dsimp only at w;obtain⟨n,rfl,hj,hda⟩:=aBo hK;have ey:=r1.int_inv;subst ey;have hjx:j<xs.length:=by rw[r.length];exact(zAM.mp hda).1
      have hx:=zAD hjx;obtain⟨d',ed,rd⟩:=r.get hx;rw[hda]at ed;cases ed;have ex:=rd.int_inv;rw[ex]at hx;refine⟨a0,xs,n,j,.int a,rfl,rfl,s1 _ _ h,by rw[r.length];exact hj,hx,e2 τ Z H1 Y lab _ (R.up s1) (w.bo.imp λ d _ w y H2 s2 r2=>?_)⟩;cases d with
      |int b=>
       have ey:=r2.int_inv;subst ey;have h2:H2 a0=some (.lst xs):=(s1.trans s2) _ _ h;refine⟨a,b,rfl,rfl,a0,xs,n,j,rfl,rfl,h2,by rw[r.length];exact hj,?_⟩;have B:iu a0 H2 (upd H2 a0 (.lst (xs.set j (.int (g a b))))):=λ b' o ne hb=>by rw[aW ne];exact hb
       refine w Z _ _ ((R.up (s1.trans s2)).mut ev h2 rfl la0 B ⟨.lst aa (.inr la0) ?_,λ _=>⟨a0,rfl,la0⟩⟩);exact((r.up (s1.trans s2)).set (.int (g a b)) j).but B h2 rfl λ z=>z.2 rfl
      |_=>exact zAH w
  .exact zAH W
end
def aJF(Y:En)(i:Nat)(ds:List Int):D->Ou
 | .int z=>if ds.length<4000 then .nx (Y.set i (.ow (.set (step_dedup ds z))))else .st
 |_=>.st
abbrev Ent:=List Int×Addr×V
section
theorem ints_of:∀(tks:List (Int×Tok)),zBI (tks.map λ p=>zDO p.1 p.2) (tks.map (·.1))
 |[]=>.nil
 |p::r=>.cons _ _ (ints_of r)
end
abbrev aJO:=List (Str×(List D->Rs D))
def fnOf(tab:aJO):Rs D->Option (List D->Rs D)
 | .ok (.fn x)=>tab.lookup x
 |_=>none
end VL
namespace HT
open PySem PySem.Spec PyProof.Rows
end HT
namespace VL
open PySem PySem.Spec PyProof.Rows L2
end VL
namespace PySem.AutoSeq1
end PySem.AutoSeq1
namespace VL
open PySem PySem.Spec PyProof.Rows L2
def Enr(K:zAA)(x:Str)(st:Stmt)(f:Addr)(fd:zAa):Prop:=L2.Fun K x x st f fd/\zAs K zA4 x=some (some (.ref f))
def enr{K:zAA}{st:Stmt}{oc kV dc pm cd ct:Value}(a:zAs K zA4 x=some (some (.ref f)))
  (l:K.lookup f=some ⟨oc,od,.func (zBl x x (lC st) (dh st) (aM st) .none kV dc pm an cd ct),sl⟩)(c:zDG K cd x=true)(k:zCd K (.ref f)=true):∃f fd,Enr K x st f fd:=⟨f,_,aIC (st:=st) l c k,a⟩
structure Dnr(K:zAA)(mg:Str->Option Value)(x:Str)(st:Stmt)(ps:List Str)(f:Addr)(d:zAa):Prop where
 F:L2.Fun K x x st f d
 m:mg x=some (.ref f)
 b:L2.Binds K d ps []
section
variable{C:Ct}
def bA{st:Stmt}(hF:bj C.prog C.w C.K C.mg C.base (CX1 C.prog C.w) k fn fd ps (spF C.K C.G.cl n F))(D:Dnr C.K C.mg x st ps fn fd)(ha:SA C m (e::es) ga)(hr:k<=C.k:=by exact zDj rfl)(hg:∀i,Gl (C.X i) x:=by intro _;rfl)
  (hn:∀Y ds,ga Y= .ok ds->ds.length=n:=by repeat (first|exact λ _ _ h=>aAh h|apply xu))(hdb:Nd x:=by decide)(he:∀i,zAS (e::es) (C.X i).env=(false,eval e (C.X i).env)::zAS es (C.X i).env:=by intro _;rfl)
  (hpl:∀i,(zBg pos (zAS es (C.X i).env)).any (·.1)=false:=by intro _;rfl):SE C (some []) (.Call (.Name x p) (e::es) [] pos) (aU F ga):=aEX hF hr D.m D.F.kp D.b ha hn hdb he hpl hg
end
def bN{P:zAO}{w:World}{K:zAA}{st:Stmt}(D:Dnr K mg q st ps fn fd)(S:aY N ps (aM st))(hb:N.Nodup->∀cdv A outer s H E hr,SSs (ctD P w K mg base N q (aM st) fn cdv A outer s H E k hr) (dh st) f)(hn:ps.length=n:=by rfl)(hF:dU N.length f=FF:=by rfl):
  bj P w K mg base (CX1 P w) (k+1) fn fd ps (spF K (aq mg) n FF):=aFY D.F S (hb S.nd) hn hF
def aAP(items:Array Value)(nss:Nat->List Int)(h:Heap):Prop:=∀i v,items[i]? =some v->∃x its,v= .ref x/\IsTup h x its/\zBI its.toList (nss i)
def zL(items:Array Value):List Addr:=items.toList.filterMap λ v=>match v with| .ref x=>some x|_=>none
def zK{items:Array Value}{i:Nat}(h:items[i]? =some (zB0 x)):x∈zL items:=by
 unfold zL;rw[zCB];exact⟨.ref x,by have:=zA0 (l:=items.toList) (i:=i) (by simpa using h);exact this,rfl⟩
def aAP.keep(T:aAP items nss h)(k:∀b∈zL items,∀o,h.get? b=some o->h'.get? b=some o):aAP items nss h':=λ i v e=>by
 obtain⟨x,its,rfl,⟨o,h1,h2⟩,h3⟩:=T i v e;exact⟨x,its,rfl,⟨o,k x (zK e) o h1,h2⟩,h3⟩
def putN(ds:List D):D->Option Nat
 | .int n=>ixN ds.length n
 |_=>none
def aE5(i:Nat)(fk fe:En->Rs D):En->Ou:=λ Y=>match Y[i]? with
 |some (.ow (.lst ds))=>(fe Y).bo λ d=>(fk Y).bo λ k=>match putN ds k with
  |some j=>.nx (Y.set i (.ow (.lst (ds.set j d))))
  |none=>.st
 |_=>.st
def aBJ(h:putN ds k=some j):∃n,k= .int n/\ixN ds.length n=some j:=by
 cases k with
 |int n=>exact⟨n,rfl,h⟩
 |_=>cases h
section
variable{C:Ct}{pos tpos p:Pos}{ek e:Expr}{fk fe:En->Rs D}{x:Str}{m m1:Mode}
def aEF(i:Nat)(hk:SE C m1 ek fk)(he:SE C m e fe)(hm:okN m=true:=by rfl)(hN:∀j,(C.X j).N[i]? =some x:=by intro _;rfl)(hv:∀j,Vis (C.X j).env.scope x:=by intro _;first|exact zBi rfl|exact zBM (zBi rfl)|exact zBM (zBM rfl))(hd:Nd x:=by decide)
  (hcd:(x==("__classdict__":Str))=false:=by decide)(ha:∀j v,zEN (.Subscript (.Name x p) ek tpos) (C.X j).env v=(do
   let ov <-zCU [v] (eval (.Name x p) (C.X j).env);let iv <-zCU [v,ov] (eval ek (C.X j).env)
   zFn tpos
   zCU [v,ov,iv] (zFm ov iv v)
   release [v,ov,iv] []):=by intro _ _;rfl)(hs:∀j,swapsWithSole [.Subscript (.Name x p) ek tpos] e pos.line (C.X j).env=pure false:=by intro _;rfl)(hw:∀j,swappedStores [.Subscript (.Name x p) ek tpos] e (C.X j).env=pure none:=by intro _;rfl)
  (h1:∀j,(zC1 [.Subscript (.Name x p) ek tpos] (C.X j).env).map (·.2)=[zEN (.Subscript (.Name x p) ek tpos) (C.X j).env]:=by intro _;rfl):
  SS C (.Assign [.Subscript (.Name x p) ek tpos] e pos) (aE5 i fk fe):=by
 obtain⟨tk,k1,k2⟩:=hk;obtain⟨te,e1,e2⟩:=he;refine⟨aBB te (aJA (nC i) tk aC2),λ j=>aGs (e1 j) (aGx (fL (hN j) (hv j) hd hcd) (k1 j) set_list (ha j)) (hs j) (hw j) (h1 j),λ τ Z H Y lab De R W=>?_⟩;unfold aE5 at W;cases es:Y[i]? with
 |none=>rw[es]at W;exact zAH W
 |some s=>
  rw[es]at W;split at W
  .rename_i ds hs
   cases hs;rcases R.sl i _ es with z|⟨v,ev,hv'⟩
   .cases z
   .obtain⟨hv1,htop⟩:=hv'
    obtain⟨a0,ea0,la0⟩:=htop rfl;subst ea0;cases hv1 with
    |lst h mm r=>
     rename_i xs;refine e2 τ Z H Y lab _ R (W.bo.imp λ d _ w y H2 s2 r2=>⟨.ref a0,ev,?_⟩);refine k2 τ Z H2 Y lab _ (R.up s2) (w.bo.imp λ k _ w kv H3 s3 r3=>?_);cases hj:putN ds k with
     |none=>rw[hj]at w;exact zAH w
     |some j=>
      rw[hj]at w;dsimp only at w;obtain⟨n,rfl,hj⟩:=aBJ hj;have ey:=r3.int_inv;subst ey;have h3:H3 a0=some (.lst xs):=(s2.trans s3) _ _ h;refine⟨a0,xs,n,j,rfl,rfl,h3,by rw[r.length];exact hj,?_⟩;obtain⟨R',r'⟩:=R.fresh (P:=λ k=>k=1) rfl (λ k hk=>beq_iff_eq.mp (gY hm k hk)) s2 r2;have la:(bC H 1 lab a0).1=i+2:=by rw[aZ h];exact la0
      have B:iu a0 H3 (upd H3 a0 (.lst (xs.set j y))):=λ b' o ne hb=>by rw[aW ne];exact hb
      refine w Z _ _ ((R'.up s3).mut ev h3 rfl la B ⟨.lst aa (.inr la) ?_,λ _=>⟨a0,rfl,la⟩⟩);have ra:Rps C.K (λ p=>((bC H 1 lab p).1=1\/(bC H 1 lab p).1=i+2)/\p≠a0) H3 (xs.set j y) (ds.set j d):=by
       refine Rps.set ((r'.up s3).wk λ p o e z=>⟨.inl z,λ q=>?_⟩) j (r.mono (s2.trans s3) λ p o e z=>⟨by rw[aZ e];exact z.1,z.2⟩);subst q;rw[la]at z;lia
      exact ra.but B h3 rfl λ z=>z.2 rfl
  .exact zAH W
end
def jb(ks vs:List D):Option (List (Int×D)):=match intsOf ks with
 |some is=>if is.length=vs.length then some (is.zip vs)else none
 |none=>none
def pJ(ps:List (Int×D)):D:=.dct (ps.map λ p=>.int p.1) (ps.map (·.2))
def zQ(h:jb ks vs=some ps):ks=ps.map (λ p=>.int p.1)/\vs=ps.map (·.2):=by
 unfold jb at h;split at h
 .rename_i is hi
  split at h
  .rename_i hl
   cases h;refine⟨?_,?_⟩
   .rw[cg hi,show(λ p:Int×D=>D.int p.1)=(λ i=>D.int i)∘zEy from rfl,<-zAc,zGA (by lia)]
   .rw[zGB (by lia)]
  .cases h
 .cases h
theorem aBs:∀ps:List (Int×D),(ps.map (·.1)).zip (ps.map (·.2))=ps
 |[]=>rfl
 |p::ps=>by rw[zAG,zAG,zAr,aBs ps]
def oY(ps:List (Int×D)):jb (ps.map λ p=>.int p.1) (ps.map (·.2))=some ps:=by
 unfold jb;have e:intsOf (ps.map λ p=>D.int p.1)=some (ps.map (·.1)):=by
  rw[show(ps.map λ p=>D.int p.1)=(ps.map (·.1)).map D.int by rw[zAc];rfl];exact cj _
 rw[e];dsimp only;rw[if_pos (by rw[zAB,zAB]),aBs]
def Rp.dctI_inv{K:zAA}(r:Rp K A H v (.dct ks vs))(h:jb ks vs=some ps):
  ∃a kvs,v= .ref a/\H a=some (.dK kvs)/\A a/\Rps K (λ p=>A p/\p≠a) H (kvs.map (·.2)) (ps.map (·.2))/\kvs.map (·.1)=ps.map λ p=>(zCT p.1:Key):=by
 obtain⟨h1,h2⟩:=zQ h;generalize hd:D.dct ks vs=d at r;cases r with
 |dK hh m r=>
  rename_i kvs ds;injection hd with q1 q2
  subst q2;refine⟨_,kvs,rfl,hh,m,by rw[<-h2];exact r,?_⟩;rw[h1]at q1;clear r h h1 h2 hh;induction kvs generalizing ps with
  |nil=>cases ps with
   |nil=>rfl
   |cons _ _=>cases q1
  |cons p kvs ih=>cases ps with
   |nil=>cases q1
   |cons q ps=>
    obtain⟨p1,p2⟩:=p;rw[zAG,zAG]at q1;injection q1 with q3 q4
    rw[zAG,zAG,ih q4];cases p1 with
    |inl i=>injection q3 with q3;rw[q3]
    |inr x=>cases q3
 |dT hh m r=>
  injection hd with q1 q2
  rw[h1]at q1;cases ps<;>cases q1
 |_=>cases hd
theorem aBw{K:zAA}:∀{kvs:List (Key×V)} {ps:List (Int×D)},Rps K A H (kvs.map (·.2)) (ps.map (·.2))->(kvs.map (·.1)=ps.map λ p=>(zCT p.1:Key))->∀i:Int,
  (∃d v,ps.lookup i=some d/\nq kvs (.inl i)=some v/\Rp K A H v d)\/(ps.lookup i=none/\nq kvs (.inl i)=none)
 |[],[],_,_,_=>.inr ⟨rfl,rfl⟩
 |[],_::_,_,e,_=>by cases e
 |_::_,[],_,e,_=>by cases e
 |p::kvs,q::ps,r,e,i=>by
  obtain⟨p1,p2⟩:=p;obtain⟨q1,q2⟩:=q;rw[zAG,zAG]at e;injection e with e1 e2
  replace e1:p1= .inl q1:=e1;subst e1;rw[zAG,zAG]at r;cases r with
  |cons h r=>
   by_cases c:q1=i
   .subst c
    exact .inl ⟨q2,p2,by simp[zAn],mq rfl,h⟩
   .have c1:(i==q1)=false:=by simpa using λ z=>c z.symm
    rw[my (p:=(zCT q1,p2)) (by simpa using c),zAn,c1];exact aBw r e2 i
def aAJ:D->D->Rs D
 | .dct ks vs,.int i=>match jb ks vs with
  |some ps=>(match ps.lookup i with
   |some d=>.ok d
   |none=>.st)
  |none=>.st
 |_,_=>.st
def aJ3:R2:=λ x y H Q=>∃a v,x= .ref a/\yh H a y (some v)/\Q v H
section
variable{C:Ct}{m1 m2:Mode}{a b:Expr}{fa fb:En->Rs D}{pos:Pos}
def aGf(ha:SE C m1 a fa)(hb:SE C m2 b fb)(hp:qp b:=by exact λ _ _=>rfl):SE C m1 (.Subscript a b pos) (op2 aAJ fa fb):=by
 obtain⟨t,h1,h2⟩:=ha;obtain⟨u,k1,k2⟩:=hb;refine⟨tOp aJ3 t u,λ i=>aEj (by have:=(C.room i).un;lia) (h1 i) (k1 i) hp,λ τ Z H Y lab Q R W=>?_⟩;refine h2 τ Z H Y lab _ R (W.bd.imp λ d _ w x H1 s1 r1=>?_);refine k2 τ Z H1 Y lab _ (R.up s1) (w.bd.imp λ e _ w y H2 s2 r2=>?_);obtain⟨z,ez,wz⟩:=w.okD;cases d with
 |dct ks vs=>
  cases e with
  |int i=>
   cases hp2:jb ks vs with
   |none=>unfold aAJ at ez;dsimp only at ez;rw[hp2]at ez;cases ez
   |some ps=>
    unfold aAJ at ez;dsimp only at ez;rw[hp2]at ez;dsimp only at ez;have ey:=r2.int_inv;subst ey;obtain⟨a,kvs,rfl,g1,m,r,hk⟩:=(r1.up s2).dctI_inv hp2;rcases aBw r hk i with ⟨d,v,e1,e2,e3⟩|⟨e1,e2⟩
    .rw[e1]at ez
     cases ez;have g2:yh H2 a (.int i) (some v):=by
      have:=yh.k (k:=.inl i) g1
      rw[e2]at this;exact this
     exact⟨a,v,rfl,g2,wz v H2 (s1.trans s2) (e3.wk λ p o _ q=>q.1)⟩
    .rw[e1]at ez;cases ez
  |_=>cases ez
 |_=>cases ez
end
def zO(ps:List (Int×D))(i:Int)(d:D):List (Int×D):=if (ps.any λ p=>decide (p.1=i))=true then ps.map (λ p=>if p.1=i then(p.1,d)else p)else ps++[(i,d)]
theorem aDh:∀{kvs:List (Key×V)} {ps:List (Int×D)} {i:Int},(kvs.map (·.1)=ps.map λ p=>(zCT p.1:Key))->(kvs.any λ kv=>decide (kv.1=(.inl i:Key)))=ps.any λ p=>decide (p.1=i)
 |[],[],_,_=>rfl
 |[],_::_,_,e=>by cases e
 |_::_,[],_,e=>by cases e
 |(p1,p2)::kvs,q::ps,i,e=>by
  rw[zAG,zAG]at e;injection e with e1 e2
  replace e1:p1= .inl q.1:=e1;subst e1;rw[zC9,zC9,aDh e2];simp
theorem aCX{K:zAA}{i:Int}{v:V}{d:D}(h:Rp K A H v d):∀{kvs:List (Key×V)} {ps:List (Int×D)},Rps K A H (kvs.map (·.2)) (ps.map (·.2))->(kvs.map (·.1)=ps.map λ p=>(zCT p.1:Key))->
  Rps K A H ((kvs.map λ kv=>if kv.1= .inl i then(kv.1,v)else kv).map (·.2)) ((ps.map λ p=>if p.1=i then(p.1,d)else p).map (·.2))/\((kvs.map λ kv=>if kv.1= .inl i then(kv.1,v)else kv).map (·.1)=(ps.map λ p=>if p.1=i then(p.1,d)else p).map λ p=>(zCT p.1:Key))
 |[],[],_,_=>⟨.nil,rfl⟩
 |[],_::_,_,e=>by cases e
 |_::_,[],_,e=>by cases e
 |(p1,p2)::kvs,(q1,q2)::ps,r,e=>by
  rw[zAG,zAG]at e;injection e with e1 e2
  replace e1:p1= .inl q1:=e1;subst e1;rw[zAG,zAG]at r;cases r with
  |cons h1 r1=>
   obtain⟨z1,z2⟩:=aCX h r1 e2;rw[zAG,zAG,zAG,zAG,zAG,zAG,z2];by_cases c:q1=i
   .subst c
    rw[if_pos rfl,if_pos rfl];exact⟨.cons h z1,rfl⟩
   .rw[if_neg (show¬((zCT q1:Key),p2).1=zCT i by simpa using c),if_neg (show¬(q1,q2).1=i from c)]
    exact⟨.cons h1 z1,rfl⟩
def aGo{K:zAA}{kvs:List (Key×V)}{ps:List (Int×D)}{i:Int}{v:V}{d:D}(r:Rps K A H (kvs.map (·.2)) (ps.map (·.2)))(e:kvs.map (·.1)=ps.map λ p=>(zCT p.1:Key))(h:Rp K A H v d):
  Rps K A H ((putK kvs (.inl i) v).map (·.2)) ((zO ps i d).map (·.2))/\(putK kvs (.inl i) v).map (·.1)=(zO ps i d).map λ p=>(zCT p.1:Key):=by
 unfold putK zO;rw[aDh e];split
 .exact aCX h r e
 .rw[zBH,zBH,zBH,zBH,e]
  exact⟨r.append (.cons h .nil),rfl⟩
def aF1{K:zAA}{kvs:List (Key×V)}{ps:List (Int×D)}(h:H a=some (.dK kvs))(m:A a)(r:Rps K (λ p=>A p/\p≠a) H (kvs.map (·.2)) (ps.map (·.2)))(e:kvs.map (·.1)=ps.map λ p=>(zCT p.1:Key)):Rp K A H (.ref a) (pJ ps):=by
 have e1:(kvs.map λ p=>kD p.1)=ps.map λ p=>.int p.1:=by
  rw[show(kvs.map λ p=>kD p.1)=(kvs.map (·.1)).map kD by rw[zAc];rfl,e,zAc];rfl
 have:=Rp.dK h m r
 rw[e1]at this;exact this
def rO:D->D->Option (List (Int×D)×Int)
 | .dct ks vs,.int i=>(jb ks vs).map λ ps=>(ps,i)
 |_,_=>none
def pdS(i:Nat)(fk fe:En->Rs D):En->Ou:=λ Y=>match Y[i]? with
 |some (.ow c)=>(fe Y).bo λ d=>(fk Y).bo λ k=>match rO c k with
  |some (ps,j)=>if ps.length<zAN then .nx (Y.set i (.ow (pJ (zO ps j d))))else .st
  |none=>.st
 |_=>.st
def zP(h:rO c k=some (ps,j)):∃ks vs,c= .dct ks vs/\k= .int j/\jb ks vs=some ps:=by
 unfold rO at h;split at h
 .rename_i ks vs i
  cases hp:jb ks vs with
  |none=>rw[hp]at h;cases h
  |some ps'=>rw[hp]at h;cases h;exact⟨ks,vs,rfl,rfl,hp⟩
 .cases h
section
variable{C:Ct}{pos tpos p:Pos}{ek e:Expr}{fk fe:En->Rs D}{x:Str}{m m1:Mode}
def aEG(i:Nat)(hk:SE C m1 ek fk)(he:SE C m e fe)(hm:okN m=true:=by rfl)(hN:∀j,(C.X j).N[i]? =some x:=by intro _;rfl)(hv:∀j,Vis (C.X j).env.scope x:=by intro _;first|exact zBi rfl|exact zBM (zBi rfl)|exact zBM (zBM rfl))(hd:Nd x:=by decide)
  (hcd:(x==("__classdict__":Str))=false:=by decide)(hs:∀j,zBy e (some (.Subscript (.Name x p) ek tpos)) pos.line (C.X j).env=pure false:=by intro _;rfl):
  SS C (.Assign [.Subscript (.Name x p) ek tpos] e pos) (pdS i fk fe):=by
 obtain⟨tk,k1,k2⟩:=hk;obtain⟨te,e1,e2⟩:=he;refine⟨aFt (nC i) tk te,λ j=>aE9 (by have:=(C.room j).un;lia) (fL (hN j) (hv j) hd hcd) (k1 j) (e1 j) (hs j),λ τ Z H Y lab De R W=>?_⟩;unfold pdS at W;cases es:Y[i]? with
 |none=>rw[es]at W;exact zAH W
 |some s=>
  rw[es]at W;split at W
  .rename_i c hs
   cases hs;rcases R.sl i _ es with z|⟨v,ev,hv'⟩
   .cases z
   .obtain⟨hv1,htop⟩:=hv'
    refine e2 τ Z H Y lab _ R (W.bo.imp λ d _ w0 y H2 s2 r2=>⟨v,ev,?_⟩);refine k2 τ Z H2 Y lab _ (R.up s2) (w0.bo.imp λ k _ w kv H3 s3 r3=>?_);clear w0;cases hj:rO c k with
    |none=>rw[hj]at w;exact zAH w
    |some q=>
     obtain⟨ps,j⟩:=q;rw[hj]at w;dsimp only at w;obtain⟨ks,vs,rfl,rfl,hp⟩:=zP hj;obtain⟨a0,ea0,la0⟩:=htop rfl;subst ea0;have ey:=r3.int_inv;subst ey;obtain⟨a1,kvs,ea,h,mm,r,hk⟩:=hv1.dctI_inv hp;cases ea;by_cases hz:ps.length<zAN
     .rw[if_pos hz]at w
      have hW:kvs.length=ps.length:=by have:=congrArg zDs hk;simpa using this
      have h3:H3 a0=some (.dK kvs):=(s2.trans s3) _ _ h;refine⟨a0,_,rfl,aDt.k (k:=.inl j) (v:=y) h3 (by rw[hW];exact hz),?_⟩;obtain⟨R',r'⟩:=R.fresh (P:=λ k=>k=1) rfl (λ k hk=>beq_iff_eq.mp (gY hm k hk)) s2 r2;have la:(bC H 1 lab a0).1=i+2:=by rw[aZ h];exact la0
      have B:iu a0 H3 (upd H3 a0 (.dK (putK kvs (.inl j) y))):=λ b' o ne hb=>by rw[aW ne];exact hb
      obtain⟨q1,q2⟩:=aGo (i:=j) (A:=λ p=>((bC H 1 lab p).1=1\/(bC H 1 lab p).1=i+2)/\p≠a0) (r.mono (s2.trans s3) λ p o e z=>⟨by rw[aZ e];exact z.1,z.2⟩) hk ((r'.up s3).wk λ p o e z=>⟨.inl z,λ q=>by subst q;rw[la]at z;lia⟩);refine w Z _ _ ((R'.up s3).mut ev h3 rfl la B ⟨aF1 aa (.inr la) (q1.but B h3 rfl λ z=>z.2 rfl) q2,λ _=>⟨a0,rfl,la⟩⟩)
     .rw[if_neg hz]at w
      exact zAH w
  .exact zAH W
end
def aBn{X:Cx}:dN X (.type "int") (λ xs H Q=>∃b,xs=[.bl b]/\Q (.int (if b=true then 1 else 0)) H):=by
 intro hV s Z H xs us Q I r h;obtain⟨b,rfl,q⟩:=h;obtain⟨u,rfl,r1⟩:=vals1 r;cases r1;exact call_int_bool ⟨.int _,H,I.tok _,⟨_,rfl⟩,q⟩
def qC:List D->Rs D
 |[.bl b]=>.ok (.int (if b=true then 1 else 0))
 |_=>.st
def aF2{K:zAA}:nj K (λ xs H Q=>∃b,xs=[.bl b]/\Q (.int (if b=true then 1 else 0)) H) qC:=by
 intro A xs ds H Q z r ez q;unfold qC at ez;split at ez
 .cases ez
  cases r with
  |cons h' r=>cases h';cases r;exact⟨_,rfl,q _ H (aQ.refl H) (.int _)⟩
 .cases ez
def aDN:∀x z,qC x= .ok z->imm z=true:=by
 intro x z e;unfold qC at e;split at e
 .cases e;rfl
 .cases e
section
variable{C:Ct}{pos p:Pos}{m:Mode}{a:Expr}{ga:En->Rs (List D)}
def aEU(hm:C.mg "int"=none)(ha:SA C m [a] ga)(he:∀i,zAS [a] (C.X i).env=[(false,eval a (C.X i).env)]:=by intro _;rfl)(hg:∀i,Gl (C.X i) "int":=by intro _;rfl)(hv:zAj "int"=some (.type "int"):=by decide+kernel):SE C (some []) (.Call (.Name "int" p) [a] [] pos) (opA qC ga):=
 eX (wj (λ i=>aBn) aF2 hg hm hv ha (by decide) (by decide) he) λ _ _ h=>j6 aDN h
end
end VL
namespace PySem
open Sem(wp)
section
variable{prog:zAO}{w:World}
inductive wQ{K:Type}[DecidableEq K](knd:KeyKind prog w K)(h:Heap):List Value->List (K×Value)->Prop where
 |nil:wQ knd h [] []
 |cons {x:Addr} {o:Obj} {n:Nat} {kv v:Value} {k:K} {us:List Value} {ps:List (K×Value)} (ho:h.get? x=some o) (hc:o.cls= .type "tuple") (hd:o.data= .seq #[kv,v] n) (hk:knd.is k kv=true) (r:wQ knd h us ps):wQ knd h (.ref x::us) ((k,v)::ps)
end
end PySem
namespace VL
open PySem PySem.Spec PyProof.Rows L2
section
variable{K:Type}[DecidableEq K]
end
def aAR(l a:Addr):HO:=.ext λ h=>h.IsValuesView l a
def aFv:V->List V->Hp->VK->Prop:=λ x xs H Q=>∃a kvs,x= .ref a/\xs=[]/\H a=some (.dK kvs)/\∀l,H l=none->Q (.ref l) (upd H l (aAR l a))
def aBR{X:Cx}:MtR X "dict.values" aFv:=by
 intro hV s Z H x xs v us Q I rx rxs h;obtain⟨a,kvs,rfl,rfl,ha,q⟩:=h;cases rx;cases rxs;obtain⟨z,hd,vs,rel,dd⟩:=aD9 I.hok ha;have hfr:H s.heap.objs.size=none:=I.hok.fresh (zAT _);refine call_meetsIn zE6 dd.typeIs PySem.F.entry_dict_values (PySem.F.args_dict_values_1 _) (meets_dict_values (cG X.prog X.w) a hd) ⟨⟨vs,dd⟩,⟨.ref s.heap.objs.size,upd H s.heap.objs.size (aAR s.heap.objs.size a),I.laid (t':=s.toks) (λ b o e=>zAF _ e) (zAT _) ?_,rfl,q _ hfr⟩⟩;exact⟨⟨_,zAW _ rfl,rfl,rfl⟩,⟨_,zAW _ rfl⟩,λ h1 h2 ⟨o,e,r⟩ k=>⟨o,k o e,r⟩⟩
end VL
namespace L2
open PySem PySem.Spec PyProof.Rows
section
variable{X:Cx}{n0 n1 n2 odd:Str}{c1 c2:V}{k1 k2 k3 k4:List V}{l1 l2:List Str}{a1 a2:Expr}{as1 as2 e1 e2 e3 e4 w1 w2:List Expr}{kw1 kw2:List zBw}{Q:VK}{H:Hp}{vs:List V}
 {p1 p2 p3 p4 p5 p6 p7 p8 p9 p10 p11 p12 p13 p14 p15 p16 p17 p18 p19 p20 p21 p22 p23 p24 p25 p26 p27 p28 p29 p30 p31 p32 p33 p34 p35 p36 p37 p38 p39 p40:Pos}{q1 q2 q3 q4 q5 q6 q7:Pos}{j1 j2 j3 j4 j5:Nat}{E0:XK}{wd:Addr->Option Str}
end
section
variable{P:zAO}{w:World}{K:zAA}{mg:Str->Option Value}{base:Heap}{x q n0 n1 n2 odd:Str}{st:Stmt}{f:Addr}{fd:zAa}{k:Nat}{wd:Addr->Option Str}{c1 c2:V}{k1 k2 k3 k4:List V}{l1 l2:List Str}{a1 a2:Expr}{as1 as2 e1 e2 e3 e4 w1 w2:List Expr}{kw1 kw2:List zBw}
 {p1 p2 p3 p4 p5 p6 p7 p8 p9 p10 p11 p12 p13 p14 p15 p16 p17 p18 p19 p20 p21 p22 p23 p24 p25 p26 p27 p28 p29 p30 p31 p32 p33 p34 p35 p36 p37 p38 p39 p40:Pos}{q1 q2 q3 q4 q5 q6 q7:Pos}{j1 j2 j3 j4 j5:Nat}
end
section
variable{X:Cx}{n0 n1 n2 odd:Str}{c1 c2:V}{k1 k2 k3 k4:List V}{l1 l2:List Str}{a1 a2:Expr}{as1 as2 e1 e2 e3 e4 w1 w2:List Expr}{kw1 kw2:List zBw}{Q:VK}{H:Hp}{vs:List V}
 {p1 p2 p3 p4 p5 p6 p7 p8 p9 p10 p11 p12 p13 p14 p15 p16 p17 p18 p19 p20 p21 p22 p23 p24 p25 p26 p27 p28 p29 p30 p31 p32 p33 p34 p35 p36 p37 p38 p39 p40:Pos}{q1 q2 q3 q4 q5 q6 q7:Pos}{j1 j2 j3 j4 j5:Nat}{E0:XK}{wd:Addr->Option Str}
end
section
variable{P:zAO}{w:World}{K:zAA}{mg:Str->Option Value}{base:Heap}{x q n0 n1 n2 odd:Str}{st:Stmt}{f:Addr}{fd:zAa}{k:Nat}{wd:Addr->Option Str}{c1 c2:V}{k1 k2 k3 k4:List V}{l1 l2:List Str}{a1 a2:Expr}{as1 as2 e1 e2 e3 e4 w1 w2:List Expr}{kw1 kw2:List zBw}
 {p1 p2 p3 p4 p5 p6 p7 p8 p9 p10 p11 p12 p13 p14 p15 p16 p17 p18 p19 p20 p21 p22 p23 p24 p25 p26 p27 p28 p29 p30 p31 p32 p33 p34 p35 p36 p37 p38 p39 p40:Pos}{q1 q2 q3 q4 q5 q6 q7:Pos}{j1 j2 j3 j4 j5:Nat}
end
end L2
namespace VL
open PySem PySem.Spec PyProof.Rows L2
def dnr{K:zAA}{h:Heap}{mg:Str->Option Value}{x:Str}{st:Stmt}(X:K.In h)(G:h.Ns zA4 mg)(e:∃f d,Enr K x st f d)(ps:List Str)
  (hb:∀(kV doc pm:Value) (an:Option Addr) (cdv ct:Value) (us:List Value),us.length=ps.length->zFi (zBl x x (lC st) (dh st) (aM st) .none kV doc pm an cdv ct) ⟨us,[]⟩=pure (ps.zip us):=by
   intro _ _ _ _ _ _ us hl;repeat' first|rfl|(simp at hl;done)|rcases us with _|⟨_,us⟩):∃f d,Dnr K mg x st ps f d/\zAs K zA4 x=some (some (.ref f)):=by
 obtain⟨f,d,F,a⟩:=e;exact⟨f,d,⟨F,zBn X G a,F.binds hb⟩,a⟩
def aA6:D->Rs D
 | .lst l=>.ok (.lst l.reverse)
 |_=>.st
def aFn(K:zAA)(te:TE):TE:=λ Z H Q=>te Z H λ x H1=>∃a xs,x= .ref a/\SqL K H1 a xs/\∀p,H1 p=none->Q (.ref p) (upd H1 p (.lst xs.reverse))
def aEf{X:Cx}(he:PE X e te):PE X (.Subscript e (.Slice none none (some (.UnaryOp .USub (.Constant (.int 1) j p3) p4)) p2) pos) (aFn X.K te):=by
 intro hV s Z H Q I h;refine zGa (thn (he hV s Z H _ I h) λ v s1 ⟨x,H1,I1,r1,q1⟩=>?_);obtain⟨a,xs,rfl,hx,q⟩:=q1;cases r1;have hm:PE X (.UnaryOp .USub (.Constant (.int 1) j p3) p4) (tUn (rU λ i=>.int (-i)) (tC (.int 1))):=aGG aBx aCe;refine wpAny_Slice ?_;rw[evalPart_none];refine zA1 (zA1 ?_);rw[evalPart_some];refine thn (hm hV s1 Z H1 (λ z H2=>z= .int (-1)/\H2=H1) I1 ⟨1,rfl,rfl,rfl⟩) λ u s2 ⟨z,H2,I2,r2,ez,eH⟩=>?_
 subst ez eH;obtain⟨tk,rfl⟩:=r2;have I4:Inv X hV Z H2 {s2 with heap:=s2.heap.push {cls:=.type "slice",data:=.fields #[.none,.none,.int (-1) tk]}}:=I2.kept (t':=s2.toks) λ b ob q=>zAF _ q
 obtain⟨its,r,ht,hz⟩:=I4.list hx;have hW:its.toArray.size=xs.length:=by rw[zAI];exact r.length.symm
 show wpAny (model X.prog X.w) X.A (zFo e _ (.ref a) (.ref s2.heap.objs.size)) (EP X hV Z Q) X.xe _;refine tail_any (ops:=[.ref a,.ref s2.heap.objs.size]) ht.isList.typeIs zGf.lookup ?_ (by with_unfolding_all rfl);refine wpAny_getItem_list_slice ht.isList (zGW ..) .none .none (.int _ _) (by decide) ?_ (by rw[hW];exact hz);rw[PySem.W.krv_pick];refine⟨.ref _,_,I4.laid (t':=s2.toks) (o:=.lst xs.reverse) (λ b ob q=>zAF _ q) (zAT _) ?_,rfl,q _ (I4.hok.fresh (zAT _))⟩;exact⟨by rw[zDt];exact hz,_,0,r.reverse,zAW _ rfl⟩
section
variable{C:Ct}{pos p2 p3 p4:Pos}{m:Mode}{e:Expr}{fe:En->Rs D}
def aEN(h:SE C m e fe):SE C m (.Subscript e (.Slice none none (some (.UnaryOp .USub (.Constant (.int 1) j p3) p4)) p2) pos) (op1 aA6 fe):=by
 obtain⟨t,h1,h2⟩:=h;refine⟨aFn C.K t,λ i=>by rw[<-C.hK i];exact aEf (h1 i),λ τ Z H Y lab Q R W=>h2 τ Z H Y lab _ R (W.bd.imp λ d _ w x H1 s1 r1=>?_)⟩;obtain⟨z,ez,w⟩:=w.okD;cases d with
 |lst l=>
  cases ez;obtain⟨a,xs,rfl,h,mm,r⟩:=r1.lst_inv;exact⟨a,xs,rfl,SqL.of h,λ p hp=>w _ _ (s1.trans (bY hp _)) (.lst aa (.inl (s1.free hp)) ((r.reverse.wk λ q o e z=>⟨z.1,λ e'=>by subst e';rw[hp]at e;cases e⟩).up (bY hp _)))⟩
 |_=>cases ez
end
end VL
namespace L2
open PySem PySem.Spec PyProof.Rows
end L2
namespace VL
open PySem PySem.Spec PyProof.Rows L2
section
variable{prog:zAO}{w:World}{A:zA3}{s:zAC}{kw:List (Str×Value)}
def j8{E:Value->zAC->Prop}{id:String}{b:zEb}{args:List Value}{kw:List (Str×Value)}{Q:Value->zAC->Prop}(hk:builtinKind id=none)(hp:plainId id=true)
  (hb:entryFor table id=some b)(ha:zFb id ⟨args,kw⟩)
  (hc:wpAny (model prog w) A.in1 (b ⟨args,kw⟩) (λ fin s'=>match fin with
   | .done f=>(match (Except.ok f:zDy)with| .ok (.ret v)=>Q v s'| .ok _=>False| .error e=>E e s')
   | .again c'=>c'.quiet=true/\zCI (model prog w) A c' (λ r s'=>match r with| .ok (.ret v)=>Q v s'| .ok _=>False| .error e=>E e s') s') E s):
  wpAny (model prog w) A (call (.builtin id) args kw) Q E s:=by
 refine zGj (zEJ hp hb ?_);simp only[zEt,hk];cases hsig:Manifest.signature? id with
 |none=>exact zA1 hc
 |some sig=>
  simp only[zFb,hsig]at ha;have h2:zGO id sig ⟨args,kw⟩=pure ():=ha;show wpAny _ A.in1 (zGO id sig ⟨args,kw⟩) _ _ s;rw[h2];exact zA1 hc
end
theorem iw{K:zAA}:∀{xs:List V} {ds:List D} {i:Nat} {v:V},Rps K A H xs ds->xs[i]? =some v->∃d,ds[i]? =some d/\Rp K A H v d
 |_,_,_,_,.nil,h=>by simp at h
 |_,_,0,_,.cons r _,h=>by simp at h;subst h;exact⟨_,rfl,r⟩
 |_,_,i+1,_,.cons _ rs,h=>by
  obtain⟨d,e,r⟩:=iw (i:=i) rs (by simpa using h);exact⟨d,by simpa using e,r⟩
theorem sr:∀l:List Int,fM (l.map .int)=true
 |[]=>rfl
 |x::l=>by simp[fM,imm,sr l]
mutual
def grD:D->D->Option Bool
 | .int a,.int b=>some (decide (a>b))
 | .tup l,.tup m=>aAF l m
 |_,_=>none
def aAF:List D->List D->Option Bool
 |[],[]=>some false
 |[],_::_=>some false
 |_::_,[]=>some true
 |x::xs,y::ys=>if eqD x y=true then aAF xs ys else grD x y
end
def aFk(A:zA3)(s:zAC)(v u:Value)(b:Bool):Prop:=∀(prog:zAO) (w:World) (E:Value->zAC->Prop) (Q:Value->zAC->Prop),Q (.bool b) s->wpAny (model prog w) A (zDR .Gt v u) Q E s
inductive qZ(A:zA3)(s:zAC):List Value->List Value->Bool->Prop
 |nn:qZ A s [] [] false
 |nc:qZ A s [] (v::vs) false
 |cn:qZ A s (v::vs) [] true
 |eq:zC6 A s v u true->qZ A s vs us b->qZ A s (v::vs) (u::us) b
 |un:zC6 A s v u false->aFk A s v u b->qZ A s (v::vs) (u::us) b
section
open PySem.SeqAt
open PySem.AutoSeq1(wpAny_loadPart')
open PySem.MeetsSeq PySem.MeetsSeq2 PySem.MeetsSeq3
def vM(l b:Addr)(items items2:Array Value)(n n2:Nat)(dd dd2:Option Addr)(sl sl2:Array (Option Value))(z:Bool):
  Meets (zEb.«tuple.__gt__» ⟨[.ref l,.ref b],[]⟩)
   (λ A R s=>s.heap.get? l=some {cls:=.type "tuple",dict:=dd,data:=.seq items n,slots:=sl}/\s.heap.get? b=some {cls:=.type "tuple",dict:=dd2,data:=.seq items2 n2,slots:=sl2}/\
    qZ A.in1 s items.toList items2.toList z/\R (.ok (.ret (.bool z))) s):=
 .of_wp λ prog w A R s h=>by
  obtain⟨hp,g,d,tk,os⟩:=s;obtain⟨hl,hb,hx,h⟩:=h;have f2:=zCS;wp_walk using zBz hl,zBz hb,zDn _ (λ rest b s'=>b.1=none/\s'=⟨hp,g,d,tk,os⟩/\∃(vs ws:List Value),rest=vs.zip ws/\
   qZ A.in1 ⟨hp,g,d,tk,os⟩ vs ws z/\vs.length+items2.size=ws.length+items.size) _
  case turn=>
   rintro⟨y,x⟩ rest b s' ⟨hb',rfl,vs,ws,hz,hx,hW⟩;cases hx with
   |nn=>cases hz
   |nc=>cases hz
   |cn=>cases hz
   |eq he hr=>
    rw[zAr]at hz;injection hz with hyx hrest
    injection hyx with hy hx
    subst hy hx;simp only[zA2]at hW;refine zAE (he prog w _ _ ?_);wp_walk;exact⟨rfl,rfl,_,_,hrest,hr,by lia⟩
   |un he hri=>
    rw[zAr]at hz;injection hz with hyx hrest
    injection hyx with hy hx
    subst hy hx;refine zAE (he prog w _ _ ?_);have hri':=hri prog w;wp_walk using hri';exact⟨_,rfl,by simpa using h⟩
  case fin=>
   rintro⟨b1,b2⟩ s' ⟨hb',rfl,vs,ws,hz,hx,hW⟩;simp only at hb';subst hb';have hv:z=decide (items.size>items2.size):=by
    cases hx with
    |nn=>simp only[zAz]at hW;exact(decide_eq_false (by lia)).symm
    |nc=>simp only[zAz,zA2]at hW;exact(decide_eq_false (by lia)).symm
    |cn=>simp only[zAz,zA2]at hW;exact(decide_eq_true (by lia)).symm
    |eq=>cases hz
    |un=>cases hz
   rw[hv]at h;wp_walk;exact⟨_,rfl,by simpa[zB6]using h⟩
  case h=>
   exact⟨rfl,rfl,items.toList,items2.toList,rfl,hx,by simp;lia⟩
end
section
variable{K:zAA}{H:Hp}{s:zAC}
theorem qZ.at{A:zA3}{l b:Addr}{its its2:Array Value}{z:Bool}(t1:s.heap.IsTuple l its)(t2:s.heap.IsTuple b its2)(hu:A.units<cLine)(hx:qZ A.in1 s its.toList its2.toList z):aFk A s (.ref l) (.ref b) z:=by
 intro prog w E Q q;obtain⟨⟨cls,dd,data,sl⟩,ho,hc,n,hd⟩:=id t1;obtain⟨⟨cls2,dd2,data2,sl2⟩,ho2,hc2,n2,hd2⟩:=id t2;simp only at hc hd hc2 hd2;subst hc hd hc2 hd2;exact zCu (op:=.Gt) ⟨_,ho,rfl⟩ ⟨_,ho2,rfl⟩ PySem.F.slot_tuple_gt PySem.F.entry_tuple_gt (PySem.F.args_tuple_gt_2 _ _) (vM l b its its2 n n2 dd dd2 sl sl2 z)
  ⟨ho,ho2,hx,show zDN z≠zCs/\Q (.bool z) s from⟨(λ x=>nomatch x),q⟩⟩ hu
mutual
theorem aDU(ok:fB K H s):∀(d:D) {A1 A2:Addr->Prop} {x y:V} {e:D} (n:Nat) {A:zA3} {u v:Value} {z:Bool},Rp K A1 H x d->Rp K A2 H y e->RelV x u->RelV y v->gR d<=n->aV d=true->aV e=true->A.units+n<cLine->grD d e=some z->aFk A s u v z
 | .int i,_,_,_,_,e,n,A,u,v,z,r1,r2,ru,rv,hd,nd,ne,hu,hz=>by
  cases e with
  |int j=>
   cases r1;cases r2;obtain⟨t,rfl⟩:=ru;obtain⟨t',rfl⟩:=rv;simp only[grD,zBO]at hz;subst hz;intro prog w E Q q;exact(PyProof.Rows.gt_int q:wpAny (model prog w) A (zAk .Gt (.int i t) (.int j t')) Q E s)
  |_=>simp[grD]at hz
 | .tup ds,_,_,_,_,e,n,A,u,v,z,r1,r2,ru,rv,hd,nd,ne,hu,hz=>by
  cases e with
  |tup es=>
   cases r1 with
   |tup h1 q1=>
   cases r2 with
   |tup h2 q2=>
   cases ru;cases rv;obtain⟨its,w1,t1⟩:=ok.tup h1;obtain⟨its2,w2,t2⟩:=ok.tup h2;simp only[gR]at hd;obtain⟨k,rfl⟩:∃k,n=k+1:=⟨n-1,by lia⟩
   simp only[grD]at hz;exact qZ.at t1 t2 (by lia) (aAr ok ds (es:=es) k q1 q2 w1 w2 (by lia) (cP nd) (cP ne) (by show A.units+1+k<cLine;lia) hz)
  |_=>simp[grD]at hz
 | .non,_,_,_,_,_,_,_,_,_,_,_,_,_,_,_,_,_,_,hz=>by simp[grD]at hz
 | .bl _,_,_,_,_,_,_,_,_,_,_,_,_,_,_,_,_,_,_,hz=>by simp[grD]at hz
 | .str _,_,_,_,_,_,_,_,_,_,_,_,_,_,_,_,_,_,_,hz=>by simp[grD]at hz
 | .lst _,_,_,_,_,_,_,_,_,_,_,_,_,_,_,_,_,_,_,hz=>by simp[grD]at hz
 | .dct _ _,_,_,_,_,_,_,_,_,_,_,_,_,_,_,_,_,_,_,hz=>by simp[grD]at hz
 | .set _,_,_,_,_,_,_,_,_,_,_,_,_,_,_,_,_,_,_,hz=>by simp[grD]at hz
 | .scr _,_,_,_,_,_,_,_,_,_,_,_,_,_,_,_,_,_,_,hz=>by simp[grD]at hz
 | .fn _,_,_,_,_,_,_,_,_,_,_,_,_,_,_,_,_,_,_,hz=>by simp[grD]at hz
 | .itm _ _,_,_,_,_,_,_,_,_,_,_,_,_,_,_,_,_,_,_,hz=>by simp[grD]at hz
theorem aAr(ok:fB K H s):∀(ds:List D) {A1 A2:Addr->Prop} {xs ys:List V} {es:List D} (n:Nat) {A:zA3} {us vs:List Value} {z:Bool},Rps K A1 H xs ds->Rps K A2 H ys es->Vals xs us->Vals ys vs->bQ ds<=n->aX ds=true->aX es=true->A.units+n<cLine->aAF ds es=some z->qZ A s us vs z
 |[],_,_,_,_,es,n,A,us,vs,z,r1,r2,ru,rv,hd,nd,ne,hu,hz=>by
  cases r1;cases ru;cases r2 with
  |nil=>cases rv;simp only[aAF,zBO]at hz;subst hz;exact .nn
  |cons _ _=>cases rv;simp only[aAF,zBO]at hz;subst hz;exact .nc
 |d::ds,_,_,_,_,es,n,A,us,vs,z,r1,r2,ru,rv,hd,nd,ne,hu,hz=>by
  cases r1 with
  |cons p1 q1=>
  cases ru with
  |cons a1 b1=>
  cases r2 with
  |nil=>cases rv;simp only[aAF,zBO]at hz;subst hz;exact .cn
  |cons p2 q2=>
  cases rv with
  |cons a2 b2=>
  have hd1:gR d<=n/\bQ ds<=n:=by simp only[bQ]at hd;lia
  have n1:=cL nd;have n2:=cL ne;have he:=aAI ok n (A:=A) p1 p2 a1 a2 hd1.1 n1.1 n2.1 hu;simp only[aAF]at hz;split at hz
  .rename_i e
   rw[e]at he;exact .eq he (aAr ok ds n q1 q2 b1 b2 hd1.2 n1.2 n2.2 hu hz)
  .rename_i e
   rw[zEK.mpr e]at he;exact .un he (aDU ok d n p1 p2 a1 a2 hd1.1 n1.1 n2.1 hu hz)
end
end
section
variable{prog:zAO}{w:World}{A:zA3}{R:zDy->zAC->Prop}{I:Addr}{fp wr:List Addr}{G:Array zC8->Array zC8->Prop}{n:Nat}{St:Nat->zAC->Prop}{vs:List Value}{lt:Nat->Nat->Bool}{s:zAC}{kw:List (Str×Value)}{h0:Heap}
def aIV(h0:Heap)(A:zA3)(vs:List Value)(lt:Nat->Nat->Bool):Prop:=∀(s:zAC),(∀b o,h0.get? b=some o->s.heap.get? b=some o)->∀i j v u,vs[i]? =some v->vs[j]? =some u->aFk A s v u (lt i j)
def aBV(W:WalksS prog w A.in1 I fp wr G n (λ i v=>vs.toArray[i]? =some v) St)(S:Addr)(hSf:S∉fp)(C:aIV h0 A.in1 vs lt)(hin:∀x o,h0.get? x=some o->x∉S::wr):
  ∀(k j:Nat) (s:zAC) (vb:Value) (c:Nat),n-(j+1)=k->j+1<=n->St (j+1) s->(∀b o,h0.get? b=some o->s.heap.get? b=some o)->vs[zAq lt j]? =some vb->
  s.heap.get? S=some {cls:=.type "list",dict:=none,data:=.seq #[vb,vb] c,slots:=#[]}->
  (∀v s',vs[zAq lt (n-1)]? =some v->Moved (S::wr) G s s'->R (.ok (.ret v)) s')->zCI (model prog w) A (.builtin "max.loop" ⟨[.ref I,.none,.ref S],kw⟩) R s:=by
 have hSw:S∉wr:=λ h=>hSf (W.sub _ h)
 have kQ:∀b∈wr,b∈S::wr:=λ b hb=>zAK _ hb
 have iX:(zCO "max"++zCO ".loop":String)="max.loop":=by decide
 have kK:∀{b:Addr},b∉S::wr->S≠b:=λ hb h=>hb (by rw[h];exact zAP)
 have aS:∀x o,h0.get? x=some o->x∉wr:=λ x o hx h=>hin x o hx (kQ _ h)
 intro k;induction k with
 |zero=>
  intro j s vb c hk hj hst ht hPb hS hR;have hin:j+1=n:=by omega
  refine zBR zCb ?_;rw[zAx zAy _];show wpAny _ A.in1 (zDB (.ref S)>>=_) _ _ s;refine zAE (zB5 hS rfl ?_);show wpAny _ A.in1 (zC4 (zEA (.ref I)) _>>=_) _ _ s;refine zAE (zAt (W.done s _ _ (hin▸hst) λ s' hm=>?_));have hS':=hm.heap S _ hSw hS;show wpAny _ A.in1 (zE0 S (λ _=>#[])>>=_) _ _ _;refine zAE ?_;refine zBa hS' rfl (zAE (zBo (zA1 ?_)));exact hR vb _ (by rw[<-hin];exact hPb) ((hm.mono kQ).then_heap (tk:=s'.toks) (zAT _) λ b o hb e=>(zA6 _ _ (kK hb)).trans e)
 |succ k ih=>
  intro j s vb c hk hj hst ht hPb hS hR;have hlt:j+1<n:=by omega
  refine zBR zCb ?_;rw[zAx zAy _];show wpAny _ A.in1 (zDB (.ref S)>>=_) _ _ s;refine zAE (zB5 hS rfl ?_);show wpAny _ A.in1 (zC4 (zEA (.ref I)) _>>=_) _ _ s;refine zAE (zAt (W.item (j+1) s _ _ hlt hst λ v s' hP0 hst' hm=>?_));have hP:vs[j+1]? =some v:=by simpa using hP0
  have hS':=hm.heap S _ hSw hS;have ht':∀b o,h0.get? b=some o->s'.heap.get? b=some o:=λ b o e=>hm.heap b o (aS b o e) (ht b o e)
  show wpAny _ A.in1 (zC4 (zCU [v,v] (zDR .Gt v vb>>=_)) _>>=_) _ _ _;refine zAE (zAt (zBT (zAE (C s' ht' _ _ _ _ hP hPb _ _ _ _ ?_))));refine zAE (zBT (zB7 ?_));refine zAE (zBo (zA1 ?_));cases hb:lt (j+1) (zAq lt j)with
  |true=>
   simp only[if_true];refine zAE ?_;refine zBa hS' rfl (zAE (zBo ?_));rw[iX];refine zA1 ⟨zBS zAy _,ih (j+1) _ v _ (by omega) hlt (W.frame _ s' _ s'.toks hst' (zAT _) λ b hbf o e=>?_) (λ x o e=>(zA6 _ _ (kK (hin x o e))).trans (ht' x o e)) (by simp only[zAq,hb,if_true];exact hP) (zCD _ hS' rfl)
    λ v' s'' hP' hm''=>?_⟩
   .exact(zA6 _ _ (λ h:S=b=>hSf (by rw[h];exact hbf))).trans e
   .exact hR v' s'' hP' (zDV W.gtrans ((hm.mono kQ).then_heap (by first|exact zAT _|exact zCG _|omega) λ b o hb e=>(zA6 _ _ (kK hb)).trans e) hm'')
  |false=>
   simp only[zBD,if_false];refine zAE (zBo ?_);rw[iX];refine zA1 ⟨zBS zAy _,ih (j+1) _ vb c (by omega) hlt hst' ht' (by simp only[zAq,hb,zBD,if_false];exact hPb) hS' λ v' s'' hP' hm''=>?_⟩;exact hR v' s'' hP' (zDV W.gtrans (hm.mono kQ) hm'')
def z6(W:WalksS prog w A.in1 I fp wr G n (λ i v=>vs.toArray[i]? =some v) St)(S:Addr)(hSf:S∉fp)(C:aIV h0 A.in1 vs lt)(hin:∀x o,h0.get? x=some o->x∉S::wr){c:Nat}(hn:0<n)(hst:St 0 s)(ht:∀b o,h0.get? b=some o->s.heap.get? b=some o)
  (hS:s.heap.get? S=some {cls:=.type "list",dict:=none,data:=.seq #[] c,slots:=#[]})
  (hR:∀v s',vs[zAq lt (n-1)]? =some v->Moved (S::wr) G s s'->R (.ok (.ret v)) s'):zCI (model prog w) A (.builtin "max.loop" ⟨[.ref I,.none,.ref S],kw⟩) R s:=by
 have hSw:S∉wr:=λ h=>hSf (W.sub _ h)
 have kQ:∀b∈wr,b∈S::wr:=λ b hb=>zAK _ hb
 have iX:(zCO "max"++zCO ".loop":String)="max.loop":=by decide
 have kK:∀{b:Addr},b∉S::wr->S≠b:=λ hb h=>hb (by rw[h];exact zAP)
 have aS:∀x o,h0.get? x=some o->x∉wr:=λ x o hx h=>hin x o hx (kQ _ h)
 refine zBR zCb ?_;rw[zAx zAy _];show wpAny _ A.in1 (zDB (.ref S)>>=_) _ _ s;refine zAE (zB5 hS rfl ?_);show wpAny _ A.in1 (zC4 (zEA (.ref I)) _>>=_) _ _ s;refine zAE (zAt (W.item 0 s _ _ hn hst λ v s' hP0 hst' hm=>?_));have hP:vs[0]? =some v:=by simpa using hP0
 have hS':=hm.heap S _ hSw hS;have ht':∀b o,h0.get? b=some o->s'.heap.get? b=some o:=λ b o e=>hm.heap b o (aS b o e) (ht b o e)
 show wpAny _ A.in1 (zE0 S (λ _=>#[v,v])>>=_) _ _ _;refine zAE ?_;refine zBa hS' rfl ?_;rw[iX];refine zA1 ⟨zBS zAy _,aBV W S hSf C hin _ 0 _ v _ rfl (by omega) (W.frame _ s' _ s'.toks hst' (zAT _) λ b hbf o e=>?_) (λ x o e=>(zA6 _ _ (kK (hin x o e))).trans (ht' x o e)) hP (zCD _ hS' rfl) λ v' s'' hP' hm''=>?_⟩
 .exact(zA6 _ _ (λ h:S=b=>hSf (by rw[h];exact hbf))).trans e
 .exact hR v' s'' hP' (zDV W.gtrans ((hm.mono kQ).then_heap (by first|exact zAT _|exact zCG _|omega) λ b o hb e=>(zA6 _ _ (kK hb)).trans e) hm'')
end
section
variable{K:zAA}
theorem yJ:∀{l:List D} {d:D},fM l=true->d∈l->imm d=true
 |_::_,d,h,hm=>by
  simp only[fM,zAU]at h;rcases zAV.mp hm with rfl|hm
  .exact h.1
  .exact yJ h.2 hm
def ltI(f:D->D->Option Bool)(l:List D)(i j:Nat):Bool:=(f (l.getD i .non) (l.getD j .non)).getD false
structure Cmp(f:D->D->Option Bool)(l:List D):Prop where
 n0:0<l.length
 im:fM l=true
 nd:aX l=true
 dp:bQ l<=40
 cm:∀x∈l,∀y∈l,(f x y).isSome=true
instance:Decidable (Cmp f l):=if h:0<l.length/\fM l=true/\aX l=true/\bQ l<=40/\∀x∈l,∀y∈l,(f x y).isSome=true then .isTrue ⟨h.1,h.2.1,h.2.2.1,h.2.2.2.1,h.2.2.2.2⟩else .isFalse λ z=>h ⟨z.n0,z.im,z.nd,z.dp,z.cm⟩
def lZ(f:D->D->Option Bool)(l:List D):D:=l.getD (zAq (ltI f l) (l.length-1)) .non
def nZ(f:D->D->Option Bool):List D->Rs D
 |[.lst l]=>if Cmp f l then .ok (lZ f l)else .st
 |_=>.st
theorem iZ(lt:Nat->Nat->Bool):∀k,zAq lt k<=k
 |0=>by simp[zAq]
 |k+1=>by
  have:=iZ lt k
  simp only[zAq];split<;>lia
def yV{f:D->D->Option Bool}{l:List D}(h:0<l.length):lZ f l∈l:=by
 have:=iZ (ltI f l) (l.length-1)
 have hk:zAq (ltI f l) (l.length-1)<l.length:=by lia
 unfold lZ;rw[zAQ,zAD hk];exact zEU hk
def aGE(K:zAA)(f:D->D->Option Bool):List V->Hp->VK->Prop:=λ xs H Q=>∃(p:Addr) (vs:List V) (ds:List D) (A:Addr->Prop),xs=[.ref p]/\H p=some (.lst vs)/\Rps K A H vs ds/\Cmp f ds/\∀v,vs[zAq (ltI f ds) (vs.length-1)]? =some v->Q v H
def aF3{f:D->D->Option Bool}:nj K (aGE K f) (nZ f):=by
 intro A xs ds H Q z r ez q;unfold nZ at ez;split at ez
 .rename_i l
  split at ez
  .rename_i hc
   cases ez;cases r with
   |cons h r=>
    cases r;obtain⟨p,vs,rfl,hp,mm,rs⟩:=h.lst_inv;refine⟨p,vs,l,_,rfl,hp,rs,hc,λ v hv=>?_⟩;obtain⟨d,ed,rd⟩:=iw rs hv
    have:lZ f l=d:=by
     unfold lZ;rw[<-rs.length,zAQ,ed];rfl
    subst this;exact q _ H (aQ.refl H) (rd.imm (yJ hc.im (yV hc.n0)))
  .cases ez
 .cases ez
def aDP{f:D->D->Option Bool}:∀x z,nZ f x= .ok z->imm z=true:=by
 intro x z e;unfold nZ at e;split at e
 .split at e
  .rename_i hc
   cases e;exact yJ hc.im (yV hc.n0)
  .cases e
 .cases e
theorem eQ:∀{xs:List V} {us:List Value} {i:Nat} {v:Value},Vals xs us->us[i]? =some v->∃x,xs[i]? =some x/\RelV x v
 |_,_,_,_,.nil,h=>by simp at h
 |_,_,0,_,.cons r _,h=>by simp at h;subst h;exact⟨_,rfl,r⟩
 |_,_,i+1,_,.cons _ rs,h=>by
  obtain⟨d,e,r⟩:=eQ (i:=i) rs (by simpa using h);exact⟨d,by simpa using e,r⟩
end
mutual
def lsD:D->D->Option Bool
 | .int a,.int b=>some (decide (a<b))
 | .tup l,.tup m=>sJ l m
 |_,_=>none
def sJ:List D->List D->Option Bool
 |[],[]=>some false
 |[],_::_=>some true
 |_::_,[]=>some false
 |x::xs,y::ys=>if eqD x y=true then sJ xs ys else lsD x y
end
def aDn(A:zA3)(s:zAC)(v u:Value)(b:Bool):Prop:=∀(prog:zAO) (w:World) (E:Value->zAC->Prop) (Q:Value->zAC->Prop),Q (.bool b) s->wpAny (model prog w) A (zDR .Lt v u) Q E s
inductive qY(A:zA3)(s:zAC):List Value->List Value->Bool->Prop
 |nn:qY A s [] [] false
 |nc:qY A s [] (v::vs) true
 |cn:qY A s (v::vs) [] false
 |eq:zC6 A s v u true->qY A s vs us b->qY A s (v::vs) (u::us) b
 |un:zC6 A s v u false->aDn A s v u b->qY A s (v::vs) (u::us) b
section
open PySem.SeqAt
open PySem.AutoSeq1(wpAny_loadPart')
open PySem.MeetsSeq PySem.MeetsSeq2 PySem.MeetsSeq3
def vL(l b:Addr)(items items2:Array Value)(n n2:Nat)(dd dd2:Option Addr)(sl sl2:Array (Option Value))(z:Bool):
  Meets (zEb.«tuple.__lt__» ⟨[.ref l,.ref b],[]⟩)
   (λ A R s=>s.heap.get? l=some {cls:=.type "tuple",dict:=dd,data:=.seq items n,slots:=sl}/\s.heap.get? b=some {cls:=.type "tuple",dict:=dd2,data:=.seq items2 n2,slots:=sl2}/\
    qY A.in1 s items.toList items2.toList z/\R (.ok (.ret (.bool z))) s):=
 .of_wp λ prog w A R s h=>by
  obtain⟨hp,g,d,tk,os⟩:=s;obtain⟨hl,hb,hx,h⟩:=h;have f2:=zCS;wp_walk using zBz hl,zBz hb,zDn _ (λ rest b s'=>b.1=none/\s'=⟨hp,g,d,tk,os⟩/\∃(vs ws:List Value),rest=vs.zip ws/\
   qY A.in1 ⟨hp,g,d,tk,os⟩ vs ws z/\vs.length+items2.size=ws.length+items.size) _
  case turn=>
   rintro⟨y,x⟩ rest b s' ⟨hb',rfl,vs,ws,hz,hx,hW⟩;cases hx with
   |nn=>cases hz
   |nc=>cases hz
   |cn=>cases hz
   |eq he hr=>
    rw[zAr]at hz;injection hz with hyx hrest
    injection hyx with hy hx
    subst hy hx;simp only[zA2]at hW;refine zAE (he prog w _ _ ?_);wp_walk;exact⟨rfl,rfl,_,_,hrest,hr,by lia⟩
   |un he hri=>
    rw[zAr]at hz;injection hz with hyx hrest
    injection hyx with hy hx
    subst hy hx;refine zAE (he prog w _ _ ?_);have hri':=hri prog w;wp_walk using hri';exact⟨_,rfl,by simpa using h⟩
  case fin=>
   rintro⟨b1,b2⟩ s' ⟨hb',rfl,vs,ws,hz,hx,hW⟩;simp only at hb';subst hb';have hv:z=decide (items.size<items2.size):=by
    cases hx with
    |nn=>simp only[zAz]at hW;exact(decide_eq_false (by lia)).symm
    |nc=>simp only[zAz,zA2]at hW;exact(decide_eq_true (by lia)).symm
    |cn=>simp only[zAz,zA2]at hW;exact(decide_eq_false (by lia)).symm
    |eq=>cases hz
    |un=>cases hz
   rw[hv]at h;wp_walk;exact⟨_,rfl,by simpa[zB6]using h⟩
  case h=>
   exact⟨rfl,rfl,items.toList,items2.toList,rfl,hx,by simp;lia⟩
end
section
variable{K:zAA}{H:Hp}{s:zAC}
theorem qY.at{A:zA3}{l b:Addr}{its its2:Array Value}{z:Bool}(t1:s.heap.IsTuple l its)(t2:s.heap.IsTuple b its2)(hu:A.units<cLine)(hx:qY A.in1 s its.toList its2.toList z):aDn A s (.ref l) (.ref b) z:=by
 intro prog w E Q q;obtain⟨⟨cls,dd,data,sl⟩,ho,hc,n,hd⟩:=id t1;obtain⟨⟨cls2,dd2,data2,sl2⟩,ho2,hc2,n2,hd2⟩:=id t2;simp only at hc hd hc2 hd2;subst hc hd hc2 hd2;exact zCu (op:=.Lt) ⟨_,ho,rfl⟩ ⟨_,ho2,rfl⟩ zEo zEj (zEd _ _) (vL l b its its2 n n2 dd dd2 sl sl2 z)
  ⟨ho,ho2,hx,show zDN z≠zCs/\Q (.bool z) s from⟨(λ x=>nomatch x),q⟩⟩ hu
mutual
theorem zb(ok:fB K H s):∀(d:D) {A1 A2:Addr->Prop} {x y:V} {e:D} (n:Nat) {A:zA3} {u v:Value} {z:Bool},Rp K A1 H x d->Rp K A2 H y e->RelV x u->RelV y v->gR d<=n->aV d=true->aV e=true->A.units+n<cLine->lsD d e=some z->aDn A s u v z
 | .int i,_,_,_,_,e,n,A,u,v,z,r1,r2,ru,rv,hd,nd,ne,hu,hz=>by
  cases e with
  |int j=>
   cases r1;cases r2;obtain⟨t,rfl⟩:=ru;obtain⟨t',rfl⟩:=rv;simp only[lsD,zBO]at hz;subst hz;intro prog w E Q q;exact(zDZ q:wpAny (model prog w) A (zAk .Lt (.int i t) (.int j t')) Q E s)
  |_=>simp[lsD]at hz
 | .tup ds,_,_,_,_,e,n,A,u,v,z,r1,r2,ru,rv,hd,nd,ne,hu,hz=>by
  cases e with
  |tup es=>
   cases r1 with
   |tup h1 q1=>
   cases r2 with
   |tup h2 q2=>
   cases ru;cases rv;obtain⟨its,w1,t1⟩:=ok.tup h1;obtain⟨its2,w2,t2⟩:=ok.tup h2;simp only[gR]at hd;obtain⟨k,rfl⟩:∃k,n=k+1:=⟨n-1,by lia⟩
   simp only[lsD]at hz;exact qY.at t1 t2 (by lia) (aAg ok ds (es:=es) k q1 q2 w1 w2 (by lia) (cP nd) (cP ne) (by show A.units+1+k<cLine;lia) hz)
  |_=>simp[lsD]at hz
 | .non,_,_,_,_,_,_,_,_,_,_,_,_,_,_,_,_,_,_,hz=>by simp[lsD]at hz
 | .bl _,_,_,_,_,_,_,_,_,_,_,_,_,_,_,_,_,_,_,hz=>by simp[lsD]at hz
 | .str _,_,_,_,_,_,_,_,_,_,_,_,_,_,_,_,_,_,_,hz=>by simp[lsD]at hz
 | .lst _,_,_,_,_,_,_,_,_,_,_,_,_,_,_,_,_,_,_,hz=>by simp[lsD]at hz
 | .dct _ _,_,_,_,_,_,_,_,_,_,_,_,_,_,_,_,_,_,_,hz=>by simp[lsD]at hz
 | .set _,_,_,_,_,_,_,_,_,_,_,_,_,_,_,_,_,_,_,hz=>by simp[lsD]at hz
 | .scr _,_,_,_,_,_,_,_,_,_,_,_,_,_,_,_,_,_,_,hz=>by simp[lsD]at hz
 | .fn _,_,_,_,_,_,_,_,_,_,_,_,_,_,_,_,_,_,_,hz=>by simp[lsD]at hz
 | .itm _ _,_,_,_,_,_,_,_,_,_,_,_,_,_,_,_,_,_,_,hz=>by simp[lsD]at hz
theorem aAg(ok:fB K H s):∀(ds:List D) {A1 A2:Addr->Prop} {xs ys:List V} {es:List D} (n:Nat) {A:zA3} {us vs:List Value} {z:Bool},Rps K A1 H xs ds->Rps K A2 H ys es->Vals xs us->Vals ys vs->bQ ds<=n->aX ds=true->aX es=true->A.units+n<cLine->sJ ds es=some z->qY A s us vs z
 |[],_,_,_,_,es,n,A,us,vs,z,r1,r2,ru,rv,hd,nd,ne,hu,hz=>by
  cases r1;cases ru;cases r2 with
  |nil=>cases rv;simp only[sJ,zBO]at hz;subst hz;exact .nn
  |cons _ _=>cases rv;simp only[sJ,zBO]at hz;subst hz;exact .nc
 |d::ds,_,_,_,_,es,n,A,us,vs,z,r1,r2,ru,rv,hd,nd,ne,hu,hz=>by
  cases r1 with
  |cons p1 q1=>
  cases ru with
  |cons a1 b1=>
  cases r2 with
  |nil=>cases rv;simp only[sJ,zBO]at hz;subst hz;exact .cn
  |cons p2 q2=>
  cases rv with
  |cons a2 b2=>
  have hd1:gR d<=n/\bQ ds<=n:=by simp only[bQ]at hd;lia
  have n1:=cL nd;have n2:=cL ne;have he:=aAI ok n (A:=A) p1 p2 a1 a2 hd1.1 n1.1 n2.1 hu;simp only[sJ]at hz;split at hz
  .rename_i e
   rw[e]at he;exact .eq he (aAg ok ds n q1 q2 b1 b2 hd1.2 n1.2 n2.2 hu hz)
  .rename_i e
   rw[zEK.mpr e]at he;exact .un he (zb ok d n p1 p2 a1 a2 hd1.1 n1.1 n2.1 hu hz)
end
end
section
variable{prog:zAO}{w:World}{A:zA3}{R:zDy->zAC->Prop}{I:Addr}{fp wr:List Addr}{G:Array zC8->Array zC8->Prop}{n:Nat}{St:Nat->zAC->Prop}{vs:List Value}{lt:Nat->Nat->Bool}{s:zAC}{kw:List (Str×Value)}{h0:Heap}
def aIU(h0:Heap)(A:zA3)(vs:List Value)(lt:Nat->Nat->Bool):Prop:=∀(s:zAC),(∀b o,h0.get? b=some o->s.heap.get? b=some o)->∀i j v u,vs[i]? =some v->vs[j]? =some u->aDn A s v u (lt i j)
def aBT(W:WalksS prog w A.in1 I fp wr G n (λ i v=>vs.toArray[i]? =some v) St)(S:Addr)(hSf:S∉fp)(C:aIU h0 A.in1 vs lt)(hin:∀x o,h0.get? x=some o->x∉S::wr):
  ∀(k j:Nat) (s:zAC) (vb:Value) (c:Nat),n-(j+1)=k->j+1<=n->St (j+1) s->(∀b o,h0.get? b=some o->s.heap.get? b=some o)->vs[zAq lt j]? =some vb->
  s.heap.get? S=some {cls:=.type "list",dict:=none,data:=.seq #[vb,vb] c,slots:=#[]}->
  (∀v s',vs[zAq lt (n-1)]? =some v->Moved (S::wr) G s s'->R (.ok (.ret v)) s')->zCI (model prog w) A (.builtin "min.loop" ⟨[.ref I,.none,.ref S],kw⟩) R s:=by
 have hSw:S∉wr:=λ h=>hSf (W.sub _ h)
 have kQ:∀b∈wr,b∈S::wr:=λ b hb=>zAK _ hb
 have iX:(zCO "min"++zCO ".loop":String)="min.loop":=by decide
 have kK:∀{b:Addr},b∉S::wr->S≠b:=λ hb h=>hb (by rw[h];exact zAP)
 have aS:∀x o,h0.get? x=some o->x∉wr:=λ x o hx h=>hin x o hx (kQ _ h)
 intro k;induction k with
 |zero=>
  intro j s vb c hk hj hst ht hPb hS hR;have hin:j+1=n:=by omega
  refine zBR zBZ ?_;rw[zAx zAd _];show wpAny _ A.in1 (zDB (.ref S)>>=_) _ _ s;refine zAE (zB5 hS rfl ?_);show wpAny _ A.in1 (zC4 (zEA (.ref I)) _>>=_) _ _ s;refine zAE (zAt (W.done s _ _ (hin▸hst) λ s' hm=>?_));have hS':=hm.heap S _ hSw hS;show wpAny _ A.in1 (zE0 S (λ _=>#[])>>=_) _ _ _;refine zAE ?_;refine zBa hS' rfl (zAE (zBo (zA1 ?_)));exact hR vb _ (by rw[<-hin];exact hPb) ((hm.mono kQ).then_heap (tk:=s'.toks) (zAT _) λ b o hb e=>(zA6 _ _ (kK hb)).trans e)
 |succ k ih=>
  intro j s vb c hk hj hst ht hPb hS hR;have hlt:j+1<n:=by omega
  refine zBR zBZ ?_;rw[zAx zAd _];show wpAny _ A.in1 (zDB (.ref S)>>=_) _ _ s;refine zAE (zB5 hS rfl ?_);show wpAny _ A.in1 (zC4 (zEA (.ref I)) _>>=_) _ _ s;refine zAE (zAt (W.item (j+1) s _ _ hlt hst λ v s' hP0 hst' hm=>?_));have hP:vs[j+1]? =some v:=by simpa using hP0
  have hS':=hm.heap S _ hSw hS;have ht':∀b o,h0.get? b=some o->s'.heap.get? b=some o:=λ b o e=>hm.heap b o (aS b o e) (ht b o e)
  show wpAny _ A.in1 (zC4 (zCU [v,v] (zDR .Lt v vb>>=_)) _>>=_) _ _ _;refine zAE (zAt (zBT (zAE (C s' ht' _ _ _ _ hP hPb _ _ _ _ ?_))));refine zAE (zBT (zB7 ?_));refine zAE (zBo (zA1 ?_));cases hb:lt (j+1) (zAq lt j)with
  |true=>
   simp only[if_true];refine zAE ?_;refine zBa hS' rfl (zAE (zBo ?_));rw[iX];refine zA1 ⟨zBS zAd _,ih (j+1) _ v _ (by omega) hlt (W.frame _ s' _ s'.toks hst' (zAT _) λ b hbf o e=>?_) (λ x o e=>(zA6 _ _ (kK (hin x o e))).trans (ht' x o e)) (by simp only[zAq,hb,if_true];exact hP) (zCD _ hS' rfl)
    λ v' s'' hP' hm''=>?_⟩
   .exact(zA6 _ _ (λ h:S=b=>hSf (by rw[h];exact hbf))).trans e
   .exact hR v' s'' hP' (zDV W.gtrans ((hm.mono kQ).then_heap (by first|exact zAT _|exact zCG _|omega) λ b o hb e=>(zA6 _ _ (kK hb)).trans e) hm'')
  |false=>
   simp only[zBD,if_false];refine zAE (zBo ?_);rw[iX];refine zA1 ⟨zBS zAd _,ih (j+1) _ vb c (by omega) hlt hst' ht' (by simp only[zAq,hb,zBD,if_false];exact hPb) hS' λ v' s'' hP' hm''=>?_⟩;exact hR v' s'' hP' (zDV W.gtrans (hm.mono kQ) hm'')
def zZ(W:WalksS prog w A.in1 I fp wr G n (λ i v=>vs.toArray[i]? =some v) St)(S:Addr)(hSf:S∉fp)(C:aIU h0 A.in1 vs lt)(hin:∀x o,h0.get? x=some o->x∉S::wr){c:Nat}(hn:0<n)(hst:St 0 s)(ht:∀b o,h0.get? b=some o->s.heap.get? b=some o)
  (hS:s.heap.get? S=some {cls:=.type "list",dict:=none,data:=.seq #[] c,slots:=#[]})
  (hR:∀v s',vs[zAq lt (n-1)]? =some v->Moved (S::wr) G s s'->R (.ok (.ret v)) s'):zCI (model prog w) A (.builtin "min.loop" ⟨[.ref I,.none,.ref S],kw⟩) R s:=by
 have hSw:S∉wr:=λ h=>hSf (W.sub _ h)
 have kQ:∀b∈wr,b∈S::wr:=λ b hb=>zAK _ hb
 have iX:(zCO "min"++zCO ".loop":String)="min.loop":=by decide
 have kK:∀{b:Addr},b∉S::wr->S≠b:=λ hb h=>hb (by rw[h];exact zAP)
 have aS:∀x o,h0.get? x=some o->x∉wr:=λ x o hx h=>hin x o hx (kQ _ h)
 refine zBR zBZ ?_;rw[zAx zAd _];show wpAny _ A.in1 (zDB (.ref S)>>=_) _ _ s;refine zAE (zB5 hS rfl ?_);show wpAny _ A.in1 (zC4 (zEA (.ref I)) _>>=_) _ _ s;refine zAE (zAt (W.item 0 s _ _ hn hst λ v s' hP0 hst' hm=>?_));have hP:vs[0]? =some v:=by simpa using hP0
 have hS':=hm.heap S _ hSw hS;have ht':∀b o,h0.get? b=some o->s'.heap.get? b=some o:=λ b o e=>hm.heap b o (aS b o e) (ht b o e)
 show wpAny _ A.in1 (zE0 S (λ _=>#[v,v])>>=_) _ _ _;refine zAE ?_;refine zBa hS' rfl ?_;rw[iX];refine zA1 ⟨zBS zAd _,aBT W S hSf C hin _ 0 _ v _ rfl (by omega) (W.frame _ s' _ s'.toks hst' (zAT _) λ b hbf o e=>?_) (λ x o e=>(zA6 _ _ (kK (hin x o e))).trans (ht' x o e)) hP (zCD _ hS' rfl) λ v' s'' hP' hm''=>?_⟩
 .exact(zA6 _ _ (λ h:S=b=>hSf (by rw[h];exact hbf))).trans e
 .exact hR v' s'' hP' (zDV W.gtrans ((hm.mono kQ).then_heap (by first|exact zAT _|exact zCG _|omega) λ b o hb e=>(zA6 _ _ (kK hb)).trans e) hm'')
def aAN(a:Value):zFb "min" ⟨[a],[]⟩:=by unfold zFb;kernel_rfl
def aBf{E:Value->zAC->Prop}{l:Addr}{Q:Value->zAC->Prop}(hh:A.handled=none)(hl:s.heap.IsList l vs.toArray)(hn:0<vs.length)(C:aIU s.heap A.in1 vs lt)
  (h:∀v h' tk,vs[zAq lt (vs.length-1)]? =some v->(∀b o,s.heap.get? b=some o->h'.get? b=some o)->Q v {s with heap:=h',toks:=tk}):
  wpAny (model prog w) A (call (.builtin "min") [.ref l] []) Q E s:=by
 have iX:(zCO "min"++zCO ".loop":String)="min.loop":=by decide
 have hlS:l<s.heap.objs.size:=by obtain⟨_,e,_⟩:=hl;exact zAX e
 refine j8 zFa zF4 zF3 (aAN _) ?_;show wpAny _ A.in1 (zBF "min" ["key","default"] 0 ⟨[],[]⟩>>=_) _ _ s;refine zAE (zGU (show zBF "min" ["key","default"] 0 ⟨[],[]⟩=pure [none,none]from rfl) ?_);refine zAE (zA1 ?_);refine zAE (zD7 hl ?_);refine zAE (zD6 ?_);rw[iX];have hsz:∀(o:Obj),(s.heap.push o).objs.size=s.heap.objs.size+1:=λ o=>zBf ..
 have pV:∀(o o':Obj) b ob,s.heap.get? b=some ob->((s.heap.push o).push o').get? b=some ob:=λ o o' b ob e=>zAF _ (zAF _ e)
 refine zA1 ⟨zBS zAd _,zZ (vs:=vs) (lt:=lt) (h0:=s.heap) ((zDh (A:=A.in1) hh s.heap.objs.size l (zA5 hlS) vs.toArray).toS) _ ?hSf C ?hin (by simpa using hn) ⟨⟨_,zAF _ (zAW _ rfl),rfl,rfl⟩,(hl.push _).push _⟩ (λ x o e=>pV _ _ _ _ e) (zAW _ rfl) ?hR⟩
 case hSf=>
  rw[hsz];simp only[zAV,zCA,or_false,not_or];exact⟨zCH (zBX _),zCH (zCP hlS)⟩
 case hin=>
  intro x o e
  have:=zAX e
  rw[hsz];simp only[zAV,zCA,or_false,not_or];exact⟨zA5 (zCP this),zA5 this⟩
 case hR=>
  intro v s' hv hm;obtain⟨h',g',d',tk',os'⟩:=s';have eg:g'=s.gens:=hm.gens;have ed:d'=s.drawn:=hm.drawn;have eo:os'=s.os:=hm.os;subst eg;subst ed;subst eo;refine h v h' tk' (by simpa using hv) λ b o e=>hm.heap b o ?_ (pV _ _ _ _ e)
  have hb:=zAX e;rw[hsz];simp only[zAV,zCA,or_false,not_or];exact⟨zA5 (zCP hb),zA5 hb⟩
end
section
variable{X:Cx}
def aBh(hc:X.calm=true)(hu:X.A.units+64<cLine):dN X (.builtin "min") (aGE X.K lsD):=by
 intro hV s Z H xs us Q I r h;obtain⟨p,vs,ds,A',rfl,hp,rs,hC,q⟩:=h;obtain⟨u,rfl,ru⟩:=vals1 r;cases ru;obtain⟨its,rv,pl,hz⟩:=I.list (SqL.of hp);have l1:vs.length=its.length:=rv.length;have l2:vs.length=ds.length:=rs.length;have h0:=hC.n0;refine aBf (lt:=ltI lsD ds) (I.ok.hd hc) pl.isList (by lia) (λ s' hk i j v u hi hj=>?_) λ v h' tk hv hk=>?_
 .obtain⟨x,ex,rx⟩:=eQ rv hi
  obtain⟨y,ey,ry⟩:=eQ rv hj;obtain⟨d,ed,rd⟩:=iw rs ex;obtain⟨e,ee,re⟩:=iw rs ey;have md:=zA0 ed;have me:=zA0 ee;obtain⟨z,hz⟩:=zC0.mp (hC.cm d md e me);have g:ltI lsD ds i j=z:=by
   unfold ltI;rw[zAQ,zAQ,ed,ee];simp[hz]
  have ok:=Inv.seqOk (I.kept (h':=s'.heap) (t':=s'.toks) hk);have ok':fB X.K H s':=⟨ok.tup,ok.lst,ok.inj,ok.ne⟩;rw[g];exact zb ok' d 40 rd re rx ry (zAi (jP md) hC.dp) (cM md hC.nd) (cM me hC.nd) (by show X.A.units+1+40<cLine;lia) hz
 .obtain⟨x,ex,rx⟩:=eQ rv hv
  exact⟨x,H,I.kept hk,rx,q x (by rw[l1];exact ex)⟩
end
section
variable{C:Ct}{pos p:Pos}{a:Expr}{ga:En->Rs (List D)}{m:Mode}
def aEP(hm:C.mg "min"=none)(ha:SA C m [a] ga)(he:∀i,zAS [a] (C.X i).env=[(false,eval a (C.X i).env)]:=by intro _;rfl)(hg:∀i,Gl (C.X i) "min":=by intro _;rfl)(hv:zAj "min"=some (.builtin "min"):=by decide+kernel):SE C (some []) (.Call (.Name "min" p) [a] [] pos) (opA (nZ lsD) ga):=
 eX (jK (λ i=>by have h:=aBh (X:=C.X i) (C.calm i) (C.u64 i);rw[C.hK i]at h;exact h) aF3 hg hm hv ha (by decide) (by decide) he) λ _ _ h=>j6 aDP h
end
theorem intsAre_of:∀{vs:List Value} {ns:List Int},vs.length=ns.length->(∀(i:Nat) v,vs[i]? =some v->∃t,v= .int (ns.getD i 0) t)->zBI vs ns
 |[],[],_,_=>.nil
 |[],_::_,h,_=>by cases h
 |_::_,[],h,_=>by cases h
 |v::vs,n::ns,h,hv=>by
  obtain⟨t,e⟩:=hv 0 v rfl;have e2:v= .int n t:=e;subst e2;exact .cons _ _ (intsAre_of (by simpa using h) λ i v e=>by
   obtain⟨t,e⟩:=hv (i+1) v (by simpa using e);exact⟨t,by simpa using e⟩)
end VL
namespace L2
open PySem PySem.Spec PyProof.Rows
section
variable{X:Cx}{hV:hZ}{Z:St}{H:Hp}{s:zAC}
structure aFi(X:Cx)(P:Addr):Prop where
 code:∃c,X.env.code= .ref c/\zEY X.base c P
 blt:X.base.BuiltinsAt X.mg P
 gne:zA4≠P
def aB2{P:Addr}{params:zCR}{body:Expr}{scope:Scope}{pos:Pos}{Q:Value->zAC->Prop}{E:Value->zAC->Prop}(Lx:aFi X P)(I:Inv X hV Z H s)(hT:H P=some (.tbl (X.env.qual++"<lambda>")))(hdef:zGe params X.env=([],[]))
  (hfree:∀y∈scope.names,y.2= .free->X.env.kindOf y.1=some .cell\/X.env.kindOf y.1=some .free)
  (h:∀(f c':Addr) (ctv:Value) (H':Hp) (s':zAC),Inv X hV Z H' s'->aQ H H'->aDo (X.env.qual++"<lambda>") params body scope (aq scope X.env) ((X.mg "__name__").getD .none) H' f c' ctv->Q (.ref f) s'):
  wpAny (model X.prog X.w) X.A (eval (.Lambda params body scope pos) X.env) Q E s:=by
 obtain⟨q,eq⟩:∃q,q=X.env.qual++"<lambda>":=⟨_,rfl⟩
 rw[<-eq]at hT h;obtain⟨c,hcode,hC⟩:=Lx.code;obtain⟨ps,hP,ht⟩:=I.hok P _ hT;have hcl:zEf scope X.env=pure (aq scope X.env):=jF λ y hy hk=>I.ok.has _ (hfree y hy hk)
 have hgs:s.heap.Ns zA4 X.mg:=by
  obtain⟨o,es,ep,e,r⟩:=I.ok.mod.glob;exact⟨o,es,ep,I.bk _ _ e,r⟩
 have hC':zEY s.heap c P:=hC.keeps I.bk;have hb:s.heap.BuiltinsAt X.mg P:=by
  obtain⟨bm,ob,b1,b2,b3,b4,b5,b6⟩:=Lx.blt;exact⟨bm,ob,b1,b2,b3,b4,I.bk _ _ b5,b6⟩
 refine PySem.W.kla_eval hdef ?_;rw[<-eq];cases hf:zEZ pos ps.toList with
 |some cv=>
  obtain⟨c',oc,rfl,hc',hco⟩:=ht.2 pos cv hf;refine PySem.W.kla_makeFunctionHit hcl I.ok.glob hgs hcode hC' hP ht.1 hf hb λ ctv h' tk k hsz=>?_
  have hfr:H h'.objs.size=none:=I.hok.fresh hsz;have sm:aQ H (upd H h'.objs.size (.frz (zCC "<lambda>" q params body scope (aq scope X.env) ((X.mg "__name__").getD .none) c' ctv) (.own h'.objs.size))):=λ b u e=>by rw[aW (bu e hfr)];exact e
  have I':=I.laid (h':=h'.push (zCC "<lambda>" q params body scope (aq scope X.env) ((X.mg "__name__").getD .none) c' ctv)) (t':=tk) (a:=h'.objs.size) (o:=.frz (zCC "<lambda>" q params body scope (aq scope X.env) ((X.mg "__name__").getD .none) c' ctv) (.own h'.objs.size)) (λ b u e=>zAF _ (k b u e)) hsz
   ⟨zAW _ rfl,_,zAW _ rfl⟩
  exact h _ c' ctv _ _ I' sm ⟨aa,oc,sm _ _ hc',hco⟩
 |none=>
  refine PySem.W.kla_makeFunction hcl I.ok.glob hgs hcode hC' hP ht.1 hf Lx.gne hb λ c' ctv h' tk hx hge hlt hrec htb=>?_
  obtain⟨c2,oc,vs,t,e2,hoc,hd,hv⟩:=hrec;cases e2;have hcn:H c'=none:=I.hok.fresh hge;have hfn:H h'.objs.size=none:=I.hok.fresh (zAi hge (zBd hlt));have neT:∀b u,H b=some u->b≠c':=λ b u e=>bu e hcn
  have sm:aQ H (upd H c' (.frz oc (.own c'))):=λ b u e=>by rw[aW (neT b u e)];exact e
  have nP:∀b,H b=none->b≠P:=λ b n z=>by rw[z,hT]at n;cases n
  have J:Inv X hV Z (upd H c' (.frz oc (.own c'))) {s with heap:=h',toks:=tk}:=by
   refine I.step (g':=s.gens) (d':=s.drawn) (ch:=[]) (λ b hb'=>nomatch hb') (λ b o _ _ _ e n=>hx b o (nP b n) e) (λ b o _ _ _ e n=>⟨o.slots,hx b o (nP b n) e⟩)
    (λ b o _ e n=>by rw[aW (zA5 (zAY (zAX e) hge))];exact n) (λ b o _ e=>?_)
    (λ b xs e=>sm _ _ e) (λ b o u e=>sm _ _ e) (λ b r e=>sm _ _ e) (λ m hm=>hm.extBut hx (nP _ I.free)) (λ b u e=>?_) I.bare
   .by_cases z:b=P
    .exact⟨_,by rw[z];exact htb⟩
    .exact⟨o,hx b o z e⟩
   .by_cases hbc:b=c'
    .subst hbc
     rw[aa]at e;cases e;exact⟨hoc,oc,hoc⟩
    .rw[aW hbc]at e
     by_cases z:b=P
     .subst z
      rw[hT]at e;cases e;refine⟨_,htb,?_,λ pos2 cv e=>?_⟩
      .rw[zFZ]
       exact TriplesOk_snoc _ _ _ _ ht.1
      .rw[zFZ]at e
       rcases uI _ ht.1 e with z|z
       .obtain⟨c2,oc2,z1,z2,z3⟩:=ht.2 pos2 cv z
        exact⟨c2,oc2,z1,sm _ _ z2,z3⟩
       .exact⟨c',oc,z,aa,vs,t,hd,hv⟩
     .refine(I.hok b u e).stay (λ d v hd' q=>hx d v ?_ q) (λ d q=>sm _ _ q) (λ d xs q=>sm _ _ q) λ d o2 u2 q=>sm _ _ q
      rcases hd' with z2|z2
      .rw[z2];exact z
      .exact λ z3=>by rw[z3,hT]at z2;cases z2
  have hfr:upd H c' (.frz oc (.own c')) h'.objs.size=none:=by rw[aW (zCH hlt)];exact hfn
  have sm2:aQ (upd H c' (.frz oc (.own c'))) (upd (upd H c' (.frz oc (.own c'))) h'.objs.size (.frz (zCC "<lambda>" q params body scope (aq scope X.env) ((X.mg "__name__").getD .none) c' ctv) (.own h'.objs.size))):=λ b u e=>by rw[aW (bu e hfr)];exact e
  have I2:=J.laid (h':=h'.push (zCC "<lambda>" q params body scope (aq scope X.env) ((X.mg "__name__").getD .none) c' ctv)) (t':=tk) (a:=h'.objs.size) (o:=.frz (zCC "<lambda>" q params body scope (aq scope X.env) ((X.mg "__name__").getD .none) c' ctv) (.own h'.objs.size)) (λ b u e=>zAF _ e) (zAT _)
   ⟨zAW _ rfl,_,zAW _ rfl⟩
  exact h _ c' ctv _ _ I2 (sm.trans sm2) ⟨aa,oc,sm2 _ _ aa,vs,t,hd,hv⟩
end
structure aJL(scope:Scope)(y:Str):Prop where
 kind:scope.kind= .function
 co:scope.isCoroutine=false
 gen:scope.isGenerator=false
 cell:∀z∈scope.names,z.2≠.cell
 free:∀z∈scope.names,z.2≠.free
 loc:scope.names.lookup y=some .local
def aFF{P:zAO}{w:World}{K:zAA}{mg:Str->Option Value}{base:Heap}{q y:Str}{params:zCR}{scope:Scope}{f c':Addr}{pm ctv:Value}{body:Expr}{k:Nat}{H1:Hp}{sp:Sp}
  (la:aDo q params body scope [] pm H1 f c' ctv)(S:aJL scope y)
  (len:∀vs H Q E,sp vs H Q E->vs.length=1/\aQ H1 H)
  (hbody:∀(A:zA3) (outer:List Env) (s:zAC) (H:Hp) (v:V) (Q:VK) (E:XK),fD k (A.deeper (zCY q scope s.heap.objs.size f (.ref c') []))->sp [v] H Q E->∃te,PE (cxL P w K mg base [y] q scope [] f (.ref c') A outer s H E) body te/\te [some v] H Q):
  bj P w K mg base (CX1 P w) (k+1) f (zDd "<lambda>" q params body scope [] pm (.ref c') ctv) [y] sp:=by
 refine⟨λ vs H Q E h=>(len vs H Q E h).1,λ A outer s H args us vs Q E hr e0 hb r hsp=>?_⟩;obtain⟨hvl,hsm⟩:=len _ _ _ _ hsp;obtain⟨v,rfl⟩:∃v,vs=[v]:=by
  cases vs with
  |nil=>cases hvl
  |cons v t=>
   cases t with
   |nil=>exact⟨v,rfl⟩
   |cons _ _=>simp at hvl
 obtain⟨u,rfl,ru⟩:=vals1 r;obtain⟨te,hpe,hte⟩:=hbody A outer s H v Q E (hr.deeper _) hsp;have dL:s.heap.NoLimit:=e0.mod.nolimit.keeps λ b o e=>(e0.bs b o e).1
 obtain⟨hf,oc,hc,hco⟩:=la;obtain⟨ho,_⟩:s.heap.get? f=some _/\_:=e0.hok f _ (hsm _ _ hf);obtain⟨hoc,_⟩:s.heap.get? c'=some oc/\_:=e0.hok c' _ (hsm _ _ hc);obtain⟨vs,t,hd,hv⟩:=hco;refine PySem.W.kla_callFunE hr.depth ho rfl S.co S.gen rfl ⟨c',oc,vs,t,rfl,hoc,hd,hv⟩ (hb _ _ _ _ ?_);refine wpAny_newFunctionEnv S.cell (λ z hz=>by
  have e:z=(y,u):=by simpa using hz
  rw[e];exact S.loc) (λ zD hns hsb=>?_) S.kind
 have hk₁:∀b o,s.heap.get? b=some o->zD.get? b=some o:=λ b o e=>hsb.extBut b o (zA5 (zAX e)) (zAF _ e)
 refine⟨dL.keeps hk₁,?_⟩;show zCI _ _ (.expr body (zCY q scope s.heap.objs.size f (.ref c') [])) _ _;have I:Inv (cxL P w K mg base [y] q scope [] f (.ref c') A outer s H E) [] [some v] H {s with heap:=zD,toks:=s.toks+(([y]:List Str).zip [u]).length}:=by
  refine⟨⟨e0.mod,S.kind,rfl,rfl,zAT _,λ x z c e=>(nomatch e),λ x hx=>?_,λ x c z=>absurd z zA8,λ _=>hr.hd,zFC e0.frames,.inr ⟨rfl,rfl⟩,λ b z=>(nomatch z),e0.bs,e0.bsz,λ b _ _=>λ z=>(nomatch z),λ b z=>(nomatch z),e0.funs,e0.frf⟩,
   rfl,e0.bare,Un.kept hk₁,⟨_,hns,λ i x v e1 e2 e3=>?_⟩,λ x c e=>(nomatch e),e0.hok.fresh (zAT _),λ x c e=>(nomatch e),λ p hp=>(nomatch hp),e0.hok.kept hk₁,rfl,λ p hp=>(nomatch hp)⟩
  .rcases hx with z|z
   .exact absurd rfl (S.cell _ (zAg z))
   .exact absurd rfl (S.free _ (zAg z))
  .cases i with
   |zero=>
    cases e1;cases e2;exact⟨u,ru,.inl ⟨S.loc,by simp⟩⟩
   |succ i=>cases e1
 refine PySem.W.kla_codeExpr (zBV (hpe [] _ [some v] H _ I hte) (λ u s' hq=>?_) λ e s' hq=>hq);obtain⟨v,H',J,rv,q⟩:=hq;exact⟨v,H',J.os,J.bare,J.base,J.hok,rv,q⟩
end L2
namespace VL
open PySem PySem.Spec PyProof.Rows L2
section
variable{X:Cx}{hV:hZ}{Z:L2.St}{H:Hp}{l It S q:Addr}{vs:List V}{lt:Nat->Nat->Bool}{KeyOk:Nat->V->Hp->Prop}{R:zDy->zAC->Prop}{kw:List (Str×Value)}
def aGS(X:Cx)(Z:L2.St)(H:Hp)(vs:List V)(KeyOk:Nat->V->Hp->Prop)(q:Addr):Prop:=∀(j:Nat) (v:V),vs[j]? =some v->∀(hV:hZ) (s:zAC) (H1:Hp) (u:Value),Inv X hV Z H1 s->aQ H H1->RelV v u->
 wpAny (model X.prog X.w) X.A.in1 (call (.ref q) [u]) (λ k s2=>∃kv H2,Inv X hV Z H2 s2/\aQ H1 H2/\RelV kv k/\KeyOk j kv H2) (λ _ _=>False) s
def aJN(X:Cx)(Z:L2.St)(H:Hp)(KeyOk:Nat->V->Hp->Prop)(lt:Nat->Nat->Bool):Prop:=∀(i j:Nat) (a b:V) (u v:Value) (hV:hZ) (s:zAC) (H1:Hp),Inv X hV Z H1 s->aQ H H1->KeyOk i a H1->KeyOk j b H1->RelV a u->RelV b v->aDn X.A.in1 s u v (lt i j)
def aG7{K:zAA}{H H':Hp}{a:Addr}{xs:List V}(h:SqL K H a xs)(s:aQ H H'):SqL K H' a xs:=by
 rcases h with (h|⟨o,h⟩)|h
 .exact .inl (.inl (s _ _ h))
 .exact .inl (.inr ⟨o,s _ _ h⟩)
 .exact .inr h
def aAH{X:Cx}{hV:hZ}{H H':Hp}{b:Addr}(f:j9 X hV H b)(n:H' b=none):j9 X hV H' b:=⟨n,f.2⟩
def gj{s:zAC}{h':Heap}{t':Nat}{b:Addr}(I:Inv X hV Z H s)(f:j9 X hV H b)(k:∀c o,c≠b->s.heap.get? c=some o->h'.get? c=some o):Inv X hV Z H {s with heap:=h',toks:=t'}:=
 I.turned k f.1 f.2.1 f.2.2.2.1 f.2.2.2.2.1 f.2.2.2.2.2
def uf{s:zAC}{h0 h':Heap}{t t':Nat}{b:Addr}(I:Inv X hV Z H {s with heap:=h0,toks:=t})(f:j9 X hV H b)(k:∀c o,c≠b->h0.get? c=some o->h'.get? c=some o):Inv X hV Z H {s with heap:=h',toks:=t'}:=gj (s:={s with heap:=h0,toks:=t}) I f k
def aBU(hh:X.A.handled=none)(hl:SqL X.K H l vs)(hlI:l≠It)(hSI:S≠It)(fI:j9 X hV H It)(fS:j9 X hV H S)(turn:aGS X Z H vs KeyOk q)(cmp:aJN X Z H KeyOk lt)(mono:∀i v H1 H2,KeyOk i v H1->aQ H1 H2->KeyOk i v H2)
  (fin:∀v u Hc sc,vs[zAq lt (vs.length-1)]? =some v->RelV v u->Inv X hV Z Hc sc->aQ H Hc->R (.ok (.ret u)) sc):
  ∀(r j:Nat) (s:zAC) (Hj:Hp) (vb kb:V) (ub wb:Value) (c:Nat),vs.length-(j+1)=r->j+1<=vs.length->Inv X hV Z Hj s->aQ H Hj->Hj It=none->Hj S=none->s.heap.IsListIter It l (j+1)->
   s.heap.get? S=some (zBW "list" #[ub,wb] c)->vs[zAq lt j]? =some vb->RelV vb ub->KeyOk (zAq lt j) kb Hj->RelV kb wb->
   zCI (model X.prog X.w) X.A (.builtin "min.loop" ⟨[.ref It,.ref q,.ref S],kw⟩) R s:=by
 have iX:(zCO "min"++zCO ".loop":String)="min.loop":=by decide
 intro r;induction r with
 |zero=>
  intro j s Hj vb kb ub wb c hr hj I sm nI nS hit hS hvb rb hkb rkb;obtain⟨its,rv,pl,hz⟩:=I.list (aG7 hl sm);have W:=zDh (prog:=X.prog) (w:=X.w) (A:=X.A.in1) hh It l hlI its.toArray;have hsz:its.toArray.size=vs.length:=by rw[zAI];exact rv.length.symm
  have hin:j+1=vs.length:=by omega
  refine zBR zBZ ?_;rw[zAx zAd _];show wpAny _ X.A.in1 (zDB (.ref S)>>=_) _ _ _;refine zAE (zB5 hS rfl ?_);show wpAny _ X.A.in1 (zC4 (zEA (.ref It)) _>>=_) _ _ _;refine zAE (zAt (W.done _ _ _ ⟨by rw[hsz,<-hin];exact hit,pl.isList⟩ λ h' tk' hk'=>?_));have I1:Inv X hV Z Hj {s with heap:=h',toks:=tk'}:=gj I (aAH fI nI) λ b o ne e=>hk' b o (by simpa using ne) e
  have hS':=hk' S _ (by simpa using hSI) hS;have s1:=zDY h' S (zBP λ _=>(#[]:Array Value));show wpAny _ X.A.in1 (zE0 S (λ _=>#[])>>=_) _ _ _;refine zAE ?_;refine zBa hS' rfl (zAE (zBo (zA1 ?_)));exact fin vb ub Hj _ (by rw[<-hin];exact hvb) rb (gj I1 (aAH fS nS) λ b o ne e=>(s1.2 b ne).trans e) sm
 |succ r ih=>
  intro j s Hj vb kb ub wb c hr hj I sm nI nS hit hS hvb rb hkb rkb;obtain⟨its,rv,pl,hz⟩:=I.list (aG7 hl sm);have W:=zDh (prog:=X.prog) (w:=X.w) (A:=X.A.in1) hh It l hlI its.toArray;have hsz:its.toArray.size=vs.length:=by rw[zAI];exact rv.length.symm
  have hlt:j+1<vs.length:=by omega
  refine zBR zBZ ?_;rw[zAx zAd _];show wpAny _ X.A.in1 (zDB (.ref S)>>=_) _ _ _;refine zAE (zB5 hS rfl ?_);show wpAny _ X.A.in1 (zC4 (zEA (.ref It)) _>>=_) _ _ _;refine zAE (zAt (W.item (j+1) _ _ _ (by rw[hsz];exact hlt) ⟨hit,pl.isList⟩ λ v h' tk' hP hst' hk'=>?_));have hv:its[j+1]? =some v:=by simpa using hP
  obtain⟨x,hx,rx⟩:=eQ rv hv;obtain⟨oI',hoI',hoc,hod⟩:=id hst'.1;have I1:Inv X hV Z Hj {s with heap:=h',toks:=tk'}:=gj I (aAH fI nI) λ b o ne e=>hk' b o (by simpa using ne) e
  have hS':h'.get? S=some (zBW "list" #[ub,wb] c):=hk' S _ (by simpa using hSI) hS;have I2:=I1.pinned (fp:=[It,S]) (λ b hb=>by
   rcases zAV.mp hb with z|z
   .rw[z];exact aAH fI nI
   .rw[zA7.mp z];exact aAH fS nS) (λ b hb=>by
   rcases zAV.mp hb with z|z
   .rw[z];exact⟨oI',hoI',λ w z=>by rw[hod]at z;cases z⟩
   .rw[zA7.mp z];exact⟨_,hS',λ w z=>by cases z⟩)
  show wpAny _ X.A.in1 (zC4 (zCU [v] (call (.ref q) [v])) _>>=_) _ _ _;refine zAE (zAt (zBT (zBV (turn (j+1) x hx _ _ Hj v I2 sm rx) (λ k s2 he=>?_) λ _ _ hF=>hF.elim)));obtain⟨kv,H2,I3,sm2,rk,hk2⟩:=he;have pI:=I3.pin (It,oI') (zAR _ (zAR _ (dq (by simp) hoI')));have pS:=I3.pin (S,zBW "list" #[ub,wb] c) (zAR _ (zAR _ (dq (by simp) hS')));have I4:=I3.unpinned;have hkb2:=mono _ _ _ _ hkb sm2;have hit2:s2.heap.IsListIter It l (j+1+1):=⟨oI',pI.1,hoc,hod⟩;show wpAny _ X.A.in1 (zC4 (zCU [v,k] (zDR .Lt k wb>>=_)) _>>=_) _ _ _;refine zAE (zAt (zBT (zAE (cmp (j+1) (zAq lt j) kv kb k wb _ _ H2 I4 (sm.trans sm2) hk2 hkb2 rk rkb _ _ _ _ ?_))));refine zAE (zBT (zB7 ?_));refine zAE (zBo (zA1 ?_));cases hb:lt (j+1) (zAq lt j)with
  |true=>
   have s1:=zDY s2.heap S (zBP λ _=>#[v,k]);obtain⟨c2,hc2⟩:∃c2,(s2.heap.update S (zBP λ _=>#[v,k])).get? S=some (zBW "list" #[v,k] c2):=⟨_,zDQ pS.1 λ _=>#[v,k]⟩
   simp only[if_true];refine zAE ?_;refine zBa pS.1 rfl (zAE (zBo ?_));rw[iX];refine zA1 ⟨zBS zAd _,ih (j+1) _ H2 x kv v k c2 (by omega) hlt (gj I4 (aAH fS pS.2.1) λ b o ne e=>(s1.2 b ne).trans e) (sm.trans sm2) pI.2.1 pS.2.1 ⟨oI',(s1.2 It hSI.symm).trans pI.1,hoc,hod⟩ hc2 ?_ rx ?_ rk⟩
   .simp only[zAq,hb,if_true];exact hx
   .simp only[zAq,hb,if_true];exact hk2
  |false=>
   simp only[zBD,if_false];refine zAE (zBo ?_);rw[iX];refine zA1 ⟨zBS zAd _,ih (j+1) _ H2 vb kb ub wb c (by omega) hlt I4 (sm.trans sm2) pI.2.1 pS.2.1 hit2 pS.1 ?_ rb ?_ rkb⟩
   .simp only[zAq,hb,zBD,if_false];exact hvb
   .simp only[zAq,hb,zBD,if_false];exact hkb2
def yX(a k d:Value):zFb "min" ⟨[a],[("key",k),("default",d)]⟩:=by unfold zFb;kernel_rfl
def yS{s:zAC}{Q:Value->zAC->Prop}{E:Value->zAC->Prop}{dv:Value}(hh:X.A.handled=none)(I:Inv X hV Z H s)(hl:SqL X.K H l vs)(turn:aGS X Z H vs KeyOk q)(cmp:aJN X Z H KeyOk lt)(mono:∀i v H1 H2,KeyOk i v H1->aQ H1 H2->KeyOk i v H2)
  (h0:vs.length=0->∀sc,Inv X hV Z H sc->Q dv sc)(fin:0<vs.length->∀v u Hc sc,vs[zAq lt (vs.length-1)]? =some v->RelV v u->Inv X hV Z Hc sc->aQ H Hc->Q u sc):
  wpAny (model X.prog X.w) X.A (call (.builtin "min") [.ref l] [("key",.ref q),("default",dv)]) Q E s:=by
 have iX:(zCO "min"++zCO ".loop":String)="min.loop":=by decide
 obtain⟨its,rv,pl,hz⟩:=I.list hl;have hlS:l<s.heap.objs.size:=by obtain⟨_,e,_⟩:=pl.isList;exact zAX e
 refine j8 zFa zF4 zF3 (yX _ _ _) ?_;show wpAny _ X.A.in1 (zBF "min" ["key","default"] 0 ⟨[],[("key",.ref q),("default",dv)]⟩>>=_) _ _ s;refine zAE (zGU (show zBF "min" ["key","default"] 0 ⟨[],[("key",.ref q),("default",dv)]⟩=pure [some (.ref q),some dv]from rfl) ?_);refine zAE (zA1 ?_);refine zAE (zD7 pl.isList ?_);refine zAE (zD6 ?_);rw[iX];have hsz:∀(o:Obj),(s.heap.push o).objs.size=s.heap.objs.size+1:=λ o=>zBf ..
 have pV:∀(o o':Obj) b ob,s.heap.get? b=some ob->((s.heap.push o).push o').get? b=some ob:=λ o o' b ob e=>zAF _ (zAF _ e)
 obtain⟨It,eI⟩:∃It,It=s.heap.objs.size:=⟨_,rfl⟩
 obtain⟨S,eS⟩:∃S,S=(s.heap.push {cls:=.type "list_iterator",data:=.fields #[.ref l,.int 0 0]}).objs.size:=⟨_,rfl⟩
 have eS2:S=s.heap.objs.size+1:=by rw[eS,hsz]
 rw[<-eI,<-eS];have hlI:l≠It:=by rw[eI];exact zA5 hlS
 have hSI:S≠It:=by rw[eS2,eI];exact zCH (zBX _)
 have nI:H It=none:=I.hok.fresh (by rw[eI];exact zAT _);have nS:H S=none:=I.hok.fresh (by rw[eS2];exact zCG _);have fI:j9 X hV H It:=I.fpOk (by rw[eI];exact zAT _) nI;have fS:j9 X hV H S:=I.fpOk (by rw[eS2];exact zCG _) nS;have gI:((s.heap.push {cls:=.type "list_iterator",data:=.fields #[.ref l,.int 0 0]}).push (zBW "list" #[] 0)).get? It=some {cls:=.type "list_iterator",data:=.fields #[.ref l,.int 0 0]}:=by
  rw[eI];exact zAF _ (zAW _ rfl)
 have gS:((s.heap.push {cls:=.type "list_iterator",data:=.fields #[.ref l,.int 0 0]}).push (zBW "list" #[] 0)).get? S=some (zBW "list" #[] 0):=by
  rw[eS];exact zAW _ rfl
 have I0:∀tk,Inv X hV Z H {s with heap:=(s.heap.push {cls:=.type "list_iterator",data:=.fields #[.ref l,.int 0 0]}).push (zBW "list" #[] 0),toks:=tk}:=λ tk=>I.kept (pV _ _)
 have pl0:Heap.IsList ((s.heap.push {cls:=.type "list_iterator",data:=.fields #[.ref l,.int 0 0]}).push (zBW "list" #[] 0)) l its.toArray:=(pl.isList.push _).push _;have W:=zDh (prog:=X.prog) (w:=X.w) (A:=X.A.in1) hh It l hlI its.toArray;have hz2:its.toArray.size=vs.length:=by rw[zAI];exact rv.length.symm
 refine zA1 ⟨zBS zAd _,?_⟩;refine zBR zBZ ?_;rw[zAx zAd _];show wpAny _ X.A.in1 (zDB (.ref S)>>=_) _ _ _;refine zAE (zB5 gS rfl ?_);show wpAny _ X.A.in1 (zC4 (zEA (.ref It)) _>>=_) _ _ _;by_cases hn:vs.length=0
 .refine zAE (zAt (W.done _ _ _ ⟨by rw[hz2,hn];exact⟨_,gI,rfl,rfl⟩,pl0⟩ λ h' tk' hk'=>?_))
  show wpAny _ X.A.in1 (rule _>>=_) _ _ _;refine zAE (wpAny_rule (zA1 ?_));exact h0 hn _ (uf (I0 s.toks) fI λ b o ne e=>hk' b o (by simpa using ne) e)
 .refine zAE (zAt (W.item 0 _ _ _ (by rw[hz2];omega) ⟨⟨_,gI,rfl,rfl⟩,pl0⟩ λ v h' tk' hP hst' hk'=>?_))
  have hv:its[0]? =some v:=by simpa using hP
  obtain⟨x,hx,rx⟩:=eQ rv hv;obtain⟨oI',hoI',hoc,hod⟩:=id hst'.1;have I1:Inv X hV Z H {s with heap:=h',toks:=tk'}:=uf (I0 s.toks) fI λ b o ne e=>hk' b o (by simpa using ne) e
  have hS':h'.get? S=some (zBW "list" #[] 0):=hk' S _ (by simpa using hSI) gS;have I2:=I1.pinned (fp:=[It,S]) (λ b hb=>by
   rcases zAV.mp hb with z|z
   .rw[z];exact fI
   .rw[zA7.mp z];exact fS) (λ b hb=>by
   rcases zAV.mp hb with z|z
   .rw[z];exact⟨oI',hoI',λ w z=>by rw[hod]at z;cases z⟩
   .rw[zA7.mp z];exact⟨_,hS',λ w z=>by cases z⟩)
  show wpAny _ X.A.in1 (zC4 (zCU [v] (call (.ref q) [v])) _>>=_) _ _ _;refine zAE (zAt (zBT (zBV (turn 0 x hx _ _ H v I2 (aQ.refl H) rx) (λ k s2 he=>?_) λ _ _ hF=>hF.elim)));obtain⟨kv,H2,I3,sm2,rk,hk2⟩:=he;have pI:=I3.pin (It,oI') (zAR _ (zAR _ (dq (by simp) hoI')));have pS:=I3.pin (S,zBW "list" #[] 0) (zAR _ (zAR _ (dq (by simp) hS')));have I4:=I3.unpinned;have s1:=zDY s2.heap S (zBP λ _=>#[v,k]);obtain⟨c2,hc2⟩:∃c2,(s2.heap.update S (zBP λ _=>#[v,k])).get? S=some (zBW "list" #[v,k] c2):=⟨_,zDQ pS.1 λ _=>#[v,k]⟩
  show wpAny _ X.A.in1 (zE0 S (λ _=>#[v,k])>>=_) _ _ _;refine zAE ?_;refine zBa pS.1 rfl ?_;rw[iX];refine zA1 ⟨zBS zAd _,aBU hh hl hlI hSI fI fS turn cmp mono (λ v u Hc sc h1 h2 h3 h4=>?_) _ 0 _ H2 x kv v k c2 rfl (by omega) (gj I4 (aAH fS pS.2.1) λ b o ne e=>(s1.2 b ne).trans e) sm2 pI.2.1 pS.2.1 ⟨oI',(s1.2 It hSI.symm).trans pI.1,hoc,hod⟩ hc2 hx rx hk2 rk⟩;exact fin (by omega) v u Hc sc h1 h2 h3 h4
end
def keysOf(fe:En->Rs D):List D->Option (List D)
 |[]=>some []
 |d::l=>match fe [.sh d],keysOf fe l with
  | .ok k,some ks=>some (k::ks)
  |_,_=>none
theorem uc{fe:En->Rs D}:∀{l ks:List D} {j:Nat} {d:D},keysOf fe l=some ks->l[j]? =some d->∃k,ks[j]? =some k/\fe [.sh d]= .ok k
 |d::l,ks,j,e,h,hj=>by
  unfold keysOf at h;split at h
  .rename_i k ks' h1 h2
   cases h;cases j with
   |zero=>cases hj;exact⟨k,rfl,h1⟩
   |succ j=>exact uc (j:=j) h2 (by simpa using hj)
  .cases h
structure aDu(ks:List D):Prop where
 nd:aX ks=true
 dp:bQ ks<=40
 cm:∀x∈ks,∀y∈ks,(lsD x y).isSome=true
instance:Decidable (aDu ks):=if h:aX ks=true/\bQ ks<=40/\∀x∈ks,∀y∈ks,(lsD x y).isSome=true then .isTrue ⟨h.1,h.2.1,h.2.2⟩else .isFalse λ z=>h ⟨z.nd,z.dp,z.cm⟩
def xf(dd:D)(l ks:List D):D:=if l.length=0 then dd else l.getD (zAq (ltI lsD ks) (l.length-1)) .non
def aFA(ga:En->Rs (List D))(fe fd:En->Rs D):En->Rs D:=λ Y=>(ga Y).bd λ ds=>match ds with
 |[.lst l]=>(match keysOf fe l with
  |some ks=>if fM l=true/\aDu ks then(fd Y).bd λ dd=>if imm dd=true then .ok (xf dd l ks)else .st else .st
  |none=>.st)
 |_=>.st
def aAU(P:Addr)(q:Str)(params:zCR)(body:Expr)(scope:Scope)(pm:Value):TE:=λ Z H Q=>H P=some (.tbl q)/\∀f c' ctv H',aQ H H'->aDo q params body scope [] pm H' f c' ctv->Q (.ref f) H'
def aEg{X:Cx}{P:Addr}{q:Str}{params:zCR}{body:Expr}{scope:Scope}{pos:Pos}{pm:Value}(Lx:aFi X P)(hq:X.env.qual++"<lambda>"=q)(hpm:(X.mg "__name__").getD .none=pm)(hcl:L2.aq scope X.env=[])(hdef:zGe params X.env=([],[]))
  (hfree:∀y∈scope.names,y.2≠.free):PE X (.Lambda params body scope pos) (aAU P q params body scope pm):=λ hV s Z H Q I h=>by
 subst hq hpm;exact aB2 Lx I h.1 hdef (λ y hy e=>absurd e (hfree y hy)) λ f c' ctv H' s' I' sm l=>⟨.ref f,H',I',rfl,h.2 f c' ctv H' sm (by rw[<-hcl];exact l)⟩
def aJM(K:zAA)(ks:List D)(j:Nat)(v:V)(H:Hp):Prop:=∃d,ks[j]? =some d/\Rp K (λ _=>True) H v d
def MkP(P:zAO)(w:World)(K:zAA)(mg:Str->Option Value)(q y:Str)(params:zCR)(body:Expr)(scope:Scope)(pm:Value)(k:Nat)(xs:List V)(ks:List D)(H1:Hp)(Q:VK):List V->Hp->Prop:=λ zs H3=>∃f c' ctv dv,zs=[.ref f,dv]/\aQ H1 H3/\
 ∃sp:Sp,(∀base,bj P w K mg base (CX1 P w) k f (zDd "<lambda>" q params body scope [] pm (.ref c') ctv) [y] sp)/\
  (∀(j:Nat) (v:V),xs[j]? =some v->∀H4,aQ H3 H4->sp [v] H4 (λ kv H5=>aQ H4 H5/\aJM K ks j kv H5) (λ _ _ _=>False))/\
  (xs.length=0->Q dv H3)/\(0<xs.length->∀v Hc,xs[zAq (ltI lsD ks) (xs.length-1)]? =some v->aQ H3 Hc->Q v Hc)
def aAT(P:zAO)(w:World)(K:zAA)(mg:Str->Option Value)(Pt:Addr)(q y:Str)(params:zCR)(body:Expr)(scope:Scope)(pm:Value)(k:Nat)(ta:TA)(td:TE):TE:=λ Z H Q=>ta Z H λ vs H1=>∃p xs ks,vs=[.ref p]/\SqL K H1 p xs/\aDu ks/\
 eU (aAU Pt q params body scope pm) (eU td lr) Z H1 (MkP P w K mg q y params body scope pm k xs ks H1 Q)
section
variable{X:Cx}{P:Addr}{q y:Str}{params:zCR}{body ed e:Expr}{scope:Scope}{pos p lpos kp kp2:Pos}{pm:Value}{ta:TA}{td:TE}{k:Nat}
def aBN(hc:X.calm=true)(hr:fD (k+1) X.A)(hg:Gl X "min")(hm:X.mg "min"=none)(hv:zAj "min"=some (.builtin "min"))(ha:PA X [e] ta)(hd:PE X ed td)(hl:PE X (.Lambda params body scope lpos) (aAU P q params body scope pm))(he:zAS [e] X.env=[(false,eval e X.env)])
  (hbnd:∀pm c' ctv u,zFi (zDd "<lambda>" q params body scope [] pm (.ref c') ctv) ⟨[u],[]⟩=pure [(y,u)]):
  PE X (.Call (.Name "min" p) [e] [⟨some "key",.Lambda params body scope lpos,kp⟩,⟨some "default",ed,kp2⟩] pos) (aAT X.prog X.w X.K X.mg P q y params body scope pm k ta td):=by
 intro hV s Z H Q I h;refine zCi (mU I hg hm hv ?_ (by decide) (by decide));refine callWith_kw (thn (ha pos hV s Z H _ I h) λ us s1 ⟨vs,H1,I1,r,pa,xs,ks,ev,hxs,hck,hlam⟩=>?_) (by unfold zBg;rw[he];rfl) (by unfold zBg;rw[he];rfl) rfl rfl;subst ev;have hkw:PK X [⟨some "key",.Lambda params body scope lpos,kp⟩,⟨some "default",ed,kp2⟩] (eU (aAU P q params body scope pm) (eU td lr)):=vd hl (vd hd aCc);refine thn (hkw pos hV s1 Z H1 _ I1 hlam) λ ws s2 ⟨zs,H3,I3,rz,f,c',ctv,dv,ez,sm,sp,F,hsp,q0,q1⟩=>?_
 subst ez;obtain⟨u,rfl,ru⟩:=vals1 r;cases ru;obtain⟨w1,w2,rfl,r1,r2⟩:∃w1 w2,ws=[w1,w2]/\RelV (.ref f) w1/\RelV dv w2:=by
  cases rz with
  |cons a r'=>cases r' with
   |cons b r''=>cases r'';exact⟨_,_,rfl,a,b⟩
 cases r1;refine yS (lt:=ltI lsD ks) (KeyOk:=aJM X.K ks) (I.ok.hd hc) I3 (aG7 hxs sm) (λ j v hj pins' s' H4 u I4 sm4 rv=>?_) (λ i j a b u v pins' s' H4 I4 sm4 ki kj ra rb=>?_) (λ i v Ha Hb ⟨d,e,rd⟩ s=>⟨d,e,rd.up s⟩) (λ h0 sc Ic=>⟨dv,H3,Ic,r2,q0 h0⟩) λ h0 v u Hc sc hv rv Ic smc=>⟨v,Hc,Ic,rv,q1 h0 v Hc hv smc⟩
 .refine zGj (zEl ((F X.base).run X.A.in1 X.stack s' H4 ⟨[u],[]⟩ [u] [v] _ _ hr.in1 I4.env0.in1 (.of_eq (hbnd _ _ _ _)) (.cons rv .nil) (hsp j v hj H4 sm4)) λ r s'' hq=>?_)
  cases r with
  |error e=>
   obtain⟨_,_,_,_,_,_,_,_,_,_,_,_,_,z⟩:=hq;exact z
  |ok fl=>
   cases fl with
   |ret u=>
    obtain⟨kv,H5,I5,rk,s5,hk⟩:=I4.after hq;exact⟨kv,H5,I5,s5,rk,hk⟩
   |next=>exact zAH hq
   |brk=>exact zAH hq
   |cont=>exact zAH hq
 .obtain⟨d,ed,rd⟩:=ki
  obtain⟨e',ee,re⟩:=kj;have md:=zA0 ed;have me:=zA0 ee;obtain⟨z,hz⟩:=zC0.mp (hck.cm d md e' me);have g:ltI lsD ks i j=z:=by
   unfold ltI;rw[zAQ,zAQ,ed,ee];simp[hz]
  rw[g];exact zb (Inv.seqOk I4) d 40 rd re ra rb (zAi (jP md) hck.dp) (cM md hck.nd) (cM me hck.nd) (by have:=hr.un;show X.A.units+1+40<cLine;lia) hz
end
section
variable{C:Ct}{P:Addr}{q y:Str}{params:zCR}{body ed a:Expr}{scope:Scope}{pos p lpos kp kp2:Pos}{ga:En->Rs (List D)}{fe fd:En->Rs D}{m md mb:Mode}{k:Nat}
def aI7(K:zAA)(cl:Str->Addr)(H1:Hp)(fe:En->Rs D):Sp:=λ vs H Q E=>∃v d,vs=[v]/\aQ H1 H/\Rp K (λ _=>True) H v d/\WR ⟨H,E,cl⟩ (fe [.sh d]) (λ d'=>∀v' H',aQ H H'->Rp K (λ _=>True) H' v' d'->Q v' H')
def aBH(hT:C.G.H0 P=some (.tbl q))(hL:∀i,aFi (C.X i) P)(hk:k+2<=C.k)(hm:C.mg "min"=none)(ha:SA C m [a] ga)(hd:SE C md ed fd)(S:aJL scope y)
  (hbody:∀base f cd A outer s H E hr,SE (ctL C.prog C.w C.K C.mg base [y] q scope [] f cd A outer s H E k hr) mb body fe)
  (hq:∀i,(C.X i).env.qual++"<lambda>"=q:=by intro _;rfl)(hcl:∀i,L2.aq scope (C.X i).env=[]:=by intro _;rfl)(hdef:∀i,zGe params (C.X i).env=([],[]):=by intro _;rfl)
  (hbnd:∀pm c' ctv u,zFi (zDd "<lambda>" q params body scope [] pm (.ref c') ctv) ⟨[u],[]⟩=pure [(y,u)]:=by intro _ _ _ _;rfl)
  (he:∀i,zAS [a] (C.X i).env=[(false,eval a (C.X i).env)]:=by intro _;rfl)(hg:∀i,Gl (C.X i) "min":=by intro _;rfl)(hv:zAj "min"=some (.builtin "min"):=by decide+kernel):
  SE C (some []) (.Call (.Name "min" p) [a] [⟨some "key",.Lambda params body scope lpos,kp⟩,⟨some "default",ed,kp2⟩] pos) (aFA ga fe fd):=by
 obtain⟨ta,a1,a2⟩:=ha;obtain⟨td,d1,d2⟩:=hd;refine⟨aAT C.prog C.w C.K C.mg P q y params body scope ((C.mg "__name__").getD .none) (k+1) ta td,λ i=>?_,λ τ Z H Y lab Q R W=>?_⟩
 .obtain⟨e1,e2,e3,e4,e5⟩:=C.cx i
  have:=aBN (k:=k+1) (p:=p) (kp:=kp) (kp2:=kp2) (pos:=pos) (y:=y) (C.calm i) ((C.room i).mono (by lia)) (hg i) (by rw[e4];exact hm) hv (a1 i) (d1 i) (aEg (pos:=lpos) (hL i) (hq i) (by rw[e4]) (hcl i) (hdef i) S.free) (he i) hbnd
  rw[e1,e2,e3,e4]at this;exact this
 .refine a2 τ Z H Y lab _ R (W.bd.imp λ ds hga w vs H1 s1 r1=>?_)
  split at w
  .rename_i l
   cases hks:keysOf fe l with
   |none=>rw[hks]at w;exact zAH w
   |some ks=>
    rw[hks]at w;dsimp only at w;by_cases hc:fM l=true/\aDu ks
    .rw[if_pos hc]at w
     cases r1 with
     |cons hr r'=>
      cases r';obtain⟨pa,xs,rfl,hp,mm,rs⟩:=hr.lst_inv;refine⟨pa,xs,ks,rfl,SqL.of hp,hc.2,⟨s1 _ _ (R.old _ _ hT),λ f c' ctv H2 sm2 la=>d2 τ Z H2 Y lab _ (R.up (s1.trans sm2)) (w.bd.imp λ dd _ w4 dv H3 s3 rd=>?_)⟩⟩;by_cases hdd:imm dd=true
      .rw[if_pos hdd]at w4
       have at_:∀(j:Nat) (v:V),xs[j]? =some v->∃d,l[j]? =some d/\∀A' H4,aQ H1 H4->Rp C.K A' H4 v d:=λ j v hj=>by
        obtain⟨d,ed,rd⟩:=iw rs hj;exact⟨d,ed,λ A' H4 s4=>(rd.imm (yJ hc.1 (zA0 ed))).up s4⟩
       refine⟨f,c',ctv,dv,rfl,sm2.trans s3,aI7 C.K (aq C.mg) H2 fe,λ base=>?_,λ j v hj H4 s4=>?_,λ h0=>?_,λ h0 v Hc hv sc=>?_⟩
       .refine aFF la S (λ vs H Q E ⟨v,d,ev,s,_⟩=>⟨by rw[ev];rfl,s⟩) λ A outer s H2' v Q2 E2 hr2 ⟨v',d,ev,sm,rd,wr⟩=>?_
        cases ev;obtain⟨t,h1,h2⟩:=hbody base f (.ref c') A outer s H2' E2 hr2;exact⟨t,h1 (),h2 [] [some v] H2' [.sh d] (λ _=>(0,0)) Q2 (RR.start (N:=[y]) (ds:=[d]) (vs:=[v]) (.cons rd .nil)) (wr.imp λ d' _ z v' H' s' r'=>z v' H' s' (r'.wk λ _ _ _ _=>trivial))⟩
       .obtain⟨d,ed,rd⟩:=at_ j v hj
        obtain⟨kd,hk1,hk2⟩:=uc hks ed;refine⟨v,d,rfl,s3.trans s4,rd _ H4 (sm2.trans (s3.trans s4)),?_⟩;rw[hk2];exact λ v' H' s' r'=>⟨s',kd,hk1,r'⟩
       .have e:xf dd l ks=dd:=by unfold xf;rw[if_pos (by rw[<-rs.length];exact h0)]
        rw[e]at w4;exact w4 dv H3 (s1.trans (sm2.trans s3)) (rd.imm hdd)
       .obtain⟨d,ed,rd⟩:=at_ _ v hv
        have e:xf dd l ks=d:=by
         unfold xf;rw[if_neg (by rw[<-rs.length];lia),<-rs.length,zAQ,ed];rfl
        rw[e]at w4;exact w4 v Hc (s1.trans (sm2.trans (s3.trans sc))) (rd _ Hc (sm2.trans (s3.trans sc)))
      .rw[if_neg hdd]at w4;exact zAH w4
    .rw[if_neg hc]at w;exact zAH w
  .exact zAH w
end
def zq(K:zAA)(x:Str)(Pt:Addr):Bool:=match zAs K zA4 x with
 |some (some (.ref f))=>(match K.lookup f with
  |some ⟨_,_,.func fd,_⟩=>(match fd.code with| .ref c=>zB4 K c Pt|_=>false)
  |_=>false)&&(K.lookup Pt).isNone
 |_=>false
def aB1{K:zAA}{h:Heap}{mg:Str->Option Value}{fa Pt:Addr}{x:Str}(X:K.In h)(G:h.Ns zA4 mg)(hm:mg x=some (.ref fa))(e:zq K x Pt=true)
  {o:Obj}{fd:zAa}(lk:K.lookup fa=some o)(hd:o.data= .func fd):K.lookup Pt=none/\∃c,fd.code= .ref c/\zB4 K c Pt=true:=by
 unfold zq at e;split at e
 .rename_i f hf
  have e1:=(zBn X G hf).symm.trans hm;cases e1;rw[zAU]at e;refine⟨by simpa using e.2,?_⟩;have e2:=e.1;rw[lk]at e2;split at e2
  .rename_i fd' _ q
   have q2:=zAb q;rw[q2]at hd;have hd2:Data.func fd'=Data.func fd:=hd;cases hd2;split at e2
   .rename_i c hc
    exact⟨c,hc,e2⟩
   .cases e2
  .cases e2
 .cases e
def spT(K:zAA)(cl:Str->Addr)(n:Nat)(F:List D->Rs D)(Pt:Addr)(r:Str):Sp:=λ vs H Q E=>H Pt=some (.tbl r)/\spF K cl n F vs H Q E
def aDs(K:zAA)(fd:zAa)(Pt:Addr):Prop:=∃c,fd.code= .ref c/\zB4 K c Pt=true
structure aIM(K:zAA)(base:Heap)(mg:Str->Option Value)(fd:zAa)(Pt:Addr):Prop where
 k:K.In base
 b:base.BuiltinsAt mg Pt
 g:zA4≠Pt
 d:aDs K fd Pt
section
variable{P:zAO}{w:World}{K:zAA}{mg:Str->Option Value}{base:Heap}{q r:Str}{st:Stmt}{ps N:List Str}{fn Pt:Addr}{fd:zAa}{k n:Nat}{f:En->Ou}{FF:List D->Rs D}
def xK{t:TS}{G:Gx}{H:Hp}{vs:List V}{ds:List D}{Q:VK}{E:XK}(h2:aIO K ⟨H,E,aq mg⟩ t f)(rr:Rps K (λ _=>True) H vs ds)(W:WR ⟨H,E,aq mg⟩ (dU N.length f ds) (λ d=>∀v H',aQ H H'->Rp K (λ p=>H p=none) H' v d->Q v H')):t {nx:=λ _ H'=>Q .non H',rt:=Q} (start N vs) H:=by
 refine h2 [] _ H _ _ _ (RR.start rr) ?_;unfold dU at W;cases e:f (ao N.length ds)with
 |nx Y=>rw[e]at W;exact λ Z' H' lab R=>W .non H' R.old .non
 |rt d=>rw[e]at W;exact λ v H' s r=>W v H' s r
 |ex c=>rw[e]at W;exact W
 |bk Y=>rw[e]at W;exact zAH W
 |ct Y=>rw[e]at W;exact zAH W
 |st=>rw[e]at W;exact zAH W
def aAs(D:Dnr K mg q st ps fn fd)(S:aY N ps (aM st))(hb:N.Nodup->∀cdv A outer s H E hr,H Pt=some (.tbl r)->SSs (ctD P w K mg base N q (aM st) fn cdv A outer s H E k hr) (dh st) f)(hn:ps.length=n:=by rfl)(hF:dU N.length f=FF:=by rfl):
  bj P w K mg base (CX1 P w) (k+1) fn fd ps (spT K (aq mg) n FF Pt r):=by
 subst hn hF;refine D.F.okX S (λ vs H Q E ⟨_,ds,hl,_⟩=>hl) λ cdv A outer s H vs Q E hr ⟨hT,ds,hl,rr,W⟩=>?_
 obtain⟨t,h1,h2⟩:=hb S.nd cdv A outer s H E hr hT;exact⟨t,h1 (),xK (G:=⟨H,E,aq mg⟩) h2 rr W⟩
def aFX(D:Dnr K mg q st ps fn fd)(hD:aDs K fd Pt)(hK:K.In base)(hB:base.BuiltinsAt mg Pt)(hg:zA4≠Pt)(S:aY N ps (aM st))(hb:N.Nodup->∀c A outer s H E hr,H Pt=some (.tbl r)->(∀i,aFi ((ctD P w K mg base N q (aM st) fn (.ref c) A outer s H E k hr).X i) Pt)->SSs (ctD P w K mg base N q (aM st) fn (.ref c) A outer s H E k hr) (dh st) f)(hn:ps.length=n:=by rfl)(hF:dU N.length f=FF:=by rfl):
  bj P w K mg base (CX1 P w) (k+1) fn fd ps (spT K (aq mg) n FF Pt r):=by
 subst hn hF;obtain⟨oc,od,kV,doc,pm,an,cdv,ct,osl,rfl,lk,hcd⟩:=D.F.ex;obtain⟨c,hc,hC⟩:=hD;obtain rfl:cdv= .ref c:=hc;refine aGM lk hcd S (λ vs H Q E ⟨_,ds,hl,_⟩=>hl) λ A outer s H vs Q E hr ⟨hT,ds,hl,rr,W⟩=>?_
 obtain⟨t,h1,h2⟩:=hb S.nd c A outer s H E hr hT λ _=>⟨⟨c,rfl,zFF hK hC⟩,hB,hg⟩
 exact⟨t,h1 (),xK (G:=⟨H,E,aq mg⟩) h2 rr W⟩
end
section
variable{C:Ct}{x:Str}{e:Expr}{es:List Expr}{p pos:Pos}{ga:En->Rs (List D)}{F:List D->Rs D}{m:Mode}{k n:Nat}{fn Pt:Addr}{fd:zAa}{ps:List Str}{st:Stmt}{r:Str}
def qe(hT:C.G.H0 Pt=some (.tbl r))(hF:bj C.prog C.w C.K C.mg C.base (CX1 C.prog C.w) k fn fd ps (spT C.K C.G.cl n F Pt r))(D:Dnr C.K C.mg x st ps fn fd)(ha:SA C m (e::es) ga)(hr:k<=C.k:=by exact zDj rfl)(hg:∀i,Gl (C.X i) x:=by intro _;rfl)
  (hn:∀Y ds,ga Y= .ok ds->ds.length=n:=by repeat (first|exact λ _ _ h=>aAh h|apply xu))(hdb:Nd x:=by decide)(he:∀i,zAS (e::es) (C.X i).env=(false,eval e (C.X i).env)::zAS es (C.X i).env:=by intro _;rfl)
  (hpl:∀i,(zBg pos (zAS es (C.X i).env)).any (·.1)=false:=by intro _;rfl):SE C (some []) (.Call (.Name x p) (e::es) [] pos) (aU F ga):=by
 obtain⟨t,h1,h2⟩:=ha;refine⟨aCD (spT C.K C.G.cl n F Pt r) [] C.G.E t,λ i=>?_,λ τ Z H Y lab Q R W=>?_⟩
 .obtain⟨e1,e2,e3,e4,e5⟩:=C.cx i
  exact aA8 (CX:=CX1 (C.X i).prog (C.X i).w) (by rw[e1,e2,e3,e4,e5];exact hF) ((C.room i).mono hr) (hg i) (by rw[e4];exact D.m) (by rw[e3];exact D.F.kp) (by rw[e3];exact D.b) .nil (C.pass i) (h1 i) hdb (he i) (hpl i)
 .refine h2 τ Z H Y lab _ R (W.bd.imp λ ds eds w vs H1 s r=>⟨s _ _ (R.old _ _ hT),ds,by rw[zAv,r.length];exact hn Y ds eds,by rw[zAv];exact r.wk λ _ _ _ _=>trivial,?_⟩)
  cases hF:F ds with
  |ok d=>
   rw[hF]at w;exact λ v H' s' r'=>w v H' (s.trans s') (r'.wk λ p o _ z=>.inl (s.free z))
  |ex c=>rw[hF]at w;exact λ H' s'=>w H' ((R.old.trans s).trans s')
  |st=>rw[hF]at w;exact w
end
def rB(K:zAA)(Pt:Addr)(r:Str):Sp:=λ vs H Q E=>H Pt=some (.tbl r)/\aFs K vs H Q E
def aDD{K:zAA}{F:List D->Rs D}{cl:Str->Addr}{Pt:Addr}{r:Str}(h:∀ns:List Int,ns.length<=63->F [.scr ns]= .ok (.bl true)):∀vs H Q E,rB K Pt r vs H Q E->spT K cl 1 F Pt r vs H Q E:=λ vs H Q E ⟨h1,h2⟩=>⟨h1,aFE h vs H Q E h2⟩
def aB0{P:zAO}{w:World}{K:zAA}{mg mb:Str->Option Value}{k:Nat}{fa a Pt c:Addr}{fd:zAa}{x r:Str}{z4:zAC}{vs:List Value}{ns:List Int}
  (KX:K.In z4.heap)(hns:z4.heap.Ns zA4 mg)(hb:z4.heap.Ns zGd mb)(hbb:∀x:Str,x≠"__name__"->mb x=zAj x)(dL:z4.heap.NoLimit)(hg:z4.gens=#[])
  (ha:z4.heap.get? a=some {cls:=.type "list",data:=.seq vs.toArray})(hi:zBI vs ns)(hl:ns.length<=63)(hr:fD k zET)
  (hP:z4.heap.get? Pt=some (zDf #[]))(hKP:K.lookup Pt=none)(hC:zB4 K c Pt=true)(hbl:z4.heap.BuiltinsAt mg Pt)
  (F:∀base:Heap,K.In base->base.BuiltinsAt mg Pt->zA4≠Pt->bj P w K mg base (CX1 P w) k fa fd [x] (rB K Pt r))(hbind:∀(s:zAC) (u:Value),zEa s fd ⟨[u],[]⟩ [(x,u)]):
  zCI (model P w) zET (.call (.ref fa) ⟨[.ref a],[]⟩) (λ r s'=>r= .ok (.ret (.bool true))/\OldK z4.heap s'.heap/\s'.os=z4.os/\zDv s'.gens) z4:=by
 have rv:=uO hi;have lenV:=hi.length;have hl2:ns.length<=zAN:=zAi hl (by decide);have aP:a≠Pt:=λ z=>by
  rw[z,hP]at ha;have e2:=congrArg Obj.cls (zAb ha);cases e2
 have core:∀H:Hp,H Pt=some (.tbl r)->kE K H a ns->HOk P w H z4.heap->(∀b,H b≠none->b=a\/b=Pt)->(∀u,H a=some u->∃o v,u= .frz o v)->(H a≠none->K.lookup a=none)->
   zCI (model P w) zET (.call (.ref fa) ⟨[.ref a],[]⟩) (λ r s'=>r= .ok (.ret (.bool true))/\OldK z4.heap s'.heap/\s'.os=z4.os/\zDv s'.gens) z4:=by
  intro H hT hS hok hA hfz hK;have base_of:∀{b:Addr} {o:Obj},z4.heap.get? b=some o->H b=none->(uH z4.heap H).get? b=some o:=λ e n=>aDR e n
  have noA:∀{b:Addr} {o:Obj} {es:Array DictEntry} {ep:Nat},z4.heap.get? b=some o->o.data= .dict es ep->H b=none:=λ{b o es ep} e d=>by
   cases q:H b with
   |none=>rfl
   |some u=>
    rcases hA b (by rw[q];simp)with e'|e'
    .subst e'
     rw[ha]at e;cases e;have d':Data.seq vs.toArray _=Data.dict es ep:=d;cases d'
    .rw[e',hP]at e
     cases e;cases d
  have nsK:∀{b:Addr} {m:Str->Option Value},z4.heap.Ns b m->(uH z4.heap H).Ns b m:=λ{b m} ⟨o,es,ep,e,d,r⟩=>⟨o,es,ep,base_of e (noA e d),d,r⟩
  have hKb:K.In (uH z4.heap H):=λ b o e=>base_of (KX b o e) (by
   cases q:H b with
   |none=>rfl
   |some u=>
    rcases hA b (by rw[q];simp)with e'|e'
    .subst e'
     rw[hK (by rw[q];simp)]at e;cases e
    .rw[e',hKP]at e;cases e)
  have hM:Mod K mg (uH z4.heap H):=⟨hKb,nsK hns,⟨mb,nsK hb,hbb⟩,let⟨mc,h1,h2⟩:=dL;⟨mc,nsK h1,h2⟩⟩;have e0:yg P w K mg (uH z4.heap H) zET [] z4 H:=⟨rfl,hM,λ b o e=>aEw e,Nat.le_of_eq (aBa _ _),trivial,λ b hb=>absurd (show b∈([]:List Addr)from hb) (by simp),hok,.of_eq hg⟩;have gP:zA4≠Pt:=by
   obtain⟨o,es,ep,e,d,_⟩:=hns;intro z
   have:=noA e d
   rw[z,hT]at this;cases this
  have hbB:(uH z4.heap H).BuiltinsAt mg Pt:=by
   obtain⟨bm,o,b1,b2,b3,b4,b5,b6,b7,b8⟩:=hbl;refine⟨bm,o,b1,b2,b3,b4,base_of b5 ?_,b6,b7,b8⟩;cases q:H bm with
   |none=>rfl
   |some u=>
    rcases hA bm (by rw[q];simp)with e'|e'
    .rw[e',ha]at b5
     cases b5;cases b8
    .exact absurd e' b4
  refine zEl ((F _ hKb hbB gP).run zET [] z4 H ⟨[.ref a],[]⟩ [.ref a] [.ref a] (λ v _=>v= .bl true) (λ _ _ _=>False) hr e0 (hbind z4 (.ref a)) (.cons rfl .nil) ⟨hT,a,ns,rfl,hS,hl,λ _=>rfl⟩) λ r s' h=>?_
  cases r with
  |error e=>
   obtain⟨_,_,_,_,_,_,_,_,_,_,_,_,_,z⟩:=h;exact z.elim
  |ok fl=>
   cases fl with
   |next=>exact zAH h
   |brk=>exact zAH h
   |cont=>exact zAH h
   |ret u=>
    obtain⟨v,H',os,bare,un,hok',r',q⟩:=h;have q':v= .bl true:=q;subst q';obtain rfl:u=zDN true:=r';obtain⟨ps,hps,_⟩:=hok' Pt _ (un.tbls _ _ hT);have all:∀b o,z4.heap.get? b=some o->b≠Pt->s'.heap.get? b=some o:=λ b o e ne=>by
     cases q:H b with
     |none=>exact un.keep b o e q (by intro z;exact absurd (show b∈([]:List Addr)from z) (by simp)) (by simp)
     |some u=>
      rcases hA b (by rw[q];simp)with e'|e'
      .subst e'
       obtain⟨ob,v,rfl⟩:=hfz u q;have z2:=un.frzs b ob _ q;obtain⟨e1,_⟩:=hok b _ q;obtain⟨e2,_⟩:=hok' b _ z2;rw[e]at e1;cases e1;exact e2
      .exact absurd e' ne
    refine⟨rfl,⟨λ b o e=>?_,λ b o e=>?_⟩,os,bare⟩
    .by_cases hbP:b=Pt
     .subst hbP
      rw[hP]at e;cases e;obtain⟨⟨o1,vs1,f1,f2,f3,f4⟩,_⟩:=(zFF KX hC).tab hP;exact .inr (.inl ⟨⟨c,o1,vs1,f1,f2,f3,f4⟩,rfl,#[],ps,rfl,by simpa using hps⟩)
     .exact .inl (all b o e hbP)
    .by_cases hbP:b=Pt
     .subst hbP;exact⟨_,hps⟩
     .exact⟨o,all b o e hbP⟩
 have tOk:∀H:Hp,cA P w H z4.heap Pt (.tbl r):=λ H=>⟨#[],hP,trivial,λ pos cv e=>nomatch e⟩
 cases hk:K.lookup a with
 |some o=>
  have e:=KX a o hk;rw[ha]at e;cases e;refine core (λ b=>if b=Pt then some (.tbl r)else none) (if_pos rfl) (.inr ⟨_,vs.toArray,_,hk,rfl,rfl,rfl,by rw[zAI,lenV];exact hl2,by simpa using rv⟩) (λ b u z=>?_) (λ b z=>?_) (λ u z=>?_) λ z=>absurd (if_neg aP) z
  .by_cases hb:b=Pt
   .have z':=(if_pos hb).symm.trans z
    cases z';rw[hb];exact tOk _
   .have z':=(if_neg hb).symm.trans z
    cases z'
  .by_cases hb:b=Pt
   .exact .inr hb
   .exact absurd (if_neg hb) z
  .have z':=(if_neg aP).symm.trans z
   cases z'
 |none=>
  refine core (λ b=>if b=a then some (.frz {cls:=.type "list",data:=.seq vs.toArray} (.lst (ns.map V.int)))else if b=Pt then some (.tbl r)else none) ?_ (.inl ⟨{cls:=.type "list",data:=.seq vs.toArray},if_pos rfl⟩) (λ b u z=>?_) (λ b z=>?_) (λ u z=>?_) λ _=>hk
  .rw[if_neg (zDT aP),if_pos rfl]
  .by_cases hb:b=a
   .have z':=(if_pos hb).symm.trans z
    cases z';subst hb;exact⟨ha,by rw[zAB];exact hl2,vs,_,rv,ha⟩
   .have z':=(if_neg hb).symm.trans z
    by_cases hp:b=Pt
    .have z2:=(if_pos hp).symm.trans z'
     cases z2;rw[hp];exact tOk _
    .have z2:=(if_neg hp).symm.trans z'
     cases z2
  .by_cases hb:b=a
   .exact .inl hb
   .by_cases hp:b=Pt
    .exact .inr hp
    .exact absurd ((if_neg hb).trans (if_neg hp)) z
  .have z':=(if_pos rfl).symm.trans z
   cases z';exact⟨_,_,rfl⟩
def aBv{l:zER}{k:Nat}{q:zAO}{loose:List Str}{XP:(Str->Option Value)->Heap->Prop}{YP:World->Heap->Prop}{d:DefRec}{K:Params->zAA}{Pt:Addr}{x r:Str}
  (hn:l.most=some 63)(hdf:d.params.defaults=[])(hr:fD k zET)
  (hY:∀(w:World) (h:Heap),YP w h->(K w.params).In h/\h.get? Pt=some (zDf #[]))
  (F:∀(w:World) (mg:Str->Option Value) (fa:Addr) (h:Heap),(K w.params).In h->h.Ns zA4 mg->mg d.name=some (.ref fa)->
   ∃(fd:zAa) (c:Addr),(K w.params).lookup Pt=none/\zB4 (K w.params) c Pt=true/\(∀(s:zAC) (u:Value),zEa s fd ⟨[u],[]⟩ [(x,u)])/\
    ∀base:Heap,(K w.params).In base->base.BuiltinsAt mg Pt->zA4≠Pt->bj l.prog w (K w.params) mg base (CX1 l.prog w) k fa fd [x] (rB (K w.params) Pt r)):
  zGF q loose XP YP l.row.toRowW d [] (λ f vs=>zFh f vs):=by
 refine Att.yW hn hdf λ w z5 z4 mg mb fa o pm cd doc a vs ns G Y ho hd hcd hmg hobj hints hW hg=>?_
 obtain⟨KX,hP⟩:=hY w _ Y;obtain⟨fd,c,hKP,hC,hb,hF⟩:=F w mg fa _ KX G.T.g hmg;have hbl:z4.heap.BuiltinsAt mg Pt:=by
  obtain⟨bm,ob,b1,b2,b3,b4,b5,b6⟩:=G.T.bmain;refine⟨bm,ob,b1,b2,λ z=>?_,λ z=>?_,b3,b4,b5,b6⟩
  .obtain⟨o,es,ep,e,hd,_⟩:=G.T.g
   rw[z,e]at b3;cases b3;rw[hd]at b6;cases b6
  .rw[z,hP]at b3;cases b3;cases b4
 exact aB0 KX G.T.g G.T.b G.T.builtins G.T.nolimit hg hobj hints hW hr hP hKP hC hbl hF hb
section
variable{prog:zAO}{w:World}{A:zA3}{vs:List Value}{lt:Nat->Nat->Bool}{s:zAC}{h0:Heap}
def aAO(a d:Value):zFb "max" ⟨[a],[("default",d)]⟩:=by unfold zFb;kernel_rfl
def aAL{E:Value->zAC->Prop}{l:Addr}{Q:Value->zAC->Prop}{dv:Value}(hh:A.handled=none)(hl:s.heap.IsList l vs.toArray)(C:aIV s.heap A.in1 vs lt)
  (hd:vs.length=0->∀h' tk,(∀b o,s.heap.get? b=some o->h'.get? b=some o)->Q dv {s with heap:=h',toks:=tk})
  (h:0<vs.length->∀v h' tk,vs[zAq lt (vs.length-1)]? =some v->(∀b o,s.heap.get? b=some o->h'.get? b=some o)->Q v {s with heap:=h',toks:=tk}):
  wpAny (model prog w) A (call (.builtin "max") [.ref l] [("default",dv)]) Q E s:=by
 have iX:(zCO "max"++zCO ".loop":String)="max.loop":=by decide
 have hlS:l<s.heap.objs.size:=by obtain⟨_,e,_⟩:=hl;exact zAX e
 refine j8 PySem.F.kind_max PySem.F.plain_max PySem.F.entry_max (aAO _ _) ?_;show wpAny _ A.in1 (zBF "max" ["key","default"] 0 ⟨[],[("default",dv)]⟩>>=_) _ _ s;refine zAE (zGU (show zBF "max" ["key","default"] 0 ⟨[],[("default",dv)]⟩=pure [none,some dv]from rfl) ?_);refine zAE (zA1 ?_);refine zAE (zD7 hl ?_);refine zAE (zD6 ?_);rw[iX];have hsz:∀(o:Obj),(s.heap.push o).objs.size=s.heap.objs.size+1:=λ o=>zBf ..
 have pV:∀(o o':Obj) b ob,s.heap.get? b=some ob->((s.heap.push o).push o').get? b=some ob:=λ o o' b ob e=>zAF _ (zAF _ e)
 have fin:∀(o o':Obj) (s':zAC),Moved [(s.heap.push o).objs.size,s.heap.objs.size] (λ a b=>b=a) {s with heap:=(s.heap.push o).push o'} s'->∃h' tk',s'={s with heap:=h',toks:=tk'}/\∀b ob,s.heap.get? b=some ob->h'.get? b=some ob:=by
  intro o o' s' hm;obtain⟨h',g',d',tk',os'⟩:=s';have eg:g'=s.gens:=hm.gens;have ed:d'=s.drawn:=hm.drawn;have eo:os'=s.os:=hm.os;subst eg;subst ed;subst eo;refine⟨h',tk',rfl,λ b ob e=>hm.heap b ob ?_ (pV _ _ _ _ e)⟩;have hb:=zAX e;rw[hsz];simp only[zAV,zCA,or_false,not_or];exact⟨zA5 (zCP hb),zA5 hb⟩
 by_cases hn:vs.length=0
 .have hz0:vs.toArray.size=0:=by rw[zAI];exact hn
  have W:=(zDh (prog:=prog) (w:=w) (A:=A.in1) hh s.heap.objs.size l (zA5 hlS) vs.toArray).toS;refine zA1 ⟨zBS zAy _,?_⟩;refine zBR zCb ?_;rw[zAx zAy _];show wpAny _ A.in1 (zDB (.ref _)>>=_) _ _ _;refine zAE (zB5 (zAW _ rfl) rfl ?_);show wpAny _ A.in1 (zC4 (zEA (.ref s.heap.objs.size)) _>>=_) _ _ _;refine zAE (zAt (W.done _ _ _ ⟨by rw[hz0];exact⟨_,zAF _ (zAW _ rfl),rfl,rfl⟩,(hl.push _).push _⟩ λ s' hm=>?_));show wpAny _ A.in1 (rule _>>=_) _ _ _;refine zAE (wpAny_rule (zA1 ?_));obtain⟨h',tk',rfl,hk⟩:=fin _ _ s' (hm.mono λ b hb=>zAK _ hb);exact hd hn h' tk' hk
 .refine zA1 ⟨zBS zAy _,z6 (vs:=vs) (lt:=lt) (h0:=s.heap) ((zDh (A:=A.in1) hh s.heap.objs.size l (zA5 hlS) vs.toArray).toS) _ ?hSf C ?hin (by rw[zAI];omega) ⟨⟨_,zAF _ (zAW _ rfl),rfl,rfl⟩,(hl.push _).push _⟩ (λ x o e=>pV _ _ _ _ e) (zAW _ rfl) ?hR⟩
  case hSf=>
   rw[hsz];simp only[zAV,zCA,or_false,not_or];exact⟨zCH (zBX _),zCH (zCP hlS)⟩
  case hin=>
   intro x o e
   have:=zAX e
   rw[hsz];simp only[zAV,zCA,or_false,not_or];exact⟨zA5 (zCP this),zA5 this⟩
  case hR=>
   intro v s' hv hm;obtain⟨h',tk',rfl,hk⟩:=fin _ _ s' hm;exact h (by omega) v h' tk' (by simpa using hv) hk
end
structure aDv(f:D->D->Option Bool)(l:List D):Prop where
 im:fM l=true
 nd:aX l=true
 dp:bQ l<=40
 cm:∀x∈l,∀y∈l,(f x y).isSome=true
instance:Decidable (aDv f l):=if h:fM l=true/\aX l=true/\bQ l<=40/\∀x∈l,∀y∈l,(f x y).isSome=true then .isTrue ⟨h.1,h.2.1,h.2.2.1,h.2.2.2⟩else .isFalse λ z=>h ⟨z.im,z.nd,z.dp,z.cm⟩
def xY(dd:D)(l:List D):D:=if l.length=0 then dd else lZ grD l
def xZ(ga:En->Rs (List D))(fd:En->Rs D):En->Rs D:=λ Y=>(ga Y).bd λ ds=>match ds with
 |[.lst l]=>if aDv grD l then(fd Y).bd λ dd=>if imm dd=true then .ok (xY dd l)else .st else .st
 |_=>.st
def aJ1(K:zAA)(xs:List V)(p:Addr):List V->Hp->VK->Prop:=λ zs H Q=>∃(ds:List D) (A:Addr->Prop) (dv:V),zs=[dv]/\H p=some (.lst xs)/\Rps K A H xs ds/\aDv grD ds/\(xs.length=0->Q dv H)/\(0<xs.length->∀v,xs[zAq (ltI grD ds) (xs.length-1)]? =some v->Q v H)
def aIZ(K:zAA)(t:TA)(td:TE):TE:=λ Z H Q=>t Z H λ vs H1=>∃p xs,vs=[.ref p]/\eU td lr Z H1 λ zs H2=>aJ1 K xs p zs H2 Q
section
variable{X:Cx}{p pos kp:Pos}{e ed:Expr}{t:TA}{td:TE}
def aHF(hc:X.calm=true)(hu:X.A.units+64<cLine)(hg:Gl X "max")(hm:X.mg "max"=none)(hv:zAj "max"=some (.builtin "max"))(ha:PA X [e] t)(hd:PE X ed td)(he:zAS [e] X.env=[(false,eval e X.env)]):
  PE X (.Call (.Name "max" p) [e] [⟨some "default",ed,kp⟩] pos) (aIZ X.K t td):=by
 intro hV s Z H Q I h;refine zCi (mU I hg hm hv ?_ (by decide) (by decide));refine callWith_kw (thn (ha pos hV s Z H _ I h) λ us s1 ⟨vs,H1,I1,r,pa,xs,ev,q⟩=>?_) (by unfold zBg;rw[he];rfl) (by unfold zBg;rw[he];rfl) rfl rfl;subst ev;have hkw:PK X [⟨some "default",ed,kp⟩] (eU td lr):=vd hd aCc;refine thn (hkw pos hV s1 Z H1 _ I1 q) λ ws s2 ⟨zs,H2,I2,rz,ds,A',dv,ez,hp,rs,hC,q0,q1⟩=>?_
 subst ez;obtain⟨u,rfl,ru⟩:=vals1 r;obtain⟨z,rfl,rz'⟩:=vals1 rz;cases ru;obtain⟨its,rv,pl,hz⟩:=I2.list (SqL.of hp);have l1:xs.length=its.length:=rv.length;refine aAL (lt:=ltI grD ds) (I2.ok.hd hc) pl.isList (λ s' hk i j v u hi hj=>?_) (λ hn h' tk hk=>⟨dv,H2,I2.kept hk,rz',q0 (by lia)⟩) λ hn v h' tk hv hk=>?_
 .obtain⟨x,ex,rx⟩:=eQ rv hi
  obtain⟨y,ey,ry⟩:=eQ rv hj;obtain⟨d,ed,rd⟩:=iw rs ex;obtain⟨e,ee,re⟩:=iw rs ey;have md:=zA0 ed;have me:=zA0 ee;obtain⟨z,hz⟩:=zC0.mp (hC.cm d md e me);have g:ltI grD ds i j=z:=by
   unfold ltI;rw[zAQ,zAQ,ed,ee];simp[hz]
  have ok:=Inv.seqOk (I2.kept (h':=s'.heap) (t':=s'.toks) hk);have ok':fB X.K H2 s':=⟨ok.tup,ok.lst,ok.inj,ok.ne⟩;rw[g];exact aDU ok' d 40 rd re rx ry (zAi (jP md) hC.dp) (cM md hC.nd) (cM me hC.nd) (by show X.A.units+1+40<cLine;lia) hz
 .obtain⟨x,ex,rx⟩:=eQ rv hv
  exact⟨x,H2,I2.kept hk,rx,q1 (by lia) x (by rw[l1];exact ex)⟩
end
section
variable{C:Ct}{pos p kp:Pos}{a ed:Expr}{ga:En->Rs (List D)}{fd:En->Rs D}{m md:Mode}
def aCQ(hm:C.mg "max"=none)(ha:SA C m [a] ga)(hd:SE C md ed fd)(he:∀i,zAS [a] (C.X i).env=[(false,eval a (C.X i).env)]:=by intro _;rfl)(hg:∀i,Gl (C.X i) "max":=by intro _;rfl)(hv:zAj "max"=some (.builtin "max"):=by decide+kernel):
  SE C (some []) (.Call (.Name "max" p) [a] [⟨some "default",ed,kp⟩] pos) (xZ ga fd):=by
 obtain⟨t,h1,h2⟩:=ha;obtain⟨td,d1,d2⟩:=hd;refine⟨aIZ C.K t td,λ i=>by rw[<-C.hK i];exact aHF (C.calm i) (C.u64 i) (hg i) (by rw[(C.cx i).2.2.2.1];exact hm) hv (h1 i) (d1 i) (he i),λ τ Z H Y lab Q R W=>?_⟩;refine h2 τ Z H Y lab _ R (W.bd.imp λ ds hga w vs H1 s1 r1=>?_);split at w
 .rename_i l
  by_cases hc:aDv grD l
  .rw[if_pos hc]at w
   cases r1 with
   |cons hr r'=>
    cases r';obtain⟨pa,xs,rfl,hp,mm,rs⟩:=hr.lst_inv;refine⟨pa,xs,rfl,d2 τ Z H1 Y lab _ (R.up s1) (w.bd.imp λ dd _ w4 dv H2 s2 rd=>?_)⟩;by_cases hdd:imm dd=true
    .rw[if_pos hdd]at w4
     refine⟨l,λ _=>True,dv,rfl,s2 _ _ hp,((rs.imm hc.im).up s2),hc,λ h0=>?_,λ h0 v hv=>?_⟩
     .have e:xY dd l=dd:=by unfold xY;rw[if_pos (by rw[<-rs.length];exact h0)]
      rw[e]at w4;exact w4 dv H2 (s1.trans s2) (rd.imm hdd)
     .obtain⟨d,ed,rd⟩:=iw rs hv
      have e:xY dd l=d:=by
       unfold xY lZ;rw[if_neg (by rw[<-rs.length];lia),<-rs.length,zAQ,ed];rfl
      rw[e]at w4;exact w4 v H2 (s1.trans s2) ((rd.imm (yJ hc.im (zA0 ed))).up s2)
    .rw[if_neg hdd]at w4;exact zAH w4
  .rw[if_neg hc]at w;exact zAH w
 .exact zAH w
end
theorem aAi:∀{kvs:List (Key×V)} {vs:List (Key×Value)},KV kvs vs->Vals (kvs.map (·.2)) (vs.map (·.2))
 |_,_,.nil=>.nil
 |_,_,.cons h t=>.cons h.2 (aAi t)
def rLV:List V->Hp->VK->Prop:=λ xs H Q=>∃v a kvs,xs=[.ref v]/\H v=some (aAR v a)/\H a=some (.dK kvs)/\∀L,H L=none->Q (.ref L) (upd H L (.lst (kvs.map (·.2))))
def aF6{X:Cx}(hc:X.calm=true):dN X (.type "list") rLV:=by
 intro hV s Z H xs us Q I r h;obtain⟨v,a,kvs,rfl,hv,ha,q⟩:=h;obtain⟨u,rfl,ru⟩:=vals1 r;cases ru;have hview:s.heap.IsValuesView v a:=(I.hok v _ hv).1;obtain⟨z,hd,vs,rel,dd⟩:=aD9 I.hok ha;obtain⟨ep,hda⟩:=dd.dictAt;have hW:vs.length=kvs.length:=rel.length.symm;refine PySem.W.kdl_call (PySem.W.kdl_values (knd:=cG X.prog X.w) (kvs:=vs) (ep:=ep)) (I.ok.hd hc) ⟨hview,hda⟩ (by rw[hW];exact z) λ h' tk acc c hk hL hit=>?_
 have b9:acc.toList=vs.map (·.2):=PySem.W.kdl_vals_eq acc.toList (by rw[zCZ];exact hit.1) λ j x hx=>hit.2 j x (by simpa using hx)
 have hfr:H s.heap.objs.size=none:=I.hok.fresh (zAT _);refine⟨.ref s.heap.objs.size,_,I.laid (a:=s.heap.objs.size) (o:=.lst (kvs.map (·.2))) (h':=h') (t':=tk) hk (zAT _) ⟨by rw[zAB];exact z,vs.map (·.2),c,aAi rel,?_⟩,rfl,q _ hfr⟩;rw[<-b9];exact hL
def aBX:D->Rs D
 | .dct ks vs=>(match jb ks vs with
  |some ps=>if fM (ps.map (·.2))=true then .ok (.lst (ps.map (·.2)))else .st
  |none=>.st)
 |_=>.st
section
variable{C:Ct}{pos p apos cpos:Pos}{o:Expr}{fo:En->Rs D}{m:Mode}
def aCR(hmL:C.mg "list"=none)(ho:SE C m o fo)(hs2:∀i,zAS [.Call (.Attribute o "values" apos) [] [] cpos] (C.X i).env=[(false,eval (.Call (.Attribute o "values" apos) [] [] cpos) (C.X i).env)]:=by intro _;rfl)(hgL:∀i,Gl (C.X i) "list":=by intro _;rfl)(hvL:zAj "list"=some (.type "list"):=by decide+kernel)
  (hbase:∀j,zC2 o "values" (C.X j).env (eval o (C.X j).env)=eval o (C.X j).env:=by intro _;rfl)(hline:(apos.endLine==cpos.line)=true:=by rfl):
  SE C (some []) (.Call (.Name "list" p) [.Call (.Attribute o "values" apos) [] [] cpos] [] pos) (op1 aBX fo):=by
 obtain⟨t,h1,h2⟩:=ho;refine⟨tCB rLV (eU (aI2 C.K "dict" aFv t) lr),λ i=>uW (aF6 (C.calm i)) (hgL i) (by rw[(C.cx i).2.2.2.1];exact hmL) hvL (dg (by rw[<-C.hK i];exact aHH PySem.F.plainAttrs_dict zE6 PySem.F.type_dict_values aBR (h1 i) (hbase i) hline) jE (hs2 i)) (by decide) (by decide) (hs2 i) rfl,λ τ Z H Y lab Q R W=>?_⟩;refine h2 τ Z H Y lab _ R (W.bd.imp λ d _ w y H1 s1 r1=>?_);obtain⟨z,ez,wz⟩:=w.okD;cases d with
 |dct ks vs=>
  unfold aBX at ez;dsimp only at ez;cases hp:jb ks vs with
  |none=>rw[hp]at ez;cases ez
  |some ps=>
   rw[hp]at ez;dsimp only at ez;split at ez
   .rename_i him
    cases ez;obtain⟨a,kvs,rfl,g,_,rq,hk⟩:=r1.dctI_inv hp;refine⟨.inr (.inr (.inl ⟨rfl,.inl ⟨_,g⟩⟩)),a,_,rfl,rfl,g,λ v hv=>?_⟩;have hne:a≠v:=λ e=>by subst e;rw[g]at hv;cases hv
    refine⟨v,a,kvs,rfl,aa,by rw[aW hne];exact g,λ L hL=>?_⟩;have s0:=s1.trans (bY hv (aAR v a));have s2:=bY hL (.lst (kvs.map (·.2)));exact wz _ _ (s0.trans s2) (.lst aa (.inl (s0.free hL)) ((rq.imm him).up ((bY hv _).trans s2)))
   .cases ez
 |_=>cases ez
end
section
variable{Y:En}{i:Nat}{f g:En->Rs D}{fb gb:En->Rs Bool}{ga:En->Rs (List D)}{u v:En->Ou}{d:D}
@[simp] def varD_ap:fG i Y=match Y[i]? with
 |some (.sh d)=>.ok d
 |some (.nw d)=>.ok d
 |some (.ow d)=>.ok d
 |some (.oz d)=>.ok d
 |some (.o2 l)=>.ok (.lst (l.map .lst))
 |_=>.st:=aO rfl
@[simp] def aDz:aC i Y=match Y[i]? with
 |some (.sh d)=>.ok d
 |some (.nw d)=>.ok d
 |_=>.st:=aO rfl
@[simp] def varN_ap:qO i Y=match Y[i]? with
 |some (.nw d)=>.ok d
 |_=>.st:=aO rfl
@[simp] def varO_ap:qN i Y=match Y[i]? with
 |some (.ow d)=>.ok d
 |some (.o2 l)=>.ok (.lst (l.map .lst))
 |_=>.st:=aO rfl
@[simp] def yU:cD d Y= .ok d:=aO rfl
@[simp] def cC:aG Y= .ok []:=aO rfl
@[simp] def bI:aB f ga Y=(f Y).bd λ d=>(ga Y).bd λ ds=>.ok (d::ds):=aO rfl
@[simp] def szl:zAN=16777216:=zDl
@[simp] def aEB:bW ga Y=(ga Y).bd λ ds=>if ds.length<=16777216 then .ok (.tup ds)else .st:=by unfold bW;rw[szl]
@[simp] def lstD_ap:gZ ga Y=(ga Y).bd λ ds=>if ds.length<=16777216 then .ok (.lst ds)else .st:=by unfold gZ;rw[szl]
@[simp] def dO:okD (.ok d)= .ok d:=aO rfl
@[simp] def cX:op2 fd f g Y=(f Y).bd λ x=>(g Y).bd λ y=>okD (fd x y):=aO rfl
@[simp] def op1_ap:op1 fd f Y=(f Y).bd λ x=>okD (fd x):=aO rfl
@[simp] def jm:opA fd ga Y=(ga Y).bd λ x=>okD (fd x):=aO rfl
@[simp] def gF:aU F ga Y=(ga Y).bd F:=aO rfl
def aII(d:D)(r:Rs D):Rs D:=match d with
 | .bl true=>r
 | .bl false=>.ok (.bl false)
 |_=>.st
@[simp] def aAy:aII (.bl b) r=if b=true then r else .ok (.bl false):=by cases b<;>rfl
@[simp] def wN:uM f g Y=(f Y).bd λ d=>aII d (g Y):=aO rfl
@[simp] def notD_bl:aH8 (.bl b)= .ok (.bl (!b)):=aO rfl
@[simp] def ifD_ap:ifD fb f g Y=(fb Y).bd λ k=>if k=true then f Y else g Y:=aO rfl
def chR(d:D)(r:Rs D):Rs D:=match d with
 | .bl true=>r
 | .bl false=>.ok (.bl false)
 |_=>.st
@[simp] def chR_bl:chR (.bl b) r=if b=true then r else .ok (.bl false):=by cases b<;>rfl
@[simp] def chD_ap:chD fd fd' f g h Y=(f Y).bd λ x=>(g Y).bd λ y=>(okD (fd x y)).bd λ z=>chR z ((h Y).bd λ w=>okD (fd' y w)):=aO rfl
@[simp] def truD_bl:aEC (.bl b)= .ok b:=aO rfl
@[simp] def blD_bl:blD (.bl b)= .ok b:=aO rfl
@[simp] def aG0:tst f Y=(f Y).bd aEC:=aO rfl
@[simp] def jf:tsb f Y=(f Y).bd blD:=aO rfl
@[simp] def aFa:aDi fb gb Y=(fb Y).bd λ k=>if k=true then gb Y else .ok false:=aO rfl
@[simp] def aHL:orT fb gb Y=(fb Y).bd λ k=>if k=true then .ok true else gb Y:=aO rfl
@[simp] def notT_ap:qT fb Y=(fb Y).bd λ k=>.ok (!k):=aO rfl
@[simp] def aR:az u v Y=(u Y).sq v:=aO rfl
@[simp] def kO:retS f Y=(f Y).bo .rt:=aO rfl
@[simp] def dropS_ap:qH f Y=(f Y).bo λ _=>.nx Y:=aO rfl
@[simp] def wC:ifS fb u v Y=(fb Y).bo λ k=>if k=true then u Y else v Y:=aO rfl
@[simp] def vW:cU i f Y=(f Y).bo λ d=>.nx (Y.set i (.sh d)):=aO rfl
@[simp] def aA0:tZ i f Y=(f Y).bo λ d=>.nx (Y.set i (.nw d)):=aO rfl
@[simp] def vX:jV i f Y=(f Y).bo λ d=>.nx (Y.set i (.ow d)):=aO rfl
@[simp] def wD:gnm i d Y= .ok (Y.set i (.sh d)):=aO rfl
@[simp] def gnil_nil:mV [] Y= .ok Y:=aO rfl
@[simp] def gcons_cons:bz a b (d::ds) Y=(a d Y).bd (b ds):=aO rfl
@[simp] def gtup_tup:lJ n b (.tup ds) Y=if ds.length=n then b ds Y else .st:=aO rfl
def nxO(r:Rs En):Ou:=match r with
 | .ok Y=>.nx Y
 |_=>.st
@[simp] def itD_tup:itD (.tup l)= .ok l:=aO rfl
@[simp] def itD_lst:itD (.lst l)= .ok l:=aO rfl
@[simp] def aFH:gB f Y=(f Y).bd itD:=aO rfl
@[simp] def g8:j7 ga a u Y=(ga Y).bo λ ds=>forL a u ds Y:=aO rfl
noncomputable def Ou.tn(o:Ou)(k:En->Ou):Ou:=match o with
 | .nx Y2=>k Y2
 | .ct Y2=>k Y2
 | .bk Y2=>.nx Y2
 |o=>o
@[simp] def aCB:(Ou.nx Y).tn k=k Y:=aO rfl
def okE(r:Rs En)(k:En->Ou):Ou:=match r with
 | .ok Y=>k Y
 |_=>.st
@[simp] def rm:okE (.ok Y) k=k Y:=aO rfl
def gk:forL a u (d::ds) Y=okE (a d Y) λ Y1=>(u Y1).tn (forL a u ds):=by
 unfold forL;cases a d Y with
 |ok Y1=>simp only[rm];cases u Y1<;>rfl
 |ex c=>rfl
 |st=>rfl
@[simp] def immD_ap:bL f Y=(f Y).bd pA:=aO rfl
@[simp] def aEZ:dm r ga Y=(ga Y).bd r:=aO rfl
@[simp] def raiseS_ap:rM x ga Y=(ga Y).bo λ ds=>if ds.length<=16777216 then .ex x else .st:=by unfold rM;rw[szl]
end
section
variable{d e:D}{i j:Int}{l m:List D}
def nQ(h:imm d=true):pA d= .ok d:=by unfold pA;rw[if_pos h]
@[simp] def gImm_int:pA (.int i)= .ok (.int i):=aO rfl
@[simp] def aDj:bT (.int i) (.int j)= .ok (.int (i+j)):=aO rfl
@[simp] def yd:bT (.lst l) (.lst m)=if l.length+m.length<=16777216 then .ok (.lst (l++m))else .st:=by unfold bT;rw[szl]
@[simp] def yc:bT (.tup l) (.tup m)=if l.length+m.length<=16777216 then .ok (.tup (l++m))else .st:=by unfold bT;rw[szl]
@[simp] def subD_int:aEE (.int i) (.int j)= .ok (.int (i-j)):=aO rfl
def uh(h0:0<j)(h1:j<1073741824):su (.int i) (.int j)= .ok (.int (i / j)):=by unfold su i2;dsimp only;rw[if_pos (by simp[h0,h1])]
def jq(h0:0<j):o5 (.int i) (.int j)= .ok (.int (i%j)):=by unfold o5 i2;dsimp only;rw[if_pos (by simp[h0])]
def vm(h0: -(2^64)<i)(h1:i<2^64):dR (.int i) (.int j)= .ok (.int (i*j)):=by unfold dR;dsimp only;rw[if_pos (by simp only[zE3,zAU,decide_eq_true_eq];exact .inl ⟨h0,h1⟩)]
def aCv(h0: -(2^64)<j)(h1:j<2^64):dR (.int i) (.int j)= .ok (.int (i*j)):=by unfold dR;dsimp only;rw[if_pos (by simp only[zE3,zAU,decide_eq_true_eq];exact .inr ⟨h0,h1⟩)]
@[simp] def negD_int:sE (.int i)= .ok (.int (-i)):=aO rfl
@[simp] def ltD_int:ltD (.int i) (.int j)= .ok (.bl (decide (i<j))):=aO rfl
@[simp] def leD_int:leD (.int i) (.int j)= .ok (.bl (decide (i<=j))):=aO rfl
@[simp] def geD_int:geD (.int i) (.int j)= .ok (.bl (decide (j<=i))):=aO rfl
def aFD(ns ms:List Int):ltD (.tup (ns.map .int)) (.tup (ms.map .int))= .ok (.bl (HT.lexLt ns ms)):=by
 unfold ltD ltT i2;simp only[cj]
@[simp] def lenD_tup:gA [.tup l]= .ok (.int l.length):=aO rfl
@[simp] def lenD_lst:gA [.lst l]= .ok (.int l.length):=aO rfl
@[simp] def lenD_scr:gA [.scr x]= .ok (.int x.length):=aO rfl
@[simp] def qy:iG [.lst l]= .ok (.tup l):=aO rfl
@[simp] def mmD_int:mmD f [.int i,.int j]= .ok (.int (f i j)):=aO rfl
@[simp] def ixD_tup:ixD (.tup l) (.int i)=atD l i:=aO rfl
@[simp] def ixD_lst:ixD (.lst l) (.int i)=atD l i:=aO rfl
@[simp] def ixD_scr:ixD (.scr x) (.int i)=atD (x.map .int) i:=aO rfl
def di{k:Nat}(h:l[k]? =some d):atD l (k:Int)= .ok d:=by
 have hk:=(zAM.mp h).1;unfold atD atI ixN;rw[if_pos (by omega),if_pos (by omega)];simp[h]
def aIH(h0:0<=i)(h1:i<l.length):∃d,atD l i= .ok d/\d∈l/\l[i.toNat]? =some d:=by
 have hk:i.toNat<l.length:=by omega
 have e:=zAD hk;refine⟨_,?_,zEU hk,e⟩
 have:=di e
 rwa [zB2 h0]at this
@[simp] def atD_0{r:List D}:atD (d::r) 0= .ok d:=di (k:=0) rfl
@[simp] def atD_1{r:List D}:atD (d::e::r) 1= .ok e:=di (k:=1) rfl
@[simp] def eqR_int:eqR n (.int i) (.int j)= .ok (.bl (if n then !(i==j)else i==j)):=aO rfl
def knd:D->Bool
 | .set _=>false
 | .scr _=>false
 | .fn _=>false
 | .itm _ _=>false
 |_=>true
def vz(hT:T∈["bool","int","str","list","tuple","dict"])(h:knd d=true):lH T d= .ok (.bl (aFJ (tyD d) T)):=by
 have ht:tyD d∈["NoneType","bool","int","str","list","tuple","dict"]:=by cases d<;>simp_all [tyD,knd]
 unfold lH jt;cases e:aFJ (tyD d) T<;>simp[ht,hT]
def aHt:D->Bool
 | .int _=>true
 | .bl _=>true
 |_=>false
def aIu:D->Bool
 | .bl _=>true
 |_=>false
def o9:D->Bool
 | .tup _=>true
 |_=>false
def aFI(h:knd d=true):lH "int" d= .ok (.bl (aHt d)):=by
 rw[vz (by simp) h];cases d<;>first|rfl|(simp[knd]at h)
def aDJ(h:knd d=true):lH "bool" d= .ok (.bl (aIu d)):=by
 rw[vz (by simp) h];cases d<;>first|rfl|(simp[knd]at h)
def o8(h:knd d=true):lH "tuple" d= .ok (.bl (o9 d)):=by
 rw[vz (by simp) h];cases d<;>first|rfl|(simp[knd]at h)
@[simp] def isi_tuple_tup:lH "tuple" (.tup l)= .ok (.bl true):=o8 rfl
end
@[simp] def bZ:dU n u ds=match u (ao n ds)with
 | .nx _=>.ok .non
 | .rt d=>.ok d
 | .ex c=>.ex c
 |_=>.st:=aO rfl
def dZ(h0: -(2^62)<=j)(h1:j<2^62):fJ [.int j]= .ok (cN 0 j):=by unfold fJ;dsimp only;rw[if_pos ⟨h0,h1⟩]
def v5(h0: -(2^62)<=i)(h1:i<2^62)(h2: -(2^62)<=j)(h3:j<2^62):uB [.int i,.int j]= .ok (cN i j):=by unfold uB;dsimp only;rw[if_pos ⟨⟨h0,h1⟩,h2,h3⟩]
def xn{lo hi:Int}:d∈cN lo hi↔∃k:Int,d= .int k/\lo<=k/\k<hi:=by
 unfold cN;rw[zAZ];constructor
 .rintro⟨n,hn,rfl⟩
  have:=zCh.mp hn
  exact⟨lo+n,rfl,by omega,by omega⟩
 .rintro⟨k,rfl,h1,h2⟩
  exact⟨(k-lo).toNat,zCh.mpr (by omega),by congr 1;omega⟩
end VL
namespace VL.My
open PySem L2
def fU:En->Ou:=
  (retS (uM (op1 (lH "int") (aC 0)) (op1 aH8 (op1 (lH "bool") (aC 0)))))
def ik:List D->Rs D:=dU 1 fU
def cu:En->Ou:=
  (az (j7 (dm uB (aB (cD (.int 1)) (aB (opA gA (aB (aC 0) aG)) aG))) (gnm 1)
   (ifS (qT (tsb (op2 ltD (op2 ixD (aC 0) (op2 aEE (aC 1) (cD (.int 1)))) (op2 ixD (aC 0) (aC 1)))))
    (retS (cD (.bl false)))
    Ou.nx))
  (retS (cD (.bl true))))
def eO:List D->Rs D:=dU 2 cu
def gw:En->Ou:=
  (az (llS 1 (dm fJ (aB (op2 ixD (aC 0) (cD (.int 0))) aG)) [none] (gnm 0))
  (az (j7 (gB (op2 ixD (aC 0) (cD (.int 1)))) (lJ 2 (bz (gnm 2) (bz (gnm 3) mV)))
   (eN 1 (aC 2) (bL (aC 3))))
  (retS (qN 1))))
def fY:List D->Rs D:=dU 4 gw
def fW:En->Ou:=
  (az (llS 1 (dm fJ (aB (op2 ixD (aC 0) (cD (.int 0))) aG)) [none] (gnm 0))
  (az (j7 (gB (op2 ixD (aC 0) (cD (.int 1)))) (lJ 2 (bz (gnm 2) (bz (gnm 3) mV)))
   (eN 1 (aC 3) (bL (aC 2))))
  (retS (qN 1))))
def fZ:List D->Rs D:=dU 4 fW
def bw:En->Ou:=
  (az (ifS (tsb (op2 ltD (aC 1) (opA gA (aB (aC 0) aG))))
   (retS (bL (op2 ixD (aC 0) (aC 1))))
   Ou.nx)
  (retS (cD (.int 0))))
def dY:List D->Rs D:=dU 2 bw
def du:En->Ou:=
  (az (ifS (tsb (op2 geD (aC 0) (op2 aGt (cD (.int 10)) (cD (.int 18)))))
   (az (cU 3 (aC 0))
   (az (j7 (dm fJ (aB (aC 1) aG)) (gnm 4)
    (cU 3 (op2 su (aC 3) (aC 2))))
   (retS (op2 o5 (aC 3) (aC 2)))))
   Ou.nx)
  (az (cU 5 (op2 o5 (op2 dR (op2 bT (op2 bT (op2 o5 (aC 0) (cD (.int 1000000007))) (op2 dR (cD (.int 1009)) (aC 1))) (cD (.int 17))) (cD (.int 69621))) (cD (.int 2147483647))))
  (az (cU 5 (op2 o5 (op2 bT (op2 bT (op2 dR (aC 5) (aC 5)) (op2 dR (cD (.int 40503)) (aC 1))) (cD (.int 5))) (cD (.int 2147483629))))
  (retS (op2 o5 (op2 su (op2 o5 (op2 dR (aC 5) (cD (.int 48271))) (cD (.int 2147483647))) (cD (.int 32))) (aC 2))))))
def bH:List D->Rs D:=dU 6 du
def wyC:En->Rs D:=lcD (gB (op2 ixD (aC 0) (cD (.int 1)))) [none,none,some 3] (lJ 2 (bz (gnm 0) (bz (gnm 1) mV))) (aDi (tsb (op2 (eqR false) (aC 0) (op2 ixD (aC 2) (op1 sE (cD (.int 1)))))) (tsb (op2 (inR true) (aC 1) (aC 2)))) (op2 bT (bL (aC 2)) (bW (aB (bL (aC 1)) aG)))
def wyB:En->Ou:=az (tZ 3 (bL (op2 ixD (fG 1) (aC 2)))) (az (aFZ 1 wyC) (cU 2 (op2 bT (aC 2) (cD (.int 1)))))
def wyT:En->Rs Bool:=tsb (op2 ltD (aC 2) (opA gA (aB (fG 1) aG)))
def wy0:En->Rs D:=lcD (dm fJ (aB (op2 ixD (aC 0) (cD (.int 0))) aG)) [none] (gnm 0) m9 (bW (aB (bL (aC 0)) aG))
def cH:En->Ou:=az (jV 1 wy0) (az (cU 2 (cD (.int 0))) (az (vK wyT wyB) (retS (qN 1))))
def fC:List D->Rs D:=dU 4 cH
def gq:En->Ou:=
  (retS (uM (aU ik (aB (aC 0) aG)) (chD leD leD (cD (.int 0)) (aC 0) (cD (.int 60)))))
def lD:List D->Rs D:=dU 1 gq
def fV:En->Ou:=
  (retS (uM (aU ik (aB (aC 1) aG)) (chD leD ltD (cD (.int 0)) (aC 1) (aC 0))))
def dw:List D->Rs D:=dU 2 fV
def odI:En->Ou:=az (aDf (λ i j=>i-j) 2 (aC 6) (cD (.int 1))) (ifS (tsb (op2 (eqR false) (op2 ixD (fG 2) (aC 6)) (cD (.int 0)))) (qX 3 (bL (aC 6))) Ou.nx)
def odB:En->Ou:=az (cU 5 (opA (eY zE5) (aB (fG 3) aG))) (az (aCY 3 (bL (aC 5))) (az (qX 4 (bL (aC 5))) (j7 (gB (op2 ixD (aC 1) (aC 5))) (gnm 6) odI)))
def aH7:En->Rs D:=lcD (gB (aU fZ (aB (aC 0) aG))) [none] (gnm 0) m9 (opA gA (aB (aC 0) aG))
def aH6:En->Rs D:=lcD (dm fJ (aB (op2 ixD (aC 0) (cD (.int 0))) aG)) [none,some 2] (gnm 0) (tsb (op2 (eqR false) (op2 ixD (aC 1) (aC 0)) (cD (.int 0)))) (bL (aC 0))
def gm:En->Ou:=az (cU 1 (aU fY (aB (aC 0) aG))) (az (jV 2 aH7) (az (jV 3 aH6) (az (jV 4 (gZ aG)) (az (vK (tst (fG 3)) odB) (retS (qN 4))))))
def cJ:List D->Rs D:=dU 7 gm
def fQ:En->Ou:=
  (az (jV 2 (gZ aG))
  (az (j7 (dm fJ (aB (aC 1) aG)) (gnm 3)
   (aDK 2 (aU bH (aB (aC 0) (aB (op2 bT (cD (.int 100)) (aC 3)) (aB (op2 bT (aC 3) (cD (.int 1))) aG)))) (bL (aC 3))))
  (retS (qN 2))))
def ig:List D->Rs D:=dU 4 fQ
def ipE:En->Ou:=ifS (orT (qT (tst (op1 (lH "tuple") (aC 1)))) (tsb (op2 (eqR true) (opA gA (aB (aC 1) aG)) (cD (.int 2))))) (retS (cD (.bl false))) Ou.nx
def gn:En->Ou:=az ipE (retS (uM (aU dw (aB (aC 0) (aB (op2 ixD (aC 1) (cD (.int 0))) aG))) (uM (aU dw (aB (aC 0) (aB (op2 ixD (aC 1) (cD (.int 1))) aG))) (op2 (eqR true) (op2 ixD (aC 1) (cD (.int 0))) (op2 ixD (aC 1) (cD (.int 1)))))))
def jT:List D->Rs D:=dU 2 gn
def htC:En->Rs D:=lcD (gB (op2 ixD (aC 1) (aC 3))) [none,some 2] (gnm 0) m9 (bL (op2 ixD (aC 1) (aC 0)))
def htV:En->Rs D:=op2 bT (cD (.int 1)) (xZ (aB htC aG) (cD (.int 0)))
def htB:En->Ou:=aE5 2 (aC 3) htV
def gr:En->Ou:=az (cU 1 (aU fZ (aB (aC 0) aG))) (az (jV 2 (op2 dR (gZ (aB (cD (.int 0)) aG)) (bL (op2 ixD (aC 0) (cD (.int 0)))))) (az (j7 (gB (aU cJ (aB (aC 0) aG))) (gnm 3) htB) (retS (qN 2))))
def iB:List D->Rs D:=dU 4 gr
def bwF:En->Rs D:=bW (aB (op1 sE (opA gA (aB (aC 0) aG))) (aB (aC 0) aG))
def bx:En->Ou:=retS (aFA (aB (aC 0) aG) bwF (bW aG))
def eE:List D->Rs D:=dU 1 bx
def orB:En->Ou:=ifS (orT (tsb (op2 ltD (aU bH (aB (aC 0) (aB (aC 7) (aB (cD (.int 8)) aG)))) (qO 4))) (aDi (tsb (op2 (eqR false) (aC 3) (cD (.int 5)))) (tsb (op2 (inR false) (aC 8) (bW (aB (op2 bT (op2 dR (cD (.int 2)) (aC 9)) (cD (.int 1))) (aB (op2 bT (op2 dR (cD (.int 2)) (aC 9)) (cD (.int 2))) aG)))))))
     (qX 6 (bW (aB (bL (op2 ixD (aC 5) (aC 9))) (aB (bL (op2 ixD (aC 5) (aC 8))) aG))))
     Ou.nx
def aCn:En->Ou:=az (cU 7 (op2 bT (aC 7) (cD (.int 1)))) orB
def aAa:En->Ou:=j7 (dm fJ (aB (aC 8) aG)) (gnm 9) aCn
def cR:En->Ou:=az (cU 2 (aU bH (aB (aC 0) (aB (cD (.int 0)) (aB (op2 bT (aC 1) (cD (.int 1))) aG)))))
  (az (cU 3 (aU bH (aB (aC 0) (aB (cD (.int 1)) (aB (cD (.int 6)) aG)))))
  (az (tZ 4 (op2 ixD (gZ (aB (cD (.int 1)) (aB (cD (.int 2)) (aB (cD (.int 3)) (aB (cD (.int 5)) (aB (cD (.int 8)) (aB (cD (.int 0)) aG))))))) (aC 3)))
  (az (cU 5 (aU ig (aB (aC 0) (aB (aC 2) aG))))
  (az (jV 6 (gZ aG))
  (az (cU 7 (cD (.int 2)))
  (az (j7 (dm fJ (aB (aC 2) aG)) (gnm 8) aAa)
  (retS (bW (aB (bL (aC 2)) (aB (opA iG (aB (opA lN (aB (fG 6) aG)) aG)) aG))))))))))
def dX:List D->Rs D:=dU 10 cR
def aj:En->Ou:=
  (az (ifS (qT (tst (op1 (lH "tuple") (aC 1))))
   (retS (cD (.bl false)))
   Ou.nx)
  (az (j7 (gB (aC 1)) (gnm 2)
   (ifS (qT (tst (aU jT (aB (aC 0) (aB (aC 2) aG)))))
    (retS (cD (.bl false)))
    Ou.nx))
  (retS (aU eO (aB (aC 1) aG)))))
def bJ:List D->Rs D:=dU 3 aj
def dJ:En->Ou:=
  (az (ifS (orT (qT (tst (op1 (lH "tuple") (aC 0)))) (tsb (op2 (eqR true) (opA gA (aB (aC 0) aG)) (cD (.int 2)))))
   (retS (cD (.bl false)))
   Ou.nx)
  (retS (uM (aU lD (aB (op2 ixD (aC 0) (cD (.int 0))) aG)) (aU bJ (aB (op2 ixD (aC 0) (cD (.int 0))) (aB (op2 ixD (aC 0) (cD (.int 1))) aG))))))
def gf:List D->Rs D:=dU 1 dJ
def bV:En->Ou:=
  (ifS (qT (tst (aU gf (aB (aC 0) aG))))
   (rM "NoOneWay" (aB (cD (.str "this is no one-way web")) aG))
   Ou.nx)
def cO:List D->Rs D:=dU 1 bV
def cQ:En->Ou:=
  (az (qH (aU cO (aB (aC 0) aG)))
  (az (cU 1 (aU cJ (aB (aC 0) aG)))
  (retS (ifD (tsb (op2 (eqR false) (opA gA (aB (aC 1) aG)) (op2 ixD (aC 0) (cD (.int 0))))) (bL (opA iG (aB (aC 1) aG))) (cD .non)))))
def fu:List D->Rs D:=dU 2 cQ
def bU:En->Ou:=
  (ifS (tsb (op2 (isD false) (aU fu (aB (aC 0) aG)) (cD .non)))
   (rM "NoOrder" (aB (cD (.str "the one-way web has a ring")) aG))
   Ou.nx)
def bB:List D->Rs D:=dU 1 bU
def shI:En->Rs D:=opA iG (aB (lcD (dm fJ (aB (op2 ixD (aC 1) (cD (.int 0))) aG)) [none,some 2,some 0] (gnm 0) (tsb (op2 (eqR false) (op2 ixD (aC 1) (aC 0)) (aC 2))) (bL (aC 0))) aG)
def fO:En->Ou:=az (qH (aU bB (aB (aC 0) aG))) (az (cU 1 (aU iB (aB (aC 0) aG))) (retS (lcD (dm uB (aB (cD (.int 1)) (aB (op2 bT (xZ (aB (aC 1) aG) (cD (.int 0))) (cD (.int 1))) aG))) [none,some 0,some 1] (gnm 0) m9 shI)))
def cI:List D->Rs D:=dU 2 fO
def lgC:En->Rs D:=lcD (gB (op2 ixD (aC 1) (aC 3))) [none,some 2] (gnm 0) m9 (bL (op2 aAJ (aC 1) (aC 0)))
def lgV:En->Rs D:=op2 bT (bW (aB (bL (aC 3)) aG)) (aU eE (aB lgC aG))
def lgB:En->Ou:=pdS 2 (aC 3) lgV
def fP:En->Ou:=az (qH (aU bB (aB (aC 0) aG))) (az (cU 1 (aU fY (aB (aC 0) aG))) (az (jV 2 (cD (.dct [] []))) (az (j7 (gB (op1 aA6 (aU cJ (aB (aC 0) aG)))) (gnm 3) lgB) (retS (aU eE (aB (op1 aBX (fG 2)) aG))))))
def cT:List D->Rs D:=dU 4 fP
def lwR:En->Rs (List D):=(dm fJ (aB (opA (mmD λ i j=>if j>i then j else i) (aB (cD (.int 1)) (aB (opA (mmD λ i j=>if j<i then j else i) (aB (opA gA (aB (aC 0) aG)) (aB (cD (.int 8)) aG))) aG))) aG))
def lQ0:En->Ou:=(cU 2 (aU dY (aB (aC 0) (aB (aC 1) aG))))
def lQ1:En->Ou:=(cU 3 (aU dX (aB (aC 2) (aB (cD (.int 7)) aG))))
def lQ2:En->Ou:=(cU 4 (aU fC (aB (aC 3) aG)))
def lQ3:En->Ou:=(tZ 5 (lcD (dm fJ (aB (op2 ixD (aC 3) (cD (.int 0))) aG)) [none,some 4] (gnm 0) m9 (opA (eY zD9) (aB (lcD (gB (aC 1)) [none,some 0] (gnm 0) (tsb (op2 (eqR false) (op2 ixD (aC 0) (op1 sE (cD (.int 1)))) (aC 1))) (opA gA (aB (aC 0) aG))) aG))))
def lQ4:En->Ou:=(cU 6 (opA (eY zD9) (aB (op2 bT (qO 5) (gZ (aB (cD (.int 0)) aG))) aG)))
def lQ5:En->Ou:=(tZ 7 (lcD (dm uB (aB (cD (.int 1)) (aB (op2 bT (aC 6) (cD (.int 1))) aG))) [none,some 3,some 5] (gnm 0) m9 (opA iG (aB (lcD (dm fJ (aB (op2 ixD (aC 1) (cD (.int 0))) aG)) [none,some 2,some 0] (gnm 0) (tsb (op2 (eqR false) (op2 ixD (aC 1) (aC 0)) (aC 2))) (bL (aC 0))) aG))))
def lQ6:En->Ou:=(j7 (dm fJ (aB (cD (.int 2)) aG)) (gnm 8) (az (jV 9 (aU cI (aB (aC 3) aG))) (az (ifS (orT (qT (tst (op1 (lH "list") (fG 9)))) (tsb (op2 (eqR true) (fG 9) (qO 7)))) (retS (cD (.bl false))) Ou.nx) (qX 9 (bW aG)))))
def lQ7:En->Ou:=(ifS (tsb (op2 (eqR true) (aU cT (aB (aC 3) aG)) (opA (nZ lsD) (aB (op2 bT (lcD (gB (aC 4)) [none,some 6] (gnm 0) (tsb (op2 (eqR false) (opA gA (aB (aC 0) aG)) (aC 1))) (bL (aC 0))) (op2 dR (gZ (aB (bW aG) aG)) (opA qC (aB (op2 (eqR false) (op2 ixD (aC 3) (cD (.int 0))) (cD (.int 0))) aG)))) aG)))) (retS (cD (.bl false))) Ou.nx)
def lwK:En->Ou:=az lQ0 (az lQ1 (az lQ2 (az lQ3 (az lQ4 (az lQ5 (az lQ6 lQ7))))))
def lwZ:En->Rs D:=(uM (op2 (eqR false) (aU cI (aB (bW (aB (cD (.int 0)) (aB (bW aG) aG))) aG)) (gZ aG)) (uM (op2 (eqR false) (aU cT (aB (bW (aB (cD (.int 0)) (aB (bW aG) aG))) aG)) (bW aG)) (op2 (eqR false) (aU cI (aB (bW (aB (cD (.int 2)) (aB (bW aG) aG))) aG)) (gZ (aB (bW (aB (cD (.int 0)) (aB (cD (.int 1)) aG))) aG)))))
def qI:En->Ou:=az (j7 lwR (gnm 1) lwK) (retS lwZ)
def aDp:List D->Rs D:=dU 10 qI
theorem vC(hb:0<b)(hb2:b<1073741824):∀(ds:List D) (x:Int) (s:Slot),(∀d∈ds,∃n:Int,d= .int n)->
  ∃y s',forL (gnm 4) (cU 3 (op2 su (aC 3) (aC 2))) ds [.sh (.int c),.sh (.int k),.sh (.int b),.sh (.int x),s,.no]= .nx [.sh (.int c),.sh (.int k),.sh (.int b),.sh (.int y),s',.no]
 |[],x,s,_=>⟨x,s,rfl⟩
 |d::ds,x,s,h=>by
  have ih:=vC hb hb2 (c:=c) (k:=k) ds (x / b) (.sh d) λ e he=>h e (zAK _ he)
  rw[gk];simp[uh hb hb2];exact ih
def wF(hk0:0<=k)(hk1:k<2^40)(hb:0<b)(hb2:b<1073741824):∃r:Int,bH [.int c,.int k,.int b]= .ok (.int r)/\0<=r/\r<b:=by
 have hp:aGt (.int 10) (.int 18)= .ok (.int 1000000000000000000):=rfl;by_cases hc:(1000000000000000000:Int)<=c
 .have hr:=dZ (j:=k) (by lia) (by lia)
  obtain⟨y,s',e⟩:=vC hb hb2 (c:=c) (k:=k) (cN 0 k) c .no λ d hd=>let⟨n,e,_⟩:=xn.mp hd;⟨n,e⟩
  refine⟨y%b,?_,zDi _ (by lia),zDK _ hb⟩;simp[bH,du,ao,hp,hc,hr,e,jq hb]
 .have s1:∀z:Int,0<=z%2147483647/\z%2147483647<2147483647:=λ z=>⟨zDi _ (by decide),zDK _ (by decide)⟩
  have s2:∀z:Int,0<=z%2147483629/\z%2147483629<2147483629:=λ z=>⟨zDi _ (by decide),zDK _ (by decide)⟩
  have m1:∀z,dR (.int 1009) (.int z)= .ok (.int (1009*z)):=λ z=>vm (by decide) (by decide)
  have m2:∀z,dR (.int z) (.int 69621)= .ok (.int (z*69621)):=λ z=>aCv (by decide) (by decide)
  have m3:∀z,dR (.int 40503) (.int z)= .ok (.int (40503*z)):=λ z=>vm (by decide) (by decide)
  have m4:∀z,dR (.int z) (.int 48271)= .ok (.int (z*48271)):=λ z=>aCv (by decide) (by decide)
  have m5:∀z:Int,dR (.int (z%2147483647)) (.int (z%2147483647))= .ok (.int (z%2147483647*(z%2147483647))):=λ z=>vm (by have:=s1 z;lia) (by have:=s1 z;lia)
  have d1:∀z,o5 (.int z) (.int 1000000007)= .ok (.int (z%1000000007)):=λ z=>jq (by decide)
  have d2:∀z,o5 (.int z) (.int 2147483647)= .ok (.int (z%2147483647)):=λ z=>jq (by decide)
  have d3:∀z,o5 (.int z) (.int 2147483629)= .ok (.int (z%2147483629)):=λ z=>jq (by decide)
  have d4:∀z,su (.int z) (.int 32)= .ok (.int (z / 32)):=λ z=>uh (by decide) (by decide)
  have d5:∀z,o5 (.int z) (.int b)= .ok (.int (z%b)):=λ z=>jq hb
  simp[bH,du,ao,hp,hc,m1,m2,m3,m4,m5,d1,d2,d3,d4,d5,-Int.emod_emod_of_dvd];exact⟨zDi _ (by lia),zDK _ hb⟩
def aAu(hk0:0<=k)(hk1:k<2^40)(hb:0<b)(hb2:b<1073741824):∃r:Nat,bH [.int c,.int k,.int b]= .ok (.int r)/\(r:Int)<b:=by
 obtain⟨r,e,h0,h1⟩:=wF (c:=c) hk0 hk1 hb hb2;exact⟨r.toNat,by rw[zB2 h0];exact e,by lia⟩
def aF4(h:0<=k):∃c:Int,dY [.scr ns,.int k]= .ok (.int c):=by
 by_cases hk:k<ns.length
 .obtain⟨d,e,hm,_⟩:=aIH (l:=ns.map .int) (i:=k) h (by simpa using hk)
  obtain⟨c,_,rfl⟩:=zAZ.mp hm;exact⟨c,by simp[dY,bw,ao,hk,e]⟩
 .exact⟨0,by simp[dY,bw,ao,hk]⟩
mutual
def pln:D->Bool
 | .tup l=>v9 l
 | .lst l=>v9 l
 | .set _=>false
 | .scr _=>false
 | .fn _=>false
 | .itm _ _=>false
 |_=>true
def v9:List D->Bool
 |[]=>true
 |d::r=>pln d&&v9 r
end
def qg(h:pln d=true):knd d=true:=by cases d<;>first|rfl|(simp[pln]at h)
theorem xR:∀{l:List D} {d:D},v9 l=true->d∈l->pln d=true
 |x::r,d,h,hm=>by
  simp only[v9,zAU]at h;rcases zAV.mp hm with rfl|hm
  .exact h.1
  .exact xR h.2 hm
def ym:D->Bool
 | .int _=>true
 |_=>false
def aAd:D->Bool
 | .int i=>decide (0<=i)&&decide (i<=60)
 |_=>false
def fK(m:Int):D->Bool
 | .int i=>decide (0<=i)&&decide (i<m)
 |_=>false
def ph(h:knd d=true):ik [d]= .ok (.bl (ym d)):=by
 simp[ik,fU,ao,aFI h,aDJ h];cases d<;>rfl
def aAC(h:knd d=true):lD [d]= .ok (.bl (aAd d)):=by
 simp[lD,gq,ao,ph h];cases d<;>simp[ym,aAd]
 rename_i i;by_cases h0:0<=i<;>simp[h0]
def pq(h:knd d=true):dw [.int m,d]= .ok (.bl (fK m d)):=by
 simp[dw,fV,ao,ph h];cases d<;>simp[ym,fK]
 rename_i i;by_cases h0:0<=i<;>simp[h0]
def iJ(m:Int):D->Bool
 | .tup [.int a,.int b]=>decide (0<=a)&&decide (a<m)&&decide (0<=b)&&decide (b<m)&& !(a==b)
 |_=>false
def uV(h:fK m d=true):∃i:Int,d= .int i/\0<=i/\i<m:=by
 cases d with
 |int i=>simp[fK]at h;exact⟨i,rfl,h.1,h.2⟩
 |_=>simp[fK]at h
def aBz(h:o9 d=true):∃l,d= .tup l:=by cases d<;>first|exact⟨_,rfl⟩|(cases h)
def aGZ(h:l.length=2):∃x y,l=[x,y]:=by
 match l,h with
 |[x,y],_=>exact⟨x,y,rfl⟩
def aCj(h:o9 d=false):iJ m d=false:=by cases d<;>first|rfl|(cases h)
def aBO(h:l.length≠2):iJ m (.tup l)=false:=by
 match l,h with
 |[],_=>rfl
 |[x],_=>cases x<;>rfl
 |[x,y],h=>exact absurd rfl h
 |x::y::z::r,_=>cases x<;>first|rfl|(cases y<;>rfl)
def aEo(h:fK m x=false):iJ m (.tup [x,y])=false:=by
 cases x with
 |int i=>
  cases y with
  |int j=>
   show((((decide (0<=i)&&decide (i<m))&&decide (0<=j))&&decide (j<m))&& !(i==j))=false
   rw[show(decide (0<=i)&&decide (i<m))=false from h];rfl
  |_=>rfl
 |_=>rfl
def aEn(h:fK m y=false):iJ m (.tup [.int i,y])=false:=by
 cases y with
 |int j=>
  show((((decide (0<=i)&&decide (i<m))&&decide (0<=j))&&decide (j<m))&& !(i==j))=false
  rw[zDo (decide (0<=i)&&decide (i<m)),show(decide (0<=j)&&decide (j<m))=false from h,zDp];rfl
 |_=>rfl
def aCi(h1:fK m (.int i)=true)(h2:fK m (.int j)=true):iJ m (.tup [.int i,.int j])= !(i==j):=by
 show((((decide (0<=i)&&decide (i<m))&&decide (0<=j))&&decide (j<m))&& !(i==j))= !(i==j)
 rw[zDo (decide (0<=i)&&decide (i<m)),show(decide (0<=j)&&decide (j<m))=true from h2,show(decide (0<=i)&&decide (i<m))=true from h1];rfl
def aHv(hk:knd d=true)(h:o9 d=false):ipE [s,.sh d]= .rt (.bl false):=by simp[ipE,o8 hk,h]
def aFL(h:l.length≠2):ipE [s,.sh (.tup l)]= .rt (.bl false):=by
 have:¬((l.length:Int)=2):=by omega
 simp[ipE,this]
def aFK:ipE [s,.sh (.tup [x,y])]= .nx [s,.sh (.tup [x,y])]:=by simp[ipE]
def aAB(h:pln d=true):jT [.int m,d]= .ok (.bl (iJ m d)):=by
 have st:ao 2 [.int m,d]=[.sh (.int m),.sh d]:=rfl;simp only[jT,gn,bZ,st];cases ht:o9 d with
 |false=>rw[aR,aHv (qg h) ht,aCj ht];rfl
 |true=>
  obtain⟨l,rfl⟩:=aBz ht;by_cases hl:l.length=2
  .obtain⟨x,y,rfl⟩:=aGZ hl
   simp only[pln,v9,zAU]at h;have hx:=pq (m:=m) (qg h.1);have hy:=pq (m:=m) (qg h.2.1);have ex:aU dw (aB (aC 0) (aB (op2 ixD (aC 1) (cD (.int 0))) aG)) [.sh (.int m),.sh (.tup [x,y])]= .ok (.bl (fK m x)):=by simp[hx]
   have ey:aU dw (aB (aC 0) (aB (op2 ixD (aC 1) (cD (.int 1))) aG)) [.sh (.int m),.sh (.tup [x,y])]= .ok (.bl (fK m y)):=by simp[hy]
   rw[aR,aFK,ak,kO,wN,ex,aK,aAy,wN,ey,aK,aAy];cases c1:fK m x with
   |false=>rw[aEo c1];rfl
   |true=>
    obtain⟨i,rfl,_,_⟩:=uV c1;cases c2:fK m y with
    |false=>rw[aEn c2];rfl
    |true=>
     obtain⟨j,rfl,_,_⟩:=uV c2;rw[aCi c1 c2];rfl
  .rw[aR,aFL hl,aBO hl];rfl
def pD(p:Int×Int):D:=.tup [.int p.1,.int p.2]
def ltP(p q:Int×Int):Bool:=HT.lexLt [p.1,p.2] [q.1,q.2]
def uC:gX->Bool
 |[]=>true
 |[_]=>true
 |p::q::r=>ltP p q&&uC (q::r)
def aHc(p q:Int×Int):ltD (pD p) (pD q)= .ok (.bl (ltP p q)):=aFD [p.1,p.2] [q.1,q.2]
theorem pB:∀(ds:List D) (ok:Nat->Bool) (I:En->Prop) (Y:En),I Y->(∀(i:Nat) d Y,ds[i]? =some d->I Y->okE (a d Y) u= .rt r/\ok i=false\/∃Y',okE (a d Y) u= .nx Y'/\I Y'/\ok i=true)->
  (forL a u ds Y= .rt r/\∃i,i<ds.length/\ok i=false)\/(∃Y',forL a u ds Y= .nx Y'/\I Y'/\∀i,i<ds.length->ok i=true)
 |[],ok,I,Y,h,_=>.inr ⟨Y,rfl,h,λ i hi=>absurd hi (zDk _)⟩
 |d::ds,ok,I,Y,h,hs=>by
  rw[gk];rcases hs 0 d Y rfl h with ⟨e,o⟩|⟨Y',e,h',o⟩
  .left
   refine⟨?_,0,by simp,o⟩;cases ea:a d Y with
   |ok Y1=>rw[ea]at e;simp at e ⊢;rw[e];rfl
   |ex c=>rw[ea]at e;cases e
   |st=>rw[ea]at e;cases e
  .have ih:=pB ds (λ i=>ok (i+1)) I Y' h' λ i d2 Y2 e2 h2=>hs (i+1) d2 Y2 (by simpa using e2) h2
   have e3:okE (a d Y) (λ Y1=>(u Y1).tn (forL a u ds))=forL a u ds Y':=by
    cases ea:a d Y with
    |ok Y1=>rw[ea]at e;simp at e ⊢;rw[e];rfl
    |ex c=>rw[ea]at e;cases e
    |st=>rw[ea]at e;cases e
   rw[e3];rcases ih with ⟨e4,i,hi,o4⟩|⟨Y4,e4,h4,o4⟩
   .exact .inl ⟨e4,i+1,by simpa using hi,o4⟩
   .refine .inr ⟨Y4,e4,h4,λ i hi=>?_⟩
    cases i with
    |zero=>exact o
    |succ i=>exact o4 i (by simpa using hi)
def nG{i:Nat}(h:(cN lo hi)[i]? =some d):d= .int (lo+i)/\lo+i<hi:=by
 unfold cN at h;rw[zAL]at h;by_cases hi2:i<(hi-lo).toNat
 .rw[zBr hi2]at h
  cases h;exact⟨rfl,by omega⟩
 .rw[zCk (by simpa using hi2)]at h
  cases h
def jL:(cN lo hi).length=(hi-lo).toNat:=by unfold cN;simp
section
variable{α:Type}{f:α->D}{lt:α->α->Bool}
def rG(lt:α->α->Bool):List α->Bool
 |[]=>true
 |[_]=>true
 |p::q::r=>lt p q&&rG lt (q::r)
theorem nH:∀{ps:List α},rG lt ps=true↔∀(i:Nat) (p q:α),ps[i]? =some p->ps[i+1]? =some q->lt p q=true
 |[]=>by simp[rG]
 |[x]=>by
  simp only[rG,true_iff];intro i p q _ h2;simp at h2
 |x::y::r=>by
  have ih:=nH (ps:=y::r);unfold rG;rw[zAU,ih];constructor
  .rintro⟨h1,h2⟩ i p q e1 e2
   cases i with
   |zero=>simp at e1 e2;subst e1 e2;exact h1
   |succ i=>exact h2 i p q (by simpa using e1) (by simpa using e2)
  .intro h
   exact⟨h 0 x y rfl rfl,λ i p q e1 e2=>h (i+1) p q (by simpa using e1) (by simpa using e2)⟩
def yG(hlt:∀a b,ltD (f a) (f b)= .ok (.bl (lt a b)))(hl:ps.length<=100000):eO [.tup (ps.map f)]= .ok (.bl (rG lt ps)):=by
 have hr:=v5 (i:=1) (j:=(ps.length:Int)) (by decide) (by decide) (by omega) (by omega);have hW:(cN 1 (ps.length:Int)).length=ps.length-1:=by rw[jL];omega
 have L:=pB (a:=gnm 1) (u:=ifS (qT (tsb (op2 ltD (op2 ixD (aC 0) (op2 aEE (aC 1) (cD (.int 1)))) (op2 ixD (aC 0) (aC 1))))) (retS (cD (.bl false))) Ou.nx) (r:=.bl false)
  (cN 1 (ps.length:Int)) (λ i=>match ps[i]?,ps[i+1]? with|some p,some q=>lt p q|_,_=>true) (λ Y=>∃s,Y=[.sh (.tup (ps.map f)),s]) [.sh (.tup (ps.map f)),.no] ⟨_,rfl⟩ (by
   rintro i d Y hd ⟨s,rfl⟩;obtain⟨rfl,h2⟩:=nG hd;have e1:ps[i]? =some ps[i]:=zAD (by omega);have e2:ps[i+1]? =some ps[i+1]:=zAD (by omega);have a1:atD (ps.map f) (1+(i:Int)-1)= .ok (f ps[i]):=by
    rw[show(1+(i:Int)-1)=(i:Int)by omega];exact di (by rw[zAL,e1];rfl)
   have a2:atD (ps.map f) (1+(i:Int))= .ok (f ps[i+1]):=by
    rw[show(1+(i:Int))=((i+1:Nat):Int)by omega];exact di (by rw[zAL,e2];rfl)
   simp only[e1,e2];cases c:lt ps[i] ps[i+1]with
   |true=>right;exact⟨_,by simp[a1,a2,hlt,c];rfl,⟨_,rfl⟩,rfl⟩
   |false=>left;exact⟨by simp[a1,a2,hlt,c],rfl⟩)
 have st:ao 2 [.tup (ps.map f)]=[.sh (.tup (ps.map f)),.no]:=rfl;rcases L with ⟨e,i,hi,o⟩|⟨Y',e,⟨s,rfl⟩,o⟩
 .have:rG lt ps=false:=by
   cases c:rG lt ps with
   |false=>rfl
   |true=>
    rw[hW]at hi;have z:=nH.mp c i ps[i] ps[i+1] (zAD (by omega)) (zAD (by omega));rw[zAD (by omega),zAD (by omega)]at o;simp only at o;rw[z]at o;cases o
  rw[this];simp only[eO,cu,bZ,st];simp[hr,e]
 .have:rG lt ps=true:=nH.mpr λ i p q e1 e2=>by
   have h2:=(zAM.mp e2).1
   have:=o i (by rw[hW];omega)
   rw[e1,e2]at this;exact this
  rw[this];simp only[eO,cu,bZ,st];simp[hr,e]
end
theorem zJ:∀ps:gX,uC ps=rG ltP ps
 |[]=>rfl
 |[_]=>rfl
 |p::q::r=>by unfold uC rG;rw[zJ (q::r)]
def wA(hl:ps.length<=100000):eO [.tup (ps.map pD)]= .ok (.bl (uC ps)):=by
 rw[zJ];exact yG aHc hl
def ltI(a b:Int):Bool:=decide (a<b)
def v6:uC ps=true↔∀(i:Nat) (p q:Int×Int),ps[i]? =some p->ps[i+1]? =some q->ltP p q=true:=by rw[zJ];exact nH
def aEb:D->Int×Int
 | .tup [.int a,.int b]=>(a,b)
 |_=>(0,0)
def zR(h:iJ m d=true):∃a b:Int,d= .tup [.int a,.int b]/\0<=a/\a<m/\0<=b/\b<m/\a≠b:=by
 unfold iJ at h;split at h
 .rename_i a b
  simp at h;exact⟨a,b,rfl,h.1.1.1.1,h.1.1.1.2,h.1.1.2,h.1.2,h.2⟩
 .cases h
theorem aGF:∀{ts:List D},ts.all (iJ m)=true->(ts.map aEb).map pD=ts
 |[],_=>rfl
 |t::ts,h=>by
  rw[zGX,zAU]at h;obtain⟨a,b,rfl,_⟩:=zR h.1;simp only[zAG];rw[aGF h.2];rfl
def rpB(m:Int):D->Bool
 | .tup ts=>ts.all (iJ m)&&uC (ts.map aEb)
 |_=>false
def aG9:D->Bool
 | .tup l=>decide (l.length<=100000)
 |_=>true
def lL(h:pln d=true)(hs:aG9 d=true):bJ [.int m,d]= .ok (.bl (rpB m d)):=by
 cases d with
 |tup ts=>
  have hp:v9 ts=true:=by simpa[pln]using h
  have hl:ts.length<=100000:=by simpa[aG9]using hs
  have L:=pB (a:=gnm 2) (u:=ifS (qT (tst (aU jT (aB (aC 0) (aB (aC 2) aG))))) (retS (cD (.bl false))) Ou.nx) (r:=.bl false)
   ts (λ i=>match ts[i]? with|some t=>iJ m t|none=>true) (λ Y=>∃s,Y=[.sh (.int m),.sh (.tup ts),s]) [.sh (.int m),.sh (.tup ts),.no] ⟨_,rfl⟩ (by
    rintro i d Y hd ⟨s,rfl⟩;have e:=aAB (m:=m) (xR hp (zA0 hd));simp only[hd];cases c:iJ m d with
    |true=>right;exact⟨_,by simp[e,c];rfl,⟨_,rfl⟩,rfl⟩
    |false=>left;exact⟨by simp[e,c],rfl⟩)
  have st:ao 3 [.int m,.tup ts]=[.sh (.int m),.sh (.tup ts),.no]:=rfl;rcases L with ⟨e,i,hi,o⟩|⟨Y',e,⟨s,rfl⟩,o⟩
  .have:ts.all (iJ m)=false:=by
    rw[List.all_eq_false];rw[zAD hi]at o;exact⟨ts[i],zEU hi,by simpa using o⟩
   simp only[bJ,aj,bZ,st];simp[e,rpB,this]
  .have:ts.all (iJ m)=true:=by
    rw[zB9];intro t ht;obtain⟨i,hi,rfl⟩:=zDE ht
    have:=o i hi
    rw[zAD hi]at this;exact this
   have er:=wA (ps:=ts.map aEb) (by rw[zAB];exact hl);rw[aGF this]at er;simp only[bJ,aj,bZ,st];simp[e,rpB,this,er]
 |_=>simp[bJ,aj,ao,o8 (qg h),o9,rpB]
theorem gC:∀(ds:List D) (P:Nat->En->Prop) (Y:En),P 0 Y->(∀(i:Nat) d Y,ds[i]? =some d->P i Y->∃Y',okE (a d Y) u= .nx Y'/\P (i+1) Y')->∃Y',forL a u ds Y= .nx Y'/\P ds.length Y'
 |[],P,Y,h,_=>⟨Y,rfl,h⟩
 |d::ds,P,Y,h,hs=>by
  obtain⟨Y1,e,h1⟩:=hs 0 d Y rfl h;obtain⟨Y2,e2,h2⟩:=gC (a:=a) (u:=u) ds (λ i=>P (i+1)) Y1 h1 λ i d2 Y2 e2 h2=>hs (i+1) d2 Y2 (by simpa using e2) h2
  refine⟨Y2,?_,by simpa using h2⟩;rw[gk];cases ea:a d Y with
  |ok Y0=>rw[ea]at e;simp at e ⊢;rw[e];exact e2
  |ex c=>rw[ea]at e;cases e
  |st=>rw[ea]at e;cases e
def sZ(l:List α)(i:Int)(y:α):(dW l i y).Perm (y::l):=by
 unfold dW;generalize (if i<0 then(i+(l.length:Int)).toNat else min i.toNat l.length)=k
 have:(l.take k++y::l.drop k).Perm (y::(l.take k++l.drop k)):=List.perm_middle
 rwa [zDc]at this
def aB9(f:α->β)(l:List α)(i:Int)(y:α):dW (l.map f) i (f y)=(dW l i y).map f:=by
 unfold dW;rw[zAB,zBH,zAG,List.map_take,List.map_drop]
structure aFf(n:Nat)(os:List Int):Prop where
 len:os.length=n
 nd:os.Nodup
 lo:∀x∈os,0<=x/\x<n
def yD{n:Nat}(h1:n<=60):∃os,ig [.int c,.int n]= .ok (.lst (os.map .int))/\aFf n os:=by
 have hr:=dZ (j:=(n:Int)) (by lia) (by lia);have hW:(cN 0 (n:Int)).length=n:=by rw[jL];lia
 obtain⟨Y',e,s,os,rfl,ho⟩:=gC (a:=gnm 3) (u:=aDK 2 (aU bH (aB (aC 0) (aB (op2 bT (cD (.int 100)) (aC 3)) (aB (op2 bT (aC 3) (cD (.int 1))) aG)))) (bL (aC 3))) (cN 0 (n:Int))
  (λ i Y=>∃s os,Y=[.sh (.int c),.sh (.int n),.ow (.lst (os.map .int)),s]/\aFf i os) [.sh (.int c),.sh (.int n),.ow (.lst []),.no] ⟨.no,[],rfl,rfl,by simp,λ x hx=>by simp at hx⟩ (by
   rintro i d Y hd ⟨s,os,rfl,ho⟩;obtain⟨rfl,h2⟩:=nG hd;obtain⟨r,er,r0,r1⟩:=wF (c:=c) (k:=100+(i:Int)) (b:=(i:Int)+1) (by lia) (by lia) (by lia) (by lia);have hz: -9223372036854775808<=r/\r<9223372036854775808/\os.length<16777216:=⟨by lia,by lia,by rw[ho.len];lia⟩;refine⟨[.sh (.int c),.sh (.int n),.ow (.lst ((dW os r (0+(i:Int))).map .int)),.sh (.int (0+(i:Int)))],?_,_,_,rfl,?_,?_,λ x hx=>?_⟩
   .rw[<-aB9]
    simp only[wD,rm,aDK];simp[er,hz]
   .rw[ug,ho.len]
   .refine(sZ os r _).nodup_iff.mpr (zAm.mpr ⟨λ hm=>?_,ho.nd⟩)
    have:=ho.lo _ hm
    lia
   .rcases zAV.mp ((sZ os r _).mem_iff.mp hx)with q|q
    .lia
    .have:=ho.lo x q
     lia)
 rw[hW]at ho;refine⟨os,?_,ho⟩;simp[ig,fQ,ao,hr,e]
def pl(p:Int×Int):List Int:=[p.1,p.2]
def hp(p:Int×Int):Int:=hsh (pl p)
theorem uY:∀{l:List α},l.Nodup->(∀x∈l,∀y∈l,f x=f y->x=y)->(l.map f).Nodup
 |[],_,_=>by simp
 |a::l,h,hi=>by
  rw[zAm]at h;rw[zAG,zAm];refine⟨λ hm=>?_,uY h.2 λ x hx y hy e=>hi x (zAK _ hx) y (zAK _ hy) e⟩;obtain⟨x,hx,e⟩:=zAZ.mp hm
  have:=hi x (zAK _ hx) a zAP e
  subst this;exact h.1 hx
structure Ow(n:Int)(ps:gX):Prop where
 n0:0<=n
 n1:n<=60
 len:ps.length<=3600
 pr:∀p∈ps,0<=p.1/\p.1<n/\0<=p.2/\p.2<n/\p.1≠p.2
 ris:uC ps=true
def owD(n:Int)(ps:gX):D:=.tup [.int n,.tup (ps.map pD)]
def aEA(p:Int×Int):tupI (pl p)=pD p:=rfl
def aGu(h:pl p=pl q):p=q:=by
 unfold pl at h;injection h with h1 h2
 injection h2 with h2 _
 exact zEx h1 h2
def tY(nd:ps.Nodup):∃qs:gX,rC (ps.map pl)=qs.map pl/\qs.Perm ps/\uC qs=true:=by
 obtain⟨qs,q1,q2⟩:=nJ (f:=pl) (mD (ps.map pl)) rfl;refine⟨qs,q2,q1,v6.mpr λ i p q e1 e2=>?_⟩;have hr:=jg (ps.map pl);rw[q2]at hr;have hnd:qs.Nodup:=q1.nodup_iff.mpr nd;have h1:=(zAM.mp e1).1;have h2:=(zAM.mp e2).1;have f1:(qs.map pl)[i]'(by simpa using h1)=pl p:=by
  rw[zCq,(zAM.mp e1).2]
 have f2:(qs.map pl)[i+1]'(by simpa using h2)=pl q:=by
  rw[zCq,(zAM.mp e2).2]
 have z:=zDL.mp hr i (i+1) (by simpa using h1) (by simpa using h2) (by lia);rw[f1,f2]at z;have hne:p≠q:=λ e=>by
  subst e
  have:=(zCL h1 hnd).mp (e1.trans e2.symm)
  lia
 show HT.lexLt (pl p) (pl q)=true;cases c:HT.lexLt (pl p) (pl q)with
 |true=>rfl
 |false=>exact absurd (aGu (sI _ _ c z)) hne
def aBA(ps:gX):lq (ps.map pD)=some (ps.map pl):=by
 have:=qx (nss:=ps.map pl) λ ns h=>by
  obtain⟨p,_,rfl⟩:=zAZ.mp h;simp[pl]
 rw[zAc]at this;exact this
def ar(os:List Int)(q:Nat×Nat):Int×Int:=(os.getD q.1 0,os.getD q.2 0)
def aCl{os:List Int}{k:Nat}(h:k<os.length):atD (os.map D.int) (k:Int)= .ok (.int (os.getD k 0)):=di (by rw[zAL,zAD h];simp[h])
def aFb{n:Nat}(hn:n<=60){ip:List (Nat×Nat)}(nd:ip.Nodup)(h:∀q∈ip,q.1<n/\q.2<n):ip.length<=3600:=by
 have:=sub_len (l':=(zAp 60).flatMap λ a=>(zAp 60).map λ b=>(a,b)) nd λ q hq=>by
  rw[zEV]
  have:=h q hq
  exact⟨q.1,by simp;omega,zAZ.mpr ⟨q.2,by simp;omega,rfl⟩⟩
 refine zAi this ?_;rw[List.length_flatMap];simp only[zAB,zCM];decide
def Ow.rp{n:Int}{ps:gX}(h:Ow n ps):rpB n (.tup (ps.map pD))=true:=by
 have e:(ps.map pD).map aEb=ps:=by rw[zAc];exact(zC5 λ p _=>rfl).trans (zF9 ps)
 unfold rpB;dsimp only;rw[e,h.ris,zCJ,zB9];intro d hd;obtain⟨p,hp,rfl⟩:=zAZ.mp hd;obtain⟨a,b,c,d,e⟩:=h.pr p hp;simp[pD,iJ,a,b,c,d,e]
theorem aA7:∀ps:gX,v9 (ps.map pD)=true
 |[]=>rfl
 |p::ps=>by simp only[zAG,v9,aA7 ps,zCJ];rfl
def uG{n:Int}{ps:gX}(h:Ow n ps):gf [owD n ps]= .ok (.bl true):=by
 have e1:=aAC (d:=.int n) rfl;have e2:=lL (m:=n) (d:=.tup (ps.map pD)) (by simpa[pln]using aA7 ps) (by have:=h.len;simp[aG9];lia);rw[h.rp]at e2;have e3:aAd (.int n)=true:=by simp[aAd,h.n0,h.n1]
 rw[e3]at e1;simp[gf,dJ,owD,ao,e1,e2]
def pL{n:Int}{ps:gX}(h:Ow n ps):cO [owD n ps]= .ok .non:=by
 have:=uG h
 simp[cO,bV,ao,this]
theorem gD:∀ns:List Int,bQ (ns.map .int)=0/\aX (ns.map .int)=true
 |[]=>⟨rfl,rfl⟩
 |n::ns=>by
  obtain⟨h1,h2⟩:=gD ns;simp[bQ,gR,aX,aV,h1,h2]
def aFO(neg:Bool)(y:Int)(ns:List Int):inR neg (.int y) (.lst (ns.map .int))= .ok (.bl (if neg then !decide (y∈ns)else decide (y∈ns))):=by
 obtain⟨h1,h2⟩:=gD ns;have e:inD (.int y) (ns.map .int)=decide (y∈ns):=by
  unfold inD;rw[zE2];simp[zFx,eqD]
 unfold inR;dsimp only;rw[h1,h2,e];rfl
theorem j0{α:Type}{Y:En}{fg:D->En->Rs En}{ft:En->Rs Bool}{fe:En->Rs D}{f g:α->D}{t:α->Bool}:∀(l:List α),(∀x∈l,∃Y1,fg (f x) Y= .ok Y1/\ft Y1= .ok (t x)/\fe Y1= .ok (g x))->lcL Y fg ft fe (l.map f)= .ok ((l.filter t).map g)
 |[],_=>rfl
 |x::l,h=>by
  obtain⟨Y1,e1,e2,e3⟩:=h x zAP;have ih:=j0 l λ y hy=>h y (zAK _ hy)
  rw[zAG];unfold lcL;rw[e1,aK,e2,aK,e3,aK,ih,aK,zCp];cases t x<;>rfl
def intOf:D->Int
 | .int i=>i
 |_=>0
def iM(h1:fi (shE Y)= .ok ds)(h2:ds.length<16777216)(h3:lcL (stE js (shE Y)) fg ft fe ds= .ok out):lcD fi js fg ft fe Y= .ok (.lst out):=by
 unfold lcD;rw[h1,aK,if_pos (by rw[szl];exact h2),h3]
def o7{α:Type}{f g:α->D}(l:List α)(h:∀x∈l,∃Y1,fg (f x) Y= .ok Y1/\fe Y1= .ok (g x)):lcL Y fg m9 fe (l.map f)= .ok (l.map g):=by
 have:=j0 (Y:=Y) (fg:=fg) (ft:=m9) (fe:=fe) (f:=f) (g:=g) (t:=λ _=>true) l λ x hx=>by
  obtain⟨Y1,h1,h2⟩:=h x hx;exact⟨Y1,h1,rfl,h2⟩
 rwa [List.filter_eq_self.mpr λ _ _=>rfl]at this
def yI(neg:Bool)(y:Int)(ns:List Int):inR neg (.int y) (.tup (ns.map .int))= .ok (.bl (if neg then !decide (y∈ns)else decide (y∈ns))):=aFO neg y ns
def iR(ws:List Int):fM (ws.map .int)=true:=sr ws
def yr(nd:ps.Nodup)(h:ps.length<64):∃qs:gX,lN [.lst (ps.map pD)]= .ok (.lst (qs.map pD))/\qs.Perm ps/\uC qs=true:=by
 obtain⟨qs,q1,q2,q3⟩:=tY nd;refine⟨qs,?_,q2,q3⟩;unfold lN;dsimp only;rw[aBA];dsimp only;rw[if_pos (by rw[zAB];exact h),q1,zAc];exact congrArg (λ l=>Rs.ok (D.lst l)) (zC5 λ p _=>aEA p)
abbrev orE(c most:Int)(n kd:Nat)(t:Int)(os:List Int)(ip:List (Nat×Nat))(sp:Int)(s8 s9:Slot):En:=
 [.sh (.int c),.sh (.int most),.sh (.int n),.sh (.int kd),.nw (.int t),.sh (.lst (os.map .int)),.ow (.lst ((ip.map (ar os)).map pD)),.sh (.int sp),s8,s9]
structure Jps(n j i:Nat)(ip:List (Nat×Nat)):Prop where
 nd:ip.Nodup
 ok:∀q∈ip,q.1<q.2/\q.2<n/\(q.2<j\/(q.2=j/\q.1<i))
def aCm{os:List Int}(hn:n<=60)(hj:j<n)(ho:aFf n os){sp:Int}(h0:0<=sp)(h1:sp<=2+60*j)(hip:Jps n j 0 ip):
  ∃ip' sp' s9',forL (gnm 9) aCn (cN 0 (j:Int)) (orE c most n kd t os ip sp (.sh (.int j)) s9)= .nx (orE c most n kd t os ip' sp' (.sh (.int j)) s9')/\0<=sp'/\sp'<=2+60*(j+1)/\Jps n (j+1) 0 ip':=by
 have hW:(cN 0 (j:Int)).length=j:=by rw[jL];lia
 obtain⟨Y',e,ip',sp',s9',rfl,q0,q1,q2⟩:=gC (a:=gnm 9) (u:=aCn) (cN 0 (j:Int))
  (λ i Y=>∃ip sp s9,Y=orE c most n kd t os ip sp (.sh (.int j)) s9/\0<=sp/\sp<=2+60*j+i/\Jps n j i ip) (orE c most n kd t os ip sp (.sh (.int j)) s9) ⟨ip,sp,s9,rfl,h0,by lia,hip⟩ (by
   rintro i d Y hd ⟨ip,sp,s9,rfl,p0,p1,p2⟩;obtain⟨rfl,hlt⟩:=nG hd;have hij:i<j:=by lia
   obtain⟨h,eh,hh0,hh1⟩:=wF (c:=c) (k:=sp+1) (b:=8) (by lia) (by lia) (by decide) (by decide);have hzl:=aFb hn p2.nd λ q hq=>⟨by have:=p2.ok q hq;lia,(p2.ok q hq).2.1⟩
   have hi':i<os.length:=by rw[ho.len];lia
   have hj':j<os.length:=by rw[ho.len];lia
   have st1:∃ip1,orB (orE c most n kd t os ip (sp+1) (.sh (.int j)) (.sh (.int i)))= .nx (orE c most n kd t os ip1 (sp+1) (.sh (.int j)) (.sh (.int i)))/\(ip1=ip\/ip1=ip++[(i,j)]):=by
    obtain⟨b,hc⟩:∃b,(orT (tsb (op2 ltD (aU bH (aB (aC 0) (aB (aC 7) (aB (cD (.int 8)) aG)))) (qO 4))) (aDi (tsb (op2 (eqR false) (aC 3) (cD (.int 5)))) (tsb (op2 (inR false) (aC 8) (bW (aB (op2 bT (op2 dR (cD (.int 2)) (aC 9)) (cD (.int 1))) (aB (op2 bT (op2 dR (cD (.int 2)) (aC 9)) (cD (.int 2))) aG))))))) (orE c most n kd t os ip (sp+1) (.sh (.int j)) (.sh (.int i)))= .ok b:=by
     have eA:tsb (op2 ltD (aU bH (aB (aC 0) (aB (aC 7) (aB (cD (.int 8)) aG)))) (qO 4)) (orE c most n kd t os ip (sp+1) (.sh (.int j)) (.sh (.int i)))= .ok (decide (h<t)):=by
      have e0:aB (aC 0) (aB (aC 7) (aB (cD (.int 8)) aG)) (orE c most n kd t os ip (sp+1) (.sh (.int j)) (.sh (.int i)))= .ok [.int c,.int (sp+1),.int 8]:=rfl;rw[jf,cX,gF,e0,aK,eh];rfl
     have eB:tsb (op2 (eqR false) (aC 3) (cD (.int 5))) (orE c most n kd t os ip (sp+1) (.sh (.int j)) (.sh (.int i)))= .ok ((kd:Int)==5):=rfl;have eC:tsb (op2 (inR false) (aC 8) (bW (aB (op2 bT (op2 dR (cD (.int 2)) (aC 9)) (cD (.int 1))) (aB (op2 bT (op2 dR (cD (.int 2)) (aC 9)) (cD (.int 2))) aG)))) (orE c most n kd t os ip (sp+1) (.sh (.int j)) (.sh (.int i)))= .ok (decide ((j:Int)∈[2*(i:Int)+1,2*(i:Int)+2])):=by
      have hm:dR (.int 2) (.int i)= .ok (.int (2*(i:Int))):=vm (by decide) (by decide);have hi:=yI false (j:Int) [2*(i:Int)+1,2*(i:Int)+2];simp only[zAG,zEQ]at hi;have ht:bW (aB (op2 bT (op2 dR (cD (.int 2)) (aC 9)) (cD (.int 1))) (aB (op2 bT (op2 dR (cD (.int 2)) (aC 9)) (cD (.int 2))) aG)) (orE c most n kd t os ip (sp+1) (.sh (.int j)) (.sh (.int i)))= .ok (.tup [.int (2*(i:Int)+1),.int (2*(i:Int)+2)]):=by simp[hm]
      rw[jf,cX,ht]
      show(((Rs.ok (D.int j)).bd λ x=>(Rs.ok (D.tup [.int (2*(i:Int)+1),.int (2*(i:Int)+2)])).bd λ y=>okD (inR false x y)).bd blD)=_
      rw[aK,aK,hi];rfl
     rw[aHL,eA,aFa,eB,eC];cases decide (h<t)<;>cases (kd:Int)==5<;>exact⟨_,rfl⟩
    cases b with
    |true=>
     refine⟨_,?_,.inr rfl⟩;simp only[orB,wC,hc,bh,if_pos];have hz:ip.length<16777216:=by lia
     simp[qX,aCl hi',aCl hj',hz,ar,pD]
    |false=>
     refine⟨_,?_,.inl rfl⟩;simp only[orB,wC,hc,bh];rfl
   obtain⟨ip1,e1,c1⟩:=st1;refine⟨_,?_,ip1,sp+1,.sh (.int i),rfl,by lia,by lia,?_⟩
   .have s7:cU 7 (op2 bT (aC 7) (cD (.int 1))) (orE c most n kd t os ip sp (.sh (.int j)) (.sh (.int i)))= .nx (orE c most n kd t os ip (sp+1) (.sh (.int j)) (.sh (.int i))):=by first|rfl|simp
    rw[Int.zero_add];show aCn (orE c most n kd t os ip sp (.sh (.int j)) (.sh (.int i)))=_;unfold aCn;rw[aR,s7,ak,e1]
   .have pV:∀q∈ip,q.1<q.2/\q.2<n/\(q.2<j\/(q.2=j/\q.1<i+1)):=λ q hq=>by have:=p2.ok q hq;lia
    have n1:(i,j)∉ip:=λ hm=>by have:=p2.ok _ hm;simp only at this;lia
    rcases c1 with rfl|rfl
    .exact⟨p2.nd,pV⟩
    .refine⟨zBU.mpr ⟨p2.nd,by simp,λ x hx y hy z=>?_⟩,λ q hq=>?_⟩
     .rw[zA7]at hy;subst hy;subst z;exact n1 hx
     .rcases zAe.mp hq with z|z
      .exact pV q z
      .rw[zA7.mp z];exact⟨hij,hj,.inr ⟨rfl,zBX i⟩⟩)
 rw[hW]at q1 q2;refine⟨ip',sp',s9',e,q0,by lia,q2.nd,λ q hq=>?_⟩
 have:=q2.ok q hq
 lia
def Up(n:Nat)(ps:gX):Prop:=∃os:List Int,aFf n os/\∀p∈ps,∃q:Nat×Nat,q.1<q.2/\q.2<n/\p=ar os q
def aG2{kd:Nat}(h:kd<6):∃t:Int,atD ([1,2,3,5,8,0].map D.int) (kd:Int)= .ok (.int t):=⟨_,aCl (os:=[1,2,3,5,8,0]) (k:=kd) (by simpa using h)⟩
def sV{most:Nat}(h1:most<=9):∃(n:Nat) (ps:gX),dX [.int c,.int most]= .ok (owD n ps)/\Ow n ps/\n<=most/\ps.length<64/\Up n ps:=by
 obtain⟨n,en,hn⟩:=aAu (c:=c) (k:=0) (b:=(most:Int)+1) (by decide) (by decide) (by lia) (by lia);obtain⟨kd,ek,hk⟩:=aAu (c:=c) (k:=1) (b:=6) (by decide) (by decide) (by decide) (by decide);have hn8:n<=9:=by lia
 obtain⟨t,et⟩:=aG2 (kd:=kd) (by lia);obtain⟨os,eo,ho⟩:=yD (c:=c) (n:=n) (by lia);have hr1:=dZ (j:=(n:Int)) (by lia) (by lia);have hW:(cN 0 (n:Int)).length=n:=by rw[jL];lia
 obtain⟨Y',e,ip,sp,s8,s9,rfl,_,_,hip⟩:=gC (a:=gnm 8) (u:=aAa) (cN 0 (n:Int))
  (λ j Y=>∃ip sp s8 s9,Y=orE c most n kd t os ip sp s8 s9/\0<=sp/\sp<=2+60*j/\Jps n j 0 ip) (orE c most n kd t os [] 2 .no .no) ⟨[],2,.no,.no,rfl,by lia,by lia,by simp,λ q hq=>by simp at hq⟩ (by
   rintro j d Y hd ⟨ip,sp,s8,s9,rfl,p0,p1,p2⟩;obtain⟨rfl,hlt⟩:=nG hd;have hr2:=dZ (j:=(j:Int)) (by lia) (by lia);obtain⟨ip',sp',s9',e,q0,q1,q2⟩:=aCm (c:=c) (most:=most) (t:=t) (n:=n) (kd:=kd) (j:=j) (os:=os) (by lia) (by lia) ho (s9:=s9) p0 p1 p2;refine⟨_,?_,ip',sp',.sh (.int j),s9',rfl,q0,by lia,q2⟩;rw[Int.zero_add,wD,rm,show(orE c most n kd t os ip sp s8 s9).set 8 (.sh (.int j))=orE c most n kd t os ip sp (.sh (.int j)) s9 from rfl];unfold aAa;have hi:(dm fJ (aB (aC 8) aG)) (orE c most n kd t os ip sp (.sh (.int j)) s9)= .ok (cN 0 (j:Int)):=by simp[hr2]
   rw[g8,hi,bh,e])
 rw[hW]at hip;have gi:∀k l,k<n->l<n->os.getD k 0=os.getD l 0->k=l:=λ k l hk hl z=>by
  have k1:k<os.length:=by rw[ho.len];exact hk
  have k2:l<os.length:=by rw[ho.len];exact hl
  have:os[k]? =os[l]?:=by
   rw[zAD k1,zAD k2];simpa[k1,k2]using z
  exact(zCL k1 ho.nd).mp this
 have hin:∀p∈ip.map (ar os),0<=p.1/\p.1<n/\0<=p.2/\p.2<n/\p.1≠p.2:=λ p hp=>by
  obtain⟨q,hq,rfl⟩:=zAZ.mp hp;obtain⟨a1,a2,_⟩:=hip.ok q hq;have g:∀k,k<n->os.getD k 0∈os:=λ k hk=>by
   have:k<os.length:=by rw[ho.len];exact hk
   simp[this]
  have l1:=ho.lo _ (g q.1 (by lia));have l2:=ho.lo _ (g q.2 a2);refine⟨l1.1,l1.2,l2.1,l2.2,λ z=>?_⟩
  have:=gi _ _ (by lia) a2 z
  lia
 have hnd:(ip.map (ar os)).Nodup:=uY hip.nd λ x hx y hy e=>by
  have x1:=hip.ok x hx;have y1:=hip.ok y hy;have e1:os.getD x.1 0=os.getD y.1 0:=congrArg zEy e;have e2:os.getD x.2 0=os.getD y.2 0:=congrArg Prod.snd e;exact zEx (gi _ _ (by lia) (by lia) e1) (gi _ _ (by lia) (by lia) e2)
 have hl:ip.length<64:=by
  have:=sub_len (l':=(zAp 9).flatMap λ b=>(zAp b).map λ a=>(a,b)) hip.nd λ q hq=>by
   rw[zEV]
   have:=hip.ok q hq
   exact⟨q.2,by simp;lia,zAZ.mpr ⟨q.1,by simp;lia,rfl⟩⟩
  have h36:((zAp 9).flatMap λ b=>(zAp b).map λ a=>(a,b)).length=36:=by decide
  lia
 obtain⟨qs,s1,s2,s3⟩:=yr hnd (by rw[zAB];exact hl);have hl2:qs.length<64:=by rw[s2.length_eq,zAB];exact hl
 refine⟨n,qs,?_,⟨by lia,by lia,by lia,λ p hp=>hin p (s2.mem_iff.mp hp),s3⟩,by lia,hl2,os,ho,λ p hp=>?_⟩
 .have st:ao 10 [.int c,.int most]=[.sh (.int c),.sh (.int most),.no,.no,.no,.no,.no,.no,.no,.no]:=rfl
  have et':atD [D.int 1,D.int 2,D.int 3,D.int 5,D.int 8,D.int 0] (kd:Int)= .ok (.int t):=et;have a1:cU 2 (aU bH (aB (aC 0) (aB (cD (.int 0)) (aB (op2 bT (aC 1) (cD (.int 1))) aG)))) [.sh (.int c),.sh (.int most),.no,.no,.no,.no,.no,.no,.no,.no]= .nx [.sh (.int c),.sh (.int most),.sh (.int n),.no,.no,.no,.no,.no,.no,.no]:=by simp[en]
  have a2:cU 3 (aU bH (aB (aC 0) (aB (cD (.int 1)) (aB (cD (.int 6)) aG)))) [.sh (.int c),.sh (.int most),.sh (.int n),.no,.no,.no,.no,.no,.no,.no]= .nx [.sh (.int c),.sh (.int most),.sh (.int n),.sh (.int kd),.no,.no,.no,.no,.no,.no]:=by simp[ek]
  have a3:tZ 4 (op2 ixD (gZ (aB (cD (.int 1)) (aB (cD (.int 2)) (aB (cD (.int 3)) (aB (cD (.int 5)) (aB (cD (.int 8)) (aB (cD (.int 0)) aG))))))) (aC 3)) [.sh (.int c),.sh (.int most),.sh (.int n),.sh (.int kd),.no,.no,.no,.no,.no,.no]= .nx [.sh (.int c),.sh (.int most),.sh (.int n),.sh (.int kd),.nw (.int t),.no,.no,.no,.no,.no]:=by simp[et']
  have a4:cU 5 (aU ig (aB (aC 0) (aB (aC 2) aG))) [.sh (.int c),.sh (.int most),.sh (.int n),.sh (.int kd),.nw (.int t),.no,.no,.no,.no,.no]= .nx [.sh (.int c),.sh (.int most),.sh (.int n),.sh (.int kd),.nw (.int t),.sh (.lst (os.map .int)),.no,.no,.no,.no]:=by simp[eo]
  have a5:jV 6 (gZ aG) [.sh (.int c),.sh (.int most),.sh (.int n),.sh (.int kd),.nw (.int t),.sh (.lst (os.map .int)),.no,.no,.no,.no]= .nx [.sh (.int c),.sh (.int most),.sh (.int n),.sh (.int kd),.nw (.int t),.sh (.lst (os.map .int)),.ow (.lst []),.no,.no,.no]:=by first|rfl|simp
  have a6:cU 7 (cD (.int 2)) [.sh (.int c),.sh (.int most),.sh (.int n),.sh (.int kd),.nw (.int t),.sh (.lst (os.map .int)),.ow (.lst []),.no,.no,.no]= .nx (orE c most n kd t os [] 2 .no .no):=by first|rfl|simp
  have a7:j7 (dm fJ (aB (aC 2) aG)) (gnm 8) aAa (orE c most n kd t os [] 2 .no .no)= .nx (orE c most n kd t os ip sp s8 s9):=by
   have hi:(dm fJ (aB (aC 2) aG)) (orE c most n kd t os [] 2 .no .no)= .ok (cN 0 (n:Int)):=by simp[hr1]
   rw[g8,hi,bh];exact e
  have a8:opA lN (aB (fG 6) aG) (orE c most n kd t os ip sp s8 s9)= .ok (.lst (qs.map pD)):=by
   have hv:(aB (fG 6) aG) (orE c most n kd t os ip sp s8 s9)= .ok [.lst ((ip.map (ar os)).map pD)]:=by first|rfl|simp
   rw[jm,hv,aK,s1,dO]
  have a9:retS (bW (aB (bL (aC 2)) (aB (opA iG (aB (opA lN (aB (fG 6) aG)) aG)) aG))) (orE c most n kd t os ip sp s8 s9)= .rt (owD n qs):=by
   have ha:aB (opA lN (aB (fG 6) aG)) aG (orE c most n kd t os ip sp s8 s9)= .ok [.lst (qs.map pD)]:=by rw[bI,a8,aK,cC,aK]
   have hb:opA iG (aB (opA lN (aB (fG 6) aG)) aG) (orE c most n kd t os ip sp s8 s9)= .ok (.tup (qs.map pD)):=by rw[jm,ha,aK,qy,dO]
   have hc:bL (aC 2) (orE c most n kd t os ip sp s8 s9)= .ok (.int n):=by first|rfl|simp
   rw[kO,aEB,bI,hc,aK,bI,hb,aK,cC,aK,aK,aK,if_pos (by simp),bh];rfl
  simp only[dX,bZ,st,cR];rw[aR,a1,ak,aR,a2,ak,aR,a3,ak,aR,a4,ak,aR,a5,ak,aR,a6,ak,aR,a7,ak,a9]
 .obtain⟨q,hq,rfl⟩:=zAZ.mp (s2.mem_iff.mp hp)
  obtain⟨a1,a2,_⟩:=hip.ok q hq;exact⟨q,a1,a2,rfl⟩
def bM(ll:dP)(p:Int×Int):dP:=ll.set p.1.toNat (ll.getD p.1.toNat []++[.int p.2])
theorem xx{w:Slot}:∀(ps:gX) (ll:dP) (s2 s3:Slot),(∀p∈ps,0<=p.1/\p.1<ll.length)->(∀l∈ll,l.length+ps.length<=10000)->
  ∃s2' s3',forL (lJ 2 (bz (gnm 2) (bz (gnm 3) mV))) (eN 1 (aC 2) (bL (aC 3))) (ps.map pD) [w,.o2 ll,s2,s3]= .nx [w,.o2 (ps.foldl bM ll),s2',s3']
 |[],ll,s2,s3,_,_=>⟨s2,s3,rfl⟩
 |p::ps,ll,s2,s3,h,hl=>by
  obtain⟨h0,h1⟩:=h p zAP;have hk:p.1.toNat<ll.length:=by lia
  have hin:ll.getD p.1.toNat []∈ll:=by simp[hk]
  have hz:=hl _ hin;obtain⟨s2',s3',e⟩:=xx (w:=w) ps (bM ll p) (.sh (.int p.1)) (.sh (.int p.2)) (λ q hq=>by unfold bM;rw[zAw];exact h q (zAK _ hq)) (λ l hm=>by
   unfold bM at hm;rcases zEh hm with z|z
   .have:=hl l z
    simp at this;lia
   .subst z
    simp at hz ⊢;lia)
  refine⟨s2',s3',?_⟩;rw[zAG,gk,zDD];have ha:at2 ll (.int p.1)=some (p.1.toNat,ll.getD p.1.toNat []):=by
   have hx:ixN ll.length p.1=some p.1.toNat:=by
    unfold ixN;rw[if_pos (by lia),if_pos (by lia)]
   simp only[at2,hx,zCm];rw[zAD hk];simp[hk]
  have hb:okE (lJ 2 (bz (gnm 2) (bz (gnm 3) mV)) (pD p) [w,.o2 ll,s2,s3]) (λ Y1=>(eN 1 (aC 2) (bL (aC 3)) Y1).tn (forL (lJ 2 (bz (gnm 2) (bz (gnm 3) mV))) (eN 1 (aC 2) (bL (aC 3))) (ps.map pD)))=
    (eN 1 (aC 2) (bL (aC 3)) [w,.o2 ll,.sh (.int p.1),.sh (.int p.2)]).tn (forL (lJ 2 (bz (gnm 2) (bz (gnm 3) mV))) (eN 1 (aC 2) (bL (aC 3))) (ps.map pD)):=by
   simp[pD]
  have hc:eN 1 (aC 2) (bL (aC 3)) [w,.o2 ll,.sh (.int p.1),.sh (.int p.2)]= .nx [w,.o2 (bM ll p),.sh (.int p.1),.sh (.int p.2)]:=by
   have hz2:(ll.getD p.1.toNat []).length<16777216:=by simp at hz ⊢;lia
   unfold eN;simp only[zBN,zBA];simp[ha];rw[if_pos (by simpa using hz2)];simp[bM]
  rw[hb,hc,aCB];exact e
theorem jO:∀(ps:gX) (ll:dP),(ps.foldl bM ll).length=ll.length
 |[],_=>rfl
 |p::ps,ll=>by rw[zDD,jO ps];unfold bM;rw[zAw]
def bF(ps:gX)(i:Int):List Int:=(ps.filter λ p=>p.1==i).map (·.2)
theorem pC:∀(ps:gX) (ll:dP) (i:Nat),(∀p∈ps,0<=p.1/\p.1<ll.length)->i<ll.length->(ps.foldl bM ll).getD i []=ll.getD i []++(bF ps i).map .int
 |[],ll,i,_,_=>by simp[bF]
 |p::ps,ll,i,h,hi=>by
  obtain⟨h0,h1⟩:=h p zAP;rw[zDD,pC ps (bM ll p) i (λ q hq=>by unfold bM;rw[zAw];exact h q (zAK _ hq)) (by unfold bM;rw[zAw];exact hi)];unfold bM bF;by_cases c:p.1=i
  .have hk:p.1.toNat=i:=by lia
   rw[hk,List.filter_cons_of_pos (by simpa using c)];simp[hi]
  .have hk:p.1.toNat≠i:=by lia
   rw[List.filter_cons_of_neg (by simpa using c)];simp[zBC hk]
structure aDm(n:Int)(ps:gX)(ll:dP):Prop where
 len:ll.length=n.toNat
 item:∀i:Int,0<=i->i<n->atD (ll.map .lst) i= .ok (.lst ((bF ps i).map .int))
def tO{n:Int}{ps:gX}(h:Ow n ps):∃ll,fY [owD n ps]= .ok (.lst (ll.map .lst))/\aDm n ps ll:=by
 have hr:=dZ (j:=n) (by have:=h.n0;lia) (by have:=h.n1;lia);have hW:(cN 0 n).length=n.toNat:=by rw[jL];lia
 have hn1:=h.n1;have hps:=h.len;have hin:∀p∈ps,0<=p.1/\p.1<(zAJ n.toNat ([]:List D)).length:=λ p hp=>by
  obtain⟨a,b,_⟩:=h.pr p hp;rw[zBK];lia
 obtain⟨s2,s3,e⟩:=xx (w:=.sh (owD n ps)) ps (zAJ n.toNat []) .no .no hin (λ l hl=>by
  rw[(zFf.mp hl).2];simp;lia)
 refine⟨ps.foldl bM (zAJ n.toNat []),?_,by rw[jO,zBK],λ i h0 h1=>?_⟩
 .have hz:n.toNat<16777216:=by lia
  have a1:llS 1 (dm fJ (aB (op2 ixD (aC 0) (cD (.int 0))) aG)) [none] (gnm 0) [.sh (owD n ps),.no,.no,.no]= .nx [.sh (owD n ps),.o2 (zAJ n.toNat []),.no,.no]:=by
   unfold llS;simp[shE,nA,owD,hr,hW,hz]
  have a2:j7 (gB (op2 ixD (aC 0) (cD (.int 1)))) (lJ 2 (bz (gnm 2) (bz (gnm 3) mV))) (eN 1 (aC 2) (bL (aC 3))) [.sh (owD n ps),.o2 (zAJ n.toNat []),.no,.no]= .nx [.sh (owD n ps),.o2 (ps.foldl bM (zAJ n.toNat [])),s2,s3]:=by
   have hi:gB (op2 ixD (aC 0) (cD (.int 1))) [.sh (owD n ps),.o2 (zAJ n.toNat []),.no,.no]= .ok (ps.map pD):=by simp[owD]
   rw[g8,hi,bh];exact e
  have a3:retS (qN 1) [.sh (owD n ps),.o2 (ps.foldl bM (zAJ n.toNat [])),s2,s3]= .rt (.lst ((ps.foldl bM (zAJ n.toNat [])).map .lst)):=by simp
  have st:ao 4 [owD n ps]=[.sh (owD n ps),.no,.no,.no]:=rfl;simp only[fY,gw,bZ,st];rw[aR,a1,ak,aR,a2,ak,a3]
 .have hk:i.toNat<(zAJ n.toNat ([]:List D)).length:=by rw[zBK];lia
  have hg:=pC ps (zAJ n.toNat []) i.toNat hin hk;have hk2:i.toNat<(ps.foldl bM (zAJ n.toNat [])).length:=by rw[jO];exact hk
  have hi:((i.toNat:Nat):Int)=i:=zB2 h0;rw[hi]at hg;rw[<-hi];refine di ?_;rw[hi,zAL,zAD hk2]
  have:(ps.foldl bM (zAJ n.toNat []))[i.toNat]=(bF ps i).map .int:=by
   have e1:(ps.foldl bM (zAJ n.toNat [])).getD i.toNat []=(ps.foldl bM (zAJ n.toNat []))[i.toNat]:=by simp[hk2]
   rw[<-e1,hg];have e2:(zAJ n.toNat ([]:List D)).getD i.toNat []=[]:=by
    rw[zAQ,zBs];split<;>rfl
   rw[e2,zCE]
  rw[this];rfl
def iz{ps:gX}{a b:Int}:b∈bF ps a↔(a,b)∈ps:=by
 unfold bF;simp only[zAZ,zAl];constructor
 .rintro⟨p,⟨h1,h2⟩,rfl⟩
  have:p.1=a:=by simpa using h2
  rw[<-this];exact h1
 .intro h
  exact⟨(a,b),⟨h,by simp⟩,rfl⟩
def upI(n:Int):List Int:=(zAp n.toNat).map λ(k:Nat)=>(k:Int)
def v4(n:Int):cN 0 n=(upI n).map .int:=by
 unfold cN upI;rw[zAc,show(n-0).toNat=n.toNat by lia];exact zC5 λ k _=>by simp
def wW(n:Int):(upI n).Nodup:=by
 unfold upI;rw[zB8,zDS];exact List.nodup_range.imp λ h e=>h (by lia)
def cZ{x n:Int}:x∈upI n↔0<=x/\x<n:=by
 unfold upI;rw[zAZ];constructor
 .rintro⟨k,hk,rfl⟩
  have:=zCh.mp hk
  lia
 .rintro⟨h0,h1⟩
  exact⟨x.toNat,zCh.mpr (by lia),by lia⟩
def iD(n:Int):(upI n).length=n.toNat:=by unfold upI;simp
def o6{l:List Int}(nd:l.Nodup)(rg:∀x∈l,0<=x/\x<n):l.length<=n.toNat:=by
 have:=nd.length_le_of_subset (l₂:=upI n) λ x hx=>cZ.mpr (rg x hx)
 rwa [iD]at this
theorem uy:∀(a b:List Int),jy (a.map .int) (b.map .int)=decide (a=b)
 |[],[]=>rfl
 |[],y::b=>by simp[jy]
 |x::a,[]=>by simp[jy]
 |x::a,y::b=>by
  have:=uy a b
  simp only[zAG,jy,eqD,this,List.cons.injEq];by_cases h:x=y<;>simp[h]
theorem aDI{c:En->Rs Bool}{b:En->Ou}{I:Nat->En->Prop}(st:∀m Y,I m Y->c Y= .ok false\/(c Y= .ok true/\∃Y' m',b Y= .nx Y'/\m'<m/\I m' Y')):
  ∀(n m:Nat) (Y:En),m<n->I m Y->∃Y' m',itW c b n Y= .nx Y'/\I m' Y'/\c Y'= .ok false
 |0,_,_,h,_=>absurd h (zDk _)
 |n+1,m,Y,h,hI=>by
  rcases st m Y hI with e|⟨e,Y',m',e2,hm,hI'⟩
  .exact⟨Y,m,by unfold itW;rw[e];rfl,hI,e⟩
  .obtain⟨Y2,m2,e3,r⟩:=aDI st n m' Y' (by lia) hI'
   refine⟨Y2,m2,?_,r⟩;unfold itW;rw[e,bh,if_pos rfl,e2];exact e3
def wU{c:En->Rs Bool}{b:En->Ou}(I:Nat->En->Prop)(st:∀m Y,I m Y->c Y= .ok false\/(c Y= .ok true/\∃Y' m',b Y= .nx Y'/\m'<m/\I m' Y')){m:Nat}{Y:En}(hm:m<1000000)(h:I m Y):
  ∃Y' m',vK c b Y= .nx Y'/\I m' Y'/\c Y'= .ok false:=aDI st fuel m Y hm h
def aAe{p q:Int×Int}:ltP p q=true↔p.1<q.1\/p.1=q.1/\p.2<q.2:=by
 unfold ltP;have e:HT.lexLt [p.1,p.2] [q.1,q.2]=true↔p.1<q.1\/p.1=q.1/\p.2<q.2:=by
  by_cases h1:p.1=q.1
  .by_cases h2:p.2=q.2
   .simp[HT.lexLt,h1,h2]
   .simp[HT.lexLt,h1,h2]
  .simp[HT.lexLt,h1]
 exact e
def xN{ps:gX}:uC ps=true↔ps.Pairwise λ p q=>p.1<q.1\/p.1=q.1/\p.2<q.2:=by
 constructor
 .intro h
  have h':=v6.mp h;clear h;induction ps with
  |nil=>exact .nil
  |cons p ps ih=>
   have hs:∀(i:Nat) (p q:Int×Int),ps[i]? =some p->ps[i+1]? =some q->ltP p q=true:=λ i a b e1 e2=>h' (i+1) a b e1 e2
   have hp:=ih hs;refine zAf.mpr ⟨λ q hq=>?_,hp⟩;cases ps with
   |nil=>cases hq
   |cons r rs=>
    have h1:=aAe.mp (h' 0 p r rfl rfl);rcases zAV.mp hq with rfl|hq
    .exact h1
    .have h2:=(zAf.mp hp).1 q hq
     lia
 .intro h
  rw[v6];intro i p q e1 e2;rw[aAe];obtain⟨h1,rfl⟩:=zAM.mp e1;obtain⟨h2,rfl⟩:=zAM.mp e2;exact zDL.mp h i (i+1) h1 h2 (zBX i)
def sw(p:Int×Int):Int×Int:=(p.2,p.1)
theorem vD{w:Slot}:∀(ps:gX) (ll:dP) (s2 s3:Slot),(∀p∈ps,0<=p.2/\p.2<ll.length)->(∀l∈ll,l.length+ps.length<=10000)->
  ∃s2' s3',forL (lJ 2 (bz (gnm 2) (bz (gnm 3) mV))) (eN 1 (aC 3) (bL (aC 2))) (ps.map pD) [w,.o2 ll,s2,s3]= .nx [w,.o2 ((ps.map sw).foldl bM ll),s2',s3']
 |[],ll,s2,s3,_,_=>⟨s2,s3,rfl⟩
 |p::ps,ll,s2,s3,h,hl=>by
  obtain⟨h0,h1⟩:=h p zAP;have hk:p.2.toNat<ll.length:=by lia
  have hin:ll.getD p.2.toNat []∈ll:=by simp[hk]
  have hz:=hl _ hin;obtain⟨s2',s3',e⟩:=vD (w:=w) ps (bM ll (sw p)) (.sh (.int p.1)) (.sh (.int p.2)) (λ q hq=>by unfold bM;rw[zAw];exact h q (zAK _ hq)) (λ l hm=>by
   unfold bM at hm;rcases zEh hm with z|z
   .have:=hl l z
    simp at this;lia
   .subst z
    simp[sw]at hz ⊢;lia)
  refine⟨s2',s3',?_⟩;rw[zAG,zAG,gk,zDD];have ha:at2 ll (.int p.2)=some (p.2.toNat,ll.getD p.2.toNat []):=by
   have hx:ixN ll.length p.2=some p.2.toNat:=by
    unfold ixN;rw[if_pos (by lia),if_pos (by lia)]
   simp only[at2,hx,zCm];rw[zAD hk];simp[hk]
  have hb:okE (lJ 2 (bz (gnm 2) (bz (gnm 3) mV)) (pD p) [w,.o2 ll,s2,s3]) (λ Y1=>(eN 1 (aC 3) (bL (aC 2)) Y1).tn (forL (lJ 2 (bz (gnm 2) (bz (gnm 3) mV))) (eN 1 (aC 3) (bL (aC 2))) (ps.map pD)))=
    (eN 1 (aC 3) (bL (aC 2)) [w,.o2 ll,.sh (.int p.1),.sh (.int p.2)]).tn (forL (lJ 2 (bz (gnm 2) (bz (gnm 3) mV))) (eN 1 (aC 3) (bL (aC 2))) (ps.map pD)):=by
   simp[pD]
  have hc:eN 1 (aC 3) (bL (aC 2)) [w,.o2 ll,.sh (.int p.1),.sh (.int p.2)]= .nx [w,.o2 (bM ll (sw p)),.sh (.int p.1),.sh (.int p.2)]:=by
   have hz2:(ll.getD p.2.toNat []).length<16777216:=by simp at hz ⊢;lia
   unfold eN;simp only[zBN,zBA];simp[ha];rw[if_pos (by simpa using hz2)];simp[bM,sw]
  rw[hb,hc,aCB];exact e
def qM{n:Int}{ps:gX}(h:Ow n ps):∃ll,fZ [owD n ps]= .ok (.lst (ll.map .lst))/\aDm n (ps.map sw) ll:=by
 have hr:=dZ (j:=n) (by have:=h.n0;lia) (by have:=h.n1;lia);have hW:(cN 0 n).length=n.toNat:=by rw[jL];lia
 have hn1:=h.n1;have hps:=h.len;have hin:∀p∈ps,0<=p.2/\p.2<(zAJ n.toNat ([]:List D)).length:=λ p hp=>by
  obtain⟨_,_,a,b,_⟩:=h.pr p hp;rw[zBK];lia
 obtain⟨s2,s3,e⟩:=vD (w:=.sh (owD n ps)) ps (zAJ n.toNat []) .no .no hin (λ l hl=>by
  rw[(zFf.mp hl).2];simp;lia)
 refine⟨(ps.map sw).foldl bM (zAJ n.toNat []),?_,by rw[jO,zBK],λ i h0 h1=>?_⟩
 .have hz:n.toNat<16777216:=by lia
  have a1:llS 1 (dm fJ (aB (op2 ixD (aC 0) (cD (.int 0))) aG)) [none] (gnm 0) [.sh (owD n ps),.no,.no,.no]= .nx [.sh (owD n ps),.o2 (zAJ n.toNat []),.no,.no]:=by
   unfold llS;simp[shE,nA,owD,hr,hW,hz]
  have a2:j7 (gB (op2 ixD (aC 0) (cD (.int 1)))) (lJ 2 (bz (gnm 2) (bz (gnm 3) mV))) (eN 1 (aC 3) (bL (aC 2))) [.sh (owD n ps),.o2 (zAJ n.toNat []),.no,.no]= .nx [.sh (owD n ps),.o2 ((ps.map sw).foldl bM (zAJ n.toNat [])),s2,s3]:=by
   have hi:gB (op2 ixD (aC 0) (cD (.int 1))) [.sh (owD n ps),.o2 (zAJ n.toNat []),.no,.no]= .ok (ps.map pD):=by simp[owD]
   rw[g8,hi,bh];exact e
  have a3:retS (qN 1) [.sh (owD n ps),.o2 ((ps.map sw).foldl bM (zAJ n.toNat [])),s2,s3]= .rt (.lst (((ps.map sw).foldl bM (zAJ n.toNat [])).map .lst)):=by simp
  have st:ao 4 [owD n ps]=[.sh (owD n ps),.no,.no,.no]:=rfl;simp only[fZ,fW,bZ,st];rw[aR,a1,ak,aR,a2,ak,a3]
 .have hk:i.toNat<(zAJ n.toNat ([]:List D)).length:=by rw[zBK];lia
  have hg:=pC (ps.map sw) (zAJ n.toNat []) i.toNat (λ q hq=>by obtain⟨p,hp,rfl⟩:=zAZ.mp hq;exact hin p hp) hk;have hk2:i.toNat<((ps.map sw).foldl bM (zAJ n.toNat [])).length:=by rw[jO];exact hk
  have hi:((i.toNat:Nat):Int)=i:=zB2 h0;rw[hi]at hg;rw[<-hi];refine di ?_;rw[hi,zAL,zAD hk2]
  have:((ps.map sw).foldl bM (zAJ n.toNat []))[i.toNat]=(bF (ps.map sw) i).map .int:=by
   have e1:((ps.map sw).foldl bM (zAJ n.toNat [])).getD i.toNat []=((ps.map sw).foldl bM (zAJ n.toNat []))[i.toNat]:=by simp[hk2]
   rw[<-e1,hg];have e2:(zAJ n.toNat ([]:List D)).getD i.toNat []=[]:=by
    rw[zAQ,zBs];split<;>rfl
   rw[e2,zCE]
  rw[this];rfl
def wt(ps:gX)(od:List Int)(x:Int):Nat:=(ps.filter λ p=>p.2==x&& !decide (p.1∈od)).length
theorem qt{p x:Int}{od:List Int}(hp:p∉od):∀{ps:gX},ps.Nodup->wt ps od x=wt ps (od++[p]) x+if (p,x)∈ps then 1 else 0
 |[],_=>rfl
 |q::ps,nd=>by
  obtain⟨h1,h2⟩:=zAm.mp nd;have ih:=qt hp (x:=x) h2;unfold wt at ih ⊢;rw[zCp,zCp];by_cases e:q=(p,x)
  .subst e
   have hn:¬(p,x)∈ps:=h1;rw[if_neg hn]at ih;simp[hp,ih]
  .have hm:(p,x)∈q::ps↔(p,x)∈ps:=⟨λ h=>(zAV.mp h).resolve_left λ z=>e z.symm,zAK _⟩
   rw[show(if (p,x)∈q::ps then 1 else 0)=if (p,x)∈ps then 1 else 0 by simp only[hm]];by_cases c2:q.2=x
   .have c1:q.1≠p:=λ z=>e (zEx z c2)
    by_cases c3:q.1∈od
    .simp[c2,c3,ih]
    .simp[c2,c3,c1,ih]
     lia
   .simp[c2,ih]
structure Kn(n:Int)(ps:gX)(rem W rd od:List Int):Prop where
 lw:W.length=n.toNat
 w:∀x,0<=x->x<n->W[x.toNat]? =some ((wt ps od x:Int)+if x∈rem then 1 else 0)
 nd:(od++rd).Nodup
 rg:∀x∈od++rd,0<=x/\x<n
 z:∀x,0<=x->x<n->(x∈od++rd↔wt ps od x=0/\x∉rem)
 tp:∀l x r,od=l++x::r->∀a,(a,x)∈ps->a∈l
def aDx{ps:gX}{od:List Int}{x a:Int}(h:wt ps od x=0)(ha:(a,x)∈ps):a∈od:=by
 unfold wt at h;rw[zBt,zFD]at h
 have:=h _ ha
 simpa using this
def aBb{rd:List Int}{p x:Int}(h:p∈rd):x∈rd↔x=p\/x∈rd.eraseIdx (rd.idxOf p):=by
 rw[<-zEM rfl];constructor
 .intro hx
  by_cases e:x=p
  .exact .inl e
  .exact .inr ((zF1 e).mpr hx)
 .rintro(rfl|hx)
  .exact h
  .exact zFV hx
def Kn.take{n p:Int}{ps:gX}{W rd od:List Int}(K:Kn n ps [] W rd od)(hp:p∈rd)(nd:ps.Nodup):Kn n ps (bF ps p) W (rd.eraseIdx (rd.idxOf p)) (od++[p]):=by
 have hno:p∉od:=λ h=>by
  have:=K.nd
  rw[zBU]at this;exact this.2.2 p h p hp rfl
 have oQ:∀x,x∈(od++[p])++rd.eraseIdx (rd.idxOf p)↔x∈od++rd:=λ x=>by
  rw[zAe,zAe,zAe,zA7,aBb hp (x:=x)];constructor
  .rintro((h|h)|h)
   .exact .inl h
   .exact .inr (.inl h)
   .exact .inr (.inr h)
  .rintro(h|h|h)
   .exact .inl (.inl h)
   .exact .inl (.inr h)
   .exact .inr h
 refine⟨K.lw,λ x x0 x1=>?_,?_,λ x hx=>K.rg x ((oQ x).mp hx),λ x x0 x1=>?_,λ l x r e a ha=>?_⟩
 .rw[K.w x x0 x1,qt hno nd]
  have:(x∈bF ps p)↔(p,x)∈ps:=iz
  by_cases c:(p,x)∈ps<;>simp[c,this]
 .have h1:=K.nd
  rw[zBU]at h1;obtain⟨n1,n2,n3⟩:=h1;rw[<-zEM rfl];rw[zBU];refine⟨?_,n2.erase p,λ a ha b hb e=>?_⟩
  .rw[zBU]
   refine⟨n1,by simp,λ a ha b hb e=>?_⟩;rw[zA7.mp hb]at e;subst e;exact hno ha
  .subst e
   rcases zAe.mp ha with h|h
   .exact n3 a h a (zFV hb) rfl
   .rw[zA7.mp h]at hb
    exact(n2.mem_erase_iff.mp hb).1 rfl
 .rw[oQ,K.z x x0 x1,qt hno nd]
  have:(x∈bF ps p)↔(p,x)∈ps:=iz
  by_cases c:(p,x)∈ps<;>simp[c,this]
 .rcases List.eq_nil_or_concat r with rfl|⟨r',y,rfl⟩
  .obtain⟨e1,e2⟩:=zFy e rfl
   cases e2;subst e1;obtain⟨p0,p1⟩:=K.rg p (zAR _ hp);exact aDx ((K.z p p0 p1).mp (zAR _ hp)).1 ha
  .rw[List.concat_eq_append,<-zCo,<-zCK]at e
   obtain⟨e1,e2⟩:=zFy e rfl;exact K.tp l x r' e1 a ha
def Kn.less{n o:Int}{ps:gX}{rem W rd od:List Int}(K:Kn n ps (o::rem) W rd od)(o0:0<=o)(o1:o<n)(hr:o∉rem):
  Kn n ps rem (W.set o.toNat (wt ps od o:Int)) (if wt ps od o=0 then rd++[o]else rd) od:=by
 have hon:o∉od++rd:=λ h=>((K.z o o0 o1).mp h).2 zAP
 have oQ:∀x,x∈od++(if wt ps od o=0 then rd++[o]else rd)↔x∈od++rd\/(x=o/\wt ps od o=0):=λ x=>by
  by_cases c:wt ps od o=0
  .rw[if_pos c,<-zCK,zAe,zA7]
   exact⟨λ h=>h.imp_right λ z=>⟨z,c⟩,λ h=>h.imp_right λ z=>z.1⟩
  .rw[if_neg c]
   exact⟨.inl,λ h=>h.elim id λ z=>absurd z.2 c⟩
 refine⟨by rw[zAw];exact K.lw,λ x x0 x1=>?_,?_,λ x hx=>?_,λ x x0 x1=>?_,K.tp⟩
 .by_cases e:x=o
  .subst e
   rw[zBE (by rw[K.lw];lia),if_neg hr];simp
  .rw[zBC (by lia),K.w x x0 x1]
   simp[e]
 .by_cases c:wt ps od o=0
  .rw[if_pos c,<-zCK,zBU]
   refine⟨K.nd,by simp,λ a ha b hb e=>?_⟩;rw[zA7.mp hb]at e;subst e;exact hon ha
  .rw[if_neg c];exact K.nd
 .rcases(oQ x).mp hx with h|h
  .exact K.rg x h
  .rw[h.1];exact⟨o0,o1⟩
 .rw[oQ,K.z x x0 x1]
  by_cases e:x=o
  .subst e
   simp[hr]
  .simp[e]
abbrev oE(n:Int)(ps:gX)(ll:dP)(W rd od:List Int)(s5 s6:Slot):En:=
 [.sh (owD n ps),.sh (.lst (ll.map .lst)),.ow (.lst (W.map .int)),.ow (.lst (rd.map .int)),.ow (.lst (od.map .int)),s5,s6]
def aJE{W:List Int}{x a:Int}(x0:0<=x)(h:W[x.toNat]? =some a):atD (W.map D.int) x= .ok (.int a):=by
 have hi:((x.toNat:Nat):Int)=x:=zB2 x0
 have:=di (l:=W.map D.int) (k:=x.toNat) (d:=.int a) (by rw[zAL,h];rfl)
 rwa [hi]at this
def aCw{ws:List Int}(h:ws≠[]):∃m,ws.min?=some m:=by
 cases c:ws.min? with
 |none=>rw[List.min?_eq_none_iff]at c;exact absurd c h
 |some m=>exact⟨m,rfl⟩
section
variable{n:Int}{ps:gX}{ll:dP}{W rd od rem:List Int}{s5 s6:Slot}
def aH4{o:Int}(K:Kn n ps (o::rem) W rd od)(hn:n<=60)(o0:0<=o)(o1:o<n)(hr:o∉rem):
  odI (oE n ps ll W rd od s5 (.sh (.int o)))= .nx (oE n ps ll (W.set o.toNat (wt ps od o:Int)) (if wt ps od o=0 then rd++[o]else rd) od s5 (.sh (.int o))):=by
 have hw:=K.w o o0 o1;rw[if_pos zAP]at hw;have hlt:o.toNat<W.length:=by rw[K.lw];lia
 have hx:aBp (W.map D.int) (.int o)=some (o.toNat,(wt ps od o:Int)+1):=by
  have hix:ixN (W.map D.int).length o=some o.toNat:=by
   unfold ixN;rw[zAB,if_pos o0,if_pos (by lia)]
  unfold aBp;dsimp only;rw[hix,zCm,zAL,hw];rfl
 have a1:aDf (λ i j=>i-j) 2 (aC 6) (cD (.int 1)) (oE n ps ll W rd od s5 (.sh (.int o)))= .nx (oE n ps ll (W.set o.toNat (wt ps od o:Int)) rd od s5 (.sh (.int o))):=by
  have e1:aC 6 (oE n ps ll W rd od s5 (.sh (.int o)))= .ok (.int o):=rfl;have e2:cD (.int 1) (oE n ps ll W rd od s5 (.sh (.int o)))= .ok (.int 1):=rfl;unfold aDf;dsimp only[zBN,zBA];rw[e1,bh,hx];dsimp only;rw[e2,bh];unfold aJD;dsimp only;rw[Int.add_sub_cancel,<-List.map_set];rfl
 have hg:atD ((W.set o.toNat (wt ps od o:Int)).map D.int) o= .ok (.int (wt ps od o:Int)):=aJE o0 (by rw[zBE hlt]);have hc:tsb (op2 (eqR false) (op2 ixD (fG 2) (aC 6)) (cD (.int 0))) (oE n ps ll (W.set o.toNat (wt ps od o:Int)) rd od s5 (.sh (.int o)))= .ok ((wt ps od o:Int)==0):=by
  have e1:op2 ixD (fG 2) (aC 6) (oE n ps ll (W.set o.toNat (wt ps od o:Int)) rd od s5 (.sh (.int o)))= .ok (.int (wt ps od o:Int)):=by
   rw[cX]
   show((Rs.ok (D.lst ((W.set o.toNat (wt ps od o:Int)).map D.int))).bd λ x=>(Rs.ok (D.int o)).bd λ y=>okD (ixD x y))=_
   rw[aK,aK];show okD (atD ((W.set o.toNat (wt ps od o:Int)).map D.int) o)=_;rw[hg];rfl
  rw[jf,cX,e1,aK];rfl
 unfold odI;rw[aR,a1,ak,wC,hc,bh];by_cases c:wt ps od o=0
 .have hl:=o6 K.nd K.rg
  rw[zA9]at hl;rw[if_pos (by rw[c];rfl),if_pos c];have g:bL (aC 6) (oE n ps ll (W.set o.toNat (wt ps od o:Int)) rd od s5 (.sh (.int o)))= .ok (.int o):=rfl;unfold qX;dsimp only[zBN,zBA];rw[g,bh,if_pos (by rw[zAB,szl];lia)];simp
 .have:((wt ps od o:Int)==0)=false:=by simpa using c
  rw[this,if_neg c];rfl
theorem aCp(hn:n<=60):∀(rem:List Int) {W rd:List Int} {s6:Slot},Kn n ps rem W rd od->rem.Nodup->(∀x∈rem,0<=x/\x<n)->∃W' rd' s6',forL (gnm 6) odI (rem.map D.int) (oE n ps ll W rd od s5 s6)= .nx (oE n ps ll W' rd' od s5 s6')/\Kn n ps [] W' rd' od
 |[],W,rd,s6,K,_,_=>⟨W,rd,s6,rfl,K⟩
 |o::rem,W,rd,s6,K,nd,hx=>by
  obtain⟨h1,h2⟩:=zAm.mp nd;obtain⟨o0,o1⟩:=hx o zAP;obtain⟨W',rd',s6',e,K'⟩:=aCp hn rem (s6:=.sh (.int o)) (K.less o0 o1 h1) h2 λ x h=>hx x (zAK _ h)
  refine⟨W',rd',s6',?_,K'⟩;rw[zAG,gk];show okE (gnm 6 (.int o) (oE n ps ll W rd od s5 s6)) _=_;rw[wD,rm]
  show(odI (oE n ps ll W rd od s5 (.sh (.int o)))).tn _=_
  rw[aH4 K hn o0 o1 h1,aCB];exact e
def aBZ(nd:ps.Nodup)(p:Int):(bF ps p).Nodup:=by
 unfold bF;have hm:∀q∈ps.filter λ q=>q.1==p,q.1=p:=λ q hq=>by simpa using(zAl.mp hq).2
 rw[zB8,zDS];refine zED (λ{a b} ha hb hab e=>?_) (nd.filter λ q=>q.1==p);exact hab (zEx ((hm a ha).trans (hm b hb).symm) e)
def aH5(O:Ow n ps)(nd:ps.Nodup)(N:aDm n ps ll)(K:Kn n ps [] W rd od)(hr:rd≠[]):∃W' rd' p s5' s6',odB (oE n ps ll W rd od s5 s6)= .nx (oE n ps ll W' rd' (od++[p]) s5' s6')/\Kn n ps [] W' rd' (od++[p]):=by
 obtain⟨p,hmin⟩:=aCw hr;have hp:p∈rd:=List.min?_mem hmin;obtain⟨p0,p1⟩:=K.rg p (zAR _ hp);have hl:=o6 K.nd K.rg;rw[zA9]at hl;have n1:=O.n1;have a1:cU 5 (opA (eY zE5) (aB (fG 3) aG)) (oE n ps ll W rd od s5 s6)= .nx (oE n ps ll W rd od (.sh (.int p)) s6):=by
  have:eY zE5 [.lst (rd.map D.int)]= .ok (.int p):=by
   unfold eY;dsimp only;rw[cj];dsimp only;rw[hmin]
  rw[vW,jm]
  show((((Rs.ok [D.lst (rd.map D.int)]).bd λ x=>okD (eY zE5 x)).bo λ d=>_))=_
  rw[aK,this];rfl
 have a2:aCY 3 (bL (aC 5)) (oE n ps ll W rd od (.sh (.int p)) s6)= .nx (oE n ps ll W (rd.eraseIdx (rd.idxOf p)) od (.sh (.int p)) s6):=by
  have g:bL (aC 5) (oE n ps ll W rd od (.sh (.int p)) s6)= .ok (.int p):=rfl;unfold aCY;dsimp only[zBN,zBA];rw[g,bh];unfold aGk;rw[cj];dsimp only;rw[if_pos ⟨hp,by rw[szl];lia⟩];rfl
 have a3:qX 4 (bL (aC 5)) (oE n ps ll W (rd.eraseIdx (rd.idxOf p)) od (.sh (.int p)) s6)= .nx (oE n ps ll W (rd.eraseIdx (rd.idxOf p)) (od++[p]) (.sh (.int p)) s6):=by
  have g:bL (aC 5) (oE n ps ll W (rd.eraseIdx (rd.idxOf p)) od (.sh (.int p)) s6)= .ok (.int p):=rfl;unfold qX;dsimp only[zBN,zBA];rw[g,bh,if_pos (by rw[zAB,szl];lia)];simp
 obtain⟨W',rd',s6',e,K'⟩:=aCp (ll:=ll) (s5:=.sh (.int p)) (s6:=s6) n1 (bF ps p) (K.take hp nd) (aBZ nd p) λ x hx=>by
  have:=O.pr _ (iz.mp hx)
  exact⟨this.2.2.1,this.2.2.2.1⟩
 refine⟨W',rd',p,.sh (.int p),s6',?_,K'⟩;have hi:gB (op2 ixD (aC 1) (aC 5)) (oE n ps ll W (rd.eraseIdx (rd.idxOf p)) (od++[p]) (.sh (.int p)) s6)= .ok ((bF ps p).map .int):=by
  have e1:op2 ixD (aC 1) (aC 5) (oE n ps ll W (rd.eraseIdx (rd.idxOf p)) (od++[p]) (.sh (.int p)) s6)= .ok (.lst ((bF ps p).map .int)):=by
   rw[cX]
   show((Rs.ok (D.lst (ll.map .lst))).bd λ x=>(Rs.ok (D.int p)).bd λ y=>okD (ixD x y))=_
   rw[aK,aK];show okD (atD (ll.map .lst) p)=_;rw[N.item p p0 p1];rfl
  rw[aFH,e1];rfl
 unfold odB;rw[aR,a1,ak,aR,a2,ak,aR,a3,ak,g8,hi,bh,e]
end
def aGW(ps:gX)(x:Int):(bF (ps.map sw) x).length=wt ps [] x:=by
 unfold bF wt;rw[zAB];induction ps with
 |nil=>rfl
 |cons p ps ih=>
  rw[zAG,zCp,zCp];by_cases c:p.2=x<;>simp[sw,c]<;>simpa[sw]using ih
def aIK{n:Nat}{ps:gX}{od:List Int}(U:Up n ps)(rg:∀x∈od,0<=x/\x<(n:Int))(z:∀x,0<=x->x<(n:Int)->(x∈od↔wt ps od x=0)):n<=od.length:=by
 obtain⟨os,ho,hu⟩:=U;have inj:∀k l,k<n->l<n->os.getD k 0=os.getD l 0->k=l:=λ k l hk hl e=>by
  have k1:k<os.length:=by rw[ho.len];exact hk
  have k2:l<os.length:=by rw[ho.len];exact hl
  have:os[k]? =os[l]?:=by
   rw[zAD k1,zAD k2];simpa[k1,k2]using e
  exact(zCL k1 ho.nd).mp this
 have hk:∀m k,k<m->k<n->os.getD k 0∈od:=by
  intro m;induction m with
  |zero=>intro k h;exact absurd h (zDk _)
  |succ m ih=>
   intro k _ hkn;have hin:os.getD k 0∈os:=by
    have:k<os.length:=by rw[ho.len];exact hkn
    simp[this]
   obtain⟨x0,x1⟩:=ho.lo _ hin;rw[z _ x0 x1];unfold wt;rw[zBt,zFD];intro p hp;obtain⟨q,q1,q2,rfl⟩:=hu p hp;simp only[zAU,beq_iff_eq,zEL,decide_eq_false_iff_not,not_and,Decidable.not_not];intro e
   have:=inj _ _ q2 hkn e
   have h3:q.1<m:=by lia
   exact ih q.1 h3 (by lia)
 have hs:os⊆od:=λ x hx=>by
  obtain⟨k,hk1,e⟩:=zDE hx
  have:=hk (k+1) k (zBX k) (by rw[<-ho.len];exact hk1)
  rw[<-e];simpa[hk1]using this
 have:=ho.nd.length_le_of_subset hs
 rw[ho.len]at this;exact this
def rQ{n:Nat}{ps:gX}(O:Ow n ps)(U:Up n ps):∃od:List Int,cJ [owD n ps]= .ok (.lst (od.map .int))/\od.length=n/\od.Nodup/\(∀x∈od,0<=x/\x<(n:Int))/\∀l x r,od=l++x::r->∀a,(a,x)∈ps->a∈l:=by
 have n1:=O.n1;have nd:ps.Nodup:=by
  have:=xN.mp O.ris
  rw[zB8];exact this.imp λ{a b} h e=>by subst e;lia
 obtain⟨ll,e1,N⟩:=tO O;obtain⟨lc,e2,Nc⟩:=qM O;obtain⟨W0,hW0⟩:∃W0:List Int,W0=(upI n).map λ x=>(wt ps [] x:Int):=⟨_,rfl⟩
 obtain⟨r0,hr0⟩:∃r0:List Int,r0=(upI n).filter λ x=>wt ps [] x==0:=⟨_,rfl⟩
 have hup:∀x:Int,0<=x->x<n->(upI (n:Int))[x.toNat]? =some x:=λ x x0 x1=>by
  unfold upI;rw[zAL,zBr (by lia)];simp;lia
 have hWx:∀x:Int,0<=x->x<n->W0[x.toNat]? =some (wt ps [] x:Int):=λ x x0 x1=>by
  rw[hW0,zAL,hup x x0 x1];rfl
 have K0:Kn n ps [] W0 r0 []:=by
  refine⟨by rw[hW0,zAB,iD],λ x x0 x1=>by rw[hWx x x0 x1];simp,?_,λ x hx=>?_,λ x x0 x1=>?_,λ l x r e=>by simp at e⟩
  .rw[zCE,hr0];exact(wW _).filter _
  .rw[zCE,hr0]at hx
   exact cZ.mp (zAl.mp hx).1
  .rw[zCE,hr0,zAl,cZ]
   simp[x0,x1]
 have hc:∀{W rd od:List Int} {s5 s6:Slot},tst (fG 3) (oE n ps ll W rd od s5 s6)= .ok (!rd.isEmpty):=λ{W rd od s5 s6}=>by
  rw[aG0]
  show(Rs.ok (D.lst (rd.map .int))).bd aEC=_
  rw[aK];cases rd<;>rfl
 obtain⟨Y',m',ew,⟨W,rd,od,s5,s6,rfl,K,_⟩,ec⟩:=wU (c:=tst (fG 3)) (b:=odB) (λ m Y=>∃W rd od s5 s6,Y=oE n ps ll W rd od s5 s6/\Kn n ps [] W rd od/\m=61-od.length) (by
  rintro m Y ⟨W,rd,od,s5,s6,rfl,K,rfl⟩;rw[hc];cases rd with
  |nil=>exact .inl rfl
  |cons r rd=>
   obtain⟨W',rd',p,s5',s6',e,K'⟩:=aH5 (s5:=s5) (s6:=s6) O nd N K (by simp);refine .inr ⟨rfl,_,61-(od++[p]).length,e,?_,W',rd',_,s5',s6',rfl,K',rfl⟩
   have:=o6 K'.nd K'.rg
   rw[zA9]at this;rw[zA9,zA2,zAz]at this ⊢;lia) (m:=61-([]:List Int).length) (by simp) ⟨W0,r0,[],.no,.no,rfl,K0,rfl⟩
 have hrd:rd=[]:=by
  rw[hc]at ec;cases rd with
  |nil=>rfl
  |cons _ _=>cases ec
 subst hrd;have hl:=o6 K.nd K.rg;rw[zAv]at hl;have hge:=aIK U (λ x hx=>K.rg x (by rw[zAv];exact hx)) λ x x0 x1=>by
  have:=K.z x x0 x1
  rw[zAv]at this;rw[this];simp
 have knd:=K.nd;have krg:=K.rg;rw[zAv]at knd krg;refine⟨od,?_,by lia,knd,krg,K.tp⟩;have st:ao 7 [owD n ps]=[.sh (owD n ps),.no,.no,.no,.no,.no,.no]:=rfl;have b1:cU 1 (aU fY (aB (aC 0) aG)) [.sh (owD n ps),.no,.no,.no,.no,.no,.no]= .nx [.sh (owD n ps),.sh (.lst (ll.map .lst)),.no,.no,.no,.no,.no]:=by simp[e1]
 have b2:jV 2 aH7 [.sh (owD n ps),.sh (.lst (ll.map .lst)),.no,.no,.no,.no,.no]= .nx [.sh (owD n ps),.sh (.lst (ll.map .lst)),.ow (.lst (W0.map .int)),.no,.no,.no,.no]:=by
  have hlc:lc=(upI (n:Int)).map λ x=>(bF (ps.map sw) x).map D.int:=by
   refine zFp λ k=>?_
   by_cases hk:k<n
   .have h:=Nc.item k (by lia) (by lia)
    have hk2:k<lc.length:=by rw[Nc.len];lia
    have h2:=di (l:=lc.map D.lst) (k:=k) (d:=.lst lc[k]) (by rw[zAL,zAD hk2];rfl);rw[h2]at h;replace h:=D.lst.inj (Rs.ok.inj h);rw[zAD hk2,zAL,h]
    have:=hup k (by lia) (by lia)
    rw[zFw]at this;rw[this,zD4]
   .rw[zCk (by rw[Nc.len];lia),zCk (by rw[zAB,iD];lia)]
  have h:aH7 [.sh (owD n ps),.sh (.lst (ll.map .lst)),.no,.no,.no,.no,.no]= .ok (.lst (W0.map .int)):=by
   refine iM (ds:=(upI (n:Int)).map λ x=>.lst ((bF (ps.map sw) x).map D.int)) ?_ (by rw[zAB,iD];lia) ?_
   .have:(lc.map D.lst)=(upI (n:Int)).map λ x=>.lst ((bF (ps.map sw) x).map D.int):=by rw[hlc,zAc];rfl
    rw[<-this];simp[shE,nA,e2]
   .rw[hW0,zAc]
    refine o7 (fg:=gnm 0) (fe:=opA gA (aB (aC 0) aG)) (f:=λ x=>.lst ((bF (ps.map sw) x).map D.int)) (g:=D.int∘λ x=>(wt ps [] x:Int)) (upI n) λ x _=>⟨[.sh (.lst ((bF (ps.map sw) x).map D.int))],rfl,?_⟩
    have:=aGW ps x
    simp[this]
  rw[vX,h,bh];rfl
 have b3:jV 3 aH6 [.sh (owD n ps),.sh (.lst (ll.map .lst)),.ow (.lst (W0.map .int)),.no,.no,.no,.no]= .nx [.sh (owD n ps),.sh (.lst (ll.map .lst)),.ow (.lst (W0.map .int)),.ow (.lst (r0.map .int)),.no,.no,.no]:=by
  have hr:=dZ (j:=(n:Int)) (by lia) (by lia);have h:aH6 [.sh (owD n ps),.sh (.lst (ll.map .lst)),.ow (.lst (W0.map .int)),.no,.no,.no,.no]= .ok (.lst (r0.map .int)):=by
   refine iM (ds:=(upI (n:Int)).map .int) (by rw[<-v4];simp[shE,nA,owD,hr]) (by rw[zAB,iD];lia) ?_;rw[hr0];refine j0 (fg:=gnm 0) (f:=D.int) (g:=D.int) (t:=λ x=>wt ps [] x==0) (upI n) λ x hx=>⟨[.sh (.int x),.sh (.lst (W0.map .int))],rfl,?_,rfl⟩
   obtain⟨x0,x1⟩:=cZ.mp hx;have h1:=aJE x0 (hWx x x0 x1);have e1:op2 ixD (aC 1) (aC 0) [.sh (.int x),.sh (.lst (W0.map .int))]= .ok (.int (wt ps [] x:Int)):=by
    rw[cX]
    show((Rs.ok (D.lst (W0.map .int))).bd λ y=>(Rs.ok (D.int x)).bd λ z=>okD (ixD y z))=_
    rw[aK,aK];show okD (atD (W0.map .int) x)=_;rw[h1];rfl
   rw[jf,cX,e1,aK];show Rs.ok ((wt ps [] x:Int)==0)=_;have hz:((wt ps [] x:Int)==0)=(wt ps [] x==0):=by
    generalize wt ps [] x=k;rw[zE2,beq_iff_eq,beq_iff_eq];lia
   rw[hz]
  rw[vX,h,bh];rfl
 have b4:jV 4 (gZ aG) [.sh (owD n ps),.sh (.lst (ll.map .lst)),.ow (.lst (W0.map .int)),.ow (.lst (r0.map .int)),.no,.no,.no]= .nx (oE n ps ll W0 r0 [] .no .no):=by simp
 simp only[cJ,gm,bZ,st];rw[aR,b1,ak,aR,b2,ak,aR,b3,ak,aR,b4,ak,aR,ew,ak];simp
def pK{n:Nat}{ps:gX}(O:Ow n ps)(U:Up n ps):bB [owD n ps]= .ok .non:=by
 obtain⟨od,e,hl,_⟩:=rQ O U;have ck:=pL O;have st:ao 2 [owD n ps]=[.sh (owD n ps),.no]:=rfl;have hi:pA (.tup (od.map D.int))= .ok (.tup (od.map D.int)):=nQ (by simp only[imm];exact iR od);have h1:fu [owD n ps]= .ok (.tup (od.map .int)):=by
  have ho:(od.length:Int)=n:=by lia
  simp only[fu,cQ,bZ,st];have c0:qH (aU cO (aB (aC 0) aG)) [.sh (owD n ps),.no]= .nx [.sh (owD n ps),.no]:=by simp[ck]
  have c1:cU 1 (aU cJ (aB (aC 0) aG)) [.sh (owD n ps),.no]= .nx [.sh (owD n ps),.sh (.lst (od.map .int))]:=by simp[e]
  rw[aR,c0,ak,aR,c1,ak];simp[owD,ho,hi]
 have st1:ao 1 [owD n ps]=[.sh (owD n ps)]:=rfl;have g:isD false (.tup (od.map D.int)) .non= .ok (.bl false):=rfl;simp only[bB,bU,bZ,st1];simp[h1,g]
structure To(n:Nat)(ps:gX)(od:List Int):Prop where
 len:od.length=n
 nd:od.Nodup
 rg:∀x∈od,0<=x/\x<(n:Int)
 tp:∀l x r,od=l++x::r->∀a,(a,x)∈ps->a∈l
def alg(ps:gX):List Int->Bool
 |x::y::r=>decide ((x,y)∈ps)&&alg ps (y::r)
 |_=>true
def laI(w:List Int):Int:=w.getLast?.getD 0
def hdI(w:List Int):Int:=w.head?.getD 0
structure Wy(n:Nat)(ps:gX)(w:List Int):Prop where
 ne:w≠[]
 rg:∀x∈w,0<=x/\x<(n:Int)
 al:alg ps w=true
section
variable{n:Nat}{ps:gX}{od w:List Int}{x y:Int}
theorem tQ:∀{w:List Int},w≠[]->alg ps (w++[y])=(alg ps w&&decide ((laI w,y)∈ps))
 |[],h=>absurd rfl h
 |[x],_=>by
  show(decide ((x,y)∈ps)&&true)=(true&&decide ((x,y)∈ps))
  rw[zCJ,Bool.true_and]
 |x::z::r,_=>by
  have:=tQ (w:=z::r) (by simp)
  rw[zCo,zCo,alg,alg,<-zCo,this];have e:laI (x::z::r)=laI (z::r):=by unfold laI;rw[List.getLast?_cons_cons]
  rw[e,zDo]
def aHe(h:w≠[]):laI w∈w:=by
 unfold laI;rw[List.getLast?_eq_some_getLast h];exact List.getLast_mem h
def vq:laI (w++[y])=y:=by unfold laI;simp
def Wy.snoc(W:Wy n ps w)(h:(laI w,y)∈ps)(hy:0<=y/\y<(n:Int)):Wy n ps (w++[y]):=by
 refine⟨by simp,λ x hx=>?_,by rw[tQ W.ne,W.al,decide_eq_true h];rfl⟩;rcases zAe.mp hx with z|z
 .exact W.rg x z
 .rw[zA7.mp z];exact hy
def Wy.back(W:Wy n ps (w++[y]))(h:w≠[]):Wy n ps w/\(laI w,y)∈ps:=by
 have a:=W.al;rw[tQ h,zAU,decide_eq_true_eq]at a;exact⟨⟨h,λ x hx=>W.rg x (zAh _ hx),a.1⟩,a.2⟩
def Wy.one(hx:0<=x/\x<(n:Int)):Wy n ps [x]:=⟨by simp,λ y hy=>by rw[zA7.mp hy];exact hx,rfl⟩
theorem Wy.cons(W:Wy n ps w)(h:(x,hdI w)∈ps)(hx:0<=x/\x<(n:Int)):Wy n ps (x::w):=by
 cases w with
 |nil=>exact absurd rfl W.ne
 |cons y r=>
  refine⟨by simp,λ z hz=>?_,by rw[alg,W.al,zCJ,decide_eq_true_eq];exact h⟩;rcases zAV.mp hz with q|q
  .rw[q];exact hx
  .exact W.rg z q
def Wy.tail{r:List Int}(W:Wy n ps (x::y::r)):(x,y)∈ps/\Wy n ps (y::r):=by
 have a:=W.al;rw[alg,zAU,decide_eq_true_eq]at a;exact⟨a.1,by simp,λ z hz=>W.rg z (zAK _ hz),a.2⟩
def To.all(T:To n ps od)(h0:0<=x)(h1:x<(n:Int)):x∈od:=by
 have hs:(upI n)⊆od:=by
  refine λ z hz=>zEO λ q=>?_
  have h2:(z::od).Nodup:=zAm.mpr ⟨q,T.nd⟩
  have:=o6 h2 λ u hu=>by
   rcases zAV.mp hu with e|e
   .rw[e];exact cZ.mp hz
   .exact T.rg u e
  rw[zA2,T.len]at this;lia
 exact hs (cZ.mpr ⟨h0,h1⟩)
def To.lt(T:To n ps od)(O:Ow n ps)(h:(x,y)∈ps):od.idxOf x<od.idxOf y:=by
 have hp:=O.pr _ h;have hy:=T.all hp.2.2.1 hp.2.2.2.1;have hi:=zDF hy;have e:od=od.take (od.idxOf y)++y::od.drop (od.idxOf y+1):=by
  have h1:=zCX hi;rw[zEE hi]at h1;rw[<-h1,zDc]
 have hm:=T.tp _ _ _ e x h;have h2:od.idxOf x=(od.take (od.idxOf y)).idxOf x:=by
  conv=>lhs;rw[e]
  rw[List.idxOf_append,if_pos hm]
 have h3:=zDF hm;rw[zD2]at h3;lia
theorem Wy.rise(T:To n ps od)(O:Ow n ps):∀{w:List Int},alg ps w=true->w.Pairwise λ a b=>od.idxOf a<od.idxOf b
 |[],_=>zD5
 |[x],_=>by simp
 |x::y::r,h=>by
  rw[alg,zAU,decide_eq_true_eq]at h;have ih:=Wy.rise T O h.2;have hxy:=T.lt O h.1;refine zAf.mpr ⟨λ z hz=>?_,ih⟩;rcases zAV.mp hz with q|q
  .rw[q];exact hxy
  .have:=(zAf.mp ih).1 z q
   lia
def Wy.nd(W:Wy n ps w)(T:To n ps od)(O:Ow n ps):w.Nodup:=zB8.mpr ((Wy.rise T O W.al).imp λ{a b} h e=>by subst e;lia)
def Wy.len(W:Wy n ps w)(T:To n ps od)(O:Ow n ps):w.length<=n:=by
 have:=o6 (W.nd T O) W.rg
 lia
def Wy.new(W:Wy n ps w)(T:To n ps od)(O:Ow n ps)(h:(laI w,y)∈ps):y∉w:=by
 have hp:=O.pr _ h
 have:=(W.snoc h ⟨hp.2.2.1,hp.2.2.2.1⟩).nd T O
 rw[zBU]at this;exact λ hy=>this.2.2 y hy y (by simp) rfl
def qU(u:List Int):Nat->List (List Int)
 |0=>[[]]
 |k+1=>[]::u.flatMap λ x=>(qU u k).map (x::·)
theorem xq{u:List Int}:∀{k:Nat} {w:List Int},(∀x∈w,x∈u)->w.length<=k->w∈qU u k
 |0,[],_,_=>by simp[qU]
 |0,_::_,_,h=>by simp at h
 |k+1,[],_,_=>by simp[qU]
 |k+1,x::w,hu,h=>by
  refine zAK _ (zEV.mpr ⟨x,hu x zAP,zAZ.mpr ⟨w,xq (λ y hy=>hu y (zAK _ hy)) (by simpa using h),rfl⟩⟩)
theorem xr{u:List Int}(hu:u.length<=7):∀k:Nat,k<=7->(qU u k).length<=[1,8,57,400,2801,19608,137257,960800].getD k 0
 |0,_=>by simp[qU]
 |k+1,hk=>by
  have ih:=xr hu k (by lia)
  have:∀v:List Int,(v.flatMap λ x=>(qU u k).map (x::·)).length=v.length*(qU u k).length:=λ v=>by
   induction v with
   |nil=>simp
   |cons a v ih=>rw[List.flatMap_cons,zA9,ih,zAB,zA2,Nat.add_mul,Nat.one_mul,Nat.add_comm]
  rw[qU,zA2,this];have h2:u.length*(qU u k).length<=7*(qU u k).length:=Nat.mul_le_mul_right _ hu
  match k,hk,ih with
  |0,_,ih=>simp at ih ⊢;lia
  |1,_,ih=>simp at ih ⊢;lia
  |2,_,ih=>simp at ih ⊢;lia
  |3,_,ih=>simp at ih ⊢;lia
  |4,_,ih=>simp at ih ⊢;lia
  |5,_,ih=>simp at ih ⊢;lia
  |6,_,ih=>simp at ih ⊢;lia
  |k+7,hk,_=>lia
def qw{F:gV}(hn:n<=7)(T:To n ps od)(O:Ow n ps)(nd:F.Nodup)(h:∀w∈F,Wy n ps w):F.length<=960800:=by
 have h1:F.length<=(qU (upI n) 7).length:=nd.length_le_of_subset λ w hw=>xq (λ x hx=>cZ.mpr ((h w hw).rg x hx)) (by have:=(h w hw).len T O;lia)
 have h2:=xr (u:=upI n) (by rw[iD];lia) 7 (zAT _)
 have:[1,8,57,400,2801,19608,137257,960800].getD 7 0=960800:=rfl
 lia
end
section
variable{n:Nat}{ps:gX}{od:List Int}
abbrev wyE(n:Nat)(ps:gX)(F:gV)(k:Nat)(s3:Slot):En:=[.sh (owD n ps),.ow (.lst (F.map tupI)),.sh (.int (k:Int)),s3]
def nxt(ps:gX)(w:List Int):gV:=(ps.filter λ p=>decide (p.1=laI w)&& !decide (p.2∈w)).map λ p=>w++[p.2]
def aGR{w:List Int}(h:w≠[]):atD (w.map .int) (-1)= .ok (.int (laI w)):=by
 have hk:0<w.length:=zB1.mpr h;unfold atD atI ixN;rw[if_neg (by decide),if_pos (by rw[zAB];lia)];have e:((-1:Int)+((w.map D.int).length:Int)).toNat=w.length-1:=by rw[zAB];lia
 rw[e]
 show(match (w.map D.int)[w.length-1]? with|some d=>Rs.ok d|none=>Rs.st)=_
 rw[zAL]
 have:w[w.length-1]? =some (laI w):=by
  unfold laI;rw[List.getLast?_eq_getElem?,zAD (by lia)];rfl
 rw[this];rfl
def aGV(O:Ow n ps){F:gV}{k:Nat}{w:List Int}(hw:w≠[])(hl:w.length<=7)(hps:ps.length<64):wyC (wyE n ps F k (.nw (tupI w)))= .ok (.lst ((nxt ps w).map tupI)):=by
 unfold nxt;rw[zAc];have hx:ixD (owD n ps) (.int 1)= .ok (.tup (ps.map pD)):=by simp[owD]
 refine iM (ds:=ps.map pD) (by simp[shE,nA,hx]) (by rw[zAB];lia) (j0 _ λ p _=>⟨[.sh (.int p.1),.sh (.int p.2),.sh (tupI w)],rfl,?_,?_⟩)
 .have h1:=aGR hw
  have h2:=yI true p.2 w;have h3:inR true (.int p.2) (tupI w)= .ok (.bl (!decide (p.2∈w))):=h2;have h4:ixD (tupI w) (.int (-1))= .ok (.int (laI w)):=h1;have h5:eqR false (.int p.1) (.int (laI w))= .ok (.bl (p.1==laI w)):=rfl;by_cases c:p.1=laI w
  .have e:(p.1==laI w)=true:=by rw[beq_iff_eq];exact c
   rw[e]at h5;simp[h3,h4,h5,c]
  .have e:(p.1==laI w)=false:=by rw[beq_eq_false_iff_ne];exact c
   rw[e]at h5;simp[h4,h5,c]
 .have h1:bT (tupI w) (.tup [.int p.2])= .ok (tupI (w++[p.2])):=by
   have:=yc (l:=w.map .int) (m:=[.int p.2])
   rw[if_pos (by rw[zAB,zBb];lia)]at this;unfold tupI;rw[zBH];exact this
  have hi:pA (tupI w)= .ok (tupI w):=nQ (by unfold tupI;simp only[imm];exact iR w);simp[h1,hi]
structure Ai(n:Nat)(ps:gX)(F:gV)(k:Nat):Prop where
 nd:F.Nodup
 wy:∀w∈F,Wy n ps w
 le:k<=F.length
 one:∀x,0<=x/\x<(n:Int)->[x]∈F
 cl:∀i w y,i<k->F[i]? =some w->(laI w,y)∈ps->w++[y]∈F
 bk:∀w y,w≠[]->w++[y]∈F->∃i,i<k/\F[i]? =some w
def qi{w v:List Int}:v∈nxt ps w↔∃y,v=w++[y]/\(laI w,y)∈ps/\y∉w:=by
 unfold nxt;rw[zAZ];constructor
 .rintro⟨p,hp,rfl⟩
  obtain⟨h1,h2⟩:=zAl.mp hp;simp at h2;exact⟨p.2,rfl,by rw[<-h2.1];exact h1,h2.2⟩
 .rintro⟨y,rfl,h1,h2⟩
  exact⟨(laI w,y),zAl.mpr ⟨h1,by simpa using h2⟩,rfl⟩
def Ai.next(A:Ai n ps F k)(T:To n ps od)(O:Ow n ps)(ndp:ps.Nodup){w:List Int}(hw:F[k]? =some w):Ai n ps (F++nxt ps w) (k+1):=by
 have hm:=zA0 hw;have W:=A.wy w hm;have hk:=(zAM.mp hw).1;refine⟨?_,λ v hv=>?_,by rw[zA9];lia,λ x hx=>zAh _ (A.one x hx),λ i v y hi hv hy=>?_,λ v y hv hy=>?_⟩
 .rw[zBU]
  refine⟨A.nd,?_,λ v hv u hu e=>?_⟩
  .unfold nxt List.Nodup
   rw[zDS];refine zED ?_ (ndp.filter _);intro p q hp hq hne e;have e2:p.2=q.2:=by simpa using e
   have h1:=(zAl.mp hp).2;have h2:=(zAl.mp hq).2;simp at h1 h2;exact hne (zEx (h1.1.trans h2.1.symm) e2)
  .subst e
   obtain⟨y,rfl,_,_⟩:=qi.mp hu;obtain⟨i,hi,e⟩:=A.bk w y W.ne hv
   have:=(zCL (by lia) A.nd).mp (e.trans hw.symm)
   lia
 .rcases zAe.mp hv with z|z
  .exact A.wy v z
  .obtain⟨y,rfl,h1,_⟩:=qi.mp z
   have hp:=O.pr _ h1;exact W.snoc h1 ⟨hp.2.2.1,hp.2.2.2.1⟩
 .by_cases c:i=k
  .subst c
   rw[zBG hk,hw]at hv;cases hv;exact zAR _ (qi.mpr ⟨y,rfl,hy,W.new T O hy⟩)
  .rw[zBG (by lia)]at hv
   exact zAh _ (A.cl i v y (by lia) hv hy)
 .rcases zAe.mp hy with z|z
  .obtain⟨i,hi,e⟩:=A.bk v y hv z
   exact⟨i,by lia,by rw[zBG (by lia)];exact e⟩
  .obtain⟨y',e,_,_⟩:=qi.mp z
   have:v=w:=by
    have:=congrArg List.dropLast e
    simpa using this
   exact⟨k,by lia,by rw[zBG hk,this];exact hw⟩
def Ai.all(A:Ai n ps F F.length):∀{w:List Int},Wy n ps w->w∈F:=by
 have key:∀(m:Nat) (w:List Int),w.length=m->Wy n ps w->w∈F:=by
  intro m;induction m with
  |zero=>intro w e W;exact absurd (zBt.mp e) W.ne
  |succ m ih=>
   intro w e W;obtain⟨v,y,rfl⟩:∃v y,w=v++[y]:=⟨w.dropLast,w.getLast W.ne,(zCy W.ne).symm⟩
   by_cases c:v=[]
   .subst c
    exact A.one y (W.rg y (by simp))
   .obtain⟨V,hy⟩:=W.back c
    have hv:=ih v (by simpa using e) V;obtain⟨i,hi,ei⟩:=zDE hv;exact A.cl i v y hi (by rw[zAD hi,ei]) hy
 exact λ{w} W=>key _ w rfl W
def yZ(O:Ow n ps)(T:To n ps od)(hn:n<=7)(hps:ps.length<64):∃F:gV,fC [owD n ps]= .ok (.lst (F.map tupI))/\(∀w,w∈F↔Wy n ps w)/\F.length<=960800:=by
 have ndp:ps.Nodup:=by
  have:=xN.mp O.ris
  rw[zB8];exact this.imp λ{a b} h e=>by subst e;lia
 have st:ao 4 [owD n ps]=[.sh (owD n ps),.no,.no,.no]:=rfl;have hx:ixD (owD n ps) (.int 0)= .ok (.int (n:Int)):=by simp[owD]
 have hr:=dZ (j:=(n:Int)) (by lia) (by lia);have e0:wy0 [.sh (owD n ps),.no,.no,.no]= .ok (.lst (((upI n).map λ x=>[x]).map tupI)):=by
  rw[zAc];exact iM (ds:=(upI n).map .int) (by simp[shE,nA,hx,hr,v4]) (by rw[zAB,iD];lia) (o7 _ λ x _=>⟨[.sh (.int x)],rfl,rfl⟩)
 have c1:jV 1 wy0 [.sh (owD n ps),.no,.no,.no]= .nx [.sh (owD n ps),.ow (.lst (((upI n).map λ x=>[x]).map tupI)),.no,.no]:=by
  rw[vX,e0,bh];rfl
 have c2:cU 2 (cD (.int 0)) [.sh (owD n ps),.ow (.lst (((upI n).map λ x=>[x]).map tupI)),.no,.no]= .nx (wyE n ps ((upI n).map λ x=>[x]) 0 .no):=rfl;have A0:Ai n ps ((upI n).map λ x=>[x]) 0:=by
  refine⟨?_,λ w hw=>?_,zAo _,λ x hx=>zAZ.mpr ⟨x,cZ.mpr hx,rfl⟩,λ i w y hi=>absurd hi (zDk _),λ w y hw hy=>?_⟩
  .unfold List.Nodup
   rw[zDS];exact(wW _).imp λ{a b} h e=>h (by simpa using e)
  .obtain⟨x,hx,rfl⟩:=zAZ.mp hw
   exact .one (cZ.mp hx)
  .obtain⟨x,_,e⟩:=zAZ.mp hy
   have:=congrArg zDs e
   simp at this
   have:=zB1.mpr hw
   lia
 obtain⟨Y',m',e',⟨F,k,s3,rfl,A,hm⟩,ht⟩:=wU (c:=wyT) (b:=wyB) (λ m Y=>∃(F:gV) (k:Nat) (s3:Slot),Y=wyE n ps F k s3/\Ai n ps F k/\m+k=960800) (by
  rintro m Y ⟨F,k,s3,rfl,A,hm⟩;have ht:wyT (wyE n ps F k s3)= .ok (decide (k<F.length)):=by
   unfold wyT;by_cases c:k<F.length
   .have:(k:Int)<(F.length:Int):=by lia
    simp[this,c]
   .have:¬((k:Int)<(F.length:Int)):=by lia
    simp[this,c]
  by_cases c:k<F.length
  .right
   refine⟨by rw[ht,decide_eq_true c],?_⟩;obtain⟨w,hw⟩:∃w,F[k]? =some w:=⟨_,zAD c⟩
   have W:=A.wy w (zA0 hw);have hl:=W.len T O;have A2:=A.next T O ndp hw;have hb:=qw hn T O A.nd A.wy;have hb2:=qw hn T O A2.nd A2.wy;have hat:atD (F.map tupI) (k:Int)= .ok (tupI w):=di (by rw[zAL,hw];rfl);have hi:pA (tupI w)= .ok (tupI w):=nQ (by unfold tupI;simp only[imm];exact iR w);have d1:tZ 3 (bL (op2 ixD (fG 1) (aC 2))) (wyE n ps F k s3)= .nx (wyE n ps F k (.nw (tupI w))):=by
    simp[hat,hi]
   have d2:aFZ 1 wyC (wyE n ps F k (.nw (tupI w)))= .nx (wyE n ps (F++nxt ps w) k (.nw (tupI w))):=by
    have e:=aGV (F:=F) (k:=k) O W.ne (by lia) hps
    show((wyC (wyE n ps F k (.nw (tupI w)))).bo (aF0 (F.map tupI) λ l=>.nx (List.set (wyE n ps F k (.nw (tupI w))) 1 (.ow (.lst l)))))=_
    rw[e,bh,aF0,if_pos (by rw[szl,zAB,zAB,<-zA9];lia),<-zBH];rfl
   refine⟨wyE n ps (F++nxt ps w) (k+1) (.nw (tupI w)),m-1,?_,by lia,_,_,_,rfl,A2,by lia⟩;rw[wyB,aR,d1,ak,aR,d2,ak];show Ou.nx _=_;rfl
  .left
   rw[ht,decide_eq_false c]) (m:=960800) (by decide) ⟨_,0,.no,rfl,A0,rfl⟩
 have hk:k=F.length:=by
  have hle:=A.le;refine zEO λ z=>?_
  have:(k:Int)<(F.length:Int):=by lia
  unfold wyT at ht;simp at ht;lia
 subst hk;refine⟨F,?_,λ w=>⟨A.wy w,λ W=>A.all W⟩,qw hn T O A.nd A.wy⟩;simp only[fC,cH,bZ,st];rw[aR,c1,ak,aR,c2,ak,aR,e',ak];rfl
end
theorem qL{lt:Nat->Nat->Bool}(irr:∀i,lt i i=false)(tr:∀i j k,lt i j=true->lt j k=true->lt i k=true):∀k i,i<=k->lt i (zAq lt k)=false
 |0,i,h=>by
  rw[show i=0 by lia];exact irr 0
 |k+1,i,h=>by
  have ih:=qL irr tr k;simp only[zAq];by_cases c:lt (k+1) (zAq lt k)=true
  .rw[if_pos c]
   by_cases e:i=k+1
   .rw[e];exact irr _
   .have h1:=ih i (by lia)
    cases h2:lt i (k+1)with
    |false=>rfl
    |true=>rw[tr _ _ _ h2 c]at h1;cases h1
  .rw[if_neg c]
   by_cases e:i=k+1
   .rw[e];simpa using c
   .exact ih i (by lia)
def wL{α:Type}{f:D->D->Option Bool}{F:α->D}{L:α->α->Bool}{l:List α}(hF:∀x∈l,∀y∈l,f (F x) (F y)=some (L x y))(irr:∀x,L x x=false)(tr:∀x y z,L x y=true->L y z=true->L x z=true)(h0:0<l.length):
  ∃x∈l,lZ f (l.map F)=F x/\∀y∈l,L y x=false:=by
 have hne:l≠[]:=λ z=>by rw[z]at h0;simp at h0
 have hd:∀i,i<l.length->∃x,l[i]? =some x/\(l.map F).getD i .non=F x:=λ i hi=>by
  refine⟨l[i],zAD hi,?_⟩;rw[zAQ,zAL,zAD hi];rfl
 let g:Nat->α:=λ i=>l.getD i (l.head hne)
 have hg:∀i,i<l.length->l[i]? =some (g i)/\(l.map F).getD i .non=F (g i):=λ i hi=>by
  obtain⟨x,h1,h2⟩:=hd i hi
  have:g i=x:=by show l.getD i _=x;rw[zAQ,h1];rfl
  rw[this];exact⟨h1,h2⟩
 have oQ:∀i,i<l.length->g i∈l:=λ i hi=>zA0 (hg i hi).1
 have hlt:∀i j,i<l.length->j<l.length->VL.ltI f (l.map F) i j=L (g i) (g j):=λ i j hi hj=>by
  unfold VL.ltI;rw[(hg i hi).2,(hg j hj).2,hF _ (oQ i hi) _ (oQ j hj)];rfl
 have hab:∀k,k<l.length->zAq (VL.ltI f (l.map F)) k=zAq (λ i j=>L (g i) (g j)) k:=λ k=>by
  induction k with
  |zero=>intro _;rfl
  |succ k ih=>
   intro hk;have ih:=ih (by lia);have hle:=iZ (λ i j=>L (g i) (g j)) k;simp only[zAq];rw[ih,hlt (k+1) _ hk (by lia)]
 have hk:l.length-1<l.length:=by lia
 have hb:=hab (l.length-1) hk;have hle:=iZ (λ i j=>L (g i) (g j)) (l.length-1);have hbl:zAq (λ i j=>L (g i) (g j)) (l.length-1)<l.length:=by lia
 refine⟨g (zAq (λ i j=>L (g i) (g j)) (l.length-1)),oQ _ hbl,?_,λ y hy=>?_⟩
 .unfold lZ
  rw[zAB,hb];exact(hg _ hbl).2
 .obtain⟨i,hi,e⟩:=zDE hy
  have e1:g i=y:=by
   have:=(hg i hi).1
   rw[zAD hi,e]at this;injection this with this
   exact this.symm
  rw[<-e1];exact qL (lt:=λ i j=>L (g i) (g j)) (λ i=>irr _) (λ i j k=>tr _ _ _) (l.length-1) i (by lia)
def gO:List Int->List Int->Bool
 |[],[]=>false
 |[],_::_=>true
 |_::_,[]=>false
 |x::a,y::b=>if x=y then gO a b else decide (x<y)
theorem aAf:∀a b:List Int,sJ (a.map D.int) (b.map D.int)=some (gO a b)
 |[],[]=>rfl
 |[],_::_=>rfl
 |_::_,[]=>rfl
 |x::a,y::b=>by
  rw[zAG,zAG,sJ,gO];by_cases c:x=y
  .subst c
   rw[if_pos (by simp[eqD]),if_pos rfl];exact aAf a b
  .rw[if_neg (by simp[eqD,c]),if_neg c]
   rfl
def za(a b:List Int):lsD (tupI a) (tupI b)=some (gO a b):=aAf a b
theorem qj:∀a:List Int,gO a a=false
 |[]=>rfl
 |x::a=>by rw[gO,if_pos rfl];exact qj a
theorem zg:∀a b c:List Int,gO a b=true->gO b c=true->gO a c=true
 |[],[],_,h,_=>by cases h
 |[],_::_,[],_,h=>by cases h
 |[],_::_,_::_,_,_=>rfl
 |_::_,[],_,h,_=>by cases h
 |_::_,_::_,[],_,h=>by cases h
 |x::a,y::b,z::c,h1,h2=>by
  rw[gO]at h1 h2 ⊢;by_cases c1:x=y
  .subst c1
   rw[if_pos rfl]at h1;by_cases c2:x=z
   .rw[if_pos c2]at h2 ⊢
    exact zg a b c h1 h2
   .rw[if_neg c2]at h2 ⊢
    exact h2
  .rw[if_neg c1,decide_eq_true_eq]at h1
   by_cases c2:y=z
   .subst c2
    rw[if_neg c1,decide_eq_true_eq];exact h1
   .rw[if_neg c2,decide_eq_true_eq]at h2
    rw[if_neg (by lia),decide_eq_true_eq];lia
theorem sO:∀a b:List Int,gO a b=false->gO b a=false->a=b
 |[],[],_,_=>rfl
 |[],_::_,h,_=>by cases h
 |_::_,[],_,h=>by cases h
 |x::a,y::b,h1,h2=>by
  rw[gO]at h1 h2;by_cases c:x=y
  .subst c
   rw[if_pos rfl]at h1 h2;rw[sO a b h1 h2]
  .rw[if_neg c,decide_eq_false_iff_not]at h1
   rw[if_neg (λ z=>c z.symm),decide_eq_false_iff_not]at h2;lia
def mz(k:Int)(w:List Int):D:=.tup [.int k,tupI w]
def aCy(k:Int)(w:List Int)(k':Int)(w':List Int):Bool:=if k=k' then gO w w' else decide (k<k')
def aCz(k k':Int)(w w':List Int):lsD (mz k w) (mz k' w')=some (aCy k w k' w'):=by
 unfold mz aCy;rw[lsD,sJ];by_cases c:k=k'
 .subst c
  rw[if_pos (by simp[eqD]),if_pos rfl,sJ];split
  .rename_i h
   have:w=w':=by
    have h2:jy (w.map D.int) (w'.map D.int)=true:=h;rw[uy,decide_eq_true_eq]at h2;exact h2
   rw[this,qj];rfl
  .exact za w w'
 .rw[if_neg (by simp[eqD,c]),if_neg c]
  rfl
section
variable{n:Nat}{ps:gX}{od:List Int}{F:gV}
structure Hi(n:Nat)(ps:gX)(p h:Int):Prop where
 ex:∃w,Wy n ps w/\laI w=p/\(w.length:Int)=h
 le:∀w,Wy n ps w->laI w=p->(w.length:Int)<=h
def Hi.uniq{p h h':Int}(a:Hi n ps p h)(b:Hi n ps p h'):h=h':=by
 obtain⟨w,w1,w2,w3⟩:=a.ex;obtain⟨v,v1,v2,v3⟩:=b.ex
 have:=a.le v v1 v2
 have:=b.le w w1 w2
 lia
def hfI(F:gV)(p:Int):Int:=(((F.filter λ w=>decide (laI w=p)).map λ w=>(w.length:Int)).max?).getD 0
def aDS(hF:∀w,w∈F↔Wy n ps w){p:Int}(hp:0<=p/\p<(n:Int)):((F.filter λ w=>decide (laI w=p)).map λ w=>(w.length:Int)).max?=some (hfI F p)/\Hi n ps p (hfI F p):=by
 have h1:[p]∈F.filter λ w=>decide (laI w=p):=zAl.mpr ⟨(hF _).mpr (.one hp),by simp[laI]⟩
 cases e:((F.filter λ w=>decide (laI w=p)).map λ w=>(w.length:Int)).max? with
 |none=>
  rw[List.max?_eq_none_iff,zBu]at e;rw[e]at h1;cases h1
 |some m=>
  have hm:hfI F p=m:=by unfold hfI;rw[e];rfl
  rw[hm];refine⟨rfl,?_⟩;have hmax:=zDa.mp e;obtain⟨w,hw,ew⟩:=zAZ.mp hmax.1;obtain⟨w1,w2⟩:=zAl.mp hw;refine⟨⟨w,(hF w).mp w1,by simpa using w2,ew⟩,λ v V hv=>hmax.2 _ (zAZ.mpr ⟨v,zAl.mpr ⟨(hF v).mpr V,by simpa using hv⟩,rfl⟩)⟩
def Hi.step(O:Ow n ps){p m:Int}{g:Int->Int}(hp:0<=p/\p<(n:Int))(hg:∀a,(a,p)∈ps->Hi n ps a (g a))(h0:(∀a,(a,p)∉ps)->m=0)(h1:∀a,(a,p)∈ps->g a<=m)(h2:(∃a,(a,p)∈ps)->∃a,(a,p)∈ps/\g a=m):Hi n ps p (1+m):=by
 by_cases c:∃a,(a,p)∈ps
 .obtain⟨a,ha,e⟩:=h2 c
  obtain⟨w,W,w1,w2⟩:=(hg a ha).ex;refine⟨⟨w++[p],W.snoc (by rw[w1];exact ha) hp,vq,by rw[zA9,zBb];lia⟩,λ v V hv=>?_⟩;obtain⟨u,y,rfl⟩:∃u y,v=u++[y]:=⟨v.dropLast,v.getLast V.ne,(zCy V.ne).symm⟩
  rw[vq]at hv;subst hv;rw[zA9,zBb];by_cases z:u=[]
  .subst z
   have:=(hg a ha).le w W w1
   have:=zB1.mpr W.ne
   simp;lia
  .obtain⟨U,hu⟩:=V.back z
   have:=(hg _ hu).le u U rfl
   have:=h1 _ hu
   lia
 .have hm:=h0 λ a ha=>c ⟨a,ha⟩
  subst hm;refine⟨⟨[p],.one hp,by simp[laI],rfl⟩,λ v V hv=>?_⟩;obtain⟨u,y,rfl⟩:∃u y,v=u++[y]:=⟨v.dropLast,v.getLast V.ne,(zCy V.ne).symm⟩
  rw[vq]at hv;subst hv;by_cases z:u=[]
  .subst z;simp
  .exact absurd ⟨_,(V.back z).2⟩ c
def aDT(a b:Int):grD (.int a) (.int b)=some (decide (b<a)):=by
 unfold grD;rfl
def sG(ns:List Int):aDv grD (ns.map .int)/\∃m:Int,xY (.int 0) (ns.map .int)= .int m/\(ns=[]->m=0)/\(ns≠[]->m∈ns)/\∀x∈ns,x<=m:=by
 refine⟨⟨iR ns,(gD ns).2,by have:=(gD ns).1;lia,λ x hx y hy=>?_⟩,?_⟩
 .obtain⟨a,_,rfl⟩:=zAZ.mp hx
  obtain⟨b,_,rfl⟩:=zAZ.mp hy;rw[aDT];rfl
 .by_cases c:ns=[]
  .subst c
   exact⟨0,rfl,λ _=>rfl,λ z=>absurd rfl z,λ x hx=>(nomatch hx)⟩
  .have hp:0<ns.length:=zB1.mpr c
   obtain⟨m,hm,e,hx⟩:=wL (f:=grD) (F:=D.int) (L:=λ a b=>decide (b<a)) (l:=ns) (λ a _ b _=>aDT a b) (λ a=>by simp) (λ a b c h1 h2=>by simp at h1 h2 ⊢;lia) hp;refine⟨m,?_,λ z=>absurd z c,λ _=>hm,λ x h=>?_⟩
   .unfold xY
    rw[if_neg (by rw[zAB];lia)];exact e
   .have:=hx x h
    simp at this;exact this
abbrev htE(n:Nat)(ps:gX)(ll:dP)(g:Int->Int)(s3:Slot):En:=[.sh (owD n ps),.sh (.lst (ll.map .lst)),.ow (.lst (((upI n).map g).map .int)),s3]
def aGQ{g:Int->Int}{x:Int}(h:0<=x/\x<(n:Int)):atD (((upI n).map g).map .int) x= .ok (.int (g x)):=by
 have ex:((x.toNat:Nat):Int)=x:=zB2 h.1
 have:=di (l:=((upI (n:Int)).map g).map .int) (k:=x.toNat) (d:=.int (g x)) (by
  rw[zAL,zAL];unfold upI;rw[zAL,zBr (by lia)];simp[ex])
 rwa [ex]at this
def aGb{g:Int->Int}{x v:Int}(h:0<=x/\x<(n:Int)):(((upI n).map g).map D.int).set x.toNat (.int v)=((upI n).map λ z=>if z=x then v else g z).map .int:=by
 refine zFp λ i=>?_
 rw[List.getElem?_set];unfold upI;simp only[zAL,zAB,zCM];by_cases c:x.toNat=i
 .subst c
  rw[if_pos rfl,if_pos (by lia),zBr (by lia)];simp[zB2 h.1]
 .rw[if_neg c]
  by_cases hi:i<(n:Int).toNat
  .rw[zBr hi]
   have:¬((i:Int)=x):=by lia
   simp[this]
  .rw[zCk (by rw[zCM];lia)]
   rfl
def jr{a p:Int}:a∈bF (ps.map sw) p↔(a,p)∈ps:=by
 rw[iz,zAZ];constructor
 .rintro⟨q,hq,e⟩
  unfold sw at e;injection e with e1 e2
  subst e1 e2;exact hq
 .exact λ h=>⟨(a,p),h,rfl⟩
def aHy(O:Ow n ps)(hn:n<=7)(hps:ps.length<64){ll:dP}(N:aDm n (ps.map sw) ll){g h:Int->Int}{p:Int}(hp:0<=p/\p<(n:Int))(hh:Hi n ps p (h p))(hg:∀a,(a,p)∈ps->Hi n ps a (h a)/\g a=h a):
  htB (htE n ps ll g (.sh (.int p)))= .nx (htE n ps ll (λ z=>if z=p then h p else g z) (.sh (.int p))):=by
 have item:=N.item p hp.1 hp.2;have hrng:∀a∈bF (ps.map sw) p,0<=a/\a<(n:Int):=λ a ha=>by
  have:=O.pr _ (jr.mp ha)
  exact⟨this.1,this.2.1⟩
 have hll:(bF (ps.map sw) p).length<64:=by
  unfold bF;rw[zAB]
  have:=zD8 (λ q:Int×Int=>q.1==p) (ps.map sw)
  rw[zAB]at this;lia
 have e1:htC (htE n ps ll g (.sh (.int p)))= .ok (.lst (((bF (ps.map sw) p).map g).map .int)):=by
  rw[zAc];refine iM (ds:=(bF (ps.map sw) p).map .int) (by simp[shE,nA,item]) (by rw[zAB];lia) (o7 _ λ a ha=>⟨[.sh (.int a),.sh (.lst (((upI n).map g).map .int))],rfl,?_⟩)
  have:=aGQ (g:=g) (hrng a ha)
  show(okD (atD (((upI (n:Int)).map g).map D.int) a)).bd pA=_
  rw[this];rfl
 obtain⟨hc,m,em,m0,m1,m2⟩:=sG ((bF (ps.map sw) p).map g);have e2:xZ (aB htC aG) (cD (.int 0)) (htE n ps ll g (.sh (.int p)))= .ok (.int m):=by
  unfold xZ;rw[bI,e1,aK,cC,aK,aK];dsimp only;rw[if_pos hc,yU,aK,if_pos (show imm (D.int 0)=true from rfl),em]
 have hv:h p=1+m:=by
  refine hh.uniq (Hi.step O hp (λ a ha=>(hg a ha).1) (λ z=>m0 ?_) (λ a ha=>?_) λ⟨a,ha⟩=>?_)
  .rw[zBu,List.eq_nil_iff_forall_not_mem]
   exact λ a ha=>z a (jr.mp ha)
  .rw[<-(hg a ha).2]
   exact m2 _ (zAZ.mpr ⟨a,jr.mpr ha,rfl⟩)
  .have hne:(bF (ps.map sw) p).map g≠[]:=λ z=>by
    rw[zBu]at z
    have:=jr.mpr ha
    rw[z]at this;cases this
   obtain⟨b,hb,eb⟩:=zAZ.mp (m1 hne);have hb':=jr.mp hb;exact⟨b,hb',by rw[<-(hg b hb').2];exact eb⟩
 have e3:htV (htE n ps ll g (.sh (.int p)))= .ok (.int (h p)):=by
  rw[htV,cX,yU,aK,e2,aK,hv];rfl
 have e4:putN (((upI n).map g).map D.int) (.int p)=some p.toNat:=by
  show ixN _ p=some p.toNat;unfold ixN;rw[if_pos hp.1,if_pos (by rw[zAB,zAB,iD];lia)]
 unfold htB aE5
 show((htV (htE n ps ll g (.sh (.int p)))).bo λ d=>(aC 3 (htE n ps ll g (.sh (.int p)))).bo λ k=>match putN (((upI n).map g).map D.int) k with
  |some j=>.nx ((htE n ps ll g (.sh (.int p))).set 2 (.ow (.lst ((((upI n).map g).map D.int).set j d))))
  |none=>.st)=_
 rw[e3,bh,show aC 3 (htE n ps ll g (.sh (.int p)))= .ok (.int p)from rfl,bh,e4];dsimp only;rw[aGb hp];rfl
def aCW(k:Nat):(zAJ k [D.int 0]).flatten=(zAp k).map λ _=>D.int 0:=by
 rw[List.map_const',zCM];induction k with
 |zero=>rfl
 |succ k ih=>rw[zBJ,zBk,ih,zBJ];rfl
def mul_zero{k:Nat}(h:k<=100):dR (.lst [.int 0]) (.int (k:Int))= .ok (.lst (((upI k).map λ _=>(0:Int)).map .int)):=by
 have e:((upI (k:Int)).map λ _=>(0:Int)).map D.int=(zAp k).map λ _=>D.int 0:=by
  unfold upI;rw[zAc,zAc];rfl
 rw[e];unfold dR;dsimp only;rw[if_pos,zFw,aCW];simp[szl,fM,imm];lia
def aAE(O:Ow n ps)(T:To n ps od)(ho:cJ [owD n ps]= .ok (.lst (od.map .int)))(hn:n<=7)(hps:ps.length<64){h:Int->Int}(hh:∀p,0<=p/\p<(n:Int)->Hi n ps p (h p)):iB [owD n ps]= .ok (.lst (((upI n).map h).map .int)):=by
 obtain⟨ll,el,N⟩:=qM O;have st:ao 4 [owD n ps]=[.sh (owD n ps),.no,.no,.no]:=rfl;have hx:ixD (owD n ps) (.int 0)= .ok (.int (n:Int)):=by simp[owD]
 have c1:cU 1 (aU fZ (aB (aC 0) aG)) [.sh (owD n ps),.no,.no,.no]= .nx [.sh (owD n ps),.sh (.lst (ll.map .lst)),.no,.no]:=by simp[el]
 have c2:jV 2 (op2 dR (gZ (aB (cD (.int 0)) aG)) (bL (op2 ixD (aC 0) (cD (.int 0))))) [.sh (owD n ps),.sh (.lst (ll.map .lst)),.no,.no]= .nx (htE n ps ll (λ _=>0) .no):=by
  have m0:=mul_zero (k:=n) (by lia);simp[hx,m0]
 have hi:gB (aU cJ (aB (aC 0) aG)) (htE n ps ll (λ _=>0) .no)= .ok (od.map .int):=by simp[ho]
 obtain⟨Y',e,g,s3,rfl,hg⟩:=gC (a:=gnm 3) (u:=htB) (od.map .int) (λ i Y=>∃(g:Int->Int) (s3:Slot),Y=htE n ps ll g s3/\∀x∈od.take i,g x=h x) (htE n ps ll (λ _=>0) .no) ⟨_,_,rfl,λ x hx=>by simp at hx⟩ (by
  rintro i d Y hd ⟨g,s3,rfl,hg⟩;rw[zAL]at hd;cases ei:od[i]? with
  |none=>rw[ei]at hd;cases hd
  |some p=>
   rw[ei]at hd;cases hd;have hp:=T.rg p (zA0 ei);obtain⟨hi1,hi2⟩:=zAM.mp ei;have esp:od=od.take i++p::od.drop (i+1):=by
    have h1:=zCX hi1;rw[hi2]at h1;rw[<-h1,zDc]
   have:=aHy (g:=g) (h:=h) O hn hps N hp (hh p hp) λ a ha=>by
    have hr:=O.pr _ ha;exact⟨hh a ⟨hr.1,hr.2.1⟩,hg a (T.tp _ _ _ esp a ha)⟩
   refine⟨_,this,_,_,rfl,λ x hx=>?_⟩;rw[zFr,ei]at hx;by_cases c:x=p
   .rw[if_pos c,c]
   .rw[if_neg c]
    rcases zAe.mp hx with z|z
    .exact hg x z
    .exact absurd (by simpa using z) c)
 have hfin:((upI n).map g).map D.int=((upI n).map h).map .int:=by
  have e2:(upI (n:Int)).map g=(upI (n:Int)).map h:=zC5 λ x hx=>by
   have:=cZ.mp hx
   refine hg x ?_;rw[zAB,zFE (zAT _)];exact T.all this.1 this.2
  rw[e2]
 simp only[iB,gr,bZ,st];rw[aR,c1,ak,aR,c2,ak,aR,g8,hi,bh,e,ak,<-hfin];rfl
end
section
variable{n:Nat}{ps:gX}{h:Int->Int}
structure Tp(ns:List Int)(t:Int):Prop where
 mem:ns=[]/\t=0\/t∈ns
 le:∀x∈ns,x<=t
def Tp.uniq{ns:List Int}{t t':Int}(a:Tp ns t)(b:Tp ns t'):t=t':=by
 rcases a.mem with ⟨e,rfl⟩|h1
 .rcases b.mem with ⟨_,rfl⟩|h2
  .rfl
  .rw[e]at h2;cases h2
 .rcases b.mem with ⟨e,_⟩|h2
  .rw[e]at h1;cases h1
  .have:=a.le _ h2
   have:=b.le _ h1
   lia
def shL(n:Nat)(h:Int->Int)(m:Nat):gV:=(zAp m).map λ k:Nat=>(upI n).filter λ x=>decide (h x=1+(k:Int))
def aGa(hn:n<=7)(k:Int):shI [.sh (.int k),.sh (owD n ps),.sh (.lst (((upI n).map h).map .int))]= .ok (tupI ((upI n).filter λ x=>decide (h x=k))):=by
 have hx:ixD (owD n ps) (.int 0)= .ok (.int (n:Int)):=by simp[owD]
 have hr:=dZ (j:=(n:Int)) (by lia) (by lia);have e:lcD (dm fJ (aB (op2 ixD (aC 1) (cD (.int 0))) aG)) [none,some 2,some 0] (gnm 0) (tsb (op2 (eqR false) (op2 ixD (aC 1) (aC 0)) (aC 2))) (bL (aC 0)) [.sh (.int k),.sh (owD n ps),.sh (.lst (((upI n).map h).map .int))]= .ok (.lst (((upI n).filter λ x=>decide (h x=k)).map .int)):=by
  refine iM (ds:=(upI n).map .int) (by simp[shE,nA,hx,hr,v4]) (by rw[zAB,iD];lia) (j0 _ λ x hx=>⟨[.sh (.int x),.sh (.lst (((upI n).map h).map .int)),.sh (.int k)],rfl,?_,rfl⟩);have h1:=aGQ (g:=h) (cZ.mp hx);have h2:op2 ixD (aC 1) (aC 0) [.sh (.int x),.sh (.lst (((upI n).map h).map .int)),.sh (.int k)]= .ok (.int (h x)):=by
   show okD (atD (((upI (n:Int)).map h).map D.int) x)=_;rw[h1,dO]
  have h3:eqR false (.int (h x)) (.int k)= .ok (.bl (h x==k)):=rfl;rw[jf,cX,h2,aK]
  show((okD (eqR false (.int (h x)) (.int k))).bd _)=_
  rw[h3,dO];by_cases c:h x=k
  .rw[decide_eq_true c,beq_iff_eq.mpr c];rfl
  .rw[decide_eq_false c,beq_eq_false_iff_ne.mpr c];rfl
 rw[shI,jm,bI,e,aK,cC,aK,aK,qy,dO]
def aCN{Y:En}{fi:En->Rs (List D)}{i j:Nat}{t:Int}(hn:n<=7)(t0:0<=t)(t1:t<=7)(hi:fi (shE Y)= .ok (cN 1 (t+1)))(hst:stE [none,some i,some j] (shE Y)=[.no,.sh (owD n ps),.sh (.lst (((upI n).map h).map .int))]):
  lcD fi [none,some i,some j] (gnm 0) m9 shI Y= .ok (.lst ((shL n h t.toNat).map tupI)):=by
 unfold shL;rw[zAc];have e:cN 1 (t+1)=(zAp t.toNat).map λ(k:Nat)=>D.int (1+(k:Int)):=by
  unfold cN;rw[show(t+1-1).toNat=t.toNat by lia]
 refine iM (ds:=(zAp t.toNat).map λ(k:Nat)=>D.int (1+(k:Int))) (by rw[hi,e]) (by rw[zAB,zCM];lia) ?_;rw[hst];exact o7 (f:=λ k:Nat=>D.int (1+(k:Int))) _ λ k _=>⟨[.sh (.int (1+(k:Int))),.sh (owD n ps),.sh (.lst (((upI n).map h).map .int))],rfl,aGa hn _⟩
def aCu(ns:List Int):∃t:Int,xY (.int 0) (ns.map .int)= .int t/\Tp ns t:=by
 obtain⟨_,m,e,m0,m1,m2⟩:=sG ns;refine⟨m,e,?_,m2⟩;by_cases c:ns=[]
 .exact .inl ⟨c,m0 c⟩
 .exact .inr (m1 c)
def aCA{t:Int}(hb:∀p,0<=p/\p<(n:Int)->1<=h p/\h p<=7)(T:Tp ((upI n).map h) t):0<=t/\t<=7:=by
 rcases T.mem with ⟨_,rfl⟩|m
 .exact⟨by decide,by decide⟩
 .obtain⟨p,hp,e⟩:=zAZ.mp m
  have:=hb p (cZ.mp hp)
  lia
def yt(hc:bB [owD n ps]= .ok .non)(hh:iB [owD n ps]= .ok (.lst (((upI n).map h).map .int)))(hn:n<=7)(hb:∀p,0<=p/\p<(n:Int)->1<=h p/\h p<=7){t:Int}(T:Tp ((upI n).map h) t):cI [owD n ps]= .ok (.lst ((shL n h t.toNat).map tupI)):=by
 obtain⟨t0,t1⟩:=aCA hb T;obtain⟨t',et,T'⟩:=aCu ((upI n).map h)
 have:=T.uniq T'
 subst this;have cm:=(sG ((upI (n:Int)).map h)).1;have st:ao 2 [owD n ps]=[.sh (owD n ps),.no]:=rfl;have c0:qH (aU bB (aB (aC 0) aG)) [.sh (owD n ps),.no]= .nx [.sh (owD n ps),.no]:=by simp[hc]
 obtain⟨V,eV⟩:∃V,V=((upI (n:Int)).map h).map D.int:=⟨_,rfl⟩
 have c1:cU 1 (aU iB (aB (aC 0) aG)) [.sh (owD n ps),.no]= .nx [.sh (owD n ps),.sh (.lst V)]:=by rw[eV];simp only[vW,gF,bI,cC,aDz,zBA,aK,hh,bh];rfl
 have hr:=v5 (i:=1) (j:=t+1) (by decide) (by decide) (by lia) (by lia);have hi:dm uB (aB (cD (.int 1)) (aB (op2 bT (xZ (aB (aC 1) aG) (cD (.int 0))) (cD (.int 1))) aG)) (shE [.sh (owD n ps),.sh (.lst V)])= .ok (cN 1 (t+1)):=by
  have hm:xZ (aB (aC 1) aG) (cD (.int 0)) (shE [.sh (owD n ps),.sh (.lst V)])= .ok (.int t):=by
   unfold xZ;have ha:aB (aC 1) aG (shE [.sh (owD n ps),.sh (.lst V)])= .ok [.lst V]:=rfl;rw[ha,aK];dsimp only;rw[eV,if_pos cm,yU,aK,if_pos (show imm (D.int 0)=true from rfl),et]
  rw[aEZ,bI,yU,aK,bI,cX,hm,aK,yU,aK,aDj,dO,aK,cC,aK,aK,aK,hr]
 have e2:=aCN (Y:=[.sh (owD n ps),.sh (.lst V)]) (h:=h) (ps:=ps) (n:=n) (i:=0) (j:=1) hn t0 t1 hi (by rw[eV];rfl);have key:fO [.sh (owD n ps),.no]= .rt (.lst ((shL n h t.toNat).map tupI)):=by
  rw[fO,aR,c0,ak,aR,c1,ak,kO,e2];rfl
 unfold cI;rw[bZ,st,key]
end
def btr(w v:List Int):Bool:=aCy (-(w.length:Int)) w (-(v.length:Int)) v
def kyD(w:List Int):D:=mz (-(w.length:Int)) w
def aF8(w:List Int):btr w w=false:=by
 unfold btr aCy;rw[if_pos rfl];exact qj w
def jA{w v:List Int}:btr w v=true↔v.length<w.length\/w.length=v.length/\gO w v=true:=by
 unfold btr aCy;by_cases c:w.length=v.length
 .rw[if_pos (by lia)]
  constructor
  .exact λ h=>.inr ⟨c,h⟩
  .rintro(h|h)
   .lia
   .exact h.2
 .rw[if_neg (by lia),decide_eq_true_eq]
  constructor
  .intro h;left;lia
  .rintro(h|h)
   .lia
   .exact absurd h.1 c
def aDc{u v w:List Int}(h1:btr u v=true)(h2:btr v w=true):btr u w=true:=by
 rw[jA]at h1 h2 ⊢;rcases h1 with a|⟨a,a2⟩
 .rcases h2 with b|⟨b,b2⟩
  .left;lia
  .left;lia
 .rcases h2 with b|⟨b,b2⟩
  .left;lia
  .right;exact⟨by lia,zg _ _ _ a2 b2⟩
def aF7{u v:List Int}(h1:btr u v=false)(h2:btr v u=false):u=v:=by
 have n1:¬(v.length<u.length\/u.length=v.length/\gO u v=true):=λ z=>by rw[jA.mpr z]at h1;cases h1
 have n2:¬(u.length<v.length\/v.length=u.length/\gO v u=true):=λ z=>by rw[jA.mpr z]at h2;cases h2
 have e:u.length=v.length:=by lia
 refine sO u v ?_ ?_
 .cases q:gO u v with
  |false=>rfl
  |true=>exact absurd (.inr ⟨e,q⟩) n1
 .cases q:gO v u with
  |false=>rfl
  |true=>exact absurd (.inr ⟨e.symm,q⟩) n2
def aDd{u v w:List Int}(h1:btr u v=false)(h2:btr v w=false):btr u w=false:=by
 cases q:btr u w with
 |false=>rfl
 |true=>
  cases r:btr w v with
  |true=>rw[aDc q r]at h1;cases h1
  |false=>
   have:=aF7 h2 r
   subst this;rw[q]at h1;cases h1
def aDe(x:Int)(u v:List Int):btr (x::u) (x::v)=btr u v:=by
 rw[zE2,jA,jA,zA2,zA2]
 have:gO (x::u) (x::v)=gO u v:=by rw[gO,if_pos rfl]
 rw[this];lia
structure Bw(ws:gV)(b:List Int):Prop where
 nil:ws=[]->b=[]
 mem:ws≠[]->b∈ws
 le:∀v∈ws,btr v b=false
theorem aAj:∀ws:gV,keysOf bwF (ws.map tupI)=some (ws.map kyD)
 |[]=>rfl
 |w::ws=>by
  have e:bwF [.sh (tupI w)]= .ok (kyD w):=by
   unfold bwF kyD mz tupI;simp
  rw[zAG,keysOf,e,aAj ws];rfl
theorem aAK:∀ws:gV,bQ (ws.map kyD)<=3/\aX (ws.map kyD)=true
 |[]=>⟨by simp[bQ],rfl⟩
 |w::ws=>by
  obtain⟨h1,h2⟩:=aAK ws;obtain⟨h3,h4⟩:=gD w;refine⟨?_,?_⟩
  .have hk:gR (kyD w)<=3:=by simp[kyD,mz,tupI,gR,bQ,h3]
   simp only[zAG,bQ];exact Nat.max_le.mpr ⟨hk,h1⟩
  .simp only[zAG,kyD,mz,tupI,aX,aV,h4]
   simpa[kyD,mz,tupI]using h2
def aHk{w v:List Int}(h:kyD w=kyD v):w=v:=by
 unfold kyD mz tupI at h;injection h with h
 injection h with h1 h2
 injection h2 with h2 _
 injection h2 with h2
 have:=congrArg (List.map intOf) h2
 rw[zAc,zAc]at this;have e:(intOf∘D.int)=id:=by funext x;rfl
 rw[e,zF9,zF9]at this;exact this
theorem kZ:∀ws:gV,fM (ws.map tupI)=true
 |[]=>rfl
 |w::ws=>by
  rw[zAG,fM,kZ ws,zCJ];unfold tupI;simp only[imm];exact iR w
def qK(ws:gV):∃b,eE [.lst (ws.map tupI)]= .ok (tupI b)/\Bw ws b:=by
 have st:ao 1 [.lst (ws.map tupI)]=[.sh (.lst (ws.map tupI))]:=rfl;have hc:fM (ws.map tupI)=true/\aDu (ws.map kyD):=by
  refine⟨kZ ws,(aAK ws).2,by have:=(aAK ws).1;lia,λ x hx y hy=>?_⟩;obtain⟨a,_,rfl⟩:=zAZ.mp hx;obtain⟨b,_,rfl⟩:=zAZ.mp hy;unfold kyD;rw[aCz];rfl
 have ev:aFA (aB (aC 0) aG) bwF (bW aG) [.sh (.lst (ws.map tupI))]= .ok (xf (.tup []) (ws.map tupI) (ws.map kyD)):=by
  unfold aFA;have ha:aB (aC 0) aG [.sh (.lst (ws.map tupI))]= .ok [.lst (ws.map tupI)]:=rfl;rw[ha,aK];dsimp only;rw[aAj];dsimp only;rw[if_pos hc];rfl
 have key:∀b,xf (.tup []) (ws.map tupI) (ws.map kyD)=tupI b->eE [.lst (ws.map tupI)]= .ok (tupI b):=λ b e=>by
  have:bx [.sh (.lst (ws.map tupI))]= .rt (tupI b):=by
   rw[bx,kO,ev,e];rfl
  unfold eE;rw[bZ,st,this]
 by_cases c:ws=[]
 .subst c
  exact⟨[],key [] rfl,λ _=>rfl,λ z=>absurd rfl z,λ v hv=>(nomatch hv)⟩
 .have hp:0<ws.length:=zB1.mpr c
  obtain⟨b,hb,e,hl⟩:=wL (f:=lsD) (F:=kyD) (L:=btr) (l:=ws) (λ a _ b _=>by unfold kyD btr;exact aCz _ _ _ _) aF8 (λ a b c=>aDc) hp;refine⟨b,key b ?_,λ z=>absurd z c,λ _=>hb,hl⟩;unfold xf;rw[if_neg (by rw[zAB];lia),zAB];unfold lZ at e;rw[zAB]at e;have hi:=iZ (VL.ltI lsD (ws.map kyD)) (ws.length-1);obtain⟨i,ei⟩:∃i,i=zAq (VL.ltI lsD (ws.map kyD)) (ws.length-1):=⟨_,rfl⟩
  rw[<-ei]at e hi ⊢;have hlt:i<ws.length:=by lia
  rw[zAQ,zAL,zAD hlt]at e ⊢;have e2:kyD ws[i]=kyD b:=e;show tupI ws[i]=tupI b;rw[aHk e2]
section
variable{n:Nat}{ps:gX}{od:List Int}
structure Bb(n:Nat)(ps:gX)(x:Int)(w:List Int):Prop where
 wy:Wy n ps w
 hd:hdI w=x
 le:∀v,Wy n ps v->hdI v=x->btr v w=false
def Bb.step(O:Ow n ps){p:Int}(hp:0<=p/\p<(n:Int)){g:Int->List Int}(hg:∀y,(p,y)∈ps->Bb n ps y (g y)){b:List Int}(B:Bw ((bF ps p).map g) b):Bb n ps p (p::b):=by
 have oQ:∀y,(p,y)∈ps->g y∈(bF ps p).map g:=λ y hy=>zAZ.mpr ⟨y,iz.mpr hy,rfl⟩
 refine⟨?_,rfl,λ v V hv=>?_⟩
 .by_cases c:(bF ps p).map g=[]
  .rw[B.nil c]
   exact .one hp
  .obtain⟨y,hy,e⟩:=zAZ.mp (B.mem c)
   have h:=hg y (iz.mp hy);rw[<-e];exact h.wy.cons (by rw[h.hd];exact iz.mp hy) hp
 .cases v with
  |nil=>exact absurd rfl V.ne
  |cons x r=>
   have hx:x=p:=hv;subst hx;rw[aDe];cases r with
   |nil=>
    cases q:btr [] b with
    |false=>rfl
    |true=>
     rw[jA]at q;rcases q with q|⟨q,q2⟩
     .simp at q
     .have:b=[]:=zBt.mp (by simpa using q.symm)
      subst this;cases q2
   |cons y r=>
    obtain⟨hy,V2⟩:=V.tail;exact aDd ((hg y hy).le _ V2 rfl) (B.le _ (oQ y hy))
def bgD(l:List (Int×List Int)):List (Int×D):=l.map λ q=>(q.1,tupI q.2)
abbrev lgE(n:Nat)(ps:gX)(ll:dP)(l:List (Int×List Int))(s3:Slot):En:=[.sh (owD n ps),.sh (.lst (ll.map .lst)),.ow (pJ (bgD l)),s3]
def gtL(l:List (Int×List Int))(y:Int):List Int:=(l.lookup y).getD []
theorem aDA:∀{l:List (Int×List Int)} {y:Int},y∈l.map (·.1)->(bgD l).lookup y=some (tupI (gtL l y))/\(y,gtL l y)∈l
 |q::l,y,h=>by
  unfold bgD gtL;rw[zAG,zAn,zAn];by_cases c:y=q.1
  .subst c
   simp
  .have e:(y==q.1)=false:=beq_eq_false_iff_ne.mpr c
   rw[zAG,zAV]at h;obtain⟨h1,h2⟩:=aDA (h.resolve_left c);rw[e];exact⟨h1,zAK _ h2⟩
def aJC{ps:List (Int×D)}{i:Int}{d:D}(h:ps.lookup i=some d):aAJ (pJ ps) (.int i)= .ok d:=by
 unfold aAJ pJ;dsimp only;rw[oY];dsimp only;rw[h]
def aC6{ps:List (Int×D)}{i:Int}{d:D}(h:i∉ps.map (·.1)):zO ps i d=ps++[(i,d)]:=by
 unfold zO;rw[if_neg];rw[zFx];rintro⟨p,hp,e⟩;exact h (zAZ.mpr ⟨p,hp,of_decide_eq_true e⟩)
def aF9(l:List (Int×List Int)):(bgD l).map (·.1)=l.map (·.1):=by
 unfold bgD;rw[zAc];rfl
def aHd(T:To n ps od)(O:Ow n ps)(hn:n<=7)(hps:ps.length<64){ll:dP}(N:aDm n ps ll){l:List (Int×List Int)}{p:Int}(hp:0<=p/\p<(n:Int))(hl:∀q∈l,Bb n ps q.1 q.2)(hin:∀y,(p,y)∈ps->y∈l.map (·.1))(cS:p∉l.map (·.1))(hz:l.length<=100):
  ∃w,Bb n ps p w/\lgB (lgE n ps ll l (.sh (.int p)))= .nx (lgE n ps ll (l++[(p,w)]) (.sh (.int p))):=by
 have item:=N.item p hp.1 hp.2;have hll:(bF ps p).length<64:=by
  unfold bF;rw[zAB]
  have:=zD8 (λ q:Int×Int=>q.1==p) ps
  lia
 have e1:lgC (lgE n ps ll l (.sh (.int p)))= .ok (.lst (((bF ps p).map (gtL l)).map tupI)):=by
  rw[zAc];refine iM (ds:=(bF ps p).map .int) (by simp[shE,nA,item]) (by rw[zAB];lia) (o7 _ λ y hy=>⟨[.sh (.int y),.sh (pJ (bgD l))],rfl,?_⟩);obtain⟨h1,_⟩:=aDA (hin y (iz.mp hy));have h2:=aJC h1;have hi:pA (tupI (gtL l y))= .ok (tupI (gtL l y)):=nQ (by unfold tupI;simp only[imm];exact iR _)
  show(okD (aAJ (pJ (bgD l)) (.int y))).bd pA=_
  rw[h2,dO,aK,hi];rfl
 obtain⟨b,eb,B⟩:=qK ((bF ps p).map (gtL l));have H:=Bb.step O hp (λ y hy=>hl _ (aDA (hin y hy)).2) B;have hbl:b.length<=10000:=by
  have:=H.wy.len T O
  rw[zA2]at this;lia
 refine⟨p::b,H,?_⟩;have e2:lgV (lgE n ps ll l (.sh (.int p)))= .ok (tupI (p::b)):=by
  have a1:bW (aB (bL (aC 3)) aG) (lgE n ps ll l (.sh (.int p)))= .ok (.tup [.int p]):=rfl;have a2:aU eE (aB lgC aG) (lgE n ps ll l (.sh (.int p)))= .ok (tupI b):=by
   rw[gF,bI,e1,aK,cC,aK,aK,eb]
  have a3:bT (.tup [.int p]) (tupI b)= .ok (tupI (p::b)):=by
   have:=yc (l:=[.int p]) (m:=b.map .int)
   rw[if_pos (by rw[zAB,zBb];lia)]at this;exact this
  rw[lgV,cX,a1,aK,a2,aK,a3,dO]
 have e4:rO (pJ (bgD l)) (.int p)=some (bgD l,p):=by
  unfold rO pJ;dsimp only;rw[oY];rfl
 unfold lgB pdS
 show((lgV (lgE n ps ll l (.sh (.int p)))).bo λ d=>(aC 3 (lgE n ps ll l (.sh (.int p)))).bo λ k=>match rO (pJ (bgD l)) k with
  |some (ps',j)=>if ps'.length<zAN then .nx ((lgE n ps ll l (.sh (.int p))).set 2 (.ow (pJ (zO ps' j d))))else .st
  |none=>.st)=_
 rw[e2,bh,show aC 3 (lgE n ps ll l (.sh (.int p)))= .ok (.int p)from rfl,bh,e4];dsimp only;rw[if_pos (by rw[szl];unfold bgD;rw[zAB];lia),aC6 (by rw[aF9];exact cS)]
 have:bgD l++[(p,tupI (p::b))]=bgD (l++[(p,p::b)]):=by unfold bgD;rw[zBH];rfl
 rw[this];rfl
def zc(O:Ow n ps)(T:To n ps od)(hc:bB [owD n ps]= .ok .non)(ho:cJ [owD n ps]= .ok (.lst (od.map .int)))(hn:n<=7)(hps:ps.length<64):
  ∃b,cT [owD n ps]= .ok (tupI b)/\(n=0->b=[])/\(0<n->Wy n ps b)/\∀v,Wy n ps v->btr v b=false:=by
 obtain⟨ll,el,N⟩:=tO O;have st:ao 4 [owD n ps]=[.sh (owD n ps),.no,.no,.no]:=rfl;have c0:qH (aU bB (aB (aC 0) aG)) [.sh (owD n ps),.no,.no,.no]= .nx [.sh (owD n ps),.no,.no,.no]:=by simp[hc]
 have c1:cU 1 (aU fY (aB (aC 0) aG)) [.sh (owD n ps),.no,.no,.no]= .nx [.sh (owD n ps),.sh (.lst (ll.map .lst)),.no,.no]:=by simp[el]
 have c2:jV 2 (cD (.dct [] [])) [.sh (owD n ps),.sh (.lst (ll.map .lst)),.no,.no]= .nx (lgE n ps ll [] .no):=rfl;have hi:gB (op1 aA6 (aU cJ (aB (aC 0) aG))) (lgE n ps ll [] .no)= .ok (od.reverse.map .int):=by
  rw[List.map_reverse];simp[ho,aA6]
 have nr:od.reverse.Nodup:=(List.reverse_perm od).nodup_iff.mpr T.nd;obtain⟨Y',e,l,s3,rfl,hk,hl⟩:=gC (a:=gnm 3) (u:=lgB) (od.reverse.map .int) (λ i Y=>∃(l:List (Int×List Int)) (s3:Slot),Y=lgE n ps ll l s3/\l.map (·.1)=od.reverse.take i/\∀q∈l,Bb n ps q.1 q.2) (lgE n ps ll [] .no) ⟨[],_,rfl,by simp,λ q hq=>(nomatch hq)⟩ (by
  rintro i d Y hd ⟨l,s3,rfl,hk,hl⟩;rw[zAL]at hd;cases ei:od.reverse[i]? with
  |none=>rw[ei]at hd;cases hd
  |some p=>
   rw[ei]at hd;cases hd;have hp:=T.rg p (by simpa using zA0 ei);obtain⟨hi1,hi2⟩:=zAM.mp ei;have hW:l.length=i:=by
    have:=congrArg zDs hk
    rw[zAB,zD2]at this;lia
   have hol:=T.len;have hrl:od.reverse.length=n:=by rw[zDt];exact hol
   obtain⟨w,H,e⟩:=aHd (l:=l) T O hn hps N hp hl (λ y hy=>by
    rw[hk];have hlt:=T.lt O hy;have hpr:=O.pr _ hy;have hym:=T.all hpr.2.2.1 hpr.2.2.2.1;have hiy:=zDF hym;have hip:od.idxOf p=n-1-i:=by
     have h1:od[n-1-i]? =some p:=by
      rw[List.getElem?_reverse (by lia)]at ei;rw[hol]at ei;exact ei
     obtain⟨h2,h3⟩:=zAM.mp h1
     have:=T.nd.idxOf_getElem (n-1-i) h2
     rw[h3]at this;exact this
    rw[zEi];refine⟨n-1-od.idxOf y,by lia,?_⟩;rw[List.getElem_reverse]
    have:od.length-1-(n-1-od.idxOf y)=od.idxOf y:=by lia
    simp only[this];exact zEE hiy) (by
    rw[hk];intro hm;rw[zEi]at hm;obtain⟨j,hj,e⟩:=hm
    have:=(zCL (i:=j) (j:=i) (by lia) nr).mp (by rw[ei,zAD (by lia),e])
    lia) (by lia)
   refine⟨_,e,l++[(p,w)],_,rfl,?_,λ q hq=>?_⟩
   .rw[zBH,hk,zFr,ei]
    rfl
   .rcases zAe.mp hq with z|z
    .exact hl q z
    .rw[zA7.mp z];exact H)
 rw[zAB,zFE (zAT _)]at hk;obtain⟨b,eb,B⟩:=qK (l.map (·.2));have ev:op1 aBX (fG 2) (lgE n ps ll l s3)= .ok (.lst ((l.map (·.2)).map tupI)):=by
  have h1:(bgD l).map (·.2)=(l.map (·.2)).map tupI:=by unfold bgD;rw[zAc,zAc];rfl
  show okD (aBX (pJ (bgD l)))=_;unfold aBX pJ;dsimp only;rw[oY];dsimp only;rw[h1,if_pos (kZ _),dO]
 have hlm:l.length=n:=by
  have:=congrArg zDs hk
  rw[zAB,zDt,T.len]at this;exact this
 refine⟨b,?_,λ h0=>?_,λ h0=>?_,λ v V=>?_⟩
 .have key:fP [.sh (owD n ps),.no,.no,.no]= .rt (tupI b):=by
   rw[fP,aR,c0,ak,aR,c1,ak,aR,c2,ak,aR,g8,hi,bh,e,ak,kO,gF,bI,ev,aK,cC,aK,aK,eb];rfl
  unfold cT;rw[bZ,st,key]
 .refine B.nil ?_
  rw[zBu];exact zBt.mp (by lia)
 .have hne:l.map (·.2)≠[]:=λ z=>by
   rw[zBu]at z;rw[z]at hlm;simp at hlm;lia
  obtain⟨q,hq,eq⟩:=zAZ.mp (B.mem hne);rw[<-eq];exact(hl q hq).wy
 .have hh:hdI v∈v:=by
   cases v with
   |nil=>exact absurd rfl V.ne
   |cons x r=>exact zAP
  have hr:=V.rg _ hh;have hx:hdI v∈l.map (·.1):=by rw[hk];simpa using T.all hr.1 hr.2
  obtain⟨q,hq,eq⟩:=zAZ.mp hx;exact aDd ((hl q hq).le v V eq.symm) (B.le _ (zAZ.mpr ⟨q,hq,rfl⟩))
end
def lHt:En->Rs D:=(lcD (dm fJ (aB (op2 ixD (aC 3) (cD (.int 0))) aG)) [none,some 4] (gnm 0) m9 (opA (eY zD9) (aB (lcD (gB (aC 1)) [none,some 0] (gnm 0) (tsb (op2 (eqR false) (op2 ixD (aC 0) (op1 sE (cD (.int 1)))) (aC 1))) (opA gA (aB (aC 0) aG))) aG)))
def lHi:En->Rs D:=(lcD (gB (aC 1)) [none,some 0] (gnm 0) (tsb (op2 (eqR false) (op2 ixD (aC 0) (op1 sE (cD (.int 1)))) (aC 1))) (opA gA (aB (aC 0) aG)))
def lMo:En->Rs D:=(opA (eY zD9) (aB (op2 bT (qO 5) (gZ (aB (cD (.int 0)) aG))) aG))
def lDu:En->Rs D:=(lcD (dm uB (aB (cD (.int 1)) (aB (op2 bT (aC 6) (cD (.int 1))) aG))) [none,some 3,some 5] (gnm 0) m9 (opA iG (aB (lcD (dm fJ (aB (op2 ixD (aC 1) (cD (.int 0))) aG)) [none,some 2,some 0] (gnm 0) (tsb (op2 (eqR false) (op2 ixD (aC 1) (aC 0)) (aC 2))) (bL (aC 0))) aG)))
def lFb:En->Ou:=(az (jV 9 (aU cI (aB (aC 3) aG))) (az (ifS (orT (qT (tst (op1 (lH "list") (fG 9)))) (tsb (op2 (eqR true) (fG 9) (qO 7)))) (retS (cD (.bl false))) Ou.nx) (qX 9 (bW aG))))
def lMn:En->Rs D:=(opA (nZ lsD) (aB (op2 bT (lcD (gB (aC 4)) [none,some 6] (gnm 0) (tsb (op2 (eqR false) (opA gA (aB (aC 0) aG)) (aC 1))) (bL (aC 0))) (op2 dR (gZ (aB (bW aG) aG)) (opA qC (aB (op2 (eqR false) (op2 ixD (aC 3) (cD (.int 0))) (cD (.int 0))) aG)))) aG))
def lWs:En->Rs D:=(lcD (gB (aC 4)) [none,some 6] (gnm 0) (tsb (op2 (eqR false) (opA gA (aB (aC 0) aG)) (aC 1))) (bL (aC 0)))
def lZr:En->Rs D:=(op2 dR (gZ (aB (bW aG) aG)) (opA qC (aB (op2 (eqR false) (op2 ixD (aC 3) (cD (.int 0))) (cD (.int 0))) aG)))
section
variable{n:Nat}{ps:gX}{F:gV}{ns:List Int}{k c:Int}{s4 s5 s6 s7 s8 s9:Slot}
abbrev lV(ns:List Int)(k c:Int)(n:Nat)(ps:gX)(s4 s5 s6 s7 s8 s9:Slot):En:=[.sh (.scr ns),.sh (.int k),.sh (.int c),.sh (owD n ps),s4,s5,s6,s7,s8,s9]
def aHj(hF:∀w,w∈F↔Wy n ps w)(hl:F.length<=960800)(x:Int):lHi [.sh (.int x),.sh (.lst (F.map tupI))]= .ok (.lst (((F.filter λ w=>decide (laI w=x)).map λ w=>(w.length:Int)).map .int)):=by
 rw[zAc];refine iM (ds:=F.map tupI) (by simp[shE,nA]) (by rw[zAB];lia) (j0 _ λ w hw=>⟨[.sh (tupI w),.sh (.int x)],rfl,?_,?_⟩)
 .have h1:=aGR ((hF w).mp hw).ne
  have h2:op2 ixD (aC 0) (op1 sE (cD (.int 1))) [.sh (tupI w),.sh (.int x)]= .ok (.int (laI w)):=by
   show okD (atD (w.map D.int) (-1))=_;rw[h1,dO]
  have h3:eqR false (.int (laI w)) (.int x)= .ok (.bl (laI w==x)):=rfl;rw[jf,cX,h2,aK]
  show((okD (eqR false (.int (laI w)) (.int x))).bd _)=_
  rw[h3,dO];by_cases q:laI w=x
  .rw[decide_eq_true q,beq_iff_eq.mpr q];rfl
  .rw[decide_eq_false q,beq_eq_false_iff_ne.mpr q];rfl
 .simp[tupI]
def aHi(hF:∀w,w∈F↔Wy n ps w)(hl:F.length<=960800)(hn:n<=7):lHt (lV ns k c n ps (.sh (.lst (F.map tupI))) s5 s6 s7 s8 s9)= .ok (.lst (((upI n).map (hfI F)).map .int)):=by
 rw[zAc];have hx:ixD (owD n ps) (.int 0)= .ok (.int (n:Int)):=by simp[owD]
 have hr:=dZ (j:=(n:Int)) (by lia) (by lia);refine iM (ds:=(upI n).map .int) (by simp[shE,nA,hx,hr,v4]) (by rw[zAB,iD];lia) (o7 _ λ x hx=>⟨[.sh (.int x),.sh (.lst (F.map tupI))],rfl,?_⟩);have e:=aHj hF hl x;have u:(opA (eY zD9) (aB (lcD (gB (aC 1)) [none,some 0] (gnm 0) (tsb (op2 (eqR false) (op2 ixD (aC 0) (op1 sE (cD (.int 1)))) (aC 1))) (opA gA (aB (aC 0) aG))) aG))=opA (eY zD9) (aB lHi aG):=rfl;rw[u,jm,bI,e,aK,cC,aK,aK];unfold eY;dsimp only;rw[cj];dsimp only;rw[(aDS hF (cZ.mp hx)).1];rfl
def aFB{ns:List Int}{t:Int}(T:Tp ns t)(h:∀x∈ns,1<=x):(ns++[0]).max?=some t:=by
 rw[zDa];refine⟨?_,λ b hb=>?_⟩
 .rcases T.mem with ⟨e,rfl⟩|m
  .simp
  .exact zAh _ m
 .rcases zAe.mp hb with z|z
  .exact T.le b z
  .rw[zA7.mp z]
   rcases T.mem with ⟨_,rfl⟩|m
   .exact Int.le_refl _
   .have:=h t m
    lia
theorem nW:∀ws:gV,bQ (ws.map tupI)<=1/\aX (ws.map tupI)=true
 |[]=>⟨by simp[bQ],rfl⟩
 |w::ws=>by
  obtain⟨h1,h2⟩:=nW ws;obtain⟨h3,h4⟩:=gD w;refine⟨?_,?_⟩
  .have hk:gR (tupI w)<=1:=by simp[tupI,gR,h3]
   simp only[zAG,bQ];exact Nat.max_le.mpr ⟨hk,h1⟩
  .rw[zAG,aX,h2,zCJ]
   simp only[tupI,aV];exact h4
def yL{d:D}(h1:gR d<=60)(h2:aV d=true):eqR true d d= .ok (.bl false):=by
 unfold eqR;rw[if_pos (by rw[zAU,zAU,decide_eq_true_eq];exact⟨⟨h1,h2⟩,h2⟩),if_pos rfl,nT _ h2];rfl
def aHg{t:Int}(hl:F.length<=960800):lWs (lV ns k c n ps (.sh (.lst (F.map tupI))) s5 (.sh (.int t)) s7 s8 s9)= .ok (.lst ((F.filter λ w=>decide ((w.length:Int)=t)).map tupI)):=by
 refine iM (ds:=F.map tupI) (by simp[shE,nA]) (by rw[zAB];lia) (j0 _ λ w hw=>⟨[.sh (tupI w),.sh (.int t)],rfl,?_,?_⟩)
 .have h2:opA gA (aB (aC 0) aG) [.sh (tupI w),.sh (.int t)]= .ok (.int (w.length:Int)):=by simp[tupI]
  have h3:eqR false (.int (w.length:Int)) (.int t)= .ok (.bl ((w.length:Int)==t)):=rfl;rw[jf,cX,h2,aK]
  show((okD (eqR false (.int (w.length:Int)) (.int t))).bd _)=_
  rw[h3,dO];by_cases q:(w.length:Int)=t
  .rw[decide_eq_true q,beq_iff_eq.mpr q];rfl
  .rw[decide_eq_false q,beq_eq_false_iff_ne.mpr q];rfl
 .have hi:pA (tupI w)= .ok (tupI w):=nQ (by unfold tupI;simp only[imm];exact iR w)
  simp[hi]
def aHf:lZr (lV ns k c n ps s4 s5 s6 s7 s8 s9)= .ok (.lst ((if n=0 then[[]]else([]:gV)).map tupI)):=by
 have hx:op2 ixD (aC 3) (cD (.int 0)) (lV ns k c n ps s4 s5 s6 s7 s8 s9)= .ok (.int (n:Int)):=by simp[owD]
 have hl:gZ (aB (bW aG) aG) (lV ns k c n ps s4 s5 s6 s7 s8 s9)= .ok (.lst [.tup []]):=rfl;have hq:op2 (eqR false) (op2 ixD (aC 3) (cD (.int 0))) (cD (.int 0)) (lV ns k c n ps s4 s5 s6 s7 s8 s9)= .ok (.bl ((n:Int)==0)):=by
  rw[cX,hx,aK];rfl
 rw[lZr,cX,hl,aK,jm,bI,hq,aK,cC,aK,aK];by_cases z:n=0
 .subst z
  rfl
 .have e:((n:Int)==0)=false:=by rw[beq_eq_false_iff_ne];lia
  rw[e,if_neg z];rfl
def aHh{t:Int}(hl:F.length<=960800){G:gV}(eG:G=(F.filter λ w=>decide ((w.length:Int)=t))++if n=0 then[[]]else[])(hG:G≠[]):∃x∈G,lMn (lV ns k c n ps (.sh (.lst (F.map tupI))) s5 (.sh (.int t)) s7 s8 s9)= .ok (tupI x)/\∀y∈G,gO y x=false:=by
 have e1:=aHg (ns:=ns) (k:=k) (c:=c) (n:=n) (ps:=ps) (s5:=s5) (s7:=s7) (s8:=s8) (s9:=s9) (t:=t) hl;have e2:=aHf (ns:=ns) (k:=k) (c:=c) (n:=n) (ps:=ps) (s4:=.sh (.lst (F.map tupI))) (s5:=s5) (s6:=.sh (.int t)) (s7:=s7) (s8:=s8) (s9:=s9);have u:lMn=opA (nZ lsD) (aB (op2 bT lWs lZr) aG):=rfl;have hfl:=zD8 (λ w:List Int=>decide ((w.length:Int)=t)) F;have e3:op2 bT lWs lZr (lV ns k c n ps (.sh (.lst (F.map tupI))) s5 (.sh (.int t)) s7 s8 s9)= .ok (.lst (G.map tupI)):=by
  rw[cX,e1,aK,e2,aK,yd,if_pos,<-zBH,<-eG,dO];rw[zAB,zAB]
  have:(if n=0 then[[]]else([]:gV)).length<=1:=by split<;>simp
  lia
 have hp:0<G.length:=zB1.mpr hG;obtain⟨x,hx,e,hm⟩:=wL (f:=lsD) (F:=tupI) (L:=gO) (l:=G) (λ a _ b _=>za a b) qj zg hp;refine⟨x,hx,?_,hm⟩;have hc:Cmp lsD (G.map tupI):=by
  refine⟨by rw[zAB];exact hp,kZ G,(nW G).2,by have:=(nW G).1;lia,λ x hx y hy=>?_⟩;obtain⟨a,_,rfl⟩:=zAZ.mp hx;obtain⟨b,_,rfl⟩:=zAZ.mp hy;rw[za];rfl
 rw[u,jm,bI,e3,aK,cC,aK,aK];unfold nZ;dsimp only;rw[if_pos hc,e,dO]
end
def aHb{ns:List Int}{k:Int}{s2 s3 s4 s5 s6 s7 s8 s9:Slot}(hk:0<=k):∃t2 t3 t4 t5 t6 t7 t8 t9,lwK [.sh (.scr ns),.sh (.int k),s2,s3,s4,s5,s6,s7,s8,s9]= .nx [.sh (.scr ns),.sh (.int k),t2,t3,t4,t5,t6,t7,t8,t9]:=by
 obtain⟨c,ec⟩:=aF4 (ns:=ns) hk;obtain⟨n,ps,ew,O,hn,hps,U⟩:=sV (c:=c) (most:=7) (by decide);have ew':dX [.int c,.int 7]= .ok (owD n ps):=ew;obtain⟨od,ho,o1,o2,o3,o4⟩:=rQ O U;have hck:=pK O U;have T:To n ps od:=⟨o1,o2,o3,o4⟩;obtain⟨F,eF,hF,hFl⟩:=yZ O T hn hps;have hH:∀p,0<=p/\p<(n:Int)->Hi n ps p (hfI F p):=λ p hp=>(aDS hF hp).2
 have hb:∀p,0<=p/\p<(n:Int)->1<=hfI F p/\hfI F p<=7:=λ p hp=>by
  have h:=hH p hp;obtain⟨w,W,_,e⟩:=h.ex
  have:=W.len T O
  have:=zB1.mpr W.ne
  lia
 have hht:=aAE O T ho hn hps hH;obtain⟨t,_,Tt⟩:=aCu ((upI (n:Int)).map (hfI F));obtain⟨t0,t1⟩:=aCA hb Tt;have hsh:=yt hck hht hn hb Tt;obtain⟨b,eb,b0,b1,b2⟩:=zc O T hck ho hn hps;have c0:lQ0 [.sh (.scr ns),.sh (.int k),s2,s3,s4,s5,s6,s7,s8,s9]= .nx [.sh (.scr ns),.sh (.int k),.sh (.int c),s3,s4,s5,s6,s7,s8,s9]:=by simp[lQ0,ec]
 have c1:lQ1 [.sh (.scr ns),.sh (.int k),.sh (.int c),s3,s4,s5,s6,s7,s8,s9]= .nx (lV ns k c n ps s4 s5 s6 s7 s8 s9):=by simp[lQ1,ew']
 have c2:lQ2 (lV ns k c n ps s4 s5 s6 s7 s8 s9)= .nx (lV ns k c n ps (.sh (.lst (F.map tupI))) s5 s6 s7 s8 s9):=by simp[lQ2,eF]
 have e3:=aHi (ns:=ns) (k:=k) (c:=c) (s5:=s5) (s6:=s6) (s7:=s7) (s8:=s8) (s9:=s9) hF hFl hn;obtain⟨wy,ewy⟩:∃wy:Slot,wy= .sh (.lst (F.map tupI)):=⟨_,rfl⟩
 obtain⟨V,eV⟩:∃V,V=((upI (n:Int)).map (hfI F)).map D.int:=⟨_,rfl⟩
 rw[<-ewy]at c2;rw[<-ewy,<-eV]at e3;have c3:lQ3 (lV ns k c n ps wy s5 s6 s7 s8 s9)= .nx (lV ns k c n ps wy (.nw (.lst V)) s6 s7 s8 s9):=by
  have u:lQ3=tZ 5 lHt:=rfl;rw[u,aA0,e3];rfl
 have c4:lQ4 (lV ns k c n ps wy (.nw (.lst V)) s6 s7 s8 s9)= .nx (lV ns k c n ps wy (.nw (.lst V)) (.sh (.int t)) s7 s8 s9):=by
  have u:lQ4=cU 6 lMo:=rfl;have a1:op2 bT (qO 5) (gZ (aB (cD (.int 0)) aG)) (lV ns k c n ps wy (.nw (.lst V)) s6 s7 s8 s9)= .ok (.lst (((upI (n:Int)).map (hfI F)++[0]).map .int)):=by
   show okD (bT (.lst V) (.lst [.int 0]))=_;rw[yd,if_pos (by rw[eV,zAB,zAB,iD,zBb];lia),dO,zBH,<-eV];rfl
  have a2:lMo (lV ns k c n ps wy (.nw (.lst V)) s6 s7 s8 s9)= .ok (.int t):=by
   rw[lMo,jm,bI,a1,aK,cC,aK,aK];unfold eY;dsimp only;rw[cj];dsimp only;rw[aFB Tt λ x hx=>by
    obtain⟨p,hp,e⟩:=zAZ.mp hx;rw[<-e];exact(hb p (cZ.mp hp)).1]
   rfl
  rw[u,vW,a2];rfl
 have hr2:=v5 (i:=1) (j:=t+1) (by decide) (by decide) (by lia) (by lia);have e5:lDu (lV ns k c n ps wy (.nw (.lst V)) (.sh (.int t)) s7 s8 s9)= .ok (.lst ((shL n (hfI F) t.toNat).map tupI)):=by
  refine aCN (ps:=ps) (i:=3) (j:=5) hn t0 t1 ?_ (by rw[eV];rfl)
  show(uB [.int 1,.int (t+1)])=_
  exact hr2
 obtain⟨L,eL⟩:∃L,L=shL n (hfI F) t.toNat:=⟨_,rfl⟩
 rw[<-eL]at e5 hsh;have hLl:L.length<=7:=by rw[eL];unfold shL;rw[zAB,zCM];lia
 have c5:lQ5 (lV ns k c n ps wy (.nw (.lst V)) (.sh (.int t)) s7 s8 s9)= .nx (lV ns k c n ps wy (.nw (.lst V)) (.sh (.int t)) (.nw (.lst (L.map tupI))) s8 s9):=by
  have u:lQ5=tZ 7 lDu:=rfl;rw[u,aA0,e5];rfl
 have q0:eqR true (.lst (L.map tupI)) (.lst (L.map tupI))= .ok (.bl false):=by
  have d:=nW L;exact yL (by unfold gR;lia) (by unfold aV;exact d.2)
 have hr:dm fJ (aB (cD (.int 2)) aG) (lV ns k c n ps wy (.nw (.lst V)) (.sh (.int t)) (.nw (.lst (L.map tupI))) s8 s9)= .ok (cN 0 2):=by
  have:=dZ (j:=2) (by decide) (by decide)
  simp[this]
 obtain⟨Y',e,t8,t9,rfl⟩:=gC (a:=gnm 8) (u:=lFb) (cN 0 2) (λ _ Y=>∃t8 t9,Y=lV ns k c n ps wy (.nw (.lst V)) (.sh (.int t)) (.nw (.lst (L.map tupI))) t8 t9) (lV ns k c n ps wy (.nw (.lst V)) (.sh (.int t)) (.nw (.lst (L.map tupI))) s8 s9) ⟨_,_,rfl⟩ (by
  rintro i d Y hd ⟨t8,t9,rfl⟩;refine⟨lV ns k c n ps wy (.nw (.lst V)) (.sh (.int t)) (.nw (.lst (L.map tupI))) (.sh d) (.ow (.lst (L.map tupI++[.tup []]))),?_,_,_,rfl⟩;rw[wD,rm];show lFb (lV ns k c n ps wy (.nw (.lst V)) (.sh (.int t)) (.nw (.lst (L.map tupI))) (.sh d) t9)=_;have il:lH "list" (.lst (L.map tupI))= .ok (.bl true):=rfl;have ap:qX 9 (bW aG) (lV ns k c n ps wy (.nw (.lst V)) (.sh (.int t)) (.nw (.lst (L.map tupI))) (.sh d) (.ow (.lst (L.map tupI))))= .nx (lV ns k c n ps wy (.nw (.lst V)) (.sh (.int t)) (.nw (.lst (L.map tupI))) (.sh d) (.ow (.lst (L.map tupI++[.tup []])))):=by
   show(if (L.map tupI).length<zAN then Ou.nx _ else .st)=_
   rw[if_pos (by rw[szl,zAB];lia)];rfl
  simp[lFb,hsh,q0,il,ap])
 have c6:lQ6 (lV ns k c n ps wy (.nw (.lst V)) (.sh (.int t)) (.nw (.lst (L.map tupI))) s8 s9)= .nx (lV ns k c n ps wy (.nw (.lst V)) (.sh (.int t)) (.nw (.lst (L.map tupI))) t8 t9):=by
  have u:lQ6=j7 (dm fJ (aB (cD (.int 2)) aG)) (gnm 8) lFb:=rfl;rw[u,g8,hr,bh,e]
 have tw:∀v,Wy n ps v->(v.length:Int)<=t:=λ v W=>by
  have hr:=W.rg _ (aHe W.ne);have h1:=(hH _ hr).le v W rfl;have h2:=Tt.le _ (zAZ.mpr ⟨laI v,cZ.mpr hr,rfl⟩);lia
 have bG:b∈(F.filter λ w=>decide ((w.length:Int)=t))++if n=0 then[[]]else[]:=by
  by_cases z:n=0
  .rw[if_pos z,b0 z]
   simp
  .rw[if_neg z,zAv]
   have Wb:=b1 (by lia);refine zAl.mpr ⟨(hF b).mpr Wb,?_⟩;rw[decide_eq_true_eq];have h1:=tw b Wb;rcases Tt.mem with ⟨e,_⟩|m
   .rw[zBu]at e
    have:(0:Int)∈upI (n:Int):=cZ.mpr ⟨by decide,by lia⟩
    rw[e]at this;cases this
   .obtain⟨p,hp,e⟩:=zAZ.mp m
    obtain⟨w,W,_,ew⟩:=(hH p (cZ.mp hp)).ex;have h2:=b2 w W;have h3:¬(b.length<w.length):=λ q=>by rw[jA.mpr (.inl q)]at h2;cases h2
    lia
 obtain⟨G,eG⟩:∃G,G=(F.filter λ w=>decide ((w.length:Int)=t))++if n=0 then[[]]else[]:=⟨_,rfl⟩
 rw[<-eG]at bG;obtain⟨x,hx,em,hm⟩:=aHh (ns:=ns) (k:=k) (c:=c) (n:=n) (ps:=ps) (s5:=.nw (.lst V)) (s7:=.nw (.lst (L.map tupI))) (s8:=t8) (s9:=t9) (t:=t) hFl eG (List.ne_nil_of_mem bG);have hxb:x=b:=by
  refine sO x b ?_ (hm b bG);cases q:gO x b with
  |false=>rfl
  |true=>
   exfalso;have lenG:∀y∈G,(y.length:Int)=t\/y=[]:=λ y hy=>by
    rw[eG]at hy;rcases zAe.mp hy with z|z
    .left;simpa using(zAl.mp z).2
    .right
     split at z
     .exact zA7.mp z
     .cases z
   by_cases z:n=0
   .rw[b0 z]at q
    cases x with
    |nil=>cases q
    |cons _ _=>cases q
   .rw[eG,if_neg z,zAv]at hx bG
    have h1:=(zAl.mp hx);have h2:=(zAl.mp bG).2;have h3:=b2 x ((hF x).mp h1.1);have e1:(x.length:Int)=t:=by simpa using h1.2
    have e2:(b.length:Int)=t:=by simpa using h2
    rw[jA.mpr (.inr ⟨by lia,q⟩)]at h3;cases h3
 subst hxb;rw[<-ewy]at em;have qb:eqR true (tupI x) (tupI x)= .ok (.bl false):=yL (by have:=(gD x).1;unfold tupI gR;lia) (by unfold tupI;simp only[aV];exact(gD x).2);have c7:lQ7 (lV ns k c n ps wy (.nw (.lst V)) (.sh (.int t)) (.nw (.lst (L.map tupI))) t8 t9)= .nx (lV ns k c n ps wy (.nw (.lst V)) (.sh (.int t)) (.nw (.lst (L.map tupI))) t8 t9):=by
  have u:lQ7=ifS (tsb (op2 (eqR true) (aU cT (aB (aC 3) aG)) lMn)) (retS (cD (.bl false))) Ou.nx:=rfl;have a1:aU cT (aB (aC 3) aG) (lV ns k c n ps wy (.nw (.lst V)) (.sh (.int t)) (.nw (.lst (L.map tupI))) t8 t9)= .ok (tupI x):=by
   rw[gF,bI,show aC 3 (lV ns k c n ps wy (.nw (.lst V)) (.sh (.int t)) (.nw (.lst (L.map tupI))) t8 t9)= .ok (owD n ps)from rfl,aK,cC,aK,aK,eb]
  have a2:tsb (op2 (eqR true) (aU cT (aB (aC 3) aG)) lMn) (lV ns k c n ps wy (.nw (.lst V)) (.sh (.int t)) (.nw (.lst (L.map tupI))) t8 t9)= .ok false:=by
   rw[jf,cX,a1,aK,em,aK,qb];rfl
  rw[u,wC,a2];rfl
 exact⟨_,_,_,_,_,_,_,_,by rw[lwK,aR,c0,ak,aR,c1,ak,aR,c2,ak,aR,c3,ak,aR,c4,ak,aR,c5,ak,aR,c6,ak,c7]⟩
def aDC(ns:List Int)(hl:ns.length<=63):aDp [.scr ns]= .ok (.bl true):=by
 have st:ao 10 [.scr ns]=[.sh (.scr ns),.no,.no,.no,.no,.no,.no,.no,.no,.no]:=rfl;let m:Int:=if (if (8:Int)<ns.length then(8:Int)else ns.length)>1 then(if (8:Int)<ns.length then(8:Int)else ns.length)else 1
 have hm:1<=m/\m<=8:=by
  show 1<=(if (if (8:Int)<ns.length then(8:Int)else ns.length)>1 then(if (8:Int)<ns.length then(8:Int)else ns.length)else 1)/\(if (if (8:Int)<ns.length then(8:Int)else ns.length)>1 then(if (8:Int)<ns.length then(8:Int)else ns.length)else 1)<=8;split<;>split<;>lia
 have hr:=dZ (j:=m) (by lia) (by lia);have hR:lwR [.sh (.scr ns),.no,.no,.no,.no,.no,.no,.no,.no,.no]= .ok (cN 0 m):=by
  rw[<-hr];unfold lwR;simp[m]
 obtain⟨Y',el,t1,t2,t3,t4,t5,t6,t7,t8,t9,rfl⟩:=gC (a:=gnm 1) (u:=lwK) (cN 0 m) (λ _ Y=>∃t1 t2 t3 t4 t5 t6 t7 t8 t9,Y=[.sh (.scr ns),t1,t2,t3,t4,t5,t6,t7,t8,t9]) [.sh (.scr ns),.no,.no,.no,.no,.no,.no,.no,.no,.no] ⟨.no,.no,.no,.no,.no,.no,.no,.no,.no,rfl⟩ (by
  rintro i d Y hd ⟨t1,t2,t3,t4,t5,t6,t7,t8,t9,rfl⟩;obtain⟨k,rfl,k0,k1⟩:=xn.mp (zA0 hd);obtain⟨u2,u3,u4,u5,u6,u7,u8,u9,e⟩:=aHb (ns:=ns) (k:=k) (s2:=t2) (s3:=t3) (s4:=t4) (s5:=t5) (s6:=t6) (s7:=t7) (s8:=t8) (s9:=t9) k0;exact⟨_,e,_,_,_,_,_,_,_,_,_,rfl⟩)
 have z0:cI [.tup [.int 0,.tup []]]= .ok (.lst []):=by kernel_rfl
 have z1:cT [.tup [.int 0,.tup []]]= .ok (.tup []):=by kernel_rfl
 have z2:cI [.tup [.int 2,.tup []]]= .ok (.lst [.tup [.int 0,.int 1]]):=by kernel_rfl
 have cz:lwZ [.sh (.scr ns),t1,t2,t3,t4,t5,t6,t7,t8,t9]= .ok (.bl true):=by
  have b0:bW (aB (cD (.int 0)) (aB (bW aG) aG)) [.sh (.scr ns),t1,t2,t3,t4,t5,t6,t7,t8,t9]= .ok (.tup [.int 0,.tup []]):=rfl;have b2:bW (aB (cD (.int 2)) (aB (bW aG) aG)) [.sh (.scr ns),t1,t2,t3,t4,t5,t6,t7,t8,t9]= .ok (.tup [.int 2,.tup []]):=rfl;have a1:aU cI (aB (bW (aB (cD (.int 0)) (aB (bW aG) aG))) aG) [.sh (.scr ns),t1,t2,t3,t4,t5,t6,t7,t8,t9]= .ok (.lst []):=by
   rw[gF,bI,b0,aK,cC,aK,aK,z0]
  have a2:aU cT (aB (bW (aB (cD (.int 0)) (aB (bW aG) aG))) aG) [.sh (.scr ns),t1,t2,t3,t4,t5,t6,t7,t8,t9]= .ok (.tup []):=by
   rw[gF,bI,b0,aK,cC,aK,aK,z1]
  have a3:aU cI (aB (bW (aB (cD (.int 2)) (aB (bW aG) aG))) aG) [.sh (.scr ns),t1,t2,t3,t4,t5,t6,t7,t8,t9]= .ok (.lst [.tup [.int 0,.int 1]]):=by
   rw[gF,bI,b2,aK,cC,aK,aK,z2]
  have l0:gZ aG [.sh (.scr ns),t1,t2,t3,t4,t5,t6,t7,t8,t9]= .ok (.lst []):=rfl;have l1:gZ (aB (bW (aB (cD (.int 0)) (aB (cD (.int 1)) aG))) aG) [.sh (.scr ns),t1,t2,t3,t4,t5,t6,t7,t8,t9]= .ok (.lst [.tup [.int 0,.int 1]]):=rfl;have l2:bW aG [.sh (.scr ns),t1,t2,t3,t4,t5,t6,t7,t8,t9]= .ok (.tup []):=rfl;have q0:eqR false (.lst []) (.lst [])= .ok (.bl true):=rfl;have q1:eqR false (.tup []) (.tup [])= .ok (.bl true):=rfl;have q2:eqR false (.lst [.tup [.int 0,.int 1]]) (.lst [.tup [.int 0,.int 1]])= .ok (.bl true):=rfl;unfold lwZ;simp only[wN,cX,a1,a2,a3,l0,l1,l2,aK,q0,q1,q2,dO,aII]
 have key:qI [.sh (.scr ns),.no,.no,.no,.no,.no,.no,.no,.no,.no]= .rt (.bl true):=by
  rw[qI,aR,g8,hR,bh,el,ak,kO,cz,bh]
 unfold aDp;rw[bZ,st,key]
local macro_rules|`(tactic|walk_at "sc")=>`(tactic|exact⟨rfl,rfl,rfl,by decide+kernel,rfl,by decide+kernel,by decide+kernel⟩)
def top(i:Nat):Stmt:=PySem.Challenge.pw_fewways_k76_shelves_and_the_longest_way.main.body.getD i (.Pass ⟨0,0,0,0⟩)
abbrev mH:Stmt:=top 6
abbrev oU:Stmt:=top 7
abbrev mJ:Stmt:=top 8
abbrev oR:Stmt:=top 9
abbrev jk:Stmt:=top 10
abbrev dj:Stmt:=top 11
abbrev jY:Stmt:=top 13
abbrev gM:Stmt:=top 14
abbrev oW:Stmt:=top 15
abbrev mL:Stmt:=top 16
abbrev oN:Stmt:=top 17
abbrev jB:Stmt:=top 18
abbrev gK:Stmt:=top 19
abbrev oV:Stmt:=top 21
abbrev oM:Stmt:=top 22
abbrev mK:Stmt:=top 23
abbrev oO:Stmt:=top 24
abbrev jD:Stmt:=top 26
abbrev mG:Stmt:=top 27
abbrev mF:Stmt:=top 28
abbrev jC:Stmt:=top 29
abbrev iI:Stmt:=top 30
abbrev aCT:Stmt:=top 31
def xF:aY ["thing"] ["thing"] (aM mH):=by walk_at "sc"
def zF:aY ["thing"] ["thing"] (aM oU):=by walk_at "sc"
def xG:aY ["many","thing"] ["many","thing"] (aM mJ):=by walk_at "sc"
def zE:aY ["many","thing"] ["many","thing"] (aM oR):=by walk_at "sc"
def vZ:aY ["things","at"] ["things"] (aM jk):=by walk_at "sc"
def lE:aY ["many","thing","pair"] ["many","thing"] (aM dj):=by walk_at "sc"
def uA:aY ["thing"] ["thing"] (aM jY):=by walk_at "sc"
def oK:aY ["thing"] ["thing"] (aM gM):=by walk_at "sc"
def zH:aY ["web","led","begin","end"] ["web"] (aM oW):=by walk_at "sc"
def xJ:aY ["web","come","begin","end"] ["web"] (aM mL):=by walk_at "sc"
def zA:aY ["web","led","waits","ready","order","place","other"] ["web"] (aM oN):=by walk_at "sc"
def rD:aY ["web","order"] ["web"] (aM jB):=by walk_at "sc"
def oJ:aY ["web"] ["web"] (aM gK):=by walk_at "sc"
def zG:aY ["web","come","found","place"] ["web"] (aM oV):=by walk_at "sc"
def yz:aY ["web","high"] ["web"] (aM oM):=by walk_at "sc"
def xH:aY ["ways"] ["ways"] (aM mK):=by walk_at "sc"
def zB:aY ["web","led","begun","place"] ["web"] (aM oO):=by walk_at "sc"
def rF:aY ["_law_script","_law_k"] ["_law_script","_law_k"] (aM jD):=by walk_at "sc"
def ww:aY ["_law_cell","_law_k","_law_bound","_law_left","_law_j","_law_stir"] ["_law_cell","_law_k","_law_bound"] (aM mG):=by walk_at "sc"
def wu:aY ["_law_cell","_law_many","_law_found","_law_place"] ["_law_cell","_law_many"] (aM mF):=by walk_at "sc"
def rE:aY ["_law_cell","_law_most","_law_many","_law_kind","_law_thick","_law_order","_law_arrows","_law_spot","_law_j","_law_i"] ["_law_cell","_law_most"] (aM jC):=by walk_at "sc"
def qP:aY ["_law_web","_law_found","_law_at","_law_way"] ["_law_web"] (aM iI):=by walk_at "sc"
def aGg:aY ["_law_script","_law_k","_law_cell","_law_web","_law_ways","_law_heights","_law_most","_law_due","_law_turn_here","_law_found"] ["_law_script"] (aM aCT):=by walk_at "sc"
set_option genInjectivity false in
set_option genSizeOf false in
structure Adr where
 tD:Addr
 fU:zAa
 ur:Addr
 gq:zAa
 tE:Addr
 fV:zAa
 uq:Addr
 gn:zAa
 qF:Addr
 cu:zAa
 iT:Addr
 aj:zAa
 nR:Addr
 dJ:zAa
 jd:Addr
 bV:zAa
 uv:Addr
 gw:zAa
 tH:Addr
 fW:zAa
 um:Addr
 gm:zAa
 lQ:Addr
 cQ:zAa
 jc:Addr
 bU:zAa
 ut:Addr
 gr:zAa
 ul:Addr
 fO:zAa
 tG:Addr
 bx:zAa
 uo:Addr
 fP:zAa
 lU:Addr
 bw:zAa
 tB:Addr
 du:zAa
 sy:Addr
 fQ:zAa
 lR:Addr
 cR:zAa
 jw:Addr
 cH:zAa
 aGN:Addr
 qI:zAa
 lM:Value
 m7:Addr
 m6:Addr
 pM:Addr
structure Txt(K:zAA)(mg:Str->Option Value)(t:Adr):Prop where
 mW:Dnr K mg "is_whole" mH ["thing"] t.tD t.fU
 vA:Dnr K mg "is_many" oU ["thing"] t.ur t.gq
 mX:Dnr K mg "is_place" mJ ["many","thing"] t.tE t.fV
 uz:Dnr K mg "is_pair" oR ["many","thing"] t.uq t.gn
 qG:Dnr K mg "is_rising" jk ["things"] t.qF t.cu
 iY:Dnr K mg "are_rising_pairs" dj ["many","thing"] t.iT t.aj
 nU:Dnr K mg "is_one_way" jY ["thing"] t.nR t.dJ
 je:Dnr K mg "check_one_way" gM ["thing"] t.jd t.bV
 pH:Dnr K mg "all_led" oW ["web"] t.uv t.gw
 mY:Dnr K mg "all_come" mL ["web"] t.tH t.fW
 lB:Dnr K mg "ordered" oN ["web"] t.um t.gm
 lW:Dnr K mg "least_order" jB ["web"] t.lQ t.cQ
 gQ:Dnr K mg "check_ordered" gK ["web"] t.jc t.bU
 vB:Dnr K mg "heights" oV ["web"] t.ut t.gr
 lA:Dnr K mg "shelves" oM ["web"] t.ul t.fO
 iW:Dnr K mg "best_way" mK ["ways"] t.tG t.bx
 pG:Dnr K mg "longest" oO ["web"] t.uo t.fP
 lY:Dnr K mg "_law_cell_at" jD ["_law_script","_law_k"] t.lU t.bw
 iV:Dnr K mg "_law_draw" mG ["_law_cell","_law_k","_law_bound"] t.tB t.du
 tL:Dnr K mg "_law_turn" mF ["_law_cell","_law_many"] t.sy t.fQ
 lX:Dnr K mg "_law_ordered" jC ["_law_cell","_law_most"] t.lR t.cR
 jz:Dnr K mg "_law_all_ways" iI ["_law_web"] t.jw t.cH
 aD6:Dnr K mg "law" aCT ["_law_script"] t.aGN t.qI
 fj:mg "MOST_PLACES"=some t.lM
 uD:RelV (.int 60) t.lM
 m_FewError:mg "FewError"=some (.ref t.m7)
 l_FewError:aq mg "FewError"=t.m7
 jU:m8 K t.m7
 z8:mg "NoOneWay"=some (.ref t.m6)
 zr:aq mg "NoOneWay"=t.m6
 iC:m8 K t.m6
 aBW:mg "NoOrder"=some (.ref t.pM)
 aB3:aq mg "NoOrder"=t.pM
 jG:m8 K t.pM
 aH9:mg "bool"=none
 aGL:mg "int"=none
 dI:mg "isinstance"=none
 jo:mg "len"=none
 aCt:mg "list"=none
 xX:mg "max"=none
 aAc:mg "min"=none
 cF:mg "range"=none
 aCs:mg "sorted"=none
 jZ:mg "tuple"=none
section
variable{P:zAO}{w:World}{K:zAA}{mg:Str->Option Value}{base:Heap}{t:Adr}{Pt:Addr}
def pU(T:Txt K mg t):bj P w K mg base (CX1 P w) 1 t.tD t.fU ["thing"] (spF K (aq mg) 1 ik):=
 bN (k:=0) (f:=fU) T.mW xF λ n _ _ _ _ _ _ _=>
  (aN (bD (ji (oH (aA 0) T.dI T.aGL) (oA (aGe (oH (aA 0) T.dI T.aH9))))))
def vh(T:Txt K mg t):bj P w K mg base (CX1 P w) 1 t.qF t.cu ["things"] (spF K (aq mg) 1 eO):=
 bN (k:=0) (f:=cu) T.qG vZ λ n _ _ _ _ _ _ _=>
  (aH (fH (vU (aD aJ (aD (iH T.jo (aD (aA 0) aF)) aF)) T.cF) (cB (ks:=[1]))
   (aN (jH (lz (aAY (aL (aA 0) (aGc (aA 1) aJ)) (aL (aA 0) (aA 1))))
    (aN (bD pR))
    dC)))
  (aN (bD pR)))
def rZ(T:Txt K mg t):bj P w K mg base (CX1 P w) 1 t.uv t.gw ["web"] (spF K (aq mg) 1 fY):=
 bN (k:=0) (f:=gw) T.pH zH λ n _ _ _ _ _ _ _=>
  (aH (aFr (N:=["place"]) (js:=[none]) (ks:=[0]) (dD (aD (aL (aA 0) aJ) aF) T.cF) bO)
  (aH (fH (gJ (aL (aA 0) aJ)) (yu (n:=2) (jJ (cB (ks:=[2,3])) (jJ (cB (ks:=[2,3])) vV)))
   (aN (rA 1 (aA 2) (bR (aA 3)))))
  (aN (bD (kJ 1)))))
def pY(T:Txt K mg t):bj P w K mg base (CX1 P w) 1 t.tH t.fW ["web"] (spF K (aq mg) 1 fZ):=
 bN (k:=0) (f:=fW) T.mY xJ λ n _ _ _ _ _ _ _=>
  (aH (aFr (N:=["place"]) (js:=[none]) (ks:=[0]) (dD (aD (aL (aA 0) aJ) aF) T.cF) bO)
  (aH (fH (gJ (aL (aA 0) aJ)) (yu (n:=2) (jJ (cB (ks:=[2,3])) (jJ (cB (ks:=[2,3])) vV)))
   (aN (rA 1 (aA 3) (bR (aA 2)))))
  (aN (bD (kJ 1)))))
def rY(T:Txt K mg t):bj P w K mg base (CX1 P w) 1 t.lU t.bw ["_law_script","_law_k"] (spF K (aq mg) 2 dY):=
 bN (k:=0) (f:=bw) T.lY rF λ n _ _ _ _ _ _ _=>
  (aH (jH (aAY (aA 1) (iH T.jo (aD (aA 0) aF)))
   (aN (bD (bR (aL (aA 0) (aA 1)))))
   dC)
  (aN (bD aJ)))
def iy(T:Txt K mg t):bj P w K mg base (CX1 P w) 1 t.tB t.du ["_law_cell","_law_k","_law_bound"] (spF K (aq mg) 3 bH):=
 bN (k:=0) (f:=du) T.iV ww λ n _ _ _ _ _ _ _=>
  (aH (jH (aI6 (aA 0) (aGd aJ aJ))
   (aH (bK (i:=3) (gU (aA 0)))
   (aH (fH (dD (aD (aA 1) aF) T.cF) (cB (ks:=[4]))
    (aN (bK (i:=3) (gU (aA2 (aA 3) (aA 2))))))
   (aN (bD (oF (aA 3) (aA 2))))))
   dC)
  (aH (bK (i:=5) (gU (oF (jX (cW (cW (oF (aA 0) aJ) (jX aJ (aA 1))) aJ) aJ) aJ)))
  (aH (bK (i:=5) (gU (oF (cW (cW (jX (aA 5) (aA 5)) (jX aJ (aA 1))) aJ) aJ)))
  (aN (bD (oF (aA2 (oF (jX (aA 5) aJ) aJ) aJ) (aA 2)))))))
def qR(T:Txt K mg t):bj P w K mg base (CX1 P w) 1 t.jw t.cH ["_law_web"] (spF K (aq mg) 1 fC):=
 bN (k:=0) (f:=cH) T.jz qP λ n _ _ _ _ _ _ _=>
  (aH (gW (i:=1) (aFq (aCF (N:=["_law_place"]) (js:=[none]) (ks:=[0]) (dD (aD (aL (aA 0) aJ) aF) T.cF) bO jh (cV (aD (bR (aA 0)) aF)))))
  (aH (bK (i:=2) (gU aJ))
  (aH (wZ (aAY (aA 2) (iH T.jo (aD (jW 1) aF)))
   (aH (qd (i:=3) (gU (bR (aL (jW 1) (aA 2)))))
   (aH (aBE 1 (lO (N:=["_law_one","_law_other","_law_way"]) (js:=[none,none,some 3]) (ks:=[0,1]) (gJ (aL (aA 0) aJ)) (yu (n:=2) (jJ bO (jJ bO vV))) (nu (SW.st (aCE (nD (aA 0) (aL (aA 2) (yx aJ))) (aAW (aG6 (aA 1) (aA 2)))))) (cW (bR (aA 2)) (cV (aD (bR (aA 1)) aF)))))
   (aN (bK (i:=2) (gU (cW (aA 2) aJ)))))))
  (aN (bD (kJ 1))))))
def zW(T:Txt K mg t):bj P w K mg base (CX1 P w) 2 t.ur t.gq ["thing"] (spF K (aq mg) 1 lD):=
 bN (k:=1) (f:=gq) T.vA zF λ n _ _ _ _ _ _ _=>
  (aN (bD (ji (bA (pU T) T.mW (aD (aA 0) aF)) (oA (aET aJ (aA 0) (aEV T.fj T.uD (λ _ _=>.int _)))))))
def pW(T:Txt K mg t):bj P w K mg base (CX1 P w) 2 t.tE t.fV ["many","thing"] (spF K (aq mg) 2 dw):=
 bN (k:=1) (f:=fV) T.mX xG λ n _ _ _ _ _ _ _=>
  (aN (bD (ji (bA (pU T) T.mW (aD (aA 1) aF)) (oA (aES aJ (aA 1) (aA 0))))))
def mQ(T:Txt K mg t):bj P w K mg base (CX1 P w) 2 t.um t.gm ["web"] (spF K (aq mg) 1 cJ):=
 bN (k:=1) (f:=gm) T.lB zA λ n _ _ _ _ _ _ _=>
  (aH (bK (i:=1) (gU (bA (rZ T) T.pH (aD (aA 0) aF))))
  (aH (gW (i:=2) (qz (aEM (lO (N:=["begins"]) (js:=[none]) (ks:=[0]) (gJ (bA (pY T) T.mY (aD (aA 0) aF))) bO jh (iH T.jo (aD (aA 0) aF))))))
  (aH (gW (i:=3) (aFq (aCF (N:=["place","waits"]) (js:=[none,some 2]) (ks:=[0]) (dD (aD (aL (aA 0) aJ) aF) T.cF) bO (nu (nD (aL (aA 1) (aA 0)) aJ)) (bR (aA 0)))))
  (aH (gW (i:=4) (qz (yw aF)))
  (aH (wZ (lu (jW 3))
   (aH (bK (i:=5) (gU (aEO T.aAc (aD (jW 3) aF))))
   (aH (aBC 3 (bR (aA 5)))
   (aH (kI 4 (bR (aA 5)))
   (aN (fH (gJ (aL (aA 1) (aA 5))) (cB (ks:=[6]))
    (aH (aEH 2 (λ _=>aHu) (aA 6) aJ)
    (aN (jH (nD (aL (jW 2) (aA 6)) aJ)
     (aN (kI 3 (bR (aA 6))))
     dC)))))))))
  (aN (bD (kJ 4))))))))
def xU(T:Txt K mg t):bj P w K mg base (CX1 P w) 2 t.sy t.fQ ["_law_cell","_law_many"] (spF K (aq mg) 2 ig):=
 bN (k:=1) (f:=fQ) T.tL wu λ n _ _ _ _ _ _ _=>
  (aH (gW (i:=2) (qz (yw aF)))
  (aH (fH (dD (aD (aA 1) aF) T.cF) (cB (ks:=[3]))
   (aN (aBD 2 (bA (iy T) T.iV (aD (aA 0) (aD (cW aJ (aA 3)) (aD (cW (aA 3) aJ) aF)))) (bR (aA 3)))))
  (aN (bD (kJ 2)))))
def zV(T:Txt K mg t):bj P w K mg base (CX1 P w) 3 t.uq t.gn ["many","thing"] (spF K (aq mg) 2 jT):=
 bN (k:=2) (f:=gn) T.uz zE λ n _ _ _ _ _ _ _=>
  (aH (jH (SW.st (aAV (lz (lu (oH (aA 1) T.dI T.jZ))) (vN (aAX (iH T.jo (aD (aA 1) aF)) aJ))))
   (aN (bD pR))
   dC)
  (aN (bD (ji (bA (pW T) T.mX (aD (aA 0) (aD (aL (aA 1) aJ) aF))) (ji (bA (pW T) T.mX (aD (aA 0) (aD (aL (aA 1) aJ) aF))) (oA (aI9 (aL (aA 1) aJ) (aL (aA 1) aJ))))))))
def zX(T:Txt K mg t):bj P w K mg base (CX1 P w) 3 t.ut t.gr ["web"] (spF K (aq mg) 1 iB):=
 bN (k:=2) (f:=gr) T.vB zG λ n _ _ _ _ _ _ _=>
  (aH (bK (i:=1) (gU (bA (pY T) T.mY (aD (aA 0) aF))))
  (aH (gW (i:=2) (qz (aEM (jX (oG (aD aJ aF)) (bR (aL (aA 0) aJ))))))
  (aH (fH (gJ (bA (mQ T) T.lB (aD (aA 0) aF))) (cB (ks:=[3]))
   (aN (aEF 2 (aA 3) (cW aJ (aCQ T.xX (aD (lO (N:=["other","found"]) (js:=[none,some 2]) (ks:=[0]) (gJ (aL (aA 1) (aA 3))) bO jh (bR (aL (aA 1) (aA 0)))) aF) aJ)))))
  (aN (bD (kJ 2))))))
def pX(T:Txt K mg t)(B:aIM K base mg t.bx Pt):bj P w K mg base (CX1 P w) 3 t.tG t.bx ["ways"] (spT K (aq mg) 1 eE Pt "best_way.<locals>.<lambda>"):=
 aFX (k:=2) (f:=bx) T.iW B.d B.k B.b B.g xH λ n _ _ _ _ _ _ _ hT hL=>
  (aN (bD (aBH (k:=0) hT hL (zDj rfl) T.aAc (aD (aA 0) aF) (cV aF) ⟨rfl,rfl,rfl,by decide+kernel,by decide+kernel,rfl⟩ (λ _ _ _ _ _ _ _ _ _=>(cV (aD (yx (iH T.jo (aD (aA 0) aF))) (aD (aA 0) aF)))))))
def rW(T:Txt K mg t):bj P w K mg base (CX1 P w) 3 t.lR t.cR ["_law_cell","_law_most"] (spF K (aq mg) 2 dX):=
 bN (k:=2) (f:=cR) T.lX rE λ n _ _ _ _ _ _ _=>
  (aH (bK (i:=2) (gU (bA (iy T) T.iV (aD (aA 0) (aD aJ (aD (cW (aA 1) aJ) aF))))))
  (aH (bK (i:=3) (gU (bA (iy T) T.iV (aD (aA 0) (aD aJ (aD aJ aF))))))
  (aH (qd (i:=4) (gU (aL (oG (aD aJ (aD aJ (aD aJ (aD aJ (aD aJ (aD aJ aF))))))) (aA 3))))
  (aH (bK (i:=5) (gU (bA (xU T) T.tL (aD (aA 0) (aD (aA 2) aF)))))
  (aH (gW (i:=6) (qz (yw aF)))
  (aH (bK (i:=7) (gU aJ))
  (aH (fH (dD (aD (aA 2) aF) T.cF) (cB (ks:=[8]))
   (aN (fH (dD (aD (aA 8) aF) T.cF) (cB (ks:=[9]))
    (aH (bK (i:=7) (gU (cW (aA 7) aJ)))
    (aN (jH (SW.st (aAV (aAY (bA (iy T) T.iV (aD (aA 0) (aD (aA 7) (aD aJ aF)))) (vY 4)) (vN (SW.st (aCE (nD (aA 3) aJ) (aAW (aI5 (aA 8) (cV (aD (cW (jX aJ (aA 9)) aJ) (aD (cW (jX aJ (aA 9)) aJ) aF))))))))))
     (aN (kI 6 (cV (aD (bR (aL (aA 5) (aA 9))) (aD (bR (aL (aA 5) (aA 8))) aF)))))
     dC))))))
  (aN (bD (cV (aD (bR (aA 2)) (aD (nF T.jZ (aD (aBG T.aCs (aD (jW 6) aF)) aF)) aF))))))))))))
def lG(T:Txt K mg t):bj P w K mg base (CX1 P w) 4 t.iT t.aj ["many","thing"] (spF K (aq mg) 2 bJ):=
 bN (k:=3) (f:=aj) T.iY lE λ n _ _ _ _ _ _ _=>
  (aH (jH (lz (lu (oH (aA 1) T.dI T.jZ)))
   (aN (bD pR))
   dC)
  (aH (fH (gJ (aA 1)) (cB (ks:=[2]))
   (aN (jH (lz (lu (bA (zV T) T.uz (aD (aA 0) (aD (aA 2) aF)))))
    (aN (bD pR))
    dC)))
  (aN (bD (bA (vh T) T.qG (aD (aA 1) aF))))))
def uE(T:Txt K mg t):bj P w K mg base (CX1 P w) 5 t.nR t.dJ ["thing"] (spF K (aq mg) 1 gf):=
 bN (k:=4) (f:=dJ) T.nU uA λ n _ _ _ _ _ _ _=>
  (aH (jH (SW.st (aAV (lz (lu (oH (aA 0) T.dI T.jZ))) (vN (aAX (iH T.jo (aD (aA 0) aF)) aJ))))
   (aN (bD pR))
   dC)
  (aN (bD (ji (bA (zW T) T.vA (aD (aL (aA 0) aJ) aF)) (oA (bA (lG T) T.iY (aD (aL (aA 0) aJ) (aD (aL (aA 0) aJ) aF))))))))
def oZ(T:Txt K mg t):bj P w K mg base (CX1 P w) 6 t.jd t.bV ["thing"] (spF K (aq mg) 1 cO):=
 bN (k:=5) (f:=bV) T.je oK λ n _ _ _ _ _ _ _=>
  (aN (jH (lz (lu (bA (uE T) T.nU (aD (aA 0) aF))))
   (aN (w5 rfl T.z8 T.zr T.iC (aD aCO aF)))
   dC))
def rT(T:Txt K mg t):bj P w K mg base (CX1 P w) 7 t.lQ t.cQ ["web"] (spF K (aq mg) 1 fu):=
 bN (k:=6) (f:=cQ) T.lW rD λ n _ _ _ _ _ _ _=>
  (aH (vO (bA (oZ T) T.je (aD (aA 0) aF)))
  (aH (bK (i:=1) (gU (bA (mQ T) T.lB (aD (aA 0) aF))))
  (aN (bD (aIa (nD (iH T.jo (aD (aA 1) aF)) (aL (aA 0) aJ)) (bR (nF T.jZ (aD (aA 1) aF))) aCP)))))
def jM(T:Txt K mg t):bj P w K mg base (CX1 P w) 8 t.jc t.bU ["web"] (spF K (aq mg) 1 bB):=
 bN (k:=7) (f:=bU) T.gQ oJ λ n _ _ _ _ _ _ _=>
  (aN (jH (aI4 (bA (rT T) T.lW (aD (aA 0) aF)) aCP)
   (aN (w5 rfl T.aBW T.aB3 T.jG (aD aCO aF)))
   dC))
def mO(T:Txt K mg t):bj P w K mg base (CX1 P w) 9 t.ul t.fO ["web"] (spF K (aq mg) 1 cI):=
 bN (k:=8) (f:=fO) T.lA yz λ n _ _ _ _ _ _ _=>
  (aH (vO (bA (jM T) T.gQ (aD (aA 0) aF)))
  (aH (bK (i:=1) (gU (bA (zX T) T.vB (aD (aA 0) aF))))
  (aN (bD (lO (N:=["height","web","high"]) (js:=[none,some 0,some 1]) (ks:=[0]) (vU (aD aJ (aD (cW (aCQ T.xX (aD (aA 1) aF) aJ) aJ) aF)) T.cF) bO jh (nF T.jZ (aD (lO (N:=["place","high","height"]) (js:=[none,some 2,some 0]) (ks:=[0]) (dD (aD (aL (aA 1) aJ) aF) T.cF) bO (nu (nD (aL (aA 1) (aA 0)) (aA 2))) (bR (aA 0))) aF)))))))
def rR(T:Txt K mg t)(B:aIM K base mg t.bx Pt):bj P w K mg base (CX1 P w) 9 t.uo t.fP ["web"] (spT K (aq mg) 1 cT Pt "best_way.<locals>.<lambda>"):=
 aAs (k:=8) (f:=fP) T.pG zB λ n _ _ _ _ _ _ _ hT=>
  (aH (vO (bA (jM T) T.gQ (aD (aA 0) aF)))
  (aH (bK (i:=1) (gU (bA (rZ T) T.pH (aD (aA 0) aF))))
  (aH (gW (i:=2) (qz (aEM aEW)))
  (aH (fH (gJ (aEN (bA (mQ T) T.lB (aD (aA 0) aF)))) (cB (ks:=[3]))
   (aN (aEG 2 (aA 3) (cW (cV (aD (bR (aA 3)) aF)) (qe hT (pX T B) T.iW (aD (lO (N:=["other","begun"]) (js:=[none,some 2]) (ks:=[0]) (gJ (aL (aA 1) (aA 3))) bO jh (bR (aGf (aA 1) (aA 0)))) aF))))))
  (aN (bD (qe hT (pX T B) T.iW (aD (aCR T.aCt (jW 2)) aF))))))))
def aH3(T:Txt K mg t)(B:aIM K base mg t.bx Pt):bj P w K mg base (CX1 P w) 10 t.aGN t.qI ["_law_script"] (spT K (aq mg) 1 aDp Pt "best_way.<locals>.<lambda>"):=
 aAs (k:=9) (f:=qI) T.aD6 aGg λ n _ _ _ _ _ _ _ hT=>
  (aH (fH (dD (aD (aER T.xX (aD aJ (aD (aEQ T.aAc (aD (iH T.jo (aD (aA 0) aF)) (aD aJ aF))) aF))) aF) T.cF) (cB (ks:=[1]))
   (aH (bK (i:=2) (gU (bA (rY T) T.lY (aD (aA 0) (aD (aA 1) aF)))))
   (aH (bK (i:=3) (gU (bA (rW T) T.lX (aD (aA 2) (aD aJ aF)))))
   (aH (bK (i:=4) (gU (bA (qR T) T.jz (aD (aA 3) aF))))
   (aH (qd (i:=5) (gU (lO (N:=["_law_place","_law_ways"]) (js:=[none,some 4]) (ks:=[0]) (dD (aD (aL (aA 3) aJ) aF) T.cF) bO jh (aA1 T.xX (aD (lO (N:=["_law_way","_law_place"]) (js:=[none,some 0]) (ks:=[0]) (gJ (aA 1)) bO (nu (nD (aL (aA 0) (yx aJ)) (aA 1))) (iH T.jo (aD (aA 0) aF))) aF)))))
   (aH (bK (i:=6) (gU (aA1 T.xX (aD (cW (vY 5) (oG (aD aJ aF))) aF))))
   (aH (qd (i:=7) (aCF (N:=["_law_height","_law_web","_law_heights"]) (js:=[none,some 3,some 5]) (ks:=[0]) (vU (aD aJ (aD (cW (aA 6) aJ) aF)) T.cF) bO jh (nF T.jZ (aD (lO (N:=["_law_place","_law_heights","_law_height"]) (js:=[none,some 2,some 0]) (ks:=[0]) (dD (aD (aL (aA 1) aJ) aF) T.cF) bO (nu (nD (aL (aA 1) (aA 0)) (aA 2))) (bR (aA 0))) aF))))
   (aH (fH (dD (aD aJ aF) T.cF) (cB (ks:=[8]))
    (aH (gW (i:=9) (qz (aEM (bA (mO T) T.lA (aD (aA 3) aF)))))
    (aH (jH (SW.st (aAV (lz (lu (oH (jW 9) T.dI T.aCt))) (vN (aAX (jW 9) (vY 7)))))
     (aN (bD pR))
     dC)
    (aN (kI 9 (cV aF))))))
   (aN (jH (aAX (qe hT (rR T B) T.pG (aD (aA 3) aF)) (aEP T.aAc (aD (cW (lO (N:=["_law_way","_law_most"]) (js:=[none,some 6]) (ks:=[0]) (gJ (aA 4)) bO (nu (nD (iH T.jo (aD (aA 0) aF)) (aA 1))) (bR (aA 0))) (jX (oG (aD (cV aF) aF)) (aEU T.aGL (aD (aA3 (aL (aA 3) aJ) aJ) aF)))) aF)))
    (aN (bD pR))
    dC))))))))))
  (aN (bD (ji (aA3 (bA (mO T) T.lA (aD (cV (aD aJ (aD (cV aF) aF))) aF)) (oG aF)) (ji (aA3 (qe hT (rR T B) T.pG (aD (cV (aD aJ (aD (cV aF) aF))) aF)) (cV aF)) (oA (aA3 (bA (mO T) T.lA (aD (cV (aD aJ (aD (cV aF) aF))) aF)) (oG (aD (cV (aD aJ (aD aJ aF))) aF)))))))))
end
def aGY{K:zAA}{h:Heap}{mg:Str->Option Value}{tk_MOST_PLACES:Tok}{q_FewError:Addr}{q_NoOneWay:Addr}{q_NoOrder:Addr}(X:K.In h)(G:h.Ns zA4 mg)
  (h0:∃f d,Enr K "is_whole" mH f d)
  (h1:∃f d,Enr K "is_many" oU f d)
  (h2:∃f d,Enr K "is_place" mJ f d)
  (h3:∃f d,Enr K "is_pair" oR f d)
  (h4:∃f d,Enr K "is_rising" jk f d)
  (h5:∃f d,Enr K "are_rising_pairs" dj f d)
  (h6:∃f d,Enr K "is_one_way" jY f d)
  (h7:∃f d,Enr K "check_one_way" gM f d)
  (h8:∃f d,Enr K "all_led" oW f d)
  (h9:∃f d,Enr K "all_come" mL f d)
  (h10:∃f d,Enr K "ordered" oN f d)
  (h11:∃f d,Enr K "least_order" jB f d)
  (h12:∃f d,Enr K "check_ordered" gK f d)
  (h13:∃f d,Enr K "heights" oV f d)
  (h14:∃f d,Enr K "shelves" oM f d)
  (h15:∃f d,Enr K "best_way" mK f d)
  (h16:∃f d,Enr K "longest" oO f d)
  (h17:∃f d,Enr K "_law_cell_at" jD f d)
  (h18:∃f d,Enr K "_law_draw" mG f d)
  (h19:∃f d,Enr K "_law_turn" mF f d)
  (h20:∃f d,Enr K "_law_ordered" jC f d)
  (h21:∃f d,Enr K "_law_all_ways" iI f d)
  (h22:∃f d,Enr K "law" aCT f d)
  (fj:zAs K zA4 "MOST_PLACES"=some (some (.int 60 tk_MOST_PLACES)))
  (y_FewError:zAs K zA4 "FewError"=some (some (.ref q_FewError)))
  (jU:m8 K q_FewError)
  (y_NoOneWay:zAs K zA4 "NoOneWay"=some (some (.ref q_NoOneWay)))
  (iC:m8 K q_NoOneWay)
  (y_NoOrder:zAs K zA4 "NoOrder"=some (some (.ref q_NoOrder)))
  (jG:m8 K q_NoOrder)
  (z_bool:zAs K zA4 "bool"=some none)
  (z_int:zAs K zA4 "int"=some none)
  (z_isinstance:zAs K zA4 "isinstance"=some none)
  (z_len:zAs K zA4 "len"=some none)
  (z_list:zAs K zA4 "list"=some none)
  (z_max:zAs K zA4 "max"=some none)
  (z_min:zAs K zA4 "min"=some none)
  (z_range:zAs K zA4 "range"=some none)
  (z_sorted:zAs K zA4 "sorted"=some none)
  (z_tuple:zAs K zA4 "tuple"=some none):
  ∃t,Txt K mg t:=by
 obtain⟨f0,d0,F0,a0⟩:=dnr X G h0 ["thing"];obtain⟨f1,d1,F1,a1⟩:=dnr X G h1 ["thing"];obtain⟨f2,d2,F2,a2⟩:=dnr X G h2 ["many","thing"];obtain⟨f3,d3,F3,a3⟩:=dnr X G h3 ["many","thing"];obtain⟨f4,d4,F4,a4⟩:=dnr X G h4 ["things"];obtain⟨f5,d5,F5,a5⟩:=dnr X G h5 ["many","thing"];obtain⟨f6,d6,F6,a6⟩:=dnr X G h6 ["thing"];obtain⟨f7,d7,F7,a7⟩:=dnr X G h7 ["thing"];obtain⟨f8,d8,F8,a8⟩:=dnr X G h8 ["web"];obtain⟨f9,d9,F9,a9⟩:=dnr X G h9 ["web"];obtain⟨f10,d10,F10,a10⟩:=dnr X G h10 ["web"];obtain⟨f11,d11,F11,a11⟩:=dnr X G h11 ["web"];obtain⟨f12,d12,F12,a12⟩:=dnr X G h12 ["web"];obtain⟨f13,d13,F13,a13⟩:=dnr X G h13 ["web"];obtain⟨f14,d14,F14,a14⟩:=dnr X G h14 ["web"];obtain⟨f15,d15,F15,a15⟩:=dnr X G h15 ["ways"];obtain⟨f16,d16,F16,a16⟩:=dnr X G h16 ["web"];obtain⟨f17,d17,F17,a17⟩:=dnr X G h17 ["_law_script","_law_k"];obtain⟨f18,d18,F18,a18⟩:=dnr X G h18 ["_law_cell","_law_k","_law_bound"];obtain⟨f19,d19,F19,a19⟩:=dnr X G h19 ["_law_cell","_law_many"];obtain⟨f20,d20,F20,a20⟩:=dnr X G h20 ["_law_cell","_law_most"];obtain⟨f21,d21,F21,a21⟩:=dnr X G h21 ["_law_web"];obtain⟨f22,d22,F22,a22⟩:=dnr X G h22 ["_law_script"];exact⟨⟨f0,_,f1,_,f2,_,f3,_,f4,_,f5,_,f6,_,f7,_,f8,_,f9,_,f10,_,f11,_,f12,_,f13,_,f14,_,f15,_,f16,_,f17,_,f18,_,f19,_,f20,_,f21,_,f22,_,_,q_FewError,q_NoOneWay,q_NoOrder⟩,⟨F0,F1,F2,F3,F4,F5,F6,F7,F8,F9,F10,F11,F12,F13,F14,F15,F16,F17,F18,F19,F20,F21,F22,zBn X G fj,⟨_,rfl⟩,zBn X G y_FewError,(by unfold aq;rw[zBn X G y_FewError]),jU,zBn X G y_NoOneWay,(by unfold aq;rw[zBn X G y_NoOneWay]),iC,zBn X G y_NoOrder,(by unfold aq;rw[zBn X G y_NoOrder]),jG,zBB X G z_bool,zBB X G z_int,zBB X G z_isinstance,zBB X G z_len,zBB X G z_list,zBB X G z_max,zBB X G z_min,zBB X G z_range,zBB X G z_sorted,zBB X G z_tuple⟩⟩
def aIJ{l:zER}{w:World}{K:zAA}{h:Heap}{mg:Str->Option Value}{fa Pt:Addr}(X:K.In h)(G:h.Ns zA4 mg)(hfa:mg "law"=some (.ref fa))(hB:zq K "best_way" Pt=true)(ht:∃t,Txt K mg t):
  ∃(fd:zAa) (c:Addr),K.lookup Pt=none/\zB4 K c Pt=true/\(∀(s:zAC) (v:Value),zEa s fd ⟨[v],[]⟩ [("_law_script",v)])/\∀base:Heap,K.In base->base.BuiltinsAt mg Pt->zA4≠Pt->bj l.prog w K mg base (CX1 l.prog w) 10 fa fd ["_law_script"] (rB K Pt "best_way.<locals>.<lambda>"):=by
 obtain⟨t,T⟩:=ht;have e:=hfa.symm.trans T.aD6.m;cases e;obtain⟨oc,od,kV,doc,pm,an,cdv,ct,osl,e1,lk,hcd⟩:=T.iW.F.ex;obtain⟨h1,c,h2,h3⟩:=aB1 X G T.iW.m hB lk rfl;refine⟨t.qI,c,h1,h3,λ s v=>?_,λ base k1 k2 k3=>(aH3 T ⟨k1,k2,k3,c,h2,h3⟩).imp (aDD aDC)⟩;obtain⟨oc,od,kV,doc,pm,an,cdv,ct,osl,e,lk,hcd⟩:=T.aD6.F.ex;rw[e];exact .of_eq rfl
def walk{l:zER}{q:zAO}{loose:List Str}{XP:(Str->Option Value)->Heap->Prop}{YP:World->Heap->Prop}{d:DefRec}{K:Params->zAA}{Pt:Addr}(hn:l.most=some 63)(hdf:d.params.defaults=[])
  (hY:∀(w:World) (h:Heap),YP w h->(K w.params).In h/\h.get? Pt=some (zDf #[]))
  (F:∀(w:World) (mg:Str->Option Value) (fa:Addr) (h:Heap),(K w.params).In h->h.Ns zA4 mg->mg d.name=some (.ref fa)->
   ∃(fd:zAa) (c:Addr),(K w.params).lookup Pt=none/\zB4 (K w.params) c Pt=true/\(∀(s:zAC) (u:Value),zEa s fd ⟨[u],[]⟩ [("_law_script",u)])/\∀base:Heap,(K w.params).In base->base.BuiltinsAt mg Pt->zA4≠Pt->bj l.prog w (K w.params) mg base (CX1 l.prog w) 10 fa fd ["_law_script"] (rB (K w.params) Pt "best_way.<locals>.<lambda>")):
  zGF q loose XP YP l.row.toRowW d [] (λ f vs=>zFh f vs):=
 aBv hn hdf ⟨rfl,by decide,by decide⟩ hY F
end VL.My
open PySem PySem.W PyProof.Rows
set_option maxRecDepth 100000 in
set_option maxHeartbeats 0 in
theorem PySem.Challenge.cw_fewways_k76_shelves_and_the_longest_way_holds : PySem.Challenge.rw_fewways_k76_shelves_and_the_longest_way.Holds := by
 w_on; o_law; k_head; (case hw=>w_witness2)
 k_fill
 refine VL.My.walk (l:=PySem.Challenge.rw_fewways_k76_shelves_and_the_longest_way) rfl rfl (fun w h Y=>⟨PySem.W.km_in_of Y,PySem.W.km_tabs_of Y _ zAP⟩) ?F
 case F =>
  intro w mg fa h KX G hmg
  refine VL.My.aIJ KX G hmg ?B ?T
  (case B=>kernel_rfl)
  case T =>
   refine' VL.My.aGY KX G (VL.enr ?a0 ?l0 ?c0 ?k0) (VL.enr ?a1 ?l1 ?c1 ?k1) (VL.enr ?a2 ?l2 ?c2 ?k2) (VL.enr ?a3 ?l3 ?c3 ?k3) (VL.enr ?a4 ?l4 ?c4 ?k4) (VL.enr ?a5 ?l5 ?c5 ?k5) (VL.enr ?a6 ?l6 ?c6 ?k6) (VL.enr ?a7 ?l7 ?c7 ?k7) (VL.enr ?a8 ?l8 ?c8 ?k8) (VL.enr ?a9 ?l9 ?c9 ?k9) (VL.enr ?a10 ?l10 ?c10 ?k10) (VL.enr ?a11 ?l11 ?c11 ?k11) (VL.enr ?a12 ?l12 ?c12 ?k12) (VL.enr ?a13 ?l13 ?c13 ?k13) (VL.enr ?a14 ?l14 ?c14 ?k14) (VL.enr ?a15 ?l15 ?c15 ?k15) (VL.enr ?a16 ?l16 ?c16 ?k16) (VL.enr ?a17 ?l17 ?c17 ?k17) (VL.enr ?a18 ?l18 ?c18 ?k18) (VL.enr ?a19 ?l19 ?c19 ?k19) (VL.enr ?a20 ?l20 ?c20 ?k20) (VL.enr ?a21 ?l21 ?c21 ?k21) (VL.enr ?a22 ?l22 ?c22 ?k22) ?fj ?y_FewError ?jU ?y_NoOneWay ?iC ?y_NoOrder ?jG ?z_bool ?z_int ?z_isinstance ?z_len ?z_list ?z_max ?z_min ?z_range ?z_sorted ?z_tuple
   (case y_FewError=>k_is); (case jU=>unfold L2.m8; k_exc)
   (case y_NoOneWay=>k_is); (case iC=>unfold L2.m8; k_exc)
   (case y_NoOrder=>k_is); (case jG=>unfold L2.m8; k_exc)
   any_goals k_is
